import PyProof.Rows.All
import Wide.All
import OpenK.AllK
import Wide.FinOn
import Lean
import PyProof.EqAt
import PyProof.EqKinds
import PyProof.TupleCall
import KE.KSortTup
import KE.KSortAsk
import PySem.Challenge.RW_ownboxes_k28_turns_of_the_open_game
set_option compiler.extract_closed false
theorem xV5 (_h:True:=by exact fun _ _ _ q=>q):True:=trivial
theorem fU (_h:True:=by first | exact .inl rfl | exact .inr rfl | assumption):True:=trivial
theorem zK (_h:True:=by decide):True:=trivial
theorem xV6 (_h:True:=by first | exact nobehind _ (by decide) (by decide) | rfl):True:=trivial
theorem wC (_h:True:=by intro _;rfl):True:=trivial
theorem zY (_h:True:=by rfl):True:=trivial
theorem bV (_h:True:=by with_unfolding_all rfl):True:=trivial
theorem qZ (_h:True:=by first | exact Or.inl rfl | exact Or.inr (Or.inl rfl) | exact Or.inr (Or.inr rfl)):True:=trivial
theorem yE3 (_h:True:=by exact fun _ _=>rfl):True:=trivial
theorem zK2 (_h:True:=by first | exact nomark _ | rfl):True:=trivial
theorem autoK12 (_h:True:=by first | exact Or.inl rfl | exact Or.inr rfl):True:=trivial
theorem autoK13 (_h:True:=by first | exact .inl rfl | exact .inr rfl):True:=trivial
theorem autoK14 (_h:True:=by exact PassesOwn.never):True:=trivial
local macro_rules | `(tactic| bv_omega)=>`(tactic| first | lia | omega)
set_option Elab.async false
set_option linter.all false
set_option maxRecDepth 100000
set_option maxHeartbeats 4000000
noncomputable section
abbrev KFr:=PySem.W.Frag
namespace L2
open PySem PySem.Spec PyProof.Rows
abbrev Key:=Sum Int Str
def keyIs:Key->Value->Bool
 | .inl k,v=>Value.isInt k v
 | .inr x,v=>Value.isStrOf x v
def keyH (w:World):Key->Int
 | .inl k=>hashInt k
 | .inr x=>hashStr w x
theorem yE:∀{k:Key}{v:Value},keyIs k v=true->(∃i t,k=Sum.inl i/\v=Value.int i t)\/(∃x t,k=Sum.inr x/\v=Value.str x t)
 | .inl i,v,h=>by
  obtain⟨t,e⟩:=Value.isInt_shape (k:=i) (v:=v) h
  exact .inl ⟨i,t,rfl,e⟩
 | .inr x,v,h=>by
  obtain⟨t,e⟩:=Value.isStrOf_shape (x:=x) (v:=v) h
  exact .inr ⟨x,t,rfl,e⟩
theorem yE6 (a b:Int):decide ((Sum.inl a:Key)=Sum.inl b)=(a == b):=by
 by_cases e:a=b
 ·subst e;simp
 ·have h:¬(Sum.inl a:Key)=Sum.inl b:=fun q=>e (Sum.inl.inj q)
  rw[decide_eq_false h]
  exact (beq_eq_false_iff_ne.mpr e).symm
theorem xZ8 (a b:Str):decide ((Sum.inr a:Key)=Sum.inr b)=decide (a=b):=by
 by_cases e:a=b
 ·subst e;simp
 ·have h:¬(Sum.inr a:Key)=Sum.inr b:=fun q=>e (Sum.inr.inj q)
  rw[decide_eq_false h,decide_eq_false e]
theorem yC6 (a:Int) (b:Str):decide ((Sum.inl a:Key)=Sum.inr b)=false:=decide_eq_false (fun q=>nomatch q)
theorem xW8 (a:Str) (b:Int):decide ((Sum.inr a:Key)=Sum.inl b)=false:=decide_eq_false (fun q=>nomatch q)
def mixKind (prog:Program) (w:World):PySem.KeyKind prog w Key where
 is:=keyIs
 hash:=keyH w
 inj:=fun v a b ha hb=>by
  rcases yE ha with ⟨i,t,rfl,rfl⟩ | ⟨x,t,rfl,rfl⟩
  ·rcases yE hb with ⟨j,u,rfl,e⟩ | ⟨y,u,rfl,e⟩
   ·injection e with e1 _;rw[e1]
   ·exact nomatch e
  ·rcases yE hb with ⟨j,u,rfl,e⟩ | ⟨y,u,rfl,e⟩
   ·exact nomatch e
   ·injection e with e1 _;rw[e1]
 byValue:=fun k v h=>by
  rcases yE h with ⟨i,t,rfl,rfl⟩ | ⟨x,t,rfl,rfl⟩ <;> rfl
 pyHash:=fun hv h=>by
  rcases yE hv with ⟨i,t,rfl,rfl⟩ | ⟨x,t,rfl,rfl⟩
  ·exact wpAny_pyHash_int h
  ·exact wpAny_pyHash_str h
 eqBool:=fun hu hv h=>by
  rcases yE hu with ⟨i,t,rfl,rfl⟩ | ⟨x,t,rfl,rfl⟩
  ·rcases yE hv with ⟨j,u,rfl,rfl⟩ | ⟨y,u,rfl,rfl⟩
   ·rw[yE6] at h;exact wpAny_eqBool_int h
   ·rw[yC6] at h;exact SeqAt.EqAt.int_str i t y u _ _ _ _ h
  ·rcases yE hv with ⟨j,u,rfl,rfl⟩ | ⟨y,u,rfl,rfl⟩
   ·rw[xW8] at h;exact SeqAt.EqAt.str_int x t j u _ _ _ _ h
   ·rw[xZ8] at h;exact wpAny_eqBool_str h
 «strs»:=fun k x t v h=>by
  rcases yE h with ⟨i,u,rfl,e⟩ | ⟨y,u,rfl,e⟩
  ·exact nomatch e
  ·injection e with e1 _
   subst e1
   cases v <;> rfl
inductive V where
 | non | bl (b:Bool) | int (i:Int) | str (x:Str) | byt (b:Array UInt8) | flt (b:UInt64) | ref (a:Addr) | ty (n:String)
 deriving DecidableEq
def RelV:V->Value->Prop
 | .non,u=>u=Value.none
 | .bl b,u=>u=Value.bool b
 | .int i,u=>∃t,u=Value.int i t
 | .str x,u=>∃t,u=Value.str x t
 | .byt b,u=>∃t,u=Value.bytes b t
 | .flt b,u=>∃t,u=Value.float b t
 | .ref a,u=>u=Value.ref a
 | .ty n,u=>u=Value.type n
abbrev Vals:List V->List Value->Prop:=Paired RelV
theorem Vals.length {xs:List V}{us:List Value}(r:Vals xs us):xs.length=us.length:=Paired.length r
theorem Vals.get:∀{xs:List V}{us:List Value}{i:Nat}{x:V},Vals xs us->xs[i]?=some x->∃u,us[i]?=some u/\RelV x u
 | _,_,_,_,.nil,e=>by simp at e
 | _,_,0,_,.cons r _,e=>by simp at e;subst e;exact⟨_,rfl,r⟩
 | _,_,i+1,x,.cons _ t,e=>by
  obtain⟨u,h1,h2⟩:=Vals.get (i:=i) (x:=x) t (by simpa using e)
  exact⟨u,by simpa using h1,h2⟩
theorem Vals.set {x:V}{u:Value}(r:RelV x u):∀{xs:List V}{us:List Value}(i:Nat),Vals xs us->Vals (xs.set i x) (us.set i u)
 | _,_,_,.nil=>.nil
 | _,_,0,.cons _ t=>.cons r t
 | _,_,i+1,.cons q t=>.cons q (Vals.set r i t)
theorem Vals.append:∀{xs ys:List V}{us ws:List Value},Vals xs us->Vals ys ws->Vals (xs++ys) (us++ws)
 | _,_,_,_,.nil,s=>s
 | _,_,_,_,.cons r t,s=>.cons r (Vals.append t s)
theorem Vals.take:∀{xs:List V}{us:List Value}(n:Nat),Vals xs us->Vals (xs.take n) (us.take n)
 | _,_,0,_=>.nil
 | _,_,_+1,.nil=>.nil
 | _,_,n+1,.cons r t=>.cons r (Vals.take n t)
theorem Vals.drop:∀{xs:List V}{us:List Value}(n:Nat),Vals xs us->Vals (xs.drop n) (us.drop n)
 | _,_,0,r=>r
 | _,_,_+1,.nil=>.nil
 | _,_,n+1,.cons _ t=>Vals.drop n t
theorem Vals.xP8:∀{xs:List V}{us:List Value}{i:Nat},Vals xs us->xs[i]?=none->us[i]?=none:=fun {xs us i} r e=>by
 have h1:=r.length
 have h2:xs.length<=i:=List.getElem?_eq_none_iff.mp e
 exact List.getElem?_eq_none_iff.mpr (by bv_omega)
def RelO:Option V->Option Value->Prop
 | some v,some u=>RelV v u
 | none,none=>True
 | _,_=>False
def KV {κ:Type}:List (κ×V)->List (κ×Value)->Prop:=Paired fun (p:κ×V) (q:κ×Value)=>p.1=q.1/\RelV p.2 q.2
def kV:Key->V
 | .inl i=>.int i
 | .inr x=>.str x
inductive HO where
 | lst (xs:List V)
 | tup (xs:List V)
 | dK (kvs:List (Key×V)) | dT (kvs:List (List Key×V))
 | set (S:Int->Bool) (n:Nat)
 | ins (C dx:Addr) (fs:List (Str×V))
 | own (x:Addr)
 | xd (fs:List (Str×V))
 | met (f x:Addr)
 | rng (lo hi:Int)
 | frz (o:Obj) (u:HO)
 | tbl (q:Str)
 | ext (φ:Heap->Prop)
abbrev Hp:=Addr->Option HO
def upd (H:Hp) (a:Addr) (o:HO):Hp:=fun b=>if b=a then some o else H b
theorem zT {H:Hp}{a:Addr}{o:HO}:upd H a o a=some o:=by unfold upd;rw[if_pos rfl]
theorem zX {H:Hp}{a b:Addr}{o:HO}(h:b≠a):upd H a o b=H b:=by unfold upd;rw[if_neg h]
theorem zN9 {H:Hp}{a:Addr}{o u:HO}:upd (upd H a o) a u=upd H a u:=by
 funext b;unfold upd;split <;> rfl
theorem zE {H:Hp}{a b:Addr}{o:HO}(h:H a=some o) (h':H b=none):a≠b:=by
 intro e;subst e;rw[h] at h';cases h'
def TupAt (h:Heap) (a:Addr) (its:Array Value):Prop:=∃o,h.get? a=some o/\o.cls=.type "tuple"/\(∃n,o.data=.seq its n)/\o.dict=none
theorem TupAt.tup {h:Heap}{a:Addr}{its:Array Value}(x:TupAt h a its):IsTup h a its:=by
 obtain⟨o,e,c,d,_⟩:=x
 exact⟨o,e,c,d⟩
theorem TupAt.new (h:Heap) (its:Array Value):TupAt (h.push { cls:=.type "tuple",data:=.seq its }) h.objs.size its:=⟨_,Heap.get?_push_size _ rfl,rfl,⟨_,rfl⟩,rfl⟩
section
variable (P:Program) (w:World)
def ObjOk (H:Hp) (h:Heap) (a:Addr):HO->Prop
 | .lst xs=>xs.length<=sizeLine/\∃(its:List Value) (n:Nat),Vals xs its/\h.get? a=some { cls:=.type "list",data:=.seq its.toArray n }
 | .tup xs=>xs.length<=sizeLine/\∃its:List Value,Vals xs its/\TupAt h a its.toArray
 | .dK kvs=>kvs.length<=sizeLine/\(a == sysModules)=false/\∃vs,KV kvs vs/\h.DictOf (mixKind P w) a vs
 | .dT kvs=>kvs.length<=sizeLine/\(a == sysModules)=false/\∃xs:List (List Key×Addr×Value),
   Paired (fun (p:List Key×V) (q:List Key×Addr×Value)=>p.1=q.1/\H q.2.1=some (.tup (p.1.map kV))/\RelV p.2 q.2.2) kvs xs /\
   ∃o es ep,h.get? a=some o/\o.ExactDict/\o.data=.dict es ep/\es.toList=xs.map (entryOfKey (tupleKind (mixKind P w)))/\(xs.map (·.1)).Nodup
 | .set S n=>h.SetOf (intKind P w) a S n
 | .ins C dx fs=>H dx=some (.own a)/\fs.length<=1000/\dx≠a/\h.get? a=some (PySem.W.instObj C dx) /\
   ∃mA,h.Ns1 dx mA/\(∀f,RelO (fs.lookup f) (mA f))/\PySem.Within mA (fs.map (·.1))
 | .own _=>∃o,h.get? a=some o
 | .xd fs=>∃mA,h.Ns1 a mA/\∀f,RelO (fs.lookup f) (mA f)
 | .rng lo hi=>∃t u v,h.get? a=some { cls:=.type "range",data:=.fields #[.int lo t,.int hi u,.int 1 v] }
 | .frz o u=>h.get? a=some o/\ObjOk H h a u
 | .tbl q=>∃ps,h.get? a=some { cls:=.none,data:=.fields ps }/\TriplesOk ps.toList/\∀pos cv,codeAmong pos ps.toList=some cv->∃(c':Addr) (oc:Obj) (u:HO) (vs:Array Value) (t:Tok),cv=.ref c'/\H c'=some (.frz oc u)/\oc.data=.fields vs/\vs[1]?=some (.str q t)
 | .met f x=>h.get? a=some (PySem.W.methodObj (.ref f) (.ref x))
 | .ext φ=>φ h/\(∃o,h.get? a=some o)/\∀h1 h2:Heap,φ h1->(∀o,h1.get? a=some o->h2.get? a=some o)->φ h2
def HOk (H:Hp) (h:Heap):Prop:=∀a o,H a=some o->ObjOk P w H h a o
end
section
variable {P:Program}{w:World}{H H':Hp}{h h':Heap}{a:Addr}{o:HO}
theorem ObjOk.lt (x:ObjOk P w H h a o):a<h.objs.size:=by
 cases o with
 | lst xs=>obtain⟨_,_,_,_,e⟩:=x;exact Heap.lt_size e
 | tup xs=>obtain⟨_,_,_,p⟩:=x;exact p.tup.lt
 | dK kvs=>obtain⟨_,_,_,_,o,_,_,e,_⟩:=x;exact Heap.lt_size e
 | dT kvs=>obtain⟨_,_,_,_,o,_,_,e,_⟩:=x;exact Heap.lt_size e
 | set S n=>obtain⟨o,_,_,_,e,_⟩:=x;exact Heap.lt_size e
 | ins C dx fs=>obtain⟨_,_,_,e,_⟩:=x;exact Heap.lt_size e
 | own y=>obtain⟨_,e⟩:=x;exact Heap.lt_size e
 | xd fs=>obtain⟨_,⟨_,_,_,e,_⟩,_⟩:=x;exact Heap.lt_size e
 | rng lo hi=>obtain⟨_,_,_,e⟩:=x;exact Heap.lt_size e
 | frz ob u=>obtain⟨e,_⟩:=x;exact Heap.lt_size e
 | tbl q=>obtain⟨_,e,_⟩:=x;exact Heap.lt_size e
 | met f y=>exact Heap.lt_size (show h.get? a=some _ from x)
 | ext φ=>obtain⟨_,⟨_,e⟩,_⟩:=x;exact Heap.lt_size e
theorem Paired.mapP {α β:Type}{F G:α->β->Prop}:∀{l₁:List α}{l₂:List β},Paired F l₁ l₂->(∀a b,F a b->G a b)->Paired G l₁ l₂
 | _,_,.nil,_=>.nil
 | _,_,.cons r t,f=>.cons (f _ _ r) (Paired.mapP t f)
theorem ObjOk.stay (x:ObjOk P w H h a o) (k:∀b u,(b=a\/H b=some (.own a))->h.get? b=some u->h'.get? b=some u)
  (ho:∀b,H b=some (.own a)->H' b=some (.own a)) (ht:∀b xs,H b=some (.tup xs)->H' b=some (.tup xs)) (hf:autoParam (∀b o u,H b=some (.frz o u)->H' b=some (.frz o u)) xV5._auto_1):ObjOk P w H' h' a o:=by
 induction o with
 | lst xs=>obtain⟨z,its,n,r,e⟩:=x;exact⟨z,its,n,r,k _ _ (.inl rfl) e⟩
 | tup xs=>obtain⟨z,its,r,ob,e,c⟩:=x;exact⟨z,its,r,ob,k _ _ (.inl rfl) e,c⟩
 | dK kvs=>obtain⟨z,y,vs,r,ob,es,ep,e,c⟩:=x;exact⟨z,y,vs,r,ob,es,ep,k _ _ (.inl rfl) e,c⟩
 | dT kvs =>
  obtain⟨z,y,xs,r,ob,es,ep,e,c⟩:=x
  exact⟨z,y,xs,Paired.mapP r fun p q z=>⟨z.1,ht _ _ z.2.1,z.2.2⟩,ob,es,ep,k _ _ (.inl rfl) e,c⟩
 | set S n=>obtain⟨ob,es,ep,t,e,c⟩:=x;exact⟨ob,es,ep,t,k _ _ (.inl rfl) e,c⟩
 | ins C dx fs =>
  obtain⟨d,z,ne,e,mA,⟨od,es,ep,e2,c⟩,r⟩:=x
  exact⟨ho _ d,z,ne,k _ _ (.inl rfl) e,mA,⟨od,es,ep,k _ _ (.inr d) e2,c⟩,r⟩
 | own y=>obtain⟨ob,e⟩:=x;exact⟨ob,k _ _ (.inl rfl) e⟩
 | xd fs=>obtain⟨mA,⟨od,es,ep,e,c⟩,r⟩:=x;exact⟨mA,⟨od,es,ep,k _ _ (.inl rfl) e,c⟩,r⟩
 | rng lo hi=>obtain⟨t,u,v,e⟩:=x;exact⟨t,u,v,k _ _ (.inl rfl) e⟩
 | frz ob u ih=>obtain⟨e,q⟩:=x;exact⟨k _ _ (.inl rfl) e,ih q⟩
 | tbl q =>
  obtain⟨ps,e,t,c⟩:=x
  refine⟨ps,k a _ (.inl rfl) e,t,fun pos cv z => ?_⟩
  obtain⟨c',oc,u,vs,t',e1,e2,e3⟩:=c pos cv z
  exact⟨c',oc,u,vs,t',e1,hf _ _ _ e2,e3⟩
 | met f y =>
  have e:h.get? a=some (PySem.W.methodObj (.ref f) (.ref y)):=x
  show h'.get? a=some (PySem.W.methodObj (.ref f) (.ref y))
  exact k a _ (.inl rfl) e
 | ext φ=>obtain⟨p,⟨o,e⟩,st⟩:=x;exact⟨st _ _ p fun o q=>k _ _ (.inl rfl) q,⟨o,k _ _ (.inl rfl) e⟩,st⟩
theorem HOk.lt (x:HOk P w H h) (e:H a=some o):a<h.objs.size:=(x a o e).lt
theorem HOk.fresh (x:HOk P w H h) (e:h.objs.size<=a):H a=none:=by
 cases q:H a with
 | none=>rfl
 | some u=>exact absurd (Nat.lt_of_lt_of_le (x.lt q) e) (Nat.lt_irrefl _)
theorem HOk.kept (x:HOk P w H h) (k:∀b u,h.get? b=some u->h'.get? b=some u):HOk P w H h':=fun a o e =>
 (x a o e).stay (fun b u _ q=>k b u q) (fun _ q=>q) fun _ _ q=>q
theorem HOk.laid (x:HOk P w H h) (k:∀b u,h.get? b=some u->h'.get? b=some u) (hp:h.objs.size<=a) (new:ObjOk P w (upd H a o) h' a o):HOk P w (upd H a o) h':=fun b u e=>by
 have hn:=x.fresh hp
 by_cases hb:b=a
 ·subst hb;rw[zT] at e;cases e;exact new
 ·rw[zX hb] at e
  exact (x b u e).stay (fun c v _ q=>k c v q) (fun c q=>by rw[zX (zE q hn)];exact q) (fun c xs q=>by rw[zX (zE q hn)];exact q) fun c _ _ q=>by rw[zX (zE q hn)];exact q
end
def Rd (H:Hp) (a:Addr) (u:HO):Prop:=H a=some u\/∃o,H a=some (.frz o u)
theorem Rd.ok {P:Program}{w:World}{H:Hp}{h:Heap}{a:Addr}{u:HO}(r:Rd H a u) (x:HOk P w H h):ObjOk P w H h a u:=by
 rcases r with r | ⟨o,r⟩
 ·exact x a u r
 ·obtain⟨_,q⟩:=x a _ r
  exact q
def Mut:Option HO->Prop
 | some (.lst _)=>True
 | some (.dK _)=>True
 | some (.dT _)=>True
 | some (.set _ _)=>True
 | some (.ins _ _ _)=>True
 | some (.ext _)=>True
 | _=>False
section
variable {P:Program}{w:World}{H:Hp}{h h':Heap}{x e:Addr}{o':HO}
theorem HOk.write (ok:HOk P w H h) (mu:Mut (H x)) (he:e=x\/H e=some (.own x)) (k:∀b u,b≠e->h.get? b=some u->h'.get? b=some u) (heo:∃u,h'.get? e=some u)
  (new:ObjOk P w (upd H x o') h' x o'):HOk P w (upd H x o') h':=fun b u q=>by
 have nown:∀c y,H c=some (.own y)->c≠x:=fun c y r z=>by subst z;rw[r] at mu;exact mu
 have ntup:∀c xs,H c=some (.tup xs)->c≠x:=fun c xs r z=>by subst z;rw[r] at mu;exact mu
 have nfrz:∀c o xs,H c=some (.frz o xs)->c≠x:=fun c o xs r z=>by subst z;rw[r] at mu;exact mu
 by_cases hb:b=x
 ·subst hb;rw[zT] at q;cases q;exact new
 ·rw[zX hb] at q
  by_cases hbe:b=e
  ·have q':H b=some (.own x):=by
    rcases he with z | z
    ·exact absurd (hbe.trans z) hb
    ·rw[hbe];exact z
   rw[q] at q';cases q'
   obtain⟨v,hv⟩:=heo
   exact⟨v,by rw[hbe];exact hv⟩
  ·refine (ok b u q).stay (fun c v hc r=>k c v ?_ r) (fun c r=>by rw[zX (nown c b r)];exact r) (fun c xs r=>by rw[zX (ntup c xs r)];exact r) fun c o xs r=>by rw[zX (nfrz c o xs r)];exact r
   rcases hc with rfl | hc
   ·exact hbe
   ·rintro rfl
    rcases he with z | z
    ·exact nown c b hc z
    ·rw[hc] at z;cases z;exact hb rfl
end
structure Un (fs ex:List Addr) (H H':Hp) (h h':Heap):Prop where
 keep:∀b o,h.get? b=some o->H b=none->b∉fs->b∉ex->h'.get? b=some o
 slot:∀b o,h.get? b=some o->H b=none->b∈fs->b∉ex->∃sl,h'.get? b=some { o with slots:=sl }
 free:∀b o,h.get? b=some o->H b=none->b∉ex->H' b=none
 there:∀b o,h.get? b=some o->b∉ex->∃o',h'.get? b=some o'
 tups:∀b xs,H b=some (.tup xs)->H' b=some (.tup xs)
 frzs:∀b o u,H b=some (.frz o u)->H' b=some (.frz o u)
 tbls:∀b q,H b=some (.tbl q)->H' b=some (.tbl q)
section
variable {fs fs' ex ex':List Addr}{H H1 H2:Hp}{h h1 h2 h':Heap}{a x e:Addr}{o:HO}
theorem Un.any (u:Un fs ex H H1 h h1){b:Addr}{ob:Obj}(q:h.get? b=some ob) (n:H b=none) (hx:b∉ex):∃sl,h1.get? b=some { ob with slots:=sl }:=by
 by_cases hb:b∈fs
 ·exact u.slot b ob q n hb hx
 ·exact⟨ob.slots,u.keep b ob q n hb hx⟩
theorem Un.kept (k:∀b u,h.get? b=some u->h'.get? b=some u):Un fs ex H H h h' :=
 ⟨fun b ob q _ _ _=>k b ob q,fun b ob q _ _ _=>⟨ob.slots,k b ob q⟩,fun _ _ _ n _=>n,fun b ob q _=>⟨ob,k b ob q⟩,fun _ _ q=>q,fun _ _ _ q=>q,fun _ _ q=>q⟩
theorem Un.refl:Un fs ex H H h h:=Un.kept fun _ _ q=>q
theorem Un.laid (k:∀b u,h.get? b=some u->h'.get? b=some u) (hp:h.objs.size<=a) (hn:H a=none):Un fs ex H (upd H a o) h h' where
 keep:=fun b u q _ _ _=>k b u q
 slot:=fun b u q _ _ _=>⟨u.slots,k b u q⟩
 free:=fun b u q n _=>by rw[zX (Nat.ne_of_lt (Nat.lt_of_lt_of_le (Heap.lt_size q) hp))];exact n
 there:=fun b u q _=>⟨u,k b u q⟩
 tups:=fun b xs q=>by rw[zX (zE q hn)];exact q
 frzs:=fun b u xs q=>by rw[zX (zE q hn)];exact q
 tbls:=fun b ps q=>by rw[zX (zE q hn)];exact q
theorem Un.write (mu:Mut (H x)) (he:e=x\/H e=some (.own x)) (k:∀b u,b≠e->h.get? b=some u->h'.get? b=some u) (heo:∃u,h'.get? e=some u):Un fs ex H (upd H x o) h h':=by
 have hx:∀b,H b=none->b≠x:=fun b n z=>by subst z;rw[n] at mu;exact mu
 have hb:∀b,H b=none->b≠e:=fun b n z=>by
  subst z
  rcases he with r | r
  ·exact hx b n r
  ·rw[n] at r;cases r
 have hm:∀b u,H b=some u->¬Mut (some u)->b≠x:=fun b u q nm z=>by subst z;rw[q] at mu;exact nm mu
 refine⟨fun b u q n _ _=>k b u (hb b n) q,fun b u q n _ _=>⟨u.slots,k b u (hb b n) q⟩,fun b u q n _=>by rw[zX (hx b n)];exact n,fun b u q _ => ?_,
  fun b xs q=>by rw[zX (hm b _ q fun z=>z)];exact q,fun b u xs q=>by rw[zX (hm b _ q fun z=>z)];exact q,fun b ps q=>by rw[zX (hm b _ q fun z=>z)];exact q⟩
 by_cases hbe:b=e
 ·subst hbe;exact heo
 ·exact⟨u,k b u hbe q⟩
end
def trk (h:Heap) (H:Hp):List Addr:=(List.range h.objs.size).filter fun a=>(H a).isSome
def hidT (h:Heap) (H:Hp):Heap:=PySem.W.hideAll h (trk h H)
theorem zA1 (h:Heap) (H:Hp):(hidT h H).objs.size=h.objs.size:=PySem.W.hideAll_size _ _
theorem yS1 {h:Heap}{H:Hp}{b:Addr}{o:Obj}(e:h.get? b=some o) (n:H b=none):(hidT h H).get? b=some o :=
 PySem.W.hideAll_get _ e fun hm=>by
  have q:(H b).isSome=true:=(List.mem_filter.mp hm).2
  rw[n] at q;simp at q
theorem yE1 {h:Heap}{H:Hp}{b:Addr}{o:Obj}(e:(hidT h H).get? b=some o):h.get? b=some o/\H b=none:=by
 have e':h.get? b=some o:=PySem.W.of_hideAll (trk h H) e
 refine⟨e',?_⟩
 cases q:H b with
 | none=>rfl
 | some x =>
  have hm:b∈trk h H:=List.mem_filter.mpr ⟨List.mem_range.mpr (Heap.lt_size e'),by simp[q]⟩
  have z:(hidT h H).get? b=none:=PySem.W.hideAll_none (trk h H) hm
  rw[z] at e;cases e
def allNews (g h:Heap) (L:Addr):List (Addr×Obj):=(List.range h.objs.size).filterMap fun a=>if a=L\/(g.get? a).isSome=true then none else (h.get? a).map fun o=>(a,o)
theorem zQ5 {g h:Heap}{L a:Addr}{o:Obj}(h1:a≠L) (h2:g.get? a=none) (h3:h.get? a=some o):(a,o)∈allNews g h L :=
 List.mem_filterMap.mpr ⟨a,List.mem_range.mpr (Heap.lt_size h3),by simp[h1,h2,h3]⟩
theorem bR {g h:Heap}{L:Addr}{p:Addr×Obj}(hp:p∈allNews g h L):p.1≠L/\g.get? p.1=none/\h.get? p.1=some p.2:=by
 obtain⟨b,_,e⟩:=List.mem_filterMap.mp hp
 split at e
 ·cases e
 ·rename_i hn
  cases q:h.get? b with
  | none=>rw[q] at e;simp at e
  | some u =>
   rw[q] at e
   simp only[Option.map_some,Option.some.injEq] at e
   subst e
   refine⟨fun z=>hn (.inl z),?_,q⟩
   show g.get? b=none
   cases r:g.get? b with
   | none=>rfl
   | some v=>exact (hn (.inr (by simp[r]))).elim
def rest (g h:Heap) (L d:Addr):List (Addr×Obj):=(allNews g h L).filter fun p=>decide (p.1≠d)
theorem fK {g h:Heap}{L d:Addr}:∀p∈rest g h L d,p.1≠d:=fun p hp=>of_decide_eq_true (List.mem_filter.mp hp).2
theorem yV6 {g h:Heap}{L d a:Addr}{o:Obj}(h1:a≠L) (h2:g.get? a=none) (h3:h.get? a=some o) (h4:a≠d):(a,o)∈rest g h L d :=
 List.mem_filter.mpr ⟨zQ5 h1 h2 h3,decide_eq_true h4⟩
theorem yW3 {g h:Heap}{L:Addr}:News g L h (allNews g h L):=fun p hp=>let ⟨a,b,c⟩:=bR hp; ⟨c,a,b⟩
theorem bL {g h:Heap}{L d:Addr}{o:Obj}(h1:d≠L) (h2:g.get? d=none) (h3:h.get? d=some o):News g L h ((d,o)::rest g h L d):=fun p hp=>by
 rcases List.mem_cons.mp hp with rfl | hp
 ·exact⟨h3,h1,h2⟩
 ·exact yW3 p (List.mem_filter.mp hp).1
theorem jV {g h h':Heap}{L d:Addr}{m:Str->Option Value}(k:∀b o,g.get? b=some o->h.get? b=some o) (F:Fr g L h' m) (N:News g L h' (rest g h L d)) :
  ∀b o,b≠L->b≠d->h.get? b=some o->h'.get? b=some o:=fun b o h1 h2 e=>by
 cases q:g.get? b with
 | some u =>
  have:=k b u q
  rw[e] at this;cases this
  exact F.keep b _ q
 | none=>exact (N (b,o) (yV6 h1 q e h2)).1
def tabNames:List Str:=["turns","unwritten","played","_law_turns"]
def lamQ (x:Str):Str:=x ++ ".<locals>." ++ "<lambda>"
def TabsIn (K:KFr) (H:Hp):Prop:=∀x∈tabNames,∀c P,PySem.W.tabIn K x=some (c,P)->H P=some (.tbl (lamQ x))
structure Mod (K:KFr) (mg:Str->Option Value) (base:Heap):Prop where
 tabs:∀x∈tabNames,∀c P,PySem.W.tabIn K x=some (c,P)->PySem.W.CodeHd base c P
 bmain:∃bm ob,mg "__builtins__" = some (.ref bm)/\bm≠builtinsNs/\base.get? bm=some ob/\ob.cls=.type "module"/\ob.dict=some builtinsNs/\ob.data=.plain
 kin:K.In base
 glob:base.Ns mainGlobals mg
 blt:∃mb,base.Ns builtinsNs mb/\∀x:Str,x ≠ "__name__"->mb x=bootBuiltins x
 nolimit:base.NoLimit
structure Cx where
 prog:Program
 w:World
 K:KFr
 mg:Str->Option Value
 base:Heap
 A:Around
 N:List Str
 s₀:Shared
 H₀:Hp
 env:Env
 outer:List Env
 stack:List Env
 ex:List Addr
 fn:Str->Bool
 calm:Bool
 pn:List (Addr×Obj)
 xe:Value->Shared->Prop
def frs (l:List Env):List Addr:=l.filterMap (·.frame)
abbrev Cx.fs (X:Cx):List Addr:=frs X.outer
def Vis (sc:Scope) (x:Str):Prop:=sc.names.lookup x=some .local \/ sc.names.lookup x=some .cell\/sc.names.lookup x=some .free
def Loc (sc:Scope) (x:Str):Prop:=sc.names.lookup x=some .local \/ sc.names.lookup x=some .cell
def Look (env:Env) (h:Heap) (m:Str->Option Value) (x:Str) (u:Value):Prop :=
 (env.kindOf x=some .local/\m x=some u)\/((env.kindOf x=some .cell\/env.kindOf x=some .free)/\∃c,env.cells.lookup x=some c/\h.IsCell c (some u))
structure Cx.Ok (X:Cx):Prop where
 mod:Mod X.K X.mg X.base
 kind:X.env.scope.kind=.function
 glob:X.env.globals=mainGlobals
 blt:X.env.builtins=builtinsNs
 above:X.s₀.heap.objs.size<=X.env.locals
 inj:∀x y c,X.env.cells.lookup x=some c->X.env.cells.lookup y=some c->x=y
 has:∀x,(X.env.kindOf x=some .cell\/X.env.kindOf x=some .free)->∃c,X.env.cells.lookup x=some c
 cab:∀x c,X.fn x=true->X.env.cells.lookup x=some c->X.s₀.heap.objs.size<=c
 hd:X.calm=true->X.A.handled=none
 frames:X.A.frames=some X.stack
 stk:X.stack=X.outer\/(X.stack=X.env::X.outer/\X.env.frame=some X.env.locals)
 exf:∀b∈X.ex,b≠X.env.locals/\∀x c,X.env.cells.lookup x=some c->c≠b
 bs:∀b o,X.base.get? b=some o->X.s₀.heap.get? b=some o/\X.H₀ b=none
 bsz:X.base.objs.size<=X.s₀.heap.objs.size
 noex:∀b o,X.base.get? b=some o->b∉X.ex
 exfs:∀b∈X.ex,b∉X.fs
 funs:X.s₀.heap.FunFrames X.base X.outer
 frf:∀b∈X.fs,X.H₀ b=none
 tb:TabsIn X.K X.H₀
structure Inv (X:Cx) (pins:List (Addr×Obj)) (σ:List (Option V)) (H:Hp) (s:Shared):Prop where
 ok:X.Ok
 os:s.os=X.s₀.os
 bare:AllBare s.gens
 base:Un X.fs X.ex X.H₀ H X.s₀.heap s.heap
 loc:∃m,s.heap.Ns X.env.locals m/\∀(i:Nat) (x:Str) (v:V),X.N[i]?=some x->σ[i]?=some (some v)->Vis X.env.scope x->∃u,RelV v u/\Look X.env s.heap m x u
 cell:∀x c,X.env.cells.lookup x=some c->∃v,s.heap.IsCell c v
 free:H X.env.locals=none
 freeC:∀x c,X.env.cells.lookup x=some c->H c=none
 pin:∀p∈X.pn++pins,s.heap.get? p.1=some p.2/\H p.1=none/\p.1≠X.env.locals/\p.1∉X.fs/\∀v,p.2.data ≠ .cell v
 hok:HOk X.prog X.w H s.heap
 len:σ.length=X.N.length
section
variable {X:Cx}{pins:List (Addr×Obj)}{σ:List (Option V)}{H H':Hp}{s:Shared}{h':Heap}
theorem Cx.Ok.nofr (ok:X.Ok){b:Addr}{o:Obj}(e:X.base.get? b=some o):b∉X.fs:=fun hb=>by
 have:=(ok.funs.mem hb).1
 rw[e] at this;cases this
theorem Inv.tb (I:Inv X pins σ H s):TabsIn X.K H:=fun x hx c P e=>I.base.tbls P _ (I.ok.tb x hx c P e)
theorem Inv.bs (I:Inv X pins σ H s):∀b o,X.base.get? b=some o->s.heap.get? b=some o/\H b=none:=fun b o e =>
 ⟨I.base.keep b o (I.ok.bs b o e).1 (I.ok.bs b o e).2 (I.ok.nofr e) (I.ok.noex b o e),I.base.free b o (I.ok.bs b o e).1 (I.ok.bs b o e).2 (I.ok.noex b o e)⟩
theorem Inv.bk (I:Inv X pins σ H s):∀b o,X.base.get? b=some o->s.heap.get? b=some o:=fun b o e=>(I.bs b o e).1
theorem Inv.mod (I:Inv X pins σ H s):Mod X.K X.mg X.base:=I.ok.mod
theorem Inv.kIn (I:Inv X pins σ H s):X.K.In s.heap:=I.ok.mod.kin.keeps I.bk
theorem Inv.lt (I:Inv X pins σ H s):X.env.locals<s.heap.objs.size:=let ⟨_,hn,_⟩:=I.loc;hn.lt
theorem Inv.sz (I:Inv X pins σ H s):X.s₀.heap.objs.size<=s.heap.objs.size:=Nat.le_trans I.ok.above (Nat.le_of_lt I.lt)
theorem Inv.nofs (I:Inv X pins σ H s){a:Addr}(h:s.heap.objs.size<=a):a∉X.fs:=fun hb=>by
 obtain⟨_,o,ho,_⟩:=I.ok.funs.mem hb
 exact absurd (Nat.lt_of_lt_of_le (Heap.lt_size ho) (Nat.le_trans I.sz h)) (Nat.lt_irrefl _)
theorem Inv.cne (I:Inv X pins σ H s):∀x c,X.env.cells.lookup x=some c->c≠X.env.locals:=fun x c e z=>by
 obtain⟨v,o,ho,hd⟩:=I.cell x c e
 obtain⟨m,⟨o',es,ep,ho',hd',_⟩,_⟩:=I.loc
 rw[z,ho'] at ho;cases ho;rw[hd'] at hd;cases hd
theorem Inv.funs (I:Inv X pins σ H s):s.heap.FunFrames X.base X.outer:=by
 have all:∀(l:List Env),(∀b∈frs l,b∈X.fs)->X.s₀.heap.FunFrames X.base l->s.heap.FunFrames X.base l:=by
  intro l
  induction l with
  | nil=>intro _ _;trivial
  | cons env r ih =>
   intro hs hl
   obtain⟨hk,⟨L,o,hf,hn,ho,hd⟩,hr⟩:=hl
   have hL:L∈X.fs:=hs L (by unfold frs;rw[List.filterMap_cons,hf];exact List.mem_cons_self)
   obtain⟨sl,e⟩:=I.base.slot L o ho (I.ok.frf L hL) hL fun z=>I.ok.exfs L z hL
   exact⟨hk,⟨L,_,hf,hn,e,hd⟩,ih (fun b hb=>hs b (by unfold frs;rw[List.filterMap_cons,hf];exact List.mem_cons_of_mem _ hb)) hr⟩
 exact all X.outer (fun _ hb=>hb) I.ok.funs
theorem Inv.stack (I:Inv X pins σ H s):s.heap.FunFrames X.base X.stack:=by
 rcases I.ok.stk with e | ⟨e,hf⟩
 ·rw[e];exact I.funs
 ·rw[e]
  obtain⟨m,hn,_⟩:=I.loc
  refine .cons (by rw[I.ok.kind];decide) hf hn ?_ I.funs
  exact Heap.get?_none_of_le (Nat.le_trans I.ok.bsz I.ok.above)
theorem Inv.stkSub (I:Inv X pins σ H s):∀b∈frs X.stack,b∈X.env.locals::X.fs:=fun b hb=>by
 rcases I.ok.stk with e | ⟨e,hf⟩
 ·rw[e] at hb;exact List.mem_cons_of_mem _ hb
 ·rw[e] at hb
  unfold frs at hb
  rw[List.filterMap_cons,hf] at hb
  exact hb
theorem Inv.stkFree (I:Inv X pins σ H s):∀b∈frs X.stack,H b=none:=fun b hb=>by
 rcases List.mem_cons.mp (I.stkSub b hb) with e | hb
 ·rw[e];exact I.free
 ·obtain⟨_,o,ho,_⟩:=I.ok.funs.mem hb
  exact I.base.free b o ho (I.ok.frf b hb) fun z=>I.ok.exfs b z hb
theorem Inv.step {g':Array GenState}{t':Nat}{d':Drawn}{ch:List Addr}(I:Inv X pins σ H s)
  (hch:∀b∈ch,(b∈X.ex\/X.s₀.heap.objs.size<=b)/\b≠X.env.locals/\(∀x c,X.env.cells.lookup x=some c->c≠b)/\∀p∈X.pn++pins,p.1≠b)
  (keep:∀b o,b≠X.env.locals->b∉X.fs->b∉ch->s.heap.get? b=some o->H b=none->h'.get? b=some o)
  (slot:∀b o,b≠X.env.locals->b∈X.fs->b∉ch->s.heap.get? b=some o->H b=none->∃sl,h'.get? b=some { o with slots:=sl }) (free:∀b o,b∉ch->s.heap.get? b=some o->H b=none->H' b=none)
  (there:∀b o,b∉ch->s.heap.get? b=some o->∃o',h'.get? b=some o')
  (tups:∀b xs,H b=some (.tup xs)->H' b=some (.tup xs)) (frzs:∀b o u,H b=some (.frz o u)->H' b=some (.frz o u)) (tbls:∀b q,H b=some (.tbl q)->H' b=some (.tbl q))
  (ns:∀m,s.heap.Ns X.env.locals m->h'.Ns X.env.locals m) (hok:HOk X.prog X.w H' h') (hg:AllBare g') :
  Inv X pins σ H' { s with heap:=h',gens:=g',drawn:=d',toks:=t' }:=by
 have neL:∀b o,X.s₀.heap.get? b=some o->b≠X.env.locals:=fun b o e=>Nat.ne_of_lt (Nat.lt_of_lt_of_le (Heap.lt_size e) I.ok.above)
 have neC:∀b o,X.s₀.heap.get? b=some o->b∉X.ex->b∉ch:=fun b o e hx hb=>by
  rcases (hch b hb).1 with z | z
  ·exact hx z
  ·exact absurd (Nat.lt_of_lt_of_le (Heap.lt_size e) z) (Nat.lt_irrefl _)
 have cellK:∀x c,X.env.cells.lookup x=some c->∀v,s.heap.IsCell c v->h'.IsCell c v:=fun x c e v ⟨o,ho,hd⟩=>by
  have nch:c∉ch:=fun z=>(hch c z).2.2.1 x c e rfl
  by_cases hc:c∈X.fs
  ·obtain⟨sl,q⟩:=slot c o (I.cne x c e) hc nch ho (I.freeC x c e)
   exact⟨_,q,hd⟩
  ·exact⟨o,keep c o (I.cne x c e) hc nch ho (I.freeC x c e),hd⟩
 refine⟨I.ok,I.os,hg,⟨fun b o e n hb hx => ?_,fun b o e n hb hx => ?_,fun b o e n hx => ?_,fun b o e hx => ?_,fun b xs e=>tups b xs (I.base.tups b xs e),fun b o xs e=>frzs b o xs (I.base.frzs b o xs e),fun b ps e=>tbls b ps (I.base.tbls b ps e)⟩,?_,fun x c e => ?_,?_,fun x c e => ?_,fun p hp => ?_,hok,I.len⟩
 ·exact keep b o (neL b o e) hb (neC b o e hx) (I.base.keep b o e n hb hx) (I.base.free b o e n hx)
 ·obtain⟨sl,e1⟩:=I.base.slot b o e n hb hx
  obtain⟨sl',e2⟩:=slot b _ (neL b o e) hb (neC b o e hx) e1 (I.base.free b o e n hx)
  exact⟨sl',e2⟩
 ·obtain⟨o',e1⟩:=I.base.there b o e hx
  exact free b o' (neC b o e hx) e1 (I.base.free b o e n hx)
 ·obtain⟨o',e1⟩:=I.base.there b o e hx
  exact there b o' (neC b o e hx) e1
 ·obtain⟨m,hn,hl⟩:=I.loc
  refine⟨m,ns m hn,fun i x v e1 e2 e3 => ?_⟩
  obtain⟨u,r,l⟩:=hl i x v e1 e2 e3
  refine⟨u,r,?_⟩
  rcases l with l | ⟨k,c,e,z⟩
  ·exact .inl l
  ·exact .inr ⟨k,c,e,cellK x c e _ z⟩
 ·obtain⟨v,z⟩:=I.cell x c e
  exact⟨v,cellK x c e v z⟩
 ·obtain⟨m,⟨o,_,_,ho,_⟩,_⟩:=I.loc
  exact free _ o (fun z=>(hch _ z).2.1 rfl) ho I.free
 ·obtain⟨v,o,ho,hd⟩:=I.cell x c e
  exact free c o (fun z=>(hch c z).2.2.1 x c e rfl) ho (I.freeC x c e)
 ·obtain⟨e,n,ne,nf,d⟩:=I.pin p hp
  have nch:p.1∉ch:=fun z=>(hch p.1 z).2.2.2 p hp rfl
  exact⟨keep p.1 p.2 ne nf nch e n,free p.1 p.2 nch e n,ne,nf,d⟩
theorem Inv.un {t':Nat}(I:Inv X pins σ H s) (u:Un X.fs [] H H' s.heap h') (hok:HOk X.prog X.w H' h'):Inv X pins σ H' { s with heap:=h',toks:=t' }:=by
 obtain⟨m,⟨o,es,ep,ho,r⟩,_⟩:=id I.loc
 obtain⟨sl,hL⟩:=u.any ho I.free (by simp)
 exact I.step (g':=s.gens) (d':=s.drawn) (ch:=[]) (fun _ z=>nomatch z) (fun b o _ hb _ e n=>u.keep b o e n hb (by simp)) (fun b o _ hb _ e n=>u.slot b o e n hb (by simp)) (fun b o _ e n=>u.free b o e n (by simp)) (fun b o _ e=>u.there b o e (by simp)) u.tups u.frzs u.tbls (fun m' hm=>by
  obtain⟨o',es',ep',ho',r'⟩:=hm
  rw[ho] at ho';cases ho'
  exact⟨_,es',ep',hL,r'⟩) hok I.bare
theorem Inv.call {g':Array GenState}{t':Nat}{d':Drawn}{ch:List Addr}(I:Inv X pins σ H s) (u:Un (frs X.stack) ch H H' s.heap h') (hok:HOk X.prog X.w H' h') (hg:AllBare g')
  (hch:∀b∈ch,(b∈X.ex\/X.s₀.heap.objs.size<=b)/\b≠X.env.locals/\(∀x c,X.env.cells.lookup x=some c->c≠b)/\∀p∈X.pn++pins,p.1≠b) :
  Inv X pins σ H' { s with heap:=h',gens:=g',drawn:=d',toks:=t' }:=by
 obtain⟨m,⟨o,es,ep,ho,r⟩,_⟩:=id I.loc
 obtain⟨sl,hL⟩:=u.any ho I.free fun z=>(hch _ z).2.1 rfl
 exact I.step (ch:=ch) hch (fun b o hL hb hc e n=>u.keep b o e n (fun z=>(List.mem_cons.mp (I.stkSub b z)).elim hL hb) hc) (fun b o _ _ hc e n=>u.any e n hc) (fun b o hc e n=>u.free b o e n hc) (fun b o hc e=>u.there b o e hc) u.tups u.frzs u.tbls (fun m' hm=>by
  obtain⟨o',es',ep',ho',r'⟩:=hm
  rw[ho] at ho';cases ho'
  exact⟨_,es',ep',hL,r'⟩) hok hg
theorem Inv.turned {t':Nat}{it:Addr}(I:Inv X pins σ H s) (k:∀b o,b≠it->s.heap.get? b=some o->h'.get? b=some o) (hn:H it=none) (hL:it≠X.env.locals)
  (h1:it∈X.ex\/X.s₀.heap.objs.size<=it) (h2:∀x c,X.env.cells.lookup x=some c->c≠it) (h3:∀p∈X.pn++pins,p.1≠it):Inv X pins σ H { s with heap:=h',toks:=t' }:=by
 have nit:∀b u,H b=some u->b≠it:=fun b u e z=>by rw[z,hn] at e;cases e
 refine I.step (g':=s.gens) (d':=s.drawn) (ch:=[it]) (fun b hb => ?_) (fun b o _ _ hc e _=>k b o (fun z=>hc (by simp[z])) e) (fun b o _ _ hc e _=>⟨o.slots,k b o (fun z=>hc (by simp[z])) e⟩) (fun _ _ _ _ n=>n)
  (fun b o hc e=>⟨o,k b o (fun z=>hc (by simp[z])) e⟩) (fun _ _ e=>e) (fun _ _ _ e=>e) (fun _ _ e=>e) (fun m hm => ?_) (fun b u e => ?_) I.bare
 ·have e:b=it:=by simpa using hb
  subst e
  exact⟨h1,hL,h2,h3⟩
 ·obtain⟨o,es,ep,ho,r⟩:=hm
  exact⟨o,es,ep,k _ o (Ne.symm hL) ho,r⟩
 ·refine (I.hok b u e).stay (fun c v hc q=>k c v ?_ q) (fun _ q=>q) fun _ _ q=>q
  rcases hc with z | z
  ·rw[z];exact nit b u e
  ·exact nit c _ z
theorem Inv.tok (I:Inv X pins σ H s) (t:Nat):Inv X pins σ H { s with toks:=t }:=I.un (h':=s.heap) (t':=t) Un.refl I.hok
theorem Inv.kept {t':Nat}(I:Inv X pins σ H s) (k:∀b u,s.heap.get? b=some u->h'.get? b=some u):Inv X pins σ H { s with heap:=h',toks:=t' }:=I.un (Un.kept k) (I.hok.kept k)
theorem Inv.laid {a:Addr}{o:HO}{t':Nat}(I:Inv X pins σ H s) (k:∀b u,s.heap.get? b=some u->h'.get? b=some u) (hp:s.heap.objs.size<=a) (new:ObjOk X.prog X.w (upd H a o) h' a o) :
  Inv X pins σ (upd H a o) { s with heap:=h',toks:=t' }:=I.un (Un.laid k hp (I.hok.fresh hp)) (I.hok.laid k hp new)
theorem Inv.write {x e:Addr}{o:HO}{t':Nat}(I:Inv X pins σ H s) (mu:Mut (H x)) (he:e=x\/H e=some (.own x)) (k:∀b u,b≠e->s.heap.get? b=some u->h'.get? b=some u) (heo:∃u,h'.get? e=some u)
  (new:ObjOk X.prog X.w (upd H x o) h' x o):Inv X pins σ (upd H x o) { s with heap:=h',toks:=t' }:=I.un (Un.write mu he k heo) (I.hok.write mu he k heo new)
theorem Inv.xT {pins':List (Addr×Obj)}(I:Inv X pins σ H s) (h:∀p∈pins',s.heap.get? p.1=some p.2/\H p.1=none/\p.1≠X.env.locals/\p.1∉X.fs/\∀v,p.2.data ≠ .cell v):Inv X pins' σ H s :=
 ⟨I.ok,I.os,I.bare,I.base,I.loc,I.cell,I.free,I.freeC,fun p hp=>(List.mem_append.mp hp).elim (fun z=>I.pin p (List.mem_append_left _ z)) (h p),I.hok,I.len⟩
theorem dX {N:List Str}(hN:N.Nodup){i j:Nat}{x:Str}(a:N[i]?=some x) (b:N[j]?=some x):i=j:=by
 obtain⟨h1,e1⟩:=List.getElem?_eq_some_iff.mp a
 obtain⟨h2,e2⟩:=List.getElem?_eq_some_iff.mp b
 exact (List.getElem_inj hN).mp (e1.trans e2.symm)
theorem zD4 {M:Model}{A:Around}{E:Value->Shared->Prop}{i:Nat}{x:Str}{v:V}{u:Value}{Q:Unit->Shared->Prop}(I:Inv X pins σ H s) (hN:X.N.Nodup) (hi:X.N[i]?=some x) (hx:Loc X.env.scope x) (r:RelV v u)
  (h:∀s',Inv X pins (σ.set i (some v)) H s'->(∃a,Heap.SameBut a s.heap s'.heap/\(a=X.env.locals\/X.env.cells.lookup x=some a))->Q () s') (hf:autoParam (X.fn x=true\/X.env.scope.names.lookup x=some .local) fU._auto_1):wpAny M A (storeName X.env x u) Q E s:=by
 obtain⟨m,hn,hl⟩:=id I.loc
 have hcls:(X.env.scope.kind == .class || (X.env.scope.kind == .module&&X.env.locals != X.env.globals))=false:=by rw[I.ok.kind];rfl
 have hiσ:i<σ.length:=by rw[I.len];exact (List.getElem?_eq_some_iff.mp hi).1
 have cne:=I.cne
 have tracked:∀{a:Addr}{h':Heap},(∃o,s.heap.get? a=some o/\H a=none)->Heap.SameBut a s.heap h'->HOk X.prog X.w H h':=fun {a h'} ha hs b ob e=>by
  obtain⟨_,_,hfree⟩:=ha
  refine (I.hok b ob e).stay (fun c w' hc q=>(hs.2 c ?_).trans q) (fun _ q=>q) fun _ _ q=>q
  rintro rfl
  rcases hc with rfl | hc
  ·rw[hfree] at e;cases e
  ·rw[hfree] at hc;cases hc
 rcases hx with hk | hk
 ·refine wpAny_storeName_local hk hn (fun h' hn' hs => ?_) hcls
  obtain⟨oL,_,_,hoL,_⟩:=id hn
  refine h _ ⟨I.ok,I.os,I.bare,⟨fun b o e n hb hx => ?_,fun b o e n hb hx => ?_,I.base.free,fun b o e hx => ?_,I.base.tups,I.base.frzs,I.base.tbls⟩,⟨_,hn',fun j y v' e1 e2 e3 => ?_⟩,fun y c e => ?_,I.free,I.freeC,fun p hp => ?_,tracked ⟨oL,hoL,I.free⟩ hs,by simpa using I.len⟩ ⟨_,hs,.inl rfl⟩
  ·exact (hs.2 b (Nat.ne_of_lt (Nat.lt_of_lt_of_le (Heap.lt_size e) I.ok.above))).trans (I.base.keep b o e n hb hx)
  ·obtain⟨sl,e1⟩:=I.base.slot b o e n hb hx
   exact⟨sl,(hs.2 b (Nat.ne_of_lt (Nat.lt_of_lt_of_le (Heap.lt_size e) I.ok.above))).trans e1⟩
  ·obtain⟨o',e1⟩:=I.base.there b o e hx
   exact⟨o',(hs.2 b (Nat.ne_of_lt (Nat.lt_of_lt_of_le (Heap.lt_size e) I.ok.above))).trans e1⟩
  ·by_cases hj:j=i
   ·subst hj
    rw[hi] at e1;cases e1
    rw[List.getElem?_set_self hiσ] at e2
    cases e2
    exact⟨u,r,.inl ⟨hk,by simp⟩⟩
   ·rw[List.getElem?_set_ne (Ne.symm hj)] at e2
    obtain⟨u',r',q⟩:=hl j y v' e1 e2 e3
    refine⟨u',r',?_⟩
    rcases q with ⟨k,e⟩ | ⟨k,c,e,z⟩
    ·refine .inl ⟨k,?_⟩
     have:y≠x:=fun e=>hj (dX hN e1 (e▸hi))
     simp[this,e]
    ·exact .inr ⟨k,c,e,z.sameBut hs (cne y c e)⟩
  ·obtain⟨w',z⟩:=I.cell y c e
   exact⟨w',z.sameBut hs (cne y c e)⟩
  ·obtain⟨e,n,ne,nf,d⟩:=I.pin p hp
   exact⟨(hs.2 p.1 ne).trans e,n,ne,nf,d⟩
 ·have hfn:X.fn x=true:=by
   rcases hf with z | z
   ·exact z
   ·rw[z] at hk;cases hk
  obtain⟨c,hc⟩:=I.ok.has x (.inl hk)
  obtain⟨w',z⟩:=I.cell x c hc
  refine wpAny_storeName_cell I.ok.kind hk hc z (fun h' hc' hs => ?_)
  obtain⟨oc,hoc,hocd⟩:=id z
  refine h { s with heap:=h' } ⟨I.ok,I.os,I.bare,⟨fun b o e n hb hx => ?_,fun b o e n hb hx => ?_,I.base.free,fun b o e hx => ?_,I.base.tups,I.base.frzs,I.base.tbls⟩,⟨m,hn.sameBut hs (Ne.symm (cne x c hc)),fun j y v' e1 e2 e3 => ?_⟩,fun y c' e => ?_,I.free,I.freeC,fun p hp => ?_,tracked ⟨oc,hoc,I.freeC x c hc⟩ hs,by simpa using I.len⟩ ⟨c,hs,.inr hc⟩
  ·exact (hs.2 b (Nat.ne_of_lt (Nat.lt_of_lt_of_le (Heap.lt_size e) (I.ok.cab x c hfn hc)))).trans (I.base.keep b o e n hb hx)
  ·obtain⟨sl,e1⟩:=I.base.slot b o e n hb hx
   exact⟨sl,(hs.2 b (Nat.ne_of_lt (Nat.lt_of_lt_of_le (Heap.lt_size e) (I.ok.cab x c hfn hc)))).trans e1⟩
  ·obtain⟨o',e1⟩:=I.base.there b o e hx
   exact⟨o',(hs.2 b (Nat.ne_of_lt (Nat.lt_of_lt_of_le (Heap.lt_size e) (I.ok.cab x c hfn hc)))).trans e1⟩
  ·by_cases hj:j=i
   ·subst hj
    rw[hi] at e1;cases e1
    rw[List.getElem?_set_self hiσ] at e2
    cases e2
    exact⟨u,r,.inr ⟨.inl hk,c,hc,hc'⟩⟩
   ·rw[List.getElem?_set_ne (Ne.symm hj)] at e2
    obtain⟨u',r',q⟩:=hl j y v' e1 e2 e3
    refine⟨u',r',?_⟩
    rcases q with q | ⟨k,c',e,z'⟩
    ·exact .inl q
    ·refine .inr ⟨k,c',e,z'.sameBut hs ?_⟩
     rintro rfl
     exact hj (dX hN e1 (I.ok.inj _ _ _ e hc▸hi))
  ·by_cases hcc:c'=c
   ·subst hcc;exact⟨_,hc'⟩
   ·obtain⟨w2,z2⟩:=I.cell y c' e
    exact⟨w2,z2.sameBut hs hcc⟩
  ·obtain⟨e,n,ne,nf,d⟩:=I.pin p hp
   refine⟨(hs.2 p.1 ?_).trans e,n,ne,nf,d⟩
   intro q
   rw[q,hoc] at e
   have q':oc=p.2:=Option.some.inj e
   exact d w' (by rw[<-q'];exact hocd)
theorem qE {M:Model}{A:Around}{E:Value->Shared->Prop}{i:Nat}{x:Str}{v:V}{u:Value}{Q:Unit->Shared->Prop}(I:Inv X pins σ H s) (hN:X.N.Nodup) (hi:X.N[i]?=some x) (hx:Loc X.env.scope x) (r:RelV v u)
  (h:∀s',Inv X pins (σ.set i (some v)) H s'->Q () s') (hf:autoParam (X.fn x=true\/X.env.scope.names.lookup x=some .local) fU._auto_1):wpAny M A (storeName X.env x u) Q E s :=
 zD4 I hN hi hx r (fun s' I' _=>h s' I') hf
theorem Inv.call' {s':Shared}{ch:List Addr}(I:Inv X pins σ H s) (ho:s'.os=s.os) (u:Un (frs X.stack) ch H H' s.heap s'.heap) (hok:HOk X.prog X.w H' s'.heap) (hg:AllBare s'.gens)
  (hch:∀b∈ch,(b∈X.ex\/X.s₀.heap.objs.size<=b)/\b≠X.env.locals/\(∀x c,X.env.cells.lookup x=some c->c≠b)/\∀p∈X.pn++pins,p.1≠b):Inv X pins σ H' s':=by
 obtain⟨h',g',d',t',o'⟩:=s'
 have e:o'=s.os:=ho
 subst e
 exact I.call (g':=g') (t':=t') (d':=d') u hok hg hch
end
abbrev XK:=Value->Option Addr->Hp->Prop
abbrev St:=List (Option V)
abbrev VK:=V->Hp->Prop
abbrev TE:=St->Hp->VK->Prop
abbrev TT:=St->Hp->(Bool->Hp->Prop)->Prop
abbrev TA:=St->Hp->(List V->Hp->Prop)->Prop
structure Ends where
 nx:St->Hp->Prop
 rt:VK
 bk:St->Hp->Prop:=fun _ _=>False
 ct:St->Hp->Prop:=fun _ _=>False
abbrev TS:=Ends->St->Hp->Prop
def EP (X:Cx) (pins:List (Addr×Obj)) (σ:St) (Q:VK) (u:Value) (s':Shared):Prop:=∃v H',Inv X pins σ H' s'/\RelV v u/\Q v H'
def TP (X:Cx) (pins:List (Addr×Obj)) (σ:St) (Q:Bool->Hp->Prop) (b:Bool) (s':Shared):Prop:=∃H',Inv X pins σ H' s'/\Q b H'
def AP (X:Cx) (pins:List (Addr×Obj)) (σ:St) (Q:List V->Hp->Prop) (us:List Value) (s':Shared):Prop:=∃vs H',Inv X pins σ H' s'/\Vals vs us/\Q vs H'
def SP (X:Cx) (pins:List (Addr×Obj)) (D:Ends) (f:Flow) (s':Shared):Prop :=
 match f with
 | .next=>∃σ' H',Inv X pins σ' H' s'/\D.nx σ' H'
 | .brk=>∃σ' H',Inv X pins σ' H' s'/\D.bk σ' H'
 | .cont=>∃σ' H',Inv X pins σ' H' s'/\D.ct σ' H'
 | .ret u=>∃v σ' H',Inv X pins σ' H' s'/\RelV v u/\D.rt v H'
def PE (X:Cx) (e:Expr) (t:TE):Prop :=
 ∀(pins:List (Addr×Obj)) (s:Shared) (σ:St) (H:Hp) (Q:VK),Inv X pins σ H s->t σ H Q->wpAny (model X.prog X.w) X.A (eval e X.env) (EP X pins σ Q) X.xe s
def PT (X:Cx) (e:Expr) (t:TT):Prop :=
 ∀(pins:List (Addr×Obj)) (s:Shared) (σ:St) (H:Hp) (Q:Bool->Hp->Prop),Inv X pins σ H s->t σ H Q->wpAny (model X.prog X.w) X.A (isTrue e X.env (eval e X.env)) (TP X pins σ Q) X.xe s
def PW (X:Cx) (e:Expr) (t:TT):Prop :=
 ∀(whole:Sem Value) (pins:List (Addr×Obj)) (s:Shared) (σ:St) (H:Hp) (Q:Bool->Hp->Prop),Inv X pins σ H s->t σ H Q->wpAny (model X.prog X.w) X.A (isTrue e X.env whole) (TP X pins σ Q) X.xe s
theorem PW.pt {X:Cx}{e:Expr}{t:TT}(h:PW X e t):PT X e t:=h _
def PA (X:Cx) (es:List Expr) (t:TA):Prop :=
 ∀(pos:Pos) (pins:List (Addr×Obj)) (s:Shared) (σ:St) (H:Hp) (Q:List V->Hp->Prop),Inv X pins σ H s->t σ H Q->wpAny (model X.prog X.w) X.A (spliced (backTo pos (starEach es X.env))) (AP X pins σ Q) X.xe s
def PS (X:Cx) (st:Stmt) (t:TS):Prop :=
 ∀(pins:List (Addr×Obj)) (s:Shared) (σ:St) (H:Hp) (D:Ends),Inv X pins σ H s->t D σ H->wpAny (model X.prog X.w) X.A (exec st X.env) (SP X pins D) X.xe s
def PSs (X:Cx) (st:List Stmt) (t:TS):Prop :=
 ∀(pins:List (Addr×Obj)) (s:Shared) (σ:St) (H:Hp) (D:Ends),Inv X pins σ H s->t D σ H->wpAny (model X.prog X.w) X.A (execs st X.env) (SP X pins D) X.xe s
theorem thn {α:Type}{t:Sem α}{Q Q':α->Shared->Prop}{M:Model}{A:Around}{E:Value->Shared->Prop}{s:Shared}(h:wpAny M A t Q E s) (hQ:∀a s,Q a s->Q' a s):wpAny M A t Q' E s:=wpAny_mono h hQ fun _ _ x=>x
section
variable {X:Cx}
theorem bin {a b:Expr}{ta tb:TE}(ha:PE X a ta) (hb:PE X b tb){pins:List (Addr×Obj)}{s:Shared}{σ:St}{H:Hp}{R:V->V->Hp->Prop}(I:Inv X pins σ H s) (h:ta σ H fun x H1=>tb σ H1 fun y H2=>R x y H2)
  {α:Type}{Q:α->Shared->Prop}{f:Value->Value->Sem α}
  (hf:∀v u s2 x y H2,Inv X pins σ H2 s2->RelV x v->RelV y u->R x y H2->wpAny (model X.prog X.w) X.A (f v u) Q X.xe s2) :
  wpAny (model X.prog X.w) X.A (eval a X.env) (fun v s₁=>wpAny (model X.prog X.w) X.A (eval b X.env) (fun u s₂=>wpAny (model X.prog X.w) X.A (f v u) Q X.xe s₂) X.xe s₁) X.xe s:=by
 refine thn (ha pins s σ H _ I h) fun v s1 ⟨x,H1,I1,r1,q1⟩ => ?_
 refine thn (hb pins s1 σ H1 _ I1 q1) fun u s2 ⟨y,H2,I2,r2,q2⟩ => ?_
 exact hf v u s2 x y H2 I2 r1 r2 q2
def tVar (i:Nat):TE:=fun σ H Q=>∃v,σ[i]?=some (some v)/\Q v H
def tC (v:V):TE:=fun _ H Q=>Q v H
theorem vG {i:Nat}{x:Str}{pos:Pos}(hN:X.N[i]?=some x) (hv:Vis X.env.scope x) (hd:autoParam ((x == ("__debug__":Str))=false) zK._auto_1) (hcd:autoParam ((x == ("__classdict__":Str))=false) zK._auto_1):PE X (.Name x pos) (tVar i):=by
 intro pins s σ H Q I h
 obtain⟨v,e,h⟩:=h
 obtain⟨m,hn,hl⟩:=I.loc
 obtain⟨u,r,l⟩:=hl i x v hN e hv
 have fin:EP X pins σ Q u s:=⟨v,H,I,r,h⟩
 rcases l with ⟨hk,hm⟩ | ⟨hk,c,hc,hcell⟩
 ·exact wpAny_Name (wpAny_loadName_local I.ok.kind hk hn hm fin) hd
 ·rcases hk with hk | hk
  ·exact wpAny_Name (wpAny_loadName_cell I.ok.kind hk hc hcell fin) hd
  ·exact wpAny_Name (wpAny_loadName_free I.ok.kind hk hc hcell fin hcd) hd
theorem yV {i j pos}:PE X (.Constant (.int i) j pos) (tC (.int i)):=fun _ _ _ H _ I h=>wpAny_Constant_int ⟨.int i,H,I.tok _,⟨_,rfl⟩,h⟩
theorem xV9 {b j pos}:PE X (.Constant (.bool b) j pos) (tC (.bl b)):=fun _ _ _ H _ I h=>Constant_bool ⟨.bl b,H,I,rfl,h⟩
theorem gI {j pos}:PE X (.Constant .none j pos) (tC .non):=fun _ _ _ H _ I h=>Constant_none ⟨.non,H,I,rfl,h⟩
theorem xY6 {x j pos}:PE X (.Constant (.str x) j pos) (tC (.str x)):=fun _ _ _ H _ I h=>Calls.Constant_str ⟨.str x,H,I.tok _,⟨_,rfl⟩,h⟩
def Gl (X:Cx) (x:Str):Prop:=X.env.kindOf x=some .globalImplicit
theorem jD {E:Value->Shared->Prop}{pins:List (Addr×Obj)}{s:Shared}{σ:St}{H:Hp}{x:Str}{u:Value}{pos:Pos}{Q:Value->Shared->Prop}(I:Inv X pins σ H s) (hg:Gl X x) (hm:X.mg x=some u) (h:Q u s)
  (hd:autoParam ((x == ("__debug__":Str))=false) zK._auto_1):wpAny (model X.prog X.w) X.A (eval (.Name x pos) X.env) Q E s :=
 Calls.Name_function_global I.ok.kind hg (Calls.loadGlobal_global (by rw[I.ok.glob];exact I.mod.glob.keeps I.bk) hm h) hd
theorem gF {E:Value->Shared->Prop}{pins:List (Addr×Obj)}{s:Shared}{σ:St}{H:Hp}{x:Str}{u:Value}{pos:Pos}{Q:Value->Shared->Prop}(I:Inv X pins σ H s) (hg:Gl X x) (hm:X.mg x=none) (hv:bootBuiltins x=some u) (h:Q u s)
  (hn:autoParam (x ≠ "__name__") zK._auto_1) (hd:autoParam ((x == ("__debug__":Str))=false) zK._auto_1):wpAny (model X.prog X.w) X.A (eval (.Name x pos) X.env) Q E s:=by
 obtain⟨mb,h1,h2⟩:=I.mod.blt
 exact Calls.Name_function_global I.ok.kind hg (Calls.loadGlobal_builtin (by rw[I.ok.glob];exact I.mod.glob.keeps I.bk) hm (by rw[I.ok.blt];exact h1.keeps I.bk) ((h2 x hn).trans hv) h) hd
theorem zQ8 {x:Str}{v:V}{u:Value}{pos:Pos}(hg:Gl X x) (hm:X.mg x=some u) (r:RelV v u) (hd:autoParam ((x == ("__debug__":Str))=false) zK._auto_1):PE X (.Name x pos) (tC v) :=
 fun _ _ _ H _ I h=>jD I hg hm ⟨v,H,I,r,h⟩ hd
theorem zP4 {x:Str}{v:V}{u:Value}{pos:Pos}(hg:Gl X x) (hm:X.mg x=none) (hv:bootBuiltins x=some u) (r:RelV v u) (hn:autoParam (x ≠ "__name__") zK._auto_1) (hd:autoParam ((x == ("__debug__":Str))=false) zK._auto_1):PE X (.Name x pos) (tC v) :=
 fun _ _ _ H _ I h=>gF I hg hm hv ⟨v,H,I,r,h⟩ hn hd
variable {a b:Expr}{ta tb:TE}{pos:Pos}
def PC (X:Cx) (op:CmpOp) (a b:Expr) (t:TE):Prop :=
 ∀(pins:List (Addr×Obj)) (s:Shared) (σ:St) (H:Hp) (Q:VK),Inv X pins σ H s->t σ H Q ->
  wpAny (model X.prog X.w) X.A (eval a X.env) (fun v s₁=>wpAny (model X.prog X.w) X.A (eval b X.env) (fun u s₂=>wpAny (model X.prog X.w) X.A (compareOp op v u) (EP X pins σ Q) X.xe s₂) X.xe s₁) X.xe s
theorem nobehind (b:Expr){op:CmpOp}(h:op ≠ .In) (h2:op ≠ .NotIn):behindInMarks op b=false:=by
 have e1:(op == CmpOp.In)=false:=by cases op <;> first | rfl | exact absurd rfl h
 have e2:(op == CmpOp.NotIn)=false:=by cases op <;> first | rfl | exact absurd rfl h2
 cases b <;> simp[behindInMarks,e1,e2]
def tIsN (ta:TE):TE:=fun σ H Q=>ta σ H fun x H1=>Q (.bl (decide (x=.non))) H1
def tNotN (ta:TE):TE:=fun σ H Q=>ta σ H fun x H1=>Q (.bl (!decide (x=.non))) H1
theorem RelV.zT2 {x:V}{v:Value}(r:RelV x v):(v == Value.none)=decide (x=.non):=by
 cases x with
 | non=>cases r;rfl
 | bl _=>cases r;rfl
 | int _=>obtain⟨t,rfl⟩:=r;rfl
 | str _=>obtain⟨t,rfl⟩:=r;rfl
 | byt _=>obtain⟨t,rfl⟩:=r;rfl
 | flt _=>obtain⟨t,rfl⟩:=r;rfl
 | ref _=>cases r;rfl
 | ty _=>cases r;rfl
theorem yZ4 {j pos'} (ha:PE X a ta):PC X .Is a (.Constant .none j pos') (tIsN ta):=by
 intro pins s σ H Q I h
 refine thn (ha pins s σ H _ I h) fun v s1 ⟨x,H1,I1,r1,q1⟩ => ?_
 exact Constant_none (is_none_gen ⟨.bl _,H1,I1,by rw[r1.zT2];rfl,q1⟩)
theorem yF9 {j pos'} (ha:PE X a ta):PC X .IsNot a (.Constant .none j pos') (tNotN ta):=by
 intro pins s σ H Q I h
 refine thn (ha pins s σ H _ I h) fun v s1 ⟨x,H1,I1,r1,q1⟩ => ?_
 exact Constant_none (isnot_none_gen ⟨.bl _,H1,I1,by rw[r1.zT2];rfl,q1⟩)
def tB (t:TE):TT:=fun σ H Q=>t σ H fun x H1=>∃c,x=.bl c/\Q c H1
theorem zV8 {op:CmpOp}{t:TE}(h:PC X op a b t) (h1:autoParam (behindInMarks op b=false) xV6._auto_1):PT X (.Compare a [op] [b] pos) (tB t):=by
 intro pins s σ H Q I hw
 refine wpAny_isTrue_Compare1 (thn (h pins s σ H _ I hw) fun v s1 h1=>thn h1 fun u s2 h2=>thn h2 fun c s3 ⟨x,H1,I1,r1,q1⟩ => ?_) h1
 obtain⟨d,rfl,q⟩:=q1
 cases r1
 exact wpAny_truthy_bool ⟨H1,I1,q⟩
theorem zA7 {e:Expr}{t:TE}(h:PE X e t) (he:autoParam (∀whole,isTrue e X.env whole=(do let v <-whole;standAt e.pos;holding [v] (truthy v))) wC._auto_1):PT X e (tB t):=by
 intro pins s σ H Q I hw
 refine isTrue_plain (thn (h pins s σ H _ I hw) fun v s1 ⟨x,H1,I1,r1,q1⟩ => ?_) (he _)
 obtain⟨d,rfl,q⟩:=q1
 cases r1
 exact wpAny_truthy_bool ⟨H1,I1,q⟩
variable {tA tB':TT}{rest:List Expr}
def tAnd (t u:TT):TT:=fun σ H Q=>t σ H fun c H1=>if c=true then u σ H1 Q else Q false H1
def tOr (t u:TT):TT:=fun σ H Q=>t σ H fun c H1=>if c=true then Q true H1 else u σ H1 Q
def tNot (t:TT):TT:=fun σ H Q=>t σ H fun c H1=>Q (!c) H1
theorem pw_and1 (ha:PT X a tA):PW X (.BoolOp .And [a] pos) tA:=by
 intro wh pins s σ H Q I h
 refine isTrue_and (thn (ha pins s σ H Q I h) fun c s1 e => ?_)
 cases c with
 | true=>exact isTrue_and_nil e
 | false=>exact e
theorem pw_or1 (ha:PT X a tA):PW X (.BoolOp .Or [a] pos) tA:=by
 intro wh pins s σ H Q I h
 refine isTrue_or (thn (ha pins s σ H Q I h) fun c s1 e => ?_)
 cases c with
 | false=>exact isTrue_or_nil e
 | true=>exact e
theorem pw_and (ha:PT X a tA) (hb:PW X (.BoolOp .And (b::rest) pos) tB'):PW X (.BoolOp .And (a::b::rest) pos) (tAnd tA tB'):=by
 intro wh pins s σ H Q I h
 refine isTrue_and (thn (ha pins s σ H _ I h) fun c s1 ⟨H1,I1,q1⟩ => ?_)
 cases c with
 | true=>exact hb wh pins s1 σ H1 Q I1 q1
 | false=>exact⟨H1,I1,q1⟩
theorem pw_or (ha:PT X a tA) (hb:PW X (.BoolOp .Or (b::rest) pos) tB'):PW X (.BoolOp .Or (a::b::rest) pos) (tOr tA tB'):=by
 intro wh pins s σ H Q I h
 refine isTrue_or (thn (ha pins s σ H _ I h) fun c s1 ⟨H1,I1,q1⟩ => ?_)
 cases c with
 | true=>exact⟨H1,I1,q1⟩
 | false=>exact hb wh pins s1 σ H1 Q I1 q1
theorem yC2 (ha:PT X a tA):PT X (.UnaryOp .Not a pos) (tNot tA):=by
 intro pins s σ H Q I h
 exact isTrue_not (ha pins s σ H (fun c H1=>Q (!c) H1) I h)
def tAndV (ta tb:TE):TE:=fun σ H Q=>ta σ H fun x H1=>∃c,x=.bl c/\if c=true then tb σ H1 Q else Q (.bl false) H1
def tNotV (ta:TE):TE:=fun σ H Q=>ta σ H fun x H1=>∃c,x=.bl c/\Q (.bl (!c)) H1
theorem yB7 {op} {t:TE}(h:PE X a t):PE X (.BoolOp op [a] pos) t:=fun pins s σ H Q I hw=>BoolOp_one (h pins s σ H Q I hw)
theorem yA2 (ha:PE X a ta) (hb:PE X (.BoolOp .And (b::rest) pos) tb):PE X (.BoolOp .And (a::b::rest) pos) (tAndV ta tb):=by
 intro pins s σ H Q I h
 refine BoolOp_and (thn (ha pins s σ H _ I h) fun v s1 ⟨x,H1,I1,r1,q1⟩ => ?_)
 obtain⟨c,rfl,q1⟩:=q1
 cases r1
 refine wpAny_truthy_bool ?_
 cases c with
 | true=>exact hb pins s1 σ H1 Q I1 q1
 | false=>exact⟨.bl false,H1,I1,rfl,q1⟩
theorem yB6 (ha:PE X a ta):PE X (.UnaryOp .Not a pos) (tNotV ta):=by
 intro pins s σ H Q I h
 refine UnaryOp_ (thn (ha pins s σ H _ I h) fun v s1 ⟨x,H1,I1,r1,q1⟩ => ?_)
 obtain⟨c,rfl,q1⟩:=q1
 cases r1
 exact not_of (wpAny_truthy_bool ⟨.bl (!c),H1,I1,rfl,q1⟩)
def tIf (t:TT) (ta tb:TE):TE:=fun σ H Q=>t σ H fun c H1=>if c=true then ta σ H1 Q else tb σ H1 Q
theorem yV7 {c:Expr}(hc:PT X c tA) (ha:PE X a ta) (hb:PE X b tb):PE X (.IfExp c a b pos) (tIf tA ta tb):=by
 intro pins s σ H Q I h
 refine wpAny_IfExp (thn (hc pins s σ H _ I h) fun d s1 ⟨H1,I1,q1⟩ => ?_)
 cases d with
 | true=>exact ha pins s1 σ H1 Q I1 q1
 | false=>exact hb pins s1 σ H1 Q I1 q1
end
def SqL (K:KFr) (H:Hp) (a:Addr) (xs:List V):Prop :=
 Rd H a (.lst xs) \/
  ∃(o:Obj) (its:Array Value) (n:Nat),K.lookup a=some o/\o.cls=.type "list"/\o.dict=none/\o.data=.seq its n/\its.size<=sizeLine/\Vals xs its.toList
def SqT (K:KFr) (H:Hp) (a:Addr) (xs:List V):Prop :=
 Rd H a (.tup xs) \/
  ∃(o:Obj) (its:Array Value) (n:Nat),K.lookup a=some o/\o.cls=.type "tuple"/\o.data=.seq its n/\its.size<=sizeLine/\Vals xs its.toList
def absV:Value->Option V
 | .none=>some .non
 | .bool b=>some (.bl b)
 | .int i _=>some (.int i)
 | .str x _=>some (.str x)
 | .bytes b _=>some (.byt b)
 | .float b _=>some (.flt b)
 | .ref a=>some (.ref a)
 | .type n=>some (.ty n)
 | _=>none
theorem RelV.abs {x:V}{u:Value}(r:RelV x u):absV u=some x:=by
 cases x with
 | non=>cases r;rfl
 | bl _=>cases r;rfl
 | int _=>obtain⟨t,rfl⟩:=r;rfl
 | str _=>obtain⟨t,rfl⟩:=r;rfl
 | byt _=>obtain⟨t,rfl⟩:=r;rfl
 | flt _=>obtain⟨t,rfl⟩:=r;rfl
 | ref _=>cases r;rfl
 | ty _=>cases r;rfl
theorem RelV.inj {x y:V}{u:Value}(r:RelV x u) (q:RelV y u):x=y:=Option.some.inj (r.abs.symm.trans q.abs)
theorem Vals.inj:∀{xs ys:List V}{us:List Value},Vals xs us->Vals ys us->xs=ys
 | _,_,_,.nil,.nil=>rfl
 | _,_,_,.cons r t,.cons r' t'=>by rw[r.inj r',Vals.inj t t']
section
variable {X:Cx}{pins:List (Addr×Obj)}{σ:St}{H:Hp}{s:Shared}{a:Addr}{xs ys:List V}
theorem SqL.of {K:KFr}(h:H a=some (.lst xs)):SqL K H a xs:=.inl (.inl h)
theorem Inv.list (I:Inv X pins σ H s) (h:SqL X.K H a xs):∃its:List Value,Vals xs its/\PlainL s.heap a its.toArray/\xs.length<=sizeLine:=by
 rcases h with h | ⟨o,its,n,hk,hc,hd,hs,hz,r⟩
 ·obtain⟨z,its,n,r,e⟩:=h.ok I.hok
  exact⟨its,r,⟨_,n,e,rfl,rfl,rfl⟩,z⟩
 ·refine⟨its.toList,r,⟨o,n,I.kIn a o hk,hc,hd,by simpa using hs⟩,?_⟩
  have e:=r.length
  simp only[Array.length_toList] at e
  bv_omega
theorem Inv.tuple (I:Inv X pins σ H s) (h:SqT X.K H a xs):∃its:List Value,Vals xs its/\IsTup s.heap a its.toArray/\xs.length<=sizeLine:=by
 rcases h with h | ⟨o,its,n,hk,hc,hs,hz,r⟩
 ·obtain⟨z,its,r,p⟩:=h.ok I.hok
  exact⟨its,r,p.tup,z⟩
 ·refine⟨its.toList,r,⟨o,I.kIn a o hk,hc,n,by simpa using hs⟩,?_⟩
  have e:=r.length
  simp only[Array.length_toList] at e
  bv_omega
theorem Inv.yT4 (I:Inv X pins σ H s) (h:SqL X.K H a xs) (h':SqL X.K H a ys):xs=ys:=by
 obtain⟨its,r,⟨o,n,e,_,_,d⟩,_⟩:=I.list h
 obtain⟨its',r',⟨o',n',e',_,_,d'⟩,_⟩:=I.list h'
 rw[e] at e';cases e'
 rw[d] at d'
 injection d' with d1 _
 have:its=its':=by simpa using congrArg Array.toList d1
 subst this
 exact r.inj r'
theorem Inv.zF8 (I:Inv X pins σ H s) (h:SqT X.K H a xs) (h':SqT X.K H a ys):xs=ys:=by
 obtain⟨its,r,⟨o,e,_,n,d⟩,_⟩:=I.tuple h
 obtain⟨its',r',⟨o',e',_,n',d'⟩,_⟩:=I.tuple h'
 rw[e] at e';cases e'
 rw[d] at d'
 injection d' with d1 _
 have:its=its':=by simpa using congrArg Array.toList d1
 subst this
 exact r.inj r'
end
abbrev Cx.wish (X:Cx) (E:Value->Shared->Prop):Cx:={ X with xe:=E }
abbrev Cx.nox (X:Cx):Cx:=X.wish fun _ _=>False
theorem Cx.Ok.wish {X:Cx}(ok:X.Ok) (E:Value->Shared->Prop):(X.wish E).Ok :=
 ⟨ok.mod,ok.kind,ok.glob,ok.blt,ok.above,ok.inj,ok.has,ok.cab,ok.hd,ok.frames,ok.stk,ok.exf,ok.bs,ok.bsz,ok.noex,ok.exfs,ok.funs,ok.frf,ok.tb⟩
theorem Cx.Ok.unwish {X:Cx}{E:Value->Shared->Prop}(ok:(X.wish E).Ok):X.Ok :=
 ⟨ok.mod,ok.kind,ok.glob,ok.blt,ok.above,ok.inj,ok.has,ok.cab,ok.hd,ok.frames,ok.stk,ok.exf,ok.bs,ok.bsz,ok.noex,ok.exfs,ok.funs,ok.frf,ok.tb⟩
section
variable {X:Cx}{pins:List (Addr×Obj)}{σ:St}{H:Hp}{s:Shared}{E:Value->Shared->Prop}
theorem Inv.wish (I:Inv X pins σ H s) (E:Value->Shared->Prop):Inv (X.wish E) pins σ H s:=⟨I.ok.wish E,I.os,I.bare,I.base,I.loc,I.cell,I.free,I.freeC,I.pin,I.hok,I.len⟩
theorem Inv.unwish (I:Inv (X.wish E) pins σ H s):Inv X pins σ H s:=⟨I.ok.unwish,I.os,I.bare,I.base,I.loc,I.cell,I.free,I.freeC,I.pin,I.hok,I.len⟩
theorem SP.unwish {D:Ends}{f:Flow}{s':Shared}(h:SP (X.wish E) pins D f s'):SP X pins D f s':=by
 cases f with
 | next=>obtain⟨σ',H',I,q⟩:=h;exact⟨σ',H',I.unwish,q⟩
 | brk=>obtain⟨σ',H',I,q⟩:=h;exact⟨σ',H',I.unwish,q⟩
 | cont=>obtain⟨σ',H',I,q⟩:=h;exact⟨σ',H',I.unwish,q⟩
 | ret u=>obtain⟨v,σ',H',I,r,q⟩:=h;exact⟨v,σ',H',I.unwish,r,q⟩
theorem PSs.nox {st:List Stmt}{t:TS}(h:PSs X.nox st t):PSs X st t:=fun pins s σ H D I hw =>
 wpAny_mono (h pins s σ H D (I.wish _) hw) (fun _ _ q=>q.unwish) fun _ _ z=>False.elim z
end
section
variable {X:Cx}{st:Stmt}{rest:List Stmt}{t u:TS}{e:Expr}{te:TE}{pos:Pos}
def tNext:TS:=fun D σ H=>D.nx σ H
def tSeq (t u:TS):TS:=fun D σ H=>t { D with nx:=u D } σ H
theorem qR:PSs X [] tNext:=fun _ _ σ H _ I h=>wpAny_execs_nil ⟨σ,H,I,h⟩
theorem zH (h1:PS X st t) (h2:PSs X rest u):PSs X (st::rest) (tSeq t u):=by
 intro pins s σ H D I h
 refine wpAny_execs_cons (thn (h1 pins s σ H { D with nx:=u D } I h) fun f s1 q => ?_)
 cases f with
 | next =>
  obtain⟨σ',H',I',q⟩:=q
  exact h2 pins s1 σ' H' D I' q
 | ret v=>exact q
 | brk=>exact q
 | cont=>exact q
theorem yZ (h1:PS X st t):PSs X [st] t:=by
 intro pins s σ H D I h
 refine wpAny_execs_cons (thn (h1 pins s σ H D I h) fun f s1 q => ?_)
 cases f with
 | next=>exact wpAny_execs_nil q
 | ret v=>exact q
 | brk=>exact q
 | cont=>exact q
theorem Inv.quiet {pins:List (Addr×Obj)}{σ:St}{H:Hp}{s:Shared}(I:Inv X pins σ H s):interactive X.env=false:=by simp[interactive,I.ok.kind]
def tDrop (te:TE):TS:=fun D σ H=>te σ H fun _ H1=>D.nx σ H1
theorem wL (he:PE X e te) (hs:autoParam (swapsWith e none pos.line X.env=pure false) zY._auto_1):PS X (.Expr e pos) (tDrop te):=by
 intro pins s σ H D I h
 exact wpAny_Expr_any (thn (he pins s σ H _ I h) fun v s1 ⟨x,H1,I1,r1,q1⟩=>⟨σ,H1,I1,q1⟩) I.quiet hs
def tRet (te:TE):TS:=fun D σ H=>te σ H D.rt
theorem xF (he:PE X e te):PS X (.Return (some e) pos) (tRet te):=by
 intro pins s σ H D I h
 exact wpAny_Return_some (thn (he pins s σ H _ I h) fun v s1 ⟨x,H1,I1,r1,q1⟩=>⟨x,σ,H1,I1,r1,q1⟩)
def tIfS (c:TT) (t u:TS):TS:=fun D σ H=>c σ H fun b H1=>if b=true then t D σ H1 else u D σ H1
theorem kG {c:Expr}{a b:List Stmt}{tc:TT}(hc:PT X c tc) (ha:PSs X a t) (hb:PSs X b u):PS X (.If c a b pos) (tIfS tc t u):=by
 intro pins s σ H D I h
 refine wpAny_If (thn (hc pins s σ H _ I h) fun d s1 ⟨H1,I1,q1⟩ => ?_)
 cases d with
 | true=>exact ha pins s1 σ H1 D I1 q1
 | false=>exact hb pins s1 σ H1 D I1 q1
end
abbrev TG:=V->St->Hp->(St->Hp->Prop)->Prop
abbrev TGs:=List V->St->Hp->(St->Hp->Prop)->Prop
def PG (X:Cx) (target:Expr) (t:TG):Prop :=
 ∀(pins:List (Addr×Obj)) (s:Shared) (σ:St) (H:Hp) (v:V) (u:Value) (Q:St->Hp->Prop),Inv X pins σ H s->RelV v u->t v σ H Q ->
  wpAny (model X.prog X.w) X.A (assign target X.env u) (fun _ s'=>∃σ' H',Inv X pins σ' H' s'/\Q σ' H') X.xe s
def PGs (X:Cx) (ts:List Expr) (t:TGs):Prop :=
 ∀(pins:List (Addr×Obj)) (s:Shared) (σ:St) (H:Hp) (vs:List V) (us:List Value) (Q:St->Hp->Prop),Inv X pins σ H s->Vals vs us->t vs σ H Q ->
  wpAny (model X.prog X.w) X.A (assignInOrder ((assignEach ts X.env).map (·.2)) us) (fun _ s'=>∃σ' H',Inv X pins σ' H' s'/\Q σ' H') X.xe s
abbrev TSet:=V->V->V->Hp->(Hp->Prop)->Prop
def PSet (X:Cx) (t:TSet):Prop :=
 ∀(pins:List (Addr×Obj)) (s:Shared) (σ:St) (H:Hp) (o i v:V) (ov iv u:Value) (Q:Hp->Prop),Inv X pins σ H s->RelV o ov->RelV i iv->RelV v u->t o i v H Q ->
  wpAny (model X.prog X.w) X.A (setItem ov iv u) (fun _ s'=>∃H',Inv X pins σ H' s'/\Q H') X.xe s
section
variable {X:Cx}{pos:Pos}
def gName (i:Nat):TG:=fun v σ H Q=>Q (σ.set i (some v)) H
theorem uU {i:Nat}{x:Str}(hN:X.N.Nodup) (hi:X.N[i]?=some x) (hx:Loc X.env.scope x) (hf:autoParam (X.fn x=true\/X.env.scope.names.lookup x=some .local) fU._auto_1):PG X (.Name x pos) (gName i):=by
 intro pins s σ H v u Q I r h
 exact wpAny_assign_Name (qE I hN hi hx r (fun s' I'=>⟨_,H,I',h⟩) hf)
def gNil:TGs:=fun vs σ H Q=>vs=[]/\Q σ H
def gCons (t:TG) (u:TGs):TGs:=fun vs σ H Q=>∃v r,vs=v::r/\t v σ H fun σ' H'=>u r σ' H' Q
theorem zL8:PGs X [] gNil:=by
 intro pins s σ H vs us Q I r h
 obtain⟨e,h⟩:=h
 subst e
 cases r
 exact assignInOrder_nil ⟨σ,H,I,h⟩
theorem dU {e:Expr}{es:List Expr}{t:TG}{u:TGs}(h1:PG X e t) (h2:PGs X es u)
  (hs:autoParam ((assignEach (e::es) X.env).map (·.2)=assign e X.env::(assignEach es X.env).map (·.2)) zY._auto_1):PGs X (e::es) (gCons t u):=by
 intro pins s σ H vs us Q I r h
 obtain⟨v,vr,e1,h⟩:=h
 subst e1
 cases r with
 | cons r rr =>
  rw[hs]
  refine assignInOrder_cons (thn (h1 pins s σ H _ _ _ I r h) fun _ s1 ⟨σ1,H1,I1,q1⟩ => ?_)
  exact h2 pins s1 σ1 H1 _ _ Q I1 rr q1
def gTup (K:KFr) (n:Nat) (t:TGs):TG:=fun v σ H Q=>∃a xs,v=.ref a/\SqT K H a xs/\xs.length=n/\t xs σ H Q
theorem yZ6 {es:List Expr}{k:Nat}{t:TGs}{n:Nat}(hc:X.calm=true) (h:PGs X es t)
  (hn:autoParam ((assignEach es X.env).length=n) zY._auto_1) (hst:autoParam ((assignEach es X.env).findIdx? (·.1)=none) zY._auto_1):PG X (.Tuple es k pos) (gTup X.K n t):=by
 intro pins s σ H v u Q I r hw
 obtain⟨a,xs,e1,hq,hl,hw⟩:=hw
 subst e1
 cases r
 obtain⟨its,rv,ht,hz⟩:=I.tuple hq
 refine assign_Tuple_tuple (I.ok.hd hc) ht (by simp[hn,<-hl,rv.length]) hst fun h' hx => ?_
 have I1:Inv X pins σ H { s with heap:=h' }:=I.kept (t':=s.toks) fun b o e=>hx b o (Nat.ne_of_lt (Heap.lt_size e)) e
 exact h pins _ σ H xs _ Q I1 (by simpa using rv) hw
def gSub (to ti:TE) (t:TSet):TG:=fun v σ H Q=>to σ H fun o H1=>ti σ H1 fun i H2=>t o i v H2 fun H3=>Q σ H3
theorem zU1 {o i:Expr}{to ti:TE}{t:TSet}(ho:PE X o to) (hi:PE X i ti) (hs:PSet X t)
  (ha:∀v,assign (.Subscript o i pos) X.env v=(do
   let ov <-holding [v] (eval o X.env)
   let iv <-holding [v,ov] (eval i X.env)
   standAt pos
   holding [v,ov,iv] (setItem ov iv v)
   release [v,ov,iv] []):=by intro _;rfl):PG X (.Subscript o i pos) (gSub to ti t):=by
 intro pins s σ H v u Q I r h
 rw[ha]
 refine wpAny_bind (wpAny_holding (thn (ho pins s σ H _ I h) fun ov s1 ⟨x,H1,I1,r1,q1⟩ => ?_))
 refine wpAny_bind (wpAny_holding (thn (hi pins s1 σ H1 _ I1 q1) fun iv s2 ⟨y,H2,I2,r2,q2⟩ => ?_))
 refine wpAny_bind (wpAny_standAt (wpAny_bind (wpAny_holding (thn (hs pins s2 σ H2 x y v ov iv u _ I2 r1 r2 r q2) fun _ s3 ⟨H3,I3,q3⟩ => ?_))))
 exact wpAny_release ⟨σ,H3,I3,q3⟩
def tAsg (te:TE) (g:TG):TS:=fun D σ H=>te σ H fun x H1=>g x σ H1 D.nx
theorem cI {tg e:Expr}{te:TE}{g:TG}(he:PE X e te) (hg:PG X tg g) (hs:autoParam (swapsWithSole [tg] e pos.line X.env=pure false) zY._auto_1) (hw:autoParam (swappedStores [tg] e X.env=pure none) zY._auto_1)
  (h1:autoParam ((assignEach [tg] X.env).map (·.2)=[assign tg X.env]) zY._auto_1):PS X (.Assign [tg] e pos) (tAsg te g):=by
 intro pins s σ H D I h
 refine wpAny_Assign_stores (thn (he pins s σ H _ I h) fun v s1 ⟨x,H1,I1,r1,q1⟩ => ?_) hs hw
 rw[h1]
 exact thn (hg pins s1 σ H1 x v _ I1 r1 q1) fun _ s2 q=>q
theorem yW {i:Nat}{x:Str}{e:Expr}{te:TE}{pos':Pos}(hN:X.N.Nodup) (hi:X.N[i]?=some x) (hx:Loc X.env.scope x) (he:PE X e te) (hs:autoParam (swapsWith e (some (.Name x pos')) pos.line X.env=pure false) zY._auto_1) (hf:autoParam (X.fn x=true\/X.env.scope.names.lookup x=some .local) fU._auto_1) :
  PS X (.Assign [.Name x pos'] e pos) (tAsg te (gName i)):=by
 intro pins s σ H D I h
 refine wpAny_Assign_Name (thn (he pins s σ H _ I h) fun v s1 ⟨y,H1,I1,r1,q1⟩ => ?_) hs
 exact qE I1 hN hi hx r1 (fun s2 I2=>⟨_,H1,I2,q1⟩) hf
end
section
variable {X:Cx}{pos:Pos}
def tWhile (c:TT) (tb:TS):TS:=fun D σ H=>∃W:Nat->St->Hp->Prop,(∃m,W m σ H)/\∀m σ H,W m σ H ->
 c σ H fun b H1=>if b=true then ∃N:St->Hp->Prop,(∀σ' H',N σ' H'->∃m',m'<m/\W m' σ' H')/\tb { D with nx:=N,ct:=N,bk:=D.nx } σ H1 else D.nx σ H1
theorem dO {c:Expr}{body:List Stmt}{tc:TT}{tb:TS}(hp:PassesOwn (model X.prog X.w) X.A X.env X.xe) (hc:PT X c tc) (hb:PSs X body tb):PS X (.While c body [] pos) (tWhile tc tb):=by
 intro pins s σ H D I h
 obtain⟨W,⟨m0,w0⟩,turn⟩:=h
 refine wpAny_While (codeAny_whileLoop (fun n s'=>∃σ' H',Inv X pins σ' H' s'/\W n σ' H') ?_ m0 ⟨σ,H,I,w0⟩)
 rintro n s1 ⟨σ1,H1,I1,w1⟩
 refine wpAny_passesOwn hp (thn (hc pins s1 σ1 H1 _ I1 (turn n σ1 H1 w1)) fun b s2 ⟨H2,I2,q2⟩ => ?_)
 cases b with
 | true =>
  obtain⟨N,hN,q2⟩:=q2
  rw[if_pos rfl]
  refine wpAny_passesOwn hp (thn (hb pins s2 σ1 H2 _ I2 q2) fun f s3 q3 => ?_)
  cases f with
  | next =>
   obtain⟨σ3,H3,I3,n3⟩:=q3
   obtain⟨m',hm,w3⟩:=hN σ3 H3 n3
   exact⟨m',hm,σ3,H3,I3,w3⟩
  | cont =>
   obtain⟨σ3,H3,I3,n3⟩:=q3
   obtain⟨m',hm,w3⟩:=hN σ3 H3 n3
   exact⟨m',hm,σ3,H3,I3,w3⟩
  | brk=>exact q3
  | ret v=>exact q3
 | false =>
  rw[if_neg Bool.false_ne_true]
  exact wpAny_execs_nil ⟨σ1,H2,I2,q2⟩
end
structure It where
 go:Nat->Hp->Prop
 yld:Nat->Hp->V->Hp->Prop
 stop:Nat->Hp->Prop
def FpOk (X:Cx) (pins:List (Addr×Obj)) (H:Hp) (b:Addr):Prop :=
 H b=none/\b≠X.env.locals/\b∉X.fs/\(b∈X.ex\/X.s₀.heap.objs.size<=b)/\(∀x c,X.env.cells.lookup x=some c->c≠b)/\∀p∈X.pn++pins,p.1≠b
theorem Inv.fpOk {X:Cx}{pins:List (Addr×Obj)}{σ:St}{H H':Hp}{s:Shared}{b:Addr}(I:Inv X pins σ H s) (hb:s.heap.objs.size<=b) (hn:H' b=none):FpOk X pins H' b:=by
 refine⟨hn,Nat.ne_of_gt (Nat.lt_of_lt_of_le I.lt hb),I.nofs hb,.inr (Nat.le_trans I.sz hb),fun x c e z => ?_,fun p hp z => ?_⟩
 ·obtain⟨v,q⟩:=I.cell x c e
  exact absurd (Nat.lt_of_lt_of_le q.lt (by rw[z];exact hb)) (Nat.lt_irrefl _)
 ·exact absurd (Nat.lt_of_lt_of_le (Heap.lt_size (I.pin p hp).1) (by rw[z];exact hb)) (Nat.lt_irrefl _)
structure Turn (P:Program) (w:World) (K:KFr) (tg:Expr) (J:It) (fp:List Addr) (it:Addr) (tn:Nat->Heap->Prop):Prop where
 mem:it∈fp
 obj:∀i h,tn i h->∀b∈fp,∃o,h.get? b=some o/\∀v,o.data ≠ .cell v
 keep:∀i h h',tn i h->(∀b∈fp,∀o,h.get? b=some o->h'.get? b=some o)->tn i h'
 item:∀(X:Cx),X.prog=P->X.w=w->X.K=K->X.calm=true->∀(i:Nat) (pins:List (Addr×Obj)) (s:Shared) (σ:St) (H:Hp) (E:Value->Shared->Prop),Inv X pins σ H s->(∀b∈fp,FpOk X pins H b)->tn i s.heap->J.go i H ->
  wpAny (model P w) X.A (pyNext (.ref it)) (fun r s1=>∃u,r=some u /\
   wpAny (model P w) X.A (letOwnedTupleGo tg (.ref it) u) (fun _ s2=>∃x H',Inv X pins σ H' s2/\RelV x u/\J.yld i H x H'/\tn (i+1) s2.heap/\∀b∈fp,H' b=none) E s1) E s
 done:∀(X:Cx),X.prog=P->X.w=w->X.K=K->X.calm=true->∀(i:Nat) (pins:List (Addr×Obj)) (s:Shared) (σ:St) (H:Hp) (E:Value->Shared->Prop),Inv X pins σ H s->(∀b∈fp,FpOk X pins H b)->tn i s.heap->J.stop i H ->
  wpAny (model P w) X.A (pyNext (.ref it)) (fun r s1=>r=none/\Inv X pins σ H s1) E s
 self:∀(A:Around) (i:Nat) (s:Shared) (Q:Value->Shared->Prop) (E:Value->Shared->Prop),tn i s.heap->Q (.ref it) s->wpAny (model P w) A (pyIter (.ref it)) Q E s
abbrev TI:=St->Hp->(It->Hp->Prop)->Prop
def PIE (X:Cx) (pins:List (Addr×Obj)) (σ:St) (tg:Expr) (R:It->Hp->Prop) (itv:Value) (s2:Shared):Prop :=
 ∃(it:Addr) (fp:List Addr) (tn:Nat->Heap->Prop) (J:It) (H':Hp),itv=.ref it/\Inv X pins σ H' s2/\Turn X.prog X.w X.K tg J fp it tn/\tn 0 s2.heap/\(∀b∈fp,FpOk X pins H' b)/\R J H'
def PI (X:Cx) (tg iter:Expr) (wi:TI):Prop :=
 ∀(pins:List (Addr×Obj)) (s:Shared) (σ:St) (H:Hp) (R:It->Hp->Prop),Inv X pins σ H s->wi σ H R ->
  wpAny (model X.prog X.w) X.A (eval iter X.env) (fun v s1=>wpAny (model X.prog X.w) X.A (pyIter v) (PIE X pins σ tg R) X.xe s1) X.xe s
theorem zJ4 {M:Model}{A:Around}{E:Value->Shared->Prop}{s:Shared}{tg:Expr}{it:Addr}{u:Value}{o:Obj}{n:String}{vs:Array Value}{Q:Unit->Shared->Prop}(ho:s.heap.get? it=some o) (hc:o.cls=.type n) (hd:o.data=.fields vs)
  (hn:["enumerate","zip","dict_itemiterator","dict_reverseitemiterator","odict_iterator","itertools.zip_longest","itertools.pairwise"].contains n=false) (hQ:Q () s):wpAny M A (letOwnedTupleGo tg (.ref it) u) Q E s:=by
 unfold letOwnedTupleGo
 cases tg <;> first
  | exact wpAny_pure hQ
  | (cases u <;> first
    | exact wpAny_pure hQ
    | (refine wpAny_bind (wpAny_load ho ?_)
       rw[hc,hd]
       show wpAny M A (if (["enumerate","zip","dict_itemiterator","dict_reverseitemiterator","odict_iterator","itertools.zip_longest","itertools.pairwise"].contains n&&vs[0]? == some (rawInt _))=true then _ else _) Q E s
       rw[if_neg (by intro h;rw[hn,Bool.false_and] at h;cases h)]
       exact wpAny_pure hQ))
def Itl (K:KFr) (a:Addr):It :=
 ⟨fun i H=>∃xs x,SqL K H a xs/\xs[i]?=some x,fun i H x H'=>H'=H/\∀xs,SqL K H a xs->xs[i]?=some x,fun i H=>∃xs,SqL K H a xs/\xs.length<=i⟩
def Itt (K:KFr) (a:Addr):It :=
 ⟨fun i H=>∃xs x,SqT K H a xs/\xs[i]?=some x,fun i H x H'=>H'=H/\∀xs,SqT K H a xs->xs[i]?=some x,fun i H=>∃xs,SqT K H a xs/\xs.length<=i⟩
def Itr (lo:Int) (n:Nat):It:=⟨fun i _=>i<n,fun i H x H'=>H'=H/\x=.int (lo+i),fun i _=>n<=i⟩
theorem zY6 {P:Program}{w:World}{K:KFr}{tg:Expr}(a it:Addr):Turn P w K tg (Itl K a) [it] it (fun i h=>h.IsListIter it a i) where
 mem:=by simp
 obj:=fun i h st b hb=>by
  have e:b=it:=by simpa using hb
  subst e
  obtain⟨o,e,c,d⟩:=st
  exact⟨o,e,fun v z=>by rw[d] at z;cases z⟩
 keep:=fun i h h' st k=>st.at fun o e=>k it (by simp) o e
 item:=by
  intro X hP hw hK hc i pins s σ H E I hf st hg
  subst hP hw hK
  obtain⟨xs,x,hq,hx⟩:=hg
  obtain⟨its,rv,p,hz⟩:=I.list hq
  obtain⟨u,hu,ru⟩:=rv.get hx
  obtain⟨f0,f1,f2,f3,f4,f5⟩:=hf it (by simp)
  refine wpAny_pyNext_list_item st p.isList (x:=u) (by simpa using hu) fun h' st' sb => ?_
  have I1:Inv X pins σ H { s with heap:=h' }:=I.turned (t':=s.toks) (fun b o hb e=>(sb.2 b hb).trans e) f0 f1 f3 f4 f5
  obtain⟨o,e,c,d⟩:=id st'
  exact⟨u,rfl,zJ4 (s:={ s with heap:=h' }) e c d (by decide) ⟨x,H,I1,ru,⟨rfl,fun ys hy=>by rw[I.yT4 hy hq];exact hx⟩,st',fun b hb=>(hf b hb).1⟩⟩
 done:=by
  intro X hP hw hK hc i pins s σ H E I hf st hg
  subst hP hw hK
  obtain⟨xs,hq,hx⟩:=hg
  obtain⟨its,rv,p,hz⟩:=I.list hq
  obtain⟨f0,f1,f2,f3,f4,f5⟩:=hf it (by simp)
  have hl:=rv.length
  exact wpAny_pyNext_list_end (I.ok.hd hc) st p.isList (by simp;bv_omega) fun h' eb=>⟨rfl,I.turned (t':=s.toks) (fun b o hb e=>eb b o hb e) f0 f1 f3 f4 f5⟩
 self:=fun _ _ _ _ _ st h=>wpAny_pyIter_listiter st h
theorem zG6 {P:Program}{w:World}{K:KFr}{tg:Expr}(a it:Addr):Turn P w K tg (Itt K a) [it] it (fun i h=>h.IsTupleIter it a i) where
 mem:=by simp
 obj:=fun i h st b hb=>by
  have e:b=it:=by simpa using hb
  subst e
  obtain⟨o,e,c,d⟩:=st
  exact⟨o,e,fun v z=>by rw[d] at z;cases z⟩
 keep:=fun i h h' st k=>st.at fun o e=>k it (by simp) o e
 item:=by
  intro X hP hw hK hc i pins s σ H E I hf st hg
  subst hP hw hK
  obtain⟨xs,x,hq,hx⟩:=hg
  obtain⟨its,rv,p,hz⟩:=I.tuple hq
  obtain⟨u,hu,ru⟩:=rv.get hx
  obtain⟨f0,f1,f2,f3,f4,f5⟩:=hf it (by simp)
  refine wpAny_pyNext_tuple_item st (show s.heap.IsTuple a its.toArray from p) (x:=u) (by simpa using hu) fun h' st' sb => ?_
  have I1:Inv X pins σ H { s with heap:=h' }:=I.turned (t':=s.toks) (fun b o hb e=>(sb.2 b hb).trans e) f0 f1 f3 f4 f5
  obtain⟨o,e,c,d⟩:=id st'
  exact⟨u,rfl,zJ4 (s:={ s with heap:=h' }) e c d (by decide) ⟨x,H,I1,ru,⟨rfl,fun ys hy=>by rw[I.zF8 hy hq];exact hx⟩,st',fun b hb=>(hf b hb).1⟩⟩
 done:=by
  intro X hP hw hK hc i pins s σ H E I hf st hg
  subst hP hw hK
  obtain⟨xs,hq,hx⟩:=hg
  obtain⟨its,rv,p,hz⟩:=I.tuple hq
  obtain⟨f0,f1,f2,f3,f4,f5⟩:=hf it (by simp)
  have hl:=rv.length
  exact wpAny_pyNext_tuple_end (I.ok.hd hc) st (show s.heap.IsTuple a its.toArray from p) (by simp;bv_omega) fun h' eb=>⟨rfl,I.turned (t':=s.toks) (fun b o hb e=>eb b o hb e) f0 f1 f3 f4 f5⟩
 self:=fun _ _ _ _ _ st h=>wpAny_pyIter_tupleiter st h
theorem zH4 {P:Program}{w:World}{K:KFr}{tg:Expr}(it:Addr) (lo:Int) (n:Nat):Turn P w K tg (Itr lo n) [it] it (fun i h=>IsRangeIter h it (lo+(i:Nat)*1) ((n:Int)-(i:Nat)) 1) where
 mem:=by simp
 obj:=fun i h st b hb=>by
  have e:b=it:=by simpa using hb
  subst e
  exact⟨_,st,fun v z=>by
   have z':Data.fields _=Data.cell v:=z
   cases z'⟩
 keep:=fun i h h' st k=>k it (by simp) _ st
 item:=by
  intro X hP hw hK hc i pins s σ H E I hf st hg
  subst hP hw hK
  obtain⟨f0,f1,f2,f3,f4,f5⟩:=hf it (by simp)
  have W:=Walks.range (prog:=X.prog) (w:=X.w) (I.ok.hd hc) it lo 1 n
  refine W.item i s _ _ hg st fun v h' tk hv st' kk => ?_
  obtain⟨t,rfl⟩:=hv
  have I1:Inv X pins σ H { s with heap:=h',toks:=tk }:=I.turned (fun b o hb e=>kk b o (by simpa using hb) e) f0 f1 f3 f4 f5
  refine⟨_,rfl,zJ4 (s:={ s with heap:=h',toks:=tk }) (n:="range_iterator") st' rfl rfl (by decide) ⟨.int (lo+i),H,I1,⟨t,?_⟩,⟨rfl,rfl⟩,st',fun b hb=>(hf b hb).1⟩⟩
  rw[Int.mul_one]
 done:=by
  intro X hP hw hK hc i pins s σ H E I hf st hg
  subst hP hw hK
  obtain⟨f0,f1,f2,f3,f4,f5⟩:=hf it (by simp)
  exact wpAny_pyNext_range_end (I.ok.hd hc) st (by have:n<=i:=hg;bv_omega) fun h' eb=>⟨rfl,I.turned (t':=s.toks) (fun b o hb e=>eb b o hb e) f0 f1 f3 f4 f5⟩
 self:=fun _ _ _ _ _ st h=>wpAny_pyIter_rangeiter st h
section
variable {X:Cx}{tg:Expr}
def iList (K:KFr) (tl:TE):TI:=fun σ H R=>tl σ H fun x H1=>∃a,x=.ref a/\(∃xs,SqL K H1 a xs)/\R (Itl K a) H1
theorem yI9 {l:Expr}{tl:TE}(hl:PE X l tl):PI X tg l (iList X.K tl):=by
 intro pins s σ H R I h
 refine thn (hl pins s σ H _ I h) fun v s1 ⟨x,H1,I1,r1,q1⟩ => ?_
 obtain⟨a,e,⟨xs,hq⟩,q⟩:=q1
 subst e
 cases r1
 obtain⟨its,rv,p,hz⟩:=I1.list hq
 refine wpAny_pyIter_list p.isList ?_
 refine⟨s1.heap.objs.size,[s1.heap.objs.size],_,_,H1,rfl,I1.kept (t':=s1.toks) fun b o e=>Heap.get?_push_of_some _ e,zY6 a _,⟨_,Heap.get?_push_size _ rfl,rfl,rfl⟩,fun b hb => ?_,q⟩
 have e:b=s1.heap.objs.size:=by simpa using hb
 subst e
 exact I1.fpOk (Nat.le_refl _) (I1.hok.fresh (Nat.le_refl _))
theorem yT9 {pins:List (Addr×Obj)}{σ:St}{H:Hp}{s:Shared}{R:It->Hp->Prop}{E:Value->Shared->Prop}{lo hi:Int}{t u v:Tok}{tk:Nat}(I:Inv X pins σ H s) (h1:-(2 ^ 62)<=lo) (h2:lo<2 ^ 62) (h3:-(2 ^ 62)<=hi) (h4:hi<2 ^ 62)
  (q:R (Itr lo (hi-lo).toNat) H):wpAny (model X.prog X.w) X.A (pyIter (.ref s.heap.objs.size)) (PIE X pins σ tg R) E { s with heap:=s.heap.push { cls:=.type "range",data:=.fields #[.int lo t,.int hi u,.int 1 v] },toks:=tk }:=by
 refine wpAny_pyIter_range (IsRange.new ..) (small_one h1 h2 h3 h4) ?_
 have I1:Inv X pins σ H { s with heap:=s.heap.push { cls:=.type "range",data:=.fields #[.int lo t,.int hi u,.int 1 v] },toks:=tk }:=I.kept fun b o e=>Heap.get?_push_of_some _ e
 refine⟨(s.heap.push { cls:=.type "range",data:=.fields #[.int lo t,.int hi u,.int 1 v] }).objs.size,[(s.heap.push { cls:=.type "range",data:=.fields #[.int lo t,.int hi u,.int 1 v] }).objs.size],_,_,H,rfl,
  I1.kept (t':=tk) fun b o e=>Heap.get?_push_of_some _ e,zH4 _ lo (hi-lo).toNat,?_,fun b hb => ?_,q⟩
 ·have e1:lo+((0:Nat):Int)*1=lo:=by simp
  have e2:(((hi-lo).toNat:Nat):Int)-((0:Nat):Int)=Builtin.Range.rangeSize lo hi 1:=by rw[rangeSize_one];split <;> bv_omega
  show IsRangeIter _ _ (lo+((0:Nat):Int)*1) ((((hi-lo).toNat:Nat):Int)-((0:Nat):Int)) 1
  rw[e1,e2]
  exact Heap.get?_push_size _ rfl
 ·have e:b=(s.heap.push { cls:=.type "range",data:=.fields #[.int lo t,.int hi u,.int 1 v] }).objs.size:=by simpa using hb
  subst e
  exact I1.fpOk (Nat.le_refl _) (I1.hok.fresh (Nat.le_refl _))
def iRng1 (ta:TA):TI:=fun σ H R=>ta σ H fun vs H1=>∃j:Int,vs=[.int j]/\-(2 ^ 62)<=j/\j<2 ^ 62/\R (Itr 0 j.toNat) H1
theorem vN {a:Expr}{ta:TA}{p pos:Pos}(hg:Gl X "range") (hm:X.mg "range" = none) (ha:PA X [a] ta) (hs:autoParam (starEach [a] X.env=[(false,eval a X.env)]) zY._auto_1):PI X tg (.Call (.Name "range" p) [a] [] pos) (iRng1 ta):=by
 intro pins s σ H R I h
 refine Call_ (gF I hg hm boot_range (PyProof.Rows.callWith_type1 (thn (ha pos pins s σ H _ I h) fun us s1 ⟨vs,H1,I1,r1,q1⟩ => ?_) hs rfl))
 obtain⟨j,e,q1,q2,q⟩:=q1
 subst e
 cases r1 with
 | cons r rr =>
  cases rr
  obtain⟨t,rfl⟩:=r
  exact call_range_1 (yT9 I1 (by bv_omega) (by bv_omega) q1 q2 (by simpa using q))
def tFor (wi:TI) (g:TG) (tb:TS):TS:=fun D σ H=>wi σ H fun J H1=>∃W:Nat->Nat->St->Hp->Prop,(∃m,W 0 m σ H1)/\∀i m σ H,W i m σ H ->
 (J.stop i H/\D.nx σ H)\/(J.go i H/\∃N:St->Hp->Prop,(∀σ' H',N σ' H'->∃m',m'<m/\W (i+1) m' σ' H')/\∀x H',J.yld i H x H'->g x σ H' fun σ2 H2=>tb { D with nx:=N,ct:=N,bk:=D.nx } σ2 H2)
def pinsAt (fp:List Addr) (h:Heap):List (Addr×Obj):=fp.filterMap fun b=>(h.get? b).map fun o=>(b,o)
theorem wO {fp:List Addr}{h:Heap}{b:Addr}{o:Obj}(hb:b∈fp) (e:h.get? b=some o):(b,o)∈pinsAt fp h:=List.mem_filterMap.mpr ⟨b,hb,by rw[e];rfl⟩
theorem zB7 {fp:List Addr}{h:Heap}{p:Addr×Obj}(hp:p∈pinsAt fp h):p.1∈fp/\h.get? p.1=some p.2:=by
 obtain⟨b,hb,e⟩:=List.mem_filterMap.mp hp
 cases q:h.get? b with
 | none=>rw[q] at e;cases e
 | some o =>
  rw[q] at e
  have e':(b,o)=p:=Option.some.inj e
  subst e'
  exact⟨hb,q⟩
theorem Inv.pinned {pins:List (Addr×Obj)}{σ:St}{H:Hp}{s:Shared}{fp:List Addr}(I:Inv X pins σ H s) (hf:∀b∈fp,FpOk X pins H b) (ho:∀b∈fp,∃o,s.heap.get? b=some o/\∀v,o.data ≠ .cell v):Inv X (pins++pinsAt fp s.heap) σ H s :=
 I.xT fun p hp=>(List.mem_append.mp hp).elim (fun z=>I.pin p (List.mem_append_right _ z)) fun z=>by
  obtain⟨hb,e⟩:=zB7 z
  obtain⟨f0,f1,f2,_⟩:=hf p.1 hb
  obtain⟨o,e',d⟩:=ho p.1 hb
  rw[e] at e';cases e'
  exact⟨e,f0,f1,f2,d⟩
theorem Inv.unpinned {pins pl:List (Addr×Obj)}{σ:St}{H:Hp}{s:Shared}(I:Inv X (pins++pl) σ H s):Inv X pins σ H s:=I.xT fun p hp=>I.pin p (List.mem_append_right _ (List.mem_append_left _ hp))
theorem bW {iter:Expr}{body:List Stmt}{wi:TI}{g:TG}{tb:TS}{pos:Pos}(hp:PassesOwn (model X.prog X.w) X.A X.env X.xe) (hc:X.calm=true) (hi:PI X tg iter wi) (hg:PG X tg g) (hb:PSs X body tb)
  (hs:autoParam (∀x,foldedSetIterable iter X.env x=pure x) wC._auto_1):PS X (.For tg iter body [] pos) (tFor wi g tb):=by
 intro pins s σ H D I h
 refine wpAny_For (thn (hi pins s σ H _ I h) fun v s1 h1=>thn h1 fun itv s2 h2 => ?_) hs
 obtain⟨it,fp,tn,J,H2,e,I2,T,st2,f2,W,⟨m0,w0⟩,turn⟩:=h2
 subst e
 have stat:∀{H':Hp},(∀b∈fp,H' b=none)->∀b∈fp,FpOk X pins H' b:=fun hn b hb=>⟨hn b hb,(f2 b hb).2⟩
 refine codeAny_forLoop_any (fun n s'=>∃i σ' H',Inv X pins σ' H' s'/\tn i s'.heap/\(∀b∈fp,H' b=none)/\W i n σ' H') ?_ m0 ⟨0,σ,H2,I2,st2,fun b hb=>(f2 b hb).1,w0⟩
 rintro n s3 ⟨i,σ3,H3,I3,st3,fr3,w3⟩
 rcases turn i n σ3 H3 w3 with ⟨stop,qn⟩ | ⟨go,N,hN,step⟩
 ·refine wpAny_passesOwn hp (thn (T.done X rfl rfl rfl hc i pins s3 σ3 H3 X.xe I3 (stat fr3) st3 stop) fun r s4 ⟨hr,I4⟩ => ?_)
  subst hr
  exact wpAny_execs_nil ⟨σ3,H3,I4,qn⟩
 ·refine wpAny_passesOwn hp (thn (T.item X rfl rfl rfl hc i pins s3 σ3 H3 X.xe I3 (stat fr3) st3 go) fun r s4 ⟨u,hr,h4⟩ => ?_)
  subst hr
  refine wpAny_passesOwn hp (thn h4 fun _ s5 ⟨x,H5,I5,r5,y5,st5,fr5⟩ => ?_)
  have I5':=I5.pinned (stat fr5) (T.obj _ _ st5)
  refine wpAny_passesOwn hp (thn (hg _ s5 σ3 H5 x u _ I5' r5 (step x H5 y5)) fun _ s6 ⟨σ6,H6,I6,q6⟩ => ?_)
  refine wpAny_passesOwn hp (thn (hb _ s6 σ6 H6 _ I6 q6) fun f s7 q7 => ?_)
  have again:∀{σ7:St}{H7:Hp},Inv X (pins++pinsAt fp s5.heap) σ7 H7 s7->N σ7 H7->∃m,m<n/\∃i σ' H',Inv X pins σ' H' s7/\tn i s7.heap/\(∀b∈fp,H' b=none)/\W i m σ' H':=fun {σ7 H7} I7 n7=>by
   obtain⟨m',hm,w7⟩:=hN σ7 H7 n7
   refine⟨m',hm,i+1,σ7,H7,I7.unpinned,T.keep _ _ _ st5 fun b hb o e=>(I7.pin (b,o) (List.mem_append_right _ (List.mem_append_right _ (wO hb e)))).1,fun b hb => ?_,w7⟩
   obtain⟨o,e,d⟩:=T.obj _ _ st5 b hb
   exact (I7.pin (b,o) (List.mem_append_right _ (List.mem_append_right _ (wO hb e)))).2.1
  cases f with
  | next=>obtain⟨σ7,H7,I7,n7⟩:=q7;exact again I7 n7
  | cont=>obtain⟨σ7,H7,I7,n7⟩:=q7;exact again I7 n7
  | brk=>obtain⟨σ7,H7,I7,q7⟩:=q7;exact⟨σ7,H7,I7.unpinned,q7⟩
  | ret v=>obtain⟨x7,σ7,H7,I7,r7,q7⟩:=q7;exact⟨x7,σ7,H7,I7.unpinned,r7,q7⟩
end
theorem yT5 {K:KFr}{a:Addr}{xs:List V}{g:TG}{tb:TS}{D:Ends}{σ:St}{H:Hp}(Pv:Nat->St->Hp->Prop) (h0:Pv 0 σ H) (hl:∀i σ H,i<=xs.length->Pv i σ H->SqL K H a xs)
  (hs:∀i x σ H,xs[i]?=some x->Pv i σ H->g x σ H fun σ2 H2=>tb { D with nx:=Pv (i+1),ct:=Pv (i+1),bk:=D.nx } σ2 H2) (hd:∀σ H,Pv xs.length σ H->D.nx σ H) :
  ∃W:Nat->Nat->St->Hp->Prop,(∃m,W 0 m σ H)/\∀i m σ H,W i m σ H ->
   ((Itl K a).stop i H/\D.nx σ H)\/((Itl K a).go i H/\∃N:St->Hp->Prop,(∀σ' H',N σ' H'->∃m',m'<m/\W (i+1) m' σ' H')/\∀x H',(Itl K a).yld i H x H'->g x σ H' fun σ2 H2=>tb { D with nx:=N,ct:=N,bk:=D.nx } σ2 H2):=by
 refine⟨fun i m σ H=>m=xs.length-i/\i<=xs.length/\Pv i σ H,⟨xs.length,by simp,Nat.zero_le _,h0⟩,?_⟩
 rintro i m σ H ⟨rfl,hi,p⟩
 have q:=hl i σ H hi p
 by_cases hlt:i<xs.length
 ·refine .inr ⟨⟨xs,xs[i],q,by simp[hlt]⟩,Pv (i+1),fun σ' H' p'=>⟨xs.length-(i+1),by bv_omega,rfl,hlt,p'⟩,fun x H' y => ?_⟩
  obtain⟨e,y⟩:=y
  subst e
  exact hs i x σ _ (y xs q) p
 ·have e:i=xs.length:=by bv_omega
  subst e
  exact .inl ⟨⟨xs,q,Nat.le_refl _⟩,hd σ H p⟩
theorem aF {lo:Int}{n:Nat}{g:TG}{tb:TS}{D:Ends}{σ:St}{H:Hp}(Pv:Nat->St->Hp->Prop) (h0:Pv 0 σ H)
  (hs:∀i σ H,i<n->Pv i σ H->g (.int (lo+i)) σ H fun σ2 H2=>tb { D with nx:=Pv (i+1),ct:=Pv (i+1),bk:=D.nx } σ2 H2) (hd:∀σ H,Pv n σ H->D.nx σ H) :
  ∃W:Nat->Nat->St->Hp->Prop,(∃m,W 0 m σ H)/\∀i m σ H,W i m σ H ->
   ((Itr lo n).stop i H/\D.nx σ H)\/((Itr lo n).go i H/\∃N:St->Hp->Prop,(∀σ' H',N σ' H'->∃m',m'<m/\W (i+1) m' σ' H')/\∀x H',(Itr lo n).yld i H x H'->g x σ H' fun σ2 H2=>tb { D with nx:=N,ct:=N,bk:=D.nx } σ2 H2):=by
 refine⟨fun i m σ H=>m=n-i/\i<=n/\Pv i σ H,⟨n,by simp,Nat.zero_le _,h0⟩,?_⟩
 rintro i m σ H ⟨rfl,hi,p⟩
 by_cases hlt:i<n
 ·refine .inr ⟨hlt,Pv (i+1),fun σ' H' p'=>⟨n-(i+1),by bv_omega,rfl,hlt,p'⟩,fun x H' y => ?_⟩
  obtain⟨e,y⟩:=y
  subst e y
  exact hs i σ _ hlt p
 ·have e:i=n:=by bv_omega
  subst e
  exact .inl ⟨Nat.le_refl _,hd σ H p⟩
abbrev R2:=V->V->Hp->VK->Prop
def OpR (X:Cx) (f:Value->Value->Sem Value) (r:R2):Prop :=
 ∀(pins:List (Addr×Obj)) (s:Shared) (σ:St) (H:Hp) (x y:V) (v u:Value) (Q:VK),Inv X pins σ H s->RelV x v->RelV y u->r x y H Q ->
  wpAny (model X.prog X.w) X.A (f v u) (EP X pins σ Q) X.xe s
def UnR (X:Cx) (f:Value->Sem Value) (r:V->Hp->VK->Prop):Prop :=
 ∀(pins:List (Addr×Obj)) (s:Shared) (σ:St) (H:Hp) (x:V) (v:Value) (Q:VK),Inv X pins σ H s->RelV x v->r x H Q ->
  wpAny (model X.prog X.w) X.A (f v) (EP X pins σ Q) X.xe s
def CallR (X:Cx) (f:Value) (r:List V->Hp->VK->Prop):Prop :=
 ∀(pins:List (Addr×Obj)) (s:Shared) (σ:St) (H:Hp) (xs:List V) (us:List Value) (Q:VK),Inv X pins σ H s->Vals xs us->r xs H Q ->
  wpAny (model X.prog X.w) X.A (call f us) (EP X pins σ Q) X.xe s
def tOp (r:R2) (ta tb:TE):TE:=fun σ H Q=>ta σ H fun x H1=>tb σ H1 fun y H2=>r x y H2 Q
def tUn (r:V->Hp->VK->Prop) (ta:TE):TE:=fun σ H Q=>ta σ H fun x H1=>r x H1 Q
def rI (C:Int->Int->Prop) (g:Int->Int->V):R2:=fun x y H Q=>∃i j,x=.int i/\y=.int j/\C i j/\Q (g i j) H
def rI0 (g:Int->Int->V):R2:=fun x y H Q=>∃i j,x=.int i/\y=.int j/\Q (g i j) H
def rU (g:Int->V):V->Hp->VK->Prop:=fun x H Q=>∃i,x=.int i/\Q (g i) H
section
variable {X:Cx}{a b c:Expr}{ta tb tc:TE}{pos:Pos}
theorem binT (ha:PE X a ta) (hb:PE X b tb){pins:List (Addr×Obj)}{s:Shared}{σ:St}{H:Hp}{R:V->V->Hp->Prop}(I:Inv X pins σ H s)
  (h:ta σ H fun x H1=>tb σ H1 fun y H2=>R x y H2){Q:Value->Shared->Prop}{f:Value->Value->Sem Value}
  (hf:∀v u s2 x y H2,Inv X pins σ H2 s2->RelV x v->RelV y u->R x y H2->wpAny (model X.prog X.w) X.A (f v u) Q X.xe s2) :
  wpAny (model X.prog X.w) X.A (eval a X.env) (fun v s₁=>wpAny (model X.prog X.w) X.A (eval b X.env) (fun u s₂=>wpAny (model X.prog X.w) X.A (f v u) Q X.xe s₂) X.xe s₁) X.xe s:=by
 refine thn (ha pins s σ H _ I h) fun v s1 ⟨x,H1,I1,r1,q1⟩ => ?_
 refine thn (hb pins s1 σ H1 _ I1 q1) fun u s2 ⟨y,H2,I2,r2,q2⟩ => ?_
 exact hf v u s2 x y H2 I2 r1 r2 q2
theorem qU {op:Operator}{r:R2}(ho:OpR X (binaryOp op) r) (ha:PE X a ta) (hb:PE X b tb):PE X (.BinOp a op b pos) (tOp r ta tb):=by
 intro pins s σ H Q I h
 exact wpAny_BinOp (binT ha hb I h fun v u s2 x y H2 I2 rx ry q=>ho pins s2 σ H2 x y v u Q I2 rx ry q)
theorem xR7 {op:UnaryOp}{r:V->Hp->VK->Prop}(ho:UnR X (unaryOp op) r) (ha:PE X a ta):PE X (.UnaryOp op a pos) (tUn r ta):=by
 intro pins s σ H Q I h
 exact UnaryOp_ (thn (ha pins s σ H _ I h) fun v s1 ⟨x,H1,I1,r1,q1⟩=>ho pins s1 σ H1 x v Q I1 r1 q1)
theorem opI {f:Value->Value->Sem Value}{C:Int->Int->Prop}{g:Int->Int->Int}
  (rule:∀(i j:Int) (t u:Tok) (s:Shared) (Q:Value->Shared->Prop) (E:Value->Shared->Prop),C i j->Q (.int (g i j) s.toks) { s with toks:=s.toks+1 }->wpAny (model X.prog X.w) X.A (f (.int i t) (.int j u)) Q E s) :
  OpR X f (rI C fun i j=>.int (g i j)):=by
 intro pins s σ H x y v u Q I rx ry h
 obtain⟨i,j,rfl,rfl,hc,q⟩:=h
 obtain⟨t,rfl⟩:=rx
 obtain⟨t',rfl⟩:=ry
 exact rule i j t t' s _ _ hc ⟨.int (g i j),H,I.tok _,⟨_,rfl⟩,q⟩
theorem opI0 {f:Value->Value->Sem Value}{g:Int->Int->Int}
  (rule:∀(i j:Int) (t u:Tok) (s:Shared) (Q:Value->Shared->Prop) (E:Value->Shared->Prop),Q (.int (g i j) s.toks) { s with toks:=s.toks+1 }->wpAny (model X.prog X.w) X.A (f (.int i t) (.int j u)) Q E s) :
  OpR X f (rI0 fun i j=>.int (g i j)):=by
 intro pins s σ H x y v u Q I rx ry h
 obtain⟨i,j,rfl,rfl,q⟩:=h
 obtain⟨t,rfl⟩:=rx
 obtain⟨t',rfl⟩:=ry
 exact rule i j t t' s _ _ ⟨.int (g i j),H,I.tok _,⟨_,rfl⟩,q⟩
theorem opB0 {f:Value->Value->Sem Value}{g:Int->Int->Bool}
  (rule:∀(i j:Int) (t u:Tok) (s:Shared) (Q:Value->Shared->Prop) (E:Value->Shared->Prop),Q (.bool (g i j)) s->wpAny (model X.prog X.w) X.A (f (.int i t) (.int j u)) Q E s) :
  OpR X f (rI0 fun i j=>.bl (g i j)):=by
 intro pins s σ H x y v u Q I rx ry h
 obtain⟨i,j,rfl,rfl,q⟩:=h
 obtain⟨t,rfl⟩:=rx
 obtain⟨t',rfl⟩:=ry
 exact rule i j t t' s _ _ ⟨.bl (g i j),H,I,rfl,q⟩
def CPow (i j:Int):Prop:=0<=j/\j<=1000000/\i.natAbs<2 ^ 64
theorem vJ:OpR X (binaryOp .Add) (rI0 fun i j=>.int (i+j)):=opI0 fun _ _ _ _ _ _ _ q=>add_int q
theorem cD:OpR X (binaryOp .Sub) (rI0 fun i j=>.int (i-j)):=opI0 fun _ _ _ _ _ _ _ q=>sub_int q
theorem uJ:OpR X (binaryOp .Mod) (rI (fun _ j=>0<j) fun i j=>.int (i%j)):=opI fun i j _ _ _ _ _ hc q=>by
 have h1:(0:Int)<j:=hc
 exact mod_int' (by bv_omega) (by rw[Int.fmod_eq_emod_of_nonneg i (by bv_omega)];exact q)
theorem xX3:OpR X (binaryOp .Pow) (rI CPow fun i j=>.int (i ^ j.toNat)):=opI fun _ _ _ _ _ _ _ hc q=>pow_int_small hc.1 hc.2.1 hc.2.2 q
theorem unI {f:Value->Sem Value}{g:Int->Int}
  (rule:∀(i:Int) (t:Tok) (s:Shared) (Q:Value->Shared->Prop) (E:Value->Shared->Prop),Q (.int (g i) s.toks) { s with toks:=s.toks+1 }->wpAny (model X.prog X.w) X.A (f (.int i t)) Q E s) :
  UnR X f (rU fun i=>.int (g i)):=by
 intro pins s σ H x v Q I rx h
 obtain⟨i,rfl,q⟩:=h
 obtain⟨t,rfl⟩:=rx
 exact rule i t s _ _ ⟨.int (g i),H,I.tok _,⟨_,rfl⟩,q⟩
theorem xX2:UnR X (unaryOp .USub) (rU fun i=>.int (-i)):=unI fun _ _ _ _ _ q=>neg_int q
end
section
variable {X:Cx}{a b c:Expr}{ta tb tc:TE}{pos:Pos}
theorem xX9 {pins:List (Addr×Obj)}{σ:St}{H:Hp}{s:Shared}{Q:VK}{k k':Bool}(I:Inv X pins σ H s) (q:Q (.bl k) H) (e:k=k'):EP X pins σ Q (.bool k') s:=by
 subst e
 exact⟨.bl k,H,I,rfl,q⟩
theorem yP9:OpR X (compareOp .Lt) (rI0 fun i j=>.bl (decide (i<j))):=opB0 fun _ _ _ _ _ _ _ q=>lt_int q
theorem cQ:OpR X (compareOp .LtE) (rI0 fun i j=>.bl (decide (i<=j))):=opB0 fun _ _ _ _ _ _ _ q=>le_int q
theorem yN7:OpR X (compareOp .Gt) (rI0 fun i j=>.bl (decide (j<i))):=opB0 fun _ _ _ _ _ _ _ q=>gt_int q
theorem yI7:OpR X (compareOp .IsNot) (fun x y H Q=>y=.non/\Q (.bl (!decide (x=.non))) H):=by
 intro pins s σ H x y v u Q I rx ry h
 obtain⟨rfl,q⟩:=h
 cases ry
 refine isnot_none_gen (xX9 I q ?_)
 cases x <;> first
  | (cases rx;rfl)
  | (obtain⟨t,rfl⟩:=rx;rfl)
def isObj:HO->Bool
 | .lst _=>true
 | .ins _ _ _=>true
 | _=>false
theorem gW {pins:List (Addr×Obj)}{s:Shared}{σ:St}{H:Hp}{a:Addr}{o:HO}(I:Inv X pins σ H s) (h:H a=some o) (p:isObj o=true):∃ob,s.heap.get? a=some ob/\ob.cls ≠ .type "tuple":=by
 cases o with
 | lst xs =>
  obtain⟨_,its,n,_,e⟩:xs.length<=sizeLine/\∃(its:List Value) (n:Nat),Vals xs its/\s.heap.get? a=some { cls:=.type "list",data:=.seq its.toArray n }:=I.hok a _ h
  exact⟨_,e,(by show Value.type "list" ≠ .type "tuple";decide +kernel)⟩
 | ins C dx fs =>
  have x:=I.hok a _ h
  obtain⟨_,_,_,e,_⟩:=x
  exact⟨_,e,(by show Value.ref C ≠ .type "tuple";exact fun z=>by cases z)⟩
 | _=>exact absurd (show false=true from p) Bool.false_ne_true
theorem nomark (b:Expr){op:CmpOp}(h:autoParam (op ≠ .In) zK._auto_1) (h2:autoParam (op ≠ .NotIn) zK._auto_1):behindInMarks op b=false:=by
 have e1:(op == CmpOp.In)=false:=by cases op <;> first | rfl | exact absurd rfl h
 have e2:(op == CmpOp.NotIn)=false:=by cases op <;> first | rfl | exact absurd rfl h2
 cases b <;> simp[behindInMarks,e1,e2]
theorem zN5 {op:CmpOp}{r:R2}(ho:OpR X (compareOp op) r) (ha:PE X a ta) (hb:PE X b tb) (hm:behindInMarks op b=false):PE X (.Compare a [op] [b] pos) (tOp r ta tb):=by
 intro pins s σ H Q I h
 exact wpAny_Compare1 (binT ha hb I h fun v u s2 x y H2 I2 rx ry q=>ho pins s2 σ H2 x y v u Q I2 rx ry q) hm
def tTest (t:TE):TT:=fun σ H Q=>t σ H fun x H'=>∃k,x=.bl k/\Q k H'
theorem wI {op:CmpOp}{r:R2}(ho:OpR X (compareOp op) r) (ha:PE X a ta) (hb:PE X b tb) (hm:behindInMarks op b=false):PT X (.Compare a [op] [b] pos) (tTest (tOp r ta tb)):=by
 intro pins s σ H Q I h
 refine wpAny_isTrue_Compare1 (thn (ha pins s σ H _ I h) fun v s1 ⟨x,H1,I1,r1,q1⟩=>thn (hb pins s1 σ H1 _ I1 q1) fun u s2 ⟨y,H2,I2,r2,q2⟩ =>
  thn (ho pins s2 σ H2 x y v u _ I2 r1 r2 q2) fun c s3 ⟨z,H3,I3,r3,k,e,q3⟩ => ?_) hm
 subst e
 cases r3
 exact wpAny_truthy_bool ⟨H3,I3,q3⟩
def tChain (r r':R2) (ta tb tc:TE):TE:=fun σ H Q=>ta σ H fun x H1=>tb σ H1 fun y H2=>r x y H2 fun z H3=>∃k,z=.bl k /\
 (if k=true then tc σ H3 fun w' H4=>r' y w' H4 Q else Q (.bl false) H3)
theorem yR6 {op op':CmpOp}{r r':R2}(ho:OpR X (compareOp op) r) (ho':OpR X (compareOp op') r') (ha:PE X a ta) (hb:PE X b tb) (hc:PE X c tc)
  (hm:autoParam (lastMarks [op,op'] [b,c]=false) bV._auto_1):PE X (.Compare a [op,op'] [b,c] pos) (tChain r r' ta tb tc):=by
 intro pins s σ H Q I h
 refine Compare_chain (thn (ha pins s σ H _ I h) fun v s1 ⟨x,H1,I1,r1,q1⟩=>chain_link (thn (hb pins s1 σ H1 _ I1 q1) fun u s2 ⟨y,H2,I2,r2,q2⟩ =>
  thn (ho pins s2 σ H2 x y v u _ I2 r1 r2 q2) fun d s3 ⟨z,H3,I3,r3,k,e,q3⟩ => ?_)) hm
 subst e
 cases r3
 refine wpAny_truthy_bool ?_
 cases k with
 | false=>exact ite_ff ⟨.bl false,H3,I3,rfl,q3⟩
 | true=>exact ite_tt (chain_last (thn (hc pins s3 σ H3 _ I3 q3) fun w' s4 ⟨z',H4,I4,r4,q4⟩=>ho' pins s4 σ H4 y z' u w' Q I4 r2 r4 q4))
theorem yV5 {op op':CmpOp}{r r':R2}(ho:OpR X (compareOp op) r) (ho':OpR X (compareOp op') r') (ha:PE X a ta) (hb:PE X b tb) (hc:PE X c tc)
  (hm:autoParam (lastMarks [op,op'] [b,c]=false) bV._auto_1):PT X (.Compare a [op,op'] [b,c] pos) (tTest (tChain r r' ta tb tc)):=by
 intro pins s σ H Q I h
 refine isTrue_chain (thn (ha pins s σ H _ I h) fun v s1 ⟨x,H1,I1,r1,q1⟩=>test_link (thn (hb pins s1 σ H1 _ I1 q1) fun u s2 ⟨y,H2,I2,r2,q2⟩ =>
  thn (ho pins s2 σ H2 x y v u _ I2 r1 r2 q2) fun d s3 ⟨z,H3,I3,r3,k,e,q3⟩ => ?_)) hm
 subst e
 cases r3
 refine wpAny_truthy_bool ?_
 cases k with
 | false =>
  obtain⟨k',e',q'⟩:=q3
  cases e'
  exact ite_ff ⟨H3,I3,q'⟩
 | true =>
  refine ite_tt (test_last (thn (hc pins s3 σ H3 _ I3 q3) fun w' s4 ⟨z',H4,I4,r4,q4⟩=>thn (ho' pins s4 σ H4 y z' u w' _ I4 r2 r4 q4) fun d' s5 ⟨z2,H5,I5,r5,k2,e2,q5⟩ => ?_))
  subst e2
  cases r5
  exact wpAny_truthy_bool ⟨H5,I5,q5⟩
theorem line63:(sizeLine:Nat)<2 ^ 63:=by rw[sizeLine_eq];decide
theorem vals1 {x:V}{us:List Value}(r:Vals [x] us):∃u,us=[u]/\RelV x u:=by
 cases r with
 | cons r1 r2=>cases r2;exact⟨_,rfl,r1⟩
theorem vals2 {x y:V}{us:List Value}(r:Vals [x,y] us):∃u w',us=[u,w']/\RelV x u/\RelV y w':=by
 cases r with
 | cons r1 r2 =>
  cases r2 with
  | cons r3 r4=>cases r4;exact⟨_,_,rfl,r1,r3⟩
theorem zA9 (hc:X.calm=true):CallR X (.builtin "max") (fun xs H Q=>∃i j,xs=[.int i,.int j]/\Q (.int (if j > i then j else i)) H):=by
 intro pins s σ H xs us Q I r h
 obtain⟨i,j,rfl,q⟩:=h
 obtain⟨u,w',rfl,⟨t,rfl⟩,⟨t',rfl⟩⟩:=vals2 r
 refine max_two_ints (I.ok.hd hc) fun h' tk k=>⟨_,H,I.kept k,?_,q⟩
 by_cases hj:j > i
 ·rw[if_pos hj,if_pos hj];exact⟨_,rfl⟩
 ·rw[if_neg hj,if_neg hj];exact⟨_,rfl⟩
theorem yY5:CallR X (.type "int") (fun xs H Q=>(∃i,xs=[.int i]/\Q (.int i) H)\/∃k,xs=[.bl k]/\Q (.int (if k then 1 else 0)) H):=by
 intro pins s σ H xs us Q I r h
 rcases h with ⟨i,rfl,q⟩ | ⟨k,rfl,q⟩
 ·obtain⟨u,rfl,t,rfl⟩:=vals1 r
  exact call_int_int ⟨.int i,H,I,⟨_,rfl⟩,q⟩
 ·obtain⟨u,rfl,r1⟩:=vals1 r
  cases r1
  exact call_int_bool ⟨.int (if k then 1 else 0),H,I.tok _,⟨_,rfl⟩,q⟩
end
structure ObjM (h:Heap) (x dx C:Addr) (mA:Str->Option Value):Prop where
 obj:h.get? x=some (PySem.W.instObj C dx)
 ns:h.Ns1 dx mA
 ne:dx≠x
theorem zD7 {h:Heap}{dx:Addr}{mA:Str->Option Value}(n:h.Ns1 dx mA):∃od,h.get? dx=some od/\∀name,PySem.W.lookIn name od=some (mA name):=by
 obtain⟨o,es,ep,ho,hd,hk,_,hm⟩:=n
 refine⟨o,ho,fun name => ?_⟩
 have e:=hm name
 unfold nsFind findBy at e
 rw[<-Array.find?_toList] at e
 unfold PySem.W.lookIn
 rw[hd]
 dsimp only
 split
 ·rename_i y q
  rw[q] at e
  exact congrArg some e
 ·rename_i q
  rw[q] at e
  have a:es.toList.any (·.refKey)=false:=by
   rw[List.any_eq_false]
   intro y hy
   obtain⟨z,t,hkey⟩:=hk y (Array.mem_toList_iff.mp hy)
   simp[DictEntry.refKey,hkey]
  have a':¬es.toList.any (·.refKey)=true:=by rw[a];exact Bool.false_ne_true
  rw[if_neg a']
  exact congrArg some e
theorem ObjM.look {h:Heap}{x dx C:Addr}{mA:Str->Option Value}(I:ObjM h x dx C mA):∃od,PySem.W.InstAt h x (PySem.W.instObj C dx) C (some od)/\∀name,PySem.W.lookIn name od=some (mA name) :=
 let ⟨od,ho,hl⟩:=zD7 I.ns
 ⟨od,⟨I.obj,rfl,rfl,ho⟩,hl⟩
section
variable {prog:Program}{w:World}{A:Around}{E:Value->Shared->Prop}{s:Shared}{K:KFr}{x dx C f:Addr}{mA:Str->Option Value}{name:Str}{v:Value}
end
section
variable {P:Program}{w:World}{H H':Hp}{h h':Heap}{a C dx:Addr}{fs fs':List (Str×V)}
theorem yM9 (hok:HOk P w H h) (e:H a=some (.ins C dx fs)):∃mA,ObjM h a dx C mA/\(∀f,RelO (fs.lookup f) (mA f))/\PySem.Within mA (fs.map (·.1))/\fs.length<=1000/\H dx=some (.own a):=by
 obtain⟨d,z,ne,ob,mA,n,r,q⟩:=(show ObjOk P w H h a (.ins C dx fs) from hok a _ e)
 exact⟨mA,⟨ob,n,ne⟩,r,q,z,d⟩
end
structure Cls (K:KFr) (C:Addr):Prop where
 pg:PySem.W.plainGet K C Str.empty=true
 hd:PySem.W.hasDictIn K C=true
 po:PySem.W.plainOver K C=true
 sa:PySem.W.findIn K (.ref C) "__setattr__" = some (some (.builtin "object.__setattr__"))
theorem Cls.get {K:KFr}{C:Addr}(c:Cls K C) (f:Str):PySem.W.plainGet K C f=true:=c.pg
structure Con (K:KFr) (C:Addr) (f:Str) (v:V) (u:Value):Prop where
 at_:PySem.W.findIn K (.ref C) f=some (some u)
 rel:RelV v u
 get:PySem.W.specialIn K u "__get__" = some none
 cp:PySem.W.copiedNames.contains f=false
structure Meth (K:KFr) (C:Addr) (m:Str) (f:Addr):Prop where
 at_:PySem.W.findIn K (.ref C) m=some (some (.ref f))
 fn:PySem.W.isFn K (.ref f)=true
 kp:PySem.W.keepIn K (.ref f)=true
section
variable {X:Cx}{pins:List (Addr×Obj)}{σ:St}{H:Hp}{s:Shared}{a C dx:Addr}{fs:List (Str×V)}{f:Str}{v:V}{A:Around}{E:Value->Shared->Prop}
end
section
variable {X:Cx}{o e value:Expr}{f:Str}{pos pos' tpos:Pos}{ta tv:TE}
def rAdd:V->V->Hp->VK->Prop:=fun x y H Q=>∃i j,x=.int i/\y=.int j/\Q (.int (i+j)) H
def rSub:V->V->Hp->VK->Prop:=fun x y H Q=>∃i j,x=.int i/\y=.int j/\Q (.int (i-j)) H
end
section
variable {X:Cx}{pins:List (Addr×Obj)}{σ:St}{H:Hp}{s:Shared}{A:Around}{E:Value->Shared->Prop}{Q:Value->Shared->Prop}{c:Value}{b:Bool}
inductive TyOf (K:KFr) (H:Hp):V->Value->Prop where
 | non:TyOf K H .non (.type "NoneType")
 | bl (x:Bool):TyOf K H (.bl x) (.type "bool")
 | int (i:Int):TyOf K H (.int i) (.type "int")
 | str (x:Str):TyOf K H (.str x) (.type "str")
 | flt (x:UInt64):TyOf K H (.flt x) (.type "float")
 | lst {a:Addr}{xs:List V}(e:H a=some (.lst xs)):TyOf K H (.ref a) (.type "list")
 | frz {a:Addr}{o:Obj}{xs:List V}(e:H a=some (.frz o (.lst xs))):TyOf K H (.ref a) (.type "list")
 | tup {a:Addr}{xs:List V}(e:H a=some (.tup xs)):TyOf K H (.ref a) (.type "tuple")
 | dK {a:Addr}{kvs:List (Key×V)}(e:H a=some (.dK kvs)):TyOf K H (.ref a) (.type "dict")
 | dT {a:Addr}{kvs:List (List Key×V)}(e:H a=some (.dT kvs)):TyOf K H (.ref a) (.type "dict")
 | ins {a C dx:Addr}{fs:List (Str×V)}(e:H a=some (.ins C dx fs)) (cl:Cls K C) (ha:PySem.W.findIn K (.ref C) "__class__" = some (some (.builtin "object.__class__")))
   (hn:PySem.W.specialIn K (.builtin "object.__class__") "__get__" = some (some (.builtin "getset_descriptor.__get__"))) (htk:PySem.W.takesIn K (.builtin "object.__class__")=some true)
   (hm:PySem.W.mroIn K C (.type "object")=some true):TyOf K H (.ref a) (.ref C)
theorem zB3 {x:V}{u t:Value}(I:Inv X pins σ H s) (rx:RelV x u) (ty:TyOf X.K H x t) (e:PySem.W.kitOne X.K t c=some b) (h:∀tk,Q (.bool b) { s with toks:=tk }) :
  wpAny (model X.prog X.w) A (call (.builtin "isinstance") [u,c]) Q E s:=by
 cases ty with
 | non=>cases (show u=Value.none from rx);exact PySem.W.kia_one PySem.W.kitx_none I.kIn True.intro e (fun z=>nomatch z) h
 | bl y=>cases (show u=Value.bool y from rx);exact PySem.W.kia_one PySem.W.kitx_bool I.kIn True.intro e (fun z=>nomatch z) h
 | int i=>obtain⟨t,q⟩:=(show ∃t,u=Value.int i t from rx);cases q;exact PySem.W.kia_one PySem.W.kitx_int I.kIn True.intro e (fun z=>nomatch z) h
 | str y=>obtain⟨t,q⟩:=(show ∃t,u=Value.str y t from rx);cases q;exact PySem.W.kia_one PySem.W.kitx_str I.kIn True.intro e (fun z=>nomatch z) h
 | flt y=>obtain⟨t,q⟩:=(show ∃t,u=Value.float y t from rx);cases q;exact PySem.W.kia_one PySem.W.kitx_float I.kIn True.intro e (fun z=>nomatch z) h
 | @lst a xs ea =>
  cases (show u=Value.ref a from rx)
  obtain⟨_,_,n,_,h1⟩:=(show ObjOk X.prog X.w H s.heap a (.lst xs) from I.hok a _ ea)
  exact PySem.W.kia_one PySem.W.kitx_list I.kIn ⟨_,h1,rfl⟩ e (fun z=>nomatch z) h
 | @frz a ob xs ea =>
  cases (show u=Value.ref a from rx)
  obtain⟨_,_,_,n,_,h1⟩:=(show ObjOk X.prog X.w H s.heap a (.frz ob (.lst xs)) from I.hok a _ ea)
  exact PySem.W.kia_one PySem.W.kitx_list I.kIn ⟨_,h1,rfl⟩ e (fun z=>nomatch z) h
 | @tup a xs ea =>
  cases (show u=Value.ref a from rx)
  obtain⟨_,_,_,p⟩:=(show ObjOk X.prog X.w H s.heap a (.tup xs) from I.hok a _ ea)
  obtain⟨o,h1,h2,_⟩:=p
  exact PySem.W.kia_one PySem.W.kitx_tuple I.kIn ⟨o,h1,h2⟩ e (fun z=>nomatch z) h
 | @dK a kvs ea =>
  cases (show u=Value.ref a from rx)
  obtain⟨_,_,vs,_,p⟩:=(show ObjOk X.prog X.w H s.heap a (.dK kvs) from I.hok a _ ea)
  obtain⟨o,es,ep,h1,h2,_⟩:=p
  exact PySem.W.kia_one PySem.W.kitx_dict I.kIn ⟨o,h1,h2.1⟩ e (fun z=>nomatch z) h
 | @dT a kvs ea =>
  cases (show u=Value.ref a from rx)
  obtain⟨_,_,xs,_,o,es,ep,h1,h2,_⟩:=(show ObjOk X.prog X.w H s.heap a (.dT kvs) from I.hok a _ ea)
  exact PySem.W.kia_one PySem.W.kitx_dict I.kIn ⟨o,h1,h2.1⟩ e (fun z=>nomatch z) h
 | @ins a C dx fs ea cl ha hn htk hm =>
  cases (show u=Value.ref a from rx)
  obtain⟨mA,O,_⟩:=yM9 I.hok ea
  obtain⟨od,J,_⟩:=O.look
  exact PySem.W.kia_one (PySem.W.kitx_own (cl.get _) cl.hd ha hn htk hm) I.kIn J e (fun z=>nomatch z) h
end
structure Room (k:Nat) (A:Around):Prop where
 hd:A.handled=none
 dp:A.depth+3*k+5<recursionLimit
 un:A.units+16*k+200<cLine
theorem Room.mono {j k:Nat}{A:Around}(r:Room k A) (h:j<=k):Room j A:=⟨r.hd,by have:=r.dp;bv_omega,by have:=r.un;bv_omega⟩
theorem Room.deeper {k:Nat}{A:Around}(r:Room (k+1) A) (env:Env):Room k (A.deeper env) :=
 ⟨r.hd,by have:=r.dp;show A.depth+1+3*k+5<_;bv_omega,by have:=r.un;show A.units+3+16*k+200<_;bv_omega⟩
theorem Room.in1 {k:Nat}{A:Around}(r:Room (k+1) A):Room k A.in1 :=
 ⟨r.hd,by have:=r.dp;show A.depth+3*k+5<_;bv_omega,by have:=r.un;show A.units+1+16*k+200<_;bv_omega⟩
theorem Room.depth {k:Nat}{A:Around}(r:Room k A):A.depth<recursionLimit:=by have:=r.dp;bv_omega
theorem Room.units {k:Nat}{A:Around}(r:Room k A):A.units+64<cLine:=by have:=r.un;bv_omega
def tNil:TA:=fun _ H Q=>Q [] H
def zP (ta:TE) (tr:TA):TA:=fun σ H Q=>ta σ H fun x H1=>tr σ H1 fun xs H2=>Q (x::xs) H2
section
variable {X:Cx}{e:Expr}{es:List Expr}{te:TE}{t:TA}{pos:Pos}
theorem zO:PA X [] tNil:=fun _ _ _ _ H Q I h=>Calls.spliced_nil ⟨[],H,I,.nil,h⟩
theorem zU (ha:PE X e te) (hr:PA X es t) (hs:autoParam (starEach (e::es) X.env=(false,eval e X.env)::starEach es X.env) zY._auto_1):PA X (e::es) (zP te t):=by
 intro pos pins s σ H Q I h
 rw[hs]
 show wpAny _ _ (spliced ((false,eval e X.env)::backTo pos (starEach es X.env))) _ _ s
 refine Calls.spliced_cons (thn (ha pins s σ H _ I h) fun u s1 ⟨x,H1,I1,r1,q1⟩ => ?_)
 exact thn (hr pos pins s1 σ H1 _ I1 q1) fun us s2 ⟨xs,H2,I2,r2,q2⟩=>⟨x::xs,H2,I2,.cons r1 r2,q2⟩
def tTup (t:TA):TE:=fun σ H Q=>t σ H fun xs H1=>xs.length<=sizeLine/\∀p,H1 p=none->Q (.ref p) (upd H1 p (.tup xs))
def tLst (t:TA):TE:=fun σ H Q=>t σ H fun xs H1=>xs.length<=sizeLine/\∀p,H1 p=none->Q (.ref p) (upd H1 p (.lst xs))
theorem qL {x1} (h:PA X es t):PE X (.Tuple es x1 pos) (tTup t):=by
 intro pins s σ H Q I hq
 refine wpAny_Tuple_spliced (thn (h pos pins s σ H _ I hq) fun us s1 ⟨xs,H1,I1,r,z,q⟩=>⟨by rw[<-r.length];exact z,?_⟩)
 have hf:H1 s1.heap.objs.size=none:=I1.hok.fresh (Nat.le_refl _)
 refine⟨.ref s1.heap.objs.size,upd H1 s1.heap.objs.size (.tup xs),I1.laid (t':=s1.toks) (fun b u e=>Heap.get?_push_of_some _ e) (Nat.le_refl _) ?_,rfl,q _ hf⟩
 exact⟨z,us,r,TupAt.new _ _⟩
theorem xV (h:PA X es t):PE X (.List es pos) (tLst t):=by
 intro pins s σ H Q I hq
 refine wpAny_List_spliced (thn (h pos pins s σ H _ I hq) fun us s1 ⟨xs,H1,I1,r,z,q⟩=>⟨by rw[<-r.length];exact z,?_⟩)
 have hf:H1 s1.heap.objs.size=none:=I1.hok.fresh (Nat.le_refl _)
 refine⟨.ref s1.heap.objs.size,upd H1 s1.heap.objs.size (.lst xs),I1.laid (t':=s1.toks) (fun b u e=>Heap.get?_push_of_some _ e) (Nat.le_refl _) ?_,rfl,q _ hf⟩
 exact⟨z,us,0,r,Heap.get?_push_size _ rfl⟩
end
abbrev Sp:=List V->Hp->VK->XK->Prop
abbrev CXT:=List Env->Hp->Shared->XK->Value->Shared->Prop
structure Env0 (P:Program) (w:World) (K:KFr) (mg:Str->Option Value) (base:Heap) (A:Around) (outer:List Env) (s:Shared) (H:Hp):Prop where
 frames:A.frames=some outer
 mod:Mod K mg base
 bs:∀b o,base.get? b=some o->s.heap.get? b=some o/\H b=none
 bsz:base.objs.size<=s.heap.objs.size
 funs:s.heap.FunFrames base outer
 frf:∀b∈frs outer,H b=none
 hok:HOk P w H s.heap
 bare:AllBare s.gens
 tb:TabsIn K H
def CE (outer:List Env) (P:Program) (w:World) (H:Hp) (s:Shared) (Q:VK) (u:Value) (s':Shared):Prop :=
 ∃v H',s'.os=s.os/\AllBare s'.gens/\Un (frs outer) [] H H' s.heap s'.heap/\HOk P w H' s'.heap/\RelV v u/\Q v H'
def CR (CX:CXT) (outer:List Env) (P:Program) (w:World) (H:Hp) (s:Shared) (Q:VK) (E:XK) (r:Result) (s':Shared):Prop :=
 match r with
 | .ok (.ret u)=>CE outer P w H s Q u s'
 | .ok _=>False
 | .error e=>CX outer H s E e s'
structure FnOk (P:Program) (w:World) (K:KFr) (mg:Str->Option Value) (base:Heap) (CX:CXT) (k:Nat) (f:Addr) (fd:FuncData) (ps:List Str) (sp:Sp):Prop where
 len:∀vs H Q E,sp vs H Q E->vs.length=ps.length
 run:∀(A:Around) (outer:List Env) (s:Shared) (H:Hp) (args:Args) (us:List Value) (vs:List V) (Q:VK) (E:XK),Room k A->Env0 P w K mg base A outer s H->BindsTo s fd args (ps.zip us)->Vals vs us->sp vs H Q E ->
  codeAny (model P w) A (.call (.ref f) args) (CR CX outer P w H s Q E) s
theorem FnOk.imp {P:Program}{w:World}{K:KFr}{mg:Str->Option Value}{base:Heap}{CX:CXT}{k:Nat}{f:Addr}{fd:FuncData}{ps:List Str}{sp sp':Sp}(F:FnOk P w K mg base CX k f fd ps sp)
  (h:∀vs H Q E,sp' vs H Q E->sp vs H Q E):FnOk P w K mg base CX k f fd ps sp' :=
 ⟨fun vs H Q E q=>F.len vs H Q E (h _ _ _ _ q),fun A outer s H args us vs Q E hr he hb hv hs=>F.run A outer s H args us vs Q E hr he hb hv (h _ _ _ _ hs)⟩
section
variable {X:Cx}{pins:List (Addr×Obj)}{σ:St}{H:Hp}{s s':Shared}
theorem Inv.env0 (I:Inv X pins σ H s):Env0 X.prog X.w X.K X.mg X.base X.A X.stack s H :=
 ⟨I.ok.frames,I.ok.mod,I.bs,Nat.le_trans I.ok.bsz I.sz,I.stack,I.stkFree,I.hok,I.bare,I.tb⟩
theorem Inv.after {Q:VK}{u:Value}(I:Inv X pins σ H s) (h:CE X.stack X.prog X.w H s Q u s'):EP X pins σ Q u s':=by
 obtain⟨v,H',os,bare,un,hok,r,q⟩:=h
 obtain⟨hh,g,d,t,os'⟩:=s'
 obtain rfl:os'=s.os:=os
 exact⟨v,H',I.call (h':=hh) (g':=g) (d':=d) (t':=t) (ch:=[]) un hok bare (fun b z=>absurd z (by simp)),r,q⟩
end
def tCall (sp:Sp) (dvs:List V) (E:XK) (t:TA):TE:=fun σ H Q=>t σ H fun vs H1=>sp (vs++dvs) H1 Q E
def Binds (K:KFr) (fd:FuncData) (ps:List Str) (ds:List Value):Prop :=
 ∀(s:Shared) (us:List Value),K.In s.heap->(us++ds).length=ps.length->BindsTo s fd ⟨us,[]⟩ (ps.zip (us++ds))
theorem Binds.all {K:KFr}{fd:FuncData}{ps:List Str}(h:∀us:List Value,us.length=ps.length->bindArgs fd ⟨us,[]⟩=pure (ps.zip us)):Binds K fd ps []:=fun s us _ hl=>by
 rw[List.append_nil] at hl ⊢
 exact .of_eq (h us hl)
def Passes (CX:CXT) (X:Cx) (E:XK):Prop:=∀(pins:List (Addr×Obj)) (σ:St) (H:Hp) (s:Shared) (e:Value) (s':Shared),Inv X pins σ H s->CX X.stack H s E e s'->X.xe e s'
section
variable {X:Cx}{CX:CXT}{k:Nat}{f C:Addr}{fd:FuncData}{ps:List Str}{sp:Sp}{dvs:List V}{ds:List Value}{E:XK}{x m:Str}{p pos apos:Pos}{e o:Expr}{es:List Expr}{ta:TE}{t:TA}
theorem xX5 {pins:List (Addr×Obj)}{σ:St}{H:Hp}{s:Shared}{Q:VK}{us:List Value}{vs:List V}(F:FnOk X.prog X.w X.K X.mg X.base CX k f fd ps sp) (hr:Room k X.A) (hb:Binds X.K fd ps ds) (hd:Vals dvs ds) (hx:Passes CX X E)
  (I:Inv X pins σ H s) (r:Vals vs us) (h:sp (vs++dvs) H Q E):wpAny (model X.prog X.w) X.A (call (.ref f) us) (EP X pins σ Q) X.xe s:=by
 have r2:Vals (vs++dvs) (us++ds):=r.append hd
 have hl:(us++ds).length=ps.length:=by rw[<-r2.length];exact F.len _ _ _ _ h
 refine wpAny_call (codeAny_mono (F.run X.A X.stack s H ⟨us,[]⟩ (us++ds) (vs++dvs) Q E hr I.env0 (hb s us I.kIn hl) r2 h) fun r s' hq => ?_)
 cases r with
 | error e=>exact hx pins σ H s e s' I hq
 | ok fl =>
  cases fl with
  | ret u=>exact I.after hq
  | next=>exact False.elim hq
  | brk=>exact False.elim hq
  | cont=>exact False.elim hq
theorem yP (F:FnOk X.prog X.w X.K X.mg X.base CX k f fd ps sp) (hr:Room k X.A) (hg:Gl X x) (hm:X.mg x=some (.ref f)) (hk:PySem.W.keepIn X.K (.ref f)=true) (hb:Binds X.K fd ps ds) (hd:Vals dvs ds) (hx:Passes CX X E)
  (ha:PA X (e::es) t) (hdb:autoParam ((x == ("__debug__":Str))=false) zK._auto_1) (he:autoParam (starEach (e::es) X.env=(false,eval e X.env)::starEach es X.env) zY._auto_1) (hpl:autoParam ((backTo pos (starEach es X.env)).any (·.1)=false) zY._auto_1) :
  PE X (.Call (.Name x p) (e::es) [] pos) (tCall sp dvs E t):=by
 intro pins s σ H Q I h
 refine wpAny_Call_Name_kw (jD I hg hm ?_ hdb)
 refine PySem.W.callWith_K (h₀:=X.base) I.ok.mod.kin hk (thn (ha pos pins s σ H _ I h) fun us s1 ⟨vs,H1,I1,r,q⟩=>⟨I1.kIn,?_⟩) he hpl
 exact xX5 F hr hb hd hx I1 r q
structure Mk (K:KFr) (C f:Addr):Prop where
 makes:PySem.W.makesIn K C=true
 init:PySem.W.findIn K (.ref C) "__init__" = some (some (.ref f))
 fn:PySem.W.isFn K (.ref f)=true
 kp:PySem.W.keepIn K (.ref C)=true
end
section
variable {X:Cx}{CX:CXT}{k:Nat}{f C:Addr}{fd:FuncData}{ps ks:List Str}{sp:Sp}{E:XK}{x m:Str}{p pos apos kpos:Pos}{e o:Expr}{es:List Expr}{kws:List Keyword}{te ta:TE}{t tk:TA}{nm:Option Str}
structure KBinds (K:KFr) (fd:FuncData) (ps ks:List Str) (g:List Value->List Value->List Value) (gV:List V->List V->List V):Prop where
 to:∀(s:Shared) (us ws:List Value),K.In s.heap->(g us ws).length=ps.length->BindsTo s fd ⟨us,ks.zip ws⟩ (ps.zip (g us ws))
 rel:∀{vs:List V}{us:List Value}{zs:List V}{ws:List Value},Vals vs us->Vals zs ws->Vals (gV vs zs) (g us ws)
variable {g:List Value->List Value->List Value}{gV:List V->List V->List V}
end
structure zI (N P:List Str) (sc:Scope):Prop where
 kind:sc.kind=.function
 co:sc.isCoroutine=false
 gen:sc.isGenerator=false
 nd:N.Nodup
 pre:N.take P.length=P
 par:∀x∈P,sc.names.lookup x=some .local \/ sc.names.lookup x=some .cell
 nofree:∀y∈sc.names,y.2 ≠ .free
theorem zY7 {kindOf:Str->Option NameKind}{x:Str}:∀{binds:List (Str×Value)}{m:Str->Option Value},(∀v,(x,v)∉binds)->bindL kindOf binds m x=m x
 | [],_,_=>rfl
 | (n,v)::r,m,h=>by
  unfold bindL
  rw[zY7 fun w hw=>h w (List.mem_cons_of_mem _ hw)]
  split
  ·have:x≠n:=by rintro rfl;exact h v List.mem_cons_self
   simp[this]
  ·rfl
theorem zZ8 {kindOf:Str->Option NameKind}{x:Str}:∀{binds:List (Str×Value)}{m:Str->Option Value},(∀v,(x,v)∉binds)->bindC kindOf binds m x=m x
 | [],_,_=>rfl
 | (n,v)::r,m,h=>by
  unfold bindC
  rw[zZ8 fun w hw=>h w (List.mem_cons_of_mem _ hw)]
  split
  ·rfl
  ·have:x≠n:=by rintro rfl;exact h v List.mem_cons_self
   simp[this]
theorem zY3 {kindOf:Str->Option NameKind}{x:Str}{v:Value}:∀{P:List Str}{vs:List Value}{i:Nat}{m:Str->Option Value},P.Nodup->P[i]?=some x->vs[i]?=some v->kindOf x=some .local ->
  bindL kindOf (P.zip vs) m x=some v
 | [],_,_,_,_,h,_,_=>by simp at h
 | _::_,[],_,_,_,_,h,_=>by simp at h
 | p::P,w::vs,0,m,nd,h1,h2,hk=>by
  simp at h1 h2;subst h1;subst h2
  show bindL kindOf ((p,w)::P.zip vs) m p=_
  unfold bindL
  rw[zY7 fun v hv=>(List.nodup_cons.mp nd).1 (List.of_mem_zip hv).1,if_pos hk]
  simp
 | p::P,w::vs,i+1,m,nd,h1,h2,hk=>by
  show bindL kindOf ((p,w)::P.zip vs) m x=_
  unfold bindL
  exact zY3 (i:=i) (List.nodup_cons.mp nd).2 (by simpa using h1) (by simpa using h2) hk
theorem aJ {kindOf:Str->Option NameKind}{x:Str}{v:Value}:∀{P:List Str}{vs:List Value}{i:Nat}{m:Str->Option Value},P.Nodup->P[i]?=some x->vs[i]?=some v->kindOf x≠some .local ->
  bindC kindOf (P.zip vs) m x=some v
 | [],_,_,_,_,h,_,_=>by simp at h
 | _::_,[],_,_,_,_,h,_=>by simp at h
 | p::P,w::vs,0,m,nd,h1,h2,hk=>by
  simp at h1 h2;subst h1;subst h2
  show bindC kindOf ((p,w)::P.zip vs) m p=_
  unfold bindC
  rw[zZ8 fun v hv=>(List.nodup_cons.mp nd).1 (List.of_mem_zip hv).1,if_neg hk]
  simp
 | p::P,w::vs,i+1,m,nd,h1,h2,hk=>by
  show bindC kindOf ((p,w)::P.zip vs) m x=_
  unfold bindC
  exact aJ (i:=i) (List.nodup_cons.mp nd).2 (by simpa using h1) (by simpa using h2) hk
def start (N:List Str) (vs:List V):St:=vs.map some++List.replicate (N.length-vs.length) none
def cxOf (CX:CXT) (P:Program) (w:World) (K:KFr) (mg:Str->Option Value) (base:Heap) (N:List Str) (qual:Str) (scope:Scope) (f:Addr) (cd:Value) (A:Around) (outer:List Env) (s:Shared) (H:Hp) (E:XK):Cx where
 prog:=P
 w:=w
 K:=K
 mg:=mg
 base:=base
 A:=A.deeper (envOfC qual scope s.heap.objs.size f cd)
 N:=N
 s₀:=s
 H₀:=H
 env:=envOfC qual scope s.heap.objs.size f cd
 outer:=outer
 stack:=envOfC qual scope s.heap.objs.size f cd::outer
 ex:=[]
 calm:=true
 fn:=fun _=>true
 pn:=[]
 xe:=fun e s'=>wpAny (model P w) (A.deeper (envOfC qual scope s.heap.objs.size f cd)) (leaving (envOfC qual scope s.heap.objs.size f cd) e) (fun _ s''=>CX outer H s E e s'') (fun e' s''=>CX outer H s E e' s'') s'
theorem zU7 {sc:Scope}{n:Nat}{x:Str}(h:sc.names.lookup x=some .cell):∃c,(cellsFrom n sc.names []).lookup x=some c:=by
 have q:=PySem.W.cellsFrom_some sc.names n [] (.inl h)
 exact Option.isSome_iff_exists.mp q
theorem yY7 {CX:CXT}{P:Program}{w:World}{K:KFr}{mg:Str->Option Value}{base:Heap}{N ps:List Str}{qual:Str}{scope:Scope}{f:Addr}{cd:Value}{A:Around}{outer:List Env}{s s1:Shared}{H:Hp}{E:XK}{us:List Value}{vs:List V}
  (S:zI N ps scope) (hd:A.handled=none) (e0:Env0 P w K mg base A outer s H) (hl:vs.length=ps.length) (r:Vals vs us)
  (x:InCallC s s.heap.objs.size (bindL (envOfC qual scope s.heap.objs.size f cd).kindOf (ps.zip us) fun _=>none) (cellsFrom (s.heap.objs.size+1) scope.names []) (bindC (envOfC qual scope s.heap.objs.size f cd).kindOf (ps.zip us) fun _=>none) s1) :
  Inv (cxOf CX P w K mg base N qual scope f cd A outer s H E) [] (start N vs) H s1:=by
 have hpl:ps.length<=N.length:=by have:=congrArg List.length S.pre;rw[List.length_take] at this;bv_omega
 obtain⟨h1,tk,rfl,hk⟩:=x.done
 have noA:∀b:Addr,b∉(cxOf CX P w K mg base N qual scope f cd A outer s H E).ex:=fun b z=>absurd (show b∈([]:List Addr) from z) (by simp)
 refine⟨⟨e0.mod,S.kind,rfl,rfl,Nat.le_refl _,fun y z c h1 h2 => ?_,fun y hy => ?_,fun y c _ h => ?_,fun _=>hd,Around.frames_deeper e0.frames,.inr ⟨rfl,rfl⟩,fun b z=>absurd z (noA b),e0.bs,e0.bsz,fun b _ _=>noA b,fun b z=>absurd z (noA b),e0.funs,e0.frf,e0.tb⟩,
  rfl,e0.bare,Un.kept hk,⟨_,x.toInCall.ns,fun i y v h1 h2 h3 => ?_⟩,fun y c h=>⟨_,x.cell y c h⟩,e0.hok.fresh (Nat.le_refl _),fun y c h => ?_,fun p hp=>absurd (show p∈([]:List (Addr×Obj)) from hp) (by simp),e0.hok.kept hk,?_⟩
 ·exact name_of_addr x.apart (PySem.mem_of_lookup h1) (PySem.mem_of_lookup h2)
 ·have hy:scope.names.lookup y=some .cell\/scope.names.lookup y=some .free:=hy
  rcases hy with hy | hy
  ·exact zU7 hy
  ·exact absurd rfl (S.nofree _ (PySem.mem_of_lookup hy))
 ·exact Nat.le_of_lt (x.above y c (PySem.mem_of_lookup h))
 ·have hi:i<vs.length:=by
   unfold start at h2
   by_cases hi:i<vs.length
   ·exact hi
   ·rw[List.getElem?_append_right (by simpa using hi)] at h2
    rw[List.getElem?_replicate] at h2
    split at h2 <;> cases h2
  have ha:vs[i]?=some v:=by
   unfold start at h2
   rw[List.getElem?_append_left (by simpa using hi),List.getElem?_map] at h2
   cases e:vs[i]? with
   | none=>rw[e] at h2;cases h2
   | some a=>rw[e] at h2;cases h2;rfl
  obtain⟨u,hu,rv⟩:=r.get ha
  have hp:ps[i]?=some y:=by
   rw[<-S.pre,List.getElem?_take_of_lt (by bv_omega)];exact h1
  have ndP:ps.Nodup:=by rw[<-S.pre];exact S.nd.sublist (List.take_sublist _ _)
  refine⟨u,rv,?_⟩
  rcases S.par y (List.mem_of_getElem? hp) with k | k
  ·exact .inl ⟨k,zY3 ndP hp hu k⟩
  ·obtain⟨c,e⟩:=zU7 (n:=s.heap.objs.size+1) k
   refine .inr ⟨.inl k,c,e,?_⟩
   have q:=x.cell y c e
   rw[aJ ndP hp hu (by show scope.names.lookup y≠_;rw[k];decide)] at q
   exact q
 ·exact e0.hok.fresh (Nat.le_of_lt (x.above y c (PySem.mem_of_lookup h)))
 ·unfold start
  show _=N.length
  rw[List.length_append,List.length_map,List.length_replicate]
  bv_omega
theorem zX3 {CX:CXT}{P:Program}{w:World}{K:KFr}{mg:Str->Option Value}{base:Heap}{k:Nat}{f:Addr}{name qual:Str}{params:Arguments}{body:List Stmt}{scope:Scope}{dV kV doc pm cdv ct oc:Value}{an od:Option Addr}
  {osl:Array (Option Value)}{N ps:List Str}{sp:Sp}(lk:K.lookup f=some ⟨oc,od,.func (PySem.W.fnOf name qual params body scope dV kV doc pm an cdv ct),osl⟩) (hcd:PySem.W.codeIn K cdv qual=true) (S:zI N ps scope)
  (len:∀vs H Q E,sp vs H Q E->vs.length=ps.length)
  (hbody:∀(A:Around) (outer:List Env) (s:Shared) (H:Hp) (vs:List V) (Q:VK) (E:XK),Room k (A.deeper (envOfC qual scope s.heap.objs.size f cdv))->sp vs H Q E ->
   ∃t,PSs (cxOf CX P w K mg base N qual scope f cdv A outer s H E) body t/\t { nx:=fun _ H'=>Q .non H',rt:=Q } (start N vs) H) :
  FnOk P w K mg base CX (k+1) f (PySem.W.fnOf name qual params body scope dV kV doc pm an cdv ct) ps sp:=by
 refine⟨len,fun A outer s H args us vs Q E hr e0 hb r hsp => ?_⟩
 have hl:=len _ _ _ _ hsp
 have KX:K.In s.heap:=e0.mod.kin.keeps fun b o e=>(e0.bs b o e).1
 have lim:s.heap.NoLimit:=e0.mod.nolimit.keeps fun b o e=>(e0.bs b o e).1
 have hkind:∀y∈ps.zip us,scope.names.lookup y.1=some .local \/ (scope.names.lookup y.1=some .cell/\((cellsFrom (s.heap.objs.size+1) scope.names []).lookup y.1).isSome=true):=fun ⟨n,v⟩ hy=>by
  rcases S.par n (List.of_mem_zip hy).1 with q | q
  ·exact .inl q
  ·exact .inr ⟨q,PySem.W.cellsFrom_some _ _ _ (.inl q)⟩
 refine codeAny_call_function hr.depth (KX _ _ lk) rfl S.co S.gen rfl (PySem.W.codeRec_of KX hcd) (hb _ _ _ _ ?_)
 refine wpAny_newFunctionEnv_cells S.kind hkind fun env he s1 x => ?_
 subst he
 refine⟨lim.keeps x.toInCall.keep,codeAny_func ?_⟩
 obtain⟨t,ht,hq⟩:=hbody A outer s H vs Q E (hr.deeper _) hsp
 have I:Inv (cxOf CX P w K mg base N qual scope f cdv A outer s H E) [] (start N vs) H s1:=yY7 S hr.hd e0 hl r x
 refine wpAny_mono (ht [] s1 (start N vs) H _ I hq) (fun fl s' hs => ?_) fun e s' hs=>hs
 have fin:∀{σ':St}{H':Hp}{v:V}{u:Value},Inv (cxOf CX P w K mg base N qual scope f cdv A outer s H E) [] σ' H' s'->RelV v u->Q v H'->CE outer P w H s Q u s' :=
  fun {σ' H' v u} J rv q=>⟨v,H',J.os,J.bare,J.base,J.hok,rv,q⟩
 cases fl with
 | ret u =>
  obtain⟨v,σ',H',J,rv,q⟩:=hs
  exact fin J rv q
 | next =>
  obtain⟨σ',H',J,q⟩:=hs
  exact fin (v:=V.non) (u:=Value.none) J rfl q
 | brk =>
  obtain⟨_,_,_,q⟩:=hs
  exact False.elim q
 | cont =>
  obtain⟨_,_,_,q⟩:=hs
  exact False.elim q
section
variable {X:Cx}{x:Str}{p pos:Pos}{e:Expr}{es:List Expr}{t:TA}{id T:String}{r:List V->Hp->VK->Prop}
def tCB (r:List V->Hp->VK->Prop) (t:TA):TE:=fun σ H Q=>t σ H fun vs H1=>r vs H1 Q
theorem wW (hc:CallR X (.builtin id) r) (hg:Gl X x) (hm:X.mg x=none) (hv:bootBuiltins x=some (.builtin id)) (ha:PA X (e::es) t) (hn:autoParam (x ≠ "__name__") zK._auto_1) (hdb:autoParam ((x == ("__debug__":Str))=false) zK._auto_1)
  (he:autoParam (starEach (e::es) X.env=(false,eval e X.env)::starEach es X.env) zY._auto_1) (hpl:autoParam ((backTo pos (starEach es X.env)).any (·.1)=false) zY._auto_1):PE X (.Call (.Name x p) (e::es) [] pos) (tCB r t):=by
 intro pins s σ H Q I h
 refine wpAny_Call_Name_kw (gF I hg hm hv ?_ hn hdb)
 exact PyProof.Rows.callWith_builtin1 (thn (ha pos pins s σ H _ I h) fun us s1 ⟨vs,H1,I1,r1,q1⟩=>hc pins s1 σ H1 vs us Q I1 r1 q1) he hpl
theorem yL (hc:CallR X (.type T) r) (hg:Gl X x) (hm:X.mg x=none) (hv:bootBuiltins x=some (.type T)) (ha:PA X (e::es) t) (hn:autoParam (x ≠ "__name__") zK._auto_1) (hdb:autoParam ((x == ("__debug__":Str))=false) zK._auto_1)
  (he:autoParam (starEach (e::es) X.env=(false,eval e X.env)::starEach es X.env) zY._auto_1) (hpl:autoParam ((backTo pos (starEach es X.env)).any (·.1)=false) zY._auto_1):PE X (.Call (.Name x p) (e::es) [] pos) (tCB r t):=by
 intro pins s σ H Q I h
 refine wpAny_Call_Name_kw (gF I hg hm hv ?_ hn hdb)
 exact PyProof.Rows.callWith_type1 (thn (ha pos pins s σ H _ I h) fun us s1 ⟨vs,H1,I1,r1,q1⟩=>hc pins s1 σ H1 vs us Q I1 r1 q1) he hpl
end
end L2
namespace HT
open PySem PyProof.Rows
section
open PySem.SeqAt
open PySem.AutoSeq1 (wpAny_loadPart')
open PySem.MeetsSeq PySem.MeetsSeq2 PySem.MeetsSeq3
end
section
variable {prog:Program}{w:World}{A:Around}{E:Value->Shared->Prop}{s:Shared}
theorem yJ2 {t b:Addr}{vs ws:List Value}{Q:Value->Shared->Prop}(ht:IsTup s.heap t vs.toArray) (hb:IsTup s.heap b ws.toArray) (hv:vs ≠ [])
  (h1:ws=[]->Q (.ref t) s) (h2:ws ≠ []->Q (.ref s.heap.objs.size) { s with heap:=s.heap.push { cls:=.type "tuple",data:=.seq (vs++ws).toArray } })
  (hsz:vs.length+ws.length<=sizeLine):wpAny (model prog w) A (binaryOp .Add (.ref t) (.ref b)) Q E s:=by
 obtain⟨⟨cls,dd,data,sl⟩,ho,hc,n,hd⟩:=id ht
 obtain⟨⟨cls2,dd2,data2,sl2⟩,ho2,hc2,n2,hd2⟩:=id hb
 simp only at hc hd hc2 hd2
 subst hc hd hc2 hd2
 have e:vs.toArray++ws.toArray=(vs++ws).toArray:=by simp
 by_cases hw:ws=[]
 ·exact concat_meets ⟨_,ho,rfl⟩ ⟨_,ho2,rfl⟩ noFill_tuple_add seq_tuple_add PySem.F.slot_tuple_add PySem.F.entry_tuple_add (PySem.F.args_tuple_add_2 _ _)
   (tuple_addW1 t b vs.toArray ws.toArray n n2 dd dd2 sl sl2 (by simpa using hv) (by simp[hw])) ⟨ho,ho2,h1 hw⟩
 ·refine concat_meets ⟨_,ho,rfl⟩ ⟨_,ho2,rfl⟩ noFill_tuple_add seq_tuple_add PySem.F.slot_tuple_add PySem.F.entry_tuple_add (PySem.F.args_tuple_add_2 _ _)
   (tuple_addW2 t b vs.toArray ws.toArray n n2 dd dd2 sl sl2 (by simpa using hv) (by simpa using hw) (by rw[List.size_toArray,List.size_toArray];exact hsz)) ⟨ho,ho2,?_⟩
  rw[e]
  exact h2 hw
def sIx (n d:Nat):Option Int->Nat
 | none=>d
 | some v=>if v<0 then (v+(n:Int)).toNat else min v.toNat n
theorem zT9 (n d:Nat):sIx n d none=d:=rfl
theorem zL3 (n d k:Nat):sIx n d (some (k:Int))=min k n:=by
 show (if (k:Int)<0 then ((k:Int)+(n:Int)).toNat else min (k:Int).toNat n)=min k n
 rw[if_neg (by bv_omega),Int.toNat_natCast]
theorem yA8 (n d:Nat) (hd:d<=n) (o:Option Int):sIx n d o<=n:=by
 cases o with
 | none=>exact hd
 | some v =>
  show (if v<0 then (v+(n:Int)).toNat else min v.toNat n)<=n
  by_cases hv:v<0
  ·rw[if_pos hv];bv_omega
  ·rw[if_neg hv];exact Nat.min_le_right _ _
theorem zM4 (v:Int) (n d:Nat):(if v<0 then max (v+(n:Int)) 0 else min v (n:Int))=((sIx n d (some v):Nat):Int):=by
 show (if v<0 then max (v+(n:Int)) 0 else min v (n:Int))=(((if v<0 then (v+(n:Int)).toNat else min v.toNat n):Nat):Int)
 by_cases hv:v<0
 ·simp only[if_pos hv];bv_omega
 ·simp only[if_neg hv];bv_omega
theorem zG3 (lo hi:Option Int) (n:Nat):Builtin.Slice.sliceAdjust lo hi 1 (n:Int)=(((sIx n 0 lo:Nat):Int),((sIx n n hi:Nat):Int)):=by
 have h1:¬((1:Int)<0):=by bv_omega
 unfold Builtin.Slice.sliceAdjust
 simp only[h1,if_false]
 refine Prod.ext ?_ ?_
 ·cases lo with
  | none=>rfl
  | some v=>exact zM4 v n 0
 ·cases hi with
  | none=>rfl
  | some v=>exact zM4 v n n
theorem zK7 (i j:Nat):Builtin.Slice.slicePlaces (i:Int) (j:Int) 1=j-i:=by
 unfold Builtin.Slice.slicePlaces
 have h1:(1:Int) > 0:=by bv_omega
 simp only[h1,if_true,Int.ediv_one]
 split <;> bv_omega
theorem cH {v:Value}{o:Option Int}{Q:Option Int->Shared->Prop}(p:IsPart v o) (h:Q o s):wpAny (model prog w) A (Builtin.Slice.slicePartIndex v) Q E s:=by
 cases p with
 | none=>exact slicePart_none h
 | int i t=>exact slicePart_int h
theorem qD {sl:Addr}{vl vu:Value}{lo hi:Option Int}{n:Nat}{Q:Int×Int×Nat->Shared->Prop}(hs:s.heap.IsSliceOf sl vl vu .none) (pl:IsPart vl lo) (pu:IsPart vu hi)
  (h:Q (((sIx n 0 lo:Nat):Int),1,sIx n n hi-sIx n 0 lo) s):wpAny (model prog w) A (Builtin.Slice.sliceApplied (.ref sl) (pure (n:Int))) Q E s:=by
 obtain⟨os,hos,hcs,hds⟩:=id hs
 unfold Builtin.Slice.sliceApplied Builtin.Slice.sliceFields
 refine wpAny_bind (wpAny_bind (wpAny_field hos hds (x:=vl) rfl (wpAny_bind (wpAny_field hos hds (x:=vu) rfl (wpAny_bind (wpAny_field hos hds (x:=.none) rfl (wpAny_pure ?_)))))))
 refine wpAny_bind (slicePart_none ?_)
 show wpAny _ _ (if ((1:Int) == 0)=true then _ else _) _ _ s
 rw[if_neg (by decide)]
 refine wpAny_bind (cH pl (wpAny_bind (cH pu (wpAny_bind (wpAny_pure ?_)))))
 show wpAny _ _ (match Builtin.Slice.sliceAdjust lo hi 1 (n:Int) with | (lo,hi)=>pure (lo,(1:Int),Builtin.Slice.slicePlaces lo hi 1)) _ _ s
 rw[zG3 lo hi n]
 show wpAny _ _ (pure (((sIx n 0 lo:Nat):Int),(1:Int),Builtin.Slice.slicePlaces ((sIx n 0 lo:Nat):Int) ((sIx n n hi:Nat):Int) 1)) _ _ s
 rw[zK7]
 exact wpAny_pure h
theorem yQ3 (xs:Array Value) (i k:Nat):((List.range k).filterMap fun (m:Nat)=>xs[((i:Int)+(m:Int)*1).toNat]?).toArray=((xs.toList.drop i).take k).toArray:=by
 have e:(fun (m:Nat)=>xs[((i:Int)+(m:Int)*1).toNat]?)=fun m=>xs[i+m]?:=by
  funext m
  have:((i:Int)+(m:Int)*1).toNat=i+m:=by bv_omega
  rw[this]
 rw[e]
 have:=pick_run xs i k
 rw[List.filterMap_map] at this
 have e2:((fun x=>xs[x]?)∘fun x=>i+x)=fun m=>xs[i+m]?:=rfl
 rw[e2] at this
 rw[this]
theorem fF {t sl:Addr}{items:Array Value}{vl vu:Value}{lo hi:Option Int}{Q:Value->Shared->Prop}(ht:IsTup s.heap t items) (hs:s.heap.IsSliceOf sl vl vu .none) (pl:IsPart vl lo) (pu:IsPart vu hi)
  (hw:¬(sIx items.size 0 lo=0/\sIx items.size items.size hi=items.size))
  (h:Q (.ref s.heap.objs.size) { s with heap:=s.heap.push { cls:=.type "tuple",data:=.seq ((items.toList.drop (sIx items.size 0 lo)).take (sIx items.size items.size hi-sIx items.size 0 lo)).toArray } })
  (hsz:items.size<=sizeLine):wpAny (model prog w) A (getItem (.ref t) (.ref sl)) Q E s:=by
 have htake:sizeOk (.seq ((items.toList.drop (sIx items.size 0 lo)).take (sIx items.size items.size hi-sIx items.size 0 lo)).toArray):=by
  show ((items.toList.drop (sIx items.size 0 lo)).take (sIx items.size items.size hi-sIx items.size 0 lo)).toArray.size<=sizeLine
  rw[List.size_toArray,List.length_take,List.length_drop,Array.length_toList]
  bv_omega
 have hj:sIx items.size items.size hi<=items.size:=yA8 _ _ (Nat.le_refl _) hi
 obtain⟨os,hos,hcs,hds⟩:=id hs
 have hTs:s.TypeIs (.ref sl) "slice":=⟨os,hos,hcs⟩
 unfold getItem
 try with_reducible refine wpAny_holding ?_
 first | refine wpAny_bind (wpAny_pure ?_) | skip
 refine wpAny_bind (wpAny_sequenceKey ht.typeIs (by decide) ?_)
 refine wpAny_bind (wpAny_callSpecial?_slot (name:=Str.ofString "__getitem__") ht.typeIs PyProof.Rows.slot_tuple_getitem
  (wpAny_call_entry PyProof.Rows.slot_tuple_getitem ht.typeIs entry_tuple_getitem ?_ (args_tuple_getitem _ _)))
 show wpAny _ _ (Builtin.Tuple.tupleItemsOf (.ref t) >>= _) _ _ s
 refine wpAny_bind (tupleItemsOf_ ht ?_)
 refine wpAny_bind (wpAny_typeOf hTs ?_)
 rw[if_pos (by decide)]
 refine wpAny_bind (qD hs pl pu ?_)
 have hno:¬((((sIx items.size 0 lo:Nat):Int) == 0&&(1:Int) == 1&&(sIx items.size items.size hi-sIx items.size 0 lo) == items.size)=true):=by
  intro q
  rw[Bool.and_eq_true,Bool.and_eq_true] at q
  have q1:((sIx items.size 0 lo:Nat):Int)=0:=eq_of_beq q.1.1
  have q2:sIx items.size items.size hi-sIx items.size 0 lo=items.size:=eq_of_beq q.2
  exact hw ⟨by bv_omega,by bv_omega⟩
 show wpAny _ _ (if (((sIx items.size 0 lo:Nat):Int) == 0&&(1:Int) == 1&&(sIx items.size items.size hi-sIx items.size 0 lo) == items.size)=true then _ else _) _ _ s
 rw[if_neg hno,yQ3]
 first
  | exact wpAny_bind (m:=Builtin.Tuple.tupleExact _) (wpAny_newObj_type (wpAny_pure ⟨_,rfl,wpAny_pure h⟩) htake)
  | exact wpAny_bind (m:=Builtin.Tuple.tupleExact _) (wpAny_newObj_type (wpAny_bind (wpAny_pure (wpAny_pure ⟨_,rfl,wpAny_pure h⟩))) htake)
  | exact wpAny_bind (wpAny_bind (m:=Builtin.Tuple.tupleExact _) (wpAny_newObj_type (wpAny_pure (wpAny_pure ⟨_,rfl,wpAny_pure h⟩)) htake))
  | exact wpAny_bind (wpAny_bind (m:=Builtin.Tuple.tupleExact _) (wpAny_newObj_type (wpAny_pure ⟨_,rfl,wpAny_pure h⟩) htake))
end
end HT
namespace L2
open PySem PySem.Spec PyProof.Rows
abbrev TO:=St->Hp->(Option Int->Hp->Prop)->Prop
def PO (X:Cx) (e:Option Expr) (t:TO):Prop :=
 ∀(pins:List (Addr×Obj)) (s:Shared) (σ:St) (H:Hp) (Q:Option Int->Hp->Prop),Inv X pins σ H s->t σ H Q ->
  wpAny (model X.prog X.w) X.A (evalPart e X.env) (fun u s'=>∃o H',Inv X pins σ H' s'/\IsPart u o/\Q o H') X.xe s
def tNoPart:TO:=fun _ H Q=>Q none H
def tPart (t:TE):TO:=fun σ H Q=>t σ H fun x H1=>∃i,x=.int i/\Q (some i) H1
theorem qV {ns:List Int}:∀{us:List Value},Vals (ns.map V.int) us->IntsAre us ns:=by
 induction ns with
 | nil=>intro us r;rw[List.map_nil] at r;cases r;exact .nil
 | cons n ns ih =>
  intro us r
  rw[List.map_cons] at r
  cases r with
  | cons r1 r2 =>
   obtain⟨t,e⟩:=r1
   subst e
   exact .cons n t (ih r2)
section
variable {X:Cx}{e:Expr}{te:TE}{lo hi:Option Expr}{tl th:TO}{pos p2:Pos}
theorem yH7:PO X none tNoPart:=by
 intro pins s σ H Q I h
 rw[evalPart_none]
 exact wpAny_pure ⟨none,H,I,.none,h⟩
theorem yM7 (h:PE X e te):PO X (some e) (tPart te):=by
 intro pins s σ H Q I hw
 rw[evalPart_some]
 refine thn (h pins s σ H _ I hw) fun u s1 ⟨x,H1,I1,r1,q1⟩ => ?_
 obtain⟨i,rfl,q⟩:=q1
 obtain⟨t,rfl⟩:=r1
 exact⟨some i,H1,I1,.int i t,q⟩
def SlR (X:Cx) (r:V->Option Int->Option Int->Hp->VK->Prop):Prop :=
 ∀(pins:List (Addr×Obj)) (s:Shared) (σ:St) (H:Hp) (x:V) (v vl vu:Value) (lo hi:Option Int) (sl:Addr) (Q:VK),Inv X pins σ H s->RelV x v->s.heap.IsSliceOf sl vl vu .none->IsPart vl lo->IsPart vu hi->r x lo hi H Q ->
  ∃T id,typeLookup (.type T) "__getitem__" = pure (some (.builtin id))/\s.TypeIs v T/\wpAny (model X.prog X.w) X.A (getItem v (.ref sl)) (EP X pins σ Q) X.xe s
theorem SlR.or {r r':V->Option Int->Option Int->Hp->VK->Prop}(h:SlR X r) (h':SlR X r'):SlR X (fun x lo hi H Q=>r x lo hi H Q\/r' x lo hi H Q):=by
 intro pins s σ H x v vl vu lo hi sl Q I rx hs pl pu q
 rcases q with q | q
 ·exact h pins s σ H x v vl vu lo hi sl Q I rx hs pl pu q
 ·exact h' pins s σ H x v vl vu lo hi sl Q I rx hs pl pu q
def tSl (r:V->Option Int->Option Int->Hp->VK->Prop) (te:TE) (tl th:TO):TE:=fun σ H Q=>te σ H fun x H1=>tl σ H1 fun l H2=>th σ H2 fun u H3=>r x l u H3 Q
theorem yQ7 {r:V->Option Int->Option Int->Hp->VK->Prop}(hr:SlR X r) (he:PE X e te) (hl:PO X lo tl) (hu:PO X hi th):PE X (.Subscript e (.Slice lo hi none p2) pos) (tSl r te tl th):=by
 intro pins s σ H Q I h
 refine Subscript_ (thn (he pins s σ H _ I h) fun v s1 ⟨x,H1,I1,r1,q1⟩ => ?_)
 refine wpAny_Slice (thn (hl pins s1 σ H1 _ I1 q1) fun vl s2 ⟨l,H2,I2,pl,q2⟩=>thn (hu pins s2 σ H2 _ I2 q2) fun vu s3 ⟨u,H3,I3,pu,q3⟩ => ?_)
 rw[evalPart_none]
 refine wpAny_pure ?_
 have I4:Inv X pins σ H3 { s3 with heap:=s3.heap.push { cls:=.type "slice",data:=.fields #[vl,vu,.none] } }:=I3.kept (t':=s3.toks) fun b ob q=>Heap.get?_push_of_some _ q
 obtain⟨T,id,hT,ht,hg⟩:=hr pins { s3 with heap:=s3.heap.push { cls:=.type "slice",data:=.fields #[vl,vu,.none] } } σ H3 x v vl vu l u s3.heap.objs.size Q I4 r1 (Heap.IsSliceOf.new ..) pl pu q3
 show wpAny (model X.prog X.w) X.A (subscriptTail e (.Slice lo hi none p2) v (.ref s3.heap.objs.size)) (EP X pins σ Q) X.xe { s3 with heap:=s3.heap.push { cls:=.type "slice",data:=.fields #[vl,vu,.none] } }
 exact tail_any (ops:=[.ref s3.heap.objs.size,v]) ht hT hg (by with_unfolding_all rfl)
def cutV (xs:List V) (lo hi:Option Int):List V:=(xs.drop (HT.sIx xs.length 0 lo)).take (HT.sIx xs.length xs.length hi-HT.sIx xs.length 0 lo)
theorem fE (xs:List V) (lo hi:Option Int):(cutV xs lo hi).length<=xs.length:=by
 unfold cutV
 rw[List.length_take,List.length_drop]
 bv_omega
def rSlT (K:KFr):V->Option Int->Option Int->Hp->VK->Prop:=fun x lo hi H Q=>∃a xs,x=.ref a/\SqT K H a xs /\
 ¬(HT.sIx xs.length 0 lo=0/\HT.sIx xs.length xs.length hi=xs.length)/\∀p,H p=none->Q (.ref p) (upd H p (.tup (cutV xs lo hi)))
theorem yA5:SlR X (rSlT X.K):=by
 intro pins s σ H x v vl vu lo hi sl Q I rx hs pl pu h
 obtain⟨a,xs,rfl,hx,hw,q⟩:=h
 cases rx
 obtain⟨its,r,ht,hz⟩:=I.tuple hx
 have hlen:its.toArray.size=xs.length:=by rw[List.size_toArray];exact r.length.symm
 refine⟨"tuple",_,PyProof.Rows.slot_tuple_getitem.lookup,ht.typeIs,?_⟩
 refine HT.fF ht hs pl pu (by rw[hlen];exact hw) ?_ (by rw[hlen];exact hz)
 rw[hlen]
 refine⟨.ref s.heap.objs.size,_,I.laid (t':=s.toks) (o:=.tup (cutV xs lo hi)) (fun b ob q=>Heap.get?_push_of_some _ q) (Nat.le_refl _) ?_,rfl,q _ (I.hok.fresh (Nat.le_refl _))⟩
 exact⟨Nat.le_trans (fE xs lo hi) hz,_,(r.drop (HT.sIx xs.length 0 lo)).take (HT.sIx xs.length xs.length hi-HT.sIx xs.length 0 lo),TupAt.new _ _⟩
def rCatT (K:KFr):R2:=fun x y H Q=>∃a b xs ys,x=.ref a/\y=.ref b/\SqT K H a xs/\SqT K H b ys/\xs ≠ []/\xs.length+ys.length<=sizeLine /\
 (ys=[]->Q (.ref a) H)/\(ys ≠ []->∀p,H p=none->Q (.ref p) (upd H p (.tup (xs++ys))))
theorem Vals.bJ {xs:List V}{us:List Value}(r:Vals xs us):us=[]↔xs=[]:=by
 cases r with
 | nil=>simp
 | cons _ _=>simp
theorem yH1:OpR X (binaryOp .Add) (rCatT X.K):=by
 intro pins s σ H x y v u Q I rx ry h
 obtain⟨a,b,xs,ys,rfl,rfl,ha,hb,hx,hz,q1,q2⟩:=h
 cases rx
 cases ry
 obtain⟨its,r1,p1,_⟩:=I.tuple ha
 obtain⟨its2,r2,p2,_⟩:=I.tuple hb
 refine HT.yJ2 p1 p2 (fun z=>hx (r1.bJ.mp z)) (fun z=>⟨.ref a,H,I,rfl,q1 (r2.bJ.mp z)⟩) (fun z => ?_) (by rw[<-r1.length,<-r2.length];exact hz)
 refine⟨.ref s.heap.objs.size,_,I.laid (t':=s.toks) (o:=.tup (xs++ys)) (fun b ob q=>Heap.get?_push_of_some _ q) (Nat.le_refl _) ?_,rfl,q2 (fun w=>z (r2.bJ.mpr w)) _ (I.hok.fresh (Nat.le_refl _))⟩
 exact⟨by rw[List.length_append];exact hz,_,r1.append r2,TupAt.new _ _⟩
end
def ixN (n:Nat) (i:Int):Option Nat:=if 0<=i then (if i<n then some i.toNat else none) else if -(n:Int)<=i then some (i+n).toNat else none
def atI {α:Type}(xs:List α) (i:Int):Option α:=(ixN xs.length i).bind fun j=>xs[j]?
theorem zP1 {n:Nat}{i:Int}{j:Nat}(h:ixN n i=some j):seqIndex? i n=some j/\j<n/\-(n:Int)<=i/\i<n:=by
 unfold ixN at h
 by_cases h0:0<=i
 ·rw[if_pos h0] at h
  by_cases h1:i<n
  ·rw[if_pos h1] at h
   have e:i.toNat=j:=Option.some.inj h
   exact⟨by rw[seqIndex_of h0 h1,e],by bv_omega,by bv_omega,h1⟩
  ·rw[if_neg h1] at h;cases h
 ·rw[if_neg h0] at h
  by_cases h1:-(n:Int)<=i
  ·rw[if_pos h1] at h
   have e:(i+n).toNat=j:=Option.some.inj h
   exact⟨by rw[seqIndex_neg (by bv_omega) h1,e],by bv_omega,h1,by bv_omega⟩
  ·rw[if_neg h1] at h;cases h
theorem bH {α:Type}{xs:List α}{i:Int}{v:α}(h:atI xs i=some v):∃j,seqIndex? i xs.length=some j/\xs[j]?=some v/\j<xs.length/\-(xs.length:Int)<=i/\i<xs.length:=by
 unfold atI at h
 cases e:ixN xs.length i with
 | none=>rw[e] at h;cases h
 | some j =>
  rw[e] at h
  obtain⟨h1,h2,h3,h4⟩:=zP1 e
  exact⟨j,h1,h,h2,h3,h4⟩
theorem zM3 {α:Type}{xs:List α}{j:Nat}{v:α}(h:xs[j]?=some v):atI xs (j:Int)=some v:=by
 have hj:j<xs.length:=(List.getElem?_eq_some_iff.mp h).1
 have e:ixN xs.length (j:Int)=some j:=by
  unfold ixN
  rw[if_pos (by bv_omega),if_pos (by bv_omega)];simp
 unfold atI;rw[e];exact h
def PlainIx (b:Expr):Prop:=∀o i,subscripted b false o i=operate [o,i] (getItem o i)
def IxR (X:Cx) (r:R2):Prop :=
 ∀(value slice:Expr) (pins:List (Addr×Obj)) (s:Shared) (σ:St) (H:Hp) (x y:V) (v u:Value) (Q:VK),Inv X pins σ H s->RelV x v->RelV y u->r x y H Q ->
  subscripted slice false v u=operate [v,u] (getItem v u)->wpAny (model X.prog X.w) X.A (subscriptTail value slice v u) (EP X pins σ Q) X.xe s
def MtR (X:Cx) (id:String) (r:V->List V->Hp->VK->Prop):Prop :=
 ∀(pins:List (Addr×Obj)) (s:Shared) (σ:St) (H:Hp) (x:V) (xs:List V) (v:Value) (us:List Value) (Q:VK),Inv X pins σ H s->RelV x v->Vals xs us->r x xs H Q ->
  wpAny (model X.prog X.w) X.A (call (.builtin id) (v::us)) (EP X pins σ Q) X.xe s
section
variable {X:Cx}{a b:Expr}{ta tb:TE}{pos:Pos}
theorem IxR.or {r r':R2}(h:IxR X r) (h':IxR X r'):IxR X (fun x y H Q=>r x y H Q\/r' x y H Q):=by
 intro value slice pins s σ H x y v u Q I rx ry q hs
 rcases q with q | q
 ·exact h value slice pins s σ H x y v u Q I rx ry q hs
 ·exact h' value slice pins s σ H x y v u Q I rx ry q hs
theorem xS {r:R2}(hr:IxR X r) (ha:PE X a ta) (hb:PE X b tb) (hs:PlainIx b):PE X (.Subscript a b pos) (tOp r ta tb):=by
 intro pins s σ H Q I h
 exact Subscript_ (binT ha hb I h fun v u s2 x y H2 I2 rx ry q=>hr a b pins s2 σ H2 x y v u Q I2 rx ry q (hs _ _))
def rIxL (K:KFr):R2:=fun x y H Q=>∃p xs i v,x=.ref p/\y=.int i/\SqL K H p xs/\atI xs i=some v/\Q v H
def rIxT (K:KFr):R2:=fun x y H Q=>∃p xs i v,x=.ref p/\y=.int i/\SqT K H p xs/\atI xs i=some v/\Q v H
def rIxS:R2:=fun x y H Q=>∃z i c,x=.str z/\y=.int i/\z.length<=sizeLine/\atI z.cps.toList i=some c/\Q (.str ⟨#[c]⟩) H
theorem uV:IxR X (rIxL X.K):=by
 intro value slice pins s σ H x y v u Q I rx ry h hs
 obtain⟨p,xs,i,z,rfl,rfl,hq,he,q⟩:=h
 cases rx
 obtain⟨t,rfl⟩:=ry
 obtain⟨its,r,pl,hz⟩:=I.list hq
 obtain⟨j,h1,h2,h3,h4,h5⟩:=bH he
 obtain⟨w,ew,rw'⟩:=r.get h2
 have hl:=r.length
 have hn:=line63
 have fin:EP X pins σ Q w s:=⟨z,H,I,rw',q⟩
 by_cases h0:0<=i
 ·have hj:i.toNat=j:=by
   rw[seqIndex_of h0 h5] at h1
   exact Option.some.inj h1
  exact item_listR pl.isList h0 (by bv_omega) (by rw[hj];simpa using ew) fin hs
 ·have hj:(i+(its.toArray.size:Int)).toNat=j:=by
   rw[seqIndex_neg (by bv_omega) h4] at h1
   rw[List.size_toArray,<-hl]
   exact Option.some.inj h1
  exact subscriptTail_builtinR (x:=w) pl.isList.typeIs slot_list_getitem.lookup
   (wpAny_getItem_list_neg (Q:=fun r s'=>r=w/\EP X pins σ Q r s') pl.isList (by bv_omega) (by rw[List.size_toArray] <;> bv_omega) (by bv_omega) (by rw[hj];simpa using ew) ⟨rfl,fin⟩) hs
theorem wS:IxR X (rIxT X.K):=by
 intro value slice pins s σ H x y v u Q I rx ry h hs
 obtain⟨p,xs,i,z,rfl,rfl,hq,he,q⟩:=h
 cases rx
 obtain⟨t,rfl⟩:=ry
 obtain⟨its,r,pl,hz⟩:=I.tuple hq
 obtain⟨j,h1,h2,h3,h4,h5⟩:=bH he
 obtain⟨w,ew,rw'⟩:=r.get h2
 have hl:=r.length
 have hn:=line63
 have fin:EP X pins σ Q w s:=⟨z,H,I,rw',q⟩
 exact subscriptTail_builtinR (x:=w) pl.typeIs slot_tuple_getitem.lookup
  (getItem_tuple (j:=j) (Q:=fun r s'=>r=w/\EP X pins σ Q r s') pl (by bv_omega) (by bv_omega) (by rw[List.size_toArray,<-hl];exact h1) (by simpa using ew) ⟨rfl,fin⟩) hs
theorem yA4:IxR X rIxS:=by
 intro value slice pins s σ H x y v u Q I rx ry h hs
 obtain⟨z,i,c,rfl,rfl,hz,he,q⟩:=h
 obtain⟨t,rfl⟩:=rx
 obtain⟨t',rfl⟩:=ry
 obtain⟨j,h1,h2,h3,h4,h5⟩:=bH he
 have hl:z.cps.toList.length=z.length:=by simp[Str.length]
 rw[hl] at h1 h4 h5
 have hn:=line63
 exact tail_any (typeIs_str s z t) slot_str_getitem.lookup (getItem_str (c:=c) (by
  have e1:decide (i < -(2 ^ 63:Int))=false:=decide_eq_false (by bv_omega)
  have e2:decide (i ≥ 2 ^ 63)=false:=decide_eq_false (by bv_omega)
  rw[e1,e2,Bool.or_false]) (by rw[h1];simpa using h2) ⟨.str ⟨#[c]⟩,H,I.tok _,⟨_,rfl⟩,q⟩) hs
def rIx (K:KFr):R2:=fun x y H Q=>rIxL K x y H Q\/rIxT K x y H Q\/rIxS x y H Q
theorem yQ:IxR X (rIx X.K):=uV.or (wS.or yA4)
theorem zH7 (its:List Value) (n j:Nat) (u:Value):Obj.mapSeq (·.setIfInBounds j u) { cls:=.type "list",data:=.seq its.toArray n }={ cls:=.type "list",data:=.seq (its.set j u).toArray n }:=by
 simp[Obj.mapSeq]
theorem Inv.lst {pins:List (Addr×Obj)}{σ:St}{H:Hp}{s:Shared}{p:Addr}{xs:List V}(I:Inv X pins σ H s) (h:H p=some (.lst xs)) :
  ∃(its:List Value) (n:Nat),Vals xs its/\s.heap.get? p=some { cls:=.type "list",data:=.seq its.toArray n }/\xs.length<=sizeLine:=by
 obtain⟨z,its,n,r,e⟩:=I.hok p _ h
 exact⟨its,n,r,e,z⟩
theorem Inv.lstUpd {pins:List (Addr×Obj)}{σ:St}{H:Hp}{s:Shared}{p:Addr}{xs ys:List V}{its its':List Value}{n n':Nat}{f:Obj->Obj}(I:Inv X pins σ H s) (h:H p=some (.lst xs))
  (ho:s.heap.get? p=some { cls:=.type "list",data:=.seq its.toArray n }) (hf:f { cls:=.type "list",data:=.seq its.toArray n }={ cls:=.type "list",data:=.seq its'.toArray n' }) (r:Vals ys its') (hz:ys.length<=sizeLine) (t:Nat) :
  Inv X pins σ (upd H p (.lst ys)) { s with heap:=s.heap.update p f,toks:=t }:=by
 have e:(s.heap.update p f).get? p=some { cls:=.type "list",data:=.seq its'.toArray n' }:=by
  rw[Heap.get?_update_self f ho (by rw[hf] <;> rfl),hf]
 refine I.write (x:=p) (e:=p) (by rw[h];trivial) (.inl rfl) (fun b u hb q=>(Heap.get?_update_other _ _ (Ne.symm hb)).trans q) ⟨_,e⟩ ?_
 exact⟨hz,its',n',r,e⟩
def rSetL:V->V->V->Hp->(Hp->Prop)->Prop:=fun o i v H Q=>∃p xs k j,o=.ref p/\i=.int k/\H p=some (.lst xs)/\ixN xs.length k=some j/\Q (upd H p (.lst (xs.set j v)))
theorem dW:PSet X rSetL:=by
 intro pins s σ H o i v ov iv u Q I ro ri rv h
 obtain⟨p,xs,k,j,rfl,rfl,hp,hj,q⟩:=h
 cases ro
 obtain⟨t,rfl⟩:=ri
 obtain⟨its,n,r,ho,hz⟩:=I.lst hp
 obtain⟨h1,h2,h3,h4⟩:=zP1 hj
 have hl:=r.length
 have hn:=line63
 have I':Inv X pins σ (upd H p (.lst (xs.set j v))) { s with heap:=s.heap.update p (Obj.mapSeq (·.setIfInBounds j u)) } :=
  I.lstUpd hp ho (zH7 its n j u) (r.set rv j) (by rw[List.length_set];exact hz) s.toks
 by_cases h0:0<=k
 ·have hk:k.toNat=j:=by
   rw[seqIndex_of h0 h4] at h1
   exact Option.some.inj h1
  exact PySem.W.ki_setAt ho h0 (by bv_omega) (by rw[List.size_toArray,<-hl];exact h4) (by rw[hk];exact⟨_,I',q⟩)
 ·have hk:(k+(its.toArray.size:Int)).toNat=j:=by
   rw[seqIndex_neg (by bv_omega) h3] at h1
   rw[List.size_toArray,<-hl]
   exact Option.some.inj h1
  exact PySem.W.ki_setBack ho (by bv_omega) (by rw[List.size_toArray,<-hl];exact h3) (by bv_omega) (by rw[hk];exact⟨_,I',q⟩)
theorem zS7 (lo hi:Option Int) (n:Nat):(sliceBounds lo hi none n).1=((HT.sIx n 0 lo:Nat):Int)/\(sliceBounds lo hi none n).2.1=((HT.sIx n n hi:Nat):Int)/\(sliceBounds lo hi none n).2.2=1:=by
 refine⟨?_,?_,rfl⟩
 ·cases lo with
  | none=>simp[sliceBounds,HT.sIx]
  | some i =>
   simp only[sliceBounds,HT.sIx,Option.getD_none,show (1:Int) > 0 by decide,if_true]
   by_cases h:i<0
   ·simp only[h,if_true] <;> bv_omega
   ·simp only[h,if_false] <;> bv_omega
 ·cases hi with
  | none=>simp[sliceBounds,HT.sIx]
  | some i =>
   simp only[sliceBounds,HT.sIx,Option.getD_none,show (1:Int) > 0 by decide,if_true]
   by_cases h:i<0
   ·simp only[h,if_true] <;> bv_omega
   ·simp only[h,if_false] <;> bv_omega
theorem zX2 (its:List Value) (lo hi:Option Int):slicePick its.toArray lo hi none=((its.drop (HT.sIx its.length 0 lo)).take (HT.sIx its.length its.length hi-HT.sIx its.length 0 lo)).toArray:=by
 obtain⟨h1,h2,h3⟩:=zS7 lo hi its.toArray.size
 unfold slicePick
 rw[h1,h2,h3]
 simp only[sliceRange_one,pick_run,List.size_toArray] <;> rfl
def rSlL (K:KFr):V->Option Int->Option Int->Hp->VK->Prop:=fun x lo hi H Q=>∃a xs,x=.ref a/\SqL K H a xs/\∀p,H p=none->Q (.ref p) (upd H p (.lst (cutV xs lo hi)))
theorem yN9:SlR X (rSlL X.K):=by
 intro pins s σ H x v vl vu lo hi sl Q I rx hs pl pu h
 obtain⟨a,xs,rfl,hx,q⟩:=h
 cases rx
 obtain⟨its,r,ht,hz⟩:=I.list hx
 have hlen:=r.length
 refine⟨"list",_,slot_list_getitem.lookup,ht.isList.typeIs,?_⟩
 refine wpAny_getItem_list_slice ht.isList hs pl pu .none (by simp) ?_ (by rw[List.size_toArray] <;> bv_omega)
 rw[zX2,<-hlen]
 refine⟨.ref s.heap.objs.size,_,I.laid (t':=s.toks) (o:=.lst (cutV xs lo hi)) (fun b ob q=>Heap.get?_push_of_some _ q) (Nat.le_refl _) ?_,rfl,q _ (I.hok.fresh (Nat.le_refl _))⟩
 exact⟨Nat.le_trans (fE xs lo hi) hz,_,0,(r.drop (HT.sIx xs.length 0 lo)).take (HT.sIx xs.length xs.length hi-HT.sIx xs.length 0 lo),Heap.get?_push_size _ rfl⟩
def flatV:V->Bool
 | .non=>true
 | .bl _=>true
 | .int _=>true
 | .str _=>true
 | _=>false
def eqV:V->V->Bool
 | .non,.non=>true
 | .bl a,.bl b=>a == b
 | .bl a,.int b=>(if a then 1 else 0) == b
 | .int a,.bl b=>a == (if b then 1 else 0)
 | .int a,.int b=>a == b
 | .str a,.str b=>a == b
 | _,_=>false
theorem xY3 {A:Around}{s:Shared}{y x:V}{u v:Value}(ry:RelV y u) (rx:RelV x v) (fy:flatV y=true) (fx:flatV x=true):SeqAt.EqAt A s u v (eqV y x):=by
 cases y with
 | non =>
  cases ry
  cases x with
  | non=>cases rx;exact SeqAt.EqAt.same _
  | bl b=>cases rx;exact SeqAt.EqAt.none_bool b
  | int b=>obtain⟨t,rfl⟩:=rx;exact SeqAt.EqAt.none_int b t
  | str b=>obtain⟨t,rfl⟩:=rx;exact SeqAt.EqAt.none_str b t
  | _=>exact absurd (show false=true from fx) Bool.false_ne_true
 | bl a =>
  cases ry
  cases x with
  | non=>cases rx;exact SeqAt.EqAt.bool_none a
  | bl b=>cases rx;exact SeqAt.EqAt.bool_bool a b
  | int b=>obtain⟨t,rfl⟩:=rx;exact SeqAt.EqAt.bool_int a b t
  | str b=>obtain⟨t,rfl⟩:=rx;exact SeqAt.EqAt.bool_str a b t
  | _=>exact absurd (show false=true from fx) Bool.false_ne_true
 | int a =>
  obtain⟨t',rfl⟩:=ry
  cases x with
  | non=>cases rx;exact SeqAt.EqAt.int_none a t'
  | bl b=>cases rx;exact SeqAt.EqAt.int_bool a t' b
  | int b=>obtain⟨t,rfl⟩:=rx;exact SeqAt.EqAt.int_int a t' b t
  | str b=>obtain⟨t,rfl⟩:=rx;exact SeqAt.EqAt.int_str a t' b t
  | _=>exact absurd (show false=true from fx) Bool.false_ne_true
 | str a =>
  obtain⟨t',rfl⟩:=ry
  cases x with
  | non=>cases rx;exact SeqAt.EqAt.str_none a t'
  | bl b=>cases rx;exact SeqAt.EqAt.str_bool a t' b
  | int b=>obtain⟨t,rfl⟩:=rx;exact SeqAt.EqAt.str_int a t' b t
  | str b=>obtain⟨t,rfl⟩:=rx;exact SeqAt.EqAt.str_str a t' b t
  | _=>exact absurd (show false=true from fx) Bool.false_ne_true
 | _=>exact absurd (show false=true from fy) Bool.false_ne_true
def eqU (x:V) (u:Value):Bool:=match u with
 | .none=>eqV .non x
 | .bool b=>eqV (.bl b) x
 | .int i _=>eqV (.int i) x
 | .str z _=>eqV (.str z) x
 | _=>false
theorem cE {x y:V}{u:Value}(r:RelV y u) (f:flatV y=true):eqU x u=eqV y x:=by
 cases y with
 | non=>cases r;rfl
 | bl b=>cases r;rfl
 | int i=>obtain⟨t,rfl⟩:=r;rfl
 | str z=>obtain⟨t,rfl⟩:=r;rfl
 | _=>exact absurd (show false=true from f) Bool.false_ne_true
theorem jH {x:V}:∀{xs:List V}{us:List Value},Vals xs us->xs.all flatV=true->us.any (eqU x)=xs.any fun y=>eqV y x
 | _,_,.nil,_=>rfl
 | y::xs,u::us,.cons r t,f=>by
  rw[List.all_cons,Bool.and_eq_true] at f
  rw[List.any_cons,List.any_cons,cE r f.1,jH t f.2]
theorem vC {A:Around}{s:Shared}{x:V}{v:Value}(rx:RelV x v) (fx:flatV x=true):∀{xs:List V}{us:List Value},Vals xs us->xs.all flatV=true->∀u∈us,SeqAt.EqAt A s u v (eqU x u)
 | _,_,.nil,_=>fun u hu=>by cases hu
 | y::xs,u::us,.cons r t,f=>fun u' hu=>by
  rw[List.all_cons,Bool.and_eq_true] at f
  rcases List.mem_cons.mp hu with rfl | hu
  ·rw[cE r f.1];exact xY3 r rx f.1 fx
  ·exact vC rx fx t f.2 u' hu
def inV (x:V) (xs:List V):Bool:=xs.any fun y=>eqV y x
def rIn (K:KFr) (neg:Bool):R2:=fun x y H Q=>∃p xs,y=.ref p/\(SqL K H p xs\/SqT K H p xs)/\flatV x=true/\xs.all flatV=true/\Q (.bl (if neg then !inV x xs else inV x xs)) H
theorem yZ9:OpR X (compareOp .In) (rIn X.K false):=by
 intro pins s σ H x y v u Q I rx ry h
 obtain⟨p,xs,rfl,hq,fx,fs,q⟩:=h
 cases ry
 rcases hq with hq | hq
 ·obtain⟨its,r,pl,hz⟩:=I.list hq
  refine SeqAt.in_listAt (eqU x) pl.isList (fun w hw=>vC rx fx r fs w (by simpa using hw)) ⟨.bl _,H,I,rfl,?_⟩
  rw[show its.toArray.any (eqU x)=its.any (eqU x) by simp,jH r fs]
  exact q
 ·obtain⟨its,r,pl,hz⟩:=I.tuple hq
  refine SeqAt.in_tupleAt (eqU x) pl (fun w hw=>vC rx fx r fs w (by simpa using hw)) ⟨.bl _,H,I,rfl,?_⟩
  rw[show its.toArray.any (eqU x)=its.any (eqU x) by simp,jH r fs]
  exact q
theorem xJ:OpR X (compareOp .NotIn) (rIn X.K true):=by
 intro pins s σ H x y v u Q I rx ry h
 obtain⟨p,xs,rfl,hq,fx,fs,q⟩:=h
 cases ry
 rcases hq with hq | hq
 ·obtain⟨its,r,pl,hz⟩:=I.list hq
  refine SeqAt.notIn_listAt (eqU x) pl.isList (fun w hw=>vC rx fx r fs w (by simpa using hw)) ⟨.bl _,H,I,rfl,?_⟩
  rw[show its.toArray.any (eqU x)=its.any (eqU x) by simp,jH r fs]
  exact q
 ·obtain⟨its,r,pl,hz⟩:=I.tuple hq
  refine SeqAt.notIn_tupleAt (eqU x) pl (fun w hw=>vC rx fx r fs w (by simpa using hw)) ⟨.bl _,H,I,rfl,?_⟩
  rw[show its.toArray.any (eqU x)=its.any (eqU x) by simp,jH r fs]
  exact q
theorem zF:CallR X (.builtin "len") (fun xs H Q=>∃p ys,xs=[.ref p]/\(SqL X.K H p ys\/SqT X.K H p ys)/\Q (.int ys.length) H):=by
 intro pins s σ H xs us Q I r h
 obtain⟨p,ys,rfl,hq,q⟩:=h
 obtain⟨u,rfl,rx⟩:=vals1 r
 cases rx
 have hn:=line63
 rcases hq with hq | hq
 ·obtain⟨its,r',pl,hz⟩:=I.list hq
  have hlen:=r'.length
  exact Calls.call_len_list pl.isList (by simp only[List.size_toArray] <;> bv_omega) ⟨.int ys.length,H,I.tok _,⟨s.toks+1,by rw[List.size_toArray,hlen]⟩,q⟩
 ·obtain⟨its,r',pl,hz⟩:=I.tuple hq
  have hlen:=r'.length
  exact len_tuple pl (by simp only[List.size_toArray] <;> bv_omega) ⟨.int ys.length,H,I.tok _,⟨s.toks+1,by rw[List.size_toArray,hlen]⟩,q⟩
theorem gS:CallR X (.type "list") (fun xs H Q=>∃p ys,xs=[.ref p]/\(SqL X.K H p ys\/SqT X.K H p ys)/\∀l,H l=none->Q (.ref l) (upd H l (.lst ys))):=by
 intro pins s σ H xs us Q I r h
 obtain⟨p,ys,rfl,hq,q⟩:=h
 obtain⟨u,rfl,rx⟩:=vals1 r
 cases rx
 have fin:∀(its:List Value),Vals ys its->ys.length<=sizeLine->∀(h':Heap) (c':Nat),(∀b o',s.heap.get? b=some o'->h'.get? b=some o') ->
   h'.get? s.heap.objs.size=some { cls:=.type "list",dict:=none,data:=.seq its.toArray c',slots:=#[] }->EP X pins σ Q (.ref s.heap.objs.size) { s with heap:=h' }:=fun its r' hz h' c' kp e =>
  ⟨.ref s.heap.objs.size,_,I.laid (t':=s.toks) kp (Nat.le_refl _) (show ObjOk X.prog X.w _ h' _ (.lst ys) from ⟨hz,its,c',r',e⟩),rfl,q _ (I.hok.fresh (Nat.le_refl _))⟩
 rcases hq with hq | hq
 ·obtain⟨its,r',pl,hz⟩:=I.list hq
  have hlen:=r'.length
  obtain⟨o,ho,hc,n,hd⟩:=pl.isList
  exact call_list_seq p (.inl rfl) ho hc hd (fun h' c' kp e=>fin its r' hz h' c' kp e) (by simp only[List.size_toArray] <;> bv_omega)
 ·obtain⟨its,r',pl,hz⟩:=I.tuple hq
  have hlen:=r'.length
  obtain⟨o,ho,hc,n,hd⟩:=pl
  exact call_list_seq p (.inr rfl) ho hc hd (fun h' c' kp e=>fin its r' hz h' c' kp e) (by simp only[List.size_toArray] <;> bv_omega)
theorem yT:CallR X (.type "tuple") (fun xs H Q=>∃p ys,xs=[.ref p]/\((SqL X.K H p ys/\∀l,H l=none->Q (.ref l) (upd H l (.tup ys)))\/(SqT X.K H p ys/\Q (.ref p) H))):=by
 intro pins s σ H xs us Q I r h
 obtain⟨p,ys,rfl,h⟩:=h
 obtain⟨u,rfl,rx⟩:=vals1 r
 cases rx
 rcases h with ⟨hq,q⟩ | ⟨hq,q⟩
 ·obtain⟨its,r',pl,hz⟩:=I.list hq
  have hlen:=r'.length
  refine call_tuple_list pl.isList (fun h' kp => ?_) (by simp only[List.size_toArray] <;> bv_omega)
  have I1:Inv X pins σ H { s with heap:=h' }:=I.kept (t':=s.toks) kp
  have I2:Inv X pins σ (upd H h'.objs.size (.tup ys)) { s with heap:=h'.push { cls:=.type "tuple",data:=.seq its.toArray } } :=
   I1.laid (t':=s.toks) (fun b o e=>Heap.get?_push_of_some _ e) (Nat.le_refl _) (show ObjOk X.prog X.w _ _ _ (.tup ys) from ⟨hz,its,r',TupAt.new _ _⟩)
  exact⟨.ref h'.objs.size,_,I2,rfl,q _ (I1.hok.fresh (Nat.le_refl _))⟩
 ·obtain⟨its,r',pl,hz⟩:=I.tuple hq
  exact call_tuple_same pl ⟨.ref p,H,I,rfl,q⟩
def tyV (K:KFr) (T:String) (x:V) (H:Hp):Prop:=match x with
 | .str _=>T="str"
 | .int _=>T="int"
 | .ref p=>(T="list"/\∃xs,SqL K H p xs)\/(T="tuple"/\((∃o,K.lookup p=some o/\o.cls=.type "tuple"/\o.dict=none)\/∃xs,Rd H p (.tup xs))) \/
   (T="dict"/\((∃kvs,H p=some (.dK kvs))\/∃kvs,H p=some (.dT kvs)))\/(T="set"/\∃S n,H p=some (.set S n))
 | _=>False
theorem yE4 {pins:List (Addr×Obj)}{σ:St}{H:Hp}{s:Shared}{T:String}{x:V}{v:Value}(I:Inv X pins σ H s) (r:RelV x v) (ty:tyV X.K T x H) :
  s.TypeIs v T/\∀a,v=.ref a->∃ob,s.heap.get? a=some ob/\ob.dict=none:=by
 cases x with
 | str z =>
  obtain⟨t,rfl⟩:=r
  cases (show T="str" from ty)
  exact⟨typeIs_str s z t,fun _ e=>nomatch e⟩
 | int i =>
  obtain⟨t,rfl⟩:=r
  cases (show T="int" from ty)
  exact⟨typeIs_int s i t,fun _ e=>nomatch e⟩
 | ref p =>
  cases r
  rcases ty with ⟨rfl,xs,hq⟩ | ⟨rfl,⟨o,hk,hc,hd⟩ | ⟨xs,hq⟩⟩ | ⟨rfl,hk⟩ | ⟨rfl,S,n,hk⟩
  ·obtain⟨its,_,pl,_⟩:=I.list hq
   refine⟨pl.isList.typeIs,fun a e => ?_⟩
   cases e
   obtain⟨o,n,e,c,hd,_⟩:=pl
   exact⟨o,e,hd⟩
  ·refine⟨⟨o,I.kIn p o hk,hc⟩,fun a e => ?_⟩
   cases e
   exact⟨o,I.kIn _ o hk,hd⟩
  ·obtain⟨_,its,_,o,e,c,_,hd⟩:=hq.ok I.hok
   refine⟨⟨o,e,c⟩,fun a e2 => ?_⟩
   cases e2
   exact⟨o,e,hd⟩
  ·have z:∃o,s.heap.get? p=some o/\o.ExactDict:=by
    rcases hk with ⟨kvs,hk⟩ | ⟨kvs,hk⟩
    ·obtain⟨_,_,_,_,o,_,_,e,ex,_⟩:=I.hok p _ hk
     exact⟨o,e,ex⟩
    ·obtain⟨_,_,_,_,o,_,_,e,ex,_⟩:=I.hok p _ hk
     exact⟨o,e,ex⟩
   obtain⟨o,e,ex⟩:=z
   refine⟨⟨o,e,ex.1⟩,fun a e2 => ?_⟩
   cases e2
   exact⟨o,e,ex.2.1⟩
  ·obtain⟨o,_,_,_,e,ex,_⟩:=I.hok p _ hk
   refine⟨⟨o,e,ex.1⟩,fun a e2 => ?_⟩
   cases e2
   exact⟨o,e,ex.2.1⟩
 | _=>exact False.elim ty
def tBM (K:KFr) (T:String) (r:V->List V->Hp->VK->Prop) (to:TE) (t:TA):TE:=fun σ H Q=>to σ H fun x H1=>tyV K T x H1/\t σ H1 fun xs H2=>r x xs H2 Q
variable {o e:Expr}{es:List Expr}{to:TE}{t:TA}{name:Str}{apos cpos:Pos}{T id:String}{r:V->List V->Hp->VK->Prop}
theorem uM (pa:PlainAttrs T) (slot:Slot T name id) (hty:typeOf (.builtin id)=pure (.type "method_descriptor")) (hm:MtR X id r) (ho:PE X o to) (ha:PA X (e::es) t)
  (hbase:autoParam (attributeBase o name X.env (eval o X.env)=eval o X.env) zY._auto_1)
  (hfew:((backTo cpos (starEach (e::es) X.env)).all (fun x=>!x.1)&&(backToKw cpos (keywordEach [] X.env)).all (fun x=>x.1.isSome)
  &&decide ((e::es).length+([]:List Keyword).length+(if ([]:List Keyword).isEmpty then 0 else 1)<30))=true:=by rfl)
  (hline:autoParam ((apos.endLine == cpos.line)=true) zY._auto_1) (hs:autoParam (starEach (e::es) X.env=(false,eval e X.env)::starEach es X.env) zY._auto_1) (hplain:autoParam ((backTo cpos (starEach es X.env)).any (·.1)=false) zY._auto_1) :
  PE X (.Call (.Attribute o name apos) (e::es) [] cpos) (tBM X.K T r to t):=by
 intro pins s σ H Q I h
 refine wpAny_Call_method_late hbase hfew hline rfl (thn (ho pins s σ H _ I h) fun v s1 ⟨x,H1,I1,r1,ty,q1⟩ => ?_)
 obtain⟨h1,h2⟩:=yE4 I1 r1 ty
 refine⟨T,id,pa,slot,hty,h1,h2,?_⟩
 have hA:=ha cpos pins s1 σ H1 _ I1 q1
 rw[hs] at hA ⊢
 refine Calls.callWith_builtin (by show (false || (backTo cpos (starEach es X.env)).any (·.1))=false;rw[hplain] <;> rfl) (Calls.evalArgs_plain ?_)
 exact thn hA fun us s2 ⟨vs,H2,I2,r2,q2⟩=>hm pins s2 σ H2 x vs v us Q I2 r1 r2 q2
end
def MtM (X:Cx) (id:String) (r:V->List V->Hp->VK->Prop):Prop :=
 ∀(pins:List (Addr×Obj)) (s:Shared) (σ:St) (H:Hp) (x:V) (xs:List V) (v:Value) (us:List Value) (Q:VK),Inv X pins σ H s->RelV x v->Vals xs us->r x xs H Q ->
  wpAny (model X.prog X.w) X.A (call (.builtin id) (v::us)) (EP X pins σ Q) X.xe s
theorem Vals.one:∀{x:V}{us:List Value},Vals [x] us->∃u,us=[u]/\RelV x u
 | _,_,.cons r .nil=>⟨_,rfl,r⟩
theorem Vals.eraseIdx:∀{xs:List V}{us:List Value}(i:Nat),Vals xs us->Vals (xs.eraseIdx i) (us.eraseIdx i)
 | _,_,_,.nil=>.nil
 | _,_,0,.cons _ t=>t
 | _,_,i+1,.cons r t=>.cons r (Vals.eraseIdx i t)
theorem Vals.rep {xs:List V}{us:List Value}(h:Vals xs us):∀k:Nat,Vals (List.replicate k xs).flatten (List.replicate k us).flatten
 | 0=>.nil
 | k+1=>by
  rw[List.replicate_succ,List.replicate_succ,List.flatten_cons,List.flatten_cons]
  exact Vals.append h (Vals.rep h k)
theorem zY5 {α:Type}:∀(l:List α) (i:Nat),(l.eraseIdx i).length<=l.length
 | [],_=>Nat.le_refl _
 | _::_,0=>Nat.le_succ _
 | _::r,i+1=>Nat.succ_le_succ (zY5 r i)
theorem gY (its:List Value):∀(k:Nat) (acc:List Value),
  List.foldl (fun x1 x2=>x1++x2) acc.toArray (List.replicate k its.toArray)=(acc++(List.replicate k its).flatten).toArray
 | 0,acc=>by simp
 | k+1,acc=>by
  have e:acc.toArray++its.toArray=(acc++its).toArray:=by simp
  have e2:(acc++its)++(List.replicate k its).flatten=acc++(List.replicate (k+1) its).flatten:=by
   rw[List.replicate_succ,List.flatten_cons,List.append_assoc]
  rw[<-e2,<-gY its k (acc++its),<-e,List.replicate_succ,List.foldl_cons]
section
variable {X:Cx}{pins:List (Addr×Obj)}{σ:St}{H:Hp}{s:Shared}{l b:Addr}{xs ys zs:List V}
theorem Inv.lset {its its':List Value}{n:Nat}{f:Array Value->Array Value}{t':Nat}(I:Inv X pins σ H s) (hH:H l=some (.lst xs))
  (e:s.heap.get? l=some { cls:=.type "list",data:=.seq its.toArray n }) (hf:f its.toArray=its'.toArray) (hv:Vals ys its') (hz:ys.length<=sizeLine) :
  Inv X pins σ (upd H l (.lst ys)) { s with heap:=s.heap.update l (Obj.mapSeq f),toks:=t' }:=by
 have q:=PySem.IsL.update e f
 rw[hf] at q
 refine I.write (x:=l) (e:=l) (by rw[hH];exact trivial) (.inl rfl) (fun b' u hb hu=>(Heap.get?_update_other s.heap (Obj.mapSeq f) (Ne.symm hb)).trans hu) ⟨_,q⟩ ?_
 exact⟨hz,its',_,hv,q⟩
theorem Inv.lnew {its:List Value}{t':Nat}(I:Inv X pins σ H s) (hv:Vals ys its) (hz:ys.length<=sizeLine) :
  Inv X pins σ (upd H s.heap.objs.size (.lst ys)) { s with heap:=s.heap.push { cls:=.type "list",data:=.seq its.toArray },toks:=t' } :=
 I.laid (fun _ _ q=>Heap.get?_push_of_some _ q) (Nat.le_refl _) ⟨hz,its,0,hv,Heap.get?_push_size _ rfl⟩
theorem Inv.fresh (I:Inv X pins σ H s):H s.heap.objs.size=none:=I.hok.fresh (Nat.le_refl _)
theorem Inv.lstM (I:Inv X pins σ H s) (hH:H l=some (.lst xs)):xs.length<=sizeLine/\∃(its:List Value) (n:Nat),Vals xs its/\xs.length=its.length/\s.heap.get? l=some { cls:=.type "list",data:=.seq its.toArray n }:=by
 obtain⟨z,its,n,r,e⟩:=I.hok l _ hH
 exact⟨z,its,n,r,r.length,e⟩
theorem notLongL {n:Nat}(h:n<=sizeLine):Builtin.List.listTooLong n=false:=by
 unfold Builtin.List.listTooLong
 exact decide_eq_false (by bv_omega)
end
section
variable {X:Cx}
def rAppend:V->List V->Hp->VK->Prop:=fun x vs H Q=>∃l xs y,x=.ref l/\vs=[y]/\H l=some (.lst xs)/\xs.length<sizeLine/\Q .non (upd H l (.lst (xs ++ [y])))
theorem yM:MtM X "list.append" rAppend:=by
 intro pins s σ H x vs v us Q I rx rv h
 obtain⟨l,xs,y,rfl,rfl,hH,hz,q⟩:=h
 cases rx
 obtain⟨u,rfl,ru⟩:=rv.one
 obtain⟨z,its,n,r,hl,e⟩:=I.lstM hH
 refine call_meets F.slot_list_append ⟨_,e,rfl⟩ F.entry_list_append (F.args_list_append_2 _ _) (PySem.list_append l its.toArray n u (by rw[List.size_toArray];bv_omega)) ⟨e,?_⟩
 refine⟨.non,_,I.lset (its':=its ++ [u]) hH e (by simp) (r.append (.cons ru .nil)) ?_,rfl,q⟩
 rw[List.length_append,List.length_singleton]
 bv_omega
def rPopAt:V->List V->Hp->VK->Prop:=fun x vs H Q=>∃l xs i k y,x=.ref l/\vs=[.int i]/\H l=some (.lst xs)/\-(2 ^ 63)<=i/\i<2 ^ 63/\seqIndex? i xs.length=some k/\xs[k]?=some y/\Q y (upd H l (.lst (xs.eraseIdx k)))
theorem yW4:MtM X "list.pop" rPopAt:=by
 intro pins s σ H x vs v us Q I rx rv h
 obtain⟨l,xs,i,k,y,rfl,rfl,hH,h1,h2,hk,hy,q⟩:=h
 cases rx
 obtain⟨u,rfl,ru⟩:=rv.one
 obtain⟨t,rfl⟩:=ru
 obtain⟨z,its,n,r,hl,e⟩:=I.lstM hH
 obtain⟨w,hw,rw'⟩:=r.get hy
 refine call_meets F.slot_list_pop ⟨_,e,rfl⟩ F.entry_list_pop (F.args_list_pop_2 _ _)
  (MeetsSeq.list_pop_at l its.toArray n i t k w (fitsIndex_both h1 h2) (by rw[List.size_toArray,<-hl];exact hk) (by rw[<-Array.getElem?_toList];exact hw) (by rw[List.size_toArray];bv_omega)) ⟨e,?_⟩
 refine⟨y,_,I.lset (its':=its.eraseIdx k) hH e ?_ (r.eraseIdx k) ?_,rw',q⟩
 ·show its.toArray.eraseIdxIfInBounds k=(its.eraseIdx k).toArray
  rw[List.eraseIdxIfInBounds_toArray]
 ·have:=zY5 xs k
  bv_omega
def rRep:R2:=fun x y H Q=>∃l k xs,x=.ref l/\y=.int k/\H l=some (.lst xs)/\-(2 ^ 63)<=k/\k<2 ^ 63/\xs.length*k.toNat<=sizeLine /\
 ∀p,H p=none->Q (.ref p) (upd H p (.lst (List.replicate k.toNat xs).flatten))
theorem zM6 {α:Type}(xs:List α) (k:Nat):(List.replicate k xs).flatten.length=k*xs.length:=by
 induction k with
 | zero=>simp
 | succ k ih=>rw[List.replicate_succ,List.flatten_cons,List.length_append,ih,Nat.succ_mul,Nat.add_comm]
theorem xY4:OpR X (binaryOp .Mult) rRep:=by
 intro pins s σ H x y v u Q I rx ry h
 obtain⟨l,k,xs,rfl,rfl,hH,h1,h2,hz,q⟩:=h
 cases rx
 obtain⟨t,rfl⟩:=ry
 obtain⟨z,its,n,r,hl,e⟩:=I.lstM hH
 have hlen:its.toArray.size*k.toNat<=sizeLine:=by rw[List.size_toArray,<-hl];exact hz
 have hcap:¬its.toArray.size*k.toNat > (2 ^ 63-1) / 8:=by
  have:(sizeLine:Nat)<=(2 ^ 63-1) / 8:=by decide
  bv_omega
 have hfit:¬(!Builtin.List.listFitsIndex k)=true:=by
  rw[fitsIndex_both h1 h2]
  exact Bool.false_ne_true
 have hlong:¬Builtin.List.listTooLong (its.toArray.size*k.toNat)=true:=by
  rw[notLongL hlen]
  exact Bool.false_ne_true
 have hnew:List.foldl (fun x1 x2=>x1++x2) #[] (List.replicate (if its.toArray.isEmpty=true then 0 else k.toNat) its.toArray)=(List.replicate k.toNat its).flatten.toArray:=by
  have f0:∀m:Nat,List.foldl (fun x1 x2=>x1++x2) #[] (List.replicate m its.toArray)=(List.replicate m its).flatten.toArray:=fun m=>by
   have:=gY its m []
   rw[List.nil_append] at this
   exact this
  rw[f0]
  cases its with
  | nil=>simp
  | cons a r'=>rw[if_neg (by simp)]
 refine wpAny_binaryOp_repeat_ref (T:="list") (U:="int") (by decide) ⟨_,e,rfl⟩ (fun s'=>typeIs_int s' k t) noFill_list_mul F.fills_int_mul F.slot_int_rmul repeat_list F.slot_int_index.lookup
  (call_meets F.slot_int_rmul (typeIs_int s k t) F.entry_int_rmul (F.args_int_rmul_2 _ _) (int___rmul___int_list k t l its.toArray n)
   ⟨e,rfl,⟨_,e,rfl⟩,call_meets F.slot_list_mul ⟨_,e,rfl⟩ F.entry_list_mul (F.args_list_mul_2 _ _) (AutoListH.list___mul___list_int_3 l its.toArray n k t hfit hcap hlong) ⟨e,?_⟩⟩)
 rw[hnew]
 exact⟨.ref _,_,I.lnew (t':=s.toks) (r.rep k.toNat) (by rw[zM6,Nat.mul_comm];exact hz),rfl,q _ I.fresh⟩
end
section
variable {prog:Program}{w:World}{A:Around}{E:Value->Shared->Prop}{s:Shared}
end
section
variable {X:Cx}
end
end L2
namespace Att
open PySem PySem.W PySem.Calls PyProof.Rows
theorem cB {P:Params}{h:Heap}:∀(ns:List Int) (vs:List Value),WellAll P h vs (ns.map WData.int)->IntsAre vs ns:=by
 intro ns
 induction ns with
 | nil =>
  intro vs w
  rw[List.map_nil] at w
  cases w
  exact .nil
 | cons n ns ih =>
  intro vs w
  rw[List.map_cons] at w
  cases w with
  | cons a b =>
   cases a
   exact .cons _ _ (ih _ b)
theorem yX3 {l:OpenLaw}{n:Nat}(hn:l.most=some n){P:Params}{h:Heap}{args:List WData}{vals:List Value}
  (hpre:l.row.toRowW.claim.pre args=true) (hwl:WellAll P h vals args) :
  ∃a vs ns,vals=[Value.ref a]/\args=[WData.list (ns.map WData.int)]/\h.get? a=some { cls:=.type "list",data:=.seq vs.toArray }/\IntsAre vs ns/\ns.length<=n:=by
 have hsh:WShape.hasAll [] args [.list .int]=true:=(pre_splitW hpre).1
 have hc:l.pre.holds [] { args:=args }=true:=(pre_splitW hpre).2
 obtain⟨d,r,rfl,h1,h2⟩:=hasAllW_cons hsh
 obtain rfl:=hasAllW_nil h2
 obtain⟨xs,rfl,h3⟩:=hasW_list h1
 obtain⟨ns,rfl⟩:=items_int h3
 have hlen:ns.length<=n:=by
  unfold OpenLaw.pre at hc
  have h4:(WTm.not (.lt (.lit (.int (n:Int))) (.len (.arg 0)))).holds [] { args:=[.list (ns.map .int)] }=true:=by
   have h4:=(holds_andW hc).1
   rw[hn] at h4
   exact h4
  have h5:=condW_of h4 (w_not (w_lt w_lit (w_len_list (w_arg rfl))))
  rw[List.length_map] at h5
  refine Nat.le_of_not_lt fun q => ?_
  have q':(n:Int)<((ns.length:Nat):Int):=by bv_omega
  first
   | (rw[decide_eq_true q'] at h5;exact absurd h5 (by decide))
   | (simp at h5;bv_omega)
 cases hwl with
 | cons w1 w2 =>
  cases w2
  cases w1 with
  | list ho hall=>exact⟨_,_,ns,rfl,rfl,ho,cB ns _ hall,hlen⟩
theorem zF6 (l:OpenLaw) (args:List WData):l.row.toRowW.claim.post args (.bool true) args=true :=
 postW_of (r:=l.row.toRowW) (X:=(true == true))
  (show WShape.has [] (.bool true) .bool=true by first | rfl | decide | simp[WShape.has,WShape.arms,WShape.armsAll])
  (show (WTm.eq .res (.lit (.bool true))).value [] { args:=args,res:=some (.bool true),after:=args }=some (.bool (true == true)) from w_eq_bool (w_res rfl) w_lit) rfl
theorem zQ4 {l:OpenLaw}{n:Nat}{q:Program}{loose:List Str}{XP:(Str->Option Value)->Heap->Prop}{YP:World->Heap->Prop}{d:DefRec}
  (hn:l.most=some n) (hdf:d.params.defaults=[])
  (call:∀(w:World) (s₀ s₁:Shared) (mg mb:Str->Option Value) (fa:Addr) (o:Obj) (pm cd doc:Value) (a:Addr) (vs:List Value) (ns:List Int),
   Ground q loose [] XP w s₀ mg mb s₁.heap->YP w s₁.heap ->
   s₁.heap.get? fa=some o->o.data=.func (docDef d.name d.params d.body d.scope pm cd doc)->s₁.heap.CodeRec cd d.name->mg d.name=some (.ref fa) ->
   s₁.heap.get? a=some { cls:=.type "list",data:=.seq vs.toArray }->IntsAre vs ns->ns.length<=n->s₁.gens=#[] ->
   codeAny (model l.prog w) callerA (.call (.ref fa) ⟨[.ref a],[]⟩) (fun r s'=>r=.ok (.ret (.bool true))/\OldK s₁.heap s'.heap/\s'.os=s₁.os/\AllBare s'.gens) s₁) :
  WalkO q loose XP YP l.row.toRowW d [] (fun f vs=>PySem.call f vs):=by
 intro w s₀ s₁ mg mb G Y fa o pm cd doc dV kV ho hd hcd hD hmg hg args vals as hpre hlay hrd hwl hlo
 obtain rfl:dV=.none:=Dflts.none hD hdf
 obtain rfl:kV=.none:=Dflts.noKw hD
 obtain⟨a,vs,ns,rfl,rfl,hobj,hints,hlen⟩:=yX3 hn hpre hwl
 refine enter_call (codeAny_mono (call w s₀ s₁ mg mb fa o pm cd doc a vs ns G Y ho (fd_plain hd) hcd hmg hobj hints hlen hg) fun r s' hq => ?_)
 obtain⟨rfl,h2,h3,h4⟩:=hq
 exact⟨.inl ⟨.bool true,.bool true,[],rfl,fun _=>rfl,.bool true,zF6 l _,fun _=>⟨List.Pairwise.nil,fun _ hm=>(nomatch hm)⟩⟩,h2,h3,h4⟩
section
variable {prog:Program}{w:World}{A:Around}{E:Value->Shared->Prop}{s:Shared}{K:Frag}
end
end Att
namespace L2
open PySem PySem.Spec PyProof.Rows
theorem gC:∀{vs:List Value}{ns:List Int},IntsAre vs ns->Vals (ns.map V.int) vs
 | _,_,.nil=>.nil
 | _,_,.cons n t h=>.cons ⟨t,rfl⟩ (gC h)
def Only (H:Hp):Prop:=∀b,H b=none\/(∃o xs,H b=some (.frz o (.lst xs)))\/∃q,H b=some (.tbl q)
def tabH (K:KFr):List Str->Hp
 | []=>fun _=>none
 | x::r=>match PySem.W.tabIn K x with
  | some (_,P)=>upd (tabH K r) P (.tbl (lamQ x))
  | none=>tabH K r
theorem xI {K:KFr}{b:Addr}{o:HO}:∀{l:List Str},tabH K l b=some o->∃x∈l,∃c,PySem.W.tabIn K x=some (c,b)/\o=.tbl (lamQ x)
 | [],h=>nomatch h
 | x::r,h=>by
  rw[tabH] at h
  rcases e:PySem.W.tabIn K x with _ | ⟨c,P⟩ <;> simp only[e] at h
  rotate_left
  ·by_cases hb:b=P
   ·subst hb
    rw[zT] at h
    cases h
    exact⟨x,List.mem_cons_self,c,e,rfl⟩
   ·rw[zX hb] at h
    obtain⟨y,hy,c,e1,e2⟩:=xI h
    exact⟨y,List.mem_cons_of_mem _ hy,c,e1,e2⟩
  ·obtain⟨y,hy,c,e1,e2⟩:=xI h
   exact⟨y,List.mem_cons_of_mem _ hy,c,e1,e2⟩
theorem kI {K:KFr}(U:∀x y c c' P,x∈tabNames->y∈tabNames->PySem.W.tabIn K x=some (c,P)->PySem.W.tabIn K y=some (c',P)->x=y){c P:Addr}:∀{l:List Str}{x:Str},(∀y∈l,y∈tabNames)->x∈l->PySem.W.tabIn K x=some (c,P)->tabH K l P=some (.tbl (lamQ x))
 | y::r,x,hl,hx,e=>by
  rw[tabH]
  rcases e':PySem.W.tabIn K y with _ | ⟨c',P'⟩ <;> simp only
  rotate_left
  ·by_cases hb:P=P'
   ·subst hb
    rw[zT,U x y c c' P (hl x hx) (hl y List.mem_cons_self) e e']
   ·rw[zX hb]
    rcases List.mem_cons.mp hx with rfl | hx
    ·rw[e] at e';cases e';exact absurd rfl hb
    ·exact kI U (fun z hz=>hl z (List.mem_cons_of_mem _ hz)) hx e
  ·rcases List.mem_cons.mp hx with rfl | hx
   ·rw[e] at e';cases e'
   ·exact kI U (fun z hz=>hl z (List.mem_cons_of_mem _ hz)) hx e
theorem yV2 {P:Program}{w:World}{K:KFr}{mg mb:Str->Option Value}{CX:CXT}{k:Nat}{fa a:Addr}{fd:FuncData}{x:Str}{sp:Sp}{s₁:Shared}{vs:List Value}{ns:List Int}
  (KX:K.In s₁.heap) (hns:s₁.heap.Ns mainGlobals mg) (hb:s₁.heap.Ns builtinsNs mb) (hbb:∀x:Str,x ≠ "__name__"->mb x=bootBuiltins x) (hlim:s₁.heap.NoLimit) (hg:s₁.gens=#[])
  (ha:s₁.heap.get? a=some { cls:=.type "list",data:=.seq vs.toArray }) (hi:IntsAre vs ns) (hl:ns.length<=sizeLine) (hr:Room k callerA)
  (F:∀base:Heap,K.In base->base.Ns mainGlobals mg->FnOk P w K mg base CX k fa fd [x] sp) (hbind:∀(s:Shared) (u:Value),BindsTo s fd ⟨[u],[]⟩ [(x,u)])
  (hsp:∀H:Hp,Only H->SqL K H a (ns.map V.int)->sp [.ref a] H (fun v _=>v=.bl true) fun _ _ _=>False)
  (hCX:∀H e s',CX [] H s₁ (fun _ _ _=>False) e s'->False) (hnt:PySem.W.noTabs K=true) (hU:∀x y c c' P,x∈tabNames->y∈tabNames->PySem.W.tabIn K x=some (c,P)->PySem.W.tabIn K y=some (c',P)->x=y)
  (htab:∀x∈tabNames,∀c P,PySem.W.tabIn K x=some (c,P)->PySem.W.CodeHd s₁.heap c P/\s₁.heap.get? P=some (PySem.W.tabObj #[]))
  (hbm:∃bm ob,mg "__builtins__" = some (.ref bm)/\bm≠builtinsNs/\s₁.heap.get? bm=some ob/\ob.cls=.type "module"/\ob.dict=some builtinsNs/\ob.data=.plain) :
  codeAny (model P w) callerA (.call (.ref fa) ⟨[.ref a],[]⟩) (fun r s'=>r=.ok (.ret (.bool true))/\OldK s₁.heap s'.heap/\s'.os=s₁.os/\AllBare s'.gens) s₁:=by
 have rv:=gC hi
 have lenV:=hi.length
 have core:∀H:Hp,Only H->SqL K H a (ns.map V.int)->HOk P w H s₁.heap->(∀b,H b≠none->b=a\/s₁.heap.get? b=some (PySem.W.tabObj #[]))->(H a≠none->K.lookup a=none)->TabsIn K H->(∀b q,H b=some (.tbl q)->∃x∈tabNames,∃c,PySem.W.tabIn K x=some (c,b)) ->
   codeAny (model P w) callerA (.call (.ref fa) ⟨[.ref a],[]⟩) (fun r s'=>r=.ok (.ret (.bool true))/\OldK s₁.heap s'.heap/\s'.os=s₁.os/\AllBare s'.gens) s₁:=by
  intro H hO hS hok hA hK hTI hTb
  have base_of:∀{b:Addr}{o:Obj},s₁.heap.get? b=some o->H b=none->(hidT s₁.heap H).get? b=some o:=fun e n=>yS1 e n
  have noA:∀{b:Addr}{o:Obj}{es:Array DictEntry}{ep:Nat},s₁.heap.get? b=some o->o.data=.dict es ep->H b=none:=fun {b o es ep} e d=>by
   cases q:H b with
   | none=>rfl
   | some u =>
    rcases hA b (by rw[q];simp) with e' | e'
    ·subst e'
     rw[ha] at e;cases e
     have d':Data.seq vs.toArray _=Data.dict es ep:=d
     cases d'
    ·rw[e] at e';cases e';cases d
  have nsK:∀{b:Addr}{m:Str->Option Value},s₁.heap.Ns b m->(hidT s₁.heap H).Ns b m:=fun {b m} ⟨o,es,ep,e,d,r⟩=>⟨o,es,ep,base_of e (noA e d),d,r⟩
  have hKb:K.In (hidT s₁.heap H):=fun b o e=>base_of (KX b o e) (by
   cases q:H b with
   | none=>rfl
   | some u =>
    rcases hA b (by rw[q];simp) with e' | e'
    ·subst e'
     rw[hK (by rw[q];simp)] at e;cases e
    ·rw[KX b o e] at e';cases e'
     exact absurd (List.all_eq_true.mp hnt _ (PySem.W.mem_of_lookupK e)) (by simp))
  have unt:∀{b:Addr}{o:Obj}{T:String},s₁.heap.get? b=some o->o.cls=.type T->T ≠ "list"->H b=none:=fun {b o T} e c n=>by
   cases q:H b with
   | none=>rfl
   | some u =>
    rcases hA b (by rw[q];simp) with e' | e'
    ·subst e'
     rw[ha] at e;cases e
     have c':Value.type "list" = Value.type T:=c
     injection c' with c'
     exact absurd c'.symm n
    ·rw[e] at e';cases e';cases c
  have hM:Mod K mg (hidT s₁.heap H):=⟨fun x hx c P e=>let ⟨⟨o,vs,f,tf,fl,tg,i,tx,tt,e1,e2,r⟩,_⟩:=htab x hx c P e; ⟨o,vs,f,tf,fl,tg,i,tx,tt,base_of e1 (unt e1 e2 (by decide)),e2,r⟩,let ⟨bm,ob,b1,b2,b3,b4,r⟩:=hbm; ⟨bm,ob,b1,b2,base_of b3 (unt b3 b4 (by decide)),b4,r⟩,hKb,nsK hns,⟨mb,nsK hb,hbb⟩,let ⟨mc,h1,h2⟩:=hlim; ⟨mc,nsK h1,h2⟩⟩
  have e0:Env0 P w K mg (hidT s₁.heap H) callerA [] s₁ H:=⟨rfl,hM,fun b o e=>yE1 e,Nat.le_of_eq (zA1 _ _),trivial,fun b hb=>absurd (show b∈([]:List Addr) from hb) (by simp),hok,.of_eq hg,hTI⟩
  refine codeAny_mono ((F _ hKb (nsK hns)).run callerA [] s₁ H ⟨[.ref a],[]⟩ [.ref a] [.ref a] _ _ hr e0 (hbind s₁ (.ref a)) (.cons rfl .nil) (hsp H hO hS)) fun r s' h => ?_
  cases r with
  | error e=>exact (hCX H e s' h).elim
  | ok fl =>
   cases fl with
   | next=>exact False.elim h
   | brk=>exact False.elim h
   | cont=>exact False.elim h
   | ret u =>
    obtain⟨v,H',os,bare,un,hok',r',q⟩:=h
    have q':v=.bl true:=q
    subst q'
    obtain rfl:u=Value.bool true:=r'
    refine⟨rfl,⟨fun b o e => ?_,fun b o e=>un.there b o e (by simp)⟩,os,bare⟩
    cases q:H b with
    | none=>exact .inl (un.keep b o e q (by intro z;exact absurd (show b∈([]:List Addr) from z) (by simp)) (by simp))
    | some u =>
     rcases hO b with z | ⟨ob,xs,z⟩ | ⟨qq,z⟩
     ·rw[q] at z;cases z
     ·have z2:=un.frzs b ob _ z
      obtain⟨e1,_⟩:=hok b _ z
      obtain⟨e2,_⟩:=hok' b _ z2
      rw[e] at e1;cases e1
      exact .inl e2
     ·obtain⟨ps,e2,_⟩:=hok' b _ (un.tbls b _ z)
      rcases hA b (by rw[z];simp) with e' | e'
      ·obtain⟨ps0,e3,_⟩:=hok b _ z
       rw[e',ha] at e3;cases e3
      ·obtain⟨x,hx,c,e4⟩:=hTb b qq z
       obtain⟨e5,e6⟩:=htab x hx c b e4
       rw[e] at e6;cases e6
       exact .inr (.inl ⟨(e5.tab e).isCodeTable,rfl,#[],ps,rfl,by rw[Array.empty_append];exact e2⟩)
 have tA:∀b,tabH K tabNames b≠none->s₁.heap.get? b=some (PySem.W.tabObj #[]):=fun b z=>by
  cases q:tabH K tabNames b with
  | none=>exact absurd q z
  | some u=>obtain⟨x,hx,c,e,_⟩:=xI q;exact (htab x hx c b e).2
 have tOk:HOk P w (tabH K tabNames) s₁.heap:=fun b u z=>by
  obtain⟨x,hx,c,e,rfl⟩:=xI z
  exact⟨#[],(htab x hx c b e).2,trivial,fun pos cv z=>nomatch z⟩
 have tB:∀b q,tabH K tabNames b=some (.tbl q)->∃x∈tabNames,∃c,PySem.W.tabIn K x=some (c,b):=fun b q z=>let ⟨x,hx,c,e,_⟩:=xI z; ⟨x,hx,c,e⟩
 have ta:tabH K tabNames a=none:=by
  cases q:tabH K tabNames a with
  | none=>rfl
  | some u =>
   have:=tA a (by rw[q];simp)
   rw[ha] at this;cases this
 cases hk:K.lookup a with
 | some o =>
  have e:=KX a o hk
  rw[ha] at e
  cases e
  have na:tabH K tabNames a=none:=by
   cases q:tabH K tabNames a with
   | none=>rfl
   | some u =>
    obtain⟨x,hx,c,e1,_⟩:=xI q
    have:=(htab x hx c a e1).2
    rw[ha] at this;cases this
  refine core (tabH K tabNames) (fun b => ?_) (.inr ⟨_,vs.toArray,_,hk,rfl,rfl,rfl,by rw[List.size_toArray,lenV];exact hl,by simpa using rv⟩) tOk (fun b z=>.inr ?_) (fun z=>absurd na z) (fun x hx c P e=>kI hU (fun _ hy=>hy) hx e) tB
  ·cases q:tabH K tabNames b with
   | none=>exact .inl rfl
   | some u=>obtain⟨x,_,_,_,rfl⟩:=xI q;exact .inr (.inr ⟨_,rfl⟩)
  ·exact tA b z
 | none =>
  refine core (upd (tabH K tabNames) a (.frz { cls:=.type "list",data:=.seq vs.toArray } (.lst (ns.map V.int)))) (fun b => ?_) (.inl (.inr ⟨{ cls:=.type "list",data:=.seq vs.toArray },zT⟩)) (fun b u z => ?_) (fun b z => ?_) (fun _=>hk) (fun x hx c P e => ?_) fun b q z => ?_
  ·by_cases hb:b=a
   ·subst hb;exact .inr (.inl ⟨_,_,zT⟩)
   ·rw[zX hb]
    cases q:tabH K tabNames b with
    | none=>exact .inl rfl
    | some u=>obtain⟨x,_,_,_,rfl⟩:=xI q;exact .inr (.inr ⟨_,rfl⟩)
  ·by_cases hb:b=a
   ·subst hb
    rw[zT] at z
    cases z
    exact⟨ha,by rw[List.length_map];exact hl,vs,_,rv,ha⟩
   ·rw[zX hb] at z
    refine (tOk b u z).stay (fun _ _ _ q=>q) (fun c q => ?_) (fun c xs q => ?_) fun c o xs q => ?_
    ·obtain⟨_,_,_,_,q'⟩:=xI q;cases q'
    ·obtain⟨_,_,_,_,q'⟩:=xI q;cases q'
    ·obtain⟨_,_,_,_,q'⟩:=xI q;cases q'
  ·by_cases hb:b=a
   ·exact .inl hb
   ·rw[zX hb] at z
    exact .inr (tA b z)
  ·have hP:=kI hU (fun _ hy=>hy) hx e
   rw[zX (fun z=>by rw[z,ta] at hP;cases hP)]
   exact hP
  ·by_cases hb:b=a
   ·subst hb;rw[zT] at z;cases z
   ·rw[zX hb] at z
    exact tB b q z
abbrev KOf {K:KFr}{h:Heap}(_:K.In h):KFr:=K
structure TabsOk (q:Program) (K:Params->KFr):Prop where
 nt:∀w:World,PySem.W.noTabs (K w.params)=true
 un:∀(w:World) x y c c' P,x∈tabNames->y∈tabNames->PySem.W.tabIn (K w.params) x=some (c,P)->PySem.W.tabIn (K w.params) y=some (c',P)->x=y
 rc:∀(w:World),∀x∈tabNames,(PySem.W.tabIn (K w.params) x).isSome=true->((recsOf q).find? (fun e=>e.name == x)).isSome=true
theorem yJ4 {l:PySem.W.OpenLaw}{n k:Nat}{q:Program}{loose:List Str}{XP:(Str->Option Value)->Heap->Prop}{YP:World->Heap->Prop}{d:DefRec}{K:Params->KFr}{CX:World->CXT}{sp:World->Sp}{x:Str}
  (hn:l.most=some n) (hn2:n<=sizeLine) (hdf:d.params.defaults=[]) (hr:Room k callerA)
  (hY:∀(w:World) (h:Heap),YP w h->(K w.params).In h)
  (F:∀(w:World) (mg:Str->Option Value) (fa:Addr) (h:Heap),(K w.params).In h->h.Ns mainGlobals mg->mg d.name=some (.ref fa) ->
   ∃fd:FuncData,(∀(s:Shared) (u:Value),BindsTo s fd ⟨[u],[]⟩ [(x,u)]) /\
    ∀base:Heap,(K w.params).In base->base.Ns mainGlobals mg->FnOk l.prog w (K w.params) mg base (CX w) k fa fd [x] (sp w))
  (hsp:∀(w:World) (H:Hp) (a:Addr) (ns:List Int),ns.length<=n->Only H->SqL (K w.params) H a (ns.map V.int)->sp w [.ref a] H (fun v _=>v=.bl true) fun _ _ _=>False)
  (hCX:∀(w:World) (H:Hp) (s:Shared) (e:Value) (s':Shared),CX w [] H s (fun _ _ _=>False) e s'->False) (TT:TabsOk q K) :
  PySem.W.WalkO q loose XP YP l.row.toRowW d [] (fun f vs=>PySem.call f vs):=by
 refine Att.zQ4 hn hdf fun w s₀ s₁ mg mb fa o pm cd doc a vs ns G Y ho hd hcd hmg hobj hints hlen hg => ?_
 have KX:=hY w _ Y
 obtain⟨fd,hb,hF⟩:=F w mg fa _ KX G.T.g hmg
 exact yV2 KX G.T.g G.T.b G.T.builtins G.T.nolimit hg hobj hints (Nat.le_trans hlen hn2) hr hF hb (fun H hO hS=>hsp w H a ns hlen hO hS) (fun H e s'=>hCX w H s₁ e s') (TT.nt w) (TT.un w) (fun y hy c P e=>by
  have z:=TT.rc w y hy (by rw[e];rfl)
  obtain⟨d',hd'⟩:=Option.isSome_iff_exists.mp z
  exact PySem.W.tab_of G.T KX hd' e) G.T.bmain
def defArgs (s:Stmt):Arguments:=match s with
 | .FunctionDef _ a _ _ _ _ _ _ _ _=>a
 | _=>{ posonlyargs:=[],args:=[],vararg:=none,kwonlyargs:=[],kw_defaults:=[],kwarg:=none,defaults:=[] }
def defBody (s:Stmt):List Stmt:=match s with
 | .FunctionDef _ _ b _ _ _ _ _ _ _=>b
 | _=>[]
def zW (s:Stmt):Scope:=match s with
 | .FunctionDef _ _ _ _ _ _ sc _ _ _=>sc
 | _=>{ kind:=.function,names:=[],isGenerator:=false,isCoroutine:=false }
abbrev CX0:CXT:=fun _ _ _ _ _ _=>False
abbrev E0:XK:=fun _ _ _=>False
theorem pass0 {X:Cx}:Passes CX0 X E0:=fun _ _ _ _ _ _ _ h=>h.elim
structure Fun (K:KFr) (x qual:Str) (st:Stmt) (f:Addr) (fd:FuncData):Prop where
 ex:∃(oc:Value) (od:Option Addr) (kV doc pm:Value) (an:Option Addr) (cdv ct:Value) (osl:Array (Option Value)),
  fd=PySem.W.fnOf x qual (defArgs st) (defBody st) (zW st) .none kV doc pm an cdv ct/\K.lookup f=some ⟨oc,od,.func fd,osl⟩/\PySem.W.codeIn K cdv qual=true
 kp:PySem.W.keepIn K (.ref f)=true
section
variable {P:Program}{w:World}{K:KFr}{mg:Str->Option Value}{base:Heap}
theorem Fun.ok {x qual:Str}{st:Stmt}{f:Addr}{fd:FuncData}{N ps:List Str}{k:Nat}{sp:Sp}(F:Fun K x qual st f fd) (S:zI N ps (zW st)) (len:∀vs H Q E,sp vs H Q E->vs.length=ps.length)
  (hbody:∀(cdv:Value) (A:Around) (outer:List Env) (s:Shared) (H:Hp) (vs:List V) (Q:VK) (E:XK),Room k (A.deeper (envOfC qual (zW st) s.heap.objs.size f cdv))->sp vs H Q E ->
   ∃t,PSs (cxOf CX0 P w K mg base N qual (zW st) f cdv A outer s H E).nox (defBody st) t/\t { nx:=fun _ H'=>Q .non H',rt:=Q } (start N vs) H):FnOk P w K mg base CX0 (k+1) f fd ps sp:=by
 obtain⟨oc,od,kV,doc,pm,an,cdv,ct,osl,rfl,lk,hcd⟩:=F.ex
 refine zX3 lk hcd S len fun A outer s H vs Q E hr hsp => ?_
 obtain⟨t,h,q⟩:=hbody cdv A outer s H vs Q E hr hsp
 exact⟨t,h.nox,q⟩
theorem Fun.binds {x qual:Str}{st:Stmt}{f:Addr}{fd:FuncData}{ps:List Str}(F:Fun K x qual st f fd)
  (h:∀(kV doc pm:Value) (an:Option Addr) (cdv ct:Value) (us:List Value),us.length=ps.length->bindArgs (PySem.W.fnOf x qual (defArgs st) (defBody st) (zW st) .none kV doc pm an cdv ct) ⟨us,[]⟩=pure (ps.zip us)):Binds K fd ps []:=by
 obtain⟨oc,od,kV,doc,pm,an,cdv,ct,osl,rfl,lk,hcd⟩:=F.ex
 exact .all (h kV doc pm an cdv ct)
theorem yD5 {x qual:Str}{st:Stmt}{f:Addr}{oc:Value}{od an:Option Addr}{osl:Array (Option Value)}{kV doc pm cdv ct:Value}(l:K.lookup f=some ⟨oc,od,.func (PySem.W.fnOf x qual (defArgs st) (defBody st) (zW st) .none kV doc pm an cdv ct),osl⟩)
  (c:PySem.W.codeIn K cdv qual=true) (k:PySem.W.keepIn K (.ref f)=true):Fun K x qual st f (PySem.W.fnOf x qual (defArgs st) (defBody st) (zW st) .none kV doc pm an cdv ct):=⟨⟨oc,od,kV,doc,pm,an,cdv,ct,osl,rfl,l,c⟩,k⟩
end
theorem small1000 {n:Nat}(h:n<=1000):n<sizeLine:=Nat.lt_of_le_of_lt h (by decide)
section
variable {X:Cx}
theorem pv (i:Nat){x:Str}{pos:Pos}(hN:autoParam (X.N[i]?=some x) zY._auto_1) (hv:autoParam (Vis X.env.scope x) qZ._auto_1) (hd:autoParam ((x == ("__debug__":Str))=false) zK._auto_1)
  (hcd:autoParam ((x == ("__classdict__":Str))=false) zK._auto_1):PE X (.Name x pos) (tVar i):=vG hN hv hd hcd
end
theorem iteF {A B:Prop}(h:B):if false=true then A else B:=by
 rw[if_neg Bool.false_ne_true]
 exact h
theorem iteT {A B:Prop}(h:A):if true=true then A else B:=by
 rw[if_pos rfl]
 exact h
def Same (H H':Hp):Prop:=∀b o,H b=some o->H' b=some o
theorem Same.refl (H:Hp):Same H H:=fun _ _ h=>h
theorem Same.trans {H H1 H2:Hp}(a:Same H H1) (b:Same H1 H2):Same H H2:=fun c o h=>b c o (a c o h)
theorem Same.free {H H':Hp}(e:Same H H'){l:Addr}(h:H' l=Option.none):H l=Option.none:=by
 cases q:H l with
 | none=>rfl
 | some o =>
  rw[e l o q] at h
  cases h
end L2
set_option maxHeartbeats 2000000
namespace PySem
section
variable {prog:Program}{w:World}{A:Around}{E:Value->Shared->Prop}{s:Shared}
theorem zI5 {x:Value}{Q:List Value->Shared->Prop}
  (k:codeAny (model prog w) A (.builtin "list.__iadd__" ⟨[.ref s.heap.objs.size,x],[]⟩) (wants (fun v s'=>v=.ref s.heap.objs.size/\∃acc n,s'.heap.get? s.heap.objs.size=some { cls:=.type "list",data:=.seq acc n }/\Q acc.toList s') E) { s with heap:=s.heap.push { cls:=.type "list",data:=.seq #[] } }) :
  wpAny (model prog w) A (collect x) Q E s:=by
 wp_walk
 have h1:=F.entry_proto_collect
 have h2:=F.plain_proto_collect
 have h3:=F.plain_list_iadd
 refine codeAny_builtin h1 ?_
 rw[Around.under_plainId h2]
 wp_walk
 refine⟨plainId_quiet h3 _,codeAny_mono k fun r s' hr => ?_⟩
 cases r with
 | error e=>exact hr
 | ok f =>
  cases f with
  | ret v =>
   obtain⟨rfl,acc,n,g,q⟩:=hr
   exact wpAny_bind (wpAny_load g (wpAny_pure q))
  | _=>exact hr.elim
theorem zR8 {x:Value}{S:Spec}{Q:List Value->Shared->Prop}(m:MeetsIn prog w (Builtin.List.listExtendWith (.ref s.heap.objs.size) x (.ref s.heap.objs.size)) S)
  (k:S A (wants (fun v s'=>v=.ref s.heap.objs.size/\∃acc n,s'.heap.get? s.heap.objs.size=some { cls:=.type "list",data:=.seq acc n }/\Q acc.toList s') E) { s with heap:=s.heap.push { cls:=.type "list",data:=.seq #[] } }) :
  wpAny (model prog w) A (collect x) Q E s:=by
 have z:=F.plain_list_iadd
 have y:=m A _ _ k
 refine zI5 (codeAny_builtin F.entry_list_iadd ?_)
 rw[Around.under_plainId z]
 exact y
theorem zC5 {l:Addr}{its:Array Value}{P:Value->Shared->Prop}(hh:A.handled=none) (hl:s.heap.IsList l its)
  (k:∀(I:Addr) (hp:Heap) (St:Nat->Heap->Prop),Walks prog w A I [I,l] [I] its.size (fun i v=>its[i]?=some v) St->St 0 hp->I<hp.objs.size->l<hp.objs.size->(∀b o,s.heap.get? b=some o->b≠I/\hp.get? b=some o)->P (.ref I) { s with heap:=hp }) :
  wpAny (model prog w) A (pyIter (.ref l)) P E s:=by
 have on:∀{b:Addr}{o:Obj},s.heap.get? b=some o->b<s.heap.objs.size:=fun g=>Heap.lt_size g
 have ll:l<s.heap.objs.size:=let ⟨_,g,_⟩:=hl;on g
 refine wpAny_pyIter_list hl (k _ _ _ (Walks.list hh _ l (Nat.ne_of_lt ll) its) ⟨⟨_,Heap.get?_push_size _ rfl,rfl,rfl⟩,hl.at fun _ g=>Heap.get?_push_of_some _ g⟩ ?_ ?_ fun b o g=>⟨Nat.ne_of_lt (on g),Heap.get?_push_of_some _ g⟩)
 ·exact Nat.lt_of_lt_of_eq (Nat.lt_succ_self _) (Heap.size_push ..).symm
 ·exact Nat.lt_of_lt_of_eq (Nat.lt_succ_of_lt ll) (Heap.size_push ..).symm
theorem zW4 {l:Addr}{its:Array Value}{P:Value->Shared->Prop}(hh:A.handled=none) (hl:s.heap.IsTuple l its)
  (k:∀(I:Addr) (hp:Heap) (St:Nat->Heap->Prop),Walks prog w A I [I,l] [I] its.size (fun i v=>its[i]?=some v) St->St 0 hp->I<hp.objs.size->l<hp.objs.size->(∀b o,s.heap.get? b=some o->b≠I/\hp.get? b=some o)->P (.ref I) { s with heap:=hp }) :
  wpAny (model prog w) A (pyIter (.ref l)) P E s:=by
 have on:∀{b:Addr}{o:Obj},s.heap.get? b=some o->b<s.heap.objs.size:=fun g=>Heap.lt_size g
 have ll:l<s.heap.objs.size:=let ⟨_,g,_⟩:=hl;on g
 refine wpAny_pyIter_tuple hl (k _ _ _ (Walks.tuple hh _ l (Nat.ne_of_lt ll) its) ⟨⟨_,Heap.get?_push_size _ rfl,rfl,rfl⟩,hl.at fun _ g=>Heap.get?_push_of_some _ g⟩ ?_ ?_ fun b o g=>⟨Nat.ne_of_lt (on g),Heap.get?_push_of_some _ g⟩)
 ·exact Nat.lt_of_lt_of_eq (Nat.lt_succ_self _) (Heap.size_push ..).symm
 ·exact Nat.lt_of_lt_of_eq (Nat.lt_succ_of_lt ll) (Heap.size_push ..).symm
theorem yL9 {l b:Addr}{xs ys:Array Value}{n m:Nat}{o:Obj}(hc:o.cls=.type "tuple") (hd:o.data=.seq ys m) (fit:xs.size+ys.size<=sizeLine) :
  Meets (Builtin.«list.extend» ⟨[.ref l,.ref b],[]⟩) (fun _ R x=>x.heap.get? l=some { cls:=.type "list",data:=.seq xs n }/\x.heap.get? b=some o/\R (.ok (.ret .none)) { x with heap:=x.heap.update l (Obj.mapSeq (·++ys)) }) :=
 .of_wp fun prog w A R x ⟨hl,hb,k⟩=>by
  have t:x.TypeIs (.ref b) "tuple":=⟨o,hb,hc⟩
  have e1:Builtin.List.listTooLong (xs.size+ys.size)=false:=by
   unfold Builtin.List.listTooLong
   simpa using fit
  have e2:(xs++ys).size<=sizeLine+1:=by rw[Array.size_append];bv_omega
  have e3:xs.size<=sizeLine:=by bv_omega
  wp_walk using wpAny_typeOf t,wpAny_seqItems hl rfl,wpAny_seqItems hb hd,wpAny_updateSeq hl rfl
  exact⟨_,rfl,k⟩
section
variable {it t:Addr}{i:Nat}{its:Array Value}
end
theorem zZ5 {M:Model}{scope:Scope}{g bi:Addr}{cl:List (Str×Addr)}{qual:Str}{cd:Value}{outer:Env}{P:Value->Env->Shared->Prop}(nocell:∀y∈scope.names,y.2 ≠ .cell) (kind:scope.kind=.function)
  (k:∀(D C:Addr) (hp:Heap) (m:Str->Option Value),s.heap.objs.size<=D->s.heap.objs.size<=C->D≠C->(∀b o,s.heap.get? b=some o->hp.get? b=some o)->hp.get? D=some { cls:=.type "list",data:=.seq #[] }->hp.Ns C m->P (.ref D) (newEnv scope C g cl qual none cd (some outer) bi) { s with heap:=hp }) :
  wpAny M A (newList []) (fun acc x=>wpAny M A (newFunctionEnv scope g cl [] qual none cd (some outer) bi) (fun e y=>P acc e y) E x) E s:=by
 unfold newList
 refine wpAny_newObj_type (wpAny_newFunctionEnv nocell (fun _ z=>nomatch z) (fun hp ns sb => ?_) kind)
 have z:(s.heap.push { cls:=.type "list",data:=.seq #[] }).objs.size=s.heap.objs.size+1:=Heap.size_push ..
 have up:∀b o,(s.heap.push { cls:=.type "list",data:=.seq #[] }).get? b=some o->hp.get? b=some o:=fun b o q=>sb.extBut b o (Nat.ne_of_lt (Heap.lt_size q)) (Heap.get?_push_of_some _ q)
 exact k _ _ hp _ (Nat.le_refl _) (by show _<=(s.heap.push _).objs.size;rw[Heap.size_push];bv_omega) (by show _≠(s.heap.push _).objs.size;rw[Heap.size_push];bv_omega) (fun b o q=>up b o (Heap.get?_push_of_some _ q)) (up _ _ (Heap.get?_push_size _ rfl)) ns
end
end PySem
set_option maxHeartbeats 2000000
namespace PySem
section
variable {prog:Program}{w:World}{A:Around}{E:Value->Shared->Prop}{s:Shared}
end
end PySem
namespace L2
open PySem PySem.Spec PyProof.Rows
theorem HOk.track {P:Program}{w:World}{H:Hp}{h:Heap}{a:Addr}{o:HO}(x:HOk P w H h) (hn:H a=none) (new:ObjOk P w (upd H a o) h a o):HOk P w (upd H a o) h:=fun b u e=>by
 by_cases hb:b=a
 ·subst hb;rw[zT] at e;cases e;exact new
 ·rw[zX hb] at e
  exact (x b u e).stay (fun c v _ q=>q) (fun c q=>by rw[zX (zE q hn)];exact q) (fun c xs q=>by rw[zX (zE q hn)];exact q) fun c _ _ q=>by rw[zX (zE q hn)];exact q
def clos (cells:List (Str×Addr)):List (Str×NameKind)->List (Str×Addr)->List (Str×Addr)
 | [],acc=>acc
 | (n,k)::r,acc=>if k == .free then clos cells r ((n,(cells.lookup n).getD 0)::acc) else clos cells r acc
theorem uZ {env:Env}:∀(names:List (Str×NameKind)) (acc:List (Str×Addr)),(∀n,(n,NameKind.free)∈names->∃c,env.cells.lookup n=some c) ->
  (forIn names acc fun (x:Str×NameKind) (r:List (Str×Addr))=>(do
   let (name,kind):=x
   if kind == .free then do
    let c <-cellOf env name
    pure (ForInStep.yield ((name,c)::r))
   else pure (ForInStep.yield r):Sem (ForInStep (List (Str×Addr)))))=pure (clos env.cells names acc)
 | [],acc,_=>rfl
 | (n,k)::r,acc,h=>by
  rw[List.forIn_cons]
  by_cases hk:(k == NameKind.free)=true
  ·have ek:k=NameKind.free:=by simpa using hk
   obtain⟨c,hc⟩:=h n (by rw[ek];exact List.mem_cons_self)
   have e1:cellOf env n=pure c:=by unfold cellOf;rw[hc]
   simp only[hk,if_true,e1,pure_bind]
   rw[uZ r _ fun m hm=>h m (List.mem_cons_of_mem _ hm)]
   show _=pure (if (k == NameKind.free)=true then clos env.cells r ((n,(env.cells.lookup n).getD 0)::acc) else clos env.cells r acc)
   rw[if_pos hk,hc]
   rfl
  ·simp only[hk,if_false,pure_bind,Bool.false_eq_true]
   rw[uZ r _ fun m hm=>h m (List.mem_cons_of_mem _ hm)]
   show _=pure (if (k == NameKind.free)=true then clos env.cells r ((n,(env.cells.lookup n).getD 0)::acc) else clos env.cells r acc)
   rw[if_neg hk]
theorem hX {scope:Scope}{env:Env}(h:∀n,(n,NameKind.free)∈scope.names->∃c,env.cells.lookup n=some c):closureFor scope env=pure (clos env.cells scope.names []):=by
 unfold closureFor
 have:=uZ (env:=env) scope.names [] h
 simp only[] at this ⊢
 rw[show (forIn scope.names ([]:List (Str×Addr)) fun (x:Str×NameKind) (r:List (Str×Addr))=>(do
   if x.2 == .free then do
    let c <-cellOf env x.1
    pure (ForInStep.yield ((x.1,c)::r))
   else pure (ForInStep.yield r):Sem (ForInStep (List (Str×Addr)))))=pure (clos env.cells scope.names []) from this]
 rfl
theorem kL {cells:List (Str×Addr)}:∀(names:List (Str×NameKind)) (acc:List (Str×Addr)),(∀n,(n,NameKind.free)∈names->∃c,cells.lookup n=some c)->(∀x c,acc.lookup x=some c->cells.lookup x=some c) ->
  ∀x c,(clos cells names acc).lookup x=some c->cells.lookup x=some c
 | [],acc,_,ha,x,c,e=>ha x c e
 | (n,k)::r,acc,h,ha,x,c,e=>by
  unfold clos at e
  by_cases hk:(k == NameKind.free)=true
  ·rw[if_pos hk] at e
   have ek:k=NameKind.free:=by simpa using hk
   obtain⟨d,hd⟩:=h n (by rw[ek];exact List.mem_cons_self)
   refine kL r _ (fun m hm=>h m (List.mem_cons_of_mem _ hm)) (fun y z q => ?_) x c e
   rw[hd,Option.getD_some,List.lookup_cons] at q
   by_cases hy:(y == n)=true
   ·simp only[hy] at q
    have ey:y=n:=by simpa using hy
    cases q
    rw[ey];exact hd
   ·simp only[hy] at q
    exact ha y z q
  ·rw[if_neg hk] at e
   exact kL r _ (fun m hm=>h m (List.mem_cons_of_mem _ hm)) ha x c e
theorem dR {cells:List (Str×Addr)}:∀(names:List (Str×NameKind)) (acc:List (Str×Addr)) (x:Str),(∃c,acc.lookup x=some c)->∃c,(clos cells names acc).lookup x=some c
 | [],acc,x,h=>h
 | (n,k)::r,acc,x,h=>by
  unfold clos
  by_cases hk:(k == NameKind.free)=true
  ·rw[if_pos hk]
   refine dR r _ x ?_
   rw[List.lookup_cons]
   by_cases hy:(x == n)=true
   ·simp only[hy];exact⟨_,rfl⟩
   ·simp only[hy];exact h
  ·rw[if_neg hk];exact dR r _ x h
theorem uT {cells:List (Str×Addr)}:∀(names:List (Str×NameKind)) (acc:List (Str×Addr)) (x:Str),(x,NameKind.free)∈names->∃c,(clos cells names acc).lookup x=some c
 | (n,k)::r,acc,x,h=>by
  unfold clos
  rcases List.mem_cons.mp h with e | e
  ·cases e
   rw[if_pos (by rfl)]
   refine dR r _ _ ?_
   rw[List.lookup_cons]
   simp only[beq_self_eq_true]
   exact⟨_,rfl⟩
  ·by_cases hk:(k == NameKind.free)=true
   ·rw[if_pos hk];exact uT r _ x e
   ·rw[if_neg hk];exact uT r _ x e
theorem zH1 (env:Env):∃f:Str×NameKind->Str×NameKind,(∀sc:Scope,(relabel sc env).names=sc.names.map f)/\∀q,f q=q\/(q.2=.free/\f q=(q.1,.cell)):=by
 refine⟨_,fun _=>rfl,fun q => ?_⟩
 dsimp only
 split
 ·rename_i z
  exact .inr ⟨eq_of_beq (Bool.and_eq_true_iff.mp (Bool.and_eq_true_iff.mp z).1).1,rfl⟩
 ·exact .inl rfl
theorem zY8 {f:Str×NameKind->Str×NameKind}(hf:∀q,f q=q\/(q.2=.free/\f q=(q.1,.cell))) (x:Str):∀l:List (Str×NameKind),(l.map f).lookup x=l.lookup x\/(l.lookup x=some .free/\(l.map f).lookup x=some .cell)
 | []=>.inl rfl
 | (n,k)::r=>by
  have ih:=zY8 hf x r
  rw[List.map_cons]
  rcases hf (n,k) with e | ⟨e1,e⟩
  ·rw[e]
   cases q:x == n with
   | true=>exact .inl (by rw[List.lookup_cons,List.lookup_cons,q])
   | false=>simpa only[List.lookup_cons,q] using ih
  ·cases e1
   rw[e]
   cases q:x == n with
   | true=>exact .inr ⟨by rw[List.lookup_cons,q],by rw[List.lookup_cons,q]⟩
   | false=>simpa only[List.lookup_cons,q] using ih
theorem hR (sc:Scope) (env:Env) (x:Str):(relabel sc env).names.lookup x=sc.names.lookup x\/(sc.names.lookup x=some .free/\(relabel sc env).names.lookup x=some .cell):=by
 obtain⟨f,e,hf⟩:=zH1 env
 rw[e sc]
 exact zY8 hf x sc.names
theorem vH {sc:Scope}{env:Env}{x:Str}{k:NameKind}(h:(relabel sc env).names.lookup x=some k):sc.names.lookup x=some k\/(k=.cell/\sc.names.lookup x=some .free):=by
 rcases hR sc env x with e | ⟨e1,e2⟩
 ·exact .inl (e.symm.trans h)
 ·exact .inr ⟨Option.some.inj (h.symm.trans e2),e1⟩
theorem gH {sc:Scope}{env:Env}{x:Str}(h:sc.names.lookup x=some .free):(relabel sc env).names.lookup x=some .cell\/(relabel sc env).names.lookup x=some .free:=by
 rcases hR sc env x with e | ⟨_,e⟩
 ·exact .inr (e.trans h)
 ·exact .inl e
def cxComp (X:Cx) (N:List Str) (scope:Scope) (C:Addr) (fp:List Addr) (s₂:Shared) (H:Hp):Cx where
 prog:=X.prog
 w:=X.w
 K:=X.K
 mg:=X.mg
 base:=X.base
 A:=X.A
 N:=N
 s₀:=s₂
 H₀:=H
 env:=compEnvC scope (clos X.env.cells scope.names []) C X.env
 outer:=X.stack
 stack:=X.stack
 ex:=fp
 fn:=fun _=>false
 calm:=X.calm
 pn:=[]
 xe:=fun _ _=>False
structure CompScope (sc0 scope:Scope) (N0:List Str) (xt:Str) (fs:List Str) (js:List Nat):Prop where
 kind:scope.kind=.function
 nocell:∀y∈scope.names,y.2 ≠ .cell
 names:∀y∈scope.names,y.2=.local->scope.names.lookup y.1=some .local
 tgt:scope.names.lookup xt=some .local
 frees:∀y∈scope.names,y.2=.free->sc0.names.lookup y.1=some .cell\/sc0.names.lookup y.1=some .free
 len:js.length=fs.length
 slots:∀p∈fs.zip js,N0[p.2]?=some p.1/\scope.names.lookup p.1=some .free
 nd:(xt::fs).Nodup
theorem aU {α β:Type}:∀{fs:List α}{js:List β}{i:Nat}{y:α}{j:β},fs[i]?=some y->js[i]?=some j->(y,j)∈fs.zip js
 | [],_,_,_,_,h,_=>by simp at h
 | _::_,[],_,_,_,_,h=>by simp at h
 | a::fs,b::js,0,y,j,h,h'=>by
  simp at h h'
  subst h h'
  exact List.mem_cons_self
 | a::fs,b::js,i+1,y,j,h,h'=>by
  rw[List.zip_cons_cons]
  exact List.mem_cons_of_mem _ (aU (i:=i) (by simpa using h) (by simpa using h'))
def compSt (σ:St) (js:List Nat) (v:Option V):St:=v::js.map fun j=>(σ[j]?).join
section
variable {X:Cx}{pins:List (Addr×Obj)}{σ:St}{H:Hp}{s₂ s₄:Shared}{sc0 scope:Scope}{N0:List Str}{xt:Str}{fs:List Str}{js:List Nat}{fp:List Addr}
theorem CompScope.cells (S:CompScope sc0 scope N0 xt fs js) (h0:X.env.scope=sc0) (ok:X.Ok):∀n,(n,NameKind.free)∈scope.names->∃c,X.env.cells.lookup n=some c:=fun n hn=>ok.has n (by subst h0;exact S.frees _ hn rfl)
theorem CompScope.sub (S:CompScope sc0 scope N0 xt fs js) (h0:X.env.scope=sc0) (ok:X.Ok):∀x c,(clos X.env.cells scope.names []).lookup x=some c->X.env.cells.lookup x=some c :=
 kL scope.names [] (S.cells h0 ok) fun x c e=>by simp at e
theorem Inv.block (S:CompScope sc0 scope N0 xt fs js) (h0:X.env.scope=sc0) (hN0:X.N=N0) (I:Inv X pins σ H s₂) (hf:∀b∈fp,FpOk X pins H b) (hfo:∀b∈fp,∃o,s₂.heap.get? b=some o)
  (hos:s₄.os=s₂.os) (hg:AllBare s₄.gens) (hk:∀b o,s₂.heap.get? b=some o->s₄.heap.get? b=some o){C:Addr}(hC:s₂.heap.objs.size<=C){m:Str->Option Value}(hn:s₄.heap.Ns C m) :
  Inv (cxComp X (xt::fs) scope C fp s₂ H) [] (compSt σ js none) H s₄:=by
 have sub:=S.sub h0 I.ok
 have blt:∀b∈fp,b<s₂.heap.objs.size:=fun b hb=>let ⟨o,e⟩:=hfo b hb;Heap.lt_size e
 have ok:(cxComp X (xt::fs) scope C fp s₂ H).Ok:=by
  refine⟨I.ok.mod,S.kind,I.ok.glob,I.ok.blt,hC,fun x y c h1 h2=>I.ok.inj x y c (sub x c h1) (sub y c h2),fun x hx => ?_,fun x c h=>(nomatch h),I.ok.hd,I.ok.frames,.inl rfl,fun b hb=>⟨?_,fun x c h=>(hf b hb).2.2.2.2.1 x c (sub x c h)⟩,I.bs,Nat.le_trans I.ok.bsz I.sz,fun b o e hb => ?_,fun b hb hs => ?_,I.stack,I.stkFree,I.tb⟩
  ·have hx:(relabel scope X.env).names.lookup x=some .cell\/(relabel scope X.env).names.lookup x=some .free:=hx
   have hfree:scope.names.lookup x=some .free:=by
    rcases hx with hx | hx
    ·rcases vH hx with q | ⟨_,q⟩
     ·exact absurd rfl (S.nocell _ (PySem.mem_of_lookup q))
     ·exact q
    ·rcases vH hx with q | ⟨q,_⟩
     ·exact q
     ·cases q
   exact uT scope.names [] x (PySem.mem_of_lookup hfree)
  ·exact Nat.ne_of_lt (Nat.lt_of_lt_of_le (blt b hb) hC)
  ·rcases (hf b hb).2.2.2.1 with z | z
   ·exact I.ok.noex b o e z
   ·exact absurd (Nat.lt_of_lt_of_le (Heap.lt_size (I.ok.bs b o e).1) z) (Nat.lt_irrefl _)
  ·rcases List.mem_cons.mp (I.stkSub b hs) with z | z
   ·exact (hf b hb).2.1 z
   ·exact (hf b hb).2.2.1 z
 refine⟨ok,hos,hg,Un.kept hk,⟨m,hn,fun i x v e1 e2 e3 => ?_⟩,fun x c e => ?_,I.hok.fresh hC,fun x c e=>I.freeC x c (sub x c e),fun p hp=>absurd (show p∈([]:List (Addr×Obj)) from hp) (by simp),I.hok.kept hk,?_⟩
 ·cases i with
  | zero=>cases e2
  | succ i =>
   have e1:fs[i]?=some x:=e1
   have e2:(js.map fun j=>(σ[j]?).join)[i]?=some (some v):=e2
   rw[List.getElem?_map] at e2
   cases ej:js[i]? with
   | none=>rw[ej] at e2;cases e2
   | some j =>
    rw[ej] at e2
    have e2:(σ[j]?).join=some v:=Option.some.inj e2
    obtain⟨hN,hfr⟩:=S.slots _ (aU e1 ej)
    have hN:X.N[j]?=some x:=by rw[hN0];exact hN
    have hk2:X.env.kindOf x=some .cell\/X.env.kindOf x=some .free:=by subst h0;exact S.frees _ (PySem.mem_of_lookup hfr) rfl
    have hs:σ[j]?=some (some v):=by
     cases q:σ[j]? with
     | none=>rw[q] at e2;cases e2
     | some z=>rw[q] at e2;rw[show z=some v from e2]
    obtain⟨m0,hn0,hl⟩:=I.loc
    obtain⟨u,r,l⟩:=hl j x v hN hs (by rcases hk2 with z | z;exact .inr (.inl z);exact .inr (.inr z))
    refine⟨u,r,?_⟩
    rcases l with ⟨hloc,_⟩ | ⟨_,c,hc,hcell⟩
    ·rcases hk2 with z | z
     ·rw[z] at hloc;cases hloc
     ·rw[z] at hloc;cases hloc
    ·obtain⟨c',hc'⟩:=uT (cells:=X.env.cells) scope.names [] x (PySem.mem_of_lookup hfr)
     have:c'=c:=Option.some.inj ((sub x c' hc').symm.trans hc)
     subst this
     exact .inr ⟨gH hfr,c',hc',hcell.keeps hk⟩
 ·obtain⟨v,z⟩:=I.cell x c (sub x c e)
  exact⟨v,z.keeps hk⟩
 ·show (compSt σ js none).length=(xt::fs).length
  unfold compSt
  rw[List.length_cons,List.length_map,List.length_cons,S.len]
theorem Inv.unblock {pins':List (Addr×Obj)}{σ':St}{H':Hp}{s':Shared}{h'':Heap}{C D:Addr}{its:List Value}{n:Nat}{acc:List V}{N:List Str}(I:Inv X pins σ H s₂) (hf:∀b∈fp,FpOk X pins H b)
  (J:Inv (cxComp X N scope C fp s₂ H) pins' σ' H' s') (hC:s₂.heap.objs.size<=C) (hD:s₂.heap.objs.size<=D) (hDC:D≠C) (hHD:H' D=none)
  (hd:s'.heap.get? D=some { cls:=.type "list",data:=.seq its.toArray n }) (hv:Vals acc its) (hz:acc.length<=sizeLine) (hsb:Heap.SameBut C s'.heap h'') :
  Inv X pins σ (upd H' D (.lst acc)) { s' with heap:=h'' }:=by
 have hd2:h''.get? D=some { cls:=.type "list",data:=.seq its.toArray n }:=(hsb.2 D hDC).trans hd
 have keep:∀b o,b<s₂.heap.objs.size->s'.heap.get? b=some o->h''.get? b=some o:=fun b o hb e=>(hsb.2 b (Nat.ne_of_lt (Nat.lt_of_lt_of_le hb hC))).trans e
 have hHC:H' C=none:=J.free
 have ok1:HOk X.prog X.w H' h'':=fun b o e=>(J.hok b o e).stay (fun c v hc q=>(hsb.2 c (by
   rcases hc with z | z
   ·rw[z];exact fun w=>by rw[w,hHC] at e;cases e
   ·exact fun w=>by rw[w,hHC] at z;cases z)).trans q) (fun _ q=>q) fun _ _ q=>q
 have ok2:HOk X.prog X.w (upd H' D (.lst acc)) h'':=ok1.track hHD ⟨hz,its,n,hv,hd2⟩
 have un:Un (frs X.stack) fp H (upd H' D (.lst acc)) s₂.heap h'':=by
  have u:=J.base
  refine⟨fun b o e nb h1 h2=>keep b o (Heap.lt_size e) (u.keep b o e nb h1 h2),fun b o e nb h1 h2 => ?_,fun b o e nb h2 => ?_,fun b o e h2 => ?_,fun b xs e => ?_,fun b o v e => ?_,fun b ps e => ?_⟩
  ·obtain⟨sl,q⟩:=u.slot b o e nb h1 h2
   exact⟨sl,keep b _ (Heap.lt_size e) q⟩
  ·rw[zX (Nat.ne_of_lt (Nat.lt_of_lt_of_le (Heap.lt_size e) hD))]
   exact u.free b o e nb h2
  ·obtain⟨o',q⟩:=u.there b o e h2
   exact⟨o',keep b _ (Heap.lt_size e) q⟩
  ·have q:=u.tups b xs e
   rw[zX (zE q hHD)];exact q
  ·have q:=u.frzs b o v e
   rw[zX (zE q hHD)];exact q
  ·have q:=u.tbls b ps e
   rw[zX (zE q hHD)];exact q
 obtain⟨hh,g,d,t,os'⟩:=s'
 obtain rfl:os'=s₂.os:=J.os
 exact Inv.call (s:=s₂) I (h':=h'') (g':=g) (d':=d) (t':=t) (ch:=fp) un ok2 J.bare fun b hb=>⟨(hf b hb).2.2.2.1,(hf b hb).2.1,(hf b hb).2.2.2.2.1,(hf b hb).2.2.2.2.2⟩
end
def tTrue:TT:=fun _ H Q=>Q true H
inductive PTs (X:Cx):List Expr->TT->Prop
 | nil:PTs X [] tTrue
 | one {c:Expr}{t:TT}:PT X c t->PTs X [c] t
def tComp (wi:TI) (tt:Addr->List Addr->Shared->Hp->TT) (te:Addr->List Addr->Shared->Hp->TE) (js:List Nat):TE:=fun σ H Q=>wi σ H fun J H1=>∀C fp s₂ H₂,∃W:Nat->Nat->List V->Hp->Prop,(∃m,W 0 m [] H1)/\∀i m acc H,W i m acc H ->
 (J.stop i H/\∀p,H p=none->Q (.ref p) (upd H p (.lst acc))) \/
 (J.go i H/\∃N:List V->Hp->Prop,(∀acc' H',N acc' H'->∃m',m'<m/\W (i+1) m' acc' H') /\
  ∀x H',J.yld i H x H'->tt C fp s₂ H₂ (compSt σ js (some x)) H' fun b H2=>if b=true then te C fp s₂ H₂ (compSt σ js (some x)) H2 fun v H3=>acc.length<sizeLine/\N (acc ++ [v]) H3 else N acc H2)
theorem aM {X:Cx}{elt iter:Expr}{ifs:List Expr}{sc0 scope:Scope}{N0:List Str}{px pos:Pos}{xt:Str}{fs:List Str}{js:List Nat}{wi:TI}{tt:Addr->List Addr->Shared->Hp->TT}{te:Addr->List Addr->Shared->Hp->TE}(S:CompScope sc0 scope N0 xt fs js) (h0:X.env.scope=sc0) (hN0:X.N=N0) (hc:X.calm=true)
  (hi:PI X (.Name xt px) iter wi) (ht:∀C fp s₂ H,PTs (cxComp X (xt::fs) scope C fp s₂ H) ifs (tt C fp s₂ H)) (he:∀C fp s₂ H,PE (cxComp X (xt::fs) scope C fp s₂ H) elt (te C fp s₂ H))
  (hs:autoParam (∀x,foldedSetIterable iter X.env x=pure x) wC._auto_1)
  {pins:List (Addr×Obj)}{cpos:Pos}{s:Shared}{σ:St}{H:Hp}{Q:VK}{use:Option (Value->Sem Unit)}{Qv:Value->Shared->Prop}(I:Inv X pins σ H s) (h:tComp wi tt te js σ H Q)
  (hfin:∀(s':Shared) (C D:Addr) (Ha:Hp) (fl:Flow),(∀h'',Heap.SameBut C s'.heap h''->Inv X pins σ Ha { s' with heap:=h'' })->(∃m,s'.heap.Ns C m)->FpOk X pins Ha C->Q (.ref D) Ha->compPost (model X.prog X.w) X.A X.xe use Qv (.ref D) C (.ok fl) s') :
  wpAny (model X.prog X.w) X.A (comprehension (.ListComp elt [⟨.Name xt px,iter,ifs,0⟩] scope pos) scope X.env cpos (newList []) false (eval iter X.env) use) Qv X.xe s:=by
 refine wpAny_comprehension_free (use:=use) rfl hs (hX (S.cells h0 I.ok)) S.kind S.names ?_
 refine thn (hi pins s σ H _ I h) fun v s1 h1=>thn h1 fun itv s2 h2 => ?_
 obtain⟨it,fp,tn,J,H2,e,I2,T,st2,f2,hW⟩:=h2
 subst e
 have fo:∀b∈fp,∃o,s2.heap.get? b=some o:=fun b hb=>let ⟨o,e,_⟩:=T.obj 0 s2.heap st2 b hb; ⟨o,e⟩
 have blt:∀b∈fp,b<s2.heap.objs.size:=fun b hb=>let ⟨o,e⟩:=fo b hb;Heap.lt_size e
 refine zZ5 S.nocell S.kind fun D C h₁ mC hDle hCle hDC old hacc hns₁ => ?_
 have bC:∀b o,s2.heap.get? b=some o->b≠C:=fun b o q z=>Nat.not_lt.mpr hCle (z▸Heap.lt_size q)
 have bD:∀b o,s2.heap.get? b=some o->b≠D:=fun b o q z=>Nat.not_lt.mpr hDle (z▸Heap.lt_size q)
 obtain⟨W,⟨m0,w0⟩,turn⟩:=hW C fp s2 H2
 have fpk:∀{H':Hp}(ob:Obj),(∀b∈fp,H' b=none)->∀b∈fp,FpOk (cxComp X (xt::fs) scope C fp s2 H2) [(D,ob)] H' b:=fun {H'} ob hn b hb=>by
  refine⟨hn b hb,Nat.ne_of_lt (Nat.lt_of_lt_of_le (blt b hb) hCle),fun z => ?_,.inl hb,fun x c e=>(f2 b hb).2.2.2.2.1 x c (S.sub h0 I2.ok x c e),fun p hp => ?_⟩
  ·rcases List.mem_cons.mp (I2.stkSub b z) with q | q
   ·exact (f2 b hb).2.1 q
   ·exact (f2 b hb).2.2.1 q
  ·have:p=(D,ob):=by
    have hp:p ∈ [] ++ [(D,ob)]:=hp
    simpa using hp
   subst this
   exact Nat.ne_of_gt (Nat.lt_of_lt_of_le (blt b hb) hDle)
 have loop:codeAny (model X.prog X.w) X.A (.compLoop (.ListComp elt [⟨.Name xt px,iter,ifs,0⟩] scope pos) 0 (.ref it) (.ref D) (compEnvC scope (clos X.env.cells scope.names []) C X.env))
    (compPost (model X.prog X.w) X.A X.xe use Qv (.ref D) C) { s2 with heap:=h₁ }:=by
  have J0:Inv (cxComp X (xt::fs) scope C fp s2 H2) [] (compSt σ js none) H2 { s2 with heap:=h₁ } :=
   Inv.block (s₂:=s2) (s₄:={ s2 with heap:=h₁ }) S h0 hN0 I2 f2 fo rfl I2.bare old hCle hns₁
  have H2D:H2 D=none:=I2.hok.fresh hDle
  have ofD:D∉frs X.stack:=fun z=>by
   rcases List.mem_cons.mp (I2.stkSub D z) with q | q
   ·exact absurd I2.lt (by rw[<-q];exact Nat.not_lt.mpr hDle)
   ·exact I2.nofs (a:=D) hDle q
  refine codeAny_loop rfl (fun n s'=>∃(i:Nat) (σ':St) (H':Hp) (acc:List V) (its:List Value) (k:Nat),(∃v0,σ'=compSt σ js v0)/\Inv (cxComp X (xt::fs) scope C fp s2 H2) [] σ' H' s'/\tn i s'.heap/\(∀b∈fp,H' b=none)/\H' D=none /\
    s'.heap.get? D=some { cls:=.type "list",data:=.seq its.toArray k }/\Vals acc its/\acc.length<=sizeLine/\W i n acc H') ?_ m0
   ⟨0,_,H2,[],[],0,⟨none,rfl⟩,J0,T.keep 0 _ _ st2 fun b hb o e=>old b o e,fun b hb=>(f2 b hb).1,H2D,hacc,.nil,Nat.zero_le _,w0⟩
  rintro n s3 ⟨i,σ3,H3,acc,its,k,⟨v0,rfl⟩,I3,st3,fr3,hD3,d3,va,hz,w3⟩
  show wpAny _ X.A ((compTurn (.ListComp elt [⟨.Name xt px,iter,ifs,0⟩] scope pos) 0 (.ref it) (.ref D) (compEnvC scope (clos X.env.cells scope.names []) C X.env)).onRaise (fun x=>do noteFrame x (compEnvC scope (clos X.env.cells scope.names []) C X.env);theTreesLotGoes x)) _ _ s3
  refine wpAny_noted ?_
  rw[compTurn_list]
  refine wpAny_bind (wpAny_standAt ?_)
  have pinD:Inv (cxComp X (xt::fs) scope C fp s2 H2) [(D,{ cls:=.type "list",data:=.seq its.toArray k })] (compSt σ js v0) H3 s3:=I3.xT fun p hp=>by
   have:p=(D,{ cls:=.type "list",data:=.seq its.toArray k }):=by simpa using hp
   subst this
   exact⟨d3,hD3,hDC,ofD,fun v z=>by cases z⟩
  refine wpAny_bind ?_
  rcases turn i n acc H3 w3 with ⟨stop,qn⟩ | ⟨go,N,hN,step⟩
  ·refine thn (T.done (cxComp X (xt::fs) scope C fp s2 H2) rfl rfl rfl hc i _ s3 _ H3 _ pinD (fpk _ fr3) st3 stop) fun r s4 ⟨hr,I4⟩ => ?_
   subst hr
   refine wpAny_pure ?_
   obtain⟨m4,hn4,_⟩:=I4.loc
   have hHC:H3 C=none:=I4.free
   refine hfin s4 C D (upd H3 D (.lst acc)) _ (fun h'' hsb=>I2.unblock f2 I4 hCle hDle hDC hD3 ((I4.pin (D,{ cls:=.type "list",data:=.seq its.toArray k }) (List.mem_append_right _ List.mem_cons_self)).1) va hz hsb) ⟨m4,hn4⟩ (I2.fpOk hCle (by rw[zX (Ne.symm hDC)];exact hHC)) (qn D hD3)
  ·refine thn (T.item (cxComp X (xt::fs) scope C fp s2 H2) rfl rfl rfl hc i _ s3 _ H3 _ pinD (fpk _ fr3) st3 go) fun r s4 ⟨u,hr,h4⟩ => ?_
   subst hr
   refine wpAny_bind (thn h4 fun _ s5 ⟨x,H5,I5,r5,y5,st5,fr5⟩ => ?_)
   have I5':=I5.pinned (fpk _ fr5) (T.obj _ _ st5)
   have gok:PG (cxComp X (xt::fs) scope C fp s2 H2) (.Name xt px) (gName 0):=uU S.nd rfl (.inl (lookup_relabel_local S.tgt)) (.inr (lookup_relabel_local S.tgt))
   have noE:∀(a:Value) (s':Shared),(cxComp X (xt::fs) scope C fp s2 H2).xe a s'->notedBy (model X.prog X.w) X.A (compEnvC scope (clos X.env.cells scope.names []) C X.env) (fun e s'=>compPost (model X.prog X.w) X.A X.xe use Qv (.ref D) C (.error e) s') a s':=fun _ _ z=>False.elim z
   refine wpAny_bind (wpAny_mono (gok _ s5 (compSt σ js v0) H5 x u (fun σ' H'=>σ'=compSt σ js (some x)/\H'=H5) I5' r5 ⟨rfl,rfl⟩) (fun _ s6 ⟨σ6,H6,I6,e6,e6'⟩ => ?_) noE)
   subst e6 e6'
   have fin:∀{acc':List V}{its':List Value}{k':Nat}{H7:Hp}{s7:Shared},Inv (cxComp X (xt::fs) scope C fp s2 H2) [] (compSt σ js (some x)) H7 s7->tn (i+1) s7.heap->(∀b∈fp,H7 b=none)->H7 D=none->s7.heap.get? D=some { cls:=.type "list",data:=.seq its'.toArray k' }->Vals acc' its'->acc'.length<=sizeLine->N acc' H7 ->
     ∃m,m<n/\∃(i:Nat) (σ':St) (H':Hp) (acc:List V) (its:List Value) (k:Nat),(∃v0,σ'=compSt σ js v0)/\Inv (cxComp X (xt::fs) scope C fp s2 H2) [] σ' H' s7/\tn i s7.heap/\(∀b∈fp,H' b=none)/\H' D=none /\
      s7.heap.get? D=some { cls:=.type "list",data:=.seq its.toArray k }/\Vals acc its/\acc.length<=sizeLine/\W i m acc H':=fun {acc' its' k' H7 s7} a1 a2 a3 a4 a5 a6 a7 a8=>by
    obtain⟨m',hm,w7⟩:=hN _ _ a8
    exact⟨m',hm,i+1,_,H7,acc',its',k',⟨_,rfl⟩,a1,a2,a3,a4,a5,a6,a7,w7⟩
   have rest:∀{H7:Hp}{s7:Shared},Inv (cxComp X (xt::fs) scope C fp s2 H2) ([(D,{ cls:=.type "list",data:=.seq its.toArray k })]++pinsAt fp s5.heap) (compSt σ js (some x)) H7 s7 ->
     tn (i+1) s7.heap/\(∀b∈fp,H7 b=none)/\H7 D=none/\s7.heap.get? D=some { cls:=.type "list",data:=.seq its.toArray k }:=fun {H7 s7} I7=>by
    refine⟨T.keep _ _ _ st5 fun b hb o e=>(I7.pin (b,o) (List.mem_append_right _ (List.mem_append_right _ (wO hb e)))).1,fun b hb => ?_,(I7.pin (D,{ cls:=.type "list",data:=.seq its.toArray k }) (List.mem_append_right _ (List.mem_append_left _ List.mem_cons_self))).2.1,(I7.pin (D,{ cls:=.type "list",data:=.seq its.toArray k }) (List.mem_append_right _ (List.mem_append_left _ List.mem_cons_self))).1⟩
    obtain⟨o,e,d⟩:=T.obj _ _ st5 b hb
    exact (I7.pin (b,o) (List.mem_append_right _ (List.mem_append_right _ (wO hb e)))).2.1
   have elem:∀{H7:Hp}{s7:Shared},Inv (cxComp X (xt::fs) scope C fp s2 H2) ([(D,{ cls:=.type "list",data:=.seq its.toArray k })]++pinsAt fp s5.heap) (compSt σ js (some x)) H7 s7 ->
     (te C fp s2 H2 (compSt σ js (some x)) H7 fun v H3=>acc.length<sizeLine/\N (acc ++ [v]) H3) ->
     wpAny (model X.prog X.w) X.A (eval elt (compEnvC scope (clos X.env.cells scope.names []) C X.env)) (fun y s8=>wpAny (model X.prog X.w) X.A (call (.builtin "list.append") [.ref D,y]) (fun _ s9=>∃m,m<n/\∃(i:Nat) (σ':St) (H':Hp) (acc:List V) (its:List Value) (k:Nat),(∃v0,σ'=compSt σ js v0)/\Inv (cxComp X (xt::fs) scope C fp s2 H2) [] σ' H' s9/\tn i s9.heap/\(∀b∈fp,H' b=none)/\H' D=none /\
      s9.heap.get? D=some { cls:=.type "list",data:=.seq its.toArray k }/\Vals acc its/\acc.length<=sizeLine/\W i m acc H')
      (fun _ _=>False) s8) (fun _ _=>False) s7:=fun {H7 s7} I7 q7=>by
    refine thn (he C fp s2 H2 _ s7 _ H7 _ I7 q7) fun y s8 ⟨v,H8,I8,r8,hl8,n8⟩ => ?_
    obtain⟨t8,fr8,hD8,d8⟩:=rest I8
    have hsz:=va.length
    refine call_meets F.slot_list_append ⟨_,d8,rfl⟩ F.entry_list_append (F.args_list_append_2 _ _) (PySem.list_append D its.toArray k y (by rw[List.size_toArray];bv_omega)) ⟨d8,?_⟩
    have q:=PySem.IsL.update d8 (·.push y)
    rw[show (its.toArray.push y)=(its ++ [y]).toArray by simp] at q
    have kk:∀b o,b≠D->s8.heap.get? b=some o->(s8.heap.update D (Obj.mapSeq (·.push y))).get? b=some o:=fun b o hb e=>(Heap.get?_update_other s8.heap _ (Ne.symm hb)).trans e
    have I9:Inv (cxComp X (xt::fs) scope C fp s2 H2) [] (compSt σ js (some x)) H8 { s8 with heap:=s8.heap.update D (Obj.mapSeq (·.push y)) }:=by
     refine Inv.turned (it:=D) (t':=s8.toks) (I8.xT (pins':=[]) fun p hp=>nomatch hp) kk hD8 hDC (.inr hDle) (fun x c e z => ?_) fun p hp=>absurd (show p∈([]:List (Addr×Obj)) from hp) (by simp)
     obtain⟨v,o,ho,_⟩:=I2.cell x c (S.sub h0 I2.ok x c e)
     exact bD c o ho z
    refine fin I9 (T.keep _ _ _ t8 fun b hb o e=>kk b o (Nat.ne_of_lt (Nat.lt_of_lt_of_le (blt b hb) hDle)) e) fr8 hD8 q (va.append (.cons r8 .nil)) ?_ n8
    rw[List.length_append,List.length_singleton]
    bv_omega
   have q6:=step x H6 y5
   have htt:=ht C fp s2 H2
   generalize tt C fp s2 H2=tt' at htt q6
   cases htt with
   | nil =>
    refine wpAny_bind (wpAny_pure ?_)
    dsimp only[tTrue] at q6
    rw[if_pos rfl] at q6
    refine wpAny_mono (wpAny_bind (wpAny_bind (thn (elem I6 q6) fun y s8 h8=>wpAny_bind (thn h8 fun _ s9 h9=>wpAny_pure (wpAny_pure ⟨rfl,h9⟩))))) (fun _ _ z=>z) fun _ _ z=>False.elim z
   | one ht1 =>
    refine wpAny_bind (wpAny_tests_one (wpAny_mono (ht1 _ s6 _ H6 _ I6 q6) (fun b s7 ⟨H7,I7,q7⟩ => ?_) noE))
    cases b with
    | false =>
     rw[if_neg Bool.false_ne_true] at q7
     obtain⟨t8,fr8,hD8,d8⟩:=rest I7
     exact wpAny_pure ⟨rfl,fin (I7.xT (pins':=[]) fun p hp=>nomatch hp) t8 fr8 hD8 d8 va hz q7⟩
    | true =>
     rw[if_pos rfl] at q7
     refine wpAny_mono (wpAny_bind (wpAny_bind (thn (elem I7 q7) fun y s8 h8=>wpAny_bind (thn h8 fun _ s9 h9=>wpAny_pure (wpAny_pure ⟨rfl,h9⟩))))) (fun _ _ z=>z) fun _ _ z=>False.elim z
 exact codeAny_compStart_list loop (T.self X.A 0 _ _ _ (T.keep 0 _ _ st2 fun b hb o e=>old b o e) loop)
theorem aT {X:Cx}{elt iter:Expr}{ifs:List Expr}{sc0 scope:Scope}{N0:List Str}{px pos:Pos}{xt:Str}{fs:List Str}{js:List Nat}{wi:TI}{tt:Addr->List Addr->Shared->Hp->TT}{te:Addr->List Addr->Shared->Hp->TE}(S:CompScope sc0 scope N0 xt fs js) (h0:X.env.scope=sc0) (hN0:X.N=N0) (hc:X.calm=true)
  (hi:PI X (.Name xt px) iter wi) (ht:∀C fp s₂ H,PTs (cxComp X (xt::fs) scope C fp s₂ H) ifs (tt C fp s₂ H)) (he:∀C fp s₂ H,PE (cxComp X (xt::fs) scope C fp s₂ H) elt (te C fp s₂ H))
  (hs:autoParam (∀x,foldedSetIterable iter X.env x=pure x) wC._auto_1) :
  PE X (.ListComp elt [⟨.Name xt px,iter,ifs,0⟩] scope pos) (tComp wi tt te js):=by
 intro pins s σ H Q I h
 rw[eval_ListComp]
 refine aM S h0 hN0 hc hi ht he hs (use:=none) (Qv:=EP X pins σ Q) I h fun s' C D Ha fl hI hns hC q => ?_
 obtain⟨m,hn⟩:=hns
 exact⟨m,hn,fun h' hsb=>⟨.ref D,Ha,hI h' hsb,rfl,q⟩⟩
theorem cA {lo:Int}{n:Nat}{tt:TT}{te:TE}{js:List Nat}{σ:St}{H:Hp}{Q:VK}(Pv:Nat->List V->Hp->Prop) (h0:Pv 0 [] H)
  (hs:∀i acc H,i<n->Pv i acc H->tt (compSt σ js (some (.int (lo+i)))) H fun b H2=>if b=true then te (compSt σ js (some (.int (lo+i)))) H2 fun v H3=>acc.length<sizeLine/\Pv (i+1) (acc ++ [v]) H3 else Pv (i+1) acc H2)
  (hd:∀acc H,Pv n acc H->∀p,H p=none->Q (.ref p) (upd H p (.lst acc))) :
  ∃W:Nat->Nat->List V->Hp->Prop,(∃m,W 0 m [] H)/\∀i m acc H,W i m acc H ->
   ((Itr lo n).stop i H/\∀p,H p=none->Q (.ref p) (upd H p (.lst acc))) \/
   ((Itr lo n).go i H/\∃N:List V->Hp->Prop,(∀acc' H',N acc' H'->∃m',m'<m/\W (i+1) m' acc' H') /\
    ∀x H',(Itr lo n).yld i H x H'->tt (compSt σ js (some x)) H' fun b H2=>if b=true then te (compSt σ js (some x)) H2 fun v H3=>acc.length<sizeLine/\N (acc ++ [v]) H3 else N acc H2):=by
 refine⟨fun i m acc H=>m=n-i/\i<=n/\Pv i acc H,⟨n,by simp,Nat.zero_le _,h0⟩,?_⟩
 rintro i m acc H ⟨rfl,hi,p⟩
 by_cases hlt:i<n
 ·refine .inr ⟨hlt,Pv (i+1),fun acc' H' p'=>⟨n-(i+1),by bv_omega,rfl,hlt,p'⟩,fun x H' y => ?_⟩
  obtain⟨e,y⟩:=y
  subst e y
  exact hs i acc _ hlt p
 ·have e:i=n:=by bv_omega
  subst e
  exact .inl ⟨Nat.le_refl _,hd acc H p⟩
theorem Same.new {H:Hp}{p:Addr}{o:HO}(h:H p=none):Same H (upd H p o):=fun b u e=>by rw[zX (zE e h)];exact e
section
variable {X:Cx}
theorem yX7 (hc:X.calm=true):CallR X (.builtin "sum") (fun xs H Q=>∃(p:Addr) (ns:List Int),xs=[.ref p]/\SqL X.K H p (ns.map V.int)/\Q (.int ns.sum) H):=by
 intro pins s σ H xs us Q I r h
 obtain⟨p,ns,rfl,hq,q⟩:=h
 obtain⟨u,rfl,ru⟩:=vals1 r
 cases ru
 obtain⟨its,rv,pl,hz⟩:=I.list hq
 have hi:IntsAre its ns:=qV rv
 obtain⟨xs,e⟩:=hi.allInts.items
 refine sum_intListG (I.ok.hd hc) (by rw[<-e];exact pl.isList) fun h' tk t' hk=>⟨.int ns.sum,H,I.kept hk,⟨t',?_⟩,q⟩
 congr 1
 rw[preSum_eq,List.take_of_length_le (by simp),<-nums_intItems,<-e]
 show (numsOf its).sum=ns.sum
 rw[hi.numsOf]
theorem gX {xs:List V}{its:List Value}(r:Vals xs its):∀(ks:List Nat),Vals (ks.filterMap (xs[·]?)) (ks.filterMap (its.toArray[·]?))
 | []=>.nil
 | k::ks=>by
  have hl:=r.length
  rw[List.filterMap_cons,List.filterMap_cons]
  cases e:xs[k]? with
  | none =>
   have:its.toArray[k]?=none:=by
    rw[List.getElem?_eq_none_iff] at e
    rw[Array.getElem?_eq_none_iff,List.size_toArray]
    bv_omega
   rw[this]
   exact gX r ks
  | some x =>
   obtain⟨u,hu,ru⟩:=r.get e
   have:its.toArray[k]?=some u:=by simpa using hu
   rw[this]
   exact .cons ru (gX r ks)
def clsV:V->Option Value
 | .ty n=>some (.type n)
 | .ref a=>some (.ref a)
 | _=>none
theorem zW6 {c:V}{u cv:Value}(r:RelV c u) (e:clsV c=some cv):u=cv:=by
 cases c with
 | ty n=>cases e;exact r
 | ref a=>cases e;exact r
 | non=>cases e
 | bl _=>cases e
 | int _=>cases e
 | str _=>cases e
 | byt _=>cases e
 | flt _=>cases e
end
mutual
inductive DatV (K:KFr) (H:Hp):V->PyData->Prop
 | non:DatV K H .non .none
 | bl (b:Bool):DatV K H (.bl b) (.bool b)
 | int (i:Int):DatV K H (.int i) (.int i)
 | str (x:Str):DatV K H (.str x) (.str x)
 | lst {a:Addr}{xs:List V}{ds:List PyData}:SqL K H a xs->DatAll K H xs ds->DatV K H (.ref a) (.list ds)
 | tup {a:Addr}{xs:List V}{ds:List PyData}:SqT K H a xs->DatAll K H xs ds->DatV K H (.ref a) (.tuple ds)
inductive DatAll (K:KFr) (H:Hp):List V->List PyData->Prop
 | nil:DatAll K H [] []
 | cons {v:V}{d:PyData}{vs:List V}{ds:List PyData}:DatV K H v d->DatAll K H vs ds->DatAll K H (v::vs) (d::ds)
end
section
variable {X:Cx}{pins:List (Addr×Obj)}{σ:St}{H:Hp}{s:Shared}
mutual
theorem Inv.reads (I:Inv X pins σ H s):∀{v:V}{d:PyData}{u:Value},DatV X.K H v d->RelV v u->∃as,Reads s.heap u d as
 | _,_,_,.non,r=>by cases r;exact⟨_,.none⟩
 | _,_,_,.bl b,r=>by cases r;exact⟨_,.bool b⟩
 | _,_,_,.int i,r=>by obtain⟨t,rfl⟩:=r;exact⟨_,.int i t⟩
 | _,_,_,.str x,r=>by obtain⟨t,rfl⟩:=r;exact⟨_,.str x t⟩
 | _,_,_,.lst hq ha,r=>by
  cases r
  obtain⟨its,rv,⟨o,n,ho,hc,_,hd⟩,_⟩:=I.list hq
  obtain⟨as,z⟩:=Inv.readsAll I ha rv
  exact⟨_,.list ho hc hd (by simpa using z)⟩
 | _,_,_,.tup hq ha,r=>by
  cases r
  obtain⟨its,rv,⟨o,ho,hc,n,hd⟩,_⟩:=I.tuple hq
  obtain⟨as,z⟩:=Inv.readsAll I ha rv
  exact⟨_,.tuple ho hc hd (by simpa using z)⟩
theorem Inv.readsAll (I:Inv X pins σ H s):∀{vs:List V}{ds:List PyData}{us:List Value},DatAll X.K H vs ds->Vals vs us->∃as,ReadsAll s.heap us ds as
 | _,_,_,.nil,r=>by cases r;exact⟨_,.nil⟩
 | _,_,_,.cons h t,r=>by
  cases r with
  | cons r1 r2 =>
   obtain⟨as,z⟩:=Inv.reads I h r1
   obtain⟨bs,z'⟩:=Inv.readsAll I t r2
   exact⟨_,.cons z z'⟩
end
end
section
variable {X:Cx}
def rEqD (K:KFr) (neg:Bool):R2:=fun x y H Q=>∃dx dy,DatV K H x dx/\DatV K H y dy/\SeqAt.shaped dx=true/\SeqAt.shaped dy=true/\Q (.bl (if neg then !PyData.eqv dx dy else PyData.eqv dx dy)) H
theorem xC (hu:X.A.units+64<cLine):OpR X (compareOp .Eq) (rEqD X.K false):=by
 intro pins s σ H x y v u Q I rx ry h
 obtain⟨dx,dy,h1,h2,s1,s2,q⟩:=h
 obtain⟨as,z1⟩:=I.reads h1 rx
 obtain⟨bs,z2⟩:=I.reads h2 ry
 exact eq_dataH z1 z2 s1 s2 hu ⟨.bl _,H,I,rfl,q⟩
theorem jY (hu:X.A.units+64<cLine):OpR X (compareOp .NotEq) (rEqD X.K true):=by
 intro pins s σ H x y v u Q I rx ry h
 obtain⟨dx,dy,h1,h2,s1,s2,q⟩:=h
 obtain⟨as,z1⟩:=I.reads h1 rx
 obtain⟨bs,z2⟩:=I.reads h2 ry
 exact ne_dataH z1 z2 s1 s2 hu ⟨.bl _,H,I,rfl,q⟩
end
theorem fD {K:KFr}{H:Hp}:∀ns:List Int,DatAll K H (ns.map V.int) (ns.map PyData.int)
 | []=>.nil
 | n::ns=>.cons (.int n) (fD ns)
theorem zL2 {K:KFr}{H:Hp}{a:Addr}{ns:List Int}(h:SqL K H a (ns.map V.int)):DatV K H (.ref a) (.list (ns.map PyData.int)):=.lst h (fD ns)
theorem zR4 (ns ms:List Int):PyData.eqvAll (ns.map PyData.int) (ms.map PyData.int)=decide (ns=ms):=PySem.W.ked_eqvAll ns ms
theorem xA (ns:List Int):SeqAt.shaped (.list (ns.map PyData.int))=true:=PySem.W.ke_shaped_ints ns
theorem bU (ns ms:List Int):PyData.eqv (.list (ns.map PyData.int)) (.list (ms.map PyData.int))=decide (ns=ms):=by rw[PyData.eqv];exact zR4 ns ms
theorem aD (x:Value) (kw:List (Str×Value)):Builtin.«sorted» ⟨[x],kw⟩=collect x >>= fun xs=>newList xs >>= fun l=>holding [l] (call (.builtin "list.sort") [l] kw) >>= fun _=>ret l:=rfl
section
variable {X:Cx}
theorem gA:CallR X (.builtin "sorted") (fun xs H Q=>∃(p:Addr) (ns:List Int),xs=[.ref p]/\(SqL X.K H p (ns.map V.int)\/SqT X.K H p (ns.map V.int))/\ns.length<64 /\
  ∀(l:Addr) (ms:List Int),H l=none->ms.Perm ns->ms.Pairwise (· <= ·)->Q (.ref l) (upd H l (.lst (ms.map V.int)))):=by
 intro pins s σ H xs us Q I r h
 obtain⟨p,ns,rfl,hq,h64,q⟩:=h
 obtain⟨u,rfl,ru⟩:=vals1 r
 cases ru
 obtain⟨T,o,its,n,hT,ho,hc,hd,rv,hz⟩:∃T o its n,(T="list"\/T="tuple")/\s.heap.get? p=some o/\o.cls=.type T/\o.data=.seq its n/\Vals (ns.map V.int) its.toList/\(ns.map V.int).length<=sizeLine:=by
  rcases hq with hq | hq
  ·obtain⟨its,rv,⟨o,n,ho,hc,_,hd⟩,hz⟩:=I.list hq
   exact⟨"list",o,its.toArray,n,.inl rfl,ho,hc,hd,by simpa using rv,hz⟩
  ·obtain⟨its,rv,⟨o,ho,hc,n,hd⟩,hz⟩:=I.tuple hq
   exact⟨"tuple",o,its.toArray,n,.inr rfl,ho,hc,hd,by simpa using rv,hz⟩
 have hl:=rv.length
 have hI:IntsAre its.toList ns:=qV rv
 rw[List.length_map] at hl hz
 have fits:its.size<=sizeLine:=by have z:=its.length_toList;bv_omega
 refine Calls.call_function_entry kind_sorted plain_sorted entry_sorted (args_sorted1 (.ref p)) ?_
 rw[aD]
 refine wpAny_bind (wpAny_collect_seq p hT ho hc hd (fun h' kp=>wpAny_bind (wpAny_newList ?_)) fits)
 have hoL:(h'.push (seqObj "list" its.toList.toArray 0)).get? h'.objs.size=some (seqObj "list" its.toList.toArray 0):=Heap.get?_push_size _ rfl
 refine wpAny_bind (wpAny_holding (wpAny_call_entry slot_list_sort ⟨_,hoL,rfl⟩ entry_list_sort (list_sort_tree hoL hI (by bv_omega) fun out ns' a1 a2 a3=>⟨_,rfl,?_⟩) (args_list_sort _)))
 refine wpAny_pure ⟨_,rfl,?_⟩
 have I1:Inv X pins σ H { s with heap:=h' }:=I.kept (t':=s.toks) kp
 have hfresh:H h'.objs.size=none:=I1.hok.fresh (Nat.le_refl _)
 have ov:Vals (ns'.map V.int) out.toList:=gC a1
 have hlen:ns'.length=ns.length:=a2.length_eq
 refine⟨.ref h'.objs.size,_,I1.laid (t':=s.toks) (o:=.lst (ns'.map V.int)) (fun b ob e => ?_) (Nat.le_refl _) ?_,rfl,q _ ns' hfresh a2 a3⟩
 ·have hb:=Heap.lt_size e
  rw[sortedHeap_old (Nat.ne_of_lt hb) (by rw[size_push'];exact Nat.lt_succ_of_lt hb)]
  exact Heap.get?_push_of_some _ e
 ·obtain⟨e,he⟩:∃e,(sortedHeap (h'.push (seqObj "list" its.toList.toArray 0)) h'.objs.size its.toList out).get? h'.objs.size=some (seqObj "list" out e):=by
   exact sortedHeap_at hoL
  exact⟨by rw[List.length_map];bv_omega,out.toList,e,ov,by simpa using he⟩
end
section
variable {X:Cx}
theorem yP1 {bs:List Bool}{its:List Value}(r:Vals (bs.map V.bl) its){i:Nat}{v:Value}(h:its.toArray[i]?=some v):v=.bool (bs.getD i false):=by
 have h2:its[i]?=some v:=by simpa using h
 have hi:i<its.length:=(List.getElem?_eq_some_iff.mp h2).1
 have hl:=r.length
 rw[List.length_map] at hl
 have e:(bs.map V.bl)[i]?=some (V.bl (bs.getD i false)):=by
  rw[List.getElem?_map,List.getElem?_eq_getElem (by bv_omega),List.getD_eq_getElem?_getD,List.getElem?_eq_getElem (by bv_omega)]
  rfl
 obtain⟨u,hu,ru⟩:=r.get e
 rw[h2] at hu
 cases hu
 exact ru
theorem zK3 (bs:List Bool):(List.range bs.length).map (fun i=>bs.getD i false)=bs:=by
 refine List.ext_getElem (by simp) fun i h1 h2 => ?_
 simp[List.getD,h2]
theorem zF3 (bs:List Bool):(List.range bs.length).all (fun i=>bs.getD i false)=bs.all id:=by
 have z:=congrArg (fun l=>List.all l id) (zK3 bs)
 simpa [List.all_map,Function.comp_def] using z
theorem zZ4 (hc:X.calm=true):CallR X (.builtin "all") (fun xs H Q=>∃(p:Addr) (bs:List Bool),xs=[.ref p]/\SqL X.K H p (bs.map V.bl)/\Q (.bl (bs.all id)) H):=by
 intro pins s σ H xs us Q I r h
 obtain⟨p,bs,rfl,hq,q⟩:=h
 obtain⟨u,rfl,ru⟩:=vals1 r
 cases ru
 obtain⟨its,rv,pl,hz⟩:=I.list hq
 have hl:=rv.length
 rw[List.length_map] at hl
 refine call_all_walk (zC5 (A:=X.A.in1) (I.ok.hd hc) pl.isList fun J hp St W st _ _ keep=>⟨_,_,_,_,_,_,fun i=>bs.getD i false,rfl,W,st,?_,fun h' tk hk => ?_⟩)
 ·intro i v s' Q' E' hP hQ
  rw[yP1 rv hP]
  exact wpAny_truthy_bool hQ
 ·rw[List.size_toArray,<-hl,zF3]
  exact⟨.bl _,H,I.kept fun b o e=>hk b o (by simpa using (keep b o e).1) (keep b o e).2,rfl,q⟩
end
end L2
namespace L2.L3
open PySem PySem.Spec PyProof.Rows
abbrev D:=PyData
inductive Res (α:Type) where
 | ok (a:α)
 | ex (c:Str)
 | no
namespace Res
def bind {α β:Type}:Res α->(α->Res β)->Res β
 | .ok a,f=>f a
 | .ex c,_=>.ex c
 | .no,_=>.no
def post {α:Type}:Res α->(α->Prop)->(Str->Prop)->Prop
 | .ok a,Q,_=>Q a
 | .ex c,_,E=>E c
 | .no,_,_=>False
theorem zV {α β:Type}{r:Res α}{f:α->Res β}{Q:β->Prop}{E:Str->Prop}(h:(r.bind f).post Q E):r.post (fun a=>(f a).post Q E) E:=by
 cases r <;> exact h
theorem zR {α:Type}{r:Res α}{Q Q':α->Prop}{E E':Str->Prop}(h:r.post Q E) (hQ:∀a,r=.ok a->Q a->Q' a) (hE:∀c,E c->E' c):r.post Q' E':=by
 cases r with
 | ok a=>exact hQ a rfl h
 | ex c=>exact hE c h
 | no=>exact h
def lft {α:Type}:Option α->Res α
 | some a=>.ok a
 | none=>.no
theorem zG {α:Type}{o:Option α}{Q:α->Prop}{E:Str->Prop}(h:(lft o).post Q E):∃a,o=some a/\Q a:=by
 cases o with
 | none=>exact h.elim
 | some a=>exact⟨a,rfl,h⟩
@[simp] theorem bind_ok {α β:Type}(a:α) (f:α->Res β):(Res.ok a).bind f=f a:=rfl
@[simp] theorem bind_no {α β:Type}(f:α->Res β):(Res.no:Res α).bind f=.no:=rfl
@[simp] theorem bind_ex {α β:Type}(c:Str) (f:α->Res β):(Res.ex c:Res α).bind f=.ex c:=rfl
@[simp] theorem lft_some {α:Type}(a:α):lft (some a)=.ok a:=rfl
@[simp] theorem lft_none {α:Type}:lft (none:Option α)=.no:=rfl
end Res
class CN where
 ad:Str->Addr
instance (priority:=low) cn0:CN:=⟨fun _=>0⟩
abbrev excD (c:Str):D:=.dict [(.list [],.str c)]
variable [CN]
def excP (a:Addr) (c:Str):Heap->Prop:=fun h=>∃o,h.get? a=some o/\o.cls=.ref (CN.ad c)
mutual
inductive Rep (H:Hp) (O:Addr->Prop):V->D->Prop
 | non:Rep H O .non .none
 | bl (b:Bool):Rep H O (.bl b) (.bool b)
 | int (i:Int):Rep H O (.int i) (.int i)
 | str (x:Str):Rep H O (.str x) (.str x)
 | lst {a:Addr}{xs:List V}{ds:List D}:Rd H a (.lst xs)->¬O a->Reps H O xs ds->Rep H O (.ref a) (.list ds)
 | tup {a:Addr}{xs:List V}{ds:List D}:Rd H a (.tup xs)->¬O a->Reps H O xs ds->Rep H O (.ref a) (.tuple ds)
 | exc {a:Addr}{c:Str}:H a=some (.ext (excP a c))->¬O a->Rep H O (.ref a) (.dict [(.list [],.str c)])
inductive Reps (H:Hp) (O:Addr->Prop):List V->List D->Prop
 | nil:Reps H O [] []
 | cons {v:V}{d:D}{vs:List V}{ds:List D}:Rep H O v d->Reps H O vs ds->Reps H O (v::vs) (d::ds)
end
theorem zM2 {H:Hp}{a:Addr}{u:HO}(h:Rd H a u):H a≠none:=by
 rcases h with h | ⟨o,h⟩ <;> (rw[h];exact fun z=>nomatch z)
theorem yS {H H':Hp}{a:Addr}{u:HO}(h:Rd H a u) (k:∀o,H a=some o->H' a=some o):Rd H' a u:=by
 rcases h with h | ⟨o,h⟩
 ·exact .inl (k _ h)
 ·exact .inr ⟨o,k _ h⟩
section
variable {H H':Hp}{O O':Addr->Prop}
mutual
theorem Rep.keep (k:∀b o,H b=some o->¬O b->H' b=some o) (s:∀b,H b≠none->O' b->O b):∀{v:V}{d:D},Rep H O v d->Rep H' O' v d
 | _,_,.non=>.non
 | _,_,.bl b=>.bl b
 | _,_,.int i=>.int i
 | _,_,.str x=>.str x
 | _,_,.lst r n t=>.lst (yS r fun o e=>k _ o e n) (fun z=>n (s _ (zM2 r) z)) (Reps.keep k s t)
 | _,_,.tup r n t=>.tup (yS r fun o e=>k _ o e n) (fun z=>n (s _ (zM2 r) z)) (Reps.keep k s t)
 | _,_,.exc r n=>.exc (k _ _ r n) (fun z=>n (s _ (by rw[r];exact fun z=>nomatch z) z))
theorem Reps.keep (k:∀b o,H b=some o->¬O b->H' b=some o) (s:∀b,H b≠none->O' b->O b):∀{vs:List V}{ds:List D},Reps H O vs ds->Reps H' O' vs ds
 | _,_,.nil=>.nil
 | _,_,.cons h t=>.cons (Rep.keep k s h) (Reps.keep k s t)
end
mutual
theorem Rep.dat {K:KFr}:∀{v:V}{d:D},Rep H O v d->PyData.canLay0 d=true->DatV K H v d
 | _,_,.non,_=>.non
 | _,_,.bl b,_=>.bl b
 | _,_,.int i,_=>.int i
 | _,_,.str x,_=>.str x
 | _,_,.lst r n t,c=>.lst (.inl r) (Reps.dat t c)
 | _,_,.tup r n t,c=>.tup (.inl r) (Reps.dat t c)
 | _,_,.exc r n,c=>by cases c
theorem Reps.dat {K:KFr}:∀{vs:List V}{ds:List D},Reps H O vs ds->PyData.canLayAll0 ds=true->DatAll K H vs ds
 | _,_,.nil,_=>.nil
 | _,_,.cons h t,c=>.cons (Rep.dat h (Bool.and_eq_true_iff.mp c).1) (Reps.dat t (Bool.and_eq_true_iff.mp c).2)
end
theorem Rep.same {v:V}{d:D}(h:Rep H O v d) (s:Same H H'):Rep H' O v d:=h.keep (fun b o e _=>s b o e) fun _ _ z=>z
theorem Reps.same {v:List V}{d:List D}(h:Reps H O v d) (s:Same H H'):Reps H' O v d:=h.keep (fun b o e _=>s b o e) fun _ _ z=>z
theorem Rep.less {v:V}{d:D}(h:Rep H O v d) (s:∀b,O' b->O b):Rep H O' v d:=h.keep (fun b o e _=>e) fun b _ z=>s b z
theorem Reps.less {v:List V}{d:List D}(h:Reps H O v d) (s:∀b,O' b->O b):Reps H O' v d:=h.keep (fun b o e _=>e) fun b _ z=>s b z
theorem Reps.length:∀{vs:List V}{ds:List D},Reps H O vs ds->vs.length=ds.length
 | _,_,.nil=>rfl
 | _,_,.cons _ t=>congrArg (·+1) (Reps.length t)
theorem Reps.get:∀{vs:List V}{ds:List D}{i:Nat}{d:D},Reps H O vs ds->ds[i]?=some d->∃v,vs[i]?=some v/\Rep H O v d
 | _,_,_,_,.nil,e=>by simp at e
 | _,_,0,_,.cons r _,e=>by simp at e;subst e;exact⟨_,rfl,r⟩
 | _,_,i+1,d,.cons _ t,e=>by
  obtain⟨u,h1,h2⟩:=Reps.get (i:=i) (d:=d) t (by simpa using e)
  exact⟨u,by simpa using h1,h2⟩
theorem Reps.append:∀{vs ws:List V}{ds es:List D},Reps H O vs ds->Reps H O ws es->Reps H O (vs++ws) (ds++es)
 | _,_,_,_,.nil,s=>s
 | _,_,_,_,.cons r t,s=>.cons r (Reps.append t s)
theorem Reps.one {v:V}{d:D}(h:Rep H O v d):Reps H O [v] [d]:=.cons h .nil
theorem Reps.set {x:V}{u:D}(r:Rep H O x u):∀{vs:List V}{ds:List D}(i:Nat),Reps H O vs ds->Reps H O (vs.set i x) (ds.set i u)
 | _,_,_,.nil=>.nil
 | _,_,0,.cons _ t=>.cons r t
 | _,_,i+1,.cons q t=>.cons q (Reps.set r i t)
theorem Reps.take:∀{vs:List V}{ds:List D}(n:Nat),Reps H O vs ds->Reps H O (vs.take n) (ds.take n)
 | _,_,0,_=>.nil
 | _,_,_+1,.nil=>.nil
 | _,_,n+1,.cons r t=>.cons r (Reps.take n t)
theorem Reps.drop:∀{vs:List V}{ds:List D}(n:Nat),Reps H O vs ds->Reps H O (vs.drop n) (ds.drop n)
 | _,_,0,r=>r
 | _,_,_+1,.nil=>.nil
 | _,_,n+1,.cons _ t=>Reps.drop n t
theorem Reps.rep {vs:List V}{ds:List D}(h:Reps H O vs ds):∀k:Nat,Reps H O (List.replicate k vs).flatten (List.replicate k ds).flatten
 | 0=>.nil
 | k+1=>by
  rw[List.replicate_succ,List.replicate_succ,List.flatten_cons,List.flatten_cons]
  exact h.append (Reps.rep h k)
theorem uL:∀(ns:List Int),Reps H O (ns.map V.int) (ns.map PyData.int)
 | []=>.nil
 | n::ns=>.cons (.int n) (uL ns)
theorem Reps.ints:∀{ns:List Int}{vs:List V},Reps H O vs (ns.map PyData.int)->vs=ns.map V.int
 | [],_,h=>by cases h;rfl
 | n::ns,_,h=>by
  cases h with
  | cons r t=>cases r;rw[Reps.ints t];rfl
theorem Reps.bools:∀{ns:List Bool}{vs:List V},Reps H O vs (ns.map PyData.bool)->vs=ns.map V.bl
 | [],_,h=>by cases h;rfl
 | n::ns,_,h=>by
  cases h with
  | cons r t=>cases r;rw[Reps.bools t];rfl
end
abbrev Ev:=List (Option D)
structure Wd where
 o:Addr->Prop
 la:Nat->Addr
instance:CoeFun Wd (fun _=>Addr->Prop):=⟨Wd.o⟩
abbrev Uni (Oc:Wd) (Ob:Addr->Prop):Addr->Prop:=fun b=>Oc b\/Ob b
def OwnAt (H:Hp) (Oc:Wd) (Ob:Addr->Prop) (v:V) (d:D):Prop:=∃a ys ds,v=.ref a/\d=.list ds/\H a=some (.lst ys)/\Ob a/\Reps H (Uni Oc Ob) ys ds
def LentAt (i:Nat) (H:Hp) (Oc:Wd) (Ob:Addr->Prop) (v:V) (d:D):Prop:=∃ys ds,v=.ref (Oc.la i)/\d=.list ds/\H (Oc.la i)=some (.lst ys)/\Oc (Oc.la i)/\Reps H (Uni Oc Ob) ys ds
structure Rel (Oc:Wd) (Ob:Addr->Prop) (om ln:List Nat) (σ:St) (H:Hp) (ρ:Ev):Prop where
 len:σ.length=ρ.length
 val:∀i d,ρ[i]?=some (some d)->i∉om->i∉ln->∃v,σ[i]?=some (some v)/\Rep H (Uni Oc Ob) v d
 own:∀i d,ρ[i]?=some (some d)->i∈om->∃v,σ[i]?=some (some v)/\OwnAt H Oc Ob v d
 lnt:∀i d,ρ[i]?=some (some d)->i∉om->i∈ln->∃v,σ[i]?=some (some v)/\LentAt i H Oc Ob v d
 inj:∀i j di dj a,ρ[i]?=some (some di)->ρ[j]?=some (some dj)->i∈om->j∈om->σ[i]?=some (some (.ref a))->σ[j]?=some (some (.ref a))->i=j
 oh:∀a,Oc a\/Ob a->H a≠none
 ap:∀a,Ob a->¬Oc a
section
variable {Oc:Wd}{Ob:Addr->Prop}{om ln:List Nat}{σ:St}{H H':Hp}{ρ:Ev}
theorem Same.ne {b:Addr}(s:Same H H') (h:H b≠none):H' b≠none:=by
 cases e:H b with
 | none=>exact absurd e h
 | some o=>rw[s b o e];exact fun z=>nomatch z
theorem Rel.same (R:Rel Oc Ob om ln σ H ρ) (s:Same H H'):Rel Oc Ob om ln σ H' ρ where
 len:=R.len
 val:=fun i d e h1 h2=>let ⟨v,a,b⟩:=R.val i d e h1 h2; ⟨v,a,b.same s⟩
 own:=fun i d e h1=>let ⟨v,q,a,ys,ds,e1,e2,e3,e4,e5⟩:=R.own i d e h1; ⟨v,q,a,ys,ds,e1,e2,s _ _ e3,e4,e5.same s⟩
 lnt:=fun i d e h1 h2=>let ⟨v,q,ys,ds,e1,e2,e3,e4,e5⟩:=R.lnt i d e h1 h2; ⟨v,q,ys,ds,e1,e2,s _ _ e3,e4,e5.same s⟩
 inj:=R.inj
 oh:=fun a h=>Same.ne s (R.oh a h)
 ap:=R.ap
end
inductive Md where
 | cl
 | rd
 | any
 | new
def VA (Oc:Wd) (Ob:Addr->Prop) (H:Hp) (v:V) (d:D):Prop :=
 Rep H (Uni Oc Ob) v d\/∃a ys ds,v=.ref a/\d=.list ds/\H a=some (.lst ys)/\Reps H (Uni Oc Ob) ys ds
def VR:Md->Wd->(Addr->Prop)->Hp->Hp->V->D->Prop
 | .cl,Oc,Ob,_,H',v,d=>Rep H' (Uni Oc Ob) v d
 | .rd,Oc,Ob,_,H',v,d=>Rep H' (Uni Oc Ob) v d\/∃a ys ds,v=.ref a/\d=.list ds/\H' a=some (.lst ys)/\¬Ob a/\Reps H' (Uni Oc Ob) ys ds
 | .any,Oc,Ob,_,H',v,d=>VA Oc Ob H' v d
 | .new,Oc,Ob,H,H',v,d=>∃a ys ds,v=.ref a/\d=.list ds/\H a=none/\H' a=some (.lst ys)/\Reps H' (fun b=>Uni Oc Ob b\/b=a) ys ds
section
variable {Oc:Wd}{Ob:Addr->Prop}{H H1 H2:Hp}{v:V}{d:D}{md:Md}
theorem VR.same (h:VR md Oc Ob H H1 v d) (s:Same H1 H2):VR md Oc Ob H H2 v d:=by
 cases md with
 | cl=>exact Rep.same h s
 | rd =>
  rcases h with h | ⟨a,ys,ds,e1,e2,e3,e4,e5⟩
  ·exact .inl (Rep.same h s)
  ·exact .inr ⟨a,ys,ds,e1,e2,s _ _ e3,e4,e5.same s⟩
 | any =>
  rcases h with h | ⟨a,ys,ds,e1,e2,e3,e5⟩
  ·exact .inl (Rep.same h s)
  ·exact .inr ⟨a,ys,ds,e1,e2,s _ _ e3,e5.same s⟩
 | new =>
  obtain⟨a,ys,ds,e1,e2,e3,e4,e5⟩:=h
  exact⟨a,ys,ds,e1,e2,e3,s _ _ e4,e5.same s⟩
theorem VR.from (h:VR md Oc Ob H1 H2 v d) (s:Same H H1):VR md Oc Ob H H2 v d:=by
 cases md with
 | new =>
  obtain⟨a,ys,ds,e1,e2,e3,e4,e5⟩:=h
  exact⟨a,ys,ds,e1,e2,s.free e3,e4,e5⟩
 | _=>exact h
theorem VR.clean (h:VR .new Oc Ob H H1 v d) (oh:∀a,Oc a\/Ob a->H a≠none):VR .cl Oc Ob H H1 v d:=by
 obtain⟨a,ys,ds,rfl,rfl,e3,e4,e5⟩:=h
 exact .lst (.inl e4) (fun z=>oh a z e3) (e5.less fun b z=>.inl z)
theorem VR.va (h:VR md Oc Ob H H1 v d) (oh:∀a,Oc a\/Ob a->H a≠none):VA Oc Ob H1 v d:=by
 cases md with
 | cl=>exact .inl h
 | rd =>
  rcases h with h | ⟨a,ys,ds,e1,e2,e3,e4,e5⟩
  ·exact .inl h
  ·exact .inr ⟨a,ys,ds,e1,e2,e3,e5⟩
 | any=>exact h
 | new=>exact .inl (VR.clean h oh)
theorem VA.dat {K:KFr}(h:VA Oc Ob H v d) (c:PyData.canLay0 d=true):DatV K H v d:=by
 rcases h with h | ⟨a,ys,ds,rfl,rfl,e3,e5⟩
 ·exact h.dat c
 ·exact .lst (SqL.of e3) (e5.dat c)
theorem VA.datS {K:KFr}(h:VA Oc Ob H v d) (c:SeqAt.shaped d=true):DatV K H v d:=h.dat (SeqAt.canLay_of_shaped c)
theorem VA.list {ds:List D}(h:VA Oc Ob H v (.list ds)):∃a ys,v=.ref a/\Rd H a (.lst ys)/\Reps H (Uni Oc Ob) ys ds:=by
 rcases h with h | ⟨a,ys,ds,rfl,e,e3,e5⟩
 ·cases h with
  | lst r n t=>exact⟨_,_,rfl,r,t⟩
 ·cases e
  exact⟨a,ys,rfl,.inl e3,e5⟩
theorem VA.tuple {ds:List D}(h:VA Oc Ob H v (.tuple ds)):∃a ys,v=.ref a/\Rd H a (.tup ys)/\Reps H (Uni Oc Ob) ys ds:=by
 rcases h with h | ⟨a,ys,ds,rfl,e,e3,e5⟩
 ·cases h with
  | tup r n t=>exact⟨_,_,rfl,r,t⟩
 ·cases e
theorem VA.int {i:Int}(h:VA Oc Ob H v (.int i)):v=.int i:=by
 rcases h with h | ⟨a,ys,ds,rfl,e,e3,e5⟩
 ·cases h;rfl
 ·cases e
theorem VA.bool {i:Bool}(h:VA Oc Ob H v (.bool i)):v=.bl i:=by
 rcases h with h | ⟨a,ys,ds,rfl,e,e3,e5⟩
 ·cases h;rfl
 ·cases e
theorem VA.none (h:VA Oc Ob H v .none):v=.non:=by
 rcases h with h | ⟨a,ys,ds,rfl,e,e3,e5⟩
 ·cases h;rfl
 ·cases e
theorem VA.rep (h:VA Oc Ob H v d):Rep H (fun _=>False) v d:=by
 rcases h with h | ⟨a,ys,ds,rfl,rfl,e3,e5⟩
 ·exact h.less fun _ z=>z.elim
 ·exact .lst (.inl e3) (fun z=>z) (e5.less fun _ z=>z.elim)
end
structure Ct where
 X:Cx
 XE:Str->Hp->Prop
 om:List Nat
 ln:List Nat
def RE (C:Ct) (md:Md) (e:Expr) (m:Ev->Res D):Prop :=
 ∃t,PE C.X e t/\∀(Oc:Wd) (Ob:Addr->Prop) (σ:St) (H:Hp) (ρ:Ev) (Q:VK),Rel Oc Ob C.om C.ln σ H ρ ->
  (m ρ).post (fun d=>∀v H',Same H H'->VR md Oc Ob H H' v d->Q v H') (fun c=>∀H',Same H H'->C.XE c H')->t σ H Q
def RT (C:Ct) (e:Expr) (m:Ev->Res Bool):Prop :=
 ∃t,PT C.X e t/\∀(Oc:Wd) (Ob:Addr->Prop) (σ:St) (H:Hp) (ρ:Ev) (Q:Bool->Hp->Prop),Rel Oc Ob C.om C.ln σ H ρ ->
  (m ρ).post (fun b=>∀H',Same H H'->Q b H') (fun c=>∀H',Same H H'->C.XE c H')->t σ H Q
def RW (C:Ct) (e:Expr) (m:Ev->Res Bool):Prop :=
 ∃t,PW C.X e t/\∀(Oc:Wd) (Ob:Addr->Prop) (σ:St) (H:Hp) (ρ:Ev) (Q:Bool->Hp->Prop),Rel Oc Ob C.om C.ln σ H ρ ->
  (m ρ).post (fun b=>∀H',Same H H'->Q b H') (fun c=>∀H',Same H H'->C.XE c H')->t σ H Q
inductive Out where
 | nx (ρ:Ev)
 | rt (d:D)
def Frm (Ob:Addr->Prop) (H H':Hp):Prop:=∀b o,H b=some o->¬Ob b->H' b=some o
theorem Same.frm {Ob:Addr->Prop}{H H':Hp}(s:Same H H'):Frm Ob H H':=fun b o e _=>s b o e
def RetOk:Bool->Wd->(Addr->Prop)->Hp->Hp->V->D->Prop
 | true,Oc,Ob,H,H',v,d=>∃a ys ds,v=.ref a/\d=.list ds/\(H a=none\/Ob a)/\¬Oc a/\H' a=some (.lst ys)/\Reps H' (fun b=>Oc b\/b=a) ys ds
 | false,Oc,_,_,H',v,d=>Rep H' Oc.o v d
def SPost (C:Ct) (fr:Bool) (Oc:Wd) (Ob:Addr->Prop) (H:Hp) (E:Ends) (r:Res Out):Prop :=
 r.post (fun o=>match o with
  | .nx ρ'=>∀σ' H' Ob',Rel Oc Ob' C.om C.ln σ' H' ρ'->Frm Ob H H'->(∀b,Ob' b->Ob b\/H b=none)->E.nx σ' H'
  | .rt d=>∀v H',Frm Ob H H'->RetOk fr Oc Ob H H' v d->E.rt v H') (fun c=>∀H',Frm Ob H H'->C.XE c H')
def RS (C:Ct) (fr:Bool) (st:Stmt) (m:Ev->Res Out):Prop :=
 ∃t,PS C.X st t/\∀(Oc:Wd) (Ob:Addr->Prop) (σ:St) (H:Hp) (ρ:Ev) (E:Ends),Rel Oc Ob C.om C.ln σ H ρ->SPost C fr Oc Ob H E (m ρ)->t E σ H
def RSs (C:Ct) (fr:Bool) (st:List Stmt) (m:Ev->Res Out):Prop :=
 ∃t,PSs C.X st t/\∀(Oc:Wd) (Ob:Addr->Prop) (σ:St) (H:Hp) (ρ:Ev) (E:Ends),Rel Oc Ob C.om C.ln σ H ρ->SPost C fr Oc Ob H E (m ρ)->t E σ H
section
variable {C:Ct}{fr:Bool}{Oc:Wd}{Ob Ob1 Ob2:Addr->Prop}{H H1 H2:Hp}{E:Ends}{r:Res Out}
theorem Frm.trans (f:Frm Ob H H1) (s:∀b,Ob1 b->Ob b\/H b=none) (g:Frm Ob1 H1 H2):Frm Ob H H2:=fun b o e n =>
 g b o (f b o e n) fun z=>(s b z).elim n fun q=>by rw[e] at q;cases q
theorem Frm.none (f:Frm Ob H H1){b:Addr}(h:H1 b=none):Ob b\/H b=none:=by
 by_cases n:Ob b
 ·exact .inl n
 ·cases e:H b with
  | none=>exact .inr rfl
  | some o=>rw[f b o e n] at h;cases h
theorem SPost.step (f:Frm Ob H H1) (s:∀b,Ob1 b->Ob b\/H b=none) (h:SPost C fr Oc Ob H E r):SPost C fr Oc Ob1 H1 E r:=by
 refine Res.zR h (fun o _ q => ?_) fun c q H' g=>q H' (f.trans s g)
 cases o with
 | nx ρ'=>exact fun σ' H' Ob' R g s'=>q σ' H' Ob' R (f.trans s g) fun b z=>(s' b z).elim (s b) fun z=>f.none z
 | rt d =>
  refine fun v H' g k=>q v H' (f.trans s g) ?_
  cases fr with
  | false=>exact k
  | true =>
   obtain⟨a,ys,ds,e1,e2,e3,e4,e5,e6⟩:=k
   refine⟨a,ys,ds,e1,e2,?_,e4,e5,e6⟩
   rcases e3 with e3 | e3
   ·exact (f.none e3).symm
   ·exact (s a e3).symm
theorem SPost.same (f:Same H H1) (h:SPost C fr Oc Ob H E r):SPost C fr Oc Ob H1 E r:=h.step (Same.frm f) fun b z=>.inl z
end
end L2.L3
namespace L2.L3
open PySem PySem.Spec PyProof.Rows
variable [CN]
section
variable {C:Ct}{a b c e:Expr}{es:List Expr}{pos:Pos}{md mda mdb mdc:Md}{ma mb mc:Ev->Res D}
theorem RE.cl (h:RE C .new e ma):RE C .cl e ma:=by
 obtain⟨t,p,q⟩:=h
 exact⟨t,p,fun Oc Ob σ H ρ Q R h=>q Oc Ob σ H ρ Q R (Res.zR h (fun d _ k v H' s r=>k v H' s (VR.clean r R.oh)) fun _ z=>z)⟩
theorem RE.rd (h:RE C .cl e ma):RE C .rd e ma:=by
 obtain⟨t,p,q⟩:=h
 exact⟨t,p,fun Oc Ob σ H ρ Q R h=>q Oc Ob σ H ρ Q R (Res.zR h (fun d _ k v H' s r=>k v H' s (.inl r)) fun _ z=>z)⟩
def eC (d:D):Ev->Res D:=fun _=>.ok d
theorem zJ {i j}:RE C .cl (.Constant (.int i) j pos) (eC (.int i)):=⟨_,yV,fun Oc Ob σ H ρ Q R h=>h _ H (Same.refl H) (Rep.int i)⟩
theorem wM {i j}:RE C .cl (.Constant (.bool i) j pos) (eC (.bool i)):=⟨_,xV9,fun Oc Ob σ H ρ Q R h=>h _ H (Same.refl H) (Rep.bl i)⟩
theorem yC5 {j}:RE C .cl (.Constant .none j pos) (eC .none):=⟨_,gI,fun Oc Ob σ H ρ Q R h=>h _ H (Same.refl H) Rep.non⟩
theorem kZ {i j}:RE C .cl (.Constant (.str i) j pos) (eC (.str i)):=⟨_,xY6,fun Oc Ob σ H ρ Q R h=>h _ H (Same.refl H) (Rep.str i)⟩
def eV (i:Nat):Ev->Res D:=fun ρ=>match ρ[i]? with
 | some (some d)=>.ok d
 | _=>.no
theorem vS {i:Nat}{ρ:Ev}{Q:D->Prop}{E:Str->Prop}(h:(eV i ρ).post Q E):∃d,ρ[i]?=some (some d)/\Q d:=by
 unfold eV at h
 split at h
 ·exact⟨_,by assumption,h⟩
 ·exact h.elim
theorem yF {i:Nat}{l:List Nat}(h:l.contains i=false):i∉l:=by
 intro z
 rw[List.contains_iff_mem.mpr z] at h
 cases h
theorem wY {i:Nat}{l:List Nat}(h:l.contains i=true):i∈l:=List.contains_iff_mem.mp h
theorem zZ (i:Nat){x:Str}(hN:autoParam (C.X.N[i]?=some x) zY._auto_1) (ho:autoParam (C.om.contains i=false) zY._auto_1) (hl:autoParam (C.ln.contains i=false) zY._auto_1) (hv:autoParam (Vis C.X.env.scope x) qZ._auto_1) (hd:autoParam ((x == ("__debug__":Str))=false) zK._auto_1)
  (hcd:autoParam ((x == ("__classdict__":Str))=false) zK._auto_1):RE C .cl (.Name x pos) (eV i):=by
 refine⟨_,vG hN hv hd hcd,fun Oc Ob σ H ρ Q R h => ?_⟩
 obtain⟨d,e,k⟩:=vS h
 obtain⟨v,q,r⟩:=R.val i d e (yF ho) (yF hl)
 exact⟨v,q,k v H (Same.refl H) r⟩
theorem wV (i:Nat){x:Str}(hN:autoParam (C.X.N[i]?=some x) zY._auto_1) (ho:autoParam (C.om.contains i=true) zY._auto_1) (hv:autoParam (Vis C.X.env.scope x) qZ._auto_1) (hd:autoParam ((x == ("__debug__":Str))=false) zK._auto_1)
  (hcd:autoParam ((x == ("__classdict__":Str))=false) zK._auto_1):RE C .any (.Name x pos) (eV i):=by
 refine⟨_,vG hN hv hd hcd,fun Oc Ob σ H ρ Q R h => ?_⟩
 obtain⟨d,e,k⟩:=vS h
 obtain⟨v,q,a,ys,ds,e1,e2,e3,e4,e5⟩:=R.own i d e (wY ho)
 exact⟨v,q,k v H (Same.refl H) (.inr ⟨a,ys,ds,e1,e2,e3,e5⟩)⟩
theorem zC3 (i:Nat){x:Str}(hN:autoParam (C.X.N[i]?=some x) zY._auto_1) (ho:autoParam (C.om.contains i=false) zY._auto_1) (hl:autoParam (C.ln.contains i=true) zY._auto_1) (hv:autoParam (Vis C.X.env.scope x) qZ._auto_1) (hd:autoParam ((x == ("__debug__":Str))=false) zK._auto_1)
  (hcd:autoParam ((x == ("__classdict__":Str))=false) zK._auto_1):RE C .rd (.Name x pos) (eV i):=by
 refine⟨_,vG hN hv hd hcd,fun Oc Ob σ H ρ Q R h => ?_⟩
 obtain⟨d,e,k⟩:=vS h
 obtain⟨v,q,ys,ds,e1,e2,e3,e4,e5⟩:=R.lnt i d e (yF ho) (wY hl)
 exact⟨v,q,k v H (Same.refl H) (.inr ⟨_,ys,ds,e1,e2,e3,fun z=>R.ap _ z e4,e5⟩)⟩
theorem zU5 {x:Str}{i:Int}{u:Value}(hm:C.X.mg x=some u) (r:RelV (.int i) u) (hg:autoParam (Gl C.X x) zY._auto_1) (hd:autoParam ((x == ("__debug__":Str))=false) zK._auto_1):RE C .cl (.Name x pos) (eC (.int i)) :=
 ⟨_,zQ8 hg hm r hd,fun Oc Ob σ H ρ Q R h=>h _ H (Same.refl H) (Rep.int i)⟩
def e2 (f:D->D->Option D) (m n:Ev->Res D):Ev->Res D:=fun ρ=>(m ρ).bind fun x=>(n ρ).bind fun y=>Res.lft (f x y)
def Pr2 (r:R2) (md:Md) (f:D->D->Option D):Prop :=
 ∀(Oc:Wd) (Ob:Addr->Prop) (H:Hp) (x y:V) (dx dy d:D) (Q:VK),(∀a,Oc a\/Ob a->H a≠none)->VA Oc Ob H x dx->VA Oc Ob H y dy->f dx dy=some d->(∀v H',Same H H'->VR md Oc Ob H H' v d->Q v H')->r x y H Q
theorem two {ta tb:TE}{f:D->D->Option D}{r:R2}(ha:∀(Oc:Wd) (Ob:Addr->Prop) (σ:St) (H:Hp) (ρ:Ev) (Q:VK),Rel Oc Ob C.om C.ln σ H ρ->(ma ρ).post (fun d=>∀v H',Same H H'->VR mda Oc Ob H H' v d->Q v H') (fun c=>∀H',Same H H'->C.XE c H')->ta σ H Q)
  (hb:∀(Oc:Wd) (Ob:Addr->Prop) (σ:St) (H:Hp) (ρ:Ev) (Q:VK),Rel Oc Ob C.om C.ln σ H ρ->(mb ρ).post (fun d=>∀v H',Same H H'->VR mdb Oc Ob H H' v d->Q v H') (fun c=>∀H',Same H H'->C.XE c H')->tb σ H Q) (hp:Pr2 r md f)
  {Oc:Wd}{Ob:Addr->Prop}{σ:St}{H:Hp}{ρ:Ev}{Q:VK}(R:Rel Oc Ob C.om C.ln σ H ρ) (h:(e2 f ma mb ρ).post (fun d=>∀v H',Same H H'->VR md Oc Ob H H' v d->Q v H') (fun c=>∀H',Same H H'->C.XE c H')) :
  ta σ H fun x H1=>tb σ H1 fun y H2=>r x y H2 Q:=by
 refine ha Oc Ob σ H ρ _ R (Res.zR (Res.zV h) (fun dx _ q x H1 s1 vx => ?_) fun _ z=>z)
 refine hb Oc Ob σ H1 ρ _ (R.same s1) (Res.zR (Res.zV q) (fun dy _ q y H2 s2 vy => ?_) fun c z H' s'=>z H' (s1.trans s'))
 obtain⟨d,e,q⟩:=Res.zG q
 have oh2:=((R.same s1).same s2).oh
 refine hp Oc Ob H2 x y dx dy d Q oh2 ((vx.same s2).va R.oh) (vy.va (R.same s1).oh) e fun v H' s3 r => ?_
 exact q v H' ((s1.trans s2).trans s3) (r.from (s1.trans s2))
theorem yX {op:Operator}{r:R2}{f:D->D->Option D}(ho:OpR C.X (binaryOp op) r) (hp:Pr2 r md f) (ha:RE C mda a ma) (hb:RE C mdb b mb):RE C md (.BinOp a op b pos) (e2 f ma mb):=by
 obtain⟨ta,pa,qa⟩:=ha
 obtain⟨tb,pb,qb⟩:=hb
 exact⟨_,qU ho pa pb,fun Oc Ob σ H ρ Q R h=>two qa qb hp R h⟩
theorem yC {r:R2}{f:D->D->Option D}(ho:IxR C.X r) (hp:Pr2 r md f) (ha:RE C mda a ma) (hb:RE C mdb b mb) (hs:autoParam (PlainIx b) yE3._auto_1):RE C md (.Subscript a b pos) (e2 f ma mb):=by
 obtain⟨ta,pa,qa⟩:=ha
 obtain⟨tb,pb,qb⟩:=hb
 exact⟨_,xS ho pa pb hs,fun Oc Ob σ H ρ Q R h=>two qa qb hp R h⟩
def PrB (r:R2) (f:D->D->Option Bool):Prop :=
 ∀(Oc:Wd) (Ob:Addr->Prop) (H:Hp) (x y:V) (dx dy:D) (k:Bool) (Q:VK),VA Oc Ob H x dx->VA Oc Ob H y dy->f dx dy=some k->Q (.bl k) H->r x y H Q
def bD (o:Option Bool):Option D:=o.map PyData.bool
theorem PrB.pr {r:R2}{f:D->D->Option Bool}(h:PrB r f):Pr2 r .cl (fun x y=>bD (f x y)):=by
 intro Oc Ob H x y dx dy d Q oh vx vy e k
 cases ef:f dx dy with
 | none=>simp only[ef] at e;cases e
 | some b =>
  simp only[ef] at e
  cases e
  exact h Oc Ob H x y dx dy b Q vx vy ef (k _ H (Same.refl H) (Rep.bl b))
theorem jE {op:CmpOp}{r:R2}{f:D->D->Option Bool}(ho:OpR C.X (compareOp op) r) (hp:PrB r f) (ha:RE C mda a ma) (hb:RE C mdb b mb) (hm:autoParam (behindInMarks op b=false) zK2._auto_1):RE C .cl (.Compare a [op] [b] pos) (e2 (fun x y=>bD (f x y)) ma mb):=by
 obtain⟨ta,pa,qa⟩:=ha
 obtain⟨tb,pb,qb⟩:=hb
 exact⟨_,zN5 ho pa pb hm,fun Oc Ob σ H ρ Q R h=>two qa qb hp.pr R h⟩
def b2 (f:D->D->Option Bool) (m n:Ev->Res D):Ev->Res Bool:=fun ρ=>(m ρ).bind fun x=>(n ρ).bind fun y=>Res.lft (f x y)
theorem xV4 {f:D->D->Option Bool}{ρ:Ev}{Q:Bool->Hp->Prop}{H:Hp}{E:Str->Prop}{Oc:Wd}{Ob:Addr->Prop}(h:(b2 f ma mb ρ).post (fun b=>∀H',Same H H'->Q b H') E) :
  (e2 (fun x y=>bD (f x y)) ma mb ρ).post (fun d=>∀v H',Same H H'->VR .cl Oc Ob H H' v d->∃k,v=.bl k/\Q k H') E:=by
 unfold e2
 unfold b2 at h
 cases ea:ma ρ with
 | no=>rw[ea] at h;exact h
 | ex c=>rw[ea] at h;exact h
 | ok x =>
  rw[ea] at h
  simp only[Res.bind_ok] at h ⊢
  cases eb:mb ρ with
  | no=>rw[eb] at h;exact h
  | ex c=>rw[eb] at h;exact h
  | ok y =>
   rw[eb] at h
   simp only[Res.bind_ok] at h ⊢
   obtain⟨k,ek,q⟩:=Res.zG h
   rw[ek]
   intro v H' s r
   have:v=.bl k:=by cases r;rfl
   exact⟨k,this,q H' s⟩
theorem yD {op:CmpOp}{r:R2}{f:D->D->Option Bool}(ho:OpR C.X (compareOp op) r) (hp:PrB r f) (ha:RE C mda a ma) (hb:RE C mdb b mb) (hm:autoParam (behindInMarks op b=false) zK2._auto_1):RT C (.Compare a [op] [b] pos) (b2 f ma mb):=by
 obtain⟨ta,pa,qa⟩:=ha
 obtain⟨tb,pb,qb⟩:=hb
 exact⟨_,wI ho pa pb hm,fun Oc Ob σ H ρ Q R h=>two qa qb hp.pr R (xV4 h)⟩
def b3 (f g:D->D->Option Bool) (m n o:Ev->Res D):Ev->Res Bool:=fun ρ=>(m ρ).bind fun x=>(n ρ).bind fun y=>(Res.lft (f x y)).bind fun k=>if k then (o ρ).bind fun z=>Res.lft (g y z) else .ok false
theorem chain3 {ta tb tc:TE}{f g:D->D->Option Bool}{r r':R2}(ha:∀(Oc:Wd) (Ob:Addr->Prop) (σ:St) (H:Hp) (ρ:Ev) (Q:VK),Rel Oc Ob C.om C.ln σ H ρ->(ma ρ).post (fun d=>∀v H',Same H H'->VR mda Oc Ob H H' v d->Q v H') (fun c=>∀H',Same H H'->C.XE c H')->ta σ H Q)
  (hb:∀(Oc:Wd) (Ob:Addr->Prop) (σ:St) (H:Hp) (ρ:Ev) (Q:VK),Rel Oc Ob C.om C.ln σ H ρ->(mb ρ).post (fun d=>∀v H',Same H H'->VR mdb Oc Ob H H' v d->Q v H') (fun c=>∀H',Same H H'->C.XE c H')->tb σ H Q)
  (hc:∀(Oc:Wd) (Ob:Addr->Prop) (σ:St) (H:Hp) (ρ:Ev) (Q:VK),Rel Oc Ob C.om C.ln σ H ρ->(mc ρ).post (fun d=>∀v H',Same H H'->VR mdc Oc Ob H H' v d->Q v H') (fun c=>∀H',Same H H'->C.XE c H')->tc σ H Q) (hp:PrB r f) (hp':PrB r' g)
  {Oc:Wd}{Ob:Addr->Prop}{σ:St}{H:Hp}{ρ:Ev}{Q:VK}(R:Rel Oc Ob C.om C.ln σ H ρ) (h:(b3 f g ma mb mc ρ).post (fun d=>∀H',Same H H'->Q (.bl d) H') (fun c=>∀H',Same H H'->C.XE c H')) :
  tChain r r' ta tb tc σ H Q:=by
 refine ha Oc Ob σ H ρ _ R (Res.zR (Res.zV h) (fun dx _ q x H1 s1 vx => ?_) fun _ z=>z)
 refine hb Oc Ob σ H1 ρ _ (R.same s1) (Res.zR (Res.zV q) (fun dy _ q y H2 s2 vy => ?_) fun c z H' s'=>z H' (s1.trans s'))
 obtain⟨k,e,q⟩:=Res.zG (Res.zV q)
 have R2:=(R.same s1).same s2
 refine hp Oc Ob H2 x y dx dy k _ ((vx.same s2).va R.oh) (vy.va (R.same s1).oh) e ⟨k,rfl,?_⟩
 cases k with
 | false=>exact iteF (q H2 (s1.trans s2))
 | true =>
  refine iteT (hc Oc Ob σ H2 ρ _ R2 (Res.zR (Res.zV q) (fun dz _ q z H3 s3 vz => ?_) fun c z H' s'=>z H' ((s1.trans s2).trans s')))
  obtain⟨k,e,q⟩:=Res.zG q
  exact hp' Oc Ob H3 y z dy dz k _ ((vy.same s3).va (R.same s1).oh) (vz.va R2.oh) e (q H3 ((s1.trans s2).trans s3))
theorem yU5 {op op':CmpOp}{r r':R2}{f g:D->D->Option Bool}(ho:OpR C.X (compareOp op) r) (ho':OpR C.X (compareOp op') r') (hp:PrB r f) (hp':PrB r' g) (ha:RE C mda a ma) (hb:RE C mdb b mb) (hc:RE C mdc c mc)
  (hm:autoParam (lastMarks [op,op'] [b,c]=false) bV._auto_1):RT C (.Compare a [op,op'] [b,c] pos) (b3 f g ma mb mc):=by
 obtain⟨ta,pa,qa⟩:=ha
 obtain⟨tb,pb,qb⟩:=hb
 obtain⟨tc,pc,qc⟩:=hc
 exact⟨_,yV5 ho ho' pa pb pc hm,fun Oc Ob σ H ρ Q R h=>chain3 qa qb qc hp hp' R (Res.zR h (fun b _ q H' s=>⟨b,rfl,q H' s⟩) fun _ z=>z)⟩
def vB (m:Ev->Res Bool):Ev->Res D:=fun ρ=>(m ρ).bind fun b=>.ok (.bool b)
theorem yP5 {op op':CmpOp}{r r':R2}{f g:D->D->Option Bool}(ho:OpR C.X (compareOp op) r) (ho':OpR C.X (compareOp op') r') (hp:PrB r f) (hp':PrB r' g) (ha:RE C mda a ma) (hb:RE C mdb b mb) (hc:RE C mdc c mc)
  (hm:autoParam (lastMarks [op,op'] [b,c]=false) bV._auto_1):RE C .cl (.Compare a [op,op'] [b,c] pos) (vB (b3 f g ma mb mc)):=by
 obtain⟨ta,pa,qa⟩:=ha
 obtain⟨tb,pb,qb⟩:=hb
 obtain⟨tc,pc,qc⟩:=hc
 exact⟨_,yR6 ho ho' pa pb pc hm,fun Oc Ob σ H ρ Q R h=>chain3 qa qb qc hp hp' R (Res.zR (Res.zV h) (fun b _ q H' s=>q _ H' s (Rep.bl b)) fun _ z=>z)⟩
variable {ta' tb':Ev->Res Bool}{rest:List Expr}
def isB:D->Option Bool
 | .bool b=>some b
 | _=>none
def tV (m:Ev->Res D):Ev->Res Bool:=fun ρ=>(m ρ).bind fun d=>Res.lft (isB d)
theorem dS {d:D}{b:Bool}(h:isB d=some b):d=.bool b:=by
 cases d <;> simp[isB] at h ⊢
 exact h
theorem qM (h:RE C md a ma) (he:autoParam (∀whole,isTrue a C.X.env whole=(do let v <-whole;standAt a.pos;holding [v] (truthy v))) wC._auto_1):RT C a (tV ma):=by
 obtain⟨t,p,q⟩:=h
 refine⟨_,zA7 p he,fun Oc Ob σ H ρ Q R h=>q Oc Ob σ H ρ _ R (Res.zR (Res.zV h) (fun d _ k v H' s r => ?_) fun _ z=>z)⟩
 obtain⟨b,e,k⟩:=Res.zG k
 obtain rfl:=dS e
 exact⟨b,(r.va R.oh).bool,k H' s⟩
def tNt (m:Ev->Res Bool):Ev->Res Bool:=fun ρ=>(m ρ).bind fun b=>.ok (!b)
theorem uB (h:RT C a ta'):RT C (.UnaryOp .Not a pos) (tNt ta'):=by
 obtain⟨t,p,q⟩:=h
 exact⟨_,yC2 p,fun Oc Ob σ H ρ Q R h=>q Oc Ob σ H ρ _ R (Res.zR (Res.zV h) (fun d _ k=>k) fun _ z=>z)⟩
def tAn (m n:Ev->Res Bool):Ev->Res Bool:=fun ρ=>(m ρ).bind fun b=>if b then n ρ else .ok false
def tO (m n:Ev->Res Bool):Ev->Res Bool:=fun ρ=>(m ρ).bind fun b=>if b then .ok true else n ρ
theorem rw_or1 (h:RT C a ta'):RW C (.BoolOp .Or [a] pos) ta':=by
 obtain⟨t,p,q⟩:=h
 exact⟨_,pw_or1 p,q⟩
theorem rw_or (ha:RT C a ta') (hb:RW C (.BoolOp .Or (b::rest) pos) tb'):RW C (.BoolOp .Or (a::b::rest) pos) (tO ta' tb'):=by
 obtain⟨t,p,q⟩:=ha
 obtain⟨t',p',q'⟩:=hb
 refine⟨_,pw_or p p',fun Oc Ob σ H ρ Q R h=>q Oc Ob σ H ρ _ R (Res.zR (Res.zV h) (fun b _ k H' s => ?_) fun _ z=>z)⟩
 cases b with
 | false=>exact iteF (q' Oc Ob σ H' ρ Q (R.same s) (Res.zR k (fun b _ k H2 s2=>k H2 (s.trans s2)) fun c z H2 s2=>z H2 (s.trans s2)))
 | true=>exact iteT (k H' s)
theorem RW.rt (h:RW C a ta'):RT C a ta':=by
 obtain⟨t,p,q⟩:=h
 exact⟨_,p.pt,q⟩
theorem cO {op} (h:RE C md a ma):RE C md (.BoolOp op [a] pos) ma:=by
 obtain⟨t,p,q⟩:=h
 exact⟨_,yB7 p,q⟩
def vAn (m n:Ev->Res D):Ev->Res D:=fun ρ=>(m ρ).bind fun d=>(Res.lft (isB d)).bind fun b=>if b then n ρ else .ok (.bool false)
def vO (m n:Ev->Res D):Ev->Res D:=fun ρ=>(m ρ).bind fun d=>(Res.lft (isB d)).bind fun b=>if b then .ok (.bool true) else n ρ
def vNt (m:Ev->Res D):Ev->Res D:=fun ρ=>(m ρ).bind fun d=>(Res.lft (isB d)).bind fun b=>.ok (.bool (!b))
theorem dA (ha:RE C mda a ma) (hb:RE C .cl (.BoolOp .And (b::rest) pos) mb):RE C .cl (.BoolOp .And (a::b::rest) pos) (vAn ma mb):=by
 obtain⟨t,p,q⟩:=ha
 obtain⟨t',p',q'⟩:=hb
 refine⟨_,yA2 p p',fun Oc Ob σ H ρ Q R h=>q Oc Ob σ H ρ _ R (Res.zR (Res.zV h) (fun d _ k v H' s r => ?_) fun _ z=>z)⟩
 obtain⟨b,e,k⟩:=Res.zG (Res.zV k)
 obtain rfl:=dS e
 refine⟨b,(r.va R.oh).bool,?_⟩
 cases b with
 | true=>exact iteT (q' Oc Ob σ H' ρ Q (R.same s) (Res.zR k (fun b _ k v H2 s2 r=>k v H2 (s.trans s2) r) fun c z H2 s2=>z H2 (s.trans s2)))
 | false=>exact iteF (k _ H' s (Rep.bl false))
theorem yE7 (ha:RE C mda a ma):RE C .cl (.UnaryOp .Not a pos) (vNt ma):=by
 obtain⟨t,p,q⟩:=ha
 refine⟨_,yB6 p,fun Oc Ob σ H ρ Q R h=>q Oc Ob σ H ρ _ R (Res.zR (Res.zV h) (fun d _ k v H' s r => ?_) fun _ z=>z)⟩
 obtain⟨b,e,k⟩:=Res.zG (Res.zV k)
 obtain rfl:=dS e
 exact⟨b,(r.va R.oh).bool,k _ H' s (Rep.bl _)⟩
def eIf (m:Ev->Res Bool) (n o:Ev->Res D):Ev->Res D:=fun ρ=>(m ρ).bind fun b=>if b then n ρ else o ρ
def e1 (f:D->Option D) (m:Ev->Res D):Ev->Res D:=fun ρ=>(m ρ).bind fun x=>Res.lft (f x)
def negD:D->Option D
 | .int i=>some (.int (-i))
 | _=>none
theorem zW8 (ha:RE C mda a ma):RE C .cl (.UnaryOp .USub a pos) (e1 negD ma):=by
 obtain⟨t,p,q⟩:=ha
 refine⟨_,xR7 xX2 p,fun Oc Ob σ H ρ Q R h=>q Oc Ob σ H ρ _ R (Res.zR (Res.zV h) (fun d _ k v H' s r => ?_) fun _ z=>z)⟩
 obtain⟨d',e,k⟩:=Res.zG k
 cases d with
 | int i =>
  cases e
  exact⟨i,(r.va R.oh).int,k _ H' s (Rep.int _)⟩
 | _=>cases e
end
inductive VAs (Oc:Wd) (Ob:Addr->Prop) (H:Hp):List V->List D->Prop
 | nil:VAs Oc Ob H [] []
 | cons {v:V}{d:D}{vs:List V}{ds:List D}:VA Oc Ob H v d->VAs Oc Ob H vs ds->VAs Oc Ob H (v::vs) (d::ds)
section
variable {Oc:Wd}{Ob:Addr->Prop}{H H':Hp}
theorem VAs.rep:∀{vs:List V}{ds:List D},VAs Oc Ob H vs ds->Reps H (fun _=>False) vs ds
 | _,_,.nil=>.nil
 | _,_,.cons h t=>.cons h.rep (VAs.rep t)
theorem VA.same {v:V}{d:D}(h:VA Oc Ob H v d) (s:Same H H'):VA Oc Ob H' v d:=VR.same (md:=.any) (H:=H) h s
end
def VQ:Bool->Wd->(Addr->Prop)->Hp->List V->List D->Prop
 | true,Oc,Ob,H,vs,ds=>Reps H (Uni Oc Ob) vs ds
 | false,Oc,Ob,H,vs,ds=>VAs Oc Ob H vs ds
def RArg (C:Ct) (cl:Bool) (es:List Expr) (m:Ev->Res (List D)):Prop :=
 ∃t,PA C.X es t/\∀(Oc:Wd) (Ob:Addr->Prop) (σ:St) (H:Hp) (ρ:Ev) (Q:List V->Hp->Prop),Rel Oc Ob C.om C.ln σ H ρ ->
  (m ρ).post (fun ds=>∀vs H',Same H H'->VQ cl Oc Ob H' vs ds->Q vs H') (fun c=>∀H',Same H H'->C.XE c H')->t σ H Q
section
variable {C:Ct}{a b c e:Expr}{es:List Expr}{pos p:Pos}{md mda mdb mdc:Md}{ma mb mc:Ev->Res D}{ms:Ev->Res (List D)}{cl:Bool}
def aN:Ev->Res (List D):=fun _=>.ok []
def aC (m:Ev->Res D) (n:Ev->Res (List D)):Ev->Res (List D):=fun ρ=>(m ρ).bind fun x=>(n ρ).bind fun xs=>.ok (x::xs)
theorem zQ:RArg C cl [] aN:=⟨_,zO,fun Oc Ob σ H ρ Q R h=>h [] H (Same.refl H) (by cases cl;exact VAs.nil;exact Reps.nil)⟩
theorem zS (ha:RE C .cl e ma) (hr:RArg C true es ms) (hs:autoParam (starEach (e::es) C.X.env=(false,eval e C.X.env)::starEach es C.X.env) zY._auto_1):RArg C true (e::es) (aC ma ms):=by
 obtain⟨t,p,q⟩:=ha
 obtain⟨t',p',q'⟩:=hr
 refine⟨_,zU p p' hs,fun Oc Ob σ H ρ Q R h=>q Oc Ob σ H ρ _ R (Res.zR (Res.zV h) (fun d _ k v H' s r => ?_) fun _ z=>z)⟩
 refine q' Oc Ob σ H' ρ _ (R.same s) (Res.zR (Res.zV k) (fun ds _ k vs H2 s2 r2 => ?_) fun c z H2 s2=>z H2 (s.trans s2))
 exact k _ H2 (s.trans s2) (Reps.cons (r.same s2) r2)
theorem zM (ha:RE C md e ma) (hr:RArg C false es ms) (hs:autoParam (starEach (e::es) C.X.env=(false,eval e C.X.env)::starEach es C.X.env) zY._auto_1):RArg C false (e::es) (aC ma ms):=by
 obtain⟨t,p,q⟩:=ha
 obtain⟨t',p',q'⟩:=hr
 refine⟨_,zU p p' hs,fun Oc Ob σ H ρ Q R h=>q Oc Ob σ H ρ _ R (Res.zR (Res.zV h) (fun d _ k v H' s r => ?_) fun _ z=>z)⟩
 refine q' Oc Ob σ H' ρ _ (R.same s) (Res.zR (Res.zV k) (fun ds _ k vs H2 s2 r2 => ?_) fun c z H2 s2=>z H2 (s.trans s2))
 exact k _ H2 (s.trans s2) (VAs.cons ((r.va R.oh).same s2) r2)
def mkL (ds:List D):Option D:=if ds.length<=sizeLine then some (.list ds) else none
def mkT (ds:List D):Option D:=if ds.length<=sizeLine then some (.tuple ds) else none
def eB (f:List D->Option D) (m:Ev->Res (List D)):Ev->Res D:=fun ρ=>(m ρ).bind fun ds=>Res.lft (f ds)
theorem yA {Oc:Wd}{Ob:Addr->Prop}{H H1:Hp}{p:Addr}{vs:List V}{ds:List D}(s:Same H H1) (hp:H1 p=none) (r:Reps H1 (Uni Oc Ob) vs ds):VR .new Oc Ob H (upd H1 p (.lst vs)) (.ref p) (.list ds) :=
 ⟨p,vs,ds,rfl,rfl,s.free hp,zT,r.keep (fun b o e _=>by rw[zX (zE e hp)];exact e) fun b n z=>z.elim id fun z=>by subst z;exact absurd hp n⟩
theorem fP {Oc:Wd}{Ob:Addr->Prop}{H1:Hp}{p:Addr}{vs:List V}{ds:List D}(oh:∀a,Oc a\/Ob a->H1 a≠none) (hp:H1 p=none) (r:Reps H1 (Uni Oc Ob) vs ds):Rep (upd H1 p (.tup vs)) (Uni Oc Ob) (.ref p) (.tuple ds) :=
 .tup (.inl zT) (fun z=>oh p z hp) (r.same (Same.new hp))
theorem yY (h:RArg C true es ms):RE C .new (.List es pos) (eB mkL ms):=by
 obtain⟨t,p,q⟩:=h
 refine⟨_,xV p,fun Oc Ob σ H ρ Q R h=>q Oc Ob σ H ρ _ R (Res.zR (Res.zV h) (fun ds _ k vs H' s r => ?_) fun _ z=>z)⟩
 obtain⟨d,e,k⟩:=Res.zG k
 unfold mkL at e
 split at e
 ·rename_i hl
  cases e
  exact⟨by rw[Reps.length r];exact hl,fun p hp=>k _ _ (s.trans (Same.new hp)) (yA s hp r)⟩
 ·cases e
theorem gE {x1} (h:RArg C true es ms):RE C .cl (.Tuple es x1 pos) (eB mkT ms):=by
 obtain⟨t,p,q⟩:=h
 refine⟨_,qL p,fun Oc Ob σ H ρ Q R h=>q Oc Ob σ H ρ _ R (Res.zR (Res.zV h) (fun ds _ k vs H' s r => ?_) fun _ z=>z)⟩
 obtain⟨d,e,k⟩:=Res.zG k
 unfold mkT at e
 split at e
 ·rename_i hl
  cases e
  exact⟨by rw[Reps.length r];exact hl,fun p hp=>k _ _ (s.trans (Same.new hp)) (fP (R.same s).oh hp r)⟩
 ·cases e
def PrC (r:List V->Hp->VK->Prop) (md:Md) (f:List D->Option D):Prop :=
 ∀(Oc:Wd) (Ob:Addr->Prop) (H:Hp) (vs:List V) (ds:List D) (d:D) (Q:VK),(∀a,Oc a\/Ob a->H a≠none)->VAs Oc Ob H vs ds->f ds=some d->(∀v H',Same H H'->VR md Oc Ob H H' v d->Q v H')->r vs H Q
theorem aA {t:TA}{r:List V->Hp->VK->Prop}{f:List D->Option D}(q:∀(Oc:Wd) (Ob:Addr->Prop) (σ:St) (H:Hp) (ρ:Ev) (Q:List V->Hp->Prop),Rel Oc Ob C.om C.ln σ H ρ ->
  (ms ρ).post (fun ds=>∀vs H',Same H H'->VQ false Oc Ob H' vs ds->Q vs H') (fun c=>∀H',Same H H'->C.XE c H')->t σ H Q) (hp:PrC r md f)
  {Oc:Wd}{Ob:Addr->Prop}{σ:St}{H:Hp}{ρ:Ev}{Q:VK}(R:Rel Oc Ob C.om C.ln σ H ρ) (h:(eB f ms ρ).post (fun d=>∀v H',Same H H'->VR md Oc Ob H H' v d->Q v H') (fun c=>∀H',Same H H'->C.XE c H')):tCB r t σ H Q:=by
 refine q Oc Ob σ H ρ _ R (Res.zR (Res.zV h) (fun ds _ k vs H' s r => ?_) fun _ z=>z)
 obtain⟨d,e,k⟩:=Res.zG k
 exact hp Oc Ob H' vs ds d Q (R.same s).oh r e fun v H2 s2 r2=>k v H2 (s.trans s2) (r2.from s)
theorem zC {x:Str}{id:String}{r:List V->Hp->VK->Prop}{f:List D->Option D}(hc:CallR C.X (.builtin id) r) (hp:PrC r md f) (hm:C.X.mg x=none) (hv:bootBuiltins x=some (.builtin id)) (ha:RArg C false (e::es) ms) (hg:autoParam (Gl C.X x) zY._auto_1) (hn:autoParam (x ≠ "__name__") zK._auto_1) (hdb:autoParam ((x == ("__debug__":Str))=false) zK._auto_1)
  (he:autoParam (starEach (e::es) C.X.env=(false,eval e C.X.env)::starEach es C.X.env) zY._auto_1) (hpl:autoParam ((backTo pos (starEach es C.X.env)).any (·.1)=false) zY._auto_1):RE C md (.Call (.Name x p) (e::es) [] pos) (eB f ms):=by
 obtain⟨t,pa,q⟩:=ha
 exact⟨_,wW hc hg hm hv pa hn hdb he hpl,fun Oc Ob σ H ρ Q R h=>aA q hp R h⟩
theorem wT {x:Str}{T:String}{r:List V->Hp->VK->Prop}{f:List D->Option D}(hc:CallR C.X (.type T) r) (hp:PrC r md f) (hm:C.X.mg x=none) (hv:bootBuiltins x=some (.type T)) (ha:RArg C false (e::es) ms) (hg:autoParam (Gl C.X x) zY._auto_1) (hn:autoParam (x ≠ "__name__") zK._auto_1) (hdb:autoParam ((x == ("__debug__":Str))=false) zK._auto_1)
  (he:autoParam (starEach (e::es) C.X.env=(false,eval e C.X.env)::starEach es C.X.env) zY._auto_1) (hpl:autoParam ((backTo pos (starEach es C.X.env)).any (·.1)=false) zY._auto_1):RE C md (.Call (.Name x p) (e::es) [] pos) (eB f ms):=by
 obtain⟨t,pa,q⟩:=ha
 exact⟨_,yL hc hg hm hv pa hn hdb he hpl,fun Oc Ob σ H ρ Q R h=>aA q hp R h⟩
def Walks (Oc:Wd) (Ob:Addr->Prop) (J:It) (H1:Hp) (ds:List D):Prop :=
 ∀(H2:Hp) (Ob2:Addr->Prop),Frm Ob H1 H2->(∀b,Ob2 b->Ob b\/H1 b=none)->∀i,(∀d,ds[i]?=some d->J.go i H2/\∀x H3,J.yld i H2 x H3->Same H2 H3/\Rep H3 (Uni Oc Ob2) x d)/\(ds.length<=i->J.stop i H2)
def RI (C:Ct) (tg iter:Expr) (m:Ev->Res (List D)):Prop :=
 ∃wi,PI C.X tg iter wi/\∀(Oc:Wd) (Ob:Addr->Prop) (σ:St) (H:Hp) (ρ:Ev) (R:It->Hp->Prop),Rel Oc Ob C.om C.ln σ H ρ ->
  (m ρ).post (fun ds=>∀J H1,Same H H1->Walks Oc Ob J H1 ds->R J H1) (fun c=>∀H',Same H H'->C.XE c H')->wi σ H R
def iSeq (K:KFr) (tl:TE):TI:=fun σ H R=>tl σ H fun x H1=>∃a,x=.ref a/\(((∃xs,SqL K H1 a xs)/\R (Itl K a) H1)\/((∃xs,SqT K H1 a xs)/\R (Itt K a) H1))
theorem xW1 {X:Cx}{tg l:Expr}{tl:TE}(hl:PE X l tl):PI X tg l (iSeq X.K tl):=by
 intro pins s σ H R I h
 refine thn (hl pins s σ H _ I h) fun v s1 ⟨x,H1,I1,r1,q1⟩ => ?_
 obtain⟨a,e,q1⟩:=q1
 subst e
 cases r1
 rcases q1 with ⟨⟨xs,hq⟩,q⟩ | ⟨⟨xs,hq⟩,q⟩
 ·obtain⟨its,rv,p,hz⟩:=I1.list hq
  refine wpAny_pyIter_list p.isList ?_
  refine⟨s1.heap.objs.size,[s1.heap.objs.size],_,_,H1,rfl,I1.kept (t':=s1.toks) fun b o e=>Heap.get?_push_of_some _ e,zY6 a _,⟨_,Heap.get?_push_size _ rfl,rfl,rfl⟩,fun b hb => ?_,q⟩
  have e:b=s1.heap.objs.size:=by simpa using hb
  subst e
  exact I1.fpOk (Nat.le_refl _) (I1.hok.fresh (Nat.le_refl _))
 ·obtain⟨its,rv,p,hz⟩:=I1.tuple hq
  refine wpAny_pyIter_tuple (show s1.heap.IsTuple a its.toArray from p) ?_
  refine⟨s1.heap.objs.size,[s1.heap.objs.size],_,_,H1,rfl,I1.kept (t':=s1.toks) fun b o e=>Heap.get?_push_of_some _ e,zG6 a _,⟨_,Heap.get?_push_size _ rfl,rfl,rfl⟩,fun b hb => ?_,q⟩
  have e:b=s1.heap.objs.size:=by simpa using hb
  subst e
  exact I1.fpOk (Nat.le_refl _) (I1.hok.fresh (Nat.le_refl _))
def seqD:D->Option (List D)
 | .list ds=>some ds
 | .tuple ds=>some ds
 | _=>none
def iS (m:Ev->Res D):Ev->Res (List D):=fun ρ=>(m ρ).bind fun d=>Res.lft (seqD d)
theorem Reps.step {Oc:Wd}{Ob Ob2:Addr->Prop}{H1 H2:Hp}{vs:List V}{ds:List D}(r:Reps H1 (Uni Oc Ob) vs ds) (f:Frm Ob H1 H2) (s:∀b,Ob2 b->Ob b\/H1 b=none):Reps H2 (Uni Oc Ob2) vs ds :=
 r.keep (fun b o e n=>f b o e fun z=>n (.inr z)) fun b n z=>z.elim .inl fun z=>(s b z).elim .inr fun q=>absurd q n
end
theorem dE {K:KFr}{Oc:Wd}{Ob:Addr->Prop}{H1:Hp}{a:Addr}{ys:List V}{ds:List D}(r:Rd H1 a (.lst ys)) (n:¬Ob a) (rs:Reps H1 (Uni Oc Ob) ys ds):Walks Oc Ob (Itl K a) H1 ds:=by
 intro H2 Ob2 f s i
 have r2:Rd H2 a (.lst ys):=yS r fun o e=>f a o e n
 have rs2:=rs.step f s
 refine⟨fun d e => ?_,fun h=>⟨ys,.inl r2,by rw[rs2.length];exact h⟩⟩
 obtain⟨v,ev,rv⟩:=rs2.get e
 refine⟨⟨ys,v,.inl r2,ev⟩,fun x H3 hy => ?_⟩
 obtain⟨rfl,hy⟩:=hy
 have:=hy ys (.inl r2)
 rw[ev] at this
 cases this
 exact⟨Same.refl _,rv⟩
theorem zR5 {K:KFr}{Oc:Wd}{Ob:Addr->Prop}{H1:Hp}{a:Addr}{ys:List V}{ds:List D}(r:Rd H1 a (.tup ys)) (n:¬Ob a) (rs:Reps H1 (Uni Oc Ob) ys ds):Walks Oc Ob (Itt K a) H1 ds:=by
 intro H2 Ob2 f s i
 have r2:Rd H2 a (.tup ys):=yS r fun o e=>f a o e n
 have rs2:=rs.step f s
 refine⟨fun d e => ?_,fun h=>⟨ys,.inl r2,by rw[rs2.length];exact h⟩⟩
 obtain⟨v,ev,rv⟩:=rs2.get e
 refine⟨⟨ys,v,.inl r2,ev⟩,fun x H3 hy => ?_⟩
 obtain⟨rfl,hy⟩:=hy
 have:=hy ys (.inl r2)
 rw[ev] at this
 cases this
 exact⟨Same.refl _,rv⟩
theorem zQ3 {Oc:Wd}{Ob:Addr->Prop}{H1:Hp}{lo:Int}{n:Nat}{ds:List D}(e:ds=(List.range n).map fun (i:Nat)=>PyData.int (lo+(i:Int))):Walks Oc Ob (Itr lo n) H1 ds:=by
 intro H2 Ob2 f s i
 subst e
 refine⟨fun d e => ?_,fun h=>by show n<=i;simpa using h⟩
 rw[List.getElem?_map] at e
 by_cases hi:i<n
 ·rw[List.getElem?_range hi] at e
  cases e
  refine⟨hi,fun x H3 hy => ?_⟩
  obtain⟨rfl,rfl⟩:=hy
  exact⟨Same.refl _,.int _⟩
 ·rw[List.getElem?_eq_none (by simpa using hi)] at e
  cases e
section
variable {C:Ct}{a b c e:Expr}{es:List Expr}{pos p:Pos}{md mda mdb mdc:Md}{ma mb mc:Ev->Res D}{ms:Ev->Res (List D)}{cl:Bool}{tg:Expr}
theorem vL (h:RE C .rd e ma):RI C tg e (iS ma):=by
 obtain⟨t,p,q⟩:=h
 refine⟨_,xW1 p,fun Oc Ob σ H ρ W R h=>q Oc Ob σ H ρ _ R (Res.zR (Res.zV h) (fun d _ k v H' s r => ?_) fun _ z=>z)⟩
 obtain⟨ds,e,k⟩:=Res.zG k
 rcases r with r | ⟨a,ys,ds',rfl,rfl,e3,e4,e5⟩
 ·cases r with
  | lst r n t=>cases e;exact⟨_,rfl,.inl ⟨⟨_,.inl r⟩,k _ H' s (dE r (fun z=>n (.inr z)) t)⟩⟩
  | tup r n t=>cases e;exact⟨_,rfl,.inr ⟨⟨_,.inl r⟩,k _ H' s (zR5 r (fun z=>n (.inr z)) t)⟩⟩
  | _=>cases e
 ·cases e
  exact⟨_,rfl,.inl ⟨⟨_,SqL.of e3⟩,k _ H' s (dE (.inl e3) e4 e5)⟩⟩
def rng1:List D->Option (List D)
 | [.int j]=>if -(2 ^ 62)<=j/\j<2 ^ 62 then some ((List.range j.toNat).map fun (i:Nat)=>PyData.int (i:Int)) else none
 | _=>none
def iR (f:List D->Option (List D)) (m:Ev->Res (List D)):Ev->Res (List D):=fun ρ=>(m ρ).bind fun ds=>Res.lft (f ds)
theorem VAs.one {Oc:Wd}{Ob:Addr->Prop}{H:Hp}{vs:List V}{d:D}(h:VAs Oc Ob H vs [d]):∃v,vs=[v]/\VA Oc Ob H v d:=by
 cases h with
 | cons a t=>cases t;exact⟨_,rfl,a⟩
theorem VAs.two {Oc:Wd}{Ob:Addr->Prop}{H:Hp}{vs:List V}{d d':D}(h:VAs Oc Ob H vs [d,d']):∃v v',vs=[v,v']/\VA Oc Ob H v d/\VA Oc Ob H v' d':=by
 cases h with
 | cons a t =>
  obtain⟨v,rfl,q⟩:=VAs.one t
  exact⟨_,_,rfl,a,q⟩
theorem uA (hm:C.X.mg "range" = none) (ha:RArg C false [a] ms) (hg:autoParam (Gl C.X "range") zY._auto_1) (hs:autoParam (starEach [a] C.X.env=[(false,eval a C.X.env)]) zY._auto_1):RI C tg (.Call (.Name "range" p) [a] [] pos) (iR rng1 ms):=by
 obtain⟨t,pa,q⟩:=ha
 refine⟨_,vN hg hm pa hs,fun Oc Ob σ H ρ W R h=>q Oc Ob σ H ρ _ R (Res.zR (Res.zV h) (fun ds _ k vs H' s r => ?_) fun _ z=>z)⟩
 obtain⟨xs,e,k⟩:=Res.zG k
 unfold rng1 at e
 split at e
 ·split at e
  ·rename_i hb
   cases e
   obtain⟨v,rfl,va⟩:=VAs.one r
   obtain rfl:=va.int
   exact⟨_,rfl,hb.1,hb.2,k _ H' s (zQ3 (by simp))⟩
  ·cases e
 ·cases e
end
def cEnv (ρ:Ev) (js:List Nat) (x:D):Ev:=some x::js.map fun j=>(ρ[j]?).join
def capt (js l:List Nat):List Nat:=((List.range js.length).filter fun i=>l.contains (js.getD i 0)).map (·+1)
def noEx {α:Type}:Res α->Res α
 | .ok a=>.ok a
 | _=>.no
theorem fO {α:Type}{r:Res α}{a:α}(h:noEx r=.ok a):r=.ok a:=by
 cases r with
 | ok b=>exact h
 | ex c=>cases h
 | no=>cases h
def compM (t:D->Res Bool) (f:D->Res D):List D->Res (List D)
 | []=>.ok []
 | x::xs=>(noEx (t x)).bind fun b=>if b then (noEx (f x)).bind fun y=>(compM t f xs).bind fun ys=>.ok (y::ys) else compM t f xs
def eComp (mi:Ev->Res (List D)) (mt:Ev->Res Bool) (me:Ev->Res D) (js:List Nat):Ev->Res D:=fun ρ=>(mi ρ).bind fun ds=>if ds.length<=sizeLine then (compM (fun x=>mt (cEnv ρ js x)) (fun x=>me (cEnv ρ js x)) ds).bind fun out=>.ok (.list out) else .no
theorem yU1 {js l:List Nat}{i:Nat}(h:i∈capt js l):∃k,i=k+1/\k<js.length/\js.getD k 0∈l:=by
 unfold capt at h
 obtain⟨k,hk,rfl⟩:=List.mem_map.mp h
 obtain⟨h1,h2⟩:=List.mem_filter.mp hk
 exact⟨k,rfl,List.mem_range.mp h1,List.contains_iff_mem.mp h2⟩
theorem zT5 {js l:List Nat}{k j:Nat}(h:js[k]?=some j) (hl:j∈l):k+1∈capt js l:=by
 unfold capt
 refine List.mem_map.mpr ⟨k,List.mem_filter.mpr ⟨List.mem_range.mpr ?_,?_⟩,rfl⟩
 ·exact (List.getElem?_eq_some_iff.mp h).1
 ·rw[List.getD_eq_getElem?_getD,h]
  exact List.contains_iff_mem.mpr hl
theorem aG {ρ:Ev}{js:List Nat}{x d:D}{k:Nat}(h:(cEnv ρ js x)[k+1]?=some (some d)):∃j,js[k]?=some j/\ρ[j]?=some (some d):=by
 unfold cEnv at h
 rw[List.getElem?_cons_succ,List.getElem?_map] at h
 cases e:js[k]? with
 | none=>rw[e] at h;cases h
 | some j =>
  rw[e] at h
  refine⟨j,rfl,?_⟩
  have h:(ρ[j]?).join=some d:=Option.some.inj h
  cases q:ρ[j]? with
  | none=>rw[q] at h;cases h
  | some z=>rw[q] at h;rw[show z=some d from h]
theorem wF {σ:St}{js:List Nat}{v0:Option V}{v:V}{k j:Nat}(h:js[k]?=some j) (e:σ[j]?=some (some v)):(compSt σ js v0)[k+1]?=some (some v):=by
 unfold compSt
 rw[List.getElem?_cons_succ,List.getElem?_map,h]
 show some ((σ[j]?).join)=_
 rw[e]
 rfl
def adr:Option (Option V)->Addr
 | some (some (.ref a))=>a
 | _=>0
def cW (Oc:Wd) (Ob:Addr->Prop) (σ:St) (js:List Nat):Wd:=⟨Uni Oc Ob,fun i=>adr ((compSt σ js none)[i]?)⟩
theorem Rel.comp {Oc:Wd}{Ob:Addr->Prop}{om ln:List Nat}{σ:St}{H:Hp}{ρ:Ev}{js:List Nat}{x:V}{d:D}(R:Rel Oc Ob om ln σ H ρ) (r:Rep H (Uni Oc Ob) x d):Rel (cW Oc Ob σ js) (fun _=>False) [] (capt js (om++ln)) (compSt σ js (some x)) H (cEnv ρ js d) where
 len:=by unfold compSt cEnv;simp
 val:=fun i d' e _ hl=>by
  cases i with
  | zero =>
   cases e
   exact⟨x,rfl,r.less fun b z=>z.elim id fun z=>z.elim⟩
  | succ k =>
   obtain⟨j,e1,e2⟩:=aG e
   have h1:j∉om:=fun z=>hl (zT5 e1 (List.mem_append_left _ z))
   have h2:j∉ln:=fun z=>hl (zT5 e1 (List.mem_append_right _ z))
   obtain⟨v,q,rv⟩:=R.val j d' e2 h1 h2
   exact⟨v,wF e1 q,rv.less fun b z=>z.elim id fun z=>z.elim⟩
 own:=fun i d' e h=>nomatch h
 lnt:=fun i d' e _ hl=>by
  obtain⟨k,rfl,hk,hj⟩:=yU1 hl
  obtain⟨j,e1,e2⟩:=aG e
  rw[List.getD_eq_getElem?_getD,e1,Option.getD_some] at hj
  by_cases ho:j∈om
  ·obtain⟨v,q,a,ys,ds,z1,z2,z3,z4,z5⟩:=R.own j d' e2 ho
   have ea:(cW Oc Ob σ js).la (k+1)=a:=by show adr _=a;rw[wF e1 q,z1];rfl
   exact⟨v,wF e1 q,ys,ds,by rw[ea];exact z1,z2,by rw[ea];exact z3,by rw[ea];exact .inr z4,z5.less fun b z=>z.elim id fun z=>z.elim⟩
  ·have hl2:j∈ln:=(List.mem_append.mp hj).elim (fun z=>absurd z ho) id
   obtain⟨v,q,ys,ds,z1,z2,z3,z4,z5⟩:=R.lnt j d' e2 ho hl2
   have ea:(cW Oc Ob σ js).la (k+1)=Oc.la j:=by show adr _=_;rw[wF e1 q,z1];rfl
   exact⟨v,wF e1 q,ys,ds,by rw[ea];exact z1,z2,by rw[ea];exact z3,by rw[ea];exact .inl z4,z5.less fun b z=>z.elim id fun z=>z.elim⟩
 inj:=fun i j di dj a _ _ h=>nomatch h
 oh:=fun a z=>R.oh a (z.elim id fun z=>z.elim)
 ap:=fun a z=>z.elim
abbrev cC (C:Ct) (N:List Str) (scope:Scope) (A:Addr) (fp:List Addr) (s₂:Shared) (H:Hp) (js:List Nat):Ct:=⟨cxComp C.X N scope A fp s₂ H,fun _ _=>False,[],capt js (C.om++C.ln)⟩
def RTs (C:Ct) (ifs:List Expr) (m:Ev->Res Bool):Prop:=∃t,PTs C.X ifs t/\∀(Oc:Wd) (Ob:Addr->Prop) (σ:St) (H:Hp) (ρ:Ev) (Q:Bool->Hp->Prop),Rel Oc Ob C.om C.ln σ H ρ ->
  (m ρ).post (fun b=>∀H',Same H H'->Q b H') (fun c=>∀H',Same H H'->C.XE c H')->t σ H Q
def tYes:Ev->Res Bool:=fun _=>.ok true
theorem qP {C:Ct}:RTs C [] tYes:=⟨_,.nil,fun Oc Ob σ H ρ Q R h=>h H (Same.refl H)⟩
theorem yI5 {C:Ct}{c:Expr}{m:Ev->Res Bool}(h:RT C c m):RTs C [c] m:=by
 obtain⟨t,p,q⟩:=h
 exact⟨t,.one p,q⟩
def WalksS (Oc:Wd) (Ob:Addr->Prop) (J:It) (H1:Hp) (ds:List D):Prop :=
 ∀(H2:Hp),Same H1 H2->∀i,(∀d,ds[i]?=some d->J.go i H2/\∀x H3,J.yld i H2 x H3->Same H2 H3/\Rep H3 (Uni Oc Ob) x d)/\(ds.length<=i->J.stop i H2)
def RIc (C:Ct) (tg iter:Expr) (m:Ev->Res (List D)):Prop :=
 ∃wi,PI C.X tg iter wi/\∀(Oc:Wd) (Ob:Addr->Prop) (σ:St) (H:Hp) (ρ:Ev) (R:It->Hp->Prop),Rel Oc Ob C.om C.ln σ H ρ ->
  (m ρ).post (fun ds=>∀J H1,Same H H1->WalksS Oc Ob J H1 ds->R J H1) (fun c=>∀H',Same H H'->C.XE c H')->wi σ H R
theorem RI.c {C:Ct}{tg iter:Expr}{m:Ev->Res (List D)}(h:RI C tg iter m):RIc C tg iter m:=by
 obtain⟨wi,p,q⟩:=h
 exact⟨wi,p,fun Oc Ob σ H ρ W R h=>q Oc Ob σ H ρ W R (Res.zR h (fun ds _ k J H1 s w=>k J H1 s fun H2 s2=>w H2 Ob (Same.frm s2) fun b z=>.inl z) fun _ z=>z)⟩
theorem zG8 {C:Ct}{elt:Expr}{ifs:List Expr}{scope:Scope}{N:List Str}{js:List Nat}{mi:Ev->Res (List D)}{mt:Ev->Res Bool}{me:Ev->Res D}{wi:TI}
  (qi:∀(Oc:Wd) (Ob:Addr->Prop) (σ:St) (H:Hp) (ρ:Ev) (R:It->Hp->Prop),Rel Oc Ob C.om C.ln σ H ρ->(mi ρ).post (fun ds=>∀J H1,Same H H1->WalksS Oc Ob J H1 ds->R J H1) (fun c=>∀H',Same H H'->C.XE c H')->wi σ H R)
  (ht:∀A fp s₂ H,RTs (cC C N scope A fp s₂ H js) ifs mt) (he:∀A fp s₂ H,RE (cC C N scope A fp s₂ H js) .cl elt me)
  {Oc:Wd}{Ob:Addr->Prop}{σ:St}{H:Hp}{ρ:Ev}{Q:VK}(R:Rel Oc Ob C.om C.ln σ H ρ) (h:(eComp mi mt me js ρ).post (fun d=>∀v H',Same H H'->VR .new Oc Ob H H' v d->Q v H') (fun c=>∀H',Same H H'->C.XE c H')) :
  tComp wi (fun A fp s H=>Classical.choose (ht A fp s H)) (fun A fp s H=>Classical.choose (he A fp s H)) js σ H Q:=by
 refine qi Oc Ob σ H ρ _ R (Res.zR (Res.zV h) (fun ds _ k J H1 s1 wk => ?_) fun _ z=>z)
 intro A fp s₂ H₂
 have qt:=(Classical.choose_spec (ht A fp s₂ H₂)).2
 have qe:=(Classical.choose_spec (he A fp s₂ H₂)).2
 have k:(if ds.length<=sizeLine then (compM (fun x=>mt (cEnv ρ js x)) (fun x=>me (cEnv ρ js x)) ds).bind fun out=>Res.ok (PyData.list out) else .no).post (fun d=>∀v H',Same H H'->VR .new Oc Ob H H' v d->Q v H') (fun c=>∀H',Same H H'->C.XE c H'):=k
 by_cases hlen:ds.length<=sizeLine
 ·rw[if_pos hlen] at k
  generalize hT:(fun x=>mt (cEnv ρ js x))=T at k
  generalize hF:(fun x=>me (cEnv ρ js x))=F at k
  cases ec:compM T F ds with
  | no=>rw[ec] at k;exact k.elim
  | ex c =>
   exfalso
   have nex:∀xs c,compM T F xs ≠ .ex c:=by
    intro xs
    induction xs with
    | nil=>intro c z;cases z
    | cons x xs ih =>
     intro c z
     rw[compM] at z
     cases e1:noEx (T x) with
     | no=>rw[e1] at z;cases z
     | ex c'=>cases hx:T x <;> rw[hx] at e1 <;> cases e1
     | ok b =>
      rw[e1,Res.bind_ok] at z
      cases b with
      | false=>exact ih c z
      | true =>
       simp only[if_true] at z
       cases e2:noEx (F x) with
       | no=>rw[e2] at z;cases z
       | ex c'=>cases hx:F x <;> rw[hx] at e2 <;> cases e2
       | ok y =>
        rw[e2,Res.bind_ok] at z
        cases e3:compM T F xs with
        | no=>rw[e3] at z;cases z
        | ex c'=>exact ih c' e3
        | ok ys=>rw[e3] at z;cases z
   exact nex ds c ec
  | ok out =>
   rw[ec,Res.bind_ok] at k
   refine⟨fun i m acc H=>m=ds.length-i/\i<=ds.length/\Same H1 H/\∃done rest,Reps H (Uni Oc Ob) acc done/\acc.length<=i/\compM T F (ds.drop i)=.ok rest/\done++rest=out,⟨_,rfl,Nat.zero_le _,Same.refl _,[],out,.nil,Nat.le_refl _,ec,rfl⟩,?_⟩
   rintro i m acc H2 ⟨rfl,hi,s2,done,rest,ra,la,er,eo⟩
   obtain⟨w1,w2⟩:=wk H2 s2 i
   have R2:=(R.same s1).same s2
   by_cases hlt:i<ds.length
   ·obtain⟨go,yl⟩:=w1 ds[i] (List.getElem?_eq_getElem hlt)
    have ed:ds.drop i=ds[i]::ds.drop (i+1):=List.drop_eq_getElem_cons hlt
    rw[ed,compM] at er
    have nxt:∀(acc':List V) (H3:Hp) (done' rest':List D),Same H2 H3->Reps H3 (Uni Oc Ob) acc' done'->acc'.length<=i+1->compM T F (ds.drop (i+1))=.ok rest'->done'++rest'=out ->
      ∃m',m'<ds.length-i/\(m'=ds.length-(i+1)/\i+1<=ds.length/\Same H1 H3/\∃done rest,Reps H3 (Uni Oc Ob) acc' done/\acc'.length<=i+1/\compM T F (ds.drop (i+1))=.ok rest/\done++rest=out) :=
     fun acc' H3 done' rest' s3 r3 l3 c3 o3=>⟨_,by bv_omega,rfl,hlt,s2.trans s3,done',rest',r3,l3,c3,o3⟩
    refine .inr ⟨go,fun acc' H'=>∃m',m'<ds.length-i/\(m'=ds.length-(i+1)/\i+1<=ds.length/\Same H1 H'/\∃done rest,Reps H' (Uni Oc Ob) acc' done/\acc'.length<=i+1/\compM T F (ds.drop (i+1))=.ok rest/\done++rest=out),fun acc' H' z=>z,fun x H3 hy => ?_⟩
    obtain⟨s3,rx⟩:=yl x H3 hy
    have R3:=(R2.same s3).comp (js:=js) rx
    cases e1:noEx (T ds[i]) with
    | no=>rw[e1] at er;cases er
    | ex c=>rw[e1] at er;cases er
    | ok b =>
     rw[e1,Res.bind_ok] at er
     have t1:mt (cEnv ρ js ds[i])=.ok b:=by
      have t1:=fO e1
      rw[<-hT] at t1
      exact t1
     refine qt _ _ _ H3 _ _ R3 ?_
     show (mt (cEnv ρ js ds[i])).post _ _
     rw[t1]
     intro H4 s4
     cases b with
     | false=>exact iteF (nxt acc H4 done rest (s3.trans s4) (ra.same (s3.trans s4)) (by bv_omega) er eo)
     | true =>
      refine iteT ?_
      simp only[if_true] at er
      cases e2:noEx (F ds[i]) with
      | no=>rw[e2] at er;cases er
      | ex c=>rw[e2] at er;cases er
      | ok y =>
       rw[e2,Res.bind_ok] at er
       have t2:me (cEnv ρ js ds[i])=.ok y:=by
        have t2:=fO e2
        rw[<-hF] at t2
        exact t2
       refine qe _ _ _ H4 _ _ (R3.same s4) ?_
       show (me (cEnv ρ js ds[i])).post _ _
       rw[t2]
       intro v H5 s5 rv
       refine⟨by bv_omega,?_⟩
       obtain⟨ys,e3⟩:∃ys,compM T F (ds.drop (i+1))=.ok ys:=by
        cases e3:compM T F (ds.drop (i+1)) with
        | no=>rw[e3] at er;cases er
        | ex c=>rw[e3] at er;cases er
        | ok ys=>exact⟨ys,rfl⟩
       rw[e3,Res.bind_ok] at er
       cases er
       have rv':Rep H5 (Uni Oc Ob) v y:=Rep.less rv fun b z=>.inl z
       refine nxt (acc ++ [v]) H5 (done ++ [y]) ys ((s3.trans s4).trans s5) ((ra.same ((s3.trans s4).trans s5)).append (.one rv')) (by rw[List.length_append,List.length_singleton];bv_omega) e3 ?_
       rw[List.append_assoc]
       exact eo
   ·have ei:i=ds.length:=by bv_omega
    subst ei
    refine .inl ⟨w2 (Nat.le_refl _),fun p hp => ?_⟩
    rw[List.drop_length] at er
    cases er
    rw[List.append_nil] at eo
    subst eo
    exact k _ _ ((s1.trans s2).trans (Same.new hp)) (yA (s1.trans s2) hp ra)
 ·rw[if_neg hlen] at k
  exact k.elim
theorem qO {C:Ct}{elt iter:Expr}{ifs:List Expr}{sc0 scope:Scope}{N0:List Str}{px pos:Pos}{xt:Str}{fs:List Str}{js:List Nat}{mi:Ev->Res (List D)}{mt:Ev->Res Bool}{me:Ev->Res D}(S:CompScope sc0 scope N0 xt fs js) (h0:C.X.env.scope=sc0) (hN0:C.X.N=N0) (hc:C.X.calm=true)
  (hi:RIc C (.Name xt px) iter mi) (ht:∀A fp s₂ H,RTs (cC C (xt::fs) scope A fp s₂ H js) ifs mt) (he:∀A fp s₂ H,RE (cC C (xt::fs) scope A fp s₂ H js) .cl elt me)
  (hs:autoParam (∀x,foldedSetIterable iter C.X.env x=pure x) wC._auto_1) :
  RE C .new (.ListComp elt [⟨.Name xt px,iter,ifs,0⟩] scope pos) (eComp mi mt me js):=by
 obtain⟨wi,pi,qi⟩:=hi
 refine⟨_,aT (tt:=fun A fp s H=>Classical.choose (ht A fp s H)) (te:=fun A fp s H=>Classical.choose (he A fp s H)) S h0 hN0 hc pi (fun A fp s H=>(Classical.choose_spec (ht A fp s H)).1) (fun A fp s H=>(Classical.choose_spec (he A fp s H)).1) hs,fun Oc Ob σ H ρ Q R h=>zG8 qi ht he R h⟩
section
variable {C:Ct}{fr:Bool}{e c:Expr}{pos:Pos}{md:Md}{me:Ev->Res D}{mt:Ev->Res Bool}{st:Stmt}{sts rest:List Stmt}{m n:Ev->Res Out}
def sN:Ev->Res Out:=fun ρ=>.ok (.nx ρ)
def sQ (m n:Ev->Res Out):Ev->Res Out:=fun ρ=>(m ρ).bind fun o=>match o with
 | .nx ρ'=>n ρ'
 | .rt d=>.ok (.rt d)
theorem yN:RSs C fr [] sN:=⟨_,qR,fun Oc Ob σ H ρ E R h=>h σ H Ob R (Same.frm (Same.refl H)) fun b z=>.inl z⟩
theorem zL (h:RS C fr st m):RSs C fr [st] m:=by
 obtain⟨t,p,q⟩:=h
 exact⟨_,yZ p,q⟩
theorem zN (h:RS C fr st m) (hr:RSs C fr rest n):RSs C fr (st::rest) (sQ m n):=by
 obtain⟨t,p,q⟩:=h
 obtain⟨t',p',q'⟩:=hr
 refine⟨_,zH p p',fun Oc Ob σ H ρ E R h=>q Oc Ob σ H ρ _ R (Res.zR (Res.zV h) (fun o _ k => ?_) fun _ z=>z)⟩
 cases o with
 | rt d=>exact k
 | nx ρ'=>exact fun σ' H' Ob' R' f s=>q' Oc Ob' σ' H' ρ' E R' (SPost.step f s k)
def sX:Ev->Res Out:=fun _=>.no
def sIf (t:Ev->Res Bool) (m n:Ev->Res Out):Ev->Res Out:=fun ρ=>(t ρ).bind fun b=>if b then m ρ else n ρ
theorem xY {x y:List Stmt}(hc:RT C c mt) (hx:RSs C fr x m) (hy:RSs C fr y n):RS C fr (.If c x y pos) (sIf mt m n):=by
 obtain⟨t,p,q⟩:=hc
 obtain⟨t1,p1,q1⟩:=hx
 obtain⟨t2,p2,q2⟩:=hy
 refine⟨_,kG p p1 p2,fun Oc Ob σ H ρ E R h=>q Oc Ob σ H ρ _ R (Res.zR (Res.zV h) (fun b _ k H' s => ?_) fun c z H' s=>z H' (Same.frm s))⟩
 cases b with
 | true=>exact iteT (q1 Oc Ob σ H' ρ E (R.same s) (SPost.same s k))
 | false=>exact iteF (q2 Oc Ob σ H' ρ E (R.same s) (SPost.same s k))
def sR (m:Ev->Res D):Ev->Res Out:=fun ρ=>(m ρ).bind fun d=>.ok (.rt d)
theorem yO (he:RE C .cl e me):RS C false (.Return (some e) pos) (sR me):=by
 obtain⟨t,p,q⟩:=he
 refine⟨_,xF p,fun Oc Ob σ H ρ E R h=>q Oc Ob σ H ρ _ R (Res.zR (Res.zV h) (fun d _ k v H' s r => ?_) fun c z H' s=>z H' (Same.frm s))⟩
 exact k v H' (Same.frm s) (Rep.less r fun b z=>.inl z)
theorem zP5 (he:RE C .new e me):RS C true (.Return (some e) pos) (sR me):=by
 obtain⟨t,p,q⟩:=he
 refine⟨_,xF p,fun Oc Ob σ H ρ E R h=>q Oc Ob σ H ρ _ R (Res.zR (Res.zV h) (fun d _ k v H' s r => ?_) fun c z H' s=>z H' (Same.frm s))⟩
 obtain⟨a,ys,ds,e1,e2,e3,e4,e5⟩:=r
 exact k v H' (Same.frm s) ⟨a,ys,ds,e1,e2,.inl e3,fun z=>R.oh a (.inl z) e3,e4,e5.less fun b z=>z.elim (fun z=>.inl (.inl z)) .inr⟩
theorem yL4 (i:Nat){x:Str}{p':Pos}(hN:autoParam (C.X.N[i]?=some x) zY._auto_1) (ho:autoParam (C.om.contains i=true) zY._auto_1) (hv:autoParam (Vis C.X.env.scope x) qZ._auto_1) (hd:autoParam ((x == ("__debug__":Str))=false) zK._auto_1)
  (hcd:autoParam ((x == ("__classdict__":Str))=false) zK._auto_1):RS C true (.Return (some (.Name x p')) pos) (sR (eV i)):=by
 refine⟨_,xF (vG hN hv hd hcd),fun Oc Ob σ H ρ E R h => ?_⟩
 obtain⟨d,e,k⟩:=vS (Res.zV h)
 obtain⟨v,q,a,ys,ds,e1,e2,e3,e4,e5⟩:=R.own i d e (wY ho)
 exact⟨v,q,k v H (Same.frm (Same.refl H)) ⟨a,ys,ds,e1,e2,.inr e4,R.ap a e4,e3,e5.less fun b z=>z.elim .inl fun z=>.inr (by subst z;exact e4)⟩⟩
theorem zD {α:Type}{l:List (Option α)}{i j:Nat}{v d:α}(h:(l.set i (some v))[j]?=some (some d)):(j=i/\d=v)\/(j≠i/\l[j]?=some (some d)):=by
 by_cases e:i=j
 ·subst e
  rw[List.getElem?_set_self'] at h
  cases q:l[i]? with
  | none=>rw[q] at h;cases h
  | some z=>rw[q] at h;cases h;exact .inl ⟨rfl,rfl⟩
 ·rw[List.getElem?_set_ne e] at h
  exact .inr ⟨fun z=>e z.symm,h⟩
theorem uF {α:Type}{l:List (Option α)}{i j:Nat}{v d:α}(h:(l.set i (some v))[j]?=some (some d)):j<l.length:=by
 have:=(List.getElem?_eq_some_iff.mp h).1
 simpa using this
theorem Rel.set {Oc:Wd}{Ob:Addr->Prop}{om ln:List Nat}{σ:St}{H:Hp}{ρ:Ev}{i:Nat}{v:V}{d:D}(R:Rel Oc Ob om ln σ H ρ) (ho:i∉om) (hl:i∉ln) (r:Rep H (Uni Oc Ob) v d):Rel Oc Ob om ln (σ.set i (some v)) H (ρ.set i (some d)) where
 len:=by rw[List.length_set,List.length_set];exact R.len
 val:=fun j d' e h1 h2=>by
  have hj:=uF e
  rcases zD e with ⟨rfl,rfl⟩ | ⟨ne,e⟩
  ·exact⟨v,by rw[List.getElem?_set_self (by rw[R.len];exact hj)],r⟩
  ·obtain⟨w,q,k⟩:=R.val j d' e h1 h2
   exact⟨w,by rw[List.getElem?_set_ne (fun z=>ne z.symm)];exact q,k⟩
 own:=fun j d' e h1=>by
  rcases zD e with ⟨rfl,rfl⟩ | ⟨ne,e⟩
  ·exact absurd h1 ho
  ·obtain⟨w,q,k⟩:=R.own j d' e h1
   exact⟨w,by rw[List.getElem?_set_ne (fun z=>ne z.symm)];exact q,k⟩
 lnt:=fun j d' e h1 h2=>by
  rcases zD e with ⟨rfl,rfl⟩ | ⟨ne,e⟩
  ·exact absurd h2 hl
  ·obtain⟨w,q,k⟩:=R.lnt j d' e h1 h2
   exact⟨w,by rw[List.getElem?_set_ne (fun z=>ne z.symm)];exact q,k⟩
 inj:=fun j k dj dk a ej ek hj hk qj qk=>by
  rcases zD ej with ⟨rfl,rfl⟩ | ⟨nj,ej⟩
  ·exact absurd hj ho
  ·rcases zD ek with ⟨rfl,rfl⟩ | ⟨nk,ek⟩
   ·exact absurd hk ho
   ·rw[List.getElem?_set_ne (fun z=>nj z.symm)] at qj
    rw[List.getElem?_set_ne (fun z=>nk z.symm)] at qk
    exact R.inj j k dj dk a ej ek hj hk qj qk
 oh:=R.oh
 ap:=R.ap
theorem Rel.setO {Oc:Wd}{Ob:Addr->Prop}{om ln:List Nat}{σ:St}{H H':Hp}{ρ:Ev}{i:Nat}{v:V}{d:D}(R:Rel Oc Ob om ln σ H ρ) (s:Same H H') (ho:i∈om) (r:VR .new Oc Ob H H' v d):∃a,H a=none/\Rel Oc (fun b=>Ob b\/b=a) om ln (σ.set i (some v)) H' (ρ.set i (some d)):=by
 obtain⟨a,ys,ds,rfl,rfl,e3,e4,e5⟩:=r
 have up:∀{vs:List V}{es:List D},Reps H (Uni Oc Ob) vs es->Reps H' (Uni Oc fun b=>Ob b\/b=a) vs es:=fun r=>r.keep (fun b o e _=>s b o e) fun b n z=>z.elim .inl fun z=>z.elim .inr fun z=>by subst z;exact absurd e3 n
 have up1:∀{v:V}{e:D},Rep H (Uni Oc Ob) v e->Rep H' (Uni Oc fun b=>Ob b\/b=a) v e:=fun r=>r.keep (fun b o e _=>s b o e) fun b n z=>z.elim .inl fun z=>z.elim .inr fun z=>by subst z;exact absurd e3 n
 refine⟨a,e3,?_,fun j d' e h1 h2 => ?_,fun j d' e h1 => ?_,fun j d' e h1 h2 => ?_,fun j k dj dk b ej ek hj hk qj qk => ?_,fun b z => ?_,fun b z => ?_⟩
 ·rw[List.length_set,List.length_set];exact R.len
 ·rcases zD e with ⟨rfl,rfl⟩ | ⟨ne,e⟩
  ·exact absurd ho h1
  ·obtain⟨w,q,k⟩:=R.val j d' e h1 h2
   exact⟨w,by rw[List.getElem?_set_ne (fun z=>ne z.symm)];exact q,up1 k⟩
 ·have hj:=uF e
  rcases zD e with ⟨rfl,rfl⟩ | ⟨ne,e⟩
  ·refine⟨.ref a,by rw[List.getElem?_set_self (by rw[R.len];exact hj)],a,ys,ds,rfl,rfl,e4,.inr rfl,e5.less fun b z=>z.elim (fun z=>.inl (.inl z)) fun z=>z.elim (fun z=>.inl (.inr z)) .inr⟩
  ·obtain⟨w,q,b,zs,fs,z1,z2,z3,z4,z5⟩:=R.own j d' e h1
   exact⟨w,by rw[List.getElem?_set_ne (fun z=>ne z.symm)];exact q,b,zs,fs,z1,z2,s _ _ z3,.inl z4,up z5⟩
 ·rcases zD e with ⟨rfl,rfl⟩ | ⟨ne,e⟩
  ·exact absurd ho h1
  ·obtain⟨w,q,zs,fs,z1,z2,z3,z4,z5⟩:=R.lnt j d' e h1 h2
   exact⟨w,by rw[List.getElem?_set_ne (fun z=>ne z.symm)];exact q,zs,fs,z1,z2,s _ _ z3,z4,up z5⟩
 ·have lj:=uF ej
  have lk:=uF ek
  rcases zD ej with ⟨rfl,rfl⟩ | ⟨nj,ej'⟩
  ·rw[List.getElem?_set_self (by rw[R.len];exact lj)] at qj
   cases qj
   rcases zD ek with ⟨rfl,rfl⟩ | ⟨nk,ek'⟩
   ·rfl
   ·rw[List.getElem?_set_ne (fun z=>nk z.symm)] at qk
    obtain⟨w,q,b,zs,fs,z1,z2,z3,z4,z5⟩:=R.own k dk ek' hk
    rw[qk] at q
    cases q
    cases z1
    rw[e3] at z3
    cases z3
  ·rw[List.getElem?_set_ne (fun z=>nj z.symm)] at qj
   rcases zD ek with ⟨rfl,rfl⟩ | ⟨nk,ek'⟩
   ·rw[List.getElem?_set_self (by rw[R.len];exact lk)] at qk
    cases qk
    obtain⟨w,q,b,zs,fs,z1,z2,z3,z4,z5⟩:=R.own j dj ej' hj
    rw[qj] at q
    cases q
    cases z1
    rw[e3] at z3
    cases z3
   ·rw[List.getElem?_set_ne (fun z=>nk z.symm)] at qk
    exact R.inj j k dj dk b ej' ek' hj hk qj qk
 ·rcases z with z | z | rfl
  ·exact Same.ne s (R.oh b (.inl z))
  ·exact Same.ne s (R.oh b (.inr z))
  ·rw[e4];exact fun z=>nomatch z
 ·rcases z with z | rfl
  ·exact R.ap b z
  ·exact fun z=>R.oh b (.inl z) e3
def sS (i:Nat) (m:Ev->Res D):Ev->Res Out:=fun ρ=>(m ρ).bind fun d=>.ok (.nx (ρ.set i (some d)))
theorem xZ (i:Nat){x:Str}{p':Pos}(nd:C.X.N.Nodup) (he:RE C .cl e me) (hi:autoParam (C.X.N[i]?=some x) zY._auto_1) (ho:autoParam (C.om.contains i=false) zY._auto_1) (hl:autoParam (C.ln.contains i=false) zY._auto_1) (hx:autoParam (Loc C.X.env.scope x) autoK12._auto_1)
  (hs:autoParam (swapsWith e (some (.Name x p')) pos.line C.X.env=pure false) zY._auto_1) (hf:autoParam (C.X.fn x=true\/C.X.env.scope.names.lookup x=some .local) autoK13._auto_1):RS C fr (.Assign [.Name x p'] e pos) (sS i me):=by
 obtain⟨t,p,q⟩:=he
 refine⟨_,yW nd hi hx p hs hf,fun Oc Ob σ H ρ E R h=>q Oc Ob σ H ρ _ R (Res.zR (Res.zV h) (fun d _ k v H' s r => ?_) fun c z H' s=>z H' (Same.frm s))⟩
 exact k _ H' Ob ((R.same s).set (yF ho) (yF hl) r) (Same.frm s) fun b z=>.inl z
theorem wN (i:Nat){x:Str}{p':Pos}(nd:C.X.N.Nodup) (he:RE C .new e me) (hi:autoParam (C.X.N[i]?=some x) zY._auto_1) (ho:autoParam (C.om.contains i=true) zY._auto_1) (hx:autoParam (Loc C.X.env.scope x) autoK12._auto_1)
  (hs:autoParam (swapsWith e (some (.Name x p')) pos.line C.X.env=pure false) zY._auto_1) (hf:autoParam (C.X.fn x=true\/C.X.env.scope.names.lookup x=some .local) autoK13._auto_1):RS C fr (.Assign [.Name x p'] e pos) (sS i me):=by
 obtain⟨t,p,q⟩:=he
 refine⟨_,yW nd hi hx p hs hf,fun Oc Ob σ H ρ E R h=>q Oc Ob σ H ρ _ R (Res.zR (Res.zV h) (fun d _ k v H' s r => ?_) fun c z H' s=>z H' (Same.frm s))⟩
 obtain⟨a,ha,R'⟩:=R.setO s (wY ho) r
 exact k _ H' _ R' (Same.frm s) fun b z=>z.elim .inl fun z=>.inr (by subst z;exact ha)
def sE (m:Ev->Res D):Ev->Res Out:=fun ρ=>(m ρ).bind fun _=>.ok (.nx ρ)
theorem vP (he:RE C md e me) (hs:autoParam (swapsWith e none pos.line C.X.env=pure false) zY._auto_1):RS C fr (.Expr e pos) (sE me):=by
 obtain⟨t,p,q⟩:=he
 refine⟨_,wL p hs,fun Oc Ob σ H ρ E R h=>q Oc Ob σ H ρ _ R (Res.zR (Res.zV h) (fun d _ k v H' s r => ?_) fun c z H' s=>z H' (Same.frm s))⟩
 exact k σ H' Ob (R.same s) (Same.frm s) fun b z=>.inl z
theorem Rel.write {Oc:Wd}{Ob:Addr->Prop}{om ln:List Nat}{σ:St}{H:Hp}{ρ:Ev}{i:Nat}{a:Addr}{ys ys':List V}{d:D}{ds':List D}(R:Rel Oc Ob om ln σ H ρ) (ho:i∈om) (ed:ρ[i]?=some (some d)) (es:σ[i]?=some (some (.ref a))) (ha:H a=some (.lst ys)) (hb:Ob a)
  (r:Reps H (Uni Oc Ob) ys' ds'):Rel Oc Ob om ln σ (upd H a (.lst ys')) (ρ.set i (some (.list ds'))):=by
 have kp:∀b o,H b=some o->¬Uni Oc Ob b->upd H a (.lst ys') b=some o:=fun b o e n=>by
  rw[zX (fun z=>n (by subst z;exact .inr hb))];exact e
 have up:∀{vs:List V}{es:List D},Reps H (Uni Oc Ob) vs es->Reps (upd H a (.lst ys')) (Uni Oc Ob) vs es:=fun r=>r.keep kp fun b n z=>z
 have up1:∀{v:V}{e:D},Rep H (Uni Oc Ob) v e->Rep (upd H a (.lst ys')) (Uni Oc Ob) v e:=fun r=>r.keep kp fun b n z=>z
 have li:i<σ.length:=(List.getElem?_eq_some_iff.mp es).1
 refine⟨by rw[List.length_set];exact R.len,fun j d' e h1 h2 => ?_,fun j d' e h1 => ?_,fun j d' e h1 h2 => ?_,fun j k dj dk b ej ek hj hk qj qk => ?_,fun b z => ?_,R.ap⟩
 ·rcases zD e with ⟨rfl,rfl⟩ | ⟨ne,e⟩
  ·exact absurd ho h1
  ·obtain⟨w,q,k⟩:=R.val j d' e h1 h2
   exact⟨w,q,up1 k⟩
 ·rcases zD e with ⟨rfl,rfl⟩ | ⟨ne,e⟩
  ·exact⟨.ref a,es,a,ys',ds',rfl,rfl,zT,hb,up r⟩
  ·obtain⟨w,q,b,zs,fs,rfl,z2,z3,z4,z5⟩:=R.own j d' e h1
   have nb:b≠a:=fun z=>by subst z;exact ne (R.inj j i d' d b e ed h1 ho q es)
   exact⟨_,q,b,zs,fs,rfl,z2,by rw[zX nb];exact z3,z4,up z5⟩
 ·rcases zD e with ⟨rfl,rfl⟩ | ⟨ne,e⟩
  ·exact absurd ho h1
  ·obtain⟨w,q,zs,fs,z1,z2,z3,z4,z5⟩:=R.lnt j d' e h1 h2
   have nb:Oc.la j≠a:=fun z=>R.ap a hb (z▸z4)
   exact⟨_,q,zs,fs,z1,z2,by rw[zX nb];exact z3,z4,up z5⟩
 ·have get:∀j dj,(ρ.set i (some (.list ds')))[j]?=some (some dj)->∃d,ρ[j]?=some (some d):=fun j dj e=>by
   rcases zD e with ⟨rfl,rfl⟩ | ⟨ne,e⟩
   ·exact⟨d,ed⟩
   ·exact⟨dj,e⟩
  obtain⟨d1,e1⟩:=get j dj ej
  obtain⟨d2,e2⟩:=get k dk ek
  exact R.inj j k d1 d2 b e1 e2 hj hk qj qk
 ·by_cases h:b=a
  ·subst h;rw[zT];exact fun z=>nomatch z
  ·rw[zX h];exact R.oh b z
def PrM (r:V->List V->Hp->VK->Prop) (g:List D->List D->Option (List D)):Prop :=
 ∀(O:Addr->Prop) (H:Hp) (l:Addr) (xs vs:List V) (xd ad ds':List D) (Q:VK),H l=some (.lst xs)->Reps H O xs xd->Reps H O vs ad->g xd ad=some ds'->(∀xs',Reps H O xs' ds'->Q .non (upd H l (.lst xs')))->r (.ref l) vs H Q
def lstD:D->Option (List D)
 | .list ds=>some ds
 | _=>none
def sM (i:Nat) (g:List D->List D->Option (List D)) (m:Ev->Res (List D)):Ev->Res Out:=fun ρ=>(eV i ρ).bind fun d=>(Res.lft (lstD d)).bind fun xd=>(m ρ).bind fun ad=>(Res.lft (g xd ad)).bind fun ds=>.ok (.nx (ρ.set i (some (.list ds))))
theorem jR {d:D}{ds:List D}(h:lstD d=some ds):d=.list ds:=by
 cases d <;> simp[lstD] at h ⊢
 exact h
theorem qS (i:Nat){x name:Str}{id:String}{a:Expr}{es:List Expr}{ms:Ev->Res (List D)}{p' apos cpos:Pos}{r:V->List V->Hp->VK->Prop}{g:List D->List D->Option (List D)}(slot:Slot "list" name id) (hty:typeOf (.builtin id)=pure (.type "method_descriptor")) (hm:MtR C.X id r) (hp:PrM r g) (ha:RArg C true (a::es) ms)
  (hN:autoParam (C.X.N[i]?=some x) zY._auto_1) (ho:autoParam (C.om.contains i=true) zY._auto_1) (hv:autoParam (Vis C.X.env.scope x) qZ._auto_1) (hd:autoParam ((x == ("__debug__":Str))=false) zK._auto_1) (hcd:autoParam ((x == ("__classdict__":Str))=false) zK._auto_1)
  (hbase:autoParam (attributeBase (.Name x p') name C.X.env (eval (.Name x p') C.X.env)=eval (.Name x p') C.X.env) zY._auto_1)
  (hfew:((backTo cpos (starEach (a::es) C.X.env)).all (fun x=>!x.1)&&(backToKw cpos (keywordEach [] C.X.env)).all (fun x=>x.1.isSome)
  &&decide ((a::es).length+([]:List Keyword).length+(if ([]:List Keyword).isEmpty then 0 else 1)<30))=true:=by rfl)
  (hline:autoParam ((apos.endLine == cpos.line)=true) zY._auto_1) (hs:autoParam (starEach (a::es) C.X.env=(false,eval a C.X.env)::starEach es C.X.env) zY._auto_1) (hplain:autoParam ((backTo cpos (starEach es C.X.env)).any (·.1)=false) zY._auto_1)
  (hsw:autoParam (swapsWith (.Call (.Attribute (.Name x p') name apos) (a::es) [] cpos) none pos.line C.X.env=pure false) zY._auto_1) :
  RS C fr (.Expr (.Call (.Attribute (.Name x p') name apos) (a::es) [] cpos) pos) (sM i g ms):=by
 obtain⟨t,p,q⟩:=ha
 refine⟨_,wL (uM PySem.F.plainAttrs_list slot hty hm (vG hN hv hd hcd) p hbase hfew hline hs hplain) hsw,fun Oc Ob σ H ρ E R h => ?_⟩
 obtain⟨d,ed,k⟩:=vS (Res.zV h)
 obtain⟨xd,ex,k⟩:=Res.zG (Res.zV k)
 obtain rfl:=jR ex
 obtain⟨v,qv,l,ys,ds,rfl,e2,e3,e4,e5⟩:=R.own i _ ed (wY ho)
 cases e2
 refine⟨_,qv,.inl ⟨rfl,_,SqL.of e3⟩,q Oc Ob σ H ρ _ R (Res.zR (Res.zV k) (fun ad _ k vs H' s r' => ?_) fun c z H' s=>z H' (Same.frm s))⟩
 obtain⟨ds',eg,k⟩:=Res.zG (Res.zV k)
 refine hp _ H' l ys vs xd ad ds' _ (s _ _ e3) (e5.same s) r' eg fun xs' rx => ?_
 refine k _ _ Ob ((R.same s).write (wY ho) ed qv (s _ _ e3) e4 rx) (fun b o e n => ?_) fun b z=>.inl z
 rw[zX (fun z=>n (by subst z;exact e4))]
 exact s b o e
end
def RG (C:Ct) (tg:Expr) (g:D->Ev->Option Ev):Prop :=
 ∃t,PG C.X tg t/\∀(Oc:Wd) (Ob:Addr->Prop) (σ:St) (H:Hp) (ρ ρ':Ev) (v:V) (d:D) (Q:St->Hp->Prop),Rel Oc Ob C.om C.ln σ H ρ->Rep H (Uni Oc Ob) v d->g d ρ=some ρ'->(∀σ',Rel Oc Ob C.om C.ln σ' H ρ'->Q σ' H)->t v σ H Q
def gN (i:Nat):D->Ev->Option Ev:=fun d ρ=>some (ρ.set i (some d))
section
variable {C:Ct}{fr:Bool}{e c:Expr}{es:List Expr}{pos:Pos}{md:Md}{me:Ev->Res D}{mt:Ev->Res Bool}{st:Stmt}{body sts rest:List Stmt}{m n:Ev->Res Out}{mi:Ev->Res (List D)}{g:D->Ev->Option Ev}
theorem xB (i:Nat){x:Str}(nd:C.X.N.Nodup) (hi:autoParam (C.X.N[i]?=some x) zY._auto_1) (ho:autoParam (C.om.contains i=false) zY._auto_1) (hl:autoParam (C.ln.contains i=false) zY._auto_1) (hx:autoParam (Loc C.X.env.scope x) autoK12._auto_1)
  (hf:autoParam (C.X.fn x=true\/C.X.env.scope.names.lookup x=some .local) autoK13._auto_1):RG C (.Name x pos) (gN i):=by
 refine⟨_,uU nd hi hx hf,fun Oc Ob σ H ρ ρ' v d Q R r e k => ?_⟩
 cases e
 exact k _ (R.set (yF ho) (yF hl) r)
def RGs (C:Ct) (ts:List Expr) (g:List D->Ev->Option Ev):Prop :=
 ∃t,PGs C.X ts t/\∀(Oc:Wd) (Ob:Addr->Prop) (σ:St) (H:Hp) (ρ ρ':Ev) (vs:List V) (ds:List D) (Q:St->Hp->Prop),Rel Oc Ob C.om C.ln σ H ρ->Reps H (Uni Oc Ob) vs ds->g ds ρ=some ρ'->(∀σ',Rel Oc Ob C.om C.ln σ' H ρ'->Q σ' H)->t vs σ H Q
def gsN:List D->Ev->Option Ev
 | [],ρ=>some ρ
 | _,_=>none
def gsC (g:D->Ev->Option Ev) (h:List D->Ev->Option Ev):List D->Ev->Option Ev
 | d::ds,ρ=>(g d ρ).bind fun ρ1=>h ds ρ1
 | [],_=>none
theorem zO8:RGs C [] gsN:=by
 refine⟨_,zL8,fun Oc Ob σ H ρ ρ' vs ds Q R r e k => ?_⟩
 cases r with
 | nil=>cases e;exact⟨rfl,k σ R⟩
 | cons=>cases e
theorem kR {h:List D->Ev->Option Ev}(h1:RG C e g) (h2:RGs C es h) (hs:autoParam ((assignEach (e::es) C.X.env).map (·.2)=assign e C.X.env::(assignEach es C.X.env).map (·.2)) zY._auto_1):RGs C (e::es) (gsC g h):=by
 obtain⟨t,p,q⟩:=h1
 obtain⟨t',p',q'⟩:=h2
 refine⟨_,dU p p' hs,fun Oc Ob σ H ρ ρ' vs ds Q R r e k => ?_⟩
 cases r with
 | nil=>cases e
 | cons r rs =>
  obtain⟨ρ1,e1,e2⟩:=Option.bind_eq_some_iff.mp e
  exact⟨_,_,rfl,q Oc Ob σ H ρ ρ1 _ _ _ R r e1 fun σ' R'=>q' Oc Ob σ' H ρ1 ρ' _ _ Q R' rs e2 k⟩
def gT (n:Nat) (h:List D->Ev->Option Ev):D->Ev->Option Ev
 | .tuple ds,ρ=>if ds.length=n then h ds ρ else none
 | _,_=>none
theorem zD8 {k n:Nat}{h:List D->Ev->Option Ev}(hc:C.X.calm=true) (hg:RGs C es h) (hn:autoParam ((assignEach es C.X.env).length=n) zY._auto_1) (hst:autoParam ((assignEach es C.X.env).findIdx? (·.1)=none) zY._auto_1):RG C (.Tuple es k pos) (gT n h):=by
 obtain⟨t,p,q⟩:=hg
 refine⟨_,yZ6 hc p hn hst,fun Oc Ob σ H ρ ρ' v d Q R r e k => ?_⟩
 cases r with
 | tup rd no rs =>
  unfold gT at e
  simp only at e
  split at e
  ·rename_i hl
   exact⟨_,_,rfl,.inl rd,by rw[rs.length];exact hl,q Oc Ob σ H ρ ρ' _ _ Q R rs e k⟩
  ·cases e
 | _=>cases e
theorem yB8 {tg:Expr}(he:RE C .cl e me) (hg:RG C tg g) (hs:autoParam (swapsWithSole [tg] e pos.line C.X.env=pure false) zY._auto_1) (hw:autoParam (swappedStores [tg] e C.X.env=pure none) zY._auto_1)
  (h1:autoParam ((assignEach [tg] C.X.env).map (·.2)=[assign tg C.X.env]) zY._auto_1):RS C fr (.Assign [tg] e pos) (fun ρ=>(me ρ).bind fun d=>(Res.lft (g d ρ)).bind fun ρ'=>.ok (.nx ρ')):=by
 obtain⟨t,p,q⟩:=he
 obtain⟨t',p',q'⟩:=hg
 refine⟨_,cI p p' hs hw h1,fun Oc Ob σ H ρ E R h=>q Oc Ob σ H ρ _ R (Res.zR (Res.zV h) (fun d _ k v H' s r => ?_) fun c z H' s=>z H' (Same.frm s))⟩
 obtain⟨ρ',e,k⟩:=Res.zG (Res.zV k)
 exact q' Oc Ob σ H' ρ ρ' v d _ (R.same s) r e fun σ' R'=>k σ' H' Ob R' (Same.frm s) fun b z=>.inl z
def forM (g:D->Ev->Option Ev) (b:Ev->Res Out):List D->Ev->Res Out
 | [],ρ=>.ok (.nx ρ)
 | x::xs,ρ=>(Res.lft (g x ρ)).bind fun ρ1=>(b ρ1).bind fun o=>match o with
  | .nx ρ2=>forM g b xs ρ2
  | .rt d=>.ok (.rt d)
def sF (mi:Ev->Res (List D)) (g:D->Ev->Option Ev) (b:Ev->Res Out):Ev->Res Out:=fun ρ=>(mi ρ).bind fun ds=>forM g b ds ρ
theorem jW {tg iter:Expr}(hi:RI C tg iter mi) (hg:RG C tg g) (hb:RSs C fr body m) (hp:autoParam (PassesOwn (model C.X.prog C.X.w) C.X.A C.X.env C.X.xe) autoK14._auto_1) (hc:autoParam (C.X.calm=true) zY._auto_1)
  (hs:autoParam (∀x,foldedSetIterable iter C.X.env x=pure x) wC._auto_1):RS C fr (.For tg iter body [] pos) (sF mi g m):=by
 obtain⟨wi,pi,qi⟩:=hi
 obtain⟨tg',pg,qg⟩:=hg
 obtain⟨tb,pb,qb⟩:=hb
 refine⟨_,bW hp hc pi pg pb hs,fun Oc Ob σ H ρ E R h=>qi Oc Ob σ H ρ _ R (Res.zR (Res.zV h) (fun ds _ k J H1 s1 wk => ?_) fun c z H' s=>z H' (Same.frm s))⟩
 refine⟨fun i mm σ' H'=>mm=ds.length-i/\i<=ds.length/\∃ρi Obi,Rel Oc Obi C.om C.ln σ' H' ρi/\Frm Ob H1 H'/\(∀b,Obi b->Ob b\/H1 b=none)/\SPost C fr Oc Obi H' E (forM g m (ds.drop i) ρi),
  ⟨_,rfl,Nat.zero_le _,ρ,Ob,R.same s1,Same.frm (Same.refl _),fun b z=>.inl z,SPost.same s1 k⟩,?_⟩
 rintro i mm σ2 H2 ⟨rfl,hi,ρi,Obi,R2,f2,sb2,k2⟩
 obtain⟨w1,w2⟩:=wk H2 Obi f2 sb2 i
 by_cases hlt:i<ds.length
 ·obtain⟨go,yl⟩:=w1 ds[i] (List.getElem?_eq_getElem hlt)
  have ed:ds.drop i=ds[i]::ds.drop (i+1):=List.drop_eq_getElem_cons hlt
  rw[ed,forM] at k2
  obtain⟨ρ1,e1,k2⟩:=Res.zG (Res.zV k2)
  refine .inr ⟨go,fun σ' H'=>∃m',m'<ds.length-i/\(m'=ds.length-(i+1)/\i+1<=ds.length/\∃ρi Obi,Rel Oc Obi C.om C.ln σ' H' ρi/\Frm Ob H1 H'/\(∀b,Obi b->Ob b\/H1 b=none)/\SPost C fr Oc Obi H' E (forM g m (ds.drop (i+1)) ρi)),fun _ _ z=>z,fun x H3 hy => ?_⟩
  obtain⟨s3,rx⟩:=yl x H3 hy
  refine qg Oc Obi σ2 H3 ρi ρ1 x _ _ (R2.same s3) rx e1 fun σ3 R3 => ?_
  have k3:=SPost.same s3 (show SPost C fr Oc Obi H2 E _ from k2)
  refine qb Oc Obi σ3 H3 ρ1 _ R3 (Res.zR (Res.zV k3) (fun o _ k4 => ?_) fun _ z=>z)
  cases o with
  | rt d=>exact k4
  | nx ρ2 =>
   intro σ4 H4 Ob4 R4 f4 sb4
   have f3:Frm Ob H1 H3:=fun b o e n=>s3 b o (f2 b o e n)
   refine⟨_,by bv_omega,rfl,hlt,ρ2,Ob4,R4,f3.trans sb2 f4,fun b z=>(sb4 b z).elim (sb2 b) fun z=>f3.none z,SPost.step f4 sb4 k4⟩
 ·have ei:i=ds.length:=by bv_omega
  subst ei
  rw[List.drop_length] at k2
  exact .inl ⟨w2 (Nat.le_refl _),k2 σ2 H2 Obi R2 (Same.frm (Same.refl _)) fun b z=>.inl z⟩
def whM (t:Ev->Res Bool) (b:Ev->Res Out):Nat->Ev->Res Out
 | 0,_=>.no
 | k+1,ρ=>(t ρ).bind fun c=>if c then (b ρ).bind fun o=>match o with
  | .nx ρ'=>whM t b k ρ'
  | .rt d=>.ok (.rt d) else .ok (.nx ρ)
def sW (fuel:Nat) (t:Ev->Res Bool) (b:Ev->Res Out):Ev->Res Out:=fun ρ=>whM t b fuel ρ
theorem yW2 (fuel:Nat) (hc:RT C c mt) (hb:RSs C fr body m) (hp:autoParam (PassesOwn (model C.X.prog C.X.w) C.X.A C.X.env C.X.xe) autoK14._auto_1):RS C fr (.While c body [] pos) (sW fuel mt m):=by
 obtain⟨t,p,q⟩:=hc
 obtain⟨tb,pb,qb⟩:=hb
 refine⟨_,dO hp p pb,fun Oc Ob σ H ρ E R h => ?_⟩
 refine⟨fun mm σ' H'=>∃ρi Obi,Rel Oc Obi C.om C.ln σ' H' ρi/\Frm Ob H H'/\(∀b,Obi b->Ob b\/H b=none)/\SPost C fr Oc Obi H' E (whM mt m mm ρi),⟨fuel,ρ,Ob,R,Same.frm (Same.refl _),fun b z=>.inl z,h⟩,?_⟩
 rintro mm σ2 H2 ⟨ρi,Obi,R2,f2,sb2,k2⟩
 cases mm with
 | zero=>exact k2.elim
 | succ mm =>
  rw[whM] at k2
  refine q Oc Obi σ2 H2 ρi _ R2 (Res.zR (Res.zV k2) (fun b _ k3 H3 s3 => ?_) fun c z H' s=>z H' (Same.frm s))
  cases b with
  | false=>exact iteF (k3 σ2 H3 Obi (R2.same s3) (Same.frm s3) fun b z=>.inl z)
  | true =>
   refine iteT ⟨fun σ' H'=>∃m',m'<mm+1/\∃ρi Obi,Rel Oc Obi C.om C.ln σ' H' ρi/\Frm Ob H H'/\(∀b,Obi b->Ob b\/H b=none)/\SPost C fr Oc Obi H' E (whM mt m m' ρi),fun _ _ z=>z,?_⟩
   have k3:=SPost.same s3 (show SPost C fr Oc Obi H2 E _ from k3)
   refine qb Oc Obi σ2 H3 ρi _ (R2.same s3) (Res.zR (Res.zV k3) (fun o _ k4 => ?_) fun _ z=>z)
   cases o with
   | rt d=>exact k4
   | nx ρ2 =>
    intro σ4 H4 Ob4 R4 f4 sb4
    have f3:Frm Ob H H3:=fun b o e n=>s3 b o (f2 b o e n)
    exact⟨mm,Nat.lt_succ_self _,ρ2,Ob4,R4,f3.trans sb2 f4,fun b z=>(sb4 b z).elim (sb2 b) fun z=>f3.none z,SPost.step f4 sb4 k4⟩
def setD (ds:List D) (i v:D):Option (List D):=match i with
 | .int k=>(ixN ds.length k).map fun j=>ds.set j v
 | _=>none
def sI (i:Nat) (mk me:Ev->Res D):Ev->Res Out:=fun ρ=>(me ρ).bind fun v=>(eV i ρ).bind fun d=>(Res.lft (lstD d)).bind fun xd=>(mk ρ).bind fun k=>(Res.lft (setD xd k v)).bind fun ds=>.ok (.nx (ρ.set i (some (.list ds))))
theorem yJ8 (i:Nat){x:Str}{p' p2:Pos}{k:Expr}{mk:Ev->Res D}(he:RE C .cl e me) (hk:RE C md k mk) (hN:autoParam (C.X.N[i]?=some x) zY._auto_1) (ho:autoParam (C.om.contains i=true) zY._auto_1) (hv:autoParam (Vis C.X.env.scope x) qZ._auto_1) (hd:autoParam ((x == ("__debug__":Str))=false) zK._auto_1)
  (hcd:autoParam ((x == ("__classdict__":Str))=false) zK._auto_1)
  (ha:∀v,assign (.Subscript (.Name x p') k p2) C.X.env v=(do
   let ov <-holding [v] (eval (.Name x p') C.X.env)
   let iv <-holding [v,ov] (eval k C.X.env)
   standAt p2
   holding [v,ov,iv] (setItem ov iv v)
   release [v,ov,iv] []):=by intro _;rfl)
  (hs:autoParam (swapsWithSole [.Subscript (.Name x p') k p2] e pos.line C.X.env=pure false) zY._auto_1) (hw:autoParam (swappedStores [.Subscript (.Name x p') k p2] e C.X.env=pure none) zY._auto_1)
  (h1:autoParam ((assignEach [.Subscript (.Name x p') k p2] C.X.env).map (·.2)=[assign (.Subscript (.Name x p') k p2) C.X.env]) zY._auto_1):RS C fr (.Assign [.Subscript (.Name x p') k p2] e pos) (sI i mk me):=by
 obtain⟨t,p,q⟩:=he
 obtain⟨t',p',q'⟩:=hk
 refine⟨_,cI p (zU1 (vG hN hv hd hcd) p' dW ha) hs hw h1,fun Oc Ob σ H ρ E R h=>q Oc Ob σ H ρ _ R (Res.zR (Res.zV h) (fun dv _ k v H' s r => ?_) fun c z H' s=>z H' (Same.frm s))⟩
 obtain⟨d,ed,k⟩:=vS (Res.zV k)
 obtain⟨xd,ex,k⟩:=Res.zG (Res.zV k)
 obtain rfl:=jR ex
 obtain⟨w',qv,l,ys,ds,rfl,e2,e3,e4,e5⟩:=(R.same s).own i _ ed (wY ho)
 cases e2
 refine⟨_,qv,q' Oc Ob σ H' ρ _ (R.same s) (Res.zR (Res.zV k) (fun dk _ k kv H2 s2 rk => ?_) fun c z H2 s2=>z H2 (Same.frm (s.trans s2)))⟩
 obtain⟨ds',eg,k⟩:=Res.zG (Res.zV k)
 unfold setD at eg
 split at eg
 ·obtain⟨j,ej,rfl⟩:=Option.map_eq_some_iff.mp eg
  obtain rfl:=(rk.va (R.same s).oh).int
  have hl:=e5.length
  refine⟨l,ys,_,j,rfl,rfl,s2 _ _ e3,by rw[hl];exact ej,?_⟩
  refine k _ _ Ob ((R.same (s.trans s2)).write (wY ho) ed qv (s2 _ _ e3) e4 (Reps.set (Rep.same r s2) j (e5.same s2))) (fun b o e n => ?_) fun b z=>.inl z
  rw[zX (fun z=>n (by subst z;exact e4))]
  exact s2 b o (s b o e)
 ·cases eg
def sV (i j:Nat):Ev->Res Out:=fun ρ=>(eV j ρ).bind fun d=>.ok (.nx ((ρ.set i (some d)).set j none))
theorem qN {α:Type}{l:List (Option α)}{i j:Nat}{d:α}(h:(l.set i none)[j]?=some (some d)):j≠i/\l[j]?=some (some d):=by
 by_cases e:i=j
 ·subst e
  rw[List.getElem?_set_self'] at h
  cases q:l[i]? with
  | none=>rw[q] at h;cases h
  | some z=>rw[q] at h;cases h
 ·rw[List.getElem?_set_ne e] at h
  exact⟨fun z=>e z.symm,h⟩
theorem yG3 (i:Nat){X:Cx}{XE:Str->Hp->Prop}{om:List Nat}(h:RS ⟨X,XE,om.filter (fun j=>j != i),[i]⟩ fr st m) (hkeep:∀ρ o,m ρ=.ok (.nx o)->o[i]?=ρ[i]?) (hi:autoParam (om.contains i=true) zY._auto_1):RS ⟨X,XE,om,[]⟩ fr st (fun ρ=>(eV i ρ).bind fun _=>m ρ):=by
 obtain⟨t,p,q⟩:=h
 refine⟨t,p,fun Oc Ob σ H ρ E R h => ?_⟩
 obtain⟨d,ed,k⟩:=vS (Res.zV h)
 have io:=wY hi
 obtain⟨v,qv,a,ys,ds,rfl,rfl,e3,e4,e5⟩:=R.own i d ed io
 have om':∀j,j∈om.filter (fun j=>j != i)↔j∈om/\j≠i:=fun j=>by rw[List.mem_filter];simp
 let Oc':Wd:=⟨fun b=>Oc b\/b=a,fun j=>if j=i then a else Oc.la j⟩
 have cv:∀b,Uni Oc' (fun b=>Ob b/\b≠a) b->Uni Oc Ob b:=fun b z=>z.elim (fun z=>z.elim .inl fun z=>.inr (by rw[z];exact e4)) fun z=>.inr z.1
 have vc:∀b,Uni Oc Ob b->Uni Oc' (fun b=>Ob b/\b≠a) b:=fun b z=>by
  by_cases hb:b=a
  ·exact .inl (.inr hb)
  ·exact z.elim (fun z=>.inl (.inl z)) fun z=>.inr ⟨z,hb⟩
 have R':Rel Oc' (fun b=>Ob b/\b≠a) (om.filter (fun j=>j != i)) [i] σ H ρ:=by
  refine⟨R.len,fun n d' e h1 h2 => ?_,fun n d' e h1 => ?_,fun n d' e h1 h2 => ?_,fun n k dn dk b en ek hn hk qn qk=>R.inj n k dn dk b en ek ((om' n).mp hn).1 ((om' k).mp hk).1 qn qk,fun b z=>R.oh b (cv b z),fun b z z'=>z'.elim (R.ap b z.1) z.2⟩
  ·have ni:n≠i:=fun z=>h2 (by rw[z];exact List.mem_cons_self)
   obtain⟨w,q,k⟩:=R.val n d' e (fun z=>h1 ((om' n).mpr ⟨z,ni⟩)) fun z=>h2 (List.mem_cons_of_mem _ z)
   exact⟨w,q,k.less cv⟩
  ·obtain⟨h1,ni⟩:=(om' n).mp h1
   obtain⟨w,q,b,zs,fs,rfl,z2,z3,z4,z5⟩:=R.own n d' e h1
   have nb:b≠a:=fun z=>by subst z;exact ni (R.inj n i d' _ b e ed h1 io q qv)
   exact⟨_,q,b,zs,fs,rfl,z2,z3,⟨z4,nb⟩,z5.less cv⟩
  ·by_cases ni:n=i
   ·subst ni
    rw[ed] at e
    cases e
    have ea:Oc'.la n=a:=if_pos rfl
    exact⟨_,qv,ys,ds,by rw[ea],rfl,by rw[ea];exact e3,by rw[ea];exact .inr rfl,e5.less cv⟩
   ·exact absurd h2 (by simpa using ni)
 refine q Oc' (fun b=>Ob b/\b≠a) σ H ρ E R' (Res.zR k (fun o eo k => ?_) fun c z H' f=>z H' fun b o e n=>f b o e fun z=>n z.1)
 cases o with
 | rt d' =>
  refine fun v H' f r=>k v H' (fun b o e n=>f b o e fun z=>n z.1) ?_
  cases fr with
  | false=>exact Rep.less r fun b z=>.inl z
  | true =>
   obtain⟨a',zs,fs,z1,z2,z3,z4,z5,z6⟩:=r
   exact⟨a',zs,fs,z1,z2,z3.elim .inl fun z=>.inr z.1,fun z=>z4 (.inl z),z5,z6.less fun b z=>z.elim (fun z=>.inl (.inl z)) .inr⟩
 | nx ρ2 =>
  intro σ2 H2 Ob2 R2 f2 sb2
  have e2:ρ2[i]?=some (some (.list ds)):=by rw[hkeep ρ ρ2 eo];exact ed
  have ni':i∉om.filter (fun j=>j != i):=fun z=>((om' i).mp z).2 rfl
  obtain⟨w,qw,zs,fs,z1,z2,z3,z4,z5⟩:=R2.lnt i _ e2 ni' List.mem_cons_self
  have ea:Oc'.la i=a:=if_pos rfl
  rw[ea] at z1 z3 z4
  cases z2
  subst z1
  have na:¬Ob2 a:=fun z=>R2.ap a z (.inr rfl)
  have vc2:∀b,Uni Oc (fun b=>Ob2 b\/b=a) b->Uni Oc' Ob2 b:=fun b z=>z.elim (fun z=>.inl (.inl z)) fun z=>z.elim .inr fun z=>.inl (.inr z)
  refine k σ2 H2 (fun b=>Ob2 b\/b=a) ?_ (fun b o e n=>f2 b o e fun z=>n z.1) fun b z=>z.elim (fun z=>(sb2 b z).elim (fun z=>.inl z.1) .inr) fun z=>.inl (by rw[z];exact e4)
  refine⟨R2.len,fun n d' e h1 h2 => ?_,fun n d' e h1 => ?_,fun n d' e h1 h2 => ?_,fun n k dn dk b en ek hn hk qn qk => ?_,fun b z=>R2.oh b (vc2 b z),fun b z => ?_⟩
  ·have ni:n≠i:=fun z=>h1 (by rw[z];exact io)
   obtain⟨w,q,k⟩:=R2.val n d' e (fun z=>h1 ((om' n).mp z).1) fun z=>(List.mem_cons.mp z).elim ni h2
   exact⟨w,q,k.less vc2⟩
  ·by_cases ni:n=i
   ·subst ni
    rw[e2] at e
    cases e
    exact⟨_,qw,a,zs,ds,rfl,rfl,z3,.inr rfl,z5.less vc2⟩
   ·obtain⟨w,q,b,xs,gs,y1,y2,y3,y4,y5⟩:=R2.own n d' e ((om' n).mpr ⟨h1,ni⟩)
    exact⟨w,q,b,xs,gs,y1,y2,y3,.inl y4,y5.less vc2⟩
  ·exact nomatch h2
  ·by_cases hn':n=i
   ·by_cases hk':k=i
    ·rw[hn',hk']
    ·subst hn'
     rw[qw] at qn
     cases qn
     obtain⟨w,q,b,xs,gs,y1,y2,y3,y4,y5⟩:=R2.own k dk ek ((om' k).mpr ⟨hk,hk'⟩)
     rw[qk] at q
     cases q
     cases y1
     exact absurd y4 na
   ·by_cases hk':k=i
    ·subst hk'
     rw[qw] at qk
     cases qk
     obtain⟨w,q,b,xs,gs,y1,y2,y3,y4,y5⟩:=R2.own n dn en ((om' n).mpr ⟨hn,hn'⟩)
     rw[qn] at q
     cases q
     cases y1
     exact absurd y4 na
    ·exact R2.inj n k dn dk b en ek ((om' n).mpr ⟨hn,hn'⟩) ((om' k).mpr ⟨hk,hk'⟩) qn qk
  ·rcases z with z | rfl
   ·exact fun z'=>R2.ap b z (.inl z')
   ·exact R.ap b e4
end
end L2.L3
namespace L2
open PySem PySem.Spec PyProof.Rows
structure Has (K:KFr) (mg:Str->Option Value) (x:Str) (st:Stmt) (f:Addr) (fd:FuncData) (ps:List Str):Prop where
 F:Fun K x x st f fd
 b:Binds K fd ps []
 m:mg x=some (.ref f)
theorem zA {K:KFr}{h:Heap}{mg:Str->Option Value}{x:Str}{st:Stmt}{f:Addr}{oc:Value}{od an:Option Addr}{osl:Array (Option Value)}{kV doc pm cdv ct:Value}{ps:List Str}(X:K.In h) (G:h.Ns mainGlobals mg)
  (a:PySem.W.nsIn K mainGlobals x=some (some (.ref f))) (l:K.lookup f=some ⟨oc,od,.func (PySem.W.fnOf x x (defArgs st) (defBody st) (zW st) .none kV doc pm an cdv ct),osl⟩)
  (c:PySem.W.codeIn K cdv x=true) (k:PySem.W.keepIn K (.ref f)=true)
  (hb:∀(kV doc pm:Value) (an:Option Addr) (cdv ct:Value) (us:List Value),us.length=ps.length->bindArgs (PySem.W.fnOf x x (defArgs st) (defBody st) (zW st) .none kV doc pm an cdv ct) ⟨us,[]⟩=pure (ps.zip us)) :
  Has K mg x st f (PySem.W.fnOf x x (defArgs st) (defBody st) (zW st) .none kV doc pm an cdv ct) ps :=
 have F:=yD5 (st:=st) l c k
 ⟨F,F.binds hb,PySem.W.mg_of X G a⟩
end L2
namespace L2.L3
open PySem PySem.Spec PyProof.Rows
variable [CN]
def CallOk:Bool->(Addr->Prop)->Hp->Hp->V->D->Prop
 | true,O,H,H',v,d=>∃a ys ds,v=.ref a/\d=.list ds/\H a=none/\H' a=some (.lst ys)/\Reps H' (fun b=>O b\/b=a) ys ds
 | false,O,_,H',v,d=>Rep H' O v d
def spF (fr:Bool) (F:List D->Res D):Sp:=fun vs H Q _=>∃(ds:List D) (O:Addr->Prop),(∀a,O a->H a≠none)/\Reps H O vs ds/\(F ds).post (fun d=>∀v H',Same H H'->CallOk fr O H H' v d->Q v H') (fun _=>False)
def fin (fr:Bool):Out->Res D
 | .rt d=>.ok d
 | .nx _=>if fr then .no else .ok .none
def runF (fr:Bool) (p n:Nat) (m:Ev->Res Out):List D->Res D:=fun ds=>if ds.length=p then (m (ds.map some++List.replicate (n-p) none)).bind (fin fr) else .no
theorem xR {α:Type}{ds:List α}{k i:Nat}{d:α}(h:(ds.map some++List.replicate k none)[i]?=some (some d)):ds[i]?=some d:=by
 by_cases hi:i<ds.length
 ·rw[List.getElem?_append_left (by simpa using hi),List.getElem?_map] at h
  cases e:ds[i]? with
  | none=>rw[e] at h;cases h
  | some z=>rw[e] at h;cases h;rfl
 ·rw[List.getElem?_append_right (by simpa using hi),List.getElem?_replicate] at h
  split at h <;> cases h
theorem dL {α:Type}{ds:List α}{k i:Nat}{d:α}(h:ds[i]?=some d):(ds.map some++List.replicate k none)[i]?=some (some d):=by
 have hi:=(List.getElem?_eq_some_iff.mp h).1
 rw[List.getElem?_append_left (by simpa using hi),List.getElem?_map,h]
 rfl
section
variable {P:Program}{w:World}{K:KFr}{mg:Str->Option Value}{base:Heap}
abbrev bodyCt (P:Program) (w:World) (K:KFr) (mg:Str->Option Value) (base:Heap) (N:List Str) (x:Str) (sc:Scope) (f:Addr) (cdv:Value) (A:Around) (outer:List Env) (s:Shared) (H:Hp) (E:XK) (om:List Nat):Ct :=
 ⟨(cxOf CX0 P w K mg base N x sc f cdv A outer s H E).nox,fun _ _=>False,om,[]⟩
theorem yO5 {x:Str}{st:Stmt}{f:Addr}{fd:FuncData}{N ps:List Str}{k:Nat}{m:Ev->Res Out}{fr:Bool}(om:List Nat) (F:Fun K x x st f fd) (S:zI N ps (zW st))
  (hbody:∀(cdv:Value) (A:Around) (outer:List Env) (s:Shared) (H:Hp) (E:XK),Room k (A.deeper (envOfC x (zW st) s.heap.objs.size f cdv))->RSs (bodyCt P w K mg base N x (zW st) f cdv A outer s H E om) fr (defBody st) m)
  (hom:autoParam (om.all (fun i=>decide (ps.length<=i))=true) zY._auto_1) :
  FnOk P w K mg base CX0 (k+1) f fd ps (spF fr (runF fr ps.length N.length m)):=by
 have len:∀(vs:List V) (H:Hp) (Q:VK) (E:XK),spF fr (runF fr ps.length N.length m) vs H Q E->vs.length=ps.length:=fun vs H Q E h=>by
  obtain⟨ds,O,oh,r,k⟩:=h
  unfold runF at k
  split at k
  ·rename_i hl
   rw[r.length];exact hl
  ·exact k.elim
 refine F.ok S len fun cdv A outer s H vs Q E hr h => ?_
 have hvl:=len vs H Q E h
 obtain⟨ds,O,oh,r,k⟩:=h
 have hl:ds.length=ps.length:=by rw[<-r.length];exact hvl
 unfold runF at k
 rw[if_pos hl] at k
 obtain⟨t,p,q⟩:=hbody cdv A outer s H E hr
 refine⟨t,p,q ⟨O,fun _=>0⟩ (fun _=>False) _ H (ds.map some++List.replicate (N.length-ps.length) none) _ ?_ ?_⟩
 ·refine⟨?_,fun i d e _ _ => ?_,fun i d e ho => ?_,fun i d e _ hl=>(nomatch hl),fun i j di dj a ei _ ho _ _ _ => ?_,fun a z=>oh a (z.elim id fun z=>z.elim),fun a z=>z.elim⟩
  ·unfold start
   rw[List.length_append,List.length_append,List.length_map,List.length_map,List.length_replicate,List.length_replicate,hvl,hl]
  ·obtain⟨v,ev,rv⟩:=r.get (xR e)
   exact⟨v,dL ev,rv.less fun b z=>z.elim id fun z=>z.elim⟩
  ·have h1:=(List.getElem?_eq_some_iff.mp (xR e)).1
   have h2:ps.length<=i:=of_decide_eq_true (List.all_eq_true.mp hom i ho)
   bv_omega
  ·have h1:=(List.getElem?_eq_some_iff.mp (xR ei)).1
   have h2:ps.length<=i:=of_decide_eq_true (List.all_eq_true.mp hom i ho)
   bv_omega
 ·refine Res.zR (Res.zV k) (fun o _ k => ?_) fun c z=>z.elim
  have same:∀{H':Hp},Frm (fun _=>False) H H'->Same H H':=fun f b o e=>f b o e fun z=>z
  cases o with
  | rt d =>
   intro v H' f rt
   refine k v H' (same f) ?_
   cases fr with
   | false=>exact rt
   | true =>
    obtain⟨a,ys,ds,e1,e2,e3,e4,e5,e6⟩:=rt
    exact⟨a,ys,ds,e1,e2,e3.elim id fun z=>z.elim,e5,e6⟩
  | nx ρ' =>
   cases fr with
   | true=>exact k.elim
   | false=>exact fun σ' H' Ob' R f s=>k .non H' (same f) Rep.non
end
def mdF (fr:Bool):Md:=if fr then .new else .cl
def eF (F:List D->Res D) (m:Ev->Res (List D)):Ev->Res D:=fun ρ=>(m ρ).bind F
section
variable {C:Ct}{k:Nat}{f:Addr}{fd:FuncData}{ps:List Str}{fr:Bool}{F:List D->Res D}{x:Str}{p pos:Pos}{e:Expr}{es:List Expr}{ms:Ev->Res (List D)}{st:Stmt}
end
mutual
def lf:D->Bool
 | .list _=>false
 | .dict _=>false
 | .tuple ds=>lfs ds
 | _=>true
def lfs:List D->Bool
 | []=>true
 | d::ds=>lf d&&lfs ds
end
mutual
theorem Rep.lf {H:Hp}{U:Addr->Prop}{B:Addr->Prop}(hB:∀b,B b->∃ys,H b=some (.lst ys)):∀{v:V}{d:D},Rep H (fun b=>U b/\¬B b) v d->L3.lf d=true->Rep H U v d
 | _,_,.non,_=>.non
 | _,_,.bl b,_=>.bl b
 | _,_,.int i,_=>.int i
 | _,_,.str x,_=>.str x
 | _,_,.lst r n t,h=>by simp[L3.lf] at h
 | _,_,.exc r n,h=>by simp[L3.lf] at h
 | _,_,@Rep.tup _ _ _ a _ _ r n t,h=>.tup r (fun z=>by
   by_cases hb:B a
   ·obtain⟨ys,e⟩:=hB _ hb
    rcases r with r | ⟨o,r⟩ <;> (rw[r] at e;cases e)
   ·exact n ⟨z,hb⟩) (Reps.lf hB t (by simpa [L3.lf] using h))
theorem Reps.lf {H:Hp}{U:Addr->Prop}{B:Addr->Prop}(hB:∀b,B b->∃ys,H b=some (.lst ys)):∀{vs:List V}{ds:List D},Reps H (fun b=>U b/\¬B b) vs ds->lfs ds=true->Reps H U vs ds
 | _,_,.nil,_=>.nil
 | _,_,.cons r t,h=>by
  rw[lfs,Bool.and_eq_true] at h
  exact .cons (Rep.lf hB r h.1) (Reps.lf hB t h.2)
end
def lfT:Bool->D->Bool
 | true,.list ds=>lfs ds
 | _,d=>lf d
def eFA (fr:Bool) (F:List D->Res D) (m:Ev->Res (List D)):Ev->Res D:=fun ρ=>(m ρ).bind fun ds=>(F ds).bind fun d=>if lfT fr d then .ok d else .no
theorem VAs.lent {Oc:Wd}{Ob:Addr->Prop}{H:Hp}:∀{vs:List V}{ds:List D},VAs Oc Ob H vs ds->Reps H (fun b=>Uni Oc Ob b/\¬∃ys,H b=some (.lst ys)) vs ds
 | _,_,.nil=>.nil
 | _,_,.cons h t=>.cons (by
   rcases h with h | ⟨a,ys,ds,rfl,rfl,e3,e5⟩
   ·exact h.less fun b z=>z.1
   ·exact .lst (.inl e3) (fun z=>z.2 ⟨ys,e3⟩) (e5.less fun b z=>z.1)) (VAs.lent t)
def i2 (f:Int->Int->Option Int):D->D->Option D
 | .int i,.int j=>(f i j).map PyData.int
 | _,_=>none
theorem zO4 {f:Int->Int->Option Int}{x y d:D}(h:i2 f x y=some d):∃i j k,x=.int i/\y=.int j/\f i j=some k/\d=.int k:=by
 cases x with
 | int i =>
  cases y with
  | int j =>
   obtain⟨k,e,rfl⟩:=Option.map_eq_some_iff.mp (show (f i j).map PyData.int=some d from h)
   exact⟨i,j,k,rfl,rfl,e,rfl⟩
  | _=>cases h
 | _=>cases h
theorem yR8 {C:Int->Int->Prop}{g:Int->Int->Int}{f:Int->Int->Option Int}(hf:∀i j k,f i j=some k->C i j/\k=g i j):Pr2 (rI C fun i j=>.int (g i j)) .cl (i2 f):=by
 intro Oc Ob H x y dx dy d Q oh vx vy e k
 obtain⟨i,j,n,rfl,rfl,ef,rfl⟩:=zO4 e
 obtain⟨hc,rfl⟩:=hf i j n ef
 exact⟨i,j,vx.int,vy.int,hc,k _ H (Same.refl H) (Rep.int _)⟩
theorem yO6 {g:Int->Int->Int}:Pr2 (rI0 fun i j=>.int (g i j)) .cl (i2 fun i j=>some (g i j)):=by
 intro Oc Ob H x y dx dy d Q oh vx vy e k
 obtain⟨i,j,n,rfl,rfl,ef,rfl⟩:=zO4 e
 cases ef
 exact⟨i,j,vx.int,vy.int,k _ H (Same.refl H) (Rep.int _)⟩
abbrev addI:D->D->Option D:=i2 fun i j=>some (i+j)
abbrev subI:D->D->Option D:=i2 fun i j=>some (i-j)
def DivOk (j:Int):Prop:=0<j/\j.natAbs.log2<9000
instance (j:Int):Decidable (DivOk j):=by unfold DivOk;infer_instance
def fdivO (i j:Int):Option Int:=if DivOk j then some (i / j) else none
def modO (i j:Int):Option Int:=if 0<j then some (i%j) else none
def powO (i j:Int):Option Int:=if 0<=j/\j<=1000000/\i.natAbs<2 ^ 64 then some (i ^ j.toNat) else none
abbrev fdivI:D->D->Option D:=i2 fdivO
abbrev modI:D->D->Option D:=i2 modO
abbrev powI:D->D->Option D:=i2 powO
section
variable {X:Cx}
theorem kY:OpR X (binaryOp .FloorDiv) (rI (fun _ j=>DivOk j) fun i j=>.int (i / j)):=opI fun i j _ _ _ _ _ hc q=>by
 refine floordiv_int (by have:=hc.1;bv_omega) ?_ (.inl (PyProof.noPylong_of_log2 hc.2))
 rw[Int.fdiv_eq_ediv_of_nonneg _ (by have:=hc.1;bv_omega)]
 exact q
end
theorem zH3 {i j k:Int}(h:fdivO i j=some k):DivOk j/\k=i / j:=by
 unfold fdivO at h
 split at h
 ·cases h;exact⟨by assumption,rfl⟩
 ·cases h
theorem zD6 {i j k:Int}(h:modO i j=some k):0<j/\k=i%j:=by
 unfold modO at h
 split at h
 ·cases h;exact⟨by assumption,rfl⟩
 ·cases h
theorem zA4 {i j k:Int}(h:powO i j=some k):CPow i j/\k=i ^ j.toNat:=by
 unfold powO at h
 split at h
 ·cases h;exact⟨by assumption,rfl⟩
 ·cases h
theorem DivOk.small {j:Int}(h:0<j) (h2:j<1073741824):DivOk j:=by
 refine⟨h,?_⟩
 have h30:j.natAbs.log2<30:=(Nat.log2_lt (by bv_omega)).mpr (by bv_omega)
 bv_omega
theorem qC:Pr2 (rI0 fun i j=>.int (i+j)) .cl addI:=yO6
theorem zU3:Pr2 (rI0 fun i j=>.int (i-j)) .cl subI:=yO6
theorem aS:Pr2 (rI (fun _ j=>DivOk j) fun i j=>.int (i / j)) .cl fdivI:=yR8 fun _ _ _ h=>zH3 h
theorem qB:Pr2 (rI (fun _ j=>0<j) fun i j=>.int (i%j)) .cl modI:=yR8 fun _ _ _ h=>zD6 h
theorem xY9:Pr2 (rI CPow fun i j=>.int (i ^ j.toNat)) .cl powI:=yR8 fun _ _ _ h=>zA4 h
def c2 (f:Int->Int->Bool):D->D->Option Bool
 | .int i,.int j=>some (f i j)
 | _,_=>none
theorem yQ5 {f:Int->Int->Bool}:PrB (rI0 fun i j=>.bl (f i j)) (c2 f):=by
 intro Oc Ob H x y dx dy b Q vx vy e k
 cases dx with
 | int i =>
  cases dy with
  | int j =>
   cases e
   exact⟨_,_,vx.int,vy.int,k⟩
  | _=>cases e
 | _=>cases e
abbrev ltI:D->D->Option Bool:=c2 fun i j=>decide (i<j)
abbrev leI:D->D->Option Bool:=c2 fun i j=>decide (i<=j)
abbrev gtI:D->D->Option Bool:=c2 fun i j=>decide (j<i)
theorem yN1:PrB (rI0 fun i j=>.bl (decide (i<j))) ltI:=yQ5
theorem cX:PrB (rI0 fun i j=>.bl (decide (i<=j))) leI:=yQ5
theorem yN3:PrB (rI0 fun i j=>.bl (decide (j<i))) gtI:=yQ5
def eqD (x y:D):Option Bool:=if SeqAt.shaped x=true/\SeqAt.shaped y=true then some (PyData.eqv x y) else none
def neD (x y:D):Option Bool:=if SeqAt.shaped x=true/\SeqAt.shaped y=true then some (!PyData.eqv x y) else none
theorem jO {K:KFr}:PrB (rEqD K false) eqD:=by
 intro Oc Ob H x y dx dy b Q vx vy e k
 unfold eqD at e
 split at e
 ·rename_i h
  cases e
  exact⟨dx,dy,vx.datS h.1,vy.datS h.2,h.1,h.2,k⟩
 ·cases e
theorem fT {K:KFr}:PrB (rEqD K true) neD:=by
 intro Oc Ob H x y dx dy b Q vx vy e k
 unfold neD at e
 split at e
 ·rename_i h
  cases e
  exact⟨dx,dy,vx.datS h.1,vy.datS h.2,h.1,h.2,k⟩
 ·cases e
def isND (neg:Bool):D->D->Option Bool
 | .none,.none=>some (!neg)
 | _,.none=>some neg
 | _,_=>none
theorem xZ3 {Oc:Wd}{Ob:Addr->Prop}{H:Hp}{x:V}{d:D}(h:VA Oc Ob H x d):decide (x=.non)=(match d with | .none=>true | _=>false):=by
 rcases h with h | ⟨a,ys,ds,rfl,rfl,e3,e5⟩
 ·cases h <;> rfl
 ·rfl
theorem yW6:PrB (fun x y H Q=>y=.non/\Q (.bl (!decide (x=.non))) H) (isND true):=by
 intro Oc Ob H x y dx dy b Q vx vy e k
 cases dy with
 | none =>
  refine⟨vy.none,?_⟩
  rw[xZ3 vx]
  cases dx <;> (simp only[isND] at e;cases e;exact k)
 | _=>cases dx <;> cases e
def flD:D->Bool
 | .none=>true
 | .bool _=>true
 | .int _=>true
 | .str _=>true
 | _=>false
def eqF:D->D->Bool
 | .none,.none=>true
 | .bool a,.bool b=>a == b
 | .bool a,.int b=>(if a then 1 else 0) == b
 | .int a,.bool b=>a == (if b then 1 else 0)
 | .int a,.int b=>a == b
 | .str a,.str b=>a == b
 | _,_=>false
theorem dJ {H:Hp}{O:Addr->Prop}{v:V}{d:D}(h:Rep H O v d) (f:flD d=true):flatV v=true:=by
 cases h <;> first | rfl | cases f
theorem yI2 {H:Hp}{O O':Addr->Prop}{v v':V}{d d':D}(h:Rep H O v d) (h':Rep H O' v' d') (f:flD d=true) (f':flD d'=true):eqV v v'=eqF d d':=by
 cases h <;> cases h' <;> first | rfl | cases f | cases f'
theorem fX {H:Hp}{O:Addr->Prop}:∀{vs:List V}{ds:List D},Reps H O vs ds->ds.all flD=true->vs.all flatV=true
 | _,_,.nil,_=>rfl
 | _,_,.cons h t,f=>by
  rw[List.all_cons,Bool.and_eq_true] at f ⊢
  exact⟨dJ h f.1,fX t f.2⟩
theorem dH {H:Hp}{O O':Addr->Prop}{x:V}{dx:D}(hx:Rep H O' x dx) (fx:flD dx=true):∀{vs:List V}{ds:List D},Reps H O vs ds->ds.all flD=true->inV x vs=ds.any fun y=>eqF y dx
 | _,_,.nil,_=>rfl
 | _,_,.cons h t,f=>by
  rw[List.all_cons,Bool.and_eq_true] at f
  have ih:=dH hx fx t f.2
  unfold inV at ih ⊢
  rw[List.any_cons,List.any_cons,ih,yI2 h hx f.1 fx]
def inD (neg:Bool) (x y:D):Option Bool:=(seqD y).bind fun ds=>if flD x=true/\ds.all flD=true then some (if neg then !ds.any (fun z=>eqF z x) else ds.any fun z=>eqF z x) else none
theorem yM1 {Oc:Wd}{Ob:Addr->Prop}{H:Hp}{x:V}{d:D}(h:VA Oc Ob H x d) (f:flD d=true):Rep H (Uni Oc Ob) x d:=by
 rcases h with h | ⟨a,ys,ds,rfl,rfl,e3,e5⟩
 ·exact h
 ·cases f
theorem zG7 {K:KFr}{neg:Bool}:PrB (rIn K neg) (inD neg):=by
 intro Oc Ob H x y dx dy b Q vx vy e k
 unfold inD at e
 obtain⟨ds,e1,e⟩:=Option.bind_eq_some_iff.mp e
 split at e
 ·rename_i h
  cases e
  have rx:=yM1 vx h.1
  cases dy with
  | list ds' =>
   cases e1
   obtain⟨a,ys,rfl,rd,rs⟩:=vy.list
   refine⟨a,ys,rfl,.inl (.inl rd),dJ rx h.1,fX rs h.2,?_⟩
   rw[dH rx h.1 rs h.2]
   exact k
  | tuple ds' =>
   cases e1
   obtain⟨a,ys,rfl,rd,rs⟩:=vy.tuple
   refine⟨a,ys,rfl,.inr (.inl rd),dJ rx h.1,fX rs h.2,?_⟩
   rw[dH rx h.1 rs h.2]
   exact k
  | _=>cases e1
 ·cases e
def ixD:D->D->Option D
 | .list ds,.int i=>atI ds i
 | .tuple ds,.int i=>atI ds i
 | _,_=>none
theorem zS6 {H:Hp}{O:Addr->Prop}{vs:List V}{ds:List D}{i:Int}{d:D}(r:Reps H O vs ds) (h:atI ds i=some d):∃v,atI vs i=some v/\Rep H O v d:=by
 unfold atI at h ⊢
 obtain⟨j,e1,e2⟩:=Option.bind_eq_some_iff.mp h
 obtain⟨v,ev,rv⟩:=r.get e2
 refine⟨v,?_,rv⟩
 rw[r.length,e1]
 exact ev
theorem yB {K:KFr}:Pr2 (rIx K) .cl ixD:=by
 intro Oc Ob H x y dx dy d Q oh vx vy e k
 cases dx with
 | list ds =>
  cases dy with
  | int i =>
   obtain⟨a,ys,rfl,rd,rs⟩:=vx.list
   obtain⟨v,ev,rv⟩:=zS6 rs e
   exact .inl ⟨a,ys,i,v,rfl,vy.int,.inl rd,ev,k v H (Same.refl H) rv⟩
  | _=>cases e
 | tuple ds =>
  cases dy with
  | int i =>
   obtain⟨a,ys,rfl,rd,rs⟩:=vx.tuple
   obtain⟨v,ev,rv⟩:=zS6 rs e
   exact .inr (.inl ⟨a,ys,i,v,rfl,vy.int,.inl rd,ev,k v H (Same.refl H) rv⟩)
  | _=>cases e
 | _=>cases e
def rCatR:R2:=fun x y H Q=>∃l b xs zs,x=.ref l/\y=.ref b/\Rd H l (.lst xs)/\Rd H b (.lst zs)/\xs.length+zs.length<=sizeLine/\∀p,H p=none->Q (.ref p) (upd H p (.lst (xs++zs)))
theorem Rd.lstM {X:Cx}{pins:List (Addr×Obj)}{σ:St}{H:Hp}{s:Shared}{l:Addr}{xs:List V}(I:Inv X pins σ H s) (hH:Rd H l (.lst xs)):xs.length<=sizeLine/\∃(its:List Value) (n:Nat),Vals xs its/\xs.length=its.length/\s.heap.get? l=some { cls:=.type "list",data:=.seq its.toArray n }:=by
 obtain⟨z,its,n,r,e⟩:=hH.ok I.hok
 exact⟨z,its,n,r,r.length,e⟩
section
variable {X:Cx}
theorem fI:OpR X (binaryOp .Add) rCatR:=by
 intro pins s σ H x y v u Q I rx ry h
 obtain⟨l,b,xs,zs,rfl,rfl,hH,hB,hz,q⟩:=h
 cases rx
 cases ry
 obtain⟨z,its,n,r,hl,e⟩:=Rd.lstM I hH
 obtain⟨z2,its2,n2,r2,hl2,e2⟩:=Rd.lstM I hB
 refine PySem.P.add_list e e2 ?_ (by rw[List.size_toArray,List.size_toArray];bv_omega)
 have ea:its.toArray++its2.toArray=(its++its2).toArray:=by simp
 rw[ea]
 exact⟨.ref _,_,I.lnew (t':=s.toks) (r.append r2) (by rw[List.length_append];bv_omega),rfl,q _ I.fresh⟩
def rRepR:R2:=fun x y H Q=>∃l k xs,x=.ref l/\y=.int k/\Rd H l (.lst xs)/\-(2 ^ 63)<=k/\k<2 ^ 63/\xs.length*k.toNat<=sizeLine /\
 ∀p,H p=none->Q (.ref p) (upd H p (.lst (List.replicate k.toNat xs).flatten))
theorem aX:OpR X (binaryOp .Mult) rRepR:=by
 intro pins s σ H x y v u Q I rx ry h
 obtain⟨l,k,xs,rfl,rfl,hH,h1,h2,hz,q⟩:=h
 cases rx
 obtain⟨t,rfl⟩:=ry
 obtain⟨z,its,n,r,hl,e⟩:=Rd.lstM I hH
 have hlen:its.toArray.size*k.toNat<=sizeLine:=by rw[List.size_toArray,<-hl];exact hz
 have hcap:¬its.toArray.size*k.toNat > (2 ^ 63-1) / 8:=by
  have:(sizeLine:Nat)<=(2 ^ 63-1) / 8:=by decide
  bv_omega
 have hfit:¬(!Builtin.List.listFitsIndex k)=true:=by
  rw[fitsIndex_both h1 h2]
  exact Bool.false_ne_true
 have hlong:¬Builtin.List.listTooLong (its.toArray.size*k.toNat)=true:=by
  rw[notLongL hlen]
  exact Bool.false_ne_true
 have hnew:List.foldl (fun x1 x2=>x1++x2) #[] (List.replicate (if its.toArray.isEmpty=true then 0 else k.toNat) its.toArray)=(List.replicate k.toNat its).flatten.toArray:=by
  have f0:∀m:Nat,List.foldl (fun x1 x2=>x1++x2) #[] (List.replicate m its.toArray)=(List.replicate m its).flatten.toArray:=fun m=>by
   have:=gY its m []
   rw[List.nil_append] at this
   exact this
  rw[f0]
  cases its with
  | nil=>simp
  | cons a r'=>rw[if_neg (by simp)]
 refine wpAny_binaryOp_repeat_ref (T:="list") (U:="int") (by decide) ⟨_,e,rfl⟩ (fun s'=>typeIs_int s' k t) noFill_list_mul F.fills_int_mul F.slot_int_rmul repeat_list F.slot_int_index.lookup
  (call_meets F.slot_int_rmul (typeIs_int s k t) F.entry_int_rmul (F.args_int_rmul_2 _ _) (int___rmul___int_list k t l its.toArray n)
   ⟨e,rfl,⟨_,e,rfl⟩,call_meets F.slot_list_mul ⟨_,e,rfl⟩ F.entry_list_mul (F.args_list_mul_2 _ _) (AutoListH.list___mul___list_int_3 l its.toArray n k t hfit hcap hlong) ⟨e,?_⟩⟩)
 rw[hnew]
 exact⟨.ref _,_,I.lnew (t':=s.toks) (r.rep k.toNat) (by rw[zM6,Nat.mul_comm];exact hz),rfl,q _ I.fresh⟩
end
def catL:D->D->Option D
 | .list xs,.list ys=>if xs.length+ys.length<=sizeLine then some (.list (xs++ys)) else none
 | _,_=>none
theorem yY3:Pr2 rCatR .new catL:=by
 intro Oc Ob H x y dx dy d Q oh vx vy e k
 cases dx with
 | list xs =>
  cases dy with
  | list ys =>
   obtain⟨a,vs,rfl,rd,rs⟩:=vx.list
   obtain⟨b,ws,rfl,rd',rs'⟩:=vy.list
   unfold catL at e
   simp only at e
   split at e
   ·rename_i hl
    cases e
    refine⟨a,b,vs,ws,rfl,rfl,rd,rd',by rw[rs.length,rs'.length];exact hl,fun p hp=>k _ _ (Same.new hp) (yA (Same.refl H) hp (rs.append rs'))⟩
   ·cases e
  | _=>cases e
 | _=>cases e
def repL:D->D->Option D
 | .list xs,.int k=>if -(2 ^ 63)<=k/\k<2 ^ 63/\xs.length*k.toNat<=sizeLine then some (.list (List.replicate k.toNat xs).flatten) else none
 | _,_=>none
theorem zV7:Pr2 rRepR .new repL:=by
 intro Oc Ob H x y dx dy d Q oh vx vy e k
 cases dx with
 | list xs =>
  cases dy with
  | int j =>
   obtain⟨a,vs,rfl,rd,rs⟩:=vx.list
   unfold repL at e
   simp only at e
   split at e
   ·rename_i hl
    cases e
    refine⟨a,j,vs,rfl,vy.int,rd,hl.1,hl.2.1,by rw[rs.length];exact hl.2.2,fun p hp=>k _ _ (Same.new hp) (yA (Same.refl H) hp (rs.rep _))⟩
   ·cases e
  | _=>cases e
 | _=>cases e
def lenD:List D->Option D
 | [d]=>(seqD d).map fun ds=>.int ds.length
 | _=>none
theorem xW {K:KFr}:PrC (fun xs H Q=>∃p ys,xs=[.ref p]/\(SqL K H p ys\/SqT K H p ys)/\Q (.int ys.length) H) .cl lenD:=by
 intro Oc Ob H vs ds d Q oh va e k
 cases ds with
 | nil=>cases e
 | cons x xs =>
  cases xs with
  | cons=>cases e
  | nil =>
   obtain⟨v,rfl,vx⟩:=va.one
   obtain⟨es,e1,rfl⟩:=Option.map_eq_some_iff.mp e
   cases x with
   | list ds' =>
    cases e1
    obtain⟨a,ys,rfl,rd,rs⟩:=vx.list
    exact⟨a,ys,rfl,.inl (.inl rd),k _ H (Same.refl H) (by rw[rs.length];exact Rep.int _)⟩
   | tuple ds' =>
    cases e1
    obtain⟨a,ys,rfl,rd,rs⟩:=vx.tuple
    exact⟨a,ys,rfl,.inr (.inl rd),k _ H (Same.refl H) (by rw[rs.length];exact Rep.int _)⟩
   | _=>cases e1
def listD:List D->Option D
 | [d]=>(seqD d).map fun ds=>.list ds
 | _=>none
theorem zO3 {K:KFr}:PrC (fun xs H Q=>∃p ys,xs=[.ref p]/\(SqL K H p ys\/SqT K H p ys)/\∀l,H l=none->Q (.ref l) (upd H l (.lst ys))) .new listD:=by
 intro Oc Ob H vs ds d Q oh va e k
 cases ds with
 | nil=>cases e
 | cons x xs =>
  cases xs with
  | cons=>cases e
  | nil =>
   obtain⟨v,rfl,vx⟩:=va.one
   obtain⟨es,e1,rfl⟩:=Option.map_eq_some_iff.mp e
   cases x with
   | list ds' =>
    cases e1
    obtain⟨a,ys,rfl,rd,rs⟩:=vx.list
    exact⟨a,ys,rfl,.inl (.inl rd),fun l hl=>k _ _ (Same.new hl) (yA (Same.refl H) hl rs)⟩
   | tuple ds' =>
    cases e1
    obtain⟨a,ys,rfl,rd,rs⟩:=vx.tuple
    exact⟨a,ys,rfl,.inr (.inl rd),fun l hl=>k _ _ (Same.new hl) (yA (Same.refl H) hl rs)⟩
   | _=>cases e1
def tupD:List D->Option D
 | [d]=>(seqD d).map fun ds=>.tuple ds
 | _=>none
theorem bY {K:KFr}:PrC (fun xs H Q=>∃p ys,xs=[.ref p]/\((SqL K H p ys/\∀l,H l=none->Q (.ref l) (upd H l (.tup ys)))\/(SqT K H p ys/\Q (.ref p) H))) .cl tupD:=by
 intro Oc Ob H vs ds d Q oh va e k
 cases ds with
 | nil=>cases e
 | cons x xs =>
  cases xs with
  | cons=>cases e
  | nil =>
   obtain⟨v,rfl,vx⟩:=va.one
   obtain⟨es,e1,rfl⟩:=Option.map_eq_some_iff.mp e
   cases x with
   | list ds' =>
    cases e1
    obtain⟨a,ys,rfl,rd,rs⟩:=vx.list
    exact⟨a,ys,rfl,.inl ⟨.inl rd,fun l hl=>k _ _ (Same.new hl) (fP oh hl rs)⟩⟩
   | tuple ds' =>
    cases e1
    rcases vx with vx | ⟨a,ys,ds,rfl,ez,_⟩
    ·cases vx with
     | tup rd n rs=>exact⟨_,_,rfl,.inr ⟨.inl rd,k _ H (Same.refl H) (.tup rd n rs)⟩⟩
    ·cases ez
   | _=>cases e1
def intsOf:List D->Option (List Int)
 | []=>some []
 | .int i::ds=>(intsOf ds).map (i :: ·)
 | _::_=>none
@[simp] theorem intsOf_map:∀ns:List Int,intsOf (ns.map PyData.int)=some ns
 | []=>rfl
 | n::ns=>by rw[List.map_cons,intsOf,intsOf_map ns];rfl
theorem xL:∀{ds:List D}{ns:List Int},intsOf ds=some ns->ds=ns.map PyData.int
 | [],ns,h=>by cases h;rfl
 | d::ds,ns,h=>by
  cases d with
  | int i =>
   obtain⟨ms,e,rfl⟩:=Option.map_eq_some_iff.mp (show (intsOf ds).map (i :: ·)=some ns from h)
   rw[xL e];rfl
  | _=>cases h
def boolsOf:List D->Option (List Bool)
 | []=>some []
 | .bool i::ds=>(boolsOf ds).map (i :: ·)
 | _::_=>none
@[simp] theorem boolsOf_map:∀ns:List Bool,boolsOf (ns.map PyData.bool)=some ns
 | []=>rfl
 | n::ns=>by rw[List.map_cons,boolsOf,boolsOf_map ns];rfl
theorem fV:∀{ds:List D}{ns:List Bool},boolsOf ds=some ns->ds=ns.map PyData.bool
 | [],ns,h=>by cases h;rfl
 | d::ds,ns,h=>by
  cases d with
  | bool i =>
   obtain⟨ms,e,rfl⟩:=Option.map_eq_some_iff.mp (show (boolsOf ds).map (i :: ·)=some ns from h)
   rw[fV e];rfl
  | _=>cases h
def nsD (d:D):Option (List Int):=(seqD d).bind intsOf
theorem zX8 {K:KFr}{Oc:Wd}{Ob:Addr->Prop}{H:Hp}{x:V}{d:D}{ns:List Int}(h:VA Oc Ob H x d) (e:nsD d=some ns):∃p,x=.ref p/\(SqL K H p (ns.map V.int)\/SqT K H p (ns.map V.int)):=by
 obtain⟨ds,e1,e2⟩:=Option.bind_eq_some_iff.mp e
 obtain rfl:=xL e2
 cases d with
 | list ds' =>
  cases e1
  obtain⟨a,ys,rfl,rd,rs⟩:=h.list
  rw[rs.ints] at rd
  exact⟨a,rfl,.inl (.inl rd)⟩
 | tuple ds' =>
  cases e1
  obtain⟨a,ys,rfl,rd,rs⟩:=h.tuple
  rw[rs.ints] at rd
  exact⟨a,rfl,.inr (.inl rd)⟩
 | _=>cases e1
def sumD:List D->Option D
 | [.list ds]=>(intsOf ds).map fun ns=>.int ns.sum
 | _=>none
theorem xY7 {K:KFr}:PrC (fun xs H Q=>∃(p:Addr) (ns:List Int),xs=[.ref p]/\SqL K H p (ns.map V.int)/\Q (.int ns.sum) H) .cl sumD:=by
 intro Oc Ob H vs ds d Q oh va e k
 unfold sumD at e
 split at e
 ·obtain⟨ns,e1,rfl⟩:=Option.map_eq_some_iff.mp e
  obtain⟨v,rfl,vx⟩:=va.one
  obtain⟨a,ys,rfl,rd,rs⟩:=vx.list
  rw[xL e1] at rs
  rw[rs.ints] at rd
  exact⟨a,ns,rfl,.inl rd,k _ H (Same.refl H) (Rep.int _)⟩
 ·cases e
def sortI (ns:List Int):List Int:=ns.mergeSort (fun a b=>decide (a<=b))
theorem kE (ns:List Int):(sortI ns).Perm ns:=List.mergeSort_perm _ _
theorem hG (ns:List Int):(sortI ns).Pairwise (· <= ·):=by
 have:=List.pairwise_mergeSort (le:=fun a b:Int=>decide (a<=b)) (fun a b c h1 h2=>by simp at *;bv_omega) (fun a b=>by simp;bv_omega) ns
 exact this.imp fun h=>by simpa using h
theorem zI2 {as bs:List Int}(p:as.Perm bs) (ha:as.Pairwise (· <= ·)) (hb:bs.Pairwise (· <= ·)):as=bs:=by
 induction as generalizing bs with
 | nil=>exact (List.nil_perm.mp p).symm
 | cons a as ih =>
  cases bs with
  | nil=>exact absurd p.symm (by intro h;have:=h.length_eq;simp at this)
  | cons b bs =>
   have h1:a<=b:=by
    have:b∈a::as:=p.symm.subset List.mem_cons_self
    rcases List.mem_cons.mp this with z | z
    ·bv_omega
    ·exact (List.pairwise_cons.mp ha).1 b z
   have h2:b<=a:=by
    have:a∈b::bs:=p.subset List.mem_cons_self
    rcases List.mem_cons.mp this with z | z
    ·bv_omega
    ·exact (List.pairwise_cons.mp hb).1 a z
   have e:a=b:=by bv_omega
   subst e
   rw[ih (List.Perm.cons_inv p) (List.pairwise_cons.mp ha).2 (List.pairwise_cons.mp hb).2]
def sortD:List D->Option D
 | [d]=>(nsD d).bind fun ns=>if ns.length<64 then some (.list ((sortI ns).map PyData.int)) else none
 | _=>none
theorem zP3 {K:KFr}:PrC (fun xs H Q=>∃(p:Addr) (ns:List Int),xs=[.ref p]/\(SqL K H p (ns.map V.int)\/SqT K H p (ns.map V.int))/\ns.length<64 /\
  ∀(l:Addr) (ms:List Int),H l=none->ms.Perm ns->ms.Pairwise (· <= ·)->Q (.ref l) (upd H l (.lst (ms.map V.int)))) .new sortD:=by
 intro Oc Ob H vs ds d Q oh va e k
 unfold sortD at e
 split at e
 ·obtain⟨ns,e1,e⟩:=Option.bind_eq_some_iff.mp e
  split at e
  ·rename_i hl
   cases e
   obtain⟨v,rfl,vx⟩:=va.one
   obtain⟨p,rfl,hq⟩:=zX8 vx e1
   refine⟨p,ns,rfl,hq,hl,fun l ms hp h1 h2 => ?_⟩
   have:ms=sortI ns:=zI2 (h1.trans (kE ns).symm) h2 (hG ns)
   subst this
   exact k _ _ (Same.new hp) (yA (Same.refl H) hp (uL _))
  ·cases e
 ·cases e
def allD:List D->Option D
 | [.list ds]=>(boolsOf ds).map fun bs=>.bool (bs.all id)
 | _=>none
theorem yZ2 {K:KFr}:PrC (fun xs H Q=>∃(p:Addr) (bs:List Bool),xs=[.ref p]/\SqL K H p (bs.map V.bl)/\Q (.bl (bs.all id)) H) .cl allD:=by
 intro Oc Ob H vs ds d Q oh va e k
 unfold allD at e
 split at e
 ·obtain⟨ns,e1,rfl⟩:=Option.map_eq_some_iff.mp e
  obtain⟨v,rfl,vx⟩:=va.one
  obtain⟨a,ys,rfl,rd,rs⟩:=vx.list
  rw[fV e1] at rs
  rw[rs.bools] at rd
  exact⟨a,ns,rfl,.inl rd,k _ H (Same.refl H) (Rep.bl _)⟩
 ·cases e
def max2D:List D->Option D
 | [.int i,.int j]=>some (.int (if j > i then j else i))
 | _=>none
theorem yG7:PrC (fun xs H Q=>∃i j,xs=[.int i,.int j]/\Q (.int (if j > i then j else i)) H) .cl max2D:=by
 intro Oc Ob H vs ds d Q oh va e k
 unfold max2D at e
 split at e
 ·cases e
  obtain⟨v,v',rfl,vx,vy⟩:=va.two
  obtain rfl:=vx.int
  obtain rfl:=vy.int
  exact⟨_,_,rfl,k _ H (Same.refl H) (Rep.int _)⟩
 ·cases e
def tyD:D->String
 | .none=>"NoneType"
 | .bool _=>"bool"
 | .int _=>"int"
 | .str _=>"str"
 | .list _=>"list"
 | .tuple _=>"tuple"
 | .dict _=>"dict"
def subTy (t T:String):Bool:=t == T || (t == "bool"&&T == "int")
structure Kit (K:KFr) (T:String):Prop where
 non:PySem.W.kitOne K (.type "NoneType") (.type T)=some (subTy "NoneType" T)
 bl:PySem.W.kitOne K (.type "bool") (.type T)=some (subTy "bool" T)
 int:PySem.W.kitOne K (.type "int") (.type T)=some (subTy "int" T)
 str:PySem.W.kitOne K (.type "str") (.type T)=some (subTy "str" T)
 lst:PySem.W.kitOne K (.type "list") (.type T)=some (subTy "list" T)
 tup:PySem.W.kitOne K (.type "tuple") (.type T)=some (subTy "tuple" T)
def TyR (K:KFr) (H:Hp) (x:V) (t:Value):Prop:=TyOf K H x t\/∃a xs,x=.ref a/\Rd H a (.tup xs)/\t=.type "tuple"
section
variable {X:Cx}
theorem zE6:CallR X (.builtin "isinstance") (fun vs H Q=>∃x c cv t b,vs=[x,c]/\clsV c=some cv/\TyR X.K H x t/\PySem.W.kitOne X.K t cv=some b/\Q (.bl b) H):=by
 intro pins s σ H xs us Q I r h
 obtain⟨x,c,cv,t,b,rfl,ec,ty,k,q⟩:=h
 obtain⟨u,w',rfl,ru,rw'⟩:=vals2 r
 obtain rfl:=zW6 rw' ec
 rcases ty with ty | ⟨a,xs,rfl,rd,rfl⟩
 ·exact zB3 I ru ty k fun tk=>⟨.bl b,H,I.tok tk,rfl,q⟩
 ·cases ru
  obtain⟨_,_,_,p⟩:=rd.ok I.hok
  obtain⟨o,h1,h2,_⟩:=p
  exact PySem.W.kia_one PySem.W.kitx_tuple I.kIn ⟨o,h1,h2⟩ k (fun z=>nomatch z) fun tk=>⟨.bl b,H,I.tok tk,rfl,q⟩
end
def isiD (T:String):D->Option D
 | .dict _=>none
 | d=>some (.bool (subTy (tyD d) T))
theorem zC1 {T:String}{d r:D}(h:isiD T d=some r):(∀k,d ≠ .dict k)/\r=.bool (subTy (tyD d) T):=by
 cases d <;> first | (cases h;done) | (cases h;exact⟨(fun k z=>nomatch z),rfl⟩)
theorem xR9 {K:KFr}{Oc:Wd}{Ob:Addr->Prop}{H:Hp}{x:V}{d:D}{T:String}(h:VA Oc Ob H x d) (k:Kit K T) (nd:∀k,d ≠ .dict k):∃t,TyR K H x t/\PySem.W.kitOne K t (.type T)=some (subTy (tyD d) T):=by
 rcases h with h | ⟨a,ys,ds,rfl,rfl,e3,e5⟩
 ·cases h with
  | non=>exact⟨_,.inl .non,k.non⟩
  | bl b=>exact⟨_,.inl (.bl b),k.bl⟩
  | int i=>exact⟨_,.inl (.int i),k.int⟩
  | str x=>exact⟨_,.inl (.str x),k.str⟩
  | lst r n t =>
   rcases r with r | ⟨o,r⟩
   ·exact⟨_,.inl (.lst r),k.lst⟩
   ·exact⟨_,.inl (.frz r),k.lst⟩
  | tup r n t=>exact⟨_,.inr ⟨_,_,rfl,r,rfl⟩,k.tup⟩
  | exc r n=>exact absurd rfl (nd _)
 ·exact⟨_,.inl (.lst e3),k.lst⟩
theorem gO {C:Ct}{e:Expr}{T:String}{x:Str}{p p2 pos:Pos}{md:Md}{me:Ev->Res D}(k:Kit C.X.K T) (hm:C.X.mg "isinstance" = none) (hx:C.X.mg x=none) (hv:bootBuiltins x=some (.type T)) (he:RE C md e me) (hg:autoParam (Gl C.X "isinstance") zY._auto_1) (hgx:autoParam (Gl C.X x) zY._auto_1) (hn:autoParam (x ≠ "__name__") zK._auto_1) (hdb:autoParam ((x == ("__debug__":Str))=false) zK._auto_1)
  (hs1:autoParam (starEach [e,.Name x p2] C.X.env=(false,eval e C.X.env)::starEach [.Name x p2] C.X.env) zY._auto_1) (hs2:autoParam (starEach [.Name x p2] C.X.env=(false,eval (.Name x p2) C.X.env)::starEach [] C.X.env) zY._auto_1) (hpl:autoParam ((backTo pos (starEach [.Name x p2] C.X.env)).any (·.1)=false) zY._auto_1) :
  RE C .cl (.Call (.Name "isinstance" p) [e,.Name x p2] [] pos) (e1 (isiD T) me):=by
 obtain⟨t,pe,q⟩:=he
 refine⟨_,wW zE6 hg hm PyProof.Rows.boot_isinstance (zU pe (zU (zP4 (v:=.ty T) hgx hx hv rfl hn hdb) zO hs2) hs1) (by decide) (by decide) hs1 hpl,fun Oc Ob σ H ρ Q R h=>q Oc Ob σ H ρ _ R (Res.zR (Res.zV h) (fun d _ kk v H' s r => ?_) fun _ z=>z)⟩
 obtain⟨dd,ed,kk⟩:=Res.zG kk
 obtain⟨nd,rfl⟩:=zC1 ed
 obtain⟨tt,ty,kt⟩:=xR9 (r.va R.oh) k nd
 exact⟨v,.ty T,.type T,tt,_,rfl,rfl,ty,kt,kk _ H' s (Rep.bl _)⟩
theorem zZ9 {s:Shared}{J:Addr}{hp h':Heap}(keep:∀b o,s.heap.get? b=some o->b≠J/\hp.get? b=some o) (hk:∀b o,b ∉ [J]->hp.get? b=some o->h'.get? b=some o):∀b o,s.heap.get? b=some o->h'.get? b=some o :=
 fun b o e=>hk b o (by simpa using (keep b o e).1) (keep b o e).2
theorem jP (xs:Array (Int×Tok)):(intItems xs).size=xs.size:=by simp[intItems]
section
variable {prog:Program}{w:World}{A:Around}{E:Value->Shared->Prop}{s:Shared}{l:Addr}{xs:Array (Int×Tok)}{Q:Value->Shared->Prop}
theorem yI6 (hh:A.handled=none) (hl:s.heap.IsTuple l (intItems xs)) (ne:0<xs.size)
  (k:∀v h' tk,(intItems xs)[argBest (fun i j=>decide (numAt xs i<numAt xs j)) (xs.size-1)]?=some v->(∀b o,s.heap.get? b=some o->h'.get? b=some o)->Q v { s with heap:=h',toks:=tk }):wpAny (model prog w) A (call (.builtin "min") [.ref l]) Q E s :=
 call_min_walk (zW4 (A:=A.in1) hh hl fun J hp St W st a b keep=>⟨_,_,_,_,_,_,_,rfl,W,st,by simp[a,b],by rw[jP];exact ne,.ints_lt (numAt xs) (fun _ _=>intItems_at),fun v h' tk at_ hk=>k v h' tk (by rw[jP] at at_;exact at_) (zZ9 keep hk)⟩)
theorem yN8 (hh:A.handled=none) (hl:s.heap.IsTuple l (intItems xs)) (ne:0<xs.size)
  (k:∀v h' tk,(intItems xs)[argBest (fun i j=>decide (numAt xs i > numAt xs j)) (xs.size-1)]?=some v->(∀b o,s.heap.get? b=some o->h'.get? b=some o)->Q v { s with heap:=h',toks:=tk }):wpAny (model prog w) A (call (.builtin "max") [.ref l]) Q E s :=
 call_max_walk (zW4 (A:=A.in1) hh hl fun J hp St W st a b keep=>⟨_,_,_,_,_,_,_,rfl,W,st,by simp[a,b],by rw[jP];exact ne,.ints_gt (numAt xs) (fun _ _=>intItems_at),fun v h' tk at_ hk=>k v h' tk (by rw[jP] at at_;exact at_) (zZ9 keep hk)⟩)
end
def minL:List Int->Int
 | []=>0
 | n::ns=>ns.foldl (fun a b=>if b<a then b else a) n
def maxL:List Int->Int
 | []=>0
 | n::ns=>ns.foldl (fun a b=>if b > a then b else a) n
theorem jN:∀(ns:List Int) (n:Int),(ns.foldl (fun a b=>if b<a then b else a) n=n\/ns.foldl (fun a b=>if b<a then b else a) n∈ns)/\ns.foldl (fun a b=>if b<a then b else a) n<=n/\∀m∈ns,ns.foldl (fun a b=>if b<a then b else a) n<=m
 | [],n=>⟨.inl rfl,Int.le_refl _,fun m h=>nomatch h⟩
 | b::ns,n=>by
  obtain⟨h1,h2,h3⟩:=jN ns (if b<n then b else n)
  rw[List.foldl_cons]
  refine⟨?_,?_,fun m hm => ?_⟩
  ·rcases h1 with h1 | h1
   ·rw[h1]
    split
    ·exact .inr List.mem_cons_self
    ·exact .inl rfl
   ·exact .inr (List.mem_cons_of_mem _ h1)
  ·refine Int.le_trans h2 ?_
   split <;> bv_omega
  ·rcases List.mem_cons.mp hm with rfl | hm
   ·refine Int.le_trans h2 ?_
    split <;> bv_omega
   ·exact h3 m hm
theorem jS:∀(ns:List Int) (n:Int),(ns.foldl (fun a b=>if b > a then b else a) n=n\/ns.foldl (fun a b=>if b > a then b else a) n∈ns)/\n<=ns.foldl (fun a b=>if b > a then b else a) n/\∀m∈ns,m<=ns.foldl (fun a b=>if b > a then b else a) n
 | [],n=>⟨.inl rfl,Int.le_refl _,fun m h=>nomatch h⟩
 | b::ns,n=>by
  obtain⟨h1,h2,h3⟩:=jS ns (if b > n then b else n)
  rw[List.foldl_cons]
  refine⟨?_,?_,fun m hm => ?_⟩
  ·rcases h1 with h1 | h1
   ·rw[h1]
    split
    ·exact .inr List.mem_cons_self
    ·exact .inl rfl
   ·exact .inr (List.mem_cons_of_mem _ h1)
  ·refine Int.le_trans ?_ h2
   split <;> bv_omega
  ·rcases List.mem_cons.mp hm with rfl | hm
   ·refine Int.le_trans ?_ h2
    split <;> bv_omega
   ·exact h3 m hm
theorem zT7 {ns:List Int}(h:ns ≠ []):minL ns∈ns:=by
 cases ns with
 | nil=>exact absurd rfl h
 | cons n ns =>
  rcases (jN ns n).1 with e | e
  ·show List.foldl _ n ns∈_
   rw[e];exact List.mem_cons_self
  ·exact List.mem_cons_of_mem _ e
theorem zN3 {ns:List Int}{m:Int}(h:m∈ns):minL ns<=m:=by
 cases ns with
 | nil=>cases h
 | cons n ns =>
  rcases List.mem_cons.mp h with rfl | h
  ·exact (jN ns m).2.1
  ·exact (jN ns n).2.2 m h
theorem zV9 {ns:List Int}(h:ns ≠ []):maxL ns∈ns:=by
 cases ns with
 | nil=>exact absurd rfl h
 | cons n ns =>
  rcases (jS ns n).1 with e | e
  ·show List.foldl _ n ns∈_
   rw[e];exact List.mem_cons_self
  ·exact List.mem_cons_of_mem _ e
theorem zM8 {ns:List Int}{m:Int}(h:m∈ns):m<=maxL ns:=by
 cases ns with
 | nil=>cases h
 | cons n ns =>
  rcases List.mem_cons.mp h with rfl | h
  ·exact (jS ns m).2.1
  ·exact (jS ns n).2.2 m h
theorem zL7 {xs:Array (Int×Tok)}{i:Nat}(h:i<xs.size):numAt xs i∈xs.toList.map (·.1):=by
 rw[numAt_eq]
 exact getD_mem (by simpa using h)
theorem zN2 {xs:Array (Int×Tok)}{a:Int}(h:a∈xs.toList.map (·.1)):∃i,i<xs.size/\a=numAt xs i:=by
 obtain⟨i,hi,e⟩:=mem_getD h
 exact⟨i,by simpa using hi,by rw[numAt_eq,e]⟩
theorem yR5 {xs:Array (Int×Tok)}(h:0<xs.size):numAt xs (argBest (fun i j=>decide (numAt xs i<numAt xs j)) (xs.size-1))=minL (xs.toList.map (·.1)):=by
 have z:=argBest_lt (numAt xs) (xs.size-1)
 have m:=zL7 (xs:=xs) (i:=argBest (fun i j=>decide (numAt xs i<numAt xs j)) (xs.size-1)) (by bv_omega)
 obtain⟨i,hi,e⟩:=zN2 (zT7 (List.ne_nil_of_mem m))
 have:=zN3 m
 have:=z.2 i (by bv_omega)
 bv_omega
theorem yR3 {xs:Array (Int×Tok)}(h:0<xs.size):numAt xs (argBest (fun i j=>decide (numAt xs i > numAt xs j)) (xs.size-1))=maxL (xs.toList.map (·.1)):=by
 have z:=argBest_gt (numAt xs) (xs.size-1)
 have m:=zL7 (xs:=xs) (i:=argBest (fun i j=>decide (numAt xs i > numAt xs j)) (xs.size-1)) (by bv_omega)
 obtain⟨i,hi,e⟩:=zN2 (zV9 (List.ne_nil_of_mem m))
 have:=zM8 m
 have:=z.2 i (by bv_omega)
 bv_omega
section
variable {X:Cx}
theorem yX2 (hc:X.calm=true):CallR X (.builtin "min") (fun xs H Q=>∃(p:Addr) (ns:List Int),xs=[.ref p]/\(SqL X.K H p (ns.map V.int)\/SqT X.K H p (ns.map V.int))/\ns ≠ []/\Q (.int (minL ns)) H):=by
 intro pins s σ H xs us Q I r h
 obtain⟨p,ns,rfl,hq,hne,q⟩:=h
 obtain⟨u,rfl,ru⟩:=vals1 r
 cases ru
 have core:∀(its:List Value),Vals (ns.map V.int) its->∃xs:Array (Int×Tok),its.toArray=intItems xs/\ns=xs.toList.map (·.1):=fun its rv=>by
  have hi:IntsAre its ns:=qV rv
  obtain⟨xs,e⟩:=hi.allInts.items
  exact⟨xs,e,by rw[<-hi.numsOf,<-nums_intItems,<-e]⟩
 have fin:∀(xs:Array (Int×Tok)),ns=xs.toList.map (·.1)->0<xs.size->∀(v:Value) (h':Heap) (tk:Nat),(intItems xs)[argBest (fun i j=>decide (numAt xs i<numAt xs j)) (xs.size-1)]?=some v->(∀b o,s.heap.get? b=some o->h'.get? b=some o)->EP X pins σ Q v { s with heap:=h',toks:=tk }:=fun xs hns hsz v h' tk hv hk=>by
  obtain⟨t,rfl⟩:=intItems_at hv
  have e:=yR5 hsz
  rw[<-hns] at e
  exact⟨.int _,H,I.kept hk,⟨t,by rw[e]⟩,q⟩
 have sz:∀xs:Array (Int×Tok),ns=xs.toList.map (·.1)->0<xs.size:=fun xs hns=>by
  rcases Nat.eq_zero_or_pos xs.size with z | z
  ·exact absurd (by rw[hns,Array.size_eq_zero_iff.mp z];rfl) hne
  ·exact z
 rcases hq with hq | hq
 ·obtain⟨its,rv,pl,hz⟩:=I.list hq
  obtain⟨xs,e,hns⟩:=core its rv
  exact min_intList (I.ok.hd hc) (by rw[<-e];exact pl.isList) (sz xs hns) (fin xs hns (sz xs hns))
 ·obtain⟨its,rv,pl,hz⟩:=I.tuple hq
  obtain⟨xs,e,hns⟩:=core its rv
  exact yI6 (I.ok.hd hc) (by rw[<-e];exact pl) (sz xs hns) (fin xs hns (sz xs hns))
theorem zF7 (hc:X.calm=true):CallR X (.builtin "max") (fun xs H Q=>∃(p:Addr) (ns:List Int),xs=[.ref p]/\(SqL X.K H p (ns.map V.int)\/SqT X.K H p (ns.map V.int))/\ns ≠ []/\Q (.int (maxL ns)) H):=by
 intro pins s σ H xs us Q I r h
 obtain⟨p,ns,rfl,hq,hne,q⟩:=h
 obtain⟨u,rfl,ru⟩:=vals1 r
 cases ru
 have core:∀(its:List Value),Vals (ns.map V.int) its->∃xs:Array (Int×Tok),its.toArray=intItems xs/\ns=xs.toList.map (·.1):=fun its rv=>by
  have hi:IntsAre its ns:=qV rv
  obtain⟨xs,e⟩:=hi.allInts.items
  exact⟨xs,e,by rw[<-hi.numsOf,<-nums_intItems,<-e]⟩
 have fin:∀(xs:Array (Int×Tok)),ns=xs.toList.map (·.1)->0<xs.size->∀(v:Value) (h':Heap) (tk:Nat),(intItems xs)[argBest (fun i j=>decide (numAt xs i > numAt xs j)) (xs.size-1)]?=some v->(∀b o,s.heap.get? b=some o->h'.get? b=some o)->EP X pins σ Q v { s with heap:=h',toks:=tk }:=fun xs hns hsz v h' tk hv hk=>by
  obtain⟨t,rfl⟩:=intItems_at hv
  have e:=yR3 hsz
  rw[<-hns] at e
  exact⟨.int _,H,I.kept hk,⟨t,by rw[e]⟩,q⟩
 have sz:∀xs:Array (Int×Tok),ns=xs.toList.map (·.1)->0<xs.size:=fun xs hns=>by
  rcases Nat.eq_zero_or_pos xs.size with z | z
  ·exact absurd (by rw[hns,Array.size_eq_zero_iff.mp z];rfl) hne
  ·exact z
 rcases hq with hq | hq
 ·obtain⟨its,rv,pl,hz⟩:=I.list hq
  obtain⟨xs,e,hns⟩:=core its rv
  exact max_intList (I.ok.hd hc) (by rw[<-e];exact pl.isList) (sz xs hns) (fin xs hns (sz xs hns))
 ·obtain⟨its,rv,pl,hz⟩:=I.tuple hq
  obtain⟨xs,e,hns⟩:=core its rv
  exact yN8 (I.ok.hd hc) (by rw[<-e];exact pl) (sz xs hns) (fin xs hns (sz xs hns))
end
def min1D:List D->Option D
 | [d]=>(nsD d).bind fun ns=>if ns=[] then none else some (.int (minL ns))
 | _=>none
def max1D:List D->Option D
 | [d]=>(nsD d).bind fun ns=>if ns=[] then none else some (.int (maxL ns))
 | _=>none
theorem yJ7 {K:KFr}:PrC (fun xs H Q=>∃(p:Addr) (ns:List Int),xs=[.ref p]/\(SqL K H p (ns.map V.int)\/SqT K H p (ns.map V.int))/\ns ≠ []/\Q (.int (minL ns)) H) .cl min1D:=by
 intro Oc Ob H vs ds d Q oh va e k
 unfold min1D at e
 split at e
 ·obtain⟨ns,e1,e⟩:=Option.bind_eq_some_iff.mp e
  split at e
  ·cases e
  ·rename_i hl
   cases e
   obtain⟨v,rfl,vx⟩:=va.one
   obtain⟨p,rfl,hq⟩:=zX8 vx e1
   exact⟨p,ns,rfl,hq,hl,k _ H (Same.refl H) (Rep.int _)⟩
 ·cases e
theorem yG1 {K:KFr}:PrC (fun xs H Q=>∃(p:Addr) (ns:List Int),xs=[.ref p]/\(SqL K H p (ns.map V.int)\/SqT K H p (ns.map V.int))/\ns ≠ []/\Q (.int (maxL ns)) H) .cl max1D:=by
 intro Oc Ob H vs ds d Q oh va e k
 unfold max1D at e
 split at e
 ·obtain⟨ns,e1,e⟩:=Option.bind_eq_some_iff.mp e
  split at e
  ·cases e
  ·rename_i hl
   cases e
   obtain⟨v,rfl,vx⟩:=va.one
   obtain⟨p,rfl,hq⟩:=zX8 vx e1
   exact⟨p,ns,rfl,hq,hl,k _ H (Same.refl H) (Rep.int _)⟩
 ·cases e
theorem qY {α β:Type}{F:α->β->Prop}:∀{as:List α}{bs:List β},as.length=bs.length->(∀(i:Nat) a b,as[i]?=some a->bs[i]?=some b->F a b)->Paired F as bs
 | [],[],_,_=>.nil
 | [],_::_,h,_=>by cases h
 | _::_,[],h,_=>by cases h
 | a::as,b::bs,h,f=>.cons (f 0 a b rfl rfl) (qY (Nat.succ.inj h) fun i x y hx hy=>f (i+1) x y (by simpa using hx) (by simpa using hy))
section
variable {X:Cx}
theorem fZ:CallR X (.type "range") (fun xs H Q=>∃j:Int,xs=[.int j]/\∀p,H p=none->Q (.ref p) (upd H p (.rng 0 j))):=by
 intro pins s σ H xs us Q I r h
 obtain⟨j,rfl,q⟩:=h
 obtain⟨u,rfl,t,rfl⟩:=vals1 r
 exact call_range_1 ⟨.ref s.heap.objs.size,_,I.laid (t':=s.toks+1+1) (o:=.rng 0 j) (fun b o e=>Heap.get?_push_of_some _ e) (Nat.le_refl _) ⟨_,_,_,Heap.get?_push_size _ rfl⟩,rfl,q _ (I.hok.fresh (Nat.le_refl _))⟩
theorem hZ (hc:X.calm=true):CallR X (.type "list") (fun xs H Q=>∃(p:Addr) (j:Int),xs=[.ref p]/\H p=some (.rng 0 j)/\-(2 ^ 62)<=j/\j.toNat<=1000000/\∀l,H l=none->Q (.ref l) (upd H l (.lst ((List.range j.toNat).map fun (i:Nat)=>V.int (i:Int))))):=by
 intro pins s σ H xs us Q I r h
 obtain⟨p,j,rfl,hp,hs,hj,q⟩:=h
 obtain⟨u,rfl,ru⟩:=vals1 r
 cases ru
 obtain⟨t,u,v,e⟩:=I.hok p _ hp
 refine call_list_range (n:=j.toNat) (I.ok.hd hc) e (small_one (by bv_omega) (by bv_omega) hs (by bv_omega)) ?_ (by bv_omega) fun h' tk acc' c' hk hS hacc => ?_
 ·rw[rangeSize_one];split <;> bv_omega
 ·have hv:Vals ((List.range j.toNat).map fun (i:Nat)=>V.int (i:Int)) acc'.toList:=by
   obtain⟨h1,h2⟩:=hacc
   refine qY ?_ ?_
   ·rw[List.length_map,List.length_range,Array.length_toList,h1]
   ·intro i a b ha hb
    rw[List.getElem?_map] at ha
    have hi:i<j.toNat:=by
     have:=(List.getElem?_eq_some_iff.mp hb).1
     rw[Array.length_toList,h1] at this
     exact this
    rw[List.getElem?_range hi] at ha
    cases ha
    obtain⟨t,e⟩:=h2 i b (by simpa using hb)
    refine⟨t,?_⟩
    rw[e]
    simp
  refine⟨.ref s.heap.objs.size,_,I.laid (t':=tk) (o:=.lst ((List.range j.toNat).map fun (i:Nat)=>V.int (i:Int))) hk (Nat.le_refl _) ⟨?_,acc'.toList,c',hv,by simpa using hS⟩,rfl,q _ (I.hok.fresh (Nat.le_refl _))⟩
  rw[List.length_map,List.length_range]
  exact Nat.le_of_lt (Nat.lt_of_le_of_lt hj (by decide))
end
def rangeL:List D->Option D
 | [.int j]=>if -(2 ^ 62)<=j/\j.toNat<=1000000 then some (.list ((List.range j.toNat).map fun (i:Nat)=>PyData.int (i:Int))) else none
 | _=>none
theorem aI {H:Hp}{O:Addr->Prop}(l:List Nat):Reps H O (l.map fun (i:Nat)=>V.int (i:Int)) (l.map fun (i:Nat)=>PyData.int (i:Int)):=by
 induction l with
 | nil=>exact .nil
 | cons a l ih=>exact .cons (.int _) ih
theorem qH {C:Ct}{a:Expr}{p p2 pos pos2:Pos}{ms:Ev->Res (List D)}(hl:C.X.mg "list" = none) (hm:C.X.mg "range" = none) (ha:RArg C false [a] ms) (hc:autoParam (C.X.calm=true) zY._auto_1) (hgl:autoParam (Gl C.X "list") zY._auto_1) (hg:autoParam (Gl C.X "range") zY._auto_1)
  (hs:autoParam (starEach [a] C.X.env=(false,eval a C.X.env)::starEach [] C.X.env) zY._auto_1) (hs2:autoParam (starEach [.Call (.Name "range" p2) [a] [] pos2] C.X.env=(false,eval (.Call (.Name "range" p2) [a] [] pos2) C.X.env)::starEach [] C.X.env) zY._auto_1)
  (hpl:autoParam ((backTo pos (starEach [] C.X.env)).any (·.1)=false) zY._auto_1) (hpl2:autoParam ((backTo pos2 (starEach [] C.X.env)).any (·.1)=false) zY._auto_1) :
  RE C .new (.Call (.Name "list" p) [.Call (.Name "range" p2) [a] [] pos2] [] pos) (eB rangeL ms):=by
 obtain⟨t,pa,q⟩:=ha
 refine⟨_,yL (hZ hc) hgl hl (by rfl) (zU (yL fZ hg hm (by rfl) pa (by decide) (by decide) hs hpl2) zO hs2) (by decide) (by decide) hs2 hpl,fun Oc Ob σ H ρ Q R h=>q Oc Ob σ H ρ _ R (Res.zR (Res.zV h) (fun ds _ k vs H1 s1 r => ?_) fun _ z=>z)⟩
 obtain⟨d,e,k⟩:=Res.zG k
 unfold rangeL at e
 split at e
 ·split at e
  ·rename_i hb
   cases e
   obtain⟨v,rfl,va⟩:=VAs.one r
   obtain rfl:=va.int
   refine⟨_,rfl,fun p hp=>⟨p,_,rfl,zT,hb.1,hb.2,fun l hl => ?_⟩⟩
   exact k _ _ ((s1.trans (Same.new hp)).trans (Same.new hl)) (yA (s1.trans (Same.new hp)) hl (aI _))
  ·cases e
 ·cases e
section
variable {X:Cx}
def rExtR:V->List V->Hp->VK->Prop:=fun x vs H Q=>∃l b xs zs,x=.ref l/\vs=[.ref b]/\H l=some (.lst xs)/\(Rd H b (.lst zs)\/Rd H b (.tup zs))/\xs.length+zs.length<=sizeLine/\Q .non (upd H l (.lst (xs++zs)))
theorem yI3:MtM X "list.extend" rExtR:=by
 intro pins s σ H x vs v us Q I rx rv h
 obtain⟨l,b,xs,zs,rfl,rfl,hH,hB,hz,q⟩:=h
 cases rx
 obtain⟨u,rfl,ru⟩:=rv.one
 cases ru
 obtain⟨z,its,n,r,hl,e⟩:=I.lstM hH
 have len:(xs++zs).length<=sizeLine:=by rw[List.length_append];exact hz
 rcases hB with hB | hB
 ·obtain⟨z2,its2,n2,r2,hl2,e2⟩:=Rd.lstM I hB
  have hsz:its.toArray.size+its2.toArray.size<=sizeLine:=by rw[List.size_toArray,List.size_toArray];bv_omega
  have hlong:¬(!its.toArray.isEmpty&&Builtin.List.listTooLong (its.toArray.size+its2.toArray.size))=true:=by
   rw[notLongL hsz,Bool.and_false]
   exact Bool.false_ne_true
  refine call_meets F.slot_list_extend ⟨_,e,rfl⟩ F.entry_list_extend (F.args_list_extend_2 _ _)
   (AutoSeq1.list_extend_list_list_0 l its.toArray n b its2.toArray n2 hlong (by rw[List.size_toArray];bv_omega) (by bv_omega)) ⟨e,e2,?_⟩
  exact⟨.non,_,I.lset (its':=its++its2) hH e (by simp) (r.append r2) len,rfl,q⟩
 ·obtain⟨z2,its2,r2,o,ho,hc,⟨n2,hd⟩,_⟩:=hB.ok I.hok
  have hl2:=r2.length
  have hsz:its.toArray.size+its2.toArray.size<=sizeLine:=by rw[List.size_toArray,List.size_toArray];bv_omega
  refine call_meets F.slot_list_extend ⟨_,e,rfl⟩ F.entry_list_extend (F.args_list_extend_2 _ _)
   (yL9 hc hd hsz) ⟨e,ho,?_⟩
  exact⟨.non,_,I.lset (its':=its++its2) hH e (by simp) (r.append r2) len,rfl,q⟩
end
def appD:List D->List D->Option (List D)
 | xs,[d]=>if xs.length<sizeLine then some (xs ++ [d]) else none
 | _,_=>none
def extD:List D->List D->Option (List D)
 | xs,[d]=>(seqD d).bind fun ys=>if xs.length+ys.length<=sizeLine then some (xs++ys) else none
 | _,_=>none
theorem Reps.one' {H:Hp}{O:Addr->Prop}{vs:List V}{d:D}(h:Reps H O vs [d]):∃v,vs=[v]/\Rep H O v d:=by
 cases h with
 | cons a t=>cases t;exact⟨_,rfl,a⟩
theorem vT:PrM rAppend appD:=by
 intro O H l xs vs xd ad ds' Q hl rx ra e k
 unfold appD at e
 split at e
 ·split at e
  ·rename_i h
   cases e
   obtain⟨v,rfl,rv⟩:=Reps.one' ra
   exact⟨l,xs,v,rfl,rfl,hl,by rw[rx.length];exact h,k _ (rx.append (.one rv))⟩
  ·cases e
 ·cases e
def Kp (i:Nat) (m:Ev->Res Out):Prop:=∀ρ o,m ρ=.ok (.nx o)->o[i]?=ρ[i]?
def KpG (i:Nat) (g:D->Ev->Option Ev):Prop:=∀d ρ o,g d ρ=some o->o[i]?=ρ[i]?
theorem bind_some {α β:Type}{r:Res α}{f:α->Res β}{b:β}(h:r.bind f=.ok b):∃a,r=.ok a/\f a=.ok b:=by
 cases r with
 | ok a=>exact⟨a,rfl,h⟩
 | ex c=>cases h
 | no=>cases h
theorem yB3 {α:Type}{o:Option α}{a:α}(h:Res.lft o=.ok a):o=some a:=by
 cases o with
 | none=>cases h
 | some b=>cases h;rfl
section
variable {i j:Nat}{m n:Ev->Res Out}{t:Ev->Res Bool}{me mk:Ev->Res D}{ms mi:Ev->Res (List D)}{g:D->Ev->Option Ev}{f:List D->List D->Option (List D)}
theorem yO8:Kp i sN:=fun ρ o h=>by cases h;rfl
theorem yO9:Kp i (sR me):=fun ρ o h=>by
 obtain⟨d,_,e⟩:=bind_some h
 cases e
theorem xS5 (h:autoParam ((i == j)=false) zY._auto_1):Kp i (sM j f ms):=fun ρ o e=>by
 obtain⟨_,_,e⟩:=bind_some e
 obtain⟨_,_,e⟩:=bind_some e
 obtain⟨_,_,e⟩:=bind_some e
 obtain⟨_,_,e⟩:=bind_some e
 cases e
 exact List.getElem?_set_ne (fun z=>by rw[z] at h;simp at h)
theorem yO4 (hm:Kp i m) (hn:Kp i n):Kp i (sQ m n):=fun ρ o e=>by
 obtain⟨x,e1,e2⟩:=bind_some e
 cases x with
 | nx ρ'=>exact (hn ρ' o e2).trans (hm ρ ρ' e1)
 | rt d=>cases e2
theorem zC2 (hm:Kp i m) (hn:Kp i n):Kp i (sIf t m n):=fun ρ o e=>by
 obtain⟨b,_,e2⟩:=bind_some e
 cases b with
 | true=>exact hm ρ o e2
 | false=>exact hn ρ o e2
theorem xQ9 (h:autoParam ((i == j)=false) zY._auto_1):KpG i (gN j):=fun d ρ o e=>by
 cases e
 exact List.getElem?_set_ne (fun z=>by rw[z] at h;simp at h)
theorem zM5 (hg:KpG i g) (hm:Kp i m):∀(ds:List D) (ρ o:Ev),forM g m ds ρ=.ok (.nx o)->o[i]?=ρ[i]?
 | [],ρ,o,e=>by cases e;rfl
 | d::ds,ρ,o,e=>by
  rw[forM] at e
  obtain⟨ρ1,e1,e⟩:=bind_some e
  obtain⟨x,e2,e⟩:=bind_some e
  cases x with
  | nx ρ2=>exact (zM5 hg hm ds ρ2 o e).trans ((hm ρ1 ρ2 e2).trans (hg d ρ ρ1 (yB3 e1)))
  | rt d=>cases e
theorem xS4 (hg:KpG i g) (hm:Kp i m):Kp i (sF mi g m):=fun ρ o e=>by
 obtain⟨ds,_,e⟩:=bind_some e
 exact zM5 hg hm ds ρ o e
end
def isL:Value->Bool
 | .type t=>t == "list"
 | _=>false
def noLst (K:KFr):Bool:=K.all fun p=>!isL p.2.cls
theorem zQ6 {K:KFr}{a:Addr}{o:Obj}(h:K.lookup a=some o):(a,o)∈K:=by
 have h:List.lookup a K=some o:=h
 induction K with
 | nil=>cases h
 | cons p r ih =>
  obtain⟨b,u⟩:=p
  rw[List.lookup_cons] at h
  by_cases e:(a == b)=true
  ·simp only[e] at h
   cases h
   have:a=b:=by simpa using e
   rw[this]
   exact List.mem_cons_self
  ·simp only[e] at h
   exact List.mem_cons_of_mem _ (ih h h)
theorem xT8 {K:KFr}{H:Hp}{a:Addr}{xs:List V}(hn:noLst K=true) (h:SqL K H a xs):Rd H a (.lst xs):=by
 rcases h with h | ⟨o,its,n,hk,hc,_⟩
 ·exact h
 ·have:=List.all_eq_true.mp hn _ (zQ6 hk)
  rw[hc] at this
  cases this
end L2.L3
namespace L2.L3
open PySem
section
variable (m n:Ev->Res Out) (t t':Ev->Res Bool) (a b c:Ev->Res D) (xs:Ev->Res (List D)) (ρ:Ev) (i j:Nat) (d:D)
theorem cF:sN ρ=.ok (.nx ρ):=rfl
theorem xS3:sX ρ=.no:=rfl
theorem wP:sQ m n ρ=(m ρ).bind fun o=>match o with | .nx ρ'=>n ρ' | .rt d=>.ok (.rt d):=rfl
theorem qJ:sIf t m n ρ=(t ρ).bind fun k=>if k then m ρ else n ρ:=rfl
theorem xU8:sR a ρ=(a ρ).bind fun d=>.ok (.rt d):=rfl
theorem xV8:sS i a ρ=(a ρ).bind fun d=>.ok (.nx (ρ.set i (some d))):=rfl
theorem xT1:sE a ρ=(a ρ).bind fun _=>.ok (.nx ρ):=rfl
theorem xT6 (g:List D->List D->Option (List D)):sM i g xs ρ=(eV i ρ).bind fun d=>(Res.lft (lstD d)).bind fun xd=>(xs ρ).bind fun ad=>(Res.lft (g xd ad)).bind fun ds=>.ok (.nx (ρ.set i (some (.list ds)))):=rfl
theorem xU6:sI i b a ρ=(a ρ).bind fun v=>(eV i ρ).bind fun d=>(Res.lft (lstD d)).bind fun xd=>(b ρ).bind fun k=>(Res.lft (setD xd k v)).bind fun ds=>.ok (.nx (ρ.set i (some (.list ds)))):=rfl
theorem xP1:sV i j ρ=(eV j ρ).bind fun d=>.ok (.nx ((ρ.set i (some d)).set j none)):=rfl
theorem xS7 (g:D->Ev->Option Ev):sF xs g m ρ=(xs ρ).bind fun ds=>forM g m ds ρ:=rfl
theorem xR2 (k:Nat):sW k t m ρ=whM t m k ρ:=rfl
theorem kF:eC d ρ=.ok d:=rfl
theorem eV0 (x:D) (r:Ev):eV 0 (some x::r)=.ok x:=rfl
theorem eVs (o:Option D) (r:Ev):eV (i+1) (o::r)=eV i r:=rfl
theorem xT2 (f:D->Option D):e1 f a ρ=(a ρ).bind fun x=>Res.lft (f x):=rfl
theorem xQ6 (f:D->D->Option D):e2 f a b ρ=(a ρ).bind fun x=>(b ρ).bind fun y=>Res.lft (f x y):=rfl
theorem kO (f:List D->Option D):eB f xs ρ=(xs ρ).bind fun ds=>Res.lft (f ds):=rfl
theorem xU4 (f:List D->Res D):eF f xs ρ=(xs ρ).bind f:=rfl
theorem yC3 (fr:Bool) (f:List D->Res D):eFA fr f xs ρ=(xs ρ).bind fun ds=>(f ds).bind fun d=>if lfT fr d then .ok d else .no:=rfl
theorem bZ (f:D->D->Option Bool):b2 f a b ρ=(a ρ).bind fun x=>(b ρ).bind fun y=>Res.lft (f x y):=rfl
theorem kW (f g:D->D->Option Bool):b3 f g a b c ρ=(a ρ).bind fun x=>(b ρ).bind fun y=>(Res.lft (f x y)).bind fun k=>if k then (c ρ).bind fun z=>Res.lft (g y z) else .ok false:=rfl
theorem xT4:vB t ρ=(t ρ).bind fun k=>.ok (.bool k):=rfl
theorem xQ4:tV a ρ=(a ρ).bind fun d=>Res.lft (isB d):=rfl
theorem jX:tNt t ρ=(t ρ).bind fun k=>.ok (!k):=rfl
theorem yC8:tAn t t' ρ=(t ρ).bind fun k=>if k then t' ρ else .ok false:=rfl
theorem cS:tO t t' ρ=(t ρ).bind fun k=>if k then .ok true else t' ρ:=rfl
theorem yE9:vAn a b ρ=(a ρ).bind fun d=>(Res.lft (isB d)).bind fun k=>if k then b ρ else .ok (.bool false):=rfl
theorem xU7:vO a b ρ=(a ρ).bind fun d=>(Res.lft (isB d)).bind fun k=>if k then .ok (.bool true) else b ρ:=rfl
theorem yB4:vNt a ρ=(a ρ).bind fun d=>(Res.lft (isB d)).bind fun k=>.ok (.bool (!k)):=rfl
theorem yD2:eIf t a b ρ=(t ρ).bind fun k=>if k then a ρ else b ρ:=rfl
theorem kQ:aN ρ=.ok []:=rfl
theorem kP:aC a xs ρ=(a ρ).bind fun x=>(xs ρ).bind fun r=>.ok (x::r):=rfl
theorem xT9:iS a ρ=(a ρ).bind fun d=>Res.lft (seqD d):=rfl
theorem xS8 (f:List D->Option (List D)):iR f xs ρ=(xs ρ).bind fun ds=>Res.lft (f ds):=rfl
theorem xQ3:gN i d ρ=some (ρ.set i (some d)):=rfl
theorem yF5:tYes ρ=.ok true:=rfl
theorem yV3 (mi:Ev->Res (List D)) (js:List Nat):eComp mi t a js ρ=(mi ρ).bind fun ds=>if ds.length<=sizeLine then (compM (fun x=>t (cEnv ρ js x)) (fun x=>a (cEnv ρ js x)) ds).bind fun out=>.ok (.list out) else .no:=rfl
theorem xU3 (f:Int->Int->Option Int) (x y:Int):i2 f (.int x) (.int y)=(f x y).map PyData.int:=rfl
theorem kJ (f:Int->Int->Bool) (x y:Int):c2 f (.int x) (.int y)=some (f x y):=rfl
theorem yH5 (l:List D):lstD (.list l)=some l:=rfl
theorem yY4 (l:List D):seqD (.list l)=some l:=rfl
theorem zC6 (l:List D):seqD (.tuple l)=some l:=rfl
theorem yA1 (k:Bool):isB (.bool k)=some k:=rfl
theorem bG:lenD [d]=(seqD d).map fun ds=>.int ds.length:=rfl
theorem yP3:listD [d]=(seqD d).map fun ds=>.list ds:=rfl
theorem yK7:tupD [d]=(seqD d).map fun ds=>.tuple ds:=rfl
theorem xR4 (l:List D) (k:Int):ixD (.list l) (.int k)=atI l k:=rfl
theorem xP4 (l:List D) (k:Int):ixD (.tuple l) (.int k)=atI l k:=rfl
theorem yI8 (k:Int):negD (.int k)=some (.int (-k)):=rfl
theorem xU9 (k:Bool):bD (some k)=some (.bool k):=rfl
end
theorem xX7 (fr:Bool) (d:D):fin fr (.rt d)=.ok d:=rfl
theorem xZ1 (ρ:Ev):fin false (.nx ρ)=.ok .none:=rfl
theorem zN8 {g:D->Ev->Option Ev}{b:Ev->Res Out}(P:Nat->Ev->Prop) (ds:List D) (ρ:Ev) (h0:P 0 ρ) (hs:∀(i:Nat) d ρ,ds[i]?=some d->P i ρ->∃ρ1 ρ2,g d ρ=some ρ1/\b ρ1=.ok (.nx ρ2)/\P (i+1) ρ2) :
  ∃ρ',forM g b ds ρ=.ok (.nx ρ')/\P ds.length ρ':=by
 induction ds generalizing P ρ with
 | nil=>exact⟨ρ,rfl,h0⟩
 | cons d ds ih =>
  obtain⟨ρ1,ρ2,e1,e2,p⟩:=hs 0 d ρ rfl h0
  obtain⟨ρ',e,p'⟩:=ih (fun i=>P (i+1)) ρ2 p fun i d ρ hd hp=>hs (i+1) d ρ (by simpa using hd) hp
  refine⟨ρ',?_,by simpa using p'⟩
  rw[forM,e1,Res.lft_some,Res.bind_ok,e2,Res.bind_ok]
  exact e
theorem aO {t:D->Res Bool}{f:D->Res D}{α:Type}(A:α->D) (p:α->Bool) (q:α->D):∀(xs:List α),(∀x∈xs,t (A x)=.ok (p x))->(∀x∈xs,p x=true->f (A x)=.ok (q x))->compM t f (xs.map A)=.ok ((xs.filter p).map q)
 | [],_,_=>rfl
 | x::xs,ht,hf=>by
  have ih:=aO A p q xs (fun y hy=>ht y (List.mem_cons_of_mem _ hy)) (fun y hy=>hf y (List.mem_cons_of_mem _ hy))
  rw[List.map_cons,compM,ht x List.mem_cons_self]
  cases hp:p x with
  | false=>simp only[noEx,Res.bind_ok,Bool.false_eq_true,if_false,List.filter_cons,hp];exact ih
  | true =>
   rw[hf x List.mem_cons_self hp,ih]
   simp[noEx,List.filter_cons,hp]
abbrev tI (ns:List Int):D:=.tuple (ns.map PyData.int)
abbrev lI (ns:List Int):D:=.list (ns.map PyData.int)
theorem uS {α β:Type}(f:α->β) (xs:List α) (i:Int):atI (xs.map f) i=(atI xs i).map f:=by
 unfold atI
 rw[List.length_map]
 cases ixN xs.length i with
 | none=>rfl
 | some j=>simp
theorem vY {xs:List Int}{j:Nat}(h:j<xs.length):atI xs (j:Int)=some (xs.getD j 0):=by
 refine zM3 ?_
 rw[List.getD_eq_getElem?_getD,List.getElem?_eq_getElem h]
 rfl
theorem gB {ds:List D}(h:ds.length<=1000):mkL ds=some (.list ds):=by
 unfold mkL
 exact if_pos (Nat.le_of_lt (small1000 h))
theorem dF {ds:List D}(h:ds.length<=1000):mkT ds=some (.tuple ds):=by
 unfold mkT
 exact if_pos (Nat.le_of_lt (small1000 h))
theorem mkL0:mkL []=some (.list []):=gB (by simp)
theorem mkL1 (a:D):mkL [a]=some (.list [a]):=gB (by simp)
theorem mkL2 (a b:D):mkL [a,b]=some (.list [a,b]):=gB (by simp)
theorem mkL3 (a b c:D):mkL [a,b,c]=some (.list [a,b,c]):=gB (by simp)
theorem mkL4 (a b c d:D):mkL [a,b,c,d]=some (.list [a,b,c,d]):=gB (by simp)
theorem mkT0:mkT []=some (.tuple []):=dF (by simp)
theorem mkT1 (a:D):mkT [a]=some (.tuple [a]):=dF (by simp)
theorem mkT2 (a b:D):mkT [a,b]=some (.tuple [a,b]):=dF (by simp)
theorem mkT3 (a b c:D):mkT [a,b,c]=some (.tuple [a,b,c]):=dF (by simp)
theorem gL {l:List D}{d:D}(h:l.length<=1000):appD l [d]=some (l ++ [d]):=if_pos (small1000 h)
theorem xX8 {l k:List D}{d:D}(hd:seqD d=some k) (h:l.length+k.length<=1000):extD l [d]=some (l++k):=by
 show (seqD d).bind (fun ys=>if l.length+ys.length<=sizeLine then some (l++ys) else none)=_
 rw[hd]
 exact if_pos (Nat.le_of_lt (small1000 h))
theorem yH6 {ds:List D}{r:Res D}(h:ds.length<=1000):(if ds.length<=sizeLine then r else .no)=r:=if_pos (Nat.le_of_lt (small1000 h))
theorem fM {n:Nat}(h:n<=1000):rng1 [.int (n:Int)]=some ((List.range n).map fun (i:Nat)=>PyData.int (i:Int)):=by
 unfold rng1
 simp only
 rw[if_pos ⟨by bv_omega,by bv_omega⟩,Int.toNat_natCast]
theorem qT (i:Int):SeqAt.shaped (.int i)=true:=rfl
theorem fJ (i j:Int):PyData.eqv (.int i) (.int j)=decide (i=j):=by
 rw[PyData.eqv]
 exact Bool.beq_eq_decide_eq i j
theorem uW (i j:Int):eqD (.int i) (.int j)=some (decide (i=j)):=by
 unfold eqD
 rw[if_pos ⟨qT i,qT j⟩,fJ]
theorem uQ (i j:Int):neD (.int i) (.int j)=some (!decide (i=j)):=by
 unfold neD
 rw[if_pos ⟨qT i,qT j⟩,fJ]
theorem yC7 (ns ms:List Int):eqD (lI ns) (lI ms)=some (decide (ns=ms)):=by
 unfold eqD
 rw[if_pos ⟨xA ns,xA ms⟩,bU]
theorem zE9 (ns ms:List Int):neD (lI ns) (lI ms)=some (!decide (ns=ms)):=by
 unfold neD
 rw[if_pos ⟨xA ns,xA ms⟩,bU]
theorem zE3 {α:Type}(xs:List α) (f:α->Bool) (h:∀x∈xs,f x=true):allD [.list (xs.map fun x=>PyData.bool (f x))]=some (.bool true):=by
 have e:(xs.map fun x=>PyData.bool (f x))=(xs.map f).map PyData.bool:=by rw[List.map_map];rfl
 show (boolsOf _).map _=_
 rw[e,boolsOf_map]
 show some (PyData.bool ((xs.map f).all id))=_
 congr 2
 rw[List.all_eq_true]
 intro b hb
 obtain⟨x,hx,rfl⟩:=List.mem_map.mp hb
 exact h x hx
theorem yJ6 {n m:Nat}(h:m<n):ixN n (m:Int)=some m:=by
 unfold ixN
 rw[if_pos (by bv_omega),if_pos (by bv_omega),Int.toNat_natCast]
theorem yR4 (v:D) (n:Nat) (h:n<=1000):repL (.list [v]) (.int (n:Int))=some (.list (List.replicate n v)):=by
 unfold repL
 simp only
 rw[if_pos ⟨by bv_omega,by bv_omega,by rw[List.length_singleton,Int.toNat_natCast];exact Nat.le_of_lt (small1000 (by bv_omega))⟩,Int.toNat_natCast]
 congr 2
 induction n with
 | zero=>rfl
 | succ n ih=>rw[List.replicate_succ,List.flatten_cons,ih (by bv_omega),List.replicate_succ];rfl
theorem zJ5 {n:Nat}(h:n<=1000):rangeL [.int (n:Int)]=some (lI ((List.range n).map fun (i:Nat)=>(i:Int))):=by
 unfold rangeL
 simp only
 rw[if_pos ⟨by bv_omega,by bv_omega⟩,Int.toNat_natCast]
 congr 2
 rw[List.map_map]
 rfl
theorem yP6 {ns:List Int}(h:ns.length<=63):sortD [lI ns]=some (lI (sortI ns)):=by
 unfold sortD
 simp only[nsD,seqD,Option.bind_some,intsOf_map]
 rw[if_pos (by bv_omega)]
theorem zP9 {ns:List Int}(h:ns ≠ []):min1D [tI ns]=some (.int (minL ns)):=by
 unfold min1D
 simp only[nsD,seqD,Option.bind_some,intsOf_map]
 rw[if_neg h]
theorem yM5 {ns:List Int}(h:ns ≠ []):min1D [lI ns]=some (.int (minL ns)):=by
 unfold min1D
 simp only[nsD,seqD,Option.bind_some,intsOf_map]
 rw[if_neg h]
section
variable (i:Int) (b:Bool) (l:List D)
theorem xW2:isiD "int" (.int i)=some (.bool true):=rfl
theorem xV3:isiD "bool" (.int i)=some (.bool false):=rfl
theorem xZ6:isiD "bool" (.bool b)=some (.bool true):=rfl
theorem yD6:isiD "int" (.bool b)=some (.bool true):=rfl
theorem xZ7:isiD "tuple" (.tuple l)=some (.bool true):=rfl
theorem yB1:isiD "list" (.list l)=some (.bool true):=rfl
theorem xW4:isiD "tuple" (.list l)=some (.bool false):=rfl
theorem yE8:isiD "list" (.tuple l)=some (.bool false):=rfl
theorem xY8:isiD "tuple" .none=some (.bool false):=rfl
theorem yD9:isiD "bool" .none=some (.bool false):=rfl
end
theorem zS8 {mi:Ev->Res (List D)}{t:Ev->Res Bool}{me:Ev->Res D}{js:List Nat}{ρ:Ev}{α:Type}(A:α->D) (p:α->Bool) (q:α->D) (xs:List α) (h:mi ρ=.ok (xs.map A)) (hl:xs.length<=1000)
  (ht:∀x∈xs,t (cEnv ρ js (A x))=.ok (p x)) (hf:∀x∈xs,p x=true->me (cEnv ρ js (A x))=.ok (q x)):eComp mi t me js ρ=.ok (.list ((xs.filter p).map q)):=by
 rw[yV3,h,Res.bind_ok,yH6 (by rw[List.length_map];exact hl),aO A p q xs ht hf]
 rfl
theorem jT {mi:Ev->Res (List D)}{me:Ev->Res D}{js:List Nat}{ρ:Ev}{α:Type}(A:α->D) (q:α->D) (xs:List α) (h:mi ρ=.ok (xs.map A)) (hl:xs.length<=1000)
  (hf:∀x∈xs,me (cEnv ρ js (A x))=.ok (q x)):eComp mi tYes me js ρ=.ok (.list (xs.map q)):=by
 rw[zS8 A (fun _=>true) q xs h hl (fun _ _=>rfl) (fun x hx _=>hf x hx),List.filter_eq_self.mpr fun _ _=>rfl]
end L2.L3
namespace L2.L3
end L2.L3
namespace HT
open PySem PySem.Spec PyProof.Rows
section
variable {prog:Program}{w:World}{A:Around}{E:Value->Shared->Prop}{s:Shared}
theorem fG {t sl:Addr}{items:Array Value}{vl vu:Value}{lo hi:Option Int}{Q:Value->Shared->Prop}(ht:IsTup s.heap t items) (hs:s.heap.IsSliceOf sl vl vu .none) (pl:IsPart vl lo) (pu:IsPart vu hi)
  (hw:sIx items.size 0 lo=0/\sIx items.size items.size hi=items.size) (h:Q (.ref t) s):wpAny (model prog w) A (getItem (.ref t) (.ref sl)) Q E s:=by
 obtain⟨os,hos,hcs,hds⟩:=id hs
 have hTs:s.TypeIs (.ref sl) "slice":=⟨os,hos,hcs⟩
 unfold getItem
 try with_reducible refine wpAny_holding ?_
 first | refine wpAny_bind (wpAny_pure ?_) | skip
 refine wpAny_bind (wpAny_sequenceKey ht.typeIs (by decide) ?_)
 refine wpAny_bind (wpAny_callSpecial?_slot (name:=Str.ofString "__getitem__") ht.typeIs PyProof.Rows.slot_tuple_getitem
  (wpAny_call_entry PyProof.Rows.slot_tuple_getitem ht.typeIs entry_tuple_getitem ?_ (args_tuple_getitem _ _)))
 show wpAny _ _ (Builtin.Tuple.tupleItemsOf (.ref t) >>= _) _ _ s
 refine wpAny_bind (tupleItemsOf_ ht ?_)
 refine wpAny_bind (wpAny_typeOf hTs ?_)
 rw[if_pos (by decide)]
 refine wpAny_bind (qD hs pl pu ?_)
 have hyes:(((sIx items.size 0 lo:Nat):Int) == 0&&(1:Int) == 1&&(sIx items.size items.size hi-sIx items.size 0 lo) == items.size)=true:=by
  rw[hw.1,hw.2]
  simp
 show wpAny _ _ (if (((sIx items.size 0 lo:Nat):Int) == 0&&(1:Int) == 1&&(sIx items.size items.size hi-sIx items.size 0 lo) == items.size)=true then _ else _) _ _ s
 rw[if_pos hyes]
 unfold Builtin.Tuple.tupleIsExact
 refine wpAny_bind (wpAny_bind (wpAny_typeOf ht.typeIs (wpAny_pure ?_)))
 rw[if_pos (by decide)]
 refine wpAny_bind (wpAny_rule ?_)
 exact wpAny_pure ⟨_,rfl,wpAny_pure h⟩
end
end HT
namespace L2.L3
open PySem PySem.Spec PyProof.Rows
variable [CN]
section
variable {X:Cx}
def rSlTA (K:KFr):V->Option Int->Option Int->Hp->VK->Prop:=fun x lo hi H Q=>∃a xs,x=.ref a/\SqT K H a xs/\HT.sIx xs.length 0 lo=0/\HT.sIx xs.length xs.length hi=xs.length/\Q (.ref a) H
theorem yK2:SlR X (rSlTA X.K):=by
 intro pins s σ H x v vl vu lo hi sl Q I rx hs pl pu h
 obtain⟨a,xs,rfl,hx,hw1,hw2,q⟩:=h
 cases rx
 obtain⟨its,r,ht,hz⟩:=I.tuple hx
 have hlen:its.toArray.size=xs.length:=by rw[List.size_toArray];exact r.length.symm
 refine⟨"tuple",_,PyProof.Rows.slot_tuple_getitem.lookup,ht.typeIs,?_⟩
 exact HT.fG ht hs pl pu (by rw[hlen];exact⟨hw1,hw2⟩) ⟨.ref a,H,I,rfl,q⟩
end
def RO (C:Ct) (e:Option Expr) (m:Ev->Res (Option Int)):Prop :=
 ∃t,PO C.X e t/\∀(Oc:Wd) (Ob:Addr->Prop) (σ:St) (H:Hp) (ρ:Ev) (Q:Option Int->Hp->Prop),Rel Oc Ob C.om C.ln σ H ρ ->
  (m ρ).post (fun d=>∀H',Same H H'->Q d H') (fun c=>∀H',Same H H'->C.XE c H')->t σ H Q
def oN:Ev->Res (Option Int):=fun _=>.ok none
def isI:D->Option Int
 | .int i=>some i
 | _=>none
def oS (m:Ev->Res D):Ev->Res (Option Int):=fun ρ=>(m ρ).bind fun d=>(Res.lft (isI d)).bind fun i=>.ok (some i)
theorem jC {C:Ct}:RO C none oN:=⟨_,yH7,fun Oc Ob σ H ρ Q R h=>h H (Same.refl H)⟩
theorem vV {C:Ct}{e:Expr}{md:Md}{me:Ev->Res D}(h:RE C md e me):RO C (some e) (oS me):=by
 obtain⟨t,p,q⟩:=h
 refine⟨_,yM7 p,fun Oc Ob σ H ρ Q R h=>q Oc Ob σ H ρ _ R (Res.zR (Res.zV h) (fun d _ k v H' s r => ?_) fun _ z=>z)⟩
 obtain⟨i,e,k⟩:=Res.zG (Res.zV k)
 cases d with
 | int j=>cases e;exact⟨i,(r.va R.oh).int,k H' s⟩
 | _=>cases e
def eS (f:D->Option Int->Option Int->Option D) (m:Ev->Res D) (lo hi:Ev->Res (Option Int)):Ev->Res D:=fun ρ=>(m ρ).bind fun x=>(lo ρ).bind fun l=>(hi ρ).bind fun u=>Res.lft (f x l u)
def PrS (r:V->Option Int->Option Int->Hp->VK->Prop) (md:Md) (f:D->Option Int->Option Int->Option D):Prop :=
 ∀(Oc:Wd) (Ob:Addr->Prop) (H:Hp) (x:V) (dx:D) (lo hi:Option Int) (d:D) (Q:VK),(∀a,Oc a\/Ob a->H a≠none)->VA Oc Ob H x dx->f dx lo hi=some d->(∀v H',Same H H'->VR md Oc Ob H H' v d->Q v H')->r x lo hi H Q
theorem yT7 {C:Ct}{e:Expr}{lo hi:Option Expr}{md mda:Md}{me:Ev->Res D}{ml mh:Ev->Res (Option Int)}{p2 pos:Pos}{r:V->Option Int->Option Int->Hp->VK->Prop}{f:D->Option Int->Option Int->Option D}(hr:SlR C.X r) (hp:PrS r md f) (he:RE C mda e me) (hl:RO C lo ml) (hu:RO C hi mh) :
  RE C md (.Subscript e (.Slice lo hi none p2) pos) (eS f me ml mh):=by
 obtain⟨t,p,q⟩:=he
 obtain⟨tl,pl,ql⟩:=hl
 obtain⟨th,ph,qh⟩:=hu
 refine⟨_,yQ7 hr p pl ph,fun Oc Ob σ H ρ Q R h=>q Oc Ob σ H ρ _ R (Res.zR (Res.zV h) (fun d _ k v H1 s1 r => ?_) fun _ z=>z)⟩
 refine ql Oc Ob σ H1 ρ _ (R.same s1) (Res.zR (Res.zV k) (fun l _ k H2 s2 => ?_) fun c z H' s'=>z H' (s1.trans s'))
 refine qh Oc Ob σ H2 ρ _ ((R.same s1).same s2) (Res.zR (Res.zV k) (fun u _ k H3 s3 => ?_) fun c z H' s'=>z H' ((s1.trans s2).trans s'))
 obtain⟨d',e,k⟩:=Res.zG k
 have R3:=((R.same s1).same s2).same s3
 refine hp Oc Ob H3 v d l u d' Q R3.oh ((r.va R.oh).same (s2.trans s3)) e fun w H' s4 rw' => ?_
 exact k w H' (((s1.trans s2).trans s3).trans s4) (rw'.from ((s1.trans s2).trans s3))
def cutD {α:Type}(xs:List α) (lo hi:Option Int):List α:=(xs.drop (HT.sIx xs.length 0 lo)).take (HT.sIx xs.length xs.length hi-HT.sIx xs.length 0 lo)
theorem zZ6 {H:Hp}{O:Addr->Prop}{vs:List V}{ds:List D}(r:Reps H O vs ds) (lo hi:Option Int):Reps H O (cutV vs lo hi) (cutD ds lo hi):=by
 unfold cutV cutD
 rw[r.length]
 exact (r.drop _).take _
def slL:D->Option Int->Option Int->Option D
 | .list ds,lo,hi=>some (.list (cutD ds lo hi))
 | _,_,_=>none
def slD:D->Option Int->Option Int->Option D
 | .list ds,lo,hi=>some (.list (cutD ds lo hi))
 | .tuple ds,lo,hi=>some (.tuple (cutD ds lo hi))
 | _,_,_=>none
theorem yG8 {α:Type}{xs:List α}{lo hi:Option Int}(h1:HT.sIx xs.length 0 lo=0) (h2:HT.sIx xs.length xs.length hi=xs.length):cutD xs lo hi=xs:=by
 unfold cutD
 rw[h1,h2,List.drop_zero,Nat.sub_zero,List.take_length]
theorem yD8 {K:KFr}:PrS (fun x lo hi H Q=>rSlL K x lo hi H Q\/rSlT K x lo hi H Q\/rSlTA K x lo hi H Q) .cl slD:=by
 intro Oc Ob H x dx lo hi d Q oh va e k
 cases dx with
 | list ds =>
  cases e
  obtain⟨a,ys,rfl,rd,rs⟩:=va.list
  exact .inl ⟨a,ys,rfl,.inl rd,fun p hp=>k _ _ (Same.new hp) (VR.clean (yA (Same.refl H) hp (zZ6 rs lo hi)) oh)⟩
 | tuple ds =>
  cases e
  rcases va with va | ⟨_,_,_,_,ez,_⟩
  ·cases va with
   | @tup a ys _ rd n rs =>
    by_cases hw:HT.sIx ys.length 0 lo=0/\HT.sIx ys.length ys.length hi=ys.length
    ·refine .inr (.inr ⟨a,ys,rfl,.inl rd,hw.1,hw.2,k _ H (Same.refl H) ?_⟩)
     rw[yG8 (by rw[<-rs.length];exact hw.1) (by rw[<-rs.length];exact hw.2)]
     exact .tup rd n rs
    ·exact .inr (.inl ⟨a,ys,rfl,.inl rd,hw,fun p hp=>k _ _ (Same.new hp) (fP oh hp (zZ6 rs lo hi))⟩)
  ·cases ez
 | _=>cases e
theorem uC {C:Ct}{e:Expr}{lo hi:Option Expr}{mda:Md}{me:Ev->Res D}{ml mh:Ev->Res (Option Int)}{p2 pos:Pos}(he:RE C mda e me) (hl:RO C lo ml) (hu:RO C hi mh):RE C .cl (.Subscript e (.Slice lo hi none p2) pos) (eS slD me ml mh):=yT7 (yN9.or (yA5.or yK2)) yD8 he hl hu
theorem zB6 {C:Ct}{fr:Bool}(i:Nat){x:Str}{a:Expr}{md:Md}{ma:Ev->Res D}{p' apos cpos pos:Pos}(ha:RE C md a ma)
  (hN:autoParam (C.X.N[i]?=some x) zY._auto_1) (ho:autoParam (C.om.contains i=true) zY._auto_1) (hv:autoParam (Vis C.X.env.scope x) qZ._auto_1) (hd:autoParam ((x == ("__debug__":Str))=false) zK._auto_1) (hcd:autoParam ((x == ("__classdict__":Str))=false) zK._auto_1)
  (hbase:autoParam (attributeBase (.Name x p') "extend" C.X.env (eval (.Name x p') C.X.env)=eval (.Name x p') C.X.env) zY._auto_1)
  (hfew:((backTo cpos (starEach [a] C.X.env)).all (fun x=>!x.1)&&(backToKw cpos (keywordEach [] C.X.env)).all (fun x=>x.1.isSome)
  &&decide ([a].length+([]:List Keyword).length+(if ([]:List Keyword).isEmpty then 0 else 1)<30))=true:=by rfl)
  (hline:autoParam ((apos.endLine == cpos.line)=true) zY._auto_1) (hs:autoParam (starEach [a] C.X.env=(false,eval a C.X.env)::starEach [] C.X.env) zY._auto_1) (hplain:autoParam ((backTo cpos (starEach [] C.X.env)).any (·.1)=false) zY._auto_1)
  (hsw:autoParam (swapsWith (.Call (.Attribute (.Name x p') "extend" apos) [a] [] cpos) none pos.line C.X.env=pure false) zY._auto_1) :
  RS C fr (.Expr (.Call (.Attribute (.Name x p') "extend" apos) [a] [] cpos) pos) (sM i extD (aC ma aN)):=by
 obtain⟨t,p,q⟩:=ha
 refine⟨_,wL (uM PySem.F.plainAttrs_list PySem.F.slot_list_extend PySem.F.type_list_extend yI3 (vG hN hv hd hcd) (zU p zO hs) hbase hfew hline hs hplain) hsw,fun Oc Ob σ H ρ E R h => ?_⟩
 obtain⟨d,ed,k⟩:=vS (Res.zV h)
 obtain⟨xd,ex,k⟩:=Res.zG (Res.zV k)
 obtain rfl:=jR ex
 obtain⟨v,qv,l,ys,ds,rfl,e2,e3,e4,e5⟩:=R.own i _ ed (wY ho)
 cases e2
 refine⟨_,qv,.inl ⟨rfl,_,SqL.of e3⟩,q Oc Ob σ H ρ _ R (Res.zR (Res.zV (Res.zV k)) (fun ad _ k w H' s r' => ?_) fun c z H' s=>z H' (Same.frm s))⟩
 obtain⟨ds',eg,k⟩:=Res.zG (Res.zV (show ((Res.lft (extD xd [ad])).bind fun ds=>Res.ok (Out.nx (ρ.set i (some (.list ds))))).post _ _ from k))
 obtain⟨zs,e1,eg⟩:=Option.bind_eq_some_iff.mp (show (seqD ad).bind (fun ys=>if xd.length+ys.length<=sizeLine then some (xd++ys) else none)=some ds' from eg)
 split at eg
 ·rename_i hl
  cases eg
  have va:=r'.va R.oh
  have fin:∀(b:Addr) (ws:List V),(Rd H' b (.lst ws)\/Rd H' b (.tup ws))->Reps H' (Uni Oc Ob) ws zs->rExtR (.ref l) [.ref b] H' fun _ H1=>E.nx σ H1:=fun b ws rd rs=>by
   refine⟨l,b,ys,ws,rfl,rfl,s _ _ e3,rd,by rw[e5.length,rs.length];exact hl,?_⟩
   refine k _ _ Ob ((R.same s).write (wY ho) ed qv (s _ _ e3) e4 ((e5.same s).append rs)) (fun b o e n => ?_) fun b z=>.inl z
   rw[zX (fun z=>n (by subst z;exact e4))]
   exact s b o e
  cases ad with
  | list ds' =>
   cases e1
   obtain⟨b,ws,rfl,rd,rs⟩:=va.list
   exact fin b ws (.inl rd) rs
  | tuple ds' =>
   cases e1
   obtain⟨b,ws,rfl,rd,rs⟩:=va.tuple
   exact fin b ws (.inr rd) rs
  | _=>cases e1
 ·cases eg
section
variable (a:Ev->Res D) (l h:Ev->Res (Option Int)) (ρ:Ev) (f:D->Option Int->Option Int->Option D)
theorem xT7:eS f a l h ρ=(a ρ).bind fun x=>(l ρ).bind fun lo=>(h ρ).bind fun u=>Res.lft (f x lo u):=rfl
theorem xU1:oN ρ=.ok none:=rfl
theorem xP2:oS a ρ=(a ρ).bind fun d=>(Res.lft (isI d)).bind fun i=>.ok (some i):=rfl
theorem xZ4 (i:Int):isI (.int i)=some i:=rfl
theorem xZ5 (ds:List D) (lo hi:Option Int):slL (.list ds) lo hi=some (.list (cutD ds lo hi)):=rfl
theorem xS9 (ds:List D) (lo hi:Option Int):slD (.list ds) lo hi=some (.list (cutD ds lo hi)):=rfl
theorem xR8 (ds:List D) (lo hi:Option Int):slD (.tuple ds) lo hi=some (.tuple (cutD ds lo hi)):=rfl
end
theorem kN {α β:Type}(g:α->β) (xs:List α) (lo hi:Option Int):cutD (xs.map g) lo hi=(cutD xs lo hi).map g:=by
 unfold cutD
 rw[List.length_map,List.map_take,List.map_drop]
theorem yD7 {α:Type}(xs:List α) (k:Nat):cutD xs none (some (k:Int))=xs.take k:=by
 unfold cutD
 rw[HT.zT9,HT.zL3,List.drop_zero,Nat.sub_zero]
 by_cases h:k<=xs.length
 ·rw[Nat.min_eq_left h]
 ·rw[Nat.min_eq_right (by bv_omega),List.take_length,List.take_of_length_le (by bv_omega)]
theorem zX6 {α:Type}(xs:List α) (k:Nat):cutD xs (some (k:Int)) none=xs.drop k:=by
 unfold cutD
 rw[HT.zT9,HT.zL3]
 by_cases h:k<=xs.length
 ·rw[Nat.min_eq_left h,List.take_of_length_le (by rw[List.length_drop];bv_omega)]
 ·rw[Nat.min_eq_right (by bv_omega),List.drop_eq_nil_of_le (show xs.length<=k by bv_omega)]
  simp
end L2.L3
namespace L2.L3
open PySem
theorem zN1 (i:Int):∀ns:List Int,(ns.map PyData.int).any (fun z=>eqF z (.int i))=ns.contains i
 | []=>rfl
 | n::ns=>by
  rw[List.map_cons,List.any_cons,zN1 i ns,List.contains_cons]
  congr 1
  show (n == i)=(i == n)
  rw[Bool.eq_iff_iff]
  simp only[beq_iff_eq]
  exact eq_comm
theorem zN4:∀ns:List Int,(ns.map PyData.int).all flD=true
 | []=>rfl
 | n::ns=>by rw[List.map_cons,List.all_cons,zN4 ns];rfl
theorem zX4 (neg:Bool) (i:Int) (ns:List Int):inD neg (.int i) (lI ns)=some (if neg then !ns.contains i else ns.contains i):=by
 unfold inD
 show (if flD (.int i)=true/\(ns.map PyData.int).all flD=true then _ else none)=_
 rw[if_pos ⟨rfl,zN4 ns⟩,zN1]
theorem zP7 {ns:List Int}(h:ns ≠ []):max1D [tI ns]=some (.int (maxL ns)):=by
 unfold max1D
 simp only[nsD,seqD,Option.bind_some,intsOf_map]
 rw[if_neg h]
theorem yL5 {ns:List Int}(h:ns ≠ []):max1D [lI ns]=some (.int (maxL ns)):=by
 unfold max1D
 simp only[nsD,seqD,Option.bind_some,intsOf_map]
 rw[if_neg h]
theorem yH4 {α β:Type}{g:D->Ev->Option Ev}{b:Ev->Res Out}{ds:List D}{ρ:Ev}{k:Out->Res α}{k':α->Res β}{R:Res β}(P:Nat->Ev->Prop) (h0:P 0 ρ) (hs:∀(i:Nat) d ρ,ds[i]?=some d->P i ρ->∃ρ1 ρ2,g d ρ=some ρ1/\b ρ1=.ok (.nx ρ2)/\P (i+1) ρ2)
  (hd:∀ρ',P ds.length ρ'->(k (.nx ρ')).bind k'=R):((forM g b ds ρ).bind k).bind k'=R:=by
 obtain⟨ρ',e,p⟩:=zN8 P ds ρ h0 hs
 rw[e,Res.bind_ok]
 exact hd ρ' p
end L2.L3
namespace L2
open PySem PySem.Spec PyProof.Rows
theorem yI1 {X:Cx}{elt iter:Expr}{ifs:List Expr}{sc0 scope:Scope}{N0:List Str}{px py pos spos:Pos}{xt y:Str}{fs:List Str}{js:List Nat}{i:Nat}{wi:TI}{tt:Addr->List Addr->Shared->Hp->TT}{te:Addr->List Addr->Shared->Hp->TE}(S:CompScope sc0 scope N0 xt fs js) (h0:X.env.scope=sc0) (hN0:X.N=N0) (hc:X.calm=true)
  (hi:PI X (.Name xt px) iter wi) (ht:∀C fp s₂ H,PTs (cxComp X (xt::fs) scope C fp s₂ H) ifs (tt C fp s₂ H)) (he:∀C fp s₂ H,PE (cxComp X (xt::fs) scope C fp s₂ H) elt (te C fp s₂ H))
  (nd:X.N.Nodup) (hy:X.N[i]?=some y) (hl:Loc X.env.scope y) (hsw:swapsWith (.ListComp elt [⟨.Name xt px,iter,ifs,0⟩] scope pos) (some (.Name y py)) spos.line X.env=pure true)
  (hs:autoParam (∀x,foldedSetIterable iter X.env x=pure x) wC._auto_1) (hf:autoParam (X.fn y=true\/X.env.scope.names.lookup y=some .local) fU._auto_1) :
  PS X (.Assign [.Name y py] (.ListComp elt [⟨.Name xt px,iter,ifs,0⟩] scope pos) spos) (tAsg (tComp wi tt te js) (gName i)):=by
 intro pins s σ H E I h
 rw[exec_Assign_Name_used _ _ _ _ hsw]
 refine wpAny_bind (wpAny_standAt (wpAny_bind ?_))
 show wpAny _ X.A (do let _ <-comprehension (.ListComp elt [⟨.Name xt px,iter,ifs,0⟩] scope pos) scope X.env _ (newList []) false (eval iter X.env) (some (assign (.Name y py) X.env))) _ _ s
 refine wpAny_bind (thn (aM S h0 hN0 hc hi ht he hs (use:=some (assign (.Name y py) X.env)) (Qv:=fun _ s'=>SP X pins E .next s') I h fun s' C D Ha fl hI hns hC q => ?_) fun _ s' hq=>wpAny_pure (wpAny_pure hq))
 show wpAny (model X.prog X.w) X.A (assign (.Name y py) X.env (.ref D)) (fun _ s''=>∃m,s''.heap.Ns C m/\∀h',Heap.SameBut C s''.heap h'->SP X pins E .next { s'' with heap:=h' }) X.xe s'
 obtain⟨m,oC,es,ep,hgC,hdC,hrC⟩:=hns
 have I1:Inv X pins σ Ha s':=hI s'.heap ⟨rfl,fun b _=>rfl⟩
 have I2:Inv X (pins ++ [(C,oC)]) σ Ha s':=I1.xT fun p hp=>by
  rcases List.mem_append.mp hp with z | z
  ·exact I1.pin p (List.mem_append_right _ z)
  ·have:p=(C,oC):=by simpa using z
   subst this
   exact⟨hgC,hC.1,hC.2.1,hC.2.2.1,fun v z=>by rw[hdC] at z;cases z⟩
 refine wpAny_assign_Name (qE I2 nd hy hl (show RelV (.ref D) (.ref D) from rfl) (fun s'' I3 => ?_) hf)
 have hgC':=(I3.pin (C,oC) (List.mem_append_right _ (List.mem_append_right _ List.mem_cons_self))).1
 refine⟨m,⟨oC,es,ep,hgC',hdC,hrC⟩,fun h' hsb => ?_⟩
 have I4:Inv X pins (σ.set i (some (.ref D))) Ha s'':=I3.xT fun p hp=>I3.pin p (List.mem_append_right _ (List.mem_append_left _ hp))
 exact⟨_,Ha,Inv.turned (it:=C) (t':=s''.toks) I4 (fun b o hb e=>(hsb.2 b hb).trans e) hC.1 hC.2.1 hC.2.2.2.1 hC.2.2.2.2.1 hC.2.2.2.2.2,q⟩
end L2
namespace L2.L3
open PySem PySem.Spec PyProof.Rows
variable [CN]
end L2.L3
namespace L2
open PySem PySem.Spec PyProof.Rows
def pick3 {α:Type}(xs:List α) (l u k:Option Int):List α:=(sliceRange (sliceBounds l u k xs.length).1 (sliceBounds l u k xs.length).2.1 (sliceBounds l u k xs.length).2.2).filterMap (xs[·]?)
def tSl3E (K:KFr) (te:TE) (tl th ts:TO):TE:=fun σ H Q=>te σ H fun x H1=>tl σ H1 fun l H2=>th σ H2 fun u H3=>ts σ H3 fun st H4=>st≠some 0/\∃a xs,x=.ref a/\SqL K H4 a xs /\
 ((pick3 xs l u st).length<=xs.length->∀p,H4 p=none->Q (.ref p) (upd H4 p (.lst (pick3 xs l u st))))
theorem zK5 {X:Cx}{e st:Expr}{te:TE}{lo hi:Option Expr}{tl th ts:TO}{pos p2:Pos}(he:PE X e te) (hl:PO X lo tl) (hu:PO X hi th) (hst:PO X (some st) ts):PE X (.Subscript e (.Slice lo hi (some st) p2) pos) (tSl3E X.K te tl th ts):=by
 intro pins s σ H Q I h
 refine Subscript_ (thn (he pins s σ H _ I h) fun v s1 ⟨x,H1,I1,r1,q1⟩ => ?_)
 refine wpAny_Slice (thn (hl pins s1 σ H1 _ I1 q1) fun vl s2 ⟨l,H2,I2,pl,q2⟩=>thn (hu pins s2 σ H2 _ I2 q2) fun vu s3 ⟨u,H3,I3,pu,q3⟩=>thn (hst pins s3 σ H3 _ I3 q3) fun vs s4 ⟨k,H4,I4,pk,q4⟩ => ?_)
 obtain⟨h0,a,xs,rfl,hx,q⟩:=q4
 cases r1
 have I5:Inv X pins σ H4 { s4 with heap:=s4.heap.push { cls:=.type "slice",data:=.fields #[vl,vu,vs] } }:=I4.kept (t':=s4.toks) fun b ob q=>Heap.get?_push_of_some _ q
 obtain⟨its,r,ht,hz⟩:=I5.list hx
 have hlen:=r.length
 show wpAny (model X.prog X.w) X.A (subscriptTail e (.Slice lo hi (some st) p2) (.ref a) (.ref s4.heap.objs.size)) (EP X pins σ Q) X.xe { s4 with heap:=s4.heap.push { cls:=.type "slice",data:=.fields #[vl,vu,vs] } }
 refine tail_any (ops:=[.ref a,.ref s4.heap.objs.size]) ht.isList.typeIs slot_list_getitem.lookup ?_ (by with_unfolding_all rfl)
 refine wpAny_getItem_list_slice ht.isList (Heap.IsSliceOf.new ..) pl pu pk h0 ?_ (by rw[List.size_toArray] <;> bv_omega)
 have sz:=slicePick_size_le its.toArray l u k
 unfold slicePick at sz ⊢
 unfold pick3 at q
 rw[hlen] at q
 rw[List.size_toArray] at sz ⊢
 generalize sliceRange (sliceBounds l u k its.length).1 (sliceBounds l u k its.length).2.1 (sliceBounds l u k its.length).2.2=ks at sz q ⊢
 have rv:=gX r ks
 have rl:=rv.length
 rw[List.size_toArray] at sz
 exact⟨.ref (s4.heap.push { cls:=.type "slice",data:=.fields #[vl,vu,vs] }).objs.size,_,I5.laid (t':=s4.toks) (o:=.lst (ks.filterMap (xs[·]?))) (fun b ob q=>Heap.get?_push_of_some _ q) (Nat.le_refl _) ⟨by bv_omega,_,0,rv,Heap.get?_push_size _ rfl⟩,rfl,q (by bv_omega) _ (I5.hok.fresh (Nat.le_refl _))⟩
end L2
namespace L2.L3
open PySem PySem.Spec PyProof.Rows
variable [CN]
def eS3 (m:Ev->Res D) (lo hi st:Ev->Res (Option Int)):Ev->Res D:=fun ρ=>(m ρ).bind fun x=>(lo ρ).bind fun l=>(hi ρ).bind fun u=>(st ρ).bind fun k=>(Res.lft (lstD x)).bind fun ds=>if k≠some 0 then .ok (.list (pick3 ds l u k)) else .no
theorem gP {H:Hp}{O:Addr->Prop}{vs:List V}{ds:List D}(r:Reps H O vs ds):∀ks:List Nat,Reps H O (ks.filterMap (vs[·]?)) (ks.filterMap (ds[·]?))
 | []=>.nil
 | k::ks=>by
  rw[List.filterMap_cons,List.filterMap_cons]
  cases e:ds[k]? with
  | none =>
   have:vs[k]?=none:=by
    rw[List.getElem?_eq_none_iff] at e ⊢
    rw[r.length];exact e
   rw[this]
   exact gP r ks
  | some d =>
   obtain⟨v,ev,rv⟩:=r.get e
   rw[ev]
   exact .cons rv (gP r ks)
theorem zB4 {C:Ct}{e st:Expr}{lo hi:Option Expr}{mda:Md}{me:Ev->Res D}{ml mh ms:Ev->Res (Option Int)}{p2 pos:Pos}(he:RE C mda e me) (hl:RO C lo ml) (hu:RO C hi mh) (hs:RO C (some st) ms) :
  RE C .new (.Subscript e (.Slice lo hi (some st) p2) pos) (eS3 me ml mh ms):=by
 obtain⟨t,p,q⟩:=he
 obtain⟨tl,pl,ql⟩:=hl
 obtain⟨th,ph,qh⟩:=hu
 obtain⟨ts,ps,qs⟩:=hs
 refine⟨_,zK5 p pl ph ps,fun Oc Ob σ H ρ Q R h=>q Oc Ob σ H ρ _ R (Res.zR (Res.zV h) (fun d _ k v H1 s1 r => ?_) fun _ z=>z)⟩
 refine ql Oc Ob σ H1 ρ _ (R.same s1) (Res.zR (Res.zV k) (fun l _ k H2 s2 => ?_) fun c z H' s'=>z H' (s1.trans s'))
 refine qh Oc Ob σ H2 ρ _ ((R.same s1).same s2) (Res.zR (Res.zV k) (fun u _ k H3 s3 => ?_) fun c z H' s'=>z H' ((s1.trans s2).trans s'))
 refine qs Oc Ob σ H3 ρ _ (((R.same s1).same s2).same s3) (Res.zR (Res.zV k) (fun st _ k H4 s4 => ?_) fun c z H' s'=>z H' (((s1.trans s2).trans s3).trans s'))
 obtain⟨ds,ed,k5⟩:=Res.zG (Res.zV k)
 clear k
 obtain rfl:=jR ed
 by_cases h0:st≠some 0
 ·rw[if_pos h0] at k5
  have S:=((s1.trans s2).trans s3).trans s4
  obtain⟨a,ys,rfl,rd,rs⟩:=((r.va R.oh).same ((s2.trans s3).trans s4)).list
  refine⟨h0,a,ys,rfl,.inl rd,fun _ p hp=>k5 _ _ (S.trans (Same.new hp)) (yA S hp ?_)⟩
  unfold pick3
  rw[rs.length]
  exact gP rs _
 ·rw[if_neg h0] at k5
  exact k5.elim
theorem yZ8 {α β:Type}(f:α->β) (xs:List α) (l u k:Option Int):pick3 (xs.map f) l u k=(pick3 xs l u k).map f:=by
 unfold pick3
 rw[List.length_map]
 generalize sliceRange (sliceBounds l u k xs.length).1 (sliceBounds l u k xs.length).2.1 (sliceBounds l u k xs.length).2.2=ks
 induction ks with
 | nil=>rfl
 | cons a ks ih =>
  rw[List.filterMap_cons,List.filterMap_cons,List.getElem?_map]
  cases xs[a]? with
  | none=>exact ih
  | some y=>rw[Option.map_some,List.map_cons,<-ih]
theorem xW9 (a:Ev->Res D) (l h st:Ev->Res (Option Int)) (ρ:Ev):eS3 a l h st ρ=(a ρ).bind fun x=>(l ρ).bind fun l=>(h ρ).bind fun u=>(st ρ).bind fun k=>(Res.lft (lstD x)).bind fun ds=>if k≠some 0 then .ok (.list (pick3 ds l u k)) else .no:=rfl
end L2.L3
namespace L2.L3
open PySem
theorem xV2 {xs:List Int}{i:Int}{j:Nat}(e:i=(j:Int)) (h:j<xs.length):atI (xs.map PyData.int) i=some (.int (xs.getD j 0)):=by
 rw[e,uS,vY h]
 rfl
theorem yJ3 {xs ys:List Int}(h:xs.length+ys.length<=1000):catL (lI xs) (lI ys)=some (lI (xs++ys)):=by
 unfold catL
 simp only
 rw[List.length_map,List.length_map,if_pos (Nat.le_of_lt (small1000 h))]
 simp only[lI,List.map_append]
theorem yE2 (xs:List Int):sumD [lI xs]=some (.int xs.sum):=by
 unfold sumD
 simp only[intsOf_map,Option.map_some]
end L2.L3
namespace L2.L3
open PySem
variable [CN]
section
variable {X:Cx}
end
section
variable {X:Cx}
end
end L2.L3
namespace L2.L3
open PySem PyProof.Rows
variable [CN]
section
variable {X:Cx}
end
section
variable {X:Cx}
end
section
variable {C:Ct}{fr:Bool}{md:Md}{e:Expr}{me:Ev->Res D}{pos:Pos}
def atP (xd:List D):D->Option D
 | .int j=>if 0<=j then atI xd j else none
 | _=>none
def sJ0 (i:Nat) (mk:Ev->Res D) (f:D->D->Option D) (me:Ev->Res D):Ev->Res Out:=fun ρ=>(eV i ρ).bind fun d=>(Res.lft (lstD d)).bind fun xd=>(mk ρ).bind fun k=>(Res.lft (atP xd k)).bind fun old=>(me ρ).bind fun v=>(Res.lft (f old v)).bind fun w=>(Res.lft (setD xd k w)).bind fun ds=>.ok (.nx (ρ.set i (some (.list ds))))
theorem xX6 (i:Nat) (mk:Ev->Res D) (f:D->D->Option D) (me:Ev->Res D) (ρ:Ev):sJ0 i mk f me ρ=(eV i ρ).bind fun d=>(Res.lft (lstD d)).bind fun xd=>(mk ρ).bind fun k=>(Res.lft (atP xd k)).bind fun old=>(me ρ).bind fun v=>(Res.lft (f old v)).bind fun w=>(Res.lft (setD xd k w)).bind fun ds=>.ok (.nx (ρ.set i (some (.list ds)))):=rfl
end
section
variable {X:Cx}{pins:List (Addr×Obj)}{σ:St}{H:Hp}{s:Shared}{h':Heap}
end
end L2.L3
namespace PySem
section
variable {prog:Program}{w:World}{A:Around}{E:Value->Shared->Prop}{s:Shared}
end
end PySem
namespace L2.L3
open PySem PyProof.Rows
variable [CN]
section
variable {C:Ct}{fr:Bool}{body:List Stmt}{m:Ev->Res Out}{mi:Ev->Res (List D)}{g:D->Ev->Option Ev}{pos:Pos}
def enumD (ds:List D):List D:=(List.range ds.length).map fun (i:Nat)=>PyData.tuple [.int (i:Int),ds.getD i .none]
def zQ2 (m:Ev->Res D):Ev->Res (List D):=fun ρ=>(m ρ).bind fun d=>(Res.lft (seqD d)).bind fun ds=>.ok (enumD ds)
end
theorem bK (m:Ev->Res D) (ρ:Ev):zQ2 m ρ=(m ρ).bind fun d=>(Res.lft (seqD d)).bind fun ds=>.ok (enumD ds):=rfl
end L2.L3
namespace PySem
section
variable {prog:Program}{w:World}{A:Around}{E:Value->Shared->Prop}{s:Shared}
end
end PySem
namespace L2.L3
open PySem PySem.Spec PyProof.Rows
variable [CN]
def sA (me:Ev->Res D) (g:D->Ev->Option Ev):Ev->Res Out:=fun ρ=>(me ρ).bind fun d=>(Res.lft (g d ρ)).bind fun ρ'=>.ok (.nx ρ')
theorem xQ7 (me:Ev->Res D) (g:D->Ev->Option Ev) (ρ:Ev):sA me g ρ=(me ρ).bind fun d=>(Res.lft (g d ρ)).bind fun ρ'=>.ok (.nx ρ'):=rfl
theorem yM4 {C:Ct}{fr:Bool}{e tg:Expr}{pos:Pos}{me:Ev->Res D}{g:D->Ev->Option Ev}(he:RE C .cl e me) (hg:RG C tg g) (hs:autoParam (swapsWithSole [tg] e pos.line C.X.env=pure false) zY._auto_1) (hw:autoParam (swappedStores [tg] e C.X.env=pure none) zY._auto_1)
  (h1:autoParam ((assignEach [tg] C.X.env).map (·.2)=[assign tg C.X.env]) zY._auto_1):RS C fr (.Assign [tg] e pos) (sA me g):=yB8 he hg hs hw h1
theorem zO5 {Oc:Wd}{Ob:Addr->Prop}{H:Hp}{vs:List V}{d:D}(r:VAs Oc Ob H vs [d]):∃v,vs=[v]/\VA Oc Ob H v d:=by
 cases r with
 | cons h t=>cases t;exact⟨_,rfl,h⟩
def intD:List D->Option D
 | [.int i]=>some (.int i)
 | [.bool b]=>some (.int (if b then 1 else 0))
 | _=>none
theorem yK3:PrC (fun xs H Q=>(∃i,xs=[.int i]/\Q (.int i) H)\/∃k,xs=[.bl k]/\Q (.int (if k then 1 else 0)) H) .cl intD:=by
 intro Oc Ob H vs ds d Q oh r e k
 unfold intD at e
 split at e
 ·cases e
  obtain⟨v,rfl,h⟩:=zO5 r
  exact .inl ⟨_,by rw[h.int],k _ H (Same.refl H) (Rep.int _)⟩
 ·cases e
  obtain⟨v,rfl,h⟩:=zO5 r
  exact .inr ⟨_,by rw[h.bool],k _ H (Same.refl H) (Rep.int _)⟩
 ·cases e
section
variable {X:Cx}
def rIdx (K:KFr):V->List V->Hp->VK->Prop:=fun x vs H Q=>∃(p:Addr) (xs:List V) (y:V) (j:Nat) (z:V),x=.ref p/\vs=[y]/\SqL K H p xs/\flatV y=true/\xs.all flatV=true/\xs[j]?=some z/\eqV z y=true/\(∀m z',m<j->xs[m]?=some z'->eqV z' y=false)/\j<2 ^ 62/\Q (.int j) H
theorem yP7:MtR X "list.index" (rIdx X.K):=by
 intro pins s σ H x vs v us Q I rx rv h
 obtain⟨p,xs,y,j,z,rfl,rfl,hq,fy,fs,hj,ez,no,hsm,q⟩:=h
 cases rx
 obtain⟨u,rfl,ru⟩:=vals1 rv
 obtain⟨its,r,pl,hz⟩:=I.list hq
 obtain⟨⟨c,dd,dt,sl⟩,e,hc,n,hd⟩:=pl.isList
 simp only at hc hd
 subst hc hd
 obtain⟨w0,hw0,rw0⟩:=r.get hj
 have hlen:=r.length
 have hjl:j<its.length:=(List.getElem?_eq_some_iff.mp hw0).1
 have flat:∀(m:Nat) (z':V),xs[m]?=some z'->flatV z'=true:=fun m z' hm=>List.all_eq_true.mp fs z' (List.mem_of_getElem? hm)
 refine call_meets F.slot_list_index ⟨_,e,rfl⟩ F.entry_list_index (F.args_list_index_2 _ _) (SeqAt.list_indexAt p its.toArray n dd sl u (eqU y) j (by simpa using hjl) (by bv_omega) ?_ ?_) ⟨e,fun w hw=>vC ru fy r fs w (by simpa using hw),?_⟩
 ·have ew:its.toArray[j]'(by simpa using hjl)=w0:=by
   have h2:=List.getElem?_eq_some_iff.mp hw0
   simpa using h2.2
  rw[ew,cE rw0 (flat j z hj),ez]
 ·intro m hm hlt
  have hm':m<its.length:=by simpa using hm
  obtain⟨z',hz'⟩:∃z',xs[m]?=some z':=⟨xs[m]'(by bv_omega),List.getElem?_eq_getElem (by bv_omega)⟩
  obtain⟨w1,hw1,rw1⟩:=r.get hz'
  have ew:its.toArray[m]'hm=w1:=by
   have h2:=List.getElem?_eq_some_iff.mp hw1
   simpa using h2.2
  rw[ew,cE rw1 (flat m z' hz'),no m z' hlt hz']
 ·exact⟨.int j,H,I.tok _,⟨_,rfl⟩,q⟩
end
def eM1 (f:List D->D->Option D) (mo ma:Ev->Res D):Ev->Res D:=fun ρ=>(mo ρ).bind fun x=>(Res.lft (lstD x)).bind fun ds=>(ma ρ).bind fun y=>Res.lft (f ds y)
theorem yC4 (f:List D->D->Option D) (mo ma:Ev->Res D) (ρ:Ev):eM1 f mo ma ρ=(mo ρ).bind fun x=>(Res.lft (lstD x)).bind fun ds=>(ma ρ).bind fun y=>Res.lft (f ds y):=rfl
def StepOk (i j k:Int):Prop:=k≠0/\k.natAbs.log2<9000/\Builtin.Range.small i j k=true/\0<=Builtin.Range.rangeSize i j k
instance (i j k:Int):Decidable (StepOk i j k):=by unfold StepOk;infer_instance
end L2.L3
namespace L2.L3
open PySem PyProof.Rows
variable [CN]
section
variable {X:Cx}
end
def revT:D->Option D
 | .list ds=>some (.tuple ds.reverse)
 | _=>none
def eRevT (m:Ev->Res D):Ev->Res D:=fun ρ=>(m ρ).bind fun d=>Res.lft (revT d)
theorem yS7 (m:Ev->Res D) (ρ:Ev):eRevT m ρ=(m ρ).bind fun d=>Res.lft (revT d):=rfl
end L2.L3
namespace L2
open PySem PyProof.Rows
structure CScope2 (sc0 scope:Scope) (N0:List Str) (xt yt:Str) (fs:List Str) (js:List Nat):Prop where
 kind:scope.kind=.function
 nocell:∀y∈scope.names,y.2 ≠ .cell
 names:∀y∈scope.names,y.2=.local->scope.names.lookup y.1=some .local
 tgt:scope.names.lookup xt=some .local
 tgt2:scope.names.lookup yt=some .local
 frees:∀y∈scope.names,y.2=.free->sc0.names.lookup y.1=some .cell\/sc0.names.lookup y.1=some .free
 len:js.length=fs.length
 slots:∀p∈fs.zip js,N0[p.2]?=some p.1/\scope.names.lookup p.1=some .free
 nd:(xt::yt::fs).Nodup
def compSt2 (σ:St) (js:List Nat) (v w:Option V):St:=v::w::js.map fun j=>(σ[j]?).join
section
variable {X:Cx}{pins:List (Addr×Obj)}{σ:St}{H:Hp}{s₂ s₄:Shared}{sc0 scope:Scope}{N0:List Str}{xt yt:Str}{fs:List Str}{js:List Nat}{fp:List Addr}
theorem CScope2.cells (S:CScope2 sc0 scope N0 xt yt fs js) (h0:X.env.scope=sc0) (ok:X.Ok):∀n,(n,NameKind.free)∈scope.names->∃c,X.env.cells.lookup n=some c:=fun n hn=>ok.has n (by subst h0;exact S.frees _ hn rfl)
theorem CScope2.sub (S:CScope2 sc0 scope N0 xt yt fs js) (h0:X.env.scope=sc0) (ok:X.Ok):∀x c,(clos X.env.cells scope.names []).lookup x=some c->X.env.cells.lookup x=some c :=
 kL scope.names [] (S.cells h0 ok) fun x c e=>by simp at e
theorem Inv.block2 (S:CScope2 sc0 scope N0 xt yt fs js) (h0:X.env.scope=sc0) (hN0:X.N=N0) (I:Inv X pins σ H s₂) (hf:∀b∈fp,FpOk X pins H b) (hfo:∀b∈fp,∃o,s₂.heap.get? b=some o)
  (hos:s₄.os=s₂.os) (hg:AllBare s₄.gens) (hk:∀b o,s₂.heap.get? b=some o->s₄.heap.get? b=some o){C:Addr}(hC:s₂.heap.objs.size<=C){m:Str->Option Value}(hn:s₄.heap.Ns C m) :
  Inv (cxComp X (xt::yt::fs) scope C fp s₂ H) [] (compSt2 σ js none none) H s₄:=by
 have sub:=S.sub h0 I.ok
 have blt:∀b∈fp,b<s₂.heap.objs.size:=fun b hb=>let ⟨o,e⟩:=hfo b hb;Heap.lt_size e
 have ok:(cxComp X (xt::yt::fs) scope C fp s₂ H).Ok:=by
  refine⟨I.ok.mod,S.kind,I.ok.glob,I.ok.blt,hC,fun x y c h1 h2=>I.ok.inj x y c (sub x c h1) (sub y c h2),fun x hx => ?_,fun x c h=>(nomatch h),I.ok.hd,I.ok.frames,.inl rfl,fun b hb=>⟨?_,fun x c h=>(hf b hb).2.2.2.2.1 x c (sub x c h)⟩,I.bs,Nat.le_trans I.ok.bsz I.sz,fun b o e hb => ?_,fun b hb hs => ?_,I.stack,I.stkFree,I.tb⟩
  ·have hx:(relabel scope X.env).names.lookup x=some .cell\/(relabel scope X.env).names.lookup x=some .free:=hx
   have hfree:scope.names.lookup x=some .free:=by
    rcases hx with hx | hx
    ·rcases vH hx with q | ⟨_,q⟩
     ·exact absurd rfl (S.nocell _ (PySem.mem_of_lookup q))
     ·exact q
    ·rcases vH hx with q | ⟨q,_⟩
     ·exact q
     ·cases q
   exact uT scope.names [] x (PySem.mem_of_lookup hfree)
  ·exact Nat.ne_of_lt (Nat.lt_of_lt_of_le (blt b hb) hC)
  ·rcases (hf b hb).2.2.2.1 with z | z
   ·exact I.ok.noex b o e z
   ·exact absurd (Nat.lt_of_lt_of_le (Heap.lt_size (I.ok.bs b o e).1) z) (Nat.lt_irrefl _)
  ·rcases List.mem_cons.mp (I.stkSub b hs) with z | z
   ·exact (hf b hb).2.1 z
   ·exact (hf b hb).2.2.1 z
 refine⟨ok,hos,hg,Un.kept hk,⟨m,hn,fun i x v e1 e2 e3 => ?_⟩,fun x c e => ?_,I.hok.fresh hC,fun x c e=>I.freeC x c (sub x c e),fun p hp=>absurd (show p∈([]:List (Addr×Obj)) from hp) (by simp),I.hok.kept hk,?_⟩
 ·cases i with
  | zero=>cases e2
  | succ i =>
   cases i with
   | zero=>cases e2
   | succ i =>
   have e1:fs[i]?=some x:=e1
   have e2:(js.map fun j=>(σ[j]?).join)[i]?=some (some v):=e2
   rw[List.getElem?_map] at e2
   cases ej:js[i]? with
   | none=>rw[ej] at e2;cases e2
   | some j =>
    rw[ej] at e2
    have e2:(σ[j]?).join=some v:=Option.some.inj e2
    obtain⟨hN,hfr⟩:=S.slots _ (aU e1 ej)
    have hN:X.N[j]?=some x:=by rw[hN0];exact hN
    have hk2:X.env.kindOf x=some .cell\/X.env.kindOf x=some .free:=by subst h0;exact S.frees _ (PySem.mem_of_lookup hfr) rfl
    have hs:σ[j]?=some (some v):=by
     cases q:σ[j]? with
     | none=>rw[q] at e2;cases e2
     | some z=>rw[q] at e2;rw[show z=some v from e2]
    obtain⟨m0,hn0,hl⟩:=I.loc
    obtain⟨u,r,l⟩:=hl j x v hN hs (by rcases hk2 with z | z;exact .inr (.inl z);exact .inr (.inr z))
    refine⟨u,r,?_⟩
    rcases l with ⟨hloc,_⟩ | ⟨_,c,hc,hcell⟩
    ·rcases hk2 with z | z
     ·rw[z] at hloc;cases hloc
     ·rw[z] at hloc;cases hloc
    ·obtain⟨c',hc'⟩:=uT (cells:=X.env.cells) scope.names [] x (PySem.mem_of_lookup hfr)
     have:c'=c:=Option.some.inj ((sub x c' hc').symm.trans hc)
     subst this
     exact .inr ⟨gH hfr,c',hc',hcell.keeps hk⟩
 ·obtain⟨v,z⟩:=I.cell x c (sub x c e)
  exact⟨v,z.keeps hk⟩
 ·show (compSt2 σ js none none).length=(xt::yt::fs).length
  unfold compSt2
  rw[List.length_cons,List.length_cons,List.length_map,List.length_cons,List.length_cons,S.len]
end
def tComp2 (K:KFr) (wi:TI) (tt:Addr->List Addr->Shared->Hp->TT) (te:Addr->List Addr->Shared->Hp->TE) (js:List Nat):TE:=fun σ H Q=>wi σ H fun J H1=>∀C fp s₂ H₂,∃W:Nat->Nat->List V->Hp->Prop,(∃m,W 0 m [] H1)/\∀i m acc H,W i m acc H ->
 (J.stop i H/\∀p,H p=none->Q (.ref p) (upd H p (.lst acc))) \/
 (J.go i H/\∃N:List V->Hp->Prop,(∀acc' H',N acc' H'->∃m',m'<m/\W (i+1) m' acc' H') /\
  ∀x H',J.yld i H x H'->∃ta x1 x2,x=.ref ta/\SqT K H' ta [x1,x2]/\tt C fp s₂ H₂ (compSt2 σ js (some x1) (some x2)) H' fun b H2=>if b=true then te C fp s₂ H₂ (compSt2 σ js (some x1) (some x2)) H2 fun v H3=>acc.length<sizeLine/\N (acc ++ [v]) H3 else N acc H2)
theorem yU7 {X:Cx}{elt iter:Expr}{ifs:List Expr}{sc0 scope:Scope}{N0:List Str}{px py tp pos:Pos}{k1:Nat}{xt yt:Str}{fs:List Str}{js:List Nat}{wi:TI}{tt:Addr->List Addr->Shared->Hp->TT}{te:Addr->List Addr->Shared->Hp->TE}(S:CScope2 sc0 scope N0 xt yt fs js) (h0:X.env.scope=sc0) (hN0:X.N=N0) (hc:X.calm=true)
  (hi:PI X (.Tuple [.Name xt px,.Name yt py] k1 tp) iter wi) (ht:∀C fp s₂ H,PTs (cxComp X (xt::yt::fs) scope C fp s₂ H) ifs (tt C fp s₂ H)) (he:∀C fp s₂ H,PE (cxComp X (xt::yt::fs) scope C fp s₂ H) elt (te C fp s₂ H))
  (hs:autoParam (∀x,foldedSetIterable iter X.env x=pure x) wC._auto_1) :
  PE X (.ListComp elt [⟨.Tuple [.Name xt px,.Name yt py] k1 tp,iter,ifs,0⟩] scope pos) (tComp2 X.K wi tt te js):=by
 intro pins s σ H Q I h
 rw[eval_ListComp]
 refine wpAny_comprehension_free (use:=none) rfl hs (hX (S.cells h0 I.ok)) S.kind S.names ?_
 refine thn (hi pins s σ H _ I h) fun v s1 h1=>thn h1 fun itv s2 h2 => ?_
 obtain⟨it,fp,tn,J,H2,e,I2,T,st2,f2,hW⟩:=h2
 subst e
 have fo:∀b∈fp,∃o,s2.heap.get? b=some o:=fun b hb=>let ⟨o,e,_⟩:=T.obj 0 s2.heap st2 b hb; ⟨o,e⟩
 have blt:∀b∈fp,b<s2.heap.objs.size:=fun b hb=>let ⟨o,e⟩:=fo b hb;Heap.lt_size e
 refine zZ5 S.nocell S.kind fun D C h₁ mC hDle hCle hDC old hacc hns₁ => ?_
 have bC:∀b o,s2.heap.get? b=some o->b≠C:=fun b o q z=>Nat.not_lt.mpr hCle (z▸Heap.lt_size q)
 have bD:∀b o,s2.heap.get? b=some o->b≠D:=fun b o q z=>Nat.not_lt.mpr hDle (z▸Heap.lt_size q)
 obtain⟨W,⟨m0,w0⟩,turn⟩:=hW C fp s2 H2
 have fpk:∀{H':Hp}(ob:Obj),(∀b∈fp,H' b=none)->∀b∈fp,FpOk (cxComp X (xt::yt::fs) scope C fp s2 H2) [(D,ob)] H' b:=fun {H'} ob hn b hb=>by
  refine⟨hn b hb,Nat.ne_of_lt (Nat.lt_of_lt_of_le (blt b hb) hCle),fun z => ?_,.inl hb,fun x c e=>(f2 b hb).2.2.2.2.1 x c (S.sub h0 I2.ok x c e),fun p hp => ?_⟩
  ·rcases List.mem_cons.mp (I2.stkSub b z) with q | q
   ·exact (f2 b hb).2.1 q
   ·exact (f2 b hb).2.2.1 q
  ·have:p=(D,ob):=by
    have hp:p ∈ [] ++ [(D,ob)]:=hp
    simpa using hp
   subst this
   exact Nat.ne_of_gt (Nat.lt_of_lt_of_le (blt b hb) hDle)
 have loop:codeAny (model X.prog X.w) X.A (.compLoop (.ListComp elt [⟨.Tuple [.Name xt px,.Name yt py] k1 tp,iter,ifs,0⟩] scope pos) 0 (.ref it) (.ref D) (compEnvC scope (clos X.env.cells scope.names []) C X.env))
    (compPost (model X.prog X.w) X.A X.xe none (EP X pins σ Q) (.ref D) C) { s2 with heap:=h₁ }:=by
  have J0:Inv (cxComp X (xt::yt::fs) scope C fp s2 H2) [] (compSt2 σ js none none) H2 { s2 with heap:=h₁ } :=
   Inv.block2 (s₂:=s2) (s₄:={ s2 with heap:=h₁ }) S h0 hN0 I2 f2 fo rfl I2.bare old hCle hns₁
  have H2D:H2 D=none:=I2.hok.fresh hDle
  have ofD:D∉frs X.stack:=fun z=>by
   rcases List.mem_cons.mp (I2.stkSub D z) with q | q
   ·exact absurd I2.lt (by rw[<-q];exact Nat.not_lt.mpr hDle)
   ·exact I2.nofs (a:=D) hDle q
  refine codeAny_loop rfl (fun n s'=>∃(i:Nat) (σ':St) (H':Hp) (acc:List V) (its:List Value) (k:Nat),(∃v0 w0,σ'=compSt2 σ js v0 w0)/\Inv (cxComp X (xt::yt::fs) scope C fp s2 H2) [] σ' H' s'/\tn i s'.heap/\(∀b∈fp,H' b=none)/\H' D=none /\
    s'.heap.get? D=some { cls:=.type "list",data:=.seq its.toArray k }/\Vals acc its/\acc.length<=sizeLine/\W i n acc H') ?_ m0
   ⟨0,_,H2,[],[],0,⟨none,none,rfl⟩,J0,T.keep 0 _ _ st2 fun b hb o e=>old b o e,fun b hb=>(f2 b hb).1,H2D,hacc,.nil,Nat.zero_le _,w0⟩
  rintro n s3 ⟨i,σ3,H3,acc,its,k,⟨v0,w0,rfl⟩,I3,st3,fr3,hD3,d3,va,hz,w3⟩
  show wpAny _ X.A ((compTurn (.ListComp elt [⟨.Tuple [.Name xt px,.Name yt py] k1 tp,iter,ifs,0⟩] scope pos) 0 (.ref it) (.ref D) (compEnvC scope (clos X.env.cells scope.names []) C X.env)).onRaise (fun x=>do noteFrame x (compEnvC scope (clos X.env.cells scope.names []) C X.env);theTreesLotGoes x)) _ _ s3
  refine wpAny_noted ?_
  rw[compTurn_list]
  refine wpAny_bind (wpAny_standAt ?_)
  have pinD:Inv (cxComp X (xt::yt::fs) scope C fp s2 H2) [(D,{ cls:=.type "list",data:=.seq its.toArray k })] (compSt2 σ js v0 w0) H3 s3:=I3.xT fun p hp=>by
   have:p=(D,{ cls:=.type "list",data:=.seq its.toArray k }):=by simpa using hp
   subst this
   exact⟨d3,hD3,hDC,ofD,fun v z=>by cases z⟩
  refine wpAny_bind ?_
  rcases turn i n acc H3 w3 with ⟨stop,qn⟩ | ⟨go,N,hN,step⟩
  ·refine thn (T.done (cxComp X (xt::yt::fs) scope C fp s2 H2) rfl rfl rfl hc i _ s3 _ H3 _ pinD (fpk _ fr3) st3 stop) fun r s4 ⟨hr,I4⟩ => ?_
   subst hr
   refine wpAny_pure ?_
   obtain⟨m4,hn4,_⟩:=I4.loc
   refine⟨m4,hn4,fun h' hsb=>⟨.ref D,_,I2.unblock f2 I4 hCle hDle hDC hD3 ((I4.pin (D,{ cls:=.type "list",data:=.seq its.toArray k }) (List.mem_append_right _ List.mem_cons_self)).1) va hz hsb,rfl,qn D hD3⟩⟩
  ·refine thn (T.item (cxComp X (xt::yt::fs) scope C fp s2 H2) rfl rfl rfl hc i _ s3 _ H3 _ pinD (fpk _ fr3) st3 go) fun r s4 ⟨u,hr,h4⟩ => ?_
   subst hr
   refine wpAny_bind (thn h4 fun _ s5 ⟨x,H5,I5,r5,y5,st5,fr5⟩ => ?_)
   have I5':=I5.pinned (fpk _ fr5) (T.obj _ _ st5)
   obtain⟨ta,x1,x2,ex,hx,q6⟩:=step x H5 y5
   have g0:PG (cxComp X (xt::yt::fs) scope C fp s2 H2) (.Name xt px) (gName 0):=uU S.nd rfl (.inl (lookup_relabel_local S.tgt)) (.inr (lookup_relabel_local S.tgt))
   have g1:PG (cxComp X (xt::yt::fs) scope C fp s2 H2) (.Name yt py) (gName 1):=uU S.nd rfl (.inl (lookup_relabel_local S.tgt2)) (.inr (lookup_relabel_local S.tgt2))
   have gok:PG (cxComp X (xt::yt::fs) scope C fp s2 H2) (.Tuple [.Name xt px,.Name yt py] k1 tp) (gTup X.K 2 (gCons (gName 0) (gCons (gName 1) gNil))):=yZ6 hc (dU g0 (dU g1 zL8))
   have noE:∀(a:Value) (s':Shared),(cxComp X (xt::yt::fs) scope C fp s2 H2).xe a s'->notedBy (model X.prog X.w) X.A (compEnvC scope (clos X.env.cells scope.names []) C X.env) (fun e s'=>compPost (model X.prog X.w) X.A X.xe none (EP X pins σ Q) (.ref D) C (.error e) s') a s':=fun _ _ z=>False.elim z
   refine wpAny_bind (wpAny_mono (gok _ s5 (compSt2 σ js v0 w0) H5 x u (fun σ' H'=>σ'=compSt2 σ js (some x1) (some x2)/\H'=H5) I5' r5 ⟨ta,[x1,x2],ex,hx,rfl,x1,[x2],rfl,x2,[],rfl,rfl,rfl,rfl⟩) (fun _ s6 ⟨σ6,H6,I6,e6,e6'⟩ => ?_) noE)
   subst e6 e6'
   have fin:∀{acc':List V}{its':List Value}{k':Nat}{H7:Hp}{s7:Shared},Inv (cxComp X (xt::yt::fs) scope C fp s2 H2) [] (compSt2 σ js (some x1) (some x2)) H7 s7->tn (i+1) s7.heap->(∀b∈fp,H7 b=none)->H7 D=none->s7.heap.get? D=some { cls:=.type "list",data:=.seq its'.toArray k' }->Vals acc' its'->acc'.length<=sizeLine->N acc' H7 ->
     ∃m,m<n/\∃(i:Nat) (σ':St) (H':Hp) (acc:List V) (its:List Value) (k:Nat),(∃v0 w0,σ'=compSt2 σ js v0 w0)/\Inv (cxComp X (xt::yt::fs) scope C fp s2 H2) [] σ' H' s7/\tn i s7.heap/\(∀b∈fp,H' b=none)/\H' D=none /\
      s7.heap.get? D=some { cls:=.type "list",data:=.seq its.toArray k }/\Vals acc its/\acc.length<=sizeLine/\W i m acc H':=fun {acc' its' k' H7 s7} a1 a2 a3 a4 a5 a6 a7 a8=>by
    obtain⟨m',hm,w7⟩:=hN _ _ a8
    exact⟨m',hm,i+1,_,H7,acc',its',k',⟨_,_,rfl⟩,a1,a2,a3,a4,a5,a6,a7,w7⟩
   have rest:∀{H7:Hp}{s7:Shared},Inv (cxComp X (xt::yt::fs) scope C fp s2 H2) ([(D,{ cls:=.type "list",data:=.seq its.toArray k })]++pinsAt fp s5.heap) (compSt2 σ js (some x1) (some x2)) H7 s7 ->
     tn (i+1) s7.heap/\(∀b∈fp,H7 b=none)/\H7 D=none/\s7.heap.get? D=some { cls:=.type "list",data:=.seq its.toArray k }:=fun {H7 s7} I7=>by
    refine⟨T.keep _ _ _ st5 fun b hb o e=>(I7.pin (b,o) (List.mem_append_right _ (List.mem_append_right _ (wO hb e)))).1,fun b hb => ?_,(I7.pin (D,{ cls:=.type "list",data:=.seq its.toArray k }) (List.mem_append_right _ (List.mem_append_left _ List.mem_cons_self))).2.1,(I7.pin (D,{ cls:=.type "list",data:=.seq its.toArray k }) (List.mem_append_right _ (List.mem_append_left _ List.mem_cons_self))).1⟩
    obtain⟨o,e,d⟩:=T.obj _ _ st5 b hb
    exact (I7.pin (b,o) (List.mem_append_right _ (List.mem_append_right _ (wO hb e)))).2.1
   have elem:∀{H7:Hp}{s7:Shared},Inv (cxComp X (xt::yt::fs) scope C fp s2 H2) ([(D,{ cls:=.type "list",data:=.seq its.toArray k })]++pinsAt fp s5.heap) (compSt2 σ js (some x1) (some x2)) H7 s7 ->
     (te C fp s2 H2 (compSt2 σ js (some x1) (some x2)) H7 fun v H3=>acc.length<sizeLine/\N (acc ++ [v]) H3) ->
     wpAny (model X.prog X.w) X.A (eval elt (compEnvC scope (clos X.env.cells scope.names []) C X.env)) (fun y s8=>wpAny (model X.prog X.w) X.A (call (.builtin "list.append") [.ref D,y]) (fun _ s9=>∃m,m<n/\∃(i:Nat) (σ':St) (H':Hp) (acc:List V) (its:List Value) (k:Nat),(∃v0 w0,σ'=compSt2 σ js v0 w0)/\Inv (cxComp X (xt::yt::fs) scope C fp s2 H2) [] σ' H' s9/\tn i s9.heap/\(∀b∈fp,H' b=none)/\H' D=none /\
      s9.heap.get? D=some { cls:=.type "list",data:=.seq its.toArray k }/\Vals acc its/\acc.length<=sizeLine/\W i m acc H')
      (fun _ _=>False) s8) (fun _ _=>False) s7:=fun {H7 s7} I7 q7=>by
    refine thn (he C fp s2 H2 _ s7 _ H7 _ I7 q7) fun y s8 ⟨v,H8,I8,r8,hl8,n8⟩ => ?_
    obtain⟨t8,fr8,hD8,d8⟩:=rest I8
    have hsz:=va.length
    refine call_meets F.slot_list_append ⟨_,d8,rfl⟩ F.entry_list_append (F.args_list_append_2 _ _) (PySem.list_append D its.toArray k y (by rw[List.size_toArray];bv_omega)) ⟨d8,?_⟩
    have q:=PySem.IsL.update d8 (·.push y)
    rw[show (its.toArray.push y)=(its ++ [y]).toArray by simp] at q
    have kk:∀b o,b≠D->s8.heap.get? b=some o->(s8.heap.update D (Obj.mapSeq (·.push y))).get? b=some o:=fun b o hb e=>(Heap.get?_update_other s8.heap _ (Ne.symm hb)).trans e
    have I9:Inv (cxComp X (xt::yt::fs) scope C fp s2 H2) [] (compSt2 σ js (some x1) (some x2)) H8 { s8 with heap:=s8.heap.update D (Obj.mapSeq (·.push y)) }:=by
     refine Inv.turned (it:=D) (t':=s8.toks) (I8.xT (pins':=[]) fun p hp=>nomatch hp) kk hD8 hDC (.inr hDle) (fun x c e z => ?_) fun p hp=>absurd (show p∈([]:List (Addr×Obj)) from hp) (by simp)
     obtain⟨v,o,ho,_⟩:=I2.cell x c (S.sub h0 I2.ok x c e)
     exact bD c o ho z
    refine fin I9 (T.keep _ _ _ t8 fun b hb o e=>kk b o (Nat.ne_of_lt (Nat.lt_of_lt_of_le (blt b hb) hDle)) e) fr8 hD8 q (va.append (.cons r8 .nil)) ?_ n8
    rw[List.length_append,List.length_singleton]
    bv_omega
   have htt:=ht C fp s2 H2
   generalize tt C fp s2 H2=tt' at htt q6
   cases htt with
   | nil =>
    refine wpAny_bind (wpAny_pure ?_)
    dsimp only[tTrue] at q6
    rw[if_pos rfl] at q6
    refine wpAny_mono (wpAny_bind (wpAny_bind (thn (elem I6 q6) fun y s8 h8=>wpAny_bind (thn h8 fun _ s9 h9=>wpAny_pure (wpAny_pure ⟨rfl,h9⟩))))) (fun _ _ z=>z) fun _ _ z=>False.elim z
   | one ht1 =>
    refine wpAny_bind (wpAny_tests_one (wpAny_mono (ht1 _ s6 _ H6 _ I6 q6) (fun b s7 ⟨H7,I7,q7⟩ => ?_) noE))
    cases b with
    | false =>
     rw[if_neg Bool.false_ne_true] at q7
     obtain⟨t8,fr8,hD8,d8⟩:=rest I7
     exact wpAny_pure ⟨rfl,fin (I7.xT (pins':=[]) fun p hp=>nomatch hp) t8 fr8 hD8 d8 va hz q7⟩
    | true =>
     rw[if_pos rfl] at q7
     refine wpAny_mono (wpAny_bind (wpAny_bind (thn (elem I7 q7) fun y s8 h8=>wpAny_bind (thn h8 fun _ s9 h9=>wpAny_pure (wpAny_pure ⟨rfl,h9⟩))))) (fun _ _ z=>z) fun _ _ z=>False.elim z
 exact codeAny_compStart_list loop (T.self X.A 0 _ _ _ (T.keep 0 _ _ st2 fun b hb o e=>old b o e) loop)
end L2
namespace L2.L3
open PySem PyProof.Rows
variable [CN]
def cEnv2 (ρ:Ev) (js:List Nat) (x y:D):Ev:=some x::some y::js.map fun j=>(ρ[j]?).join
def capt2 (js l:List Nat):List Nat:=((List.range js.length).filter fun i=>l.contains (js.getD i 0)).map (·+2)
def pr2 {α:Type}(d:D) (f:D->D->Res α):Res α :=
 match d with
 | .tuple [a,b]=>f a b
 | _=>.no
theorem xW6 {α:Type}{d:D}{f:D->D->Res α}{r:α}(h:pr2 d f=.ok r):∃a b,d=.tuple [a,b]/\f a b=.ok r:=by
 unfold pr2 at h
 split at h
 ·exact⟨_,_,rfl,h⟩
 ·cases h
def eComp2 (mi:Ev->Res (List D)) (mt:Ev->Res Bool) (me:Ev->Res D) (js:List Nat):Ev->Res D:=fun ρ=>(mi ρ).bind fun ds=>if ds.length<=sizeLine then (compM (fun d=>pr2 d fun x y=>mt (cEnv2 ρ js x y)) (fun d=>pr2 d fun x y=>me (cEnv2 ρ js x y)) ds).bind fun out=>.ok (.list out) else .no
theorem zB2 {js l:List Nat}{i:Nat}(h:i∈capt2 js l):∃k,i=k+2/\k<js.length/\js.getD k 0∈l:=by
 unfold capt2 at h
 obtain⟨k,hk,rfl⟩:=List.mem_map.mp h
 obtain⟨h1,h2⟩:=List.mem_filter.mp hk
 exact⟨k,rfl,List.mem_range.mp h1,List.contains_iff_mem.mp h2⟩
theorem aP {js l:List Nat}{k j:Nat}(h:js[k]?=some j) (hl:j∈l):k+2∈capt2 js l:=by
 unfold capt2
 refine List.mem_map.mpr ⟨k,List.mem_filter.mpr ⟨List.mem_range.mpr ?_,?_⟩,rfl⟩
 ·exact (List.getElem?_eq_some_iff.mp h).1
 ·rw[List.getD_eq_getElem?_getD,h]
  exact List.contains_iff_mem.mpr hl
theorem cJ {ρ:Ev}{js:List Nat}{x y d:D}{k:Nat}(h:(cEnv2 ρ js x y)[k+2]?=some (some d)):∃j,js[k]?=some j/\ρ[j]?=some (some d):=by
 unfold cEnv2 at h
 rw[List.getElem?_cons_succ,List.getElem?_cons_succ,List.getElem?_map] at h
 cases e:js[k]? with
 | none=>rw[e] at h;cases h
 | some j =>
  rw[e] at h
  refine⟨j,rfl,?_⟩
  have h:(ρ[j]?).join=some d:=Option.some.inj h
  cases q:ρ[j]? with
  | none=>rw[q] at h;cases h
  | some z=>rw[q] at h;rw[show z=some d from h]
theorem wQ {σ:St}{js:List Nat}{v0 w0:Option V}{v:V}{k j:Nat}(h:js[k]?=some j) (e:σ[j]?=some (some v)):(compSt2 σ js v0 w0)[k+2]?=some (some v):=by
 unfold compSt2
 rw[List.getElem?_cons_succ,List.getElem?_cons_succ,List.getElem?_map,h]
 show some ((σ[j]?).join)=_
 rw[e]
 rfl
def cW2 (Oc:Wd) (Ob:Addr->Prop) (σ:St) (js:List Nat):Wd:=⟨Uni Oc Ob,fun i=>adr ((compSt2 σ js none none)[i]?)⟩
theorem Rel.comp2 {Oc:Wd}{Ob:Addr->Prop}{om ln:List Nat}{σ:St}{H:Hp}{ρ:Ev}{js:List Nat}{x y:V}{d d2:D}(R:Rel Oc Ob om ln σ H ρ) (r:Rep H (Uni Oc Ob) x d) (r2:Rep H (Uni Oc Ob) y d2):Rel (cW2 Oc Ob σ js) (fun _=>False) [] (capt2 js (om++ln)) (compSt2 σ js (some x) (some y)) H (cEnv2 ρ js d d2) where
 len:=by unfold compSt2 cEnv2;simp
 val:=fun i d' e _ hl=>by
  cases i with
  | zero =>
   cases e
   exact⟨x,rfl,r.less fun b z=>z.elim id fun z=>z.elim⟩
  | succ k =>
   cases k with
   | zero =>
   cases e
   exact⟨y,rfl,r2.less fun b z=>z.elim id fun z=>z.elim⟩
   | succ k =>
   obtain⟨j,e1,e2⟩:=cJ e
   have h1:j∉om:=fun z=>hl (aP e1 (List.mem_append_left _ z))
   have h2:j∉ln:=fun z=>hl (aP e1 (List.mem_append_right _ z))
   obtain⟨v,q,rv⟩:=R.val j d' e2 h1 h2
   exact⟨v,wQ e1 q,rv.less fun b z=>z.elim id fun z=>z.elim⟩
 own:=fun i d' e h=>nomatch h
 lnt:=fun i d' e _ hl=>by
  obtain⟨k,rfl,hk,hj⟩:=zB2 hl
  obtain⟨j,e1,e2⟩:=cJ e
  rw[List.getD_eq_getElem?_getD,e1,Option.getD_some] at hj
  by_cases ho:j∈om
  ·obtain⟨v,q,a,ys,ds,z1,z2,z3,z4,z5⟩:=R.own j d' e2 ho
   have ea:(cW2 Oc Ob σ js).la (k+2)=a:=by show adr _=a;rw[wQ e1 q,z1];rfl
   exact⟨v,wQ e1 q,ys,ds,by rw[ea];exact z1,z2,by rw[ea];exact z3,by rw[ea];exact .inr z4,z5.less fun b z=>z.elim id fun z=>z.elim⟩
  ·have hl2:j∈ln:=(List.mem_append.mp hj).elim (fun z=>absurd z ho) id
   obtain⟨v,q,ys,ds,z1,z2,z3,z4,z5⟩:=R.lnt j d' e2 ho hl2
   have ea:(cW2 Oc Ob σ js).la (k+2)=Oc.la j:=by show adr _=_;rw[wQ e1 q,z1];rfl
   exact⟨v,wQ e1 q,ys,ds,by rw[ea];exact z1,z2,by rw[ea];exact z3,by rw[ea];exact .inl z4,z5.less fun b z=>z.elim id fun z=>z.elim⟩
 inj:=fun i j di dj a _ _ h=>nomatch h
 oh:=fun a z=>R.oh a (z.elim id fun z=>z.elim)
 ap:=fun a z=>z.elim
abbrev cC2 (C:Ct) (N:List Str) (scope:Scope) (A:Addr) (fp:List Addr) (s₂:Shared) (H:Hp) (js:List Nat):Ct:=⟨cxComp C.X N scope A fp s₂ H,fun _ _=>False,[],capt2 js (C.om++C.ln)⟩
theorem yQ1 {K:KFr}{H:Hp}{O:Addr->Prop}{x:V}{a b:D}(r:Rep H O x (.tuple [a,b])):∃ta x1 x2,x=.ref ta/\SqT K H ta [x1,x2]/\Rep H O x1 a/\Rep H O x2 b:=by
 cases r with
 | tup r n t =>
  cases t with
  | cons h1 t =>
   cases t with
   | cons h2 t =>
    cases t
    exact⟨_,_,_,rfl,.inl r,h1,h2⟩
theorem yX9 {C:Ct}{elt iter:Expr}{ifs:List Expr}{sc0 scope:Scope}{N0:List Str}{px py tp pos:Pos}{k1:Nat}{xt yt:Str}{fs:List Str}{js:List Nat}{mi:Ev->Res (List D)}{mt:Ev->Res Bool}{me:Ev->Res D}(S:CScope2 sc0 scope N0 xt yt fs js) (h0:C.X.env.scope=sc0) (hN0:C.X.N=N0) (hc:C.X.calm=true)
  (hi:RIc C (.Tuple [.Name xt px,.Name yt py] k1 tp) iter mi) (ht:∀A fp s₂ H,RTs (cC2 C (xt::yt::fs) scope A fp s₂ H js) ifs mt) (he:∀A fp s₂ H,RE (cC2 C (xt::yt::fs) scope A fp s₂ H js) .cl elt me)
  (hs:autoParam (∀x,foldedSetIterable iter C.X.env x=pure x) wC._auto_1) :
  RE C .new (.ListComp elt [⟨.Tuple [.Name xt px,.Name yt py] k1 tp,iter,ifs,0⟩] scope pos) (eComp2 mi mt me js):=by
 obtain⟨wi,pi,qi⟩:=hi
 refine⟨_,yU7 (tt:=fun A fp s H=>Classical.choose (ht A fp s H)) (te:=fun A fp s H=>Classical.choose (he A fp s H)) S h0 hN0 hc pi (fun A fp s H=>(Classical.choose_spec (ht A fp s H)).1) (fun A fp s H=>(Classical.choose_spec (he A fp s H)).1) hs,fun Oc Ob σ H ρ Q R h => ?_⟩
 refine qi Oc Ob σ H ρ _ R (Res.zR (Res.zV h) (fun ds _ k J H1 s1 wk => ?_) fun _ z=>z)
 intro A fp s₂ H₂
 have qt:=(Classical.choose_spec (ht A fp s₂ H₂)).2
 have qe:=(Classical.choose_spec (he A fp s₂ H₂)).2
 have k:(if ds.length<=sizeLine then (compM (fun d=>pr2 d fun x y=>mt (cEnv2 ρ js x y)) (fun d=>pr2 d fun x y=>me (cEnv2 ρ js x y)) ds).bind fun out=>Res.ok (PyData.list out) else .no).post (fun d=>∀v H',Same H H'->VR .new Oc Ob H H' v d->Q v H') (fun c=>∀H',Same H H'->C.XE c H'):=k
 by_cases hlen:ds.length<=sizeLine
 ·rw[if_pos hlen] at k
  generalize hT:(fun d=>pr2 d fun x y=>mt (cEnv2 ρ js x y))=T at k
  generalize hF:(fun d=>pr2 d fun x y=>me (cEnv2 ρ js x y))=F at k
  cases ec:compM T F ds with
  | no=>rw[ec] at k;exact k.elim
  | ex c =>
   exfalso
   have nex:∀xs c,compM T F xs ≠ .ex c:=by
    intro xs
    induction xs with
    | nil=>intro c z;cases z
    | cons x xs ih =>
     intro c z
     rw[compM] at z
     cases e1:noEx (T x) with
     | no=>rw[e1] at z;cases z
     | ex c'=>cases hx:T x <;> rw[hx] at e1 <;> cases e1
     | ok b =>
      rw[e1,Res.bind_ok] at z
      cases b with
      | false=>exact ih c z
      | true =>
       simp only[if_true] at z
       cases e2:noEx (F x) with
       | no=>rw[e2] at z;cases z
       | ex c'=>cases hx:F x <;> rw[hx] at e2 <;> cases e2
       | ok y =>
        rw[e2,Res.bind_ok] at z
        cases e3:compM T F xs with
        | no=>rw[e3] at z;cases z
        | ex c'=>exact ih c' e3
        | ok ys=>rw[e3] at z;cases z
   exact nex ds c ec
  | ok out =>
   rw[ec,Res.bind_ok] at k
   refine⟨fun i m acc H=>m=ds.length-i/\i<=ds.length/\Same H1 H/\∃done rest,Reps H (Uni Oc Ob) acc done/\acc.length<=i/\compM T F (ds.drop i)=.ok rest/\done++rest=out,⟨_,rfl,Nat.zero_le _,Same.refl _,[],out,.nil,Nat.le_refl _,ec,rfl⟩,?_⟩
   rintro i m acc H2 ⟨rfl,hi,s2,done,rest,ra,la,er,eo⟩
   obtain⟨w1,w2⟩:=wk H2 s2 i
   have R2:=(R.same s1).same s2
   by_cases hlt:i<ds.length
   ·obtain⟨go,yl⟩:=w1 ds[i] (List.getElem?_eq_getElem hlt)
    have ed:ds.drop i=ds[i]::ds.drop (i+1):=List.drop_eq_getElem_cons hlt
    rw[ed,compM] at er
    have nxt:∀(acc':List V) (H3:Hp) (done' rest':List D),Same H2 H3->Reps H3 (Uni Oc Ob) acc' done'->acc'.length<=i+1->compM T F (ds.drop (i+1))=.ok rest'->done'++rest'=out ->
      ∃m',m'<ds.length-i/\(m'=ds.length-(i+1)/\i+1<=ds.length/\Same H1 H3/\∃done rest,Reps H3 (Uni Oc Ob) acc' done/\acc'.length<=i+1/\compM T F (ds.drop (i+1))=.ok rest/\done++rest=out) :=
     fun acc' H3 done' rest' s3 r3 l3 c3 o3=>⟨_,by bv_omega,rfl,hlt,s2.trans s3,done',rest',r3,l3,c3,o3⟩
    refine .inr ⟨go,fun acc' H'=>∃m',m'<ds.length-i/\(m'=ds.length-(i+1)/\i+1<=ds.length/\Same H1 H'/\∃done rest,Reps H' (Uni Oc Ob) acc' done/\acc'.length<=i+1/\compM T F (ds.drop (i+1))=.ok rest/\done++rest=out),fun acc' H' z=>z,fun x H3 hy => ?_⟩
    obtain⟨s3,rx⟩:=yl x H3 hy
    cases e1:noEx (T ds[i]) with
    | no=>rw[e1] at er;cases er
    | ex c=>rw[e1] at er;cases er
    | ok b =>
     rw[e1,Res.bind_ok] at er
     have t0:=fO e1
     rw[<-hT] at t0
     obtain⟨da,db,ed2,t1⟩:=xW6 t0
     rw[ed2] at rx
     obtain⟨ta,x1,x2,rfl,hsq,rx1,rx2⟩:=yQ1 (K:=C.X.K) rx
     have R3:=(R2.same s3).comp2 (js:=js) rx1 rx2
     refine⟨ta,x1,x2,rfl,hsq,?_⟩
     refine qt _ _ _ H3 _ _ R3 ?_
     show (mt (cEnv2 ρ js da db)).post _ _
     rw[t1]
     intro H4 s4
     cases b with
     | false=>exact iteF (nxt acc H4 done rest (s3.trans s4) (ra.same (s3.trans s4)) (by bv_omega) er eo)
     | true =>
      refine iteT ?_
      simp only[if_true] at er
      cases e2:noEx (F ds[i]) with
      | no=>rw[e2] at er;cases er
      | ex c=>rw[e2] at er;cases er
      | ok y =>
       rw[e2,Res.bind_ok] at er
       have t2:me (cEnv2 ρ js da db)=.ok y:=by
        have t2:=fO e2
        rw[<-hF,ed2] at t2
        exact t2
       refine qe _ _ _ H4 _ _ (R3.same s4) ?_
       show (me (cEnv2 ρ js da db)).post _ _
       rw[t2]
       intro v H5 s5 rv
       refine⟨by bv_omega,?_⟩
       obtain⟨ys,e3⟩:∃ys,compM T F (ds.drop (i+1))=.ok ys:=by
        cases e3:compM T F (ds.drop (i+1)) with
        | no=>rw[e3] at er;cases er
        | ex c=>rw[e3] at er;cases er
        | ok ys=>exact⟨ys,rfl⟩
       rw[e3,Res.bind_ok] at er
       cases er
       have rv':Rep H5 (Uni Oc Ob) v y:=Rep.less rv fun b z=>.inl z
       refine nxt (acc ++ [v]) H5 (done ++ [y]) ys ((s3.trans s4).trans s5) ((ra.same ((s3.trans s4).trans s5)).append (.one rv')) (by rw[List.length_append,List.length_singleton];bv_omega) e3 ?_
       rw[List.append_assoc]
       exact eo
   ·have ei:i=ds.length:=by bv_omega
    subst ei
    refine .inl ⟨w2 (Nat.le_refl _),fun p hp => ?_⟩
    rw[List.drop_length] at er
    cases er
    rw[List.append_nil] at eo
    subst eo
    exact k _ _ ((s1.trans s2).trans (Same.new hp)) (yA (s1.trans s2) hp ra)
 ·rw[if_neg hlen] at k
  exact k.elim
section
variable {X:Cx}{pins:List (Addr×Obj)}{σ:St}{H:Hp}{s:Shared}{h':Heap}
end
structure Apart5 (z TI TO i1 i2:Addr):Prop where
 TIz:TI≠z
 TOz:TO≠z
 i1z:i1≠z
 i2z:i2≠z
 TITO:TI≠TO
 TIi1:TI≠i1
 TIi2:TI≠i2
 TOi1:TO≠i1
 TOi2:TO≠i2
 i12:i1≠i2
end L2.L3
namespace L2
open PySem PySem.Spec PyProof.Rows
end L2
namespace L2.L3
open PySem PySem.Spec PyProof.Rows
variable [CN]
end L2.L3
namespace L2.L3
open PySem
variable [CN]
theorem yY1 (mi:Ev->Res (List D)) (mt:Ev->Res Bool) (me:Ev->Res D) (js:List Nat) (ρ:Ev):eComp2 mi mt me js ρ=(mi ρ).bind fun ds=>if ds.length<=sizeLine then (compM (fun d=>pr2 d fun x y=>mt (cEnv2 ρ js x y)) (fun d=>pr2 d fun x y=>me (cEnv2 ρ js x y)) ds).bind fun out=>.ok (.list out) else .no:=rfl
end L2.L3
namespace L2.L3
open PySem PyProof.Rows
variable [CN]
section
variable {X:Cx}
end
def revL:D->Option D
 | .list ds=>some (.list ds.reverse)
 | _=>none
def eRevL (m:Ev->Res D):Ev->Res D:=fun ρ=>(m ρ).bind fun d=>Res.lft (revL d)
theorem yW7 (m:Ev->Res D) (ρ:Ev):eRevL m ρ=(m ρ).bind fun d=>Res.lft (revL d):=rfl
end L2.L3
namespace HT
open PySem PyProof.Rows
section
variable {prog:Program}{w:World}{A:Around}{E:Value->Shared->Prop}{s:Shared}
theorem yU2 {t b:Addr}{ws:List Value}{Q:Value->Shared->Prop}(ht:IsTup s.heap t ([]:List Value).toArray) (hb:IsTup s.heap b ws.toArray) (h:Q (.ref b) s):wpAny (model prog w) A (binaryOp .Add (.ref t) (.ref b)) Q E s:=by
 obtain⟨⟨cls,dd,data,sl⟩,ho,hc,n,hd⟩:=id ht
 obtain⟨⟨cls2,dd2,data2,sl2⟩,ho2,hc2,n2,hd2⟩:=id hb
 simp only at hc hd hc2 hd2
 subst hc hd hc2 hd2
 exact concat_meets ⟨_,ho,rfl⟩ ⟨_,ho2,rfl⟩ noFill_tuple_add seq_tuple_add PySem.F.slot_tuple_add PySem.F.entry_tuple_add (PySem.F.args_tuple_add_2 _ _)
  (tuple_addW0 t b ([]:List Value).toArray ws.toArray n n2 dd dd2 sl sl2 (by simp)) ⟨ho,ho2,h⟩
end
end HT
namespace L2.L3
open PySem PyProof.Rows
variable [CN]
section
variable {X:Cx}
def rCatU (K:KFr):R2:=fun x y H Q=>∃a b xs ys,x=.ref a/\y=.ref b/\SqT K H a xs/\SqT K H b ys/\xs.length+ys.length<=sizeLine /\
 (xs=[]->Q (.ref b) H)/\(xs ≠ []->ys=[]->Q (.ref a) H)/\(xs ≠ []->ys ≠ []->∀p,H p=none->Q (.ref p) (upd H p (.tup (xs++ys))))
theorem bF:OpR X (binaryOp .Add) (rCatU X.K):=by
 intro pins s σ H x y v u Q I rx ry h
 obtain⟨a,b,xs,ys,rfl,rfl,ha,hb,hz,q0,q1,q2⟩:=h
 by_cases hx:xs=[]
 ·cases rx
  cases ry
  obtain⟨its,r1,p1,_⟩:=I.tuple ha
  obtain⟨its2,r2,p2,_⟩:=I.tuple hb
  subst hx
  cases r1
  exact HT.yU2 p1 p2 ⟨.ref b,H,I,rfl,q0 rfl⟩
 ·exact yH1 pins s σ H _ _ v u Q I rx ry ⟨a,b,xs,ys,rfl,rfl,ha,hb,hx,hz,q1 hx,q2 hx⟩
end
def catT:D->D->Option D
 | .tuple xs,.tuple ys=>if xs.length+ys.length<=sizeLine then some (.tuple (xs++ys)) else none
 | _,_=>none
theorem zF4 {Oc:Wd}{Ob:Addr->Prop}{H:Hp}{v:V}{ds:List D}(h:VA Oc Ob H v (.tuple ds)):Rep H (Uni Oc Ob) v (.tuple ds):=by
 rcases h with h | ⟨a,ys,ds,rfl,e,e3,e5⟩
 ·exact h
 ·cases e
theorem bQ {K:KFr}:Pr2 (rCatU K) .cl catT:=by
 intro Oc Ob H x y dx dy d Q oh vx vy e k
 cases dx with
 | tuple xs =>
  cases dy with
  | tuple ys =>
   obtain⟨a,vs,rfl,rd,rs⟩:=vx.tuple
   obtain⟨b,ws,rfl,rd',rs'⟩:=vy.tuple
   unfold catT at e
   simp only at e
   split at e
   ·rename_i hl
    cases e
    refine⟨a,b,vs,ws,rfl,rfl,.inl rd,.inl rd',by rw[rs.length,rs'.length];exact hl,fun z => ?_,fun z1 z2 => ?_,fun _ _ p hp=>k _ _ (Same.new hp) (fP oh hp (rs.append rs'))⟩
    ·subst z
     cases rs
     exact k _ H (Same.refl H) (zF4 vy)
    ·subst z2
     cases rs'
     rw[List.append_nil] at k
     exact k _ H (Same.refl H) (zF4 vx)
   ·cases e
  | _=>cases e
 | _=>cases e
theorem bS {xs ys:List Int}(h:xs.length+ys.length<=1000):catT (tI xs) (tI ys)=some (tI (xs++ys)):=by
 show (if (xs.map PyData.int).length+(ys.map PyData.int).length<=sizeLine then some (PyData.tuple (xs.map PyData.int++ys.map PyData.int)) else none)=_
 rw[if_pos (by rw[List.length_map,List.length_map];exact Nat.le_trans h (by decide)),<-List.map_append]
end L2.L3
namespace L2.L3
open PySem PySem.Spec PyProof.Rows
variable [CN]
section
variable {X:Cx}
end
end L2.L3
namespace HT
open PySem PyProof.Rows
section
open PySem.SeqAt
open PySem.AutoSeq1 (wpAny_loadPart')
open PySem.MeetsSeq PySem.MeetsSeq2 PySem.MeetsSeq3
end
section
variable {prog:Program}{w:World}{A:Around}{E:Value->Shared->Prop}{s:Shared}
end
end HT
namespace L2.L3
open PySem PySem.Spec PyProof.Rows
variable [CN]
section
variable {X:Cx}
end
end L2.L3
namespace L2.L3
open PySem PyProof.Rows
variable [CN]
section
variable {X:Cx}
end
end L2.L3
namespace L2.L3
universe u
theorem ls0 {α:Type u}{P:List α->Prop}(h:P []):∀us:List α,us.length=0->P us:=fun us e=>by
 rw[List.eq_nil_of_length_eq_zero e]
 exact h
theorem lsS {α:Type u}{P:List α->Prop}{n:Nat}(h:∀a us,us.length=n->P (a::us)):∀us:List α,us.length=n+1->P us:=fun us e=>by
 cases us with
 | nil=>cases e
 | cons a us=>exact h a us (Nat.succ.inj e)
theorem ls1 {α:Type u}{P:List α->Prop}(h:∀a,P [a]):∀us:List α,us.length=1->P us:=lsS fun a=>ls0 (h a)
theorem ls2 {α:Type u}{P:List α->Prop}(h:∀a b,P [a,b]):∀us:List α,us.length=2->P us:=lsS fun a=>ls1 (h a)
theorem ls3 {α:Type u}{P:List α->Prop}(h:∀a b c,P [a,b,c]):∀us:List α,us.length=3->P us:=lsS fun a=>ls2 (h a)
theorem ls4 {α:Type u}{P:List α->Prop}(h:∀a b c d,P [a,b,c,d]):∀us:List α,us.length=4->P us:=lsS fun a=>ls3 (h a)
theorem ls5 {α:Type u}{P:List α->Prop}(h:∀a b c d e,P [a,b,c,d,e]):∀us:List α,us.length=5->P us:=lsS fun a=>ls4 (h a)
theorem ls6 {α:Type u}{P:List α->Prop}(h:∀a b c d e f,P [a,b,c,d,e,f]):∀us:List α,us.length=6->P us:=lsS fun a=>ls5 (h a)
end L2.L3
namespace L2.L3
open PySem PySem.Spec PyProof.Rows
variable [CN]
def Raw (B:Heap) (e:Addr) (cls a0:Value) (h:Heap):Prop :=
 h.TracedW B e cls a0\/∃oe vs,h.get? e=some oe/\oe.cls=cls/\oe.data=.fields vs/\vs[1]?=some .none/\vs[0]?=some a0
structure Fl (stk:List Env) (h1:Heap) (H:Hp) (e:Addr) (cls:Value) (B:Heap) (a0:Value) (h:Heap):Prop where
 stays:B.StaysIn h
 newB:B.get? e=none
 frm:h.FunFrames B stk
 raw:Raw B e cls a0 h
 cov:∀b o,h.get? b=some o->b∉frs stk->(h1.get? b≠none\/H b≠none)->B.get? b=some o
def ExcAt (X:Cx) (c:Str) (H:Hp) (e:Value) (s:Shared):Prop :=
 ∃(pins:List (Addr×Obj)) (σ:St) (s1:Shared) (H1:Hp) (a:Addr) (B:Heap) (a0:Value),Inv X pins σ H1 s1/\Inv X pins σ H s/\Un (frs X.stack) [] H1 H s1.heap s.heap/\e=.ref a/\s1.heap.get? a=none/\H a=none/\Fl X.stack s1.heap H a (.ref (CN.ad c)) B a0 s.heap
def CXV (P:Program) (w:World):CXT:=fun outer H s E e s' =>
 ∃(a:Addr) (cls:Value) (B:Heap) (a0:Value) (H':Hp),e=.ref a/\s'.os=s.os/\AllBare s'.gens/\Un (frs outer) [] H H' s.heap s'.heap/\HOk P w H' s'.heap/\s.heap.get? a=none/\H' a=none/\Fl outer s.heap H' a cls B a0 s'.heap/\E cls none H'
theorem gW {P:Program}{w:World}{H:Hp}{h:Heap}{a:Addr}{o:HO}(x:ObjOk P w H h a o):∃u,h.get? a=some u:=by
 cases o with
 | lst xs=>exact⟨_,x.2.choose_spec.choose_spec.2⟩
 | tup xs=>obtain⟨_,its,_,ob,e,_⟩:=x;exact⟨ob,e⟩
 | dK kvs=>obtain⟨_,_,_,_,ob,_,_,e,_⟩:=x;exact⟨ob,e⟩
 | dT kvs=>obtain⟨_,_,_,_,ob,_,_,e,_⟩:=x;exact⟨ob,e⟩
 | set S n=>obtain⟨ob,_,_,_,e,_⟩:=x;exact⟨ob,e⟩
 | ins C dx fs=>obtain⟨_,_,_,e,_⟩:=x;exact⟨_,e⟩
 | own y=>exact x
 | xd fs=>obtain⟨_,⟨ob,_,_,e,_⟩,_⟩:=x;exact⟨ob,e⟩
 | rng lo hi=>obtain⟨_,_,_,e⟩:=x;exact⟨_,e⟩
 | frz ob u=>exact⟨ob,x.1⟩
 | tbl ps=>obtain⟨_,e,_⟩:=x;exact⟨_,e⟩
 | met f y=>exact⟨_,x⟩
 | ext φ=>exact x.2.1
theorem aK {P:Program}{w:World}{H:Hp}{h:Heap}{a:Addr}(x:HOk P w H h) (n:H a≠none):∃u,h.get? a=some u:=by
 cases e:H a with
 | none=>exact absurd e n
 | some o=>exact gW (x a o e)
theorem jA {α:Type}{o:Option α}(h:o≠none):∃x,o=some x:=by
 cases o with
 | none=>exact absurd rfl h
 | some x=>exact⟨x,rfl⟩
theorem vW {α:Type}{o:Option α}{x:α}(h:o=some x):o≠none:=by
 rw[h];exact fun z=>nomatch z
theorem yY6 {X:Cx}{c:Str}{H:Hp}{e:Value}{s:Shared}{E:XK}{E2:Value->Shared->Prop}(x:ExcAt X c H e s) (hst:X.stack=X.env::X.outer) (hfr:X.env.frame=some X.env.locals) (hex:X.ex=[]) (hE:E (.ref (CN.ad c)) none H) :
  wpAny (model X.prog X.w) X.A (leaving X.env e) (fun _ s''=>CXV X.prog X.w X.outer X.H₀ X.s₀ E e s'') E2 s:=by
 obtain⟨pins,σ,s1,H1,a,B,a0,I1,I,un,rfl,n1,n2,f⟩:=x
 have noex:∀b:Addr,b∉X.ex:=fun b z=>by rw[hex] at z;cases z
 have hfs:frs X.stack=X.env.locals::X.fs:=by
  rw[hst]
  show List.filterMap _ _=_
  rw[List.filterMap_cons,hfr]
  rfl
 have hfrm:s.heap.FunFrames B (X.env::X.outer):=by rw[<-hst];exact f.frm
 have hA:X.A.frames=some (X.env::X.outer):=by rw[<-hst];exact I.ok.frames
 have oldL:∀b o,X.s₀.heap.get? b=some o->b≠X.env.locals:=fun b o q z=>by
  subst z
  exact absurd (Heap.lt_size q) (Nat.not_lt.mpr I.ok.above)
 have old1:∀b o,X.s₀.heap.get? b=some o->s1.heap.get? b≠none:=fun b o q=>let ⟨_,e⟩:=I1.base.there b o q (noex b);vW e
 have key:∀h',Heap.LeftW B (X.env::X.outer) a (.ref (CN.ad c)) a0 s.heap h'->CXV X.prog X.w X.outer X.H₀ X.s₀ E (.ref a) { s with heap:=h' }:=by
  rintro h' ⟨k1,k2,k3,k4⟩
  have kp:∀b o,s.heap.get? b=some o->b∉frs X.stack->(s1.heap.get? b≠none\/H b≠none)->h'.get? b=some o:=fun b o q n z=>k1 b o (f.cov b o q n z)
  have out:∀b,b∉X.fs->b≠X.env.locals->b∉frs X.stack:=fun b n1 n2 z=>by
   rw[hfs] at z
   rcases List.mem_cons.mp z with z | z
   ·exact n2 z
   ·exact n1 z
  have trk:∀b,H b≠none->b∉frs X.stack:=fun b n z=>n (I.stkFree b z)
  refine⟨a,_,B,a0,H,rfl,I.os,I.bare,⟨fun b o q n hb hx => ?_,fun b o q n hb hx => ?_,fun b o q n hx=>I.base.free b o q n (noex b),fun b o q hx => ?_,I.base.tups,I.base.frzs,I.base.tbls⟩,fun b o q => ?_,?_,n2,⟨k1,f.newB,k2.2.2,.inl k3,fun b o q n z => ?_⟩,hE⟩
  ·exact kp b o (I.base.keep b o q n hb (noex b)) (out b hb (oldL b o q)) (.inl (old1 b o q))
  ·obtain⟨sl,e⟩:=I.base.slot b o q n hb (noex b)
   obtain⟨_,o',e',nf⟩:=f.frm.mem (b:=b) (by show b∈frs X.stack;rw[hfs];exact List.mem_cons_of_mem _ hb)
   rw[e] at e'
   cases e'
   obtain⟨sl',e2⟩:=k4 b _ e nf
   exact⟨sl',e2⟩
  ·by_cases hb:b∈frs X.stack
   ·obtain⟨_,o',e',_⟩:=k2.mem (b:=b) (by rw[hst] at hb;exact hb)
    exact⟨o',e'⟩
   ·obtain⟨o',e'⟩:=I.base.there b o q (noex b)
    exact⟨o',kp b o' e' hb (.inl (old1 b o q))⟩
  ·refine (I.hok b o q).stay (fun b' u hb' e => ?_) (fun _ z=>z) fun _ _ z=>z
   have n:H b'≠none:=by
    rcases hb' with rfl | hb'
    ·exact vW q
    ·exact vW hb'
   exact kp b' u e (trk b' n) (.inr n)
  ·cases q:X.s₀.heap.get? a with
   | none=>rfl
   | some o=>exact absurd n1 (old1 a o q)
  ·have nL:b≠X.env.locals:=by
    rcases z with z | z
    ·obtain⟨o',q'⟩:=jA z
     exact oldL b o' q'
    ·intro y
     subst y
     exact z I.free
   have ns:b∉frs X.stack:=out b n nL
   obtain⟨o2,q2⟩:∃o2,s.heap.get? b=some o2:=by
    rcases z with z | z
    ·obtain⟨o',q'⟩:=jA z
     exact I.base.there b o' q' (noex b)
    ·exact aK I.hok z
   have z':s1.heap.get? b≠none\/H b≠none:=by
    rcases z with z | z
    ·obtain⟨o',q'⟩:=jA z
     exact .inl (old1 b o' q')
    ·exact .inr z
   have hB:=f.cov b o2 q2 ns z'
   have q3:=k1 b o2 hB
   have q4:h'.get? b=some o:=q
   rw[q3] at q4
   cases q4
   exact hB
 rcases f.raw with t | ⟨oe,vs,he,hc,hd,h1,h0⟩
 ·exact wpAny_leaving_nextW hA hfrm hfr t f.stays f.newB key
 ·rw[<-hc] at key
  exact wpAny_leaving_firstW hA hfrm hfr he f.stays f.newB hd h1 h0 key
def Br (C:Ct):Prop:=∀(c:Str) (H:Hp) (e:Value) (s:Shared),ExcAt C.X c H e s->C.XE c H->C.X.xe e s
theorem zI1 {C:Ct}(h:∀c H,C.XE c H->False):Br C:=fun c H _ _ _ z=>(h c H z).elim
def wX (C:Ct):XK:=fun v _ H=>∃c,v=.ref (CN.ad c)/\C.XE c H
theorem passX {C:Ct}(hb:Br C):Passes (CXV C.X.prog C.X.w) C.X (wX C):=by
 intro pins σ H s e s' I h
 obtain⟨a,cls,B,a0,H',rfl,os,bare,un,hok,n1,n2,f,c,rfl,z⟩:=h
 exact hb c H' _ s' ⟨pins,σ,s,H,a,B,a0,I,I.call' os un hok bare (fun b z=>by cases z),un,rfl,n1,n2,f⟩ z
def spX (fr:Bool) (F:List D->Res D):Sp:=fun vs H Q E=>∃(ds:List D) (O:Addr->Prop),(∀a,O a->H a≠none)/\Reps H O vs ds/\(F ds).post (fun d=>∀v H',Same H H'->CallOk fr O H H' v d->Q v H') (fun c=>∀H',Same H H'->E (.ref (CN.ad c)) none H')
section
variable {P:Program}{w:World}{K:KFr}{mg:Str->Option Value}{base:Heap}
abbrev bodyX (P:Program) (w:World) (K:KFr) (mg:Str->Option Value) (base:Heap) (N:List Str) (x:Str) (sc:Scope) (f:Addr) (cdv:Value) (A:Around) (outer:List Env) (s:Shared) (H:Hp) (E:XK) (om:List Nat):Ct :=
 ⟨cxOf (CXV P w) P w K mg base N x sc f cdv A outer s H E,fun c H'=>E (.ref (CN.ad c)) none H',om,[]⟩
theorem yG {N:List Str}{x:Str}{sc:Scope}{f:Addr}{cdv:Value}{A:Around}{outer:List Env}{s:Shared}{H:Hp}{E:XK}{om:List Nat}:Br (bodyX P w K mg base N x sc f cdv A outer s H E om) :=
 fun c H' e s' x h=>yY6 x rfl rfl rfl h
theorem xG {x:Str}{st:Stmt}{f:Addr}{fd:FuncData}{N ps:List Str}{k:Nat}{m:Ev->Res Out}{fr:Bool}(om:List Nat) (F:Fun K x x st f fd) (S:zI N ps (zW st))
  (hbody:∀(cdv:Value) (A:Around) (outer:List Env) (s:Shared) (H:Hp) (E:XK),Room k (A.deeper (envOfC x (zW st) s.heap.objs.size f cdv))->RSs (bodyX P w K mg base N x (zW st) f cdv A outer s H E om) fr (defBody st) m)
  (hom:autoParam (om.all (fun i=>decide (ps.length<=i))=true) zY._auto_1) :
  FnOk P w K mg base (CXV P w) (k+1) f fd ps (spX fr (runF fr ps.length N.length m)):=by
 have len:∀(vs:List V) (H:Hp) (Q:VK) (E:XK),spX fr (runF fr ps.length N.length m) vs H Q E->vs.length=ps.length:=fun vs H Q E h=>by
  obtain⟨ds,O,oh,r,k⟩:=h
  unfold runF at k
  split at k
  ·rename_i hl
   rw[r.length];exact hl
  ·exact k.elim
 obtain⟨oc,od,kV,doc,pm,an,cdv,ct,osl,rfl,lk,hcd⟩:=F.ex
 refine zX3 lk hcd S len fun A outer s H vs Q E hr h => ?_
 have hvl:=len vs H Q E h
 obtain⟨ds,O,oh,r,k⟩:=h
 have hl:ds.length=ps.length:=by rw[<-r.length];exact hvl
 unfold runF at k
 rw[if_pos hl] at k
 obtain⟨t,p,q⟩:=hbody cdv A outer s H E hr
 refine⟨t,p,q ⟨O,fun _=>0⟩ (fun _=>False) _ H (ds.map some++List.replicate (N.length-ps.length) none) _ ?_ ?_⟩
 ·refine⟨?_,fun i d e _ _ => ?_,fun i d e ho => ?_,fun i d e _ hl=>(nomatch hl),fun i j di dj a ei _ ho _ _ _ => ?_,fun a z=>oh a (z.elim id fun z=>z.elim),fun a z=>z.elim⟩
  ·unfold start
   rw[List.length_append,List.length_append,List.length_map,List.length_map,List.length_replicate,List.length_replicate,hvl,hl]
  ·obtain⟨v,ev,rv⟩:=r.get (xR e)
   exact⟨v,dL ev,rv.less fun b z=>z.elim id fun z=>z.elim⟩
  ·have h1:=(List.getElem?_eq_some_iff.mp (xR e)).1
   have h2:ps.length<=i:=of_decide_eq_true (List.all_eq_true.mp hom i ho)
   bv_omega
  ·have h1:=(List.getElem?_eq_some_iff.mp (xR ei)).1
   have h2:ps.length<=i:=of_decide_eq_true (List.all_eq_true.mp hom i ho)
   bv_omega
 ·have same:∀{H':Hp},Frm (fun _=>False) H H'->Same H H':=fun f b o e=>f b o e fun z=>z
  refine Res.zR (Res.zV k) (fun o _ k => ?_) fun c z H' f=>z H' (same f)
  cases o with
  | rt d =>
   intro v H' f rt
   refine k v H' (same f) ?_
   cases fr with
   | false=>exact rt
   | true =>
    obtain⟨a,ys,ds,e1,e2,e3,e4,e5,e6⟩:=rt
    exact⟨a,ys,ds,e1,e2,e3.elim id fun z=>z.elim,e5,e6⟩
  | nx ρ' =>
   cases fr with
   | true=>exact k.elim
   | false=>exact fun σ' H' Ob' R f s=>k .non H' (same f) Rep.non
end
theorem zT1 {C:Ct}{k:Nat}{f:Addr}{fd:FuncData}{ps:List Str}{fr:Bool}{F:List D->Res D}{x:Str}{p pos:Pos}{e:Expr}{es:List Expr}{ms:Ev->Res (List D)}{st:Stmt}(G:FnOk C.X.prog C.X.w C.X.K C.X.mg C.X.base (CXV C.X.prog C.X.w) k f fd ps (spX fr F)) (hh:Has C.X.K C.X.mg x st f fd ps) (hr:Room k C.X.A)
  (hb:Br C) (ha:RArg C true (e::es) ms) (hg:autoParam (Gl C.X x) zY._auto_1) (hdb:autoParam ((x == ("__debug__":Str))=false) zK._auto_1) (he:autoParam (starEach (e::es) C.X.env=(false,eval e C.X.env)::starEach es C.X.env) zY._auto_1) (hpl:autoParam ((backTo pos (starEach es C.X.env)).any (·.1)=false) zY._auto_1) :
  RE C (mdF fr) (.Call (.Name x p) (e::es) [] pos) (eF F ms):=by
 obtain⟨t,pa,q⟩:=ha
 refine⟨_,yP G hr hg hh.m hh.F.kp hh.b .nil (passX hb) pa hdb he hpl,fun Oc Ob σ H ρ Q R h => ?_⟩
 refine q Oc Ob σ H ρ _ R (Res.zR (Res.zV h) (fun ds _ k vs H1 s1 r => ?_) fun c z=>z)
 show spX fr F (vs ++ []) H1 Q (wX C)
 rw[List.append_nil]
 refine⟨ds,Uni Oc Ob,(R.same s1).oh,r,Res.zR k (fun d _ k v H' s2 rv => ?_) fun c z H' s2=>⟨c,rfl,z H' (s1.trans s2)⟩⟩
 refine k v H' (s1.trans s2) ?_
 cases fr with
 | false=>exact rv
 | true =>
  obtain⟨a,ys,ds,e1,e2,e3,e4,e5⟩:=rv
  exact⟨a,ys,ds,e1,e2,s1.free e3,e4,e5⟩
theorem zE8 {C:Ct}{k:Nat}{f:Addr}{fd:FuncData}{ps:List Str}{fr:Bool}{F:List D->Res D}{x:Str}{p pos:Pos}{e:Expr}{es:List Expr}{ms:Ev->Res (List D)}{st:Stmt}(G:FnOk C.X.prog C.X.w C.X.K C.X.mg C.X.base (CXV C.X.prog C.X.w) k f fd ps (spX fr F)) (hh:Has C.X.K C.X.mg x st f fd ps) (hr:Room k C.X.A)
  (hb:Br C) (ha:RArg C false (e::es) ms) (hg:autoParam (Gl C.X x) zY._auto_1) (hdb:autoParam ((x == ("__debug__":Str))=false) zK._auto_1) (he:autoParam (starEach (e::es) C.X.env=(false,eval e C.X.env)::starEach es C.X.env) zY._auto_1) (hpl:autoParam ((backTo pos (starEach es C.X.env)).any (·.1)=false) zY._auto_1) :
  RE C (mdF fr) (.Call (.Name x p) (e::es) [] pos) (eFA fr F ms):=by
 obtain⟨t,pa,q⟩:=ha
 refine⟨_,yP G hr hg hh.m hh.F.kp hh.b .nil (passX hb) pa hdb he hpl,fun Oc Ob σ H ρ Q R h => ?_⟩
 refine q Oc Ob σ H ρ _ R (Res.zR (Res.zV h) (fun ds _ k vs H1 s1 r => ?_) fun c z=>z)
 show spX fr F (vs ++ []) H1 Q (wX C)
 rw[List.append_nil]
 refine⟨ds,fun b=>Uni Oc Ob b/\¬∃ys,H1 b=some (.lst ys),fun a z=>(R.same s1).oh a z.1,VAs.lent r,Res.zR (Res.zV k) (fun d _ k v H' s2 rv => ?_) fun c z H' s2=>⟨c,rfl,z H' (s1.trans s2)⟩⟩
 have hB:∀b,(∃ys,H1 b=some (.lst ys))->∃ys,H' b=some (.lst ys):=fun b ⟨ys,e⟩=>⟨ys,s2 _ _ e⟩
 by_cases hl:lfT fr d=true
 ·rw[if_pos hl] at k
  refine k v H' (s1.trans s2) ?_
  cases fr with
  | false=>exact Rep.lf hB rv (by cases d <;> exact hl)
  | true =>
   obtain⟨a,ys,ds,e1,rfl,e3,e4,e5⟩:=rv
   have e5':Reps H' (fun b=>(Uni Oc Ob b\/b=a)/\¬∃ys,H1 b=some (.lst ys)) ys ds:=e5.less fun b z=>z.1.elim (fun q=>.inl ⟨q,z.2⟩) .inr
   exact⟨a,ys,ds,e1,rfl,s1.free e3,e4,Reps.lf hB e5' hl⟩
 ·rw[if_neg hl] at k
  exact k.elim
section
variable {C:Ct}{k:Nat}{f:Addr}{fd:FuncData}{ps:List Str}{F:List D->Res D}{x:Str}{p pos:Pos}{e:Expr}{es:List Expr}{ms:Ev->Res (List D)}{st:Stmt}
theorem yU (G:FnOk C.X.prog C.X.w C.X.K C.X.mg C.X.base (CXV C.X.prog C.X.w) k f fd ps (spX false F)) (hh:Has C.X.K C.X.mg x st f fd ps) (hr:Room k C.X.A)
  (hb:Br C) (ha:RArg C true (e::es) ms) (hg:autoParam (Gl C.X x) zY._auto_1) (hdb:autoParam ((x == ("__debug__":Str))=false) zK._auto_1) (he:autoParam (starEach (e::es) C.X.env=(false,eval e C.X.env)::starEach es C.X.env) zY._auto_1) (hpl:autoParam ((backTo pos (starEach es C.X.env)).any (·.1)=false) zY._auto_1) :
  RE C .cl (.Call (.Name x p) (e::es) [] pos) (eF F ms):=zT1 (fr:=false) G hh hr hb ha hg hdb he hpl
theorem vQ (G:FnOk C.X.prog C.X.w C.X.K C.X.mg C.X.base (CXV C.X.prog C.X.w) k f fd ps (spX true F)) (hh:Has C.X.K C.X.mg x st f fd ps) (hr:Room k C.X.A)
  (hb:Br C) (ha:RArg C true (e::es) ms) (hg:autoParam (Gl C.X x) zY._auto_1) (hdb:autoParam ((x == ("__debug__":Str))=false) zK._auto_1) (he:autoParam (starEach (e::es) C.X.env=(false,eval e C.X.env)::starEach es C.X.env) zY._auto_1) (hpl:autoParam ((backTo pos (starEach es C.X.env)).any (·.1)=false) zY._auto_1) :
  RE C .new (.Call (.Name x p) (e::es) [] pos) (eF F ms):=zT1 (fr:=true) G hh hr hb ha hg hdb he hpl
theorem cK (G:FnOk C.X.prog C.X.w C.X.K C.X.mg C.X.base (CXV C.X.prog C.X.w) k f fd ps (spX false F)) (hh:Has C.X.K C.X.mg x st f fd ps) (hr:Room k C.X.A)
  (hb:Br C) (ha:RArg C false (e::es) ms) (hg:autoParam (Gl C.X x) zY._auto_1) (hdb:autoParam ((x == ("__debug__":Str))=false) zK._auto_1) (he:autoParam (starEach (e::es) C.X.env=(false,eval e C.X.env)::starEach es C.X.env) zY._auto_1) (hpl:autoParam ((backTo pos (starEach es C.X.env)).any (·.1)=false) zY._auto_1) :
  RE C .cl (.Call (.Name x p) (e::es) [] pos) (eFA false F ms):=zE8 (fr:=false) G hh hr hb ha hg hdb he hpl
end
end L2.L3
namespace L2
open PySem PySem.Spec PyProof.Rows
section
variable {X:Cx}{pins:List (Addr×Obj)}{σ:St}{H:Hp}{s:Shared}
theorem zE7 {M:Model}{A:Around}{E:Value->Shared->Prop}{i:Nat}{x:Str}{v:V}{Q:Unit->Shared->Prop}(I:Inv X pins σ H s) (hN:X.N.Nodup) (hi:X.N[i]?=some x) (hk:X.env.scope.names.lookup x=some .local) (hv:σ[i]?=some (some v))
  (h:∀s',Inv X pins (σ.set i none) H s'->Q () s'):wpAny M A (unbindName X.env x) Q E s:=by
 obtain⟨m,hn,hl⟩:=id I.loc
 have hcls:(X.env.scope.kind == .class || (X.env.scope.kind == .module&&X.env.locals != X.env.globals))=false:=by rw[I.ok.kind];rfl
 have hiσ:i<σ.length:=by rw[I.len];exact (List.getElem?_eq_some_iff.mp hi).1
 obtain⟨u,r,l⟩:=hl i x v hi hv (.inl hk)
 have mx:m x=some u:=by
  rcases l with ⟨_,e⟩ | ⟨k,_⟩
  ·exact e
  ·have k':X.env.scope.names.lookup x=some .cell\/X.env.scope.names.lookup x=some .free:=k
   rw[hk] at k'
   rcases k' with k' | k' <;> cases k'
 refine wpAny_unbindName_local hk hn mx hcls fun h' u' hn' hs => ?_
 obtain⟨oL,_,_,hoL,_⟩:=id hn
 have old:∀b o,X.s₀.heap.get? b=some o->h'.get? b=s.heap.get? b:=fun b o e=>hs.2 b (Nat.ne_of_lt (Nat.lt_of_lt_of_le (Heap.lt_size e) I.ok.above))
 refine h _ ⟨I.ok,I.os,I.bare,⟨fun b o e n hb hx => ?_,fun b o e n hb hx => ?_,I.base.free,fun b o e hx => ?_,I.base.tups,I.base.frzs,I.base.tbls⟩,⟨_,hn',fun j y v' e1 e2 e3 => ?_⟩,fun y c e => ?_,I.free,I.freeC,fun p hp => ?_,fun b ob e => ?_,by simpa using I.len⟩
 ·exact (old b o e).trans (I.base.keep b o e n hb hx)
 ·obtain⟨sl,e1⟩:=I.base.slot b o e n hb hx
  exact⟨sl,(old b o e).trans e1⟩
 ·obtain⟨o',e1⟩:=I.base.there b o e hx
  exact⟨o',(old b o e).trans e1⟩
 ·by_cases hj:j=i
  ·subst hj
   rw[List.getElem?_set_self hiσ] at e2
   cases e2
  ·rw[List.getElem?_set_ne (Ne.symm hj)] at e2
   obtain⟨w',r',q⟩:=hl j y v' e1 e2 e3
   refine⟨w',r',?_⟩
   rcases q with ⟨k,e⟩ | ⟨k,c,e,z⟩
   ·refine .inl ⟨k,?_⟩
    have:y≠x:=fun e=>hj (dX hN e1 (e▸hi))
    simp[this,e]
   ·exact .inr ⟨k,c,e,z.sameBut hs (I.cne y c e)⟩
 ·obtain⟨w',z⟩:=I.cell y c e
  exact⟨w',z.sameBut hs (I.cne y c e)⟩
 ·obtain⟨e,n,ne,nf,d⟩:=I.pin p hp
  exact⟨(hs.2 p.1 ne).trans e,n,ne,nf,d⟩
 ·refine (I.hok b ob e).stay (fun c w' hc q=>(hs.2 c ?_).trans q) (fun _ q=>q) fun _ _ q=>q
  rintro rfl
  rcases hc with rfl | hc
  ·rw[I.free] at e;cases e
  ·rw[I.free] at hc;cases hc
theorem Inv.track {a:Addr}{o:HO}(I:Inv X pins σ H s) (n:H a=none) (n0:X.s₀.heap.get? a=none) (nL:a≠X.env.locals) (nC:∀x c,X.env.cells.lookup x=some c->c≠a) (nP:∀p∈X.pn++pins,p.1≠a) (new:ObjOk X.prog X.w (upd H a o) s.heap a o):Inv X pins σ (upd H a o) s:=by
 have ne:∀b u,H b=some u->b≠a:=fun b u e z=>by subst z;rw[n] at e;cases e
 have up:∀b u,H b=some u->upd H a o b=some u:=fun b u e=>by rw[zX (ne b u e)];exact e
 refine⟨I.ok,I.os,I.bare,⟨I.base.keep,I.base.slot,fun b u q z hx => ?_,I.base.there,fun b xs q=>up _ _ (I.base.tups b xs q),fun b u v q=>up _ _ (I.base.frzs b u v q),fun b ps q => ?_⟩,I.loc,I.cell,?_,fun x c e => ?_,fun p hp => ?_,fun b u e => ?_,I.len⟩
 ·have:b≠a:=fun y=>by subst y;rw[n0] at q;cases q
  rw[zX this]
  exact I.base.free b u q z hx
 ·exact up _ _ (I.base.tbls b ps q)
 ·rw[zX (Ne.symm nL)]
  exact I.free
 ·rw[zX (nC x c e)]
  exact I.freeC x c e
 ·obtain⟨e,m,x1,x2,x3⟩:=I.pin p hp
  exact⟨e,by rw[zX (nP p hp)];exact m,x1,x2,x3⟩
 ·by_cases h:b=a
  ·subst h
   rw[zT] at e
   cases e
   exact new
  ·rw[zX h] at e
   exact (I.hok b u e).stay (fun _ _ _ q=>q) (fun c q=>up _ _ q) (fun c xs q=>up _ _ q) fun c _ _ q=>up _ _ q
end
end L2
namespace L2.L3
open PySem PySem.Spec PyProof.Rows
variable [CN]
abbrev bmV:List Value:=[.type "ValueError",.type "Exception",.type "BaseException",.type "object"]
def OwnX (K:KFr) (x:Str):Prop:=PySem.W.excIn K (CN.ad x) bmV "ValueError.__new__" = true
theorem yL3 {K:KFr}{h:Heap}{A:Addr}{bmB:List Value}{nid:String}(X:K.In h) (q:PySem.W.excIn K A bmB nid=true) :
  ∃(tl:List Value) (N:Addr) (nm qn:Str) (bs:List Value) (hd:Bool) (sn:List Str) (sb:List Value) (ab:Bool) (co:Option Bool) (dd:Option Addr) (k0 k1 k2 k3 k5:Option Value) (mN:Str->Option Value),
   h.get? A=some (excClassObj nm qn A N bs tl hd sn sb ab co dd k0 k1 k2 k3 k5 nid)/\h.Ns N mN/\mN "__init__" = none/\OwnTail h bmB tl:=by
 revert q
 rw[PySem.W.excIn]
 split
 case h_2=>exact fun q=>nomatch q
 case h_1 dd cd sl lk =>
  split
  case h_2=>exact fun q=>nomatch q
  case h_1 A' tl j0 j1 j2 j3 nn j5 em es =>
   intro q
   rw[Bool.and_eq_true,Bool.and_eq_true,Bool.and_eq_true,Bool.and_eq_true,Bool.and_eq_true] at q
   have q6:=q.2
   have q5:=q.1.2
   have q4:=q.1.1.2
   have q3:=q.1.1.1.2
   have q2:=eq_of_beq q.1.1.1.1.2
   have q1:=eq_of_beq q.1.1.1.1.1
   cases cd
   cases sl
   simp only at em es q3 q5 q6
   subst em es q1 q2
   simp only[Bool.not_eq_true'] at q3
   subst q3
   exact⟨_,_,_,_,_,_,_,_,_,_,_,_,_,_,_,_,_,X _ _ lk,.of_isNs (PySem.W.isNs_of_in X q5),PySem.W.nsMap_none_of_in X q5 (eq_of_beq q6),PySem.W.tail_of_in X q4⟩
theorem yP8 {X:Cx}{pins:List (Addr×Obj)}{σ:St}{H:Hp}{s:Shared}{c:Str}{h':Heap}{e:Addr}{args:List Value}(I:Inv X pins σ H s) (m:Heap.MadeExcOf s.heap h' e (.ref (CN.ad c)) args):ExcAt X c H (.ref e) { s with heap:=h' }:=by
 obtain⟨t,he,_,_⟩:=m.there
 have I2:Inv X pins σ H { s with heap:=h',toks:=s.toks }:=I.kept m.keeps
 have n:H e=none:=by
  cases q:H e with
  | none=>rfl
  | some o =>
   obtain⟨u,z⟩:=gW (I.hok e o q)
   rw[m.new] at z
   cases z
 refine⟨pins,σ,s,H,e,PySem.W.hideAll h' (e::frs X.stack),.ref t,I,I2,Un.kept m.keeps,rfl,m.new,n,fun b o q=>PySem.W.of_hideAll _ q,PySem.W.hideAll_none _ (.head _),PySem.W.funFrames_hide I2.stack fun env he a ha=>List.mem_cons_of_mem _ (List.mem_filterMap.mpr ⟨env,he,ha⟩),.inr ⟨_,_,he,rfl,rfl,rfl,rfl⟩,fun b o q nb z=>PySem.W.hideAll_get _ q fun hb => ?_⟩
 rcases List.mem_cons.mp hb with rfl | hb
 ·rcases z with z | z
  ·exact z m.new
  ·exact z n
 ·exact nb hb
def sRa (c:Str) (m:Ev->Res (List D)):Ev->Res Out:=fun ρ=>(m ρ).bind fun ds=>if ds.length<=sizeLine then .ex c else .no
theorem uX {C:Ct}{fr:Bool}{x:Str}{np cpos pos:Pos}{e:Expr}{es:List Expr}{ms:Ev->Res (List D)}(hb:Br C) (ho:OwnX C.X.K x) (hm:C.X.mg x=some (.ref (CN.ad x))) (ha:RArg C false (e::es) ms) (hc:autoParam (C.X.calm=true) zY._auto_1) (hg:autoParam (Gl C.X x) zY._auto_1) (hdb:autoParam ((x == ("__debug__":Str))=false) zK._auto_1)
  (he:autoParam (starEach (e::es) C.X.env=(false,eval e C.X.env)::starEach es C.X.env) zY._auto_1) (hpl:autoParam ((backTo cpos (starEach es C.X.env)).any (·.1)=false) zY._auto_1) :
  RS C fr (.Raise (some (.Call (.Name x np) (e::es) [] cpos)) none pos) (sRa x ms):=by
 obtain⟨t,pa,q⟩:=ha
 refine⟨fun _ σ H=>t σ H fun vs H1=>vs.length<=sizeLine/\C.XE x H1,fun pins s σ H D I h => ?_,fun Oc Ob σ H ρ E R h=>q Oc Ob σ H ρ _ R (Res.zR (Res.zV h) (fun ds _ k vs H' s r => ?_) fun c z H' s=>z H' (Same.frm s))⟩
 ·obtain⟨tl,N,nm,qn,bs,hd,sn,sb,ab,co,dd,k0,k1,k2,k3,k5,mN,hC,hN,hni,T⟩:=yL3 I.mod.kin ho
  refine wpAny_Raise_call_subT (C:=CN.ad x) (nm:=nm) (q:=qn) (N:=N) (bs:=bs) (bm:=tl) (hdct:=hd) (sn:=sn) (sub:=sb) (ab:=ab) (col:=co) (dd:=dd) (k0:=k0) (k1:=k1) (k2:=k2) (k3:=k3) (k5:=k5) PySem.F.excBase_ValueError (mN:=mN) (T.hasType PySem.F.excBase_ValueError.hasBase) (I.ok.hd hc)
   (by rw[he];show (false || (backTo cpos (starEach es C.X.env)).any (·.1))=false;rw[hpl];rfl) hni (jD I hg hm ⟨rfl,?_⟩ hdb)
  have h2:=pa cpos pins s σ H _ I h
  rw[he] at h2 ⊢
  refine Calls.evalArgs_plain (wpAny_mono h2 (fun us s2 ⟨vs,H2,I2,r,hl,z⟩ => ?_) fun _ _ y=>y)
  exact⟨rfl,by rw[<-r.length];exact hl,I2.bk _ _ hC,hN.keeps I2.bk,T.keeps I2.bk,fun h' a m=>hb x H2 _ _ (yP8 I2 m) z⟩
 ·by_cases hl:ds.length<=sizeLine
  ·rw[if_pos hl] at k
   exact⟨by rw[(VAs.rep r).length];exact hl,k H' (Same.frm s)⟩
  ·rw[if_neg hl] at k
   exact k.elim
end L2.L3
namespace PySem
section
variable {prog:Program}{w:World}{A:Around}{E:Value->Shared->Prop}{h:Heap}{g:Array GenState}{d:Drawn}{t:Nat}{os:OsState}{a C:Addr}{o:Obj}{K:KFr}
structure ExK (K:KFr) (C:Addr):Prop where
 ga:PySem.W.findIn K (.ref C) "__getattribute__" = some (some (.builtin "BaseException.__getattribute__"))
 gn:PySem.W.findIn K (.ref C) "__getattr__" = some none
 cl:PySem.W.findIn K (.ref C) "__class__" = some (some (.builtin "object.__class__"))
 sb:PySem.W.subIn K (.ref C) (.type "BaseException")=some true
 so:PySem.W.subIn K (.ref C) (.type "object")=some true
 ci:(PySem.W.clsIn K C).isSome=true
theorem aY {M:Model}{nm:Str}{v:Option Value}{P:Option Value->Shared->Prop}(X:K.In h) (e:PySem.W.findIn K (.ref C) nm=some v) (q:P v ⟨h,g,d,t,os⟩):wpAny M A (typeLookup (.ref C) nm) P E ⟨h,g,d,t,os⟩:=(PySem.W.looks_findIn X e).at q
theorem aL {M:Model}{T:String}{P:Bool->Shared->Prop}{x:Shared}(X:K.In x.heap) (e:PySem.W.subIn K (.ref C) (.type T)=some true) (q:P true x):wpAny M A (isSubtype (.ref C) (.type T)) P E x:=(PySem.W.looks_subIn X e).at q
variable {dd:Option Addr}{dt:Data}{sl:Array (Option Value)}{x:Shared}
theorem yL7 {R:Result->Shared->Prop}(X:K.In x.heap) (k:ExK K C) (hx:x.heap.get? a=some ⟨.ref C,dd,dt,sl⟩) (q:R (.ok (.ret (.ref C))) x):codeAny (model prog w) A (.call (.builtin "getset_descriptor.__get__") ⟨[.builtin "object.__class__",.ref a,.ref C],[]⟩) R x:=by
 have ow:=F.owner_object_class
 have s1:∀P:Bool->Shared->Prop,∀B:Around,∀E':Value->Shared->Prop,P true x->wpAny (model prog w) B (isSubtype (.ref C) (.type (".".intercalate ("object.__class__".cutAt '.').dropLast))) P E' x:=fun P B E' z=>by rw[ow];exact aL X k.so z
 have ty:x.TypeIs (.builtin "object.__class__") "getset_descriptor":=F.typeOf_object_class
 have ok:=F.args_gs_get (.builtin "object.__class__") (.ref a) (.ref C)
 refine codeAny_call_builtin F.slot_gs_get.plain F.entry_gs_get ?_
 refine F.slot_gs_get.check _ _ _ _ _ _ _ _ ty ok ?_
 repeat' first | assumption | ((with_reducible apply wpAny_loadPart_at hx) <;> try dsimp only) | ((with_reducible apply s1) <;> try dsimp only) | wp_step
 exact⟨Code.quiet_builtin _ (by decide +kernel),codeAny_builtin F.entry_object_class (by repeat' first | assumption | ((with_reducible apply wpAny_loadPart_at hx) <;> try dsimp only) | wp_step)⟩
theorem yE5 {tk:Tok}{P:Fin->Shared->Prop}(X:K.In x.heap) (k:ExK K C) (hx:x.heap.get? a=some ⟨.ref C,dd,dt,sl⟩) (q:P (.done (.ret (.ref C))) x):wpAny (model prog w) A (Builtin.«object.__getattribute__» ⟨[.ref a,.str "__class__" tk],[]⟩) P E x:=by
 have g1:=F.typeOf_object_class
 have g2:=F.slot_gs_get.lookup
 have g3:=F.slot_gs_set.lookup
 have ty:x.TypeIs (.builtin "object.__class__") "getset_descriptor":=g1
 repeat' first | assumption | ((with_reducible apply wpAny_loadPart_at hx) <;> try dsimp only) | ((with_reducible apply aY X k.cl) <;> try dsimp only) | ((with_reducible apply yL7 X k hx) <;> try dsimp only) | wp_step
theorem yK5 {nv:Value}{M:Model}{P:Unit->Shared->Prop}(X:K.In x.heap) (k:ExK K C) (hx:x.heap.get? a=some ⟨.ref C,dd,dt,sl⟩) (q:P () x):wpAny M A (checkBuiltinCall "BaseException.__getattribute__" ⟨[.ref a,nv],[]⟩) P E x:=by
 have g1:builtinKind "BaseException.__getattribute__" = some .slot:=by decide +kernel
 have g2:splitId "BaseException.__getattribute__" = some ("BaseException","__getattribute__"):=by decide +kernel
 have g3:=F.args_bexc_ga (.ref a) nv
 unfold checkBuiltinCall isInstance
 simp only[g1,g2]
 repeat' first | assumption | ((with_reducible apply wpAny_loadPart_at hx) <;> try dsimp only) | ((with_reducible apply aL X k.sb) <;> try dsimp only) | wp_step
theorem yG2 {P:Option Value->Shared->Prop}(X:K.In x.heap) (k:ExK K C) (hx:x.heap.get? a=some ⟨.ref C,dd,dt,sl⟩) (q:P (some (.ref C)) { x with toks:=x.toks+1 }):wpAny (model prog w) A (getAttr? (.ref a) "__class__") P E x:=by
 have g1:=F.attrBase_ValueError.ga.bind (.ref a)
 have g2:(Value.builtin "BaseException.__getattribute__" == Value.builtin "object.__getattribute__")=false:=by decide +kernel
 have g3:(onTheHeap (Value.ref C)&&Value.builtin "BaseException.__getattribute__" == Value.builtin "object.__getattribute__")=false:=by rw[g2,Bool.and_false]
 have g4:(false&&onTheHeap (Value.builtin "BaseException.__getattribute__"))=false:=rfl
 obtain⟨h,g,d,t,os⟩:=x
 unfold getAttr? getAttrBy?
 repeat' first | assumption | ((with_reducible apply wpAny_loadPart_at hx) <;> try dsimp only) | ((with_reducible apply aY X k.ga) <;> try dsimp only) | ((with_reducible apply aY X k.gn) <;> try dsimp only) | wp_step
 have X':K.In (Shared.mk h g d (t+1) os).heap:=X
 have hx':(Shared.mk h g d (t+1) os).heap.get? a=some ⟨.ref C,dd,dt,sl⟩:=hx
 refine codeAny_call_builtin F.attrBase_ValueError.ga.plain F.entry_bexc_ga (yK5 X' k hx' (yE5 X' k hx' ?_))
 repeat' first | assumption | ((with_reducible apply hx') <;> try dsimp only) | wp_step
end
theorem yS3 {K:KFr}{a C:Addr}(k:ExK K C):PySem.W.KitX K (.ref a) (.ref C) (fun h=>∃o,h.get? a=some o/\o.cls=.ref C) where
 ty:=fun M h _ ⟨o,h1,h2⟩=>h2▸(PySem.W.Looks.ld h1).andThen .now
 it:=fun M h X _=>by
  have z:=k.ci
  unfold PySem.W.clsIn at z
  split at z
  ·rename_i ho
   intro A' Q' E' s' kk q
   unfold isType loadHead
   exact wpAny_bind (wpAny_loadPart (kk _ _ (X _ _ ho)) (wpAny_pure q))
  ·cases z
 ne:=fun h tp dd its n sl X htp=>beq_eq_false_iff_ne.mpr fun q=>by
  cases q
  have z:=k.ci
  unfold PySem.W.clsIn at z
  split at z
  ·rename_i ho
   cases (X _ _ ho).symm.trans htp
  ·cases z
 ca:=fun {_ _ _ _ _ s} X p q=>by
  obtain⟨⟨c,dd,dt,sl⟩,h1,h2⟩:=p
  cases h2
  exact yG2 X k h1 q
theorem zG9 {K:KFr}{M:Model}{A:Around}{E:Value->Shared->Prop}{Q:Bool->Shared->Prop}{s:Shared}{a c x:Addr}{o:Obj}(X:K.In s.heap) (he:s.heap.get? a=some o) (hc:o.cls=.ref c) (hk:PySem.W.kitCls K (.ref c) (.ref x)=some true)
  (hb:PySem.W.subIn K (.ref x) (.type "BaseException")=some true) (hq:Q true s):wpAny M A (excMatches (.ref a) (.ref x)) Q E s:=by
 obtain⟨hh,g,d,t,os⟩:=s
 obtain⟨L1,L2,L3⟩:=PySem.W.kit_cls (M:=M) X hk
 have L4:=PySem.W.looks_subIn (M:=M) X hb
 have f:=tc_notTuple
 unfold excMatches isExcClass
 repeat (first | (with_reducible refine wpAny_loadPart_at he ?_;rw[hc]) | (with_reducible refine L1.at ?_) | (with_reducible refine L2.at ?_) | (with_reducible refine L3.at ?_) | (with_reducible refine L4.at ?_) | wp_step)
 exact hq
end PySem
namespace L2.L3
open PySem PySem.Spec PyProof.Rows
variable [CN]
theorem yN5 {X:Cx}{pins:List (Addr×Obj)}{σ:St}{H H1:Hp}{s s1:Shared}{a:Addr}{cls:Value}{B:Heap}{a0:Value}{h':Heap}(I1:Inv X pins σ H1 s1) (I:Inv X pins σ H s) (un:Un (frs X.stack) [] H1 H s1.heap s.heap) (f:Fl X.stack s1.heap H a cls B a0 s.heap)
  (k1:B.StaysIn h') (k2:h'.FunFrames B X.stack) (k4:s.heap.UpToSlots h'):Inv X pins σ H { s with heap:=h' }/\Un (frs X.stack) [] H1 H s1.heap h'/\∀b o,h'.get? b=some o->b∉frs X.stack->(s1.heap.get? b≠none\/H b≠none)->B.get? b=some o:=by
 have kp:∀b o,s.heap.get? b=some o->b∉frs X.stack->(s1.heap.get? b≠none\/H b≠none)->h'.get? b=some o:=fun b o q n z=>k1 b o (f.cov b o q n z)
 have un':Un (frs X.stack) [] H1 H s1.heap h':=by
  refine⟨fun b o q n hb hx=>kp b o (un.keep b o q n hb hx) hb (.inl (vW q)),fun b o q n hb hx => ?_,un.free,fun b o q hx => ?_,un.tups,un.frzs,un.tbls⟩
  ·obtain⟨sl,e⟩:=un.slot b o q n hb hx
   obtain⟨_,o',e',nf⟩:=f.frm.mem (b:=b) hb
   rw[e] at e'
   cases e'
   obtain⟨sl',e2⟩:=k4 b _ e nf
   exact⟨sl',e2⟩
  ·by_cases hb:b∈frs X.stack
   ·obtain⟨_,o',e',_⟩:=k2.mem (b:=b) hb
    exact⟨o',e'⟩
   ·obtain⟨o',e'⟩:=un.there b o q hx
    exact⟨o',kp b o' e' hb (.inl (vW q))⟩
 have hok:HOk X.prog X.w H h':=fun b o q=>by
  refine (I.hok b o q).stay (fun b' u hb' e => ?_) (fun _ z=>z) fun _ _ z=>z
  have n:H b'≠none:=by
   rcases hb' with rfl | hb'
   ·exact vW q
   ·exact vW hb'
  exact kp b' u e (fun z=>n (I.stkFree b' z)) (.inr n)
 refine⟨I1.call' (s':={ s with heap:=h' }) (I.os.trans I1.os.symm) un' hok I.bare (fun b z=>by cases z),un',fun b o q n z => ?_⟩
 obtain⟨o2,q2⟩:∃o2,s.heap.get? b=some o2:=by
  rcases z with z | z
  ·obtain⟨o',q'⟩:=jA z
   exact un.there b o' q' (by simp)
  ·exact aK I.hok z
 have hB:=f.cov b o2 q2 n z
 have q3:=k1 b o2 hB
 rw[q] at q3
 cases q3
 exact hB
theorem yZ1 {X:Cx}{c:Str}{H:Hp}{e:Value}{s:Shared}{E2:Value->Shared->Prop}{Q:Shared->Prop}(x:ExcAt X c H e s) (hst:X.stack=X.env::X.outer) (hfr:X.env.frame=some X.env.locals)
  (hQ:∀(pins:List (Addr×Obj)) (σ:St) (s1:Shared) (H1:Hp) (a:Addr) (B:Heap) (a0:Value) (s':Shared),Inv X pins σ H1 s1->Inv X pins σ H s'->Un (frs X.stack) [] H1 H s1.heap s'.heap->e=.ref a->s1.heap.get? a=none->H a=none->Fl X.stack s1.heap H a (.ref (CN.ad c)) B a0 s'.heap->s'.heap.TracedW B a (.ref (CN.ad c)) a0->Q s') :
  wpAny (model X.prog X.w) X.A (noteFrame e X.env) (fun _ s₂=>wpAny (model X.prog X.w) X.A (setFlight e none) (fun _ s₃=>Q s₃) E2 s₂) E2 s:=by
 obtain⟨pins,σ,s1,H1,a,B,a0,I1,I,un,rfl,n1,n2,f⟩:=x
 have hfrm:s.heap.FunFrames B (X.env::X.outer):=by rw[<-hst];exact f.frm
 have hA:X.A.frames=some (X.env::X.outer):=by rw[<-hst];exact I.ok.frames
 have key:∀h',Heap.NotedW B (X.env::X.outer) a (.ref (CN.ad c)) a0 (rawInt X.env.locals) s.heap h'->wpAny (model X.prog X.w) X.A (setFlight (.ref a) none) (fun _ s₃=>Q s₃) E2 { s with heap:=h' }:=by
  rintro h' ⟨k1,k2,k3,k4⟩
  rw[<-hst] at k2
  refine wpAny_landsW (s:={ s with heap:=h' }) (base:=B) (l:=X.stack) (L:=X.env.locals) (cls:=.ref (CN.ad c)) (a0:=a0) ⟨k1,f.newB,k2,k3⟩ fun h2 fly ups => ?_
  have ups2:s.heap.UpToSlots h2:=Heap.UpToSlots.trans k4 ups
  obtain⟨J,un2,cov⟩:=yN5 I1 I un f fly.1 fly.2.2.1 ups2
  exact hQ pins σ s1 H1 a B a0 _ I1 J un2 rfl n1 n2 ⟨fly.1,f.newB,fly.2.2.1,.inl fly.2.2.2,cov⟩ fly.2.2.2
 rcases f.raw with t | ⟨oe,vs,he,hc,hd,h1,h0⟩
 ·exact wpAny_noteFrame_onW hA hfrm hfr t f.stays f.newB key
 ·rw[<-hc] at key
  unfold noteFrame
  simp only[hfr]
  refine wpAny_bind (wpAny_field he hd h1 ?_)
  rw[if_neg (by decide)]
  exact wpAny_entryW hA hfrm hfr he f.stays f.newB hd (Array.getElem?_eq_some_iff.mp h1).1 h0 key
abbrev inTry (X:Cx) (pn:List (Addr×Obj)) (xe:Value->Shared->Prop):Cx:={ X with pn:=pn,xe:=xe }
abbrev inSuite (X:Cx) (e:Value):Cx:={ X with A:=X.A.mark (some e),calm:=false,xe:=fun _ _=>False }
theorem Inv.toTry {X:Cx}{pins:List (Addr×Obj)}{σ:St}{H:Hp}{s:Shared}(I:Inv X pins σ H s) (xe:Value->Shared->Prop):Inv (inTry X (X.pn++pins) xe) [] σ H s :=
 ⟨⟨I.ok.mod,I.ok.kind,I.ok.glob,I.ok.blt,I.ok.above,I.ok.inj,I.ok.has,I.ok.cab,I.ok.hd,I.ok.frames,I.ok.stk,I.ok.exf,I.ok.bs,I.ok.bsz,I.ok.noex,I.ok.exfs,I.ok.funs,I.ok.frf,I.ok.tb⟩,I.os,I.bare,I.base,I.loc,I.cell,I.free,I.freeC,fun p hp=>I.pin p (by simpa using hp),I.hok,I.len⟩
theorem Inv.ofTry {X:Cx}{pins pins':List (Addr×Obj)}{σ:St}{H:Hp}{s:Shared}{xe:Value->Shared->Prop}(I:Inv (inTry X (X.pn++pins) xe) pins' σ H s):Inv X pins σ H s :=
 ⟨⟨I.ok.mod,I.ok.kind,I.ok.glob,I.ok.blt,I.ok.above,I.ok.inj,I.ok.has,I.ok.cab,I.ok.hd,I.ok.frames,I.ok.stk,I.ok.exf,I.ok.bs,I.ok.bsz,I.ok.noex,I.ok.exfs,I.ok.funs,I.ok.frf,I.ok.tb⟩,I.os,I.bare,I.base,I.loc,I.cell,I.free,I.freeC,fun p hp=>I.pin p (List.mem_append_left _ hp),I.hok,I.len⟩
theorem Inv.toSuite {X:Cx}{pins:List (Addr×Obj)}{σ:St}{H:Hp}{s:Shared}(I:Inv X pins σ H s) (e:Value):Inv (inSuite X e) pins σ H s :=
 ⟨⟨I.ok.mod,I.ok.kind,I.ok.glob,I.ok.blt,I.ok.above,I.ok.inj,I.ok.has,I.ok.cab,(fun z=>nomatch z),I.ok.frames,I.ok.stk,I.ok.exf,I.ok.bs,I.ok.bsz,I.ok.noex,I.ok.exfs,I.ok.funs,I.ok.frf,I.ok.tb⟩,I.os,I.bare,I.base,I.loc,I.cell,I.free,I.freeC,I.pin,I.hok,I.len⟩
theorem Inv.ofSuite {X:Cx}{pins:List (Addr×Obj)}{σ:St}{H:Hp}{s:Shared}{e:Value}(ok:X.Ok) (I:Inv (inSuite X e) pins σ H s):Inv X pins σ H s :=
 ⟨ok,I.os,I.bare,I.base,I.loc,I.cell,I.free,I.freeC,I.pin,I.hok,I.len⟩
theorem SP.ofTry {X:Cx}{pins pins':List (Addr×Obj)}{xe:Value->Shared->Prop}{D:Ends}{f:Flow}{s':Shared}(h:SP (inTry X (X.pn++pins) xe) pins' D f s'):SP X pins D f s':=by
 cases f with
 | next=>obtain⟨σ',H',I,q⟩:=h;exact⟨σ',H',Inv.ofTry I,q⟩
 | brk=>obtain⟨σ',H',I,q⟩:=h;exact⟨σ',H',Inv.ofTry I,q⟩
 | cont=>obtain⟨σ',H',I,q⟩:=h;exact⟨σ',H',Inv.ofTry I,q⟩
 | ret u=>obtain⟨v,σ',H',I,r,q⟩:=h;exact⟨v,σ',H',Inv.ofTry I,r,q⟩
theorem Rel.unset {Oc:Wd}{Ob:Addr->Prop}{om ln:List Nat}{σ:St}{H:Hp}{ρ:Ev}(R:Rel Oc Ob om ln σ H ρ) (j:Nat):Rel Oc Ob om ln (σ.set j none) H (ρ.set j none):=by
 have st:∀i v,i≠j->σ[i]?=some v->(σ.set j none)[i]?=some v:=fun i v n e=>by rw[List.getElem?_set_ne (Ne.symm n)];exact e
 refine⟨by rw[List.length_set,List.length_set];exact R.len,fun i d e h1 h2 => ?_,fun i d e h1 => ?_,fun i d e h1 h2 => ?_,fun i k di dk a ei ek hi hk qi qk => ?_,R.oh,R.ap⟩
 ·obtain⟨n,e⟩:=qN e
  obtain⟨v,q,r⟩:=R.val i d e h1 h2
  exact⟨v,st i _ n q,r⟩
 ·obtain⟨n,e⟩:=qN e
  obtain⟨v,q,r⟩:=R.own i d e h1
  exact⟨v,st i _ n q,r⟩
 ·obtain⟨n,e⟩:=qN e
  obtain⟨v,q,r⟩:=R.lnt i d e h1 h2
  exact⟨v,st i _ n q,r⟩
 ·obtain⟨n1,e1⟩:=qN ei
  obtain⟨n2,e2⟩:=qN ek
  rw[List.getElem?_set_ne (Ne.symm n1)] at qi
  rw[List.getElem?_set_ne (Ne.symm n2)] at qk
  exact R.inj i k di dk a e1 e2 hi hk qi qk
def unn (j:Nat):Out->Res Out
 | .nx ρ=>.ok (.nx (ρ.set j none))
 | .rt d=>.ok (.rt d)
def sTry (j:Nat) (caught:List Str) (mb ms:Ev->Res Out):Ev->Res Out:=fun ρ=>match mb ρ with
 | .ok o=>.ok o
 | .no=>.no
 | .ex c=>if caught.contains c then (noEx (ms ((List.replicate ρ.length none).set j (some (excD c))))).bind (unn j) else .no
theorem zE4 {α:Type}{r:Res α}{Q:α->Prop}{E:Str->Prop}(h:(noEx r).post Q E):r.post Q (fun _=>False):=by
 cases r with
 | ok a=>exact h
 | ex c=>exact h.elim
 | no=>exact h
theorem xV1 {C:Ct}{fr:Bool}{x n:Str}{np hpos pos:Pos}{body suite:List Stmt}{b₀:Stmt}{mb ms:Ev->Res Out}(j:Nat) (caught:List Str) (nd:C.X.N.Nodup)
  (hbody:∀(pn:List (Addr×Obj)) (xe:Value->Shared->Prop) (XE:Str->Hp->Prop),Br ⟨inTry C.X pn xe,XE,C.om,C.ln⟩->RSs ⟨inTry C.X pn xe,XE,C.om,C.ln⟩ fr body mb)
  (hsuite:∀e:Value,RSs ⟨inSuite C.X e,fun _ _=>False,C.om,C.ln⟩ fr (b₀::suite) ms)
  (hcx:∀c,caught.contains c=true->PySem.W.kitCls C.X.K (.ref (CN.ad c)) (.ref (CN.ad x))=some true) (hcb:PySem.W.subIn C.X.K (.ref (CN.ad x)) (.type "BaseException")=some true) (hm:C.X.mg x=some (.ref (CN.ad x)))
  (hst:autoParam (C.X.stack=C.X.env::C.X.outer) zY._auto_1) (hfr:autoParam (C.X.env.frame=some C.X.env.locals) zY._auto_1) (hex:autoParam (C.X.ex=[]) zY._auto_1) (hj:autoParam (C.X.N[j]?=some n) zY._auto_1) (oj:autoParam (C.om.contains j=false) zY._auto_1) (lj:autoParam (C.ln.contains j=false) zY._auto_1) (hk:autoParam (C.X.env.scope.names.lookup n=some .local) zY._auto_1) (hg:autoParam (Gl C.X x) zY._auto_1) (hdb:autoParam ((x == ("__debug__":Str))=false) zK._auto_1) :
  RS C fr (.Try body [.ExceptHandler (some (.Name x np)) (some n) (b₀::suite) hpos] [] [] pos) (sTry j caught mb ms):=by
 refine⟨fun D σ H=>∀pins s,Inv C.X pins σ H s->wpAny (model C.X.prog C.X.w) C.X.A (exec (.Try body [.ExceptHandler (some (.Name x np)) (some n) (b₀::suite) hpos] [] [] pos) C.X.env) (SP C.X pins D) C.X.xe s,fun pins s σ H D I h=>h pins s I,fun Oc Ob σ H ρ E R hp pins s I => ?_⟩
 refine wpAny_Try_except ?_
 generalize hxe:(fun (e:Value) (s₁:Shared)=>wpAny (model C.X.prog C.X.w) C.X.A (noteFrame e C.X.env) (fun _ s₂=>wpAny (model C.X.prog C.X.w) C.X.A (setFlight e none) (fun _ s₃=>wpAny (model C.X.prog C.X.w) C.X.A (handleBy e C.X.env [.ExceptHandler (some (.Name x np)) (some n) (b₀::suite) hpos]) (SP C.X pins E) C.X.xe s₃) C.X.xe s₂) C.X.xe s₁)=xe'
 have hln:σ.length=ρ.length:=R.len
 have br:Br ⟨inTry C.X (C.X.pn++pins) xe',fun c H'=>Frm Ob H H'/\caught.contains c=true/\SPost C fr Oc (fun _=>False) H' E ((noEx (ms ((List.replicate ρ.length none).set j (some (excD c))))).bind (unn j)),C.om,C.ln⟩:=by
  intro c H' e s' xx ⟨f1,hc,hsp⟩
  subst hxe
  refine yZ1 (X:=inTry C.X (C.X.pn++pins) _) xx hst hfr fun pins' σ' s1 H1 a B a0 s3 J1 J un ea n1 n2 fl tr => ?_
  subst ea
  have K3:Inv C.X pins σ' H' s3:=Inv.ofTry J
  have Km:=Inv.toSuite K3 (.ref a)
  refine wpAny_handleBy_cons (codeAny_handlers_test ?_) (by intro q;cases q)
  refine jD (X:=inSuite C.X (.ref a)) Km hg hm ?_ hdb
  obtain⟨oe,_,_,_,_,he,⟨hcl,_⟩,_⟩:=id tr
  refine zG9 K3.kIn he hcl (hcx c hc) hcb ?_
  refine codeAny_handlers_suite_as ?_
  refine lands_againW (base:=B) (l:=C.X.stack) (cls:=.ref (CN.ad c)) (a0:=a0) ⟨fl.stays,fl.newB,fl.frm,tr⟩ fun h4 fly ups => ?_
  obtain⟨I4,_,_⟩:=yN5 J1 J un fl fly.1 fly.2.2.1 ups
  have K4:Inv C.X pins σ' H' { s3 with heap:=h4 }:=Inv.ofTry I4
  have L1:Inv C.X pins σ' H1 s1:=Inv.ofTry J1
  obtain⟨oe4,_,_,_,_,he4,⟨hcl4,_⟩,_⟩:=id fly.2.2.2
  have hne:∀b o,s1.heap.get? b=some o->b≠a:=fun b o q z=>by subst z;rw[n1] at q;cases q
  have T4:Inv C.X pins σ' (upd H' a (.ext (excP a c))) { s3 with heap:=h4 }:=by
   refine K4.track n2 ?_ ?_ (fun y z q => ?_) (fun p hp => ?_) ⟨⟨oe4,he4,hcl4⟩,⟨oe4,he4⟩,fun h1 h2 ⟨o,q1,q2⟩ kk=>⟨o,kk o q1,q2⟩⟩
   ·cases q:C.X.s₀.heap.get? a with
    | none=>rfl
    | some o =>
     obtain⟨o',q'⟩:=L1.base.there a o q (by rw[hex];simp)
     rw[n1] at q'
     cases q'
   ·obtain⟨m,⟨o,_,_,q,_⟩,_⟩:=L1.loc
    exact Ne.symm (hne _ o q)
   ·obtain⟨v,o,q',_⟩:=L1.cell y z q
    exact hne _ o q'
   ·exact hne _ _ (L1.pin p hp).1
  refine qE (X:=inSuite C.X (.ref a)) (v:=.ref a) (Inv.toSuite T4 (.ref a)) nd hj (.inl hk) rfl (fun s5 I5 => ?_) (.inr hk)
  obtain⟨ts,ps,qs⟩:=hsuite (.ref a)
  have hOc:∀b,Oc b->H' b≠none:=fun b z=>by
   obtain⟨o,q⟩:=jA (R.oh b (.inl z))
   exact vW (f1 b o q fun y=>R.ap b y z)
  have R5:Rel Oc (fun _=>False) C.om C.ln (σ'.set j (some (.ref a))) (upd H' a (.ext (excP a c))) ((List.replicate ρ.length none).set j (some (excD c))):=by
   have one:∀i d,((List.replicate ρ.length (none:Option D)).set j (some (excD c)))[i]?=some (some d)->i=j/\d=excD c:=fun i d e=>by
    rcases zD e with ⟨z,y⟩ | ⟨z,y⟩
    ·exact⟨z.symm▸rfl,y.symm▸rfl⟩
    ·rw[List.getElem?_replicate] at y
     split at y <;> cases y
   have hls:σ'.length=ρ.length:=by rw[K3.len,<-I.len,hln]
   refine⟨by rw[List.length_set,List.length_set,List.length_replicate,hls],fun i d e h1 h2 => ?_,fun i d e h1 => ?_,fun i d e h1 h2 => ?_,fun i k di dk b ei ek hi hk' _ _ => ?_,fun b z => ?_,fun b z=>z.elim⟩
   ·have hi:=uF e
    obtain⟨rfl,rfl⟩:=one i d e
    refine⟨.ref a,by rw[List.getElem?_set_self (by rw[hls];simpa using hi)],.exc zT fun z => ?_⟩
    exact hOc a (z.elim id fun z=>z.elim) n2
   ·obtain⟨rfl,_⟩:=one i d e
    exact absurd h1 (yF oj)
   ·obtain⟨rfl,_⟩:=one i d e
    exact absurd h2 (yF lj)
   ·obtain⟨rfl,_⟩:=one i di ei
    exact absurd hi (yF oj)
   ·exact Same.ne (Same.new n2) (hOc b (z.elim id fun z=>z.elim))
  have sp5:=SPost.same (Same.new n2 (o:=.ext (excP a c))) hsp
  refine wpAny_mono (ps pins s5 _ _ { nx:=fun σ6 H6=>E.nx (σ6.set j none) H6,rt:=E.rt,bk:=fun σ6 H6=>E.bk (σ6.set j none) H6,ct:=fun σ6 H6=>E.ct (σ6.set j none) H6 } I5 (qs Oc (fun _=>False) _ _ _ _ R5 ?_)) (fun f s6 h6 => ?_) fun _ _ z=>z.elim
  ·refine Res.zR (zE4 (Res.zV sp5)) (fun o _ k => ?_) fun _ z=>z.elim
   cases o with
   | nx ρ'=>exact fun σ6 H6 Ob6 R6 f6 s6=>k (σ6.set j none) H6 Ob6 (R6.unset j) f6 s6
   | rt d=>exact k
  ·have go:∀{σ6:St}{H6:Hp},Inv (inSuite C.X (.ref a)) pins σ6 H6 s6->(∀s8,Inv C.X pins (σ6.set j none) H6 s8->SP C.X pins E f s8)->wpAny (model C.X.prog C.X.w) C.X.A (do bindName C.X.env n .none;unbindBehindTheSuite C.X.env n hpos) (fun _ s₃=>SP C.X pins E f s₃) C.X.xe s6:=fun {σ6 H6} I6 kk=>by
    have I6':=Inv.ofSuite K3.ok I6
    refine wpAny_bind (wpAny_bindName (qE (v:=.non) I6' nd hj (.inl hk) rfl (fun s7 I7 => ?_) (.inr hk)))
    have hlt:j<σ6.length:=by rw[I6'.len];exact (List.getElem?_eq_some_iff.mp hj).1
    unfold unbindBehindTheSuite
    refine wpAny_onRaise (zE7 I7 nd hj hk (List.getElem?_set_self hlt) fun s8 I8 => ?_)
    rw[List.set_set] at I8
    exact kk s8 I8
   cases f with
   | next=>obtain⟨σ6,H6,I6,q6⟩:=h6;exact go I6 fun s8 I8=>⟨_,_,I8,q6⟩
   | brk=>obtain⟨σ6,H6,I6,q6⟩:=h6;exact go I6 fun s8 I8=>⟨_,_,I8,q6⟩
   | cont=>obtain⟨σ6,H6,I6,q6⟩:=h6;exact go I6 fun s8 I8=>⟨_,_,I8,q6⟩
   | ret u=>obtain⟨v,σ6,H6,I6,r6,q6⟩:=h6;exact go I6 fun s8 I8=>⟨v,_,_,I8,r6,q6⟩
 obtain⟨tb,pb,qb⟩:=hbody _ _ _ br
 refine wpAny_mono (pb [] s σ H E (Inv.toTry I _) (qb Oc Ob σ H ρ E R ?_)) (fun f s₁ hs => ?_) fun e s₁ z=>z
 ·unfold sTry at hp
  cases em:mb ρ with
  | ok o=>rw[em] at hp;exact hp
  | no=>rw[em] at hp;exact hp
  | ex c =>
   rw[em] at hp
   intro H' f1
   by_cases hc:caught.contains c=true
   ·simp only[hc,if_true] at hp
    exact⟨f1,hc,SPost.step f1 (fun b z=>z.elim) hp⟩
   ·simp only[hc] at hp
    exact hp.elim
 ·cases f with
  | next=>exact wpAny_execs_nil (SP.ofTry hs)
  | brk=>exact SP.ofTry (f:=.brk) hs
  | cont=>exact SP.ofTry (f:=.cont) hs
  | ret u=>exact SP.ofTry (f:=.ret u) hs
def isiX (cls sup:List Str):D->Option D
 | .none=>some (.bool false)
 | .dict [(.list [],.str c)]=>if cls.contains c then some (.bool (sup.contains c)) else none
 | _=>none
def IsK (K:KFr) (cls sup:List Str) (u:Value):Prop :=
 PySem.W.kitOne K (.type "NoneType") u=some false/\∀c,cls.contains c=true->ExK K (CN.ad c)/\PySem.W.kitOne K (.ref (CN.ad c)) u=some (sup.contains c)
def TyX (K:KFr) (H:Hp) (x:V) (t:Value):Prop :=
 (x=.non/\t=.type "NoneType")\/∃a c,x=.ref a/\H a=some (.ext (excP a c))/\t=.ref (CN.ad c)/\ExK K (CN.ad c)
theorem aH {X:Cx}:CallR X (.builtin "isinstance") (fun vs H Q=>∃x c cv t b,vs=[x,c]/\clsV c=some cv/\TyX X.K H x t/\PySem.W.kitOne X.K t cv=some b/\Q (.bl b) H):=by
 intro pins s σ H xs us Q I r h
 obtain⟨x,c,cv,t,b,rfl,ec,ty,k,q⟩:=h
 obtain⟨u,w',rfl,ru,rw'⟩:=vals2 r
 obtain rfl:=zW6 rw' ec
 rcases ty with ⟨rfl,rfl⟩ | ⟨a,c',rfl,ha,rfl,ek⟩
 ·cases (show u=Value.none from ru)
  exact PySem.W.kia_one PySem.W.kitx_none I.kIn True.intro k (fun z=>nomatch z) fun tk=>⟨.bl b,H,I.tok tk,rfl,q⟩
 ·cases ru
  obtain⟨p,_⟩:=I.hok a _ ha
  exact PySem.W.kia_one (yS3 ek) I.kIn p k (fun z=>nomatch z) fun tk=>⟨.bl b,H,I.tok tk,rfl,q⟩
theorem zA3 {K:KFr}{cls sup:List Str}{Oc:Wd}{Ob:Addr->Prop}{H:Hp}{v:V}{d r:D}(h:VA Oc Ob H v d) (e:isiX cls sup d=some r) (hk:∀c,cls.contains c=true->ExK K (CN.ad c)) :
  ∃t,TyX K H v t/\((t=.type "NoneType"/\r=.bool false)\/∃c,cls.contains c=true/\t=.ref (CN.ad c)/\r=.bool (sup.contains c)):=by
 rcases h with h | ⟨a,ys,ds,rfl,rfl,e3,e5⟩
 ·cases h with
  | non=>cases e;exact⟨_,.inl ⟨rfl,rfl⟩,.inl ⟨rfl,rfl⟩⟩
  | @exc a c q n =>
   unfold isiX at e
   by_cases hc:cls.contains c=true
   ·simp only[hc,if_true] at e
    cases e
    exact⟨_,.inr ⟨a,c,rfl,q,rfl,hk c hc⟩,.inr ⟨c,hc,rfl,rfl⟩⟩
   ·simp only[hc] at e
    cases e
  | _=>cases e
 ·cases e
section
variable {C:Ct}{e:Expr}{x:Str}{p p2 p3 pos:Pos}{md:Md}{me:Ev->Res D}
theorem zO1 (cls sup:List Str) (hk:IsK C.X.K cls sup (.ref (CN.ad x))) (hm:C.X.mg "isinstance" = none) (hx:C.X.mg x=some (.ref (CN.ad x))) (he:RE C md e me) (hg:autoParam (Gl C.X "isinstance") zY._auto_1) (hgx:autoParam (Gl C.X x) zY._auto_1) (hdb:autoParam ((x == ("__debug__":Str))=false) zK._auto_1)
  (hs1:autoParam (starEach [e,.Name x p2] C.X.env=(false,eval e C.X.env)::starEach [.Name x p2] C.X.env) zY._auto_1) (hs2:autoParam (starEach [.Name x p2] C.X.env=(false,eval (.Name x p2) C.X.env)::starEach [] C.X.env) zY._auto_1) (hpl:autoParam ((backTo pos (starEach [.Name x p2] C.X.env)).any (·.1)=false) zY._auto_1) :
  RE C .cl (.Call (.Name "isinstance" p) [e,.Name x p2] [] pos) (e1 (isiX cls sup) me):=by
 obtain⟨t,pe,q⟩:=he
 refine⟨_,wW aH hg hm PyProof.Rows.boot_isinstance (zU pe (zU (zQ8 (v:=.ref (CN.ad x)) hgx hx rfl hdb) zO hs2) hs1) (by decide) (by decide) hs1 hpl,fun Oc Ob σ H ρ Q R h=>q Oc Ob σ H ρ _ R (Res.zR (Res.zV h) (fun d _ kk v H' s r => ?_) fun _ z=>z)⟩
 obtain⟨dd,ed,kk⟩:=Res.zG kk
 obtain⟨tt,ty,hh⟩:=zA3 (r.va R.oh) ed fun c hc=>(hk.2 c hc).1
 rcases hh with ⟨rfl,rfl⟩ | ⟨c,hc,rfl,rfl⟩
 ·exact⟨v,.ref (CN.ad x),.ref (CN.ad x),_,_,rfl,rfl,ty,hk.1,kk _ H' s (Rep.bl _)⟩
 ·exact⟨v,.ref (CN.ad x),.ref (CN.ad x),_,_,rfl,rfl,ty,(hk.2 c hc).2,kk _ H' s (Rep.bl _)⟩
theorem yS9 {T:String}(cls sup:List Str) (hk:IsK C.X.K cls sup (.type T)) (hm:C.X.mg "isinstance" = none) (hx:C.X.mg x=none) (hv:bootBuiltins x=some (.type T)) (he:RE C md e me) (hg:autoParam (Gl C.X "isinstance") zY._auto_1) (hgx:autoParam (Gl C.X x) zY._auto_1) (hn:autoParam (x ≠ "__name__") zK._auto_1) (hdb:autoParam ((x == ("__debug__":Str))=false) zK._auto_1)
  (hs1:autoParam (starEach [e,.Name x p2] C.X.env=(false,eval e C.X.env)::starEach [.Name x p2] C.X.env) zY._auto_1) (hs2:autoParam (starEach [.Name x p2] C.X.env=(false,eval (.Name x p2) C.X.env)::starEach [] C.X.env) zY._auto_1) (hpl:autoParam ((backTo pos (starEach [.Name x p2] C.X.env)).any (·.1)=false) zY._auto_1) :
  RE C .cl (.Call (.Name "isinstance" p) [e,.Name x p2] [] pos) (e1 (isiX cls sup) me):=by
 obtain⟨t,pe,q⟩:=he
 refine⟨_,wW aH hg hm PyProof.Rows.boot_isinstance (zU pe (zU (zP4 (v:=.ty T) hgx hx hv rfl hn hdb) zO hs2) hs1) (by decide) (by decide) hs1 hpl,fun Oc Ob σ H ρ Q R h=>q Oc Ob σ H ρ _ R (Res.zR (Res.zV h) (fun d _ kk v H' s r => ?_) fun _ z=>z)⟩
 obtain⟨dd,ed,kk⟩:=Res.zG kk
 obtain⟨tt,ty,hh⟩:=zA3 (r.va R.oh) ed fun c hc=>(hk.2 c hc).1
 rcases hh with ⟨rfl,rfl⟩ | ⟨c,hc,rfl,rfl⟩
 ·exact⟨v,.ty T,.type T,_,_,rfl,rfl,ty,hk.1,kk _ H' s (Rep.bl _)⟩
 ·exact⟨v,.ty T,.type T,_,_,rfl,rfl,ty,(hk.2 c hc).2,kk _ H' s (Rep.bl _)⟩
end
omit [CN] in
theorem jU (c:Str) (m:Ev->Res (List D)) (ρ:Ev):sRa c m ρ=(m ρ).bind fun ds=>if ds.length<=sizeLine then .ex c else .no:=rfl
omit [CN] in
theorem yK4 {j:Nat}{cs:List Str}{mb ms:Ev->Res Out}{ρ:Ev}{c:Str}(h:mb ρ=.ex c) (hc:cs.contains c=true):sTry j cs mb ms ρ=(noEx (ms ((List.replicate ρ.length none).set j (some (excD c))))).bind (unn j):=by
 unfold sTry
 rw[h]
 exact if_pos hc
omit [CN] in
theorem jJ (cls sup:List Str) (c:Str):isiX cls sup (excD c)=if cls.contains c then some (.bool (sup.contains c)) else none:=rfl
theorem xV7 {K:KFr}{cls:List Str}{u:Value}(h:∀c∈cls,PySem.W.kitCls K (.ref (CN.ad c)) u=some true):∀c,cls.contains c=true->PySem.W.kitCls K (.ref (CN.ad c)) u=some true :=
 fun c hc=>h c (List.contains_iff_mem.mp hc)
theorem zV1 {K:KFr}{cls sup:List Str}{u:Value}(h0:PySem.W.kitOne K (.type "NoneType") u=some false) (h:∀c∈cls,ExK K (CN.ad c)/\PySem.W.kitOne K (.ref (CN.ad c)) u=some (sup.contains c)):IsK K cls sup u :=
 ⟨h0,fun c hc=>h c (List.contains_iff_mem.mp hc)⟩
end L2.L3
namespace L2.L3
open PySem PySem.Spec PyProof.Rows
theorem gM {K:KFr}{t c:Value}{v:Bool}(h:PySem.W.kitOne K t c=some v) (n:(t == c)=false):PySem.W.kitCls K t c=some v:=by
 rw[PySem.W.kitOne,if_neg (by rw[n];decide)] at h
 exact h
theorem jI {K:KFr}{A:Addr}{T:String}{v:Bool}(h:PySem.W.kitOne K (.ref A) (.type T)=some v):PySem.W.subIn K (.ref A) (.type T)=some v:=by
 have h2:=gM h rfl
 rw[PySem.W.kitCls] at h2
 split at h2
 ·exact h2
 ·cases h2
def cnOf (K:KFr):CN:=⟨fun x=>match PySem.W.nsIn K mainGlobals x with | some (some (.ref a))=>a | _=>0⟩
theorem zH5 {K:KFr}{x:Str}{a:Addr}(h:PySem.W.nsIn K mainGlobals x=some (some (.ref a))):(cnOf K).ad x=a:=by
 show (match PySem.W.nsIn K mainGlobals x with | some (some (.ref a))=>a | _=>0)=a
 rw[h]
theorem zC4 {F:List D->Res D}{k:Nat}{l:PySem.W.OpenLaw}{q:Program}{loose:List Str}{XP:(Str->Option Value)->Heap->Prop}{YP:World->Heap->Prop}{d:DefRec}{K:Params->KFr}(hT:∀ns:List Int,ns.length<=63->F [.list (ns.map PyData.int)]=.ok (.bool true)) (hr:Room k callerA) (hn:l.most=some 63) (hdf:d.params.defaults=[])
  (hY:∀(w:World) (h:Heap),YP w h->(K w.params).In h) (hL:∀w:World,noLst (K w.params)=true)
  (hF:∀(w:World) (mg:Str->Option Value) (fa:Addr) (h:Heap),(K w.params).In h->h.Ns mainGlobals mg->mg d.name=some (.ref fa) ->
   ∃fd:FuncData,(∀(s:Shared) (u:Value),BindsTo s fd ⟨[u],[]⟩ [("script",u)])/\∀base:Heap,(K w.params).In base->base.Ns mainGlobals mg->FnOk l.prog w (K w.params) mg base (CXV l.prog w) k fa fd ["script"] (@spX (cnOf (K w.params)) false F)) (TT:TabsOk q K) :
  PySem.W.WalkO q loose XP YP l.row.toRowW d [] (fun f vs=>PySem.call f vs):=by
 refine L2.yJ4 (n:=63) (k:=k) (x:="script") (CX:=fun w=>CXV l.prog w) (sp:=fun w=>@spX (cnOf (K w.params)) false F) hn (by decide) hdf hr hY hF (fun w H a ns hl hO hS => ?_) (fun w H s e s' z => ?_) TT
 ·letI:=cnOf (K w.params)
  refine⟨[.list (ns.map PyData.int)],fun _=>False,fun a z=>z.elim,.cons (.lst (xT8 (hL w) hS) (fun z=>z) (uL ns)) .nil,?_⟩
  rw[hT ns hl]
  intro v H' _ r
  cases (show Rep H' (fun _=>False) v (.bool true) from r)
  rfl
 ·obtain⟨_,_,_,_,_,_,_,_,_,_,_,_,_,z⟩:=z
  exact z
end L2.L3
namespace MR
theorem pigeon:∀(n:Nat) (f:Nat->Nat),(∀i,i<=n->f i<n)->∃i j,i<j/\j<=n/\f i=f j
 | 0,f,h=>absurd (h 0 (Nat.le_refl _)) (by bv_omega)
 | n+1,f,h=>by
  by_cases c:∃i,i<=n/\f i=f (n+1)
  ·obtain⟨i,hi,e⟩:=c
   exact⟨i,n+1,by bv_omega,Nat.le_refl _,e⟩
  ·have ne:∀i,i<=n->f i≠f (n+1):=fun i hi e=>c ⟨i,hi,e⟩
   obtain⟨i,j,h1,h2,e⟩:=pigeon n (fun i=>if f (n+1)<f i then f i-1 else f i) fun i hi=>by
    have a:=h i (by bv_omega)
    have b:=h (n+1) (Nat.le_refl _)
    have d:=ne i hi
    show (if f (n+1)<f i then f i-1 else f i)<n
    split <;> bv_omega
   refine⟨i,j,h1,by bv_omega,?_⟩
   have di:=ne i (by bv_omega)
   have dj:=ne j h2
   have e:(if f (n+1)<f i then f i-1 else f i)=(if f (n+1)<f j then f j-1 else f j):=e
   split at e <;> split at e <;> bv_omega
structure Ord (n:Nat) (xs:List Int):Prop where
 len:xs.length=n
 bd:∀i,i<n->0<=xs.getD i 0/\xs.getD i 0<n
 inj:∀i j,i<n->j<n->xs.getD i 0=xs.getD j 0->i=j
def nxt (xs:List Int) (b:Nat):Nat:=(xs.getD b 0).toNat
def it (xs:List Int):Nat->Nat->Nat
 | 0,b=>b
 | k+1,b=>nxt xs (it xs k b)
section
variable {n:Nat}{xs:List Int}
theorem Ord.yJ (o:Ord n xs){b:Nat}(h:b<n):nxt xs b<n:=by
 have:=o.bd b h
 unfold nxt;bv_omega
theorem Ord.vM (o:Ord n xs){b:Nat}(h:b<n):xs.getD b 0=(nxt xs b:Int):=by
 have:=o.bd b h
 unfold nxt;bv_omega
theorem Ord.qQ (o:Ord n xs){b c:Nat}(h:b<n) (h':c<n) (e:nxt xs b=nxt xs c):b=c :=
 o.inj b c h h' (by rw[o.vM h,o.vM h',e])
theorem Ord.jQ (o:Ord n xs){b:Nat}(h:b<n):∀k,it xs k b<n
 | 0=>h
 | k+1=>o.yJ (o.jQ h k)
theorem wE (xs:List Int) (b:Nat) (j:Nat):∀k,it xs (k+j) b=it xs k (it xs j b)
 | 0=>by rw[Nat.zero_add];rfl
 | k+1=>by rw[Nat.add_right_comm];show nxt xs (it xs (k+j) b)=nxt xs (it xs k (it xs j b));rw[wE xs b j k]
theorem Ord.cM (o:Ord n xs){b c:Nat}(h:b<n) (h':c<n):∀k,it xs k b=it xs k c->b=c
 | 0,e=>e
 | k+1,e=>o.cM h h' k (o.qQ (o.jQ h k) (o.jQ h' k) e)
theorem Ord.back (o:Ord n xs){b:Nat}(h:b<n):∃p,1<=p/\p<=n/\it xs p b=b:=by
 obtain⟨i,j,h1,h2,e⟩:=pigeon n (fun i=>it xs i b) fun i _=>o.jQ h i
 refine⟨j-i,by bv_omega,by bv_omega,?_⟩
 have e2:it xs i (it xs (j-i) b)=it xs i b:=by
  rw[<-wE,show i+(j-i)=j by bv_omega]
  exact e.symm
 exact o.cM (o.jQ h _) h i e2
def perGo (xs:List Int) (b:Nat):Nat->Nat->Nat
 | 0,k=>k
 | fuel+1,k=>if it xs k b=b then k else perGo xs b fuel (k+1)
theorem cP (xs:List Int) (b:Nat):∀(fuel k:Nat),(∃p,k<=p/\p<=k+fuel/\it xs p b=b) ->
  k<=perGo xs b fuel k/\perGo xs b fuel k<=k+fuel/\it xs (perGo xs b fuel k) b=b/\∀i,k<=i->i<perGo xs b fuel k->it xs i b≠b
 | 0,k,⟨p,h1,h2,e⟩=>by
  have:p=k:=by bv_omega
  subst this
  exact⟨Nat.le_refl _,Nat.le_refl _,e,fun i a c=>absurd (show i<p from c) (by bv_omega)⟩
 | fuel+1,k,⟨p,h1,h2,e⟩=>by
  by_cases c:it xs k b=b
  ·rw[perGo,if_pos c]
   exact⟨Nat.le_refl _,by bv_omega,c,fun i a d=>absurd d (by bv_omega)⟩
  ·rw[perGo,if_neg c]
   have hp:k+1<=p:=by
    rcases Nat.lt_or_ge k p with q | q
    ·exact q
    ·have:p=k:=by bv_omega
     subst this
     exact absurd e c
   obtain⟨a1,a2,a3,a4⟩:=cP xs b fuel (k+1) ⟨p,hp,by bv_omega,e⟩
   refine⟨by bv_omega,by bv_omega,a3,fun i hi hl => ?_⟩
   by_cases q:i=k
   ·rw[q];exact c
   ·exact a4 i (by bv_omega) hl
def per (n:Nat) (xs:List Int) (b:Nat):Nat:=perGo xs b (n-1) 1
theorem Ord.wB (o:Ord n xs){b:Nat}(h:b<n):1<=per n xs b/\per n xs b<=n/\it xs (per n xs b) b=b/\∀i,1<=i->i<per n xs b->it xs i b≠b:=by
 obtain⟨p,h1,h2,e⟩:=o.back h
 obtain⟨a1,a2,a3,a4⟩:=cP xs b (n-1) 1 ⟨p,h1,by bv_omega,e⟩
 exact⟨a1,by unfold per;bv_omega,a3,a4⟩
theorem Ord.xQ8 (o:Ord n xs){b:Nat}(h:b<n){i j:Nat}(hij:i<j) (hj:j<per n xs b):it xs i b≠it xs j b:=fun e=>by
 obtain⟨_,_,_,a4⟩:=o.wB h
 refine a4 (j-i) (by bv_omega) (by bv_omega) ?_
 refine o.cM (o.jQ h _) h i ?_
 rw[<-wE,show i+(j-i)=j by bv_omega]
 exact e.symm
theorem zC8 (xs:List Int) (b p:Nat) (e:it xs p b=b):∀k,it xs (k*p) b=b
 | 0=>by rw[Nat.zero_mul];rfl
 | k+1=>by rw[Nat.succ_mul,wE,e,zC8 xs b p e k]
theorem Ord.yC9 (o:Ord n xs){b:Nat}(h:b<n) (k:Nat):it xs k b=it xs (k%per n xs b) b:=by
 obtain⟨a1,_,a3,_⟩:=o.wB h
 have e:k=k%per n xs b+(k / per n xs b)*per n xs b:=by rw[Nat.mul_comm];exact (Nat.mod_add_div k (per n xs b)).symm
 conv=>lhs;rw[e,wE,zC8 xs b _ a3]
def In (n:Nat) (xs:List Int) (b c:Nat):Prop:=∃i,i<per n xs b/\it xs i b=c
theorem Ord.xS2 (o:Ord n xs){b:Nat}(h:b<n) (k:Nat):In n xs b (it xs k b):=by
 obtain⟨a1,_⟩:=o.wB h
 exact⟨k%per n xs b,Nat.mod_lt _ (by bv_omega),(o.yC9 h k).symm⟩
theorem Ord.yN2 (o:Ord n xs){b c:Nat}(h:b<n) (hc:In n xs b c):c<n:=by
 obtain⟨i,_,rfl⟩:=hc
 exact o.jQ h i
def ring (n:Nat) (xs:List Int) (b:Nat):List Nat:=(List.range (per n xs b)).map fun i=>it xs i b
theorem yU9 {b c:Nat}:c∈ring n xs b↔In n xs b c:=by
 unfold ring In
 simp only[List.mem_map,List.mem_range]
theorem Ord.zH6 (o:Ord n xs){b:Nat}(h:b<n):(ring n xs b).Nodup:=by
 unfold ring List.Nodup
 rw[List.pairwise_map]
 refine List.Pairwise.imp_of_mem ?_ (List.pairwise_lt_range (n:=per n xs b))
 intro i j hi hj hlt
 exact o.xQ8 h hlt (List.mem_range.mp hj)
theorem Ord.yW9 (o:Ord n xs){b c:Nat}(h:b<n) (hc:In n xs b c):per n xs c=per n xs b:=by
 have hcl:=o.yN2 h hc
 obtain⟨i,hi,rfl⟩:=hc
 obtain⟨a1,a2,a3,a4⟩:=o.wB h
 obtain⟨b1,b2,b3,b4⟩:=o.wB hcl
 have e1:it xs (per n xs b) (it xs i b)=it xs i b:=by rw[<-wE,Nat.add_comm,wE,a3]
 have e2:it xs (per n xs (it xs i b)) b=b:=by
  refine o.cM (o.jQ h _) h i ?_
  rw[<-wE,Nat.add_comm,wE,b3]
 rcases Nat.lt_trichotomy (per n xs (it xs i b)) (per n xs b) with q | q | q
 ·exact absurd e2 (a4 _ b1 q)
 ·exact q
 ·exact absurd e1 (b4 _ a1 q)
def has (rs:List (List Nat)) (b:Nat):Bool:=rs.any fun r=>r.contains b
def rgs (n:Nat) (xs:List Int):Nat->List (List Nat)
 | 0=>[]
 | b+1=>if has (rgs n xs b) b then rgs n xs b else rgs n xs b ++ [ring n xs b]
structure Rgs (n:Nat) (xs:List Int) (m:Nat) (rs:List (List Nat)):Prop where
 each:∀r∈rs,∃b,b<m/\r=ring n xs b/\∀c,In n xs b c->b<=c
 cover:∀c,c<m->∃r∈rs,c∈r
 nodup:rs.flatten.Nodup
 rise:rs.Pairwise fun r r'=>∀x∈r.head?,∀y∈r'.head?,x<y
end
end MR
namespace L2.L3
open PySem PySem.Spec PyProof.Rows MR
variable [CN]
def pwD (m p:Int):Nat->Int
 | 0=>p
 | i+1=>pwD m p i / m
def digD (m p:Int) (n:Nat):List Int:=(List.range n).map fun i=>pwD m p i%m
def Pot (a:Addr) (H H':Hp):Prop:=∀b o,H b=some o->b≠a->H' b=some o
theorem Pot.upd {a:Addr}{H:Hp}{o:HO}:Pot a H (upd H a o):=fun b u e n=>by rw[zX n];exact e
theorem Pot.trans {a:Addr}{H H1 H2:Hp}(h:Pot a H H1) (g:Pot a H1 H2):Pot a H H2:=fun b o e n=>g b o (h b o e n) n
theorem Pot.refl (a:Addr) (H:Hp):Pot a H H:=fun _ _ e _=>e
theorem Pot.new {a b:Addr}{H H1:Hp}{o:HO}(h:Pot a H H1) (hb:H1 b=none):Pot a H (L2.upd H1 b o):=fun c u e n=>by
 rw[zX (fun z=>by rw[z] at e;rw[z] at n;rw[h b u e n] at hb;cases hb)]
 exact h c u e n
def spTake:Sp:=fun vs H Q _=>∃(a:Addr) (p m:Int),vs=[.ref a,.int m]/\H a=some (.lst [.int p])/\DivOk m/\Q (.int (p%m)) (upd H a (.lst [.int (p / m)]))
def tTake (K:KFr):TS:=tSeq (tAsg (tOp (rI (fun _ j=>0<j) fun i j=>.int (i%j)) (tOp (rIxL K) (tVar 0) (tC (.int 0))) (tVar 1)) (gName 2)) (tSeq (tAsg (tOp (rI (fun _ j=>DivOk j) fun i j=>.int (i / j)) (tOp (rIxL K) (tVar 0) (tC (.int 0))) (tVar 1)) (gSub (tVar 0) (tC (.int 0)) rSetL)) (tRet (tVar 2)))
theorem zC7 {K:KFr}{a:Addr}{p m:Int}{H:Hp}{E:Ends}(h:H a=some (.lst [.int p])) (hm:DivOk m) (k:E.rt (.int (p%m)) (upd H a (.lst [.int (p / m)]))):tTake K E [some (.ref a),some (.int m),none] H:=by
 refine⟨_,rfl,a,_,0,_,rfl,rfl,SqL.of h,rfl,_,rfl,_,_,rfl,rfl,hm.1,?_⟩
 refine⟨_,rfl,a,_,0,_,rfl,rfl,SqL.of h,rfl,_,rfl,_,_,rfl,rfl,hm,?_⟩
 exact⟨_,rfl,a,_,0,0,rfl,rfl,h,rfl,_,rfl,k⟩
section
variable {P:Program}{w:World}{K:KFr}{mg:Str->Option Value}{base:Heap}
theorem yF4 {x:Str}{st:Stmt}{f:Addr}{fd:FuncData}{N ps:List Str}{k:Nat}(F:Fun K x x st f fd) (S:zI N ps (zW st)) (hp:ps.length=2) (hN:N.length=3)
  (hbody:∀(cdv:Value) (A:Around) (outer:List Env) (s:Shared) (H:Hp) (E:XK),Room k (A.deeper (envOfC x (zW st) s.heap.objs.size f cdv))->PSs (cxOf CX0 P w K mg base N x (zW st) f cdv A outer s H E).nox (defBody st) (tTake K)) :
  FnOk P w K mg base CX0 (k+1) f fd ps spTake:=by
 refine F.ok S (fun vs H Q E ⟨a,p,m,e,_⟩=>by rw[e,hp];rfl) fun cdv A outer s H vs Q E hr h => ?_
 obtain⟨a,p,m,rfl,ha,hm,q⟩:=h
 refine⟨_,hbody cdv A outer s H E hr,?_⟩
 have st:start N [V.ref a,V.int m]=[some (.ref a),some (.int m),none]:=by
  unfold start
  rw[hN]
  rfl
 rw[st]
 exact zC7 ha hm q
end
def rTup (K:KFr):List V->Hp->VK->Prop:=fun xs H Q=>∃p ys,xs=[.ref p]/\((SqL K H p ys/\∀l,H l=none->Q (.ref l) (upd H l (.tup ys)))\/(SqT K H p ys/\Q (.ref p) H))
def rAdd:R2:=rI0 fun i j=>.int (i+j)
def DigTo (a:Addr) (m p:Int) (n:Nat) (H:Hp) (Q:VK):Prop:=∀b H',H b=none->H' b=some (.tup ((digD m p n).map V.int))->H' a=some (.lst [.int (pwD m p n)])->Pot a H H'->Q (.ref b) H'
theorem yW1 (m p:Int) (n:Nat):digD m p (n+1)=digD m p n ++ [pwD m p n%m]:=by
 unfold digD
 rw[List.range_succ,List.map_append]
 rfl
theorem zW7 {K:KFr}{σ:St}{js:List Nat}{a:Addr}{m p:Int}{n:Nat}{H:Hp}{Q:VK}{te:Addr->List Addr->Shared->Hp->TE}{wi:TI}(ha:H a=some (.lst [.int p])) (hn:n<=1000)
  (hw:∀(H:Hp) (R:It->Hp->Prop),R (Itr 0 n) H->wi σ H R)
  (he:∀C fp s₂ H₂ (i:Nat) (q:Int) (H:Hp) (Q:VK),H a=some (.lst [.int q])->Q (.int (q%m)) (upd H a (.lst [.int (q / m)]))->te C fp s₂ H₂ (compSt σ js (some (.int (0+(i:Int))))) H Q)
  (k:DigTo a m p n H Q):tCB (rTup K) (zP (tComp wi (fun _ _ _ _=>tTrue) te js) tNil) σ H Q:=by
 refine hw H _ fun C fp s₂ H₂ => ?_
 refine cA (lo:=0) (n:=n) (tt:=tTrue) (te:=te C fp s₂ H₂) (js:=js) (σ:=σ) (Q:=fun x H1=>rTup K [x] H1 Q) (fun i acc H1=>acc=(digD m p i).map V.int/\H1 a=some (.lst [.int (pwD m p i)])/\Pot a H H1) ⟨rfl,ha,Pot.refl a H⟩ ?_ ?_
 ·rintro i acc H1 hi ⟨rfl,h1,po⟩
  unfold tTrue
  simp only[if_true]
  refine he C fp s₂ H₂ i _ H1 _ h1 ⟨by rw[List.length_map,digD,List.length_map,List.length_range];exact small1000 (by bv_omega),?_,zT,po.trans Pot.upd⟩
  rw[yW1,List.map_append]
  rfl
 ·rintro acc H1 ⟨rfl,h1,po⟩ l hl
  have al:a≠l:=fun z=>by rw[<-z,h1] at hl;cases hl
  refine⟨l,_,rfl,.inl ⟨SqL.of zT,fun b hb => ?_⟩⟩
  have bl:b≠l:=fun z=>by rw[z,zT] at hb;cases hb
  have ba:b≠a:=fun z=>by rw[z,zX al,h1] at hb;cases hb
  have hb1:H1 b=none:=by rw[zX bl] at hb;exact hb
  have hb0:H b=none:=by
   cases e:H b with
   | none=>rfl
   | some o=>rw[po b o e ba] at hb1;cases hb1
  refine k b _ hb0 zT ?_ ((po.new hl).new hb)
  rw[zX (fun z=>ba z.symm),zX al]
  exact h1
def tOpn (K:KFr):TS:=tRet (tCB (rTup K) (zP (tComp (iRng1 (zP (tVar 1) tNil)) (fun _ _ _ _=>tTrue) (fun _ _ _ _=>tCall spTake [] E0 (zP (tVar 1) (zP (tOp rAdd (tVar 2) (tC (.int 1))) tNil))) [0,1]) tNil))
def spOpn:Sp:=fun vs H Q _=>∃(a:Addr) (p:Int) (n:Nat),vs=[.ref a,.int (n:Int)]/\H a=some (.lst [.int p])/\n<=1000/\DigTo a ((n:Int)+1) p n H Q
theorem yT3 {K:KFr}{a:Addr}{p:Int}{n:Nat}{H:Hp}{E:Ends}(h:H a=some (.lst [.int p])) (hn:n<=1000) (k:DigTo a ((n:Int)+1) p n H E.rt):tOpn K E [some (.ref a),some (.int (n:Int))] H:=by
 refine zW7 (K:=K) (m:=(n:Int)+1) h hn (fun H' R r=>⟨_,rfl,(n:Int),rfl,by bv_omega,by bv_omega,by rw[Int.toNat_natCast];exact r⟩) (fun C fp s₂ H₂ i q H' Q' h' k' => ?_) k
 exact⟨_,rfl,_,rfl,_,_,rfl,rfl,a,q,_,rfl,h',DivOk.small (by bv_omega) (by bv_omega),k'⟩
section
variable {P:Program}{w:World}{K:KFr}{mg:Str->Option Value}{base:Heap}
theorem xW5 {x:Str}{st:Stmt}{f:Addr}{fd:FuncData}{N ps:List Str}{k:Nat}(F:Fun K x x st f fd) (S:zI N ps (zW st)) (hp:ps.length=2) (hN:N.length=2)
  (hbody:∀(cdv:Value) (A:Around) (outer:List Env) (s:Shared) (H:Hp) (E:XK),Room k (A.deeper (envOfC x (zW st) s.heap.objs.size f cdv))->PSs (cxOf CX0 P w K mg base N x (zW st) f cdv A outer s H E).nox (defBody st) (tOpn K)) :
  FnOk P w K mg base CX0 (k+1) f fd ps spOpn:=by
 refine F.ok S (fun vs H Q E ⟨a,p,n,e,_⟩=>by rw[e,hp];rfl) fun cdv A outer s H vs Q E hr h => ?_
 obtain⟨a,p,n,rfl,ha,hn,q⟩:=h
 refine⟨_,hbody cdv A outer s H E hr,?_⟩
 have st:start N [V.ref a,V.int (n:Int)]=[some (.ref a),some (.int (n:Int))]:=by
  unfold start
  rw[hN]
  rfl
 rw[st]
 exact yT3 ha hn q
end
theorem zD3 {α β:Type}(f:α->β):∀(l:List α) (i:Nat),(l.map f).eraseIdx i=(l.eraseIdx i).map f
 | [],_=>rfl
 | _::_,0=>rfl
 | _::l,i+1=>congrArg _ (zD3 f l i)
theorem fS {α:Type}:∀(l:List α) (i:Nat) (h:i<l.length),(l[i]::l.eraseIdx i).Perm l
 | [],_,h=>nomatch h
 | _::_,0,_=>List.Perm.refl _
 | x::l,i+1,h=>(List.Perm.swap x _ _).trans ((fS l i (Nat.lt_of_succ_lt_succ h)).cons x)
def pickO:Nat->List Int->Int->List Int
 | 0,_,_=>[]
 | k+1,l,p=>l.getD (p%((k+1:Nat):Int)).toNat 0::pickO k (l.eraseIdx (p%((k+1:Nat):Int)).toNat) (p / ((k+1:Nat):Int))
theorem cT:∀(k:Nat) (l:List Int) (p:Int),l.length=k->(pickO k l p).Perm l
 | 0,l,p,h=>by rw[List.length_eq_zero_iff.mp h];exact List.Perm.nil
 | k+1,l,p,h=>by
  have h0:=Int.emod_nonneg p (show ((k+1:Nat):Int)≠0 by bv_omega)
  have h1:=Int.emod_lt_of_pos p (show (0:Int)<((k+1:Nat):Int) by bv_omega)
  have hj:(p%((k+1:Nat):Int)).toNat<l.length:=by bv_omega
  rw[pickO]
  refine ((cT k _ _ (by rw[List.length_eraseIdx_of_lt hj];bv_omega)).cons _).trans ?_
  rw[List.getD,List.getElem?_eq_getElem hj,Option.getD_some]
  exact fS l _ hj
def ordP (n:Nat) (p:Int):List Int:=pickO n ((List.range n).map fun (i:Nat)=>(i:Int)) p
def rLnS (K:KFr):List V->Hp->VK->Prop:=fun xs H Q=>∃p ys,xs=[.ref p]/\(SqL K H p ys\/SqT K H p ys)/\Q (.int ys.length) H
def rRng:List V->Hp->VK->Prop:=fun xs H Q=>∃j:Int,xs=[.int j]/\∀p,H p=none->Q (.ref p) (upd H p (.rng 0 j))
def rLstR:List V->Hp->VK->Prop:=fun xs H Q=>∃(p:Addr) (j:Int),xs=[.ref p]/\H p=some (.rng 0 j)/\-(2 ^ 62)<=j/\j.toNat<=1000000/\∀l,H l=none->Q (.ref l) (upd H l (.lst ((List.range j.toNat).map fun (i:Nat)=>V.int (i:Int))))
def tOrdW (K:KFr):TS:=tWhile (tTest (tOp (rEqD K true) (tVar 2) (tLst tNil))) (tDrop (tBM K "list" rAppend (tVar 3) (zP (tBM K "list" rPopAt (tVar 2) (zP (tCall spTake [] E0 (zP (tVar 0) (zP (tCB (rLnS K) (zP (tVar 2) tNil)) tNil))) tNil)) tNil)))
def tOrd (K:KFr):TS:=tSeq (tAsg (tCB rLstR (zP (tCB rRng (zP (tVar 1) tNil)) tNil)) (gName 2)) (tSeq (tAsg (tLst tNil) (gName 3)) (tSeq (tOrdW K) (tRet (tCB (rTup K) (zP (tVar 3) tNil)))))
def OrdTo (a:Addr) (n:Nat) (p:Int) (H:Hp) (Q:VK):Prop:=∀b H' q,H b=none->H' b=some (.tup ((ordP n p).map V.int))->H' a=some (.lst [.int q])->Pot a H H'->Q (.ref b) H'
theorem zB5 {K:KFr}{H0:Hp}{a la lo:Addr}{n:Nat}{T:List Int}{E:Ends}(hn:n<=1000) (d1:a≠la) (d2:a≠lo) (d3:la≠lo)
  (k:∀H q,H a=some (.lst [.int q])->H lo=some (.lst (T.map V.int))->Pot a H0 H->E.nx [some (.ref a),some (.int (n:Int)),some (.ref la),some (.ref lo)] H)
  (f1:H0 la=none) (f2:H0 lo=none):∀{H:Hp}{l acc:List Int}{p:Int},H a=some (.lst [.int p])->H la=some (.lst (l.map V.int))->H lo=some (.lst (acc.map V.int))->Pot a H0 H->acc++pickO l.length l p=T->acc.length+l.length=n ->
   tOrdW K E [some (.ref a),some (.int (n:Int)),some (.ref la),some (.ref lo)] H:=by
 intro H l acc p ha hla hlo po e hl
 refine⟨fun m σ H=>∃l acc p,m=l.length/\σ=[some (.ref a),some (.int (n:Int)),some (.ref la),some (.ref lo)]/\H a=some (.lst [.int p])/\H la=some (.lst (l.map V.int))/\H lo=some (.lst (acc.map V.int))/\Pot a H0 H/\acc++pickO l.length l p=T/\acc.length+l.length=n,⟨_,l,acc,p,rfl,rfl,ha,hla,hlo,po,e,hl⟩,?_⟩
 clear e hl ha hla hlo po
 rintro m σ H ⟨l,acc,p,rfl,rfl,ha,hla,hlo,po,e,hl⟩
 refine⟨_,rfl,Nat.zero_le _,fun g hg => ?_⟩
 have ga:a≠g:=fun z=>by rw[<-z,ha] at hg;cases hg
 have gla:la≠g:=fun z=>by rw[<-z,hla] at hg;cases hg
 have glo:lo≠g:=fun z=>by rw[<-z,hlo] at hg;cases hg
 have po':=po.new (o:=.lst []) hg
 have ha':(upd H g (.lst [])) a=some (.lst [.int p]):=by rw[zX ga];exact ha
 have hla':(upd H g (.lst [])) la=some (.lst (l.map V.int)):=by rw[zX gla];exact hla
 have hlo':(upd H g (.lst [])) lo=some (.lst (acc.map V.int)):=by rw[zX glo];exact hlo
 generalize hH1:upd H g (.lst [])=H1 at *
 refine⟨.list (l.map PyData.int),.list (([]:List Int).map PyData.int),zL2 (SqL.of hla'),zL2 (SqL.of (by rw[<-hH1];exact zT)),xA l,xA [],_,rfl,?_⟩
 rw[bU]
 cases l with
 | nil =>
  rw[decide_eq_true rfl,if_neg (by decide)]
  rw[show acc=T from by rw[<-e];exact (List.append_nil acc).symm] at hlo'
  exact k H1 p ha' hlo' po'
 | cons x l =>
  have em:=Int.emod_nonneg p (show ((l.length+1:Nat):Int)≠0 by bv_omega)
  have em':=Int.emod_lt_of_pos p (show (0:Int)<((l.length+1:Nat):Int) by bv_omega)
  have hlen:((x::l).map V.int).length=l.length+1:=by rw[List.length_map];rfl
  generalize hi:p%((l.length+1:Nat):Int)=i at em em'
  have hj:i.toNat<(x::l).length:=by rw[List.length_cons];bv_omega
  rw[decide_eq_false (by exact fun z=>nomatch z),if_pos (by decide)]
  refine⟨fun σ' H'=>∃l' acc' p',l'.length=l.length/\σ'=[some (.ref a),some (.int (n:Int)),some (.ref la),some (.ref lo)]/\H' a=some (.lst [.int p'])/\H' la=some (.lst (l'.map V.int))/\H' lo=some (.lst (acc'.map V.int))/\Pot a H0 H'/\acc'++pickO l'.length l' p'=T/\acc'.length+l'.length=n,fun σ' H' ⟨l',acc',p',e1,e2⟩=>⟨l.length,by rw[List.length_cons];bv_omega,l',acc',p',e1.symm,e2⟩,?_⟩
  refine⟨_,rfl,.inl ⟨rfl,_,SqL.of hlo'⟩,_,rfl,.inl ⟨rfl,_,SqL.of hla'⟩,_,rfl,_,rfl,la,_,rfl,.inl (SqL.of hla'),a,p,_,rfl,ha',?_⟩
  rw[hlen,hi]
  refine⟨DivOk.small (by bv_omega) (by rw[List.length_cons] at hl;bv_omega),la,_,i,i.toNat,V.int ((x::l).getD i.toNat 0),rfl,rfl,by rw[zX (fun z=>d1 z.symm)];exact hla',by bv_omega,by rw[List.length_cons] at hl;bv_omega,?_,?_,?_⟩
  ·unfold seqIndex?
   rw[hlen]
   have e1:¬i<0:=by bv_omega
   simp only[if_neg e1]
   rw[if_pos (by simp;bv_omega)]
  ·rw[List.getElem?_map,List.getD,List.getElem?_eq_getElem hj]
   rfl
  ·have p2:Pot a H0 (upd H1 a (.lst [.int (p / ((l.length+1:Nat):Int))])):=po'.trans Pot.upd
   have keep:∀{H2:Hp}{c:Addr}{o:HO},H0 c=none->Pot a H0 H2->Pot a H0 (upd H2 c o):=fun {H2 c o} h0 h b u e n=>by
    rw[zX (fun z=>by rw[z,h0] at e;cases e)]
    exact h b u e n
   refine⟨lo,acc.map V.int,_,rfl,rfl,by rw[zX (fun z=>d3 z.symm),zX (fun z=>d2 z.symm)];exact hlo',by rw[List.length_map];exact small1000 (by bv_omega),(x::l).eraseIdx i.toNat,acc ++ [(x::l).getD i.toNat 0],p / ((l.length+1:Nat):Int),?_,rfl,?_,?_,?_,keep f2 (keep f1 p2),?_,?_⟩
   ·rw[List.length_eraseIdx_of_lt hj];rfl
   ·rw[zX d2,zX d1,zT]
   ·rw[zX d3,zT,zD3]
   ·rw[zT,List.map_append];rfl
   ·rw[<-e,List.length_cons,pickO,hi,List.length_eraseIdx_of_lt hj,List.append_assoc]
    rfl
   ·rw[List.length_append,List.length_eraseIdx_of_lt hj]
    rw[List.length_cons] at hl ⊢
    simp
    bv_omega
theorem yR2 {K:KFr}{a:Addr}{p:Int}{n:Nat}{H:Hp}{E:Ends}(h:H a=some (.lst [.int p])) (hn:n<=1000) (k:OrdTo a n p H E.rt):tOrd K E [some (.ref a),some (.int (n:Int)),none,none] H:=by
 refine⟨_,rfl,_,rfl,fun g hg=>⟨g,_,rfl,zT,by bv_omega,by bv_omega,fun la hla=>⟨Nat.zero_le _,fun lo hlo => ?_⟩⟩⟩
 have ag:a≠g:=fun z=>by rw[<-z,h] at hg;cases hg
 have gla:la≠g:=fun z=>by rw[z,zT] at hla;cases hla
 have ala:a≠la:=fun z=>by rw[<-z,zX ag,h] at hla;cases hla
 have lola:la≠lo:=fun z=>by rw[<-z,zT] at hlo;cases hlo
 have glo:lo≠g:=fun z=>by rw[z,zX (fun z=>gla z.symm),zT] at hlo;cases hlo
 have alo:a≠lo:=fun z=>by rw[<-z,zX ala,zX ag,h] at hlo;cases hlo
 have f1:H la=none:=by rw[zX gla] at hla;exact hla
 have f2:H lo=none:=by rw[zX (fun z=>lola z.symm),zX glo] at hlo;exact hlo
 refine zB5 (T:=ordP n p) hn ala alo lola (fun H2 q ha hl po => ?_) f1 f2 (l:=(List.range n).map fun (i:Nat)=>(i:Int)) (acc:=[]) (p:=p) ?_ ?_ zT ?_ ?_ ?_
 ·refine⟨_,rfl,lo,_,rfl,.inl ⟨SqL.of hl,fun b hb => ?_⟩⟩
  have ba:b≠a:=fun z=>by rw[z,ha] at hb;cases hb
  refine k b _ q ?_ zT ?_ (po.new hb)
  ·cases e:H b with
   | none=>rfl
   | some o=>rw[po b o e ba] at hb;cases hb
  ·rw[zX (fun z=>ba z.symm)];exact ha
 ·rw[zX alo,zX ala,zX ag];exact h
 ·rw[zX lola,zT,Int.toNat_natCast,List.map_map];rfl
 ·exact ((Pot.refl a H).new hg).new hla |>.new hlo
 ·rw[List.length_map,List.length_range];rfl
 ·rw[List.length_map,List.length_range];simp
def spOrd:Sp:=fun vs H Q _=>∃(a:Addr) (p:Int) (n:Nat),vs=[.ref a,.int (n:Int)]/\H a=some (.lst [.int p])/\n<=1000/\OrdTo a n p H Q
section
variable {P:Program}{w:World}{K:KFr}{mg:Str->Option Value}{base:Heap}
theorem yF3 {x:Str}{st:Stmt}{f:Addr}{fd:FuncData}{N ps:List Str}{k:Nat}(F:Fun K x x st f fd) (S:zI N ps (zW st)) (hp:ps.length=2) (hN:N.length=4)
  (hbody:∀(cdv:Value) (A:Around) (outer:List Env) (s:Shared) (H:Hp) (E:XK),Room k (A.deeper (envOfC x (zW st) s.heap.objs.size f cdv))->PSs (cxOf CX0 P w K mg base N x (zW st) f cdv A outer s H E).nox (defBody st) (tOrd K)) :
  FnOk P w K mg base CX0 (k+1) f fd ps spOrd:=by
 refine F.ok S (fun vs H Q E ⟨a,p,n,e,_⟩=>by rw[e,hp];rfl) fun cdv A outer s H vs Q E hr h => ?_
 obtain⟨a,p,n,rfl,ha,hn,q⟩:=h
 refine⟨_,hbody cdv A outer s H E hr,?_⟩
 have st:start N [V.ref a,V.int (n:Int)]=[some (.ref a),some (.int (n:Int)),none,none]:=by
  unfold start
  rw[hN]
  rfl
 rw[st]
 exact yR2 ha hn q
end
def grD (A B C p:Int):D :=
 if pwD (1+p%A+1) (p / A) (1+p%A).toNat%8=5 then .tuple [.int B,tI (digD C (pwD (1+p%A+1) (p / A) (1+p%A).toNat / 8) B.toNat)]
 else .tuple [.int (1+p%A),tI (digD (1+p%A+1) (p / A) (1+p%A).toNat)]
def grF (A B C:Int) (Fc:List D->Res D):List D->Res D
 | [d]=>match Fc [d,.int 0] with
  | .ok (.int p)=>.ok (grD A B C p)
  | _=>.no
 | _=>.no
theorem xY1 {A B C:Int}{Fc:List D->Res D}{d:D}{p:Int}(h:Fc [d,.int 0]=.ok (.int p)):grF A B C Fc [d]=.ok (grD A B C p):=by
 unfold grF
 simp only[h]
theorem xY5 {A B C:Int}{Fc:List D->Res D}{ds:List D}{c:Str}:grF A B C Fc ds ≠ .ex c:=by
 unfold grF
 split
 ·split <;> exact fun z=>nomatch z
 ·exact fun z=>nomatch z
def tGrT (K:KFr) (B C:Int):TS :=
 tSeq (tAsg (tCall spOpn [] E0 (zP (tVar 1) (zP (tVar 2) tNil))) (gName 3))
 (tSeq (tIfS (tTest (tOp (rEqD K false) (tCall spTake [] E0 (zP (tVar 1) (zP (tC (.int 8)) tNil))) (tC (.int 5))))
  (tSeq (tAsg (tC (.int B)) (gName 2)) (tAsg (tCB (rTup K) (zP (tComp (iRng1 (zP (tVar 2) tNil)) (fun _ _ _ _=>tTrue) (fun _ _ _ _=>tCall spTake [] E0 (zP (tVar 1) (zP (tC (.int C)) tNil))) [1]) tNil)) (gName 3))) tNext)
 (tRet (tTup (zP (tVar 2) (zP (tVar 3) tNil)))))
def tGr (K:KFr) (A B C:Int) (Fc:List D->Res D):TS :=
 tSeq (tAsg (tLst (zP (tCall (spF false Fc) [] E0 (zP (tVar 0) (zP (tC (.int 0)) tNil))) tNil)) (gName 1))
 (tSeq (tAsg (tOp rAdd (tC (.int 1)) (tCall spTake [] E0 (zP (tVar 1) (zP (tC (.int A)) tNil)))) (gName 2)) (tGrT K B C))
theorem yX5 {O:Addr->Prop}{H0 H:Hp}{x0:V}{a b:Addr}{n:Int}{xs:List Int}{E:Ends}(oh:∀a,O a->H0 a≠none) (fa:H0 a=none) (fb:H0 b=none) (hb:H b=some (.tup (xs.map V.int))) (po:Pot a H0 H)
  (k:∀v H',Same H0 H'->CallOk false O H0 H' v (.tuple [.int n,tI xs])->E.rt v H'):tRet (tTup (zP (tVar 2) (zP (tVar 3) tNil))) E [some x0,some (.ref a),some (.int n),some (.ref b)] H:=by
 have sm:Same H0 H:=fun c o e=>po c o e fun z=>by rw[z,fa] at e;cases e
 refine⟨_,rfl,_,rfl,by show 2<=sizeLine;decide,fun t ht => ?_⟩
 have tb:b≠t:=fun z=>by rw[<-z,hb] at ht;cases ht
 have t0:H0 t=none:=by
  cases e:H0 t with
  | none=>rfl
  | some o=>rw[sm t o e] at ht;cases ht
 refine k _ _ (sm.trans (Same.new ht)) (.tup (.inl zT) (fun z=>oh t z t0) (.cons (.int n) (.cons (.tup (.inl ?_) (fun z=>oh b z fb) (uL xs)) .nil)))
 rw[zX tb]
 exact hb
theorem yM8 {K:KFr}{A B C:Int}{Fc:List D->Res D}{O:Addr->Prop}{H0:Hp}{x0:V}{d0:D}{p:Int}{E:Ends}(hA:0<A) (hA2:A<=60) (hB:0<=B) (hB2:B<=60) (hC:0<C) (hC2:C<=60) (oh:∀a,O a->H0 a≠none) (r0:Rep H0 O x0 d0) (hc:Fc [d0,.int 0]=.ok (.int p))
  (k:∀v H',Same H0 H'->CallOk false O H0 H' v (grD A B C p)->E.rt v H'):tGr K A B C Fc E [some x0,none,none,none] H0:=by
 have e0:=Int.emod_nonneg p (Int.ne_of_gt hA)
 have e1:=Int.emod_lt_of_pos p hA
 obtain⟨n,hn⟩:∃n:Nat,1+p%A=(n:Int):=⟨(1+p%A).toNat,by bv_omega⟩
 have n2:n<=1000:=by bv_omega
 refine⟨_,rfl,[d0,.int 0],O,oh,.cons r0 (.cons (.int 0) .nil),?_⟩
 rw[hc]
 intro v H1 s1 cv
 cases cv
 refine⟨by show 1<=sizeLine;decide,fun a ha => ?_⟩
 have fa:H0 a=none:=s1.free ha
 have po1:Pot a H0 (upd H1 a (.lst [.int p])):=fun b o e n=>by rw[zX n];exact s1 b o e
 suffices h:tGrT K B C E [some x0,some (.ref a),some (.int (n:Int)),none] (upd H1 a (.lst [.int (p / A)])) by
  rw[<-hn] at h
  refine⟨_,rfl,a,p,A,rfl,zT,DivOk.small hA (by bv_omega),_,_,rfl,rfl,?_⟩
  rw[zN9]
  exact h
 have po2:Pot a H0 (upd H1 a (.lst [.int (p / A)])):=fun b o e n=>by rw[zX n];exact s1 b o e
 refine⟨_,rfl,_,rfl,a,p / A,n,rfl,zT,n2,fun b H2 fb hb hp po => ?_⟩
 have fb0:H0 b=none:=by
  cases e:H0 b with
  | none=>rfl
  | some o =>
   have ba:b≠a:=fun z=>by rw[z,fa] at e;cases e
   rw[po2 b o e ba] at fb;cases fb
 have po3:=po2.trans po
 have ba:b≠a:=fun z=>by rw[z,hp] at hb;cases hb
 have ev:∀x:Int,V.bl (if false=true then !PyData.eqv (.int x) (.int 5) else PyData.eqv (.int x) (.int 5))=.bl (decide (x=5)):=fun x=>by rw[if_neg (by decide),fJ]
 refine⟨_,rfl,a,_,8,rfl,hp,DivOk.small (by decide) (by decide),.int _,.int 5,.int _,.int _,rfl,rfl,_,ev _,?_⟩
 have po4:=po3.trans (Pot.upd (o:=.lst [.int (pwD ((n:Int)+1) (p / A) n / 8)]))
 have hb4:(upd H2 a (.lst [.int (pwD ((n:Int)+1) (p / A) n / 8)])) b=some (.tup ((digD ((n:Int)+1) (p / A) n).map V.int)):=by rw[zX ba];exact hb
 by_cases q:pwD ((n:Int)+1) (p / A) n%8=5
 ·have gd:grD A B C p=.tuple [.int B,tI (digD C (pwD ((n:Int)+1) (p / A) n / 8) B.toNat)]:=by
   unfold grD
   rw[hn,Int.toNat_natCast,if_pos q]
  rw[gd] at k
  rw[decide_eq_true q]
  simp only[if_true]
  obtain⟨m,hm⟩:∃m:Nat,B=(m:Int):=⟨B.toNat,by bv_omega⟩
  subst hm
  rw[Int.toNat_natCast] at k
  show tCB (rTup K) (zP (tComp (iRng1 (zP (tVar 2) tNil)) (fun _ _ _ _=>tTrue) (fun _ _ _ _=>tCall spTake [] E0 (zP (tVar 1) (zP (tC (.int C)) tNil))) [1]) tNil) [some x0,some (.ref a),some (.int (m:Int)),some (.ref b)] (upd H2 a (.lst [.int (pwD ((n:Int)+1) (p / A) n / 8)])) fun v H'=>tRet (tTup (zP (tVar 2) (zP (tVar 3) tNil))) E [some x0,some (.ref a),some (.int (m:Int)),some v] H'
  refine zW7 (K:=K) (σ:=[some x0,some (.ref a),some (.int (m:Int)),some (.ref b)]) (js:=[1]) (m:=C) (n:=m) zT (by bv_omega) (fun H' R r=>⟨_,rfl,(m:Int),rfl,by bv_omega,by bv_omega,by rw[Int.toNat_natCast];exact r⟩) (fun C' fp s₂ H₂ i q H' Q' h' k'=>⟨_,rfl,a,q,C,rfl,h',DivOk.small hC (by bv_omega),k'⟩) fun b' H3 fb' hb' hp' po' => ?_
  have fb0':H0 b'=none:=by
   cases e:H0 b' with
   | none=>rfl
   | some o =>
    have ba':b'≠a:=fun z=>by rw[z,fa] at e;cases e
    rw[po4 b' o e ba'] at fb';cases fb'
  exact yX5 oh fa fb0' hb' (po4.trans po') k
 ·have gd:grD A B C p=.tuple [.int (n:Int),tI (digD ((n:Int)+1) (p / A) n)]:=by
   unfold grD
   rw[hn,Int.toNat_natCast,if_neg q]
  rw[gd] at k
  rw[decide_eq_false q]
  simp only[Bool.false_eq_true,if_false]
  exact yX5 oh fa fb0 hb4 po4 k
theorem yX1 {A B C:Int}{Fc:List D->Res D}{ds:List D}{Q:D->Prop}{R:Str->Prop}(h:(grF A B C Fc ds).post Q R):∃d p,ds=[d]/\Fc [d,.int 0]=.ok (.int p)/\Q (grD A B C p):=by
 unfold grF at h
 split at h
 ·split at h
  ·rename_i d _ p e
   exact⟨d,p,rfl,e,h⟩
  ·exact h.elim
 ·exact h.elim
section
variable {P:Program}{w:World}{K:KFr}{mg:Str->Option Value}{base:Heap}
theorem xP5 (A B C:Int) (Fc:List D->Res D) (hA:0<A/\A<=60) (hB:0<=B/\B<=60) (hC:0<C/\C<=60){x:Str}{st:Stmt}{f:Addr}{fd:FuncData}{N ps:List Str}{k:Nat}(F:Fun K x x st f fd) (S:zI N ps (zW st)) (hp:ps.length=1) (hN:N.length=4)
  (hbody:∀(cdv:Value) (A':Around) (outer:List Env) (s:Shared) (H:Hp) (E:XK),Room k (A'.deeper (envOfC x (zW st) s.heap.objs.size f cdv))->PSs (cxOf CX0 P w K mg base N x (zW st) f cdv A' outer s H E).nox (defBody st) (tGr K A B C Fc)) :
  FnOk P w K mg base CX0 (k+1) f fd ps (spF false (grF A B C Fc)):=by
 refine F.ok S (fun vs H Q E ⟨ds,O,oh,r,q⟩ => ?_) fun cdv A' outer s H vs Q E hr h => ?_
 ·obtain⟨d,p,rfl,_⟩:=yX1 q
  rw[r.length,hp]
  rfl
 ·obtain⟨ds,O,oh,r,q⟩:=h
  obtain⟨d,p,rfl,hc,q⟩:=yX1 q
  refine⟨_,hbody cdv A' outer s H E hr,?_⟩
  cases r with
  | @cons v _ _ _ r1 r2 =>
   cases r2
   have st:start N [v]=[some v,none,none,none]:=by
    unfold start
    rw[hN]
    rfl
   rw[st]
   exact yM8 hA.1 hA.2 hB.1 hB.2 hC.1 hC.2 oh r1 hc q
end
def ordF:List D->Res D
 | [.int p,.int n]=>if 0<=n/\n<=1000 then .ok (tI (ordP n.toNat p)) else .no
 | _=>.no
theorem yY8 {C:Ct}{me me2:Ev->Res D}{md:Md}{t1 t2:TE}{E:XK}
  (q1:∀(Oc:Wd) (Ob:Addr->Prop) (σ:St) (H:Hp) (ρ:Ev) (Q:VK),Rel Oc Ob C.om C.ln σ H ρ->(me ρ).post (fun d=>∀v H',Same H H'->VR .cl Oc Ob H H' v d->Q v H') (fun c=>∀H',Same H H'->C.XE c H')->t1 σ H Q)
  (q2:∀(Oc:Wd) (Ob:Addr->Prop) (σ:St) (H:Hp) (ρ:Ev) (Q:VK),Rel Oc Ob C.om C.ln σ H ρ->(me2 ρ).post (fun d=>∀v H',Same H H'->VR md Oc Ob H H' v d->Q v H') (fun c=>∀H',Same H H'->C.XE c H')->t2 σ H Q)
  {Oc:Wd}{Ob:Addr->Prop}{σ:St}{H:Hp}{ρ:Ev}{Q:VK}(R:Rel Oc Ob C.om C.ln σ H ρ) (h:(eF ordF (aC me (aC me2 aN)) ρ).post (fun d=>∀v H',Same H H'->VR .cl Oc Ob H H' v d->Q v H') (fun c=>∀H',Same H H'->C.XE c H')) :
  tCall spOrd [] E (zP (tLst (zP t1 tNil)) (zP t2 tNil)) σ H Q:=by
 refine q1 Oc Ob σ H ρ _ R (Res.zR (Res.zV (Res.zV h)) (fun d _ k x H1 s1 vx => ?_) fun _ z=>z)
 refine⟨by show 1<=sizeLine;decide,fun a ha => ?_⟩
 have s1':Same H (upd H1 a (.lst [x])):=s1.trans (Same.new ha)
 refine q2 Oc Ob σ _ ρ _ (R.same s1') (Res.zR (Res.zV (Res.zV k)) (fun d2 _ k y H2 s2 vy => ?_) fun c z H' s'=>z H' (s1'.trans s'))
 have vy':=vy.va (R.same s1').oh
 have k':(ordF [d,d2]).post (fun d=>∀v H',Same H H'->VR .cl Oc Ob H H' v d->Q v H') (fun c=>∀H',Same H H'->C.XE c H'):=k
 unfold ordF at k'
 split at k'
 ·rename_i p n e
  cases e
  split at k'
  ·rename_i hn
   have ex:=VA.int (.inl vx)
   have ey:=vy'.int
   subst ex ey
   refine⟨a,p,n.toNat,by rw[Int.toNat_of_nonneg hn.1];rfl,s2 _ _ zT,by bv_omega,fun b H' q fb hb hq po => ?_⟩
   have sm:Same H H':=fun c o e=>po c o (s2 c o (s1' c o e)) fun z=>by rw[z] at e;rw[s1 a o e] at ha;cases ha
   refine k' _ H' sm (.tup (.inl hb) (fun z => ?_) (uL _))
   exact R.oh b z ((s1'.trans s2).free fb)
  ·exact k'.elim
 ·exact k'.elim
theorem zP8 (x:Int) (ns:List Int):inV (.int x) (ns.map V.int)=ns.contains x:=by
 unfold inV
 rw[List.any_map,List.contains_eq_any_beq]
 refine congrArg (fun f=>ns.any f) (funext fun y => ?_)
 show eqV (.int y) (.int x)=(x == y)
 unfold eqV
 rw[Bool.eq_iff_iff]
 simp
 exact eq_comm
theorem aB (ns:List Int):(ns.map V.int).all flatV=true:=by
 rw[List.all_map]
 exact List.all_eq_true.mpr fun _ _=>rfl
def clN (n:Nat) (bs:List Int):List Int:=((List.range n).filter fun (i:Nat)=>!bs.contains (i:Int)).map fun (i:Nat)=>(i:Int)
theorem zU9 (i:Nat) (bs:List Int):clN (i+1) bs=clN i bs++(if bs.contains (i:Int) then [] else [(i:Int)]):=by
 unfold clN
 rw[List.range_succ,List.filter_append,List.map_append]
 congr 1
 cases h:bs.contains (i:Int) <;> simp only[List.filter_cons,List.filter_nil,h,Bool.not_true,Bool.not_false,if_true,if_false,Bool.false_eq_true,List.map_cons,List.map_nil]
theorem zL6 (n:Nat) (bs:List Int):(clN n bs).length<=n:=by
 unfold clN
 rw[List.length_map]
 exact Nat.le_trans (List.length_filter_le _ _) (by rw[List.length_range];exact Nat.le_refl n)
theorem yZ3:∀(xs l:List Int),xs.Nodup->(∀x∈xs,x∈l)->xs.length<=l.length
 | [],_,_,_=>Nat.zero_le _
 | x::xs,l,nd,h=>by
  have hx:=h x (List.mem_cons_self ..)
  have:=yZ3 xs (l.erase x) (List.nodup_cons.mp nd).2 fun y hy=>(List.mem_erase_of_ne (fun z:y=x=>(List.nodup_cons.mp nd).1 (by rw[<-z];exact hy))).mpr (h y (List.mem_cons_of_mem _ hy))
  rw[List.length_erase_of_mem hx] at this
  have:=List.length_pos_of_mem hx
  rw[List.length_cons]
  bv_omega
theorem zM1 (n:Nat) (bs:List Int) (h:bs.length<n):0<(clN n bs).length:=by
 rcases Nat.eq_zero_or_pos (clN n bs).length with z | z
 ·exfalso
  have all:∀i,i<n->(i:Int)∈bs:=fun i hi=>by
   have e:=List.length_eq_zero_iff.mp z
   unfold clN at e
   rw[List.map_eq_nil_iff,List.filter_eq_nil_iff] at e
   have:=e i (List.mem_range.mpr hi)
   simpa using this
  have nd:((List.range n).map fun (i:Nat)=>(i:Int)).Nodup:=List.Pairwise.map (fun (i:Nat)=>(i:Int)) (fun a b h e=>h (Int.ofNat.inj e)) List.nodup_range
  have:=yZ3 _ bs nd (fun x hx=>by
   obtain⟨i,hi,rfl⟩:=List.mem_map.mp hx
   exact all i (List.mem_range.mp hi))
  rw[List.length_map,List.length_range] at this
  bv_omega
 ·exact z
def runG (g:Nat->Int->D×Int):Nat->Int->List D×Int
 | 0,p=>([],p)
 | k+1,p=>((runG g k p).1 ++ [(g k (runG g k p).2).1],(g k (runG g k p).2).2)
def trG (n:Nat) (thin:Bool):Nat->List Int->List Int->Int->D×Int
 | 0,_,_,p=>(.none,p)
 | l+1,bs,ns,p =>
  if thin=true/\p%4=3 then (.none,p / 4)
  else (fun (p1:Int)=>(fun (b:Int)=>(fun r:List D×Int=>(PyData.tuple [.int b,.tuple r.1],r.2))
   (runG (fun i q=>if ns.contains (i:Int) then (.none,q) else trG n thin l (bs ++ [b]) (ns ++ [(i:Int)]) q) n (p1 / ((clN n bs).length:Int))))
   ((clN n bs).getD (p1%((clN n bs).length:Int)).toNat 0)) (if thin=true then p / 4 else p)
def nxG (n:Nat) (thin:Bool) (l:Nat) (bs ns:List Int) (b:Int):Nat->Int->D×Int:=fun i q=>if ns.contains (i:Int) then (.none,q) else trG n thin l (bs ++ [b]) (ns ++ [(i:Int)]) q
theorem zL4 {n l:Nat}{thin:Bool}{bs ns:List Int}{p:Int}(h:thin=true/\p%4=3):trG n thin (l+1) bs ns p=(.none,p / 4):=by rw[trG,if_pos h]
theorem zV5 {n l:Nat}{thin:Bool}{bs ns:List Int}{p p1 b:Int}(h:¬(thin=true/\p%4=3)) (e1:(if thin=true then p / 4 else p)=p1) (e2:(clN n bs).getD (p1%((clN n bs).length:Int)).toNat 0=b) :
  trG n thin (l+1) bs ns p=(.tuple [.int b,.tuple (runG (nxG n thin l bs ns b) n (p1 / ((clN n bs).length:Int))).1],(runG (nxG n thin l bs ns b) n (p1 / ((clN n bs).length:Int))).2):=by
 subst e1 e2
 rw[trG,if_neg h]
 rfl
def spTree (k:Nat):Sp:=fun vs H Q _=>∃(O:Addr->Prop) (a ab an:Addr) (p:Int) (n l:Nat) (bs ns:List Int) (thin:Bool),(∀x,O x->H x≠none)/\O a/\H a=some (.lst [.int p])/\vs=[.ref a,.int (n:Int),.int (l:Int),.ref ab,.ref an,.bl thin] /\
 Rd H ab (.lst (bs.map V.int))/\ab≠a/\Rd H an (.lst (ns.map V.int))/\an≠a/\l<k/\n<=100/\bs.length+l<=n/\ns.length+l<=200 /\
 ∀v H',Pot a H H'->H' a=some (.lst [.int (trG n thin l bs ns p).2])->Rep H' O v (trG n thin l bs ns p).1->Q v H'
def rSub:R2:=rI0 fun i j=>.int (i-j)
def tAppV (K:KFr) (i:Nat) (t:TE):TS:=tDrop (tBM K "list" rAppend (tVar i) (zP t tNil))
def tTrF (K:KFr) (sp:Sp):TS:=tFor (iRng1 (zP (tVar 1) tNil)) (gName 9) (tIfS (tTest (tOp (rIn K false) (tVar 9) (tVar 4))) (tAppV K 8 (tC .non))
 (tAppV K 8 (tCall sp [] E0 (zP (tVar 0) (zP (tVar 1) (zP (tOp rSub (tVar 2) (tC (.int 1))) (zP (tOp rCatR (tVar 3) (tLst (zP (tVar 7) tNil))) (zP (tOp rCatR (tVar 4) (tLst (zP (tVar 9) tNil))) (zP (tVar 5) tNil)))))))))
def tTrE (K:KFr):TS:=tRet (tTup (zP (tVar 7) (zP (tCB (rTup K) (zP (tVar 8) tNil)) tNil)))
def tTrS (K:KFr) (sp:Sp):TS :=
 tSeq (tAsg (tOp (rIxL K) (tVar 6) (tCall spTake [] E0 (zP (tVar 0) (zP (tCB (rLnS K) (zP (tVar 6) tNil)) tNil)))) (gName 7))
 (tSeq (tAsg (tLst tNil) (gName 8)) (tSeq (tTrF K sp) (tTrE K)))
def tTrR (K:KFr) (sp:Sp):TS :=
 tSeq (tAsg (tComp (iRng1 (zP (tVar 1) tNil)) (fun _ _ _ _=>tTest (tOp (rIn K true) (tVar 0) (tVar 1))) (fun _ _ _ _=>tVar 0) [3]) (gName 6)) (tTrS K sp)
def tTr (K:KFr) (sp:Sp):TS :=
 tSeq (tIfS (tOr (tTest (tOp (rEqD K false) (tVar 2) (tC (.int 0)))) (tAnd (tB (tVar 5)) (tTest (tOp (rEqD K false) (tCall spTake [] E0 (zP (tVar 0) (zP (tC (.int 4)) tNil))) (tC (.int 3)))))) (tRet (tC .non)) tNext) (tTrR K sp)
theorem evI (x y:Int):V.bl (if false=true then !PyData.eqv (.int x) (.int y) else PyData.eqv (.int x) (.int y))=.bl (decide (x=y)):=by rw[if_neg (by decide),fJ]
theorem zS3 {a b:Addr}{u:HO}{H H':Hp}(r:Rd H b u) (po:Pot a H H') (n:b≠a):Rd H' b u:=yS r fun o e=>po b o e n
theorem Pot.none {a b:Addr}{H H':Hp}(po:Pot a H H') (n:b≠a) (h:H' b=none):H b=none:=by
 cases e:H b with
 | none=>rfl
 | some o=>rw[po b o e n] at h;cases h
theorem yU4 {K:KFr}{O:Addr->Prop}{H0 H:Hp}{a la:Addr}{v1 v2 v3 v4 v5 v6 v9:Option V}{b q:Int}{vs:List V}{ds:List D}{E:Ends}(oh:∀x,O x->H0 x≠none) (po:Pot a H0 H) (ha:H a=some (.lst [.int q])) (fl:H0 la=none) (al:la≠a) (hl:H la=some (.lst vs)) (rs:Reps H (fun x=>O x\/x=la) vs ds)
  (k:∀v H',Pot a H0 H'->H' a=some (.lst [.int q])->Rep H' O v (.tuple [.int b,.tuple ds])->E.rt v H'):tTrE K E [some (.ref a),v1,v2,v3,v4,v5,v6,some (.int b),some (.ref la),v9] H:=by
 refine⟨_,rfl,_,rfl,la,_,rfl,.inl ⟨SqL.of hl,fun t ht=>⟨by show 2<=sizeLine;decide,fun r hr => ?_⟩⟩⟩
 have ta:t≠a:=fun z=>by rw[z,ha] at ht;cases ht
 have tr:t≠r:=fun z=>by rw[<-z,zT] at hr;cases hr
 have hr1:H r=none:=by rw[zX (fun z=>tr z.symm)] at hr;exact hr
 have ra:r≠a:=fun z=>by rw[z,ha] at hr1;cases hr1
 have po1:=(po.new (o:=.tup vs) ht).new (o:=.tup [.int b,.ref t]) hr
 refine k _ _ po1 ?_ (.tup (.inl zT) (fun z=>oh r z (po.none ra hr1)) (.cons (.int b) (.cons (.tup (xs:=vs) (.inl ?_) (fun z=>oh t z (po.none ta ht)) ?_) .nil)))
 ·rw[zX (fun z=>ra z.symm),zX (fun z=>ta z.symm)]
  exact ha
 ·rw[zX tr]
  exact zT
 ·refine rs.keep (fun x o e _ => ?_) fun x _ z=>.inl z
  have xt:x≠t:=fun z=>by rw[z,ht] at e;cases e
  have xr:x≠r:=fun z=>by rw[z,hr1] at e;cases e
  rw[zX xr,zX xt]
  exact e
theorem yQ6 {K:KFr}{k n l:Nat}{thin:Bool}{bs ns:List Int}{b p2:Int}{O:Addr->Prop}{H0:Hp}{a ab an ac la:Addr}{E:Ends}(oh:∀x,O x->H0 x≠none) (oa:O a) (rb:Rd H0 ab (.lst (bs.map V.int))) (nb:ab≠a) (rn:Rd H0 an (.lst (ns.map V.int))) (nn:an≠a) (fl:H0 la=none) (al:la≠a) (hk:l<k) (hn:n<=100) (hb:(bs ++ [b]).length+l<=n) (hs:ns.length+(l+1)<=200)
  (kk:∀v9 vs H,Pot a H0 H->H a=some (.lst [.int (runG (nxG n thin l bs ns b) n p2).2])->H la=some (.lst vs)->Reps H (fun x=>O x\/x=la) vs (runG (nxG n thin l bs ns b) n p2).1 ->
   E.nx [some (.ref a),some (.int (n:Int)),some (.int ((l+1:Nat):Int)),some (.ref ab),some (.ref an),some (.bl thin),some (.ref ac),some (.int b),some (.ref la),v9] H)
  {H:Hp}(po:Pot a H0 H) (ha:H a=some (.lst [.int p2])) (hl:H la=some (.lst [])) :
  tTrF K (spTree k) E [some (.ref a),some (.int (n:Int)),some (.int ((l+1:Nat):Int)),some (.ref ab),some (.ref an),some (.bl thin),some (.ref ac),some (.int b),some (.ref la),none] H:=by
 refine⟨_,rfl,(n:Int),rfl,by bv_omega,by bv_omega,?_⟩
 rw[Int.toNat_natCast]
 have keepL:∀{H':Hp}{o:HO},Pot a H0 H'->Pot a H0 (upd H' la o):=fun {H' o} h c u e n=>by
  rw[zX (fun z=>by rw[z,fl] at e;cases e)]
  exact h c u e n
 refine aF (fun i σ H=>∃v9 vs,σ=[some (.ref a),some (.int (n:Int)),some (.int ((l+1:Nat):Int)),some (.ref ab),some (.ref an),some (.bl thin),some (.ref ac),some (.int b),some (.ref la),v9]/\Pot a H0 H/\H a=some (.lst [.int (runG (nxG n thin l bs ns b) i p2).2])/\H la=some (.lst vs)/\vs.length=i/\Reps H (fun x=>O x\/x=la) vs (runG (nxG n thin l bs ns b) i p2).1) ⟨none,[],rfl,po,ha,hl,rfl,.nil⟩ ?_ ?_
 ·clear po ha hl H
  rintro i σ H hi ⟨v9,vs,rfl,po,ha,hl,lv,rs⟩
  rw[Int.zero_add]
  have rn':=zS3 rn po nn
  have rb':=zS3 rb po nb
  have fin:∀{H':Hp}{v:V}{d:D}{q:Int},Pot a H0 H'->H' a=some (.lst [.int q])->H' la=some (.lst vs)->Reps H' (fun x=>O x\/x=la) vs (runG (nxG n thin l bs ns b) i p2).1->Rep H' (fun x=>O x\/x=la) v d->nxG n thin l bs ns b i (runG (nxG n thin l bs ns b) i p2).2=(d,q) ->
    ∃v9 vs',[some (V.ref a),some (.int (n:Int)),some (.int ((l+1:Nat):Int)),some (.ref ab),some (.ref an),some (.bl thin),some (.ref ac),some (.int b),some (.ref la),some (.int (i:Int))]=[some (.ref a),some (.int (n:Int)),some (.int ((l+1:Nat):Int)),some (.ref ab),some (.ref an),some (.bl thin),some (.ref ac),some (.int b),some (.ref la),v9]/\Pot a H0 (upd H' la (.lst (vs ++ [v])))/\(upd H' la (.lst (vs ++ [v]))) a=some (.lst [.int (runG (nxG n thin l bs ns b) (i+1) p2).2])/\(upd H' la (.lst (vs ++ [v]))) la=some (.lst vs')/\vs'.length=i+1/\Reps (upd H' la (.lst (vs ++ [v]))) (fun x=>O x\/x=la) vs' (runG (nxG n thin l bs ns b) (i+1) p2).1:=by
   intro H' v d q po' ha' hl' rs' rv e
   have kp:∀c o,H' c=some o->¬(O c\/c=la)->(upd H' la (.lst (vs ++ [v]))) c=some o:=fun c o e n=>by rw[zX (fun z=>n (.inr z))];exact e
   refine⟨_,vs ++ [v],rfl,keepL po',?_,zT,by rw[List.length_append,lv];rfl,?_⟩
   ·rw[zX (fun z=>al z.symm),ha',runG,e]
   ·rw[runG,e]
    exact (rs'.keep kp fun _ _ z=>z).append (.one (rv.keep kp fun _ _ z=>z))
  refine⟨_,rfl,_,rfl,an,_,rfl,.inl (.inl rn'),rfl,aB ns,_,rfl,?_⟩
  rw[zP8]
  simp only[Bool.false_eq_true,if_false]
  by_cases c:ns.contains (i:Int)=true
  ·rw[c]
   simp only[if_true]
   refine⟨_,rfl,.inl ⟨rfl,_,SqL.of hl⟩,la,vs,.non,rfl,rfl,hl,by rw[lv];exact small1000 (by bv_omega),?_⟩
   exact fin po ha hl rs .non (by unfold nxG;rw[if_pos c])
  ·rw[Bool.not_eq_true] at c
   rw[c]
   simp only[Bool.false_eq_true,if_false]
   refine⟨_,rfl,.inl ⟨rfl,_,SqL.of hl⟩,_,rfl,_,rfl,_,rfl,_,_,rfl,rfl,_,rfl,_,rfl,by show 1<=sizeLine;decide,fun t1 h1 => ?_⟩
   have S1:=Same.new (H:=H) (o:=.lst [.int b]) h1
   refine⟨ab,t1,bs.map V.int,[.int b],rfl,rfl,yS rb' fun o e=>S1 _ o e,.inl zT,by rw[List.length_map];exact Nat.le_of_lt (small1000 (by simp at hb ⊢;bv_omega)),fun q1 h1' => ?_⟩
   have S2:=Same.new (o:=.lst (bs.map V.int ++ [.int b])) h1'
   refine⟨_,rfl,_,rfl,by show 1<=sizeLine;decide,fun t2 h2 => ?_⟩
   have S3:=Same.new (o:=.lst [.int (i:Int)]) h2
   have S123:=(S1.trans S2).trans S3
   refine⟨an,t2,ns.map V.int,[.int (i:Int)],rfl,rfl,yS rn' fun o e=>S123 _ o e,.inl zT,by rw[List.length_map];exact Nat.le_of_lt (small1000 (by simp;bv_omega)),fun q2 h2'=>⟨_,rfl,?_⟩⟩
   have S4:=Same.new (o:=.lst (ns.map V.int ++ [.int (i:Int)])) h2'
   have S:=S123.trans S4
   have qa:q1≠a:=fun z=>by rw[z,S1 _ _ ha] at h1';cases h1'
   have qa2:q2≠a:=fun z=>by rw[z,S123 _ _ ha] at h2';cases h2'
   refine⟨fun x=>O x\/x=la,a,q1,q2,_,n,l,bs ++ [b],ns ++ [(i:Int)],thin,?_,.inl oa,S _ _ ha,?_,.inl ?_,qa,.inl ?_,qa2,hk,hn,hb,by simp;bv_omega,fun v H' po' ha' rv => ?_⟩
   ·intro x hx
    rcases hx with hx | hx
    ·by_cases z:x=a
     ·rw[z,S _ _ ha];exact fun z=>nomatch z
     ·cases e:H0 x with
      | none=>exact absurd e (oh x hx)
      | some o=>rw[S _ _ (po x o e z)];exact fun z=>nomatch z
    ·rw[hx,S _ _ hl];exact fun z=>nomatch z
   ·show [V.ref a,V.int (n:Int),V.int (((l+1:Nat):Int)-1),V.ref q1,V.ref q2,V.bl thin]=_
    rw[show ((l+1:Nat):Int)-1=(l:Int) by bv_omega]
   ·rw[(S3.trans S4) _ _ (zT (H:=upd H t1 (.lst [.int b])) (a:=q1) (o:=.lst (bs.map V.int ++ [.int b]))),List.map_append];rfl
   ·rw[zT,List.map_append];rfl
   ·have pH:Pot a H H':=fun c o e n=>po' c o (S c o e) n
    have kp:∀c o,H c=some o->¬(O c\/c=la)->H' c=some o:=fun c o e n=>pH c o e fun z=>n (.inl (by rw[z];exact oa))
    have hl':=pH la _ hl al
    refine⟨la,vs,v,rfl,rfl,hl',by rw[lv];exact small1000 (by bv_omega),?_⟩
    exact fin (po.trans pH) ha' hl' (rs.keep kp fun _ _ z=>z) rv (by unfold nxG;rw[c,if_neg Bool.false_ne_true])
 ·rintro σ H ⟨v9,vs,rfl,po,ha,hl,_,rs⟩
  exact kk v9 vs H po ha hl rs
theorem zV4 {K:KFr}{k n l:Nat}{thin:Bool}{bs ns:List Int}{b p1:Int}{O:Addr->Prop}{H0:Hp}{a ab an:Addr}{E:Ends}(oh:∀x,O x->H0 x≠none) (oa:O a) (rb:Rd H0 ab (.lst (bs.map V.int))) (nb:ab≠a) (rn:Rd H0 an (.lst (ns.map V.int))) (nn:an≠a) (hk:l<k) (hn:n<=100) (hb:bs.length+(l+1)<=n) (hs:ns.length+(l+1)<=200)
  (eb:(clN n bs).getD (p1%((clN n bs).length:Int)).toNat 0=b)
  (kk:∀v H',Pot a H0 H'->H' a=some (.lst [.int (runG (nxG n thin l bs ns b) n (p1 / ((clN n bs).length:Int))).2])->Rep H' O v (.tuple [.int b,.tuple (runG (nxG n thin l bs ns b) n (p1 / ((clN n bs).length:Int))).1])->E.rt v H')
  {H:Hp}(po:Pot a H0 H) (ha:H a=some (.lst [.int p1])) :
  tTrR K (spTree k) E [some (.ref a),some (.int (n:Int)),some (.int ((l+1:Nat):Int)),some (.ref ab),some (.ref an),some (.bl thin),none,none,none,none] H:=by
 have rb':=zS3 rb po nb
 have lm:((clN n bs).map V.int).length=(clN n bs).length:=List.length_map ..
 have cp:=zM1 n bs (by bv_omega)
 have cl:=zL6 n bs
 refine⟨_,rfl,(n:Int),rfl,by bv_omega,by bv_omega,?_⟩
 rw[Int.toNat_natCast]
 intro C fp s₂ H₂
 refine cA (lo:=0) (n:=n) (tt:=tTest (tOp (rIn K true) (tVar 0) (tVar 1))) (te:=tVar 0) (js:=[3]) (σ:=[some (.ref a),some (.int (n:Int)),some (.int ((l+1:Nat):Int)),some (.ref ab),some (.ref an),some (.bl thin),none,none,none,none]) (Q:=fun v H'=>tTrS K (spTree k) E [some (.ref a),some (.int (n:Int)),some (.int ((l+1:Nat):Int)),some (.ref ab),some (.ref an),some (.bl thin),some v,none,none,none] H') (fun i acc H'=>acc=(clN i bs).map V.int/\H'=H) ⟨rfl,rfl⟩ ?_ ?_
 ·rintro i acc H' hi ⟨rfl,rfl⟩
  refine⟨_,rfl,_,rfl,ab,_,rfl,.inl (.inl rb'),rfl,aB bs,_,rfl,?_⟩
  rw[zP8,Int.zero_add]
  simp only[if_true]
  cases c:bs.contains (i:Int) with
  | false =>
   simp only[Bool.not_false,if_true]
   refine⟨_,rfl,by rw[List.length_map];exact small1000 (by have:=zL6 i bs;bv_omega),?_,rfl⟩
   rw[zU9,c,if_neg Bool.false_ne_true,List.map_append]
   rfl
  | true =>
   simp only[Bool.not_true,Bool.false_eq_true,if_false]
   refine⟨?_,trivial⟩
   rw[zU9,c,if_pos rfl,List.append_nil]
 ·rintro acc H' ⟨rfl,rfl⟩ ac hac
  have aca:ac≠a:=fun z=>by rw[z,ha] at hac;cases hac
  have h0:=Int.emod_nonneg p1 (show ((clN n bs).length:Int)≠0 by bv_omega)
  have h1:=Int.emod_lt_of_pos p1 (show (0:Int)<((clN n bs).length:Int) by bv_omega)
  refine⟨_,rfl,_,rfl,_,rfl,ac,_,rfl,.inl (SqL.of zT),a,p1,_,rfl,by rw[zX (fun z=>aca z.symm)];exact ha,?_⟩
  rw[lm]
  have at1:atI ((clN n bs).map V.int) (p1%((clN n bs).length:Int))=some (.int b):=by
   obtain⟨j,hj⟩:∃j:Nat,p1%((clN n bs).length:Int)=(j:Int):=⟨(p1%((clN n bs).length:Int)).toNat,by bv_omega⟩
   rw[hj,Int.toNat_natCast] at eb
   rw[hj,uS,vY (by bv_omega),eb]
   rfl
  refine⟨DivOk.small (by bv_omega) (by bv_omega),ac,_,_,.int b,rfl,rfl,SqL.of (by rw[zX aca,zT]),at1,Nat.zero_le _,fun la hla => ?_⟩
  have la1:la≠a:=fun z=>by rw[z,zT] at hla;cases hla
  have lac:la≠ac:=fun z=>by rw[z,zX aca,zT] at hla;cases hla
  have hla0:H' la=none:=by rw[zX la1,zX lac] at hla;exact hla
  refine yQ6 (E:={ E with nx:=tTrE K E }) oh oa rb nb rn nn (po.none la1 hla0) la1 hk hn (by simp;bv_omega) hs (fun v9 vs H2 po2 ha2 hl2 rs2=>yU4 oh po2 ha2 (po.none la1 hla0) la1 hl2 rs2 kk) ?_ ?_ zT
  ·exact ((po.new hac).trans Pot.upd).new hla
  ·rw[zX (fun z=>la1 z.symm),zT]
theorem yY9 {K:KFr}{k n l:Nat}{thin:Bool}{bs ns:List Int}{p:Int}{O:Addr->Prop}{H:Hp}{a ab an:Addr}{E:Ends}(oh:∀x,O x->H x≠none) (oa:O a) (ha:H a=some (.lst [.int p])) (rb:Rd H ab (.lst (bs.map V.int))) (nb:ab≠a) (rn:Rd H an (.lst (ns.map V.int))) (nn:an≠a) (hk:l<k+1) (hn:n<=100) (hb:bs.length+l<=n) (hs:ns.length+l<=200)
  (kk:∀v H',Pot a H H'->H' a=some (.lst [.int (trG n thin l bs ns p).2])->Rep H' O v (trG n thin l bs ns p).1->E.rt v H') :
  tTr K (spTree k) E [some (.ref a),some (.int (n:Int)),some (.int (l:Int)),some (.ref ab),some (.ref an),some (.bl thin),none,none,none,none] H:=by
 refine⟨_,rfl,.int _,.int 0,.int _,.int _,rfl,rfl,_,evI _ _,?_⟩
 cases l with
 | zero =>
  rw[decide_eq_true (show ((0:Nat):Int)=0 from rfl)]
  simp only[if_true]
  exact kk _ _ (Pot.refl a H) ha .non
 | succ l =>
  rw[decide_eq_false (show ¬((l+1:Nat):Int)=0 by bv_omega)]
  simp only[Bool.false_eq_true,if_false]
  refine⟨_,rfl,thin,rfl,?_⟩
  cases thin with
  | false =>
   simp only[Bool.false_eq_true,if_false]
   have e:=zV5 (n:=n) (l:=l) (thin:=false) (bs:=bs) (ns:=ns) (p:=p) (fun z=>Bool.false_ne_true z.1) rfl rfl
   rw[e] at kk
   exact zV4 oh oa rb nb rn nn (by bv_omega) hn hb hs rfl kk (Pot.refl a H) ha
  | true =>
   simp only[if_true]
   refine⟨_,rfl,a,p,4,rfl,ha,DivOk.small (by decide) (by decide),.int _,.int 3,.int _,.int _,rfl,rfl,_,evI _ _,?_⟩
   by_cases q:p%4=3
   ·rw[decide_eq_true q]
    simp only[if_true]
    rw[zL4 ⟨rfl,q⟩] at kk
    exact kk _ _ Pot.upd zT .non
   ·rw[decide_eq_false q]
    simp only[Bool.false_eq_true,if_false]
    have e:=zV5 (n:=n) (l:=l) (thin:=true) (bs:=bs) (ns:=ns) (p:=p) (fun z=>q z.2) rfl rfl
    rw[e] at kk
    exact zV4 oh oa rb nb rn nn (by bv_omega) hn hb hs rfl kk Pot.upd zT
section
variable {P:Program}{w:World}{K:KFr}{mg:Str->Option Value}{base:Heap}
theorem yG9 {x:Str}{st:Stmt}{f:Addr}{fd:FuncData}{N ps:List Str}{j k:Nat}(F:Fun K x x st f fd) (S:zI N ps (zW st)) (hp:ps.length=6) (hN:N.length=10)
  (hbody:∀(cdv:Value) (A:Around) (outer:List Env) (s:Shared) (H:Hp) (E:XK),Room j (A.deeper (envOfC x (zW st) s.heap.objs.size f cdv))->PSs (cxOf CX0 P w K mg base N x (zW st) f cdv A outer s H E).nox (defBody st) (tTr K (spTree k))) :
  FnOk P w K mg base CX0 (j+1) f fd ps (spTree (k+1)):=by
 refine F.ok S (fun vs H Q E ⟨O,a,ab,an,p,n,l,bs,ns,thin,_,_,_,e,_⟩=>by rw[e,hp];rfl) fun cdv A outer s H vs Q E hr h => ?_
 obtain⟨O,a,ab,an,p,n,l,bs,ns,thin,oh,oa,ha,rfl,rb,nb,rn,nn,hk,hn,hb,hs,kk⟩:=h
 refine⟨_,hbody cdv A outer s H E hr,?_⟩
 have st:start N [V.ref a,.int (n:Int),.int (l:Int),.ref ab,.ref an,.bl thin]=[some (.ref a),some (.int (n:Int)),some (.int (l:Int)),some (.ref ab),some (.ref an),some (.bl thin),none,none,none,none]:=by
  unfold start
  rw[hN]
  rfl
 rw[st]
 exact yY9 oh oa ha rb nb rn nn hk hn hb hs kk
end
def tr1 (n:Nat) (ops ms:List Int) (i:Nat):D:=(trG n (decide (ms.getD i 0%3=2)) (ops.getD i 0).toNat [] [(i:Int)] (ms.getD i 0 / 3)).1
def plD (n:Nat) (ops ms:List Int):D:=.tuple ((List.range n).map fun (i:Nat)=>tr1 n ops ms i)
def plOk (n:Int) (ops ms:List Int):Prop:=0<=n/\n<=7/\ops.length=n.toNat/\ms.length=n.toNat/\∀o∈ops,0<=o/\o<=n
open Classical in
def plF (Fs:List D->Res D):List D->Res D
 | [d,.int n,.tuple es]=>match intsOf es,Fs [d,.int 3,.int n] with
  | some ops,.ok (.list cs)=>match intsOf cs with
   | some ms=>if plOk n ops ms then .ok (plD n.toNat ops ms) else .no
   | _=>.no
  | _,_=>.no
 | _=>.no
theorem xX1 {Fs:List D->Res D}{ds:List D}{c:Str}:plF Fs ds ≠ .ex c:=by
 unfold plF
 split
 ·split
  ·split
   ·split <;> exact fun z=>nomatch z
   ·exact fun z=>nomatch z
  ·exact fun z=>nomatch z
 ·exact fun z=>nomatch z
theorem zF1 {Fs:List D->Res D}{ds:List D}{Q:D->Prop}{R:Str->Prop}(h:(plF Fs ds).post Q R):∃(d:D) (n:Nat) (ops ms:List Int),ds=[d,.int (n:Int),tI ops]/\Fs [d,.int 3,.int (n:Int)]=.ok (lI ms)/\n<=7/\ops.length=n/\ms.length=n/\(∀o∈ops,0<=o/\o<=(n:Int))/\Q (plD n ops ms):=by
 unfold plF at h
 split at h
 ·split at h
  ·rename_i d n es _ _ ops cs e1 e
   split at h
   ·rename_i ms e2
    obtain rfl:=xL e1
    obtain rfl:=xL e2
    split at h
    ·rename_i c
     obtain⟨c1,c2,c3,c4,c5⟩:=c
     obtain⟨m,rfl⟩:∃m:Nat,n=(m:Int):=⟨n.toNat,by bv_omega⟩
     rw[Int.toNat_natCast] at c3 c4 h
     exact⟨d,m,ops,ms,rfl,e,by bv_omega,c3,c4,c5,h⟩
    ·exact h.elim
   ·exact h.elim
  ·exact h.elim
 ·exact h.elim
theorem xX4 {Fs:List D->Res D}{d:D}{n:Nat}{ops ms:List Int}(e:Fs [d,.int 3,.int (n:Int)]=.ok (lI ms)) (hn:n<=7) (h1:ops.length=n) (h2:ms.length=n) (h3:∀o∈ops,0<=o/\o<=(n:Int)):plF Fs [d,.int (n:Int),tI ops]=.ok (plD n ops ms):=by
 unfold plF tI
 simp only[intsOf_map,e,lI]
 rw[if_pos ⟨by bv_omega,by bv_omega,by rw[Int.toNat_natCast];exact h1,by rw[Int.toNat_natCast];exact h2,h3⟩,Int.toNat_natCast]
def tPlB (K:KFr) (k:Nat):TS:=tSeq (tAsg (tLst (zP (tOp (rIxL K) (tVar 4) (tVar 5)) tNil)) (gName 6)) (tSeq (tAsg (tOp (rEqD K false) (tCall spTake [] E0 (zP (tVar 6) (zP (tC (.int 3)) tNil))) (tC (.int 2))) (gName 7))
 (tAppV K 3 (tCall (spTree k) [] E0 (zP (tVar 6) (zP (tVar 1) (zP (tOp (rIxT K) (tVar 2) (tVar 5)) (zP (tLst tNil) (zP (tLst (zP (tVar 5) tNil)) (zP (tVar 7) tNil)))))))))
def tPl (K:KFr) (k:Nat) (Fs:List D->Res D):TS:=tSeq (tAsg (tLst tNil) (gName 3)) (tSeq (tAsg (tCall (spF true Fs) [] E0 (zP (tVar 0) (zP (tC (.int 3)) (zP (tVar 1) tNil)))) (gName 4))
 (tSeq (tFor (iRng1 (zP (tVar 1) tNil)) (gName 5) (tPlB K k)) (tRet (tCB (rTup K) (zP (tVar 3) tNil)))))
theorem yF6 {K:KFr}{k:Nat}{Fs:List D->Res D}{O:Addr->Prop}{H0:Hp}{x0:V}{d0:D}{ao:Addr}{n:Nat}{ops ms:List Int}{E:Ends}(oh:∀a,O a->H0 a≠none) (r0:Rep H0 O x0 d0) (ro:Rd H0 ao (.tup (ops.map V.int))) (hs:Fs [d0,.int 3,.int (n:Int)]=.ok (lI ms)) (hn:n<=7) (hk:8<=k) (lo:ops.length=n) (lm:ms.length=n) (ho:∀o∈ops,0<=o/\o<=(n:Int))
  (kk:∀v H',Same H0 H'->CallOk false O H0 H' v (plD n ops ms)->E.rt v H'):tPl K k Fs E [some x0,some (.int (n:Int)),some (.ref ao),none,none,none,none,none] H0:=by
 refine⟨Nat.zero_le _,fun lt hlt => ?_⟩
 have S1:=Same.new (o:=.lst []) hlt
 refine⟨_,rfl,_,rfl,[d0,.int 3,.int (n:Int)],fun x=>O x\/x=lt,fun x hx => ?_,.cons (r0.keep (fun b o e _=>S1 b o e) fun b hb z => ?_) (.cons (.int 3) (.cons (.int (n:Int)) .nil)),?_⟩
 ·rcases hx with hx | hx
  ·exact Same.ne S1 (oh x hx)
  ·rw[hx,zT];exact fun z=>nomatch z
 ·rcases z with z | z
  ·exact z
  ·exact absurd hlt (by rw[z] at hb;exact hb)
 rw[hs]
 rintro v H1 s1 ⟨lc,ys,ds,rfl,e,hlc,hlc1,rc⟩
 cases e
 obtain rfl:=rc.ints
 have S01:Same H0 H1:=S1.trans s1
 have hlt1:H1 lt=some (.lst []):=s1 _ _ zT
 have ltc:lt≠lc:=fun z=>by rw[<-z,zT] at hlc;cases hlc
 have flc:H0 lc=none:=by rw[zX (fun z=>ltc z.symm)] at hlc;exact hlc
 refine⟨_,rfl,(n:Int),rfl,by bv_omega,by bv_omega,?_⟩
 rw[Int.toNat_natCast]
 refine aF (fun i σ H=>∃v5 v6 v7 vs,σ=[some x0,some (.int (n:Int)),some (.ref ao),some (.ref lt),some (.ref lc),v5,v6,v7]/\Same H0 H/\H lc=some (.lst (ms.map V.int))/\H lt=some (.lst vs)/\vs.length=i/\Reps H (fun x=>O x\/x=lt) vs ((List.range i).map fun (i:Nat)=>tr1 n ops ms i)) ⟨none,none,none,[],rfl,S01,hlc1,hlt1,rfl,.nil⟩ ?_ ?_
 ·rintro i σ H hi ⟨v5,v6,v7,vs,rfl,S,hc,hl,lv,rs⟩
  rw[Int.zero_add]
  have at1:atI (ms.map V.int) (i:Int)=some (.int (ms.getD i 0)):=by rw[uS,vY (by bv_omega)];rfl
  have at2:atI (ops.map V.int) (i:Int)=some (.int (ops.getD i 0)):=by rw[uS,vY (by bv_omega)];rfl
  have bo:=ho (ops.getD i 0) (by rw[List.getD,List.getElem?_eq_getElem (by bv_omega),Option.getD_some];exact List.getElem_mem _)
  refine⟨_,rfl,_,rfl,lc,_,_,_,rfl,rfl,SqL.of hc,at1,by show 1<=sizeLine;decide,fun a ha => ?_⟩
  have la:lt≠a:=fun z=>by rw[<-z,hl] at ha;cases ha
  have fa:H0 a=none:=S.free ha
  refine⟨_,rfl,a,_,3,rfl,zT,DivOk.small (by decide) (by decide),.int _,.int 2,.int _,.int _,rfl,rfl,?_⟩
  rw[evI,zN9]
  have Sa:=Same.new (o:=.lst [.int (ms.getD i 0 / 3)]) ha
  have hl1:(upd H a (.lst [.int (ms.getD i 0 / 3)])) lt=some (.lst vs):=Sa _ _ hl
  refine⟨_,rfl,.inl ⟨rfl,_,SqL.of hl1⟩,_,rfl,_,rfl,_,rfl,_,rfl,ao,_,_,_,rfl,rfl,.inl (yS ro fun o e=>Sa _ o (S _ o e)),at2,Nat.zero_le _,fun t1 h1 => ?_⟩
  have St1:=Same.new (o:=.lst []) h1
  refine⟨_,rfl,by show 1<=sizeLine;decide,fun t2 h2=>⟨_,rfl,?_⟩⟩
  have St2:=Same.new (o:=.lst [.int (i:Int)]) h2
  have Sn:=St1.trans St2
  have SH:=Sa.trans Sn
  have ta1:t1≠a:=fun z=>by rw[z,zT] at h1;cases h1
  have ta2:t2≠a:=fun z=>by rw[z,zX (fun z=>ta1 z.symm),zT] at h2;cases h2
  refine⟨fun x=>O x\/x=lt\/x=a,a,t1,t2,ms.getD i 0 / 3,n,(ops.getD i 0).toNat,[],[(i:Int)],decide (ms.getD i 0%3=2),fun x hx => ?_,.inr (.inr rfl),Sn _ _ zT,by rw[Int.toNat_of_nonneg bo.1];rfl,.inl (St2 _ _ zT),ta1,.inl zT,ta2,by bv_omega,by bv_omega,by show 0+_<=n;bv_omega,by show 1+_<=200;bv_omega,fun v H' po hp rv => ?_⟩
  ·rcases hx with hx | hx | hx
   ·exact Same.ne SH (Same.ne S (oh x hx))
   ·rw[hx,Sn _ _ hl1];exact fun z=>nomatch z
   ·rw[hx,Sn _ _ zT];exact fun z=>nomatch z
  ·have pH:∀c o,H c=some o->H' c=some o:=fun c o e=>po c o (SH c o e) fun z=>by rw[z,ha] at e;cases e
   have hl':=pH _ _ hl
   refine⟨lt,vs,v,rfl,rfl,hl',by rw[lv];exact small1000 (by bv_omega),?_⟩
   have kp:∀c o,H' c=some o->¬(O c\/c=lt)->(upd H' lt (.lst (vs ++ [v]))) c=some o:=fun c o e n=>by rw[zX (fun z=>n (.inr z))];exact e
   refine⟨_,_,_,vs ++ [v],rfl,fun c o e => ?_,?_,zT,by rw[List.length_append,lv];rfl,?_⟩
   ·rw[zX (fun z=>by rw[z,hlt] at e;cases e)]
    exact pH _ _ (S _ _ e)
   ·rw[zX (fun z=>ltc z.symm)]
    exact pH _ _ hc
   ·rw[List.range_succ,List.map_append]
    refine ((rs.keep (fun c o e _=>pH c o e) fun _ _ z=>z).keep kp fun _ _ z=>z).append (.one ?_)
    exact (rv.less fun x hx=>hx.elim .inl fun z=>.inr (.inl z)).keep kp fun _ _ z=>z
 ·rintro σ H ⟨v5,v6,v7,vs,rfl,S,hc,hl,_,rs⟩
  refine⟨_,rfl,lt,_,rfl,.inl ⟨SqL.of hl,fun t ht=>kk _ _ (S.trans (Same.new ht)) (.tup (xs:=vs) (.inl zT) (fun z=>oh t z (S.free ht)) ?_)⟩⟩
  refine rs.keep (fun c o e _ => ?_) fun _ _ z=>.inl z
  rw[zX (fun z=>by rw[z,ht] at e;cases e)]
  exact e
section
variable {P:Program}{w:World}{K:KFr}{mg:Str->Option Value}{base:Heap}
theorem yH9 {f:Addr}{fd:FuncData}{ps:List Str}{k:Nat}:FnOk P w K mg base CX0 k f fd ps (spTree 0):=by
 have no:∀{vs:List V}{H:Hp}{Q:VK}{E:XK},spTree 0 vs H Q E->False:=by
  rintro vs H Q E ⟨O,a,ab,an,p,n,l,bs,ns,thin,_,_,_,_,_,_,_,_,hl,_⟩
  bv_omega
 exact⟨fun vs H Q E h=>(no h).elim,fun A outer s H args us vs Q E hr e b v h=>(no h).elim⟩
theorem yF7 (Fs:List D->Res D){x:Str}{st:Stmt}{f:Addr}{fd:FuncData}{N ps:List Str}{j k:Nat}(hk:8<=k) (F:Fun K x x st f fd) (S:zI N ps (zW st)) (hp:ps.length=3) (hN:N.length=8)
  (hbody:∀(cdv:Value) (A':Around) (outer:List Env) (s:Shared) (H:Hp) (E:XK),Room j (A'.deeper (envOfC x (zW st) s.heap.objs.size f cdv))->PSs (cxOf CX0 P w K mg base N x (zW st) f cdv A' outer s H E).nox (defBody st) (tPl K k Fs)) :
  FnOk P w K mg base CX0 (j+1) f fd ps (spF false (plF Fs)):=by
 refine F.ok S (fun vs H Q E ⟨ds,O,oh,r,q⟩ => ?_) fun cdv A' outer s H vs Q E hr h => ?_
 ·obtain⟨d,n,ops,ms,rfl,_⟩:=zF1 q
  rw[r.length,hp]
  rfl
 ·obtain⟨ds,O,oh,r,q⟩:=h
  obtain⟨d,n,ops,ms,rfl,hc,hn,lo,lm,ho,q⟩:=zF1 q
  refine⟨_,hbody cdv A' outer s H E hr,?_⟩
  cases r with
  | @cons v _ _ _ r1 r2 =>
   cases r2 with
   | cons r2 r3 =>
    cases r2
    cases r3 with
    | cons r3 r4 =>
     cases r4
     cases r3 with
     | @tup a _ _ rd no rs =>
      obtain rfl:=rs.ints
      have st:start N [v,V.int (n:Int),V.ref a]=[some v,some (.int (n:Int)),some (.ref a),none,none,none,none,none]:=by
       unfold start
       rw[hN]
       rfl
      rw[st]
      exact yF6 oh r1 rd hc hn hk lo lm ho q
end
end L2.L3
namespace MR
def rg (n:Nat):List Int:=(List.range n).map fun (i:Nat)=>(i:Int)
theorem zA6 (n:Nat):(rg n).length=n:=by unfold rg;simp
theorem zX7 {n:Nat}{a:Int}:a∈rg n↔0<=a/\a<n:=by
 unfold rg
 simp only[List.mem_map,List.mem_range]
 constructor
 ·rintro ⟨i,hi,rfl⟩;bv_omega
 ·intro h;exact⟨a.toNat,by bv_omega,by bv_omega⟩
theorem yO3 (n:Nat):(rg n).Pairwise (· < ·):=by
 unfold rg
 rw[List.pairwise_map]
 exact List.Pairwise.imp (fun h=>by bv_omega) (List.pairwise_lt_range (n:=n))
theorem zV6 (n:Nat):(rg n).Nodup:=(yO3 n).imp fun h=>by bv_omega
theorem xQ5 (n:Nat):(rg n).Pairwise (· <= ·):=(yO3 n).imp fun h=>by bv_omega
theorem zR2 {a b:List Int}(p:a.Perm b) (ha:a.Pairwise (· <= ·)) (hb:b.Pairwise (· <= ·)):a=b :=
 p.eq_of_pairwise (fun x y _ _ h1 h2=>by bv_omega) ha hb
theorem zK9 {xs:List Int}(h:xs.Nodup){i j:Nat}(hi:i<xs.length) (hj:j<xs.length) (e:xs.getD i 0=xs.getD j 0):i=j:=by
 rw[List.getD_eq_getElem?_getD,List.getElem?_eq_getElem hi,List.getD_eq_getElem?_getD,List.getElem?_eq_getElem hj] at e
 have e:xs[i]=xs[j]:=e
 rcases Nat.lt_trichotomy i j with q | q | q
 ·exact absurd e (List.pairwise_iff_getElem.mp h i j hi hj q)
 ·exact q
 ·exact absurd e.symm (List.pairwise_iff_getElem.mp h j i hj hi q)
theorem getD_mem {xs:List Int}{i:Nat}(h:i<xs.length):xs.getD i 0∈xs:=by
 rw[List.getD,List.getElem?_eq_getElem h]
 exact List.getElem_mem h
theorem uP {n:Nat}{xs:List Int}(p:xs.Perm (rg n)):Ord n xs:=by
 have hl:xs.length=n:=by rw[p.length_eq,zA6]
 have nd:xs.Nodup:=p.nodup_iff.mpr (zV6 n)
 exact⟨hl,fun i hi=>zX7.mp (p.mem_iff.mp (getD_mem (by bv_omega))),fun i j hi hj e=>zK9 nd (by bv_omega) (by bv_omega) e⟩
theorem onto {n:Nat}{f:Nat->Nat}(h:∀i,i<n->f i<n) (hi:∀i j,i<n->j<n->f i=f j->i=j){c:Nat}(hc:c<n):∃i,i<n/\f i=c:=by
 refine Classical.byContradiction fun no => ?_
 obtain⟨i,j,h1,h2,e⟩:=pigeon n (fun i=>if i=n then c else f i) fun i hi'=>by
  show (if i=n then c else f i)<n
  split
  ·exact hc
  ·exact h i (by bv_omega)
 have e:(if i=n then c else f i)=(if j=n then c else f j):=e
 rw[if_neg (show i≠n by bv_omega)] at e
 by_cases q:j=n
 ·rw[if_pos q] at e
  exact no ⟨i,by bv_omega,e⟩
 ·rw[if_neg q] at e
  have:=hi i j (by bv_omega) (by bv_omega) e
  bv_omega
theorem Ord.onto {n:Nat}{xs:List Int}(o:Ord n xs){c:Nat}(hc:c<n):∃b,b<n/\nxt xs b=c :=
 MR.onto (fun i hi=>o.yJ hi) (fun i j hi hj e=>o.qQ hi hj e) hc
def insAt (xs:List Int) (i:Nat) (v:Int):List Int:=xs.take i++v::xs.drop i
theorem cN (xs:List Int) (i:Nat) (v:Int):(insAt xs i v).Perm (v::xs):=by
 unfold insAt
 have:=List.perm_middle (a:=v) (l₁:=xs.take i) (l₂:=xs.drop i)
 rwa [List.take_append_drop] at this
def lawOrd (cell:Int):Nat->List Int×Int
 | 0=>([],cell)
 | k+1=>(insAt (lawOrd cell k).1 ((lawOrd cell k).2%((k:Int)+1)).toNat k,(lawOrd cell k).2 / ((k:Int)+1))
theorem yF8 (n:Nat):rg (n+1)=rg n ++ [(n:Int)]:=by unfold rg;rw[List.range_succ,List.map_append];rfl
theorem jM (cell:Int):∀k,(lawOrd cell k).1.Perm (rg k)
 | 0=>List.Perm.refl _
 | k+1=>by
  rw[yF8]
  refine (cN _ _ _).trans ?_
  refine ((jM cell k).cons _).trans ?_
  exact (List.perm_append_singleton _ _).symm
theorem vI (cell:Int) (n:Nat):Ord n (lawOrd cell n).1:=uP (jM cell n)
def ofN (n:Nat) (f:Nat->Nat):List Int:=(List.range n).map fun (b:Nat)=>((f b:Nat):Int)
theorem kT (n:Nat) (f:Nat->Nat):(ofN n f).length=n:=by unfold ofN;simp
theorem zO7 {n:Nat}{f:Nat->Nat}{b:Nat}(h:b<n):(ofN n f).getD b 0=(f b:Int):=by
 unfold ofN
 simp[List.getD,h]
theorem zN6 {n:Nat}{f:Nat->Nat}{b:Nat}(h:b<n):nxt (ofN n f) b=f b:=by
 unfold nxt
 rw[zO7 h]
 bv_omega
theorem yK1 {n:Nat}{f g:Nat->Nat}(h:∀b,b<n->f b=g b):ofN n f=ofN n g:=by
 unfold ofN
 refine List.map_congr_left fun b hb => ?_
 rw[h b (List.mem_range.mp hb)]
theorem zP2 {n:Nat}{f:Nat->Nat}(h:∀b,b<n->f b<n) (i:∀b c,b<n->c<n->f b=f c->b=c):Ord n (ofN n f):=by
 refine uP ?_
 have nd:(ofN n f).Nodup:=by
  unfold ofN
  rw[List.nodup_iff_pairwise_ne,List.pairwise_map]
  refine List.Pairwise.imp_of_mem ?_ (List.nodup_range (n:=n))
  intro a b ha hb ne e
  exact ne (i a b (List.mem_range.mp ha) (List.mem_range.mp hb) (by bv_omega))
 rw[List.perm_ext_iff_of_nodup nd (zV6 n)]
 intro a
 rw[zX7]
 unfold ofN
 rw[List.mem_map]
 constructor
 ·rintro ⟨b,hb,rfl⟩
  have:=h b (List.mem_range.mp hb)
  bv_omega
 ·rintro ⟨h1,h2⟩
  obtain⟨b,hb,e⟩:=onto (n:=n) (f:=f) h i (c:=a.toNat) (by bv_omega)
  exact⟨b,List.mem_range.mpr hb,by bv_omega⟩
theorem zV3 {n:Nat}{xs:List Int}(o:Ord n xs):ofN n (nxt xs)=xs:=by
 refine List.ext_getElem (by rw[kT,o.len]) fun b h1 h2 => ?_
 rw[kT] at h1
 have e:=zO7 (f:=nxt xs) h1
 rw[<-o.vM h1] at e
 rw[List.getD_eq_getElem?_getD,List.getD_eq_getElem?_getD,List.getElem?_eq_getElem (by rw[kT];exact h1),List.getElem?_eq_getElem h2] at e
 exact e
theorem Ord.ext {n:Nat}{xs ys:List Int}(o:Ord n xs) (o':Ord n ys) (h:∀b,b<n->nxt xs b=nxt ys b):xs=ys:=by
 rw[<-zV3 o,<-zV3 o',yK1 h]
def cmpO (n:Nat) (xs ys:List Int):List Int:=ofN n fun b=>nxt ys (nxt xs b)
theorem yQ9 {n:Nat}{xs ys:List Int}{b:Nat}(h:b<n):nxt (cmpO n xs ys) b=nxt ys (nxt xs b):=zN6 h
theorem yQ8 {n:Nat}{xs ys:List Int}(o:Ord n xs) (o':Ord n ys):Ord n (cmpO n xs ys) :=
 zP2 (fun b h=>o'.yJ (o.yJ h)) fun b c h h' e=>o.qQ h h' (o'.qQ (o.yJ h) (o.yJ h') e)
section
variable {n:Nat}{xs:List Int}
theorem cR (xs:List Int) (b k:Nat):it xs (k+1) b=it xs k (nxt xs b):=wE xs b 1 k
theorem yA7 {P:Nat->Prop}(n:Nat) (h:∃c,P c):∃m,P m/\∀c,P c->m<=c:=by
 obtain⟨c,hc⟩:=h
 induction c using Nat.strongRecOn with
 | ind c ih =>
  by_cases q:∃d,d<c/\P d
  ·obtain⟨d,hd,pd⟩:=q
   exact ih d hd pd
  ·exact⟨c,hc,fun d pd=>Nat.le_of_not_lt fun z=>q ⟨d,z,pd⟩⟩
end
section
variable {n:Nat}{xs:List Int}
def lc:Nat->Nat
 | 0=>1
 | n+1=>(n+1)*lc n
theorem part (o:Ord n xs){a:Nat}(ha:a<n):(ring n xs a++(List.range n).filter fun c=>!(ring n xs a).contains c).Perm (List.range n):=by
 have nd:=o.zH6 ha
 rw[List.perm_ext_iff_of_nodup ?_ List.nodup_range]
 ·intro c
  rw[List.mem_append,List.mem_filter,List.mem_range]
  constructor
  ·rintro (h | h)
   ·exact o.yN2 ha (yU9.mp h)
   ·exact h.1
  ·intro h
   cases e:(ring n xs a).contains c with
   | true=>exact .inl (List.contains_iff_mem.mp e)
   | false=>exact .inr ⟨h,rfl⟩
 ·rw[List.nodup_append]
  refine⟨nd,List.nodup_range.filter _,fun x hx y hy e => ?_⟩
  subst e
  have:=(List.mem_filter.mp hy).2
  rw[List.contains_iff_mem.mpr hx] at this
  cases this
end
end MR
namespace M12
def ff (n:Int):Nat->Int
 | 0=>1
 | j+1=>ff n j*(n-j)
def tot (least:Int) (many:List Int):Nat->Int
 | 0=>0
 | j+1=>if least<=(j:Int)+1 then tot least many j+ff ((many.length:Int)-1) j*many.getD (many.length-(j+1)) 0 else tot least many j
def mbl (least most:Int):Nat->List Int
 | 0=>[1]
 | n+1=>mbl least most n ++ [tot least (mbl least most n) (min most ((n:Int)+1)).toNat]
def G (least most:Int) (n:Nat):Int:=(mbl least most n).getD n 0
def B:Int:=2 ^ 400
end M12
namespace M12
end M12
namespace M12
def sumN (F:Nat->Int):Nat->Int
 | 0=>0
 | n+1=>sumN F n+F n
def bin:Nat->Nat->Int
 | _,0=>1
 | 0,_+1=>0
 | n+1,m+1=>bin n m+bin n (m+1)
def term (g b:Nat->Int) (n m:Nat):Int:=bin n m*g m*b (n-m)
def fac:Nat->Int
 | 0=>1
 | n+1=>fac n*((n:Int)+1)
end M12
namespace M12
def tells (g b:List Int) (n:Nat):Nat->List Int
 | 0=>[]
 | m+1=>tells g b n m ++ [bin n m*g.getD m 0*b.getD (n-m) 0]
end M12
namespace M12
def inWin (o q p:Nat):Bool:=decide (p<=q/\q<p+o)
def stepM (n o:Nat) (v:Nat->Int) (q:Nat):Int :=
 (if q+1<=n then ((q:Int)+1)*v (q+1) else 0)+sumN (fun p=>if inWin o q p then v p else 0) (n+1)
def e0 (i:Nat):Int:=if i=0 then 1 else 0
end M12
namespace M12
section
variable (g b:Nat->Int)
def TT (l s:Nat):Int:=sumN (fun c=>term g b l c*ff (c:Int) s) (l+1)
variable {g b}
end
end M12
namespace M12
end M12
namespace M12
section
variable (g b:Nat->Int)
variable {g b}
end
end M12
namespace MR
def stepI (n:Nat) (rs:List (List Int)):List (List Int):=rs.flatMap fun r=>((List.range n).filter fun (x:Nat)=>!r.contains (x:Int)).map fun (x:Nat)=>r ++ [(x:Int)]
def ordsI (n:Nat):Nat->List (List Int)
 | 0=>[[]]
 | i+1=>stepI n (ordsI n i)
def H1:List (Nat×Nat):=[(57,1)]
def H2:List (Nat×Nat):=[(449,1),(751,1)]
def H3:List (Nat×Nat):=[(3487,1),(5601,1),(5553,1),(7717,2),(5595,1)]
def H4:List (Nat×Nat):=[(26811,1),(41609,1),(41273,1),(56421,2),(41567,1),(41225,1),(39216,3),(55737,2),(71229,6),(56325,2),(41267,1),(56409,2),(41561,1)]
def H5:List (Nat×Nat):=[(204485,1),(308071,1),(305719,1),(411755,2),(307777,1),(305383,1),(291320,3),(406967,2),(515411,6),(411083,2),(305677,1),(411671,2),(307735,1),(305335,1),(291272,3),(288920,3),(394956,2),(290978,3),(406283,2),(392220,2),(508211,6),(619057,24),(514385,6),(406871,2),(515267,6),(392514,2),(410987,2),(394572,2),(305377,1),(291314,3),(406955,2),(515393,6),(411071,2),(394914,2),(394614,2),(392556,2),(305671,1),(411659,2),(394908,2),(394620,2),(307729,1),(392562,2)]
def H6:List (Nat×Nat):=[(1549045,1),(2274147,1),(2257683,1),(2999935,2),(2272089,1),(2255331,1),(2156890,3),(2966419,2),(3725527,6),(2995231,2),(2257389,1),(2999347,2),(2271795,1),(2254995,1),(2156554,3),(2140090,3),(2882342,2),(2154496,3),(2961631,2),(2863190,2),(3675127,6),(4451049,24),(3718345,6),(2965747,2),(3724519,6),(2865248,2),(2994559,2),(2879654,2),(2255289,1),(2156848,3),(2966335,2),(3725401,6),(2995147,2),(2882048,2),(2879948,2),(2865542,2),(2257347,1),(2999263,2),(2882006,2),(2879990,2),(2271753,1),(2865584,2),(2254947,1),(2156506,3),(2140042,3),(2882294,2),(2154448,3),(2137690,3),(2039249,15),(2848778,2),(3607886,6),(2877590,2),(2139748,3),(2881706,2),(2154154,3),(2960947,2),(2862506,2),(2846042,2),(2764751,40),(2860448,2),(3667927,6),(3569486,6),(4383825,24),(5176555,120),(4441449,24),(3674101,6),(4449681,24),(3573602,6),(3717319,6),(3602414,6),(2961535,2),(2863094,2),(3674983,6),(4450857,24),(3718201,6),(2846336,2),(3603002,6),(2860742,2),(3574190,6),(2965651,2),(3724375,6),(2865152,2),(2848394,2),(3607118,6),(2864858,2),(2994463,2),(2879558,2),(2877206,2),(2879264,2),(2254989,1),(2156548,3),(2140084,3),(2882336,2),(2154490,3),(2961619,2),(2863178,2),(3675109,6),(4451025,24),(3718327,6),(2965735,2),(3724501,6),(2865236,2),(2994547,2),(2879642,2),(2848736,2),(3607802,6),(2877548,2),(2848436,2),(3607202,6),(2877248,2),(2881664,2),(2846378,2),(3603086,6),(2879306,2),(2860784,2),(3574274,6),(2864900,2),(2255283,1),(2156842,3),(2966323,2),(3725383,6),(2995135,2),(2882042,2),(2879936,2),(2865530,2),(2848730,2),(3607790,6),(2877542,2),(2848442,2),(3607214,6),(2877254,2),(2881958,2),(2879894,2),(2865488,2),(2257341,1),(2999251,2),(2881994,2),(2879984,2),(2881658,2),(2846384,2),(3603098,6),(2879312,2),(2881952,2),(2879900,2),(2271747,1),(2865578,2),(2860790,2),(3574286,6),(2864906,2),(2865494,2)]
def H (n:Nat):List (Nat×Nat):=match n with | 1=>H1 | 2=>H2 | 3=>H3 | 4=>H4 | 5=>H5 | _=>H6
def ins (c:Nat):List (Nat×Nat)->List (Nat×Nat)
 | []=>[(c,1)]
 | q::r=>if Nat.beq q.1 c then (q.1,q.2+1)::r else q::ins c r
def cnt:List (Nat×Nat)->(Nat->Bool)->Nat
 | [],_=>0
 | q::r,P=>(if P q.1 then q.2 else 0)+cnt r P
def dg (c i:Nat):Nat:=c / 7 ^ i%7
def fdC (k c p:Nat):Bool:=Nat.ble (dg c p) k
def gsm (ms:List Int) (s:Nat):Int:=((List.range ms.length).map fun (c:Nat)=>ms.getD c 0*M12.ff (c:Int) s).sum
def tl (n k:Nat):List Int:=M12.tells (M12.mbl 1 (k:Int) n) (M12.mbl ((k:Int)+1) n n) n (n+1)
def sub:Nat->Nat->List (List Nat)
 | _,0=>[[]]
 | a,m+1=>sub (a+1) m++(sub (a+1) m).map (a :: ·)
theorem bB:∀n,n<7->1<=n->∀k,k<n+2->∀g∈sub 0 n,gsm (tl n k) g.length / M12.ff (n:Int) g.length=((cnt (H n) fun c=>g.all (fdC (min k n) c):Nat):Int):=by decide +kernel
section
variable {n:Nat}{xs:List Int}
def cl {α:Type}(n:Nat) (f:α->Nat) (l:List α):List Int:=(List.range (n+1)).map fun j=>((l.countP fun x=>Nat.beq (f x) j:Nat):Int)
end
def stepT (n o:Nat) (l:List Int):List Int:=(List.range (n+1)).map fun q=>M12.stepM n o (fun p=>l.getD p 0) q
def ups:Nat->Nat->Nat->List (List Nat)
 | _,_,0=>[[]]
 | a,n,m+1=>(List.range (n+1-a)).flatMap fun d=>(ups (a+d) n m).map ((a+d) :: ·)
theorem yM3:∀n,n<7->1<=n->((ordsI n n).length:Int)=M12.fac n:=by decide +kernel
def fc:Nat->Nat
 | 0=>1
 | n+1=>(n+1)*fc n
theorem zF5:∀n,M12.fac n=((fc n:Nat):Int)
 | 0=>rfl
 | n+1=>by
  rw[M12.fac,zF5 n,fc]
  push_cast
  rw[Int.mul_comm]
def rk:List Int->List Int->Nat
 | _,[]=>0
 | l,x::xs=>l.idxOf x*fc (l.length-1)+rk (l.erase x) xs
theorem fS:∀(l:List Int) (j:Nat),j<l.length->(l.getD j 0::l.eraseIdx j).Perm l
 | a::l,0,_=>List.Perm.refl _
 | a::l,j+1,h=>(List.Perm.swap a (l.getD j 0) (l.eraseIdx j)).trans ((fS l j (by simpa using h)).cons a)
theorem qF {α:Type} [BEq α] [LawfulBEq α]:∀(l m:List α),l.Nodup->(∀x∈l,x∈m)->m.length<=l.length->l.Perm m
 | [],m,_,_,h=>by
  have:m=[]:=List.eq_nil_of_length_eq_zero (by simpa using h)
  subst this
  exact List.Perm.refl _
 | x::l,m,nd,sub,h=>by
  have mx:=sub x (List.mem_cons_self ..)
  have nd':=List.nodup_cons.mp nd
  have le:(m.erase x).length=m.length-1:=List.length_erase_of_mem mx
  have ih:=qF l (m.erase x) nd'.2 (fun y hy=>(List.mem_erase_of_ne (fun e=>nd'.1 (by rw[<-e];exact hy))).mpr (sub y (List.mem_cons_of_mem _ hy))) (by rw[le];simp at h;bv_omega)
  exact (ih.cons x).trans (List.perm_cons_erase mx).symm
theorem fL {v:Int}:∀(p q:Nat) (A B:List Int),v∉A->v∉B->p<=A.length->q<=B.length->insAt A p v=insAt B q v->p=q/\A=B
 | 0,0,A,B,_,_,_,_,e=>⟨rfl,by simpa [insAt] using e⟩
 | 0,q+1,A,[],_,_,_,h,_=>by simp at h
 | 0,q+1,A,b::B,_,hb,_,_,e=>by
  simp only[insAt,List.take_zero,List.drop_zero,List.nil_append,List.take_succ_cons,List.drop_succ_cons,List.cons_append] at e
  exact absurd (List.mem_cons_self ..) (by rw[<-(List.cons.inj e).1] at hb;exact hb)
 | p+1,_,[],B,_,_,h,_,_=>by simp at h
 | p+1,0,a::A,B,ha,_,_,_,e=>by
  simp only[insAt,List.take_zero,List.drop_zero,List.nil_append,List.take_succ_cons,List.drop_succ_cons,List.cons_append] at e
  exact absurd (List.mem_cons_self ..) (by rw[(List.cons.inj e).1] at ha;exact ha)
 | p+1,q+1,a::A,[],_,_,_,h,_=>by simp at h
 | p+1,q+1,a::A,b::B,ha,hb,h,h',e=>by
  simp only[insAt,List.take_succ_cons,List.drop_succ_cons,List.cons_append] at e
  obtain⟨e1,e2⟩:=List.cons.inj e
  obtain⟨i1,i2⟩:=fL p q A B (fun z=>ha (List.mem_cons_of_mem _ z)) (fun z=>hb (List.mem_cons_of_mem _ z)) (by simpa using h) (by simpa using h') e2
  exact⟨by bv_omega,by rw[e1,i2]⟩
theorem zS1 (c:Nat):∀k,(lawOrd (c:Int) k).2=((c / fc k:Nat):Int)
 | 0=>by simp[lawOrd,fc]
 | k+1=>by
  rw[lawOrd,zS1 c k,fc,show ((k:Int)+1)=((k+1:Nat):Int) by bv_omega,Nat.mul_comm,<-Nat.div_div_eq_div_mul]
  rfl
theorem zL9 (c d:Nat):∀k,(lawOrd (c:Int) k).1=(lawOrd (d:Int) k).1->c%fc k=d%fc k
 | 0,_=>by rw[fc,Nat.mod_one,Nat.mod_one]
 | k+1,e=>by
  have nk:∀c:Int,(k:Int)∉(lawOrd c k).1:=fun c h=>by
   have:=zX7.mp ((jM c k).mem_iff.mp h)
   bv_omega
  have le:∀c:Nat,((lawOrd (c:Int) k).2%((k:Int)+1)).toNat=c / fc k%(k+1):=fun c=>by
   rw[zS1,show ((k:Int)+1)=((k+1:Nat):Int) by bv_omega]
   rfl
  have ln:∀c:Int,(lawOrd c k).1.length=k:=fun c=>(vI c k).len
  rw[lawOrd,lawOrd] at e
  simp only at e
  rw[le,le] at e
  have a1:=Nat.mod_lt (c / fc k) (show k+1 > 0 by bv_omega)
  have a2:=Nat.mod_lt (d / fc k) (show k+1 > 0 by bv_omega)
  obtain⟨p,q⟩:=fL _ _ _ _ (nk c) (nk d) (by rw[ln];bv_omega) (by rw[ln];bv_omega) e
  have ih:=zL9 c d k q
  rw[fc,Nat.mul_comm,Nat.mod_mul,Nat.mod_mul,ih,p]
theorem zT3 {n:Nat}{xs:List Int}(o:Ord n xs):∀i,i<=n->xs.take i∈ordsI n i
 | 0,_=>by simp[ordsI]
 | i+1,h=>by
  have ih:=zT3 o i (by bv_omega)
  have hl:=o.len
  have hi:i<xs.length:=by bv_omega
  have e:xs.take (i+1)=xs.take i ++ [((nxt xs i:Nat):Int)]:=by
   rw[List.take_succ,List.getElem?_eq_getElem hi,<-o.vM (by bv_omega)]
   simp[List.getD,hi]
  rw[ordsI,stepI,List.mem_flatMap]
  refine⟨_,ih,List.mem_map.mpr ⟨nxt xs i,List.mem_filter.mpr ⟨List.mem_range.mpr (o.yJ (by bv_omega)),?_⟩,e.symm⟩⟩
  rw[Bool.not_eq_true',<-Bool.not_eq_true,List.contains_iff_mem]
  intro z
  obtain⟨j,hj,ej⟩:=List.mem_iff_getElem.mp z
  rw[List.length_take] at hj
  rw[List.getElem_take] at ej
  have:xs.getD j 0=xs.getD i 0:=by
   rw[o.vM (show i<n by bv_omega),<-ej]
   simp[List.getD,show j<xs.length by bv_omega]
  have:=o.inj j i (by bv_omega) (by bv_omega) this
  bv_omega
theorem dP {n:Nat}{xs:List Int}(o:Ord n xs):xs∈ordsI n n:=by
 have:=zT3 o n (Nat.le_refl n)
 rwa [List.take_of_length_le (by rw[o.len];exact Nat.le_refl n)] at this
theorem zJ1 {n:Nat}(h1:1<=n) (h2:n<7){xs:List Int}(o:Ord n xs):((List.range (fc n)).map fun (i:Nat)=>cmpO n (lawOrd (i:Int) n).1 xs).Perm (ordsI n n):=by
 have L:=yM3 n h2 h1
 rw[zF5] at L
 refine qF _ _ ?_ (fun y hy => ?_) (by rw[List.length_map,List.length_range];bv_omega)
 ·unfold List.Nodup
  rw[List.pairwise_map]
  refine List.Pairwise.imp_of_mem ?_ (List.pairwise_lt_range (n:=fc n))
  intro i j hi hj lt e
  have oi:=vI (i:Int) n
  have oj:=vI (j:Int) n
  have q:(lawOrd (i:Int) n).1=(lawOrd (j:Int) n).1:=Ord.ext oi oj fun b hb=>by
   have:=congrArg (fun l=>nxt l b) e
   simp only[yQ9 hb] at this
   exact o.qQ (oi.yJ hb) (oj.yJ hb) this
  have m:=zL9 i j n q
  rw[Nat.mod_eq_of_lt (List.mem_range.mp hi),Nat.mod_eq_of_lt (List.mem_range.mp hj)] at m
  bv_omega
 ·obtain⟨i,_,rfl⟩:=List.mem_map.mp hy
  exact dP (yQ8 (vI _ n) o)
def allO:Nat->List (List Int)
 | 0=>[[]]
 | k+1=>(allO k).flatMap fun r=>(List.range (r.length+1)).map fun j=>insAt r j (k:Int)
def fac:Nat->Nat
 | 0=>1
 | k+1=>(k+1)*fac k
theorem gG:∀n,∀xs∈allO n,xs.Perm (rg n)
 | 0,xs,h=>by
  have:xs=[]:=by simpa [allO] using h
  rw[this]
  exact List.Perm.nil
 | k+1,xs,h=>by
  rw[allO] at h
  obtain⟨r,hr,h⟩:=List.mem_flatMap.mp h
  obtain⟨j,_,rfl⟩:=List.mem_map.mp h
  have p:=gG k r hr
  refine (cN r j (k:Int)).trans ((p.cons _).trans ?_)
  have e:rg (k+1)=rg k ++ [(k:Int)]:=by
   unfold rg
   rw[List.range_succ,List.map_append]
   rfl
  rw[e]
  exact (List.perm_append_singleton _ _).symm
theorem aR {n:Nat}{xs:List Int}(h:xs∈allO n):Ord n xs:=uP (gG n xs h)
theorem zY4 (c:Nat):∀l:List Nat,(∀x∈l,x=c)->l.sum=l.length*c
 | [],_=>by simp
 | x::l,h=>by
  rw[List.sum_cons,zY4 c l fun y hy=>h y (List.mem_cons_of_mem _ hy),h x (List.mem_cons_self ..),List.length_cons,Nat.add_mul,Nat.one_mul,Nat.add_comm]
theorem bA:∀n,(allO n).length=fac n
 | 0=>rfl
 | k+1=>by
  rw[allO,List.length_flatMap,zY4 (k+1),List.length_map,bA k,fac,Nat.mul_comm]
  intro x hx
  obtain⟨r,hr,rfl⟩:=List.mem_map.mp hx
  rw[List.length_map,List.length_range,(aR hr).len]
theorem gU:∀n,(allO n).Nodup
 | 0=>by simp[allO]
 | k+1=>by
  have no:∀r∈allO k,(k:Int)∉r:=fun r hr h=>by
   have:=(gG k r hr).mem_iff.mp h
   unfold rg at this
   obtain⟨i,hi,e⟩:=List.mem_map.mp this
   have:=List.mem_range.mp hi
   bv_omega
  rw[allO]
  refine List.pairwise_flatMap.mpr ⟨fun r hr => ?_,?_⟩
  ·refine List.pairwise_map.mpr (List.Pairwise.imp_of_mem (fun {i j} hi hj h e=>h ?_) List.nodup_range)
   have:=List.mem_range.mp hi
   have:=List.mem_range.mp hj
   exact (fL i j r r (no r hr) (no r hr) (by bv_omega) (by bv_omega) e).1
  ·refine List.Pairwise.imp_of_mem (fun {r s} hr hs h => ?_) (gU k)
   intro x hx y hy exy
   subst exy
   obtain⟨i,hi,e1⟩:=List.mem_map.mp hx
   obtain⟨j,hj,e2⟩:=List.mem_map.mp hy
   have:=List.mem_range.mp hi
   have:=List.mem_range.mp hj
   exact h (fL i j r s (no r hr) (no s hs) (by bv_omega) (by bv_omega) (e1.trans e2.symm)).2
structure AllOrd (n:Nat) (L:List (List Int)):Prop where
 nd:L.Nodup
 mem:∀xs,xs∈L↔Ord n xs
 len:L.length=fac n
theorem yH8 {n:Nat}(h1:1<=n) (h2:n<7):AllOrd n (allO n):=by
 have fcf:∀k,fc k=fac k:=fun k=>by
  induction k with
  | zero=>rfl
  | succ k ih=>rw[fac,fc,ih,Nat.mul_comm]
 have le:(ordsI n n).length=fac n:=by
  have:=(zJ1 h1 h2 (vI 0 n)).length_eq
  rw[List.length_map,List.length_range,fcf] at this
  exact this.symm
 have p:=qF (allO n) (ordsI n n) (gU n) (fun x hx=>dP (aR hx)) (by rw[bA,le];exact Nat.le_refl _)
 exact⟨gU n,fun xs=>⟨aR,fun o=>p.mem_iff.mpr (dP o)⟩,bA n⟩
theorem yV4 {n:Nat}{ms:List Nat}(nd:ms.Nodup) (h:∀m∈ms,m<n):((List.range n).filter fun m=>!ms.contains m).length+ms.length=n:=by
 have p:(((List.range n).filter fun m=>!ms.contains m)++ms).Perm (List.range n):=by
  refine (List.perm_ext_iff_of_nodup (List.nodup_append.mpr ⟨List.nodup_range.sublist List.filter_sublist,nd,fun x hx y hy e => ?_⟩) List.nodup_range).mpr fun x => ?_
  ·have:=(List.mem_filter.mp hx).2
   rw[e] at this
   simp at this
   exact this hy
  ·rw[List.mem_append,List.mem_filter,List.mem_range]
   constructor
   ·rintro (z | z)
    ·exact z.1
    ·exact h x z
   ·intro hx
    by_cases z:x∈ms
    ·exact .inr z
    ·exact .inl ⟨hx,by simpa using z⟩
 have:=p.length_eq
 rw[List.length_append,List.length_range] at this
 exact this
section
variable {τ:Type}(bx:τ->Option Nat) (nx:τ->Nat->τ) (n:Nat)
inductive Tk:Nat->τ->Prop
 | leaf {l:Nat}{t:τ}:bx t=none->Tk l t
 | node {l b:Nat}{t:τ}:bx t=some b->b<n->(∀x,x<n->Tk l (nx t x))->Tk (l+1) t
abbrev Rv:=Nat×Nat×Nat
variable (g:Nat->Nat->Nat)
inductive Tn (p:Nat):Nat->τ->Nat->List (Option Nat)->List Rv->List (Option Nat)->Prop
 | done {t:τ}{l:Nat}{seen:List (Option Nat)}:some p∈seen->Tn p 0 t l seen [] seen
 | leafN {k:Nat}{t:τ}{l b:Nat}{seen out:List (Option Nat)}{rs:List Rv}:some p∉seen->bx t=none->seen[b]?=some none->(∀i,i<b->seen[i]?≠some none)->Tn p k t (g b l) (seen.set b (some (g b l))) rs out->Tn p (k+1) t l seen ((b,l,g b l)::rs) out
 | nodeN {k:Nat}{t:τ}{l b:Nat}{seen out:List (Option Nat)}{rs:List Rv}:some p∉seen->bx t=some b->seen[b]?=some none->Tn p k (nx t (g b l)) (g b l) (seen.set b (some (g b l))) rs out->Tn p (k+1) t l seen ((b,l,g b l)::rs) out
 | nodeO {k:Nat}{t:τ}{l b x:Nat}{seen out:List (Option Nat)}{rs:List Rv}:some p∉seen->bx t=some b->seen[b]?=some (some x)->Tn p k (nx t x) l seen rs out->Tn p (k+1) t l seen rs out
variable {bx nx n g}
theorem Tn.agree {g':Nat->Nat->Nat}{p k:Nat}{t:τ}{l:Nat}{seen out:List (Option Nat)}{rs:List Rv}(h:Tn bx nx g p k t l seen rs out) (e:∀r∈rs,g' r.1 r.2.1=r.2.2):Tn bx nx g' p k t l seen rs out:=by
 induction h with
 | done h=>exact .done h
 | leafN h1 h2 h3 h4 _ ih =>
  have e0:=e _ List.mem_cons_self
  simp only at e0
  have:=ih fun r hr=>e r (List.mem_cons_of_mem _ hr)
  rw[<-e0] at this ⊢
  exact .leafN h1 h2 h3 h4 this
 | nodeN h1 h2 h3 _ ih =>
  have e0:=e _ List.mem_cons_self
  simp only at e0
  have:=ih fun r hr=>e r (List.mem_cons_of_mem _ hr)
  rw[<-e0] at this ⊢
  exact .nodeN h1 h2 h3 this
 | nodeO h1 h2 h3 _ ih=>exact .nodeO h1 h2 h3 (ih e)
theorem Tn.det {p k k':Nat}{t:τ}{l:Nat}{seen out out':List (Option Nat)}{rs rs':List Rv}(h:Tn bx nx g p k t l seen rs out) (h':Tn bx nx g p k' t l seen rs' out'):rs=rs'/\out=out':=by
 induction h generalizing k' rs' out' with
 | done h =>
  cases h' with
  | done _=>exact⟨rfl,rfl⟩
  | leafN h1=>exact absurd h h1
  | nodeN h1=>exact absurd h h1
  | nodeO h1=>exact absurd h h1
 | @leafN k t l b seen out rs h1 h2 h3 h4 _ ih =>
  cases h' with
  | done h=>exact absurd h h1
  | @leafN _ _ _ b' _ _ _ _ _ g3 g4 q =>
   have:b=b':=by
    rcases Nat.lt_trichotomy b b' with z | z | z
    ·exact absurd h3 (g4 b z)
    ·exact z
    ·exact absurd g3 (h4 b' z)
   subst this
   obtain⟨e1,e2⟩:=ih q
   exact⟨by rw[e1],e2⟩
  | nodeN _ g2=>rw[h2] at g2;cases g2
  | nodeO _ g2=>rw[h2] at g2;cases g2
 | @nodeN k t l b seen out rs h1 h2 h3 _ ih =>
  cases h' with
  | done h=>exact absurd h h1
  | leafN _ g2=>rw[h2] at g2;cases g2
  | nodeN _ g2 _ q =>
   rw[h2] at g2;cases g2
   obtain⟨e1,e2⟩:=ih q
   exact⟨by rw[e1],e2⟩
  | nodeO _ g2 g3=>rw[h2] at g2;cases g2;rw[h3] at g3;cases g3
 | @nodeO k t l b x seen out rs h1 h2 h3 _ ih =>
  cases h' with
  | done h=>exact absurd h h1
  | leafN _ g2=>rw[h2] at g2;cases g2
  | nodeN _ g2 g3=>rw[h2] at g2;cases g2;rw[h3] at g3;cases g3
  | nodeO _ g2 g3 q =>
   rw[h2] at g2;cases g2
   rw[h3] at g3;cases g3
   exact ih q
variable (n)
structure Sd (seen:List (Option Nat)) (used:List Nat):Prop where
 len:seen.length=n
 inj:∀(i j x:Nat),seen[i]?=some (some x)->seen[j]?=some (some x)->i=j
 lt:∀(i x:Nat),seen[i]?=some (some x)->x<n
 und:used.Nodup
 rel:∀y,y∈used↔some y∈seen
structure Md (p l:Nat) (seen:List (Option Nat)) (used:List Nat):Prop where
 len:seen.length=n
 inj:∀(i j x:Nat),seen[i]?=some (some x)->seen[j]?=some (some x)->i=j
 lt:∀(i x:Nat),seen[i]?=some (some x)->x<n
 und:used.Nodup
 pn:p<n
 np:some p∉seen
 nl:l∉used
 rel:∀y,(y∈used\/y=l)↔(some y∈seen\/y=p)
variable {n}
theorem Md.ll {p l:Nat}{seen:List (Option Nat)}{used:List Nat}(M:Md n p l seen used):l<n:=by
 rcases (M.rel l).mp (.inr rfl) with h | h
 ·obtain⟨i,hi,e⟩:=List.getElem_of_mem h
  exact M.lt i l (by rw[List.getElem?_eq_getElem hi,e])
 ·rw[h];exact M.pn
theorem Md.ult {p l:Nat}{seen:List (Option Nat)}{used:List Nat}(M:Md n p l seen used):∀u∈used,u<n:=fun u hu=>by
 rcases (M.rel u).mp (.inl hu) with h | h
 ·obtain⟨i,hi,e⟩:=List.getElem_of_mem h
  exact M.lt i u (by rw[List.getElem?_eq_getElem hi,e])
 ·rw[h];exact M.pn
theorem Md.few {p l:Nat}{seen:List (Option Nat)}{used:List Nat}(M:Md n p l seen used):used.length<n:=by
 have:=yV4 (n:=n) (ms:=l::used) (List.nodup_cons.mpr ⟨M.nl,M.und⟩) (fun m hm=>by
  rcases List.mem_cons.mp hm with rfl | hm
  ·exact M.ll
  ·exact M.ult m hm)
 rw[List.length_cons] at this
 bv_omega
theorem zD {seen:List (Option Nat)}{b i:Nat}{x:Nat}(hb:b<seen.length):(seen.set b (some x))[i]?=if i=b then some (some x) else seen[i]?:=by
 rw[List.getElem?_set]
 by_cases e:b=i
 ·subst e;rw[if_pos rfl,if_pos rfl,if_pos hb]
 ·rw[if_neg e,if_neg (fun z=>e z.symm)]
theorem bM {seen:List (Option Nat)}{b x y:Nat}(hb:seen[b]?=some none):some y∈seen.set b (some x)↔(some y∈seen\/y=x):=by
 have hl:b<seen.length:=(List.getElem?_eq_some_iff.mp hb).1
 constructor
 ·intro h
  obtain⟨i,hi,e⟩:=List.getElem_of_mem h
  have e2:(seen.set b (some x))[i]?=some (some y):=by rw[List.getElem?_eq_getElem hi,e]
  rw[zD hl] at e2
  split at e2
  ·cases e2;exact .inr rfl
  ·exact .inl (List.mem_of_getElem? e2)
 ·intro h
  rcases h with h | h
  ·obtain⟨i,hi,e⟩:=List.getElem_of_mem h
   have e1:seen[i]?=some (some y):=by rw[List.getElem?_eq_getElem hi,e]
   refine List.mem_of_getElem? (i:=i) ?_
   rw[zD hl,if_neg (fun z=>by rw[z,hb] at e1;cases e1)]
   exact e1
  ·refine List.mem_of_getElem? (i:=b) ?_
   rw[zD hl,if_pos rfl,h]
theorem zP6 {seen:List (Option Nat)}{b x:Nat}(hb:seen[b]?=some none) (inj:∀(i j x:Nat),seen[i]?=some (some x)->seen[j]?=some (some x)->i=j) (nx:some x∉seen):∀(i j y:Nat),(seen.set b (some x))[i]?=some (some y)->(seen.set b (some x))[j]?=some (some y)->i=j:=fun i j y h1 h2=>by
 have hl:b<seen.length:=(List.getElem?_eq_some_iff.mp hb).1
 rw[zD hl] at h1 h2
 split at h1 <;> split at h2
 ·bv_omega
 ·cases h1;exact absurd (List.mem_of_getElem? h2) nx
 ·cases h2;exact absurd (List.mem_of_getElem? h1) nx
 ·exact inj i j y h1 h2
theorem uF {seen:List (Option Nat)}{b x:Nat}(hb:seen[b]?=some none) (lt:∀(i x:Nat),seen[i]?=some (some x)->x<n) (hx:x<n):∀(i y:Nat),(seen.set b (some x))[i]?=some (some y)->y<n:=fun i y h=>by
 have hl:b<seen.length:=(List.getElem?_eq_some_iff.mp hb).1
 rw[zD hl] at h
 split at h
 ·cases h;exact hx
 ·exact lt i y h
theorem Md.on {p l b x:Nat}{seen:List (Option Nat)}{used:List Nat}(M:Md n p l seen used) (hb:seen[b]?=some none) (hx:x<n) (nx:some x∉seen) (xp:x≠p):Md n p x (seen.set b (some x)) (l::used) where
 len:=by rw[List.length_set];exact M.len
 inj:=zP6 hb M.inj nx
 lt:=uF hb M.lt hx
 und:=List.nodup_cons.mpr ⟨M.nl,M.und⟩
 pn:=M.pn
 np:=fun h=>((bM hb).mp h).elim M.np fun e=>xp e.symm
 nl:=fun h=>by
  have:x∈used\/x=l:=(List.mem_cons.mp h).symm
  exact ((M.rel x).mp this).elim nx xp
 rel:=fun y=>by
  rw[List.mem_cons,bM hb]
  have:=M.rel y
  constructor
  ·rintro ((h | h) | h)
   ·exact ((this.mp (.inr h)).elim (fun z=>.inl (.inl z)) .inr)
   ·exact ((this.mp (.inl h)).elim (fun z=>.inl (.inl z)) .inr)
   ·exact .inl (.inr h)
  ·rintro ((h | h) | h)
   ·exact .inl ((this.mpr (.inl h)).elim .inr .inl)
   ·exact .inr h
   ·exact .inl ((this.mpr (.inr h)).elim .inr .inl)
theorem Md.end' {p l b:Nat}{seen:List (Option Nat)}{used:List Nat}(M:Md n p l seen used) (hb:seen[b]?=some none):Sd n (seen.set b (some p)) (l::used) where
 len:=by rw[List.length_set];exact M.len
 inj:=zP6 hb M.inj M.np
 lt:=uF hb M.lt M.pn
 und:=List.nodup_cons.mpr ⟨M.nl,M.und⟩
 rel:=fun y=>by
  rw[List.mem_cons,bM hb]
  have:=M.rel y
  exact⟨fun h=>this.mp h.symm,fun h=>(this.mpr h).symm⟩
theorem Sd.md {p:Nat}{seen:List (Option Nat)}{used:List Nat}(S:Sd n seen used) (hp:p<n) (np:some p∉seen):Md n p p seen used :=
 ⟨S.len,S.inj,S.lt,S.und,hp,np,fun h=>np ((S.rel p).mp h),fun y=>by rw[S.rel y]⟩
theorem Md.closed {p l:Nat}{seen:List (Option Nat)}{used:List Nat}(M:Md n p l seen used):∃b:Nat,seen[b]?=some none/\∀i:Nat,i<b->seen[i]?≠some none:=by
 have:∃b:Nat,seen[b]?=some none:=by
  by_cases h:∃b:Nat,seen[b]?=some none
  ·exact h
  ·exfalso
   have all:∀i:Nat,i<n->∃x,seen[i]?=some (some x):=fun i hi=>by
    have hi':i<seen.length:=by rw[M.len];exact hi
    cases e:seen[i] with
    | none=>exact absurd ⟨i,by rw[List.getElem?_eq_getElem hi',e]⟩ h
    | some x=>exact⟨x,by rw[List.getElem?_eq_getElem hi',e]⟩
   have key:∀i:Nat,i<n->seen[i]?=some (some (((seen[i]?).join).getD 0)):=fun i hi=>by
    obtain⟨x,e⟩:=all i hi
    rw[e]
    rfl
   obtain⟨i,hi,e⟩:=MR.onto (n:=n) (f:=fun i:Nat=>((seen[i]?).join).getD 0) (fun i hi=>M.lt i _ (key i hi)) (fun i j hi hj e=>M.inj i j _ (key i hi) (by rw[key j hj];rw[show ((seen[i]?).join).getD 0=((seen[j]?).join).getD 0 from e])) M.pn
   have:=key i hi
   rw[show ((seen[i]?).join).getD 0=p from e] at this
   exact M.np (List.mem_of_getElem? this)
 obtain⟨m,h1,h2⟩:=yA7 n this
 exact⟨m,h1,fun i hi z=>by have:=h2 i z;bv_omega⟩
inductive Chn (p:Nat):Nat->List Rv->Prop
 | last {b l:Nat}:Chn p l [(b,l,p)]
 | cons {b l x:Nat}{rs:List Rv}:x≠p->Chn p x rs->Chn p l ((b,l,x)::rs)
abbrev las (rs:List Rv):List Nat:=rs.map fun r=>r.2.1
structure Lv (seen out:List (Option Nat)) (rs:List Rv):Prop where
 keep:∀(i x:Nat),seen[i]?=some (some x)->out[i]?=some (some x)
 shown:∀r∈rs,out[r.1]?=some (some r.2.2)
 val:∀r∈rs,g r.1 r.2.1=r.2.2
variable (n)
def Or (J:List (Option Nat)->List Nat->Prop) (g:Nat->Nat->Nat):Prop:=∀(seen:List (Option Nat)) (used:List Nat) (b l:Nat),J seen used->seen.length=n->seen[b]?=some none->l<n->l∉used->g b l<n/\some (g b l)∉seen/\J (seen.set b (some (g b l))) (l::used)
variable {n}
theorem hV {J:List (Option Nat)->List Nat->Prop}(hJ:Or n J g):∀(m d:Nat){p l:Nat}{t:τ}{seen:List (Option Nat)}{used:List Nat},d+(n-used.length)<=m->Md n p l seen used->J seen used->Tk bx nx n d t ->
  ∃k rs out,Tn bx nx g p k t l seen rs out/\k<=m/\Sd n out ((las rs).reverse++used)/\J out ((las rs).reverse++used)/\Chn p l rs/\Lv (g:=g) seen out rs/\some p∈out
 | 0,d,p,l,t,seen,used,hm,M,j,T=>by have:=M.few;bv_omega
 | m+1,d,p,l,t,seen,used,hm,M,j,T=>by
  have fw:=M.few
  have step:∀(b:Nat) (t':τ) (d':Nat),seen[b]?=some none->d'<=d->Tk bx nx n d' t'->∃k rs out,Tn bx nx g p k t' (g b l) (seen.set b (some (g b l))) rs out/\k<=m/\Sd n out ((las ((b,l,g b l)::rs)).reverse++used)/\J out ((las ((b,l,g b l)::rs)).reverse++used)/\Chn p l ((b,l,g b l)::rs)/\Lv (g:=g) seen out ((b,l,g b l)::rs)/\some p∈out:=fun b t' d' hb hd T'=>by
   obtain⟨x1,x2,x3⟩:=hJ seen used b l j M.len hb M.ll M.nl
   have hl:b<seen.length:=(List.getElem?_eq_some_iff.mp hb).1
   have kp:∀(i x:Nat),seen[i]?=some (some x)->(seen.set b (some (g b l)))[i]?=some (some x):=fun i x e=>by
    rw[zD hl,if_neg (fun z=>by rw[z,hb] at e;cases e)]
    exact e
   have here:(seen.set b (some (g b l)))[b]?=some (some (g b l)):=by rw[zD hl,if_pos rfl]
   by_cases xp:g b l=p
   ·have S:=M.end' hb
    rw[<-xp] at S
    refine⟨0,[],_,.done ?_,Nat.zero_le _,S,x3,?_,⟨kp,?_,?_⟩,?_⟩
    ·exact List.mem_of_getElem? (i:=b) (by rw[here,xp])
    ·rw[xp];exact .last
    ·intro r hr
     rw[List.mem_singleton.mp hr]
     exact here
    ·intro r hr
     rw[List.mem_singleton.mp hr]
    ·exact List.mem_of_getElem? (i:=b) (by rw[here,xp])
   ·have M':=M.on hb x1 x2 xp
    obtain⟨k,rs,out,h1,h2,h3,h4,h5,h6,h7⟩:=hV hJ m d' (p:=p) (l:=g b l) (t:=t') (seen:=seen.set b (some (g b l))) (used:=l::used) (by rw[List.length_cons];bv_omega) M' x3 T'
    have eu:(las ((b,l,g b l)::rs)).reverse++used=(las rs).reverse++l::used:=by simp[las]
    refine⟨k,rs,out,h1,h2,by rw[eu];exact h3,by rw[eu];exact h4,.cons xp h5,⟨fun i x e=>h6.keep i x (kp i x e),fun r hr => ?_,fun r hr => ?_⟩,h7⟩
    ·rcases List.mem_cons.mp hr with rfl | hr
     ·exact h6.keep b _ here
     ·exact h6.shown r hr
    ·rcases List.mem_cons.mp hr with rfl | hr
     ·rfl
     ·exact h6.val r hr
  cases T with
  | leaf h =>
   obtain⟨b,hb,hf⟩:=M.closed
   obtain⟨k,rs,out,h1,h2,r⟩:=step b t 0 hb (Nat.zero_le _) (.leaf h)
   exact⟨k+1,_,out,.leafN M.np h hb hf h1,by bv_omega,r⟩
  | @node d b _ hbx hbn T' =>
   cases e:seen[b]? with
   | none=>rw[List.getElem?_eq_getElem (by rw[M.len];exact hbn)] at e;cases e
   | some z =>
    cases z with
    | none =>
     obtain⟨x1,_,_⟩:=hJ seen used b l j M.len e M.ll M.nl
     obtain⟨k,rs,out,h1,h2,r⟩:=step b (nx t (g b l)) d e (by bv_omega) (T' _ x1)
     exact⟨k+1,_,out,.nodeN M.np hbx e h1,by bv_omega,r⟩
    | some x =>
     obtain⟨k,rs,out,h1,h2,r⟩:=hV hJ m d (p:=p) (l:=l) (t:=nx t x) (seen:=seen) (used:=used) (by bv_omega) M j (T' x (M.lt b x e))
     exact⟨k+1,rs,out,.nodeO M.np hbx e h1,by bv_omega,r⟩
inductive Gm (bx:τ->Option Nat) (nx:τ->Nat->τ) (g:Nat->Nat->Nat) (T:Nat->τ):List Nat->List (Option Nat)->List (Nat×List Rv)->List (Option Nat)->Prop
 | nil {seen:List (Option Nat)}:Gm bx nx g T [] seen [] seen
 | skip {p:Nat}{ps:List Nat}{seen fin:List (Option Nat)}{out:List (Nat×List Rv)}:some p∈seen->Gm bx nx g T ps seen out fin->Gm bx nx g T (p::ps) seen out fin
 | play {p k:Nat}{ps:List Nat}{seen mid fin:List (Option Nat)}{rs:List Rv}{out:List (Nat×List Rv)}:some p∉seen->Tn bx nx g p k (T p) p seen rs mid->Gm bx nx g T ps mid out fin->Gm bx nx g T (p::ps) seen ((p,rs)::out) fin
abbrev allR (out:List (Nat×List Rv)):List Rv:=out.flatMap fun z=>z.2
theorem Gm.agree {T:Nat->τ}{g':Nat->Nat->Nat}{ps:List Nat}{seen fin:List (Option Nat)}{out:List (Nat×List Rv)}(h:Gm bx nx g T ps seen out fin) (e:∀r∈allR out,g' r.1 r.2.1=r.2.2):Gm bx nx g' T ps seen out fin:=by
 induction h with
 | nil=>exact .nil
 | skip h _ ih=>exact .skip h (ih e)
 | play h t _ ih =>
  refine .play h (t.agree fun r hr=>e r ?_) (ih fun r hr=>e r ?_)
  ·rw[allR,List.flatMap_cons];exact List.mem_append_left _ hr
  ·rw[allR,List.flatMap_cons];exact List.mem_append_right _ hr
theorem Gm.det {T:Nat->τ}{ps:List Nat}{seen fin fin':List (Option Nat)}{out out':List (Nat×List Rv)}(h:Gm bx nx g T ps seen out fin) (h':Gm bx nx g T ps seen out' fin'):out=out'/\fin=fin':=by
 induction h generalizing out' fin' with
 | nil=>cases h';exact⟨rfl,rfl⟩
 | skip h _ ih =>
  cases h' with
  | skip _ q=>exact ih q
  | play n=>exact absurd h n
 | play n t _ ih =>
  cases h' with
  | skip h=>exact absurd h n
  | play _ t' q =>
   obtain⟨e1,e2⟩:=t.det t'
   subst e1 e2
   obtain⟨e3,e4⟩:=ih q
   exact⟨by rw[e3],e4⟩
structure Gv (seen fin:List (Option Nat)) (out:List (Nat×List Rv)):Prop where
 keep:∀(i x:Nat),seen[i]?=some (some x)->fin[i]?=some (some x)
 shown:∀r∈allR out,fin[r.1]?=some (some r.2.2)
 val:∀r∈allR out,g r.1 r.2.1=r.2.2
 chn:∀z∈out,Chn z.1 z.1 z.2
theorem gD {J:List (Option Nat)->List Nat->Prop}(hJ:Or n J g){T:Nat->τ}{R:Nat->Nat->Prop}(hT:∀p,p<n->∃d,d<=n/\Tk bx nx n d (T p)) (rr:∀p,R p p):∀(ps:List Nat){seen:List (Option Nat)}{used:List Nat},(∀p∈ps,p<n)->ps.Pairwise R->Sd n seen used->J seen used->(∀y,y<n->some y∈seen\/y∈ps) ->
  ∃out fin,Gm bx nx g T ps seen out fin/\Sd n fin ((las (allR out)).reverse++used)/\J fin ((las (allR out)).reverse++used)/\Gv (g:=g) seen fin out/\(∀z∈out,z.1<n/\∀r∈z.2,R z.1 r.2.1)/\∀y,y<n->some y∈fin
 | [],seen,used,hp,pw,S,j,al=>⟨[],seen,.nil,S,j,⟨fun _ _ e=>e,fun r hr=>(nomatch hr),fun r hr=>(nomatch hr),fun z hz=>(nomatch hz)⟩,fun z hz=>(nomatch hz),fun y hy=>(al y hy).elim id fun h=>(nomatch h)⟩
 | p::ps,seen,used,hp,pw,S,j,al=>by
  obtain⟨pw1,pw2⟩:=List.pairwise_cons.mp pw
  have hpn:=hp p List.mem_cons_self
  by_cases h:some p∈seen
  ·obtain⟨out,fin,h1,h2,h3,h4,h5,h6⟩:=gD hJ hT rr ps (fun q hq=>hp q (List.mem_cons_of_mem _ hq)) pw2 S j fun y hy=>(al y hy).elim .inl fun z=>by
    rcases List.mem_cons.mp z with rfl | z
    ·exact .inl h
    ·exact .inr z
   exact⟨out,fin,.skip h h1,h2,h3,h4,h5,h6⟩
  ·obtain⟨d,hd,Tp⟩:=hT p hpn
   obtain⟨k,rs,mid,t1,t2,t3,t4,t5,t6,t7⟩:=hV hJ (d+n) d (p:=p) (l:=p) (t:=T p) (seen:=seen) (used:=used) (by bv_omega) (S.md hpn h) j Tp
   obtain⟨out,fin,h1,h2,h3,h4,h5,h6⟩:=gD hJ hT rr ps (fun q hq=>hp q (List.mem_cons_of_mem _ hq)) pw2 t3 t4 fun y hy=>(al y hy).elim (fun z=>by
    obtain⟨i,hi,e⟩:=List.getElem_of_mem z
    exact .inl (List.mem_of_getElem? (t6.keep i y (by rw[List.getElem?_eq_getElem hi,e])))) fun z=>by
    rcases List.mem_cons.mp z with rfl | z
    ·exact .inl t7
    ·exact .inr z
   have ea:allR ((p,rs)::out)=rs++allR out:=by rw[allR,List.flatMap_cons]
   have eu:(las (allR ((p,rs)::out))).reverse++used=(las (allR out)).reverse++((las rs).reverse++used):=by rw[ea,las,List.map_append,List.reverse_append,List.append_assoc]
   refine⟨(p,rs)::out,fin,.play h t1 h1,by rw[eu];exact h2,by rw[eu];exact h3,⟨fun i x e=>h4.keep i x (t6.keep i x e),fun r hr => ?_,fun r hr => ?_,fun z hz => ?_⟩,fun z hz => ?_,h6⟩
   ·rw[ea] at hr
    rcases List.mem_append.mp hr with hr | hr
    ·exact h4.keep _ _ (t6.shown r hr)
    ·exact h4.shown r hr
   ·rw[ea] at hr
    rcases List.mem_append.mp hr with hr | hr
    ·exact t6.val r hr
    ·exact h4.val r hr
   ·rcases List.mem_cons.mp hz with rfl | hz
    ·exact t5
    ·exact h4.chn z hz
   ·rcases List.mem_cons.mp hz with rfl | hz
    ·refine⟨hpn,fun r hr => ?_⟩
     have un:r.2.1∉used:=fun z=>by
      have:=t3.und
      rw[List.nodup_append] at this
      exact this.2.2 r.2.1 (List.mem_reverse.mpr (List.mem_map.mpr ⟨r,hr,rfl⟩)) r.2.1 z rfl
     have ns:some r.2.1∉seen:=fun z=>un ((S.rel _).mpr z)
     have lt:r.2.1<n:=by
      have m:r.2.1∈(las rs).reverse++used:=List.mem_append_left _ (List.mem_reverse.mpr (List.mem_map.mpr ⟨r,hr,rfl⟩))
      obtain⟨i,hi,e⟩:=List.getElem_of_mem ((t3.rel _).mp m)
      exact t3.lt i _ (by rw[List.getElem?_eq_getElem hi,e])
     rcases (al _ lt).resolve_left ns |> List.mem_cons.mp with e | e
     ·show R p r.2.1
      rw[e];exact rr p
     ·exact pw1 _ e
    ·exact h5 z hz
end
theorem yR9 (n:Nat):Sd n (List.replicate n none) [] where
 len:=List.length_replicate
 inj:=fun i j x h=>by rw[List.getElem?_replicate] at h;split at h <;> cases h
 lt:=fun i x h=>by rw[List.getElem?_replicate] at h;split at h <;> cases h
 und:=List.nodup_nil
 rel:=fun y=>⟨fun h=>(nomatch h),fun h=>by have:=List.eq_of_mem_replicate h;cases this⟩
theorem yQ4 {n:Nat}{xs:List Int}(o:Ord n xs):Or n (fun seen _=>∀(i x:Nat),seen[i]?=some (some x)->nxt xs i=x) fun b _=>nxt xs b:=fun seen used b l j hl hb _ _=>by
 have hbn:b<n:=by rw[<-hl];exact (List.getElem?_eq_some_iff.mp hb).1
 refine⟨o.yJ hbn,fun h => ?_,fun i x e => ?_⟩
 ·obtain⟨i,hi,e⟩:=List.getElem_of_mem h
  have e':seen[i]?=some (some (nxt xs b)):=by rw[List.getElem?_eq_getElem hi,e]
  have:=o.qQ (by rw[<-hl];exact hi) hbn (j i _ e')
  rw[this,hb] at e'
  cases e'
 ·rw[zD (by rw[hl];exact hbn)] at e
  split at e
  ·rename_i h
   cases e
   rw[h]
  ·exact j i x e
theorem cZ {α β:Type}{f:α->β}:∀{L:List α},(L.map f).Nodup->∀{a b:α},a∈L->b∈L->f a=f b->a=b
 | [],_,a,_,ha,_,_=>nomatch ha
 | c::L,h,a,b,ha,hb,e=>by
  obtain⟨h1,h2⟩:=List.nodup_cons.mp h
  rcases List.mem_cons.mp ha with rfl | ha'
  ·rcases List.mem_cons.mp hb with rfl | hb'
   ·rfl
   ·exact absurd (e▸List.mem_map_of_mem hb') h1
  ·rcases List.mem_cons.mp hb with rfl | hb'
   ·exact absurd (e▸List.mem_map_of_mem ha') h1
   ·exact cZ h2 ha' hb' e
def nats (f:Nat->Nat) (n:Nat):List Int:=(List.range n).map fun i=>((f i:Nat):Int)
theorem yT1 {f:Nat->Nat}{n i:Nat}(h:i<n):nxt (nats f n) i=f i:=by
 unfold nxt nats
 rw[List.getD,List.getElem?_map,List.getElem?_range h]
 simp
theorem yS5 {f:Nat->Nat}{n:Nat}(h:∀i,i<n->f i<n) (hi:∀i j,i<n->j<n->f i=f j->i=j):Ord n (nats f n):=by
 have g:∀i,i<n->(nats f n).getD i 0=((f i:Nat):Int):=fun i hi=>by
  unfold nats
  rw[List.getD,List.getElem?_map,List.getElem?_range hi]
  rfl
 refine⟨by unfold nats;simp,fun i hi' => ?_,fun i j h1 h2 e => ?_⟩
 ·rw[g i hi']
  have:=h i hi'
  bv_omega
 ·rw[g i h1,g j h2] at e
  exact hi i j h1 h2 (by bv_omega)
def full (xs:List Int) (n:Nat):List (Option Nat):=(List.range n).map fun i=>some (nxt xs i)
section
variable {τ:Type}{bx:τ->Option Nat}{nx:τ->Nat->τ}{n:Nat}
structure Wr (bx:τ->Option Nat) (nx:τ->Nat->τ) (n:Nat) (T:Nat->τ) (R:Nat->Nat->Prop) (ps:List Nat) (xs ys:List Int) (out:List (Nat×List Rv)):Prop where
 ord:Ord n xs
 wrt:Ord n ys
 gm:Gm bx nx (fun b _=>nxt xs b) T ps (List.replicate n none) out (full xs n)
 gr:Gm bx nx (fun _ l=>nxt ys l) T ps (List.replicate n none) out (full xs n)
 val:∀r∈allR out,nxt xs r.1=r.2.2/\nxt ys r.2.1=r.2.2/\r.1<n
 chn:∀z∈out,Chn z.1 z.1 z.2/\z.1<n/\∀r∈z.2,R z.1 r.2.1
 all:∀y,y<n->∃z∈out,∃r∈z.2,r.2.1=y
 box:∀b,b<n->∃z∈out,∃r∈z.2,r.1=b
theorem yW8 {xs:List Int}{fin:List (Option Nat)}(hl:fin.length=n) (h:∀i,i<n->fin[i]?=some (some (nxt xs i))):fin=full xs n:=by
 refine List.ext_getElem? fun i => ?_
 unfold full
 by_cases hi:i<n
 ·rw[h i hi,List.getElem?_map,List.getElem?_range hi]
  rfl
 ·rw[List.getElem?_eq_none (by bv_omega),List.getElem?_eq_none (by simp;bv_omega)]
theorem Sd.open' {fin:List (Option Nat)}{used:List Nat}(S:Sd n fin used) (h:∀y,y<n->some y∈fin):∀i,i<n->∃x,fin[i]?=some (some x)/\x<n:=by
 have w:∀y,∃i,y<n->(i<n/\fin[i]?=some (some y)):=fun y=>by
  by_cases hy:y<n
  ·obtain⟨i,hi,e⟩:=List.getElem_of_mem (h y hy)
   exact⟨i,fun _=>⟨by rw[<-S.len];exact hi,by rw[List.getElem?_eq_getElem hi,e]⟩⟩
  ·exact⟨0,fun z=>absurd z hy⟩
 have sp:=fun y hy=>Classical.choose_spec (w y) hy
 intro i hi
 obtain⟨y,hy,e⟩:=MR.onto (n:=n) (f:=fun y=>Classical.choose (w y)) (fun y hy=>(sp y hy).1) (fun y z hy hz e=>by
  have a:=(sp y hy).2
  have b:=(sp z hz).2
  have e':Classical.choose (w y)=Classical.choose (w z):=e
  rw[e',b] at a
  have:z=y:=by simpa using a
  exact this.symm) hi
 have e':Classical.choose (w y)=i:=e
 exact⟨y,by rw[<-e'];exact (sp y hy).2,hy⟩
theorem yK6 {out:List (Nat×List Rv)}{y:Nat}(h:y∈las (allR out)):∃z∈out,∃r∈z.2,r.2.1=y:=by
 obtain⟨r,hr,e⟩:=List.mem_map.mp h
 obtain⟨z,hz,hr⟩:=List.mem_flatMap.mp hr
 exact⟨z,hz,r,hr,e⟩
theorem zF9 {g:Nat->Nat->Nat}{T:Nat->τ}{ps:List Nat}{seen fin:List (Option Nat)}{out:List (Nat×List Rv)}(h:Gm bx nx g T ps seen out fin):∀(i x:Nat),fin[i]?=some (some x)->seen[i]?=some (some x)\/∃r∈allR out,r.1=i:=by
 have turn:∀{p k:Nat}{t:τ}{l:Nat}{seen out:List (Option Nat)}{rs:List Rv},Tn bx nx g p k t l seen rs out->∀(i x:Nat),out[i]?=some (some x)->seen[i]?=some (some x)\/∃r∈rs,r.1=i:=by
  intro p k t l seen out rs h
  have st:∀{seen:List (Option Nat)}{b v i x:Nat},seen[b]?=some none->(seen.set b (some v))[i]?=some (some x)->seen[i]?=some (some x)\/b=i:=fun {seen b v i x} hb e=>by
   rw[zD (List.getElem?_eq_some_iff.mp hb).1] at e
   split at e
   ·rename_i z;exact .inr z.symm
   ·exact .inl e
  induction h with
  | done _=>exact fun i x e=>.inl e
  | leafN _ _ h3 _ _ ih =>
   intro i x e
   rcases ih i x e with q | ⟨r,hr,q⟩
   ·rcases st h3 q with q | q
    ·exact .inl q
    ·exact .inr ⟨_,List.mem_cons_self,q⟩
   ·exact .inr ⟨r,List.mem_cons_of_mem _ hr,q⟩
  | nodeN _ _ h3 _ ih =>
   intro i x e
   rcases ih i x e with q | ⟨r,hr,q⟩
   ·rcases st h3 q with q | q
    ·exact .inl q
    ·exact .inr ⟨_,List.mem_cons_self,q⟩
   ·exact .inr ⟨r,List.mem_cons_of_mem _ hr,q⟩
  | nodeO _ _ _ _ ih=>exact ih
 induction h with
 | nil=>exact fun i x e=>.inl e
 | skip _ _ ih=>exact ih
 | play _ t _ ih =>
  intro i x e
  rcases ih i x e with q | ⟨r,hr,q⟩
  ·rcases turn t i x q with q | ⟨r,hr,q⟩
   ·exact .inl q
   ·exact .inr ⟨r,by rw[allR,List.flatMap_cons];exact List.mem_append_left _ hr,q⟩
  ·exact .inr ⟨r,by rw[allR,List.flatMap_cons];exact List.mem_append_right _ hr,q⟩
theorem zG5 {T:Nat->τ}{R:Nat->Nat->Prop}{ps:List Nat}{xs:List Int}(o:Ord n xs) (hT:∀p,p<n->∃d,d<=n/\Tk bx nx n d (T p)) (rr:∀p,R p p) (hp:∀p∈ps,p<n) (pw:ps.Pairwise R) (al:∀y,y<n->y∈ps):∃ys out,Wr bx nx n T R ps xs ys out:=by
 obtain⟨out,fin,h1,h2,h3,h4,h5,h6⟩:=gD (yQ4 o) hT rr ps hp pw (yR9 n) (fun i x h=>by rw[List.getElem?_replicate] at h;split at h <;> cases h) fun y hy=>.inr (al y hy)
 rw[List.append_nil] at h2
 have op:=h2.open' h6
 have ef:fin=full xs n:=yW8 h2.len fun i hi=>by
  obtain⟨x,e,_⟩:=op i hi
  rw[e,h3 i x e]
 subst ef
 have nd:(las (allR out)).Nodup:=(List.reverse_perm _).nodup_iff.mp h2.und
 have al':∀y,y<n->∃z∈out,∃r∈z.2,r.2.1=y:=fun y hy=>yK6 (List.mem_reverse.mp ((h2.rel y).mpr (h6 y hy)))
 have bl:∀r∈allR out,r.1<n:=fun r hr=>by
  have:=h4.shown r hr
  have hl:=(List.getElem?_eq_some_iff.mp this).1
  rw[h2.len] at hl
  exact hl
 have w:∀y,∃x,y<n->∃r∈allR out,r.2.1=y/\r.2.2=x:=fun y=>by
  by_cases hy:y<n
  ·obtain⟨z,hz,r,hr,e⟩:=al' y hy
   exact⟨r.2.2,fun _=>⟨r,List.mem_flatMap.mpr ⟨z,hz,hr⟩,e,rfl⟩⟩
  ·exact⟨0,fun z=>absurd z hy⟩
 have sp:=fun y hy=>Classical.choose_spec (w y) hy
 have lt':∀r∈allR out,r.2.1<n:=fun r hr=>by
  have m:=(h2.rel r.2.1).mp (List.mem_reverse.mpr (List.mem_map.mpr ⟨r,hr,rfl⟩))
  obtain⟨i,hi,e⟩:=List.getElem_of_mem m
  exact h2.lt i _ (by rw[List.getElem?_eq_getElem hi,e])
 have vv:∀r∈allR out,Classical.choose (w r.2.1)=r.2.2:=fun r hr=>by
  obtain⟨r',hr',e1,e2⟩:=sp r.2.1 (lt' r hr)
  have:=cZ nd hr' hr e1
  rw[<-e2,this]
 have flt:∀y,y<n->Classical.choose (w y)<n:=fun y hy=>by
  obtain⟨r,hr,e1,e2⟩:=sp y hy
  rw[<-e2,<-h4.val r hr]
  exact o.yJ (bl r hr)
 have boxes:=zF9 h1
 have onto':∀x,x<n->∃y,y<n/\Classical.choose (w y)=x:=fun x hx=>by
  obtain⟨b,hb,eb⟩:=o.onto hx
  rcases boxes b x (by unfold full;rw[List.getElem?_map,List.getElem?_range hb,Option.map_some,eb]) with q | ⟨r,hr,q⟩
  ·rw[List.getElem?_replicate] at q;split at q <;> cases q
  ·refine⟨r.2.1,lt' r hr,?_⟩
   rw[vv r hr,<-h4.val r hr]
   show nxt xs r.1=x
   rw[q,eb]
 have finj:∀i j,i<n->j<n->Classical.choose (w i)=Classical.choose (w j)->i=j:=by
  have k:∀x,∃y,x<n->(y<n/\Classical.choose (w y)=x):=fun x=>by
   by_cases hx:x<n
   ·obtain⟨y,h⟩:=onto' x hx
    exact⟨y,fun _=>h⟩
   ·exact⟨0,fun z=>absurd z hx⟩
  have kp:=fun x hx=>Classical.choose_spec (k x) hx
  intro i j hi hj e
  obtain⟨a,ha,ea⟩:=MR.onto (n:=n) (f:=fun x=>Classical.choose (k x)) (fun x hx=>(kp x hx).1) (fun x z hx hz e=>by
   have e':Classical.choose (k x)=Classical.choose (k z):=e
   rw[<-(kp x hx).2,<-(kp z hz).2,e']) hi
  obtain⟨b,hb,eb⟩:=MR.onto (n:=n) (f:=fun x=>Classical.choose (k x)) (fun x hx=>(kp x hx).1) (fun x z hx hz e=>by
   have e':Classical.choose (k x)=Classical.choose (k z):=e
   rw[<-(kp x hx).2,<-(kp z hz).2,e']) hj
  have ea':Classical.choose (k a)=i:=ea
  have eb':Classical.choose (k b)=j:=eb
  have a2:=(kp a ha).2
  have b2:=(kp b hb).2
  rw[ea'] at a2
  rw[eb'] at b2
  rw[a2,b2] at e
  rw[<-ea',<-eb',e]
 have oy:Ord n (nats (fun y=>Classical.choose (w y)) n):=yS5 flt finj
 have vy:∀r∈allR out,nxt (nats (fun y=>Classical.choose (w y)) n) r.2.1=r.2.2:=fun r hr=>by rw[yT1 (lt' r hr),vv r hr]
 refine⟨_,out,o,oy,h1,h1.agree vy,fun r hr=>⟨h4.val r hr,vy r hr,bl r hr⟩,fun z hz=>⟨h4.chn z hz,h5 z hz⟩,al',fun b hb => ?_⟩
 rcases boxes b (nxt xs b) (by unfold full;rw[List.getElem?_map,List.getElem?_range hb,Option.map_some]) with q | ⟨r,hr,q⟩
 ·rw[List.getElem?_replicate] at q;split at q <;> cases q
 ·obtain⟨z,hz,hr⟩:=List.mem_flatMap.mp hr
  exact⟨z,hz,r,hr,q⟩
theorem Chn.round {ys:List Int}{p:Nat}{l:Nat}{rs:List Rv}(h:Chn p l rs) (v:∀r∈rs,nxt ys r.2.1=r.2.2):it ys rs.length l=p/\(∀i,1<=i->i<rs.length->it ys i l≠p)/\(∀r∈rs,∃k,it ys k l=r.2.1)/\1<=rs.length:=by
 induction h with
 | @last b l =>
  have:=v _ (List.mem_singleton.mpr rfl)
  simp only at this
  refine⟨?_,fun i h1 h2 => ?_,fun r hr=>⟨0,by rw[List.mem_singleton.mp hr];rfl⟩,Nat.le_refl _⟩
  ·show it ys 1 l=p
   rw[cR]
   exact this
  ·rw[List.length_singleton] at h2;bv_omega
 | @cons b l x rs xp _ ih =>
  have e:=v _ List.mem_cons_self
  simp only at e
  obtain⟨h1,h2,h3,h4⟩:=ih fun r hr=>v r (List.mem_cons_of_mem _ hr)
  refine⟨?_,fun i hi hi2 => ?_,fun r hr => ?_,by rw[List.length_cons];bv_omega⟩
  ·rw[List.length_cons,cR,e]
   exact h1
  ·obtain⟨j,rfl⟩:∃j,i=j+1:=⟨i-1,by bv_omega⟩
   rw[cR,e]
   rw[List.length_cons] at hi2
   by_cases z:j=0
   ·subst z;exact xp
   ·exact h2 j (by bv_omega) (by bv_omega)
  ·rcases List.mem_cons.mp hr with rfl | hr
   ·exact⟨0,rfl⟩
   ·obtain⟨k,ek⟩:=h3 r hr
    exact⟨k+1,by rw[cR,e];exact ek⟩
theorem Wr.pers {T:Nat->τ}{R:Nat->Nat->Prop}{ps:List Nat}{xs ys:List Int}{out:List (Nat×List Rv)}(w:Wr bx nx n T R ps xs ys out):(∀z∈out,per n ys z.1=z.2.length)/\∀q,q<n->∃z∈out,per n ys q=z.2.length/\R z.1 q:=by
 have a:∀z∈out,per n ys z.1=z.2.length/\∀r∈z.2,∃k,it ys k z.1=r.2.1:=fun z hz=>by
  obtain⟨c,zn,_⟩:=w.chn z hz
  obtain⟨h1,h2,h3,h4⟩:=c.round fun r hr=>(w.val r (List.mem_flatMap.mpr ⟨z,hz,hr⟩)).2.1
  obtain⟨p1,p2,p3,p4⟩:=w.wrt.wB zn
  refine⟨?_,h3⟩
  rcases Nat.lt_trichotomy (MR.per n ys z.1) z.2.length with q | q | q
  ·exact absurd p3 (h2 _ p1 q)
  ·exact q
  ·exact absurd h1 (p4 _ h4 q)
 refine⟨fun z hz=>(a z hz).1,fun q hq => ?_⟩
 obtain⟨z,hz,r,hr,e⟩:=w.all q hq
 obtain⟨c,zn,rl⟩:=w.chn z hz
 obtain⟨k,ek⟩:=(a z hz).2 r hr
 have inn:In n ys z.1 q:=by rw[<-e,<-ek];exact w.wrt.xS2 zn k
 refine⟨z,hz,?_,by rw[<-e];exact rl r hr⟩
 rw[w.wrt.yW9 zn inn]
 exact (a z hz).1
inductive Dn (bx:τ->Option Nat) (nx:τ->Nat->τ) (xs:List Int):τ->List Nat->Prop
 | leaf {t:τ}:bx t=none->Dn bx nx xs t []
 | node {t:τ}{b:Nat}{ws:List Nat}:bx t=some b->Dn bx nx xs (nx t (nxt xs b)) ws->Dn bx nx xs t (b::ws)
theorem aQ {α:Type} [DecidableEq α]:∀{A B:List α},A.Nodup->(∀a∈A,a∈B)->A.length<=B.length
 | [],_,_,_=>Nat.zero_le _
 | a::A,B,h,hs=>by
  obtain⟨h1,h2⟩:=List.nodup_cons.mp h
  have ha:=hs a List.mem_cons_self
  have:=aQ (A:=A) (B:=B.erase a) h2 fun b hb=>(List.mem_erase_of_ne (show b≠a from fun z=>h1 (by rw[<-z];exact hb))).mpr (hs b (List.mem_cons_of_mem _ hb))
  rw[List.length_erase_of_mem ha] at this
  have:0<B.length:=List.length_pos_of_mem ha
  rw[List.length_cons]
  bv_omega
end
end MR
namespace MR
open PySem PySem.W
def kasRun {α:Type}(lt:Nat->Nat->Bool):KasT α->α
 | .ret a=>a
 | .ask i j k=>kasRun lt (k (lt i j))
def kasIn {α:Type}(n:Nat) (lt:Nat->Nat->Bool):KasT α->Bool
 | .ret _=>true
 | .ask i j k=>decide (i<n)&&(decide (j<n)&&kasIn n lt (k (lt i j)))
theorem zY2 {α:Type}{n:Nat}{lt lt':Nat->Nat->Bool}(e:∀i j,i<n->j<n->lt i j=lt' i j):∀t:KasT α,kasIn n lt t=true->kasRun lt' t=kasRun lt t/\kasIn n lt' t=true
 | .ret a,_=>⟨rfl,rfl⟩
 | .ask i j k,h=>by
  rw[kasIn,Bool.and_eq_true,Bool.and_eq_true,decide_eq_true_iff,decide_eq_true_iff] at h
  obtain⟨h1,h2,h3⟩:=h
  obtain⟨a,b⟩:=zY2 e (k (lt i j)) h3
  have q:=e i j h1 h2
  rw[kasRun,kasRun,kasIn,<-q]
  exact⟨a,by rw[decide_eq_true h1,decide_eq_true h2,Bool.true_and,Bool.true_and];exact b⟩
def kasOk (n:Nat) (r:List Int):Bool:=kasIn n (fun i j=>decide (r.getD i 0<r.getD j 0)) (kas_sort n)&&((kasRun (fun i j=>decide (r.getD i 0<r.getD j 0)) (kas_sort n)).toList.map (fun i=>r.getD i 0) == rg n&&(kasRun (fun i j=>decide (r.getD i 0<r.getD j 0)) (kas_sort n)).toList.all fun i=>decide (i<n))
theorem xR5:(allO 2).all (kasOk 2)=true:=by decide +kernel
theorem xT5:(allO 3).all (kasOk 3)=true:=by decide +kernel
theorem xU5:(allO 4).all (kasOk 4)=true:=by decide +kernel
theorem xR3:(allO 5).all (kasOk 5)=true:=by decide +kernel
theorem xQ1:(allO 6).all (kasOk 6)=true:=by decide +kernel
theorem yH2 {n:Nat}(h2:2<=n) (h6:n<=6){r:List Int}(o:Ord n r):kasOk n r=true:=by
 have m:=((yH8 (n:=n) (by bv_omega) (by bv_omega)).mem r).mpr o
 rcases (show n=2\/n=3\/n=4\/n=5\/n=6 by bv_omega) with rfl | rfl | rfl | rfl | rfl
 ·exact List.all_eq_true.mp xR5 r m
 ·exact List.all_eq_true.mp xT5 r m
 ·exact List.all_eq_true.mp xU5 r m
 ·exact List.all_eq_true.mp xR3 r m
 ·exact List.all_eq_true.mp xQ1 r m
def rkN (n:Nat) (κ:Nat->Int) (i:Nat):Nat:=(List.range n).countP fun j=>decide (κ j<κ i)
theorem dD {n:Nat}{κ:Nat->Int}{i j:Nat}(hi:i<n) (h:κ i<κ j):rkN n κ i<rkN n κ j:=by
 unfold rkN
 have sub:∀l:List Nat,i∈l->(l.countP fun x=>decide (κ x<κ i))<l.countP fun x=>decide (κ x<κ j):=by
  intro l
  have le:∀l:List Nat,(l.countP fun x=>decide (κ x<κ i))<=l.countP fun x=>decide (κ x<κ j):=fun l=>List.countP_mono_left fun x _ hx=>decide_eq_true (by have:=of_decide_eq_true hx;bv_omega)
  induction l with
  | nil=>exact fun h=>nomatch h
  | cons a l ih =>
   intro hm
   rw[List.countP_cons,List.countP_cons]
   rcases List.mem_cons.mp hm with rfl | hm
   ·rw[if_neg (show ¬decide (κ i<κ i)=true by simp),if_pos (decide_eq_true h)]
    have:=le l
    bv_omega
   ·have:=ih hm
    by_cases c:κ a<κ i
    ·rw[if_pos (decide_eq_true c),if_pos (decide_eq_true (show κ a<κ j by bv_omega))]
     bv_omega
    ·rw[if_neg (show ¬decide (κ a<κ i)=true by simpa using c)]
     split <;> bv_omega
 exact sub _ (List.mem_range.mpr hi)
theorem zO6 {n:Nat}{κ:Nat->Int}(inj:∀i j,i<n->j<n->κ i=κ j->i=j){i j:Nat}(hi:i<n) (hj:j<n):rkN n κ i<rkN n κ j↔κ i<κ j:=by
 constructor
 ·intro h
  rcases Int.lt_trichotomy (κ i) (κ j) with z | z | z
  ·exact z
  ·have:=inj i j hi hj z
   subst this
   bv_omega
  ·have:=dD hj z
   bv_omega
 ·exact dD hi
theorem yO7 {n:Nat}{κ:Nat->Int}{i:Nat}(hi:i<n):rkN n κ i<n:=by
 have h1:∀l:List Nat,i∈l->(l.countP fun x=>decide (κ x<κ i))<l.length:=by
  intro l hm
  rcases Nat.lt_or_ge (l.countP fun x=>decide (κ x<κ i)) l.length with z | z
  ·exact z
  ·have e:=List.countP_eq_length.mp (Nat.le_antisymm List.countP_le_length z) i hm
   have:=of_decide_eq_true e
   bv_omega
 have:=h1 (List.range n) (List.mem_range.mpr hi)
 rw[List.length_range] at this
 exact this
def byK (n:Nat) (κ:Nat->Int):List Nat:=(kasRun (fun i j=>decide (κ i<κ j)) (kas_sort n)).toList
theorem zE5 {n:Nat}{κ:Nat->Int}(h2:2<=n) (h6:n<=6) (inj:∀i j,i<n->j<n->κ i=κ j->i=j):kasIn n (fun i j=>decide (κ i<κ j)) (kas_sort n)=true/\(byK n κ).Perm (List.range n)/\(byK n κ).Pairwise fun a b=>κ a<κ b:=by
 have rin:∀i j,i<n->j<n->rkN n κ i=rkN n κ j->i=j:=fun i j hi hj e=>by
  rcases Int.lt_trichotomy (κ i) (κ j) with z | z | z
  ·have:=dD hi z;bv_omega
  ·exact inj i j hi hj z
  ·have:=dD hj z;bv_omega
 have o:Ord n (ofN n (rkN n κ)):=zP2 (fun p h=>yO7 h) rin
 have at_:∀i,i<n->(ofN n (rkN n κ)).getD i 0=((rkN n κ i:Nat):Int):=fun i hi=>by rw[o.vM hi,zN6 hi]
 have k:=yH2 h2 h6 o
 unfold kasOk at k
 rw[Bool.and_eq_true,Bool.and_eq_true] at k
 obtain⟨k1,k2,k3⟩:=k
 have ag:∀i j,i<n->j<n->(fun i j=>decide ((ofN n (rkN n κ)).getD i 0<(ofN n (rkN n κ)).getD j 0)) i j=(fun i j=>decide (κ i<κ j)) i j:=fun i j hi hj=>by
  show decide _=decide _
  rw[at_ i hi,at_ j hj]
  refine decide_eq_decide.mpr ?_
  rw[<-zO6 inj hi hj]
  bv_omega
 obtain⟨e1,e2⟩:=zY2 ag _ k1
 rw[<-e1] at k2 k3
 have k2:=eq_of_beq k2
 have lt:∀i∈byK n κ,i<n:=fun i hi=>of_decide_eq_true (List.all_eq_true.mp k3 i hi)
 have mp:(byK n κ).map (rkN n κ)=List.range n:=by
  have e:(byK n κ).map (fun i=>(ofN n (rkN n κ)).getD i 0)=((byK n κ).map (rkN n κ)).map fun (b:Nat)=>(b:Int):=by
   rw[List.map_map]
   exact List.map_congr_left fun i hi=>at_ i (lt i hi)
  have k2':(byK n κ).map (fun i=>(ofN n (rkN n κ)).getD i 0)=rg n:=k2
  rw[e] at k2'
  exact List.map_inj_right (fun a b h=>Int.ofNat_inj.mp h) |>.mp k2'
 refine⟨e2,?_,?_⟩
 ·have nd:(byK n κ).Nodup:=by
   have:((byK n κ).map (rkN n κ)).Nodup:=by rw[mp];exact List.nodup_range
   exact List.Pairwise.of_map (rkN n κ) (fun a b h e=>h (by rw[e])) this
  have ln:(byK n κ).length=n:=by
   have:=congrArg List.length mp
   rw[List.length_map,List.length_range] at this
   exact this
  rw[List.perm_ext_iff_of_nodup nd List.nodup_range]
  intro a
  rw[List.mem_range]
  refine⟨lt a,fun ha => ?_⟩
  have:rkN n κ a∈(byK n κ).map (rkN n κ):=by rw[mp];exact List.mem_range.mpr (yO7 ha)
  obtain⟨b,hb,e⟩:=List.mem_map.mp this
  rw[<-rin b a (lt b hb) ha e]
  exact hb
 ·have pw:((byK n κ).map (rkN n κ)).Pairwise (· < ·):=by rw[mp];exact List.pairwise_lt_range
  rw[List.pairwise_map] at pw
  exact pw.imp_of_mem fun {a b} ha hb h=>(zO6 inj (lt a ha) (lt b hb)).mp h
theorem yZ5 {α:Type}{n:Nat}{cmp:Nat->Nat->(Bool->Shared->Prop)->Shared->Prop}{J:Shared->Prop}{lt:Nat->Nat->Bool}(h:∀(i j:Nat) (C:Bool->Shared->Prop) (s:Shared),i<n->j<n->J s->(∀s',J s'->C (lt i j) s')->cmp i j C s):∀(t:KasT α) (Q:α->Shared->Prop) (s:Shared),kasIn n lt t=true->J s->(∀s',J s'->Q (kasRun lt t) s')->t.kasWp cmp Q s
 | .ret a,Q,s,_,js,q=>q s js
 | .ask i j k,Q,s,hin,js,q=>by
  rw[kasIn,Bool.and_eq_true,Bool.and_eq_true,decide_eq_true_iff,decide_eq_true_iff] at hin
  exact h i j _ s hin.1 hin.2.1 js fun s' js'=>yZ5 h (k (lt i j)) Q s' hin.2.2 js' q
end MR
namespace L2.L3
open PySem PySem.Spec PyProof.Rows MR
variable [CN]
section
variable {P:Program}{w:World}{K:KFr}{mg:Str->Option Value}{base:Heap}{CX:CXT}{k:Nat}{f:Addr}{fd:FuncData}{ps:List Str}
theorem zK8 {sp:Sp}(F:FnOk P w K mg base CX0 k f fd ps sp):FnOk P w K mg base CX k f fd ps sp :=
 ⟨F.len,fun A outer s H args us vs Q E hr he hb hv hs=>codeAny_mono (F.run A outer s H args us vs Q E hr he hb hv hs) fun r s' h=>by
  cases r with
  | ok fl =>
   cases fl with
   | ret u=>exact h
   | _=>exact h
  | error e=>exact h.elim⟩
theorem zF2 {F:List D->Res D}{fr:Bool}(no:∀ds c,F ds ≠ .ex c) (G:FnOk P w K mg base CX0 k f fd ps (spF fr F)):FnOk P w K mg base CX k f fd ps (spX fr F) :=
 (zK8 G).imp fun vs H Q E h=>by
  obtain⟨ds,O,oh,r,q⟩:=h
  refine⟨ds,O,oh,r,?_⟩
  cases e:F ds with
  | ok d=>rw[e] at q;exact q
  | no=>rw[e] at q;exact q
  | ex c=>exact absurd e (no ds c)
end
theorem zW1 {C:Ct}{k:Nat}{f:Addr}{fd:FuncData}{ps:List Str}{x:Str}{p pos lpos:Pos}{e e2:Expr}{me me2:Ev->Res D}{md:Md}{st:Stmt}(G:FnOk C.X.prog C.X.w C.X.K C.X.mg C.X.base (CXV C.X.prog C.X.w) k f fd ps spOrd) (hh:Has C.X.K C.X.mg x st f fd ps) (hr:Room k C.X.A) (hb:Br C)
  (h1:RE C .cl e me) (h2:RE C md e2 me2) (hg:autoParam (Gl C.X x) zY._auto_1) (hdb:autoParam ((x == ("__debug__":Str))=false) zK._auto_1) (hs1:autoParam (starEach [e] C.X.env=(false,eval e C.X.env)::starEach [] C.X.env) zY._auto_1) (hs2:autoParam (starEach [e2] C.X.env=(false,eval e2 C.X.env)::starEach [] C.X.env) zY._auto_1)
  (he:autoParam (starEach [.List [e] lpos,e2] C.X.env=(false,eval (.List [e] lpos) C.X.env)::starEach [e2] C.X.env) zY._auto_1) (hpl:autoParam ((backTo pos (starEach [e2] C.X.env)).any (·.1)=false) zY._auto_1) :
  RE C .cl (.Call (.Name x p) [.List [e] lpos,e2] [] pos) (eF ordF (aC me (aC me2 aN))):=by
 obtain⟨t1,p1,q1⟩:=h1
 obtain⟨t2,p2,q2⟩:=h2
 exact⟨_,yP G hr hg hh.m hh.F.kp hh.b .nil (passX hb) (zU (xV (zU p1 zO hs1)) (zU p2 zO hs2) he) hdb he hpl,fun Oc Ob σ H ρ Q R h=>yY8 q1 q2 R h⟩
end L2.L3
namespace L2
open PySem PySem.Spec PyProof.Rows
def LamAt (H:Hp) (f:Addr) (q:Str) (ps:Arguments) (e:Expr) (sc:Scope) (cl:List (Str×Addr)):Prop :=
 ∃(c':Addr) (ctv pm:Value) (oc:Obj) (u v:HO) (vs:Array Value) (t:Tok),H f=some (.frz (PySem.W.kla_obj "<lambda>" q ps e sc cl pm c' ctv) v)/\H c'=some (.frz oc u)/\oc.data=.fields vs/\vs[1]?=some (.str q t)
def Ext (H H':Hp):Prop:=∀b o,H b=some o->H' b=some o
theorem Ext.refl (H:Hp):Ext H H:=fun _ _ e=>e
theorem Ext.trans {H H1 H2:Hp}(a:Ext H H1) (b:Ext H1 H2):Ext H H2:=fun x o e=>b x o (a x o e)
theorem Ext.new {H:Hp}{a:Addr}{o:HO}(h:H a=none):Ext H (upd H a o):=fun b u e=>by rw[zX (zE e h)];exact e
theorem LamAt.ext {H H':Hp}{f:Addr}{q:Str}{ps:Arguments}{e:Expr}{sc:Scope}{cl:List (Str×Addr)}(x:LamAt H f q ps e sc cl) (k:Ext H H'):LamAt H' f q ps e sc cl:=by
 obtain⟨c',ctv,pm,oc,u,v,vs,t,h1,h2,h3⟩:=x
 exact⟨c',ctv,pm,oc,u,v,vs,t,k _ _ h1,k _ _ h2,h3⟩
def tLam (q:Str) (ps:Arguments) (e:Expr) (sc:Scope) (cl:List (Str×Addr)):TE:=fun _ H Q=>∀f H1,LamAt H1 f q ps e sc cl->Ext H H1->H f=none->Q (.ref f) H1
theorem apartBy {α:Type}{φ:Obj->α}{h:Heap}{a b:Addr}{x y:Obj}(ex:h.get? a=some x) (ey:h.get? b=some y) (n:φ x≠φ y):a≠b:=fun z=>n (by rw[<-z,ex] at ey;exact congrArg φ (Option.some.inj ey))
theorem zB8 {pos pos':Pos}{c cv:Value}:∀(l:List Value),TriplesOk l->codeAmong pos' (l ++ [rawInt pos.line,rawInt pos.col,c])=some cv->codeAmong pos' l=some cv\/cv=c:=fun l t z=>by
 fun_induction TriplesOk l with
 | case1 =>
  right
  simp only[List.nil_append,codeAmong,rawInt] at z
  split at z
  ·exact (Option.some.inj z).symm
  ·cases z
 | case2 a t' b u y r ih =>
  simp only[List.cons_append,codeAmong] at z ⊢
  split
  ·rename_i hc;rw[if_pos hc] at z;exact .inl z
  ·rename_i hc;rw[if_neg hc] at z;exact ih t z
 | case3 l h1 h2=>exact t.elim
section
variable {X:Cx}{pins:List (Addr×Obj)}{σ:St}{H:Hp}{s:Shared}
theorem Inv.lam {h':Heap}{tk:Nat}{P c':Addr}{q:Str}{oc fo:Obj}(hfo:fo.isFreed=false) (I:Inv X pins σ H s) (hP:H P=some (.tbl q)) (hx:Heap.ExtBut P s.heap h') (hc:s.heap.objs.size<=c') (hlt:c'<h'.objs.size) (hoc:h'.get? c'=some oc)
  (new:ObjOk X.prog X.w (upd H c' (.frz oc (.own c'))) h' P (.tbl q)):Inv X pins σ (upd (upd H c' (.frz oc (.own c'))) h'.objs.size (.frz fo (.own h'.objs.size))) { s with heap:=h'.push fo,toks:=tk }:=by
 have hs:s.heap.objs.size<=h'.objs.size:=Nat.le_of_lt (Nat.lt_of_le_of_lt hc hlt)
 have cn:H c'=none:=I.hok.fresh hc
 have fn:H h'.objs.size=none:=I.hok.fresh hs
 have cf:h'.objs.size≠c':=Nat.ne_of_gt hlt
 have fn2:(upd H c' (.frz oc (.own c'))) h'.objs.size=none:=by rw[zX cf];exact fn
 have e1:Ext H (upd (upd H c' (.frz oc (.own c'))) h'.objs.size (.frz fo (.own h'.objs.size))):=(Ext.new cn).trans (Ext.new fn2)
 have nP:∀b,H b=none->b≠P:=fun b n z=>by rw[z,hP] at n;cases n
 refine I.step (g':=s.gens) (d':=s.drawn) (ch:=[]) (fun _ z=>nomatch z) (fun b o _ _ _ e n=>Heap.get?_push_of_some _ (hx b o (nP b n) e)) (fun b o _ _ _ e n=>⟨o.slots,Heap.get?_push_of_some _ (hx b o (nP b n) e)⟩) (fun b o _ e n => ?_) (fun b o _ e => ?_)
  (fun b xs e=>e1 _ _ e) (fun b o xs e=>e1 _ _ e) (fun b q e=>e1 _ _ e) (fun m hm=>(hm.extBut hx (nP _ I.free)).push _) (fun b o e => ?_) I.bare
 ·have hb:=Heap.lt_size e
  rw[zX (Nat.ne_of_lt (Nat.lt_of_lt_of_le hb hs)),zX (Nat.ne_of_lt (Nat.lt_of_lt_of_le hb hc))]
  exact n
 ·by_cases hb:b=P
  ·subst hb
   obtain⟨ps,e',_⟩:=new
   exact⟨_,Heap.get?_push_of_some _ e'⟩
  ·exact⟨o,Heap.get?_push_of_some _ (hx b o hb e)⟩
 ·by_cases hb:b=h'.objs.size
  ·subst hb
   rw[zT] at e
   cases e
   exact⟨Heap.get?_push_size _ hfo,_,Heap.get?_push_size _ hfo⟩
  ·rw[zX hb] at e
   by_cases hb2:b=c'
   ·subst hb2
    rw[zT] at e
    cases e
    exact⟨Heap.get?_push_of_some _ hoc,_,Heap.get?_push_of_some _ hoc⟩
   ·have e0:=e
    rw[zX hb2] at e
    by_cases hb3:b=P
    ·subst hb3
     rw[hP] at e
     cases e
     exact new.stay (fun c v _ q=>Heap.get?_push_of_some _ q) (fun c q=>by rw[zX (zE q fn2)];exact q) (fun c _ q=>by rw[zX (zE q fn2)];exact q) fun c _ _ q=>by rw[zX (zE q fn2)];exact q
    ·refine (I.hok b o e).stay (fun c v hcc q=>Heap.get?_push_of_some _ (hx c v ?_ q)) (fun c q=>e1 _ _ q) (fun c xs q=>e1 _ _ q) fun c _ _ q=>e1 _ _ q
     rcases hcc with z | z
     ·rw[z];exact hb3
     ·rintro rfl;rw[hP] at z;cases z
theorem zB9 {ps:Arguments}{body:Expr}{sc:Scope}{pos:Pos}{x:Str}{c P:Addr}{cl:List (Str×Addr)}(hx:x∈tabNames) (ht:PySem.W.tabIn X.K x=some (c,P)) (hcode:X.env.code=.ref c) (hq:X.env.qual=x ++ ".<locals>.")
  (hdef:defaultsOf ps X.env=([],[])) (hcl:X.Ok->closureFor sc X.env=pure cl):PE X (.Lambda ps body sc pos) (tLam (lamQ x) ps body sc cl):=by
 intro pins s σ H Q I h
 have hP:=I.tb x hx c P ht
 have okP:=I.hok P _ hP
 obtain⟨pt,e1,tr,am⟩:=id okP
 have G:=I.mod.glob.keeps I.bk
 have CH:=(I.mod.tabs x hx c P ht).keeps I.bk
 obtain⟨og,_,_,gg,gd,_⟩:=id G
 obtain⟨bm,ob,b1,b2,b3,b4,b5,b6⟩:=I.mod.bmain
 have gb:=I.bk _ _ b3
 have far1:=apartBy (φ:=Obj.data) gg e1 (by rw[gd];exact fun z=>nomatch z)
 have far2:=apartBy (φ:=Obj.cls) gb e1 (by rw[b4];exact fun z=>nomatch z)
 have far3:=apartBy (φ:=Obj.data) gb gg (by rw[b6,gd];exact fun z=>nomatch z)
 have BA:s.heap.BuiltinsAt X.mg P:=⟨bm,ob,b1,b2,far3,far2,gb,b4,b5,b6⟩
 refine PySem.W.kla_eval hdef ?_
 have eq:X.env.qual ++ "<lambda>" = lamQ x:=by rw[hq];rfl
 rw[eq]
 cases ha:codeAmong pos pt.toList with
 | none =>
  refine PySem.W.kla_makeFunction (hcl I.ok) I.ok.glob G hcode CH e1 tr ha far1 BA fun c' ctv h' tk hxx hge hlt hrec htb => ?_
  rcases hrec with ⟨_,oc,vs,t,⟨⟩,hoc,hd,hv⟩
  have cn:H c'=none:=I.hok.fresh hge
  have I2:=Inv.lam (tk:=tk) (fo:=PySem.W.kla_obj "<lambda>" (lamQ x) ps body sc cl ((X.mg "__name__").getD .none) c' ctv) rfl I hP hxx hge hlt hoc ⟨_,htb,by simpa using TriplesOk_snoc _ _ _ _ tr,fun pos' cv z => ?_⟩
  ·refine⟨.ref h'.objs.size,_,I2,rfl,h _ _ ⟨c',ctv,_,oc,.own c',_,vs,t,zT,?_,hd,hv⟩ ?_ (I.hok.fresh (Nat.le_of_lt (Nat.lt_of_le_of_lt hge hlt)))⟩
   ·rw[zX (Nat.ne_of_lt hlt),zT]
   ·exact (Ext.new cn).trans (Ext.new (by rw[zX (Nat.ne_of_gt hlt)];exact I.hok.fresh (Nat.le_of_lt (Nat.lt_of_le_of_lt hge hlt))))
  ·have z':codeAmong pos' (pt.toList ++ [rawInt pos.line,rawInt pos.col,.ref c'])=some cv:=by simpa using z
   rcases zB8 pt.toList tr z' with z1 | z1
   ·obtain⟨c3,oc3,u3,vs3,t3,a1,a2,a3⟩:=am pos' cv z1
    exact⟨c3,oc3,u3,vs3,t3,a1,by rw[zX (zE a2 cn)];exact a2,a3⟩
   ·exact⟨c',oc,_,vs,t,z1,zT,hd,hv⟩
 | some cv =>
  obtain⟨c',oc,u,vs,t,rfl,a2,a3,a4⟩:=am pos cv ha
  refine PySem.W.kla_makeFunctionHit (hcl I.ok) I.ok.glob G hcode CH e1 tr ha BA fun ctv h' tk hk hsz => ?_
  have fn:H h'.objs.size=none:=I.hok.fresh hsz
  refine⟨.ref h'.objs.size,_,I.laid (a:=h'.objs.size) (o:=.frz (PySem.W.kla_obj "<lambda>" (lamQ x) ps body sc cl ((X.mg "__name__").getD .none) c' ctv) (.own h'.objs.size)) (h':=h'.push _) (fun b o e=>Heap.get?_push_of_some _ (hk b o e)) hsz ⟨Heap.get?_push_size _ rfl,_,Heap.get?_push_size _ rfl⟩,rfl,h _ _ ⟨c',ctv,_,oc,u,_,vs,t,zT,?_,a3,a4⟩ (Ext.new fn) fn⟩
  rw[zX (zE a2 fn)]
  exact a2
end
def cxLam (P:Program) (w:World) (K:KFr) (mg:Str->Option Value) (base:Heap) (N:List Str) (q:Str) (sc:Scope) (f:Addr) (cd:Value) (cl:List (Str×Addr)) (A:Around) (outer:List Env) (s:Shared) (H:Hp):Cx where
 prog:=P
 w:=w
 K:=K
 mg:=mg
 base:=base
 A:=A.deeper (PySem.W.envX q sc s.heap.objs.size f cd cl)
 N:=N
 s₀:=s
 H₀:=H
 env:=PySem.W.envX q sc s.heap.objs.size f cd cl
 outer:=outer
 stack:=PySem.W.envX q sc s.heap.objs.size f cd cl::outer
 ex:=[]
 calm:=true
 fn:=fun _=>false
 pn:=[]
 xe:=fun _ _=>False
structure LamScope (ps:List Str) (y:Str) (sc:Scope):Prop where
 kind:sc.kind=.function
 co:sc.isCoroutine=false
 gen:sc.isGenerator=false
 par:∀x∈ps,sc.names.lookup x=some .local
 nd:ps.Nodup
 free:sc.names.lookup y=some .free
 nocell:∀z∈sc.names,z.2 ≠ .cell
 only:∀z,sc.names.lookup z=some .free->z=y
section
variable {P:Program}{w:World}{K:KFr}{mg:Str->Option Value}{base:Heap}{A:Around}{outer:List Env}{s:Shared}{H:Hp}
theorem zS5 {x:Str}{v:Value}:∀{ps:List Str}{us:List Value}{i:Nat},ps.Nodup->ps[i]?=some x->us[i]?=some v->(ps.zip us).reverse.lookup x=some v
 | [],_,_,_,h,_=>by simp at h
 | _::_,[],_,_,_,h=>by simp at h
 | p::ps,u::us,0,nd,h1,h2=>by
  simp at h1 h2;subst h1;subst h2
  rw[List.zip_cons_cons,List.reverse_cons,List.lookup_append]
  have:(ps.zip us).reverse.lookup p=none:=by
   rw[List.lookup_eq_none_iff]
   intro z hz
   have hz':z∈ps.zip us:=by simpa using hz
   have:=(List.of_mem_zip (a:=z.1) (b:=z.2) (by simpa using hz')).1
   simp only[bne_iff_ne,beq_eq_false_iff_ne,ne_eq]
   rintro rfl
   exact (List.nodup_cons.mp nd).1 this
  rw[this]
  simp[List.lookup_cons]
 | p::ps,u::us,i+1,nd,h1,h2=>by
  rw[List.zip_cons_cons,List.reverse_cons,List.lookup_append,zS5 (i:=i) (List.nodup_cons.mp nd).2 (by simpa using h1) (by simpa using h2)]
  rfl
theorem yF1 {ps:List Str}{y:Str}{sc:Scope}{q:Str}{f cl:Addr}{cd uy:Value}{vy:V}{us:List Value}{vs:List V}{h₁:Heap}{tk:Nat}{fo:Obj}(S:LamScope ps y sc) (hd:A.handled=none) (e0:Env0 P w K mg base A outer s H) (hl:vs.length=ps.length) (r:Vals vs us)
  (hc:s.heap.IsCell cl (some uy)) (hn:H cl=none) (rv:RelV vy uy) (ns:h₁.Ns s.heap.objs.size (fun x=>(ps.zip us).reverse.lookup x)) (hk:∀b o,s.heap.get? b=some o->h₁.get? b=some o) :
  Inv (cxLam P w K mg base (ps ++ [y]) q sc f cd [(y,cl)] A outer s H) [] (vs.map some ++ [some vy]) H { s with heap:=h₁,toks:=tk }:=by
 have noA:∀b:Addr,b∉(cxLam P w K mg base (ps ++ [y]) q sc f cd [(y,cl)] A outer s H).ex:=fun b z=>absurd (show b∈([]:List Addr) from z) (by simp)
 have cel:∀z c,(cxLam P w K mg base (ps ++ [y]) q sc f cd [(y,cl)] A outer s H).env.cells.lookup z=some c->z=y/\c=cl:=fun z c e=>by
  have e:List.lookup z [(y,cl)]=some c:=e
  rw[List.lookup_cons] at e
  split at e
  ·rename_i h;cases e;exact⟨beq_iff_eq.mp h,rfl⟩
  ·cases e
 have hy:(cxLam P w K mg base (ps ++ [y]) q sc f cd [(y,cl)] A outer s H).env.cells.lookup y=some cl:=by
  show List.lookup y [(y,cl)]=some cl
  rw[List.lookup_cons,beq_self_eq_true]
 refine⟨⟨e0.mod,S.kind,rfl,rfl,Nat.le_refl _,fun z z' c h1 h2=>(cel z c h1).1.trans (cel z' c h2).1.symm,fun z hz => ?_,fun z c h=>(nomatch h),fun _=>hd,Around.frames_deeper e0.frames,.inr ⟨rfl,rfl⟩,fun b z=>absurd z (noA b),e0.bs,e0.bsz,fun b _ _=>noA b,fun b z=>absurd z (noA b),e0.funs,e0.frf,e0.tb⟩,
  rfl,e0.bare,Un.kept hk,⟨_,ns,fun i z v h1 h2 h3 => ?_⟩,fun z c h => ?_,e0.hok.fresh (Nat.le_refl _),fun z c h=>by rw[(cel z c h).2];exact hn,fun p hp=>absurd (show p∈([]:List (Addr×Obj)) from hp) (by simp),e0.hok.kept hk,?_⟩
 ·have hz:sc.names.lookup z=some .cell\/sc.names.lookup z=some .free:=hz
  rcases hz with hz | hz
  ·exact absurd rfl (S.nocell _ (PySem.mem_of_lookup hz))
  ·rw[S.only z hz];exact⟨cl,hy⟩
 ·by_cases hi:i<vs.length
  ·have h1:(ps ++ [y])[i]?=some z:=h1
   rw[List.getElem?_append_left (by bv_omega)] at h1
   rw[List.getElem?_append_left (by simpa using hi),List.getElem?_map] at h2
   cases e:vs[i]? with
   | none=>rw[e] at h2;cases h2
   | some a =>
    rw[e] at h2
    cases h2
    obtain⟨u,hu,ru⟩:=r.get e
    exact⟨u,ru,.inl ⟨S.par z (List.mem_of_getElem? h1),zS5 S.nd h1 hu⟩⟩
  ·have h1:(ps ++ [y])[i]?=some z:=h1
   rw[List.getElem?_append_right (by simpa using hi)] at h2
   rw[List.getElem?_append_right (by bv_omega)] at h1
   simp only[List.length_map] at h2
   have e0:i-ps.length=0:=by
    cases e:i-ps.length with
    | zero=>rfl
    | succ n=>rw[e] at h1;simp at h1
   rw[e0] at h1
   rw[hl,e0] at h2
   simp at h1 h2
   subst h1 h2
   exact⟨uy,rv,.inr ⟨.inr S.free,cl,hy,hc.keeps hk⟩⟩
 ·rw[(cel z c h).2]
  exact⟨_,hc.keeps hk⟩
 ·show _=(ps ++ [y]).length
  simp[hl]
theorem zO9 {ps:List Str}{y:Str}{sc:Scope}{q:Str}{f cl c':Addr}{pm ctv uy:Value}{vy:V}{us:List Value}{vs:List V}{params:Arguments}{body:Expr}{k:Nat}{Q:VK}{t:TE}(S:LamScope ps y sc) (hr:Room (k+1) A) (e0:Env0 P w K mg base A outer s H)
  (hf:s.heap.get? f=some (PySem.W.kla_obj "<lambda>" q params body sc [(y,cl)] pm c' ctv)) (hcd:s.heap.CodeRec (.ref c') q) (hc:s.heap.IsCell cl (some uy)) (hn:H cl=none) (rv:RelV vy uy)
  (hb:bindArgs (PySem.W.kla_fn "<lambda>" q params body sc [(y,cl)] pm (.ref c') ctv) ⟨us,[]⟩=pure (ps.zip us)) (hl:vs.length=ps.length) (r:Vals vs us)
  (hbody:Room k (A.deeper (PySem.W.envX q sc s.heap.objs.size f (.ref c') [(y,cl)]))->PE (cxLam P w K mg base (ps ++ [y]) q sc f (.ref c') [(y,cl)] A outer s H) body t) (h:t (vs.map some ++ [some vy]) H Q) :
  codeAny (model P w) A (.call (.ref f) ⟨us,[]⟩) (CR CX0 outer P w H s Q E0) s:=by
 refine PySem.W.kla_callFunE hr.depth hf rfl S.co S.gen rfl hcd ?_
 rw[hb]
 refine wpAny_pure (wpAny_newFunctionEnv S.nocell (fun z hz=>S.par _ (List.of_mem_zip (a:=z.1) (b:=z.2) hz).1) (fun h₁ hns hsb => ?_) S.kind)
 have hk:∀b o,s.heap.get? b=some o->h₁.get? b=some o:=fun b o e=>hsb.extBut b o (Nat.ne_of_lt (Heap.lt_size e)) (Heap.get?_push_of_some _ e)
 have lim:s.heap.NoLimit:=e0.mod.nolimit.keeps fun b o e=>(e0.bs b o e).1
 refine⟨lim.keeps hk,PySem.W.kla_codeExpr ?_⟩
 have I:=yF1 (q:=q) (f:=f) (cd:=.ref c') (tk:=s.toks+(ps.zip us).length) (fo:=default) S hr.hd e0 hl r hc hn rv hns hk
 refine wpAny_mono (hbody (hr.deeper _) [] _ _ H Q I h) (fun v s' hs => ?_) fun e s' hs=>hs.elim
 obtain⟨x,H',J,rx,qx⟩:=hs
 exact⟨x,H',J.os,J.bare,J.base,J.hok,rx,qx⟩
end
def rmv (H:Hp) (a:Addr):Hp:=fun b=>if b=a then none else H b
theorem wA {H:Hp}{a:Addr}:rmv H a a=none:=if_pos rfl
theorem yK {H:Hp}{a b:Addr}(h:b≠a):rmv H a b=H b:=if_neg h
theorem yD1 {H:Hp}{a b:Addr}{o:HO}(h:rmv H a b=some o):b≠a/\H b=some o:=by
 by_cases e:b=a
 ·rw[e,wA] at h;cases h
 ·rw[yK e] at h;exact⟨e,h⟩
section
variable {P:Program}{w:World}{K:KFr}{mg:Str->Option Value}{base:Heap}{A:Around}{outer:List Env}{s:Shared}{H:Hp}{h:Heap}{cl:Addr}{φ:Heap->Prop}
theorem HOk.rmv (ok:HOk P w H h) (hc:H cl=some (.ext φ)):HOk P w (rmv H cl) h:=fun b o e=>by
 obtain⟨hb,e'⟩:=yD1 e
 exact (ok b o e').stay (fun _ _ _ q=>q) (fun c q=>by rw[yK (fun z=>by rw[z,hc] at q;cases q)];exact q) (fun c _ q=>by rw[yK (fun z=>by rw[z,hc] at q;cases q)];exact q) fun c _ _ q=>by rw[yK (fun z=>by rw[z,hc] at q;cases q)];exact q
theorem Env0.rmv (e:Env0 P w K mg base A outer s H) (hc:H cl=some (.ext φ)):Env0 P w K mg base A outer s (rmv H cl) where
 frames:=e.frames
 mod:=e.mod
 bs:=fun b o h=>⟨(e.bs b o h).1,by
  by_cases z:b=cl
  ·rw[z];exact wA
  ·rw[yK z];exact (e.bs b o h).2⟩
 bsz:=e.bsz
 funs:=e.funs
 frf:=fun b hb=>by
  by_cases z:b=cl
  ·rw[z];exact wA
  ·rw[yK z];exact e.frf b hb
 hok:=e.hok.rmv hc
 bare:=e.bare
 tb:=fun x hx c P' ht=>by
  have q:=e.tb x hx c P' ht
  rw[yK (fun z=>by rw[z,hc] at q;cases q)]
  exact q
end
abbrev cellO (cl:Addr) (oc:Obj):HO:=.ext fun h=>h.get? cl=some oc
section
variable {P:Program}{w:World}{K:KFr}{mg:Str->Option Value}{base:Heap}{A:Around}{outer:List Env}{s:Shared}{H:Hp}{cl:Addr}{oc:Obj}
theorem HOk.lend {h:Heap}(x:HOk P w H h) (hn:H cl=none) (ho:h.get? cl=some oc):HOk P w (upd H cl (cellO cl oc)) h :=
 x.track hn ⟨ho,⟨oc,ho⟩,fun h1 h2 p k=>k _ p⟩
theorem Env0.lend (e:Env0 P w K mg base A outer s H) (hn:H cl=none) (hb:base.get? cl=none) (hf:cl∉frs outer) (ho:s.heap.get? cl=some oc):Env0 P w K mg base A outer s (upd H cl (cellO cl oc)) where
 frames:=e.frames
 mod:=e.mod
 bs:=fun b o h=>⟨(e.bs b o h).1,by rw[zX (fun z=>by rw[z,hb] at h;cases h)];exact (e.bs b o h).2⟩
 bsz:=e.bsz
 funs:=e.funs
 frf:=fun b hb'=>by rw[zX (show b≠cl from fun z=>hf (by rw[<-z];exact hb'))];exact e.frf b hb'
 hok:=e.hok.lend hn ho
 bare:=e.bare
 tb:=fun x hx c P' ht=>by
  have q:=e.tb x hx c P' ht
  rw[zX (fun z=>by rw[z,hn] at q;cases q)]
  exact q
theorem Un.unhide {fs:List Addr}{H2:Hp}{h h':Heap}(u:Un fs [] (rmv H cl) H2 h h') (C:H cl=some (cellO cl oc)):Un fs [] H (upd H2 cl (cellO cl oc)) h h':=by
 have nc:∀b,H b=none->b≠cl:=fun b n z=>by rw[z,C] at n;cases n
 have up:∀b o,b≠cl->H2 b=some o->upd H2 cl (cellO cl oc) b=some o:=fun b o n e=>by rw[zX n];exact e
 have dn:∀b o,H b=some o->b≠cl->rmv H cl b=some o:=fun b o e n=>by rw[yK n];exact e
 have df:∀b,H b=none->rmv H cl b=none:=fun b n=>by rw[yK (nc b n)];exact n
 refine⟨fun b o e n=>u.keep b o e (df b n),fun b o e n=>u.slot b o e (df b n),fun b o e n hx => ?_,u.there,fun b xs e => ?_,fun b o xs e => ?_,fun b q e => ?_⟩
 ·rw[zX (nc b n)];exact u.free b o e (df b n) hx
 ·have n:b≠cl:=fun z=>by rw[z,C] at e;cases e
  exact up b _ n (u.tups b xs (dn b _ e n))
 ·have n:b≠cl:=fun z=>by rw[z,C] at e;cases e
  exact up b _ n (u.frzs b o xs (dn b _ e n))
 ·have n:b≠cl:=fun z=>by rw[z,C] at e;cases e
  exact up b _ n (u.tbls b q (dn b _ e n))
theorem yS6 {ps:List Str}{y:Str}{sc:Scope}{q:Str}{f:Addr}{uy:Value}{vy:V}{us:List Value}{vs:List V}{params:Arguments}{body:Expr}{k:Nat}{Q:VK}{t:TE}(S:LamScope ps y sc) (hr:Room (k+1) A) (e0:Env0 P w K mg base A outer s H)
  (L:LamAt H f q params body sc [(y,cl)]) (C:H cl=some (cellO cl oc)) (hd:oc.data=.cell (some uy)) (rv:RelV vy uy)
  (hb:∀(pm cd ctv:Value),bindArgs (PySem.W.kla_fn "<lambda>" q params body sc [(y,cl)] pm cd ctv) ⟨us,[]⟩=pure (ps.zip us)) (hl:vs.length=ps.length) (r:Vals vs us)
  (hbody:∀c':Addr,PE (cxLam P w K mg base (ps ++ [y]) q sc f (.ref c') [(y,cl)] A outer s (rmv H cl)) body t) (h:t (vs.map some ++ [some vy]) (rmv H cl) fun v H2=>H2 cl=none->Q v (upd H2 cl (cellO cl oc))) :
  codeAny (model P w) A (.call (.ref f) ⟨us,[]⟩) (CR CX0 outer P w H s Q E0) s:=by
 obtain⟨c',ctv,pm,o2,u,v,ws,tk,hf,hc',hd2,hq⟩:=L
 have gf:=(e0.hok f _ hf).1
 have gc:=(e0.hok c' _ hc').1
 have gcl:s.heap.get? cl=some oc:=(e0.hok cl _ C).1
 have nf:cl∉frs outer:=fun z=>by have:=e0.frf cl z;rw[C] at this;cases this
 refine codeAny_mono (zO9 S hr (e0.rmv C) gf ⟨c',o2,ws,tk,rfl,gc,hd2,hq⟩ ⟨oc,gcl,hd⟩ wA rv (hb _ _ _) hl r (fun _=>hbody c') h) fun r s' hq => ?_
 cases r with
 | error e=>exact False.elim hq
 | ok fl =>
  cases fl with
  | ret u =>
   obtain⟨v,H2,os,bare,un,hok,r,qq⟩:=hq
   have n2:H2 cl=none:=un.free cl oc gcl wA (by simp)
   have g2:s'.heap.get? cl=some oc:=un.keep cl oc gcl wA nf (by simp)
   exact⟨v,_,os,bare,un.unhide C,hok.lend n2 g2,r,qq n2⟩
  | _=>exact False.elim hq
def CallAt (P:Program) (w:World) (K:KFr) (mg:Str->Option Value) (base:Heap) (k:Nat) (H:Hp) (f:Addr) (vs:List V) (Q:VK):Prop :=
 (∃o fd u,H f=some (.frz o u)/\o.data=.func fd)/\∀(A:Around) (outer:List Env) (s:Shared) (us:List Value),Room k A->Env0 P w K mg base A outer s H->Vals vs us->codeAny (model P w) A (.call (.ref f) ⟨us,[]⟩) (CR CX0 outer P w H s Q E0) s
end
section
variable {X:Cx}{i k:Nat}{x:Str}{p pos:Pos}{e:Expr}{es:List Expr}{t:TA}
theorem yD4 {pins:List (Addr×Obj)}{σ:St}{H:Hp}{s:Shared}{Q:VK}{us:List Value}{vs:List V}{f:Addr}(hr:Room k X.A) (I:Inv X pins σ H s) (r:Vals vs us) (h:CallAt X.prog X.w X.K X.mg X.base k H f vs Q):wpAny (model X.prog X.w) X.A (call (.ref f) us) (EP X pins σ Q) X.xe s:=by
 refine wpAny_call (codeAny_mono (h.2 X.A X.stack s us hr I.env0 r) fun r s' hq => ?_)
 cases r with
 | error e=>exact False.elim hq
 | ok fl =>
  cases fl with
  | ret u=>exact I.after hq
  | _=>exact False.elim hq
def tCallV (X:Cx) (k i:Nat) (t:TA):TE:=fun σ H Q=>∃f,σ[i]?=some (some (.ref f))/\t σ H fun vs H1=>CallAt X.prog X.w X.K X.mg X.base k H1 f vs Q
theorem yS4 (hr:Room k X.A) (hN:X.N[i]?=some x) (hv:Vis X.env.scope x) (ha:PA X (e::es) t) (hd:autoParam ((x == ("__debug__":Str))=false) zK._auto_1) (hcd:autoParam ((x == ("__classdict__":Str))=false) zK._auto_1)
  (he:autoParam (starEach (e::es) X.env=(false,eval e X.env)::starEach es X.env) zY._auto_1) (hpl:autoParam ((backTo pos (starEach es X.env)).any (·.1)=false) zY._auto_1):PE X (.Call (.Name x p) (e::es) [] pos) (tCallV X k i t):=by
 intro pins s σ H Q I h
 obtain⟨f,hf,h⟩:=h
 refine wpAny_Call_Name_kw (thn (vG (pos:=p) hN hv hd hcd pins s σ H (fun v H'=>v=.ref f/\H'=H) I ⟨_,hf,rfl,rfl⟩) fun u s1 ⟨v,H',I1,r1,e1,e2⟩ => ?_)
 subst e1 e2
 obtain rfl:u=Value.ref f:=r1
 have hh:=ha pos pins s1 σ _ _ I1 h
 rw[he] at hh ⊢
 refine PySem.W.callWith_of (P:=fun hp=>∃o fd,hp.get? f=some o/\o.data=.func fd) (by show ((false || (backTo pos (starEach es X.env)).any (·.1)) || false)=false;rw[hpl];rfl) (fun hp ⟨o,fd,g,d⟩=>⟨.frame,.inl rfl,?_⟩) (Calls.evalArgs_plain (thn hh fun us s2 ⟨vs,H2,I2,r2,q2⟩ => ?_))
 ·refine (PySem.W.Looks.ld (part:=none) g).andThen ?_
  rw[d]
  exact .now
 ·obtain⟨⟨o,fd,u,hH,hdd⟩,_⟩:=id q2
  exact⟨⟨o,fd,(I2.hok f _ hH).1,hdd⟩,yD4 hr I2 r2 q2⟩
end
end L2
namespace L2.L3
open PySem PySem.Spec PyProof.Rows MR
variable [CN]
def bxD:D->Option Nat
 | .tuple [.int b,.tuple _]=>some b.toNat
 | _=>none
def nxD:D->Nat->D
 | .tuple [.int _,.tuple ds],x=>ds.getD x .none
 | _,_=>.none
inductive TrS (n:Nat):D->Prop
 | none:TrS n .none
 | node {b:Nat}{ds:List D}:b<n->ds.length=n->(∀d∈ds,TrS n d)->TrS n (.tuple [.int (b:Int),.tuple ds])
def oV:Option Nat->V
 | none=>.non
 | some x=>.int (x:Int)
theorem bP (l:List (Option Nat)):(l.map oV).all flatV=true:=by
 rw[List.all_map]
 exact List.all_eq_true.mpr fun x _=>by cases x <;> rfl
theorem zQ9 (i j:Int):eqV (.int i) (.int j)=decide (i=j):=by
 show (i == j)=_
 rw[Bool.eq_iff_iff,beq_iff_eq,decide_eq_true_iff]
theorem yN6 (l:List (Option Nat)) (p:Nat):inV (.int (p:Int)) (l.map oV)=l.contains (some p):=by
 unfold inV
 rw[List.any_map,Bool.eq_iff_iff,List.any_eq_true,List.contains_iff_mem]
 constructor
 ·rintro ⟨x,hx,e⟩
  cases x with
  | none=>cases e
  | some y =>
   have e:eqV (.int (y:Int)) (.int (p:Int))=true:=e
   rw[zQ9] at e
   have:=of_decide_eq_true e
   have:y=p:=by bv_omega
   rw[<-this]
   exact hx
 ·intro h
  refine⟨_,h,?_⟩
  show eqV (.int (p:Int)) (.int (p:Int))=true
  rw[zQ9]
  exact decide_eq_true rfl
theorem yP2 {l:List (Option Nat)}{b:Nat}{o:Option Nat}(h:l[b]?=some o):atI (l.map oV) (b:Int)=some (oV o):=by
 unfold atI ixN
 have hb:=(List.getElem?_eq_some_iff.mp h).1
 rw[List.length_map,if_pos (by bv_omega),if_pos (by bv_omega)]
 simp[h]
def rTupV (K:KFr):List V->Hp->VK->Prop:=fun xs H Q=>∃p ys,xs=[.ref p]/\((SqL K H p ys/\∀l,H l=none->Q (.ref l) (upd H l (.tup ys)))\/(SqT K H p ys/\Q (.ref p) H))
def tTnB (X:Cx) (k:Nat):TS:=tSeq (tAsg (tIf (tB (tIsN (tVar 6))) (tBM X.K "list" (rIdx X.K) (tVar 2) (zP (tC .non) tNil)) (tOp (rIxT X.K) (tVar 6) (tC (.int 0)))) (gName 7))
 (tSeq (tIfS (tB (tIsN (tOp (rIxL X.K) (tVar 2) (tVar 7)))) (tSeq (tDrop (tBM X.K "list" rAppend (tVar 4) (zP (tVar 7) tNil))) (tSeq (tAsg (tCallV X k 3 (zP (tVar 7) (zP (tVar 5) tNil))) (gName 5)) (tAsg (tVar 5) (gSub (tVar 2) (tVar 7) rSetL)))) tNext)
  (tIfS (tB (tNotN (tVar 6))) (tAsg (tOp (rIxT X.K) (tOp (rIxT X.K) (tVar 6) (tC (.int 1))) (tOp (rIxL X.K) (tVar 2) (tVar 7))) (gName 6)) tNext))
def tTn (X:Cx) (k:Nat):TS:=tSeq (tAsg (tLst tNil) (gName 4)) (tSeq (tAsg (tVar 1) (gName 5)) (tSeq (tAsg (tVar 0) (gName 6)) (tSeq (tWhile (tTest (tOp (rIn X.K true) (tVar 1) (tVar 2))) (tTnB X k)) (tRet (tTup (zP (tVar 1) (zP (tCB (rTupV X.K) (zP (tVar 4) tNil)) tNil)))))))
def AskOk (X:Cx) (k:Nat) (H0:Hp) (sa f:Addr) (n:Nat) (g:Nat->Nat->Nat):Prop:=∀(H:Hp) (b l:Nat) (Q:VK),(∀c o,H0 c=some o->c≠sa->H c=some o)->b<n->l<n->Q (.int ((g b l:Nat):Int)) H->CallAt X.prog X.w X.K X.mg X.base k H f [.int (b:Int),.int (l:Int)] Q
structure TnAt (H0:Hp) (sa ba:Addr) (seen:List (Option Nat)) (bs:List Nat) (vr:V) (t:D) (H:Hp):Prop where
 same:∀c o,H0 c=some o->c≠sa->H c=some o
 see:H sa=some (.lst (seen.map oV))
 box:H ba=some (.lst (bs.map fun (b:Nat)=>V.int (b:Int)))
 tree:Rep H (fun c=>c=sa\/c=ba) vr t
theorem TnAt.upd {H0 H:Hp}{sa ba c:Addr}{ho:HO}{seen seen':List (Option Nat)}{bs bs':List Nat}{vr:V}{t:D}(T:TnAt H0 sa ba seen bs vr t H) (hc:c=sa\/c=ba) (hb:H0 ba=none) (h1:(L2.upd H c ho) sa=some (.lst (seen'.map oV))) (h2:(L2.upd H c ho) ba=some (.lst (bs'.map fun (b:Nat)=>V.int (b:Int)))):TnAt H0 sa ba seen' bs' vr t (L2.upd H c ho):=by
 refine⟨fun d o e n => ?_,h1,h2,T.tree.keep (fun d o e n=>by rw[zX (fun z=>n (by rw[z];exact hc))];exact e) fun d _ z=>z⟩
 rw[zX (fun z=>by
  rcases hc with w | w
  ·exact n (z.trans w)
  ·rw[z,w,hb] at e;cases e)]
 exact T.same d o e n
theorem atN {l:List V}{x:Nat}{v:V}(h:l[x]?=some v):atI l (x:Int)=some v:=by
 unfold atI ixN
 have hb:=(List.getElem?_eq_some_iff.mp h).1
 rw[if_pos (by bv_omega),if_pos (by bv_omega)]
 simp[h]
def stepT (t:D) (x:Nat):D:=if bxD t=none then t else nxD t x
theorem bE {X:Cx}{H0 H:Hp}{sa fa ba:Addr}{seen:List (Option Nat)}{bs:List Nat}{vr:V}{t:D}{n b x:Nat}{p l:Int}{v0:Option V}{E:Ends}(T:TnAt H0 sa ba seen bs vr t H) (ht:TrS n t) (hx:seen[b]?=some (some x)) (xn:x<n)
  (k0:∀vr',TnAt H0 sa ba seen bs vr' (stepT t x) H->TrS n (stepT t x)->E.nx [v0,some (.int p),some (.ref sa),some (.ref fa),some (.ref ba),some (.int l),some vr',some (.int (b:Int))] H) :
  (tIfS (tB (tNotN (tVar 6))) (tAsg (tOp (rIxT X.K) (tOp (rIxT X.K) (tVar 6) (tC (.int 1))) (tOp (rIxL X.K) (tVar 2) (tVar 7))) (gName 6)) tNext) E [v0,some (.int p),some (.ref sa),some (.ref fa),some (.ref ba),some (.int l),some vr,some (.int (b:Int))] H:=by
 refine⟨_,rfl,_,rfl,?_⟩
 show (if _=true then _ else _)
 have tr:=T.tree
 cases ht with
 | none =>
  cases tr
  rw[if_neg (by decide)]
  exact k0 _ T .none
 | @node b' ds hb hl hd =>
  cases tr with
  | @tup a _ _ rd no rs =>
   cases rs with
   | cons r1 r2 =>
    cases r1
    cases r2 with
    | cons r2 r3 =>
     cases r3
     cases r2 with
     | @tup c ys _ rd2 no2 rs2 =>
      rw[if_pos (show (!decide (V.ref a=V.non))=true by rw[decide_eq_false (fun z=>nomatch z)];rfl)]
      have ex:ds[x]?=some (ds.getD x .none):=by
       rw[List.getD,List.getElem?_eq_getElem (by rw[hl];exact xn)]
       rfl
      obtain⟨y,ey,ry⟩:=rs2.get ex
      refine⟨_,rfl,a,_,1,.ref c,rfl,rfl,.inl rd,rfl,_,rfl,_,rfl,sa,_,_,_,rfl,rfl,SqL.of T.see,yP2 hx,c,ys,_,y,rfl,rfl,.inl rd2,atN ey,?_⟩
      have e:stepT (.tuple [.int (b':Int),.tuple ds]) x=ds.getD x .none:=rfl
      refine k0 y ?_ ?_
      ·rw[e];exact⟨T.same,T.see,T.box,ry⟩
      ·rw[e];exact hd _ (List.mem_of_getElem? ex)
theorem zL5 {X:Cx}{kk:Nat}{H0 H:Hp}{sa fa ba:Addr}{seen:List (Option Nat)}{bs:List Nat}{vr:V}{t:D}{n b l:Nat}{p:Int}{g:Nat->Nat->Nat}{v0:Option V}{E:Ends}(T:TnAt H0 sa ba seen bs vr t H) (hb0:H0 ba=none) (hs0:∃o,H0 sa=some o) (ask:AskOk X kk H0 sa fa n g) (hn:seen.length=n) (bn:b<n) (ln:l<n) (hbs:bs.length<1000) (hx:seen[b]?=some none)
  (k0:∀H',TnAt H0 sa ba (seen.set b (some (g b l))) (bs ++ [b]) vr t H'->E.nx [v0,some (.int p),some (.ref sa),some (.ref fa),some (.ref ba),some (.int ((g b l:Nat):Int)),some vr,some (.int (b:Int))] H') :
  (tIfS (tB (tIsN (tOp (rIxL X.K) (tVar 2) (tVar 7)))) (tSeq (tDrop (tBM X.K "list" rAppend (tVar 4) (zP (tVar 7) tNil))) (tSeq (tAsg (tCallV X kk 3 (zP (tVar 7) (zP (tVar 5) tNil))) (gName 5)) (tAsg (tVar 5) (gSub (tVar 2) (tVar 7) rSetL)))) tNext) E [v0,some (.int p),some (.ref sa),some (.ref fa),some (.ref ba),some (.int (l:Int)),some vr,some (.int (b:Int))] H:=by
 have sb:sa≠ba:=fun z=>by obtain⟨o,e⟩:=hs0;rw[z,hb0] at e;cases e
 refine⟨_,rfl,_,rfl,sa,_,_,_,rfl,rfl,SqL.of T.see,yP2 hx,_,rfl,?_⟩
 show (if _=true then _ else _)
 rw[if_pos (by decide)]
 refine⟨_,rfl,.inl ⟨rfl,_,SqL.of T.box⟩,_,rfl,ba,_,_,rfl,rfl,T.box,by rw[List.length_map];exact small1000 (by bv_omega),?_⟩
 have e1:(bs.map fun (b:Nat)=>V.int (b:Int)) ++ [V.int (b:Int)]=(bs ++ [b]).map fun (b:Nat)=>V.int (b:Int):=by rw[List.map_append];rfl
 rw[e1]
 have T1:TnAt H0 sa ba seen (bs ++ [b]) vr t (L2.upd H ba (.lst ((bs ++ [b]).map fun (b:Nat)=>V.int (b:Int)))):=T.upd (.inr rfl) hb0 (by rw[zX sb];exact T.see) zT
 refine⟨fa,rfl,_,rfl,_,rfl,ask _ b l _ T1.same bn ln ?_⟩
 refine⟨_,rfl,_,rfl,_,rfl,sa,_,_,b,rfl,rfl,T1.see,?_,?_⟩
 ·unfold ixN
  rw[List.length_map,hn,if_pos (by bv_omega),if_pos (by bv_omega)]
  simp
 ·have e2:(seen.map oV).set b (.int ((g b l:Nat):Int))=(seen.set b (some (g b l))).map oV:=by
   rw[List.map_set]
   rfl
  rw[e2]
  exact k0 _ (T1.upd (.inl rfl) hb0 zT (by rw[zX sb.symm];exact T1.box))
theorem TrS.leaf {n:Nat}{t:D}(h:TrS n t) (e:bxD t=Option.none):t=.none:=by
 cases h with
 | none=>rfl
 | node=>cases e
theorem TrS.box {n b:Nat}{t:D}(h:TrS n t) (e:bxD t=some b):b<n/\∃ds,t=.tuple [.int (b:Int),.tuple ds]:=by
 cases h with
 | none=>cases e
 | @node b' ds hb hl hd =>
  have e:some ((b':Int).toNat)=some b:=e
  rw[Int.toNat_natCast] at e
  cases e
  exact⟨hb,ds,rfl⟩
theorem zT8 {X:Cx}{H0 H:Hp}{sa fa ba:Addr}{seen:List (Option Nat)}{bs:List Nat}{vr:V}{t:D}{n b:Nat}{p l:Int}{v0 u7:Option V}{Q:VK}(T:TnAt H0 sa ba seen bs vr t H) (ht:TrS n t) (bn:b<1000) (h:(bxD t=some b)\/(bxD t=none/\seen[b]?=some none/\∀i,i<b->seen[i]?≠some none)) (q:Q (.int (b:Int)) H) :
  tIf (tB (tIsN (tVar 6))) (tBM X.K "list" (rIdx X.K) (tVar 2) (zP (tC .non) tNil)) (tOp (rIxT X.K) (tVar 6) (tC (.int 0))) [v0,some (.int p),some (.ref sa),some (.ref fa),some (.ref ba),some (.int l),some vr,u7] H Q:=by
 refine⟨_,rfl,_,rfl,?_⟩
 show (if _=true then _ else _)
 have tr:=T.tree
 rcases h with e | ⟨e,h1,h2⟩
 ·obtain⟨_,ds,rfl⟩:=ht.box e
  cases tr with
  | @tup a _ _ rd no rs =>
   cases rs with
   | cons r1 r2 =>
    cases r1
    rw[if_neg (show ¬decide (V.ref a=V.non)=true by rw[decide_eq_false (fun z=>nomatch z)];decide)]
    exact⟨_,rfl,a,_,0,_,rfl,rfl,.inl rd,atN (x:=0) rfl,q⟩
 ·obtain rfl:=ht.leaf e
  cases tr
  rw[if_pos (by decide)]
  refine⟨_,rfl,.inl ⟨rfl,_,SqL.of T.see⟩,sa,_,.non,b,.non,rfl,rfl,SqL.of T.see,rfl,bP _,by rw[List.getElem?_map,h1];rfl,rfl,fun m z hm ez => ?_,by bv_omega,q⟩
  rw[List.getElem?_map] at ez
  obtain⟨o,eo,rfl⟩:=Option.map_eq_some_iff.mp ez
  cases o with
  | none=>exact absurd eo (h2 m hm)
  | some x=>rfl
theorem yI4 {X:Cx}{kk:Nat}{H0:Hp}{sa fa:Addr}{seen0 out:List (Option Nat)}{rs0:List Rv}{v0:V}{t0:D}{n m0 p:Nat}{g:Nat->Nat->Nat}{E:Ends}(hs:H0 sa=some (.lst (seen0.map oV))) (ht0:Rep H0 (fun c=>c=sa) v0 t0) (tr0:TrS n t0) (hn:seen0.length=n) (n60:n<=60) (hp:p<n) (ins:∀x,some x∈seen0->x<n) (ask:AskOk X kk H0 sa fa n g) (hg:∀b l,b<n->l<n->g b l<n) (few:rs0.length<=900)
  (tn:Tn bxD nxD g p m0 t0 p seen0 rs0 out)
  (k0:∀(a c:Addr) (H':Hp),H0 a=none->H0 c=none->a≠c->(∀d o,H0 d=some o->d≠sa->H' d=some o)->H' sa=some (.lst (out.map oV))->H' a=some (.tup [.int (p:Int),.ref c])->H' c=some (.tup (rs0.map fun r=>V.int ((r.1:Nat):Int)))->E.rt (.ref a) H') :
  tTn X kk E [some v0,some (.int (p:Int)),some (.ref sa),some (.ref fa),none,none,none,none] H0:=by
 refine⟨Nat.zero_le _,fun ba hba => ?_⟩
 have sb:sa≠ba:=fun z=>by rw[z,hba] at hs;cases hs
 have T0:TnAt H0 sa ba seen0 [] v0 t0 (L2.upd H0 ba (.lst [])):=by
  refine⟨fun c o e _ => ?_,?_,zT,ht0.keep (fun c o e _ => ?_) fun c hc z => ?_⟩
  ·rw[zX (fun z=>by rw[z,hba] at e;cases e)];exact e
  ·rw[zX sb];exact hs
  ·rw[zX (fun z=>by rw[z,hba] at e;cases e)];exact e
  ·rcases z with z | z
   ·exact z
   ·exact absurd hba (by rw[<-z];exact hc)
 generalize L2.upd H0 ba (.lst [])=H1 at T0
 refine⟨_,rfl,?_⟩
 refine⟨_,rfl,?_⟩
 refine⟨fun m σ H=>∃t l seen bs rs vr u7,Tn bxD nxD g p m t l seen rs out/\bs++rs.map (·.1)=rs0.map (·.1)/\seen.length=n/\(∀x,some x∈seen->x<n)/\l<n/\TrS n t/\TnAt H0 sa ba seen bs vr t H/\σ=[some v0,some (.int (p:Int)),some (.ref sa),some (.ref fa),some (.ref ba),some (.int (l:Int)),some vr,u7],⟨m0,t0,p,seen0,[],rs0,v0,none,tn,rfl,hn,ins,hp,tr0,T0,rfl⟩,?_⟩
 rintro m σ H ⟨t,l,seen,bs,rs,vr,u7,tn,eb,hl,hin,hln,ht,T,rfl⟩
 refine⟨_,rfl,_,rfl,sa,_,rfl,.inl (SqL.of T.see),rfl,bP _,_,rfl,?_⟩
 show (if _=true then _ else _)
 rw[yN6]
 have lb:bs.length+rs.length=rs0.length:=by
  have:=congrArg List.length eb
  rw[List.length_append,List.length_map,List.length_map] at this
  exact this
 have upd_in:∀(b y:Nat),y<n->∀x,some x∈seen.set b (some y)->x<n:=fun b y hy x hx=>by
  rcases List.mem_or_eq_of_mem_set hx with z | z
  ·exact hin x z
  ·cases z;exact hy
 cases tn with
 | done h =>
  rw[List.contains_iff_mem.mpr h,if_neg (by decide)]
  refine⟨_,rfl,_,rfl,ba,_,rfl,.inl ⟨SqL.of T.box,fun c hc => ?_⟩⟩
  refine⟨by show 2<=sizeLine;decide,fun a ha => ?_⟩
  have fr:∀d,H d=none->H0 d=none:=fun d hd=>by
   cases e:H0 d with
   | none=>rfl
   | some o =>
    by_cases z:d=sa
    ·rw[z,T.see] at hd;cases hd
    ·rw[T.same d o e z] at hd;cases hd
  have ac:a≠c:=fun z=>by rw[z,zT] at ha;cases ha
  have ha':H a=none:=by rw[zX ac] at ha;exact ha
  have sc:sa≠c:=fun z=>by rw[<-z,T.see] at hc;cases hc
  have sa':sa≠a:=fun z=>by rw[<-z,T.see] at ha';cases ha'
  refine k0 a c _ (fr a ha') (fr c hc) ac (fun d o e n' => ?_) ?_ zT ?_
  ·have hd:=T.same d o e n'
   rw[zX (fun z=>by rw[z,ha'] at hd;cases hd),zX (fun z=>by rw[z,hc] at hd;cases hd)]
   exact hd
  ·rw[zX sa',zX sc];exact T.see
  ·rw[zX ac.symm,zT]
   rw[List.map_nil,List.append_nil] at eb
   rw[eb,List.map_map]
   rfl
 | @leafN k _ _ b _ _ rs' h1 h2 h3 h4 tn' =>
  have bn:b<n:=by rw[<-hl];exact (List.getElem?_eq_some_iff.mp h3).1
  have gn:=hg b l bn hln
  rw[show seen.contains (some p)=false by rw[<-Bool.not_eq_true,List.contains_iff_mem];exact h1,if_pos (by decide)]
  refine⟨fun σ' H'=>∃t l seen bs rs vr u7,Tn bxD nxD g p k t l seen rs out/\bs++rs.map (·.1)=rs0.map (·.1)/\seen.length=n/\(∀x,some x∈seen->x<n)/\l<n/\TrS n t/\TnAt H0 sa ba seen bs vr t H'/\σ'=[some v0,some (.int (p:Int)),some (.ref sa),some (.ref fa),some (.ref ba),some (.int (l:Int)),some vr,u7],fun σ' H' w=>⟨k,Nat.lt_succ_self k,w⟩,?_⟩
  refine zT8 T ht (by bv_omega) (.inr ⟨h2,h3,h4⟩) ?_
  refine zL5 T hba ⟨_,hs⟩ ask hl bn hln (by rw[List.length_cons] at lb;bv_omega) h3 fun H' T' => ?_
  have hx:(seen.set b (some (g b l)))[b]?=some (some (g b l)):=List.getElem?_set_self (by rw[hl];exact bn)
  refine bE T' ht hx gn fun vr' T2 ht2 => ?_
  have es:stepT t (g b l)=t:=if_pos h2
  rw[es] at T2 ht2
  exact⟨t,g b l,_,bs ++ [b],rs',vr',_,tn',by rw[List.append_assoc];exact eb,by rw[List.length_set];exact hl,upd_in b _ gn,gn,ht2,T2,rfl⟩
 | @nodeN k _ _ b _ _ rs' h1 h2 h3 tn' =>
  have bn:b<n:=(ht.box h2).1
  have gn:=hg b l bn hln
  rw[show seen.contains (some p)=false by rw[<-Bool.not_eq_true,List.contains_iff_mem];exact h1,if_pos (by decide)]
  refine⟨fun σ' H'=>∃t l seen bs rs vr u7,Tn bxD nxD g p k t l seen rs out/\bs++rs.map (·.1)=rs0.map (·.1)/\seen.length=n/\(∀x,some x∈seen->x<n)/\l<n/\TrS n t/\TnAt H0 sa ba seen bs vr t H'/\σ'=[some v0,some (.int (p:Int)),some (.ref sa),some (.ref fa),some (.ref ba),some (.int (l:Int)),some vr,u7],fun σ' H' w=>⟨k,Nat.lt_succ_self k,w⟩,?_⟩
  refine zT8 T ht (by bv_omega) (.inl h2) ?_
  refine zL5 T hba ⟨_,hs⟩ ask hl bn hln (by rw[List.length_cons] at lb;bv_omega) h3 fun H' T' => ?_
  have hx:(seen.set b (some (g b l)))[b]?=some (some (g b l)):=List.getElem?_set_self (by rw[hl];exact bn)
  refine bE T' ht hx gn fun vr' T2 ht2 => ?_
  have es:stepT t (g b l)=nxD t (g b l):=if_neg (by rw[h2];exact fun z=>nomatch z)
  rw[es] at T2 ht2
  exact⟨_,g b l,_,bs ++ [b],rs',vr',_,tn',by rw[List.append_assoc];exact eb,by rw[List.length_set];exact hl,upd_in b _ gn,gn,ht2,T2,rfl⟩
 | @nodeO k _ _ b x _ _ _ h1 h2 h3 tn' =>
  have bn:b<n:=(ht.box h2).1
  have xn:x<n:=hin x (List.mem_of_getElem? h3)
  rw[show seen.contains (some p)=false by rw[<-Bool.not_eq_true,List.contains_iff_mem];exact h1,if_pos (by decide)]
  refine⟨fun σ' H'=>∃t l seen bs rs vr u7,Tn bxD nxD g p k t l seen rs out/\bs++rs.map (·.1)=rs0.map (·.1)/\seen.length=n/\(∀x,some x∈seen->x<n)/\l<n/\TrS n t/\TnAt H0 sa ba seen bs vr t H'/\σ'=[some v0,some (.int (p:Int)),some (.ref sa),some (.ref fa),some (.ref ba),some (.int (l:Int)),some vr,u7],fun σ' H' w=>⟨k,Nat.lt_succ_self k,w⟩,?_⟩
  refine zT8 T ht (by bv_omega) (.inl h2) ?_
  refine⟨_,rfl,_,rfl,sa,_,_,_,rfl,rfl,SqL.of T.see,yP2 h3,_,rfl,?_⟩
  show (if _=true then _ else _)
  rw[if_neg (show ¬decide (oV (some x)=V.non)=true by rw[decide_eq_false (fun z=>nomatch z)];decide)]
  refine bE T ht h3 xn fun vr' T2 ht2 => ?_
  have es:stepT t x=nxD t x:=if_neg (by rw[h2];exact fun z=>nomatch z)
  rw[es] at T2 ht2
  exact⟨_,l,seen,bs,rs,vr',_,tn',eb,hl,hin,hln,ht2,T2,rfl⟩
def AskAt (P:Program) (w:World) (K:KFr) (mg:Str->Option Value) (base:Heap) (k:Nat) (H0:Hp) (sa f:Addr) (n:Nat) (g:Nat->Nat->Nat):Prop:=∀(H:Hp) (b l:Nat) (Q:VK),(∀c o,H0 c=some o->c≠sa->H c=some o)->b<n->l<n->Q (.int ((g b l:Nat):Int)) H->CallAt P w K mg base k H f [.int (b:Int),.int (l:Int)] Q
def spTurn (P:Program) (w:World) (K:KFr) (mg:Str->Option Value) (base:Heap) (kk:Nat):Sp:=fun vs H Q _=>∃(v0:V) (t0:D) (n m0 p:Nat) (sa fa:Addr) (seen0 out:List (Option Nat)) (rs0:List Rv) (g:Nat->Nat->Nat),vs=[v0,.int (p:Int),.ref sa,.ref fa]/\H sa=some (.lst (seen0.map oV))/\Rep H (fun c=>c=sa) v0 t0/\TrS n t0/\seen0.length=n/\n<=60/\p<n/\(∀x,some x∈seen0->x<n)/\AskAt P w K mg base kk H sa fa n g/\(∀b l,b<n->l<n->g b l<n)/\rs0.length<=900/\Tn bxD nxD g p m0 t0 p seen0 rs0 out /\
 ∀(a c:Addr) (H':Hp),H a=none->H c=none->a≠c->(∀d o,H d=some o->d≠sa->H' d=some o)->H' sa=some (.lst (out.map oV))->H' a=some (.tup [.int (p:Int),.ref c])->H' c=some (.tup (rs0.map fun r=>V.int ((r.1:Nat):Int)))->Q (.ref a) H'
section
variable {P:Program}{w:World}{K:KFr}{mg:Str->Option Value}{base:Heap}
theorem yK9 {x:Str}{st:Stmt}{f:Addr}{fd:FuncData}{N ps:List Str}{k kk:Nat}(F:Fun K x x st f fd) (S:zI N ps (zW st)) (hp:ps.length=4) (hN:N.length=8)
  (hbody:∀(cdv:Value) (A:Around) (outer:List Env) (s:Shared) (H:Hp) (E:XK),Room k (A.deeper (envOfC x (zW st) s.heap.objs.size f cdv))->PSs (cxOf CX0 P w K mg base N x (zW st) f cdv A outer s H E).nox (defBody st) (tTn (cxOf CX0 P w K mg base N x (zW st) f cdv A outer s H E).nox kk)) :
  FnOk P w K mg base CX0 (k+1) f fd ps (spTurn P w K mg base kk):=by
 refine F.ok S (fun vs H Q E ⟨v0,t0,n,m0,p,sa,fa,seen0,out,rs0,g,e,_⟩=>by rw[e,hp];rfl) fun cdv A outer s H vs Q E hr h => ?_
 obtain⟨v0,t0,n,m0,p,sa,fa,seen0,out,rs0,g,rfl,h1,h2,h3,h4,h5,h6,h7,h8,h9,h10,h11,q⟩:=h
 refine⟨_,hbody cdv A outer s H E hr,?_⟩
 have st:start N [v0,V.int (p:Int),V.ref sa,V.ref fa]=[some v0,some (.int (p:Int)),some (.ref sa),some (.ref fa),none,none,none,none]:=by
  unfold start
  rw[hN]
  rfl
 rw[st]
 exact yI4 h1 h2 h3 h4 h5 h6 h7 h8 h9 h10 h11 q
end
def rLenV (K:KFr):List V->Hp->VK->Prop:=fun xs H Q=>∃p ys,xs=[.ref p]/\(SqL K H p ys\/SqT K H p ys)/\Q (.int ys.length) H
section
variable (P:Program) (w:World) (K:KFr) (mg:Str->Option Value) (base:Heap)
def AskE (k:Nat) (H0:Hp) (f:Addr) (n:Nat) (g:Nat->Nat->Nat):Prop:=∀(H:Hp) (b l:Nat) (Q:VK),Same H0 H->b<n->l<n->Q (.int ((g b l:Nat):Int)) H->CallAt P w K mg base k H f [.int (b:Int),.int (l:Int)] Q
def tGm (kk:Nat) (wi:TI):TS:=tSeq (tAsg (tOp rRep (tLst (zP (tC .non) tNil)) (tCB (rLenV K) (zP (tVar 0) tNil))) (gName 3)) (tSeq (tAsg (tLst tNil) (gName 4))
 (tSeq (tFor wi (gName 5) (tIfS (tTest (tOp (rIn K true) (tVar 5) (tVar 3))) (tDrop (tBM K "list" rAppend (tVar 4) (zP (tCall (spTurn P w K mg base kk) [] E0 (zP (tOp (rIxT K) (tVar 0) (tVar 5)) (zP (tVar 5) (zP (tVar 3) (zP (tVar 2) tNil))))) tNil))) tNext))
  (tRet (tTup (zP (tVar 4) (zP (tVar 3) tNil))))))
end
def TurnsAt (H0 H:Hp) (as:List Addr) (out:List (Nat×List Rv)):Prop:=as.length=out.length/\∀(j:Nat) (a:Addr) (z:Nat×List Rv),as[j]?=some a->out[j]?=some z->∃c,H0 c=none/\H a=some (.tup [.int ((z.1:Nat):Int),.ref c])/\H c=some (.tup (z.2.map fun r=>V.int ((r.1:Nat):Int)))
structure GmAt (H0:Hp) (sa da:Addr) (seen:List (Option Nat)) (out:List (Nat×List Rv)) (H:Hp):Prop where
 same:Same H0 H
 see:H sa=some (.lst (seen.map oV))
 don:∃as,H da=some (.lst (as.map V.ref))/\TurnsAt H0 H as out/\∀a∈as,H0 a=none
theorem GmAt.up {H0 H H1:Hp}{sa da:Addr}{seen:List (Option Nat)}{out:List (Nat×List Rv)}(G:GmAt H0 sa da seen out H) (s4:Same H H1):GmAt H0 sa da seen out H1:=by
 obtain⟨as,e1,e2,e3⟩:=G.don
 exact⟨G.same.trans s4,s4 _ _ G.see,as,s4 _ _ e1,⟨e2.1,fun j a z ea ez=>by obtain⟨c,q0,q1,q2⟩:=e2.2 j a z ea ez;exact⟨c,q0,s4 _ _ q1,s4 _ _ q2⟩⟩,e3⟩
theorem yH3 {P:Program}{w:World}{K:KFr}{mg:Str->Option Value}{base:Heap}{kk:Nat}{wi:TI}{H0:Hp}{pa fa:Addr}{v1:V}{ds:List D}{n:Nat}{po:List Nat}{out:List (Nat×List Rv)}{fin:List (Option Nat)}{g:Nat->Nat->Nat}{E:Ends}
  (hp:Rep H0 (fun _=>False) (.ref pa) (.tuple ds)) (hl:ds.length=n) (tr:∀d∈ds,TrS n d) (n60:n<=60) (hpo:∀p∈po,p<n) (lpo:po.length<=60) (ask:AskE P w K mg base kk H0 fa n g) (hg:∀b l,b<n->l<n->g b l<n) (few:∀z∈out,z.2.length<=900)
  (tin:∀(p k:Nat) (seen mid:List (Option Nat)) (rs:List Rv),Tn bxD nxD g p k (ds.getD p .none) p seen rs mid->seen.length=n->p<n->(∀x,some x∈seen->x<n)->mid.length=n/\∀x,some x∈mid->x<n)
  (gm:Gm bxD nxD g (fun p=>ds.getD p .none) po (List.replicate n none) out fin)
  (hw:∀(σ:St) (H:Hp) (R:It->Hp->Prop),Same H0 H->σ[0]?=some (some (.ref pa))->σ[1]?=some (some v1)->(∀l H1,Same H H1->H1 l=none->R (Itl K l) (L2.upd H1 l (.lst (po.map fun (p:Nat)=>V.int (p:Int)))))->wi σ H R)
  (k0:∀(a da sa:Addr) (H':Hp),H0 a=none->H0 da=none->H0 sa=none->GmAt H0 sa da fin out H'->H' a=some (.tup [.ref da,.ref sa])->E.rt (.ref a) H') :
  tGm P w K mg base kk wi E [some (.ref pa),some v1,some (.ref fa),none,none,none] H0:=by
 cases hp with
 | @tup _ ys _ rd no rs =>
 have yl:ys.length=n:=by rw[rs.length,hl]
 refine⟨by show 1<=sizeLine;decide,fun l1 h1 => ?_⟩
 have s1:=Same.new h1 (o:=.lst [V.non])
 refine⟨_,rfl,pa,ys,rfl,.inr (.inl (yS rd fun o e=>s1 _ _ e)),l1,_,_,rfl,rfl,zT,by bv_omega,by bv_omega,?_,?_⟩
 ·rw[yl]
  have:(60:Nat)<sizeLine:=by decide
  show 1*_<=_
  bv_omega
 intro sa hsa
 have e0:(List.replicate (ys.length:Int).toNat [V.non]).flatten=(List.replicate n (none:Option Nat)).map oV:=by
  rw[Int.toNat_natCast,yl,List.map_replicate]
  clear hsa
  induction n with
  | zero=>rfl
  | succ m ih=>rw[List.replicate_succ,List.flatten_cons,List.replicate_succ];simp[oV]
 rw[e0]
 have s2:Same H0 (L2.upd (L2.upd H0 l1 (.lst [V.non])) sa (.lst ((List.replicate n (none:Option Nat)).map oV))):=s1.trans (Same.new hsa)
 have sa0:H0 sa=none:=s1.free hsa
 have see0:(L2.upd (L2.upd H0 l1 (.lst [V.non])) sa (.lst ((List.replicate n (none:Option Nat)).map oV))) sa=some (.lst ((List.replicate n (none:Option Nat)).map oV)):=zT
 generalize L2.upd (L2.upd H0 l1 (.lst [V.non])) sa (.lst ((List.replicate n (none:Option Nat)).map oV))=H2 at s2 see0
 refine⟨Nat.zero_le _,fun da hda => ?_⟩
 have s3:=Same.new hda (o:=.lst [])
 have da0:H0 da=none:=s2.free hda
 have sd:sa≠da:=fun z=>by rw[<-z,see0] at hda;cases hda
 have G0:GmAt H0 sa da (List.replicate n none) [] (L2.upd H2 da (.lst [])):=⟨s2.trans s3,s3 _ _ see0,[],zT,⟨rfl,fun j a z ea=>by cases ea⟩,fun a ha=>nomatch ha⟩
 generalize L2.upd H2 da (.lst [])=H3 at G0
 refine hw _ H3 _ G0.same rfl rfl fun l H4 s34 hl0 => ?_
 replace G0:=G0.up s34
 clear s34
 have l0:H0 l=none:=G0.same.free hl0
 have s4:=Same.new hl0 (o:=.lst (po.map fun (p:Nat)=>V.int (p:Int)))
 have ls:l≠sa:=fun z=>by rw[z,G0.see] at hl0;cases hl0
 have ld:l≠da:=fun z=>by obtain⟨as,e,_⟩:=G0.don;rw[z,e] at hl0;cases hl0
 have G1:GmAt H0 sa da (List.replicate n none) [] (L2.upd H4 l (.lst (po.map fun (p:Nat)=>V.int (p:Int)))):=by
  obtain⟨as,e1,e2,e3⟩:=G0.don
  exact⟨G0.same.trans s4,s4 _ _ G0.see,as,s4 _ _ e1,⟨e2.1,fun j a z ea ez=>by obtain⟨c,q0,q1,q2⟩:=e2.2 j a z ea ez;exact⟨c,q0,s4 _ _ q1,s4 _ _ q2⟩⟩,e3⟩
 refine yT5 (xs:=po.map fun (p:Nat)=>V.int (p:Int)) (fun i σ H=>∃u5 seen rest dn,σ=[some (.ref pa),some v1,some (.ref fa),some (.ref sa),some (.ref da),u5]/\Gm bxD nxD g (fun p=>ds.getD p .none) (po.drop i) seen rest fin/\dn++rest=out/\dn.length<=i/\GmAt H0 sa da seen dn H/\seen.length=n/\(∀x,some x∈seen->x<n)/\H l=some (.lst (po.map fun (p:Nat)=>V.int (p:Int))))
  ⟨none,_,out,[],rfl,gm,rfl,Nat.zero_le _,G1,List.length_replicate,fun x hx=>(by have:=List.eq_of_mem_replicate hx;cases this),zT⟩ (fun i σ H _ ⟨_,_,_,_,_,_,_,_,_,_,_,e⟩=>SqL.of e) ?_ ?_
 ·rintro i v σ H ev ⟨u5,seen,rest,dn,rfl,gm,eo,ld0,G,hs,hin,hll⟩
  rw[List.getElem?_map] at ev
  obtain⟨p,ep,rfl⟩:=Option.map_eq_some_iff.mp ev
  have hi:=(List.getElem?_eq_some_iff.mp ep).1
  have pn:p<n:=hpo p (List.mem_of_getElem? ep)
  have dr:po.drop i=p::po.drop (i+1):=by
   rw[List.drop_eq_getElem_cons hi]
   rw[List.getElem?_eq_getElem hi] at ep
   rw[Option.some.inj ep]
  rw[dr] at gm
  refine⟨_,rfl,_,rfl,sa,_,rfl,.inl (SqL.of G.see),rfl,bP _,_,rfl,?_⟩
  show (if _=true then _ else _)
  rw[yN6]
  cases gm with
  | skip h gm' =>
   rw[List.contains_iff_mem.mpr h,if_neg (by decide)]
   exact⟨_,seen,rest,dn,rfl,gm',eo,by bv_omega,G,hs,hin,hll⟩
  | @play _ k _ _ mid _ rs1 out' h tn gm' =>
   rw[show seen.contains (some p)=false by rw[<-Bool.not_eq_true,List.contains_iff_mem];exact h,if_pos (by decide)]
   obtain⟨as,d1,d2,d3⟩:=G.don
   have ex:ds[p]?=some (ds.getD p .none):=by
    rw[List.getD,List.getElem?_eq_getElem (by rw[hl];exact pn)]
    rfl
   obtain⟨y,ey,ry⟩:=rs.get ex
   have mo:(p,rs1)∈out:=by rw[<-eo];exact List.mem_append_right _ List.mem_cons_self
   obtain⟨m1,m2⟩:=tin p k seen mid rs1 tn hs pn hin
   refine⟨_,rfl,.inl ⟨rfl,_,SqL.of d1⟩,_,rfl,_,rfl,pa,ys,_,y,rfl,rfl,.inl (yS rd fun o e=>G.same _ _ e),atN ey,_,rfl,_,rfl,_,rfl,y,ds.getD p .none,n,k,p,sa,fa,seen,mid,rs1,g,rfl,G.see,ry.keep (fun b o e _=>G.same b o e) (fun b hb z=>absurd sa0 (by rw[<-z];exact hb)),tr _ (List.mem_of_getElem? ex),hs,n60,pn,hin,?_,hg,few _ mo,tn,?_⟩
   ·intro H1 b l Q keep bn ln q
    exact ask H1 b l Q (fun c o e=>keep c o (G.same _ _ e) (fun z=>by rw[z,sa0] at e;cases e)) bn ln q
   ·intro a c H' ha hc ac keep hsee hta htc
    have dda:=keep _ _ d1 sd.symm
    have aln:as.length<=i:=by rw[d2.1];exact ld0
    refine⟨da,_,_,rfl,rfl,dda,by rw[List.length_map];exact small1000 (by bv_omega),?_⟩
    have nad:∀(x:Addr) (o:HO),H' x=some o->(∀zs,o ≠ .lst zs)->(L2.upd H' da (.lst (as.map V.ref ++ [.ref a]))) x=some o:=fun x o e n'=>by
     rw[zX (fun z=>by rw[z,dda] at e;cases e;exact n' _ rfl)]
     exact e
    refine⟨_,mid,out',dn ++ [(p,rs1)],rfl,gm',by rw[List.append_assoc];exact eo,by rw[List.length_append,List.length_singleton];bv_omega,⟨fun b o e => ?_,?_,as ++ [a],?_,⟨?_,fun j b z eb ez => ?_⟩,fun b hb => ?_⟩,m1,m2,?_⟩
    ·rw[zX (fun z=>by rw[z,da0] at e;cases e)]
     exact keep _ _ (G.same _ _ e) (fun z=>by rw[z,sa0] at e;cases e)
    ·rw[zX sd];exact hsee
    ·rw[zT,List.map_append];rfl
    ·rw[List.length_append,List.length_append,d2.1];rfl
    ·by_cases hj:j<as.length
     ·rw[List.getElem?_append_left hj] at eb
      rw[List.getElem?_append_left (by rw[<-d2.1];exact hj)] at ez
      obtain⟨c',q0,q1,q2⟩:=d2.2 j b z eb ez
      exact⟨c',q0,nad _ _ (keep _ _ q1 (fun w=>by rw[w,G.see] at q1;cases q1)) (fun zs w=>nomatch w),nad _ _ (keep _ _ q2 (fun w=>by rw[w,G.see] at q2;cases q2)) (fun zs w=>nomatch w)⟩
     ·rw[List.getElem?_append_right (by bv_omega)] at eb
      rw[List.getElem?_append_right (by rw[<-d2.1];bv_omega)] at ez
      have hj0:j-as.length=0:=by
       cases q:j-as.length with
       | zero=>rfl
       | succ i=>rw[q] at eb;cases eb
      rw[hj0] at eb
      rw[<-d2.1,hj0] at ez
      cases eb
      cases ez
      exact⟨c,G.same.free hc,nad _ _ hta (fun zs w=>nomatch w),nad _ _ htc (fun zs w=>nomatch w)⟩
    ·rcases List.mem_append.mp hb with q | q
     ·exact d3 b q
     ·rw[List.mem_singleton.mp q]
      exact G.same.free ha
    ·rw[zX ld]
     exact keep _ _ hll ls
 ·rintro σ H ⟨u5,seen,rest,dn,rfl,gm,eo,_,G,hs,hin,hll⟩
  rw[List.length_map,List.drop_length] at gm
  cases gm
  rw[List.append_nil] at eo
  subst eo
  refine⟨_,rfl,_,rfl,by show 2<=sizeLine;decide,fun a ha => ?_⟩
  have s5:=Same.new ha (o:=.tup [V.ref da,V.ref sa])
  obtain⟨as,d1,d2,d3⟩:=G.don
  exact k0 a da sa _ (G.same.free ha) da0 sa0 ⟨G.same.trans s5,s5 _ _ G.see,as,s5 _ _ d1,⟨d2.1,fun j b z eb ez=>by obtain⟨c,q0,q1,q2⟩:=d2.2 j b z eb ez;exact⟨c,q0,s5 _ _ q1,s5 _ _ q2⟩⟩,d3⟩ zT
theorem TrS.next {n x:Nat}{t:D}(h:TrS n t) (hx:x<n):TrS n (nxD t x):=by
 cases h with
 | none=>exact .none
 | @node b ds hb hl hd =>
  show TrS n (ds.getD x .none)
  rw[List.getD,List.getElem?_eq_getElem (by rw[hl];exact hx)]
  exact hd _ (List.getElem_mem ..)
theorem yG4 {n:Nat}{g:Nat->Nat->Nat}(hg:∀b l,b<n->l<n->g b l<n){p k:Nat}{t:D}{l:Nat}{seen mid:List (Option Nat)}{rs:List Rv}(h:Tn bxD nxD g p k t l seen rs mid):TrS n t->seen.length=n->l<n->(∀x,some x∈seen->x<n)->mid.length=n/\∀x,some x∈mid->x<n:=by
 have put:∀(seen:List (Option Nat)) (b y:Nat),(∀x,some x∈seen->x<n)->y<n->∀x,some x∈seen.set b (some y)->x<n:=fun seen b y hin hy x hx=>by
  rcases List.mem_or_eq_of_mem_set hx with z | z
  ·exact hin x z
  ·cases z;exact hy
 induction h with
 | done h=>exact fun _ h1 _ h2=>⟨h1,h2⟩
 | @leafN k t l b seen out rs h1 h2 h3 h4 _ ih =>
  intro ht hl ln hin
  have bn:b<n:=by rw[<-hl];exact (List.getElem?_eq_some_iff.mp h3).1
  exact ih ht (by rw[List.length_set];exact hl) (hg b l bn ln) (put seen b _ hin (hg b l bn ln))
 | @nodeN k t l b seen out rs h1 h2 h3 _ ih =>
  intro ht hl ln hin
  have bn:=(ht.box h2).1
  exact ih (ht.next (hg b l bn ln)) (by rw[List.length_set];exact hl) (hg b l bn ln) (put seen b _ hin (hg b l bn ln))
 | @nodeO k t l b x seen out rs h1 h2 h3 _ ih =>
  intro ht hl ln hin
  exact ih (ht.next (hin x (List.mem_of_getElem? h3))) hl ln hin
def spPlayed (P:Program) (w:World) (K:KFr) (mg:Str->Option Value) (base:Heap) (kk:Nat) (Or:Hp->V->Nat->List Nat->Prop):Sp:=fun vs H Q _=>∃(pa fa:Addr) (v1:V) (ds:List D) (n:Nat) (po:List Nat) (out:List (Nat×List Rv)) (fin:List (Option Nat)) (g:Nat->Nat->Nat),vs=[.ref pa,v1,.ref fa]/\Rep H (fun _=>False) (.ref pa) (.tuple ds)/\ds.length=n/\(∀d∈ds,TrS n d)/\n<=60/\(∀p∈po,p<n)/\po.length<=60/\Or H v1 n po/\AskE P w K mg base kk H fa n g/\(∀b l,b<n->l<n->g b l<n)/\(∀z∈out,z.2.length<=900)/\Gm bxD nxD g (fun p=>ds.getD p .none) po (List.replicate n none) out fin /\
 ∀(a da sa:Addr) (H':Hp),H a=none->H da=none->H sa=none->GmAt H sa da fin out H'->H' a=some (.tup [.ref da,.ref sa])->Q (.ref a) H'
section
variable {P:Program}{w:World}{K:KFr}{mg:Str->Option Value}{base:Heap}
end
theorem zA8 {H:Hp}{cl:Addr}{o:HO}(h:H cl=some o):L2.upd (rmv H cl) cl o=H:=by
 funext b
 by_cases z:b=cl
 ·subst z
  rw[zT,h]
 ·rw[zX z]
  exact yK z
section
variable {P:Program}{w:World}{K:KFr}{mg:Str->Option Value}{base:Heap}
theorem yK8 {H0:Hp}{ps:List Str}{y:Str}{sc:Scope}{q:Str}{f cl oa:Addr}{oc:Obj}{uy:Value}{params:Arguments}{body:Expr}{k n i:Nat}{xs:List Int}(hi:i<2) (S:LamScope ps y sc) (hps:ps.length=2) (L:LamAt H0 f q params body sc [(y,cl)]) (C:H0 cl=some (cellO cl oc)) (hd:oc.data=.cell (some uy)) (rv:RelV (.ref oa) uy) (ho:Rd H0 oa (.tup (xs.map V.int))) (o:Ord n xs)
  (hb:∀(us:List Value) (pm cd ctv:Value),us.length=2->bindArgs (PySem.W.kla_fn "<lambda>" q params body sc [(y,cl)] pm cd ctv) ⟨us,[]⟩=pure (ps.zip us))
  (hbody:∀(H:Hp) (A:Around) (outer:List Env) (s:Shared) (c':Addr),PE (cxLam P w K mg base (ps ++ [y]) q sc f (.ref c') [(y,cl)] A outer s (rmv H cl)) body (tOp (rIxT K) (tVar 2) (tVar i))) :
  AskE P w K mg base (k+1) H0 f n (fun b l=>if i=0 then nxt xs b else nxt xs l):=by
 intro H b l Q s bn ln hq
 have C':=s _ _ C
 have L':=L.ext (fun b o e=>s b o e)
 have oacl:oa≠cl:=fun z=>by
  rw[z] at ho
  rcases ho with ho | ⟨_,ho⟩
  ·rw[C] at ho;cases ho
  ·rw[C] at ho;cases ho
 refine⟨?_,fun A outer s1 us hr e0 r => ?_⟩
 ·obtain⟨c',ctv,pm,o2,u,v,ws,tk,hf,_⟩:=L'
  exact⟨_,_,_,hf,rfl⟩
 ·have hl:us.length=2:=by rw[<-r.length];rfl
  refine yS6 S hr e0 L' C' hd rv (fun pm cd ctv=>hb us pm cd ctv hl) (by rw[hps];rfl) r (fun c'=>hbody H A outer s1 c') ?_
  have gt:∀c:Nat,c<n->atI (xs.map V.int) (c:Int)=some (V.int ((nxt xs c:Nat):Int)):=fun c hc=>by
   rw[uS,vY (by rw[o.len];exact hc),o.vM hc]
   rfl
  have rd:Rd (rmv H cl) oa (.tup (xs.map V.int)):=yS ho fun o e=>by rw[yK oacl];exact s _ _ e
  have fin:Q (.int ((if i=0 then nxt xs b else nxt xs l:Nat):Int)) (L2.upd (rmv H cl) cl (cellO cl oc)):=by
   rw[zA8 C']
   exact hq
  rcases (show i=0\/i=1 by bv_omega) with rfl | rfl
  ·exact⟨_,rfl,_,rfl,oa,_,_,_,rfl,rfl,.inl rd,gt b bn,fun _=>fin⟩
  ·exact⟨_,rfl,_,rfl,oa,_,_,_,rfl,rfl,.inl rd,gt l ln,fun _=>fin⟩
end
end L2.L3
namespace L2
open PySem PySem.Spec PyProof.Rows
section
variable {X:Cx}{pins:List (Addr×Obj)}{σ:St}{H:Hp}{s:Shared}{m:Str->Option Value}
theorem yA6 {h:Heap}{a:Addr}{m m':Str->Option Value}(x:h.Ns a m) (y:h.Ns a m'):m=m':=by
 obtain⟨o,es,ep,ho,d,_,f⟩:=x
 obtain⟨o',es',ep',ho',d',_,f'⟩:=y
 rw[ho] at ho'
 cases ho'
 rw[d] at d'
 cases d'
 funext n
 rw[<-f n,<-f' n]
theorem Inv.yU3 {Q:VK}{u:Value}{s':Shared}(I:Inv X pins σ H s) (h:CE X.stack X.prog X.w H s Q u s') (hm:s.heap.Ns X.env.locals m):EP X pins σ Q u s'/\s'.heap.Ns X.env.locals m:=by
 refine⟨I.after h,?_⟩
 obtain⟨v,H',os,bare,un,hok,r,q⟩:=h
 obtain⟨o,es,ep,ho,r⟩:=hm
 obtain⟨sl,hL⟩:=un.any ho I.free (by simp)
 exact⟨_,es,ep,hL,r⟩
theorem Inv.chg {b:Addr}{h':Heap}(I:Inv X pins σ H s) (f:FpOk X pins H b) (hm:s.heap.Ns X.env.locals m) (hm':h'.Ns X.env.locals m) (k:∀c o,c≠X.env.locals->c≠b->s.heap.get? c=some o->h'.get? c=some o):Inv X pins σ H { s with heap:=h' }:=by
 obtain⟨f0,f1,f2,f3,f4,f5⟩:=f
 have nb:∀c u,H c=some u->c≠b:=fun c u e z=>by rw[z,f0] at e;cases e
 have nL:∀c u,H c=some u->c≠X.env.locals:=fun c u e z=>by rw[z,I.free] at e;cases e
 refine I.step (g':=s.gens) (d':=s.drawn) (t':=s.toks) (ch:=[b]) (fun c hc => ?_) (fun c o hL _ hc e _=>k c o hL (fun z=>hc (by simp[z])) e) (fun c o hL _ hc e _=>⟨o.slots,k c o hL (fun z=>hc (by simp[z])) e⟩) (fun _ _ _ _ n=>n)
  (fun c o hc e => ?_) (fun _ _ e=>e) (fun _ _ _ e=>e) (fun _ _ e=>e) (fun m1 h1=>by rw[yA6 h1 hm];exact hm') (fun c u e=>(I.hok c u e).stay (fun d v hd q => ?_) (fun _ q=>q) (fun _ _ q=>q) fun _ _ _ q=>q) I.bare
 ·obtain rfl:c=b:=by simpa using hc
  exact⟨f3,f1,f4,f5⟩
 ·by_cases z:c=X.env.locals
  ·obtain⟨o',_,_,ho',_⟩:=hm'
   exact⟨o',by rw[z];exact ho'⟩
  ·exact⟨o,k c o z (fun z=>hc (by simp[z])) e⟩
 ·rcases hd with z | z
  ·rw[z] at q ⊢
   exact k c v (nL c u e) (nb c u e) q
  ·exact k d v (nL d _ z) (nb d _ z) q
theorem Inv.take {b:Addr}{o:HO}(I:Inv X pins σ H s) (f:FpOk X pins H b) (ok:ObjOk X.prog X.w (upd H b o) s.heap b o):Inv X pins σ (upd H b o) s:=by
 obtain⟨f0,f1,f2,f3,f4,f5⟩:=f
 have nb:∀c u,H c=some u->c≠b:=fun c u e z=>by rw[z,f0] at e;cases e
 have up:∀c u,H c=some u->upd H b o c=some u:=fun c u e=>by rw[zX (nb c u e)];exact e
 refine I.step (h':=s.heap) (g':=s.gens) (d':=s.drawn) (t':=s.toks) (ch:=[b]) (fun c hc => ?_) (fun c o _ _ _ e _=>e) (fun c o _ _ _ e _=>⟨o.slots,e⟩) (fun c o hc _ n=>by rw[zX (fun z=>hc (by simp[z]))];exact n)
  (fun c o _ e=>⟨o,e⟩) (fun c _ e=>up c _ e) (fun c _ _ e=>up c _ e) (fun c _ e=>up c _ e) (fun m1 h1=>h1) (fun c u e => ?_) I.bare
 ·obtain rfl:c=b:=by simpa using hc
  exact⟨f3,f1,f4,f5⟩
 ·by_cases z:c=b
  ·subst z
   rw[zT] at e
   cases e
   exact ok
  ·rw[zX z] at e
   exact (I.hok c u e).stay (fun d v _ q=>q) (fun d q=>up d _ q) (fun d _ q=>up d _ q) fun d _ _ q=>up d _ q
theorem Inv.sub {pins':List (Addr×Obj)}(I:Inv X pins σ H s) (h:∀p∈pins',p∈pins):Inv X pins' σ H s:=I.xT fun p hp=>I.pin p (List.mem_append_right _ (h p hp))
theorem FpOk.at {b:Addr}{H':Hp}(f:FpOk X pins H b) (h:H' b=none):FpOk X pins H' b:=⟨h,f.2⟩
structure Two (X:Cx) (pins:List (Addr×Obj)) (σ:St) (m:Str->Option Value) (a kS:Addr) (e1:Nat) (ks:List Value) (e:Nat) (H:Hp) (s:Shared):Prop where
 inv:Inv X pins σ H s
 ns:s.heap.Ns X.env.locals m
 fk:FpOk X pins H kS
 fa:FpOk X pins H a
 ne:kS≠a
 gk:s.heap.get? kS=some (seqObj "list" (List.toArray ks) e)
 ga:s.heap.get? a=some (seqObj "list" #[] e1)
theorem Two.pinned {a kS:Addr}{e1 e:Nat}{ks:List Value}(T:Two X pins σ m a kS e1 ks e H s):Inv X ((kS,seqObj "list" (List.toArray ks) e)::(a,seqObj "list" #[] e1)::pins) σ H s:=by
 refine T.inv.xT fun p hp => ?_
 rcases List.mem_cons.mp hp with rfl | hp
 ·exact⟨T.gk,T.fk.1,T.fk.2.1,T.fk.2.2.1,fun v z=>nomatch z⟩
 ·rcases List.mem_cons.mp hp with rfl | hp
  ·exact⟨T.ga,T.fa.1,T.fa.2.1,T.fa.2.2.1,fun v z=>nomatch z⟩
  ·exact T.inv.pin p (List.mem_append_right _ hp)
theorem Two.call {a kS:Addr}{e1 e:Nat}{ks:List Value}{Q:VK}{u:Value}{s':Shared}(T:Two X pins σ m a kS e1 ks e H s) (h:CE X.stack X.prog X.w H s Q u s'):∃v H',Two X pins σ m a kS e1 ks e H' s'/\RelV v u/\Q v H':=by
 obtain⟨⟨v,H',I,r,q⟩,ns⟩:=T.pinned.yU3 h T.ns
 have p1:=I.pin _ (List.mem_append_right _ (List.mem_cons_self ..))
 have p2:=I.pin _ (List.mem_append_right _ (List.mem_cons_of_mem _ (List.mem_cons_self ..)))
 exact⟨v,H',⟨I.sub fun p hp=>List.mem_cons_of_mem _ (List.mem_cons_of_mem _ hp),ns,T.fk.at p1.2.1,T.fa.at p2.2.1,T.ne,p1.1,p2.1⟩,r,q⟩
theorem Two.fr {a kS:Addr}{e1 e:Nat}{ks:List Value}(T:Two X pins σ m a kS e1 ks e H s):Fr X.base X.env.locals s.heap m:=⟨T.ns,T.inv.bk,Nat.le_trans T.inv.ok.bsz T.inv.ok.above⟩
theorem FpOk.nobase {b:Addr}(f:FpOk X pins H b) (I:Inv X pins σ H s):X.base.get? b=none:=by
 cases e:X.base.get? b with
 | none=>rfl
 | some o =>
  rcases f.2.2.2.1 with z | z
  ·exact absurd z (I.ok.noex b o e)
  ·exact absurd (Nat.lt_of_lt_of_le (Heap.lt_size e) (Nat.le_trans I.ok.bsz z)) (Nat.lt_irrefl _)
theorem Two.newsK {a kS:Addr}{e1 e:Nat}{ks:List Value}(T:Two X pins σ m a kS e1 ks e H s):News X.base X.env.locals s.heap ((kS,seqObj "list" (List.toArray ks) e)::rest X.base s.heap X.env.locals kS):=bL T.fk.2.1 (T.fk.nobase T.inv) T.gk
theorem Two.setK {a kS:Addr}{e1 e c:Nat}{ks ks':List Value}{h':Heap}(T:Two X pins σ m a kS e1 ks e H s) (F:Fr X.base X.env.locals h' m) (N:News X.base X.env.locals h' ((kS,seqObj "list" (List.toArray ks') c)::rest X.base s.heap X.env.locals kS)):Two X pins σ m a kS e1 ks' c H { s with heap:=h' }:=by
 have kp:=jV (fun b o e=>T.inv.bk b o e) F fun p hp=>N p (List.mem_cons_of_mem _ hp)
 exact⟨T.inv.chg T.fk T.ns F.ns kp,F.ns,T.fk,T.fa,T.ne,(N _ (List.mem_cons_self ..)).1,kp _ _ T.fa.2.1 T.ne.symm T.ga⟩
theorem Two.setA {a kS:Addr}{e1 e c:Nat}{ks:List Value}{out:List V}{its:List Value}{h':Heap}(T:Two X pins σ m a kS e1 ks e H s) (F:Fr X.base X.env.locals h' m) (N:News X.base X.env.locals h' ((a,PySem.W.listOf (List.toArray its) c)::rest X.base s.heap X.env.locals a)) (hz:out.length<=sizeLine) (r:Vals out its):Inv X pins σ (upd H a (.lst out)) { s with heap:=h' }:=by
 have kp:=jV (fun b o e=>T.inv.bk b o e) F fun p hp=>N p (List.mem_cons_of_mem _ hp)
 have I:=T.inv.chg T.fa T.ns F.ns kp
 exact I.take T.fa ⟨hz,its,c,r,(N _ (List.mem_cons_self ..)).1⟩
end
end L2
namespace L2
open PySem PySem.Spec PyProof.Rows PySem.W
def KeyAt (H:Hp) (op:Nat->Int) (as:List Addr):Prop:=∀(j:Nat) (k:Addr),as[j]?=some k->H k=some (.tup [.int (op j),.int (j:Int)])
def ItemsFrom (i:Nat) (r:List Value):Prop:=∀(j:Nat) (v:Value),r[j]?=some v->∃t,v=.int ((i+j:Nat):Int) t
section
variable {X:Cx}{pins:List (Addr×Obj)}{σ:St}{H:Hp}{s:Shared}{m:Str->Option Value}{A:Around}
def AskK (X:Cx) (A:Around) (pins:List (Addr×Obj)) (σ:St) (H0:Hp) (f:Addr) (n:Nat) (op:Nat->Int):Prop:=∀(i:Nat) (t:Tok) (H:Hp) (s:Shared),i<n->Ext H0 H->Inv X pins σ H s ->
 codeAny (model X.prog X.w) A (.call (.ref f) ⟨[.int (i:Int) t],[]⟩) (CR CX0 X.stack X.prog X.w H s (fun v H'=>∃k,v=.ref k/\H k=none/\H'=upd H k (.tup [.int (op i),.int (i:Int)])) E0) s
theorem zK1 {a kS:Addr}{e1 e n i:Nat}{op:Nat->Int}{H0:Hp}{f:Addr}{t:Tok}{as:List Addr}{R:Value->Shared->Prop}(ask:AskK X A pins σ H0 f n op) (hi:i<n) (T:Two X pins σ m a kS e1 (as.map Value.ref) e H s) (x:Ext H0 H) (l:as.length=i) (ka:KeyAt H op as)
  (h:∀k H' s',Two X pins σ m a kS e1 (as.map Value.ref) e H' s'->Ext H0 H'->KeyAt H' op (as ++ [k])->R (.ref k) s'):wpAny (model X.prog X.w) A (call (.ref f) [.int (i:Int) t]) R (fun _ _=>False) s:=by
 refine wpAny_call (codeAny_mono (ask i t H s hi x T.inv) fun r s' hq => ?_)
 cases r with
 | error e=>exact False.elim hq
 | ok fl =>
  cases fl with
  | ret u =>
   obtain⟨v,H',T',rv,k,rfl,hk,rfl⟩:=T.call hq
   obtain rfl:u=Value.ref k:=rv
   have e1:Ext H (upd H k (.tup [.int (op i),.int (i:Int)])):=Ext.new hk
   refine h k _ s' T' (x.trans e1) fun j k' e => ?_
   by_cases hj:j<as.length
   ·rw[List.getElem?_append_left hj] at e
    exact e1 _ _ (ka j k' e)
   ·rw[List.getElem?_append_right (by bv_omega)] at e
    have hj0:j=as.length:=by
     cases q:j-as.length with
     | zero=>bv_omega
     | succ z=>rw[q] at e;cases e
    subst hj0
    rw[Nat.sub_self] at e
    cases e
    rw[zT,l]
  | _=>exact False.elim hq
theorem zS9 {a kS:Addr}{e1 n:Nat}{op:Nat->Int}{H0:Hp}{f:Addr}{Fin:List Value->Nat->Shared->Prop}(ask:AskK X A pins σ H0 f n op)
  (fin:∀as e H s,as.length=n->Two X pins σ m a kS e1 (as.map Value.ref) e H s->Ext H0 H->KeyAt H op as->Fin (as.map Value.ref) e s):∀(r:List Value) (i:Nat) (as:List Addr) (e:Nat) (H:Hp) (s:Shared),ItemsFrom i r->i+r.length=n->as.length=i->Two X pins σ m a kS e1 (as.map Value.ref) e H s->Ext H0 H->KeyAt H op as ->
   KatKeys X.prog X.w A X.base X.env.locals m kS (.ref f) Fin r (as.map Value.ref) e s
 | [],i,as,e,H,s,_,hn,l,T,x,ka=>KatKeys.nil (fin as e H s (by rw[l];simpa using hn) T x ka)
 | v::r,i,as,e,H,s,it,hn,l,T,x,ka=>by
  obtain⟨t,rfl⟩:=it 0 v rfl
  rw[List.length_cons] at hn
  refine KatKeys.cons (zK1 ask (by bv_omega) T x l ka fun k H' s' T' x' ka' => ?_)
  refine KatBack.intro T'.fr T'.newsK (UpdF.head fK) fun h' c F' N' => ?_
  have e0:as.map Value.ref ++ [Value.ref k]=(as ++ [k]).map Value.ref:=by rw[List.map_append];rfl
  rw[e0] at N' ⊢
  exact zS9 ask fin r (i+1) (as ++ [k]) c H' _ (fun j v hv=>by obtain⟨t,e⟩:=it (j+1) v (by simpa using hv);exact⟨t,by rw[e];congr 2;bv_omega⟩) (by bv_omega) (by rw[List.length_append,l];rfl) (T'.setK F' N') x' ka'
theorem yR1 {p q:Int}{its:List Value}(r:Vals [V.int p,V.int q] its):∃t u,its=[.int p t,.int q u]:=by
 match its,r with
 | [],r=>cases r
 | [_],r=>have:=r.length;cases this
 | _::_::_::_,r=>have:=r.length;cases this
 | [a,b],r =>
  obtain⟨u1,e1,t,rfl⟩:=r.get (i:=0) rfl
  obtain⟨u2,e2,u,rfl⟩:=r.get (i:=1) rfl
  cases e1
  cases e2
  exact⟨t,u,rfl⟩
theorem aV {op:Nat->Int}{as:List Addr}(ok:HOk X.prog X.w H s.heap) (ka:KeyAt H op as){j:Nat}{k:Addr}(e:as[j]?=some k):∃o n t u,s.heap.get? k=some o/\o.cls=.type "tuple"/\o.data=.seq #[.int (op j) t,.int (j:Int) u] n:=by
 obtain⟨_,its,r,o,ho,hc,⟨n,hd⟩,_⟩:=ok k _ (ka j k e)
 obtain⟨t,u,rfl⟩:=yR1 r
 exact⟨o,n,t,u,ho,hc,hd⟩
theorem zT6 {op:Nat->Int}{h:Heap}:∀(as:List Addr) (i:Nat),(∀(j:Nat) (k:Addr),as[j]?=some k->∃o n t u,h.get? k=some o/\o.cls=.type "tuple"/\o.data=.seq #[.int (op (i+j)) t,.int ((i+j:Nat):Int) u] n)->∃fs,fs.length=as.length/\KatTups h (as.map Value.ref) fs/\∀v∈fs,∃z t,v=.int z t
 | [],_,_=>⟨[],rfl,KatTups.nil,fun v hv=>nomatch hv⟩
 | k::as,i,ka=>by
  obtain⟨o,n,t,u,ho,hc,hd⟩:=ka 0 k rfl
  obtain⟨fs,hl,T,hf⟩:=zT6 as (i+1) fun j k' e=>by
   have:=ka (j+1) k' (by simpa using e)
   rw[show i+(j+1)=i+1+j by bv_omega] at this
   exact this
  refine⟨.int (op (i+0)) t::fs,by rw[List.length_cons,List.length_cons,hl],KatTups.cons ho hc hd (by rfl) T,fun v hv => ?_⟩
  rcases List.mem_cons.mp hv with rfl | hv
  ·exact⟨_,t,rfl⟩
  ·exact hf v hv
theorem yL1 {op:Nat->Int}{as:List Addr}{n i j:Nat}{C:Bool->Shared->Prop}(ok:HOk X.prog X.w H s.heap) (ka:KeyAt H op as) (l:as.length=n) (n60:n<=60) (hi:i<n) (hj:j<n) (h:C (decide (op i*100+(i:Int)<op j*100+(j:Int))) s):kas_ask X.prog X.w A (tuples' true) (as.map Value.ref) i j C s:=by
 unfold kas_ask
 have ei:as[i]?=some as[i]:=List.getElem?_eq_getElem (by bv_omega)
 have ej:as[j]?=some as[j]:=List.getElem?_eq_getElem (by bv_omega)
 have gi:(as.map Value.ref).getD i Value.none=.ref as[i]:=by rw[List.getD,List.getElem?_map,ei];rfl
 have gj:(as.map Value.ref).getD j Value.none=.ref as[j]:=by rw[List.getD,List.getElem?_map,ej];rfl
 rw[gi,gj]
 obtain⟨o,n1,t,u,ho,hc,hd⟩:=aV ok ka ei
 obtain⟨o',n1',t',u',ho',hc',hd'⟩:=aV ok ka ej
 refine kat_lt ho hd ho' hd' ?_
 show KatLex _ _ _ true _ C [(_,_),(_,_)] 0 s
 refine kat_cons (wpAny_eqBool_int (kat_go (fun e => ?_) fun e => ?_))
 ·have e:op i=op j:=by simpa using e
  refine kat_yes (kat_cons (wpAny_eqBool_int (kat_go (fun e2 => ?_) fun e2 => ?_)))
  ·have e2:(i:Int)=j:=by simpa using e2
   refine kat_yes (kat_nil ?_)
   rw[decide_eq_false (by bv_omega)] at h
   exact h
  ·have e2:¬(i:Int)=j:=by simpa using e2
   refine kat_no (kat_one _ _ (lt_int ?_))
   have:decide ((i:Int)<j)=decide (op i*100+(i:Int)<op j*100+(j:Int)):=decide_eq_decide.mpr (by bv_omega)
   show C _ s
   rw[this]
   exact h
 ·have e:¬op i=op j:=by simpa using e
  refine kat_no (oneLt_int ?_)
  have:decide (op i<op j)=decide (op i*100+(i:Int)<op j*100+(j:Int)):=decide_eq_decide.mpr (by bv_omega)
  rw[this]
  exact h
end
end L2
namespace L2
open PySem PySem.Spec PyProof.Rows PySem.W MR
def poK (n:Nat) (op:Nat->Int):List Nat:=if n<2 then List.range n else byK n fun i=>op i*100+(i:Int)
theorem jF {n:Nat}{op:Nat->Int}(h6:n<=6):(poK n op).Perm (List.range n)/\(poK n op).Pairwise fun a b=>op a*100+(a:Int)<op b*100+(b:Int):=by
 unfold poK
 by_cases h:n<2
 ·rw[if_pos h]
  rcases (show n=0\/n=1 by bv_omega) with rfl | rfl
  ·exact⟨.refl _,.nil⟩
  ·exact⟨.refl _,by simp⟩
 ·rw[if_neg h]
  exact (zE5 (by bv_omega) h6 fun i j hi hj e=>by bv_omega).2
section
variable {X:Cx}{pins:List (Addr×Obj)}{σ:St}{H:Hp}{s:Shared}{m:Str->Option Value}{A:Around}
theorem bB {a kS:Addr}{e1 e:Nat}{ks its:List Value}{n:Nat}{po:List Nat}{P:Shared->Prop}(T:Two X pins σ m a kS e1 ks e H s) (it:ItemsFrom 0 its) (hn:its.length=n) (n60:n<=60) (lt:∀p∈po,p<n) (ln:po.length=n)
  (h:∀s',Inv X pins σ (upd H a (.lst (po.map fun (p:Nat)=>V.int (p:Int)))) s'->P s'):KatFin X.base X.env.locals m kS a ks e e1 (po.map fun i=>its.getD i Value.none) P s:=by
 refine KatFin.intro T.fr T.newsK (UpdF.head fK) fun h' c F' N' => ?_
 have T2:=T.setK (ks':=[]) F' N'
 refine KasFin.intro T2.fr (bL T2.fa.2.1 (T2.fa.nobase T2.inv) T2.ga) (UpdF.head fK) fun h2 c2 F2 N2 => ?_
 refine h _ (T2.setA F2 N2 ?_ ?_)
 ·rw[List.length_map,ln]
  have:(60:Nat)<sizeLine:=by decide
  bv_omega
 ·refine L2.L3.qY (by rw[List.length_map,List.length_map]) fun i x y hx hy => ?_
  rw[List.getElem?_map] at hx hy
  obtain⟨p,ep,rfl⟩:=Option.map_eq_some_iff.mp hx
  rw[ep] at hy
  have hy:some (its.getD p Value.none)=some y:=hy
  cases hy
  have pn:=lt p (List.mem_of_getElem? ep)
  have eg:its[p]?=some (its.getD p Value.none):=by
   rw[List.getD,List.getElem?_eq_getElem (by bv_omega)]
   rfl
  obtain⟨t,et⟩:=it p _ eg
  refine⟨t,?_⟩
  rw[et,Nat.zero_add]
theorem yX8 {a:Addr}{n e0:Nat}{op:Nat->Int}{f:Addr}{its:List Value}{P:PySem.Fin->Shared->Prop}{E:Value->Shared->Prop}(I:Inv X pins σ H s) (fa:FpOk X pins H a) (hsz:s.heap.objs.size=a+1) (ga:s.heap.get? a=some (seqObj "list" its.toArray e0)) (it:ItemsFrom 0 its) (hn:its.length=n) (h2:2<=n) (h6:n<=6)
  (ask:AskK X A pins σ H f n op) (h:∀H' s',Ext H H'->H' a=none->Inv X pins σ (upd H' a (.lst ((poK n op).map fun (p:Nat)=>V.int (p:Int)))) s'->P (.done (.ret .none)) s') :
  wpAny (model X.prog X.w) A (ksk_tree a (.ref f) false) P E s:=by
 obtain⟨m,ns,_⟩:=id I.loc
 have F:Fr X.base X.env.locals s.heap m:=⟨ns,I.bk,Nat.le_trans I.ok.bsz I.ok.above⟩
 have ab:=fa.nobase I
 obtain⟨b1,b2,b3⟩:=zE5 (n:=n) (κ:=fun i=>op i*100+(i:Int)) h2 h6 fun i j hi hj e=>by bv_omega
 have ep:poK n op=byK n fun i=>op i*100+(i:Int):=if_neg (by bv_omega)
 refine kat_keyed F (news:=rest X.base s.heap X.env.locals a) (fun p hp=>(bL fa.2.1 ab ga) p (List.mem_cons_of_mem _ hp)) ga fa.2.1 ab fK (by bv_omega) (by bv_omega) fun kS e1 h' F' N' hlt hall => ?_
 have gk:=(N' _ (List.mem_cons_self ..)).1
 have ga':=(N' _ (List.mem_cons_of_mem _ (List.mem_cons_self ..))).1
 have kp:=jV (fun b o e=>I.bk b o e) F' fun p hp=>N' p (List.mem_cons_of_mem _ (List.mem_cons_of_mem _ hp))
 have sk:s.heap.objs.size<=kS:=Nat.le_trans (Nat.le_of_eq hsz) (Nat.succ_le_of_lt hlt)
 have fk:FpOk X pins H kS:=I.fpOk sk (I.hok.fresh sk)
 have T:Two X pins σ m a kS e1 (([]:List Addr).map Value.ref) 0 H { s with heap:=h' }:=⟨I.chg fa ns F'.ns kp,F'.ns,fk,fa,Nat.ne_of_gt hlt,gk,ga'⟩
 refine zS9 ask (fun as e H' s' la T' x ka => ?_) its 0 [] 0 H _ it (by bv_omega) rfl T (Ext.refl H) fun j k z=>by cases z
 obtain⟨fs,lf,kt,ft⟩:=zT6 (h:=s'.heap) as 0 fun j k z=>by
  rw[Nat.zero_add]
  exact aV T'.inv.hok ka z
 refine kat_kind (T:=.type "int") kt (by bv_omega) (fun v hv => ?_) (by decide) ?_
 ·obtain⟨z,t,rfl⟩:=ft v hv
  exact .now
 show (kas_sort its.length).kasWp (kas_ask X.prog X.w A (tuples' true) (katRev false (as.map Value.ref))) _ s'
 rw[hn]
 refine yZ5 (n:=n) (J:=fun z=>z=s') (lt:=fun i j=>decide (op i*100+(i:Int)<op j*100+(j:Int))) (fun i j C z hi hj jz hc => ?_) _ _ _ b1 rfl fun z jz => ?_
 ·subst jz
  exact yL1 T'.inv.hok ka la (by bv_omega) hi hj (hc _ rfl)
 ·subst jz
  have mem:∀p∈poK n op,p<n:=fun p hp=>by
   rw[ep] at hp
   exact List.mem_range.mp (b2.mem_iff.mp hp)
  have len:(poK n op).length=n:=by rw[ep,b2.length_eq,List.length_range]
  have fin:=bB (po:=poK n op) (P:=fun s4=>P (.done (.ret .none)) s4) T' it hn (by bv_omega) mem len fun s4 I4=>h H' s4 x T'.fa.1 I4
  rw[ep] at fin
  exact fin
end
section
variable {X:Cx}{pins:List (Addr×Obj)}{σ:St}{H:Hp}{s:Shared}{m:Str->Option Value}{A:Around}
theorem yJ5 {a kS:Addr}{e1 e:Nat}{k v:Value}{P:PySem.Fin->Shared->Prop}{E:Value->Shared->Prop}(h:KatFin X.base X.env.locals m kS a [k] e e1 [v] (fun s'=>P (.done (.ret .none)) s') s):wpAny (model X.prog X.w) A (ksk_end a false #[v] e1 (.ref kS) #[k]) P E s:=by
 unfold ksk_end
 dsimp only
 rw[if_neg (by decide),if_pos (by show 1<2;decide),if_pos (by show 1<2;decide)]
 refine wpAny_bind (wpAny_pure ?_)
 rw[StateT.run_pure]
 refine wpAny_bind (wpAny_pure ?_)
 dsimp only
 exact kat_tail (ks:=[k]) (out:=[v]) (b:=false) (by show ((#[k].zip #[v]).map (·.2))=#[v];simp) (by show 1<64;decide) (by show 1<64;decide) rfl h
theorem yV1 {a:Addr}{e0:Nat}{op:Nat->Int}{f:Addr}{v:Value}{P:PySem.Fin->Shared->Prop}{E:Value->Shared->Prop}(I:Inv X pins σ H s) (fa:FpOk X pins H a) (hsz:s.heap.objs.size=a+1) (ga:s.heap.get? a=some (seqObj "list" #[v] e0)) (it:ItemsFrom 0 [v])
  (ask:AskK X A pins σ H f 1 op) (h:∀H' s',Ext H H'->H' a=none->Inv X pins σ (upd H' a (.lst ((poK 1 op).map fun (p:Nat)=>V.int (p:Int)))) s'->P (.done (.ret .none)) s') :
  wpAny (model X.prog X.w) A (ksk_tree a (.ref f) false) P E s:=by
 obtain⟨m,ns,_⟩:=id I.loc
 have one:(1:Nat)<=sizeLine:=by decide
 obtain⟨e1,g1⟩:∃e1,(s.heap.update a (Obj.mapSeq fun _=>(#[]:Array Value))).get? a=some (seqObj "list" #[] e1):=⟨_,get?_update_seq ga fun _=>#[]⟩
 have sz1:((s.heap.update a (Obj.mapSeq fun _=>(#[]:Array Value))).push (seqObj "tuple" #[v] 0)).objs.size=a+2:=by rw[size_push',Heap.size_update,hsz]
 have sk:s.heap.objs.size<=((s.heap.update a (Obj.mapSeq fun _=>(#[]:Array Value))).push (seqObj "tuple" #[v] 0)).objs.size:=by rw[sz1,hsz];exact Nat.le_succ _
 have ne1:((s.heap.update a (Obj.mapSeq fun _=>(#[]:Array Value))).push (seqObj "tuple" #[v] 0)).objs.size≠a:=by rw[sz1];exact Nat.ne_of_gt (Nat.lt_succ_of_lt (Nat.lt_succ_self a))
 unfold ksk_tree
 refine wpAny_bind (listItems_at ga rfl (wpAny_bind (listUpdate_at ga rfl (wpAny_bind (seqEpoch_at g1 rfl (wpAny_bind (wpAny_newTuple (wpAny_bind (wpAny_newList (wpAny_holding ?_) (Nat.zero_le _))) one)))) one (Nat.zero_le _))))
 have kp:∀c o,c≠a->s.heap.get? c=some o->(((s.heap.update a (Obj.mapSeq fun _=>(#[]:Array Value))).push (seqObj "tuple" #[v] 0)).push (seqObj "list" #[] 0)).get? c=some o:=fun c o hc e=>Heap.get?_push_of_some _ (Heap.get?_push_of_some _ ((Heap.get?_update_other _ _ (Ne.symm hc)).trans e))
 have ns':(((s.heap.update a (Obj.mapSeq fun _=>(#[]:Array Value))).push (seqObj "tuple" #[v] 0)).push (seqObj "list" #[] 0)).Ns X.env.locals m:=by
  obtain⟨o,es,ep,ho,r⟩:=ns
  exact⟨o,es,ep,kp _ _ fa.2.1.symm ho,r⟩
 have T:Two X pins σ m a ((s.heap.update a (Obj.mapSeq fun _=>(#[]:Array Value))).push (seqObj "tuple" #[v] 0)).objs.size e1 (([]:List Addr).map Value.ref) 0 H { s with heap:=((s.heap.update a (Obj.mapSeq fun _=>(#[]:Array Value))).push (seqObj "tuple" #[v] 0)).push (seqObj "list" #[] 0) } :=
  ⟨I.chg fa ns ns' fun c o _ hc e=>kp c o hc e,ns',I.fpOk sk (I.hok.fresh sk),fa,ne1,Heap.get?_push_size _ rfl,Heap.get?_push_of_some _ (Heap.get?_push_of_some _ g1)⟩
 generalize ((s.heap.update a (Obj.mapSeq fun _=>(#[]:Array Value))).push (seqObj "tuple" #[v] 0)).objs.size=kS at T ⊢
 show wpAny (model X.prog X.w) A (ksk_rest a (.ref f) false #[v] e1 (.ref kS)) P E _
 obtain⟨t,rfl⟩:=it 0 v rfl
 unfold ksk_rest
 refine wpAny_bind (wpAny_rule ?_)
 simp only[List.forIn_toArray,List.forIn_cons,List.forIn_nil]
 refine wpAny_bind (wpAny_bind (wpAny_bind (wpAny_attempt (wpAny_mono (zK1 (t:=t) ask (i:=0) (by decide) T (Ext.refl H) rfl (fun j k z=>by cases z) fun k H' s' T' x ka => ?_) (fun _ _ z=>z) fun _ _ z=>z.elim))))
 have e2:=Heap.SameBut.update s'.heap kS (Obj.mapSeq (·.push (Value.ref k)))
 obtain⟨c2,g2⟩:∃c2,(s'.heap.update kS (Obj.mapSeq (·.push (Value.ref k)))).get? kS=some (seqObj "list" (List.toArray [Value.ref k]) c2):=⟨_,get?_update_seq T'.gk (·.push (Value.ref k))⟩
 have kp':∀c o,c≠kS->s'.heap.get? c=some o->(s'.heap.update kS (Obj.mapSeq (·.push (Value.ref k)))).get? c=some o:=fun c o hc e=>(Heap.get?_update_other _ _ (Ne.symm hc)).trans e
 have n2:(s'.heap.update kS (Obj.mapSeq (·.push (Value.ref k)))).Ns X.env.locals m:=by
  obtain⟨o,es,ep,ho,r⟩:=T'.ns
  exact⟨o,es,ep,kp' _ _ T'.fk.2.1.symm ho,r⟩
 have T2:Two X pins σ m a kS e1 [Value.ref k] c2 H' { s' with heap:=s'.heap.update kS (Obj.mapSeq (·.push (Value.ref k))) }:=⟨T'.inv.chg T'.fk T'.ns n2 fun c o _ hc e=>kp' c o hc e,n2,T'.fk,T'.fa,T'.ne,g2,kp' _ _ T'.ne.symm T'.ga⟩
 dsimp only
 refine wpAny_bind (listUpdate_at T'.gk rfl ?_ (Nat.zero_le _) (by show 1<=_;bv_omega))
 refine wpAny_pure ?_
 dsimp only
 refine wpAny_pure (wpAny_bind (listItems_at g2 rfl (yJ5 (m:=m) (e:=c2) ?_)))
 exact bB (po:=poK 1 op) (its:=[_]) T2 it rfl (by show 1<=60;decide) (fun p hp=>by simpa [poK] using hp) (by simp[poK]) fun s4 I4=>h H' s4 x T2.fa.1 I4
theorem zQ7 {prog:Program}{w:World}{s:Shared}{E:Value->Shared->Prop}{Q:List Value->Shared->Prop}{r:Addr}{a b c:Int}{t u v:Tok}{n:Nat}(hh:A.handled=none) (hr:IsRange s.heap r a b c t u v) (sm:Builtin.Range.small a b c=true) (hn:Builtin.Range.rangeSize a b c=n) (hz:n<=1000000)
  (q:∀(h':Heap) tk vs,(∀b o,s.heap.get? b=some o->h'.get? b=some o)->ItemsOf (fun i v=>∃t,v=.int (a+i*c) t) vs n->Q vs.toList { s with heap:=h',toks:=tk }) :
  wpAny (model prog w) A (collect (.ref r)) Q E s:=by
 have big:(2:Nat) ^ 24<=sizeLine:=by decide
 refine zR8 (S:=fun B R x=>B=A/\x={ s with heap:=s.heap.push { cls:=.type "list",data:=.seq #[] } } /\
  ∀h' tk vs e,(∀b o,b≠s.heap.objs.size->x.heap.get? b=some o->h'.get? b=some o)->h'.get? s.heap.objs.size=some { cls:=.type "list",data:=.seq vs e }->ItemsOf (fun i v=>∃t,v=.int (a+i*c) t) vs n->R (.ok (.ret (.ref s.heap.objs.size))) { x with heap:=h',toks:=tk }) (fun B R x y => ?_) ⟨rfl,rfl,fun h' tk vs e keep at_ its=>⟨rfl,vs,e,at_,?_⟩⟩
 ·obtain⟨rfl,rfl,y⟩:=y
  exact wpAny_extend_range (A:=B) hh (Heap.get?_push_of_some _ hr) sm hn (by bv_omega) _ _ _ (Heap.get?_push_size _ rfl) y
 ·exact q h' tk vs (fun b o g=>keep b o (Nat.ne_of_lt (Heap.lt_size g)) (Heap.get?_push_of_some _ g)) its
theorem yV9 {n:Nat}{op:Nat->Int}{f:Addr}{its:List Value}{Q:VK}{E:Value->Shared->Prop}(I:Inv X pins σ H s) (it:ItemsFrom 0 its) (hn:its.length=n) (h1:1<=n) (h6:n<=6) (ask:AskK X A.in1 pins σ H f n op)
  (q:∀H' l,Ext H H'->H' l=none->Q (.ref l) (upd H' l (.lst ((poK n op).map fun (p:Nat)=>V.int (p:Int))))) :
  wpAny (model X.prog X.w) A (newList its >>= fun l=>holding [l] (call (.builtin "list.sort") [l] [(Str.ofString "key",.ref f)]) >>= fun _=>ret l) (fun fin s'=>∃v,fin=.done (.ret v)/\EP X pins σ Q v s') E s:=by
 have fits:its.length<=sizeLine:=by
  have:(60:Nat)<sizeLine:=by decide
  bv_omega
 have go:(s.heap.push (seqObj "list" its.toArray 0)).get? s.heap.objs.size=some (seqObj "list" its.toArray 0):=Heap.get?_push_size _ rfl
 have fa:FpOk X pins H s.heap.objs.size:=I.fpOk (Nat.le_refl _) (I.hok.fresh (Nat.le_refl _))
 have I1:Inv X pins σ H { s with heap:=s.heap.push (seqObj "list" its.toArray 0) }:=I.kept (t':=s.toks) fun b o e=>Heap.get?_push_of_some _ e
 refine wpAny_bind (wpAny_newList (wpAny_bind (wpAny_holding (wpAny_call_entry_kw slot_list_sort ⟨_,go,rfl⟩ entry_list_sort ?_ (ksk_l1 _ _)))) fits)
 show wpAny (model X.prog X.w) A.in1 (Builtin.«list.sort» ⟨[.ref s.heap.objs.size],[(Str.ofString "key",.ref f)]⟩) _ _ _
 rw[ksk_t1]
 have fin:∀H' s',Ext H H'->H' s.heap.objs.size=none->Inv X pins σ (upd H' s.heap.objs.size (.lst ((poK n op).map fun (p:Nat)=>V.int (p:Int)))) s'->∃v,PySem.Fin.done (.ret .none)=.done (.ret v)/\wpAny (model X.prog X.w) A (ret (.ref s.heap.objs.size)) (fun fin s'=>∃v,fin=.done (.ret v)/\EP X pins σ Q v s') E s':=fun H' s' x hn' I'=>⟨_,rfl,wpAny_pure ⟨_,rfl,.ref s.heap.objs.size,_,I',rfl,q H' _ x hn'⟩⟩
 rcases (show n=1\/2<=n by bv_omega) with rfl | h2
 ·match its,hn with
  | [v],_=>exact yV1 I1 fa (size_push' ..) go it ask fin
 ·exact yX8 I1 fa (size_push' ..) go it hn h2 h6 ask fin
end
def opF (ops:List Int):Nat->Int:=fun i=>ops.getD i 0
section
variable {X:Cx}
def rKey (K:KFr):TE:=tTup (zP (tOp (rIxT K) (tVar 1) (tVar 0)) (zP (tVar 0) tNil))
theorem yP4 {A:Around}{pins:List (Addr×Obj)}{σ:St}{H1:Hp}{f cl oa:Addr}{j k n:Nat}{one y q:Str}{sc:Scope}{params:Arguments}{body:Expr}{ops:List Int}(hA:A.frames=X.A.frames) (hr:Room (k+1) A) (S:LamScope [one] y sc) (L:LamAt H1 f q params body sc [(y,cl)]) (hcl:X.env.cells.lookup y=some cl) (hk:X.env.kindOf y=some .cell) (hj:X.N[j]?=some y) (hσ:σ[j]?=some (some (.ref oa))) (ho:Rd H1 oa (.tup (ops.map V.int))) (hl:ops.length=n)
  (hb:∀(us:List Value) (pm cd ctv:Value),us.length=1->bindArgs (kla_fn "<lambda>" q params body sc [(y,cl)] pm cd ctv) ⟨us,[]⟩=pure ([one].zip us))
  (hbody:∀(H:Hp) (outer:List Env) (s:Shared) (c':Addr),PE (cxLam X.prog X.w X.K X.mg X.base ([one] ++ [y]) q sc f (.ref c') [(y,cl)] A outer s H) body (rKey X.K)):AskK X A pins σ H1 f n (opF ops):=by
 intro i t H s hi x I
 obtain⟨c',ctv,pm,oc,u,v,vs,tk,hf,hc',hd,hq⟩:=L.ext x
 obtain⟨m,ns,lk⟩:=I.loc
 obtain⟨uo,rv,look⟩:=lk j y _ hj hσ (.inr (.inl hk))
 have cell:s.heap.IsCell cl (some uo):=by
  rcases look with ⟨z,_⟩ | ⟨_,c,ec,ic⟩
  ·rw[hk] at z;cases z
  ·rw[hcl] at ec;cases ec;exact ic
 have e0:=I.env0
 have e1:Env0 X.prog X.w X.K X.mg X.base A X.stack s H:=⟨hA.trans e0.frames,e0.mod,e0.bs,e0.bsz,e0.funs,e0.frf,e0.hok,e0.bare,e0.tb⟩
 refine zO9 S hr e1 (I.hok f _ hf).1 ⟨c',oc,vs,tk,rfl,(I.hok c' _ hc').1,hd,hq⟩ cell (I.freeC y cl hcl) rv (hb _ _ _ _ rfl) (vs:=[.int (i:Int)]) rfl (.cons ⟨t,rfl⟩ .nil) (fun _=>hbody H X.stack s c') ?_
 have rd:Rd H oa (.tup (ops.map V.int)):=L2.L3.yS ho fun o e=>x _ _ e
 refine⟨_,rfl,_,rfl,oa,_,_,.int (opF ops i),rfl,rfl,.inl rd,?_,?_⟩
 ·rw[L2.L3.atN (x:=i)]
  rw[List.getElem?_map,List.getElem?_eq_getElem (by bv_omega)]
  show some (V.int _)=some (V.int _)
  congr 2
  unfold opF
  rw[List.getD,List.getElem?_eq_getElem (by bv_omega)]
  rfl
 ·exact⟨_,rfl,by show 2<=sizeLine;decide,fun k hk=>⟨k,rfl,hk,rfl⟩⟩
def tSortK (K:KFr) (j:Nat) (t:TA):TE:=fun σ H Q=>t σ H fun vs H1=>∃(p oa:Addr) (n:Nat) (ops:List Int),vs=[.ref p]/\(H1 p=some (.rng 0 (n:Int))\/SqL K H1 p ((List.range n).map fun (i:Nat)=>V.int (i:Int)))/\1<=n/\n<=6/\σ[j]?=some (some (.ref oa))/\Rd H1 oa (.tup (ops.map V.int))/\ops.length=n /\
 ∀H2 l,Ext H1 H2->H2 l=none->Q (.ref l) (upd H2 l (.lst ((poK n (opF ops)).map fun (p:Nat)=>V.int (p:Int))))
theorem zX5 {e:Expr}{p pos kp lpos:Pos}{t:TA}{j k:Nat}{one y x:Str}{c P:Addr}{sc:Scope}{params:Arguments}{body:Expr}(hr:Room (k+3) X.A) (hc:X.calm=true) (hg:Gl X "sorted") (hm:X.mg "sorted" = none) (ha:PA X [e] t)
  (hx:x∈tabNames) (ht:tabIn X.K x=some (c,P)) (hcode:X.env.code=.ref c) (hq:X.env.qual=x ++ ".<locals>.") (hdef:defaultsOf params X.env=([],[])) (hcl:∀cl,X.env.cells.lookup y=some cl->closureFor sc X.env=pure [(y,cl)])
  (S:LamScope [one] y sc) (hk:X.env.kindOf y=some .cell) (hj:X.N[j]?=some y)
  (hb:∀(cl:Addr) (us:List Value) (pm cd ctv:Value),us.length=1->bindArgs (kla_fn "<lambda>" (lamQ x) params body sc [(y,cl)] pm cd ctv) ⟨us,[]⟩=pure ([one].zip us))
  (hbody:∀(A:Around) (H:Hp) (outer:List Env) (s:Shared) (f cl c':Addr),PE (cxLam X.prog X.w X.K X.mg X.base ([one] ++ [y]) (lamQ x) sc f (.ref c') [(y,cl)] A outer s H) body (rKey X.K))
  (hn:autoParam ((("sorted":Str)) ≠ "__name__") zK._auto_1) (hdb:autoParam (((("sorted":Str)) == ("__debug__":Str))=false) zK._auto_1)
  (he:autoParam (backTo pos (starEach [e] X.env)=(false,eval e X.env)::backTo pos (starEach [] X.env)) zY._auto_1) (hpl:autoParam ((backTo pos (starEach [e] X.env)).any (·.1)=false) zY._auto_1) :
  PE X (.Call (.Name "sorted" p) [e] [⟨some (Str.ofString "key"),.Lambda params body sc lpos,kp⟩] pos) (tSortK X.K j t):=by
 intro pins s σ H Q I h
 refine wpAny_Call_Name_kw (gF I hg hm PyProof.Rows.boot_sorted ?_ hn hdb)
 refine callWith_kw (thn (ha pos pins s σ H _ I h) fun us s1 ⟨vs,H1,I1,r1,q1⟩ => ?_) he hpl
 obtain⟨r,oa,n,ops,rfl,src,n1,n6,hσ,ho,hl,q⟩:=q1
 obtain⟨u,rfl,ru⟩:=vals1 r1
 cases ru
 obtain⟨cl,ec⟩:=I1.ok.has y (.inl hk)
 refine kws_cons (thn (zB9 (cl:=[(y,cl)]) hx ht hcode hq hdef (fun _=>hcl cl ec) pins s1 σ H1 (fun v H2=>∃f,v=.ref f/\LamAt H2 f (lamQ x) params body sc [(y,cl)]/\Ext H1 H2) I1 fun f H2 L x _=>⟨f,rfl,L,x⟩) fun uf s2 ⟨vf,H2,I2,r2,f,e2,L,x2⟩ => ?_)
 subst e2
 obtain rfl:uf=Value.ref f:=r2
 refine kws_nil ?_
 show wpAny (model X.prog X.w) X.A (call (.builtin "sorted") [.ref r] [(Str.ofString "key",.ref f)]) (EP X pins σ Q) X.xe s2
 refine call_function_entry_kw kind_sorted plain_sorted entry_sorted (ksk_s1 (.ref r) (.ref f)) ?_
 rw[aD]
 have ho2:Rd H2 oa (.tup (ops.map V.int)):=L2.L3.yS ho fun o e=>x2 _ _ e
 have ask:AskK X X.A.in1.in1 pins σ H2 f n (opF ops):=yP4 (k:=k) rfl (hr.in1.in1) S L ec hk hj hσ ho2 hl (hb cl) fun H outer s c'=>hbody _ H outer s f cl c'
 have fin:∀(its:List Value) (h':Heap) (tk:Nat),(∀b o,s2.heap.get? b=some o->h'.get? b=some o)->ItemsFrom 0 its->its.length=n ->
   wpAny (model X.prog X.w) X.A.in1 (newList its >>= fun l=>holding [l] (call (.builtin "list.sort") [l] [(Str.ofString "key",.ref f)]) >>= fun _=>ret l) (fun fin s'=>∃v,fin=.done (.ret v)/\EP X pins σ Q v s') X.xe { s2 with heap:=h',toks:=tk }:=fun its h' tk kp it ln =>
  yV9 (I2.kept (t':=tk) kp) it ln n1 n6 ask fun H3 l x3 hn3=>q H3 l (x2.trans x3) hn3
 rcases src with hp | hp
 ·obtain⟨t1,t2,t3,eo⟩:=I2.hok r _ (x2 _ _ hp)
  refine wpAny_bind (zQ7 (n:=n) (I.ok.hd hc) eo (small_one (by bv_omega) (by bv_omega) (by bv_omega) (by bv_omega)) ?_ (by bv_omega) fun h' tk vs kp its=>fin _ h' tk kp (fun i v ev => ?_) ?_)
  ·rw[rangeSize_one];split <;> bv_omega
  ·obtain⟨t,e⟩:=its.2 i v (by simpa using ev)
   exact⟨t,by rw[e];simp⟩
  ·rw[Array.length_toList,its.1]
 ·have hp2:SqL X.K H2 r ((List.range n).map fun (i:Nat)=>V.int (i:Int)):=hp.imp (fun z=>L2.L3.yS z fun o e=>x2 _ _ e) id
  obtain⟨its,rv,⟨o,n',ho',hc',_,hd'⟩,hz⟩:=I2.list hp2
  have ln:=rv.length
  rw[List.length_map,List.length_range] at ln
  refine wpAny_bind (wpAny_collect_seq r (.inl rfl) ho' hc' hd' (fun h' kp=>fin its h' s2.toks kp (fun i v ev => ?_) (by bv_omega)) (by rw[List.size_toArray];rw[List.length_map,List.length_range] at hz;bv_omega))
  have hi:i<n:=by
   have:=(List.getElem?_eq_some_iff.mp ev).1
   bv_omega
  obtain⟨u,eu,t,ru⟩:=rv.get (i:=i) (by rw[List.getElem?_map,List.getElem?_range hi];rfl)
  rw[ev] at eu
  cases eu
  exact⟨t,by rw[ru,Nat.zero_add]⟩
end
end L2
namespace L2
open PySem PySem.Spec PyProof.Rows
theorem Fun.okC {P:Program}{w:World}{K:KFr}{mg:Str->Option Value}{base:Heap}{k:Nat}{x qual:Str}{st:Stmt}{f c:Addr}{fd:FuncData}{N ps:List Str}{sp:Sp}(F:Fun K x qual st f fd) (hc:fd.code=.ref c) (S:zI N ps (zW st)) (hl:∀vs H Q E,sp vs H Q E->vs.length=ps.length)
  (hbody:∀(A:Around) (outer:List Env) (s:Shared) (H:Hp) (vs:List V) (Q:VK) (E:XK),Room k (A.deeper (envOfC qual (zW st) s.heap.objs.size f (.ref c)))->sp vs H Q E ->
   ∃t,PSs (cxOf CX0 P w K mg base N qual (zW st) f (.ref c) A outer s H E).nox (defBody st) t/\t { nx:=fun _ H'=>Q .non H',rt:=Q } (start N vs) H):FnOk P w K mg base CX0 (k+1) f fd ps sp:=by
 obtain⟨oc,od,kV,doc,pm,an,cdv,ct,osl,rfl,lk,hcd⟩:=F.ex
 obtain rfl:cdv=.ref c:=hc
 refine zX3 lk hcd S hl fun A outer s H vs Q E hr hsp => ?_
 obtain⟨t,h,q⟩:=hbody A outer s H vs Q E hr hsp
 exact⟨t,h.nox,q⟩
end L2
namespace L2.L3
open PySem PySem.Spec PyProof.Rows MR
variable [CN]
def orK (H:Hp) (v:V) (n:Nat) (po:List Nat):Prop:=∃(oa:Addr) (ops:List Int),v=.ref oa/\Rd H oa (.tup (ops.map V.int))/\ops.length=n/\1<=n/\n<=6/\po=poK n (opF ops)
def wiK (K:KFr):TI:=iList K (tSortK K 1 (zP (tCB rRng (zP (tCB (rLenV K) (zP (tVar 0) tNil)) tNil)) tNil))
theorem yD3 {K:KFr}(H0:Hp) (v1:V) (n:Nat) (po:List Nat) (o:orK H0 v1 n po) (pa:Addr) (ys:List V) (hp:Rd H0 pa (.tup ys)) (hl:ys.length=n) (σ:St) (H:Hp) (R:It->Hp->Prop) (sm:Same H0 H) (e0:σ[0]?=some (some (.ref pa))) (e1:σ[1]?=some (some v1)) (h:∀l H1,Same H H1->H1 l=none->R (Itl K l) (L2.upd H1 l (.lst (po.map fun (p:Nat)=>V.int (p:Int))))):wiK K σ H R:=by
 obtain⟨oa,ops,rfl,ho,lo,n1,n6,rfl⟩:=o
 refine⟨_,e0,pa,ys,rfl,.inr (.inl (yS hp fun o e=>sm _ _ e)),_,rfl,fun p hp => ?_⟩
 have s1:=Same.new hp (o:=.rng 0 (ys.length:Int))
 refine⟨p,oa,n,ops,rfl,.inl (by rw[zT,hl]),n1,n6,e1,yS ho fun o e=>s1 _ _ (sm _ _ e),lo,fun H2 l x hn => ?_⟩
 exact⟨l,rfl,⟨_,SqL.of zT⟩,h l H2 (s1.trans fun b o e=>x b o e) hn⟩
section
variable {P:Program}{w:World}{K:KFr}{mg:Str->Option Value}{base:Heap}
theorem zJ8 {x:Str}{st:Stmt}{f c:Addr}{fd:FuncData}{N ps:List Str}{k kk:Nat}(F:Fun K x x st f fd) (S:zI N ps (zW st)) (hp:ps.length=3) (hN:N.length=6) (hc:fd.code=.ref c)
  (hbody:∀(A:Around) (outer:List Env) (s:Shared) (H:Hp) (E:XK),Room k (A.deeper (envOfC x (zW st) s.heap.objs.size f (.ref c)))->PSs (cxOf CX0 P w K mg base N x (zW st) f (.ref c) A outer s H E).nox (defBody st) (tGm P w K mg base kk (wiK K))) :
  FnOk P w K mg base CX0 (k+1) f fd ps (spPlayed P w K mg base kk orK):=by
 refine F.okC hc S (fun vs H Q E ⟨pa,fa,v1,ds,n,po,out,fin,g,e,_⟩=>by rw[e,hp];rfl) fun A outer s H vs Q E hr h => ?_
 obtain⟨pa,fa,v1,ds,n,po,out,fin,g,rfl,h1,h2,h3,h4,h5,h6,h7,h8,h9,h10,h11,q⟩:=h
 refine⟨_,hbody A outer s H E hr,?_⟩
 have st:start N [V.ref pa,v1,V.ref fa]=[some (.ref pa),some v1,some (.ref fa),none,none,none]:=by
  unfold start
  rw[hN]
  rfl
 rw[st]
 have h1':=h1
 cases h1' with
 | @tup _ ys _ rd no rs =>
  refine yH3 h1 h2 h3 h4 h5 h6 h8 h9 h10 (fun p k seen mid rs1 tn hs pn hin => ?_) h11 (fun σ H' R s' e0 e r => ?_) q
  ·refine yG4 h9 tn ?_ hs pn hin
   rw[List.getD,List.getElem?_eq_getElem (by rw[h2];exact pn)]
   exact h3 _ (List.getElem_mem ..)
  ·exact yD3 H v1 n po h7 pa ys rd (by rw[rs.length,h2]) σ H' R s' e0 e r
end
end L2.L3
namespace L2
open PySem PySem.Spec PyProof.Rows
section
variable {P:Program}{w:World}{outer:List Env}{H:Hp}{s s':Shared}{cl:Addr}{oc:Obj}{Q:VK}{u:Value}
theorem CE.unlend (hn:H cl=none) (e:s.heap.get? cl=some oc) (hf:cl∉frs outer) (h:CE outer P w (upd H cl (cellO cl oc)) s (fun v H2=>H2 cl=some (cellO cl oc)/\Q v (rmv H2 cl)) u s'):CE outer P w H s Q u s':=by
 obtain⟨v,H2,os,bare,un,hok,r,c2,q⟩:=h
 have up:∀b,b≠cl->upd H cl (cellO cl oc) b=H b:=fun b n=>zX n
 have ne:∀b o,H b=some o->b≠cl:=fun b o e z=>by rw[z,hn] at e;cases e
 refine⟨v,rmv H2 cl,os,bare,⟨fun b o g n hb hx => ?_,fun b o g n hb hx => ?_,fun b o g n hx => ?_,fun b o g=>un.there b o g,fun b xs g => ?_,fun b o xs g => ?_,fun b q g => ?_⟩,hok.rmv c2,r,q⟩
 ·by_cases z:b=cl
  ·subst z
   rw[e] at g
   cases g
   exact (hok b _ c2).1
  ·exact un.keep b o g (by rw[up b z];exact n) hb hx
 ·have z:b≠cl:=fun z=>hf (by rw[<-z];exact hb)
  exact un.slot b o g (by rw[up b z];exact n) hb hx
 ·by_cases z:b=cl
  ·rw[z];exact wA
  ·rw[yK z];exact un.free b o g (by rw[up b z];exact n) hx
 ·have z:=ne b _ g
  rw[yK z]
  exact un.tups b xs (by rw[up b z];exact g)
 ·have z:=ne b _ g
  rw[yK z]
  exact un.frzs b o xs (by rw[up b z];exact g)
 ·have z:=ne b _ g
  rw[yK z]
  exact un.tbls b q (by rw[up b z];exact g)
end
section
variable {X:Cx}{k:Nat}{f:Addr}{fd:FuncData}{ps:List Str}{sp:Sp}
theorem yT8 {pins:List (Addr×Obj)}{σ:St}{H:Hp}{s:Shared}{Q:VK}{us:List Value}{vs:List V}{cl:Addr}{y:Str}{j:Nat}{vy:V}(F:FnOk X.prog X.w X.K X.mg X.base CX0 k f fd ps sp) (hr:Room k X.A) (hb:Binds X.K fd ps [])
  (I:Inv X pins σ H s) (r:Vals vs us) (hcl:X.env.cells.lookup y=some cl) (hk:X.env.kindOf y=some .cell) (hfn:X.fn y=true) (hj:X.N[j]?=some y) (hσ:σ[j]?=some (some vy))
  (h:∀oc uy,oc.data=.cell (some uy)->RelV vy uy->H cl=none->sp vs (upd H cl (cellO cl oc)) (fun v H2=>H2 cl=some (cellO cl oc)/\Q v (rmv H2 cl)) E0):wpAny (model X.prog X.w) X.A (call (.ref f) us) (EP X pins σ Q) X.xe s:=by
 obtain⟨m,ns,lk⟩:=id I.loc
 obtain⟨uy,rv,look⟩:=lk j y _ hj hσ (.inr (.inl hk))
 obtain⟨oc,hoc,hd⟩:s.heap.IsCell cl (some uy):=by
  rcases look with ⟨z,_⟩ | ⟨_,c,ec,ic⟩
  ·rw[hk] at z;cases z
  ·rw[hcl] at ec;cases ec;exact ic
 have hn:=I.freeC y cl hcl
 have above:=I.ok.cab y cl hfn hcl
 have nb:X.base.get? cl=none:=Heap.get?_none_of_le (Nat.le_trans I.ok.bsz above)
 have nf:cl∉frs X.stack:=fun z=>by
  rcases List.mem_cons.mp (I.stkSub cl z) with e | e
  ·exact I.cne y cl hcl e
  ·obtain⟨_,o,ho,_⟩:=I.ok.funs.mem e
   exact absurd (Nat.lt_of_lt_of_le (Heap.lt_size ho) above) (Nat.lt_irrefl _)
 have hs:=h oc uy hd rv hn
 have hl:us.length=ps.length:=by rw[<-r.length];exact F.len _ _ _ _ hs
 have bi:=hb s us I.kIn (by rw[List.append_nil];exact hl)
 rw[List.append_nil] at bi
 refine wpAny_call (codeAny_mono (F.run X.A X.stack s _ ⟨us,[]⟩ us vs _ E0 hr (I.env0.lend hn nb nf hoc) bi r hs) fun r s' hq => ?_)
 cases r with
 | error e=>exact False.elim hq
 | ok fl =>
  cases fl with
  | ret u=>exact I.after (CE.unlend hn hoc nf hq)
  | _=>exact False.elim hq
end
def tabUn (K:KFr):Bool:=decide (tabNames.filterMap fun x=>(PySem.W.tabIn K x).map Prod.snd).Nodup
def tabRc (K:KFr) (q:Program):Bool:=tabNames.all fun x=>!(PySem.W.tabIn K x).isSome || ((recsOf q).find? (fun e=>e.name == x)).isSome
theorem zS4 {α β:Type}{f:α->Option β}{p:β}:∀{l:List α}{x y:α},(l.filterMap f).Nodup->x∈l->y∈l->f x=some p->f y=some p->x=y
 | [],_,_,_,h,_,_,_=>nomatch h
 | a::l,x,y,nd,hx,hy,ex,ey=>by
  have sub:(l.filterMap f).Nodup:=by
   rw[List.filterMap_cons] at nd
   split at nd
   ·exact nd
   ·exact (List.nodup_cons.mp nd).2
  have no:∀z,z∈l->f z=some p->f a≠some p:=fun z hz ez ea=>by
   rw[List.filterMap_cons,ea] at nd
   exact (List.nodup_cons.mp nd).1 (List.mem_filterMap.mpr ⟨z,hz,ez⟩)
  rcases List.mem_cons.mp hx with e1 | h1
  ·rcases List.mem_cons.mp hy with e2 | h2
   ·rw[e1,e2]
   ·exact absurd (by rw[<-e1];exact ex) (no y h2 ey)
  ·rcases List.mem_cons.mp hy with e2 | h2
   ·exact absurd (by rw[<-e2];exact ey) (no x h1 ex)
   ·exact zS4 sub h1 h2 ex ey
theorem zD5 {q:Program}{K:Params->KFr}(h1:∀w:World,PySem.W.noTabs (K w.params)=true) (h2:∀w:World,tabUn (K w.params)=true) (h3:∀w:World,tabRc (K w.params) q=true):TabsOk q K:=by
 refine⟨h1,fun w x y c c' P hx hy ex ey => ?_,fun w x hx hs => ?_⟩
 ·have nd:=of_decide_eq_true (h2 w)
  exact zS4 (p:=P) nd hx hy (by rw[ex];rfl) (by rw[ey];rfl)
 ·have z:=List.all_eq_true.mp (h3 w) x hx
  rw[hs] at z
  exact z
theorem yT6 {K:KFr}{h:Heap}{mg:Str->Option Value}{x:Str}{c P f:Addr}{st:Stmt}{fd:FuncData}{ps:List Str}(X:K.In h) (G:h.Ns mainGlobals mg) (t:PySem.W.tabIn K x=some (c,P)) (H:Has K mg x st f fd ps):fd.code=.ref c:=by
 unfold PySem.W.tabIn at t
 split at t
 ·rename_i f' hn
  have e:=PySem.W.mg_of X G hn
  rw[H.m] at e
  cases e
  split at t
  ·rename_i fd' _ hl
   obtain⟨oc,od,kV,doc,pm,an,cdv,ct,osl,ef,lk,_⟩:=H.F.ex
   rw[lk] at hl
   cases hl
   split at t
   ·rename_i c' ec
    split at t
    ·split at t
     ·cases t
      exact ec
     ·cases t
    ·cases t
   ·cases t
  ·cases t
 ·cases t
theorem fQ {K:KFr}{h:Heap}{mg:Str->Option Value}{x:Str}{st:Stmt}{ps:List Str}(X:K.In h) (G:h.Ns mainGlobals mg) (t:(PySem.W.tabIn K x).isSome=true):∃c P,PySem.W.tabIn K x=some (c,P)/\∀f fd,Has K mg x st f fd ps->fd.code=.ref c:=by
 obtain⟨⟨c,P⟩,e⟩:=Option.isSome_iff_exists.mp t
 exact⟨c,P,e,fun f fd H=>yT6 X G e H⟩
end L2
namespace L2.L3
open PySem PySem.Spec PyProof.Rows MR
variable [CN]
def lamG (i:Nat) (xs:List Int):Nat->Nat->Nat:=fun b l=>if i=0 then nxt xs b else nxt xs l
def turnD (z:Nat×List Rv):D:=.tuple [.int (z.1:Int),.tuple (z.2.map fun r=>.int (r.1:Int))]
def oD:Option Nat->D
 | none=>.none
 | some x=>.int (x:Int)
structure PlyIn (i:Nat) (plan openings order:D) (out:List (Nat×List Rv)) (fin:List (Option Nat)):Prop where
 ex:∃(n:Nat) (ds:List D) (ops xs:List Int),plan=.tuple ds/\openings=.tuple (ops.map .int)/\order=.tuple (xs.map .int)/\ds.length=n/\(∀d∈ds,TrS n d)/\ops.length=n/\1<=n/\n<=6/\Ord n xs/\(∀z∈out,z.2.length<=900)/\Gm bxD nxD (lamG i xs) (fun p=>ds.getD p .none) (poK n (opF ops)) (List.replicate n none) out fin
theorem fB {a b:List Int}(h:a.map PyData.int=b.map PyData.int):a=b:=by
 have:=congrArg intsOf h
 rw[intsOf_map,intsOf_map] at this
 exact Option.some.inj this
theorem PlyIn.one {i:Nat}{p o q:D}{out out':List (Nat×List Rv)}{fin fin':List (Option Nat)}(a:PlyIn i p o q out fin) (b:PlyIn i p o q out' fin'):out=out'/\fin=fin':=by
 obtain⟨n,ds,ops,xs,rfl,rfl,rfl,h1,_,h2,_,_,_,_,g⟩:=a.ex
 obtain⟨n',ds',ops',xs',e1,e2,e3,h1',_,h2',_,_,_,_,g'⟩:=b.ex
 cases e1
 obtain rfl:=fB (show ops.map PyData.int=ops'.map PyData.int by injection e2)
 obtain rfl:=fB (show xs.map PyData.int=xs'.map PyData.int by injection e3)
 subst h1
 subst h1'
 exact g.det g'
open Classical in
def ply (i j:Nat) (p o q:D):Res D:=if h:∃z:List (Nat×List Rv)×List (Option Nat),PlyIn i p o q z.1 z.2 then .ok (if j=0 then .list (h.choose.1.map turnD) else .list (h.choose.2.map oD)) else .no
theorem yB2 {i j:Nat}{p o q:D}{out:List (Nat×List Rv)}{fin:List (Option Nat)}(h:PlyIn i p o q out fin):ply i j p o q=.ok (if j=0 then .list (out.map turnD) else .list (fin.map oD)):=by
 have ex:∃z:List (Nat×List Rv)×List (Option Nat),PlyIn i p o q z.1 z.2:=⟨(out,fin),h⟩
 obtain⟨e1,e2⟩:=ex.choose_spec.one h
 unfold ply
 rw[dif_pos ex,e1,e2]
def eP (i j:Nat):Ev->Res D:=fun ρ=>match ρ[0]?,ρ[1]?,ρ[2]? with
 | some (some a),some (some b),some (some c)=>ply i j a b c
 | _,_,_=>.no
theorem yL8 {i j:Nat}{ρ:Ev}{φ:D->Prop}{ψ:Str->Prop}(h:(eP i j ρ).post φ ψ):∃a b c out fin,ρ[0]?=some (some a)/\ρ[1]?=some (some b)/\ρ[2]?=some (some c)/\PlyIn i a b c out fin/\φ (if j=0 then .list (out.map turnD) else .list (fin.map oD)):=by
 unfold eP at h
 split at h
 ·rename_i a b c e1 e2 e3
  unfold ply at h
  split at h
  ·rename_i ex
   exact⟨a,b,c,_,_,e1,e2,e3,ex.choose_spec,h⟩
  ·exact False.elim h
 ·exact False.elim h
def tPly (i:Nat):TE:=fun σ H Q=>∃(pa oa qa:Addr) (n:Nat) (ds:List D) (ops xs:List Int) (out:List (Nat×List Rv)) (fin:List (Option Nat)),σ[0]?=some (some (.ref pa))/\σ[1]?=some (some (.ref oa))/\σ[2]?=some (some (.ref qa))/\Rep H (fun _=>False) (.ref pa) (.tuple ds)/\Rd H oa (.tup (ops.map V.int))/\Rd H qa (.tup (xs.map V.int)) /\
 ds.length=n/\(∀d∈ds,TrS n d)/\ops.length=n/\1<=n/\n<=6/\Ord n xs/\(∀z∈out,z.2.length<=900)/\Gm bxD nxD (lamG i xs) (fun p=>ds.getD p .none) (poK n (opF ops)) (List.replicate n none) out fin /\
 ∀(a da sa:Addr) (H':Hp),H da=none->H sa=none->GmAt H sa da fin out H'->H' a=some (.tup [.ref da,.ref sa])->Q (.ref a) H'
theorem GmAt.less {H0 H1 H:Hp}{sa da:Addr}{fin:List (Option Nat)}{out:List (Nat×List Rv)}(x:∀b o,H0 b=some o->H1 b=some o) (G:GmAt H1 sa da fin out H):GmAt H0 sa da fin out H:=by
 obtain⟨as,a1,a2,a3⟩:=G.don
 have fr:∀a,H1 a=none->H0 a=none:=fun a h=>by
  cases e:H0 a with
  | none=>rfl
  | some o=>rw[x a o e] at h;cases h
 exact⟨fun b o e=>G.same b o (x b o e),G.see,as,a1,⟨a2.1,fun j a z e1 e2=>let ⟨c,q0,q1⟩:=a2.2 j a z e1 e2; ⟨c,fr c q0,q1⟩⟩,fun a ha=>fr a (a3 a ha)⟩
theorem GmAt.rmv {H0 H:Hp}{sa da cl:Addr}{oc:Obj}{fin:List (Option Nat)}{out:List (Nat×List Rv)}(hn:H0 cl=none) (C:H cl=some (cellO cl oc)) (G:GmAt H0 sa da fin out H):GmAt H0 sa da fin out (rmv H cl):=by
 have ne:∀b o,H b=some o->(∀φ,o ≠ .ext φ)->L2.rmv H cl b=some o:=fun b o e n=>by
  rw[yK (fun z=>by rw[z,C] at e;cases e;exact n _ rfl)]
  exact e
 obtain⟨as,a1,a2,a3⟩:=G.don
 refine⟨fun b o e => ?_,ne _ _ G.see (fun φ z=>nomatch z),as,ne _ _ a1 (fun φ z=>nomatch z),⟨a2.1,fun j a z e1 e2 => ?_⟩,a3⟩
 ·rw[yK (fun z=>by rw[z,hn] at e;cases e)]
  exact G.same b o e
 ·obtain⟨c,q0,q1,q2⟩:=a2.2 j a z e1 e2
  exact⟨c,q0,ne _ _ q1 (fun φ z=>nomatch z),ne _ _ q2 (fun φ z=>nomatch z)⟩
section
variable {X:Cx}
theorem zE2 {i k kk:Nat}{x y pl b1 b2:Str}{f c P:Addr}{fd:FuncData}{ps:List Str}{p p0 p1 pos lpos:Pos}{n0 n1:Str}{params:Arguments}{body:Expr}{sc:Scope}(hi:i<2)
  (F:FnOk X.prog X.w X.K X.mg X.base CX0 k f fd ps (spPlayed X.prog X.w X.K X.mg X.base (kk+1) orK)) (hr:Room k X.A) (hg:Gl X pl) (hm:X.mg pl=some (.ref f)) (hkp:PySem.W.keepIn X.K (.ref f)=true) (hb:Binds X.K fd ps [])
  (v0:PE X (.Name n0 p0) (tVar 0)) (v1:PE X (.Name n1 p1) (tVar 1))
  (hx:x∈tabNames) (ht:PySem.W.tabIn X.K x=some (c,P)) (hcode:X.env.code=.ref c) (hq:X.env.qual=x ++ ".<locals>.") (hdef:defaultsOf params X.env=([],[])) (hcl:∀cl,X.env.cells.lookup y=some cl->closureFor sc X.env=pure [(y,cl)])
  (S:LamScope [b1,b2] y sc) (hk:X.env.kindOf y=some .cell) (hj:X.N[2]?=some y) (hfn:X.fn y=true)
  (hba:∀(cl:Addr) (us:List Value) (pm cd ctv:Value),us.length=2->bindArgs (PySem.W.kla_fn "<lambda>" (lamQ x) params body sc [(y,cl)] pm cd ctv) ⟨us,[]⟩=pure ([b1,b2].zip us))
  (hbody:∀(A:Around) (H:Hp) (outer:List Env) (s:Shared) (f cl c':Addr),PE (cxLam X.prog X.w X.K X.mg X.base ([b1,b2] ++ [y]) (lamQ x) sc f (.ref c') [(y,cl)] A outer s H) body (tOp (rIxT X.K) (tVar 2) (tVar i)))
  (hdb:autoParam ((pl == ("__debug__":Str))=false) zK._auto_1) (he:autoParam (starEach [.Name n0 p0,.Name n1 p1,.Lambda params body sc lpos] X.env=(false,eval (.Name n0 p0) X.env)::starEach [.Name n1 p1,.Lambda params body sc lpos] X.env) zY._auto_1) (hpl:autoParam ((backTo pos (starEach [.Name n1 p1,.Lambda params body sc lpos] X.env)).any (·.1)=false) zY._auto_1)
  (h2:autoParam (starEach [.Name n1 p1,.Lambda params body sc lpos] X.env=(false,eval (.Name n1 p1) X.env)::starEach [.Lambda params body sc lpos] X.env) zY._auto_1) (h3:autoParam (starEach [.Lambda params body sc lpos] X.env=(false,eval (.Lambda params body sc lpos) X.env)::starEach [] X.env) zY._auto_1) :
  PE X (.Call (.Name pl p) [.Name n0 p0,.Name n1 p1,.Lambda params body sc lpos] [] pos) (tPly i):=by
 intro pins s σ H Q I h
 obtain⟨cl,ec⟩:=I.ok.has y (.inl hk)
 obtain⟨pa,oa,qa,n,ds,ops,xs,out,fin,e0,e1,e2,r0,r1,r2,g1,g2,g3,g4,g5,g6,g7,g8,q⟩:=h
 refine wpAny_Call_Name_kw (jD I hg hm ?_ hdb)
 have ha:=zU v0 (zU v1 (zU (zB9 (cl:=[(y,cl)]) hx ht hcode hq hdef (fun _=>hcl cl ec)) zO h3) h2) he
 refine PySem.W.callWith_K (h₀:=X.base) I.ok.mod.kin hkp (thn (ha pos pins s σ H (fun vs H1=>∃fl,vs=[.ref pa,.ref oa,.ref fl]/\LamAt H1 fl (lamQ x) params body sc [(y,cl)]/\Ext H H1) I ⟨_,e0,_,e1,fun fl H1 L ex _=>⟨fl,rfl,L,ex⟩⟩) fun us s1 ⟨vs,H1,I1,r,fl,ev,L,ex⟩=>⟨I1.kIn,?_⟩) he hpl
 subst ev
 refine yT8 (j:=2) F hr hb I1 r ec hk hfn hj e2 fun oc uy hd rv hn => ?_
 have up:Ext H1 (L2.upd H1 cl (cellO cl oc)):=Ext.new hn
 have ex2:=ex.trans up
 refine⟨pa,fl,.ref oa,ds,n,poK n (opF ops),out,fin,lamG i xs,rfl,r0.keep (fun b o e _=>ex2 b o e) (fun b _ z=>z),g1,g2,by bv_omega,?_,?_,⟨oa,ops,rfl,yS r1 fun o e=>ex2 _ _ e,g3,g4,g5,rfl⟩,?_,?_,g7,g8,?_⟩
 ·intro p hp
  exact List.mem_range.mp ((jF g5).1.mem_iff.mp hp)
 ·rw[(jF g5).1.length_eq,List.length_range];bv_omega
 ·refine yK8 hi S rfl (L.ext up) zT hd rv (yS r2 fun o e=>ex2 _ _ e) g6 (fun us pm cd ctv hl=>hba cl us pm cd ctv hl) fun H A outer s c'=>hbody A (L2.rmv H cl) outer s fl cl c'
 ·intro b l hb hl
  unfold lamG
  split
  ·exact g6.yJ hb
  ·exact g6.yJ hl
 ·intro a da sa H' hna hnd hns G hta
  have C2:H' cl=some (cellO cl oc):=G.same _ _ zT
  refine⟨C2,q a da sa _ ?_ ?_ ((G.less fun b o e=>ex2 b o e).rmv (by
   cases z:H cl with
   | none=>rfl
   | some o=>have:=ex _ _ z;rw[hn] at this;cases this) C2) ?_⟩
  ·cases z:H da with
   | none=>rfl
   | some o=>rw[ex2 _ _ z] at hnd;cases hnd
  ·cases z:H sa with
   | none=>rfl
   | some o=>rw[ex2 _ _ z] at hns;cases hns
  ·rw[yK (fun z=>by rw[z,C2] at hta;cases hta)]
   exact hta
end
theorem dN {H:Hp}{O:Addr->Prop}{α:Type}{f:α->V}{g:α->D}:∀(l:List α),(∀x∈l,Rep H O (f x) (g x))->Reps H O (l.map f) (l.map g)
 | [],_=>.nil
 | a::l,h=>.cons (h a List.mem_cons_self) (dN l fun x hx=>h x (List.mem_cons_of_mem _ hx))
theorem zM7 {H:Hp}{O:Addr->Prop}:∀(vs:List V) (ds:List D),vs.length=ds.length->(∀(j:Nat) (v:V) (d:D),vs[j]?=some v->ds[j]?=some d->Rep H O v d)->Reps H O vs ds
 | [],[],_,_=>.nil
 | [],_::_,h,_=>by cases h
 | _::_,[],h,_=>by cases h
 | a::vs,b::ds,h,f=>.cons (f 0 a b rfl rfl) (zM7 vs ds (Nat.succ.inj h) fun j v d e1 e2=>f (j+1) v d (by simpa using e1) (by simpa using e2))
theorem yX4 {H0 H:Hp}{O:Addr->Prop}{as:List Addr}{out:List (Nat×List Rv)}(oh:∀a,O a->(H0 a≠none\/∃xs,H a=some (.lst xs))) (T:TurnsAt H0 H as out) (new:∀a∈as,H0 a=none):Reps H O (as.map V.ref) (out.map turnD):=by
 have no:∀a xs,H0 a=none->H a=some (.tup xs)->¬O a:=fun a xs h1 h2 z=>by
  rcases oh a z with q | ⟨ys,q⟩
  ·exact q h1
  ·rw[h2] at q;cases q
 refine zM7 _ _ (by rw[List.length_map,List.length_map,T.1]) fun j v d e1 e2 => ?_
 rw[List.getElem?_map] at e1 e2
 obtain⟨a,ea,rfl⟩:=Option.map_eq_some_iff.mp e1
 obtain⟨z,ez,rfl⟩:=Option.map_eq_some_iff.mp e2
 obtain⟨c,h0,h1,h2⟩:=T.2 j a z ea ez
 refine .tup (.inl h1) (no a _ (new a (List.mem_of_getElem? ea)) h1) (.cons (.int _) (.cons (.tup (.inl h2) (no c _ h0 h2) ?_) .nil))
 exact dN z.2 fun r _=>.int _
theorem zA2 {C:Ct}{i j:Nat}{e b:Expr}{pos:Pos}(hj:j<2) (he:PE C.X e (tPly i)) (hb:PE C.X b (tC (.int (j:Int)))) (hs:PlainIx b) (o0:0∉C.om/\0∉C.ln) (o1:1∉C.om/\1∉C.ln) (o2:2∉C.om/\2∉C.ln):RE C .new (.Subscript e b pos) (eP i j):=by
 refine⟨_,xS wS he hb hs,fun Oc Ob σ H ρ Q R h => ?_⟩
 obtain⟨a,b,c,out,fin,e0,e1,e2,P,k⟩:=yL8 h
 obtain⟨n,ds,ops,xs,rfl,rfl,rfl,g1,g2,g3,g4,g5,g6,g7,g8⟩:=P.ex
 obtain⟨v0,s0,r0⟩:=R.val 0 _ e0 o0.1 o0.2
 obtain⟨v1,s1,r1⟩:=R.val 1 _ e1 o1.1 o1.2
 obtain⟨v2,s2,r2⟩:=R.val 2 _ e2 o2.1 o2.2
 have q0:=r0.less (O':=fun _=>False) fun _ z=>z.elim
 cases r0 with
 | @tup pa _ _ _ _ _ =>
 cases r1 with
 | @tup oa y1 _ rd1 _ rs1 =>
 cases r2 with
 | @tup qa y2 _ rd2 _ rs2 =>
 obtain rfl:=rs1.ints
 obtain rfl:=rs2.ints
 refine⟨pa,oa,qa,n,ds,ops,xs,out,fin,s0,s1,s2,q0,rd1,rd2,g1,g2,g3,g4,g5,g6,g7,g8,fun a da sa H' hd hsn G hta => ?_⟩
 obtain⟨as,d1,d2,d3⟩:=G.don
 have oh:∀(l:Addr),(∃xs,H' l=some (.lst xs))->∀b,(Uni Oc Ob b\/b=l)->(H b≠none\/∃xs,H' b=some (.lst xs)):=fun l hl b z=>by
  rcases z with z | z
  ·exact .inl (R.oh b z)
  ·rw[z];exact .inr hl
 rcases (show j=0\/j=1 by bv_omega) with rfl | rfl
 ·refine⟨a,_,_,.ref da,rfl,rfl,.inl (.inl hta),rfl,k _ _ G.same ?_⟩
  rw[if_pos rfl]
  exact⟨da,_,_,rfl,rfl,hd,d1,yX4 (oh da ⟨_,d1⟩) d2 d3⟩
 ·refine⟨a,_,_,.ref sa,rfl,rfl,.inl (.inl hta),rfl,k _ _ G.same ?_⟩
  rw[if_neg (by decide)]
  exact⟨sa,_,_,rfl,rfl,hsn,G.see,dN fin fun x _=>by cases x with | none=>exact .non | some x=>exact .int _⟩
end L2.L3
namespace L2
open PySem PySem.Spec PyProof.Rows
theorem LamScope.of {ps:List Str}{y:Str}{sc:Scope}(h1:sc.kind=.function) (h2:sc.isCoroutine=false) (h3:sc.isGenerator=false) (h4:∀x∈ps,sc.names.lookup x=some .local) (h5:ps.Nodup) (h6:sc.names.lookup y=some .free) (h7:∀z∈sc.names,z.2 ≠ .cell) (h8:(sc.names.all fun p=>!(p.2 == .free) || p.1 == y)=true):LamScope ps y sc:=by
 refine⟨h1,h2,h3,h4,h5,h6,h7,fun z e => ?_⟩
 have:=List.all_eq_true.mp h8 _ (PySem.mem_of_lookup e)
 simpa using this
theorem zR1 {env:Env}{ad:Str->Addr}:∀(names:List (Str×NameKind)) (cs:List (Str×Addr)),(∀p∈names,p.2=.free->env.cells.lookup p.1=some (ad p.1)) ->
  (forIn names cs (fun (p:Str×NameKind) (r:List (Str×Addr))=>(if (p.2 == .free)=true then (do let a <-cellOf env p.1;pure (ForInStep.yield ((p.1,a)::r))) else pure (ForInStep.yield r):Sem _)))=(pure (((names.filter fun p=>p.2 == .free).map fun p=>(p.1,ad p.1)).reverse++cs):Sem _)
 | [],cs,_=>by simp
 | p::names,cs,h=>by
  rw[List.forIn_cons]
  by_cases e:p.2=.free
  ·have e':(p.2 == .free)=true:=by rw[e];rfl
   have ec:cellOf env p.1=pure (ad p.1):=by
    unfold cellOf
    rw[h p List.mem_cons_self e]
   rw[if_pos e',ec]
   simp only[pure_bind]
   rw[zR1 names _ fun q hq=>h q (List.mem_cons_of_mem _ hq),List.filter_cons,if_pos e']
   simp
  ·have e':¬(p.2 == .free)=true:=fun z=>e (by simpa using z)
   rw[if_neg e']
   simp only[pure_bind]
   rw[zR1 names _ fun q hq=>h q (List.mem_cons_of_mem _ hq),List.filter_cons,if_neg e']
theorem uN {sc:Scope}{env:Env}{y:Str}{cl:Addr}(h:(sc.names.filter fun p=>p.2 == .free)=[(y,.free)]) (e:env.cells.lookup y=some cl):closureFor sc env=pure [(y,cl)]:=by
 have g:=zR1 (env:=env) (ad:=fun _=>cl) sc.names [] fun p hp hf=>by
  have:p∈sc.names.filter fun p=>p.2 == .free:=List.mem_filter.mpr ⟨hp,by rw[hf];rfl⟩
  rw[h] at this
  rw[List.mem_singleton.mp this]
  exact e
 rw[h] at g
 unfold closureFor
 show (forIn sc.names [] (fun (p:Str×NameKind) (r:List (Str×Addr))=>(if (p.2 == .free)=true then (do let a <-cellOf env p.1;pure (ForInStep.yield ((p.1,a)::r))) else pure (ForInStep.yield r):Sem _)) >>= fun cs=>pure cs)=_
 rw[g]
 rfl
end L2
namespace L2.L3
open PySem PySem.Spec PyProof.Rows
variable [CN]
section
variable {P:Program}{w:World}{K:KFr}{mg:Str->Option Value}{base:Heap}
end
end L2.L3
namespace L2.L3
open PySem PySem.Spec PyProof.Rows MR
variable [CN]
def sortKD (o l:D):Option D:=match o,l with
 | .tuple os,.list ls=>(intsOf os).bind fun ops=>(intsOf ls).bind fun z=>if 1<=ops.length/\ops.length<=6/\z=(List.range ops.length).map (fun (i:Nat)=>(i:Int)) then some (.list ((poK ops.length (opF ops)).map fun (p:Nat)=>PyData.int (p:Int))) else none
 | _,_=>none
def eSK (j:Nat) (ms:Ev->Res (List D)):Ev->Res D:=fun ρ=>match ρ[j]? with
 | some (some o)=>(ms ρ).bind fun ds=>match ds with
  | [l]=>Res.lft (sortKD o l)
  | _=>.no
 | _=>.no
theorem yZ7 {n:Nat}{ops:List Int}(hl:ops.length=n) (h1:1<=n) (h6:n<=6):sortKD (tI ops) (.list ((List.range n).map fun (i:Nat)=>PyData.int (i:Int)))=some (.list ((poK n (opF ops)).map fun (p:Nat)=>PyData.int (p:Int))):=by
 subst hl
 have e:((List.range ops.length).map fun (i:Nat)=>PyData.int (i:Int))=((List.range ops.length).map (fun (i:Nat)=>(i:Int))).map PyData.int:=by rw[List.map_map];rfl
 show ((intsOf (ops.map PyData.int)).bind fun ops=>(intsOf _).bind fun z=>_)=_
 rw[intsOf_map,e,intsOf_map,Option.bind_some,Option.bind_some,if_pos ⟨h1,h6,rfl⟩]
theorem yR7 {C:Ct}{e:Expr}{ms:Ev->Res (List D)}{p pos kp lpos:Pos}{j k:Nat}{one y x:Str}{c P:Addr}{sc:Scope}{params:Arguments}{body:Expr}(hr:Room (k+3) C.X.A) (hc:C.X.calm=true) (hg:Gl C.X "sorted") (hm:C.X.mg "sorted" = none) (ha:RArg C false [e] ms)
  (hx:x∈tabNames) (ht:PySem.W.tabIn C.X.K x=some (c,P)) (hcode:C.X.env.code=.ref c) (hq:C.X.env.qual=x ++ ".<locals>.") (hdef:defaultsOf params C.X.env=([],[])) (hcl:∀cl,C.X.env.cells.lookup y=some cl->closureFor sc C.X.env=pure [(y,cl)])
  (S:LamScope [one] y sc) (hk:C.X.env.kindOf y=some .cell) (hj:C.X.N[j]?=some y)
  (hb:∀(cl:Addr) (us:List Value) (pm cd ctv:Value),us.length=1->bindArgs (PySem.W.kla_fn "<lambda>" (lamQ x) params body sc [(y,cl)] pm cd ctv) ⟨us,[]⟩=pure ([one].zip us))
  (hbody:∀(A:Around) (H:Hp) (outer:List Env) (s:Shared) (f cl c':Addr),PE (cxLam C.X.prog C.X.w C.X.K C.X.mg C.X.base ([one] ++ [y]) (lamQ x) sc f (.ref c') [(y,cl)] A outer s H) body (rKey C.X.K)) (oj:j∉C.om/\j∉C.ln)
  (he:autoParam (backTo pos (starEach [e] C.X.env)=(false,eval e C.X.env)::backTo pos (starEach [] C.X.env)) zY._auto_1) (hpl:autoParam ((backTo pos (starEach [e] C.X.env)).any (·.1)=false) zY._auto_1) :
  RE C .new (.Call (.Name "sorted" p) [e] [⟨some (Str.ofString "key"),.Lambda params body sc lpos,kp⟩] pos) (eSK j ms):=by
 obtain⟨t,pa,q⟩:=ha
 refine⟨_,zX5 (j:=j) hr hc hg hm pa hx ht hcode hq hdef hcl S hk hj hb hbody (by decide) (by decide) he hpl,fun Oc Ob σ H ρ Q R h => ?_⟩
 unfold eSK at h
 split at h
 ·rename_i o eo
  refine q Oc Ob σ H ρ _ R (Res.zR (Res.zV h) (fun ds _ k vs H1 s1 r => ?_) fun _ z=>z)
  split at k
  ·rename_i l
   obtain⟨d,e,k2⟩:=Res.zG k
   obtain⟨v,rfl,va⟩:=VAs.one r
   unfold sortKD at e
   split at e
   ·rename_i os ls
    obtain⟨ops,e1,e⟩:=Option.bind_eq_some_iff.mp e
    obtain⟨z,e2,e⟩:=Option.bind_eq_some_iff.mp e
    split at e
    ·rename_i hb3
     cases e
     obtain⟨n1,n6,rfl⟩:=hb3
     obtain rfl:=xL e1
     obtain rfl:=xL e2
     obtain⟨a,ys,rfl,rd,rs⟩:=va.list
     obtain rfl:=rs.ints
     obtain⟨vo,so,ro⟩:=R.val j _ eo oj.1 oj.2
     cases ro with
     | @tup oa yo _ rdo _ rso =>
      obtain rfl:=rso.ints
      refine⟨a,oa,ops.length,ops,rfl,.inr (.inl ?_),n1,n6,so,yS rdo fun o e=>s1 _ _ e,rfl,fun H2 l x2 hl => ?_⟩
      ·rw[List.map_map] at rd
       exact rd
      ·have s2:Same H H2:=s1.trans fun b o e=>x2 b o e
       exact k2 _ _ (s2.trans (Same.new hl)) (yA s2 hl (aI _))
    ·cases e
   ·cases e
  ·exact k.elim
 ·exact h.elim
end L2.L3
namespace L2.L3
open PySem PySem.Spec PyProof.Rows
variable [CN]
section
variable {P:Program}{w:World}{K:KFr}{mg:Str->Option Value}{base:Heap}
theorem bO {c:Addr}{x:Str}{st:Stmt}{f:Addr}{fd:FuncData}{N ps:List Str}{k:Nat}{m:Ev->Res Out}{fr:Bool}(om:List Nat) (F:Fun K x x st f fd) (hc:fd.code=.ref c) (S:zI N ps (zW st))
  (hbody:∀(A:Around) (outer:List Env) (s:Shared) (H:Hp) (E:XK),Room k (A.deeper (envOfC x (zW st) s.heap.objs.size f (.ref c)))->RSs (bodyX P w K mg base N x (zW st) f (.ref c) A outer s H E om) fr (defBody st) m)
  (hom:autoParam (om.all (fun i=>decide (ps.length<=i))=true) zY._auto_1) :
  FnOk P w K mg base (CXV P w) (k+1) f fd ps (spX fr (runF fr ps.length N.length m)):=by
 have len:∀(vs:List V) (H:Hp) (Q:VK) (E:XK),spX fr (runF fr ps.length N.length m) vs H Q E->vs.length=ps.length:=fun vs H Q E h=>by
  obtain⟨ds,O,oh,r,k⟩:=h
  unfold runF at k
  split at k
  ·rename_i hl
   rw[r.length];exact hl
  ·exact k.elim
 obtain⟨oc,od,kV,doc,pm,an,cdv,ct,osl,rfl,lk,hcd⟩:=F.ex
 obtain rfl:cdv=.ref c:=hc
 refine zX3 lk hcd S len fun A outer s H vs Q E hr h => ?_
 have hvl:=len vs H Q E h
 obtain⟨ds,O,oh,r,k⟩:=h
 have hl:ds.length=ps.length:=by rw[<-r.length];exact hvl
 unfold runF at k
 rw[if_pos hl] at k
 obtain⟨t,p,q⟩:=hbody A outer s H E hr
 refine⟨t,p,q ⟨O,fun _=>0⟩ (fun _=>False) _ H (ds.map some++List.replicate (N.length-ps.length) none) _ ?_ ?_⟩
 ·refine⟨?_,fun i d e _ _ => ?_,fun i d e ho => ?_,fun i d e _ hl=>(nomatch hl),fun i j di dj a ei _ ho _ _ _ => ?_,fun a z=>oh a (z.elim id fun z=>z.elim),fun a z=>z.elim⟩
  ·unfold start
   rw[List.length_append,List.length_append,List.length_map,List.length_map,List.length_replicate,List.length_replicate,hvl,hl]
  ·obtain⟨v,ev,rv⟩:=r.get (xR e)
   exact⟨v,dL ev,rv.less fun b z=>z.elim id fun z=>z.elim⟩
  ·have h1:=(List.getElem?_eq_some_iff.mp (xR e)).1
   have h2:ps.length<=i:=of_decide_eq_true (List.all_eq_true.mp hom i ho)
   bv_omega
  ·have h1:=(List.getElem?_eq_some_iff.mp (xR ei)).1
   have h2:ps.length<=i:=of_decide_eq_true (List.all_eq_true.mp hom i ho)
   bv_omega
 ·have same:∀{H':Hp},Frm (fun _=>False) H H'->Same H H':=fun f b o e=>f b o e fun z=>z
  refine Res.zR (Res.zV k) (fun o _ k => ?_) fun c z H' f=>z H' (same f)
  cases o with
  | rt d =>
   intro v H' f rt
   refine k v H' (same f) ?_
   cases fr with
   | false=>exact rt
   | true =>
    obtain⟨a,ys,ds,e1,e2,e3,e4,e5,e6⟩:=rt
    exact⟨a,ys,ds,e1,e2,e3.elim id fun z=>z.elim,e5,e6⟩
  | nx ρ' =>
   cases fr with
   | true=>exact k.elim
   | false=>exact fun σ' H' Ob' R f s=>k .non H' (same f) Rep.non
end
end L2.L3
namespace K28
open PySem L2 L2.L3
def top (i:Nat):Stmt:=PySem.Challenge.pw_ownboxes_k28_turns_of_the_open_game.main.body.getD i (.Pass ⟨0,0,0,0⟩)
abbrev vF:Stmt:=top 6
abbrev vE:Stmt:=top 7
abbrev xM:Stmt:=top 9
abbrev xH:Stmt:=top 11
abbrev wR:Stmt:=top 13
abbrev qW:Stmt:=top 14
abbrev vZ:Stmt:=top 15
abbrev vA:Stmt:=top 16
abbrev fN:Stmt:=top 17
abbrev vR:Stmt:=top 18
abbrev xK:Stmt:=top 19
abbrev uO:Stmt:=top 21
abbrev qI:Stmt:=top 22
abbrev kD:Stmt:=top 23
abbrev uE:Stmt:=top 24
abbrev wU:Stmt:=top 25
abbrev uY:Stmt:=top 26
abbrev qK:Stmt:=top 27
abbrev wK:Stmt:=top 28
abbrev uG:Stmt:=top 29
abbrev xO:Stmt:=top 30
abbrev wG:Stmt:=top 31
abbrev xX:Stmt:=top 32
abbrev vU:Stmt:=top 33
abbrev kM:Stmt:=top 34
abbrev CLS:List Str:=["BadOrder","BadOpenings"]
def zG2:Ev->Res Out:=(sR (vAn (vB (b3 leI leI (eC (.int 1)) (eB lenD (aC (eV 0) aN)) (eC (.int 60)))) (e2 (fun x y=>bD (eqD x y)) (eB sortD (aC (eV 0) aN)) (eB rangeL (aC (eB lenD (aC (eV 0) aN)) aN)))))
def kK:List D->Res D:=runF false 1 1 zG2
def zJ9:Ev->Res Out:=(sQ (sS 1 (eB mkL aN)) (sQ (sF (iS (eV 0)) (gN 2) (sQ (sIf (b2 eqD (eB lenD (aC (eV 2) aN)) (eC (.int 0))) (sRa "BadOrder" (aC (eC (.str "a ring has one box at least")) aN)) sN) (sM 1 extD (aC (eV 2) aN)))) (sQ (sIf (tNt (tV (eFA false kK (aC (eV 1) aN)))) (sRa "BadOrder" (aC (eC (.str "rings have each of 1 to 60 boxes just once")) aN)) sN) (sQ (sS 3 (e2 repL (eB mkL (aC (eC (.int 0)) aN)) (eB lenD (aC (eV 1) aN)))) (sQ (sF (iS (eV 0)) (gN 2) (sF (iR rng1 (aC (eB lenD (aC (eV 2) aN)) aN)) (gN 4) (sI 3 (e2 ixD (eV 2) (e2 subI (eV 4) (eC (.int 1)))) (e2 ixD (eV 2) (eV 4))))) (sR (eB tupD (aC (eV 3) aN))))))))
def kX:List D->Res D:=runF false 1 5 zJ9
def xN:Ev->Res Out:=(sQ (sIf (tNt (b3 leI leI (eC (.int 1)) (eV 0) (eC (.int 60)))) (sRa "BadOpenings" (aC (eC (.str "openings are for 1 to 60 people")) aN)) sN) (sQ (sIf (b2 neD (eB lenD (aC (eV 1) aN)) (eV 0)) (sRa "BadOpenings" (aC (eC (.str "each person has its openings")) aN)) sN) (sQ (sIf (tO (b2 ltI (eB min1D (aC (eV 1) aN)) (eC (.int 0))) (b2 gtI (eB max1D (aC (eV 1) aN)) (eV 0))) (sRa "BadOpenings" (aC (eC (.str "openings are from 0 to as many as there are boxes")) aN)) sN) (sR (eB tupD (aC (eV 1) aN))))))
def xP:List D->Res D:=runF false 2 2 xN
def xD:Ev->Res Out:=(sIf (b2 neD (eB lenD (aC (eV 1) aN)) (eB lenD (aC (eV 0) aN))) (sRa "BadOrder" (aC (eC (.str "the order has not as many boxes as the plan has trees")) aN)) sN)
def xE:List D->Res D:=runF false 2 2 xD
def xU:Ev->Res Out:=(sQ (sE (eF xP (aC (eB lenD (aC (eV 0) aN)) (aC (eV 1) aN)))) (sE (eF xE (aC (eV 0) (aC (eV 2) aN)))))
def zB:List D->Res D:=runF false 3 3 xU
def uR:Ev->Res Out:=(sQ (sE (eF zB (aC (eV 0) (aC (eV 1) (aC (eV 2) aN))))) (sR (eP 0 0)))
def yH:List D->Res D:=runF true 3 3 uR
def zH9:Ev->Res Out:=(sR (eB allD (aC (eComp2 (iS (eF yH (aC (eV 0) (aC (eV 1) (aC (eV 2) aN))))) tYes (e2 (fun x y=>bD (leI x y)) (eB lenD (aC (eV 1) aN)) (e2 ixD (eV 2) (eV 0))) [1]) aN)))
def dC:List D->Res D:=runF false 3 3 zH9
def gJ:Ev->Res Out:=(sQ (sS 3 (eB mkL aN)) (sQ (sF (iS (eF yH (aC (eV 0) (aC (eV 1) (aC (eV 2) aN))))) (gT 2 (gsC (gN 4) (gsC (gN 5) gsN))) (sM 3 appD (aC (e2 catL (eB mkL (aC (eV 4) aN)) (eComp (iS (eS slD (eV 5) oN (oS (e1 negD (eC (.int 1)))))) tYes (e2 ixD (eV 1) (eV 0)) [2])) aN))) (sR (eFA false kX (aC (eV 3) aN)))))
def uD:List D->Res D:=runF false 3 6 gJ
def wH:Ev->Res Out:=(sQ (sE (eF zB (aC (eV 0) (aC (eV 1) (aC (eV 2) aN))))) (sR (eB tupD (aC (eP 1 1) aN))))
def wD:List D->Res D:=runF false 3 3 wH
def jL:Ev->Res Out:=(sQ (sIf (b2 ltI (eV 1) (eB lenD (aC (eV 0) aN))) (sR (e2 ixD (eV 0) (eV 1))) sN) (sR (eC (.int 0))))
def wZ:List D->Res D:=runF false 2 2 jL
def dI:Ev->Res Out:=(sR (eComp (iR rng1 (aC (eV 2) aN)) tYes (eB sumD (aC (eS3 (eV 1) (oS (e2 addI (eV 2) (eV 0))) oN (oS (eV 3))) aN)) [0,1,2]))
def qA:List D->Res D:=runF true 3 3 dI
def vD:List D->Res D:=plF qA
def wJ:List D->Res D:=grF 4 5 4 wZ
def gK:Ev->Res Out:=(sR (vAn (e1 (isiD "int") (eV 0)) (vNt (e1 (isiD "bool") (eV 0)))))
def xQ:List D->Res D:=runF false 1 1 gK
def uH:Ev->Res Out:=(sQ (sS 3 (eB lenD (aC (eV 0) aN))) (sQ (sS 4 (eB mkL aN)) (sQ (sS 5 (eB mkL aN)) (sQ (sS 6 (eB mkL aN)) (sQ (sF (iS (eSK 1 (aC (eB rangeL (aC (eV 3) aN)) aN))) (gN 7) (sQ (sS 8 (eB mkL aN)) (sQ (sS 9 (e2 ixD (eV 0) (eV 7))) (sQ (sW 1000000 (b2 (inD true) (eV 7) (eV 4)) (sQ (sS 10 (e2 ixD (eComp (iR rng1 (aC (eV 3) aN)) (b2 (inD true) (eV 0) (eV 1)) (eV 0) [5]) (eC (.int 0)))) (sQ (sIf (b2 (isND true) (eV 9) (eC .none)) (sQ (sS 10 (e2 ixD (eV 9) (eC (.int 0)))) (sS 9 (e2 ixD (e2 ixD (eV 9) (eC (.int 1))) (e2 ixD (eV 2) (eV 10))))) sN) (sIf (b2 (inD true) (eV 10) (eV 5)) (sQ (sM 5 appD (aC (eV 10) aN)) (sQ (sM 8 appD (aC (eV 10) aN)) (sM 4 appD (aC (e2 ixD (eV 2) (eV 10)) aN)))) sN)))) (sIf (b2 neD (eV 8) (eB mkL aN)) (sM 6 appD (aC (eB mkT (aC (eV 7) (aC (eB tupD (aC (eV 8) aN)) aN))) aN)) sN))))) (sR (eV 6)))))))
def uI:List D->Res D:=runF true 3 11 uH
def jK:Ev->Res Out:=(sQ (sS 4 (eB mkL aN)) (sQ (sTry 5 CLS (sIf (b2 eqD (eV 0) (eC (.int 0))) (sE (eF yH (aC (eV 1) (aC (eV 2) (aC (eV 3) aN))))) (sIf (b2 eqD (eV 0) (eC (.int 1))) (sE (eF dC (aC (eV 1) (aC (eV 2) (aC (eV 3) aN))))) (sIf (b2 eqD (eV 0) (eC (.int 2))) (sE (eF uD (aC (eV 1) (aC (eV 2) (aC (eV 3) aN))))) (sE (eF wD (aC (eV 1) (aC (eV 2) (aC (eV 3) aN)))))))) (sS 4 (eB mkL (aC (e1 (isiX CLS ["BadOpenings"]) (eV 5)) (aC (e1 (isiX CLS ["BadOrder"]) (eV 5)) (aC (e1 (isiX CLS CLS) (eV 5)) aN)))))) (sR (eV 4))))
def yR:List D->Res D:=runF false 4 6 jK
def vX:Ev->Res Out:=(sQ (sS 2 (eB lenD (aC (eV 0) aN))) (sQ (sS 3 (e2 modI (e2 fdivI (eV 1) (eC (.int 4))) (eV 2))) (sQ (sS 4 (e2 modI (e2 fdivI (eV 1) (eC (.int 80))) (e2 powI (eC (.int 10)) (eC (.int 30))))) (sQ (sS 5 (e2 ixD (eB mkL (aC (e1 negD (eC (.int 1))) (aC (e2 addI (eV 2) (eC (.int 1))) (aC (e2 subI (e1 negD (eC (.int 1))) (eV 4)) (aC (e2 addI (e2 addI (eV 2) (eC (.int 1))) (eV 4)) aN))))) (e2 modI (eV 1) (eC (.int 4))))) (sR (e2 ixD (eB mkL (aC (e2 catT (e2 catT (eS slD (eV 0) oN (oS (eV 3))) (eB mkT (aC (eV 5) aN))) (eS slD (eV 0) (oS (e2 addI (eV 3) (eC (.int 1)))) oN)) (aC (e2 catT (eV 0) (eB mkT (aC (eC (.int 0)) aN))) (aC (eS slD (eV 0) (oS (eC (.int 1))) oN) aN)))) (e2 modI (e2 fdivI (eV 1) (eC (.int 20))) (eC (.int 3)))))))))
def yI:List D->Res D:=runF false 2 6 vX
def fW:Ev->Res Out:=(sQ (sS 3 (eF uI (aC (eV 0) (aC (eV 1) (aC (eV 2) aN))))) (sQ (sS 4 (eF yH (aC (eV 0) (aC (eV 1) (aC (eV 2) aN))))) (sQ (sIf (tO (tNt (tV (e1 (isiD "list") (eV 4)))) (b2 neD (eV 4) (eV 3))) (sR (eC (.bool false))) sN) (sQ (sS 5 (eB mkL aN)) (sQ (fun ρ=>(eV 4 ρ).bind fun _=>(sF (iS (eV 4)) (gN 6) (sQ (sIf (tO (tNt (tV (e1 (isiD "tuple") (eV 6)))) (tO (tNt (tV (eF xQ (aC (e2 ixD (eV 6) (eC (.int 0))) aN)))) (tNt (tV (e1 (isiD "tuple") (e2 ixD (eV 6) (eC (.int 1)))))))) (sR (eC (.bool false))) sN) (sQ (sIf (tNt (tV (eB allD (aC (eComp (iS (e2 ixD (eV 6) (eC (.int 1)))) tYes (eF xQ (aC (eV 0) aN)) []) aN)))) (sR (eC (.bool false))) sN) (sM 5 extD (aC (eB listD (aC (e2 ixD (eV 6) (eC (.int 1))) aN)) aN))))) ρ) (sQ (sM 4 appD (aC (eB mkT (aC (eC (.int 0)) (aC (eB mkT aN) aN))) aN)) (sR (vAn (e2 (fun x y=>bD (eqD x y)) (eB sortD (aC (eV 5) aN)) (eB rangeL (aC (eB lenD (aC (eV 0) aN)) aN))) (e2 (fun x y=>bD (eqD x y)) (eF yH (aC (eV 0) (aC (eV 1) (aC (eV 2) aN)))) (eV 3))))))))))
def uK:List D->Res D:=runF false 3 7 fW
def zG1:Ev->Res Out:=(sQ (sA (eF wJ (aC (eV 0) aN)) (gT 2 (gsC (gN 1) (gsC (gN 2) gsN)))) (sQ (sS 3 (eF vD (aC (eV 0) (aC (eV 1) (aC (eV 2) aN))))) (sQ (sF (iS (e2 catL (eB mkL (aC (eB lenD (aC (eV 0) aN)) aN)) (eB listD (aC (eS slD (eV 0) (oS (eC (.int 1))) (oS (eC (.int 41)))) aN)))) (gN 4) (sQ (sS 5 (eF ordF (aC (eV 4) (aC (eV 1) aN)))) (sQ (sIf (tNt (tV (eF uK (aC (eV 3) (aC (eV 2) (aC (eV 5) aN)))))) (sR (eC (.bool false))) sN) (sQ (sS 6 (eF ordF (aC (eV 4) (aC (e2 ixD (eB mkL (aC (e2 addI (e2 addI (eV 1) (eC (.int 1))) (e2 modI (eV 4) (eC (.int 3)))) (aC (eB max2D (aC (eC (.int 1)) (aC (e2 subI (eV 1) (eC (.int 1))) aN))) aN))) (eB intD (aC (vAn (e2 (fun x y=>bD (eqD x y)) (e2 modI (eV 4) (eC (.int 4))) (eC (.int 1))) (e2 (fun x y=>bD (gtI x y)) (eV 1) (eC (.int 1)))) aN))) aN)))) (sQ (sS 7 (eF yI (aC (eV 2) (aC (eV 4) aN)))) (sQ (sIf (b2 neD (eComp (iR rng1 (aC (eC (.int 4)) aN)) tYes (eF yR (aC (eV 0) (aC (eV 1) (aC (eV 2) (aC (eV 3) aN))))) [3,2,6]) (e2 repL (eB mkL (aC (eB mkL (aC (eC (.bool false)) (aC (eC (.bool true)) (aC (eC (.bool true)) aN)))) aN)) (eC (.int 4)))) (sR (eC (.bool false))) sN) (sIf (b2 neD (eComp (iR rng1 (aC (eC (.int 4)) aN)) tYes (eF yR (aC (eV 0) (aC (eV 1) (aC (eV 2) (aC (e2 ixD (eB mkL (aC (eV 3) (aC (eV 4) aN))) (e2 modI (eV 5) (eC (.int 2)))) aN))))) [3,7,5,6,4]) (e2 repL (eB mkL (aC (eB mkL (aC (eC (.bool true)) (aC (eC (.bool false)) (aC (eC (.bool true)) aN)))) aN)) (eC (.int 4)))) (sR (eC (.bool false))) sN))))))) (sR (eC (.bool true))))))
def zI3:List D->Res D:=runF false 1 8 zG1
structure Txt [CN] (K:KFr) (mg:Str->Option Value):Prop where
 g_ValueError:mg "ValueError" = none
 g_all:mg "all" = none
 g_bool:mg "bool" = none
 g_int:mg "int" = none
 g_isinstance:mg "isinstance" = none
 g_len:mg "len" = none
 g_list:mg "list" = none
 g_max:mg "max" = none
 g_min:mg "min" = none
 g_range:mg "range" = none
 g_sorted:mg "sorted" = none
 g_sum:mg "sum" = none
 g_tuple:mg "tuple" = none
 c_MOST_PEOPLE:∃u,mg "MOST_PEOPLE" = some u/\RelV (.int 60) u
 k_bool:Kit K "bool"
 k_int:Kit K "int"
 k_list:Kit K "list"
 k_tuple:Kit K "tuple"
 d_is_order:∃f fd,Has K mg "is_order" vF f fd ["names"]
 d_order_by:∃f fd,Has K mg "order_by" vE f fd ["rings"]
 d_made_openings:∃f fd,Has K mg "made_openings" xM f fd ["people","numbers"]
 d_check_boxes:∃f fd,Has K mg "check_boxes" xH f fd ["plan","order"]
 d_check_game:∃f fd,Has K mg "check_game" wR f fd ["plan","openings","order"]
 d_one_turn:∃f fd,Has K mg "one_turn" qW f fd ["tree","person","seen","name_in"]
 d_played:∃f fd,Has K mg "played" vZ f fd ["plan","openings","name_in"]
 d_turns:∃f fd,Has K mg "turns" vA f fd ["plan","openings","order"]
 d_won:∃f fd,Has K mg "won" fN f fd ["plan","openings","order"]
 d_written:∃f fd,Has K mg "written" vR f fd ["plan","openings","order"]
 d_unwritten:∃f fd,Has K mg "unwritten" xK f fd ["plan","openings","order"]
 d_l_cell_at:∃f fd,Has K mg "_law_cell_at" uO f fd ["script","k"]
 d_l_sums:∃f fd,Has K mg "_law_sums" qI f fd ["script","start","many"]
 d_l_take:∃f fd,Has K mg "_law_take" kD f fd ["pot","many"]
 d_l_order:∃f fd,Has K mg "_law_order" uE f fd ["pot","people"]
 d_l_openings:∃f fd,Has K mg "_law_openings" wU f fd ["pot","people"]
 d_l_tree:∃f fd,Has K mg "_law_tree" uY f fd ["pot","people","left","boxes","names","thin"]
 d_l_plan:∃f fd,Has K mg "_law_plan" qK f fd ["script","people","openings"]
 d_l_ground:∃f fd,Has K mg "_law_ground" wK f fd ["script"]
 d_l_whole:∃f fd,Has K mg "_law_whole" uG f fd ["found"]
 d_l_turns:∃f fd,Has K mg "_law_turns" xO f fd ["plan","openings","order"]
 d_l_refused:∃f fd,Has K mg "_law_refused" wG f fd ["way","plan","openings","order"]
 d_l_bad_openings:∃f fd,Has K mg "_law_bad_openings" xX f fd ["openings","cell"]
 d_l_right:∃f fd,Has K mg "_law_right" vU f fd ["plan","openings","order"]
 d_law:∃f fd,Has K mg "law" kM f fd ["script"]
 t_played:∃c P,PySem.W.tabIn K "played" = some (c,P)/\∀f fd,Has K mg "played" vZ f fd ["plan","openings","name_in"]->fd.code=.ref c
 t_turns:∃c P,PySem.W.tabIn K "turns" = some (c,P)/\∀f fd,Has K mg "turns" vA f fd ["plan","openings","order"]->fd.code=.ref c
 t_unwritten:∃c P,PySem.W.tabIn K "unwritten" = some (c,P)/\∀f fd,Has K mg "unwritten" xK f fd ["plan","openings","order"]->fd.code=.ref c
 t_l_turns:∃c P,PySem.W.tabIn K "_law_turns" = some (c,P)/\∀f fd,Has K mg "_law_turns" xO f fd ["plan","openings","order"]->fd.code=.ref c
 x_BadOpenings:mg "BadOpenings" = some (.ref (CN.ad "BadOpenings"))
 x_BadOrder:mg "BadOrder" = some (.ref (CN.ad "BadOrder"))
 x_BoxError:mg "BoxError" = some (.ref (CN.ad "BoxError"))
 ox_BadOpenings:OwnX K "BadOpenings"
 ox_BadOrder:OwnX K "BadOrder"
 kx_BadOpenings:IsK K CLS ["BadOpenings"] (.ref (CN.ad "BadOpenings"))
 kx_BadOrder:IsK K CLS ["BadOrder"] (.ref (CN.ad "BadOrder"))
 kv_ValueError:IsK K CLS CLS (.type "ValueError")
 tx_BoxError:∀c:Str,CLS.contains c=true->PySem.W.kitCls K (.ref (CN.ad c)) (.ref (CN.ad "BoxError"))=some true
 tb_BoxError:PySem.W.subIn K (.ref (CN.ad "BoxError")) (.type "BaseException")=some true
section
variable [CN] {P:Program}{w:World}{K:KFr}{mg:Str->Option Value}{base:Heap}
theorem dY:zI ["names"] ["names"] (zW vF):=⟨rfl,rfl,rfl,by decide +kernel,rfl,by decide +kernel,by decide +kernel⟩
theorem zR6 (T:Txt K mg){f:Addr}{fd:FuncData}(h:Has K mg "is_order" vF f fd ["names"]):FnOk P w K mg base (CXV P w) 1 f fd ["names"] (spX false kK):=by
 refine xG [] h.F dY fun cdv A outer s H E hr => ?_
 have nd:=dY.nd
 have hu64:=hr.units
 have br:=yG (P:=P) (w:=w) (K:=K) (mg:=mg) (base:=base) (N:=["names"]) (x:="is_order") (sc:=zW vF) (f:=f) (cdv:=cdv) (A:=A) (outer:=outer) (s:=s) (H:=H) (E:=E) (om:=[])
 exact (zL (yO (dA (yP5 cQ cQ cX cX zJ (zC zF xW T.g_len PySem.boot_len (zM (zZ 0) zQ)) (zU5 T.c_MOST_PEOPLE.choose_spec.1 T.c_MOST_PEOPLE.choose_spec.2)) (cO (jE (xC hu64) jO (zC gA zP3 T.g_sorted (by rfl) (zM (zZ 0) zQ)) (qH T.g_list T.g_range (zM (zC zF xW T.g_len PySem.boot_len (zM (zZ 0) zQ)) zQ)))))))
theorem dZ:zI ["rings","boxes","ring","names","place"] ["rings"] (zW vE):=⟨rfl,rfl,rfl,by decide +kernel,rfl,by decide +kernel,by decide +kernel⟩
theorem zQ1 (T:Txt K mg){f:Addr}{fd:FuncData}(h:Has K mg "order_by" vE f fd ["rings"]):FnOk P w K mg base (CXV P w) 2 f fd ["rings"] (spX false kX):=by
 obtain⟨f_is_order,fd_is_order,H_is_order⟩:=T.d_is_order
 have G_is_order:FnOk P w K mg base (CXV P w) 1 f_is_order fd_is_order ["names"] (spX false kK):=zR6 T H_is_order
 refine xG [1,3] h.F dZ fun cdv A outer s H E hr => ?_
 have nd:=dZ.nd
 have hu64:=hr.units
 have br:=yG (P:=P) (w:=w) (K:=K) (mg:=mg) (base:=base) (N:=["rings","boxes","ring","names","place"]) (x:="order_by") (sc:=zW vE) (f:=f) (cdv:=cdv) (A:=A) (outer:=outer) (s:=s) (H:=H) (E:=E) (om:=[1,3])
 exact (zN (wN 1 nd (yY zQ)) (zN (jW (vL (RE.rd (zZ 0))) (xB 2 nd) (zN (xY (yD (xC hu64) jO (zC zF xW T.g_len PySem.boot_len (zM (zZ 2) zQ)) zJ) (zL (uX br T.ox_BadOrder T.x_BadOrder (zM kZ zQ))) yN) (zL (zB6 1 (zZ 2)))) PassesOwn.leaving) (zN (xY (uB (qM (cK G_is_order H_is_order (hr.mono (by decide)) br (zM (wV 1) zQ)))) (zL (uX br T.ox_BadOrder T.x_BadOrder (zM kZ zQ))) yN) (zN (wN 3 nd (yX aX zV7 (yY (zS zJ zQ)) (zC zF xW T.g_len PySem.boot_len (zM (wV 1) zQ)))) (zN (jW (vL (RE.rd (zZ 0))) (xB 2 nd) (zL (jW (uA T.g_range (zM (zC zF xW T.g_len PySem.boot_len (zM (zZ 2) zQ)) zQ)) (xB 4 nd) (zL (yJ8 3 (yC yQ yB (zZ 2) (zZ 4)) (yC yQ yB (zZ 2) (yX cD zU3 (zZ 4) zJ)))) PassesOwn.leaving)) PassesOwn.leaving) (zL (yO (wT yT bY T.g_tuple (by rfl) (zM (wV 3) zQ)))))))))
theorem jZ:zI ["people","numbers"] ["people","numbers"] (zW xM):=⟨rfl,rfl,rfl,by decide +kernel,rfl,by decide +kernel,by decide +kernel⟩
theorem dQ (T:Txt K mg){f:Addr}{fd:FuncData}(h:Has K mg "made_openings" xM f fd ["people","numbers"]):FnOk P w K mg base (CXV P w) 1 f fd ["people","numbers"] (spX false xP):=by
 refine xG [] h.F jZ fun cdv A outer s H E hr => ?_
 have nd:=jZ.nd
 have hu64:=hr.units
 have br:=yG (P:=P) (w:=w) (K:=K) (mg:=mg) (base:=base) (N:=["people","numbers"]) (x:="made_openings") (sc:=zW xM) (f:=f) (cdv:=cdv) (A:=A) (outer:=outer) (s:=s) (H:=H) (E:=E) (om:=[])
 exact (zN (xY (uB (yU5 cQ cQ cX cX zJ (zZ 0) (zU5 T.c_MOST_PEOPLE.choose_spec.1 T.c_MOST_PEOPLE.choose_spec.2))) (zL (uX br T.ox_BadOpenings T.x_BadOpenings (zM kZ zQ))) yN) (zN (xY (yD (jY hu64) fT (zC zF xW T.g_len PySem.boot_len (zM (zZ 1) zQ)) (zZ 0)) (zL (uX br T.ox_BadOpenings T.x_BadOpenings (zM kZ zQ))) yN) (zN (xY (RW.rt (rw_or (yD yP9 yN1 (zC (yX2 rfl) yJ7 T.g_min PyProof.Rows.boot_min (zM (zZ 1) zQ)) zJ) (rw_or1 (yD yN7 yN3 (zC (zF7 rfl) yG1 T.g_max PyProof.Rows.boot_max (zM (zZ 1) zQ)) (zZ 0))))) (zL (uX br T.ox_BadOpenings T.x_BadOpenings (zM kZ zQ))) yN) (zL (yO (wT yT bY T.g_tuple (by rfl) (zM (zZ 1) zQ)))))))
theorem jG:zI ["plan","order"] ["plan","order"] (zW xH):=⟨rfl,rfl,rfl,by decide +kernel,rfl,by decide +kernel,by decide +kernel⟩
theorem aW (T:Txt K mg){f:Addr}{fd:FuncData}(h:Has K mg "check_boxes" xH f fd ["plan","order"]):FnOk P w K mg base (CXV P w) 1 f fd ["plan","order"] (spX false xE):=by
 refine xG [] h.F jG fun cdv A outer s H E hr => ?_
 have nd:=jG.nd
 have hu64:=hr.units
 have br:=yG (P:=P) (w:=w) (K:=K) (mg:=mg) (base:=base) (N:=["plan","order"]) (x:="check_boxes") (sc:=zW xH) (f:=f) (cdv:=cdv) (A:=A) (outer:=outer) (s:=s) (H:=H) (E:=E) (om:=[])
 exact (zL (xY (yD (jY hu64) fT (zC zF xW T.g_len PySem.boot_len (zM (zZ 1) zQ)) (zC zF xW T.g_len PySem.boot_len (zM (zZ 0) zQ))) (zL (uX br T.ox_BadOrder T.x_BadOrder (zM kZ zQ))) yN))
theorem kB:zI ["plan","openings","order"] ["plan","openings","order"] (zW wR):=⟨rfl,rfl,rfl,by decide +kernel,rfl,by decide +kernel,by decide +kernel⟩
theorem kC (T:Txt K mg){f:Addr}{fd:FuncData}(h:Has K mg "check_game" wR f fd ["plan","openings","order"]):FnOk P w K mg base (CXV P w) 2 f fd ["plan","openings","order"] (spX false zB):=by
 obtain⟨f_made_openings,fd_made_openings,H_made_openings⟩:=T.d_made_openings
 have G_made_openings:FnOk P w K mg base (CXV P w) 1 f_made_openings fd_made_openings ["people","numbers"] (spX false xP):=dQ T H_made_openings
 obtain⟨f_check_boxes,fd_check_boxes,H_check_boxes⟩:=T.d_check_boxes
 have G_check_boxes:FnOk P w K mg base (CXV P w) 1 f_check_boxes fd_check_boxes ["plan","order"] (spX false xE):=aW T H_check_boxes
 refine xG [] h.F kB fun cdv A outer s H E hr => ?_
 have nd:=kB.nd
 have hu64:=hr.units
 have br:=yG (P:=P) (w:=w) (K:=K) (mg:=mg) (base:=base) (N:=["plan","openings","order"]) (x:="check_game") (sc:=zW wR) (f:=f) (cdv:=cdv) (A:=A) (outer:=outer) (s:=s) (H:=H) (E:=E) (om:=[])
 exact (zN (vP (yU G_made_openings H_made_openings (hr.mono (by decide)) br (zS (zC zF xW T.g_len PySem.boot_len (zM (zZ 0) zQ)) (zS (zZ 1) zQ)))) (zL (vP (yU G_check_boxes H_check_boxes (hr.mono (by decide)) br (zS (zZ 0) (zS (zZ 2) zQ))))))
theorem fA:zI ["tree","person","seen","name_in","boxes","last","rest","box"] ["tree","person","seen","name_in"] (zW qW):=⟨rfl,rfl,rfl,by decide +kernel,rfl,by decide +kernel,by decide +kernel⟩
theorem zT4 (T:Txt K mg){f:Addr}{fd:FuncData}(h:Has K mg "one_turn" qW f fd ["tree","person","seen","name_in"]):FnOk P w K mg base CX0 2 f fd ["tree","person","seen","name_in"] (spTurn P w K mg base 1):=by
 refine (yK9 (k:=1) (kk:=1)) h.F fA rfl rfl fun cdv A outer s H E hr => ?_
 have nd:=fA.nd
 exact (zH (yW (i:=4) nd rfl (by first | exact Or.inl rfl | exact Or.inr rfl) (xV zO)) (zH (yW (i:=5) nd rfl (by first | exact Or.inl rfl | exact Or.inr rfl) (pv 1)) (zH (yW (i:=6) nd rfl (by first | exact Or.inl rfl | exact Or.inr rfl) (pv 0)) (zH (dO PassesOwn.never (wI xJ (pv 1) (pv 2) rfl) (zH (yW (i:=7) nd rfl (by first | exact Or.inl rfl | exact Or.inr rfl) (yV7 (zV8 (yZ4 (pv 6))) (uM PySem.F.plainAttrs_list PySem.F.slot_list_index PySem.F.type_list_index yP7 (pv 2) (zU gI zO)) (xS wS (pv 6) yV (fun _ _=>rfl)))) (zH (kG (zV8 (yZ4 (xS uV (pv 2) (pv 7) (fun _ _=>rfl)))) (zH (wL (uM PySem.F.plainAttrs_list PySem.F.slot_list_append PySem.F.type_list_append yM (pv 4) (zU (pv 7) zO))) (zH (yW (i:=5) nd rfl (by first | exact Or.inl rfl | exact Or.inr rfl) (yS4 (i:=3) hr rfl (by first | exact Or.inl rfl | exact Or.inr (Or.inl rfl)) (zU (pv 7) (zU (pv 5) zO)))) (yZ (cI (pv 5) (zU1 (pv 2) (pv 7) dW))))) qR) (yZ (kG (zV8 (yF9 (pv 6))) (yZ (yW (i:=6) nd rfl (by first | exact Or.inl rfl | exact Or.inr rfl) (xS wS (xS wS (pv 6) yV (fun _ _=>rfl)) (xS uV (pv 2) (pv 7) (fun _ _=>rfl)) (fun _ _=>rfl)))) qR))))) (yZ (xF (qL (zU (pv 1) (zU (yL yT rfl T.g_tuple (by rfl) (zU (pv 4) zO)) zO)))))))))
theorem zZ2:zI ["plan","openings","name_in","seen","done","person"] ["plan","openings","name_in"] (zW vZ):=⟨rfl,rfl,rfl,by decide +kernel,rfl,by decide +kernel,by decide +kernel⟩
theorem kH (T:Txt K mg){f:Addr}{fd:FuncData}(h:Has K mg "played" vZ f fd ["plan","openings","name_in"]):FnOk P w K mg base CX0 4 f fd ["plan","openings","name_in"] (spPlayed P w K mg base 1 orK):=by
 obtain⟨f_one_turn,fd_one_turn,H_one_turn⟩:=T.d_one_turn
 have G_one_turn:FnOk P w K mg base CX0 2 f_one_turn fd_one_turn ["tree","person","seen","name_in"] (spTurn P w K mg base 1):=zT4 T H_one_turn
 obtain⟨c_t,P_t,e_t,hc_t⟩:=T.t_played
 refine (zJ8 (k:=3) (kk:=1)) h.F zZ2 rfl rfl (hc_t _ _ h) fun A outer s H E hr => ?_
 have nd:=zZ2.nd
 exact (zH (yW (i:=3) nd rfl (by first | exact Or.inl rfl | exact Or.inr rfl) (qU xY4 (xV (zU gI zO)) (wW zF rfl T.g_len PySem.boot_len (zU (pv 0) zO)))) (zH (yW (i:=4) nd rfl (by first | exact Or.inl rfl | exact Or.inr rfl) (xV zO)) (zH (bW PassesOwn.never rfl (yI9 (zX5 (k:=0) (j:=1) (one:="one") (y:="openings") (x:="played") hr rfl rfl T.g_sorted (zU (yL fZ rfl T.g_range (by rfl) (zU (wW zF rfl T.g_len PySem.boot_len (zU (pv 0) zO)) zO)) zO) (by decide) e_t rfl rfl rfl (fun cl ec=>uN (by rfl) ec) (LamScope.of rfl rfl rfl (by decide +kernel) (by decide +kernel) (by rfl) (by decide +kernel) (by decide +kernel)) rfl rfl (fun cl us pm cd ctv hl=>match us,hl with | [_],_=>rfl) (fun A H outer s f cl c1=>(qL (zU (xS wS (pv 1) (pv 0) (fun _ _=>rfl)) (zU (pv 0) zO)))))) (uU (i:=5) nd rfl (by first | exact Or.inl rfl | exact Or.inr rfl)) (yZ (kG (wI xJ (pv 5) (pv 3) rfl) (yZ (wL (uM PySem.F.plainAttrs_list PySem.F.slot_list_append PySem.F.type_list_append yM (pv 4) (zU (yP G_one_turn (hr.mono (by decide)) rfl H_one_turn.m H_one_turn.F.kp H_one_turn.b .nil pass0 (zU (xS wS (pv 0) (pv 5) (fun _ _=>rfl)) (zU (pv 5) (zU (pv 3) (zU (pv 2) zO))))) zO)))) qR))) (yZ (xF (qL (zU (pv 4) (zU (pv 3) zO))))))))
theorem aE (T:Txt K mg){f:Addr}{fd:FuncData}(h:Has K mg "played" vZ f fd ["plan","openings","name_in"]):FnOk P w K mg base (CXV P w) 4 f fd ["plan","openings","name_in"] (spPlayed P w K mg base 1 orK):=zK8 (kH T h)
theorem zV2:zI ["plan","openings","order"] ["plan","openings","order"] (zW vA):=⟨rfl,rfl,rfl,by decide +kernel,rfl,by decide +kernel,by decide +kernel⟩
theorem kU (T:Txt K mg){f:Addr}{fd:FuncData}(h:Has K mg "turns" vA f fd ["plan","openings","order"]):FnOk P w K mg base (CXV P w) 5 f fd ["plan","openings","order"] (spX true yH):=by
 obtain⟨f_check_game,fd_check_game,H_check_game⟩:=T.d_check_game
 have G_check_game:FnOk P w K mg base (CXV P w) 2 f_check_game fd_check_game ["plan","openings","order"] (spX false zB):=kC T H_check_game
 obtain⟨f_played,fd_played,H_played⟩:=T.d_played
 have G_played:FnOk P w K mg base (CXV P w) 4 f_played fd_played ["plan","openings","name_in"] (spPlayed P w K mg base 1 orK):=aE T H_played
 obtain⟨c_t,P_t,e_t,hc_t⟩:=T.t_turns
 refine bO [] h.F (hc_t _ _ h) zV2 fun A outer s H E hr => ?_
 have nd:=zV2.nd
 have hu64:=hr.units
 have br:=yG (P:=P) (w:=w) (K:=K) (mg:=mg) (base:=base) (N:=["plan","openings","order"]) (x:="turns") (sc:=zW vA) (f:=f) (cdv:=.ref c_t) (A:=A) (outer:=outer) (s:=s) (H:=H) (E:=E) (om:=[])
 exact (zN (vP (yU G_check_game H_check_game (hr.mono (by decide)) br (zS (zZ 0) (zS (zZ 1) (zS (zZ 2) zQ))))) (zL (zP5 (zA2 (i:=0) (j:=0) (by decide) (zE2 (i:=0) (kk:=0) (x:="turns") (y:="order") (pl:="played") (b1:="box") (b2:="last") (by decide) (kH T H_played) (hr.mono (by decide)) rfl H_played.m H_played.F.kp H_played.b (pv 0) (pv 1) (by decide) e_t rfl rfl rfl (fun cl ec=>uN (by rfl) ec) (LamScope.of rfl rfl rfl (by decide +kernel) (by decide +kernel) (by rfl) (by decide +kernel) (by decide +kernel)) rfl rfl rfl (fun cl us pm cd ctv hl=>match us,hl with | [_,_],_=>rfl) (fun A H outer s f cl c1=>(xS wS (pv 2) (pv 0) (fun _ _=>rfl)))) yV (fun _ _=>rfl) (by exact⟨List.not_mem_nil,List.not_mem_nil⟩) (by exact⟨List.not_mem_nil,List.not_mem_nil⟩) (by exact⟨List.not_mem_nil,List.not_mem_nil⟩)))))
theorem zD2:zI ["plan","openings","order"] ["plan","openings","order"] (zW fN):=⟨rfl,rfl,rfl,by decide +kernel,rfl,by decide +kernel,by decide +kernel⟩
theorem yA3 (T:Txt K mg){f:Addr}{fd:FuncData}(h:Has K mg "won" fN f fd ["plan","openings","order"]):FnOk P w K mg base (CXV P w) 6 f fd ["plan","openings","order"] (spX false dC):=by
 obtain⟨f_turns,fd_turns,H_turns⟩:=T.d_turns
 have G_turns:FnOk P w K mg base (CXV P w) 5 f_turns fd_turns ["plan","openings","order"] (spX true yH):=kU T H_turns
 refine xG [] h.F zD2 fun cdv A outer s H E hr => ?_
 have nd:=zD2.nd
 have hu64:=hr.units
 have br:=yG (P:=P) (w:=w) (K:=K) (mg:=mg) (base:=base) (N:=["plan","openings","order"]) (x:="won") (sc:=zW fN) (f:=f) (cdv:=cdv) (A:=A) (outer:=outer) (s:=s) (H:=H) (E:=E) (om:=[])
 exact (zL (yO (zC (zZ4 rfl) yZ2 T.g_all (by rfl) (zM (yX9 (sc0:=zW fN) (N0:=["plan","openings","order"]) (fs:=["openings"]) (js:=[1]) (by exact⟨rfl,by decide +kernel,by decide +kernel,by decide +kernel,by decide +kernel,by decide +kernel,rfl,by decide +kernel,by decide +kernel⟩) rfl rfl rfl (RI.c (vL (RE.rd (RE.cl (vQ G_turns H_turns (hr.mono (by decide)) br (zS (zZ 0) (zS (zZ 1) (zS (zZ 2) zQ)))))))) (fun _ _ _ _=>qP) (fun _ _ _ _=>(jE cQ cX (zC zF xW T.g_len PySem.boot_len (zM (zZ 1) zQ)) (yC yQ yB (zZ 2) (zZ 0))))) zQ))))
theorem cG:zI ["plan","openings","order","rings","person","boxes"] ["plan","openings","order"] (zW vR):=⟨rfl,rfl,rfl,by decide +kernel,rfl,by decide +kernel,by decide +kernel⟩
theorem zH2 (T:Txt K mg){f:Addr}{fd:FuncData}(h:Has K mg "written" vR f fd ["plan","openings","order"]):FnOk P w K mg base (CXV P w) 6 f fd ["plan","openings","order"] (spX false uD):=by
 obtain⟨f_turns,fd_turns,H_turns⟩:=T.d_turns
 have G_turns:FnOk P w K mg base (CXV P w) 5 f_turns fd_turns ["plan","openings","order"] (spX true yH):=kU T H_turns
 obtain⟨f_order_by,fd_order_by,H_order_by⟩:=T.d_order_by
 have G_order_by:FnOk P w K mg base (CXV P w) 2 f_order_by fd_order_by ["rings"] (spX false kX):=zQ1 T H_order_by
 refine xG [3] h.F cG fun cdv A outer s H E hr => ?_
 have nd:=cG.nd
 have hu64:=hr.units
 have br:=yG (P:=P) (w:=w) (K:=K) (mg:=mg) (base:=base) (N:=["plan","openings","order","rings","person","boxes"]) (x:="written") (sc:=zW vR) (f:=f) (cdv:=cdv) (A:=A) (outer:=outer) (s:=s) (H:=H) (E:=E) (om:=[3])
 exact (zN (wN 3 nd (yY zQ)) (zN (jW (vL (RE.rd (RE.cl (vQ G_turns H_turns (hr.mono (by decide)) br (zS (zZ 0) (zS (zZ 1) (zS (zZ 2) zQ))))))) (zD8 rfl (kR (xB 4 nd) (kR (xB 5 nd) zO8))) (zL (qS 3 PySem.F.slot_list_append PySem.F.type_list_append yM vT (zS (RE.cl (yX fI yY3 (yY (zS (zZ 4) zQ)) (qO (sc0:=zW vR) (N0:=["plan","openings","order","rings","person","boxes"]) (fs:=["order"]) (js:=[2]) (by exact⟨rfl,by decide +kernel,by decide +kernel,by decide +kernel,by decide +kernel,rfl,by decide +kernel,by decide +kernel⟩) rfl rfl rfl (RI.c (vL (RE.rd (uC (zZ 5) jC (vV (zW8 zJ)))))) (fun _ _ _ _=>qP) (fun _ _ _ _=>(yC yQ yB (zZ 1) (zZ 0)))))) zQ))) PassesOwn.leaving) (zL (yO (cK G_order_by H_order_by (hr.mono (by decide)) br (zM (wV 3) zQ))))))
theorem gR:zI ["plan","openings","order"] ["plan","openings","order"] (zW xK):=⟨rfl,rfl,rfl,by decide +kernel,rfl,by decide +kernel,by decide +kernel⟩
theorem zW3 (T:Txt K mg){f:Addr}{fd:FuncData}(h:Has K mg "unwritten" xK f fd ["plan","openings","order"]):FnOk P w K mg base (CXV P w) 5 f fd ["plan","openings","order"] (spX false wD):=by
 obtain⟨f_check_game,fd_check_game,H_check_game⟩:=T.d_check_game
 have G_check_game:FnOk P w K mg base (CXV P w) 2 f_check_game fd_check_game ["plan","openings","order"] (spX false zB):=kC T H_check_game
 obtain⟨f_played,fd_played,H_played⟩:=T.d_played
 have G_played:FnOk P w K mg base (CXV P w) 4 f_played fd_played ["plan","openings","name_in"] (spPlayed P w K mg base 1 orK):=aE T H_played
 obtain⟨c_t,P_t,e_t,hc_t⟩:=T.t_unwritten
 refine bO [] h.F (hc_t _ _ h) gR fun A outer s H E hr => ?_
 have nd:=gR.nd
 have hu64:=hr.units
 have br:=yG (P:=P) (w:=w) (K:=K) (mg:=mg) (base:=base) (N:=["plan","openings","order"]) (x:="unwritten") (sc:=zW xK) (f:=f) (cdv:=.ref c_t) (A:=A) (outer:=outer) (s:=s) (H:=H) (E:=E) (om:=[])
 exact (zN (vP (yU G_check_game H_check_game (hr.mono (by decide)) br (zS (zZ 0) (zS (zZ 1) (zS (zZ 2) zQ))))) (zL (yO (wT yT bY T.g_tuple (by rfl) (zM (zA2 (i:=1) (j:=1) (by decide) (zE2 (i:=1) (kk:=0) (x:="unwritten") (y:="order") (pl:="played") (b1:="box") (b2:="last") (by decide) (kH T H_played) (hr.mono (by decide)) rfl H_played.m H_played.F.kp H_played.b (pv 0) (pv 1) (by decide) e_t rfl rfl rfl (fun cl ec=>uN (by rfl) ec) (LamScope.of rfl rfl rfl (by decide +kernel) (by decide +kernel) (by rfl) (by decide +kernel) (by decide +kernel)) rfl rfl rfl (fun cl us pm cd ctv hl=>match us,hl with | [_,_],_=>rfl) (fun A H outer s f cl c1=>(xS wS (pv 2) (pv 1) (fun _ _=>rfl)))) yV (fun _ _=>rfl) (by exact⟨List.not_mem_nil,List.not_mem_nil⟩) (by exact⟨List.not_mem_nil,List.not_mem_nil⟩) (by exact⟨List.not_mem_nil,List.not_mem_nil⟩)) zQ)))))
theorem gZ:zI ["script","k"] ["script","k"] (zW uO):=⟨rfl,rfl,rfl,by decide +kernel,rfl,by decide +kernel,by decide +kernel⟩
theorem zX1 (T:Txt K mg){f:Addr}{fd:FuncData}(h:Has K mg "_law_cell_at" uO f fd ["script","k"]):FnOk P w K mg base CX0 1 f fd ["script","k"] (spF false wZ):=by
 refine yO5 [] h.F gZ fun cdv A outer s H E hr => ?_
 have nd:=gZ.nd
 have hu64:=hr.units
 exact (zN (xY (yD yP9 yN1 (zZ 1) (zC zF xW T.g_len PySem.boot_len (zM (zZ 0) zQ))) (zL (yO (yC yQ yB (zZ 0) (zZ 1)))) yN) (zL (yO zJ)))
theorem zY1:zI ["script","start","many"] ["script","start","many"] (zW qI):=⟨rfl,rfl,rfl,by decide +kernel,rfl,by decide +kernel,by decide +kernel⟩
theorem zI8 (T:Txt K mg){f:Addr}{fd:FuncData}(h:Has K mg "_law_sums" qI f fd ["script","start","many"]):FnOk P w K mg base CX0 1 f fd ["script","start","many"] (spF true qA):=by
 refine yO5 [] h.F zY1 fun cdv A outer s H E hr => ?_
 have nd:=zY1.nd
 have hu64:=hr.units
 exact (zL (zP5 (qO (sc0:=zW qI) (N0:=["script","start","many"]) (fs:=["script","start","many"]) (js:=[0,1,2]) (by exact⟨rfl,by decide +kernel,by decide +kernel,by decide +kernel,by decide +kernel,rfl,by decide +kernel,by decide +kernel⟩) rfl rfl rfl (RI.c (uA T.g_range (zM (zZ 2) zQ))) (fun _ _ _ _=>qP) (fun _ _ _ _=>(zC (yX7 rfl) xY7 T.g_sum PyProof.Rows.boot_sum (zM (zB4 (zZ 1) (vV (yX vJ qC (zZ 2) (zZ 0))) jC (vV (zZ 3))) zQ))))))
theorem zZ3:zI ["pot","many","digit"] ["pot","many"] (zW kD):=⟨rfl,rfl,rfl,by decide +kernel,rfl,by decide +kernel,by decide +kernel⟩
theorem vK (T:Txt K mg){f:Addr}{fd:FuncData}(h:Has K mg "_law_take" kD f fd ["pot","many"]):FnOk P w K mg base CX0 1 f fd ["pot","many"] spTake:=by
 refine yF4 h.F zZ3 rfl rfl fun cdv A outer s H E hr => ?_
 have nd:=zZ3.nd
 exact (zH (yW (i:=2) nd rfl (by first | exact Or.inl rfl | exact Or.inr rfl) (qU uJ (xS uV (pv 0) yV (fun _ _=>rfl)) (pv 1))) (zH (cI (qU kY (xS uV (pv 0) yV (fun _ _=>rfl)) (pv 1)) (zU1 (pv 0) yV dW)) (yZ (xF (pv 2)))))
theorem cV:zI ["pot","people","names","order"] ["pot","people"] (zW uE):=⟨rfl,rfl,rfl,by decide +kernel,rfl,by decide +kernel,by decide +kernel⟩
theorem zR3 (T:Txt K mg){f:Addr}{fd:FuncData}(h:Has K mg "_law_order" uE f fd ["pot","people"]):FnOk P w K mg base CX0 2 f fd ["pot","people"] spOrd:=by
 obtain⟨f_l_take,fd_l_take,H_l_take⟩:=T.d_l_take
 have G_l_take:FnOk P w K mg base CX0 1 f_l_take fd_l_take ["pot","many"] spTake:=vK T H_l_take
 refine yF3 h.F cV rfl rfl fun cdv A outer s H E hr => ?_
 have nd:=cV.nd
 exact (zH (yW (i:=2) nd rfl (by first | exact Or.inl rfl | exact Or.inr rfl) (yL (hZ rfl) rfl T.g_list (by rfl) (zU (yL fZ rfl T.g_range (by rfl) (zU (pv 1) zO)) zO))) (zH (yW (i:=3) nd rfl (by first | exact Or.inl rfl | exact Or.inr rfl) (xV zO)) (zH (dO PassesOwn.never (wI (jY hr.units) (pv 2) (xV zO) (nomark _)) (yZ (wL (uM PySem.F.plainAttrs_list PySem.F.slot_list_append PySem.F.type_list_append yM (pv 3) (zU (uM PySem.F.plainAttrs_list PySem.F.slot_list_pop PySem.F.type_list_pop yW4 (pv 2) (zU (yP G_l_take (hr.mono (by decide)) rfl H_l_take.m H_l_take.F.kp H_l_take.b .nil pass0 (zU (pv 0) (zU (wW zF rfl T.g_len PySem.boot_len (zU (pv 2) zO)) zO))) zO)) zO))))) (yZ (xF (yL yT rfl T.g_tuple (by rfl) (zU (pv 3) zO)))))))
theorem zH8 (T:Txt K mg){f:Addr}{fd:FuncData}(h:Has K mg "_law_order" uE f fd ["pot","people"]):FnOk P w K mg base (CXV P w) 2 f fd ["pot","people"] spOrd:=zK8 (zR3 T h)
theorem kA:zI ["pot","people"] ["pot","people"] (zW wU):=⟨rfl,rfl,rfl,by decide +kernel,rfl,by decide +kernel,by decide +kernel⟩
theorem aZ (T:Txt K mg){f:Addr}{fd:FuncData}(h:Has K mg "_law_openings" wU f fd ["pot","people"]):FnOk P w K mg base CX0 2 f fd ["pot","people"] spOpn:=by
 obtain⟨f_l_take,fd_l_take,H_l_take⟩:=T.d_l_take
 have G_l_take:FnOk P w K mg base CX0 1 f_l_take fd_l_take ["pot","many"] spTake:=vK T H_l_take
 refine xW5 h.F kA rfl rfl fun cdv A outer s H E hr => ?_
 have nd:=kA.nd
 exact (yZ (xF (yL yT rfl T.g_tuple (by rfl) (zU (aT (sc0:=zW wU) (N0:=["pot","people"]) (fs:=["pot","people"]) (js:=[0,1]) (by exact⟨rfl,by decide +kernel,by decide +kernel,by decide +kernel,by decide +kernel,rfl,by decide +kernel,by decide +kernel⟩) rfl rfl rfl (vN rfl T.g_range (zU (pv 1) zO)) (fun _ _ _ _=>.nil) (fun _ _ _ _=>(yP G_l_take (hr.mono (by decide)) rfl H_l_take.m H_l_take.F.kp H_l_take.b .nil pass0 (zU (pv 1) (zU (qU vJ (pv 2) yV) zO))))) zO))))
theorem zZ1:zI ["pot","people","left","boxes","names","thin","closed","box","nexts","name"] ["pot","people","left","boxes","names","thin"] (zW uY):=⟨rfl,rfl,rfl,by decide +kernel,rfl,by decide +kernel,by decide +kernel⟩
theorem zI9 (T:Txt K mg){f:Addr}{fd:FuncData}(h:Has K mg "_law_tree" uY f fd ["pot","people","left","boxes","names","thin"]):∀n,FnOk P w K mg base CX0 (2+n) f fd ["pot","people","left","boxes","names","thin"] (spTree n):=by
 intro n
 induction n with
 | zero=>exact yH9
 | succ n G_l_tree =>
 have H_l_tree:=h
 obtain⟨f_l_take,fd_l_take,H_l_take⟩:=T.d_l_take
 have G_l_take:FnOk P w K mg base CX0 1 f_l_take fd_l_take ["pot","many"] spTake:=vK T H_l_take
 refine yG9 h.F zZ1 rfl rfl fun cdv A outer s H E hr => ?_
 have nd:=zZ1.nd
 exact (zH (kG (PW.pt (pw_or (wI (xC hr.units) (pv 2) yV (nomark _)) (pw_or1 (PW.pt (pw_and (zA7 (pv 5)) (pw_and1 (wI (xC hr.units) (yP G_l_take (hr.mono (Nat.le_trans (by decide) (Nat.le_add_right _ _))) rfl H_l_take.m H_l_take.F.kp H_l_take.b .nil pass0 (zU (pv 0) (zU yV zO))) yV (nomark _)))))))) (yZ (xF gI)) qR) (zH (yI1 (i:=6) (sc0:=zW uY) (N0:=["pot","people","left","boxes","names","thin","closed","box","nexts","name"]) (fs:=["boxes"]) (js:=[3]) (by exact⟨rfl,by decide +kernel,by decide +kernel,by decide +kernel,by decide +kernel,rfl,by decide +kernel,by decide +kernel⟩) rfl rfl rfl (vN rfl T.g_range (zU (pv 1) zO)) (fun _ _ _ _=>.one (wI xJ (pv 0) (pv 1) rfl)) (fun _ _ _ _=>pv 0) nd rfl (by first | exact Or.inl rfl | exact Or.inr rfl) rfl (by intro _;rfl) (by first | exact .inl rfl | exact .inr rfl)) (zH (yW (i:=7) nd rfl (by first | exact Or.inl rfl | exact Or.inr rfl) (xS uV (pv 6) (yP G_l_take (hr.mono (Nat.le_trans (by decide) (Nat.le_add_right _ _))) rfl H_l_take.m H_l_take.F.kp H_l_take.b .nil pass0 (zU (pv 0) (zU (wW zF rfl T.g_len PySem.boot_len (zU (pv 6) zO)) zO))) (fun _ _=>rfl))) (zH (yW (i:=8) nd rfl (by first | exact Or.inl rfl | exact Or.inr rfl) (xV zO)) (zH (bW PassesOwn.never rfl (vN rfl T.g_range (zU (pv 1) zO)) (uU (i:=9) nd rfl (by first | exact Or.inl rfl | exact Or.inr rfl)) (yZ (kG (wI yZ9 (pv 9) (pv 4) rfl) (yZ (wL (uM PySem.F.plainAttrs_list PySem.F.slot_list_append PySem.F.type_list_append yM (pv 8) (zU gI zO)))) (yZ (wL (uM PySem.F.plainAttrs_list PySem.F.slot_list_append PySem.F.type_list_append yM (pv 8) (zU (yP G_l_tree hr rfl H_l_tree.m H_l_tree.F.kp H_l_tree.b .nil pass0 (zU (pv 0) (zU (pv 1) (zU (qU cD (pv 2) yV) (zU (qU fI (pv 3) (xV (zU (pv 7) zO))) (zU (qU fI (pv 4) (xV (zU (pv 9) zO))) (zU (pv 5) zO))))))) zO))))))) (yZ (xF (qL (zU (pv 7) (zU (yL yT rfl T.g_tuple (by rfl) (zU (pv 8) zO)) zO))))))))))
theorem zJ7 (T:Txt K mg){f:Addr}{fd:FuncData}(h:Has K mg "_law_tree" uY f fd ["pot","people","left","boxes","names","thin"]):FnOk P w K mg base CX0 10 f fd ["pot","people","left","boxes","names","thin"] (spTree 8):=zI9 T h 8
theorem zZ7:zI ["script","people","openings","trees","cells","person","pot","thin"] ["script","people","openings"] (zW qK):=⟨rfl,rfl,rfl,by decide +kernel,rfl,by decide +kernel,by decide +kernel⟩
theorem zK6 (T:Txt K mg){f:Addr}{fd:FuncData}(h:Has K mg "_law_plan" qK f fd ["script","people","openings"]):FnOk P w K mg base CX0 11 f fd ["script","people","openings"] (spF false vD):=by
 obtain⟨f_l_sums,fd_l_sums,H_l_sums⟩:=T.d_l_sums
 have G_l_sums:FnOk P w K mg base CX0 1 f_l_sums fd_l_sums ["script","start","many"] (spF true qA):=zI8 T H_l_sums
 obtain⟨f_l_take,fd_l_take,H_l_take⟩:=T.d_l_take
 have G_l_take:FnOk P w K mg base CX0 1 f_l_take fd_l_take ["pot","many"] spTake:=vK T H_l_take
 obtain⟨f_l_tree,fd_l_tree,H_l_tree⟩:=T.d_l_tree
 have G_l_tree:FnOk P w K mg base CX0 10 f_l_tree fd_l_tree ["pot","people","left","boxes","names","thin"] (spTree 8):=zJ7 T H_l_tree
 refine (yF7 qA (k:=8) (by decide)) h.F zZ7 rfl rfl fun cdv A outer s H E hr => ?_
 have nd:=zZ7.nd
 exact (zH (yW (i:=3) nd rfl (by first | exact Or.inl rfl | exact Or.inr rfl) (xV zO)) (zH (yW (i:=4) nd rfl (by first | exact Or.inl rfl | exact Or.inr rfl) (yP G_l_sums (hr.mono (by decide)) rfl H_l_sums.m H_l_sums.F.kp H_l_sums.b .nil pass0 (zU (pv 0) (zU yV (zU (pv 1) zO))))) (zH (bW PassesOwn.never rfl (vN rfl T.g_range (zU (pv 1) zO)) (uU (i:=5) nd rfl (by first | exact Or.inl rfl | exact Or.inr rfl)) (zH (yW (i:=6) nd rfl (by first | exact Or.inl rfl | exact Or.inr rfl) (xV (zU (xS uV (pv 4) (pv 5) (fun _ _=>rfl)) zO))) (zH (yW (i:=7) nd rfl (by first | exact Or.inl rfl | exact Or.inr rfl) (zN5 (xC hr.units) (yP G_l_take (hr.mono (by decide)) rfl H_l_take.m H_l_take.F.kp H_l_take.b .nil pass0 (zU (pv 6) (zU yV zO))) yV (nomark _))) (yZ (wL (uM PySem.F.plainAttrs_list PySem.F.slot_list_append PySem.F.type_list_append yM (pv 3) (zU (yP G_l_tree (hr.mono (by decide)) rfl H_l_tree.m H_l_tree.F.kp H_l_tree.b .nil pass0 (zU (pv 6) (zU (pv 1) (zU (xS wS (pv 2) (pv 5) (fun _ _=>rfl)) (zU (xV zO) (zU (xV (zU (pv 5) zO)) (zU (pv 7) zO))))))) zO))))))) (yZ (xF (yL yT rfl T.g_tuple (by rfl) (zU (pv 3) zO)))))))
theorem zC9 (T:Txt K mg){f:Addr}{fd:FuncData}(h:Has K mg "_law_plan" qK f fd ["script","people","openings"]):FnOk P w K mg base (CXV P w) 11 f fd ["script","people","openings"] (spX false vD):=zF2 (fun _ _=>xX1) (zK6 T h)
theorem fC:zI ["script","pot","people","openings"] ["script"] (zW wK):=⟨rfl,rfl,rfl,by decide +kernel,rfl,by decide +kernel,by decide +kernel⟩
theorem zW5 (T:Txt K mg){f:Addr}{fd:FuncData}(h:Has K mg "_law_ground" wK f fd ["script"]):FnOk P w K mg base CX0 3 f fd ["script"] (spF false wJ):=by
 obtain⟨f_l_cell_at,fd_l_cell_at,H_l_cell_at⟩:=T.d_l_cell_at
 have G_l_cell_at:FnOk P w K mg base CX0 1 f_l_cell_at fd_l_cell_at ["script","k"] (spF false wZ):=zX1 T H_l_cell_at
 obtain⟨f_l_take,fd_l_take,H_l_take⟩:=T.d_l_take
 have G_l_take:FnOk P w K mg base CX0 1 f_l_take fd_l_take ["pot","many"] spTake:=vK T H_l_take
 obtain⟨f_l_openings,fd_l_openings,H_l_openings⟩:=T.d_l_openings
 have G_l_openings:FnOk P w K mg base CX0 2 f_l_openings fd_l_openings ["pot","people"] spOpn:=aZ T H_l_openings
 refine (xP5 4 5 4 wZ ⟨by decide,by decide⟩ ⟨by decide,by decide⟩ ⟨by decide,by decide⟩) h.F fC rfl rfl fun cdv A outer s H E hr => ?_
 have nd:=fC.nd
 exact (zH (yW (i:=1) nd rfl (by first | exact Or.inl rfl | exact Or.inr rfl) (xV (zU (yP G_l_cell_at (hr.mono (by decide)) rfl H_l_cell_at.m H_l_cell_at.F.kp H_l_cell_at.b .nil pass0 (zU (pv 0) (zU yV zO))) zO))) (zH (yW (i:=2) nd rfl (by first | exact Or.inl rfl | exact Or.inr rfl) (qU vJ yV (yP G_l_take (hr.mono (by decide)) rfl H_l_take.m H_l_take.F.kp H_l_take.b .nil pass0 (zU (pv 1) (zU yV zO))))) (zH (yW (i:=3) nd rfl (by first | exact Or.inl rfl | exact Or.inr rfl) (yP G_l_openings (hr.mono (by decide)) rfl H_l_openings.m H_l_openings.F.kp H_l_openings.b .nil pass0 (zU (pv 1) (zU (pv 2) zO)))) (zH (kG (wI (xC hr.units) (yP G_l_take (hr.mono (by decide)) rfl H_l_take.m H_l_take.F.kp H_l_take.b .nil pass0 (zU (pv 1) (zU yV zO))) yV (nomark _)) (zH (yW (i:=2) nd rfl (by first | exact Or.inl rfl | exact Or.inr rfl) yV) (yZ (yW (i:=3) nd rfl (by first | exact Or.inl rfl | exact Or.inr rfl) (yL yT rfl T.g_tuple (by rfl) (zU (aT (sc0:=zW wK) (N0:=["script","pot","people","openings"]) (fs:=["pot"]) (js:=[1]) (by exact⟨rfl,by decide +kernel,by decide +kernel,by decide +kernel,by decide +kernel,rfl,by decide +kernel,by decide +kernel⟩) rfl rfl rfl (vN rfl T.g_range (zU (pv 2) zO)) (fun _ _ _ _=>.nil) (fun _ _ _ _=>(yP G_l_take (hr.mono (by decide)) rfl H_l_take.m H_l_take.F.kp H_l_take.b .nil pass0 (zU (pv 1) (zU yV zO))))) zO))))) qR) (yZ (xF (qL (zU (pv 2) (zU (pv 3) zO)))))))))
theorem zR7 (T:Txt K mg){f:Addr}{fd:FuncData}(h:Has K mg "_law_ground" wK f fd ["script"]):FnOk P w K mg base (CXV P w) 3 f fd ["script"] (spX false wJ):=zF2 (fun _ _=>xY5) (zW5 T h)
theorem cU:zI ["found"] ["found"] (zW uG):=⟨rfl,rfl,rfl,by decide +kernel,rfl,by decide +kernel,by decide +kernel⟩
theorem zG4 (T:Txt K mg){f:Addr}{fd:FuncData}(h:Has K mg "_law_whole" uG f fd ["found"]):FnOk P w K mg base (CXV P w) 1 f fd ["found"] (spX false xQ):=by
 refine xG [] h.F cU fun cdv A outer s H E hr => ?_
 have nd:=cU.nd
 have hu64:=hr.units
 have br:=yG (P:=P) (w:=w) (K:=K) (mg:=mg) (base:=base) (N:=["found"]) (x:="_law_whole") (sc:=zW uG) (f:=f) (cdv:=cdv) (A:=A) (outer:=outer) (s:=s) (H:=H) (E:=E) (om:=[])
 exact (zL (yO (dA (gO T.k_int T.g_isinstance T.g_int (by decide +kernel) (zZ 0)) (cO (yE7 (gO T.k_bool T.g_isinstance T.g_bool (by decide +kernel) (zZ 0)))))))
theorem cL:zI ["plan","openings","order","people","seen","open_ones","shown_ones","person","boxes","tree","box"] ["plan","openings","order"] (zW xO):=⟨rfl,rfl,rfl,by decide +kernel,rfl,by decide +kernel,by decide +kernel⟩
theorem zJ2 (T:Txt K mg){f:Addr}{fd:FuncData}(h:Has K mg "_law_turns" xO f fd ["plan","openings","order"]):FnOk P w K mg base (CXV P w) 4 f fd ["plan","openings","order"] (spX true uI):=by
 obtain⟨c_t,P_t,e_t,hc_t⟩:=T.t_l_turns
 refine bO [4,5,6,8] h.F (hc_t _ _ h) cL fun A outer s H E hr => ?_
 have nd:=cL.nd
 have hu64:=hr.units
 have br:=yG (P:=P) (w:=w) (K:=K) (mg:=mg) (base:=base) (N:=["plan","openings","order","people","seen","open_ones","shown_ones","person","boxes","tree","box"]) (x:="_law_turns") (sc:=zW xO) (f:=f) (cdv:=.ref c_t) (A:=A) (outer:=outer) (s:=s) (H:=H) (E:=E) (om:=[4,5,6,8])
 exact (zN (xZ 3 nd (zC zF xW T.g_len PySem.boot_len (zM (zZ 0) zQ))) (zN (wN 4 nd (yY zQ)) (zN (wN 5 nd (yY zQ)) (zN (wN 6 nd (yY zQ)) (zN (jW (vL (RE.rd (RE.cl (yR7 (C:=bodyX P w K mg base ["plan","openings","order","people","seen","open_ones","shown_ones","person","boxes","tree","box"] "_law_turns" (zW xO) f (.ref c_t) A outer s H E [4,5,6,8]) (k:=0) (j:=1) (one:="one") (y:="openings") (x:="_law_turns") (hr.mono (by decide)) rfl rfl T.g_sorted (zM (qH T.g_list T.g_range (zM (zZ 3) zQ)) zQ) (by decide) e_t rfl rfl rfl (fun cl ec=>uN (by rfl) ec) (LamScope.of rfl rfl rfl (by decide +kernel) (by decide +kernel) (by rfl) (by decide +kernel) (by decide +kernel)) rfl rfl (fun cl us pm cd ctv hl=>match us,hl with | [_],_=>rfl) (fun A H outer s f cl c1=>(qL (zU (xS wS (pv 1) (pv 0) (fun _ _=>rfl)) (zU (pv 0) zO)))) ⟨show ¬1∈([4,5,6,8]:List Nat) by decide,List.not_mem_nil⟩)))) (xB 7 nd) (zN (wN 8 nd (yY zQ)) (zN (xZ 9 nd (yC yQ yB (zZ 0) (zZ 7))) (zN (yW2 1000000 (yD xJ zG7 (zZ 7) (wV 4)) (zN (xZ 10 nd (yC yQ yB (qO (sc0:=zW xO) (N0:=["plan","openings","order","people","seen","open_ones","shown_ones","person","boxes","tree","box"]) (fs:=["open_ones"]) (js:=[5]) (by exact⟨rfl,by decide +kernel,by decide +kernel,by decide +kernel,by decide +kernel,rfl,by decide +kernel,by decide +kernel⟩) rfl rfl rfl (RI.c (uA T.g_range (zM (zZ 3) zQ))) (fun _ _ _ _=>(yI5 (yD xJ zG7 (zZ 0) (zC3 1)))) (fun _ _ _ _=>(zZ 0))) zJ)) (zN (xY (yD yI7 yW6 (zZ 9) yC5) (zN (xZ 10 nd (yC yQ yB (zZ 9) zJ)) (zL (xZ 9 nd (yC yQ yB (yC yQ yB (zZ 9) zJ) (yC yQ yB (zZ 2) (zZ 10)))))) yN) (zL (xY (yD xJ zG7 (zZ 10) (wV 5)) (zN (qS 5 PySem.F.slot_list_append PySem.F.type_list_append yM vT (zS (zZ 10) zQ)) (zN (qS 8 PySem.F.slot_list_append PySem.F.type_list_append yM vT (zS (zZ 10) zQ)) (zL (qS 4 PySem.F.slot_list_append PySem.F.type_list_append yM vT (zS (yC yQ yB (zZ 2) (zZ 10)) zQ))))) yN)))) PassesOwn.leaving) (zL (xY (yD (jY hu64) fT (wV 8) (yY zQ)) (zL (qS 6 PySem.F.slot_list_append PySem.F.type_list_append yM vT (zS (gE (zS (zZ 7) (zS (wT yT bY T.g_tuple (by rfl) (zM (wV 8) zQ)) zQ))) zQ))) yN))))) PassesOwn.leaving) (zL (yL4 6)))))))
theorem gQ:zI ["way","plan","openings","order","marks","e"] ["way","plan","openings","order"] (zW wG):=⟨rfl,rfl,rfl,by decide +kernel,rfl,by decide +kernel,by decide +kernel⟩
theorem zX9 (T:Txt K mg){f:Addr}{fd:FuncData}(h:Has K mg "_law_refused" wG f fd ["way","plan","openings","order"]):FnOk P w K mg base (CXV P w) 7 f fd ["way","plan","openings","order"] (spX false yR):=by
 obtain⟨f_turns,fd_turns,H_turns⟩:=T.d_turns
 have G_turns:FnOk P w K mg base (CXV P w) 5 f_turns fd_turns ["plan","openings","order"] (spX true yH):=kU T H_turns
 obtain⟨f_won,fd_won,H_won⟩:=T.d_won
 have G_won:FnOk P w K mg base (CXV P w) 6 f_won fd_won ["plan","openings","order"] (spX false dC):=yA3 T H_won
 obtain⟨f_written,fd_written,H_written⟩:=T.d_written
 have G_written:FnOk P w K mg base (CXV P w) 6 f_written fd_written ["plan","openings","order"] (spX false uD):=zH2 T H_written
 obtain⟨f_unwritten,fd_unwritten,H_unwritten⟩:=T.d_unwritten
 have G_unwritten:FnOk P w K mg base (CXV P w) 5 f_unwritten fd_unwritten ["plan","openings","order"] (spX false wD):=zW3 T H_unwritten
 refine xG [] h.F gQ fun cdv A outer s H E hr => ?_
 have nd:=gQ.nd
 have hu64:=hr.units
 have br:=yG (P:=P) (w:=w) (K:=K) (mg:=mg) (base:=base) (N:=["way","plan","openings","order","marks","e"]) (x:="_law_refused") (sc:=zW wG) (f:=f) (cdv:=cdv) (A:=A) (outer:=outer) (s:=s) (H:=H) (E:=E) (om:=[])
 exact (zN (xZ 4 nd (RE.cl (yY zQ))) (zN (xV1 5 CLS nd (fun _ _ _ br=>(zL (xY (yD (xC hu64) jO (zZ 0) zJ) (zL (vP (vQ G_turns H_turns (hr.mono (by decide)) br (zS (zZ 1) (zS (zZ 2) (zS (zZ 3) zQ)))))) (zL (xY (yD (xC hu64) jO (zZ 0) zJ) (zL (vP (yU G_won H_won (hr.mono (by decide)) br (zS (zZ 1) (zS (zZ 2) (zS (zZ 3) zQ)))))) (zL (xY (yD (xC hu64) jO (zZ 0) zJ) (zL (vP (yU G_written H_written (hr.mono (by decide)) br (zS (zZ 1) (zS (zZ 2) (zS (zZ 3) zQ)))))) (zL (vP (yU G_unwritten H_unwritten (hr.mono (by decide)) br (zS (zZ 1) (zS (zZ 2) (zS (zZ 3) zQ))))))))))))) (fun _=>(zL (xZ 4 nd (RE.cl (yY (zS (zO1 CLS ["BadOpenings"] T.kx_BadOpenings T.g_isinstance T.x_BadOpenings (zZ 5)) (zS (zO1 CLS ["BadOrder"] T.kx_BadOrder T.g_isinstance T.x_BadOrder (zZ 5)) (zS (yS9 CLS CLS T.kv_ValueError T.g_isinstance T.g_ValueError PyProof.Rows.Boot.«ValueError» (zZ 5)) zQ)))))))) T.tx_BoxError T.tb_BoxError T.x_BoxError) (zL (yO (zZ 4)))))
theorem qX:zI ["openings","cell","people","at","far","odd"] ["openings","cell"] (zW xX):=⟨rfl,rfl,rfl,by decide +kernel,rfl,by decide +kernel,by decide +kernel⟩
theorem fH (T:Txt K mg){f:Addr}{fd:FuncData}(h:Has K mg "_law_bad_openings" xX f fd ["openings","cell"]):FnOk P w K mg base (CXV P w) 1 f fd ["openings","cell"] (spX false yI):=by
 refine xG [] h.F qX fun cdv A outer s H E hr => ?_
 have nd:=qX.nd
 have hu64:=hr.units
 have br:=yG (P:=P) (w:=w) (K:=K) (mg:=mg) (base:=base) (N:=["openings","cell","people","at","far","odd"]) (x:="_law_bad_openings") (sc:=zW xX) (f:=f) (cdv:=cdv) (A:=A) (outer:=outer) (s:=s) (H:=H) (E:=E) (om:=[])
 exact (zN (xZ 2 nd (zC zF xW T.g_len PySem.boot_len (zM (zZ 0) zQ))) (zN (xZ 3 nd (yX uJ qB (yX kY aS (zZ 1) zJ) (zZ 2))) (zN (xZ 4 nd (yX uJ qB (yX kY aS (zZ 1) zJ) (yX xX3 xY9 zJ zJ))) (zN (xZ 5 nd (yC yQ yB (yY (zS (zW8 zJ) (zS (yX vJ qC (zZ 2) zJ) (zS (yX cD zU3 (zW8 zJ) (zZ 4)) (zS (yX vJ qC (yX vJ qC (zZ 2) zJ) (zZ 4)) zQ))))) (yX uJ qB (zZ 1) zJ))) (zL (yO (yC yQ yB (yY (zS (yX bF bQ (yX bF bQ (uC (zZ 0) jC (vV (zZ 3))) (gE (zS (zZ 5) zQ))) (uC (zZ 0) (vV (yX vJ qC (zZ 3) zJ)) jC)) (zS (yX bF bQ (zZ 0) (gE (zS zJ zQ))) (zS (uC (zZ 0) (vV zJ) jC) zQ)))) (yX uJ qB (yX kY aS (zZ 1) zJ) zJ))))))))
theorem cY:zI ["plan","openings","order","due","found","opened_ones","turn"] ["plan","openings","order"] (zW vU):=⟨rfl,rfl,rfl,by decide +kernel,rfl,by decide +kernel,by decide +kernel⟩
theorem zJ6 (T:Txt K mg){f:Addr}{fd:FuncData}(h:Has K mg "_law_right" vU f fd ["plan","openings","order"]):FnOk P w K mg base (CXV P w) 6 f fd ["plan","openings","order"] (spX false uK):=by
 obtain⟨f_l_turns,fd_l_turns,H_l_turns⟩:=T.d_l_turns
 have G_l_turns:FnOk P w K mg base (CXV P w) 4 f_l_turns fd_l_turns ["plan","openings","order"] (spX true uI):=zJ2 T H_l_turns
 obtain⟨f_turns,fd_turns,H_turns⟩:=T.d_turns
 have G_turns:FnOk P w K mg base (CXV P w) 5 f_turns fd_turns ["plan","openings","order"] (spX true yH):=kU T H_turns
 obtain⟨f_l_whole,fd_l_whole,H_l_whole⟩:=T.d_l_whole
 have G_l_whole:FnOk P w K mg base (CXV P w) 1 f_l_whole fd_l_whole ["found"] (spX false xQ):=zG4 T H_l_whole
 refine xG [4,5] h.F cY fun cdv A outer s H E hr => ?_
 have nd:=cY.nd
 have hu64:=hr.units
 have br:=yG (P:=P) (w:=w) (K:=K) (mg:=mg) (base:=base) (N:=["plan","openings","order","due","found","opened_ones","turn"]) (x:="_law_right") (sc:=zW vU) (f:=f) (cdv:=cdv) (A:=A) (outer:=outer) (s:=s) (H:=H) (E:=E) (om:=[4,5])
 exact (zN (xZ 3 nd (RE.cl (vQ G_l_turns H_l_turns (hr.mono (by decide)) br (zS (zZ 0) (zS (zZ 1) (zS (zZ 2) zQ)))))) (zN (wN 4 nd (vQ G_turns H_turns (hr.mono (by decide)) br (zS (zZ 0) (zS (zZ 1) (zS (zZ 2) zQ))))) (zN (xY (RW.rt (rw_or (uB (qM (gO T.k_list T.g_isinstance T.g_list (by decide +kernel) (wV 4)))) (rw_or1 (yD (jY hu64) fT (wV 4) (zZ 3))))) (zL (yO wM)) yN) (zN (wN 5 nd (yY zQ)) (zN (yG3 4 (jW (vL (zC3 4)) (xB 6 nd) (zN (xY (RW.rt (rw_or (uB (qM (gO T.k_tuple T.g_isinstance T.g_tuple (by decide +kernel) (zZ 6)))) (rw_or (uB (qM (yU G_l_whole H_l_whole (hr.mono (by decide)) br (zS (yC yQ yB (zZ 6) zJ) zQ)))) (rw_or1 (uB (qM (gO T.k_tuple T.g_isinstance T.g_tuple (by decide +kernel) (yC yQ yB (zZ 6) zJ)))))))) (zL (yO wM)) yN) (zN (xY (uB (qM (zC (zZ4 rfl) yZ2 T.g_all (by rfl) (zM (qO (sc0:=zW vU) (N0:=["plan","openings","order","due","found","opened_ones","turn"]) (fs:=[]) (js:=[]) (by exact⟨rfl,by decide +kernel,by decide +kernel,by decide +kernel,by decide +kernel,rfl,by decide +kernel,by decide +kernel⟩) rfl rfl rfl (RI.c (vL (RE.rd (yC yQ yB (zZ 6) zJ)))) (fun _ _ _ _=>qP) (fun _ _ _ _=>(yU G_l_whole H_l_whole (hr.mono (by decide)) (zI1 fun _ _ h=>h) (zS (zZ 0) zQ)))) zQ)))) (zL (yO wM)) yN) (zL (zB6 5 (wT gS zO3 T.g_list (by rfl) (zM (yC yQ yB (zZ 6) zJ) zQ)))))) PassesOwn.leaving) (xS4 xQ9 (yO4 (zC2 yO9 yO8) (yO4 (zC2 yO9 yO8) xS5)))) (zN (qS 4 PySem.F.slot_list_append PySem.F.type_list_append yM vT (zS (gE (zS zJ (zS (gE zQ) zQ))) zQ)) (zL (yO (dA (jE (xC hu64) jO (zC gA zP3 T.g_sorted (by rfl) (zM (wV 5) zQ)) (qH T.g_list T.g_range (zM (zC zF xW T.g_len PySem.boot_len (zM (zZ 0) zQ)) zQ))) (cO (jE (xC hu64) jO (vQ G_turns H_turns (hr.mono (by decide)) br (zS (zZ 0) (zS (zZ 1) (zS (zZ 2) zQ)))) (zZ 3))))))))))))
theorem yY2:zI ["script","people","openings","plan","cell","order","other","bad"] ["script"] (zW kM):=⟨rfl,rfl,rfl,by decide +kernel,rfl,by decide +kernel,by decide +kernel⟩
theorem yB9 (T:Txt K mg){f:Addr}{fd:FuncData}(h:Has K mg "law" kM f fd ["script"]):FnOk P w K mg base (CXV P w) 12 f fd ["script"] (spX false zI3):=by
 obtain⟨f_l_ground,fd_l_ground,H_l_ground⟩:=T.d_l_ground
 have G_l_ground:FnOk P w K mg base (CXV P w) 3 f_l_ground fd_l_ground ["script"] (spX false wJ):=zR7 T H_l_ground
 obtain⟨f_l_plan,fd_l_plan,H_l_plan⟩:=T.d_l_plan
 have G_l_plan:FnOk P w K mg base (CXV P w) 11 f_l_plan fd_l_plan ["script","people","openings"] (spX false vD):=zC9 T H_l_plan
 obtain⟨f_l_order,fd_l_order,H_l_order⟩:=T.d_l_order
 have G_l_order:FnOk P w K mg base (CXV P w) 2 f_l_order fd_l_order ["pot","people"] spOrd:=zH8 T H_l_order
 obtain⟨f_l_right,fd_l_right,H_l_right⟩:=T.d_l_right
 have G_l_right:FnOk P w K mg base (CXV P w) 6 f_l_right fd_l_right ["plan","openings","order"] (spX false uK):=zJ6 T H_l_right
 obtain⟨f_l_bad_openings,fd_l_bad_openings,H_l_bad_openings⟩:=T.d_l_bad_openings
 have G_l_bad_openings:FnOk P w K mg base (CXV P w) 1 f_l_bad_openings fd_l_bad_openings ["openings","cell"] (spX false yI):=fH T H_l_bad_openings
 obtain⟨f_l_refused,fd_l_refused,H_l_refused⟩:=T.d_l_refused
 have G_l_refused:FnOk P w K mg base (CXV P w) 7 f_l_refused fd_l_refused ["way","plan","openings","order"] (spX false yR):=zX9 T H_l_refused
 refine xG [] h.F yY2 fun cdv A outer s H E hr => ?_
 have nd:=yY2.nd
 have hu64:=hr.units
 have br:=yG (P:=P) (w:=w) (K:=K) (mg:=mg) (base:=base) (N:=["script","people","openings","plan","cell","order","other","bad"]) (x:="law") (sc:=zW kM) (f:=f) (cdv:=cdv) (A:=A) (outer:=outer) (s:=s) (H:=H) (E:=E) (om:=[])
 exact (zN (yM4 (yU G_l_ground H_l_ground (hr.mono (by decide)) br (zS (zZ 0) zQ)) (zD8 rfl (kR (xB 1 nd) (kR (xB 2 nd) zO8)))) (zN (xZ 3 nd (yU G_l_plan H_l_plan (hr.mono (by decide)) br (zS (zZ 0) (zS (zZ 1) (zS (zZ 2) zQ))))) (zN (jW (vL (RE.rd (RE.cl (yX fI yY3 (yY (zS (zC zF xW T.g_len PySem.boot_len (zM (zZ 0) zQ)) zQ)) (wT gS zO3 T.g_list (by rfl) (zM (uC (zZ 0) (vV zJ) (vV zJ)) zQ)))))) (xB 4 nd) (zN (xZ 5 nd (zW1 G_l_order H_l_order (hr.mono (by decide)) br (zZ 4) (zZ 1))) (zN (xY (uB (qM (yU G_l_right H_l_right (hr.mono (by decide)) br (zS (zZ 3) (zS (zZ 2) (zS (zZ 5) zQ)))))) (zL (yO wM)) yN) (zN (xZ 6 nd (zW1 G_l_order H_l_order (hr.mono (by decide)) br (zZ 4) (yC yQ yB (yY (zS (yX vJ qC (yX vJ qC (zZ 1) zJ) (yX uJ qB (zZ 4) zJ)) (zS (zC (zA9 rfl) yG7 T.g_max PyProof.Rows.boot_max (zM zJ (zM (yX cD zU3 (zZ 1) zJ) zQ))) zQ))) (wT yY5 yK3 T.g_int (by rfl) (zM (dA (jE (xC hu64) jO (yX uJ qB (zZ 4) zJ) zJ) (cO (jE yN7 yN3 (zZ 1) zJ))) zQ))))) (zN (xZ 7 nd (yU G_l_bad_openings H_l_bad_openings (hr.mono (by decide)) br (zS (zZ 2) (zS (zZ 4) zQ)))) (zN (xY (yD (jY hu64) fT (qO (sc0:=zW kM) (N0:=["script","people","openings","plan","cell","order","other","bad"]) (fs:=["plan","openings","other"]) (js:=[3,2,6]) (by exact⟨rfl,by decide +kernel,by decide +kernel,by decide +kernel,by decide +kernel,rfl,by decide +kernel,by decide +kernel⟩) rfl rfl rfl (RI.c (uA T.g_range (zM zJ zQ))) (fun _ _ _ _=>qP) (fun _ _ _ _=>(yU G_l_refused H_l_refused (hr.mono (by decide)) (zI1 fun _ _ h=>h) (zS (zZ 0) (zS (zZ 1) (zS (zZ 2) (zS (zZ 3) zQ))))))) (yX aX zV7 (yY (zS (RE.cl (yY (zS wM (zS wM (zS wM zQ))))) zQ)) zJ)) (zL (yO wM)) yN) (zL (xY (yD (jY hu64) fT (qO (sc0:=zW kM) (N0:=["script","people","openings","plan","cell","order","other","bad"]) (fs:=["plan","bad","order","other","cell"]) (js:=[3,7,5,6,4]) (by exact⟨rfl,by decide +kernel,by decide +kernel,by decide +kernel,by decide +kernel,rfl,by decide +kernel,by decide +kernel⟩) rfl rfl rfl (RI.c (uA T.g_range (zM zJ zQ))) (fun _ _ _ _=>qP) (fun _ _ _ _=>(yU G_l_refused H_l_refused (hr.mono (by decide)) (zI1 fun _ _ h=>h) (zS (zZ 0) (zS (zZ 1) (zS (zZ 2) (zS (yC yQ yB (yY (zS (zZ 3) (zS (zZ 4) zQ))) (yX uJ qB (zZ 5) zJ)) zQ))))))) (yX aX zV7 (yY (zS (RE.cl (yY (zS wM (zS wM (zS wM zQ))))) zQ)) zJ)) (zL (yO wM)) yN))))))) PassesOwn.leaving) (zL (yO wM)))))
end
end K28
namespace K28
open PySem L2 L2.L3 MR
def evA:=(And.intro (And.intro (And.intro (And.intro (And.intro (And.intro @yC4 (And.intro @yS7 @yW7)) (And.intro @xQ7 (And.intro @bK @xX6))) (And.intro (And.intro @xW9 (And.intro @xT7 @xU1)) (And.intro @xP2 (And.intro @xZ4 @xZ5)))) (And.intro (And.intro (And.intro @xS9 (And.intro @xR8 @xX7)) (And.intro @xZ1 (And.intro @cF @xS3))) (And.intro (And.intro @wP (And.intro @qJ @xU8)) (And.intro (And.intro @xV8 @xT1) (And.intro @xT6 @xU6))))) (And.intro (And.intro (And.intro (And.intro @xP1 (And.intro @xS7 @xR2)) (And.intro @kF (And.intro @eV0 @eVs))) (And.intro (And.intro @xT2 (And.intro @xQ6 @kO)) (And.intro (And.intro @xU4 @yC3) (And.intro @bZ @kW)))) (And.intro (And.intro (And.intro @xT4 (And.intro @xQ4 @jX)) (And.intro @yC8 (And.intro @cS @yE9))) (And.intro (And.intro @xU7 (And.intro @yB4 @yD2)) (And.intro (And.intro @kQ @kP) (And.intro @xT9 @xS8)))))) (And.intro (And.intro (And.intro (And.intro (And.intro @xQ3 (And.intro @yF5 @xU3)) (And.intro @kJ (And.intro @yH5 @yY4))) (And.intro (And.intro @zC6 (And.intro @yA1 @bG)) (And.intro (And.intro @yP3 @yK7) (And.intro @xR4 @xP4)))) (And.intro (And.intro (And.intro @yI8 (And.intro @xU9 @xW2)) (And.intro @xV3 (And.intro @xZ6 @yD6))) (And.intro (And.intro @xZ7 (And.intro @yB1 @xW4)) (And.intro (And.intro @yE8 @xY8) (And.intro @yD9 @mkL0))))) (And.intro (And.intro (And.intro (And.intro @mkL1 (And.intro @mkL2 @mkL3)) (And.intro @mkL4 (And.intro @mkT0 @mkT1))) (And.intro (And.intro @mkT2 (And.intro @mkT3 @Res.bind_ok)) (And.intro (And.intro @Res.bind_no @Res.bind_ex) (And.intro @Res.lft_some @Res.lft_none)))) (And.intro (And.intro (And.intro @Option.map_some.{0,0} (And.intro @Option.bind_some.{0,0} @List.set_cons_zero.{0})) (And.intro @List.set_cons_succ.{0} (And.intro @List.length_cons.{0} @List.length_nil.{0}))) (And.intro (And.intro @if_true.{1} (And.intro @if_false.{1} @Bool.false_eq_true)) (And.intro (And.intro @ite_true.{1} @ite_false.{1}) (And.intro @Bool.not_true @Bool.not_false)))))))
structure Opn (n:Nat) (ops:List Int):Prop where
 len:ops.length=n
 bd:∀x∈ops,0<=x/\x<=n
theorem qG {n:Nat}{ops:List Int}(p:Opn n ops) (h1:1<=n) (h2:n<=60):xP [.int n,tI ops]=.ok (tI ops):=by
 show (xN [some (.int n),some (tI ops)]).bind (fin false)=_
 unfold xN
 have hne:ops ≠ []:=fun z=>by have:=p.len;rw[z] at this;simp at this;bv_omega
 have a1:=p.bd _ (zT7 hne)
 have a2:=p.bd _ (zV9 hne)
 simp -implicitDefEqProofs only[(evA),List.length_map,p.len,uQ,zP9 hne,zP7 hne,decide_eq_true (show (1:Int)<=(n:Int) by bv_omega),decide_eq_true (show (n:Int)<=60 by bv_omega),decide_true,decide_eq_false (show ¬minL ops<0 by bv_omega),decide_eq_false (show ¬(n:Int)<maxL ops by bv_omega)]
def BadO (p:Int) (ys:List Int):Prop:=¬(1<=p/\p<=60/\(ys.length:Int)=p/\∀y∈ys,0<=y/\y<=p)
theorem dM {d:D}{ys:List Int}(hd:d=lI ys\/d=tI ys){p:Int}(h:BadO p ys):xP [.int p,d]=.ex "BadOpenings":=by
 show (xN [some (.int p),some d]).bind (fin false)=_
 unfold xN
 have ln:lenD [d]=some (.int (ys.length:Int)):=by
  rcases hd with rfl | rfl
  ·rw[bG];simp only[yY4,Option.map_some,List.length_map]
  ·rw[bG];simp only[zC6,Option.map_some,List.length_map]
 have z1:(if ([PyData.str "openings are for 1 to 60 people"]:List D).length<=sizeLine then (Res.ex "BadOpenings":Res Out) else .no)=.ex "BadOpenings":=if_pos (by decide)
 have z2:(if ([PyData.str "each person has its openings"]:List D).length<=sizeLine then (Res.ex "BadOpenings":Res Out) else .no)=.ex "BadOpenings":=if_pos (by decide)
 have z3:(if ([PyData.str "openings are from 0 to as many as there are boxes"]:List D).length<=sizeLine then (Res.ex "BadOpenings":Res Out) else .no)=.ex "BadOpenings":=if_pos (by decide)
 by_cases p1:1<=p
 ·by_cases p2:p<=60
  ·by_cases p3:(ys.length:Int)=p
   ·have hne:ys ≠ []:=fun z=>by rw[z] at p3;simp at p3;bv_omega
    have mn:min1D [d]=some (.int (minL ys)):=by
     rcases hd with rfl | rfl
     ·exact yM5 hne
     ·exact zP9 hne
    have mx:max1D [d]=some (.int (maxL ys)):=by
     rcases hd with rfl | rfl
     ·exact yL5 hne
     ·exact zP7 hne
    have hex:minL ys<0\/p<maxL ys:=by
     by_cases c1:minL ys<0
     ·exact .inl c1
     ·by_cases c2:p<maxL ys
      ·exact .inr c2
      ·refine absurd ⟨p1,p2,p3,fun y hy => ?_⟩ h
       have:=zN3 hy
       have:=zM8 hy
       bv_omega
    rcases hex with c | c
    ·simp -implicitDefEqProofs only[wP,qJ,jX,cS,kW,bZ,kF,kO,kP,kQ,eV0,eVs,kJ,cF,jU,Res.bind_ok,Res.bind_ex,Res.lft_some,ln,mn,mx,uQ,decide_eq_true p1,decide_eq_true p2,decide_eq_true p3,decide_eq_true c,if_true,if_false,Bool.not_true,Bool.not_false,Bool.false_eq_true,z3]
    ·by_cases c1:minL ys<0
     ·simp -implicitDefEqProofs only[wP,qJ,jX,cS,kW,bZ,kF,kO,kP,kQ,eV0,eVs,kJ,cF,jU,Res.bind_ok,Res.bind_ex,Res.lft_some,ln,mn,mx,uQ,decide_eq_true p1,decide_eq_true p2,decide_eq_true p3,decide_eq_true c1,if_true,if_false,Bool.not_true,Bool.not_false,Bool.false_eq_true,z3]
     ·simp -implicitDefEqProofs only[wP,qJ,jX,cS,kW,bZ,kF,kO,kP,kQ,eV0,eVs,kJ,cF,jU,Res.bind_ok,Res.bind_ex,Res.lft_some,ln,mn,mx,uQ,decide_eq_true p1,decide_eq_true p2,decide_eq_true p3,decide_eq_false c1,decide_eq_true c,if_true,if_false,Bool.not_true,Bool.not_false,Bool.false_eq_true,z3]
   ·simp -implicitDefEqProofs only[wP,qJ,jX,cS,kW,bZ,kF,kO,kP,kQ,eV0,eVs,kJ,cF,jU,Res.bind_ok,Res.bind_ex,Res.lft_some,ln,uQ,decide_eq_true p1,decide_eq_true p2,decide_eq_false p3,if_true,if_false,Bool.not_true,Bool.not_false,Bool.false_eq_true,z2]
  ·simp -implicitDefEqProofs only[wP,qJ,jX,kW,kF,kO,kP,kQ,eV0,eVs,kJ,jU,Res.bind_ok,Res.bind_ex,Res.lft_some,decide_eq_true p1,decide_eq_false p2,if_true,if_false,Bool.not_true,Bool.not_false,Bool.false_eq_true,z1]
 ·simp -implicitDefEqProofs only[wP,qJ,jX,kW,kF,kO,kP,kQ,eV0,eVs,kJ,jU,Res.bind_ok,Res.bind_ex,Res.lft_some,decide_eq_false p1,if_true,if_false,Bool.not_true,Bool.not_false,Bool.false_eq_true,z1]
theorem Opn.at {n:Nat}{ops:List Int}(q:Opn n ops){p:Nat}(h:p<n):0<=ops.getD p 0/\ops.getD p 0<=n:=q.bd _ (MR.getD_mem (by rw[q.len];exact h))
theorem yM2 (xs:List Int) (i:Int) (h0:0<=i) (h1:i<xs.length):∃v,v∈xs/\atI (xs.map PyData.int) i=some (.int v):=by
 obtain⟨j,hj⟩:∃j:Nat,i=(j:Int):=⟨i.toNat,by bv_omega⟩
 have hl:j<xs.length:=by bv_omega
 refine⟨xs.getD j 0,?_,xV2 hj hl⟩
 rw[List.getD_eq_getElem?_getD,List.getElem?_eq_getElem hl]
 exact List.getElem_mem hl
def rI' (r:List Nat):List Int:=r.map fun (b:Nat)=>(b:Int)
def fd (n:Nat) (xs ops:List Int) (p:Nat):Bool:=decide (per n xs p<=(ops.getD p 0).toNat)
theorem bX (l:List Nat):(rI' l).length=l.length:=by unfold rI';simp
theorem zW2 {n i:Nat}(f:Nat->D) (h:i<n):atI ((List.range n).map f) (i:Int)=some (f i):=by
 unfold atI
 rw[List.length_map,List.length_range,yJ6 h,Option.bind_some,List.getElem?_map,List.getElem?_range h]
 rfl
inductive TreeOk (n:Nat):Nat->List Int->List Int->D->Prop
 | none {l:Nat}{bs ns:List Int}:TreeOk n l bs ns .none
 | node {l:Nat}{bs ns:List Int}(b:Nat) (f:Nat->D):b<n->bs.contains (b:Int)=false->(∀i,i<n->ns.contains (i:Int)=true->f i=.none)->(∀i,i<n->TreeOk n l (bs ++ [(b:Int)]) (ns ++ [(i:Int)]) (f i))->TreeOk n (l+1) bs ns (.tuple [.int (b:Int),.tuple ((List.range n).map f)])
theorem bI {α:Type}(f:α->D) (m:Nat):∀xs:List α,(∀x∈xs,(f x).canLay0=true/\(f x).depth<=m/\lf (f x)=true)->PyData.canLayAll0 (xs.map f)=true/\PyData.depthAll (xs.map f)<=m/\lfs (xs.map f)=true
 | [],_=>⟨rfl,Nat.zero_le _,rfl⟩
 | x::xs,h=>by
  obtain⟨h1,h2,h3⟩:=h x (List.mem_cons_self ..)
  obtain⟨g1,g2,g3⟩:=bI f m xs fun y hy=>h y (List.mem_cons_of_mem _ hy)
  rw[List.map_cons,PyData.canLayAll0,PyData.depthAll,lfs,h1,g1,h3,g3]
  exact⟨rfl,Nat.max_le.mpr ⟨h2,g2⟩,rfl⟩
structure PlanOk (n:Nat) (ops:List Int) (t:Nat->D):Prop where
 tree:∀p,p<n->TreeOk n (ops.getD p 0).toNat [] [(p:Int)] (t p)
theorem zS2 (g:Nat->Int->D×Int) (p:Int):∀k,(runG g k p).1=(List.range k).map fun i=>(g i (runG g i p).2).1
 | 0=>rfl
 | k+1=>by
  rw[runG,zS2 g p k,List.range_succ,List.map_append]
  rfl
theorem yL2 {n:Nat}{bs:List Int}{x:Int}(h:x∈clN n bs):∃b:Nat,b<n/\x=(b:Int)/\bs.contains (b:Int)=false:=by
 unfold clN at h
 obtain⟨b,hb,rfl⟩:=List.mem_map.mp h
 obtain⟨h1,h2⟩:=List.mem_filter.mp hb
 exact⟨b,List.mem_range.mp h1,rfl,by simpa using h2⟩
theorem yO1 {n:Nat}{thin:Bool}:∀(l:Nat) (bs ns:List Int) (p:Int),bs.length+l<=n->TreeOk n l bs ns (trG n thin l bs ns p).1
 | 0,bs,ns,p,_=>.none
 | l+1,bs,ns,p,h=>by
  by_cases q:thin=true/\p%4=3
  ·rw[zL4 q]
   exact .none
  ·rw[zV5 q rfl rfl,zS2]
   have cp:=zM1 n bs (by bv_omega)
   generalize (if thin=true then p / 4 else p)=p1
   have h0:=Int.emod_nonneg p1 (show ((clN n bs).length:Int)≠0 by bv_omega)
   have h1:=Int.emod_lt_of_pos p1 (show (0:Int)<((clN n bs).length:Int) by bv_omega)
   obtain⟨b,hb,eb,nb⟩:=yL2 (MR.getD_mem (xs:=clN n bs) (i:=(p1%((clN n bs).length:Int)).toNat) (by bv_omega))
   rw[eb]
   refine .node b _ hb nb (fun i hi c => ?_) fun i hi => ?_
   ·unfold nxG
    rw[if_pos c]
   ·by_cases c:ns.contains (i:Int)=true
    ·have e:∀z:Int,(nxG n thin l bs ns (b:Int) i z).1=.none:=fun z=>by unfold nxG;rw[if_pos c]
     rw[e]
     exact .none
    ·have e:∀z:Int,nxG n thin l bs ns (b:Int) i z=trG n thin l (bs ++ [(b:Int)]) (ns ++ [(i:Int)]) z:=fun z=>by unfold nxG;rw[if_neg c]
     rw[e]
     exact yO1 l _ _ _ (by rw[List.length_append];simp;bv_omega)
theorem xT3 {n:Nat}{ops ms:List Int}(q:Opn n ops):PlanOk n ops (tr1 n ops ms):=⟨fun p hp=>yO1 _ _ _ _ (by have:=q.at hp;show 0+_<=n;bv_omega)⟩
theorem fR {n i:Nat}(f:Nat->D) (h:i<n):((List.range n).map f).getD i .none=f i:=by
 rw[List.getD,List.getElem?_map,List.getElem?_range h]
 rfl
theorem zW9 (ns:List Int) (k:Nat):wZ [lI ns,.int k]=.ok (.int (ns.getD k 0)):=by
 show (jL [some (lI ns),some (.int k)]).bind (fin false)=_
 unfold jL
 simp -implicitDefEqProofs only[(evA),List.length_map,uS]
 by_cases h:k<ns.length
 ·rw[decide_eq_true (by bv_omega)]
  simp -implicitDefEqProofs only[(evA),vY h]
 ·rw[decide_eq_false (by bv_omega)]
  simp -implicitDefEqProofs only[(evA),List.getD_eq_getElem?_getD,List.getElem?_eq_none (Nat.le_of_not_lt h),Option.getD_none]
theorem dB (i:Int):xQ [.int i]=.ok (.bool true):=by
 show (gK [some (.int i)]).bind (fin false)=_
 unfold gK
 simp -implicitDefEqProofs only[(evA)]
theorem zL1 {m:Int}{n:Nat}(p:Int) (hm:0<m) (h:m<=(n:Int)+1):Opn n (digD m p n):=by
 unfold digD
 refine⟨by rw[List.length_map,List.length_range],fun z hz => ?_⟩
 obtain⟨i,_,rfl⟩:=List.mem_map.mp hz
 have h0:=Int.emod_nonneg (pwD m p i) (Int.ne_of_gt hm)
 have h1:=Int.emod_lt_of_pos (pwD m p i) hm
 exact⟨h0,by bv_omega⟩
theorem xY2 (p:Int):∃(n:Nat) (ops:List Int),1<=n/\n<=5/\Opn n ops/\grD 4 5 4 p=.tuple [.int (n:Int),tI ops]:=by
 have h0:=Int.emod_nonneg p (show (4:Int)≠0 by decide)
 have h1:=Int.emod_lt_of_pos p (show (0:Int)<4 by decide)
 obtain⟨n,hn⟩:∃n:Nat,1+p%4=(n:Int):=⟨(1+p%4).toNat,by bv_omega⟩
 unfold grD
 rw[hn,Int.toNat_natCast]
 split
 ·exact⟨5,_,by decide,by decide,zL1 (m:=4) (n:=5) _ (by decide) (by decide),rfl⟩
 ·exact⟨n,_,by bv_omega,by bv_omega,zL1 _ (by bv_omega) (by bv_omega),rfl⟩
theorem zR9 (ns:List Int):∃(n:Nat) (ops:List Int),1<=n/\n<=5/\Opn n ops/\wJ [lI ns]=.ok (.tuple [.int (n:Int),tI ops]):=by
 obtain⟨n,ops,h1,h2,q,eg⟩:=xY2 (ns.getD 0 0)
 refine⟨n,ops,h1,h2,q,?_⟩
 have e':wZ [lI ns,.int 0]=.ok (.int (ns.getD 0 0)):=zW9 ns 0
 rw[<-eg]
 exact xY1 e'
theorem zK4 (ns:List Int){n:Nat}(h1:1<=n) (h2:n<=7):∃ms:List Int,ms.length=n/\qA [lI ns,.int 3,.int (n:Int)]=.ok (lI ms):=by
 refine⟨(List.range n).map fun (k:Nat)=>(pick3 ns (some (3+(k:Int))) none (some (n:Int))).sum,by simp,?_⟩
 show (dI [some (lI ns),some (.int 3),some (.int (n:Int))]).bind (fin true)=_
 unfold dI
 have c1:eComp (iR rng1 (aC (eV 2) aN)) tYes (eB sumD (aC (eS3 (eV 1) (oS (e2 addI (eV 2) (eV 0))) oN (oS (eV 3))) aN)) [0,1,2] [some (lI ns),some (.int 3),some (.int (n:Int))]=.ok (lI ((List.range n).map fun (k:Nat)=>(pick3 ns (some (3+(k:Int))) none (some (n:Int))).sum)):=by
  have:=jT (mi:=iR rng1 (aC (eV 2) aN)) (me:=eB sumD (aC (eS3 (eV 1) (oS (e2 addI (eV 2) (eV 0))) oN (oS (eV 3))) aN)) (js:=[0,1,2]) (ρ:=[some (lI ns),some (.int 3),some (.int (n:Int))]) (fun k:Nat=>PyData.int (k:Int)) (fun k=>.int (pick3 ns (some (3+(k:Int))) none (some (n:Int))).sum) (List.range n) (by simp -implicitDefEqProofs only[(evA),fM (show n<=1000 by bv_omega)]) (by rw[List.length_range];bv_omega) fun k hk=>by
   show eB sumD _ [some (.int (k:Int)),some (lI ns),some (.int 3),some (.int (n:Int))]=_
   simp -implicitDefEqProofs only[(evA),if_pos (show (some (n:Int))≠some 0 from fun z=>by have:=Option.some.inj z;bv_omega),yZ8,yE2]
  rw[this]
  simp only[lI,List.map_map,Function.comp_def]
 simp -implicitDefEqProofs only[(evA),c1]
theorem zB1 (ns:List Int){n:Nat}{ops:List Int}(q:Opn n ops) (h1:1<=n) (h2:n<=6):∃t:Nat->D,PlanOk n ops t/\vD [lI ns,.int (n:Int),tI ops]=.ok (.tuple ((List.range n).map t)):=by
 obtain⟨ms,hm,e⟩:=zK4 ns h1 (show n<=7 by bv_omega)
 exact⟨tr1 n ops ms,xT3 q,xX4 e (by bv_omega) q.len hm q.bd⟩
theorem yJ1 {ys:List Int}:sortI ys=rg ys.length↔ys.Perm (rg ys.length):=by
 constructor
 ·intro h
  rw[<-h]
  exact (kE ys).symm
 ·intro h
  exact zR2 ((kE ys).trans h) (hG ys) (xQ5 _)
theorem zE1 {n l:Nat}{bs ns:List Int}{d:D}(T:TreeOk n l bs ns d):TrS n d:=by
 induction T with
 | none=>exact .none
 | @node l bs ns b f hb _ _ _ ih =>
  refine .node hb (by rw[List.length_map,List.length_range]) fun d hd => ?_
  obtain⟨i,hi,rfl⟩:=List.mem_map.mp hd
  exact ih i (List.mem_range.mp hi)
theorem xR1 {n l:Nat}{bs ns:List Int}{d:D}(T:TreeOk n l bs ns d):Tk bxD nxD n l d:=by
 induction T with
 | none=>exact .leaf rfl
 | @node l bs ns b f hb _ _ _ ih =>
  refine .node (b:=b) rfl hb fun x hx => ?_
  show Tk bxD nxD n l (((List.range n).map f).getD x .none)
  rw[fR f hx]
  exact ih x hx
def tOf (n:Nat) (t:Nat->D) (p:Nat):D:=((List.range n).map t).getD p .none
theorem zD9 {n p:Nat}(t:Nat->D) (h:p<n):tOf n t p=t p:=fR t h
def oR (ops:List Int) (p q:Nat):Prop:=ops.getD p 0<=ops.getD q 0
abbrev WrP (n:Nat) (ops:List Int) (t:Nat->D) (xs ys:List Int) (out:List (Nat×List Rv)):Prop:=Wr bxD nxD n (tOf n t) (oR ops) (poK n (opF ops)) xs ys out
theorem yG5 {n:Nat}{ops:List Int}{t:Nat->D}(P:PlanOk n ops t) (q:Opn n ops):∀p,p<n->∃d,d<=n/\Tk bxD nxD n d (tOf n t p):=fun p hp=>by
 have b:=q.at hp
 rw[zD9 t hp]
 exact⟨_,by bv_omega,xR1 (P.tree p hp)⟩
theorem xS1 {n:Nat}{ops:List Int}(h2:n<=6):(poK n (opF ops)).Pairwise (oR ops):=by
 obtain⟨p,w⟩:=jF (n:=n) (op:=opF ops) h2
 refine w.imp_of_mem fun {a b} ha hb h => ?_
 have a1:=List.mem_range.mp (p.mem_iff.mp ha)
 have b1:=List.mem_range.mp (p.mem_iff.mp hb)
 unfold oR
 unfold opF at h
 bv_omega
theorem yM6 {n:Nat}{ops xs:List Int}{t:Nat->D}(P:PlanOk n ops t) (q:Opn n ops) (h2:n<=6) (o:Ord n xs):∃ys out,WrP n ops t xs ys out:=by
 have pm:=(jF (n:=n) (op:=opF ops) h2).1
 exact zG5 o (yG5 P q) (fun p=>Int.le_refl _) (fun p hp=>List.mem_range.mp (pm.mem_iff.mp hp)) (xS1 h2) fun y hy=>pm.mem_iff.mpr (List.mem_range.mpr hy)
theorem lam0 (xs:List Int):lamG 0 xs=fun b _=>nxt xs b:=by
 funext b l
 exact if_pos rfl
theorem xZ9 {n:Nat}{ops xs ys:List Int}{t:Nat->D}{out:List (Nat×List Rv)}(w:WrP n ops t xs ys out) (h2:n<=6):∀z∈out,z.2.length<=900:=fun z hz=>by
 have e:=w.pers.1 z hz
 have l:=(w.wrt.wB (w.chn z hz).2.1).2.1
 bv_omega
theorem xW3 {n:Nat}{ops xs ys:List Int}{t:Nat->D}{out:List (Nat×List Rv)}(w:WrP n ops t xs ys out) (P:PlanOk n ops t) (q:Opn n ops) (h1:1<=n) (h2:n<=6):PlyIn 0 (.tuple ((List.range n).map t)) (tI ops) (tI xs) out (full xs n) :=
 ⟨n,_,ops,xs,rfl,rfl,rfl,by rw[List.length_map,List.length_range],fun d hd=>by
  obtain⟨p,hp,rfl⟩:=List.mem_map.mp hd
  exact zE1 (P.tree p (List.mem_range.mp hp)),q.len,h1,h2,w.ord,xZ9 w h2,by rw[lam0];exact w.gm⟩
theorem zY9 {n:Nat}{ops xs:List Int}{t:Nat->D}(q:Opn n ops) (o:Ord n xs) (h1:1<=n) (h2:n<=6):zB [.tuple ((List.range n).map t),tI ops,tI xs]=.ok .none:=by
 have hl:((List.range n).map t).length=n:=by rw[List.length_map,List.length_range]
 have lx:(xs.map PyData.int).length=n:=by rw[List.length_map,o.len]
 have e1:xE [.tuple ((List.range n).map t),tI xs]=.ok .none:=by
  show (xD [some (.tuple ((List.range n).map t)),some (tI xs)]).bind (fin false)=_
  unfold xD
  simp -implicitDefEqProofs only[(evA),hl,lx,uQ,decide_true]
 show (xU [some (.tuple ((List.range n).map t)),some (tI ops),some (tI xs)]).bind (fin false)=_
 unfold xU
 simp -implicitDefEqProofs only[(evA),hl,qG q h1 (show n<=60 by bv_omega),e1]
theorem yS8 {n:Nat}{ops xs ys:List Int}{t:Nat->D}{out:List (Nat×List Rv)}(w:WrP n ops t xs ys out) (P:PlanOk n ops t) (q:Opn n ops) (h1:1<=n) (h2:n<=6):yH [.tuple ((List.range n).map t),tI ops,tI xs]=.ok (.list (out.map turnD)):=by
 have e1:eP 0 0 [some (.tuple ((List.range n).map t)),some (tI ops),some (tI xs)]=.ok (.list (out.map turnD)):=(yB2 (j:=0) (xW3 w P q h1 h2)).trans rfl
 show (uR [some (.tuple ((List.range n).map t)),some (tI ops),some (tI xs)]).bind (fin true)=_
 unfold uR
 simp -implicitDefEqProofs only[(evA),zY9 q w.ord h1 h2,e1]
theorem yA9 {g:Nat->Nat->Nat}{T:Nat->D}{ps:List Nat}{seen fin:List (Option Nat)}{out:List (Nat×List Rv)}(h:Gm bxD nxD g T ps seen out fin):out.length<=ps.length:=by
 induction h with
 | nil=>exact Nat.le_refl _
 | skip _ _ ih=>exact Nat.le_succ_of_le ih
 | play _ _ _ ih=>exact Nat.succ_le_succ ih
theorem yL6 {n:Nat}{ops xs ys:List Int}{t:Nat->D}{out:List (Nat×List Rv)}(w:WrP n ops t xs ys out) (h2:n<=6):out.length<=6:=by
 have h:=yA9 w.gm
 rw[(jF (n:=n) (op:=opF ops) h2).1.length_eq,List.length_range] at h
 bv_omega
def tB1:Ev->Res Out:=(sS 10 (e2 ixD (eComp (iR rng1 (aC (eV 3) aN)) (b2 (inD true) (eV 0) (eV 1)) (eV 0) [5]) (eC (.int 0))))
def tB2:Ev->Res Out:=(sIf (b2 (isND true) (eV 9) (eC .none)) (sQ (sS 10 (e2 ixD (eV 9) (eC (.int 0)))) (sS 9 (e2 ixD (e2 ixD (eV 9) (eC (.int 1))) (e2 ixD (eV 2) (eV 10))))) sN)
def tB3:Ev->Res Out:=(sIf (b2 (inD true) (eV 10) (eV 5)) (sQ (sM 5 appD (aC (eV 10) aN)) (sQ (sM 8 appD (aC (eV 10) aN)) (sM 4 appD (aC (e2 ixD (eV 2) (eV 10)) aN)))) sN)
def tBd:Ev->Res Out:=sQ tB1 (sQ tB2 tB3)
def tTst:Ev->Res Bool:=(b2 (inD true) (eV 7) (eV 4))
def tFin:Ev->Res Out:=(sIf (b2 neD (eV 8) (eB mkL aN)) (sM 6 appD (aC (eB mkT (aC (eV 7) (aC (eB tupD (aC (eV 8) aN)) aN))) aN)) sN)
def tTrn:Ev->Res Out:=(sQ (sS 8 (eB mkL aN)) (sQ (sS 9 (e2 ixD (eV 0) (eV 7))) (sQ (sW 1000000 tTst tBd) tFin)))
theorem zD1:uH=(sQ (sS 3 (eB lenD (aC (eV 0) aN))) (sQ (sS 4 (eB mkL aN)) (sQ (sS 5 (eB mkL aN)) (sQ (sS 6 (eB mkL aN)) (sQ (sF (iS (eSK 1 (aC (eB rangeL (aC (eV 3) aN)) aN))) (gN 7) tTrn) (sR (eV 6))))))):=rfl
def nmX (xs:List Int) (os:List Nat):List Int:=os.map fun b=>((nxt xs b:Nat):Int)
structure Sn (n:Nat) (xs:List Int) (seen:List (Option Nat)) (os:List Nat):Prop where
 len:seen.length=n
 nd:os.Nodup
 lt:∀b∈os,b<n
 at':∀b,b<n->seen[b]?=some (if os.contains b then some (nxt xs b) else none)
theorem Sn.has {n p:Nat}{xs:List Int}{seen:List (Option Nat)}{os:List Nat}(S:Sn n xs seen os):(nmX xs os).contains (p:Int)=seen.contains (some p):=by
 rw[Bool.eq_iff_iff,List.contains_iff_mem,List.contains_iff_mem]
 unfold nmX
 constructor
 ·intro h
  obtain⟨b,hb,e⟩:=List.mem_map.mp h
  have:=S.at' b (S.lt b hb)
  rw[List.contains_iff_mem.mpr hb,if_pos rfl] at this
  have e:nxt xs b=p:=Int.ofNat_inj.mp e
  rw[<-e]
  exact List.mem_of_getElem? this
 ·intro h
  obtain⟨b,hb,e⟩:=List.getElem_of_mem h
  have bn:b<n:=by rw[<-S.len];exact hb
  have:=S.at' b bn
  rw[List.getElem?_eq_getElem hb,e] at this
  by_cases c:os.contains b=true
  ·rw[if_pos c] at this
   have this:p=nxt xs b:=by simpa using this
   exact List.mem_map.mpr ⟨b,List.contains_iff_mem.mp c,by rw[this]⟩
  ·rw[if_neg c] at this
   cases this
theorem Sn.shut {n b:Nat}{xs:List Int}{seen:List (Option Nat)}{os:List Nat}(S:Sn n xs seen os) (h:seen[b]?=some none):b<n/\os.contains b=false:=by
 have bn:b<n:=by rw[<-S.len];exact (List.getElem?_eq_some_iff.mp h).1
 have:=S.at' b bn
 rw[h] at this
 refine⟨bn,?_⟩
 cases c:os.contains b with
 | false=>rfl
 | true=>rw[c,if_pos rfl] at this;cases this
theorem Sn.put {n b:Nat}{xs:List Int}{seen:List (Option Nat)}{os:List Nat}(S:Sn n xs seen os) (h:seen[b]?=some none):Sn n xs (seen.set b (some (nxt xs b))) (os ++ [b]):=by
 obtain⟨bn,c⟩:=S.shut h
 have nb:b∉os:=fun z=>by rw[List.contains_iff_mem.mpr z] at c;cases c
 refine⟨by rw[List.length_set];exact S.len,?_,fun x hx => ?_,fun x hx => ?_⟩
 ·rw[List.nodup_append]
  exact⟨S.nd,by simp,fun a ha y hy e=>by
   have:y=b:=by simpa using hy
   exact nb (by rw[<-this,<-e];exact ha)⟩
 ·rcases List.mem_append.mp hx with z | z
  ·exact S.lt x z
  ·have:x=b:=by simpa using z
   rw[this];exact bn
 ·rw[MR.zD (by rw[S.len];exact bn)]
  by_cases e:x=b
  ·rw[if_pos e,if_pos (List.contains_iff_mem.mpr (by rw[e];simp)),e]
  ·rw[if_neg e,S.at' x hx]
   have:(os ++ [b]).contains x=os.contains x:=by
    rw[Bool.eq_iff_iff,List.contains_iff_mem,List.contains_iff_mem,List.mem_append]
    exact⟨fun z=>z.elim id fun z=>absurd (by simpa using z) e,.inl⟩
   rw[this]
theorem Sn.room {n b:Nat}{xs:List Int}{seen:List (Option Nat)}{os:List Nat}(S:Sn n xs seen os) (h:seen[b]?=some none):os.length<n:=by
 have S2:=S.put h
 have:=aQ (A:=os ++ [b]) (B:=List.range n) S2.nd fun x hx=>List.mem_range.mpr (S2.lt x hx)
 rw[List.length_append,List.length_range] at this
 simp at this
 bv_omega
def clX (n:Nat) (os:List Nat):List Nat:=(List.range n).filter fun b=>!(rI' os).contains (b:Int)
theorem fY (os:List Nat) (b:Nat):(rI' os).contains (b:Int)=os.contains b:=by
 unfold rI'
 rw[Bool.eq_iff_iff,List.contains_iff_mem,List.contains_iff_mem]
 constructor
 ·intro h
  obtain⟨x,hx,e⟩:=List.mem_map.mp h
  have:x=b:=Int.ofNat_inj.mp e
  rw[<-this];exact hx
 ·exact fun h=>List.mem_map.mpr ⟨b,h,rfl⟩
abbrev rhoT (pl:D) (ops xs:List Int) (n:Nat) (os:List Nat) (sh:D) (p:Nat) (bs:List Nat) (tr:D) (x10:Option D):Ev:=[some pl,some (tI ops),some (tI xs),some (.int (n:Int)),some (lI (nmX xs os)),some (lI (rI' os)),some sh,some (.int (p:Int)),some (lI (rI' bs)),some tr,x10]
section
variable {pl sh tr:D}{ops xs:List Int}{n p:Nat}{os bs:List Nat}{x10:Option D}
theorem zU2 {c:Nat}(hn:n<=60) (hc:c<n) (nc:os.contains c=false):∃b:Nat,(clX n os)[(0:Nat)]?=some b/\tB1 (rhoT pl ops xs n os sh p bs tr x10)=.ok (.nx (rhoT pl ops xs n os sh p bs tr (some (.int (b:Int))))):=by
 have cm:c∈clX n os:=List.mem_filter.mpr ⟨List.mem_range.mpr hc,by rw[fY,nc];rfl⟩
 obtain⟨b,hb⟩:∃b:Nat,(clX n os)[(0:Nat)]?=some b:=by
  cases e:clX n os with
  | nil=>rw[e] at cm;cases cm
  | cons b l=>exact⟨b,rfl⟩
 refine⟨b,hb,?_⟩
 have cc:eComp (iR rng1 (aC (eV 3) aN)) (b2 (inD true) (eV 0) (eV 1)) (eV 0) [5] (rhoT pl ops xs n os sh p bs tr x10)=.ok (.list ((clX n os).map fun (b:Nat)=>PyData.int (b:Int))):=by
  refine zS8 (fun b:Nat=>PyData.int (b:Int)) (fun b=>!(rI' os).contains (b:Int)) (fun b:Nat=>PyData.int (b:Int)) (List.range n) (by simp -implicitDefEqProofs only[(evA),fM (show n<=1000 by bv_omega)]) (by rw[List.length_range];bv_omega) (fun b _ => ?_) fun b _ _=>rfl
  show b2 (inD true) (eV 0) (eV 1) [some (.int (b:Int)),some (lI (rI' os))]=_
  simp -implicitDefEqProofs only[(evA),zX4]
 have a0:atI ((clX n os).map fun (b:Nat)=>PyData.int (b:Int)) 0=some (.int (b:Int)):=zM3 (j:=0) (by rw[List.getElem?_map,hb];rfl)
 unfold tB1
 simp -implicitDefEqProofs only[(evA),cc,a0]
theorem yU8:tB2 (rhoT pl ops xs n os sh p bs .none x10)=.ok (.nx (rhoT pl ops xs n os sh p bs .none x10)):=by
 have i0:isND true .none .none=some false:=rfl
 unfold tB2
 simp -implicitDefEqProofs only[(evA),i0]
theorem yN4 {b:Nat}(o:Ord n xs) (hb:b<n):atI (xs.map PyData.int) (b:Int)=some (.int ((nxt xs b:Nat):Int)):=by
 rw[uS,vY (by rw[o.len];exact hb),o.vM hb]
 rfl
theorem zU6 {b:Nat}{f:Nat->D}(o:Ord n xs) (hb:b<n):tB2 (rhoT pl ops xs n os sh p bs (.tuple [.int (b:Int),.tuple ((List.range n).map f)]) x10)=.ok (.nx (rhoT pl ops xs n os sh p bs (f (nxt xs b)) (some (.int (b:Int))))):=by
 have i0:isND true (.tuple [.int (b:Int),.tuple ((List.range n).map f)]) .none=some true:=rfl
 have b0:atI [PyData.int (b:Int),.tuple ((List.range n).map f)] 0=some (.int (b:Int)):=rfl
 have b1:atI [PyData.int (b:Int),.tuple ((List.range n).map f)] 1=some (.tuple ((List.range n).map f)):=rfl
 unfold tB2
 simp -implicitDefEqProofs only[(evA),i0,b0,b1,yN4 o hb,zW2 f (o.yJ hb)]
theorem zN7 {b:Nat}(o:Ord n xs) (hb:b<n) (lo:os.length<=100) (lb:bs.length<=100) (nb:os.contains b=false):tB3 (rhoT pl ops xs n os sh p bs tr (some (.int (b:Int))))=.ok (.nx (rhoT pl ops xs n (os ++ [b]) sh p (bs ++ [b]) tr (some (.int (b:Int))))):=by
 have c:(rI' os).contains (b:Int)=false:=by rw[fY];exact nb
 have l1:((rI' os).map PyData.int).length<=1000:=by rw[List.length_map,bX];bv_omega
 have l2:((rI' bs).map PyData.int).length<=1000:=by rw[List.length_map,bX];bv_omega
 have l3:((nmX xs os).map PyData.int).length<=1000:=by unfold nmX;rw[List.length_map,List.length_map];bv_omega
 have a1:=gL (d:=.int (b:Int)) l1
 have a2:=gL (d:=.int (b:Int)) l2
 have a3:=gL (d:=.int ((nxt xs b:Nat):Int)) l3
 have e1:lI (rI' (os ++ [b]))=.list ((rI' os).map PyData.int ++ [.int (b:Int)]):=by unfold lI rI';simp
 have e2:lI (rI' (bs ++ [b]))=.list ((rI' bs).map PyData.int ++ [.int (b:Int)]):=by unfold lI rI';simp
 have e3:lI (nmX xs (os ++ [b]))=.list ((nmX xs os).map PyData.int ++ [.int ((nxt xs b:Nat):Int)]):=by unfold lI nmX;simp
 unfold rhoT
 rw[e1,e2,e3]
 unfold tB3
 simp -implicitDefEqProofs only[(evA),zX4,c,a1,a2,yN4 o hb,a3]
theorem yF2 {b:Nat}(nb:os.contains b=true):tB3 (rhoT pl ops xs n os sh p bs tr (some (.int (b:Int))))=.ok (.nx (rhoT pl ops xs n os sh p bs tr (some (.int (b:Int))))):=by
 have c:(rI' os).contains (b:Int)=true:=by rw[fY];exact nb
 unfold tB3
 simp -implicitDefEqProofs only[(evA),zX4,c]
end
theorem yU6 {n b b':Nat}{xs:List Int}{seen:List (Option Nat)}{os:List Nat}(S:Sn n xs seen os) (hb:seen[b]?=some none) (first:∀i,i<b->seen[i]?≠some none) (h:(clX n os)[(0:Nat)]?=some b'):b'=b:=by
 obtain⟨bn,c⟩:=S.shut hb
 have bm:b∈clX n os:=List.mem_filter.mpr ⟨List.mem_range.mpr bn,by rw[fY,c];rfl⟩
 have pw:(clX n os).Pairwise (· < ·):=List.pairwise_lt_range.filter _
 cases e:clX n os with
 | nil=>rw[e] at bm;cases bm
 | cons a l =>
  rw[e] at h bm pw
  obtain rfl:a=b':=by simpa using h
  have am:a∈clX n os:=by rw[e];exact List.mem_cons_self
  obtain⟨a1,a2⟩:=List.mem_filter.mp am
  have an:=List.mem_range.mp a1
  rw[fY] at a2
  have ac:os.contains a=false:=by simpa using a2
  have sa:=S.at' a an
  rw[ac,if_neg Bool.false_ne_true] at sa
  rcases List.mem_cons.mp bm with z | z
  ·exact z.symm
  ·have lt:=(List.pairwise_cons.mp pw).1 b z
   exact absurd sa (first a lt)
theorem yJ9 {n p:Nat}{xs:List Int}{seen:List (Option Nat)}{os:List Nat}(o:Ord n xs) (hp:p<n) (S:Sn n xs seen os) (h:some p∉seen):∃c,c<n/\os.contains c=false:=by
 obtain⟨c,hc,e⟩:=o.onto hp
 refine⟨c,hc,?_⟩
 cases z:os.contains c with
 | false=>rfl
 | true =>
  have:=S.at' c hc
  rw[z,if_pos rfl,e] at this
  exact absurd (List.mem_of_getElem? this) h
theorem jB {pl sh tr:D}{ops xs:List Int}{n p:Nat}{seen:List (Option Nat)}{os bs:List Nat}{x10:Option D}(S:Sn n xs seen os):tTst (rhoT pl ops xs n os sh p bs tr x10)=.ok (!seen.contains (some p)):=by
 unfold tTst
 simp -implicitDefEqProofs only[(evA),zX4,S.has]
theorem yG6 {n l:Nat}{bs ns:List Int}{d:D}(T:TreeOk n l bs ns d) (h:bxD d=none):d=.none:=(zE1 T).leaf h
theorem zO2 {n l b:Nat}{bs ns:List Int}{d:D}(T:TreeOk n l bs ns d) (h:bxD d=some b):∃f l',d=.tuple [.int (b:Int),.tuple ((List.range n).map f)]/\b<n/\l=l'+1/\∀i,i<n->∃bs' ns',TreeOk n l' bs' ns' (f i):=by
 cases T with
 | none=>cases h
 | @node l' _ _ b' f hb _ _ hf =>
  have h:some ((b':Int).toNat)=some b:=h
  rw[Int.toNat_natCast] at h
  cases h
  exact⟨f,l',rfl,hb,rfl,fun i hi=>⟨_,_,hf i hi⟩⟩
theorem yX6 {pl sh:D}{ops xs:List Int}{n:Nat}(o:Ord n xs) (hn:n<=6){p k l:Nat}{t:D}{seen mid:List (Option Nat)}{rs:List Rv}(hp:p<n) (h:Tn bxD nxD (fun b _=>nxt xs b) p k t l seen rs mid):∀(os bs:List Nat) (d:Nat) (bT nT:List Int) (fuel:Nat) (x10:Option D),TreeOk n d bT nT t->Sn n xs seen os->bs.length<=os.length->d+(n-os.length)<fuel ->
  ∃tr y,whM tTst tBd fuel (rhoT pl ops xs n os sh p bs t x10)=.ok (.nx (rhoT pl ops xs n (os++rs.map (·.1)) sh p (bs++rs.map (·.1)) tr y))/\Sn n xs mid (os++rs.map (·.1)):=by
 have no:∀{seen:List (Option Nat)},some p∉seen->(!seen.contains (some p))=true:=fun {seen} h=>by
  rw[Bool.not_eq_true',<-Bool.not_eq_true,List.contains_iff_mem]
  exact h
 induction h with
 | @done t l seen h =>
  intro os bs d bT nT fuel x10 _ S _ hf
  obtain⟨k,rfl⟩:∃k,fuel=k+1:=⟨fuel-1,by bv_omega⟩
  have c:(!seen.contains (some p))=false:=by rw[List.contains_iff_mem.mpr h];rfl
  refine⟨t,x10,?_,by simpa using S⟩
  rw[whM,jB S,c,List.map_nil,List.append_nil,List.append_nil]
  rfl
 | @leafN k t l b seen out rs h1 h2 h3 h4 _ ih =>
  intro os bs d bT nT fuel x10 T S hb hf
  have rm:=S.room h3
  obtain⟨j,rfl⟩:∃j,fuel=j+1:=⟨fuel-1,by bv_omega⟩
  obtain⟨bn,nb⟩:=S.shut h3
  obtain rfl:=yG6 T h2
  obtain⟨b',e0,e1⟩:=zU2 (pl:=pl) (ops:=ops) (xs:=xs) (sh:=sh) (p:=p) (bs:=bs) (tr:=.none) (x10:=x10) (show n<=60 by bv_omega) bn nb
  have eb:=yU6 S h3 h4 e0
  rw[eb] at e1
  clear e0 eb
  have body:tBd (rhoT pl ops xs n os sh p bs .none x10)=.ok (.nx (rhoT pl ops xs n (os ++ [b]) sh p (bs ++ [b]) .none (some (.int (b:Int))))):=by
   unfold tBd
   rw[wP,e1,Res.bind_ok]
   show sQ tB2 tB3 _=_
   rw[wP,yU8,Res.bind_ok]
   exact zN7 o bn (by bv_omega) (by bv_omega) nb
  obtain⟨tr,y,e,S'⟩:=ih (os ++ [b]) (bs ++ [b]) d bT nT j (some (.int (b:Int))) T (S.put h3) (by rw[List.length_append,List.length_append];simp;bv_omega) (by rw[List.length_append];simp;bv_omega)
  refine⟨tr,y,?_,by rw[List.map_cons];rw[List.append_assoc] at S';exact S'⟩
  rw[whM,jB S,no h1,Res.bind_ok,if_pos rfl,body,Res.bind_ok,List.map_cons]
  rw[List.append_assoc,List.append_assoc] at e
  exact e
 | @nodeN k t l b seen out rs h1 h2 h3 _ ih =>
  intro os bs d bT nT fuel x10 T S hb hf
  have rm:=S.room h3
  obtain⟨j,rfl⟩:∃j,fuel=j+1:=⟨fuel-1,by bv_omega⟩
  obtain⟨bn,nb⟩:=S.shut h3
  obtain⟨f,d',rfl,_,rfl,T'⟩:=zO2 T h2
  obtain⟨bT',nT',T'⟩:=T' (nxt xs b) (o.yJ bn)
  obtain⟨b',e0,e1⟩:=zU2 (pl:=pl) (ops:=ops) (xs:=xs) (sh:=sh) (p:=p) (bs:=bs) (tr:=.tuple [.int (b:Int),.tuple ((List.range n).map f)]) (x10:=x10) (show n<=60 by bv_omega) bn nb
  have body:tBd (rhoT pl ops xs n os sh p bs (.tuple [.int (b:Int),.tuple ((List.range n).map f)]) x10)=.ok (.nx (rhoT pl ops xs n (os ++ [b]) sh p (bs ++ [b]) (f (nxt xs b)) (some (.int (b:Int))))):=by
   unfold tBd
   rw[wP,e1,Res.bind_ok]
   show sQ tB2 tB3 _=_
   rw[wP,zU6 o bn,Res.bind_ok]
   exact zN7 o bn (by bv_omega) (by bv_omega) nb
  have ef:nxD (.tuple [.int (b:Int),.tuple ((List.range n).map f)]) (nxt xs b)=f (nxt xs b):=fR f (o.yJ bn)
  obtain⟨tr,y,e,S'⟩:=ih (os ++ [b]) (bs ++ [b]) d' bT' nT' j (some (.int (b:Int))) (by rw[ef];exact T') (S.put h3) (by rw[List.length_append,List.length_append];simp;bv_omega) (by rw[List.length_append];simp;bv_omega)
  refine⟨tr,y,?_,by rw[List.map_cons];rw[List.append_assoc] at S';exact S'⟩
  rw[whM,jB S,no h1,Res.bind_ok,if_pos rfl,body,Res.bind_ok,List.map_cons]
  rw[List.append_assoc,List.append_assoc,ef] at e
  exact e
 | @nodeO k t l b x seen out rs h1 h2 h3 _ ih =>
  intro os bs d bT nT fuel x10 T S hb hf
  obtain⟨j,rfl⟩:∃j,fuel=j+1:=⟨fuel-1,by bv_omega⟩
  obtain⟨f,d',rfl,bn,rfl,T'⟩:=zO2 T h2
  have sb:=S.at' b bn
  rw[h3] at sb
  have cb:os.contains b=true:=by
   cases c:os.contains b with
   | true=>rfl
   | false=>rw[c,if_neg Bool.false_ne_true] at sb;cases sb
  rw[cb,if_pos rfl] at sb
  obtain rfl:x=nxt xs b:=by simpa using sb
  obtain⟨bT',nT',T'⟩:=T' (nxt xs b) (o.yJ bn)
  obtain⟨c,cn,nc⟩:=yJ9 o hp S h1
  obtain⟨b',e0,e1⟩:=zU2 (pl:=pl) (ops:=ops) (xs:=xs) (sh:=sh) (p:=p) (bs:=bs) (tr:=.tuple [.int (b:Int),.tuple ((List.range n).map f)]) (x10:=x10) (show n<=60 by bv_omega) cn nc
  have body:tBd (rhoT pl ops xs n os sh p bs (.tuple [.int (b:Int),.tuple ((List.range n).map f)]) x10)=.ok (.nx (rhoT pl ops xs n os sh p bs (f (nxt xs b)) (some (.int (b:Int))))):=by
   unfold tBd
   rw[wP,e1,Res.bind_ok]
   show sQ tB2 tB3 _=_
   rw[wP,zU6 o bn,Res.bind_ok]
   exact yF2 cb
  have ef:nxD (.tuple [.int (b:Int),.tuple ((List.range n).map f)]) (nxt xs b)=f (nxt xs b):=fR f (o.yJ bn)
  obtain⟨tr,y,e,S'⟩:=ih os bs d' bT' nT' j (some (.int (b:Int))) (by rw[ef];exact T') S hb (by bv_omega)
  refine⟨tr,y,?_,S'⟩
  rw[whM,jB S,no h1,Res.bind_ok,if_pos rfl,body,Res.bind_ok]
  rw[ef] at e
  exact e
theorem xS6 {g:Nat->Nat->Nat}{p k l:Nat}{t:D}{seen mid:List (Option Nat)}{rs:List Rv}(h:Tn bxD nxD g p k t l seen rs mid):some p∉seen->rs ≠ []:=by
 induction h with
 | done h=>exact fun z=>absurd h z
 | leafN=>exact fun _ z=>nomatch z
 | nodeN=>exact fun _ z=>nomatch z
 | nodeO _ _ _ _ ih=>exact ih
theorem zA5 {ops xs:List Int}{n:Nat}{t:Nat->D}(o:Ord n xs) (q:Opn n ops) (P:PlanOk n ops t) (hn:n<=6){ps:List Nat}{seen fin:List (Option Nat)}{out:List (Nat×List Rv)}(h:Gm bxD nxD (fun b _=>nxt xs b) (tOf n t) ps seen out fin):(∀p∈ps,p<n)->∀(os:List Nat) (dn:List (Nat×List Rv)) (x7 x8 x9 x10:Option D),Sn n xs seen os->dn.length+ps.length<=100 ->
  ∃os' y7 y8 y9 y10,L3.forM (gN 7) tTrn (ps.map fun (p:Nat)=>PyData.int (p:Int)) [some (.tuple ((List.range n).map t)),some (tI ops),some (tI xs),some (.int (n:Int)),some (lI (nmX xs os)),some (lI (rI' os)),some (.list (dn.map turnD)),x7,x8,x9,x10]=.ok (.nx [some (.tuple ((List.range n).map t)),some (tI ops),some (tI xs),some (.int (n:Int)),some (lI (nmX xs os')),some (lI (rI' os')),some (.list ((dn++out).map turnD)),y7,y8,y9,y10]):=by
 induction h with
 | nil =>
  intro _ os dn x7 x8 x9 x10 _ _
  exact⟨os,x7,x8,x9,x10,by rw[List.append_nil];rfl⟩
 | @skip p ps seen fin out h _ ih =>
  intro hp os dn x7 x8 x9 x10 S l
  have pn:=hp p List.mem_cons_self
  rw[List.length_cons] at l
  have c:(!seen.contains (some p))=false:=by rw[List.contains_iff_mem.mpr h];rfl
  have w0:whM tTst tBd 1000000 (rhoT (.tuple ((List.range n).map t)) ops xs n os (.list (dn.map turnD)) p [] (t p) x10)=.ok (.nx (rhoT (.tuple ((List.range n).map t)) ops xs n os (.list (dn.map turnD)) p [] (t p) x10)):=by
   rw[show (1000000:Nat)=999999+1 from rfl,whM,jB S,c]
   rfl
  have w1:whM tTst tBd 1000000 [some (.tuple ((List.range n).map t)),some (tI ops),some (tI xs),some (.int (n:Int)),some (lI (nmX xs os)),some (lI (rI' os)),some (.list (dn.map turnD)),some (.int (p:Int)),some (.list []),some (t p),x10]=_:=w0
  have f0:tFin (rhoT (.tuple ((List.range n).map t)) ops xs n os (.list (dn.map turnD)) p [] (t p) x10)=.ok (.nx (rhoT (.tuple ((List.range n).map t)) ops xs n os (.list (dn.map turnD)) p [] (t p) x10)):=by
   have nn:neD (lI (rI' [])) (.list [])=some false:=by
    have:=zE9 [] []
    exact this
   unfold tFin
   simp -implicitDefEqProofs only[(evA),nn]
  have body:tTrn [some (.tuple ((List.range n).map t)),some (tI ops),some (tI xs),some (.int (n:Int)),some (lI (nmX xs os)),some (lI (rI' os)),some (.list (dn.map turnD)),some (.int (p:Int)),x8,x9,x10]=.ok (.nx (rhoT (.tuple ((List.range n).map t)) ops xs n os (.list (dn.map turnD)) p [] (t p) x10)):=by
   unfold tTrn
   simp -implicitDefEqProofs only[(evA),zW2 t pn,w1,f0]
  obtain⟨os',y7,y8,y9,y10,e⟩:=ih (fun z hz=>hp z (List.mem_cons_of_mem _ hz)) os dn (some (.int (p:Int))) (some (lI (rI' []))) (some (t p)) x10 S (by bv_omega)
  refine⟨os',y7,y8,y9,y10,?_⟩
  rw[List.map_cons,L3.forM]
  show (tTrn [some (.tuple ((List.range n).map t)),some (tI ops),some (tI xs),some (.int (n:Int)),some (lI (nmX xs os)),some (lI (rI' os)),some (.list (dn.map turnD)),some (.int (p:Int)),x8,x9,x10]).bind _=_
  rw[body,Res.bind_ok]
  exact e
 | @play p k ps seen mid fin rs out h tn _ ih =>
  intro hp os dn x7 x8 x9 x10 S l
  have pn:=hp p List.mem_cons_self
  rw[List.length_cons] at l
  have ne:=xS6 tn h
  rw[zD9 t pn] at tn
  have b:=q.at pn
  obtain⟨tr,y,w0,S'⟩:=yX6 (pl:=.tuple ((List.range n).map t)) (sh:=.list (dn.map turnD)) (ops:=ops) o hn pn tn os [] _ [] [(p:Int)] 1000000 x10 (P.tree p pn) S (Nat.zero_le _) (by bv_omega)
  rw[List.nil_append] at w0
  have w1:whM tTst tBd 1000000 [some (.tuple ((List.range n).map t)),some (tI ops),some (tI xs),some (.int (n:Int)),some (lI (nmX xs os)),some (lI (rI' os)),some (.list (dn.map turnD)),some (.int (p:Int)),some (.list []),some (t p),x10]=_:=w0
  have nb:rI' (rs.map (·.1)) ≠ []:=fun z=>by
   have:=congrArg List.length z
   rw[bX,List.length_map] at this
   exact ne (List.eq_nil_of_length_eq_zero this)
  have nn:neD (lI (rI' (rs.map (·.1)))) (.list [])=some true:=by
   have:=zE9 (rI' (rs.map (·.1))) []
   rw[decide_eq_false nb] at this
   exact this
  have td:(PyData.tuple [.int (p:Int),tI (rI' (rs.map (·.1)))])=turnD (p,rs):=by
   unfold turnD tI rI'
   rw[List.map_map,List.map_map]
   rfl
  have ap:=gL (l:=dn.map turnD) (d:=turnD (p,rs)) (by rw[List.length_map];bv_omega)
  have f0:tFin (rhoT (.tuple ((List.range n).map t)) ops xs n (os++rs.map (·.1)) (.list (dn.map turnD)) p (rs.map (·.1)) tr y)=.ok (.nx (rhoT (.tuple ((List.range n).map t)) ops xs n (os++rs.map (·.1)) (.list ((dn ++ [(p,rs)]).map turnD)) p (rs.map (·.1)) tr y)):=by
   have e:(dn ++ [(p,rs)]).map turnD=dn.map turnD ++ [turnD (p,rs)]:=by rw[List.map_append];rfl
   rw[e]
   have ap':appD (dn.map turnD) [.tuple [.int (p:Int),.tuple ((rI' (rs.map (·.1))).map PyData.int)]]=some (dn.map turnD ++ [turnD (p,rs)]):=by
    rw[<-ap,<-td]
   unfold tFin
   simp -implicitDefEqProofs only[(evA),nn,ap']
  have body:tTrn [some (.tuple ((List.range n).map t)),some (tI ops),some (tI xs),some (.int (n:Int)),some (lI (nmX xs os)),some (lI (rI' os)),some (.list (dn.map turnD)),some (.int (p:Int)),x8,x9,x10]=.ok (.nx (rhoT (.tuple ((List.range n).map t)) ops xs n (os++rs.map (·.1)) (.list ((dn ++ [(p,rs)]).map turnD)) p (rs.map (·.1)) tr y)):=by
   unfold tTrn
   simp -implicitDefEqProofs only[(evA),zW2 t pn,w1,f0]
  obtain⟨os',y7,y8,y9,y10,e⟩:=ih (fun z hz=>hp z (List.mem_cons_of_mem _ hz)) (os++rs.map (·.1)) (dn ++ [(p,rs)]) (some (.int (p:Int))) (some (lI (rI' (rs.map (·.1))))) (some tr) y S' (by rw[List.length_append];simp;bv_omega)
  refine⟨os',y7,y8,y9,y10,?_⟩
  rw[List.map_cons,L3.forM]
  show (tTrn [some (.tuple ((List.range n).map t)),some (tI ops),some (tI xs),some (.int (n:Int)),some (lI (nmX xs os)),some (lI (rI' os)),some (.list (dn.map turnD)),some (.int (p:Int)),x8,x9,x10]).bind _=_
  rw[body,Res.bind_ok]
  rw[List.append_assoc] at e
  exact e
theorem zI4 {n:Nat}{ops xs ys:List Int}{t:Nat->D}{out:List (Nat×List Rv)}(w:WrP n ops t xs ys out) (P:PlanOk n ops t) (q:Opn n ops) (h1:1<=n) (h2:n<=6):uI [.tuple ((List.range n).map t),tI ops,tI xs]=.ok (.list (out.map turnD)):=by
 have pm:=(jF (n:=n) (op:=opF ops) h2).1
 have hl:((List.range n).map t).length=n:=by rw[List.length_map,List.length_range]
 have S0:Sn n xs (List.replicate n none) []:=⟨List.length_replicate,List.nodup_nil,fun b hb=>(by cases hb),fun b hb=>(by rw[List.getElem?_replicate,if_pos hb];rfl)⟩
 obtain⟨os',y7,y8,y9,y10,e⟩:=zA5 w.ord q P h2 w.gm (fun p hp=>List.mem_range.mp (pm.mem_iff.mp hp)) [] [] none none none none S0 (by rw[pm.length_eq,List.length_range];simp;bv_omega)
 rw[List.nil_append] at e
 have e':L3.forM (gN 7) tTrn ((poK n (opF ops)).map fun (p:Nat)=>PyData.int (p:Int)) [some (.tuple ((List.range n).map t)),some (tI ops),some (tI xs),some (.int (n:Int)),some (.list []),some (.list []),some (.list []),none,none,none,none]=_:=e
 have rl:rangeL [.int (n:Int)]=some (.list ((List.range n).map fun (i:Nat)=>PyData.int (i:Int))):=by
  show (if _ then _ else _)=_
  rw[if_pos ⟨by bv_omega,by rw[Int.toNat_natCast];bv_omega⟩,Int.toNat_natCast]
 have sk:eSK 1 (aC (eB rangeL (aC (eV 3) aN)) aN) [some (.tuple ((List.range n).map t)),some (tI ops),some (tI xs),some (.int (n:Int)),some (.list []),some (.list []),some (.list []),none,none,none,none]=.ok (.list ((poK n (opF ops)).map fun (p:Nat)=>PyData.int (p:Int))):=by
  show ((aC (eB rangeL (aC (eV 3) aN)) aN _).bind _)=_
  simp -implicitDefEqProofs only[(evA),rl]
  show Res.lft (sortKD (tI ops) _)=_
  rw[yZ7 q.len h1 h2]
  rfl
 show (uH [some (.tuple ((List.range n).map t)),some (tI ops),some (tI xs),none,none,none,none,none,none,none,none]).bind (fin true)=_
 rw[zD1]
 simp -implicitDefEqProofs only[(evA),hl,sk,e']
theorem xP3 {n:Nat}{xs:List Int}{p k l:Nat}{t:D}{seen mid:List (Option Nat)}{rs:List Rv}(h:Tn bxD nxD (fun b _=>nxt xs b) p k t l seen rs mid):∀os,Sn n xs seen os->Sn n xs mid (os++rs.map (·.1)):=by
 induction h with
 | done _=>intro os S;simpa using S
 | @leafN k t l b seen out rs h1 h2 h3 h4 _ ih =>
  intro os S
  have:=ih (os ++ [b]) (S.put h3)
  rw[List.append_assoc] at this
  exact this
 | @nodeN k t l b seen out rs h1 h2 h3 _ ih =>
  intro os S
  have:=ih (os ++ [b]) (S.put h3)
  rw[List.append_assoc] at this
  exact this
 | nodeO _ _ _ _ ih=>exact ih
theorem xR6 {n:Nat}{xs:List Int}{T:Nat->D}{ps:List Nat}{seen fin:List (Option Nat)}{out:List (Nat×List Rv)}(h:Gm bxD nxD (fun b _=>nxt xs b) T ps seen out fin):∀os,Sn n xs seen os->Sn n xs fin (os++(allR out).map (·.1)):=by
 induction h with
 | nil=>intro os S;simpa [allR] using S
 | skip _ _ ih=>exact ih
 | @play p k ps seen mid fin rs out _ tn _ ih =>
  intro os S
  have:=ih _ (xP3 tn os S)
  rw[List.append_assoc,<-List.map_append] at this
  exact this
theorem zU4 (n:Nat) (p:Int):Ord n (ordP n p):=uP (cT n _ p (by rw[List.length_map,List.length_range]))
theorem zM9 (c:Int){m:Nat}(h:m<=1000):ordF [.int c,.int (m:Int)]=.ok (tI (ordP m c)):=by
 show (if 0<=(m:Int)/\(m:Int)<=1000 then Res.ok (tI (ordP (m:Int).toNat c)) else .no)=_
 rw[if_pos ⟨by bv_omega,by bv_omega⟩,Int.toNat_natCast]
theorem bN {ds:List D}{xs:List Int}(h:xs.length≠ds.length):xE [.tuple ds,tI xs]=.ex "BadOrder":=by
 show (xD [some (.tuple ds),some (tI xs)]).bind (fin false)=_
 unfold xD
 simp -implicitDefEqProofs only[(evA),List.length_map,uQ,decide_eq_false (show ¬((xs.length:Nat):Int)=((ds.length:Nat):Int) by bv_omega),jU,if_pos (show 1<=sizeLine by decide),if_pos (show 0+1<=sizeLine by decide)]
theorem yS2 {ds:List D}{bs xs:List Int}(h:BadO (ds.length:Int) bs):zB [.tuple ds,tI bs,tI xs]=.ex "BadOpenings":=by
 have e:=dM (.inr rfl) h
 show (xU [some (.tuple ds),some (tI bs),some (tI xs)]).bind (fin false)=_
 unfold xU
 simp -implicitDefEqProofs only[(evA),e]
theorem yQ2 {n:Nat}{ds:List D}{ops xs:List Int}(q:Opn n ops) (hl:ds.length=n) (h1:1<=n) (h2:n<=60) (h:xs.length≠ds.length):zB [.tuple ds,tI ops,tI xs]=.ex "BadOrder":=by
 show (xU [some (.tuple ds),some (tI ops),some (tI xs)]).bind (fin false)=_
 unfold xU
 simp -implicitDefEqProofs only[(evA),bN h,hl,qG q h1 h2]
section
variable {a b c:D}{e:Str}
theorem dG (h:zB [a,b,c]=.ex e):yH [a,b,c]=.ex e:=by
 show (uR [some a,some b,some c]).bind (fin true)=_
 unfold uR
 simp -implicitDefEqProofs only[(evA),h]
theorem yC1 (h:zB [a,b,c]=.ex e):dC [a,b,c]=.ex e:=by
 show (zH9 [some a,some b,some c]).bind (fin false)=_
 unfold zH9
 simp -implicitDefEqProofs only[(evA),yY1,dG h]
theorem zI6 (h:zB [a,b,c]=.ex e):uD [a,b,c]=.ex e:=by
 show (gJ [some a,some b,some c,none,none,none]).bind (fin false)=_
 unfold gJ
 simp -implicitDefEqProofs only[(evA),dG h]
theorem zU8 (h:zB [a,b,c]=.ex e):wD [a,b,c]=.ex e:=by
 show (wH [some a,some b,some c]).bind (fin false)=_
 unfold wH
 simp -implicitDefEqProofs only[(evA),h]
def rfB:Ev->Res Out:=(sIf (b2 eqD (eV 0) (eC (.int 0))) (sE (eF yH (aC (eV 1) (aC (eV 2) (aC (eV 3) aN))))) (sIf (b2 eqD (eV 0) (eC (.int 1))) (sE (eF dC (aC (eV 1) (aC (eV 2) (aC (eV 3) aN))))) (sIf (b2 eqD (eV 0) (eC (.int 2))) (sE (eF uD (aC (eV 1) (aC (eV 2) (aC (eV 3) aN))))) (sE (eF wD (aC (eV 1) (aC (eV 2) (aC (eV 3) aN))))))))
def rfH:Ev->Res Out:=(sS 4 (eB mkL (aC (e1 (isiX CLS ["BadOpenings"]) (eV 5)) (aC (e1 (isiX CLS ["BadOrder"]) (eV 5)) (aC (e1 (isiX CLS CLS) (eV 5)) aN)))))
theorem xP7:jK=(sQ (sS 4 (eB mkL aN)) (sQ (sTry 5 CLS rfB rfH) (sR (eV 4)))):=rfl
theorem yO2 {k:Nat}{x y:Bool}(hk:k<4) (h:zB [a,b,c]=.ex e) (he:CLS.contains e=true) (hx:isiX CLS ["BadOpenings"] (excD e)=some (.bool x)) (hy:isiX CLS ["BadOrder"] (excD e)=some (.bool y)) (hz:isiX CLS CLS (excD e)=some (.bool true)):yR [.int (k:Int),a,b,c]=.ok (.list [.bool x,.bool y,.bool true]):=by
 have hb:rfB [some (.int (k:Int)),some a,some b,some c,some (.list []),none]=.ex e:=by
  unfold rfB
  rcases (show k=0\/k=1\/k=2\/k=3 by bv_omega) with rfl | rfl | rfl | rfl
  ·simp -implicitDefEqProofs only[(evA),uW,show ((0:Nat):Int)=0 from rfl,decide_true,dG h]
  ·simp -implicitDefEqProofs only[(evA),uW,show ((1:Nat):Int)=1 from rfl,decide_eq_false (show ¬(1:Int)=0 by decide),decide_true,yC1 h]
  ·simp -implicitDefEqProofs only[(evA),uW,show ((2:Nat):Int)=2 from rfl,decide_eq_false (show ¬(2:Int)=0 by decide),decide_eq_false (show ¬(2:Int)=1 by decide),decide_true,zI6 h]
  ·simp -implicitDefEqProofs only[(evA),uW,show ((3:Nat):Int)=3 from rfl,decide_eq_false (show ¬(3:Int)=0 by decide),decide_eq_false (show ¬(3:Int)=1 by decide),decide_eq_false (show ¬(3:Int)=2 by decide),zU8 h]
 have hh:rfH [none,none,none,none,none,some (excD e)]=.ok (.nx [none,none,none,none,some (.list [.bool x,.bool y,.bool true]),some (excD e)]):=by
  unfold rfH
  simp -implicitDefEqProofs only[(evA),hx,hy,hz]
 have t1:sTry 5 CLS rfB rfH [some (.int (k:Int)),some a,some b,some c,some (.list []),none]=.ok (.nx [none,none,none,none,some (.list [.bool x,.bool y,.bool true]),none]):=by
  rw[yK4 hb he]
  show (noEx (rfH [none,none,none,none,none,some (excD e)])).bind (unn 5)=_
  rw[hh]
  rfl
 show (jK [some (.int (k:Int)),some a,some b,some c,none,none]).bind (fin false)=_
 rw[xP7]
 simp -implicitDefEqProofs only[(evA),t1]
end
theorem p30:∃P:Int,0<P/\powO 10 30=some P:=⟨10 ^ 30,by decide,by unfold powO;rw[if_pos (by decide)];rfl⟩
theorem yW5 {n:Nat}{ops:List Int}(q:Opn n ops) (h1:1<=n) (h2:n<=60) (c:Int):∃bs,BadO (n:Int) bs/\yI [tI ops,.int c]=.ok (tI bs):=by
 obtain⟨P,hP,pw⟩:=p30
 have m0:=Int.emod_nonneg (c / 4) (show ((n:Int))≠0 by bv_omega)
 have m1:=Int.emod_lt_of_pos (c / 4) (show (0:Int)<(n:Int) by bv_omega)
 obtain⟨a,ha⟩:∃a:Nat,c / 4%(n:Int)=(a:Int):=⟨(c / 4%(n:Int)).toNat,by bv_omega⟩
 have han:a<n:=by bv_omega
 have f0:=Int.emod_nonneg (c / 80) (show P≠0 by bv_omega)
 generalize hf:c / 80%P=f at f0
 obtain⟨v,hv,ev⟩:=yM2 [-1,(n:Int)+1,-1-f,(n:Int)+1+f] (c%4) (Int.emod_nonneg c (by decide)) (Int.emod_lt_of_pos c (by decide))
 have ev':atI [PyData.int (-1),PyData.int ((n:Int)+1),PyData.int (-1-f),PyData.int ((n:Int)+1+f)] (c%4)=some (.int v):=ev
 have vo:v<0\/(n:Int)<v:=by
  simp only[List.mem_cons,List.not_mem_nil,or_false] at hv
  bv_omega
 have s1:cutD (ops.map PyData.int) none (some (a:Int))=(ops.take a).map PyData.int:=by rw[kN,yD7]
 have s2:cutD (ops.map PyData.int) (some ((a:Int)+1)) none=(ops.drop (a+1)).map PyData.int:=by rw[kN,show (a:Int)+1=((a+1:Nat):Int) from rfl,zX6]
 have s3:cutD (ops.map PyData.int) (some 1) none=(ops.drop 1).map PyData.int:=by rw[kN,show (1:Int)=((1:Nat):Int) from rfl,zX6]
 have t1:catT (.tuple ((ops.take a).map PyData.int)) (.tuple [.int v])=some (tI (ops.take a ++ [v])):=bS (ys:=[v]) (by rw[List.length_take,List.length_singleton];bv_omega)
 have t2:catT (tI (ops.take a ++ [v])) (.tuple ((ops.drop (a+1)).map PyData.int))=some (tI (ops.take a ++ [v]++ops.drop (a+1))):=bS (by rw[List.length_append,List.length_take,List.length_drop,List.length_singleton,q.len];bv_omega)
 have t3:catT (.tuple (ops.map PyData.int)) (.tuple [.int 0])=some (tI (ops ++ [0])):=bS (ys:=[0]) (by rw[List.length_singleton,q.len];bv_omega)
 have a0:∀x y z:D,atI [x,y,z] 0=some x:=fun _ _ _=>rfl
 have a1:∀x y z:D,atI [x,y,z] 1=some y:=fun _ _ _=>rfl
 have a2:∀x y z:D,atI [x,y,z] 2=some z:=fun _ _ _=>rfl
 have base:∀bs,BadO n bs->(vX [some (tI ops),some (.int c),none,none,none,none]).bind (fin false)=.ok (tI bs)->∃bs,BadO (n:Int) bs/\yI [tI ops,.int c]=.ok (tI bs):=fun bs q1 q2=>⟨bs,q1,q2⟩
 unfold vX at base
 have r0:=Int.emod_nonneg (c / 20) (show (3:Int)≠0 by decide)
 have r1:=Int.emod_lt_of_pos (c / 20) (show (0:Int)<3 by decide)
 rcases (show c / 20%3=0\/c / 20%3=1\/c / 20%3=2 by bv_omega) with r | r | r
 ·refine base (ops.take a ++ [v]++ops.drop (a+1)) (fun z => ?_) ?_
  ·have:=z.2.2.2 v (by simp)
   bv_omega
  ·simp -implicitDefEqProofs only[(evA),List.length_map,q.len,modO,fdivO,if_pos (show (0:Int)<(n:Int) by bv_omega),if_pos (show (0:Int)<4 by decide),if_pos (show (0:Int)<3 by decide),if_pos (DivOk.small (show (0:Int)<4 by decide) (by decide)),if_pos (DivOk.small (show (0:Int)<20 by decide) (by decide)),if_pos (DivOk.small (show (0:Int)<80 by decide) (by decide)),pw,if_pos hP,hf,ha,ev',s1,s2,s3,t1,t2,t3,r,a0]
 ·refine base (ops ++ [0]) (fun z => ?_) ?_
  ·have:=z.2.2.1
   rw[List.length_append,List.length_singleton,q.len] at this
   bv_omega
  ·simp -implicitDefEqProofs only[(evA),List.length_map,q.len,modO,fdivO,if_pos (show (0:Int)<(n:Int) by bv_omega),if_pos (show (0:Int)<4 by decide),if_pos (show (0:Int)<3 by decide),if_pos (DivOk.small (show (0:Int)<4 by decide) (by decide)),if_pos (DivOk.small (show (0:Int)<20 by decide) (by decide)),if_pos (DivOk.small (show (0:Int)<80 by decide) (by decide)),pw,if_pos hP,hf,ha,ev',s1,s2,s3,t1,t2,t3,r,a1]
 ·refine base (ops.drop 1) (fun z => ?_) ?_
  ·have:=z.2.2.1
   rw[List.length_drop,q.len] at this
   bv_omega
  ·simp -implicitDefEqProofs only[(evA),List.length_map,q.len,modO,fdivO,if_pos (show (0:Int)<(n:Int) by bv_omega),if_pos (show (0:Int)<4 by decide),if_pos (show (0:Int)<3 by decide),if_pos (DivOk.small (show (0:Int)<4 by decide) (by decide)),if_pos (DivOk.small (show (0:Int)<20 by decide) (by decide)),if_pos (DivOk.small (show (0:Int)<80 by decide) (by decide)),pw,if_pos hP,hf,ha,ev',s1,s2,s3,t1,t2,t3,r,a2]
theorem zJ3 (z:Nat×List Rv):(turnD z).canLay0=true/\(turnD z).depth<=2/\lf (turnD z)=true:=by
 obtain⟨h1,h2,h3⟩:=bI (fun r:Rv=>PyData.int (r.1:Int)) 0 z.2 fun _ _=>⟨rfl,Nat.le_refl _,rfl⟩
 unfold turnD
 refine⟨?_,?_,?_⟩
 ·rw[PyData.canLay0,PyData.canLayAll0,PyData.canLay0,PyData.canLayAll0,PyData.canLay0,h1]
  rfl
 ·rw[PyData.depth,PyData.depthAll,PyData.depthAll,PyData.depth,PyData.depth,PyData.depthAll]
  have:max 0 (max (PyData.depthAll (List.map (fun r:Rv=>PyData.int (r.1:Int)) z.2)+1) 0)<=1:=Nat.max_le.mpr ⟨Nat.zero_le _,Nat.max_le.mpr ⟨by bv_omega,Nat.zero_le _⟩⟩
  bv_omega
 ·show (true&&(lfs (z.2.map fun r:Rv=>PyData.int (r.1:Int))&&true))=true
  rw[h3]
  rfl
theorem yT2 (out:List (Nat×List Rv)):neD (.list (out.map turnD)) (.list (out.map turnD))=some false/\eqD (.list (out.map turnD)) (.list (out.map turnD))=some true:=by
 obtain⟨h1,h2,_⟩:=bI turnD 2 out fun z _=>zJ3 z
 have sl:SeqAt.shaped (.list (out.map turnD))=true:=by
  unfold SeqAt.shaped
  rw[PyData.canLay0,PyData.depth,h1,decide_eq_true (by bv_omega)]
  rfl
 have e2:=SeqAt.eqv_refl _ (SeqAt.canLay_of_shaped sl)
 unfold neD eqD
 rw[if_pos ⟨sl,sl⟩,if_pos ⟨sl,sl⟩,e2]
 exact⟨rfl,rfl⟩
theorem yV8 {n:Nat}{ops xs ys:List Int}{t:Nat->D}{out:List (Nat×List Rv)}(w:WrP n ops t xs ys out):((allR out).map (·.1)).Perm (List.range n):=by
 have S:=xR6 w.gm [] ⟨List.length_replicate,List.nodup_nil,fun b hb=>(by cases hb),fun b hb=>(by rw[List.getElem?_replicate,if_pos hb];rfl)⟩
 rw[List.nil_append] at S
 rw[List.perm_ext_iff_of_nodup S.nd List.nodup_range]
 intro y
 rw[List.mem_range]
 refine⟨S.lt y,fun h => ?_⟩
 obtain⟨z,hz,r,hr,e⟩:=w.box y h
 exact List.mem_map.mpr ⟨r,List.mem_flatMap.mpr ⟨z,hz,hr⟩,e⟩
def rgB:Ev->Res Out:=(sQ (sIf (tO (tNt (tV (e1 (isiD "tuple") (eV 6)))) (tO (tNt (tV (eF xQ (aC (e2 ixD (eV 6) (eC (.int 0))) aN)))) (tNt (tV (e1 (isiD "tuple") (e2 ixD (eV 6) (eC (.int 1)))))))) (sR (eC (.bool false))) sN) (sQ (sIf (tNt (tV (eB allD (aC (eComp (iS (e2 ixD (eV 6) (eC (.int 1)))) tYes (eF xQ (aC (eV 0) aN)) []) aN)))) (sR (eC (.bool false))) sN) (sM 5 extD (aC (eB listD (aC (e2 ixD (eV 6) (eC (.int 1))) aN)) aN))))
theorem xP6:fW=(sQ (sS 3 (eF uI (aC (eV 0) (aC (eV 1) (aC (eV 2) aN))))) (sQ (sS 4 (eF yH (aC (eV 0) (aC (eV 1) (aC (eV 2) aN))))) (sQ (sIf (tO (tNt (tV (e1 (isiD "list") (eV 4)))) (b2 neD (eV 4) (eV 3))) (sR (eC (.bool false))) sN) (sQ (sS 5 (eB mkL aN)) (sQ (fun ρ=>(eV 4 ρ).bind fun _=>(sF (iS (eV 4)) (gN 6) rgB) ρ) (sQ (sM 4 appD (aC (eB mkT (aC (eC (.int 0)) (aC (eB mkT aN) aN))) aN)) (sR (vAn (e2 (fun x y=>bD (eqD x y)) (eB sortD (aC (eV 5) aN)) (eB rangeL (aC (eB lenD (aC (eV 0) aN)) aN))) (e2 (fun x y=>bD (eqD x y)) (eF yH (aC (eV 0) (aC (eV 1) (aC (eV 2) aN)))) (eV 3)))))))))):=rfl
theorem xW7 {x0 x1 x2 x3 x4:Option D}{bs:List Nat}{z:Nat×List Rv}(lb:bs.length<=100) (lz:z.2.length<=100):rgB [x0,x1,x2,x3,x4,some (lI (rI' bs)),some (turnD z)]=.ok (.nx [x0,x1,x2,x3,x4,some (lI (rI' (bs++z.2.map (·.1)))),some (turnD z)]):=by
 have b0:atI [PyData.int (z.1:Int),.tuple (z.2.map fun r=>.int (r.1:Int))] 0=some (.int (z.1:Int)):=rfl
 have b1:atI [PyData.int (z.1:Int),.tuple (z.2.map fun r=>.int (r.1:Int))] 1=some (.tuple (z.2.map fun r=>.int (r.1:Int))):=rfl
 have i1:∀l:List D,isiD "tuple" (.tuple l)=some (.bool true):=fun _=>rfl
 have cc:eComp (iS (e2 ixD (eV 6) (eC (.int 1)))) tYes (eF xQ (aC (eV 0) aN)) [] [x0,x1,x2,x3,x4,some (lI (rI' bs)),some (.tuple [.int (z.1:Int),.tuple (z.2.map fun r=>.int (r.1:Int))])]=.ok (.list (z.2.map fun _=>PyData.bool true)):=by
  refine jT (fun r:Rv=>PyData.int (r.1:Int)) (fun _=>PyData.bool true) z.2 (by simp -implicitDefEqProofs only[(evA),b1]) (by bv_omega) fun r _ => ?_
  show eF xQ (aC (eV 0) aN) [some (.int (r.1:Int))]=_
  simp -implicitDefEqProofs only[(evA),dB]
 have ad:=zE3 z.2 (fun _=>true) fun _ _=>rfl
 have ex:=xX8 (l:=(rI' bs).map PyData.int) (k:=z.2.map fun r=>.int (r.1:Int)) (d:=.list (z.2.map fun r=>.int (r.1:Int))) rfl (by rw[List.length_map,List.length_map,bX];bv_omega)
 have e1:lI (rI' (bs++z.2.map (·.1)))=.list ((rI' bs).map PyData.int++z.2.map fun r=>.int (r.1:Int)):=by
  unfold lI rI'
  rw[List.map_append,List.map_append,List.map_map,List.map_map,List.map_map]
  rfl
 rw[e1]
 unfold rgB turnD
 simp -implicitDefEqProofs only[(evA),i1,b0,b1,dB,cc,ad,ex]
theorem zI7 {n:Nat}{ops xs ys:List Int}{t:Nat->D}{out:List (Nat×List Rv)}(w:WrP n ops t xs ys out) (P:PlanOk n ops t) (q:Opn n ops) (h1:1<=n) (h2:n<=6):uK [.tuple ((List.range n).map t),tI ops,tI xs]=.ok (.bool true):=by
 have hl:((List.range n).map t).length=n:=by rw[List.length_map,List.length_range]
 have e1:=zI4 w P q h1 h2
 have e2:=yS8 w P q h1 h2
 obtain⟨n1,n2⟩:=yT2 out
 have of:=yL6 w h2
 have pm:=yV8 w
 have lb:∀i,((allR (out.take i)).map (·.1)).length<=6:=fun i=>by
  have:=pm.length_eq
  rw[List.length_range] at this
  have l2:(allR (out.take i)).length<=(allR out).length:=by
   unfold allR
   conv=>rhs;rw[<-List.take_append_drop i out,List.flatMap_append,List.length_append]
   bv_omega
  rw[List.length_map] at this ⊢
  bv_omega
 obtain⟨ρ',e,x,rfl⟩:=zN8 (g:=gN 6) (b:=rgB) (fun i ρ=>∃x,ρ=[some (.tuple ((List.range n).map t)),some (tI ops),some (tI xs),some (.list (out.map turnD)),some (.list (out.map turnD)),some (lI (rI' ((allR (out.take i)).map (·.1)))),x]) (out.map turnD) [some (.tuple ((List.range n).map t)),some (tI ops),some (tI xs),some (.list (out.map turnD)),some (.list (out.map turnD)),some (.list []),none] ⟨none,rfl⟩ (by
  rintro i d ρ hd ⟨x,rfl⟩
  rw[List.getElem?_map] at hd
  obtain⟨z,hz,rfl⟩:=Option.map_eq_some_iff.mp hd
  have ta:out.take (i+1)=out.take i ++ [z]:=by rw[List.take_succ,hz];rfl
  have aa:(allR (out.take (i+1))).map (·.1)=(allR (out.take i)).map (·.1)++z.2.map (·.1):=by
   unfold allR
   rw[ta,List.flatMap_append,List.map_append]
   simp
  have zl:z.2.length<=100:=by
   have:=lb (i+1)
   rw[aa,List.length_append,List.length_map,List.length_map] at this
   bv_omega
  have ll:=lb i
  refine⟨_,_,rfl,xW7 (by bv_omega) zl,some (turnD z),?_⟩
  rw[aa])
 rw[List.length_map,List.take_length] at e
 have rl:rangeL [.int (n:Int)]=some (lI (rg n)):=zJ5 (n:=n) (by bv_omega)
 have ap:=gL (l:=out.map turnD) (d:=.tuple [.int 0,.tuple []]) (by rw[List.length_map];bv_omega)
 have pi:(rI' ((allR out).map (·.1))).Perm (rg n):=pm.map _
 have ln:=pi.length_eq
 have lg:(rg n).length=n:=by unfold rg;rw[List.length_map,List.length_range]
 have so:sortD [.list ((rI' ((allR out).map (·.1))).map PyData.int)]=some (lI (rg n)):=by
  have s:=yP6 (ns:=rI' ((allR out).map (·.1))) (by bv_omega)
  have r:=yJ1 (ys:=rI' ((allR out).map (·.1)))
  rw[show (rI' ((allR out).map (·.1))).length=n by rw[ln,lg]] at r
  rw[r.mpr pi] at s
  exact s
 have il:∀l:List D,isiD "list" (.list l)=some (.bool true):=fun _=>rfl
 show (fW [some (.tuple ((List.range n).map t)),some (tI ops),some (tI xs),none,none,none,none]).bind (fin false)=_
 rw[xP6]
 simp -implicitDefEqProofs only[(evA),e1,e2,il,n1,e,ap,so,hl,rl,yC7,decide_true,n2]
def ohM:Ev->Res D:=(e2 ixD (eB mkL (aC (e2 addI (e2 addI (eV 1) (eC (.int 1))) (e2 modI (eV 4) (eC (.int 3)))) (aC (eB max2D (aC (eC (.int 1)) (aC (e2 subI (eV 1) (eC (.int 1))) aN))) aN))) (eB intD (aC (vAn (e2 (fun x y=>bD (eqD x y)) (e2 modI (eV 4) (eC (.int 4))) (eC (.int 1))) (e2 (fun x y=>bD (gtI x y)) (eV 1) (eC (.int 1)))) aN)))
theorem xU2 {n:Nat}{c:Int}{u0 u2 u3 u5 u6 u7:Option D}(h1:1<=n):∃m:Nat,m<=n+3/\m≠n/\ohM [u0,some (.int (n:Int)),u2,u3,some (.int c),u5,u6,u7]=.ok (.int (m:Int)):=by
 obtain⟨M,hM,eM⟩:∃M:Int,(1<n->M=(n:Int)-1)/\max2D [.int 1,.int ((n:Int)-1)]=some (.int M):=by
  refine⟨if (n:Int)-1 > 1 then (n:Int)-1 else 1,fun h => ?_,rfl⟩
  split <;> bv_omega
 have a0:∀x y:D,atI [x,y] 0=some x:=fun _ _=>rfl
 have a1:∀x y:D,atI [x,y] 1=some y:=fun _ _=>rfl
 have i1:intD [.bool true]=some (.int 1):=rfl
 have i0:intD [.bool false]=some (.int 0):=rfl
 have r0:=Int.emod_nonneg c (show (3:Int)≠0 by decide)
 have r1:=Int.emod_lt_of_pos c (show (0:Int)<3 by decide)
 have up:(n:Int)+1+c%3=((n+1+(c%3).toNat:Nat):Int):=by bv_omega
 unfold ohM
 by_cases e:c%4=1
 ·by_cases g:1<n
  ·refine⟨n-1,by bv_omega,by bv_omega,?_⟩
   simp -implicitDefEqProofs only[(evA),eM,decide_eq_true (show (1:Int)<(n:Int) by bv_omega),modO,if_pos (show (0:Int)<3 by decide),if_pos (show (0:Int)<4 by decide),uW,decide_eq_true e,i1,a1]
   rw[hM g,show (n:Int)-1=((n-1:Nat):Int) by bv_omega]
  ·refine⟨n+1+(c%3).toNat,by bv_omega,by bv_omega,?_⟩
   simp -implicitDefEqProofs only[(evA),eM,decide_eq_false (show ¬(1:Int)<(n:Int) by bv_omega),modO,if_pos (show (0:Int)<3 by decide),if_pos (show (0:Int)<4 by decide),uW,decide_eq_true e,i0,a0]
   rw[up]
 ·refine⟨n+1+(c%3).toNat,by bv_omega,by bv_omega,?_⟩
  simp -implicitDefEqProofs only[(evA),eM,modO,if_pos (show (0:Int)<3 by decide),if_pos (show (0:Int)<4 by decide),uW,decide_eq_false e,i0,a0]
  rw[up]
def lwI:Ev->Res Out:=(sIf (b2 neD (eComp (iR rng1 (aC (eC (.int 4)) aN)) tYes (eF yR (aC (eV 0) (aC (eV 1) (aC (eV 2) (aC (eV 3) aN))))) [3,2,6]) (e2 repL (eB mkL (aC (eB mkL (aC (eC (.bool false)) (aC (eC (.bool true)) (aC (eC (.bool true)) aN)))) aN)) (eC (.int 4)))) (sR (eC (.bool false))) sN)
def lwJ:Ev->Res Out:=(sIf (b2 neD (eComp (iR rng1 (aC (eC (.int 4)) aN)) tYes (eF yR (aC (eV 0) (aC (eV 1) (aC (eV 2) (aC (e2 ixD (eB mkL (aC (eV 3) (aC (eV 4) aN))) (e2 modI (eV 5) (eC (.int 2)))) aN))))) [3,7,5,6,4]) (e2 repL (eB mkL (aC (eB mkL (aC (eC (.bool true)) (aC (eC (.bool false)) (aC (eC (.bool true)) aN)))) aN)) (eC (.int 4)))) (sR (eC (.bool false))) sN)
theorem xQ2:zG1=(sQ (sA (eF wJ (aC (eV 0) aN)) (gT 2 (gsC (gN 1) (gsC (gN 2) gsN)))) (sQ (sS 3 (eF vD (aC (eV 0) (aC (eV 1) (aC (eV 2) aN))))) (sQ (sF (iS (e2 catL (eB mkL (aC (eB lenD (aC (eV 0) aN)) aN)) (eB listD (aC (eS slD (eV 0) (oS (eC (.int 1))) (oS (eC (.int 41)))) aN)))) (gN 4) (sQ (sS 5 (eF ordF (aC (eV 4) (aC (eV 1) aN)))) (sQ (sIf (tNt (tV (eF uK (aC (eV 3) (aC (eV 2) (aC (eV 5) aN)))))) (sR (eC (.bool false))) sN) (sQ (sS 6 (eF ordF (aC (eV 4) (aC ohM aN)))) (sQ (sS 7 (eF yI (aC (eV 2) (aC (eV 4) aN)))) (sQ lwI lwJ)))))) (sR (eC (.bool true)))))):=rfl
theorem rep4 (d:D):repL (.list [d]) (.int 4)=some (.list [d,d,d,d]):=yR4 d 4 (by decide)
section
variable {ns ops xs ys bs:List Int}{n:Nat}{ds:List D}{c:Int}
abbrev rhoL (ns ops xs ys bs:List Int) (n:Nat) (ds:List D) (c:Int):Ev:=[some (lI ns),some (.int (n:Int)),some (tI ops),some (.tuple ds),some (.int c),some (tI xs),some (tI ys),some (tI bs)]
theorem xZ2 (q:Opn n ops) (hl:ds.length=n) (h1:1<=n) (h2:n<=60) (h:ys.length≠ds.length):lwI (rhoL ns ops xs ys bs n ds c)=.ok (.nx (rhoL ns ops xs ys bs n ds c)):=by
 have cc:eComp (iR rng1 (aC (eC (.int 4)) aN)) tYes (eF yR (aC (eV 0) (aC (eV 1) (aC (eV 2) (aC (eV 3) aN))))) [3,2,6] (rhoL ns ops xs ys bs n ds c)=.ok (.list [.list [.bool false,.bool true,.bool true],.list [.bool false,.bool true,.bool true],.list [.bool false,.bool true,.bool true],.list [.bool false,.bool true,.bool true]]):=by
  refine jT (fun k:Nat=>PyData.int (k:Int)) (fun _=>PyData.list [.bool false,.bool true,.bool true]) (List.range 4) (by simp -implicitDefEqProofs only[(evA),show rng1 [.int 4]=_ from fM (n:=4) (by decide)]) (by decide) fun k hk => ?_
  show eF yR (aC (eV 0) (aC (eV 1) (aC (eV 2) (aC (eV 3) aN)))) [some (.int (k:Int)),some (.tuple ds),some (tI ops),some (tI ys)]=_
  have r:=yO2 (x:=false) (y:=true) (List.mem_range.mp hk) (yQ2 q hl h1 h2 h) (by decide) (by rw[jJ,if_pos (by decide)];rfl) (by rw[jJ,if_pos (by decide)];rfl) (by rw[jJ,if_pos (by decide)];rfl)
  simp -implicitDefEqProofs only[(evA),r]
 have nn:neD (.list [.list [.bool false,.bool true,.bool true],.list [.bool false,.bool true,.bool true],.list [.bool false,.bool true,.bool true],.list [.bool false,.bool true,.bool true]]) (.list [.list [.bool false,.bool true,.bool true],.list [.bool false,.bool true,.bool true],.list [.bool false,.bool true,.bool true],.list [.bool false,.bool true,.bool true]])=some false:=rfl
 unfold lwI
 simp -implicitDefEqProofs only[(evA),cc,rep4,nn]
theorem yB5 (hl:ds.length=n) (h:BadO (n:Int) bs):lwJ (rhoL ns ops xs ys bs n ds c)=.ok (.nx (rhoL ns ops xs ys bs n ds c)):=by
 have cc:eComp (iR rng1 (aC (eC (.int 4)) aN)) tYes (eF yR (aC (eV 0) (aC (eV 1) (aC (eV 2) (aC (e2 ixD (eB mkL (aC (eV 3) (aC (eV 4) aN))) (e2 modI (eV 5) (eC (.int 2)))) aN))))) [3,7,5,6,4] (rhoL ns ops xs ys bs n ds c)=.ok (.list [.list [.bool true,.bool false,.bool true],.list [.bool true,.bool false,.bool true],.list [.bool true,.bool false,.bool true],.list [.bool true,.bool false,.bool true]]):=by
  refine jT (fun k:Nat=>PyData.int (k:Int)) (fun _=>PyData.list [.bool true,.bool false,.bool true]) (List.range 4) (by simp -implicitDefEqProofs only[(evA),show rng1 [.int 4]=_ from fM (n:=4) (by decide)]) (by decide) fun k hk => ?_
  show eF yR (aC (eV 0) (aC (eV 1) (aC (eV 2) (aC (e2 ixD (eB mkL (aC (eV 3) (aC (eV 4) aN))) (e2 modI (eV 5) (eC (.int 2)))) aN)))) [some (.int (k:Int)),some (.tuple ds),some (tI bs),some (tI xs),some (tI ys),some (.int c)]=_
  have r:=fun zs:List Int=>yO2 (x:=true) (y:=false) (c:=tI zs) (List.mem_range.mp hk) (yS2 (xs:=zs) (by rw[hl];exact h)) (by decide) (by rw[jJ,if_pos (by decide)];rfl) (by rw[jJ,if_pos (by decide)];rfl) (by rw[jJ,if_pos (by decide)];rfl)
  have a0:∀x y:D,atI [x,y] 0=some x:=fun _ _=>rfl
  have a1:∀x y:D,atI [x,y] 1=some y:=fun _ _=>rfl
  have r0:=Int.emod_nonneg c (show (2:Int)≠0 by decide)
  have r1:=Int.emod_lt_of_pos c (show (0:Int)<2 by decide)
  rcases (show c%2=0\/c%2=1 by bv_omega) with m | m
  ·simp -implicitDefEqProofs only[(evA),modO,if_pos (show (0:Int)<2 by decide),m,a0,r]
  ·simp -implicitDefEqProofs only[(evA),modO,if_pos (show (0:Int)<2 by decide),m,a1,r]
 have nn:neD (.list [.list [.bool true,.bool false,.bool true],.list [.bool true,.bool false,.bool true],.list [.bool true,.bool false,.bool true],.list [.bool true,.bool false,.bool true]]) (.list [.list [.bool true,.bool false,.bool true],.list [.bool true,.bool false,.bool true],.list [.bool true,.bool false,.bool true],.list [.bool true,.bool false,.bool true]])=some false:=rfl
 unfold lwJ
 simp -implicitDefEqProofs only[(evA),cc,rep4,nn]
end
theorem law_true (ns:List Int) (h:ns.length<=63):zI3 [.list (ns.map PyData.int)]=.ok (.bool true):=by
 show (zG1 [some (lI ns),none,none,none,none,none,none,none]).bind (fin false)=_
 obtain⟨n,ops,h1,h2,q,eg⟩:=zR9 ns
 obtain⟨t,P,ep⟩:=zB1 ns q h1 (show n<=6 by bv_omega)
 have hd0:((List.range n).map t).length=n:=by rw[List.length_map,List.length_range]
 have rr:=fun {xs ys:List Int}{out:List (Nat×List Rv)}(w:WrP n ops t xs ys out)=>zI7 w P q h1 (show n<=6 by bv_omega)
 have gt:gT 2 (gsC (gN 1) (gsC (gN 2) gsN)) (.tuple [.int (n:Int),tI ops]) [some (lI ns),none,none,none,none,none,none,none]=some [some (lI ns),some (.int (n:Int)),some (tI ops),none,none,none,none,none]:=rfl
 have hl:(ns.map PyData.int).length=ns.length:=List.length_map ..
 have c1:cutD (ns.map PyData.int) (some 1) (some 41)=(cutD ns (some 1) (some 41)).map PyData.int:=kN ..
 have cl:(cutD ns (some 1) (some 41)).length<=63:=by
  unfold cutD
  rw[List.length_take,List.length_drop]
  bv_omega
 generalize cutD ns (some 1) (some 41)=ms at c1 cl
 have c2:catL (.list [.int (ns.length:Int)]) (.list (ms.map PyData.int))=_:=yJ3 (xs:=[(ns.length:Int)]) (ys:=ms) (by simp;bv_omega)
 rw[xQ2]
 simp -implicitDefEqProofs only[(evA),eg,gt,ep,hl,c1,c2]
 refine yH4 (fun i ρ=>∃a b c d,ρ=[some (lI ns),some (.int (n:Int)),some (tI ops),some (.tuple ((List.range n).map t)),a,b,c,d]) ⟨none,none,none,none,rfl⟩ ?_ ?_
 ·rintro i d ρ hd ⟨a4,a5,a6,a7,rfl⟩
  rw[List.getElem?_map] at hd
  obtain⟨c,_,rfl⟩:=Option.map_eq_some_iff.mp hd
  have eo:=zM9 c (m:=n) (by bv_omega)
  have o:=zU4 n c
  generalize ordP n c=xs at eo o
  obtain⟨zs,out,w⟩:=yM6 P q (show n<=6 by bv_omega) o
  obtain⟨m,m1,m2,em⟩:=xU2 (n:=n) (c:=c) (u0:=some (lI ns)) (u2:=some (tI ops)) (u3:=some (.tuple ((List.range n).map t))) (u5:=some (tI xs)) (u6:=a6) (u7:=a7) h1
  have e7:=zM9 c (m:=m) (by bv_omega)
  have o7:=zU4 m c
  generalize ordP m c=ys at e7 o7
  obtain⟨bs,hb,eb⟩:=yW5 q h1 (show n<=60 by bv_omega) c
  have ei:=xZ2 (ns:=ns) (xs:=xs) (bs:=bs) (c:=c) q hd0 h1 (show n<=60 by bv_omega) (show ys.length≠((List.range n).map t).length by rw[o7.len,hd0];exact m2)
  have ej:=yB5 (ns:=ns) (ops:=ops) (xs:=xs) (ys:=ys) (c:=c) hd0 hb
  refine⟨_,rhoL ns ops xs ys bs n ((List.range n).map t) c,rfl,?_,_,_,_,_,rfl⟩
  simp -implicitDefEqProofs only[(evA),eo,rr w,em,e7,eb,ei,ej]
 ·rintro ρ ⟨a,b,c,d,rfl⟩
  simp -implicitDefEqProofs only[(evA)]
end K28
open PySem PySem.W PyProof.Rows
theorem K28.big_mk {K:KFr}{a_BadOpenings a_BadOrder a_BoxError:PySem.Addr}(n_BadOpenings:PySem.W.nsIn K PySem.mainGlobals "BadOpenings" = some (some (.ref a_BadOpenings))) (n_BadOrder:PySem.W.nsIn K PySem.mainGlobals "BadOrder" = some (some (.ref a_BadOrder))) (n_BoxError:PySem.W.nsIn K PySem.mainGlobals "BoxError" = some (some (.ref a_BoxError))) (o_BadOrder:PySem.W.excIn K a_BadOrder L2.L3.bmV "ValueError.__new__" = true) (g1_BadOrder:PySem.W.findIn K (.ref a_BadOrder) "__getattribute__" = some (some (.builtin "BaseException.__getattribute__"))) (g2_BadOrder:PySem.W.findIn K (.ref a_BadOrder) "__getattr__" = some none) (g3_BadOrder:PySem.W.findIn K (.ref a_BadOrder) "__class__" = some (some (.builtin "object.__class__"))) (g4_BadOrder:PySem.W.kitOne K (.ref a_BadOrder) (.type "BaseException")=some true) (g5_BadOrder:PySem.W.kitOne K (.ref a_BadOrder) (.type "object")=some true) (g6_BadOrder:(PySem.W.clsIn K a_BadOrder).isSome=true) (o_BadOpenings:PySem.W.excIn K a_BadOpenings L2.L3.bmV "ValueError.__new__" = true) (g1_BadOpenings:PySem.W.findIn K (.ref a_BadOpenings) "__getattribute__" = some (some (.builtin "BaseException.__getattribute__"))) (g2_BadOpenings:PySem.W.findIn K (.ref a_BadOpenings) "__getattr__" = some none) (g3_BadOpenings:PySem.W.findIn K (.ref a_BadOpenings) "__class__" = some (some (.builtin "object.__class__"))) (g4_BadOpenings:PySem.W.kitOne K (.ref a_BadOpenings) (.type "BaseException")=some true) (g5_BadOpenings:PySem.W.kitOne K (.ref a_BadOpenings) (.type "object")=some true) (g6_BadOpenings:(PySem.W.clsIn K a_BadOpenings).isSome=true) (z_BadOpenings:PySem.W.kitOne K (.type "NoneType") (.ref a_BadOpenings)=some false) (t_BadOrder_BadOpenings:PySem.W.kitOne K (.ref a_BadOrder) (.ref a_BadOpenings)=some false) (t_BadOpenings_BadOpenings:PySem.W.kitOne K (.ref a_BadOpenings) (.ref a_BadOpenings)=some true) (z_BadOrder:PySem.W.kitOne K (.type "NoneType") (.ref a_BadOrder)=some false) (t_BadOrder_BadOrder:PySem.W.kitOne K (.ref a_BadOrder) (.ref a_BadOrder)=some true) (t_BadOpenings_BadOrder:PySem.W.kitOne K (.ref a_BadOpenings) (.ref a_BadOrder)=some false) (z_ValueError:PySem.W.kitOne K (.type "NoneType") (.type "ValueError")=some false) (t_BadOrder_ValueError:PySem.W.kitOne K (.ref a_BadOrder) (.type "ValueError")=some true) (t_BadOpenings_ValueError:PySem.W.kitOne K (.ref a_BadOpenings) (.type "ValueError")=some true) (b_BoxError:PySem.W.kitOne K (.ref a_BoxError) (.type "BaseException")=some true) (c_BadOrder_BoxError:PySem.W.kitOne K (.ref a_BadOrder) (.ref a_BoxError)=some true) (d_BadOrder_BoxError:(PySem.Value.ref a_BadOrder == PySem.Value.ref a_BoxError)=false) (c_BadOpenings_BoxError:PySem.W.kitOne K (.ref a_BadOpenings) (.ref a_BoxError)=some true) (d_BadOpenings_BoxError:(PySem.Value.ref a_BadOpenings == PySem.Value.ref a_BoxError)=false):∃a_BadOpenings a_BadOrder a_BoxError:PySem.Addr,(PySem.W.nsIn K PySem.mainGlobals "BadOpenings" = some (some (.ref a_BadOpenings)))/\(PySem.W.nsIn K PySem.mainGlobals "BadOrder" = some (some (.ref a_BadOrder)))/\(PySem.W.nsIn K PySem.mainGlobals "BoxError" = some (some (.ref a_BoxError)))/\(PySem.W.excIn K a_BadOrder L2.L3.bmV "ValueError.__new__" = true)/\(PySem.W.findIn K (.ref a_BadOrder) "__getattribute__" = some (some (.builtin "BaseException.__getattribute__")))/\(PySem.W.findIn K (.ref a_BadOrder) "__getattr__" = some none)/\(PySem.W.findIn K (.ref a_BadOrder) "__class__" = some (some (.builtin "object.__class__")))/\(PySem.W.kitOne K (.ref a_BadOrder) (.type "BaseException")=some true)/\(PySem.W.kitOne K (.ref a_BadOrder) (.type "object")=some true)/\((PySem.W.clsIn K a_BadOrder).isSome=true)/\(PySem.W.excIn K a_BadOpenings L2.L3.bmV "ValueError.__new__" = true)/\(PySem.W.findIn K (.ref a_BadOpenings) "__getattribute__" = some (some (.builtin "BaseException.__getattribute__")))/\(PySem.W.findIn K (.ref a_BadOpenings) "__getattr__" = some none)/\(PySem.W.findIn K (.ref a_BadOpenings) "__class__" = some (some (.builtin "object.__class__")))/\(PySem.W.kitOne K (.ref a_BadOpenings) (.type "BaseException")=some true)/\(PySem.W.kitOne K (.ref a_BadOpenings) (.type "object")=some true)/\((PySem.W.clsIn K a_BadOpenings).isSome=true)/\(PySem.W.kitOne K (.type "NoneType") (.ref a_BadOpenings)=some false)/\(PySem.W.kitOne K (.ref a_BadOrder) (.ref a_BadOpenings)=some false)/\(PySem.W.kitOne K (.ref a_BadOpenings) (.ref a_BadOpenings)=some true)/\(PySem.W.kitOne K (.type "NoneType") (.ref a_BadOrder)=some false)/\(PySem.W.kitOne K (.ref a_BadOrder) (.ref a_BadOrder)=some true)/\(PySem.W.kitOne K (.ref a_BadOpenings) (.ref a_BadOrder)=some false)/\(PySem.W.kitOne K (.type "NoneType") (.type "ValueError")=some false)/\(PySem.W.kitOne K (.ref a_BadOrder) (.type "ValueError")=some true)/\(PySem.W.kitOne K (.ref a_BadOpenings) (.type "ValueError")=some true)/\(PySem.W.kitOne K (.ref a_BoxError) (.type "BaseException")=some true)/\(PySem.W.kitOne K (.ref a_BadOrder) (.ref a_BoxError)=some true)/\((PySem.Value.ref a_BadOrder == PySem.Value.ref a_BoxError)=false)/\(PySem.W.kitOne K (.ref a_BadOpenings) (.ref a_BoxError)=some true)/\((PySem.Value.ref a_BadOpenings == PySem.Value.ref a_BoxError)=false):=⟨a_BadOpenings,a_BadOrder,a_BoxError,n_BadOpenings,n_BadOrder,n_BoxError,o_BadOrder,g1_BadOrder,g2_BadOrder,g3_BadOrder,g4_BadOrder,g5_BadOrder,g6_BadOrder,o_BadOpenings,g1_BadOpenings,g2_BadOpenings,g3_BadOpenings,g4_BadOpenings,g5_BadOpenings,g6_BadOpenings,z_BadOpenings,t_BadOrder_BadOpenings,t_BadOpenings_BadOpenings,z_BadOrder,t_BadOrder_BadOrder,t_BadOpenings_BadOrder,z_ValueError,t_BadOrder_ValueError,t_BadOpenings_ValueError,b_BoxError,c_BadOrder_BoxError,d_BadOrder_BoxError,c_BadOpenings_BoxError,d_BadOpenings_BoxError⟩
set_option maxRecDepth 100000 in
set_option maxHeartbeats 0 in
theorem PySem.Challenge.cw_ownboxes_k28_turns_of_the_open_game_holds : PySem.Challenge.rw_ownboxes_k28_turns_of_the_open_game.Holds := by
 w_on;o_law;k_head; (case hw=>w_witness2)
 k_fill
 refine L2.L3.zC4 (F:=K28.zI3) (k:=12) (l:=PySem.Challenge.rw_ownboxes_k28_turns_of_the_open_game) K28.law_true ⟨rfl,by decide,by decide⟩ rfl rfl (fun w h Y=>PySem.W.km_in_of Y) (fun w=>by rfl) ?F ?TT
 case TT=>exact L2.zD5 (fun w=>by rfl) (fun w=>by kernel_rfl) (fun w=>by kernel_rfl)
 case F =>
  intro w mg fa h KX G hmg
  letI cn:L2.L3.CN:=L2.L3.cnOf (L2.KOf KX)
  have D_is_order:∃f fd,L2.Has (L2.KOf KX) mg "is_order" K28.vF f fd ["names"]:=by
   dsimp only[L2.KOf]
   refine' ⟨_,_,L2.zA KX G ?a ?l ?c ?k ?b⟩
   (case a=>k_is); (case l=>k_is); (case c=>k_is); (case k=>k_is)
   (case b=>intro _ _ _ _ _ _;refine L2.L3.ls1 ?_;exact fun _=>rfl)
  have D_order_by:∃f fd,L2.Has (L2.KOf KX) mg "order_by" K28.vE f fd ["rings"]:=by
   dsimp only[L2.KOf]
   refine' ⟨_,_,L2.zA KX G ?a ?l ?c ?k ?b⟩
   (case a=>k_is); (case l=>k_is); (case c=>k_is); (case k=>k_is)
   (case b=>intro _ _ _ _ _ _;refine L2.L3.ls1 ?_;exact fun _=>rfl)
  have D_made_openings:∃f fd,L2.Has (L2.KOf KX) mg "made_openings" K28.xM f fd ["people","numbers"]:=by
   dsimp only[L2.KOf]
   refine' ⟨_,_,L2.zA KX G ?a ?l ?c ?k ?b⟩
   (case a=>k_is); (case l=>k_is); (case c=>k_is); (case k=>k_is)
   (case b=>intro _ _ _ _ _ _;refine L2.L3.ls2 ?_;exact fun _ _=>rfl)
  have D_check_boxes:∃f fd,L2.Has (L2.KOf KX) mg "check_boxes" K28.xH f fd ["plan","order"]:=by
   dsimp only[L2.KOf]
   refine' ⟨_,_,L2.zA KX G ?a ?l ?c ?k ?b⟩
   (case a=>k_is); (case l=>k_is); (case c=>k_is); (case k=>k_is)
   (case b=>intro _ _ _ _ _ _;refine L2.L3.ls2 ?_;exact fun _ _=>rfl)
  have D_check_game:∃f fd,L2.Has (L2.KOf KX) mg "check_game" K28.wR f fd ["plan","openings","order"]:=by
   dsimp only[L2.KOf]
   refine' ⟨_,_,L2.zA KX G ?a ?l ?c ?k ?b⟩
   (case a=>k_is); (case l=>k_is); (case c=>k_is); (case k=>k_is)
   (case b=>intro _ _ _ _ _ _;refine L2.L3.ls3 ?_;exact fun _ _ _=>rfl)
  have D_one_turn:∃f fd,L2.Has (L2.KOf KX) mg "one_turn" K28.qW f fd ["tree","person","seen","name_in"]:=by
   dsimp only[L2.KOf]
   refine' ⟨_,_,L2.zA KX G ?a ?l ?c ?k ?b⟩
   (case a=>k_is); (case l=>k_is); (case c=>k_is); (case k=>k_is)
   (case b=>intro _ _ _ _ _ _;refine L2.L3.ls4 ?_;exact fun _ _ _ _=>rfl)
  have D_played:∃f fd,L2.Has (L2.KOf KX) mg "played" K28.vZ f fd ["plan","openings","name_in"]:=by
   dsimp only[L2.KOf]
   refine' ⟨_,_,L2.zA KX G ?a ?l ?c ?k ?b⟩
   (case a=>k_is); (case l=>k_is); (case c=>k_is); (case k=>k_is)
   (case b=>intro _ _ _ _ _ _;refine L2.L3.ls3 ?_;exact fun _ _ _=>rfl)
  have D_turns:∃f fd,L2.Has (L2.KOf KX) mg "turns" K28.vA f fd ["plan","openings","order"]:=by
   dsimp only[L2.KOf]
   refine' ⟨_,_,L2.zA KX G ?a ?l ?c ?k ?b⟩
   (case a=>k_is); (case l=>k_is); (case c=>k_is); (case k=>k_is)
   (case b=>intro _ _ _ _ _ _;refine L2.L3.ls3 ?_;exact fun _ _ _=>rfl)
  have D_won:∃f fd,L2.Has (L2.KOf KX) mg "won" K28.fN f fd ["plan","openings","order"]:=by
   dsimp only[L2.KOf]
   refine' ⟨_,_,L2.zA KX G ?a ?l ?c ?k ?b⟩
   (case a=>k_is); (case l=>k_is); (case c=>k_is); (case k=>k_is)
   (case b=>intro _ _ _ _ _ _;refine L2.L3.ls3 ?_;exact fun _ _ _=>rfl)
  have D_written:∃f fd,L2.Has (L2.KOf KX) mg "written" K28.vR f fd ["plan","openings","order"]:=by
   dsimp only[L2.KOf]
   refine' ⟨_,_,L2.zA KX G ?a ?l ?c ?k ?b⟩
   (case a=>k_is); (case l=>k_is); (case c=>k_is); (case k=>k_is)
   (case b=>intro _ _ _ _ _ _;refine L2.L3.ls3 ?_;exact fun _ _ _=>rfl)
  have D_unwritten:∃f fd,L2.Has (L2.KOf KX) mg "unwritten" K28.xK f fd ["plan","openings","order"]:=by
   dsimp only[L2.KOf]
   refine' ⟨_,_,L2.zA KX G ?a ?l ?c ?k ?b⟩
   (case a=>k_is); (case l=>k_is); (case c=>k_is); (case k=>k_is)
   (case b=>intro _ _ _ _ _ _;refine L2.L3.ls3 ?_;exact fun _ _ _=>rfl)
  have D_l_cell_at:∃f fd,L2.Has (L2.KOf KX) mg "_law_cell_at" K28.uO f fd ["script","k"]:=by
   dsimp only[L2.KOf]
   refine' ⟨_,_,L2.zA KX G ?a ?l ?c ?k ?b⟩
   (case a=>k_is); (case l=>k_is); (case c=>k_is); (case k=>k_is)
   (case b=>intro _ _ _ _ _ _;refine L2.L3.ls2 ?_;exact fun _ _=>rfl)
  have D_l_sums:∃f fd,L2.Has (L2.KOf KX) mg "_law_sums" K28.qI f fd ["script","start","many"]:=by
   dsimp only[L2.KOf]
   refine' ⟨_,_,L2.zA KX G ?a ?l ?c ?k ?b⟩
   (case a=>k_is); (case l=>k_is); (case c=>k_is); (case k=>k_is)
   (case b=>intro _ _ _ _ _ _;refine L2.L3.ls3 ?_;exact fun _ _ _=>rfl)
  have D_l_take:∃f fd,L2.Has (L2.KOf KX) mg "_law_take" K28.kD f fd ["pot","many"]:=by
   dsimp only[L2.KOf]
   refine' ⟨_,_,L2.zA KX G ?a ?l ?c ?k ?b⟩
   (case a=>k_is); (case l=>k_is); (case c=>k_is); (case k=>k_is)
   (case b=>intro _ _ _ _ _ _;refine L2.L3.ls2 ?_;exact fun _ _=>rfl)
  have D_l_order:∃f fd,L2.Has (L2.KOf KX) mg "_law_order" K28.uE f fd ["pot","people"]:=by
   dsimp only[L2.KOf]
   refine' ⟨_,_,L2.zA KX G ?a ?l ?c ?k ?b⟩
   (case a=>k_is); (case l=>k_is); (case c=>k_is); (case k=>k_is)
   (case b=>intro _ _ _ _ _ _;refine L2.L3.ls2 ?_;exact fun _ _=>rfl)
  have D_l_openings:∃f fd,L2.Has (L2.KOf KX) mg "_law_openings" K28.wU f fd ["pot","people"]:=by
   dsimp only[L2.KOf]
   refine' ⟨_,_,L2.zA KX G ?a ?l ?c ?k ?b⟩
   (case a=>k_is); (case l=>k_is); (case c=>k_is); (case k=>k_is)
   (case b=>intro _ _ _ _ _ _;refine L2.L3.ls2 ?_;exact fun _ _=>rfl)
  have D_l_tree:∃f fd,L2.Has (L2.KOf KX) mg "_law_tree" K28.uY f fd ["pot","people","left","boxes","names","thin"]:=by
   dsimp only[L2.KOf]
   refine' ⟨_,_,L2.zA KX G ?a ?l ?c ?k ?b⟩
   (case a=>k_is); (case l=>k_is); (case c=>k_is); (case k=>k_is)
   (case b=>intro _ _ _ _ _ _;refine L2.L3.ls6 ?_;exact fun _ _ _ _ _ _=>rfl)
  have D_l_plan:∃f fd,L2.Has (L2.KOf KX) mg "_law_plan" K28.qK f fd ["script","people","openings"]:=by
   dsimp only[L2.KOf]
   refine' ⟨_,_,L2.zA KX G ?a ?l ?c ?k ?b⟩
   (case a=>k_is); (case l=>k_is); (case c=>k_is); (case k=>k_is)
   (case b=>intro _ _ _ _ _ _;refine L2.L3.ls3 ?_;exact fun _ _ _=>rfl)
  have D_l_ground:∃f fd,L2.Has (L2.KOf KX) mg "_law_ground" K28.wK f fd ["script"]:=by
   dsimp only[L2.KOf]
   refine' ⟨_,_,L2.zA KX G ?a ?l ?c ?k ?b⟩
   (case a=>k_is); (case l=>k_is); (case c=>k_is); (case k=>k_is)
   (case b=>intro _ _ _ _ _ _;refine L2.L3.ls1 ?_;exact fun _=>rfl)
  have D_l_whole:∃f fd,L2.Has (L2.KOf KX) mg "_law_whole" K28.uG f fd ["found"]:=by
   dsimp only[L2.KOf]
   refine' ⟨_,_,L2.zA KX G ?a ?l ?c ?k ?b⟩
   (case a=>k_is); (case l=>k_is); (case c=>k_is); (case k=>k_is)
   (case b=>intro _ _ _ _ _ _;refine L2.L3.ls1 ?_;exact fun _=>rfl)
  have D_l_turns:∃f fd,L2.Has (L2.KOf KX) mg "_law_turns" K28.xO f fd ["plan","openings","order"]:=by
   dsimp only[L2.KOf]
   refine' ⟨_,_,L2.zA KX G ?a ?l ?c ?k ?b⟩
   (case a=>k_is); (case l=>k_is); (case c=>k_is); (case k=>k_is)
   (case b=>intro _ _ _ _ _ _;refine L2.L3.ls3 ?_;exact fun _ _ _=>rfl)
  have D_l_refused:∃f fd,L2.Has (L2.KOf KX) mg "_law_refused" K28.wG f fd ["way","plan","openings","order"]:=by
   dsimp only[L2.KOf]
   refine' ⟨_,_,L2.zA KX G ?a ?l ?c ?k ?b⟩
   (case a=>k_is); (case l=>k_is); (case c=>k_is); (case k=>k_is)
   (case b=>intro _ _ _ _ _ _;refine L2.L3.ls4 ?_;exact fun _ _ _ _=>rfl)
  have D_l_bad_openings:∃f fd,L2.Has (L2.KOf KX) mg "_law_bad_openings" K28.xX f fd ["openings","cell"]:=by
   dsimp only[L2.KOf]
   refine' ⟨_,_,L2.zA KX G ?a ?l ?c ?k ?b⟩
   (case a=>k_is); (case l=>k_is); (case c=>k_is); (case k=>k_is)
   (case b=>intro _ _ _ _ _ _;refine L2.L3.ls2 ?_;exact fun _ _=>rfl)
  have D_l_right:∃f fd,L2.Has (L2.KOf KX) mg "_law_right" K28.vU f fd ["plan","openings","order"]:=by
   dsimp only[L2.KOf]
   refine' ⟨_,_,L2.zA KX G ?a ?l ?c ?k ?b⟩
   (case a=>k_is); (case l=>k_is); (case c=>k_is); (case k=>k_is)
   (case b=>intro _ _ _ _ _ _;refine L2.L3.ls3 ?_;exact fun _ _ _=>rfl)
  have D_law:∃f fd,L2.Has (L2.KOf KX) mg "law" K28.kM f fd ["script"]/\(∀(s:Shared) (u:Value),BindsTo s fd ⟨[u],[]⟩ [("script",u)]):=by
   dsimp only[L2.KOf]
   refine' ⟨_,_,L2.zA KX G ?a ?l ?c ?k ?b,?d⟩
   (case a=>k_is); (case l=>k_is); (case c=>k_is); (case k=>k_is)
   (case b=>intro _ _ _ _ _ _;refine L2.L3.ls1 ?_;exact fun _=>rfl)
   (case d=>exact fun s u=>.of_eq rfl)
  have BIG:∃a_BadOpenings a_BadOrder a_BoxError:PySem.Addr,(PySem.W.nsIn (L2.KOf KX) PySem.mainGlobals "BadOpenings" = some (some (.ref a_BadOpenings)))/\(PySem.W.nsIn (L2.KOf KX) PySem.mainGlobals "BadOrder" = some (some (.ref a_BadOrder)))/\(PySem.W.nsIn (L2.KOf KX) PySem.mainGlobals "BoxError" = some (some (.ref a_BoxError)))/\(PySem.W.excIn (L2.KOf KX) a_BadOrder L2.L3.bmV "ValueError.__new__" = true)/\(PySem.W.findIn (L2.KOf KX) (.ref a_BadOrder) "__getattribute__" = some (some (.builtin "BaseException.__getattribute__")))/\(PySem.W.findIn (L2.KOf KX) (.ref a_BadOrder) "__getattr__" = some none)/\(PySem.W.findIn (L2.KOf KX) (.ref a_BadOrder) "__class__" = some (some (.builtin "object.__class__")))/\(PySem.W.kitOne (L2.KOf KX) (.ref a_BadOrder) (.type "BaseException")=some true)/\(PySem.W.kitOne (L2.KOf KX) (.ref a_BadOrder) (.type "object")=some true)/\((PySem.W.clsIn (L2.KOf KX) a_BadOrder).isSome=true)/\(PySem.W.excIn (L2.KOf KX) a_BadOpenings L2.L3.bmV "ValueError.__new__" = true)/\(PySem.W.findIn (L2.KOf KX) (.ref a_BadOpenings) "__getattribute__" = some (some (.builtin "BaseException.__getattribute__")))/\(PySem.W.findIn (L2.KOf KX) (.ref a_BadOpenings) "__getattr__" = some none)/\(PySem.W.findIn (L2.KOf KX) (.ref a_BadOpenings) "__class__" = some (some (.builtin "object.__class__")))/\(PySem.W.kitOne (L2.KOf KX) (.ref a_BadOpenings) (.type "BaseException")=some true)/\(PySem.W.kitOne (L2.KOf KX) (.ref a_BadOpenings) (.type "object")=some true)/\((PySem.W.clsIn (L2.KOf KX) a_BadOpenings).isSome=true)/\(PySem.W.kitOne (L2.KOf KX) (.type "NoneType") (.ref a_BadOpenings)=some false)/\(PySem.W.kitOne (L2.KOf KX) (.ref a_BadOrder) (.ref a_BadOpenings)=some false)/\(PySem.W.kitOne (L2.KOf KX) (.ref a_BadOpenings) (.ref a_BadOpenings)=some true)/\(PySem.W.kitOne (L2.KOf KX) (.type "NoneType") (.ref a_BadOrder)=some false)/\(PySem.W.kitOne (L2.KOf KX) (.ref a_BadOrder) (.ref a_BadOrder)=some true)/\(PySem.W.kitOne (L2.KOf KX) (.ref a_BadOpenings) (.ref a_BadOrder)=some false)/\(PySem.W.kitOne (L2.KOf KX) (.type "NoneType") (.type "ValueError")=some false)/\(PySem.W.kitOne (L2.KOf KX) (.ref a_BadOrder) (.type "ValueError")=some true)/\(PySem.W.kitOne (L2.KOf KX) (.ref a_BadOpenings) (.type "ValueError")=some true)/\(PySem.W.kitOne (L2.KOf KX) (.ref a_BoxError) (.type "BaseException")=some true)/\(PySem.W.kitOne (L2.KOf KX) (.ref a_BadOrder) (.ref a_BoxError)=some true)/\((PySem.Value.ref a_BadOrder == PySem.Value.ref a_BoxError)=false)/\(PySem.W.kitOne (L2.KOf KX) (.ref a_BadOpenings) (.ref a_BoxError)=some true)/\((PySem.Value.ref a_BadOpenings == PySem.Value.ref a_BoxError)=false):=by
   dsimp only[L2.KOf]
   refine' K28.big_mk ?q_n_BadOpenings ?q_n_BadOrder ?q_n_BoxError ?q_o_BadOrder ?q_g1_BadOrder ?q_g2_BadOrder ?q_g3_BadOrder ?q_g4_BadOrder ?q_g5_BadOrder ?q_g6_BadOrder ?q_o_BadOpenings ?q_g1_BadOpenings ?q_g2_BadOpenings ?q_g3_BadOpenings ?q_g4_BadOpenings ?q_g5_BadOpenings ?q_g6_BadOpenings ?q_z_BadOpenings ?q_t_BadOrder_BadOpenings ?q_t_BadOpenings_BadOpenings ?q_z_BadOrder ?q_t_BadOrder_BadOrder ?q_t_BadOpenings_BadOrder ?q_z_ValueError ?q_t_BadOrder_ValueError ?q_t_BadOpenings_ValueError ?q_b_BoxError ?q_c_BadOrder_BoxError ?q_d_BadOrder_BoxError ?q_c_BadOpenings_BoxError ?q_d_BadOpenings_BoxError
   (case q_n_BadOpenings=>k_is)
   (case q_n_BadOrder=>k_is)
   (case q_n_BoxError=>k_is)
   (case q_o_BadOrder=>k_exc)
   (case q_g1_BadOrder=>k_is)
   (case q_g2_BadOrder=>k_is)
   (case q_g3_BadOrder=>k_is)
   (case q_g4_BadOrder=>kit_is)
   (case q_g5_BadOrder=>kit_is)
   (case q_g6_BadOrder=>first | k_is | rfl | decide +kernel)
   (case q_o_BadOpenings=>k_exc)
   (case q_g1_BadOpenings=>k_is)
   (case q_g2_BadOpenings=>k_is)
   (case q_g3_BadOpenings=>k_is)
   (case q_g4_BadOpenings=>kit_is)
   (case q_g5_BadOpenings=>kit_is)
   (case q_g6_BadOpenings=>first | k_is | rfl | decide +kernel)
   (case q_z_BadOpenings=>kit_is)
   (case q_t_BadOrder_BadOpenings=>kit_is)
   (case q_t_BadOpenings_BadOpenings=>kit_is)
   (case q_z_BadOrder=>kit_is)
   (case q_t_BadOrder_BadOrder=>kit_is)
   (case q_t_BadOpenings_BadOrder=>kit_is)
   (case q_z_ValueError=>kit_is)
   (case q_t_BadOrder_ValueError=>kit_is)
   (case q_t_BadOpenings_ValueError=>kit_is)
   (case q_b_BoxError=>kit_is)
   (case q_c_BadOrder_BoxError=>kit_is)
   (case q_d_BadOrder_BoxError=>decide)
   (case q_c_BadOpenings_BoxError=>kit_is)
   (case q_d_BadOpenings_BoxError=>decide)
  obtain⟨a_BadOpenings,a_BadOrder,a_BoxError,n_BadOpenings,n_BadOrder,n_BoxError,o_BadOrder,g1_BadOrder,g2_BadOrder,g3_BadOrder,g4_BadOrder,g5_BadOrder,g6_BadOrder,o_BadOpenings,g1_BadOpenings,g2_BadOpenings,g3_BadOpenings,g4_BadOpenings,g5_BadOpenings,g6_BadOpenings,z_BadOpenings,t_BadOrder_BadOpenings,t_BadOpenings_BadOpenings,z_BadOrder,t_BadOrder_BadOrder,t_BadOpenings_BadOrder,z_ValueError,t_BadOrder_ValueError,t_BadOpenings_ValueError,b_BoxError,c_BadOrder_BoxError,d_BadOrder_BoxError,c_BadOpenings_BoxError,d_BadOpenings_BoxError⟩:=BIG
  have e_BadOpenings:L2.L3.CN.ad "BadOpenings" = a_BadOpenings:=L2.L3.zH5 n_BadOpenings
  have e_BadOrder:L2.L3.CN.ad "BadOrder" = a_BadOrder:=L2.L3.zH5 n_BadOrder
  have e_BoxError:L2.L3.CN.ad "BoxError" = a_BoxError:=L2.L3.zH5 n_BoxError
  have k_BadOrder:PySem.ExK (L2.KOf KX) (L2.L3.CN.ad "BadOrder"):=by rw[e_BadOrder];exact⟨g1_BadOrder,g2_BadOrder,g3_BadOrder,L2.L3.jI g4_BadOrder,L2.L3.jI g5_BadOrder,g6_BadOrder⟩
  have k_BadOpenings:PySem.ExK (L2.KOf KX) (L2.L3.CN.ad "BadOpenings"):=by rw[e_BadOpenings];exact⟨g1_BadOpenings,g2_BadOpenings,g3_BadOpenings,L2.L3.jI g4_BadOpenings,L2.L3.jI g5_BadOpenings,g6_BadOpenings⟩
  have A_played:(PySem.W.tabIn (L2.KOf KX) "played").isSome=true:=by
   dsimp only[L2.KOf]
   kernel_rfl
  have B_played:∃c P,PySem.W.tabIn (L2.KOf KX) "played" = some (c,P)/\∀f fd,L2.Has (L2.KOf KX) mg "played" K28.vZ f fd ["plan","openings","name_in"]->fd.code=.ref c:=L2.fQ KX G A_played
  have A_turns:(PySem.W.tabIn (L2.KOf KX) "turns").isSome=true:=by
   dsimp only[L2.KOf]
   kernel_rfl
  have uR:∃c P,PySem.W.tabIn (L2.KOf KX) "turns" = some (c,P)/\∀f fd,L2.Has (L2.KOf KX) mg "turns" K28.vA f fd ["plan","openings","order"]->fd.code=.ref c:=L2.fQ KX G A_turns
  have A_unwritten:(PySem.W.tabIn (L2.KOf KX) "unwritten").isSome=true:=by
   dsimp only[L2.KOf]
   kernel_rfl
  have wH:∃c P,PySem.W.tabIn (L2.KOf KX) "unwritten" = some (c,P)/\∀f fd,L2.Has (L2.KOf KX) mg "unwritten" K28.xK f fd ["plan","openings","order"]->fd.code=.ref c:=L2.fQ KX G A_unwritten
  have A_l_turns:(PySem.W.tabIn (L2.KOf KX) "_law_turns").isSome=true:=by
   dsimp only[L2.KOf]
   kernel_rfl
  have uH:∃c P,PySem.W.tabIn (L2.KOf KX) "_law_turns" = some (c,P)/\∀f fd,L2.Has (L2.KOf KX) mg "_law_turns" K28.xO f fd ["plan","openings","order"]->fd.code=.ref c:=L2.fQ KX G A_l_turns
  have T:K28.Txt (L2.KOf KX) mg:=by
   dsimp only[L2.KOf]
   refine' ⟨PySem.W.mg_none_of KX G ?z0,PySem.W.mg_none_of KX G ?z1,PySem.W.mg_none_of KX G ?z2,PySem.W.mg_none_of KX G ?z3,PySem.W.mg_none_of KX G ?z4,PySem.W.mg_none_of KX G ?z5,PySem.W.mg_none_of KX G ?z6,PySem.W.mg_none_of KX G ?z7,PySem.W.mg_none_of KX G ?z8,PySem.W.mg_none_of KX G ?z9,PySem.W.mg_none_of KX G ?z10,PySem.W.mg_none_of KX G ?z11,PySem.W.mg_none_of KX G ?z12,⟨_,PySem.W.mg_of KX G ?y0,?x0⟩,⟨?k0_0,?k0_1,?k0_2,?k0_3,?k0_4,?k0_5⟩,⟨?k1_0,?k1_1,?k1_2,?k1_3,?k1_4,?k1_5⟩,⟨?k2_0,?k2_1,?k2_2,?k2_3,?k2_4,?k2_5⟩,⟨?k3_0,?k3_1,?k3_2,?k3_3,?k3_4,?k3_5⟩,D_is_order,D_order_by,D_made_openings,D_check_boxes,D_check_game,D_one_turn,D_played,D_turns,D_won,D_written,D_unwritten,D_l_cell_at,D_l_sums,D_l_take,D_l_order,D_l_openings,D_l_tree,D_l_plan,D_l_ground,D_l_whole,D_l_turns,D_l_refused,D_l_bad_openings,D_l_right,(let ⟨f,fd,h,_⟩:=D_law; ⟨f,fd,h⟩),B_played,uR,wH,uH,?xa0,?xa1,?xa2,?xb0,?xb1,?xc0,?xc1,?xd0,?xe0,?xf0⟩
   (case z0=>k_is)
   (case z1=>k_is)
   (case z2=>k_is)
   (case z3=>k_is)
   (case z4=>k_is)
   (case z5=>k_is)
   (case z6=>k_is)
   (case z7=>k_is)
   (case z8=>k_is)
   (case z9=>k_is)
   (case z10=>k_is)
   (case z11=>k_is)
   (case z12=>k_is)
   (case y0=>k_is); (case x0=>exact⟨_,rfl⟩)
   (case k0_0=>first | kit_is | rfl)
   (case k0_1=>first | kit_is | rfl)
   (case k0_2=>first | kit_is | rfl)
   (case k0_3=>first | kit_is | rfl)
   (case k0_4=>first | kit_is | rfl)
   (case k0_5=>first | kit_is | rfl)
   (case k1_0=>first | kit_is | rfl)
   (case k1_1=>first | kit_is | rfl)
   (case k1_2=>first | kit_is | rfl)
   (case k1_3=>first | kit_is | rfl)
   (case k1_4=>first | kit_is | rfl)
   (case k1_5=>first | kit_is | rfl)
   (case k2_0=>first | kit_is | rfl)
   (case k2_1=>first | kit_is | rfl)
   (case k2_2=>first | kit_is | rfl)
   (case k2_3=>first | kit_is | rfl)
   (case k2_4=>first | kit_is | rfl)
   (case k2_5=>first | kit_is | rfl)
   (case k3_0=>first | kit_is | rfl)
   (case k3_1=>first | kit_is | rfl)
   (case k3_2=>first | kit_is | rfl)
   (case k3_3=>first | kit_is | rfl)
   (case k3_4=>first | kit_is | rfl)
   (case k3_5=>first | kit_is | rfl)
   (case xa0=>rw[e_BadOpenings];exact PySem.W.mg_of KX G n_BadOpenings)
   (case xa1=>rw[e_BadOrder];exact PySem.W.mg_of KX G n_BadOrder)
   (case xa2=>rw[e_BoxError];exact PySem.W.mg_of KX G n_BoxError)
   (case xb0=>unfold L2.L3.OwnX;rw[e_BadOpenings];exact o_BadOpenings)
   (case xb1=>unfold L2.L3.OwnX;rw[e_BadOrder];exact o_BadOrder)
   (case xc0=>exact L2.L3.zV1 (by rw[e_BadOpenings];exact z_BadOpenings) (List.forall_mem_cons.2 ⟨⟨k_BadOrder,by rw[e_BadOrder,e_BadOpenings];exact t_BadOrder_BadOpenings.trans (congrArg some (by decide))⟩,(List.forall_mem_cons.2 ⟨⟨k_BadOpenings,by rw[e_BadOpenings];exact t_BadOpenings_BadOpenings.trans (congrArg some (by decide))⟩,(fun _ h=>nomatch h)⟩)⟩))
   (case xc1=>exact L2.L3.zV1 (by rw[e_BadOrder];exact z_BadOrder) (List.forall_mem_cons.2 ⟨⟨k_BadOrder,by rw[e_BadOrder];exact t_BadOrder_BadOrder.trans (congrArg some (by decide))⟩,(List.forall_mem_cons.2 ⟨⟨k_BadOpenings,by rw[e_BadOpenings,e_BadOrder];exact t_BadOpenings_BadOrder.trans (congrArg some (by decide))⟩,(fun _ h=>nomatch h)⟩)⟩))
   (case xd0=>exact L2.L3.zV1 z_ValueError (List.forall_mem_cons.2 ⟨⟨k_BadOrder,by rw[e_BadOrder];exact t_BadOrder_ValueError.trans (congrArg some (by decide))⟩,(List.forall_mem_cons.2 ⟨⟨k_BadOpenings,by rw[e_BadOpenings];exact t_BadOpenings_ValueError.trans (congrArg some (by decide))⟩,(fun _ h=>nomatch h)⟩)⟩))
   (case xe0=>exact L2.L3.xV7 (List.forall_mem_cons.2 ⟨by rw[e_BadOrder,e_BoxError];exact L2.L3.gM c_BadOrder_BoxError d_BadOrder_BoxError,(List.forall_mem_cons.2 ⟨by rw[e_BadOpenings,e_BoxError];exact L2.L3.gM c_BadOpenings_BoxError d_BadOpenings_BoxError,(fun _ h=>nomatch h)⟩)⟩))
   (case xf0=>rw[e_BoxError];exact L2.L3.jI b_BoxError)
  obtain⟨fl,fdl,HL,HB⟩:=D_law
  have e0:=hmg.symm.trans HL.m
  cases e0
  exact⟨fdl,HB,fun base kb nb=>K28.yB9 T HL⟩
#print axioms PySem.Challenge.cw_ownboxes_k28_turns_of_the_open_game_holds