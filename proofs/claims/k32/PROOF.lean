import PyProof.Rows.All
import Wide.All
import OpenK.AllK
import Wide.FinOn
import Lean
import PyProof.EqAt
import PyProof.EqKinds
import PyProof.TupleCall
import KE.KSortTup
import KE.KSortAsk
import PyProof.Rows.SortWalk
import PySem.Challenge.RW_ownboxes_k32_whole_each_order_is_written
set_option compiler.extract_closed false
theorem xT4 (_h:True:=by exact fun _ _ _ q=>q):True:=trivial
theorem gE (_h:True:=by first | exact .inl rfl | exact .inr rfl | assumption):True:=trivial
theorem zL (_h:True:=by decide):True:=trivial
theorem xT5 (_h:True:=by first | exact nobehind _ (by decide) (by decide) | rfl):True:=trivial
theorem xB (_h:True:=by intro _;rfl):True:=trivial
theorem zZ (_h:True:=by rfl):True:=trivial
theorem bW (_h:True:=by with_unfolding_all rfl):True:=trivial
theorem qE (_h:True:=by first | exact Or.inl rfl | exact Or.inr (Or.inl rfl) | exact Or.inr (Or.inr rfl)):True:=trivial
theorem yC6 (_h:True:=by exact fun _ _=>rfl):True:=trivial
theorem zI7 (_h:True:=by first | exact nomark _ | rfl):True:=trivial
theorem autoK12 (_h:True:=by first | exact Or.inl rfl | exact Or.inr rfl):True:=trivial
theorem autoK13 (_h:True:=by first | exact .inl rfl | exact .inr rfl):True:=trivial
theorem autoK14 (_h:True:=by exact PassesOwn.never):True:=trivial
local macro_rules | `(tactic| bv_omega)=>`(tactic| first | lia | omega)
set_option Elab.async false
set_option linter.all false
set_option maxRecDepth 100000
set_option maxHeartbeats 4000000
noncomputable section
abbrev KFr:=PySem.W.Frag
namespace L2
open PySem PySem.Spec PyProof.Rows
abbrev Key:=Sum Int Str
def keyIs:Key->Value->Bool
 | .inl k,v=>Value.isInt k v
 | .inr x,v=>Value.isStrOf x v
def keyH (w:World):Key->Int
 | .inl k=>hashInt k
 | .inr x=>hashStr w x
theorem yP:∀{k:Key}{v:Value},keyIs k v=true->(∃i t,k=Sum.inl i/\v=Value.int i t)\/(∃x t,k=Sum.inr x/\v=Value.str x t)
 | .inl i,v,h=>by
  obtain⟨t,e⟩:=Value.isInt_shape (k:=i) (v:=v) h
  exact .inl ⟨i,t,rfl,e⟩
 | .inr x,v,h=>by
  obtain⟨t,e⟩:=Value.isStrOf_shape (x:=x) (v:=v) h
  exact .inr ⟨x,t,rfl,e⟩
theorem yB2 (a b:Int):decide ((Sum.inl a:Key)=Sum.inl b)=(a == b):=by
 by_cases e:a=b
 ·subst e;simp
 ·have h:¬(Sum.inl a:Key)=Sum.inl b:=fun q=>e (Sum.inl.inj q)
  rw[decide_eq_false h]
  exact (beq_eq_false_iff_ne.mpr e).symm
theorem xT1 (a b:Str):decide ((Sum.inr a:Key)=Sum.inr b)=decide (a=b):=by
 by_cases e:a=b
 ·subst e;simp
 ·have h:¬(Sum.inr a:Key)=Sum.inr b:=fun q=>e (Sum.inr.inj q)
  rw[decide_eq_false h,decide_eq_false e]
theorem yB6 (a:Int) (b:Str):decide ((Sum.inl a:Key)=Sum.inr b)=false:=decide_eq_false (fun q=>nomatch q)
theorem xV3 (a:Str) (b:Int):decide ((Sum.inr a:Key)=Sum.inl b)=false:=decide_eq_false (fun q=>nomatch q)
def mixKind (prog:Program) (w:World):PySem.KeyKind prog w Key where
 is:=keyIs
 hash:=keyH w
 inj:=fun v a b ha hb=>by
  rcases yP ha with ⟨i,t,rfl,rfl⟩ | ⟨x,t,rfl,rfl⟩
  ·rcases yP hb with ⟨j,u,rfl,e⟩ | ⟨y,u,rfl,e⟩
   ·injection e with e1 _;rw[e1]
   ·exact nomatch e
  ·rcases yP hb with ⟨j,u,rfl,e⟩ | ⟨y,u,rfl,e⟩
   ·exact nomatch e
   ·injection e with e1 _;rw[e1]
 byValue:=fun k v h=>by
  rcases yP h with ⟨i,t,rfl,rfl⟩ | ⟨x,t,rfl,rfl⟩ <;> rfl
 pyHash:=fun hv h=>by
  rcases yP hv with ⟨i,t,rfl,rfl⟩ | ⟨x,t,rfl,rfl⟩
  ·exact wpAny_pyHash_int h
  ·exact wpAny_pyHash_str h
 eqBool:=fun hu hv h=>by
  rcases yP hu with ⟨i,t,rfl,rfl⟩ | ⟨x,t,rfl,rfl⟩
  ·rcases yP hv with ⟨j,u,rfl,rfl⟩ | ⟨y,u,rfl,rfl⟩
   ·rw[yB2] at h;exact wpAny_eqBool_int h
   ·rw[yB6] at h;exact SeqAt.EqAt.int_str i t y u _ _ _ _ h
  ·rcases yP hv with ⟨j,u,rfl,rfl⟩ | ⟨y,u,rfl,rfl⟩
   ·rw[xV3] at h;exact SeqAt.EqAt.str_int x t j u _ _ _ _ h
   ·rw[xT1] at h;exact wpAny_eqBool_str h
 «strs»:=fun k x t v h=>by
  rcases yP h with ⟨i,u,rfl,e⟩ | ⟨y,u,rfl,e⟩
  ·exact nomatch e
  ·injection e with e1 _
   subst e1
   cases v <;> rfl
inductive V where
 | non | bl (b:Bool) | int (i:Int) | str (x:Str) | byt (b:Array UInt8) | flt (b:UInt64) | ref (a:Addr) | ty (n:String)
 deriving DecidableEq
def RelV:V->Value->Prop
 | .non,u=>u=Value.none
 | .bl b,u=>u=Value.bool b
 | .int i,u=>∃t,u=Value.int i t
 | .str x,u=>∃t,u=Value.str x t
 | .byt b,u=>∃t,u=Value.bytes b t
 | .flt b,u=>∃t,u=Value.float b t
 | .ref a,u=>u=Value.ref a
 | .ty n,u=>u=Value.type n
abbrev Vals:List V->List Value->Prop:=Paired RelV
theorem Vals.length {xs:List V}{us:List Value}(r:Vals xs us):xs.length=us.length:=Paired.length r
theorem Vals.get:∀{xs:List V}{us:List Value}{i:Nat}{x:V},Vals xs us->xs[i]?=some x->∃u,us[i]?=some u/\RelV x u
 | _,_,_,_,.nil,e=>by simp at e
 | _,_,0,_,.cons r _,e=>by simp at e;subst e;exact⟨_,rfl,r⟩
 | _,_,i+1,x,.cons _ t,e=>by
  obtain⟨u,h1,h2⟩:=Vals.get (i:=i) (x:=x) t (by simpa using e)
  exact⟨u,by simpa using h1,h2⟩
theorem Vals.set {x:V}{u:Value}(r:RelV x u):∀{xs:List V}{us:List Value}(i:Nat),Vals xs us->Vals (xs.set i x) (us.set i u)
 | _,_,_,.nil=>.nil
 | _,_,0,.cons _ t=>.cons r t
 | _,_,i+1,.cons q t=>.cons q (Vals.set r i t)
theorem Vals.append:∀{xs ys:List V}{us ws:List Value},Vals xs us->Vals ys ws->Vals (xs++ys) (us++ws)
 | _,_,_,_,.nil,s=>s
 | _,_,_,_,.cons r t,s=>.cons r (Vals.append t s)
theorem Vals.take:∀{xs:List V}{us:List Value}(n:Nat),Vals xs us->Vals (xs.take n) (us.take n)
 | _,_,0,_=>.nil
 | _,_,_+1,.nil=>.nil
 | _,_,n+1,.cons r t=>.cons r (Vals.take n t)
theorem Vals.drop:∀{xs:List V}{us:List Value}(n:Nat),Vals xs us->Vals (xs.drop n) (us.drop n)
 | _,_,0,r=>r
 | _,_,_+1,.nil=>.nil
 | _,_,n+1,.cons _ t=>Vals.drop n t
theorem Vals.xN2:∀{xs:List V}{us:List Value}{i:Nat},Vals xs us->xs[i]?=none->us[i]?=none:=fun {xs us i} r e=>by
 have h1:=r.length
 have h2:xs.length<=i:=List.getElem?_eq_none_iff.mp e
 exact List.getElem?_eq_none_iff.mpr (by bv_omega)
def RelO:Option V->Option Value->Prop
 | some v,some u=>RelV v u
 | none,none=>True
 | _,_=>False
def KV {κ:Type}:List (κ×V)->List (κ×Value)->Prop:=Paired fun (p:κ×V) (q:κ×Value)=>p.1=q.1/\RelV p.2 q.2
def kV:Key->V
 | .inl i=>.int i
 | .inr x=>.str x
inductive HO where
 | lst (xs:List V)
 | tup (xs:List V)
 | dK (kvs:List (Key×V)) | dT (kvs:List (List Key×V))
 | set (S:Int->Bool) (n:Nat)
 | ins (C dx:Addr) (fs:List (Str×V))
 | own (x:Addr)
 | xd (fs:List (Str×V))
 | met (f x:Addr)
 | rng (lo hi:Int)
 | frz (o:Obj) (u:HO)
 | tbl (q:Str)
 | ext (φ:Heap->Prop)
abbrev Hp:=Addr->Option HO
def upd (H:Hp) (a:Addr) (o:HO):Hp:=fun b=>if b=a then some o else H b
theorem zV {H:Hp}{a:Addr}{o:HO}:upd H a o a=some o:=by unfold upd;rw[if_pos rfl]
theorem zY {H:Hp}{a b:Addr}{o:HO}(h:b≠a):upd H a o b=H b:=by unfold upd;rw[if_neg h]
theorem zI6 {H:Hp}{a:Addr}{o u:HO}:upd (upd H a o) a u=upd H a u:=by
 funext b;unfold upd;split <;> rfl
theorem zF {H:Hp}{a b:Addr}{o:HO}(h:H a=some o) (h':H b=none):a≠b:=by
 intro e;subst e;rw[h] at h';cases h'
def TupAt (h:Heap) (a:Addr) (its:Array Value):Prop:=∃o,h.get? a=some o/\o.cls=.type "tuple"/\(∃n,o.data=.seq its n)/\o.dict=none
theorem TupAt.tup {h:Heap}{a:Addr}{its:Array Value}(x:TupAt h a its):IsTup h a its:=by
 obtain⟨o,e,c,d,_⟩:=x
 exact⟨o,e,c,d⟩
theorem TupAt.new (h:Heap) (its:Array Value):TupAt (h.push { cls:=.type "tuple",data:=.seq its }) h.objs.size its:=⟨_,Heap.get?_push_size _ rfl,rfl,⟨_,rfl⟩,rfl⟩
section
variable (P:Program) (w:World)
def ObjOk (H:Hp) (h:Heap) (a:Addr):HO->Prop
 | .lst xs=>xs.length<=sizeLine/\∃(its:List Value) (n:Nat),Vals xs its/\h.get? a=some { cls:=.type "list",data:=.seq its.toArray n }
 | .tup xs=>xs.length<=sizeLine/\∃its:List Value,Vals xs its/\TupAt h a its.toArray
 | .dK kvs=>kvs.length<=sizeLine/\(a == sysModules)=false/\∃vs,KV kvs vs/\h.DictOf (mixKind P w) a vs
 | .dT kvs=>kvs.length<=sizeLine/\(a == sysModules)=false/\∃xs:List (List Key×Addr×Value),
   Paired (fun (p:List Key×V) (q:List Key×Addr×Value)=>p.1=q.1/\H q.2.1=some (.tup (p.1.map kV))/\RelV p.2 q.2.2) kvs xs /\
   ∃o es ep,h.get? a=some o/\o.ExactDict/\o.data=.dict es ep/\es.toList=xs.map (entryOfKey (tupleKind (mixKind P w)))/\(xs.map (·.1)).Nodup
 | .set S n=>h.SetOf (intKind P w) a S n
 | .ins C dx fs=>H dx=some (.own a)/\fs.length<=1000/\dx≠a/\h.get? a=some (PySem.W.instObj C dx) /\
   ∃mA,h.Ns1 dx mA/\(∀f,RelO (fs.lookup f) (mA f))/\PySem.Within mA (fs.map (·.1))
 | .own _=>∃o,h.get? a=some o
 | .xd fs=>∃mA,h.Ns1 a mA/\∀f,RelO (fs.lookup f) (mA f)
 | .rng lo hi=>∃t u v,h.get? a=some { cls:=.type "range",data:=.fields #[.int lo t,.int hi u,.int 1 v] }
 | .frz o u=>h.get? a=some o/\ObjOk H h a u
 | .tbl q=>∃ps,h.get? a=some { cls:=.none,data:=.fields ps }/\TriplesOk ps.toList/\∀pos cv,codeAmong pos ps.toList=some cv->∃(c':Addr) (oc:Obj) (u:HO) (vs:Array Value) (t:Tok),cv=.ref c'/\H c'=some (.frz oc u)/\oc.data=.fields vs/\vs[1]?=some (.str q t)
 | .met f x=>h.get? a=some (PySem.W.methodObj (.ref f) (.ref x))
 | .ext φ=>φ h/\(∃o,h.get? a=some o)/\∀h1 h2:Heap,φ h1->(∀o,h1.get? a=some o->h2.get? a=some o)->φ h2
def HOk (H:Hp) (h:Heap):Prop:=∀a o,H a=some o->ObjOk P w H h a o
end
section
variable {P:Program}{w:World}{H H':Hp}{h h':Heap}{a:Addr}{o:HO}
theorem ObjOk.lt (x:ObjOk P w H h a o):a<h.objs.size:=by
 cases o with
 | lst xs=>obtain⟨_,_,_,_,e⟩:=x;exact Heap.lt_size e
 | tup xs=>obtain⟨_,_,_,p⟩:=x;exact p.tup.lt
 | dK kvs=>obtain⟨_,_,_,_,o,_,_,e,_⟩:=x;exact Heap.lt_size e
 | dT kvs=>obtain⟨_,_,_,_,o,_,_,e,_⟩:=x;exact Heap.lt_size e
 | set S n=>obtain⟨o,_,_,_,e,_⟩:=x;exact Heap.lt_size e
 | ins C dx fs=>obtain⟨_,_,_,e,_⟩:=x;exact Heap.lt_size e
 | own y=>obtain⟨_,e⟩:=x;exact Heap.lt_size e
 | xd fs=>obtain⟨_,⟨_,_,_,e,_⟩,_⟩:=x;exact Heap.lt_size e
 | rng lo hi=>obtain⟨_,_,_,e⟩:=x;exact Heap.lt_size e
 | frz ob u=>obtain⟨e,_⟩:=x;exact Heap.lt_size e
 | tbl q=>obtain⟨_,e,_⟩:=x;exact Heap.lt_size e
 | met f y=>exact Heap.lt_size (show h.get? a=some _ from x)
 | ext φ=>obtain⟨_,⟨_,e⟩,_⟩:=x;exact Heap.lt_size e
theorem Paired.mapP {α β:Type}{F G:α->β->Prop}:∀{l₁:List α}{l₂:List β},Paired F l₁ l₂->(∀a b,F a b->G a b)->Paired G l₁ l₂
 | _,_,.nil,_=>.nil
 | _,_,.cons r t,f=>.cons (f _ _ r) (Paired.mapP t f)
theorem ObjOk.stay (x:ObjOk P w H h a o) (k:∀b u,(b=a\/H b=some (.own a))->h.get? b=some u->h'.get? b=some u)
  (ho:∀b,H b=some (.own a)->H' b=some (.own a)) (ht:∀b xs,H b=some (.tup xs)->H' b=some (.tup xs)) (hf:autoParam (∀b o u,H b=some (.frz o u)->H' b=some (.frz o u)) xT4._auto_1):ObjOk P w H' h' a o:=by
 induction o with
 | lst xs=>obtain⟨z,its,n,r,e⟩:=x;exact⟨z,its,n,r,k _ _ (.inl rfl) e⟩
 | tup xs=>obtain⟨z,its,r,ob,e,c⟩:=x;exact⟨z,its,r,ob,k _ _ (.inl rfl) e,c⟩
 | dK kvs=>obtain⟨z,y,vs,r,ob,es,ep,e,c⟩:=x;exact⟨z,y,vs,r,ob,es,ep,k _ _ (.inl rfl) e,c⟩
 | dT kvs =>
  obtain⟨z,y,xs,r,ob,es,ep,e,c⟩:=x
  exact⟨z,y,xs,Paired.mapP r fun p q z=>⟨z.1,ht _ _ z.2.1,z.2.2⟩,ob,es,ep,k _ _ (.inl rfl) e,c⟩
 | set S n=>obtain⟨ob,es,ep,t,e,c⟩:=x;exact⟨ob,es,ep,t,k _ _ (.inl rfl) e,c⟩
 | ins C dx fs =>
  obtain⟨d,z,ne,e,mA,⟨od,es,ep,e2,c⟩,r⟩:=x
  exact⟨ho _ d,z,ne,k _ _ (.inl rfl) e,mA,⟨od,es,ep,k _ _ (.inr d) e2,c⟩,r⟩
 | own y=>obtain⟨ob,e⟩:=x;exact⟨ob,k _ _ (.inl rfl) e⟩
 | xd fs=>obtain⟨mA,⟨od,es,ep,e,c⟩,r⟩:=x;exact⟨mA,⟨od,es,ep,k _ _ (.inl rfl) e,c⟩,r⟩
 | rng lo hi=>obtain⟨t,u,v,e⟩:=x;exact⟨t,u,v,k _ _ (.inl rfl) e⟩
 | frz ob u ih=>obtain⟨e,q⟩:=x;exact⟨k _ _ (.inl rfl) e,ih q⟩
 | tbl q =>
  obtain⟨ps,e,t,c⟩:=x
  refine⟨ps,k a _ (.inl rfl) e,t,fun pos cv z => ?_⟩
  obtain⟨c',oc,u,vs,t',e1,e2,e3⟩:=c pos cv z
  exact⟨c',oc,u,vs,t',e1,hf _ _ _ e2,e3⟩
 | met f y =>
  have e:h.get? a=some (PySem.W.methodObj (.ref f) (.ref y)):=x
  show h'.get? a=some (PySem.W.methodObj (.ref f) (.ref y))
  exact k a _ (.inl rfl) e
 | ext φ=>obtain⟨p,⟨o,e⟩,st⟩:=x;exact⟨st _ _ p fun o q=>k _ _ (.inl rfl) q,⟨o,k _ _ (.inl rfl) e⟩,st⟩
theorem HOk.lt (x:HOk P w H h) (e:H a=some o):a<h.objs.size:=(x a o e).lt
theorem HOk.fresh (x:HOk P w H h) (e:h.objs.size<=a):H a=none:=by
 cases q:H a with
 | none=>rfl
 | some u=>exact absurd (Nat.lt_of_lt_of_le (x.lt q) e) (Nat.lt_irrefl _)
theorem HOk.kept (x:HOk P w H h) (k:∀b u,h.get? b=some u->h'.get? b=some u):HOk P w H h':=fun a o e =>
 (x a o e).stay (fun b u _ q=>k b u q) (fun _ q=>q) fun _ _ q=>q
theorem HOk.laid (x:HOk P w H h) (k:∀b u,h.get? b=some u->h'.get? b=some u) (hp:h.objs.size<=a) (new:ObjOk P w (upd H a o) h' a o):HOk P w (upd H a o) h':=fun b u e=>by
 have hn:=x.fresh hp
 by_cases hb:b=a
 ·subst hb;rw[zV] at e;cases e;exact new
 ·rw[zY hb] at e
  exact (x b u e).stay (fun c v _ q=>k c v q) (fun c q=>by rw[zY (zF q hn)];exact q) (fun c xs q=>by rw[zY (zF q hn)];exact q) fun c _ _ q=>by rw[zY (zF q hn)];exact q
end
def Rd (H:Hp) (a:Addr) (u:HO):Prop:=H a=some u\/∃o,H a=some (.frz o u)
theorem Rd.ok {P:Program}{w:World}{H:Hp}{h:Heap}{a:Addr}{u:HO}(r:Rd H a u) (x:HOk P w H h):ObjOk P w H h a u:=by
 rcases r with r | ⟨o,r⟩
 ·exact x a u r
 ·obtain⟨_,q⟩:=x a _ r
  exact q
def Mut:Option HO->Prop
 | some (.lst _)=>True
 | some (.dK _)=>True
 | some (.dT _)=>True
 | some (.set _ _)=>True
 | some (.ins _ _ _)=>True
 | some (.ext _)=>True
 | _=>False
section
variable {P:Program}{w:World}{H:Hp}{h h':Heap}{x e:Addr}{o':HO}
theorem HOk.write (ok:HOk P w H h) (mu:Mut (H x)) (he:e=x\/H e=some (.own x)) (k:∀b u,b≠e->h.get? b=some u->h'.get? b=some u) (heo:∃u,h'.get? e=some u)
  (new:ObjOk P w (upd H x o') h' x o'):HOk P w (upd H x o') h':=fun b u q=>by
 have nown:∀c y,H c=some (.own y)->c≠x:=fun c y r z=>by subst z;rw[r] at mu;exact mu
 have ntup:∀c xs,H c=some (.tup xs)->c≠x:=fun c xs r z=>by subst z;rw[r] at mu;exact mu
 have nfrz:∀c o xs,H c=some (.frz o xs)->c≠x:=fun c o xs r z=>by subst z;rw[r] at mu;exact mu
 by_cases hb:b=x
 ·subst hb;rw[zV] at q;cases q;exact new
 ·rw[zY hb] at q
  by_cases hbe:b=e
  ·have q':H b=some (.own x):=by
    rcases he with z | z
    ·exact absurd (hbe.trans z) hb
    ·rw[hbe];exact z
   rw[q] at q';cases q'
   obtain⟨v,hv⟩:=heo
   exact⟨v,by rw[hbe];exact hv⟩
  ·refine (ok b u q).stay (fun c v hc r=>k c v ?_ r) (fun c r=>by rw[zY (nown c b r)];exact r) (fun c xs r=>by rw[zY (ntup c xs r)];exact r) fun c o xs r=>by rw[zY (nfrz c o xs r)];exact r
   rcases hc with rfl | hc
   ·exact hbe
   ·rintro rfl
    rcases he with z | z
    ·exact nown c b hc z
    ·rw[hc] at z;cases z;exact hb rfl
end
structure Un (fs ex:List Addr) (H H':Hp) (h h':Heap):Prop where
 keep:∀b o,h.get? b=some o->H b=none->b∉fs->b∉ex->h'.get? b=some o
 slot:∀b o,h.get? b=some o->H b=none->b∈fs->b∉ex->∃sl,h'.get? b=some { o with slots:=sl }
 free:∀b o,h.get? b=some o->H b=none->b∉ex->H' b=none
 there:∀b o,h.get? b=some o->b∉ex->∃o',h'.get? b=some o'
 tups:∀b xs,H b=some (.tup xs)->H' b=some (.tup xs)
 frzs:∀b o u,H b=some (.frz o u)->H' b=some (.frz o u)
 tbls:∀b q,H b=some (.tbl q)->H' b=some (.tbl q)
section
variable {fs fs' ex ex':List Addr}{H H1 H2:Hp}{h h1 h2 h':Heap}{a x e:Addr}{o:HO}
theorem Un.any (u:Un fs ex H H1 h h1){b:Addr}{ob:Obj}(q:h.get? b=some ob) (n:H b=none) (hx:b∉ex):∃sl,h1.get? b=some { ob with slots:=sl }:=by
 by_cases hb:b∈fs
 ·exact u.slot b ob q n hb hx
 ·exact⟨ob.slots,u.keep b ob q n hb hx⟩
theorem Un.kept (k:∀b u,h.get? b=some u->h'.get? b=some u):Un fs ex H H h h' :=
 ⟨fun b ob q _ _ _=>k b ob q,fun b ob q _ _ _=>⟨ob.slots,k b ob q⟩,fun _ _ _ n _=>n,fun b ob q _=>⟨ob,k b ob q⟩,fun _ _ q=>q,fun _ _ _ q=>q,fun _ _ q=>q⟩
theorem Un.refl:Un fs ex H H h h:=Un.kept fun _ _ q=>q
theorem Un.laid (k:∀b u,h.get? b=some u->h'.get? b=some u) (hp:h.objs.size<=a) (hn:H a=none):Un fs ex H (upd H a o) h h' where
 keep:=fun b u q _ _ _=>k b u q
 slot:=fun b u q _ _ _=>⟨u.slots,k b u q⟩
 free:=fun b u q n _=>by rw[zY (Nat.ne_of_lt (Nat.lt_of_lt_of_le (Heap.lt_size q) hp))];exact n
 there:=fun b u q _=>⟨u,k b u q⟩
 tups:=fun b xs q=>by rw[zY (zF q hn)];exact q
 frzs:=fun b u xs q=>by rw[zY (zF q hn)];exact q
 tbls:=fun b ps q=>by rw[zY (zF q hn)];exact q
theorem Un.write (mu:Mut (H x)) (he:e=x\/H e=some (.own x)) (k:∀b u,b≠e->h.get? b=some u->h'.get? b=some u) (heo:∃u,h'.get? e=some u):Un fs ex H (upd H x o) h h':=by
 have hx:∀b,H b=none->b≠x:=fun b n z=>by subst z;rw[n] at mu;exact mu
 have hb:∀b,H b=none->b≠e:=fun b n z=>by
  subst z
  rcases he with r | r
  ·exact hx b n r
  ·rw[n] at r;cases r
 have hm:∀b u,H b=some u->¬Mut (some u)->b≠x:=fun b u q nm z=>by subst z;rw[q] at mu;exact nm mu
 refine⟨fun b u q n _ _=>k b u (hb b n) q,fun b u q n _ _=>⟨u.slots,k b u (hb b n) q⟩,fun b u q n _=>by rw[zY (hx b n)];exact n,fun b u q _ => ?_,
  fun b xs q=>by rw[zY (hm b _ q fun z=>z)];exact q,fun b u xs q=>by rw[zY (hm b _ q fun z=>z)];exact q,fun b ps q=>by rw[zY (hm b _ q fun z=>z)];exact q⟩
 by_cases hbe:b=e
 ·subst hbe;exact heo
 ·exact⟨u,k b u hbe q⟩
end
def trk (h:Heap) (H:Hp):List Addr:=(List.range h.objs.size).filter fun a=>(H a).isSome
def hidT (h:Heap) (H:Hp):Heap:=PySem.W.hideAll h (trk h H)
theorem yW7 (h:Heap) (H:Hp):(hidT h H).objs.size=h.objs.size:=PySem.W.hideAll_size _ _
theorem yT2 {h:Heap}{H:Hp}{b:Addr}{o:Obj}(e:h.get? b=some o) (n:H b=none):(hidT h H).get? b=some o :=
 PySem.W.hideAll_get _ e fun hm=>by
  have q:(H b).isSome=true:=(List.mem_filter.mp hm).2
  rw[n] at q;simp at q
theorem yG5 {h:Heap}{H:Hp}{b:Addr}{o:Obj}(e:(hidT h H).get? b=some o):h.get? b=some o/\H b=none:=by
 have e':h.get? b=some o:=PySem.W.of_hideAll (trk h H) e
 refine⟨e',?_⟩
 cases q:H b with
 | none=>rfl
 | some x =>
  have hm:b∈trk h H:=List.mem_filter.mpr ⟨List.mem_range.mpr (Heap.lt_size e'),by simp[q]⟩
  have z:(hidT h H).get? b=none:=PySem.W.hideAll_none (trk h H) hm
  rw[z] at e;cases e
def allNews (g h:Heap) (L:Addr):List (Addr×Obj):=(List.range h.objs.size).filterMap fun a=>if a=L\/(g.get? a).isSome=true then none else (h.get? a).map fun o=>(a,o)
theorem zO1 {g h:Heap}{L a:Addr}{o:Obj}(h1:a≠L) (h2:g.get? a=none) (h3:h.get? a=some o):(a,o)∈allNews g h L :=
 List.mem_filterMap.mpr ⟨a,List.mem_range.mpr (Heap.lt_size h3),by simp[h1,h2,h3]⟩
theorem bM {g h:Heap}{L:Addr}{p:Addr×Obj}(hp:p∈allNews g h L):p.1≠L/\g.get? p.1=none/\h.get? p.1=some p.2:=by
 obtain⟨b,_,e⟩:=List.mem_filterMap.mp hp
 split at e
 ·cases e
 ·rename_i hn
  cases q:h.get? b with
  | none=>rw[q] at e;simp at e
  | some u =>
   rw[q] at e
   simp only[Option.map_some,Option.some.injEq] at e
   subst e
   refine⟨fun z=>hn (.inl z),?_,q⟩
   show g.get? b=none
   cases r:g.get? b with
   | none=>rfl
   | some v=>exact (hn (.inr (by simp[r]))).elim
def rest (g h:Heap) (L d:Addr):List (Addr×Obj):=(allNews g h L).filter fun p=>decide (p.1≠d)
theorem fQ {g h:Heap}{L d:Addr}:∀p∈rest g h L d,p.1≠d:=fun p hp=>of_decide_eq_true (List.mem_filter.mp hp).2
theorem yV3 {g h:Heap}{L d a:Addr}{o:Obj}(h1:a≠L) (h2:g.get? a=none) (h3:h.get? a=some o) (h4:a≠d):(a,o)∈rest g h L d :=
 List.mem_filter.mpr ⟨zO1 h1 h2 h3,decide_eq_true h4⟩
theorem yV8 {g h:Heap}{L:Addr}:News g L h (allNews g h L):=fun p hp=>let ⟨a,b,c⟩:=bM hp; ⟨c,a,b⟩
theorem aY {g h:Heap}{L d:Addr}{o:Obj}(h1:d≠L) (h2:g.get? d=none) (h3:h.get? d=some o):News g L h ((d,o)::rest g h L d):=fun p hp=>by
 rcases List.mem_cons.mp hp with rfl | hp
 ·exact⟨h3,h1,h2⟩
 ·exact yV8 p (List.mem_filter.mp hp).1
theorem qI {g h h':Heap}{L d:Addr}{m:Str->Option Value}(k:∀b o,g.get? b=some o->h.get? b=some o) (F:Fr g L h' m) (N:News g L h' (rest g h L d)) :
  ∀b o,b≠L->b≠d->h.get? b=some o->h'.get? b=some o:=fun b o h1 h2 e=>by
 cases q:g.get? b with
 | some u =>
  have:=k b u q
  rw[e] at this;cases this
  exact F.keep b _ q
 | none=>exact (N (b,o) (yV3 h1 q e h2)).1
def tabNames:List Str:=["turns","unwritten","played","_law_turns"]
def lamQ (x:Str):Str:=x ++ ".<locals>." ++ "<lambda>"
def TabsIn (K:KFr) (H:Hp):Prop:=∀x∈tabNames,∀c P,PySem.W.tabIn K x=some (c,P)->H P=some (.tbl (lamQ x))
structure Mod (K:KFr) (mg:Str->Option Value) (base:Heap):Prop where
 tabs:∀x∈tabNames,∀c P,PySem.W.tabIn K x=some (c,P)->PySem.W.CodeHd base c P
 bmain:∃bm ob,mg "__builtins__" = some (.ref bm)/\bm≠builtinsNs/\base.get? bm=some ob/\ob.cls=.type "module"/\ob.dict=some builtinsNs/\ob.data=.plain
 kin:K.In base
 glob:base.Ns mainGlobals mg
 blt:∃mb,base.Ns builtinsNs mb/\∀x:Str,x ≠ "__name__"->mb x=bootBuiltins x
 nolimit:base.NoLimit
structure Cx where
 prog:Program
 w:World
 K:KFr
 mg:Str->Option Value
 base:Heap
 A:Around
 N:List Str
 s₀:Shared
 H₀:Hp
 env:Env
 outer:List Env
 stack:List Env
 ex:List Addr
 fn:Str->Bool
 calm:Bool
 pn:List (Addr×Obj)
 xe:Value->Shared->Prop
def frs (l:List Env):List Addr:=l.filterMap (·.frame)
abbrev Cx.fs (X:Cx):List Addr:=frs X.outer
def Vis (sc:Scope) (x:Str):Prop:=sc.names.lookup x=some .local \/ sc.names.lookup x=some .cell\/sc.names.lookup x=some .free
def Loc (sc:Scope) (x:Str):Prop:=sc.names.lookup x=some .local \/ sc.names.lookup x=some .cell
def Look (env:Env) (h:Heap) (m:Str->Option Value) (x:Str) (u:Value):Prop :=
 (env.kindOf x=some .local/\m x=some u)\/((env.kindOf x=some .cell\/env.kindOf x=some .free)/\∃c,env.cells.lookup x=some c/\h.IsCell c (some u))
structure Cx.Ok (X:Cx):Prop where
 mod:Mod X.K X.mg X.base
 kind:X.env.scope.kind=.function
 glob:X.env.globals=mainGlobals
 blt:X.env.builtins=builtinsNs
 above:X.s₀.heap.objs.size<=X.env.locals
 inj:∀x y c,X.env.cells.lookup x=some c->X.env.cells.lookup y=some c->x=y
 has:∀x,(X.env.kindOf x=some .cell\/X.env.kindOf x=some .free)->∃c,X.env.cells.lookup x=some c
 cab:∀x c,X.fn x=true->X.env.cells.lookup x=some c->X.s₀.heap.objs.size<=c
 hd:X.calm=true->X.A.handled=none
 frames:X.A.frames=some X.stack
 stk:X.stack=X.outer\/(X.stack=X.env::X.outer/\X.env.frame=some X.env.locals)
 exf:∀b∈X.ex,b≠X.env.locals/\∀x c,X.env.cells.lookup x=some c->c≠b
 bs:∀b o,X.base.get? b=some o->X.s₀.heap.get? b=some o/\X.H₀ b=none
 bsz:X.base.objs.size<=X.s₀.heap.objs.size
 noex:∀b o,X.base.get? b=some o->b∉X.ex
 exfs:∀b∈X.ex,b∉X.fs
 funs:X.s₀.heap.FunFrames X.base X.outer
 frf:∀b∈X.fs,X.H₀ b=none
 tb:TabsIn X.K X.H₀
structure Inv (X:Cx) (pins:List (Addr×Obj)) (σ:List (Option V)) (H:Hp) (s:Shared):Prop where
 ok:X.Ok
 os:s.os=X.s₀.os
 bare:AllBare s.gens
 base:Un X.fs X.ex X.H₀ H X.s₀.heap s.heap
 loc:∃m,s.heap.Ns X.env.locals m/\∀(i:Nat) (x:Str) (v:V),X.N[i]?=some x->σ[i]?=some (some v)->Vis X.env.scope x->∃u,RelV v u/\Look X.env s.heap m x u
 cell:∀x c,X.env.cells.lookup x=some c->∃v,s.heap.IsCell c v
 free:H X.env.locals=none
 freeC:∀x c,X.env.cells.lookup x=some c->H c=none
 pin:∀p∈X.pn++pins,s.heap.get? p.1=some p.2/\H p.1=none/\p.1≠X.env.locals/\p.1∉X.fs/\∀v,p.2.data ≠ .cell v
 hok:HOk X.prog X.w H s.heap
 len:σ.length=X.N.length
section
variable {X:Cx}{pins:List (Addr×Obj)}{σ:List (Option V)}{H H':Hp}{s:Shared}{h':Heap}
theorem Cx.Ok.nofr (ok:X.Ok){b:Addr}{o:Obj}(e:X.base.get? b=some o):b∉X.fs:=fun hb=>by
 have:=(ok.funs.mem hb).1
 rw[e] at this;cases this
theorem Inv.tb (I:Inv X pins σ H s):TabsIn X.K H:=fun x hx c P e=>I.base.tbls P _ (I.ok.tb x hx c P e)
theorem Inv.bs (I:Inv X pins σ H s):∀b o,X.base.get? b=some o->s.heap.get? b=some o/\H b=none:=fun b o e =>
 ⟨I.base.keep b o (I.ok.bs b o e).1 (I.ok.bs b o e).2 (I.ok.nofr e) (I.ok.noex b o e),I.base.free b o (I.ok.bs b o e).1 (I.ok.bs b o e).2 (I.ok.noex b o e)⟩
theorem Inv.bk (I:Inv X pins σ H s):∀b o,X.base.get? b=some o->s.heap.get? b=some o:=fun b o e=>(I.bs b o e).1
theorem Inv.mod (I:Inv X pins σ H s):Mod X.K X.mg X.base:=I.ok.mod
theorem Inv.kIn (I:Inv X pins σ H s):X.K.In s.heap:=I.ok.mod.kin.keeps I.bk
theorem Inv.lt (I:Inv X pins σ H s):X.env.locals<s.heap.objs.size:=let ⟨_,hn,_⟩:=I.loc;hn.lt
theorem Inv.sz (I:Inv X pins σ H s):X.s₀.heap.objs.size<=s.heap.objs.size:=Nat.le_trans I.ok.above (Nat.le_of_lt I.lt)
theorem Inv.nofs (I:Inv X pins σ H s){a:Addr}(h:s.heap.objs.size<=a):a∉X.fs:=fun hb=>by
 obtain⟨_,o,ho,_⟩:=I.ok.funs.mem hb
 exact absurd (Nat.lt_of_lt_of_le (Heap.lt_size ho) (Nat.le_trans I.sz h)) (Nat.lt_irrefl _)
theorem Inv.cne (I:Inv X pins σ H s):∀x c,X.env.cells.lookup x=some c->c≠X.env.locals:=fun x c e z=>by
 obtain⟨v,o,ho,hd⟩:=I.cell x c e
 obtain⟨m,⟨o',es,ep,ho',hd',_⟩,_⟩:=I.loc
 rw[z,ho'] at ho;cases ho;rw[hd'] at hd;cases hd
theorem Inv.funs (I:Inv X pins σ H s):s.heap.FunFrames X.base X.outer:=by
 have all:∀(l:List Env),(∀b∈frs l,b∈X.fs)->X.s₀.heap.FunFrames X.base l->s.heap.FunFrames X.base l:=by
  intro l
  induction l with
  | nil=>intro _ _;trivial
  | cons env r ih =>
   intro hs hl
   obtain⟨hk,⟨L,o,hf,hn,ho,hd⟩,hr⟩:=hl
   have hL:L∈X.fs:=hs L (by unfold frs;rw[List.filterMap_cons,hf];exact List.mem_cons_self)
   obtain⟨sl,e⟩:=I.base.slot L o ho (I.ok.frf L hL) hL fun z=>I.ok.exfs L z hL
   exact⟨hk,⟨L,_,hf,hn,e,hd⟩,ih (fun b hb=>hs b (by unfold frs;rw[List.filterMap_cons,hf];exact List.mem_cons_of_mem _ hb)) hr⟩
 exact all X.outer (fun _ hb=>hb) I.ok.funs
theorem Inv.stack (I:Inv X pins σ H s):s.heap.FunFrames X.base X.stack:=by
 rcases I.ok.stk with e | ⟨e,hf⟩
 ·rw[e];exact I.funs
 ·rw[e]
  obtain⟨m,hn,_⟩:=I.loc
  refine .cons (by rw[I.ok.kind];decide) hf hn ?_ I.funs
  exact Heap.get?_none_of_le (Nat.le_trans I.ok.bsz I.ok.above)
theorem Inv.stkSub (I:Inv X pins σ H s):∀b∈frs X.stack,b∈X.env.locals::X.fs:=fun b hb=>by
 rcases I.ok.stk with e | ⟨e,hf⟩
 ·rw[e] at hb;exact List.mem_cons_of_mem _ hb
 ·rw[e] at hb
  unfold frs at hb
  rw[List.filterMap_cons,hf] at hb
  exact hb
theorem Inv.stkFree (I:Inv X pins σ H s):∀b∈frs X.stack,H b=none:=fun b hb=>by
 rcases List.mem_cons.mp (I.stkSub b hb) with e | hb
 ·rw[e];exact I.free
 ·obtain⟨_,o,ho,_⟩:=I.ok.funs.mem hb
  exact I.base.free b o ho (I.ok.frf b hb) fun z=>I.ok.exfs b z hb
theorem Inv.step {g':Array GenState}{t':Nat}{d':Drawn}{ch:List Addr}(I:Inv X pins σ H s)
  (hch:∀b∈ch,(b∈X.ex\/X.s₀.heap.objs.size<=b)/\b≠X.env.locals/\(∀x c,X.env.cells.lookup x=some c->c≠b)/\∀p∈X.pn++pins,p.1≠b)
  (keep:∀b o,b≠X.env.locals->b∉X.fs->b∉ch->s.heap.get? b=some o->H b=none->h'.get? b=some o)
  (slot:∀b o,b≠X.env.locals->b∈X.fs->b∉ch->s.heap.get? b=some o->H b=none->∃sl,h'.get? b=some { o with slots:=sl }) (free:∀b o,b∉ch->s.heap.get? b=some o->H b=none->H' b=none)
  (there:∀b o,b∉ch->s.heap.get? b=some o->∃o',h'.get? b=some o')
  (tups:∀b xs,H b=some (.tup xs)->H' b=some (.tup xs)) (frzs:∀b o u,H b=some (.frz o u)->H' b=some (.frz o u)) (tbls:∀b q,H b=some (.tbl q)->H' b=some (.tbl q))
  (ns:∀m,s.heap.Ns X.env.locals m->h'.Ns X.env.locals m) (hok:HOk X.prog X.w H' h') (hg:AllBare g') :
  Inv X pins σ H' { s with heap:=h',gens:=g',drawn:=d',toks:=t' }:=by
 have neL:∀b o,X.s₀.heap.get? b=some o->b≠X.env.locals:=fun b o e=>Nat.ne_of_lt (Nat.lt_of_lt_of_le (Heap.lt_size e) I.ok.above)
 have neC:∀b o,X.s₀.heap.get? b=some o->b∉X.ex->b∉ch:=fun b o e hx hb=>by
  rcases (hch b hb).1 with z | z
  ·exact hx z
  ·exact absurd (Nat.lt_of_lt_of_le (Heap.lt_size e) z) (Nat.lt_irrefl _)
 have cellK:∀x c,X.env.cells.lookup x=some c->∀v,s.heap.IsCell c v->h'.IsCell c v:=fun x c e v ⟨o,ho,hd⟩=>by
  have nch:c∉ch:=fun z=>(hch c z).2.2.1 x c e rfl
  by_cases hc:c∈X.fs
  ·obtain⟨sl,q⟩:=slot c o (I.cne x c e) hc nch ho (I.freeC x c e)
   exact⟨_,q,hd⟩
  ·exact⟨o,keep c o (I.cne x c e) hc nch ho (I.freeC x c e),hd⟩
 refine⟨I.ok,I.os,hg,⟨fun b o e n hb hx => ?_,fun b o e n hb hx => ?_,fun b o e n hx => ?_,fun b o e hx => ?_,fun b xs e=>tups b xs (I.base.tups b xs e),fun b o xs e=>frzs b o xs (I.base.frzs b o xs e),fun b ps e=>tbls b ps (I.base.tbls b ps e)⟩,?_,fun x c e => ?_,?_,fun x c e => ?_,fun p hp => ?_,hok,I.len⟩
 ·exact keep b o (neL b o e) hb (neC b o e hx) (I.base.keep b o e n hb hx) (I.base.free b o e n hx)
 ·obtain⟨sl,e1⟩:=I.base.slot b o e n hb hx
  obtain⟨sl',e2⟩:=slot b _ (neL b o e) hb (neC b o e hx) e1 (I.base.free b o e n hx)
  exact⟨sl',e2⟩
 ·obtain⟨o',e1⟩:=I.base.there b o e hx
  exact free b o' (neC b o e hx) e1 (I.base.free b o e n hx)
 ·obtain⟨o',e1⟩:=I.base.there b o e hx
  exact there b o' (neC b o e hx) e1
 ·obtain⟨m,hn,hl⟩:=I.loc
  refine⟨m,ns m hn,fun i x v e1 e2 e3 => ?_⟩
  obtain⟨u,r,l⟩:=hl i x v e1 e2 e3
  refine⟨u,r,?_⟩
  rcases l with l | ⟨k,c,e,z⟩
  ·exact .inl l
  ·exact .inr ⟨k,c,e,cellK x c e _ z⟩
 ·obtain⟨v,z⟩:=I.cell x c e
  exact⟨v,cellK x c e v z⟩
 ·obtain⟨m,⟨o,_,_,ho,_⟩,_⟩:=I.loc
  exact free _ o (fun z=>(hch _ z).2.1 rfl) ho I.free
 ·obtain⟨v,o,ho,hd⟩:=I.cell x c e
  exact free c o (fun z=>(hch c z).2.2.1 x c e rfl) ho (I.freeC x c e)
 ·obtain⟨e,n,ne,nf,d⟩:=I.pin p hp
  have nch:p.1∉ch:=fun z=>(hch p.1 z).2.2.2 p hp rfl
  exact⟨keep p.1 p.2 ne nf nch e n,free p.1 p.2 nch e n,ne,nf,d⟩
theorem Inv.un {t':Nat}(I:Inv X pins σ H s) (u:Un X.fs [] H H' s.heap h') (hok:HOk X.prog X.w H' h'):Inv X pins σ H' { s with heap:=h',toks:=t' }:=by
 obtain⟨m,⟨o,es,ep,ho,r⟩,_⟩:=id I.loc
 obtain⟨sl,hL⟩:=u.any ho I.free (by simp)
 exact I.step (g':=s.gens) (d':=s.drawn) (ch:=[]) (fun _ z=>nomatch z) (fun b o _ hb _ e n=>u.keep b o e n hb (by simp)) (fun b o _ hb _ e n=>u.slot b o e n hb (by simp)) (fun b o _ e n=>u.free b o e n (by simp)) (fun b o _ e=>u.there b o e (by simp)) u.tups u.frzs u.tbls (fun m' hm=>by
  obtain⟨o',es',ep',ho',r'⟩:=hm
  rw[ho] at ho';cases ho'
  exact⟨_,es',ep',hL,r'⟩) hok I.bare
theorem Inv.call {g':Array GenState}{t':Nat}{d':Drawn}{ch:List Addr}(I:Inv X pins σ H s) (u:Un (frs X.stack) ch H H' s.heap h') (hok:HOk X.prog X.w H' h') (hg:AllBare g')
  (hch:∀b∈ch,(b∈X.ex\/X.s₀.heap.objs.size<=b)/\b≠X.env.locals/\(∀x c,X.env.cells.lookup x=some c->c≠b)/\∀p∈X.pn++pins,p.1≠b) :
  Inv X pins σ H' { s with heap:=h',gens:=g',drawn:=d',toks:=t' }:=by
 obtain⟨m,⟨o,es,ep,ho,r⟩,_⟩:=id I.loc
 obtain⟨sl,hL⟩:=u.any ho I.free fun z=>(hch _ z).2.1 rfl
 exact I.step (ch:=ch) hch (fun b o hL hb hc e n=>u.keep b o e n (fun z=>(List.mem_cons.mp (I.stkSub b z)).elim hL hb) hc) (fun b o _ _ hc e n=>u.any e n hc) (fun b o hc e n=>u.free b o e n hc) (fun b o hc e=>u.there b o e hc) u.tups u.frzs u.tbls (fun m' hm=>by
  obtain⟨o',es',ep',ho',r'⟩:=hm
  rw[ho] at ho';cases ho'
  exact⟨_,es',ep',hL,r'⟩) hok hg
theorem Inv.turned {t':Nat}{it:Addr}(I:Inv X pins σ H s) (k:∀b o,b≠it->s.heap.get? b=some o->h'.get? b=some o) (hn:H it=none) (hL:it≠X.env.locals)
  (h1:it∈X.ex\/X.s₀.heap.objs.size<=it) (h2:∀x c,X.env.cells.lookup x=some c->c≠it) (h3:∀p∈X.pn++pins,p.1≠it):Inv X pins σ H { s with heap:=h',toks:=t' }:=by
 have nit:∀b u,H b=some u->b≠it:=fun b u e z=>by rw[z,hn] at e;cases e
 refine I.step (g':=s.gens) (d':=s.drawn) (ch:=[it]) (fun b hb => ?_) (fun b o _ _ hc e _=>k b o (fun z=>hc (by simp[z])) e) (fun b o _ _ hc e _=>⟨o.slots,k b o (fun z=>hc (by simp[z])) e⟩) (fun _ _ _ _ n=>n)
  (fun b o hc e=>⟨o,k b o (fun z=>hc (by simp[z])) e⟩) (fun _ _ e=>e) (fun _ _ _ e=>e) (fun _ _ e=>e) (fun m hm => ?_) (fun b u e => ?_) I.bare
 ·have e:b=it:=by simpa using hb
  subst e
  exact⟨h1,hL,h2,h3⟩
 ·obtain⟨o,es,ep,ho,r⟩:=hm
  exact⟨o,es,ep,k _ o (Ne.symm hL) ho,r⟩
 ·refine (I.hok b u e).stay (fun c v hc q=>k c v ?_ q) (fun _ q=>q) fun _ _ q=>q
  rcases hc with z | z
  ·rw[z];exact nit b u e
  ·exact nit c _ z
theorem Inv.tok (I:Inv X pins σ H s) (t:Nat):Inv X pins σ H { s with toks:=t }:=I.un (h':=s.heap) (t':=t) Un.refl I.hok
theorem Inv.kept {t':Nat}(I:Inv X pins σ H s) (k:∀b u,s.heap.get? b=some u->h'.get? b=some u):Inv X pins σ H { s with heap:=h',toks:=t' }:=I.un (Un.kept k) (I.hok.kept k)
theorem Inv.laid {a:Addr}{o:HO}{t':Nat}(I:Inv X pins σ H s) (k:∀b u,s.heap.get? b=some u->h'.get? b=some u) (hp:s.heap.objs.size<=a) (new:ObjOk X.prog X.w (upd H a o) h' a o) :
  Inv X pins σ (upd H a o) { s with heap:=h',toks:=t' }:=I.un (Un.laid k hp (I.hok.fresh hp)) (I.hok.laid k hp new)
theorem Inv.write {x e:Addr}{o:HO}{t':Nat}(I:Inv X pins σ H s) (mu:Mut (H x)) (he:e=x\/H e=some (.own x)) (k:∀b u,b≠e->s.heap.get? b=some u->h'.get? b=some u) (heo:∃u,h'.get? e=some u)
  (new:ObjOk X.prog X.w (upd H x o) h' x o):Inv X pins σ (upd H x o) { s with heap:=h',toks:=t' }:=I.un (Un.write mu he k heo) (I.hok.write mu he k heo new)
theorem Inv.yC {pins':List (Addr×Obj)}(I:Inv X pins σ H s) (h:∀p∈pins',s.heap.get? p.1=some p.2/\H p.1=none/\p.1≠X.env.locals/\p.1∉X.fs/\∀v,p.2.data ≠ .cell v):Inv X pins' σ H s :=
 ⟨I.ok,I.os,I.bare,I.base,I.loc,I.cell,I.free,I.freeC,fun p hp=>(List.mem_append.mp hp).elim (fun z=>I.pin p (List.mem_append_left _ z)) (h p),I.hok,I.len⟩
theorem zV5 {N:List Str}(hN:N.Nodup){i j:Nat}{x:Str}(a:N[i]?=some x) (b:N[j]?=some x):i=j:=by
 obtain⟨h1,e1⟩:=List.getElem?_eq_some_iff.mp a
 obtain⟨h2,e2⟩:=List.getElem?_eq_some_iff.mp b
 exact (List.getElem_inj hN).mp (e1.trans e2.symm)
theorem zB7 {M:Model}{A:Around}{E:Value->Shared->Prop}{i:Nat}{x:Str}{v:V}{u:Value}{Q:Unit->Shared->Prop}(I:Inv X pins σ H s) (hN:X.N.Nodup) (hi:X.N[i]?=some x) (hx:Loc X.env.scope x) (r:RelV v u)
  (h:∀s',Inv X pins (σ.set i (some v)) H s'->(∃a,Heap.SameBut a s.heap s'.heap/\(a=X.env.locals\/X.env.cells.lookup x=some a))->Q () s') (hf:autoParam (X.fn x=true\/X.env.scope.names.lookup x=some .local) gE._auto_1):wpAny M A (storeName X.env x u) Q E s:=by
 obtain⟨m,hn,hl⟩:=id I.loc
 have hcls:(X.env.scope.kind == .class || (X.env.scope.kind == .module&&X.env.locals != X.env.globals))=false:=by rw[I.ok.kind];rfl
 have hiσ:i<σ.length:=by rw[I.len];exact (List.getElem?_eq_some_iff.mp hi).1
 have cne:=I.cne
 have tracked:∀{a:Addr}{h':Heap},(∃o,s.heap.get? a=some o/\H a=none)->Heap.SameBut a s.heap h'->HOk X.prog X.w H h':=fun {a h'} ha hs b ob e=>by
  obtain⟨_,_,hfree⟩:=ha
  refine (I.hok b ob e).stay (fun c w' hc q=>(hs.2 c ?_).trans q) (fun _ q=>q) fun _ _ q=>q
  rintro rfl
  rcases hc with rfl | hc
  ·rw[hfree] at e;cases e
  ·rw[hfree] at hc;cases hc
 rcases hx with hk | hk
 ·refine wpAny_storeName_local hk hn (fun h' hn' hs => ?_) hcls
  obtain⟨oL,_,_,hoL,_⟩:=id hn
  refine h _ ⟨I.ok,I.os,I.bare,⟨fun b o e n hb hx => ?_,fun b o e n hb hx => ?_,I.base.free,fun b o e hx => ?_,I.base.tups,I.base.frzs,I.base.tbls⟩,⟨_,hn',fun j y v' e1 e2 e3 => ?_⟩,fun y c e => ?_,I.free,I.freeC,fun p hp => ?_,tracked ⟨oL,hoL,I.free⟩ hs,by simpa using I.len⟩ ⟨_,hs,.inl rfl⟩
  ·exact (hs.2 b (Nat.ne_of_lt (Nat.lt_of_lt_of_le (Heap.lt_size e) I.ok.above))).trans (I.base.keep b o e n hb hx)
  ·obtain⟨sl,e1⟩:=I.base.slot b o e n hb hx
   exact⟨sl,(hs.2 b (Nat.ne_of_lt (Nat.lt_of_lt_of_le (Heap.lt_size e) I.ok.above))).trans e1⟩
  ·obtain⟨o',e1⟩:=I.base.there b o e hx
   exact⟨o',(hs.2 b (Nat.ne_of_lt (Nat.lt_of_lt_of_le (Heap.lt_size e) I.ok.above))).trans e1⟩
  ·by_cases hj:j=i
   ·subst hj
    rw[hi] at e1;cases e1
    rw[List.getElem?_set_self hiσ] at e2
    cases e2
    exact⟨u,r,.inl ⟨hk,by simp⟩⟩
   ·rw[List.getElem?_set_ne (Ne.symm hj)] at e2
    obtain⟨u',r',q⟩:=hl j y v' e1 e2 e3
    refine⟨u',r',?_⟩
    rcases q with ⟨k,e⟩ | ⟨k,c,e,z⟩
    ·refine .inl ⟨k,?_⟩
     have:y≠x:=fun e=>hj (zV5 hN e1 (e▸hi))
     simp[this,e]
    ·exact .inr ⟨k,c,e,z.sameBut hs (cne y c e)⟩
  ·obtain⟨w',z⟩:=I.cell y c e
   exact⟨w',z.sameBut hs (cne y c e)⟩
  ·obtain⟨e,n,ne,nf,d⟩:=I.pin p hp
   exact⟨(hs.2 p.1 ne).trans e,n,ne,nf,d⟩
 ·have hfn:X.fn x=true:=by
   rcases hf with z | z
   ·exact z
   ·rw[z] at hk;cases hk
  obtain⟨c,hc⟩:=I.ok.has x (.inl hk)
  obtain⟨w',z⟩:=I.cell x c hc
  refine wpAny_storeName_cell I.ok.kind hk hc z (fun h' hc' hs => ?_)
  obtain⟨oc,hoc,hocd⟩:=id z
  refine h { s with heap:=h' } ⟨I.ok,I.os,I.bare,⟨fun b o e n hb hx => ?_,fun b o e n hb hx => ?_,I.base.free,fun b o e hx => ?_,I.base.tups,I.base.frzs,I.base.tbls⟩,⟨m,hn.sameBut hs (Ne.symm (cne x c hc)),fun j y v' e1 e2 e3 => ?_⟩,fun y c' e => ?_,I.free,I.freeC,fun p hp => ?_,tracked ⟨oc,hoc,I.freeC x c hc⟩ hs,by simpa using I.len⟩ ⟨c,hs,.inr hc⟩
  ·exact (hs.2 b (Nat.ne_of_lt (Nat.lt_of_lt_of_le (Heap.lt_size e) (I.ok.cab x c hfn hc)))).trans (I.base.keep b o e n hb hx)
  ·obtain⟨sl,e1⟩:=I.base.slot b o e n hb hx
   exact⟨sl,(hs.2 b (Nat.ne_of_lt (Nat.lt_of_lt_of_le (Heap.lt_size e) (I.ok.cab x c hfn hc)))).trans e1⟩
  ·obtain⟨o',e1⟩:=I.base.there b o e hx
   exact⟨o',(hs.2 b (Nat.ne_of_lt (Nat.lt_of_lt_of_le (Heap.lt_size e) (I.ok.cab x c hfn hc)))).trans e1⟩
  ·by_cases hj:j=i
   ·subst hj
    rw[hi] at e1;cases e1
    rw[List.getElem?_set_self hiσ] at e2
    cases e2
    exact⟨u,r,.inr ⟨.inl hk,c,hc,hc'⟩⟩
   ·rw[List.getElem?_set_ne (Ne.symm hj)] at e2
    obtain⟨u',r',q⟩:=hl j y v' e1 e2 e3
    refine⟨u',r',?_⟩
    rcases q with q | ⟨k,c',e,z'⟩
    ·exact .inl q
    ·refine .inr ⟨k,c',e,z'.sameBut hs ?_⟩
     rintro rfl
     exact hj (zV5 hN e1 (I.ok.inj _ _ _ e hc▸hi))
  ·by_cases hcc:c'=c
   ·subst hcc;exact⟨_,hc'⟩
   ·obtain⟨w2,z2⟩:=I.cell y c' e
    exact⟨w2,z2.sameBut hs hcc⟩
  ·obtain⟨e,n,ne,nf,d⟩:=I.pin p hp
   refine⟨(hs.2 p.1 ?_).trans e,n,ne,nf,d⟩
   intro q
   rw[q,hoc] at e
   have q':oc=p.2:=Option.some.inj e
   exact d w' (by rw[<-q'];exact hocd)
theorem dI {M:Model}{A:Around}{E:Value->Shared->Prop}{i:Nat}{x:Str}{v:V}{u:Value}{Q:Unit->Shared->Prop}(I:Inv X pins σ H s) (hN:X.N.Nodup) (hi:X.N[i]?=some x) (hx:Loc X.env.scope x) (r:RelV v u)
  (h:∀s',Inv X pins (σ.set i (some v)) H s'->Q () s') (hf:autoParam (X.fn x=true\/X.env.scope.names.lookup x=some .local) gE._auto_1):wpAny M A (storeName X.env x u) Q E s :=
 zB7 I hN hi hx r (fun s' I' _=>h s' I') hf
end
abbrev XK:=Value->Option Addr->Hp->Prop
abbrev St:=List (Option V)
abbrev VK:=V->Hp->Prop
abbrev TE:=St->Hp->VK->Prop
abbrev TT:=St->Hp->(Bool->Hp->Prop)->Prop
abbrev TA:=St->Hp->(List V->Hp->Prop)->Prop
structure Ends where
 nx:St->Hp->Prop
 rt:VK
 bk:St->Hp->Prop:=fun _ _=>False
 ct:St->Hp->Prop:=fun _ _=>False
abbrev TS:=Ends->St->Hp->Prop
def EP (X:Cx) (pins:List (Addr×Obj)) (σ:St) (Q:VK) (u:Value) (s':Shared):Prop:=∃v H',Inv X pins σ H' s'/\RelV v u/\Q v H'
def TP (X:Cx) (pins:List (Addr×Obj)) (σ:St) (Q:Bool->Hp->Prop) (b:Bool) (s':Shared):Prop:=∃H',Inv X pins σ H' s'/\Q b H'
def AP (X:Cx) (pins:List (Addr×Obj)) (σ:St) (Q:List V->Hp->Prop) (us:List Value) (s':Shared):Prop:=∃vs H',Inv X pins σ H' s'/\Vals vs us/\Q vs H'
def SP (X:Cx) (pins:List (Addr×Obj)) (D:Ends) (f:Flow) (s':Shared):Prop :=
 match f with
 | .next=>∃σ' H',Inv X pins σ' H' s'/\D.nx σ' H'
 | .brk=>∃σ' H',Inv X pins σ' H' s'/\D.bk σ' H'
 | .cont=>∃σ' H',Inv X pins σ' H' s'/\D.ct σ' H'
 | .ret u=>∃v σ' H',Inv X pins σ' H' s'/\RelV v u/\D.rt v H'
def PE (X:Cx) (e:Expr) (t:TE):Prop :=
 ∀(pins:List (Addr×Obj)) (s:Shared) (σ:St) (H:Hp) (Q:VK),Inv X pins σ H s->t σ H Q->wpAny (model X.prog X.w) X.A (eval e X.env) (EP X pins σ Q) X.xe s
def PT (X:Cx) (e:Expr) (t:TT):Prop :=
 ∀(pins:List (Addr×Obj)) (s:Shared) (σ:St) (H:Hp) (Q:Bool->Hp->Prop),Inv X pins σ H s->t σ H Q->wpAny (model X.prog X.w) X.A (isTrue e X.env (eval e X.env)) (TP X pins σ Q) X.xe s
def PW (X:Cx) (e:Expr) (t:TT):Prop :=
 ∀(whole:Sem Value) (pins:List (Addr×Obj)) (s:Shared) (σ:St) (H:Hp) (Q:Bool->Hp->Prop),Inv X pins σ H s->t σ H Q->wpAny (model X.prog X.w) X.A (isTrue e X.env whole) (TP X pins σ Q) X.xe s
theorem PW.pt {X:Cx}{e:Expr}{t:TT}(h:PW X e t):PT X e t:=h _
def PA (X:Cx) (es:List Expr) (t:TA):Prop :=
 ∀(pos:Pos) (pins:List (Addr×Obj)) (s:Shared) (σ:St) (H:Hp) (Q:List V->Hp->Prop),Inv X pins σ H s->t σ H Q->wpAny (model X.prog X.w) X.A (spliced (backTo pos (starEach es X.env))) (AP X pins σ Q) X.xe s
def PS (X:Cx) (st:Stmt) (t:TS):Prop :=
 ∀(pins:List (Addr×Obj)) (s:Shared) (σ:St) (H:Hp) (D:Ends),Inv X pins σ H s->t D σ H->wpAny (model X.prog X.w) X.A (exec st X.env) (SP X pins D) X.xe s
def PSs (X:Cx) (st:List Stmt) (t:TS):Prop :=
 ∀(pins:List (Addr×Obj)) (s:Shared) (σ:St) (H:Hp) (D:Ends),Inv X pins σ H s->t D σ H->wpAny (model X.prog X.w) X.A (execs st X.env) (SP X pins D) X.xe s
theorem thn {α:Type}{t:Sem α}{Q Q':α->Shared->Prop}{M:Model}{A:Around}{E:Value->Shared->Prop}{s:Shared}(h:wpAny M A t Q E s) (hQ:∀a s,Q a s->Q' a s):wpAny M A t Q' E s:=wpAny_mono h hQ fun _ _ x=>x
section
variable {X:Cx}
theorem bin {a b:Expr}{ta tb:TE}(ha:PE X a ta) (hb:PE X b tb){pins:List (Addr×Obj)}{s:Shared}{σ:St}{H:Hp}{R:V->V->Hp->Prop}(I:Inv X pins σ H s) (h:ta σ H fun x H1=>tb σ H1 fun y H2=>R x y H2)
  {α:Type}{Q:α->Shared->Prop}{f:Value->Value->Sem α}
  (hf:∀v u s2 x y H2,Inv X pins σ H2 s2->RelV x v->RelV y u->R x y H2->wpAny (model X.prog X.w) X.A (f v u) Q X.xe s2) :
  wpAny (model X.prog X.w) X.A (eval a X.env) (fun v s₁=>wpAny (model X.prog X.w) X.A (eval b X.env) (fun u s₂=>wpAny (model X.prog X.w) X.A (f v u) Q X.xe s₂) X.xe s₁) X.xe s:=by
 refine thn (ha pins s σ H _ I h) fun v s1 ⟨x,H1,I1,r1,q1⟩ => ?_
 refine thn (hb pins s1 σ H1 _ I1 q1) fun u s2 ⟨y,H2,I2,r2,q2⟩ => ?_
 exact hf v u s2 x y H2 I2 r1 r2 q2
def tVar (i:Nat):TE:=fun σ H Q=>∃v,σ[i]?=some (some v)/\Q v H
def tC (v:V):TE:=fun _ H Q=>Q v H
theorem uI {i:Nat}{x:Str}{pos:Pos}(hN:X.N[i]?=some x) (hv:Vis X.env.scope x) (hd:autoParam ((x == ("__debug__":Str))=false) zL._auto_1) (hcd:autoParam ((x == ("__classdict__":Str))=false) zL._auto_1):PE X (.Name x pos) (tVar i):=by
 intro pins s σ H Q I h
 obtain⟨v,e,h⟩:=h
 obtain⟨m,hn,hl⟩:=I.loc
 obtain⟨u,r,l⟩:=hl i x v hN e hv
 have fin:EP X pins σ Q u s:=⟨v,H,I,r,h⟩
 rcases l with ⟨hk,hm⟩ | ⟨hk,c,hc,hcell⟩
 ·exact wpAny_Name (wpAny_loadName_local I.ok.kind hk hn hm fin) hd
 ·rcases hk with hk | hk
  ·exact wpAny_Name (wpAny_loadName_cell I.ok.kind hk hc hcell fin) hd
  ·exact wpAny_Name (wpAny_loadName_free I.ok.kind hk hc hcell fin hcd) hd
theorem yY {i j pos}:PE X (.Constant (.int i) j pos) (tC (.int i)):=fun _ _ _ H _ I h=>wpAny_Constant_int ⟨.int i,H,I.tok _,⟨_,rfl⟩,h⟩
theorem xQ7 {b j pos}:PE X (.Constant (.bool b) j pos) (tC (.bl b)):=fun _ _ _ H _ I h=>Constant_bool ⟨.bl b,H,I,rfl,h⟩
theorem gH {j pos}:PE X (.Constant .none j pos) (tC .non):=fun _ _ _ H _ I h=>Constant_none ⟨.non,H,I,rfl,h⟩
def Gl (X:Cx) (x:Str):Prop:=X.env.kindOf x=some .globalImplicit
theorem bO {E:Value->Shared->Prop}{pins:List (Addr×Obj)}{s:Shared}{σ:St}{H:Hp}{x:Str}{u:Value}{pos:Pos}{Q:Value->Shared->Prop}(I:Inv X pins σ H s) (hg:Gl X x) (hm:X.mg x=some u) (h:Q u s)
  (hd:autoParam ((x == ("__debug__":Str))=false) zL._auto_1):wpAny (model X.prog X.w) X.A (eval (.Name x pos) X.env) Q E s :=
 Calls.Name_function_global I.ok.kind hg (Calls.loadGlobal_global (by rw[I.ok.glob];exact I.mod.glob.keeps I.bk) hm h) hd
theorem gK {E:Value->Shared->Prop}{pins:List (Addr×Obj)}{s:Shared}{σ:St}{H:Hp}{x:Str}{u:Value}{pos:Pos}{Q:Value->Shared->Prop}(I:Inv X pins σ H s) (hg:Gl X x) (hm:X.mg x=none) (hv:bootBuiltins x=some u) (h:Q u s)
  (hn:autoParam (x ≠ "__name__") zL._auto_1) (hd:autoParam ((x == ("__debug__":Str))=false) zL._auto_1):wpAny (model X.prog X.w) X.A (eval (.Name x pos) X.env) Q E s:=by
 obtain⟨mb,h1,h2⟩:=I.mod.blt
 exact Calls.Name_function_global I.ok.kind hg (Calls.loadGlobal_builtin (by rw[I.ok.glob];exact I.mod.glob.keeps I.bk) hm (by rw[I.ok.blt];exact h1.keeps I.bk) ((h2 x hn).trans hv) h) hd
theorem yI7 {x:Str}{v:V}{u:Value}{pos:Pos}(hg:Gl X x) (hm:X.mg x=some u) (r:RelV v u) (hd:autoParam ((x == ("__debug__":Str))=false) zL._auto_1):PE X (.Name x pos) (tC v) :=
 fun _ _ _ H _ I h=>bO I hg hm ⟨v,H,I,r,h⟩ hd
variable {a b:Expr}{ta tb:TE}{pos:Pos}
def PC (X:Cx) (op:CmpOp) (a b:Expr) (t:TE):Prop :=
 ∀(pins:List (Addr×Obj)) (s:Shared) (σ:St) (H:Hp) (Q:VK),Inv X pins σ H s->t σ H Q ->
  wpAny (model X.prog X.w) X.A (eval a X.env) (fun v s₁=>wpAny (model X.prog X.w) X.A (eval b X.env) (fun u s₂=>wpAny (model X.prog X.w) X.A (compareOp op v u) (EP X pins σ Q) X.xe s₂) X.xe s₁) X.xe s
theorem nobehind (b:Expr){op:CmpOp}(h:op ≠ .In) (h2:op ≠ .NotIn):behindInMarks op b=false:=by
 have e1:(op == CmpOp.In)=false:=by cases op <;> first | rfl | exact absurd rfl h
 have e2:(op == CmpOp.NotIn)=false:=by cases op <;> first | rfl | exact absurd rfl h2
 cases b <;> simp[behindInMarks,e1,e2]
def tIsN (ta:TE):TE:=fun σ H Q=>ta σ H fun x H1=>Q (.bl (decide (x=.non))) H1
def tNotN (ta:TE):TE:=fun σ H Q=>ta σ H fun x H1=>Q (.bl (!decide (x=.non))) H1
theorem RelV.zQ8 {x:V}{v:Value}(r:RelV x v):(v == Value.none)=decide (x=.non):=by
 cases x with
 | non=>cases r;rfl
 | bl _=>cases r;rfl
 | int _=>obtain⟨t,rfl⟩:=r;rfl
 | str _=>obtain⟨t,rfl⟩:=r;rfl
 | byt _=>obtain⟨t,rfl⟩:=r;rfl
 | flt _=>obtain⟨t,rfl⟩:=r;rfl
 | ref _=>cases r;rfl
 | ty _=>cases r;rfl
theorem yZ3 {j pos'} (ha:PE X a ta):PC X .Is a (.Constant .none j pos') (tIsN ta):=by
 intro pins s σ H Q I h
 refine thn (ha pins s σ H _ I h) fun v s1 ⟨x,H1,I1,r1,q1⟩ => ?_
 exact Constant_none (is_none_gen ⟨.bl _,H1,I1,by rw[r1.zQ8];rfl,q1⟩)
theorem yH8 {j pos'} (ha:PE X a ta):PC X .IsNot a (.Constant .none j pos') (tNotN ta):=by
 intro pins s σ H Q I h
 refine thn (ha pins s σ H _ I h) fun v s1 ⟨x,H1,I1,r1,q1⟩ => ?_
 exact Constant_none (isnot_none_gen ⟨.bl _,H1,I1,by rw[r1.zQ8];rfl,q1⟩)
def tB (t:TE):TT:=fun σ H Q=>t σ H fun x H1=>∃c,x=.bl c/\Q c H1
theorem zS9 {op:CmpOp}{t:TE}(h:PC X op a b t) (h1:autoParam (behindInMarks op b=false) xT5._auto_1):PT X (.Compare a [op] [b] pos) (tB t):=by
 intro pins s σ H Q I hw
 refine wpAny_isTrue_Compare1 (thn (h pins s σ H _ I hw) fun v s1 h1=>thn h1 fun u s2 h2=>thn h2 fun c s3 ⟨x,H1,I1,r1,q1⟩ => ?_) h1
 obtain⟨d,rfl,q⟩:=q1
 cases r1
 exact wpAny_truthy_bool ⟨H1,I1,q⟩
theorem yZ7 {e:Expr}{t:TE}(h:PE X e t) (he:autoParam (∀whole,isTrue e X.env whole=(do let v <-whole;standAt e.pos;holding [v] (truthy v))) xB._auto_1):PT X e (tB t):=by
 intro pins s σ H Q I hw
 refine isTrue_plain (thn (h pins s σ H _ I hw) fun v s1 ⟨x,H1,I1,r1,q1⟩ => ?_) (he _)
 obtain⟨d,rfl,q⟩:=q1
 cases r1
 exact wpAny_truthy_bool ⟨H1,I1,q⟩
variable {tA tB':TT}{rest:List Expr}
def tAnd (t u:TT):TT:=fun σ H Q=>t σ H fun c H1=>if c=true then u σ H1 Q else Q false H1
def tOr (t u:TT):TT:=fun σ H Q=>t σ H fun c H1=>if c=true then Q true H1 else u σ H1 Q
def tNot (t:TT):TT:=fun σ H Q=>t σ H fun c H1=>Q (!c) H1
theorem pw_and1 (ha:PT X a tA):PW X (.BoolOp .And [a] pos) tA:=by
 intro wh pins s σ H Q I h
 refine isTrue_and (thn (ha pins s σ H Q I h) fun c s1 e => ?_)
 cases c with
 | true=>exact isTrue_and_nil e
 | false=>exact e
theorem pw_or1 (ha:PT X a tA):PW X (.BoolOp .Or [a] pos) tA:=by
 intro wh pins s σ H Q I h
 refine isTrue_or (thn (ha pins s σ H Q I h) fun c s1 e => ?_)
 cases c with
 | false=>exact isTrue_or_nil e
 | true=>exact e
theorem pw_and (ha:PT X a tA) (hb:PW X (.BoolOp .And (b::rest) pos) tB'):PW X (.BoolOp .And (a::b::rest) pos) (tAnd tA tB'):=by
 intro wh pins s σ H Q I h
 refine isTrue_and (thn (ha pins s σ H _ I h) fun c s1 ⟨H1,I1,q1⟩ => ?_)
 cases c with
 | true=>exact hb wh pins s1 σ H1 Q I1 q1
 | false=>exact⟨H1,I1,q1⟩
theorem pw_or (ha:PT X a tA) (hb:PW X (.BoolOp .Or (b::rest) pos) tB'):PW X (.BoolOp .Or (a::b::rest) pos) (tOr tA tB'):=by
 intro wh pins s σ H Q I h
 refine isTrue_or (thn (ha pins s σ H _ I h) fun c s1 ⟨H1,I1,q1⟩ => ?_)
 cases c with
 | true=>exact⟨H1,I1,q1⟩
 | false=>exact hb wh pins s1 σ H1 Q I1 q1
theorem xX4 (ha:PT X a tA):PT X (.UnaryOp .Not a pos) (tNot tA):=by
 intro pins s σ H Q I h
 exact isTrue_not (ha pins s σ H (fun c H1=>Q (!c) H1) I h)
def tAndV (ta tb:TE):TE:=fun σ H Q=>ta σ H fun x H1=>∃c,x=.bl c/\if c=true then tb σ H1 Q else Q (.bl false) H1
theorem yB4 {op} {t:TE}(h:PE X a t):PE X (.BoolOp op [a] pos) t:=fun pins s σ H Q I hw=>BoolOp_one (h pins s σ H Q I hw)
theorem xU7 (ha:PE X a ta) (hb:PE X (.BoolOp .And (b::rest) pos) tb):PE X (.BoolOp .And (a::b::rest) pos) (tAndV ta tb):=by
 intro pins s σ H Q I h
 refine BoolOp_and (thn (ha pins s σ H _ I h) fun v s1 ⟨x,H1,I1,r1,q1⟩ => ?_)
 obtain⟨c,rfl,q1⟩:=q1
 cases r1
 refine wpAny_truthy_bool ?_
 cases c with
 | true=>exact hb pins s1 σ H1 Q I1 q1
 | false=>exact⟨.bl false,H1,I1,rfl,q1⟩
def tIf (t:TT) (ta tb:TE):TE:=fun σ H Q=>t σ H fun c H1=>if c=true then ta σ H1 Q else tb σ H1 Q
theorem yR6 {c:Expr}(hc:PT X c tA) (ha:PE X a ta) (hb:PE X b tb):PE X (.IfExp c a b pos) (tIf tA ta tb):=by
 intro pins s σ H Q I h
 refine wpAny_IfExp (thn (hc pins s σ H _ I h) fun d s1 ⟨H1,I1,q1⟩ => ?_)
 cases d with
 | true=>exact ha pins s1 σ H1 Q I1 q1
 | false=>exact hb pins s1 σ H1 Q I1 q1
end
def SqL (K:KFr) (H:Hp) (a:Addr) (xs:List V):Prop :=
 Rd H a (.lst xs) \/
  ∃(o:Obj) (its:Array Value) (n:Nat),K.lookup a=some o/\o.cls=.type "list"/\o.dict=none/\o.data=.seq its n/\its.size<=sizeLine/\Vals xs its.toList
def SqT (K:KFr) (H:Hp) (a:Addr) (xs:List V):Prop :=
 Rd H a (.tup xs) \/
  ∃(o:Obj) (its:Array Value) (n:Nat),K.lookup a=some o/\o.cls=.type "tuple"/\o.data=.seq its n/\its.size<=sizeLine/\Vals xs its.toList
def absV:Value->Option V
 | .none=>some .non
 | .bool b=>some (.bl b)
 | .int i _=>some (.int i)
 | .str x _=>some (.str x)
 | .bytes b _=>some (.byt b)
 | .float b _=>some (.flt b)
 | .ref a=>some (.ref a)
 | .type n=>some (.ty n)
 | _=>none
theorem RelV.abs {x:V}{u:Value}(r:RelV x u):absV u=some x:=by
 cases x with
 | non=>cases r;rfl
 | bl _=>cases r;rfl
 | int _=>obtain⟨t,rfl⟩:=r;rfl
 | str _=>obtain⟨t,rfl⟩:=r;rfl
 | byt _=>obtain⟨t,rfl⟩:=r;rfl
 | flt _=>obtain⟨t,rfl⟩:=r;rfl
 | ref _=>cases r;rfl
 | ty _=>cases r;rfl
theorem RelV.inj {x y:V}{u:Value}(r:RelV x u) (q:RelV y u):x=y:=Option.some.inj (r.abs.symm.trans q.abs)
theorem Vals.inj:∀{xs ys:List V}{us:List Value},Vals xs us->Vals ys us->xs=ys
 | _,_,_,.nil,.nil=>rfl
 | _,_,_,.cons r t,.cons r' t'=>by rw[r.inj r',Vals.inj t t']
section
variable {X:Cx}{pins:List (Addr×Obj)}{σ:St}{H:Hp}{s:Shared}{a:Addr}{xs ys:List V}
theorem SqL.of {K:KFr}(h:H a=some (.lst xs)):SqL K H a xs:=.inl (.inl h)
theorem Inv.list (I:Inv X pins σ H s) (h:SqL X.K H a xs):∃its:List Value,Vals xs its/\PlainL s.heap a its.toArray/\xs.length<=sizeLine:=by
 rcases h with h | ⟨o,its,n,hk,hc,hd,hs,hz,r⟩
 ·obtain⟨z,its,n,r,e⟩:=h.ok I.hok
  exact⟨its,r,⟨_,n,e,rfl,rfl,rfl⟩,z⟩
 ·refine⟨its.toList,r,⟨o,n,I.kIn a o hk,hc,hd,by simpa using hs⟩,?_⟩
  have e:=r.length
  simp only[Array.length_toList] at e
  bv_omega
theorem Inv.tuple (I:Inv X pins σ H s) (h:SqT X.K H a xs):∃its:List Value,Vals xs its/\IsTup s.heap a its.toArray/\xs.length<=sizeLine:=by
 rcases h with h | ⟨o,its,n,hk,hc,hs,hz,r⟩
 ·obtain⟨z,its,r,p⟩:=h.ok I.hok
  exact⟨its,r,p.tup,z⟩
 ·refine⟨its.toList,r,⟨o,I.kIn a o hk,hc,n,by simpa using hs⟩,?_⟩
  have e:=r.length
  simp only[Array.length_toList] at e
  bv_omega
theorem Inv.zU2 (I:Inv X pins σ H s) (h:SqL X.K H a xs) (h':SqL X.K H a ys):xs=ys:=by
 obtain⟨its,r,⟨o,n,e,_,_,d⟩,_⟩:=I.list h
 obtain⟨its',r',⟨o',n',e',_,_,d'⟩,_⟩:=I.list h'
 rw[e] at e';cases e'
 rw[d] at d'
 injection d' with d1 _
 have:its=its':=by simpa using congrArg Array.toList d1
 subst this
 exact r.inj r'
theorem Inv.aD (I:Inv X pins σ H s) (h:SqT X.K H a xs) (h':SqT X.K H a ys):xs=ys:=by
 obtain⟨its,r,⟨o,e,_,n,d⟩,_⟩:=I.tuple h
 obtain⟨its',r',⟨o',e',_,n',d'⟩,_⟩:=I.tuple h'
 rw[e] at e';cases e'
 rw[d] at d'
 injection d' with d1 _
 have:its=its':=by simpa using congrArg Array.toList d1
 subst this
 exact r.inj r'
end
abbrev Cx.wish (X:Cx) (E:Value->Shared->Prop):Cx:={ X with xe:=E }
abbrev Cx.nox (X:Cx):Cx:=X.wish fun _ _=>False
theorem Cx.Ok.wish {X:Cx}(ok:X.Ok) (E:Value->Shared->Prop):(X.wish E).Ok :=
 ⟨ok.mod,ok.kind,ok.glob,ok.blt,ok.above,ok.inj,ok.has,ok.cab,ok.hd,ok.frames,ok.stk,ok.exf,ok.bs,ok.bsz,ok.noex,ok.exfs,ok.funs,ok.frf,ok.tb⟩
theorem Cx.Ok.unwish {X:Cx}{E:Value->Shared->Prop}(ok:(X.wish E).Ok):X.Ok :=
 ⟨ok.mod,ok.kind,ok.glob,ok.blt,ok.above,ok.inj,ok.has,ok.cab,ok.hd,ok.frames,ok.stk,ok.exf,ok.bs,ok.bsz,ok.noex,ok.exfs,ok.funs,ok.frf,ok.tb⟩
section
variable {X:Cx}{pins:List (Addr×Obj)}{σ:St}{H:Hp}{s:Shared}{E:Value->Shared->Prop}
theorem Inv.wish (I:Inv X pins σ H s) (E:Value->Shared->Prop):Inv (X.wish E) pins σ H s:=⟨I.ok.wish E,I.os,I.bare,I.base,I.loc,I.cell,I.free,I.freeC,I.pin,I.hok,I.len⟩
theorem Inv.unwish (I:Inv (X.wish E) pins σ H s):Inv X pins σ H s:=⟨I.ok.unwish,I.os,I.bare,I.base,I.loc,I.cell,I.free,I.freeC,I.pin,I.hok,I.len⟩
theorem SP.unwish {D:Ends}{f:Flow}{s':Shared}(h:SP (X.wish E) pins D f s'):SP X pins D f s':=by
 cases f with
 | next=>obtain⟨σ',H',I,q⟩:=h;exact⟨σ',H',I.unwish,q⟩
 | brk=>obtain⟨σ',H',I,q⟩:=h;exact⟨σ',H',I.unwish,q⟩
 | cont=>obtain⟨σ',H',I,q⟩:=h;exact⟨σ',H',I.unwish,q⟩
 | ret u=>obtain⟨v,σ',H',I,r,q⟩:=h;exact⟨v,σ',H',I.unwish,r,q⟩
theorem PSs.nox {st:List Stmt}{t:TS}(h:PSs X.nox st t):PSs X st t:=fun pins s σ H D I hw =>
 wpAny_mono (h pins s σ H D (I.wish _) hw) (fun _ _ q=>q.unwish) fun _ _ z=>False.elim z
end
section
variable {X:Cx}{st:Stmt}{rest:List Stmt}{t u:TS}{e:Expr}{te:TE}{pos:Pos}
def tNext:TS:=fun D σ H=>D.nx σ H
def tSeq (t u:TS):TS:=fun D σ H=>t { D with nx:=u D } σ H
theorem qT:PSs X [] tNext:=fun _ _ σ H _ I h=>wpAny_execs_nil ⟨σ,H,I,h⟩
theorem zH (h1:PS X st t) (h2:PSs X rest u):PSs X (st::rest) (tSeq t u):=by
 intro pins s σ H D I h
 refine wpAny_execs_cons (thn (h1 pins s σ H { D with nx:=u D } I h) fun f s1 q => ?_)
 cases f with
 | next =>
  obtain⟨σ',H',I',q⟩:=q
  exact h2 pins s1 σ' H' D I' q
 | ret v=>exact q
 | brk=>exact q
 | cont=>exact q
theorem yW (h1:PS X st t):PSs X [st] t:=by
 intro pins s σ H D I h
 refine wpAny_execs_cons (thn (h1 pins s σ H D I h) fun f s1 q => ?_)
 cases f with
 | next=>exact wpAny_execs_nil q
 | ret v=>exact q
 | brk=>exact q
 | cont=>exact q
theorem Inv.quiet {pins:List (Addr×Obj)}{σ:St}{H:Hp}{s:Shared}(I:Inv X pins σ H s):interactive X.env=false:=by simp[interactive,I.ok.kind]
def tDrop (te:TE):TS:=fun D σ H=>te σ H fun _ H1=>D.nx σ H1
theorem wG (he:PE X e te) (hs:autoParam (swapsWith e none pos.line X.env=pure false) zZ._auto_1):PS X (.Expr e pos) (tDrop te):=by
 intro pins s σ H D I h
 exact wpAny_Expr_any (thn (he pins s σ H _ I h) fun v s1 ⟨x,H1,I1,r1,q1⟩=>⟨σ,H1,I1,q1⟩) I.quiet hs
def tRet (te:TE):TS:=fun D σ H=>te σ H D.rt
theorem wS (he:PE X e te):PS X (.Return (some e) pos) (tRet te):=by
 intro pins s σ H D I h
 exact wpAny_Return_some (thn (he pins s σ H _ I h) fun v s1 ⟨x,H1,I1,r1,q1⟩=>⟨x,σ,H1,I1,r1,q1⟩)
def tIfS (c:TT) (t u:TS):TS:=fun D σ H=>c σ H fun b H1=>if b=true then t D σ H1 else u D σ H1
theorem kN {c:Expr}{a b:List Stmt}{tc:TT}(hc:PT X c tc) (ha:PSs X a t) (hb:PSs X b u):PS X (.If c a b pos) (tIfS tc t u):=by
 intro pins s σ H D I h
 refine wpAny_If (thn (hc pins s σ H _ I h) fun d s1 ⟨H1,I1,q1⟩ => ?_)
 cases d with
 | true=>exact ha pins s1 σ H1 D I1 q1
 | false=>exact hb pins s1 σ H1 D I1 q1
def tNever:TS:=fun _ _ _=>False
theorem yR1:PS X st tNever:=fun _ _ _ _ _ _ h=>h.elim
end
abbrev TG:=V->St->Hp->(St->Hp->Prop)->Prop
abbrev TGs:=List V->St->Hp->(St->Hp->Prop)->Prop
def PG (X:Cx) (target:Expr) (t:TG):Prop :=
 ∀(pins:List (Addr×Obj)) (s:Shared) (σ:St) (H:Hp) (v:V) (u:Value) (Q:St->Hp->Prop),Inv X pins σ H s->RelV v u->t v σ H Q ->
  wpAny (model X.prog X.w) X.A (assign target X.env u) (fun _ s'=>∃σ' H',Inv X pins σ' H' s'/\Q σ' H') X.xe s
def PGs (X:Cx) (ts:List Expr) (t:TGs):Prop :=
 ∀(pins:List (Addr×Obj)) (s:Shared) (σ:St) (H:Hp) (vs:List V) (us:List Value) (Q:St->Hp->Prop),Inv X pins σ H s->Vals vs us->t vs σ H Q ->
  wpAny (model X.prog X.w) X.A (assignInOrder ((assignEach ts X.env).map (·.2)) us) (fun _ s'=>∃σ' H',Inv X pins σ' H' s'/\Q σ' H') X.xe s
abbrev TSet:=V->V->V->Hp->(Hp->Prop)->Prop
def PSet (X:Cx) (t:TSet):Prop :=
 ∀(pins:List (Addr×Obj)) (s:Shared) (σ:St) (H:Hp) (o i v:V) (ov iv u:Value) (Q:Hp->Prop),Inv X pins σ H s->RelV o ov->RelV i iv->RelV v u->t o i v H Q ->
  wpAny (model X.prog X.w) X.A (setItem ov iv u) (fun _ s'=>∃H',Inv X pins σ H' s'/\Q H') X.xe s
section
variable {X:Cx}{pos:Pos}
def gName (i:Nat):TG:=fun v σ H Q=>Q (σ.set i (some v)) H
theorem vL {i:Nat}{x:Str}(hN:X.N.Nodup) (hi:X.N[i]?=some x) (hx:Loc X.env.scope x) (hf:autoParam (X.fn x=true\/X.env.scope.names.lookup x=some .local) gE._auto_1):PG X (.Name x pos) (gName i):=by
 intro pins s σ H v u Q I r h
 exact wpAny_assign_Name (dI I hN hi hx r (fun s' I'=>⟨_,H,I',h⟩) hf)
def gNil:TGs:=fun vs σ H Q=>vs=[]/\Q σ H
def gCons (t:TG) (u:TGs):TGs:=fun vs σ H Q=>∃v r,vs=v::r/\t v σ H fun σ' H'=>u r σ' H' Q
theorem zI4:PGs X [] gNil:=by
 intro pins s σ H vs us Q I r h
 obtain⟨e,h⟩:=h
 subst e
 cases r
 exact assignInOrder_nil ⟨σ,H,I,h⟩
theorem dN {e:Expr}{es:List Expr}{t:TG}{u:TGs}(h1:PG X e t) (h2:PGs X es u)
  (hs:autoParam ((assignEach (e::es) X.env).map (·.2)=assign e X.env::(assignEach es X.env).map (·.2)) zZ._auto_1):PGs X (e::es) (gCons t u):=by
 intro pins s σ H vs us Q I r h
 obtain⟨v,vr,e1,h⟩:=h
 subst e1
 cases r with
 | cons r rr =>
  rw[hs]
  refine assignInOrder_cons (thn (h1 pins s σ H _ _ _ I r h) fun _ s1 ⟨σ1,H1,I1,q1⟩ => ?_)
  exact h2 pins s1 σ1 H1 _ _ Q I1 rr q1
def gTup (K:KFr) (n:Nat) (t:TGs):TG:=fun v σ H Q=>∃a xs,v=.ref a/\SqT K H a xs/\xs.length=n/\t xs σ H Q
theorem zA5 {es:List Expr}{k:Nat}{t:TGs}{n:Nat}(hc:X.calm=true) (h:PGs X es t)
  (hn:autoParam ((assignEach es X.env).length=n) zZ._auto_1) (hst:autoParam ((assignEach es X.env).findIdx? (·.1)=none) zZ._auto_1):PG X (.Tuple es k pos) (gTup X.K n t):=by
 intro pins s σ H v u Q I r hw
 obtain⟨a,xs,e1,hq,hl,hw⟩:=hw
 subst e1
 cases r
 obtain⟨its,rv,ht,hz⟩:=I.tuple hq
 refine assign_Tuple_tuple (I.ok.hd hc) ht (by simp[hn,<-hl,rv.length]) hst fun h' hx => ?_
 have I1:Inv X pins σ H { s with heap:=h' }:=I.kept (t':=s.toks) fun b o e=>hx b o (Nat.ne_of_lt (Heap.lt_size e)) e
 exact h pins _ σ H xs _ Q I1 (by simpa using rv) hw
def gSub (to ti:TE) (t:TSet):TG:=fun v σ H Q=>to σ H fun o H1=>ti σ H1 fun i H2=>t o i v H2 fun H3=>Q σ H3
theorem zQ2 {o i:Expr}{to ti:TE}{t:TSet}(ho:PE X o to) (hi:PE X i ti) (hs:PSet X t)
  (ha:∀v,assign (.Subscript o i pos) X.env v=(do
   let ov <-holding [v] (eval o X.env)
   let iv <-holding [v,ov] (eval i X.env)
   standAt pos
   holding [v,ov,iv] (setItem ov iv v)
   release [v,ov,iv] []):=by intro _;rfl):PG X (.Subscript o i pos) (gSub to ti t):=by
 intro pins s σ H v u Q I r h
 rw[ha]
 refine wpAny_bind (wpAny_holding (thn (ho pins s σ H _ I h) fun ov s1 ⟨x,H1,I1,r1,q1⟩ => ?_))
 refine wpAny_bind (wpAny_holding (thn (hi pins s1 σ H1 _ I1 q1) fun iv s2 ⟨y,H2,I2,r2,q2⟩ => ?_))
 refine wpAny_bind (wpAny_standAt (wpAny_bind (wpAny_holding (thn (hs pins s2 σ H2 x y v ov iv u _ I2 r1 r2 r q2) fun _ s3 ⟨H3,I3,q3⟩ => ?_))))
 exact wpAny_release ⟨σ,H3,I3,q3⟩
def tAsg (te:TE) (g:TG):TS:=fun D σ H=>te σ H fun x H1=>g x σ H1 D.nx
theorem dA {tg e:Expr}{te:TE}{g:TG}(he:PE X e te) (hg:PG X tg g) (hs:autoParam (swapsWithSole [tg] e pos.line X.env=pure false) zZ._auto_1) (hw:autoParam (swappedStores [tg] e X.env=pure none) zZ._auto_1)
  (h1:autoParam ((assignEach [tg] X.env).map (·.2)=[assign tg X.env]) zZ._auto_1):PS X (.Assign [tg] e pos) (tAsg te g):=by
 intro pins s σ H D I h
 refine wpAny_Assign_stores (thn (he pins s σ H _ I h) fun v s1 ⟨x,H1,I1,r1,q1⟩ => ?_) hs hw
 rw[h1]
 exact thn (hg pins s1 σ H1 x v _ I1 r1 q1) fun _ s2 q=>q
theorem yZ {i:Nat}{x:Str}{e:Expr}{te:TE}{pos':Pos}(hN:X.N.Nodup) (hi:X.N[i]?=some x) (hx:Loc X.env.scope x) (he:PE X e te) (hs:autoParam (swapsWith e (some (.Name x pos')) pos.line X.env=pure false) zZ._auto_1) (hf:autoParam (X.fn x=true\/X.env.scope.names.lookup x=some .local) gE._auto_1) :
  PS X (.Assign [.Name x pos'] e pos) (tAsg te (gName i)):=by
 intro pins s σ H D I h
 refine wpAny_Assign_Name (thn (he pins s σ H _ I h) fun v s1 ⟨y,H1,I1,r1,q1⟩ => ?_) hs
 exact dI I1 hN hi hx r1 (fun s2 I2=>⟨_,H1,I2,q1⟩) hf
end
section
variable {X:Cx}{pos:Pos}
def tWhile (c:TT) (tb:TS):TS:=fun D σ H=>∃W:Nat->St->Hp->Prop,(∃m,W m σ H)/\∀m σ H,W m σ H ->
 c σ H fun b H1=>if b=true then ∃N:St->Hp->Prop,(∀σ' H',N σ' H'->∃m',m'<m/\W m' σ' H')/\tb { D with nx:=N,ct:=N,bk:=D.nx } σ H1 else D.nx σ H1
theorem yO3 {c:Expr}{body:List Stmt}{tc:TT}{tb:TS}(hp:PassesOwn (model X.prog X.w) X.A X.env X.xe) (hc:PT X c tc) (hb:PSs X body tb):PS X (.While c body [] pos) (tWhile tc tb):=by
 intro pins s σ H D I h
 obtain⟨W,⟨m0,w0⟩,turn⟩:=h
 refine wpAny_While (codeAny_whileLoop (fun n s'=>∃σ' H',Inv X pins σ' H' s'/\W n σ' H') ?_ m0 ⟨σ,H,I,w0⟩)
 rintro n s1 ⟨σ1,H1,I1,w1⟩
 refine wpAny_passesOwn hp (thn (hc pins s1 σ1 H1 _ I1 (turn n σ1 H1 w1)) fun b s2 ⟨H2,I2,q2⟩ => ?_)
 cases b with
 | true =>
  obtain⟨N,hN,q2⟩:=q2
  rw[if_pos rfl]
  refine wpAny_passesOwn hp (thn (hb pins s2 σ1 H2 _ I2 q2) fun f s3 q3 => ?_)
  cases f with
  | next =>
   obtain⟨σ3,H3,I3,n3⟩:=q3
   obtain⟨m',hm,w3⟩:=hN σ3 H3 n3
   exact⟨m',hm,σ3,H3,I3,w3⟩
  | cont =>
   obtain⟨σ3,H3,I3,n3⟩:=q3
   obtain⟨m',hm,w3⟩:=hN σ3 H3 n3
   exact⟨m',hm,σ3,H3,I3,w3⟩
  | brk=>exact q3
  | ret v=>exact q3
 | false =>
  rw[if_neg Bool.false_ne_true]
  exact wpAny_execs_nil ⟨σ1,H2,I2,q2⟩
end
structure It where
 go:Nat->Hp->Prop
 yld:Nat->Hp->V->Hp->Prop
 stop:Nat->Hp->Prop
def FpOk (X:Cx) (pins:List (Addr×Obj)) (H:Hp) (b:Addr):Prop :=
 H b=none/\b≠X.env.locals/\b∉X.fs/\(b∈X.ex\/X.s₀.heap.objs.size<=b)/\(∀x c,X.env.cells.lookup x=some c->c≠b)/\∀p∈X.pn++pins,p.1≠b
theorem Inv.fpOk {X:Cx}{pins:List (Addr×Obj)}{σ:St}{H H':Hp}{s:Shared}{b:Addr}(I:Inv X pins σ H s) (hb:s.heap.objs.size<=b) (hn:H' b=none):FpOk X pins H' b:=by
 refine⟨hn,Nat.ne_of_gt (Nat.lt_of_lt_of_le I.lt hb),I.nofs hb,.inr (Nat.le_trans I.sz hb),fun x c e z => ?_,fun p hp z => ?_⟩
 ·obtain⟨v,q⟩:=I.cell x c e
  exact absurd (Nat.lt_of_lt_of_le q.lt (by rw[z];exact hb)) (Nat.lt_irrefl _)
 ·exact absurd (Nat.lt_of_lt_of_le (Heap.lt_size (I.pin p hp).1) (by rw[z];exact hb)) (Nat.lt_irrefl _)
structure Turn (P:Program) (w:World) (K:KFr) (tg:Expr) (J:It) (fp:List Addr) (it:Addr) (tn:Nat->Heap->Prop):Prop where
 mem:it∈fp
 obj:∀i h,tn i h->∀b∈fp,∃o,h.get? b=some o/\∀v,o.data ≠ .cell v
 keep:∀i h h',tn i h->(∀b∈fp,∀o,h.get? b=some o->h'.get? b=some o)->tn i h'
 item:∀(X:Cx),X.prog=P->X.w=w->X.K=K->X.calm=true->∀(i:Nat) (pins:List (Addr×Obj)) (s:Shared) (σ:St) (H:Hp) (E:Value->Shared->Prop),Inv X pins σ H s->(∀b∈fp,FpOk X pins H b)->tn i s.heap->J.go i H ->
  wpAny (model P w) X.A (pyNext (.ref it)) (fun r s1=>∃u,r=some u /\
   wpAny (model P w) X.A (letOwnedTupleGo tg (.ref it) u) (fun _ s2=>∃x H',Inv X pins σ H' s2/\RelV x u/\J.yld i H x H'/\tn (i+1) s2.heap/\∀b∈fp,H' b=none) E s1) E s
 done:∀(X:Cx),X.prog=P->X.w=w->X.K=K->X.calm=true->∀(i:Nat) (pins:List (Addr×Obj)) (s:Shared) (σ:St) (H:Hp) (E:Value->Shared->Prop),Inv X pins σ H s->(∀b∈fp,FpOk X pins H b)->tn i s.heap->J.stop i H ->
  wpAny (model P w) X.A (pyNext (.ref it)) (fun r s1=>r=none/\Inv X pins σ H s1) E s
 self:∀(A:Around) (i:Nat) (s:Shared) (Q:Value->Shared->Prop) (E:Value->Shared->Prop),tn i s.heap->Q (.ref it) s->wpAny (model P w) A (pyIter (.ref it)) Q E s
abbrev TI:=St->Hp->(It->Hp->Prop)->Prop
def PIE (X:Cx) (pins:List (Addr×Obj)) (σ:St) (tg:Expr) (R:It->Hp->Prop) (itv:Value) (s2:Shared):Prop :=
 ∃(it:Addr) (fp:List Addr) (tn:Nat->Heap->Prop) (J:It) (H':Hp),itv=.ref it/\Inv X pins σ H' s2/\Turn X.prog X.w X.K tg J fp it tn/\tn 0 s2.heap/\(∀b∈fp,FpOk X pins H' b)/\R J H'
def PI (X:Cx) (tg iter:Expr) (wi:TI):Prop :=
 ∀(pins:List (Addr×Obj)) (s:Shared) (σ:St) (H:Hp) (R:It->Hp->Prop),Inv X pins σ H s->wi σ H R ->
  wpAny (model X.prog X.w) X.A (eval iter X.env) (fun v s1=>wpAny (model X.prog X.w) X.A (pyIter v) (PIE X pins σ tg R) X.xe s1) X.xe s
theorem zI9 {M:Model}{A:Around}{E:Value->Shared->Prop}{s:Shared}{tg:Expr}{it:Addr}{u:Value}{o:Obj}{n:String}{vs:Array Value}{Q:Unit->Shared->Prop}(ho:s.heap.get? it=some o) (hc:o.cls=.type n) (hd:o.data=.fields vs)
  (hn:["enumerate","zip","dict_itemiterator","dict_reverseitemiterator","odict_iterator","itertools.zip_longest","itertools.pairwise"].contains n=false) (hQ:Q () s):wpAny M A (letOwnedTupleGo tg (.ref it) u) Q E s:=by
 unfold letOwnedTupleGo
 cases tg <;> first
  | exact wpAny_pure hQ
  | (cases u <;> first
    | exact wpAny_pure hQ
    | (refine wpAny_bind (wpAny_load ho ?_)
       rw[hc,hd]
       show wpAny M A (if (["enumerate","zip","dict_itemiterator","dict_reverseitemiterator","odict_iterator","itertools.zip_longest","itertools.pairwise"].contains n&&vs[0]? == some (rawInt _))=true then _ else _) Q E s
       rw[if_neg (by intro h;rw[hn,Bool.false_and] at h;cases h)]
       exact wpAny_pure hQ))
def Itl (K:KFr) (a:Addr):It :=
 ⟨fun i H=>∃xs x,SqL K H a xs/\xs[i]?=some x,fun i H x H'=>H'=H/\∀xs,SqL K H a xs->xs[i]?=some x,fun i H=>∃xs,SqL K H a xs/\xs.length<=i⟩
def Itt (K:KFr) (a:Addr):It :=
 ⟨fun i H=>∃xs x,SqT K H a xs/\xs[i]?=some x,fun i H x H'=>H'=H/\∀xs,SqT K H a xs->xs[i]?=some x,fun i H=>∃xs,SqT K H a xs/\xs.length<=i⟩
def Itr (lo:Int) (n:Nat):It:=⟨fun i _=>i<n,fun i H x H'=>H'=H/\x=.int (lo+i),fun i _=>n<=i⟩
theorem zZ5 {P:Program}{w:World}{K:KFr}{tg:Expr}(a it:Addr):Turn P w K tg (Itl K a) [it] it (fun i h=>h.IsListIter it a i) where
 mem:=by simp
 obj:=fun i h st b hb=>by
  have e:b=it:=by simpa using hb
  subst e
  obtain⟨o,e,c,d⟩:=st
  exact⟨o,e,fun v z=>by rw[d] at z;cases z⟩
 keep:=fun i h h' st k=>st.at fun o e=>k it (by simp) o e
 item:=by
  intro X hP hw hK hc i pins s σ H E I hf st hg
  subst hP hw hK
  obtain⟨xs,x,hq,hx⟩:=hg
  obtain⟨its,rv,p,hz⟩:=I.list hq
  obtain⟨u,hu,ru⟩:=rv.get hx
  obtain⟨f0,f1,f2,f3,f4,f5⟩:=hf it (by simp)
  refine wpAny_pyNext_list_item st p.isList (x:=u) (by simpa using hu) fun h' st' sb => ?_
  have I1:Inv X pins σ H { s with heap:=h' }:=I.turned (t':=s.toks) (fun b o hb e=>(sb.2 b hb).trans e) f0 f1 f3 f4 f5
  obtain⟨o,e,c,d⟩:=id st'
  exact⟨u,rfl,zI9 (s:={ s with heap:=h' }) e c d (by decide) ⟨x,H,I1,ru,⟨rfl,fun ys hy=>by rw[I.zU2 hy hq];exact hx⟩,st',fun b hb=>(hf b hb).1⟩⟩
 done:=by
  intro X hP hw hK hc i pins s σ H E I hf st hg
  subst hP hw hK
  obtain⟨xs,hq,hx⟩:=hg
  obtain⟨its,rv,p,hz⟩:=I.list hq
  obtain⟨f0,f1,f2,f3,f4,f5⟩:=hf it (by simp)
  have hl:=rv.length
  exact wpAny_pyNext_list_end (I.ok.hd hc) st p.isList (by simp;bv_omega) fun h' eb=>⟨rfl,I.turned (t':=s.toks) (fun b o hb e=>eb b o hb e) f0 f1 f3 f4 f5⟩
 self:=fun _ _ _ _ _ st h=>wpAny_pyIter_listiter st h
theorem zF6 {P:Program}{w:World}{K:KFr}{tg:Expr}(a it:Addr):Turn P w K tg (Itt K a) [it] it (fun i h=>h.IsTupleIter it a i) where
 mem:=by simp
 obj:=fun i h st b hb=>by
  have e:b=it:=by simpa using hb
  subst e
  obtain⟨o,e,c,d⟩:=st
  exact⟨o,e,fun v z=>by rw[d] at z;cases z⟩
 keep:=fun i h h' st k=>st.at fun o e=>k it (by simp) o e
 item:=by
  intro X hP hw hK hc i pins s σ H E I hf st hg
  subst hP hw hK
  obtain⟨xs,x,hq,hx⟩:=hg
  obtain⟨its,rv,p,hz⟩:=I.tuple hq
  obtain⟨u,hu,ru⟩:=rv.get hx
  obtain⟨f0,f1,f2,f3,f4,f5⟩:=hf it (by simp)
  refine wpAny_pyNext_tuple_item st (show s.heap.IsTuple a its.toArray from p) (x:=u) (by simpa using hu) fun h' st' sb => ?_
  have I1:Inv X pins σ H { s with heap:=h' }:=I.turned (t':=s.toks) (fun b o hb e=>(sb.2 b hb).trans e) f0 f1 f3 f4 f5
  obtain⟨o,e,c,d⟩:=id st'
  exact⟨u,rfl,zI9 (s:={ s with heap:=h' }) e c d (by decide) ⟨x,H,I1,ru,⟨rfl,fun ys hy=>by rw[I.aD hy hq];exact hx⟩,st',fun b hb=>(hf b hb).1⟩⟩
 done:=by
  intro X hP hw hK hc i pins s σ H E I hf st hg
  subst hP hw hK
  obtain⟨xs,hq,hx⟩:=hg
  obtain⟨its,rv,p,hz⟩:=I.tuple hq
  obtain⟨f0,f1,f2,f3,f4,f5⟩:=hf it (by simp)
  have hl:=rv.length
  exact wpAny_pyNext_tuple_end (I.ok.hd hc) st (show s.heap.IsTuple a its.toArray from p) (by simp;bv_omega) fun h' eb=>⟨rfl,I.turned (t':=s.toks) (fun b o hb e=>eb b o hb e) f0 f1 f3 f4 f5⟩
 self:=fun _ _ _ _ _ st h=>wpAny_pyIter_tupleiter st h
theorem zE3 {P:Program}{w:World}{K:KFr}{tg:Expr}(it:Addr) (lo:Int) (n:Nat):Turn P w K tg (Itr lo n) [it] it (fun i h=>IsRangeIter h it (lo+(i:Nat)*1) ((n:Int)-(i:Nat)) 1) where
 mem:=by simp
 obj:=fun i h st b hb=>by
  have e:b=it:=by simpa using hb
  subst e
  exact⟨_,st,fun v z=>by
   have z':Data.fields _=Data.cell v:=z
   cases z'⟩
 keep:=fun i h h' st k=>k it (by simp) _ st
 item:=by
  intro X hP hw hK hc i pins s σ H E I hf st hg
  subst hP hw hK
  obtain⟨f0,f1,f2,f3,f4,f5⟩:=hf it (by simp)
  have W:=Walks.range (prog:=X.prog) (w:=X.w) (I.ok.hd hc) it lo 1 n
  refine W.item i s _ _ hg st fun v h' tk hv st' kk => ?_
  obtain⟨t,rfl⟩:=hv
  have I1:Inv X pins σ H { s with heap:=h',toks:=tk }:=I.turned (fun b o hb e=>kk b o (by simpa using hb) e) f0 f1 f3 f4 f5
  refine⟨_,rfl,zI9 (s:={ s with heap:=h',toks:=tk }) (n:="range_iterator") st' rfl rfl (by decide) ⟨.int (lo+i),H,I1,⟨t,?_⟩,⟨rfl,rfl⟩,st',fun b hb=>(hf b hb).1⟩⟩
  rw[Int.mul_one]
 done:=by
  intro X hP hw hK hc i pins s σ H E I hf st hg
  subst hP hw hK
  obtain⟨f0,f1,f2,f3,f4,f5⟩:=hf it (by simp)
  exact wpAny_pyNext_range_end (I.ok.hd hc) st (by have:n<=i:=hg;bv_omega) fun h' eb=>⟨rfl,I.turned (t':=s.toks) (fun b o hb e=>eb b o hb e) f0 f1 f3 f4 f5⟩
 self:=fun _ _ _ _ _ st h=>wpAny_pyIter_rangeiter st h
section
variable {X:Cx}{tg:Expr}
def iList (K:KFr) (tl:TE):TI:=fun σ H R=>tl σ H fun x H1=>∃a,x=.ref a/\(∃xs,SqL K H1 a xs)/\R (Itl K a) H1
theorem yJ1 {l:Expr}{tl:TE}(hl:PE X l tl):PI X tg l (iList X.K tl):=by
 intro pins s σ H R I h
 refine thn (hl pins s σ H _ I h) fun v s1 ⟨x,H1,I1,r1,q1⟩ => ?_
 obtain⟨a,e,⟨xs,hq⟩,q⟩:=q1
 subst e
 cases r1
 obtain⟨its,rv,p,hz⟩:=I1.list hq
 refine wpAny_pyIter_list p.isList ?_
 refine⟨s1.heap.objs.size,[s1.heap.objs.size],_,_,H1,rfl,I1.kept (t':=s1.toks) fun b o e=>Heap.get?_push_of_some _ e,zZ5 a _,⟨_,Heap.get?_push_size _ rfl,rfl,rfl⟩,fun b hb => ?_,q⟩
 have e:b=s1.heap.objs.size:=by simpa using hb
 subst e
 exact I1.fpOk (Nat.le_refl _) (I1.hok.fresh (Nat.le_refl _))
theorem yQ4 {pins:List (Addr×Obj)}{σ:St}{H:Hp}{s:Shared}{R:It->Hp->Prop}{E:Value->Shared->Prop}{lo hi:Int}{t u v:Tok}{tk:Nat}(I:Inv X pins σ H s) (h1:-(2 ^ 62)<=lo) (h2:lo<2 ^ 62) (h3:-(2 ^ 62)<=hi) (h4:hi<2 ^ 62)
  (q:R (Itr lo (hi-lo).toNat) H):wpAny (model X.prog X.w) X.A (pyIter (.ref s.heap.objs.size)) (PIE X pins σ tg R) E { s with heap:=s.heap.push { cls:=.type "range",data:=.fields #[.int lo t,.int hi u,.int 1 v] },toks:=tk }:=by
 refine wpAny_pyIter_range (IsRange.new ..) (small_one h1 h2 h3 h4) ?_
 have I1:Inv X pins σ H { s with heap:=s.heap.push { cls:=.type "range",data:=.fields #[.int lo t,.int hi u,.int 1 v] },toks:=tk }:=I.kept fun b o e=>Heap.get?_push_of_some _ e
 refine⟨(s.heap.push { cls:=.type "range",data:=.fields #[.int lo t,.int hi u,.int 1 v] }).objs.size,[(s.heap.push { cls:=.type "range",data:=.fields #[.int lo t,.int hi u,.int 1 v] }).objs.size],_,_,H,rfl,
  I1.kept (t':=tk) fun b o e=>Heap.get?_push_of_some _ e,zE3 _ lo (hi-lo).toNat,?_,fun b hb => ?_,q⟩
 ·have e1:lo+((0:Nat):Int)*1=lo:=by simp
  have e2:(((hi-lo).toNat:Nat):Int)-((0:Nat):Int)=Builtin.Range.rangeSize lo hi 1:=by rw[rangeSize_one];split <;> bv_omega
  show IsRangeIter _ _ (lo+((0:Nat):Int)*1) ((((hi-lo).toNat:Nat):Int)-((0:Nat):Int)) 1
  rw[e1,e2]
  exact Heap.get?_push_size _ rfl
 ·have e:b=(s.heap.push { cls:=.type "range",data:=.fields #[.int lo t,.int hi u,.int 1 v] }).objs.size:=by simpa using hb
  subst e
  exact I1.fpOk (Nat.le_refl _) (I1.hok.fresh (Nat.le_refl _))
def iRng1 (ta:TA):TI:=fun σ H R=>ta σ H fun vs H1=>∃j:Int,vs=[.int j]/\-(2 ^ 62)<=j/\j<2 ^ 62/\R (Itr 0 j.toNat) H1
theorem wC {a:Expr}{ta:TA}{p pos:Pos}(hg:Gl X "range") (hm:X.mg "range" = none) (ha:PA X [a] ta) (hs:autoParam (starEach [a] X.env=[(false,eval a X.env)]) zZ._auto_1):PI X tg (.Call (.Name "range" p) [a] [] pos) (iRng1 ta):=by
 intro pins s σ H R I h
 refine Call_ (gK I hg hm boot_range (PyProof.Rows.callWith_type1 (thn (ha pos pins s σ H _ I h) fun us s1 ⟨vs,H1,I1,r1,q1⟩ => ?_) hs rfl))
 obtain⟨j,e,q1,q2,q⟩:=q1
 subst e
 cases r1 with
 | cons r rr =>
  cases rr
  obtain⟨t,rfl⟩:=r
  exact call_range_1 (yQ4 I1 (by bv_omega) (by bv_omega) q1 q2 (by simpa using q))
def tFor (wi:TI) (g:TG) (tb:TS):TS:=fun D σ H=>wi σ H fun J H1=>∃W:Nat->Nat->St->Hp->Prop,(∃m,W 0 m σ H1)/\∀i m σ H,W i m σ H ->
 (J.stop i H/\D.nx σ H)\/(J.go i H/\∃N:St->Hp->Prop,(∀σ' H',N σ' H'->∃m',m'<m/\W (i+1) m' σ' H')/\∀x H',J.yld i H x H'->g x σ H' fun σ2 H2=>tb { D with nx:=N,ct:=N,bk:=D.nx } σ2 H2)
def pinsAt (fp:List Addr) (h:Heap):List (Addr×Obj):=fp.filterMap fun b=>(h.get? b).map fun o=>(b,o)
theorem xA {fp:List Addr}{h:Heap}{b:Addr}{o:Obj}(hb:b∈fp) (e:h.get? b=some o):(b,o)∈pinsAt fp h:=List.mem_filterMap.mpr ⟨b,hb,by rw[e];rfl⟩
theorem yW4 {fp:List Addr}{h:Heap}{p:Addr×Obj}(hp:p∈pinsAt fp h):p.1∈fp/\h.get? p.1=some p.2:=by
 obtain⟨b,hb,e⟩:=List.mem_filterMap.mp hp
 cases q:h.get? b with
 | none=>rw[q] at e;cases e
 | some o =>
  rw[q] at e
  have e':(b,o)=p:=Option.some.inj e
  subst e'
  exact⟨hb,q⟩
theorem Inv.pinned {pins:List (Addr×Obj)}{σ:St}{H:Hp}{s:Shared}{fp:List Addr}(I:Inv X pins σ H s) (hf:∀b∈fp,FpOk X pins H b) (ho:∀b∈fp,∃o,s.heap.get? b=some o/\∀v,o.data ≠ .cell v):Inv X (pins++pinsAt fp s.heap) σ H s :=
 I.yC fun p hp=>(List.mem_append.mp hp).elim (fun z=>I.pin p (List.mem_append_right _ z)) fun z=>by
  obtain⟨hb,e⟩:=yW4 z
  obtain⟨f0,f1,f2,_⟩:=hf p.1 hb
  obtain⟨o,e',d⟩:=ho p.1 hb
  rw[e] at e';cases e'
  exact⟨e,f0,f1,f2,d⟩
theorem Inv.unpinned {pins pl:List (Addr×Obj)}{σ:St}{H:Hp}{s:Shared}(I:Inv X (pins++pl) σ H s):Inv X pins σ H s:=I.yC fun p hp=>I.pin p (List.mem_append_right _ (List.mem_append_left _ hp))
theorem cV {iter:Expr}{body:List Stmt}{wi:TI}{g:TG}{tb:TS}{pos:Pos}(hp:PassesOwn (model X.prog X.w) X.A X.env X.xe) (hc:X.calm=true) (hi:PI X tg iter wi) (hg:PG X tg g) (hb:PSs X body tb)
  (hs:autoParam (∀x,foldedSetIterable iter X.env x=pure x) xB._auto_1):PS X (.For tg iter body [] pos) (tFor wi g tb):=by
 intro pins s σ H D I h
 refine wpAny_For (thn (hi pins s σ H _ I h) fun v s1 h1=>thn h1 fun itv s2 h2 => ?_) hs
 obtain⟨it,fp,tn,J,H2,e,I2,T,st2,f2,W,⟨m0,w0⟩,turn⟩:=h2
 subst e
 have stat:∀{H':Hp},(∀b∈fp,H' b=none)->∀b∈fp,FpOk X pins H' b:=fun hn b hb=>⟨hn b hb,(f2 b hb).2⟩
 refine codeAny_forLoop_any (fun n s'=>∃i σ' H',Inv X pins σ' H' s'/\tn i s'.heap/\(∀b∈fp,H' b=none)/\W i n σ' H') ?_ m0 ⟨0,σ,H2,I2,st2,fun b hb=>(f2 b hb).1,w0⟩
 rintro n s3 ⟨i,σ3,H3,I3,st3,fr3,w3⟩
 rcases turn i n σ3 H3 w3 with ⟨stop,qn⟩ | ⟨go,N,hN,step⟩
 ·refine wpAny_passesOwn hp (thn (T.done X rfl rfl rfl hc i pins s3 σ3 H3 X.xe I3 (stat fr3) st3 stop) fun r s4 ⟨hr,I4⟩ => ?_)
  subst hr
  exact wpAny_execs_nil ⟨σ3,H3,I4,qn⟩
 ·refine wpAny_passesOwn hp (thn (T.item X rfl rfl rfl hc i pins s3 σ3 H3 X.xe I3 (stat fr3) st3 go) fun r s4 ⟨u,hr,h4⟩ => ?_)
  subst hr
  refine wpAny_passesOwn hp (thn h4 fun _ s5 ⟨x,H5,I5,r5,y5,st5,fr5⟩ => ?_)
  have I5':=I5.pinned (stat fr5) (T.obj _ _ st5)
  refine wpAny_passesOwn hp (thn (hg _ s5 σ3 H5 x u _ I5' r5 (step x H5 y5)) fun _ s6 ⟨σ6,H6,I6,q6⟩ => ?_)
  refine wpAny_passesOwn hp (thn (hb _ s6 σ6 H6 _ I6 q6) fun f s7 q7 => ?_)
  have again:∀{σ7:St}{H7:Hp},Inv X (pins++pinsAt fp s5.heap) σ7 H7 s7->N σ7 H7->∃m,m<n/\∃i σ' H',Inv X pins σ' H' s7/\tn i s7.heap/\(∀b∈fp,H' b=none)/\W i m σ' H':=fun {σ7 H7} I7 n7=>by
   obtain⟨m',hm,w7⟩:=hN σ7 H7 n7
   refine⟨m',hm,i+1,σ7,H7,I7.unpinned,T.keep _ _ _ st5 fun b hb o e=>(I7.pin (b,o) (List.mem_append_right _ (List.mem_append_right _ (xA hb e)))).1,fun b hb => ?_,w7⟩
   obtain⟨o,e,d⟩:=T.obj _ _ st5 b hb
   exact (I7.pin (b,o) (List.mem_append_right _ (List.mem_append_right _ (xA hb e)))).2.1
  cases f with
  | next=>obtain⟨σ7,H7,I7,n7⟩:=q7;exact again I7 n7
  | cont=>obtain⟨σ7,H7,I7,n7⟩:=q7;exact again I7 n7
  | brk=>obtain⟨σ7,H7,I7,q7⟩:=q7;exact⟨σ7,H7,I7.unpinned,q7⟩
  | ret v=>obtain⟨x7,σ7,H7,I7,r7,q7⟩:=q7;exact⟨x7,σ7,H7,I7.unpinned,r7,q7⟩
end
theorem yR3 {K:KFr}{a:Addr}{xs:List V}{g:TG}{tb:TS}{D:Ends}{σ:St}{H:Hp}(Pv:Nat->St->Hp->Prop) (h0:Pv 0 σ H) (hl:∀i σ H,i<=xs.length->Pv i σ H->SqL K H a xs)
  (hs:∀i x σ H,xs[i]?=some x->Pv i σ H->g x σ H fun σ2 H2=>tb { D with nx:=Pv (i+1),ct:=Pv (i+1),bk:=D.nx } σ2 H2) (hd:∀σ H,Pv xs.length σ H->D.nx σ H) :
  ∃W:Nat->Nat->St->Hp->Prop,(∃m,W 0 m σ H)/\∀i m σ H,W i m σ H ->
   ((Itl K a).stop i H/\D.nx σ H)\/((Itl K a).go i H/\∃N:St->Hp->Prop,(∀σ' H',N σ' H'->∃m',m'<m/\W (i+1) m' σ' H')/\∀x H',(Itl K a).yld i H x H'->g x σ H' fun σ2 H2=>tb { D with nx:=N,ct:=N,bk:=D.nx } σ2 H2):=by
 refine⟨fun i m σ H=>m=xs.length-i/\i<=xs.length/\Pv i σ H,⟨xs.length,by simp,Nat.zero_le _,h0⟩,?_⟩
 rintro i m σ H ⟨rfl,hi,p⟩
 have q:=hl i σ H hi p
 by_cases hlt:i<xs.length
 ·refine .inr ⟨⟨xs,xs[i],q,by simp[hlt]⟩,Pv (i+1),fun σ' H' p'=>⟨xs.length-(i+1),by bv_omega,rfl,hlt,p'⟩,fun x H' y => ?_⟩
  obtain⟨e,y⟩:=y
  subst e
  exact hs i x σ _ (y xs q) p
 ·have e:i=xs.length:=by bv_omega
  subst e
  exact .inl ⟨⟨xs,q,Nat.le_refl _⟩,hd σ H p⟩
theorem zZ4 {lo:Int}{n:Nat}{g:TG}{tb:TS}{D:Ends}{σ:St}{H:Hp}(Pv:Nat->St->Hp->Prop) (h0:Pv 0 σ H)
  (hs:∀i σ H,i<n->Pv i σ H->g (.int (lo+i)) σ H fun σ2 H2=>tb { D with nx:=Pv (i+1),ct:=Pv (i+1),bk:=D.nx } σ2 H2) (hd:∀σ H,Pv n σ H->D.nx σ H) :
  ∃W:Nat->Nat->St->Hp->Prop,(∃m,W 0 m σ H)/\∀i m σ H,W i m σ H ->
   ((Itr lo n).stop i H/\D.nx σ H)\/((Itr lo n).go i H/\∃N:St->Hp->Prop,(∀σ' H',N σ' H'->∃m',m'<m/\W (i+1) m' σ' H')/\∀x H',(Itr lo n).yld i H x H'->g x σ H' fun σ2 H2=>tb { D with nx:=N,ct:=N,bk:=D.nx } σ2 H2):=by
 refine⟨fun i m σ H=>m=n-i/\i<=n/\Pv i σ H,⟨n,by simp,Nat.zero_le _,h0⟩,?_⟩
 rintro i m σ H ⟨rfl,hi,p⟩
 by_cases hlt:i<n
 ·refine .inr ⟨hlt,Pv (i+1),fun σ' H' p'=>⟨n-(i+1),by bv_omega,rfl,hlt,p'⟩,fun x H' y => ?_⟩
  obtain⟨e,y⟩:=y
  subst e y
  exact hs i σ _ hlt p
 ·have e:i=n:=by bv_omega
  subst e
  exact .inl ⟨Nat.le_refl _,hd σ H p⟩
abbrev R2:=V->V->Hp->VK->Prop
def OpR (X:Cx) (f:Value->Value->Sem Value) (r:R2):Prop :=
 ∀(pins:List (Addr×Obj)) (s:Shared) (σ:St) (H:Hp) (x y:V) (v u:Value) (Q:VK),Inv X pins σ H s->RelV x v->RelV y u->r x y H Q ->
  wpAny (model X.prog X.w) X.A (f v u) (EP X pins σ Q) X.xe s
def UnR (X:Cx) (f:Value->Sem Value) (r:V->Hp->VK->Prop):Prop :=
 ∀(pins:List (Addr×Obj)) (s:Shared) (σ:St) (H:Hp) (x:V) (v:Value) (Q:VK),Inv X pins σ H s->RelV x v->r x H Q ->
  wpAny (model X.prog X.w) X.A (f v) (EP X pins σ Q) X.xe s
def CallR (X:Cx) (f:Value) (r:List V->Hp->VK->Prop):Prop :=
 ∀(pins:List (Addr×Obj)) (s:Shared) (σ:St) (H:Hp) (xs:List V) (us:List Value) (Q:VK),Inv X pins σ H s->Vals xs us->r xs H Q ->
  wpAny (model X.prog X.w) X.A (call f us) (EP X pins σ Q) X.xe s
def tOp (r:R2) (ta tb:TE):TE:=fun σ H Q=>ta σ H fun x H1=>tb σ H1 fun y H2=>r x y H2 Q
def tUn (r:V->Hp->VK->Prop) (ta:TE):TE:=fun σ H Q=>ta σ H fun x H1=>r x H1 Q
def rI (C:Int->Int->Prop) (g:Int->Int->V):R2:=fun x y H Q=>∃i j,x=.int i/\y=.int j/\C i j/\Q (g i j) H
def rI0 (g:Int->Int->V):R2:=fun x y H Q=>∃i j,x=.int i/\y=.int j/\Q (g i j) H
def rU (g:Int->V):V->Hp->VK->Prop:=fun x H Q=>∃i,x=.int i/\Q (g i) H
section
variable {X:Cx}{a b c:Expr}{ta tb tc:TE}{pos:Pos}
theorem binT (ha:PE X a ta) (hb:PE X b tb){pins:List (Addr×Obj)}{s:Shared}{σ:St}{H:Hp}{R:V->V->Hp->Prop}(I:Inv X pins σ H s)
  (h:ta σ H fun x H1=>tb σ H1 fun y H2=>R x y H2){Q:Value->Shared->Prop}{f:Value->Value->Sem Value}
  (hf:∀v u s2 x y H2,Inv X pins σ H2 s2->RelV x v->RelV y u->R x y H2->wpAny (model X.prog X.w) X.A (f v u) Q X.xe s2) :
  wpAny (model X.prog X.w) X.A (eval a X.env) (fun v s₁=>wpAny (model X.prog X.w) X.A (eval b X.env) (fun u s₂=>wpAny (model X.prog X.w) X.A (f v u) Q X.xe s₂) X.xe s₁) X.xe s:=by
 refine thn (ha pins s σ H _ I h) fun v s1 ⟨x,H1,I1,r1,q1⟩ => ?_
 refine thn (hb pins s1 σ H1 _ I1 q1) fun u s2 ⟨y,H2,I2,r2,q2⟩ => ?_
 exact hf v u s2 x y H2 I2 r1 r2 q2
theorem uB {op:Operator}{r:R2}(ho:OpR X (binaryOp op) r) (ha:PE X a ta) (hb:PE X b tb):PE X (.BinOp a op b pos) (tOp r ta tb):=by
 intro pins s σ H Q I h
 exact wpAny_BinOp (binT ha hb I h fun v u s2 x y H2 I2 rx ry q=>ho pins s2 σ H2 x y v u Q I2 rx ry q)
theorem xR3 {op:UnaryOp}{r:V->Hp->VK->Prop}(ho:UnR X (unaryOp op) r) (ha:PE X a ta):PE X (.UnaryOp op a pos) (tUn r ta):=by
 intro pins s σ H Q I h
 exact UnaryOp_ (thn (ha pins s σ H _ I h) fun v s1 ⟨x,H1,I1,r1,q1⟩=>ho pins s1 σ H1 x v Q I1 r1 q1)
theorem opI {f:Value->Value->Sem Value}{C:Int->Int->Prop}{g:Int->Int->Int}
  (rule:∀(i j:Int) (t u:Tok) (s:Shared) (Q:Value->Shared->Prop) (E:Value->Shared->Prop),C i j->Q (.int (g i j) s.toks) { s with toks:=s.toks+1 }->wpAny (model X.prog X.w) X.A (f (.int i t) (.int j u)) Q E s) :
  OpR X f (rI C fun i j=>.int (g i j)):=by
 intro pins s σ H x y v u Q I rx ry h
 obtain⟨i,j,rfl,rfl,hc,q⟩:=h
 obtain⟨t,rfl⟩:=rx
 obtain⟨t',rfl⟩:=ry
 exact rule i j t t' s _ _ hc ⟨.int (g i j),H,I.tok _,⟨_,rfl⟩,q⟩
theorem opI0 {f:Value->Value->Sem Value}{g:Int->Int->Int}
  (rule:∀(i j:Int) (t u:Tok) (s:Shared) (Q:Value->Shared->Prop) (E:Value->Shared->Prop),Q (.int (g i j) s.toks) { s with toks:=s.toks+1 }->wpAny (model X.prog X.w) X.A (f (.int i t) (.int j u)) Q E s) :
  OpR X f (rI0 fun i j=>.int (g i j)):=by
 intro pins s σ H x y v u Q I rx ry h
 obtain⟨i,j,rfl,rfl,q⟩:=h
 obtain⟨t,rfl⟩:=rx
 obtain⟨t',rfl⟩:=ry
 exact rule i j t t' s _ _ ⟨.int (g i j),H,I.tok _,⟨_,rfl⟩,q⟩
theorem opB0 {f:Value->Value->Sem Value}{g:Int->Int->Bool}
  (rule:∀(i j:Int) (t u:Tok) (s:Shared) (Q:Value->Shared->Prop) (E:Value->Shared->Prop),Q (.bool (g i j)) s->wpAny (model X.prog X.w) X.A (f (.int i t) (.int j u)) Q E s) :
  OpR X f (rI0 fun i j=>.bl (g i j)):=by
 intro pins s σ H x y v u Q I rx ry h
 obtain⟨i,j,rfl,rfl,q⟩:=h
 obtain⟨t,rfl⟩:=rx
 obtain⟨t',rfl⟩:=ry
 exact rule i j t t' s _ _ ⟨.bl (g i j),H,I,rfl,q⟩
theorem cG:OpR X (binaryOp .Add) (rI0 fun i j=>.int (i+j)):=opI0 fun _ _ _ _ _ _ _ q=>add_int q
theorem zS1:OpR X (binaryOp .Sub) (rI0 fun i j=>.int (i-j)):=opI0 fun _ _ _ _ _ _ _ q=>sub_int q
theorem xW3:OpR X (binaryOp .Mod) (rI (fun _ j=>0<j) fun i j=>.int (i%j)):=opI fun i j _ _ _ _ _ hc q=>by
 have h1:(0:Int)<j:=hc
 exact mod_int' (by bv_omega) (by rw[Int.fmod_eq_emod_of_nonneg i (by bv_omega)];exact q)
theorem unI {f:Value->Sem Value}{g:Int->Int}
  (rule:∀(i:Int) (t:Tok) (s:Shared) (Q:Value->Shared->Prop) (E:Value->Shared->Prop),Q (.int (g i) s.toks) { s with toks:=s.toks+1 }->wpAny (model X.prog X.w) X.A (f (.int i t)) Q E s) :
  UnR X f (rU fun i=>.int (g i)):=by
 intro pins s σ H x v Q I rx h
 obtain⟨i,rfl,q⟩:=h
 obtain⟨t,rfl⟩:=rx
 exact rule i t s _ _ ⟨.int (g i),H,I.tok _,⟨_,rfl⟩,q⟩
theorem xZ8:UnR X (unaryOp .USub) (rU fun i=>.int (-i)):=unI fun _ _ _ _ _ q=>neg_int q
end
section
variable {X:Cx}{a b c:Expr}{ta tb tc:TE}{pos:Pos}
theorem yM4:OpR X (compareOp .Lt) (rI0 fun i j=>.bl (decide (i<j))):=opB0 fun _ _ _ _ _ _ _ q=>lt_int q
theorem zW3:OpR X (compareOp .LtE) (rI0 fun i j=>.bl (decide (i<=j))):=opB0 fun _ _ _ _ _ _ _ q=>le_int q
theorem yL4:OpR X (compareOp .Gt) (rI0 fun i j=>.bl (decide (j<i))):=opB0 fun _ _ _ _ _ _ _ q=>gt_int q
theorem nomark (b:Expr){op:CmpOp}(h:autoParam (op ≠ .In) zL._auto_1) (h2:autoParam (op ≠ .NotIn) zL._auto_1):behindInMarks op b=false:=by
 have e1:(op == CmpOp.In)=false:=by cases op <;> first | rfl | exact absurd rfl h
 have e2:(op == CmpOp.NotIn)=false:=by cases op <;> first | rfl | exact absurd rfl h2
 cases b <;> simp[behindInMarks,e1,e2]
theorem zK6 {op:CmpOp}{r:R2}(ho:OpR X (compareOp op) r) (ha:PE X a ta) (hb:PE X b tb) (hm:behindInMarks op b=false):PE X (.Compare a [op] [b] pos) (tOp r ta tb):=by
 intro pins s σ H Q I h
 exact wpAny_Compare1 (binT ha hb I h fun v u s2 x y H2 I2 rx ry q=>ho pins s2 σ H2 x y v u Q I2 rx ry q) hm
def tTest (t:TE):TT:=fun σ H Q=>t σ H fun x H'=>∃k,x=.bl k/\Q k H'
theorem wE {op:CmpOp}{r:R2}(ho:OpR X (compareOp op) r) (ha:PE X a ta) (hb:PE X b tb) (hm:behindInMarks op b=false):PT X (.Compare a [op] [b] pos) (tTest (tOp r ta tb)):=by
 intro pins s σ H Q I h
 refine wpAny_isTrue_Compare1 (thn (ha pins s σ H _ I h) fun v s1 ⟨x,H1,I1,r1,q1⟩=>thn (hb pins s1 σ H1 _ I1 q1) fun u s2 ⟨y,H2,I2,r2,q2⟩ =>
  thn (ho pins s2 σ H2 x y v u _ I2 r1 r2 q2) fun c s3 ⟨z,H3,I3,r3,k,e,q3⟩ => ?_) hm
 subst e
 cases r3
 exact wpAny_truthy_bool ⟨H3,I3,q3⟩
def tChain (r r':R2) (ta tb tc:TE):TE:=fun σ H Q=>ta σ H fun x H1=>tb σ H1 fun y H2=>r x y H2 fun z H3=>∃k,z=.bl k /\
 (if k=true then tc σ H3 fun w' H4=>r' y w' H4 Q else Q (.bl false) H3)
theorem yO2 {op op':CmpOp}{r r':R2}(ho:OpR X (compareOp op) r) (ho':OpR X (compareOp op') r') (ha:PE X a ta) (hb:PE X b tb) (hc:PE X c tc)
  (hm:autoParam (lastMarks [op,op'] [b,c]=false) bW._auto_1):PE X (.Compare a [op,op'] [b,c] pos) (tChain r r' ta tb tc):=by
 intro pins s σ H Q I h
 refine Compare_chain (thn (ha pins s σ H _ I h) fun v s1 ⟨x,H1,I1,r1,q1⟩=>chain_link (thn (hb pins s1 σ H1 _ I1 q1) fun u s2 ⟨y,H2,I2,r2,q2⟩ =>
  thn (ho pins s2 σ H2 x y v u _ I2 r1 r2 q2) fun d s3 ⟨z,H3,I3,r3,k,e,q3⟩ => ?_)) hm
 subst e
 cases r3
 refine wpAny_truthy_bool ?_
 cases k with
 | false=>exact ite_ff ⟨.bl false,H3,I3,rfl,q3⟩
 | true=>exact ite_tt (chain_last (thn (hc pins s3 σ H3 _ I3 q3) fun w' s4 ⟨z',H4,I4,r4,q4⟩=>ho' pins s4 σ H4 y z' u w' Q I4 r2 r4 q4))
theorem yN2 {op op':CmpOp}{r r':R2}(ho:OpR X (compareOp op) r) (ho':OpR X (compareOp op') r') (ha:PE X a ta) (hb:PE X b tb) (hc:PE X c tc)
  (hm:autoParam (lastMarks [op,op'] [b,c]=false) bW._auto_1):PT X (.Compare a [op,op'] [b,c] pos) (tTest (tChain r r' ta tb tc)):=by
 intro pins s σ H Q I h
 refine isTrue_chain (thn (ha pins s σ H _ I h) fun v s1 ⟨x,H1,I1,r1,q1⟩=>test_link (thn (hb pins s1 σ H1 _ I1 q1) fun u s2 ⟨y,H2,I2,r2,q2⟩ =>
  thn (ho pins s2 σ H2 x y v u _ I2 r1 r2 q2) fun d s3 ⟨z,H3,I3,r3,k,e,q3⟩ => ?_)) hm
 subst e
 cases r3
 refine wpAny_truthy_bool ?_
 cases k with
 | false =>
  obtain⟨k',e',q'⟩:=q3
  cases e'
  exact ite_ff ⟨H3,I3,q'⟩
 | true =>
  refine ite_tt (test_last (thn (hc pins s3 σ H3 _ I3 q3) fun w' s4 ⟨z',H4,I4,r4,q4⟩=>thn (ho' pins s4 σ H4 y z' u w' _ I4 r2 r4 q4) fun d' s5 ⟨z2,H5,I5,r5,k2,e2,q5⟩ => ?_))
  subst e2
  cases r5
  exact wpAny_truthy_bool ⟨H5,I5,q5⟩
theorem line63:(sizeLine:Nat)<2 ^ 63:=by rw[sizeLine_eq];decide
theorem vals1 {x:V}{us:List Value}(r:Vals [x] us):∃u,us=[u]/\RelV x u:=by
 cases r with
 | cons r1 r2=>cases r2;exact⟨_,rfl,r1⟩
end
structure ObjM (h:Heap) (x dx C:Addr) (mA:Str->Option Value):Prop where
 obj:h.get? x=some (PySem.W.instObj C dx)
 ns:h.Ns1 dx mA
 ne:dx≠x
section
variable {prog:Program}{w:World}{A:Around}{E:Value->Shared->Prop}{s:Shared}{K:KFr}{x dx C f:Addr}{mA:Str->Option Value}{name:Str}{v:Value}
end
section
variable {P:Program}{w:World}{H H':Hp}{h h':Heap}{a C dx:Addr}{fs fs':List (Str×V)}
end
structure Cls (K:KFr) (C:Addr):Prop where
 pg:PySem.W.plainGet K C Str.empty=true
 hd:PySem.W.hasDictIn K C=true
 po:PySem.W.plainOver K C=true
 sa:PySem.W.findIn K (.ref C) "__setattr__" = some (some (.builtin "object.__setattr__"))
structure Con (K:KFr) (C:Addr) (f:Str) (v:V) (u:Value):Prop where
 at_:PySem.W.findIn K (.ref C) f=some (some u)
 rel:RelV v u
 get:PySem.W.specialIn K u "__get__" = some none
 cp:PySem.W.copiedNames.contains f=false
structure Meth (K:KFr) (C:Addr) (m:Str) (f:Addr):Prop where
 at_:PySem.W.findIn K (.ref C) m=some (some (.ref f))
 fn:PySem.W.isFn K (.ref f)=true
 kp:PySem.W.keepIn K (.ref f)=true
section
variable {X:Cx}{pins:List (Addr×Obj)}{σ:St}{H:Hp}{s:Shared}{a C dx:Addr}{fs:List (Str×V)}{f:Str}{v:V}{A:Around}{E:Value->Shared->Prop}
end
section
variable {X:Cx}{o e value:Expr}{f:Str}{pos pos' tpos:Pos}{ta tv:TE}
def rAdd:V->V->Hp->VK->Prop:=fun x y H Q=>∃i j,x=.int i/\y=.int j/\Q (.int (i+j)) H
def rSub:V->V->Hp->VK->Prop:=fun x y H Q=>∃i j,x=.int i/\y=.int j/\Q (.int (i-j)) H
end
section
variable {X:Cx}{pins:List (Addr×Obj)}{σ:St}{H:Hp}{s:Shared}{A:Around}{E:Value->Shared->Prop}{Q:Value->Shared->Prop}{c:Value}{b:Bool}
inductive TyOf (K:KFr) (H:Hp):V->Value->Prop where
 | non:TyOf K H .non (.type "NoneType")
 | bl (x:Bool):TyOf K H (.bl x) (.type "bool")
 | int (i:Int):TyOf K H (.int i) (.type "int")
 | str (x:Str):TyOf K H (.str x) (.type "str")
 | flt (x:UInt64):TyOf K H (.flt x) (.type "float")
 | lst {a:Addr}{xs:List V}(e:H a=some (.lst xs)):TyOf K H (.ref a) (.type "list")
 | frz {a:Addr}{o:Obj}{xs:List V}(e:H a=some (.frz o (.lst xs))):TyOf K H (.ref a) (.type "list")
 | tup {a:Addr}{xs:List V}(e:H a=some (.tup xs)):TyOf K H (.ref a) (.type "tuple")
 | dK {a:Addr}{kvs:List (Key×V)}(e:H a=some (.dK kvs)):TyOf K H (.ref a) (.type "dict")
 | dT {a:Addr}{kvs:List (List Key×V)}(e:H a=some (.dT kvs)):TyOf K H (.ref a) (.type "dict")
 | ins {a C dx:Addr}{fs:List (Str×V)}(e:H a=some (.ins C dx fs)) (cl:Cls K C) (ha:PySem.W.findIn K (.ref C) "__class__" = some (some (.builtin "object.__class__")))
   (hn:PySem.W.specialIn K (.builtin "object.__class__") "__get__" = some (some (.builtin "getset_descriptor.__get__"))) (htk:PySem.W.takesIn K (.builtin "object.__class__")=some true)
   (hm:PySem.W.mroIn K C (.type "object")=some true):TyOf K H (.ref a) (.ref C)
end
structure Room (k:Nat) (A:Around):Prop where
 hd:A.handled=none
 dp:A.depth+3*k+5<recursionLimit
 un:A.units+16*k+200<cLine
theorem Room.mono {j k:Nat}{A:Around}(r:Room k A) (h:j<=k):Room j A:=⟨r.hd,by have:=r.dp;bv_omega,by have:=r.un;bv_omega⟩
theorem Room.deeper {k:Nat}{A:Around}(r:Room (k+1) A) (env:Env):Room k (A.deeper env) :=
 ⟨r.hd,by have:=r.dp;show A.depth+1+3*k+5<_;bv_omega,by have:=r.un;show A.units+3+16*k+200<_;bv_omega⟩
theorem Room.in1 {k:Nat}{A:Around}(r:Room (k+1) A):Room k A.in1 :=
 ⟨r.hd,by have:=r.dp;show A.depth+3*k+5<_;bv_omega,by have:=r.un;show A.units+1+16*k+200<_;bv_omega⟩
theorem Room.depth {k:Nat}{A:Around}(r:Room k A):A.depth<recursionLimit:=by have:=r.dp;bv_omega
theorem Room.units {k:Nat}{A:Around}(r:Room k A):A.units+64<cLine:=by have:=r.un;bv_omega
def tNil:TA:=fun _ H Q=>Q [] H
def zR (ta:TE) (tr:TA):TA:=fun σ H Q=>ta σ H fun x H1=>tr σ H1 fun xs H2=>Q (x::xs) H2
section
variable {X:Cx}{e:Expr}{es:List Expr}{te:TE}{t:TA}{pos:Pos}
theorem zO:PA X [] tNil:=fun _ _ _ _ H Q I h=>Calls.spliced_nil ⟨[],H,I,.nil,h⟩
theorem zU (ha:PE X e te) (hr:PA X es t) (hs:autoParam (starEach (e::es) X.env=(false,eval e X.env)::starEach es X.env) zZ._auto_1):PA X (e::es) (zR te t):=by
 intro pos pins s σ H Q I h
 rw[hs]
 show wpAny _ _ (spliced ((false,eval e X.env)::backTo pos (starEach es X.env))) _ _ s
 refine Calls.spliced_cons (thn (ha pins s σ H _ I h) fun u s1 ⟨x,H1,I1,r1,q1⟩ => ?_)
 exact thn (hr pos pins s1 σ H1 _ I1 q1) fun us s2 ⟨xs,H2,I2,r2,q2⟩=>⟨x::xs,H2,I2,.cons r1 r2,q2⟩
def tTup (t:TA):TE:=fun σ H Q=>t σ H fun xs H1=>xs.length<=sizeLine/\∀p,H1 p=none->Q (.ref p) (upd H1 p (.tup xs))
def tLst (t:TA):TE:=fun σ H Q=>t σ H fun xs H1=>xs.length<=sizeLine/\∀p,H1 p=none->Q (.ref p) (upd H1 p (.lst xs))
theorem jT {x1} (h:PA X es t):PE X (.Tuple es x1 pos) (tTup t):=by
 intro pins s σ H Q I hq
 refine wpAny_Tuple_spliced (thn (h pos pins s σ H _ I hq) fun us s1 ⟨xs,H1,I1,r,z,q⟩=>⟨by rw[<-r.length];exact z,?_⟩)
 have hf:H1 s1.heap.objs.size=none:=I1.hok.fresh (Nat.le_refl _)
 refine⟨.ref s1.heap.objs.size,upd H1 s1.heap.objs.size (.tup xs),I1.laid (t':=s1.toks) (fun b u e=>Heap.get?_push_of_some _ e) (Nat.le_refl _) ?_,rfl,q _ hf⟩
 exact⟨z,us,r,TupAt.new _ _⟩
theorem xO (h:PA X es t):PE X (.List es pos) (tLst t):=by
 intro pins s σ H Q I hq
 refine wpAny_List_spliced (thn (h pos pins s σ H _ I hq) fun us s1 ⟨xs,H1,I1,r,z,q⟩=>⟨by rw[<-r.length];exact z,?_⟩)
 have hf:H1 s1.heap.objs.size=none:=I1.hok.fresh (Nat.le_refl _)
 refine⟨.ref s1.heap.objs.size,upd H1 s1.heap.objs.size (.lst xs),I1.laid (t':=s1.toks) (fun b u e=>Heap.get?_push_of_some _ e) (Nat.le_refl _) ?_,rfl,q _ hf⟩
 exact⟨z,us,0,r,Heap.get?_push_size _ rfl⟩
end
abbrev Sp:=List V->Hp->VK->XK->Prop
abbrev CXT:=List Env->Hp->Shared->XK->Value->Shared->Prop
structure Env0 (P:Program) (w:World) (K:KFr) (mg:Str->Option Value) (base:Heap) (A:Around) (outer:List Env) (s:Shared) (H:Hp):Prop where
 frames:A.frames=some outer
 mod:Mod K mg base
 bs:∀b o,base.get? b=some o->s.heap.get? b=some o/\H b=none
 bsz:base.objs.size<=s.heap.objs.size
 funs:s.heap.FunFrames base outer
 frf:∀b∈frs outer,H b=none
 hok:HOk P w H s.heap
 bare:AllBare s.gens
 tb:TabsIn K H
def CE (outer:List Env) (P:Program) (w:World) (H:Hp) (s:Shared) (Q:VK) (u:Value) (s':Shared):Prop :=
 ∃v H',s'.os=s.os/\AllBare s'.gens/\Un (frs outer) [] H H' s.heap s'.heap/\HOk P w H' s'.heap/\RelV v u/\Q v H'
def CR (CX:CXT) (outer:List Env) (P:Program) (w:World) (H:Hp) (s:Shared) (Q:VK) (E:XK) (r:Result) (s':Shared):Prop :=
 match r with
 | .ok (.ret u)=>CE outer P w H s Q u s'
 | .ok _=>False
 | .error e=>CX outer H s E e s'
structure FnOk (P:Program) (w:World) (K:KFr) (mg:Str->Option Value) (base:Heap) (CX:CXT) (k:Nat) (f:Addr) (fd:FuncData) (ps:List Str) (sp:Sp):Prop where
 len:∀vs H Q E,sp vs H Q E->vs.length=ps.length
 run:∀(A:Around) (outer:List Env) (s:Shared) (H:Hp) (args:Args) (us:List Value) (vs:List V) (Q:VK) (E:XK),Room k A->Env0 P w K mg base A outer s H->BindsTo s fd args (ps.zip us)->Vals vs us->sp vs H Q E ->
  codeAny (model P w) A (.call (.ref f) args) (CR CX outer P w H s Q E) s
section
variable {X:Cx}{pins:List (Addr×Obj)}{σ:St}{H:Hp}{s s':Shared}
theorem Inv.env0 (I:Inv X pins σ H s):Env0 X.prog X.w X.K X.mg X.base X.A X.stack s H :=
 ⟨I.ok.frames,I.ok.mod,I.bs,Nat.le_trans I.ok.bsz I.sz,I.stack,I.stkFree,I.hok,I.bare,I.tb⟩
theorem Inv.after {Q:VK}{u:Value}(I:Inv X pins σ H s) (h:CE X.stack X.prog X.w H s Q u s'):EP X pins σ Q u s':=by
 obtain⟨v,H',os,bare,un,hok,r,q⟩:=h
 obtain⟨hh,g,d,t,os'⟩:=s'
 obtain rfl:os'=s.os:=os
 exact⟨v,H',I.call (h':=hh) (g':=g) (d':=d) (t':=t) (ch:=[]) un hok bare (fun b z=>absurd z (by simp)),r,q⟩
end
def tCall (sp:Sp) (dvs:List V) (E:XK) (t:TA):TE:=fun σ H Q=>t σ H fun vs H1=>sp (vs++dvs) H1 Q E
def Binds (K:KFr) (fd:FuncData) (ps:List Str) (ds:List Value):Prop :=
 ∀(s:Shared) (us:List Value),K.In s.heap->(us++ds).length=ps.length->BindsTo s fd ⟨us,[]⟩ (ps.zip (us++ds))
theorem Binds.all {K:KFr}{fd:FuncData}{ps:List Str}(h:∀us:List Value,us.length=ps.length->bindArgs fd ⟨us,[]⟩=pure (ps.zip us)):Binds K fd ps []:=fun s us _ hl=>by
 rw[List.append_nil] at hl ⊢
 exact .of_eq (h us hl)
def Passes (CX:CXT) (X:Cx) (E:XK):Prop:=∀(pins:List (Addr×Obj)) (σ:St) (H:Hp) (s:Shared) (e:Value) (s':Shared),Inv X pins σ H s->CX X.stack H s E e s'->X.xe e s'
section
variable {X:Cx}{CX:CXT}{k:Nat}{f C:Addr}{fd:FuncData}{ps:List Str}{sp:Sp}{dvs:List V}{ds:List Value}{E:XK}{x m:Str}{p pos apos:Pos}{e o:Expr}{es:List Expr}{ta:TE}{t:TA}
theorem yC7 {pins:List (Addr×Obj)}{σ:St}{H:Hp}{s:Shared}{Q:VK}{us:List Value}{vs:List V}(F:FnOk X.prog X.w X.K X.mg X.base CX k f fd ps sp) (hr:Room k X.A) (hb:Binds X.K fd ps ds) (hd:Vals dvs ds) (hx:Passes CX X E)
  (I:Inv X pins σ H s) (r:Vals vs us) (h:sp (vs++dvs) H Q E):wpAny (model X.prog X.w) X.A (call (.ref f) us) (EP X pins σ Q) X.xe s:=by
 have r2:Vals (vs++dvs) (us++ds):=r.append hd
 have hl:(us++ds).length=ps.length:=by rw[<-r2.length];exact F.len _ _ _ _ h
 refine wpAny_call (codeAny_mono (F.run X.A X.stack s H ⟨us,[]⟩ (us++ds) (vs++dvs) Q E hr I.env0 (hb s us I.kIn hl) r2 h) fun r s' hq => ?_)
 cases r with
 | error e=>exact hx pins σ H s e s' I hq
 | ok fl =>
  cases fl with
  | ret u=>exact I.after hq
  | next=>exact False.elim hq
  | brk=>exact False.elim hq
  | cont=>exact False.elim hq
theorem yS (F:FnOk X.prog X.w X.K X.mg X.base CX k f fd ps sp) (hr:Room k X.A) (hg:Gl X x) (hm:X.mg x=some (.ref f)) (hk:PySem.W.keepIn X.K (.ref f)=true) (hb:Binds X.K fd ps ds) (hd:Vals dvs ds) (hx:Passes CX X E)
  (ha:PA X (e::es) t) (hdb:autoParam ((x == ("__debug__":Str))=false) zL._auto_1) (he:autoParam (starEach (e::es) X.env=(false,eval e X.env)::starEach es X.env) zZ._auto_1) (hpl:autoParam ((backTo pos (starEach es X.env)).any (·.1)=false) zZ._auto_1) :
  PE X (.Call (.Name x p) (e::es) [] pos) (tCall sp dvs E t):=by
 intro pins s σ H Q I h
 refine wpAny_Call_Name_kw (bO I hg hm ?_ hdb)
 refine PySem.W.callWith_K (h₀:=X.base) I.ok.mod.kin hk (thn (ha pos pins s σ H _ I h) fun us s1 ⟨vs,H1,I1,r,q⟩=>⟨I1.kIn,?_⟩) he hpl
 exact yC7 F hr hb hd hx I1 r q
structure Mk (K:KFr) (C f:Addr):Prop where
 makes:PySem.W.makesIn K C=true
 init:PySem.W.findIn K (.ref C) "__init__" = some (some (.ref f))
 fn:PySem.W.isFn K (.ref f)=true
 kp:PySem.W.keepIn K (.ref C)=true
end
section
variable {X:Cx}{CX:CXT}{k:Nat}{f C:Addr}{fd:FuncData}{ps ks:List Str}{sp:Sp}{E:XK}{x m:Str}{p pos apos kpos:Pos}{e o:Expr}{es:List Expr}{kws:List Keyword}{te ta:TE}{t tk:TA}{nm:Option Str}
structure KBinds (K:KFr) (fd:FuncData) (ps ks:List Str) (g:List Value->List Value->List Value) (gV:List V->List V->List V):Prop where
 to:∀(s:Shared) (us ws:List Value),K.In s.heap->(g us ws).length=ps.length->BindsTo s fd ⟨us,ks.zip ws⟩ (ps.zip (g us ws))
 rel:∀{vs:List V}{us:List Value}{zs:List V}{ws:List Value},Vals vs us->Vals zs ws->Vals (gV vs zs) (g us ws)
variable {g:List Value->List Value->List Value}{gV:List V->List V->List V}
end
structure zJ (N P:List Str) (sc:Scope):Prop where
 kind:sc.kind=.function
 co:sc.isCoroutine=false
 gen:sc.isGenerator=false
 nd:N.Nodup
 pre:N.take P.length=P
 par:∀x∈P,sc.names.lookup x=some .local \/ sc.names.lookup x=some .cell
 nofree:∀y∈sc.names,y.2 ≠ .free
theorem aQ {kindOf:Str->Option NameKind}{x:Str}:∀{binds:List (Str×Value)}{m:Str->Option Value},(∀v,(x,v)∉binds)->bindL kindOf binds m x=m x
 | [],_,_=>rfl
 | (n,v)::r,m,h=>by
  unfold bindL
  rw[aQ fun w hw=>h w (List.mem_cons_of_mem _ hw)]
  split
  ·have:x≠n:=by rintro rfl;exact h v List.mem_cons_self
   simp[this]
  ·rfl
theorem aT {kindOf:Str->Option NameKind}{x:Str}:∀{binds:List (Str×Value)}{m:Str->Option Value},(∀v,(x,v)∉binds)->bindC kindOf binds m x=m x
 | [],_,_=>rfl
 | (n,v)::r,m,h=>by
  unfold bindC
  rw[aT fun w hw=>h w (List.mem_cons_of_mem _ hw)]
  split
  ·rfl
  ·have:x≠n:=by rintro rfl;exact h v List.mem_cons_self
   simp[this]
theorem aS {kindOf:Str->Option NameKind}{x:Str}{v:Value}:∀{P:List Str}{vs:List Value}{i:Nat}{m:Str->Option Value},P.Nodup->P[i]?=some x->vs[i]?=some v->kindOf x=some .local ->
  bindL kindOf (P.zip vs) m x=some v
 | [],_,_,_,_,h,_,_=>by simp at h
 | _::_,[],_,_,_,_,h,_=>by simp at h
 | p::P,w::vs,0,m,nd,h1,h2,hk=>by
  simp at h1 h2;subst h1;subst h2
  show bindL kindOf ((p,w)::P.zip vs) m p=_
  unfold bindL
  rw[aQ fun v hv=>(List.nodup_cons.mp nd).1 (List.of_mem_zip hv).1,if_pos hk]
  simp
 | p::P,w::vs,i+1,m,nd,h1,h2,hk=>by
  show bindL kindOf ((p,w)::P.zip vs) m x=_
  unfold bindL
  exact aS (i:=i) (List.nodup_cons.mp nd).2 (by simpa using h1) (by simpa using h2) hk
theorem zZ9 {kindOf:Str->Option NameKind}{x:Str}{v:Value}:∀{P:List Str}{vs:List Value}{i:Nat}{m:Str->Option Value},P.Nodup->P[i]?=some x->vs[i]?=some v->kindOf x≠some .local ->
  bindC kindOf (P.zip vs) m x=some v
 | [],_,_,_,_,h,_,_=>by simp at h
 | _::_,[],_,_,_,_,h,_=>by simp at h
 | p::P,w::vs,0,m,nd,h1,h2,hk=>by
  simp at h1 h2;subst h1;subst h2
  show bindC kindOf ((p,w)::P.zip vs) m p=_
  unfold bindC
  rw[aT fun v hv=>(List.nodup_cons.mp nd).1 (List.of_mem_zip hv).1,if_neg hk]
  simp
 | p::P,w::vs,i+1,m,nd,h1,h2,hk=>by
  show bindC kindOf ((p,w)::P.zip vs) m x=_
  unfold bindC
  exact zZ9 (i:=i) (List.nodup_cons.mp nd).2 (by simpa using h1) (by simpa using h2) hk
def start (N:List Str) (vs:List V):St:=vs.map some++List.replicate (N.length-vs.length) none
def cxOf (CX:CXT) (P:Program) (w:World) (K:KFr) (mg:Str->Option Value) (base:Heap) (N:List Str) (qual:Str) (scope:Scope) (f:Addr) (cd:Value) (A:Around) (outer:List Env) (s:Shared) (H:Hp) (E:XK):Cx where
 prog:=P
 w:=w
 K:=K
 mg:=mg
 base:=base
 A:=A.deeper (envOfC qual scope s.heap.objs.size f cd)
 N:=N
 s₀:=s
 H₀:=H
 env:=envOfC qual scope s.heap.objs.size f cd
 outer:=outer
 stack:=envOfC qual scope s.heap.objs.size f cd::outer
 ex:=[]
 calm:=true
 fn:=fun _=>true
 pn:=[]
 xe:=fun e s'=>wpAny (model P w) (A.deeper (envOfC qual scope s.heap.objs.size f cd)) (leaving (envOfC qual scope s.heap.objs.size f cd) e) (fun _ s''=>CX outer H s E e s'') (fun e' s''=>CX outer H s E e' s'') s'
theorem zT2 {sc:Scope}{n:Nat}{x:Str}(h:sc.names.lookup x=some .cell):∃c,(cellsFrom n sc.names []).lookup x=some c:=by
 have q:=PySem.W.cellsFrom_some sc.names n [] (.inl h)
 exact Option.isSome_iff_exists.mp q
theorem yX6 {CX:CXT}{P:Program}{w:World}{K:KFr}{mg:Str->Option Value}{base:Heap}{N ps:List Str}{qual:Str}{scope:Scope}{f:Addr}{cd:Value}{A:Around}{outer:List Env}{s s1:Shared}{H:Hp}{E:XK}{us:List Value}{vs:List V}
  (S:zJ N ps scope) (hd:A.handled=none) (e0:Env0 P w K mg base A outer s H) (hl:vs.length=ps.length) (r:Vals vs us)
  (x:InCallC s s.heap.objs.size (bindL (envOfC qual scope s.heap.objs.size f cd).kindOf (ps.zip us) fun _=>none) (cellsFrom (s.heap.objs.size+1) scope.names []) (bindC (envOfC qual scope s.heap.objs.size f cd).kindOf (ps.zip us) fun _=>none) s1) :
  Inv (cxOf CX P w K mg base N qual scope f cd A outer s H E) [] (start N vs) H s1:=by
 have hpl:ps.length<=N.length:=by have:=congrArg List.length S.pre;rw[List.length_take] at this;bv_omega
 obtain⟨h1,tk,rfl,hk⟩:=x.done
 have noA:∀b:Addr,b∉(cxOf CX P w K mg base N qual scope f cd A outer s H E).ex:=fun b z=>absurd (show b∈([]:List Addr) from z) (by simp)
 refine⟨⟨e0.mod,S.kind,rfl,rfl,Nat.le_refl _,fun y z c h1 h2 => ?_,fun y hy => ?_,fun y c _ h => ?_,fun _=>hd,Around.frames_deeper e0.frames,.inr ⟨rfl,rfl⟩,fun b z=>absurd z (noA b),e0.bs,e0.bsz,fun b _ _=>noA b,fun b z=>absurd z (noA b),e0.funs,e0.frf,e0.tb⟩,
  rfl,e0.bare,Un.kept hk,⟨_,x.toInCall.ns,fun i y v h1 h2 h3 => ?_⟩,fun y c h=>⟨_,x.cell y c h⟩,e0.hok.fresh (Nat.le_refl _),fun y c h => ?_,fun p hp=>absurd (show p∈([]:List (Addr×Obj)) from hp) (by simp),e0.hok.kept hk,?_⟩
 ·exact name_of_addr x.apart (PySem.mem_of_lookup h1) (PySem.mem_of_lookup h2)
 ·have hy:scope.names.lookup y=some .cell\/scope.names.lookup y=some .free:=hy
  rcases hy with hy | hy
  ·exact zT2 hy
  ·exact absurd rfl (S.nofree _ (PySem.mem_of_lookup hy))
 ·exact Nat.le_of_lt (x.above y c (PySem.mem_of_lookup h))
 ·have hi:i<vs.length:=by
   unfold start at h2
   by_cases hi:i<vs.length
   ·exact hi
   ·rw[List.getElem?_append_right (by simpa using hi)] at h2
    rw[List.getElem?_replicate] at h2
    split at h2 <;> cases h2
  have ha:vs[i]?=some v:=by
   unfold start at h2
   rw[List.getElem?_append_left (by simpa using hi),List.getElem?_map] at h2
   cases e:vs[i]? with
   | none=>rw[e] at h2;cases h2
   | some a=>rw[e] at h2;cases h2;rfl
  obtain⟨u,hu,rv⟩:=r.get ha
  have hp:ps[i]?=some y:=by
   rw[<-S.pre,List.getElem?_take_of_lt (by bv_omega)];exact h1
  have ndP:ps.Nodup:=by rw[<-S.pre];exact S.nd.sublist (List.take_sublist _ _)
  refine⟨u,rv,?_⟩
  rcases S.par y (List.mem_of_getElem? hp) with k | k
  ·exact .inl ⟨k,aS ndP hp hu k⟩
  ·obtain⟨c,e⟩:=zT2 (n:=s.heap.objs.size+1) k
   refine .inr ⟨.inl k,c,e,?_⟩
   have q:=x.cell y c e
   rw[zZ9 ndP hp hu (by show scope.names.lookup y≠_;rw[k];decide)] at q
   exact q
 ·exact e0.hok.fresh (Nat.le_of_lt (x.above y c (PySem.mem_of_lookup h)))
 ·unfold start
  show _=N.length
  rw[List.length_append,List.length_map,List.length_replicate]
  bv_omega
theorem yL1 {CX:CXT}{P:Program}{w:World}{K:KFr}{mg:Str->Option Value}{base:Heap}{k:Nat}{f:Addr}{name qual:Str}{params:Arguments}{body:List Stmt}{scope:Scope}{dV kV doc pm cdv ct oc:Value}{an od:Option Addr}
  {osl:Array (Option Value)}{N ps:List Str}{sp:Sp}(lk:K.lookup f=some ⟨oc,od,.func (PySem.W.fnOf name qual params body scope dV kV doc pm an cdv ct),osl⟩) (hcd:PySem.W.codeIn K cdv qual=true) (S:zJ N ps scope)
  (len:∀vs H Q E,sp vs H Q E->vs.length=ps.length)
  (hbody:∀(A:Around) (outer:List Env) (s:Shared) (H:Hp) (vs:List V) (Q:VK) (E:XK),Room k (A.deeper (envOfC qual scope s.heap.objs.size f cdv))->sp vs H Q E ->
   ∃t,PSs (cxOf CX P w K mg base N qual scope f cdv A outer s H E) body t/\t { nx:=fun _ H'=>Q .non H',rt:=Q } (start N vs) H) :
  FnOk P w K mg base CX (k+1) f (PySem.W.fnOf name qual params body scope dV kV doc pm an cdv ct) ps sp:=by
 refine⟨len,fun A outer s H args us vs Q E hr e0 hb r hsp => ?_⟩
 have hl:=len _ _ _ _ hsp
 have KX:K.In s.heap:=e0.mod.kin.keeps fun b o e=>(e0.bs b o e).1
 have lim:s.heap.NoLimit:=e0.mod.nolimit.keeps fun b o e=>(e0.bs b o e).1
 have hkind:∀y∈ps.zip us,scope.names.lookup y.1=some .local \/ (scope.names.lookup y.1=some .cell/\((cellsFrom (s.heap.objs.size+1) scope.names []).lookup y.1).isSome=true):=fun ⟨n,v⟩ hy=>by
  rcases S.par n (List.of_mem_zip hy).1 with q | q
  ·exact .inl q
  ·exact .inr ⟨q,PySem.W.cellsFrom_some _ _ _ (.inl q)⟩
 refine codeAny_call_function hr.depth (KX _ _ lk) rfl S.co S.gen rfl (PySem.W.codeRec_of KX hcd) (hb _ _ _ _ ?_)
 refine wpAny_newFunctionEnv_cells S.kind hkind fun env he s1 x => ?_
 subst he
 refine⟨lim.keeps x.toInCall.keep,codeAny_func ?_⟩
 obtain⟨t,ht,hq⟩:=hbody A outer s H vs Q E (hr.deeper _) hsp
 have I:Inv (cxOf CX P w K mg base N qual scope f cdv A outer s H E) [] (start N vs) H s1:=yX6 S hr.hd e0 hl r x
 refine wpAny_mono (ht [] s1 (start N vs) H _ I hq) (fun fl s' hs => ?_) fun e s' hs=>hs
 have fin:∀{σ':St}{H':Hp}{v:V}{u:Value},Inv (cxOf CX P w K mg base N qual scope f cdv A outer s H E) [] σ' H' s'->RelV v u->Q v H'->CE outer P w H s Q u s' :=
  fun {σ' H' v u} J rv q=>⟨v,H',J.os,J.bare,J.base,J.hok,rv,q⟩
 cases fl with
 | ret u =>
  obtain⟨v,σ',H',J,rv,q⟩:=hs
  exact fin J rv q
 | next =>
  obtain⟨σ',H',J,q⟩:=hs
  exact fin (v:=V.non) (u:=Value.none) J rfl q
 | brk =>
  obtain⟨_,_,_,q⟩:=hs
  exact False.elim q
 | cont =>
  obtain⟨_,_,_,q⟩:=hs
  exact False.elim q
section
variable {X:Cx}{x:Str}{p pos:Pos}{e:Expr}{es:List Expr}{t:TA}{id T:String}{r:List V->Hp->VK->Prop}
def tCB (r:List V->Hp->VK->Prop) (t:TA):TE:=fun σ H Q=>t σ H fun vs H1=>r vs H1 Q
theorem jA (hc:CallR X (.builtin id) r) (hg:Gl X x) (hm:X.mg x=none) (hv:bootBuiltins x=some (.builtin id)) (ha:PA X (e::es) t) (hn:autoParam (x ≠ "__name__") zL._auto_1) (hdb:autoParam ((x == ("__debug__":Str))=false) zL._auto_1)
  (he:autoParam (starEach (e::es) X.env=(false,eval e X.env)::starEach es X.env) zZ._auto_1) (hpl:autoParam ((backTo pos (starEach es X.env)).any (·.1)=false) zZ._auto_1):PE X (.Call (.Name x p) (e::es) [] pos) (tCB r t):=by
 intro pins s σ H Q I h
 refine wpAny_Call_Name_kw (gK I hg hm hv ?_ hn hdb)
 exact PyProof.Rows.callWith_builtin1 (thn (ha pos pins s σ H _ I h) fun us s1 ⟨vs,H1,I1,r1,q1⟩=>hc pins s1 σ H1 vs us Q I1 r1 q1) he hpl
theorem yB (hc:CallR X (.type T) r) (hg:Gl X x) (hm:X.mg x=none) (hv:bootBuiltins x=some (.type T)) (ha:PA X (e::es) t) (hn:autoParam (x ≠ "__name__") zL._auto_1) (hdb:autoParam ((x == ("__debug__":Str))=false) zL._auto_1)
  (he:autoParam (starEach (e::es) X.env=(false,eval e X.env)::starEach es X.env) zZ._auto_1) (hpl:autoParam ((backTo pos (starEach es X.env)).any (·.1)=false) zZ._auto_1):PE X (.Call (.Name x p) (e::es) [] pos) (tCB r t):=by
 intro pins s σ H Q I h
 refine wpAny_Call_Name_kw (gK I hg hm hv ?_ hn hdb)
 exact PyProof.Rows.callWith_type1 (thn (ha pos pins s σ H _ I h) fun us s1 ⟨vs,H1,I1,r1,q1⟩=>hc pins s1 σ H1 vs us Q I1 r1 q1) he hpl
end
end L2
namespace HT
open PySem PyProof.Rows
section
open PySem.SeqAt
open PySem.AutoSeq1 (wpAny_loadPart')
open PySem.MeetsSeq PySem.MeetsSeq2 PySem.MeetsSeq3
end
section
variable {prog:Program}{w:World}{A:Around}{E:Value->Shared->Prop}{s:Shared}
theorem yF8 {t b:Addr}{vs ws:List Value}{Q:Value->Shared->Prop}(ht:IsTup s.heap t vs.toArray) (hb:IsTup s.heap b ws.toArray) (hv:vs ≠ [])
  (h1:ws=[]->Q (.ref t) s) (h2:ws ≠ []->Q (.ref s.heap.objs.size) { s with heap:=s.heap.push { cls:=.type "tuple",data:=.seq (vs++ws).toArray } })
  (hsz:vs.length+ws.length<=sizeLine):wpAny (model prog w) A (binaryOp .Add (.ref t) (.ref b)) Q E s:=by
 obtain⟨⟨cls,dd,data,sl⟩,ho,hc,n,hd⟩:=id ht
 obtain⟨⟨cls2,dd2,data2,sl2⟩,ho2,hc2,n2,hd2⟩:=id hb
 simp only at hc hd hc2 hd2
 subst hc hd hc2 hd2
 have e:vs.toArray++ws.toArray=(vs++ws).toArray:=by simp
 by_cases hw:ws=[]
 ·exact concat_meets ⟨_,ho,rfl⟩ ⟨_,ho2,rfl⟩ noFill_tuple_add seq_tuple_add PySem.F.slot_tuple_add PySem.F.entry_tuple_add (PySem.F.args_tuple_add_2 _ _)
   (tuple_addW1 t b vs.toArray ws.toArray n n2 dd dd2 sl sl2 (by simpa using hv) (by simp[hw])) ⟨ho,ho2,h1 hw⟩
 ·refine concat_meets ⟨_,ho,rfl⟩ ⟨_,ho2,rfl⟩ noFill_tuple_add seq_tuple_add PySem.F.slot_tuple_add PySem.F.entry_tuple_add (PySem.F.args_tuple_add_2 _ _)
   (tuple_addW2 t b vs.toArray ws.toArray n n2 dd dd2 sl sl2 (by simpa using hv) (by simpa using hw) (by rw[List.size_toArray,List.size_toArray];exact hsz)) ⟨ho,ho2,?_⟩
  rw[e]
  exact h2 hw
def sIx (n d:Nat):Option Int->Nat
 | none=>d
 | some v=>if v<0 then (v+(n:Int)).toNat else min v.toNat n
theorem zQ1 (n d:Nat):sIx n d none=d:=rfl
theorem zM5 (n d k:Nat):sIx n d (some (k:Int))=min k n:=by
 show (if (k:Int)<0 then ((k:Int)+(n:Int)).toNat else min (k:Int).toNat n)=min k n
 rw[if_neg (by bv_omega),Int.toNat_natCast]
theorem xW1 (n d:Nat) (hd:d<=n) (o:Option Int):sIx n d o<=n:=by
 cases o with
 | none=>exact hd
 | some v =>
  show (if v<0 then (v+(n:Int)).toNat else min v.toNat n)<=n
  by_cases hv:v<0
  ·rw[if_pos hv];bv_omega
  ·rw[if_neg hv];exact Nat.min_le_right _ _
theorem zJ3 (v:Int) (n d:Nat):(if v<0 then max (v+(n:Int)) 0 else min v (n:Int))=((sIx n d (some v):Nat):Int):=by
 show (if v<0 then max (v+(n:Int)) 0 else min v (n:Int))=(((if v<0 then (v+(n:Int)).toNat else min v.toNat n):Nat):Int)
 by_cases hv:v<0
 ·simp only[if_pos hv];bv_omega
 ·simp only[if_neg hv];bv_omega
theorem zF7 (lo hi:Option Int) (n:Nat):Builtin.Slice.sliceAdjust lo hi 1 (n:Int)=(((sIx n 0 lo:Nat):Int),((sIx n n hi:Nat):Int)):=by
 have h1:¬((1:Int)<0):=by bv_omega
 unfold Builtin.Slice.sliceAdjust
 simp only[h1,if_false]
 refine Prod.ext ?_ ?_
 ·cases lo with
  | none=>rfl
  | some v=>exact zJ3 v n 0
 ·cases hi with
  | none=>rfl
  | some v=>exact zJ3 v n n
theorem zH4 (i j:Nat):Builtin.Slice.slicePlaces (i:Int) (j:Int) 1=j-i:=by
 unfold Builtin.Slice.slicePlaces
 have h1:(1:Int) > 0:=by bv_omega
 simp only[h1,if_true,Int.ediv_one]
 split <;> bv_omega
theorem cM {v:Value}{o:Option Int}{Q:Option Int->Shared->Prop}(p:IsPart v o) (h:Q o s):wpAny (model prog w) A (Builtin.Slice.slicePartIndex v) Q E s:=by
 cases p with
 | none=>exact slicePart_none h
 | int i t=>exact slicePart_int h
theorem qK {sl:Addr}{vl vu:Value}{lo hi:Option Int}{n:Nat}{Q:Int×Int×Nat->Shared->Prop}(hs:s.heap.IsSliceOf sl vl vu .none) (pl:IsPart vl lo) (pu:IsPart vu hi)
  (h:Q (((sIx n 0 lo:Nat):Int),1,sIx n n hi-sIx n 0 lo) s):wpAny (model prog w) A (Builtin.Slice.sliceApplied (.ref sl) (pure (n:Int))) Q E s:=by
 obtain⟨os,hos,hcs,hds⟩:=id hs
 unfold Builtin.Slice.sliceApplied Builtin.Slice.sliceFields
 refine wpAny_bind (wpAny_bind (wpAny_field hos hds (x:=vl) rfl (wpAny_bind (wpAny_field hos hds (x:=vu) rfl (wpAny_bind (wpAny_field hos hds (x:=.none) rfl (wpAny_pure ?_)))))))
 refine wpAny_bind (slicePart_none ?_)
 show wpAny _ _ (if ((1:Int) == 0)=true then _ else _) _ _ s
 rw[if_neg (by decide)]
 refine wpAny_bind (cM pl (wpAny_bind (cM pu (wpAny_bind (wpAny_pure ?_)))))
 show wpAny _ _ (match Builtin.Slice.sliceAdjust lo hi 1 (n:Int) with | (lo,hi)=>pure (lo,(1:Int),Builtin.Slice.slicePlaces lo hi 1)) _ _ s
 rw[zF7 lo hi n]
 show wpAny _ _ (pure (((sIx n 0 lo:Nat):Int),(1:Int),Builtin.Slice.slicePlaces ((sIx n 0 lo:Nat):Int) ((sIx n n hi:Nat):Int) 1)) _ _ s
 rw[zH4]
 exact wpAny_pure h
theorem yP2 (xs:Array Value) (i k:Nat):((List.range k).filterMap fun (m:Nat)=>xs[((i:Int)+(m:Int)*1).toNat]?).toArray=((xs.toList.drop i).take k).toArray:=by
 have e:(fun (m:Nat)=>xs[((i:Int)+(m:Int)*1).toNat]?)=fun m=>xs[i+m]?:=by
  funext m
  have:((i:Int)+(m:Int)*1).toNat=i+m:=by bv_omega
  rw[this]
 rw[e]
 have:=pick_run xs i k
 rw[List.filterMap_map] at this
 have e2:((fun x=>xs[x]?)∘fun x=>i+x)=fun m=>xs[i+m]?:=rfl
 rw[e2] at this
 rw[this]
theorem fI {t sl:Addr}{items:Array Value}{vl vu:Value}{lo hi:Option Int}{Q:Value->Shared->Prop}(ht:IsTup s.heap t items) (hs:s.heap.IsSliceOf sl vl vu .none) (pl:IsPart vl lo) (pu:IsPart vu hi)
  (hw:¬(sIx items.size 0 lo=0/\sIx items.size items.size hi=items.size))
  (h:Q (.ref s.heap.objs.size) { s with heap:=s.heap.push { cls:=.type "tuple",data:=.seq ((items.toList.drop (sIx items.size 0 lo)).take (sIx items.size items.size hi-sIx items.size 0 lo)).toArray } })
  (hsz:items.size<=sizeLine):wpAny (model prog w) A (getItem (.ref t) (.ref sl)) Q E s:=by
 have htake:sizeOk (.seq ((items.toList.drop (sIx items.size 0 lo)).take (sIx items.size items.size hi-sIx items.size 0 lo)).toArray):=by
  show ((items.toList.drop (sIx items.size 0 lo)).take (sIx items.size items.size hi-sIx items.size 0 lo)).toArray.size<=sizeLine
  rw[List.size_toArray,List.length_take,List.length_drop,Array.length_toList]
  bv_omega
 have hj:sIx items.size items.size hi<=items.size:=xW1 _ _ (Nat.le_refl _) hi
 obtain⟨os,hos,hcs,hds⟩:=id hs
 have hTs:s.TypeIs (.ref sl) "slice":=⟨os,hos,hcs⟩
 unfold getItem
 try with_reducible refine wpAny_holding ?_
 first | refine wpAny_bind (wpAny_pure ?_) | skip
 refine wpAny_bind (wpAny_sequenceKey ht.typeIs (by decide) ?_)
 refine wpAny_bind (wpAny_callSpecial?_slot (name:=Str.ofString "__getitem__") ht.typeIs PyProof.Rows.slot_tuple_getitem
  (wpAny_call_entry PyProof.Rows.slot_tuple_getitem ht.typeIs entry_tuple_getitem ?_ (args_tuple_getitem _ _)))
 show wpAny _ _ (Builtin.Tuple.tupleItemsOf (.ref t) >>= _) _ _ s
 refine wpAny_bind (tupleItemsOf_ ht ?_)
 refine wpAny_bind (wpAny_typeOf hTs ?_)
 rw[if_pos (by decide)]
 refine wpAny_bind (qK hs pl pu ?_)
 have hno:¬((((sIx items.size 0 lo:Nat):Int) == 0&&(1:Int) == 1&&(sIx items.size items.size hi-sIx items.size 0 lo) == items.size)=true):=by
  intro q
  rw[Bool.and_eq_true,Bool.and_eq_true] at q
  have q1:((sIx items.size 0 lo:Nat):Int)=0:=eq_of_beq q.1.1
  have q2:sIx items.size items.size hi-sIx items.size 0 lo=items.size:=eq_of_beq q.2
  exact hw ⟨by bv_omega,by bv_omega⟩
 show wpAny _ _ (if (((sIx items.size 0 lo:Nat):Int) == 0&&(1:Int) == 1&&(sIx items.size items.size hi-sIx items.size 0 lo) == items.size)=true then _ else _) _ _ s
 rw[if_neg hno,yP2]
 first
  | exact wpAny_bind (m:=Builtin.Tuple.tupleExact _) (wpAny_newObj_type (wpAny_pure ⟨_,rfl,wpAny_pure h⟩) htake)
  | exact wpAny_bind (m:=Builtin.Tuple.tupleExact _) (wpAny_newObj_type (wpAny_bind (wpAny_pure (wpAny_pure ⟨_,rfl,wpAny_pure h⟩))) htake)
  | exact wpAny_bind (wpAny_bind (m:=Builtin.Tuple.tupleExact _) (wpAny_newObj_type (wpAny_pure (wpAny_pure ⟨_,rfl,wpAny_pure h⟩)) htake))
  | exact wpAny_bind (wpAny_bind (m:=Builtin.Tuple.tupleExact _) (wpAny_newObj_type (wpAny_pure ⟨_,rfl,wpAny_pure h⟩) htake))
end
end HT
namespace L2
open PySem PySem.Spec PyProof.Rows
abbrev TO:=St->Hp->(Option Int->Hp->Prop)->Prop
def PO (X:Cx) (e:Option Expr) (t:TO):Prop :=
 ∀(pins:List (Addr×Obj)) (s:Shared) (σ:St) (H:Hp) (Q:Option Int->Hp->Prop),Inv X pins σ H s->t σ H Q ->
  wpAny (model X.prog X.w) X.A (evalPart e X.env) (fun u s'=>∃o H',Inv X pins σ H' s'/\IsPart u o/\Q o H') X.xe s
def tNoPart:TO:=fun _ H Q=>Q none H
def tPart (t:TE):TO:=fun σ H Q=>t σ H fun x H1=>∃i,x=.int i/\Q (some i) H1
theorem vR {ns:List Int}:∀{us:List Value},Vals (ns.map V.int) us->IntsAre us ns:=by
 induction ns with
 | nil=>intro us r;rw[List.map_nil] at r;cases r;exact .nil
 | cons n ns ih =>
  intro us r
  rw[List.map_cons] at r
  cases r with
  | cons r1 r2 =>
   obtain⟨t,e⟩:=r1
   subst e
   exact .cons n t (ih r2)
section
variable {X:Cx}{e:Expr}{te:TE}{lo hi:Option Expr}{tl th:TO}{pos p2:Pos}
theorem yI1:PO X none tNoPart:=by
 intro pins s σ H Q I h
 rw[evalPart_none]
 exact wpAny_pure ⟨none,H,I,.none,h⟩
theorem yI4 (h:PE X e te):PO X (some e) (tPart te):=by
 intro pins s σ H Q I hw
 rw[evalPart_some]
 refine thn (h pins s σ H _ I hw) fun u s1 ⟨x,H1,I1,r1,q1⟩ => ?_
 obtain⟨i,rfl,q⟩:=q1
 obtain⟨t,rfl⟩:=r1
 exact⟨some i,H1,I1,.int i t,q⟩
def SlR (X:Cx) (r:V->Option Int->Option Int->Hp->VK->Prop):Prop :=
 ∀(pins:List (Addr×Obj)) (s:Shared) (σ:St) (H:Hp) (x:V) (v vl vu:Value) (lo hi:Option Int) (sl:Addr) (Q:VK),Inv X pins σ H s->RelV x v->s.heap.IsSliceOf sl vl vu .none->IsPart vl lo->IsPart vu hi->r x lo hi H Q ->
  ∃T id,typeLookup (.type T) "__getitem__" = pure (some (.builtin id))/\s.TypeIs v T/\wpAny (model X.prog X.w) X.A (getItem v (.ref sl)) (EP X pins σ Q) X.xe s
theorem SlR.or {r r':V->Option Int->Option Int->Hp->VK->Prop}(h:SlR X r) (h':SlR X r'):SlR X (fun x lo hi H Q=>r x lo hi H Q\/r' x lo hi H Q):=by
 intro pins s σ H x v vl vu lo hi sl Q I rx hs pl pu q
 rcases q with q | q
 ·exact h pins s σ H x v vl vu lo hi sl Q I rx hs pl pu q
 ·exact h' pins s σ H x v vl vu lo hi sl Q I rx hs pl pu q
def tSl (r:V->Option Int->Option Int->Hp->VK->Prop) (te:TE) (tl th:TO):TE:=fun σ H Q=>te σ H fun x H1=>tl σ H1 fun l H2=>th σ H2 fun u H3=>r x l u H3 Q
theorem yO1 {r:V->Option Int->Option Int->Hp->VK->Prop}(hr:SlR X r) (he:PE X e te) (hl:PO X lo tl) (hu:PO X hi th):PE X (.Subscript e (.Slice lo hi none p2) pos) (tSl r te tl th):=by
 intro pins s σ H Q I h
 refine Subscript_ (thn (he pins s σ H _ I h) fun v s1 ⟨x,H1,I1,r1,q1⟩ => ?_)
 refine wpAny_Slice (thn (hl pins s1 σ H1 _ I1 q1) fun vl s2 ⟨l,H2,I2,pl,q2⟩=>thn (hu pins s2 σ H2 _ I2 q2) fun vu s3 ⟨u,H3,I3,pu,q3⟩ => ?_)
 rw[evalPart_none]
 refine wpAny_pure ?_
 have I4:Inv X pins σ H3 { s3 with heap:=s3.heap.push { cls:=.type "slice",data:=.fields #[vl,vu,.none] } }:=I3.kept (t':=s3.toks) fun b ob q=>Heap.get?_push_of_some _ q
 obtain⟨T,id,hT,ht,hg⟩:=hr pins { s3 with heap:=s3.heap.push { cls:=.type "slice",data:=.fields #[vl,vu,.none] } } σ H3 x v vl vu l u s3.heap.objs.size Q I4 r1 (Heap.IsSliceOf.new ..) pl pu q3
 show wpAny (model X.prog X.w) X.A (subscriptTail e (.Slice lo hi none p2) v (.ref s3.heap.objs.size)) (EP X pins σ Q) X.xe { s3 with heap:=s3.heap.push { cls:=.type "slice",data:=.fields #[vl,vu,.none] } }
 exact tail_any (ops:=[.ref s3.heap.objs.size,v]) ht hT hg (by with_unfolding_all rfl)
def cutV (xs:List V) (lo hi:Option Int):List V:=(xs.drop (HT.sIx xs.length 0 lo)).take (HT.sIx xs.length xs.length hi-HT.sIx xs.length 0 lo)
theorem dW (xs:List V) (lo hi:Option Int):(cutV xs lo hi).length<=xs.length:=by
 unfold cutV
 rw[List.length_take,List.length_drop]
 bv_omega
def rSlT (K:KFr):V->Option Int->Option Int->Hp->VK->Prop:=fun x lo hi H Q=>∃a xs,x=.ref a/\SqT K H a xs /\
 ¬(HT.sIx xs.length 0 lo=0/\HT.sIx xs.length xs.length hi=xs.length)/\∀p,H p=none->Q (.ref p) (upd H p (.tup (cutV xs lo hi)))
theorem xX8:SlR X (rSlT X.K):=by
 intro pins s σ H x v vl vu lo hi sl Q I rx hs pl pu h
 obtain⟨a,xs,rfl,hx,hw,q⟩:=h
 cases rx
 obtain⟨its,r,ht,hz⟩:=I.tuple hx
 have hlen:its.toArray.size=xs.length:=by rw[List.size_toArray];exact r.length.symm
 refine⟨"tuple",_,PyProof.Rows.slot_tuple_getitem.lookup,ht.typeIs,?_⟩
 refine HT.fI ht hs pl pu (by rw[hlen];exact hw) ?_ (by rw[hlen];exact hz)
 rw[hlen]
 refine⟨.ref s.heap.objs.size,_,I.laid (t':=s.toks) (o:=.tup (cutV xs lo hi)) (fun b ob q=>Heap.get?_push_of_some _ q) (Nat.le_refl _) ?_,rfl,q _ (I.hok.fresh (Nat.le_refl _))⟩
 exact⟨Nat.le_trans (dW xs lo hi) hz,_,(r.drop (HT.sIx xs.length 0 lo)).take (HT.sIx xs.length xs.length hi-HT.sIx xs.length 0 lo),TupAt.new _ _⟩
def rCatT (K:KFr):R2:=fun x y H Q=>∃a b xs ys,x=.ref a/\y=.ref b/\SqT K H a xs/\SqT K H b ys/\xs ≠ []/\xs.length+ys.length<=sizeLine /\
 (ys=[]->Q (.ref a) H)/\(ys ≠ []->∀p,H p=none->Q (.ref p) (upd H p (.tup (xs++ys))))
theorem Vals.bG {xs:List V}{us:List Value}(r:Vals xs us):us=[]↔xs=[]:=by
 cases r with
 | nil=>simp
 | cons _ _=>simp
theorem yK7:OpR X (binaryOp .Add) (rCatT X.K):=by
 intro pins s σ H x y v u Q I rx ry h
 obtain⟨a,b,xs,ys,rfl,rfl,ha,hb,hx,hz,q1,q2⟩:=h
 cases rx
 cases ry
 obtain⟨its,r1,p1,_⟩:=I.tuple ha
 obtain⟨its2,r2,p2,_⟩:=I.tuple hb
 refine HT.yF8 p1 p2 (fun z=>hx (r1.bG.mp z)) (fun z=>⟨.ref a,H,I,rfl,q1 (r2.bG.mp z)⟩) (fun z => ?_) (by rw[<-r1.length,<-r2.length];exact hz)
 refine⟨.ref s.heap.objs.size,_,I.laid (t':=s.toks) (o:=.tup (xs++ys)) (fun b ob q=>Heap.get?_push_of_some _ q) (Nat.le_refl _) ?_,rfl,q2 (fun w=>z (r2.bG.mpr w)) _ (I.hok.fresh (Nat.le_refl _))⟩
 exact⟨by rw[List.length_append];exact hz,_,r1.append r2,TupAt.new _ _⟩
end
def ixN (n:Nat) (i:Int):Option Nat:=if 0<=i then (if i<n then some i.toNat else none) else if -(n:Int)<=i then some (i+n).toNat else none
def atI {α:Type}(xs:List α) (i:Int):Option α:=(ixN xs.length i).bind fun j=>xs[j]?
theorem zM7 {n:Nat}{i:Int}{j:Nat}(h:ixN n i=some j):seqIndex? i n=some j/\j<n/\-(n:Int)<=i/\i<n:=by
 unfold ixN at h
 by_cases h0:0<=i
 ·rw[if_pos h0] at h
  by_cases h1:i<n
  ·rw[if_pos h1] at h
   have e:i.toNat=j:=Option.some.inj h
   exact⟨by rw[seqIndex_of h0 h1,e],by bv_omega,by bv_omega,h1⟩
  ·rw[if_neg h1] at h;cases h
 ·rw[if_neg h0] at h
  by_cases h1:-(n:Int)<=i
  ·rw[if_pos h1] at h
   have e:(i+n).toNat=j:=Option.some.inj h
   exact⟨by rw[seqIndex_neg (by bv_omega) h1,e],by bv_omega,h1,by bv_omega⟩
  ·rw[if_neg h1] at h;cases h
theorem bI {α:Type}{xs:List α}{i:Int}{v:α}(h:atI xs i=some v):∃j,seqIndex? i xs.length=some j/\xs[j]?=some v/\j<xs.length/\-(xs.length:Int)<=i/\i<xs.length:=by
 unfold atI at h
 cases e:ixN xs.length i with
 | none=>rw[e] at h;cases h
 | some j =>
  rw[e] at h
  obtain⟨h1,h2,h3,h4⟩:=zM7 e
  exact⟨j,h1,h,h2,h3,h4⟩
theorem bJ {α:Type}{xs:List α}{j:Nat}{v:α}(h:xs[j]?=some v):atI xs (j:Int)=some v:=by
 have hj:j<xs.length:=(List.getElem?_eq_some_iff.mp h).1
 have e:ixN xs.length (j:Int)=some j:=by
  unfold ixN
  rw[if_pos (by bv_omega),if_pos (by bv_omega)];simp
 unfold atI;rw[e];exact h
def PlainIx (b:Expr):Prop:=∀o i,subscripted b false o i=operate [o,i] (getItem o i)
def IxR (X:Cx) (r:R2):Prop :=
 ∀(value slice:Expr) (pins:List (Addr×Obj)) (s:Shared) (σ:St) (H:Hp) (x y:V) (v u:Value) (Q:VK),Inv X pins σ H s->RelV x v->RelV y u->r x y H Q ->
  subscripted slice false v u=operate [v,u] (getItem v u)->wpAny (model X.prog X.w) X.A (subscriptTail value slice v u) (EP X pins σ Q) X.xe s
def MtR (X:Cx) (id:String) (r:V->List V->Hp->VK->Prop):Prop :=
 ∀(pins:List (Addr×Obj)) (s:Shared) (σ:St) (H:Hp) (x:V) (xs:List V) (v:Value) (us:List Value) (Q:VK),Inv X pins σ H s->RelV x v->Vals xs us->r x xs H Q ->
  wpAny (model X.prog X.w) X.A (call (.builtin id) (v::us)) (EP X pins σ Q) X.xe s
section
variable {X:Cx}{a b:Expr}{ta tb:TE}{pos:Pos}
theorem IxR.or {r r':R2}(h:IxR X r) (h':IxR X r'):IxR X (fun x y H Q=>r x y H Q\/r' x y H Q):=by
 intro value slice pins s σ H x y v u Q I rx ry q hs
 rcases q with q | q
 ·exact h value slice pins s σ H x y v u Q I rx ry q hs
 ·exact h' value slice pins s σ H x y v u Q I rx ry q hs
theorem xX {r:R2}(hr:IxR X r) (ha:PE X a ta) (hb:PE X b tb) (hs:PlainIx b):PE X (.Subscript a b pos) (tOp r ta tb):=by
 intro pins s σ H Q I h
 exact Subscript_ (binT ha hb I h fun v u s2 x y H2 I2 rx ry q=>hr a b pins s2 σ H2 x y v u Q I2 rx ry q (hs _ _))
def rIxL (K:KFr):R2:=fun x y H Q=>∃p xs i v,x=.ref p/\y=.int i/\SqL K H p xs/\atI xs i=some v/\Q v H
def rIxT (K:KFr):R2:=fun x y H Q=>∃p xs i v,x=.ref p/\y=.int i/\SqT K H p xs/\atI xs i=some v/\Q v H
def rIxS:R2:=fun x y H Q=>∃z i c,x=.str z/\y=.int i/\z.length<=sizeLine/\atI z.cps.toList i=some c/\Q (.str ⟨#[c]⟩) H
theorem vI:IxR X (rIxL X.K):=by
 intro value slice pins s σ H x y v u Q I rx ry h hs
 obtain⟨p,xs,i,z,rfl,rfl,hq,he,q⟩:=h
 cases rx
 obtain⟨t,rfl⟩:=ry
 obtain⟨its,r,pl,hz⟩:=I.list hq
 obtain⟨j,h1,h2,h3,h4,h5⟩:=bI he
 obtain⟨w,ew,rw'⟩:=r.get h2
 have hl:=r.length
 have hn:=line63
 have fin:EP X pins σ Q w s:=⟨z,H,I,rw',q⟩
 by_cases h0:0<=i
 ·have hj:i.toNat=j:=by
   rw[seqIndex_of h0 h5] at h1
   exact Option.some.inj h1
  exact item_listR pl.isList h0 (by bv_omega) (by rw[hj];simpa using ew) fin hs
 ·have hj:(i+(its.toArray.size:Int)).toNat=j:=by
   rw[seqIndex_neg (by bv_omega) h4] at h1
   rw[List.size_toArray,<-hl]
   exact Option.some.inj h1
  exact subscriptTail_builtinR (x:=w) pl.isList.typeIs slot_list_getitem.lookup
   (wpAny_getItem_list_neg (Q:=fun r s'=>r=w/\EP X pins σ Q r s') pl.isList (by bv_omega) (by rw[List.size_toArray] <;> bv_omega) (by bv_omega) (by rw[hj];simpa using ew) ⟨rfl,fin⟩) hs
theorem wV:IxR X (rIxT X.K):=by
 intro value slice pins s σ H x y v u Q I rx ry h hs
 obtain⟨p,xs,i,z,rfl,rfl,hq,he,q⟩:=h
 cases rx
 obtain⟨t,rfl⟩:=ry
 obtain⟨its,r,pl,hz⟩:=I.tuple hq
 obtain⟨j,h1,h2,h3,h4,h5⟩:=bI he
 obtain⟨w,ew,rw'⟩:=r.get h2
 have hl:=r.length
 have hn:=line63
 have fin:EP X pins σ Q w s:=⟨z,H,I,rw',q⟩
 exact subscriptTail_builtinR (x:=w) pl.typeIs slot_tuple_getitem.lookup
  (getItem_tuple (j:=j) (Q:=fun r s'=>r=w/\EP X pins σ Q r s') pl (by bv_omega) (by bv_omega) (by rw[List.size_toArray,<-hl];exact h1) (by simpa using ew) ⟨rfl,fin⟩) hs
theorem yB5:IxR X rIxS:=by
 intro value slice pins s σ H x y v u Q I rx ry h hs
 obtain⟨z,i,c,rfl,rfl,hz,he,q⟩:=h
 obtain⟨t,rfl⟩:=rx
 obtain⟨t',rfl⟩:=ry
 obtain⟨j,h1,h2,h3,h4,h5⟩:=bI he
 have hl:z.cps.toList.length=z.length:=by simp[Str.length]
 rw[hl] at h1 h4 h5
 have hn:=line63
 exact tail_any (typeIs_str s z t) slot_str_getitem.lookup (getItem_str (c:=c) (by
  have e1:decide (i < -(2 ^ 63:Int))=false:=decide_eq_false (by bv_omega)
  have e2:decide (i ≥ 2 ^ 63)=false:=decide_eq_false (by bv_omega)
  rw[e1,e2,Bool.or_false]) (by rw[h1];simpa using h2) ⟨.str ⟨#[c]⟩,H,I.tok _,⟨_,rfl⟩,q⟩) hs
def rIx (K:KFr):R2:=fun x y H Q=>rIxL K x y H Q\/rIxT K x y H Q\/rIxS x y H Q
theorem jN:IxR X (rIx X.K):=vI.or (wV.or yB5)
theorem zG6 (its:List Value) (n j:Nat) (u:Value):Obj.mapSeq (·.setIfInBounds j u) { cls:=.type "list",data:=.seq its.toArray n }={ cls:=.type "list",data:=.seq (its.set j u).toArray n }:=by
 simp[Obj.mapSeq]
theorem Inv.lst {pins:List (Addr×Obj)}{σ:St}{H:Hp}{s:Shared}{p:Addr}{xs:List V}(I:Inv X pins σ H s) (h:H p=some (.lst xs)) :
  ∃(its:List Value) (n:Nat),Vals xs its/\s.heap.get? p=some { cls:=.type "list",data:=.seq its.toArray n }/\xs.length<=sizeLine:=by
 obtain⟨z,its,n,r,e⟩:=I.hok p _ h
 exact⟨its,n,r,e,z⟩
theorem Inv.lstUpd {pins:List (Addr×Obj)}{σ:St}{H:Hp}{s:Shared}{p:Addr}{xs ys:List V}{its its':List Value}{n n':Nat}{f:Obj->Obj}(I:Inv X pins σ H s) (h:H p=some (.lst xs))
  (ho:s.heap.get? p=some { cls:=.type "list",data:=.seq its.toArray n }) (hf:f { cls:=.type "list",data:=.seq its.toArray n }={ cls:=.type "list",data:=.seq its'.toArray n' }) (r:Vals ys its') (hz:ys.length<=sizeLine) (t:Nat) :
  Inv X pins σ (upd H p (.lst ys)) { s with heap:=s.heap.update p f,toks:=t }:=by
 have e:(s.heap.update p f).get? p=some { cls:=.type "list",data:=.seq its'.toArray n' }:=by
  rw[Heap.get?_update_self f ho (by rw[hf] <;> rfl),hf]
 refine I.write (x:=p) (e:=p) (by rw[h];trivial) (.inl rfl) (fun b u hb q=>(Heap.get?_update_other _ _ (Ne.symm hb)).trans q) ⟨_,e⟩ ?_
 exact⟨hz,its',n',r,e⟩
def rSetL:V->V->V->Hp->(Hp->Prop)->Prop:=fun o i v H Q=>∃p xs k j,o=.ref p/\i=.int k/\H p=some (.lst xs)/\ixN xs.length k=some j/\Q (upd H p (.lst (xs.set j v)))
theorem dM:PSet X rSetL:=by
 intro pins s σ H o i v ov iv u Q I ro ri rv h
 obtain⟨p,xs,k,j,rfl,rfl,hp,hj,q⟩:=h
 cases ro
 obtain⟨t,rfl⟩:=ri
 obtain⟨its,n,r,ho,hz⟩:=I.lst hp
 obtain⟨h1,h2,h3,h4⟩:=zM7 hj
 have hl:=r.length
 have hn:=line63
 have I':Inv X pins σ (upd H p (.lst (xs.set j v))) { s with heap:=s.heap.update p (Obj.mapSeq (·.setIfInBounds j u)) } :=
  I.lstUpd hp ho (zG6 its n j u) (r.set rv j) (by rw[List.length_set];exact hz) s.toks
 by_cases h0:0<=k
 ·have hk:k.toNat=j:=by
   rw[seqIndex_of h0 h4] at h1
   exact Option.some.inj h1
  exact PySem.W.ki_setAt ho h0 (by bv_omega) (by rw[List.size_toArray,<-hl];exact h4) (by rw[hk];exact⟨_,I',q⟩)
 ·have hk:(k+(its.toArray.size:Int)).toNat=j:=by
   rw[seqIndex_neg (by bv_omega) h3] at h1
   rw[List.size_toArray,<-hl]
   exact Option.some.inj h1
  exact PySem.W.ki_setBack ho (by bv_omega) (by rw[List.size_toArray,<-hl];exact h3) (by bv_omega) (by rw[hk];exact⟨_,I',q⟩)
theorem zU4 (lo hi:Option Int) (n:Nat):(sliceBounds lo hi none n).1=((HT.sIx n 0 lo:Nat):Int)/\(sliceBounds lo hi none n).2.1=((HT.sIx n n hi:Nat):Int)/\(sliceBounds lo hi none n).2.2=1:=by
 refine⟨?_,?_,rfl⟩
 ·cases lo with
  | none=>simp[sliceBounds,HT.sIx]
  | some i =>
   simp only[sliceBounds,HT.sIx,Option.getD_none,show (1:Int) > 0 by decide,if_true]
   by_cases h:i<0
   ·simp only[h,if_true] <;> bv_omega
   ·simp only[h,if_false] <;> bv_omega
 ·cases hi with
  | none=>simp[sliceBounds,HT.sIx]
  | some i =>
   simp only[sliceBounds,HT.sIx,Option.getD_none,show (1:Int) > 0 by decide,if_true]
   by_cases h:i<0
   ·simp only[h,if_true] <;> bv_omega
   ·simp only[h,if_false] <;> bv_omega
theorem zY9 (its:List Value) (lo hi:Option Int):slicePick its.toArray lo hi none=((its.drop (HT.sIx its.length 0 lo)).take (HT.sIx its.length its.length hi-HT.sIx its.length 0 lo)).toArray:=by
 obtain⟨h1,h2,h3⟩:=zU4 lo hi its.toArray.size
 unfold slicePick
 rw[h1,h2,h3]
 simp only[sliceRange_one,pick_run,List.size_toArray] <;> rfl
def rSlL (K:KFr):V->Option Int->Option Int->Hp->VK->Prop:=fun x lo hi H Q=>∃a xs,x=.ref a/\SqL K H a xs/\∀p,H p=none->Q (.ref p) (upd H p (.lst (cutV xs lo hi)))
theorem yD8:SlR X (rSlL X.K):=by
 intro pins s σ H x v vl vu lo hi sl Q I rx hs pl pu h
 obtain⟨a,xs,rfl,hx,q⟩:=h
 cases rx
 obtain⟨its,r,ht,hz⟩:=I.list hx
 have hlen:=r.length
 refine⟨"list",_,slot_list_getitem.lookup,ht.isList.typeIs,?_⟩
 refine wpAny_getItem_list_slice ht.isList hs pl pu .none (by simp) ?_ (by rw[List.size_toArray] <;> bv_omega)
 rw[zY9,<-hlen]
 refine⟨.ref s.heap.objs.size,_,I.laid (t':=s.toks) (o:=.lst (cutV xs lo hi)) (fun b ob q=>Heap.get?_push_of_some _ q) (Nat.le_refl _) ?_,rfl,q _ (I.hok.fresh (Nat.le_refl _))⟩
 exact⟨Nat.le_trans (dW xs lo hi) hz,_,0,(r.drop (HT.sIx xs.length 0 lo)).take (HT.sIx xs.length xs.length hi-HT.sIx xs.length 0 lo),Heap.get?_push_size _ rfl⟩
def flatV:V->Bool
 | .non=>true
 | .bl _=>true
 | .int _=>true
 | .str _=>true
 | _=>false
def eqV:V->V->Bool
 | .non,.non=>true
 | .bl a,.bl b=>a == b
 | .bl a,.int b=>(if a then 1 else 0) == b
 | .int a,.bl b=>a == (if b then 1 else 0)
 | .int a,.int b=>a == b
 | .str a,.str b=>a == b
 | _,_=>false
theorem xW7 {A:Around}{s:Shared}{y x:V}{u v:Value}(ry:RelV y u) (rx:RelV x v) (fy:flatV y=true) (fx:flatV x=true):SeqAt.EqAt A s u v (eqV y x):=by
 cases y with
 | non =>
  cases ry
  cases x with
  | non=>cases rx;exact SeqAt.EqAt.same _
  | bl b=>cases rx;exact SeqAt.EqAt.none_bool b
  | int b=>obtain⟨t,rfl⟩:=rx;exact SeqAt.EqAt.none_int b t
  | str b=>obtain⟨t,rfl⟩:=rx;exact SeqAt.EqAt.none_str b t
  | _=>exact absurd (show false=true from fx) Bool.false_ne_true
 | bl a =>
  cases ry
  cases x with
  | non=>cases rx;exact SeqAt.EqAt.bool_none a
  | bl b=>cases rx;exact SeqAt.EqAt.bool_bool a b
  | int b=>obtain⟨t,rfl⟩:=rx;exact SeqAt.EqAt.bool_int a b t
  | str b=>obtain⟨t,rfl⟩:=rx;exact SeqAt.EqAt.bool_str a b t
  | _=>exact absurd (show false=true from fx) Bool.false_ne_true
 | int a =>
  obtain⟨t',rfl⟩:=ry
  cases x with
  | non=>cases rx;exact SeqAt.EqAt.int_none a t'
  | bl b=>cases rx;exact SeqAt.EqAt.int_bool a t' b
  | int b=>obtain⟨t,rfl⟩:=rx;exact SeqAt.EqAt.int_int a t' b t
  | str b=>obtain⟨t,rfl⟩:=rx;exact SeqAt.EqAt.int_str a t' b t
  | _=>exact absurd (show false=true from fx) Bool.false_ne_true
 | str a =>
  obtain⟨t',rfl⟩:=ry
  cases x with
  | non=>cases rx;exact SeqAt.EqAt.str_none a t'
  | bl b=>cases rx;exact SeqAt.EqAt.str_bool a t' b
  | int b=>obtain⟨t,rfl⟩:=rx;exact SeqAt.EqAt.str_int a t' b t
  | str b=>obtain⟨t,rfl⟩:=rx;exact SeqAt.EqAt.str_str a t' b t
  | _=>exact absurd (show false=true from fx) Bool.false_ne_true
 | _=>exact absurd (show false=true from fy) Bool.false_ne_true
def eqU (x:V) (u:Value):Bool:=match u with
 | .none=>eqV .non x
 | .bool b=>eqV (.bl b) x
 | .int i _=>eqV (.int i) x
 | .str z _=>eqV (.str z) x
 | _=>false
theorem cI {x y:V}{u:Value}(r:RelV y u) (f:flatV y=true):eqU x u=eqV y x:=by
 cases y with
 | non=>cases r;rfl
 | bl b=>cases r;rfl
 | int i=>obtain⟨t,rfl⟩:=r;rfl
 | str z=>obtain⟨t,rfl⟩:=r;rfl
 | _=>exact absurd (show false=true from f) Bool.false_ne_true
theorem jH {x:V}:∀{xs:List V}{us:List Value},Vals xs us->xs.all flatV=true->us.any (eqU x)=xs.any fun y=>eqV y x
 | _,_,.nil,_=>rfl
 | y::xs,u::us,.cons r t,f=>by
  rw[List.all_cons,Bool.and_eq_true] at f
  rw[List.any_cons,List.any_cons,cI r f.1,jH t f.2]
theorem vG {A:Around}{s:Shared}{x:V}{v:Value}(rx:RelV x v) (fx:flatV x=true):∀{xs:List V}{us:List Value},Vals xs us->xs.all flatV=true->∀u∈us,SeqAt.EqAt A s u v (eqU x u)
 | _,_,.nil,_=>fun u hu=>by cases hu
 | y::xs,u::us,.cons r t,f=>fun u' hu=>by
  rw[List.all_cons,Bool.and_eq_true] at f
  rcases List.mem_cons.mp hu with rfl | hu
  ·rw[cI r f.1];exact xW7 r rx f.1 fx
  ·exact vG rx fx t f.2 u' hu
def inV (x:V) (xs:List V):Bool:=xs.any fun y=>eqV y x
def rIn (K:KFr) (neg:Bool):R2:=fun x y H Q=>∃p xs,y=.ref p/\(SqL K H p xs\/SqT K H p xs)/\flatV x=true/\xs.all flatV=true/\Q (.bl (if neg then !inV x xs else inV x xs)) H
theorem yW3:OpR X (compareOp .In) (rIn X.K false):=by
 intro pins s σ H x y v u Q I rx ry h
 obtain⟨p,xs,rfl,hq,fx,fs,q⟩:=h
 cases ry
 rcases hq with hq | hq
 ·obtain⟨its,r,pl,hz⟩:=I.list hq
  refine SeqAt.in_listAt (eqU x) pl.isList (fun w hw=>vG rx fx r fs w (by simpa using hw)) ⟨.bl _,H,I,rfl,?_⟩
  rw[show its.toArray.any (eqU x)=its.any (eqU x) by simp,jH r fs]
  exact q
 ·obtain⟨its,r,pl,hz⟩:=I.tuple hq
  refine SeqAt.in_tupleAt (eqU x) pl (fun w hw=>vG rx fx r fs w (by simpa using hw)) ⟨.bl _,H,I,rfl,?_⟩
  rw[show its.toArray.any (eqU x)=its.any (eqU x) by simp,jH r fs]
  exact q
theorem vT:OpR X (compareOp .NotIn) (rIn X.K true):=by
 intro pins s σ H x y v u Q I rx ry h
 obtain⟨p,xs,rfl,hq,fx,fs,q⟩:=h
 cases ry
 rcases hq with hq | hq
 ·obtain⟨its,r,pl,hz⟩:=I.list hq
  refine SeqAt.notIn_listAt (eqU x) pl.isList (fun w hw=>vG rx fx r fs w (by simpa using hw)) ⟨.bl _,H,I,rfl,?_⟩
  rw[show its.toArray.any (eqU x)=its.any (eqU x) by simp,jH r fs]
  exact q
 ·obtain⟨its,r,pl,hz⟩:=I.tuple hq
  refine SeqAt.notIn_tupleAt (eqU x) pl (fun w hw=>vG rx fx r fs w (by simpa using hw)) ⟨.bl _,H,I,rfl,?_⟩
  rw[show its.toArray.any (eqU x)=its.any (eqU x) by simp,jH r fs]
  exact q
theorem zG:CallR X (.builtin "len") (fun xs H Q=>∃p ys,xs=[.ref p]/\(SqL X.K H p ys\/SqT X.K H p ys)/\Q (.int ys.length) H):=by
 intro pins s σ H xs us Q I r h
 obtain⟨p,ys,rfl,hq,q⟩:=h
 obtain⟨u,rfl,rx⟩:=vals1 r
 cases rx
 have hn:=line63
 rcases hq with hq | hq
 ·obtain⟨its,r',pl,hz⟩:=I.list hq
  have hlen:=r'.length
  exact Calls.call_len_list pl.isList (by simp only[List.size_toArray] <;> bv_omega) ⟨.int ys.length,H,I.tok _,⟨s.toks+1,by rw[List.size_toArray,hlen]⟩,q⟩
 ·obtain⟨its,r',pl,hz⟩:=I.tuple hq
  have hlen:=r'.length
  exact len_tuple pl (by simp only[List.size_toArray] <;> bv_omega) ⟨.int ys.length,H,I.tok _,⟨s.toks+1,by rw[List.size_toArray,hlen]⟩,q⟩
theorem yX:CallR X (.type "tuple") (fun xs H Q=>∃p ys,xs=[.ref p]/\((SqL X.K H p ys/\∀l,H l=none->Q (.ref l) (upd H l (.tup ys)))\/(SqT X.K H p ys/\Q (.ref p) H))):=by
 intro pins s σ H xs us Q I r h
 obtain⟨p,ys,rfl,h⟩:=h
 obtain⟨u,rfl,rx⟩:=vals1 r
 cases rx
 rcases h with ⟨hq,q⟩ | ⟨hq,q⟩
 ·obtain⟨its,r',pl,hz⟩:=I.list hq
  have hlen:=r'.length
  refine call_tuple_list pl.isList (fun h' kp => ?_) (by simp only[List.size_toArray] <;> bv_omega)
  have I1:Inv X pins σ H { s with heap:=h' }:=I.kept (t':=s.toks) kp
  have I2:Inv X pins σ (upd H h'.objs.size (.tup ys)) { s with heap:=h'.push { cls:=.type "tuple",data:=.seq its.toArray } } :=
   I1.laid (t':=s.toks) (fun b o e=>Heap.get?_push_of_some _ e) (Nat.le_refl _) (show ObjOk X.prog X.w _ _ _ (.tup ys) from ⟨hz,its,r',TupAt.new _ _⟩)
  exact⟨.ref h'.objs.size,_,I2,rfl,q _ (I1.hok.fresh (Nat.le_refl _))⟩
 ·obtain⟨its,r',pl,hz⟩:=I.tuple hq
  exact call_tuple_same pl ⟨.ref p,H,I,rfl,q⟩
def tyV (K:KFr) (T:String) (x:V) (H:Hp):Prop:=match x with
 | .str _=>T="str"
 | .int _=>T="int"
 | .ref p=>(T="list"/\∃xs,SqL K H p xs)\/(T="tuple"/\((∃o,K.lookup p=some o/\o.cls=.type "tuple"/\o.dict=none)\/∃xs,Rd H p (.tup xs))) \/
   (T="dict"/\((∃kvs,H p=some (.dK kvs))\/∃kvs,H p=some (.dT kvs)))\/(T="set"/\∃S n,H p=some (.set S n))
 | _=>False
theorem xX7 {pins:List (Addr×Obj)}{σ:St}{H:Hp}{s:Shared}{T:String}{x:V}{v:Value}(I:Inv X pins σ H s) (r:RelV x v) (ty:tyV X.K T x H) :
  s.TypeIs v T/\∀a,v=.ref a->∃ob,s.heap.get? a=some ob/\ob.dict=none:=by
 cases x with
 | str z =>
  obtain⟨t,rfl⟩:=r
  cases (show T="str" from ty)
  exact⟨typeIs_str s z t,fun _ e=>nomatch e⟩
 | int i =>
  obtain⟨t,rfl⟩:=r
  cases (show T="int" from ty)
  exact⟨typeIs_int s i t,fun _ e=>nomatch e⟩
 | ref p =>
  cases r
  rcases ty with ⟨rfl,xs,hq⟩ | ⟨rfl,⟨o,hk,hc,hd⟩ | ⟨xs,hq⟩⟩ | ⟨rfl,hk⟩ | ⟨rfl,S,n,hk⟩
  ·obtain⟨its,_,pl,_⟩:=I.list hq
   refine⟨pl.isList.typeIs,fun a e => ?_⟩
   cases e
   obtain⟨o,n,e,c,hd,_⟩:=pl
   exact⟨o,e,hd⟩
  ·refine⟨⟨o,I.kIn p o hk,hc⟩,fun a e => ?_⟩
   cases e
   exact⟨o,I.kIn _ o hk,hd⟩
  ·obtain⟨_,its,_,o,e,c,_,hd⟩:=hq.ok I.hok
   refine⟨⟨o,e,c⟩,fun a e2 => ?_⟩
   cases e2
   exact⟨o,e,hd⟩
  ·have z:∃o,s.heap.get? p=some o/\o.ExactDict:=by
    rcases hk with ⟨kvs,hk⟩ | ⟨kvs,hk⟩
    ·obtain⟨_,_,_,_,o,_,_,e,ex,_⟩:=I.hok p _ hk
     exact⟨o,e,ex⟩
    ·obtain⟨_,_,_,_,o,_,_,e,ex,_⟩:=I.hok p _ hk
     exact⟨o,e,ex⟩
   obtain⟨o,e,ex⟩:=z
   refine⟨⟨o,e,ex.1⟩,fun a e2 => ?_⟩
   cases e2
   exact⟨o,e,ex.2.1⟩
  ·obtain⟨o,_,_,_,e,ex,_⟩:=I.hok p _ hk
   refine⟨⟨o,e,ex.1⟩,fun a e2 => ?_⟩
   cases e2
   exact⟨o,e,ex.2.1⟩
 | _=>exact False.elim ty
def tBM (K:KFr) (T:String) (r:V->List V->Hp->VK->Prop) (to:TE) (t:TA):TE:=fun σ H Q=>to σ H fun x H1=>tyV K T x H1/\t σ H1 fun xs H2=>r x xs H2 Q
variable {o e:Expr}{es:List Expr}{to:TE}{t:TA}{name:Str}{apos cpos:Pos}{T id:String}{r:V->List V->Hp->VK->Prop}
theorem qC (pa:PlainAttrs T) (slot:Slot T name id) (hty:typeOf (.builtin id)=pure (.type "method_descriptor")) (hm:MtR X id r) (ho:PE X o to) (ha:PA X (e::es) t)
  (hbase:autoParam (attributeBase o name X.env (eval o X.env)=eval o X.env) zZ._auto_1)
  (hfew:((backTo cpos (starEach (e::es) X.env)).all (fun x=>!x.1)&&(backToKw cpos (keywordEach [] X.env)).all (fun x=>x.1.isSome)
  &&decide ((e::es).length+([]:List Keyword).length+(if ([]:List Keyword).isEmpty then 0 else 1)<30))=true:=by rfl)
  (hline:autoParam ((apos.endLine == cpos.line)=true) zZ._auto_1) (hs:autoParam (starEach (e::es) X.env=(false,eval e X.env)::starEach es X.env) zZ._auto_1) (hplain:autoParam ((backTo cpos (starEach es X.env)).any (·.1)=false) zZ._auto_1) :
  PE X (.Call (.Attribute o name apos) (e::es) [] cpos) (tBM X.K T r to t):=by
 intro pins s σ H Q I h
 refine wpAny_Call_method_late hbase hfew hline rfl (thn (ho pins s σ H _ I h) fun v s1 ⟨x,H1,I1,r1,ty,q1⟩ => ?_)
 obtain⟨h1,h2⟩:=xX7 I1 r1 ty
 refine⟨T,id,pa,slot,hty,h1,h2,?_⟩
 have hA:=ha cpos pins s1 σ H1 _ I1 q1
 rw[hs] at hA ⊢
 refine Calls.callWith_builtin (by show (false || (backTo cpos (starEach es X.env)).any (·.1))=false;rw[hplain] <;> rfl) (Calls.evalArgs_plain ?_)
 exact thn hA fun us s2 ⟨vs,H2,I2,r2,q2⟩=>hm pins s2 σ H2 x vs v us Q I2 r1 r2 q2
end
def MtM (X:Cx) (id:String) (r:V->List V->Hp->VK->Prop):Prop :=
 ∀(pins:List (Addr×Obj)) (s:Shared) (σ:St) (H:Hp) (x:V) (xs:List V) (v:Value) (us:List Value) (Q:VK),Inv X pins σ H s->RelV x v->Vals xs us->r x xs H Q ->
  wpAny (model X.prog X.w) X.A (call (.builtin id) (v::us)) (EP X pins σ Q) X.xe s
theorem Vals.one:∀{x:V}{us:List Value},Vals [x] us->∃u,us=[u]/\RelV x u
 | _,_,.cons r .nil=>⟨_,rfl,r⟩
theorem Vals.rep {xs:List V}{us:List Value}(h:Vals xs us):∀k:Nat,Vals (List.replicate k xs).flatten (List.replicate k us).flatten
 | 0=>.nil
 | k+1=>by
  rw[List.replicate_succ,List.replicate_succ,List.flatten_cons,List.flatten_cons]
  exact Vals.append h (Vals.rep h k)
theorem gM (its:List Value):∀(k:Nat) (acc:List Value),
  List.foldl (fun x1 x2=>x1++x2) acc.toArray (List.replicate k its.toArray)=(acc++(List.replicate k its).flatten).toArray
 | 0,acc=>by simp
 | k+1,acc=>by
  have e:acc.toArray++its.toArray=(acc++its).toArray:=by simp
  have e2:(acc++its)++(List.replicate k its).flatten=acc++(List.replicate (k+1) its).flatten:=by
   rw[List.replicate_succ,List.flatten_cons,List.append_assoc]
  rw[<-e2,<-gM its k (acc++its),<-e,List.replicate_succ,List.foldl_cons]
section
variable {X:Cx}{pins:List (Addr×Obj)}{σ:St}{H:Hp}{s:Shared}{l b:Addr}{xs ys zs:List V}
theorem Inv.lset {its its':List Value}{n:Nat}{f:Array Value->Array Value}{t':Nat}(I:Inv X pins σ H s) (hH:H l=some (.lst xs))
  (e:s.heap.get? l=some { cls:=.type "list",data:=.seq its.toArray n }) (hf:f its.toArray=its'.toArray) (hv:Vals ys its') (hz:ys.length<=sizeLine) :
  Inv X pins σ (upd H l (.lst ys)) { s with heap:=s.heap.update l (Obj.mapSeq f),toks:=t' }:=by
 have q:=PySem.IsL.update e f
 rw[hf] at q
 refine I.write (x:=l) (e:=l) (by rw[hH];exact trivial) (.inl rfl) (fun b' u hb hu=>(Heap.get?_update_other s.heap (Obj.mapSeq f) (Ne.symm hb)).trans hu) ⟨_,q⟩ ?_
 exact⟨hz,its',_,hv,q⟩
theorem Inv.lnew {its:List Value}{t':Nat}(I:Inv X pins σ H s) (hv:Vals ys its) (hz:ys.length<=sizeLine) :
  Inv X pins σ (upd H s.heap.objs.size (.lst ys)) { s with heap:=s.heap.push { cls:=.type "list",data:=.seq its.toArray },toks:=t' } :=
 I.laid (fun _ _ q=>Heap.get?_push_of_some _ q) (Nat.le_refl _) ⟨hz,its,0,hv,Heap.get?_push_size _ rfl⟩
theorem Inv.fresh (I:Inv X pins σ H s):H s.heap.objs.size=none:=I.hok.fresh (Nat.le_refl _)
theorem Inv.lstM (I:Inv X pins σ H s) (hH:H l=some (.lst xs)):xs.length<=sizeLine/\∃(its:List Value) (n:Nat),Vals xs its/\xs.length=its.length/\s.heap.get? l=some { cls:=.type "list",data:=.seq its.toArray n }:=by
 obtain⟨z,its,n,r,e⟩:=I.hok l _ hH
 exact⟨z,its,n,r,r.length,e⟩
theorem notLongL {n:Nat}(h:n<=sizeLine):Builtin.List.listTooLong n=false:=by
 unfold Builtin.List.listTooLong
 exact decide_eq_false (by bv_omega)
end
section
variable {X:Cx}
def rAppend:V->List V->Hp->VK->Prop:=fun x vs H Q=>∃l xs y,x=.ref l/\vs=[y]/\H l=some (.lst xs)/\xs.length<sizeLine/\Q .non (upd H l (.lst (xs ++ [y])))
theorem wD:MtM X "list.append" rAppend:=by
 intro pins s σ H x vs v us Q I rx rv h
 obtain⟨l,xs,y,rfl,rfl,hH,hz,q⟩:=h
 cases rx
 obtain⟨u,rfl,ru⟩:=rv.one
 obtain⟨z,its,n,r,hl,e⟩:=I.lstM hH
 refine call_meets F.slot_list_append ⟨_,e,rfl⟩ F.entry_list_append (F.args_list_append_2 _ _) (PySem.list_append l its.toArray n u (by rw[List.size_toArray];bv_omega)) ⟨e,?_⟩
 refine⟨.non,_,I.lset (its':=its ++ [u]) hH e (by simp) (r.append (.cons ru .nil)) ?_,rfl,q⟩
 rw[List.length_append,List.length_singleton]
 bv_omega
def rRep:R2:=fun x y H Q=>∃l k xs,x=.ref l/\y=.int k/\H l=some (.lst xs)/\-(2 ^ 63)<=k/\k<2 ^ 63/\xs.length*k.toNat<=sizeLine /\
 ∀p,H p=none->Q (.ref p) (upd H p (.lst (List.replicate k.toNat xs).flatten))
theorem zK7 {α:Type}(xs:List α) (k:Nat):(List.replicate k xs).flatten.length=k*xs.length:=by
 induction k with
 | zero=>simp
 | succ k ih=>rw[List.replicate_succ,List.flatten_cons,List.length_append,ih,Nat.succ_mul,Nat.add_comm]
theorem xY5:OpR X (binaryOp .Mult) rRep:=by
 intro pins s σ H x y v u Q I rx ry h
 obtain⟨l,k,xs,rfl,rfl,hH,h1,h2,hz,q⟩:=h
 cases rx
 obtain⟨t,rfl⟩:=ry
 obtain⟨z,its,n,r,hl,e⟩:=I.lstM hH
 have hlen:its.toArray.size*k.toNat<=sizeLine:=by rw[List.size_toArray,<-hl];exact hz
 have hcap:¬its.toArray.size*k.toNat > (2 ^ 63-1) / 8:=by
  have:(sizeLine:Nat)<=(2 ^ 63-1) / 8:=by decide
  bv_omega
 have hfit:¬(!Builtin.List.listFitsIndex k)=true:=by
  rw[fitsIndex_both h1 h2]
  exact Bool.false_ne_true
 have hlong:¬Builtin.List.listTooLong (its.toArray.size*k.toNat)=true:=by
  rw[notLongL hlen]
  exact Bool.false_ne_true
 have hnew:List.foldl (fun x1 x2=>x1++x2) #[] (List.replicate (if its.toArray.isEmpty=true then 0 else k.toNat) its.toArray)=(List.replicate k.toNat its).flatten.toArray:=by
  have f0:∀m:Nat,List.foldl (fun x1 x2=>x1++x2) #[] (List.replicate m its.toArray)=(List.replicate m its).flatten.toArray:=fun m=>by
   have:=gM its m []
   rw[List.nil_append] at this
   exact this
  rw[f0]
  cases its with
  | nil=>simp
  | cons a r'=>rw[if_neg (by simp)]
 refine wpAny_binaryOp_repeat_ref (T:="list") (U:="int") (by decide) ⟨_,e,rfl⟩ (fun s'=>typeIs_int s' k t) noFill_list_mul F.fills_int_mul F.slot_int_rmul repeat_list F.slot_int_index.lookup
  (call_meets F.slot_int_rmul (typeIs_int s k t) F.entry_int_rmul (F.args_int_rmul_2 _ _) (int___rmul___int_list k t l its.toArray n)
   ⟨e,rfl,⟨_,e,rfl⟩,call_meets F.slot_list_mul ⟨_,e,rfl⟩ F.entry_list_mul (F.args_list_mul_2 _ _) (AutoListH.list___mul___list_int_3 l its.toArray n k t hfit hcap hlong) ⟨e,?_⟩⟩)
 rw[hnew]
 exact⟨.ref _,_,I.lnew (t':=s.toks) (r.rep k.toNat) (by rw[zK7,Nat.mul_comm];exact hz),rfl,q _ I.fresh⟩
end
section
variable {prog:Program}{w:World}{A:Around}{E:Value->Shared->Prop}{s:Shared}
end
section
variable {X:Cx}
end
end L2
namespace Att
open PySem PySem.W PySem.Calls PyProof.Rows
theorem dB {P:Params}{h:Heap}:∀(ns:List Int) (vs:List Value),WellAll P h vs (ns.map WData.int)->IntsAre vs ns:=by
 intro ns
 induction ns with
 | nil =>
  intro vs w
  rw[List.map_nil] at w
  cases w
  exact .nil
 | cons n ns ih =>
  intro vs w
  rw[List.map_cons] at w
  cases w with
  | cons a b =>
   cases a
   exact .cons _ _ (ih _ b)
theorem yZ4 {l:OpenLaw}{n:Nat}(hn:l.most=some n){P:Params}{h:Heap}{args:List WData}{vals:List Value}
  (hpre:l.row.toRowW.claim.pre args=true) (hwl:WellAll P h vals args) :
  ∃a vs ns,vals=[Value.ref a]/\args=[WData.list (ns.map WData.int)]/\h.get? a=some { cls:=.type "list",data:=.seq vs.toArray }/\IntsAre vs ns/\ns.length<=n:=by
 have hsh:WShape.hasAll [] args [.list .int]=true:=(pre_splitW hpre).1
 have hc:l.pre.holds [] { args:=args }=true:=(pre_splitW hpre).2
 obtain⟨d,r,rfl,h1,h2⟩:=hasAllW_cons hsh
 obtain rfl:=hasAllW_nil h2
 obtain⟨xs,rfl,h3⟩:=hasW_list h1
 obtain⟨ns,rfl⟩:=items_int h3
 have hlen:ns.length<=n:=by
  unfold OpenLaw.pre at hc
  have h4:(WTm.not (.lt (.lit (.int (n:Int))) (.len (.arg 0)))).holds [] { args:=[.list (ns.map .int)] }=true:=by
   have h4:=(holds_andW hc).1
   rw[hn] at h4
   exact h4
  have h5:=condW_of h4 (w_not (w_lt w_lit (w_len_list (w_arg rfl))))
  rw[List.length_map] at h5
  refine Nat.le_of_not_lt fun q => ?_
  have q':(n:Int)<((ns.length:Nat):Int):=by bv_omega
  first
   | (rw[decide_eq_true q'] at h5;exact absurd h5 (by decide))
   | (simp at h5;bv_omega)
 cases hwl with
 | cons w1 w2 =>
  cases w2
  cases w1 with
  | list ho hall=>exact⟨_,_,ns,rfl,rfl,ho,dB ns _ hall,hlen⟩
theorem zE8 (l:OpenLaw) (args:List WData):l.row.toRowW.claim.post args (.bool true) args=true :=
 postW_of (r:=l.row.toRowW) (X:=(true == true))
  (show WShape.has [] (.bool true) .bool=true by first | rfl | decide | simp[WShape.has,WShape.arms,WShape.armsAll])
  (show (WTm.eq .res (.lit (.bool true))).value [] { args:=args,res:=some (.bool true),after:=args }=some (.bool (true == true)) from w_eq_bool (w_res rfl) w_lit) rfl
theorem zP8 {l:OpenLaw}{n:Nat}{q:Program}{loose:List Str}{XP:(Str->Option Value)->Heap->Prop}{YP:World->Heap->Prop}{d:DefRec}
  (hn:l.most=some n) (hdf:d.params.defaults=[])
  (call:∀(w:World) (s₀ s₁:Shared) (mg mb:Str->Option Value) (fa:Addr) (o:Obj) (pm cd doc:Value) (a:Addr) (vs:List Value) (ns:List Int),
   Ground q loose [] XP w s₀ mg mb s₁.heap->YP w s₁.heap ->
   s₁.heap.get? fa=some o->o.data=.func (docDef d.name d.params d.body d.scope pm cd doc)->s₁.heap.CodeRec cd d.name->mg d.name=some (.ref fa) ->
   s₁.heap.get? a=some { cls:=.type "list",data:=.seq vs.toArray }->IntsAre vs ns->ns.length<=n->s₁.gens=#[] ->
   codeAny (model l.prog w) callerA (.call (.ref fa) ⟨[.ref a],[]⟩) (fun r s'=>r=.ok (.ret (.bool true))/\OldK s₁.heap s'.heap/\s'.os=s₁.os/\AllBare s'.gens) s₁) :
  WalkO q loose XP YP l.row.toRowW d [] (fun f vs=>PySem.call f vs):=by
 intro w s₀ s₁ mg mb G Y fa o pm cd doc dV kV ho hd hcd hD hmg hg args vals as hpre hlay hrd hwl hlo
 obtain rfl:dV=.none:=Dflts.none hD hdf
 obtain rfl:kV=.none:=Dflts.noKw hD
 obtain⟨a,vs,ns,rfl,rfl,hobj,hints,hlen⟩:=yZ4 hn hpre hwl
 refine enter_call (codeAny_mono (call w s₀ s₁ mg mb fa o pm cd doc a vs ns G Y ho (fd_plain hd) hcd hmg hobj hints hlen hg) fun r s' hq => ?_)
 obtain⟨rfl,h2,h3,h4⟩:=hq
 exact⟨.inl ⟨.bool true,.bool true,[],rfl,fun _=>rfl,.bool true,zE8 l _,fun _=>⟨List.Pairwise.nil,fun _ hm=>(nomatch hm)⟩⟩,h2,h3,h4⟩
section
variable {prog:Program}{w:World}{A:Around}{E:Value->Shared->Prop}{s:Shared}{K:Frag}
end
end Att
namespace L2
open PySem PySem.Spec PyProof.Rows
theorem hG:∀{vs:List Value}{ns:List Int},IntsAre vs ns->Vals (ns.map V.int) vs
 | _,_,.nil=>.nil
 | _,_,.cons n t h=>.cons ⟨t,rfl⟩ (hG h)
def Only (H:Hp):Prop:=∀b,H b=none\/(∃o xs,H b=some (.frz o (.lst xs)))\/∃q,H b=some (.tbl q)
def tabH (K:KFr):List Str->Hp
 | []=>fun _=>none
 | x::r=>match PySem.W.tabIn K x with
  | some (_,P)=>upd (tabH K r) P (.tbl (lamQ x))
  | none=>tabH K r
theorem xU {K:KFr}{b:Addr}{o:HO}:∀{l:List Str},tabH K l b=some o->∃x∈l,∃c,PySem.W.tabIn K x=some (c,b)/\o=.tbl (lamQ x)
 | [],h=>nomatch h
 | x::r,h=>by
  rw[tabH] at h
  rcases e:PySem.W.tabIn K x with _ | ⟨c,P⟩ <;> simp only[e] at h
  rotate_left
  ·by_cases hb:b=P
   ·subst hb
    rw[zV] at h
    cases h
    exact⟨x,List.mem_cons_self,c,e,rfl⟩
   ·rw[zY hb] at h
    obtain⟨y,hy,c,e1,e2⟩:=xU h
    exact⟨y,List.mem_cons_of_mem _ hy,c,e1,e2⟩
  ·obtain⟨y,hy,c,e1,e2⟩:=xU h
   exact⟨y,List.mem_cons_of_mem _ hy,c,e1,e2⟩
theorem kW {K:KFr}(U:∀x y c c' P,x∈tabNames->y∈tabNames->PySem.W.tabIn K x=some (c,P)->PySem.W.tabIn K y=some (c',P)->x=y){c P:Addr}:∀{l:List Str}{x:Str},(∀y∈l,y∈tabNames)->x∈l->PySem.W.tabIn K x=some (c,P)->tabH K l P=some (.tbl (lamQ x))
 | y::r,x,hl,hx,e=>by
  rw[tabH]
  rcases e':PySem.W.tabIn K y with _ | ⟨c',P'⟩ <;> simp only
  rotate_left
  ·by_cases hb:P=P'
   ·subst hb
    rw[zV,U x y c c' P (hl x hx) (hl y List.mem_cons_self) e e']
   ·rw[zY hb]
    rcases List.mem_cons.mp hx with rfl | hx
    ·rw[e] at e';cases e';exact absurd rfl hb
    ·exact kW U (fun z hz=>hl z (List.mem_cons_of_mem _ hz)) hx e
  ·rcases List.mem_cons.mp hx with rfl | hx
   ·rw[e] at e';cases e'
   ·exact kW U (fun z hz=>hl z (List.mem_cons_of_mem _ hz)) hx e
theorem yU2 {P:Program}{w:World}{K:KFr}{mg mb:Str->Option Value}{CX:CXT}{k:Nat}{fa a:Addr}{fd:FuncData}{x:Str}{sp:Sp}{s₁:Shared}{vs:List Value}{ns:List Int}
  (KX:K.In s₁.heap) (hns:s₁.heap.Ns mainGlobals mg) (hb:s₁.heap.Ns builtinsNs mb) (hbb:∀x:Str,x ≠ "__name__"->mb x=bootBuiltins x) (hlim:s₁.heap.NoLimit) (hg:s₁.gens=#[])
  (ha:s₁.heap.get? a=some { cls:=.type "list",data:=.seq vs.toArray }) (hi:IntsAre vs ns) (hl:ns.length<=sizeLine) (hr:Room k callerA)
  (F:∀base:Heap,K.In base->base.Ns mainGlobals mg->FnOk P w K mg base CX k fa fd [x] sp) (hbind:∀(s:Shared) (u:Value),BindsTo s fd ⟨[u],[]⟩ [(x,u)])
  (hsp:∀H:Hp,Only H->SqL K H a (ns.map V.int)->sp [.ref a] H (fun v _=>v=.bl true) fun _ _ _=>False)
  (hCX:∀H e s',CX [] H s₁ (fun _ _ _=>False) e s'->False) (hnt:PySem.W.noTabs K=true) (hU:∀x y c c' P,x∈tabNames->y∈tabNames->PySem.W.tabIn K x=some (c,P)->PySem.W.tabIn K y=some (c',P)->x=y)
  (htab:∀x∈tabNames,∀c P,PySem.W.tabIn K x=some (c,P)->PySem.W.CodeHd s₁.heap c P/\s₁.heap.get? P=some (PySem.W.tabObj #[]))
  (hbm:∃bm ob,mg "__builtins__" = some (.ref bm)/\bm≠builtinsNs/\s₁.heap.get? bm=some ob/\ob.cls=.type "module"/\ob.dict=some builtinsNs/\ob.data=.plain) :
  codeAny (model P w) callerA (.call (.ref fa) ⟨[.ref a],[]⟩) (fun r s'=>r=.ok (.ret (.bool true))/\OldK s₁.heap s'.heap/\s'.os=s₁.os/\AllBare s'.gens) s₁:=by
 have rv:=hG hi
 have lenV:=hi.length
 have core:∀H:Hp,Only H->SqL K H a (ns.map V.int)->HOk P w H s₁.heap->(∀b,H b≠none->b=a\/s₁.heap.get? b=some (PySem.W.tabObj #[]))->(H a≠none->K.lookup a=none)->TabsIn K H->(∀b q,H b=some (.tbl q)->∃x∈tabNames,∃c,PySem.W.tabIn K x=some (c,b)) ->
   codeAny (model P w) callerA (.call (.ref fa) ⟨[.ref a],[]⟩) (fun r s'=>r=.ok (.ret (.bool true))/\OldK s₁.heap s'.heap/\s'.os=s₁.os/\AllBare s'.gens) s₁:=by
  intro H hO hS hok hA hK hTI hTb
  have base_of:∀{b:Addr}{o:Obj},s₁.heap.get? b=some o->H b=none->(hidT s₁.heap H).get? b=some o:=fun e n=>yT2 e n
  have noA:∀{b:Addr}{o:Obj}{es:Array DictEntry}{ep:Nat},s₁.heap.get? b=some o->o.data=.dict es ep->H b=none:=fun {b o es ep} e d=>by
   cases q:H b with
   | none=>rfl
   | some u =>
    rcases hA b (by rw[q];simp) with e' | e'
    ·subst e'
     rw[ha] at e;cases e
     have d':Data.seq vs.toArray _=Data.dict es ep:=d
     cases d'
    ·rw[e] at e';cases e';cases d
  have nsK:∀{b:Addr}{m:Str->Option Value},s₁.heap.Ns b m->(hidT s₁.heap H).Ns b m:=fun {b m} ⟨o,es,ep,e,d,r⟩=>⟨o,es,ep,base_of e (noA e d),d,r⟩
  have hKb:K.In (hidT s₁.heap H):=fun b o e=>base_of (KX b o e) (by
   cases q:H b with
   | none=>rfl
   | some u =>
    rcases hA b (by rw[q];simp) with e' | e'
    ·subst e'
     rw[hK (by rw[q];simp)] at e;cases e
    ·rw[KX b o e] at e';cases e'
     exact absurd (List.all_eq_true.mp hnt _ (PySem.W.mem_of_lookupK e)) (by simp))
  have unt:∀{b:Addr}{o:Obj}{T:String},s₁.heap.get? b=some o->o.cls=.type T->T ≠ "list"->H b=none:=fun {b o T} e c n=>by
   cases q:H b with
   | none=>rfl
   | some u =>
    rcases hA b (by rw[q];simp) with e' | e'
    ·subst e'
     rw[ha] at e;cases e
     have c':Value.type "list" = Value.type T:=c
     injection c' with c'
     exact absurd c'.symm n
    ·rw[e] at e';cases e';cases c
  have hM:Mod K mg (hidT s₁.heap H):=⟨fun x hx c P e=>let ⟨⟨o,vs,f,tf,fl,tg,i,tx,tt,e1,e2,r⟩,_⟩:=htab x hx c P e; ⟨o,vs,f,tf,fl,tg,i,tx,tt,base_of e1 (unt e1 e2 (by decide)),e2,r⟩,let ⟨bm,ob,b1,b2,b3,b4,r⟩:=hbm; ⟨bm,ob,b1,b2,base_of b3 (unt b3 b4 (by decide)),b4,r⟩,hKb,nsK hns,⟨mb,nsK hb,hbb⟩,let ⟨mc,h1,h2⟩:=hlim; ⟨mc,nsK h1,h2⟩⟩
  have e0:Env0 P w K mg (hidT s₁.heap H) callerA [] s₁ H:=⟨rfl,hM,fun b o e=>yG5 e,Nat.le_of_eq (yW7 _ _),trivial,fun b hb=>absurd (show b∈([]:List Addr) from hb) (by simp),hok,.of_eq hg,hTI⟩
  refine codeAny_mono ((F _ hKb (nsK hns)).run callerA [] s₁ H ⟨[.ref a],[]⟩ [.ref a] [.ref a] _ _ hr e0 (hbind s₁ (.ref a)) (.cons rfl .nil) (hsp H hO hS)) fun r s' h => ?_
  cases r with
  | error e=>exact (hCX H e s' h).elim
  | ok fl =>
   cases fl with
   | next=>exact False.elim h
   | brk=>exact False.elim h
   | cont=>exact False.elim h
   | ret u =>
    obtain⟨v,H',os,bare,un,hok',r',q⟩:=h
    have q':v=.bl true:=q
    subst q'
    obtain rfl:u=Value.bool true:=r'
    refine⟨rfl,⟨fun b o e => ?_,fun b o e=>un.there b o e (by simp)⟩,os,bare⟩
    cases q:H b with
    | none=>exact .inl (un.keep b o e q (by intro z;exact absurd (show b∈([]:List Addr) from z) (by simp)) (by simp))
    | some u =>
     rcases hO b with z | ⟨ob,xs,z⟩ | ⟨qq,z⟩
     ·rw[q] at z;cases z
     ·have z2:=un.frzs b ob _ z
      obtain⟨e1,_⟩:=hok b _ z
      obtain⟨e2,_⟩:=hok' b _ z2
      rw[e] at e1;cases e1
      exact .inl e2
     ·obtain⟨ps,e2,_⟩:=hok' b _ (un.tbls b _ z)
      rcases hA b (by rw[z];simp) with e' | e'
      ·obtain⟨ps0,e3,_⟩:=hok b _ z
       rw[e',ha] at e3;cases e3
      ·obtain⟨x,hx,c,e4⟩:=hTb b qq z
       obtain⟨e5,e6⟩:=htab x hx c b e4
       rw[e] at e6;cases e6
       exact .inr (.inl ⟨(e5.tab e).isCodeTable,rfl,#[],ps,rfl,by rw[Array.empty_append];exact e2⟩)
 have tA:∀b,tabH K tabNames b≠none->s₁.heap.get? b=some (PySem.W.tabObj #[]):=fun b z=>by
  cases q:tabH K tabNames b with
  | none=>exact absurd q z
  | some u=>obtain⟨x,hx,c,e,_⟩:=xU q;exact (htab x hx c b e).2
 have tOk:HOk P w (tabH K tabNames) s₁.heap:=fun b u z=>by
  obtain⟨x,hx,c,e,rfl⟩:=xU z
  exact⟨#[],(htab x hx c b e).2,trivial,fun pos cv z=>nomatch z⟩
 have tB:∀b q,tabH K tabNames b=some (.tbl q)->∃x∈tabNames,∃c,PySem.W.tabIn K x=some (c,b):=fun b q z=>let ⟨x,hx,c,e,_⟩:=xU z; ⟨x,hx,c,e⟩
 have ta:tabH K tabNames a=none:=by
  cases q:tabH K tabNames a with
  | none=>rfl
  | some u =>
   have:=tA a (by rw[q];simp)
   rw[ha] at this;cases this
 cases hk:K.lookup a with
 | some o =>
  have e:=KX a o hk
  rw[ha] at e
  cases e
  have na:tabH K tabNames a=none:=by
   cases q:tabH K tabNames a with
   | none=>rfl
   | some u =>
    obtain⟨x,hx,c,e1,_⟩:=xU q
    have:=(htab x hx c a e1).2
    rw[ha] at this;cases this
  refine core (tabH K tabNames) (fun b => ?_) (.inr ⟨_,vs.toArray,_,hk,rfl,rfl,rfl,by rw[List.size_toArray,lenV];exact hl,by simpa using rv⟩) tOk (fun b z=>.inr ?_) (fun z=>absurd na z) (fun x hx c P e=>kW hU (fun _ hy=>hy) hx e) tB
  ·cases q:tabH K tabNames b with
   | none=>exact .inl rfl
   | some u=>obtain⟨x,_,_,_,rfl⟩:=xU q;exact .inr (.inr ⟨_,rfl⟩)
  ·exact tA b z
 | none =>
  refine core (upd (tabH K tabNames) a (.frz { cls:=.type "list",data:=.seq vs.toArray } (.lst (ns.map V.int)))) (fun b => ?_) (.inl (.inr ⟨{ cls:=.type "list",data:=.seq vs.toArray },zV⟩)) (fun b u z => ?_) (fun b z => ?_) (fun _=>hk) (fun x hx c P e => ?_) fun b q z => ?_
  ·by_cases hb:b=a
   ·subst hb;exact .inr (.inl ⟨_,_,zV⟩)
   ·rw[zY hb]
    cases q:tabH K tabNames b with
    | none=>exact .inl rfl
    | some u=>obtain⟨x,_,_,_,rfl⟩:=xU q;exact .inr (.inr ⟨_,rfl⟩)
  ·by_cases hb:b=a
   ·subst hb
    rw[zV] at z
    cases z
    exact⟨ha,by rw[List.length_map];exact hl,vs,_,rv,ha⟩
   ·rw[zY hb] at z
    refine (tOk b u z).stay (fun _ _ _ q=>q) (fun c q => ?_) (fun c xs q => ?_) fun c o xs q => ?_
    ·obtain⟨_,_,_,_,q'⟩:=xU q;cases q'
    ·obtain⟨_,_,_,_,q'⟩:=xU q;cases q'
    ·obtain⟨_,_,_,_,q'⟩:=xU q;cases q'
  ·by_cases hb:b=a
   ·exact .inl hb
   ·rw[zY hb] at z
    exact .inr (tA b z)
  ·have hP:=kW hU (fun _ hy=>hy) hx e
   rw[zY (fun z=>by rw[z,ta] at hP;cases hP)]
   exact hP
  ·by_cases hb:b=a
   ·subst hb;rw[zV] at z;cases z
   ·rw[zY hb] at z
    exact tB b q z
abbrev KOf {K:KFr}{h:Heap}(_:K.In h):KFr:=K
structure TabsOk (q:Program) (K:Params->KFr):Prop where
 nt:∀w:World,PySem.W.noTabs (K w.params)=true
 un:∀(w:World) x y c c' P,x∈tabNames->y∈tabNames->PySem.W.tabIn (K w.params) x=some (c,P)->PySem.W.tabIn (K w.params) y=some (c',P)->x=y
 rc:∀(w:World),∀x∈tabNames,(PySem.W.tabIn (K w.params) x).isSome=true->((recsOf q).find? (fun e=>e.name == x)).isSome=true
theorem yC3 {l:PySem.W.OpenLaw}{n k:Nat}{q:Program}{loose:List Str}{XP:(Str->Option Value)->Heap->Prop}{YP:World->Heap->Prop}{d:DefRec}{K:Params->KFr}{CX:World->CXT}{sp:World->Sp}{x:Str}
  (hn:l.most=some n) (hn2:n<=sizeLine) (hdf:d.params.defaults=[]) (hr:Room k callerA)
  (hY:∀(w:World) (h:Heap),YP w h->(K w.params).In h)
  (F:∀(w:World) (mg:Str->Option Value) (fa:Addr) (h:Heap),(K w.params).In h->h.Ns mainGlobals mg->mg d.name=some (.ref fa) ->
   ∃fd:FuncData,(∀(s:Shared) (u:Value),BindsTo s fd ⟨[u],[]⟩ [(x,u)]) /\
    ∀base:Heap,(K w.params).In base->base.Ns mainGlobals mg->FnOk l.prog w (K w.params) mg base (CX w) k fa fd [x] (sp w))
  (hsp:∀(w:World) (H:Hp) (a:Addr) (ns:List Int),ns.length<=n->Only H->SqL (K w.params) H a (ns.map V.int)->sp w [.ref a] H (fun v _=>v=.bl true) fun _ _ _=>False)
  (hCX:∀(w:World) (H:Hp) (s:Shared) (e:Value) (s':Shared),CX w [] H s (fun _ _ _=>False) e s'->False) (TT:TabsOk q K) :
  PySem.W.WalkO q loose XP YP l.row.toRowW d [] (fun f vs=>PySem.call f vs):=by
 refine Att.zP8 hn hdf fun w s₀ s₁ mg mb fa o pm cd doc a vs ns G Y ho hd hcd hmg hobj hints hlen hg => ?_
 have KX:=hY w _ Y
 obtain⟨fd,hb,hF⟩:=F w mg fa _ KX G.T.g hmg
 exact yU2 KX G.T.g G.T.b G.T.builtins G.T.nolimit hg hobj hints (Nat.le_trans hlen hn2) hr hF hb (fun H hO hS=>hsp w H a ns hlen hO hS) (fun H e s'=>hCX w H s₁ e s') (TT.nt w) (TT.un w) (fun y hy c P e=>by
  have z:=TT.rc w y hy (by rw[e];rfl)
  obtain⟨d',hd'⟩:=Option.isSome_iff_exists.mp z
  exact PySem.W.tab_of G.T KX hd' e) G.T.bmain
def defArgs (s:Stmt):Arguments:=match s with
 | .FunctionDef _ a _ _ _ _ _ _ _ _=>a
 | _=>{ posonlyargs:=[],args:=[],vararg:=none,kwonlyargs:=[],kw_defaults:=[],kwarg:=none,defaults:=[] }
def defBody (s:Stmt):List Stmt:=match s with
 | .FunctionDef _ _ b _ _ _ _ _ _ _=>b
 | _=>[]
def zT (s:Stmt):Scope:=match s with
 | .FunctionDef _ _ _ _ _ _ sc _ _ _=>sc
 | _=>{ kind:=.function,names:=[],isGenerator:=false,isCoroutine:=false }
abbrev CX0:CXT:=fun _ _ _ _ _ _=>False
abbrev E0:XK:=fun _ _ _=>False
theorem pass0 {X:Cx}:Passes CX0 X E0:=fun _ _ _ _ _ _ _ h=>h.elim
structure Fun (K:KFr) (x qual:Str) (st:Stmt) (f:Addr) (fd:FuncData):Prop where
 ex:∃(oc:Value) (od:Option Addr) (kV doc pm:Value) (an:Option Addr) (cdv ct:Value) (osl:Array (Option Value)),
  fd=PySem.W.fnOf x qual (defArgs st) (defBody st) (zT st) .none kV doc pm an cdv ct/\K.lookup f=some ⟨oc,od,.func fd,osl⟩/\PySem.W.codeIn K cdv qual=true
 kp:PySem.W.keepIn K (.ref f)=true
section
variable {P:Program}{w:World}{K:KFr}{mg:Str->Option Value}{base:Heap}
theorem Fun.ok {x qual:Str}{st:Stmt}{f:Addr}{fd:FuncData}{N ps:List Str}{k:Nat}{sp:Sp}(F:Fun K x qual st f fd) (S:zJ N ps (zT st)) (len:∀vs H Q E,sp vs H Q E->vs.length=ps.length)
  (hbody:∀(cdv:Value) (A:Around) (outer:List Env) (s:Shared) (H:Hp) (vs:List V) (Q:VK) (E:XK),Room k (A.deeper (envOfC qual (zT st) s.heap.objs.size f cdv))->sp vs H Q E ->
   ∃t,PSs (cxOf CX0 P w K mg base N qual (zT st) f cdv A outer s H E).nox (defBody st) t/\t { nx:=fun _ H'=>Q .non H',rt:=Q } (start N vs) H):FnOk P w K mg base CX0 (k+1) f fd ps sp:=by
 obtain⟨oc,od,kV,doc,pm,an,cdv,ct,osl,rfl,lk,hcd⟩:=F.ex
 refine yL1 lk hcd S len fun A outer s H vs Q E hr hsp => ?_
 obtain⟨t,h,q⟩:=hbody cdv A outer s H vs Q E hr hsp
 exact⟨t,h.nox,q⟩
theorem Fun.binds {x qual:Str}{st:Stmt}{f:Addr}{fd:FuncData}{ps:List Str}(F:Fun K x qual st f fd)
  (h:∀(kV doc pm:Value) (an:Option Addr) (cdv ct:Value) (us:List Value),us.length=ps.length->bindArgs (PySem.W.fnOf x qual (defArgs st) (defBody st) (zT st) .none kV doc pm an cdv ct) ⟨us,[]⟩=pure (ps.zip us)):Binds K fd ps []:=by
 obtain⟨oc,od,kV,doc,pm,an,cdv,ct,osl,rfl,lk,hcd⟩:=F.ex
 exact .all (h kV doc pm an cdv ct)
theorem xZ4 {x qual:Str}{st:Stmt}{f:Addr}{oc:Value}{od an:Option Addr}{osl:Array (Option Value)}{kV doc pm cdv ct:Value}(l:K.lookup f=some ⟨oc,od,.func (PySem.W.fnOf x qual (defArgs st) (defBody st) (zT st) .none kV doc pm an cdv ct),osl⟩)
  (c:PySem.W.codeIn K cdv qual=true) (k:PySem.W.keepIn K (.ref f)=true):Fun K x qual st f (PySem.W.fnOf x qual (defArgs st) (defBody st) (zT st) .none kV doc pm an cdv ct):=⟨⟨oc,od,kV,doc,pm,an,cdv,ct,osl,rfl,l,c⟩,k⟩
end
theorem small1000 {n:Nat}(h:n<=1000):n<sizeLine:=Nat.lt_of_le_of_lt h (by decide)
section
variable {X:Cx}
theorem pv (i:Nat){x:Str}{pos:Pos}(hN:autoParam (X.N[i]?=some x) zZ._auto_1) (hv:autoParam (Vis X.env.scope x) qE._auto_1) (hd:autoParam ((x == ("__debug__":Str))=false) zL._auto_1)
  (hcd:autoParam ((x == ("__classdict__":Str))=false) zL._auto_1):PE X (.Name x pos) (tVar i):=uI hN hv hd hcd
end
theorem iteF {A B:Prop}(h:B):if false=true then A else B:=by
 rw[if_neg Bool.false_ne_true]
 exact h
theorem iteT {A B:Prop}(h:A):if true=true then A else B:=by
 rw[if_pos rfl]
 exact h
def Same (H H':Hp):Prop:=∀b o,H b=some o->H' b=some o
theorem Same.refl (H:Hp):Same H H:=fun _ _ h=>h
theorem Same.trans {H H1 H2:Hp}(a:Same H H1) (b:Same H1 H2):Same H H2:=fun c o h=>b c o (a c o h)
theorem Same.free {H H':Hp}(e:Same H H'){l:Addr}(h:H' l=Option.none):H l=Option.none:=by
 cases q:H l with
 | none=>rfl
 | some o =>
  rw[e l o q] at h
  cases h
end L2
set_option maxHeartbeats 2000000
namespace PySem
section
variable {prog:Program}{w:World}{A:Around}{E:Value->Shared->Prop}{s:Shared}
theorem zH3 {x:Value}{Q:List Value->Shared->Prop}
  (k:codeAny (model prog w) A (.builtin "list.__iadd__" ⟨[.ref s.heap.objs.size,x],[]⟩) (wants (fun v s'=>v=.ref s.heap.objs.size/\∃acc n,s'.heap.get? s.heap.objs.size=some { cls:=.type "list",data:=.seq acc n }/\Q acc.toList s') E) { s with heap:=s.heap.push { cls:=.type "list",data:=.seq #[] } }) :
  wpAny (model prog w) A (collect x) Q E s:=by
 wp_walk
 have h1:=F.entry_proto_collect
 have h2:=F.plain_proto_collect
 have h3:=F.plain_list_iadd
 refine codeAny_builtin h1 ?_
 rw[Around.under_plainId h2]
 wp_walk
 refine⟨plainId_quiet h3 _,codeAny_mono k fun r s' hr => ?_⟩
 cases r with
 | error e=>exact hr
 | ok f =>
  cases f with
  | ret v =>
   obtain⟨rfl,acc,n,g,q⟩:=hr
   exact wpAny_bind (wpAny_load g (wpAny_pure q))
  | _=>exact hr.elim
theorem zP9 {x:Value}{S:Spec}{Q:List Value->Shared->Prop}(m:MeetsIn prog w (Builtin.List.listExtendWith (.ref s.heap.objs.size) x (.ref s.heap.objs.size)) S)
  (k:S A (wants (fun v s'=>v=.ref s.heap.objs.size/\∃acc n,s'.heap.get? s.heap.objs.size=some { cls:=.type "list",data:=.seq acc n }/\Q acc.toList s') E) { s with heap:=s.heap.push { cls:=.type "list",data:=.seq #[] } }) :
  wpAny (model prog w) A (collect x) Q E s:=by
 have z:=F.plain_list_iadd
 have y:=m A _ _ k
 refine zH3 (codeAny_builtin F.entry_list_iadd ?_)
 rw[Around.under_plainId z]
 exact y
theorem zC2 {l:Addr}{its:Array Value}{P:Value->Shared->Prop}(hh:A.handled=none) (hl:s.heap.IsList l its)
  (k:∀(I:Addr) (hp:Heap) (St:Nat->Heap->Prop),Walks prog w A I [I,l] [I] its.size (fun i v=>its[i]?=some v) St->St 0 hp->I<hp.objs.size->l<hp.objs.size->(∀b o,s.heap.get? b=some o->b≠I/\hp.get? b=some o)->P (.ref I) { s with heap:=hp }) :
  wpAny (model prog w) A (pyIter (.ref l)) P E s:=by
 have on:∀{b:Addr}{o:Obj},s.heap.get? b=some o->b<s.heap.objs.size:=fun g=>Heap.lt_size g
 have ll:l<s.heap.objs.size:=let ⟨_,g,_⟩:=hl;on g
 refine wpAny_pyIter_list hl (k _ _ _ (Walks.list hh _ l (Nat.ne_of_lt ll) its) ⟨⟨_,Heap.get?_push_size _ rfl,rfl,rfl⟩,hl.at fun _ g=>Heap.get?_push_of_some _ g⟩ ?_ ?_ fun b o g=>⟨Nat.ne_of_lt (on g),Heap.get?_push_of_some _ g⟩)
 ·exact Nat.lt_of_lt_of_eq (Nat.lt_succ_self _) (Heap.size_push ..).symm
 ·exact Nat.lt_of_lt_of_eq (Nat.lt_succ_of_lt ll) (Heap.size_push ..).symm
theorem zS8 {l:Addr}{its:Array Value}{P:Value->Shared->Prop}(hh:A.handled=none) (hl:s.heap.IsTuple l its)
  (k:∀(I:Addr) (hp:Heap) (St:Nat->Heap->Prop),Walks prog w A I [I,l] [I] its.size (fun i v=>its[i]?=some v) St->St 0 hp->I<hp.objs.size->l<hp.objs.size->(∀b o,s.heap.get? b=some o->b≠I/\hp.get? b=some o)->P (.ref I) { s with heap:=hp }) :
  wpAny (model prog w) A (pyIter (.ref l)) P E s:=by
 have on:∀{b:Addr}{o:Obj},s.heap.get? b=some o->b<s.heap.objs.size:=fun g=>Heap.lt_size g
 have ll:l<s.heap.objs.size:=let ⟨_,g,_⟩:=hl;on g
 refine wpAny_pyIter_tuple hl (k _ _ _ (Walks.tuple hh _ l (Nat.ne_of_lt ll) its) ⟨⟨_,Heap.get?_push_size _ rfl,rfl,rfl⟩,hl.at fun _ g=>Heap.get?_push_of_some _ g⟩ ?_ ?_ fun b o g=>⟨Nat.ne_of_lt (on g),Heap.get?_push_of_some _ g⟩)
 ·exact Nat.lt_of_lt_of_eq (Nat.lt_succ_self _) (Heap.size_push ..).symm
 ·exact Nat.lt_of_lt_of_eq (Nat.lt_succ_of_lt ll) (Heap.size_push ..).symm
theorem yF2 {l b:Addr}{xs ys:Array Value}{n m:Nat}{o:Obj}(hc:o.cls=.type "tuple") (hd:o.data=.seq ys m) (fit:xs.size+ys.size<=sizeLine) :
  Meets (Builtin.«list.extend» ⟨[.ref l,.ref b],[]⟩) (fun _ R x=>x.heap.get? l=some { cls:=.type "list",data:=.seq xs n }/\x.heap.get? b=some o/\R (.ok (.ret .none)) { x with heap:=x.heap.update l (Obj.mapSeq (·++ys)) }) :=
 .of_wp fun prog w A R x ⟨hl,hb,k⟩=>by
  have t:x.TypeIs (.ref b) "tuple":=⟨o,hb,hc⟩
  have e1:Builtin.List.listTooLong (xs.size+ys.size)=false:=by
   unfold Builtin.List.listTooLong
   simpa using fit
  have e2:(xs++ys).size<=sizeLine+1:=by rw[Array.size_append];bv_omega
  have e3:xs.size<=sizeLine:=by bv_omega
  wp_walk using wpAny_typeOf t,wpAny_seqItems hl rfl,wpAny_seqItems hb hd,wpAny_updateSeq hl rfl
  exact⟨_,rfl,k⟩
theorem zR3 {it:Addr}{P:Value->Shared->Prop}(ty:s.TypeIs (.ref it) "tuple_iterator")
  (k:wpAny (model prog w) A.in1 (Builtin.«tuple_iterator.__next__» ⟨[.ref it],[]⟩) (fun f x=>∃v,f=.done (.ret v)/\P v x) E s):wpAny (model prog w) A (Builtin.SmallTypes.nextOf (.ref it)) P E s:=by
 have sl:=F.slot_tuple_iterator_next
 have en:=F.entry_tuple_iterator_next
 have ok:=F.args_tuple_iterator_next_1 (.ref it)
 have c:wpAny (model prog w) A (call (.builtin "tuple_iterator.__next__") [.ref it]) P E s:=wpAny_call_entry sl ty en k ok
 unfold Builtin.SmallTypes.nextOf
 exact wpAny_bind (wpAny_callSpecial?_slot ty sl (wpAny_mono c (fun v x z=>wpAny_pure z) fun _ _ z=>z))
section
variable {it t:Addr}{i:Nat}{its:Array Value}
theorem yR2 {v:Value}{P:Value->Shared->Prop}(hI:s.heap.IsTupleIter it t i) (hT:s.heap.IsTuple t its) (at_:its[i]?=some v)
  (k:∀h',h'.IsTupleIter it t (i+1)->Heap.SameBut it s.heap h'->P v { s with heap:=h' }):wpAny (model prog w) A (Builtin.SmallTypes.nextOf (.ref it)) P E s:=by
 refine zR3 hI.typeIs ?_
 obtain⟨o,a1,a2,a3⟩:=hI
 obtain⟨ot,b1,b2,n,b3⟩:=hT
 have f0:∀(P:Value->Shared->Prop) (E':Value->Shared->Prop),P (.ref t) s->wpAny (model prog w) A.in1 (field (.ref it) 0) P E' s:=fun P E' p=>wpAny_field a1 a3 rfl p
 have f1:∀(P:Value->Shared->Prop) (E':Value->Shared->Prop),P (.int i 0) s->wpAny (model prog w) A.in1 (field (.ref it) 1) P E' s:=fun P E' p=>wpAny_field a1 a3 rfl p
 have at':its[(i:Int).toNat]?=some v:=at_
 wp_walk using f0,f1,wpAny_seqItems b1 b3,wpAny_setField a1 a3
 rw[at']
 refine wpAny_bind (wpAny_setField a1 a3 (by simp) (wpAny_pure ⟨v,rfl,k _ ⟨_,Heap.get?_update_self _ a1 ?_,?_,?_⟩ (Heap.SameBut.update ..)⟩))
 ·exact Obj.isFreed_of_fields (Obj.data_mapFields a3 _)
 ·rw[Obj.cls_mapFields,a2]
 ·rw[Obj.data_mapFields a3];rfl
theorem zL5 {P:Value->Shared->Prop}(hA:A.handled=none) (hI:s.heap.IsTupleIter it t i) (hT:s.heap.IsTuple t its) (at_:its[i]?=none)
  (k:∀h' e,Heap.ExtBut it s.heap h'->(∃o,h'.get? e=some o/\o.cls=.type "StopIteration")->E (.ref e) { s with heap:=h' }):wpAny (model prog w) A (Builtin.SmallTypes.nextOf (.ref it)) P E s:=by
 refine zR3 hI.typeIs ?_
 obtain⟨o,a1,a2,a3⟩:=hI
 obtain⟨ot,b1,b2,n,b3⟩:=hT
 have f0:∀(P:Value->Shared->Prop) (E':Value->Shared->Prop),P (.ref t) s->wpAny (model prog w) A.in1 (field (.ref it) 0) P E' s:=fun P E' p=>wpAny_field a1 a3 rfl p
 have f1:∀(P:Value->Shared->Prop) (E':Value->Shared->Prop),P (.int i 0) s->wpAny (model prog w) A.in1 (field (.ref it) 1) P E' s:=fun P E' p=>wpAny_field a1 a3 rfl p
 have at':its[(i:Int).toNat]?=none:=at_
 have hA':A.in1.handled=none:=hA
 wp_walk using f0,f1,wpAny_seqItems b1 b3,wpAny_setField a1 a3,wpAny_raiseNew_none hA'
 rw[at']
 refine wpAny_bind (wpAny_rule (wpAny_bind (wpAny_setField a1 a3 (by simp) ?_)))
 unfold Builtin.SmallTypes.stopIteration
 wp_walk using wpAny_raiseNew_none hA'
 exact k _ _ (((Heap.SameBut.update ..).extBut.push _).push _) ⟨_,Heap.get?_push_size _ rfl,rfl⟩
end
theorem aJ {M:Model}{scope:Scope}{g bi:Addr}{cl:List (Str×Addr)}{qual:Str}{cd:Value}{outer:Env}{P:Value->Env->Shared->Prop}(nocell:∀y∈scope.names,y.2 ≠ .cell) (kind:scope.kind=.function)
  (k:∀(D C:Addr) (hp:Heap) (m:Str->Option Value),s.heap.objs.size<=D->s.heap.objs.size<=C->D≠C->(∀b o,s.heap.get? b=some o->hp.get? b=some o)->hp.get? D=some { cls:=.type "list",data:=.seq #[] }->hp.Ns C m->P (.ref D) (newEnv scope C g cl qual none cd (some outer) bi) { s with heap:=hp }) :
  wpAny M A (newList []) (fun acc x=>wpAny M A (newFunctionEnv scope g cl [] qual none cd (some outer) bi) (fun e y=>P acc e y) E x) E s:=by
 unfold newList
 refine wpAny_newObj_type (wpAny_newFunctionEnv nocell (fun _ z=>nomatch z) (fun hp ns sb => ?_) kind)
 have z:(s.heap.push { cls:=.type "list",data:=.seq #[] }).objs.size=s.heap.objs.size+1:=Heap.size_push ..
 have up:∀b o,(s.heap.push { cls:=.type "list",data:=.seq #[] }).get? b=some o->hp.get? b=some o:=fun b o q=>sb.extBut b o (Nat.ne_of_lt (Heap.lt_size q)) (Heap.get?_push_of_some _ q)
 exact k _ _ hp _ (Nat.le_refl _) (by show _<=(s.heap.push _).objs.size;rw[Heap.size_push];bv_omega) (by show _≠(s.heap.push _).objs.size;rw[Heap.size_push];bv_omega) (fun b o q=>up b o (Heap.get?_push_of_some _ q)) (up _ _ (Heap.get?_push_size _ rfl)) ns
theorem yC1 {x:Value}{oI:Obj}{Q:Value->Shared->Prop}(alive:oI.isFreed=false) (it:∀(B:Around) (P E':Value->Shared->Prop),P (.ref s.heap.objs.size) { s with heap:=s.heap.push oI }->wpAny (model prog w) B (pyIter x) P E' s)
  (k:∀h',IsEnum h' (s.heap.objs.size+1) s.heap.objs.size 0 .none->h'.get? s.heap.objs.size=some oI->(∀b o,s.heap.get? b=some o->h'.get? b=some o)->Q (.ref (s.heap.objs.size+1)) { s with heap:=h' }):wpAny (model prog w) A (call (.type "enumerate") [x]) Q E s:=by
 refine callType_newIn F.called_enumerate (by decide) (F.typeCall_enumerate_1 _) (F.newCall_enumerate_1 _) (fun o=>F.args_object_init_2 o _) F.entry_enumerate_new
  (S:=fun B R t=>t=s/\B=A.in1/\R=wants (fun v y=>y.TypeIs v "enumerate"/\Q v y) E) (.of_wp fun B R t h => ?_) ⟨rfl,rfl,rfl⟩
 obtain⟨rfl,rfl,rfl⟩:=h
 have u:=sub_enumerate
 have sz:(t.heap.push oI).objs.size=t.heap.objs.size+1:=Heap.size_push ..
 have fin:∀v:Value,v=.ref (t.heap.push oI).objs.size->Q v { t with heap:=(t.heap.push oI).push { cls:=.type "enumerate",data:=.fields #[.none,.bool false,.ref t.heap.objs.size,rawInt 0,.none,.none] } }:=fun v e=>by
  subst e
  rw[sz]
  exact k _ (by rw[<-sz];exact Heap.get?_push_size _ rfl) (Heap.get?_push_of_some _ (Heap.get?_push_size _ alive)) fun b o g=>Heap.get?_push_of_some _ (Heap.get?_push_of_some _ g)
 wp_walk
 refine wpAny_stack_any (fun st=>wpAny_pure ?_)
 split
 ·generalize (_ == Value.type "enumerate")=b
  cases b
  all_goals
   wp_walk using it A.in1.in1
   exact⟨_,rfl,⟨_,Heap.get?_push_size _ rfl,rfl⟩,fin _ rfl⟩
 ·wp_walk using it A.in1.in1
  exact⟨_,rfl,⟨_,Heap.get?_push_size _ rfl,rfl⟩,fin _ rfl⟩
end
end PySem
set_option maxHeartbeats 2000000
namespace PySem
section
variable {prog:Program}{w:World}{A:Around}{E:Value->Shared->Prop}{s:Shared}
end
end PySem
namespace L2
open PySem PySem.Spec PyProof.Rows
theorem HOk.track {P:Program}{w:World}{H:Hp}{h:Heap}{a:Addr}{o:HO}(x:HOk P w H h) (hn:H a=none) (new:ObjOk P w (upd H a o) h a o):HOk P w (upd H a o) h:=fun b u e=>by
 by_cases hb:b=a
 ·subst hb;rw[zV] at e;cases e;exact new
 ·rw[zY hb] at e
  exact (x b u e).stay (fun c v _ q=>q) (fun c q=>by rw[zY (zF q hn)];exact q) (fun c xs q=>by rw[zY (zF q hn)];exact q) fun c _ _ q=>by rw[zY (zF q hn)];exact q
def clos (cells:List (Str×Addr)):List (Str×NameKind)->List (Str×Addr)->List (Str×Addr)
 | [],acc=>acc
 | (n,k)::r,acc=>if k == .free then clos cells r ((n,(cells.lookup n).getD 0)::acc) else clos cells r acc
theorem vE {env:Env}:∀(names:List (Str×NameKind)) (acc:List (Str×Addr)),(∀n,(n,NameKind.free)∈names->∃c,env.cells.lookup n=some c) ->
  (forIn names acc fun (x:Str×NameKind) (r:List (Str×Addr))=>(do
   let (name,kind):=x
   if kind == .free then do
    let c <-cellOf env name
    pure (ForInStep.yield ((name,c)::r))
   else pure (ForInStep.yield r):Sem (ForInStep (List (Str×Addr)))))=pure (clos env.cells names acc)
 | [],acc,_=>rfl
 | (n,k)::r,acc,h=>by
  rw[List.forIn_cons]
  by_cases hk:(k == NameKind.free)=true
  ·have ek:k=NameKind.free:=by simpa using hk
   obtain⟨c,hc⟩:=h n (by rw[ek];exact List.mem_cons_self)
   have e1:cellOf env n=pure c:=by unfold cellOf;rw[hc]
   simp only[hk,if_true,e1,pure_bind]
   rw[vE r _ fun m hm=>h m (List.mem_cons_of_mem _ hm)]
   show _=pure (if (k == NameKind.free)=true then clos env.cells r ((n,(env.cells.lookup n).getD 0)::acc) else clos env.cells r acc)
   rw[if_pos hk,hc]
   rfl
  ·simp only[hk,if_false,pure_bind,Bool.false_eq_true]
   rw[vE r _ fun m hm=>h m (List.mem_cons_of_mem _ hm)]
   show _=pure (if (k == NameKind.free)=true then clos env.cells r ((n,(env.cells.lookup n).getD 0)::acc) else clos env.cells r acc)
   rw[if_neg hk]
theorem kK {scope:Scope}{env:Env}(h:∀n,(n,NameKind.free)∈scope.names->∃c,env.cells.lookup n=some c):closureFor scope env=pure (clos env.cells scope.names []):=by
 unfold closureFor
 have:=vE (env:=env) scope.names [] h
 simp only[] at this ⊢
 rw[show (forIn scope.names ([]:List (Str×Addr)) fun (x:Str×NameKind) (r:List (Str×Addr))=>(do
   if x.2 == .free then do
    let c <-cellOf env x.1
    pure (ForInStep.yield ((x.1,c)::r))
   else pure (ForInStep.yield r):Sem (ForInStep (List (Str×Addr)))))=pure (clos env.cells scope.names []) from this]
 rfl
theorem jE {cells:List (Str×Addr)}:∀(names:List (Str×NameKind)) (acc:List (Str×Addr)),(∀n,(n,NameKind.free)∈names->∃c,cells.lookup n=some c)->(∀x c,acc.lookup x=some c->cells.lookup x=some c) ->
  ∀x c,(clos cells names acc).lookup x=some c->cells.lookup x=some c
 | [],acc,_,ha,x,c,e=>ha x c e
 | (n,k)::r,acc,h,ha,x,c,e=>by
  unfold clos at e
  by_cases hk:(k == NameKind.free)=true
  ·rw[if_pos hk] at e
   have ek:k=NameKind.free:=by simpa using hk
   obtain⟨d,hd⟩:=h n (by rw[ek];exact List.mem_cons_self)
   refine jE r _ (fun m hm=>h m (List.mem_cons_of_mem _ hm)) (fun y z q => ?_) x c e
   rw[hd,Option.getD_some,List.lookup_cons] at q
   by_cases hy:(y == n)=true
   ·simp only[hy] at q
    have ey:y=n:=by simpa using hy
    cases q
    rw[ey];exact hd
   ·simp only[hy] at q
    exact ha y z q
  ·rw[if_neg hk] at e
   exact jE r _ (fun m hm=>h m (List.mem_cons_of_mem _ hm)) ha x c e
theorem dP {cells:List (Str×Addr)}:∀(names:List (Str×NameKind)) (acc:List (Str×Addr)) (x:Str),(∃c,acc.lookup x=some c)->∃c,(clos cells names acc).lookup x=some c
 | [],acc,x,h=>h
 | (n,k)::r,acc,x,h=>by
  unfold clos
  by_cases hk:(k == NameKind.free)=true
  ·rw[if_pos hk]
   refine dP r _ x ?_
   rw[List.lookup_cons]
   by_cases hy:(x == n)=true
   ·simp only[hy];exact⟨_,rfl⟩
   ·simp only[hy];exact h
  ·rw[if_neg hk];exact dP r _ x h
theorem vM {cells:List (Str×Addr)}:∀(names:List (Str×NameKind)) (acc:List (Str×Addr)) (x:Str),(x,NameKind.free)∈names->∃c,(clos cells names acc).lookup x=some c
 | (n,k)::r,acc,x,h=>by
  unfold clos
  rcases List.mem_cons.mp h with e | e
  ·cases e
   rw[if_pos (by rfl)]
   refine dP r _ _ ?_
   rw[List.lookup_cons]
   simp only[beq_self_eq_true]
   exact⟨_,rfl⟩
  ·by_cases hk:(k == NameKind.free)=true
   ·rw[if_pos hk];exact vM r _ x e
   ·rw[if_neg hk];exact vM r _ x e
theorem zF8 (env:Env):∃f:Str×NameKind->Str×NameKind,(∀sc:Scope,(relabel sc env).names=sc.names.map f)/\∀q,f q=q\/(q.2=.free/\f q=(q.1,.cell)):=by
 refine⟨_,fun _=>rfl,fun q => ?_⟩
 dsimp only
 split
 ·rename_i z
  exact .inr ⟨eq_of_beq (Bool.and_eq_true_iff.mp (Bool.and_eq_true_iff.mp z).1).1,rfl⟩
 ·exact .inl rfl
theorem aA {f:Str×NameKind->Str×NameKind}(hf:∀q,f q=q\/(q.2=.free/\f q=(q.1,.cell))) (x:Str):∀l:List (Str×NameKind),(l.map f).lookup x=l.lookup x\/(l.lookup x=some .free/\(l.map f).lookup x=some .cell)
 | []=>.inl rfl
 | (n,k)::r=>by
  have ih:=aA hf x r
  rw[List.map_cons]
  rcases hf (n,k) with e | ⟨e1,e⟩
  ·rw[e]
   cases q:x == n with
   | true=>exact .inl (by rw[List.lookup_cons,List.lookup_cons,q])
   | false=>simpa only[List.lookup_cons,q] using ih
  ·cases e1
   rw[e]
   cases q:x == n with
   | true=>exact .inr ⟨by rw[List.lookup_cons,q],by rw[List.lookup_cons,q]⟩
   | false=>simpa only[List.lookup_cons,q] using ih
theorem gU (sc:Scope) (env:Env) (x:Str):(relabel sc env).names.lookup x=sc.names.lookup x\/(sc.names.lookup x=some .free/\(relabel sc env).names.lookup x=some .cell):=by
 obtain⟨f,e,hf⟩:=zF8 env
 rw[e sc]
 exact aA hf x sc.names
theorem vS {sc:Scope}{env:Env}{x:Str}{k:NameKind}(h:(relabel sc env).names.lookup x=some k):sc.names.lookup x=some k\/(k=.cell/\sc.names.lookup x=some .free):=by
 rcases gU sc env x with e | ⟨e1,e2⟩
 ·exact .inl (e.symm.trans h)
 ·exact .inr ⟨Option.some.inj (h.symm.trans e2),e1⟩
theorem hR {sc:Scope}{env:Env}{x:Str}(h:sc.names.lookup x=some .free):(relabel sc env).names.lookup x=some .cell\/(relabel sc env).names.lookup x=some .free:=by
 rcases gU sc env x with e | ⟨_,e⟩
 ·exact .inr (e.trans h)
 ·exact .inl e
def cxComp (X:Cx) (N:List Str) (scope:Scope) (C:Addr) (fp:List Addr) (s₂:Shared) (H:Hp):Cx where
 prog:=X.prog
 w:=X.w
 K:=X.K
 mg:=X.mg
 base:=X.base
 A:=X.A
 N:=N
 s₀:=s₂
 H₀:=H
 env:=compEnvC scope (clos X.env.cells scope.names []) C X.env
 outer:=X.stack
 stack:=X.stack
 ex:=fp
 fn:=fun _=>false
 calm:=X.calm
 pn:=[]
 xe:=fun _ _=>False
structure CompScope (sc0 scope:Scope) (N0:List Str) (xt:Str) (fs:List Str) (js:List Nat):Prop where
 kind:scope.kind=.function
 nocell:∀y∈scope.names,y.2 ≠ .cell
 names:∀y∈scope.names,y.2=.local->scope.names.lookup y.1=some .local
 tgt:scope.names.lookup xt=some .local
 frees:∀y∈scope.names,y.2=.free->sc0.names.lookup y.1=some .cell\/sc0.names.lookup y.1=some .free
 len:js.length=fs.length
 slots:∀p∈fs.zip js,N0[p.2]?=some p.1/\scope.names.lookup p.1=some .free
 nd:(xt::fs).Nodup
theorem aZ {α β:Type}:∀{fs:List α}{js:List β}{i:Nat}{y:α}{j:β},fs[i]?=some y->js[i]?=some j->(y,j)∈fs.zip js
 | [],_,_,_,_,h,_=>by simp at h
 | _::_,[],_,_,_,_,h=>by simp at h
 | a::fs,b::js,0,y,j,h,h'=>by
  simp at h h'
  subst h h'
  exact List.mem_cons_self
 | a::fs,b::js,i+1,y,j,h,h'=>by
  rw[List.zip_cons_cons]
  exact List.mem_cons_of_mem _ (aZ (i:=i) (by simpa using h) (by simpa using h'))
def compSt (σ:St) (js:List Nat) (v:Option V):St:=v::js.map fun j=>(σ[j]?).join
section
variable {X:Cx}{pins:List (Addr×Obj)}{σ:St}{H:Hp}{s₂ s₄:Shared}{sc0 scope:Scope}{N0:List Str}{xt:Str}{fs:List Str}{js:List Nat}{fp:List Addr}
theorem CompScope.cells (S:CompScope sc0 scope N0 xt fs js) (h0:X.env.scope=sc0) (ok:X.Ok):∀n,(n,NameKind.free)∈scope.names->∃c,X.env.cells.lookup n=some c:=fun n hn=>ok.has n (by subst h0;exact S.frees _ hn rfl)
theorem CompScope.sub (S:CompScope sc0 scope N0 xt fs js) (h0:X.env.scope=sc0) (ok:X.Ok):∀x c,(clos X.env.cells scope.names []).lookup x=some c->X.env.cells.lookup x=some c :=
 jE scope.names [] (S.cells h0 ok) fun x c e=>by simp at e
theorem Inv.block (S:CompScope sc0 scope N0 xt fs js) (h0:X.env.scope=sc0) (hN0:X.N=N0) (I:Inv X pins σ H s₂) (hf:∀b∈fp,FpOk X pins H b) (hfo:∀b∈fp,∃o,s₂.heap.get? b=some o)
  (hos:s₄.os=s₂.os) (hg:AllBare s₄.gens) (hk:∀b o,s₂.heap.get? b=some o->s₄.heap.get? b=some o){C:Addr}(hC:s₂.heap.objs.size<=C){m:Str->Option Value}(hn:s₄.heap.Ns C m) :
  Inv (cxComp X (xt::fs) scope C fp s₂ H) [] (compSt σ js none) H s₄:=by
 have sub:=S.sub h0 I.ok
 have blt:∀b∈fp,b<s₂.heap.objs.size:=fun b hb=>let ⟨o,e⟩:=hfo b hb;Heap.lt_size e
 have ok:(cxComp X (xt::fs) scope C fp s₂ H).Ok:=by
  refine⟨I.ok.mod,S.kind,I.ok.glob,I.ok.blt,hC,fun x y c h1 h2=>I.ok.inj x y c (sub x c h1) (sub y c h2),fun x hx => ?_,fun x c h=>(nomatch h),I.ok.hd,I.ok.frames,.inl rfl,fun b hb=>⟨?_,fun x c h=>(hf b hb).2.2.2.2.1 x c (sub x c h)⟩,I.bs,Nat.le_trans I.ok.bsz I.sz,fun b o e hb => ?_,fun b hb hs => ?_,I.stack,I.stkFree,I.tb⟩
  ·have hx:(relabel scope X.env).names.lookup x=some .cell\/(relabel scope X.env).names.lookup x=some .free:=hx
   have hfree:scope.names.lookup x=some .free:=by
    rcases hx with hx | hx
    ·rcases vS hx with q | ⟨_,q⟩
     ·exact absurd rfl (S.nocell _ (PySem.mem_of_lookup q))
     ·exact q
    ·rcases vS hx with q | ⟨q,_⟩
     ·exact q
     ·cases q
   exact vM scope.names [] x (PySem.mem_of_lookup hfree)
  ·exact Nat.ne_of_lt (Nat.lt_of_lt_of_le (blt b hb) hC)
  ·rcases (hf b hb).2.2.2.1 with z | z
   ·exact I.ok.noex b o e z
   ·exact absurd (Nat.lt_of_lt_of_le (Heap.lt_size (I.ok.bs b o e).1) z) (Nat.lt_irrefl _)
  ·rcases List.mem_cons.mp (I.stkSub b hs) with z | z
   ·exact (hf b hb).2.1 z
   ·exact (hf b hb).2.2.1 z
 refine⟨ok,hos,hg,Un.kept hk,⟨m,hn,fun i x v e1 e2 e3 => ?_⟩,fun x c e => ?_,I.hok.fresh hC,fun x c e=>I.freeC x c (sub x c e),fun p hp=>absurd (show p∈([]:List (Addr×Obj)) from hp) (by simp),I.hok.kept hk,?_⟩
 ·cases i with
  | zero=>cases e2
  | succ i =>
   have e1:fs[i]?=some x:=e1
   have e2:(js.map fun j=>(σ[j]?).join)[i]?=some (some v):=e2
   rw[List.getElem?_map] at e2
   cases ej:js[i]? with
   | none=>rw[ej] at e2;cases e2
   | some j =>
    rw[ej] at e2
    have e2:(σ[j]?).join=some v:=Option.some.inj e2
    obtain⟨hN,hfr⟩:=S.slots _ (aZ e1 ej)
    have hN:X.N[j]?=some x:=by rw[hN0];exact hN
    have hk2:X.env.kindOf x=some .cell\/X.env.kindOf x=some .free:=by subst h0;exact S.frees _ (PySem.mem_of_lookup hfr) rfl
    have hs:σ[j]?=some (some v):=by
     cases q:σ[j]? with
     | none=>rw[q] at e2;cases e2
     | some z=>rw[q] at e2;rw[show z=some v from e2]
    obtain⟨m0,hn0,hl⟩:=I.loc
    obtain⟨u,r,l⟩:=hl j x v hN hs (by rcases hk2 with z | z;exact .inr (.inl z);exact .inr (.inr z))
    refine⟨u,r,?_⟩
    rcases l with ⟨hloc,_⟩ | ⟨_,c,hc,hcell⟩
    ·rcases hk2 with z | z
     ·rw[z] at hloc;cases hloc
     ·rw[z] at hloc;cases hloc
    ·obtain⟨c',hc'⟩:=vM (cells:=X.env.cells) scope.names [] x (PySem.mem_of_lookup hfr)
     have:c'=c:=Option.some.inj ((sub x c' hc').symm.trans hc)
     subst this
     exact .inr ⟨hR hfr,c',hc',hcell.keeps hk⟩
 ·obtain⟨v,z⟩:=I.cell x c (sub x c e)
  exact⟨v,z.keeps hk⟩
 ·show (compSt σ js none).length=(xt::fs).length
  unfold compSt
  rw[List.length_cons,List.length_map,List.length_cons,S.len]
theorem Inv.unblock {pins':List (Addr×Obj)}{σ':St}{H':Hp}{s':Shared}{h'':Heap}{C D:Addr}{its:List Value}{n:Nat}{acc:List V}{N:List Str}(I:Inv X pins σ H s₂) (hf:∀b∈fp,FpOk X pins H b)
  (J:Inv (cxComp X N scope C fp s₂ H) pins' σ' H' s') (hC:s₂.heap.objs.size<=C) (hD:s₂.heap.objs.size<=D) (hDC:D≠C) (hHD:H' D=none)
  (hd:s'.heap.get? D=some { cls:=.type "list",data:=.seq its.toArray n }) (hv:Vals acc its) (hz:acc.length<=sizeLine) (hsb:Heap.SameBut C s'.heap h'') :
  Inv X pins σ (upd H' D (.lst acc)) { s' with heap:=h'' }:=by
 have hd2:h''.get? D=some { cls:=.type "list",data:=.seq its.toArray n }:=(hsb.2 D hDC).trans hd
 have keep:∀b o,b<s₂.heap.objs.size->s'.heap.get? b=some o->h''.get? b=some o:=fun b o hb e=>(hsb.2 b (Nat.ne_of_lt (Nat.lt_of_lt_of_le hb hC))).trans e
 have hHC:H' C=none:=J.free
 have ok1:HOk X.prog X.w H' h'':=fun b o e=>(J.hok b o e).stay (fun c v hc q=>(hsb.2 c (by
   rcases hc with z | z
   ·rw[z];exact fun w=>by rw[w,hHC] at e;cases e
   ·exact fun w=>by rw[w,hHC] at z;cases z)).trans q) (fun _ q=>q) fun _ _ q=>q
 have ok2:HOk X.prog X.w (upd H' D (.lst acc)) h'':=ok1.track hHD ⟨hz,its,n,hv,hd2⟩
 have un:Un (frs X.stack) fp H (upd H' D (.lst acc)) s₂.heap h'':=by
  have u:=J.base
  refine⟨fun b o e nb h1 h2=>keep b o (Heap.lt_size e) (u.keep b o e nb h1 h2),fun b o e nb h1 h2 => ?_,fun b o e nb h2 => ?_,fun b o e h2 => ?_,fun b xs e => ?_,fun b o v e => ?_,fun b ps e => ?_⟩
  ·obtain⟨sl,q⟩:=u.slot b o e nb h1 h2
   exact⟨sl,keep b _ (Heap.lt_size e) q⟩
  ·rw[zY (Nat.ne_of_lt (Nat.lt_of_lt_of_le (Heap.lt_size e) hD))]
   exact u.free b o e nb h2
  ·obtain⟨o',q⟩:=u.there b o e h2
   exact⟨o',keep b _ (Heap.lt_size e) q⟩
  ·have q:=u.tups b xs e
   rw[zY (zF q hHD)];exact q
  ·have q:=u.frzs b o v e
   rw[zY (zF q hHD)];exact q
  ·have q:=u.tbls b ps e
   rw[zY (zF q hHD)];exact q
 obtain⟨hh,g,d,t,os'⟩:=s'
 obtain rfl:os'=s₂.os:=J.os
 exact Inv.call (s:=s₂) I (h':=h'') (g':=g) (d':=d) (t':=t) (ch:=fp) un ok2 J.bare fun b hb=>⟨(hf b hb).2.2.2.1,(hf b hb).2.1,(hf b hb).2.2.2.2.1,(hf b hb).2.2.2.2.2⟩
end
def tTrue:TT:=fun _ H Q=>Q true H
inductive PTs (X:Cx):List Expr->TT->Prop
 | nil:PTs X [] tTrue
 | one {c:Expr}{t:TT}:PT X c t->PTs X [c] t
def tComp (wi:TI) (tt:Addr->List Addr->Shared->Hp->TT) (te:Addr->List Addr->Shared->Hp->TE) (js:List Nat):TE:=fun σ H Q=>wi σ H fun J H1=>∀C fp s₂ H₂,∃W:Nat->Nat->List V->Hp->Prop,(∃m,W 0 m [] H1)/\∀i m acc H,W i m acc H ->
 (J.stop i H/\∀p,H p=none->Q (.ref p) (upd H p (.lst acc))) \/
 (J.go i H/\∃N:List V->Hp->Prop,(∀acc' H',N acc' H'->∃m',m'<m/\W (i+1) m' acc' H') /\
  ∀x H',J.yld i H x H'->tt C fp s₂ H₂ (compSt σ js (some x)) H' fun b H2=>if b=true then te C fp s₂ H₂ (compSt σ js (some x)) H2 fun v H3=>acc.length<sizeLine/\N (acc ++ [v]) H3 else N acc H2)
theorem aO {X:Cx}{elt iter:Expr}{ifs:List Expr}{sc0 scope:Scope}{N0:List Str}{px pos:Pos}{xt:Str}{fs:List Str}{js:List Nat}{wi:TI}{tt:Addr->List Addr->Shared->Hp->TT}{te:Addr->List Addr->Shared->Hp->TE}(S:CompScope sc0 scope N0 xt fs js) (h0:X.env.scope=sc0) (hN0:X.N=N0) (hc:X.calm=true)
  (hi:PI X (.Name xt px) iter wi) (ht:∀C fp s₂ H,PTs (cxComp X (xt::fs) scope C fp s₂ H) ifs (tt C fp s₂ H)) (he:∀C fp s₂ H,PE (cxComp X (xt::fs) scope C fp s₂ H) elt (te C fp s₂ H))
  (hs:autoParam (∀x,foldedSetIterable iter X.env x=pure x) xB._auto_1)
  {pins:List (Addr×Obj)}{cpos:Pos}{s:Shared}{σ:St}{H:Hp}{Q:VK}{use:Option (Value->Sem Unit)}{Qv:Value->Shared->Prop}(I:Inv X pins σ H s) (h:tComp wi tt te js σ H Q)
  (hfin:∀(s':Shared) (C D:Addr) (Ha:Hp) (fl:Flow),(∀h'',Heap.SameBut C s'.heap h''->Inv X pins σ Ha { s' with heap:=h'' })->(∃m,s'.heap.Ns C m)->FpOk X pins Ha C->Q (.ref D) Ha->compPost (model X.prog X.w) X.A X.xe use Qv (.ref D) C (.ok fl) s') :
  wpAny (model X.prog X.w) X.A (comprehension (.ListComp elt [⟨.Name xt px,iter,ifs,0⟩] scope pos) scope X.env cpos (newList []) false (eval iter X.env) use) Qv X.xe s:=by
 refine wpAny_comprehension_free (use:=use) rfl hs (kK (S.cells h0 I.ok)) S.kind S.names ?_
 refine thn (hi pins s σ H _ I h) fun v s1 h1=>thn h1 fun itv s2 h2 => ?_
 obtain⟨it,fp,tn,J,H2,e,I2,T,st2,f2,hW⟩:=h2
 subst e
 have fo:∀b∈fp,∃o,s2.heap.get? b=some o:=fun b hb=>let ⟨o,e,_⟩:=T.obj 0 s2.heap st2 b hb; ⟨o,e⟩
 have blt:∀b∈fp,b<s2.heap.objs.size:=fun b hb=>let ⟨o,e⟩:=fo b hb;Heap.lt_size e
 refine aJ S.nocell S.kind fun D C h₁ mC hDle hCle hDC old hacc hns₁ => ?_
 have bC:∀b o,s2.heap.get? b=some o->b≠C:=fun b o q z=>Nat.not_lt.mpr hCle (z▸Heap.lt_size q)
 have bD:∀b o,s2.heap.get? b=some o->b≠D:=fun b o q z=>Nat.not_lt.mpr hDle (z▸Heap.lt_size q)
 obtain⟨W,⟨m0,w0⟩,turn⟩:=hW C fp s2 H2
 have fpk:∀{H':Hp}(ob:Obj),(∀b∈fp,H' b=none)->∀b∈fp,FpOk (cxComp X (xt::fs) scope C fp s2 H2) [(D,ob)] H' b:=fun {H'} ob hn b hb=>by
  refine⟨hn b hb,Nat.ne_of_lt (Nat.lt_of_lt_of_le (blt b hb) hCle),fun z => ?_,.inl hb,fun x c e=>(f2 b hb).2.2.2.2.1 x c (S.sub h0 I2.ok x c e),fun p hp => ?_⟩
  ·rcases List.mem_cons.mp (I2.stkSub b z) with q | q
   ·exact (f2 b hb).2.1 q
   ·exact (f2 b hb).2.2.1 q
  ·have:p=(D,ob):=by
    have hp:p ∈ [] ++ [(D,ob)]:=hp
    simpa using hp
   subst this
   exact Nat.ne_of_gt (Nat.lt_of_lt_of_le (blt b hb) hDle)
 have loop:codeAny (model X.prog X.w) X.A (.compLoop (.ListComp elt [⟨.Name xt px,iter,ifs,0⟩] scope pos) 0 (.ref it) (.ref D) (compEnvC scope (clos X.env.cells scope.names []) C X.env))
    (compPost (model X.prog X.w) X.A X.xe use Qv (.ref D) C) { s2 with heap:=h₁ }:=by
  have J0:Inv (cxComp X (xt::fs) scope C fp s2 H2) [] (compSt σ js none) H2 { s2 with heap:=h₁ } :=
   Inv.block (s₂:=s2) (s₄:={ s2 with heap:=h₁ }) S h0 hN0 I2 f2 fo rfl I2.bare old hCle hns₁
  have H2D:H2 D=none:=I2.hok.fresh hDle
  have ofD:D∉frs X.stack:=fun z=>by
   rcases List.mem_cons.mp (I2.stkSub D z) with q | q
   ·exact absurd I2.lt (by rw[<-q];exact Nat.not_lt.mpr hDle)
   ·exact I2.nofs (a:=D) hDle q
  refine codeAny_loop rfl (fun n s'=>∃(i:Nat) (σ':St) (H':Hp) (acc:List V) (its:List Value) (k:Nat),(∃v0,σ'=compSt σ js v0)/\Inv (cxComp X (xt::fs) scope C fp s2 H2) [] σ' H' s'/\tn i s'.heap/\(∀b∈fp,H' b=none)/\H' D=none /\
    s'.heap.get? D=some { cls:=.type "list",data:=.seq its.toArray k }/\Vals acc its/\acc.length<=sizeLine/\W i n acc H') ?_ m0
   ⟨0,_,H2,[],[],0,⟨none,rfl⟩,J0,T.keep 0 _ _ st2 fun b hb o e=>old b o e,fun b hb=>(f2 b hb).1,H2D,hacc,.nil,Nat.zero_le _,w0⟩
  rintro n s3 ⟨i,σ3,H3,acc,its,k,⟨v0,rfl⟩,I3,st3,fr3,hD3,d3,va,hz,w3⟩
  show wpAny _ X.A ((compTurn (.ListComp elt [⟨.Name xt px,iter,ifs,0⟩] scope pos) 0 (.ref it) (.ref D) (compEnvC scope (clos X.env.cells scope.names []) C X.env)).onRaise (fun x=>do noteFrame x (compEnvC scope (clos X.env.cells scope.names []) C X.env);theTreesLotGoes x)) _ _ s3
  refine wpAny_noted ?_
  rw[compTurn_list]
  refine wpAny_bind (wpAny_standAt ?_)
  have pinD:Inv (cxComp X (xt::fs) scope C fp s2 H2) [(D,{ cls:=.type "list",data:=.seq its.toArray k })] (compSt σ js v0) H3 s3:=I3.yC fun p hp=>by
   have:p=(D,{ cls:=.type "list",data:=.seq its.toArray k }):=by simpa using hp
   subst this
   exact⟨d3,hD3,hDC,ofD,fun v z=>by cases z⟩
  refine wpAny_bind ?_
  rcases turn i n acc H3 w3 with ⟨stop,qn⟩ | ⟨go,N,hN,step⟩
  ·refine thn (T.done (cxComp X (xt::fs) scope C fp s2 H2) rfl rfl rfl hc i _ s3 _ H3 _ pinD (fpk _ fr3) st3 stop) fun r s4 ⟨hr,I4⟩ => ?_
   subst hr
   refine wpAny_pure ?_
   obtain⟨m4,hn4,_⟩:=I4.loc
   have hHC:H3 C=none:=I4.free
   refine hfin s4 C D (upd H3 D (.lst acc)) _ (fun h'' hsb=>I2.unblock f2 I4 hCle hDle hDC hD3 ((I4.pin (D,{ cls:=.type "list",data:=.seq its.toArray k }) (List.mem_append_right _ List.mem_cons_self)).1) va hz hsb) ⟨m4,hn4⟩ (I2.fpOk hCle (by rw[zY (Ne.symm hDC)];exact hHC)) (qn D hD3)
  ·refine thn (T.item (cxComp X (xt::fs) scope C fp s2 H2) rfl rfl rfl hc i _ s3 _ H3 _ pinD (fpk _ fr3) st3 go) fun r s4 ⟨u,hr,h4⟩ => ?_
   subst hr
   refine wpAny_bind (thn h4 fun _ s5 ⟨x,H5,I5,r5,y5,st5,fr5⟩ => ?_)
   have I5':=I5.pinned (fpk _ fr5) (T.obj _ _ st5)
   have gok:PG (cxComp X (xt::fs) scope C fp s2 H2) (.Name xt px) (gName 0):=vL S.nd rfl (.inl (lookup_relabel_local S.tgt)) (.inr (lookup_relabel_local S.tgt))
   have noE:∀(a:Value) (s':Shared),(cxComp X (xt::fs) scope C fp s2 H2).xe a s'->notedBy (model X.prog X.w) X.A (compEnvC scope (clos X.env.cells scope.names []) C X.env) (fun e s'=>compPost (model X.prog X.w) X.A X.xe use Qv (.ref D) C (.error e) s') a s':=fun _ _ z=>False.elim z
   refine wpAny_bind (wpAny_mono (gok _ s5 (compSt σ js v0) H5 x u (fun σ' H'=>σ'=compSt σ js (some x)/\H'=H5) I5' r5 ⟨rfl,rfl⟩) (fun _ s6 ⟨σ6,H6,I6,e6,e6'⟩ => ?_) noE)
   subst e6 e6'
   have fin:∀{acc':List V}{its':List Value}{k':Nat}{H7:Hp}{s7:Shared},Inv (cxComp X (xt::fs) scope C fp s2 H2) [] (compSt σ js (some x)) H7 s7->tn (i+1) s7.heap->(∀b∈fp,H7 b=none)->H7 D=none->s7.heap.get? D=some { cls:=.type "list",data:=.seq its'.toArray k' }->Vals acc' its'->acc'.length<=sizeLine->N acc' H7 ->
     ∃m,m<n/\∃(i:Nat) (σ':St) (H':Hp) (acc:List V) (its:List Value) (k:Nat),(∃v0,σ'=compSt σ js v0)/\Inv (cxComp X (xt::fs) scope C fp s2 H2) [] σ' H' s7/\tn i s7.heap/\(∀b∈fp,H' b=none)/\H' D=none /\
      s7.heap.get? D=some { cls:=.type "list",data:=.seq its.toArray k }/\Vals acc its/\acc.length<=sizeLine/\W i m acc H':=fun {acc' its' k' H7 s7} a1 a2 a3 a4 a5 a6 a7 a8=>by
    obtain⟨m',hm,w7⟩:=hN _ _ a8
    exact⟨m',hm,i+1,_,H7,acc',its',k',⟨_,rfl⟩,a1,a2,a3,a4,a5,a6,a7,w7⟩
   have rest:∀{H7:Hp}{s7:Shared},Inv (cxComp X (xt::fs) scope C fp s2 H2) ([(D,{ cls:=.type "list",data:=.seq its.toArray k })]++pinsAt fp s5.heap) (compSt σ js (some x)) H7 s7 ->
     tn (i+1) s7.heap/\(∀b∈fp,H7 b=none)/\H7 D=none/\s7.heap.get? D=some { cls:=.type "list",data:=.seq its.toArray k }:=fun {H7 s7} I7=>by
    refine⟨T.keep _ _ _ st5 fun b hb o e=>(I7.pin (b,o) (List.mem_append_right _ (List.mem_append_right _ (xA hb e)))).1,fun b hb => ?_,(I7.pin (D,{ cls:=.type "list",data:=.seq its.toArray k }) (List.mem_append_right _ (List.mem_append_left _ List.mem_cons_self))).2.1,(I7.pin (D,{ cls:=.type "list",data:=.seq its.toArray k }) (List.mem_append_right _ (List.mem_append_left _ List.mem_cons_self))).1⟩
    obtain⟨o,e,d⟩:=T.obj _ _ st5 b hb
    exact (I7.pin (b,o) (List.mem_append_right _ (List.mem_append_right _ (xA hb e)))).2.1
   have elem:∀{H7:Hp}{s7:Shared},Inv (cxComp X (xt::fs) scope C fp s2 H2) ([(D,{ cls:=.type "list",data:=.seq its.toArray k })]++pinsAt fp s5.heap) (compSt σ js (some x)) H7 s7 ->
     (te C fp s2 H2 (compSt σ js (some x)) H7 fun v H3=>acc.length<sizeLine/\N (acc ++ [v]) H3) ->
     wpAny (model X.prog X.w) X.A (eval elt (compEnvC scope (clos X.env.cells scope.names []) C X.env)) (fun y s8=>wpAny (model X.prog X.w) X.A (call (.builtin "list.append") [.ref D,y]) (fun _ s9=>∃m,m<n/\∃(i:Nat) (σ':St) (H':Hp) (acc:List V) (its:List Value) (k:Nat),(∃v0,σ'=compSt σ js v0)/\Inv (cxComp X (xt::fs) scope C fp s2 H2) [] σ' H' s9/\tn i s9.heap/\(∀b∈fp,H' b=none)/\H' D=none /\
      s9.heap.get? D=some { cls:=.type "list",data:=.seq its.toArray k }/\Vals acc its/\acc.length<=sizeLine/\W i m acc H')
      (fun _ _=>False) s8) (fun _ _=>False) s7:=fun {H7 s7} I7 q7=>by
    refine thn (he C fp s2 H2 _ s7 _ H7 _ I7 q7) fun y s8 ⟨v,H8,I8,r8,hl8,n8⟩ => ?_
    obtain⟨t8,fr8,hD8,d8⟩:=rest I8
    have hsz:=va.length
    refine call_meets F.slot_list_append ⟨_,d8,rfl⟩ F.entry_list_append (F.args_list_append_2 _ _) (PySem.list_append D its.toArray k y (by rw[List.size_toArray];bv_omega)) ⟨d8,?_⟩
    have q:=PySem.IsL.update d8 (·.push y)
    rw[show (its.toArray.push y)=(its ++ [y]).toArray by simp] at q
    have kk:∀b o,b≠D->s8.heap.get? b=some o->(s8.heap.update D (Obj.mapSeq (·.push y))).get? b=some o:=fun b o hb e=>(Heap.get?_update_other s8.heap _ (Ne.symm hb)).trans e
    have I9:Inv (cxComp X (xt::fs) scope C fp s2 H2) [] (compSt σ js (some x)) H8 { s8 with heap:=s8.heap.update D (Obj.mapSeq (·.push y)) }:=by
     refine Inv.turned (it:=D) (t':=s8.toks) (I8.yC (pins':=[]) fun p hp=>nomatch hp) kk hD8 hDC (.inr hDle) (fun x c e z => ?_) fun p hp=>absurd (show p∈([]:List (Addr×Obj)) from hp) (by simp)
     obtain⟨v,o,ho,_⟩:=I2.cell x c (S.sub h0 I2.ok x c e)
     exact bD c o ho z
    refine fin I9 (T.keep _ _ _ t8 fun b hb o e=>kk b o (Nat.ne_of_lt (Nat.lt_of_lt_of_le (blt b hb) hDle)) e) fr8 hD8 q (va.append (.cons r8 .nil)) ?_ n8
    rw[List.length_append,List.length_singleton]
    bv_omega
   have q6:=step x H6 y5
   have htt:=ht C fp s2 H2
   generalize tt C fp s2 H2=tt' at htt q6
   cases htt with
   | nil =>
    refine wpAny_bind (wpAny_pure ?_)
    dsimp only[tTrue] at q6
    rw[if_pos rfl] at q6
    refine wpAny_mono (wpAny_bind (wpAny_bind (thn (elem I6 q6) fun y s8 h8=>wpAny_bind (thn h8 fun _ s9 h9=>wpAny_pure (wpAny_pure ⟨rfl,h9⟩))))) (fun _ _ z=>z) fun _ _ z=>False.elim z
   | one ht1 =>
    refine wpAny_bind (wpAny_tests_one (wpAny_mono (ht1 _ s6 _ H6 _ I6 q6) (fun b s7 ⟨H7,I7,q7⟩ => ?_) noE))
    cases b with
    | false =>
     rw[if_neg Bool.false_ne_true] at q7
     obtain⟨t8,fr8,hD8,d8⟩:=rest I7
     exact wpAny_pure ⟨rfl,fin (I7.yC (pins':=[]) fun p hp=>nomatch hp) t8 fr8 hD8 d8 va hz q7⟩
    | true =>
     rw[if_pos rfl] at q7
     refine wpAny_mono (wpAny_bind (wpAny_bind (thn (elem I7 q7) fun y s8 h8=>wpAny_bind (thn h8 fun _ s9 h9=>wpAny_pure (wpAny_pure ⟨rfl,h9⟩))))) (fun _ _ z=>z) fun _ _ z=>False.elim z
 exact codeAny_compStart_list loop (T.self X.A 0 _ _ _ (T.keep 0 _ _ st2 fun b hb o e=>old b o e) loop)
theorem bR {X:Cx}{elt iter:Expr}{ifs:List Expr}{sc0 scope:Scope}{N0:List Str}{px pos:Pos}{xt:Str}{fs:List Str}{js:List Nat}{wi:TI}{tt:Addr->List Addr->Shared->Hp->TT}{te:Addr->List Addr->Shared->Hp->TE}(S:CompScope sc0 scope N0 xt fs js) (h0:X.env.scope=sc0) (hN0:X.N=N0) (hc:X.calm=true)
  (hi:PI X (.Name xt px) iter wi) (ht:∀C fp s₂ H,PTs (cxComp X (xt::fs) scope C fp s₂ H) ifs (tt C fp s₂ H)) (he:∀C fp s₂ H,PE (cxComp X (xt::fs) scope C fp s₂ H) elt (te C fp s₂ H))
  (hs:autoParam (∀x,foldedSetIterable iter X.env x=pure x) xB._auto_1) :
  PE X (.ListComp elt [⟨.Name xt px,iter,ifs,0⟩] scope pos) (tComp wi tt te js):=by
 intro pins s σ H Q I h
 rw[eval_ListComp]
 refine aO S h0 hN0 hc hi ht he hs (use:=none) (Qv:=EP X pins σ Q) I h fun s' C D Ha fl hI hns hC q => ?_
 obtain⟨m,hn⟩:=hns
 exact⟨m,hn,fun h' hsb=>⟨.ref D,Ha,hI h' hsb,rfl,q⟩⟩
theorem cY {lo:Int}{n:Nat}{tt:TT}{te:TE}{js:List Nat}{σ:St}{H:Hp}{Q:VK}(Pv:Nat->List V->Hp->Prop) (h0:Pv 0 [] H)
  (hs:∀i acc H,i<n->Pv i acc H->tt (compSt σ js (some (.int (lo+i)))) H fun b H2=>if b=true then te (compSt σ js (some (.int (lo+i)))) H2 fun v H3=>acc.length<sizeLine/\Pv (i+1) (acc ++ [v]) H3 else Pv (i+1) acc H2)
  (hd:∀acc H,Pv n acc H->∀p,H p=none->Q (.ref p) (upd H p (.lst acc))) :
  ∃W:Nat->Nat->List V->Hp->Prop,(∃m,W 0 m [] H)/\∀i m acc H,W i m acc H ->
   ((Itr lo n).stop i H/\∀p,H p=none->Q (.ref p) (upd H p (.lst acc))) \/
   ((Itr lo n).go i H/\∃N:List V->Hp->Prop,(∀acc' H',N acc' H'->∃m',m'<m/\W (i+1) m' acc' H') /\
    ∀x H',(Itr lo n).yld i H x H'->tt (compSt σ js (some x)) H' fun b H2=>if b=true then te (compSt σ js (some x)) H2 fun v H3=>acc.length<sizeLine/\N (acc ++ [v]) H3 else N acc H2):=by
 refine⟨fun i m acc H=>m=n-i/\i<=n/\Pv i acc H,⟨n,by simp,Nat.zero_le _,h0⟩,?_⟩
 rintro i m acc H ⟨rfl,hi,p⟩
 by_cases hlt:i<n
 ·refine .inr ⟨hlt,Pv (i+1),fun acc' H' p'=>⟨n-(i+1),by bv_omega,rfl,hlt,p'⟩,fun x H' y => ?_⟩
  obtain⟨e,y⟩:=y
  subst e y
  exact hs i acc _ hlt p
 ·have e:i=n:=by bv_omega
  subst e
  exact .inl ⟨Nat.le_refl _,hd acc H p⟩
theorem Same.new {H:Hp}{p:Addr}{o:HO}(h:H p=none):Same H (upd H p o):=fun b u e=>by rw[zY (zF e h)];exact e
section
variable {X:Cx}
theorem zD5 (hc:X.calm=true):CallR X (.builtin "sum") (fun xs H Q=>∃(p:Addr) (ns:List Int),xs=[.ref p]/\SqL X.K H p (ns.map V.int)/\Q (.int ns.sum) H):=by
 intro pins s σ H xs us Q I r h
 obtain⟨p,ns,rfl,hq,q⟩:=h
 obtain⟨u,rfl,ru⟩:=vals1 r
 cases ru
 obtain⟨its,rv,pl,hz⟩:=I.list hq
 have hi:IntsAre its ns:=vR rv
 obtain⟨xs,e⟩:=hi.allInts.items
 refine sum_intListG (I.ok.hd hc) (by rw[<-e];exact pl.isList) fun h' tk t' hk=>⟨.int ns.sum,H,I.kept hk,⟨t',?_⟩,q⟩
 congr 1
 rw[preSum_eq,List.take_of_length_le (by simp),<-nums_intItems,<-e]
 show (numsOf its).sum=ns.sum
 rw[hi.numsOf]
theorem kA {xs:List V}{its:List Value}(r:Vals xs its):∀(ks:List Nat),Vals (ks.filterMap (xs[·]?)) (ks.filterMap (its.toArray[·]?))
 | []=>.nil
 | k::ks=>by
  have hl:=r.length
  rw[List.filterMap_cons,List.filterMap_cons]
  cases e:xs[k]? with
  | none =>
   have:its.toArray[k]?=none:=by
    rw[List.getElem?_eq_none_iff] at e
    rw[Array.getElem?_eq_none_iff,List.size_toArray]
    bv_omega
   rw[this]
   exact kA r ks
  | some x =>
   obtain⟨u,hu,ru⟩:=r.get e
   have:its.toArray[k]?=some u:=by simpa using hu
   rw[this]
   exact .cons ru (kA r ks)
end
mutual
inductive DatV (K:KFr) (H:Hp):V->PyData->Prop
 | non:DatV K H .non .none
 | bl (b:Bool):DatV K H (.bl b) (.bool b)
 | int (i:Int):DatV K H (.int i) (.int i)
 | str (x:Str):DatV K H (.str x) (.str x)
 | lst {a:Addr}{xs:List V}{ds:List PyData}:SqL K H a xs->DatAll K H xs ds->DatV K H (.ref a) (.list ds)
 | tup {a:Addr}{xs:List V}{ds:List PyData}:SqT K H a xs->DatAll K H xs ds->DatV K H (.ref a) (.tuple ds)
inductive DatAll (K:KFr) (H:Hp):List V->List PyData->Prop
 | nil:DatAll K H [] []
 | cons {v:V}{d:PyData}{vs:List V}{ds:List PyData}:DatV K H v d->DatAll K H vs ds->DatAll K H (v::vs) (d::ds)
end
section
variable {X:Cx}{pins:List (Addr×Obj)}{σ:St}{H:Hp}{s:Shared}
mutual
theorem Inv.reads (I:Inv X pins σ H s):∀{v:V}{d:PyData}{u:Value},DatV X.K H v d->RelV v u->∃as,Reads s.heap u d as
 | _,_,_,.non,r=>by cases r;exact⟨_,.none⟩
 | _,_,_,.bl b,r=>by cases r;exact⟨_,.bool b⟩
 | _,_,_,.int i,r=>by obtain⟨t,rfl⟩:=r;exact⟨_,.int i t⟩
 | _,_,_,.str x,r=>by obtain⟨t,rfl⟩:=r;exact⟨_,.str x t⟩
 | _,_,_,.lst hq ha,r=>by
  cases r
  obtain⟨its,rv,⟨o,n,ho,hc,_,hd⟩,_⟩:=I.list hq
  obtain⟨as,z⟩:=Inv.readsAll I ha rv
  exact⟨_,.list ho hc hd (by simpa using z)⟩
 | _,_,_,.tup hq ha,r=>by
  cases r
  obtain⟨its,rv,⟨o,ho,hc,n,hd⟩,_⟩:=I.tuple hq
  obtain⟨as,z⟩:=Inv.readsAll I ha rv
  exact⟨_,.tuple ho hc hd (by simpa using z)⟩
theorem Inv.readsAll (I:Inv X pins σ H s):∀{vs:List V}{ds:List PyData}{us:List Value},DatAll X.K H vs ds->Vals vs us->∃as,ReadsAll s.heap us ds as
 | _,_,_,.nil,r=>by cases r;exact⟨_,.nil⟩
 | _,_,_,.cons h t,r=>by
  cases r with
  | cons r1 r2 =>
   obtain⟨as,z⟩:=Inv.reads I h r1
   obtain⟨bs,z'⟩:=Inv.readsAll I t r2
   exact⟨_,.cons z z'⟩
end
end
section
variable {X:Cx}
def rEqD (K:KFr) (neg:Bool):R2:=fun x y H Q=>∃dx dy,DatV K H x dx/\DatV K H y dy/\SeqAt.shaped dx=true/\SeqAt.shaped dy=true/\Q (.bl (if neg then !PyData.eqv dx dy else PyData.eqv dx dy)) H
theorem uL (hu:X.A.units+64<cLine):OpR X (compareOp .Eq) (rEqD X.K false):=by
 intro pins s σ H x y v u Q I rx ry h
 obtain⟨dx,dy,h1,h2,s1,s2,q⟩:=h
 obtain⟨as,z1⟩:=I.reads h1 rx
 obtain⟨bs,z2⟩:=I.reads h2 ry
 exact eq_dataH z1 z2 s1 s2 hu ⟨.bl _,H,I,rfl,q⟩
theorem cR (hu:X.A.units+64<cLine):OpR X (compareOp .NotEq) (rEqD X.K true):=by
 intro pins s σ H x y v u Q I rx ry h
 obtain⟨dx,dy,h1,h2,s1,s2,q⟩:=h
 obtain⟨as,z1⟩:=I.reads h1 rx
 obtain⟨bs,z2⟩:=I.reads h2 ry
 exact ne_dataH z1 z2 s1 s2 hu ⟨.bl _,H,I,rfl,q⟩
end
theorem fD (ns ms:List Int):PyData.eqvAll (ns.map PyData.int) (ms.map PyData.int)=decide (ns=ms):=PySem.W.ked_eqvAll ns ms
theorem fB (ns:List Int):SeqAt.shaped (.list (ns.map PyData.int))=true:=PySem.W.ke_shaped_ints ns
theorem vW (ns:List Int):SeqAt.shaped (.tuple (ns.map PyData.int))=true:=by
 simp[SeqAt.shaped,PyData.canLay0,PyData.depth,PySem.W.ke_canLayAll0,PySem.W.ke_depthAll]
theorem yG1 (ns ms:List Int):PyData.eqv (.list (ns.map PyData.int)) (.list (ms.map PyData.int))=decide (ns=ms):=by rw[PyData.eqv];exact fD ns ms
theorem bT (ns ms:List Int):PyData.eqv (.tuple (ns.map PyData.int)) (.tuple (ms.map PyData.int))=decide (ns=ms):=by rw[PyData.eqv];exact fD ns ms
theorem gG (x:Value) (kw:List (Str×Value)):Builtin.«sorted» ⟨[x],kw⟩=collect x >>= fun xs=>newList xs >>= fun l=>holding [l] (call (.builtin "list.sort") [l] kw) >>= fun _=>ret l:=rfl
section
variable {X:Cx}
theorem zR9:CallR X (.builtin "sorted") (fun xs H Q=>∃(p:Addr) (ns:List Int),xs=[.ref p]/\(SqL X.K H p (ns.map V.int)\/SqT X.K H p (ns.map V.int))/\ns.length<64 /\
  ∀(l:Addr) (ms:List Int),H l=none->ms.Perm ns->ms.Pairwise (· <= ·)->Q (.ref l) (upd H l (.lst (ms.map V.int)))):=by
 intro pins s σ H xs us Q I r h
 obtain⟨p,ns,rfl,hq,h64,q⟩:=h
 obtain⟨u,rfl,ru⟩:=vals1 r
 cases ru
 obtain⟨T,o,its,n,hT,ho,hc,hd,rv,hz⟩:∃T o its n,(T="list"\/T="tuple")/\s.heap.get? p=some o/\o.cls=.type T/\o.data=.seq its n/\Vals (ns.map V.int) its.toList/\(ns.map V.int).length<=sizeLine:=by
  rcases hq with hq | hq
  ·obtain⟨its,rv,⟨o,n,ho,hc,_,hd⟩,hz⟩:=I.list hq
   exact⟨"list",o,its.toArray,n,.inl rfl,ho,hc,hd,by simpa using rv,hz⟩
  ·obtain⟨its,rv,⟨o,ho,hc,n,hd⟩,hz⟩:=I.tuple hq
   exact⟨"tuple",o,its.toArray,n,.inr rfl,ho,hc,hd,by simpa using rv,hz⟩
 have hl:=rv.length
 have hI:IntsAre its.toList ns:=vR rv
 rw[List.length_map] at hl hz
 have fits:its.size<=sizeLine:=by have z:=its.length_toList;bv_omega
 refine Calls.call_function_entry kind_sorted plain_sorted entry_sorted (args_sorted1 (.ref p)) ?_
 rw[gG]
 refine wpAny_bind (wpAny_collect_seq p hT ho hc hd (fun h' kp=>wpAny_bind (wpAny_newList ?_)) fits)
 have hoL:(h'.push (seqObj "list" its.toList.toArray 0)).get? h'.objs.size=some (seqObj "list" its.toList.toArray 0):=Heap.get?_push_size _ rfl
 refine wpAny_bind (wpAny_holding (wpAny_call_entry slot_list_sort ⟨_,hoL,rfl⟩ entry_list_sort (list_sort_tree hoL hI (by bv_omega) fun out ns' a1 a2 a3=>⟨_,rfl,?_⟩) (args_list_sort _)))
 refine wpAny_pure ⟨_,rfl,?_⟩
 have I1:Inv X pins σ H { s with heap:=h' }:=I.kept (t':=s.toks) kp
 have hfresh:H h'.objs.size=none:=I1.hok.fresh (Nat.le_refl _)
 have ov:Vals (ns'.map V.int) out.toList:=hG a1
 have hlen:ns'.length=ns.length:=a2.length_eq
 refine⟨.ref h'.objs.size,_,I1.laid (t':=s.toks) (o:=.lst (ns'.map V.int)) (fun b ob e => ?_) (Nat.le_refl _) ?_,rfl,q _ ns' hfresh a2 a3⟩
 ·have hb:=Heap.lt_size e
  rw[sortedHeap_old (Nat.ne_of_lt hb) (by rw[size_push'];exact Nat.lt_succ_of_lt hb)]
  exact Heap.get?_push_of_some _ e
 ·obtain⟨e,he⟩:∃e,(sortedHeap (h'.push (seqObj "list" its.toList.toArray 0)) h'.objs.size its.toList out).get? h'.objs.size=some (seqObj "list" out e):=by
   exact sortedHeap_at hoL
  exact⟨by rw[List.length_map];bv_omega,out.toList,e,ov,by simpa using he⟩
end
section
variable {X:Cx}
theorem yS9 {bs:List Bool}{its:List Value}(r:Vals (bs.map V.bl) its){i:Nat}{v:Value}(h:its.toArray[i]?=some v):v=.bool (bs.getD i false):=by
 have h2:its[i]?=some v:=by simpa using h
 have hi:i<its.length:=(List.getElem?_eq_some_iff.mp h2).1
 have hl:=r.length
 rw[List.length_map] at hl
 have e:(bs.map V.bl)[i]?=some (V.bl (bs.getD i false)):=by
  rw[List.getElem?_map,List.getElem?_eq_getElem (by bv_omega),List.getD_eq_getElem?_getD,List.getElem?_eq_getElem (by bv_omega)]
  rfl
 obtain⟨u,hu,ru⟩:=r.get e
 rw[h2] at hu
 cases hu
 exact ru
theorem zF4 (bs:List Bool):(List.range bs.length).map (fun i=>bs.getD i false)=bs:=by
 refine List.ext_getElem (by simp) fun i h1 h2 => ?_
 simp[List.getD,h2]
theorem zA6 (bs:List Bool):(List.range bs.length).all (fun i=>bs.getD i false)=bs.all id:=by
 have z:=congrArg (fun l=>List.all l id) (zF4 bs)
 simpa [List.all_map,Function.comp_def] using z
theorem zC3 (hc:X.calm=true):CallR X (.builtin "all") (fun xs H Q=>∃(p:Addr) (bs:List Bool),xs=[.ref p]/\SqL X.K H p (bs.map V.bl)/\Q (.bl (bs.all id)) H):=by
 intro pins s σ H xs us Q I r h
 obtain⟨p,bs,rfl,hq,q⟩:=h
 obtain⟨u,rfl,ru⟩:=vals1 r
 cases ru
 obtain⟨its,rv,pl,hz⟩:=I.list hq
 have hl:=rv.length
 rw[List.length_map] at hl
 refine call_all_walk (zC2 (A:=X.A.in1) (I.ok.hd hc) pl.isList fun J hp St W st _ _ keep=>⟨_,_,_,_,_,_,fun i=>bs.getD i false,rfl,W,st,?_,fun h' tk hk => ?_⟩)
 ·intro i v s' Q' E' hP hQ
  rw[yS9 rv hP]
  exact wpAny_truthy_bool hQ
 ·rw[List.size_toArray,<-hl,zA6]
  exact⟨.bl _,H,I.kept fun b o e=>hk b o (by simpa using (keep b o e).1) (keep b o e).2,rfl,q⟩
end
end L2
namespace L2.L3
open PySem PySem.Spec PyProof.Rows
abbrev D:=PyData
inductive Res (α:Type) where
 | ok (a:α)
 | ex (c:Str)
 | no
namespace Res
def bind {α β:Type}:Res α->(α->Res β)->Res β
 | .ok a,f=>f a
 | .ex c,_=>.ex c
 | .no,_=>.no
def post {α:Type}:Res α->(α->Prop)->(Str->Prop)->Prop
 | .ok a,Q,_=>Q a
 | .ex c,_,E=>E c
 | .no,_,_=>False
theorem zX {α β:Type}{r:Res α}{f:α->Res β}{Q:β->Prop}{E:Str->Prop}(h:(r.bind f).post Q E):r.post (fun a=>(f a).post Q E) E:=by
 cases r <;> exact h
theorem zS {α:Type}{r:Res α}{Q Q':α->Prop}{E E':Str->Prop}(h:r.post Q E) (hQ:∀a,r=.ok a->Q a->Q' a) (hE:∀c,E c->E' c):r.post Q' E':=by
 cases r with
 | ok a=>exact hQ a rfl h
 | ex c=>exact hE c h
 | no=>exact h
def lft {α:Type}:Option α->Res α
 | some a=>.ok a
 | none=>.no
theorem zE {α:Type}{o:Option α}{Q:α->Prop}{E:Str->Prop}(h:(lft o).post Q E):∃a,o=some a/\Q a:=by
 cases o with
 | none=>exact h.elim
 | some a=>exact⟨a,rfl,h⟩
@[simp] theorem bind_ok {α β:Type}(a:α) (f:α->Res β):(Res.ok a).bind f=f a:=rfl
@[simp] theorem bind_no {α β:Type}(f:α->Res β):(Res.no:Res α).bind f=.no:=rfl
@[simp] theorem bind_ex {α β:Type}(c:Str) (f:α->Res β):(Res.ex c:Res α).bind f=.ex c:=rfl
@[simp] theorem lft_some {α:Type}(a:α):lft (some a)=.ok a:=rfl
@[simp] theorem lft_none {α:Type}:lft (none:Option α)=.no:=rfl
end Res
class CN where
 ad:Str->Addr
instance (priority:=low) cn0:CN:=⟨fun _=>0⟩
variable [CN]
def excP (a:Addr) (c:Str):Heap->Prop:=fun h=>∃o,h.get? a=some o/\o.cls=.ref (CN.ad c)
mutual
inductive Rep (H:Hp) (O:Addr->Prop):V->D->Prop
 | non:Rep H O .non .none
 | bl (b:Bool):Rep H O (.bl b) (.bool b)
 | int (i:Int):Rep H O (.int i) (.int i)
 | str (x:Str):Rep H O (.str x) (.str x)
 | lst {a:Addr}{xs:List V}{ds:List D}:Rd H a (.lst xs)->¬O a->Reps H O xs ds->Rep H O (.ref a) (.list ds)
 | tup {a:Addr}{xs:List V}{ds:List D}:Rd H a (.tup xs)->¬O a->Reps H O xs ds->Rep H O (.ref a) (.tuple ds)
 | exc {a:Addr}{c:Str}:H a=some (.ext (excP a c))->¬O a->Rep H O (.ref a) (.dict [(.list [],.str c)])
inductive Reps (H:Hp) (O:Addr->Prop):List V->List D->Prop
 | nil:Reps H O [] []
 | cons {v:V}{d:D}{vs:List V}{ds:List D}:Rep H O v d->Reps H O vs ds->Reps H O (v::vs) (d::ds)
end
theorem zN4 {H:Hp}{a:Addr}{u:HO}(h:Rd H a u):H a≠none:=by
 rcases h with h | ⟨o,h⟩ <;> (rw[h];exact fun z=>nomatch z)
theorem zA {H H':Hp}{a:Addr}{u:HO}(h:Rd H a u) (k:∀o,H a=some o->H' a=some o):Rd H' a u:=by
 rcases h with h | ⟨o,h⟩
 ·exact .inl (k _ h)
 ·exact .inr ⟨o,k _ h⟩
section
variable {H H':Hp}{O O':Addr->Prop}
mutual
theorem Rep.keep (k:∀b o,H b=some o->¬O b->H' b=some o) (s:∀b,H b≠none->O' b->O b):∀{v:V}{d:D},Rep H O v d->Rep H' O' v d
 | _,_,.non=>.non
 | _,_,.bl b=>.bl b
 | _,_,.int i=>.int i
 | _,_,.str x=>.str x
 | _,_,.lst r n t=>.lst (zA r fun o e=>k _ o e n) (fun z=>n (s _ (zN4 r) z)) (Reps.keep k s t)
 | _,_,.tup r n t=>.tup (zA r fun o e=>k _ o e n) (fun z=>n (s _ (zN4 r) z)) (Reps.keep k s t)
 | _,_,.exc r n=>.exc (k _ _ r n) (fun z=>n (s _ (by rw[r];exact fun z=>nomatch z) z))
theorem Reps.keep (k:∀b o,H b=some o->¬O b->H' b=some o) (s:∀b,H b≠none->O' b->O b):∀{vs:List V}{ds:List D},Reps H O vs ds->Reps H' O' vs ds
 | _,_,.nil=>.nil
 | _,_,.cons h t=>.cons (Rep.keep k s h) (Reps.keep k s t)
end
mutual
theorem Rep.dat {K:KFr}:∀{v:V}{d:D},Rep H O v d->PyData.canLay0 d=true->DatV K H v d
 | _,_,.non,_=>.non
 | _,_,.bl b,_=>.bl b
 | _,_,.int i,_=>.int i
 | _,_,.str x,_=>.str x
 | _,_,.lst r n t,c=>.lst (.inl r) (Reps.dat t c)
 | _,_,.tup r n t,c=>.tup (.inl r) (Reps.dat t c)
 | _,_,.exc r n,c=>by cases c
theorem Reps.dat {K:KFr}:∀{vs:List V}{ds:List D},Reps H O vs ds->PyData.canLayAll0 ds=true->DatAll K H vs ds
 | _,_,.nil,_=>.nil
 | _,_,.cons h t,c=>.cons (Rep.dat h (Bool.and_eq_true_iff.mp c).1) (Reps.dat t (Bool.and_eq_true_iff.mp c).2)
end
theorem Rep.same {v:V}{d:D}(h:Rep H O v d) (s:Same H H'):Rep H' O v d:=h.keep (fun b o e _=>s b o e) fun _ _ z=>z
theorem Reps.same {v:List V}{d:List D}(h:Reps H O v d) (s:Same H H'):Reps H' O v d:=h.keep (fun b o e _=>s b o e) fun _ _ z=>z
theorem Rep.less {v:V}{d:D}(h:Rep H O v d) (s:∀b,O' b->O b):Rep H O' v d:=h.keep (fun b o e _=>e) fun b _ z=>s b z
theorem Reps.less {v:List V}{d:List D}(h:Reps H O v d) (s:∀b,O' b->O b):Reps H O' v d:=h.keep (fun b o e _=>e) fun b _ z=>s b z
theorem Reps.length:∀{vs:List V}{ds:List D},Reps H O vs ds->vs.length=ds.length
 | _,_,.nil=>rfl
 | _,_,.cons _ t=>congrArg (·+1) (Reps.length t)
theorem Reps.get:∀{vs:List V}{ds:List D}{i:Nat}{d:D},Reps H O vs ds->ds[i]?=some d->∃v,vs[i]?=some v/\Rep H O v d
 | _,_,_,_,.nil,e=>by simp at e
 | _,_,0,_,.cons r _,e=>by simp at e;subst e;exact⟨_,rfl,r⟩
 | _,_,i+1,d,.cons _ t,e=>by
  obtain⟨u,h1,h2⟩:=Reps.get (i:=i) (d:=d) t (by simpa using e)
  exact⟨u,by simpa using h1,h2⟩
theorem Reps.append:∀{vs ws:List V}{ds es:List D},Reps H O vs ds->Reps H O ws es->Reps H O (vs++ws) (ds++es)
 | _,_,_,_,.nil,s=>s
 | _,_,_,_,.cons r t,s=>.cons r (Reps.append t s)
theorem Reps.one {v:V}{d:D}(h:Rep H O v d):Reps H O [v] [d]:=.cons h .nil
theorem Reps.set {x:V}{u:D}(r:Rep H O x u):∀{vs:List V}{ds:List D}(i:Nat),Reps H O vs ds->Reps H O (vs.set i x) (ds.set i u)
 | _,_,_,.nil=>.nil
 | _,_,0,.cons _ t=>.cons r t
 | _,_,i+1,.cons q t=>.cons q (Reps.set r i t)
theorem Reps.take:∀{vs:List V}{ds:List D}(n:Nat),Reps H O vs ds->Reps H O (vs.take n) (ds.take n)
 | _,_,0,_=>.nil
 | _,_,_+1,.nil=>.nil
 | _,_,n+1,.cons r t=>.cons r (Reps.take n t)
theorem Reps.drop:∀{vs:List V}{ds:List D}(n:Nat),Reps H O vs ds->Reps H O (vs.drop n) (ds.drop n)
 | _,_,0,r=>r
 | _,_,_+1,.nil=>.nil
 | _,_,n+1,.cons _ t=>Reps.drop n t
theorem Reps.rep {vs:List V}{ds:List D}(h:Reps H O vs ds):∀k:Nat,Reps H O (List.replicate k vs).flatten (List.replicate k ds).flatten
 | 0=>.nil
 | k+1=>by
  rw[List.replicate_succ,List.replicate_succ,List.flatten_cons,List.flatten_cons]
  exact h.append (Reps.rep h k)
theorem uQ:∀(ns:List Int),Reps H O (ns.map V.int) (ns.map PyData.int)
 | []=>.nil
 | n::ns=>.cons (.int n) (uQ ns)
theorem Reps.ints:∀{ns:List Int}{vs:List V},Reps H O vs (ns.map PyData.int)->vs=ns.map V.int
 | [],_,h=>by cases h;rfl
 | n::ns,_,h=>by
  cases h with
  | cons r t=>cases r;rw[Reps.ints t];rfl
theorem Reps.bools:∀{ns:List Bool}{vs:List V},Reps H O vs (ns.map PyData.bool)->vs=ns.map V.bl
 | [],_,h=>by cases h;rfl
 | n::ns,_,h=>by
  cases h with
  | cons r t=>cases r;rw[Reps.bools t];rfl
end
abbrev Ev:=List (Option D)
structure Wd where
 o:Addr->Prop
 la:Nat->Addr
instance:CoeFun Wd (fun _=>Addr->Prop):=⟨Wd.o⟩
abbrev Uni (Oc:Wd) (Ob:Addr->Prop):Addr->Prop:=fun b=>Oc b\/Ob b
def OwnAt (H:Hp) (Oc:Wd) (Ob:Addr->Prop) (v:V) (d:D):Prop:=∃a ys ds,v=.ref a/\d=.list ds/\H a=some (.lst ys)/\Ob a/\Reps H (Uni Oc Ob) ys ds
def LentAt (i:Nat) (H:Hp) (Oc:Wd) (Ob:Addr->Prop) (v:V) (d:D):Prop:=∃ys ds,v=.ref (Oc.la i)/\d=.list ds/\H (Oc.la i)=some (.lst ys)/\Oc (Oc.la i)/\Reps H (Uni Oc Ob) ys ds
structure Rel (Oc:Wd) (Ob:Addr->Prop) (om ln:List Nat) (σ:St) (H:Hp) (ρ:Ev):Prop where
 len:σ.length=ρ.length
 val:∀i d,ρ[i]?=some (some d)->i∉om->i∉ln->∃v,σ[i]?=some (some v)/\Rep H (Uni Oc Ob) v d
 own:∀i d,ρ[i]?=some (some d)->i∈om->∃v,σ[i]?=some (some v)/\OwnAt H Oc Ob v d
 lnt:∀i d,ρ[i]?=some (some d)->i∉om->i∈ln->∃v,σ[i]?=some (some v)/\LentAt i H Oc Ob v d
 inj:∀i j di dj a,ρ[i]?=some (some di)->ρ[j]?=some (some dj)->i∈om->j∈om->σ[i]?=some (some (.ref a))->σ[j]?=some (some (.ref a))->i=j
 oh:∀a,Oc a\/Ob a->H a≠none
 ap:∀a,Ob a->¬Oc a
section
variable {Oc:Wd}{Ob:Addr->Prop}{om ln:List Nat}{σ:St}{H H':Hp}{ρ:Ev}
theorem Same.ne {b:Addr}(s:Same H H') (h:H b≠none):H' b≠none:=by
 cases e:H b with
 | none=>exact absurd e h
 | some o=>rw[s b o e];exact fun z=>nomatch z
theorem Rel.same (R:Rel Oc Ob om ln σ H ρ) (s:Same H H'):Rel Oc Ob om ln σ H' ρ where
 len:=R.len
 val:=fun i d e h1 h2=>let ⟨v,a,b⟩:=R.val i d e h1 h2; ⟨v,a,b.same s⟩
 own:=fun i d e h1=>let ⟨v,q,a,ys,ds,e1,e2,e3,e4,e5⟩:=R.own i d e h1; ⟨v,q,a,ys,ds,e1,e2,s _ _ e3,e4,e5.same s⟩
 lnt:=fun i d e h1 h2=>let ⟨v,q,ys,ds,e1,e2,e3,e4,e5⟩:=R.lnt i d e h1 h2; ⟨v,q,ys,ds,e1,e2,s _ _ e3,e4,e5.same s⟩
 inj:=R.inj
 oh:=fun a h=>Same.ne s (R.oh a h)
 ap:=R.ap
end
inductive Md where
 | cl
 | rd
 | any
 | new
def VA (Oc:Wd) (Ob:Addr->Prop) (H:Hp) (v:V) (d:D):Prop :=
 Rep H (Uni Oc Ob) v d\/∃a ys ds,v=.ref a/\d=.list ds/\H a=some (.lst ys)/\Reps H (Uni Oc Ob) ys ds
def VR:Md->Wd->(Addr->Prop)->Hp->Hp->V->D->Prop
 | .cl,Oc,Ob,_,H',v,d=>Rep H' (Uni Oc Ob) v d
 | .rd,Oc,Ob,_,H',v,d=>Rep H' (Uni Oc Ob) v d\/∃a ys ds,v=.ref a/\d=.list ds/\H' a=some (.lst ys)/\¬Ob a/\Reps H' (Uni Oc Ob) ys ds
 | .any,Oc,Ob,_,H',v,d=>VA Oc Ob H' v d
 | .new,Oc,Ob,H,H',v,d=>∃a ys ds,v=.ref a/\d=.list ds/\H a=none/\H' a=some (.lst ys)/\Reps H' (fun b=>Uni Oc Ob b\/b=a) ys ds
section
variable {Oc:Wd}{Ob:Addr->Prop}{H H1 H2:Hp}{v:V}{d:D}{md:Md}
theorem VR.same (h:VR md Oc Ob H H1 v d) (s:Same H1 H2):VR md Oc Ob H H2 v d:=by
 cases md with
 | cl=>exact Rep.same h s
 | rd =>
  rcases h with h | ⟨a,ys,ds,e1,e2,e3,e4,e5⟩
  ·exact .inl (Rep.same h s)
  ·exact .inr ⟨a,ys,ds,e1,e2,s _ _ e3,e4,e5.same s⟩
 | any =>
  rcases h with h | ⟨a,ys,ds,e1,e2,e3,e5⟩
  ·exact .inl (Rep.same h s)
  ·exact .inr ⟨a,ys,ds,e1,e2,s _ _ e3,e5.same s⟩
 | new =>
  obtain⟨a,ys,ds,e1,e2,e3,e4,e5⟩:=h
  exact⟨a,ys,ds,e1,e2,e3,s _ _ e4,e5.same s⟩
theorem VR.from (h:VR md Oc Ob H1 H2 v d) (s:Same H H1):VR md Oc Ob H H2 v d:=by
 cases md with
 | new =>
  obtain⟨a,ys,ds,e1,e2,e3,e4,e5⟩:=h
  exact⟨a,ys,ds,e1,e2,s.free e3,e4,e5⟩
 | _=>exact h
theorem VR.clean (h:VR .new Oc Ob H H1 v d) (oh:∀a,Oc a\/Ob a->H a≠none):VR .cl Oc Ob H H1 v d:=by
 obtain⟨a,ys,ds,rfl,rfl,e3,e4,e5⟩:=h
 exact .lst (.inl e4) (fun z=>oh a z e3) (e5.less fun b z=>.inl z)
theorem VR.va (h:VR md Oc Ob H H1 v d) (oh:∀a,Oc a\/Ob a->H a≠none):VA Oc Ob H1 v d:=by
 cases md with
 | cl=>exact .inl h
 | rd =>
  rcases h with h | ⟨a,ys,ds,e1,e2,e3,e4,e5⟩
  ·exact .inl h
  ·exact .inr ⟨a,ys,ds,e1,e2,e3,e5⟩
 | any=>exact h
 | new=>exact .inl (VR.clean h oh)
theorem VA.dat {K:KFr}(h:VA Oc Ob H v d) (c:PyData.canLay0 d=true):DatV K H v d:=by
 rcases h with h | ⟨a,ys,ds,rfl,rfl,e3,e5⟩
 ·exact h.dat c
 ·exact .lst (SqL.of e3) (e5.dat c)
theorem VA.datS {K:KFr}(h:VA Oc Ob H v d) (c:SeqAt.shaped d=true):DatV K H v d:=h.dat (SeqAt.canLay_of_shaped c)
theorem VA.list {ds:List D}(h:VA Oc Ob H v (.list ds)):∃a ys,v=.ref a/\Rd H a (.lst ys)/\Reps H (Uni Oc Ob) ys ds:=by
 rcases h with h | ⟨a,ys,ds,rfl,e,e3,e5⟩
 ·cases h with
  | lst r n t=>exact⟨_,_,rfl,r,t⟩
 ·cases e
  exact⟨a,ys,rfl,.inl e3,e5⟩
theorem VA.tuple {ds:List D}(h:VA Oc Ob H v (.tuple ds)):∃a ys,v=.ref a/\Rd H a (.tup ys)/\Reps H (Uni Oc Ob) ys ds:=by
 rcases h with h | ⟨a,ys,ds,rfl,e,e3,e5⟩
 ·cases h with
  | tup r n t=>exact⟨_,_,rfl,r,t⟩
 ·cases e
theorem VA.int {i:Int}(h:VA Oc Ob H v (.int i)):v=.int i:=by
 rcases h with h | ⟨a,ys,ds,rfl,e,e3,e5⟩
 ·cases h;rfl
 ·cases e
theorem VA.bool {i:Bool}(h:VA Oc Ob H v (.bool i)):v=.bl i:=by
 rcases h with h | ⟨a,ys,ds,rfl,e,e3,e5⟩
 ·cases h;rfl
 ·cases e
theorem VA.rep (h:VA Oc Ob H v d):Rep H (fun _=>False) v d:=by
 rcases h with h | ⟨a,ys,ds,rfl,rfl,e3,e5⟩
 ·exact h.less fun _ z=>z.elim
 ·exact .lst (.inl e3) (fun z=>z) (e5.less fun _ z=>z.elim)
end
structure Ct where
 X:Cx
 XE:Str->Hp->Prop
 om:List Nat
 ln:List Nat
def RE (C:Ct) (md:Md) (e:Expr) (m:Ev->Res D):Prop :=
 ∃t,PE C.X e t/\∀(Oc:Wd) (Ob:Addr->Prop) (σ:St) (H:Hp) (ρ:Ev) (Q:VK),Rel Oc Ob C.om C.ln σ H ρ ->
  (m ρ).post (fun d=>∀v H',Same H H'->VR md Oc Ob H H' v d->Q v H') (fun c=>∀H',Same H H'->C.XE c H')->t σ H Q
def RT (C:Ct) (e:Expr) (m:Ev->Res Bool):Prop :=
 ∃t,PT C.X e t/\∀(Oc:Wd) (Ob:Addr->Prop) (σ:St) (H:Hp) (ρ:Ev) (Q:Bool->Hp->Prop),Rel Oc Ob C.om C.ln σ H ρ ->
  (m ρ).post (fun b=>∀H',Same H H'->Q b H') (fun c=>∀H',Same H H'->C.XE c H')->t σ H Q
def RW (C:Ct) (e:Expr) (m:Ev->Res Bool):Prop :=
 ∃t,PW C.X e t/\∀(Oc:Wd) (Ob:Addr->Prop) (σ:St) (H:Hp) (ρ:Ev) (Q:Bool->Hp->Prop),Rel Oc Ob C.om C.ln σ H ρ ->
  (m ρ).post (fun b=>∀H',Same H H'->Q b H') (fun c=>∀H',Same H H'->C.XE c H')->t σ H Q
inductive Out where
 | nx (ρ:Ev)
 | rt (d:D)
def Frm (Ob:Addr->Prop) (H H':Hp):Prop:=∀b o,H b=some o->¬Ob b->H' b=some o
theorem Same.frm {Ob:Addr->Prop}{H H':Hp}(s:Same H H'):Frm Ob H H':=fun b o e _=>s b o e
def RetOk:Bool->Wd->(Addr->Prop)->Hp->Hp->V->D->Prop
 | true,Oc,Ob,H,H',v,d=>∃a ys ds,v=.ref a/\d=.list ds/\(H a=none\/Ob a)/\¬Oc a/\H' a=some (.lst ys)/\Reps H' (fun b=>Oc b\/b=a) ys ds
 | false,Oc,_,_,H',v,d=>Rep H' Oc.o v d
def SPost (C:Ct) (fr:Bool) (Oc:Wd) (Ob:Addr->Prop) (H:Hp) (E:Ends) (r:Res Out):Prop :=
 r.post (fun o=>match o with
  | .nx ρ'=>∀σ' H' Ob',Rel Oc Ob' C.om C.ln σ' H' ρ'->Frm Ob H H'->(∀b,Ob' b->Ob b\/H b=none)->E.nx σ' H'
  | .rt d=>∀v H',Frm Ob H H'->RetOk fr Oc Ob H H' v d->E.rt v H') (fun c=>∀H',Frm Ob H H'->C.XE c H')
def RS (C:Ct) (fr:Bool) (st:Stmt) (m:Ev->Res Out):Prop :=
 ∃t,PS C.X st t/\∀(Oc:Wd) (Ob:Addr->Prop) (σ:St) (H:Hp) (ρ:Ev) (E:Ends),Rel Oc Ob C.om C.ln σ H ρ->SPost C fr Oc Ob H E (m ρ)->t E σ H
def RSs (C:Ct) (fr:Bool) (st:List Stmt) (m:Ev->Res Out):Prop :=
 ∃t,PSs C.X st t/\∀(Oc:Wd) (Ob:Addr->Prop) (σ:St) (H:Hp) (ρ:Ev) (E:Ends),Rel Oc Ob C.om C.ln σ H ρ->SPost C fr Oc Ob H E (m ρ)->t E σ H
section
variable {C:Ct}{fr:Bool}{Oc:Wd}{Ob Ob1 Ob2:Addr->Prop}{H H1 H2:Hp}{E:Ends}{r:Res Out}
theorem Frm.trans (f:Frm Ob H H1) (s:∀b,Ob1 b->Ob b\/H b=none) (g:Frm Ob1 H1 H2):Frm Ob H H2:=fun b o e n =>
 g b o (f b o e n) fun z=>(s b z).elim n fun q=>by rw[e] at q;cases q
theorem Frm.none (f:Frm Ob H H1){b:Addr}(h:H1 b=none):Ob b\/H b=none:=by
 by_cases n:Ob b
 ·exact .inl n
 ·cases e:H b with
  | none=>exact .inr rfl
  | some o=>rw[f b o e n] at h;cases h
theorem SPost.step (f:Frm Ob H H1) (s:∀b,Ob1 b->Ob b\/H b=none) (h:SPost C fr Oc Ob H E r):SPost C fr Oc Ob1 H1 E r:=by
 refine Res.zS h (fun o _ q => ?_) fun c q H' g=>q H' (f.trans s g)
 cases o with
 | nx ρ'=>exact fun σ' H' Ob' R g s'=>q σ' H' Ob' R (f.trans s g) fun b z=>(s' b z).elim (s b) fun z=>f.none z
 | rt d =>
  refine fun v H' g k=>q v H' (f.trans s g) ?_
  cases fr with
  | false=>exact k
  | true =>
   obtain⟨a,ys,ds,e1,e2,e3,e4,e5,e6⟩:=k
   refine⟨a,ys,ds,e1,e2,?_,e4,e5,e6⟩
   rcases e3 with e3 | e3
   ·exact (f.none e3).symm
   ·exact (s a e3).symm
theorem SPost.same (f:Same H H1) (h:SPost C fr Oc Ob H E r):SPost C fr Oc Ob H1 E r:=h.step (Same.frm f) fun b z=>.inl z
end
end L2.L3
namespace L2.L3
open PySem PySem.Spec PyProof.Rows
variable [CN]
section
variable {C:Ct}{a b c e:Expr}{es:List Expr}{pos:Pos}{md mda mdb mdc:Md}{ma mb mc:Ev->Res D}
theorem RE.cl (h:RE C .new e ma):RE C .cl e ma:=by
 obtain⟨t,p,q⟩:=h
 exact⟨t,p,fun Oc Ob σ H ρ Q R h=>q Oc Ob σ H ρ Q R (Res.zS h (fun d _ k v H' s r=>k v H' s (VR.clean r R.oh)) fun _ z=>z)⟩
theorem RE.rd (h:RE C .cl e ma):RE C .rd e ma:=by
 obtain⟨t,p,q⟩:=h
 exact⟨t,p,fun Oc Ob σ H ρ Q R h=>q Oc Ob σ H ρ Q R (Res.zS h (fun d _ k v H' s r=>k v H' s (.inl r)) fun _ z=>z)⟩
def eC (d:D):Ev->Res D:=fun _=>.ok d
theorem xD {i j}:RE C .cl (.Constant (.int i) j pos) (eC (.int i)):=⟨_,yY,fun Oc Ob σ H ρ Q R h=>h _ H (Same.refl H) (Rep.int i)⟩
theorem yM6 {i j}:RE C .cl (.Constant (.bool i) j pos) (eC (.bool i)):=⟨_,xQ7,fun Oc Ob σ H ρ Q R h=>h _ H (Same.refl H) (Rep.bl i)⟩
theorem zB2 {j}:RE C .cl (.Constant .none j pos) (eC .none):=⟨_,gH,fun Oc Ob σ H ρ Q R h=>h _ H (Same.refl H) Rep.non⟩
def eV (i:Nat):Ev->Res D:=fun ρ=>match ρ[i]? with
 | some (some d)=>.ok d
 | _=>.no
theorem qU {i:Nat}{ρ:Ev}{Q:D->Prop}{E:Str->Prop}(h:(eV i ρ).post Q E):∃d,ρ[i]?=some (some d)/\Q d:=by
 unfold eV at h
 split at h
 ·exact⟨_,by assumption,h⟩
 ·exact h.elim
theorem yO {i:Nat}{l:List Nat}(h:l.contains i=false):i∉l:=by
 intro z
 rw[List.contains_iff_mem.mpr z] at h
 cases h
theorem xF {i:Nat}{l:List Nat}(h:l.contains i=true):i∈l:=List.contains_iff_mem.mp h
theorem zW (i:Nat){x:Str}(hN:autoParam (C.X.N[i]?=some x) zZ._auto_1) (ho:autoParam (C.om.contains i=false) zZ._auto_1) (hl:autoParam (C.ln.contains i=false) zZ._auto_1) (hv:autoParam (Vis C.X.env.scope x) qE._auto_1) (hd:autoParam ((x == ("__debug__":Str))=false) zL._auto_1)
  (hcd:autoParam ((x == ("__classdict__":Str))=false) zL._auto_1):RE C .cl (.Name x pos) (eV i):=by
 refine⟨_,uI hN hv hd hcd,fun Oc Ob σ H ρ Q R h => ?_⟩
 obtain⟨d,e,k⟩:=qU h
 obtain⟨v,q,r⟩:=R.val i d e (yO ho) (yO hl)
 exact⟨v,q,k v H (Same.refl H) r⟩
theorem kF (i:Nat){x:Str}(hN:autoParam (C.X.N[i]?=some x) zZ._auto_1) (ho:autoParam (C.om.contains i=true) zZ._auto_1) (hv:autoParam (Vis C.X.env.scope x) qE._auto_1) (hd:autoParam ((x == ("__debug__":Str))=false) zL._auto_1)
  (hcd:autoParam ((x == ("__classdict__":Str))=false) zL._auto_1):RE C .any (.Name x pos) (eV i):=by
 refine⟨_,uI hN hv hd hcd,fun Oc Ob σ H ρ Q R h => ?_⟩
 obtain⟨d,e,k⟩:=qU h
 obtain⟨v,q,a,ys,ds,e1,e2,e3,e4,e5⟩:=R.own i d e (xF ho)
 exact⟨v,q,k v H (Same.refl H) (.inr ⟨a,ys,ds,e1,e2,e3,e5⟩)⟩
theorem dD {x:Str}{i:Int}{u:Value}(hm:C.X.mg x=some u) (r:RelV (.int i) u) (hg:autoParam (Gl C.X x) zZ._auto_1) (hd:autoParam ((x == ("__debug__":Str))=false) zL._auto_1):RE C .cl (.Name x pos) (eC (.int i)) :=
 ⟨_,yI7 hg hm r hd,fun Oc Ob σ H ρ Q R h=>h _ H (Same.refl H) (Rep.int i)⟩
def e2 (f:D->D->Option D) (m n:Ev->Res D):Ev->Res D:=fun ρ=>(m ρ).bind fun x=>(n ρ).bind fun y=>Res.lft (f x y)
def Pr2 (r:R2) (md:Md) (f:D->D->Option D):Prop :=
 ∀(Oc:Wd) (Ob:Addr->Prop) (H:Hp) (x y:V) (dx dy d:D) (Q:VK),(∀a,Oc a\/Ob a->H a≠none)->VA Oc Ob H x dx->VA Oc Ob H y dy->f dx dy=some d->(∀v H',Same H H'->VR md Oc Ob H H' v d->Q v H')->r x y H Q
theorem two {ta tb:TE}{f:D->D->Option D}{r:R2}(ha:∀(Oc:Wd) (Ob:Addr->Prop) (σ:St) (H:Hp) (ρ:Ev) (Q:VK),Rel Oc Ob C.om C.ln σ H ρ->(ma ρ).post (fun d=>∀v H',Same H H'->VR mda Oc Ob H H' v d->Q v H') (fun c=>∀H',Same H H'->C.XE c H')->ta σ H Q)
  (hb:∀(Oc:Wd) (Ob:Addr->Prop) (σ:St) (H:Hp) (ρ:Ev) (Q:VK),Rel Oc Ob C.om C.ln σ H ρ->(mb ρ).post (fun d=>∀v H',Same H H'->VR mdb Oc Ob H H' v d->Q v H') (fun c=>∀H',Same H H'->C.XE c H')->tb σ H Q) (hp:Pr2 r md f)
  {Oc:Wd}{Ob:Addr->Prop}{σ:St}{H:Hp}{ρ:Ev}{Q:VK}(R:Rel Oc Ob C.om C.ln σ H ρ) (h:(e2 f ma mb ρ).post (fun d=>∀v H',Same H H'->VR md Oc Ob H H' v d->Q v H') (fun c=>∀H',Same H H'->C.XE c H')) :
  ta σ H fun x H1=>tb σ H1 fun y H2=>r x y H2 Q:=by
 refine ha Oc Ob σ H ρ _ R (Res.zS (Res.zX h) (fun dx _ q x H1 s1 vx => ?_) fun _ z=>z)
 refine hb Oc Ob σ H1 ρ _ (R.same s1) (Res.zS (Res.zX q) (fun dy _ q y H2 s2 vy => ?_) fun c z H' s'=>z H' (s1.trans s'))
 obtain⟨d,e,q⟩:=Res.zE q
 have oh2:=((R.same s1).same s2).oh
 refine hp Oc Ob H2 x y dx dy d Q oh2 ((vx.same s2).va R.oh) (vy.va (R.same s1).oh) e fun v H' s3 r => ?_
 exact q v H' ((s1.trans s2).trans s3) (r.from (s1.trans s2))
theorem vV {op:Operator}{r:R2}{f:D->D->Option D}(ho:OpR C.X (binaryOp op) r) (hp:Pr2 r md f) (ha:RE C mda a ma) (hb:RE C mdb b mb):RE C md (.BinOp a op b pos) (e2 f ma mb):=by
 obtain⟨ta,pa,qa⟩:=ha
 obtain⟨tb,pb,qb⟩:=hb
 exact⟨_,uB ho pa pb,fun Oc Ob σ H ρ Q R h=>two qa qb hp R h⟩
theorem fL {r:R2}{f:D->D->Option D}(ho:IxR C.X r) (hp:Pr2 r md f) (ha:RE C mda a ma) (hb:RE C mdb b mb) (hs:autoParam (PlainIx b) yC6._auto_1):RE C md (.Subscript a b pos) (e2 f ma mb):=by
 obtain⟨ta,pa,qa⟩:=ha
 obtain⟨tb,pb,qb⟩:=hb
 exact⟨_,xX ho pa pb hs,fun Oc Ob σ H ρ Q R h=>two qa qb hp R h⟩
def PrB (r:R2) (f:D->D->Option Bool):Prop :=
 ∀(Oc:Wd) (Ob:Addr->Prop) (H:Hp) (x y:V) (dx dy:D) (k:Bool) (Q:VK),VA Oc Ob H x dx->VA Oc Ob H y dy->f dx dy=some k->Q (.bl k) H->r x y H Q
def bD (o:Option Bool):Option D:=o.map PyData.bool
theorem PrB.pr {r:R2}{f:D->D->Option Bool}(h:PrB r f):Pr2 r .cl (fun x y=>bD (f x y)):=by
 intro Oc Ob H x y dx dy d Q oh vx vy e k
 cases ef:f dx dy with
 | none=>simp only[ef] at e;cases e
 | some b =>
  simp only[ef] at e
  cases e
  exact h Oc Ob H x y dx dy b Q vx vy ef (k _ H (Same.refl H) (Rep.bl b))
theorem zB8 {op:CmpOp}{r:R2}{f:D->D->Option Bool}(ho:OpR C.X (compareOp op) r) (hp:PrB r f) (ha:RE C mda a ma) (hb:RE C mdb b mb) (hm:autoParam (behindInMarks op b=false) zI7._auto_1):RE C .cl (.Compare a [op] [b] pos) (e2 (fun x y=>bD (f x y)) ma mb):=by
 obtain⟨ta,pa,qa⟩:=ha
 obtain⟨tb,pb,qb⟩:=hb
 exact⟨_,zK6 ho pa pb hm,fun Oc Ob σ H ρ Q R h=>two qa qb hp.pr R h⟩
def b2 (f:D->D->Option Bool) (m n:Ev->Res D):Ev->Res Bool:=fun ρ=>(m ρ).bind fun x=>(n ρ).bind fun y=>Res.lft (f x y)
theorem xW5 {f:D->D->Option Bool}{ρ:Ev}{Q:Bool->Hp->Prop}{H:Hp}{E:Str->Prop}{Oc:Wd}{Ob:Addr->Prop}(h:(b2 f ma mb ρ).post (fun b=>∀H',Same H H'->Q b H') E) :
  (e2 (fun x y=>bD (f x y)) ma mb ρ).post (fun d=>∀v H',Same H H'->VR .cl Oc Ob H H' v d->∃k,v=.bl k/\Q k H') E:=by
 unfold e2
 unfold b2 at h
 cases ea:ma ρ with
 | no=>rw[ea] at h;exact h
 | ex c=>rw[ea] at h;exact h
 | ok x =>
  rw[ea] at h
  simp only[Res.bind_ok] at h ⊢
  cases eb:mb ρ with
  | no=>rw[eb] at h;exact h
  | ex c=>rw[eb] at h;exact h
  | ok y =>
   rw[eb] at h
   simp only[Res.bind_ok] at h ⊢
   obtain⟨k,ek,q⟩:=Res.zE h
   rw[ek]
   intro v H' s r
   have:v=.bl k:=by cases r;rfl
   exact⟨k,this,q H' s⟩
theorem xC {op:CmpOp}{r:R2}{f:D->D->Option Bool}(ho:OpR C.X (compareOp op) r) (hp:PrB r f) (ha:RE C mda a ma) (hb:RE C mdb b mb) (hm:autoParam (behindInMarks op b=false) zI7._auto_1):RT C (.Compare a [op] [b] pos) (b2 f ma mb):=by
 obtain⟨ta,pa,qa⟩:=ha
 obtain⟨tb,pb,qb⟩:=hb
 exact⟨_,wE ho pa pb hm,fun Oc Ob σ H ρ Q R h=>two qa qb hp.pr R (xW5 h)⟩
def b3 (f g:D->D->Option Bool) (m n o:Ev->Res D):Ev->Res Bool:=fun ρ=>(m ρ).bind fun x=>(n ρ).bind fun y=>(Res.lft (f x y)).bind fun k=>if k then (o ρ).bind fun z=>Res.lft (g y z) else .ok false
theorem chain3 {ta tb tc:TE}{f g:D->D->Option Bool}{r r':R2}(ha:∀(Oc:Wd) (Ob:Addr->Prop) (σ:St) (H:Hp) (ρ:Ev) (Q:VK),Rel Oc Ob C.om C.ln σ H ρ->(ma ρ).post (fun d=>∀v H',Same H H'->VR mda Oc Ob H H' v d->Q v H') (fun c=>∀H',Same H H'->C.XE c H')->ta σ H Q)
  (hb:∀(Oc:Wd) (Ob:Addr->Prop) (σ:St) (H:Hp) (ρ:Ev) (Q:VK),Rel Oc Ob C.om C.ln σ H ρ->(mb ρ).post (fun d=>∀v H',Same H H'->VR mdb Oc Ob H H' v d->Q v H') (fun c=>∀H',Same H H'->C.XE c H')->tb σ H Q)
  (hc:∀(Oc:Wd) (Ob:Addr->Prop) (σ:St) (H:Hp) (ρ:Ev) (Q:VK),Rel Oc Ob C.om C.ln σ H ρ->(mc ρ).post (fun d=>∀v H',Same H H'->VR mdc Oc Ob H H' v d->Q v H') (fun c=>∀H',Same H H'->C.XE c H')->tc σ H Q) (hp:PrB r f) (hp':PrB r' g)
  {Oc:Wd}{Ob:Addr->Prop}{σ:St}{H:Hp}{ρ:Ev}{Q:VK}(R:Rel Oc Ob C.om C.ln σ H ρ) (h:(b3 f g ma mb mc ρ).post (fun d=>∀H',Same H H'->Q (.bl d) H') (fun c=>∀H',Same H H'->C.XE c H')) :
  tChain r r' ta tb tc σ H Q:=by
 refine ha Oc Ob σ H ρ _ R (Res.zS (Res.zX h) (fun dx _ q x H1 s1 vx => ?_) fun _ z=>z)
 refine hb Oc Ob σ H1 ρ _ (R.same s1) (Res.zS (Res.zX q) (fun dy _ q y H2 s2 vy => ?_) fun c z H' s'=>z H' (s1.trans s'))
 obtain⟨k,e,q⟩:=Res.zE (Res.zX q)
 have R2:=(R.same s1).same s2
 refine hp Oc Ob H2 x y dx dy k _ ((vx.same s2).va R.oh) (vy.va (R.same s1).oh) e ⟨k,rfl,?_⟩
 cases k with
 | false=>exact iteF (q H2 (s1.trans s2))
 | true =>
  refine iteT (hc Oc Ob σ H2 ρ _ R2 (Res.zS (Res.zX q) (fun dz _ q z H3 s3 vz => ?_) fun c z H' s'=>z H' ((s1.trans s2).trans s')))
  obtain⟨k,e,q⟩:=Res.zE q
  exact hp' Oc Ob H3 y z dy dz k _ ((vy.same s3).va (R.same s1).oh) (vz.va R2.oh) e (q H3 ((s1.trans s2).trans s3))
theorem yT5 {op op':CmpOp}{r r':R2}{f g:D->D->Option Bool}(ho:OpR C.X (compareOp op) r) (ho':OpR C.X (compareOp op') r') (hp:PrB r f) (hp':PrB r' g) (ha:RE C mda a ma) (hb:RE C mdb b mb) (hc:RE C mdc c mc)
  (hm:autoParam (lastMarks [op,op'] [b,c]=false) bW._auto_1):RT C (.Compare a [op,op'] [b,c] pos) (b3 f g ma mb mc):=by
 obtain⟨ta,pa,qa⟩:=ha
 obtain⟨tb,pb,qb⟩:=hb
 obtain⟨tc,pc,qc⟩:=hc
 exact⟨_,yN2 ho ho' pa pb pc hm,fun Oc Ob σ H ρ Q R h=>chain3 qa qb qc hp hp' R (Res.zS h (fun b _ q H' s=>⟨b,rfl,q H' s⟩) fun _ z=>z)⟩
def vB (m:Ev->Res Bool):Ev->Res D:=fun ρ=>(m ρ).bind fun b=>.ok (.bool b)
theorem yU6 {op op':CmpOp}{r r':R2}{f g:D->D->Option Bool}(ho:OpR C.X (compareOp op) r) (ho':OpR C.X (compareOp op') r') (hp:PrB r f) (hp':PrB r' g) (ha:RE C mda a ma) (hb:RE C mdb b mb) (hc:RE C mdc c mc)
  (hm:autoParam (lastMarks [op,op'] [b,c]=false) bW._auto_1):RE C .cl (.Compare a [op,op'] [b,c] pos) (vB (b3 f g ma mb mc)):=by
 obtain⟨ta,pa,qa⟩:=ha
 obtain⟨tb,pb,qb⟩:=hb
 obtain⟨tc,pc,qc⟩:=hc
 exact⟨_,yO2 ho ho' pa pb pc hm,fun Oc Ob σ H ρ Q R h=>chain3 qa qb qc hp hp' R (Res.zS (Res.zX h) (fun b _ q H' s=>q _ H' s (Rep.bl b)) fun _ z=>z)⟩
variable {ta' tb':Ev->Res Bool}{rest:List Expr}
def isB:D->Option Bool
 | .bool b=>some b
 | _=>none
def tV (m:Ev->Res D):Ev->Res Bool:=fun ρ=>(m ρ).bind fun d=>Res.lft (isB d)
theorem zU5 {d:D}{b:Bool}(h:isB d=some b):d=.bool b:=by
 cases d <;> simp[isB] at h ⊢
 exact h
theorem xZ3 (h:RE C md a ma) (he:autoParam (∀whole,isTrue a C.X.env whole=(do let v <-whole;standAt a.pos;holding [v] (truthy v))) xB._auto_1):RT C a (tV ma):=by
 obtain⟨t,p,q⟩:=h
 refine⟨_,yZ7 p he,fun Oc Ob σ H ρ Q R h=>q Oc Ob σ H ρ _ R (Res.zS (Res.zX h) (fun d _ k v H' s r => ?_) fun _ z=>z)⟩
 obtain⟨b,e,k⟩:=Res.zE k
 obtain rfl:=zU5 e
 exact⟨b,(r.va R.oh).bool,k H' s⟩
def tNt (m:Ev->Res Bool):Ev->Res Bool:=fun ρ=>(m ρ).bind fun b=>.ok (!b)
theorem zA8 (h:RT C a ta'):RT C (.UnaryOp .Not a pos) (tNt ta'):=by
 obtain⟨t,p,q⟩:=h
 exact⟨_,xX4 p,fun Oc Ob σ H ρ Q R h=>q Oc Ob σ H ρ _ R (Res.zS (Res.zX h) (fun d _ k=>k) fun _ z=>z)⟩
def tAn (m n:Ev->Res Bool):Ev->Res Bool:=fun ρ=>(m ρ).bind fun b=>if b then n ρ else .ok false
def tO (m n:Ev->Res Bool):Ev->Res Bool:=fun ρ=>(m ρ).bind fun b=>if b then .ok true else n ρ
theorem rw_or1 (h:RT C a ta'):RW C (.BoolOp .Or [a] pos) ta':=by
 obtain⟨t,p,q⟩:=h
 exact⟨_,pw_or1 p,q⟩
theorem rw_or (ha:RT C a ta') (hb:RW C (.BoolOp .Or (b::rest) pos) tb'):RW C (.BoolOp .Or (a::b::rest) pos) (tO ta' tb'):=by
 obtain⟨t,p,q⟩:=ha
 obtain⟨t',p',q'⟩:=hb
 refine⟨_,pw_or p p',fun Oc Ob σ H ρ Q R h=>q Oc Ob σ H ρ _ R (Res.zS (Res.zX h) (fun b _ k H' s => ?_) fun _ z=>z)⟩
 cases b with
 | false=>exact iteF (q' Oc Ob σ H' ρ Q (R.same s) (Res.zS k (fun b _ k H2 s2=>k H2 (s.trans s2)) fun c z H2 s2=>z H2 (s.trans s2)))
 | true=>exact iteT (k H' s)
theorem RW.rt (h:RW C a ta'):RT C a ta':=by
 obtain⟨t,p,q⟩:=h
 exact⟨_,p.pt,q⟩
theorem xT3 {op} (h:RE C md a ma):RE C md (.BoolOp op [a] pos) ma:=by
 obtain⟨t,p,q⟩:=h
 exact⟨_,yB4 p,q⟩
def vAn (m n:Ev->Res D):Ev->Res D:=fun ρ=>(m ρ).bind fun d=>(Res.lft (isB d)).bind fun b=>if b then n ρ else .ok (.bool false)
def vO (m n:Ev->Res D):Ev->Res D:=fun ρ=>(m ρ).bind fun d=>(Res.lft (isB d)).bind fun b=>if b then .ok (.bool true) else n ρ
def vNt (m:Ev->Res D):Ev->Res D:=fun ρ=>(m ρ).bind fun d=>(Res.lft (isB d)).bind fun b=>.ok (.bool (!b))
theorem yA7 (ha:RE C mda a ma) (hb:RE C .cl (.BoolOp .And (b::rest) pos) mb):RE C .cl (.BoolOp .And (a::b::rest) pos) (vAn ma mb):=by
 obtain⟨t,p,q⟩:=ha
 obtain⟨t',p',q'⟩:=hb
 refine⟨_,xU7 p p',fun Oc Ob σ H ρ Q R h=>q Oc Ob σ H ρ _ R (Res.zS (Res.zX h) (fun d _ k v H' s r => ?_) fun _ z=>z)⟩
 obtain⟨b,e,k⟩:=Res.zE (Res.zX k)
 obtain rfl:=zU5 e
 refine⟨b,(r.va R.oh).bool,?_⟩
 cases b with
 | true=>exact iteT (q' Oc Ob σ H' ρ Q (R.same s) (Res.zS k (fun b _ k v H2 s2 r=>k v H2 (s.trans s2) r) fun c z H2 s2=>z H2 (s.trans s2)))
 | false=>exact iteF (k _ H' s (Rep.bl false))
def eIf (m:Ev->Res Bool) (n o:Ev->Res D):Ev->Res D:=fun ρ=>(m ρ).bind fun b=>if b then n ρ else o ρ
def e1 (f:D->Option D) (m:Ev->Res D):Ev->Res D:=fun ρ=>(m ρ).bind fun x=>Res.lft (f x)
def negD:D->Option D
 | .int i=>some (.int (-i))
 | _=>none
theorem yB3 (ha:RE C mda a ma):RE C .cl (.UnaryOp .USub a pos) (e1 negD ma):=by
 obtain⟨t,p,q⟩:=ha
 refine⟨_,xR3 xZ8 p,fun Oc Ob σ H ρ Q R h=>q Oc Ob σ H ρ _ R (Res.zS (Res.zX h) (fun d _ k v H' s r => ?_) fun _ z=>z)⟩
 obtain⟨d',e,k⟩:=Res.zE k
 cases d with
 | int i =>
  cases e
  exact⟨i,(r.va R.oh).int,k _ H' s (Rep.int _)⟩
 | _=>cases e
end
inductive VAs (Oc:Wd) (Ob:Addr->Prop) (H:Hp):List V->List D->Prop
 | nil:VAs Oc Ob H [] []
 | cons {v:V}{d:D}{vs:List V}{ds:List D}:VA Oc Ob H v d->VAs Oc Ob H vs ds->VAs Oc Ob H (v::vs) (d::ds)
section
variable {Oc:Wd}{Ob:Addr->Prop}{H H':Hp}
theorem VAs.rep:∀{vs:List V}{ds:List D},VAs Oc Ob H vs ds->Reps H (fun _=>False) vs ds
 | _,_,.nil=>.nil
 | _,_,.cons h t=>.cons h.rep (VAs.rep t)
theorem VA.same {v:V}{d:D}(h:VA Oc Ob H v d) (s:Same H H'):VA Oc Ob H' v d:=VR.same (md:=.any) (H:=H) h s
end
def VQ:Bool->Wd->(Addr->Prop)->Hp->List V->List D->Prop
 | true,Oc,Ob,H,vs,ds=>Reps H (Uni Oc Ob) vs ds
 | false,Oc,Ob,H,vs,ds=>VAs Oc Ob H vs ds
def RArg (C:Ct) (cl:Bool) (es:List Expr) (m:Ev->Res (List D)):Prop :=
 ∃t,PA C.X es t/\∀(Oc:Wd) (Ob:Addr->Prop) (σ:St) (H:Hp) (ρ:Ev) (Q:List V->Hp->Prop),Rel Oc Ob C.om C.ln σ H ρ ->
  (m ρ).post (fun ds=>∀vs H',Same H H'->VQ cl Oc Ob H' vs ds->Q vs H') (fun c=>∀H',Same H H'->C.XE c H')->t σ H Q
section
variable {C:Ct}{a b c e:Expr}{es:List Expr}{pos p:Pos}{md mda mdb mdc:Md}{ma mb mc:Ev->Res D}{ms:Ev->Res (List D)}{cl:Bool}
def aN:Ev->Res (List D):=fun _=>.ok []
def aC (m:Ev->Res D) (n:Ev->Res (List D)):Ev->Res (List D):=fun ρ=>(m ρ).bind fun x=>(n ρ).bind fun xs=>.ok (x::xs)
theorem zQ:RArg C cl [] aN:=⟨_,zO,fun Oc Ob σ H ρ Q R h=>h [] H (Same.refl H) (by cases cl;exact VAs.nil;exact Reps.nil)⟩
theorem zP (ha:RE C .cl e ma) (hr:RArg C true es ms) (hs:autoParam (starEach (e::es) C.X.env=(false,eval e C.X.env)::starEach es C.X.env) zZ._auto_1):RArg C true (e::es) (aC ma ms):=by
 obtain⟨t,p,q⟩:=ha
 obtain⟨t',p',q'⟩:=hr
 refine⟨_,zU p p' hs,fun Oc Ob σ H ρ Q R h=>q Oc Ob σ H ρ _ R (Res.zS (Res.zX h) (fun d _ k v H' s r => ?_) fun _ z=>z)⟩
 refine q' Oc Ob σ H' ρ _ (R.same s) (Res.zS (Res.zX k) (fun ds _ k vs H2 s2 r2 => ?_) fun c z H2 s2=>z H2 (s.trans s2))
 exact k _ H2 (s.trans s2) (Reps.cons (r.same s2) r2)
theorem zN (ha:RE C md e ma) (hr:RArg C false es ms) (hs:autoParam (starEach (e::es) C.X.env=(false,eval e C.X.env)::starEach es C.X.env) zZ._auto_1):RArg C false (e::es) (aC ma ms):=by
 obtain⟨t,p,q⟩:=ha
 obtain⟨t',p',q'⟩:=hr
 refine⟨_,zU p p' hs,fun Oc Ob σ H ρ Q R h=>q Oc Ob σ H ρ _ R (Res.zS (Res.zX h) (fun d _ k v H' s r => ?_) fun _ z=>z)⟩
 refine q' Oc Ob σ H' ρ _ (R.same s) (Res.zS (Res.zX k) (fun ds _ k vs H2 s2 r2 => ?_) fun c z H2 s2=>z H2 (s.trans s2))
 exact k _ H2 (s.trans s2) (VAs.cons ((r.va R.oh).same s2) r2)
def mkL (ds:List D):Option D:=if ds.length<=sizeLine then some (.list ds) else none
def mkT (ds:List D):Option D:=if ds.length<=sizeLine then some (.tuple ds) else none
def eB (f:List D->Option D) (m:Ev->Res (List D)):Ev->Res D:=fun ρ=>(m ρ).bind fun ds=>Res.lft (f ds)
theorem xY {Oc:Wd}{Ob:Addr->Prop}{H H1:Hp}{p:Addr}{vs:List V}{ds:List D}(s:Same H H1) (hp:H1 p=none) (r:Reps H1 (Uni Oc Ob) vs ds):VR .new Oc Ob H (upd H1 p (.lst vs)) (.ref p) (.list ds) :=
 ⟨p,vs,ds,rfl,rfl,s.free hp,zV,r.keep (fun b o e _=>by rw[zY (zF e hp)];exact e) fun b n z=>z.elim id fun z=>by subst z;exact absurd hp n⟩
theorem vF {Oc:Wd}{Ob:Addr->Prop}{H1:Hp}{p:Addr}{vs:List V}{ds:List D}(oh:∀a,Oc a\/Ob a->H1 a≠none) (hp:H1 p=none) (r:Reps H1 (Uni Oc Ob) vs ds):Rep (upd H1 p (.tup vs)) (Uni Oc Ob) (.ref p) (.tuple ds) :=
 .tup (.inl zV) (fun z=>oh p z hp) (r.same (Same.new hp))
theorem wX (h:RArg C true es ms):RE C .new (.List es pos) (eB mkL ms):=by
 obtain⟨t,p,q⟩:=h
 refine⟨_,xO p,fun Oc Ob σ H ρ Q R h=>q Oc Ob σ H ρ _ R (Res.zS (Res.zX h) (fun ds _ k vs H' s r => ?_) fun _ z=>z)⟩
 obtain⟨d,e,k⟩:=Res.zE k
 unfold mkL at e
 split at e
 ·rename_i hl
  cases e
  exact⟨by rw[Reps.length r];exact hl,fun p hp=>k _ _ (s.trans (Same.new hp)) (xY s hp r)⟩
 ·cases e
theorem cF {x1} (h:RArg C true es ms):RE C .cl (.Tuple es x1 pos) (eB mkT ms):=by
 obtain⟨t,p,q⟩:=h
 refine⟨_,jT p,fun Oc Ob σ H ρ Q R h=>q Oc Ob σ H ρ _ R (Res.zS (Res.zX h) (fun ds _ k vs H' s r => ?_) fun _ z=>z)⟩
 obtain⟨d,e,k⟩:=Res.zE k
 unfold mkT at e
 split at e
 ·rename_i hl
  cases e
  exact⟨by rw[Reps.length r];exact hl,fun p hp=>k _ _ (s.trans (Same.new hp)) (vF (R.same s).oh hp r)⟩
 ·cases e
def PrC (r:List V->Hp->VK->Prop) (md:Md) (f:List D->Option D):Prop :=
 ∀(Oc:Wd) (Ob:Addr->Prop) (H:Hp) (vs:List V) (ds:List D) (d:D) (Q:VK),(∀a,Oc a\/Ob a->H a≠none)->VAs Oc Ob H vs ds->f ds=some d->(∀v H',Same H H'->VR md Oc Ob H H' v d->Q v H')->r vs H Q
theorem aR {t:TA}{r:List V->Hp->VK->Prop}{f:List D->Option D}(q:∀(Oc:Wd) (Ob:Addr->Prop) (σ:St) (H:Hp) (ρ:Ev) (Q:List V->Hp->Prop),Rel Oc Ob C.om C.ln σ H ρ ->
  (ms ρ).post (fun ds=>∀vs H',Same H H'->VQ false Oc Ob H' vs ds->Q vs H') (fun c=>∀H',Same H H'->C.XE c H')->t σ H Q) (hp:PrC r md f)
  {Oc:Wd}{Ob:Addr->Prop}{σ:St}{H:Hp}{ρ:Ev}{Q:VK}(R:Rel Oc Ob C.om C.ln σ H ρ) (h:(eB f ms ρ).post (fun d=>∀v H',Same H H'->VR md Oc Ob H H' v d->Q v H') (fun c=>∀H',Same H H'->C.XE c H')):tCB r t σ H Q:=by
 refine q Oc Ob σ H ρ _ R (Res.zS (Res.zX h) (fun ds _ k vs H' s r => ?_) fun _ z=>z)
 obtain⟨d,e,k⟩:=Res.zE k
 exact hp Oc Ob H' vs ds d Q (R.same s).oh r e fun v H2 s2 r2=>k v H2 (s.trans s2) (r2.from s)
theorem zC {x:Str}{id:String}{r:List V->Hp->VK->Prop}{f:List D->Option D}(hc:CallR C.X (.builtin id) r) (hp:PrC r md f) (hm:C.X.mg x=none) (hv:bootBuiltins x=some (.builtin id)) (ha:RArg C false (e::es) ms) (hg:autoParam (Gl C.X x) zZ._auto_1) (hn:autoParam (x ≠ "__name__") zL._auto_1) (hdb:autoParam ((x == ("__debug__":Str))=false) zL._auto_1)
  (he:autoParam (starEach (e::es) C.X.env=(false,eval e C.X.env)::starEach es C.X.env) zZ._auto_1) (hpl:autoParam ((backTo pos (starEach es C.X.env)).any (·.1)=false) zZ._auto_1):RE C md (.Call (.Name x p) (e::es) [] pos) (eB f ms):=by
 obtain⟨t,pa,q⟩:=ha
 exact⟨_,jA hc hg hm hv pa hn hdb he hpl,fun Oc Ob σ H ρ Q R h=>aR q hp R h⟩
theorem uS {x:Str}{T:String}{r:List V->Hp->VK->Prop}{f:List D->Option D}(hc:CallR C.X (.type T) r) (hp:PrC r md f) (hm:C.X.mg x=none) (hv:bootBuiltins x=some (.type T)) (ha:RArg C false (e::es) ms) (hg:autoParam (Gl C.X x) zZ._auto_1) (hn:autoParam (x ≠ "__name__") zL._auto_1) (hdb:autoParam ((x == ("__debug__":Str))=false) zL._auto_1)
  (he:autoParam (starEach (e::es) C.X.env=(false,eval e C.X.env)::starEach es C.X.env) zZ._auto_1) (hpl:autoParam ((backTo pos (starEach es C.X.env)).any (·.1)=false) zZ._auto_1):RE C md (.Call (.Name x p) (e::es) [] pos) (eB f ms):=by
 obtain⟨t,pa,q⟩:=ha
 exact⟨_,yB hc hg hm hv pa hn hdb he hpl,fun Oc Ob σ H ρ Q R h=>aR q hp R h⟩
def Walks (Oc:Wd) (Ob:Addr->Prop) (J:It) (H1:Hp) (ds:List D):Prop :=
 ∀(H2:Hp) (Ob2:Addr->Prop),Frm Ob H1 H2->(∀b,Ob2 b->Ob b\/H1 b=none)->∀i,(∀d,ds[i]?=some d->J.go i H2/\∀x H3,J.yld i H2 x H3->Same H2 H3/\Rep H3 (Uni Oc Ob2) x d)/\(ds.length<=i->J.stop i H2)
def RI (C:Ct) (tg iter:Expr) (m:Ev->Res (List D)):Prop :=
 ∃wi,PI C.X tg iter wi/\∀(Oc:Wd) (Ob:Addr->Prop) (σ:St) (H:Hp) (ρ:Ev) (R:It->Hp->Prop),Rel Oc Ob C.om C.ln σ H ρ ->
  (m ρ).post (fun ds=>∀J H1,Same H H1->Walks Oc Ob J H1 ds->R J H1) (fun c=>∀H',Same H H'->C.XE c H')->wi σ H R
def iSeq (K:KFr) (tl:TE):TI:=fun σ H R=>tl σ H fun x H1=>∃a,x=.ref a/\(((∃xs,SqL K H1 a xs)/\R (Itl K a) H1)\/((∃xs,SqT K H1 a xs)/\R (Itt K a) H1))
theorem xZ6 {X:Cx}{tg l:Expr}{tl:TE}(hl:PE X l tl):PI X tg l (iSeq X.K tl):=by
 intro pins s σ H R I h
 refine thn (hl pins s σ H _ I h) fun v s1 ⟨x,H1,I1,r1,q1⟩ => ?_
 obtain⟨a,e,q1⟩:=q1
 subst e
 cases r1
 rcases q1 with ⟨⟨xs,hq⟩,q⟩ | ⟨⟨xs,hq⟩,q⟩
 ·obtain⟨its,rv,p,hz⟩:=I1.list hq
  refine wpAny_pyIter_list p.isList ?_
  refine⟨s1.heap.objs.size,[s1.heap.objs.size],_,_,H1,rfl,I1.kept (t':=s1.toks) fun b o e=>Heap.get?_push_of_some _ e,zZ5 a _,⟨_,Heap.get?_push_size _ rfl,rfl,rfl⟩,fun b hb => ?_,q⟩
  have e:b=s1.heap.objs.size:=by simpa using hb
  subst e
  exact I1.fpOk (Nat.le_refl _) (I1.hok.fresh (Nat.le_refl _))
 ·obtain⟨its,rv,p,hz⟩:=I1.tuple hq
  refine wpAny_pyIter_tuple (show s1.heap.IsTuple a its.toArray from p) ?_
  refine⟨s1.heap.objs.size,[s1.heap.objs.size],_,_,H1,rfl,I1.kept (t':=s1.toks) fun b o e=>Heap.get?_push_of_some _ e,zF6 a _,⟨_,Heap.get?_push_size _ rfl,rfl,rfl⟩,fun b hb => ?_,q⟩
  have e:b=s1.heap.objs.size:=by simpa using hb
  subst e
  exact I1.fpOk (Nat.le_refl _) (I1.hok.fresh (Nat.le_refl _))
def seqD:D->Option (List D)
 | .list ds=>some ds
 | .tuple ds=>some ds
 | _=>none
def iS (m:Ev->Res D):Ev->Res (List D):=fun ρ=>(m ρ).bind fun d=>Res.lft (seqD d)
theorem Reps.step {Oc:Wd}{Ob Ob2:Addr->Prop}{H1 H2:Hp}{vs:List V}{ds:List D}(r:Reps H1 (Uni Oc Ob) vs ds) (f:Frm Ob H1 H2) (s:∀b,Ob2 b->Ob b\/H1 b=none):Reps H2 (Uni Oc Ob2) vs ds :=
 r.keep (fun b o e n=>f b o e fun z=>n (.inr z)) fun b n z=>z.elim .inl fun z=>(s b z).elim .inr fun q=>absurd q n
end
theorem bX {K:KFr}{Oc:Wd}{Ob:Addr->Prop}{H1:Hp}{a:Addr}{ys:List V}{ds:List D}(r:Rd H1 a (.lst ys)) (n:¬Ob a) (rs:Reps H1 (Uni Oc Ob) ys ds):Walks Oc Ob (Itl K a) H1 ds:=by
 intro H2 Ob2 f s i
 have r2:Rd H2 a (.lst ys):=zA r fun o e=>f a o e n
 have rs2:=rs.step f s
 refine⟨fun d e => ?_,fun h=>⟨ys,.inl r2,by rw[rs2.length];exact h⟩⟩
 obtain⟨v,ev,rv⟩:=rs2.get e
 refine⟨⟨ys,v,.inl r2,ev⟩,fun x H3 hy => ?_⟩
 obtain⟨rfl,hy⟩:=hy
 have:=hy ys (.inl r2)
 rw[ev] at this
 cases this
 exact⟨Same.refl _,rv⟩
theorem zQ9 {K:KFr}{Oc:Wd}{Ob:Addr->Prop}{H1:Hp}{a:Addr}{ys:List V}{ds:List D}(r:Rd H1 a (.tup ys)) (n:¬Ob a) (rs:Reps H1 (Uni Oc Ob) ys ds):Walks Oc Ob (Itt K a) H1 ds:=by
 intro H2 Ob2 f s i
 have r2:Rd H2 a (.tup ys):=zA r fun o e=>f a o e n
 have rs2:=rs.step f s
 refine⟨fun d e => ?_,fun h=>⟨ys,.inl r2,by rw[rs2.length];exact h⟩⟩
 obtain⟨v,ev,rv⟩:=rs2.get e
 refine⟨⟨ys,v,.inl r2,ev⟩,fun x H3 hy => ?_⟩
 obtain⟨rfl,hy⟩:=hy
 have:=hy ys (.inl r2)
 rw[ev] at this
 cases this
 exact⟨Same.refl _,rv⟩
theorem zP1 {Oc:Wd}{Ob:Addr->Prop}{H1:Hp}{lo:Int}{n:Nat}{ds:List D}(e:ds=(List.range n).map fun (i:Nat)=>PyData.int (lo+(i:Int))):Walks Oc Ob (Itr lo n) H1 ds:=by
 intro H2 Ob2 f s i
 subst e
 refine⟨fun d e => ?_,fun h=>by show n<=i;simpa using h⟩
 rw[List.getElem?_map] at e
 by_cases hi:i<n
 ·rw[List.getElem?_range hi] at e
  cases e
  refine⟨hi,fun x H3 hy => ?_⟩
  obtain⟨rfl,rfl⟩:=hy
  exact⟨Same.refl _,.int _⟩
 ·rw[List.getElem?_eq_none (by simpa using hi)] at e
  cases e
section
variable {C:Ct}{a b c e:Expr}{es:List Expr}{pos p:Pos}{md mda mdb mdc:Md}{ma mb mc:Ev->Res D}{ms:Ev->Res (List D)}{cl:Bool}{tg:Expr}
theorem qQ (h:RE C .rd e ma):RI C tg e (iS ma):=by
 obtain⟨t,p,q⟩:=h
 refine⟨_,xZ6 p,fun Oc Ob σ H ρ W R h=>q Oc Ob σ H ρ _ R (Res.zS (Res.zX h) (fun d _ k v H' s r => ?_) fun _ z=>z)⟩
 obtain⟨ds,e,k⟩:=Res.zE k
 rcases r with r | ⟨a,ys,ds',rfl,rfl,e3,e4,e5⟩
 ·cases r with
  | lst r n t=>cases e;exact⟨_,rfl,.inl ⟨⟨_,.inl r⟩,k _ H' s (bX r (fun z=>n (.inr z)) t)⟩⟩
  | tup r n t=>cases e;exact⟨_,rfl,.inr ⟨⟨_,.inl r⟩,k _ H' s (zQ9 r (fun z=>n (.inr z)) t)⟩⟩
  | _=>cases e
 ·cases e
  exact⟨_,rfl,.inl ⟨⟨_,SqL.of e3⟩,k _ H' s (bX (.inl e3) e4 e5)⟩⟩
def rng1:List D->Option (List D)
 | [.int j]=>if -(2 ^ 62)<=j/\j<2 ^ 62 then some ((List.range j.toNat).map fun (i:Nat)=>PyData.int (i:Int)) else none
 | _=>none
def iR (f:List D->Option (List D)) (m:Ev->Res (List D)):Ev->Res (List D):=fun ρ=>(m ρ).bind fun ds=>Res.lft (f ds)
theorem VAs.one {Oc:Wd}{Ob:Addr->Prop}{H:Hp}{vs:List V}{d:D}(h:VAs Oc Ob H vs [d]):∃v,vs=[v]/\VA Oc Ob H v d:=by
 cases h with
 | cons a t=>cases t;exact⟨_,rfl,a⟩
theorem wA (hm:C.X.mg "range" = none) (ha:RArg C false [a] ms) (hg:autoParam (Gl C.X "range") zZ._auto_1) (hs:autoParam (starEach [a] C.X.env=[(false,eval a C.X.env)]) zZ._auto_1):RI C tg (.Call (.Name "range" p) [a] [] pos) (iR rng1 ms):=by
 obtain⟨t,pa,q⟩:=ha
 refine⟨_,wC hg hm pa hs,fun Oc Ob σ H ρ W R h=>q Oc Ob σ H ρ _ R (Res.zS (Res.zX h) (fun ds _ k vs H' s r => ?_) fun _ z=>z)⟩
 obtain⟨xs,e,k⟩:=Res.zE k
 unfold rng1 at e
 split at e
 ·split at e
  ·rename_i hb
   cases e
   obtain⟨v,rfl,va⟩:=VAs.one r
   obtain rfl:=va.int
   exact⟨_,rfl,hb.1,hb.2,k _ H' s (zP1 (by simp))⟩
  ·cases e
 ·cases e
end
def cEnv (ρ:Ev) (js:List Nat) (x:D):Ev:=some x::js.map fun j=>(ρ[j]?).join
def capt (js l:List Nat):List Nat:=((List.range js.length).filter fun i=>l.contains (js.getD i 0)).map (·+1)
def noEx {α:Type}:Res α->Res α
 | .ok a=>.ok a
 | _=>.no
theorem fM {α:Type}{r:Res α}{a:α}(h:noEx r=.ok a):r=.ok a:=by
 cases r with
 | ok b=>exact h
 | ex c=>cases h
 | no=>cases h
def compM (t:D->Res Bool) (f:D->Res D):List D->Res (List D)
 | []=>.ok []
 | x::xs=>(noEx (t x)).bind fun b=>if b then (noEx (f x)).bind fun y=>(compM t f xs).bind fun ys=>.ok (y::ys) else compM t f xs
def eComp (mi:Ev->Res (List D)) (mt:Ev->Res Bool) (me:Ev->Res D) (js:List Nat):Ev->Res D:=fun ρ=>(mi ρ).bind fun ds=>if ds.length<=sizeLine then (compM (fun x=>mt (cEnv ρ js x)) (fun x=>me (cEnv ρ js x)) ds).bind fun out=>.ok (.list out) else .no
theorem yO9 {js l:List Nat}{i:Nat}(h:i∈capt js l):∃k,i=k+1/\k<js.length/\js.getD k 0∈l:=by
 unfold capt at h
 obtain⟨k,hk,rfl⟩:=List.mem_map.mp h
 obtain⟨h1,h2⟩:=List.mem_filter.mp hk
 exact⟨k,rfl,List.mem_range.mp h1,List.contains_iff_mem.mp h2⟩
theorem zQ6 {js l:List Nat}{k j:Nat}(h:js[k]?=some j) (hl:j∈l):k+1∈capt js l:=by
 unfold capt
 refine List.mem_map.mpr ⟨k,List.mem_filter.mpr ⟨List.mem_range.mpr ?_,?_⟩,rfl⟩
 ·exact (List.getElem?_eq_some_iff.mp h).1
 ·rw[List.getD_eq_getElem?_getD,h]
  exact List.contains_iff_mem.mpr hl
theorem aH {ρ:Ev}{js:List Nat}{x d:D}{k:Nat}(h:(cEnv ρ js x)[k+1]?=some (some d)):∃j,js[k]?=some j/\ρ[j]?=some (some d):=by
 unfold cEnv at h
 rw[List.getElem?_cons_succ,List.getElem?_map] at h
 cases e:js[k]? with
 | none=>rw[e] at h;cases h
 | some j =>
  rw[e] at h
  refine⟨j,rfl,?_⟩
  have h:(ρ[j]?).join=some d:=Option.some.inj h
  cases q:ρ[j]? with
  | none=>rw[q] at h;cases h
  | some z=>rw[q] at h;rw[show z=some d from h]
theorem wT {σ:St}{js:List Nat}{v0:Option V}{v:V}{k j:Nat}(h:js[k]?=some j) (e:σ[j]?=some (some v)):(compSt σ js v0)[k+1]?=some (some v):=by
 unfold compSt
 rw[List.getElem?_cons_succ,List.getElem?_map,h]
 show some ((σ[j]?).join)=_
 rw[e]
 rfl
def adr:Option (Option V)->Addr
 | some (some (.ref a))=>a
 | _=>0
def cW (Oc:Wd) (Ob:Addr->Prop) (σ:St) (js:List Nat):Wd:=⟨Uni Oc Ob,fun i=>adr ((compSt σ js none)[i]?)⟩
theorem Rel.comp {Oc:Wd}{Ob:Addr->Prop}{om ln:List Nat}{σ:St}{H:Hp}{ρ:Ev}{js:List Nat}{x:V}{d:D}(R:Rel Oc Ob om ln σ H ρ) (r:Rep H (Uni Oc Ob) x d):Rel (cW Oc Ob σ js) (fun _=>False) [] (capt js (om++ln)) (compSt σ js (some x)) H (cEnv ρ js d) where
 len:=by unfold compSt cEnv;simp
 val:=fun i d' e _ hl=>by
  cases i with
  | zero =>
   cases e
   exact⟨x,rfl,r.less fun b z=>z.elim id fun z=>z.elim⟩
  | succ k =>
   obtain⟨j,e1,e2⟩:=aH e
   have h1:j∉om:=fun z=>hl (zQ6 e1 (List.mem_append_left _ z))
   have h2:j∉ln:=fun z=>hl (zQ6 e1 (List.mem_append_right _ z))
   obtain⟨v,q,rv⟩:=R.val j d' e2 h1 h2
   exact⟨v,wT e1 q,rv.less fun b z=>z.elim id fun z=>z.elim⟩
 own:=fun i d' e h=>nomatch h
 lnt:=fun i d' e _ hl=>by
  obtain⟨k,rfl,hk,hj⟩:=yO9 hl
  obtain⟨j,e1,e2⟩:=aH e
  rw[List.getD_eq_getElem?_getD,e1,Option.getD_some] at hj
  by_cases ho:j∈om
  ·obtain⟨v,q,a,ys,ds,z1,z2,z3,z4,z5⟩:=R.own j d' e2 ho
   have ea:(cW Oc Ob σ js).la (k+1)=a:=by show adr _=a;rw[wT e1 q,z1];rfl
   exact⟨v,wT e1 q,ys,ds,by rw[ea];exact z1,z2,by rw[ea];exact z3,by rw[ea];exact .inr z4,z5.less fun b z=>z.elim id fun z=>z.elim⟩
  ·have hl2:j∈ln:=(List.mem_append.mp hj).elim (fun z=>absurd z ho) id
   obtain⟨v,q,ys,ds,z1,z2,z3,z4,z5⟩:=R.lnt j d' e2 ho hl2
   have ea:(cW Oc Ob σ js).la (k+1)=Oc.la j:=by show adr _=_;rw[wT e1 q,z1];rfl
   exact⟨v,wT e1 q,ys,ds,by rw[ea];exact z1,z2,by rw[ea];exact z3,by rw[ea];exact .inl z4,z5.less fun b z=>z.elim id fun z=>z.elim⟩
 inj:=fun i j di dj a _ _ h=>nomatch h
 oh:=fun a z=>R.oh a (z.elim id fun z=>z.elim)
 ap:=fun a z=>z.elim
abbrev cC (C:Ct) (N:List Str) (scope:Scope) (A:Addr) (fp:List Addr) (s₂:Shared) (H:Hp) (js:List Nat):Ct:=⟨cxComp C.X N scope A fp s₂ H,fun _ _=>False,[],capt js (C.om++C.ln)⟩
def RTs (C:Ct) (ifs:List Expr) (m:Ev->Res Bool):Prop:=∃t,PTs C.X ifs t/\∀(Oc:Wd) (Ob:Addr->Prop) (σ:St) (H:Hp) (ρ:Ev) (Q:Bool->Hp->Prop),Rel Oc Ob C.om C.ln σ H ρ ->
  (m ρ).post (fun b=>∀H',Same H H'->Q b H') (fun c=>∀H',Same H H'->C.XE c H')->t σ H Q
def tYes:Ev->Res Bool:=fun _=>.ok true
theorem qS {C:Ct}:RTs C [] tYes:=⟨_,.nil,fun Oc Ob σ H ρ Q R h=>h H (Same.refl H)⟩
def WalksS (Oc:Wd) (Ob:Addr->Prop) (J:It) (H1:Hp) (ds:List D):Prop :=
 ∀(H2:Hp),Same H1 H2->∀i,(∀d,ds[i]?=some d->J.go i H2/\∀x H3,J.yld i H2 x H3->Same H2 H3/\Rep H3 (Uni Oc Ob) x d)/\(ds.length<=i->J.stop i H2)
def RIc (C:Ct) (tg iter:Expr) (m:Ev->Res (List D)):Prop :=
 ∃wi,PI C.X tg iter wi/\∀(Oc:Wd) (Ob:Addr->Prop) (σ:St) (H:Hp) (ρ:Ev) (R:It->Hp->Prop),Rel Oc Ob C.om C.ln σ H ρ ->
  (m ρ).post (fun ds=>∀J H1,Same H H1->WalksS Oc Ob J H1 ds->R J H1) (fun c=>∀H',Same H H'->C.XE c H')->wi σ H R
theorem RI.c {C:Ct}{tg iter:Expr}{m:Ev->Res (List D)}(h:RI C tg iter m):RIc C tg iter m:=by
 obtain⟨wi,p,q⟩:=h
 exact⟨wi,p,fun Oc Ob σ H ρ W R h=>q Oc Ob σ H ρ W R (Res.zS h (fun ds _ k J H1 s w=>k J H1 s fun H2 s2=>w H2 Ob (Same.frm s2) fun b z=>.inl z) fun _ z=>z)⟩
theorem aG {C:Ct}{elt:Expr}{ifs:List Expr}{scope:Scope}{N:List Str}{js:List Nat}{mi:Ev->Res (List D)}{mt:Ev->Res Bool}{me:Ev->Res D}{wi:TI}
  (qi:∀(Oc:Wd) (Ob:Addr->Prop) (σ:St) (H:Hp) (ρ:Ev) (R:It->Hp->Prop),Rel Oc Ob C.om C.ln σ H ρ->(mi ρ).post (fun ds=>∀J H1,Same H H1->WalksS Oc Ob J H1 ds->R J H1) (fun c=>∀H',Same H H'->C.XE c H')->wi σ H R)
  (ht:∀A fp s₂ H,RTs (cC C N scope A fp s₂ H js) ifs mt) (he:∀A fp s₂ H,RE (cC C N scope A fp s₂ H js) .cl elt me)
  {Oc:Wd}{Ob:Addr->Prop}{σ:St}{H:Hp}{ρ:Ev}{Q:VK}(R:Rel Oc Ob C.om C.ln σ H ρ) (h:(eComp mi mt me js ρ).post (fun d=>∀v H',Same H H'->VR .new Oc Ob H H' v d->Q v H') (fun c=>∀H',Same H H'->C.XE c H')) :
  tComp wi (fun A fp s H=>Classical.choose (ht A fp s H)) (fun A fp s H=>Classical.choose (he A fp s H)) js σ H Q:=by
 refine qi Oc Ob σ H ρ _ R (Res.zS (Res.zX h) (fun ds _ k J H1 s1 wk => ?_) fun _ z=>z)
 intro A fp s₂ H₂
 have qt:=(Classical.choose_spec (ht A fp s₂ H₂)).2
 have qe:=(Classical.choose_spec (he A fp s₂ H₂)).2
 have k:(if ds.length<=sizeLine then (compM (fun x=>mt (cEnv ρ js x)) (fun x=>me (cEnv ρ js x)) ds).bind fun out=>Res.ok (PyData.list out) else .no).post (fun d=>∀v H',Same H H'->VR .new Oc Ob H H' v d->Q v H') (fun c=>∀H',Same H H'->C.XE c H'):=k
 by_cases hlen:ds.length<=sizeLine
 ·rw[if_pos hlen] at k
  generalize hT:(fun x=>mt (cEnv ρ js x))=T at k
  generalize hF:(fun x=>me (cEnv ρ js x))=F at k
  cases ec:compM T F ds with
  | no=>rw[ec] at k;exact k.elim
  | ex c =>
   exfalso
   have nex:∀xs c,compM T F xs ≠ .ex c:=by
    intro xs
    induction xs with
    | nil=>intro c z;cases z
    | cons x xs ih =>
     intro c z
     rw[compM] at z
     cases e1:noEx (T x) with
     | no=>rw[e1] at z;cases z
     | ex c'=>cases hx:T x <;> rw[hx] at e1 <;> cases e1
     | ok b =>
      rw[e1,Res.bind_ok] at z
      cases b with
      | false=>exact ih c z
      | true =>
       simp only[if_true] at z
       cases e2:noEx (F x) with
       | no=>rw[e2] at z;cases z
       | ex c'=>cases hx:F x <;> rw[hx] at e2 <;> cases e2
       | ok y =>
        rw[e2,Res.bind_ok] at z
        cases e3:compM T F xs with
        | no=>rw[e3] at z;cases z
        | ex c'=>exact ih c' e3
        | ok ys=>rw[e3] at z;cases z
   exact nex ds c ec
  | ok out =>
   rw[ec,Res.bind_ok] at k
   refine⟨fun i m acc H=>m=ds.length-i/\i<=ds.length/\Same H1 H/\∃done rest,Reps H (Uni Oc Ob) acc done/\acc.length<=i/\compM T F (ds.drop i)=.ok rest/\done++rest=out,⟨_,rfl,Nat.zero_le _,Same.refl _,[],out,.nil,Nat.le_refl _,ec,rfl⟩,?_⟩
   rintro i m acc H2 ⟨rfl,hi,s2,done,rest,ra,la,er,eo⟩
   obtain⟨w1,w2⟩:=wk H2 s2 i
   have R2:=(R.same s1).same s2
   by_cases hlt:i<ds.length
   ·obtain⟨go,yl⟩:=w1 ds[i] (List.getElem?_eq_getElem hlt)
    have ed:ds.drop i=ds[i]::ds.drop (i+1):=List.drop_eq_getElem_cons hlt
    rw[ed,compM] at er
    have nxt:∀(acc':List V) (H3:Hp) (done' rest':List D),Same H2 H3->Reps H3 (Uni Oc Ob) acc' done'->acc'.length<=i+1->compM T F (ds.drop (i+1))=.ok rest'->done'++rest'=out ->
      ∃m',m'<ds.length-i/\(m'=ds.length-(i+1)/\i+1<=ds.length/\Same H1 H3/\∃done rest,Reps H3 (Uni Oc Ob) acc' done/\acc'.length<=i+1/\compM T F (ds.drop (i+1))=.ok rest/\done++rest=out) :=
     fun acc' H3 done' rest' s3 r3 l3 c3 o3=>⟨_,by bv_omega,rfl,hlt,s2.trans s3,done',rest',r3,l3,c3,o3⟩
    refine .inr ⟨go,fun acc' H'=>∃m',m'<ds.length-i/\(m'=ds.length-(i+1)/\i+1<=ds.length/\Same H1 H'/\∃done rest,Reps H' (Uni Oc Ob) acc' done/\acc'.length<=i+1/\compM T F (ds.drop (i+1))=.ok rest/\done++rest=out),fun acc' H' z=>z,fun x H3 hy => ?_⟩
    obtain⟨s3,rx⟩:=yl x H3 hy
    have R3:=(R2.same s3).comp (js:=js) rx
    cases e1:noEx (T ds[i]) with
    | no=>rw[e1] at er;cases er
    | ex c=>rw[e1] at er;cases er
    | ok b =>
     rw[e1,Res.bind_ok] at er
     have t1:mt (cEnv ρ js ds[i])=.ok b:=by
      have t1:=fM e1
      rw[<-hT] at t1
      exact t1
     refine qt _ _ _ H3 _ _ R3 ?_
     show (mt (cEnv ρ js ds[i])).post _ _
     rw[t1]
     intro H4 s4
     cases b with
     | false=>exact iteF (nxt acc H4 done rest (s3.trans s4) (ra.same (s3.trans s4)) (by bv_omega) er eo)
     | true =>
      refine iteT ?_
      simp only[if_true] at er
      cases e2:noEx (F ds[i]) with
      | no=>rw[e2] at er;cases er
      | ex c=>rw[e2] at er;cases er
      | ok y =>
       rw[e2,Res.bind_ok] at er
       have t2:me (cEnv ρ js ds[i])=.ok y:=by
        have t2:=fM e2
        rw[<-hF] at t2
        exact t2
       refine qe _ _ _ H4 _ _ (R3.same s4) ?_
       show (me (cEnv ρ js ds[i])).post _ _
       rw[t2]
       intro v H5 s5 rv
       refine⟨by bv_omega,?_⟩
       obtain⟨ys,e3⟩:∃ys,compM T F (ds.drop (i+1))=.ok ys:=by
        cases e3:compM T F (ds.drop (i+1)) with
        | no=>rw[e3] at er;cases er
        | ex c=>rw[e3] at er;cases er
        | ok ys=>exact⟨ys,rfl⟩
       rw[e3,Res.bind_ok] at er
       cases er
       have rv':Rep H5 (Uni Oc Ob) v y:=Rep.less rv fun b z=>.inl z
       refine nxt (acc ++ [v]) H5 (done ++ [y]) ys ((s3.trans s4).trans s5) ((ra.same ((s3.trans s4).trans s5)).append (.one rv')) (by rw[List.length_append,List.length_singleton];bv_omega) e3 ?_
       rw[List.append_assoc]
       exact eo
   ·have ei:i=ds.length:=by bv_omega
    subst ei
    refine .inl ⟨w2 (Nat.le_refl _),fun p hp => ?_⟩
    rw[List.drop_length] at er
    cases er
    rw[List.append_nil] at eo
    subst eo
    exact k _ _ ((s1.trans s2).trans (Same.new hp)) (xY (s1.trans s2) hp ra)
 ·rw[if_neg hlen] at k
  exact k.elim
theorem fN {C:Ct}{elt iter:Expr}{ifs:List Expr}{sc0 scope:Scope}{N0:List Str}{px pos:Pos}{xt:Str}{fs:List Str}{js:List Nat}{mi:Ev->Res (List D)}{mt:Ev->Res Bool}{me:Ev->Res D}(S:CompScope sc0 scope N0 xt fs js) (h0:C.X.env.scope=sc0) (hN0:C.X.N=N0) (hc:C.X.calm=true)
  (hi:RIc C (.Name xt px) iter mi) (ht:∀A fp s₂ H,RTs (cC C (xt::fs) scope A fp s₂ H js) ifs mt) (he:∀A fp s₂ H,RE (cC C (xt::fs) scope A fp s₂ H js) .cl elt me)
  (hs:autoParam (∀x,foldedSetIterable iter C.X.env x=pure x) xB._auto_1) :
  RE C .new (.ListComp elt [⟨.Name xt px,iter,ifs,0⟩] scope pos) (eComp mi mt me js):=by
 obtain⟨wi,pi,qi⟩:=hi
 refine⟨_,bR (tt:=fun A fp s H=>Classical.choose (ht A fp s H)) (te:=fun A fp s H=>Classical.choose (he A fp s H)) S h0 hN0 hc pi (fun A fp s H=>(Classical.choose_spec (ht A fp s H)).1) (fun A fp s H=>(Classical.choose_spec (he A fp s H)).1) hs,fun Oc Ob σ H ρ Q R h=>aG qi ht he R h⟩
section
variable {C:Ct}{fr:Bool}{e c:Expr}{pos:Pos}{md:Md}{me:Ev->Res D}{mt:Ev->Res Bool}{st:Stmt}{sts rest:List Stmt}{m n:Ev->Res Out}
def sN:Ev->Res Out:=fun ρ=>.ok (.nx ρ)
def sQ (m n:Ev->Res Out):Ev->Res Out:=fun ρ=>(m ρ).bind fun o=>match o with
 | .nx ρ'=>n ρ'
 | .rt d=>.ok (.rt d)
theorem yD:RSs C fr [] sN:=⟨_,qT,fun Oc Ob σ H ρ E R h=>h σ H Ob R (Same.frm (Same.refl H)) fun b z=>.inl z⟩
theorem zK (h:RS C fr st m):RSs C fr [st] m:=by
 obtain⟨t,p,q⟩:=h
 exact⟨_,yW p,q⟩
theorem zM (h:RS C fr st m) (hr:RSs C fr rest n):RSs C fr (st::rest) (sQ m n):=by
 obtain⟨t,p,q⟩:=h
 obtain⟨t',p',q'⟩:=hr
 refine⟨_,zH p p',fun Oc Ob σ H ρ E R h=>q Oc Ob σ H ρ _ R (Res.zS (Res.zX h) (fun o _ k => ?_) fun _ z=>z)⟩
 cases o with
 | rt d=>exact k
 | nx ρ'=>exact fun σ' H' Ob' R' f s=>q' Oc Ob' σ' H' ρ' E R' (SPost.step f s k)
def sX:Ev->Res Out:=fun _=>.no
theorem wM:RS C fr st sX:=⟨_,yR1,fun Oc Ob σ H ρ E R h=>h.elim⟩
def sIf (t:Ev->Res Bool) (m n:Ev->Res Out):Ev->Res Out:=fun ρ=>(t ρ).bind fun b=>if b then m ρ else n ρ
theorem wO {x y:List Stmt}(hc:RT C c mt) (hx:RSs C fr x m) (hy:RSs C fr y n):RS C fr (.If c x y pos) (sIf mt m n):=by
 obtain⟨t,p,q⟩:=hc
 obtain⟨t1,p1,q1⟩:=hx
 obtain⟨t2,p2,q2⟩:=hy
 refine⟨_,kN p p1 p2,fun Oc Ob σ H ρ E R h=>q Oc Ob σ H ρ _ R (Res.zS (Res.zX h) (fun b _ k H' s => ?_) fun c z H' s=>z H' (Same.frm s))⟩
 cases b with
 | true=>exact iteT (q1 Oc Ob σ H' ρ E (R.same s) (SPost.same s k))
 | false=>exact iteF (q2 Oc Ob σ H' ρ E (R.same s) (SPost.same s k))
def sR (m:Ev->Res D):Ev->Res Out:=fun ρ=>(m ρ).bind fun d=>.ok (.rt d)
theorem yK (he:RE C .cl e me):RS C false (.Return (some e) pos) (sR me):=by
 obtain⟨t,p,q⟩:=he
 refine⟨_,wS p,fun Oc Ob σ H ρ E R h=>q Oc Ob σ H ρ _ R (Res.zS (Res.zX h) (fun d _ k v H' s r => ?_) fun c z H' s=>z H' (Same.frm s))⟩
 exact k v H' (Same.frm s) (Rep.less r fun b z=>.inl z)
theorem zN8 (he:RE C .new e me):RS C true (.Return (some e) pos) (sR me):=by
 obtain⟨t,p,q⟩:=he
 refine⟨_,wS p,fun Oc Ob σ H ρ E R h=>q Oc Ob σ H ρ _ R (Res.zS (Res.zX h) (fun d _ k v H' s r => ?_) fun c z H' s=>z H' (Same.frm s))⟩
 obtain⟨a,ys,ds,e1,e2,e3,e4,e5⟩:=r
 exact k v H' (Same.frm s) ⟨a,ys,ds,e1,e2,.inl e3,fun z=>R.oh a (.inl z) e3,e4,e5.less fun b z=>z.elim (fun z=>.inl (.inl z)) .inr⟩
theorem zI {α:Type}{l:List (Option α)}{i j:Nat}{v d:α}(h:(l.set i (some v))[j]?=some (some d)):(j=i/\d=v)\/(j≠i/\l[j]?=some (some d)):=by
 by_cases e:i=j
 ·subst e
  rw[List.getElem?_set_self'] at h
  cases q:l[i]? with
  | none=>rw[q] at h;cases h
  | some z=>rw[q] at h;cases h;exact .inl ⟨rfl,rfl⟩
 ·rw[List.getElem?_set_ne e] at h
  exact .inr ⟨fun z=>e z.symm,h⟩
theorem uJ {α:Type}{l:List (Option α)}{i j:Nat}{v d:α}(h:(l.set i (some v))[j]?=some (some d)):j<l.length:=by
 have:=(List.getElem?_eq_some_iff.mp h).1
 simpa using this
theorem Rel.set {Oc:Wd}{Ob:Addr->Prop}{om ln:List Nat}{σ:St}{H:Hp}{ρ:Ev}{i:Nat}{v:V}{d:D}(R:Rel Oc Ob om ln σ H ρ) (ho:i∉om) (hl:i∉ln) (r:Rep H (Uni Oc Ob) v d):Rel Oc Ob om ln (σ.set i (some v)) H (ρ.set i (some d)) where
 len:=by rw[List.length_set,List.length_set];exact R.len
 val:=fun j d' e h1 h2=>by
  have hj:=uJ e
  rcases zI e with ⟨rfl,rfl⟩ | ⟨ne,e⟩
  ·exact⟨v,by rw[List.getElem?_set_self (by rw[R.len];exact hj)],r⟩
  ·obtain⟨w,q,k⟩:=R.val j d' e h1 h2
   exact⟨w,by rw[List.getElem?_set_ne (fun z=>ne z.symm)];exact q,k⟩
 own:=fun j d' e h1=>by
  rcases zI e with ⟨rfl,rfl⟩ | ⟨ne,e⟩
  ·exact absurd h1 ho
  ·obtain⟨w,q,k⟩:=R.own j d' e h1
   exact⟨w,by rw[List.getElem?_set_ne (fun z=>ne z.symm)];exact q,k⟩
 lnt:=fun j d' e h1 h2=>by
  rcases zI e with ⟨rfl,rfl⟩ | ⟨ne,e⟩
  ·exact absurd h2 hl
  ·obtain⟨w,q,k⟩:=R.lnt j d' e h1 h2
   exact⟨w,by rw[List.getElem?_set_ne (fun z=>ne z.symm)];exact q,k⟩
 inj:=fun j k dj dk a ej ek hj hk qj qk=>by
  rcases zI ej with ⟨rfl,rfl⟩ | ⟨nj,ej⟩
  ·exact absurd hj ho
  ·rcases zI ek with ⟨rfl,rfl⟩ | ⟨nk,ek⟩
   ·exact absurd hk ho
   ·rw[List.getElem?_set_ne (fun z=>nj z.symm)] at qj
    rw[List.getElem?_set_ne (fun z=>nk z.symm)] at qk
    exact R.inj j k dj dk a ej ek hj hk qj qk
 oh:=R.oh
 ap:=R.ap
theorem Rel.setO {Oc:Wd}{Ob:Addr->Prop}{om ln:List Nat}{σ:St}{H H':Hp}{ρ:Ev}{i:Nat}{v:V}{d:D}(R:Rel Oc Ob om ln σ H ρ) (s:Same H H') (ho:i∈om) (r:VR .new Oc Ob H H' v d):∃a,H a=none/\Rel Oc (fun b=>Ob b\/b=a) om ln (σ.set i (some v)) H' (ρ.set i (some d)):=by
 obtain⟨a,ys,ds,rfl,rfl,e3,e4,e5⟩:=r
 have up:∀{vs:List V}{es:List D},Reps H (Uni Oc Ob) vs es->Reps H' (Uni Oc fun b=>Ob b\/b=a) vs es:=fun r=>r.keep (fun b o e _=>s b o e) fun b n z=>z.elim .inl fun z=>z.elim .inr fun z=>by subst z;exact absurd e3 n
 have up1:∀{v:V}{e:D},Rep H (Uni Oc Ob) v e->Rep H' (Uni Oc fun b=>Ob b\/b=a) v e:=fun r=>r.keep (fun b o e _=>s b o e) fun b n z=>z.elim .inl fun z=>z.elim .inr fun z=>by subst z;exact absurd e3 n
 refine⟨a,e3,?_,fun j d' e h1 h2 => ?_,fun j d' e h1 => ?_,fun j d' e h1 h2 => ?_,fun j k dj dk b ej ek hj hk qj qk => ?_,fun b z => ?_,fun b z => ?_⟩
 ·rw[List.length_set,List.length_set];exact R.len
 ·rcases zI e with ⟨rfl,rfl⟩ | ⟨ne,e⟩
  ·exact absurd ho h1
  ·obtain⟨w,q,k⟩:=R.val j d' e h1 h2
   exact⟨w,by rw[List.getElem?_set_ne (fun z=>ne z.symm)];exact q,up1 k⟩
 ·have hj:=uJ e
  rcases zI e with ⟨rfl,rfl⟩ | ⟨ne,e⟩
  ·refine⟨.ref a,by rw[List.getElem?_set_self (by rw[R.len];exact hj)],a,ys,ds,rfl,rfl,e4,.inr rfl,e5.less fun b z=>z.elim (fun z=>.inl (.inl z)) fun z=>z.elim (fun z=>.inl (.inr z)) .inr⟩
  ·obtain⟨w,q,b,zs,fs,z1,z2,z3,z4,z5⟩:=R.own j d' e h1
   exact⟨w,by rw[List.getElem?_set_ne (fun z=>ne z.symm)];exact q,b,zs,fs,z1,z2,s _ _ z3,.inl z4,up z5⟩
 ·rcases zI e with ⟨rfl,rfl⟩ | ⟨ne,e⟩
  ·exact absurd ho h1
  ·obtain⟨w,q,zs,fs,z1,z2,z3,z4,z5⟩:=R.lnt j d' e h1 h2
   exact⟨w,by rw[List.getElem?_set_ne (fun z=>ne z.symm)];exact q,zs,fs,z1,z2,s _ _ z3,z4,up z5⟩
 ·have lj:=uJ ej
  have lk:=uJ ek
  rcases zI ej with ⟨rfl,rfl⟩ | ⟨nj,ej'⟩
  ·rw[List.getElem?_set_self (by rw[R.len];exact lj)] at qj
   cases qj
   rcases zI ek with ⟨rfl,rfl⟩ | ⟨nk,ek'⟩
   ·rfl
   ·rw[List.getElem?_set_ne (fun z=>nk z.symm)] at qk
    obtain⟨w,q,b,zs,fs,z1,z2,z3,z4,z5⟩:=R.own k dk ek' hk
    rw[qk] at q
    cases q
    cases z1
    rw[e3] at z3
    cases z3
  ·rw[List.getElem?_set_ne (fun z=>nj z.symm)] at qj
   rcases zI ek with ⟨rfl,rfl⟩ | ⟨nk,ek'⟩
   ·rw[List.getElem?_set_self (by rw[R.len];exact lk)] at qk
    cases qk
    obtain⟨w,q,b,zs,fs,z1,z2,z3,z4,z5⟩:=R.own j dj ej' hj
    rw[qj] at q
    cases q
    cases z1
    rw[e3] at z3
    cases z3
   ·rw[List.getElem?_set_ne (fun z=>nk z.symm)] at qk
    exact R.inj j k dj dk b ej' ek' hj hk qj qk
 ·rcases z with z | z | rfl
  ·exact Same.ne s (R.oh b (.inl z))
  ·exact Same.ne s (R.oh b (.inr z))
  ·rw[e4];exact fun z=>nomatch z
 ·rcases z with z | rfl
  ·exact R.ap b z
  ·exact fun z=>R.oh b (.inl z) e3
def sS (i:Nat) (m:Ev->Res D):Ev->Res Out:=fun ρ=>(m ρ).bind fun d=>.ok (.nx (ρ.set i (some d)))
theorem qF (i:Nat){x:Str}{p':Pos}(nd:C.X.N.Nodup) (he:RE C .cl e me) (hi:autoParam (C.X.N[i]?=some x) zZ._auto_1) (ho:autoParam (C.om.contains i=false) zZ._auto_1) (hl:autoParam (C.ln.contains i=false) zZ._auto_1) (hx:autoParam (Loc C.X.env.scope x) autoK12._auto_1)
  (hs:autoParam (swapsWith e (some (.Name x p')) pos.line C.X.env=pure false) zZ._auto_1) (hf:autoParam (C.X.fn x=true\/C.X.env.scope.names.lookup x=some .local) autoK13._auto_1):RS C fr (.Assign [.Name x p'] e pos) (sS i me):=by
 obtain⟨t,p,q⟩:=he
 refine⟨_,yZ nd hi hx p hs hf,fun Oc Ob σ H ρ E R h=>q Oc Ob σ H ρ _ R (Res.zS (Res.zX h) (fun d _ k v H' s r => ?_) fun c z H' s=>z H' (Same.frm s))⟩
 exact k _ H' Ob ((R.same s).set (yO ho) (yO hl) r) (Same.frm s) fun b z=>.inl z
theorem jI (i:Nat){x:Str}{p':Pos}(nd:C.X.N.Nodup) (he:RE C .new e me) (hi:autoParam (C.X.N[i]?=some x) zZ._auto_1) (ho:autoParam (C.om.contains i=true) zZ._auto_1) (hx:autoParam (Loc C.X.env.scope x) autoK12._auto_1)
  (hs:autoParam (swapsWith e (some (.Name x p')) pos.line C.X.env=pure false) zZ._auto_1) (hf:autoParam (C.X.fn x=true\/C.X.env.scope.names.lookup x=some .local) autoK13._auto_1):RS C fr (.Assign [.Name x p'] e pos) (sS i me):=by
 obtain⟨t,p,q⟩:=he
 refine⟨_,yZ nd hi hx p hs hf,fun Oc Ob σ H ρ E R h=>q Oc Ob σ H ρ _ R (Res.zS (Res.zX h) (fun d _ k v H' s r => ?_) fun c z H' s=>z H' (Same.frm s))⟩
 obtain⟨a,ha,R'⟩:=R.setO s (xF ho) r
 exact k _ H' _ R' (Same.frm s) fun b z=>z.elim .inl fun z=>.inr (by subst z;exact ha)
def sE (m:Ev->Res D):Ev->Res Out:=fun ρ=>(m ρ).bind fun _=>.ok (.nx ρ)
theorem gC (he:RE C md e me) (hs:autoParam (swapsWith e none pos.line C.X.env=pure false) zZ._auto_1):RS C fr (.Expr e pos) (sE me):=by
 obtain⟨t,p,q⟩:=he
 refine⟨_,wG p hs,fun Oc Ob σ H ρ E R h=>q Oc Ob σ H ρ _ R (Res.zS (Res.zX h) (fun d _ k v H' s r => ?_) fun c z H' s=>z H' (Same.frm s))⟩
 exact k σ H' Ob (R.same s) (Same.frm s) fun b z=>.inl z
theorem Rel.write {Oc:Wd}{Ob:Addr->Prop}{om ln:List Nat}{σ:St}{H:Hp}{ρ:Ev}{i:Nat}{a:Addr}{ys ys':List V}{d:D}{ds':List D}(R:Rel Oc Ob om ln σ H ρ) (ho:i∈om) (ed:ρ[i]?=some (some d)) (es:σ[i]?=some (some (.ref a))) (ha:H a=some (.lst ys)) (hb:Ob a)
  (r:Reps H (Uni Oc Ob) ys' ds'):Rel Oc Ob om ln σ (upd H a (.lst ys')) (ρ.set i (some (.list ds'))):=by
 have kp:∀b o,H b=some o->¬Uni Oc Ob b->upd H a (.lst ys') b=some o:=fun b o e n=>by
  rw[zY (fun z=>n (by subst z;exact .inr hb))];exact e
 have up:∀{vs:List V}{es:List D},Reps H (Uni Oc Ob) vs es->Reps (upd H a (.lst ys')) (Uni Oc Ob) vs es:=fun r=>r.keep kp fun b n z=>z
 have up1:∀{v:V}{e:D},Rep H (Uni Oc Ob) v e->Rep (upd H a (.lst ys')) (Uni Oc Ob) v e:=fun r=>r.keep kp fun b n z=>z
 have li:i<σ.length:=(List.getElem?_eq_some_iff.mp es).1
 refine⟨by rw[List.length_set];exact R.len,fun j d' e h1 h2 => ?_,fun j d' e h1 => ?_,fun j d' e h1 h2 => ?_,fun j k dj dk b ej ek hj hk qj qk => ?_,fun b z => ?_,R.ap⟩
 ·rcases zI e with ⟨rfl,rfl⟩ | ⟨ne,e⟩
  ·exact absurd ho h1
  ·obtain⟨w,q,k⟩:=R.val j d' e h1 h2
   exact⟨w,q,up1 k⟩
 ·rcases zI e with ⟨rfl,rfl⟩ | ⟨ne,e⟩
  ·exact⟨.ref a,es,a,ys',ds',rfl,rfl,zV,hb,up r⟩
  ·obtain⟨w,q,b,zs,fs,rfl,z2,z3,z4,z5⟩:=R.own j d' e h1
   have nb:b≠a:=fun z=>by subst z;exact ne (R.inj j i d' d b e ed h1 ho q es)
   exact⟨_,q,b,zs,fs,rfl,z2,by rw[zY nb];exact z3,z4,up z5⟩
 ·rcases zI e with ⟨rfl,rfl⟩ | ⟨ne,e⟩
  ·exact absurd ho h1
  ·obtain⟨w,q,zs,fs,z1,z2,z3,z4,z5⟩:=R.lnt j d' e h1 h2
   have nb:Oc.la j≠a:=fun z=>R.ap a hb (z▸z4)
   exact⟨_,q,zs,fs,z1,z2,by rw[zY nb];exact z3,z4,up z5⟩
 ·have get:∀j dj,(ρ.set i (some (.list ds')))[j]?=some (some dj)->∃d,ρ[j]?=some (some d):=fun j dj e=>by
   rcases zI e with ⟨rfl,rfl⟩ | ⟨ne,e⟩
   ·exact⟨d,ed⟩
   ·exact⟨dj,e⟩
  obtain⟨d1,e1⟩:=get j dj ej
  obtain⟨d2,e2⟩:=get k dk ek
  exact R.inj j k d1 d2 b e1 e2 hj hk qj qk
 ·by_cases h:b=a
  ·subst h;rw[zV];exact fun z=>nomatch z
  ·rw[zY h];exact R.oh b z
def PrM (r:V->List V->Hp->VK->Prop) (g:List D->List D->Option (List D)):Prop :=
 ∀(O:Addr->Prop) (H:Hp) (l:Addr) (xs vs:List V) (xd ad ds':List D) (Q:VK),H l=some (.lst xs)->Reps H O xs xd->Reps H O vs ad->g xd ad=some ds'->(∀xs',Reps H O xs' ds'->Q .non (upd H l (.lst xs')))->r (.ref l) vs H Q
def lstD:D->Option (List D)
 | .list ds=>some ds
 | _=>none
def sM (i:Nat) (g:List D->List D->Option (List D)) (m:Ev->Res (List D)):Ev->Res Out:=fun ρ=>(eV i ρ).bind fun d=>(Res.lft (lstD d)).bind fun xd=>(m ρ).bind fun ad=>(Res.lft (g xd ad)).bind fun ds=>.ok (.nx (ρ.set i (some (.list ds))))
theorem qB {d:D}{ds:List D}(h:lstD d=some ds):d=.list ds:=by
 cases d <;> simp[lstD] at h ⊢
 exact h
theorem yI5 (i:Nat){x name:Str}{id:String}{a:Expr}{es:List Expr}{ms:Ev->Res (List D)}{p' apos cpos:Pos}{r:V->List V->Hp->VK->Prop}{g:List D->List D->Option (List D)}(slot:Slot "list" name id) (hty:typeOf (.builtin id)=pure (.type "method_descriptor")) (hm:MtR C.X id r) (hp:PrM r g) (ha:RArg C true (a::es) ms)
  (hN:autoParam (C.X.N[i]?=some x) zZ._auto_1) (ho:autoParam (C.om.contains i=true) zZ._auto_1) (hv:autoParam (Vis C.X.env.scope x) qE._auto_1) (hd:autoParam ((x == ("__debug__":Str))=false) zL._auto_1) (hcd:autoParam ((x == ("__classdict__":Str))=false) zL._auto_1)
  (hbase:autoParam (attributeBase (.Name x p') name C.X.env (eval (.Name x p') C.X.env)=eval (.Name x p') C.X.env) zZ._auto_1)
  (hfew:((backTo cpos (starEach (a::es) C.X.env)).all (fun x=>!x.1)&&(backToKw cpos (keywordEach [] C.X.env)).all (fun x=>x.1.isSome)
  &&decide ((a::es).length+([]:List Keyword).length+(if ([]:List Keyword).isEmpty then 0 else 1)<30))=true:=by rfl)
  (hline:autoParam ((apos.endLine == cpos.line)=true) zZ._auto_1) (hs:autoParam (starEach (a::es) C.X.env=(false,eval a C.X.env)::starEach es C.X.env) zZ._auto_1) (hplain:autoParam ((backTo cpos (starEach es C.X.env)).any (·.1)=false) zZ._auto_1)
  (hsw:autoParam (swapsWith (.Call (.Attribute (.Name x p') name apos) (a::es) [] cpos) none pos.line C.X.env=pure false) zZ._auto_1) :
  RS C fr (.Expr (.Call (.Attribute (.Name x p') name apos) (a::es) [] cpos) pos) (sM i g ms):=by
 obtain⟨t,p,q⟩:=ha
 refine⟨_,wG (qC PySem.F.plainAttrs_list slot hty hm (uI hN hv hd hcd) p hbase hfew hline hs hplain) hsw,fun Oc Ob σ H ρ E R h => ?_⟩
 obtain⟨d,ed,k⟩:=qU (Res.zX h)
 obtain⟨xd,ex,k⟩:=Res.zE (Res.zX k)
 obtain rfl:=qB ex
 obtain⟨v,qv,l,ys,ds,rfl,e2,e3,e4,e5⟩:=R.own i _ ed (xF ho)
 cases e2
 refine⟨_,qv,.inl ⟨rfl,_,SqL.of e3⟩,q Oc Ob σ H ρ _ R (Res.zS (Res.zX k) (fun ad _ k vs H' s r' => ?_) fun c z H' s=>z H' (Same.frm s))⟩
 obtain⟨ds',eg,k⟩:=Res.zE (Res.zX k)
 refine hp _ H' l ys vs xd ad ds' _ (s _ _ e3) (e5.same s) r' eg fun xs' rx => ?_
 refine k _ _ Ob ((R.same s).write (xF ho) ed qv (s _ _ e3) e4 rx) (fun b o e n => ?_) fun b z=>.inl z
 rw[zY (fun z=>n (by subst z;exact e4))]
 exact s b o e
end
def RG (C:Ct) (tg:Expr) (g:D->Ev->Option Ev):Prop :=
 ∃t,PG C.X tg t/\∀(Oc:Wd) (Ob:Addr->Prop) (σ:St) (H:Hp) (ρ ρ':Ev) (v:V) (d:D) (Q:St->Hp->Prop),Rel Oc Ob C.om C.ln σ H ρ->Rep H (Uni Oc Ob) v d->g d ρ=some ρ'->(∀σ',Rel Oc Ob C.om C.ln σ' H ρ'->Q σ' H)->t v σ H Q
def gN (i:Nat):D->Ev->Option Ev:=fun d ρ=>some (ρ.set i (some d))
section
variable {C:Ct}{fr:Bool}{e c:Expr}{es:List Expr}{pos:Pos}{md:Md}{me:Ev->Res D}{mt:Ev->Res Bool}{st:Stmt}{body sts rest:List Stmt}{m n:Ev->Res Out}{mi:Ev->Res (List D)}{g:D->Ev->Option Ev}
theorem xT (i:Nat){x:Str}(nd:C.X.N.Nodup) (hi:autoParam (C.X.N[i]?=some x) zZ._auto_1) (ho:autoParam (C.om.contains i=false) zZ._auto_1) (hl:autoParam (C.ln.contains i=false) zZ._auto_1) (hx:autoParam (Loc C.X.env.scope x) autoK12._auto_1)
  (hf:autoParam (C.X.fn x=true\/C.X.env.scope.names.lookup x=some .local) autoK13._auto_1):RG C (.Name x pos) (gN i):=by
 refine⟨_,vL nd hi hx hf,fun Oc Ob σ H ρ ρ' v d Q R r e k => ?_⟩
 cases e
 exact k _ (R.set (yO ho) (yO hl) r)
def RGs (C:Ct) (ts:List Expr) (g:List D->Ev->Option Ev):Prop :=
 ∃t,PGs C.X ts t/\∀(Oc:Wd) (Ob:Addr->Prop) (σ:St) (H:Hp) (ρ ρ':Ev) (vs:List V) (ds:List D) (Q:St->Hp->Prop),Rel Oc Ob C.om C.ln σ H ρ->Reps H (Uni Oc Ob) vs ds->g ds ρ=some ρ'->(∀σ',Rel Oc Ob C.om C.ln σ' H ρ'->Q σ' H)->t vs σ H Q
def gsN:List D->Ev->Option Ev
 | [],ρ=>some ρ
 | _,_=>none
def gsC (g:D->Ev->Option Ev) (h:List D->Ev->Option Ev):List D->Ev->Option Ev
 | d::ds,ρ=>(g d ρ).bind fun ρ1=>h ds ρ1
 | [],_=>none
theorem zK3:RGs C [] gsN:=by
 refine⟨_,zI4,fun Oc Ob σ H ρ ρ' vs ds Q R r e k => ?_⟩
 cases r with
 | nil=>cases e;exact⟨rfl,k σ R⟩
 | cons=>cases e
theorem kQ {h:List D->Ev->Option Ev}(h1:RG C e g) (h2:RGs C es h) (hs:autoParam ((assignEach (e::es) C.X.env).map (·.2)=assign e C.X.env::(assignEach es C.X.env).map (·.2)) zZ._auto_1):RGs C (e::es) (gsC g h):=by
 obtain⟨t,p,q⟩:=h1
 obtain⟨t',p',q'⟩:=h2
 refine⟨_,dN p p' hs,fun Oc Ob σ H ρ ρ' vs ds Q R r e k => ?_⟩
 cases r with
 | nil=>cases e
 | cons r rs =>
  obtain⟨ρ1,e1,e2⟩:=Option.bind_eq_some_iff.mp e
  exact⟨_,_,rfl,q Oc Ob σ H ρ ρ1 _ _ _ R r e1 fun σ' R'=>q' Oc Ob σ' H ρ1 ρ' _ _ Q R' rs e2 k⟩
def gT (n:Nat) (h:List D->Ev->Option Ev):D->Ev->Option Ev
 | .tuple ds,ρ=>if ds.length=n then h ds ρ else none
 | _,_=>none
theorem yZ9 {k n:Nat}{h:List D->Ev->Option Ev}(hc:C.X.calm=true) (hg:RGs C es h) (hn:autoParam ((assignEach es C.X.env).length=n) zZ._auto_1) (hst:autoParam ((assignEach es C.X.env).findIdx? (·.1)=none) zZ._auto_1):RG C (.Tuple es k pos) (gT n h):=by
 obtain⟨t,p,q⟩:=hg
 refine⟨_,zA5 hc p hn hst,fun Oc Ob σ H ρ ρ' v d Q R r e k => ?_⟩
 cases r with
 | tup rd no rs =>
  unfold gT at e
  simp only at e
  split at e
  ·rename_i hl
   exact⟨_,_,rfl,.inl rd,by rw[rs.length];exact hl,q Oc Ob σ H ρ ρ' _ _ Q R rs e k⟩
  ·cases e
 | _=>cases e
theorem xV4 {tg:Expr}(he:RE C .cl e me) (hg:RG C tg g) (hs:autoParam (swapsWithSole [tg] e pos.line C.X.env=pure false) zZ._auto_1) (hw:autoParam (swappedStores [tg] e C.X.env=pure none) zZ._auto_1)
  (h1:autoParam ((assignEach [tg] C.X.env).map (·.2)=[assign tg C.X.env]) zZ._auto_1):RS C fr (.Assign [tg] e pos) (fun ρ=>(me ρ).bind fun d=>(Res.lft (g d ρ)).bind fun ρ'=>.ok (.nx ρ')):=by
 obtain⟨t,p,q⟩:=he
 obtain⟨t',p',q'⟩:=hg
 refine⟨_,dA p p' hs hw h1,fun Oc Ob σ H ρ E R h=>q Oc Ob σ H ρ _ R (Res.zS (Res.zX h) (fun d _ k v H' s r => ?_) fun c z H' s=>z H' (Same.frm s))⟩
 obtain⟨ρ',e,k⟩:=Res.zE (Res.zX k)
 exact q' Oc Ob σ H' ρ ρ' v d _ (R.same s) r e fun σ' R'=>k σ' H' Ob R' (Same.frm s) fun b z=>.inl z
def forM (g:D->Ev->Option Ev) (b:Ev->Res Out):List D->Ev->Res Out
 | [],ρ=>.ok (.nx ρ)
 | x::xs,ρ=>(Res.lft (g x ρ)).bind fun ρ1=>(b ρ1).bind fun o=>match o with
  | .nx ρ2=>forM g b xs ρ2
  | .rt d=>.ok (.rt d)
def sF (mi:Ev->Res (List D)) (g:D->Ev->Option Ev) (b:Ev->Res Out):Ev->Res Out:=fun ρ=>(mi ρ).bind fun ds=>forM g b ds ρ
theorem uR {tg iter:Expr}(hi:RI C tg iter mi) (hg:RG C tg g) (hb:RSs C fr body m) (hp:autoParam (PassesOwn (model C.X.prog C.X.w) C.X.A C.X.env C.X.xe) autoK14._auto_1) (hc:autoParam (C.X.calm=true) zZ._auto_1)
  (hs:autoParam (∀x,foldedSetIterable iter C.X.env x=pure x) xB._auto_1):RS C fr (.For tg iter body [] pos) (sF mi g m):=by
 obtain⟨wi,pi,qi⟩:=hi
 obtain⟨tg',pg,qg⟩:=hg
 obtain⟨tb,pb,qb⟩:=hb
 refine⟨_,cV hp hc pi pg pb hs,fun Oc Ob σ H ρ E R h=>qi Oc Ob σ H ρ _ R (Res.zS (Res.zX h) (fun ds _ k J H1 s1 wk => ?_) fun c z H' s=>z H' (Same.frm s))⟩
 refine⟨fun i mm σ' H'=>mm=ds.length-i/\i<=ds.length/\∃ρi Obi,Rel Oc Obi C.om C.ln σ' H' ρi/\Frm Ob H1 H'/\(∀b,Obi b->Ob b\/H1 b=none)/\SPost C fr Oc Obi H' E (forM g m (ds.drop i) ρi),
  ⟨_,rfl,Nat.zero_le _,ρ,Ob,R.same s1,Same.frm (Same.refl _),fun b z=>.inl z,SPost.same s1 k⟩,?_⟩
 rintro i mm σ2 H2 ⟨rfl,hi,ρi,Obi,R2,f2,sb2,k2⟩
 obtain⟨w1,w2⟩:=wk H2 Obi f2 sb2 i
 by_cases hlt:i<ds.length
 ·obtain⟨go,yl⟩:=w1 ds[i] (List.getElem?_eq_getElem hlt)
  have ed:ds.drop i=ds[i]::ds.drop (i+1):=List.drop_eq_getElem_cons hlt
  rw[ed,forM] at k2
  obtain⟨ρ1,e1,k2⟩:=Res.zE (Res.zX k2)
  refine .inr ⟨go,fun σ' H'=>∃m',m'<ds.length-i/\(m'=ds.length-(i+1)/\i+1<=ds.length/\∃ρi Obi,Rel Oc Obi C.om C.ln σ' H' ρi/\Frm Ob H1 H'/\(∀b,Obi b->Ob b\/H1 b=none)/\SPost C fr Oc Obi H' E (forM g m (ds.drop (i+1)) ρi)),fun _ _ z=>z,fun x H3 hy => ?_⟩
  obtain⟨s3,rx⟩:=yl x H3 hy
  refine qg Oc Obi σ2 H3 ρi ρ1 x _ _ (R2.same s3) rx e1 fun σ3 R3 => ?_
  have k3:=SPost.same s3 (show SPost C fr Oc Obi H2 E _ from k2)
  refine qb Oc Obi σ3 H3 ρ1 _ R3 (Res.zS (Res.zX k3) (fun o _ k4 => ?_) fun _ z=>z)
  cases o with
  | rt d=>exact k4
  | nx ρ2 =>
   intro σ4 H4 Ob4 R4 f4 sb4
   have f3:Frm Ob H1 H3:=fun b o e n=>s3 b o (f2 b o e n)
   refine⟨_,by bv_omega,rfl,hlt,ρ2,Ob4,R4,f3.trans sb2 f4,fun b z=>(sb4 b z).elim (sb2 b) fun z=>f3.none z,SPost.step f4 sb4 k4⟩
 ·have ei:i=ds.length:=by bv_omega
  subst ei
  rw[List.drop_length] at k2
  exact .inl ⟨w2 (Nat.le_refl _),k2 σ2 H2 Obi R2 (Same.frm (Same.refl _)) fun b z=>.inl z⟩
def whM (t:Ev->Res Bool) (b:Ev->Res Out):Nat->Ev->Res Out
 | 0,_=>.no
 | k+1,ρ=>(t ρ).bind fun c=>if c then (b ρ).bind fun o=>match o with
  | .nx ρ'=>whM t b k ρ'
  | .rt d=>.ok (.rt d) else .ok (.nx ρ)
def sW (fuel:Nat) (t:Ev->Res Bool) (b:Ev->Res Out):Ev->Res Out:=fun ρ=>whM t b fuel ρ
def setD (ds:List D) (i v:D):Option (List D):=match i with
 | .int k=>(ixN ds.length k).map fun j=>ds.set j v
 | _=>none
def sI (i:Nat) (mk me:Ev->Res D):Ev->Res Out:=fun ρ=>(me ρ).bind fun v=>(eV i ρ).bind fun d=>(Res.lft (lstD d)).bind fun xd=>(mk ρ).bind fun k=>(Res.lft (setD xd k v)).bind fun ds=>.ok (.nx (ρ.set i (some (.list ds))))
theorem zM9 (i:Nat){x:Str}{p' p2:Pos}{k:Expr}{mk:Ev->Res D}(he:RE C .cl e me) (hk:RE C md k mk) (hN:autoParam (C.X.N[i]?=some x) zZ._auto_1) (ho:autoParam (C.om.contains i=true) zZ._auto_1) (hv:autoParam (Vis C.X.env.scope x) qE._auto_1) (hd:autoParam ((x == ("__debug__":Str))=false) zL._auto_1)
  (hcd:autoParam ((x == ("__classdict__":Str))=false) zL._auto_1)
  (ha:∀v,assign (.Subscript (.Name x p') k p2) C.X.env v=(do
   let ov <-holding [v] (eval (.Name x p') C.X.env)
   let iv <-holding [v,ov] (eval k C.X.env)
   standAt p2
   holding [v,ov,iv] (setItem ov iv v)
   release [v,ov,iv] []):=by intro _;rfl)
  (hs:autoParam (swapsWithSole [.Subscript (.Name x p') k p2] e pos.line C.X.env=pure false) zZ._auto_1) (hw:autoParam (swappedStores [.Subscript (.Name x p') k p2] e C.X.env=pure none) zZ._auto_1)
  (h1:autoParam ((assignEach [.Subscript (.Name x p') k p2] C.X.env).map (·.2)=[assign (.Subscript (.Name x p') k p2) C.X.env]) zZ._auto_1):RS C fr (.Assign [.Subscript (.Name x p') k p2] e pos) (sI i mk me):=by
 obtain⟨t,p,q⟩:=he
 obtain⟨t',p',q'⟩:=hk
 refine⟨_,dA p (zQ2 (uI hN hv hd hcd) p' dM ha) hs hw h1,fun Oc Ob σ H ρ E R h=>q Oc Ob σ H ρ _ R (Res.zS (Res.zX h) (fun dv _ k v H' s r => ?_) fun c z H' s=>z H' (Same.frm s))⟩
 obtain⟨d,ed,k⟩:=qU (Res.zX k)
 obtain⟨xd,ex,k⟩:=Res.zE (Res.zX k)
 obtain rfl:=qB ex
 obtain⟨w',qv,l,ys,ds,rfl,e2,e3,e4,e5⟩:=(R.same s).own i _ ed (xF ho)
 cases e2
 refine⟨_,qv,q' Oc Ob σ H' ρ _ (R.same s) (Res.zS (Res.zX k) (fun dk _ k kv H2 s2 rk => ?_) fun c z H2 s2=>z H2 (Same.frm (s.trans s2)))⟩
 obtain⟨ds',eg,k⟩:=Res.zE (Res.zX k)
 unfold setD at eg
 split at eg
 ·obtain⟨j,ej,rfl⟩:=Option.map_eq_some_iff.mp eg
  obtain rfl:=(rk.va (R.same s).oh).int
  have hl:=e5.length
  refine⟨l,ys,_,j,rfl,rfl,s2 _ _ e3,by rw[hl];exact ej,?_⟩
  refine k _ _ Ob ((R.same (s.trans s2)).write (xF ho) ed qv (s2 _ _ e3) e4 (Reps.set (Rep.same r s2) j (e5.same s2))) (fun b o e n => ?_) fun b z=>.inl z
  rw[zY (fun z=>n (by subst z;exact e4))]
  exact s2 b o (s b o e)
 ·cases eg
def sV (i j:Nat):Ev->Res Out:=fun ρ=>(eV j ρ).bind fun d=>.ok (.nx ((ρ.set i (some d)).set j none))
theorem qL {α:Type}{l:List (Option α)}{i j:Nat}{d:α}(h:(l.set i none)[j]?=some (some d)):j≠i/\l[j]?=some (some d):=by
 by_cases e:i=j
 ·subst e
  rw[List.getElem?_set_self'] at h
  cases q:l[i]? with
  | none=>rw[q] at h;cases h
  | some z=>rw[q] at h;cases h
 ·rw[List.getElem?_set_ne e] at h
  exact⟨fun z=>e z.symm,h⟩
theorem yD4 (i j:Nat){x y:Str}{p' p2:Pos}(nd:C.X.N.Nodup) (hi:autoParam (C.X.N[i]?=some x) zZ._auto_1) (hj:autoParam (C.X.N[j]?=some y) zZ._auto_1) (oi:autoParam (C.om.contains i=false) zZ._auto_1) (oj:autoParam (C.om.contains j=true) zZ._auto_1) (hl:autoParam (C.ln.contains i=false) zZ._auto_1) (hx:autoParam (Loc C.X.env.scope x) autoK12._auto_1)
  (hv:autoParam (Vis C.X.env.scope y) qE._auto_1) (hd:autoParam ((y == ("__debug__":Str))=false) zL._auto_1) (hcd:autoParam ((y == ("__classdict__":Str))=false) zL._auto_1)
  (hs:autoParam (swapsWith (.Name y p2) (some (.Name x p')) pos.line C.X.env=pure false) zZ._auto_1) (hf:autoParam (C.X.fn x=true\/C.X.env.scope.names.lookup x=some .local) autoK13._auto_1):RS C fr (.Assign [.Name x p'] (.Name y p2) pos) (sV i j):=by
 refine⟨_,yZ nd hi hx (uI hj hv hd hcd) hs hf,fun Oc Ob σ H ρ E R h => ?_⟩
 obtain⟨d,ed,k⟩:=qU (Res.zX h)
 obtain⟨v,qv,a,ys,ds,rfl,rfl,e3,e4,e5⟩:=R.own j d ed (xF oj)
 refine⟨_,qv,k _ H (fun b=>Ob b/\b≠a) ?_ (Same.frm (Same.refl H)) fun b z=>.inl z.1⟩
 have ls:∀{b:Addr},Uni Oc (fun b=>Ob b/\b≠a) b->Uni Oc Ob b:=fun z=>z.elim .inl fun z=>.inr z.1
 have io:=yO oi
 have il:=yO hl
 have ij:i≠j:=fun z=>io (by subst z;exact xF oj)
 refine⟨by rw[List.length_set,List.length_set,List.length_set];exact R.len,fun n d' e h1 h2 => ?_,fun n d' e h1 => ?_,fun n d' e h1 h2 => ?_,fun n k dn dk b en ek hn hk qn qk => ?_,fun b z=>R.oh b (ls z),fun b z=>R.ap b z.1⟩
 ·obtain⟨nj,e⟩:=qL e
  have hn:=uJ e
  rcases zI e with ⟨rfl,rfl⟩ | ⟨ne,e⟩
  ·exact⟨_,by rw[List.getElem?_set_self (by rw[R.len];exact hn)],.lst (.inl e3) (fun z=>z.elim (R.ap a e4) fun z=>z.2 rfl) (e5.less fun b z=>ls z)⟩
  ·obtain⟨w,q,k⟩:=R.val n d' e h1 h2
   exact⟨w,by rw[List.getElem?_set_ne (fun z=>ne z.symm)];exact q,k.less fun b z=>ls z⟩
 ·obtain⟨nj,e⟩:=qL e
  rcases zI e with ⟨rfl,rfl⟩ | ⟨ne,e⟩
  ·exact absurd h1 io
  ·obtain⟨w,q,b,zs,fs,rfl,z2,z3,z4,z5⟩:=R.own n d' e h1
   have nb:b≠a:=fun z=>by subst z;exact nj (R.inj n j d' _ b e ed h1 (xF oj) q qv)
   exact⟨_,by rw[List.getElem?_set_ne (fun z=>ne z.symm)];exact q,b,zs,fs,rfl,z2,z3,⟨z4,nb⟩,z5.less fun b z=>ls z⟩
 ·obtain⟨nj,e⟩:=qL e
  rcases zI e with ⟨rfl,rfl⟩ | ⟨ne,e⟩
  ·exact absurd h2 il
  ·obtain⟨w,q,zs,fs,z1,z2,z3,z4,z5⟩:=R.lnt n d' e h1 h2
   exact⟨w,by rw[List.getElem?_set_ne (fun z=>ne z.symm)];exact q,zs,fs,z1,z2,z3,z4,z5.less fun b z=>ls z⟩
 ·obtain⟨nn,en⟩:=qL en
  obtain⟨nk,ek⟩:=qL ek
  rcases zI en with ⟨rfl,rfl⟩ | ⟨nn',en'⟩
  ·exact absurd hn io
  ·rcases zI ek with ⟨rfl,rfl⟩ | ⟨nk',ek'⟩
   ·exact absurd hk io
   ·rw[List.getElem?_set_ne (fun z=>nn' z.symm)] at qn
    rw[List.getElem?_set_ne (fun z=>nk' z.symm)] at qk
    exact R.inj n k dn dk b en' ek' hn hk qn qk
end
end L2.L3
namespace L2
open PySem PySem.Spec PyProof.Rows
structure Has (K:KFr) (mg:Str->Option Value) (x:Str) (st:Stmt) (f:Addr) (fd:FuncData) (ps:List Str):Prop where
 F:Fun K x x st f fd
 b:Binds K fd ps []
 m:mg x=some (.ref f)
theorem jJ {K:KFr}{h:Heap}{mg:Str->Option Value}{x:Str}{st:Stmt}{f:Addr}{oc:Value}{od an:Option Addr}{osl:Array (Option Value)}{kV doc pm cdv ct:Value}{ps:List Str}(X:K.In h) (G:h.Ns mainGlobals mg)
  (a:PySem.W.nsIn K mainGlobals x=some (some (.ref f))) (l:K.lookup f=some ⟨oc,od,.func (PySem.W.fnOf x x (defArgs st) (defBody st) (zT st) .none kV doc pm an cdv ct),osl⟩)
  (c:PySem.W.codeIn K cdv x=true) (k:PySem.W.keepIn K (.ref f)=true)
  (hb:∀(kV doc pm:Value) (an:Option Addr) (cdv ct:Value) (us:List Value),us.length=ps.length->bindArgs (PySem.W.fnOf x x (defArgs st) (defBody st) (zT st) .none kV doc pm an cdv ct) ⟨us,[]⟩=pure (ps.zip us)) :
  Has K mg x st f (PySem.W.fnOf x x (defArgs st) (defBody st) (zT st) .none kV doc pm an cdv ct) ps :=
 have F:=xZ4 (st:=st) l c k
 ⟨F,F.binds hb,PySem.W.mg_of X G a⟩
end L2
namespace L2.L3
open PySem PySem.Spec PyProof.Rows
variable [CN]
def CallOk:Bool->(Addr->Prop)->Hp->Hp->V->D->Prop
 | true,O,H,H',v,d=>∃a ys ds,v=.ref a/\d=.list ds/\H a=none/\H' a=some (.lst ys)/\Reps H' (fun b=>O b\/b=a) ys ds
 | false,O,_,H',v,d=>Rep H' O v d
def spF (fr:Bool) (F:List D->Res D):Sp:=fun vs H Q _=>∃(ds:List D) (O:Addr->Prop),(∀a,O a->H a≠none)/\Reps H O vs ds/\(F ds).post (fun d=>∀v H',Same H H'->CallOk fr O H H' v d->Q v H') (fun _=>False)
def fin (fr:Bool):Out->Res D
 | .rt d=>.ok d
 | .nx _=>if fr then .no else .ok .none
def runF (fr:Bool) (p n:Nat) (m:Ev->Res Out):List D->Res D:=fun ds=>if ds.length=p then (m (ds.map some++List.replicate (n-p) none)).bind (fin fr) else .no
theorem wI {α:Type}{ds:List α}{k i:Nat}{d:α}(h:(ds.map some++List.replicate k none)[i]?=some (some d)):ds[i]?=some d:=by
 by_cases hi:i<ds.length
 ·rw[List.getElem?_append_left (by simpa using hi),List.getElem?_map] at h
  cases e:ds[i]? with
  | none=>rw[e] at h;cases h
  | some z=>rw[e] at h;cases h;rfl
 ·rw[List.getElem?_append_right (by simpa using hi),List.getElem?_replicate] at h
  split at h <;> cases h
theorem zV8 {α:Type}{ds:List α}{k i:Nat}{d:α}(h:ds[i]?=some d):(ds.map some++List.replicate k none)[i]?=some (some d):=by
 have hi:=(List.getElem?_eq_some_iff.mp h).1
 rw[List.getElem?_append_left (by simpa using hi),List.getElem?_map,h]
 rfl
section
variable {P:Program}{w:World}{K:KFr}{mg:Str->Option Value}{base:Heap}
abbrev bodyCt (P:Program) (w:World) (K:KFr) (mg:Str->Option Value) (base:Heap) (N:List Str) (x:Str) (sc:Scope) (f:Addr) (cdv:Value) (A:Around) (outer:List Env) (s:Shared) (H:Hp) (E:XK) (om:List Nat):Ct :=
 ⟨(cxOf CX0 P w K mg base N x sc f cdv A outer s H E).nox,fun _ _=>False,om,[]⟩
theorem wY {x:Str}{st:Stmt}{f:Addr}{fd:FuncData}{N ps:List Str}{k:Nat}{m:Ev->Res Out}{fr:Bool}(om:List Nat) (F:Fun K x x st f fd) (S:zJ N ps (zT st))
  (hbody:∀(cdv:Value) (A:Around) (outer:List Env) (s:Shared) (H:Hp) (E:XK),Room k (A.deeper (envOfC x (zT st) s.heap.objs.size f cdv))->RSs (bodyCt P w K mg base N x (zT st) f cdv A outer s H E om) fr (defBody st) m)
  (hom:autoParam (om.all (fun i=>decide (ps.length<=i))=true) zZ._auto_1) :
  FnOk P w K mg base CX0 (k+1) f fd ps (spF fr (runF fr ps.length N.length m)):=by
 have len:∀(vs:List V) (H:Hp) (Q:VK) (E:XK),spF fr (runF fr ps.length N.length m) vs H Q E->vs.length=ps.length:=fun vs H Q E h=>by
  obtain⟨ds,O,oh,r,k⟩:=h
  unfold runF at k
  split at k
  ·rename_i hl
   rw[r.length];exact hl
  ·exact k.elim
 refine F.ok S len fun cdv A outer s H vs Q E hr h => ?_
 have hvl:=len vs H Q E h
 obtain⟨ds,O,oh,r,k⟩:=h
 have hl:ds.length=ps.length:=by rw[<-r.length];exact hvl
 unfold runF at k
 rw[if_pos hl] at k
 obtain⟨t,p,q⟩:=hbody cdv A outer s H E hr
 refine⟨t,p,q ⟨O,fun _=>0⟩ (fun _=>False) _ H (ds.map some++List.replicate (N.length-ps.length) none) _ ?_ ?_⟩
 ·refine⟨?_,fun i d e _ _ => ?_,fun i d e ho => ?_,fun i d e _ hl=>(nomatch hl),fun i j di dj a ei _ ho _ _ _ => ?_,fun a z=>oh a (z.elim id fun z=>z.elim),fun a z=>z.elim⟩
  ·unfold start
   rw[List.length_append,List.length_append,List.length_map,List.length_map,List.length_replicate,List.length_replicate,hvl,hl]
  ·obtain⟨v,ev,rv⟩:=r.get (wI e)
   exact⟨v,zV8 ev,rv.less fun b z=>z.elim id fun z=>z.elim⟩
  ·have h1:=(List.getElem?_eq_some_iff.mp (wI e)).1
   have h2:ps.length<=i:=of_decide_eq_true (List.all_eq_true.mp hom i ho)
   bv_omega
  ·have h1:=(List.getElem?_eq_some_iff.mp (wI ei)).1
   have h2:ps.length<=i:=of_decide_eq_true (List.all_eq_true.mp hom i ho)
   bv_omega
 ·refine Res.zS (Res.zX k) (fun o _ k => ?_) fun c z=>z.elim
  have same:∀{H':Hp},Frm (fun _=>False) H H'->Same H H':=fun f b o e=>f b o e fun z=>z
  cases o with
  | rt d =>
   intro v H' f rt
   refine k v H' (same f) ?_
   cases fr with
   | false=>exact rt
   | true =>
    obtain⟨a,ys,ds,e1,e2,e3,e4,e5,e6⟩:=rt
    exact⟨a,ys,ds,e1,e2,e3.elim id fun z=>z.elim,e5,e6⟩
  | nx ρ' =>
   cases fr with
   | true=>exact k.elim
   | false=>exact fun σ' H' Ob' R f s=>k .non H' (same f) Rep.non
end
def mdF (fr:Bool):Md:=if fr then .new else .cl
def eF (F:List D->Res D) (m:Ev->Res (List D)):Ev->Res D:=fun ρ=>(m ρ).bind F
section
variable {C:Ct}{k:Nat}{f:Addr}{fd:FuncData}{ps:List Str}{fr:Bool}{F:List D->Res D}{x:Str}{p pos:Pos}{e:Expr}{es:List Expr}{ms:Ev->Res (List D)}{st:Stmt}
theorem yS5 {t:TA}(q:∀(Oc:Wd) (Ob:Addr->Prop) (σ:St) (H:Hp) (ρ:Ev) (Q:List V->Hp->Prop),Rel Oc Ob C.om C.ln σ H ρ ->
  (ms ρ).post (fun ds=>∀vs H',Same H H'->VQ true Oc Ob H' vs ds->Q vs H') (fun c=>∀H',Same H H'->C.XE c H')->t σ H Q)
  {Oc:Wd}{Ob:Addr->Prop}{σ:St}{H:Hp}{ρ:Ev}{Q:VK}(R:Rel Oc Ob C.om C.ln σ H ρ) (h:(eF F ms ρ).post (fun d=>∀v H',Same H H'->VR (mdF fr) Oc Ob H H' v d->Q v H') (fun c=>False)):tCall (spF fr F) [] E0 t σ H Q:=by
 refine q Oc Ob σ H ρ _ R (Res.zS (Res.zX h) (fun ds _ k vs H1 s1 r => ?_) fun _ z=>z.elim)
 show spF fr F (vs ++ []) H1 Q E0
 rw[List.append_nil]
 refine⟨ds,Uni Oc Ob,(R.same s1).oh,r,Res.zS k (fun d _ k v H' s2 rv => ?_) fun _ z=>z⟩
 refine k v H' (s1.trans s2) ?_
 cases fr with
 | false=>exact rv
 | true =>
  obtain⟨a,ys,ds,e1,e2,e3,e4,e5⟩:=rv
  exact⟨a,ys,ds,e1,e2,s1.free e3,e4,e5⟩
end
theorem zN9 {C:Ct}{k:Nat}{f:Addr}{fd:FuncData}{ps:List Str}{fr:Bool}{F:List D->Res D}{x:Str}{p pos:Pos}{e:Expr}{es:List Expr}{ms:Ev->Res (List D)}{st:Stmt}(G:FnOk C.X.prog C.X.w C.X.K C.X.mg C.X.base CX0 k f fd ps (spF fr F)) (hh:Has C.X.K C.X.mg x st f fd ps) (hr:Room k C.X.A)
  (hx:∀c H,C.XE c H->False) (ha:RArg C true (e::es) ms) (hg:autoParam (Gl C.X x) zZ._auto_1) (hdb:autoParam ((x == ("__debug__":Str))=false) zL._auto_1) (he:autoParam (starEach (e::es) C.X.env=(false,eval e C.X.env)::starEach es C.X.env) zZ._auto_1) (hpl:autoParam ((backTo pos (starEach es C.X.env)).any (·.1)=false) zZ._auto_1) :
  RE C (mdF fr) (.Call (.Name x p) (e::es) [] pos) (eF F ms):=by
 obtain⟨t,pa,q⟩:=ha
 refine⟨_,yS G hr hg hh.m hh.F.kp hh.b .nil pass0 pa hdb he hpl,fun Oc Ob σ H ρ Q R h => ?_⟩
 exact yS5 q R (Res.zS h (fun _ _ z=>z) fun c z=>hx c H (z H (Same.refl H)))
mutual
def lf:D->Bool
 | .list _=>false
 | .dict _=>false
 | .tuple ds=>lfs ds
 | _=>true
def lfs:List D->Bool
 | []=>true
 | d::ds=>lf d&&lfs ds
end
mutual
theorem Rep.lf {H:Hp}{U:Addr->Prop}{B:Addr->Prop}(hB:∀b,B b->∃ys,H b=some (.lst ys)):∀{v:V}{d:D},Rep H (fun b=>U b/\¬B b) v d->L3.lf d=true->Rep H U v d
 | _,_,.non,_=>.non
 | _,_,.bl b,_=>.bl b
 | _,_,.int i,_=>.int i
 | _,_,.str x,_=>.str x
 | _,_,.lst r n t,h=>by simp[L3.lf] at h
 | _,_,.exc r n,h=>by simp[L3.lf] at h
 | _,_,@Rep.tup _ _ _ a _ _ r n t,h=>.tup r (fun z=>by
   by_cases hb:B a
   ·obtain⟨ys,e⟩:=hB _ hb
    rcases r with r | ⟨o,r⟩ <;> (rw[r] at e;cases e)
   ·exact n ⟨z,hb⟩) (Reps.lf hB t (by simpa [L3.lf] using h))
theorem Reps.lf {H:Hp}{U:Addr->Prop}{B:Addr->Prop}(hB:∀b,B b->∃ys,H b=some (.lst ys)):∀{vs:List V}{ds:List D},Reps H (fun b=>U b/\¬B b) vs ds->lfs ds=true->Reps H U vs ds
 | _,_,.nil,_=>.nil
 | _,_,.cons r t,h=>by
  rw[lfs,Bool.and_eq_true] at h
  exact .cons (Rep.lf hB r h.1) (Reps.lf hB t h.2)
end
def lfT:Bool->D->Bool
 | true,.list ds=>lfs ds
 | _,d=>lf d
def eFA (fr:Bool) (F:List D->Res D) (m:Ev->Res (List D)):Ev->Res D:=fun ρ=>(m ρ).bind fun ds=>(F ds).bind fun d=>if lfT fr d then .ok d else .no
theorem VAs.lent {Oc:Wd}{Ob:Addr->Prop}{H:Hp}:∀{vs:List V}{ds:List D},VAs Oc Ob H vs ds->Reps H (fun b=>Uni Oc Ob b/\¬∃ys,H b=some (.lst ys)) vs ds
 | _,_,.nil=>.nil
 | _,_,.cons h t=>.cons (by
   rcases h with h | ⟨a,ys,ds,rfl,rfl,e3,e5⟩
   ·exact h.less fun b z=>z.1
   ·exact .lst (.inl e3) (fun z=>z.2 ⟨ys,e3⟩) (e5.less fun b z=>z.1)) (VAs.lent t)
theorem yP6 {C:Ct}{k:Nat}{f:Addr}{fd:FuncData}{ps:List Str}{fr:Bool}{F:List D->Res D}{x:Str}{p pos:Pos}{e:Expr}{es:List Expr}{ms:Ev->Res (List D)}{st:Stmt}(G:FnOk C.X.prog C.X.w C.X.K C.X.mg C.X.base CX0 k f fd ps (spF fr F)) (hh:Has C.X.K C.X.mg x st f fd ps) (hr:Room k C.X.A)
  (hx:∀c H,C.XE c H->False) (ha:RArg C false (e::es) ms) (hg:autoParam (Gl C.X x) zZ._auto_1) (hdb:autoParam ((x == ("__debug__":Str))=false) zL._auto_1) (he:autoParam (starEach (e::es) C.X.env=(false,eval e C.X.env)::starEach es C.X.env) zZ._auto_1) (hpl:autoParam ((backTo pos (starEach es C.X.env)).any (·.1)=false) zZ._auto_1) :
  RE C (mdF fr) (.Call (.Name x p) (e::es) [] pos) (eFA fr F ms):=by
 obtain⟨t,pa,q⟩:=ha
 refine⟨_,yS G hr hg hh.m hh.F.kp hh.b .nil pass0 pa hdb he hpl,fun Oc Ob σ H ρ Q R h => ?_⟩
 refine q Oc Ob σ H ρ _ R (Res.zS (Res.zX h) (fun ds _ k vs H1 s1 r => ?_) fun c z=>(hx c H (z H (Same.refl H))).elim)
 show spF fr F (vs ++ []) H1 Q E0
 rw[List.append_nil]
 refine⟨ds,fun b=>Uni Oc Ob b/\¬∃ys,H1 b=some (.lst ys),fun a z=>(R.same s1).oh a z.1,VAs.lent r,Res.zS (Res.zX k) (fun d _ k v H' s2 rv => ?_) fun c z=>hx c H (z H (Same.refl H))⟩
 have hB:∀b,(∃ys,H1 b=some (.lst ys))->∃ys,H' b=some (.lst ys):=fun b ⟨ys,e⟩=>⟨ys,s2 _ _ e⟩
 by_cases hl:lfT fr d=true
 ·rw[if_pos hl] at k
  refine k v H' (s1.trans s2) ?_
  cases fr with
  | false=>exact Rep.lf hB rv (by cases d <;> exact hl)
  | true =>
   obtain⟨a,ys,ds,e1,rfl,e3,e4,e5⟩:=rv
   have e5':Reps H' (fun b=>(Uni Oc Ob b\/b=a)/\¬∃ys,H1 b=some (.lst ys)) ys ds:=e5.less fun b z=>z.1.elim (fun q=>.inl ⟨q,z.2⟩) .inr
   exact⟨a,ys,ds,e1,rfl,s1.free e3,e4,Reps.lf hB e5' hl⟩
 ·rw[if_neg hl] at k
  exact k.elim
theorem yV {C:Ct}{k:Nat}{f:Addr}{fd:FuncData}{ps:List Str}{F:List D->Res D}{x:Str}{p pos:Pos}{e:Expr}{es:List Expr}{ms:Ev->Res (List D)}{st:Stmt}(G:FnOk C.X.prog C.X.w C.X.K C.X.mg C.X.base CX0 k f fd ps (spF false F)) (hh:Has C.X.K C.X.mg x st f fd ps) (hr:Room k C.X.A)
  (hx:∀c H,C.XE c H->False) (ha:RArg C true (e::es) ms) (hg:autoParam (Gl C.X x) zZ._auto_1) (hdb:autoParam ((x == ("__debug__":Str))=false) zL._auto_1) (he:autoParam (starEach (e::es) C.X.env=(false,eval e C.X.env)::starEach es C.X.env) zZ._auto_1) (hpl:autoParam ((backTo pos (starEach es C.X.env)).any (·.1)=false) zZ._auto_1) :
  RE C .cl (.Call (.Name x p) (e::es) [] pos) (eF F ms) :=
 zN9 (fr:=false) G hh hr hx ha hg hdb he hpl
theorem yO6 {C:Ct}{k:Nat}{f:Addr}{fd:FuncData}{ps:List Str}{F:List D->Res D}{x:Str}{p pos:Pos}{e:Expr}{es:List Expr}{ms:Ev->Res (List D)}{st:Stmt}(G:FnOk C.X.prog C.X.w C.X.K C.X.mg C.X.base CX0 k f fd ps (spF true F)) (hh:Has C.X.K C.X.mg x st f fd ps) (hr:Room k C.X.A)
  (hx:∀c H,C.XE c H->False) (ha:RArg C true (e::es) ms) (hg:autoParam (Gl C.X x) zZ._auto_1) (hdb:autoParam ((x == ("__debug__":Str))=false) zL._auto_1) (he:autoParam (starEach (e::es) C.X.env=(false,eval e C.X.env)::starEach es C.X.env) zZ._auto_1) (hpl:autoParam ((backTo pos (starEach es C.X.env)).any (·.1)=false) zZ._auto_1) :
  RE C .new (.Call (.Name x p) (e::es) [] pos) (eF F ms) :=
 zN9 (fr:=true) G hh hr hx ha hg hdb he hpl
theorem aL {C:Ct}{k:Nat}{f:Addr}{fd:FuncData}{ps:List Str}{F:List D->Res D}{x:Str}{p pos:Pos}{e:Expr}{es:List Expr}{ms:Ev->Res (List D)}{st:Stmt}(G:FnOk C.X.prog C.X.w C.X.K C.X.mg C.X.base CX0 k f fd ps (spF false F)) (hh:Has C.X.K C.X.mg x st f fd ps) (hr:Room k C.X.A)
  (hx:∀c H,C.XE c H->False) (ha:RArg C false (e::es) ms) (hg:autoParam (Gl C.X x) zZ._auto_1) (hdb:autoParam ((x == ("__debug__":Str))=false) zL._auto_1) (he:autoParam (starEach (e::es) C.X.env=(false,eval e C.X.env)::starEach es C.X.env) zZ._auto_1) (hpl:autoParam ((backTo pos (starEach es C.X.env)).any (·.1)=false) zZ._auto_1) :
  RE C .cl (.Call (.Name x p) (e::es) [] pos) (eFA false F ms) :=
 yP6 (fr:=false) G hh hr hx ha hg hdb he hpl
def i2 (f:Int->Int->Option Int):D->D->Option D
 | .int i,.int j=>(f i j).map PyData.int
 | _,_=>none
theorem yL9 {f:Int->Int->Option Int}{x y d:D}(h:i2 f x y=some d):∃i j k,x=.int i/\y=.int j/\f i j=some k/\d=.int k:=by
 cases x with
 | int i =>
  cases y with
  | int j =>
   obtain⟨k,e,rfl⟩:=Option.map_eq_some_iff.mp (show (f i j).map PyData.int=some d from h)
   exact⟨i,j,k,rfl,rfl,e,rfl⟩
  | _=>cases h
 | _=>cases h
theorem yM5 {g:Int->Int->Int}:Pr2 (rI0 fun i j=>.int (g i j)) .cl (i2 fun i j=>some (g i j)):=by
 intro Oc Ob H x y dx dy d Q oh vx vy e k
 obtain⟨i,j,n,rfl,rfl,ef,rfl⟩:=yL9 e
 cases ef
 exact⟨i,j,vx.int,vy.int,k _ H (Same.refl H) (Rep.int _)⟩
abbrev addI:D->D->Option D:=i2 fun i j=>some (i+j)
abbrev subI:D->D->Option D:=i2 fun i j=>some (i-j)
def DivOk (j:Int):Prop:=0<j/\j.natAbs.log2<9000
instance (j:Int):Decidable (DivOk j):=by unfold DivOk;infer_instance
section
variable {X:Cx}
theorem yN5:OpR X (binaryOp .FloorDiv) (rI (fun _ j=>DivOk j) fun i j=>.int (i / j)):=opI fun i j _ _ _ _ _ hc q=>by
 refine floordiv_int (by have:=hc.1;bv_omega) ?_ (.inl (PyProof.noPylong_of_log2 hc.2))
 rw[Int.fdiv_eq_ediv_of_nonneg _ (by have:=hc.1;bv_omega)]
 exact q
end
theorem DivOk.small {j:Int}(h:0<j) (h2:j<1073741824):DivOk j:=by
 refine⟨h,?_⟩
 have h30:j.natAbs.log2<30:=(Nat.log2_lt (by bv_omega)).mpr (by bv_omega)
 bv_omega
theorem yW5:Pr2 (rI0 fun i j=>.int (i+j)) .cl addI:=yM5
theorem zC4:Pr2 (rI0 fun i j=>.int (i-j)) .cl subI:=yM5
def c2 (f:Int->Int->Bool):D->D->Option Bool
 | .int i,.int j=>some (f i j)
 | _,_=>none
theorem yV4 {f:Int->Int->Bool}:PrB (rI0 fun i j=>.bl (f i j)) (c2 f):=by
 intro Oc Ob H x y dx dy b Q vx vy e k
 cases dx with
 | int i =>
  cases dy with
  | int j =>
   cases e
   exact⟨_,_,vx.int,vy.int,k⟩
  | _=>cases e
 | _=>cases e
abbrev ltI:D->D->Option Bool:=c2 fun i j=>decide (i<j)
abbrev leI:D->D->Option Bool:=c2 fun i j=>decide (i<=j)
abbrev gtI:D->D->Option Bool:=c2 fun i j=>decide (j<i)
theorem yM3:PrB (rI0 fun i j=>.bl (decide (i<j))) ltI:=yV4
theorem zX7:PrB (rI0 fun i j=>.bl (decide (i<=j))) leI:=yV4
theorem yM1:PrB (rI0 fun i j=>.bl (decide (j<i))) gtI:=yV4
def eqD (x y:D):Option Bool:=if SeqAt.shaped x=true/\SeqAt.shaped y=true then some (PyData.eqv x y) else none
def neD (x y:D):Option Bool:=if SeqAt.shaped x=true/\SeqAt.shaped y=true then some (!PyData.eqv x y) else none
theorem zX8 {K:KFr}:PrB (rEqD K false) eqD:=by
 intro Oc Ob H x y dx dy b Q vx vy e k
 unfold eqD at e
 split at e
 ·rename_i h
  cases e
  exact⟨dx,dy,vx.datS h.1,vy.datS h.2,h.1,h.2,k⟩
 ·cases e
theorem zW1 {K:KFr}:PrB (rEqD K true) neD:=by
 intro Oc Ob H x y dx dy b Q vx vy e k
 unfold neD at e
 split at e
 ·rename_i h
  cases e
  exact⟨dx,dy,vx.datS h.1,vy.datS h.2,h.1,h.2,k⟩
 ·cases e
def flD:D->Bool
 | .none=>true
 | .bool _=>true
 | .int _=>true
 | .str _=>true
 | _=>false
def eqF:D->D->Bool
 | .none,.none=>true
 | .bool a,.bool b=>a == b
 | .bool a,.int b=>(if a then 1 else 0) == b
 | .int a,.bool b=>a == (if b then 1 else 0)
 | .int a,.int b=>a == b
 | .str a,.str b=>a == b
 | _,_=>false
theorem dH {H:Hp}{O:Addr->Prop}{v:V}{d:D}(h:Rep H O v d) (f:flD d=true):flatV v=true:=by
 cases h <;> first | rfl | cases f
theorem yG2 {H:Hp}{O O':Addr->Prop}{v v':V}{d d':D}(h:Rep H O v d) (h':Rep H O' v' d') (f:flD d=true) (f':flD d'=true):eqV v v'=eqF d d':=by
 cases h <;> cases h' <;> first | rfl | cases f | cases f'
theorem gS {H:Hp}{O:Addr->Prop}:∀{vs:List V}{ds:List D},Reps H O vs ds->ds.all flD=true->vs.all flatV=true
 | _,_,.nil,_=>rfl
 | _,_,.cons h t,f=>by
  rw[List.all_cons,Bool.and_eq_true] at f ⊢
  exact⟨dH h f.1,gS t f.2⟩
theorem dJ {H:Hp}{O O':Addr->Prop}{x:V}{dx:D}(hx:Rep H O' x dx) (fx:flD dx=true):∀{vs:List V}{ds:List D},Reps H O vs ds->ds.all flD=true->inV x vs=ds.any fun y=>eqF y dx
 | _,_,.nil,_=>rfl
 | _,_,.cons h t,f=>by
  rw[List.all_cons,Bool.and_eq_true] at f
  have ih:=dJ hx fx t f.2
  unfold inV at ih ⊢
  rw[List.any_cons,List.any_cons,ih,yG2 h hx f.1 fx]
def inD (neg:Bool) (x y:D):Option Bool:=(seqD y).bind fun ds=>if flD x=true/\ds.all flD=true then some (if neg then !ds.any (fun z=>eqF z x) else ds.any fun z=>eqF z x) else none
theorem yJ8 {Oc:Wd}{Ob:Addr->Prop}{H:Hp}{x:V}{d:D}(h:VA Oc Ob H x d) (f:flD d=true):Rep H (Uni Oc Ob) x d:=by
 rcases h with h | ⟨a,ys,ds,rfl,rfl,e3,e5⟩
 ·exact h
 ·cases f
theorem xR8 {K:KFr}{neg:Bool}:PrB (rIn K neg) (inD neg):=by
 intro Oc Ob H x y dx dy b Q vx vy e k
 unfold inD at e
 obtain⟨ds,e1,e⟩:=Option.bind_eq_some_iff.mp e
 split at e
 ·rename_i h
  cases e
  have rx:=yJ8 vx h.1
  cases dy with
  | list ds' =>
   cases e1
   obtain⟨a,ys,rfl,rd,rs⟩:=vy.list
   refine⟨a,ys,rfl,.inl (.inl rd),dH rx h.1,gS rs h.2,?_⟩
   rw[dJ rx h.1 rs h.2]
   exact k
  | tuple ds' =>
   cases e1
   obtain⟨a,ys,rfl,rd,rs⟩:=vy.tuple
   refine⟨a,ys,rfl,.inr (.inl rd),dH rx h.1,gS rs h.2,?_⟩
   rw[dJ rx h.1 rs h.2]
   exact k
  | _=>cases e1
 ·cases e
def ixD:D->D->Option D
 | .list ds,.int i=>atI ds i
 | .tuple ds,.int i=>atI ds i
 | _,_=>none
theorem zW9 {H:Hp}{O:Addr->Prop}{vs:List V}{ds:List D}{i:Int}{d:D}(r:Reps H O vs ds) (h:atI ds i=some d):∃v,atI vs i=some v/\Rep H O v d:=by
 unfold atI at h ⊢
 obtain⟨j,e1,e2⟩:=Option.bind_eq_some_iff.mp h
 obtain⟨v,ev,rv⟩:=r.get e2
 refine⟨v,?_,rv⟩
 rw[r.length,e1]
 exact ev
theorem gD {K:KFr}:Pr2 (rIx K) .cl ixD:=by
 intro Oc Ob H x y dx dy d Q oh vx vy e k
 cases dx with
 | list ds =>
  cases dy with
  | int i =>
   obtain⟨a,ys,rfl,rd,rs⟩:=vx.list
   obtain⟨v,ev,rv⟩:=zW9 rs e
   exact .inl ⟨a,ys,i,v,rfl,vy.int,.inl rd,ev,k v H (Same.refl H) rv⟩
  | _=>cases e
 | tuple ds =>
  cases dy with
  | int i =>
   obtain⟨a,ys,rfl,rd,rs⟩:=vx.tuple
   obtain⟨v,ev,rv⟩:=zW9 rs e
   exact .inr (.inl ⟨a,ys,i,v,rfl,vy.int,.inl rd,ev,k v H (Same.refl H) rv⟩)
  | _=>cases e
 | _=>cases e
def rCatR:R2:=fun x y H Q=>∃l b xs zs,x=.ref l/\y=.ref b/\Rd H l (.lst xs)/\Rd H b (.lst zs)/\xs.length+zs.length<=sizeLine/\∀p,H p=none->Q (.ref p) (upd H p (.lst (xs++zs)))
theorem Rd.lstM {X:Cx}{pins:List (Addr×Obj)}{σ:St}{H:Hp}{s:Shared}{l:Addr}{xs:List V}(I:Inv X pins σ H s) (hH:Rd H l (.lst xs)):xs.length<=sizeLine/\∃(its:List Value) (n:Nat),Vals xs its/\xs.length=its.length/\s.heap.get? l=some { cls:=.type "list",data:=.seq its.toArray n }:=by
 obtain⟨z,its,n,r,e⟩:=hH.ok I.hok
 exact⟨z,its,n,r,r.length,e⟩
section
variable {X:Cx}
theorem fK:OpR X (binaryOp .Add) rCatR:=by
 intro pins s σ H x y v u Q I rx ry h
 obtain⟨l,b,xs,zs,rfl,rfl,hH,hB,hz,q⟩:=h
 cases rx
 cases ry
 obtain⟨z,its,n,r,hl,e⟩:=Rd.lstM I hH
 obtain⟨z2,its2,n2,r2,hl2,e2⟩:=Rd.lstM I hB
 refine PySem.P.add_list e e2 ?_ (by rw[List.size_toArray,List.size_toArray];bv_omega)
 have ea:its.toArray++its2.toArray=(its++its2).toArray:=by simp
 rw[ea]
 exact⟨.ref _,_,I.lnew (t':=s.toks) (r.append r2) (by rw[List.length_append];bv_omega),rfl,q _ I.fresh⟩
def rRepR:R2:=fun x y H Q=>∃l k xs,x=.ref l/\y=.int k/\Rd H l (.lst xs)/\-(2 ^ 63)<=k/\k<2 ^ 63/\xs.length*k.toNat<=sizeLine /\
 ∀p,H p=none->Q (.ref p) (upd H p (.lst (List.replicate k.toNat xs).flatten))
theorem zL9:OpR X (binaryOp .Mult) rRepR:=by
 intro pins s σ H x y v u Q I rx ry h
 obtain⟨l,k,xs,rfl,rfl,hH,h1,h2,hz,q⟩:=h
 cases rx
 obtain⟨t,rfl⟩:=ry
 obtain⟨z,its,n,r,hl,e⟩:=Rd.lstM I hH
 have hlen:its.toArray.size*k.toNat<=sizeLine:=by rw[List.size_toArray,<-hl];exact hz
 have hcap:¬its.toArray.size*k.toNat > (2 ^ 63-1) / 8:=by
  have:(sizeLine:Nat)<=(2 ^ 63-1) / 8:=by decide
  bv_omega
 have hfit:¬(!Builtin.List.listFitsIndex k)=true:=by
  rw[fitsIndex_both h1 h2]
  exact Bool.false_ne_true
 have hlong:¬Builtin.List.listTooLong (its.toArray.size*k.toNat)=true:=by
  rw[notLongL hlen]
  exact Bool.false_ne_true
 have hnew:List.foldl (fun x1 x2=>x1++x2) #[] (List.replicate (if its.toArray.isEmpty=true then 0 else k.toNat) its.toArray)=(List.replicate k.toNat its).flatten.toArray:=by
  have f0:∀m:Nat,List.foldl (fun x1 x2=>x1++x2) #[] (List.replicate m its.toArray)=(List.replicate m its).flatten.toArray:=fun m=>by
   have:=gM its m []
   rw[List.nil_append] at this
   exact this
  rw[f0]
  cases its with
  | nil=>simp
  | cons a r'=>rw[if_neg (by simp)]
 refine wpAny_binaryOp_repeat_ref (T:="list") (U:="int") (by decide) ⟨_,e,rfl⟩ (fun s'=>typeIs_int s' k t) noFill_list_mul F.fills_int_mul F.slot_int_rmul repeat_list F.slot_int_index.lookup
  (call_meets F.slot_int_rmul (typeIs_int s k t) F.entry_int_rmul (F.args_int_rmul_2 _ _) (int___rmul___int_list k t l its.toArray n)
   ⟨e,rfl,⟨_,e,rfl⟩,call_meets F.slot_list_mul ⟨_,e,rfl⟩ F.entry_list_mul (F.args_list_mul_2 _ _) (AutoListH.list___mul___list_int_3 l its.toArray n k t hfit hcap hlong) ⟨e,?_⟩⟩)
 rw[hnew]
 exact⟨.ref _,_,I.lnew (t':=s.toks) (r.rep k.toNat) (by rw[zK7,Nat.mul_comm];exact hz),rfl,q _ I.fresh⟩
end
def catL:D->D->Option D
 | .list xs,.list ys=>if xs.length+ys.length<=sizeLine then some (.list (xs++ys)) else none
 | _,_=>none
theorem zD2:Pr2 rCatR .new catL:=by
 intro Oc Ob H x y dx dy d Q oh vx vy e k
 cases dx with
 | list xs =>
  cases dy with
  | list ys =>
   obtain⟨a,vs,rfl,rd,rs⟩:=vx.list
   obtain⟨b,ws,rfl,rd',rs'⟩:=vy.list
   unfold catL at e
   simp only at e
   split at e
   ·rename_i hl
    cases e
    refine⟨a,b,vs,ws,rfl,rfl,rd,rd',by rw[rs.length,rs'.length];exact hl,fun p hp=>k _ _ (Same.new hp) (xY (Same.refl H) hp (rs.append rs'))⟩
   ·cases e
  | _=>cases e
 | _=>cases e
def repL:D->D->Option D
 | .list xs,.int k=>if -(2 ^ 63)<=k/\k<2 ^ 63/\xs.length*k.toNat<=sizeLine then some (.list (List.replicate k.toNat xs).flatten) else none
 | _,_=>none
theorem yW8:Pr2 rRepR .new repL:=by
 intro Oc Ob H x y dx dy d Q oh vx vy e k
 cases dx with
 | list xs =>
  cases dy with
  | int j =>
   obtain⟨a,vs,rfl,rd,rs⟩:=vx.list
   unfold repL at e
   simp only at e
   split at e
   ·rename_i hl
    cases e
    refine⟨a,j,vs,rfl,vy.int,rd,hl.1,hl.2.1,by rw[rs.length];exact hl.2.2,fun p hp=>k _ _ (Same.new hp) (xY (Same.refl H) hp (rs.rep _))⟩
   ·cases e
  | _=>cases e
 | _=>cases e
def lenD:List D->Option D
 | [d]=>(seqD d).map fun ds=>.int ds.length
 | _=>none
theorem yJ {K:KFr}:PrC (fun xs H Q=>∃p ys,xs=[.ref p]/\(SqL K H p ys\/SqT K H p ys)/\Q (.int ys.length) H) .cl lenD:=by
 intro Oc Ob H vs ds d Q oh va e k
 cases ds with
 | nil=>cases e
 | cons x xs =>
  cases xs with
  | cons=>cases e
  | nil =>
   obtain⟨v,rfl,vx⟩:=va.one
   obtain⟨es,e1,rfl⟩:=Option.map_eq_some_iff.mp e
   cases x with
   | list ds' =>
    cases e1
    obtain⟨a,ys,rfl,rd,rs⟩:=vx.list
    exact⟨a,ys,rfl,.inl (.inl rd),k _ H (Same.refl H) (by rw[rs.length];exact Rep.int _)⟩
   | tuple ds' =>
    cases e1
    obtain⟨a,ys,rfl,rd,rs⟩:=vx.tuple
    exact⟨a,ys,rfl,.inr (.inl rd),k _ H (Same.refl H) (by rw[rs.length];exact Rep.int _)⟩
   | _=>cases e1
def listD:List D->Option D
 | [d]=>(seqD d).map fun ds=>.list ds
 | _=>none
def tupD:List D->Option D
 | [d]=>(seqD d).map fun ds=>.tuple ds
 | _=>none
theorem kC {K:KFr}:PrC (fun xs H Q=>∃p ys,xs=[.ref p]/\((SqL K H p ys/\∀l,H l=none->Q (.ref l) (upd H l (.tup ys)))\/(SqT K H p ys/\Q (.ref p) H))) .cl tupD:=by
 intro Oc Ob H vs ds d Q oh va e k
 cases ds with
 | nil=>cases e
 | cons x xs =>
  cases xs with
  | cons=>cases e
  | nil =>
   obtain⟨v,rfl,vx⟩:=va.one
   obtain⟨es,e1,rfl⟩:=Option.map_eq_some_iff.mp e
   cases x with
   | list ds' =>
    cases e1
    obtain⟨a,ys,rfl,rd,rs⟩:=vx.list
    exact⟨a,ys,rfl,.inl ⟨.inl rd,fun l hl=>k _ _ (Same.new hl) (vF oh hl rs)⟩⟩
   | tuple ds' =>
    cases e1
    rcases vx with vx | ⟨a,ys,ds,rfl,ez,_⟩
    ·cases vx with
     | tup rd n rs=>exact⟨_,_,rfl,.inr ⟨.inl rd,k _ H (Same.refl H) (.tup rd n rs)⟩⟩
    ·cases ez
   | _=>cases e1
def intsOf:List D->Option (List Int)
 | []=>some []
 | .int i::ds=>(intsOf ds).map (i :: ·)
 | _::_=>none
@[simp] theorem intsOf_map:∀ns:List Int,intsOf (ns.map PyData.int)=some ns
 | []=>rfl
 | n::ns=>by rw[List.map_cons,intsOf,intsOf_map ns];rfl
theorem xM:∀{ds:List D}{ns:List Int},intsOf ds=some ns->ds=ns.map PyData.int
 | [],ns,h=>by cases h;rfl
 | d::ds,ns,h=>by
  cases d with
  | int i =>
   obtain⟨ms,e,rfl⟩:=Option.map_eq_some_iff.mp (show (intsOf ds).map (i :: ·)=some ns from h)
   rw[xM e];rfl
  | _=>cases h
def boolsOf:List D->Option (List Bool)
 | []=>some []
 | .bool i::ds=>(boolsOf ds).map (i :: ·)
 | _::_=>none
theorem kD:∀{ds:List D}{ns:List Bool},boolsOf ds=some ns->ds=ns.map PyData.bool
 | [],ns,h=>by cases h;rfl
 | d::ds,ns,h=>by
  cases d with
  | bool i =>
   obtain⟨ms,e,rfl⟩:=Option.map_eq_some_iff.mp (show (boolsOf ds).map (i :: ·)=some ns from h)
   rw[kD e];rfl
  | _=>cases h
def nsD (d:D):Option (List Int):=(seqD d).bind intsOf
theorem zQ7 {K:KFr}{Oc:Wd}{Ob:Addr->Prop}{H:Hp}{x:V}{d:D}{ns:List Int}(h:VA Oc Ob H x d) (e:nsD d=some ns):∃p,x=.ref p/\(SqL K H p (ns.map V.int)\/SqT K H p (ns.map V.int)):=by
 obtain⟨ds,e1,e2⟩:=Option.bind_eq_some_iff.mp e
 obtain rfl:=xM e2
 cases d with
 | list ds' =>
  cases e1
  obtain⟨a,ys,rfl,rd,rs⟩:=h.list
  rw[rs.ints] at rd
  exact⟨a,rfl,.inl (.inl rd)⟩
 | tuple ds' =>
  cases e1
  obtain⟨a,ys,rfl,rd,rs⟩:=h.tuple
  rw[rs.ints] at rd
  exact⟨a,rfl,.inr (.inl rd)⟩
 | _=>cases e1
def sumD:List D->Option D
 | [.list ds]=>(intsOf ds).map fun ns=>.int ns.sum
 | _=>none
theorem xU9 {K:KFr}:PrC (fun xs H Q=>∃(p:Addr) (ns:List Int),xs=[.ref p]/\SqL K H p (ns.map V.int)/\Q (.int ns.sum) H) .cl sumD:=by
 intro Oc Ob H vs ds d Q oh va e k
 unfold sumD at e
 split at e
 ·obtain⟨ns,e1,rfl⟩:=Option.map_eq_some_iff.mp e
  obtain⟨v,rfl,vx⟩:=va.one
  obtain⟨a,ys,rfl,rd,rs⟩:=vx.list
  rw[xM e1] at rs
  rw[rs.ints] at rd
  exact⟨a,ns,rfl,.inl rd,k _ H (Same.refl H) (Rep.int _)⟩
 ·cases e
def sortI (ns:List Int):List Int:=ns.mergeSort (fun a b=>decide (a<=b))
theorem kT (ns:List Int):(sortI ns).Perm ns:=List.mergeSort_perm _ _
theorem gW (ns:List Int):(sortI ns).Pairwise (· <= ·):=by
 have:=List.pairwise_mergeSort (le:=fun a b:Int=>decide (a<=b)) (fun a b c h1 h2=>by simp at *;bv_omega) (fun a b=>by simp;bv_omega) ns
 exact this.imp fun h=>by simpa using h
theorem zF3 {as bs:List Int}(p:as.Perm bs) (ha:as.Pairwise (· <= ·)) (hb:bs.Pairwise (· <= ·)):as=bs:=by
 induction as generalizing bs with
 | nil=>exact (List.nil_perm.mp p).symm
 | cons a as ih =>
  cases bs with
  | nil=>exact absurd p.symm (by intro h;have:=h.length_eq;simp at this)
  | cons b bs =>
   have h1:a<=b:=by
    have:b∈a::as:=p.symm.subset List.mem_cons_self
    rcases List.mem_cons.mp this with z | z
    ·bv_omega
    ·exact (List.pairwise_cons.mp ha).1 b z
   have h2:b<=a:=by
    have:a∈b::bs:=p.subset List.mem_cons_self
    rcases List.mem_cons.mp this with z | z
    ·bv_omega
    ·exact (List.pairwise_cons.mp hb).1 a z
   have e:a=b:=by bv_omega
   subst e
   rw[ih (List.Perm.cons_inv p) (List.pairwise_cons.mp ha).2 (List.pairwise_cons.mp hb).2]
def sortD:List D->Option D
 | [d]=>(nsD d).bind fun ns=>if ns.length<64 then some (.list ((sortI ns).map PyData.int)) else none
 | _=>none
theorem yK8 {K:KFr}:PrC (fun xs H Q=>∃(p:Addr) (ns:List Int),xs=[.ref p]/\(SqL K H p (ns.map V.int)\/SqT K H p (ns.map V.int))/\ns.length<64 /\
  ∀(l:Addr) (ms:List Int),H l=none->ms.Perm ns->ms.Pairwise (· <= ·)->Q (.ref l) (upd H l (.lst (ms.map V.int)))) .new sortD:=by
 intro Oc Ob H vs ds d Q oh va e k
 unfold sortD at e
 split at e
 ·obtain⟨ns,e1,e⟩:=Option.bind_eq_some_iff.mp e
  split at e
  ·rename_i hl
   cases e
   obtain⟨v,rfl,vx⟩:=va.one
   obtain⟨p,rfl,hq⟩:=zQ7 vx e1
   refine⟨p,ns,rfl,hq,hl,fun l ms hp h1 h2 => ?_⟩
   have:ms=sortI ns:=zF3 (h1.trans (kT ns).symm) h2 (gW ns)
   subst this
   exact k _ _ (Same.new hp) (xY (Same.refl H) hp (uQ _))
  ·cases e
 ·cases e
def allD:List D->Option D
 | [.list ds]=>(boolsOf ds).map fun bs=>.bool (bs.all id)
 | _=>none
theorem xY2 {K:KFr}:PrC (fun xs H Q=>∃(p:Addr) (bs:List Bool),xs=[.ref p]/\SqL K H p (bs.map V.bl)/\Q (.bl (bs.all id)) H) .cl allD:=by
 intro Oc Ob H vs ds d Q oh va e k
 unfold allD at e
 split at e
 ·obtain⟨ns,e1,rfl⟩:=Option.map_eq_some_iff.mp e
  obtain⟨v,rfl,vx⟩:=va.one
  obtain⟨a,ys,rfl,rd,rs⟩:=vx.list
  rw[kD e1] at rs
  rw[rs.bools] at rd
  exact⟨a,ns,rfl,.inl rd,k _ H (Same.refl H) (Rep.bl _)⟩
 ·cases e
def tyD:D->String
 | .none=>"NoneType"
 | .bool _=>"bool"
 | .int _=>"int"
 | .str _=>"str"
 | .list _=>"list"
 | .tuple _=>"tuple"
 | .dict _=>"dict"
def subTy (t T:String):Bool:=t == T || (t == "bool"&&T == "int")
structure Kit (K:KFr) (T:String):Prop where
 non:PySem.W.kitOne K (.type "NoneType") (.type T)=some (subTy "NoneType" T)
 bl:PySem.W.kitOne K (.type "bool") (.type T)=some (subTy "bool" T)
 int:PySem.W.kitOne K (.type "int") (.type T)=some (subTy "int" T)
 str:PySem.W.kitOne K (.type "str") (.type T)=some (subTy "str" T)
 lst:PySem.W.kitOne K (.type "list") (.type T)=some (subTy "list" T)
 tup:PySem.W.kitOne K (.type "tuple") (.type T)=some (subTy "tuple" T)
section
variable {X:Cx}
end
def isiD (T:String):D->Option D
 | .dict _=>none
 | d=>some (.bool (subTy (tyD d) T))
theorem zZ1 {s:Shared}{J:Addr}{hp h':Heap}(keep:∀b o,s.heap.get? b=some o->b≠J/\hp.get? b=some o) (hk:∀b o,b ∉ [J]->hp.get? b=some o->h'.get? b=some o):∀b o,s.heap.get? b=some o->h'.get? b=some o :=
 fun b o e=>hk b o (by simpa using (keep b o e).1) (keep b o e).2
theorem jZ (xs:Array (Int×Tok)):(intItems xs).size=xs.size:=by simp[intItems]
section
variable {prog:Program}{w:World}{A:Around}{E:Value->Shared->Prop}{s:Shared}{l:Addr}{xs:Array (Int×Tok)}{Q:Value->Shared->Prop}
theorem yJ9 (hh:A.handled=none) (hl:s.heap.IsTuple l (intItems xs)) (ne:0<xs.size)
  (k:∀v h' tk,(intItems xs)[argBest (fun i j=>decide (numAt xs i<numAt xs j)) (xs.size-1)]?=some v->(∀b o,s.heap.get? b=some o->h'.get? b=some o)->Q v { s with heap:=h',toks:=tk }):wpAny (model prog w) A (call (.builtin "min") [.ref l]) Q E s :=
 call_min_walk (zS8 (A:=A.in1) hh hl fun J hp St W st a b keep=>⟨_,_,_,_,_,_,_,rfl,W,st,by simp[a,b],by rw[jZ];exact ne,.ints_lt (numAt xs) (fun _ _=>intItems_at),fun v h' tk at_ hk=>k v h' tk (by rw[jZ] at at_;exact at_) (zZ1 keep hk)⟩)
theorem yH3 (hh:A.handled=none) (hl:s.heap.IsTuple l (intItems xs)) (ne:0<xs.size)
  (k:∀v h' tk,(intItems xs)[argBest (fun i j=>decide (numAt xs i > numAt xs j)) (xs.size-1)]?=some v->(∀b o,s.heap.get? b=some o->h'.get? b=some o)->Q v { s with heap:=h',toks:=tk }):wpAny (model prog w) A (call (.builtin "max") [.ref l]) Q E s :=
 call_max_walk (zS8 (A:=A.in1) hh hl fun J hp St W st a b keep=>⟨_,_,_,_,_,_,_,rfl,W,st,by simp[a,b],by rw[jZ];exact ne,.ints_gt (numAt xs) (fun _ _=>intItems_at),fun v h' tk at_ hk=>k v h' tk (by rw[jZ] at at_;exact at_) (zZ1 keep hk)⟩)
end
def minL:List Int->Int
 | []=>0
 | n::ns=>ns.foldl (fun a b=>if b<a then b else a) n
def maxL:List Int->Int
 | []=>0
 | n::ns=>ns.foldl (fun a b=>if b > a then b else a) n
theorem qA:∀(ns:List Int) (n:Int),(ns.foldl (fun a b=>if b<a then b else a) n=n\/ns.foldl (fun a b=>if b<a then b else a) n∈ns)/\ns.foldl (fun a b=>if b<a then b else a) n<=n/\∀m∈ns,ns.foldl (fun a b=>if b<a then b else a) n<=m
 | [],n=>⟨.inl rfl,Int.le_refl _,fun m h=>nomatch h⟩
 | b::ns,n=>by
  obtain⟨h1,h2,h3⟩:=qA ns (if b<n then b else n)
  rw[List.foldl_cons]
  refine⟨?_,?_,fun m hm => ?_⟩
  ·rcases h1 with h1 | h1
   ·rw[h1]
    split
    ·exact .inr List.mem_cons_self
    ·exact .inl rfl
   ·exact .inr (List.mem_cons_of_mem _ h1)
  ·refine Int.le_trans h2 ?_
   split <;> bv_omega
  ·rcases List.mem_cons.mp hm with rfl | hm
   ·refine Int.le_trans h2 ?_
    split <;> bv_omega
   ·exact h3 m hm
theorem qD:∀(ns:List Int) (n:Int),(ns.foldl (fun a b=>if b > a then b else a) n=n\/ns.foldl (fun a b=>if b > a then b else a) n∈ns)/\n<=ns.foldl (fun a b=>if b > a then b else a) n/\∀m∈ns,m<=ns.foldl (fun a b=>if b > a then b else a) n
 | [],n=>⟨.inl rfl,Int.le_refl _,fun m h=>nomatch h⟩
 | b::ns,n=>by
  obtain⟨h1,h2,h3⟩:=qD ns (if b > n then b else n)
  rw[List.foldl_cons]
  refine⟨?_,?_,fun m hm => ?_⟩
  ·rcases h1 with h1 | h1
   ·rw[h1]
    split
    ·exact .inr List.mem_cons_self
    ·exact .inl rfl
   ·exact .inr (List.mem_cons_of_mem _ h1)
  ·refine Int.le_trans ?_ h2
   split <;> bv_omega
  ·rcases List.mem_cons.mp hm with rfl | hm
   ·refine Int.le_trans ?_ h2
    split <;> bv_omega
   ·exact h3 m hm
theorem zU6 {ns:List Int}(h:ns ≠ []):minL ns∈ns:=by
 cases ns with
 | nil=>exact absurd rfl h
 | cons n ns =>
  rcases (qA ns n).1 with e | e
  ·show List.foldl _ n ns∈_
   rw[e];exact List.mem_cons_self
  ·exact List.mem_cons_of_mem _ e
theorem yF4 {ns:List Int}{m:Int}(h:m∈ns):minL ns<=m:=by
 cases ns with
 | nil=>cases h
 | cons n ns =>
  rcases List.mem_cons.mp h with rfl | h
  ·exact (qA ns m).2.1
  ·exact (qA ns n).2.2 m h
theorem zS4 {ns:List Int}(h:ns ≠ []):maxL ns∈ns:=by
 cases ns with
 | nil=>exact absurd rfl h
 | cons n ns =>
  rcases (qD ns n).1 with e | e
  ·show List.foldl _ n ns∈_
   rw[e];exact List.mem_cons_self
  ·exact List.mem_cons_of_mem _ e
theorem yD5 {ns:List Int}{m:Int}(h:m∈ns):m<=maxL ns:=by
 cases ns with
 | nil=>cases h
 | cons n ns =>
  rcases List.mem_cons.mp h with rfl | h
  ·exact (qD ns m).2.1
  ·exact (qD ns n).2.2 m h
theorem zL7 {xs:Array (Int×Tok)}{i:Nat}(h:i<xs.size):numAt xs i∈xs.toList.map (·.1):=by
 rw[numAt_eq]
 exact getD_mem (by simpa using h)
theorem zM2 {xs:Array (Int×Tok)}{a:Int}(h:a∈xs.toList.map (·.1)):∃i,i<xs.size/\a=numAt xs i:=by
 obtain⟨i,hi,e⟩:=mem_getD h
 exact⟨i,by simpa using hi,by rw[numAt_eq,e]⟩
theorem yU1 {xs:Array (Int×Tok)}(h:0<xs.size):numAt xs (argBest (fun i j=>decide (numAt xs i<numAt xs j)) (xs.size-1))=minL (xs.toList.map (·.1)):=by
 have z:=argBest_lt (numAt xs) (xs.size-1)
 have m:=zL7 (xs:=xs) (i:=argBest (fun i j=>decide (numAt xs i<numAt xs j)) (xs.size-1)) (by bv_omega)
 obtain⟨i,hi,e⟩:=zM2 (zU6 (List.ne_nil_of_mem m))
 have:=yF4 m
 have:=z.2 i (by bv_omega)
 bv_omega
theorem yQ9 {xs:Array (Int×Tok)}(h:0<xs.size):numAt xs (argBest (fun i j=>decide (numAt xs i > numAt xs j)) (xs.size-1))=maxL (xs.toList.map (·.1)):=by
 have z:=argBest_gt (numAt xs) (xs.size-1)
 have m:=zL7 (xs:=xs) (i:=argBest (fun i j=>decide (numAt xs i > numAt xs j)) (xs.size-1)) (by bv_omega)
 obtain⟨i,hi,e⟩:=zM2 (zS4 (List.ne_nil_of_mem m))
 have:=yD5 m
 have:=z.2 i (by bv_omega)
 bv_omega
section
variable {X:Cx}
theorem zB1 (hc:X.calm=true):CallR X (.builtin "min") (fun xs H Q=>∃(p:Addr) (ns:List Int),xs=[.ref p]/\(SqL X.K H p (ns.map V.int)\/SqT X.K H p (ns.map V.int))/\ns ≠ []/\Q (.int (minL ns)) H):=by
 intro pins s σ H xs us Q I r h
 obtain⟨p,ns,rfl,hq,hne,q⟩:=h
 obtain⟨u,rfl,ru⟩:=vals1 r
 cases ru
 have core:∀(its:List Value),Vals (ns.map V.int) its->∃xs:Array (Int×Tok),its.toArray=intItems xs/\ns=xs.toList.map (·.1):=fun its rv=>by
  have hi:IntsAre its ns:=vR rv
  obtain⟨xs,e⟩:=hi.allInts.items
  exact⟨xs,e,by rw[<-hi.numsOf,<-nums_intItems,<-e]⟩
 have fin:∀(xs:Array (Int×Tok)),ns=xs.toList.map (·.1)->0<xs.size->∀(v:Value) (h':Heap) (tk:Nat),(intItems xs)[argBest (fun i j=>decide (numAt xs i<numAt xs j)) (xs.size-1)]?=some v->(∀b o,s.heap.get? b=some o->h'.get? b=some o)->EP X pins σ Q v { s with heap:=h',toks:=tk }:=fun xs hns hsz v h' tk hv hk=>by
  obtain⟨t,rfl⟩:=intItems_at hv
  have e:=yU1 hsz
  rw[<-hns] at e
  exact⟨.int _,H,I.kept hk,⟨t,by rw[e]⟩,q⟩
 have sz:∀xs:Array (Int×Tok),ns=xs.toList.map (·.1)->0<xs.size:=fun xs hns=>by
  rcases Nat.eq_zero_or_pos xs.size with z | z
  ·exact absurd (by rw[hns,Array.size_eq_zero_iff.mp z];rfl) hne
  ·exact z
 rcases hq with hq | hq
 ·obtain⟨its,rv,pl,hz⟩:=I.list hq
  obtain⟨xs,e,hns⟩:=core its rv
  exact min_intList (I.ok.hd hc) (by rw[<-e];exact pl.isList) (sz xs hns) (fin xs hns (sz xs hns))
 ·obtain⟨its,rv,pl,hz⟩:=I.tuple hq
  obtain⟨xs,e,hns⟩:=core its rv
  exact yJ9 (I.ok.hd hc) (by rw[<-e];exact pl) (sz xs hns) (fin xs hns (sz xs hns))
theorem zE5 (hc:X.calm=true):CallR X (.builtin "max") (fun xs H Q=>∃(p:Addr) (ns:List Int),xs=[.ref p]/\(SqL X.K H p (ns.map V.int)\/SqT X.K H p (ns.map V.int))/\ns ≠ []/\Q (.int (maxL ns)) H):=by
 intro pins s σ H xs us Q I r h
 obtain⟨p,ns,rfl,hq,hne,q⟩:=h
 obtain⟨u,rfl,ru⟩:=vals1 r
 cases ru
 have core:∀(its:List Value),Vals (ns.map V.int) its->∃xs:Array (Int×Tok),its.toArray=intItems xs/\ns=xs.toList.map (·.1):=fun its rv=>by
  have hi:IntsAre its ns:=vR rv
  obtain⟨xs,e⟩:=hi.allInts.items
  exact⟨xs,e,by rw[<-hi.numsOf,<-nums_intItems,<-e]⟩
 have fin:∀(xs:Array (Int×Tok)),ns=xs.toList.map (·.1)->0<xs.size->∀(v:Value) (h':Heap) (tk:Nat),(intItems xs)[argBest (fun i j=>decide (numAt xs i > numAt xs j)) (xs.size-1)]?=some v->(∀b o,s.heap.get? b=some o->h'.get? b=some o)->EP X pins σ Q v { s with heap:=h',toks:=tk }:=fun xs hns hsz v h' tk hv hk=>by
  obtain⟨t,rfl⟩:=intItems_at hv
  have e:=yQ9 hsz
  rw[<-hns] at e
  exact⟨.int _,H,I.kept hk,⟨t,by rw[e]⟩,q⟩
 have sz:∀xs:Array (Int×Tok),ns=xs.toList.map (·.1)->0<xs.size:=fun xs hns=>by
  rcases Nat.eq_zero_or_pos xs.size with z | z
  ·exact absurd (by rw[hns,Array.size_eq_zero_iff.mp z];rfl) hne
  ·exact z
 rcases hq with hq | hq
 ·obtain⟨its,rv,pl,hz⟩:=I.list hq
  obtain⟨xs,e,hns⟩:=core its rv
  exact max_intList (I.ok.hd hc) (by rw[<-e];exact pl.isList) (sz xs hns) (fin xs hns (sz xs hns))
 ·obtain⟨its,rv,pl,hz⟩:=I.tuple hq
  obtain⟨xs,e,hns⟩:=core its rv
  exact yH3 (I.ok.hd hc) (by rw[<-e];exact pl) (sz xs hns) (fin xs hns (sz xs hns))
end
def min1D:List D->Option D
 | [d]=>(nsD d).bind fun ns=>if ns=[] then none else some (.int (minL ns))
 | _=>none
def max1D:List D->Option D
 | [d]=>(nsD d).bind fun ns=>if ns=[] then none else some (.int (maxL ns))
 | _=>none
theorem yI2 {K:KFr}:PrC (fun xs H Q=>∃(p:Addr) (ns:List Int),xs=[.ref p]/\(SqL K H p (ns.map V.int)\/SqT K H p (ns.map V.int))/\ns ≠ []/\Q (.int (minL ns)) H) .cl min1D:=by
 intro Oc Ob H vs ds d Q oh va e k
 unfold min1D at e
 split at e
 ·obtain⟨ns,e1,e⟩:=Option.bind_eq_some_iff.mp e
  split at e
  ·cases e
  ·rename_i hl
   cases e
   obtain⟨v,rfl,vx⟩:=va.one
   obtain⟨p,rfl,hq⟩:=zQ7 vx e1
   exact⟨p,ns,rfl,hq,hl,k _ H (Same.refl H) (Rep.int _)⟩
 ·cases e
theorem yD2 {K:KFr}:PrC (fun xs H Q=>∃(p:Addr) (ns:List Int),xs=[.ref p]/\(SqL K H p (ns.map V.int)\/SqT K H p (ns.map V.int))/\ns ≠ []/\Q (.int (maxL ns)) H) .cl max1D:=by
 intro Oc Ob H vs ds d Q oh va e k
 unfold max1D at e
 split at e
 ·obtain⟨ns,e1,e⟩:=Option.bind_eq_some_iff.mp e
  split at e
  ·cases e
  ·rename_i hl
   cases e
   obtain⟨v,rfl,vx⟩:=va.one
   obtain⟨p,rfl,hq⟩:=zQ7 vx e1
   exact⟨p,ns,rfl,hq,hl,k _ H (Same.refl H) (Rep.int _)⟩
 ·cases e
theorem uH {α β:Type}{F:α->β->Prop}:∀{as:List α}{bs:List β},as.length=bs.length->(∀(i:Nat) a b,as[i]?=some a->bs[i]?=some b->F a b)->Paired F as bs
 | [],[],_,_=>.nil
 | [],_::_,h,_=>by cases h
 | _::_,[],h,_=>by cases h
 | a::as,b::bs,h,f=>.cons (f 0 a b rfl rfl) (uH (Nat.succ.inj h) fun i x y hx hy=>f (i+1) x y (by simpa using hx) (by simpa using hy))
section
variable {X:Cx}
theorem zY2:CallR X (.type "range") (fun xs H Q=>∃j:Int,xs=[.int j]/\∀p,H p=none->Q (.ref p) (upd H p (.rng 0 j))):=by
 intro pins s σ H xs us Q I r h
 obtain⟨j,rfl,q⟩:=h
 obtain⟨u,rfl,t,rfl⟩:=vals1 r
 exact call_range_1 ⟨.ref s.heap.objs.size,_,I.laid (t':=s.toks+1+1) (o:=.rng 0 j) (fun b o e=>Heap.get?_push_of_some _ e) (Nat.le_refl _) ⟨_,_,_,Heap.get?_push_size _ rfl⟩,rfl,q _ (I.hok.fresh (Nat.le_refl _))⟩
theorem zY6 (hc:X.calm=true):CallR X (.type "list") (fun xs H Q=>∃(p:Addr) (j:Int),xs=[.ref p]/\H p=some (.rng 0 j)/\-(2 ^ 62)<=j/\j.toNat<=1000000/\∀l,H l=none->Q (.ref l) (upd H l (.lst ((List.range j.toNat).map fun (i:Nat)=>V.int (i:Int))))):=by
 intro pins s σ H xs us Q I r h
 obtain⟨p,j,rfl,hp,hs,hj,q⟩:=h
 obtain⟨u,rfl,ru⟩:=vals1 r
 cases ru
 obtain⟨t,u,v,e⟩:=I.hok p _ hp
 refine call_list_range (n:=j.toNat) (I.ok.hd hc) e (small_one (by bv_omega) (by bv_omega) hs (by bv_omega)) ?_ (by bv_omega) fun h' tk acc' c' hk hS hacc => ?_
 ·rw[rangeSize_one];split <;> bv_omega
 ·have hv:Vals ((List.range j.toNat).map fun (i:Nat)=>V.int (i:Int)) acc'.toList:=by
   obtain⟨h1,h2⟩:=hacc
   refine uH ?_ ?_
   ·rw[List.length_map,List.length_range,Array.length_toList,h1]
   ·intro i a b ha hb
    rw[List.getElem?_map] at ha
    have hi:i<j.toNat:=by
     have:=(List.getElem?_eq_some_iff.mp hb).1
     rw[Array.length_toList,h1] at this
     exact this
    rw[List.getElem?_range hi] at ha
    cases ha
    obtain⟨t,e⟩:=h2 i b (by simpa using hb)
    refine⟨t,?_⟩
    rw[e]
    simp
  refine⟨.ref s.heap.objs.size,_,I.laid (t':=tk) (o:=.lst ((List.range j.toNat).map fun (i:Nat)=>V.int (i:Int))) hk (Nat.le_refl _) ⟨?_,acc'.toList,c',hv,by simpa using hS⟩,rfl,q _ (I.hok.fresh (Nat.le_refl _))⟩
  rw[List.length_map,List.length_range]
  exact Nat.le_of_lt (Nat.lt_of_le_of_lt hj (by decide))
end
def rangeL:List D->Option D
 | [.int j]=>if -(2 ^ 62)<=j/\j.toNat<=1000000 then some (.list ((List.range j.toNat).map fun (i:Nat)=>PyData.int (i:Int))) else none
 | _=>none
theorem zC9 {H:Hp}{O:Addr->Prop}(l:List Nat):Reps H O (l.map fun (i:Nat)=>V.int (i:Int)) (l.map fun (i:Nat)=>PyData.int (i:Int)):=by
 induction l with
 | nil=>exact .nil
 | cons a l ih=>exact .cons (.int _) ih
theorem zT4 {C:Ct}{a:Expr}{p p2 pos pos2:Pos}{ms:Ev->Res (List D)}(hl:C.X.mg "list" = none) (hm:C.X.mg "range" = none) (ha:RArg C false [a] ms) (hc:autoParam (C.X.calm=true) zZ._auto_1) (hgl:autoParam (Gl C.X "list") zZ._auto_1) (hg:autoParam (Gl C.X "range") zZ._auto_1)
  (hs:autoParam (starEach [a] C.X.env=(false,eval a C.X.env)::starEach [] C.X.env) zZ._auto_1) (hs2:autoParam (starEach [.Call (.Name "range" p2) [a] [] pos2] C.X.env=(false,eval (.Call (.Name "range" p2) [a] [] pos2) C.X.env)::starEach [] C.X.env) zZ._auto_1)
  (hpl:autoParam ((backTo pos (starEach [] C.X.env)).any (·.1)=false) zZ._auto_1) (hpl2:autoParam ((backTo pos2 (starEach [] C.X.env)).any (·.1)=false) zZ._auto_1) :
  RE C .new (.Call (.Name "list" p) [.Call (.Name "range" p2) [a] [] pos2] [] pos) (eB rangeL ms):=by
 obtain⟨t,pa,q⟩:=ha
 refine⟨_,yB (zY6 hc) hgl hl (by rfl) (zU (yB zY2 hg hm (by rfl) pa (by decide) (by decide) hs hpl2) zO hs2) (by decide) (by decide) hs2 hpl,fun Oc Ob σ H ρ Q R h=>q Oc Ob σ H ρ _ R (Res.zS (Res.zX h) (fun ds _ k vs H1 s1 r => ?_) fun _ z=>z)⟩
 obtain⟨d,e,k⟩:=Res.zE k
 unfold rangeL at e
 split at e
 ·split at e
  ·rename_i hb
   cases e
   obtain⟨v,rfl,va⟩:=VAs.one r
   obtain rfl:=va.int
   refine⟨_,rfl,fun p hp=>⟨p,_,rfl,zV,hb.1,hb.2,fun l hl => ?_⟩⟩
   exact k _ _ ((s1.trans (Same.new hp)).trans (Same.new hl)) (xY (s1.trans (Same.new hp)) hl (zC9 _))
  ·cases e
 ·cases e
section
variable {X:Cx}
def rExtR:V->List V->Hp->VK->Prop:=fun x vs H Q=>∃l b xs zs,x=.ref l/\vs=[.ref b]/\H l=some (.lst xs)/\(Rd H b (.lst zs)\/Rd H b (.tup zs))/\xs.length+zs.length<=sizeLine/\Q .non (upd H l (.lst (xs++zs)))
theorem yK2:MtM X "list.extend" rExtR:=by
 intro pins s σ H x vs v us Q I rx rv h
 obtain⟨l,b,xs,zs,rfl,rfl,hH,hB,hz,q⟩:=h
 cases rx
 obtain⟨u,rfl,ru⟩:=rv.one
 cases ru
 obtain⟨z,its,n,r,hl,e⟩:=I.lstM hH
 have len:(xs++zs).length<=sizeLine:=by rw[List.length_append];exact hz
 rcases hB with hB | hB
 ·obtain⟨z2,its2,n2,r2,hl2,e2⟩:=Rd.lstM I hB
  have hsz:its.toArray.size+its2.toArray.size<=sizeLine:=by rw[List.size_toArray,List.size_toArray];bv_omega
  have hlong:¬(!its.toArray.isEmpty&&Builtin.List.listTooLong (its.toArray.size+its2.toArray.size))=true:=by
   rw[notLongL hsz,Bool.and_false]
   exact Bool.false_ne_true
  refine call_meets F.slot_list_extend ⟨_,e,rfl⟩ F.entry_list_extend (F.args_list_extend_2 _ _)
   (AutoSeq1.list_extend_list_list_0 l its.toArray n b its2.toArray n2 hlong (by rw[List.size_toArray];bv_omega) (by bv_omega)) ⟨e,e2,?_⟩
  exact⟨.non,_,I.lset (its':=its++its2) hH e (by simp) (r.append r2) len,rfl,q⟩
 ·obtain⟨z2,its2,r2,o,ho,hc,⟨n2,hd⟩,_⟩:=hB.ok I.hok
  have hl2:=r2.length
  have hsz:its.toArray.size+its2.toArray.size<=sizeLine:=by rw[List.size_toArray,List.size_toArray];bv_omega
  refine call_meets F.slot_list_extend ⟨_,e,rfl⟩ F.entry_list_extend (F.args_list_extend_2 _ _)
   (yF2 hc hd hsz) ⟨e,ho,?_⟩
  exact⟨.non,_,I.lset (its':=its++its2) hH e (by simp) (r.append r2) len,rfl,q⟩
end
def appD:List D->List D->Option (List D)
 | xs,[d]=>if xs.length<sizeLine then some (xs ++ [d]) else none
 | _,_=>none
def extD:List D->List D->Option (List D)
 | xs,[d]=>(seqD d).bind fun ys=>if xs.length+ys.length<=sizeLine then some (xs++ys) else none
 | _,_=>none
theorem Reps.one' {H:Hp}{O:Addr->Prop}{vs:List V}{d:D}(h:Reps H O vs [d]):∃v,vs=[v]/\Rep H O v d:=by
 cases h with
 | cons a t=>cases t;exact⟨_,rfl,a⟩
theorem yW6:PrM rAppend appD:=by
 intro O H l xs vs xd ad ds' Q hl rx ra e k
 unfold appD at e
 split at e
 ·split at e
  ·rename_i h
   cases e
   obtain⟨v,rfl,rv⟩:=Reps.one' ra
   exact⟨l,xs,v,rfl,rfl,hl,by rw[rx.length];exact h,k _ (rx.append (.one rv))⟩
  ·cases e
 ·cases e
section
variable {i j:Nat}{m n:Ev->Res Out}{t:Ev->Res Bool}{me mk:Ev->Res D}{ms mi:Ev->Res (List D)}{g:D->Ev->Option Ev}{f:List D->List D->Option (List D)}
end
def isL:Value->Bool
 | .type t=>t == "list"
 | _=>false
def noLst (K:KFr):Bool:=K.all fun p=>!isL p.2.cls
theorem zP6 {K:KFr}{a:Addr}{o:Obj}(h:K.lookup a=some o):(a,o)∈K:=by
 have h:List.lookup a K=some o:=h
 induction K with
 | nil=>cases h
 | cons p r ih =>
  obtain⟨b,u⟩:=p
  rw[List.lookup_cons] at h
  by_cases e:(a == b)=true
  ·simp only[e] at h
   cases h
   have:a=b:=by simpa using e
   rw[this]
   exact List.mem_cons_self
  ·simp only[e] at h
   exact List.mem_cons_of_mem _ (ih h h)
theorem xN1 {K:KFr}{H:Hp}{a:Addr}{xs:List V}(hn:noLst K=true) (h:SqL K H a xs):Rd H a (.lst xs):=by
 rcases h with h | ⟨o,its,n,hk,hc,_⟩
 ·exact h
 ·have:=List.all_eq_true.mp hn _ (zP6 hk)
  rw[hc] at this
  cases this
theorem yT8 {F:List D->Res D}{k:Nat}{l:PySem.W.OpenLaw}{q:Program}{loose:List Str}{XP:(Str->Option Value)->Heap->Prop}{YP:World->Heap->Prop}{d:DefRec}{K:Params->KFr}(hT:∀ns:List Int,ns.length<=63->F [.list (ns.map PyData.int)]=.ok (.bool true)) (hr:Room k callerA) (hn:l.most=some 63) (hdf:d.params.defaults=[])
  (hY:∀(w:World) (h:Heap),YP w h->(K w.params).In h) (hL:∀w:World,noLst (K w.params)=true)
  (hF:∀(w:World) (mg:Str->Option Value) (fa:Addr) (h:Heap),(K w.params).In h->h.Ns mainGlobals mg->mg d.name=some (.ref fa) ->
   ∃fd:FuncData,(∀(s:Shared) (u:Value),BindsTo s fd ⟨[u],[]⟩ [("script",u)])/\∀base:Heap,(K w.params).In base->base.Ns mainGlobals mg->FnOk l.prog w (K w.params) mg base CX0 k fa fd ["script"] (spF false F)) (TT:TabsOk q K) :
  PySem.W.WalkO q loose XP YP l.row.toRowW d [] (fun f vs=>PySem.call f vs):=by
 refine L2.yC3 (n:=63) (k:=k) (x:="script") (CX:=fun _=>CX0) (sp:=fun w=>spF false F) hn (by decide) hdf hr hY hF (fun w H a ns hl hO hS => ?_) (fun _ _ _ _ _ z=>z) TT
 refine⟨[.list (ns.map PyData.int)],fun _=>False,fun a z=>z.elim,.cons (.lst (xN1 (hL w) hS) (fun z=>z) (uQ ns)) .nil,?_⟩
 rw[hT ns hl]
 intro v H' _ r
 cases (show Rep H' (fun _=>False) v (.bool true) from r)
 rfl
end L2.L3
namespace L2.L3
open PySem
section
variable (m n:Ev->Res Out) (t t':Ev->Res Bool) (a b c:Ev->Res D) (xs:Ev->Res (List D)) (ρ:Ev) (i j:Nat) (d:D)
theorem xP5:sN ρ=.ok (.nx ρ):=rfl
theorem xR9:sX ρ=.no:=rfl
theorem xQ4:sQ m n ρ=(m ρ).bind fun o=>match o with | .nx ρ'=>n ρ' | .rt d=>.ok (.rt d):=rfl
theorem xU5:sIf t m n ρ=(t ρ).bind fun k=>if k then m ρ else n ρ:=rfl
theorem zW5:sR a ρ=(a ρ).bind fun d=>.ok (.rt d):=rfl
theorem xQ2:sS i a ρ=(a ρ).bind fun d=>.ok (.nx (ρ.set i (some d))):=rfl
theorem xQ6:sE a ρ=(a ρ).bind fun _=>.ok (.nx ρ):=rfl
theorem xR1 (g:List D->List D->Option (List D)):sM i g xs ρ=(eV i ρ).bind fun d=>(Res.lft (lstD d)).bind fun xd=>(xs ρ).bind fun ad=>(Res.lft (g xd ad)).bind fun ds=>.ok (.nx (ρ.set i (some (.list ds)))):=rfl
theorem xS8:sI i b a ρ=(a ρ).bind fun v=>(eV i ρ).bind fun d=>(Res.lft (lstD d)).bind fun xd=>(b ρ).bind fun k=>(Res.lft (setD xd k v)).bind fun ds=>.ok (.nx (ρ.set i (some (.list ds)))):=rfl
theorem xS4:sV i j ρ=(eV j ρ).bind fun d=>.ok (.nx ((ρ.set i (some d)).set j none)):=rfl
theorem xO6 (g:D->Ev->Option Ev):sF xs g m ρ=(xs ρ).bind fun ds=>forM g m ds ρ:=rfl
theorem xQ9 (k:Nat):sW k t m ρ=whM t m k ρ:=rfl
theorem zX3:eC d ρ=.ok d:=rfl
theorem eV0 (x:D) (r:Ev):eV 0 (some x::r)=.ok x:=rfl
theorem eVs (o:Option D) (r:Ev):eV (i+1) (o::r)=eV i r:=rfl
theorem xR2 (f:D->Option D):e1 f a ρ=(a ρ).bind fun x=>Res.lft (f x):=rfl
theorem zX1 (f:D->D->Option D):e2 f a b ρ=(a ρ).bind fun x=>(b ρ).bind fun y=>Res.lft (f x y):=rfl
theorem zX5 (f:List D->Option D):eB f xs ρ=(xs ρ).bind fun ds=>Res.lft (f ds):=rfl
theorem xT8 (f:List D->Res D):eF f xs ρ=(xs ρ).bind f:=rfl
theorem xY4 (fr:Bool) (f:List D->Res D):eFA fr f xs ρ=(xs ρ).bind fun ds=>(f ds).bind fun d=>if lfT fr d then .ok d else .no:=rfl
theorem xP4 (f:D->D->Option Bool):b2 f a b ρ=(a ρ).bind fun x=>(b ρ).bind fun y=>Res.lft (f x y):=rfl
theorem zX6 (f g:D->D->Option Bool):b3 f g a b c ρ=(a ρ).bind fun x=>(b ρ).bind fun y=>(Res.lft (f x y)).bind fun k=>if k then (c ρ).bind fun z=>Res.lft (g y z) else .ok false:=rfl
theorem zW2:vB t ρ=(t ρ).bind fun k=>.ok (.bool k):=rfl
theorem xT9:tV a ρ=(a ρ).bind fun d=>Res.lft (isB d):=rfl
theorem yA8:tNt t ρ=(t ρ).bind fun k=>.ok (!k):=rfl
theorem xV8:tAn t t' ρ=(t ρ).bind fun k=>if k then t' ρ else .ok false:=rfl
theorem xQ5:tO t t' ρ=(t ρ).bind fun k=>if k then .ok true else t' ρ:=rfl
theorem cB:vAn a b ρ=(a ρ).bind fun d=>(Res.lft (isB d)).bind fun k=>if k then b ρ else .ok (.bool false):=rfl
theorem xP6:vO a b ρ=(a ρ).bind fun d=>(Res.lft (isB d)).bind fun k=>if k then .ok (.bool true) else b ρ:=rfl
theorem xU4:vNt a ρ=(a ρ).bind fun d=>(Res.lft (isB d)).bind fun k=>.ok (.bool (!k)):=rfl
theorem xX3:eIf t a b ρ=(t ρ).bind fun k=>if k then a ρ else b ρ:=rfl
theorem zW4:aN ρ=.ok []:=rfl
theorem zX4:aC a xs ρ=(a ρ).bind fun x=>(xs ρ).bind fun r=>.ok (x::r):=rfl
theorem xT6:iS a ρ=(a ρ).bind fun d=>Res.lft (seqD d):=rfl
theorem xR4 (f:List D->Option (List D)):iR f xs ρ=(xs ρ).bind fun ds=>Res.lft (f ds):=rfl
theorem xO9:gN i d ρ=some (ρ.set i (some d)):=rfl
theorem yH5:tYes ρ=.ok true:=rfl
theorem yV6 (mi:Ev->Res (List D)) (js:List Nat):eComp mi t a js ρ=(mi ρ).bind fun ds=>if ds.length<=sizeLine then (compM (fun x=>t (cEnv ρ js x)) (fun x=>a (cEnv ρ js x)) ds).bind fun out=>.ok (.list out) else .no:=rfl
theorem xO8 (f:Int->Int->Option Int) (x y:Int):i2 f (.int x) (.int y)=(f x y).map PyData.int:=rfl
theorem zX2 (f:Int->Int->Bool) (x y:Int):c2 f (.int x) (.int y)=some (f x y):=rfl
theorem yF5 (l:List D):lstD (.list l)=some l:=rfl
theorem zD6 (l:List D):seqD (.list l)=some l:=rfl
theorem yY4 (l:List D):seqD (.tuple l)=some l:=rfl
theorem cL (k:Bool):isB (.bool k)=some k:=rfl
theorem bB:lenD [d]=(seqD d).map fun ds=>.int ds.length:=rfl
theorem yN1:listD [d]=(seqD d).map fun ds=>.list ds:=rfl
theorem yH2:tupD [d]=(seqD d).map fun ds=>.tuple ds:=rfl
theorem xO2 (l:List D) (k:Int):ixD (.list l) (.int k)=atI l k:=rfl
theorem xP2 (l:List D) (k:Int):ixD (.tuple l) (.int k)=atI l k:=rfl
theorem yE3 (k:Int):negD (.int k)=some (.int (-k)):=rfl
theorem zX9 (k:Bool):bD (some k)=some (.bool k):=rfl
end
theorem cZ (fr:Bool) (d:D):fin fr (.rt d)=.ok d:=rfl
theorem xV2 (ρ:Ev):fin false (.nx ρ)=.ok .none:=rfl
theorem vJ {g:D->Ev->Option Ev}{b:Ev->Res Out}(P:Nat->Ev->Prop) (ds:List D) (ρ:Ev) (h0:P 0 ρ) (hs:∀(i:Nat) d ρ,ds[i]?=some d->P i ρ->∃ρ1 ρ2,g d ρ=some ρ1/\b ρ1=.ok (.nx ρ2)/\P (i+1) ρ2) :
  ∃ρ',forM g b ds ρ=.ok (.nx ρ')/\P ds.length ρ':=by
 induction ds generalizing P ρ with
 | nil=>exact⟨ρ,rfl,h0⟩
 | cons d ds ih =>
  obtain⟨ρ1,ρ2,e1,e2,p⟩:=hs 0 d ρ rfl h0
  obtain⟨ρ',e,p'⟩:=ih (fun i=>P (i+1)) ρ2 p fun i d ρ hd hp=>hs (i+1) d ρ (by simpa using hd) hp
  refine⟨ρ',?_,by simpa using p'⟩
  rw[forM,e1,Res.lft_some,Res.bind_ok,e2,Res.bind_ok]
  exact e
theorem gO {t:D->Res Bool}{f:D->Res D}{α:Type}(A:α->D) (p:α->Bool) (q:α->D):∀(xs:List α),(∀x∈xs,t (A x)=.ok (p x))->(∀x∈xs,p x=true->f (A x)=.ok (q x))->compM t f (xs.map A)=.ok ((xs.filter p).map q)
 | [],_,_=>rfl
 | x::xs,ht,hf=>by
  have ih:=gO A p q xs (fun y hy=>ht y (List.mem_cons_of_mem _ hy)) (fun y hy=>hf y (List.mem_cons_of_mem _ hy))
  rw[List.map_cons,compM,ht x List.mem_cons_self]
  cases hp:p x with
  | false=>simp only[noEx,Res.bind_ok,Bool.false_eq_true,if_false,List.filter_cons,hp];exact ih
  | true =>
   rw[hf x List.mem_cons_self hp,ih]
   simp[noEx,List.filter_cons,hp]
abbrev tI (ns:List Int):D:=.tuple (ns.map PyData.int)
abbrev lI (ns:List Int):D:=.list (ns.map PyData.int)
theorem wF {α β:Type}(f:α->β) (xs:List α) (i:Int):atI (xs.map f) i=(atI xs i).map f:=by
 unfold atI
 rw[List.length_map]
 cases ixN xs.length i with
 | none=>rfl
 | some j=>simp
theorem wJ {xs:List Int}{j:Nat}(h:j<xs.length):atI xs (j:Int)=some (xs.getD j 0):=by
 refine bJ ?_
 rw[List.getD_eq_getElem?_getD,List.getElem?_eq_getElem h]
 rfl
theorem hZ {ds:List D}(h:ds.length<=1000):mkL ds=some (.list ds):=by
 unfold mkL
 exact if_pos (Nat.le_of_lt (small1000 h))
theorem cJ {ds:List D}(h:ds.length<=1000):mkT ds=some (.tuple ds):=by
 unfold mkT
 exact if_pos (Nat.le_of_lt (small1000 h))
theorem mkL0:mkL []=some (.list []):=hZ (by simp)
theorem mkL1 (a:D):mkL [a]=some (.list [a]):=hZ (by simp)
theorem mkL2 (a b:D):mkL [a,b]=some (.list [a,b]):=hZ (by simp)
theorem mkL3 (a b c:D):mkL [a,b,c]=some (.list [a,b,c]):=hZ (by simp)
theorem mkL4 (a b c d:D):mkL [a,b,c,d]=some (.list [a,b,c,d]):=hZ (by simp)
theorem mkT0:mkT []=some (.tuple []):=cJ (by simp)
theorem mkT1 (a:D):mkT [a]=some (.tuple [a]):=cJ (by simp)
theorem mkT2 (a b:D):mkT [a,b]=some (.tuple [a,b]):=cJ (by simp)
theorem mkT3 (a b c:D):mkT [a,b,c]=some (.tuple [a,b,c]):=cJ (by simp)
theorem xU8 {l:List D}{d:D}(h:l.length<=1000):appD l [d]=some (l ++ [d]):=if_pos (small1000 h)
theorem zV2 {l k:List D}{d:D}(hd:seqD d=some k) (h:l.length+k.length<=1000):extD l [d]=some (l++k):=by
 show (seqD d).bind (fun ys=>if l.length+ys.length<=sizeLine then some (l++ys) else none)=_
 rw[hd]
 exact if_pos (Nat.le_of_lt (small1000 h))
theorem zJ6 {ds:List D}{r:Res D}(h:ds.length<=1000):(if ds.length<=sizeLine then r else .no)=r:=if_pos (Nat.le_of_lt (small1000 h))
theorem vC {n:Nat}(h:n<=1000):rng1 [.int (n:Int)]=some ((List.range n).map fun (i:Nat)=>PyData.int (i:Int)):=by
 unfold rng1
 simp only
 rw[if_pos ⟨by bv_omega,by bv_omega⟩,Int.toNat_natCast]
theorem bU {n i:Nat}{d:D}(h:((List.range n).map fun (i:Nat)=>PyData.int (i:Int))[i]?=some d):i<n/\d=.int (i:Int):=by
 rw[List.getElem?_map] at h
 by_cases hi:i<n
 ·rw[List.getElem?_range hi] at h
  cases h
  exact⟨hi,rfl⟩
 ·rw[List.getElem?_eq_none (by simpa using hi)] at h
  cases h
theorem uC (i:Int):SeqAt.shaped (.int i)=true:=rfl
theorem fW (i j:Int):PyData.eqv (.int i) (.int j)=decide (i=j):=by
 rw[PyData.eqv]
 exact Bool.beq_eq_decide_eq i j
theorem fP (i j:Int):eqD (.int i) (.int j)=some (decide (i=j)):=by
 unfold eqD
 rw[if_pos ⟨uC i,uC j⟩,fW]
theorem zI5 (i j:Int):neD (.int i) (.int j)=some (!decide (i=j)):=by
 unfold neD
 rw[if_pos ⟨uC i,uC j⟩,fW]
theorem xX9 (ns ms:List Int):eqD (lI ns) (lI ms)=some (decide (ns=ms)):=by
 unfold eqD
 rw[if_pos ⟨fB ns,fB ms⟩,yG1]
theorem xZ9 (ns ms:List Int):eqD (tI ns) (tI ms)=some (decide (ns=ms)):=by
 unfold eqD
 rw[if_pos ⟨vW ns,vW ms⟩,bT]
theorem xZ7 (ns ms:List Int):neD (tI ns) (tI ms)=some (!decide (ns=ms)):=by
 unfold neD
 rw[if_pos ⟨vW ns,vW ms⟩,bT]
abbrev rows (rs:List (List Int)):D:=.list (rs.map tI)
theorem dZ:∀rs:List (List Int),PyData.canLayAll0 (rs.map tI)=true
 | []=>rfl
 | r::rs=>by
  rw[List.map_cons,PyData.canLayAll0,dZ rs]
  simp[PyData.canLay0,PySem.W.ke_canLayAll0]
theorem zH8 (rs:List (List Int)):PyData.depthAll (rs.map tI)<=3:=by
 induction rs with
 | nil=>exact Nat.zero_le _
 | cons r rs ih =>
  simp only[List.map_cons,PyData.depthAll,PyData.depth,PySem.W.ke_depthAll]
  bv_omega
theorem fE (rs:List (List Int)):SeqAt.shaped (rows rs)=true:=by
 have h:=zH8 rs
 have h1:PyData.canLay0 (rows rs)=true:=by rw[PyData.canLay0];exact dZ rs
 have h2:PyData.depth (rows rs)<=64:=by rw[PyData.depth];bv_omega
 unfold SeqAt.shaped
 rw[h1,decide_eq_true h2]
 rfl
theorem zG7 {α:Type} [DecidableEq α] {f:α->D}(h:∀a b,PyData.eqv (f a) (f b)=decide (a=b)) (xs:List α):∀ys:List α,PyData.eqvAll (xs.map f) (ys.map f)=decide (xs=ys):=by
 induction xs with
 | nil=>intro ys;cases ys <;> simp[PyData.eqvAll]
 | cons a r ih =>
  intro ys
  cases ys with
  | nil=>simp[PyData.eqvAll]
  | cons b t =>
   rw[List.map_cons,List.map_cons,PyData.eqvAll,h,ih]
   simp[List.cons.injEq]
theorem zO7 (rs qs:List (List Int)):PyData.eqvAll (rs.map tI) (qs.map tI)=decide (rs=qs):=zG7 (fun a b=>bT a b) rs qs
theorem yO8 (rs qs:List (List Int)):neD (rows rs) (rows qs)=some (!decide (rs=qs)):=by
 unfold neD
 rw[if_pos ⟨fE rs,fE qs⟩]
 congr 2
 rw[PyData.eqv]
 exact zO7 rs qs
theorem zK5 {n m:Nat}(h:m<n):ixN n (m:Int)=some m:=by
 unfold ixN
 rw[if_pos (by bv_omega),if_pos (by bv_omega),Int.toNat_natCast]
theorem yX7 {n m:Nat}(h:m<n) (f:Nat->D) (v:D):((List.range n).map f).set m v=(List.range n).map fun c=>if c=m then v else f c:=by
 apply List.ext_getElem?
 intro i
 by_cases e:m=i
 ·subst e
  rw[List.getElem?_set_self (by simpa using h),List.getElem?_map,List.getElem?_range h]
  simp
 ·rw[List.getElem?_set_ne e,List.getElem?_map,List.getElem?_map]
  cases q:(List.range n)[i]? with
  | none=>rfl
  | some c =>
   have:c=i:=by
    have hi:=(List.getElem?_eq_some_iff.mp q).1
    rw[List.getElem?_range (by simpa using hi)] at q
    cases q;rfl
   subst this
   show some (f c)=some (if c=m then v else f c)
   rw[if_neg (fun z=>e z.symm)]
theorem zU8 (v:D) (n:Nat) (h:n<=1000):repL (.list [v]) (.int (n:Int))=some (.list (List.replicate n v)):=by
 unfold repL
 simp only
 rw[if_pos ⟨by bv_omega,by bv_omega,by rw[List.length_singleton,Int.toNat_natCast];exact Nat.le_of_lt (small1000 (by bv_omega))⟩,Int.toNat_natCast]
 congr 2
 induction n with
 | zero=>rfl
 | succ n ih=>rw[List.replicate_succ,List.flatten_cons,ih (by bv_omega),List.replicate_succ];rfl
theorem zG1 {n:Nat}(h:n<=1000):rangeL [.int (n:Int)]=some (lI ((List.range n).map fun (i:Nat)=>(i:Int))):=by
 unfold rangeL
 simp only
 rw[if_pos ⟨by bv_omega,by bv_omega⟩,Int.toNat_natCast]
 congr 2
 rw[List.map_map]
 rfl
theorem yO4 {ns:List Int}(h:ns.length<=63):sortD [lI ns]=some (lI (sortI ns)):=by
 unfold sortD
 simp only[nsD,seqD,Option.bind_some,intsOf_map]
 rw[if_pos (by bv_omega)]
theorem yJ3 {ns:List Int}(h:ns ≠ []):min1D [tI ns]=some (.int (minL ns)):=by
 unfold min1D
 simp only[nsD,seqD,Option.bind_some,intsOf_map]
 rw[if_neg h]
section
variable (i:Int) (b:Bool) (l:List D)
theorem xZ5:isiD "int" (.int i)=some (.bool true):=rfl
theorem xW6:isiD "bool" (.int i)=some (.bool false):=rfl
theorem yA2:isiD "bool" (.bool b)=some (.bool true):=rfl
theorem yA9:isiD "int" (.bool b)=some (.bool true):=rfl
theorem yA6:isiD "tuple" (.tuple l)=some (.bool true):=rfl
theorem xU6:isiD "list" (.list l)=some (.bool true):=rfl
theorem xV5:isiD "tuple" (.list l)=some (.bool false):=rfl
theorem xY9:isiD "list" (.tuple l)=some (.bool false):=rfl
theorem yA1:isiD "tuple" .none=some (.bool false):=rfl
theorem xX6:isiD "bool" .none=some (.bool false):=rfl
end
theorem yV5 {mi:Ev->Res (List D)}{t:Ev->Res Bool}{me:Ev->Res D}{js:List Nat}{ρ:Ev}{α:Type}(A:α->D) (p:α->Bool) (q:α->D) (xs:List α) (h:mi ρ=.ok (xs.map A)) (hl:xs.length<=1000)
  (ht:∀x∈xs,t (cEnv ρ js (A x))=.ok (p x)) (hf:∀x∈xs,p x=true->me (cEnv ρ js (A x))=.ok (q x)):eComp mi t me js ρ=.ok (.list ((xs.filter p).map q)):=by
 rw[yV6,h,Res.bind_ok,zJ6 (by rw[List.length_map];exact hl),gO A p q xs ht hf]
 rfl
theorem uP {mi:Ev->Res (List D)}{me:Ev->Res D}{js:List Nat}{ρ:Ev}{α:Type}(A:α->D) (q:α->D) (xs:List α) (h:mi ρ=.ok (xs.map A)) (hl:xs.length<=1000)
  (hf:∀x∈xs,me (cEnv ρ js (A x))=.ok (q x)):eComp mi tYes me js ρ=.ok (.list (xs.map q)):=by
 rw[yV5 A (fun _=>true) q xs h hl (fun _ _=>rfl) (fun x hx _=>hf x hx),List.filter_eq_self.mpr fun _ _=>rfl]
end L2.L3
namespace L2.L3
end L2.L3
namespace HT
open PySem PySem.Spec PyProof.Rows
section
variable {prog:Program}{w:World}{A:Around}{E:Value->Shared->Prop}{s:Shared}
theorem fF {t sl:Addr}{items:Array Value}{vl vu:Value}{lo hi:Option Int}{Q:Value->Shared->Prop}(ht:IsTup s.heap t items) (hs:s.heap.IsSliceOf sl vl vu .none) (pl:IsPart vl lo) (pu:IsPart vu hi)
  (hw:sIx items.size 0 lo=0/\sIx items.size items.size hi=items.size) (h:Q (.ref t) s):wpAny (model prog w) A (getItem (.ref t) (.ref sl)) Q E s:=by
 obtain⟨os,hos,hcs,hds⟩:=id hs
 have hTs:s.TypeIs (.ref sl) "slice":=⟨os,hos,hcs⟩
 unfold getItem
 try with_reducible refine wpAny_holding ?_
 first | refine wpAny_bind (wpAny_pure ?_) | skip
 refine wpAny_bind (wpAny_sequenceKey ht.typeIs (by decide) ?_)
 refine wpAny_bind (wpAny_callSpecial?_slot (name:=Str.ofString "__getitem__") ht.typeIs PyProof.Rows.slot_tuple_getitem
  (wpAny_call_entry PyProof.Rows.slot_tuple_getitem ht.typeIs entry_tuple_getitem ?_ (args_tuple_getitem _ _)))
 show wpAny _ _ (Builtin.Tuple.tupleItemsOf (.ref t) >>= _) _ _ s
 refine wpAny_bind (tupleItemsOf_ ht ?_)
 refine wpAny_bind (wpAny_typeOf hTs ?_)
 rw[if_pos (by decide)]
 refine wpAny_bind (qK hs pl pu ?_)
 have hyes:(((sIx items.size 0 lo:Nat):Int) == 0&&(1:Int) == 1&&(sIx items.size items.size hi-sIx items.size 0 lo) == items.size)=true:=by
  rw[hw.1,hw.2]
  simp
 show wpAny _ _ (if (((sIx items.size 0 lo:Nat):Int) == 0&&(1:Int) == 1&&(sIx items.size items.size hi-sIx items.size 0 lo) == items.size)=true then _ else _) _ _ s
 rw[if_pos hyes]
 unfold Builtin.Tuple.tupleIsExact
 refine wpAny_bind (wpAny_bind (wpAny_typeOf ht.typeIs (wpAny_pure ?_)))
 rw[if_pos (by decide)]
 refine wpAny_bind (wpAny_rule ?_)
 exact wpAny_pure ⟨_,rfl,wpAny_pure h⟩
end
end HT
namespace L2.L3
open PySem PySem.Spec PyProof.Rows
variable [CN]
section
variable {X:Cx}
def rSlTA (K:KFr):V->Option Int->Option Int->Hp->VK->Prop:=fun x lo hi H Q=>∃a xs,x=.ref a/\SqT K H a xs/\HT.sIx xs.length 0 lo=0/\HT.sIx xs.length xs.length hi=xs.length/\Q (.ref a) H
theorem yG4:SlR X (rSlTA X.K):=by
 intro pins s σ H x v vl vu lo hi sl Q I rx hs pl pu h
 obtain⟨a,xs,rfl,hx,hw1,hw2,q⟩:=h
 cases rx
 obtain⟨its,r,ht,hz⟩:=I.tuple hx
 have hlen:its.toArray.size=xs.length:=by rw[List.size_toArray];exact r.length.symm
 refine⟨"tuple",_,PyProof.Rows.slot_tuple_getitem.lookup,ht.typeIs,?_⟩
 exact HT.fF ht hs pl pu (by rw[hlen];exact⟨hw1,hw2⟩) ⟨.ref a,H,I,rfl,q⟩
end
def RO (C:Ct) (e:Option Expr) (m:Ev->Res (Option Int)):Prop :=
 ∃t,PO C.X e t/\∀(Oc:Wd) (Ob:Addr->Prop) (σ:St) (H:Hp) (ρ:Ev) (Q:Option Int->Hp->Prop),Rel Oc Ob C.om C.ln σ H ρ ->
  (m ρ).post (fun d=>∀H',Same H H'->Q d H') (fun c=>∀H',Same H H'->C.XE c H')->t σ H Q
def oN:Ev->Res (Option Int):=fun _=>.ok none
def isI:D->Option Int
 | .int i=>some i
 | _=>none
def oS (m:Ev->Res D):Ev->Res (Option Int):=fun ρ=>(m ρ).bind fun d=>(Res.lft (isI d)).bind fun i=>.ok (some i)
theorem fR {C:Ct}:RO C none oN:=⟨_,yI1,fun Oc Ob σ H ρ Q R h=>h H (Same.refl H)⟩
theorem jQ {C:Ct}{e:Expr}{md:Md}{me:Ev->Res D}(h:RE C md e me):RO C (some e) (oS me):=by
 obtain⟨t,p,q⟩:=h
 refine⟨_,yI4 p,fun Oc Ob σ H ρ Q R h=>q Oc Ob σ H ρ _ R (Res.zS (Res.zX h) (fun d _ k v H' s r => ?_) fun _ z=>z)⟩
 obtain⟨i,e,k⟩:=Res.zE (Res.zX k)
 cases d with
 | int j=>cases e;exact⟨i,(r.va R.oh).int,k H' s⟩
 | _=>cases e
def eS (f:D->Option Int->Option Int->Option D) (m:Ev->Res D) (lo hi:Ev->Res (Option Int)):Ev->Res D:=fun ρ=>(m ρ).bind fun x=>(lo ρ).bind fun l=>(hi ρ).bind fun u=>Res.lft (f x l u)
def PrS (r:V->Option Int->Option Int->Hp->VK->Prop) (md:Md) (f:D->Option Int->Option Int->Option D):Prop :=
 ∀(Oc:Wd) (Ob:Addr->Prop) (H:Hp) (x:V) (dx:D) (lo hi:Option Int) (d:D) (Q:VK),(∀a,Oc a\/Ob a->H a≠none)->VA Oc Ob H x dx->f dx lo hi=some d->(∀v H',Same H H'->VR md Oc Ob H H' v d->Q v H')->r x lo hi H Q
theorem yP9 {C:Ct}{e:Expr}{lo hi:Option Expr}{md mda:Md}{me:Ev->Res D}{ml mh:Ev->Res (Option Int)}{p2 pos:Pos}{r:V->Option Int->Option Int->Hp->VK->Prop}{f:D->Option Int->Option Int->Option D}(hr:SlR C.X r) (hp:PrS r md f) (he:RE C mda e me) (hl:RO C lo ml) (hu:RO C hi mh) :
  RE C md (.Subscript e (.Slice lo hi none p2) pos) (eS f me ml mh):=by
 obtain⟨t,p,q⟩:=he
 obtain⟨tl,pl,ql⟩:=hl
 obtain⟨th,ph,qh⟩:=hu
 refine⟨_,yO1 hr p pl ph,fun Oc Ob σ H ρ Q R h=>q Oc Ob σ H ρ _ R (Res.zS (Res.zX h) (fun d _ k v H1 s1 r => ?_) fun _ z=>z)⟩
 refine ql Oc Ob σ H1 ρ _ (R.same s1) (Res.zS (Res.zX k) (fun l _ k H2 s2 => ?_) fun c z H' s'=>z H' (s1.trans s'))
 refine qh Oc Ob σ H2 ρ _ ((R.same s1).same s2) (Res.zS (Res.zX k) (fun u _ k H3 s3 => ?_) fun c z H' s'=>z H' ((s1.trans s2).trans s'))
 obtain⟨d',e,k⟩:=Res.zE k
 have R3:=((R.same s1).same s2).same s3
 refine hp Oc Ob H3 v d l u d' Q R3.oh ((r.va R.oh).same (s2.trans s3)) e fun w H' s4 rw' => ?_
 exact k w H' (((s1.trans s2).trans s3).trans s4) (rw'.from ((s1.trans s2).trans s3))
def cutD {α:Type}(xs:List α) (lo hi:Option Int):List α:=(xs.drop (HT.sIx xs.length 0 lo)).take (HT.sIx xs.length xs.length hi-HT.sIx xs.length 0 lo)
theorem aE {H:Hp}{O:Addr->Prop}{vs:List V}{ds:List D}(r:Reps H O vs ds) (lo hi:Option Int):Reps H O (cutV vs lo hi) (cutD ds lo hi):=by
 unfold cutV cutD
 rw[r.length]
 exact (r.drop _).take _
def slL:D->Option Int->Option Int->Option D
 | .list ds,lo,hi=>some (.list (cutD ds lo hi))
 | _,_,_=>none
def slD:D->Option Int->Option Int->Option D
 | .list ds,lo,hi=>some (.list (cutD ds lo hi))
 | .tuple ds,lo,hi=>some (.tuple (cutD ds lo hi))
 | _,_,_=>none
theorem yH4 {α:Type}{xs:List α}{lo hi:Option Int}(h1:HT.sIx xs.length 0 lo=0) (h2:HT.sIx xs.length xs.length hi=xs.length):cutD xs lo hi=xs:=by
 unfold cutD
 rw[h1,h2,List.drop_zero,Nat.sub_zero,List.take_length]
theorem xY7 {K:KFr}:PrS (fun x lo hi H Q=>rSlL K x lo hi H Q\/rSlT K x lo hi H Q\/rSlTA K x lo hi H Q) .cl slD:=by
 intro Oc Ob H x dx lo hi d Q oh va e k
 cases dx with
 | list ds =>
  cases e
  obtain⟨a,ys,rfl,rd,rs⟩:=va.list
  exact .inl ⟨a,ys,rfl,.inl rd,fun p hp=>k _ _ (Same.new hp) (VR.clean (xY (Same.refl H) hp (aE rs lo hi)) oh)⟩
 | tuple ds =>
  cases e
  rcases va with va | ⟨_,_,_,_,ez,_⟩
  ·cases va with
   | @tup a ys _ rd n rs =>
    by_cases hw:HT.sIx ys.length 0 lo=0/\HT.sIx ys.length ys.length hi=ys.length
    ·refine .inr (.inr ⟨a,ys,rfl,.inl rd,hw.1,hw.2,k _ H (Same.refl H) ?_⟩)
     rw[yH4 (by rw[<-rs.length];exact hw.1) (by rw[<-rs.length];exact hw.2)]
     exact .tup rd n rs
    ·exact .inr (.inl ⟨a,ys,rfl,.inl rd,hw,fun p hp=>k _ _ (Same.new hp) (vF oh hp (aE rs lo hi))⟩)
  ·cases ez
 | _=>cases e
theorem kB {C:Ct}{e:Expr}{lo hi:Option Expr}{mda:Md}{me:Ev->Res D}{ml mh:Ev->Res (Option Int)}{p2 pos:Pos}(he:RE C mda e me) (hl:RO C lo ml) (hu:RO C hi mh):RE C .cl (.Subscript e (.Slice lo hi none p2) pos) (eS slD me ml mh):=yP9 (yD8.or (xX8.or yG4)) xY7 he hl hu
theorem yY6 {C:Ct}{fr:Bool}(i:Nat){x:Str}{a:Expr}{md:Md}{ma:Ev->Res D}{p' apos cpos pos:Pos}(ha:RE C md a ma)
  (hN:autoParam (C.X.N[i]?=some x) zZ._auto_1) (ho:autoParam (C.om.contains i=true) zZ._auto_1) (hv:autoParam (Vis C.X.env.scope x) qE._auto_1) (hd:autoParam ((x == ("__debug__":Str))=false) zL._auto_1) (hcd:autoParam ((x == ("__classdict__":Str))=false) zL._auto_1)
  (hbase:autoParam (attributeBase (.Name x p') "extend" C.X.env (eval (.Name x p') C.X.env)=eval (.Name x p') C.X.env) zZ._auto_1)
  (hfew:((backTo cpos (starEach [a] C.X.env)).all (fun x=>!x.1)&&(backToKw cpos (keywordEach [] C.X.env)).all (fun x=>x.1.isSome)
  &&decide ([a].length+([]:List Keyword).length+(if ([]:List Keyword).isEmpty then 0 else 1)<30))=true:=by rfl)
  (hline:autoParam ((apos.endLine == cpos.line)=true) zZ._auto_1) (hs:autoParam (starEach [a] C.X.env=(false,eval a C.X.env)::starEach [] C.X.env) zZ._auto_1) (hplain:autoParam ((backTo cpos (starEach [] C.X.env)).any (·.1)=false) zZ._auto_1)
  (hsw:autoParam (swapsWith (.Call (.Attribute (.Name x p') "extend" apos) [a] [] cpos) none pos.line C.X.env=pure false) zZ._auto_1) :
  RS C fr (.Expr (.Call (.Attribute (.Name x p') "extend" apos) [a] [] cpos) pos) (sM i extD (aC ma aN)):=by
 obtain⟨t,p,q⟩:=ha
 refine⟨_,wG (qC PySem.F.plainAttrs_list PySem.F.slot_list_extend PySem.F.type_list_extend yK2 (uI hN hv hd hcd) (zU p zO hs) hbase hfew hline hs hplain) hsw,fun Oc Ob σ H ρ E R h => ?_⟩
 obtain⟨d,ed,k⟩:=qU (Res.zX h)
 obtain⟨xd,ex,k⟩:=Res.zE (Res.zX k)
 obtain rfl:=qB ex
 obtain⟨v,qv,l,ys,ds,rfl,e2,e3,e4,e5⟩:=R.own i _ ed (xF ho)
 cases e2
 refine⟨_,qv,.inl ⟨rfl,_,SqL.of e3⟩,q Oc Ob σ H ρ _ R (Res.zS (Res.zX (Res.zX k)) (fun ad _ k w H' s r' => ?_) fun c z H' s=>z H' (Same.frm s))⟩
 obtain⟨ds',eg,k⟩:=Res.zE (Res.zX (show ((Res.lft (extD xd [ad])).bind fun ds=>Res.ok (Out.nx (ρ.set i (some (.list ds))))).post _ _ from k))
 obtain⟨zs,e1,eg⟩:=Option.bind_eq_some_iff.mp (show (seqD ad).bind (fun ys=>if xd.length+ys.length<=sizeLine then some (xd++ys) else none)=some ds' from eg)
 split at eg
 ·rename_i hl
  cases eg
  have va:=r'.va R.oh
  have fin:∀(b:Addr) (ws:List V),(Rd H' b (.lst ws)\/Rd H' b (.tup ws))->Reps H' (Uni Oc Ob) ws zs->rExtR (.ref l) [.ref b] H' fun _ H1=>E.nx σ H1:=fun b ws rd rs=>by
   refine⟨l,b,ys,ws,rfl,rfl,s _ _ e3,rd,by rw[e5.length,rs.length];exact hl,?_⟩
   refine k _ _ Ob ((R.same s).write (xF ho) ed qv (s _ _ e3) e4 ((e5.same s).append rs)) (fun b o e n => ?_) fun b z=>.inl z
   rw[zY (fun z=>n (by subst z;exact e4))]
   exact s b o e
  cases ad with
  | list ds' =>
   cases e1
   obtain⟨b,ws,rfl,rd,rs⟩:=va.list
   exact fin b ws (.inl rd) rs
  | tuple ds' =>
   cases e1
   obtain⟨b,ws,rfl,rd,rs⟩:=va.tuple
   exact fin b ws (.inr rd) rs
  | _=>cases e1
 ·cases eg
section
variable (a:Ev->Res D) (l h:Ev->Res (Option Int)) (ρ:Ev) (f:D->Option Int->Option Int->Option D)
theorem xS2:eS f a l h ρ=(a ρ).bind fun x=>(l ρ).bind fun lo=>(h ρ).bind fun u=>Res.lft (f x lo u):=rfl
theorem xS7:oN ρ=.ok none:=rfl
theorem xP8:oS a ρ=(a ρ).bind fun d=>(Res.lft (isI d)).bind fun i=>.ok (some i):=rfl
theorem yA4 (i:Int):isI (.int i)=some i:=rfl
theorem xU2 (ds:List D) (lo hi:Option Int):slL (.list ds) lo hi=some (.list (cutD ds lo hi)):=rfl
theorem xO4 (ds:List D) (lo hi:Option Int):slD (.list ds) lo hi=some (.list (cutD ds lo hi)):=rfl
theorem xR7 (ds:List D) (lo hi:Option Int):slD (.tuple ds) lo hi=some (.tuple (cutD ds lo hi)):=rfl
end
theorem xW4 {α:Type}(xs:List α) (k:Nat):cutD xs none (some (k:Int))=xs.take k:=by
 unfold cutD
 rw[HT.zQ1,HT.zM5,List.drop_zero,Nat.sub_zero]
 by_cases h:k<=xs.length
 ·rw[Nat.min_eq_left h]
 ·rw[Nat.min_eq_right (by bv_omega),List.take_length,List.take_of_length_le (by bv_omega)]
theorem yR4 {α:Type}(xs:List α) (k:Nat):cutD xs (some (k:Int)) none=xs.drop k:=by
 unfold cutD
 rw[HT.zQ1,HT.zM5]
 by_cases h:k<=xs.length
 ·rw[Nat.min_eq_left h,List.take_of_length_le (by rw[List.length_drop];bv_omega)]
 ·rw[Nat.min_eq_right (by bv_omega),List.drop_eq_nil_of_le (show xs.length<=k by bv_omega)]
  simp
end L2.L3
namespace L2.L3
open PySem
theorem zK9 (i:Int):∀ns:List Int,(ns.map PyData.int).any (fun z=>eqF z (.int i))=ns.contains i
 | []=>rfl
 | n::ns=>by
  rw[List.map_cons,List.any_cons,zK9 i ns,List.contains_cons]
  congr 1
  show (n == i)=(i == n)
  rw[Bool.eq_iff_iff]
  simp only[beq_iff_eq]
  exact eq_comm
theorem zM4:∀ns:List Int,(ns.map PyData.int).all flD=true
 | []=>rfl
 | n::ns=>by rw[List.map_cons,List.all_cons,zM4 ns];rfl
theorem yM8 (neg:Bool) (i:Int) (ns:List Int):inD neg (.int i) (lI ns)=some (if neg then !ns.contains i else ns.contains i):=by
 unfold inD
 show (if flD (.int i)=true/\(ns.map PyData.int).all flD=true then _ else none)=_
 rw[if_pos ⟨rfl,zM4 ns⟩,zK9]
theorem yK3 {ns:List Int}(h:ns ≠ []):max1D [tI ns]=some (.int (maxL ns)):=by
 unfold max1D
 simp only[nsD,seqD,Option.bind_some,intsOf_map]
 rw[if_neg h]
theorem zL2 {α β:Type}{g:D->Ev->Option Ev}{b:Ev->Res Out}{ds:List D}{ρ:Ev}{k:Out->Res α}{k':α->Res β}{R:Res β}(P:Nat->Ev->Prop) (h0:P 0 ρ) (hs:∀(i:Nat) d ρ,ds[i]?=some d->P i ρ->∃ρ1 ρ2,g d ρ=some ρ1/\b ρ1=.ok (.nx ρ2)/\P (i+1) ρ2)
  (hd:∀ρ',P ds.length ρ'->(k (.nx ρ')).bind k'=R):((forM g b ds ρ).bind k).bind k'=R:=by
 obtain⟨ρ',e,p⟩:=vJ P ds ρ h0 hs
 rw[e,Res.bind_ok]
 exact hd ρ' p
end L2.L3
namespace L2
open PySem PySem.Spec PyProof.Rows
theorem zM1 {X:Cx}{elt iter:Expr}{ifs:List Expr}{sc0 scope:Scope}{N0:List Str}{px py pos spos:Pos}{xt y:Str}{fs:List Str}{js:List Nat}{i:Nat}{wi:TI}{tt:Addr->List Addr->Shared->Hp->TT}{te:Addr->List Addr->Shared->Hp->TE}(S:CompScope sc0 scope N0 xt fs js) (h0:X.env.scope=sc0) (hN0:X.N=N0) (hc:X.calm=true)
  (hi:PI X (.Name xt px) iter wi) (ht:∀C fp s₂ H,PTs (cxComp X (xt::fs) scope C fp s₂ H) ifs (tt C fp s₂ H)) (he:∀C fp s₂ H,PE (cxComp X (xt::fs) scope C fp s₂ H) elt (te C fp s₂ H))
  (nd:X.N.Nodup) (hy:X.N[i]?=some y) (hl:Loc X.env.scope y) (hsw:swapsWith (.ListComp elt [⟨.Name xt px,iter,ifs,0⟩] scope pos) (some (.Name y py)) spos.line X.env=pure true)
  (hs:autoParam (∀x,foldedSetIterable iter X.env x=pure x) xB._auto_1) (hf:autoParam (X.fn y=true\/X.env.scope.names.lookup y=some .local) gE._auto_1) :
  PS X (.Assign [.Name y py] (.ListComp elt [⟨.Name xt px,iter,ifs,0⟩] scope pos) spos) (tAsg (tComp wi tt te js) (gName i)):=by
 intro pins s σ H E I h
 rw[exec_Assign_Name_used _ _ _ _ hsw]
 refine wpAny_bind (wpAny_standAt (wpAny_bind ?_))
 show wpAny _ X.A (do let _ <-comprehension (.ListComp elt [⟨.Name xt px,iter,ifs,0⟩] scope pos) scope X.env _ (newList []) false (eval iter X.env) (some (assign (.Name y py) X.env))) _ _ s
 refine wpAny_bind (thn (aO S h0 hN0 hc hi ht he hs (use:=some (assign (.Name y py) X.env)) (Qv:=fun _ s'=>SP X pins E .next s') I h fun s' C D Ha fl hI hns hC q => ?_) fun _ s' hq=>wpAny_pure (wpAny_pure hq))
 show wpAny (model X.prog X.w) X.A (assign (.Name y py) X.env (.ref D)) (fun _ s''=>∃m,s''.heap.Ns C m/\∀h',Heap.SameBut C s''.heap h'->SP X pins E .next { s'' with heap:=h' }) X.xe s'
 obtain⟨m,oC,es,ep,hgC,hdC,hrC⟩:=hns
 have I1:Inv X pins σ Ha s':=hI s'.heap ⟨rfl,fun b _=>rfl⟩
 have I2:Inv X (pins ++ [(C,oC)]) σ Ha s':=I1.yC fun p hp=>by
  rcases List.mem_append.mp hp with z | z
  ·exact I1.pin p (List.mem_append_right _ z)
  ·have:p=(C,oC):=by simpa using z
   subst this
   exact⟨hgC,hC.1,hC.2.1,hC.2.2.1,fun v z=>by rw[hdC] at z;cases z⟩
 refine wpAny_assign_Name (dI I2 nd hy hl (show RelV (.ref D) (.ref D) from rfl) (fun s'' I3 => ?_) hf)
 have hgC':=(I3.pin (C,oC) (List.mem_append_right _ (List.mem_append_right _ List.mem_cons_self))).1
 refine⟨m,⟨oC,es,ep,hgC',hdC,hrC⟩,fun h' hsb => ?_⟩
 have I4:Inv X pins (σ.set i (some (.ref D))) Ha s'':=I3.yC fun p hp=>I3.pin p (List.mem_append_right _ (List.mem_append_left _ hp))
 exact⟨_,Ha,Inv.turned (it:=C) (t':=s''.toks) I4 (fun b o hb e=>(hsb.2 b hb).trans e) hC.1 hC.2.1 hC.2.2.2.1 hC.2.2.2.2.1 hC.2.2.2.2.2,q⟩
end L2
namespace L2.L3
open PySem PySem.Spec PyProof.Rows
variable [CN]
theorem yG7 {C:Ct}{fr:Bool}(i:Nat){elt iter:Expr}{ifs:List Expr}{sc0 scope:Scope}{N0:List Str}{px py pos spos:Pos}{xt y:Str}{fs:List Str}{js:List Nat}{mi:Ev->Res (List D)}{mt:Ev->Res Bool}{me:Ev->Res D}(nd:C.X.N.Nodup) (S:CompScope sc0 scope N0 xt fs js) (h0:C.X.env.scope=sc0) (hN0:C.X.N=N0) (hc:C.X.calm=true)
  (hi:RIc C (.Name xt px) iter mi) (ht:∀A fp s₂ H,RTs (cC C (xt::fs) scope A fp s₂ H js) ifs mt) (he:∀A fp s₂ H,RE (cC C (xt::fs) scope A fp s₂ H js) .cl elt me)
  (hy:autoParam (C.X.N[i]?=some y) zZ._auto_1) (ho:autoParam (C.om.contains i=false) zZ._auto_1) (hln:autoParam (C.ln.contains i=false) zZ._auto_1) (hl:autoParam (Loc C.X.env.scope y) autoK12._auto_1)
  (hsw:autoParam (swapsWith (.ListComp elt [⟨.Name xt px,iter,ifs,0⟩] scope pos) (some (.Name y py)) spos.line C.X.env=pure true) zZ._auto_1) (hs:autoParam (∀x,foldedSetIterable iter C.X.env x=pure x) xB._auto_1) (hf:autoParam (C.X.fn y=true\/C.X.env.scope.names.lookup y=some .local) autoK13._auto_1) :
  RS C fr (.Assign [.Name y py] (.ListComp elt [⟨.Name xt px,iter,ifs,0⟩] scope pos) spos) (sS i (eComp mi mt me js)):=by
 obtain⟨wi,pi,qi⟩:=hi
 refine⟨_,zM1 (tt:=fun A fp s H=>Classical.choose (ht A fp s H)) (te:=fun A fp s H=>Classical.choose (he A fp s H)) S h0 hN0 hc pi (fun A fp s H=>(Classical.choose_spec (ht A fp s H)).1) (fun A fp s H=>(Classical.choose_spec (he A fp s H)).1) nd hy hl hsw hs hf,fun Oc Ob σ H ρ E R h => ?_⟩
 refine aG qi ht he R (Res.zS (Res.zX h) (fun d _ k v H' s r => ?_) fun c z H' s=>z H' (Same.frm s))
 exact k _ H' Ob ((R.same s).set (yO ho) (yO hln) (VR.clean r R.oh)) (Same.frm s) fun b z=>.inl z
end L2.L3
namespace L2
open PySem PySem.Spec PyProof.Rows
def pick3 {α:Type}(xs:List α) (l u k:Option Int):List α:=(sliceRange (sliceBounds l u k xs.length).1 (sliceBounds l u k xs.length).2.1 (sliceBounds l u k xs.length).2.2).filterMap (xs[·]?)
def tSl3E (K:KFr) (te:TE) (tl th ts:TO):TE:=fun σ H Q=>te σ H fun x H1=>tl σ H1 fun l H2=>th σ H2 fun u H3=>ts σ H3 fun st H4=>st≠some 0/\∃a xs,x=.ref a/\SqL K H4 a xs /\
 ((pick3 xs l u st).length<=xs.length->∀p,H4 p=none->Q (.ref p) (upd H4 p (.lst (pick3 xs l u st))))
theorem zE2 {X:Cx}{e st:Expr}{te:TE}{lo hi:Option Expr}{tl th ts:TO}{pos p2:Pos}(he:PE X e te) (hl:PO X lo tl) (hu:PO X hi th) (hst:PO X (some st) ts):PE X (.Subscript e (.Slice lo hi (some st) p2) pos) (tSl3E X.K te tl th ts):=by
 intro pins s σ H Q I h
 refine Subscript_ (thn (he pins s σ H _ I h) fun v s1 ⟨x,H1,I1,r1,q1⟩ => ?_)
 refine wpAny_Slice (thn (hl pins s1 σ H1 _ I1 q1) fun vl s2 ⟨l,H2,I2,pl,q2⟩=>thn (hu pins s2 σ H2 _ I2 q2) fun vu s3 ⟨u,H3,I3,pu,q3⟩=>thn (hst pins s3 σ H3 _ I3 q3) fun vs s4 ⟨k,H4,I4,pk,q4⟩ => ?_)
 obtain⟨h0,a,xs,rfl,hx,q⟩:=q4
 cases r1
 have I5:Inv X pins σ H4 { s4 with heap:=s4.heap.push { cls:=.type "slice",data:=.fields #[vl,vu,vs] } }:=I4.kept (t':=s4.toks) fun b ob q=>Heap.get?_push_of_some _ q
 obtain⟨its,r,ht,hz⟩:=I5.list hx
 have hlen:=r.length
 show wpAny (model X.prog X.w) X.A (subscriptTail e (.Slice lo hi (some st) p2) (.ref a) (.ref s4.heap.objs.size)) (EP X pins σ Q) X.xe { s4 with heap:=s4.heap.push { cls:=.type "slice",data:=.fields #[vl,vu,vs] } }
 refine tail_any (ops:=[.ref a,.ref s4.heap.objs.size]) ht.isList.typeIs slot_list_getitem.lookup ?_ (by with_unfolding_all rfl)
 refine wpAny_getItem_list_slice ht.isList (Heap.IsSliceOf.new ..) pl pu pk h0 ?_ (by rw[List.size_toArray] <;> bv_omega)
 have sz:=slicePick_size_le its.toArray l u k
 unfold slicePick at sz ⊢
 unfold pick3 at q
 rw[hlen] at q
 rw[List.size_toArray] at sz ⊢
 generalize sliceRange (sliceBounds l u k its.length).1 (sliceBounds l u k its.length).2.1 (sliceBounds l u k its.length).2.2=ks at sz q ⊢
 have rv:=kA r ks
 have rl:=rv.length
 rw[List.size_toArray] at sz
 exact⟨.ref (s4.heap.push { cls:=.type "slice",data:=.fields #[vl,vu,vs] }).objs.size,_,I5.laid (t':=s4.toks) (o:=.lst (ks.filterMap (xs[·]?))) (fun b ob q=>Heap.get?_push_of_some _ q) (Nat.le_refl _) ⟨by bv_omega,_,0,rv,Heap.get?_push_size _ rfl⟩,rfl,q (by bv_omega) _ (I5.hok.fresh (Nat.le_refl _))⟩
end L2
namespace L2.L3
open PySem PySem.Spec PyProof.Rows
variable [CN]
def eS3 (m:Ev->Res D) (lo hi st:Ev->Res (Option Int)):Ev->Res D:=fun ρ=>(m ρ).bind fun x=>(lo ρ).bind fun l=>(hi ρ).bind fun u=>(st ρ).bind fun k=>(Res.lft (lstD x)).bind fun ds=>if k≠some 0 then .ok (.list (pick3 ds l u k)) else .no
theorem gP {H:Hp}{O:Addr->Prop}{vs:List V}{ds:List D}(r:Reps H O vs ds):∀ks:List Nat,Reps H O (ks.filterMap (vs[·]?)) (ks.filterMap (ds[·]?))
 | []=>.nil
 | k::ks=>by
  rw[List.filterMap_cons,List.filterMap_cons]
  cases e:ds[k]? with
  | none =>
   have:vs[k]?=none:=by
    rw[List.getElem?_eq_none_iff] at e ⊢
    rw[r.length];exact e
   rw[this]
   exact gP r ks
  | some d =>
   obtain⟨v,ev,rv⟩:=r.get e
   rw[ev]
   exact .cons rv (gP r ks)
theorem yY1 {C:Ct}{e st:Expr}{lo hi:Option Expr}{mda:Md}{me:Ev->Res D}{ml mh ms:Ev->Res (Option Int)}{p2 pos:Pos}(he:RE C mda e me) (hl:RO C lo ml) (hu:RO C hi mh) (hs:RO C (some st) ms) :
  RE C .new (.Subscript e (.Slice lo hi (some st) p2) pos) (eS3 me ml mh ms):=by
 obtain⟨t,p,q⟩:=he
 obtain⟨tl,pl,ql⟩:=hl
 obtain⟨th,ph,qh⟩:=hu
 obtain⟨ts,ps,qs⟩:=hs
 refine⟨_,zE2 p pl ph ps,fun Oc Ob σ H ρ Q R h=>q Oc Ob σ H ρ _ R (Res.zS (Res.zX h) (fun d _ k v H1 s1 r => ?_) fun _ z=>z)⟩
 refine ql Oc Ob σ H1 ρ _ (R.same s1) (Res.zS (Res.zX k) (fun l _ k H2 s2 => ?_) fun c z H' s'=>z H' (s1.trans s'))
 refine qh Oc Ob σ H2 ρ _ ((R.same s1).same s2) (Res.zS (Res.zX k) (fun u _ k H3 s3 => ?_) fun c z H' s'=>z H' ((s1.trans s2).trans s'))
 refine qs Oc Ob σ H3 ρ _ (((R.same s1).same s2).same s3) (Res.zS (Res.zX k) (fun st _ k H4 s4 => ?_) fun c z H' s'=>z H' (((s1.trans s2).trans s3).trans s'))
 obtain⟨ds,ed,k5⟩:=Res.zE (Res.zX k)
 clear k
 obtain rfl:=qB ed
 by_cases h0:st≠some 0
 ·rw[if_pos h0] at k5
  have S:=((s1.trans s2).trans s3).trans s4
  obtain⟨a,ys,rfl,rd,rs⟩:=((r.va R.oh).same ((s2.trans s3).trans s4)).list
  refine⟨h0,a,ys,rfl,.inl rd,fun _ p hp=>k5 _ _ (S.trans (Same.new hp)) (xY S hp ?_)⟩
  unfold pick3
  rw[rs.length]
  exact gP rs _
 ·rw[if_neg h0] at k5
  exact k5.elim
theorem zC5 {α β:Type}(f:α->β) (xs:List α) (l u k:Option Int):pick3 (xs.map f) l u k=(pick3 xs l u k).map f:=by
 unfold pick3
 rw[List.length_map]
 generalize sliceRange (sliceBounds l u k xs.length).1 (sliceBounds l u k xs.length).2.1 (sliceBounds l u k xs.length).2.2=ks
 induction ks with
 | nil=>rfl
 | cons a ks ih =>
  rw[List.filterMap_cons,List.filterMap_cons,List.getElem?_map]
  cases xs[a]? with
  | none=>exact ih
  | some y=>rw[Option.map_some,List.map_cons,<-ih]
theorem xY3 (a:Ev->Res D) (l h st:Ev->Res (Option Int)) (ρ:Ev):eS3 a l h st ρ=(a ρ).bind fun x=>(l ρ).bind fun l=>(h ρ).bind fun u=>(st ρ).bind fun k=>(Res.lft (lstD x)).bind fun ds=>if k≠some 0 then .ok (.list (pick3 ds l u k)) else .no:=rfl
end L2.L3
namespace L2.L3
open PySem
theorem zC8 {xs:List Int}{i:Int}{j:Nat}(e:i=(j:Int)) (h:j<xs.length):atI (xs.map PyData.int) i=some (.int (xs.getD j 0)):=by
 rw[e,wF,wJ h]
 rfl
theorem zP7 {xs:List Int}{n:Nat}(h:xs.length=n+1):atI (xs.map PyData.int) (-1)=some (.int (xs.getD n 0)):=by
 rw[wF]
 unfold atI ixN
 rw[h,if_neg (by decide),if_pos (by bv_omega)]
 show (xs[((-1:Int)+((n+1:Nat):Int)).toNat]?).map _=_
 rw[show ((-1:Int)+((n+1:Nat):Int)).toNat=n by bv_omega,List.getElem?_eq_getElem (by bv_omega),List.getD_eq_getElem?_getD,List.getElem?_eq_getElem (by bv_omega)]
 rfl
theorem zN3 {xs ys:List Int}(h:xs.length+ys.length<=1000):catL (lI xs) (lI ys)=some (lI (xs++ys)):=by
 unfold catL
 simp only
 rw[List.length_map,List.length_map,if_pos (Nat.le_of_lt (small1000 h))]
 simp only[lI,List.map_append]
theorem yF7 (xs:List Int):sumD [lI xs]=some (.int xs.sum):=by
 unfold sumD
 simp only[intsOf_map,Option.map_some]
end L2.L3
namespace L2.L3
open PySem
variable [CN]
section
variable {X:Cx}
end
section
variable {X:Cx}
end
end L2.L3
namespace L2.L3
open PySem PyProof.Rows
variable [CN]
section
variable {X:Cx}
end
section
variable {X:Cx}
end
section
variable {C:Ct}{fr:Bool}{md:Md}{e:Expr}{me:Ev->Res D}{pos:Pos}
def atP (xd:List D):D->Option D
 | .int j=>if 0<=j then atI xd j else none
 | _=>none
def sJ0 (i:Nat) (mk:Ev->Res D) (f:D->D->Option D) (me:Ev->Res D):Ev->Res Out:=fun ρ=>(eV i ρ).bind fun d=>(Res.lft (lstD d)).bind fun xd=>(mk ρ).bind fun k=>(Res.lft (atP xd k)).bind fun old=>(me ρ).bind fun v=>(Res.lft (f old v)).bind fun w=>(Res.lft (setD xd k w)).bind fun ds=>.ok (.nx (ρ.set i (some (.list ds))))
theorem xU1 (i:Nat) (mk:Ev->Res D) (f:D->D->Option D) (me:Ev->Res D) (ρ:Ev):sJ0 i mk f me ρ=(eV i ρ).bind fun d=>(Res.lft (lstD d)).bind fun xd=>(mk ρ).bind fun k=>(Res.lft (atP xd k)).bind fun old=>(me ρ).bind fun v=>(Res.lft (f old v)).bind fun w=>(Res.lft (setD xd k w)).bind fun ds=>.ok (.nx (ρ.set i (some (.list ds)))):=rfl
end
section
variable {X:Cx}{pins:List (Addr×Obj)}{σ:St}{H:Hp}{s:Shared}{h':Heap}
theorem turned2 {t':Nat}{e it:Addr}(I:Inv X pins σ H s) (k:∀b o,b≠e->b≠it->s.heap.get? b=some o->h'.get? b=some o) (fe:FpOk X pins H e) (fi:FpOk X pins H it):Inv X pins σ H { s with heap:=h',toks:=t' }:=by
 have nit:∀b u,H b=some u->b≠e/\b≠it:=fun b u q=>⟨fun z=>(by rw[z,fe.1] at q;cases q),fun z=>by rw[z,fi.1] at q;cases q⟩
 refine I.step (g':=s.gens) (d':=s.drawn) (ch:=[e,it]) (fun b hb => ?_) (fun b o _ _ hc q _=>k b o (fun z=>hc (by simp[z])) (fun z=>hc (by simp[z])) q) (fun b o _ _ hc q _=>⟨o.slots,k b o (fun z=>hc (by simp[z])) (fun z=>hc (by simp[z])) q⟩) (fun _ _ _ _ n=>n)
  (fun b o hc q=>⟨o,k b o (fun z=>hc (by simp[z])) (fun z=>hc (by simp[z])) q⟩) (fun _ _ q=>q) (fun _ _ _ q=>q) (fun _ _ q=>q) (fun m hm => ?_) (fun b u q => ?_) I.bare
 ·have z:b=e\/b=it:=by simpa using hb
  rcases z with rfl | rfl
  ·obtain⟨f0,f1,f2,f3,f4,f5⟩:=fe
   exact⟨f3,f1,f4,f5⟩
  ·obtain⟨f0,f1,f2,f3,f4,f5⟩:=fi
   exact⟨f3,f1,f4,f5⟩
 ·obtain⟨o,es,ep,ho,r⟩:=hm
  exact⟨o,es,ep,k _ o (Ne.symm fe.2.1) (Ne.symm fi.2.1) ho,r⟩
 ·refine (I.hok b u q).stay (fun c v hc q' => ?_) (fun _ q=>q) fun _ _ q=>q
  have nc:c≠e/\c≠it:=by
   rcases hc with z | z
   ·rw[z];exact nit b u q
   ·exact nit c _ z
  exact k c v nc.1 nc.2 q'
end
def Ite (K:KFr) (a:Addr):It :=
 ⟨fun i H=>∃xs x,SqL K H a xs/\xs[i]?=some x,fun i H x H'=>∃t y,H t=none/\x=.ref t/\H'=upd H t (.tup [.int (i:Int),y])/\∀xs,SqL K H a xs->xs[i]?=some y,fun i H=>∃xs,SqL K H a xs/\xs.length<=i⟩
theorem yX2 {P:Program}{w:World}{K:KFr}{es:List Expr}{x1:Nat}{tp:Pos}(a e it:Addr) (hne:e≠it):Turn P w K (.Tuple es x1 tp) (Ite K a) [e,it] e (fun i h=>(∃old,IsEnum h e it i old)/\h.IsListIter it a i) where
 mem:=by simp
 obj:=fun i h st b hb=>by
  obtain⟨⟨old,he⟩,o,ho,hc,hd⟩:=st
  have z:b=e\/b=it:=by simpa using hb
  rcases z with rfl | rfl
  ·exact⟨_,he,fun v z=>by cases z⟩
  ·exact⟨o,ho,fun v z=>by rw[hd] at z;cases z⟩
 keep:=fun i h h' st k=>⟨st.1.elim fun old he=>⟨old,k e (by simp) _ he⟩,st.2.at fun o q=>k it (by simp) o q⟩
 item:=by
  intro X hP hw hK hc i pins s σ H E I hf st hg
  subst hP hw hK
  obtain⟨xs,x,hq,hx⟩:=hg
  obtain⟨its,rv,p,hz⟩:=I.list hq
  obtain⟨u,hu,ru⟩:=rv.get hx
  obtain⟨⟨old,he⟩,hit⟩:=st
  have fe:=hf e (by simp)
  have fi:=hf it (by simp)
  refine wpAny_pyNext_enum_item he hit p.isList (x:=u) (by simpa using hu) hne fun h' ho hit' hT hsz hk=>⟨_,rfl,?_⟩
  have hfr:H s.heap.objs.size=none:=I.hok.fresh (Nat.le_refl _)
  have I1:Inv X pins σ (upd H s.heap.objs.size (.tup [.int (i:Int),x])) { s with heap:=s.heap.push { cls:=.type "tuple",data:=.seq #[.int i s.toks,u] },toks:=s.toks+1 } :=
   I.laid (t':=s.toks+1) (fun b o q=>Heap.get?_push_of_some _ q) (Nat.le_refl _) ⟨by show 2<=sizeLine;decide,[.int i s.toks,u],.cons ⟨_,rfl⟩ (.cons ru .nil),TupAt.new _ _⟩
  have lte:e<s.heap.objs.size:=Heap.lt_size he
  have lti:it<s.heap.objs.size:=by obtain⟨_,q,_⟩:=hit;exact Heap.lt_size q
  have fe1:FpOk X pins (upd H s.heap.objs.size (.tup [.int (i:Int),x])) e:=⟨by rw[zY (Nat.ne_of_lt lte)];exact fe.1,fe.2⟩
  have fi1:FpOk X pins (upd H s.heap.objs.size (.tup [.int (i:Int),x])) it:=⟨by rw[zY (Nat.ne_of_lt lti)];exact fi.1,fi.2⟩
  have I2:Inv X pins σ (upd H s.heap.objs.size (.tup [.int (i:Int),x])) { s with heap:=h',toks:=s.toks+1 }:=by
   refine turned2 (s:={ s with heap:=s.heap.push { cls:=.type "tuple",data:=.seq #[.int i s.toks,u] },toks:=s.toks+1 }) (h':=h') (t':=s.toks+1) I1 (fun b o b1 b2 q => ?_) fe1 fi1
   by_cases z:b=s.heap.objs.size
   ·subst z
    have q:(s.heap.push { cls:=.type "tuple",data:=.seq #[.int i s.toks,u] }).get? s.heap.objs.size=some o:=q
    rw[Heap.get?_push_size _ rfl] at q
    rw[hT];exact q
   ·have q:(s.heap.push { cls:=.type "tuple",data:=.seq #[.int i s.toks,u] }).get? b=some o:=q
    rw[Heap.get?_push_ne _ _ _ z] at q
    exact hk b o b1 b2 q
  refine wpAny_letOwnedTupleGo_enum ho fun h2 he2 hs2 => ?_
  refine⟨.ref s.heap.objs.size,_,turned2 (s:={ s with heap:=h',toks:=s.toks+1 }) (h':=h2) (t':=s.toks+1) I2 (fun b o b1 b2 q=>(hs2.2 b b1).trans q) fe1 fi1,rfl,⟨_,x,hfr,rfl,rfl,fun ys hy=>by rw[I.zU2 hy hq];exact hx⟩,⟨⟨_,he2⟩,hit'.at fun o q=>(hs2.2 it hne.symm).trans q⟩,fun b hb => ?_⟩
  have z:b=e\/b=it:=by simpa using hb
  rcases z with rfl | rfl
  ·exact fe1.1
  ·exact fi1.1
 done:=by
  intro X hP hw hK hc i pins s σ H E I hf st hg
  subst hP hw hK
  obtain⟨xs,hq,hx⟩:=hg
  obtain⟨its,rv,p,hz⟩:=I.list hq
  obtain⟨⟨old,he⟩,hit⟩:=st
  have hl:=rv.length
  exact wpAny_pyNext_enum_end (I.ok.hd hc) he hit p.isList (by simp;bv_omega) fun h' eb=>⟨rfl,turned2 (t':=s.toks) I (fun b o _ b2 q=>eb b o b2 q) (hf e (by simp)) (hf it (by simp))⟩
 self:=fun _ _ _ _ _ st h=>st.1.elim fun old he=>wpAny_pyIter_enum he h
end L2.L3
namespace PySem
section
variable {prog:Program}{w:World}{A:Around}{E:Value->Shared->Prop}{s:Shared}
theorem drawsT (hA:A.handled=none) (it t:Addr) (its:Array Value) (hne:it≠t):Draws prog w A it [it,t] its.size (fun i x=>its[i]?=some x) (fun i h=>h.IsTupleIter it t i/\h.IsTuple t its) where
 live:=fun i h st=>let ⟨o,q,_⟩:=st.1; ⟨o,q⟩
 frame:=fun i h h' st k=>⟨let ⟨o,q,r⟩:=st.1; ⟨o,k it (by simp) o q,r⟩,let ⟨o,q,r⟩:=st.2; ⟨o,k t (by simp) o q,r⟩⟩
 item:=fun i s Q E hi st hQ=>yR2 st.1 st.2 (v:=its[i]) (by simp[hi]) fun h' z sb=>hQ _ h' s.toks (by simp[hi]) ⟨z,let ⟨o,q,r⟩:=st.2; ⟨o,(sb.2 t (Ne.symm hne)).trans q,r⟩⟩ sb
 done:=fun s Q E st hE=>zL5 hA st.1 st.2 (by simp) hE
theorem drawsE (hA:A.handled=none) (it t:Addr) (its:Array Value) (n:Nat) (hx:its[n]?=none) (hne:it≠t):Draws prog w A it [it,t] n (fun _ _=>False) (fun j h=>j=n/\h.IsTupleIter it t n/\h.IsTuple t its) where
 live:=fun i h st=>let ⟨o,q,_⟩:=st.2.1; ⟨o,q⟩
 frame:=fun i h h' st k=>⟨st.1,let ⟨o,q,r⟩:=st.2.1; ⟨o,k it (by simp) o q,r⟩,let ⟨o,q,r⟩:=st.2.2; ⟨o,k t (by simp) o q,r⟩⟩
 item:=fun i s Q E hi st hQ=>absurd st.1 (Nat.ne_of_lt hi)
 done:=fun s Q E st hE=>zL5 hA st.2.1 st.2.2 hx hE
end
end PySem
namespace L2.L3
open PySem PyProof.Rows
variable [CN]
def Ith (K:KFr) (a:Addr):It :=
 ⟨fun i H=>∃xs x,SqT K H a xs/\xs[i]?=some x,fun i H x H'=>∃t y,H t=none/\x=.ref t/\H'=upd H t (.tup [.int (i:Int),y])/\∀xs,SqT K H a xs->xs[i]?=some y,fun i H=>∃xs,SqT K H a xs/\xs.length<=i⟩
theorem zF9 {P:Program}{w:World}{K:KFr}{es:List Expr}{x1:Nat}{tp:Pos}(a e it:Addr) (hne:e≠it) (hia:it≠a) (hea:e≠a):Turn P w K (.Tuple es x1 tp) (Ith K a) [e,it] e (fun i h=>(∃old,IsEnum h e it i old)/\h.IsTupleIter it a i) where
 mem:=by simp
 obj:=fun i h st b hb=>by
  obtain⟨⟨old,he⟩,o,ho,hc,hd⟩:=st
  have z:b=e\/b=it:=by simpa using hb
  rcases z with rfl | rfl
  ·exact⟨_,he,fun v z=>by cases z⟩
  ·exact⟨o,ho,fun v z=>by rw[hd] at z;cases z⟩
 keep:=fun i h h' st k=>⟨st.1.elim fun old he=>⟨old,k e (by simp) _ he⟩,let ⟨o,q,r⟩:=st.2; ⟨o,k it (by simp) o q,r⟩⟩
 item:=by
  intro X hP hw hK hc i pins s σ H E I hf st hg
  subst hP hw hK
  obtain⟨xs,x,hq,hx⟩:=hg
  obtain⟨its,rv,p,hz⟩:=I.tuple hq
  obtain⟨u,hu,ru⟩:=rv.get hx
  obtain⟨⟨old,he⟩,hit⟩:=st
  have fe:=hf e (by simp)
  have fi:=hf it (by simp)
  have hlt:i<its.toArray.size:=by
   have:=(List.getElem?_eq_some_iff.mp hu).1
   simpa using this
  refine wpAny_pyNext_enum_itemD (drawsT (show X.A.in1.handled=none from I.ok.hd hc) it a its.toArray hia) he ⟨hit,p⟩ hlt hne (by simp[hne,hea]) fun x' h' tk hP' ho hit' hT hsz hk=>⟨_,rfl,?_⟩
  have ex:x'=u:=by
   have h2:its.toArray[i]?=some u:=by simpa using hu
   have h3:its.toArray[i]?=some x':=hP'
   rw[h2] at h3
   exact (Option.some.inj h3).symm
  subst ex
  have hfr:H s.heap.objs.size=none:=I.hok.fresh (Nat.le_refl _)
  have I1:Inv X pins σ (upd H s.heap.objs.size (.tup [.int (i:Int),x])) { s with heap:=s.heap.push { cls:=.type "tuple",data:=.seq #[.int i tk,x'] },toks:=tk+1 } :=
   I.laid (t':=tk+1) (fun b o q=>Heap.get?_push_of_some _ q) (Nat.le_refl _) ⟨by show 2<=sizeLine;decide,[.int i tk,x'],.cons ⟨_,rfl⟩ (.cons ru .nil),TupAt.new _ _⟩
  have lte:e<s.heap.objs.size:=Heap.lt_size he
  have lti:it<s.heap.objs.size:=by obtain⟨_,q,_⟩:=hit;exact Heap.lt_size q
  have fe1:FpOk X pins (upd H s.heap.objs.size (.tup [.int (i:Int),x])) e:=⟨by rw[zY (Nat.ne_of_lt lte)];exact fe.1,fe.2⟩
  have fi1:FpOk X pins (upd H s.heap.objs.size (.tup [.int (i:Int),x])) it:=⟨by rw[zY (Nat.ne_of_lt lti)];exact fi.1,fi.2⟩
  have I2:Inv X pins σ (upd H s.heap.objs.size (.tup [.int (i:Int),x])) { s with heap:=h',toks:=tk+1 }:=by
   refine turned2 (s:={ s with heap:=s.heap.push { cls:=.type "tuple",data:=.seq #[.int i tk,x'] },toks:=tk+1 }) (h':=h') (t':=tk+1) I1 (fun b o b1 b2 q => ?_) fe1 fi1
   by_cases z:b=s.heap.objs.size
   ·subst z
    have q:(s.heap.push { cls:=.type "tuple",data:=.seq #[.int i tk,x'] }).get? s.heap.objs.size=some o:=q
    rw[Heap.get?_push_size _ rfl] at q
    rw[hT];exact q
   ·have q:(s.heap.push { cls:=.type "tuple",data:=.seq #[.int i tk,x'] }).get? b=some o:=q
    rw[Heap.get?_push_ne _ _ _ z] at q
    exact hk b o b1 b2 q
  refine wpAny_letOwnedTupleGo_enum ho fun h2 he2 hs2 => ?_
  refine⟨.ref s.heap.objs.size,_,turned2 (s:={ s with heap:=h',toks:=tk+1 }) (h':=h2) (t':=tk+1) I2 (fun b o b1 b2 q=>(hs2.2 b b1).trans q) fe1 fi1,rfl,⟨_,x,hfr,rfl,rfl,fun ys hy=>by rw[I.aD hy hq];exact hx⟩,⟨⟨_,he2⟩,let ⟨o,q,r⟩:=hit'.1; ⟨o,(hs2.2 it hne.symm).trans q,r⟩⟩,fun b hb => ?_⟩
  have z:b=e\/b=it:=by simpa using hb
  rcases z with rfl | rfl
  ·exact fe1.1
  ·exact fi1.1
 done:=by
  intro X hP hw hK hc i pins s σ H E I hf st hg
  subst hP hw hK
  obtain⟨xs,hq,hx⟩:=hg
  obtain⟨its,rv,p,hz⟩:=I.tuple hq
  obtain⟨⟨old,he⟩,hit⟩:=st
  have hl:=rv.length
  exact wpAny_pyNext_enum_endD (drawsE (show X.A.in1.handled=none from I.ok.hd hc) it a its.toArray i (by simp;bv_omega) hia) he ⟨rfl,hit,p⟩ fun h' eb=>⟨rfl,turned2 (t':=s.toks) I (fun b o _ b2 q=>eb b o b2 q) (hf e (by simp)) (hf it (by simp))⟩
 self:=fun _ _ _ _ _ st h=>st.1.elim fun old he=>wpAny_pyIter_enum he h
def iEnum (K:KFr) (t:TA):TI:=fun σ H R=>t σ H fun vs H1=>∃a,vs=[.ref a]/\(((∃xs,SqL K H1 a xs)/\R (Ite K a) H1)\/((∃xs,SqT K H1 a xs)/\R (Ith K a) H1))
theorem yH9 {X:Cx}{l:Expr}{ta:TA}{es:List Expr}{x1:Nat}{tp p pos:Pos}(hg:Gl X "enumerate") (hm:X.mg "enumerate" = none) (ha:PA X [l] ta) (hs:autoParam (starEach [l] X.env=[(false,eval l X.env)]) zZ._auto_1):PI X (.Tuple es x1 tp) (.Call (.Name "enumerate" p) [l] [] pos) (iEnum X.K ta):=by
 intro pins s σ H R I h
 refine Call_ (gK I hg hm boot_enumerate (PyProof.Rows.callWith_type1 (thn (ha pos pins s σ H _ I h) fun us s1 ⟨vs,H1,I1,r1,q1⟩ => ?_) hs rfl))
 obtain⟨a,e,q1⟩:=q1
 subst e
 obtain⟨u,rfl,ru⟩:=vals1 r1
 cases ru
 rcases q1 with ⟨⟨xs,hq⟩,q⟩ | ⟨⟨xs,hq⟩,q⟩
 ·obtain⟨its,rv,pl,hz⟩:=I1.list hq
  refine call_enumerate_list pl.isList fun h' he hit hsz hk => ?_
  refine wpAny_pyIter_enum he ?_
  refine⟨s1.heap.objs.size+1,[s1.heap.objs.size+1,s1.heap.objs.size],_,_,H1,rfl,I1.kept (t':=s1.toks) hk,yX2 a (s1.heap.objs.size+1) s1.heap.objs.size (Nat.succ_ne_self _),⟨⟨_,he⟩,hit⟩,fun b hb => ?_,q⟩
  have z:b=s1.heap.objs.size+1\/b=s1.heap.objs.size:=by simpa using hb
  rcases z with rfl | rfl
  ·exact I1.fpOk (by bv_omega) (I1.hok.fresh (by bv_omega))
  ·exact I1.fpOk (Nat.le_refl _) (I1.hok.fresh (Nat.le_refl _))
 ·obtain⟨its,rv,pt,hz⟩:=I1.tuple hq
  have lta:a<s1.heap.objs.size:=by obtain⟨o,q,_⟩:=pt;exact Heap.lt_size q
  refine yC1 (oI:={ cls:=.type "tuple_iterator",data:=.fields #[.ref a,.int 0 0] }) rfl (fun B P E' z=>wpAny_pyIter_tuple (show s1.heap.IsTuple a its.toArray from pt) z) fun h' he h0 hk => ?_
  have hit:h'.IsTupleIter s1.heap.objs.size a 0:=⟨_,h0,rfl,rfl⟩
  refine wpAny_pyIter_enum he ?_
  refine⟨s1.heap.objs.size+1,[s1.heap.objs.size+1,s1.heap.objs.size],_,_,H1,rfl,I1.kept (t':=s1.toks) hk,zF9 a (s1.heap.objs.size+1) s1.heap.objs.size (Nat.succ_ne_self _) (Nat.ne_of_gt lta) (Nat.ne_of_gt (Nat.lt_succ_of_lt lta)),⟨⟨_,he⟩,hit⟩,fun b hb => ?_,q⟩
  have z:b=s1.heap.objs.size+1\/b=s1.heap.objs.size:=by simpa using hb
  rcases z with rfl | rfl
  ·exact I1.fpOk (by bv_omega) (I1.hok.fresh (by bv_omega))
  ·exact I1.fpOk (Nat.le_refl _) (I1.hok.fresh (Nat.le_refl _))
def WalksO (Oc:Wd) (Ob:Addr->Prop) (J:It) (H1:Hp) (ds:List D):Prop :=
 ∀(H2:Hp) (Ob2:Addr->Prop),Frm Ob H1 H2->(∀b,Ob2 b->Ob b\/H1 b=none)->(∀a,Oc a\/Ob2 a->H2 a≠none)->∀i,(∀d,ds[i]?=some d->J.go i H2/\∀x H3,J.yld i H2 x H3->Same H2 H3/\Rep H3 (Uni Oc Ob2) x d)/\(ds.length<=i->J.stop i H2)
def RIo (C:Ct) (tg iter:Expr) (m:Ev->Res (List D)):Prop :=
 ∃wi,PI C.X tg iter wi/\∀(Oc:Wd) (Ob:Addr->Prop) (σ:St) (H:Hp) (ρ:Ev) (R:It->Hp->Prop),Rel Oc Ob C.om C.ln σ H ρ ->
  (m ρ).post (fun ds=>∀J H1,Same H H1->WalksO Oc Ob J H1 ds->R J H1) (fun c=>∀H',Same H H'->C.XE c H')->wi σ H R
section
variable {C:Ct}{fr:Bool}{body:List Stmt}{m:Ev->Res Out}{mi:Ev->Res (List D)}{g:D->Ev->Option Ev}{pos:Pos}
def enumD (ds:List D):List D:=(List.range ds.length).map fun (i:Nat)=>PyData.tuple [.int (i:Int),ds.getD i .none]
def uT (m:Ev->Res D):Ev->Res (List D):=fun ρ=>(m ρ).bind fun d=>(Res.lft (seqD d)).bind fun ds=>.ok (enumD ds)
theorem cP {K:KFr}{Oc:Wd}{Ob:Addr->Prop}{H1:Hp}{a:Addr}{ys:List V}{ds:List D}(r:Rd H1 a (.lst ys)) (n:¬Ob a) (rs:Reps H1 (Uni Oc Ob) ys ds):WalksO Oc Ob (Ite K a) H1 (enumD ds):=by
 intro H2 Ob2 f s oh i
 have r2:Rd H2 a (.lst ys):=zA r fun o e=>f a o e n
 have rs2:=rs.step f s
 have le:(enumD ds).length=ds.length:=by unfold enumD;simp
 refine⟨fun d e => ?_,fun h=>⟨ys,.inl r2,by rw[rs2.length];rw[le] at h;exact h⟩⟩
 unfold enumD at e
 rw[List.getElem?_map] at e
 obtain⟨j,ej,rfl⟩:=Option.map_eq_some_iff.mp e
 have hi:i<ds.length:=by
  have:=(List.getElem?_eq_some_iff.mp ej).1
  simpa using this
 rw[List.getElem?_range hi] at ej
 cases ej
 have ed:ds[i]?=some (ds.getD i .none):=by rw[List.getD_eq_getElem?_getD,List.getElem?_eq_getElem hi];rfl
 obtain⟨v,ev,rv⟩:=rs2.get ed
 refine⟨⟨ys,v,.inl r2,ev⟩,fun x H3 hy => ?_⟩
 obtain⟨t,y,ht,rfl,rfl,hy⟩:=hy
 have:=hy ys (.inl r2)
 rw[ev] at this
 cases this
 exact⟨Same.new ht,vF oh ht (.cons (.int _) (.cons rv .nil))⟩
theorem zP3 {K:KFr}{Oc:Wd}{Ob:Addr->Prop}{H1:Hp}{a:Addr}{ys:List V}{ds:List D}(r:Rd H1 a (.tup ys)) (n:¬Ob a) (rs:Reps H1 (Uni Oc Ob) ys ds):WalksO Oc Ob (Ith K a) H1 (enumD ds):=by
 intro H2 Ob2 f s oh i
 have r2:Rd H2 a (.tup ys):=zA r fun o e=>f a o e n
 have rs2:=rs.step f s
 have le:(enumD ds).length=ds.length:=by unfold enumD;simp
 refine⟨fun d e => ?_,fun h=>⟨ys,.inl r2,by rw[rs2.length];rw[le] at h;exact h⟩⟩
 unfold enumD at e
 rw[List.getElem?_map] at e
 obtain⟨j,ej,rfl⟩:=Option.map_eq_some_iff.mp e
 have hi:i<ds.length:=by
  have:=(List.getElem?_eq_some_iff.mp ej).1
  simpa using this
 rw[List.getElem?_range hi] at ej
 cases ej
 have ed:ds[i]?=some (ds.getD i .none):=by rw[List.getD_eq_getElem?_getD,List.getElem?_eq_getElem hi];rfl
 obtain⟨v,ev,rv⟩:=rs2.get ed
 refine⟨⟨ys,v,.inl r2,ev⟩,fun x H3 hy => ?_⟩
 obtain⟨t,y,ht,rfl,rfl,hy⟩:=hy
 have:=hy ys (.inl r2)
 rw[ev] at this
 cases this
 exact⟨Same.new ht,vF oh ht (.cons (.int _) (.cons rv .nil))⟩
theorem zW7 {e:Expr}{ma:Ev->Res D}{es:List Expr}{x1:Nat}{tp p pos:Pos}(hm:C.X.mg "enumerate" = none) (h:RE C .rd e ma) (hg:autoParam (Gl C.X "enumerate") zZ._auto_1) (hs:autoParam (starEach [e] C.X.env=[(false,eval e C.X.env)]) zZ._auto_1) (hs2:autoParam (starEach [e] C.X.env=(false,eval e C.X.env)::starEach [] C.X.env) zZ._auto_1):RIo C (.Tuple es x1 tp) (.Call (.Name "enumerate" p) [e] [] pos) (uT ma):=by
 obtain⟨t,pe,q⟩:=h
 refine⟨_,yH9 hg hm (zU pe zO hs2) hs,fun Oc Ob σ H ρ W R h=>q Oc Ob σ H ρ _ R (Res.zS (Res.zX h) (fun d _ k v H' s r => ?_) fun _ z=>z)⟩
 obtain⟨ds,e,k⟩:=Res.zE (Res.zX k)
 rcases r with r | ⟨a,ys,ds',rfl,rfl,e3,e4,e5⟩
 ·cases r with
  | lst r n t=>cases e;exact⟨_,rfl,.inl ⟨⟨_,.inl r⟩,k _ H' s (cP r (fun z=>n (.inr z)) t)⟩⟩
  | tup r n t=>cases e;exact⟨_,rfl,.inr ⟨⟨_,.inl r⟩,k _ H' s (zP3 r (fun z=>n (.inr z)) t)⟩⟩
  | _=>cases e
 ·cases e
  exact⟨_,rfl,.inl ⟨⟨_,SqL.of e3⟩,k _ H' s (cP (.inl e3) e4 e5)⟩⟩
end
theorem aX (m:Ev->Res D) (ρ:Ev):uT m ρ=(m ρ).bind fun d=>(Res.lft (seqD d)).bind fun ds=>.ok (enumD ds):=rfl
end L2.L3
namespace PySem
section
variable {prog:Program}{w:World}{A:Around}{E:Value->Shared->Prop}{s:Shared}
end
end PySem
namespace L2.L3
open PySem PySem.Spec PyProof.Rows
variable [CN]
def sA (me:Ev->Res D) (g:D->Ev->Option Ev):Ev->Res Out:=fun ρ=>(me ρ).bind fun d=>(Res.lft (g d ρ)).bind fun ρ'=>.ok (.nx ρ')
theorem xQ8 (me:Ev->Res D) (g:D->Ev->Option Ev) (ρ:Ev):sA me g ρ=(me ρ).bind fun d=>(Res.lft (g d ρ)).bind fun ρ'=>.ok (.nx ρ'):=rfl
theorem yI8 {C:Ct}{fr:Bool}{e tg:Expr}{pos:Pos}{me:Ev->Res D}{g:D->Ev->Option Ev}(he:RE C .cl e me) (hg:RG C tg g) (hs:autoParam (swapsWithSole [tg] e pos.line C.X.env=pure false) zZ._auto_1) (hw:autoParam (swappedStores [tg] e C.X.env=pure none) zZ._auto_1)
  (h1:autoParam ((assignEach [tg] C.X.env).map (·.2)=[assign tg C.X.env]) zZ._auto_1):RS C fr (.Assign [tg] e pos) (sA me g):=xV4 he hg hs hw h1
theorem xR6 {P:Program}{w:World}{K:KFr}{mg:Str->Option Value}{base:Heap}{fr:Bool}{k:Nat}{f:Addr}{fd:FuncData}{ps:List Str}:FnOk P w K mg base CX0 k f fd ps (spF fr fun _=>.no) :=
 ⟨fun _ _ _ _ ⟨_,_,_,_,k⟩=>k.elim,fun _ _ _ _ _ _ _ _ _ _ _ _ _ ⟨_,_,_,_,k⟩=>k.elim⟩
section
variable {X:Cx}
def rIdx (K:KFr):V->List V->Hp->VK->Prop:=fun x vs H Q=>∃(p:Addr) (xs:List V) (y:V) (j:Nat) (z:V),x=.ref p/\vs=[y]/\SqL K H p xs/\flatV y=true/\xs.all flatV=true/\xs[j]?=some z/\eqV z y=true/\(∀m z',m<j->xs[m]?=some z'->eqV z' y=false)/\j<2 ^ 62/\Q (.int j) H
theorem yQ6:MtR X "list.index" (rIdx X.K):=by
 intro pins s σ H x vs v us Q I rx rv h
 obtain⟨p,xs,y,j,z,rfl,rfl,hq,fy,fs,hj,ez,no,hsm,q⟩:=h
 cases rx
 obtain⟨u,rfl,ru⟩:=vals1 rv
 obtain⟨its,r,pl,hz⟩:=I.list hq
 obtain⟨⟨c,dd,dt,sl⟩,e,hc,n,hd⟩:=pl.isList
 simp only at hc hd
 subst hc hd
 obtain⟨w0,hw0,rw0⟩:=r.get hj
 have hlen:=r.length
 have hjl:j<its.length:=(List.getElem?_eq_some_iff.mp hw0).1
 have flat:∀(m:Nat) (z':V),xs[m]?=some z'->flatV z'=true:=fun m z' hm=>List.all_eq_true.mp fs z' (List.mem_of_getElem? hm)
 refine call_meets F.slot_list_index ⟨_,e,rfl⟩ F.entry_list_index (F.args_list_index_2 _ _) (SeqAt.list_indexAt p its.toArray n dd sl u (eqU y) j (by simpa using hjl) (by bv_omega) ?_ ?_) ⟨e,fun w hw=>vG ru fy r fs w (by simpa using hw),?_⟩
 ·have ew:its.toArray[j]'(by simpa using hjl)=w0:=by
   have h2:=List.getElem?_eq_some_iff.mp hw0
   simpa using h2.2
  rw[ew,cI rw0 (flat j z hj),ez]
 ·intro m hm hlt
  have hm':m<its.length:=by simpa using hm
  obtain⟨z',hz'⟩:∃z',xs[m]?=some z':=⟨xs[m]'(by bv_omega),List.getElem?_eq_getElem (by bv_omega)⟩
  obtain⟨w1,hw1,rw1⟩:=r.get hz'
  have ew:its.toArray[m]'hm=w1:=by
   have h2:=List.getElem?_eq_some_iff.mp hw1
   simpa using h2.2
  rw[ew,cI rw1 (flat m z' hz'),no m z' hlt hz']
 ·exact⟨.int j,H,I.tok _,⟨_,rfl⟩,q⟩
end
def eM1 (f:List D->D->Option D) (mo ma:Ev->Res D):Ev->Res D:=fun ρ=>(mo ρ).bind fun x=>(Res.lft (lstD x)).bind fun ds=>(ma ρ).bind fun y=>Res.lft (f ds y)
theorem xZ1 (f:List D->D->Option D) (mo ma:Ev->Res D) (ρ:Ev):eM1 f mo ma ρ=(mo ρ).bind fun x=>(Res.lft (lstD x)).bind fun ds=>(ma ρ).bind fun y=>Res.lft (f ds y):=rfl
def StepOk (i j k:Int):Prop:=k≠0/\k.natAbs.log2<9000/\Builtin.Range.small i j k=true/\0<=Builtin.Range.rangeSize i j k
instance (i j k:Int):Decidable (StepOk i j k):=by unfold StepOk;infer_instance
end L2.L3
namespace L2.L3
open PySem PyProof.Rows
variable [CN]
section
variable {X:Cx}
end
def revT:D->Option D
 | .list ds=>some (.tuple ds.reverse)
 | _=>none
def eRevT (m:Ev->Res D):Ev->Res D:=fun ρ=>(m ρ).bind fun d=>Res.lft (revT d)
theorem yN3 (m:Ev->Res D) (ρ:Ev):eRevT m ρ=(m ρ).bind fun d=>Res.lft (revT d):=rfl
end L2.L3
namespace L2
open PySem PyProof.Rows
structure CScope2 (sc0 scope:Scope) (N0:List Str) (xt yt:Str) (fs:List Str) (js:List Nat):Prop where
 kind:scope.kind=.function
 nocell:∀y∈scope.names,y.2 ≠ .cell
 names:∀y∈scope.names,y.2=.local->scope.names.lookup y.1=some .local
 tgt:scope.names.lookup xt=some .local
 tgt2:scope.names.lookup yt=some .local
 frees:∀y∈scope.names,y.2=.free->sc0.names.lookup y.1=some .cell\/sc0.names.lookup y.1=some .free
 len:js.length=fs.length
 slots:∀p∈fs.zip js,N0[p.2]?=some p.1/\scope.names.lookup p.1=some .free
 nd:(xt::yt::fs).Nodup
def compSt2 (σ:St) (js:List Nat) (v w:Option V):St:=v::w::js.map fun j=>(σ[j]?).join
section
variable {X:Cx}{pins:List (Addr×Obj)}{σ:St}{H:Hp}{s₂ s₄:Shared}{sc0 scope:Scope}{N0:List Str}{xt yt:Str}{fs:List Str}{js:List Nat}{fp:List Addr}
theorem CScope2.cells (S:CScope2 sc0 scope N0 xt yt fs js) (h0:X.env.scope=sc0) (ok:X.Ok):∀n,(n,NameKind.free)∈scope.names->∃c,X.env.cells.lookup n=some c:=fun n hn=>ok.has n (by subst h0;exact S.frees _ hn rfl)
theorem CScope2.sub (S:CScope2 sc0 scope N0 xt yt fs js) (h0:X.env.scope=sc0) (ok:X.Ok):∀x c,(clos X.env.cells scope.names []).lookup x=some c->X.env.cells.lookup x=some c :=
 jE scope.names [] (S.cells h0 ok) fun x c e=>by simp at e
theorem Inv.block2 (S:CScope2 sc0 scope N0 xt yt fs js) (h0:X.env.scope=sc0) (hN0:X.N=N0) (I:Inv X pins σ H s₂) (hf:∀b∈fp,FpOk X pins H b) (hfo:∀b∈fp,∃o,s₂.heap.get? b=some o)
  (hos:s₄.os=s₂.os) (hg:AllBare s₄.gens) (hk:∀b o,s₂.heap.get? b=some o->s₄.heap.get? b=some o){C:Addr}(hC:s₂.heap.objs.size<=C){m:Str->Option Value}(hn:s₄.heap.Ns C m) :
  Inv (cxComp X (xt::yt::fs) scope C fp s₂ H) [] (compSt2 σ js none none) H s₄:=by
 have sub:=S.sub h0 I.ok
 have blt:∀b∈fp,b<s₂.heap.objs.size:=fun b hb=>let ⟨o,e⟩:=hfo b hb;Heap.lt_size e
 have ok:(cxComp X (xt::yt::fs) scope C fp s₂ H).Ok:=by
  refine⟨I.ok.mod,S.kind,I.ok.glob,I.ok.blt,hC,fun x y c h1 h2=>I.ok.inj x y c (sub x c h1) (sub y c h2),fun x hx => ?_,fun x c h=>(nomatch h),I.ok.hd,I.ok.frames,.inl rfl,fun b hb=>⟨?_,fun x c h=>(hf b hb).2.2.2.2.1 x c (sub x c h)⟩,I.bs,Nat.le_trans I.ok.bsz I.sz,fun b o e hb => ?_,fun b hb hs => ?_,I.stack,I.stkFree,I.tb⟩
  ·have hx:(relabel scope X.env).names.lookup x=some .cell\/(relabel scope X.env).names.lookup x=some .free:=hx
   have hfree:scope.names.lookup x=some .free:=by
    rcases hx with hx | hx
    ·rcases vS hx with q | ⟨_,q⟩
     ·exact absurd rfl (S.nocell _ (PySem.mem_of_lookup q))
     ·exact q
    ·rcases vS hx with q | ⟨q,_⟩
     ·exact q
     ·cases q
   exact vM scope.names [] x (PySem.mem_of_lookup hfree)
  ·exact Nat.ne_of_lt (Nat.lt_of_lt_of_le (blt b hb) hC)
  ·rcases (hf b hb).2.2.2.1 with z | z
   ·exact I.ok.noex b o e z
   ·exact absurd (Nat.lt_of_lt_of_le (Heap.lt_size (I.ok.bs b o e).1) z) (Nat.lt_irrefl _)
  ·rcases List.mem_cons.mp (I.stkSub b hs) with z | z
   ·exact (hf b hb).2.1 z
   ·exact (hf b hb).2.2.1 z
 refine⟨ok,hos,hg,Un.kept hk,⟨m,hn,fun i x v e1 e2 e3 => ?_⟩,fun x c e => ?_,I.hok.fresh hC,fun x c e=>I.freeC x c (sub x c e),fun p hp=>absurd (show p∈([]:List (Addr×Obj)) from hp) (by simp),I.hok.kept hk,?_⟩
 ·cases i with
  | zero=>cases e2
  | succ i =>
   cases i with
   | zero=>cases e2
   | succ i =>
   have e1:fs[i]?=some x:=e1
   have e2:(js.map fun j=>(σ[j]?).join)[i]?=some (some v):=e2
   rw[List.getElem?_map] at e2
   cases ej:js[i]? with
   | none=>rw[ej] at e2;cases e2
   | some j =>
    rw[ej] at e2
    have e2:(σ[j]?).join=some v:=Option.some.inj e2
    obtain⟨hN,hfr⟩:=S.slots _ (aZ e1 ej)
    have hN:X.N[j]?=some x:=by rw[hN0];exact hN
    have hk2:X.env.kindOf x=some .cell\/X.env.kindOf x=some .free:=by subst h0;exact S.frees _ (PySem.mem_of_lookup hfr) rfl
    have hs:σ[j]?=some (some v):=by
     cases q:σ[j]? with
     | none=>rw[q] at e2;cases e2
     | some z=>rw[q] at e2;rw[show z=some v from e2]
    obtain⟨m0,hn0,hl⟩:=I.loc
    obtain⟨u,r,l⟩:=hl j x v hN hs (by rcases hk2 with z | z;exact .inr (.inl z);exact .inr (.inr z))
    refine⟨u,r,?_⟩
    rcases l with ⟨hloc,_⟩ | ⟨_,c,hc,hcell⟩
    ·rcases hk2 with z | z
     ·rw[z] at hloc;cases hloc
     ·rw[z] at hloc;cases hloc
    ·obtain⟨c',hc'⟩:=vM (cells:=X.env.cells) scope.names [] x (PySem.mem_of_lookup hfr)
     have:c'=c:=Option.some.inj ((sub x c' hc').symm.trans hc)
     subst this
     exact .inr ⟨hR hfr,c',hc',hcell.keeps hk⟩
 ·obtain⟨v,z⟩:=I.cell x c (sub x c e)
  exact⟨v,z.keeps hk⟩
 ·show (compSt2 σ js none none).length=(xt::yt::fs).length
  unfold compSt2
  rw[List.length_cons,List.length_cons,List.length_map,List.length_cons,List.length_cons,S.len]
end
def tComp2 (K:KFr) (wi:TI) (tt:Addr->List Addr->Shared->Hp->TT) (te:Addr->List Addr->Shared->Hp->TE) (js:List Nat):TE:=fun σ H Q=>wi σ H fun J H1=>∀C fp s₂ H₂,∃W:Nat->Nat->List V->Hp->Prop,(∃m,W 0 m [] H1)/\∀i m acc H,W i m acc H ->
 (J.stop i H/\∀p,H p=none->Q (.ref p) (upd H p (.lst acc))) \/
 (J.go i H/\∃N:List V->Hp->Prop,(∀acc' H',N acc' H'->∃m',m'<m/\W (i+1) m' acc' H') /\
  ∀x H',J.yld i H x H'->∃ta x1 x2,x=.ref ta/\SqT K H' ta [x1,x2]/\tt C fp s₂ H₂ (compSt2 σ js (some x1) (some x2)) H' fun b H2=>if b=true then te C fp s₂ H₂ (compSt2 σ js (some x1) (some x2)) H2 fun v H3=>acc.length<sizeLine/\N (acc ++ [v]) H3 else N acc H2)
theorem yN4 {X:Cx}{elt iter:Expr}{ifs:List Expr}{sc0 scope:Scope}{N0:List Str}{px py tp pos:Pos}{k1:Nat}{xt yt:Str}{fs:List Str}{js:List Nat}{wi:TI}{tt:Addr->List Addr->Shared->Hp->TT}{te:Addr->List Addr->Shared->Hp->TE}(S:CScope2 sc0 scope N0 xt yt fs js) (h0:X.env.scope=sc0) (hN0:X.N=N0) (hc:X.calm=true)
  (hi:PI X (.Tuple [.Name xt px,.Name yt py] k1 tp) iter wi) (ht:∀C fp s₂ H,PTs (cxComp X (xt::yt::fs) scope C fp s₂ H) ifs (tt C fp s₂ H)) (he:∀C fp s₂ H,PE (cxComp X (xt::yt::fs) scope C fp s₂ H) elt (te C fp s₂ H))
  (hs:autoParam (∀x,foldedSetIterable iter X.env x=pure x) xB._auto_1) :
  PE X (.ListComp elt [⟨.Tuple [.Name xt px,.Name yt py] k1 tp,iter,ifs,0⟩] scope pos) (tComp2 X.K wi tt te js):=by
 intro pins s σ H Q I h
 rw[eval_ListComp]
 refine wpAny_comprehension_free (use:=none) rfl hs (kK (S.cells h0 I.ok)) S.kind S.names ?_
 refine thn (hi pins s σ H _ I h) fun v s1 h1=>thn h1 fun itv s2 h2 => ?_
 obtain⟨it,fp,tn,J,H2,e,I2,T,st2,f2,hW⟩:=h2
 subst e
 have fo:∀b∈fp,∃o,s2.heap.get? b=some o:=fun b hb=>let ⟨o,e,_⟩:=T.obj 0 s2.heap st2 b hb; ⟨o,e⟩
 have blt:∀b∈fp,b<s2.heap.objs.size:=fun b hb=>let ⟨o,e⟩:=fo b hb;Heap.lt_size e
 refine aJ S.nocell S.kind fun D C h₁ mC hDle hCle hDC old hacc hns₁ => ?_
 have bC:∀b o,s2.heap.get? b=some o->b≠C:=fun b o q z=>Nat.not_lt.mpr hCle (z▸Heap.lt_size q)
 have bD:∀b o,s2.heap.get? b=some o->b≠D:=fun b o q z=>Nat.not_lt.mpr hDle (z▸Heap.lt_size q)
 obtain⟨W,⟨m0,w0⟩,turn⟩:=hW C fp s2 H2
 have fpk:∀{H':Hp}(ob:Obj),(∀b∈fp,H' b=none)->∀b∈fp,FpOk (cxComp X (xt::yt::fs) scope C fp s2 H2) [(D,ob)] H' b:=fun {H'} ob hn b hb=>by
  refine⟨hn b hb,Nat.ne_of_lt (Nat.lt_of_lt_of_le (blt b hb) hCle),fun z => ?_,.inl hb,fun x c e=>(f2 b hb).2.2.2.2.1 x c (S.sub h0 I2.ok x c e),fun p hp => ?_⟩
  ·rcases List.mem_cons.mp (I2.stkSub b z) with q | q
   ·exact (f2 b hb).2.1 q
   ·exact (f2 b hb).2.2.1 q
  ·have:p=(D,ob):=by
    have hp:p ∈ [] ++ [(D,ob)]:=hp
    simpa using hp
   subst this
   exact Nat.ne_of_gt (Nat.lt_of_lt_of_le (blt b hb) hDle)
 have loop:codeAny (model X.prog X.w) X.A (.compLoop (.ListComp elt [⟨.Tuple [.Name xt px,.Name yt py] k1 tp,iter,ifs,0⟩] scope pos) 0 (.ref it) (.ref D) (compEnvC scope (clos X.env.cells scope.names []) C X.env))
    (compPost (model X.prog X.w) X.A X.xe none (EP X pins σ Q) (.ref D) C) { s2 with heap:=h₁ }:=by
  have J0:Inv (cxComp X (xt::yt::fs) scope C fp s2 H2) [] (compSt2 σ js none none) H2 { s2 with heap:=h₁ } :=
   Inv.block2 (s₂:=s2) (s₄:={ s2 with heap:=h₁ }) S h0 hN0 I2 f2 fo rfl I2.bare old hCle hns₁
  have H2D:H2 D=none:=I2.hok.fresh hDle
  have ofD:D∉frs X.stack:=fun z=>by
   rcases List.mem_cons.mp (I2.stkSub D z) with q | q
   ·exact absurd I2.lt (by rw[<-q];exact Nat.not_lt.mpr hDle)
   ·exact I2.nofs (a:=D) hDle q
  refine codeAny_loop rfl (fun n s'=>∃(i:Nat) (σ':St) (H':Hp) (acc:List V) (its:List Value) (k:Nat),(∃v0 w0,σ'=compSt2 σ js v0 w0)/\Inv (cxComp X (xt::yt::fs) scope C fp s2 H2) [] σ' H' s'/\tn i s'.heap/\(∀b∈fp,H' b=none)/\H' D=none /\
    s'.heap.get? D=some { cls:=.type "list",data:=.seq its.toArray k }/\Vals acc its/\acc.length<=sizeLine/\W i n acc H') ?_ m0
   ⟨0,_,H2,[],[],0,⟨none,none,rfl⟩,J0,T.keep 0 _ _ st2 fun b hb o e=>old b o e,fun b hb=>(f2 b hb).1,H2D,hacc,.nil,Nat.zero_le _,w0⟩
  rintro n s3 ⟨i,σ3,H3,acc,its,k,⟨v0,w0,rfl⟩,I3,st3,fr3,hD3,d3,va,hz,w3⟩
  show wpAny _ X.A ((compTurn (.ListComp elt [⟨.Tuple [.Name xt px,.Name yt py] k1 tp,iter,ifs,0⟩] scope pos) 0 (.ref it) (.ref D) (compEnvC scope (clos X.env.cells scope.names []) C X.env)).onRaise (fun x=>do noteFrame x (compEnvC scope (clos X.env.cells scope.names []) C X.env);theTreesLotGoes x)) _ _ s3
  refine wpAny_noted ?_
  rw[compTurn_list]
  refine wpAny_bind (wpAny_standAt ?_)
  have pinD:Inv (cxComp X (xt::yt::fs) scope C fp s2 H2) [(D,{ cls:=.type "list",data:=.seq its.toArray k })] (compSt2 σ js v0 w0) H3 s3:=I3.yC fun p hp=>by
   have:p=(D,{ cls:=.type "list",data:=.seq its.toArray k }):=by simpa using hp
   subst this
   exact⟨d3,hD3,hDC,ofD,fun v z=>by cases z⟩
  refine wpAny_bind ?_
  rcases turn i n acc H3 w3 with ⟨stop,qn⟩ | ⟨go,N,hN,step⟩
  ·refine thn (T.done (cxComp X (xt::yt::fs) scope C fp s2 H2) rfl rfl rfl hc i _ s3 _ H3 _ pinD (fpk _ fr3) st3 stop) fun r s4 ⟨hr,I4⟩ => ?_
   subst hr
   refine wpAny_pure ?_
   obtain⟨m4,hn4,_⟩:=I4.loc
   refine⟨m4,hn4,fun h' hsb=>⟨.ref D,_,I2.unblock f2 I4 hCle hDle hDC hD3 ((I4.pin (D,{ cls:=.type "list",data:=.seq its.toArray k }) (List.mem_append_right _ List.mem_cons_self)).1) va hz hsb,rfl,qn D hD3⟩⟩
  ·refine thn (T.item (cxComp X (xt::yt::fs) scope C fp s2 H2) rfl rfl rfl hc i _ s3 _ H3 _ pinD (fpk _ fr3) st3 go) fun r s4 ⟨u,hr,h4⟩ => ?_
   subst hr
   refine wpAny_bind (thn h4 fun _ s5 ⟨x,H5,I5,r5,y5,st5,fr5⟩ => ?_)
   have I5':=I5.pinned (fpk _ fr5) (T.obj _ _ st5)
   obtain⟨ta,x1,x2,ex,hx,q6⟩:=step x H5 y5
   have g0:PG (cxComp X (xt::yt::fs) scope C fp s2 H2) (.Name xt px) (gName 0):=vL S.nd rfl (.inl (lookup_relabel_local S.tgt)) (.inr (lookup_relabel_local S.tgt))
   have g1:PG (cxComp X (xt::yt::fs) scope C fp s2 H2) (.Name yt py) (gName 1):=vL S.nd rfl (.inl (lookup_relabel_local S.tgt2)) (.inr (lookup_relabel_local S.tgt2))
   have gok:PG (cxComp X (xt::yt::fs) scope C fp s2 H2) (.Tuple [.Name xt px,.Name yt py] k1 tp) (gTup X.K 2 (gCons (gName 0) (gCons (gName 1) gNil))):=zA5 hc (dN g0 (dN g1 zI4))
   have noE:∀(a:Value) (s':Shared),(cxComp X (xt::yt::fs) scope C fp s2 H2).xe a s'->notedBy (model X.prog X.w) X.A (compEnvC scope (clos X.env.cells scope.names []) C X.env) (fun e s'=>compPost (model X.prog X.w) X.A X.xe none (EP X pins σ Q) (.ref D) C (.error e) s') a s':=fun _ _ z=>False.elim z
   refine wpAny_bind (wpAny_mono (gok _ s5 (compSt2 σ js v0 w0) H5 x u (fun σ' H'=>σ'=compSt2 σ js (some x1) (some x2)/\H'=H5) I5' r5 ⟨ta,[x1,x2],ex,hx,rfl,x1,[x2],rfl,x2,[],rfl,rfl,rfl,rfl⟩) (fun _ s6 ⟨σ6,H6,I6,e6,e6'⟩ => ?_) noE)
   subst e6 e6'
   have fin:∀{acc':List V}{its':List Value}{k':Nat}{H7:Hp}{s7:Shared},Inv (cxComp X (xt::yt::fs) scope C fp s2 H2) [] (compSt2 σ js (some x1) (some x2)) H7 s7->tn (i+1) s7.heap->(∀b∈fp,H7 b=none)->H7 D=none->s7.heap.get? D=some { cls:=.type "list",data:=.seq its'.toArray k' }->Vals acc' its'->acc'.length<=sizeLine->N acc' H7 ->
     ∃m,m<n/\∃(i:Nat) (σ':St) (H':Hp) (acc:List V) (its:List Value) (k:Nat),(∃v0 w0,σ'=compSt2 σ js v0 w0)/\Inv (cxComp X (xt::yt::fs) scope C fp s2 H2) [] σ' H' s7/\tn i s7.heap/\(∀b∈fp,H' b=none)/\H' D=none /\
      s7.heap.get? D=some { cls:=.type "list",data:=.seq its.toArray k }/\Vals acc its/\acc.length<=sizeLine/\W i m acc H':=fun {acc' its' k' H7 s7} a1 a2 a3 a4 a5 a6 a7 a8=>by
    obtain⟨m',hm,w7⟩:=hN _ _ a8
    exact⟨m',hm,i+1,_,H7,acc',its',k',⟨_,_,rfl⟩,a1,a2,a3,a4,a5,a6,a7,w7⟩
   have rest:∀{H7:Hp}{s7:Shared},Inv (cxComp X (xt::yt::fs) scope C fp s2 H2) ([(D,{ cls:=.type "list",data:=.seq its.toArray k })]++pinsAt fp s5.heap) (compSt2 σ js (some x1) (some x2)) H7 s7 ->
     tn (i+1) s7.heap/\(∀b∈fp,H7 b=none)/\H7 D=none/\s7.heap.get? D=some { cls:=.type "list",data:=.seq its.toArray k }:=fun {H7 s7} I7=>by
    refine⟨T.keep _ _ _ st5 fun b hb o e=>(I7.pin (b,o) (List.mem_append_right _ (List.mem_append_right _ (xA hb e)))).1,fun b hb => ?_,(I7.pin (D,{ cls:=.type "list",data:=.seq its.toArray k }) (List.mem_append_right _ (List.mem_append_left _ List.mem_cons_self))).2.1,(I7.pin (D,{ cls:=.type "list",data:=.seq its.toArray k }) (List.mem_append_right _ (List.mem_append_left _ List.mem_cons_self))).1⟩
    obtain⟨o,e,d⟩:=T.obj _ _ st5 b hb
    exact (I7.pin (b,o) (List.mem_append_right _ (List.mem_append_right _ (xA hb e)))).2.1
   have elem:∀{H7:Hp}{s7:Shared},Inv (cxComp X (xt::yt::fs) scope C fp s2 H2) ([(D,{ cls:=.type "list",data:=.seq its.toArray k })]++pinsAt fp s5.heap) (compSt2 σ js (some x1) (some x2)) H7 s7 ->
     (te C fp s2 H2 (compSt2 σ js (some x1) (some x2)) H7 fun v H3=>acc.length<sizeLine/\N (acc ++ [v]) H3) ->
     wpAny (model X.prog X.w) X.A (eval elt (compEnvC scope (clos X.env.cells scope.names []) C X.env)) (fun y s8=>wpAny (model X.prog X.w) X.A (call (.builtin "list.append") [.ref D,y]) (fun _ s9=>∃m,m<n/\∃(i:Nat) (σ':St) (H':Hp) (acc:List V) (its:List Value) (k:Nat),(∃v0 w0,σ'=compSt2 σ js v0 w0)/\Inv (cxComp X (xt::yt::fs) scope C fp s2 H2) [] σ' H' s9/\tn i s9.heap/\(∀b∈fp,H' b=none)/\H' D=none /\
      s9.heap.get? D=some { cls:=.type "list",data:=.seq its.toArray k }/\Vals acc its/\acc.length<=sizeLine/\W i m acc H')
      (fun _ _=>False) s8) (fun _ _=>False) s7:=fun {H7 s7} I7 q7=>by
    refine thn (he C fp s2 H2 _ s7 _ H7 _ I7 q7) fun y s8 ⟨v,H8,I8,r8,hl8,n8⟩ => ?_
    obtain⟨t8,fr8,hD8,d8⟩:=rest I8
    have hsz:=va.length
    refine call_meets F.slot_list_append ⟨_,d8,rfl⟩ F.entry_list_append (F.args_list_append_2 _ _) (PySem.list_append D its.toArray k y (by rw[List.size_toArray];bv_omega)) ⟨d8,?_⟩
    have q:=PySem.IsL.update d8 (·.push y)
    rw[show (its.toArray.push y)=(its ++ [y]).toArray by simp] at q
    have kk:∀b o,b≠D->s8.heap.get? b=some o->(s8.heap.update D (Obj.mapSeq (·.push y))).get? b=some o:=fun b o hb e=>(Heap.get?_update_other s8.heap _ (Ne.symm hb)).trans e
    have I9:Inv (cxComp X (xt::yt::fs) scope C fp s2 H2) [] (compSt2 σ js (some x1) (some x2)) H8 { s8 with heap:=s8.heap.update D (Obj.mapSeq (·.push y)) }:=by
     refine Inv.turned (it:=D) (t':=s8.toks) (I8.yC (pins':=[]) fun p hp=>nomatch hp) kk hD8 hDC (.inr hDle) (fun x c e z => ?_) fun p hp=>absurd (show p∈([]:List (Addr×Obj)) from hp) (by simp)
     obtain⟨v,o,ho,_⟩:=I2.cell x c (S.sub h0 I2.ok x c e)
     exact bD c o ho z
    refine fin I9 (T.keep _ _ _ t8 fun b hb o e=>kk b o (Nat.ne_of_lt (Nat.lt_of_lt_of_le (blt b hb) hDle)) e) fr8 hD8 q (va.append (.cons r8 .nil)) ?_ n8
    rw[List.length_append,List.length_singleton]
    bv_omega
   have htt:=ht C fp s2 H2
   generalize tt C fp s2 H2=tt' at htt q6
   cases htt with
   | nil =>
    refine wpAny_bind (wpAny_pure ?_)
    dsimp only[tTrue] at q6
    rw[if_pos rfl] at q6
    refine wpAny_mono (wpAny_bind (wpAny_bind (thn (elem I6 q6) fun y s8 h8=>wpAny_bind (thn h8 fun _ s9 h9=>wpAny_pure (wpAny_pure ⟨rfl,h9⟩))))) (fun _ _ z=>z) fun _ _ z=>False.elim z
   | one ht1 =>
    refine wpAny_bind (wpAny_tests_one (wpAny_mono (ht1 _ s6 _ H6 _ I6 q6) (fun b s7 ⟨H7,I7,q7⟩ => ?_) noE))
    cases b with
    | false =>
     rw[if_neg Bool.false_ne_true] at q7
     obtain⟨t8,fr8,hD8,d8⟩:=rest I7
     exact wpAny_pure ⟨rfl,fin (I7.yC (pins':=[]) fun p hp=>nomatch hp) t8 fr8 hD8 d8 va hz q7⟩
    | true =>
     rw[if_pos rfl] at q7
     refine wpAny_mono (wpAny_bind (wpAny_bind (thn (elem I7 q7) fun y s8 h8=>wpAny_bind (thn h8 fun _ s9 h9=>wpAny_pure (wpAny_pure ⟨rfl,h9⟩))))) (fun _ _ z=>z) fun _ _ z=>False.elim z
 exact codeAny_compStart_list loop (T.self X.A 0 _ _ _ (T.keep 0 _ _ st2 fun b hb o e=>old b o e) loop)
end L2
namespace L2.L3
open PySem PyProof.Rows
variable [CN]
def cEnv2 (ρ:Ev) (js:List Nat) (x y:D):Ev:=some x::some y::js.map fun j=>(ρ[j]?).join
def capt2 (js l:List Nat):List Nat:=((List.range js.length).filter fun i=>l.contains (js.getD i 0)).map (·+2)
def pr2 {α:Type}(d:D) (f:D->D->Res α):Res α :=
 match d with
 | .tuple [a,b]=>f a b
 | _=>.no
theorem xW2 {α:Type}{d:D}{f:D->D->Res α}{r:α}(h:pr2 d f=.ok r):∃a b,d=.tuple [a,b]/\f a b=.ok r:=by
 unfold pr2 at h
 split at h
 ·exact⟨_,_,rfl,h⟩
 ·cases h
def eComp2 (mi:Ev->Res (List D)) (mt:Ev->Res Bool) (me:Ev->Res D) (js:List Nat):Ev->Res D:=fun ρ=>(mi ρ).bind fun ds=>if ds.length<=sizeLine then (compM (fun d=>pr2 d fun x y=>mt (cEnv2 ρ js x y)) (fun d=>pr2 d fun x y=>me (cEnv2 ρ js x y)) ds).bind fun out=>.ok (.list out) else .no
theorem zC7 {js l:List Nat}{i:Nat}(h:i∈capt2 js l):∃k,i=k+2/\k<js.length/\js.getD k 0∈l:=by
 unfold capt2 at h
 obtain⟨k,hk,rfl⟩:=List.mem_map.mp h
 obtain⟨h1,h2⟩:=List.mem_filter.mp hk
 exact⟨k,rfl,List.mem_range.mp h1,List.contains_iff_mem.mp h2⟩
theorem aB {js l:List Nat}{k j:Nat}(h:js[k]?=some j) (hl:j∈l):k+2∈capt2 js l:=by
 unfold capt2
 refine List.mem_map.mpr ⟨k,List.mem_filter.mpr ⟨List.mem_range.mpr ?_,?_⟩,rfl⟩
 ·exact (List.getElem?_eq_some_iff.mp h).1
 ·rw[List.getD_eq_getElem?_getD,h]
  exact List.contains_iff_mem.mpr hl
theorem cK {ρ:Ev}{js:List Nat}{x y d:D}{k:Nat}(h:(cEnv2 ρ js x y)[k+2]?=some (some d)):∃j,js[k]?=some j/\ρ[j]?=some (some d):=by
 unfold cEnv2 at h
 rw[List.getElem?_cons_succ,List.getElem?_cons_succ,List.getElem?_map] at h
 cases e:js[k]? with
 | none=>rw[e] at h;cases h
 | some j =>
  rw[e] at h
  refine⟨j,rfl,?_⟩
  have h:(ρ[j]?).join=some d:=Option.some.inj h
  cases q:ρ[j]? with
  | none=>rw[q] at h;cases h
  | some z=>rw[q] at h;rw[show z=some d from h]
theorem xH {σ:St}{js:List Nat}{v0 w0:Option V}{v:V}{k j:Nat}(h:js[k]?=some j) (e:σ[j]?=some (some v)):(compSt2 σ js v0 w0)[k+2]?=some (some v):=by
 unfold compSt2
 rw[List.getElem?_cons_succ,List.getElem?_cons_succ,List.getElem?_map,h]
 show some ((σ[j]?).join)=_
 rw[e]
 rfl
def cW2 (Oc:Wd) (Ob:Addr->Prop) (σ:St) (js:List Nat):Wd:=⟨Uni Oc Ob,fun i=>adr ((compSt2 σ js none none)[i]?)⟩
theorem Rel.comp2 {Oc:Wd}{Ob:Addr->Prop}{om ln:List Nat}{σ:St}{H:Hp}{ρ:Ev}{js:List Nat}{x y:V}{d d2:D}(R:Rel Oc Ob om ln σ H ρ) (r:Rep H (Uni Oc Ob) x d) (r2:Rep H (Uni Oc Ob) y d2):Rel (cW2 Oc Ob σ js) (fun _=>False) [] (capt2 js (om++ln)) (compSt2 σ js (some x) (some y)) H (cEnv2 ρ js d d2) where
 len:=by unfold compSt2 cEnv2;simp
 val:=fun i d' e _ hl=>by
  cases i with
  | zero =>
   cases e
   exact⟨x,rfl,r.less fun b z=>z.elim id fun z=>z.elim⟩
  | succ k =>
   cases k with
   | zero =>
   cases e
   exact⟨y,rfl,r2.less fun b z=>z.elim id fun z=>z.elim⟩
   | succ k =>
   obtain⟨j,e1,e2⟩:=cK e
   have h1:j∉om:=fun z=>hl (aB e1 (List.mem_append_left _ z))
   have h2:j∉ln:=fun z=>hl (aB e1 (List.mem_append_right _ z))
   obtain⟨v,q,rv⟩:=R.val j d' e2 h1 h2
   exact⟨v,xH e1 q,rv.less fun b z=>z.elim id fun z=>z.elim⟩
 own:=fun i d' e h=>nomatch h
 lnt:=fun i d' e _ hl=>by
  obtain⟨k,rfl,hk,hj⟩:=zC7 hl
  obtain⟨j,e1,e2⟩:=cK e
  rw[List.getD_eq_getElem?_getD,e1,Option.getD_some] at hj
  by_cases ho:j∈om
  ·obtain⟨v,q,a,ys,ds,z1,z2,z3,z4,z5⟩:=R.own j d' e2 ho
   have ea:(cW2 Oc Ob σ js).la (k+2)=a:=by show adr _=a;rw[xH e1 q,z1];rfl
   exact⟨v,xH e1 q,ys,ds,by rw[ea];exact z1,z2,by rw[ea];exact z3,by rw[ea];exact .inr z4,z5.less fun b z=>z.elim id fun z=>z.elim⟩
  ·have hl2:j∈ln:=(List.mem_append.mp hj).elim (fun z=>absurd z ho) id
   obtain⟨v,q,ys,ds,z1,z2,z3,z4,z5⟩:=R.lnt j d' e2 ho hl2
   have ea:(cW2 Oc Ob σ js).la (k+2)=Oc.la j:=by show adr _=_;rw[xH e1 q,z1];rfl
   exact⟨v,xH e1 q,ys,ds,by rw[ea];exact z1,z2,by rw[ea];exact z3,by rw[ea];exact .inl z4,z5.less fun b z=>z.elim id fun z=>z.elim⟩
 inj:=fun i j di dj a _ _ h=>nomatch h
 oh:=fun a z=>R.oh a (z.elim id fun z=>z.elim)
 ap:=fun a z=>z.elim
abbrev cC2 (C:Ct) (N:List Str) (scope:Scope) (A:Addr) (fp:List Addr) (s₂:Shared) (H:Hp) (js:List Nat):Ct:=⟨cxComp C.X N scope A fp s₂ H,fun _ _=>False,[],capt2 js (C.om++C.ln)⟩
theorem yS1 {K:KFr}{H:Hp}{O:Addr->Prop}{x:V}{a b:D}(r:Rep H O x (.tuple [a,b])):∃ta x1 x2,x=.ref ta/\SqT K H ta [x1,x2]/\Rep H O x1 a/\Rep H O x2 b:=by
 cases r with
 | tup r n t =>
  cases t with
  | cons h1 t =>
   cases t with
   | cons h2 t =>
    cases t
    exact⟨_,_,_,rfl,.inl r,h1,h2⟩
theorem yU4 {C:Ct}{elt iter:Expr}{ifs:List Expr}{sc0 scope:Scope}{N0:List Str}{px py tp pos:Pos}{k1:Nat}{xt yt:Str}{fs:List Str}{js:List Nat}{mi:Ev->Res (List D)}{mt:Ev->Res Bool}{me:Ev->Res D}(S:CScope2 sc0 scope N0 xt yt fs js) (h0:C.X.env.scope=sc0) (hN0:C.X.N=N0) (hc:C.X.calm=true)
  (hi:RIc C (.Tuple [.Name xt px,.Name yt py] k1 tp) iter mi) (ht:∀A fp s₂ H,RTs (cC2 C (xt::yt::fs) scope A fp s₂ H js) ifs mt) (he:∀A fp s₂ H,RE (cC2 C (xt::yt::fs) scope A fp s₂ H js) .cl elt me)
  (hs:autoParam (∀x,foldedSetIterable iter C.X.env x=pure x) xB._auto_1) :
  RE C .new (.ListComp elt [⟨.Tuple [.Name xt px,.Name yt py] k1 tp,iter,ifs,0⟩] scope pos) (eComp2 mi mt me js):=by
 obtain⟨wi,pi,qi⟩:=hi
 refine⟨_,yN4 (tt:=fun A fp s H=>Classical.choose (ht A fp s H)) (te:=fun A fp s H=>Classical.choose (he A fp s H)) S h0 hN0 hc pi (fun A fp s H=>(Classical.choose_spec (ht A fp s H)).1) (fun A fp s H=>(Classical.choose_spec (he A fp s H)).1) hs,fun Oc Ob σ H ρ Q R h => ?_⟩
 refine qi Oc Ob σ H ρ _ R (Res.zS (Res.zX h) (fun ds _ k J H1 s1 wk => ?_) fun _ z=>z)
 intro A fp s₂ H₂
 have qt:=(Classical.choose_spec (ht A fp s₂ H₂)).2
 have qe:=(Classical.choose_spec (he A fp s₂ H₂)).2
 have k:(if ds.length<=sizeLine then (compM (fun d=>pr2 d fun x y=>mt (cEnv2 ρ js x y)) (fun d=>pr2 d fun x y=>me (cEnv2 ρ js x y)) ds).bind fun out=>Res.ok (PyData.list out) else .no).post (fun d=>∀v H',Same H H'->VR .new Oc Ob H H' v d->Q v H') (fun c=>∀H',Same H H'->C.XE c H'):=k
 by_cases hlen:ds.length<=sizeLine
 ·rw[if_pos hlen] at k
  generalize hT:(fun d=>pr2 d fun x y=>mt (cEnv2 ρ js x y))=T at k
  generalize hF:(fun d=>pr2 d fun x y=>me (cEnv2 ρ js x y))=F at k
  cases ec:compM T F ds with
  | no=>rw[ec] at k;exact k.elim
  | ex c =>
   exfalso
   have nex:∀xs c,compM T F xs ≠ .ex c:=by
    intro xs
    induction xs with
    | nil=>intro c z;cases z
    | cons x xs ih =>
     intro c z
     rw[compM] at z
     cases e1:noEx (T x) with
     | no=>rw[e1] at z;cases z
     | ex c'=>cases hx:T x <;> rw[hx] at e1 <;> cases e1
     | ok b =>
      rw[e1,Res.bind_ok] at z
      cases b with
      | false=>exact ih c z
      | true =>
       simp only[if_true] at z
       cases e2:noEx (F x) with
       | no=>rw[e2] at z;cases z
       | ex c'=>cases hx:F x <;> rw[hx] at e2 <;> cases e2
       | ok y =>
        rw[e2,Res.bind_ok] at z
        cases e3:compM T F xs with
        | no=>rw[e3] at z;cases z
        | ex c'=>exact ih c' e3
        | ok ys=>rw[e3] at z;cases z
   exact nex ds c ec
  | ok out =>
   rw[ec,Res.bind_ok] at k
   refine⟨fun i m acc H=>m=ds.length-i/\i<=ds.length/\Same H1 H/\∃done rest,Reps H (Uni Oc Ob) acc done/\acc.length<=i/\compM T F (ds.drop i)=.ok rest/\done++rest=out,⟨_,rfl,Nat.zero_le _,Same.refl _,[],out,.nil,Nat.le_refl _,ec,rfl⟩,?_⟩
   rintro i m acc H2 ⟨rfl,hi,s2,done,rest,ra,la,er,eo⟩
   obtain⟨w1,w2⟩:=wk H2 s2 i
   have R2:=(R.same s1).same s2
   by_cases hlt:i<ds.length
   ·obtain⟨go,yl⟩:=w1 ds[i] (List.getElem?_eq_getElem hlt)
    have ed:ds.drop i=ds[i]::ds.drop (i+1):=List.drop_eq_getElem_cons hlt
    rw[ed,compM] at er
    have nxt:∀(acc':List V) (H3:Hp) (done' rest':List D),Same H2 H3->Reps H3 (Uni Oc Ob) acc' done'->acc'.length<=i+1->compM T F (ds.drop (i+1))=.ok rest'->done'++rest'=out ->
      ∃m',m'<ds.length-i/\(m'=ds.length-(i+1)/\i+1<=ds.length/\Same H1 H3/\∃done rest,Reps H3 (Uni Oc Ob) acc' done/\acc'.length<=i+1/\compM T F (ds.drop (i+1))=.ok rest/\done++rest=out) :=
     fun acc' H3 done' rest' s3 r3 l3 c3 o3=>⟨_,by bv_omega,rfl,hlt,s2.trans s3,done',rest',r3,l3,c3,o3⟩
    refine .inr ⟨go,fun acc' H'=>∃m',m'<ds.length-i/\(m'=ds.length-(i+1)/\i+1<=ds.length/\Same H1 H'/\∃done rest,Reps H' (Uni Oc Ob) acc' done/\acc'.length<=i+1/\compM T F (ds.drop (i+1))=.ok rest/\done++rest=out),fun acc' H' z=>z,fun x H3 hy => ?_⟩
    obtain⟨s3,rx⟩:=yl x H3 hy
    cases e1:noEx (T ds[i]) with
    | no=>rw[e1] at er;cases er
    | ex c=>rw[e1] at er;cases er
    | ok b =>
     rw[e1,Res.bind_ok] at er
     have t0:=fM e1
     rw[<-hT] at t0
     obtain⟨da,db,ed2,t1⟩:=xW2 t0
     rw[ed2] at rx
     obtain⟨ta,x1,x2,rfl,hsq,rx1,rx2⟩:=yS1 (K:=C.X.K) rx
     have R3:=(R2.same s3).comp2 (js:=js) rx1 rx2
     refine⟨ta,x1,x2,rfl,hsq,?_⟩
     refine qt _ _ _ H3 _ _ R3 ?_
     show (mt (cEnv2 ρ js da db)).post _ _
     rw[t1]
     intro H4 s4
     cases b with
     | false=>exact iteF (nxt acc H4 done rest (s3.trans s4) (ra.same (s3.trans s4)) (by bv_omega) er eo)
     | true =>
      refine iteT ?_
      simp only[if_true] at er
      cases e2:noEx (F ds[i]) with
      | no=>rw[e2] at er;cases er
      | ex c=>rw[e2] at er;cases er
      | ok y =>
       rw[e2,Res.bind_ok] at er
       have t2:me (cEnv2 ρ js da db)=.ok y:=by
        have t2:=fM e2
        rw[<-hF,ed2] at t2
        exact t2
       refine qe _ _ _ H4 _ _ (R3.same s4) ?_
       show (me (cEnv2 ρ js da db)).post _ _
       rw[t2]
       intro v H5 s5 rv
       refine⟨by bv_omega,?_⟩
       obtain⟨ys,e3⟩:∃ys,compM T F (ds.drop (i+1))=.ok ys:=by
        cases e3:compM T F (ds.drop (i+1)) with
        | no=>rw[e3] at er;cases er
        | ex c=>rw[e3] at er;cases er
        | ok ys=>exact⟨ys,rfl⟩
       rw[e3,Res.bind_ok] at er
       cases er
       have rv':Rep H5 (Uni Oc Ob) v y:=Rep.less rv fun b z=>.inl z
       refine nxt (acc ++ [v]) H5 (done ++ [y]) ys ((s3.trans s4).trans s5) ((ra.same ((s3.trans s4).trans s5)).append (.one rv')) (by rw[List.length_append,List.length_singleton];bv_omega) e3 ?_
       rw[List.append_assoc]
       exact eo
   ·have ei:i=ds.length:=by bv_omega
    subst ei
    refine .inl ⟨w2 (Nat.le_refl _),fun p hp => ?_⟩
    rw[List.drop_length] at er
    cases er
    rw[List.append_nil] at eo
    subst eo
    exact k _ _ ((s1.trans s2).trans (Same.new hp)) (xY (s1.trans s2) hp ra)
 ·rw[if_neg hlen] at k
  exact k.elim
theorem RIo.c {C:Ct}{tg iter:Expr}{m:Ev->Res (List D)}(h:RIo C tg iter m):RIc C tg iter m:=by
 obtain⟨wi,p,q⟩:=h
 exact⟨wi,p,fun Oc Ob σ H ρ W R h=>q Oc Ob σ H ρ W R (Res.zS h (fun ds _ k J H1 s w=>k J H1 s fun H2 s2=>w H2 Ob (Same.frm s2) (fun b z=>.inl z) (R.same (s.trans s2)).oh) fun _ z=>z)⟩
section
variable {X:Cx}{pins:List (Addr×Obj)}{σ:St}{H:Hp}{s:Shared}{h':Heap}
end
structure Apart5 (z TI TO i1 i2:Addr):Prop where
 TIz:TI≠z
 TOz:TO≠z
 i1z:i1≠z
 i2z:i2≠z
 TITO:TI≠TO
 TIi1:TI≠i1
 TIi2:TI≠i2
 TOi1:TO≠i1
 TOi2:TO≠i2
 i12:i1≠i2
end L2.L3
namespace L2
open PySem PySem.Spec PyProof.Rows
end L2
namespace L2.L3
open PySem PySem.Spec PyProof.Rows
variable [CN]
end L2.L3
namespace L2.L3
open PySem
variable [CN]
theorem yY5 (mi:Ev->Res (List D)) (mt:Ev->Res Bool) (me:Ev->Res D) (js:List Nat) (ρ:Ev):eComp2 mi mt me js ρ=(mi ρ).bind fun ds=>if ds.length<=sizeLine then (compM (fun d=>pr2 d fun x y=>mt (cEnv2 ρ js x y)) (fun d=>pr2 d fun x y=>me (cEnv2 ρ js x y)) ds).bind fun out=>.ok (.list out) else .no:=rfl
theorem zE4 {mi:Ev->Res (List D)}{t:Ev->Res Bool}{me:Ev->Res D}{js:List Nat}{ρ:Ev}{α:Type}(A B:α->D) (p:α->Bool) (q:α->D) (xs:List α) (h:mi ρ=.ok (xs.map fun x=>PyData.tuple [A x,B x])) (hl:xs.length<=1000)
  (ht:∀x∈xs,t (cEnv2 ρ js (A x) (B x))=.ok (p x)) (hf:∀x∈xs,p x=true->me (cEnv2 ρ js (A x) (B x))=.ok (q x)):eComp2 mi t me js ρ=.ok (.list ((xs.filter p).map q)):=by
 rw[yY5,h,Res.bind_ok,zJ6 (by rw[List.length_map];exact hl),gO (fun x=>PyData.tuple [A x,B x]) p q xs (fun x hx=>ht x hx) (fun x hx hp=>hf x hx hp)]
 rfl
theorem zG5 {mi:Ev->Res (List D)}{me:Ev->Res D}{js:List Nat}{ρ:Ev}{α:Type}(A B:α->D) (q:α->D) (xs:List α) (h:mi ρ=.ok (xs.map fun x=>PyData.tuple [A x,B x])) (hl:xs.length<=1000)
  (hf:∀x∈xs,me (cEnv2 ρ js (A x) (B x))=.ok (q x)):eComp2 mi tYes me js ρ=.ok (.list (xs.map q)):=by
 rw[zE4 A B (fun _=>true) q xs h hl (fun _ _=>rfl) (fun x hx _=>hf x hx),List.filter_eq_self.mpr fun _ _=>rfl]
end L2.L3
namespace L2.L3
open PySem PyProof.Rows
variable [CN]
section
variable {X:Cx}
end
def revL:D->Option D
 | .list ds=>some (.list ds.reverse)
 | _=>none
def eRevL (m:Ev->Res D):Ev->Res D:=fun ρ=>(m ρ).bind fun d=>Res.lft (revL d)
theorem yT1 (m:Ev->Res D) (ρ:Ev):eRevL m ρ=(m ρ).bind fun d=>Res.lft (revL d):=rfl
end L2.L3
namespace HT
open PySem PyProof.Rows
section
variable {prog:Program}{w:World}{A:Around}{E:Value->Shared->Prop}{s:Shared}
theorem yT4 {t b:Addr}{ws:List Value}{Q:Value->Shared->Prop}(ht:IsTup s.heap t ([]:List Value).toArray) (hb:IsTup s.heap b ws.toArray) (h:Q (.ref b) s):wpAny (model prog w) A (binaryOp .Add (.ref t) (.ref b)) Q E s:=by
 obtain⟨⟨cls,dd,data,sl⟩,ho,hc,n,hd⟩:=id ht
 obtain⟨⟨cls2,dd2,data2,sl2⟩,ho2,hc2,n2,hd2⟩:=id hb
 simp only at hc hd hc2 hd2
 subst hc hd hc2 hd2
 exact concat_meets ⟨_,ho,rfl⟩ ⟨_,ho2,rfl⟩ noFill_tuple_add seq_tuple_add PySem.F.slot_tuple_add PySem.F.entry_tuple_add (PySem.F.args_tuple_add_2 _ _)
  (tuple_addW0 t b ([]:List Value).toArray ws.toArray n n2 dd dd2 sl sl2 (by simp)) ⟨ho,ho2,h⟩
end
end HT
namespace L2.L3
open PySem PyProof.Rows
variable [CN]
section
variable {X:Cx}
def rCatU (K:KFr):R2:=fun x y H Q=>∃a b xs ys,x=.ref a/\y=.ref b/\SqT K H a xs/\SqT K H b ys/\xs.length+ys.length<=sizeLine /\
 (xs=[]->Q (.ref b) H)/\(xs ≠ []->ys=[]->Q (.ref a) H)/\(xs ≠ []->ys ≠ []->∀p,H p=none->Q (.ref p) (upd H p (.tup (xs++ys))))
theorem zL3:OpR X (binaryOp .Add) (rCatU X.K):=by
 intro pins s σ H x y v u Q I rx ry h
 obtain⟨a,b,xs,ys,rfl,rfl,ha,hb,hz,q0,q1,q2⟩:=h
 by_cases hx:xs=[]
 ·cases rx
  cases ry
  obtain⟨its,r1,p1,_⟩:=I.tuple ha
  obtain⟨its2,r2,p2,_⟩:=I.tuple hb
  subst hx
  cases r1
  exact HT.yT4 p1 p2 ⟨.ref b,H,I,rfl,q0 rfl⟩
 ·exact yK7 pins s σ H _ _ v u Q I rx ry ⟨a,b,xs,ys,rfl,rfl,ha,hb,hx,hz,q1 hx,q2 hx⟩
end
def catT:D->D->Option D
 | .tuple xs,.tuple ys=>if xs.length+ys.length<=sizeLine then some (.tuple (xs++ys)) else none
 | _,_=>none
theorem zV1 {Oc:Wd}{Ob:Addr->Prop}{H:Hp}{v:V}{ds:List D}(h:VA Oc Ob H v (.tuple ds)):Rep H (Uni Oc Ob) v (.tuple ds):=by
 rcases h with h | ⟨a,ys,ds,rfl,e,e3,e5⟩
 ·exact h
 ·cases e
theorem zK8 {K:KFr}:Pr2 (rCatU K) .cl catT:=by
 intro Oc Ob H x y dx dy d Q oh vx vy e k
 cases dx with
 | tuple xs =>
  cases dy with
  | tuple ys =>
   obtain⟨a,vs,rfl,rd,rs⟩:=vx.tuple
   obtain⟨b,ws,rfl,rd',rs'⟩:=vy.tuple
   unfold catT at e
   simp only at e
   split at e
   ·rename_i hl
    cases e
    refine⟨a,b,vs,ws,rfl,rfl,.inl rd,.inl rd',by rw[rs.length,rs'.length];exact hl,fun z => ?_,fun z1 z2 => ?_,fun _ _ p hp=>k _ _ (Same.new hp) (vF oh hp (rs.append rs'))⟩
    ·subst z
     cases rs
     exact k _ H (Same.refl H) (zV1 vy)
    ·subst z2
     cases rs'
     rw[List.append_nil] at k
     exact k _ H (Same.refl H) (zV1 vx)
   ·cases e
  | _=>cases e
 | _=>cases e
theorem zL4 {xs ys:List Int}(h:xs.length+ys.length<=1000):catT (tI xs) (tI ys)=some (tI (xs++ys)):=by
 show (if (xs.map PyData.int).length+(ys.map PyData.int).length<=sizeLine then some (PyData.tuple (xs.map PyData.int++ys.map PyData.int)) else none)=_
 rw[if_pos (by rw[List.length_map,List.length_map];exact Nat.le_trans h (by decide)),<-List.map_append]
end L2.L3
namespace L2.L3
open PySem PySem.Spec PyProof.Rows
variable [CN]
section
variable {X:Cx}
end
end L2.L3
namespace HT
open PySem PyProof.Rows
section
open PySem.SeqAt
open PySem.AutoSeq1 (wpAny_loadPart')
open PySem.MeetsSeq PySem.MeetsSeq2 PySem.MeetsSeq3
end
section
variable {prog:Program}{w:World}{A:Around}{E:Value->Shared->Prop}{s:Shared}
end
end HT
namespace L2.L3
open PySem PySem.Spec PyProof.Rows
variable [CN]
section
variable {X:Cx}
end
end L2.L3
namespace L2.L3
open PySem PyProof.Rows
variable [CN]
section
variable {X:Cx}
end
end L2.L3
namespace L2.L3
universe u
theorem ls0 {α:Type u}{P:List α->Prop}(h:P []):∀us:List α,us.length=0->P us:=fun us e=>by
 rw[List.eq_nil_of_length_eq_zero e]
 exact h
theorem lsS {α:Type u}{P:List α->Prop}{n:Nat}(h:∀a us,us.length=n->P (a::us)):∀us:List α,us.length=n+1->P us:=fun us e=>by
 cases us with
 | nil=>cases e
 | cons a us=>exact h a us (Nat.succ.inj e)
theorem ls1 {α:Type u}{P:List α->Prop}(h:∀a,P [a]):∀us:List α,us.length=1->P us:=lsS fun a=>ls0 (h a)
theorem ls2 {α:Type u}{P:List α->Prop}(h:∀a b,P [a,b]):∀us:List α,us.length=2->P us:=lsS fun a=>ls1 (h a)
theorem ls3 {α:Type u}{P:List α->Prop}(h:∀a b c,P [a,b,c]):∀us:List α,us.length=3->P us:=lsS fun a=>ls2 (h a)
theorem ls4 {α:Type u}{P:List α->Prop}(h:∀a b c d,P [a,b,c,d]):∀us:List α,us.length=4->P us:=lsS fun a=>ls3 (h a)
theorem ls5 {α:Type u}{P:List α->Prop}(h:∀a b c d e,P [a,b,c,d,e]):∀us:List α,us.length=5->P us:=lsS fun a=>ls4 (h a)
theorem ls6 {α:Type u}{P:List α->Prop}(h:∀a b c d e f,P [a,b,c,d,e,f]):∀us:List α,us.length=6->P us:=lsS fun a=>ls5 (h a)
end L2.L3
namespace MR
theorem pigeon:∀(n:Nat) (f:Nat->Nat),(∀i,i<=n->f i<n)->∃i j,i<j/\j<=n/\f i=f j
 | 0,f,h=>absurd (h 0 (Nat.le_refl _)) (by bv_omega)
 | n+1,f,h=>by
  by_cases c:∃i,i<=n/\f i=f (n+1)
  ·obtain⟨i,hi,e⟩:=c
   exact⟨i,n+1,by bv_omega,Nat.le_refl _,e⟩
  ·have ne:∀i,i<=n->f i≠f (n+1):=fun i hi e=>c ⟨i,hi,e⟩
   obtain⟨i,j,h1,h2,e⟩:=pigeon n (fun i=>if f (n+1)<f i then f i-1 else f i) fun i hi=>by
    have a:=h i (by bv_omega)
    have b:=h (n+1) (Nat.le_refl _)
    have d:=ne i hi
    show (if f (n+1)<f i then f i-1 else f i)<n
    split <;> bv_omega
   refine⟨i,j,h1,by bv_omega,?_⟩
   have di:=ne i (by bv_omega)
   have dj:=ne j h2
   have e:(if f (n+1)<f i then f i-1 else f i)=(if f (n+1)<f j then f j-1 else f j):=e
   split at e <;> split at e <;> bv_omega
structure Ord (n:Nat) (xs:List Int):Prop where
 len:xs.length=n
 bd:∀i,i<n->0<=xs.getD i 0/\xs.getD i 0<n
 inj:∀i j,i<n->j<n->xs.getD i 0=xs.getD j 0->i=j
def nxt (xs:List Int) (b:Nat):Nat:=(xs.getD b 0).toNat
def it (xs:List Int):Nat->Nat->Nat
 | 0,b=>b
 | k+1,b=>nxt xs (it xs k b)
section
variable {n:Nat}{xs:List Int}
theorem Ord.xZ (o:Ord n xs){b:Nat}(h:b<n):nxt xs b<n:=by
 have:=o.bd b h
 unfold nxt;bv_omega
theorem Ord.yM (o:Ord n xs){b:Nat}(h:b<n):xs.getD b 0=(nxt xs b:Int):=by
 have:=o.bd b h
 unfold nxt;bv_omega
theorem Ord.vD (o:Ord n xs){b c:Nat}(h:b<n) (h':c<n) (e:nxt xs b=nxt xs c):b=c :=
 o.inj b c h h' (by rw[o.yM h,o.yM h',e])
theorem Ord.wN (o:Ord n xs){b:Nat}(h:b<n):∀k,it xs k b<n
 | 0=>h
 | k+1=>o.xZ (o.wN h k)
theorem wU (xs:List Int) (b:Nat) (j:Nat):∀k,it xs (k+j) b=it xs k (it xs j b)
 | 0=>by rw[Nat.zero_add];rfl
 | k+1=>by rw[Nat.add_right_comm];show nxt xs (it xs (k+j) b)=nxt xs (it xs k (it xs j b));rw[wU xs b j k]
theorem Ord.cA (o:Ord n xs){b c:Nat}(h:b<n) (h':c<n):∀k,it xs k b=it xs k c->b=c
 | 0,e=>e
 | k+1,e=>o.cA h h' k (o.vD (o.wN h k) (o.wN h' k) e)
theorem Ord.back (o:Ord n xs){b:Nat}(h:b<n):∃p,1<=p/\p<=n/\it xs p b=b:=by
 obtain⟨i,j,h1,h2,e⟩:=pigeon n (fun i=>it xs i b) fun i _=>o.wN h i
 refine⟨j-i,by bv_omega,by bv_omega,?_⟩
 have e2:it xs i (it xs (j-i) b)=it xs i b:=by
  rw[<-wU,show i+(j-i)=j by bv_omega]
  exact e.symm
 exact o.cA (o.wN h _) h i e2
def perGo (xs:List Int) (b:Nat):Nat->Nat->Nat
 | 0,k=>k
 | fuel+1,k=>if it xs k b=b then k else perGo xs b fuel (k+1)
theorem cS (xs:List Int) (b:Nat):∀(fuel k:Nat),(∃p,k<=p/\p<=k+fuel/\it xs p b=b) ->
  k<=perGo xs b fuel k/\perGo xs b fuel k<=k+fuel/\it xs (perGo xs b fuel k) b=b/\∀i,k<=i->i<perGo xs b fuel k->it xs i b≠b
 | 0,k,⟨p,h1,h2,e⟩=>by
  have:p=k:=by bv_omega
  subst this
  exact⟨Nat.le_refl _,Nat.le_refl _,e,fun i a c=>absurd (show i<p from c) (by bv_omega)⟩
 | fuel+1,k,⟨p,h1,h2,e⟩=>by
  by_cases c:it xs k b=b
  ·rw[perGo,if_pos c]
   exact⟨Nat.le_refl _,by bv_omega,c,fun i a d=>absurd d (by bv_omega)⟩
  ·rw[perGo,if_neg c]
   have hp:k+1<=p:=by
    rcases Nat.lt_or_ge k p with q | q
    ·exact q
    ·have:p=k:=by bv_omega
     subst this
     exact absurd e c
   obtain⟨a1,a2,a3,a4⟩:=cS xs b fuel (k+1) ⟨p,hp,by bv_omega,e⟩
   refine⟨by bv_omega,by bv_omega,a3,fun i hi hl => ?_⟩
   by_cases q:i=k
   ·rw[q];exact c
   ·exact a4 i (by bv_omega) hl
def per (n:Nat) (xs:List Int) (b:Nat):Nat:=perGo xs b (n-1) 1
theorem Ord.yR (o:Ord n xs){b:Nat}(h:b<n):1<=per n xs b/\per n xs b<=n/\it xs (per n xs b) b=b/\∀i,1<=i->i<per n xs b->it xs i b≠b:=by
 obtain⟨p,h1,h2,e⟩:=o.back h
 obtain⟨a1,a2,a3,a4⟩:=cS xs b (n-1) 1 ⟨p,h1,by bv_omega,e⟩
 exact⟨a1,by unfold per;bv_omega,a3,a4⟩
theorem Ord.zE1 (o:Ord n xs){b:Nat}(h:b<n){i j:Nat}(hij:i<j) (hj:j<per n xs b):it xs i b≠it xs j b:=fun e=>by
 obtain⟨_,_,_,a4⟩:=o.yR h
 refine a4 (j-i) (by bv_omega) (by bv_omega) ?_
 refine o.cA (o.wN h _) h i ?_
 rw[<-wU,show i+(j-i)=j by bv_omega]
 exact e.symm
theorem zA3 (xs:List Int) (b p:Nat) (e:it xs p b=b):∀k,it xs (k*p) b=b
 | 0=>by rw[Nat.zero_mul];rfl
 | k+1=>by rw[Nat.succ_mul,wU,e,zA3 xs b p e k]
theorem Ord.xV6 (o:Ord n xs){b:Nat}(h:b<n) (k:Nat):it xs k b=it xs (k%per n xs b) b:=by
 obtain⟨a1,_,a3,_⟩:=o.yR h
 have e:k=k%per n xs b+(k / per n xs b)*per n xs b:=by rw[Nat.mul_comm];exact (Nat.mod_add_div k (per n xs b)).symm
 conv=>lhs;rw[e,wU,zA3 xs b _ a3]
def In (n:Nat) (xs:List Int) (b c:Nat):Prop:=∃i,i<per n xs b/\it xs i b=c
theorem Ord.xO3 (o:Ord n xs){b:Nat}(h:b<n) (k:Nat):In n xs b (it xs k b):=by
 obtain⟨a1,_⟩:=o.yR h
 exact⟨k%per n xs b,Nat.mod_lt _ (by bv_omega),(o.xV6 h k).symm⟩
theorem Ord.yL2 (o:Ord n xs){b c:Nat}(h:b<n) (hc:In n xs b c):c<n:=by
 obtain⟨i,_,rfl⟩:=hc
 exact o.wN h i
def ring (n:Nat) (xs:List Int) (b:Nat):List Nat:=(List.range (per n xs b)).map fun i=>it xs i b
theorem yQ5 {b c:Nat}:c∈ring n xs b↔In n xs b c:=by
 unfold ring In
 simp only[List.mem_map,List.mem_range]
theorem Ord.zG8 (o:Ord n xs){b:Nat}(h:b<n):(ring n xs b).Nodup:=by
 unfold ring List.Nodup
 rw[List.pairwise_map]
 refine List.Pairwise.imp_of_mem ?_ (List.pairwise_lt_range (n:=per n xs b))
 intro i j hi hj hlt
 exact o.zE1 h hlt (List.mem_range.mp hj)
theorem Ord.yQ8 (o:Ord n xs){b c:Nat}(h:b<n) (hc:In n xs b c):per n xs c=per n xs b:=by
 have hcl:=o.yL2 h hc
 obtain⟨i,hi,rfl⟩:=hc
 obtain⟨a1,a2,a3,a4⟩:=o.yR h
 obtain⟨b1,b2,b3,b4⟩:=o.yR hcl
 have e1:it xs (per n xs b) (it xs i b)=it xs i b:=by rw[<-wU,Nat.add_comm,wU,a3]
 have e2:it xs (per n xs (it xs i b)) b=b:=by
  refine o.cA (o.wN h _) h i ?_
  rw[<-wU,Nat.add_comm,wU,b3]
 rcases Nat.lt_trichotomy (per n xs (it xs i b)) (per n xs b) with q | q | q
 ·exact absurd e2 (a4 _ b1 q)
 ·exact q
 ·exact absurd e1 (b4 _ a1 q)
def has (rs:List (List Nat)) (b:Nat):Bool:=rs.any fun r=>r.contains b
def rgs (n:Nat) (xs:List Int):Nat->List (List Nat)
 | 0=>[]
 | b+1=>if has (rgs n xs b) b then rgs n xs b else rgs n xs b ++ [ring n xs b]
structure Rgs (n:Nat) (xs:List Int) (m:Nat) (rs:List (List Nat)):Prop where
 each:∀r∈rs,∃b,b<m/\r=ring n xs b/\∀c,In n xs b c->b<=c
 cover:∀c,c<m->∃r∈rs,c∈r
 nodup:rs.flatten.Nodup
 rise:rs.Pairwise fun r r'=>∀x∈r.head?,∀y∈r'.head?,x<y
end
end MR
namespace L2.L3
open PySem PySem.Spec PyProof.Rows MR
variable [CN]
def pwD (m p:Int):Nat->Int
 | 0=>p
 | i+1=>pwD m p i / m
def digD (m p:Int) (n:Nat):List Int:=(List.range n).map fun i=>pwD m p i%m
def Pot (a:Addr) (H H':Hp):Prop:=∀b o,H b=some o->b≠a->H' b=some o
theorem Pot.upd {a:Addr}{H:Hp}{o:HO}:Pot a H (upd H a o):=fun b u e n=>by rw[zY n];exact e
theorem Pot.trans {a:Addr}{H H1 H2:Hp}(h:Pot a H H1) (g:Pot a H1 H2):Pot a H H2:=fun b o e n=>g b o (h b o e n) n
theorem Pot.refl (a:Addr) (H:Hp):Pot a H H:=fun _ _ e _=>e
theorem Pot.new {a b:Addr}{H H1:Hp}{o:HO}(h:Pot a H H1) (hb:H1 b=none):Pot a H (L2.upd H1 b o):=fun c u e n=>by
 rw[zY (fun z=>by rw[z] at e;rw[z] at n;rw[h b u e n] at hb;cases hb)]
 exact h c u e n
def spTake:Sp:=fun vs H Q _=>∃(a:Addr) (p m:Int),vs=[.ref a,.int m]/\H a=some (.lst [.int p])/\DivOk m/\Q (.int (p%m)) (upd H a (.lst [.int (p / m)]))
def tTake (K:KFr):TS:=tSeq (tAsg (tOp (rI (fun _ j=>0<j) fun i j=>.int (i%j)) (tOp (rIxL K) (tVar 0) (tC (.int 0))) (tVar 1)) (gName 2)) (tSeq (tAsg (tOp (rI (fun _ j=>DivOk j) fun i j=>.int (i / j)) (tOp (rIxL K) (tVar 0) (tC (.int 0))) (tVar 1)) (gSub (tVar 0) (tC (.int 0)) rSetL)) (tRet (tVar 2)))
theorem yX4 {K:KFr}{a:Addr}{p m:Int}{H:Hp}{E:Ends}(h:H a=some (.lst [.int p])) (hm:DivOk m) (k:E.rt (.int (p%m)) (upd H a (.lst [.int (p / m)]))):tTake K E [some (.ref a),some (.int m),none] H:=by
 refine⟨_,rfl,a,_,0,_,rfl,rfl,SqL.of h,rfl,_,rfl,_,_,rfl,rfl,hm.1,?_⟩
 refine⟨_,rfl,a,_,0,_,rfl,rfl,SqL.of h,rfl,_,rfl,_,_,rfl,rfl,hm,?_⟩
 exact⟨_,rfl,a,_,0,0,rfl,rfl,h,rfl,_,rfl,k⟩
section
variable {P:Program}{w:World}{K:KFr}{mg:Str->Option Value}{base:Heap}
theorem yC2 {x:Str}{st:Stmt}{f:Addr}{fd:FuncData}{N ps:List Str}{k:Nat}(F:Fun K x x st f fd) (S:zJ N ps (zT st)) (hp:ps.length=2) (hN:N.length=3)
  (hbody:∀(cdv:Value) (A:Around) (outer:List Env) (s:Shared) (H:Hp) (E:XK),Room k (A.deeper (envOfC x (zT st) s.heap.objs.size f cdv))->PSs (cxOf CX0 P w K mg base N x (zT st) f cdv A outer s H E).nox (defBody st) (tTake K)) :
  FnOk P w K mg base CX0 (k+1) f fd ps spTake:=by
 refine F.ok S (fun vs H Q E ⟨a,p,m,e,_⟩=>by rw[e,hp];rfl) fun cdv A outer s H vs Q E hr h => ?_
 obtain⟨a,p,m,rfl,ha,hm,q⟩:=h
 refine⟨_,hbody cdv A outer s H E hr,?_⟩
 have st:start N [V.ref a,V.int m]=[some (.ref a),some (.int m),none]:=by
  unfold start
  rw[hN]
  rfl
 rw[st]
 exact yX4 ha hm q
end
def rTup (K:KFr):List V->Hp->VK->Prop:=fun xs H Q=>∃p ys,xs=[.ref p]/\((SqL K H p ys/\∀l,H l=none->Q (.ref l) (upd H l (.tup ys)))\/(SqT K H p ys/\Q (.ref p) H))
def rAdd:R2:=rI0 fun i j=>.int (i+j)
def DigTo (a:Addr) (m p:Int) (n:Nat) (H:Hp) (Q:VK):Prop:=∀b H',H b=none->H' b=some (.tup ((digD m p n).map V.int))->H' a=some (.lst [.int (pwD m p n)])->Pot a H H'->Q (.ref b) H'
theorem yO7 (m p:Int) (n:Nat):digD m p (n+1)=digD m p n ++ [pwD m p n%m]:=by
 unfold digD
 rw[List.range_succ,List.map_append]
 rfl
theorem zS5 {K:KFr}{σ:St}{js:List Nat}{a:Addr}{m p:Int}{n:Nat}{H:Hp}{Q:VK}{te:Addr->List Addr->Shared->Hp->TE}{wi:TI}(ha:H a=some (.lst [.int p])) (hn:n<=1000)
  (hw:∀(H:Hp) (R:It->Hp->Prop),R (Itr 0 n) H->wi σ H R)
  (he:∀C fp s₂ H₂ (i:Nat) (q:Int) (H:Hp) (Q:VK),H a=some (.lst [.int q])->Q (.int (q%m)) (upd H a (.lst [.int (q / m)]))->te C fp s₂ H₂ (compSt σ js (some (.int (0+(i:Int))))) H Q)
  (k:DigTo a m p n H Q):tCB (rTup K) (zR (tComp wi (fun _ _ _ _=>tTrue) te js) tNil) σ H Q:=by
 refine hw H _ fun C fp s₂ H₂ => ?_
 refine cY (lo:=0) (n:=n) (tt:=tTrue) (te:=te C fp s₂ H₂) (js:=js) (σ:=σ) (Q:=fun x H1=>rTup K [x] H1 Q) (fun i acc H1=>acc=(digD m p i).map V.int/\H1 a=some (.lst [.int (pwD m p i)])/\Pot a H H1) ⟨rfl,ha,Pot.refl a H⟩ ?_ ?_
 ·rintro i acc H1 hi ⟨rfl,h1,po⟩
  unfold tTrue
  simp only[if_true]
  refine he C fp s₂ H₂ i _ H1 _ h1 ⟨by rw[List.length_map,digD,List.length_map,List.length_range];exact small1000 (by bv_omega),?_,zV,po.trans Pot.upd⟩
  rw[yO7,List.map_append]
  rfl
 ·rintro acc H1 ⟨rfl,h1,po⟩ l hl
  have al:a≠l:=fun z=>by rw[<-z,h1] at hl;cases hl
  refine⟨l,_,rfl,.inl ⟨SqL.of zV,fun b hb => ?_⟩⟩
  have bl:b≠l:=fun z=>by rw[z,zV] at hb;cases hb
  have ba:b≠a:=fun z=>by rw[z,zY al,h1] at hb;cases hb
  have hb1:H1 b=none:=by rw[zY bl] at hb;exact hb
  have hb0:H b=none:=by
   cases e:H b with
   | none=>rfl
   | some o=>rw[po b o e ba] at hb1;cases hb1
  refine k b _ hb0 zV ?_ ((po.new hl).new hb)
  rw[zY (fun z=>ba z.symm),zY al]
  exact h1
def tOpn (K:KFr):TS:=tRet (tCB (rTup K) (zR (tComp (iRng1 (zR (tVar 1) tNil)) (fun _ _ _ _=>tTrue) (fun _ _ _ _=>tCall spTake [] E0 (zR (tVar 1) (zR (tOp rAdd (tVar 2) (tC (.int 1))) tNil))) [0,1]) tNil))
def spOpn:Sp:=fun vs H Q _=>∃(a:Addr) (p:Int) (n:Nat),vs=[.ref a,.int (n:Int)]/\H a=some (.lst [.int p])/\n<=1000/\DigTo a ((n:Int)+1) p n H Q
theorem yT3 {K:KFr}{a:Addr}{p:Int}{n:Nat}{H:Hp}{E:Ends}(h:H a=some (.lst [.int p])) (hn:n<=1000) (k:DigTo a ((n:Int)+1) p n H E.rt):tOpn K E [some (.ref a),some (.int (n:Int))] H:=by
 refine zS5 (K:=K) (m:=(n:Int)+1) h hn (fun H' R r=>⟨_,rfl,(n:Int),rfl,by bv_omega,by bv_omega,by rw[Int.toNat_natCast];exact r⟩) (fun C fp s₂ H₂ i q H' Q' h' k' => ?_) k
 exact⟨_,rfl,_,rfl,_,_,rfl,rfl,a,q,_,rfl,h',DivOk.small (by bv_omega) (by bv_omega),k'⟩
section
variable {P:Program}{w:World}{K:KFr}{mg:Str->Option Value}{base:Heap}
theorem xY8 {x:Str}{st:Stmt}{f:Addr}{fd:FuncData}{N ps:List Str}{k:Nat}(F:Fun K x x st f fd) (S:zJ N ps (zT st)) (hp:ps.length=2) (hN:N.length=2)
  (hbody:∀(cdv:Value) (A:Around) (outer:List Env) (s:Shared) (H:Hp) (E:XK),Room k (A.deeper (envOfC x (zT st) s.heap.objs.size f cdv))->PSs (cxOf CX0 P w K mg base N x (zT st) f cdv A outer s H E).nox (defBody st) (tOpn K)) :
  FnOk P w K mg base CX0 (k+1) f fd ps spOpn:=by
 refine F.ok S (fun vs H Q E ⟨a,p,n,e,_⟩=>by rw[e,hp];rfl) fun cdv A outer s H vs Q E hr h => ?_
 obtain⟨a,p,n,rfl,ha,hn,q⟩:=h
 refine⟨_,hbody cdv A outer s H E hr,?_⟩
 have st:start N [V.ref a,V.int (n:Int)]=[some (.ref a),some (.int (n:Int))]:=by
  unfold start
  rw[hN]
  rfl
 rw[st]
 exact yT3 ha hn q
end
def rLnS (K:KFr):List V->Hp->VK->Prop:=fun xs H Q=>∃p ys,xs=[.ref p]/\(SqL K H p ys\/SqT K H p ys)/\Q (.int ys.length) H
def rRng:List V->Hp->VK->Prop:=fun xs H Q=>∃j:Int,xs=[.int j]/\∀p,H p=none->Q (.ref p) (upd H p (.rng 0 j))
section
variable {P:Program}{w:World}{K:KFr}{mg:Str->Option Value}{base:Heap}
end
def grD (A B C p:Int):D :=
 if pwD (1+p%A+1) (p / A) (1+p%A).toNat%8=5 then .tuple [.int B,tI (digD C (pwD (1+p%A+1) (p / A) (1+p%A).toNat / 8) B.toNat)]
 else .tuple [.int (1+p%A),tI (digD (1+p%A+1) (p / A) (1+p%A).toNat)]
def grF (A B C:Int) (Fc:List D->Res D):List D->Res D
 | [d]=>match Fc [d,.int 0] with
  | .ok (.int p)=>.ok (grD A B C p)
  | _=>.no
 | _=>.no
theorem yA3 {A B C:Int}{Fc:List D->Res D}{d:D}{p:Int}(h:Fc [d,.int 0]=.ok (.int p)):grF A B C Fc [d]=.ok (grD A B C p):=by
 unfold grF
 simp only[h]
def tGrT (K:KFr) (B C:Int):TS :=
 tSeq (tAsg (tCall spOpn [] E0 (zR (tVar 1) (zR (tVar 2) tNil))) (gName 3))
 (tSeq (tIfS (tTest (tOp (rEqD K false) (tCall spTake [] E0 (zR (tVar 1) (zR (tC (.int 8)) tNil))) (tC (.int 5))))
  (tSeq (tAsg (tC (.int B)) (gName 2)) (tAsg (tCB (rTup K) (zR (tComp (iRng1 (zR (tVar 2) tNil)) (fun _ _ _ _=>tTrue) (fun _ _ _ _=>tCall spTake [] E0 (zR (tVar 1) (zR (tC (.int C)) tNil))) [1]) tNil)) (gName 3))) tNext)
 (tRet (tTup (zR (tVar 2) (zR (tVar 3) tNil)))))
def tGr (K:KFr) (A B C:Int) (Fc:List D->Res D):TS :=
 tSeq (tAsg (tLst (zR (tCall (spF false Fc) [] E0 (zR (tVar 0) (zR (tC (.int 0)) tNil))) tNil)) (gName 1))
 (tSeq (tAsg (tOp rAdd (tC (.int 1)) (tCall spTake [] E0 (zR (tVar 1) (zR (tC (.int A)) tNil)))) (gName 2)) (tGrT K B C))
theorem zE6 {O:Addr->Prop}{H0 H:Hp}{x0:V}{a b:Addr}{n:Int}{xs:List Int}{E:Ends}(oh:∀a,O a->H0 a≠none) (fa:H0 a=none) (fb:H0 b=none) (hb:H b=some (.tup (xs.map V.int))) (po:Pot a H0 H)
  (k:∀v H',Same H0 H'->CallOk false O H0 H' v (.tuple [.int n,tI xs])->E.rt v H'):tRet (tTup (zR (tVar 2) (zR (tVar 3) tNil))) E [some x0,some (.ref a),some (.int n),some (.ref b)] H:=by
 have sm:Same H0 H:=fun c o e=>po c o e fun z=>by rw[z,fa] at e;cases e
 refine⟨_,rfl,_,rfl,by show 2<=sizeLine;decide,fun t ht => ?_⟩
 have tb:b≠t:=fun z=>by rw[<-z,hb] at ht;cases ht
 have t0:H0 t=none:=by
  cases e:H0 t with
  | none=>rfl
  | some o=>rw[sm t o e] at ht;cases ht
 refine k _ _ (sm.trans (Same.new ht)) (.tup (.inl zV) (fun z=>oh t z t0) (.cons (.int n) (.cons (.tup (.inl ?_) (fun z=>oh b z fb) (uQ xs)) .nil)))
 rw[zY tb]
 exact hb
theorem yL6 {K:KFr}{A B C:Int}{Fc:List D->Res D}{O:Addr->Prop}{H0:Hp}{x0:V}{d0:D}{p:Int}{E:Ends}(hA:0<A) (hA2:A<=60) (hB:0<=B) (hB2:B<=60) (hC:0<C) (hC2:C<=60) (oh:∀a,O a->H0 a≠none) (r0:Rep H0 O x0 d0) (hc:Fc [d0,.int 0]=.ok (.int p))
  (k:∀v H',Same H0 H'->CallOk false O H0 H' v (grD A B C p)->E.rt v H'):tGr K A B C Fc E [some x0,none,none,none] H0:=by
 have e0:=Int.emod_nonneg p (Int.ne_of_gt hA)
 have e1:=Int.emod_lt_of_pos p hA
 obtain⟨n,hn⟩:∃n:Nat,1+p%A=(n:Int):=⟨(1+p%A).toNat,by bv_omega⟩
 have n2:n<=1000:=by bv_omega
 refine⟨_,rfl,[d0,.int 0],O,oh,.cons r0 (.cons (.int 0) .nil),?_⟩
 rw[hc]
 intro v H1 s1 cv
 cases cv
 refine⟨by show 1<=sizeLine;decide,fun a ha => ?_⟩
 have fa:H0 a=none:=s1.free ha
 have po1:Pot a H0 (upd H1 a (.lst [.int p])):=fun b o e n=>by rw[zY n];exact s1 b o e
 suffices h:tGrT K B C E [some x0,some (.ref a),some (.int (n:Int)),none] (upd H1 a (.lst [.int (p / A)])) by
  rw[<-hn] at h
  refine⟨_,rfl,a,p,A,rfl,zV,DivOk.small hA (by bv_omega),_,_,rfl,rfl,?_⟩
  rw[zI6]
  exact h
 have po2:Pot a H0 (upd H1 a (.lst [.int (p / A)])):=fun b o e n=>by rw[zY n];exact s1 b o e
 refine⟨_,rfl,_,rfl,a,p / A,n,rfl,zV,n2,fun b H2 fb hb hp po => ?_⟩
 have fb0:H0 b=none:=by
  cases e:H0 b with
  | none=>rfl
  | some o =>
   have ba:b≠a:=fun z=>by rw[z,fa] at e;cases e
   rw[po2 b o e ba] at fb;cases fb
 have po3:=po2.trans po
 have ba:b≠a:=fun z=>by rw[z,hp] at hb;cases hb
 have ev:∀x:Int,V.bl (if false=true then !PyData.eqv (.int x) (.int 5) else PyData.eqv (.int x) (.int 5))=.bl (decide (x=5)):=fun x=>by rw[if_neg (by decide),fW]
 refine⟨_,rfl,a,_,8,rfl,hp,DivOk.small (by decide) (by decide),.int _,.int 5,.int _,.int _,rfl,rfl,_,ev _,?_⟩
 have po4:=po3.trans (Pot.upd (o:=.lst [.int (pwD ((n:Int)+1) (p / A) n / 8)]))
 have hb4:(upd H2 a (.lst [.int (pwD ((n:Int)+1) (p / A) n / 8)])) b=some (.tup ((digD ((n:Int)+1) (p / A) n).map V.int)):=by rw[zY ba];exact hb
 by_cases q:pwD ((n:Int)+1) (p / A) n%8=5
 ·have gd:grD A B C p=.tuple [.int B,tI (digD C (pwD ((n:Int)+1) (p / A) n / 8) B.toNat)]:=by
   unfold grD
   rw[hn,Int.toNat_natCast,if_pos q]
  rw[gd] at k
  rw[decide_eq_true q]
  simp only[if_true]
  obtain⟨m,hm⟩:∃m:Nat,B=(m:Int):=⟨B.toNat,by bv_omega⟩
  subst hm
  rw[Int.toNat_natCast] at k
  show tCB (rTup K) (zR (tComp (iRng1 (zR (tVar 2) tNil)) (fun _ _ _ _=>tTrue) (fun _ _ _ _=>tCall spTake [] E0 (zR (tVar 1) (zR (tC (.int C)) tNil))) [1]) tNil) [some x0,some (.ref a),some (.int (m:Int)),some (.ref b)] (upd H2 a (.lst [.int (pwD ((n:Int)+1) (p / A) n / 8)])) fun v H'=>tRet (tTup (zR (tVar 2) (zR (tVar 3) tNil))) E [some x0,some (.ref a),some (.int (m:Int)),some v] H'
  refine zS5 (K:=K) (σ:=[some x0,some (.ref a),some (.int (m:Int)),some (.ref b)]) (js:=[1]) (m:=C) (n:=m) zV (by bv_omega) (fun H' R r=>⟨_,rfl,(m:Int),rfl,by bv_omega,by bv_omega,by rw[Int.toNat_natCast];exact r⟩) (fun C' fp s₂ H₂ i q H' Q' h' k'=>⟨_,rfl,a,q,C,rfl,h',DivOk.small hC (by bv_omega),k'⟩) fun b' H3 fb' hb' hp' po' => ?_
  have fb0':H0 b'=none:=by
   cases e:H0 b' with
   | none=>rfl
   | some o =>
    have ba':b'≠a:=fun z=>by rw[z,fa] at e;cases e
    rw[po4 b' o e ba'] at fb';cases fb'
  exact zE6 oh fa fb0' hb' (po4.trans po') k
 ·have gd:grD A B C p=.tuple [.int (n:Int),tI (digD ((n:Int)+1) (p / A) n)]:=by
   unfold grD
   rw[hn,Int.toNat_natCast,if_neg q]
  rw[gd] at k
  rw[decide_eq_false q]
  simp only[Bool.false_eq_true,if_false]
  exact zE6 oh fa fb0 hb4 po4 k
theorem yX9 {A B C:Int}{Fc:List D->Res D}{ds:List D}{Q:D->Prop}{R:Str->Prop}(h:(grF A B C Fc ds).post Q R):∃d p,ds=[d]/\Fc [d,.int 0]=.ok (.int p)/\Q (grD A B C p):=by
 unfold grF at h
 split at h
 ·split at h
  ·rename_i d _ p e
   exact⟨d,p,rfl,e,h⟩
  ·exact h.elim
 ·exact h.elim
section
variable {P:Program}{w:World}{K:KFr}{mg:Str->Option Value}{base:Heap}
theorem xS6 (A B C:Int) (Fc:List D->Res D) (hA:0<A/\A<=60) (hB:0<=B/\B<=60) (hC:0<C/\C<=60){x:Str}{st:Stmt}{f:Addr}{fd:FuncData}{N ps:List Str}{k:Nat}(F:Fun K x x st f fd) (S:zJ N ps (zT st)) (hp:ps.length=1) (hN:N.length=4)
  (hbody:∀(cdv:Value) (A':Around) (outer:List Env) (s:Shared) (H:Hp) (E:XK),Room k (A'.deeper (envOfC x (zT st) s.heap.objs.size f cdv))->PSs (cxOf CX0 P w K mg base N x (zT st) f cdv A' outer s H E).nox (defBody st) (tGr K A B C Fc)) :
  FnOk P w K mg base CX0 (k+1) f fd ps (spF false (grF A B C Fc)):=by
 refine F.ok S (fun vs H Q E ⟨ds,O,oh,r,q⟩ => ?_) fun cdv A' outer s H vs Q E hr h => ?_
 ·obtain⟨d,p,rfl,_⟩:=yX9 q
  rw[r.length,hp]
  rfl
 ·obtain⟨ds,O,oh,r,q⟩:=h
  obtain⟨d,p,rfl,hc,q⟩:=yX9 q
  refine⟨_,hbody cdv A' outer s H E hr,?_⟩
  cases r with
  | @cons v _ _ _ r1 r2 =>
   cases r2
   have st:start N [v]=[some v,none,none,none]:=by
    unfold start
    rw[hN]
    rfl
   rw[st]
   exact yL6 hA.1 hA.2 hB.1 hB.2 hC.1 hC.2 oh r1 hc q
end
theorem zK2 (x:Int) (ns:List Int):inV (.int x) (ns.map V.int)=ns.contains x:=by
 unfold inV
 rw[List.any_map,List.contains_eq_any_beq]
 refine congrArg (fun f=>ns.any f) (funext fun y => ?_)
 show eqV (.int y) (.int x)=(x == y)
 unfold eqV
 rw[Bool.eq_iff_iff]
 simp
 exact eq_comm
theorem zY1 (ns:List Int):(ns.map V.int).all flatV=true:=by
 rw[List.all_map]
 exact List.all_eq_true.mpr fun _ _=>rfl
def clN (n:Nat) (bs:List Int):List Int:=((List.range n).filter fun (i:Nat)=>!bs.contains (i:Int)).map fun (i:Nat)=>(i:Int)
theorem zR2 (i:Nat) (bs:List Int):clN (i+1) bs=clN i bs++(if bs.contains (i:Int) then [] else [(i:Int)]):=by
 unfold clN
 rw[List.range_succ,List.filter_append,List.map_append]
 congr 1
 cases h:bs.contains (i:Int) <;> simp only[List.filter_cons,List.filter_nil,h,Bool.not_true,Bool.not_false,if_true,if_false,Bool.false_eq_true,List.map_cons,List.map_nil]
theorem zI3 (n:Nat) (bs:List Int):(clN n bs).length<=n:=by
 unfold clN
 rw[List.length_map]
 exact Nat.le_trans (List.length_filter_le _ _) (by rw[List.length_range];exact Nat.le_refl n)
theorem zA2:∀(xs l:List Int),xs.Nodup->(∀x∈xs,x∈l)->xs.length<=l.length
 | [],_,_,_=>Nat.zero_le _
 | x::xs,l,nd,h=>by
  have hx:=h x (List.mem_cons_self ..)
  have:=zA2 xs (l.erase x) (List.nodup_cons.mp nd).2 fun y hy=>(List.mem_erase_of_ne (fun z:y=x=>(List.nodup_cons.mp nd).1 (by rw[<-z];exact hy))).mpr (h y (List.mem_cons_of_mem _ hy))
  rw[List.length_erase_of_mem hx] at this
  have:=List.length_pos_of_mem hx
  rw[List.length_cons]
  bv_omega
theorem zN7 (n:Nat) (bs:List Int) (h:bs.length<n):0<(clN n bs).length:=by
 rcases Nat.eq_zero_or_pos (clN n bs).length with z | z
 ·exfalso
  have all:∀i,i<n->(i:Int)∈bs:=fun i hi=>by
   have e:=List.length_eq_zero_iff.mp z
   unfold clN at e
   rw[List.map_eq_nil_iff,List.filter_eq_nil_iff] at e
   have:=e i (List.mem_range.mpr hi)
   simpa using this
  have nd:((List.range n).map fun (i:Nat)=>(i:Int)).Nodup:=List.Pairwise.map (fun (i:Nat)=>(i:Int)) (fun a b h e=>h (Int.ofNat.inj e)) List.nodup_range
  have:=zA2 _ bs nd (fun x hx=>by
   obtain⟨i,hi,rfl⟩:=List.mem_map.mp hx
   exact all i (List.mem_range.mp hi))
  rw[List.length_map,List.length_range] at this
  bv_omega
 ·exact z
def runG (g:Nat->Int->D×Int):Nat->Int->List D×Int
 | 0,p=>([],p)
 | k+1,p=>((runG g k p).1 ++ [(g k (runG g k p).2).1],(g k (runG g k p).2).2)
def trG (n:Nat) (thin:Bool):Nat->List Int->List Int->Int->D×Int
 | 0,_,_,p=>(.none,p)
 | l+1,bs,ns,p =>
  if thin=true/\p%4=3 then (.none,p / 4)
  else (fun (p1:Int)=>(fun (b:Int)=>(fun r:List D×Int=>(PyData.tuple [.int b,.tuple r.1],r.2))
   (runG (fun i q=>if ns.contains (i:Int) then (.none,q) else trG n thin l (bs ++ [b]) (ns ++ [(i:Int)]) q) n (p1 / ((clN n bs).length:Int))))
   ((clN n bs).getD (p1%((clN n bs).length:Int)).toNat 0)) (if thin=true then p / 4 else p)
def nxG (n:Nat) (thin:Bool) (l:Nat) (bs ns:List Int) (b:Int):Nat->Int->D×Int:=fun i q=>if ns.contains (i:Int) then (.none,q) else trG n thin l (bs ++ [b]) (ns ++ [(i:Int)]) q
theorem zM3 {n l:Nat}{thin:Bool}{bs ns:List Int}{p:Int}(h:thin=true/\p%4=3):trG n thin (l+1) bs ns p=(.none,p / 4):=by rw[trG,if_pos h]
theorem zT6 {n l:Nat}{thin:Bool}{bs ns:List Int}{p p1 b:Int}(h:¬(thin=true/\p%4=3)) (e1:(if thin=true then p / 4 else p)=p1) (e2:(clN n bs).getD (p1%((clN n bs).length:Int)).toNat 0=b) :
  trG n thin (l+1) bs ns p=(.tuple [.int b,.tuple (runG (nxG n thin l bs ns b) n (p1 / ((clN n bs).length:Int))).1],(runG (nxG n thin l bs ns b) n (p1 / ((clN n bs).length:Int))).2):=by
 subst e1 e2
 rw[trG,if_neg h]
 rfl
def spTree (k:Nat):Sp:=fun vs H Q _=>∃(O:Addr->Prop) (a ab an:Addr) (p:Int) (n l:Nat) (bs ns:List Int) (thin:Bool),(∀x,O x->H x≠none)/\O a/\H a=some (.lst [.int p])/\vs=[.ref a,.int (n:Int),.int (l:Int),.ref ab,.ref an,.bl thin] /\
 Rd H ab (.lst (bs.map V.int))/\ab≠a/\Rd H an (.lst (ns.map V.int))/\an≠a/\l<k/\n<=100/\bs.length+l<=n/\ns.length+l<=200 /\
 ∀v H',Pot a H H'->H' a=some (.lst [.int (trG n thin l bs ns p).2])->Rep H' O v (trG n thin l bs ns p).1->Q v H'
def rSub:R2:=rI0 fun i j=>.int (i-j)
def tAppV (K:KFr) (i:Nat) (t:TE):TS:=tDrop (tBM K "list" rAppend (tVar i) (zR t tNil))
def tTrF (K:KFr) (sp:Sp):TS:=tFor (iRng1 (zR (tVar 1) tNil)) (gName 9) (tIfS (tTest (tOp (rIn K false) (tVar 9) (tVar 4))) (tAppV K 8 (tC .non))
 (tAppV K 8 (tCall sp [] E0 (zR (tVar 0) (zR (tVar 1) (zR (tOp rSub (tVar 2) (tC (.int 1))) (zR (tOp rCatR (tVar 3) (tLst (zR (tVar 7) tNil))) (zR (tOp rCatR (tVar 4) (tLst (zR (tVar 9) tNil))) (zR (tVar 5) tNil)))))))))
def tTrE (K:KFr):TS:=tRet (tTup (zR (tVar 7) (zR (tCB (rTup K) (zR (tVar 8) tNil)) tNil)))
def tTrS (K:KFr) (sp:Sp):TS :=
 tSeq (tAsg (tOp (rIxL K) (tVar 6) (tCall spTake [] E0 (zR (tVar 0) (zR (tCB (rLnS K) (zR (tVar 6) tNil)) tNil)))) (gName 7))
 (tSeq (tAsg (tLst tNil) (gName 8)) (tSeq (tTrF K sp) (tTrE K)))
def tTrR (K:KFr) (sp:Sp):TS :=
 tSeq (tAsg (tComp (iRng1 (zR (tVar 1) tNil)) (fun _ _ _ _=>tTest (tOp (rIn K true) (tVar 0) (tVar 1))) (fun _ _ _ _=>tVar 0) [3]) (gName 6)) (tTrS K sp)
def tTr (K:KFr) (sp:Sp):TS :=
 tSeq (tIfS (tOr (tTest (tOp (rEqD K false) (tVar 2) (tC (.int 0)))) (tAnd (tB (tVar 5)) (tTest (tOp (rEqD K false) (tCall spTake [] E0 (zR (tVar 0) (zR (tC (.int 4)) tNil))) (tC (.int 3)))))) (tRet (tC .non)) tNext) (tTrR K sp)
theorem evI (x y:Int):V.bl (if false=true then !PyData.eqv (.int x) (.int y) else PyData.eqv (.int x) (.int y))=.bl (decide (x=y)):=by rw[if_neg (by decide),fW]
theorem zR7 {a b:Addr}{u:HO}{H H':Hp}(r:Rd H b u) (po:Pot a H H') (n:b≠a):Rd H' b u:=zA r fun o e=>po b o e n
theorem Pot.none {a b:Addr}{H H':Hp}(po:Pot a H H') (n:b≠a) (h:H' b=none):H b=none:=by
 cases e:H b with
 | none=>rfl
 | some o=>rw[po b o e n] at h;cases h
theorem yU7 {K:KFr}{O:Addr->Prop}{H0 H:Hp}{a la:Addr}{v1 v2 v3 v4 v5 v6 v9:Option V}{b q:Int}{vs:List V}{ds:List D}{E:Ends}(oh:∀x,O x->H0 x≠none) (po:Pot a H0 H) (ha:H a=some (.lst [.int q])) (fl:H0 la=none) (al:la≠a) (hl:H la=some (.lst vs)) (rs:Reps H (fun x=>O x\/x=la) vs ds)
  (k:∀v H',Pot a H0 H'->H' a=some (.lst [.int q])->Rep H' O v (.tuple [.int b,.tuple ds])->E.rt v H'):tTrE K E [some (.ref a),v1,v2,v3,v4,v5,v6,some (.int b),some (.ref la),v9] H:=by
 refine⟨_,rfl,_,rfl,la,_,rfl,.inl ⟨SqL.of hl,fun t ht=>⟨by show 2<=sizeLine;decide,fun r hr => ?_⟩⟩⟩
 have ta:t≠a:=fun z=>by rw[z,ha] at ht;cases ht
 have tr:t≠r:=fun z=>by rw[<-z,zV] at hr;cases hr
 have hr1:H r=none:=by rw[zY (fun z=>tr z.symm)] at hr;exact hr
 have ra:r≠a:=fun z=>by rw[z,ha] at hr1;cases hr1
 have po1:=(po.new (o:=.tup vs) ht).new (o:=.tup [.int b,.ref t]) hr
 refine k _ _ po1 ?_ (.tup (.inl zV) (fun z=>oh r z (po.none ra hr1)) (.cons (.int b) (.cons (.tup (xs:=vs) (.inl ?_) (fun z=>oh t z (po.none ta ht)) ?_) .nil)))
 ·rw[zY (fun z=>ra z.symm),zY (fun z=>ta z.symm)]
  exact ha
 ·rw[zY tr]
  exact zV
 ·refine rs.keep (fun x o e _ => ?_) fun x _ z=>.inl z
  have xt:x≠t:=fun z=>by rw[z,ht] at e;cases e
  have xr:x≠r:=fun z=>by rw[z,hr1] at e;cases e
  rw[zY xr,zY xt]
  exact e
theorem yN8 {K:KFr}{k n l:Nat}{thin:Bool}{bs ns:List Int}{b p2:Int}{O:Addr->Prop}{H0:Hp}{a ab an ac la:Addr}{E:Ends}(oh:∀x,O x->H0 x≠none) (oa:O a) (rb:Rd H0 ab (.lst (bs.map V.int))) (nb:ab≠a) (rn:Rd H0 an (.lst (ns.map V.int))) (nn:an≠a) (fl:H0 la=none) (al:la≠a) (hk:l<k) (hn:n<=100) (hb:(bs ++ [b]).length+l<=n) (hs:ns.length+(l+1)<=200)
  (kk:∀v9 vs H,Pot a H0 H->H a=some (.lst [.int (runG (nxG n thin l bs ns b) n p2).2])->H la=some (.lst vs)->Reps H (fun x=>O x\/x=la) vs (runG (nxG n thin l bs ns b) n p2).1 ->
   E.nx [some (.ref a),some (.int (n:Int)),some (.int ((l+1:Nat):Int)),some (.ref ab),some (.ref an),some (.bl thin),some (.ref ac),some (.int b),some (.ref la),v9] H)
  {H:Hp}(po:Pot a H0 H) (ha:H a=some (.lst [.int p2])) (hl:H la=some (.lst [])) :
  tTrF K (spTree k) E [some (.ref a),some (.int (n:Int)),some (.int ((l+1:Nat):Int)),some (.ref ab),some (.ref an),some (.bl thin),some (.ref ac),some (.int b),some (.ref la),none] H:=by
 refine⟨_,rfl,(n:Int),rfl,by bv_omega,by bv_omega,?_⟩
 rw[Int.toNat_natCast]
 have keepL:∀{H':Hp}{o:HO},Pot a H0 H'->Pot a H0 (upd H' la o):=fun {H' o} h c u e n=>by
  rw[zY (fun z=>by rw[z,fl] at e;cases e)]
  exact h c u e n
 refine zZ4 (fun i σ H=>∃v9 vs,σ=[some (.ref a),some (.int (n:Int)),some (.int ((l+1:Nat):Int)),some (.ref ab),some (.ref an),some (.bl thin),some (.ref ac),some (.int b),some (.ref la),v9]/\Pot a H0 H/\H a=some (.lst [.int (runG (nxG n thin l bs ns b) i p2).2])/\H la=some (.lst vs)/\vs.length=i/\Reps H (fun x=>O x\/x=la) vs (runG (nxG n thin l bs ns b) i p2).1) ⟨none,[],rfl,po,ha,hl,rfl,.nil⟩ ?_ ?_
 ·clear po ha hl H
  rintro i σ H hi ⟨v9,vs,rfl,po,ha,hl,lv,rs⟩
  rw[Int.zero_add]
  have rn':=zR7 rn po nn
  have rb':=zR7 rb po nb
  have fin:∀{H':Hp}{v:V}{d:D}{q:Int},Pot a H0 H'->H' a=some (.lst [.int q])->H' la=some (.lst vs)->Reps H' (fun x=>O x\/x=la) vs (runG (nxG n thin l bs ns b) i p2).1->Rep H' (fun x=>O x\/x=la) v d->nxG n thin l bs ns b i (runG (nxG n thin l bs ns b) i p2).2=(d,q) ->
    ∃v9 vs',[some (V.ref a),some (.int (n:Int)),some (.int ((l+1:Nat):Int)),some (.ref ab),some (.ref an),some (.bl thin),some (.ref ac),some (.int b),some (.ref la),some (.int (i:Int))]=[some (.ref a),some (.int (n:Int)),some (.int ((l+1:Nat):Int)),some (.ref ab),some (.ref an),some (.bl thin),some (.ref ac),some (.int b),some (.ref la),v9]/\Pot a H0 (upd H' la (.lst (vs ++ [v])))/\(upd H' la (.lst (vs ++ [v]))) a=some (.lst [.int (runG (nxG n thin l bs ns b) (i+1) p2).2])/\(upd H' la (.lst (vs ++ [v]))) la=some (.lst vs')/\vs'.length=i+1/\Reps (upd H' la (.lst (vs ++ [v]))) (fun x=>O x\/x=la) vs' (runG (nxG n thin l bs ns b) (i+1) p2).1:=by
   intro H' v d q po' ha' hl' rs' rv e
   have kp:∀c o,H' c=some o->¬(O c\/c=la)->(upd H' la (.lst (vs ++ [v]))) c=some o:=fun c o e n=>by rw[zY (fun z=>n (.inr z))];exact e
   refine⟨_,vs ++ [v],rfl,keepL po',?_,zV,by rw[List.length_append,lv];rfl,?_⟩
   ·rw[zY (fun z=>al z.symm),ha',runG,e]
   ·rw[runG,e]
    exact (rs'.keep kp fun _ _ z=>z).append (.one (rv.keep kp fun _ _ z=>z))
  refine⟨_,rfl,_,rfl,an,_,rfl,.inl (.inl rn'),rfl,zY1 ns,_,rfl,?_⟩
  rw[zK2]
  simp only[Bool.false_eq_true,if_false]
  by_cases c:ns.contains (i:Int)=true
  ·rw[c]
   simp only[if_true]
   refine⟨_,rfl,.inl ⟨rfl,_,SqL.of hl⟩,la,vs,.non,rfl,rfl,hl,by rw[lv];exact small1000 (by bv_omega),?_⟩
   exact fin po ha hl rs .non (by unfold nxG;rw[if_pos c])
  ·rw[Bool.not_eq_true] at c
   rw[c]
   simp only[Bool.false_eq_true,if_false]
   refine⟨_,rfl,.inl ⟨rfl,_,SqL.of hl⟩,_,rfl,_,rfl,_,rfl,_,_,rfl,rfl,_,rfl,_,rfl,by show 1<=sizeLine;decide,fun t1 h1 => ?_⟩
   have S1:=Same.new (H:=H) (o:=.lst [.int b]) h1
   refine⟨ab,t1,bs.map V.int,[.int b],rfl,rfl,zA rb' fun o e=>S1 _ o e,.inl zV,by rw[List.length_map];exact Nat.le_of_lt (small1000 (by simp at hb ⊢;bv_omega)),fun q1 h1' => ?_⟩
   have S2:=Same.new (o:=.lst (bs.map V.int ++ [.int b])) h1'
   refine⟨_,rfl,_,rfl,by show 1<=sizeLine;decide,fun t2 h2 => ?_⟩
   have S3:=Same.new (o:=.lst [.int (i:Int)]) h2
   have S123:=(S1.trans S2).trans S3
   refine⟨an,t2,ns.map V.int,[.int (i:Int)],rfl,rfl,zA rn' fun o e=>S123 _ o e,.inl zV,by rw[List.length_map];exact Nat.le_of_lt (small1000 (by simp;bv_omega)),fun q2 h2'=>⟨_,rfl,?_⟩⟩
   have S4:=Same.new (o:=.lst (ns.map V.int ++ [.int (i:Int)])) h2'
   have S:=S123.trans S4
   have qa:q1≠a:=fun z=>by rw[z,S1 _ _ ha] at h1';cases h1'
   have qa2:q2≠a:=fun z=>by rw[z,S123 _ _ ha] at h2';cases h2'
   refine⟨fun x=>O x\/x=la,a,q1,q2,_,n,l,bs ++ [b],ns ++ [(i:Int)],thin,?_,.inl oa,S _ _ ha,?_,.inl ?_,qa,.inl ?_,qa2,hk,hn,hb,by simp;bv_omega,fun v H' po' ha' rv => ?_⟩
   ·intro x hx
    rcases hx with hx | hx
    ·by_cases z:x=a
     ·rw[z,S _ _ ha];exact fun z=>nomatch z
     ·cases e:H0 x with
      | none=>exact absurd e (oh x hx)
      | some o=>rw[S _ _ (po x o e z)];exact fun z=>nomatch z
    ·rw[hx,S _ _ hl];exact fun z=>nomatch z
   ·show [V.ref a,V.int (n:Int),V.int (((l+1:Nat):Int)-1),V.ref q1,V.ref q2,V.bl thin]=_
    rw[show ((l+1:Nat):Int)-1=(l:Int) by bv_omega]
   ·rw[(S3.trans S4) _ _ (zV (H:=upd H t1 (.lst [.int b])) (a:=q1) (o:=.lst (bs.map V.int ++ [.int b]))),List.map_append];rfl
   ·rw[zV,List.map_append];rfl
   ·have pH:Pot a H H':=fun c o e n=>po' c o (S c o e) n
    have kp:∀c o,H c=some o->¬(O c\/c=la)->H' c=some o:=fun c o e n=>pH c o e fun z=>n (.inl (by rw[z];exact oa))
    have hl':=pH la _ hl al
    refine⟨la,vs,v,rfl,rfl,hl',by rw[lv];exact small1000 (by bv_omega),?_⟩
    exact fin (po.trans pH) ha' hl' (rs.keep kp fun _ _ z=>z) rv (by unfold nxG;rw[c,if_neg Bool.false_ne_true])
 ·rintro σ H ⟨v9,vs,rfl,po,ha,hl,_,rs⟩
  exact kk v9 vs H po ha hl rs
theorem zS7 {K:KFr}{k n l:Nat}{thin:Bool}{bs ns:List Int}{b p1:Int}{O:Addr->Prop}{H0:Hp}{a ab an:Addr}{E:Ends}(oh:∀x,O x->H0 x≠none) (oa:O a) (rb:Rd H0 ab (.lst (bs.map V.int))) (nb:ab≠a) (rn:Rd H0 an (.lst (ns.map V.int))) (nn:an≠a) (hk:l<k) (hn:n<=100) (hb:bs.length+(l+1)<=n) (hs:ns.length+(l+1)<=200)
  (eb:(clN n bs).getD (p1%((clN n bs).length:Int)).toNat 0=b)
  (kk:∀v H',Pot a H0 H'->H' a=some (.lst [.int (runG (nxG n thin l bs ns b) n (p1 / ((clN n bs).length:Int))).2])->Rep H' O v (.tuple [.int b,.tuple (runG (nxG n thin l bs ns b) n (p1 / ((clN n bs).length:Int))).1])->E.rt v H')
  {H:Hp}(po:Pot a H0 H) (ha:H a=some (.lst [.int p1])) :
  tTrR K (spTree k) E [some (.ref a),some (.int (n:Int)),some (.int ((l+1:Nat):Int)),some (.ref ab),some (.ref an),some (.bl thin),none,none,none,none] H:=by
 have rb':=zR7 rb po nb
 have lm:((clN n bs).map V.int).length=(clN n bs).length:=List.length_map ..
 have cp:=zN7 n bs (by bv_omega)
 have cl:=zI3 n bs
 refine⟨_,rfl,(n:Int),rfl,by bv_omega,by bv_omega,?_⟩
 rw[Int.toNat_natCast]
 intro C fp s₂ H₂
 refine cY (lo:=0) (n:=n) (tt:=tTest (tOp (rIn K true) (tVar 0) (tVar 1))) (te:=tVar 0) (js:=[3]) (σ:=[some (.ref a),some (.int (n:Int)),some (.int ((l+1:Nat):Int)),some (.ref ab),some (.ref an),some (.bl thin),none,none,none,none]) (Q:=fun v H'=>tTrS K (spTree k) E [some (.ref a),some (.int (n:Int)),some (.int ((l+1:Nat):Int)),some (.ref ab),some (.ref an),some (.bl thin),some v,none,none,none] H') (fun i acc H'=>acc=(clN i bs).map V.int/\H'=H) ⟨rfl,rfl⟩ ?_ ?_
 ·rintro i acc H' hi ⟨rfl,rfl⟩
  refine⟨_,rfl,_,rfl,ab,_,rfl,.inl (.inl rb'),rfl,zY1 bs,_,rfl,?_⟩
  rw[zK2,Int.zero_add]
  simp only[if_true]
  cases c:bs.contains (i:Int) with
  | false =>
   simp only[Bool.not_false,if_true]
   refine⟨_,rfl,by rw[List.length_map];exact small1000 (by have:=zI3 i bs;bv_omega),?_,rfl⟩
   rw[zR2,c,if_neg Bool.false_ne_true,List.map_append]
   rfl
  | true =>
   simp only[Bool.not_true,Bool.false_eq_true,if_false]
   refine⟨?_,trivial⟩
   rw[zR2,c,if_pos rfl,List.append_nil]
 ·rintro acc H' ⟨rfl,rfl⟩ ac hac
  have aca:ac≠a:=fun z=>by rw[z,ha] at hac;cases hac
  have h0:=Int.emod_nonneg p1 (show ((clN n bs).length:Int)≠0 by bv_omega)
  have h1:=Int.emod_lt_of_pos p1 (show (0:Int)<((clN n bs).length:Int) by bv_omega)
  refine⟨_,rfl,_,rfl,_,rfl,ac,_,rfl,.inl (SqL.of zV),a,p1,_,rfl,by rw[zY (fun z=>aca z.symm)];exact ha,?_⟩
  rw[lm]
  have at1:atI ((clN n bs).map V.int) (p1%((clN n bs).length:Int))=some (.int b):=by
   obtain⟨j,hj⟩:∃j:Nat,p1%((clN n bs).length:Int)=(j:Int):=⟨(p1%((clN n bs).length:Int)).toNat,by bv_omega⟩
   rw[hj,Int.toNat_natCast] at eb
   rw[hj,wF,wJ (by bv_omega),eb]
   rfl
  refine⟨DivOk.small (by bv_omega) (by bv_omega),ac,_,_,.int b,rfl,rfl,SqL.of (by rw[zY aca,zV]),at1,Nat.zero_le _,fun la hla => ?_⟩
  have la1:la≠a:=fun z=>by rw[z,zV] at hla;cases hla
  have lac:la≠ac:=fun z=>by rw[z,zY aca,zV] at hla;cases hla
  have hla0:H' la=none:=by rw[zY la1,zY lac] at hla;exact hla
  refine yN8 (E:={ E with nx:=tTrE K E }) oh oa rb nb rn nn (po.none la1 hla0) la1 hk hn (by simp;bv_omega) hs (fun v9 vs H2 po2 ha2 hl2 rs2=>yU7 oh po2 ha2 (po.none la1 hla0) la1 hl2 rs2 kk) ?_ ?_ zV
  ·exact ((po.new hac).trans Pot.upd).new hla
  ·rw[zY (fun z=>la1 z.symm),zV]
theorem zA9 {K:KFr}{k n l:Nat}{thin:Bool}{bs ns:List Int}{p:Int}{O:Addr->Prop}{H:Hp}{a ab an:Addr}{E:Ends}(oh:∀x,O x->H x≠none) (oa:O a) (ha:H a=some (.lst [.int p])) (rb:Rd H ab (.lst (bs.map V.int))) (nb:ab≠a) (rn:Rd H an (.lst (ns.map V.int))) (nn:an≠a) (hk:l<k+1) (hn:n<=100) (hb:bs.length+l<=n) (hs:ns.length+l<=200)
  (kk:∀v H',Pot a H H'->H' a=some (.lst [.int (trG n thin l bs ns p).2])->Rep H' O v (trG n thin l bs ns p).1->E.rt v H') :
  tTr K (spTree k) E [some (.ref a),some (.int (n:Int)),some (.int (l:Int)),some (.ref ab),some (.ref an),some (.bl thin),none,none,none,none] H:=by
 refine⟨_,rfl,.int _,.int 0,.int _,.int _,rfl,rfl,_,evI _ _,?_⟩
 cases l with
 | zero =>
  rw[decide_eq_true (show ((0:Nat):Int)=0 from rfl)]
  simp only[if_true]
  exact kk _ _ (Pot.refl a H) ha .non
 | succ l =>
  rw[decide_eq_false (show ¬((l+1:Nat):Int)=0 by bv_omega)]
  simp only[Bool.false_eq_true,if_false]
  refine⟨_,rfl,thin,rfl,?_⟩
  cases thin with
  | false =>
   simp only[Bool.false_eq_true,if_false]
   have e:=zT6 (n:=n) (l:=l) (thin:=false) (bs:=bs) (ns:=ns) (p:=p) (fun z=>Bool.false_ne_true z.1) rfl rfl
   rw[e] at kk
   exact zS7 oh oa rb nb rn nn (by bv_omega) hn hb hs rfl kk (Pot.refl a H) ha
  | true =>
   simp only[if_true]
   refine⟨_,rfl,a,p,4,rfl,ha,DivOk.small (by decide) (by decide),.int _,.int 3,.int _,.int _,rfl,rfl,_,evI _ _,?_⟩
   by_cases q:p%4=3
   ·rw[decide_eq_true q]
    simp only[if_true]
    rw[zM3 ⟨rfl,q⟩] at kk
    exact kk _ _ Pot.upd zV .non
   ·rw[decide_eq_false q]
    simp only[Bool.false_eq_true,if_false]
    have e:=zT6 (n:=n) (l:=l) (thin:=true) (bs:=bs) (ns:=ns) (p:=p) (fun z=>q z.2) rfl rfl
    rw[e] at kk
    exact zS7 oh oa rb nb rn nn (by bv_omega) hn hb hs rfl kk Pot.upd zV
section
variable {P:Program}{w:World}{K:KFr}{mg:Str->Option Value}{base:Heap}
theorem yD9 {x:Str}{st:Stmt}{f:Addr}{fd:FuncData}{N ps:List Str}{j k:Nat}(F:Fun K x x st f fd) (S:zJ N ps (zT st)) (hp:ps.length=6) (hN:N.length=10)
  (hbody:∀(cdv:Value) (A:Around) (outer:List Env) (s:Shared) (H:Hp) (E:XK),Room j (A.deeper (envOfC x (zT st) s.heap.objs.size f cdv))->PSs (cxOf CX0 P w K mg base N x (zT st) f cdv A outer s H E).nox (defBody st) (tTr K (spTree k))) :
  FnOk P w K mg base CX0 (j+1) f fd ps (spTree (k+1)):=by
 refine F.ok S (fun vs H Q E ⟨O,a,ab,an,p,n,l,bs,ns,thin,_,_,_,e,_⟩=>by rw[e,hp];rfl) fun cdv A outer s H vs Q E hr h => ?_
 obtain⟨O,a,ab,an,p,n,l,bs,ns,thin,oh,oa,ha,rfl,rb,nb,rn,nn,hk,hn,hb,hs,kk⟩:=h
 refine⟨_,hbody cdv A outer s H E hr,?_⟩
 have st:start N [V.ref a,.int (n:Int),.int (l:Int),.ref ab,.ref an,.bl thin]=[some (.ref a),some (.int (n:Int)),some (.int (l:Int)),some (.ref ab),some (.ref an),some (.bl thin),none,none,none,none]:=by
  unfold start
  rw[hN]
  rfl
 rw[st]
 exact zA9 oh oa ha rb nb rn nn hk hn hb hs kk
end
def tr1 (n:Nat) (ops ms:List Int) (i:Nat):D:=(trG n (decide (ms.getD i 0%3=2)) (ops.getD i 0).toNat [] [(i:Int)] (ms.getD i 0 / 3)).1
def plD (n:Nat) (ops ms:List Int):D:=.tuple ((List.range n).map fun (i:Nat)=>tr1 n ops ms i)
def plOk (n:Int) (ops ms:List Int):Prop:=0<=n/\n<=7/\ops.length=n.toNat/\ms.length=n.toNat/\∀o∈ops,0<=o/\o<=n
open Classical in
def plF (Fs:List D->Res D):List D->Res D
 | [d,.int n,.tuple es]=>match intsOf es,Fs [d,.int 3,.int n] with
  | some ops,.ok (.list cs)=>match intsOf cs with
   | some ms=>if plOk n ops ms then .ok (plD n.toNat ops ms) else .no
   | _=>.no
  | _,_=>.no
 | _=>.no
theorem zA7 {Fs:List D->Res D}{ds:List D}{Q:D->Prop}{R:Str->Prop}(h:(plF Fs ds).post Q R):∃(d:D) (n:Nat) (ops ms:List Int),ds=[d,.int (n:Int),tI ops]/\Fs [d,.int 3,.int (n:Int)]=.ok (lI ms)/\n<=7/\ops.length=n/\ms.length=n/\(∀o∈ops,0<=o/\o<=(n:Int))/\Q (plD n ops ms):=by
 unfold plF at h
 split at h
 ·split at h
  ·rename_i d n es _ _ ops cs e1 e
   split at h
   ·rename_i ms e2
    obtain rfl:=xM e1
    obtain rfl:=xM e2
    split at h
    ·rename_i c
     obtain⟨c1,c2,c3,c4,c5⟩:=c
     obtain⟨m,rfl⟩:∃m:Nat,n=(m:Int):=⟨n.toNat,by bv_omega⟩
     rw[Int.toNat_natCast] at c3 c4 h
     exact⟨d,m,ops,ms,rfl,e,by bv_omega,c3,c4,c5,h⟩
    ·exact h.elim
   ·exact h.elim
  ·exact h.elim
 ·exact h.elim
theorem xU3 {Fs:List D->Res D}{d:D}{n:Nat}{ops ms:List Int}(e:Fs [d,.int 3,.int (n:Int)]=.ok (lI ms)) (hn:n<=7) (h1:ops.length=n) (h2:ms.length=n) (h3:∀o∈ops,0<=o/\o<=(n:Int)):plF Fs [d,.int (n:Int),tI ops]=.ok (plD n ops ms):=by
 unfold plF tI
 simp only[intsOf_map,e,lI]
 rw[if_pos ⟨by bv_omega,by bv_omega,by rw[Int.toNat_natCast];exact h1,by rw[Int.toNat_natCast];exact h2,h3⟩,Int.toNat_natCast]
def tPlB (K:KFr) (k:Nat):TS:=tSeq (tAsg (tLst (zR (tOp (rIxL K) (tVar 4) (tVar 5)) tNil)) (gName 6)) (tSeq (tAsg (tOp (rEqD K false) (tCall spTake [] E0 (zR (tVar 6) (zR (tC (.int 3)) tNil))) (tC (.int 2))) (gName 7))
 (tAppV K 3 (tCall (spTree k) [] E0 (zR (tVar 6) (zR (tVar 1) (zR (tOp (rIxT K) (tVar 2) (tVar 5)) (zR (tLst tNil) (zR (tLst (zR (tVar 5) tNil)) (zR (tVar 7) tNil)))))))))
def tPl (K:KFr) (k:Nat) (Fs:List D->Res D):TS:=tSeq (tAsg (tLst tNil) (gName 3)) (tSeq (tAsg (tCall (spF true Fs) [] E0 (zR (tVar 0) (zR (tC (.int 3)) (zR (tVar 1) tNil)))) (gName 4))
 (tSeq (tFor (iRng1 (zR (tVar 1) tNil)) (gName 5) (tPlB K k)) (tRet (tCB (rTup K) (zR (tVar 3) tNil)))))
theorem yE4 {K:KFr}{k:Nat}{Fs:List D->Res D}{O:Addr->Prop}{H0:Hp}{x0:V}{d0:D}{ao:Addr}{n:Nat}{ops ms:List Int}{E:Ends}(oh:∀a,O a->H0 a≠none) (r0:Rep H0 O x0 d0) (ro:Rd H0 ao (.tup (ops.map V.int))) (hs:Fs [d0,.int 3,.int (n:Int)]=.ok (lI ms)) (hn:n<=7) (hk:8<=k) (lo:ops.length=n) (lm:ms.length=n) (ho:∀o∈ops,0<=o/\o<=(n:Int))
  (kk:∀v H',Same H0 H'->CallOk false O H0 H' v (plD n ops ms)->E.rt v H'):tPl K k Fs E [some x0,some (.int (n:Int)),some (.ref ao),none,none,none,none,none] H0:=by
 refine⟨Nat.zero_le _,fun lt hlt => ?_⟩
 have S1:=Same.new (o:=.lst []) hlt
 refine⟨_,rfl,_,rfl,[d0,.int 3,.int (n:Int)],fun x=>O x\/x=lt,fun x hx => ?_,.cons (r0.keep (fun b o e _=>S1 b o e) fun b hb z => ?_) (.cons (.int 3) (.cons (.int (n:Int)) .nil)),?_⟩
 ·rcases hx with hx | hx
  ·exact Same.ne S1 (oh x hx)
  ·rw[hx,zV];exact fun z=>nomatch z
 ·rcases z with z | z
  ·exact z
  ·exact absurd hlt (by rw[z] at hb;exact hb)
 rw[hs]
 rintro v H1 s1 ⟨lc,ys,ds,rfl,e,hlc,hlc1,rc⟩
 cases e
 obtain rfl:=rc.ints
 have S01:Same H0 H1:=S1.trans s1
 have hlt1:H1 lt=some (.lst []):=s1 _ _ zV
 have ltc:lt≠lc:=fun z=>by rw[<-z,zV] at hlc;cases hlc
 have flc:H0 lc=none:=by rw[zY (fun z=>ltc z.symm)] at hlc;exact hlc
 refine⟨_,rfl,(n:Int),rfl,by bv_omega,by bv_omega,?_⟩
 rw[Int.toNat_natCast]
 refine zZ4 (fun i σ H=>∃v5 v6 v7 vs,σ=[some x0,some (.int (n:Int)),some (.ref ao),some (.ref lt),some (.ref lc),v5,v6,v7]/\Same H0 H/\H lc=some (.lst (ms.map V.int))/\H lt=some (.lst vs)/\vs.length=i/\Reps H (fun x=>O x\/x=lt) vs ((List.range i).map fun (i:Nat)=>tr1 n ops ms i)) ⟨none,none,none,[],rfl,S01,hlc1,hlt1,rfl,.nil⟩ ?_ ?_
 ·rintro i σ H hi ⟨v5,v6,v7,vs,rfl,S,hc,hl,lv,rs⟩
  rw[Int.zero_add]
  have at1:atI (ms.map V.int) (i:Int)=some (.int (ms.getD i 0)):=by rw[wF,wJ (by bv_omega)];rfl
  have at2:atI (ops.map V.int) (i:Int)=some (.int (ops.getD i 0)):=by rw[wF,wJ (by bv_omega)];rfl
  have bo:=ho (ops.getD i 0) (by rw[List.getD,List.getElem?_eq_getElem (by bv_omega),Option.getD_some];exact List.getElem_mem _)
  refine⟨_,rfl,_,rfl,lc,_,_,_,rfl,rfl,SqL.of hc,at1,by show 1<=sizeLine;decide,fun a ha => ?_⟩
  have la:lt≠a:=fun z=>by rw[<-z,hl] at ha;cases ha
  have fa:H0 a=none:=S.free ha
  refine⟨_,rfl,a,_,3,rfl,zV,DivOk.small (by decide) (by decide),.int _,.int 2,.int _,.int _,rfl,rfl,?_⟩
  rw[evI,zI6]
  have Sa:=Same.new (o:=.lst [.int (ms.getD i 0 / 3)]) ha
  have hl1:(upd H a (.lst [.int (ms.getD i 0 / 3)])) lt=some (.lst vs):=Sa _ _ hl
  refine⟨_,rfl,.inl ⟨rfl,_,SqL.of hl1⟩,_,rfl,_,rfl,_,rfl,_,rfl,ao,_,_,_,rfl,rfl,.inl (zA ro fun o e=>Sa _ o (S _ o e)),at2,Nat.zero_le _,fun t1 h1 => ?_⟩
  have St1:=Same.new (o:=.lst []) h1
  refine⟨_,rfl,by show 1<=sizeLine;decide,fun t2 h2=>⟨_,rfl,?_⟩⟩
  have St2:=Same.new (o:=.lst [.int (i:Int)]) h2
  have Sn:=St1.trans St2
  have SH:=Sa.trans Sn
  have ta1:t1≠a:=fun z=>by rw[z,zV] at h1;cases h1
  have ta2:t2≠a:=fun z=>by rw[z,zY (fun z=>ta1 z.symm),zV] at h2;cases h2
  refine⟨fun x=>O x\/x=lt\/x=a,a,t1,t2,ms.getD i 0 / 3,n,(ops.getD i 0).toNat,[],[(i:Int)],decide (ms.getD i 0%3=2),fun x hx => ?_,.inr (.inr rfl),Sn _ _ zV,by rw[Int.toNat_of_nonneg bo.1];rfl,.inl (St2 _ _ zV),ta1,.inl zV,ta2,by bv_omega,by bv_omega,by show 0+_<=n;bv_omega,by show 1+_<=200;bv_omega,fun v H' po hp rv => ?_⟩
  ·rcases hx with hx | hx | hx
   ·exact Same.ne SH (Same.ne S (oh x hx))
   ·rw[hx,Sn _ _ hl1];exact fun z=>nomatch z
   ·rw[hx,Sn _ _ zV];exact fun z=>nomatch z
  ·have pH:∀c o,H c=some o->H' c=some o:=fun c o e=>po c o (SH c o e) fun z=>by rw[z,ha] at e;cases e
   have hl':=pH _ _ hl
   refine⟨lt,vs,v,rfl,rfl,hl',by rw[lv];exact small1000 (by bv_omega),?_⟩
   have kp:∀c o,H' c=some o->¬(O c\/c=lt)->(upd H' lt (.lst (vs ++ [v]))) c=some o:=fun c o e n=>by rw[zY (fun z=>n (.inr z))];exact e
   refine⟨_,_,_,vs ++ [v],rfl,fun c o e => ?_,?_,zV,by rw[List.length_append,lv];rfl,?_⟩
   ·rw[zY (fun z=>by rw[z,hlt] at e;cases e)]
    exact pH _ _ (S _ _ e)
   ·rw[zY (fun z=>ltc z.symm)]
    exact pH _ _ hc
   ·rw[List.range_succ,List.map_append]
    refine ((rs.keep (fun c o e _=>pH c o e) fun _ _ z=>z).keep kp fun _ _ z=>z).append (.one ?_)
    exact (rv.less fun x hx=>hx.elim .inl fun z=>.inr (.inl z)).keep kp fun _ _ z=>z
 ·rintro σ H ⟨v5,v6,v7,vs,rfl,S,hc,hl,_,rs⟩
  refine⟨_,rfl,lt,_,rfl,.inl ⟨SqL.of hl,fun t ht=>kk _ _ (S.trans (Same.new ht)) (.tup (xs:=vs) (.inl zV) (fun z=>oh t z (S.free ht)) ?_)⟩⟩
  refine rs.keep (fun c o e _ => ?_) fun _ _ z=>.inl z
  rw[zY (fun z=>by rw[z,ht] at e;cases e)]
  exact e
section
variable {P:Program}{w:World}{K:KFr}{mg:Str->Option Value}{base:Heap}
theorem yE2 {f:Addr}{fd:FuncData}{ps:List Str}{k:Nat}:FnOk P w K mg base CX0 k f fd ps (spTree 0):=by
 have no:∀{vs:List V}{H:Hp}{Q:VK}{E:XK},spTree 0 vs H Q E->False:=by
  rintro vs H Q E ⟨O,a,ab,an,p,n,l,bs,ns,thin,_,_,_,_,_,_,_,_,hl,_⟩
  bv_omega
 exact⟨fun vs H Q E h=>(no h).elim,fun A outer s H args us vs Q E hr e b v h=>(no h).elim⟩
theorem yD3 (Fs:List D->Res D){x:Str}{st:Stmt}{f:Addr}{fd:FuncData}{N ps:List Str}{j k:Nat}(hk:8<=k) (F:Fun K x x st f fd) (S:zJ N ps (zT st)) (hp:ps.length=3) (hN:N.length=8)
  (hbody:∀(cdv:Value) (A':Around) (outer:List Env) (s:Shared) (H:Hp) (E:XK),Room j (A'.deeper (envOfC x (zT st) s.heap.objs.size f cdv))->PSs (cxOf CX0 P w K mg base N x (zT st) f cdv A' outer s H E).nox (defBody st) (tPl K k Fs)) :
  FnOk P w K mg base CX0 (j+1) f fd ps (spF false (plF Fs)):=by
 refine F.ok S (fun vs H Q E ⟨ds,O,oh,r,q⟩ => ?_) fun cdv A' outer s H vs Q E hr h => ?_
 ·obtain⟨d,n,ops,ms,rfl,_⟩:=zA7 q
  rw[r.length,hp]
  rfl
 ·obtain⟨ds,O,oh,r,q⟩:=h
  obtain⟨d,n,ops,ms,rfl,hc,hn,lo,lm,ho,q⟩:=zA7 q
  refine⟨_,hbody cdv A' outer s H E hr,?_⟩
  cases r with
  | @cons v _ _ _ r1 r2 =>
   cases r2 with
   | cons r2 r3 =>
    cases r2
    cases r3 with
    | cons r3 r4 =>
     cases r4
     cases r3 with
     | @tup a _ _ rd no rs =>
      obtain rfl:=rs.ints
      have st:start N [v,V.int (n:Int),V.ref a]=[some v,some (.int (n:Int)),some (.ref a),none,none,none,none,none]:=by
       unfold start
       rw[hN]
       rfl
      rw[st]
      exact yE4 oh r1 rd hc hn hk lo lm ho q
end
end L2.L3
namespace MR
def rg (n:Nat):List Int:=(List.range n).map fun (i:Nat)=>(i:Int)
theorem yZ2 (n:Nat):(rg n).length=n:=by unfold rg;simp
theorem zT1 {n:Nat}{a:Int}:a∈rg n↔0<=a/\a<n:=by
 unfold rg
 simp only[List.mem_map,List.mem_range]
 constructor
 ·rintro ⟨i,hi,rfl⟩;bv_omega
 ·intro h;exact⟨a.toNat,by bv_omega,by bv_omega⟩
theorem yL5 (n:Nat):(rg n).Pairwise (· < ·):=by
 unfold rg
 rw[List.pairwise_map]
 exact List.Pairwise.imp (fun h=>by bv_omega) (List.pairwise_lt_range (n:=n))
theorem zQ5 (n:Nat):(rg n).Nodup:=(yL5 n).imp fun h=>by bv_omega
theorem xR5 (n:Nat):(rg n).Pairwise (· <= ·):=(yL5 n).imp fun h=>by bv_omega
theorem zO2 {a b:List Int}(p:a.Perm b) (ha:a.Pairwise (· <= ·)) (hb:b.Pairwise (· <= ·)):a=b :=
 p.eq_of_pairwise (fun x y _ _ h1 h2=>by bv_omega) ha hb
theorem zF2 {xs:List Int}(h:xs.Nodup){i j:Nat}(hi:i<xs.length) (hj:j<xs.length) (e:xs.getD i 0=xs.getD j 0):i=j:=by
 rw[List.getD_eq_getElem?_getD,List.getElem?_eq_getElem hi,List.getD_eq_getElem?_getD,List.getElem?_eq_getElem hj] at e
 have e:xs[i]=xs[j]:=e
 rcases Nat.lt_trichotomy i j with q | q | q
 ·exact absurd e (List.pairwise_iff_getElem.mp h i j hi hj q)
 ·exact q
 ·exact absurd e.symm (List.pairwise_iff_getElem.mp h j i hj hi q)
theorem getD_mem {xs:List Int}{i:Nat}(h:i<xs.length):xs.getD i 0∈xs:=by
 rw[List.getD,List.getElem?_eq_getElem h]
 exact List.getElem_mem h
theorem jU {n:Nat}{xs:List Int}(p:xs.Perm (rg n)):Ord n xs:=by
 have hl:xs.length=n:=by rw[p.length_eq,yZ2]
 have nd:xs.Nodup:=p.nodup_iff.mpr (zQ5 n)
 exact⟨hl,fun i hi=>zT1.mp (p.mem_iff.mp (getD_mem (by bv_omega))),fun i j hi hj e=>zF2 nd (by bv_omega) (by bv_omega) e⟩
theorem onto {n:Nat}{f:Nat->Nat}(h:∀i,i<n->f i<n) (hi:∀i j,i<n->j<n->f i=f j->i=j){c:Nat}(hc:c<n):∃i,i<n/\f i=c:=by
 refine Classical.byContradiction fun no => ?_
 obtain⟨i,j,h1,h2,e⟩:=pigeon n (fun i=>if i=n then c else f i) fun i hi'=>by
  show (if i=n then c else f i)<n
  split
  ·exact hc
  ·exact h i (by bv_omega)
 have e:(if i=n then c else f i)=(if j=n then c else f j):=e
 rw[if_neg (show i≠n by bv_omega)] at e
 by_cases q:j=n
 ·rw[if_pos q] at e
  exact no ⟨i,by bv_omega,e⟩
 ·rw[if_neg q] at e
  have:=hi i j (by bv_omega) (by bv_omega) e
  bv_omega
theorem Ord.onto {n:Nat}{xs:List Int}(o:Ord n xs){c:Nat}(hc:c<n):∃b,b<n/\nxt xs b=c :=
 MR.onto (fun i hi=>o.xZ hi) (fun i j hi hj e=>o.vD hi hj e) hc
def insAt (xs:List Int) (i:Nat) (v:Int):List Int:=xs.take i++v::xs.drop i
theorem cT (xs:List Int) (i:Nat) (v:Int):(insAt xs i v).Perm (v::xs):=by
 unfold insAt
 have:=List.perm_middle (a:=v) (l₁:=xs.take i) (l₂:=xs.drop i)
 rwa [List.take_append_drop] at this
def lawOrd (cell:Int):Nat->List Int×Int
 | 0=>([],cell)
 | k+1=>(insAt (lawOrd cell k).1 ((lawOrd cell k).2%((k:Int)+1)).toNat k,(lawOrd cell k).2 / ((k:Int)+1))
theorem yK4 (n:Nat):rg (n+1)=rg n ++ [(n:Int)]:=by unfold rg;rw[List.range_succ,List.map_append];rfl
theorem jW (cell:Int):∀k,(lawOrd cell k).1.Perm (rg k)
 | 0=>List.Perm.refl _
 | k+1=>by
  rw[yK4]
  refine (cT _ _ _).trans ?_
  refine ((jW cell k).cons _).trans ?_
  exact (List.perm_append_singleton _ _).symm
theorem vY (cell:Int) (n:Nat):Ord n (lawOrd cell n).1:=jU (jW cell n)
def ofN (n:Nat) (f:Nat->Nat):List Int:=(List.range n).map fun (b:Nat)=>((f b:Nat):Int)
theorem kY (n:Nat) (f:Nat->Nat):(ofN n f).length=n:=by unfold ofN;simp
theorem zJ2 {n:Nat}{f:Nat->Nat}{b:Nat}(h:b<n):(ofN n f).getD b 0=(f b:Int):=by
 unfold ofN
 simp[List.getD,h]
theorem zI1 {n:Nat}{f:Nat->Nat}{b:Nat}(h:b<n):nxt (ofN n f) b=f b:=by
 unfold nxt
 rw[zJ2 h]
 bv_omega
theorem yJ2 {n:Nat}{f g:Nat->Nat}(h:∀b,b<n->f b=g b):ofN n f=ofN n g:=by
 unfold ofN
 refine List.map_congr_left fun b hb => ?_
 rw[h b (List.mem_range.mp hb)]
theorem zN5 {n:Nat}{f:Nat->Nat}(h:∀b,b<n->f b<n) (i:∀b c,b<n->c<n->f b=f c->b=c):Ord n (ofN n f):=by
 refine jU ?_
 have nd:(ofN n f).Nodup:=by
  unfold ofN
  rw[List.nodup_iff_pairwise_ne,List.pairwise_map]
  refine List.Pairwise.imp_of_mem ?_ (List.nodup_range (n:=n))
  intro a b ha hb ne e
  exact ne (i a b (List.mem_range.mp ha) (List.mem_range.mp hb) (by bv_omega))
 rw[List.perm_ext_iff_of_nodup nd (zQ5 n)]
 intro a
 rw[zT1]
 unfold ofN
 rw[List.mem_map]
 constructor
 ·rintro ⟨b,hb,rfl⟩
  have:=h b (List.mem_range.mp hb)
  bv_omega
 ·rintro ⟨h1,h2⟩
  obtain⟨b,hb,e⟩:=onto (n:=n) (f:=f) h i (c:=a.toNat) (by bv_omega)
  exact⟨b,List.mem_range.mpr hb,by bv_omega⟩
theorem zS3 {n:Nat}{xs:List Int}(o:Ord n xs):ofN n (nxt xs)=xs:=by
 refine List.ext_getElem (by rw[kY,o.len]) fun b h1 h2 => ?_
 rw[kY] at h1
 have e:=zJ2 (f:=nxt xs) h1
 rw[<-o.yM h1] at e
 rw[List.getD_eq_getElem?_getD,List.getD_eq_getElem?_getD,List.getElem?_eq_getElem (by rw[kY];exact h1),List.getElem?_eq_getElem h2] at e
 exact e
theorem Ord.ext {n:Nat}{xs ys:List Int}(o:Ord n xs) (o':Ord n ys) (h:∀b,b<n->nxt xs b=nxt ys b):xs=ys:=by
 rw[<-zS3 o,<-zS3 o',yJ2 h]
def cmpO (n:Nat) (xs ys:List Int):List Int:=ofN n fun b=>nxt ys (nxt xs b)
theorem yR8 {n:Nat}{xs ys:List Int}{b:Nat}(h:b<n):nxt (cmpO n xs ys) b=nxt ys (nxt xs b):=zI1 h
theorem yU3 {n:Nat}{xs ys:List Int}(o:Ord n xs) (o':Ord n ys):Ord n (cmpO n xs ys) :=
 zN5 (fun b h=>o'.xZ (o.xZ h)) fun b c h h' e=>o.vD h h' (o'.vD (o.xZ h) (o.xZ h') e)
section
variable {n:Nat}{xs:List Int}
theorem cQ (xs:List Int) (b k:Nat):it xs (k+1) b=it xs k (nxt xs b):=wU xs b 1 k
theorem yB8 {P:Nat->Prop}(n:Nat) (h:∃c,P c):∃m,P m/\∀c,P c->m<=c:=by
 obtain⟨c,hc⟩:=h
 induction c using Nat.strongRecOn with
 | ind c ih =>
  by_cases q:∃d,d<c/\P d
  ·obtain⟨d,hd,pd⟩:=q
   exact ih d hd pd
  ·exact⟨c,hc,fun d pd=>Nat.le_of_not_lt fun z=>q ⟨d,z,pd⟩⟩
end
section
variable {n:Nat}{xs:List Int}
def lc:Nat->Nat
 | 0=>1
 | n+1=>(n+1)*lc n
theorem part (o:Ord n xs){a:Nat}(ha:a<n):(ring n xs a++(List.range n).filter fun c=>!(ring n xs a).contains c).Perm (List.range n):=by
 have nd:=o.zG8 ha
 rw[List.perm_ext_iff_of_nodup ?_ List.nodup_range]
 ·intro c
  rw[List.mem_append,List.mem_filter,List.mem_range]
  constructor
  ·rintro (h | h)
   ·exact o.yL2 ha (yQ5.mp h)
   ·exact h.1
  ·intro h
   cases e:(ring n xs a).contains c with
   | true=>exact .inl (List.contains_iff_mem.mp e)
   | false=>exact .inr ⟨h,rfl⟩
 ·rw[List.nodup_append]
  refine⟨nd,List.nodup_range.filter _,fun x hx y hy e => ?_⟩
  subst e
  have:=(List.mem_filter.mp hy).2
  rw[List.contains_iff_mem.mpr hx] at this
  cases this
end
end MR
namespace M12
def ff (n:Int):Nat->Int
 | 0=>1
 | j+1=>ff n j*(n-j)
def tot (least:Int) (many:List Int):Nat->Int
 | 0=>0
 | j+1=>if least<=(j:Int)+1 then tot least many j+ff ((many.length:Int)-1) j*many.getD (many.length-(j+1)) 0 else tot least many j
def mbl (least most:Int):Nat->List Int
 | 0=>[1]
 | n+1=>mbl least most n ++ [tot least (mbl least most n) (min most ((n:Int)+1)).toNat]
def G (least most:Int) (n:Nat):Int:=(mbl least most n).getD n 0
def B:Int:=2 ^ 400
end M12
namespace M12
end M12
namespace M12
def sumN (F:Nat->Int):Nat->Int
 | 0=>0
 | n+1=>sumN F n+F n
def bin:Nat->Nat->Int
 | _,0=>1
 | 0,_+1=>0
 | n+1,m+1=>bin n m+bin n (m+1)
def term (g b:Nat->Int) (n m:Nat):Int:=bin n m*g m*b (n-m)
def fac:Nat->Int
 | 0=>1
 | n+1=>fac n*((n:Int)+1)
end M12
namespace M12
def tells (g b:List Int) (n:Nat):Nat->List Int
 | 0=>[]
 | m+1=>tells g b n m ++ [bin n m*g.getD m 0*b.getD (n-m) 0]
end M12
namespace M12
def inWin (o q p:Nat):Bool:=decide (p<=q/\q<p+o)
def stepM (n o:Nat) (v:Nat->Int) (q:Nat):Int :=
 (if q+1<=n then ((q:Int)+1)*v (q+1) else 0)+sumN (fun p=>if inWin o q p then v p else 0) (n+1)
def e0 (i:Nat):Int:=if i=0 then 1 else 0
end M12
namespace M12
section
variable (g b:Nat->Int)
def TT (l s:Nat):Int:=sumN (fun c=>term g b l c*ff (c:Int) s) (l+1)
variable {g b}
end
end M12
namespace M12
end M12
namespace M12
section
variable (g b:Nat->Int)
variable {g b}
end
end M12
namespace MR
def stepI (n:Nat) (rs:List (List Int)):List (List Int):=rs.flatMap fun r=>((List.range n).filter fun (x:Nat)=>!r.contains (x:Int)).map fun (x:Nat)=>r ++ [(x:Int)]
def ordsI (n:Nat):Nat->List (List Int)
 | 0=>[[]]
 | i+1=>stepI n (ordsI n i)
def H1:List (Nat×Nat):=[(57,1)]
def H2:List (Nat×Nat):=[(449,1),(751,1)]
def H3:List (Nat×Nat):=[(3487,1),(5601,1),(5553,1),(7717,2),(5595,1)]
def H4:List (Nat×Nat):=[(26811,1),(41609,1),(41273,1),(56421,2),(41567,1),(41225,1),(39216,3),(55737,2),(71229,6),(56325,2),(41267,1),(56409,2),(41561,1)]
def H5:List (Nat×Nat):=[(204485,1),(308071,1),(305719,1),(411755,2),(307777,1),(305383,1),(291320,3),(406967,2),(515411,6),(411083,2),(305677,1),(411671,2),(307735,1),(305335,1),(291272,3),(288920,3),(394956,2),(290978,3),(406283,2),(392220,2),(508211,6),(619057,24),(514385,6),(406871,2),(515267,6),(392514,2),(410987,2),(394572,2),(305377,1),(291314,3),(406955,2),(515393,6),(411071,2),(394914,2),(394614,2),(392556,2),(305671,1),(411659,2),(394908,2),(394620,2),(307729,1),(392562,2)]
def H6:List (Nat×Nat):=[(1549045,1),(2274147,1),(2257683,1),(2999935,2),(2272089,1),(2255331,1),(2156890,3),(2966419,2),(3725527,6),(2995231,2),(2257389,1),(2999347,2),(2271795,1),(2254995,1),(2156554,3),(2140090,3),(2882342,2),(2154496,3),(2961631,2),(2863190,2),(3675127,6),(4451049,24),(3718345,6),(2965747,2),(3724519,6),(2865248,2),(2994559,2),(2879654,2),(2255289,1),(2156848,3),(2966335,2),(3725401,6),(2995147,2),(2882048,2),(2879948,2),(2865542,2),(2257347,1),(2999263,2),(2882006,2),(2879990,2),(2271753,1),(2865584,2),(2254947,1),(2156506,3),(2140042,3),(2882294,2),(2154448,3),(2137690,3),(2039249,15),(2848778,2),(3607886,6),(2877590,2),(2139748,3),(2881706,2),(2154154,3),(2960947,2),(2862506,2),(2846042,2),(2764751,40),(2860448,2),(3667927,6),(3569486,6),(4383825,24),(5176555,120),(4441449,24),(3674101,6),(4449681,24),(3573602,6),(3717319,6),(3602414,6),(2961535,2),(2863094,2),(3674983,6),(4450857,24),(3718201,6),(2846336,2),(3603002,6),(2860742,2),(3574190,6),(2965651,2),(3724375,6),(2865152,2),(2848394,2),(3607118,6),(2864858,2),(2994463,2),(2879558,2),(2877206,2),(2879264,2),(2254989,1),(2156548,3),(2140084,3),(2882336,2),(2154490,3),(2961619,2),(2863178,2),(3675109,6),(4451025,24),(3718327,6),(2965735,2),(3724501,6),(2865236,2),(2994547,2),(2879642,2),(2848736,2),(3607802,6),(2877548,2),(2848436,2),(3607202,6),(2877248,2),(2881664,2),(2846378,2),(3603086,6),(2879306,2),(2860784,2),(3574274,6),(2864900,2),(2255283,1),(2156842,3),(2966323,2),(3725383,6),(2995135,2),(2882042,2),(2879936,2),(2865530,2),(2848730,2),(3607790,6),(2877542,2),(2848442,2),(3607214,6),(2877254,2),(2881958,2),(2879894,2),(2865488,2),(2257341,1),(2999251,2),(2881994,2),(2879984,2),(2881658,2),(2846384,2),(3603098,6),(2879312,2),(2881952,2),(2879900,2),(2271747,1),(2865578,2),(2860790,2),(3574286,6),(2864906,2),(2865494,2)]
def H (n:Nat):List (Nat×Nat):=match n with | 1=>H1 | 2=>H2 | 3=>H3 | 4=>H4 | 5=>H5 | _=>H6
def ins (c:Nat):List (Nat×Nat)->List (Nat×Nat)
 | []=>[(c,1)]
 | q::r=>if Nat.beq q.1 c then (q.1,q.2+1)::r else q::ins c r
def cnt:List (Nat×Nat)->(Nat->Bool)->Nat
 | [],_=>0
 | q::r,P=>(if P q.1 then q.2 else 0)+cnt r P
def dg (c i:Nat):Nat:=c / 7 ^ i%7
def fdC (k c p:Nat):Bool:=Nat.ble (dg c p) k
def gsm (ms:List Int) (s:Nat):Int:=((List.range ms.length).map fun (c:Nat)=>ms.getD c 0*M12.ff (c:Int) s).sum
def tl (n k:Nat):List Int:=M12.tells (M12.mbl 1 (k:Int) n) (M12.mbl ((k:Int)+1) n n) n (n+1)
def sub:Nat->Nat->List (List Nat)
 | _,0=>[[]]
 | a,m+1=>sub (a+1) m++(sub (a+1) m).map (a :: ·)
theorem bE:∀n,n<7->1<=n->∀k,k<n+2->∀g∈sub 0 n,gsm (tl n k) g.length / M12.ff (n:Int) g.length=((cnt (H n) fun c=>g.all (fdC (min k n) c):Nat):Int):=by decide +kernel
section
variable {n:Nat}{xs:List Int}
def cl {α:Type}(n:Nat) (f:α->Nat) (l:List α):List Int:=(List.range (n+1)).map fun j=>((l.countP fun x=>Nat.beq (f x) j:Nat):Int)
end
def stepT (n o:Nat) (l:List Int):List Int:=(List.range (n+1)).map fun q=>M12.stepM n o (fun p=>l.getD p 0) q
def allC (n:Nat) (os:List Nat) (c:Nat):Bool:=(List.range n).all fun p=>Nat.ble (dg c p) (os.getD p 0)
def sw (i c:Nat):Nat:=c-dg c i*7 ^ i-dg c (i+1)*7 ^ (i+1)+dg c (i+1)*7 ^ i+dg c i*7 ^ (i+1)
def tau (i p:Nat):Nat:=if p=i then i+1 else if p=i+1 then i else p
theorem yC5:∀n,n<7->∀i,i<n-1->((H n).map fun q=>(sw i q.1,q.2)).isPerm (H n)=true:=by decide +kernel
theorem xP3:∀n,n<7->∀i,i<n-1->∀q∈H n,∀p,p<n->dg (sw i q.1) p=dg q.1 (tau i p):=by decide +kernel
theorem yK6:∀n,n<7->1<=n->((ordsI n n).length:Int)=M12.fac n:=by decide +kernel
theorem yV2 {h h':List (Nat×Nat)}(p:h.Perm h') (P:Nat->Bool):cnt h P=cnt h' P:=by
 induction p with
 | nil=>rfl
 | cons q _ ih=>rw[cnt,cnt,ih]
 | swap a b l=>simp only[cnt];bv_omega
 | trans _ _ ih1 ih2=>rw[ih1,ih2]
theorem zI2 (f:Nat->Nat) (P:Nat->Bool):∀h:List (Nat×Nat),cnt (h.map fun q=>(f q.1,q.2)) P=cnt h fun c=>P (f c)
 | []=>rfl
 | q::h=>by rw[List.map_cons,cnt,cnt,zI2 f P h]
theorem aU {P Q:Nat->Bool}:∀{h:List (Nat×Nat)},(∀q∈h,P q.1=Q q.1)->cnt h P=cnt h Q
 | [],_=>rfl
 | q::h,e=>by rw[cnt,cnt,e q (List.mem_cons_self ..),aU fun x hx=>e x (List.mem_cons_of_mem _ hx)]
theorem yP1 {n:Nat}(h2:n<7) (pre:List Nat) (a b:Nat) (l:List Nat) (hl:(pre++a::b::l).length=n):cnt (H n) (allC n (pre++a::b::l))=cnt (H n) (allC n (pre++b::a::l)):=by
 have hi:pre.length<n-1:=by
  rw[List.length_append,List.length_cons,List.length_cons] at hl
  bv_omega
 have pm:=List.isPerm_iff.mp (yC5 n h2 pre.length hi)
 rw[<-yV2 pm,zI2]
 refine aU fun q hq => ?_
 have dq:=xP3 n h2 pre.length hi q hq
 have g1:∀p,(pre++a::b::l).getD p 0=(pre++b::a::l).getD (tau pre.length p) 0:=fun p=>by
  unfold tau
  by_cases e1:p=pre.length
  ·subst e1
   rw[if_pos rfl]
   simp[List.getD]
  ·rw[if_neg e1]
   by_cases e2:p=pre.length+1
   ·subst e2
    rw[if_pos rfl]
    simp[List.getD]
   ·rw[if_neg e2]
    rcases Nat.lt_or_ge p pre.length with h | h
    ·simp[List.getD,List.getElem?_append_left h]
    ·obtain⟨d,rfl⟩:∃d,p=pre.length+(d+2):=⟨p-pre.length-2,by bv_omega⟩
     rw[List.getD,List.getD,List.getElem?_append_right (by bv_omega),List.getElem?_append_right (by bv_omega),show pre.length+(d+2)-pre.length=d+2 by bv_omega]
     rfl
 have t1:∀p,p<n->tau pre.length p<n:=fun p hp=>by
  unfold tau
  split
  ·bv_omega
  ·split <;> bv_omega
 have t2:∀p,tau pre.length (tau pre.length p)=p:=fun p=>by
  unfold tau
  by_cases e1:p=pre.length
  ·subst e1;simp
  ·by_cases e2:p=pre.length+1
   ·subst e2;simp
   ·simp[e1,e2]
 unfold allC
 rw[Bool.eq_iff_iff,List.all_eq_true,List.all_eq_true]
 constructor
 ·intro h p hp
  have hp:=List.mem_range.mp hp
  have z:=h (tau pre.length p) (List.mem_range.mpr (t1 p hp))
  rw[dq _ (t1 p hp),t2,g1,t2] at z
  exact z
 ·intro h p hp
  have hp:=List.mem_range.mp hp
  have z:=h (tau pre.length p) (List.mem_range.mpr (t1 p hp))
  rw[dq p hp,g1]
  exact z
theorem xE {n:Nat}(h2:n<7){a b:List Nat}(p:a.Perm b):∀pre:List Nat,(pre++a).length=n->cnt (H n) (allC n (pre++a))=cnt (H n) (allC n (pre++b)):=by
 induction p with
 | nil=>intro pre _;rfl
 | cons x _ ih =>
  intro pre hl
  have:=ih (pre ++ [x]) (by simpa using hl)
  simpa using this
 | swap x y l=>intro pre hl;exact yP1 h2 pre y x l hl
 | trans p1 p2 ih1 ih2 =>
  intro pre hl
  rw[ih1 pre hl]
  exact ih2 pre (by rw[List.length_append,<-p1.length_eq,<-List.length_append];exact hl)
def fc:Nat->Nat
 | 0=>1
 | n+1=>(n+1)*fc n
theorem zB5:∀n,M12.fac n=((fc n:Nat):Int)
 | 0=>rfl
 | n+1=>by
  rw[M12.fac,zB5 n,fc]
  push_cast
  rw[Int.mul_comm]
def rk:List Int->List Int->Nat
 | _,[]=>0
 | l,x::xs=>l.idxOf x*fc (l.length-1)+rk (l.erase x) xs
theorem vN {α:Type} [BEq α] [LawfulBEq α]:∀(l m:List α),l.Nodup->(∀x∈l,x∈m)->m.length<=l.length->l.Perm m
 | [],m,_,_,h=>by
  have:m=[]:=List.eq_nil_of_length_eq_zero (by simpa using h)
  subst this
  exact List.Perm.refl _
 | x::l,m,nd,sub,h=>by
  have mx:=sub x (List.mem_cons_self ..)
  have nd':=List.nodup_cons.mp nd
  have le:(m.erase x).length=m.length-1:=List.length_erase_of_mem mx
  have ih:=vN l (m.erase x) nd'.2 (fun y hy=>(List.mem_erase_of_ne (fun e=>nd'.1 (by rw[<-e];exact hy))).mpr (sub y (List.mem_cons_of_mem _ hy))) (by rw[le];simp at h;bv_omega)
  exact (ih.cons x).trans (List.perm_cons_erase mx).symm
theorem fV {v:Int}:∀(p q:Nat) (A B:List Int),v∉A->v∉B->p<=A.length->q<=B.length->insAt A p v=insAt B q v->p=q/\A=B
 | 0,0,A,B,_,_,_,_,e=>⟨rfl,by simpa [insAt] using e⟩
 | 0,q+1,A,[],_,_,_,h,_=>by simp at h
 | 0,q+1,A,b::B,_,hb,_,_,e=>by
  simp only[insAt,List.take_zero,List.drop_zero,List.nil_append,List.take_succ_cons,List.drop_succ_cons,List.cons_append] at e
  exact absurd (List.mem_cons_self ..) (by rw[<-(List.cons.inj e).1] at hb;exact hb)
 | p+1,_,[],B,_,_,h,_,_=>by simp at h
 | p+1,0,a::A,B,ha,_,_,_,e=>by
  simp only[insAt,List.take_zero,List.drop_zero,List.nil_append,List.take_succ_cons,List.drop_succ_cons,List.cons_append] at e
  exact absurd (List.mem_cons_self ..) (by rw[(List.cons.inj e).1] at ha;exact ha)
 | p+1,q+1,a::A,[],_,_,_,h,_=>by simp at h
 | p+1,q+1,a::A,b::B,ha,hb,h,h',e=>by
  simp only[insAt,List.take_succ_cons,List.drop_succ_cons,List.cons_append] at e
  obtain⟨e1,e2⟩:=List.cons.inj e
  obtain⟨i1,i2⟩:=fV p q A B (fun z=>ha (List.mem_cons_of_mem _ z)) (fun z=>hb (List.mem_cons_of_mem _ z)) (by simpa using h) (by simpa using h') e2
  exact⟨by bv_omega,by rw[e1,i2]⟩
theorem zV3 (c:Nat):∀k,(lawOrd (c:Int) k).2=((c / fc k:Nat):Int)
 | 0=>by simp[lawOrd,fc]
 | k+1=>by
  rw[lawOrd,zV3 c k,fc,show ((k:Int)+1)=((k+1:Nat):Int) by bv_omega,Nat.mul_comm,<-Nat.div_div_eq_div_mul]
  rfl
theorem zM6 (c d:Nat):∀k,(lawOrd (c:Int) k).1=(lawOrd (d:Int) k).1->c%fc k=d%fc k
 | 0,_=>by rw[fc,Nat.mod_one,Nat.mod_one]
 | k+1,e=>by
  have nk:∀c:Int,(k:Int)∉(lawOrd c k).1:=fun c h=>by
   have:=zT1.mp ((jW c k).mem_iff.mp h)
   bv_omega
  have le:∀c:Nat,((lawOrd (c:Int) k).2%((k:Int)+1)).toNat=c / fc k%(k+1):=fun c=>by
   rw[zV3,show ((k:Int)+1)=((k+1:Nat):Int) by bv_omega]
   rfl
  have ln:∀c:Int,(lawOrd c k).1.length=k:=fun c=>(vY c k).len
  rw[lawOrd,lawOrd] at e
  simp only at e
  rw[le,le] at e
  have a1:=Nat.mod_lt (c / fc k) (show k+1 > 0 by bv_omega)
  have a2:=Nat.mod_lt (d / fc k) (show k+1 > 0 by bv_omega)
  obtain⟨p,q⟩:=fV _ _ _ _ (nk c) (nk d) (by rw[ln];bv_omega) (by rw[ln];bv_omega) e
  have ih:=zM6 c d k q
  rw[fc,Nat.mul_comm,Nat.mod_mul,Nat.mod_mul,ih,p]
theorem zV6 {n:Nat}{xs:List Int}(o:Ord n xs):∀i,i<=n->xs.take i∈ordsI n i
 | 0,_=>by simp[ordsI]
 | i+1,h=>by
  have ih:=zV6 o i (by bv_omega)
  have hl:=o.len
  have hi:i<xs.length:=by bv_omega
  have e:xs.take (i+1)=xs.take i ++ [((nxt xs i:Nat):Int)]:=by
   rw[List.take_succ,List.getElem?_eq_getElem hi,<-o.yM (by bv_omega)]
   simp[List.getD,hi]
  rw[ordsI,stepI,List.mem_flatMap]
  refine⟨_,ih,List.mem_map.mpr ⟨nxt xs i,List.mem_filter.mpr ⟨List.mem_range.mpr (o.xZ (by bv_omega)),?_⟩,e.symm⟩⟩
  rw[Bool.not_eq_true',<-Bool.not_eq_true,List.contains_iff_mem]
  intro z
  obtain⟨j,hj,ej⟩:=List.mem_iff_getElem.mp z
  rw[List.length_take] at hj
  rw[List.getElem_take] at ej
  have:xs.getD j 0=xs.getD i 0:=by
   rw[o.yM (show i<n by bv_omega),<-ej]
   simp[List.getD,show j<xs.length by bv_omega]
  have:=o.inj j i (by bv_omega) (by bv_omega) this
  bv_omega
theorem dE {n:Nat}{xs:List Int}(o:Ord n xs):xs∈ordsI n n:=by
 have:=zV6 o n (Nat.le_refl n)
 rwa [List.take_of_length_le (by rw[o.len];exact Nat.le_refl n)] at this
theorem zH9 {n:Nat}(h1:1<=n) (h2:n<7){xs:List Int}(o:Ord n xs):((List.range (fc n)).map fun (i:Nat)=>cmpO n (lawOrd (i:Int) n).1 xs).Perm (ordsI n n):=by
 have L:=yK6 n h2 h1
 rw[zB5] at L
 refine vN _ _ ?_ (fun y hy => ?_) (by rw[List.length_map,List.length_range];bv_omega)
 ·unfold List.Nodup
  rw[List.pairwise_map]
  refine List.Pairwise.imp_of_mem ?_ (List.pairwise_lt_range (n:=fc n))
  intro i j hi hj lt e
  have oi:=vY (i:Int) n
  have oj:=vY (j:Int) n
  have q:(lawOrd (i:Int) n).1=(lawOrd (j:Int) n).1:=Ord.ext oi oj fun b hb=>by
   have:=congrArg (fun l=>nxt l b) e
   simp only[yR8 hb] at this
   exact o.vD (oi.xZ hb) (oj.xZ hb) this
  have m:=zM6 i j n q
  rw[Nat.mod_eq_of_lt (List.mem_range.mp hi),Nat.mod_eq_of_lt (List.mem_range.mp hj)] at m
  bv_omega
 ·obtain⟨i,_,rfl⟩:=List.mem_map.mp hy
  exact dE (yU3 (vY _ n) o)
def allO:Nat->List (List Int)
 | 0=>[[]]
 | k+1=>(allO k).flatMap fun r=>(List.range (r.length+1)).map fun j=>insAt r j (k:Int)
def fac:Nat->Nat
 | 0=>1
 | k+1=>(k+1)*fac k
theorem gY:∀n,∀xs∈allO n,xs.Perm (rg n)
 | 0,xs,h=>by
  have:xs=[]:=by simpa [allO] using h
  rw[this]
  exact List.Perm.nil
 | k+1,xs,h=>by
  rw[allO] at h
  obtain⟨r,hr,h⟩:=List.mem_flatMap.mp h
  obtain⟨j,_,rfl⟩:=List.mem_map.mp h
  have p:=gY k r hr
  refine (cT r j (k:Int)).trans ((p.cons _).trans ?_)
  have e:rg (k+1)=rg k ++ [(k:Int)]:=by
   unfold rg
   rw[List.range_succ,List.map_append]
   rfl
  rw[e]
  exact (List.perm_append_singleton _ _).symm
theorem fZ {n:Nat}{xs:List Int}(h:xs∈allO n):Ord n xs:=jU (gY n xs h)
theorem aP (c:Nat):∀l:List Nat,(∀x∈l,x=c)->l.sum=l.length*c
 | [],_=>by simp
 | x::l,h=>by
  rw[List.sum_cons,aP c l fun y hy=>h y (List.mem_cons_of_mem _ hy),h x (List.mem_cons_self ..),List.length_cons,Nat.add_mul,Nat.one_mul,Nat.add_comm]
theorem fX:∀n,(allO n).length=fac n
 | 0=>rfl
 | k+1=>by
  rw[allO,List.length_flatMap,aP (k+1),List.length_map,fX k,fac,Nat.mul_comm]
  intro x hx
  obtain⟨r,hr,rfl⟩:=List.mem_map.mp hx
  rw[List.length_map,List.length_range,(fZ hr).len]
theorem hV:∀n,(allO n).Nodup
 | 0=>by simp[allO]
 | k+1=>by
  have no:∀r∈allO k,(k:Int)∉r:=fun r hr h=>by
   have:=(gY k r hr).mem_iff.mp h
   unfold rg at this
   obtain⟨i,hi,e⟩:=List.mem_map.mp this
   have:=List.mem_range.mp hi
   bv_omega
  rw[allO]
  refine List.pairwise_flatMap.mpr ⟨fun r hr => ?_,?_⟩
  ·refine List.pairwise_map.mpr (List.Pairwise.imp_of_mem (fun {i j} hi hj h e=>h ?_) List.nodup_range)
   have:=List.mem_range.mp hi
   have:=List.mem_range.mp hj
   exact (fV i j r r (no r hr) (no r hr) (by bv_omega) (by bv_omega) e).1
  ·refine List.Pairwise.imp_of_mem (fun {r s} hr hs h => ?_) (hV k)
   intro x hx y hy exy
   subst exy
   obtain⟨i,hi,e1⟩:=List.mem_map.mp hx
   obtain⟨j,hj,e2⟩:=List.mem_map.mp hy
   have:=List.mem_range.mp hi
   have:=List.mem_range.mp hj
   exact h (fV i j r s (no r hr) (no s hs) (by bv_omega) (by bv_omega) (e1.trans e2.symm)).2
structure AllOrd (n:Nat) (L:List (List Int)):Prop where
 nd:L.Nodup
 mem:∀xs,xs∈L↔Ord n xs
 len:L.length=fac n
theorem zJ8 {n:Nat}(h1:1<=n) (h2:n<7):AllOrd n (allO n):=by
 have fcf:∀k,fc k=fac k:=fun k=>by
  induction k with
  | zero=>rfl
  | succ k ih=>rw[fac,fc,ih,Nat.mul_comm]
 have le:(ordsI n n).length=fac n:=by
  have:=(zH9 h1 h2 (vY 0 n)).length_eq
  rw[List.length_map,List.length_range,fcf] at this
  exact this.symm
 have p:=vN (allO n) (ordsI n n) (hV n) (fun x hx=>dE (fZ hx)) (by rw[fX,le];exact Nat.le_refl _)
 exact⟨hV n,fun xs=>⟨fZ,fun o=>p.mem_iff.mpr (dE o)⟩,fX n⟩
theorem yQ1 {n:Nat}{ms:List Nat}(nd:ms.Nodup) (h:∀m∈ms,m<n):((List.range n).filter fun m=>!ms.contains m).length+ms.length=n:=by
 have p:(((List.range n).filter fun m=>!ms.contains m)++ms).Perm (List.range n):=by
  refine (List.perm_ext_iff_of_nodup (List.nodup_append.mpr ⟨List.nodup_range.sublist List.filter_sublist,nd,fun x hx y hy e => ?_⟩) List.nodup_range).mpr fun x => ?_
  ·have:=(List.mem_filter.mp hx).2
   rw[e] at this
   simp at this
   exact this hy
  ·rw[List.mem_append,List.mem_filter,List.mem_range]
   constructor
   ·rintro (z | z)
    ·exact z.1
    ·exact h x z
   ·intro hx
    by_cases z:x∈ms
    ·exact .inr z
    ·exact .inl ⟨hx,by simpa using z⟩
 have:=p.length_eq
 rw[List.length_append,List.length_range] at this
 exact this
section
variable {τ:Type}(bx:τ->Option Nat) (nx:τ->Nat->τ) (n:Nat)
inductive Tk:Nat->τ->Prop
 | leaf {l:Nat}{t:τ}:bx t=none->Tk l t
 | node {l b:Nat}{t:τ}:bx t=some b->b<n->(∀x,x<n->Tk l (nx t x))->Tk (l+1) t
abbrev Rv:=Nat×Nat×Nat
variable (g:Nat->Nat->Nat)
inductive Tn (p:Nat):Nat->τ->Nat->List (Option Nat)->List Rv->List (Option Nat)->Prop
 | done {t:τ}{l:Nat}{seen:List (Option Nat)}:some p∈seen->Tn p 0 t l seen [] seen
 | leafN {k:Nat}{t:τ}{l b:Nat}{seen out:List (Option Nat)}{rs:List Rv}:some p∉seen->bx t=none->seen[b]?=some none->(∀i,i<b->seen[i]?≠some none)->Tn p k t (g b l) (seen.set b (some (g b l))) rs out->Tn p (k+1) t l seen ((b,l,g b l)::rs) out
 | nodeN {k:Nat}{t:τ}{l b:Nat}{seen out:List (Option Nat)}{rs:List Rv}:some p∉seen->bx t=some b->seen[b]?=some none->Tn p k (nx t (g b l)) (g b l) (seen.set b (some (g b l))) rs out->Tn p (k+1) t l seen ((b,l,g b l)::rs) out
 | nodeO {k:Nat}{t:τ}{l b x:Nat}{seen out:List (Option Nat)}{rs:List Rv}:some p∉seen->bx t=some b->seen[b]?=some (some x)->Tn p k (nx t x) l seen rs out->Tn p (k+1) t l seen rs out
variable {bx nx n g}
theorem Tn.agree {g':Nat->Nat->Nat}{p k:Nat}{t:τ}{l:Nat}{seen out:List (Option Nat)}{rs:List Rv}(h:Tn bx nx g p k t l seen rs out) (e:∀r∈rs,g' r.1 r.2.1=r.2.2):Tn bx nx g' p k t l seen rs out:=by
 induction h with
 | done h=>exact .done h
 | leafN h1 h2 h3 h4 _ ih =>
  have e0:=e _ List.mem_cons_self
  simp only at e0
  have:=ih fun r hr=>e r (List.mem_cons_of_mem _ hr)
  rw[<-e0] at this ⊢
  exact .leafN h1 h2 h3 h4 this
 | nodeN h1 h2 h3 _ ih =>
  have e0:=e _ List.mem_cons_self
  simp only at e0
  have:=ih fun r hr=>e r (List.mem_cons_of_mem _ hr)
  rw[<-e0] at this ⊢
  exact .nodeN h1 h2 h3 this
 | nodeO h1 h2 h3 _ ih=>exact .nodeO h1 h2 h3 (ih e)
theorem Tn.det {p k k':Nat}{t:τ}{l:Nat}{seen out out':List (Option Nat)}{rs rs':List Rv}(h:Tn bx nx g p k t l seen rs out) (h':Tn bx nx g p k' t l seen rs' out'):rs=rs'/\out=out':=by
 induction h generalizing k' rs' out' with
 | done h =>
  cases h' with
  | done _=>exact⟨rfl,rfl⟩
  | leafN h1=>exact absurd h h1
  | nodeN h1=>exact absurd h h1
  | nodeO h1=>exact absurd h h1
 | @leafN k t l b seen out rs h1 h2 h3 h4 _ ih =>
  cases h' with
  | done h=>exact absurd h h1
  | @leafN _ _ _ b' _ _ _ _ _ g3 g4 q =>
   have:b=b':=by
    rcases Nat.lt_trichotomy b b' with z | z | z
    ·exact absurd h3 (g4 b z)
    ·exact z
    ·exact absurd g3 (h4 b' z)
   subst this
   obtain⟨e1,e2⟩:=ih q
   exact⟨by rw[e1],e2⟩
  | nodeN _ g2=>rw[h2] at g2;cases g2
  | nodeO _ g2=>rw[h2] at g2;cases g2
 | @nodeN k t l b seen out rs h1 h2 h3 _ ih =>
  cases h' with
  | done h=>exact absurd h h1
  | leafN _ g2=>rw[h2] at g2;cases g2
  | nodeN _ g2 _ q =>
   rw[h2] at g2;cases g2
   obtain⟨e1,e2⟩:=ih q
   exact⟨by rw[e1],e2⟩
  | nodeO _ g2 g3=>rw[h2] at g2;cases g2;rw[h3] at g3;cases g3
 | @nodeO k t l b x seen out rs h1 h2 h3 _ ih =>
  cases h' with
  | done h=>exact absurd h h1
  | leafN _ g2=>rw[h2] at g2;cases g2
  | nodeN _ g2 g3=>rw[h2] at g2;cases g2;rw[h3] at g3;cases g3
  | nodeO _ g2 g3 q =>
   rw[h2] at g2;cases g2
   rw[h3] at g3;cases g3
   exact ih q
variable (n)
structure Sd (seen:List (Option Nat)) (used:List Nat):Prop where
 len:seen.length=n
 inj:∀(i j x:Nat),seen[i]?=some (some x)->seen[j]?=some (some x)->i=j
 lt:∀(i x:Nat),seen[i]?=some (some x)->x<n
 und:used.Nodup
 rel:∀y,y∈used↔some y∈seen
structure Md (p l:Nat) (seen:List (Option Nat)) (used:List Nat):Prop where
 len:seen.length=n
 inj:∀(i j x:Nat),seen[i]?=some (some x)->seen[j]?=some (some x)->i=j
 lt:∀(i x:Nat),seen[i]?=some (some x)->x<n
 und:used.Nodup
 pn:p<n
 np:some p∉seen
 nl:l∉used
 rel:∀y,(y∈used\/y=l)↔(some y∈seen\/y=p)
variable {n}
theorem Md.ll {p l:Nat}{seen:List (Option Nat)}{used:List Nat}(M:Md n p l seen used):l<n:=by
 rcases (M.rel l).mp (.inr rfl) with h | h
 ·obtain⟨i,hi,e⟩:=List.getElem_of_mem h
  exact M.lt i l (by rw[List.getElem?_eq_getElem hi,e])
 ·rw[h];exact M.pn
theorem Md.ult {p l:Nat}{seen:List (Option Nat)}{used:List Nat}(M:Md n p l seen used):∀u∈used,u<n:=fun u hu=>by
 rcases (M.rel u).mp (.inl hu) with h | h
 ·obtain⟨i,hi,e⟩:=List.getElem_of_mem h
  exact M.lt i u (by rw[List.getElem?_eq_getElem hi,e])
 ·rw[h];exact M.pn
theorem Md.few {p l:Nat}{seen:List (Option Nat)}{used:List Nat}(M:Md n p l seen used):used.length<n:=by
 have:=yQ1 (n:=n) (ms:=l::used) (List.nodup_cons.mpr ⟨M.nl,M.und⟩) (fun m hm=>by
  rcases List.mem_cons.mp hm with rfl | hm
  ·exact M.ll
  ·exact M.ult m hm)
 rw[List.length_cons] at this
 bv_omega
theorem zI {seen:List (Option Nat)}{b i:Nat}{x:Nat}(hb:b<seen.length):(seen.set b (some x))[i]?=if i=b then some (some x) else seen[i]?:=by
 rw[List.getElem?_set]
 by_cases e:b=i
 ·subst e;rw[if_pos rfl,if_pos rfl,if_pos hb]
 ·rw[if_neg e,if_neg (fun z=>e z.symm)]
theorem bA {seen:List (Option Nat)}{b x y:Nat}(hb:seen[b]?=some none):some y∈seen.set b (some x)↔(some y∈seen\/y=x):=by
 have hl:b<seen.length:=(List.getElem?_eq_some_iff.mp hb).1
 constructor
 ·intro h
  obtain⟨i,hi,e⟩:=List.getElem_of_mem h
  have e2:(seen.set b (some x))[i]?=some (some y):=by rw[List.getElem?_eq_getElem hi,e]
  rw[zI hl] at e2
  split at e2
  ·cases e2;exact .inr rfl
  ·exact .inl (List.mem_of_getElem? e2)
 ·intro h
  rcases h with h | h
  ·obtain⟨i,hi,e⟩:=List.getElem_of_mem h
   have e1:seen[i]?=some (some y):=by rw[List.getElem?_eq_getElem hi,e]
   refine List.mem_of_getElem? (i:=i) ?_
   rw[zI hl,if_neg (fun z=>by rw[z,hb] at e1;cases e1)]
   exact e1
  ·refine List.mem_of_getElem? (i:=b) ?_
   rw[zI hl,if_pos rfl,h]
theorem zK4 {seen:List (Option Nat)}{b x:Nat}(hb:seen[b]?=some none) (inj:∀(i j x:Nat),seen[i]?=some (some x)->seen[j]?=some (some x)->i=j) (nx:some x∉seen):∀(i j y:Nat),(seen.set b (some x))[i]?=some (some y)->(seen.set b (some x))[j]?=some (some y)->i=j:=fun i j y h1 h2=>by
 have hl:b<seen.length:=(List.getElem?_eq_some_iff.mp hb).1
 rw[zI hl] at h1 h2
 split at h1 <;> split at h2
 ·bv_omega
 ·cases h1;exact absurd (List.mem_of_getElem? h2) nx
 ·cases h2;exact absurd (List.mem_of_getElem? h1) nx
 ·exact inj i j y h1 h2
theorem uJ {seen:List (Option Nat)}{b x:Nat}(hb:seen[b]?=some none) (lt:∀(i x:Nat),seen[i]?=some (some x)->x<n) (hx:x<n):∀(i y:Nat),(seen.set b (some x))[i]?=some (some y)->y<n:=fun i y h=>by
 have hl:b<seen.length:=(List.getElem?_eq_some_iff.mp hb).1
 rw[zI hl] at h
 split at h
 ·cases h;exact hx
 ·exact lt i y h
theorem Md.on {p l b x:Nat}{seen:List (Option Nat)}{used:List Nat}(M:Md n p l seen used) (hb:seen[b]?=some none) (hx:x<n) (nx:some x∉seen) (xp:x≠p):Md n p x (seen.set b (some x)) (l::used) where
 len:=by rw[List.length_set];exact M.len
 inj:=zK4 hb M.inj nx
 lt:=uJ hb M.lt hx
 und:=List.nodup_cons.mpr ⟨M.nl,M.und⟩
 pn:=M.pn
 np:=fun h=>((bA hb).mp h).elim M.np fun e=>xp e.symm
 nl:=fun h=>by
  have:x∈used\/x=l:=(List.mem_cons.mp h).symm
  exact ((M.rel x).mp this).elim nx xp
 rel:=fun y=>by
  rw[List.mem_cons,bA hb]
  have:=M.rel y
  constructor
  ·rintro ((h | h) | h)
   ·exact ((this.mp (.inr h)).elim (fun z=>.inl (.inl z)) .inr)
   ·exact ((this.mp (.inl h)).elim (fun z=>.inl (.inl z)) .inr)
   ·exact .inl (.inr h)
  ·rintro ((h | h) | h)
   ·exact .inl ((this.mpr (.inl h)).elim .inr .inl)
   ·exact .inr h
   ·exact .inl ((this.mpr (.inr h)).elim .inr .inl)
theorem Md.end' {p l b:Nat}{seen:List (Option Nat)}{used:List Nat}(M:Md n p l seen used) (hb:seen[b]?=some none):Sd n (seen.set b (some p)) (l::used) where
 len:=by rw[List.length_set];exact M.len
 inj:=zK4 hb M.inj M.np
 lt:=uJ hb M.lt M.pn
 und:=List.nodup_cons.mpr ⟨M.nl,M.und⟩
 rel:=fun y=>by
  rw[List.mem_cons,bA hb]
  have:=M.rel y
  exact⟨fun h=>this.mp h.symm,fun h=>(this.mpr h).symm⟩
theorem Sd.md {p:Nat}{seen:List (Option Nat)}{used:List Nat}(S:Sd n seen used) (hp:p<n) (np:some p∉seen):Md n p p seen used :=
 ⟨S.len,S.inj,S.lt,S.und,hp,np,fun h=>np ((S.rel p).mp h),fun y=>by rw[S.rel y]⟩
theorem Md.closed {p l:Nat}{seen:List (Option Nat)}{used:List Nat}(M:Md n p l seen used):∃b:Nat,seen[b]?=some none/\∀i:Nat,i<b->seen[i]?≠some none:=by
 have:∃b:Nat,seen[b]?=some none:=by
  by_cases h:∃b:Nat,seen[b]?=some none
  ·exact h
  ·exfalso
   have all:∀i:Nat,i<n->∃x,seen[i]?=some (some x):=fun i hi=>by
    have hi':i<seen.length:=by rw[M.len];exact hi
    cases e:seen[i] with
    | none=>exact absurd ⟨i,by rw[List.getElem?_eq_getElem hi',e]⟩ h
    | some x=>exact⟨x,by rw[List.getElem?_eq_getElem hi',e]⟩
   have key:∀i:Nat,i<n->seen[i]?=some (some (((seen[i]?).join).getD 0)):=fun i hi=>by
    obtain⟨x,e⟩:=all i hi
    rw[e]
    rfl
   obtain⟨i,hi,e⟩:=MR.onto (n:=n) (f:=fun i:Nat=>((seen[i]?).join).getD 0) (fun i hi=>M.lt i _ (key i hi)) (fun i j hi hj e=>M.inj i j _ (key i hi) (by rw[key j hj];rw[show ((seen[i]?).join).getD 0=((seen[j]?).join).getD 0 from e])) M.pn
   have:=key i hi
   rw[show ((seen[i]?).join).getD 0=p from e] at this
   exact M.np (List.mem_of_getElem? this)
 obtain⟨m,h1,h2⟩:=yB8 n this
 exact⟨m,h1,fun i hi z=>by have:=h2 i z;bv_omega⟩
inductive Chn (p:Nat):Nat->List Rv->Prop
 | last {b l:Nat}:Chn p l [(b,l,p)]
 | cons {b l x:Nat}{rs:List Rv}:x≠p->Chn p x rs->Chn p l ((b,l,x)::rs)
abbrev las (rs:List Rv):List Nat:=rs.map fun r=>r.2.1
structure Lv (seen out:List (Option Nat)) (rs:List Rv):Prop where
 keep:∀(i x:Nat),seen[i]?=some (some x)->out[i]?=some (some x)
 shown:∀r∈rs,out[r.1]?=some (some r.2.2)
 val:∀r∈rs,g r.1 r.2.1=r.2.2
variable (n)
def Or (J:List (Option Nat)->List Nat->Prop) (g:Nat->Nat->Nat):Prop:=∀(seen:List (Option Nat)) (used:List Nat) (b l:Nat),J seen used->seen.length=n->seen[b]?=some none->l<n->l∉used->g b l<n/\some (g b l)∉seen/\J (seen.set b (some (g b l))) (l::used)
variable {n}
theorem gX {J:List (Option Nat)->List Nat->Prop}(hJ:Or n J g):∀(m d:Nat){p l:Nat}{t:τ}{seen:List (Option Nat)}{used:List Nat},d+(n-used.length)<=m->Md n p l seen used->J seen used->Tk bx nx n d t ->
  ∃k rs out,Tn bx nx g p k t l seen rs out/\k<=m/\Sd n out ((las rs).reverse++used)/\J out ((las rs).reverse++used)/\Chn p l rs/\Lv (g:=g) seen out rs/\some p∈out
 | 0,d,p,l,t,seen,used,hm,M,j,T=>by have:=M.few;bv_omega
 | m+1,d,p,l,t,seen,used,hm,M,j,T=>by
  have fw:=M.few
  have step:∀(b:Nat) (t':τ) (d':Nat),seen[b]?=some none->d'<=d->Tk bx nx n d' t'->∃k rs out,Tn bx nx g p k t' (g b l) (seen.set b (some (g b l))) rs out/\k<=m/\Sd n out ((las ((b,l,g b l)::rs)).reverse++used)/\J out ((las ((b,l,g b l)::rs)).reverse++used)/\Chn p l ((b,l,g b l)::rs)/\Lv (g:=g) seen out ((b,l,g b l)::rs)/\some p∈out:=fun b t' d' hb hd T'=>by
   obtain⟨x1,x2,x3⟩:=hJ seen used b l j M.len hb M.ll M.nl
   have hl:b<seen.length:=(List.getElem?_eq_some_iff.mp hb).1
   have kp:∀(i x:Nat),seen[i]?=some (some x)->(seen.set b (some (g b l)))[i]?=some (some x):=fun i x e=>by
    rw[zI hl,if_neg (fun z=>by rw[z,hb] at e;cases e)]
    exact e
   have here:(seen.set b (some (g b l)))[b]?=some (some (g b l)):=by rw[zI hl,if_pos rfl]
   by_cases xp:g b l=p
   ·have S:=M.end' hb
    rw[<-xp] at S
    refine⟨0,[],_,.done ?_,Nat.zero_le _,S,x3,?_,⟨kp,?_,?_⟩,?_⟩
    ·exact List.mem_of_getElem? (i:=b) (by rw[here,xp])
    ·rw[xp];exact .last
    ·intro r hr
     rw[List.mem_singleton.mp hr]
     exact here
    ·intro r hr
     rw[List.mem_singleton.mp hr]
    ·exact List.mem_of_getElem? (i:=b) (by rw[here,xp])
   ·have M':=M.on hb x1 x2 xp
    obtain⟨k,rs,out,h1,h2,h3,h4,h5,h6,h7⟩:=gX hJ m d' (p:=p) (l:=g b l) (t:=t') (seen:=seen.set b (some (g b l))) (used:=l::used) (by rw[List.length_cons];bv_omega) M' x3 T'
    have eu:(las ((b,l,g b l)::rs)).reverse++used=(las rs).reverse++l::used:=by simp[las]
    refine⟨k,rs,out,h1,h2,by rw[eu];exact h3,by rw[eu];exact h4,.cons xp h5,⟨fun i x e=>h6.keep i x (kp i x e),fun r hr => ?_,fun r hr => ?_⟩,h7⟩
    ·rcases List.mem_cons.mp hr with rfl | hr
     ·exact h6.keep b _ here
     ·exact h6.shown r hr
    ·rcases List.mem_cons.mp hr with rfl | hr
     ·rfl
     ·exact h6.val r hr
  cases T with
  | leaf h =>
   obtain⟨b,hb,hf⟩:=M.closed
   obtain⟨k,rs,out,h1,h2,r⟩:=step b t 0 hb (Nat.zero_le _) (.leaf h)
   exact⟨k+1,_,out,.leafN M.np h hb hf h1,by bv_omega,r⟩
  | @node d b _ hbx hbn T' =>
   cases e:seen[b]? with
   | none=>rw[List.getElem?_eq_getElem (by rw[M.len];exact hbn)] at e;cases e
   | some z =>
    cases z with
    | none =>
     obtain⟨x1,_,_⟩:=hJ seen used b l j M.len e M.ll M.nl
     obtain⟨k,rs,out,h1,h2,r⟩:=step b (nx t (g b l)) d e (by bv_omega) (T' _ x1)
     exact⟨k+1,_,out,.nodeN M.np hbx e h1,by bv_omega,r⟩
    | some x =>
     obtain⟨k,rs,out,h1,h2,r⟩:=gX hJ m d (p:=p) (l:=l) (t:=nx t x) (seen:=seen) (used:=used) (by bv_omega) M j (T' x (M.lt b x e))
     exact⟨k+1,rs,out,.nodeO M.np hbx e h1,by bv_omega,r⟩
inductive Gm (bx:τ->Option Nat) (nx:τ->Nat->τ) (g:Nat->Nat->Nat) (T:Nat->τ):List Nat->List (Option Nat)->List (Nat×List Rv)->List (Option Nat)->Prop
 | nil {seen:List (Option Nat)}:Gm bx nx g T [] seen [] seen
 | skip {p:Nat}{ps:List Nat}{seen fin:List (Option Nat)}{out:List (Nat×List Rv)}:some p∈seen->Gm bx nx g T ps seen out fin->Gm bx nx g T (p::ps) seen out fin
 | play {p k:Nat}{ps:List Nat}{seen mid fin:List (Option Nat)}{rs:List Rv}{out:List (Nat×List Rv)}:some p∉seen->Tn bx nx g p k (T p) p seen rs mid->Gm bx nx g T ps mid out fin->Gm bx nx g T (p::ps) seen ((p,rs)::out) fin
abbrev allR (out:List (Nat×List Rv)):List Rv:=out.flatMap fun z=>z.2
theorem Gm.agree {T:Nat->τ}{g':Nat->Nat->Nat}{ps:List Nat}{seen fin:List (Option Nat)}{out:List (Nat×List Rv)}(h:Gm bx nx g T ps seen out fin) (e:∀r∈allR out,g' r.1 r.2.1=r.2.2):Gm bx nx g' T ps seen out fin:=by
 induction h with
 | nil=>exact .nil
 | skip h _ ih=>exact .skip h (ih e)
 | play h t _ ih =>
  refine .play h (t.agree fun r hr=>e r ?_) (ih fun r hr=>e r ?_)
  ·rw[allR,List.flatMap_cons];exact List.mem_append_left _ hr
  ·rw[allR,List.flatMap_cons];exact List.mem_append_right _ hr
theorem Gm.det {T:Nat->τ}{ps:List Nat}{seen fin fin':List (Option Nat)}{out out':List (Nat×List Rv)}(h:Gm bx nx g T ps seen out fin) (h':Gm bx nx g T ps seen out' fin'):out=out'/\fin=fin':=by
 induction h generalizing out' fin' with
 | nil=>cases h';exact⟨rfl,rfl⟩
 | skip h _ ih =>
  cases h' with
  | skip _ q=>exact ih q
  | play n=>exact absurd h n
 | play n t _ ih =>
  cases h' with
  | skip h=>exact absurd h n
  | play _ t' q =>
   obtain⟨e1,e2⟩:=t.det t'
   subst e1 e2
   obtain⟨e3,e4⟩:=ih q
   exact⟨by rw[e3],e4⟩
structure Gv (seen fin:List (Option Nat)) (out:List (Nat×List Rv)):Prop where
 keep:∀(i x:Nat),seen[i]?=some (some x)->fin[i]?=some (some x)
 shown:∀r∈allR out,fin[r.1]?=some (some r.2.2)
 val:∀r∈allR out,g r.1 r.2.1=r.2.2
 chn:∀z∈out,Chn z.1 z.1 z.2
theorem gL {J:List (Option Nat)->List Nat->Prop}(hJ:Or n J g){T:Nat->τ}{R:Nat->Nat->Prop}(hT:∀p,p<n->∃d,d<=n/\Tk bx nx n d (T p)) (rr:∀p,R p p):∀(ps:List Nat){seen:List (Option Nat)}{used:List Nat},(∀p∈ps,p<n)->ps.Pairwise R->Sd n seen used->J seen used->(∀y,y<n->some y∈seen\/y∈ps) ->
  ∃out fin,Gm bx nx g T ps seen out fin/\Sd n fin ((las (allR out)).reverse++used)/\J fin ((las (allR out)).reverse++used)/\Gv (g:=g) seen fin out/\(∀z∈out,z.1<n/\∀r∈z.2,R z.1 r.2.1)/\∀y,y<n->some y∈fin
 | [],seen,used,hp,pw,S,j,al=>⟨[],seen,.nil,S,j,⟨fun _ _ e=>e,fun r hr=>(nomatch hr),fun r hr=>(nomatch hr),fun z hz=>(nomatch hz)⟩,fun z hz=>(nomatch hz),fun y hy=>(al y hy).elim id fun h=>(nomatch h)⟩
 | p::ps,seen,used,hp,pw,S,j,al=>by
  obtain⟨pw1,pw2⟩:=List.pairwise_cons.mp pw
  have hpn:=hp p List.mem_cons_self
  by_cases h:some p∈seen
  ·obtain⟨out,fin,h1,h2,h3,h4,h5,h6⟩:=gL hJ hT rr ps (fun q hq=>hp q (List.mem_cons_of_mem _ hq)) pw2 S j fun y hy=>(al y hy).elim .inl fun z=>by
    rcases List.mem_cons.mp z with rfl | z
    ·exact .inl h
    ·exact .inr z
   exact⟨out,fin,.skip h h1,h2,h3,h4,h5,h6⟩
  ·obtain⟨d,hd,Tp⟩:=hT p hpn
   obtain⟨k,rs,mid,t1,t2,t3,t4,t5,t6,t7⟩:=gX hJ (d+n) d (p:=p) (l:=p) (t:=T p) (seen:=seen) (used:=used) (by bv_omega) (S.md hpn h) j Tp
   obtain⟨out,fin,h1,h2,h3,h4,h5,h6⟩:=gL hJ hT rr ps (fun q hq=>hp q (List.mem_cons_of_mem _ hq)) pw2 t3 t4 fun y hy=>(al y hy).elim (fun z=>by
    obtain⟨i,hi,e⟩:=List.getElem_of_mem z
    exact .inl (List.mem_of_getElem? (t6.keep i y (by rw[List.getElem?_eq_getElem hi,e])))) fun z=>by
    rcases List.mem_cons.mp z with rfl | z
    ·exact .inl t7
    ·exact .inr z
   have ea:allR ((p,rs)::out)=rs++allR out:=by rw[allR,List.flatMap_cons]
   have eu:(las (allR ((p,rs)::out))).reverse++used=(las (allR out)).reverse++((las rs).reverse++used):=by rw[ea,las,List.map_append,List.reverse_append,List.append_assoc]
   refine⟨(p,rs)::out,fin,.play h t1 h1,by rw[eu];exact h2,by rw[eu];exact h3,⟨fun i x e=>h4.keep i x (t6.keep i x e),fun r hr => ?_,fun r hr => ?_,fun z hz => ?_⟩,fun z hz => ?_,h6⟩
   ·rw[ea] at hr
    rcases List.mem_append.mp hr with hr | hr
    ·exact h4.keep _ _ (t6.shown r hr)
    ·exact h4.shown r hr
   ·rw[ea] at hr
    rcases List.mem_append.mp hr with hr | hr
    ·exact t6.val r hr
    ·exact h4.val r hr
   ·rcases List.mem_cons.mp hz with rfl | hz
    ·exact t5
    ·exact h4.chn z hz
   ·rcases List.mem_cons.mp hz with rfl | hz
    ·refine⟨hpn,fun r hr => ?_⟩
     have un:r.2.1∉used:=fun z=>by
      have:=t3.und
      rw[List.nodup_append] at this
      exact this.2.2 r.2.1 (List.mem_reverse.mpr (List.mem_map.mpr ⟨r,hr,rfl⟩)) r.2.1 z rfl
     have ns:some r.2.1∉seen:=fun z=>un ((S.rel _).mpr z)
     have lt:r.2.1<n:=by
      have m:r.2.1∈(las rs).reverse++used:=List.mem_append_left _ (List.mem_reverse.mpr (List.mem_map.mpr ⟨r,hr,rfl⟩))
      obtain⟨i,hi,e⟩:=List.getElem_of_mem ((t3.rel _).mp m)
      exact t3.lt i _ (by rw[List.getElem?_eq_getElem hi,e])
     rcases (al _ lt).resolve_left ns |> List.mem_cons.mp with e | e
     ·show R p r.2.1
      rw[e];exact rr p
     ·exact pw1 _ e
    ·exact h5 z hz
end
theorem yS2 (n:Nat):Sd n (List.replicate n none) [] where
 len:=List.length_replicate
 inj:=fun i j x h=>by rw[List.getElem?_replicate] at h;split at h <;> cases h
 lt:=fun i x h=>by rw[List.getElem?_replicate] at h;split at h <;> cases h
 und:=List.nodup_nil
 rel:=fun y=>⟨fun h=>(nomatch h),fun h=>by have:=List.eq_of_mem_replicate h;cases this⟩
theorem yP4 {n:Nat}{xs:List Int}(o:Ord n xs):Or n (fun seen _=>∀(i x:Nat),seen[i]?=some (some x)->nxt xs i=x) fun b _=>nxt xs b:=fun seen used b l j hl hb _ _=>by
 have hbn:b<n:=by rw[<-hl];exact (List.getElem?_eq_some_iff.mp hb).1
 refine⟨o.xZ hbn,fun h => ?_,fun i x e => ?_⟩
 ·obtain⟨i,hi,e⟩:=List.getElem_of_mem h
  have e':seen[i]?=some (some (nxt xs b)):=by rw[List.getElem?_eq_getElem hi,e]
  have:=o.vD (by rw[<-hl];exact hi) hbn (j i _ e')
  rw[this,hb] at e'
  cases e'
 ·rw[zI (by rw[hl];exact hbn)] at e
  split at e
  ·rename_i h
   cases e
   rw[h]
  ·exact j i x e
theorem cX {α β:Type}{f:α->β}:∀{L:List α},(L.map f).Nodup->∀{a b:α},a∈L->b∈L->f a=f b->a=b
 | [],_,a,_,ha,_,_=>nomatch ha
 | c::L,h,a,b,ha,hb,e=>by
  obtain⟨h1,h2⟩:=List.nodup_cons.mp h
  rcases List.mem_cons.mp ha with rfl | ha'
  ·rcases List.mem_cons.mp hb with rfl | hb'
   ·rfl
   ·exact absurd (e▸List.mem_map_of_mem hb') h1
  ·rcases List.mem_cons.mp hb with rfl | hb'
   ·exact absurd (e▸List.mem_map_of_mem ha') h1
   ·exact cX h2 ha' hb' e
def nats (f:Nat->Nat) (n:Nat):List Int:=(List.range n).map fun i=>((f i:Nat):Int)
theorem yU5 {f:Nat->Nat}{n i:Nat}(h:i<n):nxt (nats f n) i=f i:=by
 unfold nxt nats
 rw[List.getD,List.getElem?_map,List.getElem?_range h]
 simp
theorem yT6 {f:Nat->Nat}{n:Nat}(h:∀i,i<n->f i<n) (hi:∀i j,i<n->j<n->f i=f j->i=j):Ord n (nats f n):=by
 have g:∀i,i<n->(nats f n).getD i 0=((f i:Nat):Int):=fun i hi=>by
  unfold nats
  rw[List.getD,List.getElem?_map,List.getElem?_range hi]
  rfl
 refine⟨by unfold nats;simp,fun i hi' => ?_,fun i j h1 h2 e => ?_⟩
 ·rw[g i hi']
  have:=h i hi'
  bv_omega
 ·rw[g i h1,g j h2] at e
  exact hi i j h1 h2 (by bv_omega)
def full (xs:List Int) (n:Nat):List (Option Nat):=(List.range n).map fun i=>some (nxt xs i)
section
variable {τ:Type}{bx:τ->Option Nat}{nx:τ->Nat->τ}{n:Nat}
structure Wr (bx:τ->Option Nat) (nx:τ->Nat->τ) (n:Nat) (T:Nat->τ) (R:Nat->Nat->Prop) (ps:List Nat) (xs ys:List Int) (out:List (Nat×List Rv)):Prop where
 ord:Ord n xs
 wrt:Ord n ys
 gm:Gm bx nx (fun b _=>nxt xs b) T ps (List.replicate n none) out (full xs n)
 gr:Gm bx nx (fun _ l=>nxt ys l) T ps (List.replicate n none) out (full xs n)
 val:∀r∈allR out,nxt xs r.1=r.2.2/\nxt ys r.2.1=r.2.2/\r.1<n
 chn:∀z∈out,Chn z.1 z.1 z.2/\z.1<n/\∀r∈z.2,R z.1 r.2.1
 all:∀y,y<n->∃z∈out,∃r∈z.2,r.2.1=y
 box:∀b,b<n->∃z∈out,∃r∈z.2,r.1=b
theorem yP8 {xs:List Int}{fin:List (Option Nat)}(hl:fin.length=n) (h:∀i,i<n->fin[i]?=some (some (nxt xs i))):fin=full xs n:=by
 refine List.ext_getElem? fun i => ?_
 unfold full
 by_cases hi:i<n
 ·rw[h i hi,List.getElem?_map,List.getElem?_range hi]
  rfl
 ·rw[List.getElem?_eq_none (by bv_omega),List.getElem?_eq_none (by simp;bv_omega)]
theorem Sd.open' {fin:List (Option Nat)}{used:List Nat}(S:Sd n fin used) (h:∀y,y<n->some y∈fin):∀i,i<n->∃x,fin[i]?=some (some x)/\x<n:=by
 have w:∀y,∃i,y<n->(i<n/\fin[i]?=some (some y)):=fun y=>by
  by_cases hy:y<n
  ·obtain⟨i,hi,e⟩:=List.getElem_of_mem (h y hy)
   exact⟨i,fun _=>⟨by rw[<-S.len];exact hi,by rw[List.getElem?_eq_getElem hi,e]⟩⟩
  ·exact⟨0,fun z=>absurd z hy⟩
 have sp:=fun y hy=>Classical.choose_spec (w y) hy
 intro i hi
 obtain⟨y,hy,e⟩:=MR.onto (n:=n) (f:=fun y=>Classical.choose (w y)) (fun y hy=>(sp y hy).1) (fun y z hy hz e=>by
  have a:=(sp y hy).2
  have b:=(sp z hz).2
  have e':Classical.choose (w y)=Classical.choose (w z):=e
  rw[e',b] at a
  have:z=y:=by simpa using a
  exact this.symm) hi
 have e':Classical.choose (w y)=i:=e
 exact⟨y,by rw[<-e'];exact (sp y hy).2,hy⟩
theorem zM8 {out:List (Nat×List Rv)}{y:Nat}(h:y∈las (allR out)):∃z∈out,∃r∈z.2,r.2.1=y:=by
 obtain⟨r,hr,e⟩:=List.mem_map.mp h
 obtain⟨z,hz,hr⟩:=List.mem_flatMap.mp hr
 exact⟨z,hz,r,hr,e⟩
theorem yX5 {g:Nat->Nat->Nat}{T:Nat->τ}{ps:List Nat}{seen fin:List (Option Nat)}{out:List (Nat×List Rv)}(h:Gm bx nx g T ps seen out fin):∀(i x:Nat),fin[i]?=some (some x)->seen[i]?=some (some x)\/∃r∈allR out,r.1=i:=by
 have turn:∀{p k:Nat}{t:τ}{l:Nat}{seen out:List (Option Nat)}{rs:List Rv},Tn bx nx g p k t l seen rs out->∀(i x:Nat),out[i]?=some (some x)->seen[i]?=some (some x)\/∃r∈rs,r.1=i:=by
  intro p k t l seen out rs h
  have st:∀{seen:List (Option Nat)}{b v i x:Nat},seen[b]?=some none->(seen.set b (some v))[i]?=some (some x)->seen[i]?=some (some x)\/b=i:=fun {seen b v i x} hb e=>by
   rw[zI (List.getElem?_eq_some_iff.mp hb).1] at e
   split at e
   ·rename_i z;exact .inr z.symm
   ·exact .inl e
  induction h with
  | done _=>exact fun i x e=>.inl e
  | leafN _ _ h3 _ _ ih =>
   intro i x e
   rcases ih i x e with q | ⟨r,hr,q⟩
   ·rcases st h3 q with q | q
    ·exact .inl q
    ·exact .inr ⟨_,List.mem_cons_self,q⟩
   ·exact .inr ⟨r,List.mem_cons_of_mem _ hr,q⟩
  | nodeN _ _ h3 _ ih =>
   intro i x e
   rcases ih i x e with q | ⟨r,hr,q⟩
   ·rcases st h3 q with q | q
    ·exact .inl q
    ·exact .inr ⟨_,List.mem_cons_self,q⟩
   ·exact .inr ⟨r,List.mem_cons_of_mem _ hr,q⟩
  | nodeO _ _ _ _ ih=>exact ih
 induction h with
 | nil=>exact fun i x e=>.inl e
 | skip _ _ ih=>exact ih
 | play _ t _ ih =>
  intro i x e
  rcases ih i x e with q | ⟨r,hr,q⟩
  ·rcases turn t i x q with q | ⟨r,hr,q⟩
   ·exact .inl q
   ·exact .inr ⟨r,by rw[allR,List.flatMap_cons];exact List.mem_append_left _ hr,q⟩
  ·exact .inr ⟨r,by rw[allR,List.flatMap_cons];exact List.mem_append_right _ hr,q⟩
theorem zG9 {T:Nat->τ}{R:Nat->Nat->Prop}{ps:List Nat}{xs:List Int}(o:Ord n xs) (hT:∀p,p<n->∃d,d<=n/\Tk bx nx n d (T p)) (rr:∀p,R p p) (hp:∀p∈ps,p<n) (pw:ps.Pairwise R) (al:∀y,y<n->y∈ps):∃ys out,Wr bx nx n T R ps xs ys out:=by
 obtain⟨out,fin,h1,h2,h3,h4,h5,h6⟩:=gL (yP4 o) hT rr ps hp pw (yS2 n) (fun i x h=>by rw[List.getElem?_replicate] at h;split at h <;> cases h) fun y hy=>.inr (al y hy)
 rw[List.append_nil] at h2
 have op:=h2.open' h6
 have ef:fin=full xs n:=yP8 h2.len fun i hi=>by
  obtain⟨x,e,_⟩:=op i hi
  rw[e,h3 i x e]
 subst ef
 have nd:(las (allR out)).Nodup:=(List.reverse_perm _).nodup_iff.mp h2.und
 have al':∀y,y<n->∃z∈out,∃r∈z.2,r.2.1=y:=fun y hy=>zM8 (List.mem_reverse.mp ((h2.rel y).mpr (h6 y hy)))
 have bl:∀r∈allR out,r.1<n:=fun r hr=>by
  have:=h4.shown r hr
  have hl:=(List.getElem?_eq_some_iff.mp this).1
  rw[h2.len] at hl
  exact hl
 have w:∀y,∃x,y<n->∃r∈allR out,r.2.1=y/\r.2.2=x:=fun y=>by
  by_cases hy:y<n
  ·obtain⟨z,hz,r,hr,e⟩:=al' y hy
   exact⟨r.2.2,fun _=>⟨r,List.mem_flatMap.mpr ⟨z,hz,hr⟩,e,rfl⟩⟩
  ·exact⟨0,fun z=>absurd z hy⟩
 have sp:=fun y hy=>Classical.choose_spec (w y) hy
 have lt':∀r∈allR out,r.2.1<n:=fun r hr=>by
  have m:=(h2.rel r.2.1).mp (List.mem_reverse.mpr (List.mem_map.mpr ⟨r,hr,rfl⟩))
  obtain⟨i,hi,e⟩:=List.getElem_of_mem m
  exact h2.lt i _ (by rw[List.getElem?_eq_getElem hi,e])
 have vv:∀r∈allR out,Classical.choose (w r.2.1)=r.2.2:=fun r hr=>by
  obtain⟨r',hr',e1,e2⟩:=sp r.2.1 (lt' r hr)
  have:=cX nd hr' hr e1
  rw[<-e2,this]
 have flt:∀y,y<n->Classical.choose (w y)<n:=fun y hy=>by
  obtain⟨r,hr,e1,e2⟩:=sp y hy
  rw[<-e2,<-h4.val r hr]
  exact o.xZ (bl r hr)
 have boxes:=yX5 h1
 have onto':∀x,x<n->∃y,y<n/\Classical.choose (w y)=x:=fun x hx=>by
  obtain⟨b,hb,eb⟩:=o.onto hx
  rcases boxes b x (by unfold full;rw[List.getElem?_map,List.getElem?_range hb,Option.map_some,eb]) with q | ⟨r,hr,q⟩
  ·rw[List.getElem?_replicate] at q;split at q <;> cases q
  ·refine⟨r.2.1,lt' r hr,?_⟩
   rw[vv r hr,<-h4.val r hr]
   show nxt xs r.1=x
   rw[q,eb]
 have finj:∀i j,i<n->j<n->Classical.choose (w i)=Classical.choose (w j)->i=j:=by
  have k:∀x,∃y,x<n->(y<n/\Classical.choose (w y)=x):=fun x=>by
   by_cases hx:x<n
   ·obtain⟨y,h⟩:=onto' x hx
    exact⟨y,fun _=>h⟩
   ·exact⟨0,fun z=>absurd z hx⟩
  have kp:=fun x hx=>Classical.choose_spec (k x) hx
  intro i j hi hj e
  obtain⟨a,ha,ea⟩:=MR.onto (n:=n) (f:=fun x=>Classical.choose (k x)) (fun x hx=>(kp x hx).1) (fun x z hx hz e=>by
   have e':Classical.choose (k x)=Classical.choose (k z):=e
   rw[<-(kp x hx).2,<-(kp z hz).2,e']) hi
  obtain⟨b,hb,eb⟩:=MR.onto (n:=n) (f:=fun x=>Classical.choose (k x)) (fun x hx=>(kp x hx).1) (fun x z hx hz e=>by
   have e':Classical.choose (k x)=Classical.choose (k z):=e
   rw[<-(kp x hx).2,<-(kp z hz).2,e']) hj
  have ea':Classical.choose (k a)=i:=ea
  have eb':Classical.choose (k b)=j:=eb
  have a2:=(kp a ha).2
  have b2:=(kp b hb).2
  rw[ea'] at a2
  rw[eb'] at b2
  rw[a2,b2] at e
  rw[<-ea',<-eb',e]
 have oy:Ord n (nats (fun y=>Classical.choose (w y)) n):=yT6 flt finj
 have vy:∀r∈allR out,nxt (nats (fun y=>Classical.choose (w y)) n) r.2.1=r.2.2:=fun r hr=>by rw[yU5 (lt' r hr),vv r hr]
 refine⟨_,out,o,oy,h1,h1.agree vy,fun r hr=>⟨h4.val r hr,vy r hr,bl r hr⟩,fun z hz=>⟨h4.chn z hz,h5 z hz⟩,al',fun b hb => ?_⟩
 rcases boxes b (nxt xs b) (by unfold full;rw[List.getElem?_map,List.getElem?_range hb,Option.map_some]) with q | ⟨r,hr,q⟩
 ·rw[List.getElem?_replicate] at q;split at q <;> cases q
 ·obtain⟨z,hz,hr⟩:=List.mem_flatMap.mp hr
  exact⟨z,hz,r,hr,q⟩
theorem Wr.inj {T:Nat->τ}{R:Nat->Nat->Prop}{ps:List Nat}{xs xs' ys:List Int}{out out':List (Nat×List Rv)}(w:Wr bx nx n T R ps xs ys out) (w':Wr bx nx n T R ps xs' ys out'):xs=xs':=by
 have e:=(w.gr.det w'.gr).2
 have g:∀i,i<n->nxt xs i=nxt xs' i:=fun i hi=>by
  have:=congrArg (fun l=>l[i]?) e
  unfold full at this
  simp only[List.getElem?_map,List.getElem?_range hi,Option.map_some] at this
  simpa using this
 refine List.ext_getElem (by rw[w.ord.len,w'.ord.len]) fun i h1 h2 => ?_
 have hi:i<n:=by rw[<-w.ord.len];exact h1
 have a:=w.ord.yM hi
 have b:=w'.ord.yM hi
 rw[g i hi,<-b] at a
 rw[List.getD,List.getD,List.getElem?_eq_getElem h1,List.getElem?_eq_getElem h2] at a
 exact a
theorem Chn.round {ys:List Int}{p:Nat}{l:Nat}{rs:List Rv}(h:Chn p l rs) (v:∀r∈rs,nxt ys r.2.1=r.2.2):it ys rs.length l=p/\(∀i,1<=i->i<rs.length->it ys i l≠p)/\(∀r∈rs,∃k,it ys k l=r.2.1)/\1<=rs.length:=by
 induction h with
 | @last b l =>
  have:=v _ (List.mem_singleton.mpr rfl)
  simp only at this
  refine⟨?_,fun i h1 h2 => ?_,fun r hr=>⟨0,by rw[List.mem_singleton.mp hr];rfl⟩,Nat.le_refl _⟩
  ·show it ys 1 l=p
   rw[cQ]
   exact this
  ·rw[List.length_singleton] at h2;bv_omega
 | @cons b l x rs xp _ ih =>
  have e:=v _ List.mem_cons_self
  simp only at e
  obtain⟨h1,h2,h3,h4⟩:=ih fun r hr=>v r (List.mem_cons_of_mem _ hr)
  refine⟨?_,fun i hi hi2 => ?_,fun r hr => ?_,by rw[List.length_cons];bv_omega⟩
  ·rw[List.length_cons,cQ,e]
   exact h1
  ·obtain⟨j,rfl⟩:∃j,i=j+1:=⟨i-1,by bv_omega⟩
   rw[cQ,e]
   rw[List.length_cons] at hi2
   by_cases z:j=0
   ·subst z;exact xp
   ·exact h2 j (by bv_omega) (by bv_omega)
  ·rcases List.mem_cons.mp hr with rfl | hr
   ·exact⟨0,rfl⟩
   ·obtain⟨k,ek⟩:=h3 r hr
    exact⟨k+1,by rw[cQ,e];exact ek⟩
theorem Wr.pers {T:Nat->τ}{R:Nat->Nat->Prop}{ps:List Nat}{xs ys:List Int}{out:List (Nat×List Rv)}(w:Wr bx nx n T R ps xs ys out):(∀z∈out,per n ys z.1=z.2.length)/\∀q,q<n->∃z∈out,per n ys q=z.2.length/\R z.1 q:=by
 have a:∀z∈out,per n ys z.1=z.2.length/\∀r∈z.2,∃k,it ys k z.1=r.2.1:=fun z hz=>by
  obtain⟨c,zn,_⟩:=w.chn z hz
  obtain⟨h1,h2,h3,h4⟩:=c.round fun r hr=>(w.val r (List.mem_flatMap.mpr ⟨z,hz,hr⟩)).2.1
  obtain⟨p1,p2,p3,p4⟩:=w.wrt.yR zn
  refine⟨?_,h3⟩
  rcases Nat.lt_trichotomy (MR.per n ys z.1) z.2.length with q | q | q
  ·exact absurd p3 (h2 _ p1 q)
  ·exact q
  ·exact absurd h1 (p4 _ h4 q)
 refine⟨fun z hz=>(a z hz).1,fun q hq => ?_⟩
 obtain⟨z,hz,r,hr,e⟩:=w.all q hq
 obtain⟨c,zn,rl⟩:=w.chn z hz
 obtain⟨k,ek⟩:=(a z hz).2 r hr
 have inn:In n ys z.1 q:=by rw[<-e,<-ek];exact w.wrt.xO3 zn k
 refine⟨z,hz,?_,by rw[<-e];exact rl r hr⟩
 rw[w.wrt.yQ8 zn inn]
 exact (a z hz).1
inductive Dn (bx:τ->Option Nat) (nx:τ->Nat->τ) (xs:List Int):τ->List Nat->Prop
 | leaf {t:τ}:bx t=none->Dn bx nx xs t []
 | node {t:τ}{b:Nat}{ws:List Nat}:bx t=some b->Dn bx nx xs (nx t (nxt xs b)) ws->Dn bx nx xs t (b::ws)
end
end MR
namespace MR
open PySem PySem.W
def kasRun {α:Type}(lt:Nat->Nat->Bool):KasT α->α
 | .ret a=>a
 | .ask i j k=>kasRun lt (k (lt i j))
def kasIn {α:Type}(n:Nat) (lt:Nat->Nat->Bool):KasT α->Bool
 | .ret _=>true
 | .ask i j k=>decide (i<n)&&(decide (j<n)&&kasIn n lt (k (lt i j)))
theorem aK {α:Type}{n:Nat}{lt lt':Nat->Nat->Bool}(e:∀i j,i<n->j<n->lt i j=lt' i j):∀t:KasT α,kasIn n lt t=true->kasRun lt' t=kasRun lt t/\kasIn n lt' t=true
 | .ret a,_=>⟨rfl,rfl⟩
 | .ask i j k,h=>by
  rw[kasIn,Bool.and_eq_true,Bool.and_eq_true,decide_eq_true_iff,decide_eq_true_iff] at h
  obtain⟨h1,h2,h3⟩:=h
  obtain⟨a,b⟩:=aK e (k (lt i j)) h3
  have q:=e i j h1 h2
  rw[kasRun,kasRun,kasIn,<-q]
  exact⟨a,by rw[decide_eq_true h1,decide_eq_true h2,Bool.true_and,Bool.true_and];exact b⟩
def kasOk (n:Nat) (r:List Int):Bool:=kasIn n (fun i j=>decide (r.getD i 0<r.getD j 0)) (kas_sort n)&&((kasRun (fun i j=>decide (r.getD i 0<r.getD j 0)) (kas_sort n)).toList.map (fun i=>r.getD i 0) == rg n&&(kasRun (fun i j=>decide (r.getD i 0<r.getD j 0)) (kas_sort n)).toList.all fun i=>decide (i<n))
theorem xS3:(allO 2).all (kasOk 2)=true:=by decide +kernel
theorem xP7:(allO 3).all (kasOk 3)=true:=by decide +kernel
theorem xO5:(allO 4).all (kasOk 4)=true:=by decide +kernel
theorem xO7:(allO 5).all (kasOk 5)=true:=by decide +kernel
theorem xS5:(allO 6).all (kasOk 6)=true:=by decide +kernel
theorem yD1 {n:Nat}(h2:2<=n) (h6:n<=6){r:List Int}(o:Ord n r):kasOk n r=true:=by
 have m:=((zJ8 (n:=n) (by bv_omega) (by bv_omega)).mem r).mpr o
 rcases (show n=2\/n=3\/n=4\/n=5\/n=6 by bv_omega) with rfl | rfl | rfl | rfl | rfl
 ·exact List.all_eq_true.mp xS3 r m
 ·exact List.all_eq_true.mp xP7 r m
 ·exact List.all_eq_true.mp xO5 r m
 ·exact List.all_eq_true.mp xO7 r m
 ·exact List.all_eq_true.mp xS5 r m
def rkN (n:Nat) (κ:Nat->Int) (i:Nat):Nat:=(List.range n).countP fun j=>decide (κ j<κ i)
theorem cO {n:Nat}{κ:Nat->Int}{i j:Nat}(hi:i<n) (h:κ i<κ j):rkN n κ i<rkN n κ j:=by
 unfold rkN
 have sub:∀l:List Nat,i∈l->(l.countP fun x=>decide (κ x<κ i))<l.countP fun x=>decide (κ x<κ j):=by
  intro l
  have le:∀l:List Nat,(l.countP fun x=>decide (κ x<κ i))<=l.countP fun x=>decide (κ x<κ j):=fun l=>List.countP_mono_left fun x _ hx=>decide_eq_true (by have:=of_decide_eq_true hx;bv_omega)
  induction l with
  | nil=>exact fun h=>nomatch h
  | cons a l ih =>
   intro hm
   rw[List.countP_cons,List.countP_cons]
   rcases List.mem_cons.mp hm with rfl | hm
   ·rw[if_neg (show ¬decide (κ i<κ i)=true by simp),if_pos (decide_eq_true h)]
    have:=le l
    bv_omega
   ·have:=ih hm
    by_cases c:κ a<κ i
    ·rw[if_pos (decide_eq_true c),if_pos (decide_eq_true (show κ a<κ j by bv_omega))]
     bv_omega
    ·rw[if_neg (show ¬decide (κ a<κ i)=true by simpa using c)]
     split <;> bv_omega
 exact sub _ (List.mem_range.mpr hi)
theorem zL6 {n:Nat}{κ:Nat->Int}(inj:∀i j,i<n->j<n->κ i=κ j->i=j){i j:Nat}(hi:i<n) (hj:j<n):rkN n κ i<rkN n κ j↔κ i<κ j:=by
 constructor
 ·intro h
  rcases Int.lt_trichotomy (κ i) (κ j) with z | z | z
  ·exact z
  ·have:=inj i j hi hj z
   subst this
   bv_omega
  ·have:=cO hj z
   bv_omega
 ·exact cO hi
theorem yN9 {n:Nat}{κ:Nat->Int}{i:Nat}(hi:i<n):rkN n κ i<n:=by
 have h1:∀l:List Nat,i∈l->(l.countP fun x=>decide (κ x<κ i))<l.length:=by
  intro l hm
  rcases Nat.lt_or_ge (l.countP fun x=>decide (κ x<κ i)) l.length with z | z
  ·exact z
  ·have e:=List.countP_eq_length.mp (Nat.le_antisymm List.countP_le_length z) i hm
   have:=of_decide_eq_true e
   bv_omega
 have:=h1 (List.range n) (List.mem_range.mpr hi)
 rw[List.length_range] at this
 exact this
def byK (n:Nat) (κ:Nat->Int):List Nat:=(kasRun (fun i j=>decide (κ i<κ j)) (kas_sort n)).toList
theorem yZ5 {n:Nat}{κ:Nat->Int}(h2:2<=n) (h6:n<=6) (inj:∀i j,i<n->j<n->κ i=κ j->i=j):kasIn n (fun i j=>decide (κ i<κ j)) (kas_sort n)=true/\(byK n κ).Perm (List.range n)/\(byK n κ).Pairwise fun a b=>κ a<κ b:=by
 have rin:∀i j,i<n->j<n->rkN n κ i=rkN n κ j->i=j:=fun i j hi hj e=>by
  rcases Int.lt_trichotomy (κ i) (κ j) with z | z | z
  ·have:=cO hi z;bv_omega
  ·exact inj i j hi hj z
  ·have:=cO hj z;bv_omega
 have o:Ord n (ofN n (rkN n κ)):=zN5 (fun p h=>yN9 h) rin
 have at_:∀i,i<n->(ofN n (rkN n κ)).getD i 0=((rkN n κ i:Nat):Int):=fun i hi=>by rw[o.yM hi,zI1 hi]
 have k:=yD1 h2 h6 o
 unfold kasOk at k
 rw[Bool.and_eq_true,Bool.and_eq_true] at k
 obtain⟨k1,k2,k3⟩:=k
 have ag:∀i j,i<n->j<n->(fun i j=>decide ((ofN n (rkN n κ)).getD i 0<(ofN n (rkN n κ)).getD j 0)) i j=(fun i j=>decide (κ i<κ j)) i j:=fun i j hi hj=>by
  show decide _=decide _
  rw[at_ i hi,at_ j hj]
  refine decide_eq_decide.mpr ?_
  rw[<-zL6 inj hi hj]
  bv_omega
 obtain⟨e1,e2⟩:=aK ag _ k1
 rw[<-e1] at k2 k3
 have k2:=eq_of_beq k2
 have lt:∀i∈byK n κ,i<n:=fun i hi=>of_decide_eq_true (List.all_eq_true.mp k3 i hi)
 have mp:(byK n κ).map (rkN n κ)=List.range n:=by
  have e:(byK n κ).map (fun i=>(ofN n (rkN n κ)).getD i 0)=((byK n κ).map (rkN n κ)).map fun (b:Nat)=>(b:Int):=by
   rw[List.map_map]
   exact List.map_congr_left fun i hi=>at_ i (lt i hi)
  have k2':(byK n κ).map (fun i=>(ofN n (rkN n κ)).getD i 0)=rg n:=k2
  rw[e] at k2'
  exact List.map_inj_right (fun a b h=>Int.ofNat_inj.mp h) |>.mp k2'
 refine⟨e2,?_,?_⟩
 ·have nd:(byK n κ).Nodup:=by
   have:((byK n κ).map (rkN n κ)).Nodup:=by rw[mp];exact List.nodup_range
   exact List.Pairwise.of_map (rkN n κ) (fun a b h e=>h (by rw[e])) this
  have ln:(byK n κ).length=n:=by
   have:=congrArg List.length mp
   rw[List.length_map,List.length_range] at this
   exact this
  rw[List.perm_ext_iff_of_nodup nd List.nodup_range]
  intro a
  rw[List.mem_range]
  refine⟨lt a,fun ha => ?_⟩
  have:rkN n κ a∈(byK n κ).map (rkN n κ):=by rw[mp];exact List.mem_range.mpr (yN9 ha)
  obtain⟨b,hb,e⟩:=List.mem_map.mp this
  rw[<-rin b a (lt b hb) ha e]
  exact hb
 ·have pw:((byK n κ).map (rkN n κ)).Pairwise (· < ·):=by rw[mp];exact List.pairwise_lt_range
  rw[List.pairwise_map] at pw
  exact pw.imp_of_mem fun {a b} ha hb h=>(zL6 inj (lt a ha) (lt b hb)).mp h
theorem yY2 {α:Type}{n:Nat}{cmp:Nat->Nat->(Bool->Shared->Prop)->Shared->Prop}{J:Shared->Prop}{lt:Nat->Nat->Bool}(h:∀(i j:Nat) (C:Bool->Shared->Prop) (s:Shared),i<n->j<n->J s->(∀s',J s'->C (lt i j) s')->cmp i j C s):∀(t:KasT α) (Q:α->Shared->Prop) (s:Shared),kasIn n lt t=true->J s->(∀s',J s'->Q (kasRun lt t) s')->t.kasWp cmp Q s
 | .ret a,Q,s,_,js,q=>q s js
 | .ask i j k,Q,s,hin,js,q=>by
  rw[kasIn,Bool.and_eq_true,Bool.and_eq_true,decide_eq_true_iff,decide_eq_true_iff] at hin
  exact h i j _ s hin.1 hin.2.1 js fun s' js'=>yY2 h (k (lt i j)) Q s' hin.2.2 js' q
end MR
namespace L2
open PySem PySem.Spec PyProof.Rows
def LamAt (H:Hp) (f:Addr) (q:Str) (ps:Arguments) (e:Expr) (sc:Scope) (cl:List (Str×Addr)):Prop :=
 ∃(c':Addr) (ctv pm:Value) (oc:Obj) (u v:HO) (vs:Array Value) (t:Tok),H f=some (.frz (PySem.W.kla_obj "<lambda>" q ps e sc cl pm c' ctv) v)/\H c'=some (.frz oc u)/\oc.data=.fields vs/\vs[1]?=some (.str q t)
def Ext (H H':Hp):Prop:=∀b o,H b=some o->H' b=some o
theorem Ext.refl (H:Hp):Ext H H:=fun _ _ e=>e
theorem Ext.trans {H H1 H2:Hp}(a:Ext H H1) (b:Ext H1 H2):Ext H H2:=fun x o e=>b x o (a x o e)
theorem Ext.new {H:Hp}{a:Addr}{o:HO}(h:H a=none):Ext H (upd H a o):=fun b u e=>by rw[zY (zF e h)];exact e
theorem LamAt.ext {H H':Hp}{f:Addr}{q:Str}{ps:Arguments}{e:Expr}{sc:Scope}{cl:List (Str×Addr)}(x:LamAt H f q ps e sc cl) (k:Ext H H'):LamAt H' f q ps e sc cl:=by
 obtain⟨c',ctv,pm,oc,u,v,vs,t,h1,h2,h3⟩:=x
 exact⟨c',ctv,pm,oc,u,v,vs,t,k _ _ h1,k _ _ h2,h3⟩
def tLam (q:Str) (ps:Arguments) (e:Expr) (sc:Scope) (cl:List (Str×Addr)):TE:=fun _ H Q=>∀f H1,LamAt H1 f q ps e sc cl->Ext H H1->H f=none->Q (.ref f) H1
theorem apartBy {α:Type}{φ:Obj->α}{h:Heap}{a b:Addr}{x y:Obj}(ex:h.get? a=some x) (ey:h.get? b=some y) (n:φ x≠φ y):a≠b:=fun z=>n (by rw[<-z,ex] at ey;exact congrArg φ (Option.some.inj ey))
theorem zD4 {pos pos':Pos}{c cv:Value}:∀(l:List Value),TriplesOk l->codeAmong pos' (l ++ [rawInt pos.line,rawInt pos.col,c])=some cv->codeAmong pos' l=some cv\/cv=c:=fun l t z=>by
 fun_induction TriplesOk l with
 | case1 =>
  right
  simp only[List.nil_append,codeAmong,rawInt] at z
  split at z
  ·exact (Option.some.inj z).symm
  ·cases z
 | case2 a t' b u y r ih =>
  simp only[List.cons_append,codeAmong] at z ⊢
  split
  ·rename_i hc;rw[if_pos hc] at z;exact .inl z
  ·rename_i hc;rw[if_neg hc] at z;exact ih t z
 | case3 l h1 h2=>exact t.elim
section
variable {X:Cx}{pins:List (Addr×Obj)}{σ:St}{H:Hp}{s:Shared}
theorem Inv.lam {h':Heap}{tk:Nat}{P c':Addr}{q:Str}{oc fo:Obj}(hfo:fo.isFreed=false) (I:Inv X pins σ H s) (hP:H P=some (.tbl q)) (hx:Heap.ExtBut P s.heap h') (hc:s.heap.objs.size<=c') (hlt:c'<h'.objs.size) (hoc:h'.get? c'=some oc)
  (new:ObjOk X.prog X.w (upd H c' (.frz oc (.own c'))) h' P (.tbl q)):Inv X pins σ (upd (upd H c' (.frz oc (.own c'))) h'.objs.size (.frz fo (.own h'.objs.size))) { s with heap:=h'.push fo,toks:=tk }:=by
 have hs:s.heap.objs.size<=h'.objs.size:=Nat.le_of_lt (Nat.lt_of_le_of_lt hc hlt)
 have cn:H c'=none:=I.hok.fresh hc
 have fn:H h'.objs.size=none:=I.hok.fresh hs
 have cf:h'.objs.size≠c':=Nat.ne_of_gt hlt
 have fn2:(upd H c' (.frz oc (.own c'))) h'.objs.size=none:=by rw[zY cf];exact fn
 have e1:Ext H (upd (upd H c' (.frz oc (.own c'))) h'.objs.size (.frz fo (.own h'.objs.size))):=(Ext.new cn).trans (Ext.new fn2)
 have nP:∀b,H b=none->b≠P:=fun b n z=>by rw[z,hP] at n;cases n
 refine I.step (g':=s.gens) (d':=s.drawn) (ch:=[]) (fun _ z=>nomatch z) (fun b o _ _ _ e n=>Heap.get?_push_of_some _ (hx b o (nP b n) e)) (fun b o _ _ _ e n=>⟨o.slots,Heap.get?_push_of_some _ (hx b o (nP b n) e)⟩) (fun b o _ e n => ?_) (fun b o _ e => ?_)
  (fun b xs e=>e1 _ _ e) (fun b o xs e=>e1 _ _ e) (fun b q e=>e1 _ _ e) (fun m hm=>(hm.extBut hx (nP _ I.free)).push _) (fun b o e => ?_) I.bare
 ·have hb:=Heap.lt_size e
  rw[zY (Nat.ne_of_lt (Nat.lt_of_lt_of_le hb hs)),zY (Nat.ne_of_lt (Nat.lt_of_lt_of_le hb hc))]
  exact n
 ·by_cases hb:b=P
  ·subst hb
   obtain⟨ps,e',_⟩:=new
   exact⟨_,Heap.get?_push_of_some _ e'⟩
  ·exact⟨o,Heap.get?_push_of_some _ (hx b o hb e)⟩
 ·by_cases hb:b=h'.objs.size
  ·subst hb
   rw[zV] at e
   cases e
   exact⟨Heap.get?_push_size _ hfo,_,Heap.get?_push_size _ hfo⟩
  ·rw[zY hb] at e
   by_cases hb2:b=c'
   ·subst hb2
    rw[zV] at e
    cases e
    exact⟨Heap.get?_push_of_some _ hoc,_,Heap.get?_push_of_some _ hoc⟩
   ·have e0:=e
    rw[zY hb2] at e
    by_cases hb3:b=P
    ·subst hb3
     rw[hP] at e
     cases e
     exact new.stay (fun c v _ q=>Heap.get?_push_of_some _ q) (fun c q=>by rw[zY (zF q fn2)];exact q) (fun c _ q=>by rw[zY (zF q fn2)];exact q) fun c _ _ q=>by rw[zY (zF q fn2)];exact q
    ·refine (I.hok b o e).stay (fun c v hcc q=>Heap.get?_push_of_some _ (hx c v ?_ q)) (fun c q=>e1 _ _ q) (fun c xs q=>e1 _ _ q) fun c _ _ q=>e1 _ _ q
     rcases hcc with z | z
     ·rw[z];exact hb3
     ·rintro rfl;rw[hP] at z;cases z
theorem zD9 {ps:Arguments}{body:Expr}{sc:Scope}{pos:Pos}{x:Str}{c P:Addr}{cl:List (Str×Addr)}(hx:x∈tabNames) (ht:PySem.W.tabIn X.K x=some (c,P)) (hcode:X.env.code=.ref c) (hq:X.env.qual=x ++ ".<locals>.")
  (hdef:defaultsOf ps X.env=([],[])) (hcl:X.Ok->closureFor sc X.env=pure cl):PE X (.Lambda ps body sc pos) (tLam (lamQ x) ps body sc cl):=by
 intro pins s σ H Q I h
 have hP:=I.tb x hx c P ht
 have okP:=I.hok P _ hP
 obtain⟨pt,e1,tr,am⟩:=id okP
 have G:=I.mod.glob.keeps I.bk
 have CH:=(I.mod.tabs x hx c P ht).keeps I.bk
 obtain⟨og,_,_,gg,gd,_⟩:=id G
 obtain⟨bm,ob,b1,b2,b3,b4,b5,b6⟩:=I.mod.bmain
 have gb:=I.bk _ _ b3
 have far1:=apartBy (φ:=Obj.data) gg e1 (by rw[gd];exact fun z=>nomatch z)
 have far2:=apartBy (φ:=Obj.cls) gb e1 (by rw[b4];exact fun z=>nomatch z)
 have far3:=apartBy (φ:=Obj.data) gb gg (by rw[b6,gd];exact fun z=>nomatch z)
 have BA:s.heap.BuiltinsAt X.mg P:=⟨bm,ob,b1,b2,far3,far2,gb,b4,b5,b6⟩
 refine PySem.W.kla_eval hdef ?_
 have eq:X.env.qual ++ "<lambda>" = lamQ x:=by rw[hq];rfl
 rw[eq]
 cases ha:codeAmong pos pt.toList with
 | none =>
  refine PySem.W.kla_makeFunction (hcl I.ok) I.ok.glob G hcode CH e1 tr ha far1 BA fun c' ctv h' tk hxx hge hlt hrec htb => ?_
  rcases hrec with ⟨_,oc,vs,t,⟨⟩,hoc,hd,hv⟩
  have cn:H c'=none:=I.hok.fresh hge
  have I2:=Inv.lam (tk:=tk) (fo:=PySem.W.kla_obj "<lambda>" (lamQ x) ps body sc cl ((X.mg "__name__").getD .none) c' ctv) rfl I hP hxx hge hlt hoc ⟨_,htb,by simpa using TriplesOk_snoc _ _ _ _ tr,fun pos' cv z => ?_⟩
  ·refine⟨.ref h'.objs.size,_,I2,rfl,h _ _ ⟨c',ctv,_,oc,.own c',_,vs,t,zV,?_,hd,hv⟩ ?_ (I.hok.fresh (Nat.le_of_lt (Nat.lt_of_le_of_lt hge hlt)))⟩
   ·rw[zY (Nat.ne_of_lt hlt),zV]
   ·exact (Ext.new cn).trans (Ext.new (by rw[zY (Nat.ne_of_gt hlt)];exact I.hok.fresh (Nat.le_of_lt (Nat.lt_of_le_of_lt hge hlt))))
  ·have z':codeAmong pos' (pt.toList ++ [rawInt pos.line,rawInt pos.col,.ref c'])=some cv:=by simpa using z
   rcases zD4 pt.toList tr z' with z1 | z1
   ·obtain⟨c3,oc3,u3,vs3,t3,a1,a2,a3⟩:=am pos' cv z1
    exact⟨c3,oc3,u3,vs3,t3,a1,by rw[zY (zF a2 cn)];exact a2,a3⟩
   ·exact⟨c',oc,_,vs,t,z1,zV,hd,hv⟩
 | some cv =>
  obtain⟨c',oc,u,vs,t,rfl,a2,a3,a4⟩:=am pos cv ha
  refine PySem.W.kla_makeFunctionHit (hcl I.ok) I.ok.glob G hcode CH e1 tr ha BA fun ctv h' tk hk hsz => ?_
  have fn:H h'.objs.size=none:=I.hok.fresh hsz
  refine⟨.ref h'.objs.size,_,I.laid (a:=h'.objs.size) (o:=.frz (PySem.W.kla_obj "<lambda>" (lamQ x) ps body sc cl ((X.mg "__name__").getD .none) c' ctv) (.own h'.objs.size)) (h':=h'.push _) (fun b o e=>Heap.get?_push_of_some _ (hk b o e)) hsz ⟨Heap.get?_push_size _ rfl,_,Heap.get?_push_size _ rfl⟩,rfl,h _ _ ⟨c',ctv,_,oc,u,_,vs,t,zV,?_,a3,a4⟩ (Ext.new fn) fn⟩
  rw[zY (zF a2 fn)]
  exact a2
end
def cxLam (P:Program) (w:World) (K:KFr) (mg:Str->Option Value) (base:Heap) (N:List Str) (q:Str) (sc:Scope) (f:Addr) (cd:Value) (cl:List (Str×Addr)) (A:Around) (outer:List Env) (s:Shared) (H:Hp):Cx where
 prog:=P
 w:=w
 K:=K
 mg:=mg
 base:=base
 A:=A.deeper (PySem.W.envX q sc s.heap.objs.size f cd cl)
 N:=N
 s₀:=s
 H₀:=H
 env:=PySem.W.envX q sc s.heap.objs.size f cd cl
 outer:=outer
 stack:=PySem.W.envX q sc s.heap.objs.size f cd cl::outer
 ex:=[]
 calm:=true
 fn:=fun _=>false
 pn:=[]
 xe:=fun _ _=>False
structure LamScope (ps:List Str) (y:Str) (sc:Scope):Prop where
 kind:sc.kind=.function
 co:sc.isCoroutine=false
 gen:sc.isGenerator=false
 par:∀x∈ps,sc.names.lookup x=some .local
 nd:ps.Nodup
 free:sc.names.lookup y=some .free
 nocell:∀z∈sc.names,z.2 ≠ .cell
 only:∀z,sc.names.lookup z=some .free->z=y
section
variable {P:Program}{w:World}{K:KFr}{mg:Str->Option Value}{base:Heap}{A:Around}{outer:List Env}{s:Shared}{H:Hp}
theorem zT5 {x:Str}{v:Value}:∀{ps:List Str}{us:List Value}{i:Nat},ps.Nodup->ps[i]?=some x->us[i]?=some v->(ps.zip us).reverse.lookup x=some v
 | [],_,_,_,h,_=>by simp at h
 | _::_,[],_,_,_,h=>by simp at h
 | p::ps,u::us,0,nd,h1,h2=>by
  simp at h1 h2;subst h1;subst h2
  rw[List.zip_cons_cons,List.reverse_cons,List.lookup_append]
  have:(ps.zip us).reverse.lookup p=none:=by
   rw[List.lookup_eq_none_iff]
   intro z hz
   have hz':z∈ps.zip us:=by simpa using hz
   have:=(List.of_mem_zip (a:=z.1) (b:=z.2) (by simpa using hz')).1
   simp only[bne_iff_ne,beq_eq_false_iff_ne,ne_eq]
   rintro rfl
   exact (List.nodup_cons.mp nd).1 this
  rw[this]
  simp[List.lookup_cons]
 | p::ps,u::us,i+1,nd,h1,h2=>by
  rw[List.zip_cons_cons,List.reverse_cons,List.lookup_append,zT5 (i:=i) (List.nodup_cons.mp nd).2 (by simpa using h1) (by simpa using h2)]
  rfl
theorem yE9 {ps:List Str}{y:Str}{sc:Scope}{q:Str}{f cl:Addr}{cd uy:Value}{vy:V}{us:List Value}{vs:List V}{h₁:Heap}{tk:Nat}{fo:Obj}(S:LamScope ps y sc) (hd:A.handled=none) (e0:Env0 P w K mg base A outer s H) (hl:vs.length=ps.length) (r:Vals vs us)
  (hc:s.heap.IsCell cl (some uy)) (hn:H cl=none) (rv:RelV vy uy) (ns:h₁.Ns s.heap.objs.size (fun x=>(ps.zip us).reverse.lookup x)) (hk:∀b o,s.heap.get? b=some o->h₁.get? b=some o) :
  Inv (cxLam P w K mg base (ps ++ [y]) q sc f cd [(y,cl)] A outer s H) [] (vs.map some ++ [some vy]) H { s with heap:=h₁,toks:=tk }:=by
 have noA:∀b:Addr,b∉(cxLam P w K mg base (ps ++ [y]) q sc f cd [(y,cl)] A outer s H).ex:=fun b z=>absurd (show b∈([]:List Addr) from z) (by simp)
 have cel:∀z c,(cxLam P w K mg base (ps ++ [y]) q sc f cd [(y,cl)] A outer s H).env.cells.lookup z=some c->z=y/\c=cl:=fun z c e=>by
  have e:List.lookup z [(y,cl)]=some c:=e
  rw[List.lookup_cons] at e
  split at e
  ·rename_i h;cases e;exact⟨beq_iff_eq.mp h,rfl⟩
  ·cases e
 have hy:(cxLam P w K mg base (ps ++ [y]) q sc f cd [(y,cl)] A outer s H).env.cells.lookup y=some cl:=by
  show List.lookup y [(y,cl)]=some cl
  rw[List.lookup_cons,beq_self_eq_true]
 refine⟨⟨e0.mod,S.kind,rfl,rfl,Nat.le_refl _,fun z z' c h1 h2=>(cel z c h1).1.trans (cel z' c h2).1.symm,fun z hz => ?_,fun z c h=>(nomatch h),fun _=>hd,Around.frames_deeper e0.frames,.inr ⟨rfl,rfl⟩,fun b z=>absurd z (noA b),e0.bs,e0.bsz,fun b _ _=>noA b,fun b z=>absurd z (noA b),e0.funs,e0.frf,e0.tb⟩,
  rfl,e0.bare,Un.kept hk,⟨_,ns,fun i z v h1 h2 h3 => ?_⟩,fun z c h => ?_,e0.hok.fresh (Nat.le_refl _),fun z c h=>by rw[(cel z c h).2];exact hn,fun p hp=>absurd (show p∈([]:List (Addr×Obj)) from hp) (by simp),e0.hok.kept hk,?_⟩
 ·have hz:sc.names.lookup z=some .cell\/sc.names.lookup z=some .free:=hz
  rcases hz with hz | hz
  ·exact absurd rfl (S.nocell _ (PySem.mem_of_lookup hz))
  ·rw[S.only z hz];exact⟨cl,hy⟩
 ·by_cases hi:i<vs.length
  ·have h1:(ps ++ [y])[i]?=some z:=h1
   rw[List.getElem?_append_left (by bv_omega)] at h1
   rw[List.getElem?_append_left (by simpa using hi),List.getElem?_map] at h2
   cases e:vs[i]? with
   | none=>rw[e] at h2;cases h2
   | some a =>
    rw[e] at h2
    cases h2
    obtain⟨u,hu,ru⟩:=r.get e
    exact⟨u,ru,.inl ⟨S.par z (List.mem_of_getElem? h1),zT5 S.nd h1 hu⟩⟩
  ·have h1:(ps ++ [y])[i]?=some z:=h1
   rw[List.getElem?_append_right (by simpa using hi)] at h2
   rw[List.getElem?_append_right (by bv_omega)] at h1
   simp only[List.length_map] at h2
   have e0:i-ps.length=0:=by
    cases e:i-ps.length with
    | zero=>rfl
    | succ n=>rw[e] at h1;simp at h1
   rw[e0] at h1
   rw[hl,e0] at h2
   simp at h1 h2
   subst h1 h2
   exact⟨uy,rv,.inr ⟨.inr S.free,cl,hy,hc.keeps hk⟩⟩
 ·rw[(cel z c h).2]
  exact⟨_,hc.keeps hk⟩
 ·show _=(ps ++ [y]).length
  simp[hl]
theorem zL1 {ps:List Str}{y:Str}{sc:Scope}{q:Str}{f cl c':Addr}{pm ctv uy:Value}{vy:V}{us:List Value}{vs:List V}{params:Arguments}{body:Expr}{k:Nat}{Q:VK}{t:TE}(S:LamScope ps y sc) (hr:Room (k+1) A) (e0:Env0 P w K mg base A outer s H)
  (hf:s.heap.get? f=some (PySem.W.kla_obj "<lambda>" q params body sc [(y,cl)] pm c' ctv)) (hcd:s.heap.CodeRec (.ref c') q) (hc:s.heap.IsCell cl (some uy)) (hn:H cl=none) (rv:RelV vy uy)
  (hb:bindArgs (PySem.W.kla_fn "<lambda>" q params body sc [(y,cl)] pm (.ref c') ctv) ⟨us,[]⟩=pure (ps.zip us)) (hl:vs.length=ps.length) (r:Vals vs us)
  (hbody:Room k (A.deeper (PySem.W.envX q sc s.heap.objs.size f (.ref c') [(y,cl)]))->PE (cxLam P w K mg base (ps ++ [y]) q sc f (.ref c') [(y,cl)] A outer s H) body t) (h:t (vs.map some ++ [some vy]) H Q) :
  codeAny (model P w) A (.call (.ref f) ⟨us,[]⟩) (CR CX0 outer P w H s Q E0) s:=by
 refine PySem.W.kla_callFunE hr.depth hf rfl S.co S.gen rfl hcd ?_
 rw[hb]
 refine wpAny_pure (wpAny_newFunctionEnv S.nocell (fun z hz=>S.par _ (List.of_mem_zip (a:=z.1) (b:=z.2) hz).1) (fun h₁ hns hsb => ?_) S.kind)
 have hk:∀b o,s.heap.get? b=some o->h₁.get? b=some o:=fun b o e=>hsb.extBut b o (Nat.ne_of_lt (Heap.lt_size e)) (Heap.get?_push_of_some _ e)
 have lim:s.heap.NoLimit:=e0.mod.nolimit.keeps fun b o e=>(e0.bs b o e).1
 refine⟨lim.keeps hk,PySem.W.kla_codeExpr ?_⟩
 have I:=yE9 (q:=q) (f:=f) (cd:=.ref c') (tk:=s.toks+(ps.zip us).length) (fo:=default) S hr.hd e0 hl r hc hn rv hns hk
 refine wpAny_mono (hbody (hr.deeper _) [] _ _ H Q I h) (fun v s' hs => ?_) fun e s' hs=>hs.elim
 obtain⟨x,H',J,rx,qx⟩:=hs
 exact⟨x,H',J.os,J.bare,J.base,J.hok,rx,qx⟩
end
def rmv (H:Hp) (a:Addr):Hp:=fun b=>if b=a then none else H b
theorem wL {H:Hp}{a:Addr}:rmv H a a=none:=if_pos rfl
theorem yT {H:Hp}{a b:Addr}(h:b≠a):rmv H a b=H b:=if_neg h
theorem yB9 {H:Hp}{a b:Addr}{o:HO}(h:rmv H a b=some o):b≠a/\H b=some o:=by
 by_cases e:b=a
 ·rw[e,wL] at h;cases h
 ·rw[yT e] at h;exact⟨e,h⟩
section
variable {P:Program}{w:World}{K:KFr}{mg:Str->Option Value}{base:Heap}{A:Around}{outer:List Env}{s:Shared}{H:Hp}{h:Heap}{cl:Addr}{φ:Heap->Prop}
theorem HOk.rmv (ok:HOk P w H h) (hc:H cl=some (.ext φ)):HOk P w (rmv H cl) h:=fun b o e=>by
 obtain⟨hb,e'⟩:=yB9 e
 exact (ok b o e').stay (fun _ _ _ q=>q) (fun c q=>by rw[yT (fun z=>by rw[z,hc] at q;cases q)];exact q) (fun c _ q=>by rw[yT (fun z=>by rw[z,hc] at q;cases q)];exact q) fun c _ _ q=>by rw[yT (fun z=>by rw[z,hc] at q;cases q)];exact q
theorem Env0.rmv (e:Env0 P w K mg base A outer s H) (hc:H cl=some (.ext φ)):Env0 P w K mg base A outer s (rmv H cl) where
 frames:=e.frames
 mod:=e.mod
 bs:=fun b o h=>⟨(e.bs b o h).1,by
  by_cases z:b=cl
  ·rw[z];exact wL
  ·rw[yT z];exact (e.bs b o h).2⟩
 bsz:=e.bsz
 funs:=e.funs
 frf:=fun b hb=>by
  by_cases z:b=cl
  ·rw[z];exact wL
  ·rw[yT z];exact e.frf b hb
 hok:=e.hok.rmv hc
 bare:=e.bare
 tb:=fun x hx c P' ht=>by
  have q:=e.tb x hx c P' ht
  rw[yT (fun z=>by rw[z,hc] at q;cases q)]
  exact q
end
abbrev cellO (cl:Addr) (oc:Obj):HO:=.ext fun h=>h.get? cl=some oc
section
variable {P:Program}{w:World}{K:KFr}{mg:Str->Option Value}{base:Heap}{A:Around}{outer:List Env}{s:Shared}{H:Hp}{cl:Addr}{oc:Obj}
theorem HOk.lend {h:Heap}(x:HOk P w H h) (hn:H cl=none) (ho:h.get? cl=some oc):HOk P w (upd H cl (cellO cl oc)) h :=
 x.track hn ⟨ho,⟨oc,ho⟩,fun h1 h2 p k=>k _ p⟩
theorem Env0.lend (e:Env0 P w K mg base A outer s H) (hn:H cl=none) (hb:base.get? cl=none) (hf:cl∉frs outer) (ho:s.heap.get? cl=some oc):Env0 P w K mg base A outer s (upd H cl (cellO cl oc)) where
 frames:=e.frames
 mod:=e.mod
 bs:=fun b o h=>⟨(e.bs b o h).1,by rw[zY (fun z=>by rw[z,hb] at h;cases h)];exact (e.bs b o h).2⟩
 bsz:=e.bsz
 funs:=e.funs
 frf:=fun b hb'=>by rw[zY (show b≠cl from fun z=>hf (by rw[<-z];exact hb'))];exact e.frf b hb'
 hok:=e.hok.lend hn ho
 bare:=e.bare
 tb:=fun x hx c P' ht=>by
  have q:=e.tb x hx c P' ht
  rw[zY (fun z=>by rw[z,hn] at q;cases q)]
  exact q
theorem Un.unhide {fs:List Addr}{H2:Hp}{h h':Heap}(u:Un fs [] (rmv H cl) H2 h h') (C:H cl=some (cellO cl oc)):Un fs [] H (upd H2 cl (cellO cl oc)) h h':=by
 have nc:∀b,H b=none->b≠cl:=fun b n z=>by rw[z,C] at n;cases n
 have up:∀b o,b≠cl->H2 b=some o->upd H2 cl (cellO cl oc) b=some o:=fun b o n e=>by rw[zY n];exact e
 have dn:∀b o,H b=some o->b≠cl->rmv H cl b=some o:=fun b o e n=>by rw[yT n];exact e
 have df:∀b,H b=none->rmv H cl b=none:=fun b n=>by rw[yT (nc b n)];exact n
 refine⟨fun b o e n=>u.keep b o e (df b n),fun b o e n=>u.slot b o e (df b n),fun b o e n hx => ?_,u.there,fun b xs e => ?_,fun b o xs e => ?_,fun b q e => ?_⟩
 ·rw[zY (nc b n)];exact u.free b o e (df b n) hx
 ·have n:b≠cl:=fun z=>by rw[z,C] at e;cases e
  exact up b _ n (u.tups b xs (dn b _ e n))
 ·have n:b≠cl:=fun z=>by rw[z,C] at e;cases e
  exact up b _ n (u.frzs b o xs (dn b _ e n))
 ·have n:b≠cl:=fun z=>by rw[z,C] at e;cases e
  exact up b _ n (u.tbls b q (dn b _ e n))
theorem yV9 {ps:List Str}{y:Str}{sc:Scope}{q:Str}{f:Addr}{uy:Value}{vy:V}{us:List Value}{vs:List V}{params:Arguments}{body:Expr}{k:Nat}{Q:VK}{t:TE}(S:LamScope ps y sc) (hr:Room (k+1) A) (e0:Env0 P w K mg base A outer s H)
  (L:LamAt H f q params body sc [(y,cl)]) (C:H cl=some (cellO cl oc)) (hd:oc.data=.cell (some uy)) (rv:RelV vy uy)
  (hb:∀(pm cd ctv:Value),bindArgs (PySem.W.kla_fn "<lambda>" q params body sc [(y,cl)] pm cd ctv) ⟨us,[]⟩=pure (ps.zip us)) (hl:vs.length=ps.length) (r:Vals vs us)
  (hbody:∀c':Addr,PE (cxLam P w K mg base (ps ++ [y]) q sc f (.ref c') [(y,cl)] A outer s (rmv H cl)) body t) (h:t (vs.map some ++ [some vy]) (rmv H cl) fun v H2=>H2 cl=none->Q v (upd H2 cl (cellO cl oc))) :
  codeAny (model P w) A (.call (.ref f) ⟨us,[]⟩) (CR CX0 outer P w H s Q E0) s:=by
 obtain⟨c',ctv,pm,o2,u,v,ws,tk,hf,hc',hd2,hq⟩:=L
 have gf:=(e0.hok f _ hf).1
 have gc:=(e0.hok c' _ hc').1
 have gcl:s.heap.get? cl=some oc:=(e0.hok cl _ C).1
 have nf:cl∉frs outer:=fun z=>by have:=e0.frf cl z;rw[C] at this;cases this
 refine codeAny_mono (zL1 S hr (e0.rmv C) gf ⟨c',o2,ws,tk,rfl,gc,hd2,hq⟩ ⟨oc,gcl,hd⟩ wL rv (hb _ _ _) hl r (fun _=>hbody c') h) fun r s' hq => ?_
 cases r with
 | error e=>exact False.elim hq
 | ok fl =>
  cases fl with
  | ret u =>
   obtain⟨v,H2,os,bare,un,hok,r,qq⟩:=hq
   have n2:H2 cl=none:=un.free cl oc gcl wL (by simp)
   have g2:s'.heap.get? cl=some oc:=un.keep cl oc gcl wL nf (by simp)
   exact⟨v,_,os,bare,un.unhide C,hok.lend n2 g2,r,qq n2⟩
  | _=>exact False.elim hq
def CallAt (P:Program) (w:World) (K:KFr) (mg:Str->Option Value) (base:Heap) (k:Nat) (H:Hp) (f:Addr) (vs:List V) (Q:VK):Prop :=
 (∃o fd u,H f=some (.frz o u)/\o.data=.func fd)/\∀(A:Around) (outer:List Env) (s:Shared) (us:List Value),Room k A->Env0 P w K mg base A outer s H->Vals vs us->codeAny (model P w) A (.call (.ref f) ⟨us,[]⟩) (CR CX0 outer P w H s Q E0) s
end
section
variable {X:Cx}{i k:Nat}{x:Str}{p pos:Pos}{e:Expr}{es:List Expr}{t:TA}
theorem xV1 {pins:List (Addr×Obj)}{σ:St}{H:Hp}{s:Shared}{Q:VK}{us:List Value}{vs:List V}{f:Addr}(hr:Room k X.A) (I:Inv X pins σ H s) (r:Vals vs us) (h:CallAt X.prog X.w X.K X.mg X.base k H f vs Q):wpAny (model X.prog X.w) X.A (call (.ref f) us) (EP X pins σ Q) X.xe s:=by
 refine wpAny_call (codeAny_mono (h.2 X.A X.stack s us hr I.env0 r) fun r s' hq => ?_)
 cases r with
 | error e=>exact False.elim hq
 | ok fl =>
  cases fl with
  | ret u=>exact I.after hq
  | _=>exact False.elim hq
def tCallV (X:Cx) (k i:Nat) (t:TA):TE:=fun σ H Q=>∃f,σ[i]?=some (some (.ref f))/\t σ H fun vs H1=>CallAt X.prog X.w X.K X.mg X.base k H1 f vs Q
theorem yP5 (hr:Room k X.A) (hN:X.N[i]?=some x) (hv:Vis X.env.scope x) (ha:PA X (e::es) t) (hd:autoParam ((x == ("__debug__":Str))=false) zL._auto_1) (hcd:autoParam ((x == ("__classdict__":Str))=false) zL._auto_1)
  (he:autoParam (starEach (e::es) X.env=(false,eval e X.env)::starEach es X.env) zZ._auto_1) (hpl:autoParam ((backTo pos (starEach es X.env)).any (·.1)=false) zZ._auto_1):PE X (.Call (.Name x p) (e::es) [] pos) (tCallV X k i t):=by
 intro pins s σ H Q I h
 obtain⟨f,hf,h⟩:=h
 refine wpAny_Call_Name_kw (thn (uI (pos:=p) hN hv hd hcd pins s σ H (fun v H'=>v=.ref f/\H'=H) I ⟨_,hf,rfl,rfl⟩) fun u s1 ⟨v,H',I1,r1,e1,e2⟩ => ?_)
 subst e1 e2
 obtain rfl:u=Value.ref f:=r1
 have hh:=ha pos pins s1 σ _ _ I1 h
 rw[he] at hh ⊢
 refine PySem.W.callWith_of (P:=fun hp=>∃o fd,hp.get? f=some o/\o.data=.func fd) (by show ((false || (backTo pos (starEach es X.env)).any (·.1)) || false)=false;rw[hpl];rfl) (fun hp ⟨o,fd,g,d⟩=>⟨.frame,.inl rfl,?_⟩) (Calls.evalArgs_plain (thn hh fun us s2 ⟨vs,H2,I2,r2,q2⟩ => ?_))
 ·refine (PySem.W.Looks.ld (part:=none) g).andThen ?_
  rw[d]
  exact .now
 ·obtain⟨⟨o,fd,u,hH,hdd⟩,_⟩:=id q2
  exact⟨⟨o,fd,(I2.hok f _ hH).1,hdd⟩,xV1 hr I2 r2 q2⟩
end
end L2
namespace L2.L3
open PySem PySem.Spec PyProof.Rows MR
variable [CN]
def bxD:D->Option Nat
 | .tuple [.int b,.tuple _]=>some b.toNat
 | _=>none
def nxD:D->Nat->D
 | .tuple [.int _,.tuple ds],x=>ds.getD x .none
 | _,_=>.none
inductive TrS (n:Nat):D->Prop
 | none:TrS n .none
 | node {b:Nat}{ds:List D}:b<n->ds.length=n->(∀d∈ds,TrS n d)->TrS n (.tuple [.int (b:Int),.tuple ds])
def oV:Option Nat->V
 | none=>.non
 | some x=>.int (x:Int)
theorem bP (l:List (Option Nat)):(l.map oV).all flatV=true:=by
 rw[List.all_map]
 exact List.all_eq_true.mpr fun x _=>by cases x <;> rfl
theorem zJ7 (i j:Int):eqV (.int i) (.int j)=decide (i=j):=by
 show (i == j)=_
 rw[Bool.eq_iff_iff,beq_iff_eq,decide_eq_true_iff]
theorem yM7 (l:List (Option Nat)) (p:Nat):inV (.int (p:Int)) (l.map oV)=l.contains (some p):=by
 unfold inV
 rw[List.any_map,Bool.eq_iff_iff,List.any_eq_true,List.contains_iff_mem]
 constructor
 ·rintro ⟨x,hx,e⟩
  cases x with
  | none=>cases e
  | some y =>
   have e:eqV (.int (y:Int)) (.int (p:Int))=true:=e
   rw[zJ7] at e
   have:=of_decide_eq_true e
   have:y=p:=by bv_omega
   rw[<-this]
   exact hx
 ·intro h
  refine⟨_,h,?_⟩
  show eqV (.int (p:Int)) (.int (p:Int))=true
  rw[zJ7]
  exact decide_eq_true rfl
theorem yT9 {l:List (Option Nat)}{b:Nat}{o:Option Nat}(h:l[b]?=some o):atI (l.map oV) (b:Int)=some (oV o):=by
 unfold atI ixN
 have hb:=(List.getElem?_eq_some_iff.mp h).1
 rw[List.length_map,if_pos (by bv_omega),if_pos (by bv_omega)]
 simp[h]
def rTupV (K:KFr):List V->Hp->VK->Prop:=fun xs H Q=>∃p ys,xs=[.ref p]/\((SqL K H p ys/\∀l,H l=none->Q (.ref l) (upd H l (.tup ys)))\/(SqT K H p ys/\Q (.ref p) H))
def tTnB (X:Cx) (k:Nat):TS:=tSeq (tAsg (tIf (tB (tIsN (tVar 6))) (tBM X.K "list" (rIdx X.K) (tVar 2) (zR (tC .non) tNil)) (tOp (rIxT X.K) (tVar 6) (tC (.int 0)))) (gName 7))
 (tSeq (tIfS (tB (tIsN (tOp (rIxL X.K) (tVar 2) (tVar 7)))) (tSeq (tDrop (tBM X.K "list" rAppend (tVar 4) (zR (tVar 7) tNil))) (tSeq (tAsg (tCallV X k 3 (zR (tVar 7) (zR (tVar 5) tNil))) (gName 5)) (tAsg (tVar 5) (gSub (tVar 2) (tVar 7) rSetL)))) tNext)
  (tIfS (tB (tNotN (tVar 6))) (tAsg (tOp (rIxT X.K) (tOp (rIxT X.K) (tVar 6) (tC (.int 1))) (tOp (rIxL X.K) (tVar 2) (tVar 7))) (gName 6)) tNext))
def tTn (X:Cx) (k:Nat):TS:=tSeq (tAsg (tLst tNil) (gName 4)) (tSeq (tAsg (tVar 1) (gName 5)) (tSeq (tAsg (tVar 0) (gName 6)) (tSeq (tWhile (tTest (tOp (rIn X.K true) (tVar 1) (tVar 2))) (tTnB X k)) (tRet (tTup (zR (tVar 1) (zR (tCB (rTupV X.K) (zR (tVar 4) tNil)) tNil)))))))
def AskOk (X:Cx) (k:Nat) (H0:Hp) (sa f:Addr) (n:Nat) (g:Nat->Nat->Nat):Prop:=∀(H:Hp) (b l:Nat) (Q:VK),(∀c o,H0 c=some o->c≠sa->H c=some o)->b<n->l<n->Q (.int ((g b l:Nat):Int)) H->CallAt X.prog X.w X.K X.mg X.base k H f [.int (b:Int),.int (l:Int)] Q
structure TnAt (H0:Hp) (sa ba:Addr) (seen:List (Option Nat)) (bs:List Nat) (vr:V) (t:D) (H:Hp):Prop where
 same:∀c o,H0 c=some o->c≠sa->H c=some o
 see:H sa=some (.lst (seen.map oV))
 box:H ba=some (.lst (bs.map fun (b:Nat)=>V.int (b:Int)))
 tree:Rep H (fun c=>c=sa\/c=ba) vr t
theorem TnAt.upd {H0 H:Hp}{sa ba c:Addr}{ho:HO}{seen seen':List (Option Nat)}{bs bs':List Nat}{vr:V}{t:D}(T:TnAt H0 sa ba seen bs vr t H) (hc:c=sa\/c=ba) (hb:H0 ba=none) (h1:(L2.upd H c ho) sa=some (.lst (seen'.map oV))) (h2:(L2.upd H c ho) ba=some (.lst (bs'.map fun (b:Nat)=>V.int (b:Int)))):TnAt H0 sa ba seen' bs' vr t (L2.upd H c ho):=by
 refine⟨fun d o e n => ?_,h1,h2,T.tree.keep (fun d o e n=>by rw[zY (fun z=>n (by rw[z];exact hc))];exact e) fun d _ z=>z⟩
 rw[zY (fun z=>by
  rcases hc with w | w
  ·exact n (z.trans w)
  ·rw[z,w,hb] at e;cases e)]
 exact T.same d o e n
theorem atN {l:List V}{x:Nat}{v:V}(h:l[x]?=some v):atI l (x:Int)=some v:=by
 unfold atI ixN
 have hb:=(List.getElem?_eq_some_iff.mp h).1
 rw[if_pos (by bv_omega),if_pos (by bv_omega)]
 simp[h]
def stepT (t:D) (x:Nat):D:=if bxD t=none then t else nxD t x
theorem bL {X:Cx}{H0 H:Hp}{sa fa ba:Addr}{seen:List (Option Nat)}{bs:List Nat}{vr:V}{t:D}{n b x:Nat}{p l:Int}{v0:Option V}{E:Ends}(T:TnAt H0 sa ba seen bs vr t H) (ht:TrS n t) (hx:seen[b]?=some (some x)) (xn:x<n)
  (k0:∀vr',TnAt H0 sa ba seen bs vr' (stepT t x) H->TrS n (stepT t x)->E.nx [v0,some (.int p),some (.ref sa),some (.ref fa),some (.ref ba),some (.int l),some vr',some (.int (b:Int))] H) :
  (tIfS (tB (tNotN (tVar 6))) (tAsg (tOp (rIxT X.K) (tOp (rIxT X.K) (tVar 6) (tC (.int 1))) (tOp (rIxL X.K) (tVar 2) (tVar 7))) (gName 6)) tNext) E [v0,some (.int p),some (.ref sa),some (.ref fa),some (.ref ba),some (.int l),some vr,some (.int (b:Int))] H:=by
 refine⟨_,rfl,_,rfl,?_⟩
 show (if _=true then _ else _)
 have tr:=T.tree
 cases ht with
 | none =>
  cases tr
  rw[if_neg (by decide)]
  exact k0 _ T .none
 | @node b' ds hb hl hd =>
  cases tr with
  | @tup a _ _ rd no rs =>
   cases rs with
   | cons r1 r2 =>
    cases r1
    cases r2 with
    | cons r2 r3 =>
     cases r3
     cases r2 with
     | @tup c ys _ rd2 no2 rs2 =>
      rw[if_pos (show (!decide (V.ref a=V.non))=true by rw[decide_eq_false (fun z=>nomatch z)];rfl)]
      have ex:ds[x]?=some (ds.getD x .none):=by
       rw[List.getD,List.getElem?_eq_getElem (by rw[hl];exact xn)]
       rfl
      obtain⟨y,ey,ry⟩:=rs2.get ex
      refine⟨_,rfl,a,_,1,.ref c,rfl,rfl,.inl rd,rfl,_,rfl,_,rfl,sa,_,_,_,rfl,rfl,SqL.of T.see,yT9 hx,c,ys,_,y,rfl,rfl,.inl rd2,atN ey,?_⟩
      have e:stepT (.tuple [.int (b':Int),.tuple ds]) x=ds.getD x .none:=rfl
      refine k0 y ?_ ?_
      ·rw[e];exact⟨T.same,T.see,T.box,ry⟩
      ·rw[e];exact hd _ (List.mem_of_getElem? ex)
theorem zJ1 {X:Cx}{kk:Nat}{H0 H:Hp}{sa fa ba:Addr}{seen:List (Option Nat)}{bs:List Nat}{vr:V}{t:D}{n b l:Nat}{p:Int}{g:Nat->Nat->Nat}{v0:Option V}{E:Ends}(T:TnAt H0 sa ba seen bs vr t H) (hb0:H0 ba=none) (hs0:∃o,H0 sa=some o) (ask:AskOk X kk H0 sa fa n g) (hn:seen.length=n) (bn:b<n) (ln:l<n) (hbs:bs.length<1000) (hx:seen[b]?=some none)
  (k0:∀H',TnAt H0 sa ba (seen.set b (some (g b l))) (bs ++ [b]) vr t H'->E.nx [v0,some (.int p),some (.ref sa),some (.ref fa),some (.ref ba),some (.int ((g b l:Nat):Int)),some vr,some (.int (b:Int))] H') :
  (tIfS (tB (tIsN (tOp (rIxL X.K) (tVar 2) (tVar 7)))) (tSeq (tDrop (tBM X.K "list" rAppend (tVar 4) (zR (tVar 7) tNil))) (tSeq (tAsg (tCallV X kk 3 (zR (tVar 7) (zR (tVar 5) tNil))) (gName 5)) (tAsg (tVar 5) (gSub (tVar 2) (tVar 7) rSetL)))) tNext) E [v0,some (.int p),some (.ref sa),some (.ref fa),some (.ref ba),some (.int (l:Int)),some vr,some (.int (b:Int))] H:=by
 have sb:sa≠ba:=fun z=>by obtain⟨o,e⟩:=hs0;rw[z,hb0] at e;cases e
 refine⟨_,rfl,_,rfl,sa,_,_,_,rfl,rfl,SqL.of T.see,yT9 hx,_,rfl,?_⟩
 show (if _=true then _ else _)
 rw[if_pos (by decide)]
 refine⟨_,rfl,.inl ⟨rfl,_,SqL.of T.box⟩,_,rfl,ba,_,_,rfl,rfl,T.box,by rw[List.length_map];exact small1000 (by bv_omega),?_⟩
 have e1:(bs.map fun (b:Nat)=>V.int (b:Int)) ++ [V.int (b:Int)]=(bs ++ [b]).map fun (b:Nat)=>V.int (b:Int):=by rw[List.map_append];rfl
 rw[e1]
 have T1:TnAt H0 sa ba seen (bs ++ [b]) vr t (L2.upd H ba (.lst ((bs ++ [b]).map fun (b:Nat)=>V.int (b:Int)))):=T.upd (.inr rfl) hb0 (by rw[zY sb];exact T.see) zV
 refine⟨fa,rfl,_,rfl,_,rfl,ask _ b l _ T1.same bn ln ?_⟩
 refine⟨_,rfl,_,rfl,_,rfl,sa,_,_,b,rfl,rfl,T1.see,?_,?_⟩
 ·unfold ixN
  rw[List.length_map,hn,if_pos (by bv_omega),if_pos (by bv_omega)]
  simp
 ·have e2:(seen.map oV).set b (.int ((g b l:Nat):Int))=(seen.set b (some (g b l))).map oV:=by
   rw[List.map_set]
   rfl
  rw[e2]
  exact k0 _ (T1.upd (.inl rfl) hb0 zV (by rw[zY sb.symm];exact T1.box))
theorem TrS.leaf {n:Nat}{t:D}(h:TrS n t) (e:bxD t=Option.none):t=.none:=by
 cases h with
 | none=>rfl
 | node=>cases e
theorem TrS.box {n b:Nat}{t:D}(h:TrS n t) (e:bxD t=some b):b<n/\∃ds,t=.tuple [.int (b:Int),.tuple ds]:=by
 cases h with
 | none=>cases e
 | @node b' ds hb hl hd =>
  have e:some ((b':Int).toNat)=some b:=e
  rw[Int.toNat_natCast] at e
  cases e
  exact⟨hb,ds,rfl⟩
theorem zR8 {X:Cx}{H0 H:Hp}{sa fa ba:Addr}{seen:List (Option Nat)}{bs:List Nat}{vr:V}{t:D}{n b:Nat}{p l:Int}{v0 u7:Option V}{Q:VK}(T:TnAt H0 sa ba seen bs vr t H) (ht:TrS n t) (bn:b<1000) (h:(bxD t=some b)\/(bxD t=none/\seen[b]?=some none/\∀i,i<b->seen[i]?≠some none)) (q:Q (.int (b:Int)) H) :
  tIf (tB (tIsN (tVar 6))) (tBM X.K "list" (rIdx X.K) (tVar 2) (zR (tC .non) tNil)) (tOp (rIxT X.K) (tVar 6) (tC (.int 0))) [v0,some (.int p),some (.ref sa),some (.ref fa),some (.ref ba),some (.int l),some vr,u7] H Q:=by
 refine⟨_,rfl,_,rfl,?_⟩
 show (if _=true then _ else _)
 have tr:=T.tree
 rcases h with e | ⟨e,h1,h2⟩
 ·obtain⟨_,ds,rfl⟩:=ht.box e
  cases tr with
  | @tup a _ _ rd no rs =>
   cases rs with
   | cons r1 r2 =>
    cases r1
    rw[if_neg (show ¬decide (V.ref a=V.non)=true by rw[decide_eq_false (fun z=>nomatch z)];decide)]
    exact⟨_,rfl,a,_,0,_,rfl,rfl,.inl rd,atN (x:=0) rfl,q⟩
 ·obtain rfl:=ht.leaf e
  cases tr
  rw[if_pos (by decide)]
  refine⟨_,rfl,.inl ⟨rfl,_,SqL.of T.see⟩,sa,_,.non,b,.non,rfl,rfl,SqL.of T.see,rfl,bP _,by rw[List.getElem?_map,h1];rfl,rfl,fun m z hm ez => ?_,by bv_omega,q⟩
  rw[List.getElem?_map] at ez
  obtain⟨o,eo,rfl⟩:=Option.map_eq_some_iff.mp ez
  cases o with
  | none=>exact absurd eo (h2 m hm)
  | some x=>rfl
theorem yF3 {X:Cx}{kk:Nat}{H0:Hp}{sa fa:Addr}{seen0 out:List (Option Nat)}{rs0:List Rv}{v0:V}{t0:D}{n m0 p:Nat}{g:Nat->Nat->Nat}{E:Ends}(hs:H0 sa=some (.lst (seen0.map oV))) (ht0:Rep H0 (fun c=>c=sa) v0 t0) (tr0:TrS n t0) (hn:seen0.length=n) (n60:n<=60) (hp:p<n) (ins:∀x,some x∈seen0->x<n) (ask:AskOk X kk H0 sa fa n g) (hg:∀b l,b<n->l<n->g b l<n) (few:rs0.length<=900)
  (tn:Tn bxD nxD g p m0 t0 p seen0 rs0 out)
  (k0:∀(a c:Addr) (H':Hp),H0 a=none->H0 c=none->a≠c->(∀d o,H0 d=some o->d≠sa->H' d=some o)->H' sa=some (.lst (out.map oV))->H' a=some (.tup [.int (p:Int),.ref c])->H' c=some (.tup (rs0.map fun r=>V.int ((r.1:Nat):Int)))->E.rt (.ref a) H') :
  tTn X kk E [some v0,some (.int (p:Int)),some (.ref sa),some (.ref fa),none,none,none,none] H0:=by
 refine⟨Nat.zero_le _,fun ba hba => ?_⟩
 have sb:sa≠ba:=fun z=>by rw[z,hba] at hs;cases hs
 have T0:TnAt H0 sa ba seen0 [] v0 t0 (L2.upd H0 ba (.lst [])):=by
  refine⟨fun c o e _ => ?_,?_,zV,ht0.keep (fun c o e _ => ?_) fun c hc z => ?_⟩
  ·rw[zY (fun z=>by rw[z,hba] at e;cases e)];exact e
  ·rw[zY sb];exact hs
  ·rw[zY (fun z=>by rw[z,hba] at e;cases e)];exact e
  ·rcases z with z | z
   ·exact z
   ·exact absurd hba (by rw[<-z];exact hc)
 generalize L2.upd H0 ba (.lst [])=H1 at T0
 refine⟨_,rfl,?_⟩
 refine⟨_,rfl,?_⟩
 refine⟨fun m σ H=>∃t l seen bs rs vr u7,Tn bxD nxD g p m t l seen rs out/\bs++rs.map (·.1)=rs0.map (·.1)/\seen.length=n/\(∀x,some x∈seen->x<n)/\l<n/\TrS n t/\TnAt H0 sa ba seen bs vr t H/\σ=[some v0,some (.int (p:Int)),some (.ref sa),some (.ref fa),some (.ref ba),some (.int (l:Int)),some vr,u7],⟨m0,t0,p,seen0,[],rs0,v0,none,tn,rfl,hn,ins,hp,tr0,T0,rfl⟩,?_⟩
 rintro m σ H ⟨t,l,seen,bs,rs,vr,u7,tn,eb,hl,hin,hln,ht,T,rfl⟩
 refine⟨_,rfl,_,rfl,sa,_,rfl,.inl (SqL.of T.see),rfl,bP _,_,rfl,?_⟩
 show (if _=true then _ else _)
 rw[yM7]
 have lb:bs.length+rs.length=rs0.length:=by
  have:=congrArg List.length eb
  rw[List.length_append,List.length_map,List.length_map] at this
  exact this
 have upd_in:∀(b y:Nat),y<n->∀x,some x∈seen.set b (some y)->x<n:=fun b y hy x hx=>by
  rcases List.mem_or_eq_of_mem_set hx with z | z
  ·exact hin x z
  ·cases z;exact hy
 cases tn with
 | done h =>
  rw[List.contains_iff_mem.mpr h,if_neg (by decide)]
  refine⟨_,rfl,_,rfl,ba,_,rfl,.inl ⟨SqL.of T.box,fun c hc => ?_⟩⟩
  refine⟨by show 2<=sizeLine;decide,fun a ha => ?_⟩
  have fr:∀d,H d=none->H0 d=none:=fun d hd=>by
   cases e:H0 d with
   | none=>rfl
   | some o =>
    by_cases z:d=sa
    ·rw[z,T.see] at hd;cases hd
    ·rw[T.same d o e z] at hd;cases hd
  have ac:a≠c:=fun z=>by rw[z,zV] at ha;cases ha
  have ha':H a=none:=by rw[zY ac] at ha;exact ha
  have sc:sa≠c:=fun z=>by rw[<-z,T.see] at hc;cases hc
  have sa':sa≠a:=fun z=>by rw[<-z,T.see] at ha';cases ha'
  refine k0 a c _ (fr a ha') (fr c hc) ac (fun d o e n' => ?_) ?_ zV ?_
  ·have hd:=T.same d o e n'
   rw[zY (fun z=>by rw[z,ha'] at hd;cases hd),zY (fun z=>by rw[z,hc] at hd;cases hd)]
   exact hd
  ·rw[zY sa',zY sc];exact T.see
  ·rw[zY ac.symm,zV]
   rw[List.map_nil,List.append_nil] at eb
   rw[eb,List.map_map]
   rfl
 | @leafN k _ _ b _ _ rs' h1 h2 h3 h4 tn' =>
  have bn:b<n:=by rw[<-hl];exact (List.getElem?_eq_some_iff.mp h3).1
  have gn:=hg b l bn hln
  rw[show seen.contains (some p)=false by rw[<-Bool.not_eq_true,List.contains_iff_mem];exact h1,if_pos (by decide)]
  refine⟨fun σ' H'=>∃t l seen bs rs vr u7,Tn bxD nxD g p k t l seen rs out/\bs++rs.map (·.1)=rs0.map (·.1)/\seen.length=n/\(∀x,some x∈seen->x<n)/\l<n/\TrS n t/\TnAt H0 sa ba seen bs vr t H'/\σ'=[some v0,some (.int (p:Int)),some (.ref sa),some (.ref fa),some (.ref ba),some (.int (l:Int)),some vr,u7],fun σ' H' w=>⟨k,Nat.lt_succ_self k,w⟩,?_⟩
  refine zR8 T ht (by bv_omega) (.inr ⟨h2,h3,h4⟩) ?_
  refine zJ1 T hba ⟨_,hs⟩ ask hl bn hln (by rw[List.length_cons] at lb;bv_omega) h3 fun H' T' => ?_
  have hx:(seen.set b (some (g b l)))[b]?=some (some (g b l)):=List.getElem?_set_self (by rw[hl];exact bn)
  refine bL T' ht hx gn fun vr' T2 ht2 => ?_
  have es:stepT t (g b l)=t:=if_pos h2
  rw[es] at T2 ht2
  exact⟨t,g b l,_,bs ++ [b],rs',vr',_,tn',by rw[List.append_assoc];exact eb,by rw[List.length_set];exact hl,upd_in b _ gn,gn,ht2,T2,rfl⟩
 | @nodeN k _ _ b _ _ rs' h1 h2 h3 tn' =>
  have bn:b<n:=(ht.box h2).1
  have gn:=hg b l bn hln
  rw[show seen.contains (some p)=false by rw[<-Bool.not_eq_true,List.contains_iff_mem];exact h1,if_pos (by decide)]
  refine⟨fun σ' H'=>∃t l seen bs rs vr u7,Tn bxD nxD g p k t l seen rs out/\bs++rs.map (·.1)=rs0.map (·.1)/\seen.length=n/\(∀x,some x∈seen->x<n)/\l<n/\TrS n t/\TnAt H0 sa ba seen bs vr t H'/\σ'=[some v0,some (.int (p:Int)),some (.ref sa),some (.ref fa),some (.ref ba),some (.int (l:Int)),some vr,u7],fun σ' H' w=>⟨k,Nat.lt_succ_self k,w⟩,?_⟩
  refine zR8 T ht (by bv_omega) (.inl h2) ?_
  refine zJ1 T hba ⟨_,hs⟩ ask hl bn hln (by rw[List.length_cons] at lb;bv_omega) h3 fun H' T' => ?_
  have hx:(seen.set b (some (g b l)))[b]?=some (some (g b l)):=List.getElem?_set_self (by rw[hl];exact bn)
  refine bL T' ht hx gn fun vr' T2 ht2 => ?_
  have es:stepT t (g b l)=nxD t (g b l):=if_neg (by rw[h2];exact fun z=>nomatch z)
  rw[es] at T2 ht2
  exact⟨_,g b l,_,bs ++ [b],rs',vr',_,tn',by rw[List.append_assoc];exact eb,by rw[List.length_set];exact hl,upd_in b _ gn,gn,ht2,T2,rfl⟩
 | @nodeO k _ _ b x _ _ _ h1 h2 h3 tn' =>
  have bn:b<n:=(ht.box h2).1
  have xn:x<n:=hin x (List.mem_of_getElem? h3)
  rw[show seen.contains (some p)=false by rw[<-Bool.not_eq_true,List.contains_iff_mem];exact h1,if_pos (by decide)]
  refine⟨fun σ' H'=>∃t l seen bs rs vr u7,Tn bxD nxD g p k t l seen rs out/\bs++rs.map (·.1)=rs0.map (·.1)/\seen.length=n/\(∀x,some x∈seen->x<n)/\l<n/\TrS n t/\TnAt H0 sa ba seen bs vr t H'/\σ'=[some v0,some (.int (p:Int)),some (.ref sa),some (.ref fa),some (.ref ba),some (.int (l:Int)),some vr,u7],fun σ' H' w=>⟨k,Nat.lt_succ_self k,w⟩,?_⟩
  refine zR8 T ht (by bv_omega) (.inl h2) ?_
  refine⟨_,rfl,_,rfl,sa,_,_,_,rfl,rfl,SqL.of T.see,yT9 h3,_,rfl,?_⟩
  show (if _=true then _ else _)
  rw[if_neg (show ¬decide (oV (some x)=V.non)=true by rw[decide_eq_false (fun z=>nomatch z)];decide)]
  refine bL T ht h3 xn fun vr' T2 ht2 => ?_
  have es:stepT t x=nxD t x:=if_neg (by rw[h2];exact fun z=>nomatch z)
  rw[es] at T2 ht2
  exact⟨_,l,seen,bs,rs,vr',_,tn',eb,hl,hin,hln,ht2,T2,rfl⟩
def AskAt (P:Program) (w:World) (K:KFr) (mg:Str->Option Value) (base:Heap) (k:Nat) (H0:Hp) (sa f:Addr) (n:Nat) (g:Nat->Nat->Nat):Prop:=∀(H:Hp) (b l:Nat) (Q:VK),(∀c o,H0 c=some o->c≠sa->H c=some o)->b<n->l<n->Q (.int ((g b l:Nat):Int)) H->CallAt P w K mg base k H f [.int (b:Int),.int (l:Int)] Q
def spTurn (P:Program) (w:World) (K:KFr) (mg:Str->Option Value) (base:Heap) (kk:Nat):Sp:=fun vs H Q _=>∃(v0:V) (t0:D) (n m0 p:Nat) (sa fa:Addr) (seen0 out:List (Option Nat)) (rs0:List Rv) (g:Nat->Nat->Nat),vs=[v0,.int (p:Int),.ref sa,.ref fa]/\H sa=some (.lst (seen0.map oV))/\Rep H (fun c=>c=sa) v0 t0/\TrS n t0/\seen0.length=n/\n<=60/\p<n/\(∀x,some x∈seen0->x<n)/\AskAt P w K mg base kk H sa fa n g/\(∀b l,b<n->l<n->g b l<n)/\rs0.length<=900/\Tn bxD nxD g p m0 t0 p seen0 rs0 out /\
 ∀(a c:Addr) (H':Hp),H a=none->H c=none->a≠c->(∀d o,H d=some o->d≠sa->H' d=some o)->H' sa=some (.lst (out.map oV))->H' a=some (.tup [.int (p:Int),.ref c])->H' c=some (.tup (rs0.map fun r=>V.int ((r.1:Nat):Int)))->Q (.ref a) H'
section
variable {P:Program}{w:World}{K:KFr}{mg:Str->Option Value}{base:Heap}
theorem yC4 {x:Str}{st:Stmt}{f:Addr}{fd:FuncData}{N ps:List Str}{k kk:Nat}(F:Fun K x x st f fd) (S:zJ N ps (zT st)) (hp:ps.length=4) (hN:N.length=8)
  (hbody:∀(cdv:Value) (A:Around) (outer:List Env) (s:Shared) (H:Hp) (E:XK),Room k (A.deeper (envOfC x (zT st) s.heap.objs.size f cdv))->PSs (cxOf CX0 P w K mg base N x (zT st) f cdv A outer s H E).nox (defBody st) (tTn (cxOf CX0 P w K mg base N x (zT st) f cdv A outer s H E).nox kk)) :
  FnOk P w K mg base CX0 (k+1) f fd ps (spTurn P w K mg base kk):=by
 refine F.ok S (fun vs H Q E ⟨v0,t0,n,m0,p,sa,fa,seen0,out,rs0,g,e,_⟩=>by rw[e,hp];rfl) fun cdv A outer s H vs Q E hr h => ?_
 obtain⟨v0,t0,n,m0,p,sa,fa,seen0,out,rs0,g,rfl,h1,h2,h3,h4,h5,h6,h7,h8,h9,h10,h11,q⟩:=h
 refine⟨_,hbody cdv A outer s H E hr,?_⟩
 have st:start N [v0,V.int (p:Int),V.ref sa,V.ref fa]=[some v0,some (.int (p:Int)),some (.ref sa),some (.ref fa),none,none,none,none]:=by
  unfold start
  rw[hN]
  rfl
 rw[st]
 exact yF3 h1 h2 h3 h4 h5 h6 h7 h8 h9 h10 h11 q
end
def rLenV (K:KFr):List V->Hp->VK->Prop:=fun xs H Q=>∃p ys,xs=[.ref p]/\(SqL K H p ys\/SqT K H p ys)/\Q (.int ys.length) H
section
variable (P:Program) (w:World) (K:KFr) (mg:Str->Option Value) (base:Heap)
def AskE (k:Nat) (H0:Hp) (f:Addr) (n:Nat) (g:Nat->Nat->Nat):Prop:=∀(H:Hp) (b l:Nat) (Q:VK),Same H0 H->b<n->l<n->Q (.int ((g b l:Nat):Int)) H->CallAt P w K mg base k H f [.int (b:Int),.int (l:Int)] Q
def tGm (kk:Nat) (wi:TI):TS:=tSeq (tAsg (tOp rRep (tLst (zR (tC .non) tNil)) (tCB (rLenV K) (zR (tVar 0) tNil))) (gName 3)) (tSeq (tAsg (tLst tNil) (gName 4))
 (tSeq (tFor wi (gName 5) (tIfS (tTest (tOp (rIn K true) (tVar 5) (tVar 3))) (tDrop (tBM K "list" rAppend (tVar 4) (zR (tCall (spTurn P w K mg base kk) [] E0 (zR (tOp (rIxT K) (tVar 0) (tVar 5)) (zR (tVar 5) (zR (tVar 3) (zR (tVar 2) tNil))))) tNil))) tNext))
  (tRet (tTup (zR (tVar 4) (zR (tVar 3) tNil))))))
end
def TurnsAt (H0 H:Hp) (as:List Addr) (out:List (Nat×List Rv)):Prop:=as.length=out.length/\∀(j:Nat) (a:Addr) (z:Nat×List Rv),as[j]?=some a->out[j]?=some z->∃c,H0 c=none/\H a=some (.tup [.int ((z.1:Nat):Int),.ref c])/\H c=some (.tup (z.2.map fun r=>V.int ((r.1:Nat):Int)))
structure GmAt (H0:Hp) (sa da:Addr) (seen:List (Option Nat)) (out:List (Nat×List Rv)) (H:Hp):Prop where
 same:Same H0 H
 see:H sa=some (.lst (seen.map oV))
 don:∃as,H da=some (.lst (as.map V.ref))/\TurnsAt H0 H as out/\∀a∈as,H0 a=none
theorem GmAt.up {H0 H H1:Hp}{sa da:Addr}{seen:List (Option Nat)}{out:List (Nat×List Rv)}(G:GmAt H0 sa da seen out H) (s4:Same H H1):GmAt H0 sa da seen out H1:=by
 obtain⟨as,e1,e2,e3⟩:=G.don
 exact⟨G.same.trans s4,s4 _ _ G.see,as,s4 _ _ e1,⟨e2.1,fun j a z ea ez=>by obtain⟨c,q0,q1,q2⟩:=e2.2 j a z ea ez;exact⟨c,q0,s4 _ _ q1,s4 _ _ q2⟩⟩,e3⟩
theorem yG9 {P:Program}{w:World}{K:KFr}{mg:Str->Option Value}{base:Heap}{kk:Nat}{wi:TI}{H0:Hp}{pa fa:Addr}{v1:V}{ds:List D}{n:Nat}{po:List Nat}{out:List (Nat×List Rv)}{fin:List (Option Nat)}{g:Nat->Nat->Nat}{E:Ends}
  (hp:Rep H0 (fun _=>False) (.ref pa) (.tuple ds)) (hl:ds.length=n) (tr:∀d∈ds,TrS n d) (n60:n<=60) (hpo:∀p∈po,p<n) (lpo:po.length<=60) (ask:AskE P w K mg base kk H0 fa n g) (hg:∀b l,b<n->l<n->g b l<n) (few:∀z∈out,z.2.length<=900)
  (tin:∀(p k:Nat) (seen mid:List (Option Nat)) (rs:List Rv),Tn bxD nxD g p k (ds.getD p .none) p seen rs mid->seen.length=n->p<n->(∀x,some x∈seen->x<n)->mid.length=n/\∀x,some x∈mid->x<n)
  (gm:Gm bxD nxD g (fun p=>ds.getD p .none) po (List.replicate n none) out fin)
  (hw:∀(σ:St) (H:Hp) (R:It->Hp->Prop),Same H0 H->σ[0]?=some (some (.ref pa))->σ[1]?=some (some v1)->(∀l H1,Same H H1->H1 l=none->R (Itl K l) (L2.upd H1 l (.lst (po.map fun (p:Nat)=>V.int (p:Int)))))->wi σ H R)
  (k0:∀(a da sa:Addr) (H':Hp),H0 a=none->H0 da=none->H0 sa=none->GmAt H0 sa da fin out H'->H' a=some (.tup [.ref da,.ref sa])->E.rt (.ref a) H') :
  tGm P w K mg base kk wi E [some (.ref pa),some v1,some (.ref fa),none,none,none] H0:=by
 cases hp with
 | @tup _ ys _ rd no rs =>
 have yl:ys.length=n:=by rw[rs.length,hl]
 refine⟨by show 1<=sizeLine;decide,fun l1 h1 => ?_⟩
 have s1:=Same.new h1 (o:=.lst [V.non])
 refine⟨_,rfl,pa,ys,rfl,.inr (.inl (zA rd fun o e=>s1 _ _ e)),l1,_,_,rfl,rfl,zV,by bv_omega,by bv_omega,?_,?_⟩
 ·rw[yl]
  have:(60:Nat)<sizeLine:=by decide
  show 1*_<=_
  bv_omega
 intro sa hsa
 have e0:(List.replicate (ys.length:Int).toNat [V.non]).flatten=(List.replicate n (none:Option Nat)).map oV:=by
  rw[Int.toNat_natCast,yl,List.map_replicate]
  clear hsa
  induction n with
  | zero=>rfl
  | succ m ih=>rw[List.replicate_succ,List.flatten_cons,List.replicate_succ];simp[oV]
 rw[e0]
 have s2:Same H0 (L2.upd (L2.upd H0 l1 (.lst [V.non])) sa (.lst ((List.replicate n (none:Option Nat)).map oV))):=s1.trans (Same.new hsa)
 have sa0:H0 sa=none:=s1.free hsa
 have see0:(L2.upd (L2.upd H0 l1 (.lst [V.non])) sa (.lst ((List.replicate n (none:Option Nat)).map oV))) sa=some (.lst ((List.replicate n (none:Option Nat)).map oV)):=zV
 generalize L2.upd (L2.upd H0 l1 (.lst [V.non])) sa (.lst ((List.replicate n (none:Option Nat)).map oV))=H2 at s2 see0
 refine⟨Nat.zero_le _,fun da hda => ?_⟩
 have s3:=Same.new hda (o:=.lst [])
 have da0:H0 da=none:=s2.free hda
 have sd:sa≠da:=fun z=>by rw[<-z,see0] at hda;cases hda
 have G0:GmAt H0 sa da (List.replicate n none) [] (L2.upd H2 da (.lst [])):=⟨s2.trans s3,s3 _ _ see0,[],zV,⟨rfl,fun j a z ea=>by cases ea⟩,fun a ha=>nomatch ha⟩
 generalize L2.upd H2 da (.lst [])=H3 at G0
 refine hw _ H3 _ G0.same rfl rfl fun l H4 s34 hl0 => ?_
 replace G0:=G0.up s34
 clear s34
 have l0:H0 l=none:=G0.same.free hl0
 have s4:=Same.new hl0 (o:=.lst (po.map fun (p:Nat)=>V.int (p:Int)))
 have ls:l≠sa:=fun z=>by rw[z,G0.see] at hl0;cases hl0
 have ld:l≠da:=fun z=>by obtain⟨as,e,_⟩:=G0.don;rw[z,e] at hl0;cases hl0
 have G1:GmAt H0 sa da (List.replicate n none) [] (L2.upd H4 l (.lst (po.map fun (p:Nat)=>V.int (p:Int)))):=by
  obtain⟨as,e1,e2,e3⟩:=G0.don
  exact⟨G0.same.trans s4,s4 _ _ G0.see,as,s4 _ _ e1,⟨e2.1,fun j a z ea ez=>by obtain⟨c,q0,q1,q2⟩:=e2.2 j a z ea ez;exact⟨c,q0,s4 _ _ q1,s4 _ _ q2⟩⟩,e3⟩
 refine yR3 (xs:=po.map fun (p:Nat)=>V.int (p:Int)) (fun i σ H=>∃u5 seen rest dn,σ=[some (.ref pa),some v1,some (.ref fa),some (.ref sa),some (.ref da),u5]/\Gm bxD nxD g (fun p=>ds.getD p .none) (po.drop i) seen rest fin/\dn++rest=out/\dn.length<=i/\GmAt H0 sa da seen dn H/\seen.length=n/\(∀x,some x∈seen->x<n)/\H l=some (.lst (po.map fun (p:Nat)=>V.int (p:Int))))
  ⟨none,_,out,[],rfl,gm,rfl,Nat.zero_le _,G1,List.length_replicate,fun x hx=>(by have:=List.eq_of_mem_replicate hx;cases this),zV⟩ (fun i σ H _ ⟨_,_,_,_,_,_,_,_,_,_,_,e⟩=>SqL.of e) ?_ ?_
 ·rintro i v σ H ev ⟨u5,seen,rest,dn,rfl,gm,eo,ld0,G,hs,hin,hll⟩
  rw[List.getElem?_map] at ev
  obtain⟨p,ep,rfl⟩:=Option.map_eq_some_iff.mp ev
  have hi:=(List.getElem?_eq_some_iff.mp ep).1
  have pn:p<n:=hpo p (List.mem_of_getElem? ep)
  have dr:po.drop i=p::po.drop (i+1):=by
   rw[List.drop_eq_getElem_cons hi]
   rw[List.getElem?_eq_getElem hi] at ep
   rw[Option.some.inj ep]
  rw[dr] at gm
  refine⟨_,rfl,_,rfl,sa,_,rfl,.inl (SqL.of G.see),rfl,bP _,_,rfl,?_⟩
  show (if _=true then _ else _)
  rw[yM7]
  cases gm with
  | skip h gm' =>
   rw[List.contains_iff_mem.mpr h,if_neg (by decide)]
   exact⟨_,seen,rest,dn,rfl,gm',eo,by bv_omega,G,hs,hin,hll⟩
  | @play _ k _ _ mid _ rs1 out' h tn gm' =>
   rw[show seen.contains (some p)=false by rw[<-Bool.not_eq_true,List.contains_iff_mem];exact h,if_pos (by decide)]
   obtain⟨as,d1,d2,d3⟩:=G.don
   have ex:ds[p]?=some (ds.getD p .none):=by
    rw[List.getD,List.getElem?_eq_getElem (by rw[hl];exact pn)]
    rfl
   obtain⟨y,ey,ry⟩:=rs.get ex
   have mo:(p,rs1)∈out:=by rw[<-eo];exact List.mem_append_right _ List.mem_cons_self
   obtain⟨m1,m2⟩:=tin p k seen mid rs1 tn hs pn hin
   refine⟨_,rfl,.inl ⟨rfl,_,SqL.of d1⟩,_,rfl,_,rfl,pa,ys,_,y,rfl,rfl,.inl (zA rd fun o e=>G.same _ _ e),atN ey,_,rfl,_,rfl,_,rfl,y,ds.getD p .none,n,k,p,sa,fa,seen,mid,rs1,g,rfl,G.see,ry.keep (fun b o e _=>G.same b o e) (fun b hb z=>absurd sa0 (by rw[<-z];exact hb)),tr _ (List.mem_of_getElem? ex),hs,n60,pn,hin,?_,hg,few _ mo,tn,?_⟩
   ·intro H1 b l Q keep bn ln q
    exact ask H1 b l Q (fun c o e=>keep c o (G.same _ _ e) (fun z=>by rw[z,sa0] at e;cases e)) bn ln q
   ·intro a c H' ha hc ac keep hsee hta htc
    have dda:=keep _ _ d1 sd.symm
    have aln:as.length<=i:=by rw[d2.1];exact ld0
    refine⟨da,_,_,rfl,rfl,dda,by rw[List.length_map];exact small1000 (by bv_omega),?_⟩
    have nad:∀(x:Addr) (o:HO),H' x=some o->(∀zs,o ≠ .lst zs)->(L2.upd H' da (.lst (as.map V.ref ++ [.ref a]))) x=some o:=fun x o e n'=>by
     rw[zY (fun z=>by rw[z,dda] at e;cases e;exact n' _ rfl)]
     exact e
    refine⟨_,mid,out',dn ++ [(p,rs1)],rfl,gm',by rw[List.append_assoc];exact eo,by rw[List.length_append,List.length_singleton];bv_omega,⟨fun b o e => ?_,?_,as ++ [a],?_,⟨?_,fun j b z eb ez => ?_⟩,fun b hb => ?_⟩,m1,m2,?_⟩
    ·rw[zY (fun z=>by rw[z,da0] at e;cases e)]
     exact keep _ _ (G.same _ _ e) (fun z=>by rw[z,sa0] at e;cases e)
    ·rw[zY sd];exact hsee
    ·rw[zV,List.map_append];rfl
    ·rw[List.length_append,List.length_append,d2.1];rfl
    ·by_cases hj:j<as.length
     ·rw[List.getElem?_append_left hj] at eb
      rw[List.getElem?_append_left (by rw[<-d2.1];exact hj)] at ez
      obtain⟨c',q0,q1,q2⟩:=d2.2 j b z eb ez
      exact⟨c',q0,nad _ _ (keep _ _ q1 (fun w=>by rw[w,G.see] at q1;cases q1)) (fun zs w=>nomatch w),nad _ _ (keep _ _ q2 (fun w=>by rw[w,G.see] at q2;cases q2)) (fun zs w=>nomatch w)⟩
     ·rw[List.getElem?_append_right (by bv_omega)] at eb
      rw[List.getElem?_append_right (by rw[<-d2.1];bv_omega)] at ez
      have hj0:j-as.length=0:=by
       cases q:j-as.length with
       | zero=>rfl
       | succ i=>rw[q] at eb;cases eb
      rw[hj0] at eb
      rw[<-d2.1,hj0] at ez
      cases eb
      cases ez
      exact⟨c,G.same.free hc,nad _ _ hta (fun zs w=>nomatch w),nad _ _ htc (fun zs w=>nomatch w)⟩
    ·rcases List.mem_append.mp hb with q | q
     ·exact d3 b q
     ·rw[List.mem_singleton.mp q]
      exact G.same.free ha
    ·rw[zY ld]
     exact keep _ _ hll ls
 ·rintro σ H ⟨u5,seen,rest,dn,rfl,gm,eo,_,G,hs,hin,hll⟩
  rw[List.length_map,List.drop_length] at gm
  cases gm
  rw[List.append_nil] at eo
  subst eo
  refine⟨_,rfl,_,rfl,by show 2<=sizeLine;decide,fun a ha => ?_⟩
  have s5:=Same.new ha (o:=.tup [V.ref da,V.ref sa])
  obtain⟨as,d1,d2,d3⟩:=G.don
  exact k0 a da sa _ (G.same.free ha) da0 sa0 ⟨G.same.trans s5,s5 _ _ G.see,as,s5 _ _ d1,⟨d2.1,fun j b z eb ez=>by obtain⟨c,q0,q1,q2⟩:=d2.2 j b z eb ez;exact⟨c,q0,s5 _ _ q1,s5 _ _ q2⟩⟩,d3⟩ zV
theorem TrS.next {n x:Nat}{t:D}(h:TrS n t) (hx:x<n):TrS n (nxD t x):=by
 cases h with
 | none=>exact .none
 | @node b ds hb hl hd =>
  show TrS n (ds.getD x .none)
  rw[List.getD,List.getElem?_eq_getElem (by rw[hl];exact hx)]
  exact hd _ (List.getElem_mem ..)
theorem yF6 {n:Nat}{g:Nat->Nat->Nat}(hg:∀b l,b<n->l<n->g b l<n){p k:Nat}{t:D}{l:Nat}{seen mid:List (Option Nat)}{rs:List Rv}(h:Tn bxD nxD g p k t l seen rs mid):TrS n t->seen.length=n->l<n->(∀x,some x∈seen->x<n)->mid.length=n/\∀x,some x∈mid->x<n:=by
 have put:∀(seen:List (Option Nat)) (b y:Nat),(∀x,some x∈seen->x<n)->y<n->∀x,some x∈seen.set b (some y)->x<n:=fun seen b y hin hy x hx=>by
  rcases List.mem_or_eq_of_mem_set hx with z | z
  ·exact hin x z
  ·cases z;exact hy
 induction h with
 | done h=>exact fun _ h1 _ h2=>⟨h1,h2⟩
 | @leafN k t l b seen out rs h1 h2 h3 h4 _ ih =>
  intro ht hl ln hin
  have bn:b<n:=by rw[<-hl];exact (List.getElem?_eq_some_iff.mp h3).1
  exact ih ht (by rw[List.length_set];exact hl) (hg b l bn ln) (put seen b _ hin (hg b l bn ln))
 | @nodeN k t l b seen out rs h1 h2 h3 _ ih =>
  intro ht hl ln hin
  have bn:=(ht.box h2).1
  exact ih (ht.next (hg b l bn ln)) (by rw[List.length_set];exact hl) (hg b l bn ln) (put seen b _ hin (hg b l bn ln))
 | @nodeO k t l b x seen out rs h1 h2 h3 _ ih =>
  intro ht hl ln hin
  exact ih (ht.next (hin x (List.mem_of_getElem? h3))) hl ln hin
def spPlayed (P:Program) (w:World) (K:KFr) (mg:Str->Option Value) (base:Heap) (kk:Nat) (Or:Hp->V->Nat->List Nat->Prop):Sp:=fun vs H Q _=>∃(pa fa:Addr) (v1:V) (ds:List D) (n:Nat) (po:List Nat) (out:List (Nat×List Rv)) (fin:List (Option Nat)) (g:Nat->Nat->Nat),vs=[.ref pa,v1,.ref fa]/\Rep H (fun _=>False) (.ref pa) (.tuple ds)/\ds.length=n/\(∀d∈ds,TrS n d)/\n<=60/\(∀p∈po,p<n)/\po.length<=60/\Or H v1 n po/\AskE P w K mg base kk H fa n g/\(∀b l,b<n->l<n->g b l<n)/\(∀z∈out,z.2.length<=900)/\Gm bxD nxD g (fun p=>ds.getD p .none) po (List.replicate n none) out fin /\
 ∀(a da sa:Addr) (H':Hp),H a=none->H da=none->H sa=none->GmAt H sa da fin out H'->H' a=some (.tup [.ref da,.ref sa])->Q (.ref a) H'
section
variable {P:Program}{w:World}{K:KFr}{mg:Str->Option Value}{base:Heap}
end
theorem yW1 {H:Hp}{cl:Addr}{o:HO}(h:H cl=some o):L2.upd (rmv H cl) cl o=H:=by
 funext b
 by_cases z:b=cl
 ·subst z
  rw[zV,h]
 ·rw[zY z]
  exact yT z
section
variable {P:Program}{w:World}{K:KFr}{mg:Str->Option Value}{base:Heap}
theorem yJ4 {H0:Hp}{ps:List Str}{y:Str}{sc:Scope}{q:Str}{f cl oa:Addr}{oc:Obj}{uy:Value}{params:Arguments}{body:Expr}{k n i:Nat}{xs:List Int}(hi:i<2) (S:LamScope ps y sc) (hps:ps.length=2) (L:LamAt H0 f q params body sc [(y,cl)]) (C:H0 cl=some (cellO cl oc)) (hd:oc.data=.cell (some uy)) (rv:RelV (.ref oa) uy) (ho:Rd H0 oa (.tup (xs.map V.int))) (o:Ord n xs)
  (hb:∀(us:List Value) (pm cd ctv:Value),us.length=2->bindArgs (PySem.W.kla_fn "<lambda>" q params body sc [(y,cl)] pm cd ctv) ⟨us,[]⟩=pure (ps.zip us))
  (hbody:∀(H:Hp) (A:Around) (outer:List Env) (s:Shared) (c':Addr),PE (cxLam P w K mg base (ps ++ [y]) q sc f (.ref c') [(y,cl)] A outer s (rmv H cl)) body (tOp (rIxT K) (tVar 2) (tVar i))) :
  AskE P w K mg base (k+1) H0 f n (fun b l=>if i=0 then nxt xs b else nxt xs l):=by
 intro H b l Q s bn ln hq
 have C':=s _ _ C
 have L':=L.ext (fun b o e=>s b o e)
 have oacl:oa≠cl:=fun z=>by
  rw[z] at ho
  rcases ho with ho | ⟨_,ho⟩
  ·rw[C] at ho;cases ho
  ·rw[C] at ho;cases ho
 refine⟨?_,fun A outer s1 us hr e0 r => ?_⟩
 ·obtain⟨c',ctv,pm,o2,u,v,ws,tk,hf,_⟩:=L'
  exact⟨_,_,_,hf,rfl⟩
 ·have hl:us.length=2:=by rw[<-r.length];rfl
  refine yV9 S hr e0 L' C' hd rv (fun pm cd ctv=>hb us pm cd ctv hl) (by rw[hps];rfl) r (fun c'=>hbody H A outer s1 c') ?_
  have gt:∀c:Nat,c<n->atI (xs.map V.int) (c:Int)=some (V.int ((nxt xs c:Nat):Int)):=fun c hc=>by
   rw[wF,wJ (by rw[o.len];exact hc),o.yM hc]
   rfl
  have rd:Rd (rmv H cl) oa (.tup (xs.map V.int)):=zA ho fun o e=>by rw[yT oacl];exact s _ _ e
  have fin:Q (.int ((if i=0 then nxt xs b else nxt xs l:Nat):Int)) (L2.upd (rmv H cl) cl (cellO cl oc)):=by
   rw[yW1 C']
   exact hq
  rcases (show i=0\/i=1 by bv_omega) with rfl | rfl
  ·exact⟨_,rfl,_,rfl,oa,_,_,_,rfl,rfl,.inl rd,gt b bn,fun _=>fin⟩
  ·exact⟨_,rfl,_,rfl,oa,_,_,_,rfl,rfl,.inl rd,gt l ln,fun _=>fin⟩
end
end L2.L3
namespace L2
open PySem PySem.Spec PyProof.Rows
section
variable {X:Cx}{pins:List (Addr×Obj)}{σ:St}{H:Hp}{s:Shared}{m:Str->Option Value}
theorem xZ2 {h:Heap}{a:Addr}{m m':Str->Option Value}(x:h.Ns a m) (y:h.Ns a m'):m=m':=by
 obtain⟨o,es,ep,ho,d,_,f⟩:=x
 obtain⟨o',es',ep',ho',d',_,f'⟩:=y
 rw[ho] at ho'
 cases ho'
 rw[d] at d'
 cases d'
 funext n
 rw[<-f n,<-f' n]
theorem Inv.yU8 {Q:VK}{u:Value}{s':Shared}(I:Inv X pins σ H s) (h:CE X.stack X.prog X.w H s Q u s') (hm:s.heap.Ns X.env.locals m):EP X pins σ Q u s'/\s'.heap.Ns X.env.locals m:=by
 refine⟨I.after h,?_⟩
 obtain⟨v,H',os,bare,un,hok,r,q⟩:=h
 obtain⟨o,es,ep,ho,r⟩:=hm
 obtain⟨sl,hL⟩:=un.any ho I.free (by simp)
 exact⟨_,es,ep,hL,r⟩
theorem Inv.chg {b:Addr}{h':Heap}(I:Inv X pins σ H s) (f:FpOk X pins H b) (hm:s.heap.Ns X.env.locals m) (hm':h'.Ns X.env.locals m) (k:∀c o,c≠X.env.locals->c≠b->s.heap.get? c=some o->h'.get? c=some o):Inv X pins σ H { s with heap:=h' }:=by
 obtain⟨f0,f1,f2,f3,f4,f5⟩:=f
 have nb:∀c u,H c=some u->c≠b:=fun c u e z=>by rw[z,f0] at e;cases e
 have nL:∀c u,H c=some u->c≠X.env.locals:=fun c u e z=>by rw[z,I.free] at e;cases e
 refine I.step (g':=s.gens) (d':=s.drawn) (t':=s.toks) (ch:=[b]) (fun c hc => ?_) (fun c o hL _ hc e _=>k c o hL (fun z=>hc (by simp[z])) e) (fun c o hL _ hc e _=>⟨o.slots,k c o hL (fun z=>hc (by simp[z])) e⟩) (fun _ _ _ _ n=>n)
  (fun c o hc e => ?_) (fun _ _ e=>e) (fun _ _ _ e=>e) (fun _ _ e=>e) (fun m1 h1=>by rw[xZ2 h1 hm];exact hm') (fun c u e=>(I.hok c u e).stay (fun d v hd q => ?_) (fun _ q=>q) (fun _ _ q=>q) fun _ _ _ q=>q) I.bare
 ·obtain rfl:c=b:=by simpa using hc
  exact⟨f3,f1,f4,f5⟩
 ·by_cases z:c=X.env.locals
  ·obtain⟨o',_,_,ho',_⟩:=hm'
   exact⟨o',by rw[z];exact ho'⟩
  ·exact⟨o,k c o z (fun z=>hc (by simp[z])) e⟩
 ·rcases hd with z | z
  ·rw[z] at q ⊢
   exact k c v (nL c u e) (nb c u e) q
  ·exact k d v (nL d _ z) (nb d _ z) q
theorem Inv.take {b:Addr}{o:HO}(I:Inv X pins σ H s) (f:FpOk X pins H b) (ok:ObjOk X.prog X.w (upd H b o) s.heap b o):Inv X pins σ (upd H b o) s:=by
 obtain⟨f0,f1,f2,f3,f4,f5⟩:=f
 have nb:∀c u,H c=some u->c≠b:=fun c u e z=>by rw[z,f0] at e;cases e
 have up:∀c u,H c=some u->upd H b o c=some u:=fun c u e=>by rw[zY (nb c u e)];exact e
 refine I.step (h':=s.heap) (g':=s.gens) (d':=s.drawn) (t':=s.toks) (ch:=[b]) (fun c hc => ?_) (fun c o _ _ _ e _=>e) (fun c o _ _ _ e _=>⟨o.slots,e⟩) (fun c o hc _ n=>by rw[zY (fun z=>hc (by simp[z]))];exact n)
  (fun c o _ e=>⟨o,e⟩) (fun c _ e=>up c _ e) (fun c _ _ e=>up c _ e) (fun c _ e=>up c _ e) (fun m1 h1=>h1) (fun c u e => ?_) I.bare
 ·obtain rfl:c=b:=by simpa using hc
  exact⟨f3,f1,f4,f5⟩
 ·by_cases z:c=b
  ·subst z
   rw[zV] at e
   cases e
   exact ok
  ·rw[zY z] at e
   exact (I.hok c u e).stay (fun d v _ q=>q) (fun d q=>up d _ q) (fun d _ q=>up d _ q) fun d _ _ q=>up d _ q
theorem Inv.sub {pins':List (Addr×Obj)}(I:Inv X pins σ H s) (h:∀p∈pins',p∈pins):Inv X pins' σ H s:=I.yC fun p hp=>I.pin p (List.mem_append_right _ (h p hp))
theorem FpOk.at {b:Addr}{H':Hp}(f:FpOk X pins H b) (h:H' b=none):FpOk X pins H' b:=⟨h,f.2⟩
structure Two (X:Cx) (pins:List (Addr×Obj)) (σ:St) (m:Str->Option Value) (a kS:Addr) (e1:Nat) (ks:List Value) (e:Nat) (H:Hp) (s:Shared):Prop where
 inv:Inv X pins σ H s
 ns:s.heap.Ns X.env.locals m
 fk:FpOk X pins H kS
 fa:FpOk X pins H a
 ne:kS≠a
 gk:s.heap.get? kS=some (seqObj "list" (List.toArray ks) e)
 ga:s.heap.get? a=some (seqObj "list" #[] e1)
theorem Two.pinned {a kS:Addr}{e1 e:Nat}{ks:List Value}(T:Two X pins σ m a kS e1 ks e H s):Inv X ((kS,seqObj "list" (List.toArray ks) e)::(a,seqObj "list" #[] e1)::pins) σ H s:=by
 refine T.inv.yC fun p hp => ?_
 rcases List.mem_cons.mp hp with rfl | hp
 ·exact⟨T.gk,T.fk.1,T.fk.2.1,T.fk.2.2.1,fun v z=>nomatch z⟩
 ·rcases List.mem_cons.mp hp with rfl | hp
  ·exact⟨T.ga,T.fa.1,T.fa.2.1,T.fa.2.2.1,fun v z=>nomatch z⟩
  ·exact T.inv.pin p (List.mem_append_right _ hp)
theorem Two.call {a kS:Addr}{e1 e:Nat}{ks:List Value}{Q:VK}{u:Value}{s':Shared}(T:Two X pins σ m a kS e1 ks e H s) (h:CE X.stack X.prog X.w H s Q u s'):∃v H',Two X pins σ m a kS e1 ks e H' s'/\RelV v u/\Q v H':=by
 obtain⟨⟨v,H',I,r,q⟩,ns⟩:=T.pinned.yU8 h T.ns
 have p1:=I.pin _ (List.mem_append_right _ (List.mem_cons_self ..))
 have p2:=I.pin _ (List.mem_append_right _ (List.mem_cons_of_mem _ (List.mem_cons_self ..)))
 exact⟨v,H',⟨I.sub fun p hp=>List.mem_cons_of_mem _ (List.mem_cons_of_mem _ hp),ns,T.fk.at p1.2.1,T.fa.at p2.2.1,T.ne,p1.1,p2.1⟩,r,q⟩
theorem Two.fr {a kS:Addr}{e1 e:Nat}{ks:List Value}(T:Two X pins σ m a kS e1 ks e H s):Fr X.base X.env.locals s.heap m:=⟨T.ns,T.inv.bk,Nat.le_trans T.inv.ok.bsz T.inv.ok.above⟩
theorem FpOk.nobase {b:Addr}(f:FpOk X pins H b) (I:Inv X pins σ H s):X.base.get? b=none:=by
 cases e:X.base.get? b with
 | none=>rfl
 | some o =>
  rcases f.2.2.2.1 with z | z
  ·exact absurd z (I.ok.noex b o e)
  ·exact absurd (Nat.lt_of_lt_of_le (Heap.lt_size e) (Nat.le_trans I.ok.bsz z)) (Nat.lt_irrefl _)
theorem Two.newsK {a kS:Addr}{e1 e:Nat}{ks:List Value}(T:Two X pins σ m a kS e1 ks e H s):News X.base X.env.locals s.heap ((kS,seqObj "list" (List.toArray ks) e)::rest X.base s.heap X.env.locals kS):=aY T.fk.2.1 (T.fk.nobase T.inv) T.gk
theorem Two.setK {a kS:Addr}{e1 e c:Nat}{ks ks':List Value}{h':Heap}(T:Two X pins σ m a kS e1 ks e H s) (F:Fr X.base X.env.locals h' m) (N:News X.base X.env.locals h' ((kS,seqObj "list" (List.toArray ks') c)::rest X.base s.heap X.env.locals kS)):Two X pins σ m a kS e1 ks' c H { s with heap:=h' }:=by
 have kp:=qI (fun b o e=>T.inv.bk b o e) F fun p hp=>N p (List.mem_cons_of_mem _ hp)
 exact⟨T.inv.chg T.fk T.ns F.ns kp,F.ns,T.fk,T.fa,T.ne,(N _ (List.mem_cons_self ..)).1,kp _ _ T.fa.2.1 T.ne.symm T.ga⟩
theorem Two.setA {a kS:Addr}{e1 e c:Nat}{ks:List Value}{out:List V}{its:List Value}{h':Heap}(T:Two X pins σ m a kS e1 ks e H s) (F:Fr X.base X.env.locals h' m) (N:News X.base X.env.locals h' ((a,PySem.W.listOf (List.toArray its) c)::rest X.base s.heap X.env.locals a)) (hz:out.length<=sizeLine) (r:Vals out its):Inv X pins σ (upd H a (.lst out)) { s with heap:=h' }:=by
 have kp:=qI (fun b o e=>T.inv.bk b o e) F fun p hp=>N p (List.mem_cons_of_mem _ hp)
 have I:=T.inv.chg T.fa T.ns F.ns kp
 exact I.take T.fa ⟨hz,its,c,r,(N _ (List.mem_cons_self ..)).1⟩
end
end L2
namespace L2
open PySem PySem.Spec PyProof.Rows PySem.W
def KeyAt (H:Hp) (op:Nat->Int) (as:List Addr):Prop:=∀(j:Nat) (k:Addr),as[j]?=some k->H k=some (.tup [.int (op j),.int (j:Int)])
def ItemsFrom (i:Nat) (r:List Value):Prop:=∀(j:Nat) (v:Value),r[j]?=some v->∃t,v=.int ((i+j:Nat):Int) t
section
variable {X:Cx}{pins:List (Addr×Obj)}{σ:St}{H:Hp}{s:Shared}{m:Str->Option Value}{A:Around}
def AskK (X:Cx) (A:Around) (pins:List (Addr×Obj)) (σ:St) (H0:Hp) (f:Addr) (n:Nat) (op:Nat->Int):Prop:=∀(i:Nat) (t:Tok) (H:Hp) (s:Shared),i<n->Ext H0 H->Inv X pins σ H s ->
 codeAny (model X.prog X.w) A (.call (.ref f) ⟨[.int (i:Int) t],[]⟩) (CR CX0 X.stack X.prog X.w H s (fun v H'=>∃k,v=.ref k/\H k=none/\H'=upd H k (.tup [.int (op i),.int (i:Int)])) E0) s
theorem zK1 {a kS:Addr}{e1 e n i:Nat}{op:Nat->Int}{H0:Hp}{f:Addr}{t:Tok}{as:List Addr}{R:Value->Shared->Prop}(ask:AskK X A pins σ H0 f n op) (hi:i<n) (T:Two X pins σ m a kS e1 (as.map Value.ref) e H s) (x:Ext H0 H) (l:as.length=i) (ka:KeyAt H op as)
  (h:∀k H' s',Two X pins σ m a kS e1 (as.map Value.ref) e H' s'->Ext H0 H'->KeyAt H' op (as ++ [k])->R (.ref k) s'):wpAny (model X.prog X.w) A (call (.ref f) [.int (i:Int) t]) R (fun _ _=>False) s:=by
 refine wpAny_call (codeAny_mono (ask i t H s hi x T.inv) fun r s' hq => ?_)
 cases r with
 | error e=>exact False.elim hq
 | ok fl =>
  cases fl with
  | ret u =>
   obtain⟨v,H',T',rv,k,rfl,hk,rfl⟩:=T.call hq
   obtain rfl:u=Value.ref k:=rv
   have e1:Ext H (upd H k (.tup [.int (op i),.int (i:Int)])):=Ext.new hk
   refine h k _ s' T' (x.trans e1) fun j k' e => ?_
   by_cases hj:j<as.length
   ·rw[List.getElem?_append_left hj] at e
    exact e1 _ _ (ka j k' e)
   ·rw[List.getElem?_append_right (by bv_omega)] at e
    have hj0:j=as.length:=by
     cases q:j-as.length with
     | zero=>bv_omega
     | succ z=>rw[q] at e;cases e
    subst hj0
    rw[Nat.sub_self] at e
    cases e
    rw[zV,l]
  | _=>exact False.elim hq
theorem zQ3 {a kS:Addr}{e1 n:Nat}{op:Nat->Int}{H0:Hp}{f:Addr}{Fin:List Value->Nat->Shared->Prop}(ask:AskK X A pins σ H0 f n op)
  (fin:∀as e H s,as.length=n->Two X pins σ m a kS e1 (as.map Value.ref) e H s->Ext H0 H->KeyAt H op as->Fin (as.map Value.ref) e s):∀(r:List Value) (i:Nat) (as:List Addr) (e:Nat) (H:Hp) (s:Shared),ItemsFrom i r->i+r.length=n->as.length=i->Two X pins σ m a kS e1 (as.map Value.ref) e H s->Ext H0 H->KeyAt H op as ->
   KatKeys X.prog X.w A X.base X.env.locals m kS (.ref f) Fin r (as.map Value.ref) e s
 | [],i,as,e,H,s,_,hn,l,T,x,ka=>KatKeys.nil (fin as e H s (by rw[l];simpa using hn) T x ka)
 | v::r,i,as,e,H,s,it,hn,l,T,x,ka=>by
  obtain⟨t,rfl⟩:=it 0 v rfl
  rw[List.length_cons] at hn
  refine KatKeys.cons (zK1 ask (by bv_omega) T x l ka fun k H' s' T' x' ka' => ?_)
  refine KatBack.intro T'.fr T'.newsK (UpdF.head fQ) fun h' c F' N' => ?_
  have e0:as.map Value.ref ++ [Value.ref k]=(as ++ [k]).map Value.ref:=by rw[List.map_append];rfl
  rw[e0] at N' ⊢
  exact zQ3 ask fin r (i+1) (as ++ [k]) c H' _ (fun j v hv=>by obtain⟨t,e⟩:=it (j+1) v (by simpa using hv);exact⟨t,by rw[e];congr 2;bv_omega⟩) (by bv_omega) (by rw[List.length_append,l];rfl) (T'.setK F' N') x' ka'
theorem yV7 {p q:Int}{its:List Value}(r:Vals [V.int p,V.int q] its):∃t u,its=[.int p t,.int q u]:=by
 match its,r with
 | [],r=>cases r
 | [_],r=>have:=r.length;cases this
 | _::_::_::_,r=>have:=r.length;cases this
 | [a,b],r =>
  obtain⟨u1,e1,t,rfl⟩:=r.get (i:=0) rfl
  obtain⟨u2,e2,u,rfl⟩:=r.get (i:=1) rfl
  cases e1
  cases e2
  exact⟨t,u,rfl⟩
theorem bN {op:Nat->Int}{as:List Addr}(ok:HOk X.prog X.w H s.heap) (ka:KeyAt H op as){j:Nat}{k:Addr}(e:as[j]?=some k):∃o n t u,s.heap.get? k=some o/\o.cls=.type "tuple"/\o.data=.seq #[.int (op j) t,.int (j:Int) u] n:=by
 obtain⟨_,its,r,o,ho,hc,⟨n,hd⟩,_⟩:=ok k _ (ka j k e)
 obtain⟨t,u,rfl⟩:=yV7 r
 exact⟨o,n,t,u,ho,hc,hd⟩
theorem zR1 {op:Nat->Int}{h:Heap}:∀(as:List Addr) (i:Nat),(∀(j:Nat) (k:Addr),as[j]?=some k->∃o n t u,h.get? k=some o/\o.cls=.type "tuple"/\o.data=.seq #[.int (op (i+j)) t,.int ((i+j:Nat):Int) u] n)->∃fs,fs.length=as.length/\KatTups h (as.map Value.ref) fs/\∀v∈fs,∃z t,v=.int z t
 | [],_,_=>⟨[],rfl,KatTups.nil,fun v hv=>nomatch hv⟩
 | k::as,i,ka=>by
  obtain⟨o,n,t,u,ho,hc,hd⟩:=ka 0 k rfl
  obtain⟨fs,hl,T,hf⟩:=zR1 as (i+1) fun j k' e=>by
   have:=ka (j+1) k' (by simpa using e)
   rw[show i+(j+1)=i+1+j by bv_omega] at this
   exact this
  refine⟨.int (op (i+0)) t::fs,by rw[List.length_cons,List.length_cons,hl],KatTups.cons ho hc hd (by rfl) T,fun v hv => ?_⟩
  rcases List.mem_cons.mp hv with rfl | hv
  ·exact⟨_,t,rfl⟩
  ·exact hf v hv
theorem yE1 {op:Nat->Int}{as:List Addr}{n i j:Nat}{C:Bool->Shared->Prop}(ok:HOk X.prog X.w H s.heap) (ka:KeyAt H op as) (l:as.length=n) (n60:n<=60) (hi:i<n) (hj:j<n) (h:C (decide (op i*100+(i:Int)<op j*100+(j:Int))) s):kas_ask X.prog X.w A (tuples' true) (as.map Value.ref) i j C s:=by
 unfold kas_ask
 have ei:as[i]?=some as[i]:=List.getElem?_eq_getElem (by bv_omega)
 have ej:as[j]?=some as[j]:=List.getElem?_eq_getElem (by bv_omega)
 have gi:(as.map Value.ref).getD i Value.none=.ref as[i]:=by rw[List.getD,List.getElem?_map,ei];rfl
 have gj:(as.map Value.ref).getD j Value.none=.ref as[j]:=by rw[List.getD,List.getElem?_map,ej];rfl
 rw[gi,gj]
 obtain⟨o,n1,t,u,ho,hc,hd⟩:=bN ok ka ei
 obtain⟨o',n1',t',u',ho',hc',hd'⟩:=bN ok ka ej
 refine kat_lt ho hd ho' hd' ?_
 show KatLex _ _ _ true _ C [(_,_),(_,_)] 0 s
 refine kat_cons (wpAny_eqBool_int (kat_go (fun e => ?_) fun e => ?_))
 ·have e:op i=op j:=by simpa using e
  refine kat_yes (kat_cons (wpAny_eqBool_int (kat_go (fun e2 => ?_) fun e2 => ?_)))
  ·have e2:(i:Int)=j:=by simpa using e2
   refine kat_yes (kat_nil ?_)
   rw[decide_eq_false (by bv_omega)] at h
   exact h
  ·have e2:¬(i:Int)=j:=by simpa using e2
   refine kat_no (kat_one _ _ (lt_int ?_))
   have:decide ((i:Int)<j)=decide (op i*100+(i:Int)<op j*100+(j:Int)):=decide_eq_decide.mpr (by bv_omega)
   show C _ s
   rw[this]
   exact h
 ·have e:¬op i=op j:=by simpa using e
  refine kat_no (oneLt_int ?_)
  have:decide (op i<op j)=decide (op i*100+(i:Int)<op j*100+(j:Int)):=decide_eq_decide.mpr (by bv_omega)
  rw[this]
  exact h
end
end L2
namespace L2
open PySem PySem.Spec PyProof.Rows PySem.W MR
def poK (n:Nat) (op:Nat->Int):List Nat:=if n<2 then List.range n else byK n fun i=>op i*100+(i:Int)
theorem jM {n:Nat}{op:Nat->Int}(h6:n<=6):(poK n op).Perm (List.range n)/\(poK n op).Pairwise fun a b=>op a*100+(a:Int)<op b*100+(b:Int):=by
 unfold poK
 by_cases h:n<2
 ·rw[if_pos h]
  rcases (show n=0\/n=1 by bv_omega) with rfl | rfl
  ·exact⟨.refl _,.nil⟩
  ·exact⟨.refl _,by simp⟩
 ·rw[if_neg h]
  exact (yZ5 (by bv_omega) h6 fun i j hi hj e=>by bv_omega).2
section
variable {X:Cx}{pins:List (Addr×Obj)}{σ:St}{H:Hp}{s:Shared}{m:Str->Option Value}{A:Around}
theorem bE {a kS:Addr}{e1 e:Nat}{ks its:List Value}{n:Nat}{po:List Nat}{P:Shared->Prop}(T:Two X pins σ m a kS e1 ks e H s) (it:ItemsFrom 0 its) (hn:its.length=n) (n60:n<=60) (lt:∀p∈po,p<n) (ln:po.length=n)
  (h:∀s',Inv X pins σ (upd H a (.lst (po.map fun (p:Nat)=>V.int (p:Int)))) s'->P s'):KatFin X.base X.env.locals m kS a ks e e1 (po.map fun i=>its.getD i Value.none) P s:=by
 refine KatFin.intro T.fr T.newsK (UpdF.head fQ) fun h' c F' N' => ?_
 have T2:=T.setK (ks':=[]) F' N'
 refine KasFin.intro T2.fr (aY T2.fa.2.1 (T2.fa.nobase T2.inv) T2.ga) (UpdF.head fQ) fun h2 c2 F2 N2 => ?_
 refine h _ (T2.setA F2 N2 ?_ ?_)
 ·rw[List.length_map,ln]
  have:(60:Nat)<sizeLine:=by decide
  bv_omega
 ·refine L2.L3.uH (by rw[List.length_map,List.length_map]) fun i x y hx hy => ?_
  rw[List.getElem?_map] at hx hy
  obtain⟨p,ep,rfl⟩:=Option.map_eq_some_iff.mp hx
  rw[ep] at hy
  have hy:some (its.getD p Value.none)=some y:=hy
  cases hy
  have pn:=lt p (List.mem_of_getElem? ep)
  have eg:its[p]?=some (its.getD p Value.none):=by
   rw[List.getD,List.getElem?_eq_getElem (by bv_omega)]
   rfl
  obtain⟨t,et⟩:=it p _ eg
  refine⟨t,?_⟩
  rw[et,Nat.zero_add]
theorem zD8 {a:Addr}{n e0:Nat}{op:Nat->Int}{f:Addr}{its:List Value}{P:PySem.Fin->Shared->Prop}{E:Value->Shared->Prop}(I:Inv X pins σ H s) (fa:FpOk X pins H a) (hsz:s.heap.objs.size=a+1) (ga:s.heap.get? a=some (seqObj "list" its.toArray e0)) (it:ItemsFrom 0 its) (hn:its.length=n) (h2:2<=n) (h6:n<=6)
  (ask:AskK X A pins σ H f n op) (h:∀H' s',Ext H H'->H' a=none->Inv X pins σ (upd H' a (.lst ((poK n op).map fun (p:Nat)=>V.int (p:Int)))) s'->P (.done (.ret .none)) s') :
  wpAny (model X.prog X.w) A (ksk_tree a (.ref f) false) P E s:=by
 obtain⟨m,ns,_⟩:=id I.loc
 have F:Fr X.base X.env.locals s.heap m:=⟨ns,I.bk,Nat.le_trans I.ok.bsz I.ok.above⟩
 have ab:=fa.nobase I
 obtain⟨b1,b2,b3⟩:=yZ5 (n:=n) (κ:=fun i=>op i*100+(i:Int)) h2 h6 fun i j hi hj e=>by bv_omega
 have ep:poK n op=byK n fun i=>op i*100+(i:Int):=if_neg (by bv_omega)
 refine kat_keyed F (news:=rest X.base s.heap X.env.locals a) (fun p hp=>(aY fa.2.1 ab ga) p (List.mem_cons_of_mem _ hp)) ga fa.2.1 ab fQ (by bv_omega) (by bv_omega) fun kS e1 h' F' N' hlt hall => ?_
 have gk:=(N' _ (List.mem_cons_self ..)).1
 have ga':=(N' _ (List.mem_cons_of_mem _ (List.mem_cons_self ..))).1
 have kp:=qI (fun b o e=>I.bk b o e) F' fun p hp=>N' p (List.mem_cons_of_mem _ (List.mem_cons_of_mem _ hp))
 have sk:s.heap.objs.size<=kS:=Nat.le_trans (Nat.le_of_eq hsz) (Nat.succ_le_of_lt hlt)
 have fk:FpOk X pins H kS:=I.fpOk sk (I.hok.fresh sk)
 have T:Two X pins σ m a kS e1 (([]:List Addr).map Value.ref) 0 H { s with heap:=h' }:=⟨I.chg fa ns F'.ns kp,F'.ns,fk,fa,Nat.ne_of_gt hlt,gk,ga'⟩
 refine zQ3 ask (fun as e H' s' la T' x ka => ?_) its 0 [] 0 H _ it (by bv_omega) rfl T (Ext.refl H) fun j k z=>by cases z
 obtain⟨fs,lf,kt,ft⟩:=zR1 (h:=s'.heap) as 0 fun j k z=>by
  rw[Nat.zero_add]
  exact bN T'.inv.hok ka z
 refine kat_kind (T:=.type "int") kt (by bv_omega) (fun v hv => ?_) (by decide) ?_
 ·obtain⟨z,t,rfl⟩:=ft v hv
  exact .now
 show (kas_sort its.length).kasWp (kas_ask X.prog X.w A (tuples' true) (katRev false (as.map Value.ref))) _ s'
 rw[hn]
 refine yY2 (n:=n) (J:=fun z=>z=s') (lt:=fun i j=>decide (op i*100+(i:Int)<op j*100+(j:Int))) (fun i j C z hi hj jz hc => ?_) _ _ _ b1 rfl fun z jz => ?_
 ·subst jz
  exact yE1 T'.inv.hok ka la (by bv_omega) hi hj (hc _ rfl)
 ·subst jz
  have mem:∀p∈poK n op,p<n:=fun p hp=>by
   rw[ep] at hp
   exact List.mem_range.mp (b2.mem_iff.mp hp)
  have len:(poK n op).length=n:=by rw[ep,b2.length_eq,List.length_range]
  have fin:=bE (po:=poK n op) (P:=fun s4=>P (.done (.ret .none)) s4) T' it hn (by bv_omega) mem len fun s4 I4=>h H' s4 x T'.fa.1 I4
  rw[ep] at fin
  exact fin
end
section
variable {X:Cx}{pins:List (Addr×Obj)}{σ:St}{H:Hp}{s:Shared}{m:Str->Option Value}{A:Around}
theorem yI3 {a kS:Addr}{e1 e:Nat}{k v:Value}{P:PySem.Fin->Shared->Prop}{E:Value->Shared->Prop}(h:KatFin X.base X.env.locals m kS a [k] e e1 [v] (fun s'=>P (.done (.ret .none)) s') s):wpAny (model X.prog X.w) A (ksk_end a false #[v] e1 (.ref kS) #[k]) P E s:=by
 unfold ksk_end
 dsimp only
 rw[if_neg (by decide),if_pos (by show 1<2;decide),if_pos (by show 1<2;decide)]
 refine wpAny_bind (wpAny_pure ?_)
 rw[StateT.run_pure]
 refine wpAny_bind (wpAny_pure ?_)
 dsimp only
 exact kat_tail (ks:=[k]) (out:=[v]) (b:=false) (by show ((#[k].zip #[v]).map (·.2))=#[v];simp) (by show 1<64;decide) (by show 1<64;decide) rfl h
theorem yR7 {a:Addr}{e0:Nat}{op:Nat->Int}{f:Addr}{v:Value}{P:PySem.Fin->Shared->Prop}{E:Value->Shared->Prop}(I:Inv X pins σ H s) (fa:FpOk X pins H a) (hsz:s.heap.objs.size=a+1) (ga:s.heap.get? a=some (seqObj "list" #[v] e0)) (it:ItemsFrom 0 [v])
  (ask:AskK X A pins σ H f 1 op) (h:∀H' s',Ext H H'->H' a=none->Inv X pins σ (upd H' a (.lst ((poK 1 op).map fun (p:Nat)=>V.int (p:Int)))) s'->P (.done (.ret .none)) s') :
  wpAny (model X.prog X.w) A (ksk_tree a (.ref f) false) P E s:=by
 obtain⟨m,ns,_⟩:=id I.loc
 have one:(1:Nat)<=sizeLine:=by decide
 obtain⟨e1,g1⟩:∃e1,(s.heap.update a (Obj.mapSeq fun _=>(#[]:Array Value))).get? a=some (seqObj "list" #[] e1):=⟨_,get?_update_seq ga fun _=>#[]⟩
 have sz1:((s.heap.update a (Obj.mapSeq fun _=>(#[]:Array Value))).push (seqObj "tuple" #[v] 0)).objs.size=a+2:=by rw[size_push',Heap.size_update,hsz]
 have sk:s.heap.objs.size<=((s.heap.update a (Obj.mapSeq fun _=>(#[]:Array Value))).push (seqObj "tuple" #[v] 0)).objs.size:=by rw[sz1,hsz];exact Nat.le_succ _
 have ne1:((s.heap.update a (Obj.mapSeq fun _=>(#[]:Array Value))).push (seqObj "tuple" #[v] 0)).objs.size≠a:=by rw[sz1];exact Nat.ne_of_gt (Nat.lt_succ_of_lt (Nat.lt_succ_self a))
 unfold ksk_tree
 refine wpAny_bind (listItems_at ga rfl (wpAny_bind (listUpdate_at ga rfl (wpAny_bind (seqEpoch_at g1 rfl (wpAny_bind (wpAny_newTuple (wpAny_bind (wpAny_newList (wpAny_holding ?_) (Nat.zero_le _))) one)))) one (Nat.zero_le _))))
 have kp:∀c o,c≠a->s.heap.get? c=some o->(((s.heap.update a (Obj.mapSeq fun _=>(#[]:Array Value))).push (seqObj "tuple" #[v] 0)).push (seqObj "list" #[] 0)).get? c=some o:=fun c o hc e=>Heap.get?_push_of_some _ (Heap.get?_push_of_some _ ((Heap.get?_update_other _ _ (Ne.symm hc)).trans e))
 have ns':(((s.heap.update a (Obj.mapSeq fun _=>(#[]:Array Value))).push (seqObj "tuple" #[v] 0)).push (seqObj "list" #[] 0)).Ns X.env.locals m:=by
  obtain⟨o,es,ep,ho,r⟩:=ns
  exact⟨o,es,ep,kp _ _ fa.2.1.symm ho,r⟩
 have T:Two X pins σ m a ((s.heap.update a (Obj.mapSeq fun _=>(#[]:Array Value))).push (seqObj "tuple" #[v] 0)).objs.size e1 (([]:List Addr).map Value.ref) 0 H { s with heap:=((s.heap.update a (Obj.mapSeq fun _=>(#[]:Array Value))).push (seqObj "tuple" #[v] 0)).push (seqObj "list" #[] 0) } :=
  ⟨I.chg fa ns ns' fun c o _ hc e=>kp c o hc e,ns',I.fpOk sk (I.hok.fresh sk),fa,ne1,Heap.get?_push_size _ rfl,Heap.get?_push_of_some _ (Heap.get?_push_of_some _ g1)⟩
 generalize ((s.heap.update a (Obj.mapSeq fun _=>(#[]:Array Value))).push (seqObj "tuple" #[v] 0)).objs.size=kS at T ⊢
 show wpAny (model X.prog X.w) A (ksk_rest a (.ref f) false #[v] e1 (.ref kS)) P E _
 obtain⟨t,rfl⟩:=it 0 v rfl
 unfold ksk_rest
 refine wpAny_bind (wpAny_rule ?_)
 simp only[List.forIn_toArray,List.forIn_cons,List.forIn_nil]
 refine wpAny_bind (wpAny_bind (wpAny_bind (wpAny_attempt (wpAny_mono (zK1 (t:=t) ask (i:=0) (by decide) T (Ext.refl H) rfl (fun j k z=>by cases z) fun k H' s' T' x ka => ?_) (fun _ _ z=>z) fun _ _ z=>z.elim))))
 have e2:=Heap.SameBut.update s'.heap kS (Obj.mapSeq (·.push (Value.ref k)))
 obtain⟨c2,g2⟩:∃c2,(s'.heap.update kS (Obj.mapSeq (·.push (Value.ref k)))).get? kS=some (seqObj "list" (List.toArray [Value.ref k]) c2):=⟨_,get?_update_seq T'.gk (·.push (Value.ref k))⟩
 have kp':∀c o,c≠kS->s'.heap.get? c=some o->(s'.heap.update kS (Obj.mapSeq (·.push (Value.ref k)))).get? c=some o:=fun c o hc e=>(Heap.get?_update_other _ _ (Ne.symm hc)).trans e
 have n2:(s'.heap.update kS (Obj.mapSeq (·.push (Value.ref k)))).Ns X.env.locals m:=by
  obtain⟨o,es,ep,ho,r⟩:=T'.ns
  exact⟨o,es,ep,kp' _ _ T'.fk.2.1.symm ho,r⟩
 have T2:Two X pins σ m a kS e1 [Value.ref k] c2 H' { s' with heap:=s'.heap.update kS (Obj.mapSeq (·.push (Value.ref k))) }:=⟨T'.inv.chg T'.fk T'.ns n2 fun c o _ hc e=>kp' c o hc e,n2,T'.fk,T'.fa,T'.ne,g2,kp' _ _ T'.ne.symm T'.ga⟩
 dsimp only
 refine wpAny_bind (listUpdate_at T'.gk rfl ?_ (Nat.zero_le _) (by show 1<=_;bv_omega))
 refine wpAny_pure ?_
 dsimp only
 refine wpAny_pure (wpAny_bind (listItems_at g2 rfl (yI3 (m:=m) (e:=c2) ?_)))
 exact bE (po:=poK 1 op) (its:=[_]) T2 it rfl (by show 1<=60;decide) (fun p hp=>by simpa [poK] using hp) (by simp[poK]) fun s4 I4=>h H' s4 x T2.fa.1 I4
theorem zO5 {prog:Program}{w:World}{s:Shared}{E:Value->Shared->Prop}{Q:List Value->Shared->Prop}{r:Addr}{a b c:Int}{t u v:Tok}{n:Nat}(hh:A.handled=none) (hr:IsRange s.heap r a b c t u v) (sm:Builtin.Range.small a b c=true) (hn:Builtin.Range.rangeSize a b c=n) (hz:n<=1000000)
  (q:∀(h':Heap) tk vs,(∀b o,s.heap.get? b=some o->h'.get? b=some o)->ItemsOf (fun i v=>∃t,v=.int (a+i*c) t) vs n->Q vs.toList { s with heap:=h',toks:=tk }) :
  wpAny (model prog w) A (collect (.ref r)) Q E s:=by
 have big:(2:Nat) ^ 24<=sizeLine:=by decide
 refine zP9 (S:=fun B R x=>B=A/\x={ s with heap:=s.heap.push { cls:=.type "list",data:=.seq #[] } } /\
  ∀h' tk vs e,(∀b o,b≠s.heap.objs.size->x.heap.get? b=some o->h'.get? b=some o)->h'.get? s.heap.objs.size=some { cls:=.type "list",data:=.seq vs e }->ItemsOf (fun i v=>∃t,v=.int (a+i*c) t) vs n->R (.ok (.ret (.ref s.heap.objs.size))) { x with heap:=h',toks:=tk }) (fun B R x y => ?_) ⟨rfl,rfl,fun h' tk vs e keep at_ its=>⟨rfl,vs,e,at_,?_⟩⟩
 ·obtain⟨rfl,rfl,y⟩:=y
  exact wpAny_extend_range (A:=B) hh (Heap.get?_push_of_some _ hr) sm hn (by bv_omega) _ _ _ (Heap.get?_push_size _ rfl) y
 ·exact q h' tk vs (fun b o g=>keep b o (Nat.ne_of_lt (Heap.lt_size g)) (Heap.get?_push_of_some _ g)) its
theorem yN6 {n:Nat}{op:Nat->Int}{f:Addr}{its:List Value}{Q:VK}{E:Value->Shared->Prop}(I:Inv X pins σ H s) (it:ItemsFrom 0 its) (hn:its.length=n) (h1:1<=n) (h6:n<=6) (ask:AskK X A.in1 pins σ H f n op)
  (q:∀H' l,Ext H H'->H' l=none->Q (.ref l) (upd H' l (.lst ((poK n op).map fun (p:Nat)=>V.int (p:Int))))) :
  wpAny (model X.prog X.w) A (newList its >>= fun l=>holding [l] (call (.builtin "list.sort") [l] [(Str.ofString "key",.ref f)]) >>= fun _=>ret l) (fun fin s'=>∃v,fin=.done (.ret v)/\EP X pins σ Q v s') E s:=by
 have fits:its.length<=sizeLine:=by
  have:(60:Nat)<sizeLine:=by decide
  bv_omega
 have go:(s.heap.push (seqObj "list" its.toArray 0)).get? s.heap.objs.size=some (seqObj "list" its.toArray 0):=Heap.get?_push_size _ rfl
 have fa:FpOk X pins H s.heap.objs.size:=I.fpOk (Nat.le_refl _) (I.hok.fresh (Nat.le_refl _))
 have I1:Inv X pins σ H { s with heap:=s.heap.push (seqObj "list" its.toArray 0) }:=I.kept (t':=s.toks) fun b o e=>Heap.get?_push_of_some _ e
 refine wpAny_bind (wpAny_newList (wpAny_bind (wpAny_holding (wpAny_call_entry_kw slot_list_sort ⟨_,go,rfl⟩ entry_list_sort ?_ (ksk_l1 _ _)))) fits)
 show wpAny (model X.prog X.w) A.in1 (Builtin.«list.sort» ⟨[.ref s.heap.objs.size],[(Str.ofString "key",.ref f)]⟩) _ _ _
 rw[ksk_t1]
 have fin:∀H' s',Ext H H'->H' s.heap.objs.size=none->Inv X pins σ (upd H' s.heap.objs.size (.lst ((poK n op).map fun (p:Nat)=>V.int (p:Int)))) s'->∃v,PySem.Fin.done (.ret .none)=.done (.ret v)/\wpAny (model X.prog X.w) A (ret (.ref s.heap.objs.size)) (fun fin s'=>∃v,fin=.done (.ret v)/\EP X pins σ Q v s') E s':=fun H' s' x hn' I'=>⟨_,rfl,wpAny_pure ⟨_,rfl,.ref s.heap.objs.size,_,I',rfl,q H' _ x hn'⟩⟩
 rcases (show n=1\/2<=n by bv_omega) with rfl | h2
 ·match its,hn with
  | [v],_=>exact yR7 I1 fa (size_push' ..) go it ask fin
 ·exact zD8 I1 fa (size_push' ..) go it hn h2 h6 ask fin
end
def opF (ops:List Int):Nat->Int:=fun i=>ops.getD i 0
section
variable {X:Cx}
def rKey (K:KFr):TE:=tTup (zR (tOp (rIxT K) (tVar 1) (tVar 0)) (zR (tVar 0) tNil))
theorem yS3 {A:Around}{pins:List (Addr×Obj)}{σ:St}{H1:Hp}{f cl oa:Addr}{j k n:Nat}{one y q:Str}{sc:Scope}{params:Arguments}{body:Expr}{ops:List Int}(hA:A.frames=X.A.frames) (hr:Room (k+1) A) (S:LamScope [one] y sc) (L:LamAt H1 f q params body sc [(y,cl)]) (hcl:X.env.cells.lookup y=some cl) (hk:X.env.kindOf y=some .cell) (hj:X.N[j]?=some y) (hσ:σ[j]?=some (some (.ref oa))) (ho:Rd H1 oa (.tup (ops.map V.int))) (hl:ops.length=n)
  (hb:∀(us:List Value) (pm cd ctv:Value),us.length=1->bindArgs (kla_fn "<lambda>" q params body sc [(y,cl)] pm cd ctv) ⟨us,[]⟩=pure ([one].zip us))
  (hbody:∀(H:Hp) (outer:List Env) (s:Shared) (c':Addr),PE (cxLam X.prog X.w X.K X.mg X.base ([one] ++ [y]) q sc f (.ref c') [(y,cl)] A outer s H) body (rKey X.K)):AskK X A pins σ H1 f n (opF ops):=by
 intro i t H s hi x I
 obtain⟨c',ctv,pm,oc,u,v,vs,tk,hf,hc',hd,hq⟩:=L.ext x
 obtain⟨m,ns,lk⟩:=I.loc
 obtain⟨uo,rv,look⟩:=lk j y _ hj hσ (.inr (.inl hk))
 have cell:s.heap.IsCell cl (some uo):=by
  rcases look with ⟨z,_⟩ | ⟨_,c,ec,ic⟩
  ·rw[hk] at z;cases z
  ·rw[hcl] at ec;cases ec;exact ic
 have e0:=I.env0
 have e1:Env0 X.prog X.w X.K X.mg X.base A X.stack s H:=⟨hA.trans e0.frames,e0.mod,e0.bs,e0.bsz,e0.funs,e0.frf,e0.hok,e0.bare,e0.tb⟩
 refine zL1 S hr e1 (I.hok f _ hf).1 ⟨c',oc,vs,tk,rfl,(I.hok c' _ hc').1,hd,hq⟩ cell (I.freeC y cl hcl) rv (hb _ _ _ _ rfl) (vs:=[.int (i:Int)]) rfl (.cons ⟨t,rfl⟩ .nil) (fun _=>hbody H X.stack s c') ?_
 have rd:Rd H oa (.tup (ops.map V.int)):=L2.L3.zA ho fun o e=>x _ _ e
 refine⟨_,rfl,_,rfl,oa,_,_,.int (opF ops i),rfl,rfl,.inl rd,?_,?_⟩
 ·rw[L2.L3.atN (x:=i)]
  rw[List.getElem?_map,List.getElem?_eq_getElem (by bv_omega)]
  show some (V.int _)=some (V.int _)
  congr 2
  unfold opF
  rw[List.getD,List.getElem?_eq_getElem (by bv_omega)]
  rfl
 ·exact⟨_,rfl,by show 2<=sizeLine;decide,fun k hk=>⟨k,rfl,hk,rfl⟩⟩
def tSortK (K:KFr) (j:Nat) (t:TA):TE:=fun σ H Q=>t σ H fun vs H1=>∃(p oa:Addr) (n:Nat) (ops:List Int),vs=[.ref p]/\(H1 p=some (.rng 0 (n:Int))\/SqL K H1 p ((List.range n).map fun (i:Nat)=>V.int (i:Int)))/\1<=n/\n<=6/\σ[j]?=some (some (.ref oa))/\Rd H1 oa (.tup (ops.map V.int))/\ops.length=n /\
 ∀H2 l,Ext H1 H2->H2 l=none->Q (.ref l) (upd H2 l (.lst ((poK n (opF ops)).map fun (p:Nat)=>V.int (p:Int))))
theorem yV1 {e:Expr}{p pos kp lpos:Pos}{t:TA}{j k:Nat}{one y x:Str}{c P:Addr}{sc:Scope}{params:Arguments}{body:Expr}(hr:Room (k+3) X.A) (hc:X.calm=true) (hg:Gl X "sorted") (hm:X.mg "sorted" = none) (ha:PA X [e] t)
  (hx:x∈tabNames) (ht:tabIn X.K x=some (c,P)) (hcode:X.env.code=.ref c) (hq:X.env.qual=x ++ ".<locals>.") (hdef:defaultsOf params X.env=([],[])) (hcl:∀cl,X.env.cells.lookup y=some cl->closureFor sc X.env=pure [(y,cl)])
  (S:LamScope [one] y sc) (hk:X.env.kindOf y=some .cell) (hj:X.N[j]?=some y)
  (hb:∀(cl:Addr) (us:List Value) (pm cd ctv:Value),us.length=1->bindArgs (kla_fn "<lambda>" (lamQ x) params body sc [(y,cl)] pm cd ctv) ⟨us,[]⟩=pure ([one].zip us))
  (hbody:∀(A:Around) (H:Hp) (outer:List Env) (s:Shared) (f cl c':Addr),PE (cxLam X.prog X.w X.K X.mg X.base ([one] ++ [y]) (lamQ x) sc f (.ref c') [(y,cl)] A outer s H) body (rKey X.K))
  (hn:autoParam ((("sorted":Str)) ≠ "__name__") zL._auto_1) (hdb:autoParam (((("sorted":Str)) == ("__debug__":Str))=false) zL._auto_1)
  (he:autoParam (backTo pos (starEach [e] X.env)=(false,eval e X.env)::backTo pos (starEach [] X.env)) zZ._auto_1) (hpl:autoParam ((backTo pos (starEach [e] X.env)).any (·.1)=false) zZ._auto_1) :
  PE X (.Call (.Name "sorted" p) [e] [⟨some (Str.ofString "key"),.Lambda params body sc lpos,kp⟩] pos) (tSortK X.K j t):=by
 intro pins s σ H Q I h
 refine wpAny_Call_Name_kw (gK I hg hm PyProof.Rows.boot_sorted ?_ hn hdb)
 refine callWith_kw (thn (ha pos pins s σ H _ I h) fun us s1 ⟨vs,H1,I1,r1,q1⟩ => ?_) he hpl
 obtain⟨r,oa,n,ops,rfl,src,n1,n6,hσ,ho,hl,q⟩:=q1
 obtain⟨u,rfl,ru⟩:=vals1 r1
 cases ru
 obtain⟨cl,ec⟩:=I1.ok.has y (.inl hk)
 refine kws_cons (thn (zD9 (cl:=[(y,cl)]) hx ht hcode hq hdef (fun _=>hcl cl ec) pins s1 σ H1 (fun v H2=>∃f,v=.ref f/\LamAt H2 f (lamQ x) params body sc [(y,cl)]/\Ext H1 H2) I1 fun f H2 L x _=>⟨f,rfl,L,x⟩) fun uf s2 ⟨vf,H2,I2,r2,f,e2,L,x2⟩ => ?_)
 subst e2
 obtain rfl:uf=Value.ref f:=r2
 refine kws_nil ?_
 show wpAny (model X.prog X.w) X.A (call (.builtin "sorted") [.ref r] [(Str.ofString "key",.ref f)]) (EP X pins σ Q) X.xe s2
 refine call_function_entry_kw kind_sorted plain_sorted entry_sorted (ksk_s1 (.ref r) (.ref f)) ?_
 rw[gG]
 have ho2:Rd H2 oa (.tup (ops.map V.int)):=L2.L3.zA ho fun o e=>x2 _ _ e
 have ask:AskK X X.A.in1.in1 pins σ H2 f n (opF ops):=yS3 (k:=k) rfl (hr.in1.in1) S L ec hk hj hσ ho2 hl (hb cl) fun H outer s c'=>hbody _ H outer s f cl c'
 have fin:∀(its:List Value) (h':Heap) (tk:Nat),(∀b o,s2.heap.get? b=some o->h'.get? b=some o)->ItemsFrom 0 its->its.length=n ->
   wpAny (model X.prog X.w) X.A.in1 (newList its >>= fun l=>holding [l] (call (.builtin "list.sort") [l] [(Str.ofString "key",.ref f)]) >>= fun _=>ret l) (fun fin s'=>∃v,fin=.done (.ret v)/\EP X pins σ Q v s') X.xe { s2 with heap:=h',toks:=tk }:=fun its h' tk kp it ln =>
  yN6 (I2.kept (t':=tk) kp) it ln n1 n6 ask fun H3 l x3 hn3=>q H3 l (x2.trans x3) hn3
 rcases src with hp | hp
 ·obtain⟨t1,t2,t3,eo⟩:=I2.hok r _ (x2 _ _ hp)
  refine wpAny_bind (zO5 (n:=n) (I.ok.hd hc) eo (small_one (by bv_omega) (by bv_omega) (by bv_omega) (by bv_omega)) ?_ (by bv_omega) fun h' tk vs kp its=>fin _ h' tk kp (fun i v ev => ?_) ?_)
  ·rw[rangeSize_one];split <;> bv_omega
  ·obtain⟨t,e⟩:=its.2 i v (by simpa using ev)
   exact⟨t,by rw[e];simp⟩
  ·rw[Array.length_toList,its.1]
 ·have hp2:SqL X.K H2 r ((List.range n).map fun (i:Nat)=>V.int (i:Int)):=hp.imp (fun z=>L2.L3.zA z fun o e=>x2 _ _ e) id
  obtain⟨its,rv,⟨o,n',ho',hc',_,hd'⟩,hz⟩:=I2.list hp2
  have ln:=rv.length
  rw[List.length_map,List.length_range] at ln
  refine wpAny_bind (wpAny_collect_seq r (.inl rfl) ho' hc' hd' (fun h' kp=>fin its h' s2.toks kp (fun i v ev => ?_) (by bv_omega)) (by rw[List.size_toArray];rw[List.length_map,List.length_range] at hz;bv_omega))
  have hi:i<n:=by
   have:=(List.getElem?_eq_some_iff.mp ev).1
   bv_omega
  obtain⟨u,eu,t,ru⟩:=rv.get (i:=i) (by rw[List.getElem?_map,List.getElem?_range hi];rfl)
  rw[ev] at eu
  cases eu
  exact⟨t,by rw[ru,Nat.zero_add]⟩
end
end L2
namespace L2
open PySem PySem.Spec PyProof.Rows
theorem Fun.okC {P:Program}{w:World}{K:KFr}{mg:Str->Option Value}{base:Heap}{k:Nat}{x qual:Str}{st:Stmt}{f c:Addr}{fd:FuncData}{N ps:List Str}{sp:Sp}(F:Fun K x qual st f fd) (hc:fd.code=.ref c) (S:zJ N ps (zT st)) (hl:∀vs H Q E,sp vs H Q E->vs.length=ps.length)
  (hbody:∀(A:Around) (outer:List Env) (s:Shared) (H:Hp) (vs:List V) (Q:VK) (E:XK),Room k (A.deeper (envOfC qual (zT st) s.heap.objs.size f (.ref c)))->sp vs H Q E ->
   ∃t,PSs (cxOf CX0 P w K mg base N qual (zT st) f (.ref c) A outer s H E).nox (defBody st) t/\t { nx:=fun _ H'=>Q .non H',rt:=Q } (start N vs) H):FnOk P w K mg base CX0 (k+1) f fd ps sp:=by
 obtain⟨oc,od,kV,doc,pm,an,cdv,ct,osl,rfl,lk,hcd⟩:=F.ex
 obtain rfl:cdv=.ref c:=hc
 refine yL1 lk hcd S hl fun A outer s H vs Q E hr hsp => ?_
 obtain⟨t,h,q⟩:=hbody A outer s H vs Q E hr hsp
 exact⟨t,h.nox,q⟩
end L2
namespace L2.L3
open PySem PySem.Spec PyProof.Rows MR
variable [CN]
def orK (H:Hp) (v:V) (n:Nat) (po:List Nat):Prop:=∃(oa:Addr) (ops:List Int),v=.ref oa/\Rd H oa (.tup (ops.map V.int))/\ops.length=n/\1<=n/\n<=6/\po=poK n (opF ops)
def wiK (K:KFr):TI:=iList K (tSortK K 1 (zR (tCB rRng (zR (tCB (rLenV K) (zR (tVar 0) tNil)) tNil)) tNil))
theorem xX1 {K:KFr}(H0:Hp) (v1:V) (n:Nat) (po:List Nat) (o:orK H0 v1 n po) (pa:Addr) (ys:List V) (hp:Rd H0 pa (.tup ys)) (hl:ys.length=n) (σ:St) (H:Hp) (R:It->Hp->Prop) (sm:Same H0 H) (e0:σ[0]?=some (some (.ref pa))) (e1:σ[1]?=some (some v1)) (h:∀l H1,Same H H1->H1 l=none->R (Itl K l) (L2.upd H1 l (.lst (po.map fun (p:Nat)=>V.int (p:Int))))):wiK K σ H R:=by
 obtain⟨oa,ops,rfl,ho,lo,n1,n6,rfl⟩:=o
 refine⟨_,e0,pa,ys,rfl,.inr (.inl (zA hp fun o e=>sm _ _ e)),_,rfl,fun p hp => ?_⟩
 have s1:=Same.new hp (o:=.rng 0 (ys.length:Int))
 refine⟨p,oa,n,ops,rfl,.inl (by rw[zV,hl]),n1,n6,e1,zA ho fun o e=>s1 _ _ (sm _ _ e),lo,fun H2 l x hn => ?_⟩
 exact⟨l,rfl,⟨_,SqL.of zV⟩,h l H2 (s1.trans fun b o e=>x b o e) hn⟩
section
variable {P:Program}{w:World}{K:KFr}{mg:Str->Option Value}{base:Heap}
theorem zH2 {x:Str}{st:Stmt}{f c:Addr}{fd:FuncData}{N ps:List Str}{k kk:Nat}(F:Fun K x x st f fd) (S:zJ N ps (zT st)) (hp:ps.length=3) (hN:N.length=6) (hc:fd.code=.ref c)
  (hbody:∀(A:Around) (outer:List Env) (s:Shared) (H:Hp) (E:XK),Room k (A.deeper (envOfC x (zT st) s.heap.objs.size f (.ref c)))->PSs (cxOf CX0 P w K mg base N x (zT st) f (.ref c) A outer s H E).nox (defBody st) (tGm P w K mg base kk (wiK K))) :
  FnOk P w K mg base CX0 (k+1) f fd ps (spPlayed P w K mg base kk orK):=by
 refine F.okC hc S (fun vs H Q E ⟨pa,fa,v1,ds,n,po,out,fin,g,e,_⟩=>by rw[e,hp];rfl) fun A outer s H vs Q E hr h => ?_
 obtain⟨pa,fa,v1,ds,n,po,out,fin,g,rfl,h1,h2,h3,h4,h5,h6,h7,h8,h9,h10,h11,q⟩:=h
 refine⟨_,hbody A outer s H E hr,?_⟩
 have st:start N [V.ref pa,v1,V.ref fa]=[some (.ref pa),some v1,some (.ref fa),none,none,none]:=by
  unfold start
  rw[hN]
  rfl
 rw[st]
 have h1':=h1
 cases h1' with
 | @tup _ ys _ rd no rs =>
  refine yG9 h1 h2 h3 h4 h5 h6 h8 h9 h10 (fun p k seen mid rs1 tn hs pn hin => ?_) h11 (fun σ H' R s' e0 e r => ?_) q
  ·refine yF6 h9 tn ?_ hs pn hin
   rw[List.getD,List.getElem?_eq_getElem (by rw[h2];exact pn)]
   exact h3 _ (List.getElem_mem ..)
  ·exact xX1 H v1 n po h7 pa ys rd (by rw[rs.length,h2]) σ H' R s' e0 e r
end
end L2.L3
namespace L2
open PySem PySem.Spec PyProof.Rows
section
variable {P:Program}{w:World}{outer:List Env}{H:Hp}{s s':Shared}{cl:Addr}{oc:Obj}{Q:VK}{u:Value}
theorem CE.unlend (hn:H cl=none) (e:s.heap.get? cl=some oc) (hf:cl∉frs outer) (h:CE outer P w (upd H cl (cellO cl oc)) s (fun v H2=>H2 cl=some (cellO cl oc)/\Q v (rmv H2 cl)) u s'):CE outer P w H s Q u s':=by
 obtain⟨v,H2,os,bare,un,hok,r,c2,q⟩:=h
 have up:∀b,b≠cl->upd H cl (cellO cl oc) b=H b:=fun b n=>zY n
 have ne:∀b o,H b=some o->b≠cl:=fun b o e z=>by rw[z,hn] at e;cases e
 refine⟨v,rmv H2 cl,os,bare,⟨fun b o g n hb hx => ?_,fun b o g n hb hx => ?_,fun b o g n hx => ?_,fun b o g=>un.there b o g,fun b xs g => ?_,fun b o xs g => ?_,fun b q g => ?_⟩,hok.rmv c2,r,q⟩
 ·by_cases z:b=cl
  ·subst z
   rw[e] at g
   cases g
   exact (hok b _ c2).1
  ·exact un.keep b o g (by rw[up b z];exact n) hb hx
 ·have z:b≠cl:=fun z=>hf (by rw[<-z];exact hb)
  exact un.slot b o g (by rw[up b z];exact n) hb hx
 ·by_cases z:b=cl
  ·rw[z];exact wL
  ·rw[yT z];exact un.free b o g (by rw[up b z];exact n) hx
 ·have z:=ne b _ g
  rw[yT z]
  exact un.tups b xs (by rw[up b z];exact g)
 ·have z:=ne b _ g
  rw[yT z]
  exact un.frzs b o xs (by rw[up b z];exact g)
 ·have z:=ne b _ g
  rw[yT z]
  exact un.tbls b q (by rw[up b z];exact g)
end
section
variable {X:Cx}{k:Nat}{f:Addr}{fd:FuncData}{ps:List Str}{sp:Sp}
theorem yR9 {pins:List (Addr×Obj)}{σ:St}{H:Hp}{s:Shared}{Q:VK}{us:List Value}{vs:List V}{cl:Addr}{y:Str}{j:Nat}{vy:V}(F:FnOk X.prog X.w X.K X.mg X.base CX0 k f fd ps sp) (hr:Room k X.A) (hb:Binds X.K fd ps [])
  (I:Inv X pins σ H s) (r:Vals vs us) (hcl:X.env.cells.lookup y=some cl) (hk:X.env.kindOf y=some .cell) (hfn:X.fn y=true) (hj:X.N[j]?=some y) (hσ:σ[j]?=some (some vy))
  (h:∀oc uy,oc.data=.cell (some uy)->RelV vy uy->H cl=none->sp vs (upd H cl (cellO cl oc)) (fun v H2=>H2 cl=some (cellO cl oc)/\Q v (rmv H2 cl)) E0):wpAny (model X.prog X.w) X.A (call (.ref f) us) (EP X pins σ Q) X.xe s:=by
 obtain⟨m,ns,lk⟩:=id I.loc
 obtain⟨uy,rv,look⟩:=lk j y _ hj hσ (.inr (.inl hk))
 obtain⟨oc,hoc,hd⟩:s.heap.IsCell cl (some uy):=by
  rcases look with ⟨z,_⟩ | ⟨_,c,ec,ic⟩
  ·rw[hk] at z;cases z
  ·rw[hcl] at ec;cases ec;exact ic
 have hn:=I.freeC y cl hcl
 have above:=I.ok.cab y cl hfn hcl
 have nb:X.base.get? cl=none:=Heap.get?_none_of_le (Nat.le_trans I.ok.bsz above)
 have nf:cl∉frs X.stack:=fun z=>by
  rcases List.mem_cons.mp (I.stkSub cl z) with e | e
  ·exact I.cne y cl hcl e
  ·obtain⟨_,o,ho,_⟩:=I.ok.funs.mem e
   exact absurd (Nat.lt_of_lt_of_le (Heap.lt_size ho) above) (Nat.lt_irrefl _)
 have hs:=h oc uy hd rv hn
 have hl:us.length=ps.length:=by rw[<-r.length];exact F.len _ _ _ _ hs
 have bi:=hb s us I.kIn (by rw[List.append_nil];exact hl)
 rw[List.append_nil] at bi
 refine wpAny_call (codeAny_mono (F.run X.A X.stack s _ ⟨us,[]⟩ us vs _ E0 hr (I.env0.lend hn nb nf hoc) bi r hs) fun r s' hq => ?_)
 cases r with
 | error e=>exact False.elim hq
 | ok fl =>
  cases fl with
  | ret u=>exact I.after (CE.unlend hn hoc nf hq)
  | _=>exact False.elim hq
end
def tabUn (K:KFr):Bool:=decide (tabNames.filterMap fun x=>(PySem.W.tabIn K x).map Prod.snd).Nodup
def tabRc (K:KFr) (q:Program):Bool:=tabNames.all fun x=>!(PySem.W.tabIn K x).isSome || ((recsOf q).find? (fun e=>e.name == x)).isSome
theorem zW6 {α β:Type}{f:α->Option β}{p:β}:∀{l:List α}{x y:α},(l.filterMap f).Nodup->x∈l->y∈l->f x=some p->f y=some p->x=y
 | [],_,_,_,h,_,_,_=>nomatch h
 | a::l,x,y,nd,hx,hy,ex,ey=>by
  have sub:(l.filterMap f).Nodup:=by
   rw[List.filterMap_cons] at nd
   split at nd
   ·exact nd
   ·exact (List.nodup_cons.mp nd).2
  have no:∀z,z∈l->f z=some p->f a≠some p:=fun z hz ez ea=>by
   rw[List.filterMap_cons,ea] at nd
   exact (List.nodup_cons.mp nd).1 (List.mem_filterMap.mpr ⟨z,hz,ez⟩)
  rcases List.mem_cons.mp hx with e1 | h1
  ·rcases List.mem_cons.mp hy with e2 | h2
   ·rw[e1,e2]
   ·exact absurd (by rw[<-e1];exact ex) (no y h2 ey)
  ·rcases List.mem_cons.mp hy with e2 | h2
   ·exact absurd (by rw[<-e2];exact ey) (no x h1 ex)
   ·exact zW6 sub h1 h2 ex ey
theorem zA4 {q:Program}{K:Params->KFr}(h1:∀w:World,PySem.W.noTabs (K w.params)=true) (h2:∀w:World,tabUn (K w.params)=true) (h3:∀w:World,tabRc (K w.params) q=true):TabsOk q K:=by
 refine⟨h1,fun w x y c c' P hx hy ex ey => ?_,fun w x hx hs => ?_⟩
 ·have nd:=of_decide_eq_true (h2 w)
  exact zW6 (p:=P) nd hx hy (by rw[ex];rfl) (by rw[ey];rfl)
 ·have z:=List.all_eq_true.mp (h3 w) x hx
  rw[hs] at z
  exact z
theorem yT7 {K:KFr}{h:Heap}{mg:Str->Option Value}{x:Str}{c P f:Addr}{st:Stmt}{fd:FuncData}{ps:List Str}(X:K.In h) (G:h.Ns mainGlobals mg) (t:PySem.W.tabIn K x=some (c,P)) (H:Has K mg x st f fd ps):fd.code=.ref c:=by
 unfold PySem.W.tabIn at t
 split at t
 ·rename_i f' hn
  have e:=PySem.W.mg_of X G hn
  rw[H.m] at e
  cases e
  split at t
  ·rename_i fd' _ hl
   obtain⟨oc,od,kV,doc,pm,an,cdv,ct,osl,ef,lk,_⟩:=H.F.ex
   rw[lk] at hl
   cases hl
   split at t
   ·rename_i c' ec
    split at t
    ·split at t
     ·cases t
      exact ec
     ·cases t
    ·cases t
   ·cases t
  ·cases t
 ·cases t
theorem bQ {K:KFr}{h:Heap}{mg:Str->Option Value}{x:Str}{st:Stmt}{ps:List Str}(X:K.In h) (G:h.Ns mainGlobals mg) (t:(PySem.W.tabIn K x).isSome=true):∃c P,PySem.W.tabIn K x=some (c,P)/\∀f fd,Has K mg x st f fd ps->fd.code=.ref c:=by
 obtain⟨⟨c,P⟩,e⟩:=Option.isSome_iff_exists.mp t
 exact⟨c,P,e,fun f fd H=>yT7 X G e H⟩
end L2
namespace L2.L3
open PySem PySem.Spec PyProof.Rows MR
variable [CN]
def lamG (i:Nat) (xs:List Int):Nat->Nat->Nat:=fun b l=>if i=0 then nxt xs b else nxt xs l
def turnD (z:Nat×List Rv):D:=.tuple [.int (z.1:Int),.tuple (z.2.map fun r=>.int (r.1:Int))]
def oD:Option Nat->D
 | none=>.none
 | some x=>.int (x:Int)
structure PlyIn (i:Nat) (plan openings order:D) (out:List (Nat×List Rv)) (fin:List (Option Nat)):Prop where
 ex:∃(n:Nat) (ds:List D) (ops xs:List Int),plan=.tuple ds/\openings=.tuple (ops.map .int)/\order=.tuple (xs.map .int)/\ds.length=n/\(∀d∈ds,TrS n d)/\ops.length=n/\1<=n/\n<=6/\Ord n xs/\(∀z∈out,z.2.length<=900)/\Gm bxD nxD (lamG i xs) (fun p=>ds.getD p .none) (poK n (opF ops)) (List.replicate n none) out fin
theorem dU {a b:List Int}(h:a.map PyData.int=b.map PyData.int):a=b:=by
 have:=congrArg intsOf h
 rw[intsOf_map,intsOf_map] at this
 exact Option.some.inj this
theorem PlyIn.one {i:Nat}{p o q:D}{out out':List (Nat×List Rv)}{fin fin':List (Option Nat)}(a:PlyIn i p o q out fin) (b:PlyIn i p o q out' fin'):out=out'/\fin=fin':=by
 obtain⟨n,ds,ops,xs,rfl,rfl,rfl,h1,_,h2,_,_,_,_,g⟩:=a.ex
 obtain⟨n',ds',ops',xs',e1,e2,e3,h1',_,h2',_,_,_,_,g'⟩:=b.ex
 cases e1
 obtain rfl:=dU (show ops.map PyData.int=ops'.map PyData.int by injection e2)
 obtain rfl:=dU (show xs.map PyData.int=xs'.map PyData.int by injection e3)
 subst h1
 subst h1'
 exact g.det g'
open Classical in
def ply (i j:Nat) (p o q:D):Res D:=if h:∃z:List (Nat×List Rv)×List (Option Nat),PlyIn i p o q z.1 z.2 then .ok (if j=0 then .list (h.choose.1.map turnD) else .list (h.choose.2.map oD)) else .no
theorem yZ8 {i j:Nat}{p o q:D}{out:List (Nat×List Rv)}{fin:List (Option Nat)}(h:PlyIn i p o q out fin):ply i j p o q=.ok (if j=0 then .list (out.map turnD) else .list (fin.map oD)):=by
 have ex:∃z:List (Nat×List Rv)×List (Option Nat),PlyIn i p o q z.1 z.2:=⟨(out,fin),h⟩
 obtain⟨e1,e2⟩:=ex.choose_spec.one h
 unfold ply
 rw[dif_pos ex,e1,e2]
def eP (i j:Nat):Ev->Res D:=fun ρ=>match ρ[0]?,ρ[1]?,ρ[2]? with
 | some (some a),some (some b),some (some c)=>ply i j a b c
 | _,_,_=>.no
theorem yF1 {i j:Nat}{ρ:Ev}{φ:D->Prop}{ψ:Str->Prop}(h:(eP i j ρ).post φ ψ):∃a b c out fin,ρ[0]?=some (some a)/\ρ[1]?=some (some b)/\ρ[2]?=some (some c)/\PlyIn i a b c out fin/\φ (if j=0 then .list (out.map turnD) else .list (fin.map oD)):=by
 unfold eP at h
 split at h
 ·rename_i a b c e1 e2 e3
  unfold ply at h
  split at h
  ·rename_i ex
   exact⟨a,b,c,_,_,e1,e2,e3,ex.choose_spec,h⟩
  ·exact False.elim h
 ·exact False.elim h
def tPly (i:Nat):TE:=fun σ H Q=>∃(pa oa qa:Addr) (n:Nat) (ds:List D) (ops xs:List Int) (out:List (Nat×List Rv)) (fin:List (Option Nat)),σ[0]?=some (some (.ref pa))/\σ[1]?=some (some (.ref oa))/\σ[2]?=some (some (.ref qa))/\Rep H (fun _=>False) (.ref pa) (.tuple ds)/\Rd H oa (.tup (ops.map V.int))/\Rd H qa (.tup (xs.map V.int)) /\
 ds.length=n/\(∀d∈ds,TrS n d)/\ops.length=n/\1<=n/\n<=6/\Ord n xs/\(∀z∈out,z.2.length<=900)/\Gm bxD nxD (lamG i xs) (fun p=>ds.getD p .none) (poK n (opF ops)) (List.replicate n none) out fin /\
 ∀(a da sa:Addr) (H':Hp),H da=none->H sa=none->GmAt H sa da fin out H'->H' a=some (.tup [.ref da,.ref sa])->Q (.ref a) H'
theorem GmAt.less {H0 H1 H:Hp}{sa da:Addr}{fin:List (Option Nat)}{out:List (Nat×List Rv)}(x:∀b o,H0 b=some o->H1 b=some o) (G:GmAt H1 sa da fin out H):GmAt H0 sa da fin out H:=by
 obtain⟨as,a1,a2,a3⟩:=G.don
 have fr:∀a,H1 a=none->H0 a=none:=fun a h=>by
  cases e:H0 a with
  | none=>rfl
  | some o=>rw[x a o e] at h;cases h
 exact⟨fun b o e=>G.same b o (x b o e),G.see,as,a1,⟨a2.1,fun j a z e1 e2=>let ⟨c,q0,q1⟩:=a2.2 j a z e1 e2; ⟨c,fr c q0,q1⟩⟩,fun a ha=>fr a (a3 a ha)⟩
theorem GmAt.rmv {H0 H:Hp}{sa da cl:Addr}{oc:Obj}{fin:List (Option Nat)}{out:List (Nat×List Rv)}(hn:H0 cl=none) (C:H cl=some (cellO cl oc)) (G:GmAt H0 sa da fin out H):GmAt H0 sa da fin out (rmv H cl):=by
 have ne:∀b o,H b=some o->(∀φ,o ≠ .ext φ)->L2.rmv H cl b=some o:=fun b o e n=>by
  rw[yT (fun z=>by rw[z,C] at e;cases e;exact n _ rfl)]
  exact e
 obtain⟨as,a1,a2,a3⟩:=G.don
 refine⟨fun b o e => ?_,ne _ _ G.see (fun φ z=>nomatch z),as,ne _ _ a1 (fun φ z=>nomatch z),⟨a2.1,fun j a z e1 e2 => ?_⟩,a3⟩
 ·rw[yT (fun z=>by rw[z,hn] at e;cases e)]
  exact G.same b o e
 ·obtain⟨c,q0,q1,q2⟩:=a2.2 j a z e1 e2
  exact⟨c,q0,ne _ _ q1 (fun φ z=>nomatch z),ne _ _ q2 (fun φ z=>nomatch z)⟩
section
variable {X:Cx}
theorem yY9 {i k kk:Nat}{x y pl b1 b2:Str}{f c P:Addr}{fd:FuncData}{ps:List Str}{p p0 p1 pos lpos:Pos}{n0 n1:Str}{params:Arguments}{body:Expr}{sc:Scope}(hi:i<2)
  (F:FnOk X.prog X.w X.K X.mg X.base CX0 k f fd ps (spPlayed X.prog X.w X.K X.mg X.base (kk+1) orK)) (hr:Room k X.A) (hg:Gl X pl) (hm:X.mg pl=some (.ref f)) (hkp:PySem.W.keepIn X.K (.ref f)=true) (hb:Binds X.K fd ps [])
  (v0:PE X (.Name n0 p0) (tVar 0)) (v1:PE X (.Name n1 p1) (tVar 1))
  (hx:x∈tabNames) (ht:PySem.W.tabIn X.K x=some (c,P)) (hcode:X.env.code=.ref c) (hq:X.env.qual=x ++ ".<locals>.") (hdef:defaultsOf params X.env=([],[])) (hcl:∀cl,X.env.cells.lookup y=some cl->closureFor sc X.env=pure [(y,cl)])
  (S:LamScope [b1,b2] y sc) (hk:X.env.kindOf y=some .cell) (hj:X.N[2]?=some y) (hfn:X.fn y=true)
  (hba:∀(cl:Addr) (us:List Value) (pm cd ctv:Value),us.length=2->bindArgs (PySem.W.kla_fn "<lambda>" (lamQ x) params body sc [(y,cl)] pm cd ctv) ⟨us,[]⟩=pure ([b1,b2].zip us))
  (hbody:∀(A:Around) (H:Hp) (outer:List Env) (s:Shared) (f cl c':Addr),PE (cxLam X.prog X.w X.K X.mg X.base ([b1,b2] ++ [y]) (lamQ x) sc f (.ref c') [(y,cl)] A outer s H) body (tOp (rIxT X.K) (tVar 2) (tVar i)))
  (hdb:autoParam ((pl == ("__debug__":Str))=false) zL._auto_1) (he:autoParam (starEach [.Name n0 p0,.Name n1 p1,.Lambda params body sc lpos] X.env=(false,eval (.Name n0 p0) X.env)::starEach [.Name n1 p1,.Lambda params body sc lpos] X.env) zZ._auto_1) (hpl:autoParam ((backTo pos (starEach [.Name n1 p1,.Lambda params body sc lpos] X.env)).any (·.1)=false) zZ._auto_1)
  (h2:autoParam (starEach [.Name n1 p1,.Lambda params body sc lpos] X.env=(false,eval (.Name n1 p1) X.env)::starEach [.Lambda params body sc lpos] X.env) zZ._auto_1) (h3:autoParam (starEach [.Lambda params body sc lpos] X.env=(false,eval (.Lambda params body sc lpos) X.env)::starEach [] X.env) zZ._auto_1) :
  PE X (.Call (.Name pl p) [.Name n0 p0,.Name n1 p1,.Lambda params body sc lpos] [] pos) (tPly i):=by
 intro pins s σ H Q I h
 obtain⟨cl,ec⟩:=I.ok.has y (.inl hk)
 obtain⟨pa,oa,qa,n,ds,ops,xs,out,fin,e0,e1,e2,r0,r1,r2,g1,g2,g3,g4,g5,g6,g7,g8,q⟩:=h
 refine wpAny_Call_Name_kw (bO I hg hm ?_ hdb)
 have ha:=zU v0 (zU v1 (zU (zD9 (cl:=[(y,cl)]) hx ht hcode hq hdef (fun _=>hcl cl ec)) zO h3) h2) he
 refine PySem.W.callWith_K (h₀:=X.base) I.ok.mod.kin hkp (thn (ha pos pins s σ H (fun vs H1=>∃fl,vs=[.ref pa,.ref oa,.ref fl]/\LamAt H1 fl (lamQ x) params body sc [(y,cl)]/\Ext H H1) I ⟨_,e0,_,e1,fun fl H1 L ex _=>⟨fl,rfl,L,ex⟩⟩) fun us s1 ⟨vs,H1,I1,r,fl,ev,L,ex⟩=>⟨I1.kIn,?_⟩) he hpl
 subst ev
 refine yR9 (j:=2) F hr hb I1 r ec hk hfn hj e2 fun oc uy hd rv hn => ?_
 have up:Ext H1 (L2.upd H1 cl (cellO cl oc)):=Ext.new hn
 have ex2:=ex.trans up
 refine⟨pa,fl,.ref oa,ds,n,poK n (opF ops),out,fin,lamG i xs,rfl,r0.keep (fun b o e _=>ex2 b o e) (fun b _ z=>z),g1,g2,by bv_omega,?_,?_,⟨oa,ops,rfl,zA r1 fun o e=>ex2 _ _ e,g3,g4,g5,rfl⟩,?_,?_,g7,g8,?_⟩
 ·intro p hp
  exact List.mem_range.mp ((jM g5).1.mem_iff.mp hp)
 ·rw[(jM g5).1.length_eq,List.length_range];bv_omega
 ·refine yJ4 hi S rfl (L.ext up) zV hd rv (zA r2 fun o e=>ex2 _ _ e) g6 (fun us pm cd ctv hl=>hba cl us pm cd ctv hl) fun H A outer s c'=>hbody A (L2.rmv H cl) outer s fl cl c'
 ·intro b l hb hl
  unfold lamG
  split
  ·exact g6.xZ hb
  ·exact g6.xZ hl
 ·intro a da sa H' hna hnd hns G hta
  have C2:H' cl=some (cellO cl oc):=G.same _ _ zV
  refine⟨C2,q a da sa _ ?_ ?_ ((G.less fun b o e=>ex2 b o e).rmv (by
   cases z:H cl with
   | none=>rfl
   | some o=>have:=ex _ _ z;rw[hn] at this;cases this) C2) ?_⟩
  ·cases z:H da with
   | none=>rfl
   | some o=>rw[ex2 _ _ z] at hnd;cases hnd
  ·cases z:H sa with
   | none=>rfl
   | some o=>rw[ex2 _ _ z] at hns;cases hns
  ·rw[yT (fun z=>by rw[z,C2] at hta;cases hta)]
   exact hta
end
theorem dG {H:Hp}{O:Addr->Prop}{α:Type}{f:α->V}{g:α->D}:∀(l:List α),(∀x∈l,Rep H O (f x) (g x))->Reps H O (l.map f) (l.map g)
 | [],_=>.nil
 | a::l,h=>.cons (h a List.mem_cons_self) (dG l fun x hx=>h x (List.mem_cons_of_mem _ hx))
theorem zJ4 {H:Hp}{O:Addr->Prop}:∀(vs:List V) (ds:List D),vs.length=ds.length->(∀(j:Nat) (v:V) (d:D),vs[j]?=some v->ds[j]?=some d->Rep H O v d)->Reps H O vs ds
 | [],[],_,_=>.nil
 | [],_::_,h,_=>by cases h
 | _::_,[],h,_=>by cases h
 | a::vs,b::ds,h,f=>.cons (f 0 a b rfl rfl) (zJ4 vs ds (Nat.succ.inj h) fun j v d e1 e2=>f (j+1) v d (by simpa using e1) (by simpa using e2))
theorem yZ1 {H0 H:Hp}{O:Addr->Prop}{as:List Addr}{out:List (Nat×List Rv)}(oh:∀a,O a->(H0 a≠none\/∃xs,H a=some (.lst xs))) (T:TurnsAt H0 H as out) (new:∀a∈as,H0 a=none):Reps H O (as.map V.ref) (out.map turnD):=by
 have no:∀a xs,H0 a=none->H a=some (.tup xs)->¬O a:=fun a xs h1 h2 z=>by
  rcases oh a z with q | ⟨ys,q⟩
  ·exact q h1
  ·rw[h2] at q;cases q
 refine zJ4 _ _ (by rw[List.length_map,List.length_map,T.1]) fun j v d e1 e2 => ?_
 rw[List.getElem?_map] at e1 e2
 obtain⟨a,ea,rfl⟩:=Option.map_eq_some_iff.mp e1
 obtain⟨z,ez,rfl⟩:=Option.map_eq_some_iff.mp e2
 obtain⟨c,h0,h1,h2⟩:=T.2 j a z ea ez
 refine .tup (.inl h1) (no a _ (new a (List.mem_of_getElem? ea)) h1) (.cons (.int _) (.cons (.tup (.inl h2) (no c _ h0 h2) ?_) .nil))
 exact dG z.2 fun r _=>.int _
theorem zB9 {C:Ct}{i j:Nat}{e b:Expr}{pos:Pos}(hj:j<2) (he:PE C.X e (tPly i)) (hb:PE C.X b (tC (.int (j:Int)))) (hs:PlainIx b) (o0:0∉C.om/\0∉C.ln) (o1:1∉C.om/\1∉C.ln) (o2:2∉C.om/\2∉C.ln):RE C .new (.Subscript e b pos) (eP i j):=by
 refine⟨_,xX wV he hb hs,fun Oc Ob σ H ρ Q R h => ?_⟩
 obtain⟨a,b,c,out,fin,e0,e1,e2,P,k⟩:=yF1 h
 obtain⟨n,ds,ops,xs,rfl,rfl,rfl,g1,g2,g3,g4,g5,g6,g7,g8⟩:=P.ex
 obtain⟨v0,s0,r0⟩:=R.val 0 _ e0 o0.1 o0.2
 obtain⟨v1,s1,r1⟩:=R.val 1 _ e1 o1.1 o1.2
 obtain⟨v2,s2,r2⟩:=R.val 2 _ e2 o2.1 o2.2
 have q0:=r0.less (O':=fun _=>False) fun _ z=>z.elim
 cases r0 with
 | @tup pa _ _ _ _ _ =>
 cases r1 with
 | @tup oa y1 _ rd1 _ rs1 =>
 cases r2 with
 | @tup qa y2 _ rd2 _ rs2 =>
 obtain rfl:=rs1.ints
 obtain rfl:=rs2.ints
 refine⟨pa,oa,qa,n,ds,ops,xs,out,fin,s0,s1,s2,q0,rd1,rd2,g1,g2,g3,g4,g5,g6,g7,g8,fun a da sa H' hd hsn G hta => ?_⟩
 obtain⟨as,d1,d2,d3⟩:=G.don
 have oh:∀(l:Addr),(∃xs,H' l=some (.lst xs))->∀b,(Uni Oc Ob b\/b=l)->(H b≠none\/∃xs,H' b=some (.lst xs)):=fun l hl b z=>by
  rcases z with z | z
  ·exact .inl (R.oh b z)
  ·rw[z];exact .inr hl
 rcases (show j=0\/j=1 by bv_omega) with rfl | rfl
 ·refine⟨a,_,_,.ref da,rfl,rfl,.inl (.inl hta),rfl,k _ _ G.same ?_⟩
  rw[if_pos rfl]
  exact⟨da,_,_,rfl,rfl,hd,d1,yZ1 (oh da ⟨_,d1⟩) d2 d3⟩
 ·refine⟨a,_,_,.ref sa,rfl,rfl,.inl (.inl hta),rfl,k _ _ G.same ?_⟩
  rw[if_neg (by decide)]
  exact⟨sa,_,_,rfl,rfl,hsn,G.see,dG fin fun x _=>by cases x with | none=>exact .non | some x=>exact .int _⟩
end L2.L3
namespace L2
open PySem PySem.Spec PyProof.Rows
theorem LamScope.of {ps:List Str}{y:Str}{sc:Scope}(h1:sc.kind=.function) (h2:sc.isCoroutine=false) (h3:sc.isGenerator=false) (h4:∀x∈ps,sc.names.lookup x=some .local) (h5:ps.Nodup) (h6:sc.names.lookup y=some .free) (h7:∀z∈sc.names,z.2 ≠ .cell) (h8:(sc.names.all fun p=>!(p.2 == .free) || p.1 == y)=true):LamScope ps y sc:=by
 refine⟨h1,h2,h3,h4,h5,h6,h7,fun z e => ?_⟩
 have:=List.all_eq_true.mp h8 _ (PySem.mem_of_lookup e)
 simpa using this
theorem zQ4 {env:Env}{ad:Str->Addr}:∀(names:List (Str×NameKind)) (cs:List (Str×Addr)),(∀p∈names,p.2=.free->env.cells.lookup p.1=some (ad p.1)) ->
  (forIn names cs (fun (p:Str×NameKind) (r:List (Str×Addr))=>(if (p.2 == .free)=true then (do let a <-cellOf env p.1;pure (ForInStep.yield ((p.1,a)::r))) else pure (ForInStep.yield r):Sem _)))=(pure (((names.filter fun p=>p.2 == .free).map fun p=>(p.1,ad p.1)).reverse++cs):Sem _)
 | [],cs,_=>by simp
 | p::names,cs,h=>by
  rw[List.forIn_cons]
  by_cases e:p.2=.free
  ·have e':(p.2 == .free)=true:=by rw[e];rfl
   have ec:cellOf env p.1=pure (ad p.1):=by
    unfold cellOf
    rw[h p List.mem_cons_self e]
   rw[if_pos e',ec]
   simp only[pure_bind]
   rw[zQ4 names _ fun q hq=>h q (List.mem_cons_of_mem _ hq),List.filter_cons,if_pos e']
   simp
  ·have e':¬(p.2 == .free)=true:=fun z=>e (by simpa using z)
   rw[if_neg e']
   simp only[pure_bind]
   rw[zQ4 names _ fun q hq=>h q (List.mem_cons_of_mem _ hq),List.filter_cons,if_neg e']
theorem jX {sc:Scope}{env:Env}{y:Str}{cl:Addr}(h:(sc.names.filter fun p=>p.2 == .free)=[(y,.free)]) (e:env.cells.lookup y=some cl):closureFor sc env=pure [(y,cl)]:=by
 have g:=zQ4 (env:=env) (ad:=fun _=>cl) sc.names [] fun p hp hf=>by
  have:p∈sc.names.filter fun p=>p.2 == .free:=List.mem_filter.mpr ⟨hp,by rw[hf];rfl⟩
  rw[h] at this
  rw[List.mem_singleton.mp this]
  exact e
 rw[h] at g
 unfold closureFor
 show (forIn sc.names [] (fun (p:Str×NameKind) (r:List (Str×Addr))=>(if (p.2 == .free)=true then (do let a <-cellOf env p.1;pure (ForInStep.yield ((p.1,a)::r))) else pure (ForInStep.yield r):Sem _)) >>= fun cs=>pure cs)=_
 rw[g]
 rfl
end L2
namespace L2.L3
open PySem PySem.Spec PyProof.Rows
variable [CN]
section
variable {P:Program}{w:World}{K:KFr}{mg:Str->Option Value}{base:Heap}
theorem yW2 {c:Addr}{x:Str}{st:Stmt}{f:Addr}{fd:FuncData}{N ps:List Str}{k:Nat}{m:Ev->Res Out}{fr:Bool}(om:List Nat) (F:Fun K x x st f fd) (hc:fd.code=.ref c) (S:zJ N ps (zT st))
  (hbody:∀(A:Around) (outer:List Env) (s:Shared) (H:Hp) (E:XK),Room k (A.deeper (envOfC x (zT st) s.heap.objs.size f (.ref c)))->RSs (bodyCt P w K mg base N x (zT st) f (.ref c) A outer s H E om) fr (defBody st) m)
  (hom:autoParam (om.all (fun i=>decide (ps.length<=i))=true) zZ._auto_1) :
  FnOk P w K mg base CX0 (k+1) f fd ps (spF fr (runF fr ps.length N.length m)):=by
 have len:∀(vs:List V) (H:Hp) (Q:VK) (E:XK),spF fr (runF fr ps.length N.length m) vs H Q E->vs.length=ps.length:=fun vs H Q E h=>by
  obtain⟨ds,O,oh,r,k⟩:=h
  unfold runF at k
  split at k
  ·rename_i hl
   rw[r.length];exact hl
  ·exact k.elim
 refine F.okC hc S len fun A outer s H vs Q E hr h => ?_
 have hvl:=len vs H Q E h
 obtain⟨ds,O,oh,r,k⟩:=h
 have hl:ds.length=ps.length:=by rw[<-r.length];exact hvl
 unfold runF at k
 rw[if_pos hl] at k
 obtain⟨t,p,q⟩:=hbody A outer s H E hr
 refine⟨t,p,q ⟨O,fun _=>0⟩ (fun _=>False) _ H (ds.map some++List.replicate (N.length-ps.length) none) _ ?_ ?_⟩
 ·refine⟨?_,fun i d e _ _ => ?_,fun i d e ho => ?_,fun i d e _ hl=>(nomatch hl),fun i j di dj a ei _ ho _ _ _ => ?_,fun a z=>oh a (z.elim id fun z=>z.elim),fun a z=>z.elim⟩
  ·unfold start
   rw[List.length_append,List.length_append,List.length_map,List.length_map,List.length_replicate,List.length_replicate,hvl,hl]
  ·obtain⟨v,ev,rv⟩:=r.get (wI e)
   exact⟨v,zV8 ev,rv.less fun b z=>z.elim id fun z=>z.elim⟩
  ·have h1:=(List.getElem?_eq_some_iff.mp (wI e)).1
   have h2:ps.length<=i:=of_decide_eq_true (List.all_eq_true.mp hom i ho)
   bv_omega
  ·have h1:=(List.getElem?_eq_some_iff.mp (wI ei)).1
   have h2:ps.length<=i:=of_decide_eq_true (List.all_eq_true.mp hom i ho)
   bv_omega
 ·refine Res.zS (Res.zX k) (fun o _ k => ?_) fun c z=>z.elim
  have same:∀{H':Hp},Frm (fun _=>False) H H'->Same H H':=fun f b o e=>f b o e fun z=>z
  cases o with
  | rt d =>
   intro v H' f rt
   refine k v H' (same f) ?_
   cases fr with
   | false=>exact rt
   | true =>
    obtain⟨a,ys,ds,e1,e2,e3,e4,e5,e6⟩:=rt
    exact⟨a,ys,ds,e1,e2,e3.elim id fun z=>z.elim,e5,e6⟩
  | nx ρ' =>
   cases fr with
   | true=>exact k.elim
   | false=>exact fun σ' H' Ob' R f s=>k .non H' (same f) Rep.non
end
end L2.L3
namespace TS
open PySem PySem.W PyProof.Rows
section
variable {M:Model}{A:Around}{E:Value->Shared->Prop}{σ:Type}
theorem kmono {α:Type}{m:StateT σ Sem α}{Q Q':α->σ->Shared->Prop}{st:σ}{s:Shared}(h:kasC M A E m Q st s) (q:∀a st s,Q a st s->Q' a st s):kasC M A E m Q' st s:=wpAny_mono h (fun r s' z=>q _ _ _ z) fun _ _ e=>e
theorem loopL {β:Type}{f:Nat->β->StateT σ Sem (ForInStep β)}{Q:β->σ->Shared->Prop}(I:Nat->β->σ->Shared->Prop) (hend:∀b st s,I 0 b st s->Q b st s)
  (hs:∀x m b st s,I m b st s->kasC M A E (f x b) (fun r st' s'=>match r with | .done b'=>Q b' st' s' | .yield b'=>∃m',m'+1<=m/\I m' b' st' s') st s) :
  ∀(l:List Nat) (m:Nat) (b:β) (st:σ) (s:Shared),m<=l.length->I m b st s->kasC M A E (forIn l b f) Q st s
 | [],m,b,st,s,hm,h=>by
  have:m=0:=by simpa using hm
  subst this
  exact kasC_nil (hend b st s h)
 | x::l,m,b,st,s,hm,h=>by
  refine kasC_cons (kmono (hs x m b st s h) fun r st' s' z => ?_)
  cases r with
  | done b'=>exact z
  | yield b' =>
   obtain⟨m',h1,h2⟩:=z
   exact loopL I hend hs l m' b' st' s' (by simp at hm;bv_omega) h2
theorem loopR {β:Type}{f:Nat->β->StateT σ Sem (ForInStep β)}{Q:β->σ->Shared->Prop}(I:Nat->β->σ->Shared->Prop){a c m:Nat}{b:β}{st:σ}{s:Shared}(hm:m<=c-a) (h0:I m b st s) (hend:∀b st s,I 0 b st s->Q b st s)
  (hs:∀x m b st s,I m b st s->kasC M A E (f x b) (fun r st' s'=>match r with | .done b'=>Q b' st' s' | .yield b'=>∃m',m'+1<=m/\I m' b' st' s') st s):kasC M A E (forIn [a:c] b f) Q st s :=
 kasC_range (loopL I hend hs _ m b st s (by rw[List.length_range'];exact hm) h0)
end
def gallop':Bool->Keyed->Array Keyed->Nat->Nat->Nat->StateT SortSt Sem (Option Nat):=sortPriv% PySem.Builtin.gallop
abbrev beyond (left:Bool) (key:Keyed) (arr:Array Keyed) (base i:Nat):StateT SortSt Sem (Option Bool):=elem' arr (base+i) >>= fun x=>if left=true then lt' x key else lt' key x >>= fun r=>pure (r.map fun b=>!b)
section
variable {M:Model}{A:Around}{E:Value->Shared->Prop}
def Tells (M:Model) (A:Around) (E:Value->Shared->Prop) (G:Shared->Prop) (st:SortSt) (n:Nat) (B:Nat->Bool) (f:Nat->StateT SortSt Sem (Option Bool)):Prop :=
 ∀i,i<n->∀(Q:Option Bool->SortSt->Shared->Prop) (s:Shared),G s->(∀s',G s'->Q (some (B i)) st s')->kasC M A E (f i) Q st s
theorem halves {G:Shared->Prop}{st:SortSt}{n:Nat}{B:Nat->Bool}{F:Nat->Option (Option Nat)×Nat×Nat->StateT SortSt Sem (ForInStep (Option (Option Nat)×Nat×Nat))}{Q:Option (Option Nat)×Nat×Nat->SortSt->Shared->Prop}(mono:∀i j,i<=j->j<n->B j=true->B i=true)
  (f1:∀x lo hi,lo ≥ hi->F x (none,lo,hi)=pure (ForInStep.done (none,lo,hi)))
  (f2:∀x lo hi,lo<hi->hi<=n->∀(R:ForInStep (Option (Option Nat)×Nat×Nat)->SortSt->Shared->Prop) (s:Shared),G s->(∀s',G s'->R (if B (lo+(hi-lo) / 2)=true then .yield (none,lo+(hi-lo) / 2+1,hi) else .yield (none,lo,lo+(hi-lo) / 2)) st s')->kasC M A E (F x (none,lo,hi)) R st s)
  {lo hi:Nat}{s:Shared}(h1:lo<=hi) (h2:hi<=n) (h3:∀i,i<lo->B i=true) (h4:∀i,hi<=i->i<n->B i=false) (g:G s)
  (q:∀l k s',k<=n->(∀i,i<k->B i=true)->(∀i,k<=i->i<n->B i=false)->G s'->Q (none,l,k) st s'):kasC M A E (forIn [0:n] (none,lo,hi) F) Q st s:=by
 have non:∀i j,i<=j->j<n->B i=false->B j=false:=fun i j h1 h2 h3=>by
  cases c:B j with
  | false=>rfl
  | true=>rw[mono i j h1 h2 c] at h3;cases h3
 refine loopR (fun m (b:Option (Option Nat)×Nat×Nat) st' s'=>∃lo hi,b=(none,lo,hi)/\st'=st/\G s'/\lo<=hi/\hi<=n/\(∀i,i<lo->B i=true)/\(∀i,hi<=i->i<n->B i=false)/\m=hi-lo) (m:=hi-lo) (by bv_omega) ⟨lo,hi,rfl,rfl,g,h1,h2,h3,h4,rfl⟩ ?_ ?_
 ·rintro b st' s' ⟨lo,hi,rfl,rfl,g',a1,a2,a3,a4,a6⟩
  exact q lo hi s' a2 (fun i hi=>a3 i (by bv_omega)) a4 g'
 ·rintro x m b st' s' ⟨lo,hi,rfl,rfl,g',a1,a2,a3,a4,rfl⟩
  by_cases c:lo ≥ hi
  ·rw[f1 x lo hi c]
   exact kasC_pure (q lo hi s' a2 (fun i hi=>a3 i (by bv_omega)) a4 g')
  ·refine f2 x lo hi (by bv_omega) a2 _ s' g' fun s2 g2 => ?_
   cases e:B (lo+(hi-lo) / 2) with
   | true =>
    rw[if_pos rfl]
    exact⟨hi-(lo+(hi-lo) / 2+1),by bv_omega,_,_,rfl,rfl,g2,by bv_omega,a2,fun i hi=>mono i _ (by bv_omega) (by bv_omega) e,a4,rfl⟩
   | false =>
    rw[if_neg Bool.false_ne_true]
    exact⟨lo+(hi-lo) / 2-lo,by bv_omega,_,_,rfl,rfl,g2,by bv_omega,by bv_omega,a3,fun i h1 h2=>non _ i h1 h2 e,rfl⟩
theorem aI {G:Shared->Prop}{st:SortSt}{left:Bool}{key:Keyed}{arr:Array Keyed}{base n hint:Nat}{B:Nat->Bool}{Q:Option Nat->SortSt->Shared->Prop}{s:Shared}(T:Tells M A E G st n B (beyond left key arr base)) (mono:∀i j,i<=j->j<n->B j=true->B i=true) (hh:hint<n) (g:G s)
  (q:∀k s',k<=n->(∀i,i<k->B i=true)->(∀i,k<=i->i<n->B i=false)->G s'->Q (some k) st s'):kasC M A E (gallop' left key arr base n hint) Q st s:=by
 have non:∀i j,i<=j->j<n->B i=false->B j=false:=fun i j h1 h2 h3=>by
  cases c:B j with
  | false=>rfl
  | true=>rw[mono i j h1 h2 c] at h3;cases h3
 refine kasC_bind (T hint hh _ s g fun s1 g1 => ?_)
 dsimp only
 cases e0:B hint with
 | true =>
  rw[if_pos rfl]
  refine kasC_bind (loopR (fun m (b:Option (Option Nat)×Nat×Nat) st' s'=>∃l o,b=(none,l,o)/\st'=st/\G s'/\l<o/\hint+l<n/\B (hint+l)=true/\m=n-o) (m:=n-1) (by bv_omega) ⟨0,1,rfl,rfl,g1,by bv_omega,by bv_omega,e0,rfl⟩ ?_ ?_)
  ·rintro b st' s' ⟨l,o,rfl,rfl,g',a1,a2,a3,a4⟩
   dsimp only
   refine kasC_bind (halves (G:=G) (B:=B) (lo:=hint+l+1) (hi:=hint+min o (n-hint)) mono (fun x lo hi c=>by dsimp only;rw[if_pos c]) (fun x lo hi c1 c2 R s' g' k=>by
    dsimp only
    rw[if_neg (by bv_omega)]
    refine kasC_bind (T _ (by bv_omega) _ s' g' fun s2 g2 => ?_)
    dsimp only
    have k2:=k s2 g2
    cases e:B (lo+(hi-lo) / 2) with
    | true=>rw[e,if_pos rfl] at k2;rw[if_pos rfl];exact kasC_pure k2
    | false=>rw[e,if_neg Bool.false_ne_true] at k2;rw[if_neg Bool.false_ne_true];exact kasC_pure k2) (by bv_omega) (by bv_omega) (fun i hi=>mono i _ (by bv_omega) a2 a3) (fun i h1 h2=>by bv_omega) g' fun l k s' k1 k2 k3 k4 => ?_)
   exact kasC_pure (q k s' k1 k2 k3 k4)
  ·rintro x m b st' s' ⟨l,o,rfl,rfl,g',a1,a2,a3,rfl⟩
   dsimp only
   by_cases c:o ≥ n-hint
   ·rw[if_pos c]
    refine kasC_pure ?_
    dsimp only
    refine kasC_bind (halves (G:=G) (B:=B) (lo:=hint+l+1) (hi:=hint+min o (n-hint)) mono (fun x lo hi c=>by dsimp only;rw[if_pos c]) (fun x lo hi c1 c2 R s' g' k=>by
     dsimp only
     rw[if_neg (by bv_omega)]
     refine kasC_bind (T _ (by bv_omega) _ s' g' fun s2 g2 => ?_)
     dsimp only
     have k2:=k s2 g2
     cases e:B (lo+(hi-lo) / 2) with
     | true=>rw[e,if_pos rfl] at k2;rw[if_pos rfl];exact kasC_pure k2
     | false=>rw[e,if_neg Bool.false_ne_true] at k2;rw[if_neg Bool.false_ne_true];exact kasC_pure k2) (by bv_omega) (by bv_omega) (fun i hi=>mono i _ (by bv_omega) a2 a3) (fun i h1 h2=>by bv_omega) g' fun l k s' k1 k2 k3 k4 => ?_)
    exact kasC_pure (q k s' k1 k2 k3 k4)
   ·rw[if_neg c]
    refine kasC_bind (T _ (by bv_omega) _ s' g' fun s2 g2 => ?_)
    dsimp only
    cases e:B (hint+o) with
    | false =>
     rw[if_pos (by rfl)]
     refine kasC_pure ?_
     dsimp only
     refine kasC_bind (halves (G:=G) (B:=B) (lo:=hint+l+1) (hi:=hint+min o (n-hint)) mono (fun x lo hi c=>by dsimp only;rw[if_pos c]) (fun x lo hi c1 c2 R s' g' k=>by
      dsimp only
      rw[if_neg (by bv_omega)]
      refine kasC_bind (T _ (by bv_omega) _ s' g' fun s2 g2 => ?_)
      dsimp only
      have k2:=k s2 g2
      cases e:B (lo+(hi-lo) / 2) with
      | true=>rw[e,if_pos rfl] at k2;rw[if_pos rfl];exact kasC_pure k2
      | false=>rw[e,if_neg Bool.false_ne_true] at k2;rw[if_neg Bool.false_ne_true];exact kasC_pure k2) (by bv_omega) (by bv_omega) (fun i hi=>mono i _ (by bv_omega) a2 a3) (fun i h1 h2=>non _ i (by bv_omega) h2 e) g2 fun l k s' k1 k2 k3 k4 => ?_)
     exact kasC_pure (q k s' k1 k2 k3 k4)
    | true =>
     rw[if_neg (by simp)]
     exact kasC_pure ⟨n-(2*o+1),by bv_omega,_,_,rfl,rfl,g2,by bv_omega,by bv_omega,e,rfl⟩
 | false =>
  rw[if_neg Bool.false_ne_true]
  refine kasC_bind (loopR (fun m (b:Option (Option Nat)×Nat×Nat) st' s'=>∃l o,b=(none,l,o)/\st'=st/\G s'/\l<o/\l<=hint/\B (hint-l)=false/\m=n-o) (m:=n-1) (by bv_omega) ⟨0,1,rfl,rfl,g1,by bv_omega,by bv_omega,e0,rfl⟩ ?_ ?_)
  ·rintro b st' s' ⟨l,o,rfl,rfl,g',a1,a2,a3,a4⟩
   dsimp only
   refine kasC_bind (halves (G:=G) (B:=B) (lo:=hint+1-min o (hint+1)) (hi:=hint-l) mono (fun x lo hi c=>by dsimp only;rw[if_pos c]) (fun x lo hi c1 c2 R s' g' k=>by
    dsimp only
    rw[if_neg (by bv_omega)]
    refine kasC_bind (T _ (by bv_omega) _ s' g' fun s2 g2 => ?_)
    dsimp only
    have k2:=k s2 g2
    cases e:B (lo+(hi-lo) / 2) with
    | true=>rw[e,if_pos rfl] at k2;rw[if_pos rfl];exact kasC_pure k2
    | false=>rw[e,if_neg Bool.false_ne_true] at k2;rw[if_neg Bool.false_ne_true];exact kasC_pure k2) (by bv_omega) (by bv_omega) (fun i hi=>by bv_omega) (fun i h1 h2=>non _ i h1 h2 a3) g' fun l k s' k1 k2 k3 k4 => ?_)
   exact kasC_pure (q k s' k1 k2 k3 k4)
  ·rintro x m b st' s' ⟨l,o,rfl,rfl,g',a1,a2,a3,rfl⟩
   dsimp only
   by_cases c:o ≥ hint+1
   ·rw[if_pos c]
    refine kasC_pure ?_
    dsimp only
    refine kasC_bind (halves (G:=G) (B:=B) (lo:=hint+1-min o (hint+1)) (hi:=hint-l) mono (fun x lo hi c=>by dsimp only;rw[if_pos c]) (fun x lo hi c1 c2 R s' g' k=>by
     dsimp only
     rw[if_neg (by bv_omega)]
     refine kasC_bind (T _ (by bv_omega) _ s' g' fun s2 g2 => ?_)
     dsimp only
     have k2:=k s2 g2
     cases e:B (lo+(hi-lo) / 2) with
     | true=>rw[e,if_pos rfl] at k2;rw[if_pos rfl];exact kasC_pure k2
     | false=>rw[e,if_neg Bool.false_ne_true] at k2;rw[if_neg Bool.false_ne_true];exact kasC_pure k2) (by bv_omega) (by bv_omega) (fun i hi=>by bv_omega) (fun i h1 h2=>non _ i h1 h2 a3) g' fun l k s' k1 k2 k3 k4 => ?_)
    exact kasC_pure (q k s' k1 k2 k3 k4)
   ·rw[if_neg c]
    refine kasC_bind (T _ (by bv_omega) _ s' g' fun s2 g2 => ?_)
    dsimp only
    cases e:B (hint-o) with
    | true =>
     rw[if_pos rfl]
     refine kasC_pure ?_
     dsimp only
     refine kasC_bind (halves (G:=G) (B:=B) (lo:=hint+1-min o (hint+1)) (hi:=hint-l) mono (fun x lo hi c=>by dsimp only;rw[if_pos c]) (fun x lo hi c1 c2 R s' g' k=>by
      dsimp only
      rw[if_neg (by bv_omega)]
      refine kasC_bind (T _ (by bv_omega) _ s' g' fun s2 g2 => ?_)
      dsimp only
      have k2:=k s2 g2
      cases e:B (lo+(hi-lo) / 2) with
      | true=>rw[e,if_pos rfl] at k2;rw[if_pos rfl];exact kasC_pure k2
      | false=>rw[e,if_neg Bool.false_ne_true] at k2;rw[if_neg Bool.false_ne_true];exact kasC_pure k2) (by bv_omega) (by bv_omega) (fun i hi=>mono i _ (by bv_omega) (by bv_omega) e) (fun i h1 h2=>non _ i h1 h2 a3) g2 fun l k s' k1 k2 k3 k4 => ?_)
     exact kasC_pure (q k s' k1 k2 k3 k4)
    | false =>
     rw[if_neg Bool.false_ne_true]
     exact kasC_pure ⟨n-(2*o+1),by bv_omega,_,_,rfl,rfl,g2,by bv_omega,by bv_omega,e,rfl⟩
end
end TS
namespace TS
open PySem PySem.W PyProof.Rows
structure J (rk:Keyed->Nat) (la lb:List Keyed) (o:List Keyed) (ia ib:Nat):Prop where
 perm:(o++(la.drop ia++lb.drop ib)).Perm (la++lb)
 srt:o.Pairwise fun x y=>rk x<=rk y
 low:∀x∈o,∀y∈la.drop ia++lb.drop ib,rk x<=rk y
abbrev Srt (rk:Keyed->Nat) (l:List Keyed):Prop:=l.Pairwise fun x y=>rk x<=rk y
section
variable {rk:Keyed->Nat}{la lb o:List Keyed}{ia ib:Nat}
theorem uN {l:List Keyed}{i:Nat}{x:Keyed}(h:l[i]?=some x):l.drop i=x::l.drop (i+1):=by
 obtain⟨hi,e⟩:=List.getElem?_eq_some_iff.mp h
 rw[List.drop_eq_getElem_cons hi,e]
theorem vK {l:List Keyed}(h:Srt rk l) (i:Nat):Srt rk (l.drop i):=h.sublist (List.drop_sublist i l)
theorem vH {l:List Keyed}(h:Srt rk l){i:Nat}{x:Keyed}(e:l[i]?=some x):∀y∈l.drop i,rk x<=rk y:=fun y hy=>by
 have s:=vK h i
 rw[uN e] at s hy
 rcases List.mem_cons.mp hy with rfl | hy
 ·exact Nat.le_refl _
 ·exact (List.pairwise_cons.mp s).1 y hy
theorem J.pushB (j:J rk la lb o ia ib) (sb:Srt rk lb){x:Keyed}(e:lb[ib]?=some x) (h:∀y∈la.drop ia,rk x<=rk y):J rk la lb (o ++ [x]) ia (ib+1):=by
 have d:=uN e
 have ld:=vH sb e
 refine⟨?_,?_,?_⟩
 ·refine List.Perm.trans ?_ j.perm
  rw[d,List.append_assoc]
  refine List.Perm.append_left o ?_
  rw[List.singleton_append]
  exact List.perm_middle.symm
 ·rw[List.pairwise_append]
  refine⟨j.srt,List.pairwise_singleton _ _,fun y hy z hz => ?_⟩
  rw[List.mem_singleton.mp hz]
  exact j.low y hy x (by rw[d];simp)
 ·intro y hy z hz
  have hz':z∈la.drop ia++lb.drop ib:=by
   rw[d]
   rcases List.mem_append.mp hz with h | h
   ·exact List.mem_append_left _ h
   ·exact List.mem_append_right _ (List.mem_cons_of_mem _ h)
  rcases List.mem_append.mp hy with hy | hy
  ·exact j.low y hy z hz'
  ·rw[List.mem_singleton.mp hy]
   rcases List.mem_append.mp hz' with h' | h'
   ·exact h z h'
   ·exact ld z h'
theorem J.pushA (j:J rk la lb o ia ib) (sa:Srt rk la){x:Keyed}(e:la[ia]?=some x) (h:∀y∈lb.drop ib,rk x<=rk y):J rk la lb (o ++ [x]) (ia+1) ib:=by
 have d:=uN e
 have ld:=vH sa e
 refine⟨?_,?_,?_⟩
 ·refine List.Perm.trans ?_ j.perm
  rw[d,List.append_assoc]
  exact List.Perm.append_left o (List.Perm.refl _)
 ·rw[List.pairwise_append]
  refine⟨j.srt,List.pairwise_singleton _ _,fun y hy z hz => ?_⟩
  rw[List.mem_singleton.mp hz]
  exact j.low y hy x (by rw[d];simp)
 ·intro y hy z hz
  have hz':z∈la.drop ia++lb.drop ib:=by
   rw[d]
   rcases List.mem_append.mp hz with h | h
   ·exact List.mem_append_left _ (List.mem_cons_of_mem _ h)
   ·exact List.mem_append_right _ h
  rcases List.mem_append.mp hy with hy | hy
  ·exact j.low y hy z hz'
  ·rw[List.mem_singleton.mp hy]
   rcases List.mem_append.mp hz' with h' | h'
   ·exact ld z h'
   ·exact h z h'
theorem J.runA (sa:Srt rk la):∀(k:Nat){o:List Keyed}{ia:Nat},J rk la lb o ia ib->ia+k<=la.length->(∀x∈(la.drop ia).take k,∀y∈lb.drop ib,rk x<=rk y)->J rk la lb (o++(la.drop ia).take k) (ia+k) ib
 | 0,o,ia,j,_,_=>by rw[List.take_zero,List.append_nil];exact j
 | k+1,o,ia,j,hk,h=>by
  have hi:ia<la.length:=by bv_omega
  have e:la[ia]?=some (la[ia]'hi):=List.getElem?_eq_getElem hi
  have d:=uN e
  have j1:=j.pushA sa e (h _ (by rw[d,List.take_succ_cons];simp))
  have j2:=J.runA sa k j1 (by bv_omega) (fun x hx=>h x (by rw[d,List.take_succ_cons];exact List.mem_cons_of_mem _ hx))
  rw[d,List.take_succ_cons,<-List.singleton_append,<-List.append_assoc,show ia+(k+1)=ia+1+k by bv_omega]
  exact j2
theorem J.runB (sb:Srt rk lb):∀(k:Nat){o:List Keyed}{ib:Nat},J rk la lb o ia ib->ib+k<=lb.length->(∀x∈(lb.drop ib).take k,∀y∈la.drop ia,rk x<=rk y)->J rk la lb (o++(lb.drop ib).take k) ia (ib+k)
 | 0,o,ib,j,_,_=>by rw[List.take_zero,List.append_nil];exact j
 | k+1,o,ib,j,hk,h=>by
  have hi:ib<lb.length:=by bv_omega
  have e:lb[ib]?=some (lb[ib]'hi):=List.getElem?_eq_getElem hi
  have d:=uN e
  have j1:=j.pushB sb e (h _ (by rw[d,List.take_succ_cons];simp))
  have j2:=J.runB sb k j1 (by bv_omega) (fun x hx=>h x (by rw[d,List.take_succ_cons];exact List.mem_cons_of_mem _ hx))
  rw[d,List.take_succ_cons,<-List.singleton_append,<-List.append_assoc,show ib+(k+1)=ib+1+k by bv_omega]
  exact j2
theorem J.done (j:J rk la lb o ia ib) (sa:Srt rk la) (sb:Srt rk lb) (h:la.length<=ia\/lb.length<=ib):(o++la.drop ia++lb.drop ib).Perm (la++lb)/\Srt rk (o++la.drop ia++lb.drop ib):=by
 rw[List.append_assoc]
 refine⟨j.perm,?_⟩
 show List.Pairwise _ _
 rw[List.pairwise_append]
 refine⟨j.srt,?_,j.low⟩
 rcases h with h | h
 ·rw[List.drop_eq_nil_of_le h,List.nil_append]
  exact vK sb ib
 ·rw[List.drop_eq_nil_of_le h,List.append_nil]
  exact vK sa ia
theorem J.last (j:J rk la lb o ia ib) (sa:Srt rk la) (sb:Srt rk lb) (h:∀x∈lb.drop ib,∀y∈la.drop ia,rk x<=rk y):(o++lb.drop ib++la.drop ia).Perm (la++lb)/\Srt rk (o++lb.drop ib++la.drop ia):=by
 rw[List.append_assoc]
 refine⟨(List.Perm.append_left o List.perm_append_comm).trans j.perm,?_⟩
 show List.Pairwise _ _
 rw[List.pairwise_append]
 refine⟨j.srt,List.pairwise_append.mpr ⟨vK sb ib,vK sa ia,h⟩,fun x hx y hy=>j.low x hx y ?_⟩
 rcases List.mem_append.mp hy with h | h
 ·exact List.mem_append_right _ h
 ·exact List.mem_append_left _ h
theorem J.start:J rk la lb [] 0 0:=⟨List.Perm.refl _,List.Pairwise.nil,fun _ z=>nomatch z⟩
end
end TS
namespace TS
open PySem PySem.W PyProof.Rows
section
variable {M:Model}{A:Around}{E:Value->Shared->Prop}{G:Shared->Prop}{U:Keyed->Prop}{rk:Keyed->Nat}{κ:SortKind}
def LtOk (M:Model) (A:Around) (E:Value->Shared->Prop) (G:Shared->Prop) (U:Keyed->Prop) (rk:Keyed->Nat) (κ:SortKind):Prop :=
 ∀x y,U x->U y->∀(Q:Option Bool->SortSt->Shared->Prop) (st:SortSt) (s:Shared),kindOf st=κ->G s->(∀s',G s'->Q (some (decide (rk x<rk y))) st s')->kasC M A E (lt' x y) Q st s
theorem zB {arr:Array Keyed}{i:Nat}{x:Keyed}{Q:Keyed->SortSt->Shared->Prop}{st:SortSt}{s:Shared}(h:arr.toList[i]?=some x) (q:Q x st s):kasC M A E (elem' arr i) Q st s:=by
 have h':arr[i]?=some x:=by rw[<-Array.getElem?_toList];exact h
 rw[elem'_eq,h']
 exact kasC_pure q
theorem tells {st:SortSt}{left:Bool}{key:Keyed}{arr:Array Keyed}{base n:Nat}{B:Nat->Bool}(L:LtOk M A E G U rk κ) (hk:kindOf st=κ) (uk:U key)
  (he:∀i,i<n->∃x,arr.toList[base+i]?=some x/\U x/\B i=(if left then decide (rk x<rk key) else !decide (rk key<rk x))):Tells M A E G st n B (beyond left key arr base):=by
 intro i hi Q s g q
 obtain⟨x,h1,h2,h3⟩:=he i hi
 refine kasC_bind (zB h1 ?_)
 rw[h3] at q
 cases left with
 | true =>
  rw[if_pos rfl]
  rw[if_pos rfl] at q
  exact L x key h2 uk Q st s hk g q
 | false =>
  rw[if_neg Bool.false_ne_true]
  rw[if_neg Bool.false_ne_true] at q
  exact kasC_bind (L key x uk h2 _ st s hk g fun s' g'=>kasC_pure (q s' g'))
structure Piece (U:Keyed->Prop) (rk:Keyed->Nat) (arr:Array Keyed) (base n:Nat):Prop where
 at':∀i,i<n->∃x,arr.toList[base+i]?=some x/\U x
 srt:∀i j x y,i<=j->j<n->arr.toList[base+i]?=some x->arr.toList[base+j]?=some y->rk x<=rk y
theorem galL {st:SortSt}{key:Keyed}{arr:Array Keyed}{base n hint:Nat}{Q:Option Nat->SortSt->Shared->Prop}{s:Shared}(L:LtOk M A E G U rk κ) (hk:kindOf st=κ) (uk:U key) (P:Piece U rk arr base n) (hh:hint<n) (g:G s)
  (q:∀k s',k<=n->(∀i x,i<k->arr.toList[base+i]?=some x->rk x<rk key)->(∀i x,k<=i->i<n->arr.toList[base+i]?=some x->rk key<=rk x)->G s'->Q (some k) st s'):kasC M A E (gallop' true key arr base n hint) Q st s:=by
 refine aI (B:=fun i=>match arr.toList[base+i]? with | some x=>decide (rk x<rk key) | none=>false) (tells L hk uk fun i hi => ?_) (fun i j h1 h2 h3 => ?_) hh g fun k s' h1 h2 h3 h4=>q k s' h1 (fun i x a1 a2 => ?_) (fun i x a1 a2 a3 => ?_) h4
 ·obtain⟨x,h1,h2⟩:=P.at' i hi
  exact⟨x,h1,h2,by rw[h1];rfl⟩
 ·obtain⟨x,a1,a2⟩:=P.at' i (by bv_omega)
  obtain⟨y,b1,b2⟩:=P.at' j h2
  have c:=P.srt i j x y h1 h2 a1 b1
  rw[b1] at h3
  rw[a1]
  have:=of_decide_eq_true h3
  exact decide_eq_true (by bv_omega)
 ·have:=h2 i a1
  rw[a2] at this
  exact of_decide_eq_true this
 ·have:=h3 i a1 a2
  rw[a3] at this
  exact Nat.le_of_not_lt (of_decide_eq_false this)
theorem galR {st:SortSt}{key:Keyed}{arr:Array Keyed}{base n hint:Nat}{Q:Option Nat->SortSt->Shared->Prop}{s:Shared}(L:LtOk M A E G U rk κ) (hk:kindOf st=κ) (uk:U key) (P:Piece U rk arr base n) (hh:hint<n) (g:G s)
  (q:∀k s',k<=n->(∀i x,i<k->arr.toList[base+i]?=some x->rk x<=rk key)->(∀i x,k<=i->i<n->arr.toList[base+i]?=some x->rk key<rk x)->G s'->Q (some k) st s'):kasC M A E (gallop' false key arr base n hint) Q st s:=by
 refine aI (B:=fun i=>match arr.toList[base+i]? with | some x=>!decide (rk key<rk x) | none=>false) (tells L hk uk fun i hi => ?_) (fun i j h1 h2 h3 => ?_) hh g fun k s' h1 h2 h3 h4=>q k s' h1 (fun i x a1 a2 => ?_) (fun i x a1 a2 a3 => ?_) h4
 ·obtain⟨x,h1,h2⟩:=P.at' i hi
  exact⟨x,h1,h2,by rw[h1];rfl⟩
 ·obtain⟨x,a1,a2⟩:=P.at' i (by bv_omega)
  obtain⟨y,b1,b2⟩:=P.at' j h2
  have c:=P.srt i j x y h1 h2 a1 b1
  rw[b1] at h3
  rw[a1]
  simp only[Bool.not_eq_true',decide_eq_false_iff_not] at h3 ⊢
  bv_omega
 ·have:=h2 i a1
  rw[a2] at this
  simp only[Bool.not_eq_true',decide_eq_false_iff_not] at this
  bv_omega
 ·have:=h3 i a1 a2
  rw[a3] at this
  simp only[Bool.not_eq_false',decide_eq_true_eq] at this
  exact this
theorem piece {arr:Array Keyed}(sa:Srt rk arr.toList) (ua:∀x∈arr.toList,U x){base n:Nat}(h:base+n<=arr.size):Piece U rk arr base n:=by
 refine⟨fun i hi => ?_,fun i j x y h1 h2 a b => ?_⟩
 ·have hl:base+i<arr.toList.length:=by rw[Array.length_toList];bv_omega
  exact⟨_,List.getElem?_eq_getElem hl,ua _ (List.getElem_mem hl)⟩
 ·by_cases c:i=j
  ·subst c
   rw[a] at b
   cases b
   exact Nat.le_refl _
  ·obtain⟨h3,rfl⟩:=List.getElem?_eq_some_iff.mp a
   obtain⟨h4,rfl⟩:=List.getElem?_eq_some_iff.mp b
   exact List.pairwise_iff_getElem.mp sa _ _ h3 h4 (by bv_omega)
theorem qM {l:List Keyed}{base k:Nat}{x:Keyed}(h:x∈(l.drop base).take k):∃i,i<k/\l[base+i]?=some x:=by
 obtain⟨i,hi,e⟩:=List.getElem_of_mem h
 rw[List.length_take] at hi
 refine⟨i,by bv_omega,?_⟩
 rw[List.getElem_take,List.getElem_drop] at e
 rw[<-e]
 exact List.getElem?_eq_getElem _
theorem uK {l:List Keyed}{base:Nat}{x:Keyed}(h:x∈l.drop base):∃i,base+i<l.length/\l[base+i]?=some x:=by
 obtain⟨i,hi,e⟩:=List.getElem_of_mem h
 rw[List.length_drop] at hi
 refine⟨i,by bv_omega,?_⟩
 rw[List.getElem_drop] at e
 rw[<-e]
 exact List.getElem?_eq_getElem _
theorem wH {arr:Array Keyed}{i:Nat}:(arr.extract i arr.size).toList=arr.toList.drop i:=by
 rw[Array.toList_extract,List.extract_eq_take_drop,List.take_of_length_le]
 rw[List.length_drop,Array.length_toList]
 bv_omega
theorem zJ9 {arr:Array Keyed}{i k:Nat}:(arr.extract i (i+k)).toList=(arr.toList.drop i).take k:=by
 rw[Array.toList_extract,List.extract_eq_take_drop,Nat.add_sub_cancel_left]
end
end TS
namespace TS
open PySem PySem.W PyProof.Rows
section
variable {M:Model}{A:Around}{E:Value->Shared->Prop}{G:Shared->Prop}{U:Keyed->Prop}{rk:Keyed->Nat}{κ:SortKind}
abbrev setG (st:SortSt) (g:Nat):SortSt:=SortSt.mk' (kindOf st) (arrOf st) (pendingOf st) g (failedOf st)
structure Fin (rk:Keyed->Nat) (la lb:List Keyed) (r:Array Keyed):Prop where
 perm:r.toList.Perm (la++lb)
 srt:Srt rk r.toList
structure JJ (rk:Keyed->Nat) (la lb:List Keyed) (m:Nat) (o:Array Keyed) (ia ib:Nat):Prop where
 j:J rk la lb o.toList ia ib
 ha:ia+1<la.length
 hb:ib<lb.length
 hm:m=(la.length-ia)+(lb.length-ib)
theorem qJ {a b o:Array Keyed}{ia ib:Nat}(j:J rk a.toList b.toList o.toList ia ib) (sa:Srt rk a.toList) (sb:Srt rk b.toList) (h:a.size<=ia\/b.size<=ib):Fin rk a.toList b.toList (o++a.extract ia a.size++b.extract ib b.size):=by
 have z:=j.done sa sb (by rw[Array.length_toList,Array.length_toList];exact h)
 refine⟨?_,?_⟩
 ·rw[Array.toList_append,Array.toList_append,wH,wH];exact z.1
 ·show Srt rk (Array.toList _)
  rw[Array.toList_append,Array.toList_append,wH,wH];exact z.2
theorem jF {a b o:Array Keyed}{ia ib:Nat}(j:J rk a.toList b.toList o.toList ia ib) (sa:Srt rk a.toList) (sb:Srt rk b.toList) (h:∀x∈b.toList,∀y∈a.toList.drop (a.size-1),rk x<=rk y) (e:ia+1=a.size):Fin rk a.toList b.toList (o++b.extract ib b.size++a.extract ia a.size):=by
 have z:=j.last sa sb (fun x hx y hy=>h x (List.mem_of_mem_drop hx) y (by rw[<-e,Nat.add_sub_cancel];exact hy))
 refine⟨?_,?_⟩
 ·rw[Array.toList_append,Array.toList_append,wH,wH];exact z.1
 ·show Srt rk (Array.toList _)
  rw[Array.toList_append,Array.toList_append,wH,wH];exact z.2
structure H2 (rk:Keyed->Nat) (la lb:List Keyed) (m:Nat) (o:Array Keyed) (i ib:Nat) (x:Keyed):Prop where
 j:J rk la lb o.toList i ib
 ha:i+1<la.length
 e:lb[ib]?=some x
 le:∀y∈la.drop i,rk x<=rk y
 hm:(la.length-i)+(lb.length-ib)<=m
structure H3 (rk:Keyed->Nat) (la lb:List Keyed) (m:Nat) (o:Array Keyed) (i ib:Nat) (y:Keyed):Prop where
 j:J rk la lb o.toList i ib
 ha:i+1<la.length
 hb:ib<lb.length
 e:la[i]?=some y
 le:∀z∈lb.drop ib,rk y<=rk z
 hm:(la.length-i)+(lb.length-ib)+1<=m
section
variable {la lb:List Keyed}{m i ib:Nat}{o:Array Keyed}{x y:Keyed}
theorem H2.push (h:H2 rk la lb m o i ib x) (sb:Srt rk lb):J rk la lb (o.push x).toList i (ib+1):=by
 rw[Array.toList_push]
 exact h.j.pushB sb h.e h.le
theorem H3.push (h:H3 rk la lb m o i ib y) (sa:Srt rk la):J rk la lb (o.push y).toList (i+1) ib:=by
 rw[Array.toList_push]
 exact h.j.pushA sa h.e h.le
theorem J.gA {a:Array Keyed}{k:Nat}(j:J rk a.toList lb o.toList i ib) (sa:Srt rk a.toList) (sb:Srt rk lb) (e:lb[ib]?=some x) (hk:i+k<=a.size) (h:∀n z,n<k->a.toList[i+n]?=some z->rk z<=rk x):J rk a.toList lb (o++a.extract i (i+k)).toList (i+k) ib:=by
 rw[Array.toList_append,zJ9]
 refine j.runA sa k (by rw[Array.length_toList];exact hk) fun z hz w hw => ?_
 obtain⟨n,n1,n2⟩:=qM hz
 exact Nat.le_trans (h n z n1 n2) (vH sb e w hw)
theorem J.gB {b:Array Keyed}{k:Nat}(j:J rk la b.toList o.toList i ib) (sa:Srt rk la) (sb:Srt rk b.toList) (e:la[i]?=some y) (hk:ib+k<=b.size) (h:∀n z,n<k->b.toList[ib+n]?=some z->rk z<rk y):J rk la b.toList (o++b.extract ib (ib+k)).toList i (ib+k):=by
 rw[Array.toList_append,zJ9]
 refine j.runB sb k (by rw[Array.length_toList];exact hk) fun z hz w hw => ?_
 obtain⟨n,n1,n2⟩:=qM hz
 exact Nat.le_trans (Nat.le_of_lt (h n z n1 n2)) (vH sa e w hw)
end
def mergeLo':Array Keyed->Array Keyed->StateT SortSt Sem (Array Keyed):=sortPriv% PySem.Builtin.mergeLo
theorem mkH2 {a o:Array Keyed}{lb:List Keyed}{m i ib i0 k:Nat}{x:Keyed}(j:J rk a.toList lb o.toList i ib) (e:lb[ib]?=some x) (hi:i=i0+k) (k3:∀n y,k<=n->n<a.size-i0->a.toList[i0+n]?=some y->rk x<rk y) (ha:i+1<a.size) (hm:(a.size-i)+(lb.length-ib)<=m):H2 rk a.toList lb m o i ib x:=by
 have la:a.toList.length=a.size:=Array.length_toList
 refine⟨j,by bv_omega,e,fun y hy => ?_,by bv_omega⟩
 subst hi
 obtain⟨n,n1,n2⟩:=uK hy
 rw[Nat.add_assoc] at n1 n2
 exact Nat.le_of_lt (k3 (k+n) y (by bv_omega) (by bv_omega) n2)
theorem mkH3 {b o:Array Keyed}{la:List Keyed}{m i ib i0 k:Nat}{y:Keyed}(j:J rk la b.toList o.toList i ib) (e:la[i]?=some y) (hi:ib=i0+k) (k3:∀n z,k<=n->n<b.size-i0->b.toList[i0+n]?=some z->rk y<=rk z) (ha:i+1<la.length) (hb:ib<b.size) (hm:(la.length-i)+(b.size-ib)+1<=m):H3 rk la b.toList m o i ib y:=by
 have lb:b.toList.length=b.size:=Array.length_toList
 refine⟨j,ha,by bv_omega,e,fun z hz => ?_,by bv_omega⟩
 subst hi
 obtain⟨n,n1,n2⟩:=uK hz
 rw[Nat.add_assoc] at n1 n2
 exact k3 (k+n) z (by bv_omega) (by bv_omega) n2
theorem zD {α:Type}{c:Prop} [Decidable c] {x y:StateT SortSt Sem α}{Q:α->SortSt->Shared->Prop}{st:SortSt}{s:Shared}(h1:c->kasC M A E x Q st s) (h2:¬c->kasC M A E y Q st s):kasC M A E (if c then x else y) Q st s:=by
 by_cases h:c
 ·rw[if_pos h];exact h1 h
 ·rw[if_neg h];exact h2 h
theorem yA {α:Type}{m n:Nat}{x y:StateT SortSt Sem α}{Q:α->SortSt->Shared->Prop}{st:SortSt}{s:Shared}(h1:m=n->kasC M A E x Q st s) (h2:m≠n->kasC M A E y Q st s):kasC M A E (if (m == n)=true then x else y) Q st s :=
 zD (fun h=>h1 (by simpa using h)) fun h=>h2 (by simpa using h)
theorem zH7 {a b:Array Keyed}{st:SortSt}{Q:Array Keyed->SortSt->Shared->Prop}{s:Shared}(L:LtOk M A E G U rk κ) (hk:kindOf st=κ) (sa:Srt rk a.toList) (sb:Srt rk b.toList) (ua:∀x∈a.toList,U x) (ub:∀x∈b.toList,U x) (na:0<a.size) (nb:0<b.size)
  (h0:∀x,b.toList[0]?=some x->∀y∈a.toList,rk x<=rk y) (h1:∀x∈b.toList,∀y∈a.toList.drop (a.size-1),rk x<=rk y) (g:G s)
  (q:∀r n s',Fin rk a.toList b.toList r->G s'->Q r (setG st n) s'):kasC M A E (mergeLo' a b) Q st s:=by
 have la:a.toList.length=a.size:=Array.length_toList
 have lb:b.toList.length=b.size:=Array.length_toList
 refine kasC_bind (kasC_lift (wpAny_rule ?_))
 have hb0:0<b.toList.length:=by bv_omega
 have e0:=List.getElem?_eq_getElem hb0
 have j1:J rk a.toList b.toList (#[b.toList[0]]:Array Keyed).toList 0 1:=J.start.pushB sb e0 (h0 _ e0)
 refine kasC_bind (zB e0 ?_)
 dsimp only
 by_cases c1:1=b.size
 ·rw[if_pos (by rw[<-c1];rfl)]
  exact kasC_pure (q _ (gallopOf st) _ (qJ j1 sa sb (.inr (by bv_omega))) g)
 rw[if_neg (by simpa using c1)]
 by_cases c2:0+1=a.size
 ·rw[if_pos (by rw[<-c2];rfl)]
  exact kasC_pure (q _ (gallopOf st) _ (jF j1 sa sb h1 c2) g)
 rw[if_neg (by simpa using c2)]
 refine kasC_bind (kasC_get ?_)
 refine kasC_bind (loopR (fun m b' st' s'=>∃gg o ia ib mg,b'=(none,o,ia,ib,mg)/\st'=setG st gg/\G s'/\JJ rk a.toList b.toList m o ia ib) (m:=a.size+b.size-1) (by bv_omega) ⟨gallopOf st,_,_,_,_,rfl,rfl,g,j1,by bv_omega,by bv_omega,by bv_omega⟩ ?_ ?_)
 ·rintro b' st' s' ⟨gg,o,ia,ib,mg,rfl,rfl,g',j⟩
  have:=j.hm
  have:=j.ha
  bv_omega
 rintro _ m b' st' s' ⟨gg,o,ia,ib,mg,rfl,rfl,g',j⟩
 dsimp only
 refine kasC_bind (kmono (loopR (Q:=fun b' st' s'=>(∃r y,b'=(some r,y)/\Fin rk a.toList b.toList r/\(∃gg,st'=setG st gg)/\G s')\/(∃o ia ib ac bc m',b'=(none,o,ia,ib,ac,bc)/\m'<m/\JJ rk a.toList b.toList m' o ia ib/\(∃gg,st'=setG st gg)/\G s'))
  (fun m' b' st' s'=>∃gg o ia ib ac bc,b'=(none,o,ia,ib,ac,bc)/\m'<=m/\st'=setG st gg/\G s'/\JJ rk a.toList b.toList m' o ia ib) (m:=m) (by have:=j.hm;bv_omega) ⟨gg,_,_,_,_,_,rfl,Nat.le_refl _,rfl,g',j⟩ ?_ ?_) ?_)
 ·rintro b' st' s' ⟨gg,o,ia,ib,ac,bc,rfl,_,rfl,g',j⟩
  have:=j.hm
  have:=j.ha
  bv_omega
 ·rintro _ m' b' st' s' ⟨gg,o,ia,ib,ac,bc,rfl,hm,rfl,g',j⟩
  dsimp only
  have hi:=j.ha
  have hb:=j.hb
  have hm2:=j.hm
  have hi':ia<a.toList.length:=by bv_omega
  have e1:=List.getElem?_eq_getElem hi'
  have e2:=List.getElem?_eq_getElem hb
  refine kasC_bind (zB e2 (kasC_bind (zB e1 (kasC_bind (L _ _ (ub _ (List.getElem_mem hb)) (ua _ (List.getElem_mem hi')) _ _ _ hk g' fun s2 g2 => ?_)))))
  dsimp only
  by_cases c:rk b.toList[ib]<rk a.toList[ia]
  ·rw[if_pos (decide_eq_true c)]
   refine kasC_bind (zB e2 ?_)
   have j2:J rk a.toList b.toList (o.push b.toList[ib]).toList ia (ib+1):=by
    rw[Array.toList_push]
    exact j.j.pushB sb e2 fun y hy=>Nat.le_trans (Nat.le_of_lt c) (vH sa e1 y hy)
   by_cases c3:ib+1=b.size
   ·rw[if_pos (by rw[c3];exact beq_self_eq_true _)]
    exact kasC_pure (.inl ⟨_,_,rfl,qJ j2 sa sb (.inr (by bv_omega)),⟨gg,rfl⟩,g2⟩)
   rw[if_neg (by simpa using c3)]
   split
   ·exact kasC_pure (.inr ⟨_,_,_,_,_,m'-1,rfl,by bv_omega,⟨j2,by bv_omega,by bv_omega,by bv_omega⟩,⟨gg,rfl⟩,g2⟩)
   ·exact kasC_pure ⟨m'-1,by bv_omega,gg,_,_,_,_,_,rfl,by bv_omega,rfl,g2,j2,by bv_omega,by bv_omega,by bv_omega⟩
  ·rw[if_neg (by simpa using c)]
   refine kasC_bind (zB e1 ?_)
   have j2:J rk a.toList b.toList (o.push a.toList[ia]).toList (ia+1) ib:=by
    rw[Array.toList_push]
    exact j.j.pushA sa e1 fun y hy=>Nat.le_trans (Nat.le_of_not_lt c) (vH sb e2 y hy)
   by_cases c3:ia+1+1=a.size
   ·rw[if_pos (by rw[c3];exact beq_self_eq_true _)]
    exact kasC_pure (.inl ⟨_,_,rfl,jF j2 sa sb h1 c3,⟨gg,rfl⟩,g2⟩)
   rw[if_neg (by simpa using c3)]
   split
   ·exact kasC_pure (.inr ⟨_,_,_,_,_,m'-1,rfl,by bv_omega,⟨j2,by bv_omega,by bv_omega,by bv_omega⟩,⟨gg,rfl⟩,g2⟩)
   ·exact kasC_pure ⟨m'-1,by bv_omega,gg,_,_,_,_,_,rfl,by bv_omega,rfl,g2,j2,by bv_omega,by bv_omega,by bv_omega⟩
 clear g' j
 rintro b' st' s' (⟨r,y,rfl,f,⟨gg,rfl⟩,g'⟩ | ⟨o,ia,ib,ac,bc,m1,rfl,hm1,j,⟨gg,rfl⟩,g'⟩)
 ·exact kasC_pure (kasC_pure (q r gg s' f g'))
 dsimp only
 refine kasC_bind (kasC_lift (wpAny_rule ?_))
 refine kasC_bind (kmono (loopR (Q:=fun b' st' s'=>(∃r y,b'=(some r,y)/\Fin rk a.toList b.toList r/\(∃gg,st'=setG st gg)/\G s')\/(∃o ia ib mg ac bc m',b'=(none,o,ia,ib,mg,ac,bc)/\m'<m/\JJ rk a.toList b.toList m' o ia ib/\(∃gg,st'=setG st gg)/\G s'))
  (fun m' b' st' s'=>∃gg o ia ib mg ac bc,b'=(none,o,ia,ib,mg,ac,bc)/\m'<m/\st'=setG st gg/\G s'/\JJ rk a.toList b.toList m' o ia ib) (m:=m1) (by have:=j.hm;bv_omega) ⟨gg,_,_,_,_,_,_,rfl,hm1,rfl,g',j⟩ ?_ ?_) ?_)
 ·rintro b' st' s' ⟨gg,o,ia,ib,mg,ac,bc,rfl,_,rfl,g',j⟩
  have:=j.hm
  have:=j.ha
  bv_omega
 ·clear g' j hm1
  rintro _ m' b' st' s' ⟨gg,o,ia,ib,mg,ac,bc,rfl,hm,rfl,g',j⟩
  dsimp only
  have hi:=j.ha
  have hb:=j.hb
  have hm2:=j.hm
  have e2:=List.getElem?_eq_getElem hb
  refine zD (fun _ => ?_) (fun _ => ?_)
  all_goals
   refine kasC_bind (kasC_modify ?_)
   refine kasC_bind (zB e2 (kasC_bind (galR L hk (ub _ (List.getElem_mem hb)) (piece sa ua (by bv_omega)) (by bv_omega) g' fun k s2 k1 k2 k3 g2 => ?_)))
   dsimp only
   have J2:=j.j.gA sa sb e2 (by bv_omega) k2
   refine zD (fun ck=>yA (fun c=>kasC_pure (.inl ⟨_,_,rfl,jF J2 sa sb h1 c,⟨_,rfl⟩,g2⟩)) fun c1=>yA (fun c=>kasC_pure (.inl ⟨_,_,rfl,qJ J2 sa sb (.inl (by bv_omega)),⟨_,rfl⟩,g2⟩)) fun c2=>have F2:=mkH2 (m:=m') J2 e2 rfl k3 (by bv_omega) (by bv_omega); ?_) (fun ck=>have F2:=mkH2 (m:=m') j.j e2 (by bv_omega) k3 (by bv_omega) (by bv_omega); ?_)
   all_goals
    clear J2 k3 k2
    have f1:=F2.ha
    have f2:=F2.hm
    have J3:=F2.push sb
    refine kasC_bind (zB e2 ?_)
    refine yA (fun c=>kasC_pure (.inl ⟨_,_,rfl,qJ J3 sa sb (.inr (by bv_omega)),⟨_,rfl⟩,g2⟩)) fun c3 => ?_
    have f3:=Nat.lt_of_succ_lt f1
    have e3:=List.getElem?_eq_getElem f3
    refine kasC_bind (zB e3 (kasC_bind (galL L hk (ua _ (List.getElem_mem f3)) (piece sb ub (by bv_omega)) (by bv_omega) g2 fun k' s3 k1' k2' k3' g3 => ?_)))
    dsimp only
    have J4:=J3.gB sa sb e3 (by bv_omega) k2'
    refine zD (fun ck=>yA (fun c=>kasC_pure (.inl ⟨_,_,rfl,qJ J4 sa sb (.inr (by bv_omega)),⟨_,rfl⟩,g3⟩)) fun c2=>have F3:=mkH3 (m:=m') J4 e3 rfl k3' f1 (by bv_omega) (by bv_omega); ?_) (fun ck=>have F3:=mkH3 (m:=m') J3 e3 (by bv_omega) k3' f1 (by bv_omega) (by bv_omega); ?_)
    all_goals
     clear J4 k3' k2'
     have f4:=F3.hm
     have f5:=F3.hb
     have J5:=F3.push sa
     refine kasC_bind (zB e3 ?_)
     refine yA (fun c=>kasC_pure (.inl ⟨_,_,rfl,jF J5 sa sb h1 c,⟨_,rfl⟩,g3⟩)) fun c3 => ?_
     refine zD (fun _=>kasC_pure (.inr ⟨_,_,_,_,_,_,_,rfl,?_,⟨J5,by bv_omega,by bv_omega,rfl⟩,⟨_,rfl⟩,g3⟩)) fun _=>kasC_pure ⟨_,?_,_,_,_,_,_,_,_,rfl,?_,rfl,g3,J5,by bv_omega,by bv_omega,rfl⟩
     all_goals bv_omega
 ·clear g' j
  rintro b' st' s' (⟨r,y,rfl,f,⟨gg,rfl⟩,g'⟩ | ⟨o,ia,ib,mg,ac,bc,m2,rfl,hm2,j,⟨gg,rfl⟩,g'⟩)
  ·exact kasC_pure (kasC_pure (q r gg s' f g'))
  ·refine kasC_bind (kasC_modify (kasC_pure ?_))
   exact⟨m2,by bv_omega,_,_,_,_,_,rfl,rfl,g',j⟩
end
end TS
namespace TS
open PySem PySem.W PyProof.Rows
structure JH (rk:Keyed->Nat) (all pa pb o:List Keyed):Prop where
 perm:(pa++pb++o.reverse).Perm all
 srt:Srt rk o.reverse
 low:∀x∈pa++pb,∀y∈o,rk x<=rk y
section
variable {M:Model}{A:Around}{E:Value->Shared->Prop}{G:Shared->Prop}{U:Keyed->Prop}{rk:Keyed->Nat}{κ:SortKind}{all pa pb o seg:List Keyed}
theorem JH.swap (j:JH rk all pa pb o):JH rk all pb pa o:=⟨(List.Perm.append_right _ List.perm_append_comm).trans j.perm,j.srt,fun x hx=>j.low x (by
 rcases List.mem_append.mp hx with h | h
 ·exact List.mem_append_right _ h
 ·exact List.mem_append_left _ h)⟩
theorem JH.runB (j:JH rk all pa (pb++seg) o) (sb:Srt rk (pb++seg)) (h:∀x∈seg,∀y∈pa,rk y<=rk x):JH rk all pa pb (o++seg.reverse):=by
 have s:=List.pairwise_append.mp sb
 refine⟨?_,?_,?_⟩
 ·rw[List.reverse_append,List.reverse_reverse]
  have:=j.perm
  rw[<-List.append_assoc] at this ⊢
  rw[List.append_assoc pa pb seg]
  exact j.perm
 ·show List.Pairwise _ _
  rw[List.reverse_append,List.reverse_reverse,List.pairwise_append]
  exact⟨s.2.1,j.srt,fun x hx y hy=>j.low x (List.mem_append_right _ (List.mem_append_right _ hx)) y (List.mem_reverse.mp hy)⟩
 ·intro x hx y hy
  rcases List.mem_append.mp hy with hy | hy
  ·refine j.low x ?_ y hy
   rcases List.mem_append.mp hx with h | h
   ·exact List.mem_append_left _ h
   ·exact List.mem_append_right _ (List.mem_append_left _ h)
  ·rw[List.mem_reverse] at hy
   rcases List.mem_append.mp hx with hx | hx
   ·exact h y hy x hx
   ·exact s.2.2 x hx y hy
theorem JH.runA (j:JH rk all (pa++seg) pb o) (sa:Srt rk (pa++seg)) (h:∀x∈seg,∀y∈pb,rk y<=rk x):JH rk all pa pb (o++seg.reverse):=(j.swap.runB sa h).swap
theorem aW {l:List Keyed}{n:Nat}{x:Keyed}(h:0<n) (e:l[n-1]?=some x):l.take n=l.take (n-1) ++ [x]:=by
 obtain⟨k,rfl⟩:∃k,n=k+1:=⟨n-1,by bv_omega⟩
 rw[Nat.add_sub_cancel] at e ⊢
 obtain⟨h1,rfl⟩:=List.getElem?_eq_some_iff.mp e
 rw[List.take_succ_eq_append_getElem h1]
theorem zG3 {l:List Keyed}{k n:Nat}(h:k<=n):l.take n=l.take k++(l.take n).drop k:=by
 have:=List.take_append_drop k (l.take n)
 rw[List.take_take,Nat.min_eq_left h] at this
 exact this.symm
theorem xG {l:List Keyed}(h:Srt rk l) (n:Nat):Srt rk (l.take n):=h.sublist (List.take_sublist n l)
theorem jP {l:List Keyed}(h:Srt rk l){n:Nat}{x:Keyed}(h0:0<n) (e:l[n-1]?=some x):∀y∈l.take n,rk y<=rk x:=fun y hy=>by
 have s:=xG h n
 rw[aW h0 e] at s hy
 rcases List.mem_append.mp hy with hy | hy
 ·exact (List.pairwise_append.mp s).2.2 y hy x (List.mem_singleton.mpr rfl)
 ·rw[List.mem_singleton.mp hy];exact Nat.le_refl _
theorem ex0 {arr:Array Keyed}{n:Nat}:(arr.extract 0 n).toList=arr.toList.take n:=by
 rw[Array.toList_extract,List.extract_eq_take_drop,List.drop_zero,Nat.sub_zero]
theorem xW9 {arr:Array Keyed}{k n:Nat}:(arr.extract k n).toList=(arr.toList.take n).drop k:=by
 rw[Array.toList_extract,List.extract_eq_take_drop,List.drop_take]
section
variable {la lb:List Keyed}{a b o:Array Keyed}{na nb:Nat}{x y:Keyed}
theorem JH.pushA (j:JH rk all (la.take na) (lb.take nb) o.toList) (sa:Srt rk la) (h0:0<na) (e:la[na-1]?=some x) (h:∀y∈lb.take nb,rk y<=rk x):JH rk all (la.take (na-1)) (lb.take nb) (o.push x).toList:=by
 have s:=xG sa na
 rw[aW h0 e] at j s
 have:=j.runA s (fun z hz=>by rw[List.mem_singleton.mp hz];exact h)
 rw[Array.toList_push]
 exact this
theorem JH.pushB (j:JH rk all (la.take na) (lb.take nb) o.toList) (sb:Srt rk lb) (h0:0<nb) (e:lb[nb-1]?=some x) (h:∀y∈la.take na,rk y<=rk x):JH rk all (la.take na) (lb.take (nb-1)) (o.push x).toList:=(j.swap.pushA sb h0 e h).swap
theorem JH.gA {k:Nat}(j:JH rk all (a.toList.take na) (lb.take nb) o.toList) (sa:Srt rk a.toList) (hk:k<=na) (h:∀x∈(a.toList.take na).drop k,∀y∈lb.take nb,rk y<=rk x):JH rk all (a.toList.take k) (lb.take nb) (o++(a.extract k na).reverse).toList:=by
 have s:=xG sa na
 rw[zG3 hk] at j s
 have:=j.runA s h
 rw[Array.toList_append,Array.toList_reverse,xW9]
 exact this
theorem JH.gB {k:Nat}(j:JH rk all (la.take na) (b.toList.take nb) o.toList) (sb:Srt rk b.toList) (hk:k<=nb) (h:∀x∈(b.toList.take nb).drop k,∀y∈la.take na,rk y<=rk x):JH rk all (la.take na) (b.toList.take k) (o++(b.extract k nb).reverse).toList:=(j.swap.gA sb hk h).swap
theorem fU {l:List Keyed}{k n:Nat}{x:Keyed}(h:x∈(l.take n).drop k):∃i,k<=i/\i<n/\l[0+i]?=some x:=by
 obtain⟨i,hi,e⟩:=List.getElem_of_mem h
 rw[List.length_drop,List.length_take] at hi
 rw[List.getElem_drop,List.getElem_take] at e
 refine⟨k+i,by bv_omega,by bv_omega,?_⟩
 rw[Nat.zero_add,<-e]
 exact List.getElem?_eq_getElem _
theorem jR (j:JH rk (a.toList++b.toList) (a.toList.take na) (b.toList.take nb) o.toList) (sa:Srt rk a.toList) (sb:Srt rk b.toList) (h:na=0\/nb=0):Fin rk a.toList b.toList (a.extract 0 na++b.extract 0 nb++o.reverse):=by
 refine⟨?_,?_⟩
 ·rw[Array.toList_append,Array.toList_append,Array.toList_reverse,ex0,ex0];exact j.perm
 ·show List.Pairwise _ (Array.toList _)
  rw[Array.toList_append,Array.toList_append,Array.toList_reverse,ex0,ex0,List.pairwise_append]
  refine⟨?_,j.srt,fun x hx y hy=>j.low x hx y (List.mem_reverse.mp hy)⟩
  rcases h with rfl | rfl
  ·rw[List.take_zero,List.nil_append];exact xG sb nb
  ·rw[List.take_zero,List.append_nil];exact xG sa na
theorem kX (j:JH rk (a.toList++b.toList) (a.toList.take na) (b.toList.take nb) o.toList) (sa:Srt rk a.toList) (sb:Srt rk b.toList) (h:nb=1) (h0:∀x∈b.toList.take 1,∀y∈a.toList,rk x<=rk y):Fin rk a.toList b.toList (b.extract 0 nb++a.extract 0 na++o.reverse):=by
 have j':=j.swap
 refine⟨?_,?_⟩
 ·rw[Array.toList_append,Array.toList_append,Array.toList_reverse,ex0,ex0];exact j'.perm
 ·show List.Pairwise _ (Array.toList _)
  rw[Array.toList_append,Array.toList_append,Array.toList_reverse,ex0,ex0,List.pairwise_append]
  refine⟨List.pairwise_append.mpr ⟨xG sb nb,xG sa na,fun x hx y hy=>h0 x (by rw[h] at hx;exact hx) y (List.mem_of_mem_take hy)⟩,j'.srt,fun x hx y hy=>j'.low x hx y (List.mem_reverse.mp hy)⟩
end
structure H4 (rk:Keyed->Nat) (la lb:List Keyed) (m:Nat) (o:Array Keyed) (i ib:Nat) (x:Keyed):Prop where
 j:JH rk (la++lb) (la.take i) (lb.take ib) o.toList
 ha:1<=i
 hl:i<=la.length
 le:∀y∈la.take i,rk y<=rk x
 hm:i+ib<=m
theorem mkH4 {a o:Array Keyed}{lb:List Keyed}{m i ib k:Nat}{x:Keyed}(j:JH rk (a.toList++lb) (a.toList.take i) (lb.take ib) o.toList) (hi:i=k) (k2:∀n y,n<k->a.toList[0+n]?=some y->rk y<=rk x) (ha:1<=i) (hl:i<=a.toList.length) (hm:i+ib<=m):H4 rk a.toList lb m o i ib x:=by
 refine⟨j,ha,hl,fun y hy => ?_,hm⟩
 obtain⟨n,n1,n2,n3⟩:=fU (k:=0) hy
 exact k2 n y (by bv_omega) n3
structure H5 (rk:Keyed->Nat) (la lb:List Keyed) (m:Nat) (o:Array Keyed) (i ib:Nat) (y:Keyed):Prop where
 j:JH rk (la++lb) (la.take i) (lb.take ib) o.toList
 hb:2<=ib
 hl:ib<=lb.length
 le:∀z∈lb.take ib,rk z<=rk y
 hm:i+ib+1<=m
theorem mkH5 {b o:Array Keyed}{la:List Keyed}{m i ib k:Nat}{y:Keyed}(j:JH rk (la++b.toList) (la.take i) (b.toList.take ib) o.toList) (hi:ib=k) (k2:∀n z,n<k->b.toList[0+n]?=some z->rk z<rk y) (hb:2<=ib) (hl:ib<=b.toList.length) (hm:i+ib+1<=m):H5 rk la b.toList m o i ib y:=by
 refine⟨j,hb,hl,fun z hz => ?_,hm⟩
 obtain⟨n,n1,n2,n3⟩:=fU (k:=0) hz
 exact Nat.le_of_lt (k2 n z (by bv_omega) n3)
structure JK (rk:Keyed->Nat) (la lb:List Keyed) (m:Nat) (o:Array Keyed) (na nb:Nat):Prop where
 j:JH rk (la++lb) (la.take na) (lb.take nb) o.toList
 ha:1<=na
 hb:2<=nb
 ua:na<=la.length
 ub:nb<=lb.length
 hm:m=na+nb
def mergeHi':Array Keyed->Array Keyed->StateT SortSt Sem (Array Keyed):=sortPriv% PySem.Builtin.mergeHi
theorem zF1 {a b:Array Keyed}{st:SortSt}{Q:Array Keyed->SortSt->Shared->Prop}{s:Shared}(L:LtOk M A E G U rk κ) (hk:kindOf st=κ) (sa:Srt rk a.toList) (sb:Srt rk b.toList) (ua:∀x∈a.toList,U x) (ub:∀x∈b.toList,U x) (na:0<a.size) (nb:0<b.size)
  (h0:∀x∈b.toList.take 1,∀y∈a.toList,rk x<=rk y) (h1:∀y,a.toList[a.size-1]?=some y->∀x∈b.toList,rk x<=rk y) (g:G s)
  (q:∀r n s',Fin rk a.toList b.toList r->G s'->Q r (setG st n) s'):kasC M A E (mergeHi' a b) Q st s:=by
 have la:a.toList.length=a.size:=Array.length_toList
 have lb:b.toList.length=b.size:=Array.length_toList
 refine kasC_bind (kasC_lift (wpAny_rule ?_))
 have hb0:a.size-1<a.toList.length:=by bv_omega
 have e0:=List.getElem?_eq_getElem hb0
 have jz:JH rk (a.toList++b.toList) (a.toList.take a.size) (b.toList.take b.size) (#[]:Array Keyed).toList:=by
  rw[<-la,<-lb,List.take_length,List.take_length]
  exact⟨by simp,List.Pairwise.nil,fun _ _ _ z=>nomatch z⟩
 have j1:=jz.pushA sa na e0 (fun x hx=>h1 _ e0 x (List.mem_of_mem_take hx))
 refine kasC_bind (zB e0 ?_)
 dsimp only
 refine yA (fun c=>kasC_pure (q _ (gallopOf st) _ (jR j1 sa sb (.inl c)) g)) fun c1 => ?_
 refine yA (fun c=>kasC_pure (q _ (gallopOf st) _ (kX j1 sa sb c h0) g)) fun c2 => ?_
 refine kasC_bind (kasC_get ?_)
 refine kasC_bind (loopR (fun m b' st' s'=>∃gg o ia ib mg,b'=(none,ia,ib,o,mg)/\st'=setG st gg/\G s'/\JK rk a.toList b.toList m o ia ib) (m:=a.size-1+b.size) (by bv_omega) ⟨gallopOf st,_,_,_,_,rfl,rfl,g,j1,by bv_omega,by bv_omega,by bv_omega,by bv_omega,rfl⟩ ?_ ?_)
 ·rintro b' st' s' ⟨gg,o,ia,ib,mg,rfl,rfl,g',j⟩
  have:=j.hm
  have:=j.ha
  bv_omega
 rintro _ m b' st' s' ⟨gg,o,ia,ib,mg,rfl,rfl,g',j⟩
 dsimp only
 refine kasC_bind (kmono (loopR (Q:=fun b' st' s'=>(∃r y,b'=(some r,y)/\Fin rk a.toList b.toList r/\(∃gg,st'=setG st gg)/\G s')\/(∃o ia ib ac bc m',b'=(none,ia,ib,o,ac,bc)/\m'<m/\JK rk a.toList b.toList m' o ia ib/\(∃gg,st'=setG st gg)/\G s'))
  (fun m' b' st' s'=>∃gg o ia ib ac bc,b'=(none,ia,ib,o,ac,bc)/\m'<=m/\st'=setG st gg/\G s'/\JK rk a.toList b.toList m' o ia ib) (m:=m) (by have:=j.hm;have:=j.ua;have:=j.ub;bv_omega) ⟨gg,_,_,_,_,_,rfl,Nat.le_refl _,rfl,g',j⟩ ?_ ?_) ?_)
 ·rintro b' st' s' ⟨gg,o,ia,ib,ac,bc,rfl,_,rfl,g',j⟩
  have:=j.hm
  have:=j.ha
  bv_omega
 ·rintro _ m' b' st' s' ⟨gg,o,ia,ib,ac,bc,rfl,hm,rfl,g',j⟩
  dsimp only
  have hi:=j.ha
  have hb:=j.hb
  have hm2:=j.hm
  have na2:=j.ua
  have nb2:=j.ub
  have hi':ia-1<a.toList.length:=by bv_omega
  have hb':ib-1<b.toList.length:=by bv_omega
  have e1:=List.getElem?_eq_getElem hi'
  have e2:=List.getElem?_eq_getElem hb'
  refine kasC_bind (zB e2 (kasC_bind (zB e1 (kasC_bind (L _ _ (ub _ (List.getElem_mem hb')) (ua _ (List.getElem_mem hi')) _ _ _ hk g' fun s2 g2 => ?_)))))
  dsimp only
  refine zD (fun c => ?_) (fun c => ?_)
  ·have c:=of_decide_eq_true c
   refine kasC_bind (zB e1 ?_)
   have j2:=j.j.pushA sa (by bv_omega) e1 fun y hy=>Nat.le_trans (jP sb (by bv_omega) e2 y hy) (Nat.le_of_lt c)
   refine yA (fun c=>kasC_pure (.inl ⟨_,_,rfl,jR j2 sa sb (.inl c),⟨gg,rfl⟩,g2⟩)) fun c3 => ?_
   refine zD (fun _ => ?_) (fun _ => ?_)
   ·exact kasC_pure (.inr ⟨_,_,_,_,_,_,rfl,by bv_omega,⟨j2,by bv_omega,by bv_omega,by bv_omega,by bv_omega,rfl⟩,⟨gg,rfl⟩,g2⟩)
   ·exact kasC_pure ⟨_,by bv_omega,gg,_,_,_,_,_,rfl,by bv_omega,rfl,g2,j2,by bv_omega,by bv_omega,by bv_omega,by bv_omega,rfl⟩
  ·have c:¬rk b.toList[ib-1]<rk a.toList[ia-1]:=fun z=>c (decide_eq_true z)
   refine kasC_bind (zB e2 ?_)
   have j2:=j.j.pushB sb (by bv_omega) e2 fun y hy=>Nat.le_trans (jP sa (by bv_omega) e1 y hy) (Nat.le_of_not_lt c)
   refine yA (fun c=>kasC_pure (.inl ⟨_,_,rfl,kX j2 sa sb c h0,⟨gg,rfl⟩,g2⟩)) fun c3 => ?_
   refine zD (fun _ => ?_) (fun _ => ?_)
   ·exact kasC_pure (.inr ⟨_,_,_,_,_,_,rfl,by bv_omega,⟨j2,by bv_omega,by bv_omega,by bv_omega,by bv_omega,rfl⟩,⟨gg,rfl⟩,g2⟩)
   ·exact kasC_pure ⟨_,by bv_omega,gg,_,_,_,_,_,rfl,by bv_omega,rfl,g2,j2,by bv_omega,by bv_omega,by bv_omega,by bv_omega,rfl⟩
 clear g' j
 rintro b' st' s' (⟨r,y,rfl,f,⟨gg,rfl⟩,g'⟩ | ⟨o,ia,ib,ac,bc,m1,rfl,hm1,j,⟨gg,rfl⟩,g'⟩)
 ·exact kasC_pure (kasC_pure (q r gg s' f g'))
 dsimp only
 refine kasC_bind (kasC_lift (wpAny_rule ?_))
 refine kasC_bind (kmono (loopR (Q:=fun b' st' s'=>(∃r y,b'=(some r,y)/\Fin rk a.toList b.toList r/\(∃gg,st'=setG st gg)/\G s')\/(∃o ia ib mg ac bc m',b'=(none,ia,ib,o,mg,ac,bc)/\m'<m/\JK rk a.toList b.toList m' o ia ib/\(∃gg,st'=setG st gg)/\G s'))
  (fun m' b' st' s'=>∃gg o ia ib mg ac bc,b'=(none,ia,ib,o,mg,ac,bc)/\m'<m/\st'=setG st gg/\G s'/\JK rk a.toList b.toList m' o ia ib) (m:=m1) (by have:=j.hm;have:=j.ua;have:=j.ub;bv_omega) ⟨gg,_,_,_,_,_,_,rfl,hm1,rfl,g',j⟩ ?_ ?_) ?_)
 ·rintro b' st' s' ⟨gg,o,ia,ib,mg,ac,bc,rfl,_,rfl,g',j⟩
  have:=j.hm
  have:=j.ha
  bv_omega
 ·clear g' j hm1
  rintro _ m' b' st' s' ⟨gg,o,ia,ib,mg,ac,bc,rfl,hm,rfl,g',j⟩
  dsimp only
  have hi:=j.ha
  have hb:=j.hb
  have hm2:=j.hm
  have na2:=j.ua
  have nb2:=j.ub
  have hb':ib-1<b.toList.length:=by bv_omega
  have e2:=List.getElem?_eq_getElem hb'
  refine zD (fun _ => ?_) (fun _ => ?_)
  all_goals
   refine kasC_bind (kasC_modify ?_)
   refine kasC_bind (zB e2 (kasC_bind (galR L hk (ub _ (List.getElem_mem hb')) (piece sa ua (by bv_omega)) (by bv_omega) g' fun k s2 k1 k2 k3 g2 => ?_)))
   dsimp only
   have J2:=j.j.gA sa k1 fun x hx y hy=>by
    obtain⟨n,n1,n2,n3⟩:=fU hx
    exact Nat.le_trans (jP sb (by bv_omega) e2 y hy) (Nat.le_of_lt (k3 n x n1 n2 n3))
   refine zD (fun ck=>yA (fun c=>kasC_pure (.inl ⟨_,_,rfl,jR J2 sa sb (.inl c),⟨_,rfl⟩,g2⟩)) fun c2=>have F2:=mkH4 (m:=m') J2 rfl k2 (by bv_omega) (by bv_omega) (by bv_omega); ?_) (fun ck=>have F2:=mkH4 (m:=m') j.j (by bv_omega) k2 (by bv_omega) (by bv_omega) (by bv_omega); ?_)
   all_goals
    clear J2 k3 k2
    have f1:=F2.ha
    have f2:=F2.hm
    have f0:=F2.hl
    have J3:=F2.j.pushB sb (by bv_omega) e2 F2.le
    refine kasC_bind (zB e2 ?_)
    refine yA (fun c=>kasC_pure (.inl ⟨_,_,rfl,kX J3 sa sb c h0,⟨_,rfl⟩,g2⟩)) fun c3 => ?_
    have f3:=Nat.lt_of_lt_of_le (Nat.sub_lt f1 Nat.one_pos) f0
    have e3:=List.getElem?_eq_getElem f3
    refine kasC_bind (zB e3 (kasC_bind (galL L hk (ua _ (List.getElem_mem f3)) (piece sb ub (by bv_omega)) (by bv_omega) g2 fun k' s3 k1' k2' k3' g3 => ?_)))
    dsimp only
    have J4:=J3.gB sb k1' fun x hx y hy=>by
     obtain⟨n,n1,n2,n3⟩:=fU hx
     exact Nat.le_trans (jP sa f1 e3 y hy) (k3' n x n1 n2 n3)
    refine zD (fun ck=>yA (fun c=>kasC_pure (.inl ⟨_,_,rfl,kX J4 sa sb c h0,⟨_,rfl⟩,g3⟩)) fun c2=>yA (fun c=>kasC_pure (.inl ⟨_,_,rfl,jR J4 sa sb (.inr c),⟨_,rfl⟩,g3⟩)) fun c2=>have F3:=mkH5 (m:=m') J4 rfl k2' (by bv_omega) (by bv_omega) (by bv_omega); ?_) (fun ck=>have F3:=mkH5 (m:=m') J3 (by bv_omega) k2' (by bv_omega) (by bv_omega) (by bv_omega); ?_)
    all_goals
     clear J4 k3' k2'
     have f4:=F3.hm
     have f5:=F3.hb
     have f6:=F3.hl
     have J5:=F3.j.pushA sa f1 e3 F3.le
     refine kasC_bind (zB e3 ?_)
     refine yA (fun c=>kasC_pure (.inl ⟨_,_,rfl,jR J5 sa sb (.inl c),⟨_,rfl⟩,g3⟩)) fun c3 => ?_
     refine zD (fun _=>kasC_pure (.inr ⟨_,_,_,_,_,_,_,rfl,?_,⟨J5,by bv_omega,by bv_omega,by bv_omega,by bv_omega,rfl⟩,⟨_,rfl⟩,g3⟩)) fun _=>kasC_pure ⟨_,?_,_,_,_,_,_,_,_,rfl,?_,rfl,g3,J5,by bv_omega,by bv_omega,by bv_omega,by bv_omega,rfl⟩
     all_goals bv_omega
 ·clear g' j
  rintro b' st' s' (⟨r,y,rfl,f,⟨gg,rfl⟩,g'⟩ | ⟨o,ia,ib,mg,ac,bc,m2,rfl,hm2,j,⟨gg,rfl⟩,g'⟩)
  ·exact kasC_pure (kasC_pure (q r gg s' f g'))
  ·refine kasC_bind (kasC_modify (kasC_pure ?_))
   exact⟨m2,by bv_omega,_,_,_,_,_,rfl,rfl,g',j⟩
end
end TS
namespace TS
open PySem PySem.W PyProof.Rows
section
variable {M:Model}{A:Around}{E:Value->Shared->Prop}{σ:Type}
theorem loopE {β:Type}{f:Nat->β->StateT σ Sem (ForInStep β)}{Q:β->σ->Shared->Prop}(I:Nat->β->σ->Shared->Prop) (hend:∀b st s,I 0 b st s->Q b st s)
  (hs:∀x m b st s,I (m+1) b st s->kasC M A E (f x b) (fun r st' s'=>match r with | .done b'=>Q b' st' s' | .yield b'=>I m b' st' s') st s) :
  ∀(l:List Nat) (b:β) (st:σ) (s:Shared),I l.length b st s->kasC M A E (forIn l b f) Q st s
 | [],b,st,s,h=>kasC_nil (hend b st s h)
 | x::l,b,st,s,h=>by
  refine kasC_cons (kmono (hs x l.length b st s h) fun r st' s' z => ?_)
  cases r with
  | done b'=>exact z
  | yield b'=>exact loopE I hend hs l b' st' s' z
theorem loopQ {β:Type}{f:Nat->β->StateT σ Sem (ForInStep β)}{Q:β->σ->Shared->Prop}(I:Nat->β->σ->Shared->Prop){a c:Nat}{b:β}{st:σ}{s:Shared}(h0:I (c-a) b st s) (hend:∀b st s,I 0 b st s->Q b st s)
  (hs:∀x m b st s,I (m+1) b st s->kasC M A E (f x b) (fun r st' s'=>match r with | .done b'=>Q b' st' s' | .yield b'=>I m b' st' s') st s):kasC M A E (forIn [a:c] b f) Q st s :=
 kasC_range (loopE I hend hs _ b st s (by rw[List.length_range'];exact h0))
end
section
variable {M:Model}{A:Around}{E:Value->Shared->Prop}{G:Shared->Prop}{U:Keyed->Prop}{rk:Keyed->Nat}{κ:SortKind}{a₀ arr:Array Keyed}{lo hi i j k:Nat}
def V (rk:Keyed->Nat) (arr:Array Keyed) (i:Nat):Nat:=(arr[i]?.map rk).getD 0
def Up (rk:Keyed->Nat) (arr:Array Keyed) (lo hi:Nat):Prop:=∀i j,lo<=i->i<=j->j<hi->V rk arr i<=V rk arr j
def Dn (rk:Keyed->Nat) (arr:Array Keyed) (lo hi:Nat):Prop:=∀i j,lo<=i->i<=j->j<hi->V rk arr j<=V rk arr i
structure Reg (a₀ arr:Array Keyed) (lo hi:Nat):Prop where
 perm:arr.Perm a₀
 out:∀k,k<lo\/hi<=k->arr[k]?=a₀[k]?
theorem Reg.refl:Reg arr arr lo hi:=⟨Array.Perm.refl _,fun _ _=>rfl⟩
theorem Reg.size (r:Reg a₀ arr lo hi):arr.size=a₀.size:=r.perm.size_eq
theorem Reg.mirror (r:Reg a₀ arr lo hi) (h1:lo<=i) (h2:j<=hi) (h3:hi<=a₀.size):Reg a₀ (mirror arr i j ((j-i) / 2)) lo hi:=by
 refine⟨(mirror_perm arr i j _).trans r.perm,fun k hk => ?_⟩
 rw[getElem?_mirror_all (by rw[r.size];bv_omega),if_neg (by bv_omega)]
 exact r.out k hk
theorem Reg.bubble {src d:Nat}(r:Reg a₀ arr lo hi) (h1:lo<=src-d) (h0:d<=src) (h2:src<hi) (h3:hi<=a₀.size):Reg a₀ (bubble arr src d) lo hi:=by
 refine⟨(bubble_perm arr src d).trans r.perm,fun k hk => ?_⟩
 rw[getElem?_bubble (by rw[r.size];bv_omega) d h0,if_neg (by bv_omega),if_neg (by bv_omega)]
 exact r.out k hk
theorem dO (h:j<=arr.size) (k:Nat):V rk (mirror arr i j ((j-i) / 2)) k=V rk arr (if i<=k/\k<j then i+j-1-k else k):=by
 unfold V
 rw[getElem?_mirror_all h]
 split <;> rfl
theorem gR (h:j<=arr.size) (e:∀k,i<=k->k<j->V rk arr k=V rk arr (j-1)) (k:Nat):V rk (mirror arr i j ((j-i) / 2)) k=V rk arr k:=by
 rw[dO h]
 by_cases c:i<=k/\k<j
 ·rw[if_pos c,e _ (by bv_omega) (by bv_omega),e k c.1 c.2]
 ·rw[if_neg c]
theorem Up.snoc (u:Up rk arr lo hi) (h1:lo<hi) (h2:V rk arr (hi-1)<=V rk arr hi):Up rk arr lo (hi+1):=fun i j a b c=>by
 by_cases d:j=hi
 ·subst d
  by_cases e:i=j
  ·subst e;exact Nat.le_refl _
  ·exact Nat.le_trans (u i (j-1) a (by bv_omega) (by bv_omega)) h2
 ·exact u i j a b (by bv_omega)
theorem Dn.snoc (u:Dn rk arr lo hi) (h1:lo<hi) (h2:V rk arr hi<=V rk arr (hi-1)):Dn rk arr lo (hi+1):=fun i j a b c=>by
 by_cases d:j=hi
 ·subst d
  by_cases e:i=j
  ·subst e;exact Nat.le_refl _
  ·exact Nat.le_trans h2 (u i (j-1) a (by bv_omega) (by bv_omega))
 ·exact u i j a b (by bv_omega)
theorem xX5:Up rk arr lo (lo+1):=fun i j a b c=>by
 have:i=j:=by bv_omega
 subst this
 exact Nat.le_refl _
theorem Dn.turn (u:Dn rk arr lo hi) (h:hi<=arr.size):Up rk (mirror arr lo hi ((hi-lo) / 2)) lo hi:=fun i j a b c=>by
 rw[dO h,dO h,if_pos (by bv_omega),if_pos (by bv_omega)]
 exact u _ _ (by bv_omega) (by bv_omega) (by bv_omega)
theorem xV {st:SortSt}{Q:Option Bool->SortSt->Shared->Prop}{s:Shared}(L:LtOk M A E G U rk κ) (hk:kindOf st=κ) (ua:∀x∈(arrOf st).toList,U x) (hi:i<(arrOf st).size) (hj:j<(arrOf st).size) (g:G s) (q:∀s',G s'->Q (some (decide (V rk (arrOf st) i<V rk (arrOf st) j))) st s'):kasC M A E (ltAt' i j) Q st s:=by
 have e1:(arrOf st)[i]?=some (arrOf st)[i]:=Array.getElem?_eq_getElem hi
 have e2:(arrOf st)[j]?=some (arrOf st)[j]:=Array.getElem?_eq_getElem hj
 unfold V at q
 rw[e1,e2] at q
 rw[<-Array.getElem?_toList] at e1 e2
 refine kasC_bind (kasC_get ?_)
 refine kasC_bind (zB e1 (kasC_bind (zB e2 ?_)))
 exact L _ _ (ua _ (Array.getElem_mem_toList hi)) (ua _ (Array.getElem_mem_toList hj)) Q st s hk g q
theorem uA {st:SortSt}{Q:Unit->SortSt->Shared->Prop}{s:Shared}(h:Q () (setArr st (mirror (arrOf st) i j ((j-i) / 2))) s):kasC M A E (reverseSlice' i j) Q st s:=by
 rw[reverseSlice'_eq]
 exact kasC_modify h
structure DN (rk:Keyed->Nat) (a₀ arr:Array Keyed) (lo nrem n neq:Nat):Prop where
 reg:Reg a₀ arr lo (lo+nrem)
 dn:Dn rk arr lo (lo+n)
 eq:∀k,lo+n-(neq+1)<=k->k<lo+n->V rk arr k=V rk arr (lo+n-1)
theorem Dn.congr {arr':Array Keyed}(u:Dn rk arr lo hi) (h:∀k,V rk arr' k=V rk arr k):Dn rk arr' lo hi:=fun i j a b c=>by rw[h,h];exact u i j a b c
theorem xE {U:Keyed->Prop}(p:arr.Perm a₀) (h:∀x∈a₀.toList,U x):∀x∈arr.toList,U x:=fun x hx=>h x ((Array.perm_iff_toList_perm.mp p).mem_iff.mp hx)
theorem zO4 {st:SortSt}{nrem:Nat}{Q:Option Nat->SortSt->Shared->Prop}{s:Shared}(L:LtOk M A E G U rk κ) (hk:kindOf st=κ) (ua:∀x∈(arrOf st).toList,U x) (h1:1<=nrem) (hn:lo+nrem<=(arrOf st).size) (g:G s)
  (q:∀n arr' s',Reg (arrOf st) arr' lo (lo+nrem)->1<=n->n<=nrem->Up rk arr' lo (lo+n)->G s'->Q (some n) (setArr st arr') s'):kasC M A E (countRun' lo nrem) Q st s:=by
 refine kasC_bind (kmono (loopQ (Q:=fun b st' s'=>∃n,b=(none,n)/\st'=st/\G s'/\1<=n/\n<=nrem/\Up rk (arrOf st) lo (lo+n)/\(n=nrem\/V rk (arrOf st) (lo+n)<V rk (arrOf st) (lo+n-1)))
  (fun m b st' s'=>∃n,b=(none,n)/\st'=st/\G s'/\1<=n/\Up rk (arrOf st) lo (lo+n)/\n+m=nrem) ⟨1,rfl,rfl,g,Nat.le_refl _,xX5,by bv_omega⟩ ?_ ?_) ?_)
 ·rintro b st' s' ⟨n,rfl,rfl,g',a1,a2,a3⟩
  exact⟨n,rfl,rfl,g',a1,by bv_omega,a2,.inl (by bv_omega)⟩
 ·rintro _ m b st' s' ⟨n,rfl,rfl,g',a1,a2,a3⟩
  dsimp only
  refine kasC_bind (xV L hk ua (by bv_omega) (by bv_omega) g' fun s2 g2 => ?_)
  dsimp only
  refine zD (fun c=>kasC_pure ?_) (fun c=>kasC_pure ?_)
  ·exact⟨n,rfl,rfl,g2,a1,by bv_omega,a2,.inr (of_decide_eq_true c)⟩
  ·exact⟨n+1,rfl,rfl,g2,by bv_omega,a2.snoc (by bv_omega) (Nat.le_of_not_lt fun z=>c (decide_eq_true z)),by bv_omega⟩
 rintro b st' s' ⟨n,rfl,rfl,g',a1,a2,a3,a4⟩
 dsimp only
 refine yA (fun c=>kasC_pure (q n _ s' Reg.refl a1 a2 a3 g')) fun c => ?_
 have a4:=a4.resolve_left c
 refine zD (fun cn=>kasC_bind (xV L hk ua (by bv_omega) (by bv_omega) g' fun s2 g2=>zD (fun c=>kasC_pure (q n _ s2 Reg.refl a1 a2 a3 g2)) fun c=>kasC_bind (uA ?_))) (fun cn => ?_)
 ·have c:V rk (arrOf st') (lo+n-1)<=V rk (arrOf st') lo:=Nat.le_of_not_lt fun z=>c (decide_eq_true z)
  have e:∀k,lo<=k->k<lo+n->V rk (arrOf st') k=V rk (arrOf st') (lo+n-1):=fun k h1 h2=>by
   have z1:=a3 k (lo+n-1) h1 (by bv_omega) (by bv_omega)
   have z2:=a3 lo k (Nat.le_refl _) h1 h2
   bv_omega
  have sm:=gR (rk:=rk) (by bv_omega:lo+n<=(arrOf st').size) e
  have F:DN rk (arrOf st') (mirror (arrOf st') lo (lo+n) ((lo+n-lo) / 2)) lo nrem (n+1) 0:=⟨Reg.refl.mirror (Nat.le_refl _) (by bv_omega) hn,Dn.snoc (hi:=lo+n) (fun i j b1 b2 b3=>by rw[sm,sm,e i b1 (by bv_omega),e j (by bv_omega) b3];exact Nat.le_refl _) (by bv_omega) (by rw[sm,sm];exact Nat.le_of_lt a4),fun k b1 b2=>by rw[show k=lo+(n+1)-1 by bv_omega]⟩
  refine kasC_bind (kasC_lift (wpAny_rule ?_))
  refine kasC_bind (kmono (loopQ (Q:=fun b st2 s2=>∃n neq arr',b=(none,n,neq)/\st2=setArr st' arr'/\G s2/\1<=n/\n<=nrem/\neq+1<=n/\DN rk (arrOf st') arr' lo nrem n neq)
   (fun m b st2 s2=>∃n neq arr',b=(none,n,neq)/\st2=setArr st' arr'/\G s2/\1<=n/\n+m=nrem/\neq+1<=n/\DN rk (arrOf st') arr' lo nrem n neq) ⟨_,_,_,rfl,rfl,g2,by bv_omega,by bv_omega,by bv_omega,F⟩ ?_ ?_) ?_)
  ·rintro b st2 s2 ⟨n,neq,arr',rfl,rfl,g2,b1,b2,b3,F⟩
   exact⟨n,neq,arr',rfl,rfl,g2,b1,by bv_omega,b3,F⟩
  ·clear F
   rintro _ m b st2 s2 ⟨n,neq,arr',rfl,rfl,g2,b1,b2,b3,F⟩
   have sz:=F.reg.size
   have ua2:=xE F.reg.perm ua
   dsimp only
   refine kasC_bind (xV (st:=setArr st' arr') L hk ua2 (show _<arr'.size by bv_omega) (show _<arr'.size by bv_omega) g2 fun s3 g3 => ?_)
   dsimp only
   refine zD (fun c => ?_) (fun c => ?_)
   ·have c:V rk arr' (lo+n)<V rk arr' (lo+n-1):=of_decide_eq_true c
    refine zD (fun ce=>kasC_bind (uA (kasC_pure ?_))) (fun ce=>kasC_pure ?_)
    ·have sm:=gR (rk:=rk) (by bv_omega:lo+n<=arr'.size) F.eq
     exact⟨_,_,_,rfl,rfl,g3,by bv_omega,by bv_omega,by bv_omega,F.reg.mirror (by bv_omega) (by bv_omega) hn,(F.dn.congr sm).snoc (by bv_omega) (by rw[sm,sm];exact Nat.le_of_lt c),fun k d1 d2=>by rw[show k=lo+(n+1)-1 by bv_omega]⟩
    ·exact⟨_,_,_,rfl,rfl,g3,by bv_omega,by bv_omega,by bv_omega,F.reg,F.dn.snoc (by bv_omega) (Nat.le_of_lt c),fun k d1 d2=>by rw[show k=lo+(n+1)-1 by bv_omega]⟩
   ·have c:V rk arr' (lo+n-1)<=V rk arr' (lo+n):=Nat.le_of_not_lt fun z=>c (decide_eq_true z)
    refine kasC_bind (xV (st:=setArr st' arr') L hk ua2 (show _<arr'.size by bv_omega) (show _<arr'.size by bv_omega) g3 fun s4 g4 => ?_)
    dsimp only
    refine zD (fun c2=>kasC_pure ?_) (fun c2=>kasC_pure ?_)
    ·exact⟨n,neq,arr',rfl,rfl,g4,b1,by bv_omega,b3,F⟩
    ·have c2:V rk arr' (lo+n)<=V rk arr' (lo+n-1):=Nat.le_of_not_lt fun z=>c2 (decide_eq_true z)
     refine⟨_,_,_,rfl,rfl,g4,by bv_omega,by bv_omega,by bv_omega,F.reg,F.dn.snoc (by bv_omega) c2,fun k d1 d2 => ?_⟩
     rw[show lo+(n+1)-1=lo+n by bv_omega]
     by_cases ck:k=lo+n
     ·rw[ck]
     ·rw[F.eq k (by bv_omega) (by bv_omega)];bv_omega
  clear F
  rintro b st2 s2 ⟨n,neq,arr',rfl,rfl,g2,b1,b2,b3,F⟩
  have sz:=F.reg.size
  have sm:=gR (rk:=rk) (by bv_omega:lo+n<=arr'.size) F.eq
  dsimp only
  refine zD (fun ce=>kasC_bind (uA (kasC_bind (uA ?_)))) (fun ce=>kasC_bind (uA ?_))
  ·have R:=F.reg.mirror (i:=lo+n-(neq+1)) (j:=lo+n) (by bv_omega) (by bv_omega) hn
   have W:=(F.dn.congr sm).turn (by rw[R.size];bv_omega)
   exact (kasC_bind (kmono (loopQ (Q:=fun b st2 s2=>∃n,b=(none,n)/\st2=setArr st' _/\G s2/\1<=n/\n<=nrem/\Up rk _ lo (lo+n))
    (fun m b st2 s2=>∃n,b=(none,n)/\st2=setArr st' _/\G s2/\1<=n/\Up rk _ lo (lo+n)/\n+m=nrem) ⟨n,rfl,rfl,g2,b1,W,by bv_omega⟩ (fun b st2 s2 ⟨n,e1,e2,g3,d1,d2,d3⟩=>⟨n,e1,e2,g3,d1,by bv_omega,d2⟩) (fun x m b st2 s2 ⟨n,e1,e2,g3,d1,d2,d3⟩=>by
     subst e1 e2
     dsimp only
     refine kasC_bind (xV L hk (xE (R.mirror (i:=lo) (j:=_) (Nat.le_refl _) (by bv_omega) hn).perm ua) (by rw[(R.mirror (i:=lo) (j:=_) (Nat.le_refl _) (by bv_omega) hn).size];bv_omega) (by rw[(R.mirror (i:=lo) (j:=_) (Nat.le_refl _) (by bv_omega) hn).size];bv_omega) g3 fun s4 g4 => ?_)
     dsimp only
     refine zD (fun c=>kasC_pure ?_) (fun c=>kasC_pure ?_)
     ·exact⟨n,rfl,rfl,g4,d1,by bv_omega,d2⟩
     ·exact⟨n+1,rfl,rfl,g4,by bv_omega,d2.snoc (by bv_omega) (Nat.le_of_not_lt fun z=>c (decide_eq_true z)),by bv_omega⟩)) (fun b st2 s2 ⟨n,e1,e2,g3,d1,d2,d3⟩=>by
     subst e1 e2
     exact kasC_pure (q n _ s2 (R.mirror (i:=lo) (j:=_) (Nat.le_refl _) (by bv_omega) hn) d1 d2 d3 g3))))
  ·have W:=F.dn.turn (by bv_omega)
   exact (kasC_bind (kmono (loopQ (Q:=fun b st2 s2=>∃n,b=(none,n)/\st2=setArr st' _/\G s2/\1<=n/\n<=nrem/\Up rk _ lo (lo+n))
    (fun m b st2 s2=>∃n,b=(none,n)/\st2=setArr st' _/\G s2/\1<=n/\Up rk _ lo (lo+n)/\n+m=nrem) ⟨n,rfl,rfl,g2,b1,W,by bv_omega⟩ (fun b st2 s2 ⟨n,e1,e2,g3,d1,d2,d3⟩=>⟨n,e1,e2,g3,d1,by bv_omega,d2⟩) (fun x m b st2 s2 ⟨n,e1,e2,g3,d1,d2,d3⟩=>by
     subst e1 e2
     dsimp only
     refine kasC_bind (xV L hk (xE (F.reg.mirror (i:=lo) (j:=_) (Nat.le_refl _) (by bv_omega) hn).perm ua) (by rw[(F.reg.mirror (i:=lo) (j:=_) (Nat.le_refl _) (by bv_omega) hn).size];bv_omega) (by rw[(F.reg.mirror (i:=lo) (j:=_) (Nat.le_refl _) (by bv_omega) hn).size];bv_omega) g3 fun s4 g4 => ?_)
     dsimp only
     refine zD (fun c=>kasC_pure ?_) (fun c=>kasC_pure ?_)
     ·exact⟨n,rfl,rfl,g4,d1,by bv_omega,d2⟩
     ·exact⟨n+1,rfl,rfl,g4,by bv_omega,d2.snoc (by bv_omega) (Nat.le_of_not_lt fun z=>c (decide_eq_true z)),by bv_omega⟩)) (fun b st2 s2 ⟨n,e1,e2,g3,d1,d2,d3⟩=>by
     subst e1 e2
     exact kasC_pure (q n _ s2 (F.reg.mirror (i:=lo) (j:=_) (Nat.le_refl _) (by bv_omega) hn) d1 d2 d3 g3))))
 ·have n1:n=1:=by bv_omega
  subst n1
  have F:DN rk (arrOf st') (arrOf st') lo nrem (1+1) 0:=⟨Reg.refl,Dn.snoc (hi:=lo+1) (fun i j b1 b2 b3=>by rw[show i=j by bv_omega];exact Nat.le_refl _) (by bv_omega) (Nat.le_of_lt a4),fun k b1 b2=>by rw[show k=lo+(1+1)-1 by bv_omega]⟩
  refine kasC_bind (kasC_lift (wpAny_rule ?_))
  refine kasC_bind (kmono (loopQ (Q:=fun b st2 s2=>∃n neq arr',b=(none,n,neq)/\st2=setArr st' arr'/\G s2/\1<=n/\n<=nrem/\neq+1<=n/\DN rk (arrOf st') arr' lo nrem n neq)
   (fun m b st2 s2=>∃n neq arr',b=(none,n,neq)/\st2=setArr st' arr'/\G s2/\1<=n/\n+m=nrem/\neq+1<=n/\DN rk (arrOf st') arr' lo nrem n neq) ⟨_,_,_,rfl,rfl,g',by bv_omega,by bv_omega,by bv_omega,F⟩ ?_ ?_) ?_)
  ·rintro b st2 s2 ⟨n,neq,arr',rfl,rfl,g2,b1,b2,b3,F⟩
   exact⟨n,neq,arr',rfl,rfl,g2,b1,by bv_omega,b3,F⟩
  ·clear F
   rintro _ m b st2 s2 ⟨n,neq,arr',rfl,rfl,g2,b1,b2,b3,F⟩
   have sz:=F.reg.size
   have ua2:=xE F.reg.perm ua
   dsimp only
   refine kasC_bind (xV (st:=setArr st' arr') L hk ua2 (show _<arr'.size by bv_omega) (show _<arr'.size by bv_omega) g2 fun s3 g3 => ?_)
   dsimp only
   refine zD (fun c => ?_) (fun c => ?_)
   ·have c:V rk arr' (lo+n)<V rk arr' (lo+n-1):=of_decide_eq_true c
    refine zD (fun ce=>kasC_bind (uA (kasC_pure ?_))) (fun ce=>kasC_pure ?_)
    ·have sm:=gR (rk:=rk) (by bv_omega:lo+n<=arr'.size) F.eq
     exact⟨_,_,_,rfl,rfl,g3,by bv_omega,by bv_omega,by bv_omega,F.reg.mirror (by bv_omega) (by bv_omega) hn,(F.dn.congr sm).snoc (by bv_omega) (by rw[sm,sm];exact Nat.le_of_lt c),fun k d1 d2=>by rw[show k=lo+(n+1)-1 by bv_omega]⟩
    ·exact⟨_,_,_,rfl,rfl,g3,by bv_omega,by bv_omega,by bv_omega,F.reg,F.dn.snoc (by bv_omega) (Nat.le_of_lt c),fun k d1 d2=>by rw[show k=lo+(n+1)-1 by bv_omega]⟩
   ·have c:V rk arr' (lo+n-1)<=V rk arr' (lo+n):=Nat.le_of_not_lt fun z=>c (decide_eq_true z)
    refine kasC_bind (xV (st:=setArr st' arr') L hk ua2 (show _<arr'.size by bv_omega) (show _<arr'.size by bv_omega) g3 fun s4 g4 => ?_)
    dsimp only
    refine zD (fun c2=>kasC_pure ?_) (fun c2=>kasC_pure ?_)
    ·exact⟨n,neq,arr',rfl,rfl,g4,b1,by bv_omega,b3,F⟩
    ·have c2:V rk arr' (lo+n)<=V rk arr' (lo+n-1):=Nat.le_of_not_lt fun z=>c2 (decide_eq_true z)
     refine⟨_,_,_,rfl,rfl,g4,by bv_omega,by bv_omega,by bv_omega,F.reg,F.dn.snoc (by bv_omega) c2,fun k d1 d2 => ?_⟩
     rw[show lo+(n+1)-1=lo+n by bv_omega]
     by_cases ck:k=lo+n
     ·rw[ck]
     ·rw[F.eq k (by bv_omega) (by bv_omega)];bv_omega
  clear F
  rintro b st2 s2 ⟨n,neq,arr',rfl,rfl,g2,b1,b2,b3,F⟩
  have sz:=F.reg.size
  have sm:=gR (rk:=rk) (by bv_omega:lo+n<=arr'.size) F.eq
  dsimp only
  refine zD (fun ce=>kasC_bind (uA (kasC_bind (uA ?_)))) (fun ce=>kasC_bind (uA ?_))
  ·have R:=F.reg.mirror (i:=lo+n-(neq+1)) (j:=lo+n) (by bv_omega) (by bv_omega) hn
   have W:=(F.dn.congr sm).turn (by rw[R.size];bv_omega)
   exact (kasC_bind (kmono (loopQ (Q:=fun b st2 s2=>∃n,b=(none,n)/\st2=setArr st' _/\G s2/\1<=n/\n<=nrem/\Up rk _ lo (lo+n))
    (fun m b st2 s2=>∃n,b=(none,n)/\st2=setArr st' _/\G s2/\1<=n/\Up rk _ lo (lo+n)/\n+m=nrem) ⟨n,rfl,rfl,g2,b1,W,by bv_omega⟩ (fun b st2 s2 ⟨n,e1,e2,g3,d1,d2,d3⟩=>⟨n,e1,e2,g3,d1,by bv_omega,d2⟩) (fun x m b st2 s2 ⟨n,e1,e2,g3,d1,d2,d3⟩=>by
     subst e1 e2
     dsimp only
     refine kasC_bind (xV L hk (xE (R.mirror (i:=lo) (j:=_) (Nat.le_refl _) (by bv_omega) hn).perm ua) (by rw[(R.mirror (i:=lo) (j:=_) (Nat.le_refl _) (by bv_omega) hn).size];bv_omega) (by rw[(R.mirror (i:=lo) (j:=_) (Nat.le_refl _) (by bv_omega) hn).size];bv_omega) g3 fun s4 g4 => ?_)
     dsimp only
     refine zD (fun c=>kasC_pure ?_) (fun c=>kasC_pure ?_)
     ·exact⟨n,rfl,rfl,g4,d1,by bv_omega,d2⟩
     ·exact⟨n+1,rfl,rfl,g4,by bv_omega,d2.snoc (by bv_omega) (Nat.le_of_not_lt fun z=>c (decide_eq_true z)),by bv_omega⟩)) (fun b st2 s2 ⟨n,e1,e2,g3,d1,d2,d3⟩=>by
     subst e1 e2
     exact kasC_pure (q n _ s2 (R.mirror (i:=lo) (j:=_) (Nat.le_refl _) (by bv_omega) hn) d1 d2 d3 g3))))
  ·have W:=F.dn.turn (by bv_omega)
   exact (kasC_bind (kmono (loopQ (Q:=fun b st2 s2=>∃n,b=(none,n)/\st2=setArr st' _/\G s2/\1<=n/\n<=nrem/\Up rk _ lo (lo+n))
    (fun m b st2 s2=>∃n,b=(none,n)/\st2=setArr st' _/\G s2/\1<=n/\Up rk _ lo (lo+n)/\n+m=nrem) ⟨n,rfl,rfl,g2,b1,W,by bv_omega⟩ (fun b st2 s2 ⟨n,e1,e2,g3,d1,d2,d3⟩=>⟨n,e1,e2,g3,d1,by bv_omega,d2⟩) (fun x m b st2 s2 ⟨n,e1,e2,g3,d1,d2,d3⟩=>by
     subst e1 e2
     dsimp only
     refine kasC_bind (xV L hk (xE (F.reg.mirror (i:=lo) (j:=_) (Nat.le_refl _) (by bv_omega) hn).perm ua) (by rw[(F.reg.mirror (i:=lo) (j:=_) (Nat.le_refl _) (by bv_omega) hn).size];bv_omega) (by rw[(F.reg.mirror (i:=lo) (j:=_) (Nat.le_refl _) (by bv_omega) hn).size];bv_omega) g3 fun s4 g4 => ?_)
     dsimp only
     refine zD (fun c=>kasC_pure ?_) (fun c=>kasC_pure ?_)
     ·exact⟨n,rfl,rfl,g4,d1,by bv_omega,d2⟩
     ·exact⟨n+1,rfl,rfl,g4,by bv_omega,d2.snoc (by bv_omega) (Nat.le_of_not_lt fun z=>c (decide_eq_true z)),by bv_omega⟩)) (fun b st2 s2 ⟨n,e1,e2,g3,d1,d2,d3⟩=>by
     subst e1 e2
     exact kasC_pure (q n _ s2 (F.reg.mirror (i:=lo) (j:=_) (Nat.le_refl _) (by bv_omega) hn) d1 d2 d3 g3))))
end
end TS
namespace TS
open PySem PySem.W PyProof.Rows
section
variable {M:Model}{A:Around}{E:Value->Shared->Prop}{σ:Type}
theorem loopJ {β:Type}{f:Nat->β->StateT σ Sem (ForInStep β)}{Q:β->σ->Shared->Prop}(I:Nat->β->σ->Shared->Prop){c:Nat}(hend:∀b st s,I c b st s->Q b st s)
  (hs:∀x b st s,x<c->I x b st s->kasC M A E (f x b) (fun r st' s'=>match r with | .done b'=>Q b' st' s' | .yield b'=>I (x+1) b' st' s') st s) :
  ∀(d a:Nat) (b:β) (st:σ) (s:Shared),a+d=c->I a b st s->kasC M A E (forIn (List.range' a d) b f) Q st s
 | 0,a,b,st,s,e,h=>by
  rw[show a=c by bv_omega] at h
  exact kasC_nil (hend b st s h)
 | d+1,a,b,st,s,e,h=>by
  rw[List.range'_succ]
  refine kasC_cons (kmono (hs a b st s (by bv_omega) h) fun r st' s' z => ?_)
  cases r with
  | done b'=>exact z
  | yield b'=>exact loopJ I hend hs d (a+1) b' st' s' (by bv_omega) z
theorem loopI {β:Type}{f:Nat->β->StateT σ Sem (ForInStep β)}{Q:β->σ->Shared->Prop}(I:Nat->β->σ->Shared->Prop){a c:Nat}{b:β}{st:σ}{s:Shared}(ha:a<=c) (h0:I a b st s) (hend:∀b st s,I c b st s->Q b st s)
  (hs:∀x b st s,x<c->I x b st s->kasC M A E (f x b) (fun r st' s'=>match r with | .done b'=>Q b' st' s' | .yield b'=>I (x+1) b' st' s') st s):kasC M A E (forIn [a:c] b f) Q st s :=
 kasC_range (loopJ I hend hs (c-a) a b st s (by bv_omega) h0)
end
section
variable {M:Model}{A:Around}{E:Value->Shared->Prop}{G:Shared->Prop}{U:Keyed->Prop}{rk:Keyed->Nat}{κ:SortKind}{a₀ arr:Array Keyed}{lo hi i j k:Nat}
theorem xY6 {src dst:Nat}{st:SortSt}{Q:Unit->SortSt->Shared->Prop}{s:Shared}(h:Q () (setArr st (bubble (arrOf st) src (src-dst))) s):kasC M A E (moveDown' src dst) Q st s:=by
 rw[moveDown'_eq]
 exact kasC_modify h
theorem zV7 {src d:Nat}(hs:src<arr.size) (hd:d<=src) (k:Nat):V rk (bubble arr src d) k=V rk arr (if k=src-d then src else if src-d<k/\k<=src then k-1 else k):=by
 unfold V
 rw[getElem?_bubble hs d hd]
 split
 ·rfl
 ·split <;> rfl
theorem Up.put {l k:Nat}(u:Up rk arr lo (lo+k)) (hs:lo+k<arr.size) (hl:l<=k) (h1:∀i,i<l->V rk arr (lo+i)<=V rk arr (lo+k)) (h2:∀i,l<=i->i<k->V rk arr (lo+k)<=V rk arr (lo+i)):Up rk (bubble arr (lo+k) (lo+k-(lo+l))) lo (lo+(k+1)):=by
 have h1':∀i,lo<=i->i<lo+l->V rk arr i<=V rk arr (lo+k):=fun i a b=>by
  have:=h1 (i-lo) (by bv_omega)
  rwa [show lo+(i-lo)=i by bv_omega] at this
 have h2':∀i,lo+l<=i->i<lo+k->V rk arr (lo+k)<=V rk arr i:=fun i a b=>by
  have:=h2 (i-lo) (by bv_omega) (by bv_omega)
  rwa [show lo+(i-lo)=i by bv_omega] at this
 intro i j a b c
 rw[zV7 hs (by bv_omega),zV7 hs (by bv_omega)]
 repeat' split
 all_goals first
  | exact Nat.le_refl _
  | exact h1' _ (by bv_omega) (by bv_omega)
  | exact h2' _ (by bv_omega) (by bv_omega)
  | exact u _ _ (by bv_omega) (by bv_omega) (by bv_omega)
  | (exfalso;bv_omega)
theorem zY5 {st:SortSt}{n ok:Nat}{Q:Bool->SortSt->Shared->Prop}{s:Shared}(L:LtOk M A E G U rk κ) (hk:kindOf st=κ) (ua:∀x∈(arrOf st).toList,U x) (h1:1<=n) (ho:ok<=n) (hn:lo+n<=(arrOf st).size) (g:G s) (u:Up rk (arrOf st) lo (lo+ok))
  (q:∀arr' s',Reg (arrOf st) arr' lo (lo+n)->Up rk arr' lo (lo+n)->G s'->Q true (setArr st arr') s'):kasC M A E (binarySort' lo n ok) Q st s:=by
 refine kasC_bind (kmono (loopI (Q:=fun b st' s'=>b=(none,())/\∃arr',st'=setArr st arr'/\Reg (arrOf st) arr' lo (lo+n)/\Up rk arr' lo (lo+n)/\G s')
  (fun k b st' s'=>b=(none,())/\∃arr',st'=setArr st arr'/\Reg (arrOf st) arr' lo (lo+n)/\Up rk arr' lo (lo+k)/\G s') (by bv_omega) ⟨rfl,_,rfl,Reg.refl,?_,g⟩ ?_ ?_) ?_)
 ·intro i j a b c
  by_cases e:i=j
  ·rw[e];exact Nat.le_refl _
  ·exact u i j a b (by bv_omega)
 ·exact fun b st' s' z=>z
 ·rintro k b st' s' hk' ⟨rfl,arr',rfl,R,u',g'⟩
  have sz:=R.size
  have ua2:=xE R.perm ua
  dsimp only
  refine kasC_bind (kmono (loopR (Q:=fun b st2 s2=>∃l r,b=(none,l,r)/\st2=setArr st arr'/\G s2/\l<=k/\(∀i,i<l->V rk arr' (lo+i)<=V rk arr' (lo+k))/\(∀i,l<=i->i<k->V rk arr' (lo+k)<=V rk arr' (lo+i)))
   (fun m b st2 s2=>∃l r,b=(none,l,r)/\st2=setArr st arr'/\G s2/\l<=r/\r<=k/\(∀i,i<l->V rk arr' (lo+i)<=V rk arr' (lo+k))/\(∀i,r<=i->i<k->V rk arr' (lo+k)<=V rk arr' (lo+i))/\m=r-l) (m:=k) (by bv_omega) ⟨0,k,rfl,rfl,g',by bv_omega,Nat.le_refl _,fun i z=>by bv_omega,fun i z=>by bv_omega,rfl⟩ ?_ ?_) ?_)
  ·rintro b st2 s2 ⟨l,r,rfl,rfl,g2,a1,a2,a3,a4,a5⟩
   exact⟨l,r,rfl,rfl,g2,by bv_omega,a3,fun i b1 b2=>a4 i (by bv_omega) b2⟩
  ·rintro _ m b st2 s2 ⟨l,r,rfl,rfl,g2,a1,a2,a3,a4,a5⟩
   dsimp only
   refine zD (fun c=>kasC_pure ⟨l,r,rfl,rfl,g2,by bv_omega,a3,fun i b1 b2=>a4 i (by bv_omega) b2⟩) fun c => ?_
   refine kasC_bind (xV (st:=setArr st arr') L hk ua2 (show _<arr'.size by bv_omega) (show _<arr'.size by bv_omega) g2 fun s3 g3 => ?_)
   dsimp only
   refine zD (fun c2=>kasC_pure ?_) (fun c2=>kasC_pure ?_)
   ·have c2:V rk arr' (lo+k)<V rk arr' (lo+(l+r) / 2):=of_decide_eq_true c2
    exact⟨(l+r) / 2-l,by bv_omega,l,_,rfl,rfl,g3,by bv_omega,by bv_omega,a3,fun i b1 b2=>Nat.le_trans (Nat.le_of_lt c2) (u' _ _ (by bv_omega) (by bv_omega) (by bv_omega)),rfl⟩
   ·have c2:V rk arr' (lo+(l+r) / 2)<=V rk arr' (lo+k):=Nat.le_of_not_lt fun z=>c2 (decide_eq_true z)
    exact⟨r-((l+r) / 2+1),by bv_omega,_,r,rfl,rfl,g3,by bv_omega,by bv_omega,fun i b1=>Nat.le_trans (u' _ _ (by bv_omega) (by bv_omega) (by bv_omega)) c2,a4,rfl⟩
  ·rintro b st2 s2 ⟨l,r,rfl,rfl,g2,a1,a2,a3⟩
   refine kasC_bind (xY6 (kasC_pure ?_))
   exact⟨rfl,_,rfl,R.bubble (by bv_omega) (by bv_omega) (by bv_omega) hn,u'.put (by bv_omega) a1 a2 a3,g2⟩
 ·rintro b st' s' ⟨rfl,arr',rfl,R,u',g'⟩
  exact kasC_pure (q arr' s' R u' g')
end
end TS
namespace TS
open PySem PySem.W PyProof.Rows
abbrev RunL:=List (List Keyed×Nat)
def flat:RunL->List Keyed
 | []=>[]
 | r::t=>r.1++flat t
def pendL:Nat->RunL->List (Nat×Nat×Nat)
 | _,[]=>[]
 | o,r::t=>(o,r.1.length,r.2)::pendL (o+r.1.length) t
theorem yU:∀(a b:RunL),flat (a++b)=flat a++flat b
 | [],_=>rfl
 | r::t,b=>by show r.1++flat (t++b)=r.1++flat t++flat b;rw[yU t b,List.append_assoc]
theorem yN:∀(o:Nat) (a b:RunL),pendL o (a++b)=pendL o a++pendL (o+(flat a).length) b
 | _,[],_=>rfl
 | o,r::t,b=>by
  show _::pendL _ (t++b)=_::(pendL _ t++pendL (o+(r.1++flat t).length) b)
  rw[yN,List.length_append,Nat.add_assoc]
theorem uM:∀(o:Nat) (a:RunL),(pendL o a).length=a.length
 | _,[]=>rfl
 | o,r::t=>congrArg (·+1) (uM _ t)
section
variable {M:Model}{A:Around}{E:Value->Shared->Prop}{G:Shared->Prop}{U:Keyed->Prop}{rk:Keyed->Nat}{κ:SortKind}
structure Runs (rk:Keyed->Nat) (κ:SortKind) (all:List Keyed) (st:SortSt) (rs:RunL) (rest:List Keyed):Prop where
 kind:kindOf st=κ
 fail:failedOf st=none
 arr:(arrOf st).toList=flat rs++rest
 perm:(flat rs++rest).Perm all
 pend:(pendingOf st).toList=pendL 0 rs
 run:∀r∈rs,r.1 ≠ []/\Srt rk r.1
theorem getM {P x S:List Keyed}{i:Nat}(h:i<x.length):(P++(x++S))[P.length+i]?=x[i]?:=by
 rw[List.getElem?_append_right (by bv_omega),Nat.add_sub_cancel_left,List.getElem?_append_left h]
theorem pieceM {arr:Array Keyed}{P x S:List Keyed}(h:arr.toList=P++(x++S)) (hx:Srt rk x) (hu:∀z∈x,U z):Piece U rk arr P.length x.length:=by
 refine⟨fun i hi => ?_,fun i j y z h1 h2 a b => ?_⟩
 ·rw[h,getM hi]
  exact⟨_,List.getElem?_eq_getElem hi,hu _ (List.getElem_mem hi)⟩
 ·rw[h,getM (by bv_omega)] at a
  rw[h,getM h2] at b
  by_cases c:i=j
  ·subst c
   rw[a] at b
   cases b
   exact Nat.le_refl _
  ·obtain⟨h3,rfl⟩:=List.getElem?_eq_some_iff.mp a
   obtain⟨h4,rfl⟩:=List.getElem?_eq_some_iff.mp b
   exact List.pairwise_iff_getElem.mp hx _ _ h3 h4 (by bv_omega)
theorem xT7 {Q:PUnit->SortSt->Shared->Prop}{st st1:SortSt}{s:Shared}(h:Q ⟨⟩ st1 s):kasC M A E (set st1:StateT SortSt Sem PUnit) Q st s:=kasC_modify (f:=fun _=>st1) h
theorem over {F:Array Keyed->Keyed×Nat->Array Keyed}{o:Nat}(hF:∀a p j,F a (p,j)=a.setIfInBounds (o+j) p):∀(l:List Keyed) (n:Nat) (arr:Array Keyed) (P old S:List Keyed),arr.toList=P++(old++S)->P.length=o+n->old.length=l.length->((l.zipIdx n).foldl F arr).toList=P++(l++S)
 | [],n,arr,P,old,S,h,h1,h2=>by
  rw[List.eq_nil_of_length_eq_zero h2] at h
  exact h
 | x::l,n,arr,P,[],S,h,h1,h2=>nomatch h2
 | x::l,n,arr,P,y::old,S,h,h1,h2=>by
  rw[List.zipIdx_cons,List.foldl_cons,hF]
  have:=over hF l (n+1) (arr.setIfInBounds (o+n) x) (P ++ [x]) old S (by
   rw[Array.toList_setIfInBounds,h,<-h1,List.set_append_right _ _ (Nat.le_refl _),Nat.sub_self,List.append_assoc]
   rfl) (by rw[List.length_append,h1];rfl) (Nat.succ.inj h2)
  rw[this,List.append_assoc]
  rfl
theorem zI8 {arr:Array (Nat×Nat×Nat)}{r1 r2:RunL}{x y z:List Keyed}{p p':Nat}(h:arr.toList=pendL 0 (r1++(x,p)::(y,p')::r2)) (hz:z.length=x.length+y.length):((arr.setIfInBounds r1.length ((flat r1).length,x.length+y.length,p)).eraseIdxIfInBounds (r1.length+1)).toList=pendL 0 (r1++(z,p)::r2):=by
 rw[Array.toList_eraseIdxIfInBounds,Array.toList_setIfInBounds,h,yN,yN]
 have e:(pendL 0 r1).length=r1.length:=uM 0 r1
 rw[<-e,List.set_append_right _ _ (Nat.le_refl _),Nat.sub_self,List.eraseIdx_append_of_length_le (by bv_omega),Nat.add_sub_cancel_left]
 show _=_++(_::pendL _ r2)
 rw[hz,Nat.zero_add,<-Nat.add_assoc]
 rfl
theorem bV {arr:Array (Nat×Nat×Nat)}{r1 r2:RunL}{x y:List Keyed}{p p':Nat}(h:arr.toList=pendL 0 (r1++(x,p)::(y,p')::r2)):arr[r1.length]?=some ((flat r1).length,x.length,p)/\arr[r1.length+1]?=some ((flat r1).length+x.length,y.length,p'):=by
 rw[<-Array.getElem?_toList,<-Array.getElem?_toList,h,yN]
 have e:(pendL 0 r1).length=r1.length:=uM 0 r1
 rw[<-e,List.getElem?_append_right (Nat.le_refl _),List.getElem?_append_right (by bv_omega),Nat.sub_self,Nat.add_sub_cancel_left]
 refine⟨?_,?_⟩
 ·show some _=_
  rw[Nat.zero_add]
 ·show some _=_
  rw[Nat.zero_add]
end
end TS
namespace TS
open PySem PySem.W PyProof.Rows
section
variable {M:Model}{A:Around}{E:Value->Shared->Prop}{G:Shared->Prop}{U:Keyed->Prop}{rk:Keyed->Nat}{κ:SortKind}
theorem dF {y:List Keyed}{y0:Keyed}(sy:Srt rk y) (e0:y[0]?=some y0):∀v∈y,rk y0<=rk v:=vH (i:=0) sy e0
theorem zJ5 {x:List Keyed}{kx:Keyed}(sx:Srt rk x) (e2:x[x.length-1]?=some kx):∀v∈x,rk v<=rk kx:=fun v hv=>by
 have h0:0<x.length:=List.length_pos_of_mem hv
 exact jP (n:=x.length) sx h0 e2 v (by rw[List.take_length];exact hv)
theorem zed {x y:List Keyed}{k n2:Nat}{y0 kx:Keyed}{r:Array Keyed}(sx:Srt rk x) (sy:Srt rk y) (e0:y[0]?=some y0) (e2:x[x.length-1]?=some kx) (k2:∀w∈x.take k,rk w<=rk y0) (m3:∀w∈y.drop n2,rk kx<=rk w) (f:Fin rk (x.drop k) (y.take n2) r):(x.take k++(r.toList++y.drop n2)).Perm (x++y)/\Srt rk (x.take k++(r.toList++y.drop n2)):=by
 have sx':=sx
 have sy':=sy
 rw[<-List.take_append_drop k x] at sx'
 rw[<-List.take_append_drop n2 y] at sy'
 have px:=List.pairwise_append.mp sx'
 have py:=List.pairwise_append.mp sy'
 refine⟨?_,?_⟩
 ·refine ((f.perm.append_right (y.drop n2)).append_left (x.take k)).trans ?_
  rw[List.append_assoc,List.take_append_drop,<-List.append_assoc,List.take_append_drop]
 ·refine List.pairwise_append.mpr ⟨px.1,List.pairwise_append.mpr ⟨f.srt,py.2.1,fun w hw v hv => ?_⟩,fun w hw v hv => ?_⟩
  ·rcases List.mem_append.mp (f.perm.mem_iff.mp hw) with h | h
   ·exact Nat.le_trans (zJ5 sx e2 w (List.mem_of_mem_drop h)) (m3 v hv)
   ·exact py.2.2 w h v hv
  ·rcases List.mem_append.mp hv with h | h
   ·rcases List.mem_append.mp (f.perm.mem_iff.mp h) with h | h
    ·exact px.2.2 w hw v h
    ·exact Nat.le_trans (k2 w hw) (dF sy e0 v (List.mem_of_mem_take h))
   ·exact Nat.le_trans (k2 w hw) (dF sy e0 v (List.mem_of_mem_drop h))
theorem both {x y:List Keyed}(sx:Srt rk x) (sy:Srt rk y) (h:∀w∈x,∀v∈y,rk w<=rk v):Srt rk (x++y):=List.pairwise_append.mpr ⟨sx,sy,h⟩
theorem Runs.put {all:List Keyed}{st st':SortSt}{r1 r2:RunL}{x y z rest:List Keyed}{p p':Nat}(R:Runs rk κ all st (r1++(x,p)::(y,p')::r2) rest) (pz:z.Perm (x++y)) (sz:Srt rk z) (e1:kindOf st'=kindOf st) (e2:failedOf st'=failedOf st) (e3:(arrOf st').toList=flat r1++(z++(flat r2++rest)))
  (e4:pendingOf st'=((pendingOf st).setIfInBounds r1.length ((flat r1).length,x.length+y.length,p)).eraseIdxIfInBounds (r1.length+1)):Runs rk κ all st' (r1++(z,p)::r2) rest:=by
 have f1:flat (r1++(z,p)::r2)=flat r1++(z++flat r2):=yU _ _
 have f2:flat (r1++(x,p)::(y,p')::r2)=flat r1++(x++(y++flat r2)):=yU _ _
 have lz:z.length=x.length+y.length:=by rw[pz.length_eq,List.length_append]
 refine⟨e1.trans R.kind,e2.trans R.fail,?_,?_,?_,?_⟩
 ·rw[e3,f1,List.append_assoc,List.append_assoc]
 ·refine List.Perm.trans ?_ R.perm
  rw[f1,f2]
  refine List.Perm.append_right _ (List.Perm.append_left _ ?_)
  rw[<-List.append_assoc]
  exact List.Perm.append_right _ pz
 ·rw[e4]
  exact zI8 R.pend lz
 ·intro r hr
  rcases List.mem_append.mp hr with h | h
  ·exact R.run r (List.mem_append_left _ h)
  ·rcases List.mem_cons.mp h with rfl | h
   ·refine⟨fun e => ?_,sz⟩
    have n1:=(R.run (x,p) (List.mem_append_right _ (List.mem_cons_self ..))).1
    rw[show z=[] from e] at lz
    have:x.length=0:=by simp at lz;bv_omega
    exact n1 (List.eq_nil_of_length_eq_zero this)
   ·exact R.run r (List.mem_append_right _ (List.mem_cons_of_mem _ (List.mem_cons_of_mem _ h)))
theorem extM {arr:Array Keyed}{P x S:List Keyed}(h:arr.toList=P++(x++S)){a b:Nat}(hb:b<=x.length):(arr.extract (P.length+a) (P.length+b)).toList=(x.take b).drop a:=by
 rw[Array.toList_extract,List.extract_eq_take_drop,h,<-List.drop_drop,List.drop_left,Nat.add_sub_add_left,<-List.drop_take,List.take_append_of_le_length hb]
theorem kP {all:List Keyed}{st:SortSt}{r1 r2:RunL}{x y rest:List Keyed}{p p' i:Nat}{Q:Bool->SortSt->Shared->Prop}{s:Shared}(L:LtOk M A E G U rk κ) (ua:∀x∈all,U x) (R:Runs rk κ all st (r1++(x,p)::(y,p')::r2) rest) (hi:i=r1.length) (g:G s)
  (q:∀z st' s',z.Perm (x++y)->Runs rk κ all st' (r1++(z,p)::r2) rest->G s'->Q true st' s'):kasC M A E (mergeAt' i) Q st s:=by
 subst hi
 obtain⟨p1,p2⟩:=bV R.pend
 have ea:(arrOf st).toList=flat r1++(x++(y++(flat r2++rest))):=by
  rw[R.arr,yU,List.append_assoc]
  show flat r1++((x++(y++flat r2))++rest)=_
  rw[List.append_assoc,List.append_assoc]
 have eb:(arrOf st).toList=(flat r1++x)++(y++(flat r2++rest)):=by rw[ea,List.append_assoc]
 have lp:(flat r1++x).length=(flat r1).length+x.length:=List.length_append
 obtain⟨nx,sx⟩:=R.run (x,p) (List.mem_append_right _ (List.mem_cons_self ..))
 obtain⟨ny,sy⟩:=R.run (y,p') (List.mem_append_right _ (List.mem_cons_of_mem _ (List.mem_cons_self ..)))
 have lx:0<x.length:=List.length_pos_iff.mpr nx
 have ly:0<y.length:=List.length_pos_iff.mpr ny
 have uall:∀v∈(arrOf st).toList,U v:=fun v hv=>ua v (R.perm.mem_iff.mp (by rw[<-R.arr];exact hv))
 have ux:∀v∈x,U v:=fun v hv=>uall v (by rw[ea];exact List.mem_append_right _ (List.mem_append_left _ hv))
 have uy:∀v∈y,U v:=fun v hv=>uall v (by rw[eb];exact List.mem_append_right _ (List.mem_append_left _ hv))
 have e0:=List.getElem?_eq_getElem ly
 have hx:x.length-1<x.length:=by bv_omega
 have e2:=List.getElem?_eq_getElem hx
 have g0:(arrOf st).toList[(flat r1).length+x.length]?=some y[0]:=by
  have:=getM (P:=flat r1++x) (S:=flat r2++rest) ly
  rw[<-eb,lp,Nat.add_zero] at this
  rw[this,e0]
 refine kasC_bind (kasC_get ?_)
 dsimp only
 rw[p1,p2]
 dsimp only
 refine kasC_bind (xT7 ?_)
 refine kasC_bind (zB g0 (kasC_bind (galR L R.kind (uy _ (List.getElem_mem ly)) (pieceM ea sx ux) lx g fun k s2 k1 k2 k3 g2 => ?_)))
 dsimp only
 have k2':∀w∈x.take k,rk w<=rk y[0]:=fun w hw=>by
  obtain⟨n,n1,n2⟩:=qM (base:=0) hw
  rw[Nat.zero_add] at n2
  refine k2 n w n1 ?_
  rw[ea,getM (by bv_omega)]
  exact n2
 have k3':∀w∈x.drop k,rk y[0]<rk w:=fun w hw=>by
  obtain⟨n,n1,n2⟩:=uK hw
  refine k3 (k+n) w (by bv_omega) n1 ?_
  rw[ea,getM n1]
  exact n2
 refine yA (fun c => ?_) (fun c => ?_)
 ·have kx:x.take k=x:=List.take_of_length_le (by bv_omega)
  rw[kx] at k2'
  exact kasC_pure (q (x++y) _ s2 (List.Perm.refl _) (R.put (List.Perm.refl _) (both sx sy fun w hw v hv=>Nat.le_trans (k2' w hw) (dF sy e0 v hv)) rfl rfl (by rw[List.append_assoc];exact ea) rfl) g2)
 have g1:(arrOf st).toList[(flat r1).length+k+(x.length-k)-1]?=some x[x.length-1]:=by
  rw[show (flat r1).length+k+(x.length-k)-1=(flat r1).length+(x.length-1) by bv_omega,ea,getM hx,e2]
 have pc:Piece U rk (arrOf st) ((flat r1).length+x.length) y.length:=by
  rw[<-lp]
  exact pieceM eb sy uy
 refine kasC_bind (zB g1 (kasC_bind (galL L R.kind (ux _ (List.getElem_mem hx)) pc (by bv_omega) g2 fun n2 s3 m1 m2 m3 g3 => ?_)))
 dsimp only
 have gy:∀i,i<y.length->(arrOf st).toList[(flat r1).length+x.length+i]?=y[i]?:=fun i hi=>by
  rw[<-lp,eb,getM hi]
 have m2':∀w∈y.take n2,rk w<rk x[x.length-1]:=fun w hw=>by
  obtain⟨n,a1,a2⟩:=qM (base:=0) hw
  rw[Nat.zero_add] at a2
  exact m2 n w a1 (by rw[gy n (by bv_omega)];exact a2)
 have m3':∀w∈y.drop n2,rk x[x.length-1]<=rk w:=fun w hw=>by
  obtain⟨n,a1,a2⟩:=uK hw
  exact m3 (n2+n) w (by bv_omega) a1 (by rw[gy _ a1];exact a2)
 refine yA (fun c => ?_) (fun c2 => ?_)
 ·subst c
  exact kasC_pure (q (x++y) _ s3 (List.Perm.refl _) (R.put (List.Perm.refl _) (both sx sy fun w hw v hv=>Nat.le_trans (zJ5 sx e2 w hw) (m3' v hv)) rfl rfl (by rw[List.append_assoc];exact ea) rfl) g3)
 have hX:((arrOf st).extract ((flat r1).length+k) ((flat r1).length+x.length)).toList=x.drop k:=by
  rw[extM ea (Nat.le_refl _),List.take_length]
 have hY:((arrOf st).extract ((flat r1).length+x.length) ((flat r1).length+x.length+n2)).toList=y.take n2:=by
  have:=extM eb (a:=0) (b:=n2) m1
  rw[lp,Nat.add_zero,List.drop_zero] at this
  exact this
 generalize hXe:(arrOf st).extract ((flat r1).length+k) ((flat r1).length+x.length)=X at hX ⊢
 generalize hYe:(arrOf st).extract ((flat r1).length+x.length) ((flat r1).length+x.length+n2)=Y at hY ⊢
 have lX:X.size=x.length-k:=by rw[<-Array.length_toList,hX,List.length_drop]
 have lY:Y.size=n2:=by rw[<-Array.length_toList,hY,List.length_take];bv_omega
 have sX:Srt rk X.toList:=by rw[hX];exact vK sx k
 have sY:Srt rk Y.toList:=by rw[hY];exact xG sy n2
 have uX:∀v∈X.toList,U v:=fun v hv=>ux v (by rw[hX] at hv;exact List.mem_of_mem_drop hv)
 have uY:∀v∈Y.toList,U v:=fun v hv=>uy v (by rw[hY] at hv;exact List.mem_of_mem_take hv)
 have hlow:∀u∈Y.toList.take 1,∀v∈X.toList,rk u<=rk v:=fun u hu v hv=>by
  rw[hX] at hv
  rw[hY,List.take_take,Nat.min_eq_left (by bv_omega)] at hu
  obtain⟨n,a1,a2⟩:=qM (base:=0) hu
  rw[show 0+n=0 by bv_omega,e0] at a2
  cases a2
  exact Nat.le_of_lt (k3' v hv)
 have hlast:∀v,X.toList[X.size-1]?=some v->∀u∈Y.toList,rk u<=rk v:=fun v hv u hu=>by
  rw[hX,lX,List.getElem?_drop,show k+(x.length-k-1)=x.length-1 by bv_omega,e2] at hv
  cases hv
  rw[hY] at hu
  exact Nat.le_of_lt (m2' u hu)
 have hf:(failedOf st).isNone=true:=by rw[R.fail];rfl
 have fin:∀(r:Array Keyed) (F:Array Keyed->Keyed×Nat->Array Keyed),(∀a p j,F a (p,j)=a.setIfInBounds ((flat r1).length+k+j) p)->Fin rk X.toList Y.toList r->(x.take k++(r.toList++y.drop n2)).Perm (x++y)/\Srt rk (x.take k++(r.toList++y.drop n2))/\((r.toList.zipIdx).foldl F (arrOf st)).toList=flat r1++((x.take k++(r.toList++y.drop n2))++(flat r2++rest)):=fun r F hF f=>by
  rw[hX,hY] at f
  obtain⟨z1,z2⟩:=zed sx sy e0 e2 k2' m3' f
  refine⟨z1,z2,?_⟩
  have:=over hF r.toList 0 (arrOf st) (flat r1++x.take k) (x.drop k++y.take n2) (y.drop n2++(flat r2++rest)) (by
   rw[ea]
   simp only[List.append_assoc]
   rw[<-List.append_assoc (x.take k) (x.drop k),List.take_append_drop,<-List.append_assoc (y.take n2) (y.drop n2),List.take_append_drop]) (by rw[List.length_append,List.length_take];bv_omega) (by rw[<-f.perm.length_eq])
  rw[this]
  simp only[List.append_assoc]
 refine zD (fun cl => ?_) (fun cl => ?_)
 ·refine kasC_bind (zH7 L R.kind sX sY uX uY (by bv_omega) (by bv_omega) (fun u hu v hv=>hlow u ?_ v hv) (fun u hu v hv => ?_) g3 fun r n s4 f g4 => ?_)
  ·obtain⟨h1,rfl⟩:=List.getElem?_eq_some_iff.mp hu
   exact List.mem_take_iff_getElem.mpr ⟨0,by bv_omega,rfl⟩
  ·obtain⟨n,a1,a2⟩:=uK hv
   rw[show X.size-1+n=X.size-1 by rw[Array.length_toList] at a1;bv_omega] at a2
   exact hlast v a2 u hu
  ·obtain⟨z1,z2,z3⟩:=fin r (fun a x=>a.setIfInBounds ((flat r1).length+k+x.2) x.1) (fun _ _ _=>rfl) f
   refine kasC_bind (kasC_modify (kasC_bind (kasC_get (kasC_pure ?_))))
   show Q (failedOf st).isNone _ _
   rw[hf]
   exact q _ _ s4 z1 (R.put z1 z2 rfl rfl z3 rfl) g4
 ·refine kasC_bind (zF1 L R.kind sX sY uX uY (by bv_omega) (by bv_omega) hlow hlast g3 fun r n s4 f g4 => ?_)
  obtain⟨z1,z2,z3⟩:=fin r (fun a x=>a.setIfInBounds ((flat r1).length+k+x.2) x.1) (fun _ _ _=>rfl) f
  refine kasC_bind (kasC_modify (kasC_bind (kasC_get (kasC_pure ?_))))
  show Q (failedOf st).isNone _ _
  rw[hf]
  exact q _ _ s4 z1 (R.put z1 z2 rfl rfl z3 rfl) g4
end
end TS
namespace TS
open PySem PySem.W PyProof.Rows
section
variable {M:Model}{A:Around}{E:Value->Shared->Prop}{G:Shared->Prop}{U:Keyed->Prop}{rk:Keyed->Nat}{κ:SortKind}{all:List Keyed}
theorem yQ3 {a₀ arr:Array Keyed}{hi:Nat}{P rest:List Keyed}(r:Reg a₀ arr P.length hi) (h:a₀.toList=P++rest):∃rest',arr.toList=P++rest'/\rest'.Perm rest:=by
 have e:arr.toList.take P.length=P:=by
  refine List.ext_getElem? fun k => ?_
  by_cases c:k<P.length
  ·rw[List.getElem?_take_of_lt c,Array.getElem?_toList,r.out k (.inl c),<-Array.getElem?_toList,h,List.getElem?_append_left c]
  ·rw[List.getElem?_eq_none (by rw[List.length_take];bv_omega),List.getElem?_eq_none (by bv_omega)]
 refine⟨arr.toList.drop P.length,?_,?_⟩
 ·have:=List.take_append_drop P.length arr.toList
  rw[e] at this
  exact this.symm
 ·have p:=Array.perm_iff_toList_perm.mp r.perm
  rw[h,<-List.take_append_drop P.length arr.toList,e] at p
  exact (List.perm_append_left_iff P).mp p
theorem yX3 {arr:Array Keyed}{P rest:List Keyed}{n:Nat}(h:arr.toList=P++rest) (u:Up rk arr P.length (P.length+n)):Srt rk (rest.take n):=by
 refine List.pairwise_iff_getElem.mpr fun i j hi hj hij => ?_
 rw[List.length_take] at hi hj
 rw[List.getElem_take,List.getElem_take]
 have hi':i<rest.length:=by bv_omega
 have hj':j<rest.length:=by bv_omega
 have v:∀k (hk:k<rest.length),V rk arr (P.length+k)=rk rest[k]:=fun k hk=>by
  unfold V
  rw[<-Array.getElem?_toList,h,List.getElem?_append_right (by bv_omega),Nat.add_sub_cancel_left,List.getElem?_eq_getElem hk]
  rfl
 have:=u (P.length+i) (P.length+j) (by bv_omega) (by bv_omega) (by bv_omega)
 rw[v i hi',v j hj'] at this
 exact this
theorem Runs.rest {st:SortSt}{rs:RunL}{rest:List Keyed}(R:Runs rk κ all st rs rest){arr':Array Keyed}{hi:Nat}(g:Reg (arrOf st) arr' (flat rs).length hi):∃rest',Runs rk κ all (setArr st arr') rs rest'/\rest'.length=rest.length:=by
 obtain⟨rest',e,p⟩:=yQ3 g R.arr
 exact⟨rest',⟨R.kind,R.fail,e,(List.Perm.append_left _ p).trans R.perm,R.pend,R.run⟩,p.length_eq⟩
theorem jD:∀{rs:RunL},(∀r∈rs,r.1 ≠ []/\Srt rk r.1)->rs.length<=(flat rs).length
 | [],_=>Nat.le_refl _
 | r::t,h=>by
  have h1:=jD (rs:=t) fun x hx=>h x (List.mem_cons_of_mem _ hx)
  have h2:0<r.1.length:=List.length_pos_iff.mpr (h r (List.mem_cons_self ..)).1
  show t.length+1<=(r.1++flat t).length
  rw[List.length_append]
  bv_omega
theorem Runs.psize {st:SortSt}{rs:RunL}{rest:List Keyed}(R:Runs rk κ all st rs rest):(pendingOf st).size=rs.length:=by
 rw[<-Array.length_toList,R.pend,uM]
theorem Runs.size {st:SortSt}{rs:RunL}{rest:List Keyed}(R:Runs rk κ all st rs rest):(arrOf st).size=all.length/\(flat rs).length+rest.length=all.length:=by
 rw[<-Array.length_toList,R.arr,R.perm.length_eq]
 refine⟨rfl,?_⟩
 rw[<-R.perm.length_eq,List.length_append]
theorem two {rs:RunL}{i:Nat}(h:i+1<rs.length):∃r1 x p y p' r2,rs=r1++(x,p)::(y,p')::r2/\i=r1.length:=by
 refine⟨rs.take i,(rs[i]'(by bv_omega)).1,(rs[i]'(by bv_omega)).2,(rs[i+1]'h).1,(rs[i+1]'h).2,rs.drop (i+2),?_,by rw[List.length_take];bv_omega⟩
 have h1:=List.take_append_drop i rs
 rw[List.drop_eq_getElem_cons (by bv_omega),List.drop_eq_getElem_cons h] at h1
 exact h1.symm
theorem fY {rs:RunL}(h:rs ≠ []):∃r1 x p,rs=r1 ++ [(x,p)]:=⟨rs.dropLast,(rs.getLast h).1,(rs.getLast h).2,(List.dropLast_concat_getLast h).symm⟩
theorem Runs.push {st:SortSt}{rs:RunL}{rest:List Keyed}{n lo:Nat}(R:Runs rk κ all st rs rest) (s:Srt rk (rest.take n)) (h1:1<=n) (hn:n<=rest.length) (e:lo=(flat rs).length):Runs rk κ all (SortSt.mk' (kindOf st) (arrOf st) ((pendingOf st).push (lo,n,0)) (gallopOf st) (failedOf st)) (rs ++ [(rest.take n,0)]) (rest.drop n):=by
 have f:flat (rs ++ [(rest.take n,0)])++rest.drop n=flat rs++rest:=by
  rw[yU,List.append_assoc]
  show flat rs++((rest.take n ++ [])++rest.drop n)=_
  rw[List.append_nil,List.take_append_drop]
 refine⟨R.kind,R.fail,R.arr.trans f.symm,by rw[f];exact R.perm,?_,?_⟩
 ·show ((pendingOf st).push (lo,n,0)).toList=_
  rw[Array.toList_push,R.pend,yN,e,Nat.zero_add]
  show _=_ ++ [(_,(rest.take n).length,0)]
  rw[List.length_take,Nat.min_eq_left hn]
 ·intro r hr
  rcases List.mem_append.mp hr with h | h
  ·exact R.run r h
  ·rw[List.mem_singleton.mp h]
   exact⟨fun z=>by
    have:=congrArg List.length z
    rw[List.length_take,Nat.min_eq_left hn] at this
    exact absurd this (by show ¬n=0;bv_omega),s⟩
theorem dS {α:Type}{f:α->α}{a:α}:∀(l:List α),(l ++ [a]).modify l.length f=l ++ [f a]
 | []=>rfl
 | x::l=>by
  show List.modify (x::(l ++ [a])) (l.length+1) f=x::(l ++ [f a])
  rw[List.modify_succ_cons,dS l]
theorem Runs.power {st:SortSt}{r1:RunL}{x:List Keyed}{p pw:Nat}{rest:List Keyed}{f:Nat×Nat×Nat->Nat×Nat×Nat}(hf:∀a b c,f (a,b,c)=(a,b,pw)) (R:Runs rk κ all st (r1 ++ [(x,p)]) rest):Runs rk κ all (SortSt.mk' (kindOf st) (arrOf st) ((pendingOf st).modify ((pendingOf st).size-1) f) (gallopOf st) (failedOf st)) (r1 ++ [(x,pw)]) rest:=by
 have e:flat (r1 ++ [(x,pw)])=flat (r1 ++ [(x,p)]):=by rw[yU,yU];rfl
 refine⟨R.kind,R.fail,by rw[e];exact R.arr,by rw[e];exact R.perm,?_,?_⟩
 ·show ((pendingOf st).modify _ f).toList=_
  rw[Array.toList_modify,R.psize,R.pend,yN,yN,List.length_append]
  show List.modify _ (r1.length+1-1) f=_
  have l:(pendL 0 r1).length=r1.length:=uM 0 r1
  rw[Nat.add_sub_cancel,<-l]
  show List.modify (_ ++ [(_,x.length,p)]) _ f=_
  rw[dS,hf]
  rfl
 ·intro r hr
  rcases List.mem_append.mp hr with h | h
  ·exact R.run r (List.mem_append_left _ h)
  ·rw[List.mem_singleton.mp h]
   exact R.run (x,p) (List.mem_append_right _ (List.mem_singleton.mpr rfl))
theorem Runs.fin {st:SortSt}{rs:RunL}(R:Runs rk κ all st rs []) (h:rs.length<=1):(arrOf st).toList.Perm all/\Srt rk (arrOf st).toList:=by
 refine⟨by rw[R.arr];exact R.perm,?_⟩
 rw[R.arr,List.append_nil]
 match rs,h,R with
 | [],_,_=>exact List.Pairwise.nil
 | [r],_,R =>
  show Srt rk (r.1 ++ [])
  rw[List.append_nil]
  exact (R.run r (List.mem_singleton.mpr rfl)).2
end
end TS
namespace TS
open PySem PySem.W PyProof.Rows
section
variable {M:Model}{A:Around}{E:Value->Shared->Prop}{G:Shared->Prop}{U:Keyed->Prop}{rk:Keyed->Nat}{κ:SortKind}{all:List Keyed}
theorem Runs.back0 {st:SortSt}{rest:List Keyed}(R:Runs rk κ all st [] rest):(pendingOf st).back?=none:=by
 rw[<-Array.getLast?_toList,R.pend];rfl
theorem Runs.back1 {st:SortSt}{r1:RunL}{x:List Keyed}{p:Nat}{rest:List Keyed}(R:Runs rk κ all st (r1 ++ [(x,p)]) rest):(pendingOf st).back?=some ((flat r1).length,x.length,p):=by
 rw[<-Array.getLast?_toList,R.pend,yN,Nat.zero_add]
 show (_ ++ [_]).getLast?=_
 rw[List.getLast?_concat]
theorem zU3 {r1 r2:RunL}{x y z:List Keyed}{p p':Nat}(h:z.Perm (x++y)):(flat (r1++(z,p)::r2)).length=(flat (r1++(x,p)::(y,p')::r2)).length:=by
 rw[yU,yU,List.length_append,List.length_append]
 show _+(z++flat r2).length=_+(x++(y++flat r2)).length
 rw[List.length_append,List.length_append,List.length_append,h.length_eq,List.length_append,Nat.add_assoc]
theorem xR {rs:RunL}{x:List Keyed}{p:Nat}:(flat (rs ++ [(x,p)])).length=(flat rs).length+x.length:=by
 rw[yU,List.length_append]
 show _+(x ++ []).length=_
 rw[List.append_nil]
theorem mergeAny {st:SortSt}{rs:RunL}{rest:List Keyed}{i:Nat}{Q:Bool->SortSt->Shared->Prop}{s:Shared}(L:LtOk M A E G U rk κ) (ua:∀x∈all,U x) (R:Runs rk κ all st rs rest) (hi:i+1<rs.length) (g:G s)
  (q:∀rs' st' s',rs'.length+1=rs.length->Runs rk κ all st' rs' rest->G s'->Q true st' s'):kasC M A E (mergeAt' i) Q st s:=by
 obtain⟨w1,x1,p1,y1,p2,w2,rfl,e⟩:=two hi
 refine kP L ua R e g fun z st' s' _ R' g'=>q _ st' s' ?_ R' g'
 rw[List.length_append,List.length_append]
 rfl
theorem which {n:Nat}(h:2<=n) (f:Nat->Bool) (o:Option Nat):(if Option.any f (if n-2 > 0 then o else none)=true then n-2-1 else n-2)+1<n:=by
 by_cases c:n-2 > 0
 ·rw[if_pos c]
  by_cases d:Option.any f o=true
  ·rw[if_pos d];bv_omega
  ·rw[if_neg d];bv_omega
 ·rw[if_neg c,if_neg (by simp)]
  bv_omega
theorem zO6 {st:SortSt}{Q:Unit->SortSt->Shared->Prop}{s:Shared}(L:LtOk M A E G U rk κ) (ua:∀x∈(arrOf st).toList,U x) (hk:kindOf st=κ) (hf:failedOf st=none) (hp:pendingOf st=#[]) (g:G s)
  (q:∀st' s',(arrOf st').toList.Perm (arrOf st).toList->Srt rk (arrOf st').toList->failedOf st'=none->G s'->Q () st' s'):kasC M A E sortRuns' Q st s:=by
 generalize ha:(arrOf st).toList=all at ua q
 have R0:Runs rk κ all st [] all:=⟨hk,hf,ha,List.Perm.refl _,by rw[hp];rfl,fun _ z=>nomatch z⟩
 have sz:(arrOf st).size=all.length:=by rw[<-ha,Array.length_toList]
 refine kasC_bind (kasC_get ?_)
 dsimp only
 generalize (sortPriv% PySem.Builtin.minRun) (arrOf st).size (arrOf st).size 0=mr
 generalize hS:(arrOf st).size=S at sz ⊢
 refine kasC_bind (kmono (loopR (Q:=fun b st' s'=>∃lo rs,b=(none,lo)/\Runs rk κ all st' rs []/\G s')
  (fun m b st' s'=>∃lo rs rest,b=(none,lo)/\Runs rk κ all st' rs rest/\G s'/\lo=(flat rs).length/\m=rest.length) (m:=all.length) (by bv_omega) ⟨0,[],all,rfl,R0,g,rfl,rfl⟩ ?_ ?_) ?_)
 ·rintro b st' s' ⟨lo,rs,rest,rfl,R,g',e,m0⟩
  rw[List.eq_nil_of_length_eq_zero m0.symm] at R
  exact⟨lo,rs,rfl,R,g'⟩
 ·rintro _ m b st' s' ⟨lo,rs,rest,rfl,R,g',e,m0⟩
  have z1:=R.size
  dsimp only
  refine zD (fun c=>kasC_pure ?_) (fun c => ?_)
  ·have:rest=[]:=List.eq_nil_of_length_eq_zero (by bv_omega)
   rw[this] at R
   exact⟨lo,rs,rfl,R,g'⟩
  subst e
  have u1:∀x∈(arrOf st').toList,U x:=fun x hx=>ua x (R.perm.mem_iff.mp (by rw[<-R.arr];exact hx))
  refine kasC_bind (zO4 L R.kind u1 (show 1<=S-(flat rs).length by bv_omega) (show (flat rs).length+(S-(flat rs).length)<=_ by bv_omega) g' fun n arr' s2 r1 n1 n2 up g2 => ?_)
  obtain⟨restX,RX,lX⟩:=R.rest r1
  have SX:=yX3 RX.arr up
  have nX:n<=restX.length:=by bv_omega
  dsimp only
  refine zD (fun cn => ?_) (fun cn => ?_)
  ·refine kasC_bind (kasC_lift (wpAny_rule ?_))
   have u2:∀x∈(arrOf (setArr st' arr')).toList,U x:=fun x hx=>ua x (RX.perm.mem_iff.mp (by rw[<-RX.arr];exact hx))
   refine kasC_bind (zY5 (st:=setArr st' arr') L RX.kind u2 (show 1<=min (S-(flat rs).length) mr by bv_omega) (show n<=min (S-(flat rs).length) mr by bv_omega) (show (flat rs).length+min (S-(flat rs).length) mr<=(arrOf (setArr st' arr')).size by have:=RX.size;bv_omega) g2 up fun arr2 s3 r2 up2 g3 => ?_)
   obtain⟨restX,RX,lX2⟩:=RX.rest r2
   have SX:=yX3 RX.arr up2
   generalize hnn:min (S-(flat rs).length) mr=nn at SX ⊢
   refine zD (fun c=>absurd c (by decide)) fun _ => ?_
   refine (kasC_bind (kasC_get ?_))
   dsimp only
   by_cases ce:rs=[]
   ·subst ce
    rw[R.back0]
    refine kasC_bind (kasC_modify (kasC_pure ⟨_,?_,_,_,_,rfl,RX.push (n:=nn) SX (by bv_omega) (by bv_omega) rfl,g3,?_,rfl⟩))
    ·rw[List.length_drop];bv_omega
    ·rw[xR,List.length_take,Nat.min_eq_left (by bv_omega)]
   obtain⟨q1,x,p,rfl⟩:=fY ce
   rw[R.back1]
   try dsimp only
   refine kasC_bind (kmono (loopR (Q:=fun b st2 s2=>∃rs2,b=(none,())/\Runs rk κ all st2 rs2 restX/\rs2 ≠ []/\(flat rs2).length=(flat (q1 ++ [(x,p)])).length/\G s2)
    (fun m b st2 s2=>∃rs2,b=(none,())/\Runs rk κ all st2 rs2 restX/\rs2 ≠ []/\(flat rs2).length=(flat (q1 ++ [(x,p)])).length/\G s2/\m=rs2.length) (m:=(q1 ++ [(x,p)]).length) ?_ ⟨_,rfl,RX,ce,rfl,g3,rfl⟩ ?_ ?_) ?_)
   ·have z2:=jD RX.run
    have z3:=RX.size
    show _<=S-0
    bv_omega
   ·rintro b st2 s2 ⟨rs2,rfl,R2,ne2,e2,g2,m2⟩
    exact⟨rs2,rfl,R2,ne2,e2,g2⟩
   ·rintro _ m b st2 s2 ⟨rs2,rfl,R2,ne2,e2,g2,m2⟩
    have hps:=R2.psize
    refine kasC_bind (kasC_get ?_)
    try dsimp only
    by_cases hs:1<rs2.length
    ·obtain⟨w1,x1,p1,y1,p2,w2,rfl,hi⟩:=two (rs:=rs2) (i:=rs2.length-2) (by bv_omega)
     have pa:=(bV R2.pend).1
     rw[<-hi,<-hps] at pa
     have hm:(if (pendingOf st2).size > 1 then (pendingOf st2)[(pendingOf st2).size-2]? else none)=some ((flat w1).length,x1.length,p1):=by
      rw[if_pos (by bv_omega)]
      exact pa
     rw[hm]
     dsimp only
     refine zD (fun _=>kasC_pure ⟨_,rfl,R2,ne2,e2,g2⟩) fun _ => ?_
     refine kasC_bind (kP L ua R2 (by rw[<-hi,<-hps]) g2 fun z st3 s3 pz R3 g3=>zD (fun c=>absurd c (by decide)) fun _=>kasC_pure ⟨_,?_,_,rfl,R3,?_,?_,g3,rfl⟩)
     ·rw[m2,List.length_append,List.length_append]
      show w1.length+(w2.length+1)+1<=w1.length+(w2.length+1+1)
      bv_omega
     ·exact fun z=>by simp at z
     ·rw[zU3 pz,e2]
    ·have hm:(if (pendingOf st2).size > 1 then (pendingOf st2)[(pendingOf st2).size-2]? else none)=none:=if_neg (by bv_omega)
     rw[hm]
     exact kasC_pure ⟨_,rfl,R2,ne2,e2,g2⟩
   ·rintro b st2 s2 ⟨rs2,rfl,R2,ne2,e2,g2⟩
    obtain⟨w1,x1,p1,rfl⟩:=fY ne2
    have h9:∀pw,(flat (w1 ++ [(x1,pw)])).length=(flat (q1 ++ [(x,p)])).length:=fun pw=>by rw[<-e2,xR,xR]
    refine kasC_bind (kasC_modify (kasC_bind (kasC_modify (kasC_pure ⟨_,?_,_,_,_,rfl,(R2.power (pw:=_) (fun _ _ _=>rfl)).push (n:=nn) SX (by bv_omega) (by bv_omega) ?_,g2,?_,rfl⟩))))
    ·rw[List.length_drop];bv_omega
    ·exact (h9 _).symm
    ·refine Eq.trans ?_ (xR (rs:=_ ++ [_])).symm
     rw[h9,List.length_take,Nat.min_eq_left (by bv_omega)]
  ·refine (kasC_bind (kasC_get ?_))
   dsimp only
   by_cases ce:rs=[]
   ·subst ce
    rw[R.back0]
    refine kasC_bind (kasC_modify (kasC_pure ⟨_,?_,_,_,_,rfl,RX.push (n:=n) SX (by bv_omega) (by bv_omega) rfl,g2,?_,rfl⟩))
    ·rw[List.length_drop];bv_omega
    ·rw[xR,List.length_take,Nat.min_eq_left (by bv_omega)]
   obtain⟨q1,x,p,rfl⟩:=fY ce
   rw[R.back1]
   try dsimp only
   refine kasC_bind (kmono (loopR (Q:=fun b st2 s2=>∃rs2,b=(none,())/\Runs rk κ all st2 rs2 restX/\rs2 ≠ []/\(flat rs2).length=(flat (q1 ++ [(x,p)])).length/\G s2)
    (fun m b st2 s2=>∃rs2,b=(none,())/\Runs rk κ all st2 rs2 restX/\rs2 ≠ []/\(flat rs2).length=(flat (q1 ++ [(x,p)])).length/\G s2/\m=rs2.length) (m:=(q1 ++ [(x,p)]).length) ?_ ⟨_,rfl,RX,ce,rfl,g2,rfl⟩ ?_ ?_) ?_)
   ·have z2:=jD RX.run
    have z3:=RX.size
    show _<=S-0
    bv_omega
   ·rintro b st2 s2 ⟨rs2,rfl,R2,ne2,e2,g2,m2⟩
    exact⟨rs2,rfl,R2,ne2,e2,g2⟩
   ·rintro _ m b st2 s2 ⟨rs2,rfl,R2,ne2,e2,g2,m2⟩
    have hps:=R2.psize
    refine kasC_bind (kasC_get ?_)
    try dsimp only
    by_cases hs:1<rs2.length
    ·obtain⟨w1,x1,p1,y1,p2,w2,rfl,hi⟩:=two (rs:=rs2) (i:=rs2.length-2) (by bv_omega)
     have pa:=(bV R2.pend).1
     rw[<-hi,<-hps] at pa
     have hm:(if (pendingOf st2).size > 1 then (pendingOf st2)[(pendingOf st2).size-2]? else none)=some ((flat w1).length,x1.length,p1):=by
      rw[if_pos (by bv_omega)]
      exact pa
     rw[hm]
     dsimp only
     refine zD (fun _=>kasC_pure ⟨_,rfl,R2,ne2,e2,g2⟩) fun _ => ?_
     refine kasC_bind (kP L ua R2 (by rw[<-hi,<-hps]) g2 fun z st3 s3 pz R3 g3=>zD (fun c=>absurd c (by decide)) fun _=>kasC_pure ⟨_,?_,_,rfl,R3,?_,?_,g3,rfl⟩)
     ·rw[m2,List.length_append,List.length_append]
      show w1.length+(w2.length+1)+1<=w1.length+(w2.length+1+1)
      bv_omega
     ·exact fun z=>by simp at z
     ·rw[zU3 pz,e2]
    ·have hm:(if (pendingOf st2).size > 1 then (pendingOf st2)[(pendingOf st2).size-2]? else none)=none:=if_neg (by bv_omega)
     rw[hm]
     exact kasC_pure ⟨_,rfl,R2,ne2,e2,g2⟩
   ·rintro b st2 s2 ⟨rs2,rfl,R2,ne2,e2,g2⟩
    obtain⟨w1,x1,p1,rfl⟩:=fY ne2
    have h9:∀pw,(flat (w1 ++ [(x1,pw)])).length=(flat (q1 ++ [(x,p)])).length:=fun pw=>by rw[<-e2,xR,xR]
    refine kasC_bind (kasC_modify (kasC_bind (kasC_modify (kasC_pure ⟨_,?_,_,_,_,rfl,(R2.power (pw:=_) (fun _ _ _=>rfl)).push (n:=n) SX (by bv_omega) (by bv_omega) ?_,g2,?_,rfl⟩))))
    ·rw[List.length_drop];bv_omega
    ·exact (h9 _).symm
    ·refine Eq.trans ?_ (xR (rs:=_ ++ [_])).symm
     rw[h9,List.length_take,Nat.min_eq_left (by bv_omega)]
 ·rintro b st' s' ⟨lo,rs,rfl,R,g'⟩
  dsimp only
  refine kasC_bind (kmono (loopR (Q:=fun b st2 s2=>∃rs2,b=(none,())/\Runs rk κ all st2 rs2 []/\rs2.length<=1/\G s2)
   (fun m b st2 s2=>∃rs2,b=(none,())/\Runs rk κ all st2 rs2 []/\G s2/\m=rs2.length) (m:=rs.length) ?_ ⟨rs,rfl,R,g',rfl⟩ ?_ ?_) ?_)
  ·have:=jD R.run
   have:=R.size
   show rs.length<=S-0
   bv_omega
  ·rintro b st2 s2 ⟨rs2,rfl,R2,g2,m2⟩
   exact⟨rs2,rfl,R2,by bv_omega,g2⟩
  ·rintro _ m b st2 s2 ⟨rs2,rfl,R2,g2,m2⟩
   have hps:=R2.psize
   refine kasC_bind (kasC_get ?_)
   try dsimp only
   refine zD (fun c=>kasC_pure ?_) (fun c => ?_)
   ·have c:(pendingOf st2).size<=1:=c
    exact⟨rs2,rfl,R2,by bv_omega,g2⟩
   have c:¬(pendingOf st2).size<=1:=c
   refine kasC_bind (mergeAny L ua R2 (Nat.lt_of_lt_of_eq (which (by bv_omega) _ _) hps) g2 fun rs3 st3 s3 l3 R3 g3=>zD (fun c=>absurd c (by decide)) fun _=>kasC_pure ⟨_,?_,rs3,rfl,R3,g3,rfl⟩)
   bv_omega
  ·rintro b st2 s2 ⟨rs2,rfl,R2,l2,g2⟩
   obtain⟨f1,f2⟩:=R2.fin l2
   exact kasC_pure (q st2 s2 f1 f2 R2.fail g2)
end
end TS
namespace TS
open PySem PySem.W PyProof.Rows
def lexb:List Int->List Int->Bool
 | [],[]=>false
 | [],_::_=>true
 | _::_,[]=>false
 | a::s,b::t=>if a=b then lexb s t else decide (a<b)
theorem kR:∀s,lexb s s=false
 | []=>rfl
 | a::s=>by rw[lexb,if_pos rfl];exact kR s
theorem vX:∀{r s t:List Int},lexb r s=true->lexb s t=true->lexb r t=true
 | [],[],_,h,_=>nomatch h
 | [],_::_,[],_,h=>nomatch h
 | [],_::_,_::_,_,_=>rfl
 | _::_,[],_,h,_=>nomatch h
 | _::_,_::_,[],_,h=>nomatch h
 | a::r,b::s,c::t,h1,h2=>by
  rw[lexb] at h1 h2 ⊢
  by_cases e1:a=b
  ·subst e1
   rw[if_pos rfl] at h1
   by_cases e2:a=c
   ·subst e2
    rw[if_pos rfl] at h2 ⊢
    exact vX h1 h2
   ·rw[if_neg e2] at h2 ⊢
    exact h2
  ·rw[if_neg e1] at h1
   have h1:=of_decide_eq_true h1
   by_cases e2:b=c
   ·subst e2
    rw[if_neg e1]
    exact decide_eq_true h1
   ·rw[if_neg e2] at h2
    have h2:=of_decide_eq_true h2
    rw[if_neg (by bv_omega)]
    exact decide_eq_true (by bv_omega)
theorem kL:∀{s t:List Int},lexb s t=false->lexb t s=false->s=t
 | [],[],_,_=>rfl
 | [],_::_,h,_=>nomatch h
 | _::_,[],_,h=>nomatch h
 | a::s,b::t,h1,h2=>by
  rw[lexb] at h1 h2
  by_cases e:a=b
  ·subst e
   rw[if_pos rfl] at h1 h2
   rw[kL h1 h2]
  ·rw[if_neg e] at h1
   rw[if_neg fun z=>e z.symm] at h2
   have:=of_decide_eq_false h1
   have:=of_decide_eq_false h2
   bv_omega
def rank (rows:List (List Int)) (r:List Int):Nat:=(rows.filter fun x=>lexb x r).length
theorem bK {r t:List Int}(h:lexb t r=false):∀(rows:List (List Int)),rank rows r<=rank rows t:=by
 have sub:∀x,lexb x r=true->lexb x t=true:=fun x hx=>by
  cases c:lexb x t with
  | true=>rfl
  | false =>
   cases d:lexb t x with
   | true=>rw[vX d hx] at h;cases h
   | false =>
    have:=kL c d
    subst this
    rw[h] at hx
    cases hx
 intro rows
 induction rows with
 | nil=>exact Nat.le_refl _
 | cons x rows ih =>
  unfold rank at ih ⊢
  rw[List.filter_cons,List.filter_cons]
  cases c:lexb x r with
  | true=>rw[if_pos rfl,if_pos (sub x c)];exact Nat.succ_le_succ ih
  | false =>
   rw[if_neg Bool.false_ne_true]
   split
   ·exact Nat.le_succ_of_le ih
   ·exact ih
theorem yJ7 {r t:List Int}(h:lexb r t=true):∀{rows:List (List Int)},r∈rows->rank rows r<rank rows t:=by
 have h':lexb t r=false:=by
  cases c:lexb t r with
  | false=>rfl
  | true=>have:=vX h c;rw[kR] at this;cases this
 intro rows hr
 obtain⟨p,q,rfl⟩:=List.append_of_mem hr
 have a:=bK h' p
 have b:=bK h' q
 unfold rank at a b ⊢
 rw[List.filter_append,List.filter_append,List.length_append,List.length_append,List.filter_cons,List.filter_cons,if_pos h,kR,if_neg Bool.false_ne_true]
 show _<_+(_+1)
 bv_omega
theorem zV9 {r t:List Int}{rows:List (List Int)}(hr:r∈rows):decide (rank rows r<rank rows t)=lexb r t:=by
 cases c:lexb r t with
 | true=>exact decide_eq_true (yJ7 c hr)
 | false=>exact decide_eq_false (Nat.not_lt.mpr (bK c rows))
section
variable {prog:Program}{w:World}{A:Around}{E:Value->Shared->Prop}{s:Shared}{Q:Bool->Shared->Prop}
theorem zS2 {fin:Bool}:∀{us vs:List Value}{ns ms:List Int},IntsAre us ns->IntsAre vs ms->fin=decide (ns.length<ms.length)->∀(i:Nat),Q (lexb ns ms) s->KatLex prog w A true fin Q (us.zip vs) i s
 | [],[],_,_,.nil,.nil,hf,i,q=>by rw[hf];exact kat_nil q
 | [],_::_,_,_,.nil,.cons ..,hf,i,q=>by rw[hf];exact kat_nil q
 | _::_,[],_,_,.cons ..,.nil,hf,i,q=>by rw[hf];exact kat_nil q
 | _::us,_::vs,_,_,.cons a t (ns:=ns) hu,.cons b u (ns:=ms) hv,hf,i,q=>by
  refine kat_cons (wpAny_eqBool_int ?_)
  rw[lexb] at q
  by_cases e:a=b
  ·subst e
   rw[if_pos rfl] at q
   rw[beq_self_eq_true]
   refine kat_yes (zS2 hu hv ?_ (i+1) q)
   rw[hf]
   show decide (ns.length+1<ms.length+1)=_
   exact decide_eq_decide.mpr (by bv_omega)
  ·rw[if_neg e] at q
   rw[show (a == b)=false from beq_eq_false_iff_ne.mpr e]
   refine kat_no ?_
   cases c:(true&&i == 0) with
   | true=>exact oneLt_int q
   | false=>exact kat_one _ _ (lt_int q)
end
def rowV (h:Heap):Value->List Int
 | .ref a=>match h.get? a with
  | some o=>match o.data with
   | .seq xs _=>xs.toList.map numOf
   | _=>[]
  | none=>[]
 | _=>[]
structure RowOf (h:Heap) (v:Value) (ns:List Int):Prop where
 ex:∃a o xs n,v=.ref a/\h.get? a=some o/\o.data=.seq xs n/\IntsAre xs.toList ns
theorem RowOf.row {h:Heap}{v:Value}{ns:List Int}(r:RowOf h v ns):rowV h v=ns:=by
 obtain⟨a,o,xs,n,rfl,h1,h2,h3⟩:=r.ex
 unfold rowV
 dsimp only
 rw[h1]
 dsimp only
 rw[h2]
 exact h3.nums
section
variable {prog:Program}{w:World}{A:Around}{E:Value->Shared->Prop}{s:Shared}
theorem yS7 {vs:List Value}(hv:∀v∈vs,∃ns,RowOf s.heap v ns):LtOk (model prog w) A E (fun s'=>s'=s) (fun x=>x.1∈vs) (fun x=>rank (vs.map (rowV s.heap)) (rowV s.heap x.1)) (tuples' true):=by
 intro x y hx hy Q st s' hk g q
 subst g
 obtain⟨ns,rx⟩:=hv _ hx
 obtain⟨ms,ry⟩:=hv _ hy
 have q':=q s' rfl
 rw[zV9 (List.mem_map.mpr ⟨_,hx,rfl⟩),rx.row,ry.row] at q'
 obtain⟨a,o,xs,n,e1,e2,e3,e4⟩:=rx.ex
 obtain⟨b,o',ys,k,f1,f2,f3,f4⟩:=ry.ex
 have len:∀{us:List Value}{ks:List Int},IntsAre us ks->us.length=ks.length:=fun h=>by rw[<-h.nums,List.length_map]
 have told:wpAny (model prog w) A (keyLt' (kindOf st) x.1 y.1) (fun c s2=>Q (some c) st s2) (fun _ _=>False) s':=by
  rw[hk,e1,f1]
  refine kat_lt e2 e3 f2 f3 (zS2 e4 f4 ?_ 0 q')
  rw[<-len e4,<-len f4,Array.length_toList,Array.length_toList]
 refine kasC_bind (kasC_get (kasC_bind (kasC_lift (wpAny_attempt (wpAny_mono told ?_ ?_)))))
 ·exact fun c s2 h=>kasC_pure h
 ·exact fun _ _ h=>nomatch h
theorem yI9 {vs:List Value}{Q:SortSt->Shared->Prop}(hv:∀v∈vs,∃ns,RowOf s.heap v ns)
  (q:∀st',(arrOf st').toList.Perm (vs.zip vs)->((arrOf st').toList.map fun x=>rowV s.heap x.1).Pairwise (fun x y=>lexb y x=false)->failedOf st'=none->Q st' s) :
  wpAny (model prog w) A ((sortRuns').run (SortSt.mk' (tuples' true) (vs.toArray.zip vs.toArray) #[] 7 none)) (fun r s'=>Q r.2 s') E s:=by
 have z:(vs.toArray.zip vs.toArray).toList=vs.zip vs:=pairsOf_toList vs
 refine zO6 (Q:=fun _ st' s'=>Q st' s') (yS7 hv) (fun x hx => ?_) rfl rfl rfl rfl fun st' s' p r f e => ?_
 ·have hx:x∈(vs.toArray.zip vs.toArray).toList:=hx
  rw[z] at hx
  exact (mem_zip_self hx).2
 ·subst e
  have p:(arrOf st').toList.Perm (vs.toArray.zip vs.toArray).toList:=p
  rw[z] at p
  refine q st' p (List.pairwise_map.mpr (r.imp_of_mem fun {x y} hx hy h => ?_)) f
  have mx:x.1∈vs:=(mem_zip_self (p.mem_iff.mp hx)).2
  have my:y.1∈vs:=(mem_zip_self (p.mem_iff.mp hy)).2
  have:=zV9 (r:=rowV s'.heap y.1) (t:=rowV s'.heap x.1) (List.mem_map.mpr ⟨_,my,rfl⟩:_∈vs.map (rowV s'.heap))
  rw[<-this]
  exact decide_eq_false (Nat.not_lt.mpr h)
end
end TS
namespace TS
open PySem PySem.W PyProof.Rows
def TupAt (h:Heap) (b:Addr) (ns:List Int):Prop:=∃o xs n,h.get? b=some o/\o.cls=.type "tuple"/\o.data=.seq xs n/\IntsAre xs.toList ns/\ns ≠ []
theorem TupAt.row {h:Heap}{b:Addr}{ns:List Int}(t:TupAt h b ns):RowOf h (.ref b) ns:=by
 obtain⟨o,xs,n,h1,h2,h3,h4,h5⟩:=t
 exact⟨b,o,xs,n,rfl,h1,h3,h4⟩
theorem tups {h:Heap}{r:Addr->List Int}:∀{bs:List Addr},(∀b∈bs,TupAt h b (r b))->∃fs,KatTups h (bs.map Value.ref) fs/\fs.length=bs.length/\∀f∈fs,∃n t,f=.int n t
 | [],_=>⟨[],KatTups.nil,rfl,fun _ z=>nomatch z⟩
 | b::bs,hb=>by
  obtain⟨fs,k,l,a⟩:=tups (bs:=bs) fun x hx=>hb x (List.mem_cons_of_mem _ hx)
  obtain⟨o,xs,n,h1,h2,h3,h4,h5⟩:=hb b (List.mem_cons_self ..)
  obtain⟨f,t,e⟩:∃n t,xs[0]?=some (Value.int n t):=by
   rw[<-Array.getElem?_toList]
   generalize xs.toList=ys at h4
   generalize r b=ks at h4 h5
   cases h4 with
   | nil=>exact absurd rfl h5
   | cons n t _=>exact⟨n,t,rfl⟩
  refine⟨.int f t::fs,KatTups.cons h1 h2 h3 e k,congrArg (·+1) l,fun x hx => ?_⟩
  rcases List.mem_cons.mp hx with rfl | hx
  ·exact⟨f,t,rfl⟩
  ·exact a x hx
def addrOf:Value->Addr
 | .ref b=>b
 | _=>0
section
variable {prog:Program}{w:World}{A:Around}{E:Value->Shared->Prop}{s:Shared}
theorem zY8 {a:Addr}{bs:List Addr}{r:Addr->List Int}{n:Nat}{P:PySem.Fin->Shared->Prop}(ho:s.heap.get? a=some (seqObj "list" (bs.map Value.ref).toArray n)) (hz:bs.length<=sizeLine) (h2:2<=bs.length) (hv:∀b∈bs,TupAt s.heap b (r b))
  (h:∀bs':List Addr,bs'.Perm bs->(bs'.map r).Pairwise (fun x y=>lexb y x=false)->P (.done (.ret .none)) { s with heap:=sortedHeap s.heap a (bs.map Value.ref) (bs'.map Value.ref).toArray }) :
  wpAny (model prog w) A (Builtin.«list.sort» ⟨[.ref a],[]⟩) P E s:=by
 have ha:a<s.heap.objs.size:=Heap.lt_size ho
 obtain⟨e1,g1⟩:∃e1,(s.heap.update a (Obj.mapSeq fun _=>(#[]:Array Value))).get? a=some (seqObj "list" #[] e1):=⟨_,get?_update_seq ho fun _=>#[]⟩
 have len:(bs.map Value.ref).length=bs.length:=List.length_map ..
 rw[list_sort_plain]
 refine wpAny_bind (listItems_at ho rfl (wpAny_bind (listUpdate_at ho rfl (wpAny_bind (seqEpoch_at g1 rfl (wpAny_bind (wpAny_newTuple (wpAny_bind (wpAny_newList (wpAny_holding ?_) (Nat.zero_le _))) (by show (bs.map Value.ref).length<=_;bv_omega))))) (by rw[List.size_toArray];bv_omega) (Nat.zero_le _))))
 dsimp only
 have g3:(((s.heap.update a (Obj.mapSeq fun _=>(#[]:Array Value))).push (seqObj "tuple" (bs.map Value.ref).toArray 0)).push (seqObj "list" #[] 0)).get? a=some (seqObj "list" #[] e1):=Heap.get?_push_of_some _ (Heap.get?_push_of_some _ g1)
 have hv':∀b∈bs,TupAt (((s.heap.update a (Obj.mapSeq fun _=>(#[]:Array Value))).push (seqObj "tuple" (bs.map Value.ref).toArray 0)).push (seqObj "list" #[] 0)) b (r b):=fun b hb=>by
  obtain⟨o,xs,k,t1,t2,t3,t4⟩:=hv b hb
  refine⟨o,xs,k,Heap.get?_push_of_some _ (Heap.get?_push_of_some _ ((Heap.get?_update_other _ _ ?_).trans t1)),t2,t3,t4⟩
  rintro rfl
  rw[ho] at t1
  cases t1
  have z:Value.type "list" = Value.type "tuple":=t2
  exact absurd z (by decide)
 rw[if_neg (by rw[List.size_toArray];bv_omega),if_neg (by rw[List.size_toArray];bv_omega)]
 show wpAny (model prog w) A _ P E { s with heap:=((s.heap.update a (Obj.mapSeq fun _=>(#[]:Array Value))).push (seqObj "tuple" (bs.map Value.ref).toArray 0)).push (seqObj "list" #[] 0) }
 generalize hH:((s.heap.update a (Obj.mapSeq fun _=>(#[]:Array Value))).push (seqObj "tuple" (bs.map Value.ref).toArray 0)).push (seqObj "list" #[] 0)=H at g3 hv' ⊢
 obtain⟨fs,kt,kl,ki⟩:=tups hv'
 refine wpAny_bind (kat_kind (T:=.type "int") kt (by bv_omega) (fun f hf => ?_) (by decide) ?_)
 ·obtain⟨x,t,rfl⟩:=ki f hf
  exact Looks.of_pure rfl
 rw[show (Value.type "int" != Value.type "tuple")=true by decide]
 refine wpAny_bind (wpAny_mono (yI9 (s:={ s with heap:=H }) (Q:=fun st' s'=>s'={ s with heap:=H }/\failedOf st'=none/\∃bs':List Addr,(arrOf st').map (·.2)=(bs'.map Value.ref).toArray/\bs'.Perm bs/\(bs'.map r).Pairwise fun x y=>lexb y x=false) (fun v hv => ?_) fun st' p so f=>⟨rfl,f,?_⟩) (fun q s' => ?_) fun _ _ z=>z)
 ·obtain⟨b,hb,rfl⟩:=List.mem_map.mp hv
  exact⟨_,(hv' b hb).row⟩
 ·have mem:∀x∈(arrOf st').toList,x.1=x.2/\x.1∈bs.map Value.ref:=fun x hx=>mem_zip_self (p.mem_iff.mp hx)
  have back:∀x∈(arrOf st').toList,addrOf x.2∈bs/\Value.ref (addrOf x.2)=x.2:=fun x hx=>by
   obtain⟨m1,m2⟩:=mem x hx
   obtain⟨b,hb,e⟩:=List.mem_map.mp m2
   rw[m1] at e
   rw[<-e]
   exact⟨hb,rfl⟩
  refine⟨(arrOf st').toList.map fun x=>addrOf x.2,?_,?_,?_⟩
  ·apply Array.toList_inj.mp
   rw[Array.toList_map,List.map_map]
   exact List.map_congr_left fun x hx=>((back x hx).2).symm
  ·have q1:=p.map fun x=>addrOf x.2
   have e:((bs.map Value.ref).zip (bs.map Value.ref)).map (fun x=>addrOf x.2)=bs:=by
    have z:=congrArg (List.map addrOf) (List.map_snd_zip (l₁:=bs.map Value.ref) (l₂:=bs.map Value.ref) (Nat.le_refl _))
    rw[List.map_map,List.map_map] at z
    exact z.trans (List.map_id bs)
   rw[e] at q1
   exact q1
  ·have e:((arrOf st').toList.map fun x=>addrOf x.2).map r=(arrOf st').toList.map fun x=>rowV H x.1:=by
    rw[List.map_map]
    refine List.map_congr_left fun x hx => ?_
    obtain⟨m1,m2⟩:=back x hx
    show r (addrOf x.2)=rowV H x.1
    rw[(mem x hx).1,<-m2]
    exact ((hv' _ m1).row.row).symm
   rw[e]
   exact so
 ·rintro ⟨rfl,f,bs',e,p,so⟩
  rw[e,f]
  have l':bs'.length=bs.length:=p.length_eq
  refine wpAny_bind (seqEpoch_at g3 rfl (wpAny_bind (listUpdate_at g3 rfl ?_ (Nat.zero_le _) (by show (bs'.map Value.ref).toArray.size<=_;rw[List.size_toArray,List.length_map];bv_omega))))
  dsimp only
  rw[if_neg (by rw[bne_self_eq_false];exact Bool.false_ne_true)]
  refine wpAny_pure ?_
  have:=h bs' p so
  unfold sortedHeap at this
  rw[hH] at this
  exact this
end
end TS
namespace TS
open PySem PySem.W PyProof.Rows
section
variable {prog:Program}{w:World}{A:Around}{E:Value->Shared->Prop}{s:Shared}
theorem bY {a:Addr}{vs:List Value}{n:Nat}{P:PySem.Fin->Shared->Prop}(ho:s.heap.get? a=some (seqObj "list" vs.toArray n)) (h2:vs.length<2)
  (h:P (.done (.ret .none)) { s with heap:=sortedHeap s.heap a vs vs.toArray }) :
  wpAny (model prog w) A (Builtin.«list.sort» ⟨[.ref a],[]⟩) P E s:=by
 obtain⟨e1,g1⟩:∃e1,(s.heap.update a (Obj.mapSeq fun _=>(#[]:Array Value))).get? a=some (seqObj "list" #[] e1):=⟨_,get?_update_seq ho fun _=>#[]⟩
 have hz:vs.length<=sizeLine:=by
  have:(2:Nat)<=sizeLine:=by decide
  bv_omega
 rw[list_sort_plain]
 refine wpAny_bind (listItems_at ho rfl (wpAny_bind (listUpdate_at ho rfl (wpAny_bind (seqEpoch_at g1 rfl (wpAny_bind (wpAny_newTuple (wpAny_bind (wpAny_newList (wpAny_holding ?_) (Nat.zero_le _))) (by show vs.length<=_;bv_omega))))) (by rw[List.size_toArray];bv_omega) (Nat.zero_le _))))
 dsimp only
 have g3:(((s.heap.update a (Obj.mapSeq fun _=>(#[]:Array Value))).push (seqObj "tuple" vs.toArray 0)).push (seqObj "list" #[] 0)).get? a=some (seqObj "list" #[] e1):=Heap.get?_push_of_some _ (Heap.get?_push_of_some _ g1)
 rw[if_pos (by rw[List.size_toArray];bv_omega),if_pos (by rw[List.size_toArray];bv_omega)]
 have e:(vs.toArray.zip vs.toArray).map (·.2)=vs.toArray:=by
  apply Array.toList_inj.mp
  rw[Array.toList_map]
  have z:(vs.toArray.zip vs.toArray).toList=vs.zip vs:=pairsOf_toList vs
  rw[z]
  exact List.map_snd_zip (Nat.le_refl _)
 refine wpAny_bind (wpAny_pure ?_)
 rw[StateT.run_pure]
 refine wpAny_bind (wpAny_pure ?_)
 show wpAny (model prog w) A _ P E { s with heap:=((s.heap.update a (Obj.mapSeq fun _=>(#[]:Array Value))).push (seqObj "tuple" vs.toArray 0)).push (seqObj "list" #[] 0) }
 dsimp only
 rw[e]
 refine wpAny_bind (seqEpoch_at g3 rfl (wpAny_bind (listUpdate_at g3 rfl ?_ (Nat.zero_le _) (by show vs.toArray.size<=_;rw[List.size_toArray];bv_omega))))
 dsimp only
 rw[if_neg (by rw[bne_self_eq_false];exact Bool.false_ne_true)]
 exact wpAny_pure h
theorem zG4 {a:Addr}{bs:List Addr}{r:Addr->List Int}{n:Nat}{P:PySem.Fin->Shared->Prop}(ho:s.heap.get? a=some (seqObj "list" (bs.map Value.ref).toArray n)) (hz:bs.length<=sizeLine) (hv:∀b∈bs,TupAt s.heap b (r b))
  (h:∀bs':List Addr,bs'.Perm bs->(bs'.map r).Pairwise (fun x y=>lexb y x=false)->P (.done (.ret .none)) { s with heap:=sortedHeap s.heap a (bs.map Value.ref) (bs'.map Value.ref).toArray }) :
  wpAny (model prog w) A (Builtin.«list.sort» ⟨[.ref a],[]⟩) P E s:=by
 by_cases c:2<=bs.length
 ·exact zY8 ho hz c hv h
 ·refine bY ho (by rw[List.length_map];bv_omega) (h bs (List.Perm.refl _) ?_)
  match bs,c with
  | [],_=>exact List.Pairwise.nil
  | [b],_=>exact List.pairwise_singleton _ _
  | _::_::_,c=>exact absurd (by simp) c
end
def sortT (rows:List (List Int)):List (List Int):=rows.mergeSort fun x y=>!lexb y x
theorem yY3 (x y z:List Int) (h1:(!lexb y x)=true) (h2:(!lexb z y)=true):(!lexb z x)=true:=by
 simp only[Bool.not_eq_true'] at h1 h2 ⊢
 cases c:lexb z x with
 | false=>rfl
 | true =>
  cases d:lexb x y with
  | true=>rw[vX c d] at h2;cases h2
  | false=>rw[kL d h1] at c;rw[c] at h2;cases h2
theorem yH1 (x y:List Int):((!lexb y x) || (!lexb x y))=true:=by
 cases c:lexb y x with
 | false=>rfl
 | true =>
  cases d:lexb x y with
  | false=>rfl
  | true=>have:=vX c d;rw[kR] at this;cases this
theorem cN (rows:List (List Int)):(sortT rows).Perm rows:=List.mergeSort_perm rows _
theorem aV (rows:List (List Int)):(sortT rows).Pairwise fun x y=>lexb y x=false :=
 (List.pairwise_mergeSort yY3 yH1 rows).imp fun h=>by simpa using h
theorem yP7:∀{xs ys:List (List Int)},xs.Perm ys->xs.Pairwise (fun x y=>lexb y x=false)->ys.Pairwise (fun x y=>lexb y x=false)->xs=ys:=fun p hx hy=>p.eq_of_pairwise (le:=fun x y=>lexb y x=false) (fun a b _ _ h1 h2=>kL h2 h1) hx hy
theorem zU9 {xs ys:List (List Int)}(p:xs.Perm ys) (h:xs.Pairwise fun x y=>lexb y x=false):xs=sortT ys:=yP7 (p.trans (cN ys).symm) h (aV ys)
theorem zP2 {xs ys:List (List Int)}(p:xs.Perm ys):sortT xs=sortT ys:=zU9 ((cN xs).trans p) (aV xs)
end TS
namespace HT
open PySem PyProof.Rows
abbrev tO (xs:Array Value) (n:Nat) (dd:Option Addr) (sl:Array (Option Value)):Obj:={ cls:=.type "tuple",dict:=dd,data:=.seq xs n,slots:=sl }
theorem yG6:fillsNumberSlot (.type "tuple") "mul" = pure false:=PyProof.Rows.fillsNumberSlot_seq PySem.F.slot_tuple_mul.lookup (by decide +kernel) PySem.F.slot_tuple_rmul.lookup (by decide +kernel)
theorem xT2:seqRepeat? (.type "tuple")=pure (some (.builtin "tuple.__mul__")):=by
 unfold seqRepeat?
 have e1:seqSlot? (.type "tuple") "__mul__" = pure (some (.builtin "tuple.__mul__")):=PyProof.Rows.seqSlot_of PySem.F.slot_tuple_mul.lookup (by decide +kernel)
 have e2:seqSlot? (.type "tuple") "__rmul__" = pure (some (.builtin "tuple.__rmul__")):=PyProof.Rows.seqSlot_of PySem.F.slot_tuple_rmul.lookup (by decide +kernel)
 rw[e1,e2]
 rfl
theorem yD7 (k:Int) (u:Tok) (t:Addr) (xs:Array Value) (n:Nat) (dd:Option Addr) (sl:Array (Option Value)):Meets (Builtin.«int.__rmul__» ⟨[.int k u,.ref t],[]⟩) fun _ R z=>z.heap.get? t=some (tO xs n dd sl)/\R (.ok (.ret Value.notImplemented)) z:=by
 refine .of_wp fun prog w A R z h => ?_
 obtain⟨g1,g2,g3,g4,g5⟩:=z
 obtain⟨ho,q⟩:=h
 wp_walk
 exact⟨_,rfl,q⟩
theorem xX2 (u:Tok) (t:Addr) (xs:Array Value) (n:Nat) (dd:Option Addr) (sl:Array (Option Value)):Meets (Builtin.«tuple.__mul__» ⟨[.ref t,.int 1 u],[]⟩) fun _ R z=>z.heap.get? t=some (tO xs n dd sl)/\R (.ok (.ret (.ref t))) z:=by
 refine .of_wp fun prog w A R z h => ?_
 obtain⟨g1,g2,g3,g4,g5⟩:=z
 obtain⟨ho,q⟩:=h
 wp_walk
 exact⟨_,rfl,q⟩
theorem yE5 (v:Value) (m:Nat) (u:Tok) (t:Addr) (n:Nat) (dd:Option Addr) (sl:Array (Option Value)) (h2:2<=m) (h6:m<=6):Meets (Builtin.«tuple.__mul__» ⟨[.ref t,.int (m:Int) u],[]⟩) fun _ R z=>z.heap.get? t=some (tO #[v] n dd sl)/\R (.ok (.ret (.ref z.heap.objs.size))) { z with heap:=z.heap.push { cls:=.type "tuple",data:=.seq (List.replicate m v).toArray } }:=by
 rcases (show m=2\/m=3\/m=4\/m=5\/m=6 by bv_omega) with rfl | rfl | rfl | rfl | rfl <;>
 ·refine .of_wp fun prog w A R z h => ?_
  obtain⟨g1,g2,g3,g4,g5⟩:=z
  obtain⟨ho,q⟩:=h
  wp_walk
  exact⟨_,rfl,q⟩
section
variable {prog:Program}{w:World}{A:Around}{E:Value->Shared->Prop}{s:Shared}
theorem zA1 {t:Addr}{v:Value}{m:Nat}{u:Tok}{Q:Value->Shared->Prop}(h1:1<=m) (h6:m<=6) (ht:IsTup s.heap t #[v]) (q1:m=1->Q (.ref t) s)
  (q2:2<=m->Q (.ref s.heap.objs.size) { s with heap:=s.heap.push { cls:=.type "tuple",data:=.seq (List.replicate m v).toArray } }):wpAny (model prog w) A (binaryOp .Mult (.ref t) (.int (m:Int) u)) Q E s:=by
 obtain⟨⟨cls,dd,data,sl⟩,ho,hc,n,hd⟩:=id ht
 simp only at hc hd
 subst hc hd
 have ty:s.TypeIs (.ref t) "tuple":=⟨_,ho,rfl⟩
 refine wpAny_binaryOp_repeat_ref (by decide) ty (fun z=>typeIs_int z (m:Int) u) yG6 PySem.F.fills_int_mul PySem.F.slot_int_rmul xT2 PySem.F.slot_int_index.lookup ?_
 refine call_meets PySem.F.slot_int_rmul (typeIs_int s (m:Int) u) PySem.F.entry_int_rmul (PySem.F.args_int_rmul_2 _ _) (yD7 (m:Int) u t #[v] n dd sl) ⟨ho,rfl,ty,?_⟩
 by_cases c:m=1
 ·subst c
  refine call_meets PySem.F.slot_tuple_mul ty PySem.F.entry_tuple_mul (PySem.F.args_tuple_mul_2 _ _) (xX2 u t #[v] n dd sl) ?_
  exact⟨ho,q1 rfl⟩
 ·refine call_meets PySem.F.slot_tuple_mul ty PySem.F.entry_tuple_mul (PySem.F.args_tuple_mul_2 _ _) (yE5 v m u t n dd sl (by bv_omega) h6) ?_
  exact⟨ho,q2 (by bv_omega)⟩
end
end HT
namespace L2.L3
open PySem PySem.Spec PyProof.Rows MR
variable [CN]
def rRepT (K:KFr):R2:=fun x y H Q=>∃a m z,x=.ref a/\y=.int ((m:Nat):Int)/\SqT K H a [z]/\1<=m/\m<=6/\(m=1->Q (.ref a) H)/\(2<=m->∀p,H p=none->Q (.ref p) (upd H p (.tup (List.replicate m z))))
theorem yJ6 {X:Cx}:OpR X (binaryOp .Mult) (rRepT X.K):=by
 intro pins s σ H x y v u Q I rx ry h
 obtain⟨a,m,z,rfl,rfl,ha,h1,h6,q1,q2⟩:=h
 cases rx
 obtain⟨t,rfl⟩:=ry
 obtain⟨its,r1,p1,_⟩:=I.tuple ha
 cases r1 with
 | cons r0 r1 =>
  cases r1
  refine HT.zA1 h1 h6 p1 (fun c=>⟨.ref a,H,I,rfl,q1 c⟩) fun c => ?_
  refine⟨.ref s.heap.objs.size,_,I.laid (t':=s.toks) (o:=.tup (List.replicate m z)) (fun b ob q=>Heap.get?_push_of_some _ q) (Nat.le_refl _) ?_,rfl,q2 c _ (I.hok.fresh (Nat.le_refl _))⟩
  have rv:∀m:Nat,Vals (List.replicate m z) (List.replicate m _):=fun m=>by
   induction m with
   | zero=>exact .nil
   | succ m ih=>exact .cons r0 ih
  exact⟨by rw[List.length_replicate];exact Nat.le_of_lt (small1000 (by bv_omega)),_,rv m,TupAt.new _ _⟩
end L2.L3
namespace L2.L3
open PySem PyProof.Rows
variable [CN]
def rSortT (K:KFr):List V->Hp->VK->Prop:=fun xs H Q=>∃(p:Addr) (bs:List Addr) (r:Addr->List Int),xs=[.ref p]/\SqL K H p (bs.map V.ref)/\(∀b∈bs,Rd H b (.tup ((r b).map V.int))/\r b ≠ []) /\
  ∀(l:Addr) (bs':List Addr),H l=none->bs'.Perm bs->(bs'.map r).Pairwise (fun x y=>TS.lexb y x=false)->Q (.ref l) (upd H l (.lst (bs'.map V.ref)))
section
variable {X:Cx}
theorem gI:∀(as:List Addr),Vals (as.map V.ref) (as.map Value.ref)
 | []=>.nil
 | _::as=>.cons rfl (gI as)
theorem zY4:∀{as:List Addr}{us:List Value},Vals (as.map V.ref) us->us=as.map Value.ref
 | [],_,.nil=>rfl
 | _::_,_,.cons e r=>by rw[zY4 r,show _=_ from e];rfl
theorem gZ:CallR X (.builtin "sorted") (rSortT X.K):=by
 intro pins s σ H xs us Q I r h
 obtain⟨p,bs,row,rfl,hq,ht,q⟩:=h
 obtain⟨u,rfl,ru⟩:=vals1 r
 cases ru
 obtain⟨its,rv,⟨o,n,ho,hc,_,hd⟩,hz⟩:=I.list hq
 obtain rfl:=zY4 rv
 rw[List.length_map] at hz
 have tup:∀b∈bs,TS.TupAt s.heap b (row b):=fun b hb=>by
  obtain⟨t1,t2⟩:=ht b hb
  obtain⟨its,rv,⟨o,ho,hc,n,hd⟩,_⟩:=I.tuple (.inl t1)
  exact⟨o,_,n,ho,hc,hd,by simpa using vR rv,t2⟩
 refine Calls.call_function_entry kind_sorted plain_sorted entry_sorted (args_sorted1 (.ref p)) ?_
 rw[gG]
 refine wpAny_bind (wpAny_collect_seq p (.inl rfl) ho hc hd (fun h' kp=>wpAny_bind (wpAny_newList ?_ (by show (bs.map Value.ref).length<=_;rw[List.length_map];exact hz))) (by rw[List.size_toArray,List.length_map];exact hz))
 have hoL:(h'.push (seqObj "list" (bs.map Value.ref).toArray 0)).get? h'.objs.size=some (seqObj "list" (bs.map Value.ref).toArray 0):=Heap.get?_push_size _ rfl
 have tup':∀b∈bs,TS.TupAt (h'.push (seqObj "list" (bs.map Value.ref).toArray 0)) b (row b):=fun b hb=>by
  obtain⟨o,ys,k,e,rest⟩:=tup b hb
  exact⟨o,ys,k,Heap.get?_push_of_some _ (kp _ _ e),rest⟩
 have I1:Inv X pins σ H { s with heap:=h' }:=I.kept (t':=s.toks) kp
 have hfresh:H h'.objs.size=none:=I1.hok.fresh (Nat.le_refl _)
 refine wpAny_bind (wpAny_holding (wpAny_call_entry slot_list_sort ⟨_,hoL,rfl⟩ entry_list_sort (TS.zG4 hoL hz tup' fun bs' a1 a2=>⟨_,rfl,?_⟩) (args_list_sort _)))
 refine wpAny_pure ⟨_,rfl,?_⟩
 have hlen:bs'.length=bs.length:=a1.length_eq
 refine⟨.ref h'.objs.size,_,I1.laid (t':=s.toks) (o:=.lst (bs'.map V.ref)) (fun b ob e => ?_) (Nat.le_refl _) ?_,rfl,q _ bs' hfresh a1 a2⟩
 ·have hb:=Heap.lt_size e
  rw[sortedHeap_old (Nat.ne_of_lt hb) (by rw[size_push'];exact Nat.lt_succ_of_lt hb)]
  exact Heap.get?_push_of_some _ e
 ·obtain⟨e,he⟩:∃e,(sortedHeap (h'.push (seqObj "list" (bs.map Value.ref).toArray 0)) h'.objs.size (bs.map Value.ref) (bs'.map Value.ref).toArray).get? h'.objs.size=some (seqObj "list" (bs'.map Value.ref).toArray e):=sortedHeap_at hoL
  exact⟨by rw[List.length_map];bv_omega,bs'.map Value.ref,e,gI bs',he⟩
end
def rowsOf:List D->Option (List (List Int))
 | []=>some []
 | .tuple ds::t=>(intsOf ds).bind fun ns=>if ns=[] then none else (rowsOf t).map (ns :: ·)
 | _=>none
def sortTD:List D->Option D
 | [.list ds]=>(rowsOf ds).map fun rows=>.list ((TS.sortT rows).map fun ns=>.tuple (ns.map PyData.int))
 | _=>none
theorem dY:∀{ds:List D}{rows:List (List Int)},rowsOf ds=some rows->ds=rows.map tI/\∀ns∈rows,ns ≠ []
 | [],rows,h=>by cases h;exact⟨rfl,fun _ z=>nomatch z⟩
 | d::ds,rows,h=>by
  cases d with
  | tuple xs =>
   obtain⟨ns,e1,e2⟩:=Option.bind_eq_some_iff.mp (show (intsOf xs).bind _=some rows from h)
   split at e2
   ·cases e2
   ·rename_i hne
    obtain⟨t,e3,rfl⟩:=Option.map_eq_some_iff.mp e2
    obtain⟨i1,i2⟩:=dY e3
    rw[xM e1,i1]
    refine⟨rfl,fun m hm => ?_⟩
    rcases List.mem_cons.mp hm with rfl | hm
    ·exact hne
    ·exact i2 m hm
  | _=>cases h
theorem cU:∀(rows:List (List Int)),(∀ns∈rows,ns ≠ [])->rowsOf (rows.map tI)=some rows
 | [],_=>rfl
 | ns::rows,h=>by
  show (intsOf (ns.map PyData.int)).bind _=_
  rw[intsOf_map]
  show (if ns=[] then none else (rowsOf (rows.map tI)).map (ns :: ·))=_
  rw[if_neg (h ns (List.mem_cons_self ..)),cU rows fun x hx=>h x (List.mem_cons_of_mem _ hx)]
  rfl
def numV:V->Int
 | .int i=>i
 | _=>0
def rowA (H:Hp) (b:Addr):List Int:=match H b with
 | some (.tup vs)=>vs.map numV
 | some (.frz _ (.tup vs))=>vs.map numV
 | _=>[]
theorem zB3 (ns:List Int):(ns.map V.int).map numV=ns:=by
 rw[List.map_map]
 exact List.map_id ns
theorem yH7 {H:Hp}{b:Addr}{ns:List Int}(h:Rd H b (.tup (ns.map V.int))):rowA H b=ns:=by
 unfold rowA
 rcases h with h | ⟨o,h⟩ <;> (rw[h];exact zB3 ns)
theorem zZ6 {H:Hp}{O:Addr->Prop}:∀{rows:List (List Int)}{ys:List V},Reps H O ys (rows.map tI)->∃bs:List Addr,ys=bs.map V.ref/\bs.map (rowA H)=rows/\∀b∈bs,Rd H b (.tup ((rowA H b).map V.int))/\¬O b
 | [],_,.nil=>⟨[],rfl,rfl,fun _ z=>nomatch z⟩
 | ns::rows,_,.cons (.tup (a:=a) rd no rs) t=>by
  obtain⟨bs,e1,e2,e3⟩:=zZ6 (rows:=rows) t
  rw[rs.ints] at rd
  have ea:=yH7 rd
  refine⟨a::bs,by rw[e1];rfl,by rw[<-e2,<-ea];rfl,fun b hb => ?_⟩
  rcases List.mem_cons.mp hb with rfl | hb
  ·rw[ea];exact⟨rd,no⟩
  ·exact e3 b hb
theorem zZ3 {H:Hp}{O:Addr->Prop}:∀{bs:List Addr},(∀b∈bs,Rd H b (.tup ((rowA H b).map V.int))/\¬O b)->Reps H O (bs.map V.ref) ((bs.map (rowA H)).map tI)
 | [],_=>.nil
 | b::bs,h=>.cons (.tup (h b (List.mem_cons_self ..)).1 (h b (List.mem_cons_self ..)).2 (uQ _)) (zZ3 fun x hx=>h x (List.mem_cons_of_mem _ hx))
theorem zT8 {K:KFr}:PrC (rSortT K) .new sortTD:=by
 intro Oc Ob H vs ds d Q oh va e k
 unfold sortTD at e
 split at e
 ·obtain⟨rows,e1,rfl⟩:=Option.map_eq_some_iff.mp e
  obtain⟨v,rfl,vx⟩:=va.one
  obtain⟨a,ys,rfl,rd,rs⟩:=vx.list
  obtain⟨f1,f2⟩:=dY e1
  rw[f1] at rs
  obtain⟨bs,rfl,g2,g3⟩:=zZ6 rs
  refine⟨a,bs,rowA H,rfl,.inl rd,fun b hb=>⟨(g3 b hb).1,f2 _ (by rw[<-g2];exact List.mem_map.mpr ⟨b,hb,rfl⟩)⟩,fun l bs' hp h1 h2 => ?_⟩
  have es:bs'.map (rowA H)=TS.sortT rows:=TS.zU9 (by rw[<-g2];exact h1.map _) h2
  refine k _ _ (Same.new hp) (xY (Same.refl H) hp ?_)
  have:=zZ3 (O:=Uni Oc Ob) (bs:=bs') fun b hb=>g3 b (h1.mem_iff.mp hb)
  rw[es] at this
  exact this
 ·cases e
theorem dX {rows:List (List Int)}(h:∀ns∈rows,ns ≠ []):sortTD [.list (rows.map tI)]=some (.list ((TS.sortT rows).map tI)):=by
 show (rowsOf (rows.map tI)).map _=_
 rw[cU rows h]
 rfl
def repT:D->D->Option D
 | .tuple [d],.int i=>if 1<=i/\i<=6 then some (.tuple (List.replicate i.toNat d)) else none
 | _,_=>none
theorem zU1 {H:Hp}{O:Addr->Prop}{v:V}{d:D}(r:Rep H O v d):∀(m:Nat),Reps H O (List.replicate m v) (List.replicate m d)
 | 0=>.nil
 | m+1=>.cons r (zU1 r m)
theorem yI6 {K:KFr}:Pr2 (rRepT K) .cl repT:=by
 intro Oc Ob H x y dx dy d Q oh vx vy e k
 unfold repT at e
 split at e
 ·rename_i d0 i
  split at e
  ·rename_i hl
   cases e
   obtain⟨a,vs,rfl,rd,rs⟩:=vx.tuple
   obtain rfl:=vy.int
   cases rs with
   | cons r rs =>
    cases rs
    refine⟨a,i.toNat,_,rfl,by rw[Int.toNat_of_nonneg (by bv_omega)],.inl rd,by bv_omega,by bv_omega,fun z => ?_,fun _ p hp=>k _ _ (Same.new hp) (vF oh hp (zU1 r _))⟩
    rw[z] at k
    exact k _ H (Same.refl H) (zV1 vx)
  ·cases e
 ·cases e
theorem yE8 {d:D}{m:Nat}(h1:1<=m) (h6:m<=6):repT (.tuple [d]) (.int (m:Int))=some (.tuple (List.replicate m d)):=by
 show (if (1:Int)<=(m:Int)/\(m:Int)<=6 then some (PyData.tuple (List.replicate (m:Int).toNat d)) else none)=_
 rw[if_pos (by bv_omega),Int.toNat_natCast]
end L2.L3
local macro_rules | `(tactic| sleep 1)=>`(tactic| exact⟨rfl,rfl,rfl,by decide +kernel,rfl,by decide +kernel,by decide +kernel⟩)
local macro_rules | `(tactic| sleep 2)=>`(tactic| exact⟨rfl,by decide +kernel,by decide +kernel,by decide +kernel,by decide +kernel,rfl,by decide +kernel,by decide +kernel⟩)
namespace K32
open PySem L2 L2.L3
def top (i:Nat):Stmt:=PySem.Challenge.pw_ownboxes_k32_whole_each_order_is_written.main.body.getD i (.Pass ⟨0,0,0,0⟩)
abbrev qX:Stmt:=top 6
abbrev qY:Stmt:=top 7
abbrev xL:Stmt:=top 9
abbrev yL:Stmt:=top 12
abbrev wP:Stmt:=top 13
abbrev yF:Stmt:=top 14
abbrev yH:Stmt:=top 15
abbrev vP:Stmt:=top 17
abbrev qW:Stmt:=top 18
abbrev vA:Stmt:=top 19
abbrev qR:Stmt:=top 20
abbrev uO:Stmt:=top 21
abbrev xN:Stmt:=top 22
abbrev uV:Stmt:=top 24
abbrev qP:Stmt:=top 25
abbrev kZ:Stmt:=top 26
abbrev xI:Stmt:=top 27
abbrev uZ:Stmt:=top 28
abbrev jG:Stmt:=top 29
abbrev vZ:Stmt:=top 30
abbrev xW:Stmt:=top 31
abbrev fS:Stmt:=top 32
def jC:Ev->Res Out:=(sR (vAn (vB (b3 leI leI (eC (.int 1)) (eB lenD (aC (eV 0) aN)) (eC (.int 60)))) (e2 (fun x y=>bD (eqD x y)) (eB sortD (aC (eV 0) aN)) (eB rangeL (aC (eB lenD (aC (eV 0) aN)) aN)))))
def kO:List D->Res D:=runF false 1 1 jC
def kU:Ev->Res Out:=(sQ (sS 1 (eB mkL aN)) (sQ (sF (iS (eV 0)) (gN 2) (sQ (sIf (b2 eqD (eB lenD (aC (eV 2) aN)) (eC (.int 0))) sX sN) (sM 1 extD (aC (eV 2) aN)))) (sQ (sIf (tNt (tV (eFA false kO (aC (eV 1) aN)))) sX sN) (sQ (sS 3 (e2 repL (eB mkL (aC (eC (.int 0)) aN)) (eB lenD (aC (eV 1) aN)))) (sQ (sF (iS (eV 0)) (gN 2) (sF (iR rng1 (aC (eB lenD (aC (eV 2) aN)) aN)) (gN 4) (sI 3 (e2 ixD (eV 2) (e2 subI (eV 4) (eC (.int 1)))) (e2 ixD (eV 2) (eV 4))))) (sR (eB tupD (aC (eV 3) aN))))))))
def qV:List D->Res D:=runF false 1 5 kU
def vQ:Ev->Res Out:=(sQ (sIf (tNt (b3 leI leI (eC (.int 1)) (eV 0) (eC (.int 60)))) sX sN) (sQ (sIf (b2 neD (eB lenD (aC (eV 1) aN)) (eV 0)) sX sN) (sQ (sIf (tO (b2 ltI (eB min1D (aC (eV 1) aN)) (eC (.int 0))) (b2 gtI (eB max1D (aC (eV 1) aN)) (eV 0))) sX sN) (sR (eB tupD (aC (eV 1) aN))))))
def xK:List D->Res D:=runF false 2 2 vQ
def xP:Ev->Res Out:=(sQ (sIf (b2 gtI (eB lenD (aC (eV 0) aN)) (eC (.int 6))) sX sN) (sR (eF xK (aC (eB lenD (aC (eV 0) aN)) (aC (eV 0) aN)))))
def xQ:List D->Res D:=runF false 1 1 xP
def uG:Ev->Res Out:=(sIf (b2 neD (eB lenD (aC (eV 1) aN)) (eB lenD (aC (eV 0) aN))) sX sN)
def uF:List D->Res D:=runF false 2 2 uG
def yI (Fself:List D->Res D):Ev->Res Out:=(sQ (sIf (b2 eqD (eV 2) (eC (.int 0))) (sR (eC .none)) sN) (sQ (sS 4 (e2 repL (eB mkL (aC (eC .none) aN)) (eV 1))) (sQ (sF (iR rng1 (aC (eV 1) aN)) (gN 5) (sIf (b2 (inD true) (eV 5) (eV 3)) (sI 4 (eV 5) (eF Fself (aC (eV 5) (aC (eV 1) (aC (e2 subI (eV 2) (eC (.int 1))) (aC (e2 catL (eV 3) (eB mkL (aC (eV 5) aN))) aN)))))) sN)) (sR (eB mkT (aC (eV 0) (aC (eB tupD (aC (eV 4) aN)) aN)))))))
def yQ:Nat->List D->Res D
 | 0=>fun _=>.no
 | n+1=>runF false 4 6 (yI (yQ n))
def yG:List D->Res D:=yQ 8
def wK:Ev->Res Out:=(sQ (sS 1 (eF xQ (aC (eV 0) aN))) (sQ (sS 2 (eB lenD (aC (eV 1) aN))) (sR (eB tupD (aC (eComp2 (uT (eV 1)) tYes (eF yG (aC (eV 0) (aC (eV 2) (aC (eV 1) (aC (eB mkL (aC (eV 0) aN)) aN))))) [2]) aN)))))
def yE:List D->Res D:=runF false 1 3 wK
def qG:Ev->Res Out:=(sQ (sE (eF xK (aC (eB lenD (aC (eV 0) aN)) (aC (eV 1) aN)))) (sE (eF uF (aC (eV 0) (aC (eV 2) aN)))))
def vU:List D->Res D:=runF false 3 3 qG
def jK:Ev->Res Out:=(sQ (sE (eF vU (aC (eV 0) (aC (eV 1) (aC (eV 2) aN))))) (sR (eP 0 0)))
def fT:List D->Res D:=runF true 3 3 jK
def gJ:Ev->Res Out:=(sQ (sS 3 (eB mkL aN)) (sQ (sF (iS (eF fT (aC (eV 0) (aC (eV 1) (aC (eV 2) aN))))) (gT 2 (gsC (gN 4) (gsC (gN 5) gsN))) (sM 3 appD (aC (e2 catL (eB mkL (aC (eV 4) aN)) (eComp (iS (eS slD (eV 5) oN (oS (e1 negD (eC (.int 1)))))) tYes (e2 ixD (eV 1) (eV 0)) [2])) aN))) (sR (eFA false qV (aC (eV 3) aN)))))
def xS:List D->Res D:=runF false 3 6 gJ
def wR:Ev->Res Out:=(sQ (sE (eF vU (aC (eV 0) (aC (eV 1) (aC (eV 2) aN))))) (sR (eB tupD (aC (eP 1 1) aN))))
def uU:List D->Res D:=runF false 3 3 wR
def jV:Ev->Res Out:=(sQ (sIf (b2 ltI (eV 1) (eB lenD (aC (eV 0) aN))) (sR (e2 ixD (eV 0) (eV 1))) sN) (sR (eC (.int 0))))
def wQ:List D->Res D:=runF false 2 2 jV
def dL:Ev->Res Out:=(sR (eComp (iR rng1 (aC (eV 2) aN)) tYes (eB sumD (aC (eS3 (eV 1) (oS (e2 addI (eV 2) (eV 0))) oN (oS (eV 3))) aN)) [0,1,2]))
def jB:List D->Res D:=runF true 3 3 dL
def kM:List D->Res D:=plF jB
def qZ:List D->Res D:=grF 4 5 4 wQ
def uW:Ev->Res Out:=(sQ (sS 1 (eB mkL (aC (eB mkT aN) aN))) (sQ (sF (iR rng1 (aC (eV 0) aN)) (gN 2) (sQ (sS 3 (eB mkL aN)) (sQ (sF (iS (eV 1)) (gN 4) (sM 3 extD (aC (eComp (iR rng1 (aC (e2 addI (eB lenD (aC (eV 4) aN)) (eC (.int 1))) aN)) tYes (e2 catT (e2 catT (eS slD (eV 1) oN (oS (eV 0))) (eB mkT (aC (eV 2) aN))) (eS slD (eV 1) (oS (eV 0)) oN)) [4,2]) aN))) (sV 1 3)))) (sR (eV 1))))
def wZ:List D->Res D:=runF false 1 5 uW
def zH6:Ev->Res Out:=(sQ (sA (eF qZ (aC (eV 0) aN)) (gT 2 (gsC (gN 1) (gsC (gN 2) gsN)))) (sQ (sS 3 (eF kM (aC (eV 0) (aC (eV 1) (aC (eV 2) aN))))) (sQ (sS 4 (eF wZ (aC (eV 1) aN))) (sQ (sS 5 (eComp (iS (eV 4)) tYes (eF xS (aC (eV 1) (aC (eV 2) (aC (eV 0) aN)))) [3,2])) (sQ (sIf (b2 neD (eB sortTD (aC (eV 5) aN)) (eB sortTD (aC (eV 4) aN))) (sR (eC (.bool false))) sN) (sQ (sF (iR rng1 (aC (eB lenD (aC (eV 4) aN)) aN)) (gN 6) (sIf (b2 neD (eF uU (aC (eV 3) (aC (eV 2) (aC (e2 ixD (eV 5) (eV 6)) aN)))) (e2 ixD (eV 4) (eV 6))) (sR (eC (.bool false))) sN)) (sQ (sS 7 (e2 repT (eB mkT (aC (eV 1) aN)) (eV 1))) (sQ (sS 8 (eF yE (aC (eV 7) aN))) (sR (eB allD (aC (eComp (iS (eV 4)) tYes (e2 (fun x y=>bD (eqD x y)) (eF xS (aC (eV 1) (aC (eV 2) (aC (eV 0) aN)))) (eV 0)) [8,7]) aN)))))))))))
def zH1:List D->Res D:=runF false 1 9 zH6
structure Txt (K:KFr) (mg:Str->Option Value):Prop where
 g_all:mg "all" = none
 g_enumerate:mg "enumerate" = none
 g_len:mg "len" = none
 g_list:mg "list" = none
 g_max:mg "max" = none
 g_min:mg "min" = none
 g_range:mg "range" = none
 g_sorted:mg "sorted" = none
 g_sum:mg "sum" = none
 g_tuple:mg "tuple" = none
 c_MOST_IN_A_PLAN:∃u,mg "MOST_IN_A_PLAN" = some u/\RelV (.int 6) u
 c_MOST_PEOPLE:∃u,mg "MOST_PEOPLE" = some u/\RelV (.int 60) u
 d_is_order:∃f fd,Has K mg "is_order" qX f fd ["names"]
 d_order_by:∃f fd,Has K mg "order_by" qY f fd ["rings"]
 d_made_openings:∃f fd,Has K mg "made_openings" xL f fd ["people","numbers"]
 d_openings_of_a_plan:∃f fd,Has K mg "openings_of_a_plan" yL f fd ["openings"]
 d_check_boxes:∃f fd,Has K mg "check_boxes" wP f fd ["plan","order"]
 d_following_tree:∃f fd,Has K mg "following_tree" yF f fd ["box","people","left","names"]
 d_following_plan:∃f fd,Has K mg "following_plan" yH f fd ["openings"]
 d_check_game:∃f fd,Has K mg "check_game" vP f fd ["plan","openings","order"]
 d_one_turn:∃f fd,Has K mg "one_turn" qW f fd ["tree","person","seen","name_in"]
 d_played:∃f fd,Has K mg "played" vA f fd ["plan","openings","name_in"]
 d_turns:∃f fd,Has K mg "turns" qR f fd ["plan","openings","order"]
 d_written:∃f fd,Has K mg "written" uO f fd ["plan","openings","order"]
 d_unwritten:∃f fd,Has K mg "unwritten" xN f fd ["plan","openings","order"]
 d_l_cell_at:∃f fd,Has K mg "_law_cell_at" uV f fd ["script","k"]
 d_l_sums:∃f fd,Has K mg "_law_sums" qP f fd ["script","start","many"]
 d_l_take:∃f fd,Has K mg "_law_take" kZ f fd ["pot","many"]
 d_l_openings:∃f fd,Has K mg "_law_openings" xI f fd ["pot","people"]
 d_l_tree:∃f fd,Has K mg "_law_tree" uZ f fd ["pot","people","left","boxes","names","thin"]
 d_l_plan:∃f fd,Has K mg "_law_plan" jG f fd ["script","people","openings"]
 d_l_ground:∃f fd,Has K mg "_law_ground" vZ f fd ["script"]
 d_l_all_orders:∃f fd,Has K mg "_law_all_orders" xW f fd ["people"]
 d_law:∃f fd,Has K mg "law" fS f fd ["script"]
 t_played:∃c P,PySem.W.tabIn K "played" = some (c,P)/\∀f fd,Has K mg "played" vA f fd ["plan","openings","name_in"]->fd.code=.ref c
 t_turns:∃c P,PySem.W.tabIn K "turns" = some (c,P)/\∀f fd,Has K mg "turns" qR f fd ["plan","openings","order"]->fd.code=.ref c
 t_unwritten:∃c P,PySem.W.tabIn K "unwritten" = some (c,P)/\∀f fd,Has K mg "unwritten" xN f fd ["plan","openings","order"]->fd.code=.ref c
section
variable {P:Program}{w:World}{K:KFr}{mg:Str->Option Value}{base:Heap}
theorem fA:zJ ["names"] ["names"] (zT qX):=by sleep 1
theorem zP5 (T:Txt K mg){f:Addr}{fd:FuncData}(h:Has K mg "is_order" qX f fd ["names"]):FnOk P w K mg base CX0 1 f fd ["names"] (spF false kO):=by
 refine wY [] h.F fA fun cdv A outer s H E hr => ?_
 have nd:=fA.nd
 have u:=hr.units
 exact (zK (yK (yA7 (yU6 zW3 zW3 zX7 zX7 xD (zC zG yJ T.g_len PySem.boot_len (zN (zW 0) zQ)) (dD T.c_MOST_PEOPLE.choose_spec.1 T.c_MOST_PEOPLE.choose_spec.2)) (xT3 (zB8 (uL u) zX8 (zC zR9 yK8 T.g_sorted (by rfl) (zN (zW 0) zQ)) (zT4 T.g_list T.g_range (zN (zC zG yJ T.g_len PySem.boot_len (zN (zW 0) zQ)) zQ)))))))
theorem dQ:zJ ["rings","boxes","ring","names","place"] ["rings"] (zT qY):=by sleep 1
theorem zN1 (T:Txt K mg){f:Addr}{fd:FuncData}(h:Has K mg "order_by" qY f fd ["rings"]):FnOk P w K mg base CX0 2 f fd ["rings"] (spF false qV):=by
 obtain⟨_,_,h0⟩:=T.d_is_order
 refine wY [1,3] h.F dQ fun cdv A outer s H E hr => ?_
 have nd:=dQ.nd
 have u:=hr.units
 exact (zM (jI 1 nd (wX zQ)) (zM (uR (qQ (RE.rd (zW 0))) (xT 2 nd) (zM (wO (xC (uL u) zX8 (zC zG yJ T.g_len PySem.boot_len (zN (zW 2) zQ)) xD) (zK wM) yD) (zK (yY6 1 (zW 2))))) (zM (wO (zA8 (xZ3 (aL (zP5 T h0) h0 (hr.mono (by decide)) (fun _ _ h=>h) (zN (kF 1) zQ)))) (zK wM) yD) (zM (jI 3 nd (vV zL9 yW8 (wX (zP xD zQ)) (zC zG yJ T.g_len PySem.boot_len (zN (kF 1) zQ)))) (zM (uR (qQ (RE.rd (zW 0))) (xT 2 nd) (zK (uR (wA T.g_range (zN (zC zG yJ T.g_len PySem.boot_len (zN (zW 2) zQ)) zQ)) (xT 4 nd) (zK (zM9 3 (fL jN gD (zW 2) (zW 4)) (fL jN gD (zW 2) (vV zS1 zC4 (zW 4) xD))))))) (zK (yK (uS yX kC T.g_tuple (by rfl) (zN (kF 3) zQ)))))))))
theorem qN:zJ ["people","numbers"] ["people","numbers"] (zT xL):=by sleep 1
theorem qO (T:Txt K mg){f:Addr}{fd:FuncData}(h:Has K mg "made_openings" xL f fd ["people","numbers"]):FnOk P w K mg base CX0 1 f fd ["people","numbers"] (spF false xK):=by
 refine wY [] h.F qN fun cdv A outer s H E hr => ?_
 have nd:=qN.nd
 have u:=hr.units
 exact (zM (wO (zA8 (yT5 zW3 zW3 zX7 zX7 xD (zW 0) (dD T.c_MOST_PEOPLE.choose_spec.1 T.c_MOST_PEOPLE.choose_spec.2))) (zK wM) yD) (zM (wO (xC (cR u) zW1 (zC zG yJ T.g_len PySem.boot_len (zN (zW 1) zQ)) (zW 0)) (zK wM) yD) (zM (wO (RW.rt (rw_or (xC yM4 yM3 (zC (zB1 rfl) yI2 T.g_min PyProof.Rows.boot_min (zN (zW 1) zQ)) xD) (rw_or1 (xC yL4 yM1 (zC (zE5 rfl) yD2 T.g_max PyProof.Rows.boot_max (zN (zW 1) zQ)) (zW 0))))) (zK wM) yD) (zK (yK (uS yX kC T.g_tuple (by rfl) (zN (zW 1) zQ)))))))
theorem wB:zJ ["openings"] ["openings"] (zT yL):=by sleep 1
theorem jO (T:Txt K mg){f:Addr}{fd:FuncData}(h:Has K mg "openings_of_a_plan" yL f fd ["openings"]):FnOk P w K mg base CX0 2 f fd ["openings"] (spF false xQ):=by
 obtain⟨_,_,h0⟩:=T.d_made_openings
 refine wY [] h.F wB fun cdv A outer s H E hr => ?_
 have nd:=wB.nd
 have u:=hr.units
 exact (zM (wO (xC yL4 yM1 (zC zG yJ T.g_len PySem.boot_len (zN (zW 0) zQ)) (dD T.c_MOST_IN_A_PLAN.choose_spec.1 T.c_MOST_IN_A_PLAN.choose_spec.2)) (zK wM) yD) (zK (yK (yV (qO T h0) h0 (hr.mono (by decide)) (fun _ _ h=>h) (zP (zC zG yJ T.g_len PySem.boot_len (zN (zW 0) zQ)) (zP (zW 0) zQ))))))
theorem jL:zJ ["plan","order"] ["plan","order"] (zT wP):=by sleep 1
theorem bF (T:Txt K mg){f:Addr}{fd:FuncData}(h:Has K mg "check_boxes" wP f fd ["plan","order"]):FnOk P w K mg base CX0 1 f fd ["plan","order"] (spF false uF):=by
 refine wY [] h.F jL fun cdv A outer s H E hr => ?_
 have nd:=jL.nd
 have u:=hr.units
 exact (zK (wO (xC (cR u) zW1 (zC zG yJ T.g_len PySem.boot_len (zN (zW 1) zQ)) (zC zG yJ T.g_len PySem.boot_len (zN (zW 0) zQ))) (zK wM) yD))
theorem uE:zJ ["box","people","left","names","nexts","name"] ["box","people","left","names"] (zT yF):=by sleep 1
theorem kE (T:Txt K mg){f:Addr}{fd:FuncData}(h:Has K mg "following_tree" yF f fd ["box","people","left","names"]):∀n,FnOk P w K mg base CX0 (1+n) f fd ["box","people","left","names"] (spF false (yQ n)):=by
 intro n
 induction n with
 | zero=>exact xR6
 | succ n G_following_tree =>
 have h0:=h
 refine wY [4] h.F uE fun cdv A outer s H E hr => ?_
 have nd:=uE.nd
 have u:=hr.units
 exact (zM (wO (xC (uL u) zX8 (zW 2) xD) (zK (yK zB2)) yD) (zM (jI 4 nd (vV zL9 yW8 (wX (zP zB2 zQ)) (zW 1))) (zM (uR (wA T.g_range (zN (zW 1) zQ)) (xT 5 nd) (zK (wO (xC vT xR8 (zW 5) (zW 3)) (zK (zM9 4 (yV G_following_tree h0 hr (fun _ _ h=>h) (zP (zW 5) (zP (zW 1) (zP (vV zS1 zC4 (zW 2) xD) (zP (RE.cl (vV fK zD2 (zW 3) (wX (zP (zW 5) zQ)))) zQ))))) (zW 5))) yD))) (zK (yK (cF (zP (zW 0) (zP (uS yX kC T.g_tuple (by rfl) (zN (kF 4) zQ)) zQ))))))))
theorem fG (T:Txt K mg){f:Addr}{fd:FuncData}(h:Has K mg "following_tree" yF f fd ["box","people","left","names"]):FnOk P w K mg base CX0 9 f fd ["box","people","left","names"] (spF false yG):=kE T h 8
theorem uD:zJ ["openings","numbers","people"] ["openings"] (zT yH):=by sleep 1
theorem fH (T:Txt K mg){f:Addr}{fd:FuncData}(h:Has K mg "following_plan" yH f fd ["openings"]):FnOk P w K mg base CX0 10 f fd ["openings"] (spF false yE):=by
 obtain⟨_,_,h0⟩:=T.d_openings_of_a_plan
 obtain⟨_,_,h1⟩:=T.d_following_tree
 refine wY [] h.F uD fun cdv A outer s H E hr => ?_
 have nd:=uD.nd
 have u:=hr.units
 exact (zM (qF 1 nd (yV (jO T h0) h0 (hr.mono (by decide)) (fun _ _ h=>h) (zP (zW 0) zQ))) (zM (qF 2 nd (zC zG yJ T.g_len PySem.boot_len (zN (zW 1) zQ))) (zK (yK (uS yX kC T.g_tuple (by rfl) (zN (yU4 (sc0:=zT yH) (N0:=["openings","numbers","people"]) (fs:=["people"]) (js:=[2]) (by exact⟨rfl,by decide +kernel,by decide +kernel,by decide +kernel,by decide +kernel,by decide +kernel,rfl,by decide +kernel,by decide +kernel⟩) rfl rfl rfl (RIo.c (zW7 T.g_enumerate (RE.rd (zW 1)))) (fun _ _ _ _=>qS) (fun _ _ _ _=>(yV (fG T h1) h1 (hr.mono (by decide)) (fun _ _ h=>h) (zP (zW 0) (zP (zW 2) (zP (zW 1) (zP (RE.cl (wX (zP (zW 0) zQ))) zQ))))))) zQ))))))
theorem kI:zJ ["plan","openings","order"] ["plan","openings","order"] (zT vP):=by sleep 1
theorem kG (T:Txt K mg){f:Addr}{fd:FuncData}(h:Has K mg "check_game" vP f fd ["plan","openings","order"]):FnOk P w K mg base CX0 2 f fd ["plan","openings","order"] (spF false vU):=by
 obtain⟨_,_,h0⟩:=T.d_made_openings
 obtain⟨_,_,h1⟩:=T.d_check_boxes
 refine wY [] h.F kI fun cdv A outer s H E hr => ?_
 have nd:=kI.nd
 have u:=hr.units
 exact (zM (gC (yV (qO T h0) h0 (hr.mono (by decide)) (fun _ _ h=>h) (zP (zC zG yJ T.g_len PySem.boot_len (zN (zW 0) zQ)) (zP (zW 1) zQ)))) (zK (gC (yV (bF T h1) h1 (hr.mono (by decide)) (fun _ _ h=>h) (zP (zW 0) (zP (zW 2) zQ))))))
theorem dR:zJ ["tree","person","seen","name_in","boxes","last","rest","box"] ["tree","person","seen","name_in"] (zT qW):=by sleep 1
theorem zO9 (T:Txt K mg){f:Addr}{fd:FuncData}(h:Has K mg "one_turn" qW f fd ["tree","person","seen","name_in"]):FnOk P w K mg base CX0 2 f fd ["tree","person","seen","name_in"] (spTurn P w K mg base 1):=by
 refine (yC4 (k:=1) (kk:=1)) h.F dR rfl rfl fun cdv A outer s H E hr => ?_
 have nd:=dR.nd
 exact (zH (yZ (i:=4) nd rfl (by first | exact Or.inl rfl | exact Or.inr rfl) (xO zO)) (zH (yZ (i:=5) nd rfl (by first | exact Or.inl rfl | exact Or.inr rfl) (pv 1)) (zH (yZ (i:=6) nd rfl (by first | exact Or.inl rfl | exact Or.inr rfl) (pv 0)) (zH (yO3 PassesOwn.never (wE vT (pv 1) (pv 2) rfl) (zH (yZ (i:=7) nd rfl (by first | exact Or.inl rfl | exact Or.inr rfl) (yR6 (zS9 (yZ3 (pv 6))) (qC PySem.F.plainAttrs_list PySem.F.slot_list_index PySem.F.type_list_index yQ6 (pv 2) (zU gH zO)) (xX wV (pv 6) yY (fun _ _=>rfl)))) (zH (kN (zS9 (yZ3 (xX vI (pv 2) (pv 7) (fun _ _=>rfl)))) (zH (wG (qC PySem.F.plainAttrs_list PySem.F.slot_list_append PySem.F.type_list_append wD (pv 4) (zU (pv 7) zO))) (zH (yZ (i:=5) nd rfl (by first | exact Or.inl rfl | exact Or.inr rfl) (yP5 (i:=3) hr rfl (by first | exact Or.inl rfl | exact Or.inr (Or.inl rfl)) (zU (pv 7) (zU (pv 5) zO)))) (yW (dA (pv 5) (zQ2 (pv 2) (pv 7) dM))))) qT) (yW (kN (zS9 (yH8 (pv 6))) (yW (yZ (i:=6) nd rfl (by first | exact Or.inl rfl | exact Or.inr rfl) (xX wV (xX wV (pv 6) yY (fun _ _=>rfl)) (xX vI (pv 2) (pv 7) (fun _ _=>rfl)) (fun _ _=>rfl)))) qT))))) (yW (wS (jT (zU (pv 1) (zU (yB yX rfl T.g_tuple (by rfl) (zU (pv 4) zO)) zO)))))))))
theorem zY3:zJ ["plan","openings","name_in","seen","done","person"] ["plan","openings","name_in"] (zT vA):=by sleep 1
theorem aF (T:Txt K mg){f:Addr}{fd:FuncData}(h:Has K mg "played" vA f fd ["plan","openings","name_in"]):FnOk P w K mg base CX0 4 f fd ["plan","openings","name_in"] (spPlayed P w K mg base 1 orK):=by
 obtain⟨_,_,h0⟩:=T.d_one_turn
 obtain⟨c_t,P_t,e_t,hc_t⟩:=T.t_played
 refine (zH2 (k:=3) (kk:=1)) h.F zY3 rfl rfl (hc_t _ _ h) fun A outer s H E hr => ?_
 have nd:=zY3.nd
 exact (zH (yZ (i:=3) nd rfl (by first | exact Or.inl rfl | exact Or.inr rfl) (uB xY5 (xO (zU gH zO)) (jA zG rfl T.g_len PySem.boot_len (zU (pv 0) zO)))) (zH (yZ (i:=4) nd rfl (by first | exact Or.inl rfl | exact Or.inr rfl) (xO zO)) (zH (cV PassesOwn.never rfl (yJ1 (yV1 (k:=0) (j:=1) (one:="one") (y:="openings") (x:="played") hr rfl rfl T.g_sorted (zU (yB zY2 rfl T.g_range (by rfl) (zU (jA zG rfl T.g_len PySem.boot_len (zU (pv 0) zO)) zO)) zO) (by decide) e_t rfl rfl rfl (fun cl ec=>jX (by rfl) ec) (LamScope.of rfl rfl rfl (by decide +kernel) (by decide +kernel) (by rfl) (by decide +kernel) (by decide +kernel)) rfl rfl (fun cl us pm cd ctv hl=>match us,hl with | [_],_=>rfl) (fun A H outer s f cl c1=>(jT (zU (xX wV (pv 1) (pv 0) (fun _ _=>rfl)) (zU (pv 0) zO)))))) (vL (i:=5) nd rfl (by first | exact Or.inl rfl | exact Or.inr rfl)) (yW (kN (wE vT (pv 5) (pv 3) rfl) (yW (wG (qC PySem.F.plainAttrs_list PySem.F.slot_list_append PySem.F.type_list_append wD (pv 4) (zU (yS (zO9 T h0) (hr.mono (by decide)) rfl h0.m h0.F.kp h0.b .nil pass0 (zU (xX wV (pv 0) (pv 5) (fun _ _=>rfl)) (zU (pv 5) (zU (pv 3) (zU (pv 2) zO))))) zO)))) qT))) (yW (wS (jT (zU (pv 4) (zU (pv 3) zO))))))))
theorem zR5:zJ ["plan","openings","order"] ["plan","openings","order"] (zT qR):=by sleep 1
theorem yS6 (T:Txt K mg){f:Addr}{fd:FuncData}(h:Has K mg "turns" qR f fd ["plan","openings","order"]):FnOk P w K mg base CX0 5 f fd ["plan","openings","order"] (spF true fT):=by
 obtain⟨_,_,h0⟩:=T.d_check_game
 obtain⟨_,_,h1⟩:=T.d_played
 obtain⟨c_t,P_t,e_t,hc_t⟩:=T.t_turns
 refine yW2 [] h.F (hc_t _ _ h) zR5 fun A outer s H E hr => ?_
 have nd:=zR5.nd
 have u:=hr.units
 exact (zM (gC (yV (kG T h0) h0 (hr.mono (by decide)) (fun _ _ h=>h) (zP (zW 0) (zP (zW 1) (zP (zW 2) zQ))))) (zK (zN8 (zB9 (i:=0) (j:=0) (by decide) (yY9 (i:=0) (kk:=0) (x:="turns") (y:="order") (pl:="played") (b1:="box") (b2:="last") (by decide) (aF T h1) (hr.mono (by decide)) rfl h1.m h1.F.kp h1.b (pv 0) (pv 1) (by decide) e_t rfl rfl rfl (fun cl ec=>jX (by rfl) ec) (LamScope.of rfl rfl rfl (by decide +kernel) (by decide +kernel) (by rfl) (by decide +kernel) (by decide +kernel)) rfl rfl rfl (fun cl us pm cd ctv hl=>match us,hl with | [_,_],_=>rfl) (fun A H outer s f cl c1=>(xX wV (pv 2) (pv 0) (fun _ _=>rfl)))) yY (fun _ _=>rfl) (by exact⟨List.not_mem_nil,List.not_mem_nil⟩) (by exact⟨List.not_mem_nil,List.not_mem_nil⟩) (by exact⟨List.not_mem_nil,List.not_mem_nil⟩)))))
theorem cH:zJ ["plan","openings","order","rings","person","boxes"] ["plan","openings","order"] (zT uO):=by sleep 1
theorem cE (T:Txt K mg){f:Addr}{fd:FuncData}(h:Has K mg "written" uO f fd ["plan","openings","order"]):FnOk P w K mg base CX0 6 f fd ["plan","openings","order"] (spF false xS):=by
 obtain⟨_,_,h0⟩:=T.d_turns
 obtain⟨_,_,h1⟩:=T.d_order_by
 refine wY [3] h.F cH fun cdv A outer s H E hr => ?_
 have nd:=cH.nd
 have u:=hr.units
 exact (zM (jI 3 nd (wX zQ)) (zM (uR (qQ (RE.rd (RE.cl (yO6 (yS6 T h0) h0 (hr.mono (by decide)) (fun _ _ h=>h) (zP (zW 0) (zP (zW 1) (zP (zW 2) zQ))))))) (yZ9 rfl (kQ (xT 4 nd) (kQ (xT 5 nd) zK3))) (zK (yI5 3 PySem.F.slot_list_append PySem.F.type_list_append wD yW6 (zP (RE.cl (vV fK zD2 (wX (zP (zW 4) zQ)) (fN (sc0:=zT uO) (N0:=["plan","openings","order","rings","person","boxes"]) (fs:=["order"]) (js:=[2]) (by sleep 2) rfl rfl rfl (RI.c (qQ (RE.rd (kB (zW 5) fR (jQ (yB3 xD)))))) (fun _ _ _ _=>qS) (fun _ _ _ _=>(fL jN gD (zW 1) (zW 0)))))) zQ)))) (zK (yK (aL (zN1 T h1) h1 (hr.mono (by decide)) (fun _ _ h=>h) (zN (kF 3) zQ))))))
theorem gF:zJ ["plan","openings","order"] ["plan","openings","order"] (zT xN):=by sleep 1
theorem zR6 (T:Txt K mg){f:Addr}{fd:FuncData}(h:Has K mg "unwritten" xN f fd ["plan","openings","order"]):FnOk P w K mg base CX0 5 f fd ["plan","openings","order"] (spF false uU):=by
 obtain⟨_,_,h0⟩:=T.d_check_game
 obtain⟨_,_,h1⟩:=T.d_played
 obtain⟨c_t,P_t,e_t,hc_t⟩:=T.t_unwritten
 refine yW2 [] h.F (hc_t _ _ h) gF fun A outer s H E hr => ?_
 have nd:=gF.nd
 have u:=hr.units
 exact (zM (gC (yV (kG T h0) h0 (hr.mono (by decide)) (fun _ _ h=>h) (zP (zW 0) (zP (zW 1) (zP (zW 2) zQ))))) (zK (yK (uS yX kC T.g_tuple (by rfl) (zN (zB9 (i:=1) (j:=1) (by decide) (yY9 (i:=1) (kk:=0) (x:="unwritten") (y:="order") (pl:="played") (b1:="box") (b2:="last") (by decide) (aF T h1) (hr.mono (by decide)) rfl h1.m h1.F.kp h1.b (pv 0) (pv 1) (by decide) e_t rfl rfl rfl (fun cl ec=>jX (by rfl) ec) (LamScope.of rfl rfl rfl (by decide +kernel) (by decide +kernel) (by rfl) (by decide +kernel) (by decide +kernel)) rfl rfl rfl (fun cl us pm cd ctv hl=>match us,hl with | [_,_],_=>rfl) (fun A H outer s f cl c1=>(xX wV (pv 2) (pv 1) (fun _ _=>rfl)))) yY (fun _ _=>rfl) (by exact⟨List.not_mem_nil,List.not_mem_nil⟩) (by exact⟨List.not_mem_nil,List.not_mem_nil⟩) (by exact⟨List.not_mem_nil,List.not_mem_nil⟩)) zQ)))))
theorem gQ:zJ ["script","k"] ["script","k"] (zT uV):=by sleep 1
theorem zU7 (T:Txt K mg){f:Addr}{fd:FuncData}(h:Has K mg "_law_cell_at" uV f fd ["script","k"]):FnOk P w K mg base CX0 1 f fd ["script","k"] (spF false wQ):=by
 refine wY [] h.F gQ fun cdv A outer s H E hr => ?_
 have nd:=gQ.nd
 have u:=hr.units
 exact (zM (wO (xC yM4 yM3 (zW 1) (zC zG yJ T.g_len PySem.boot_len (zN (zW 0) zQ))) (zK (yK (fL jN gD (zW 0) (zW 1)))) yD) (zK (yK xD)))
theorem aM:zJ ["script","start","many"] ["script","start","many"] (zT qP):=by sleep 1
theorem zC6 (T:Txt K mg){f:Addr}{fd:FuncData}(h:Has K mg "_law_sums" qP f fd ["script","start","many"]):FnOk P w K mg base CX0 1 f fd ["script","start","many"] (spF true jB):=by
 refine wY [] h.F aM fun cdv A outer s H E hr => ?_
 have nd:=aM.nd
 have u:=hr.units
 exact (zK (zN8 (fN (sc0:=zT qP) (N0:=["script","start","many"]) (fs:=["script","start","many"]) (js:=[0,1,2]) (by sleep 2) rfl rfl rfl (RI.c (wA T.g_range (zN (zW 2) zQ))) (fun _ _ _ _=>qS) (fun _ _ _ _=>(zC (zD5 rfl) xU9 T.g_sum PyProof.Rows.boot_sum (zN (yY1 (zW 1) (jQ (vV cG yW5 (zW 2) (zW 0))) fR (jQ (zW 3))) zQ))))))
theorem zZ7:zJ ["pot","many","digit"] ["pot","many"] (zT kZ):=by sleep 1
theorem xJ (T:Txt K mg){f:Addr}{fd:FuncData}(h:Has K mg "_law_take" kZ f fd ["pot","many"]):FnOk P w K mg base CX0 1 f fd ["pot","many"] spTake:=by
 refine yC2 h.F zZ7 rfl rfl fun cdv A outer s H E hr => ?_
 have nd:=zZ7.nd
 exact (zH (yZ (i:=2) nd rfl (by first | exact Or.inl rfl | exact Or.inr rfl) (uB xW3 (xX vI (pv 0) yY (fun _ _=>rfl)) (pv 1))) (zH (dA (uB yN5 (xX vI (pv 0) yY (fun _ _=>rfl)) (pv 1)) (zQ2 (pv 0) yY dM)) (yW (wS (pv 2)))))
theorem kJ:zJ ["pot","people"] ["pot","people"] (zT xI):=by sleep 1
theorem zY7 (T:Txt K mg){f:Addr}{fd:FuncData}(h:Has K mg "_law_openings" xI f fd ["pot","people"]):FnOk P w K mg base CX0 2 f fd ["pot","people"] spOpn:=by
 obtain⟨_,_,h0⟩:=T.d_l_take
 refine xY8 h.F kJ rfl rfl fun cdv A outer s H E hr => ?_
 have nd:=kJ.nd
 exact (yW (wS (yB yX rfl T.g_tuple (by rfl) (zU (bR (sc0:=zT xI) (N0:=["pot","people"]) (fs:=["pot","people"]) (js:=[0,1]) (by sleep 2) rfl rfl rfl (wC rfl T.g_range (zU (pv 1) zO)) (fun _ _ _ _=>.nil) (fun _ _ _ _=>(yS (xJ T h0) (hr.mono (by decide)) rfl h0.m h0.F.kp h0.b .nil pass0 (zU (pv 1) (zU (uB cG (pv 2) yY) zO))))) zO))))
theorem zZ2:zJ ["pot","people","left","boxes","names","thin","closed","box","nexts","name"] ["pot","people","left","boxes","names","thin"] (zT uZ):=by sleep 1
theorem zH5 (T:Txt K mg){f:Addr}{fd:FuncData}(h:Has K mg "_law_tree" uZ f fd ["pot","people","left","boxes","names","thin"]):∀n,FnOk P w K mg base CX0 (2+n) f fd ["pot","people","left","boxes","names","thin"] (spTree n):=by
 intro n
 induction n with
 | zero=>exact yE2
 | succ n G_l_tree =>
 have h0:=h
 obtain⟨_,_,h1⟩:=T.d_l_take
 refine yD9 h.F zZ2 rfl rfl fun cdv A outer s H E hr => ?_
 have nd:=zZ2.nd
 exact (zH (kN (PW.pt (pw_or (wE (uL hr.units) (pv 2) yY (nomark _)) (pw_or1 (PW.pt (pw_and (yZ7 (pv 5)) (pw_and1 (wE (uL hr.units) (yS (xJ T h1) (hr.mono (Nat.le_trans (by decide) (Nat.le_add_right _ _))) rfl h1.m h1.F.kp h1.b .nil pass0 (zU (pv 0) (zU yY zO))) yY (nomark _)))))))) (yW (wS gH)) qT) (zH (zM1 (i:=6) (sc0:=zT uZ) (N0:=["pot","people","left","boxes","names","thin","closed","box","nexts","name"]) (fs:=["boxes"]) (js:=[3]) (by sleep 2) rfl rfl rfl (wC rfl T.g_range (zU (pv 1) zO)) (fun _ _ _ _=>.one (wE vT (pv 0) (pv 1) rfl)) (fun _ _ _ _=>pv 0) nd rfl (by first | exact Or.inl rfl | exact Or.inr rfl) rfl (by intro _;rfl) (by first | exact .inl rfl | exact .inr rfl)) (zH (yZ (i:=7) nd rfl (by first | exact Or.inl rfl | exact Or.inr rfl) (xX vI (pv 6) (yS (xJ T h1) (hr.mono (Nat.le_trans (by decide) (Nat.le_add_right _ _))) rfl h1.m h1.F.kp h1.b .nil pass0 (zU (pv 0) (zU (jA zG rfl T.g_len PySem.boot_len (zU (pv 6) zO)) zO))) (fun _ _=>rfl))) (zH (yZ (i:=8) nd rfl (by first | exact Or.inl rfl | exact Or.inr rfl) (xO zO)) (zH (cV PassesOwn.never rfl (wC rfl T.g_range (zU (pv 1) zO)) (vL (i:=9) nd rfl (by first | exact Or.inl rfl | exact Or.inr rfl)) (yW (kN (wE yW3 (pv 9) (pv 4) rfl) (yW (wG (qC PySem.F.plainAttrs_list PySem.F.slot_list_append PySem.F.type_list_append wD (pv 8) (zU gH zO)))) (yW (wG (qC PySem.F.plainAttrs_list PySem.F.slot_list_append PySem.F.type_list_append wD (pv 8) (zU (yS G_l_tree hr rfl h0.m h0.F.kp h0.b .nil pass0 (zU (pv 0) (zU (pv 1) (zU (uB zS1 (pv 2) yY) (zU (uB fK (pv 3) (xO (zU (pv 7) zO))) (zU (uB fK (pv 4) (xO (zU (pv 9) zO))) (zU (pv 5) zO))))))) zO))))))) (yW (wS (jT (zU (pv 7) (zU (yB yX rfl T.g_tuple (by rfl) (zU (pv 8) zO)) zO))))))))))
theorem yY7 (T:Txt K mg){f:Addr}{fd:FuncData}(h:Has K mg "_law_tree" uZ f fd ["pot","people","left","boxes","names","thin"]):FnOk P w K mg base CX0 10 f fd ["pot","people","left","boxes","names","thin"] (spTree 8):=zH5 T h 8
theorem zZ8:zJ ["script","people","openings","trees","cells","person","pot","thin"] ["script","people","openings"] (zT jG):=by sleep 1
theorem zE9 (T:Txt K mg){f:Addr}{fd:FuncData}(h:Has K mg "_law_plan" jG f fd ["script","people","openings"]):FnOk P w K mg base CX0 11 f fd ["script","people","openings"] (spF false kM):=by
 obtain⟨_,_,h0⟩:=T.d_l_sums
 obtain⟨_,_,h1⟩:=T.d_l_take
 obtain⟨_,_,h2⟩:=T.d_l_tree
 refine (yD3 jB (k:=8) (by decide)) h.F zZ8 rfl rfl fun cdv A outer s H E hr => ?_
 have nd:=zZ8.nd
 exact (zH (yZ (i:=3) nd rfl (by first | exact Or.inl rfl | exact Or.inr rfl) (xO zO)) (zH (yZ (i:=4) nd rfl (by first | exact Or.inl rfl | exact Or.inr rfl) (yS (zC6 T h0) (hr.mono (by decide)) rfl h0.m h0.F.kp h0.b .nil pass0 (zU (pv 0) (zU yY (zU (pv 1) zO))))) (zH (cV PassesOwn.never rfl (wC rfl T.g_range (zU (pv 1) zO)) (vL (i:=5) nd rfl (by first | exact Or.inl rfl | exact Or.inr rfl)) (zH (yZ (i:=6) nd rfl (by first | exact Or.inl rfl | exact Or.inr rfl) (xO (zU (xX vI (pv 4) (pv 5) (fun _ _=>rfl)) zO))) (zH (yZ (i:=7) nd rfl (by first | exact Or.inl rfl | exact Or.inr rfl) (zK6 (uL hr.units) (yS (xJ T h1) (hr.mono (by decide)) rfl h1.m h1.F.kp h1.b .nil pass0 (zU (pv 6) (zU yY zO))) yY (nomark _))) (yW (wG (qC PySem.F.plainAttrs_list PySem.F.slot_list_append PySem.F.type_list_append wD (pv 3) (zU (yS (yY7 T h2) (hr.mono (by decide)) rfl h2.m h2.F.kp h2.b .nil pass0 (zU (pv 6) (zU (pv 1) (zU (xX wV (pv 2) (pv 5) (fun _ _=>rfl)) (zU (xO zO) (zU (xO (zU (pv 5) zO)) (zU (pv 7) zO))))))) zO))))))) (yW (wS (yB yX rfl T.g_tuple (by rfl) (zU (pv 3) zO)))))))
theorem fC:zJ ["script","pot","people","openings"] ["script"] (zT vZ):=by sleep 1
theorem zO3 (T:Txt K mg){f:Addr}{fd:FuncData}(h:Has K mg "_law_ground" vZ f fd ["script"]):FnOk P w K mg base CX0 3 f fd ["script"] (spF false qZ):=by
 obtain⟨_,_,h0⟩:=T.d_l_cell_at
 obtain⟨_,_,h1⟩:=T.d_l_take
 obtain⟨_,_,h2⟩:=T.d_l_openings
 refine (xS6 4 5 4 wQ ⟨by decide,by decide⟩ ⟨by decide,by decide⟩ ⟨by decide,by decide⟩) h.F fC rfl rfl fun cdv A outer s H E hr => ?_
 have nd:=fC.nd
 exact (zH (yZ (i:=1) nd rfl (by first | exact Or.inl rfl | exact Or.inr rfl) (xO (zU (yS (zU7 T h0) (hr.mono (by decide)) rfl h0.m h0.F.kp h0.b .nil pass0 (zU (pv 0) (zU yY zO))) zO))) (zH (yZ (i:=2) nd rfl (by first | exact Or.inl rfl | exact Or.inr rfl) (uB cG yY (yS (xJ T h1) (hr.mono (by decide)) rfl h1.m h1.F.kp h1.b .nil pass0 (zU (pv 1) (zU yY zO))))) (zH (yZ (i:=3) nd rfl (by first | exact Or.inl rfl | exact Or.inr rfl) (yS (zY7 T h2) (hr.mono (by decide)) rfl h2.m h2.F.kp h2.b .nil pass0 (zU (pv 1) (zU (pv 2) zO)))) (zH (kN (wE (uL hr.units) (yS (xJ T h1) (hr.mono (by decide)) rfl h1.m h1.F.kp h1.b .nil pass0 (zU (pv 1) (zU yY zO))) yY (nomark _)) (zH (yZ (i:=2) nd rfl (by first | exact Or.inl rfl | exact Or.inr rfl) yY) (yW (yZ (i:=3) nd rfl (by first | exact Or.inl rfl | exact Or.inr rfl) (yB yX rfl T.g_tuple (by rfl) (zU (bR (sc0:=zT vZ) (N0:=["script","pot","people","openings"]) (fs:=["pot"]) (js:=[1]) (by sleep 2) rfl rfl rfl (wC rfl T.g_range (zU (pv 2) zO)) (fun _ _ _ _=>.nil) (fun _ _ _ _=>(yS (xJ T h1) (hr.mono (by decide)) rfl h1.m h1.F.kp h1.b .nil pass0 (zU (pv 1) (zU yY zO))))) zO))))) qT) (yW (wS (jT (zU (pv 2) (zU (pv 3) zO)))))))))
theorem jY:zJ ["people","orders","person","wider","order"] ["people"] (zT xW):=by sleep 1
theorem dC (T:Txt K mg){f:Addr}{fd:FuncData}(h:Has K mg "_law_all_orders" xW f fd ["people"]):FnOk P w K mg base CX0 1 f fd ["people"] (spF false wZ):=by
 refine wY [3] h.F jY fun cdv A outer s H E hr => ?_
 have nd:=jY.nd
 have u:=hr.units
 exact (zM (qF 1 nd (RE.cl (wX (zP (cF zQ) zQ)))) (zM (uR (wA T.g_range (zN (zW 0) zQ)) (xT 2 nd) (zM (jI 3 nd (wX zQ)) (zM (uR (qQ (RE.rd (zW 1))) (xT 4 nd) (zK (yY6 3 (fN (sc0:=zT xW) (N0:=["people","orders","person","wider","order"]) (fs:=["order","person"]) (js:=[4,2]) (by sleep 2) rfl rfl rfl (RI.c (wA T.g_range (zN (vV cG yW5 (zC zG yJ T.g_len PySem.boot_len (zN (zW 4) zQ)) xD) zQ))) (fun _ _ _ _=>qS) (fun _ _ _ _=>(vV zL3 zK8 (vV zL3 zK8 (kB (zW 1) fR (jQ (zW 0))) (cF (zP (zW 2) zQ))) (kB (zW 1) (jQ (zW 0)) fR))))))) (zK (yD4 1 3 nd))))) (zK (yK (zW 1)))))
theorem yX1:zJ ["script","people","openings","plan","orders","shown_ones","k","wide","follow"] ["script"] (zT fS):=by sleep 1
theorem yC8 (T:Txt K mg){f:Addr}{fd:FuncData}(h:Has K mg "law" fS f fd ["script"]):FnOk P w K mg base CX0 12 f fd ["script"] (spF false zH1):=by
 obtain⟨_,_,h0⟩:=T.d_l_ground
 obtain⟨_,_,h1⟩:=T.d_l_plan
 obtain⟨_,_,h2⟩:=T.d_l_all_orders
 obtain⟨_,_,h3⟩:=T.d_written
 obtain⟨_,_,h4⟩:=T.d_unwritten
 obtain⟨_,_,h5⟩:=T.d_following_plan
 refine wY [] h.F yX1 fun cdv A outer s H E hr => ?_
 have nd:=yX1.nd
 have u:=hr.units
 exact (zM (yI8 (yV (zO3 T h0) h0 (hr.mono (by decide)) (fun _ _ h=>h) (zP (zW 0) zQ)) (yZ9 rfl (kQ (xT 1 nd) (kQ (xT 2 nd) zK3)))) (zM (qF 3 nd (yV (zE9 T h1) h1 (hr.mono (by decide)) (fun _ _ h=>h) (zP (zW 0) (zP (zW 1) (zP (zW 2) zQ))))) (zM (qF 4 nd (yV (dC T h2) h2 (hr.mono (by decide)) (fun _ _ h=>h) (zP (zW 1) zQ))) (zM (yG7 5 nd (sc0:=zT fS) (N0:=["script","people","openings","plan","orders","shown_ones","k","wide","follow"]) (fs:=["plan","openings"]) (js:=[3,2]) (by sleep 2) rfl rfl rfl (RI.c (qQ (RE.rd (zW 4)))) (fun _ _ _ _=>qS) (fun _ _ _ _=>(yV (cE T h3) h3 (hr.mono (by decide)) (fun _ _ h=>h) (zP (zW 1) (zP (zW 2) (zP (zW 0) zQ)))))) (zM (wO (xC (cR u) zW1 (zC gZ zT8 T.g_sorted (by rfl) (zN (zW 5) zQ)) (zC gZ zT8 T.g_sorted (by rfl) (zN (zW 4) zQ))) (zK (yK yM6)) yD) (zM (uR (wA T.g_range (zN (zC zG yJ T.g_len PySem.boot_len (zN (zW 4) zQ)) zQ)) (xT 6 nd) (zK (wO (xC (cR u) zW1 (yV (zR6 T h4) h4 (hr.mono (by decide)) (fun _ _ h=>h) (zP (zW 3) (zP (zW 2) (zP (fL jN gD (zW 5) (zW 6)) zQ)))) (fL jN gD (zW 4) (zW 6))) (zK (yK yM6)) yD))) (zM (qF 7 nd (vV yJ6 yI6 (cF (zP (zW 1) zQ)) (zW 1))) (zM (qF 8 nd (yV (fH T h5) h5 (hr.mono (by decide)) (fun _ _ h=>h) (zP (zW 7) zQ))) (zK (yK (zC (zC3 rfl) xY2 T.g_all (by rfl) (zN (fN (sc0:=zT fS) (N0:=["script","people","openings","plan","orders","shown_ones","k","wide","follow"]) (fs:=["follow","wide"]) (js:=[8,7]) (by sleep 2) rfl rfl rfl (RI.c (qQ (RE.rd (zW 4)))) (fun _ _ _ _=>qS) (fun _ _ _ _=>(zB8 (uL u) zX8 (yV (cE T h3) h3 (hr.mono (by decide)) (fun _ _ h=>h) (zP (zW 1) (zP (zW 2) (zP (zW 0) zQ)))) (zW 0)))) zQ))))))))))))
end
end K32
namespace K32
open PySem L2 L2.L3 MR
def evA:=(And.intro (And.intro (And.intro (And.intro (And.intro (And.intro @xZ1 (And.intro @yN3 @yT1)) (And.intro @xQ8 (And.intro @aX @xU1))) (And.intro (And.intro @xY3 (And.intro @xS2 @xS7)) (And.intro @xP8 (And.intro @yA4 @xU2)))) (And.intro (And.intro (And.intro @xO4 (And.intro @xR7 @cZ)) (And.intro @xV2 (And.intro @xP5 @xR9))) (And.intro (And.intro @xQ4 (And.intro @xU5 @zW5)) (And.intro (And.intro @xQ2 @xQ6) (And.intro @xR1 @xS8))))) (And.intro (And.intro (And.intro (And.intro @xS4 (And.intro @xO6 @xQ9)) (And.intro @zX3 (And.intro @eV0 @eVs))) (And.intro (And.intro @xR2 (And.intro @zX1 @zX5)) (And.intro (And.intro @xT8 @xY4) (And.intro @xP4 @zX6)))) (And.intro (And.intro (And.intro @zW2 (And.intro @xT9 @yA8)) (And.intro @xV8 (And.intro @xQ5 @cB))) (And.intro (And.intro @xP6 (And.intro @xU4 @xX3)) (And.intro (And.intro @zW4 @zX4) (And.intro @xT6 @xR4)))))) (And.intro (And.intro (And.intro (And.intro (And.intro @xO9 (And.intro @yH5 @xO8)) (And.intro @zX2 (And.intro @yF5 @zD6))) (And.intro (And.intro @yY4 (And.intro @cL @bB)) (And.intro (And.intro @yN1 @yH2) (And.intro @xO2 @xP2)))) (And.intro (And.intro (And.intro @yE3 (And.intro @zX9 @xZ5)) (And.intro @xW6 (And.intro @yA2 @yA9))) (And.intro (And.intro @yA6 (And.intro @xU6 @xV5)) (And.intro (And.intro @xY9 @yA1) (And.intro @xX6 @mkL0))))) (And.intro (And.intro (And.intro (And.intro @mkL1 (And.intro @mkL2 @mkL3)) (And.intro @mkL4 (And.intro @mkT0 @mkT1))) (And.intro (And.intro @mkT2 (And.intro @mkT3 @Res.bind_ok)) (And.intro (And.intro @Res.bind_no @Res.bind_ex) (And.intro @Res.lft_some @Res.lft_none)))) (And.intro (And.intro (And.intro @Option.map_some.{0,0} (And.intro @Option.bind_some.{0,0} @List.set_cons_zero.{0})) (And.intro @List.set_cons_succ.{0} (And.intro @List.length_cons.{0} @List.length_nil.{0}))) (And.intro (And.intro @if_true.{1} (And.intro @if_false.{1} @Bool.false_eq_true)) (And.intro (And.intro @ite_true.{1} @ite_false.{1}) (And.intro @Bool.not_true @Bool.not_false)))))))
structure Opn (n:Nat) (ops:List Int):Prop where
 len:ops.length=n
 bd:∀x∈ops,0<=x/\x<=n
theorem qH {n:Nat}{ops:List Int}(p:Opn n ops) (h1:1<=n) (h2:n<=60):xK [.int n,tI ops]=.ok (tI ops):=by
 show (vQ [some (.int n),some (tI ops)]).bind (fin false)=_
 unfold vQ
 have hne:ops ≠ []:=fun z=>by have:=p.len;rw[z] at this;simp at this;bv_omega
 have a1:=p.bd _ (zU6 hne)
 have a2:=p.bd _ (zS4 hne)
 simp -implicitDefEqProofs only[(evA),List.length_map,p.len,zI5,yJ3 hne,yK3 hne,decide_eq_true (show (1:Int)<=(n:Int) by bv_omega),decide_eq_true (show (n:Int)<=60 by bv_omega),decide_true,decide_eq_false (show ¬minL ops<0 by bv_omega),decide_eq_false (show ¬(n:Int)<maxL ops by bv_omega)]
theorem Opn.at {n:Nat}{ops:List Int}(q:Opn n ops){p:Nat}(h:p<n):0<=ops.getD p 0/\ops.getD p 0<=n:=q.bd _ (MR.getD_mem (by rw[q.len];exact h))
def rI' (r:List Nat):List Int:=r.map fun (b:Nat)=>(b:Int)
def fd (n:Nat) (xs ops:List Int) (p:Nat):Bool:=decide (per n xs p<=(ops.getD p 0).toNat)
theorem wW (l:List Nat):(rI' l).length=l.length:=by unfold rI';simp
theorem zT7:∀l:List Int,lfs (l.map PyData.int)=true
 | []=>rfl
 | a::l=>by rw[List.map_cons,lfs,zT7 l];rfl
theorem xV7 (l:List Int):lfT false (tI l)=true:=by
 show lf (.tuple (l.map PyData.int))=true
 rw[lf,zT7]
theorem yA5 {n i:Nat}(f:Nat->D) (v:D) (h:i<n):setD ((List.range n).map f) (.int (i:Int)) v=some ((List.range n).map fun c=>if c=i then v else f c):=by
 unfold setD
 simp only
 rw[List.length_map,List.length_range,zK5 h,Option.map_some,yX7 h]
def ftD (n:Nat):Nat->Int->List Int->D
 | 0,_,_=>.none
 | l+1,b,ns=>.tuple [.int b,.tuple ((List.range n).map fun (i:Nat)=>if ns.contains (i:Int) then .none else ftD n l (i:Int) (ns ++ [(i:Int)]))]
theorem yW9 {n i:Nat}{f:Nat->D}(c:f i=.none):(List.range n).map (fun j=>if j<i then f j else PyData.none)=(List.range n).map fun j=>if j<i+1 then f j else PyData.none :=
 List.map_congr_left fun j _=>by
  by_cases e:j=i
  ·subst e
   rw[if_neg (Nat.lt_irrefl _),if_pos (Nat.lt_succ_self _),c]
  ·by_cases q:j<i
   ·rw[if_pos q,if_pos (by bv_omega)]
   ·rw[if_neg q,if_neg (by bv_omega)]
theorem yJ5 {n i:Nat}(f:Nat->D):((List.range n).map fun c=>if c=i then f i else if c<i then f c else PyData.none)=(List.range n).map fun j=>if j<i+1 then f j else PyData.none :=
 List.map_congr_left fun j _=>by
  by_cases e:j=i
  ·subst e
   rw[if_pos rfl,if_pos (Nat.lt_succ_self _)]
  ·rw[if_neg e]
   by_cases q:j<i
   ·rw[if_pos q,if_pos (by bv_omega)]
   ·rw[if_neg q,if_neg (by bv_omega)]
theorem yL7 {n:Nat}(f:Nat->D):((List.range n).map fun j=>if j<n then f j else PyData.none)=(List.range n).map f :=
 List.map_congr_left fun j hj=>if_pos (List.mem_range.mp hj)
theorem yR5 {n:Nat}(f:Nat->D):((List.range n).map fun j=>if j<0 then f j else PyData.none)=(List.range n).map fun _=>PyData.none :=
 List.map_congr_left fun j hj=>if_neg (Nat.not_lt_zero _)
theorem yU9 {n:Nat}(h:n<=1000):repL (.list [.none]) (.int (n:Int))=some (.list ((List.range n).map fun _=>PyData.none)):=by
 rw[zU8 _ _ h,List.map_const',List.length_range]
inductive TreeOk (n:Nat):Nat->List Int->List Int->D->Prop
 | none {l:Nat}{bs ns:List Int}:TreeOk n l bs ns .none
 | node {l:Nat}{bs ns:List Int}(b:Nat) (f:Nat->D):b<n->bs.contains (b:Int)=false->(∀i,i<n->ns.contains (i:Int)=true->f i=.none)->(∀i,i<n->TreeOk n l (bs ++ [(b:Int)]) (ns ++ [(i:Int)]) (f i))->TreeOk n (l+1) bs ns (.tuple [.int (b:Int),.tuple ((List.range n).map f)])
structure PlanOk (n:Nat) (ops:List Int) (t:Nat->D):Prop where
 tree:∀p,p<n->TreeOk n (ops.getD p 0).toNat [] [(p:Int)] (t p)
theorem zW8 (g:Nat->Int->D×Int) (p:Int):∀k,(runG g k p).1=(List.range k).map fun i=>(g i (runG g i p).2).1
 | 0=>rfl
 | k+1=>by
  rw[runG,zW8 g p k,List.range_succ,List.map_append]
  rfl
theorem yE7 {n:Nat}{bs:List Int}{x:Int}(h:x∈clN n bs):∃b:Nat,b<n/\x=(b:Int)/\bs.contains (b:Int)=false:=by
 unfold clN at h
 obtain⟨b,hb,rfl⟩:=List.mem_map.mp h
 obtain⟨h1,h2⟩:=List.mem_filter.mp hb
 exact⟨b,List.mem_range.mp h1,rfl,by simpa using h2⟩
theorem yM9 {n:Nat}{thin:Bool}:∀(l:Nat) (bs ns:List Int) (p:Int),bs.length+l<=n->TreeOk n l bs ns (trG n thin l bs ns p).1
 | 0,bs,ns,p,_=>.none
 | l+1,bs,ns,p,h=>by
  by_cases q:thin=true/\p%4=3
  ·rw[zM3 q]
   exact .none
  ·rw[zT6 q rfl rfl,zW8]
   have cp:=zN7 n bs (by bv_omega)
   generalize (if thin=true then p / 4 else p)=p1
   have h0:=Int.emod_nonneg p1 (show ((clN n bs).length:Int)≠0 by bv_omega)
   have h1:=Int.emod_lt_of_pos p1 (show (0:Int)<((clN n bs).length:Int) by bv_omega)
   obtain⟨b,hb,eb,nb⟩:=yE7 (MR.getD_mem (xs:=clN n bs) (i:=(p1%((clN n bs).length:Int)).toNat) (by bv_omega))
   rw[eb]
   refine .node b _ hb nb (fun i hi c => ?_) fun i hi => ?_
   ·unfold nxG
    rw[if_pos c]
   ·by_cases c:ns.contains (i:Int)=true
    ·have e:∀z:Int,(nxG n thin l bs ns (b:Int) i z).1=.none:=fun z=>by unfold nxG;rw[if_pos c]
     rw[e]
     exact .none
    ·have e:∀z:Int,nxG n thin l bs ns (b:Int) i z=trG n thin l (bs ++ [(b:Int)]) (ns ++ [(i:Int)]) z:=fun z=>by unfold nxG;rw[if_neg c]
     rw[e]
     exact yM9 l _ _ _ (by rw[List.length_append];simp;bv_omega)
theorem yM2 {n:Nat}:∀(l b:Nat) (bs:List Int),b<n->bs.contains (b:Int)=false->TreeOk n l bs (bs ++ [(b:Int)]) (ftD n l (b:Int) (bs ++ [(b:Int)]))
 | 0,b,bs,_,_=>.none
 | l+1,b,bs,hb,nb=>by
  rw[ftD]
  refine .node b _ hb nb (fun i hi c=>if_pos c) fun i hi => ?_
  by_cases c:(bs ++ [(b:Int)]).contains (i:Int)=true
  ·rw[if_pos c]
   exact .none
  ·rw[if_neg c]
   exact yM2 l i (bs ++ [(b:Int)]) hi (by simpa using c)
theorem xQ3 (n:Nat) (ops:List Int):PlanOk n ops fun p=>ftD n (ops.getD p 0).toNat (p:Int) [(p:Int)]:=⟨fun p hp=>yM2 _ p [] hp rfl⟩
theorem xS1 {n:Nat}{ops ms:List Int}(q:Opn n ops):PlanOk n ops (tr1 n ops ms):=⟨fun p hp=>yM9 _ _ _ _ (by have:=q.at hp;show 0+_<=n;bv_omega)⟩
theorem bS {n i:Nat}(f:Nat->D) (h:i<n):((List.range n).map f).getD i .none=f i:=by
 rw[List.getD,List.getElem?_map,List.getElem?_range h]
 rfl
theorem zS6 (ns:List Int) (k:Nat):wQ [lI ns,.int k]=.ok (.int (ns.getD k 0)):=by
 show (jV [some (lI ns),some (.int k)]).bind (fin false)=_
 unfold jV
 simp -implicitDefEqProofs only[(evA),List.length_map,wF]
 by_cases h:k<ns.length
 ·rw[decide_eq_true (by bv_omega)]
  simp -implicitDefEqProofs only[(evA),wJ h]
 ·rw[decide_eq_false (by bv_omega)]
  simp -implicitDefEqProofs only[(evA),List.getD_eq_getElem?_getD,List.getElem?_eq_none (Nat.le_of_not_lt h),Option.getD_none]
theorem zN6 {m:Int}{n:Nat}(p:Int) (hm:0<m) (h:m<=(n:Int)+1):Opn n (digD m p n):=by
 unfold digD
 refine⟨by rw[List.length_map,List.length_range],fun z hz => ?_⟩
 obtain⟨i,_,rfl⟩:=List.mem_map.mp hz
 have h0:=Int.emod_nonneg (pwD m p i) (Int.ne_of_gt hm)
 have h1:=Int.emod_lt_of_pos (pwD m p i) hm
 exact⟨h0,by bv_omega⟩
theorem xV9 (p:Int):∃(n:Nat) (ops:List Int),1<=n/\n<=5/\Opn n ops/\grD 4 5 4 p=.tuple [.int (n:Int),tI ops]:=by
 have h0:=Int.emod_nonneg p (show (4:Int)≠0 by decide)
 have h1:=Int.emod_lt_of_pos p (show (0:Int)<4 by decide)
 obtain⟨n,hn⟩:∃n:Nat,1+p%4=(n:Int):=⟨(1+p%4).toNat,by bv_omega⟩
 unfold grD
 rw[hn,Int.toNat_natCast]
 split
 ·exact⟨5,_,by decide,by decide,zN6 (m:=4) (n:=5) _ (by decide) (by decide),rfl⟩
 ·exact⟨n,_,by bv_omega,by bv_omega,zN6 _ (by bv_omega) (by bv_omega),rfl⟩
theorem zO8 (ns:List Int):∃(n:Nat) (ops:List Int),1<=n/\n<=5/\Opn n ops/\qZ [lI ns]=.ok (.tuple [.int (n:Int),tI ops]):=by
 obtain⟨n,ops,h1,h2,q,eg⟩:=xV9 (ns.getD 0 0)
 refine⟨n,ops,h1,h2,q,?_⟩
 have e':wQ [lI ns,.int 0]=.ok (.int (ns.getD 0 0)):=zS6 ns 0
 rw[<-eg]
 exact yA3 e'
theorem zG2 (ns:List Int){n:Nat}(h1:1<=n) (h2:n<=7):∃ms:List Int,ms.length=n/\jB [lI ns,.int 3,.int (n:Int)]=.ok (lI ms):=by
 refine⟨(List.range n).map fun (k:Nat)=>(pick3 ns (some (3+(k:Int))) none (some (n:Int))).sum,by simp,?_⟩
 show (dL [some (lI ns),some (.int 3),some (.int (n:Int))]).bind (fin true)=_
 unfold dL
 have c1:eComp (iR rng1 (aC (eV 2) aN)) tYes (eB sumD (aC (eS3 (eV 1) (oS (e2 addI (eV 2) (eV 0))) oN (oS (eV 3))) aN)) [0,1,2] [some (lI ns),some (.int 3),some (.int (n:Int))]=.ok (lI ((List.range n).map fun (k:Nat)=>(pick3 ns (some (3+(k:Int))) none (some (n:Int))).sum)):=by
  have:=uP (mi:=iR rng1 (aC (eV 2) aN)) (me:=eB sumD (aC (eS3 (eV 1) (oS (e2 addI (eV 2) (eV 0))) oN (oS (eV 3))) aN)) (js:=[0,1,2]) (ρ:=[some (lI ns),some (.int 3),some (.int (n:Int))]) (fun k:Nat=>PyData.int (k:Int)) (fun k=>.int (pick3 ns (some (3+(k:Int))) none (some (n:Int))).sum) (List.range n) (by simp -implicitDefEqProofs only[(evA),vC (show n<=1000 by bv_omega)]) (by rw[List.length_range];bv_omega) fun k hk=>by
   show eB sumD _ [some (.int (k:Int)),some (lI ns),some (.int 3),some (.int (n:Int))]=_
   simp -implicitDefEqProofs only[(evA),if_pos (show (some (n:Int))≠some 0 from fun z=>by have:=Option.some.inj z;bv_omega),zC5,yF7]
  rw[this]
  simp only[lI,List.map_map,Function.comp_def]
 simp -implicitDefEqProofs only[(evA),c1]
theorem zE7 (ns:List Int){n:Nat}{ops:List Int}(q:Opn n ops) (h1:1<=n) (h2:n<=6):∃t:Nat->D,PlanOk n ops t/\kM [lI ns,.int (n:Int),tI ops]=.ok (.tuple ((List.range n).map t)):=by
 obtain⟨ms,hm,e⟩:=zG2 ns h1 (show n<=7 by bv_omega)
 exact⟨tr1 n ops ms,xS1 q,xU3 e (by bv_omega) q.len hm q.bd⟩
theorem yG3 {ys:List Int}:sortI ys=rg ys.length↔ys.Perm (rg ys.length):=by
 constructor
 ·intro h
  rw[<-h]
  exact (kT ys).symm
 ·intro h
  exact zO2 ((kT ys).trans h) (gW ys) (xR5 _)
theorem yQ2 {ns:List Int}(h:ns.length<=63):sortD [tI ns]=some (lI (sortI ns)):=by
 unfold sortD
 simp only[nsD,seqD,Option.bind_some,intsOf_map]
 rw[if_pos (by bv_omega)]
theorem zP4 {d:D}{ys:List Int}(hd:d=lI ys\/d=tI ys):kO [d]=.ok (.bool (decide (1<=ys.length/\ys.length<=60/\ys.Perm (rg ys.length)))):=by
 show (jC [some d]).bind (fin false)=_
 unfold jC
 have ln:lenD [d]=some (.int (ys.length:Int)):=by
  rcases hd with rfl | rfl
  ·rw[bB];simp only[zD6,Option.map_some,List.length_map]
  ·rw[bB];simp only[yY4,Option.map_some,List.length_map]
 by_cases h1:1<=ys.length
 ·by_cases h2:ys.length<=60
  ·have sr:sortD [d]=some (lI (sortI ys)):=by
    rcases hd with rfl | rfl
    ·exact yO4 (by bv_omega)
    ·exact yQ2 (by bv_omega)
   have d1:decide ((1:Int)<=(ys.length:Int))=true:=decide_eq_true (by bv_omega)
   have d2:decide ((ys.length:Int)<=60)=true:=decide_eq_true (by bv_omega)
   have rl:=zG1 (n:=ys.length) (by bv_omega)
   rw[show ((List.range ys.length).map fun (i:Nat)=>(i:Int))=rg ys.length from rfl] at rl
   simp -implicitDefEqProofs only[zW5,cB,zW2,zX6,zX3,zX5,zX4,zW4,eV0,zX1,zX2,cL,zX9,cZ,Res.bind_ok,Res.lft_some,ln,d1,d2,sr,rl,xX9,if_true]
   congr 2
   rw[Bool.eq_iff_iff,decide_eq_true_iff,decide_eq_true_iff,yG3]
   exact⟨fun z=>⟨h1,h2,z⟩,fun z=>z.2.2⟩
  ·have d1:decide ((1:Int)<=(ys.length:Int))=true:=decide_eq_true (by bv_omega)
   have d2:decide ((ys.length:Int)<=60)=false:=decide_eq_false (by bv_omega)
   simp -implicitDefEqProofs only[zW5,cB,zW2,zX6,zX3,zX5,zX4,zW4,eV0,zX1,zX2,cL,zX9,cZ,Res.bind_ok,Res.lft_some,ln,d1,d2,if_true,Bool.false_eq_true,if_false]
   congr 2
   symm
   exact decide_eq_false fun z=>h2 z.2.1
 ·have d1:decide ((1:Int)<=(ys.length:Int))=false:=decide_eq_false (by bv_omega)
  simp -implicitDefEqProofs only[zW5,cB,zW2,zX6,zX3,zX5,zX4,zW4,eV0,zX1,zX2,cL,zX9,cZ,Res.bind_ok,Res.lft_some,ln,d1,Bool.false_eq_true,if_false]
  congr 2
  symm
  exact decide_eq_false fun z=>h1 z.1
theorem yF9 {xs:List Int}{a:Nat}(h:a<xs.length) (v:Int):setD (xs.map PyData.int) (.int (a:Int)) (.int v)=some ((xs.set a v).map PyData.int):=by
 unfold setD
 simp only
 rw[List.length_map,zK5 h,Option.map_some,List.map_set]
def Sq (d:D) (r:List Int):Prop:=d=tI r\/d=lI r
structure Sqs (ds:List D) (R:List (List Int)):Prop where
 len:ds.length=R.length
 each:∀(i:Nat) (d:D),ds[i]?=some d->∃r,R[i]?=some r/\Sq d r
abbrev obB:Ev->Res Out:=sQ (sIf (b2 eqD (eB lenD (aC (eV 2) aN)) (eC (.int 0))) sX sN) (sM 1 extD (aC (eV 2) aN))
theorem yG8 {ds:List D}{R:List (List Int)}(q:Sqs ds R) (hl:R.flatten.length<=1000){i:Nat}{d:D}{x:Option D}(hd:ds[i]?=some d) (hne:∀r,R[i]?=some r->r ≠ []):obB [some (.list ds),some (lI (R.take i).flatten),some d,x,none]=.ok (.nx [some (.list ds),some (lI (R.take (i+1)).flatten),some d,x,none]):=by
 obtain⟨r,hr,sq⟩:=q.each i d hd
 have ne:=hne r hr
 have r0:0<r.length:=by cases r with
  | nil=>exact absurd rfl ne
  | cons _ _=>simp
 have tk:R.take (i+1)=R.take i ++ [r]:=by rw[List.take_succ,hr];rfl
 have lt:(R.take i).flatten.length+r.length<=1000:=by
  have a:(R.take (i+1)).flatten.length<=R.flatten.length:=by
   conv=>rhs;rw[<-List.take_append_drop (i+1) R]
   rw[List.flatten_append,List.length_append]
   bv_omega
  rw[tk,List.flatten_append,List.length_append,show [r].flatten=r by simp] at a
  bv_omega
 have lr:(r.map PyData.int).length=r.length:=by rw[List.length_map]
 have e2:(R.take (i+1)).flatten=(R.take i).flatten++r:=by rw[tk,List.flatten_append,show [r].flatten=r by simp]
 rcases sq with rfl | rfl
 ·have ex:=zV2 (l:=(R.take i).flatten.map PyData.int) (k:=r.map PyData.int) (d:=tI r) rfl (by rw[List.length_map,List.length_map];exact lt)
  simp -implicitDefEqProofs only[(evA),lr,fP,decide_eq_false (show ¬((r.length:Nat):Int)=0 by bv_omega),ex]
  rw[e2]
  simp only[lI,List.map_append]
  try rfl
 ·have ex:=zV2 (l:=(R.take i).flatten.map PyData.int) (k:=r.map PyData.int) (d:=lI r) rfl (by rw[List.length_map,List.length_map];exact lt)
  simp -implicitDefEqProofs only[(evA),lr,fP,decide_eq_false (show ¬((r.length:Nat):Int)=0 by bv_omega),ex]
  rw[e2]
  simp only[lI,List.map_append]
  try rfl
theorem pw_flat {rs:List (List Nat)}(h:rs.flatten.Nodup){i j:Nat}{r r':List Nat}(hi:rs[i]?=some r) (hj:rs[j]?=some r') (hij:i<j):∀x∈r,x∉r':=by
 obtain⟨li,ei⟩:=List.getElem?_eq_some_iff.mp hi
 obtain⟨lj,ej⟩:=List.getElem?_eq_some_iff.mp hj
 have:=List.pairwise_iff_getElem.mp (List.pairwise_flatten.mp h).2 i j li lj hij
 rw[ei,ej] at this
 exact fun x hx hx'=>this x hx x hx' rfl
theorem zR4 {r:List Nat}{i:Nat}(h:i<r.length):r.getD i 0∈r:=by
 rw[List.getD,List.getElem?_eq_getElem h]
 exact List.getElem_mem h
theorem yP3 {r:List Nat}(h:r.Nodup){i j:Nat}(hi:i<r.length) (hj:j<r.length) (e:r.getD i 0=r.getD j 0):i=j:=by
 rw[List.getD,List.getD,List.getElem?_eq_getElem hi,List.getElem?_eq_getElem hj] at e
 exact (List.getElem_inj h).mp e
theorem zI {ys:List Int}{a b:Nat}{v:Int}(h:a<ys.length):(ys.set a v).getD b 0=if a=b then v else ys.getD b 0:=by
 rw[List.getD_eq_getElem?_getD,List.getElem?_set]
 by_cases e:a=b
 ·subst e
  rw[if_pos rfl,if_pos rfl,if_pos h]
  rfl
 ·rw[if_neg e,if_neg e,List.getD_eq_getElem?_getD]
theorem zV4 (r:List Nat) (q:Nat):(rI' r).getD q 0=((r.getD q 0:Nat):Int):=by
 unfold rI'
 rw[List.getD,List.getD,List.getElem?_map]
 cases r[q]? <;> rfl
def kx (l p:Nat):Nat:=if p=0 then l-1 else p-1
theorem zF5 {l p:Nat}(h:p<l):kx l p<l:=by unfold kx;split <;> bv_omega
theorem yB1 {l p q:Nat}(h:p<l) (h':q<l) (e:kx l p=kx l q):p=q:=by
 unfold kx at e
 split at e <;> split at e <;> bv_omega
abbrev obI:Ev->Res Out:=sI 3 (e2 ixD (eV 2) (e2 subI (eV 4) (eC (.int 1)))) (e2 ixD (eV 2) (eV 4))
theorem yD6 {n:Nat}{d0 d1 d:D}{rs:List (List Nat)}{r:List Nat}{i:Nat}{ys:List Int}{y:Option D}(nd:rs.flatten.Nodup) (rn:∀r∈rs,∀x∈r,x<n) (h1000:r.length<=1000) (hr:rs[i]?=some r) (sq:Sq d (rI' r)) (hl:ys.length=n)
  (hy:∀i',i'<i->∀r,rs[i']?=some r->∀q,q<r.length->ys.getD (r.getD (kx r.length q) 0) 0=((r.getD q 0:Nat):Int)) :
  ∃(zs:List Int) (y2:Option D),zs.length=n/\(∀i',i'<i+1->∀r,rs[i']?=some r->∀q,q<r.length->zs.getD (r.getD (kx r.length q) 0) 0=((r.getD q 0:Nat):Int))/\sF (iR rng1 (aC (eB lenD (aC (eV 2) aN)) aN)) (gN 4) obI [some d0,some d1,some d,some (lI ys),y]=.ok (.nx [some d0,some d1,some d,some (lI zs),y2]):=by
 have mr:r∈rs:=List.mem_of_getElem? hr
 have nr:r.Nodup:=nd.sublist (List.sublist_flatten_of_mem mr)
 have lr:((rI' r).map PyData.int).length=r.length:=by rw[List.length_map,wW]
 have at':∀q,q<r.length->atI ((rI' r).map PyData.int) (q:Int)=some (.int ((r.getD q 0:Nat):Int)):=fun q hq=>by
  rw[zC8 rfl (by rw[wW];exact hq),zV4]
 have at1:∀q,q<r.length->atI ((rI' r).map PyData.int) ((q:Int)-1)=some (.int ((r.getD (kx r.length q) 0:Nat):Int)):=fun q hq=>by
  unfold kx
  by_cases z:q=0
  ·subst z
   rw[if_pos rfl,show (((0:Nat):Int)-1)=-1 by bv_omega,zP7 (n:=r.length-1) (by rw[wW];bv_omega),zV4]
  ·rw[if_neg z,show ((q:Int)-1)=((q-1:Nat):Int) by bv_omega,zC8 rfl (by rw[wW];bv_omega),zV4]
 obtain⟨ρ2,e2,zs,y2,hl2,hz,hz2,rfl⟩:=vJ (g:=gN 4) (b:=obI)
  (fun q ρ=>∃(zs:List Int) (y:Option D),zs.length=n/\(∀i',i'<i->∀r,rs[i']?=some r->∀q,q<r.length->zs.getD (r.getD (kx r.length q) 0) 0=((r.getD q 0:Nat):Int))/\(∀q',q'<q->q'<r.length->zs.getD (r.getD (kx r.length q') 0) 0=((r.getD q' 0:Nat):Int))/\ρ=[some d0,some d1,some d,some (lI zs),y])
  ((List.range r.length).map fun (i:Nat)=>PyData.int (i:Int)) [some d0,some d1,some d,some (lI ys),y] ⟨ys,y,hl,hy,fun q' h=>absurd h (by bv_omega),rfl⟩ (by
   rintro q e ρ hd ⟨zs,y,hl,hz,hz2,rfl⟩
   obtain⟨hq,rfl⟩:=bU hd
   have kq:=zF5 hq
   have mk:=zR4 kq
   have sd:=yF9 (xs:=zs) (a:=r.getD (kx r.length q) 0) (by rw[hl];exact rn r mr _ mk) ((r.getD q 0:Nat):Int)
   refine⟨_,_,rfl,?_,zs.set (r.getD (kx r.length q) 0) ((r.getD q 0:Nat):Int),some (.int (q:Int)),by rw[List.length_set,hl],?_,?_,rfl⟩
   ·rcases sq with rfl | rfl
    ·simp -implicitDefEqProofs only[(evA),at' q hq,at1 q hq,sd]
    ·simp -implicitDefEqProofs only[(evA),at' q hq,at1 q hq,sd]
   ·intro i' hi' r' hr' q' hq'
    have ne:¬r.getD (kx r.length q) 0=r'.getD (kx r'.length q') 0:=fun z=>pw_flat nd hr' hr hi' _ (zR4 (zF5 hq')) (by rw[<-z];exact mk)
    rw[zI (by rw[hl];exact rn r mr _ mk),if_neg ne]
    exact hz i' hi' r' hr' q' hq'
   ·intro q' h1 h2
    rw[zI (by rw[hl];exact rn r mr _ mk)]
    by_cases z:q'=q
    ·subst z
     rw[if_pos rfl]
    ·have ne:¬r.getD (kx r.length q) 0=r.getD (kx r.length q') 0:=fun w=>z (yB1 hq h2 (yP3 nr kq (zF5 h2) w)).symm
     rw[if_neg ne]
     exact hz2 q' (by bv_omega) h2)
 rw[List.length_map,List.length_range] at hz2
 refine⟨zs,y2,hl2,fun i' hi' r' hr' q' hq' => ?_,?_⟩
 ·by_cases z:i'=i
  ·subst z
   rw[hr] at hr'
   cases hr'
   exact hz2 q' hq' hq'
  ·exact hz i' (by bv_omega) r' hr' q' hq'
 ·rcases sq with rfl | rfl
  ·simp -implicitDefEqProofs only[(evA),lr,vC h1000]
   exact e2
  ·simp -implicitDefEqProofs only[(evA),lr,vC h1000]
   exact e2
theorem zT9 {n:Nat}{ds:List D}{rs:List (List Nat)}(q:Sqs ds (rs.map rI')) (p:rs.flatten.Perm (List.range n)) (h1:1<=n) (h2:n<=60) (pos:∀r∈rs,0<r.length) :
  ∃ys:List Int,ys.length=n/\(∀r∈rs,∀q,q<r.length->ys.getD (r.getD (kx r.length q) 0) 0=((r.getD q 0:Nat):Int))/\qV [.list ds]=.ok (tI ys):=by
 have nd:rs.flatten.Nodup:=p.nodup_iff.mpr List.nodup_range
 have lf:rs.flatten.length=n:=by rw[p.length_eq,List.length_range]
 have rl:∀r∈rs,r.length<=n:=fun r hr=>by
  have:=(List.sublist_flatten_of_mem hr).length_le
  bv_omega
 have rn:∀r∈rs,∀x∈r,x<n:=fun r hr x hx=>List.mem_range.mp (p.mem_iff.mp (List.mem_flatten.mpr ⟨r,hr,hx⟩))
 have ef:(rs.map rI').flatten=rI' rs.flatten:=by unfold rI';rw[List.map_flatten]
 have lfl:(rs.map rI').flatten.length=n:=by rw[ef,wW,lf]
 have x0:Option D:=none
 obtain⟨ρ1,e1,x,rfl⟩:=vJ (g:=gN 2) (b:=obB) (fun i ρ=>∃x,ρ=[some (.list ds),some (lI ((rs.map rI').take i).flatten),x,none,none]) ds [some (.list ds),some (.list []),none,none,none] ⟨none,rfl⟩ (by
  rintro i d ρ hd ⟨x,rfl⟩
  refine⟨_,_,rfl,yG8 q (by bv_omega) hd (fun r hr z => ?_),some d,rfl⟩
  rw[List.getElem?_map] at hr
  obtain⟨r',hr',rfl⟩:=Option.map_eq_some_iff.mp hr
  have:=pos r' (List.mem_of_getElem? hr')
  have z':=congrArg List.length z
  rw[wW] at z'
  simp at z'
  rw[z'] at this
  simp at this)
 rw[q.len,List.take_length,ef] at e1
 obtain⟨ρ2,e2,ys,x2,y2,hl,hy,rfl⟩:=vJ (g:=gN 2) (b:=sF (iR rng1 (aC (eB lenD (aC (eV 2) aN)) aN)) (gN 4) obI)
  (fun i ρ=>∃(ys:List Int) (x y:Option D),ys.length=n/\(∀i',i'<i->∀r,rs[i']?=some r->∀q,q<r.length->ys.getD (r.getD (kx r.length q) 0) 0=((r.getD q 0:Nat):Int))/\ρ=[some (.list ds),some (lI (rI' rs.flatten)),x,some (lI ys),y])
  ds [some (.list ds),some (lI (rI' rs.flatten)),x,some (lI (List.replicate n 0)),none] ⟨List.replicate n 0,_,_,List.length_replicate,fun i' h=>absurd h (by bv_omega),rfl⟩ (by
   rintro i d ρ hd ⟨ys,x,y,hl,hy,rfl⟩
   obtain⟨r',hr',sq⟩:=q.each i d hd
   rw[List.getElem?_map] at hr'
   obtain⟨r,hr,rfl⟩:=Option.map_eq_some_iff.mp hr'
   obtain⟨zs,y2,hl2,hz,e⟩:=yD6 (d0:=.list ds) (d1:=lI (rI' rs.flatten)) (y:=y) nd rn (by have:=rl r (List.mem_of_getElem? hr);bv_omega) hr sq hl hy
   exact⟨_,_,rfl,e,zs,some d,y2,hl2,hz,rfl⟩)
 refine⟨ys,hl,fun r hr q' hq => ?_,?_⟩
 ·obtain⟨i,hi,er⟩:=List.mem_iff_getElem.mp hr
  exact hy i (by rw[q.len,List.length_map];exact hi) r (by rw[List.getElem?_eq_getElem hi,er]) q' hq
 ·show (kU [some (.list ds),none,none,none,none]).bind (fin false)=_
  unfold kU
  have io:=zP4 (d:=lI (rI' rs.flatten)) (ys:=rI' rs.flatten) (.inl rfl)
  have pr:(rI' rs.flatten).Perm (rg n):=p.map _
  rw[decide_eq_true ⟨by rw[wW,lf];exact h1,by rw[wW,lf];exact h2,by rw[wW,lf];exact pr⟩] at io
  have lb:((rI' rs.flatten).map PyData.int).length=n:=by rw[List.length_map,wW,lf]
  have rp:repL (.list [.int 0]) (.int ((n:Nat):Int))=some (lI (List.replicate n 0)):=by
   rw[zU8 _ _ (by bv_omega),lI,List.map_replicate]
  simp -implicitDefEqProofs only[(evA),e1,io,show lfT false (PyData.bool true)=true by decide,lb,rp]
  rw[e2]
  simp -implicitDefEqProofs only[(evA)]
theorem zC1 {n l:Nat}{bs ns:List Int}{d:D}(T:TreeOk n l bs ns d):TrS n d:=by
 induction T with
 | none=>exact .none
 | @node l bs ns b f hb _ _ _ ih =>
  refine .node hb (by rw[List.length_map,List.length_range]) fun d hd => ?_
  obtain⟨i,hi,rfl⟩:=List.mem_map.mp hd
  exact ih i (List.mem_range.mp hi)
theorem xS9 {n l:Nat}{bs ns:List Int}{d:D}(T:TreeOk n l bs ns d):Tk bxD nxD n l d:=by
 induction T with
 | none=>exact .leaf rfl
 | @node l bs ns b f hb _ _ _ ih =>
  refine .node (b:=b) rfl hb fun x hx => ?_
  show Tk bxD nxD n l (((List.range n).map f).getD x .none)
  rw[bS f hx]
  exact ih x hx
def tOf (n:Nat) (t:Nat->D) (p:Nat):D:=((List.range n).map t).getD p .none
theorem zD3 {n p:Nat}(t:Nat->D) (h:p<n):tOf n t p=t p:=bS t h
def oR (ops:List Int) (p q:Nat):Prop:=ops.getD p 0<=ops.getD q 0
abbrev WrP (n:Nat) (ops:List Int) (t:Nat->D) (xs ys:List Int) (out:List (Nat×List Rv)):Prop:=Wr bxD nxD n (tOf n t) (oR ops) (poK n (opF ops)) xs ys out
theorem yK1 {n:Nat}{ops:List Int}{t:Nat->D}(P:PlanOk n ops t) (q:Opn n ops):∀p,p<n->∃d,d<=n/\Tk bxD nxD n d (tOf n t p):=fun p hp=>by
 have b:=q.at hp
 rw[zD3 t hp]
 exact⟨_,by bv_omega,xS9 (P.tree p hp)⟩
theorem xP1 {n:Nat}{ops:List Int}(h2:n<=6):(poK n (opF ops)).Pairwise (oR ops):=by
 obtain⟨p,w⟩:=jM (n:=n) (op:=opF ops) h2
 refine w.imp_of_mem fun {a b} ha hb h => ?_
 have a1:=List.mem_range.mp (p.mem_iff.mp ha)
 have b1:=List.mem_range.mp (p.mem_iff.mp hb)
 unfold oR
 unfold opF at h
 bv_omega
theorem zL8 {n:Nat}{ops xs:List Int}{t:Nat->D}(P:PlanOk n ops t) (q:Opn n ops) (h2:n<=6) (o:Ord n xs):∃ys out,WrP n ops t xs ys out:=by
 have pm:=(jM (n:=n) (op:=opF ops) h2).1
 exact zG9 o (yK1 P q) (fun p=>Int.le_refl _) (fun p hp=>List.mem_range.mp (pm.mem_iff.mp hp)) (xP1 h2) fun y hy=>pm.mem_iff.mpr (List.mem_range.mpr hy)
theorem lam0 (xs:List Int):lamG 0 xs=fun b _=>nxt xs b:=by
 funext b l
 exact if_pos rfl
theorem lam1 (xs:List Int):lamG 1 xs=fun _ l=>nxt xs l:=by
 funext b l
 exact if_neg (by decide)
theorem yX8 {n:Nat}{ops xs ys:List Int}{t:Nat->D}{out:List (Nat×List Rv)}(w:WrP n ops t xs ys out) (h2:n<=6):∀z∈out,z.2.length<=900:=fun z hz=>by
 have e:=w.pers.1 z hz
 have l:=(w.wrt.yR (w.chn z hz).2.1).2.1
 bv_omega
theorem xW8 {n:Nat}{ops xs ys:List Int}{t:Nat->D}{out:List (Nat×List Rv)}(w:WrP n ops t xs ys out) (P:PlanOk n ops t) (q:Opn n ops) (h1:1<=n) (h2:n<=6):PlyIn 0 (.tuple ((List.range n).map t)) (tI ops) (tI xs) out (full xs n) :=
 ⟨n,_,ops,xs,rfl,rfl,rfl,by rw[List.length_map,List.length_range],fun d hd=>by
  obtain⟨p,hp,rfl⟩:=List.mem_map.mp hd
  exact zC1 (P.tree p (List.mem_range.mp hp)),q.len,h1,h2,w.ord,yX8 w h2,by rw[lam0];exact w.gm⟩
theorem kH {n:Nat}{ops xs:List Int}{t:Nat->D}(q:Opn n ops) (o:Ord n xs) (h1:1<=n) (h2:n<=6):vU [.tuple ((List.range n).map t),tI ops,tI xs]=.ok .none:=by
 have hl:((List.range n).map t).length=n:=by rw[List.length_map,List.length_range]
 have lx:(xs.map PyData.int).length=n:=by rw[List.length_map,o.len]
 have e1:uF [.tuple ((List.range n).map t),tI xs]=.ok .none:=by
  show (uG [some (.tuple ((List.range n).map t)),some (tI xs)]).bind (fin false)=_
  unfold uG
  simp -implicitDefEqProofs only[(evA),hl,lx,zI5,decide_true]
 show (qG [some (.tuple ((List.range n).map t)),some (tI ops),some (tI xs)]).bind (fin false)=_
 unfold qG
 simp -implicitDefEqProofs only[(evA),hl,qH q h1 (show n<=60 by bv_omega),e1]
theorem yN7 {n:Nat}{ops xs ys:List Int}{t:Nat->D}{out:List (Nat×List Rv)}(w:WrP n ops t xs ys out) (P:PlanOk n ops t) (q:Opn n ops) (h1:1<=n) (h2:n<=6):fT [.tuple ((List.range n).map t),tI ops,tI xs]=.ok (.list (out.map turnD)):=by
 have e1:eP 0 0 [some (.tuple ((List.range n).map t)),some (tI ops),some (tI xs)]=.ok (.list (out.map turnD)):=(yZ8 (j:=0) (xW8 w P q h1 h2)).trans rfl
 show (jK [some (.tuple ((List.range n).map t)),some (tI ops),some (tI xs)]).bind (fin true)=_
 unfold jK
 simp -implicitDefEqProofs only[(evA),kH q w.ord h1 h2,e1]
theorem yC9 {g:Nat->Nat->Nat}{T:Nat->D}{ps:List Nat}{seen fin:List (Option Nat)}{out:List (Nat×List Rv)}(h:Gm bxD nxD g T ps seen out fin):out.length<=ps.length:=by
 induction h with
 | nil=>exact Nat.le_refl _
 | skip _ _ ih=>exact Nat.le_succ_of_le ih
 | play _ _ _ ih=>exact Nat.succ_le_succ ih
theorem yK9 {n:Nat}{ops xs ys:List Int}{t:Nat->D}{out:List (Nat×List Rv)}(w:WrP n ops t xs ys out) (h2:n<=6):out.length<=6:=by
 have h:=yC9 w.gm
 rw[(jM (n:=n) (op:=opF ops) h2).1.length_eq,List.length_range] at h
 bv_omega
structure Sn (n:Nat) (xs:List Int) (seen:List (Option Nat)) (os:List Nat):Prop where
 len:seen.length=n
 nd:os.Nodup
 lt:∀b∈os,b<n
 at':∀b,b<n->seen[b]?=some (if os.contains b then some (nxt xs b) else none)
theorem Sn.shut {n b:Nat}{xs:List Int}{seen:List (Option Nat)}{os:List Nat}(S:Sn n xs seen os) (h:seen[b]?=some none):b<n/\os.contains b=false:=by
 have bn:b<n:=by rw[<-S.len];exact (List.getElem?_eq_some_iff.mp h).1
 have:=S.at' b bn
 rw[h] at this
 refine⟨bn,?_⟩
 cases c:os.contains b with
 | false=>rfl
 | true=>rw[c,if_pos rfl] at this;cases this
theorem Sn.put {n b:Nat}{xs:List Int}{seen:List (Option Nat)}{os:List Nat}(S:Sn n xs seen os) (h:seen[b]?=some none):Sn n xs (seen.set b (some (nxt xs b))) (os ++ [b]):=by
 obtain⟨bn,c⟩:=S.shut h
 have nb:b∉os:=fun z=>by rw[List.contains_iff_mem.mpr z] at c;cases c
 refine⟨by rw[List.length_set];exact S.len,?_,fun x hx => ?_,fun x hx => ?_⟩
 ·rw[List.nodup_append]
  exact⟨S.nd,by simp,fun a ha y hy e=>by
   have:y=b:=by simpa using hy
   exact nb (by rw[<-this,<-e];exact ha)⟩
 ·rcases List.mem_append.mp hx with z | z
  ·exact S.lt x z
  ·have:x=b:=by simpa using z
   rw[this];exact bn
 ·rw[MR.zI (by rw[S.len];exact bn)]
  by_cases e:x=b
  ·rw[if_pos e,if_pos (List.contains_iff_mem.mpr (by rw[e];simp)),e]
  ·rw[if_neg e,S.at' x hx]
   have:(os ++ [b]).contains x=os.contains x:=by
    rw[Bool.eq_iff_iff,List.contains_iff_mem,List.contains_iff_mem,List.mem_append]
    exact⟨fun z=>z.elim id fun z=>absurd (by simpa using z) e,.inl⟩
   rw[this]
theorem xO1 {n:Nat}{xs:List Int}{p k l:Nat}{t:D}{seen mid:List (Option Nat)}{rs:List Rv}(h:Tn bxD nxD (fun b _=>nxt xs b) p k t l seen rs mid):∀os,Sn n xs seen os->Sn n xs mid (os++rs.map (·.1)):=by
 induction h with
 | done _=>intro os S;simpa using S
 | @leafN k t l b seen out rs h1 h2 h3 h4 _ ih =>
  intro os S
  have:=ih (os ++ [b]) (S.put h3)
  rw[List.append_assoc] at this
  exact this
 | @nodeN k t l b seen out rs h1 h2 h3 _ ih =>
  intro os S
  have:=ih (os ++ [b]) (S.put h3)
  rw[List.append_assoc] at this
  exact this
 | nodeO _ _ _ _ ih=>exact ih
theorem xP9 {n:Nat}{xs:List Int}{T:Nat->D}{ps:List Nat}{seen fin:List (Option Nat)}{out:List (Nat×List Rv)}(h:Gm bxD nxD (fun b _=>nxt xs b) T ps seen out fin):∀os,Sn n xs seen os->Sn n xs fin (os++(allR out).map (·.1)):=by
 induction h with
 | nil=>intro os S;simpa [allR] using S
 | skip _ _ ih=>exact ih
 | @play p k ps seen mid fin rs out _ tn _ ih =>
  intro os S
  have:=ih _ (xO1 tn os S)
  rw[List.append_assoc,<-List.map_append] at this
  exact this
theorem fO {p l:Nat}{rs:List Rv}(h:Chn p l rs):las rs=l::rs.dropLast.map fun r=>r.2.2:=by
 induction h with
 | last=>rfl
 | @cons b l x rs _ hc ih =>
  have ne:rs ≠ []:=by cases hc <;> exact fun z=>nomatch z
  rw[List.dropLast_cons_of_ne_nil ne]
  show l::las rs=l::(x::rs.dropLast.map fun r=>r.2.2)
  rw[ih]
theorem yQ7 {p l:Nat}{rs:List Rv}(h:Chn p l rs):∀(j:Nat) (r:Rv),rs[j]?=some r->r.2.2=if j+1<rs.length then (las rs).getD (j+1) 0 else p:=by
 induction h with
 | last =>
  intro j r e
  cases j with
  | zero =>
   have e:some _=some r:=e
   cases e
   rfl
  | succ j=>cases e
 | @cons b l x rs _ hc ih =>
  intro j r e
  have l0:0<rs.length:=by cases hc <;> exact Nat.succ_pos _
  cases j with
  | zero =>
   have e:some _=some r:=e
   cases e
   rw[if_pos (by rw[List.length_cons];bv_omega)]
   show x=(las rs).getD 0 0
   rw[fO hc]
   rfl
  | succ j =>
   have e:rs[j]?=some r:=by simpa using e
   rw[ih j r e,List.length_cons]
   by_cases c:j+1<rs.length
   ·rw[if_pos c,if_pos (by bv_omega)]
    rfl
   ·rw[if_neg c,if_neg (by bv_omega)]
theorem yL8 {p l:Nat}{rs:List Rv}(h:Chn p l rs):0<rs.length:=by cases h <;> exact Nat.succ_pos _
theorem yS4 (out:List (Nat×List Rv)):(out.map fun z=>las z.2).flatten=las (allR out):=by
 induction out with
 | nil=>rfl
 | cons z out ih =>
  rw[List.map_cons,List.flatten_cons,ih]
  show las z.2++las (allR out)=las (z.2++allR out)
  unfold las
  rw[List.map_append]
theorem yS8 {n:Nat}{ops xs ys:List Int}{t:Nat->D}{out:List (Nat×List Rv)}(w:WrP n ops t xs ys out):(las (allR out)).Perm (List.range n):=by
 have S:=xP9 w.gm [] ⟨List.length_replicate,List.nodup_nil,fun b hb=>(by cases hb),fun b hb=>(by rw[List.getElem?_replicate,if_pos hb];rfl)⟩
 rw[List.nil_append] at S
 have nd:(las (allR out)).Nodup:=by
  have:=S.nd
  unfold las
  rw[List.Nodup,List.pairwise_map] at this ⊢
  refine this.imp_of_mem fun {a b} ha hb ne e=>ne ?_
  obtain⟨a1,a2,a3⟩:=w.val a ha
  obtain⟨b1,b2,b3⟩:=w.val b hb
  rw[e,b2] at a2
  exact w.ord.vD a3 b3 (by rw[a1,b1,a2])
 rw[List.perm_ext_iff_of_nodup nd List.nodup_range]
 intro y
 rw[List.mem_range]
 constructor
 ·intro h
  obtain⟨z,hz,r,hr,rfl⟩:=zM8 h
  obtain⟨c,zn,_⟩:=w.chn z hz
  have m:r.2.1∈las z.2:=List.mem_map.mpr ⟨r,hr,rfl⟩
  rw[fO c] at m
  rcases List.mem_cons.mp m with e | m
  ·rw[e];exact zn
  ·obtain⟨r',hr',e⟩:=List.mem_map.mp m
   obtain⟨v1,_,v3⟩:=w.val r' (List.mem_flatMap.mpr ⟨z,hz,List.dropLast_subset _ hr'⟩)
   rw[<-e,<-v1]
   exact w.ord.xZ v3
 ·intro h
  obtain⟨z,hz,r,hr,rfl⟩:=w.all y h
  exact List.mem_map.mpr ⟨r,List.mem_flatMap.mpr ⟨z,hz,hr⟩,rfl⟩
def wrB:Ev->Res Out:=(sM 3 appD (aC (e2 catL (eB mkL (aC (eV 4) aN)) (eComp (iS (eS slD (eV 5) oN (oS (e1 negD (eC (.int 1)))))) tYes (e2 ixD (eV 1) (eV 0)) [2])) aN))
theorem zD1:gJ=(sQ (sS 3 (eB mkL aN)) (sQ (sF (iS (eF fT (aC (eV 0) (aC (eV 1) (aC (eV 2) aN))))) (gT 2 (gsC (gN 4) (gsC (gN 5) gsN))) wrB) (sR (eFA false qV (aC (eV 3) aN))))):=rfl
theorem yZ6 {α:Type}(l:List α):cutD l none (some (-1))=l.dropLast:=by
 have e:HT.sIx l.length l.length (some (-1))=l.length-1:=by
  unfold HT.sIx
  simp
  bv_omega
 have e0:HT.sIx l.length 0 none=0:=rfl
 unfold cutD
 rw[e,e0,List.drop_zero,Nat.sub_zero,List.dropLast_eq_take]
theorem cD {n:Nat}{ops xs ys:List Int}{t:Nat->D}{out:List (Nat×List Rv)}(w:WrP n ops t xs ys out) (P:PlanOk n ops t) (q:Opn n ops) (h1:1<=n) (h2:n<=6):xS [.tuple ((List.range n).map t),tI ops,tI xs]=.ok (tI ys):=by
 have pm:=yS8 w
 have few:=yK9 w h2
 have rsl:((out.map fun z=>las z.2).map rI').length=out.length:=by rw[List.length_map,List.length_map]
 obtain⟨ys',l',h',e'⟩:=zT9 (n:=n) (ds:=(out.map fun z=>las z.2).map fun r=>lI (rI' r)) (rs:=out.map fun z=>las z.2) ⟨by rw[List.length_map,List.length_map,List.length_map,List.length_map],fun i d hd=>by
  rw[List.getElem?_map] at hd
  obtain⟨r,hr,rfl⟩:=Option.map_eq_some_iff.mp hd
  exact⟨rI' r,by rw[List.getElem?_map,hr];rfl,.inr rfl⟩⟩ (by rw[yS4];exact pm) h1 (by bv_omega) fun r hr=>by
   obtain⟨z,hz,rfl⟩:=List.mem_map.mp hr
   show 0<(las z.2).length
   rw[List.length_map]
   exact yL8 (w.chn z hz).1
 have ey:ys'=ys:=by
  refine List.ext_getElem (by rw[l',w.wrt.len]) fun i hi hj => ?_
  rw[l'] at hi
  have g1:ys'[i]=ys'.getD i 0:=by simp[List.getD,l',hi]
  have g2:ys[i]=ys.getD i 0:=by simp[List.getD,w.wrt.len,hi]
  rw[g1,g2,w.wrt.yM hi]
  obtain⟨z,hz,r,hr,er⟩:=w.all i hi
  obtain⟨j,hj,ej⟩:=List.getElem_of_mem hr
  have ej':z.2[j]?=some r:=by rw[List.getElem?_eq_getElem hj,ej]
  obtain⟨c,zn,_⟩:=w.chn z hz
  have nx:=yQ7 c j r ej'
  have v:=(w.val r (List.mem_flatMap.mpr ⟨z,hz,hr⟩)).2.1
  have ll:(las z.2).length=z.2.length:=List.length_map ..
  have gj:(las z.2).getD j 0=i:=by
   rw[List.getD,List.getElem?_map,ej']
   exact er
  have use:=fun q hq=>h' (las z.2) (List.mem_map.mpr ⟨z,hz,rfl⟩) q hq
  rw[er] at v
  by_cases cj:j+1<z.2.length
  ·have u:=use (j+1) (by rw[ll];exact cj)
   have k1:kx (las z.2).length (j+1)=j:=by unfold kx;rw[if_neg (by bv_omega)];bv_omega
   rw[k1,gj] at u
   rw[u,v,nx,if_pos cj]
  ·have u:=use 0 (by rw[ll];bv_omega)
   have k1:kx (las z.2).length 0=j:=by unfold kx;rw[if_pos rfl,ll];bv_omega
   rw[k1,gj] at u
   rw[u,v,nx,if_neg cj,fO c]
   rfl
 rw[ey] at e'
 obtain⟨ρ',e,x,y,rfl⟩:=vJ (g:=gT 2 (gsC (gN 4) (gsC (gN 5) gsN))) (b:=wrB) (fun j ρ=>∃x y,ρ=[some (.tuple ((List.range n).map t)),some (tI ops),some (tI xs),some (.list (((out.take j).map fun z=>las z.2).map fun r=>lI (rI' r))),x,y]) (out.map turnD) [some (.tuple ((List.range n).map t)),some (tI ops),some (tI xs),some (.list []),none,none] ⟨none,none,rfl⟩ (by
  rintro j d ρ hd ⟨x,y,rfl⟩
  rw[List.getElem?_map] at hd
  obtain⟨z,hz,rfl⟩:=Option.map_eq_some_iff.mp hd
  have zm:=List.mem_of_getElem? hz
  obtain⟨c,zn,_⟩:=w.chn z zm
  have tk:out.take (j+1)=out.take j ++ [z]:=by rw[List.take_succ,hz];rfl
  have pl:=w.pers.1 z zm
  have pn:=(w.wrt.yR zn).2.1
  have cut:cutD (z.2.map fun r=>PyData.int (r.1:Int)) none (some (-1))=z.2.dropLast.map fun r=>PyData.int (r.1:Int):=by rw[yZ6,List.map_dropLast]
  have cc:eComp (iS (eS slD (eV 5) oN (oS (e1 negD (eC (.int 1)))))) tYes (e2 ixD (eV 1) (eV 0)) [2] [some (.tuple ((List.range n).map t)),some (tI ops),some (tI xs),some (.list (((out.take j).map fun z=>las z.2).map fun r=>lI (rI' r))),some (.int (z.1:Int)),some (.tuple (z.2.map fun r=>.int (r.1:Int)))]=.ok (.list (z.2.dropLast.map fun r=>PyData.int ((r.2.2:Nat):Int))):=by
   refine uP (fun r:Rv=>PyData.int (r.1:Int)) (fun r:Rv=>PyData.int ((r.2.2:Nat):Int)) z.2.dropLast (by simp -implicitDefEqProofs only[(evA),show (-1:Int)=-1 from rfl,cut]) (by rw[List.length_dropLast];bv_omega) fun r hr => ?_
   obtain⟨v1,_,v3⟩:=w.val r (List.mem_flatMap.mpr ⟨z,zm,List.dropLast_subset _ hr⟩)
   have a1:atI (xs.map PyData.int) (r.1:Int)=some (.int ((nxt xs r.1:Nat):Int)):=by
    rw[wF,wJ (by rw[w.ord.len];exact v3),w.ord.yM v3]
    rfl
   rw[v1] at a1
   show e2 ixD (eV 1) (eV 0) [some (.int (r.1:Int)),some (tI xs)]=_
   simp -implicitDefEqProofs only[(evA),a1]
  have ct:catL (.list [.int (z.1:Int)]) (.list (z.2.dropLast.map fun r=>PyData.int ((r.2.2:Nat):Int)))=some (lI (rI' (las z.2))):=by
   have:=zN3 (xs:=[(z.1:Int)]) (ys:=z.2.dropLast.map fun r=>((r.2.2:Nat):Int)) (by rw[List.length_map,List.length_dropLast];simp;bv_omega)
   rw[fO c]
   have e1:(z.2.dropLast.map fun r=>PyData.int ((r.2.2:Nat):Int))=(z.2.dropLast.map fun r=>((r.2.2:Nat):Int)).map PyData.int:=by rw[List.map_map];rfl
   have e2:rI' (z.1::z.2.dropLast.map fun r=>r.2.2)=[(z.1:Int)]++z.2.dropLast.map fun r=>((r.2.2:Nat):Int):=by unfold rI';rw[List.map_cons,List.map_map];rfl
   rw[e1,e2]
   exact this
  have ap:=xU8 (l:=((out.take j).map fun z=>las z.2).map fun r=>lI (rI' r)) (d:=lI (rI' (las z.2))) (by rw[List.length_map,List.length_map,List.length_take];bv_omega)
  refine⟨_,_,rfl,?_,some (.int (z.1:Int)),some (.tuple (z.2.map fun r=>.int (r.1:Int))),rfl⟩
  show wrB [some (.tuple ((List.range n).map t)),some (tI ops),some (tI xs),some (.list (((out.take j).map fun z=>las z.2).map fun r=>lI (rI' r))),some (.int (z.1:Int)),some (.tuple (z.2.map fun r=>.int (r.1:Int)))]=_
  unfold wrB
  rw[tk,List.map_append,List.map_append]
  simp -implicitDefEqProofs only[(evA),cc,ct,ap]
  rfl)
 rw[List.length_map,List.take_length] at e
 show (gJ [some (.tuple ((List.range n).map t)),some (tI ops),some (tI xs),none,none,none]).bind (fin false)=_
 rw[zD1]
 have l0:lfT false (tI ys)=true:=xV7 ys
 simp -implicitDefEqProofs only[(evA),yN7 w P q h1 h2,e,e',l0]
theorem yK5 {n:Nat}{ops xs ys:List Int}{t:Nat->D}{out:List (Nat×List Rv)}(w:WrP n ops t xs ys out) (P:PlanOk n ops t) (q:Opn n ops) (h1:1<=n) (h2:n<=6):PlyIn 1 (.tuple ((List.range n).map t)) (tI ops) (tI ys) out (full xs n) :=
 ⟨n,_,ops,ys,rfl,rfl,rfl,by rw[List.length_map,List.length_range],fun d hd=>by
  obtain⟨p,hp,rfl⟩:=List.mem_map.mp hd
  exact zC1 (P.tree p (List.mem_range.mp hp)),q.len,h1,h2,w.wrt,yX8 w h2,by rw[lam1];exact w.gr⟩
theorem yE6 {n:Nat}{xs:List Int}(o:Ord n xs):(full xs n).map oD=xs.map PyData.int:=by
 have e1:(full xs n).map oD=(List.range n).map fun i=>PyData.int ((nxt xs i:Nat):Int):=by
  unfold full
  rw[List.map_map]
  rfl
 rw[e1]
 refine List.ext_getElem (by rw[List.length_map,List.length_map,List.length_range,o.len]) fun i hi hj => ?_
 have hn:i<n:=by
  rw[List.length_map,o.len] at hj
  exact hj
 have e:=o.yM hn
 have g:xs[i]'(by rw[o.len];exact hn)=xs.getD i 0:=by simp[List.getD,o.len,hn]
 rw[List.getElem_map,List.getElem_range,List.getElem_map,g,e]
theorem zT3 {n:Nat}{ops xs ys:List Int}{t:Nat->D}{out:List (Nat×List Rv)}(w:WrP n ops t xs ys out) (P:PlanOk n ops t) (q:Opn n ops) (h1:1<=n) (h2:n<=6):uU [.tuple ((List.range n).map t),tI ops,tI ys]=.ok (tI xs):=by
 have e1:eP 1 1 [some (.tuple ((List.range n).map t)),some (tI ops),some (tI ys)]=.ok (.list (xs.map PyData.int)):=by
  rw[<-yE6 w.ord]
  exact (yZ8 (j:=1) (yK5 w P q h1 h2)).trans rfl
 show (wR [some (.tuple ((List.range n).map t)),some (tI ops),some (tI ys)]).bind (fin false)=_
 unfold wR
 simp -implicitDefEqProofs only[(evA),kH q w.wrt h1 h2,e1]
theorem yL3 {n:Nat}(hn:n<=6):∀(l k:Nat) (b:Int) (ns:List Int),l<k->ns.length+l<=100->yQ k [.int b,.int (n:Int),.int (l:Int),lI ns]=.ok (ftD n l b ns)
 | 0,k+1,b,ns,_,_=>by
  show (yI (yQ k) [some (.int b),some (.int (n:Int)),some (.int 0),some (lI ns),none,none]).bind (fin false)=_
  unfold yI
  simp -implicitDefEqProofs only[(evA),fP,decide_true]
  rfl
 | l+1,k+1,b,ns,hk,hl=>by
  have ih:=fun (b:Int) (ns:List Int) (h:ns.length+l<=100)=>yL3 hn l k b ns (by bv_omega) h
  show (yI (yQ k) [some (.int b),some (.int (n:Int)),some (.int ((l+1:Nat):Int)),some (lI ns),none,none]).bind (fin false)=_
  unfold yI
  obtain⟨f,hf⟩:∃f:Nat->D,∀j,f j=if ns.contains (j:Int) then PyData.none else ftD n l (j:Int) (ns ++ [(j:Int)]):=⟨_,fun _=>rfl⟩
  have ff:ftD n (l+1) b ns=.tuple [.int b,.tuple ((List.range n).map f)]:=by
   rw[ftD,funext hf]
  simp -implicitDefEqProofs only[(evA),fP,decide_eq_false (show ¬((l+1:Nat):Int)=0 by bv_omega),yU9 (show n<=1000 by bv_omega),vC (show n<=1000 by bv_omega)]
  refine zL2 (fun i ρ=>∃x,ρ=[some (.int b),some (.int (n:Int)),some (.int ((l+1:Nat):Int)),some (lI ns),some (.list ((List.range n).map fun j=>if j<i then f j else PyData.none)),x]) ⟨none,by rw[yR5]⟩ ?_ ?_
  ·rintro i d ρ hd ⟨x,rfl⟩
   obtain⟨hi,rfl⟩:=bU hd
   have fi:=hf i
   by_cases c:ns.contains (i:Int)=true
   ·rw[if_pos c] at fi
    refine⟨_,_,rfl,?_,some (.int (i:Int)),rfl⟩
    simp -implicitDefEqProofs only[(evA),yM8,c]
    rw[yW9 fi]
   ·rw[if_neg c] at fi
    rw[Bool.not_eq_true] at c
    have ct:catL (lI ns) (.list [.int (i:Int)])=some (lI (ns ++ [(i:Int)])):=zN3 (xs:=ns) (ys:=[(i:Int)]) (by simp;bv_omega)
    have e1:=ih (i:Int) (ns ++ [(i:Int)]) (by simp;bv_omega)
    have sb:((l+1:Nat):Int)-1=(l:Int):=by bv_omega
    rw[<-fi] at e1
    refine⟨_,_,rfl,?_,some (.int (i:Int)),rfl⟩
    simp -implicitDefEqProofs only[(evA),yM8,c,ct,sb,e1,yA5 _ _ hi]
    rw[yJ5 f]
  ·rintro ρ ⟨x,rfl⟩
   rw[List.length_map,List.length_range,yL7]
   simp -implicitDefEqProofs only[(evA),ff]
def fpD (n:Nat) (ops:List Int):D:=.tuple ((List.range n).map fun (p:Nat)=>ftD n (ops.getD p 0).toNat (p:Int) [(p:Int)])
theorem yO5 {n:Nat}{ops:List Int}(q:Opn n ops):enumD (ops.map PyData.int)=(List.range n).map fun (p:Nat)=>PyData.tuple [.int (p:Int),.int ((ops.getD p 0).toNat:Int)]:=by
 unfold enumD
 rw[List.length_map,q.len]
 refine List.map_congr_left fun i hi => ?_
 have hi:=List.mem_range.mp hi
 have b:=q.at hi
 have g:(ops.map PyData.int).getD i .none=.int (ops.getD i 0):=by
  rw[List.getD,List.getElem?_map,List.getD,List.getElem?_eq_getElem (by rw[q.len];exact hi)]
  rfl
 rw[g,Int.toNat_of_nonneg b.1]
theorem jS {n:Nat}{ops:List Int}(q:Opn n ops) (h1:1<=n) (h2:n<=6):xQ [tI ops]=.ok (tI ops):=by
 show (xP [some (tI ops)]).bind (fin false)=_
 unfold xP
 simp -implicitDefEqProofs only[(evA),List.length_map,q.len,decide_eq_false (show ¬(6:Int)<(n:Int) by bv_omega),qH q h1 (show n<=60 by bv_omega)]
theorem fJ {n:Nat}{ops:List Int}(q:Opn n ops) (h1:1<=n) (h2:n<=6):yE [tI ops]=.ok (fpD n ops):=by
 show (wK [some (tI ops),none,none]).bind (fin false)=_
 unfold wK
 have cc:eComp2 (uT (eV 1)) tYes (eF yG (aC (eV 0) (aC (eV 2) (aC (eV 1) (aC (eB mkL (aC (eV 0) aN)) aN))))) [2] [some (tI ops),some (tI ops),some (.int (n:Int))]=.ok (.list ((List.range n).map fun (p:Nat)=>ftD n (ops.getD p 0).toNat (p:Int) [(p:Int)])):=by
  refine zG5 (fun p:Nat=>PyData.int (p:Int)) (fun p:Nat=>PyData.int ((ops.getD p 0).toNat:Int)) (fun p:Nat=>ftD n (ops.getD p 0).toNat (p:Int) [(p:Int)]) (List.range n) (by simp -implicitDefEqProofs only[(evA),yO5 q]) (by rw[List.length_range];bv_omega) fun p hp => ?_
  have b:=q.at (List.mem_range.mp hp)
  have e:=yL3 h2 (ops.getD p 0).toNat 8 (p:Int) [(p:Int)] (by bv_omega) (by show 1+_<=100;bv_omega)
  have e':yG [.int (p:Int),.int (n:Int),.int ((ops.getD p 0).toNat:Int),.list [.int (p:Int)]]=_:=e
  show eF yG _ [some (.int (p:Int)),some (.int ((ops.getD p 0).toNat:Int)),some (.int (n:Int))]=_
  simp -implicitDefEqProofs only[(evA),e']
 simp -implicitDefEqProofs only[(evA),jS q h1 h2,List.length_map,q.len,cc]
 rfl
theorem zD7 {α β:Type}(f:α->List β) (rs:List α) (j:Nat):((rs.take j).flatMap f).length<=(rs.flatMap f).length:=by
 have e:rs.flatMap f=(rs.take j).flatMap f++(rs.drop j).flatMap f:=by rw[<-List.flatMap_append,List.take_append_drop]
 rw[e,List.length_append]
 bv_omega
def stO (k:Nat) (rs:List (List Int)):List (List Int):=rs.flatMap fun r=>(List.range (r.length+1)).map fun j=>insAt r j (k:Int)
theorem bZ {n:Nat}(hn:n<=5):wZ [.int (n:Int)]=.ok (rows (allO n)):=by
 show (uW [some (.int (n:Int)),none,none,none,none]).bind (fin false)=_
 unfold uW
 have mt:mkT ([]:List D)=some (.tuple []):=mkT0
 simp -implicitDefEqProofs only[(evA),mt,vC (n:=n) (by bv_omega)]
 refine zL2 (fun i ρ=>∃x y z,ρ=[some (.int (n:Int)),some (rows (allO i)),x,y,z]) ⟨none,none,none,rfl⟩ ?_ ?_
 ·rintro i d ρ hd ⟨x,y,z,rfl⟩
  obtain⟨hi,rfl⟩:=bU hd
  have few:(allO (i+1)).length<=120:=by
   rw[fX]
   have:∀k,k<=5->fac k<=120:=by decide
   exact this (i+1) (by bv_omega)
  have al:allO (i+1)=stO i (allO i):=rfl
  rw[al] at few
  have inner:∃z',L3.forM (gN 4) (sM 3 extD (aC (eComp (iR rng1 (aC (e2 addI (eB lenD (aC (eV 4) aN)) (eC (.int 1))) aN)) tYes (e2 catT (e2 catT (eS slD (eV 1) oN (oS (eV 0))) (eB mkT (aC (eV 2) aN))) (eS slD (eV 1) (oS (eV 0)) oN)) [4,2]) aN)) ((allO i).map tI) [some (.int (n:Int)),some (rows (allO i)),some (.int (i:Int)),some (.list []),z]=.ok (.nx [some (.int (n:Int)),some (rows (allO i)),some (.int (i:Int)),some (rows (stO i (allO i))),z']):=by
   obtain⟨ρ',e,z',rfl⟩:=vJ (g:=gN 4) (b:=sM 3 extD (aC (eComp (iR rng1 (aC (e2 addI (eB lenD (aC (eV 4) aN)) (eC (.int 1))) aN)) tYes (e2 catT (e2 catT (eS slD (eV 1) oN (oS (eV 0))) (eB mkT (aC (eV 2) aN))) (eS slD (eV 1) (oS (eV 0)) oN)) [4,2]) aN))
    (fun j ρ=>∃z',ρ=[some (.int (n:Int)),some (rows (allO i)),some (.int (i:Int)),some (rows (stO i ((allO i).take j))),z']) ((allO i).map tI) [some (.int (n:Int)),some (rows (allO i)),some (.int (i:Int)),some (.list []),z] ⟨z,rfl⟩ (by
     rintro j d ρ hd ⟨z',rfl⟩
     rw[List.getElem?_map] at hd
     obtain⟨r,hr,rfl⟩:=Option.map_eq_some_iff.mp hd
     have o:=fZ (List.mem_of_getElem? hr)
     have lr:(r.map PyData.int).length=i:=by rw[List.length_map,o.len]
     have cc:eComp (iR rng1 (aC (e2 addI (eB lenD (aC (eV 4) aN)) (eC (.int 1))) aN)) tYes (e2 catT (e2 catT (eS slD (eV 1) oN (oS (eV 0))) (eB mkT (aC (eV 2) aN))) (eS slD (eV 1) (oS (eV 0)) oN)) [4,2] [some (.int (n:Int)),some (rows (allO i)),some (.int (i:Int)),some (rows (stO i ((allO i).take j))),some (tI r)]=.ok (rows ((List.range (r.length+1)).map fun j=>insAt r j (i:Int))):=by
      have rn:=vC (show i+1<=1000 by bv_omega)
      have rn':rng1 [.int ((i:Int)+1)]=_:=rn
      rw[uP (fun x:Nat=>PyData.int (x:Int)) (fun x:Nat=>tI (insAt r x (i:Int))) (List.range (i+1)) (by simp -implicitDefEqProofs only[(evA),lr,rn']) (by rw[List.length_range];bv_omega) (fun x hx=>by
       have c1:cutD (r.map PyData.int) none (some (x:Int))=(r.take x).map PyData.int:=by rw[xW4,List.map_take]
       have c2:cutD (r.map PyData.int) (some (x:Int)) none=(r.drop x).map PyData.int:=by rw[yR4,List.map_drop]
       have k1:catT (.tuple ((r.take x).map PyData.int)) (.tuple [.int (i:Int)])=some (tI (r.take x ++ [(i:Int)])):=zL4 (xs:=r.take x) (ys:=[(i:Int)]) (by rw[List.length_take,o.len];simp;bv_omega)
       have k2:catT (tI (r.take x ++ [(i:Int)])) (.tuple ((r.drop x).map PyData.int))=some (tI ((r.take x ++ [(i:Int)])++r.drop x)):=zL4 (by rw[List.length_append,List.length_take,List.length_drop,o.len];simp;bv_omega)
       show e2 catT _ _ [some (.int (x:Int)),some (tI r),some (.int (i:Int))]=_
       simp -implicitDefEqProofs only[(evA),c1,c2,k1,k2]
       unfold insAt
       rw[List.append_assoc]
       rfl)]
      show _=Res.ok (PyData.list _)
      rw[List.map_map,o.len]
      rfl
     have e1:(allO i).take (j+1)=(allO i).take j ++ [r]:=by rw[List.take_succ,hr];rfl
     have e2':stO i ((allO i).take (j+1))=stO i ((allO i).take j)++(List.range (r.length+1)).map fun j=>insAt r j (i:Int):=by
      rw[e1]
      unfold stO
      rw[List.flatMap_append]
      simp
     have fw:(stO i ((allO i).take (j+1))).length<=120:=Nat.le_trans (zD7 (fun r=>(List.range (r.length+1)).map fun j=>insAt r j (i:Int)) (allO i) (j+1)) few
     rw[e2',List.length_append] at fw
     have ex:=zV2 (l:=(stO i ((allO i).take j)).map tI) (k:=((List.range (r.length+1)).map fun j=>insAt r j (i:Int)).map tI) (d:=rows ((List.range (r.length+1)).map fun j=>insAt r j (i:Int))) rfl (by rw[List.length_map,List.length_map];bv_omega)
     refine⟨_,_,rfl,?_,some (tI r),rfl⟩
     show sM 3 extD _ [some (.int (n:Int)),some (rows (allO i)),some (.int (i:Int)),some (rows (stO i ((allO i).take j))),some (tI r)]=_
     simp -implicitDefEqProofs only[(evA),cc,ex]
     rw[e2',<-List.map_append])
   rw[List.length_map,List.take_length] at e
   exact⟨z',e⟩
  obtain⟨z',inner⟩:=inner
  refine⟨_,_,rfl,?_,some (.int (i:Int)),none,z',rfl⟩
  simp -implicitDefEqProofs only[(evA),inner]
  rw[al]
 ·rintro ρ ⟨x,y,z,rfl⟩
  rw[List.length_map,List.length_range]
  simp -implicitDefEqProofs only[(evA)]
def nmI (xs:List Int) (p i:Nat):List Int:=rI' ((List.range (i+1)).map fun j=>it xs j p)
theorem yH6 (xs:List Int) (p i:Nat):nmI xs p (i+1)=nmI xs p i ++ [((it xs (i+1) p:Nat):Int)]:=by
 unfold nmI rI'
 rw[List.range_succ (n:=i+1),List.map_append,List.map_append]
 rfl
theorem yB7 {n:Nat}{xs:List Int}(o:Ord n xs){p i:Nat}(hp:p<n) (h:i+1<=per n xs p):(nmI xs p i).contains ((it xs (i+1) p:Nat):Int)=decide (i+1=per n xs p):=by
 obtain⟨a1,a2,a3,a4⟩:=o.yR hp
 unfold nmI rI'
 by_cases e:i+1=per n xs p
 ·rw[decide_eq_true e,e,a3,List.contains_iff_mem,List.map_map]
  exact List.mem_map.mpr ⟨0,List.mem_range.mpr (by bv_omega),rfl⟩
 ·rw[decide_eq_false e,<-Bool.not_eq_true,List.contains_iff_mem,List.map_map]
  intro z
  obtain⟨j,hj,ej⟩:=List.mem_map.mp z
  have hj:=List.mem_range.mp hj
  exact o.zE1 hp (show j<i+1 by bv_omega) (by bv_omega) (Int.ofNat_inj.mp ej)
def fwD (n:Nat) (xs:List Int) (p i:Nat):D:=ftD n (n-i) ((it xs i p:Nat):Int) (nmI xs p i)
theorem bH {n:Nat}{xs:List Int}(o:Ord n xs){p i:Nat}(hp:p<n) (h:i<per n xs p):bxD (fwD n xs p i)=some (it xs i p)/\(i+1<per n xs p->nxD (fwD n xs p i) (it xs (i+1) p)=fwD n xs p (i+1)):=by
 obtain⟨a1,a2,a3,a4⟩:=o.yR hp
 obtain⟨m,hm⟩:∃m,n-i=m+1:=⟨n-i-1,by bv_omega⟩
 unfold fwD
 rw[hm,ftD]
 refine⟨by show some _=_;rw[Int.toNat_natCast],fun h2 => ?_⟩
 show ((List.range n).map _).getD (it xs (i+1) p) PyData.none=_
 rw[bS _ (o.wN hp (i+1)),yB7 o hp (by bv_omega),decide_eq_false (by bv_omega),yH6,show n-(i+1)=m by bv_omega]
 rfl
theorem zB6 {n:Nat}{xs:List Int}(o:Ord n xs){p k l:Nat}(hp:p<n){t:D}{seen mid:List (Option Nat)}{rs:List Rv}(h:Tn bxD nxD (fun b _=>nxt xs b) p k t l seen rs mid):∀i,i<per n xs p->l=it xs i p->t=fwD n xs p i->some p∉seen->(∀j,i<=j->j<per n xs p->seen[it xs j p]?=some none) ->
  (∀r∈rs,r.1=r.2.1)/\(∀j,i<=j->j<per n xs p->mid[it xs j p]?=some (some (nxt xs (it xs j p))))/\∀b,(∀j,i<=j->j<per n xs p->b≠it xs j p)->mid[b]?=seen[b]?:=by
 obtain⟨a1,a2,a3,a4⟩:=o.yR hp
 induction h with
 | done h=>exact fun i _ _ _ np _=>absurd h np
 | leafN h1 h2 h3 h4 _ ih =>
  intro i hi el et np hs
  rw[et,(bH o hp hi).1] at h2
  cases h2
 | nodeO h1 h2 h3 _ ih =>
  intro i hi el et np hs
  rw[et,(bH o hp hi).1] at h2
  cases h2
  rw[hs i (Nat.le_refl _) hi] at h3
  cases h3
 | nodeN h1 h2 h3 tn ih =>
  rename_i k' t' l' b seen' out' rs'
  intro i hi el et np hs
  obtain⟨f1,f2⟩:=bH o hp hi
  rw[et,f1] at h2
  cases h2
  subst el
  have si:nxt xs (it xs i p)=it xs (i+1) p:=rfl
  have bl:it xs i p<seen'.length:=(List.getElem?_eq_some_iff.mp h3).1
  by_cases c:i+1<per n xs p
  ·have ne:∀j,i+1<=j->j<per n xs p->it xs i p≠it xs j p:=fun j b1 b2=>o.zE1 hp (by bv_omega) b2
   obtain⟨i1,i2,i3⟩:=ih (i+1) c si (by rw[et,si];exact f2 c) (fun z=>by
    rcases List.mem_or_eq_of_mem_set z with z | z
    ·exact np z
    ·have:=Option.some.inj z
     rw[si] at this
     exact a4 (i+1) (by bv_omega) c this.symm) (fun j b1 b2=>by rw[List.getElem?_set_ne (ne j b1 b2)];exact hs j (by bv_omega) b2)
   refine⟨fun r hr => ?_,fun j b1 b2 => ?_,fun b hb => ?_⟩
   ·rcases List.mem_cons.mp hr with rfl | hr
    ·rfl
    ·exact i1 r hr
   ·by_cases e:j=i
    ·subst e
     rw[i3 _ fun j' c1 c2=>ne j' c1 c2,List.getElem?_set_self bl]
    ·exact i2 j (by bv_omega) b2
   ·rw[i3 b fun j c1 c2=>hb j (by bv_omega) c2,List.getElem?_set_ne (fun z=>hb i (Nat.le_refl _) hi z.symm)]
  ·have ei:i+1=per n xs p:=by bv_omega
   have ep:nxt xs (it xs i p)=p:=by rw[si,ei,a3]
   have hm:some p∈seen'.set (it xs i p) (some (nxt xs (it xs i p))):=by
    rw[ep]
    exact List.mem_iff_getElem?.mpr ⟨_,List.getElem?_set_self bl⟩
   cases tn with
   | done _ =>
    refine⟨fun r hr => ?_,fun j b1 b2 => ?_,fun b hb => ?_⟩
    ·rw[List.mem_singleton.mp hr]
    ·have:j=i:=by bv_omega
     subst this
     exact List.getElem?_set_self bl
    ·exact List.getElem?_set_ne (fun z=>hb i (Nat.le_refl _) hi z.symm)
   | leafN z _ _ _ _=>exact absurd hm z
   | nodeN z _ _ _=>exact absurd hm z
   | nodeO z _ _ _=>exact absurd hm z
structure Zr (n:Nat) (xs:List Int) (seen:List (Option Nat)):Prop where
 val:∀b,b<n->seen[b]?=some none\/seen[b]?=some (some (nxt xs b))
 cl:∀b,b<n->seen[b]?≠some none->seen[nxt xs b]?≠some none
theorem Zr.free {n:Nat}{xs:List Int}{seen:List (Option Nat)}(z:Zr n xs seen) (o:Ord n xs){p:Nat}(hp:p<n) (np:some p∉seen):∀j,j<per n xs p->seen[it xs j p]?=some none:=by
 obtain⟨a1,a2,a3,a4⟩:=o.yR hp
 have key:∀d j,j+d+1=per n xs p->seen[it xs j p]?=some none:=by
  intro d
  induction d with
  | zero =>
   intro j e
   rcases z.val _ (o.wN hp j) with h | h
   ·exact h
   ·have ep:nxt xs (it xs j p)=p:=by show it xs (j+1) p=p;rw[show j+1=per n xs p by bv_omega,a3]
    rw[ep] at h
    exact absurd (List.mem_iff_getElem?.mpr ⟨_,h⟩) np
  | succ d ih =>
   intro j e
   have h1:=ih (j+1) (by bv_omega)
   rcases z.val _ (o.wN hp j) with h | h
   ·exact h
   ·exact absurd h1 (z.cl _ (o.wN hp j) (by rw[h];exact fun w=>nomatch w))
 exact fun j hj=>key (per n xs p-j-1) j (by bv_omega)
theorem zB4 {n:Nat}{xs:List Int}(o:Ord n xs){T:Nat->D}(hT:∀p,p<n->T p=fwD n xs p 0){ps:List Nat}{seen fin:List (Option Nat)}{out:List (Nat×List Rv)}(h:Gm bxD nxD (fun b _=>nxt xs b) T ps seen out fin):(∀p∈ps,p<n)->Zr n xs seen->∀r∈allR out,r.1=r.2.1:=by
 induction h with
 | nil=>exact fun _ _ r hr=>nomatch hr
 | skip _ _ ih=>exact fun hp z=>ih (fun q hq=>hp q (List.mem_cons_of_mem _ hq)) z
 | play np tn gg ih =>
  rename_i p k ps' seen' mid fin' rs out'
  intro hps z
  have hp:=hps p List.mem_cons_self
  obtain⟨a1,a2,a3,a4⟩:=o.yR hp
  have fr:=z.free o hp np
  obtain⟨t1,t2,t3⟩:=zB6 o hp tn 0 (by bv_omega) rfl (hT p hp) np fun j _ hj=>fr j hj
  have zm:Zr n xs mid:=by
   refine⟨fun b hb => ?_,fun b hb hn => ?_⟩
   ·by_cases c:∃j,j<per n xs p/\b=it xs j p
    ·obtain⟨j,c1,rfl⟩:=c
     exact .inr (t2 j (Nat.zero_le _) c1)
    ·rw[t3 b fun j _ c1 c2=>c ⟨j,c1,c2⟩]
     exact z.val b hb
   ·by_cases c:∃j,j<per n xs p/\nxt xs b=it xs j p
    ·obtain⟨j,c1,c2⟩:=c
     rw[c2,t2 j (Nat.zero_le _) c1]
     exact fun w=>nomatch w
    ·rw[t3 _ fun j _ c1 c2=>c ⟨j,c1,c2⟩]
     refine z.cl b hb ?_
     rw[<-t3 b fun j _ c1 c2 => ?_]
     ·exact hn
     ·refine c ?_
      subst c2
      by_cases e:j+1<per n xs p
      ·exact⟨j+1,e,rfl⟩
      ·refine⟨0,by bv_omega,?_⟩
       show it xs (j+1) p=p
       rw[show j+1=per n xs p by bv_omega,a3]
  intro r hr
  rcases List.mem_append.mp (show r∈rs++allR out' from hr) with hr | hr
  ·exact t1 r hr
  ·exact ih (fun q hq=>hps q (List.mem_cons_of_mem _ hq)) zm r hr
theorem zN2 {n:Nat}{ops xs ys:List Int}{t:Nat->D}{out:List (Nat×List Rv)}(w:WrP n ops t xs ys out) (ht:∀p,p<n->t p=ftD n n (p:Int) [(p:Int)]) (hp:∀p∈poK n (opF ops),p<n):ys=xs:=by
 have g:=zB4 w.ord (T:=tOf n t) (fun p h=>by rw[zD3 t h,ht p h];rfl) w.gm hp ⟨fun b hb=>.inl (by rw[List.getElem?_replicate,if_pos hb]),fun b hb h=>absurd (by rw[List.getElem?_replicate,if_pos hb]) h⟩
 refine List.ext_getElem (by rw[w.wrt.len,w.ord.len]) fun i hi hj => ?_
 have hn:i<n:=by rw[w.wrt.len] at hi;exact hi
 have g1:ys[i]=ys.getD i 0:=by simp[List.getD,hi]
 have g2:xs[i]=xs.getD i 0:=by simp[List.getD,hj]
 rw[g1,g2,w.wrt.yM hn,w.ord.yM hn]
 obtain⟨z,hz,r,hr,e⟩:=w.all i hn
 have hr':r∈allR out:=List.mem_flatMap.mpr ⟨z,hz,hr⟩
 obtain⟨v1,v2,v3⟩:=w.val r hr'
 rw[g r hr',e] at v1
 rw[e] at v2
 rw[v1,v2]
def lwS:Ev->Res D:=eComp (iS (eV 4)) tYes (eF xS (aC (eV 1) (aC (eV 2) (aC (eV 0) aN)))) [3,2]
def lwE:Ev->Res D:=eComp (iS (eV 4)) tYes (e2 (fun x y=>bD (eqD x y)) (eF xS (aC (eV 1) (aC (eV 2) (aC (eV 0) aN)))) (eV 0)) [8,7]
def lwB:Ev->Res Out:=(sIf (b2 neD (eF uU (aC (eV 3) (aC (eV 2) (aC (e2 ixD (eV 5) (eV 6)) aN)))) (e2 ixD (eV 4) (eV 6))) (sR (eC (.bool false))) sN)
theorem xQ1:zH6=(sQ (sA (eF qZ (aC (eV 0) aN)) (gT 2 (gsC (gN 1) (gsC (gN 2) gsN)))) (sQ (sS 3 (eF kM (aC (eV 0) (aC (eV 1) (aC (eV 2) aN))))) (sQ (sS 4 (eF wZ (aC (eV 1) aN))) (sQ (sS 5 lwS) (sQ (sIf (b2 neD (eB sortTD (aC (eV 5) aN)) (eB sortTD (aC (eV 4) aN))) (sR (eC (.bool false))) sN) (sQ (sF (iR rng1 (aC (eB lenD (aC (eV 4) aN)) aN)) (gN 6) lwB) (sQ (sS 7 (e2 repT (eB mkT (aC (eV 1) aN)) (eV 1))) (sQ (sS 8 (eF yE (aC (eV 7) aN))) (sR (eB allD (aC lwE aN))))))))))):=rfl
theorem xY1 {n:Nat}{ops:List Int}{t:Nat->D}(P:PlanOk n ops t) (q:Opn n ops) (h1:1<=n) (h2:n<=6){L:List (List Int)}(A:AllOrd n L):∃f:List Int->List Int,(∀xs∈L,∃out,WrP n ops t xs (f xs) out)/\(L.map f).Perm L:=by
 have W:∀xs,∃ys,xs∈L->∃out,WrP n ops t xs ys out:=fun xs=>by
  by_cases h:xs∈L
  ·obtain⟨ys,out,w⟩:=zL8 P q h2 ((A.mem xs).mp h)
   exact⟨ys,fun _=>⟨out,w⟩⟩
  ·exact⟨[],fun z=>absurd z h⟩
 let f:List Int->List Int:=fun xs=>(W xs).choose
 have F:∀xs∈L,∃out,WrP n ops t xs (f xs) out:=fun xs hx=>(W xs).choose_spec hx
 have nd:(L.map f).Nodup:=by
  have go:∀M:List (List Int),M.Nodup->(∀x∈M,x∈L)->(M.map f).Nodup:=by
   intro M
   induction M with
   | nil=>exact fun _ _=>List.nodup_nil
   | cons a M ih =>
    intro h hs
    obtain⟨h1,h2⟩:=List.nodup_cons.mp h
    rw[List.map_cons,List.nodup_cons]
    refine⟨fun z => ?_,ih h2 fun x hx=>hs x (List.mem_cons_of_mem _ hx)⟩
    obtain⟨b,hb,e⟩:=List.mem_map.mp z
    obtain⟨o1,w1⟩:=F a (hs a List.mem_cons_self)
    obtain⟨o2,w2⟩:=F b (hs b (List.mem_cons_of_mem _ hb))
    rw[e] at w2
    exact h1 (by rw[w1.inj w2];exact hb)
  exact go L A.nd fun x hx=>hx
 refine⟨f,F,vN (L.map f) L nd (fun y hy => ?_) (by rw[List.length_map];exact Nat.le_refl _)⟩
 ·obtain⟨x,hx,rfl⟩:=List.mem_map.mp hy
  obtain⟨out,w⟩:=F x hx
  exact (A.mem _).mpr w.wrt
theorem yY8 (k:Nat):allD [.list (List.replicate k (.bool true))]=some (.bool true):=by
 have e:boolsOf (List.replicate k (PyData.bool true))=some (List.replicate k true):=by
  induction k with
  | zero=>rfl
  | succ k ih =>
   show (boolsOf (List.replicate k (PyData.bool true))).map (true :: ·)=_
   rw[ih]
   rfl
 show (boolsOf _).map _=_
 rw[e]
 show some (PyData.bool ((List.replicate k true).all id))=_
 rw[List.all_eq_true.mpr fun x hx=>by rw[(List.mem_replicate.mp hx).2];rfl]
theorem law_true (ns:List Int) (h:ns.length<=63):zH1 [.list (ns.map PyData.int)]=.ok (.bool true):=by
 show (zH6 [some (lI ns),none,none,none,none,none,none,none,none]).bind (fin false)=_
 obtain⟨n,ops,h1,h2,q,eg⟩:=zO8 ns
 obtain⟨t,P,ep⟩:=zE7 ns q h1 (show n<=6 by bv_omega)
 have A:=zJ8 h1 (show n<7 by bv_omega)
 have ao:=bZ h2
 have lo:(allO n).length<=120:=by
  have:∀k,k<6->(allO k).length<=120:=by decide +kernel
  exact this n (by bv_omega)
 generalize allO n=L at A ao lo
 have oL:∀xs∈L,Ord n xs:=fun xs hx=>(A.mem xs).mp hx
 obtain⟨f,F,pm⟩:=xY1 P q h1 (show n<=6 by bv_omega) A
 have gt:gT 2 (gsC (gN 1) (gsC (gN 2) gsN)) (.tuple [.int (n:Int),tI ops]) [some (lI ns),none,none,none,none,none,none,none,none]=some [some (lI ns),some (.int (n:Int)),some (tI ops),none,none,none,none,none,none]:=rfl
 have ne:∀xs∈L,xs ≠ []:=fun xs hx z=>by
  have:=(oL xs hx).len
  rw[z] at this
  simp at this
  bv_omega
 have sL:sortTD [rows L]=some (rows (TS.sortT L)):=dX ne
 have sM:sortTD [rows (L.map f)]=some (rows (TS.sortT L)):=by
  rw[<-TS.zP2 pm]
  exact dX fun ys hy=>ne ys (pm.mem_iff.mp hy)
 have nb:neD (rows (TS.sortT L)) (rows (TS.sortT L))=some false:=by rw[yO8,decide_eq_true rfl];rfl
 have es:lwS [some (lI ns),some (.int (n:Int)),some (tI ops),some (.tuple ((List.range n).map t)),some (rows L),none,none,none,none]=.ok (rows (L.map f)):=by
  unfold lwS
  rw[uP tI (fun xs=>tI (f xs)) L (by simp -implicitDefEqProofs only[(evA)]) (by bv_omega) fun xs hx=>by
   obtain⟨out,w⟩:=F xs hx
   have e:=cD w P q h1 (show n<=6 by bv_omega)
   show eF xS _ [some (tI xs),some (.tuple ((List.range n).map t)),some (tI ops)]=_
   simp -implicitDefEqProofs only[(evA),e]]
  rw[rows,List.map_map]
  rfl
 obtain⟨wide,hw⟩:∃wide:List Int,wide=List.replicate n (n:Int):=⟨_,rfl⟩
 have wl:wide.length=n:=by rw[hw,List.length_replicate]
 have wa:∀p,p<n->wide.getD p 0=(n:Int):=fun p hp=>by rw[hw,List.getD,List.getElem?_replicate,if_pos hp];rfl
 have qw:Opn n wide:=⟨wl,fun x hx=>by
  rw[hw] at hx
  have:=(List.mem_replicate.mp hx).2
  bv_omega⟩
 have er:repT (.tuple [.int (n:Int)]) (.int (n:Int))=some (tI wide):=by
  rw[yE8 h1 (show n<=6 by bv_omega),hw,tI,List.map_replicate]
 obtain⟨u,hu⟩:∃u:Nat->D,u=fun p=>ftD n (wide.getD p 0).toNat (p:Int) [(p:Int)]:=⟨_,rfl⟩
 have V:PlanOk n wide u:=by rw[hu];exact xQ3 n wide
 have ef:yE [tI wide]=.ok (.tuple ((List.range n).map u)):=by rw[fJ qw h1 (show n<=6 by bv_omega),hu];rfl
 have ee:∀x5 x6,lwE [some (lI ns),some (.int (n:Int)),some (tI ops),some (.tuple ((List.range n).map t)),some (rows L),x5,x6,some (tI wide),some (.tuple ((List.range n).map u))]=.ok (.list (List.replicate L.length (.bool true))):=fun x5 x6=>by
  unfold lwE
  rw[uP tI (fun _=>PyData.bool true) L (by simp -implicitDefEqProofs only[(evA)]) (by bv_omega) fun xs hx=>by
   obtain⟨ys,out,w⟩:=zL8 V qw (show n<=6 by bv_omega) (oL xs hx)
   have sm:=zN2 w (fun p hp=>by rw[hu];show ftD n (wide.getD p 0).toNat _ _=_;rw[wa p hp,Int.toNat_natCast]) fun p hp=>List.mem_range.mp ((jM (show n<=6 by bv_omega)).1.mem_iff.mp hp)
   have e:=cD w V qw h1 (show n<=6 by bv_omega)
   rw[sm] at e
   have eb:eqD (tI xs) (tI xs)=some true:=by rw[xZ9,decide_eq_true rfl]
   show e2 _ (eF xS _) _ [some (tI xs),some (.tuple ((List.range n).map u)),some (tI wide)]=_
   simp -implicitDefEqProofs only[(evA),e,eb]]
  rw[List.map_const']
 have ab:=yY8 L.length
 have lp:∃x,L3.forM (gN 6) lwB ((List.range L.length).map fun (i:Nat)=>PyData.int (i:Int)) [some (lI ns),some (.int (n:Int)),some (tI ops),some (.tuple ((List.range n).map t)),some (rows L),some (rows (L.map f)),none,none,none]=.ok (.nx [some (lI ns),some (.int (n:Int)),some (tI ops),some (.tuple ((List.range n).map t)),some (rows L),some (rows (L.map f)),x,none,none]):=by
  obtain⟨ρ',e,x,rfl⟩:=vJ (g:=gN 6) (b:=lwB) (fun j ρ=>∃x,ρ=[some (lI ns),some (.int (n:Int)),some (tI ops),some (.tuple ((List.range n).map t)),some (rows L),some (rows (L.map f)),x,none,none]) ((List.range L.length).map fun (i:Nat)=>PyData.int (i:Int)) [some (lI ns),some (.int (n:Int)),some (tI ops),some (.tuple ((List.range n).map t)),some (rows L),some (rows (L.map f)),none,none,none] ⟨none,rfl⟩ (by
   rintro j d ρ hd ⟨x,rfl⟩
   rw[List.getElem?_map] at hd
   obtain⟨i,hi,rfl⟩:=Option.map_eq_some_iff.mp hd
   have hi':i<L.length:=List.mem_range.mp (List.mem_of_getElem? hi)
   obtain⟨out,w⟩:=F _ (List.getElem_mem hi')
   have e:=zT3 w P q h1 (show n<=6 by bv_omega)
   have a1:atI (L.map tI) (i:Int)=some (tI L[i]):=bJ (by rw[List.getElem?_map,List.getElem?_eq_getElem hi'];rfl)
   have a2:atI ((L.map f).map tI) (i:Int)=some (tI (f L[i])):=bJ (by rw[List.getElem?_map,List.getElem?_map,List.getElem?_eq_getElem hi'];rfl)
   have nx:neD (tI L[i]) (tI L[i])=some false:=by rw[xZ7,decide_eq_true rfl];rfl
   refine⟨_,[some (lI ns),some (.int (n:Int)),some (tI ops),some (.tuple ((List.range n).map t)),some (rows L),some (rows (L.map f)),some (.int (i:Int)),none,none],rfl,?_,_,rfl⟩
   unfold lwB
   simp -implicitDefEqProofs only[(evA),a1,a2,e,nx])
  exact⟨x,e⟩
 obtain⟨x,lp⟩:=lp
 have ln:(L.map tI).length=L.length:=List.length_map ..
 rw[xQ1]
 simp -implicitDefEqProofs only[(evA),eg,gt,ep,ao,es,sL,sM,nb,ln,vC (n:=L.length) (show L.length<=1000 by bv_omega),lp,mkT1,er,ef,ee,ab]
end K32
set_option hygiene false in
local macro_rules | `(tactic| sleep 11)=>`(tactic| (dsimp only[L2.KOf];refine' ⟨_,_,L2.jJ KX G ?a ?l ?c ?k ?b⟩; (case a=>k_is); (case l=>k_is); (case c=>k_is); (case k=>k_is); (case b=>intro _ _ _ _ _ _;refine L2.L3.ls1 ?_;exact fun _=>rfl)))
set_option hygiene false in
local macro_rules | `(tactic| sleep 12)=>`(tactic| (dsimp only[L2.KOf];refine' ⟨_,_,L2.jJ KX G ?a ?l ?c ?k ?b⟩; (case a=>k_is); (case l=>k_is); (case c=>k_is); (case k=>k_is); (case b=>intro _ _ _ _ _ _;refine L2.L3.ls2 ?_;exact fun _ _=>rfl)))
set_option hygiene false in
local macro_rules | `(tactic| sleep 13)=>`(tactic| (dsimp only[L2.KOf];refine' ⟨_,_,L2.jJ KX G ?a ?l ?c ?k ?b⟩; (case a=>k_is); (case l=>k_is); (case c=>k_is); (case k=>k_is); (case b=>intro _ _ _ _ _ _;refine L2.L3.ls3 ?_;exact fun _ _ _=>rfl)))
set_option hygiene false in
local macro_rules | `(tactic| sleep 14)=>`(tactic| (dsimp only[L2.KOf];refine' ⟨_,_,L2.jJ KX G ?a ?l ?c ?k ?b⟩; (case a=>k_is); (case l=>k_is); (case c=>k_is); (case k=>k_is); (case b=>intro _ _ _ _ _ _;refine L2.L3.ls4 ?_;exact fun _ _ _ _=>rfl)))
set_option hygiene false in
local macro_rules | `(tactic| sleep 16)=>`(tactic| (dsimp only[L2.KOf];refine' ⟨_,_,L2.jJ KX G ?a ?l ?c ?k ?b⟩; (case a=>k_is); (case l=>k_is); (case c=>k_is); (case k=>k_is); (case b=>intro _ _ _ _ _ _;refine L2.L3.ls6 ?_;exact fun _ _ _ _ _ _=>rfl)))
def PySem.W.Fast.tw10057690761833844495 : Unit := ()
theorem PySem.W.Fast.te10057690761833844495 : True := trivial
def PySem.W.Fast.tw12499065108000366403 : PySem.Program := PySem.Challenge.pw_ownboxes_k32_whole_each_order_is_written
theorem PySem.W.Fast.te12499065108000366403 : PySem.Challenge.pw_ownboxes_k32_whole_each_order_is_written = PySem.W.Fast.tw12499065108000366403 := rfl
def PySem.W.Fast.tw6811376405180412938 : Unit := ()
def PySem.W.Fast.tw17760357743132554206 : Unit := ()
def PySem.W.Fast.tw12949152925721439373 : Unit := ()
def PySem.W.Fast.tw16883942910362951626 : Unit := ()
def PySem.W.Fast.tw6108108498444595173 : Unit := ()
def PySem.W.Fast.tw9691370483478261379 : Unit := ()
open PySem PySem.W PyProof.Rows
set_option maxRecDepth 100000 in
set_option maxHeartbeats 0 in
theorem PySem.Challenge.cw_ownboxes_k32_whole_each_order_is_written_holds : PySem.Challenge.rw_ownboxes_k32_whole_each_order_is_written.Holds := by
 w_on;o_law;k_head; (case hw=>w_witness2)
 k_fill
 refine L2.L3.yT8 (F:=K32.zH1) (k:=12) (l:=PySem.Challenge.rw_ownboxes_k32_whole_each_order_is_written) K32.law_true ⟨rfl,by decide,by decide⟩ rfl rfl (fun w h Y=>PySem.W.km_in_of Y) (fun w=>by rfl) ?F ?TT
 case TT=>exact L2.zA4 (fun w=>by rfl) (fun w=>by kernel_rfl) (fun w=>by kernel_rfl)
 case F =>
  intro w mg fa h KX G hmg
  have D_is_order:∃f fd,L2.Has (L2.KOf KX) mg "is_order" K32.qX f fd ["names"]:=by sleep 11
  have D_order_by:∃f fd,L2.Has (L2.KOf KX) mg "order_by" K32.qY f fd ["rings"]:=by sleep 11
  have D_made_openings:∃f fd,L2.Has (L2.KOf KX) mg "made_openings" K32.xL f fd ["people","numbers"]:=by sleep 12
  have D_openings_of_a_plan:∃f fd,L2.Has (L2.KOf KX) mg "openings_of_a_plan" K32.yL f fd ["openings"]:=by sleep 11
  have D_check_boxes:∃f fd,L2.Has (L2.KOf KX) mg "check_boxes" K32.wP f fd ["plan","order"]:=by sleep 12
  have D_following_tree:∃f fd,L2.Has (L2.KOf KX) mg "following_tree" K32.yF f fd ["box","people","left","names"]:=by sleep 14
  have D_following_plan:∃f fd,L2.Has (L2.KOf KX) mg "following_plan" K32.yH f fd ["openings"]:=by sleep 11
  have D_check_game:∃f fd,L2.Has (L2.KOf KX) mg "check_game" K32.vP f fd ["plan","openings","order"]:=by sleep 13
  have D_one_turn:∃f fd,L2.Has (L2.KOf KX) mg "one_turn" K32.qW f fd ["tree","person","seen","name_in"]:=by sleep 14
  have D_played:∃f fd,L2.Has (L2.KOf KX) mg "played" K32.vA f fd ["plan","openings","name_in"]:=by sleep 13
  have D_turns:∃f fd,L2.Has (L2.KOf KX) mg "turns" K32.qR f fd ["plan","openings","order"]:=by sleep 13
  have D_written:∃f fd,L2.Has (L2.KOf KX) mg "written" K32.uO f fd ["plan","openings","order"]:=by sleep 13
  have D_unwritten:∃f fd,L2.Has (L2.KOf KX) mg "unwritten" K32.xN f fd ["plan","openings","order"]:=by sleep 13
  have D_l_cell_at:∃f fd,L2.Has (L2.KOf KX) mg "_law_cell_at" K32.uV f fd ["script","k"]:=by sleep 12
  have D_l_sums:∃f fd,L2.Has (L2.KOf KX) mg "_law_sums" K32.qP f fd ["script","start","many"]:=by sleep 13
  have D_l_take:∃f fd,L2.Has (L2.KOf KX) mg "_law_take" K32.kZ f fd ["pot","many"]:=by sleep 12
  have D_l_openings:∃f fd,L2.Has (L2.KOf KX) mg "_law_openings" K32.xI f fd ["pot","people"]:=by sleep 12
  have D_l_tree:∃f fd,L2.Has (L2.KOf KX) mg "_law_tree" K32.uZ f fd ["pot","people","left","boxes","names","thin"]:=by sleep 16
  have D_l_plan:∃f fd,L2.Has (L2.KOf KX) mg "_law_plan" K32.jG f fd ["script","people","openings"]:=by sleep 13
  have D_l_ground:∃f fd,L2.Has (L2.KOf KX) mg "_law_ground" K32.vZ f fd ["script"]:=by sleep 11
  have D_l_all_orders:∃f fd,L2.Has (L2.KOf KX) mg "_law_all_orders" K32.xW f fd ["people"]:=by sleep 11
  have D_law:∃f fd,L2.Has (L2.KOf KX) mg "law" K32.fS f fd ["script"]/\(∀(s:Shared) (u:Value),BindsTo s fd ⟨[u],[]⟩ [("script",u)]):=by
   dsimp only[L2.KOf]
   refine' ⟨_,_,L2.jJ KX G ?a ?l ?c ?k ?b,?d⟩
   (case a=>k_is); (case l=>k_is); (case c=>k_is); (case k=>k_is)
   (case b=>intro _ _ _ _ _ _;refine L2.L3.ls1 ?_;exact fun _=>rfl)
   (case d=>exact fun s u=>.of_eq rfl)
  have A_played:(PySem.W.tabIn (L2.KOf KX) "played").isSome=true:=by
   dsimp only[L2.KOf]
   kernel_rfl
  have B_played:∃c P,PySem.W.tabIn (L2.KOf KX) "played" = some (c,P)/\∀f fd,L2.Has (L2.KOf KX) mg "played" K32.vA f fd ["plan","openings","name_in"]->fd.code=.ref c:=L2.bQ KX G A_played
  have A_turns:(PySem.W.tabIn (L2.KOf KX) "turns").isSome=true:=by
   dsimp only[L2.KOf]
   kernel_rfl
  have jK:∃c P,PySem.W.tabIn (L2.KOf KX) "turns" = some (c,P)/\∀f fd,L2.Has (L2.KOf KX) mg "turns" K32.qR f fd ["plan","openings","order"]->fd.code=.ref c:=L2.bQ KX G A_turns
  have A_unwritten:(PySem.W.tabIn (L2.KOf KX) "unwritten").isSome=true:=by
   dsimp only[L2.KOf]
   kernel_rfl
  have wR:∃c P,PySem.W.tabIn (L2.KOf KX) "unwritten" = some (c,P)/\∀f fd,L2.Has (L2.KOf KX) mg "unwritten" K32.xN f fd ["plan","openings","order"]->fd.code=.ref c:=L2.bQ KX G A_unwritten
  have T:K32.Txt (L2.KOf KX) mg:=by
   dsimp only[L2.KOf]
   refine' ⟨PySem.W.mg_none_of KX G ?z0,PySem.W.mg_none_of KX G ?z1,PySem.W.mg_none_of KX G ?z2,PySem.W.mg_none_of KX G ?z3,PySem.W.mg_none_of KX G ?z4,PySem.W.mg_none_of KX G ?z5,PySem.W.mg_none_of KX G ?z6,PySem.W.mg_none_of KX G ?z7,PySem.W.mg_none_of KX G ?z8,PySem.W.mg_none_of KX G ?z9,⟨_,PySem.W.mg_of KX G ?y0,?x0⟩,⟨_,PySem.W.mg_of KX G ?y1,?x1⟩,D_is_order,D_order_by,D_made_openings,D_openings_of_a_plan,D_check_boxes,D_following_tree,D_following_plan,D_check_game,D_one_turn,D_played,D_turns,D_written,D_unwritten,D_l_cell_at,D_l_sums,D_l_take,D_l_openings,D_l_tree,D_l_plan,D_l_ground,D_l_all_orders,(let ⟨f,fd,h,_⟩:=D_law; ⟨f,fd,h⟩),B_played,jK,wR⟩
   (case z0=>k_is)
   (case z1=>k_is)
   (case z2=>k_is)
   (case z3=>k_is)
   (case z4=>k_is)
   (case z5=>k_is)
   (case z6=>k_is)
   (case z7=>k_is)
   (case z8=>k_is)
   (case z9=>k_is)
   (case y0=>k_is); (case x0=>exact⟨_,rfl⟩)
   (case y1=>k_is); (case x1=>exact⟨_,rfl⟩)
  obtain⟨fl,fdl,HL,HB⟩:=D_law
  have e0:=hmg.symm.trans HL.m
  cases e0
  exact⟨fdl,HB,fun base kb nb=>K32.yC8 T HL⟩
#print axioms PySem.Challenge.cw_ownboxes_k32_whole_each_order_is_written_holds