import PyProof.Rows.All
import Wide.All
import OpenK.AllK
import Wide.FinOn
import Lean
import PyProof.EqAt
import PyProof.EqKinds
import PyProof.TupleCall
import KE.KIntText
import PySem.Challenge.RW_ownboxes_k53_orders_asked
set_option compiler.extract_closed false
theorem cT (_h:True:=by first | exact .inl rfl | exact .inr rfl | assumption):True:=trivial
theorem zG (_h:True:=by decide):True:=trivial
theorem xS7 (_h:True:=by first | exact nobehind _ (by decide) (by decide) | rfl):True:=trivial
theorem qR (_h:True:=by intro _;rfl):True:=trivial
theorem zW (_h:True:=by rfl):True:=trivial
theorem zX2 (_h:True:=by with_unfolding_all rfl):True:=trivial
theorem kO (_h:True:=by first | exact Or.inl rfl | exact Or.inr (Or.inl rfl) | exact Or.inr (Or.inr rfl)):True:=trivial
theorem xS8 (_h:True:=by exact fun _ _=>rfl):True:=trivial
theorem zC4 (_h:True:=by first | exact nomark _ | rfl):True:=trivial
theorem cJ (_h:True:=by first | exact Or.inl rfl | exact Or.inr rfl):True:=trivial
theorem autoK12 (_h:True:=by first | exact .inl rfl | exact .inr rfl):True:=trivial
theorem autoK13 (_h:True:=by exact PassesOwn.never):True:=trivial
local macro_rules | `(tactic| bv_omega)=>`(tactic| first | lia | omega)
set_option Elab.async false
set_option linter.all false
set_option maxRecDepth 100000
set_option maxHeartbeats 4000000
noncomputable section
abbrev KFr:=PySem.W.Frag
namespace L2
open PySem PySem.Spec PyProof.Rows
abbrev Key:=Sum Int Str
def keyIs:Key->Value->Bool
 | .inl k,v=>Value.isInt k v
 | .inr x,v=>Value.isStrOf x v
def keyH (w:World):Key->Int
 | .inl k=>hashInt k
 | .inr x=>hashStr w x
theorem xM:∀{k:Key}{v:Value},keyIs k v=true->(∃i t,k=Sum.inl i/\v=Value.int i t)\/(∃x t,k=Sum.inr x/\v=Value.str x t)
 | .inl i,v,h=>by
  obtain⟨t,e⟩:=Value.isInt_shape (k:=i) (v:=v) h
  exact .inl ⟨i,t,rfl,e⟩
 | .inr x,v,h=>by
  obtain⟨t,e⟩:=Value.isStrOf_shape (x:=x) (v:=v) h
  exact .inr ⟨x,t,rfl,e⟩
theorem yQ9 (i:Int) (t:Tok):keyIs (.inl i) (.int i t)=true:=by simp[keyIs,Value.isInt]
theorem yU3 (x:Str) (t:Tok):keyIs (.inr x) (.str x t)=true:=by simp[keyIs,Value.isStrOf]
theorem yA8 (a b:Int):decide ((Sum.inl a:Key)=Sum.inl b)=(a == b):=by
 by_cases e:a=b
 ·subst e;simp
 ·have h:¬(Sum.inl a:Key)=Sum.inl b:=fun q=>e (Sum.inl.inj q)
  rw[decide_eq_false h]
  exact (beq_eq_false_iff_ne.mpr e).symm
theorem xY5 (a b:Str):decide ((Sum.inr a:Key)=Sum.inr b)=decide (a=b):=by
 by_cases e:a=b
 ·subst e;simp
 ·have h:¬(Sum.inr a:Key)=Sum.inr b:=fun q=>e (Sum.inr.inj q)
  rw[decide_eq_false h,decide_eq_false e]
theorem xW7 (a:Int) (b:Str):decide ((Sum.inl a:Key)=Sum.inr b)=false:=decide_eq_false (fun q=>nomatch q)
theorem xW6 (a:Str) (b:Int):decide ((Sum.inr a:Key)=Sum.inl b)=false:=decide_eq_false (fun q=>nomatch q)
def mixKind (prog:Program) (w:World):PySem.KeyKind prog w Key where
 is:=keyIs
 hash:=keyH w
 inj:=fun v a b ha hb=>by
  rcases xM ha with ⟨i,t,rfl,rfl⟩ | ⟨x,t,rfl,rfl⟩
  ·rcases xM hb with ⟨j,u,rfl,e⟩ | ⟨y,u,rfl,e⟩
   ·injection e with e1 _;rw[e1]
   ·exact nomatch e
  ·rcases xM hb with ⟨j,u,rfl,e⟩ | ⟨y,u,rfl,e⟩
   ·exact nomatch e
   ·injection e with e1 _;rw[e1]
 byValue:=fun k v h=>by
  rcases xM h with ⟨i,t,rfl,rfl⟩ | ⟨x,t,rfl,rfl⟩ <;> rfl
 pyHash:=fun hv h=>by
  rcases xM hv with ⟨i,t,rfl,rfl⟩ | ⟨x,t,rfl,rfl⟩
  ·exact wpAny_pyHash_int h
  ·exact wpAny_pyHash_str h
 eqBool:=fun hu hv h=>by
  rcases xM hu with ⟨i,t,rfl,rfl⟩ | ⟨x,t,rfl,rfl⟩
  ·rcases xM hv with ⟨j,u,rfl,rfl⟩ | ⟨y,u,rfl,rfl⟩
   ·rw[yA8] at h;exact wpAny_eqBool_int h
   ·rw[xW7] at h;exact SeqAt.EqAt.int_str i t y u _ _ _ _ h
  ·rcases xM hv with ⟨j,u,rfl,rfl⟩ | ⟨y,u,rfl,rfl⟩
   ·rw[xW6] at h;exact SeqAt.EqAt.str_int x t j u _ _ _ _ h
   ·rw[xY5] at h;exact wpAny_eqBool_str h
 «strs»:=fun k x t v h=>by
  rcases xM h with ⟨i,u,rfl,e⟩ | ⟨y,u,rfl,e⟩
  ·exact nomatch e
  ·injection e with e1 _
   subst e1
   cases v <;> rfl
theorem zJ8 (prog:Program) (w:World) (i:Int) (t:Tok):(mixKind prog w).is (.inl i) (.int i t)=true:=yQ9 i t
theorem zI1 (prog:Program) (w:World) (x:Str) (t:Tok):(mixKind prog w).is (.inr x) (.str x t)=true:=yU3 x t
inductive V where
 | non | bl (b:Bool) | int (i:Int) | str (x:Str) | byt (b:Array UInt8) | flt (b:UInt64) | ref (a:Addr) | ty (n:String)
 deriving DecidableEq
def RelV:V->Value->Prop
 | .non,u=>u=Value.none
 | .bl b,u=>u=Value.bool b
 | .int i,u=>∃t,u=Value.int i t
 | .str x,u=>∃t,u=Value.str x t
 | .byt b,u=>∃t,u=Value.bytes b t
 | .flt b,u=>∃t,u=Value.float b t
 | .ref a,u=>u=Value.ref a
 | .ty n,u=>u=Value.type n
abbrev Vals:List V->List Value->Prop:=Paired RelV
theorem Vals.length {xs:List V}{us:List Value}(r:Vals xs us):xs.length=us.length:=Paired.length r
theorem Vals.get:∀{xs:List V}{us:List Value}{i:Nat}{x:V},Vals xs us->xs[i]?=some x->∃u,us[i]?=some u/\RelV x u
 | _,_,_,_,.nil,e=>by simp at e
 | _,_,0,_,.cons r _,e=>by simp at e;subst e;exact⟨_,rfl,r⟩
 | _,_,i+1,x,.cons _ t,e=>by
  obtain⟨u,h1,h2⟩:=Vals.get (i:=i) (x:=x) t (by simpa using e)
  exact⟨u,by simpa using h1,h2⟩
theorem Vals.set {x:V}{u:Value}(r:RelV x u):∀{xs:List V}{us:List Value}(i:Nat),Vals xs us->Vals (xs.set i x) (us.set i u)
 | _,_,_,.nil=>.nil
 | _,_,0,.cons _ t=>.cons r t
 | _,_,i+1,.cons q t=>.cons q (Vals.set r i t)
theorem Vals.append:∀{xs ys:List V}{us ws:List Value},Vals xs us->Vals ys ws->Vals (xs++ys) (us++ws)
 | _,_,_,_,.nil,s=>s
 | _,_,_,_,.cons r t,s=>.cons r (Vals.append t s)
theorem Vals.take:∀{xs:List V}{us:List Value}(n:Nat),Vals xs us->Vals (xs.take n) (us.take n)
 | _,_,0,_=>.nil
 | _,_,_+1,.nil=>.nil
 | _,_,n+1,.cons r t=>.cons r (Vals.take n t)
theorem Vals.drop:∀{xs:List V}{us:List Value}(n:Nat),Vals xs us->Vals (xs.drop n) (us.drop n)
 | _,_,0,r=>r
 | _,_,_+1,.nil=>.nil
 | _,_,n+1,.cons _ t=>Vals.drop n t
theorem Vals.yB2:∀{xs:List V}{us:List Value}{i:Nat},Vals xs us->xs[i]?=none->us[i]?=none:=fun {xs us i} r e=>by
 have h1:=r.length
 have h2:xs.length<=i:=List.getElem?_eq_none_iff.mp e
 exact List.getElem?_eq_none_iff.mpr (by bv_omega)
def RelO:Option V->Option Value->Prop
 | some v,some u=>RelV v u
 | none,none=>True
 | _,_=>False
def KV {κ:Type}:List (κ×V)->List (κ×Value)->Prop:=Paired fun (p:κ×V) (q:κ×Value)=>p.1=q.1/\RelV p.2 q.2
def kV:Key->V
 | .inl i=>.int i
 | .inr x=>.str x
inductive HO where
 | lst (xs:List V)
 | tup (xs:List V)
 | dK (kvs:List (Key×V)) | dT (kvs:List (List Key×V))
 | set (S:Int->Bool) (n:Nat)
 | ins (C dx:Addr) (fs:List (Str×V))
 | own (x:Addr)
 | xd (fs:List (Str×V))
 | met (f x:Addr)
 | rng (lo hi:Int)
 | frz (o:Obj) (u:HO)
 | tbl (ps:Array Value)
 | ext (φ:Heap->Prop)
abbrev Hp:=Addr->Option HO
def upd (H:Hp) (a:Addr) (o:HO):Hp:=fun b=>if b=a then some o else H b
theorem yD {H:Hp}{a:Addr}{o:HO}:upd H a o a=some o:=by unfold upd;rw[if_pos rfl]
theorem zN {H:Hp}{a b:Addr}{o:HO}(h:b≠a):upd H a o b=H b:=by unfold upd;rw[if_neg h]
theorem xP2 {H:Hp}{a b:Addr}{o u:HO}(h:H a=some o) (h':H b=some u) (d:o≠u):a≠b:=by
 intro e;subst e;rw[h] at h';exact d (Option.some.inj h')
theorem xT {H:Hp}{a b:Addr}{o:HO}(h:H a=some o) (h':H b=none):a≠b:=by
 intro e;subst e;rw[h] at h';cases h'
def TupAt (h:Heap) (a:Addr) (its:Array Value):Prop:=∃o,h.get? a=some o/\o.cls=.type "tuple"/\(∃n,o.data=.seq its n)/\o.dict=none
theorem TupAt.tup {h:Heap}{a:Addr}{its:Array Value}(x:TupAt h a its):IsTup h a its:=by
 obtain⟨o,e,c,d,_⟩:=x
 exact⟨o,e,c,d⟩
theorem TupAt.new (h:Heap) (its:Array Value):TupAt (h.push { cls:=.type "tuple",data:=.seq its }) h.objs.size its:=⟨_,Heap.get?_push_size _ rfl,rfl,⟨_,rfl⟩,rfl⟩
section
variable (P:Program) (w:World)
def ObjOk (H:Hp) (h:Heap) (a:Addr):HO->Prop
 | .lst xs=>xs.length<=sizeLine/\∃(its:List Value) (n:Nat),Vals xs its/\h.get? a=some { cls:=.type "list",data:=.seq its.toArray n }
 | .tup xs=>xs.length<=sizeLine/\∃its:List Value,Vals xs its/\TupAt h a its.toArray
 | .dK kvs=>kvs.length<=sizeLine/\(a == sysModules)=false/\∃vs,KV kvs vs/\h.DictOf (mixKind P w) a vs
 | .dT kvs=>kvs.length<=sizeLine/\(a == sysModules)=false/\∃xs:List (List Key×Addr×Value),
   Paired (fun (p:List Key×V) (q:List Key×Addr×Value)=>p.1=q.1/\H q.2.1=some (.tup (p.1.map kV))/\RelV p.2 q.2.2) kvs xs /\
   ∃o es ep,h.get? a=some o/\o.ExactDict/\o.data=.dict es ep/\es.toList=xs.map (entryOfKey (tupleKind (mixKind P w)))/\(xs.map (·.1)).Nodup
 | .set S n=>h.SetOf (intKind P w) a S n
 | .ins C dx fs=>H dx=some (.own a)/\fs.length<=1000/\dx≠a/\h.get? a=some (PySem.W.instObj C dx) /\
   ∃mA,h.Ns1 dx mA/\(∀f,RelO (fs.lookup f) (mA f))/\PySem.Within mA (fs.map (·.1))
 | .own _=>∃o,h.get? a=some o
 | .xd fs=>∃mA,h.Ns1 a mA/\∀f,RelO (fs.lookup f) (mA f)
 | .rng lo hi=>∃t u v,h.get? a=some { cls:=.type "range",data:=.fields #[.int lo t,.int hi u,.int 1 v] }
 | .frz o u=>h.get? a=some o/\ObjOk H h a u
 | .tbl ps=>h.get? a=some { cls:=.none,data:=.fields ps }
 | .met f x=>h.get? a=some (PySem.W.methodObj (.ref f) (.ref x))
 | .ext φ=>φ h/\(∃o,h.get? a=some o)/\∀h1 h2:Heap,φ h1->(∀o,h1.get? a=some o->h2.get? a=some o)->φ h2
def HOk (H:Hp) (h:Heap):Prop:=∀a o,H a=some o->ObjOk P w H h a o
end
section
variable {P:Program}{w:World}{H H':Hp}{h h':Heap}{a:Addr}{o:HO}
theorem ObjOk.lt (x:ObjOk P w H h a o):a<h.objs.size:=by
 cases o with
 | lst xs=>obtain⟨_,_,_,_,e⟩:=x;exact Heap.lt_size e
 | tup xs=>obtain⟨_,_,_,p⟩:=x;exact p.tup.lt
 | dK kvs=>obtain⟨_,_,_,_,o,_,_,e,_⟩:=x;exact Heap.lt_size e
 | dT kvs=>obtain⟨_,_,_,_,o,_,_,e,_⟩:=x;exact Heap.lt_size e
 | set S n=>obtain⟨o,_,_,_,e,_⟩:=x;exact Heap.lt_size e
 | ins C dx fs=>obtain⟨_,_,_,e,_⟩:=x;exact Heap.lt_size e
 | own y=>obtain⟨_,e⟩:=x;exact Heap.lt_size e
 | xd fs=>obtain⟨_,⟨_,_,_,e,_⟩,_⟩:=x;exact Heap.lt_size e
 | rng lo hi=>obtain⟨_,_,_,e⟩:=x;exact Heap.lt_size e
 | frz ob u=>obtain⟨e,_⟩:=x;exact Heap.lt_size e
 | tbl ps=>exact Heap.lt_size (show h.get? a=some _ from x)
 | met f y=>exact Heap.lt_size (show h.get? a=some _ from x)
 | ext φ=>obtain⟨_,⟨_,e⟩,_⟩:=x;exact Heap.lt_size e
theorem Paired.mapP {α β:Type}{F G:α->β->Prop}:∀{l₁:List α}{l₂:List β},Paired F l₁ l₂->(∀a b,F a b->G a b)->Paired G l₁ l₂
 | _,_,.nil,_=>.nil
 | _,_,.cons r t,f=>.cons (f _ _ r) (Paired.mapP t f)
theorem ObjOk.stay (x:ObjOk P w H h a o) (k:∀b u,(b=a\/H b=some (.own a))->h.get? b=some u->h'.get? b=some u)
  (ho:∀b,H b=some (.own a)->H' b=some (.own a)) (ht:∀b xs,H b=some (.tup xs)->H' b=some (.tup xs)):ObjOk P w H' h' a o:=by
 induction o with
 | lst xs=>obtain⟨z,its,n,r,e⟩:=x;exact⟨z,its,n,r,k _ _ (.inl rfl) e⟩
 | tup xs=>obtain⟨z,its,r,ob,e,c⟩:=x;exact⟨z,its,r,ob,k _ _ (.inl rfl) e,c⟩
 | dK kvs=>obtain⟨z,y,vs,r,ob,es,ep,e,c⟩:=x;exact⟨z,y,vs,r,ob,es,ep,k _ _ (.inl rfl) e,c⟩
 | dT kvs =>
  obtain⟨z,y,xs,r,ob,es,ep,e,c⟩:=x
  exact⟨z,y,xs,Paired.mapP r fun p q z=>⟨z.1,ht _ _ z.2.1,z.2.2⟩,ob,es,ep,k _ _ (.inl rfl) e,c⟩
 | set S n=>obtain⟨ob,es,ep,t,e,c⟩:=x;exact⟨ob,es,ep,t,k _ _ (.inl rfl) e,c⟩
 | ins C dx fs =>
  obtain⟨d,z,ne,e,mA,⟨od,es,ep,e2,c⟩,r⟩:=x
  exact⟨ho _ d,z,ne,k _ _ (.inl rfl) e,mA,⟨od,es,ep,k _ _ (.inr d) e2,c⟩,r⟩
 | own y=>obtain⟨ob,e⟩:=x;exact⟨ob,k _ _ (.inl rfl) e⟩
 | xd fs=>obtain⟨mA,⟨od,es,ep,e,c⟩,r⟩:=x;exact⟨mA,⟨od,es,ep,k _ _ (.inl rfl) e,c⟩,r⟩
 | rng lo hi=>obtain⟨t,u,v,e⟩:=x;exact⟨t,u,v,k _ _ (.inl rfl) e⟩
 | frz ob u ih=>obtain⟨e,q⟩:=x;exact⟨k _ _ (.inl rfl) e,ih q⟩
 | tbl ps =>
  have e:h.get? a=some { cls:=.none,data:=.fields ps }:=x
  show h'.get? a=some { cls:=.none,data:=.fields ps }
  exact k a _ (.inl rfl) e
 | met f y =>
  have e:h.get? a=some (PySem.W.methodObj (.ref f) (.ref y)):=x
  show h'.get? a=some (PySem.W.methodObj (.ref f) (.ref y))
  exact k a _ (.inl rfl) e
 | ext φ=>obtain⟨p,⟨o,e⟩,st⟩:=x;exact⟨st _ _ p fun o q=>k _ _ (.inl rfl) q,⟨o,k _ _ (.inl rfl) e⟩,st⟩
theorem HOk.lt (x:HOk P w H h) (e:H a=some o):a<h.objs.size:=(x a o e).lt
theorem HOk.fresh (x:HOk P w H h) (e:h.objs.size<=a):H a=none:=by
 cases q:H a with
 | none=>rfl
 | some u=>exact absurd (Nat.lt_of_lt_of_le (x.lt q) e) (Nat.lt_irrefl _)
theorem HOk.kept (x:HOk P w H h) (k:∀b u,h.get? b=some u->h'.get? b=some u):HOk P w H h':=fun a o e =>
 (x a o e).stay (fun b u _ q=>k b u q) (fun _ q=>q) fun _ _ q=>q
theorem HOk.laid (x:HOk P w H h) (k:∀b u,h.get? b=some u->h'.get? b=some u) (hp:h.objs.size<=a) (new:ObjOk P w (upd H a o) h' a o):HOk P w (upd H a o) h':=fun b u e=>by
 have hn:=x.fresh hp
 by_cases hb:b=a
 ·subst hb;rw[yD] at e;cases e;exact new
 ·rw[zN hb] at e
  exact (x b u e).stay (fun c v _ q=>k c v q) (fun c q=>by rw[zN (xT q hn)];exact q) fun c xs q=>by rw[zN (xT q hn)];exact q
end
def Rd (H:Hp) (a:Addr) (u:HO):Prop:=H a=some u\/∃o,H a=some (.frz o u)
theorem Rd.of {H:Hp}{a:Addr}{u:HO}(h:H a=some u):Rd H a u:=.inl h
theorem Rd.ok {P:Program}{w:World}{H:Hp}{h:Heap}{a:Addr}{u:HO}(r:Rd H a u) (x:HOk P w H h):ObjOk P w H h a u:=by
 rcases r with r | ⟨o,r⟩
 ·exact x a u r
 ·obtain⟨_,q⟩:=x a _ r
  exact q
def Mut:Option HO->Prop
 | some (.lst _)=>True
 | some (.dK _)=>True
 | some (.dT _)=>True
 | some (.set _ _)=>True
 | some (.ins _ _ _)=>True
 | some (.ext _)=>True
 | _=>False
section
variable {P:Program}{w:World}{H:Hp}{h h':Heap}{x e:Addr}{o':HO}
theorem HOk.write (ok:HOk P w H h) (mu:Mut (H x)) (he:e=x\/H e=some (.own x)) (k:∀b u,b≠e->h.get? b=some u->h'.get? b=some u) (heo:∃u,h'.get? e=some u)
  (new:ObjOk P w (upd H x o') h' x o'):HOk P w (upd H x o') h':=fun b u q=>by
 have nown:∀c y,H c=some (.own y)->c≠x:=fun c y r z=>by subst z;rw[r] at mu;exact mu
 have ntup:∀c xs,H c=some (.tup xs)->c≠x:=fun c xs r z=>by subst z;rw[r] at mu;exact mu
 by_cases hb:b=x
 ·subst hb;rw[yD] at q;cases q;exact new
 ·rw[zN hb] at q
  by_cases hbe:b=e
  ·have q':H b=some (.own x):=by
    rcases he with z | z
    ·exact absurd (hbe.trans z) hb
    ·rw[hbe];exact z
   rw[q] at q';cases q'
   obtain⟨v,hv⟩:=heo
   exact⟨v,by rw[hbe];exact hv⟩
  ·refine (ok b u q).stay (fun c v hc r=>k c v ?_ r) (fun c r=>by rw[zN (nown c b r)];exact r) fun c xs r=>by rw[zN (ntup c xs r)];exact r
   rcases hc with rfl | hc
   ·exact hbe
   ·rintro rfl
    rcases he with z | z
    ·exact nown c b hc z
    ·rw[hc] at z;cases z;exact hb rfl
end
structure Un (fs ex:List Addr) (H H':Hp) (h h':Heap):Prop where
 keep:∀b o,h.get? b=some o->H b=none->b∉fs->b∉ex->h'.get? b=some o
 slot:∀b o,h.get? b=some o->H b=none->b∈fs->b∉ex->∃sl,h'.get? b=some { o with slots:=sl }
 free:∀b o,h.get? b=some o->H b=none->b∉ex->H' b=none
 there:∀b o,h.get? b=some o->b∉ex->∃o',h'.get? b=some o'
 tups:∀b xs,H b=some (.tup xs)->H' b=some (.tup xs)
 frzs:∀b o u,H b=some (.frz o u)->H' b=some (.frz o u)
 tbls:∀b ps,H b=some (.tbl ps)->∃more,H' b=some (.tbl (ps++more))
section
variable {fs fs' ex ex':List Addr}{H H1 H2:Hp}{h h1 h2 h':Heap}{a x e:Addr}{o:HO}
theorem Un.any (u:Un fs ex H H1 h h1){b:Addr}{ob:Obj}(q:h.get? b=some ob) (n:H b=none) (hx:b∉ex):∃sl,h1.get? b=some { ob with slots:=sl }:=by
 by_cases hb:b∈fs
 ·exact u.slot b ob q n hb hx
 ·exact⟨ob.slots,u.keep b ob q n hb hx⟩
theorem Un.trans (a:Un fs ex H H1 h h1) (b:Un fs ex H1 H2 h1 h2):Un fs ex H H2 h h2 where
 keep:=fun c ob q n hc hx=>b.keep c ob (a.keep c ob q n hc hx) (a.free c ob q n hx) hc hx
 slot:=fun c ob q n hc hx=>by
  obtain⟨sl,e1⟩:=a.slot c ob q n hc hx
  obtain⟨sl',e2⟩:=b.slot c _ e1 (a.free c ob q n hx) hc hx
  exact⟨sl',e2⟩
 free:=fun c ob q n hx=>by
  obtain⟨o',e1⟩:=a.there c ob q hx
  exact b.free c o' e1 (a.free c ob q n hx) hx
 there:=fun c ob q hx=>by
  obtain⟨o',e1⟩:=a.there c ob q hx
  exact b.there c o' e1 hx
 tups:=fun c xs q=>b.tups c xs (a.tups c xs q)
 frzs:=fun c ob xs q=>b.frzs c ob xs (a.frzs c ob xs q)
 tbls:=fun c ps q=>by
  obtain⟨m1,e1⟩:=a.tbls c ps q
  obtain⟨m2,e2⟩:=b.tbls c _ e1
  exact⟨m1++m2,by rw[e2,Array.append_assoc]⟩
theorem Un.kept (k:∀b u,h.get? b=some u->h'.get? b=some u):Un fs ex H H h h' :=
 ⟨fun b ob q _ _ _=>k b ob q,fun b ob q _ _ _=>⟨ob.slots,k b ob q⟩,fun _ _ _ n _=>n,fun b ob q _=>⟨ob,k b ob q⟩,fun _ _ q=>q,fun _ _ _ q=>q,fun _ ps q=>⟨#[],by rw[q];simp⟩⟩
theorem Un.refl:Un fs ex H H h h:=Un.kept fun _ _ q=>q
theorem Un.laid (k:∀b u,h.get? b=some u->h'.get? b=some u) (hp:h.objs.size<=a) (hn:H a=none):Un fs ex H (upd H a o) h h' where
 keep:=fun b u q _ _ _=>k b u q
 slot:=fun b u q _ _ _=>⟨u.slots,k b u q⟩
 free:=fun b u q n _=>by rw[zN (Nat.ne_of_lt (Nat.lt_of_lt_of_le (Heap.lt_size q) hp))];exact n
 there:=fun b u q _=>⟨u,k b u q⟩
 tups:=fun b xs q=>by rw[zN (xT q hn)];exact q
 frzs:=fun b u xs q=>by rw[zN (xT q hn)];exact q
 tbls:=fun b ps q=>⟨#[],by rw[zN (xT q hn),q];simp⟩
theorem Un.write (mu:Mut (H x)) (he:e=x\/H e=some (.own x)) (k:∀b u,b≠e->h.get? b=some u->h'.get? b=some u) (heo:∃u,h'.get? e=some u):Un fs ex H (upd H x o) h h':=by
 have hx:∀b,H b=none->b≠x:=fun b n z=>by subst z;rw[n] at mu;exact mu
 have hb:∀b,H b=none->b≠e:=fun b n z=>by
  subst z
  rcases he with r | r
  ·exact hx b n r
  ·rw[n] at r;cases r
 have hm:∀b u,H b=some u->¬Mut (some u)->b≠x:=fun b u q nm z=>by subst z;rw[q] at mu;exact nm mu
 refine⟨fun b u q n _ _=>k b u (hb b n) q,fun b u q n _ _=>⟨u.slots,k b u (hb b n) q⟩,fun b u q n _=>by rw[zN (hx b n)];exact n,fun b u q _ => ?_,
  fun b xs q=>by rw[zN (hm b _ q fun z=>z)];exact q,fun b u xs q=>by rw[zN (hm b _ q fun z=>z)];exact q,fun b ps q=>⟨#[],by rw[zN (hm b _ q fun z=>z),q];simp⟩⟩
 by_cases hbe:b=e
 ·subst hbe;exact heo
 ·exact⟨u,k b u hbe q⟩
theorem Un.mono (u:Un fs ex H H1 h h1) (hs:∀b∈fs,b∈fs') (hx:∀b∈ex,b∈ex'):Un fs' ex' H H1 h h1 :=
 ⟨fun b ob q n hb he=>u.keep b ob q n (fun z=>hb (hs b z)) fun z=>he (hx b z),fun _ _ q n _ he=>u.any q n fun z=>he (hx _ z),fun b ob q n he=>u.free b ob q n fun z=>he (hx b z),fun b ob q he=>u.there b ob q fun z=>he (hx b z),u.tups,u.frzs,u.tbls⟩
end
def trk (h:Heap) (H:Hp):List Addr:=(List.range h.objs.size).filter fun a=>(H a).isSome
def hidT (h:Heap) (H:Hp):Heap:=PySem.W.hideAll h (trk h H)
theorem yT7 (h:Heap) (H:Hp):(hidT h H).objs.size=h.objs.size:=PySem.W.hideAll_size _ _
theorem yN5 {h:Heap}{H:Hp}{b:Addr}{o:Obj}(e:h.get? b=some o) (n:H b=none):(hidT h H).get? b=some o :=
 PySem.W.hideAll_get _ e fun hm=>by
  have q:(H b).isSome=true:=(List.mem_filter.mp hm).2
  rw[n] at q;simp at q
theorem yB6 {h:Heap}{H:Hp}{b:Addr}{o:Obj}(e:(hidT h H).get? b=some o):h.get? b=some o/\H b=none:=by
 have e':h.get? b=some o:=PySem.W.of_hideAll (trk h H) e
 refine⟨e',?_⟩
 cases q:H b with
 | none=>rfl
 | some x =>
  have hm:b∈trk h H:=List.mem_filter.mpr ⟨List.mem_range.mpr (Heap.lt_size e'),by simp[q]⟩
  have z:(hidT h H).get? b=none:=PySem.W.hideAll_none (trk h H) hm
  rw[z] at e;cases e
def allNews (g h:Heap) (L:Addr):List (Addr×Obj):=(List.range h.objs.size).filterMap fun a=>if a=L\/(g.get? a).isSome=true then none else (h.get? a).map fun o=>(a,o)
def rest (g h:Heap) (L d:Addr):List (Addr×Obj):=(allNews g h L).filter fun p=>decide (p.1≠d)
structure Mod (K:KFr) (mg:Str->Option Value) (base:Heap):Prop where
 kin:K.In base
 glob:base.Ns mainGlobals mg
 blt:∃mb,base.Ns builtinsNs mb/\∀x:Str,x ≠ "__name__"->mb x=bootBuiltins x
 nolimit:base.NoLimit
structure Cx where
 prog:Program
 w:World
 K:KFr
 mg:Str->Option Value
 base:Heap
 A:Around
 N:List Str
 s₀:Shared
 H₀:Hp
 env:Env
 outer:List Env
 stack:List Env
 ex:List Addr
 fn:Str->Bool
 calm:Bool
 pn:List (Addr×Obj)
 xe:Value->Shared->Prop
def frs (l:List Env):List Addr:=l.filterMap (·.frame)
abbrev Cx.fs (X:Cx):List Addr:=frs X.outer
def Vis (sc:Scope) (x:Str):Prop:=sc.names.lookup x=some .local \/ sc.names.lookup x=some .cell\/sc.names.lookup x=some .free
def Loc (sc:Scope) (x:Str):Prop:=sc.names.lookup x=some .local \/ sc.names.lookup x=some .cell
def Look (env:Env) (h:Heap) (m:Str->Option Value) (x:Str) (u:Value):Prop :=
 (env.kindOf x=some .local/\m x=some u)\/((env.kindOf x=some .cell\/env.kindOf x=some .free)/\∃c,env.cells.lookup x=some c/\h.IsCell c (some u))
structure Cx.Ok (X:Cx):Prop where
 mod:Mod X.K X.mg X.base
 kind:X.env.scope.kind=.function
 glob:X.env.globals=mainGlobals
 blt:X.env.builtins=builtinsNs
 above:X.s₀.heap.objs.size<=X.env.locals
 inj:∀x y c,X.env.cells.lookup x=some c->X.env.cells.lookup y=some c->x=y
 has:∀x,(X.env.kindOf x=some .cell\/X.env.kindOf x=some .free)->∃c,X.env.cells.lookup x=some c
 cab:∀x c,X.fn x=true->X.env.cells.lookup x=some c->X.s₀.heap.objs.size<=c
 hd:X.calm=true->X.A.handled=none
 frames:X.A.frames=some X.stack
 stk:X.stack=X.outer\/(X.stack=X.env::X.outer/\X.env.frame=some X.env.locals)
 exf:∀b∈X.ex,b≠X.env.locals/\∀x c,X.env.cells.lookup x=some c->c≠b
 bs:∀b o,X.base.get? b=some o->X.s₀.heap.get? b=some o/\X.H₀ b=none
 bsz:X.base.objs.size<=X.s₀.heap.objs.size
 noex:∀b o,X.base.get? b=some o->b∉X.ex
 exfs:∀b∈X.ex,b∉X.fs
 funs:X.s₀.heap.FunFrames X.base X.outer
 frf:∀b∈X.fs,X.H₀ b=none
structure Inv (X:Cx) (pins:List (Addr×Obj)) (σ:List (Option V)) (H:Hp) (s:Shared):Prop where
 ok:X.Ok
 os:s.os=X.s₀.os
 bare:AllBare s.gens
 base:Un X.fs X.ex X.H₀ H X.s₀.heap s.heap
 loc:∃m,s.heap.Ns X.env.locals m/\∀(i:Nat) (x:Str) (v:V),X.N[i]?=some x->σ[i]?=some (some v)->Vis X.env.scope x->∃u,RelV v u/\Look X.env s.heap m x u
 cell:∀x c,X.env.cells.lookup x=some c->∃v,s.heap.IsCell c v
 free:H X.env.locals=none
 freeC:∀x c,X.env.cells.lookup x=some c->H c=none
 pin:∀p∈X.pn++pins,s.heap.get? p.1=some p.2/\H p.1=none/\p.1≠X.env.locals/\p.1∉X.fs/\∀v,p.2.data ≠ .cell v
 hok:HOk X.prog X.w H s.heap
 len:σ.length=X.N.length
section
variable {X:Cx}{pins:List (Addr×Obj)}{σ:List (Option V)}{H H':Hp}{s:Shared}{h':Heap}
theorem Cx.Ok.nofr (ok:X.Ok){b:Addr}{o:Obj}(e:X.base.get? b=some o):b∉X.fs:=fun hb=>by
 have:=(ok.funs.mem hb).1
 rw[e] at this;cases this
theorem Inv.bs (I:Inv X pins σ H s):∀b o,X.base.get? b=some o->s.heap.get? b=some o/\H b=none:=fun b o e =>
 ⟨I.base.keep b o (I.ok.bs b o e).1 (I.ok.bs b o e).2 (I.ok.nofr e) (I.ok.noex b o e),I.base.free b o (I.ok.bs b o e).1 (I.ok.bs b o e).2 (I.ok.noex b o e)⟩
theorem Inv.bk (I:Inv X pins σ H s):∀b o,X.base.get? b=some o->s.heap.get? b=some o:=fun b o e=>(I.bs b o e).1
theorem Inv.mod (I:Inv X pins σ H s):Mod X.K X.mg X.base:=I.ok.mod
theorem Inv.kIn (I:Inv X pins σ H s):X.K.In s.heap:=I.ok.mod.kin.keeps I.bk
theorem Inv.nolimit (I:Inv X pins σ H s):s.heap.NoLimit:=I.ok.mod.nolimit.keeps I.bk
theorem Inv.fr (I:Inv X pins σ H s):∃m,Fr X.base X.env.locals s.heap m :=
 let ⟨m,hn,_⟩:=I.loc
 ⟨m,hn,I.bk,Nat.le_trans I.ok.bsz I.ok.above⟩
theorem Inv.lt (I:Inv X pins σ H s):X.env.locals<s.heap.objs.size:=let ⟨_,hn,_⟩:=I.loc;hn.lt
theorem Inv.sz (I:Inv X pins σ H s):X.s₀.heap.objs.size<=s.heap.objs.size:=Nat.le_trans I.ok.above (Nat.le_of_lt I.lt)
theorem Inv.nofs (I:Inv X pins σ H s){a:Addr}(h:s.heap.objs.size<=a):a∉X.fs:=fun hb=>by
 obtain⟨_,o,ho,_⟩:=I.ok.funs.mem hb
 exact absurd (Nat.lt_of_lt_of_le (Heap.lt_size ho) (Nat.le_trans I.sz h)) (Nat.lt_irrefl _)
theorem Inv.cne (I:Inv X pins σ H s):∀x c,X.env.cells.lookup x=some c->c≠X.env.locals:=fun x c e z=>by
 obtain⟨v,o,ho,hd⟩:=I.cell x c e
 obtain⟨m,⟨o',es,ep,ho',hd',_⟩,_⟩:=I.loc
 rw[z,ho'] at ho;cases ho;rw[hd'] at hd;cases hd
theorem Inv.funs (I:Inv X pins σ H s):s.heap.FunFrames X.base X.outer:=by
 have all:∀(l:List Env),(∀b∈frs l,b∈X.fs)->X.s₀.heap.FunFrames X.base l->s.heap.FunFrames X.base l:=by
  intro l
  induction l with
  | nil=>intro _ _;trivial
  | cons env r ih =>
   intro hs hl
   obtain⟨hk,⟨L,o,hf,hn,ho,hd⟩,hr⟩:=hl
   have hL:L∈X.fs:=hs L (by unfold frs;rw[List.filterMap_cons,hf];exact List.mem_cons_self)
   obtain⟨sl,e⟩:=I.base.slot L o ho (I.ok.frf L hL) hL fun z=>I.ok.exfs L z hL
   exact⟨hk,⟨L,_,hf,hn,e,hd⟩,ih (fun b hb=>hs b (by unfold frs;rw[List.filterMap_cons,hf];exact List.mem_cons_of_mem _ hb)) hr⟩
 exact all X.outer (fun _ hb=>hb) I.ok.funs
theorem Inv.stack (I:Inv X pins σ H s):s.heap.FunFrames X.base X.stack:=by
 rcases I.ok.stk with e | ⟨e,hf⟩
 ·rw[e];exact I.funs
 ·rw[e]
  obtain⟨m,hn,_⟩:=I.loc
  refine .cons (by rw[I.ok.kind];decide) hf hn ?_ I.funs
  exact Heap.get?_none_of_le (Nat.le_trans I.ok.bsz I.ok.above)
theorem Inv.stkSub (I:Inv X pins σ H s):∀b∈frs X.stack,b∈X.env.locals::X.fs:=fun b hb=>by
 rcases I.ok.stk with e | ⟨e,hf⟩
 ·rw[e] at hb;exact List.mem_cons_of_mem _ hb
 ·rw[e] at hb
  unfold frs at hb
  rw[List.filterMap_cons,hf] at hb
  exact hb
theorem Inv.stkFree (I:Inv X pins σ H s):∀b∈frs X.stack,H b=none:=fun b hb=>by
 rcases List.mem_cons.mp (I.stkSub b hb) with e | hb
 ·rw[e];exact I.free
 ·obtain⟨_,o,ho,_⟩:=I.ok.funs.mem hb
  exact I.base.free b o ho (I.ok.frf b hb) fun z=>I.ok.exfs b z hb
theorem Inv.step {g':Array GenState}{t':Nat}{d':Drawn}{ch:List Addr}(I:Inv X pins σ H s)
  (hch:∀b∈ch,(b∈X.ex\/X.s₀.heap.objs.size<=b)/\b≠X.env.locals/\(∀x c,X.env.cells.lookup x=some c->c≠b)/\∀p∈X.pn++pins,p.1≠b)
  (keep:∀b o,b≠X.env.locals->b∉X.fs->b∉ch->s.heap.get? b=some o->H b=none->h'.get? b=some o)
  (slot:∀b o,b≠X.env.locals->b∈X.fs->b∉ch->s.heap.get? b=some o->H b=none->∃sl,h'.get? b=some { o with slots:=sl }) (free:∀b o,b∉ch->s.heap.get? b=some o->H b=none->H' b=none)
  (there:∀b o,b∉ch->s.heap.get? b=some o->∃o',h'.get? b=some o')
  (tups:∀b xs,H b=some (.tup xs)->H' b=some (.tup xs)) (frzs:∀b o u,H b=some (.frz o u)->H' b=some (.frz o u)) (tbls:∀b ps,H b=some (.tbl ps)->∃more,H' b=some (.tbl (ps++more)))
  (ns:∀m,s.heap.Ns X.env.locals m->h'.Ns X.env.locals m) (hok:HOk X.prog X.w H' h') (hg:AllBare g') :
  Inv X pins σ H' { s with heap:=h',gens:=g',drawn:=d',toks:=t' }:=by
 have neL:∀b o,X.s₀.heap.get? b=some o->b≠X.env.locals:=fun b o e=>Nat.ne_of_lt (Nat.lt_of_lt_of_le (Heap.lt_size e) I.ok.above)
 have neC:∀b o,X.s₀.heap.get? b=some o->b∉X.ex->b∉ch:=fun b o e hx hb=>by
  rcases (hch b hb).1 with z | z
  ·exact hx z
  ·exact absurd (Nat.lt_of_lt_of_le (Heap.lt_size e) z) (Nat.lt_irrefl _)
 have cellK:∀x c,X.env.cells.lookup x=some c->∀v,s.heap.IsCell c v->h'.IsCell c v:=fun x c e v ⟨o,ho,hd⟩=>by
  have nch:c∉ch:=fun z=>(hch c z).2.2.1 x c e rfl
  by_cases hc:c∈X.fs
  ·obtain⟨sl,q⟩:=slot c o (I.cne x c e) hc nch ho (I.freeC x c e)
   exact⟨_,q,hd⟩
  ·exact⟨o,keep c o (I.cne x c e) hc nch ho (I.freeC x c e),hd⟩
 refine⟨I.ok,I.os,hg,⟨fun b o e n hb hx => ?_,fun b o e n hb hx => ?_,fun b o e n hx => ?_,fun b o e hx => ?_,fun b xs e=>tups b xs (I.base.tups b xs e),fun b o xs e=>frzs b o xs (I.base.frzs b o xs e),fun b ps e => ?_⟩,?_,fun x c e => ?_,?_,fun x c e => ?_,fun p hp => ?_,hok,I.len⟩
 ·exact keep b o (neL b o e) hb (neC b o e hx) (I.base.keep b o e n hb hx) (I.base.free b o e n hx)
 ·obtain⟨sl,e1⟩:=I.base.slot b o e n hb hx
  obtain⟨sl',e2⟩:=slot b _ (neL b o e) hb (neC b o e hx) e1 (I.base.free b o e n hx)
  exact⟨sl',e2⟩
 ·obtain⟨o',e1⟩:=I.base.there b o e hx
  exact free b o' (neC b o e hx) e1 (I.base.free b o e n hx)
 ·obtain⟨o',e1⟩:=I.base.there b o e hx
  exact there b o' (neC b o e hx) e1
 ·obtain⟨m1,e1⟩:=I.base.tbls b ps e
  obtain⟨m2,e2⟩:=tbls b _ e1
  exact⟨m1++m2,by rw[e2,Array.append_assoc]⟩
 ·obtain⟨m,hn,hl⟩:=I.loc
  refine⟨m,ns m hn,fun i x v e1 e2 e3 => ?_⟩
  obtain⟨u,r,l⟩:=hl i x v e1 e2 e3
  refine⟨u,r,?_⟩
  rcases l with l | ⟨k,c,e,z⟩
  ·exact .inl l
  ·exact .inr ⟨k,c,e,cellK x c e _ z⟩
 ·obtain⟨v,z⟩:=I.cell x c e
  exact⟨v,cellK x c e v z⟩
 ·obtain⟨m,⟨o,_,_,ho,_⟩,_⟩:=I.loc
  exact free _ o (fun z=>(hch _ z).2.1 rfl) ho I.free
 ·obtain⟨v,o,ho,hd⟩:=I.cell x c e
  exact free c o (fun z=>(hch c z).2.2.1 x c e rfl) ho (I.freeC x c e)
 ·obtain⟨e,n,ne,nf,d⟩:=I.pin p hp
  have nch:p.1∉ch:=fun z=>(hch p.1 z).2.2.2 p hp rfl
  exact⟨keep p.1 p.2 ne nf nch e n,free p.1 p.2 nch e n,ne,nf,d⟩
theorem Inv.un {t':Nat}(I:Inv X pins σ H s) (u:Un X.fs [] H H' s.heap h') (hok:HOk X.prog X.w H' h'):Inv X pins σ H' { s with heap:=h',toks:=t' }:=by
 obtain⟨m,⟨o,es,ep,ho,r⟩,_⟩:=id I.loc
 obtain⟨sl,hL⟩:=u.any ho I.free (by simp)
 exact I.step (g':=s.gens) (d':=s.drawn) (ch:=[]) (fun _ z=>nomatch z) (fun b o _ hb _ e n=>u.keep b o e n hb (by simp)) (fun b o _ hb _ e n=>u.slot b o e n hb (by simp)) (fun b o _ e n=>u.free b o e n (by simp)) (fun b o _ e=>u.there b o e (by simp)) u.tups u.frzs u.tbls (fun m' hm=>by
  obtain⟨o',es',ep',ho',r'⟩:=hm
  rw[ho] at ho';cases ho'
  exact⟨_,es',ep',hL,r'⟩) hok I.bare
theorem Inv.call {g':Array GenState}{t':Nat}{d':Drawn}{ch:List Addr}(I:Inv X pins σ H s) (u:Un (frs X.stack) ch H H' s.heap h') (hok:HOk X.prog X.w H' h') (hg:AllBare g')
  (hch:∀b∈ch,(b∈X.ex\/X.s₀.heap.objs.size<=b)/\b≠X.env.locals/\(∀x c,X.env.cells.lookup x=some c->c≠b)/\∀p∈X.pn++pins,p.1≠b) :
  Inv X pins σ H' { s with heap:=h',gens:=g',drawn:=d',toks:=t' }:=by
 obtain⟨m,⟨o,es,ep,ho,r⟩,_⟩:=id I.loc
 obtain⟨sl,hL⟩:=u.any ho I.free fun z=>(hch _ z).2.1 rfl
 exact I.step (ch:=ch) hch (fun b o hL hb hc e n=>u.keep b o e n (fun z=>(List.mem_cons.mp (I.stkSub b z)).elim hL hb) hc) (fun b o _ _ hc e n=>u.any e n hc) (fun b o hc e n=>u.free b o e n hc) (fun b o hc e=>u.there b o e hc) u.tups u.frzs u.tbls (fun m' hm=>by
  obtain⟨o',es',ep',ho',r'⟩:=hm
  rw[ho] at ho';cases ho'
  exact⟨_,es',ep',hL,r'⟩) hok hg
theorem Inv.turned {t':Nat}{it:Addr}(I:Inv X pins σ H s) (k:∀b o,b≠it->s.heap.get? b=some o->h'.get? b=some o) (hn:H it=none) (hL:it≠X.env.locals)
  (h1:it∈X.ex\/X.s₀.heap.objs.size<=it) (h2:∀x c,X.env.cells.lookup x=some c->c≠it) (h3:∀p∈X.pn++pins,p.1≠it):Inv X pins σ H { s with heap:=h',toks:=t' }:=by
 have nit:∀b u,H b=some u->b≠it:=fun b u e z=>by rw[z,hn] at e;cases e
 refine I.step (g':=s.gens) (d':=s.drawn) (ch:=[it]) (fun b hb => ?_) (fun b o _ _ hc e _=>k b o (fun z=>hc (by simp[z])) e) (fun b o _ _ hc e _=>⟨o.slots,k b o (fun z=>hc (by simp[z])) e⟩) (fun _ _ _ _ n=>n)
  (fun b o hc e=>⟨o,k b o (fun z=>hc (by simp[z])) e⟩) (fun _ _ e=>e) (fun _ _ _ e=>e) (fun b ps e=>⟨#[],by rw[e];simp⟩) (fun m hm => ?_) (fun b u e => ?_) I.bare
 ·have e:b=it:=by simpa using hb
  subst e
  exact⟨h1,hL,h2,h3⟩
 ·obtain⟨o,es,ep,ho,r⟩:=hm
  exact⟨o,es,ep,k _ o (Ne.symm hL) ho,r⟩
 ·refine (I.hok b u e).stay (fun c v hc q=>k c v ?_ q) (fun _ q=>q) fun _ _ q=>q
  rcases hc with z | z
  ·rw[z];exact nit b u e
  ·exact nit c _ z
theorem Inv.tok (I:Inv X pins σ H s) (t:Nat):Inv X pins σ H { s with toks:=t }:=I.un (h':=s.heap) (t':=t) Un.refl I.hok
theorem Inv.kept {t':Nat}(I:Inv X pins σ H s) (k:∀b u,s.heap.get? b=some u->h'.get? b=some u):Inv X pins σ H { s with heap:=h',toks:=t' }:=I.un (Un.kept k) (I.hok.kept k)
theorem Inv.laid {a:Addr}{o:HO}{t':Nat}(I:Inv X pins σ H s) (k:∀b u,s.heap.get? b=some u->h'.get? b=some u) (hp:s.heap.objs.size<=a) (new:ObjOk X.prog X.w (upd H a o) h' a o) :
  Inv X pins σ (upd H a o) { s with heap:=h',toks:=t' }:=I.un (Un.laid k hp (I.hok.fresh hp)) (I.hok.laid k hp new)
theorem Inv.write {x e:Addr}{o:HO}{t':Nat}(I:Inv X pins σ H s) (mu:Mut (H x)) (he:e=x\/H e=some (.own x)) (k:∀b u,b≠e->s.heap.get? b=some u->h'.get? b=some u) (heo:∃u,h'.get? e=some u)
  (new:ObjOk X.prog X.w (upd H x o) h' x o):Inv X pins σ (upd H x o) { s with heap:=h',toks:=t' }:=I.un (Un.write mu he k heo) (I.hok.write mu he k heo new)
theorem Inv.qP {pins':List (Addr×Obj)}(I:Inv X pins σ H s) (h:∀p∈pins',s.heap.get? p.1=some p.2/\H p.1=none/\p.1≠X.env.locals/\p.1∉X.fs/\∀v,p.2.data ≠ .cell v):Inv X pins' σ H s :=
 ⟨I.ok,I.os,I.bare,I.base,I.loc,I.cell,I.free,I.freeC,fun p hp=>(List.mem_append.mp hp).elim (fun z=>I.pin p (List.mem_append_left _ z)) (h p),I.hok,I.len⟩
theorem zO9 {N:List Str}(hN:N.Nodup){i j:Nat}{x:Str}(a:N[i]?=some x) (b:N[j]?=some x):i=j:=by
 obtain⟨h1,e1⟩:=List.getElem?_eq_some_iff.mp a
 obtain⟨h2,e2⟩:=List.getElem?_eq_some_iff.mp b
 exact (List.getElem_inj hN).mp (e1.trans e2.symm)
theorem yV2 {M:Model}{A:Around}{E:Value->Shared->Prop}{i:Nat}{x:Str}{v:V}{u:Value}{Q:Unit->Shared->Prop}(I:Inv X pins σ H s) (hN:X.N.Nodup) (hi:X.N[i]?=some x) (hx:Loc X.env.scope x) (r:RelV v u)
  (h:∀s',Inv X pins (σ.set i (some v)) H s'->(∃a,Heap.SameBut a s.heap s'.heap/\(a=X.env.locals\/X.env.cells.lookup x=some a))->Q () s') (hf:autoParam (X.fn x=true\/X.env.scope.names.lookup x=some .local) cT._auto_1):wpAny M A (storeName X.env x u) Q E s:=by
 obtain⟨m,hn,hl⟩:=id I.loc
 have hcls:(X.env.scope.kind == .class || (X.env.scope.kind == .module&&X.env.locals != X.env.globals))=false:=by rw[I.ok.kind];rfl
 have hiσ:i<σ.length:=by rw[I.len];exact (List.getElem?_eq_some_iff.mp hi).1
 have cne:=I.cne
 have tracked:∀{a:Addr}{h':Heap},(∃o,s.heap.get? a=some o/\H a=none)->Heap.SameBut a s.heap h'->HOk X.prog X.w H h':=fun {a h'} ha hs b ob e=>by
  obtain⟨_,_,hfree⟩:=ha
  refine (I.hok b ob e).stay (fun c w' hc q=>(hs.2 c ?_).trans q) (fun _ q=>q) fun _ _ q=>q
  rintro rfl
  rcases hc with rfl | hc
  ·rw[hfree] at e;cases e
  ·rw[hfree] at hc;cases hc
 rcases hx with hk | hk
 ·refine wpAny_storeName_local hk hn (fun h' hn' hs => ?_) hcls
  obtain⟨oL,_,_,hoL,_⟩:=id hn
  refine h _ ⟨I.ok,I.os,I.bare,⟨fun b o e n hb hx => ?_,fun b o e n hb hx => ?_,I.base.free,fun b o e hx => ?_,I.base.tups,I.base.frzs,I.base.tbls⟩,⟨_,hn',fun j y v' e1 e2 e3 => ?_⟩,fun y c e => ?_,I.free,I.freeC,fun p hp => ?_,tracked ⟨oL,hoL,I.free⟩ hs,by simpa using I.len⟩ ⟨_,hs,.inl rfl⟩
  ·exact (hs.2 b (Nat.ne_of_lt (Nat.lt_of_lt_of_le (Heap.lt_size e) I.ok.above))).trans (I.base.keep b o e n hb hx)
  ·obtain⟨sl,e1⟩:=I.base.slot b o e n hb hx
   exact⟨sl,(hs.2 b (Nat.ne_of_lt (Nat.lt_of_lt_of_le (Heap.lt_size e) I.ok.above))).trans e1⟩
  ·obtain⟨o',e1⟩:=I.base.there b o e hx
   exact⟨o',(hs.2 b (Nat.ne_of_lt (Nat.lt_of_lt_of_le (Heap.lt_size e) I.ok.above))).trans e1⟩
  ·by_cases hj:j=i
   ·subst hj
    rw[hi] at e1;cases e1
    rw[List.getElem?_set_self hiσ] at e2
    cases e2
    exact⟨u,r,.inl ⟨hk,by simp⟩⟩
   ·rw[List.getElem?_set_ne (Ne.symm hj)] at e2
    obtain⟨u',r',q⟩:=hl j y v' e1 e2 e3
    refine⟨u',r',?_⟩
    rcases q with ⟨k,e⟩ | ⟨k,c,e,z⟩
    ·refine .inl ⟨k,?_⟩
     have:y≠x:=fun e=>hj (zO9 hN e1 (e▸hi))
     simp[this,e]
    ·exact .inr ⟨k,c,e,z.sameBut hs (cne y c e)⟩
  ·obtain⟨w',z⟩:=I.cell y c e
   exact⟨w',z.sameBut hs (cne y c e)⟩
  ·obtain⟨e,n,ne,nf,d⟩:=I.pin p hp
   exact⟨(hs.2 p.1 ne).trans e,n,ne,nf,d⟩
 ·have hfn:X.fn x=true:=by
   rcases hf with z | z
   ·exact z
   ·rw[z] at hk;cases hk
  obtain⟨c,hc⟩:=I.ok.has x (.inl hk)
  obtain⟨w',z⟩:=I.cell x c hc
  refine wpAny_storeName_cell I.ok.kind hk hc z (fun h' hc' hs => ?_)
  obtain⟨oc,hoc,hocd⟩:=id z
  refine h { s with heap:=h' } ⟨I.ok,I.os,I.bare,⟨fun b o e n hb hx => ?_,fun b o e n hb hx => ?_,I.base.free,fun b o e hx => ?_,I.base.tups,I.base.frzs,I.base.tbls⟩,⟨m,hn.sameBut hs (Ne.symm (cne x c hc)),fun j y v' e1 e2 e3 => ?_⟩,fun y c' e => ?_,I.free,I.freeC,fun p hp => ?_,tracked ⟨oc,hoc,I.freeC x c hc⟩ hs,by simpa using I.len⟩ ⟨c,hs,.inr hc⟩
  ·exact (hs.2 b (Nat.ne_of_lt (Nat.lt_of_lt_of_le (Heap.lt_size e) (I.ok.cab x c hfn hc)))).trans (I.base.keep b o e n hb hx)
  ·obtain⟨sl,e1⟩:=I.base.slot b o e n hb hx
   exact⟨sl,(hs.2 b (Nat.ne_of_lt (Nat.lt_of_lt_of_le (Heap.lt_size e) (I.ok.cab x c hfn hc)))).trans e1⟩
  ·obtain⟨o',e1⟩:=I.base.there b o e hx
   exact⟨o',(hs.2 b (Nat.ne_of_lt (Nat.lt_of_lt_of_le (Heap.lt_size e) (I.ok.cab x c hfn hc)))).trans e1⟩
  ·by_cases hj:j=i
   ·subst hj
    rw[hi] at e1;cases e1
    rw[List.getElem?_set_self hiσ] at e2
    cases e2
    exact⟨u,r,.inr ⟨.inl hk,c,hc,hc'⟩⟩
   ·rw[List.getElem?_set_ne (Ne.symm hj)] at e2
    obtain⟨u',r',q⟩:=hl j y v' e1 e2 e3
    refine⟨u',r',?_⟩
    rcases q with q | ⟨k,c',e,z'⟩
    ·exact .inl q
    ·refine .inr ⟨k,c',e,z'.sameBut hs ?_⟩
     rintro rfl
     exact hj (zO9 hN e1 (I.ok.inj _ _ _ e hc▸hi))
  ·by_cases hcc:c'=c
   ·subst hcc;exact⟨_,hc'⟩
   ·obtain⟨w2,z2⟩:=I.cell y c' e
    exact⟨w2,z2.sameBut hs hcc⟩
  ·obtain⟨e,n,ne,nf,d⟩:=I.pin p hp
   refine⟨(hs.2 p.1 ?_).trans e,n,ne,nf,d⟩
   intro q
   rw[q,hoc] at e
   have q':oc=p.2:=Option.some.inj e
   exact d w' (by rw[<-q'];exact hocd)
theorem bQ {M:Model}{A:Around}{E:Value->Shared->Prop}{i:Nat}{x:Str}{v:V}{u:Value}{Q:Unit->Shared->Prop}(I:Inv X pins σ H s) (hN:X.N.Nodup) (hi:X.N[i]?=some x) (hx:Loc X.env.scope x) (r:RelV v u)
  (h:∀s',Inv X pins (σ.set i (some v)) H s'->Q () s') (hf:autoParam (X.fn x=true\/X.env.scope.names.lookup x=some .local) cT._auto_1):wpAny M A (storeName X.env x u) Q E s :=
 yV2 I hN hi hx r (fun s' I' _=>h s' I') hf
theorem Inv.call' {s':Shared}{ch:List Addr}(I:Inv X pins σ H s) (ho:s'.os=s.os) (u:Un (frs X.stack) ch H H' s.heap s'.heap) (hok:HOk X.prog X.w H' s'.heap) (hg:AllBare s'.gens)
  (hch:∀b∈ch,(b∈X.ex\/X.s₀.heap.objs.size<=b)/\b≠X.env.locals/\(∀x c,X.env.cells.lookup x=some c->c≠b)/\∀p∈X.pn++pins,p.1≠b):Inv X pins σ H' s':=by
 obtain⟨h',g',d',t',o'⟩:=s'
 have e:o'=s.os:=ho
 subst e
 exact I.call (g':=g') (t':=t') (d':=d') u hok hg hch
end
abbrev XK:=Value->Option Addr->Hp->Prop
abbrev St:=List (Option V)
abbrev VK:=V->Hp->Prop
abbrev TE:=St->Hp->VK->Prop
abbrev TT:=St->Hp->(Bool->Hp->Prop)->Prop
abbrev TA:=St->Hp->(List V->Hp->Prop)->Prop
structure Ends where
 nx:St->Hp->Prop
 rt:VK
 bk:St->Hp->Prop:=fun _ _=>False
 ct:St->Hp->Prop:=fun _ _=>False
abbrev TS:=Ends->St->Hp->Prop
def EP (X:Cx) (pins:List (Addr×Obj)) (σ:St) (Q:VK) (u:Value) (s':Shared):Prop:=∃v H',Inv X pins σ H' s'/\RelV v u/\Q v H'
def TP (X:Cx) (pins:List (Addr×Obj)) (σ:St) (Q:Bool->Hp->Prop) (b:Bool) (s':Shared):Prop:=∃H',Inv X pins σ H' s'/\Q b H'
def AP (X:Cx) (pins:List (Addr×Obj)) (σ:St) (Q:List V->Hp->Prop) (us:List Value) (s':Shared):Prop:=∃vs H',Inv X pins σ H' s'/\Vals vs us/\Q vs H'
def SP (X:Cx) (pins:List (Addr×Obj)) (D:Ends) (f:Flow) (s':Shared):Prop :=
 match f with
 | .next=>∃σ' H',Inv X pins σ' H' s'/\D.nx σ' H'
 | .brk=>∃σ' H',Inv X pins σ' H' s'/\D.bk σ' H'
 | .cont=>∃σ' H',Inv X pins σ' H' s'/\D.ct σ' H'
 | .ret u=>∃v σ' H',Inv X pins σ' H' s'/\RelV v u/\D.rt v H'
def PE (X:Cx) (e:Expr) (t:TE):Prop :=
 ∀(pins:List (Addr×Obj)) (s:Shared) (σ:St) (H:Hp) (Q:VK),Inv X pins σ H s->t σ H Q->wpAny (model X.prog X.w) X.A (eval e X.env) (EP X pins σ Q) X.xe s
def PT (X:Cx) (e:Expr) (t:TT):Prop :=
 ∀(pins:List (Addr×Obj)) (s:Shared) (σ:St) (H:Hp) (Q:Bool->Hp->Prop),Inv X pins σ H s->t σ H Q->wpAny (model X.prog X.w) X.A (isTrue e X.env (eval e X.env)) (TP X pins σ Q) X.xe s
def PW (X:Cx) (e:Expr) (t:TT):Prop :=
 ∀(whole:Sem Value) (pins:List (Addr×Obj)) (s:Shared) (σ:St) (H:Hp) (Q:Bool->Hp->Prop),Inv X pins σ H s->t σ H Q->wpAny (model X.prog X.w) X.A (isTrue e X.env whole) (TP X pins σ Q) X.xe s
theorem PW.pt {X:Cx}{e:Expr}{t:TT}(h:PW X e t):PT X e t:=h _
def PA (X:Cx) (es:List Expr) (t:TA):Prop :=
 ∀(pos:Pos) (pins:List (Addr×Obj)) (s:Shared) (σ:St) (H:Hp) (Q:List V->Hp->Prop),Inv X pins σ H s->t σ H Q->wpAny (model X.prog X.w) X.A (spliced (backTo pos (starEach es X.env))) (AP X pins σ Q) X.xe s
def PS (X:Cx) (st:Stmt) (t:TS):Prop :=
 ∀(pins:List (Addr×Obj)) (s:Shared) (σ:St) (H:Hp) (D:Ends),Inv X pins σ H s->t D σ H->wpAny (model X.prog X.w) X.A (exec st X.env) (SP X pins D) X.xe s
def PSs (X:Cx) (st:List Stmt) (t:TS):Prop :=
 ∀(pins:List (Addr×Obj)) (s:Shared) (σ:St) (H:Hp) (D:Ends),Inv X pins σ H s->t D σ H->wpAny (model X.prog X.w) X.A (execs st X.env) (SP X pins D) X.xe s
theorem thn {α:Type}{t:Sem α}{Q Q':α->Shared->Prop}{M:Model}{A:Around}{E:Value->Shared->Prop}{s:Shared}(h:wpAny M A t Q E s) (hQ:∀a s,Q a s->Q' a s):wpAny M A t Q' E s:=wpAny_mono h hQ fun _ _ x=>x
section
variable {X:Cx}
theorem bin {a b:Expr}{ta tb:TE}(ha:PE X a ta) (hb:PE X b tb){pins:List (Addr×Obj)}{s:Shared}{σ:St}{H:Hp}{R:V->V->Hp->Prop}(I:Inv X pins σ H s) (h:ta σ H fun x H1=>tb σ H1 fun y H2=>R x y H2)
  {α:Type}{Q:α->Shared->Prop}{f:Value->Value->Sem α}
  (hf:∀v u s2 x y H2,Inv X pins σ H2 s2->RelV x v->RelV y u->R x y H2->wpAny (model X.prog X.w) X.A (f v u) Q X.xe s2) :
  wpAny (model X.prog X.w) X.A (eval a X.env) (fun v s₁=>wpAny (model X.prog X.w) X.A (eval b X.env) (fun u s₂=>wpAny (model X.prog X.w) X.A (f v u) Q X.xe s₂) X.xe s₁) X.xe s:=by
 refine thn (ha pins s σ H _ I h) fun v s1 ⟨x,H1,I1,r1,q1⟩ => ?_
 refine thn (hb pins s1 σ H1 _ I1 q1) fun u s2 ⟨y,H2,I2,r2,q2⟩ => ?_
 exact hf v u s2 x y H2 I2 r1 r2 q2
def tVar (i:Nat):TE:=fun σ H Q=>∃v,σ[i]?=some (some v)/\Q v H
def tC (v:V):TE:=fun _ H Q=>Q v H
theorem kW {i:Nat}{x:Str}{pos:Pos}(hN:X.N[i]?=some x) (hv:Vis X.env.scope x) (hd:autoParam ((x == ("__debug__":Str))=false) zG._auto_1) (hcd:autoParam ((x == ("__classdict__":Str))=false) zG._auto_1):PE X (.Name x pos) (tVar i):=by
 intro pins s σ H Q I h
 obtain⟨v,e,h⟩:=h
 obtain⟨m,hn,hl⟩:=I.loc
 obtain⟨u,r,l⟩:=hl i x v hN e hv
 have fin:EP X pins σ Q u s:=⟨v,H,I,r,h⟩
 rcases l with ⟨hk,hm⟩ | ⟨hk,c,hc,hcell⟩
 ·exact wpAny_Name (wpAny_loadName_local I.ok.kind hk hn hm fin) hd
 ·rcases hk with hk | hk
  ·exact wpAny_Name (wpAny_loadName_cell I.ok.kind hk hc hcell fin) hd
  ·exact wpAny_Name (wpAny_loadName_free I.ok.kind hk hc hcell fin hcd) hd
theorem yV7 {i j pos}:PE X (.Constant (.int i) j pos) (tC (.int i)):=fun _ _ _ H _ I h=>wpAny_Constant_int ⟨.int i,H,I.tok _,⟨_,rfl⟩,h⟩
theorem yJ7 {b j pos}:PE X (.Constant (.bool b) j pos) (tC (.bl b)):=fun _ _ _ H _ I h=>Constant_bool ⟨.bl b,H,I,rfl,h⟩
theorem xV8 {x j pos}:PE X (.Constant (.str x) j pos) (tC (.str x)):=fun _ _ _ H _ I h=>Calls.Constant_str ⟨.str x,H,I.tok _,⟨_,rfl⟩,h⟩
def Gl (X:Cx) (x:Str):Prop:=X.env.kindOf x=some .globalImplicit
theorem zX3 {E:Value->Shared->Prop}{pins:List (Addr×Obj)}{s:Shared}{σ:St}{H:Hp}{x:Str}{u:Value}{pos:Pos}{Q:Value->Shared->Prop}(I:Inv X pins σ H s) (hg:Gl X x) (hm:X.mg x=some u) (h:Q u s)
  (hd:autoParam ((x == ("__debug__":Str))=false) zG._auto_1):wpAny (model X.prog X.w) X.A (eval (.Name x pos) X.env) Q E s :=
 Calls.Name_function_global I.ok.kind hg (Calls.loadGlobal_global (by rw[I.ok.glob];exact I.mod.glob.keeps I.bk) hm h) hd
theorem dJ {E:Value->Shared->Prop}{pins:List (Addr×Obj)}{s:Shared}{σ:St}{H:Hp}{x:Str}{u:Value}{pos:Pos}{Q:Value->Shared->Prop}(I:Inv X pins σ H s) (hg:Gl X x) (hm:X.mg x=none) (hv:bootBuiltins x=some u) (h:Q u s)
  (hn:autoParam (x ≠ "__name__") zG._auto_1) (hd:autoParam ((x == ("__debug__":Str))=false) zG._auto_1):wpAny (model X.prog X.w) X.A (eval (.Name x pos) X.env) Q E s:=by
 obtain⟨mb,h1,h2⟩:=I.mod.blt
 exact Calls.Name_function_global I.ok.kind hg (Calls.loadGlobal_builtin (by rw[I.ok.glob];exact I.mod.glob.keeps I.bk) hm (by rw[I.ok.blt];exact h1.keeps I.bk) ((h2 x hn).trans hv) h) hd
theorem yH3 {x:Str}{v:V}{u:Value}{pos:Pos}(hg:Gl X x) (hm:X.mg x=some u) (r:RelV v u) (hd:autoParam ((x == ("__debug__":Str))=false) zG._auto_1):PE X (.Name x pos) (tC v) :=
 fun _ _ _ H _ I h=>zX3 I hg hm ⟨v,H,I,r,h⟩ hd
theorem yE6 {x:Str}{v:V}{u:Value}{pos:Pos}(hg:Gl X x) (hm:X.mg x=none) (hv:bootBuiltins x=some u) (r:RelV v u) (hn:autoParam (x ≠ "__name__") zG._auto_1) (hd:autoParam ((x == ("__debug__":Str))=false) zG._auto_1):PE X (.Name x pos) (tC v) :=
 fun _ _ _ H _ I h=>dJ I hg hm hv ⟨v,H,I,r,h⟩ hn hd
variable {a b:Expr}{ta tb:TE}{pos:Pos}
def PC (X:Cx) (op:CmpOp) (a b:Expr) (t:TE):Prop :=
 ∀(pins:List (Addr×Obj)) (s:Shared) (σ:St) (H:Hp) (Q:VK),Inv X pins σ H s->t σ H Q ->
  wpAny (model X.prog X.w) X.A (eval a X.env) (fun v s₁=>wpAny (model X.prog X.w) X.A (eval b X.env) (fun u s₂=>wpAny (model X.prog X.w) X.A (compareOp op v u) (EP X pins σ Q) X.xe s₂) X.xe s₁) X.xe s
theorem nobehind (b:Expr){op:CmpOp}(h:op ≠ .In) (h2:op ≠ .NotIn):behindInMarks op b=false:=by
 have e1:(op == CmpOp.In)=false:=by cases op <;> first | rfl | exact absurd rfl h
 have e2:(op == CmpOp.NotIn)=false:=by cases op <;> first | rfl | exact absurd rfl h2
 cases b <;> simp[behindInMarks,e1,e2]
def tB (t:TE):TT:=fun σ H Q=>t σ H fun x H1=>∃c,x=.bl c/\Q c H1
theorem xU7 {op:CmpOp}{t:TE}(h:PC X op a b t) (h1:autoParam (behindInMarks op b=false) xS7._auto_1):PT X (.Compare a [op] [b] pos) (tB t):=by
 intro pins s σ H Q I hw
 refine wpAny_isTrue_Compare1 (thn (h pins s σ H _ I hw) fun v s1 h1=>thn h1 fun u s2 h2=>thn h2 fun c s3 ⟨x,H1,I1,r1,q1⟩ => ?_) h1
 obtain⟨d,rfl,q⟩:=q1
 cases r1
 exact wpAny_truthy_bool ⟨H1,I1,q⟩
theorem xW5 {e:Expr}{t:TE}(h:PE X e t) (he:autoParam (∀whole,isTrue e X.env whole=(do let v <-whole;standAt e.pos;holding [v] (truthy v))) qR._auto_1):PT X e (tB t):=by
 intro pins s σ H Q I hw
 refine isTrue_plain (thn (h pins s σ H _ I hw) fun v s1 ⟨x,H1,I1,r1,q1⟩ => ?_) (he _)
 obtain⟨d,rfl,q⟩:=q1
 cases r1
 exact wpAny_truthy_bool ⟨H1,I1,q⟩
variable {tA tB':TT}{rest:List Expr}
def tAnd (t u:TT):TT:=fun σ H Q=>t σ H fun c H1=>if c=true then u σ H1 Q else Q false H1
def tOr (t u:TT):TT:=fun σ H Q=>t σ H fun c H1=>if c=true then Q true H1 else u σ H1 Q
def tNot (t:TT):TT:=fun σ H Q=>t σ H fun c H1=>Q (!c) H1
theorem pw_and1 (ha:PT X a tA):PW X (.BoolOp .And [a] pos) tA:=by
 intro wh pins s σ H Q I h
 refine isTrue_and (thn (ha pins s σ H Q I h) fun c s1 e => ?_)
 cases c with
 | true=>exact isTrue_and_nil e
 | false=>exact e
theorem pw_or1 (ha:PT X a tA):PW X (.BoolOp .Or [a] pos) tA:=by
 intro wh pins s σ H Q I h
 refine isTrue_or (thn (ha pins s σ H Q I h) fun c s1 e => ?_)
 cases c with
 | false=>exact isTrue_or_nil e
 | true=>exact e
theorem pw_and (ha:PT X a tA) (hb:PW X (.BoolOp .And (b::rest) pos) tB'):PW X (.BoolOp .And (a::b::rest) pos) (tAnd tA tB'):=by
 intro wh pins s σ H Q I h
 refine isTrue_and (thn (ha pins s σ H _ I h) fun c s1 ⟨H1,I1,q1⟩ => ?_)
 cases c with
 | true=>exact hb wh pins s1 σ H1 Q I1 q1
 | false=>exact⟨H1,I1,q1⟩
theorem pw_or (ha:PT X a tA) (hb:PW X (.BoolOp .Or (b::rest) pos) tB'):PW X (.BoolOp .Or (a::b::rest) pos) (tOr tA tB'):=by
 intro wh pins s σ H Q I h
 refine isTrue_or (thn (ha pins s σ H _ I h) fun c s1 ⟨H1,I1,q1⟩ => ?_)
 cases c with
 | true=>exact⟨H1,I1,q1⟩
 | false=>exact hb wh pins s1 σ H1 Q I1 q1
theorem xS3 (ha:PT X a tA):PT X (.UnaryOp .Not a pos) (tNot tA):=by
 intro pins s σ H Q I h
 exact isTrue_not (ha pins s σ H (fun c H1=>Q (!c) H1) I h)
def tAndV (ta tb:TE):TE:=fun σ H Q=>ta σ H fun x H1=>∃c,x=.bl c/\if c=true then tb σ H1 Q else Q (.bl false) H1
theorem xX8 {op} {t:TE}(h:PE X a t):PE X (.BoolOp op [a] pos) t:=fun pins s σ H Q I hw=>BoolOp_one (h pins s σ H Q I hw)
theorem xX7 (ha:PE X a ta) (hb:PE X (.BoolOp .And (b::rest) pos) tb):PE X (.BoolOp .And (a::b::rest) pos) (tAndV ta tb):=by
 intro pins s σ H Q I h
 refine BoolOp_and (thn (ha pins s σ H _ I h) fun v s1 ⟨x,H1,I1,r1,q1⟩ => ?_)
 obtain⟨c,rfl,q1⟩:=q1
 cases r1
 refine wpAny_truthy_bool ?_
 cases c with
 | true=>exact hb pins s1 σ H1 Q I1 q1
 | false=>exact⟨.bl false,H1,I1,rfl,q1⟩
def tIf (t:TT) (ta tb:TE):TE:=fun σ H Q=>t σ H fun c H1=>if c=true then ta σ H1 Q else tb σ H1 Q
theorem yK8 {c:Expr}(hc:PT X c tA) (ha:PE X a ta) (hb:PE X b tb):PE X (.IfExp c a b pos) (tIf tA ta tb):=by
 intro pins s σ H Q I h
 refine wpAny_IfExp (thn (hc pins s σ H _ I h) fun d s1 ⟨H1,I1,q1⟩ => ?_)
 cases d with
 | true=>exact ha pins s1 σ H1 Q I1 q1
 | false=>exact hb pins s1 σ H1 Q I1 q1
end
def SqL (K:KFr) (H:Hp) (a:Addr) (xs:List V):Prop :=
 Rd H a (.lst xs) \/
  ∃(o:Obj) (its:Array Value) (n:Nat),K.lookup a=some o/\o.cls=.type "list"/\o.dict=none/\o.data=.seq its n/\its.size<=sizeLine/\Vals xs its.toList
def SqT (K:KFr) (H:Hp) (a:Addr) (xs:List V):Prop :=
 Rd H a (.tup xs) \/
  ∃(o:Obj) (its:Array Value) (n:Nat),K.lookup a=some o/\o.cls=.type "tuple"/\o.data=.seq its n/\its.size<=sizeLine/\Vals xs its.toList
def absV:Value->Option V
 | .none=>some .non
 | .bool b=>some (.bl b)
 | .int i _=>some (.int i)
 | .str x _=>some (.str x)
 | .bytes b _=>some (.byt b)
 | .float b _=>some (.flt b)
 | .ref a=>some (.ref a)
 | .type n=>some (.ty n)
 | _=>none
theorem RelV.abs {x:V}{u:Value}(r:RelV x u):absV u=some x:=by
 cases x with
 | non=>cases r;rfl
 | bl _=>cases r;rfl
 | int _=>obtain⟨t,rfl⟩:=r;rfl
 | str _=>obtain⟨t,rfl⟩:=r;rfl
 | byt _=>obtain⟨t,rfl⟩:=r;rfl
 | flt _=>obtain⟨t,rfl⟩:=r;rfl
 | ref _=>cases r;rfl
 | ty _=>cases r;rfl
theorem RelV.inj {x y:V}{u:Value}(r:RelV x u) (q:RelV y u):x=y:=Option.some.inj (r.abs.symm.trans q.abs)
theorem Vals.inj:∀{xs ys:List V}{us:List Value},Vals xs us->Vals ys us->xs=ys
 | _,_,_,.nil,.nil=>rfl
 | _,_,_,.cons r t,.cons r' t'=>by rw[r.inj r',Vals.inj t t']
section
variable {X:Cx}{pins:List (Addr×Obj)}{σ:St}{H:Hp}{s:Shared}{a:Addr}{xs ys:List V}
theorem SqL.of {K:KFr}(h:H a=some (.lst xs)):SqL K H a xs:=.inl (.inl h)
theorem SqT.of {K:KFr}(h:H a=some (.tup xs)):SqT K H a xs:=.inl (.inl h)
theorem Inv.list (I:Inv X pins σ H s) (h:SqL X.K H a xs):∃its:List Value,Vals xs its/\PlainL s.heap a its.toArray/\xs.length<=sizeLine:=by
 rcases h with h | ⟨o,its,n,hk,hc,hd,hs,hz,r⟩
 ·obtain⟨z,its,n,r,e⟩:=h.ok I.hok
  exact⟨its,r,⟨_,n,e,rfl,rfl,rfl⟩,z⟩
 ·refine⟨its.toList,r,⟨o,n,I.kIn a o hk,hc,hd,by simpa using hs⟩,?_⟩
  have e:=r.length
  simp only[Array.length_toList] at e
  bv_omega
theorem Inv.tuple (I:Inv X pins σ H s) (h:SqT X.K H a xs):∃its:List Value,Vals xs its/\IsTup s.heap a its.toArray/\xs.length<=sizeLine:=by
 rcases h with h | ⟨o,its,n,hk,hc,hs,hz,r⟩
 ·obtain⟨z,its,r,p⟩:=h.ok I.hok
  exact⟨its,r,p.tup,z⟩
 ·refine⟨its.toList,r,⟨o,I.kIn a o hk,hc,n,by simpa using hs⟩,?_⟩
  have e:=r.length
  simp only[Array.length_toList] at e
  bv_omega
theorem Inv.yK6 (I:Inv X pins σ H s) (h:SqL X.K H a xs) (h':SqL X.K H a ys):xs=ys:=by
 obtain⟨its,r,⟨o,n,e,_,_,d⟩,_⟩:=I.list h
 obtain⟨its',r',⟨o',n',e',_,_,d'⟩,_⟩:=I.list h'
 rw[e] at e';cases e'
 rw[d] at d'
 injection d' with d1 _
 have:its=its':=by simpa using congrArg Array.toList d1
 subst this
 exact r.inj r'
theorem Inv.yT8 (I:Inv X pins σ H s) (h:SqT X.K H a xs) (h':SqT X.K H a ys):xs=ys:=by
 obtain⟨its,r,⟨o,e,_,n,d⟩,_⟩:=I.tuple h
 obtain⟨its',r',⟨o',e',_,n',d'⟩,_⟩:=I.tuple h'
 rw[e] at e';cases e'
 rw[d] at d'
 injection d' with d1 _
 have:its=its':=by simpa using congrArg Array.toList d1
 subst this
 exact r.inj r'
end
abbrev Cx.wish (X:Cx) (E:Value->Shared->Prop):Cx:={ X with xe:=E }
abbrev Cx.nox (X:Cx):Cx:=X.wish fun _ _=>False
theorem Cx.Ok.wish {X:Cx}(ok:X.Ok) (E:Value->Shared->Prop):(X.wish E).Ok :=
 ⟨ok.mod,ok.kind,ok.glob,ok.blt,ok.above,ok.inj,ok.has,ok.cab,ok.hd,ok.frames,ok.stk,ok.exf,ok.bs,ok.bsz,ok.noex,ok.exfs,ok.funs,ok.frf⟩
theorem Cx.Ok.unwish {X:Cx}{E:Value->Shared->Prop}(ok:(X.wish E).Ok):X.Ok :=
 ⟨ok.mod,ok.kind,ok.glob,ok.blt,ok.above,ok.inj,ok.has,ok.cab,ok.hd,ok.frames,ok.stk,ok.exf,ok.bs,ok.bsz,ok.noex,ok.exfs,ok.funs,ok.frf⟩
section
variable {X:Cx}{pins:List (Addr×Obj)}{σ:St}{H:Hp}{s:Shared}{E:Value->Shared->Prop}
theorem Inv.wish (I:Inv X pins σ H s) (E:Value->Shared->Prop):Inv (X.wish E) pins σ H s:=⟨I.ok.wish E,I.os,I.bare,I.base,I.loc,I.cell,I.free,I.freeC,I.pin,I.hok,I.len⟩
theorem Inv.unwish (I:Inv (X.wish E) pins σ H s):Inv X pins σ H s:=⟨I.ok.unwish,I.os,I.bare,I.base,I.loc,I.cell,I.free,I.freeC,I.pin,I.hok,I.len⟩
theorem SP.unwish {D:Ends}{f:Flow}{s':Shared}(h:SP (X.wish E) pins D f s'):SP X pins D f s':=by
 cases f with
 | next=>obtain⟨σ',H',I,q⟩:=h;exact⟨σ',H',I.unwish,q⟩
 | brk=>obtain⟨σ',H',I,q⟩:=h;exact⟨σ',H',I.unwish,q⟩
 | cont=>obtain⟨σ',H',I,q⟩:=h;exact⟨σ',H',I.unwish,q⟩
 | ret u=>obtain⟨v,σ',H',I,r,q⟩:=h;exact⟨v,σ',H',I.unwish,r,q⟩
theorem PE.nox {e:Expr}{t:TE}(h:PE X.nox e t):PE X e t:=fun pins s σ H Q I hw =>
 wpAny_mono (h pins s σ H Q (I.wish _) hw) (fun _ _ ⟨v,H',I',r,q⟩=>⟨v,H',I'.unwish,r,q⟩) fun _ _ z=>False.elim z
theorem PT.nox {e:Expr}{t:TT}(h:PT X.nox e t):PT X e t:=fun pins s σ H Q I hw =>
 wpAny_mono (h pins s σ H Q (I.wish _) hw) (fun _ _ ⟨H',I',q⟩=>⟨H',I'.unwish,q⟩) fun _ _ z=>False.elim z
theorem PSs.nox {st:List Stmt}{t:TS}(h:PSs X.nox st t):PSs X st t:=fun pins s σ H D I hw =>
 wpAny_mono (h pins s σ H D (I.wish _) hw) (fun _ _ q=>q.unwish) fun _ _ z=>False.elim z
end
section
variable {X:Cx}{st:Stmt}{rest:List Stmt}{t u:TS}{e:Expr}{te:TE}{pos:Pos}
def tNext:TS:=fun D σ H=>D.nx σ H
def tSeq (t u:TS):TS:=fun D σ H=>t { D with nx:=u D } σ H
theorem zG2:PSs X [] tNext:=fun _ _ σ H _ I h=>wpAny_execs_nil ⟨σ,H,I,h⟩
theorem wK (h1:PS X st t) (h2:PSs X rest u):PSs X (st::rest) (tSeq t u):=by
 intro pins s σ H D I h
 refine wpAny_execs_cons (thn (h1 pins s σ H { D with nx:=u D } I h) fun f s1 q => ?_)
 cases f with
 | next =>
  obtain⟨σ',H',I',q⟩:=q
  exact h2 pins s1 σ' H' D I' q
 | ret v=>exact q
 | brk=>exact q
 | cont=>exact q
theorem gM (h1:PS X st t):PSs X [st] t:=by
 intro pins s σ H D I h
 refine wpAny_execs_cons (thn (h1 pins s σ H D I h) fun f s1 q => ?_)
 cases f with
 | next=>exact wpAny_execs_nil q
 | ret v=>exact q
 | brk=>exact q
 | cont=>exact q
theorem Inv.quiet {pins:List (Addr×Obj)}{σ:St}{H:Hp}{s:Shared}(I:Inv X pins σ H s):interactive X.env=false:=by simp[interactive,I.ok.kind]
def tDrop (te:TE):TS:=fun D σ H=>te σ H fun _ H1=>D.nx σ H1
theorem gI (he:PE X e te) (hs:autoParam (swapsWith e none pos.line X.env=pure false) zW._auto_1):PS X (.Expr e pos) (tDrop te):=by
 intro pins s σ H D I h
 exact wpAny_Expr_any (thn (he pins s σ H _ I h) fun v s1 ⟨x,H1,I1,r1,q1⟩=>⟨σ,H1,I1,q1⟩) I.quiet hs
def tRet (te:TE):TS:=fun D σ H=>te σ H D.rt
theorem zM2 (he:PE X e te):PS X (.Return (some e) pos) (tRet te):=by
 intro pins s σ H D I h
 exact wpAny_Return_some (thn (he pins s σ H _ I h) fun v s1 ⟨x,H1,I1,r1,q1⟩=>⟨x,σ,H1,I1,r1,q1⟩)
def tIfS (c:TT) (t u:TS):TS:=fun D σ H=>c σ H fun b H1=>if b=true then t D σ H1 else u D σ H1
theorem yJ8 {c:Expr}{a b:List Stmt}{tc:TT}(hc:PT X c tc) (ha:PSs X a t) (hb:PSs X b u):PS X (.If c a b pos) (tIfS tc t u):=by
 intro pins s σ H D I h
 refine wpAny_If (thn (hc pins s σ H _ I h) fun d s1 ⟨H1,I1,q1⟩ => ?_)
 cases d with
 | true=>exact ha pins s1 σ H1 D I1 q1
 | false=>exact hb pins s1 σ H1 D I1 q1
def tNever:TS:=fun _ _ _=>False
theorem yN9:PS X st tNever:=fun _ _ _ _ _ _ h=>h.elim
end
abbrev TG:=V->St->Hp->(St->Hp->Prop)->Prop
abbrev TGs:=List V->St->Hp->(St->Hp->Prop)->Prop
def PG (X:Cx) (target:Expr) (t:TG):Prop :=
 ∀(pins:List (Addr×Obj)) (s:Shared) (σ:St) (H:Hp) (v:V) (u:Value) (Q:St->Hp->Prop),Inv X pins σ H s->RelV v u->t v σ H Q ->
  wpAny (model X.prog X.w) X.A (assign target X.env u) (fun _ s'=>∃σ' H',Inv X pins σ' H' s'/\Q σ' H') X.xe s
def PGs (X:Cx) (ts:List Expr) (t:TGs):Prop :=
 ∀(pins:List (Addr×Obj)) (s:Shared) (σ:St) (H:Hp) (vs:List V) (us:List Value) (Q:St->Hp->Prop),Inv X pins σ H s->Vals vs us->t vs σ H Q ->
  wpAny (model X.prog X.w) X.A (assignInOrder ((assignEach ts X.env).map (·.2)) us) (fun _ s'=>∃σ' H',Inv X pins σ' H' s'/\Q σ' H') X.xe s
abbrev TSet:=V->V->V->Hp->(Hp->Prop)->Prop
def PSet (X:Cx) (t:TSet):Prop :=
 ∀(pins:List (Addr×Obj)) (s:Shared) (σ:St) (H:Hp) (o i v:V) (ov iv u:Value) (Q:Hp->Prop),Inv X pins σ H s->RelV o ov->RelV i iv->RelV v u->t o i v H Q ->
  wpAny (model X.prog X.w) X.A (setItem ov iv u) (fun _ s'=>∃H',Inv X pins σ H' s'/\Q H') X.xe s
section
variable {X:Cx}{pos:Pos}
def gName (i:Nat):TG:=fun v σ H Q=>Q (σ.set i (some v)) H
theorem zW7 {i:Nat}{x:Str}(hN:X.N.Nodup) (hi:X.N[i]?=some x) (hx:Loc X.env.scope x) (hf:autoParam (X.fn x=true\/X.env.scope.names.lookup x=some .local) cT._auto_1):PG X (.Name x pos) (gName i):=by
 intro pins s σ H v u Q I r h
 exact wpAny_assign_Name (bQ I hN hi hx r (fun s' I'=>⟨_,H,I',h⟩) hf)
def gNil:TGs:=fun vs σ H Q=>vs=[]/\Q σ H
def gCons (t:TG) (u:TGs):TGs:=fun vs σ H Q=>∃v r,vs=v::r/\t v σ H fun σ' H'=>u r σ' H' Q
theorem yD3:PGs X [] gNil:=by
 intro pins s σ H vs us Q I r h
 obtain⟨e,h⟩:=h
 subst e
 cases r
 exact assignInOrder_nil ⟨σ,H,I,h⟩
theorem yM4 {e:Expr}{es:List Expr}{t:TG}{u:TGs}(h1:PG X e t) (h2:PGs X es u)
  (hs:autoParam ((assignEach (e::es) X.env).map (·.2)=assign e X.env::(assignEach es X.env).map (·.2)) zW._auto_1):PGs X (e::es) (gCons t u):=by
 intro pins s σ H vs us Q I r h
 obtain⟨v,vr,e1,h⟩:=h
 subst e1
 cases r with
 | cons r rr =>
  rw[hs]
  refine assignInOrder_cons (thn (h1 pins s σ H _ _ _ I r h) fun _ s1 ⟨σ1,H1,I1,q1⟩ => ?_)
  exact h2 pins s1 σ1 H1 _ _ Q I1 rr q1
def gTup (K:KFr) (n:Nat) (t:TGs):TG:=fun v σ H Q=>∃a xs,v=.ref a/\SqT K H a xs/\xs.length=n/\t xs σ H Q
theorem yA5 {es:List Expr}{k:Nat}{t:TGs}{n:Nat}(hc:X.calm=true) (h:PGs X es t)
  (hn:autoParam ((assignEach es X.env).length=n) zW._auto_1) (hst:autoParam ((assignEach es X.env).findIdx? (·.1)=none) zW._auto_1):PG X (.Tuple es k pos) (gTup X.K n t):=by
 intro pins s σ H v u Q I r hw
 obtain⟨a,xs,e1,hq,hl,hw⟩:=hw
 subst e1
 cases r
 obtain⟨its,rv,ht,hz⟩:=I.tuple hq
 refine assign_Tuple_tuple (I.ok.hd hc) ht (by simp[hn,<-hl,rv.length]) hst fun h' hx => ?_
 have I1:Inv X pins σ H { s with heap:=h' }:=I.kept (t':=s.toks) fun b o e=>hx b o (Nat.ne_of_lt (Heap.lt_size e)) e
 exact h pins _ σ H xs _ Q I1 (by simpa using rv) hw
def gSub (to ti:TE) (t:TSet):TG:=fun v σ H Q=>to σ H fun o H1=>ti σ H1 fun i H2=>t o i v H2 fun H3=>Q σ H3
theorem xS4 {o i:Expr}{to ti:TE}{t:TSet}(ho:PE X o to) (hi:PE X i ti) (hs:PSet X t)
  (ha:∀v,assign (.Subscript o i pos) X.env v=(do
   let ov <-holding [v] (eval o X.env)
   let iv <-holding [v,ov] (eval i X.env)
   standAt pos
   holding [v,ov,iv] (setItem ov iv v)
   release [v,ov,iv] []):=by intro _;rfl):PG X (.Subscript o i pos) (gSub to ti t):=by
 intro pins s σ H v u Q I r h
 rw[ha]
 refine wpAny_bind (wpAny_holding (thn (ho pins s σ H _ I h) fun ov s1 ⟨x,H1,I1,r1,q1⟩ => ?_))
 refine wpAny_bind (wpAny_holding (thn (hi pins s1 σ H1 _ I1 q1) fun iv s2 ⟨y,H2,I2,r2,q2⟩ => ?_))
 refine wpAny_bind (wpAny_standAt (wpAny_bind (wpAny_holding (thn (hs pins s2 σ H2 x y v ov iv u _ I2 r1 r2 r q2) fun _ s3 ⟨H3,I3,q3⟩ => ?_))))
 exact wpAny_release ⟨σ,H3,I3,q3⟩
def tAsg (te:TE) (g:TG):TS:=fun D σ H=>te σ H fun x H1=>g x σ H1 D.nx
theorem yT1 {tg e:Expr}{te:TE}{g:TG}(he:PE X e te) (hg:PG X tg g) (hs:autoParam (swapsWithSole [tg] e pos.line X.env=pure false) zW._auto_1) (hw:autoParam (swappedStores [tg] e X.env=pure none) zW._auto_1)
  (h1:autoParam ((assignEach [tg] X.env).map (·.2)=[assign tg X.env]) zW._auto_1):PS X (.Assign [tg] e pos) (tAsg te g):=by
 intro pins s σ H D I h
 refine wpAny_Assign_stores (thn (he pins s σ H _ I h) fun v s1 ⟨x,H1,I1,r1,q1⟩ => ?_) hs hw
 rw[h1]
 exact thn (hg pins s1 σ H1 x v _ I1 r1 q1) fun _ s2 q=>q
theorem kR {i:Nat}{x:Str}{e:Expr}{te:TE}{pos':Pos}(hN:X.N.Nodup) (hi:X.N[i]?=some x) (hx:Loc X.env.scope x) (he:PE X e te) (hs:autoParam (swapsWith e (some (.Name x pos')) pos.line X.env=pure false) zW._auto_1) (hf:autoParam (X.fn x=true\/X.env.scope.names.lookup x=some .local) cT._auto_1) :
  PS X (.Assign [.Name x pos'] e pos) (tAsg te (gName i)):=by
 intro pins s σ H D I h
 refine wpAny_Assign_Name (thn (he pins s σ H _ I h) fun v s1 ⟨y,H1,I1,r1,q1⟩ => ?_) hs
 exact bQ I1 hN hi hx r1 (fun s2 I2=>⟨_,H1,I2,q1⟩) hf
end
section
variable {X:Cx}{pos:Pos}
def tWhile (c:TT) (tb:TS):TS:=fun D σ H=>∃W:Nat->St->Hp->Prop,(∃m,W m σ H)/\∀m σ H,W m σ H ->
 c σ H fun b H1=>if b=true then ∃N:St->Hp->Prop,(∀σ' H',N σ' H'->∃m',m'<m/\W m' σ' H')/\tb { D with nx:=N,ct:=N,bk:=D.nx } σ H1 else D.nx σ H1
theorem zO5 {c:Expr}{body:List Stmt}{tc:TT}{tb:TS}(hp:PassesOwn (model X.prog X.w) X.A X.env X.xe) (hc:PT X c tc) (hb:PSs X body tb):PS X (.While c body [] pos) (tWhile tc tb):=by
 intro pins s σ H D I h
 obtain⟨W,⟨m0,w0⟩,turn⟩:=h
 refine wpAny_While (codeAny_whileLoop (fun n s'=>∃σ' H',Inv X pins σ' H' s'/\W n σ' H') ?_ m0 ⟨σ,H,I,w0⟩)
 rintro n s1 ⟨σ1,H1,I1,w1⟩
 refine wpAny_passesOwn hp (thn (hc pins s1 σ1 H1 _ I1 (turn n σ1 H1 w1)) fun b s2 ⟨H2,I2,q2⟩ => ?_)
 cases b with
 | true =>
  obtain⟨N,hN,q2⟩:=q2
  rw[if_pos rfl]
  refine wpAny_passesOwn hp (thn (hb pins s2 σ1 H2 _ I2 q2) fun f s3 q3 => ?_)
  cases f with
  | next =>
   obtain⟨σ3,H3,I3,n3⟩:=q3
   obtain⟨m',hm,w3⟩:=hN σ3 H3 n3
   exact⟨m',hm,σ3,H3,I3,w3⟩
  | cont =>
   obtain⟨σ3,H3,I3,n3⟩:=q3
   obtain⟨m',hm,w3⟩:=hN σ3 H3 n3
   exact⟨m',hm,σ3,H3,I3,w3⟩
  | brk=>exact q3
  | ret v=>exact q3
 | false =>
  rw[if_neg Bool.false_ne_true]
  exact wpAny_execs_nil ⟨σ1,H2,I2,q2⟩
end
structure It where
 go:Nat->Hp->Prop
 yld:Nat->Hp->V->Hp->Prop
 stop:Nat->Hp->Prop
def FpOk (X:Cx) (pins:List (Addr×Obj)) (H:Hp) (b:Addr):Prop :=
 H b=none/\b≠X.env.locals/\b∉X.fs/\(b∈X.ex\/X.s₀.heap.objs.size<=b)/\(∀x c,X.env.cells.lookup x=some c->c≠b)/\∀p∈X.pn++pins,p.1≠b
theorem Inv.fpOk {X:Cx}{pins:List (Addr×Obj)}{σ:St}{H H':Hp}{s:Shared}{b:Addr}(I:Inv X pins σ H s) (hb:s.heap.objs.size<=b) (hn:H' b=none):FpOk X pins H' b:=by
 refine⟨hn,Nat.ne_of_gt (Nat.lt_of_lt_of_le I.lt hb),I.nofs hb,.inr (Nat.le_trans I.sz hb),fun x c e z => ?_,fun p hp z => ?_⟩
 ·obtain⟨v,q⟩:=I.cell x c e
  exact absurd (Nat.lt_of_lt_of_le q.lt (by rw[z];exact hb)) (Nat.lt_irrefl _)
 ·exact absurd (Nat.lt_of_lt_of_le (Heap.lt_size (I.pin p hp).1) (by rw[z];exact hb)) (Nat.lt_irrefl _)
structure Turn (P:Program) (w:World) (K:KFr) (tg:Expr) (J:It) (fp:List Addr) (it:Addr) (tn:Nat->Heap->Prop):Prop where
 mem:it∈fp
 obj:∀i h,tn i h->∀b∈fp,∃o,h.get? b=some o/\∀v,o.data ≠ .cell v
 keep:∀i h h',tn i h->(∀b∈fp,∀o,h.get? b=some o->h'.get? b=some o)->tn i h'
 item:∀(X:Cx),X.prog=P->X.w=w->X.K=K->X.calm=true->∀(i:Nat) (pins:List (Addr×Obj)) (s:Shared) (σ:St) (H:Hp) (E:Value->Shared->Prop),Inv X pins σ H s->(∀b∈fp,FpOk X pins H b)->tn i s.heap->J.go i H ->
  wpAny (model P w) X.A (pyNext (.ref it)) (fun r s1=>∃u,r=some u /\
   wpAny (model P w) X.A (letOwnedTupleGo tg (.ref it) u) (fun _ s2=>∃x H',Inv X pins σ H' s2/\RelV x u/\J.yld i H x H'/\tn (i+1) s2.heap/\∀b∈fp,H' b=none) E s1) E s
 done:∀(X:Cx),X.prog=P->X.w=w->X.K=K->X.calm=true->∀(i:Nat) (pins:List (Addr×Obj)) (s:Shared) (σ:St) (H:Hp) (E:Value->Shared->Prop),Inv X pins σ H s->(∀b∈fp,FpOk X pins H b)->tn i s.heap->J.stop i H ->
  wpAny (model P w) X.A (pyNext (.ref it)) (fun r s1=>r=none/\Inv X pins σ H s1) E s
 self:∀(A:Around) (i:Nat) (s:Shared) (Q:Value->Shared->Prop) (E:Value->Shared->Prop),tn i s.heap->Q (.ref it) s->wpAny (model P w) A (pyIter (.ref it)) Q E s
abbrev TI:=St->Hp->(It->Hp->Prop)->Prop
def PIE (X:Cx) (pins:List (Addr×Obj)) (σ:St) (tg:Expr) (R:It->Hp->Prop) (itv:Value) (s2:Shared):Prop :=
 ∃(it:Addr) (fp:List Addr) (tn:Nat->Heap->Prop) (J:It) (H':Hp),itv=.ref it/\Inv X pins σ H' s2/\Turn X.prog X.w X.K tg J fp it tn/\tn 0 s2.heap/\(∀b∈fp,FpOk X pins H' b)/\R J H'
def PI (X:Cx) (tg iter:Expr) (wi:TI):Prop :=
 ∀(pins:List (Addr×Obj)) (s:Shared) (σ:St) (H:Hp) (R:It->Hp->Prop),Inv X pins σ H s->wi σ H R ->
  wpAny (model X.prog X.w) X.A (eval iter X.env) (fun v s1=>wpAny (model X.prog X.w) X.A (pyIter v) (PIE X pins σ tg R) X.xe s1) X.xe s
theorem zO2 {M:Model}{A:Around}{E:Value->Shared->Prop}{s:Shared}{tg:Expr}{it:Addr}{u:Value}{o:Obj}{n:String}{vs:Array Value}{Q:Unit->Shared->Prop}(ho:s.heap.get? it=some o) (hc:o.cls=.type n) (hd:o.data=.fields vs)
  (hn:["enumerate","zip","dict_itemiterator","dict_reverseitemiterator","odict_iterator","itertools.zip_longest","itertools.pairwise"].contains n=false) (hQ:Q () s):wpAny M A (letOwnedTupleGo tg (.ref it) u) Q E s:=by
 unfold letOwnedTupleGo
 cases tg <;> first
  | exact wpAny_pure hQ
  | (cases u <;> first
    | exact wpAny_pure hQ
    | (refine wpAny_bind (wpAny_load ho ?_)
       rw[hc,hd]
       show wpAny M A (if (["enumerate","zip","dict_itemiterator","dict_reverseitemiterator","odict_iterator","itertools.zip_longest","itertools.pairwise"].contains n&&vs[0]? == some (rawInt _))=true then _ else _) Q E s
       rw[if_neg (by intro h;rw[hn,Bool.false_and] at h;cases h)]
       exact wpAny_pure hQ))
def Itl (K:KFr) (a:Addr):It :=
 ⟨fun i H=>∃xs x,SqL K H a xs/\xs[i]?=some x,fun i H x H'=>H'=H/\∀xs,SqL K H a xs->xs[i]?=some x,fun i H=>∃xs,SqL K H a xs/\xs.length<=i⟩
def Itt (K:KFr) (a:Addr):It :=
 ⟨fun i H=>∃xs x,SqT K H a xs/\xs[i]?=some x,fun i H x H'=>H'=H/\∀xs,SqT K H a xs->xs[i]?=some x,fun i H=>∃xs,SqT K H a xs/\xs.length<=i⟩
def Itr (lo:Int) (n:Nat):It:=⟨fun i _=>i<n,fun i H x H'=>H'=H/\x=.int (lo+i),fun i _=>n<=i⟩
theorem yW7 {P:Program}{w:World}{K:KFr}{tg:Expr}(a it:Addr):Turn P w K tg (Itl K a) [it] it (fun i h=>h.IsListIter it a i) where
 mem:=by simp
 obj:=fun i h st b hb=>by
  have e:b=it:=by simpa using hb
  subst e
  obtain⟨o,e,c,d⟩:=st
  exact⟨o,e,fun v z=>by rw[d] at z;cases z⟩
 keep:=fun i h h' st k=>st.at fun o e=>k it (by simp) o e
 item:=by
  intro X hP hw hK hc i pins s σ H E I hf st hg
  subst hP hw hK
  obtain⟨xs,x,hq,hx⟩:=hg
  obtain⟨its,rv,p,hz⟩:=I.list hq
  obtain⟨u,hu,ru⟩:=rv.get hx
  obtain⟨f0,f1,f2,f3,f4,f5⟩:=hf it (by simp)
  refine wpAny_pyNext_list_item st p.isList (x:=u) (by simpa using hu) fun h' st' sb => ?_
  have I1:Inv X pins σ H { s with heap:=h' }:=I.turned (t':=s.toks) (fun b o hb e=>(sb.2 b hb).trans e) f0 f1 f3 f4 f5
  obtain⟨o,e,c,d⟩:=id st'
  exact⟨u,rfl,zO2 (s:={ s with heap:=h' }) e c d (by decide) ⟨x,H,I1,ru,⟨rfl,fun ys hy=>by rw[I.yK6 hy hq];exact hx⟩,st',fun b hb=>(hf b hb).1⟩⟩
 done:=by
  intro X hP hw hK hc i pins s σ H E I hf st hg
  subst hP hw hK
  obtain⟨xs,hq,hx⟩:=hg
  obtain⟨its,rv,p,hz⟩:=I.list hq
  obtain⟨f0,f1,f2,f3,f4,f5⟩:=hf it (by simp)
  have hl:=rv.length
  exact wpAny_pyNext_list_end (I.ok.hd hc) st p.isList (by simp;bv_omega) fun h' eb=>⟨rfl,I.turned (t':=s.toks) (fun b o hb e=>eb b o hb e) f0 f1 f3 f4 f5⟩
 self:=fun _ _ _ _ _ st h=>wpAny_pyIter_listiter st h
theorem zB9 {P:Program}{w:World}{K:KFr}{tg:Expr}(a it:Addr):Turn P w K tg (Itt K a) [it] it (fun i h=>h.IsTupleIter it a i) where
 mem:=by simp
 obj:=fun i h st b hb=>by
  have e:b=it:=by simpa using hb
  subst e
  obtain⟨o,e,c,d⟩:=st
  exact⟨o,e,fun v z=>by rw[d] at z;cases z⟩
 keep:=fun i h h' st k=>st.at fun o e=>k it (by simp) o e
 item:=by
  intro X hP hw hK hc i pins s σ H E I hf st hg
  subst hP hw hK
  obtain⟨xs,x,hq,hx⟩:=hg
  obtain⟨its,rv,p,hz⟩:=I.tuple hq
  obtain⟨u,hu,ru⟩:=rv.get hx
  obtain⟨f0,f1,f2,f3,f4,f5⟩:=hf it (by simp)
  refine wpAny_pyNext_tuple_item st (show s.heap.IsTuple a its.toArray from p) (x:=u) (by simpa using hu) fun h' st' sb => ?_
  have I1:Inv X pins σ H { s with heap:=h' }:=I.turned (t':=s.toks) (fun b o hb e=>(sb.2 b hb).trans e) f0 f1 f3 f4 f5
  obtain⟨o,e,c,d⟩:=id st'
  exact⟨u,rfl,zO2 (s:={ s with heap:=h' }) e c d (by decide) ⟨x,H,I1,ru,⟨rfl,fun ys hy=>by rw[I.yT8 hy hq];exact hx⟩,st',fun b hb=>(hf b hb).1⟩⟩
 done:=by
  intro X hP hw hK hc i pins s σ H E I hf st hg
  subst hP hw hK
  obtain⟨xs,hq,hx⟩:=hg
  obtain⟨its,rv,p,hz⟩:=I.tuple hq
  obtain⟨f0,f1,f2,f3,f4,f5⟩:=hf it (by simp)
  have hl:=rv.length
  exact wpAny_pyNext_tuple_end (I.ok.hd hc) st (show s.heap.IsTuple a its.toArray from p) (by simp;bv_omega) fun h' eb=>⟨rfl,I.turned (t':=s.toks) (fun b o hb e=>eb b o hb e) f0 f1 f3 f4 f5⟩
 self:=fun _ _ _ _ _ st h=>wpAny_pyIter_tupleiter st h
theorem zA8 {P:Program}{w:World}{K:KFr}{tg:Expr}(it:Addr) (lo:Int) (n:Nat):Turn P w K tg (Itr lo n) [it] it (fun i h=>IsRangeIter h it (lo+(i:Nat)*1) ((n:Int)-(i:Nat)) 1) where
 mem:=by simp
 obj:=fun i h st b hb=>by
  have e:b=it:=by simpa using hb
  subst e
  exact⟨_,st,fun v z=>by
   have z':Data.fields _=Data.cell v:=z
   cases z'⟩
 keep:=fun i h h' st k=>k it (by simp) _ st
 item:=by
  intro X hP hw hK hc i pins s σ H E I hf st hg
  subst hP hw hK
  obtain⟨f0,f1,f2,f3,f4,f5⟩:=hf it (by simp)
  have W:=Walks.range (prog:=X.prog) (w:=X.w) (I.ok.hd hc) it lo 1 n
  refine W.item i s _ _ hg st fun v h' tk hv st' kk => ?_
  obtain⟨t,rfl⟩:=hv
  have I1:Inv X pins σ H { s with heap:=h',toks:=tk }:=I.turned (fun b o hb e=>kk b o (by simpa using hb) e) f0 f1 f3 f4 f5
  refine⟨_,rfl,zO2 (s:={ s with heap:=h',toks:=tk }) (n:="range_iterator") st' rfl rfl (by decide) ⟨.int (lo+i),H,I1,⟨t,?_⟩,⟨rfl,rfl⟩,st',fun b hb=>(hf b hb).1⟩⟩
  rw[Int.mul_one]
 done:=by
  intro X hP hw hK hc i pins s σ H E I hf st hg
  subst hP hw hK
  obtain⟨f0,f1,f2,f3,f4,f5⟩:=hf it (by simp)
  exact wpAny_pyNext_range_end (I.ok.hd hc) st (by have:n<=i:=hg;bv_omega) fun h' eb=>⟨rfl,I.turned (t':=s.toks) (fun b o hb e=>eb b o hb e) f0 f1 f3 f4 f5⟩
 self:=fun _ _ _ _ _ st h=>wpAny_pyIter_rangeiter st h
section
variable {X:Cx}{tg:Expr}
theorem yP9 {pins:List (Addr×Obj)}{σ:St}{H:Hp}{s:Shared}{R:It->Hp->Prop}{E:Value->Shared->Prop}{lo hi:Int}{t u v:Tok}{tk:Nat}(I:Inv X pins σ H s) (h1:-(2 ^ 62)<=lo) (h2:lo<2 ^ 62) (h3:-(2 ^ 62)<=hi) (h4:hi<2 ^ 62)
  (q:R (Itr lo (hi-lo).toNat) H):wpAny (model X.prog X.w) X.A (pyIter (.ref s.heap.objs.size)) (PIE X pins σ tg R) E { s with heap:=s.heap.push { cls:=.type "range",data:=.fields #[.int lo t,.int hi u,.int 1 v] },toks:=tk }:=by
 refine wpAny_pyIter_range (IsRange.new ..) (small_one h1 h2 h3 h4) ?_
 have I1:Inv X pins σ H { s with heap:=s.heap.push { cls:=.type "range",data:=.fields #[.int lo t,.int hi u,.int 1 v] },toks:=tk }:=I.kept fun b o e=>Heap.get?_push_of_some _ e
 refine⟨(s.heap.push { cls:=.type "range",data:=.fields #[.int lo t,.int hi u,.int 1 v] }).objs.size,[(s.heap.push { cls:=.type "range",data:=.fields #[.int lo t,.int hi u,.int 1 v] }).objs.size],_,_,H,rfl,
  I1.kept (t':=tk) fun b o e=>Heap.get?_push_of_some _ e,zA8 _ lo (hi-lo).toNat,?_,fun b hb => ?_,q⟩
 ·have e1:lo+((0:Nat):Int)*1=lo:=by simp
  have e2:(((hi-lo).toNat:Nat):Int)-((0:Nat):Int)=Builtin.Range.rangeSize lo hi 1:=by rw[rangeSize_one];split <;> bv_omega
  show IsRangeIter _ _ (lo+((0:Nat):Int)*1) ((((hi-lo).toNat:Nat):Int)-((0:Nat):Int)) 1
  rw[e1,e2]
  exact Heap.get?_push_size _ rfl
 ·have e:b=(s.heap.push { cls:=.type "range",data:=.fields #[.int lo t,.int hi u,.int 1 v] }).objs.size:=by simpa using hb
  subst e
  exact I1.fpOk (Nat.le_refl _) (I1.hok.fresh (Nat.le_refl _))
def iRng1 (ta:TA):TI:=fun σ H R=>ta σ H fun vs H1=>∃j:Int,vs=[.int j]/\-(2 ^ 62)<=j/\j<2 ^ 62/\R (Itr 0 j.toNat) H1
theorem zU1 {a:Expr}{ta:TA}{p pos:Pos}(hg:Gl X "range") (hm:X.mg "range" = none) (ha:PA X [a] ta) (hs:autoParam (starEach [a] X.env=[(false,eval a X.env)]) zW._auto_1):PI X tg (.Call (.Name "range" p) [a] [] pos) (iRng1 ta):=by
 intro pins s σ H R I h
 refine Call_ (dJ I hg hm boot_range (PyProof.Rows.callWith_type1 (thn (ha pos pins s σ H _ I h) fun us s1 ⟨vs,H1,I1,r1,q1⟩ => ?_) hs rfl))
 obtain⟨j,e,q1,q2,q⟩:=q1
 subst e
 cases r1 with
 | cons r rr =>
  cases rr
  obtain⟨t,rfl⟩:=r
  exact call_range_1 (yP9 I1 (by bv_omega) (by bv_omega) q1 q2 (by simpa using q))
def tFor (wi:TI) (g:TG) (tb:TS):TS:=fun D σ H=>wi σ H fun J H1=>∃W:Nat->Nat->St->Hp->Prop,(∃m,W 0 m σ H1)/\∀i m σ H,W i m σ H ->
 (J.stop i H/\D.nx σ H)\/(J.go i H/\∃N:St->Hp->Prop,(∀σ' H',N σ' H'->∃m',m'<m/\W (i+1) m' σ' H')/\∀x H',J.yld i H x H'->g x σ H' fun σ2 H2=>tb { D with nx:=N,ct:=N,bk:=D.nx } σ2 H2)
def pinsAt (fp:List Addr) (h:Heap):List (Addr×Obj):=fp.filterMap fun b=>(h.get? b).map fun o=>(b,o)
theorem jO {fp:List Addr}{h:Heap}{b:Addr}{o:Obj}(hb:b∈fp) (e:h.get? b=some o):(b,o)∈pinsAt fp h:=List.mem_filterMap.mpr ⟨b,hb,by rw[e];rfl⟩
theorem yT6 {fp:List Addr}{h:Heap}{p:Addr×Obj}(hp:p∈pinsAt fp h):p.1∈fp/\h.get? p.1=some p.2:=by
 obtain⟨b,hb,e⟩:=List.mem_filterMap.mp hp
 cases q:h.get? b with
 | none=>rw[q] at e;cases e
 | some o =>
  rw[q] at e
  have e':(b,o)=p:=Option.some.inj e
  subst e'
  exact⟨hb,q⟩
theorem Inv.pinned {pins:List (Addr×Obj)}{σ:St}{H:Hp}{s:Shared}{fp:List Addr}(I:Inv X pins σ H s) (hf:∀b∈fp,FpOk X pins H b) (ho:∀b∈fp,∃o,s.heap.get? b=some o/\∀v,o.data ≠ .cell v):Inv X (pins++pinsAt fp s.heap) σ H s :=
 I.qP fun p hp=>(List.mem_append.mp hp).elim (fun z=>I.pin p (List.mem_append_right _ z)) fun z=>by
  obtain⟨hb,e⟩:=yT6 z
  obtain⟨f0,f1,f2,_⟩:=hf p.1 hb
  obtain⟨o,e',d⟩:=ho p.1 hb
  rw[e] at e';cases e'
  exact⟨e,f0,f1,f2,d⟩
theorem Inv.unpinned {pins pl:List (Addr×Obj)}{σ:St}{H:Hp}{s:Shared}(I:Inv X (pins++pl) σ H s):Inv X pins σ H s:=I.qP fun p hp=>I.pin p (List.mem_append_right _ (List.mem_append_left _ hp))
theorem yR7 {iter:Expr}{body:List Stmt}{wi:TI}{g:TG}{tb:TS}{pos:Pos}(hp:PassesOwn (model X.prog X.w) X.A X.env X.xe) (hc:X.calm=true) (hi:PI X tg iter wi) (hg:PG X tg g) (hb:PSs X body tb)
  (hs:autoParam (∀x,foldedSetIterable iter X.env x=pure x) qR._auto_1):PS X (.For tg iter body [] pos) (tFor wi g tb):=by
 intro pins s σ H D I h
 refine wpAny_For (thn (hi pins s σ H _ I h) fun v s1 h1=>thn h1 fun itv s2 h2 => ?_) hs
 obtain⟨it,fp,tn,J,H2,e,I2,T,st2,f2,W,⟨m0,w0⟩,turn⟩:=h2
 subst e
 have stat:∀{H':Hp},(∀b∈fp,H' b=none)->∀b∈fp,FpOk X pins H' b:=fun hn b hb=>⟨hn b hb,(f2 b hb).2⟩
 refine codeAny_forLoop_any (fun n s'=>∃i σ' H',Inv X pins σ' H' s'/\tn i s'.heap/\(∀b∈fp,H' b=none)/\W i n σ' H') ?_ m0 ⟨0,σ,H2,I2,st2,fun b hb=>(f2 b hb).1,w0⟩
 rintro n s3 ⟨i,σ3,H3,I3,st3,fr3,w3⟩
 rcases turn i n σ3 H3 w3 with ⟨stop,qn⟩ | ⟨go,N,hN,step⟩
 ·refine wpAny_passesOwn hp (thn (T.done X rfl rfl rfl hc i pins s3 σ3 H3 X.xe I3 (stat fr3) st3 stop) fun r s4 ⟨hr,I4⟩ => ?_)
  subst hr
  exact wpAny_execs_nil ⟨σ3,H3,I4,qn⟩
 ·refine wpAny_passesOwn hp (thn (T.item X rfl rfl rfl hc i pins s3 σ3 H3 X.xe I3 (stat fr3) st3 go) fun r s4 ⟨u,hr,h4⟩ => ?_)
  subst hr
  refine wpAny_passesOwn hp (thn h4 fun _ s5 ⟨x,H5,I5,r5,y5,st5,fr5⟩ => ?_)
  have I5':=I5.pinned (stat fr5) (T.obj _ _ st5)
  refine wpAny_passesOwn hp (thn (hg _ s5 σ3 H5 x u _ I5' r5 (step x H5 y5)) fun _ s6 ⟨σ6,H6,I6,q6⟩ => ?_)
  refine wpAny_passesOwn hp (thn (hb _ s6 σ6 H6 _ I6 q6) fun f s7 q7 => ?_)
  have again:∀{σ7:St}{H7:Hp},Inv X (pins++pinsAt fp s5.heap) σ7 H7 s7->N σ7 H7->∃m,m<n/\∃i σ' H',Inv X pins σ' H' s7/\tn i s7.heap/\(∀b∈fp,H' b=none)/\W i m σ' H':=fun {σ7 H7} I7 n7=>by
   obtain⟨m',hm,w7⟩:=hN σ7 H7 n7
   refine⟨m',hm,i+1,σ7,H7,I7.unpinned,T.keep _ _ _ st5 fun b hb o e=>(I7.pin (b,o) (List.mem_append_right _ (List.mem_append_right _ (jO hb e)))).1,fun b hb => ?_,w7⟩
   obtain⟨o,e,d⟩:=T.obj _ _ st5 b hb
   exact (I7.pin (b,o) (List.mem_append_right _ (List.mem_append_right _ (jO hb e)))).2.1
  cases f with
  | next=>obtain⟨σ7,H7,I7,n7⟩:=q7;exact again I7 n7
  | cont=>obtain⟨σ7,H7,I7,n7⟩:=q7;exact again I7 n7
  | brk=>obtain⟨σ7,H7,I7,q7⟩:=q7;exact⟨σ7,H7,I7.unpinned,q7⟩
  | ret v=>obtain⟨x7,σ7,H7,I7,r7,q7⟩:=q7;exact⟨x7,σ7,H7,I7.unpinned,r7,q7⟩
end
theorem yX3 {lo:Int}{n:Nat}{g:TG}{tb:TS}{D:Ends}{σ:St}{H:Hp}(Pv:Nat->St->Hp->Prop) (h0:Pv 0 σ H)
  (hs:∀i σ H,i<n->Pv i σ H->g (.int (lo+i)) σ H fun σ2 H2=>tb { D with nx:=Pv (i+1),ct:=Pv (i+1),bk:=D.nx } σ2 H2) (hd:∀σ H,Pv n σ H->D.nx σ H) :
  ∃W:Nat->Nat->St->Hp->Prop,(∃m,W 0 m σ H)/\∀i m σ H,W i m σ H ->
   ((Itr lo n).stop i H/\D.nx σ H)\/((Itr lo n).go i H/\∃N:St->Hp->Prop,(∀σ' H',N σ' H'->∃m',m'<m/\W (i+1) m' σ' H')/\∀x H',(Itr lo n).yld i H x H'->g x σ H' fun σ2 H2=>tb { D with nx:=N,ct:=N,bk:=D.nx } σ2 H2):=by
 refine⟨fun i m σ H=>m=n-i/\i<=n/\Pv i σ H,⟨n,by simp,Nat.zero_le _,h0⟩,?_⟩
 rintro i m σ H ⟨rfl,hi,p⟩
 by_cases hlt:i<n
 ·refine .inr ⟨hlt,Pv (i+1),fun σ' H' p'=>⟨n-(i+1),by bv_omega,rfl,hlt,p'⟩,fun x H' y => ?_⟩
  obtain⟨e,y⟩:=y
  subst e y
  exact hs i σ _ hlt p
 ·have e:i=n:=by bv_omega
  subst e
  exact .inl ⟨Nat.le_refl _,hd σ H p⟩
abbrev R2:=V->V->Hp->VK->Prop
def OpR (X:Cx) (f:Value->Value->Sem Value) (r:R2):Prop :=
 ∀(pins:List (Addr×Obj)) (s:Shared) (σ:St) (H:Hp) (x y:V) (v u:Value) (Q:VK),Inv X pins σ H s->RelV x v->RelV y u->r x y H Q ->
  wpAny (model X.prog X.w) X.A (f v u) (EP X pins σ Q) X.xe s
def UnR (X:Cx) (f:Value->Sem Value) (r:V->Hp->VK->Prop):Prop :=
 ∀(pins:List (Addr×Obj)) (s:Shared) (σ:St) (H:Hp) (x:V) (v:Value) (Q:VK),Inv X pins σ H s->RelV x v->r x H Q ->
  wpAny (model X.prog X.w) X.A (f v) (EP X pins σ Q) X.xe s
def CallR (X:Cx) (f:Value) (r:List V->Hp->VK->Prop):Prop :=
 ∀(pins:List (Addr×Obj)) (s:Shared) (σ:St) (H:Hp) (xs:List V) (us:List Value) (Q:VK),Inv X pins σ H s->Vals xs us->r xs H Q ->
  wpAny (model X.prog X.w) X.A (call f us) (EP X pins σ Q) X.xe s
def tOp (r:R2) (ta tb:TE):TE:=fun σ H Q=>ta σ H fun x H1=>tb σ H1 fun y H2=>r x y H2 Q
def tUn (r:V->Hp->VK->Prop) (ta:TE):TE:=fun σ H Q=>ta σ H fun x H1=>r x H1 Q
def rI (C:Int->Int->Prop) (g:Int->Int->V):R2:=fun x y H Q=>∃i j,x=.int i/\y=.int j/\C i j/\Q (g i j) H
def rI0 (g:Int->Int->V):R2:=fun x y H Q=>∃i j,x=.int i/\y=.int j/\Q (g i j) H
def rU (g:Int->V):V->Hp->VK->Prop:=fun x H Q=>∃i,x=.int i/\Q (g i) H
section
variable {X:Cx}{a b c:Expr}{ta tb tc:TE}{pos:Pos}
theorem binT (ha:PE X a ta) (hb:PE X b tb){pins:List (Addr×Obj)}{s:Shared}{σ:St}{H:Hp}{R:V->V->Hp->Prop}(I:Inv X pins σ H s)
  (h:ta σ H fun x H1=>tb σ H1 fun y H2=>R x y H2){Q:Value->Shared->Prop}{f:Value->Value->Sem Value}
  (hf:∀v u s2 x y H2,Inv X pins σ H2 s2->RelV x v->RelV y u->R x y H2->wpAny (model X.prog X.w) X.A (f v u) Q X.xe s2) :
  wpAny (model X.prog X.w) X.A (eval a X.env) (fun v s₁=>wpAny (model X.prog X.w) X.A (eval b X.env) (fun u s₂=>wpAny (model X.prog X.w) X.A (f v u) Q X.xe s₂) X.xe s₁) X.xe s:=by
 refine thn (ha pins s σ H _ I h) fun v s1 ⟨x,H1,I1,r1,q1⟩ => ?_
 refine thn (hb pins s1 σ H1 _ I1 q1) fun u s2 ⟨y,H2,I2,r2,q2⟩ => ?_
 exact hf v u s2 x y H2 I2 r1 r2 q2
theorem xN4 {op:Operator}{r:R2}(ho:OpR X (binaryOp op) r) (ha:PE X a ta) (hb:PE X b tb):PE X (.BinOp a op b pos) (tOp r ta tb):=by
 intro pins s σ H Q I h
 exact wpAny_BinOp (binT ha hb I h fun v u s2 x y H2 I2 rx ry q=>ho pins s2 σ H2 x y v u Q I2 rx ry q)
theorem xP9 {op:UnaryOp}{r:V->Hp->VK->Prop}(ho:UnR X (unaryOp op) r) (ha:PE X a ta):PE X (.UnaryOp op a pos) (tUn r ta):=by
 intro pins s σ H Q I h
 exact UnaryOp_ (thn (ha pins s σ H _ I h) fun v s1 ⟨x,H1,I1,r1,q1⟩=>ho pins s1 σ H1 x v Q I1 r1 q1)
theorem opI {f:Value->Value->Sem Value}{C:Int->Int->Prop}{g:Int->Int->Int}
  (rule:∀(i j:Int) (t u:Tok) (s:Shared) (Q:Value->Shared->Prop) (E:Value->Shared->Prop),C i j->Q (.int (g i j) s.toks) { s with toks:=s.toks+1 }->wpAny (model X.prog X.w) X.A (f (.int i t) (.int j u)) Q E s) :
  OpR X f (rI C fun i j=>.int (g i j)):=by
 intro pins s σ H x y v u Q I rx ry h
 obtain⟨i,j,rfl,rfl,hc,q⟩:=h
 obtain⟨t,rfl⟩:=rx
 obtain⟨t',rfl⟩:=ry
 exact rule i j t t' s _ _ hc ⟨.int (g i j),H,I.tok _,⟨_,rfl⟩,q⟩
theorem opI0 {f:Value->Value->Sem Value}{g:Int->Int->Int}
  (rule:∀(i j:Int) (t u:Tok) (s:Shared) (Q:Value->Shared->Prop) (E:Value->Shared->Prop),Q (.int (g i j) s.toks) { s with toks:=s.toks+1 }->wpAny (model X.prog X.w) X.A (f (.int i t) (.int j u)) Q E s) :
  OpR X f (rI0 fun i j=>.int (g i j)):=by
 intro pins s σ H x y v u Q I rx ry h
 obtain⟨i,j,rfl,rfl,q⟩:=h
 obtain⟨t,rfl⟩:=rx
 obtain⟨t',rfl⟩:=ry
 exact rule i j t t' s _ _ ⟨.int (g i j),H,I.tok _,⟨_,rfl⟩,q⟩
theorem opB0 {f:Value->Value->Sem Value}{g:Int->Int->Bool}
  (rule:∀(i j:Int) (t u:Tok) (s:Shared) (Q:Value->Shared->Prop) (E:Value->Shared->Prop),Q (.bool (g i j)) s->wpAny (model X.prog X.w) X.A (f (.int i t) (.int j u)) Q E s) :
  OpR X f (rI0 fun i j=>.bl (g i j)):=by
 intro pins s σ H x y v u Q I rx ry h
 obtain⟨i,j,rfl,rfl,q⟩:=h
 obtain⟨t,rfl⟩:=rx
 obtain⟨t',rfl⟩:=ry
 exact rule i j t t' s _ _ ⟨.bl (g i j),H,I,rfl,q⟩
def CMul (i j:Int):Prop:=(-(2 ^ 64)<i/\i<2 ^ 64)\/(-(2 ^ 64)<j/\j<2 ^ 64)
theorem CMul.ok {i j:Int}(h:CMul i j):IntMulOk i j:=by
 rcases h with ⟨h1,h2⟩ | ⟨h1,h2⟩
 ·exact .of_left (intBits_le_64 h1 h2)
 ·exact .of_right (intBits_le_64 h1 h2)
theorem uT:OpR X (binaryOp .Add) (rI0 fun i j=>.int (i+j)):=opI0 fun _ _ _ _ _ _ _ q=>add_int q
theorem zM8:OpR X (binaryOp .Sub) (rI0 fun i j=>.int (i-j)):=opI0 fun _ _ _ _ _ _ _ q=>sub_int q
theorem uH:OpR X (binaryOp .Mod) (rI (fun _ j=>0<j) fun i j=>.int (i%j)):=opI fun i j _ _ _ _ _ hc q=>by
 have h1:(0:Int)<j:=hc
 exact mod_int' (by bv_omega) (by rw[Int.fmod_eq_emod_of_nonneg i (by bv_omega)];exact q)
theorem unI {f:Value->Sem Value}{g:Int->Int}
  (rule:∀(i:Int) (t:Tok) (s:Shared) (Q:Value->Shared->Prop) (E:Value->Shared->Prop),Q (.int (g i) s.toks) { s with toks:=s.toks+1 }->wpAny (model X.prog X.w) X.A (f (.int i t)) Q E s) :
  UnR X f (rU fun i=>.int (g i)):=by
 intro pins s σ H x v Q I rx h
 obtain⟨i,rfl,q⟩:=h
 obtain⟨t,rfl⟩:=rx
 exact rule i t s _ _ ⟨.int (g i),H,I.tok _,⟨_,rfl⟩,q⟩
theorem xV5:UnR X (unaryOp .USub) (rU fun i=>.int (-i)):=unI fun _ _ _ _ _ q=>neg_int q
end
section
variable {X:Cx}{a b c:Expr}{ta tb tc:TE}{pos:Pos}
theorem xR1:OpR X (compareOp .Lt) (rI0 fun i j=>.bl (decide (i<j))):=opB0 fun _ _ _ _ _ _ _ q=>lt_int q
theorem kA:OpR X (compareOp .LtE) (rI0 fun i j=>.bl (decide (i<=j))):=opB0 fun _ _ _ _ _ _ _ q=>le_int q
theorem zP7:OpR X (compareOp .Gt) (rI0 fun i j=>.bl (decide (j<i))):=opB0 fun _ _ _ _ _ _ _ q=>gt_int q
theorem xQ1:OpR X (compareOp .GtE) (rI0 fun i j=>.bl (decide (j<=i))):=opB0 fun _ _ _ _ _ _ _ q=>ge_int q
def isObj:HO->Bool
 | .lst _=>true
 | .ins _ _ _=>true
 | _=>false
theorem cX {pins:List (Addr×Obj)}{s:Shared}{σ:St}{H:Hp}{a:Addr}{o:HO}(I:Inv X pins σ H s) (h:H a=some o) (p:isObj o=true):∃ob,s.heap.get? a=some ob/\ob.cls ≠ .type "tuple":=by
 cases o with
 | lst xs =>
  obtain⟨_,its,n,_,e⟩:xs.length<=sizeLine/\∃(its:List Value) (n:Nat),Vals xs its/\s.heap.get? a=some { cls:=.type "list",data:=.seq its.toArray n }:=I.hok a _ h
  exact⟨_,e,(by show Value.type "list" ≠ .type "tuple";decide +kernel)⟩
 | ins C dx fs =>
  have x:=I.hok a _ h
  obtain⟨_,_,_,e,_⟩:=x
  exact⟨_,e,(by show Value.ref C ≠ .type "tuple";exact fun z=>by cases z)⟩
 | _=>exact absurd (show false=true from p) Bool.false_ne_true
theorem OpR.or {f:Value->Value->Sem Value}{r r':R2}(h:OpR X f r) (h':OpR X f r'):OpR X f (fun x y H Q=>r x y H Q\/r' x y H Q):=by
 intro pins s σ H x y v u Q I rx ry q
 rcases q with q | q
 ·exact h pins s σ H x y v u Q I rx ry q
 ·exact h' pins s σ H x y v u Q I rx ry q
theorem nomark (b:Expr){op:CmpOp}(h:autoParam (op ≠ .In) zG._auto_1) (h2:autoParam (op ≠ .NotIn) zG._auto_1):behindInMarks op b=false:=by
 have e1:(op == CmpOp.In)=false:=by cases op <;> first | rfl | exact absurd rfl h
 have e2:(op == CmpOp.NotIn)=false:=by cases op <;> first | rfl | exact absurd rfl h2
 cases b <;> simp[behindInMarks,e1,e2]
theorem yH4 {op:CmpOp}{r:R2}(ho:OpR X (compareOp op) r) (ha:PE X a ta) (hb:PE X b tb) (hm:behindInMarks op b=false):PE X (.Compare a [op] [b] pos) (tOp r ta tb):=by
 intro pins s σ H Q I h
 exact wpAny_Compare1 (binT ha hb I h fun v u s2 x y H2 I2 rx ry q=>ho pins s2 σ H2 x y v u Q I2 rx ry q) hm
def tTest (t:TE):TT:=fun σ H Q=>t σ H fun x H'=>∃k,x=.bl k/\Q k H'
theorem zD4 {op:CmpOp}{r:R2}(ho:OpR X (compareOp op) r) (ha:PE X a ta) (hb:PE X b tb) (hm:behindInMarks op b=false):PT X (.Compare a [op] [b] pos) (tTest (tOp r ta tb)):=by
 intro pins s σ H Q I h
 refine wpAny_isTrue_Compare1 (thn (ha pins s σ H _ I h) fun v s1 ⟨x,H1,I1,r1,q1⟩=>thn (hb pins s1 σ H1 _ I1 q1) fun u s2 ⟨y,H2,I2,r2,q2⟩ =>
  thn (ho pins s2 σ H2 x y v u _ I2 r1 r2 q2) fun c s3 ⟨z,H3,I3,r3,k,e,q3⟩ => ?_) hm
 subst e
 cases r3
 exact wpAny_truthy_bool ⟨H3,I3,q3⟩
def tChain (r r':R2) (ta tb tc:TE):TE:=fun σ H Q=>ta σ H fun x H1=>tb σ H1 fun y H2=>r x y H2 fun z H3=>∃k,z=.bl k /\
 (if k=true then tc σ H3 fun w' H4=>r' y w' H4 Q else Q (.bl false) H3)
theorem yO1 {op op':CmpOp}{r r':R2}(ho:OpR X (compareOp op) r) (ho':OpR X (compareOp op') r') (ha:PE X a ta) (hb:PE X b tb) (hc:PE X c tc)
  (hm:autoParam (lastMarks [op,op'] [b,c]=false) zX2._auto_1):PE X (.Compare a [op,op'] [b,c] pos) (tChain r r' ta tb tc):=by
 intro pins s σ H Q I h
 refine Compare_chain (thn (ha pins s σ H _ I h) fun v s1 ⟨x,H1,I1,r1,q1⟩=>chain_link (thn (hb pins s1 σ H1 _ I1 q1) fun u s2 ⟨y,H2,I2,r2,q2⟩ =>
  thn (ho pins s2 σ H2 x y v u _ I2 r1 r2 q2) fun d s3 ⟨z,H3,I3,r3,k,e,q3⟩ => ?_)) hm
 subst e
 cases r3
 refine wpAny_truthy_bool ?_
 cases k with
 | false=>exact ite_ff ⟨.bl false,H3,I3,rfl,q3⟩
 | true=>exact ite_tt (chain_last (thn (hc pins s3 σ H3 _ I3 q3) fun w' s4 ⟨z',H4,I4,r4,q4⟩=>ho' pins s4 σ H4 y z' u w' Q I4 r2 r4 q4))
theorem yK3 {op op':CmpOp}{r r':R2}(ho:OpR X (compareOp op) r) (ho':OpR X (compareOp op') r') (ha:PE X a ta) (hb:PE X b tb) (hc:PE X c tc)
  (hm:autoParam (lastMarks [op,op'] [b,c]=false) zX2._auto_1):PT X (.Compare a [op,op'] [b,c] pos) (tTest (tChain r r' ta tb tc)):=by
 intro pins s σ H Q I h
 refine isTrue_chain (thn (ha pins s σ H _ I h) fun v s1 ⟨x,H1,I1,r1,q1⟩=>test_link (thn (hb pins s1 σ H1 _ I1 q1) fun u s2 ⟨y,H2,I2,r2,q2⟩ =>
  thn (ho pins s2 σ H2 x y v u _ I2 r1 r2 q2) fun d s3 ⟨z,H3,I3,r3,k,e,q3⟩ => ?_)) hm
 subst e
 cases r3
 refine wpAny_truthy_bool ?_
 cases k with
 | false =>
  obtain⟨k',e',q'⟩:=q3
  cases e'
  exact ite_ff ⟨H3,I3,q'⟩
 | true =>
  refine ite_tt (test_last (thn (hc pins s3 σ H3 _ I3 q3) fun w' s4 ⟨z',H4,I4,r4,q4⟩=>thn (ho' pins s4 σ H4 y z' u w' _ I4 r2 r4 q4) fun d' s5 ⟨z2,H5,I5,r5,k2,e2,q5⟩ => ?_))
  subst e2
  cases r5
  exact wpAny_truthy_bool ⟨H5,I5,q5⟩
theorem line63:(sizeLine:Nat)<2 ^ 63:=by rw[sizeLine_eq];decide
theorem xK:OpR X (binaryOp .Add) (fun x y H Q=>∃i j,x=.str i/\y=.str j/\i.length+j.length<=sizeLine/\Q (.str (i++j)) H):=by
 intro pins s σ H x y v u Q I rx ry h
 obtain⟨i,j,rfl,rfl,hz,q⟩:=h
 obtain⟨t,rfl⟩:=rx
 obtain⟨t',rfl⟩:=ry
 exact add_str (fun t' tk=>⟨.str (i++j),H,I.tok _,⟨_,rfl⟩,q⟩) hz
theorem vals1 {x:V}{us:List Value}(r:Vals [x] us):∃u,us=[u]/\RelV x u:=by
 cases r with
 | cons r1 r2=>cases r2;exact⟨_,rfl,r1⟩
theorem vals2 {x y:V}{us:List Value}(r:Vals [x,y] us):∃u w',us=[u,w']/\RelV x u/\RelV y w':=by
 cases r with
 | cons r1 r2 =>
  cases r2 with
  | cons r3 r4=>cases r4;exact⟨_,_,rfl,r1,r3⟩
theorem yM2:CallR X (.builtin "abs") (fun xs H Q=>∃i,xs=[.int i]/\Q (.int (if i<0 then -i else i)) H):=by
 intro pins s σ H xs us Q I r h
 obtain⟨i,rfl,q⟩:=h
 obtain⟨u,rfl,t,rfl⟩:=vals1 r
 exact call_abs_int fun u tk=>⟨.int (if i<0 then -i else i),H,I.tok _,⟨_,rfl⟩,q⟩
theorem yE:CallR X (.type "str") (fun xs H Q=>∃i,xs=[.int i]/\i.natAbs.log2<1920/\Q (.str (toString i)) H):=by
 intro pins s σ H xs us Q I r h
 obtain⟨i,rfl,hz,q⟩:=h
 obtain⟨u,rfl,t,rfl⟩:=vals1 r
 exact PySem.P.str_of_int hz ⟨.str _,H,I.tok _,⟨_,rfl⟩,q⟩
end
structure ObjM (h:Heap) (x dx C:Addr) (mA:Str->Option Value):Prop where
 obj:h.get? x=some (PySem.W.instObj C dx)
 ns:h.Ns1 dx mA
 ne:dx≠x
theorem yS5 {h:Heap}{dx:Addr}{mA:Str->Option Value}(n:h.Ns1 dx mA):∃od,h.get? dx=some od/\∀name,PySem.W.lookIn name od=some (mA name):=by
 obtain⟨o,es,ep,ho,hd,hk,_,hm⟩:=n
 refine⟨o,ho,fun name => ?_⟩
 have e:=hm name
 unfold nsFind findBy at e
 rw[<-Array.find?_toList] at e
 unfold PySem.W.lookIn
 rw[hd]
 dsimp only
 split
 ·rename_i y q
  rw[q] at e
  exact congrArg some e
 ·rename_i q
  rw[q] at e
  have a:es.toList.any (·.refKey)=false:=by
   rw[List.any_eq_false]
   intro y hy
   obtain⟨z,t,hkey⟩:=hk y (Array.mem_toList_iff.mp hy)
   simp[DictEntry.refKey,hkey]
  have a':¬es.toList.any (·.refKey)=true:=by rw[a];exact Bool.false_ne_true
  rw[if_neg a']
  exact congrArg some e
theorem ObjM.look {h:Heap}{x dx C:Addr}{mA:Str->Option Value}(I:ObjM h x dx C mA):∃od,PySem.W.InstAt h x (PySem.W.instObj C dx) C (some od)/\∀name,PySem.W.lookIn name od=some (mA name) :=
 let ⟨od,ho,hl⟩:=yS5 I.ns
 ⟨od,⟨I.obj,rfl,rfl,ho⟩,hl⟩
section
variable {prog:Program}{w:World}{A:Around}{E:Value->Shared->Prop}{s:Shared}{K:KFr}{x dx C f:Addr}{mA:Str->Option Value}{name:Str}{v:Value}
end
theorem RelO.yB2 {o:Option Value}(r:RelO none o):o=none:=by
 cases o with
 | none=>rfl
 | some u=>exact (show False from r).elim
section
variable {P:Program}{w:World}{H H':Hp}{h h':Heap}{a C dx:Addr}{fs fs':List (Str×V)}
theorem yG2 (hok:HOk P w H h) (e:H a=some (.ins C dx fs)):∃mA,ObjM h a dx C mA/\(∀f,RelO (fs.lookup f) (mA f))/\PySem.Within mA (fs.map (·.1))/\fs.length<=1000/\H dx=some (.own a):=by
 obtain⟨d,z,ne,ob,mA,n,r,q⟩:=(show ObjOk P w H h a (.ins C dx fs) from hok a _ e)
 exact⟨mA,⟨ob,n,ne⟩,r,q,z,d⟩
end
structure Cls (K:KFr) (C:Addr):Prop where
 pg:PySem.W.plainGet K C Str.empty=true
 hd:PySem.W.hasDictIn K C=true
 po:PySem.W.plainOver K C=true
 sa:PySem.W.findIn K (.ref C) "__setattr__" = some (some (.builtin "object.__setattr__"))
theorem Cls.get {K:KFr}{C:Addr}(c:Cls K C) (f:Str):PySem.W.plainGet K C f=true:=c.pg
structure Con (K:KFr) (C:Addr) (f:Str) (v:V) (u:Value):Prop where
 at_:PySem.W.findIn K (.ref C) f=some (some u)
 rel:RelV v u
 get:PySem.W.specialIn K u "__get__" = some none
 cp:PySem.W.copiedNames.contains f=false
structure Meth (K:KFr) (C:Addr) (m:Str) (f:Addr):Prop where
 at_:PySem.W.findIn K (.ref C) m=some (some (.ref f))
 fn:PySem.W.isFn K (.ref f)=true
 kp:PySem.W.keepIn K (.ref f)=true
section
variable {X:Cx}{pins:List (Addr×Obj)}{σ:St}{H:Hp}{s:Shared}{a C dx:Addr}{fs:List (Str×V)}{f:Str}{v:V}{A:Around}{E:Value->Shared->Prop}
end
section
variable {X:Cx}{o e value:Expr}{f:Str}{pos pos' tpos:Pos}{ta tv:TE}
end
section
variable {X:Cx}{pins:List (Addr×Obj)}{σ:St}{H:Hp}{s:Shared}{A:Around}{E:Value->Shared->Prop}{Q:Value->Shared->Prop}{c:Value}{b:Bool}
inductive TyOf (K:KFr) (H:Hp):V->Value->Prop where
 | non:TyOf K H .non (.type "NoneType")
 | bl (x:Bool):TyOf K H (.bl x) (.type "bool")
 | int (i:Int):TyOf K H (.int i) (.type "int")
 | str (x:Str):TyOf K H (.str x) (.type "str")
 | flt (x:UInt64):TyOf K H (.flt x) (.type "float")
 | lst {a:Addr}{xs:List V}(e:H a=some (.lst xs)):TyOf K H (.ref a) (.type "list")
 | frz {a:Addr}{o:Obj}{xs:List V}(e:H a=some (.frz o (.lst xs))):TyOf K H (.ref a) (.type "list")
 | tup {a:Addr}{xs:List V}(e:H a=some (.tup xs)):TyOf K H (.ref a) (.type "tuple")
 | dK {a:Addr}{kvs:List (Key×V)}(e:H a=some (.dK kvs)):TyOf K H (.ref a) (.type "dict")
 | dT {a:Addr}{kvs:List (List Key×V)}(e:H a=some (.dT kvs)):TyOf K H (.ref a) (.type "dict")
 | ins {a C dx:Addr}{fs:List (Str×V)}(e:H a=some (.ins C dx fs)) (cl:Cls K C) (ha:PySem.W.findIn K (.ref C) "__class__" = some (some (.builtin "object.__class__")))
   (hn:PySem.W.specialIn K (.builtin "object.__class__") "__get__" = some (some (.builtin "getset_descriptor.__get__"))) (htk:PySem.W.takesIn K (.builtin "object.__class__")=some true)
   (hm:PySem.W.mroIn K C (.type "object")=some true):TyOf K H (.ref a) (.ref C)
theorem yS6 {x:V}{u t:Value}(I:Inv X pins σ H s) (rx:RelV x u) (ty:TyOf X.K H x t) (e:PySem.W.kitOne X.K t c=some b) (h:∀tk,Q (.bool b) { s with toks:=tk }) :
  wpAny (model X.prog X.w) A (call (.builtin "isinstance") [u,c]) Q E s:=by
 cases ty with
 | non=>cases (show u=Value.none from rx);exact PySem.W.kia_one PySem.W.kitx_none I.kIn True.intro e (fun z=>nomatch z) h
 | bl y=>cases (show u=Value.bool y from rx);exact PySem.W.kia_one PySem.W.kitx_bool I.kIn True.intro e (fun z=>nomatch z) h
 | int i=>obtain⟨t,q⟩:=(show ∃t,u=Value.int i t from rx);cases q;exact PySem.W.kia_one PySem.W.kitx_int I.kIn True.intro e (fun z=>nomatch z) h
 | str y=>obtain⟨t,q⟩:=(show ∃t,u=Value.str y t from rx);cases q;exact PySem.W.kia_one PySem.W.kitx_str I.kIn True.intro e (fun z=>nomatch z) h
 | flt y=>obtain⟨t,q⟩:=(show ∃t,u=Value.float y t from rx);cases q;exact PySem.W.kia_one PySem.W.kitx_float I.kIn True.intro e (fun z=>nomatch z) h
 | @lst a xs ea =>
  cases (show u=Value.ref a from rx)
  obtain⟨_,_,n,_,h1⟩:=(show ObjOk X.prog X.w H s.heap a (.lst xs) from I.hok a _ ea)
  exact PySem.W.kia_one PySem.W.kitx_list I.kIn ⟨_,h1,rfl⟩ e (fun z=>nomatch z) h
 | @frz a ob xs ea =>
  cases (show u=Value.ref a from rx)
  obtain⟨_,_,_,n,_,h1⟩:=(show ObjOk X.prog X.w H s.heap a (.frz ob (.lst xs)) from I.hok a _ ea)
  exact PySem.W.kia_one PySem.W.kitx_list I.kIn ⟨_,h1,rfl⟩ e (fun z=>nomatch z) h
 | @tup a xs ea =>
  cases (show u=Value.ref a from rx)
  obtain⟨_,_,_,p⟩:=(show ObjOk X.prog X.w H s.heap a (.tup xs) from I.hok a _ ea)
  obtain⟨o,h1,h2,_⟩:=p
  exact PySem.W.kia_one PySem.W.kitx_tuple I.kIn ⟨o,h1,h2⟩ e (fun z=>nomatch z) h
 | @dK a kvs ea =>
  cases (show u=Value.ref a from rx)
  obtain⟨_,_,vs,_,p⟩:=(show ObjOk X.prog X.w H s.heap a (.dK kvs) from I.hok a _ ea)
  obtain⟨o,es,ep,h1,h2,_⟩:=p
  exact PySem.W.kia_one PySem.W.kitx_dict I.kIn ⟨o,h1,h2.1⟩ e (fun z=>nomatch z) h
 | @dT a kvs ea =>
  cases (show u=Value.ref a from rx)
  obtain⟨_,_,xs,_,o,es,ep,h1,h2,_⟩:=(show ObjOk X.prog X.w H s.heap a (.dT kvs) from I.hok a _ ea)
  exact PySem.W.kia_one PySem.W.kitx_dict I.kIn ⟨o,h1,h2.1⟩ e (fun z=>nomatch z) h
 | @ins a C dx fs ea cl ha hn htk hm =>
  cases (show u=Value.ref a from rx)
  obtain⟨mA,O,_⟩:=yG2 I.hok ea
  obtain⟨od,J,_⟩:=O.look
  exact PySem.W.kia_one (PySem.W.kitx_own (cl.get _) cl.hd ha hn htk hm) I.kIn J e (fun z=>nomatch z) h
end
structure Room (k:Nat) (A:Around):Prop where
 hd:A.handled=none
 dp:A.depth+3*k+5<recursionLimit
 un:A.units+16*k+200<cLine
theorem Room.mono {j k:Nat}{A:Around}(r:Room k A) (h:j<=k):Room j A:=⟨r.hd,by have:=r.dp;bv_omega,by have:=r.un;bv_omega⟩
theorem Room.deeper {k:Nat}{A:Around}(r:Room (k+1) A) (env:Env):Room k (A.deeper env) :=
 ⟨r.hd,by have:=r.dp;show A.depth+1+3*k+5<_;bv_omega,by have:=r.un;show A.units+3+16*k+200<_;bv_omega⟩
theorem Room.in1 {k:Nat}{A:Around}(r:Room (k+1) A):Room k A.in1 :=
 ⟨r.hd,by have:=r.dp;show A.depth+3*k+5<_;bv_omega,by have:=r.un;show A.units+1+16*k+200<_;bv_omega⟩
theorem zB5 {A:Around}{C:Addr}{us:List Value}{kw:List (Str×Value)}:(A.under (.builtin "type.__call__" ⟨.ref C::us,kw⟩)).depth=A.depth+1:=by
 first | rfl | simp[Around.under,Code.weight,Code.isCreation,Code.isGuard,Code.isCaller,Code.frames,Code.isFrame,guardIds]
theorem yZ8 {A:Around}{C:Addr}{us:List Value}{kw:List (Str×Value)}:(A.under (.builtin "type.__call__" ⟨.ref C::us,kw⟩)).units=A.units+1:=by
 first | rfl | simp[Around.under,Code.cUnits,Code.frames,Code.isFrame]
theorem Room.make {k:Nat}{A:Around}(r:Room (k+1) A) (C:Addr) (us:List Value) (kw:List (Str×Value)):Room k (A.under (.builtin "type.__call__" ⟨.ref C::us,kw⟩)) :=
 ⟨r.hd,by have:=r.dp;rw[zB5];bv_omega,by have:=r.un;rw[yZ8];bv_omega⟩
theorem Room.depth {k:Nat}{A:Around}(r:Room k A):A.depth<recursionLimit:=by have:=r.dp;bv_omega
theorem Room.units {k:Nat}{A:Around}(r:Room k A):A.units+64<cLine:=by have:=r.un;bv_omega
def tNil:TA:=fun _ H Q=>Q [] H
def cI (ta:TE) (tr:TA):TA:=fun σ H Q=>ta σ H fun x H1=>tr σ H1 fun xs H2=>Q (x::xs) H2
section
variable {X:Cx}{e:Expr}{es:List Expr}{te:TE}{t:TA}{pos:Pos}
theorem wH:PA X [] tNil:=fun _ _ _ _ H Q I h=>Calls.spliced_nil ⟨[],H,I,.nil,h⟩
theorem wZ (ha:PE X e te) (hr:PA X es t) (hs:autoParam (starEach (e::es) X.env=(false,eval e X.env)::starEach es X.env) zW._auto_1):PA X (e::es) (cI te t):=by
 intro pos pins s σ H Q I h
 rw[hs]
 show wpAny _ _ (spliced ((false,eval e X.env)::backTo pos (starEach es X.env))) _ _ s
 refine Calls.spliced_cons (thn (ha pins s σ H _ I h) fun u s1 ⟨x,H1,I1,r1,q1⟩ => ?_)
 exact thn (hr pos pins s1 σ H1 _ I1 q1) fun us s2 ⟨xs,H2,I2,r2,q2⟩=>⟨x::xs,H2,I2,.cons r1 r2,q2⟩
def tTup (t:TA):TE:=fun σ H Q=>t σ H fun xs H1=>xs.length<=sizeLine/\∀p,H1 p=none->Q (.ref p) (upd H1 p (.tup xs))
def tLst (t:TA):TE:=fun σ H Q=>t σ H fun xs H1=>xs.length<=sizeLine/\∀p,H1 p=none->Q (.ref p) (upd H1 p (.lst xs))
theorem xZ9 {x1} (h:PA X es t):PE X (.Tuple es x1 pos) (tTup t):=by
 intro pins s σ H Q I hq
 refine wpAny_Tuple_spliced (thn (h pos pins s σ H _ I hq) fun us s1 ⟨xs,H1,I1,r,z,q⟩=>⟨by rw[<-r.length];exact z,?_⟩)
 have hf:H1 s1.heap.objs.size=none:=I1.hok.fresh (Nat.le_refl _)
 refine⟨.ref s1.heap.objs.size,upd H1 s1.heap.objs.size (.tup xs),I1.laid (t':=s1.toks) (fun b u e=>Heap.get?_push_of_some _ e) (Nat.le_refl _) ?_,rfl,q _ hf⟩
 exact⟨z,us,r,TupAt.new _ _⟩
theorem zJ1 (h:PA X es t):PE X (.List es pos) (tLst t):=by
 intro pins s σ H Q I hq
 refine wpAny_List_spliced (thn (h pos pins s σ H _ I hq) fun us s1 ⟨xs,H1,I1,r,z,q⟩=>⟨by rw[<-r.length];exact z,?_⟩)
 have hf:H1 s1.heap.objs.size=none:=I1.hok.fresh (Nat.le_refl _)
 refine⟨.ref s1.heap.objs.size,upd H1 s1.heap.objs.size (.lst xs),I1.laid (t':=s1.toks) (fun b u e=>Heap.get?_push_of_some _ e) (Nat.le_refl _) ?_,rfl,q _ hf⟩
 exact⟨z,us,0,r,Heap.get?_push_size _ rfl⟩
end
abbrev Sp:=List V->Hp->VK->XK->Prop
abbrev CXT:=List Env->Hp->Shared->XK->Value->Shared->Prop
structure Env0 (P:Program) (w:World) (K:KFr) (mg:Str->Option Value) (base:Heap) (A:Around) (outer:List Env) (s:Shared) (H:Hp):Prop where
 frames:A.frames=some outer
 mod:Mod K mg base
 bs:∀b o,base.get? b=some o->s.heap.get? b=some o/\H b=none
 bsz:base.objs.size<=s.heap.objs.size
 funs:s.heap.FunFrames base outer
 frf:∀b∈frs outer,H b=none
 hok:HOk P w H s.heap
 bare:AllBare s.gens
def CE (outer:List Env) (P:Program) (w:World) (H:Hp) (s:Shared) (Q:VK) (u:Value) (s':Shared):Prop :=
 ∃v H',s'.os=s.os/\AllBare s'.gens/\Un (frs outer) [] H H' s.heap s'.heap/\HOk P w H' s'.heap/\RelV v u/\Q v H'
def CR (CX:CXT) (outer:List Env) (P:Program) (w:World) (H:Hp) (s:Shared) (Q:VK) (E:XK) (r:Result) (s':Shared):Prop :=
 match r with
 | .ok (.ret u)=>CE outer P w H s Q u s'
 | .ok _=>False
 | .error e=>CX outer H s E e s'
structure FnOk (P:Program) (w:World) (K:KFr) (mg:Str->Option Value) (base:Heap) (CX:CXT) (k:Nat) (f:Addr) (fd:FuncData) (ps:List Str) (sp:Sp):Prop where
 len:∀vs H Q E,sp vs H Q E->vs.length=ps.length
 run:∀(A:Around) (outer:List Env) (s:Shared) (H:Hp) (args:Args) (us:List Value) (vs:List V) (Q:VK) (E:XK),Room k A->Env0 P w K mg base A outer s H->BindsTo s fd args (ps.zip us)->Vals vs us->sp vs H Q E ->
  codeAny (model P w) A (.call (.ref f) args) (CR CX outer P w H s Q E) s
theorem FnOk.mono {P:Program}{w:World}{K:KFr}{mg:Str->Option Value}{base:Heap}{CX:CXT}{j k:Nat}{f:Addr}{fd:FuncData}{ps:List Str}{sp:Sp}(F:FnOk P w K mg base CX j f fd ps sp) (h:j<=k) :
  FnOk P w K mg base CX k f fd ps sp:=⟨F.len,fun A outer s H args us vs Q E hr=>F.run A outer s H args us vs Q E (hr.mono h)⟩
theorem FnOk.imp {P:Program}{w:World}{K:KFr}{mg:Str->Option Value}{base:Heap}{CX:CXT}{k:Nat}{f:Addr}{fd:FuncData}{ps:List Str}{sp sp':Sp}(F:FnOk P w K mg base CX k f fd ps sp)
  (h:∀vs H Q E,sp' vs H Q E->sp vs H Q E):FnOk P w K mg base CX k f fd ps sp' :=
 ⟨fun vs H Q E q=>F.len vs H Q E (h _ _ _ _ q),fun A outer s H args us vs Q E hr he hb hv hs=>F.run A outer s H args us vs Q E hr he hb hv (h _ _ _ _ hs)⟩
theorem Env0.make {P:Program}{w:World}{K:KFr}{mg:Str->Option Value}{base:Heap}{A:Around}{outer:List Env}{s:Shared}{H:Hp}(e:Env0 P w K mg base A outer s H) (C:Addr) (us:List Value) (kw:List (Str×Value)) :
  Env0 P w K mg base (A.under (.builtin "type.__call__" ⟨.ref C::us,kw⟩)) outer s H:=⟨by first | exact e.frames | (simpa [Around.under,Code.envs,Code.isFrame,pushEnvs] using e.frames),e.mod,e.bs,e.bsz,e.funs,e.frf,e.hok,e.bare⟩
theorem Env0.in1 {P:Program}{w:World}{K:KFr}{mg:Str->Option Value}{base:Heap}{A:Around}{outer:List Env}{s:Shared}{H:Hp}(e:Env0 P w K mg base A outer s H) :
  Env0 P w K mg base A.in1 outer s H:=⟨e.frames,e.mod,e.bs,e.bsz,e.funs,e.frf,e.hok,e.bare⟩
section
variable {X:Cx}{pins:List (Addr×Obj)}{σ:St}{H:Hp}{s s':Shared}
theorem Inv.env0 (I:Inv X pins σ H s):Env0 X.prog X.w X.K X.mg X.base X.A X.stack s H :=
 ⟨I.ok.frames,I.ok.mod,I.bs,Nat.le_trans I.ok.bsz I.sz,I.stack,I.stkFree,I.hok,I.bare⟩
theorem Inv.after {Q:VK}{u:Value}(I:Inv X pins σ H s) (h:CE X.stack X.prog X.w H s Q u s'):EP X pins σ Q u s':=by
 obtain⟨v,H',os,bare,un,hok,r,q⟩:=h
 obtain⟨hh,g,d,t,os'⟩:=s'
 obtain rfl:os'=s.os:=os
 exact⟨v,H',I.call (h':=hh) (g':=g) (d':=d) (t':=t) (ch:=[]) un hok bare (fun b z=>absurd z (by simp)),r,q⟩
end
def tCall (sp:Sp) (dvs:List V) (E:XK) (t:TA):TE:=fun σ H Q=>t σ H fun vs H1=>sp (vs++dvs) H1 Q E
def Binds (K:KFr) (fd:FuncData) (ps:List Str) (ds:List Value):Prop :=
 ∀(s:Shared) (us:List Value),K.In s.heap->(us++ds).length=ps.length->BindsTo s fd ⟨us,[]⟩ (ps.zip (us++ds))
theorem Binds.all {K:KFr}{fd:FuncData}{ps:List Str}(h:∀us:List Value,us.length=ps.length->bindArgs fd ⟨us,[]⟩=pure (ps.zip us)):Binds K fd ps []:=fun s us _ hl=>by
 rw[List.append_nil] at hl ⊢
 exact .of_eq (h us hl)
def Passes (CX:CXT) (X:Cx) (E:XK):Prop:=∀(pins:List (Addr×Obj)) (σ:St) (H:Hp) (s:Shared) (e:Value) (s':Shared),Inv X pins σ H s->CX X.stack H s E e s'->X.xe e s'
section
variable {X:Cx}{CX:CXT}{k:Nat}{f C:Addr}{fd:FuncData}{ps:List Str}{sp:Sp}{dvs:List V}{ds:List Value}{E:XK}{x m:Str}{p pos apos:Pos}{e o:Expr}{es:List Expr}{ta:TE}{t:TA}
theorem yA4 {pins:List (Addr×Obj)}{σ:St}{H:Hp}{s:Shared}{Q:VK}{us:List Value}{vs:List V}(F:FnOk X.prog X.w X.K X.mg X.base CX k f fd ps sp) (hr:Room k X.A) (hb:Binds X.K fd ps ds) (hd:Vals dvs ds) (hx:Passes CX X E)
  (I:Inv X pins σ H s) (r:Vals vs us) (h:sp (vs++dvs) H Q E):wpAny (model X.prog X.w) X.A (call (.ref f) us) (EP X pins σ Q) X.xe s:=by
 have r2:Vals (vs++dvs) (us++ds):=r.append hd
 have hl:(us++ds).length=ps.length:=by rw[<-r2.length];exact F.len _ _ _ _ h
 refine wpAny_call (codeAny_mono (F.run X.A X.stack s H ⟨us,[]⟩ (us++ds) (vs++dvs) Q E hr I.env0 (hb s us I.kIn hl) r2 h) fun r s' hq => ?_)
 cases r with
 | error e=>exact hx pins σ H s e s' I hq
 | ok fl =>
  cases fl with
  | ret u=>exact I.after hq
  | next=>exact False.elim hq
  | brk=>exact False.elim hq
  | cont=>exact False.elim hq
theorem zC2 (F:FnOk X.prog X.w X.K X.mg X.base CX k f fd ps sp) (hr:Room k X.A) (hg:Gl X x) (hm:X.mg x=some (.ref f)) (hk:PySem.W.keepIn X.K (.ref f)=true) (hb:Binds X.K fd ps ds) (hd:Vals dvs ds) (hx:Passes CX X E)
  (ha:PA X (e::es) t) (hdb:autoParam ((x == ("__debug__":Str))=false) zG._auto_1) (he:autoParam (starEach (e::es) X.env=(false,eval e X.env)::starEach es X.env) zW._auto_1) (hpl:autoParam ((backTo pos (starEach es X.env)).any (·.1)=false) zW._auto_1) :
  PE X (.Call (.Name x p) (e::es) [] pos) (tCall sp dvs E t):=by
 intro pins s σ H Q I h
 refine wpAny_Call_Name_kw (zX3 I hg hm ?_ hdb)
 refine PySem.W.callWith_K (h₀:=X.base) I.ok.mod.kin hk (thn (ha pos pins s σ H _ I h) fun us s1 ⟨vs,H1,I1,r,q⟩=>⟨I1.kIn,?_⟩) he hpl
 exact yA4 F hr hb hd hx I1 r q
structure Mk (K:KFr) (C f:Addr):Prop where
 makes:PySem.W.makesIn K C=true
 init:PySem.W.findIn K (.ref C) "__init__" = some (some (.ref f))
 fn:PySem.W.isFn K (.ref f)=true
 kp:PySem.W.keepIn K (.ref C)=true
end
section
variable {X:Cx}{CX:CXT}{k:Nat}{f C:Addr}{fd:FuncData}{ps ks:List Str}{sp:Sp}{E:XK}{x m:Str}{p pos apos kpos:Pos}{e o:Expr}{es:List Expr}{kws:List Keyword}{te ta:TE}{t tk:TA}{nm:Option Str}
structure KBinds (K:KFr) (fd:FuncData) (ps ks:List Str) (g:List Value->List Value->List Value) (gV:List V->List V->List V):Prop where
 to:∀(s:Shared) (us ws:List Value),K.In s.heap->(g us ws).length=ps.length->BindsTo s fd ⟨us,ks.zip ws⟩ (ps.zip (g us ws))
 rel:∀{vs:List V}{us:List Value}{zs:List V}{ws:List Value},Vals vs us->Vals zs ws->Vals (gV vs zs) (g us ws)
variable {g:List Value->List Value->List Value}{gV:List V->List V->List V}
end
structure zK (N P:List Str) (sc:Scope):Prop where
 kind:sc.kind=.function
 co:sc.isCoroutine=false
 gen:sc.isGenerator=false
 nd:N.Nodup
 pre:N.take P.length=P
 par:∀x∈P,sc.names.lookup x=some .local \/ sc.names.lookup x=some .cell
 nofree:∀y∈sc.names,y.2 ≠ .free
theorem zT7 {kindOf:Str->Option NameKind}{x:Str}:∀{binds:List (Str×Value)}{m:Str->Option Value},(∀v,(x,v)∉binds)->bindL kindOf binds m x=m x
 | [],_,_=>rfl
 | (n,v)::r,m,h=>by
  unfold bindL
  rw[zT7 fun w hw=>h w (List.mem_cons_of_mem _ hw)]
  split
  ·have:x≠n:=by rintro rfl;exact h v List.mem_cons_self
   simp[this]
  ·rfl
theorem zS4 {kindOf:Str->Option NameKind}{x:Str}:∀{binds:List (Str×Value)}{m:Str->Option Value},(∀v,(x,v)∉binds)->bindC kindOf binds m x=m x
 | [],_,_=>rfl
 | (n,v)::r,m,h=>by
  unfold bindC
  rw[zS4 fun w hw=>h w (List.mem_cons_of_mem _ hw)]
  split
  ·rfl
  ·have:x≠n:=by rintro rfl;exact h v List.mem_cons_self
   simp[this]
theorem zT9 {kindOf:Str->Option NameKind}{x:Str}{v:Value}:∀{P:List Str}{vs:List Value}{i:Nat}{m:Str->Option Value},P.Nodup->P[i]?=some x->vs[i]?=some v->kindOf x=some .local ->
  bindL kindOf (P.zip vs) m x=some v
 | [],_,_,_,_,h,_,_=>by simp at h
 | _::_,[],_,_,_,_,h,_=>by simp at h
 | p::P,w::vs,0,m,nd,h1,h2,hk=>by
  simp at h1 h2;subst h1;subst h2
  show bindL kindOf ((p,w)::P.zip vs) m p=_
  unfold bindL
  rw[zT7 fun v hv=>(List.nodup_cons.mp nd).1 (List.of_mem_zip hv).1,if_pos hk]
  simp
 | p::P,w::vs,i+1,m,nd,h1,h2,hk=>by
  show bindL kindOf ((p,w)::P.zip vs) m x=_
  unfold bindL
  exact zT9 (i:=i) (List.nodup_cons.mp nd).2 (by simpa using h1) (by simpa using h2) hk
theorem zU2 {kindOf:Str->Option NameKind}{x:Str}{v:Value}:∀{P:List Str}{vs:List Value}{i:Nat}{m:Str->Option Value},P.Nodup->P[i]?=some x->vs[i]?=some v->kindOf x≠some .local ->
  bindC kindOf (P.zip vs) m x=some v
 | [],_,_,_,_,h,_,_=>by simp at h
 | _::_,[],_,_,_,_,h,_=>by simp at h
 | p::P,w::vs,0,m,nd,h1,h2,hk=>by
  simp at h1 h2;subst h1;subst h2
  show bindC kindOf ((p,w)::P.zip vs) m p=_
  unfold bindC
  rw[zS4 fun v hv=>(List.nodup_cons.mp nd).1 (List.of_mem_zip hv).1,if_neg hk]
  simp
 | p::P,w::vs,i+1,m,nd,h1,h2,hk=>by
  show bindC kindOf ((p,w)::P.zip vs) m x=_
  unfold bindC
  exact zU2 (i:=i) (List.nodup_cons.mp nd).2 (by simpa using h1) (by simpa using h2) hk
def start (N:List Str) (vs:List V):St:=vs.map some++List.replicate (N.length-vs.length) none
def cxOf (CX:CXT) (P:Program) (w:World) (K:KFr) (mg:Str->Option Value) (base:Heap) (N:List Str) (qual:Str) (scope:Scope) (f:Addr) (cd:Value) (A:Around) (outer:List Env) (s:Shared) (H:Hp) (E:XK):Cx where
 prog:=P
 w:=w
 K:=K
 mg:=mg
 base:=base
 A:=A.deeper (envOfC qual scope s.heap.objs.size f cd)
 N:=N
 s₀:=s
 H₀:=H
 env:=envOfC qual scope s.heap.objs.size f cd
 outer:=outer
 stack:=envOfC qual scope s.heap.objs.size f cd::outer
 ex:=[]
 calm:=true
 fn:=fun _=>true
 pn:=[]
 xe:=fun e s'=>wpAny (model P w) (A.deeper (envOfC qual scope s.heap.objs.size f cd)) (leaving (envOfC qual scope s.heap.objs.size f cd) e) (fun _ s''=>CX outer H s E e s'') (fun e' s''=>CX outer H s E e' s'') s'
theorem zJ5 {sc:Scope}{n:Nat}{x:Str}(h:sc.names.lookup x=some .cell):∃c,(cellsFrom n sc.names []).lookup x=some c:=by
 have q:=PySem.W.cellsFrom_some sc.names n [] (.inl h)
 exact Option.isSome_iff_exists.mp q
theorem yT5 {CX:CXT}{P:Program}{w:World}{K:KFr}{mg:Str->Option Value}{base:Heap}{N ps:List Str}{qual:Str}{scope:Scope}{f:Addr}{cd:Value}{A:Around}{outer:List Env}{s s1:Shared}{H:Hp}{E:XK}{us:List Value}{vs:List V}
  (S:zK N ps scope) (hd:A.handled=none) (e0:Env0 P w K mg base A outer s H) (hl:vs.length=ps.length) (r:Vals vs us)
  (x:InCallC s s.heap.objs.size (bindL (envOfC qual scope s.heap.objs.size f cd).kindOf (ps.zip us) fun _=>none) (cellsFrom (s.heap.objs.size+1) scope.names []) (bindC (envOfC qual scope s.heap.objs.size f cd).kindOf (ps.zip us) fun _=>none) s1) :
  Inv (cxOf CX P w K mg base N qual scope f cd A outer s H E) [] (start N vs) H s1:=by
 have hpl:ps.length<=N.length:=by have:=congrArg List.length S.pre;rw[List.length_take] at this;bv_omega
 obtain⟨h1,tk,rfl,hk⟩:=x.done
 have noA:∀b:Addr,b∉(cxOf CX P w K mg base N qual scope f cd A outer s H E).ex:=fun b z=>absurd (show b∈([]:List Addr) from z) (by simp)
 refine⟨⟨e0.mod,S.kind,rfl,rfl,Nat.le_refl _,fun y z c h1 h2 => ?_,fun y hy => ?_,fun y c _ h => ?_,fun _=>hd,Around.frames_deeper e0.frames,.inr ⟨rfl,rfl⟩,fun b z=>absurd z (noA b),e0.bs,e0.bsz,fun b _ _=>noA b,fun b z=>absurd z (noA b),e0.funs,e0.frf⟩,
  rfl,e0.bare,Un.kept hk,⟨_,x.toInCall.ns,fun i y v h1 h2 h3 => ?_⟩,fun y c h=>⟨_,x.cell y c h⟩,e0.hok.fresh (Nat.le_refl _),fun y c h => ?_,fun p hp=>absurd (show p∈([]:List (Addr×Obj)) from hp) (by simp),e0.hok.kept hk,?_⟩
 ·exact name_of_addr x.apart (PySem.mem_of_lookup h1) (PySem.mem_of_lookup h2)
 ·have hy:scope.names.lookup y=some .cell\/scope.names.lookup y=some .free:=hy
  rcases hy with hy | hy
  ·exact zJ5 hy
  ·exact absurd rfl (S.nofree _ (PySem.mem_of_lookup hy))
 ·exact Nat.le_of_lt (x.above y c (PySem.mem_of_lookup h))
 ·have hi:i<vs.length:=by
   unfold start at h2
   by_cases hi:i<vs.length
   ·exact hi
   ·rw[List.getElem?_append_right (by simpa using hi)] at h2
    rw[List.getElem?_replicate] at h2
    split at h2 <;> cases h2
  have ha:vs[i]?=some v:=by
   unfold start at h2
   rw[List.getElem?_append_left (by simpa using hi),List.getElem?_map] at h2
   cases e:vs[i]? with
   | none=>rw[e] at h2;cases h2
   | some a=>rw[e] at h2;cases h2;rfl
  obtain⟨u,hu,rv⟩:=r.get ha
  have hp:ps[i]?=some y:=by
   rw[<-S.pre,List.getElem?_take_of_lt (by bv_omega)];exact h1
  have ndP:ps.Nodup:=by rw[<-S.pre];exact S.nd.sublist (List.take_sublist _ _)
  refine⟨u,rv,?_⟩
  rcases S.par y (List.mem_of_getElem? hp) with k | k
  ·exact .inl ⟨k,zT9 ndP hp hu k⟩
  ·obtain⟨c,e⟩:=zJ5 (n:=s.heap.objs.size+1) k
   refine .inr ⟨.inl k,c,e,?_⟩
   have q:=x.cell y c e
   rw[zU2 ndP hp hu (by show scope.names.lookup y≠_;rw[k];decide)] at q
   exact q
 ·exact e0.hok.fresh (Nat.le_of_lt (x.above y c (PySem.mem_of_lookup h)))
 ·unfold start
  show _=N.length
  rw[List.length_append,List.length_map,List.length_replicate]
  bv_omega
theorem yY4 {CX:CXT}{P:Program}{w:World}{K:KFr}{mg:Str->Option Value}{base:Heap}{k:Nat}{f:Addr}{name qual:Str}{params:Arguments}{body:List Stmt}{scope:Scope}{dV kV doc pm cdv ct oc:Value}{an od:Option Addr}
  {osl:Array (Option Value)}{N ps:List Str}{sp:Sp}(lk:K.lookup f=some ⟨oc,od,.func (PySem.W.fnOf name qual params body scope dV kV doc pm an cdv ct),osl⟩) (hcd:PySem.W.codeIn K cdv qual=true) (S:zK N ps scope)
  (len:∀vs H Q E,sp vs H Q E->vs.length=ps.length)
  (hbody:∀(A:Around) (outer:List Env) (s:Shared) (H:Hp) (vs:List V) (Q:VK) (E:XK),Room k (A.deeper (envOfC qual scope s.heap.objs.size f cdv))->sp vs H Q E ->
   ∃t,PSs (cxOf CX P w K mg base N qual scope f cdv A outer s H E) body t/\t { nx:=fun _ H'=>Q .non H',rt:=Q } (start N vs) H) :
  FnOk P w K mg base CX (k+1) f (PySem.W.fnOf name qual params body scope dV kV doc pm an cdv ct) ps sp:=by
 refine⟨len,fun A outer s H args us vs Q E hr e0 hb r hsp => ?_⟩
 have hl:=len _ _ _ _ hsp
 have KX:K.In s.heap:=e0.mod.kin.keeps fun b o e=>(e0.bs b o e).1
 have lim:s.heap.NoLimit:=e0.mod.nolimit.keeps fun b o e=>(e0.bs b o e).1
 have hkind:∀y∈ps.zip us,scope.names.lookup y.1=some .local \/ (scope.names.lookup y.1=some .cell/\((cellsFrom (s.heap.objs.size+1) scope.names []).lookup y.1).isSome=true):=fun ⟨n,v⟩ hy=>by
  rcases S.par n (List.of_mem_zip hy).1 with q | q
  ·exact .inl q
  ·exact .inr ⟨q,PySem.W.cellsFrom_some _ _ _ (.inl q)⟩
 refine codeAny_call_function hr.depth (KX _ _ lk) rfl S.co S.gen rfl (PySem.W.codeRec_of KX hcd) (hb _ _ _ _ ?_)
 refine wpAny_newFunctionEnv_cells S.kind hkind fun env he s1 x => ?_
 subst he
 refine⟨lim.keeps x.toInCall.keep,codeAny_func ?_⟩
 obtain⟨t,ht,hq⟩:=hbody A outer s H vs Q E (hr.deeper _) hsp
 have I:Inv (cxOf CX P w K mg base N qual scope f cdv A outer s H E) [] (start N vs) H s1:=yT5 S hr.hd e0 hl r x
 refine wpAny_mono (ht [] s1 (start N vs) H _ I hq) (fun fl s' hs => ?_) fun e s' hs=>hs
 have fin:∀{σ':St}{H':Hp}{v:V}{u:Value},Inv (cxOf CX P w K mg base N qual scope f cdv A outer s H E) [] σ' H' s'->RelV v u->Q v H'->CE outer P w H s Q u s' :=
  fun {σ' H' v u} J rv q=>⟨v,H',J.os,J.bare,J.base,J.hok,rv,q⟩
 cases fl with
 | ret u =>
  obtain⟨v,σ',H',J,rv,q⟩:=hs
  exact fin J rv q
 | next =>
  obtain⟨σ',H',J,q⟩:=hs
  exact fin (v:=V.non) (u:=Value.none) J rfl q
 | brk =>
  obtain⟨_,_,_,q⟩:=hs
  exact False.elim q
 | cont =>
  obtain⟨_,_,_,q⟩:=hs
  exact False.elim q
section
variable {X:Cx}{x:Str}{p pos:Pos}{e:Expr}{es:List Expr}{t:TA}{id T:String}{r:List V->Hp->VK->Prop}
def tCB (r:List V->Hp->VK->Prop) (t:TA):TE:=fun σ H Q=>t σ H fun vs H1=>r vs H1 Q
theorem fZ (hc:CallR X (.builtin id) r) (hg:Gl X x) (hm:X.mg x=none) (hv:bootBuiltins x=some (.builtin id)) (ha:PA X (e::es) t) (hn:autoParam (x ≠ "__name__") zG._auto_1) (hdb:autoParam ((x == ("__debug__":Str))=false) zG._auto_1)
  (he:autoParam (starEach (e::es) X.env=(false,eval e X.env)::starEach es X.env) zW._auto_1) (hpl:autoParam ((backTo pos (starEach es X.env)).any (·.1)=false) zW._auto_1):PE X (.Call (.Name x p) (e::es) [] pos) (tCB r t):=by
 intro pins s σ H Q I h
 refine wpAny_Call_Name_kw (dJ I hg hm hv ?_ hn hdb)
 exact PyProof.Rows.callWith_builtin1 (thn (ha pos pins s σ H _ I h) fun us s1 ⟨vs,H1,I1,r1,q1⟩=>hc pins s1 σ H1 vs us Q I1 r1 q1) he hpl
theorem dN (hc:CallR X (.type T) r) (hg:Gl X x) (hm:X.mg x=none) (hv:bootBuiltins x=some (.type T)) (ha:PA X (e::es) t) (hn:autoParam (x ≠ "__name__") zG._auto_1) (hdb:autoParam ((x == ("__debug__":Str))=false) zG._auto_1)
  (he:autoParam (starEach (e::es) X.env=(false,eval e X.env)::starEach es X.env) zW._auto_1) (hpl:autoParam ((backTo pos (starEach es X.env)).any (·.1)=false) zW._auto_1):PE X (.Call (.Name x p) (e::es) [] pos) (tCB r t):=by
 intro pins s σ H Q I h
 refine wpAny_Call_Name_kw (dJ I hg hm hv ?_ hn hdb)
 exact PyProof.Rows.callWith_type1 (thn (ha pos pins s σ H _ I h) fun us s1 ⟨vs,H1,I1,r1,q1⟩=>hc pins s1 σ H1 vs us Q I1 r1 q1) he hpl
end
end L2
namespace HT
open PySem PyProof.Rows
section
open PySem.SeqAt
open PySem.AutoSeq1 (wpAny_loadPart')
open PySem.MeetsSeq PySem.MeetsSeq2 PySem.MeetsSeq3
end
section
variable {prog:Program}{w:World}{A:Around}{E:Value->Shared->Prop}{s:Shared}
def sIx (n d:Nat):Option Int->Nat
 | none=>d
 | some v=>if v<0 then (v+(n:Int)).toNat else min v.toNat n
theorem yO2 (n d:Nat):sIx n d none=d:=rfl
theorem zV2 (n d k:Nat):sIx n d (some (k:Int))=min k n:=by
 show (if (k:Int)<0 then ((k:Int)+(n:Int)).toNat else min (k:Int).toNat n)=min k n
 rw[if_neg (by bv_omega),Int.toNat_natCast]
theorem xT3 (n d:Nat) (hd:d<=n) (o:Option Int):sIx n d o<=n:=by
 cases o with
 | none=>exact hd
 | some v =>
  show (if v<0 then (v+(n:Int)).toNat else min v.toNat n)<=n
  by_cases hv:v<0
  ·rw[if_pos hv];bv_omega
  ·rw[if_neg hv];exact Nat.min_le_right _ _
theorem zF5 (v:Int) (n d:Nat):(if v<0 then max (v+(n:Int)) 0 else min v (n:Int))=((sIx n d (some v):Nat):Int):=by
 show (if v<0 then max (v+(n:Int)) 0 else min v (n:Int))=(((if v<0 then (v+(n:Int)).toNat else min v.toNat n):Nat):Int)
 by_cases hv:v<0
 ·simp only[if_pos hv];bv_omega
 ·simp only[if_neg hv];bv_omega
theorem zA3 (lo hi:Option Int) (n:Nat):Builtin.Slice.sliceAdjust lo hi 1 (n:Int)=(((sIx n 0 lo:Nat):Int),((sIx n n hi:Nat):Int)):=by
 have h1:¬((1:Int)<0):=by bv_omega
 unfold Builtin.Slice.sliceAdjust
 simp only[h1,if_false]
 refine Prod.ext ?_ ?_
 ·cases lo with
  | none=>rfl
  | some v=>exact zF5 v n 0
 ·cases hi with
  | none=>rfl
  | some v=>exact zF5 v n n
theorem zB8 (i j:Nat):Builtin.Slice.slicePlaces (i:Int) (j:Int) 1=j-i:=by
 unfold Builtin.Slice.slicePlaces
 have h1:(1:Int) > 0:=by bv_omega
 simp only[h1,if_true,Int.ediv_one]
 split <;> bv_omega
theorem zX1 {v:Value}{o:Option Int}{Q:Option Int->Shared->Prop}(p:IsPart v o) (h:Q o s):wpAny (model prog w) A (Builtin.Slice.slicePartIndex v) Q E s:=by
 cases p with
 | none=>exact slicePart_none h
 | int i t=>exact slicePart_int h
theorem kY {sl:Addr}{vl vu:Value}{lo hi:Option Int}{n:Nat}{Q:Int×Int×Nat->Shared->Prop}(hs:s.heap.IsSliceOf sl vl vu .none) (pl:IsPart vl lo) (pu:IsPart vu hi)
  (h:Q (((sIx n 0 lo:Nat):Int),1,sIx n n hi-sIx n 0 lo) s):wpAny (model prog w) A (Builtin.Slice.sliceApplied (.ref sl) (pure (n:Int))) Q E s:=by
 obtain⟨os,hos,hcs,hds⟩:=id hs
 unfold Builtin.Slice.sliceApplied Builtin.Slice.sliceFields
 refine wpAny_bind (wpAny_bind (wpAny_field hos hds (x:=vl) rfl (wpAny_bind (wpAny_field hos hds (x:=vu) rfl (wpAny_bind (wpAny_field hos hds (x:=.none) rfl (wpAny_pure ?_)))))))
 refine wpAny_bind (slicePart_none ?_)
 show wpAny _ _ (if ((1:Int) == 0)=true then _ else _) _ _ s
 rw[if_neg (by decide)]
 refine wpAny_bind (zX1 pl (wpAny_bind (zX1 pu (wpAny_bind (wpAny_pure ?_)))))
 show wpAny _ _ (match Builtin.Slice.sliceAdjust lo hi 1 (n:Int) with | (lo,hi)=>pure (lo,(1:Int),Builtin.Slice.slicePlaces lo hi 1)) _ _ s
 rw[zA3 lo hi n]
 show wpAny _ _ (pure (((sIx n 0 lo:Nat):Int),(1:Int),Builtin.Slice.slicePlaces ((sIx n 0 lo:Nat):Int) ((sIx n n hi:Nat):Int) 1)) _ _ s
 rw[zB8]
 exact wpAny_pure h
theorem yO9 (xs:Array Value) (i k:Nat):((List.range k).filterMap fun (m:Nat)=>xs[((i:Int)+(m:Int)*1).toNat]?).toArray=((xs.toList.drop i).take k).toArray:=by
 have e:(fun (m:Nat)=>xs[((i:Int)+(m:Int)*1).toNat]?)=fun m=>xs[i+m]?:=by
  funext m
  have:((i:Int)+(m:Int)*1).toNat=i+m:=by bv_omega
  rw[this]
 rw[e]
 have:=pick_run xs i k
 rw[List.filterMap_map] at this
 have e2:((fun x=>xs[x]?)∘fun x=>i+x)=fun m=>xs[i+m]?:=rfl
 rw[e2] at this
 rw[this]
theorem cG {t sl:Addr}{items:Array Value}{vl vu:Value}{lo hi:Option Int}{Q:Value->Shared->Prop}(ht:IsTup s.heap t items) (hs:s.heap.IsSliceOf sl vl vu .none) (pl:IsPart vl lo) (pu:IsPart vu hi)
  (hw:¬(sIx items.size 0 lo=0/\sIx items.size items.size hi=items.size))
  (h:Q (.ref s.heap.objs.size) { s with heap:=s.heap.push { cls:=.type "tuple",data:=.seq ((items.toList.drop (sIx items.size 0 lo)).take (sIx items.size items.size hi-sIx items.size 0 lo)).toArray } })
  (hsz:items.size<=sizeLine):wpAny (model prog w) A (getItem (.ref t) (.ref sl)) Q E s:=by
 have htake:sizeOk (.seq ((items.toList.drop (sIx items.size 0 lo)).take (sIx items.size items.size hi-sIx items.size 0 lo)).toArray):=by
  show ((items.toList.drop (sIx items.size 0 lo)).take (sIx items.size items.size hi-sIx items.size 0 lo)).toArray.size<=sizeLine
  rw[List.size_toArray,List.length_take,List.length_drop,Array.length_toList]
  bv_omega
 have hj:sIx items.size items.size hi<=items.size:=xT3 _ _ (Nat.le_refl _) hi
 obtain⟨os,hos,hcs,hds⟩:=id hs
 have hTs:s.TypeIs (.ref sl) "slice":=⟨os,hos,hcs⟩
 unfold getItem
 try with_reducible refine wpAny_holding ?_
 first | refine wpAny_bind (wpAny_pure ?_) | skip
 refine wpAny_bind (wpAny_sequenceKey ht.typeIs (by decide) ?_)
 refine wpAny_bind (wpAny_callSpecial?_slot (name:=Str.ofString "__getitem__") ht.typeIs PyProof.Rows.slot_tuple_getitem
  (wpAny_call_entry PyProof.Rows.slot_tuple_getitem ht.typeIs entry_tuple_getitem ?_ (args_tuple_getitem _ _)))
 show wpAny _ _ (Builtin.Tuple.tupleItemsOf (.ref t) >>= _) _ _ s
 refine wpAny_bind (tupleItemsOf_ ht ?_)
 refine wpAny_bind (wpAny_typeOf hTs ?_)
 rw[if_pos (by decide)]
 refine wpAny_bind (kY hs pl pu ?_)
 have hno:¬((((sIx items.size 0 lo:Nat):Int) == 0&&(1:Int) == 1&&(sIx items.size items.size hi-sIx items.size 0 lo) == items.size)=true):=by
  intro q
  rw[Bool.and_eq_true,Bool.and_eq_true] at q
  have q1:((sIx items.size 0 lo:Nat):Int)=0:=eq_of_beq q.1.1
  have q2:sIx items.size items.size hi-sIx items.size 0 lo=items.size:=eq_of_beq q.2
  exact hw ⟨by bv_omega,by bv_omega⟩
 show wpAny _ _ (if (((sIx items.size 0 lo:Nat):Int) == 0&&(1:Int) == 1&&(sIx items.size items.size hi-sIx items.size 0 lo) == items.size)=true then _ else _) _ _ s
 rw[if_neg hno,yO9]
 first
  | exact wpAny_bind (m:=Builtin.Tuple.tupleExact _) (wpAny_newObj_type (wpAny_pure ⟨_,rfl,wpAny_pure h⟩) htake)
  | exact wpAny_bind (m:=Builtin.Tuple.tupleExact _) (wpAny_newObj_type (wpAny_bind (wpAny_pure (wpAny_pure ⟨_,rfl,wpAny_pure h⟩))) htake)
  | exact wpAny_bind (wpAny_bind (m:=Builtin.Tuple.tupleExact _) (wpAny_newObj_type (wpAny_pure (wpAny_pure ⟨_,rfl,wpAny_pure h⟩)) htake))
  | exact wpAny_bind (wpAny_bind (m:=Builtin.Tuple.tupleExact _) (wpAny_newObj_type (wpAny_pure ⟨_,rfl,wpAny_pure h⟩) htake))
end
end HT
namespace L2
open PySem PySem.Spec PyProof.Rows
abbrev TO:=St->Hp->(Option Int->Hp->Prop)->Prop
def PO (X:Cx) (e:Option Expr) (t:TO):Prop :=
 ∀(pins:List (Addr×Obj)) (s:Shared) (σ:St) (H:Hp) (Q:Option Int->Hp->Prop),Inv X pins σ H s->t σ H Q ->
  wpAny (model X.prog X.w) X.A (evalPart e X.env) (fun u s'=>∃o H',Inv X pins σ H' s'/\IsPart u o/\Q o H') X.xe s
def tNoPart:TO:=fun _ H Q=>Q none H
def tPart (t:TE):TO:=fun σ H Q=>t σ H fun x H1=>∃i,x=.int i/\Q (some i) H1
theorem jK {ns:List Int}:∀{us:List Value},Vals (ns.map V.int) us->IntsAre us ns:=by
 induction ns with
 | nil=>intro us r;rw[List.map_nil] at r;cases r;exact .nil
 | cons n ns ih =>
  intro us r
  rw[List.map_cons] at r
  cases r with
  | cons r1 r2 =>
   obtain⟨t,e⟩:=r1
   subst e
   exact .cons n t (ih r2)
section
variable {X:Cx}{e:Expr}{te:TE}{lo hi:Option Expr}{tl th:TO}{pos p2:Pos}
theorem yC7:PO X none tNoPart:=by
 intro pins s σ H Q I h
 rw[evalPart_none]
 exact wpAny_pure ⟨none,H,I,.none,h⟩
theorem yH1 (h:PE X e te):PO X (some e) (tPart te):=by
 intro pins s σ H Q I hw
 rw[evalPart_some]
 refine thn (h pins s σ H _ I hw) fun u s1 ⟨x,H1,I1,r1,q1⟩ => ?_
 obtain⟨i,rfl,q⟩:=q1
 obtain⟨t,rfl⟩:=r1
 exact⟨some i,H1,I1,.int i t,q⟩
def SlR (X:Cx) (r:V->Option Int->Option Int->Hp->VK->Prop):Prop :=
 ∀(pins:List (Addr×Obj)) (s:Shared) (σ:St) (H:Hp) (x:V) (v vl vu:Value) (lo hi:Option Int) (sl:Addr) (Q:VK),Inv X pins σ H s->RelV x v->s.heap.IsSliceOf sl vl vu .none->IsPart vl lo->IsPart vu hi->r x lo hi H Q ->
  ∃T id,typeLookup (.type T) "__getitem__" = pure (some (.builtin id))/\s.TypeIs v T/\wpAny (model X.prog X.w) X.A (getItem v (.ref sl)) (EP X pins σ Q) X.xe s
theorem SlR.or {r r':V->Option Int->Option Int->Hp->VK->Prop}(h:SlR X r) (h':SlR X r'):SlR X (fun x lo hi H Q=>r x lo hi H Q\/r' x lo hi H Q):=by
 intro pins s σ H x v vl vu lo hi sl Q I rx hs pl pu q
 rcases q with q | q
 ·exact h pins s σ H x v vl vu lo hi sl Q I rx hs pl pu q
 ·exact h' pins s σ H x v vl vu lo hi sl Q I rx hs pl pu q
def tSl (r:V->Option Int->Option Int->Hp->VK->Prop) (te:TE) (tl th:TO):TE:=fun σ H Q=>te σ H fun x H1=>tl σ H1 fun l H2=>th σ H2 fun u H3=>r x l u H3 Q
theorem yK2 {r:V->Option Int->Option Int->Hp->VK->Prop}(hr:SlR X r) (he:PE X e te) (hl:PO X lo tl) (hu:PO X hi th):PE X (.Subscript e (.Slice lo hi none p2) pos) (tSl r te tl th):=by
 intro pins s σ H Q I h
 refine Subscript_ (thn (he pins s σ H _ I h) fun v s1 ⟨x,H1,I1,r1,q1⟩ => ?_)
 refine wpAny_Slice (thn (hl pins s1 σ H1 _ I1 q1) fun vl s2 ⟨l,H2,I2,pl,q2⟩=>thn (hu pins s2 σ H2 _ I2 q2) fun vu s3 ⟨u,H3,I3,pu,q3⟩ => ?_)
 rw[evalPart_none]
 refine wpAny_pure ?_
 have I4:Inv X pins σ H3 { s3 with heap:=s3.heap.push { cls:=.type "slice",data:=.fields #[vl,vu,.none] } }:=I3.kept (t':=s3.toks) fun b ob q=>Heap.get?_push_of_some _ q
 obtain⟨T,id,hT,ht,hg⟩:=hr pins { s3 with heap:=s3.heap.push { cls:=.type "slice",data:=.fields #[vl,vu,.none] } } σ H3 x v vl vu l u s3.heap.objs.size Q I4 r1 (Heap.IsSliceOf.new ..) pl pu q3
 show wpAny (model X.prog X.w) X.A (subscriptTail e (.Slice lo hi none p2) v (.ref s3.heap.objs.size)) (EP X pins σ Q) X.xe { s3 with heap:=s3.heap.push { cls:=.type "slice",data:=.fields #[vl,vu,.none] } }
 exact tail_any (ops:=[.ref s3.heap.objs.size,v]) ht hT hg (by with_unfolding_all rfl)
def cutV (xs:List V) (lo hi:Option Int):List V:=(xs.drop (HT.sIx xs.length 0 lo)).take (HT.sIx xs.length xs.length hi-HT.sIx xs.length 0 lo)
theorem bW (xs:List V) (lo hi:Option Int):(cutV xs lo hi).length<=xs.length:=by
 unfold cutV
 rw[List.length_take,List.length_drop]
 bv_omega
def rSlT (K:KFr):V->Option Int->Option Int->Hp->VK->Prop:=fun x lo hi H Q=>∃a xs,x=.ref a/\SqT K H a xs /\
 ¬(HT.sIx xs.length 0 lo=0/\HT.sIx xs.length xs.length hi=xs.length)/\∀p,H p=none->Q (.ref p) (upd H p (.tup (cutV xs lo hi)))
theorem xV1:SlR X (rSlT X.K):=by
 intro pins s σ H x v vl vu lo hi sl Q I rx hs pl pu h
 obtain⟨a,xs,rfl,hx,hw,q⟩:=h
 cases rx
 obtain⟨its,r,ht,hz⟩:=I.tuple hx
 have hlen:its.toArray.size=xs.length:=by rw[List.size_toArray];exact r.length.symm
 refine⟨"tuple",_,PyProof.Rows.slot_tuple_getitem.lookup,ht.typeIs,?_⟩
 refine HT.cG ht hs pl pu (by rw[hlen];exact hw) ?_ (by rw[hlen];exact hz)
 rw[hlen]
 refine⟨.ref s.heap.objs.size,_,I.laid (t':=s.toks) (o:=.tup (cutV xs lo hi)) (fun b ob q=>Heap.get?_push_of_some _ q) (Nat.le_refl _) ?_,rfl,q _ (I.hok.fresh (Nat.le_refl _))⟩
 exact⟨Nat.le_trans (bW xs lo hi) hz,_,(r.drop (HT.sIx xs.length 0 lo)).take (HT.sIx xs.length xs.length hi-HT.sIx xs.length 0 lo),TupAt.new _ _⟩
end
def ixN (n:Nat) (i:Int):Option Nat:=if 0<=i then (if i<n then some i.toNat else none) else if -(n:Int)<=i then some (i+n).toNat else none
def atI {α:Type}(xs:List α) (i:Int):Option α:=(ixN xs.length i).bind fun j=>xs[j]?
theorem zF3 {n:Nat}{i:Int}{j:Nat}(h:ixN n i=some j):seqIndex? i n=some j/\j<n/\-(n:Int)<=i/\i<n:=by
 unfold ixN at h
 by_cases h0:0<=i
 ·rw[if_pos h0] at h
  by_cases h1:i<n
  ·rw[if_pos h1] at h
   have e:i.toNat=j:=Option.some.inj h
   exact⟨by rw[seqIndex_of h0 h1,e],by bv_omega,by bv_omega,h1⟩
  ·rw[if_neg h1] at h;cases h
 ·rw[if_neg h0] at h
  by_cases h1:-(n:Int)<=i
  ·rw[if_pos h1] at h
   have e:(i+n).toNat=j:=Option.some.inj h
   exact⟨by rw[seqIndex_neg (by bv_omega) h1,e],by bv_omega,h1,by bv_omega⟩
  ·rw[if_neg h1] at h;cases h
theorem zW9 {α:Type}{xs:List α}{i:Int}{v:α}(h:atI xs i=some v):∃j,seqIndex? i xs.length=some j/\xs[j]?=some v/\j<xs.length/\-(xs.length:Int)<=i/\i<xs.length:=by
 unfold atI at h
 cases e:ixN xs.length i with
 | none=>rw[e] at h;cases h
 | some j =>
  rw[e] at h
  obtain⟨h1,h2,h3,h4⟩:=zF3 e
  exact⟨j,h1,h,h2,h3,h4⟩
theorem jF {α:Type}{xs:List α}{j:Nat}{v:α}(h:xs[j]?=some v):atI xs (j:Int)=some v:=by
 have hj:j<xs.length:=(List.getElem?_eq_some_iff.mp h).1
 have e:ixN xs.length (j:Int)=some j:=by
  unfold ixN
  rw[if_pos (by bv_omega),if_pos (by bv_omega)];simp
 unfold atI;rw[e];exact h
theorem yK9 {α:Type}(xs:List α) (v:α):atI (xs ++ [v]) (-1)=some v:=by
 have hl:(xs ++ [v]).length=xs.length+1:=by simp
 have e:ixN (xs ++ [v]).length (-1)=some xs.length:=by
  unfold ixN
  rw[hl,if_neg (by decide),if_pos (by bv_omega)]
  congr 1
  bv_omega
 unfold atI
 rw[e]
 show (xs ++ [v])[xs.length]?=some v
 simp
def PlainIx (b:Expr):Prop:=∀o i,subscripted b false o i=operate [o,i] (getItem o i)
def IxR (X:Cx) (r:R2):Prop :=
 ∀(value slice:Expr) (pins:List (Addr×Obj)) (s:Shared) (σ:St) (H:Hp) (x y:V) (v u:Value) (Q:VK),Inv X pins σ H s->RelV x v->RelV y u->r x y H Q ->
  subscripted slice false v u=operate [v,u] (getItem v u)->wpAny (model X.prog X.w) X.A (subscriptTail value slice v u) (EP X pins σ Q) X.xe s
def MtR (X:Cx) (id:String) (r:V->List V->Hp->VK->Prop):Prop :=
 ∀(pins:List (Addr×Obj)) (s:Shared) (σ:St) (H:Hp) (x:V) (xs:List V) (v:Value) (us:List Value) (Q:VK),Inv X pins σ H s->RelV x v->Vals xs us->r x xs H Q ->
  wpAny (model X.prog X.w) X.A (call (.builtin id) (v::us)) (EP X pins σ Q) X.xe s
section
variable {X:Cx}{a b:Expr}{ta tb:TE}{pos:Pos}
theorem IxR.or {r r':R2}(h:IxR X r) (h':IxR X r'):IxR X (fun x y H Q=>r x y H Q\/r' x y H Q):=by
 intro value slice pins s σ H x y v u Q I rx ry q hs
 rcases q with q | q
 ·exact h value slice pins s σ H x y v u Q I rx ry q hs
 ·exact h' value slice pins s σ H x y v u Q I rx ry q hs
theorem MtR.or {id:String}{r r':V->List V->Hp->VK->Prop}(h:MtR X id r) (h':MtR X id r'):MtR X id (fun x xs H Q=>r x xs H Q\/r' x xs H Q):=by
 intro pins s σ H x xs v us Q I rx rs q
 rcases q with q | q
 ·exact h pins s σ H x xs v us Q I rx rs q
 ·exact h' pins s σ H x xs v us Q I rx rs q
theorem yI3 {r:R2}(hr:IxR X r) (ha:PE X a ta) (hb:PE X b tb) (hs:PlainIx b):PE X (.Subscript a b pos) (tOp r ta tb):=by
 intro pins s σ H Q I h
 exact Subscript_ (binT ha hb I h fun v u s2 x y H2 I2 rx ry q=>hr a b pins s2 σ H2 x y v u Q I2 rx ry q (hs _ _))
def rIxL (K:KFr):R2:=fun x y H Q=>∃p xs i v,x=.ref p/\y=.int i/\SqL K H p xs/\atI xs i=some v/\Q v H
def rIxT (K:KFr):R2:=fun x y H Q=>∃p xs i v,x=.ref p/\y=.int i/\SqT K H p xs/\atI xs i=some v/\Q v H
def rIxS:R2:=fun x y H Q=>∃z i c,x=.str z/\y=.int i/\z.length<=sizeLine/\atI z.cps.toList i=some c/\Q (.str ⟨#[c]⟩) H
theorem yC1:IxR X (rIxL X.K):=by
 intro value slice pins s σ H x y v u Q I rx ry h hs
 obtain⟨p,xs,i,z,rfl,rfl,hq,he,q⟩:=h
 cases rx
 obtain⟨t,rfl⟩:=ry
 obtain⟨its,r,pl,hz⟩:=I.list hq
 obtain⟨j,h1,h2,h3,h4,h5⟩:=zW9 he
 obtain⟨w,ew,rw'⟩:=r.get h2
 have hl:=r.length
 have hn:=line63
 have fin:EP X pins σ Q w s:=⟨z,H,I,rw',q⟩
 by_cases h0:0<=i
 ·have hj:i.toNat=j:=by
   rw[seqIndex_of h0 h5] at h1
   exact Option.some.inj h1
  exact item_listR pl.isList h0 (by bv_omega) (by rw[hj];simpa using ew) fin hs
 ·have hj:(i+(its.toArray.size:Int)).toNat=j:=by
   rw[seqIndex_neg (by bv_omega) h4] at h1
   rw[List.size_toArray,<-hl]
   exact Option.some.inj h1
  exact subscriptTail_builtinR (x:=w) pl.isList.typeIs slot_list_getitem.lookup
   (wpAny_getItem_list_neg (Q:=fun r s'=>r=w/\EP X pins σ Q r s') pl.isList (by bv_omega) (by rw[List.size_toArray] <;> bv_omega) (by bv_omega) (by rw[hj];simpa using ew) ⟨rfl,fin⟩) hs
theorem xW4:IxR X (rIxT X.K):=by
 intro value slice pins s σ H x y v u Q I rx ry h hs
 obtain⟨p,xs,i,z,rfl,rfl,hq,he,q⟩:=h
 cases rx
 obtain⟨t,rfl⟩:=ry
 obtain⟨its,r,pl,hz⟩:=I.tuple hq
 obtain⟨j,h1,h2,h3,h4,h5⟩:=zW9 he
 obtain⟨w,ew,rw'⟩:=r.get h2
 have hl:=r.length
 have hn:=line63
 have fin:EP X pins σ Q w s:=⟨z,H,I,rw',q⟩
 exact subscriptTail_builtinR (x:=w) pl.typeIs slot_tuple_getitem.lookup
  (getItem_tuple (j:=j) (Q:=fun r s'=>r=w/\EP X pins σ Q r s') pl (by bv_omega) (by bv_omega) (by rw[List.size_toArray,<-hl];exact h1) (by simpa using ew) ⟨rfl,fin⟩) hs
theorem xX6:IxR X rIxS:=by
 intro value slice pins s σ H x y v u Q I rx ry h hs
 obtain⟨z,i,c,rfl,rfl,hz,he,q⟩:=h
 obtain⟨t,rfl⟩:=rx
 obtain⟨t',rfl⟩:=ry
 obtain⟨j,h1,h2,h3,h4,h5⟩:=zW9 he
 have hl:z.cps.toList.length=z.length:=by simp[Str.length]
 rw[hl] at h1 h4 h5
 have hn:=line63
 exact tail_any (typeIs_str s z t) slot_str_getitem.lookup (getItem_str (c:=c) (by
  have e1:decide (i < -(2 ^ 63:Int))=false:=decide_eq_false (by bv_omega)
  have e2:decide (i ≥ 2 ^ 63)=false:=decide_eq_false (by bv_omega)
  rw[e1,e2,Bool.or_false]) (by rw[h1];simpa using h2) ⟨.str ⟨#[c]⟩,H,I.tok _,⟨_,rfl⟩,q⟩) hs
def rIx (K:KFr):R2:=fun x y H Q=>rIxL K x y H Q\/rIxT K x y H Q\/rIxS x y H Q
theorem yU:IxR X (rIx X.K):=yC1.or (xW4.or xX6)
theorem zC8 (its:List Value) (n j:Nat) (u:Value):Obj.mapSeq (·.setIfInBounds j u) { cls:=.type "list",data:=.seq its.toArray n }={ cls:=.type "list",data:=.seq (its.set j u).toArray n }:=by
 simp[Obj.mapSeq]
theorem Inv.lst {pins:List (Addr×Obj)}{σ:St}{H:Hp}{s:Shared}{p:Addr}{xs:List V}(I:Inv X pins σ H s) (h:H p=some (.lst xs)) :
  ∃(its:List Value) (n:Nat),Vals xs its/\s.heap.get? p=some { cls:=.type "list",data:=.seq its.toArray n }/\xs.length<=sizeLine:=by
 obtain⟨z,its,n,r,e⟩:=I.hok p _ h
 exact⟨its,n,r,e,z⟩
theorem Inv.lstUpd {pins:List (Addr×Obj)}{σ:St}{H:Hp}{s:Shared}{p:Addr}{xs ys:List V}{its its':List Value}{n n':Nat}{f:Obj->Obj}(I:Inv X pins σ H s) (h:H p=some (.lst xs))
  (ho:s.heap.get? p=some { cls:=.type "list",data:=.seq its.toArray n }) (hf:f { cls:=.type "list",data:=.seq its.toArray n }={ cls:=.type "list",data:=.seq its'.toArray n' }) (r:Vals ys its') (hz:ys.length<=sizeLine) (t:Nat) :
  Inv X pins σ (upd H p (.lst ys)) { s with heap:=s.heap.update p f,toks:=t }:=by
 have e:(s.heap.update p f).get? p=some { cls:=.type "list",data:=.seq its'.toArray n' }:=by
  rw[Heap.get?_update_self f ho (by rw[hf] <;> rfl),hf]
 refine I.write (x:=p) (e:=p) (by rw[h];trivial) (.inl rfl) (fun b u hb q=>(Heap.get?_update_other _ _ (Ne.symm hb)).trans q) ⟨_,e⟩ ?_
 exact⟨hz,its',n',r,e⟩
def rSetL:V->V->V->Hp->(Hp->Prop)->Prop:=fun o i v H Q=>∃p xs k j,o=.ref p/\i=.int k/\H p=some (.lst xs)/\ixN xs.length k=some j/\Q (upd H p (.lst (xs.set j v)))
theorem yM5:PSet X rSetL:=by
 intro pins s σ H o i v ov iv u Q I ro ri rv h
 obtain⟨p,xs,k,j,rfl,rfl,hp,hj,q⟩:=h
 cases ro
 obtain⟨t,rfl⟩:=ri
 obtain⟨its,n,r,ho,hz⟩:=I.lst hp
 obtain⟨h1,h2,h3,h4⟩:=zF3 hj
 have hl:=r.length
 have hn:=line63
 have I':Inv X pins σ (upd H p (.lst (xs.set j v))) { s with heap:=s.heap.update p (Obj.mapSeq (·.setIfInBounds j u)) } :=
  I.lstUpd hp ho (zC8 its n j u) (r.set rv j) (by rw[List.length_set];exact hz) s.toks
 by_cases h0:0<=k
 ·have hk:k.toNat=j:=by
   rw[seqIndex_of h0 h4] at h1
   exact Option.some.inj h1
  exact PySem.W.ki_setAt ho h0 (by bv_omega) (by rw[List.size_toArray,<-hl];exact h4) (by rw[hk];exact⟨_,I',q⟩)
 ·have hk:(k+(its.toArray.size:Int)).toNat=j:=by
   rw[seqIndex_neg (by bv_omega) h3] at h1
   rw[List.size_toArray,<-hl]
   exact Option.some.inj h1
  exact PySem.W.ki_setBack ho (by bv_omega) (by rw[List.size_toArray,<-hl];exact h3) (by bv_omega) (by rw[hk];exact⟨_,I',q⟩)
theorem zO3 (lo hi:Option Int) (n:Nat):(sliceBounds lo hi none n).1=((HT.sIx n 0 lo:Nat):Int)/\(sliceBounds lo hi none n).2.1=((HT.sIx n n hi:Nat):Int)/\(sliceBounds lo hi none n).2.2=1:=by
 refine⟨?_,?_,rfl⟩
 ·cases lo with
  | none=>simp[sliceBounds,HT.sIx]
  | some i =>
   simp only[sliceBounds,HT.sIx,Option.getD_none,show (1:Int) > 0 by decide,if_true]
   by_cases h:i<0
   ·simp only[h,if_true] <;> bv_omega
   ·simp only[h,if_false] <;> bv_omega
 ·cases hi with
  | none=>simp[sliceBounds,HT.sIx]
  | some i =>
   simp only[sliceBounds,HT.sIx,Option.getD_none,show (1:Int) > 0 by decide,if_true]
   by_cases h:i<0
   ·simp only[h,if_true] <;> bv_omega
   ·simp only[h,if_false] <;> bv_omega
theorem zQ5 (its:List Value) (lo hi:Option Int):slicePick its.toArray lo hi none=((its.drop (HT.sIx its.length 0 lo)).take (HT.sIx its.length its.length hi-HT.sIx its.length 0 lo)).toArray:=by
 obtain⟨h1,h2,h3⟩:=zO3 lo hi its.toArray.size
 unfold slicePick
 rw[h1,h2,h3]
 simp only[sliceRange_one,pick_run,List.size_toArray] <;> rfl
def rSlL (K:KFr):V->Option Int->Option Int->Hp->VK->Prop:=fun x lo hi H Q=>∃a xs,x=.ref a/\SqL K H a xs/\∀p,H p=none->Q (.ref p) (upd H p (.lst (cutV xs lo hi)))
theorem zG6:SlR X (rSlL X.K):=by
 intro pins s σ H x v vl vu lo hi sl Q I rx hs pl pu h
 obtain⟨a,xs,rfl,hx,q⟩:=h
 cases rx
 obtain⟨its,r,ht,hz⟩:=I.list hx
 have hlen:=r.length
 refine⟨"list",_,slot_list_getitem.lookup,ht.isList.typeIs,?_⟩
 refine wpAny_getItem_list_slice ht.isList hs pl pu .none (by simp) ?_ (by rw[List.size_toArray] <;> bv_omega)
 rw[zQ5,<-hlen]
 refine⟨.ref s.heap.objs.size,_,I.laid (t':=s.toks) (o:=.lst (cutV xs lo hi)) (fun b ob q=>Heap.get?_push_of_some _ q) (Nat.le_refl _) ?_,rfl,q _ (I.hok.fresh (Nat.le_refl _))⟩
 exact⟨Nat.le_trans (bW xs lo hi) hz,_,0,(r.drop (HT.sIx xs.length 0 lo)).take (HT.sIx xs.length xs.length hi-HT.sIx xs.length 0 lo),Heap.get?_push_size _ rfl⟩
def flatV:V->Bool
 | .non=>true
 | .bl _=>true
 | .int _=>true
 | .str _=>true
 | _=>false
def eqV:V->V->Bool
 | .non,.non=>true
 | .bl a,.bl b=>a == b
 | .bl a,.int b=>(if a then 1 else 0) == b
 | .int a,.bl b=>a == (if b then 1 else 0)
 | .int a,.int b=>a == b
 | .str a,.str b=>a == b
 | _,_=>false
theorem yA7 {A:Around}{s:Shared}{y x:V}{u v:Value}(ry:RelV y u) (rx:RelV x v) (fy:flatV y=true) (fx:flatV x=true):SeqAt.EqAt A s u v (eqV y x):=by
 cases y with
 | non =>
  cases ry
  cases x with
  | non=>cases rx;exact SeqAt.EqAt.same _
  | bl b=>cases rx;exact SeqAt.EqAt.none_bool b
  | int b=>obtain⟨t,rfl⟩:=rx;exact SeqAt.EqAt.none_int b t
  | str b=>obtain⟨t,rfl⟩:=rx;exact SeqAt.EqAt.none_str b t
  | _=>exact absurd (show false=true from fx) Bool.false_ne_true
 | bl a =>
  cases ry
  cases x with
  | non=>cases rx;exact SeqAt.EqAt.bool_none a
  | bl b=>cases rx;exact SeqAt.EqAt.bool_bool a b
  | int b=>obtain⟨t,rfl⟩:=rx;exact SeqAt.EqAt.bool_int a b t
  | str b=>obtain⟨t,rfl⟩:=rx;exact SeqAt.EqAt.bool_str a b t
  | _=>exact absurd (show false=true from fx) Bool.false_ne_true
 | int a =>
  obtain⟨t',rfl⟩:=ry
  cases x with
  | non=>cases rx;exact SeqAt.EqAt.int_none a t'
  | bl b=>cases rx;exact SeqAt.EqAt.int_bool a t' b
  | int b=>obtain⟨t,rfl⟩:=rx;exact SeqAt.EqAt.int_int a t' b t
  | str b=>obtain⟨t,rfl⟩:=rx;exact SeqAt.EqAt.int_str a t' b t
  | _=>exact absurd (show false=true from fx) Bool.false_ne_true
 | str a =>
  obtain⟨t',rfl⟩:=ry
  cases x with
  | non=>cases rx;exact SeqAt.EqAt.str_none a t'
  | bl b=>cases rx;exact SeqAt.EqAt.str_bool a t' b
  | int b=>obtain⟨t,rfl⟩:=rx;exact SeqAt.EqAt.str_int a t' b t
  | str b=>obtain⟨t,rfl⟩:=rx;exact SeqAt.EqAt.str_str a t' b t
  | _=>exact absurd (show false=true from fx) Bool.false_ne_true
 | _=>exact absurd (show false=true from fy) Bool.false_ne_true
def eqU (x:V) (u:Value):Bool:=match u with
 | .none=>eqV .non x
 | .bool b=>eqV (.bl b) x
 | .int i _=>eqV (.int i) x
 | .str z _=>eqV (.str z) x
 | _=>false
theorem yW5 {x y:V}{u:Value}(r:RelV y u) (f:flatV y=true):eqU x u=eqV y x:=by
 cases y with
 | non=>cases r;rfl
 | bl b=>cases r;rfl
 | int i=>obtain⟨t,rfl⟩:=r;rfl
 | str z=>obtain⟨t,rfl⟩:=r;rfl
 | _=>exact absurd (show false=true from f) Bool.false_ne_true
theorem zV3 {x:V}:∀{xs:List V}{us:List Value},Vals xs us->xs.all flatV=true->us.any (eqU x)=xs.any fun y=>eqV y x
 | _,_,.nil,_=>rfl
 | y::xs,u::us,.cons r t,f=>by
  rw[List.all_cons,Bool.and_eq_true] at f
  rw[List.any_cons,List.any_cons,yW5 r f.1,zV3 t f.2]
theorem bI {A:Around}{s:Shared}{x:V}{v:Value}(rx:RelV x v) (fx:flatV x=true):∀{xs:List V}{us:List Value},Vals xs us->xs.all flatV=true->∀u∈us,SeqAt.EqAt A s u v (eqU x u)
 | _,_,.nil,_=>fun u hu=>by cases hu
 | y::xs,u::us,.cons r t,f=>fun u' hu=>by
  rw[List.all_cons,Bool.and_eq_true] at f
  rcases List.mem_cons.mp hu with rfl | hu
  ·rw[yW5 r f.1];exact yA7 r rx f.1 fx
  ·exact bI rx fx t f.2 u' hu
def inV (x:V) (xs:List V):Bool:=xs.any fun y=>eqV y x
def rIn (K:KFr) (neg:Bool):R2:=fun x y H Q=>∃p xs,y=.ref p/\(SqL K H p xs\/SqT K H p xs)/\flatV x=true/\xs.all flatV=true/\Q (.bl (if neg then !inV x xs else inV x xs)) H
theorem yR3:OpR X (compareOp .In) (rIn X.K false):=by
 intro pins s σ H x y v u Q I rx ry h
 obtain⟨p,xs,rfl,hq,fx,fs,q⟩:=h
 cases ry
 rcases hq with hq | hq
 ·obtain⟨its,r,pl,hz⟩:=I.list hq
  refine SeqAt.in_listAt (eqU x) pl.isList (fun w hw=>bI rx fx r fs w (by simpa using hw)) ⟨.bl _,H,I,rfl,?_⟩
  rw[show its.toArray.any (eqU x)=its.any (eqU x) by simp,zV3 r fs]
  exact q
 ·obtain⟨its,r,pl,hz⟩:=I.tuple hq
  refine SeqAt.in_tupleAt (eqU x) pl (fun w hw=>bI rx fx r fs w (by simpa using hw)) ⟨.bl _,H,I,rfl,?_⟩
  rw[show its.toArray.any (eqU x)=its.any (eqU x) by simp,zV3 r fs]
  exact q
theorem zO:CallR X (.builtin "len") (fun xs H Q=>∃p ys,xs=[.ref p]/\(SqL X.K H p ys\/SqT X.K H p ys)/\Q (.int ys.length) H):=by
 intro pins s σ H xs us Q I r h
 obtain⟨p,ys,rfl,hq,q⟩:=h
 obtain⟨u,rfl,rx⟩:=vals1 r
 cases rx
 have hn:=line63
 rcases hq with hq | hq
 ·obtain⟨its,r',pl,hz⟩:=I.list hq
  have hlen:=r'.length
  exact Calls.call_len_list pl.isList (by simp only[List.size_toArray] <;> bv_omega) ⟨.int ys.length,H,I.tok _,⟨s.toks+1,by rw[List.size_toArray,hlen]⟩,q⟩
 ·obtain⟨its,r',pl,hz⟩:=I.tuple hq
  have hlen:=r'.length
  exact len_tuple pl (by simp only[List.size_toArray] <;> bv_omega) ⟨.int ys.length,H,I.tok _,⟨s.toks+1,by rw[List.size_toArray,hlen]⟩,q⟩
theorem zN2:CallR X (.builtin "len") (fun xs H Q=>∃z,xs=[.str z]/\z.length<=sizeLine/\Q (.int z.length) H):=by
 intro pins s σ H xs us Q I r h
 obtain⟨z,rfl,hz,q⟩:=h
 obtain⟨u,rfl,t,rfl⟩:=vals1 r
 have hn:=line63
 exact len_str (by bv_omega) ⟨.int z.length,H,I.tok _,⟨_,rfl⟩,q⟩
theorem CallR.or {f:Value}{r r':List V->Hp->VK->Prop}(h:CallR X f r) (h':CallR X f r'):CallR X f (fun xs H Q=>r xs H Q\/r' xs H Q):=by
 intro pins s σ H xs us Q I rs q
 rcases q with q | q
 ·exact h pins s σ H xs us Q I rs q
 ·exact h' pins s σ H xs us Q I rs q
theorem dI:CallR X (.type "list") (fun xs H Q=>∃p ys,xs=[.ref p]/\(SqL X.K H p ys\/SqT X.K H p ys)/\∀l,H l=none->Q (.ref l) (upd H l (.lst ys))):=by
 intro pins s σ H xs us Q I r h
 obtain⟨p,ys,rfl,hq,q⟩:=h
 obtain⟨u,rfl,rx⟩:=vals1 r
 cases rx
 have fin:∀(its:List Value),Vals ys its->ys.length<=sizeLine->∀(h':Heap) (c':Nat),(∀b o',s.heap.get? b=some o'->h'.get? b=some o') ->
   h'.get? s.heap.objs.size=some { cls:=.type "list",dict:=none,data:=.seq its.toArray c',slots:=#[] }->EP X pins σ Q (.ref s.heap.objs.size) { s with heap:=h' }:=fun its r' hz h' c' kp e =>
  ⟨.ref s.heap.objs.size,_,I.laid (t':=s.toks) kp (Nat.le_refl _) (show ObjOk X.prog X.w _ h' _ (.lst ys) from ⟨hz,its,c',r',e⟩),rfl,q _ (I.hok.fresh (Nat.le_refl _))⟩
 rcases hq with hq | hq
 ·obtain⟨its,r',pl,hz⟩:=I.list hq
  have hlen:=r'.length
  obtain⟨o,ho,hc,n,hd⟩:=pl.isList
  exact call_list_seq p (.inl rfl) ho hc hd (fun h' c' kp e=>fin its r' hz h' c' kp e) (by simp only[List.size_toArray] <;> bv_omega)
 ·obtain⟨its,r',pl,hz⟩:=I.tuple hq
  have hlen:=r'.length
  obtain⟨o,ho,hc,n,hd⟩:=pl
  exact call_list_seq p (.inr rfl) ho hc hd (fun h' c' kp e=>fin its r' hz h' c' kp e) (by simp only[List.size_toArray] <;> bv_omega)
theorem xQ:CallR X (.type "tuple") (fun xs H Q=>∃p ys,xs=[.ref p]/\((SqL X.K H p ys/\∀l,H l=none->Q (.ref l) (upd H l (.tup ys)))\/(SqT X.K H p ys/\Q (.ref p) H))):=by
 intro pins s σ H xs us Q I r h
 obtain⟨p,ys,rfl,h⟩:=h
 obtain⟨u,rfl,rx⟩:=vals1 r
 cases rx
 rcases h with ⟨hq,q⟩ | ⟨hq,q⟩
 ·obtain⟨its,r',pl,hz⟩:=I.list hq
  have hlen:=r'.length
  refine call_tuple_list pl.isList (fun h' kp => ?_) (by simp only[List.size_toArray] <;> bv_omega)
  have I1:Inv X pins σ H { s with heap:=h' }:=I.kept (t':=s.toks) kp
  have I2:Inv X pins σ (upd H h'.objs.size (.tup ys)) { s with heap:=h'.push { cls:=.type "tuple",data:=.seq its.toArray } } :=
   I1.laid (t':=s.toks) (fun b o e=>Heap.get?_push_of_some _ e) (Nat.le_refl _) (show ObjOk X.prog X.w _ _ _ (.tup ys) from ⟨hz,its,r',TupAt.new _ _⟩)
  exact⟨.ref h'.objs.size,_,I2,rfl,q _ (I1.hok.fresh (Nat.le_refl _))⟩
 ·obtain⟨its,r',pl,hz⟩:=I.tuple hq
  exact call_tuple_same pl ⟨.ref p,H,I,rfl,q⟩
def tyV (K:KFr) (T:String) (x:V) (H:Hp):Prop:=match x with
 | .str _=>T="str"
 | .int _=>T="int"
 | .ref p=>(T="list"/\∃xs,SqL K H p xs)\/(T="tuple"/\((∃o,K.lookup p=some o/\o.cls=.type "tuple"/\o.dict=none)\/∃xs,Rd H p (.tup xs))) \/
   (T="dict"/\((∃kvs,H p=some (.dK kvs))\/∃kvs,H p=some (.dT kvs)))\/(T="set"/\∃S n,H p=some (.set S n))
 | _=>False
theorem yW3 {pins:List (Addr×Obj)}{σ:St}{H:Hp}{s:Shared}{T:String}{x:V}{v:Value}(I:Inv X pins σ H s) (r:RelV x v) (ty:tyV X.K T x H) :
  s.TypeIs v T/\∀a,v=.ref a->∃ob,s.heap.get? a=some ob/\ob.dict=none:=by
 cases x with
 | str z =>
  obtain⟨t,rfl⟩:=r
  cases (show T="str" from ty)
  exact⟨typeIs_str s z t,fun _ e=>nomatch e⟩
 | int i =>
  obtain⟨t,rfl⟩:=r
  cases (show T="int" from ty)
  exact⟨typeIs_int s i t,fun _ e=>nomatch e⟩
 | ref p =>
  cases r
  rcases ty with ⟨rfl,xs,hq⟩ | ⟨rfl,⟨o,hk,hc,hd⟩ | ⟨xs,hq⟩⟩ | ⟨rfl,hk⟩ | ⟨rfl,S,n,hk⟩
  ·obtain⟨its,_,pl,_⟩:=I.list hq
   refine⟨pl.isList.typeIs,fun a e => ?_⟩
   cases e
   obtain⟨o,n,e,c,hd,_⟩:=pl
   exact⟨o,e,hd⟩
  ·refine⟨⟨o,I.kIn p o hk,hc⟩,fun a e => ?_⟩
   cases e
   exact⟨o,I.kIn _ o hk,hd⟩
  ·obtain⟨_,its,_,o,e,c,_,hd⟩:=hq.ok I.hok
   refine⟨⟨o,e,c⟩,fun a e2 => ?_⟩
   cases e2
   exact⟨o,e,hd⟩
  ·have z:∃o,s.heap.get? p=some o/\o.ExactDict:=by
    rcases hk with ⟨kvs,hk⟩ | ⟨kvs,hk⟩
    ·obtain⟨_,_,_,_,o,_,_,e,ex,_⟩:=I.hok p _ hk
     exact⟨o,e,ex⟩
    ·obtain⟨_,_,_,_,o,_,_,e,ex,_⟩:=I.hok p _ hk
     exact⟨o,e,ex⟩
   obtain⟨o,e,ex⟩:=z
   refine⟨⟨o,e,ex.1⟩,fun a e2 => ?_⟩
   cases e2
   exact⟨o,e,ex.2.1⟩
  ·obtain⟨o,_,_,_,e,ex,_⟩:=I.hok p _ hk
   refine⟨⟨o,e,ex.1⟩,fun a e2 => ?_⟩
   cases e2
   exact⟨o,e,ex.2.1⟩
 | _=>exact False.elim ty
def tBM0 (K:KFr) (T:String) (r:V->List V->Hp->VK->Prop) (to:TE):TE:=fun σ H Q=>to σ H fun x H1=>tyV K T x H1/\r x [] H1 Q
def tBM (K:KFr) (T:String) (r:V->List V->Hp->VK->Prop) (to:TE) (t:TA):TE:=fun σ H Q=>to σ H fun x H1=>tyV K T x H1/\t σ H1 fun xs H2=>r x xs H2 Q
variable {o e:Expr}{es:List Expr}{to:TE}{t:TA}{name:Str}{apos cpos:Pos}{T id:String}{r:V->List V->Hp->VK->Prop}
theorem xV2 (pa:PlainAttrs T) (slot:Slot T name id) (hty:typeOf (.builtin id)=pure (.type "method_descriptor")) (hm:MtR X id r) (ho:PE X o to)
  (hbase:autoParam (attributeBase o name X.env (eval o X.env)=eval o X.env) zW._auto_1) (hline:autoParam ((apos.endLine == cpos.line)=true) zW._auto_1):PE X (.Call (.Attribute o name apos) [] [] cpos) (tBM0 X.K T r to):=by
 intro pins s σ H Q I h
 refine wpAny_Call_method0_late hbase hline (thn (ho pins s σ H _ I h) fun v s1 ⟨x,H1,I1,r1,ty,q1⟩ => ?_)
 obtain⟨h1,h2⟩:=yW3 I1 r1 ty
 exact⟨T,id,pa,slot,hty,h1,h2,Calls.callWith_builtin rfl (PySem.evalArgs_none (hm pins s1 σ H1 x [] v [] Q I1 r1 .nil q1))⟩
theorem zY1 (pa:PlainAttrs T) (slot:Slot T name id) (hty:typeOf (.builtin id)=pure (.type "method_descriptor")) (hm:MtR X id r) (ho:PE X o to) (ha:PA X (e::es) t)
  (hbase:autoParam (attributeBase o name X.env (eval o X.env)=eval o X.env) zW._auto_1)
  (hfew:((backTo cpos (starEach (e::es) X.env)).all (fun x=>!x.1)&&(backToKw cpos (keywordEach [] X.env)).all (fun x=>x.1.isSome)
  &&decide ((e::es).length+([]:List Keyword).length+(if ([]:List Keyword).isEmpty then 0 else 1)<30))=true:=by rfl)
  (hline:autoParam ((apos.endLine == cpos.line)=true) zW._auto_1) (hs:autoParam (starEach (e::es) X.env=(false,eval e X.env)::starEach es X.env) zW._auto_1) (hplain:autoParam ((backTo cpos (starEach es X.env)).any (·.1)=false) zW._auto_1) :
  PE X (.Call (.Attribute o name apos) (e::es) [] cpos) (tBM X.K T r to t):=by
 intro pins s σ H Q I h
 refine wpAny_Call_method_late hbase hfew hline rfl (thn (ho pins s σ H _ I h) fun v s1 ⟨x,H1,I1,r1,ty,q1⟩ => ?_)
 obtain⟨h1,h2⟩:=yW3 I1 r1 ty
 refine⟨T,id,pa,slot,hty,h1,h2,?_⟩
 have hA:=ha cpos pins s1 σ H1 _ I1 q1
 rw[hs] at hA ⊢
 refine Calls.callWith_builtin (by show (false || (backTo cpos (starEach es X.env)).any (·.1))=false;rw[hplain] <;> rfl) (Calls.evalArgs_plain ?_)
 exact thn hA fun us s2 ⟨vs,H2,I2,r2,q2⟩=>hm pins s2 σ H2 x vs v us Q I2 r1 r2 q2
end
def MtM (X:Cx) (id:String) (r:V->List V->Hp->VK->Prop):Prop :=
 ∀(pins:List (Addr×Obj)) (s:Shared) (σ:St) (H:Hp) (x:V) (xs:List V) (v:Value) (us:List Value) (Q:VK),Inv X pins σ H s->RelV x v->Vals xs us->r x xs H Q ->
  wpAny (model X.prog X.w) X.A (call (.builtin id) (v::us)) (EP X pins σ Q) X.xe s
theorem Vals.one:∀{x:V}{us:List Value},Vals [x] us->∃u,us=[u]/\RelV x u
 | _,_,.cons r .nil=>⟨_,rfl,r⟩
theorem Vals.two:∀{x y:V}{us:List Value},Vals [x,y] us->∃u v,us=[u,v]/\RelV x u/\RelV y v
 | _,_,_,.cons r (.cons q .nil)=>⟨_,_,rfl,r,q⟩
theorem Vals.zero:∀{us:List Value},Vals [] us->us=[]
 | _,.nil=>rfl
theorem Vals.eraseIdx:∀{xs:List V}{us:List Value}(i:Nat),Vals xs us->Vals (xs.eraseIdx i) (us.eraseIdx i)
 | _,_,_,.nil=>.nil
 | _,_,0,.cons _ t=>t
 | _,_,i+1,.cons r t=>.cons r (Vals.eraseIdx i t)
theorem Vals.reverse {xs:List V}{us:List Value}(h:Vals xs us):Vals xs.reverse us.reverse:=by
 induction h with
 | nil=>exact .nil
 | cons r t ih=>rw[List.reverse_cons,List.reverse_cons];exact Vals.append ih (.cons r .nil)
theorem Vals.rep {xs:List V}{us:List Value}(h:Vals xs us):∀k:Nat,Vals (List.replicate k xs).flatten (List.replicate k us).flatten
 | 0=>.nil
 | k+1=>by
  rw[List.replicate_succ,List.replicate_succ,List.flatten_cons,List.flatten_cons]
  exact Vals.append h (Vals.rep h k)
theorem zS7 (its:List Value):∀(k:Nat) (acc:List Value),
  List.foldl (fun x1 x2=>x1++x2) acc.toArray (List.replicate k its.toArray)=(acc++(List.replicate k its).flatten).toArray
 | 0,acc=>by simp
 | k+1,acc=>by
  have e:acc.toArray++its.toArray=(acc++its).toArray:=by simp
  have e2:(acc++its)++(List.replicate k its).flatten=acc++(List.replicate (k+1) its).flatten:=by
   rw[List.replicate_succ,List.flatten_cons,List.append_assoc]
  rw[<-e2,<-zS7 its k (acc++its),<-e,List.replicate_succ,List.foldl_cons]
section
variable {X:Cx}{pins:List (Addr×Obj)}{σ:St}{H:Hp}{s:Shared}{l b:Addr}{xs ys zs:List V}
theorem Inv.lset {its its':List Value}{n:Nat}{f:Array Value->Array Value}{t':Nat}(I:Inv X pins σ H s) (hH:H l=some (.lst xs))
  (e:s.heap.get? l=some { cls:=.type "list",data:=.seq its.toArray n }) (hf:f its.toArray=its'.toArray) (hv:Vals ys its') (hz:ys.length<=sizeLine) :
  Inv X pins σ (upd H l (.lst ys)) { s with heap:=s.heap.update l (Obj.mapSeq f),toks:=t' }:=by
 have q:=PySem.IsL.update e f
 rw[hf] at q
 refine I.write (x:=l) (e:=l) (by rw[hH];exact trivial) (.inl rfl) (fun b' u hb hu=>(Heap.get?_update_other s.heap (Obj.mapSeq f) (Ne.symm hb)).trans hu) ⟨_,q⟩ ?_
 exact⟨hz,its',_,hv,q⟩
theorem Inv.lnew {its:List Value}{t':Nat}(I:Inv X pins σ H s) (hv:Vals ys its) (hz:ys.length<=sizeLine) :
  Inv X pins σ (upd H s.heap.objs.size (.lst ys)) { s with heap:=s.heap.push { cls:=.type "list",data:=.seq its.toArray },toks:=t' } :=
 I.laid (fun _ _ q=>Heap.get?_push_of_some _ q) (Nat.le_refl _) ⟨hz,its,0,hv,Heap.get?_push_size _ rfl⟩
theorem Inv.fresh (I:Inv X pins σ H s):H s.heap.objs.size=none:=I.hok.fresh (Nat.le_refl _)
theorem Inv.lstM (I:Inv X pins σ H s) (hH:H l=some (.lst xs)):xs.length<=sizeLine/\∃(its:List Value) (n:Nat),Vals xs its/\xs.length=its.length/\s.heap.get? l=some { cls:=.type "list",data:=.seq its.toArray n }:=by
 obtain⟨z,its,n,r,e⟩:=I.hok l _ hH
 exact⟨z,its,n,r,r.length,e⟩
theorem notLongL {n:Nat}(h:n<=sizeLine):Builtin.List.listTooLong n=false:=by
 unfold Builtin.List.listTooLong
 exact decide_eq_false (by bv_omega)
end
section
variable {X:Cx}
def rAppend:V->List V->Hp->VK->Prop:=fun x vs H Q=>∃l xs y,x=.ref l/\vs=[y]/\H l=some (.lst xs)/\xs.length<sizeLine/\Q .non (upd H l (.lst (xs ++ [y])))
theorem qC:MtM X "list.append" rAppend:=by
 intro pins s σ H x vs v us Q I rx rv h
 obtain⟨l,xs,y,rfl,rfl,hH,hz,q⟩:=h
 cases rx
 obtain⟨u,rfl,ru⟩:=rv.one
 obtain⟨z,its,n,r,hl,e⟩:=I.lstM hH
 refine call_meets F.slot_list_append ⟨_,e,rfl⟩ F.entry_list_append (F.args_list_append_2 _ _) (PySem.list_append l its.toArray n u (by rw[List.size_toArray];bv_omega)) ⟨e,?_⟩
 refine⟨.non,_,I.lset (its':=its ++ [u]) hH e (by simp) (r.append (.cons ru .nil)) ?_,rfl,q⟩
 rw[List.length_append,List.length_singleton]
 bv_omega
theorem yD7 {α:Type}(xs:List α) (k:Nat):(List.replicate k xs).flatten.length=k*xs.length:=by
 induction k with
 | zero=>simp
 | succ k ih=>rw[List.replicate_succ,List.flatten_cons,List.length_append,ih,Nat.succ_mul,Nat.add_comm]
end
section
variable {prog:Program}{w:World}{A:Around}{E:Value->Shared->Prop}{s:Shared}
end
section
variable {X:Cx}
end
end L2
namespace Att
open PySem PySem.W PySem.Calls PyProof.Rows
theorem zY2 {P:Params}{h:Heap}:∀(ns:List Int) (vs:List Value),WellAll P h vs (ns.map WData.int)->IntsAre vs ns:=by
 intro ns
 induction ns with
 | nil =>
  intro vs w
  rw[List.map_nil] at w
  cases w
  exact .nil
 | cons n ns ih =>
  intro vs w
  rw[List.map_cons] at w
  cases w with
  | cons a b =>
   cases a
   exact .cons _ _ (ih _ b)
theorem yU7 {l:OpenLaw}{n:Nat}(hn:l.most=some n){P:Params}{h:Heap}{args:List WData}{vals:List Value}
  (hpre:l.row.toRowW.claim.pre args=true) (hwl:WellAll P h vals args) :
  ∃a vs ns,vals=[Value.ref a]/\args=[WData.list (ns.map WData.int)]/\h.get? a=some { cls:=.type "list",data:=.seq vs.toArray }/\IntsAre vs ns/\ns.length<=n:=by
 have hsh:WShape.hasAll [] args [.list .int]=true:=(pre_splitW hpre).1
 have hc:l.pre.holds [] { args:=args }=true:=(pre_splitW hpre).2
 obtain⟨d,r,rfl,h1,h2⟩:=hasAllW_cons hsh
 obtain rfl:=hasAllW_nil h2
 obtain⟨xs,rfl,h3⟩:=hasW_list h1
 obtain⟨ns,rfl⟩:=items_int h3
 have hlen:ns.length<=n:=by
  unfold OpenLaw.pre at hc
  have h4:(WTm.not (.lt (.lit (.int (n:Int))) (.len (.arg 0)))).holds [] { args:=[.list (ns.map .int)] }=true:=by
   have h4:=(holds_andW hc).1
   rw[hn] at h4
   exact h4
  have h5:=condW_of h4 (w_not (w_lt w_lit (w_len_list (w_arg rfl))))
  rw[List.length_map] at h5
  refine Nat.le_of_not_lt fun q => ?_
  have q':(n:Int)<((ns.length:Nat):Int):=by bv_omega
  first
   | (rw[decide_eq_true q'] at h5;exact absurd h5 (by decide))
   | (simp at h5;bv_omega)
 cases hwl with
 | cons w1 w2 =>
  cases w2
  cases w1 with
  | list ho hall=>exact⟨_,_,ns,rfl,rfl,ho,zY2 ns _ hall,hlen⟩
theorem yQ4 (l:OpenLaw) (args:List WData):l.row.toRowW.claim.post args (.bool true) args=true :=
 postW_of (r:=l.row.toRowW) (X:=(true == true))
  (show WShape.has [] (.bool true) .bool=true by first | rfl | decide | simp[WShape.has,WShape.arms,WShape.armsAll])
  (show (WTm.eq .res (.lit (.bool true))).value [] { args:=args,res:=some (.bool true),after:=args }=some (.bool (true == true)) from w_eq_bool (w_res rfl) w_lit) rfl
theorem zI5 {l:OpenLaw}{n:Nat}{q:Program}{loose:List Str}{XP:(Str->Option Value)->Heap->Prop}{YP:World->Heap->Prop}{d:DefRec}
  (hn:l.most=some n) (hdf:d.params.defaults=[])
  (call:∀(w:World) (s₀ s₁:Shared) (mg mb:Str->Option Value) (fa:Addr) (o:Obj) (pm cd doc:Value) (a:Addr) (vs:List Value) (ns:List Int),
   Ground q loose [] XP w s₀ mg mb s₁.heap->YP w s₁.heap ->
   s₁.heap.get? fa=some o->o.data=.func (docDef d.name d.params d.body d.scope pm cd doc)->s₁.heap.CodeRec cd d.name->mg d.name=some (.ref fa) ->
   s₁.heap.get? a=some { cls:=.type "list",data:=.seq vs.toArray }->IntsAre vs ns->ns.length<=n->s₁.gens=#[] ->
   codeAny (model l.prog w) callerA (.call (.ref fa) ⟨[.ref a],[]⟩) (fun r s'=>r=.ok (.ret (.bool true))/\OldK s₁.heap s'.heap/\s'.os=s₁.os/\AllBare s'.gens) s₁) :
  WalkO q loose XP YP l.row.toRowW d [] (fun f vs=>PySem.call f vs):=by
 intro w s₀ s₁ mg mb G Y fa o pm cd doc dV kV ho hd hcd hD hmg hg args vals as hpre hlay hrd hwl hlo
 obtain rfl:dV=.none:=Dflts.none hD hdf
 obtain rfl:kV=.none:=Dflts.noKw hD
 obtain⟨a,vs,ns,rfl,rfl,hobj,hints,hlen⟩:=yU7 hn hpre hwl
 refine enter_call (codeAny_mono (call w s₀ s₁ mg mb fa o pm cd doc a vs ns G Y ho (fd_plain hd) hcd hmg hobj hints hlen hg) fun r s' hq => ?_)
 obtain⟨rfl,h2,h3,h4⟩:=hq
 exact⟨.inl ⟨.bool true,.bool true,[],rfl,fun _=>rfl,.bool true,yQ4 l _,fun _=>⟨List.Pairwise.nil,fun _ hm=>(nomatch hm)⟩⟩,h2,h3,h4⟩
section
variable {prog:Program}{w:World}{A:Around}{E:Value->Shared->Prop}{s:Shared}{K:Frag}
end
end Att
namespace L2
open PySem PySem.Spec PyProof.Rows
theorem dB:∀{vs:List Value}{ns:List Int},IntsAre vs ns->Vals (ns.map V.int) vs
 | _,_,.nil=>.nil
 | _,_,.cons n t h=>.cons ⟨t,rfl⟩ (dB h)
def Only (H:Hp):Prop:=∀b,H b=none\/∃o xs,H b=some (.frz o (.lst xs))
theorem yO7 {P:Program}{w:World}{K:KFr}{mg mb:Str->Option Value}{CX:CXT}{k:Nat}{fa a:Addr}{fd:FuncData}{x:Str}{sp:Sp}{s₁:Shared}{vs:List Value}{ns:List Int}
  (KX:K.In s₁.heap) (hns:s₁.heap.Ns mainGlobals mg) (hb:s₁.heap.Ns builtinsNs mb) (hbb:∀x:Str,x ≠ "__name__"->mb x=bootBuiltins x) (hlim:s₁.heap.NoLimit) (hg:s₁.gens=#[])
  (ha:s₁.heap.get? a=some { cls:=.type "list",data:=.seq vs.toArray }) (hi:IntsAre vs ns) (hl:ns.length<=sizeLine) (hr:Room k callerA)
  (F:∀base:Heap,K.In base->base.Ns mainGlobals mg->FnOk P w K mg base CX k fa fd [x] sp) (hbind:∀(s:Shared) (u:Value),BindsTo s fd ⟨[u],[]⟩ [(x,u)])
  (hsp:∀H:Hp,Only H->SqL K H a (ns.map V.int)->sp [.ref a] H (fun v _=>v=.bl true) fun _ _ _=>False)
  (hCX:∀H e s',CX [] H s₁ (fun _ _ _=>False) e s'->False) :
  codeAny (model P w) callerA (.call (.ref fa) ⟨[.ref a],[]⟩) (fun r s'=>r=.ok (.ret (.bool true))/\OldK s₁.heap s'.heap/\s'.os=s₁.os/\AllBare s'.gens) s₁:=by
 have rv:=dB hi
 have lenV:=hi.length
 have core:∀H:Hp,Only H->SqL K H a (ns.map V.int)->HOk P w H s₁.heap->(∀b,H b≠none->b=a)->(H a≠none->K.lookup a=none) ->
   codeAny (model P w) callerA (.call (.ref fa) ⟨[.ref a],[]⟩) (fun r s'=>r=.ok (.ret (.bool true))/\OldK s₁.heap s'.heap/\s'.os=s₁.os/\AllBare s'.gens) s₁:=by
  intro H hO hS hok hA hK
  have base_of:∀{b:Addr}{o:Obj},s₁.heap.get? b=some o->H b=none->(hidT s₁.heap H).get? b=some o:=fun e n=>yN5 e n
  have noA:∀{b:Addr}{o:Obj}{es:Array DictEntry}{ep:Nat},s₁.heap.get? b=some o->o.data=.dict es ep->H b=none:=fun {b o es ep} e d=>by
   cases q:H b with
   | none=>rfl
   | some u =>
    have e':b=a:=hA b (by rw[q];simp)
    subst e'
    rw[ha] at e;cases e
    have d':Data.seq vs.toArray _=Data.dict es ep:=d
    cases d'
  have nsK:∀{b:Addr}{m:Str->Option Value},s₁.heap.Ns b m->(hidT s₁.heap H).Ns b m:=fun {b m} ⟨o,es,ep,e,d,r⟩=>⟨o,es,ep,base_of e (noA e d),d,r⟩
  have hKb:K.In (hidT s₁.heap H):=fun b o e=>base_of (KX b o e) (by
   cases q:H b with
   | none=>rfl
   | some u =>
    have e':b=a:=hA b (by rw[q];simp)
    subst e'
    rw[hK (by rw[q];simp)] at e;cases e)
  have hM:Mod K mg (hidT s₁.heap H):=⟨hKb,nsK hns,⟨mb,nsK hb,hbb⟩,let ⟨mc,h1,h2⟩:=hlim; ⟨mc,nsK h1,h2⟩⟩
  have e0:Env0 P w K mg (hidT s₁.heap H) callerA [] s₁ H:=⟨rfl,hM,fun b o e=>yB6 e,Nat.le_of_eq (yT7 _ _),trivial,fun b hb=>absurd (show b∈([]:List Addr) from hb) (by simp),hok,.of_eq hg⟩
  refine codeAny_mono ((F _ hKb (nsK hns)).run callerA [] s₁ H ⟨[.ref a],[]⟩ [.ref a] [.ref a] _ _ hr e0 (hbind s₁ (.ref a)) (.cons rfl .nil) (hsp H hO hS)) fun r s' h => ?_
  cases r with
  | error e=>exact (hCX H e s' h).elim
  | ok fl =>
   cases fl with
   | next=>exact False.elim h
   | brk=>exact False.elim h
   | cont=>exact False.elim h
   | ret u =>
    obtain⟨v,H',os,bare,un,hok',r',q⟩:=h
    have q':v=.bl true:=q
    subst q'
    obtain rfl:u=Value.bool true:=r'
    refine⟨rfl,OldK.of_keep fun b o e => ?_,os,bare⟩
    cases q:H b with
    | none=>exact un.keep b o e q (by intro z;exact absurd (show b∈([]:List Addr) from z) (by simp)) (by simp)
    | some u =>
     rcases hO b with z | ⟨ob,xs,z⟩
     ·rw[q] at z;cases z
     ·have z2:=un.frzs b ob _ z
      obtain⟨e1,_⟩:=hok b _ z
      obtain⟨e2,_⟩:=hok' b _ z2
      rw[e] at e1;cases e1
      exact e2
 cases hk:K.lookup a with
 | some o =>
  have e:=KX a o hk
  rw[ha] at e
  cases e
  refine core (fun _=>none) (fun _=>.inl rfl) (.inr ⟨_,vs.toArray,_,hk,rfl,rfl,rfl,by rw[List.size_toArray,lenV];exact hl,by simpa using rv⟩) (fun b u z=>by have z':(none:Option HO)=some u:=z;cases z') (fun b z=>absurd rfl z) fun z=>absurd rfl z
 | none =>
  refine core (fun b=>if b=a then some (.frz { cls:=.type "list",data:=.seq vs.toArray } (.lst (ns.map V.int))) else none) (fun b => ?_) (.inl (.inr ⟨{ cls:=.type "list",data:=.seq vs.toArray },if_pos rfl⟩)) (fun b u z => ?_) (fun b z => ?_) fun _=>hk
  ·by_cases hb:b=a
   ·exact .inr ⟨_,_,if_pos hb⟩
   ·exact .inl (if_neg hb)
  ·by_cases hb:b=a
   ·have z':=(if_pos hb).symm.trans z
    cases z'
    subst hb
    exact⟨ha,by rw[List.length_map];exact hl,vs,_,rv,ha⟩
   ·have z':=(if_neg hb).symm.trans z
    cases z'
  ·by_cases hb:b=a
   ·exact hb
   ·exact absurd (if_neg hb) z
abbrev KOf {K:KFr}{h:Heap}(_:K.In h):KFr:=K
theorem yI6 {l:PySem.W.OpenLaw}{n k:Nat}{q:Program}{loose:List Str}{XP:(Str->Option Value)->Heap->Prop}{YP:World->Heap->Prop}{d:DefRec}{K:Params->KFr}{CX:World->CXT}{sp:World->Sp}{x:Str}
  (hn:l.most=some n) (hn2:n<=sizeLine) (hdf:d.params.defaults=[]) (hr:Room k callerA)
  (hY:∀(w:World) (h:Heap),YP w h->(K w.params).In h)
  (F:∀(w:World) (mg:Str->Option Value) (fa:Addr) (h:Heap),(K w.params).In h->h.Ns mainGlobals mg->mg d.name=some (.ref fa) ->
   ∃fd:FuncData,(∀(s:Shared) (u:Value),BindsTo s fd ⟨[u],[]⟩ [(x,u)]) /\
    ∀base:Heap,(K w.params).In base->base.Ns mainGlobals mg->FnOk l.prog w (K w.params) mg base (CX w) k fa fd [x] (sp w))
  (hsp:∀(w:World) (H:Hp) (a:Addr) (ns:List Int),ns.length<=n->Only H->SqL (K w.params) H a (ns.map V.int)->sp w [.ref a] H (fun v _=>v=.bl true) fun _ _ _=>False)
  (hCX:∀(w:World) (H:Hp) (s:Shared) (e:Value) (s':Shared),CX w [] H s (fun _ _ _=>False) e s'->False) :
  PySem.W.WalkO q loose XP YP l.row.toRowW d [] (fun f vs=>PySem.call f vs):=by
 refine Att.zI5 hn hdf fun w s₀ s₁ mg mb fa o pm cd doc a vs ns G Y ho hd hcd hmg hobj hints hlen hg => ?_
 have KX:=hY w _ Y
 obtain⟨fd,hb,hF⟩:=F w mg fa _ KX G.T.g hmg
 exact yO7 KX G.T.g G.T.b G.T.builtins G.T.nolimit hg hobj hints (Nat.le_trans hlen hn2) hr hF hb (fun H hO hS=>hsp w H a ns hlen hO hS) fun H e s'=>hCX w H s₁ e s'
def defArgs (s:Stmt):Arguments:=match s with
 | .FunctionDef _ a _ _ _ _ _ _ _ _=>a
 | _=>{ posonlyargs:=[],args:=[],vararg:=none,kwonlyargs:=[],kw_defaults:=[],kwarg:=none,defaults:=[] }
def defBody (s:Stmt):List Stmt:=match s with
 | .FunctionDef _ _ b _ _ _ _ _ _ _=>b
 | _=>[]
def zX (s:Stmt):Scope:=match s with
 | .FunctionDef _ _ _ _ _ _ sc _ _ _=>sc
 | _=>{ kind:=.function,names:=[],isGenerator:=false,isCoroutine:=false }
abbrev CX0:CXT:=fun _ _ _ _ _ _=>False
structure Fun (K:KFr) (x qual:Str) (st:Stmt) (f:Addr) (fd:FuncData):Prop where
 ex:∃(oc:Value) (od:Option Addr) (kV doc pm:Value) (an:Option Addr) (cdv ct:Value) (osl:Array (Option Value)),
  fd=PySem.W.fnOf x qual (defArgs st) (defBody st) (zX st) .none kV doc pm an cdv ct/\K.lookup f=some ⟨oc,od,.func fd,osl⟩/\PySem.W.codeIn K cdv qual=true
 kp:PySem.W.keepIn K (.ref f)=true
section
variable {P:Program}{w:World}{K:KFr}{mg:Str->Option Value}{base:Heap}
theorem Fun.ok {x qual:Str}{st:Stmt}{f:Addr}{fd:FuncData}{N ps:List Str}{k:Nat}{sp:Sp}(F:Fun K x qual st f fd) (S:zK N ps (zX st)) (len:∀vs H Q E,sp vs H Q E->vs.length=ps.length)
  (hbody:∀(cdv:Value) (A:Around) (outer:List Env) (s:Shared) (H:Hp) (vs:List V) (Q:VK) (E:XK),Room k (A.deeper (envOfC qual (zX st) s.heap.objs.size f cdv))->sp vs H Q E ->
   ∃t,PSs (cxOf CX0 P w K mg base N qual (zX st) f cdv A outer s H E).nox (defBody st) t/\t { nx:=fun _ H'=>Q .non H',rt:=Q } (start N vs) H):FnOk P w K mg base CX0 (k+1) f fd ps sp:=by
 obtain⟨oc,od,kV,doc,pm,an,cdv,ct,osl,rfl,lk,hcd⟩:=F.ex
 refine yY4 lk hcd S len fun A outer s H vs Q E hr hsp => ?_
 obtain⟨t,h,q⟩:=hbody cdv A outer s H vs Q E hr hsp
 exact⟨t,h.nox,q⟩
theorem Fun.binds {x qual:Str}{st:Stmt}{f:Addr}{fd:FuncData}{ps:List Str}(F:Fun K x qual st f fd)
  (h:∀(kV doc pm:Value) (an:Option Addr) (cdv ct:Value) (us:List Value),us.length=ps.length->bindArgs (PySem.W.fnOf x qual (defArgs st) (defBody st) (zX st) .none kV doc pm an cdv ct) ⟨us,[]⟩=pure (ps.zip us)):Binds K fd ps []:=by
 obtain⟨oc,od,kV,doc,pm,an,cdv,ct,osl,rfl,lk,hcd⟩:=F.ex
 exact .all (h kV doc pm an cdv ct)
theorem xT1 {x qual:Str}{st:Stmt}{f:Addr}{oc:Value}{od an:Option Addr}{osl:Array (Option Value)}{kV doc pm cdv ct:Value}(l:K.lookup f=some ⟨oc,od,.func (PySem.W.fnOf x qual (defArgs st) (defBody st) (zX st) .none kV doc pm an cdv ct),osl⟩)
  (c:PySem.W.codeIn K cdv qual=true) (k:PySem.W.keepIn K (.ref f)=true):Fun K x qual st f (PySem.W.fnOf x qual (defArgs st) (defBody st) (zX st) .none kV doc pm an cdv ct):=⟨⟨oc,od,kV,doc,pm,an,cdv,ct,osl,rfl,l,c⟩,k⟩
end
theorem yJ6 {A:Around}{k:Nat}(hr:Room k A):A.units+1<cLine:=Nat.lt_of_le_of_lt (Nat.add_le_add_left (by decide:1<=64) _) hr.units
theorem small1000 {n:Nat}(h:n<=1000):n<sizeLine:=Nat.lt_of_le_of_lt h (by decide)
section
variable {X:Cx}
theorem pv (i:Nat){x:Str}{pos:Pos}(hN:autoParam (X.N[i]?=some x) zW._auto_1) (hv:autoParam (Vis X.env.scope x) kO._auto_1) (hd:autoParam ((x == ("__debug__":Str))=false) zG._auto_1)
  (hcd:autoParam ((x == ("__classdict__":Str))=false) zG._auto_1):PE X (.Name x pos) (tVar i):=kW hN hv hd hcd
end
theorem iteF {A B:Prop}(h:B):if false=true then A else B:=by
 rw[if_neg Bool.false_ne_true]
 exact h
theorem iteT {A B:Prop}(h:A):if true=true then A else B:=by
 rw[if_pos rfl]
 exact h
def Same (H H':Hp):Prop:=∀b o,H b=some o->H' b=some o
theorem Same.refl (H:Hp):Same H H:=fun _ _ h=>h
theorem Same.trans {H H1 H2:Hp}(a:Same H H1) (b:Same H1 H2):Same H H2:=fun c o h=>b c o (a c o h)
theorem Same.free {H H':Hp}(e:Same H H'){l:Addr}(h:H' l=Option.none):H l=Option.none:=by
 cases q:H l with
 | none=>rfl
 | some o =>
  rw[e l o q] at h
  cases h
theorem Same.seq {K:KFr}{H H':Hp}{a:Addr}{xs:List V}(e:Same H H') (h:SqL K H a xs):SqL K H' a xs:=by
 rcases h with (h | ⟨o,h⟩) | h
 ·exact .inl (.inl (e _ _ h))
 ·exact .inl (.inr ⟨o,e _ _ h⟩)
 ·exact .inr h
end L2
set_option maxHeartbeats 2000000
namespace PySem
section
variable {prog:Program}{w:World}{A:Around}{E:Value->Shared->Prop}{s:Shared}
theorem yR5 {l:Addr}{its:Array Value}{P:Value->Shared->Prop}(hh:A.handled=none) (hl:s.heap.IsList l its)
  (k:∀(I:Addr) (hp:Heap) (St:Nat->Heap->Prop),Walks prog w A I [I,l] [I] its.size (fun i v=>its[i]?=some v) St->St 0 hp->I<hp.objs.size->l<hp.objs.size->(∀b o,s.heap.get? b=some o->b≠I/\hp.get? b=some o)->P (.ref I) { s with heap:=hp }) :
  wpAny (model prog w) A (pyIter (.ref l)) P E s:=by
 have on:∀{b:Addr}{o:Obj},s.heap.get? b=some o->b<s.heap.objs.size:=fun g=>Heap.lt_size g
 have ll:l<s.heap.objs.size:=let ⟨_,g,_⟩:=hl;on g
 refine wpAny_pyIter_list hl (k _ _ _ (Walks.list hh _ l (Nat.ne_of_lt ll) its) ⟨⟨_,Heap.get?_push_size _ rfl,rfl,rfl⟩,hl.at fun _ g=>Heap.get?_push_of_some _ g⟩ ?_ ?_ fun b o g=>⟨Nat.ne_of_lt (on g),Heap.get?_push_of_some _ g⟩)
 ·exact Nat.lt_of_lt_of_eq (Nat.lt_succ_self _) (Heap.size_push ..).symm
 ·exact Nat.lt_of_lt_of_eq (Nat.lt_succ_of_lt ll) (Heap.size_push ..).symm
theorem zM5 {l:Addr}{its:Array Value}{P:Value->Shared->Prop}(hh:A.handled=none) (hl:s.heap.IsTuple l its)
  (k:∀(I:Addr) (hp:Heap) (St:Nat->Heap->Prop),Walks prog w A I [I,l] [I] its.size (fun i v=>its[i]?=some v) St->St 0 hp->I<hp.objs.size->l<hp.objs.size->(∀b o,s.heap.get? b=some o->b≠I/\hp.get? b=some o)->P (.ref I) { s with heap:=hp }) :
  wpAny (model prog w) A (pyIter (.ref l)) P E s:=by
 have on:∀{b:Addr}{o:Obj},s.heap.get? b=some o->b<s.heap.objs.size:=fun g=>Heap.lt_size g
 have ll:l<s.heap.objs.size:=let ⟨_,g,_⟩:=hl;on g
 refine wpAny_pyIter_tuple hl (k _ _ _ (Walks.tuple hh _ l (Nat.ne_of_lt ll) its) ⟨⟨_,Heap.get?_push_size _ rfl,rfl,rfl⟩,hl.at fun _ g=>Heap.get?_push_of_some _ g⟩ ?_ ?_ fun b o g=>⟨Nat.ne_of_lt (on g),Heap.get?_push_of_some _ g⟩)
 ·exact Nat.lt_of_lt_of_eq (Nat.lt_succ_self _) (Heap.size_push ..).symm
 ·exact Nat.lt_of_lt_of_eq (Nat.lt_succ_of_lt ll) (Heap.size_push ..).symm
theorem yG4 {l b:Addr}{xs ys:Array Value}{n m:Nat}{o:Obj}(hc:o.cls=.type "tuple") (hd:o.data=.seq ys m) (fit:xs.size+ys.size<=sizeLine) :
  Meets (Builtin.«list.extend» ⟨[.ref l,.ref b],[]⟩) (fun _ R x=>x.heap.get? l=some { cls:=.type "list",data:=.seq xs n }/\x.heap.get? b=some o/\R (.ok (.ret .none)) { x with heap:=x.heap.update l (Obj.mapSeq (·++ys)) }) :=
 .of_wp fun prog w A R x ⟨hl,hb,k⟩=>by
  have t:x.TypeIs (.ref b) "tuple":=⟨o,hb,hc⟩
  have e1:Builtin.List.listTooLong (xs.size+ys.size)=false:=by
   unfold Builtin.List.listTooLong
   simpa using fit
  have e2:(xs++ys).size<=sizeLine+1:=by rw[Array.size_append];bv_omega
  have e3:xs.size<=sizeLine:=by bv_omega
  wp_walk using wpAny_typeOf t,wpAny_seqItems hl rfl,wpAny_seqItems hb hd,wpAny_updateSeq hl rfl
  exact⟨_,rfl,k⟩
section
variable {it t:Addr}{i:Nat}{its:Array Value}
end
theorem yX5 {M:Model}{scope:Scope}{g bi:Addr}{cl:List (Str×Addr)}{qual:Str}{cd:Value}{outer:Env}{P:Value->Env->Shared->Prop}(nocell:∀y∈scope.names,y.2 ≠ .cell) (kind:scope.kind=.function)
  (k:∀(D C:Addr) (hp:Heap) (m:Str->Option Value),s.heap.objs.size<=D->s.heap.objs.size<=C->D≠C->(∀b o,s.heap.get? b=some o->hp.get? b=some o)->hp.get? D=some { cls:=.type "list",data:=.seq #[] }->hp.Ns C m->P (.ref D) (newEnv scope C g cl qual none cd (some outer) bi) { s with heap:=hp }) :
  wpAny M A (newList []) (fun acc x=>wpAny M A (newFunctionEnv scope g cl [] qual none cd (some outer) bi) (fun e y=>P acc e y) E x) E s:=by
 unfold newList
 refine wpAny_newObj_type (wpAny_newFunctionEnv nocell (fun _ z=>nomatch z) (fun hp ns sb => ?_) kind)
 have z:(s.heap.push { cls:=.type "list",data:=.seq #[] }).objs.size=s.heap.objs.size+1:=Heap.size_push ..
 have up:∀b o,(s.heap.push { cls:=.type "list",data:=.seq #[] }).get? b=some o->hp.get? b=some o:=fun b o q=>sb.extBut b o (Nat.ne_of_lt (Heap.lt_size q)) (Heap.get?_push_of_some _ q)
 exact k _ _ hp _ (Nat.le_refl _) (by show _<=(s.heap.push _).objs.size;rw[Heap.size_push];bv_omega) (by show _≠(s.heap.push _).objs.size;rw[Heap.size_push];bv_omega) (fun b o q=>up b o (Heap.get?_push_of_some _ q)) (up _ _ (Heap.get?_push_size _ rfl)) ns
end
end PySem
set_option maxHeartbeats 2000000
namespace PySem
section
variable {prog:Program}{w:World}{A:Around}{E:Value->Shared->Prop}{s:Shared}
end
end PySem
namespace L2
open PySem PySem.Spec PyProof.Rows
theorem HOk.track {P:Program}{w:World}{H:Hp}{h:Heap}{a:Addr}{o:HO}(x:HOk P w H h) (hn:H a=none) (new:ObjOk P w (upd H a o) h a o):HOk P w (upd H a o) h:=fun b u e=>by
 by_cases hb:b=a
 ·subst hb;rw[yD] at e;cases e;exact new
 ·rw[zN hb] at e
  exact (x b u e).stay (fun c v _ q=>q) (fun c q=>by rw[zN (xT q hn)];exact q) fun c xs q=>by rw[zN (xT q hn)];exact q
def clos (cells:List (Str×Addr)):List (Str×NameKind)->List (Str×Addr)->List (Str×Addr)
 | [],acc=>acc
 | (n,k)::r,acc=>if k == .free then clos cells r ((n,(cells.lookup n).getD 0)::acc) else clos cells r acc
theorem qO {env:Env}:∀(names:List (Str×NameKind)) (acc:List (Str×Addr)),(∀n,(n,NameKind.free)∈names->∃c,env.cells.lookup n=some c) ->
  (forIn names acc fun (x:Str×NameKind) (r:List (Str×Addr))=>(do
   let (name,kind):=x
   if kind == .free then do
    let c <-cellOf env name
    pure (ForInStep.yield ((name,c)::r))
   else pure (ForInStep.yield r):Sem (ForInStep (List (Str×Addr)))))=pure (clos env.cells names acc)
 | [],acc,_=>rfl
 | (n,k)::r,acc,h=>by
  rw[List.forIn_cons]
  by_cases hk:(k == NameKind.free)=true
  ·have ek:k=NameKind.free:=by simpa using hk
   obtain⟨c,hc⟩:=h n (by rw[ek];exact List.mem_cons_self)
   have e1:cellOf env n=pure c:=by unfold cellOf;rw[hc]
   simp only[hk,if_true,e1,pure_bind]
   rw[qO r _ fun m hm=>h m (List.mem_cons_of_mem _ hm)]
   show _=pure (if (k == NameKind.free)=true then clos env.cells r ((n,(env.cells.lookup n).getD 0)::acc) else clos env.cells r acc)
   rw[if_pos hk,hc]
   rfl
  ·simp only[hk,if_false,pure_bind,Bool.false_eq_true]
   rw[qO r _ fun m hm=>h m (List.mem_cons_of_mem _ hm)]
   show _=pure (if (k == NameKind.free)=true then clos env.cells r ((n,(env.cells.lookup n).getD 0)::acc) else clos env.cells r acc)
   rw[if_neg hk]
theorem zR7 {scope:Scope}{env:Env}(h:∀n,(n,NameKind.free)∈scope.names->∃c,env.cells.lookup n=some c):closureFor scope env=pure (clos env.cells scope.names []):=by
 unfold closureFor
 have:=qO (env:=env) scope.names [] h
 simp only[] at this ⊢
 rw[show (forIn scope.names ([]:List (Str×Addr)) fun (x:Str×NameKind) (r:List (Str×Addr))=>(do
   if x.2 == .free then do
    let c <-cellOf env x.1
    pure (ForInStep.yield ((x.1,c)::r))
   else pure (ForInStep.yield r):Sem (ForInStep (List (Str×Addr)))))=pure (clos env.cells scope.names []) from this]
 rfl
theorem fK {cells:List (Str×Addr)}:∀(names:List (Str×NameKind)) (acc:List (Str×Addr)),(∀n,(n,NameKind.free)∈names->∃c,cells.lookup n=some c)->(∀x c,acc.lookup x=some c->cells.lookup x=some c) ->
  ∀x c,(clos cells names acc).lookup x=some c->cells.lookup x=some c
 | [],acc,_,ha,x,c,e=>ha x c e
 | (n,k)::r,acc,h,ha,x,c,e=>by
  unfold clos at e
  by_cases hk:(k == NameKind.free)=true
  ·rw[if_pos hk] at e
   have ek:k=NameKind.free:=by simpa using hk
   obtain⟨d,hd⟩:=h n (by rw[ek];exact List.mem_cons_self)
   refine fK r _ (fun m hm=>h m (List.mem_cons_of_mem _ hm)) (fun y z q => ?_) x c e
   rw[hd,Option.getD_some,List.lookup_cons] at q
   by_cases hy:(y == n)=true
   ·simp only[hy] at q
    have ey:y=n:=by simpa using hy
    cases q
    rw[ey];exact hd
   ·simp only[hy] at q
    exact ha y z q
  ·rw[if_neg hk] at e
   exact fK r _ (fun m hm=>h m (List.mem_cons_of_mem _ hm)) ha x c e
theorem bF {cells:List (Str×Addr)}:∀(names:List (Str×NameKind)) (acc:List (Str×Addr)) (x:Str),(∃c,acc.lookup x=some c)->∃c,(clos cells names acc).lookup x=some c
 | [],acc,x,h=>h
 | (n,k)::r,acc,x,h=>by
  unfold clos
  by_cases hk:(k == NameKind.free)=true
  ·rw[if_pos hk]
   refine bF r _ x ?_
   rw[List.lookup_cons]
   by_cases hy:(x == n)=true
   ·simp only[hy];exact⟨_,rfl⟩
   ·simp only[hy];exact h
  ·rw[if_neg hk];exact bF r _ x h
theorem fV {cells:List (Str×Addr)}:∀(names:List (Str×NameKind)) (acc:List (Str×Addr)) (x:Str),(x,NameKind.free)∈names->∃c,(clos cells names acc).lookup x=some c
 | (n,k)::r,acc,x,h=>by
  unfold clos
  rcases List.mem_cons.mp h with e | e
  ·cases e
   rw[if_pos (by rfl)]
   refine bF r _ _ ?_
   rw[List.lookup_cons]
   simp only[beq_self_eq_true]
   exact⟨_,rfl⟩
  ·by_cases hk:(k == NameKind.free)=true
   ·rw[if_pos hk];exact fV r _ x e
   ·rw[if_neg hk];exact fV r _ x e
theorem zB7 (env:Env):∃f:Str×NameKind->Str×NameKind,(∀sc:Scope,(relabel sc env).names=sc.names.map f)/\∀q,f q=q\/(q.2=.free/\f q=(q.1,.cell)):=by
 refine⟨_,fun _=>rfl,fun q => ?_⟩
 dsimp only
 split
 ·rename_i z
  exact .inr ⟨eq_of_beq (Bool.and_eq_true_iff.mp (Bool.and_eq_true_iff.mp z).1).1,rfl⟩
 ·exact .inl rfl
theorem zS3 {f:Str×NameKind->Str×NameKind}(hf:∀q,f q=q\/(q.2=.free/\f q=(q.1,.cell))) (x:Str):∀l:List (Str×NameKind),(l.map f).lookup x=l.lookup x\/(l.lookup x=some .free/\(l.map f).lookup x=some .cell)
 | []=>.inl rfl
 | (n,k)::r=>by
  have ih:=zS3 hf x r
  rw[List.map_cons]
  rcases hf (n,k) with e | ⟨e1,e⟩
  ·rw[e]
   cases q:x == n with
   | true=>exact .inl (by rw[List.lookup_cons,List.lookup_cons,q])
   | false=>simpa only[List.lookup_cons,q] using ih
  ·cases e1
   rw[e]
   cases q:x == n with
   | true=>exact .inr ⟨by rw[List.lookup_cons,q],by rw[List.lookup_cons,q]⟩
   | false=>simpa only[List.lookup_cons,q] using ih
theorem dC (sc:Scope) (env:Env) (x:Str):(relabel sc env).names.lookup x=sc.names.lookup x\/(sc.names.lookup x=some .free/\(relabel sc env).names.lookup x=some .cell):=by
 obtain⟨f,e,hf⟩:=zB7 env
 rw[e sc]
 exact zS3 hf x sc.names
theorem dX {sc:Scope}{env:Env}{x:Str}{k:NameKind}(h:(relabel sc env).names.lookup x=some k):sc.names.lookup x=some k\/(k=.cell/\sc.names.lookup x=some .free):=by
 rcases dC sc env x with e | ⟨e1,e2⟩
 ·exact .inl (e.symm.trans h)
 ·exact .inr ⟨Option.some.inj (h.symm.trans e2),e1⟩
theorem zN8 {sc:Scope}{env:Env}{x:Str}(h:sc.names.lookup x=some .free):(relabel sc env).names.lookup x=some .cell\/(relabel sc env).names.lookup x=some .free:=by
 rcases dC sc env x with e | ⟨_,e⟩
 ·exact .inr (e.trans h)
 ·exact .inl e
def cxComp (X:Cx) (N:List Str) (scope:Scope) (C:Addr) (fp:List Addr) (s₂:Shared) (H:Hp):Cx where
 prog:=X.prog
 w:=X.w
 K:=X.K
 mg:=X.mg
 base:=X.base
 A:=X.A
 N:=N
 s₀:=s₂
 H₀:=H
 env:=compEnvC scope (clos X.env.cells scope.names []) C X.env
 outer:=X.stack
 stack:=X.stack
 ex:=fp
 fn:=fun _=>false
 calm:=X.calm
 pn:=[]
 xe:=fun _ _=>False
structure CompScope (sc0 scope:Scope) (N0:List Str) (xt:Str) (fs:List Str) (js:List Nat):Prop where
 kind:scope.kind=.function
 nocell:∀y∈scope.names,y.2 ≠ .cell
 names:∀y∈scope.names,y.2=.local->scope.names.lookup y.1=some .local
 tgt:scope.names.lookup xt=some .local
 frees:∀y∈scope.names,y.2=.free->sc0.names.lookup y.1=some .cell\/sc0.names.lookup y.1=some .free
 len:js.length=fs.length
 slots:∀p∈fs.zip js,N0[p.2]?=some p.1/\scope.names.lookup p.1=some .free
 nd:(xt::fs).Nodup
theorem zC1 {α β:Type}:∀{fs:List α}{js:List β}{i:Nat}{y:α}{j:β},fs[i]?=some y->js[i]?=some j->(y,j)∈fs.zip js
 | [],_,_,_,_,h,_=>by simp at h
 | _::_,[],_,_,_,_,h=>by simp at h
 | a::fs,b::js,0,y,j,h,h'=>by
  simp at h h'
  subst h h'
  exact List.mem_cons_self
 | a::fs,b::js,i+1,y,j,h,h'=>by
  rw[List.zip_cons_cons]
  exact List.mem_cons_of_mem _ (zC1 (i:=i) (by simpa using h) (by simpa using h'))
def compSt (σ:St) (js:List Nat) (v:Option V):St:=v::js.map fun j=>(σ[j]?).join
section
variable {X:Cx}{pins:List (Addr×Obj)}{σ:St}{H:Hp}{s₂ s₄:Shared}{sc0 scope:Scope}{N0:List Str}{xt:Str}{fs:List Str}{js:List Nat}{fp:List Addr}
theorem CompScope.cells (S:CompScope sc0 scope N0 xt fs js) (h0:X.env.scope=sc0) (ok:X.Ok):∀n,(n,NameKind.free)∈scope.names->∃c,X.env.cells.lookup n=some c:=fun n hn=>ok.has n (by subst h0;exact S.frees _ hn rfl)
theorem CompScope.sub (S:CompScope sc0 scope N0 xt fs js) (h0:X.env.scope=sc0) (ok:X.Ok):∀x c,(clos X.env.cells scope.names []).lookup x=some c->X.env.cells.lookup x=some c :=
 fK scope.names [] (S.cells h0 ok) fun x c e=>by simp at e
theorem Inv.block (S:CompScope sc0 scope N0 xt fs js) (h0:X.env.scope=sc0) (hN0:X.N=N0) (I:Inv X pins σ H s₂) (hf:∀b∈fp,FpOk X pins H b) (hfo:∀b∈fp,∃o,s₂.heap.get? b=some o)
  (hos:s₄.os=s₂.os) (hg:AllBare s₄.gens) (hk:∀b o,s₂.heap.get? b=some o->s₄.heap.get? b=some o){C:Addr}(hC:s₂.heap.objs.size<=C){m:Str->Option Value}(hn:s₄.heap.Ns C m) :
  Inv (cxComp X (xt::fs) scope C fp s₂ H) [] (compSt σ js none) H s₄:=by
 have sub:=S.sub h0 I.ok
 have blt:∀b∈fp,b<s₂.heap.objs.size:=fun b hb=>let ⟨o,e⟩:=hfo b hb;Heap.lt_size e
 have ok:(cxComp X (xt::fs) scope C fp s₂ H).Ok:=by
  refine⟨I.ok.mod,S.kind,I.ok.glob,I.ok.blt,hC,fun x y c h1 h2=>I.ok.inj x y c (sub x c h1) (sub y c h2),fun x hx => ?_,fun x c h=>(nomatch h),I.ok.hd,I.ok.frames,.inl rfl,fun b hb=>⟨?_,fun x c h=>(hf b hb).2.2.2.2.1 x c (sub x c h)⟩,I.bs,Nat.le_trans I.ok.bsz I.sz,fun b o e hb => ?_,fun b hb hs => ?_,I.stack,I.stkFree⟩
  ·have hx:(relabel scope X.env).names.lookup x=some .cell\/(relabel scope X.env).names.lookup x=some .free:=hx
   have hfree:scope.names.lookup x=some .free:=by
    rcases hx with hx | hx
    ·rcases dX hx with q | ⟨_,q⟩
     ·exact absurd rfl (S.nocell _ (PySem.mem_of_lookup q))
     ·exact q
    ·rcases dX hx with q | ⟨q,_⟩
     ·exact q
     ·cases q
   exact fV scope.names [] x (PySem.mem_of_lookup hfree)
  ·exact Nat.ne_of_lt (Nat.lt_of_lt_of_le (blt b hb) hC)
  ·rcases (hf b hb).2.2.2.1 with z | z
   ·exact I.ok.noex b o e z
   ·exact absurd (Nat.lt_of_lt_of_le (Heap.lt_size (I.ok.bs b o e).1) z) (Nat.lt_irrefl _)
  ·rcases List.mem_cons.mp (I.stkSub b hs) with z | z
   ·exact (hf b hb).2.1 z
   ·exact (hf b hb).2.2.1 z
 refine⟨ok,hos,hg,Un.kept hk,⟨m,hn,fun i x v e1 e2 e3 => ?_⟩,fun x c e => ?_,I.hok.fresh hC,fun x c e=>I.freeC x c (sub x c e),fun p hp=>absurd (show p∈([]:List (Addr×Obj)) from hp) (by simp),I.hok.kept hk,?_⟩
 ·cases i with
  | zero=>cases e2
  | succ i =>
   have e1:fs[i]?=some x:=e1
   have e2:(js.map fun j=>(σ[j]?).join)[i]?=some (some v):=e2
   rw[List.getElem?_map] at e2
   cases ej:js[i]? with
   | none=>rw[ej] at e2;cases e2
   | some j =>
    rw[ej] at e2
    have e2:(σ[j]?).join=some v:=Option.some.inj e2
    obtain⟨hN,hfr⟩:=S.slots _ (zC1 e1 ej)
    have hN:X.N[j]?=some x:=by rw[hN0];exact hN
    have hk2:X.env.kindOf x=some .cell\/X.env.kindOf x=some .free:=by subst h0;exact S.frees _ (PySem.mem_of_lookup hfr) rfl
    have hs:σ[j]?=some (some v):=by
     cases q:σ[j]? with
     | none=>rw[q] at e2;cases e2
     | some z=>rw[q] at e2;rw[show z=some v from e2]
    obtain⟨m0,hn0,hl⟩:=I.loc
    obtain⟨u,r,l⟩:=hl j x v hN hs (by rcases hk2 with z | z;exact .inr (.inl z);exact .inr (.inr z))
    refine⟨u,r,?_⟩
    rcases l with ⟨hloc,_⟩ | ⟨_,c,hc,hcell⟩
    ·rcases hk2 with z | z
     ·rw[z] at hloc;cases hloc
     ·rw[z] at hloc;cases hloc
    ·obtain⟨c',hc'⟩:=fV (cells:=X.env.cells) scope.names [] x (PySem.mem_of_lookup hfr)
     have:c'=c:=Option.some.inj ((sub x c' hc').symm.trans hc)
     subst this
     exact .inr ⟨zN8 hfr,c',hc',hcell.keeps hk⟩
 ·obtain⟨v,z⟩:=I.cell x c (sub x c e)
  exact⟨v,z.keeps hk⟩
 ·show (compSt σ js none).length=(xt::fs).length
  unfold compSt
  rw[List.length_cons,List.length_map,List.length_cons,S.len]
theorem Inv.unblock {pins':List (Addr×Obj)}{σ':St}{H':Hp}{s':Shared}{h'':Heap}{C D:Addr}{its:List Value}{n:Nat}{acc:List V}{N:List Str}(I:Inv X pins σ H s₂) (hf:∀b∈fp,FpOk X pins H b)
  (J:Inv (cxComp X N scope C fp s₂ H) pins' σ' H' s') (hC:s₂.heap.objs.size<=C) (hD:s₂.heap.objs.size<=D) (hDC:D≠C) (hHD:H' D=none)
  (hd:s'.heap.get? D=some { cls:=.type "list",data:=.seq its.toArray n }) (hv:Vals acc its) (hz:acc.length<=sizeLine) (hsb:Heap.SameBut C s'.heap h'') :
  Inv X pins σ (upd H' D (.lst acc)) { s' with heap:=h'' }:=by
 have hd2:h''.get? D=some { cls:=.type "list",data:=.seq its.toArray n }:=(hsb.2 D hDC).trans hd
 have keep:∀b o,b<s₂.heap.objs.size->s'.heap.get? b=some o->h''.get? b=some o:=fun b o hb e=>(hsb.2 b (Nat.ne_of_lt (Nat.lt_of_lt_of_le hb hC))).trans e
 have hHC:H' C=none:=J.free
 have ok1:HOk X.prog X.w H' h'':=fun b o e=>(J.hok b o e).stay (fun c v hc q=>(hsb.2 c (by
   rcases hc with z | z
   ·rw[z];exact fun w=>by rw[w,hHC] at e;cases e
   ·exact fun w=>by rw[w,hHC] at z;cases z)).trans q) (fun _ q=>q) fun _ _ q=>q
 have ok2:HOk X.prog X.w (upd H' D (.lst acc)) h'':=ok1.track hHD ⟨hz,its,n,hv,hd2⟩
 have un:Un (frs X.stack) fp H (upd H' D (.lst acc)) s₂.heap h'':=by
  have u:=J.base
  refine⟨fun b o e nb h1 h2=>keep b o (Heap.lt_size e) (u.keep b o e nb h1 h2),fun b o e nb h1 h2 => ?_,fun b o e nb h2 => ?_,fun b o e h2 => ?_,fun b xs e => ?_,fun b o v e => ?_,fun b ps e => ?_⟩
  ·obtain⟨sl,q⟩:=u.slot b o e nb h1 h2
   exact⟨sl,keep b _ (Heap.lt_size e) q⟩
  ·rw[zN (Nat.ne_of_lt (Nat.lt_of_lt_of_le (Heap.lt_size e) hD))]
   exact u.free b o e nb h2
  ·obtain⟨o',q⟩:=u.there b o e h2
   exact⟨o',keep b _ (Heap.lt_size e) q⟩
  ·have q:=u.tups b xs e
   rw[zN (xT q hHD)];exact q
  ·have q:=u.frzs b o v e
   rw[zN (xT q hHD)];exact q
  ·obtain⟨more,q⟩:=u.tbls b ps e
   exact⟨more,by rw[zN (xT q hHD)];exact q⟩
 obtain⟨hh,g,d,t,os'⟩:=s'
 obtain rfl:os'=s₂.os:=J.os
 exact Inv.call (s:=s₂) I (h':=h'') (g':=g) (d':=d) (t':=t) (ch:=fp) un ok2 J.bare fun b hb=>⟨(hf b hb).2.2.2.1,(hf b hb).2.1,(hf b hb).2.2.2.2.1,(hf b hb).2.2.2.2.2⟩
end
def tTrue:TT:=fun _ H Q=>Q true H
inductive PTs (X:Cx):List Expr->TT->Prop
 | nil:PTs X [] tTrue
 | one {c:Expr}{t:TT}:PT X c t->PTs X [c] t
def tComp (wi:TI) (tt:Addr->List Addr->Shared->Hp->TT) (te:Addr->List Addr->Shared->Hp->TE) (js:List Nat):TE:=fun σ H Q=>wi σ H fun J H1=>∀C fp s₂ H₂,∃W:Nat->Nat->List V->Hp->Prop,(∃m,W 0 m [] H1)/\∀i m acc H,W i m acc H ->
 (J.stop i H/\∀p,H p=none->Q (.ref p) (upd H p (.lst acc))) \/
 (J.go i H/\∃N:List V->Hp->Prop,(∀acc' H',N acc' H'->∃m',m'<m/\W (i+1) m' acc' H') /\
  ∀x H',J.yld i H x H'->tt C fp s₂ H₂ (compSt σ js (some x)) H' fun b H2=>if b=true then te C fp s₂ H₂ (compSt σ js (some x)) H2 fun v H3=>acc.length<sizeLine/\N (acc ++ [v]) H3 else N acc H2)
theorem zV9 {X:Cx}{elt iter:Expr}{ifs:List Expr}{sc0 scope:Scope}{N0:List Str}{px pos:Pos}{xt:Str}{fs:List Str}{js:List Nat}{wi:TI}{tt:Addr->List Addr->Shared->Hp->TT}{te:Addr->List Addr->Shared->Hp->TE}(S:CompScope sc0 scope N0 xt fs js) (h0:X.env.scope=sc0) (hN0:X.N=N0) (hc:X.calm=true)
  (hi:PI X (.Name xt px) iter wi) (ht:∀C fp s₂ H,PTs (cxComp X (xt::fs) scope C fp s₂ H) ifs (tt C fp s₂ H)) (he:∀C fp s₂ H,PE (cxComp X (xt::fs) scope C fp s₂ H) elt (te C fp s₂ H))
  (hs:autoParam (∀x,foldedSetIterable iter X.env x=pure x) qR._auto_1)
  {pins:List (Addr×Obj)}{cpos:Pos}{s:Shared}{σ:St}{H:Hp}{Q:VK}{use:Option (Value->Sem Unit)}{Qv:Value->Shared->Prop}(I:Inv X pins σ H s) (h:tComp wi tt te js σ H Q)
  (hfin:∀(s':Shared) (C D:Addr) (Ha:Hp) (fl:Flow),(∀h'',Heap.SameBut C s'.heap h''->Inv X pins σ Ha { s' with heap:=h'' })->(∃m,s'.heap.Ns C m)->FpOk X pins Ha C->Q (.ref D) Ha->compPost (model X.prog X.w) X.A X.xe use Qv (.ref D) C (.ok fl) s') :
  wpAny (model X.prog X.w) X.A (comprehension (.ListComp elt [⟨.Name xt px,iter,ifs,0⟩] scope pos) scope X.env cpos (newList []) false (eval iter X.env) use) Qv X.xe s:=by
 refine wpAny_comprehension_free (use:=use) rfl hs (zR7 (S.cells h0 I.ok)) S.kind S.names ?_
 refine thn (hi pins s σ H _ I h) fun v s1 h1=>thn h1 fun itv s2 h2 => ?_
 obtain⟨it,fp,tn,J,H2,e,I2,T,st2,f2,hW⟩:=h2
 subst e
 have fo:∀b∈fp,∃o,s2.heap.get? b=some o:=fun b hb=>let ⟨o,e,_⟩:=T.obj 0 s2.heap st2 b hb; ⟨o,e⟩
 have blt:∀b∈fp,b<s2.heap.objs.size:=fun b hb=>let ⟨o,e⟩:=fo b hb;Heap.lt_size e
 refine yX5 S.nocell S.kind fun D C h₁ mC hDle hCle hDC old hacc hns₁ => ?_
 have bC:∀b o,s2.heap.get? b=some o->b≠C:=fun b o q z=>Nat.not_lt.mpr hCle (z▸Heap.lt_size q)
 have bD:∀b o,s2.heap.get? b=some o->b≠D:=fun b o q z=>Nat.not_lt.mpr hDle (z▸Heap.lt_size q)
 obtain⟨W,⟨m0,w0⟩,turn⟩:=hW C fp s2 H2
 have fpk:∀{H':Hp}(ob:Obj),(∀b∈fp,H' b=none)->∀b∈fp,FpOk (cxComp X (xt::fs) scope C fp s2 H2) [(D,ob)] H' b:=fun {H'} ob hn b hb=>by
  refine⟨hn b hb,Nat.ne_of_lt (Nat.lt_of_lt_of_le (blt b hb) hCle),fun z => ?_,.inl hb,fun x c e=>(f2 b hb).2.2.2.2.1 x c (S.sub h0 I2.ok x c e),fun p hp => ?_⟩
  ·rcases List.mem_cons.mp (I2.stkSub b z) with q | q
   ·exact (f2 b hb).2.1 q
   ·exact (f2 b hb).2.2.1 q
  ·have:p=(D,ob):=by
    have hp:p ∈ [] ++ [(D,ob)]:=hp
    simpa using hp
   subst this
   exact Nat.ne_of_gt (Nat.lt_of_lt_of_le (blt b hb) hDle)
 have loop:codeAny (model X.prog X.w) X.A (.compLoop (.ListComp elt [⟨.Name xt px,iter,ifs,0⟩] scope pos) 0 (.ref it) (.ref D) (compEnvC scope (clos X.env.cells scope.names []) C X.env))
    (compPost (model X.prog X.w) X.A X.xe use Qv (.ref D) C) { s2 with heap:=h₁ }:=by
  have J0:Inv (cxComp X (xt::fs) scope C fp s2 H2) [] (compSt σ js none) H2 { s2 with heap:=h₁ } :=
   Inv.block (s₂:=s2) (s₄:={ s2 with heap:=h₁ }) S h0 hN0 I2 f2 fo rfl I2.bare old hCle hns₁
  have H2D:H2 D=none:=I2.hok.fresh hDle
  have ofD:D∉frs X.stack:=fun z=>by
   rcases List.mem_cons.mp (I2.stkSub D z) with q | q
   ·exact absurd I2.lt (by rw[<-q];exact Nat.not_lt.mpr hDle)
   ·exact I2.nofs (a:=D) hDle q
  refine codeAny_loop rfl (fun n s'=>∃(i:Nat) (σ':St) (H':Hp) (acc:List V) (its:List Value) (k:Nat),(∃v0,σ'=compSt σ js v0)/\Inv (cxComp X (xt::fs) scope C fp s2 H2) [] σ' H' s'/\tn i s'.heap/\(∀b∈fp,H' b=none)/\H' D=none /\
    s'.heap.get? D=some { cls:=.type "list",data:=.seq its.toArray k }/\Vals acc its/\acc.length<=sizeLine/\W i n acc H') ?_ m0
   ⟨0,_,H2,[],[],0,⟨none,rfl⟩,J0,T.keep 0 _ _ st2 fun b hb o e=>old b o e,fun b hb=>(f2 b hb).1,H2D,hacc,.nil,Nat.zero_le _,w0⟩
  rintro n s3 ⟨i,σ3,H3,acc,its,k,⟨v0,rfl⟩,I3,st3,fr3,hD3,d3,va,hz,w3⟩
  show wpAny _ X.A ((compTurn (.ListComp elt [⟨.Name xt px,iter,ifs,0⟩] scope pos) 0 (.ref it) (.ref D) (compEnvC scope (clos X.env.cells scope.names []) C X.env)).onRaise (fun x=>do noteFrame x (compEnvC scope (clos X.env.cells scope.names []) C X.env);theTreesLotGoes x)) _ _ s3
  refine wpAny_noted ?_
  rw[compTurn_list]
  refine wpAny_bind (wpAny_standAt ?_)
  have pinD:Inv (cxComp X (xt::fs) scope C fp s2 H2) [(D,{ cls:=.type "list",data:=.seq its.toArray k })] (compSt σ js v0) H3 s3:=I3.qP fun p hp=>by
   have:p=(D,{ cls:=.type "list",data:=.seq its.toArray k }):=by simpa using hp
   subst this
   exact⟨d3,hD3,hDC,ofD,fun v z=>by cases z⟩
  refine wpAny_bind ?_
  rcases turn i n acc H3 w3 with ⟨stop,qn⟩ | ⟨go,N,hN,step⟩
  ·refine thn (T.done (cxComp X (xt::fs) scope C fp s2 H2) rfl rfl rfl hc i _ s3 _ H3 _ pinD (fpk _ fr3) st3 stop) fun r s4 ⟨hr,I4⟩ => ?_
   subst hr
   refine wpAny_pure ?_
   obtain⟨m4,hn4,_⟩:=I4.loc
   have hHC:H3 C=none:=I4.free
   refine hfin s4 C D (upd H3 D (.lst acc)) _ (fun h'' hsb=>I2.unblock f2 I4 hCle hDle hDC hD3 ((I4.pin (D,{ cls:=.type "list",data:=.seq its.toArray k }) (List.mem_append_right _ List.mem_cons_self)).1) va hz hsb) ⟨m4,hn4⟩ (I2.fpOk hCle (by rw[zN (Ne.symm hDC)];exact hHC)) (qn D hD3)
  ·refine thn (T.item (cxComp X (xt::fs) scope C fp s2 H2) rfl rfl rfl hc i _ s3 _ H3 _ pinD (fpk _ fr3) st3 go) fun r s4 ⟨u,hr,h4⟩ => ?_
   subst hr
   refine wpAny_bind (thn h4 fun _ s5 ⟨x,H5,I5,r5,y5,st5,fr5⟩ => ?_)
   have I5':=I5.pinned (fpk _ fr5) (T.obj _ _ st5)
   have gok:PG (cxComp X (xt::fs) scope C fp s2 H2) (.Name xt px) (gName 0):=zW7 S.nd rfl (.inl (lookup_relabel_local S.tgt)) (.inr (lookup_relabel_local S.tgt))
   have noE:∀(a:Value) (s':Shared),(cxComp X (xt::fs) scope C fp s2 H2).xe a s'->notedBy (model X.prog X.w) X.A (compEnvC scope (clos X.env.cells scope.names []) C X.env) (fun e s'=>compPost (model X.prog X.w) X.A X.xe use Qv (.ref D) C (.error e) s') a s':=fun _ _ z=>False.elim z
   refine wpAny_bind (wpAny_mono (gok _ s5 (compSt σ js v0) H5 x u (fun σ' H'=>σ'=compSt σ js (some x)/\H'=H5) I5' r5 ⟨rfl,rfl⟩) (fun _ s6 ⟨σ6,H6,I6,e6,e6'⟩ => ?_) noE)
   subst e6 e6'
   have fin:∀{acc':List V}{its':List Value}{k':Nat}{H7:Hp}{s7:Shared},Inv (cxComp X (xt::fs) scope C fp s2 H2) [] (compSt σ js (some x)) H7 s7->tn (i+1) s7.heap->(∀b∈fp,H7 b=none)->H7 D=none->s7.heap.get? D=some { cls:=.type "list",data:=.seq its'.toArray k' }->Vals acc' its'->acc'.length<=sizeLine->N acc' H7 ->
     ∃m,m<n/\∃(i:Nat) (σ':St) (H':Hp) (acc:List V) (its:List Value) (k:Nat),(∃v0,σ'=compSt σ js v0)/\Inv (cxComp X (xt::fs) scope C fp s2 H2) [] σ' H' s7/\tn i s7.heap/\(∀b∈fp,H' b=none)/\H' D=none /\
      s7.heap.get? D=some { cls:=.type "list",data:=.seq its.toArray k }/\Vals acc its/\acc.length<=sizeLine/\W i m acc H':=fun {acc' its' k' H7 s7} a1 a2 a3 a4 a5 a6 a7 a8=>by
    obtain⟨m',hm,w7⟩:=hN _ _ a8
    exact⟨m',hm,i+1,_,H7,acc',its',k',⟨_,rfl⟩,a1,a2,a3,a4,a5,a6,a7,w7⟩
   have rest:∀{H7:Hp}{s7:Shared},Inv (cxComp X (xt::fs) scope C fp s2 H2) ([(D,{ cls:=.type "list",data:=.seq its.toArray k })]++pinsAt fp s5.heap) (compSt σ js (some x)) H7 s7 ->
     tn (i+1) s7.heap/\(∀b∈fp,H7 b=none)/\H7 D=none/\s7.heap.get? D=some { cls:=.type "list",data:=.seq its.toArray k }:=fun {H7 s7} I7=>by
    refine⟨T.keep _ _ _ st5 fun b hb o e=>(I7.pin (b,o) (List.mem_append_right _ (List.mem_append_right _ (jO hb e)))).1,fun b hb => ?_,(I7.pin (D,{ cls:=.type "list",data:=.seq its.toArray k }) (List.mem_append_right _ (List.mem_append_left _ List.mem_cons_self))).2.1,(I7.pin (D,{ cls:=.type "list",data:=.seq its.toArray k }) (List.mem_append_right _ (List.mem_append_left _ List.mem_cons_self))).1⟩
    obtain⟨o,e,d⟩:=T.obj _ _ st5 b hb
    exact (I7.pin (b,o) (List.mem_append_right _ (List.mem_append_right _ (jO hb e)))).2.1
   have elem:∀{H7:Hp}{s7:Shared},Inv (cxComp X (xt::fs) scope C fp s2 H2) ([(D,{ cls:=.type "list",data:=.seq its.toArray k })]++pinsAt fp s5.heap) (compSt σ js (some x)) H7 s7 ->
     (te C fp s2 H2 (compSt σ js (some x)) H7 fun v H3=>acc.length<sizeLine/\N (acc ++ [v]) H3) ->
     wpAny (model X.prog X.w) X.A (eval elt (compEnvC scope (clos X.env.cells scope.names []) C X.env)) (fun y s8=>wpAny (model X.prog X.w) X.A (call (.builtin "list.append") [.ref D,y]) (fun _ s9=>∃m,m<n/\∃(i:Nat) (σ':St) (H':Hp) (acc:List V) (its:List Value) (k:Nat),(∃v0,σ'=compSt σ js v0)/\Inv (cxComp X (xt::fs) scope C fp s2 H2) [] σ' H' s9/\tn i s9.heap/\(∀b∈fp,H' b=none)/\H' D=none /\
      s9.heap.get? D=some { cls:=.type "list",data:=.seq its.toArray k }/\Vals acc its/\acc.length<=sizeLine/\W i m acc H')
      (fun _ _=>False) s8) (fun _ _=>False) s7:=fun {H7 s7} I7 q7=>by
    refine thn (he C fp s2 H2 _ s7 _ H7 _ I7 q7) fun y s8 ⟨v,H8,I8,r8,hl8,n8⟩ => ?_
    obtain⟨t8,fr8,hD8,d8⟩:=rest I8
    have hsz:=va.length
    refine call_meets F.slot_list_append ⟨_,d8,rfl⟩ F.entry_list_append (F.args_list_append_2 _ _) (PySem.list_append D its.toArray k y (by rw[List.size_toArray];bv_omega)) ⟨d8,?_⟩
    have q:=PySem.IsL.update d8 (·.push y)
    rw[show (its.toArray.push y)=(its ++ [y]).toArray by simp] at q
    have kk:∀b o,b≠D->s8.heap.get? b=some o->(s8.heap.update D (Obj.mapSeq (·.push y))).get? b=some o:=fun b o hb e=>(Heap.get?_update_other s8.heap _ (Ne.symm hb)).trans e
    have I9:Inv (cxComp X (xt::fs) scope C fp s2 H2) [] (compSt σ js (some x)) H8 { s8 with heap:=s8.heap.update D (Obj.mapSeq (·.push y)) }:=by
     refine Inv.turned (it:=D) (t':=s8.toks) (I8.qP (pins':=[]) fun p hp=>nomatch hp) kk hD8 hDC (.inr hDle) (fun x c e z => ?_) fun p hp=>absurd (show p∈([]:List (Addr×Obj)) from hp) (by simp)
     obtain⟨v,o,ho,_⟩:=I2.cell x c (S.sub h0 I2.ok x c e)
     exact bD c o ho z
    refine fin I9 (T.keep _ _ _ t8 fun b hb o e=>kk b o (Nat.ne_of_lt (Nat.lt_of_lt_of_le (blt b hb) hDle)) e) fr8 hD8 q (va.append (.cons r8 .nil)) ?_ n8
    rw[List.length_append,List.length_singleton]
    bv_omega
   have q6:=step x H6 y5
   have htt:=ht C fp s2 H2
   generalize tt C fp s2 H2=tt' at htt q6
   cases htt with
   | nil =>
    refine wpAny_bind (wpAny_pure ?_)
    dsimp only[tTrue] at q6
    rw[if_pos rfl] at q6
    refine wpAny_mono (wpAny_bind (wpAny_bind (thn (elem I6 q6) fun y s8 h8=>wpAny_bind (thn h8 fun _ s9 h9=>wpAny_pure (wpAny_pure ⟨rfl,h9⟩))))) (fun _ _ z=>z) fun _ _ z=>False.elim z
   | one ht1 =>
    refine wpAny_bind (wpAny_tests_one (wpAny_mono (ht1 _ s6 _ H6 _ I6 q6) (fun b s7 ⟨H7,I7,q7⟩ => ?_) noE))
    cases b with
    | false =>
     rw[if_neg Bool.false_ne_true] at q7
     obtain⟨t8,fr8,hD8,d8⟩:=rest I7
     exact wpAny_pure ⟨rfl,fin (I7.qP (pins':=[]) fun p hp=>nomatch hp) t8 fr8 hD8 d8 va hz q7⟩
    | true =>
     rw[if_pos rfl] at q7
     refine wpAny_mono (wpAny_bind (wpAny_bind (thn (elem I7 q7) fun y s8 h8=>wpAny_bind (thn h8 fun _ s9 h9=>wpAny_pure (wpAny_pure ⟨rfl,h9⟩))))) (fun _ _ z=>z) fun _ _ z=>False.elim z
 exact codeAny_compStart_list loop (T.self X.A 0 _ _ _ (T.keep 0 _ _ st2 fun b hb o e=>old b o e) loop)
theorem yE4 {X:Cx}{elt iter:Expr}{ifs:List Expr}{sc0 scope:Scope}{N0:List Str}{px pos:Pos}{xt:Str}{fs:List Str}{js:List Nat}{wi:TI}{tt:Addr->List Addr->Shared->Hp->TT}{te:Addr->List Addr->Shared->Hp->TE}(S:CompScope sc0 scope N0 xt fs js) (h0:X.env.scope=sc0) (hN0:X.N=N0) (hc:X.calm=true)
  (hi:PI X (.Name xt px) iter wi) (ht:∀C fp s₂ H,PTs (cxComp X (xt::fs) scope C fp s₂ H) ifs (tt C fp s₂ H)) (he:∀C fp s₂ H,PE (cxComp X (xt::fs) scope C fp s₂ H) elt (te C fp s₂ H))
  (hs:autoParam (∀x,foldedSetIterable iter X.env x=pure x) qR._auto_1) :
  PE X (.ListComp elt [⟨.Name xt px,iter,ifs,0⟩] scope pos) (tComp wi tt te js):=by
 intro pins s σ H Q I h
 rw[eval_ListComp]
 refine zV9 S h0 hN0 hc hi ht he hs (use:=none) (Qv:=EP X pins σ Q) I h fun s' C D Ha fl hI hns hC q => ?_
 obtain⟨m,hn⟩:=hns
 exact⟨m,hn,fun h' hsb=>⟨.ref D,Ha,hI h' hsb,rfl,q⟩⟩
theorem Same.new {H:Hp}{p:Addr}{o:HO}(h:H p=none):Same H (upd H p o):=fun b u e=>by rw[zN (xT e h)];exact e
def Small (i:Int):Prop:=∃k,k<=1000000/\i.natAbs<2 ^ k
section
variable {X:Cx}
theorem yV5 (hc:X.calm=true):CallR X (.builtin "sum") (fun xs H Q=>∃(p:Addr) (ns:List Int),xs=[.ref p]/\SqL X.K H p (ns.map V.int)/\Q (.int ns.sum) H):=by
 intro pins s σ H xs us Q I r h
 obtain⟨p,ns,rfl,hq,q⟩:=h
 obtain⟨u,rfl,ru⟩:=vals1 r
 cases ru
 obtain⟨its,rv,pl,hz⟩:=I.list hq
 have hi:IntsAre its ns:=jK rv
 obtain⟨xs,e⟩:=hi.allInts.items
 refine sum_intListG (I.ok.hd hc) (by rw[<-e];exact pl.isList) fun h' tk t' hk=>⟨.int ns.sum,H,I.kept hk,⟨t',?_⟩,q⟩
 congr 1
 rw[preSum_eq,List.take_of_length_le (by simp),<-nums_intItems,<-e]
 show (numsOf its).sum=ns.sum
 rw[hi.numsOf]
def clsV:V->Option Value
 | .ty n=>some (.type n)
 | .ref a=>some (.ref a)
 | _=>none
theorem yM1 {c:V}{u cv:Value}(r:RelV c u) (e:clsV c=some cv):u=cv:=by
 cases c with
 | ty n=>cases e;exact r
 | ref a=>cases e;exact r
 | non=>cases e
 | bl _=>cases e
 | int _=>cases e
 | str _=>cases e
 | byt _=>cases e
 | flt _=>cases e
end
mutual
inductive DatV (K:KFr) (H:Hp):V->PyData->Prop
 | non:DatV K H .non .none
 | bl (b:Bool):DatV K H (.bl b) (.bool b)
 | int (i:Int):DatV K H (.int i) (.int i)
 | str (x:Str):DatV K H (.str x) (.str x)
 | lst {a:Addr}{xs:List V}{ds:List PyData}:SqL K H a xs->DatAll K H xs ds->DatV K H (.ref a) (.list ds)
 | tup {a:Addr}{xs:List V}{ds:List PyData}:SqT K H a xs->DatAll K H xs ds->DatV K H (.ref a) (.tuple ds)
inductive DatAll (K:KFr) (H:Hp):List V->List PyData->Prop
 | nil:DatAll K H [] []
 | cons {v:V}{d:PyData}{vs:List V}{ds:List PyData}:DatV K H v d->DatAll K H vs ds->DatAll K H (v::vs) (d::ds)
end
section
variable {X:Cx}{pins:List (Addr×Obj)}{σ:St}{H:Hp}{s:Shared}
mutual
theorem Inv.reads (I:Inv X pins σ H s):∀{v:V}{d:PyData}{u:Value},DatV X.K H v d->RelV v u->∃as,Reads s.heap u d as
 | _,_,_,.non,r=>by cases r;exact⟨_,.none⟩
 | _,_,_,.bl b,r=>by cases r;exact⟨_,.bool b⟩
 | _,_,_,.int i,r=>by obtain⟨t,rfl⟩:=r;exact⟨_,.int i t⟩
 | _,_,_,.str x,r=>by obtain⟨t,rfl⟩:=r;exact⟨_,.str x t⟩
 | _,_,_,.lst hq ha,r=>by
  cases r
  obtain⟨its,rv,⟨o,n,ho,hc,_,hd⟩,_⟩:=I.list hq
  obtain⟨as,z⟩:=Inv.readsAll I ha rv
  exact⟨_,.list ho hc hd (by simpa using z)⟩
 | _,_,_,.tup hq ha,r=>by
  cases r
  obtain⟨its,rv,⟨o,ho,hc,n,hd⟩,_⟩:=I.tuple hq
  obtain⟨as,z⟩:=Inv.readsAll I ha rv
  exact⟨_,.tuple ho hc hd (by simpa using z)⟩
theorem Inv.readsAll (I:Inv X pins σ H s):∀{vs:List V}{ds:List PyData}{us:List Value},DatAll X.K H vs ds->Vals vs us->∃as,ReadsAll s.heap us ds as
 | _,_,_,.nil,r=>by cases r;exact⟨_,.nil⟩
 | _,_,_,.cons h t,r=>by
  cases r with
  | cons r1 r2 =>
   obtain⟨as,z⟩:=Inv.reads I h r1
   obtain⟨bs,z'⟩:=Inv.readsAll I t r2
   exact⟨_,.cons z z'⟩
end
end
section
variable {X:Cx}
def rEqD (K:KFr) (neg:Bool):R2:=fun x y H Q=>∃dx dy,DatV K H x dx/\DatV K H y dy/\SeqAt.shaped dx=true/\SeqAt.shaped dy=true/\Q (.bl (if neg then !PyData.eqv dx dy else PyData.eqv dx dy)) H
theorem xX (hu:X.A.units+64<cLine):OpR X (compareOp .Eq) (rEqD X.K false):=by
 intro pins s σ H x y v u Q I rx ry h
 obtain⟨dx,dy,h1,h2,s1,s2,q⟩:=h
 obtain⟨as,z1⟩:=I.reads h1 rx
 obtain⟨bs,z2⟩:=I.reads h2 ry
 exact eq_dataH z1 z2 s1 s2 hu ⟨.bl _,H,I,rfl,q⟩
theorem qZ (hu:X.A.units+64<cLine):OpR X (compareOp .NotEq) (rEqD X.K true):=by
 intro pins s σ H x y v u Q I rx ry h
 obtain⟨dx,dy,h1,h2,s1,s2,q⟩:=h
 obtain⟨as,z1⟩:=I.reads h1 rx
 obtain⟨bs,z2⟩:=I.reads h2 ry
 exact ne_dataH z1 z2 s1 s2 hu ⟨.bl _,H,I,rfl,q⟩
end
theorem zI9 (ns ms:List Int):PyData.eqvAll (ns.map PyData.int) (ms.map PyData.int)=decide (ns=ms):=PySem.W.ked_eqvAll ns ms
theorem bT (ns:List Int):SeqAt.shaped (.list (ns.map PyData.int))=true:=PySem.W.ke_shaped_ints ns
theorem yD2 (ns ms:List Int):PyData.eqv (.list (ns.map PyData.int)) (.list (ms.map PyData.int))=decide (ns=ms):=by rw[PyData.eqv];exact zI9 ns ms
theorem yQ3 (x:Value) (kw:List (Str×Value)):Builtin.«sorted» ⟨[x],kw⟩=collect x >>= fun xs=>newList xs >>= fun l=>holding [l] (call (.builtin "list.sort") [l] kw) >>= fun _=>ret l:=rfl
section
variable {X:Cx}
theorem jD:CallR X (.builtin "sorted") (fun xs H Q=>∃(p:Addr) (ns:List Int),xs=[.ref p]/\(SqL X.K H p (ns.map V.int)\/SqT X.K H p (ns.map V.int))/\ns.length<64 /\
  ∀(l:Addr) (ms:List Int),H l=none->ms.Perm ns->ms.Pairwise (· <= ·)->Q (.ref l) (upd H l (.lst (ms.map V.int)))):=by
 intro pins s σ H xs us Q I r h
 obtain⟨p,ns,rfl,hq,h64,q⟩:=h
 obtain⟨u,rfl,ru⟩:=vals1 r
 cases ru
 obtain⟨T,o,its,n,hT,ho,hc,hd,rv,hz⟩:∃T o its n,(T="list"\/T="tuple")/\s.heap.get? p=some o/\o.cls=.type T/\o.data=.seq its n/\Vals (ns.map V.int) its.toList/\(ns.map V.int).length<=sizeLine:=by
  rcases hq with hq | hq
  ·obtain⟨its,rv,⟨o,n,ho,hc,_,hd⟩,hz⟩:=I.list hq
   exact⟨"list",o,its.toArray,n,.inl rfl,ho,hc,hd,by simpa using rv,hz⟩
  ·obtain⟨its,rv,⟨o,ho,hc,n,hd⟩,hz⟩:=I.tuple hq
   exact⟨"tuple",o,its.toArray,n,.inr rfl,ho,hc,hd,by simpa using rv,hz⟩
 have hl:=rv.length
 have hI:IntsAre its.toList ns:=jK rv
 rw[List.length_map] at hl hz
 have fits:its.size<=sizeLine:=by have z:=its.length_toList;bv_omega
 refine Calls.call_function_entry kind_sorted plain_sorted entry_sorted (args_sorted1 (.ref p)) ?_
 rw[yQ3]
 refine wpAny_bind (wpAny_collect_seq p hT ho hc hd (fun h' kp=>wpAny_bind (wpAny_newList ?_)) fits)
 have hoL:(h'.push (seqObj "list" its.toList.toArray 0)).get? h'.objs.size=some (seqObj "list" its.toList.toArray 0):=Heap.get?_push_size _ rfl
 refine wpAny_bind (wpAny_holding (wpAny_call_entry slot_list_sort ⟨_,hoL,rfl⟩ entry_list_sort (list_sort_tree hoL hI (by bv_omega) fun out ns' a1 a2 a3=>⟨_,rfl,?_⟩) (args_list_sort _)))
 refine wpAny_pure ⟨_,rfl,?_⟩
 have I1:Inv X pins σ H { s with heap:=h' }:=I.kept (t':=s.toks) kp
 have hfresh:H h'.objs.size=none:=I1.hok.fresh (Nat.le_refl _)
 have ov:Vals (ns'.map V.int) out.toList:=dB a1
 have hlen:ns'.length=ns.length:=a2.length_eq
 refine⟨.ref h'.objs.size,_,I1.laid (t':=s.toks) (o:=.lst (ns'.map V.int)) (fun b ob e => ?_) (Nat.le_refl _) ?_,rfl,q _ ns' hfresh a2 a3⟩
 ·have hb:=Heap.lt_size e
  rw[sortedHeap_old (Nat.ne_of_lt hb) (by rw[size_push'];exact Nat.lt_succ_of_lt hb)]
  exact Heap.get?_push_of_some _ e
 ·obtain⟨e,he⟩:∃e,(sortedHeap (h'.push (seqObj "list" its.toList.toArray 0)) h'.objs.size its.toList out).get? h'.objs.size=some (seqObj "list" out e):=by
   exact sortedHeap_at hoL
  exact⟨by rw[List.length_map];bv_omega,out.toList,e,ov,by simpa using he⟩
end
section
variable {X:Cx}
theorem yL3 {bs:List Bool}{its:List Value}(r:Vals (bs.map V.bl) its){i:Nat}{v:Value}(h:its.toArray[i]?=some v):v=.bool (bs.getD i false):=by
 have h2:its[i]?=some v:=by simpa using h
 have hi:i<its.length:=(List.getElem?_eq_some_iff.mp h2).1
 have hl:=r.length
 rw[List.length_map] at hl
 have e:(bs.map V.bl)[i]?=some (V.bl (bs.getD i false)):=by
  rw[List.getElem?_map,List.getElem?_eq_getElem (by bv_omega),List.getD_eq_getElem?_getD,List.getElem?_eq_getElem (by bv_omega)]
  rfl
 obtain⟨u,hu,ru⟩:=r.get e
 rw[h2] at hu
 cases hu
 exact ru
theorem zB1 (bs:List Bool):(List.range bs.length).map (fun i=>bs.getD i false)=bs:=by
 refine List.ext_getElem (by simp) fun i h1 h2 => ?_
 simp[List.getD,h2]
theorem yU6 (bs:List Bool):(List.range bs.length).all (fun i=>bs.getD i false)=bs.all id:=by
 have z:=congrArg (fun l=>List.all l id) (zB1 bs)
 simpa [List.all_map,Function.comp_def] using z
theorem yX8 (hc:X.calm=true):CallR X (.builtin "all") (fun xs H Q=>∃(p:Addr) (bs:List Bool),xs=[.ref p]/\SqL X.K H p (bs.map V.bl)/\Q (.bl (bs.all id)) H):=by
 intro pins s σ H xs us Q I r h
 obtain⟨p,bs,rfl,hq,q⟩:=h
 obtain⟨u,rfl,ru⟩:=vals1 r
 cases ru
 obtain⟨its,rv,pl,hz⟩:=I.list hq
 have hl:=rv.length
 rw[List.length_map] at hl
 refine call_all_walk (yR5 (A:=X.A.in1) (I.ok.hd hc) pl.isList fun J hp St W st _ _ keep=>⟨_,_,_,_,_,_,fun i=>bs.getD i false,rfl,W,st,?_,fun h' tk hk => ?_⟩)
 ·intro i v s' Q' E' hP hQ
  rw[yL3 rv hP]
  exact wpAny_truthy_bool hQ
 ·rw[List.size_toArray,<-hl,yU6]
  exact⟨.bl _,H,I.kept fun b o e=>hk b o (by simpa using (keep b o e).1) (keep b o e).2,rfl,q⟩
end
end L2
namespace L2.L3
open PySem PySem.Spec PyProof.Rows
abbrev D:=PyData
inductive Res (α:Type) where
 | ok (a:α)
 | ex (c:Str)
 | no
namespace Res
def bind {α β:Type}:Res α->(α->Res β)->Res β
 | .ok a,f=>f a
 | .ex c,_=>.ex c
 | .no,_=>.no
def post {α:Type}:Res α->(α->Prop)->(Str->Prop)->Prop
 | .ok a,Q,_=>Q a
 | .ex c,_,E=>E c
 | .no,_,_=>False
theorem zU {α β:Type}{r:Res α}{f:α->Res β}{Q:β->Prop}{E:Str->Prop}(h:(r.bind f).post Q E):r.post (fun a=>(f a).post Q E) E:=by
 cases r <;> exact h
theorem zR {α:Type}{r:Res α}{Q Q':α->Prop}{E E':Str->Prop}(h:r.post Q E) (hQ:∀a,r=.ok a->Q a->Q' a) (hE:∀c,E c->E' c):r.post Q' E':=by
 cases r with
 | ok a=>exact hQ a rfl h
 | ex c=>exact hE c h
 | no=>exact h
def lft {α:Type}:Option α->Res α
 | some a=>.ok a
 | none=>.no
theorem zF {α:Type}{o:Option α}{Q:α->Prop}{E:Str->Prop}(h:(lft o).post Q E):∃a,o=some a/\Q a:=by
 cases o with
 | none=>exact h.elim
 | some a=>exact⟨a,rfl,h⟩
@[simp] theorem bind_ok {α β:Type}(a:α) (f:α->Res β):(Res.ok a).bind f=f a:=rfl
@[simp] theorem bind_no {α β:Type}(f:α->Res β):(Res.no:Res α).bind f=.no:=rfl
@[simp] theorem bind_ex {α β:Type}(c:Str) (f:α->Res β):(Res.ex c:Res α).bind f=.ex c:=rfl
@[simp] theorem lft_some {α:Type}(a:α):lft (some a)=.ok a:=rfl
@[simp] theorem lft_none {α:Type}:lft (none:Option α)=.no:=rfl
end Res
class CN where
 ad:Str->Addr
instance (priority:=low) cn0:CN:=⟨fun _=>0⟩
variable [CN]
def excP (a:Addr) (c:Str):Heap->Prop:=fun h=>∃o,h.get? a=some o/\o.cls=.ref (CN.ad c)
mutual
inductive Rep (H:Hp) (O:Addr->Prop):V->D->Prop
 | non:Rep H O .non .none
 | bl (b:Bool):Rep H O (.bl b) (.bool b)
 | int (i:Int):Rep H O (.int i) (.int i)
 | str (x:Str):Rep H O (.str x) (.str x)
 | lst {a:Addr}{xs:List V}{ds:List D}:Rd H a (.lst xs)->¬O a->Reps H O xs ds->Rep H O (.ref a) (.list ds)
 | tup {a:Addr}{xs:List V}{ds:List D}:Rd H a (.tup xs)->¬O a->Reps H O xs ds->Rep H O (.ref a) (.tuple ds)
 | exc {a:Addr}{c:Str}:H a=some (.ext (excP a c))->¬O a->Rep H O (.ref a) (.dict [(.list [],.str c)])
inductive Reps (H:Hp) (O:Addr->Prop):List V->List D->Prop
 | nil:Reps H O [] []
 | cons {v:V}{d:D}{vs:List V}{ds:List D}:Rep H O v d->Reps H O vs ds->Reps H O (v::vs) (d::ds)
end
theorem zF4 {H:Hp}{a:Addr}{u:HO}(h:Rd H a u):H a≠none:=by
 rcases h with h | ⟨o,h⟩ <;> (rw[h];exact fun z=>nomatch z)
theorem uK {H H':Hp}{a:Addr}{u:HO}(h:Rd H a u) (k:∀o,H a=some o->H' a=some o):Rd H' a u:=by
 rcases h with h | ⟨o,h⟩
 ·exact .inl (k _ h)
 ·exact .inr ⟨o,k _ h⟩
section
variable {H H':Hp}{O O':Addr->Prop}
mutual
theorem Rep.keep (k:∀b o,H b=some o->¬O b->H' b=some o) (s:∀b,H b≠none->O' b->O b):∀{v:V}{d:D},Rep H O v d->Rep H' O' v d
 | _,_,.non=>.non
 | _,_,.bl b=>.bl b
 | _,_,.int i=>.int i
 | _,_,.str x=>.str x
 | _,_,.lst r n t=>.lst (uK r fun o e=>k _ o e n) (fun z=>n (s _ (zF4 r) z)) (Reps.keep k s t)
 | _,_,.tup r n t=>.tup (uK r fun o e=>k _ o e n) (fun z=>n (s _ (zF4 r) z)) (Reps.keep k s t)
 | _,_,.exc r n=>.exc (k _ _ r n) (fun z=>n (s _ (by rw[r];exact fun z=>nomatch z) z))
theorem Reps.keep (k:∀b o,H b=some o->¬O b->H' b=some o) (s:∀b,H b≠none->O' b->O b):∀{vs:List V}{ds:List D},Reps H O vs ds->Reps H' O' vs ds
 | _,_,.nil=>.nil
 | _,_,.cons h t=>.cons (Rep.keep k s h) (Reps.keep k s t)
end
mutual
theorem Rep.dat {K:KFr}:∀{v:V}{d:D},Rep H O v d->PyData.canLay0 d=true->DatV K H v d
 | _,_,.non,_=>.non
 | _,_,.bl b,_=>.bl b
 | _,_,.int i,_=>.int i
 | _,_,.str x,_=>.str x
 | _,_,.lst r n t,c=>.lst (.inl r) (Reps.dat t c)
 | _,_,.tup r n t,c=>.tup (.inl r) (Reps.dat t c)
 | _,_,.exc r n,c=>by cases c
theorem Reps.dat {K:KFr}:∀{vs:List V}{ds:List D},Reps H O vs ds->PyData.canLayAll0 ds=true->DatAll K H vs ds
 | _,_,.nil,_=>.nil
 | _,_,.cons h t,c=>.cons (Rep.dat h (Bool.and_eq_true_iff.mp c).1) (Reps.dat t (Bool.and_eq_true_iff.mp c).2)
end
theorem Rep.same {v:V}{d:D}(h:Rep H O v d) (s:Same H H'):Rep H' O v d:=h.keep (fun b o e _=>s b o e) fun _ _ z=>z
theorem Reps.same {v:List V}{d:List D}(h:Reps H O v d) (s:Same H H'):Reps H' O v d:=h.keep (fun b o e _=>s b o e) fun _ _ z=>z
theorem Rep.less {v:V}{d:D}(h:Rep H O v d) (s:∀b,O' b->O b):Rep H O' v d:=h.keep (fun b o e _=>e) fun b _ z=>s b z
theorem Reps.less {v:List V}{d:List D}(h:Reps H O v d) (s:∀b,O' b->O b):Reps H O' v d:=h.keep (fun b o e _=>e) fun b _ z=>s b z
theorem Reps.length:∀{vs:List V}{ds:List D},Reps H O vs ds->vs.length=ds.length
 | _,_,.nil=>rfl
 | _,_,.cons _ t=>congrArg (·+1) (Reps.length t)
theorem Reps.get:∀{vs:List V}{ds:List D}{i:Nat}{d:D},Reps H O vs ds->ds[i]?=some d->∃v,vs[i]?=some v/\Rep H O v d
 | _,_,_,_,.nil,e=>by simp at e
 | _,_,0,_,.cons r _,e=>by simp at e;subst e;exact⟨_,rfl,r⟩
 | _,_,i+1,d,.cons _ t,e=>by
  obtain⟨u,h1,h2⟩:=Reps.get (i:=i) (d:=d) t (by simpa using e)
  exact⟨u,by simpa using h1,h2⟩
theorem Reps.of:∀{vs:List V}{ds:List D}{i:Nat}{v:V},Reps H O vs ds->vs[i]?=some v->∃d,ds[i]?=some d/\Rep H O v d
 | _,_,_,_,.nil,e=>by simp at e
 | _,_,0,_,.cons r _,e=>by simp at e;subst e;exact⟨_,rfl,r⟩
 | _,_,i+1,v,.cons _ t,e=>by
  obtain⟨u,h1,h2⟩:=Reps.of (i:=i) (v:=v) t (by simpa using e)
  exact⟨u,by simpa using h1,h2⟩
theorem Reps.append:∀{vs ws:List V}{ds es:List D},Reps H O vs ds->Reps H O ws es->Reps H O (vs++ws) (ds++es)
 | _,_,_,_,.nil,s=>s
 | _,_,_,_,.cons r t,s=>.cons r (Reps.append t s)
theorem Reps.one {v:V}{d:D}(h:Rep H O v d):Reps H O [v] [d]:=.cons h .nil
theorem Reps.set {x:V}{u:D}(r:Rep H O x u):∀{vs:List V}{ds:List D}(i:Nat),Reps H O vs ds->Reps H O (vs.set i x) (ds.set i u)
 | _,_,_,.nil=>.nil
 | _,_,0,.cons _ t=>.cons r t
 | _,_,i+1,.cons q t=>.cons q (Reps.set r i t)
theorem Reps.take:∀{vs:List V}{ds:List D}(n:Nat),Reps H O vs ds->Reps H O (vs.take n) (ds.take n)
 | _,_,0,_=>.nil
 | _,_,_+1,.nil=>.nil
 | _,_,n+1,.cons r t=>.cons r (Reps.take n t)
theorem Reps.drop:∀{vs:List V}{ds:List D}(n:Nat),Reps H O vs ds->Reps H O (vs.drop n) (ds.drop n)
 | _,_,0,r=>r
 | _,_,_+1,.nil=>.nil
 | _,_,n+1,.cons _ t=>Reps.drop n t
theorem Reps.erase:∀{vs:List V}{ds:List D}(i:Nat),Reps H O vs ds->Reps H O (vs.eraseIdx i) (ds.eraseIdx i)
 | _,_,_,.nil=>.nil
 | _,_,0,.cons _ t=>t
 | _,_,i+1,.cons r t=>.cons r (Reps.erase i t)
theorem Reps.reverse {vs:List V}{ds:List D}(h:Reps H O vs ds):Reps H O vs.reverse ds.reverse:=by
 induction vs generalizing ds with
 | nil=>cases h;exact .nil
 | cons v vs ih =>
  cases h with
  | cons r t =>
   rw[List.reverse_cons,List.reverse_cons]
   exact (ih t).append (.one r)
theorem Reps.rep {vs:List V}{ds:List D}(h:Reps H O vs ds):∀k:Nat,Reps H O (List.replicate k vs).flatten (List.replicate k ds).flatten
 | 0=>.nil
 | k+1=>by
  rw[List.replicate_succ,List.replicate_succ,List.flatten_cons,List.flatten_cons]
  exact h.append (Reps.rep h k)
theorem Reps.insert {x:V}{u:D}(r:Rep H O x u){vs:List V}{ds:List D}(i:Nat) (h:Reps H O vs ds):Reps H O (vs.take i++x::vs.drop i) (ds.take i++u::ds.drop i) :=
 (h.take i).append (.cons r (h.drop i))
theorem kB:∀(ns:List Int),Reps H O (ns.map V.int) (ns.map PyData.int)
 | []=>.nil
 | n::ns=>.cons (.int n) (kB ns)
theorem Reps.ints:∀{ns:List Int}{vs:List V},Reps H O vs (ns.map PyData.int)->vs=ns.map V.int
 | [],_,h=>by cases h;rfl
 | n::ns,_,h=>by
  cases h with
  | cons r t=>cases r;rw[Reps.ints t];rfl
theorem Reps.bools:∀{ns:List Bool}{vs:List V},Reps H O vs (ns.map PyData.bool)->vs=ns.map V.bl
 | [],_,h=>by cases h;rfl
 | n::ns,_,h=>by
  cases h with
  | cons r t=>cases r;rw[Reps.bools t];rfl
end
abbrev Ev:=List (Option D)
structure Wd where
 o:Addr->Prop
 la:Nat->Addr
instance:CoeFun Wd (fun _=>Addr->Prop):=⟨Wd.o⟩
abbrev Uni (Oc:Wd) (Ob:Addr->Prop):Addr->Prop:=fun b=>Oc b\/Ob b
def OwnAt (H:Hp) (Oc:Wd) (Ob:Addr->Prop) (v:V) (d:D):Prop:=∃a ys ds,v=.ref a/\d=.list ds/\H a=some (.lst ys)/\Ob a/\Reps H (Uni Oc Ob) ys ds
def LentAt (i:Nat) (H:Hp) (Oc:Wd) (Ob:Addr->Prop) (v:V) (d:D):Prop:=∃ys ds,v=.ref (Oc.la i)/\d=.list ds/\H (Oc.la i)=some (.lst ys)/\Oc (Oc.la i)/\Reps H (Uni Oc Ob) ys ds
structure Rel (Oc:Wd) (Ob:Addr->Prop) (om ln:List Nat) (σ:St) (H:Hp) (ρ:Ev):Prop where
 len:σ.length=ρ.length
 val:∀i d,ρ[i]?=some (some d)->i∉om->i∉ln->∃v,σ[i]?=some (some v)/\Rep H (Uni Oc Ob) v d
 own:∀i d,ρ[i]?=some (some d)->i∈om->∃v,σ[i]?=some (some v)/\OwnAt H Oc Ob v d
 lnt:∀i d,ρ[i]?=some (some d)->i∉om->i∈ln->∃v,σ[i]?=some (some v)/\LentAt i H Oc Ob v d
 inj:∀i j di dj a,ρ[i]?=some (some di)->ρ[j]?=some (some dj)->i∈om->j∈om->σ[i]?=some (some (.ref a))->σ[j]?=some (some (.ref a))->i=j
 oh:∀a,Oc a\/Ob a->H a≠none
 ap:∀a,Ob a->¬Oc a
section
variable {Oc:Wd}{Ob:Addr->Prop}{om ln:List Nat}{σ:St}{H H':Hp}{ρ:Ev}
theorem Same.ne {b:Addr}(s:Same H H') (h:H b≠none):H' b≠none:=by
 cases e:H b with
 | none=>exact absurd e h
 | some o=>rw[s b o e];exact fun z=>nomatch z
theorem Rel.same (R:Rel Oc Ob om ln σ H ρ) (s:Same H H'):Rel Oc Ob om ln σ H' ρ where
 len:=R.len
 val:=fun i d e h1 h2=>let ⟨v,a,b⟩:=R.val i d e h1 h2; ⟨v,a,b.same s⟩
 own:=fun i d e h1=>let ⟨v,q,a,ys,ds,e1,e2,e3,e4,e5⟩:=R.own i d e h1; ⟨v,q,a,ys,ds,e1,e2,s _ _ e3,e4,e5.same s⟩
 lnt:=fun i d e h1 h2=>let ⟨v,q,ys,ds,e1,e2,e3,e4,e5⟩:=R.lnt i d e h1 h2; ⟨v,q,ys,ds,e1,e2,s _ _ e3,e4,e5.same s⟩
 inj:=R.inj
 oh:=fun a h=>Same.ne s (R.oh a h)
 ap:=R.ap
end
inductive Md where
 | cl
 | rd
 | any
 | new
def VA (Oc:Wd) (Ob:Addr->Prop) (H:Hp) (v:V) (d:D):Prop :=
 Rep H (Uni Oc Ob) v d\/∃a ys ds,v=.ref a/\d=.list ds/\H a=some (.lst ys)/\Reps H (Uni Oc Ob) ys ds
def VR:Md->Wd->(Addr->Prop)->Hp->Hp->V->D->Prop
 | .cl,Oc,Ob,_,H',v,d=>Rep H' (Uni Oc Ob) v d
 | .rd,Oc,Ob,_,H',v,d=>Rep H' (Uni Oc Ob) v d\/∃a ys ds,v=.ref a/\d=.list ds/\H' a=some (.lst ys)/\¬Ob a/\Reps H' (Uni Oc Ob) ys ds
 | .any,Oc,Ob,_,H',v,d=>VA Oc Ob H' v d
 | .new,Oc,Ob,H,H',v,d=>∃a ys ds,v=.ref a/\d=.list ds/\H a=none/\H' a=some (.lst ys)/\Reps H' (fun b=>Uni Oc Ob b\/b=a) ys ds
section
variable {Oc:Wd}{Ob:Addr->Prop}{H H1 H2:Hp}{v:V}{d:D}{md:Md}
theorem VR.same (h:VR md Oc Ob H H1 v d) (s:Same H1 H2):VR md Oc Ob H H2 v d:=by
 cases md with
 | cl=>exact Rep.same h s
 | rd =>
  rcases h with h | ⟨a,ys,ds,e1,e2,e3,e4,e5⟩
  ·exact .inl (Rep.same h s)
  ·exact .inr ⟨a,ys,ds,e1,e2,s _ _ e3,e4,e5.same s⟩
 | any =>
  rcases h with h | ⟨a,ys,ds,e1,e2,e3,e5⟩
  ·exact .inl (Rep.same h s)
  ·exact .inr ⟨a,ys,ds,e1,e2,s _ _ e3,e5.same s⟩
 | new =>
  obtain⟨a,ys,ds,e1,e2,e3,e4,e5⟩:=h
  exact⟨a,ys,ds,e1,e2,e3,s _ _ e4,e5.same s⟩
theorem VR.from (h:VR md Oc Ob H1 H2 v d) (s:Same H H1):VR md Oc Ob H H2 v d:=by
 cases md with
 | new =>
  obtain⟨a,ys,ds,e1,e2,e3,e4,e5⟩:=h
  exact⟨a,ys,ds,e1,e2,s.free e3,e4,e5⟩
 | _=>exact h
theorem VR.clean (h:VR .new Oc Ob H H1 v d) (oh:∀a,Oc a\/Ob a->H a≠none):VR .cl Oc Ob H H1 v d:=by
 obtain⟨a,ys,ds,rfl,rfl,e3,e4,e5⟩:=h
 exact .lst (.inl e4) (fun z=>oh a z e3) (e5.less fun b z=>.inl z)
theorem VR.va (h:VR md Oc Ob H H1 v d) (oh:∀a,Oc a\/Ob a->H a≠none):VA Oc Ob H1 v d:=by
 cases md with
 | cl=>exact .inl h
 | rd =>
  rcases h with h | ⟨a,ys,ds,e1,e2,e3,e4,e5⟩
  ·exact .inl h
  ·exact .inr ⟨a,ys,ds,e1,e2,e3,e5⟩
 | any=>exact h
 | new=>exact .inl (VR.clean h oh)
theorem VA.dat {K:KFr}(h:VA Oc Ob H v d) (c:PyData.canLay0 d=true):DatV K H v d:=by
 rcases h with h | ⟨a,ys,ds,rfl,rfl,e3,e5⟩
 ·exact h.dat c
 ·exact .lst (SqL.of e3) (e5.dat c)
theorem VA.datS {K:KFr}(h:VA Oc Ob H v d) (c:SeqAt.shaped d=true):DatV K H v d:=h.dat (SeqAt.canLay_of_shaped c)
theorem VA.list {ds:List D}(h:VA Oc Ob H v (.list ds)):∃a ys,v=.ref a/\Rd H a (.lst ys)/\Reps H (Uni Oc Ob) ys ds:=by
 rcases h with h | ⟨a,ys,ds,rfl,e,e3,e5⟩
 ·cases h with
  | lst r n t=>exact⟨_,_,rfl,r,t⟩
 ·cases e
  exact⟨a,ys,rfl,.inl e3,e5⟩
theorem VA.tuple {ds:List D}(h:VA Oc Ob H v (.tuple ds)):∃a ys,v=.ref a/\Rd H a (.tup ys)/\Reps H (Uni Oc Ob) ys ds:=by
 rcases h with h | ⟨a,ys,ds,rfl,e,e3,e5⟩
 ·cases h with
  | tup r n t=>exact⟨_,_,rfl,r,t⟩
 ·cases e
theorem VA.int {i:Int}(h:VA Oc Ob H v (.int i)):v=.int i:=by
 rcases h with h | ⟨a,ys,ds,rfl,e,e3,e5⟩
 ·cases h;rfl
 ·cases e
theorem VA.bool {i:Bool}(h:VA Oc Ob H v (.bool i)):v=.bl i:=by
 rcases h with h | ⟨a,ys,ds,rfl,e,e3,e5⟩
 ·cases h;rfl
 ·cases e
theorem VA.none (h:VA Oc Ob H v .none):v=.non:=by
 rcases h with h | ⟨a,ys,ds,rfl,e,e3,e5⟩
 ·cases h;rfl
 ·cases e
theorem VA.str {x:Str}(h:VA Oc Ob H v (.str x)):v=.str x:=by
 rcases h with h | ⟨a,ys,ds,rfl,e,e3,e5⟩
 ·cases h;rfl
 ·cases e
theorem VA.rep (h:VA Oc Ob H v d):Rep H (fun _=>False) v d:=by
 rcases h with h | ⟨a,ys,ds,rfl,rfl,e3,e5⟩
 ·exact h.less fun _ z=>z.elim
 ·exact .lst (.inl e3) (fun z=>z) (e5.less fun _ z=>z.elim)
end
structure Ct where
 X:Cx
 XE:Str->Hp->Prop
 om:List Nat
 ln:List Nat
def RE (C:Ct) (md:Md) (e:Expr) (m:Ev->Res D):Prop :=
 ∃t,PE C.X e t/\∀(Oc:Wd) (Ob:Addr->Prop) (σ:St) (H:Hp) (ρ:Ev) (Q:VK),Rel Oc Ob C.om C.ln σ H ρ ->
  (m ρ).post (fun d=>∀v H',Same H H'->VR md Oc Ob H H' v d->Q v H') (fun c=>∀H',Same H H'->C.XE c H')->t σ H Q
def RT (C:Ct) (e:Expr) (m:Ev->Res Bool):Prop :=
 ∃t,PT C.X e t/\∀(Oc:Wd) (Ob:Addr->Prop) (σ:St) (H:Hp) (ρ:Ev) (Q:Bool->Hp->Prop),Rel Oc Ob C.om C.ln σ H ρ ->
  (m ρ).post (fun b=>∀H',Same H H'->Q b H') (fun c=>∀H',Same H H'->C.XE c H')->t σ H Q
def RW (C:Ct) (e:Expr) (m:Ev->Res Bool):Prop :=
 ∃t,PW C.X e t/\∀(Oc:Wd) (Ob:Addr->Prop) (σ:St) (H:Hp) (ρ:Ev) (Q:Bool->Hp->Prop),Rel Oc Ob C.om C.ln σ H ρ ->
  (m ρ).post (fun b=>∀H',Same H H'->Q b H') (fun c=>∀H',Same H H'->C.XE c H')->t σ H Q
inductive Out where
 | nx (ρ:Ev)
 | rt (d:D)
def Frm (Ob:Addr->Prop) (H H':Hp):Prop:=∀b o,H b=some o->¬Ob b->H' b=some o
theorem Same.frm {Ob:Addr->Prop}{H H':Hp}(s:Same H H'):Frm Ob H H':=fun b o e _=>s b o e
def RetOk:Bool->Wd->(Addr->Prop)->Hp->Hp->V->D->Prop
 | true,Oc,Ob,H,H',v,d=>∃a ys ds,v=.ref a/\d=.list ds/\(H a=none\/Ob a)/\¬Oc a/\H' a=some (.lst ys)/\Reps H' (fun b=>Oc b\/b=a) ys ds
 | false,Oc,_,_,H',v,d=>Rep H' Oc.o v d
def SPost (C:Ct) (fr:Bool) (Oc:Wd) (Ob:Addr->Prop) (H:Hp) (E:Ends) (r:Res Out):Prop :=
 r.post (fun o=>match o with
  | .nx ρ'=>∀σ' H' Ob',Rel Oc Ob' C.om C.ln σ' H' ρ'->Frm Ob H H'->(∀b,Ob' b->Ob b\/H b=none)->E.nx σ' H'
  | .rt d=>∀v H',Frm Ob H H'->RetOk fr Oc Ob H H' v d->E.rt v H') (fun c=>∀H',Frm Ob H H'->C.XE c H')
def RS (C:Ct) (fr:Bool) (st:Stmt) (m:Ev->Res Out):Prop :=
 ∃t,PS C.X st t/\∀(Oc:Wd) (Ob:Addr->Prop) (σ:St) (H:Hp) (ρ:Ev) (E:Ends),Rel Oc Ob C.om C.ln σ H ρ->SPost C fr Oc Ob H E (m ρ)->t E σ H
def RSs (C:Ct) (fr:Bool) (st:List Stmt) (m:Ev->Res Out):Prop :=
 ∃t,PSs C.X st t/\∀(Oc:Wd) (Ob:Addr->Prop) (σ:St) (H:Hp) (ρ:Ev) (E:Ends),Rel Oc Ob C.om C.ln σ H ρ->SPost C fr Oc Ob H E (m ρ)->t E σ H
section
variable {C:Ct}{fr:Bool}{Oc:Wd}{Ob Ob1 Ob2:Addr->Prop}{H H1 H2:Hp}{E:Ends}{r:Res Out}
theorem Frm.trans (f:Frm Ob H H1) (s:∀b,Ob1 b->Ob b\/H b=none) (g:Frm Ob1 H1 H2):Frm Ob H H2:=fun b o e n =>
 g b o (f b o e n) fun z=>(s b z).elim n fun q=>by rw[e] at q;cases q
theorem Frm.none (f:Frm Ob H H1){b:Addr}(h:H1 b=none):Ob b\/H b=none:=by
 by_cases n:Ob b
 ·exact .inl n
 ·cases e:H b with
  | none=>exact .inr rfl
  | some o=>rw[f b o e n] at h;cases h
theorem SPost.step (f:Frm Ob H H1) (s:∀b,Ob1 b->Ob b\/H b=none) (h:SPost C fr Oc Ob H E r):SPost C fr Oc Ob1 H1 E r:=by
 refine Res.zR h (fun o _ q => ?_) fun c q H' g=>q H' (f.trans s g)
 cases o with
 | nx ρ'=>exact fun σ' H' Ob' R g s'=>q σ' H' Ob' R (f.trans s g) fun b z=>(s' b z).elim (s b) fun z=>f.none z
 | rt d =>
  refine fun v H' g k=>q v H' (f.trans s g) ?_
  cases fr with
  | false=>exact k
  | true =>
   obtain⟨a,ys,ds,e1,e2,e3,e4,e5,e6⟩:=k
   refine⟨a,ys,ds,e1,e2,?_,e4,e5,e6⟩
   rcases e3 with e3 | e3
   ·exact (f.none e3).symm
   ·exact (s a e3).symm
theorem SPost.same (f:Same H H1) (h:SPost C fr Oc Ob H E r):SPost C fr Oc Ob H1 E r:=h.step (Same.frm f) fun b z=>.inl z
end
end L2.L3
namespace L2.L3
open PySem PySem.Spec PyProof.Rows
variable [CN]
section
variable {C:Ct}{a b c e:Expr}{es:List Expr}{pos:Pos}{md mda mdb mdc:Md}{ma mb mc:Ev->Res D}
theorem RE.cl (h:RE C .new e ma):RE C .cl e ma:=by
 obtain⟨t,p,q⟩:=h
 exact⟨t,p,fun Oc Ob σ H ρ Q R h=>q Oc Ob σ H ρ Q R (Res.zR h (fun d _ k v H' s r=>k v H' s (VR.clean r R.oh)) fun _ z=>z)⟩
theorem RE.rd (h:RE C .cl e ma):RE C .rd e ma:=by
 obtain⟨t,p,q⟩:=h
 exact⟨t,p,fun Oc Ob σ H ρ Q R h=>q Oc Ob σ H ρ Q R (Res.zR h (fun d _ k v H' s r=>k v H' s (.inl r)) fun _ z=>z)⟩
theorem RE.any (h:RE C md e ma):RE C .any e ma:=by
 obtain⟨t,p,q⟩:=h
 exact⟨t,p,fun Oc Ob σ H ρ Q R h=>q Oc Ob σ H ρ Q R (Res.zR h (fun d _ k v H' s r=>k v H' s (VR.va r R.oh)) fun _ z=>z)⟩
def eC (d:D):Ev->Res D:=fun _=>.ok d
theorem zP {i j}:RE C .cl (.Constant (.int i) j pos) (eC (.int i)):=⟨_,yV7,fun Oc Ob σ H ρ Q R h=>h _ H (Same.refl H) (Rep.int i)⟩
theorem kD {i j}:RE C .cl (.Constant (.bool i) j pos) (eC (.bool i)):=⟨_,yJ7,fun Oc Ob σ H ρ Q R h=>h _ H (Same.refl H) (Rep.bl i)⟩
theorem zH {i j}:RE C .cl (.Constant (.str i) j pos) (eC (.str i)):=⟨_,xV8,fun Oc Ob σ H ρ Q R h=>h _ H (Same.refl H) (Rep.str i)⟩
def eV (i:Nat):Ev->Res D:=fun ρ=>match ρ[i]? with
 | some (some d)=>.ok d
 | _=>.no
theorem jH {i:Nat}{ρ:Ev}{Q:D->Prop}{E:Str->Prop}(h:(eV i ρ).post Q E):∃d,ρ[i]?=some (some d)/\Q d:=by
 unfold eV at h
 split at h
 ·exact⟨_,by assumption,h⟩
 ·exact h.elim
theorem xI {i:Nat}{l:List Nat}(h:l.contains i=false):i∉l:=by
 intro z
 rw[List.contains_iff_mem.mpr z] at h
 cases h
theorem uA {i:Nat}{l:List Nat}(h:l.contains i=true):i∈l:=List.contains_iff_mem.mp h
theorem zZ (i:Nat){x:Str}(hN:autoParam (C.X.N[i]?=some x) zW._auto_1) (ho:autoParam (C.om.contains i=false) zW._auto_1) (hl:autoParam (C.ln.contains i=false) zW._auto_1) (hv:autoParam (Vis C.X.env.scope x) kO._auto_1) (hd:autoParam ((x == ("__debug__":Str))=false) zG._auto_1)
  (hcd:autoParam ((x == ("__classdict__":Str))=false) zG._auto_1):RE C .cl (.Name x pos) (eV i):=by
 refine⟨_,kW hN hv hd hcd,fun Oc Ob σ H ρ Q R h => ?_⟩
 obtain⟨d,e,k⟩:=jH h
 obtain⟨v,q,r⟩:=R.val i d e (xI ho) (xI hl)
 exact⟨v,q,k v H (Same.refl H) r⟩
theorem wV (i:Nat){x:Str}(hN:autoParam (C.X.N[i]?=some x) zW._auto_1) (ho:autoParam (C.om.contains i=true) zW._auto_1) (hv:autoParam (Vis C.X.env.scope x) kO._auto_1) (hd:autoParam ((x == ("__debug__":Str))=false) zG._auto_1)
  (hcd:autoParam ((x == ("__classdict__":Str))=false) zG._auto_1):RE C .any (.Name x pos) (eV i):=by
 refine⟨_,kW hN hv hd hcd,fun Oc Ob σ H ρ Q R h => ?_⟩
 obtain⟨d,e,k⟩:=jH h
 obtain⟨v,q,a,ys,ds,e1,e2,e3,e4,e5⟩:=R.own i d e (uA ho)
 exact⟨v,q,k v H (Same.refl H) (.inr ⟨a,ys,ds,e1,e2,e3,e5⟩)⟩
theorem aY {x:Str}{i:Int}{u:Value}(hm:C.X.mg x=some u) (r:RelV (.int i) u) (hg:autoParam (Gl C.X x) zW._auto_1) (hd:autoParam ((x == ("__debug__":Str))=false) zG._auto_1):RE C .cl (.Name x pos) (eC (.int i)) :=
 ⟨_,yH3 hg hm r hd,fun Oc Ob σ H ρ Q R h=>h _ H (Same.refl H) (Rep.int i)⟩
def e2 (f:D->D->Option D) (m n:Ev->Res D):Ev->Res D:=fun ρ=>(m ρ).bind fun x=>(n ρ).bind fun y=>Res.lft (f x y)
def Pr2 (r:R2) (md:Md) (f:D->D->Option D):Prop :=
 ∀(Oc:Wd) (Ob:Addr->Prop) (H:Hp) (x y:V) (dx dy d:D) (Q:VK),(∀a,Oc a\/Ob a->H a≠none)->VA Oc Ob H x dx->VA Oc Ob H y dy->f dx dy=some d->(∀v H',Same H H'->VR md Oc Ob H H' v d->Q v H')->r x y H Q
theorem two {ta tb:TE}{f:D->D->Option D}{r:R2}(ha:∀(Oc:Wd) (Ob:Addr->Prop) (σ:St) (H:Hp) (ρ:Ev) (Q:VK),Rel Oc Ob C.om C.ln σ H ρ->(ma ρ).post (fun d=>∀v H',Same H H'->VR mda Oc Ob H H' v d->Q v H') (fun c=>∀H',Same H H'->C.XE c H')->ta σ H Q)
  (hb:∀(Oc:Wd) (Ob:Addr->Prop) (σ:St) (H:Hp) (ρ:Ev) (Q:VK),Rel Oc Ob C.om C.ln σ H ρ->(mb ρ).post (fun d=>∀v H',Same H H'->VR mdb Oc Ob H H' v d->Q v H') (fun c=>∀H',Same H H'->C.XE c H')->tb σ H Q) (hp:Pr2 r md f)
  {Oc:Wd}{Ob:Addr->Prop}{σ:St}{H:Hp}{ρ:Ev}{Q:VK}(R:Rel Oc Ob C.om C.ln σ H ρ) (h:(e2 f ma mb ρ).post (fun d=>∀v H',Same H H'->VR md Oc Ob H H' v d->Q v H') (fun c=>∀H',Same H H'->C.XE c H')) :
  ta σ H fun x H1=>tb σ H1 fun y H2=>r x y H2 Q:=by
 refine ha Oc Ob σ H ρ _ R (Res.zR (Res.zU h) (fun dx _ q x H1 s1 vx => ?_) fun _ z=>z)
 refine hb Oc Ob σ H1 ρ _ (R.same s1) (Res.zR (Res.zU q) (fun dy _ q y H2 s2 vy => ?_) fun c z H' s'=>z H' (s1.trans s'))
 obtain⟨d,e,q⟩:=Res.zF q
 have oh2:=((R.same s1).same s2).oh
 refine hp Oc Ob H2 x y dx dy d Q oh2 ((vx.same s2).va R.oh) (vy.va (R.same s1).oh) e fun v H' s3 r => ?_
 exact q v H' ((s1.trans s2).trans s3) (r.from (s1.trans s2))
theorem zB {op:Operator}{r:R2}{f:D->D->Option D}(ho:OpR C.X (binaryOp op) r) (hp:Pr2 r md f) (ha:RE C mda a ma) (hb:RE C mdb b mb):RE C md (.BinOp a op b pos) (e2 f ma mb):=by
 obtain⟨ta,pa,qa⟩:=ha
 obtain⟨tb,pb,qb⟩:=hb
 exact⟨_,xN4 ho pa pb,fun Oc Ob σ H ρ Q R h=>two qa qb hp R h⟩
theorem yJ {r:R2}{f:D->D->Option D}(ho:IxR C.X r) (hp:Pr2 r md f) (ha:RE C mda a ma) (hb:RE C mdb b mb) (hs:autoParam (PlainIx b) xS8._auto_1):RE C md (.Subscript a b pos) (e2 f ma mb):=by
 obtain⟨ta,pa,qa⟩:=ha
 obtain⟨tb,pb,qb⟩:=hb
 exact⟨_,yI3 ho pa pb hs,fun Oc Ob σ H ρ Q R h=>two qa qb hp R h⟩
def PrB (r:R2) (f:D->D->Option Bool):Prop :=
 ∀(Oc:Wd) (Ob:Addr->Prop) (H:Hp) (x y:V) (dx dy:D) (k:Bool) (Q:VK),VA Oc Ob H x dx->VA Oc Ob H y dy->f dx dy=some k->Q (.bl k) H->r x y H Q
def bD (o:Option Bool):Option D:=o.map PyData.bool
theorem PrB.pr {r:R2}{f:D->D->Option Bool}(h:PrB r f):Pr2 r .cl (fun x y=>bD (f x y)):=by
 intro Oc Ob H x y dx dy d Q oh vx vy e k
 cases ef:f dx dy with
 | none=>simp only[ef] at e;cases e
 | some b =>
  simp only[ef] at e
  cases e
  exact h Oc Ob H x y dx dy b Q vx vy ef (k _ H (Same.refl H) (Rep.bl b))
theorem gP {op:CmpOp}{r:R2}{f:D->D->Option Bool}(ho:OpR C.X (compareOp op) r) (hp:PrB r f) (ha:RE C mda a ma) (hb:RE C mdb b mb) (hm:autoParam (behindInMarks op b=false) zC4._auto_1):RE C .cl (.Compare a [op] [b] pos) (e2 (fun x y=>bD (f x y)) ma mb):=by
 obtain⟨ta,pa,qa⟩:=ha
 obtain⟨tb,pb,qb⟩:=hb
 exact⟨_,yH4 ho pa pb hm,fun Oc Ob σ H ρ Q R h=>two qa qb hp.pr R h⟩
def b2 (f:D->D->Option Bool) (m n:Ev->Res D):Ev->Res Bool:=fun ρ=>(m ρ).bind fun x=>(n ρ).bind fun y=>Res.lft (f x y)
theorem xY3 {f:D->D->Option Bool}{ρ:Ev}{Q:Bool->Hp->Prop}{H:Hp}{E:Str->Prop}{Oc:Wd}{Ob:Addr->Prop}(h:(b2 f ma mb ρ).post (fun b=>∀H',Same H H'->Q b H') E) :
  (e2 (fun x y=>bD (f x y)) ma mb ρ).post (fun d=>∀v H',Same H H'->VR .cl Oc Ob H H' v d->∃k,v=.bl k/\Q k H') E:=by
 unfold e2
 unfold b2 at h
 cases ea:ma ρ with
 | no=>rw[ea] at h;exact h
 | ex c=>rw[ea] at h;exact h
 | ok x =>
  rw[ea] at h
  simp only[Res.bind_ok] at h ⊢
  cases eb:mb ρ with
  | no=>rw[eb] at h;exact h
  | ex c=>rw[eb] at h;exact h
  | ok y =>
   rw[eb] at h
   simp only[Res.bind_ok] at h ⊢
   obtain⟨k,ek,q⟩:=Res.zF h
   rw[ek]
   intro v H' s r
   have:v=.bl k:=by cases r;rfl
   exact⟨k,this,q H' s⟩
theorem yW {op:CmpOp}{r:R2}{f:D->D->Option Bool}(ho:OpR C.X (compareOp op) r) (hp:PrB r f) (ha:RE C mda a ma) (hb:RE C mdb b mb) (hm:autoParam (behindInMarks op b=false) zC4._auto_1):RT C (.Compare a [op] [b] pos) (b2 f ma mb):=by
 obtain⟨ta,pa,qa⟩:=ha
 obtain⟨tb,pb,qb⟩:=hb
 exact⟨_,zD4 ho pa pb hm,fun Oc Ob σ H ρ Q R h=>two qa qb hp.pr R (xY3 h)⟩
def b3 (f g:D->D->Option Bool) (m n o:Ev->Res D):Ev->Res Bool:=fun ρ=>(m ρ).bind fun x=>(n ρ).bind fun y=>(Res.lft (f x y)).bind fun k=>if k then (o ρ).bind fun z=>Res.lft (g y z) else .ok false
theorem chain3 {ta tb tc:TE}{f g:D->D->Option Bool}{r r':R2}(ha:∀(Oc:Wd) (Ob:Addr->Prop) (σ:St) (H:Hp) (ρ:Ev) (Q:VK),Rel Oc Ob C.om C.ln σ H ρ->(ma ρ).post (fun d=>∀v H',Same H H'->VR mda Oc Ob H H' v d->Q v H') (fun c=>∀H',Same H H'->C.XE c H')->ta σ H Q)
  (hb:∀(Oc:Wd) (Ob:Addr->Prop) (σ:St) (H:Hp) (ρ:Ev) (Q:VK),Rel Oc Ob C.om C.ln σ H ρ->(mb ρ).post (fun d=>∀v H',Same H H'->VR mdb Oc Ob H H' v d->Q v H') (fun c=>∀H',Same H H'->C.XE c H')->tb σ H Q)
  (hc:∀(Oc:Wd) (Ob:Addr->Prop) (σ:St) (H:Hp) (ρ:Ev) (Q:VK),Rel Oc Ob C.om C.ln σ H ρ->(mc ρ).post (fun d=>∀v H',Same H H'->VR mdc Oc Ob H H' v d->Q v H') (fun c=>∀H',Same H H'->C.XE c H')->tc σ H Q) (hp:PrB r f) (hp':PrB r' g)
  {Oc:Wd}{Ob:Addr->Prop}{σ:St}{H:Hp}{ρ:Ev}{Q:VK}(R:Rel Oc Ob C.om C.ln σ H ρ) (h:(b3 f g ma mb mc ρ).post (fun d=>∀H',Same H H'->Q (.bl d) H') (fun c=>∀H',Same H H'->C.XE c H')) :
  tChain r r' ta tb tc σ H Q:=by
 refine ha Oc Ob σ H ρ _ R (Res.zR (Res.zU h) (fun dx _ q x H1 s1 vx => ?_) fun _ z=>z)
 refine hb Oc Ob σ H1 ρ _ (R.same s1) (Res.zR (Res.zU q) (fun dy _ q y H2 s2 vy => ?_) fun c z H' s'=>z H' (s1.trans s'))
 obtain⟨k,e,q⟩:=Res.zF (Res.zU q)
 have R2:=(R.same s1).same s2
 refine hp Oc Ob H2 x y dx dy k _ ((vx.same s2).va R.oh) (vy.va (R.same s1).oh) e ⟨k,rfl,?_⟩
 cases k with
 | false=>exact iteF (q H2 (s1.trans s2))
 | true =>
  refine iteT (hc Oc Ob σ H2 ρ _ R2 (Res.zR (Res.zU q) (fun dz _ q z H3 s3 vz => ?_) fun c z H' s'=>z H' ((s1.trans s2).trans s')))
  obtain⟨k,e,q⟩:=Res.zF q
  exact hp' Oc Ob H3 y z dy dz k _ ((vy.same s3).va (R.same s1).oh) (vz.va R2.oh) e (q H3 ((s1.trans s2).trans s3))
theorem zN3 {op op':CmpOp}{r r':R2}{f g:D->D->Option Bool}(ho:OpR C.X (compareOp op) r) (ho':OpR C.X (compareOp op') r') (hp:PrB r f) (hp':PrB r' g) (ha:RE C mda a ma) (hb:RE C mdb b mb) (hc:RE C mdc c mc)
  (hm:autoParam (lastMarks [op,op'] [b,c]=false) zX2._auto_1):RT C (.Compare a [op,op'] [b,c] pos) (b3 f g ma mb mc):=by
 obtain⟨ta,pa,qa⟩:=ha
 obtain⟨tb,pb,qb⟩:=hb
 obtain⟨tc,pc,qc⟩:=hc
 exact⟨_,yK3 ho ho' pa pb pc hm,fun Oc Ob σ H ρ Q R h=>chain3 qa qb qc hp hp' R (Res.zR h (fun b _ q H' s=>⟨b,rfl,q H' s⟩) fun _ z=>z)⟩
def vB (m:Ev->Res Bool):Ev->Res D:=fun ρ=>(m ρ).bind fun b=>.ok (.bool b)
theorem yN4 {op op':CmpOp}{r r':R2}{f g:D->D->Option Bool}(ho:OpR C.X (compareOp op) r) (ho':OpR C.X (compareOp op') r') (hp:PrB r f) (hp':PrB r' g) (ha:RE C mda a ma) (hb:RE C mdb b mb) (hc:RE C mdc c mc)
  (hm:autoParam (lastMarks [op,op'] [b,c]=false) zX2._auto_1):RE C .cl (.Compare a [op,op'] [b,c] pos) (vB (b3 f g ma mb mc)):=by
 obtain⟨ta,pa,qa⟩:=ha
 obtain⟨tb,pb,qb⟩:=hb
 obtain⟨tc,pc,qc⟩:=hc
 exact⟨_,yO1 ho ho' pa pb pc hm,fun Oc Ob σ H ρ Q R h=>chain3 qa qb qc hp hp' R (Res.zR (Res.zU h) (fun b _ q H' s=>q _ H' s (Rep.bl b)) fun _ z=>z)⟩
variable {ta' tb':Ev->Res Bool}{rest:List Expr}
def isB:D->Option Bool
 | .bool b=>some b
 | _=>none
def tV (m:Ev->Res D):Ev->Res Bool:=fun ρ=>(m ρ).bind fun d=>Res.lft (isB d)
theorem zM1 {d:D}{b:Bool}(h:isB d=some b):d=.bool b:=by
 cases d <;> simp[isB] at h ⊢
 exact h
theorem gJ (h:RE C md a ma) (he:autoParam (∀whole,isTrue a C.X.env whole=(do let v <-whole;standAt a.pos;holding [v] (truthy v))) qR._auto_1):RT C a (tV ma):=by
 obtain⟨t,p,q⟩:=h
 refine⟨_,xW5 p he,fun Oc Ob σ H ρ Q R h=>q Oc Ob σ H ρ _ R (Res.zR (Res.zU h) (fun d _ k v H' s r => ?_) fun _ z=>z)⟩
 obtain⟨b,e,k⟩:=Res.zF k
 obtain rfl:=zM1 e
 exact⟨b,(r.va R.oh).bool,k H' s⟩
def tNt (m:Ev->Res Bool):Ev->Res Bool:=fun ρ=>(m ρ).bind fun b=>.ok (!b)
theorem jC (h:RT C a ta'):RT C (.UnaryOp .Not a pos) (tNt ta'):=by
 obtain⟨t,p,q⟩:=h
 exact⟨_,xS3 p,fun Oc Ob σ H ρ Q R h=>q Oc Ob σ H ρ _ R (Res.zR (Res.zU h) (fun d _ k=>k) fun _ z=>z)⟩
def tAn (m n:Ev->Res Bool):Ev->Res Bool:=fun ρ=>(m ρ).bind fun b=>if b then n ρ else .ok false
def tO (m n:Ev->Res Bool):Ev->Res Bool:=fun ρ=>(m ρ).bind fun b=>if b then .ok true else n ρ
theorem rw_and1 (h:RT C a ta'):RW C (.BoolOp .And [a] pos) ta':=by
 obtain⟨t,p,q⟩:=h
 exact⟨_,pw_and1 p,q⟩
theorem rw_or1 (h:RT C a ta'):RW C (.BoolOp .Or [a] pos) ta':=by
 obtain⟨t,p,q⟩:=h
 exact⟨_,pw_or1 p,q⟩
theorem rw_and (ha:RT C a ta') (hb:RW C (.BoolOp .And (b::rest) pos) tb'):RW C (.BoolOp .And (a::b::rest) pos) (tAn ta' tb'):=by
 obtain⟨t,p,q⟩:=ha
 obtain⟨t',p',q'⟩:=hb
 refine⟨_,pw_and p p',fun Oc Ob σ H ρ Q R h=>q Oc Ob σ H ρ _ R (Res.zR (Res.zU h) (fun b _ k H' s => ?_) fun _ z=>z)⟩
 cases b with
 | true=>exact iteT (q' Oc Ob σ H' ρ Q (R.same s) (Res.zR k (fun b _ k H2 s2=>k H2 (s.trans s2)) fun c z H2 s2=>z H2 (s.trans s2)))
 | false=>exact iteF (k H' s)
theorem rw_or (ha:RT C a ta') (hb:RW C (.BoolOp .Or (b::rest) pos) tb'):RW C (.BoolOp .Or (a::b::rest) pos) (tO ta' tb'):=by
 obtain⟨t,p,q⟩:=ha
 obtain⟨t',p',q'⟩:=hb
 refine⟨_,pw_or p p',fun Oc Ob σ H ρ Q R h=>q Oc Ob σ H ρ _ R (Res.zR (Res.zU h) (fun b _ k H' s => ?_) fun _ z=>z)⟩
 cases b with
 | false=>exact iteF (q' Oc Ob σ H' ρ Q (R.same s) (Res.zR k (fun b _ k H2 s2=>k H2 (s.trans s2)) fun c z H2 s2=>z H2 (s.trans s2)))
 | true=>exact iteT (k H' s)
theorem RW.rt (h:RW C a ta'):RT C a ta':=by
 obtain⟨t,p,q⟩:=h
 exact⟨_,p.pt,q⟩
theorem xT9 {op} (h:RE C md a ma):RE C md (.BoolOp op [a] pos) ma:=by
 obtain⟨t,p,q⟩:=h
 exact⟨_,xX8 p,q⟩
def vAn (m n:Ev->Res D):Ev->Res D:=fun ρ=>(m ρ).bind fun d=>(Res.lft (isB d)).bind fun b=>if b then n ρ else .ok (.bool false)
def vO (m n:Ev->Res D):Ev->Res D:=fun ρ=>(m ρ).bind fun d=>(Res.lft (isB d)).bind fun b=>if b then .ok (.bool true) else n ρ
def vNt (m:Ev->Res D):Ev->Res D:=fun ρ=>(m ρ).bind fun d=>(Res.lft (isB d)).bind fun b=>.ok (.bool (!b))
theorem xW3 (ha:RE C mda a ma) (hb:RE C .cl (.BoolOp .And (b::rest) pos) mb):RE C .cl (.BoolOp .And (a::b::rest) pos) (vAn ma mb):=by
 obtain⟨t,p,q⟩:=ha
 obtain⟨t',p',q'⟩:=hb
 refine⟨_,xX7 p p',fun Oc Ob σ H ρ Q R h=>q Oc Ob σ H ρ _ R (Res.zR (Res.zU h) (fun d _ k v H' s r => ?_) fun _ z=>z)⟩
 obtain⟨b,e,k⟩:=Res.zF (Res.zU k)
 obtain rfl:=zM1 e
 refine⟨b,(r.va R.oh).bool,?_⟩
 cases b with
 | true=>exact iteT (q' Oc Ob σ H' ρ Q (R.same s) (Res.zR k (fun b _ k v H2 s2 r=>k v H2 (s.trans s2) r) fun c z H2 s2=>z H2 (s.trans s2)))
 | false=>exact iteF (k _ H' s (Rep.bl false))
def eIf (m:Ev->Res Bool) (n o:Ev->Res D):Ev->Res D:=fun ρ=>(m ρ).bind fun b=>if b then n ρ else o ρ
theorem yN3 (hc:RT C c ta') (ha:RE C md a ma) (hb:RE C md b mb):RE C md (.IfExp c a b pos) (eIf ta' ma mb):=by
 obtain⟨t,p,q⟩:=hc
 obtain⟨t1,p1,q1⟩:=ha
 obtain⟨t2,p2,q2⟩:=hb
 refine⟨_,yK8 p p1 p2,fun Oc Ob σ H ρ Q R h=>q Oc Ob σ H ρ _ R (Res.zR (Res.zU h) (fun b _ k H' s => ?_) fun _ z=>z)⟩
 cases b with
 | true=>exact iteT (q1 Oc Ob σ H' ρ Q (R.same s) (Res.zR k (fun b _ k v H2 s2 r=>k v H2 (s.trans s2) (r.from s)) fun c z H2 s2=>z H2 (s.trans s2)))
 | false=>exact iteF (q2 Oc Ob σ H' ρ Q (R.same s) (Res.zR k (fun b _ k v H2 s2 r=>k v H2 (s.trans s2) (r.from s)) fun c z H2 s2=>z H2 (s.trans s2)))
def e1 (f:D->Option D) (m:Ev->Res D):Ev->Res D:=fun ρ=>(m ρ).bind fun x=>Res.lft (f x)
def negD:D->Option D
 | .int i=>some (.int (-i))
 | _=>none
theorem zL9 (ha:RE C mda a ma):RE C .cl (.UnaryOp .USub a pos) (e1 negD ma):=by
 obtain⟨t,p,q⟩:=ha
 refine⟨_,xP9 xV5 p,fun Oc Ob σ H ρ Q R h=>q Oc Ob σ H ρ _ R (Res.zR (Res.zU h) (fun d _ k v H' s r => ?_) fun _ z=>z)⟩
 obtain⟨d',e,k⟩:=Res.zF k
 cases d with
 | int i =>
  cases e
  exact⟨i,(r.va R.oh).int,k _ H' s (Rep.int _)⟩
 | _=>cases e
end
inductive VAs (Oc:Wd) (Ob:Addr->Prop) (H:Hp):List V->List D->Prop
 | nil:VAs Oc Ob H [] []
 | cons {v:V}{d:D}{vs:List V}{ds:List D}:VA Oc Ob H v d->VAs Oc Ob H vs ds->VAs Oc Ob H (v::vs) (d::ds)
section
variable {Oc:Wd}{Ob:Addr->Prop}{H H':Hp}
theorem VAs.rep:∀{vs:List V}{ds:List D},VAs Oc Ob H vs ds->Reps H (fun _=>False) vs ds
 | _,_,.nil=>.nil
 | _,_,.cons h t=>.cons h.rep (VAs.rep t)
theorem Reps.va:∀{vs:List V}{ds:List D},Reps H (Uni Oc Ob) vs ds->VAs Oc Ob H vs ds
 | _,_,.nil=>.nil
 | _,_,.cons h t=>.cons (.inl h) (Reps.va t)
theorem VA.same {v:V}{d:D}(h:VA Oc Ob H v d) (s:Same H H'):VA Oc Ob H' v d:=VR.same (md:=.any) (H:=H) h s
theorem VAs.same (s:Same H H'):∀{vs:List V}{ds:List D},VAs Oc Ob H vs ds->VAs Oc Ob H' vs ds
 | _,_,.nil=>.nil
 | _,_,.cons h t=>.cons (h.same s) (VAs.same s t)
end
def VQ:Bool->Wd->(Addr->Prop)->Hp->List V->List D->Prop
 | true,Oc,Ob,H,vs,ds=>Reps H (Uni Oc Ob) vs ds
 | false,Oc,Ob,H,vs,ds=>VAs Oc Ob H vs ds
def RArg (C:Ct) (cl:Bool) (es:List Expr) (m:Ev->Res (List D)):Prop :=
 ∃t,PA C.X es t/\∀(Oc:Wd) (Ob:Addr->Prop) (σ:St) (H:Hp) (ρ:Ev) (Q:List V->Hp->Prop),Rel Oc Ob C.om C.ln σ H ρ ->
  (m ρ).post (fun ds=>∀vs H',Same H H'->VQ cl Oc Ob H' vs ds->Q vs H') (fun c=>∀H',Same H H'->C.XE c H')->t σ H Q
section
variable {C:Ct}{a b c e:Expr}{es:List Expr}{pos p:Pos}{md mda mdb mdc:Md}{ma mb mc:Ev->Res D}{ms:Ev->Res (List D)}{cl:Bool}
def aN:Ev->Res (List D):=fun _=>.ok []
def aC (m:Ev->Res D) (n:Ev->Res (List D)):Ev->Res (List D):=fun ρ=>(m ρ).bind fun x=>(n ρ).bind fun xs=>.ok (x::xs)
theorem zY:RArg C cl [] aN:=⟨_,wH,fun Oc Ob σ H ρ Q R h=>h [] H (Same.refl H) (by cases cl;exact VAs.nil;exact Reps.nil)⟩
theorem zS (ha:RE C .cl e ma) (hr:RArg C true es ms) (hs:autoParam (starEach (e::es) C.X.env=(false,eval e C.X.env)::starEach es C.X.env) zW._auto_1):RArg C true (e::es) (aC ma ms):=by
 obtain⟨t,p,q⟩:=ha
 obtain⟨t',p',q'⟩:=hr
 refine⟨_,wZ p p' hs,fun Oc Ob σ H ρ Q R h=>q Oc Ob σ H ρ _ R (Res.zR (Res.zU h) (fun d _ k v H' s r => ?_) fun _ z=>z)⟩
 refine q' Oc Ob σ H' ρ _ (R.same s) (Res.zR (Res.zU k) (fun ds _ k vs H2 s2 r2 => ?_) fun c z H2 s2=>z H2 (s.trans s2))
 exact k _ H2 (s.trans s2) (Reps.cons (r.same s2) r2)
theorem zV (ha:RE C md e ma) (hr:RArg C false es ms) (hs:autoParam (starEach (e::es) C.X.env=(false,eval e C.X.env)::starEach es C.X.env) zW._auto_1):RArg C false (e::es) (aC ma ms):=by
 obtain⟨t,p,q⟩:=ha
 obtain⟨t',p',q'⟩:=hr
 refine⟨_,wZ p p' hs,fun Oc Ob σ H ρ Q R h=>q Oc Ob σ H ρ _ R (Res.zR (Res.zU h) (fun d _ k v H' s r => ?_) fun _ z=>z)⟩
 refine q' Oc Ob σ H' ρ _ (R.same s) (Res.zR (Res.zU k) (fun ds _ k vs H2 s2 r2 => ?_) fun c z H2 s2=>z H2 (s.trans s2))
 exact k _ H2 (s.trans s2) (VAs.cons ((r.va R.oh).same s2) r2)
def mkL (ds:List D):Option D:=if ds.length<=sizeLine then some (.list ds) else none
def mkT (ds:List D):Option D:=if ds.length<=sizeLine then some (.tuple ds) else none
def eB (f:List D->Option D) (m:Ev->Res (List D)):Ev->Res D:=fun ρ=>(m ρ).bind fun ds=>Res.lft (f ds)
theorem xB {Oc:Wd}{Ob:Addr->Prop}{H H1:Hp}{p:Addr}{vs:List V}{ds:List D}(s:Same H H1) (hp:H1 p=none) (r:Reps H1 (Uni Oc Ob) vs ds):VR .new Oc Ob H (upd H1 p (.lst vs)) (.ref p) (.list ds) :=
 ⟨p,vs,ds,rfl,rfl,s.free hp,yD,r.keep (fun b o e _=>by rw[zN (xT e hp)];exact e) fun b n z=>z.elim id fun z=>by subst z;exact absurd hp n⟩
theorem cL {Oc:Wd}{Ob:Addr->Prop}{H1:Hp}{p:Addr}{vs:List V}{ds:List D}(oh:∀a,Oc a\/Ob a->H1 a≠none) (hp:H1 p=none) (r:Reps H1 (Uni Oc Ob) vs ds):Rep (upd H1 p (.tup vs)) (Uni Oc Ob) (.ref p) (.tuple ds) :=
 .tup (.inl yD) (fun z=>oh p z hp) (r.same (Same.new hp))
theorem xE (h:RArg C true es ms):RE C .new (.List es pos) (eB mkL ms):=by
 obtain⟨t,p,q⟩:=h
 refine⟨_,zJ1 p,fun Oc Ob σ H ρ Q R h=>q Oc Ob σ H ρ _ R (Res.zR (Res.zU h) (fun ds _ k vs H' s r => ?_) fun _ z=>z)⟩
 obtain⟨d,e,k⟩:=Res.zF k
 unfold mkL at e
 split at e
 ·rename_i hl
  cases e
  exact⟨by rw[Reps.length r];exact hl,fun p hp=>k _ _ (s.trans (Same.new hp)) (xB s hp r)⟩
 ·cases e
theorem yS8 {x1} (h:RArg C true es ms):RE C .cl (.Tuple es x1 pos) (eB mkT ms):=by
 obtain⟨t,p,q⟩:=h
 refine⟨_,xZ9 p,fun Oc Ob σ H ρ Q R h=>q Oc Ob σ H ρ _ R (Res.zR (Res.zU h) (fun ds _ k vs H' s r => ?_) fun _ z=>z)⟩
 obtain⟨d,e,k⟩:=Res.zF k
 unfold mkT at e
 split at e
 ·rename_i hl
  cases e
  exact⟨by rw[Reps.length r];exact hl,fun p hp=>k _ _ (s.trans (Same.new hp)) (cL (R.same s).oh hp r)⟩
 ·cases e
def PrC (r:List V->Hp->VK->Prop) (md:Md) (f:List D->Option D):Prop :=
 ∀(Oc:Wd) (Ob:Addr->Prop) (H:Hp) (vs:List V) (ds:List D) (d:D) (Q:VK),(∀a,Oc a\/Ob a->H a≠none)->VAs Oc Ob H vs ds->f ds=some d->(∀v H',Same H H'->VR md Oc Ob H H' v d->Q v H')->r vs H Q
theorem zU8 {t:TA}{r:List V->Hp->VK->Prop}{f:List D->Option D}(q:∀(Oc:Wd) (Ob:Addr->Prop) (σ:St) (H:Hp) (ρ:Ev) (Q:List V->Hp->Prop),Rel Oc Ob C.om C.ln σ H ρ ->
  (ms ρ).post (fun ds=>∀vs H',Same H H'->VQ false Oc Ob H' vs ds->Q vs H') (fun c=>∀H',Same H H'->C.XE c H')->t σ H Q) (hp:PrC r md f)
  {Oc:Wd}{Ob:Addr->Prop}{σ:St}{H:Hp}{ρ:Ev}{Q:VK}(R:Rel Oc Ob C.om C.ln σ H ρ) (h:(eB f ms ρ).post (fun d=>∀v H',Same H H'->VR md Oc Ob H H' v d->Q v H') (fun c=>∀H',Same H H'->C.XE c H')):tCB r t σ H Q:=by
 refine q Oc Ob σ H ρ _ R (Res.zR (Res.zU h) (fun ds _ k vs H' s r => ?_) fun _ z=>z)
 obtain⟨d,e,k⟩:=Res.zF k
 exact hp Oc Ob H' vs ds d Q (R.same s).oh r e fun v H2 s2 r2=>k v H2 (s.trans s2) (r2.from s)
theorem zL {x:Str}{id:String}{r:List V->Hp->VK->Prop}{f:List D->Option D}(hc:CallR C.X (.builtin id) r) (hp:PrC r md f) (hm:C.X.mg x=none) (hv:bootBuiltins x=some (.builtin id)) (ha:RArg C false (e::es) ms) (hg:autoParam (Gl C.X x) zW._auto_1) (hn:autoParam (x ≠ "__name__") zG._auto_1) (hdb:autoParam ((x == ("__debug__":Str))=false) zG._auto_1)
  (he:autoParam (starEach (e::es) C.X.env=(false,eval e C.X.env)::starEach es C.X.env) zW._auto_1) (hpl:autoParam ((backTo pos (starEach es C.X.env)).any (·.1)=false) zW._auto_1):RE C md (.Call (.Name x p) (e::es) [] pos) (eB f ms):=by
 obtain⟨t,pa,q⟩:=ha
 exact⟨_,fZ hc hg hm hv pa hn hdb he hpl,fun Oc Ob σ H ρ Q R h=>zU8 q hp R h⟩
theorem yX {x:Str}{T:String}{r:List V->Hp->VK->Prop}{f:List D->Option D}(hc:CallR C.X (.type T) r) (hp:PrC r md f) (hm:C.X.mg x=none) (hv:bootBuiltins x=some (.type T)) (ha:RArg C false (e::es) ms) (hg:autoParam (Gl C.X x) zW._auto_1) (hn:autoParam (x ≠ "__name__") zG._auto_1) (hdb:autoParam ((x == ("__debug__":Str))=false) zG._auto_1)
  (he:autoParam (starEach (e::es) C.X.env=(false,eval e C.X.env)::starEach es C.X.env) zW._auto_1) (hpl:autoParam ((backTo pos (starEach es C.X.env)).any (·.1)=false) zW._auto_1):RE C md (.Call (.Name x p) (e::es) [] pos) (eB f ms):=by
 obtain⟨t,pa,q⟩:=ha
 exact⟨_,dN hc hg hm hv pa hn hdb he hpl,fun Oc Ob σ H ρ Q R h=>zU8 q hp R h⟩
def Walks (Oc:Wd) (Ob:Addr->Prop) (J:It) (H1:Hp) (ds:List D):Prop :=
 ∀(H2:Hp) (Ob2:Addr->Prop),Frm Ob H1 H2->(∀b,Ob2 b->Ob b\/H1 b=none)->∀i,(∀d,ds[i]?=some d->J.go i H2/\∀x H3,J.yld i H2 x H3->Same H2 H3/\Rep H3 (Uni Oc Ob2) x d)/\(ds.length<=i->J.stop i H2)
def RI (C:Ct) (tg iter:Expr) (m:Ev->Res (List D)):Prop :=
 ∃wi,PI C.X tg iter wi/\∀(Oc:Wd) (Ob:Addr->Prop) (σ:St) (H:Hp) (ρ:Ev) (R:It->Hp->Prop),Rel Oc Ob C.om C.ln σ H ρ ->
  (m ρ).post (fun ds=>∀J H1,Same H H1->Walks Oc Ob J H1 ds->R J H1) (fun c=>∀H',Same H H'->C.XE c H')->wi σ H R
def iSeq (K:KFr) (tl:TE):TI:=fun σ H R=>tl σ H fun x H1=>∃a,x=.ref a/\(((∃xs,SqL K H1 a xs)/\R (Itl K a) H1)\/((∃xs,SqT K H1 a xs)/\R (Itt K a) H1))
theorem xW8 {X:Cx}{tg l:Expr}{tl:TE}(hl:PE X l tl):PI X tg l (iSeq X.K tl):=by
 intro pins s σ H R I h
 refine thn (hl pins s σ H _ I h) fun v s1 ⟨x,H1,I1,r1,q1⟩ => ?_
 obtain⟨a,e,q1⟩:=q1
 subst e
 cases r1
 rcases q1 with ⟨⟨xs,hq⟩,q⟩ | ⟨⟨xs,hq⟩,q⟩
 ·obtain⟨its,rv,p,hz⟩:=I1.list hq
  refine wpAny_pyIter_list p.isList ?_
  refine⟨s1.heap.objs.size,[s1.heap.objs.size],_,_,H1,rfl,I1.kept (t':=s1.toks) fun b o e=>Heap.get?_push_of_some _ e,yW7 a _,⟨_,Heap.get?_push_size _ rfl,rfl,rfl⟩,fun b hb => ?_,q⟩
  have e:b=s1.heap.objs.size:=by simpa using hb
  subst e
  exact I1.fpOk (Nat.le_refl _) (I1.hok.fresh (Nat.le_refl _))
 ·obtain⟨its,rv,p,hz⟩:=I1.tuple hq
  refine wpAny_pyIter_tuple (show s1.heap.IsTuple a its.toArray from p) ?_
  refine⟨s1.heap.objs.size,[s1.heap.objs.size],_,_,H1,rfl,I1.kept (t':=s1.toks) fun b o e=>Heap.get?_push_of_some _ e,zB9 a _,⟨_,Heap.get?_push_size _ rfl,rfl,rfl⟩,fun b hb => ?_,q⟩
  have e:b=s1.heap.objs.size:=by simpa using hb
  subst e
  exact I1.fpOk (Nat.le_refl _) (I1.hok.fresh (Nat.le_refl _))
def seqD:D->Option (List D)
 | .list ds=>some ds
 | .tuple ds=>some ds
 | _=>none
def iS (m:Ev->Res D):Ev->Res (List D):=fun ρ=>(m ρ).bind fun d=>Res.lft (seqD d)
theorem Reps.step {Oc:Wd}{Ob Ob2:Addr->Prop}{H1 H2:Hp}{vs:List V}{ds:List D}(r:Reps H1 (Uni Oc Ob) vs ds) (f:Frm Ob H1 H2) (s:∀b,Ob2 b->Ob b\/H1 b=none):Reps H2 (Uni Oc Ob2) vs ds :=
 r.keep (fun b o e n=>f b o e fun z=>n (.inr z)) fun b n z=>z.elim .inl fun z=>(s b z).elim .inr fun q=>absurd q n
theorem Rep.step {Oc:Wd}{Ob Ob2:Addr->Prop}{H1 H2:Hp}{v:V}{d:D}(r:Rep H1 (Uni Oc Ob) v d) (f:Frm Ob H1 H2) (s:∀b,Ob2 b->Ob b\/H1 b=none):Rep H2 (Uni Oc Ob2) v d :=
 r.keep (fun b o e n=>f b o e fun z=>n (.inr z)) fun b n z=>z.elim .inl fun z=>(s b z).elim .inr fun q=>absurd q n
end
theorem aH {K:KFr}{Oc:Wd}{Ob:Addr->Prop}{H1:Hp}{a:Addr}{ys:List V}{ds:List D}(r:Rd H1 a (.lst ys)) (n:¬Ob a) (rs:Reps H1 (Uni Oc Ob) ys ds):Walks Oc Ob (Itl K a) H1 ds:=by
 intro H2 Ob2 f s i
 have r2:Rd H2 a (.lst ys):=uK r fun o e=>f a o e n
 have rs2:=rs.step f s
 refine⟨fun d e => ?_,fun h=>⟨ys,.inl r2,by rw[rs2.length];exact h⟩⟩
 obtain⟨v,ev,rv⟩:=rs2.get e
 refine⟨⟨ys,v,.inl r2,ev⟩,fun x H3 hy => ?_⟩
 obtain⟨rfl,hy⟩:=hy
 have:=hy ys (.inl r2)
 rw[ev] at this
 cases this
 exact⟨Same.refl _,rv⟩
theorem zI7 {K:KFr}{Oc:Wd}{Ob:Addr->Prop}{H1:Hp}{a:Addr}{ys:List V}{ds:List D}(r:Rd H1 a (.tup ys)) (n:¬Ob a) (rs:Reps H1 (Uni Oc Ob) ys ds):Walks Oc Ob (Itt K a) H1 ds:=by
 intro H2 Ob2 f s i
 have r2:Rd H2 a (.tup ys):=uK r fun o e=>f a o e n
 have rs2:=rs.step f s
 refine⟨fun d e => ?_,fun h=>⟨ys,.inl r2,by rw[rs2.length];exact h⟩⟩
 obtain⟨v,ev,rv⟩:=rs2.get e
 refine⟨⟨ys,v,.inl r2,ev⟩,fun x H3 hy => ?_⟩
 obtain⟨rfl,hy⟩:=hy
 have:=hy ys (.inl r2)
 rw[ev] at this
 cases this
 exact⟨Same.refl _,rv⟩
theorem zH1 {Oc:Wd}{Ob:Addr->Prop}{H1:Hp}{lo:Int}{n:Nat}{ds:List D}(e:ds=(List.range n).map fun (i:Nat)=>PyData.int (lo+(i:Int))):Walks Oc Ob (Itr lo n) H1 ds:=by
 intro H2 Ob2 f s i
 subst e
 refine⟨fun d e => ?_,fun h=>by show n<=i;simpa using h⟩
 rw[List.getElem?_map] at e
 by_cases hi:i<n
 ·rw[List.getElem?_range hi] at e
  cases e
  refine⟨hi,fun x H3 hy => ?_⟩
  obtain⟨rfl,rfl⟩:=hy
  exact⟨Same.refl _,.int _⟩
 ·rw[List.getElem?_eq_none (by simpa using hi)] at e
  cases e
section
variable {C:Ct}{a b c e:Expr}{es:List Expr}{pos p:Pos}{md mda mdb mdc:Md}{ma mb mc:Ev->Res D}{ms:Ev->Res (List D)}{cl:Bool}{tg:Expr}
theorem yQ (h:RE C .rd e ma):RI C tg e (iS ma):=by
 obtain⟨t,p,q⟩:=h
 refine⟨_,xW8 p,fun Oc Ob σ H ρ W R h=>q Oc Ob σ H ρ _ R (Res.zR (Res.zU h) (fun d _ k v H' s r => ?_) fun _ z=>z)⟩
 obtain⟨ds,e,k⟩:=Res.zF k
 rcases r with r | ⟨a,ys,ds',rfl,rfl,e3,e4,e5⟩
 ·cases r with
  | lst r n t=>cases e;exact⟨_,rfl,.inl ⟨⟨_,.inl r⟩,k _ H' s (aH r (fun z=>n (.inr z)) t)⟩⟩
  | tup r n t=>cases e;exact⟨_,rfl,.inr ⟨⟨_,.inl r⟩,k _ H' s (zI7 r (fun z=>n (.inr z)) t)⟩⟩
  | _=>cases e
 ·cases e
  exact⟨_,rfl,.inl ⟨⟨_,SqL.of e3⟩,k _ H' s (aH (.inl e3) e4 e5)⟩⟩
def rng1:List D->Option (List D)
 | [.int j]=>if -(2 ^ 62)<=j/\j<2 ^ 62 then some ((List.range j.toNat).map fun (i:Nat)=>PyData.int (i:Int)) else none
 | _=>none
def iR (f:List D->Option (List D)) (m:Ev->Res (List D)):Ev->Res (List D):=fun ρ=>(m ρ).bind fun ds=>Res.lft (f ds)
theorem VAs.one {Oc:Wd}{Ob:Addr->Prop}{H:Hp}{vs:List V}{d:D}(h:VAs Oc Ob H vs [d]):∃v,vs=[v]/\VA Oc Ob H v d:=by
 cases h with
 | cons a t=>cases t;exact⟨_,rfl,a⟩
theorem VAs.two {Oc:Wd}{Ob:Addr->Prop}{H:Hp}{vs:List V}{d d':D}(h:VAs Oc Ob H vs [d,d']):∃v v',vs=[v,v']/\VA Oc Ob H v d/\VA Oc Ob H v' d':=by
 cases h with
 | cons a t =>
  obtain⟨v,rfl,q⟩:=VAs.one t
  exact⟨_,_,rfl,a,q⟩
theorem vT (hm:C.X.mg "range" = none) (ha:RArg C false [a] ms) (hg:autoParam (Gl C.X "range") zW._auto_1) (hs:autoParam (starEach [a] C.X.env=[(false,eval a C.X.env)]) zW._auto_1):RI C tg (.Call (.Name "range" p) [a] [] pos) (iR rng1 ms):=by
 obtain⟨t,pa,q⟩:=ha
 refine⟨_,zU1 hg hm pa hs,fun Oc Ob σ H ρ W R h=>q Oc Ob σ H ρ _ R (Res.zR (Res.zU h) (fun ds _ k vs H' s r => ?_) fun _ z=>z)⟩
 obtain⟨xs,e,k⟩:=Res.zF k
 unfold rng1 at e
 split at e
 ·split at e
  ·rename_i hb
   cases e
   obtain⟨v,rfl,va⟩:=VAs.one r
   obtain rfl:=va.int
   exact⟨_,rfl,hb.1,hb.2,k _ H' s (zH1 (by simp))⟩
  ·cases e
 ·cases e
end
def cEnv (ρ:Ev) (js:List Nat) (x:D):Ev:=some x::js.map fun j=>(ρ[j]?).join
def capt (js l:List Nat):List Nat:=((List.range js.length).filter fun i=>l.contains (js.getD i 0)).map (·+1)
def noEx {α:Type}:Res α->Res α
 | .ok a=>.ok a
 | _=>.no
theorem zH7 {α:Type}{r:Res α}{a:α}(h:noEx r=.ok a):r=.ok a:=by
 cases r with
 | ok b=>exact h
 | ex c=>cases h
 | no=>cases h
def compM (t:D->Res Bool) (f:D->Res D):List D->Res (List D)
 | []=>.ok []
 | x::xs=>(noEx (t x)).bind fun b=>if b then (noEx (f x)).bind fun y=>(compM t f xs).bind fun ys=>.ok (y::ys) else compM t f xs
def eComp (mi:Ev->Res (List D)) (mt:Ev->Res Bool) (me:Ev->Res D) (js:List Nat):Ev->Res D:=fun ρ=>(mi ρ).bind fun ds=>if ds.length<=sizeLine then (compM (fun x=>mt (cEnv ρ js x)) (fun x=>me (cEnv ρ js x)) ds).bind fun out=>.ok (.list out) else .no
theorem yJ4 {js l:List Nat}{i:Nat}(h:i∈capt js l):∃k,i=k+1/\k<js.length/\js.getD k 0∈l:=by
 unfold capt at h
 obtain⟨k,hk,rfl⟩:=List.mem_map.mp h
 obtain⟨h1,h2⟩:=List.mem_filter.mp hk
 exact⟨k,rfl,List.mem_range.mp h1,List.contains_iff_mem.mp h2⟩
theorem zO6 {js l:List Nat}{k j:Nat}(h:js[k]?=some j) (hl:j∈l):k+1∈capt js l:=by
 unfold capt
 refine List.mem_map.mpr ⟨k,List.mem_filter.mpr ⟨List.mem_range.mpr ?_,?_⟩,rfl⟩
 ·exact (List.getElem?_eq_some_iff.mp h).1
 ·rw[List.getD_eq_getElem?_getD,h]
  exact List.contains_iff_mem.mpr hl
theorem zV7 {ρ:Ev}{js:List Nat}{x d:D}{k:Nat}(h:(cEnv ρ js x)[k+1]?=some (some d)):∃j,js[k]?=some j/\ρ[j]?=some (some d):=by
 unfold cEnv at h
 rw[List.getElem?_cons_succ,List.getElem?_map] at h
 cases e:js[k]? with
 | none=>rw[e] at h;cases h
 | some j =>
  rw[e] at h
  refine⟨j,rfl,?_⟩
  have h:(ρ[j]?).join=some d:=Option.some.inj h
  cases q:ρ[j]? with
  | none=>rw[q] at h;cases h
  | some z=>rw[q] at h;rw[show z=some d from h]
theorem uS {σ:St}{js:List Nat}{v0:Option V}{v:V}{k j:Nat}(h:js[k]?=some j) (e:σ[j]?=some (some v)):(compSt σ js v0)[k+1]?=some (some v):=by
 unfold compSt
 rw[List.getElem?_cons_succ,List.getElem?_map,h]
 show some ((σ[j]?).join)=_
 rw[e]
 rfl
def adr:Option (Option V)->Addr
 | some (some (.ref a))=>a
 | _=>0
def cW (Oc:Wd) (Ob:Addr->Prop) (σ:St) (js:List Nat):Wd:=⟨Uni Oc Ob,fun i=>adr ((compSt σ js none)[i]?)⟩
theorem Rel.comp {Oc:Wd}{Ob:Addr->Prop}{om ln:List Nat}{σ:St}{H:Hp}{ρ:Ev}{js:List Nat}{x:V}{d:D}(R:Rel Oc Ob om ln σ H ρ) (r:Rep H (Uni Oc Ob) x d):Rel (cW Oc Ob σ js) (fun _=>False) [] (capt js (om++ln)) (compSt σ js (some x)) H (cEnv ρ js d) where
 len:=by unfold compSt cEnv;simp
 val:=fun i d' e _ hl=>by
  cases i with
  | zero =>
   cases e
   exact⟨x,rfl,r.less fun b z=>z.elim id fun z=>z.elim⟩
  | succ k =>
   obtain⟨j,e1,e2⟩:=zV7 e
   have h1:j∉om:=fun z=>hl (zO6 e1 (List.mem_append_left _ z))
   have h2:j∉ln:=fun z=>hl (zO6 e1 (List.mem_append_right _ z))
   obtain⟨v,q,rv⟩:=R.val j d' e2 h1 h2
   exact⟨v,uS e1 q,rv.less fun b z=>z.elim id fun z=>z.elim⟩
 own:=fun i d' e h=>nomatch h
 lnt:=fun i d' e _ hl=>by
  obtain⟨k,rfl,hk,hj⟩:=yJ4 hl
  obtain⟨j,e1,e2⟩:=zV7 e
  rw[List.getD_eq_getElem?_getD,e1,Option.getD_some] at hj
  by_cases ho:j∈om
  ·obtain⟨v,q,a,ys,ds,z1,z2,z3,z4,z5⟩:=R.own j d' e2 ho
   have ea:(cW Oc Ob σ js).la (k+1)=a:=by show adr _=a;rw[uS e1 q,z1];rfl
   exact⟨v,uS e1 q,ys,ds,by rw[ea];exact z1,z2,by rw[ea];exact z3,by rw[ea];exact .inr z4,z5.less fun b z=>z.elim id fun z=>z.elim⟩
  ·have hl2:j∈ln:=(List.mem_append.mp hj).elim (fun z=>absurd z ho) id
   obtain⟨v,q,ys,ds,z1,z2,z3,z4,z5⟩:=R.lnt j d' e2 ho hl2
   have ea:(cW Oc Ob σ js).la (k+1)=Oc.la j:=by show adr _=_;rw[uS e1 q,z1];rfl
   exact⟨v,uS e1 q,ys,ds,by rw[ea];exact z1,z2,by rw[ea];exact z3,by rw[ea];exact .inl z4,z5.less fun b z=>z.elim id fun z=>z.elim⟩
 inj:=fun i j di dj a _ _ h=>nomatch h
 oh:=fun a z=>R.oh a (z.elim id fun z=>z.elim)
 ap:=fun a z=>z.elim
abbrev cC (C:Ct) (N:List Str) (scope:Scope) (A:Addr) (fp:List Addr) (s₂:Shared) (H:Hp) (js:List Nat):Ct:=⟨cxComp C.X N scope A fp s₂ H,fun _ _=>False,[],capt js (C.om++C.ln)⟩
def RTs (C:Ct) (ifs:List Expr) (m:Ev->Res Bool):Prop:=∃t,PTs C.X ifs t/\∀(Oc:Wd) (Ob:Addr->Prop) (σ:St) (H:Hp) (ρ:Ev) (Q:Bool->Hp->Prop),Rel Oc Ob C.om C.ln σ H ρ ->
  (m ρ).post (fun b=>∀H',Same H H'->Q b H') (fun c=>∀H',Same H H'->C.XE c H')->t σ H Q
def tYes:Ev->Res Bool:=fun _=>.ok true
theorem xY {C:Ct}:RTs C [] tYes:=⟨_,.nil,fun Oc Ob σ H ρ Q R h=>h H (Same.refl H)⟩
theorem zW3 {C:Ct}{c:Expr}{m:Ev->Res Bool}(h:RT C c m):RTs C [c] m:=by
 obtain⟨t,p,q⟩:=h
 exact⟨t,.one p,q⟩
def WalksS (Oc:Wd) (Ob:Addr->Prop) (J:It) (H1:Hp) (ds:List D):Prop :=
 ∀(H2:Hp),Same H1 H2->∀i,(∀d,ds[i]?=some d->J.go i H2/\∀x H3,J.yld i H2 x H3->Same H2 H3/\Rep H3 (Uni Oc Ob) x d)/\(ds.length<=i->J.stop i H2)
def RIc (C:Ct) (tg iter:Expr) (m:Ev->Res (List D)):Prop :=
 ∃wi,PI C.X tg iter wi/\∀(Oc:Wd) (Ob:Addr->Prop) (σ:St) (H:Hp) (ρ:Ev) (R:It->Hp->Prop),Rel Oc Ob C.om C.ln σ H ρ ->
  (m ρ).post (fun ds=>∀J H1,Same H H1->WalksS Oc Ob J H1 ds->R J H1) (fun c=>∀H',Same H H'->C.XE c H')->wi σ H R
theorem RI.c {C:Ct}{tg iter:Expr}{m:Ev->Res (List D)}(h:RI C tg iter m):RIc C tg iter m:=by
 obtain⟨wi,p,q⟩:=h
 exact⟨wi,p,fun Oc Ob σ H ρ W R h=>q Oc Ob σ H ρ W R (Res.zR h (fun ds _ k J H1 s w=>k J H1 s fun H2 s2=>w H2 Ob (Same.frm s2) fun b z=>.inl z) fun _ z=>z)⟩
theorem zT5 {C:Ct}{elt:Expr}{ifs:List Expr}{scope:Scope}{N:List Str}{js:List Nat}{mi:Ev->Res (List D)}{mt:Ev->Res Bool}{me:Ev->Res D}{wi:TI}
  (qi:∀(Oc:Wd) (Ob:Addr->Prop) (σ:St) (H:Hp) (ρ:Ev) (R:It->Hp->Prop),Rel Oc Ob C.om C.ln σ H ρ->(mi ρ).post (fun ds=>∀J H1,Same H H1->WalksS Oc Ob J H1 ds->R J H1) (fun c=>∀H',Same H H'->C.XE c H')->wi σ H R)
  (ht:∀A fp s₂ H,RTs (cC C N scope A fp s₂ H js) ifs mt) (he:∀A fp s₂ H,RE (cC C N scope A fp s₂ H js) .cl elt me)
  {Oc:Wd}{Ob:Addr->Prop}{σ:St}{H:Hp}{ρ:Ev}{Q:VK}(R:Rel Oc Ob C.om C.ln σ H ρ) (h:(eComp mi mt me js ρ).post (fun d=>∀v H',Same H H'->VR .new Oc Ob H H' v d->Q v H') (fun c=>∀H',Same H H'->C.XE c H')) :
  tComp wi (fun A fp s H=>Classical.choose (ht A fp s H)) (fun A fp s H=>Classical.choose (he A fp s H)) js σ H Q:=by
 refine qi Oc Ob σ H ρ _ R (Res.zR (Res.zU h) (fun ds _ k J H1 s1 wk => ?_) fun _ z=>z)
 intro A fp s₂ H₂
 have qt:=(Classical.choose_spec (ht A fp s₂ H₂)).2
 have qe:=(Classical.choose_spec (he A fp s₂ H₂)).2
 have k:(if ds.length<=sizeLine then (compM (fun x=>mt (cEnv ρ js x)) (fun x=>me (cEnv ρ js x)) ds).bind fun out=>Res.ok (PyData.list out) else .no).post (fun d=>∀v H',Same H H'->VR .new Oc Ob H H' v d->Q v H') (fun c=>∀H',Same H H'->C.XE c H'):=k
 by_cases hlen:ds.length<=sizeLine
 ·rw[if_pos hlen] at k
  generalize hT:(fun x=>mt (cEnv ρ js x))=T at k
  generalize hF:(fun x=>me (cEnv ρ js x))=F at k
  cases ec:compM T F ds with
  | no=>rw[ec] at k;exact k.elim
  | ex c =>
   exfalso
   have nex:∀xs c,compM T F xs ≠ .ex c:=by
    intro xs
    induction xs with
    | nil=>intro c z;cases z
    | cons x xs ih =>
     intro c z
     rw[compM] at z
     cases e1:noEx (T x) with
     | no=>rw[e1] at z;cases z
     | ex c'=>cases hx:T x <;> rw[hx] at e1 <;> cases e1
     | ok b =>
      rw[e1,Res.bind_ok] at z
      cases b with
      | false=>exact ih c z
      | true =>
       simp only[if_true] at z
       cases e2:noEx (F x) with
       | no=>rw[e2] at z;cases z
       | ex c'=>cases hx:F x <;> rw[hx] at e2 <;> cases e2
       | ok y =>
        rw[e2,Res.bind_ok] at z
        cases e3:compM T F xs with
        | no=>rw[e3] at z;cases z
        | ex c'=>exact ih c' e3
        | ok ys=>rw[e3] at z;cases z
   exact nex ds c ec
  | ok out =>
   rw[ec,Res.bind_ok] at k
   refine⟨fun i m acc H=>m=ds.length-i/\i<=ds.length/\Same H1 H/\∃done rest,Reps H (Uni Oc Ob) acc done/\acc.length<=i/\compM T F (ds.drop i)=.ok rest/\done++rest=out,⟨_,rfl,Nat.zero_le _,Same.refl _,[],out,.nil,Nat.le_refl _,ec,rfl⟩,?_⟩
   rintro i m acc H2 ⟨rfl,hi,s2,done,rest,ra,la,er,eo⟩
   obtain⟨w1,w2⟩:=wk H2 s2 i
   have R2:=(R.same s1).same s2
   by_cases hlt:i<ds.length
   ·obtain⟨go,yl⟩:=w1 ds[i] (List.getElem?_eq_getElem hlt)
    have ed:ds.drop i=ds[i]::ds.drop (i+1):=List.drop_eq_getElem_cons hlt
    rw[ed,compM] at er
    have nxt:∀(acc':List V) (H3:Hp) (done' rest':List D),Same H2 H3->Reps H3 (Uni Oc Ob) acc' done'->acc'.length<=i+1->compM T F (ds.drop (i+1))=.ok rest'->done'++rest'=out ->
      ∃m',m'<ds.length-i/\(m'=ds.length-(i+1)/\i+1<=ds.length/\Same H1 H3/\∃done rest,Reps H3 (Uni Oc Ob) acc' done/\acc'.length<=i+1/\compM T F (ds.drop (i+1))=.ok rest/\done++rest=out) :=
     fun acc' H3 done' rest' s3 r3 l3 c3 o3=>⟨_,by bv_omega,rfl,hlt,s2.trans s3,done',rest',r3,l3,c3,o3⟩
    refine .inr ⟨go,fun acc' H'=>∃m',m'<ds.length-i/\(m'=ds.length-(i+1)/\i+1<=ds.length/\Same H1 H'/\∃done rest,Reps H' (Uni Oc Ob) acc' done/\acc'.length<=i+1/\compM T F (ds.drop (i+1))=.ok rest/\done++rest=out),fun acc' H' z=>z,fun x H3 hy => ?_⟩
    obtain⟨s3,rx⟩:=yl x H3 hy
    have R3:=(R2.same s3).comp (js:=js) rx
    cases e1:noEx (T ds[i]) with
    | no=>rw[e1] at er;cases er
    | ex c=>rw[e1] at er;cases er
    | ok b =>
     rw[e1,Res.bind_ok] at er
     have t1:mt (cEnv ρ js ds[i])=.ok b:=by
      have t1:=zH7 e1
      rw[<-hT] at t1
      exact t1
     refine qt _ _ _ H3 _ _ R3 ?_
     show (mt (cEnv ρ js ds[i])).post _ _
     rw[t1]
     intro H4 s4
     cases b with
     | false=>exact iteF (nxt acc H4 done rest (s3.trans s4) (ra.same (s3.trans s4)) (by bv_omega) er eo)
     | true =>
      refine iteT ?_
      simp only[if_true] at er
      cases e2:noEx (F ds[i]) with
      | no=>rw[e2] at er;cases er
      | ex c=>rw[e2] at er;cases er
      | ok y =>
       rw[e2,Res.bind_ok] at er
       have t2:me (cEnv ρ js ds[i])=.ok y:=by
        have t2:=zH7 e2
        rw[<-hF] at t2
        exact t2
       refine qe _ _ _ H4 _ _ (R3.same s4) ?_
       show (me (cEnv ρ js ds[i])).post _ _
       rw[t2]
       intro v H5 s5 rv
       refine⟨by bv_omega,?_⟩
       obtain⟨ys,e3⟩:∃ys,compM T F (ds.drop (i+1))=.ok ys:=by
        cases e3:compM T F (ds.drop (i+1)) with
        | no=>rw[e3] at er;cases er
        | ex c=>rw[e3] at er;cases er
        | ok ys=>exact⟨ys,rfl⟩
       rw[e3,Res.bind_ok] at er
       cases er
       have rv':Rep H5 (Uni Oc Ob) v y:=Rep.less rv fun b z=>.inl z
       refine nxt (acc ++ [v]) H5 (done ++ [y]) ys ((s3.trans s4).trans s5) ((ra.same ((s3.trans s4).trans s5)).append (.one rv')) (by rw[List.length_append,List.length_singleton];bv_omega) e3 ?_
       rw[List.append_assoc]
       exact eo
   ·have ei:i=ds.length:=by bv_omega
    subst ei
    refine .inl ⟨w2 (Nat.le_refl _),fun p hp => ?_⟩
    rw[List.drop_length] at er
    cases er
    rw[List.append_nil] at eo
    subst eo
    exact k _ _ ((s1.trans s2).trans (Same.new hp)) (xB (s1.trans s2) hp ra)
 ·rw[if_neg hlen] at k
  exact k.elim
theorem xZ {C:Ct}{elt iter:Expr}{ifs:List Expr}{sc0 scope:Scope}{N0:List Str}{px pos:Pos}{xt:Str}{fs:List Str}{js:List Nat}{mi:Ev->Res (List D)}{mt:Ev->Res Bool}{me:Ev->Res D}(S:CompScope sc0 scope N0 xt fs js) (h0:C.X.env.scope=sc0) (hN0:C.X.N=N0) (hc:C.X.calm=true)
  (hi:RIc C (.Name xt px) iter mi) (ht:∀A fp s₂ H,RTs (cC C (xt::fs) scope A fp s₂ H js) ifs mt) (he:∀A fp s₂ H,RE (cC C (xt::fs) scope A fp s₂ H js) .cl elt me)
  (hs:autoParam (∀x,foldedSetIterable iter C.X.env x=pure x) qR._auto_1) :
  RE C .new (.ListComp elt [⟨.Name xt px,iter,ifs,0⟩] scope pos) (eComp mi mt me js):=by
 obtain⟨wi,pi,qi⟩:=hi
 refine⟨_,yE4 (tt:=fun A fp s H=>Classical.choose (ht A fp s H)) (te:=fun A fp s H=>Classical.choose (he A fp s H)) S h0 hN0 hc pi (fun A fp s H=>(Classical.choose_spec (ht A fp s H)).1) (fun A fp s H=>(Classical.choose_spec (he A fp s H)).1) hs,fun Oc Ob σ H ρ Q R h=>zT5 qi ht he R h⟩
section
variable {C:Ct}{fr:Bool}{e c:Expr}{pos:Pos}{md:Md}{me:Ev->Res D}{mt:Ev->Res Bool}{st:Stmt}{sts rest:List Stmt}{m n:Ev->Res Out}
def sN:Ev->Res Out:=fun ρ=>.ok (.nx ρ)
def sQ (m n:Ev->Res Out):Ev->Res Out:=fun ρ=>(m ρ).bind fun o=>match o with
 | .nx ρ'=>n ρ'
 | .rt d=>.ok (.rt d)
theorem yV:RSs C fr [] sN:=⟨_,zG2,fun Oc Ob σ H ρ E R h=>h σ H Ob R (Same.frm (Same.refl H)) fun b z=>.inl z⟩
theorem zQ (h:RS C fr st m):RSs C fr [st] m:=by
 obtain⟨t,p,q⟩:=h
 exact⟨_,gM p,q⟩
theorem zT (h:RS C fr st m) (hr:RSs C fr rest n):RSs C fr (st::rest) (sQ m n):=by
 obtain⟨t,p,q⟩:=h
 obtain⟨t',p',q'⟩:=hr
 refine⟨_,wK p p',fun Oc Ob σ H ρ E R h=>q Oc Ob σ H ρ _ R (Res.zR (Res.zU h) (fun o _ k => ?_) fun _ z=>z)⟩
 cases o with
 | rt d=>exact k
 | nx ρ'=>exact fun σ' H' Ob' R' f s=>q' Oc Ob' σ' H' ρ' E R' (SPost.step f s k)
def sX:Ev->Res Out:=fun _=>.no
theorem bA:RS C fr st sX:=⟨_,yN9,fun Oc Ob σ H ρ E R h=>h.elim⟩
def sIf (t:Ev->Res Bool) (m n:Ev->Res Out):Ev->Res Out:=fun ρ=>(t ρ).bind fun b=>if b then m ρ else n ρ
theorem yA {x y:List Stmt}(hc:RT C c mt) (hx:RSs C fr x m) (hy:RSs C fr y n):RS C fr (.If c x y pos) (sIf mt m n):=by
 obtain⟨t,p,q⟩:=hc
 obtain⟨t1,p1,q1⟩:=hx
 obtain⟨t2,p2,q2⟩:=hy
 refine⟨_,yJ8 p p1 p2,fun Oc Ob σ H ρ E R h=>q Oc Ob σ H ρ _ R (Res.zR (Res.zU h) (fun b _ k H' s => ?_) fun c z H' s=>z H' (Same.frm s))⟩
 cases b with
 | true=>exact iteT (q1 Oc Ob σ H' ρ E (R.same s) (SPost.same s k))
 | false=>exact iteF (q2 Oc Ob σ H' ρ E (R.same s) (SPost.same s k))
def sR (m:Ev->Res D):Ev->Res Out:=fun ρ=>(m ρ).bind fun d=>.ok (.rt d)
theorem zI (he:RE C .cl e me):RS C false (.Return (some e) pos) (sR me):=by
 obtain⟨t,p,q⟩:=he
 refine⟨_,zM2 p,fun Oc Ob σ H ρ E R h=>q Oc Ob σ H ρ _ R (Res.zR (Res.zU h) (fun d _ k v H' s r => ?_) fun c z H' s=>z H' (Same.frm s))⟩
 exact k v H' (Same.frm s) (Rep.less r fun b z=>.inl z)
theorem zH9 (i:Nat){x:Str}{p':Pos}(hN:autoParam (C.X.N[i]?=some x) zW._auto_1) (ho:autoParam (C.om.contains i=true) zW._auto_1) (hv:autoParam (Vis C.X.env.scope x) kO._auto_1) (hd:autoParam ((x == ("__debug__":Str))=false) zG._auto_1)
  (hcd:autoParam ((x == ("__classdict__":Str))=false) zG._auto_1):RS C true (.Return (some (.Name x p')) pos) (sR (eV i)):=by
 refine⟨_,zM2 (kW hN hv hd hcd),fun Oc Ob σ H ρ E R h => ?_⟩
 obtain⟨d,e,k⟩:=jH (Res.zU h)
 obtain⟨v,q,a,ys,ds,e1,e2,e3,e4,e5⟩:=R.own i d e (uA ho)
 exact⟨v,q,k v H (Same.frm (Same.refl H)) ⟨a,ys,ds,e1,e2,.inr e4,R.ap a e4,e3,e5.less fun b z=>z.elim .inl fun z=>.inr (by subst z;exact e4)⟩⟩
theorem xV {α:Type}{l:List (Option α)}{i j:Nat}{v d:α}(h:(l.set i (some v))[j]?=some (some d)):(j=i/\d=v)\/(j≠i/\l[j]?=some (some d)):=by
 by_cases e:i=j
 ·subst e
  rw[List.getElem?_set_self'] at h
  cases q:l[i]? with
  | none=>rw[q] at h;cases h
  | some z=>rw[q] at h;cases h;exact .inl ⟨rfl,rfl⟩
 ·rw[List.getElem?_set_ne e] at h
  exact .inr ⟨fun z=>e z.symm,h⟩
theorem zZ4 {α:Type}{l:List (Option α)}{i j:Nat}{v d:α}(h:(l.set i (some v))[j]?=some (some d)):j<l.length:=by
 have:=(List.getElem?_eq_some_iff.mp h).1
 simpa using this
theorem Rel.set {Oc:Wd}{Ob:Addr->Prop}{om ln:List Nat}{σ:St}{H:Hp}{ρ:Ev}{i:Nat}{v:V}{d:D}(R:Rel Oc Ob om ln σ H ρ) (ho:i∉om) (hl:i∉ln) (r:Rep H (Uni Oc Ob) v d):Rel Oc Ob om ln (σ.set i (some v)) H (ρ.set i (some d)) where
 len:=by rw[List.length_set,List.length_set];exact R.len
 val:=fun j d' e h1 h2=>by
  have hj:=zZ4 e
  rcases xV e with ⟨rfl,rfl⟩ | ⟨ne,e⟩
  ·exact⟨v,by rw[List.getElem?_set_self (by rw[R.len];exact hj)],r⟩
  ·obtain⟨w,q,k⟩:=R.val j d' e h1 h2
   exact⟨w,by rw[List.getElem?_set_ne (fun z=>ne z.symm)];exact q,k⟩
 own:=fun j d' e h1=>by
  rcases xV e with ⟨rfl,rfl⟩ | ⟨ne,e⟩
  ·exact absurd h1 ho
  ·obtain⟨w,q,k⟩:=R.own j d' e h1
   exact⟨w,by rw[List.getElem?_set_ne (fun z=>ne z.symm)];exact q,k⟩
 lnt:=fun j d' e h1 h2=>by
  rcases xV e with ⟨rfl,rfl⟩ | ⟨ne,e⟩
  ·exact absurd h2 hl
  ·obtain⟨w,q,k⟩:=R.lnt j d' e h1 h2
   exact⟨w,by rw[List.getElem?_set_ne (fun z=>ne z.symm)];exact q,k⟩
 inj:=fun j k dj dk a ej ek hj hk qj qk=>by
  rcases xV ej with ⟨rfl,rfl⟩ | ⟨nj,ej⟩
  ·exact absurd hj ho
  ·rcases xV ek with ⟨rfl,rfl⟩ | ⟨nk,ek⟩
   ·exact absurd hk ho
   ·rw[List.getElem?_set_ne (fun z=>nj z.symm)] at qj
    rw[List.getElem?_set_ne (fun z=>nk z.symm)] at qk
    exact R.inj j k dj dk a ej ek hj hk qj qk
 oh:=R.oh
 ap:=R.ap
theorem Rel.setO {Oc:Wd}{Ob:Addr->Prop}{om ln:List Nat}{σ:St}{H H':Hp}{ρ:Ev}{i:Nat}{v:V}{d:D}(R:Rel Oc Ob om ln σ H ρ) (s:Same H H') (ho:i∈om) (r:VR .new Oc Ob H H' v d):∃a,H a=none/\Rel Oc (fun b=>Ob b\/b=a) om ln (σ.set i (some v)) H' (ρ.set i (some d)):=by
 obtain⟨a,ys,ds,rfl,rfl,e3,e4,e5⟩:=r
 have up:∀{vs:List V}{es:List D},Reps H (Uni Oc Ob) vs es->Reps H' (Uni Oc fun b=>Ob b\/b=a) vs es:=fun r=>r.keep (fun b o e _=>s b o e) fun b n z=>z.elim .inl fun z=>z.elim .inr fun z=>by subst z;exact absurd e3 n
 have up1:∀{v:V}{e:D},Rep H (Uni Oc Ob) v e->Rep H' (Uni Oc fun b=>Ob b\/b=a) v e:=fun r=>r.keep (fun b o e _=>s b o e) fun b n z=>z.elim .inl fun z=>z.elim .inr fun z=>by subst z;exact absurd e3 n
 refine⟨a,e3,?_,fun j d' e h1 h2 => ?_,fun j d' e h1 => ?_,fun j d' e h1 h2 => ?_,fun j k dj dk b ej ek hj hk qj qk => ?_,fun b z => ?_,fun b z => ?_⟩
 ·rw[List.length_set,List.length_set];exact R.len
 ·rcases xV e with ⟨rfl,rfl⟩ | ⟨ne,e⟩
  ·exact absurd ho h1
  ·obtain⟨w,q,k⟩:=R.val j d' e h1 h2
   exact⟨w,by rw[List.getElem?_set_ne (fun z=>ne z.symm)];exact q,up1 k⟩
 ·have hj:=zZ4 e
  rcases xV e with ⟨rfl,rfl⟩ | ⟨ne,e⟩
  ·refine⟨.ref a,by rw[List.getElem?_set_self (by rw[R.len];exact hj)],a,ys,ds,rfl,rfl,e4,.inr rfl,e5.less fun b z=>z.elim (fun z=>.inl (.inl z)) fun z=>z.elim (fun z=>.inl (.inr z)) .inr⟩
  ·obtain⟨w,q,b,zs,fs,z1,z2,z3,z4,z5⟩:=R.own j d' e h1
   exact⟨w,by rw[List.getElem?_set_ne (fun z=>ne z.symm)];exact q,b,zs,fs,z1,z2,s _ _ z3,.inl z4,up z5⟩
 ·rcases xV e with ⟨rfl,rfl⟩ | ⟨ne,e⟩
  ·exact absurd ho h1
  ·obtain⟨w,q,zs,fs,z1,z2,z3,z4,z5⟩:=R.lnt j d' e h1 h2
   exact⟨w,by rw[List.getElem?_set_ne (fun z=>ne z.symm)];exact q,zs,fs,z1,z2,s _ _ z3,z4,up z5⟩
 ·have lj:=zZ4 ej
  have lk:=zZ4 ek
  rcases xV ej with ⟨rfl,rfl⟩ | ⟨nj,ej'⟩
  ·rw[List.getElem?_set_self (by rw[R.len];exact lj)] at qj
   cases qj
   rcases xV ek with ⟨rfl,rfl⟩ | ⟨nk,ek'⟩
   ·rfl
   ·rw[List.getElem?_set_ne (fun z=>nk z.symm)] at qk
    obtain⟨w,q,b,zs,fs,z1,z2,z3,z4,z5⟩:=R.own k dk ek' hk
    rw[qk] at q
    cases q
    cases z1
    rw[e3] at z3
    cases z3
  ·rw[List.getElem?_set_ne (fun z=>nj z.symm)] at qj
   rcases xV ek with ⟨rfl,rfl⟩ | ⟨nk,ek'⟩
   ·rw[List.getElem?_set_self (by rw[R.len];exact lk)] at qk
    cases qk
    obtain⟨w,q,b,zs,fs,z1,z2,z3,z4,z5⟩:=R.own j dj ej' hj
    rw[qj] at q
    cases q
    cases z1
    rw[e3] at z3
    cases z3
   ·rw[List.getElem?_set_ne (fun z=>nk z.symm)] at qk
    exact R.inj j k dj dk b ej' ek' hj hk qj qk
 ·rcases z with z | z | rfl
  ·exact Same.ne s (R.oh b (.inl z))
  ·exact Same.ne s (R.oh b (.inr z))
  ·rw[e4];exact fun z=>nomatch z
 ·rcases z with z | rfl
  ·exact R.ap b z
  ·exact fun z=>R.oh b (.inl z) e3
def sS (i:Nat) (m:Ev->Res D):Ev->Res Out:=fun ρ=>(m ρ).bind fun d=>.ok (.nx (ρ.set i (some d)))
theorem yO (i:Nat){x:Str}{p':Pos}(nd:C.X.N.Nodup) (he:RE C .cl e me) (hi:autoParam (C.X.N[i]?=some x) zW._auto_1) (ho:autoParam (C.om.contains i=false) zW._auto_1) (hl:autoParam (C.ln.contains i=false) zW._auto_1) (hx:autoParam (Loc C.X.env.scope x) cJ._auto_1)
  (hs:autoParam (swapsWith e (some (.Name x p')) pos.line C.X.env=pure false) zW._auto_1) (hf:autoParam (C.X.fn x=true\/C.X.env.scope.names.lookup x=some .local) autoK12._auto_1):RS C fr (.Assign [.Name x p'] e pos) (sS i me):=by
 obtain⟨t,p,q⟩:=he
 refine⟨_,kR nd hi hx p hs hf,fun Oc Ob σ H ρ E R h=>q Oc Ob σ H ρ _ R (Res.zR (Res.zU h) (fun d _ k v H' s r => ?_) fun c z H' s=>z H' (Same.frm s))⟩
 exact k _ H' Ob ((R.same s).set (xI ho) (xI hl) r) (Same.frm s) fun b z=>.inl z
theorem wM (i:Nat){x:Str}{p':Pos}(nd:C.X.N.Nodup) (he:RE C .new e me) (hi:autoParam (C.X.N[i]?=some x) zW._auto_1) (ho:autoParam (C.om.contains i=true) zW._auto_1) (hx:autoParam (Loc C.X.env.scope x) cJ._auto_1)
  (hs:autoParam (swapsWith e (some (.Name x p')) pos.line C.X.env=pure false) zW._auto_1) (hf:autoParam (C.X.fn x=true\/C.X.env.scope.names.lookup x=some .local) autoK12._auto_1):RS C fr (.Assign [.Name x p'] e pos) (sS i me):=by
 obtain⟨t,p,q⟩:=he
 refine⟨_,kR nd hi hx p hs hf,fun Oc Ob σ H ρ E R h=>q Oc Ob σ H ρ _ R (Res.zR (Res.zU h) (fun d _ k v H' s r => ?_) fun c z H' s=>z H' (Same.frm s))⟩
 obtain⟨a,ha,R'⟩:=R.setO s (uA ho) r
 exact k _ H' _ R' (Same.frm s) fun b z=>z.elim .inl fun z=>.inr (by subst z;exact ha)
def sE (m:Ev->Res D):Ev->Res Out:=fun ρ=>(m ρ).bind fun _=>.ok (.nx ρ)
theorem zV4 (he:RE C md e me) (hs:autoParam (swapsWith e none pos.line C.X.env=pure false) zW._auto_1):RS C fr (.Expr e pos) (sE me):=by
 obtain⟨t,p,q⟩:=he
 refine⟨_,gI p hs,fun Oc Ob σ H ρ E R h=>q Oc Ob σ H ρ _ R (Res.zR (Res.zU h) (fun d _ k v H' s r => ?_) fun c z H' s=>z H' (Same.frm s))⟩
 exact k σ H' Ob (R.same s) (Same.frm s) fun b z=>.inl z
theorem Rel.write {Oc:Wd}{Ob:Addr->Prop}{om ln:List Nat}{σ:St}{H:Hp}{ρ:Ev}{i:Nat}{a:Addr}{ys ys':List V}{d:D}{ds':List D}(R:Rel Oc Ob om ln σ H ρ) (ho:i∈om) (ed:ρ[i]?=some (some d)) (es:σ[i]?=some (some (.ref a))) (ha:H a=some (.lst ys)) (hb:Ob a)
  (r:Reps H (Uni Oc Ob) ys' ds'):Rel Oc Ob om ln σ (upd H a (.lst ys')) (ρ.set i (some (.list ds'))):=by
 have kp:∀b o,H b=some o->¬Uni Oc Ob b->upd H a (.lst ys') b=some o:=fun b o e n=>by
  rw[zN (fun z=>n (by subst z;exact .inr hb))];exact e
 have up:∀{vs:List V}{es:List D},Reps H (Uni Oc Ob) vs es->Reps (upd H a (.lst ys')) (Uni Oc Ob) vs es:=fun r=>r.keep kp fun b n z=>z
 have up1:∀{v:V}{e:D},Rep H (Uni Oc Ob) v e->Rep (upd H a (.lst ys')) (Uni Oc Ob) v e:=fun r=>r.keep kp fun b n z=>z
 have li:i<σ.length:=(List.getElem?_eq_some_iff.mp es).1
 refine⟨by rw[List.length_set];exact R.len,fun j d' e h1 h2 => ?_,fun j d' e h1 => ?_,fun j d' e h1 h2 => ?_,fun j k dj dk b ej ek hj hk qj qk => ?_,fun b z => ?_,R.ap⟩
 ·rcases xV e with ⟨rfl,rfl⟩ | ⟨ne,e⟩
  ·exact absurd ho h1
  ·obtain⟨w,q,k⟩:=R.val j d' e h1 h2
   exact⟨w,q,up1 k⟩
 ·rcases xV e with ⟨rfl,rfl⟩ | ⟨ne,e⟩
  ·exact⟨.ref a,es,a,ys',ds',rfl,rfl,yD,hb,up r⟩
  ·obtain⟨w,q,b,zs,fs,rfl,z2,z3,z4,z5⟩:=R.own j d' e h1
   have nb:b≠a:=fun z=>by subst z;exact ne (R.inj j i d' d b e ed h1 ho q es)
   exact⟨_,q,b,zs,fs,rfl,z2,by rw[zN nb];exact z3,z4,up z5⟩
 ·rcases xV e with ⟨rfl,rfl⟩ | ⟨ne,e⟩
  ·exact absurd ho h1
  ·obtain⟨w,q,zs,fs,z1,z2,z3,z4,z5⟩:=R.lnt j d' e h1 h2
   have nb:Oc.la j≠a:=fun z=>R.ap a hb (z▸z4)
   exact⟨_,q,zs,fs,z1,z2,by rw[zN nb];exact z3,z4,up z5⟩
 ·have get:∀j dj,(ρ.set i (some (.list ds')))[j]?=some (some dj)->∃d,ρ[j]?=some (some d):=fun j dj e=>by
   rcases xV e with ⟨rfl,rfl⟩ | ⟨ne,e⟩
   ·exact⟨d,ed⟩
   ·exact⟨dj,e⟩
  obtain⟨d1,e1⟩:=get j dj ej
  obtain⟨d2,e2⟩:=get k dk ek
  exact R.inj j k d1 d2 b e1 e2 hj hk qj qk
 ·by_cases h:b=a
  ·subst h;rw[yD];exact fun z=>nomatch z
  ·rw[zN h];exact R.oh b z
def PrM (r:V->List V->Hp->VK->Prop) (g:List D->List D->Option (List D)):Prop :=
 ∀(O:Addr->Prop) (H:Hp) (l:Addr) (xs vs:List V) (xd ad ds':List D) (Q:VK),H l=some (.lst xs)->Reps H O xs xd->Reps H O vs ad->g xd ad=some ds'->(∀xs',Reps H O xs' ds'->Q .non (upd H l (.lst xs')))->r (.ref l) vs H Q
def lstD:D->Option (List D)
 | .list ds=>some ds
 | _=>none
def sM (i:Nat) (g:List D->List D->Option (List D)) (m:Ev->Res (List D)):Ev->Res Out:=fun ρ=>(eV i ρ).bind fun d=>(Res.lft (lstD d)).bind fun xd=>(m ρ).bind fun ad=>(Res.lft (g xd ad)).bind fun ds=>.ok (.nx (ρ.set i (some (.list ds))))
theorem kK {d:D}{ds:List D}(h:lstD d=some ds):d=.list ds:=by
 cases d <;> simp[lstD] at h ⊢
 exact h
theorem cK (i:Nat){x name:Str}{id:String}{a:Expr}{es:List Expr}{ms:Ev->Res (List D)}{p' apos cpos:Pos}{r:V->List V->Hp->VK->Prop}{g:List D->List D->Option (List D)}(slot:Slot "list" name id) (hty:typeOf (.builtin id)=pure (.type "method_descriptor")) (hm:MtR C.X id r) (hp:PrM r g) (ha:RArg C true (a::es) ms)
  (hN:autoParam (C.X.N[i]?=some x) zW._auto_1) (ho:autoParam (C.om.contains i=true) zW._auto_1) (hv:autoParam (Vis C.X.env.scope x) kO._auto_1) (hd:autoParam ((x == ("__debug__":Str))=false) zG._auto_1) (hcd:autoParam ((x == ("__classdict__":Str))=false) zG._auto_1)
  (hbase:autoParam (attributeBase (.Name x p') name C.X.env (eval (.Name x p') C.X.env)=eval (.Name x p') C.X.env) zW._auto_1)
  (hfew:((backTo cpos (starEach (a::es) C.X.env)).all (fun x=>!x.1)&&(backToKw cpos (keywordEach [] C.X.env)).all (fun x=>x.1.isSome)
  &&decide ((a::es).length+([]:List Keyword).length+(if ([]:List Keyword).isEmpty then 0 else 1)<30))=true:=by rfl)
  (hline:autoParam ((apos.endLine == cpos.line)=true) zW._auto_1) (hs:autoParam (starEach (a::es) C.X.env=(false,eval a C.X.env)::starEach es C.X.env) zW._auto_1) (hplain:autoParam ((backTo cpos (starEach es C.X.env)).any (·.1)=false) zW._auto_1)
  (hsw:autoParam (swapsWith (.Call (.Attribute (.Name x p') name apos) (a::es) [] cpos) none pos.line C.X.env=pure false) zW._auto_1) :
  RS C fr (.Expr (.Call (.Attribute (.Name x p') name apos) (a::es) [] cpos) pos) (sM i g ms):=by
 obtain⟨t,p,q⟩:=ha
 refine⟨_,gI (zY1 PySem.F.plainAttrs_list slot hty hm (kW hN hv hd hcd) p hbase hfew hline hs hplain) hsw,fun Oc Ob σ H ρ E R h => ?_⟩
 obtain⟨d,ed,k⟩:=jH (Res.zU h)
 obtain⟨xd,ex,k⟩:=Res.zF (Res.zU k)
 obtain rfl:=kK ex
 obtain⟨v,qv,l,ys,ds,rfl,e2,e3,e4,e5⟩:=R.own i _ ed (uA ho)
 cases e2
 refine⟨_,qv,.inl ⟨rfl,_,SqL.of e3⟩,q Oc Ob σ H ρ _ R (Res.zR (Res.zU k) (fun ad _ k vs H' s r' => ?_) fun c z H' s=>z H' (Same.frm s))⟩
 obtain⟨ds',eg,k⟩:=Res.zF (Res.zU k)
 refine hp _ H' l ys vs xd ad ds' _ (s _ _ e3) (e5.same s) r' eg fun xs' rx => ?_
 refine k _ _ Ob ((R.same s).write (uA ho) ed qv (s _ _ e3) e4 rx) (fun b o e n => ?_) fun b z=>.inl z
 rw[zN (fun z=>n (by subst z;exact e4))]
 exact s b o e
end
def RG (C:Ct) (tg:Expr) (g:D->Ev->Option Ev):Prop :=
 ∃t,PG C.X tg t/\∀(Oc:Wd) (Ob:Addr->Prop) (σ:St) (H:Hp) (ρ ρ':Ev) (v:V) (d:D) (Q:St->Hp->Prop),Rel Oc Ob C.om C.ln σ H ρ->Rep H (Uni Oc Ob) v d->g d ρ=some ρ'->(∀σ',Rel Oc Ob C.om C.ln σ' H ρ'->Q σ' H)->t v σ H Q
def gN (i:Nat):D->Ev->Option Ev:=fun d ρ=>some (ρ.set i (some d))
section
variable {C:Ct}{fr:Bool}{e c:Expr}{es:List Expr}{pos:Pos}{md:Md}{me:Ev->Res D}{mt:Ev->Res Bool}{st:Stmt}{body sts rest:List Stmt}{m n:Ev->Res Out}{mi:Ev->Res (List D)}{g:D->Ev->Option Ev}
theorem yM (i:Nat){x:Str}(nd:C.X.N.Nodup) (hi:autoParam (C.X.N[i]?=some x) zW._auto_1) (ho:autoParam (C.om.contains i=false) zW._auto_1) (hl:autoParam (C.ln.contains i=false) zW._auto_1) (hx:autoParam (Loc C.X.env.scope x) cJ._auto_1)
  (hf:autoParam (C.X.fn x=true\/C.X.env.scope.names.lookup x=some .local) autoK12._auto_1):RG C (.Name x pos) (gN i):=by
 refine⟨_,zW7 nd hi hx hf,fun Oc Ob σ H ρ ρ' v d Q R r e k => ?_⟩
 cases e
 exact k _ (R.set (xI ho) (xI hl) r)
def RGs (C:Ct) (ts:List Expr) (g:List D->Ev->Option Ev):Prop :=
 ∃t,PGs C.X ts t/\∀(Oc:Wd) (Ob:Addr->Prop) (σ:St) (H:Hp) (ρ ρ':Ev) (vs:List V) (ds:List D) (Q:St->Hp->Prop),Rel Oc Ob C.om C.ln σ H ρ->Reps H (Uni Oc Ob) vs ds->g ds ρ=some ρ'->(∀σ',Rel Oc Ob C.om C.ln σ' H ρ'->Q σ' H)->t vs σ H Q
def gsN:List D->Ev->Option Ev
 | [],ρ=>some ρ
 | _,_=>none
def gsC (g:D->Ev->Option Ev) (h:List D->Ev->Option Ev):List D->Ev->Option Ev
 | d::ds,ρ=>(g d ρ).bind fun ρ1=>h ds ρ1
 | [],_=>none
theorem zG3:RGs C [] gsN:=by
 refine⟨_,yD3,fun Oc Ob σ H ρ ρ' vs ds Q R r e k => ?_⟩
 cases r with
 | nil=>cases e;exact⟨rfl,k σ R⟩
 | cons=>cases e
theorem vK {h:List D->Ev->Option Ev}(h1:RG C e g) (h2:RGs C es h) (hs:autoParam ((assignEach (e::es) C.X.env).map (·.2)=assign e C.X.env::(assignEach es C.X.env).map (·.2)) zW._auto_1):RGs C (e::es) (gsC g h):=by
 obtain⟨t,p,q⟩:=h1
 obtain⟨t',p',q'⟩:=h2
 refine⟨_,yM4 p p' hs,fun Oc Ob σ H ρ ρ' vs ds Q R r e k => ?_⟩
 cases r with
 | nil=>cases e
 | cons r rs =>
  obtain⟨ρ1,e1,e2⟩:=Option.bind_eq_some_iff.mp e
  exact⟨_,_,rfl,q Oc Ob σ H ρ ρ1 _ _ _ R r e1 fun σ' R'=>q' Oc Ob σ' H ρ1 ρ' _ _ Q R' rs e2 k⟩
def gT (n:Nat) (h:List D->Ev->Option Ev):D->Ev->Option Ev
 | .tuple ds,ρ=>if ds.length=n then h ds ρ else none
 | _,_=>none
theorem yV3 {k n:Nat}{h:List D->Ev->Option Ev}(hc:C.X.calm=true) (hg:RGs C es h) (hn:autoParam ((assignEach es C.X.env).length=n) zW._auto_1) (hst:autoParam ((assignEach es C.X.env).findIdx? (·.1)=none) zW._auto_1):RG C (.Tuple es k pos) (gT n h):=by
 obtain⟨t,p,q⟩:=hg
 refine⟨_,yA5 hc p hn hst,fun Oc Ob σ H ρ ρ' v d Q R r e k => ?_⟩
 cases r with
 | tup rd no rs =>
  unfold gT at e
  simp only at e
  split at e
  ·rename_i hl
   exact⟨_,_,rfl,.inl rd,by rw[rs.length];exact hl,q Oc Ob σ H ρ ρ' _ _ Q R rs e k⟩
  ·cases e
 | _=>cases e
theorem xZ6 {tg:Expr}(he:RE C .cl e me) (hg:RG C tg g) (hs:autoParam (swapsWithSole [tg] e pos.line C.X.env=pure false) zW._auto_1) (hw:autoParam (swappedStores [tg] e C.X.env=pure none) zW._auto_1)
  (h1:autoParam ((assignEach [tg] C.X.env).map (·.2)=[assign tg C.X.env]) zW._auto_1):RS C fr (.Assign [tg] e pos) (fun ρ=>(me ρ).bind fun d=>(Res.lft (g d ρ)).bind fun ρ'=>.ok (.nx ρ')):=by
 obtain⟨t,p,q⟩:=he
 obtain⟨t',p',q'⟩:=hg
 refine⟨_,yT1 p p' hs hw h1,fun Oc Ob σ H ρ E R h=>q Oc Ob σ H ρ _ R (Res.zR (Res.zU h) (fun d _ k v H' s r => ?_) fun c z H' s=>z H' (Same.frm s))⟩
 obtain⟨ρ',e,k⟩:=Res.zF (Res.zU k)
 exact q' Oc Ob σ H' ρ ρ' v d _ (R.same s) r e fun σ' R'=>k σ' H' Ob R' (Same.frm s) fun b z=>.inl z
def forM (g:D->Ev->Option Ev) (b:Ev->Res Out):List D->Ev->Res Out
 | [],ρ=>.ok (.nx ρ)
 | x::xs,ρ=>(Res.lft (g x ρ)).bind fun ρ1=>(b ρ1).bind fun o=>match o with
  | .nx ρ2=>forM g b xs ρ2
  | .rt d=>.ok (.rt d)
def sF (mi:Ev->Res (List D)) (g:D->Ev->Option Ev) (b:Ev->Res Out):Ev->Res Out:=fun ρ=>(mi ρ).bind fun ds=>forM g b ds ρ
theorem wN {tg iter:Expr}(hi:RI C tg iter mi) (hg:RG C tg g) (hb:RSs C fr body m) (hp:autoParam (PassesOwn (model C.X.prog C.X.w) C.X.A C.X.env C.X.xe) autoK13._auto_1) (hc:autoParam (C.X.calm=true) zW._auto_1)
  (hs:autoParam (∀x,foldedSetIterable iter C.X.env x=pure x) qR._auto_1):RS C fr (.For tg iter body [] pos) (sF mi g m):=by
 obtain⟨wi,pi,qi⟩:=hi
 obtain⟨tg',pg,qg⟩:=hg
 obtain⟨tb,pb,qb⟩:=hb
 refine⟨_,yR7 hp hc pi pg pb hs,fun Oc Ob σ H ρ E R h=>qi Oc Ob σ H ρ _ R (Res.zR (Res.zU h) (fun ds _ k J H1 s1 wk => ?_) fun c z H' s=>z H' (Same.frm s))⟩
 refine⟨fun i mm σ' H'=>mm=ds.length-i/\i<=ds.length/\∃ρi Obi,Rel Oc Obi C.om C.ln σ' H' ρi/\Frm Ob H1 H'/\(∀b,Obi b->Ob b\/H1 b=none)/\SPost C fr Oc Obi H' E (forM g m (ds.drop i) ρi),
  ⟨_,rfl,Nat.zero_le _,ρ,Ob,R.same s1,Same.frm (Same.refl _),fun b z=>.inl z,SPost.same s1 k⟩,?_⟩
 rintro i mm σ2 H2 ⟨rfl,hi,ρi,Obi,R2,f2,sb2,k2⟩
 obtain⟨w1,w2⟩:=wk H2 Obi f2 sb2 i
 by_cases hlt:i<ds.length
 ·obtain⟨go,yl⟩:=w1 ds[i] (List.getElem?_eq_getElem hlt)
  have ed:ds.drop i=ds[i]::ds.drop (i+1):=List.drop_eq_getElem_cons hlt
  rw[ed,forM] at k2
  obtain⟨ρ1,e1,k2⟩:=Res.zF (Res.zU k2)
  refine .inr ⟨go,fun σ' H'=>∃m',m'<ds.length-i/\(m'=ds.length-(i+1)/\i+1<=ds.length/\∃ρi Obi,Rel Oc Obi C.om C.ln σ' H' ρi/\Frm Ob H1 H'/\(∀b,Obi b->Ob b\/H1 b=none)/\SPost C fr Oc Obi H' E (forM g m (ds.drop (i+1)) ρi)),fun _ _ z=>z,fun x H3 hy => ?_⟩
  obtain⟨s3,rx⟩:=yl x H3 hy
  refine qg Oc Obi σ2 H3 ρi ρ1 x _ _ (R2.same s3) rx e1 fun σ3 R3 => ?_
  have k3:=SPost.same s3 (show SPost C fr Oc Obi H2 E _ from k2)
  refine qb Oc Obi σ3 H3 ρ1 _ R3 (Res.zR (Res.zU k3) (fun o _ k4 => ?_) fun _ z=>z)
  cases o with
  | rt d=>exact k4
  | nx ρ2 =>
   intro σ4 H4 Ob4 R4 f4 sb4
   have f3:Frm Ob H1 H3:=fun b o e n=>s3 b o (f2 b o e n)
   refine⟨_,by bv_omega,rfl,hlt,ρ2,Ob4,R4,f3.trans sb2 f4,fun b z=>(sb4 b z).elim (sb2 b) fun z=>f3.none z,SPost.step f4 sb4 k4⟩
 ·have ei:i=ds.length:=by bv_omega
  subst ei
  rw[List.drop_length] at k2
  exact .inl ⟨w2 (Nat.le_refl _),k2 σ2 H2 Obi R2 (Same.frm (Same.refl _)) fun b z=>.inl z⟩
def whM (t:Ev->Res Bool) (b:Ev->Res Out):Nat->Ev->Res Out
 | 0,_=>.no
 | k+1,ρ=>(t ρ).bind fun c=>if c then (b ρ).bind fun o=>match o with
  | .nx ρ'=>whM t b k ρ'
  | .rt d=>.ok (.rt d) else .ok (.nx ρ)
def sW (fuel:Nat) (t:Ev->Res Bool) (b:Ev->Res Out):Ev->Res Out:=fun ρ=>whM t b fuel ρ
theorem zN6 (fuel:Nat) (hc:RT C c mt) (hb:RSs C fr body m) (hp:autoParam (PassesOwn (model C.X.prog C.X.w) C.X.A C.X.env C.X.xe) autoK13._auto_1):RS C fr (.While c body [] pos) (sW fuel mt m):=by
 obtain⟨t,p,q⟩:=hc
 obtain⟨tb,pb,qb⟩:=hb
 refine⟨_,zO5 hp p pb,fun Oc Ob σ H ρ E R h => ?_⟩
 refine⟨fun mm σ' H'=>∃ρi Obi,Rel Oc Obi C.om C.ln σ' H' ρi/\Frm Ob H H'/\(∀b,Obi b->Ob b\/H b=none)/\SPost C fr Oc Obi H' E (whM mt m mm ρi),⟨fuel,ρ,Ob,R,Same.frm (Same.refl _),fun b z=>.inl z,h⟩,?_⟩
 rintro mm σ2 H2 ⟨ρi,Obi,R2,f2,sb2,k2⟩
 cases mm with
 | zero=>exact k2.elim
 | succ mm =>
  rw[whM] at k2
  refine q Oc Obi σ2 H2 ρi _ R2 (Res.zR (Res.zU k2) (fun b _ k3 H3 s3 => ?_) fun c z H' s=>z H' (Same.frm s))
  cases b with
  | false=>exact iteF (k3 σ2 H3 Obi (R2.same s3) (Same.frm s3) fun b z=>.inl z)
  | true =>
   refine iteT ⟨fun σ' H'=>∃m',m'<mm+1/\∃ρi Obi,Rel Oc Obi C.om C.ln σ' H' ρi/\Frm Ob H H'/\(∀b,Obi b->Ob b\/H b=none)/\SPost C fr Oc Obi H' E (whM mt m m' ρi),fun _ _ z=>z,?_⟩
   have k3:=SPost.same s3 (show SPost C fr Oc Obi H2 E _ from k3)
   refine qb Oc Obi σ2 H3 ρi _ (R2.same s3) (Res.zR (Res.zU k3) (fun o _ k4 => ?_) fun _ z=>z)
   cases o with
   | rt d=>exact k4
   | nx ρ2 =>
    intro σ4 H4 Ob4 R4 f4 sb4
    have f3:Frm Ob H H3:=fun b o e n=>s3 b o (f2 b o e n)
    exact⟨mm,Nat.lt_succ_self _,ρ2,Ob4,R4,f3.trans sb2 f4,fun b z=>(sb4 b z).elim (sb2 b) fun z=>f3.none z,SPost.step f4 sb4 k4⟩
def setD (ds:List D) (i v:D):Option (List D):=match i with
 | .int k=>(ixN ds.length k).map fun j=>ds.set j v
 | _=>none
def sI (i:Nat) (mk me:Ev->Res D):Ev->Res Out:=fun ρ=>(me ρ).bind fun v=>(eV i ρ).bind fun d=>(Res.lft (lstD d)).bind fun xd=>(mk ρ).bind fun k=>(Res.lft (setD xd k v)).bind fun ds=>.ok (.nx (ρ.set i (some (.list ds))))
theorem cR (i:Nat){x:Str}{p' p2:Pos}{k:Expr}{mk:Ev->Res D}(he:RE C .cl e me) (hk:RE C md k mk) (hN:autoParam (C.X.N[i]?=some x) zW._auto_1) (ho:autoParam (C.om.contains i=true) zW._auto_1) (hv:autoParam (Vis C.X.env.scope x) kO._auto_1) (hd:autoParam ((x == ("__debug__":Str))=false) zG._auto_1)
  (hcd:autoParam ((x == ("__classdict__":Str))=false) zG._auto_1)
  (ha:∀v,assign (.Subscript (.Name x p') k p2) C.X.env v=(do
   let ov <-holding [v] (eval (.Name x p') C.X.env)
   let iv <-holding [v,ov] (eval k C.X.env)
   standAt p2
   holding [v,ov,iv] (setItem ov iv v)
   release [v,ov,iv] []):=by intro _;rfl)
  (hs:autoParam (swapsWithSole [.Subscript (.Name x p') k p2] e pos.line C.X.env=pure false) zW._auto_1) (hw:autoParam (swappedStores [.Subscript (.Name x p') k p2] e C.X.env=pure none) zW._auto_1)
  (h1:autoParam ((assignEach [.Subscript (.Name x p') k p2] C.X.env).map (·.2)=[assign (.Subscript (.Name x p') k p2) C.X.env]) zW._auto_1):RS C fr (.Assign [.Subscript (.Name x p') k p2] e pos) (sI i mk me):=by
 obtain⟨t,p,q⟩:=he
 obtain⟨t',p',q'⟩:=hk
 refine⟨_,yT1 p (xS4 (kW hN hv hd hcd) p' yM5 ha) hs hw h1,fun Oc Ob σ H ρ E R h=>q Oc Ob σ H ρ _ R (Res.zR (Res.zU h) (fun dv _ k v H' s r => ?_) fun c z H' s=>z H' (Same.frm s))⟩
 obtain⟨d,ed,k⟩:=jH (Res.zU k)
 obtain⟨xd,ex,k⟩:=Res.zF (Res.zU k)
 obtain rfl:=kK ex
 obtain⟨w',qv,l,ys,ds,rfl,e2,e3,e4,e5⟩:=(R.same s).own i _ ed (uA ho)
 cases e2
 refine⟨_,qv,q' Oc Ob σ H' ρ _ (R.same s) (Res.zR (Res.zU k) (fun dk _ k kv H2 s2 rk => ?_) fun c z H2 s2=>z H2 (Same.frm (s.trans s2)))⟩
 obtain⟨ds',eg,k⟩:=Res.zF (Res.zU k)
 unfold setD at eg
 split at eg
 ·obtain⟨j,ej,rfl⟩:=Option.map_eq_some_iff.mp eg
  obtain rfl:=(rk.va (R.same s).oh).int
  have hl:=e5.length
  refine⟨l,ys,_,j,rfl,rfl,s2 _ _ e3,by rw[hl];exact ej,?_⟩
  refine k _ _ Ob ((R.same (s.trans s2)).write (uA ho) ed qv (s2 _ _ e3) e4 (Reps.set (Rep.same r s2) j (e5.same s2))) (fun b o e n => ?_) fun b z=>.inl z
  rw[zN (fun z=>n (by subst z;exact e4))]
  exact s2 b o (s b o e)
 ·cases eg
def sV (i j:Nat):Ev->Res Out:=fun ρ=>(eV j ρ).bind fun d=>.ok (.nx ((ρ.set i (some d)).set j none))
end
end L2.L3
namespace L2
open PySem PySem.Spec PyProof.Rows
structure Has (K:KFr) (mg:Str->Option Value) (x:Str) (st:Stmt) (f:Addr) (fd:FuncData) (ps:List Str):Prop where
 F:Fun K x x st f fd
 b:Binds K fd ps []
 m:mg x=some (.ref f)
theorem zA {K:KFr}{h:Heap}{mg:Str->Option Value}{x:Str}{st:Stmt}{f:Addr}{oc:Value}{od an:Option Addr}{osl:Array (Option Value)}{kV doc pm cdv ct:Value}{ps:List Str}(X:K.In h) (G:h.Ns mainGlobals mg)
  (a:PySem.W.nsIn K mainGlobals x=some (some (.ref f))) (l:K.lookup f=some ⟨oc,od,.func (PySem.W.fnOf x x (defArgs st) (defBody st) (zX st) .none kV doc pm an cdv ct),osl⟩)
  (c:PySem.W.codeIn K cdv x=true) (k:PySem.W.keepIn K (.ref f)=true)
  (hb:∀(kV doc pm:Value) (an:Option Addr) (cdv ct:Value) (us:List Value),us.length=ps.length->bindArgs (PySem.W.fnOf x x (defArgs st) (defBody st) (zX st) .none kV doc pm an cdv ct) ⟨us,[]⟩=pure (ps.zip us)) :
  Has K mg x st f (PySem.W.fnOf x x (defArgs st) (defBody st) (zX st) .none kV doc pm an cdv ct) ps :=
 have F:=xT1 (st:=st) l c k
 ⟨F,F.binds hb,PySem.W.mg_of X G a⟩
end L2
namespace L2.L3
open PySem PySem.Spec PyProof.Rows
variable [CN]
def CallOk:Bool->(Addr->Prop)->Hp->Hp->V->D->Prop
 | true,O,H,H',v,d=>∃a ys ds,v=.ref a/\d=.list ds/\H a=none/\H' a=some (.lst ys)/\Reps H' (fun b=>O b\/b=a) ys ds
 | false,O,_,H',v,d=>Rep H' O v d
def fin (fr:Bool):Out->Res D
 | .rt d=>.ok d
 | .nx _=>if fr then .no else .ok .none
def runF (fr:Bool) (p n:Nat) (m:Ev->Res Out):List D->Res D:=fun ds=>if ds.length=p then (m (ds.map some++List.replicate (n-p) none)).bind (fin fr) else .no
theorem dF {α:Type}{ds:List α}{k i:Nat}{d:α}(h:(ds.map some++List.replicate k none)[i]?=some (some d)):ds[i]?=some d:=by
 by_cases hi:i<ds.length
 ·rw[List.getElem?_append_left (by simpa using hi),List.getElem?_map] at h
  cases e:ds[i]? with
  | none=>rw[e] at h;cases h
  | some z=>rw[e] at h;cases h;rfl
 ·rw[List.getElem?_append_right (by simpa using hi),List.getElem?_replicate] at h
  split at h <;> cases h
theorem yK5 {α:Type}{ds:List α}{k i:Nat}{d:α}(h:ds[i]?=some d):(ds.map some++List.replicate k none)[i]?=some (some d):=by
 have hi:=(List.getElem?_eq_some_iff.mp h).1
 rw[List.getElem?_append_left (by simpa using hi),List.getElem?_map,h]
 rfl
section
variable {P:Program}{w:World}{K:KFr}{mg:Str->Option Value}{base:Heap}
end
def mdF (fr:Bool):Md:=if fr then .new else .cl
def eF (F:List D->Res D) (m:Ev->Res (List D)):Ev->Res D:=fun ρ=>(m ρ).bind F
section
variable {C:Ct}{k:Nat}{f:Addr}{fd:FuncData}{ps:List Str}{fr:Bool}{F:List D->Res D}{x:Str}{p pos:Pos}{e:Expr}{es:List Expr}{ms:Ev->Res (List D)}{st:Stmt}
end
mutual
def lf:D->Bool
 | .list _=>false
 | .dict _=>false
 | .tuple ds=>lfs ds
 | _=>true
def lfs:List D->Bool
 | []=>true
 | d::ds=>lf d&&lfs ds
end
mutual
theorem Rep.lf {H:Hp}{U:Addr->Prop}{B:Addr->Prop}(hB:∀b,B b->∃ys,H b=some (.lst ys)):∀{v:V}{d:D},Rep H (fun b=>U b/\¬B b) v d->L3.lf d=true->Rep H U v d
 | _,_,.non,_=>.non
 | _,_,.bl b,_=>.bl b
 | _,_,.int i,_=>.int i
 | _,_,.str x,_=>.str x
 | _,_,.lst r n t,h=>by simp[L3.lf] at h
 | _,_,.exc r n,h=>by simp[L3.lf] at h
 | _,_,@Rep.tup _ _ _ a _ _ r n t,h=>.tup r (fun z=>by
   by_cases hb:B a
   ·obtain⟨ys,e⟩:=hB _ hb
    rcases r with r | ⟨o,r⟩ <;> (rw[r] at e;cases e)
   ·exact n ⟨z,hb⟩) (Reps.lf hB t (by simpa [L3.lf] using h))
theorem Reps.lf {H:Hp}{U:Addr->Prop}{B:Addr->Prop}(hB:∀b,B b->∃ys,H b=some (.lst ys)):∀{vs:List V}{ds:List D},Reps H (fun b=>U b/\¬B b) vs ds->lfs ds=true->Reps H U vs ds
 | _,_,.nil,_=>.nil
 | _,_,.cons r t,h=>by
  rw[lfs,Bool.and_eq_true] at h
  exact .cons (Rep.lf hB r h.1) (Reps.lf hB t h.2)
end
def lfT:Bool->D->Bool
 | true,.list ds=>lfs ds
 | _,d=>lf d
def eFA (fr:Bool) (F:List D->Res D) (m:Ev->Res (List D)):Ev->Res D:=fun ρ=>(m ρ).bind fun ds=>(F ds).bind fun d=>if lfT fr d then .ok d else .no
theorem VAs.lent {Oc:Wd}{Ob:Addr->Prop}{H:Hp}:∀{vs:List V}{ds:List D},VAs Oc Ob H vs ds->Reps H (fun b=>Uni Oc Ob b/\¬∃ys,H b=some (.lst ys)) vs ds
 | _,_,.nil=>.nil
 | _,_,.cons h t=>.cons (by
   rcases h with h | ⟨a,ys,ds,rfl,rfl,e3,e5⟩
   ·exact h.less fun b z=>z.1
   ·exact .lst (.inl e3) (fun z=>z.2 ⟨ys,e3⟩) (e5.less fun b z=>z.1)) (VAs.lent t)
def i2 (f:Int->Int->Option Int):D->D->Option D
 | .int i,.int j=>(f i j).map PyData.int
 | _,_=>none
theorem zD2 {f:Int->Int->Option Int}{x y d:D}(h:i2 f x y=some d):∃i j k,x=.int i/\y=.int j/\f i j=some k/\d=.int k:=by
 cases x with
 | int i =>
  cases y with
  | int j =>
   obtain⟨k,e,rfl⟩:=Option.map_eq_some_iff.mp (show (f i j).map PyData.int=some d from h)
   exact⟨i,j,k,rfl,rfl,e,rfl⟩
  | _=>cases h
 | _=>cases h
theorem xX3 {C:Int->Int->Prop}{g:Int->Int->Int}{f:Int->Int->Option Int}(hf:∀i j k,f i j=some k->C i j/\k=g i j):Pr2 (rI C fun i j=>.int (g i j)) .cl (i2 f):=by
 intro Oc Ob H x y dx dy d Q oh vx vy e k
 obtain⟨i,j,n,rfl,rfl,ef,rfl⟩:=zD2 e
 obtain⟨hc,rfl⟩:=hf i j n ef
 exact⟨i,j,vx.int,vy.int,hc,k _ H (Same.refl H) (Rep.int _)⟩
theorem yI4 {g:Int->Int->Int}:Pr2 (rI0 fun i j=>.int (g i j)) .cl (i2 fun i j=>some (g i j)):=by
 intro Oc Ob H x y dx dy d Q oh vx vy e k
 obtain⟨i,j,n,rfl,rfl,ef,rfl⟩:=zD2 e
 cases ef
 exact⟨i,j,vx.int,vy.int,k _ H (Same.refl H) (Rep.int _)⟩
abbrev addI:D->D->Option D:=i2 fun i j=>some (i+j)
abbrev subI:D->D->Option D:=i2 fun i j=>some (i-j)
def MulOk (i j:Int):Prop:=CMul i j\/(Small i/\Small j)
def DivOk (j:Int):Prop:=0<j/\j.natAbs.log2<9000
instance (j:Int):Decidable (DivOk j):=by unfold DivOk;infer_instance
def fdivO (i j:Int):Option Int:=if DivOk j then some (i / j) else none
def modO (i j:Int):Option Int:=if 0<j then some (i%j) else none
abbrev fdivI:D->D->Option D:=i2 fdivO
abbrev modI:D->D->Option D:=i2 modO
section
variable {X:Cx}
theorem wU:OpR X (binaryOp .FloorDiv) (rI (fun _ j=>DivOk j) fun i j=>.int (i / j)):=opI fun i j _ _ _ _ _ hc q=>by
 refine floordiv_int (by have:=hc.1;bv_omega) ?_ (.inl (PyProof.noPylong_of_log2 hc.2))
 rw[Int.fdiv_eq_ediv_of_nonneg _ (by have:=hc.1;bv_omega)]
 exact q
end
theorem yY6 {i j k:Int}(h:fdivO i j=some k):DivOk j/\k=i / j:=by
 unfold fdivO at h
 split at h
 ·cases h;exact⟨by assumption,rfl⟩
 ·cases h
theorem yR2 {i j k:Int}(h:modO i j=some k):0<j/\k=i%j:=by
 unfold modO at h
 split at h
 ·cases h;exact⟨by assumption,rfl⟩
 ·cases h
theorem DivOk.small {j:Int}(h:0<j) (h2:j<1073741824):DivOk j:=by
 refine⟨h,?_⟩
 have h30:j.natAbs.log2<30:=(Nat.log2_lt (by bv_omega)).mpr (by bv_omega)
 bv_omega
theorem MulOk.left {i j:Int}(h:-(2 ^ 64)<i) (h2:i<2 ^ 64):MulOk i j:=.inl (.inl ⟨h,h2⟩)
theorem uW:Pr2 (rI0 fun i j=>.int (i+j)) .cl addI:=yI4
theorem zK6:Pr2 (rI0 fun i j=>.int (i-j)) .cl subI:=yI4
theorem wA:Pr2 (rI (fun _ j=>DivOk j) fun i j=>.int (i / j)) .cl fdivI:=xX3 fun _ _ _ h=>yY6 h
theorem uF:Pr2 (rI (fun _ j=>0<j) fun i j=>.int (i%j)) .cl modI:=xX3 fun _ _ _ h=>yR2 h
def c2 (f:Int->Int->Bool):D->D->Option Bool
 | .int i,.int j=>some (f i j)
 | _,_=>none
theorem yX1 {f:Int->Int->Bool}:PrB (rI0 fun i j=>.bl (f i j)) (c2 f):=by
 intro Oc Ob H x y dx dy b Q vx vy e k
 cases dx with
 | int i =>
  cases dy with
  | int j =>
   cases e
   exact⟨_,_,vx.int,vy.int,k⟩
  | _=>cases e
 | _=>cases e
abbrev ltI:D->D->Option Bool:=c2 fun i j=>decide (i<j)
abbrev leI:D->D->Option Bool:=c2 fun i j=>decide (i<=j)
abbrev gtI:D->D->Option Bool:=c2 fun i j=>decide (j<i)
abbrev geI:D->D->Option Bool:=c2 fun i j=>decide (j<=i)
theorem xP8:PrB (rI0 fun i j=>.bl (decide (i<j))) ltI:=yX1
theorem kJ:PrB (rI0 fun i j=>.bl (decide (i<=j))) leI:=yX1
theorem zA1:PrB (rI0 fun i j=>.bl (decide (j<i))) gtI:=yX1
theorem xO5:PrB (rI0 fun i j=>.bl (decide (j<=i))) geI:=yX1
def eqD (x y:D):Option Bool:=if SeqAt.shaped x=true/\SeqAt.shaped y=true then some (PyData.eqv x y) else none
def neD (x y:D):Option Bool:=if SeqAt.shaped x=true/\SeqAt.shaped y=true then some (!PyData.eqv x y) else none
theorem xP {K:KFr}:PrB (rEqD K false) eqD:=by
 intro Oc Ob H x y dx dy b Q vx vy e k
 unfold eqD at e
 split at e
 ·rename_i h
  cases e
  exact⟨dx,dy,vx.datS h.1,vy.datS h.2,h.1,h.2,k⟩
 ·cases e
theorem jM {K:KFr}:PrB (rEqD K true) neD:=by
 intro Oc Ob H x y dx dy b Q vx vy e k
 unfold neD at e
 split at e
 ·rename_i h
  cases e
  exact⟨dx,dy,vx.datS h.1,vy.datS h.2,h.1,h.2,k⟩
 ·cases e
def flD:D->Bool
 | .none=>true
 | .bool _=>true
 | .int _=>true
 | .str _=>true
 | _=>false
def eqF:D->D->Bool
 | .none,.none=>true
 | .bool a,.bool b=>a == b
 | .bool a,.int b=>(if a then 1 else 0) == b
 | .int a,.bool b=>a == (if b then 1 else 0)
 | .int a,.int b=>a == b
 | .str a,.str b=>a == b
 | _,_=>false
theorem aX {H:Hp}{O:Addr->Prop}{v:V}{d:D}(h:Rep H O v d) (f:flD d=true):flatV v=true:=by
 cases h <;> first | rfl | cases f
theorem yE5 {H:Hp}{O O':Addr->Prop}{v v':V}{d d':D}(h:Rep H O v d) (h':Rep H O' v' d') (f:flD d=true) (f':flD d'=true):eqV v v'=eqF d d':=by
 cases h <;> cases h' <;> first | rfl | cases f | cases f'
theorem dQ {H:Hp}{O:Addr->Prop}:∀{vs:List V}{ds:List D},Reps H O vs ds->ds.all flD=true->vs.all flatV=true
 | _,_,.nil,_=>rfl
 | _,_,.cons h t,f=>by
  rw[List.all_cons,Bool.and_eq_true] at f ⊢
  exact⟨aX h f.1,dQ t f.2⟩
theorem aS {H:Hp}{O O':Addr->Prop}{x:V}{dx:D}(hx:Rep H O' x dx) (fx:flD dx=true):∀{vs:List V}{ds:List D},Reps H O vs ds->ds.all flD=true->inV x vs=ds.any fun y=>eqF y dx
 | _,_,.nil,_=>rfl
 | _,_,.cons h t,f=>by
  rw[List.all_cons,Bool.and_eq_true] at f
  have ih:=aS hx fx t f.2
  unfold inV at ih ⊢
  rw[List.any_cons,List.any_cons,ih,yE5 h hx f.1 fx]
def inD (neg:Bool) (x y:D):Option Bool:=(seqD y).bind fun ds=>if flD x=true/\ds.all flD=true then some (if neg then !ds.any (fun z=>eqF z x) else ds.any fun z=>eqF z x) else none
theorem yI7 {Oc:Wd}{Ob:Addr->Prop}{H:Hp}{x:V}{d:D}(h:VA Oc Ob H x d) (f:flD d=true):Rep H (Uni Oc Ob) x d:=by
 rcases h with h | ⟨a,ys,ds,rfl,rfl,e3,e5⟩
 ·exact h
 ·cases f
theorem xR2 {K:KFr}{neg:Bool}:PrB (rIn K neg) (inD neg):=by
 intro Oc Ob H x y dx dy b Q vx vy e k
 unfold inD at e
 obtain⟨ds,e1,e⟩:=Option.bind_eq_some_iff.mp e
 split at e
 ·rename_i h
  cases e
  have rx:=yI7 vx h.1
  cases dy with
  | list ds' =>
   cases e1
   obtain⟨a,ys,rfl,rd,rs⟩:=vy.list
   refine⟨a,ys,rfl,.inl (.inl rd),aX rx h.1,dQ rs h.2,?_⟩
   rw[aS rx h.1 rs h.2]
   exact k
  | tuple ds' =>
   cases e1
   obtain⟨a,ys,rfl,rd,rs⟩:=vy.tuple
   refine⟨a,ys,rfl,.inr (.inl rd),aX rx h.1,dQ rs h.2,?_⟩
   rw[aS rx h.1 rs h.2]
   exact k
  | _=>cases e1
 ·cases e
def ixD:D->D->Option D
 | .list ds,.int i=>atI ds i
 | .tuple ds,.int i=>atI ds i
 | _,_=>none
theorem zK8 {H:Hp}{O:Addr->Prop}{vs:List V}{ds:List D}{i:Int}{d:D}(r:Reps H O vs ds) (h:atI ds i=some d):∃v,atI vs i=some v/\Rep H O v d:=by
 unfold atI at h ⊢
 obtain⟨j,e1,e2⟩:=Option.bind_eq_some_iff.mp h
 obtain⟨v,ev,rv⟩:=r.get e2
 refine⟨v,?_,rv⟩
 rw[r.length,e1]
 exact ev
theorem yK {K:KFr}:Pr2 (rIx K) .cl ixD:=by
 intro Oc Ob H x y dx dy d Q oh vx vy e k
 cases dx with
 | list ds =>
  cases dy with
  | int i =>
   obtain⟨a,ys,rfl,rd,rs⟩:=vx.list
   obtain⟨v,ev,rv⟩:=zK8 rs e
   exact .inl ⟨a,ys,i,v,rfl,vy.int,.inl rd,ev,k v H (Same.refl H) rv⟩
  | _=>cases e
 | tuple ds =>
  cases dy with
  | int i =>
   obtain⟨a,ys,rfl,rd,rs⟩:=vx.tuple
   obtain⟨v,ev,rv⟩:=zK8 rs e
   exact .inr (.inl ⟨a,ys,i,v,rfl,vy.int,.inl rd,ev,k v H (Same.refl H) rv⟩)
  | _=>cases e
 | _=>cases e
def rCatR:R2:=fun x y H Q=>∃l b xs zs,x=.ref l/\y=.ref b/\Rd H l (.lst xs)/\Rd H b (.lst zs)/\xs.length+zs.length<=sizeLine/\∀p,H p=none->Q (.ref p) (upd H p (.lst (xs++zs)))
theorem Rd.lstM {X:Cx}{pins:List (Addr×Obj)}{σ:St}{H:Hp}{s:Shared}{l:Addr}{xs:List V}(I:Inv X pins σ H s) (hH:Rd H l (.lst xs)):xs.length<=sizeLine/\∃(its:List Value) (n:Nat),Vals xs its/\xs.length=its.length/\s.heap.get? l=some { cls:=.type "list",data:=.seq its.toArray n }:=by
 obtain⟨z,its,n,r,e⟩:=hH.ok I.hok
 exact⟨z,its,n,r,r.length,e⟩
section
variable {X:Cx}
theorem yF3:OpR X (binaryOp .Add) rCatR:=by
 intro pins s σ H x y v u Q I rx ry h
 obtain⟨l,b,xs,zs,rfl,rfl,hH,hB,hz,q⟩:=h
 cases rx
 cases ry
 obtain⟨z,its,n,r,hl,e⟩:=Rd.lstM I hH
 obtain⟨z2,its2,n2,r2,hl2,e2⟩:=Rd.lstM I hB
 refine PySem.P.add_list e e2 ?_ (by rw[List.size_toArray,List.size_toArray];bv_omega)
 have ea:its.toArray++its2.toArray=(its++its2).toArray:=by simp
 rw[ea]
 exact⟨.ref _,_,I.lnew (t':=s.toks) (r.append r2) (by rw[List.length_append];bv_omega),rfl,q _ I.fresh⟩
def rRepR:R2:=fun x y H Q=>∃l k xs,x=.ref l/\y=.int k/\Rd H l (.lst xs)/\-(2 ^ 63)<=k/\k<2 ^ 63/\xs.length*k.toNat<=sizeLine /\
 ∀p,H p=none->Q (.ref p) (upd H p (.lst (List.replicate k.toNat xs).flatten))
theorem zD6:OpR X (binaryOp .Mult) rRepR:=by
 intro pins s σ H x y v u Q I rx ry h
 obtain⟨l,k,xs,rfl,rfl,hH,h1,h2,hz,q⟩:=h
 cases rx
 obtain⟨t,rfl⟩:=ry
 obtain⟨z,its,n,r,hl,e⟩:=Rd.lstM I hH
 have hlen:its.toArray.size*k.toNat<=sizeLine:=by rw[List.size_toArray,<-hl];exact hz
 have hcap:¬its.toArray.size*k.toNat > (2 ^ 63-1) / 8:=by
  have:(sizeLine:Nat)<=(2 ^ 63-1) / 8:=by decide
  bv_omega
 have hfit:¬(!Builtin.List.listFitsIndex k)=true:=by
  rw[fitsIndex_both h1 h2]
  exact Bool.false_ne_true
 have hlong:¬Builtin.List.listTooLong (its.toArray.size*k.toNat)=true:=by
  rw[notLongL hlen]
  exact Bool.false_ne_true
 have hnew:List.foldl (fun x1 x2=>x1++x2) #[] (List.replicate (if its.toArray.isEmpty=true then 0 else k.toNat) its.toArray)=(List.replicate k.toNat its).flatten.toArray:=by
  have f0:∀m:Nat,List.foldl (fun x1 x2=>x1++x2) #[] (List.replicate m its.toArray)=(List.replicate m its).flatten.toArray:=fun m=>by
   have:=zS7 its m []
   rw[List.nil_append] at this
   exact this
  rw[f0]
  cases its with
  | nil=>simp
  | cons a r'=>rw[if_neg (by simp)]
 refine wpAny_binaryOp_repeat_ref (T:="list") (U:="int") (by decide) ⟨_,e,rfl⟩ (fun s'=>typeIs_int s' k t) noFill_list_mul F.fills_int_mul F.slot_int_rmul repeat_list F.slot_int_index.lookup
  (call_meets F.slot_int_rmul (typeIs_int s k t) F.entry_int_rmul (F.args_int_rmul_2 _ _) (int___rmul___int_list k t l its.toArray n)
   ⟨e,rfl,⟨_,e,rfl⟩,call_meets F.slot_list_mul ⟨_,e,rfl⟩ F.entry_list_mul (F.args_list_mul_2 _ _) (AutoListH.list___mul___list_int_3 l its.toArray n k t hfit hcap hlong) ⟨e,?_⟩⟩)
 rw[hnew]
 exact⟨.ref _,_,I.lnew (t':=s.toks) (r.rep k.toNat) (by rw[yD7,Nat.mul_comm];exact hz),rfl,q _ I.fresh⟩
end
def catL:D->D->Option D
 | .list xs,.list ys=>if xs.length+ys.length<=sizeLine then some (.list (xs++ys)) else none
 | _,_=>none
theorem yA6:Pr2 rCatR .new catL:=by
 intro Oc Ob H x y dx dy d Q oh vx vy e k
 cases dx with
 | list xs =>
  cases dy with
  | list ys =>
   obtain⟨a,vs,rfl,rd,rs⟩:=vx.list
   obtain⟨b,ws,rfl,rd',rs'⟩:=vy.list
   unfold catL at e
   simp only at e
   split at e
   ·rename_i hl
    cases e
    refine⟨a,b,vs,ws,rfl,rfl,rd,rd',by rw[rs.length,rs'.length];exact hl,fun p hp=>k _ _ (Same.new hp) (xB (Same.refl H) hp (rs.append rs'))⟩
   ·cases e
  | _=>cases e
 | _=>cases e
def repL:D->D->Option D
 | .list xs,.int k=>if -(2 ^ 63)<=k/\k<2 ^ 63/\xs.length*k.toNat<=sizeLine then some (.list (List.replicate k.toNat xs).flatten) else none
 | _,_=>none
theorem yV6:Pr2 rRepR .new repL:=by
 intro Oc Ob H x y dx dy d Q oh vx vy e k
 cases dx with
 | list xs =>
  cases dy with
  | int j =>
   obtain⟨a,vs,rfl,rd,rs⟩:=vx.list
   unfold repL at e
   simp only at e
   split at e
   ·rename_i hl
    cases e
    refine⟨a,j,vs,rfl,vy.int,rd,hl.1,hl.2.1,by rw[rs.length];exact hl.2.2,fun p hp=>k _ _ (Same.new hp) (xB (Same.refl H) hp (rs.rep _))⟩
   ·cases e
  | _=>cases e
 | _=>cases e
def lenD:List D->Option D
 | [d]=>(seqD d).map fun ds=>.int ds.length
 | _=>none
theorem yT {K:KFr}:PrC (fun xs H Q=>∃p ys,xs=[.ref p]/\(SqL K H p ys\/SqT K H p ys)/\Q (.int ys.length) H) .cl lenD:=by
 intro Oc Ob H vs ds d Q oh va e k
 cases ds with
 | nil=>cases e
 | cons x xs =>
  cases xs with
  | cons=>cases e
  | nil =>
   obtain⟨v,rfl,vx⟩:=va.one
   obtain⟨es,e1,rfl⟩:=Option.map_eq_some_iff.mp e
   cases x with
   | list ds' =>
    cases e1
    obtain⟨a,ys,rfl,rd,rs⟩:=vx.list
    exact⟨a,ys,rfl,.inl (.inl rd),k _ H (Same.refl H) (by rw[rs.length];exact Rep.int _)⟩
   | tuple ds' =>
    cases e1
    obtain⟨a,ys,rfl,rd,rs⟩:=vx.tuple
    exact⟨a,ys,rfl,.inr (.inl rd),k _ H (Same.refl H) (by rw[rs.length];exact Rep.int _)⟩
   | _=>cases e1
def listD:List D->Option D
 | [d]=>(seqD d).map fun ds=>.list ds
 | _=>none
theorem zF1 {K:KFr}:PrC (fun xs H Q=>∃p ys,xs=[.ref p]/\(SqL K H p ys\/SqT K H p ys)/\∀l,H l=none->Q (.ref l) (upd H l (.lst ys))) .new listD:=by
 intro Oc Ob H vs ds d Q oh va e k
 cases ds with
 | nil=>cases e
 | cons x xs =>
  cases xs with
  | cons=>cases e
  | nil =>
   obtain⟨v,rfl,vx⟩:=va.one
   obtain⟨es,e1,rfl⟩:=Option.map_eq_some_iff.mp e
   cases x with
   | list ds' =>
    cases e1
    obtain⟨a,ys,rfl,rd,rs⟩:=vx.list
    exact⟨a,ys,rfl,.inl (.inl rd),fun l hl=>k _ _ (Same.new hl) (xB (Same.refl H) hl rs)⟩
   | tuple ds' =>
    cases e1
    obtain⟨a,ys,rfl,rd,rs⟩:=vx.tuple
    exact⟨a,ys,rfl,.inr (.inl rd),fun l hl=>k _ _ (Same.new hl) (xB (Same.refl H) hl rs)⟩
   | _=>cases e1
def tupD:List D->Option D
 | [d]=>(seqD d).map fun ds=>.tuple ds
 | _=>none
theorem jZ {K:KFr}:PrC (fun xs H Q=>∃p ys,xs=[.ref p]/\((SqL K H p ys/\∀l,H l=none->Q (.ref l) (upd H l (.tup ys)))\/(SqT K H p ys/\Q (.ref p) H))) .cl tupD:=by
 intro Oc Ob H vs ds d Q oh va e k
 cases ds with
 | nil=>cases e
 | cons x xs =>
  cases xs with
  | cons=>cases e
  | nil =>
   obtain⟨v,rfl,vx⟩:=va.one
   obtain⟨es,e1,rfl⟩:=Option.map_eq_some_iff.mp e
   cases x with
   | list ds' =>
    cases e1
    obtain⟨a,ys,rfl,rd,rs⟩:=vx.list
    exact⟨a,ys,rfl,.inl ⟨.inl rd,fun l hl=>k _ _ (Same.new hl) (cL oh hl rs)⟩⟩
   | tuple ds' =>
    cases e1
    rcases vx with vx | ⟨a,ys,ds,rfl,ez,_⟩
    ·cases vx with
     | tup rd n rs=>exact⟨_,_,rfl,.inr ⟨.inl rd,k _ H (Same.refl H) (.tup rd n rs)⟩⟩
    ·cases ez
   | _=>cases e1
def intsOf:List D->Option (List Int)
 | []=>some []
 | .int i::ds=>(intsOf ds).map (i :: ·)
 | _::_=>none
@[simp] theorem intsOf_map:∀ns:List Int,intsOf (ns.map PyData.int)=some ns
 | []=>rfl
 | n::ns=>by rw[List.map_cons,intsOf,intsOf_map ns];rfl
theorem uY:∀{ds:List D}{ns:List Int},intsOf ds=some ns->ds=ns.map PyData.int
 | [],ns,h=>by cases h;rfl
 | d::ds,ns,h=>by
  cases d with
  | int i =>
   obtain⟨ms,e,rfl⟩:=Option.map_eq_some_iff.mp (show (intsOf ds).map (i :: ·)=some ns from h)
   rw[uY e];rfl
  | _=>cases h
def boolsOf:List D->Option (List Bool)
 | []=>some []
 | .bool i::ds=>(boolsOf ds).map (i :: ·)
 | _::_=>none
@[simp] theorem boolsOf_map:∀ns:List Bool,boolsOf (ns.map PyData.bool)=some ns
 | []=>rfl
 | n::ns=>by rw[List.map_cons,boolsOf,boolsOf_map ns];rfl
theorem dO:∀{ds:List D}{ns:List Bool},boolsOf ds=some ns->ds=ns.map PyData.bool
 | [],ns,h=>by cases h;rfl
 | d::ds,ns,h=>by
  cases d with
  | bool i =>
   obtain⟨ms,e,rfl⟩:=Option.map_eq_some_iff.mp (show (boolsOf ds).map (i :: ·)=some ns from h)
   rw[dO e];rfl
  | _=>cases h
def nsD (d:D):Option (List Int):=(seqD d).bind intsOf
theorem zL2 {K:KFr}{Oc:Wd}{Ob:Addr->Prop}{H:Hp}{x:V}{d:D}{ns:List Int}(h:VA Oc Ob H x d) (e:nsD d=some ns):∃p,x=.ref p/\(SqL K H p (ns.map V.int)\/SqT K H p (ns.map V.int)):=by
 obtain⟨ds,e1,e2⟩:=Option.bind_eq_some_iff.mp e
 obtain rfl:=uY e2
 cases d with
 | list ds' =>
  cases e1
  obtain⟨a,ys,rfl,rd,rs⟩:=h.list
  rw[rs.ints] at rd
  exact⟨a,rfl,.inl (.inl rd)⟩
 | tuple ds' =>
  cases e1
  obtain⟨a,ys,rfl,rd,rs⟩:=h.tuple
  rw[rs.ints] at rd
  exact⟨a,rfl,.inr (.inl rd)⟩
 | _=>cases e1
def sumD:List D->Option D
 | [.list ds]=>(intsOf ds).map fun ns=>.int ns.sum
 | _=>none
theorem xT6 {K:KFr}:PrC (fun xs H Q=>∃(p:Addr) (ns:List Int),xs=[.ref p]/\SqL K H p (ns.map V.int)/\Q (.int ns.sum) H) .cl sumD:=by
 intro Oc Ob H vs ds d Q oh va e k
 unfold sumD at e
 split at e
 ·obtain⟨ns,e1,rfl⟩:=Option.map_eq_some_iff.mp e
  obtain⟨v,rfl,vx⟩:=va.one
  obtain⟨a,ys,rfl,rd,rs⟩:=vx.list
  rw[uY e1] at rs
  rw[rs.ints] at rd
  exact⟨a,ns,rfl,.inl rd,k _ H (Same.refl H) (Rep.int _)⟩
 ·cases e
def sortI (ns:List Int):List Int:=ns.mergeSort (fun a b=>decide (a<=b))
theorem jQ (ns:List Int):(sortI ns).Perm ns:=List.mergeSort_perm _ _
theorem jA (ns:List Int):(sortI ns).Pairwise (· <= ·):=by
 have:=List.pairwise_mergeSort (le:=fun a b:Int=>decide (a<=b)) (fun a b c h1 h2=>by simp at *;bv_omega) (fun a b=>by simp;bv_omega) ns
 exact this.imp fun h=>by simpa using h
theorem yY9 {as bs:List Int}(p:as.Perm bs) (ha:as.Pairwise (· <= ·)) (hb:bs.Pairwise (· <= ·)):as=bs:=by
 induction as generalizing bs with
 | nil=>exact (List.nil_perm.mp p).symm
 | cons a as ih =>
  cases bs with
  | nil=>exact absurd p.symm (by intro h;have:=h.length_eq;simp at this)
  | cons b bs =>
   have h1:a<=b:=by
    have:b∈a::as:=p.symm.subset List.mem_cons_self
    rcases List.mem_cons.mp this with z | z
    ·bv_omega
    ·exact (List.pairwise_cons.mp ha).1 b z
   have h2:b<=a:=by
    have:a∈b::bs:=p.subset List.mem_cons_self
    rcases List.mem_cons.mp this with z | z
    ·bv_omega
    ·exact (List.pairwise_cons.mp hb).1 a z
   have e:a=b:=by bv_omega
   subst e
   rw[ih (List.Perm.cons_inv p) (List.pairwise_cons.mp ha).2 (List.pairwise_cons.mp hb).2]
def sortD:List D->Option D
 | [d]=>(nsD d).bind fun ns=>if ns.length<64 then some (.list ((sortI ns).map PyData.int)) else none
 | _=>none
theorem zV5 {K:KFr}:PrC (fun xs H Q=>∃(p:Addr) (ns:List Int),xs=[.ref p]/\(SqL K H p (ns.map V.int)\/SqT K H p (ns.map V.int))/\ns.length<64 /\
  ∀(l:Addr) (ms:List Int),H l=none->ms.Perm ns->ms.Pairwise (· <= ·)->Q (.ref l) (upd H l (.lst (ms.map V.int)))) .new sortD:=by
 intro Oc Ob H vs ds d Q oh va e k
 unfold sortD at e
 split at e
 ·obtain⟨ns,e1,e⟩:=Option.bind_eq_some_iff.mp e
  split at e
  ·rename_i hl
   cases e
   obtain⟨v,rfl,vx⟩:=va.one
   obtain⟨p,rfl,hq⟩:=zL2 vx e1
   refine⟨p,ns,rfl,hq,hl,fun l ms hp h1 h2 => ?_⟩
   have:ms=sortI ns:=yY9 (h1.trans (jQ ns).symm) h2 (jA ns)
   subst this
   exact k _ _ (Same.new hp) (xB (Same.refl H) hp (kB _))
  ·cases e
 ·cases e
def allD:List D->Option D
 | [.list ds]=>(boolsOf ds).map fun bs=>.bool (bs.all id)
 | _=>none
theorem xS6 {K:KFr}:PrC (fun xs H Q=>∃(p:Addr) (bs:List Bool),xs=[.ref p]/\SqL K H p (bs.map V.bl)/\Q (.bl (bs.all id)) H) .cl allD:=by
 intro Oc Ob H vs ds d Q oh va e k
 unfold allD at e
 split at e
 ·obtain⟨ns,e1,rfl⟩:=Option.map_eq_some_iff.mp e
  obtain⟨v,rfl,vx⟩:=va.one
  obtain⟨a,ys,rfl,rd,rs⟩:=vx.list
  rw[dO e1] at rs
  rw[rs.bools] at rd
  exact⟨a,ns,rfl,.inl rd,k _ H (Same.refl H) (Rep.bl _)⟩
 ·cases e
def tyD:D->String
 | .none=>"NoneType"
 | .bool _=>"bool"
 | .int _=>"int"
 | .str _=>"str"
 | .list _=>"list"
 | .tuple _=>"tuple"
 | .dict _=>"dict"
def subTy (t T:String):Bool:=t == T || (t == "bool"&&T == "int")
structure Kit (K:KFr) (T:String):Prop where
 non:PySem.W.kitOne K (.type "NoneType") (.type T)=some (subTy "NoneType" T)
 bl:PySem.W.kitOne K (.type "bool") (.type T)=some (subTy "bool" T)
 int:PySem.W.kitOne K (.type "int") (.type T)=some (subTy "int" T)
 str:PySem.W.kitOne K (.type "str") (.type T)=some (subTy "str" T)
 lst:PySem.W.kitOne K (.type "list") (.type T)=some (subTy "list" T)
 tup:PySem.W.kitOne K (.type "tuple") (.type T)=some (subTy "tuple" T)
def TyR (K:KFr) (H:Hp) (x:V) (t:Value):Prop:=TyOf K H x t\/∃a xs,x=.ref a/\Rd H a (.tup xs)/\t=.type "tuple"
section
variable {X:Cx}
theorem yQ5:CallR X (.builtin "isinstance") (fun vs H Q=>∃x c cv t b,vs=[x,c]/\clsV c=some cv/\TyR X.K H x t/\PySem.W.kitOne X.K t cv=some b/\Q (.bl b) H):=by
 intro pins s σ H xs us Q I r h
 obtain⟨x,c,cv,t,b,rfl,ec,ty,k,q⟩:=h
 obtain⟨u,w',rfl,ru,rw'⟩:=vals2 r
 obtain rfl:=yM1 rw' ec
 rcases ty with ty | ⟨a,xs,rfl,rd,rfl⟩
 ·exact yS6 I ru ty k fun tk=>⟨.bl b,H,I.tok tk,rfl,q⟩
 ·cases ru
  obtain⟨_,_,_,p⟩:=rd.ok I.hok
  obtain⟨o,h1,h2,_⟩:=p
  exact PySem.W.kia_one PySem.W.kitx_tuple I.kIn ⟨o,h1,h2⟩ k (fun z=>nomatch z) fun tk=>⟨.bl b,H,I.tok tk,rfl,q⟩
end
def isiD (T:String):D->Option D
 | .dict _=>none
 | d=>some (.bool (subTy (tyD d) T))
theorem yQ1 {T:String}{d r:D}(h:isiD T d=some r):(∀k,d ≠ .dict k)/\r=.bool (subTy (tyD d) T):=by
 cases d <;> first | (cases h;done) | (cases h;exact⟨(fun k z=>nomatch z),rfl⟩)
theorem xQ8 {K:KFr}{Oc:Wd}{Ob:Addr->Prop}{H:Hp}{x:V}{d:D}{T:String}(h:VA Oc Ob H x d) (k:Kit K T) (nd:∀k,d ≠ .dict k):∃t,TyR K H x t/\PySem.W.kitOne K t (.type T)=some (subTy (tyD d) T):=by
 rcases h with h | ⟨a,ys,ds,rfl,rfl,e3,e5⟩
 ·cases h with
  | non=>exact⟨_,.inl .non,k.non⟩
  | bl b=>exact⟨_,.inl (.bl b),k.bl⟩
  | int i=>exact⟨_,.inl (.int i),k.int⟩
  | str x=>exact⟨_,.inl (.str x),k.str⟩
  | lst r n t =>
   rcases r with r | ⟨o,r⟩
   ·exact⟨_,.inl (.lst r),k.lst⟩
   ·exact⟨_,.inl (.frz r),k.lst⟩
  | tup r n t=>exact⟨_,.inr ⟨_,_,rfl,r,rfl⟩,k.tup⟩
  | exc r n=>exact absurd rfl (nd _)
 ·exact⟨_,.inl (.lst e3),k.lst⟩
theorem xZ1 {C:Ct}{e:Expr}{T:String}{x:Str}{p p2 pos:Pos}{md:Md}{me:Ev->Res D}(k:Kit C.X.K T) (hm:C.X.mg "isinstance" = none) (hx:C.X.mg x=none) (hv:bootBuiltins x=some (.type T)) (he:RE C md e me) (hg:autoParam (Gl C.X "isinstance") zW._auto_1) (hgx:autoParam (Gl C.X x) zW._auto_1) (hn:autoParam (x ≠ "__name__") zG._auto_1) (hdb:autoParam ((x == ("__debug__":Str))=false) zG._auto_1)
  (hs1:autoParam (starEach [e,.Name x p2] C.X.env=(false,eval e C.X.env)::starEach [.Name x p2] C.X.env) zW._auto_1) (hs2:autoParam (starEach [.Name x p2] C.X.env=(false,eval (.Name x p2) C.X.env)::starEach [] C.X.env) zW._auto_1) (hpl:autoParam ((backTo pos (starEach [.Name x p2] C.X.env)).any (·.1)=false) zW._auto_1) :
  RE C .cl (.Call (.Name "isinstance" p) [e,.Name x p2] [] pos) (e1 (isiD T) me):=by
 obtain⟨t,pe,q⟩:=he
 refine⟨_,fZ yQ5 hg hm PyProof.Rows.boot_isinstance (wZ pe (wZ (yE6 (v:=.ty T) hgx hx hv rfl hn hdb) wH hs2) hs1) (by decide) (by decide) hs1 hpl,fun Oc Ob σ H ρ Q R h=>q Oc Ob σ H ρ _ R (Res.zR (Res.zU h) (fun d _ kk v H' s r => ?_) fun _ z=>z)⟩
 obtain⟨dd,ed,kk⟩:=Res.zF kk
 obtain⟨nd,rfl⟩:=yQ1 ed
 obtain⟨tt,ty,kt⟩:=xQ8 (r.va R.oh) k nd
 exact⟨v,.ty T,.type T,tt,_,rfl,rfl,ty,kt,kk _ H' s (Rep.bl _)⟩
theorem zV8 {s:Shared}{J:Addr}{hp h':Heap}(keep:∀b o,s.heap.get? b=some o->b≠J/\hp.get? b=some o) (hk:∀b o,b ∉ [J]->hp.get? b=some o->h'.get? b=some o):∀b o,s.heap.get? b=some o->h'.get? b=some o :=
 fun b o e=>hk b o (by simpa using (keep b o e).1) (keep b o e).2
theorem kG (xs:Array (Int×Tok)):(intItems xs).size=xs.size:=by simp[intItems]
section
variable {prog:Program}{w:World}{A:Around}{E:Value->Shared->Prop}{s:Shared}{l:Addr}{xs:Array (Int×Tok)}{Q:Value->Shared->Prop}
theorem yF7 (hh:A.handled=none) (hl:s.heap.IsTuple l (intItems xs)) (ne:0<xs.size)
  (k:∀v h' tk,(intItems xs)[argBest (fun i j=>decide (numAt xs i<numAt xs j)) (xs.size-1)]?=some v->(∀b o,s.heap.get? b=some o->h'.get? b=some o)->Q v { s with heap:=h',toks:=tk }):wpAny (model prog w) A (call (.builtin "min") [.ref l]) Q E s :=
 call_min_walk (zM5 (A:=A.in1) hh hl fun J hp St W st a b keep=>⟨_,_,_,_,_,_,_,rfl,W,st,by simp[a,b],by rw[kG];exact ne,.ints_lt (numAt xs) (fun _ _=>intItems_at),fun v h' tk at_ hk=>k v h' tk (by rw[kG] at at_;exact at_) (zV8 keep hk)⟩)
theorem yF9 (hh:A.handled=none) (hl:s.heap.IsTuple l (intItems xs)) (ne:0<xs.size)
  (k:∀v h' tk,(intItems xs)[argBest (fun i j=>decide (numAt xs i > numAt xs j)) (xs.size-1)]?=some v->(∀b o,s.heap.get? b=some o->h'.get? b=some o)->Q v { s with heap:=h',toks:=tk }):wpAny (model prog w) A (call (.builtin "max") [.ref l]) Q E s :=
 call_max_walk (zM5 (A:=A.in1) hh hl fun J hp St W st a b keep=>⟨_,_,_,_,_,_,_,rfl,W,st,by simp[a,b],by rw[kG];exact ne,.ints_gt (numAt xs) (fun _ _=>intItems_at),fun v h' tk at_ hk=>k v h' tk (by rw[kG] at at_;exact at_) (zV8 keep hk)⟩)
end
def minL:List Int->Int
 | []=>0
 | n::ns=>ns.foldl (fun a b=>if b<a then b else a) n
def maxL:List Int->Int
 | []=>0
 | n::ns=>ns.foldl (fun a b=>if b > a then b else a) n
theorem kE:∀(ns:List Int) (n:Int),(ns.foldl (fun a b=>if b<a then b else a) n=n\/ns.foldl (fun a b=>if b<a then b else a) n∈ns)/\ns.foldl (fun a b=>if b<a then b else a) n<=n/\∀m∈ns,ns.foldl (fun a b=>if b<a then b else a) n<=m
 | [],n=>⟨.inl rfl,Int.le_refl _,fun m h=>nomatch h⟩
 | b::ns,n=>by
  obtain⟨h1,h2,h3⟩:=kE ns (if b<n then b else n)
  rw[List.foldl_cons]
  refine⟨?_,?_,fun m hm => ?_⟩
  ·rcases h1 with h1 | h1
   ·rw[h1]
    split
    ·exact .inr List.mem_cons_self
    ·exact .inl rfl
   ·exact .inr (List.mem_cons_of_mem _ h1)
  ·refine Int.le_trans h2 ?_
   split <;> bv_omega
  ·rcases List.mem_cons.mp hm with rfl | hm
   ·refine Int.le_trans h2 ?_
    split <;> bv_omega
   ·exact h3 m hm
theorem hZ:∀(ns:List Int) (n:Int),(ns.foldl (fun a b=>if b > a then b else a) n=n\/ns.foldl (fun a b=>if b > a then b else a) n∈ns)/\n<=ns.foldl (fun a b=>if b > a then b else a) n/\∀m∈ns,m<=ns.foldl (fun a b=>if b > a then b else a) n
 | [],n=>⟨.inl rfl,Int.le_refl _,fun m h=>nomatch h⟩
 | b::ns,n=>by
  obtain⟨h1,h2,h3⟩:=hZ ns (if b > n then b else n)
  rw[List.foldl_cons]
  refine⟨?_,?_,fun m hm => ?_⟩
  ·rcases h1 with h1 | h1
   ·rw[h1]
    split
    ·exact .inr List.mem_cons_self
    ·exact .inl rfl
   ·exact .inr (List.mem_cons_of_mem _ h1)
  ·refine Int.le_trans ?_ h2
   split <;> bv_omega
  ·rcases List.mem_cons.mp hm with rfl | hm
   ·refine Int.le_trans ?_ h2
    split <;> bv_omega
   ·exact h3 m hm
theorem zL4 {ns:List Int}(h:ns ≠ []):minL ns∈ns:=by
 cases ns with
 | nil=>exact absurd rfl h
 | cons n ns =>
  rcases (kE ns n).1 with e | e
  ·show List.foldl _ n ns∈_
   rw[e];exact List.mem_cons_self
  ·exact List.mem_cons_of_mem _ e
theorem yC2 {ns:List Int}{m:Int}(h:m∈ns):minL ns<=m:=by
 cases ns with
 | nil=>cases h
 | cons n ns =>
  rcases List.mem_cons.mp h with rfl | h
  ·exact (kE ns m).2.1
  ·exact (kE ns n).2.2 m h
theorem bP {ns:List Int}(h:ns ≠ []):maxL ns∈ns:=by
 cases ns with
 | nil=>exact absurd rfl h
 | cons n ns =>
  rcases (hZ ns n).1 with e | e
  ·show List.foldl _ n ns∈_
   rw[e];exact List.mem_cons_self
  ·exact List.mem_cons_of_mem _ e
theorem zE7 {ns:List Int}{m:Int}(h:m∈ns):m<=maxL ns:=by
 cases ns with
 | nil=>cases h
 | cons n ns =>
  rcases List.mem_cons.mp h with rfl | h
  ·exact (hZ ns m).2.1
  ·exact (hZ ns n).2.2 m h
theorem zF9 {xs:Array (Int×Tok)}{i:Nat}(h:i<xs.size):numAt xs i∈xs.toList.map (·.1):=by
 rw[numAt_eq]
 exact getD_mem (by simpa using h)
theorem zG4 {xs:Array (Int×Tok)}{a:Int}(h:a∈xs.toList.map (·.1)):∃i,i<xs.size/\a=numAt xs i:=by
 obtain⟨i,hi,e⟩:=mem_getD h
 exact⟨i,by simpa using hi,by rw[numAt_eq,e]⟩
theorem yP7 {xs:Array (Int×Tok)}(h:0<xs.size):numAt xs (argBest (fun i j=>decide (numAt xs i<numAt xs j)) (xs.size-1))=minL (xs.toList.map (·.1)):=by
 have z:=argBest_lt (numAt xs) (xs.size-1)
 have m:=zF9 (xs:=xs) (i:=argBest (fun i j=>decide (numAt xs i<numAt xs j)) (xs.size-1)) (by bv_omega)
 obtain⟨i,hi,e⟩:=zG4 (zL4 (List.ne_nil_of_mem m))
 have:=yC2 m
 have:=z.2 i (by bv_omega)
 bv_omega
theorem yN6 {xs:Array (Int×Tok)}(h:0<xs.size):numAt xs (argBest (fun i j=>decide (numAt xs i > numAt xs j)) (xs.size-1))=maxL (xs.toList.map (·.1)):=by
 have z:=argBest_gt (numAt xs) (xs.size-1)
 have m:=zF9 (xs:=xs) (i:=argBest (fun i j=>decide (numAt xs i > numAt xs j)) (xs.size-1)) (by bv_omega)
 obtain⟨i,hi,e⟩:=zG4 (bP (List.ne_nil_of_mem m))
 have:=zE7 m
 have:=z.2 i (by bv_omega)
 bv_omega
section
variable {X:Cx}
theorem yW2 (hc:X.calm=true):CallR X (.builtin "min") (fun xs H Q=>∃(p:Addr) (ns:List Int),xs=[.ref p]/\(SqL X.K H p (ns.map V.int)\/SqT X.K H p (ns.map V.int))/\ns ≠ []/\Q (.int (minL ns)) H):=by
 intro pins s σ H xs us Q I r h
 obtain⟨p,ns,rfl,hq,hne,q⟩:=h
 obtain⟨u,rfl,ru⟩:=vals1 r
 cases ru
 have core:∀(its:List Value),Vals (ns.map V.int) its->∃xs:Array (Int×Tok),its.toArray=intItems xs/\ns=xs.toList.map (·.1):=fun its rv=>by
  have hi:IntsAre its ns:=jK rv
  obtain⟨xs,e⟩:=hi.allInts.items
  exact⟨xs,e,by rw[<-hi.numsOf,<-nums_intItems,<-e]⟩
 have fin:∀(xs:Array (Int×Tok)),ns=xs.toList.map (·.1)->0<xs.size->∀(v:Value) (h':Heap) (tk:Nat),(intItems xs)[argBest (fun i j=>decide (numAt xs i<numAt xs j)) (xs.size-1)]?=some v->(∀b o,s.heap.get? b=some o->h'.get? b=some o)->EP X pins σ Q v { s with heap:=h',toks:=tk }:=fun xs hns hsz v h' tk hv hk=>by
  obtain⟨t,rfl⟩:=intItems_at hv
  have e:=yP7 hsz
  rw[<-hns] at e
  exact⟨.int _,H,I.kept hk,⟨t,by rw[e]⟩,q⟩
 have sz:∀xs:Array (Int×Tok),ns=xs.toList.map (·.1)->0<xs.size:=fun xs hns=>by
  rcases Nat.eq_zero_or_pos xs.size with z | z
  ·exact absurd (by rw[hns,Array.size_eq_zero_iff.mp z];rfl) hne
  ·exact z
 rcases hq with hq | hq
 ·obtain⟨its,rv,pl,hz⟩:=I.list hq
  obtain⟨xs,e,hns⟩:=core its rv
  exact min_intList (I.ok.hd hc) (by rw[<-e];exact pl.isList) (sz xs hns) (fin xs hns (sz xs hns))
 ·obtain⟨its,rv,pl,hz⟩:=I.tuple hq
  obtain⟨xs,e,hns⟩:=core its rv
  exact yF7 (I.ok.hd hc) (by rw[<-e];exact pl) (sz xs hns) (fin xs hns (sz xs hns))
theorem zS2 (hc:X.calm=true):CallR X (.builtin "max") (fun xs H Q=>∃(p:Addr) (ns:List Int),xs=[.ref p]/\(SqL X.K H p (ns.map V.int)\/SqT X.K H p (ns.map V.int))/\ns ≠ []/\Q (.int (maxL ns)) H):=by
 intro pins s σ H xs us Q I r h
 obtain⟨p,ns,rfl,hq,hne,q⟩:=h
 obtain⟨u,rfl,ru⟩:=vals1 r
 cases ru
 have core:∀(its:List Value),Vals (ns.map V.int) its->∃xs:Array (Int×Tok),its.toArray=intItems xs/\ns=xs.toList.map (·.1):=fun its rv=>by
  have hi:IntsAre its ns:=jK rv
  obtain⟨xs,e⟩:=hi.allInts.items
  exact⟨xs,e,by rw[<-hi.numsOf,<-nums_intItems,<-e]⟩
 have fin:∀(xs:Array (Int×Tok)),ns=xs.toList.map (·.1)->0<xs.size->∀(v:Value) (h':Heap) (tk:Nat),(intItems xs)[argBest (fun i j=>decide (numAt xs i > numAt xs j)) (xs.size-1)]?=some v->(∀b o,s.heap.get? b=some o->h'.get? b=some o)->EP X pins σ Q v { s with heap:=h',toks:=tk }:=fun xs hns hsz v h' tk hv hk=>by
  obtain⟨t,rfl⟩:=intItems_at hv
  have e:=yN6 hsz
  rw[<-hns] at e
  exact⟨.int _,H,I.kept hk,⟨t,by rw[e]⟩,q⟩
 have sz:∀xs:Array (Int×Tok),ns=xs.toList.map (·.1)->0<xs.size:=fun xs hns=>by
  rcases Nat.eq_zero_or_pos xs.size with z | z
  ·exact absurd (by rw[hns,Array.size_eq_zero_iff.mp z];rfl) hne
  ·exact z
 rcases hq with hq | hq
 ·obtain⟨its,rv,pl,hz⟩:=I.list hq
  obtain⟨xs,e,hns⟩:=core its rv
  exact max_intList (I.ok.hd hc) (by rw[<-e];exact pl.isList) (sz xs hns) (fin xs hns (sz xs hns))
 ·obtain⟨its,rv,pl,hz⟩:=I.tuple hq
  obtain⟨xs,e,hns⟩:=core its rv
  exact yF9 (I.ok.hd hc) (by rw[<-e];exact pl) (sz xs hns) (fin xs hns (sz xs hns))
end
def min1D:List D->Option D
 | [d]=>(nsD d).bind fun ns=>if ns=[] then none else some (.int (minL ns))
 | _=>none
def max1D:List D->Option D
 | [d]=>(nsD d).bind fun ns=>if ns=[] then none else some (.int (maxL ns))
 | _=>none
theorem yF4 {K:KFr}:PrC (fun xs H Q=>∃(p:Addr) (ns:List Int),xs=[.ref p]/\(SqL K H p (ns.map V.int)\/SqT K H p (ns.map V.int))/\ns ≠ []/\Q (.int (minL ns)) H) .cl min1D:=by
 intro Oc Ob H vs ds d Q oh va e k
 unfold min1D at e
 split at e
 ·obtain⟨ns,e1,e⟩:=Option.bind_eq_some_iff.mp e
  split at e
  ·cases e
  ·rename_i hl
   cases e
   obtain⟨v,rfl,vx⟩:=va.one
   obtain⟨p,rfl,hq⟩:=zL2 vx e1
   exact⟨p,ns,rfl,hq,hl,k _ H (Same.refl H) (Rep.int _)⟩
 ·cases e
theorem zE4 {K:KFr}:PrC (fun xs H Q=>∃(p:Addr) (ns:List Int),xs=[.ref p]/\(SqL K H p (ns.map V.int)\/SqT K H p (ns.map V.int))/\ns ≠ []/\Q (.int (maxL ns)) H) .cl max1D:=by
 intro Oc Ob H vs ds d Q oh va e k
 unfold max1D at e
 split at e
 ·obtain⟨ns,e1,e⟩:=Option.bind_eq_some_iff.mp e
  split at e
  ·cases e
  ·rename_i hl
   cases e
   obtain⟨v,rfl,vx⟩:=va.one
   obtain⟨p,rfl,hq⟩:=zL2 vx e1
   exact⟨p,ns,rfl,hq,hl,k _ H (Same.refl H) (Rep.int _)⟩
 ·cases e
theorem fD {α β:Type}{F:α->β->Prop}:∀{as:List α}{bs:List β},as.length=bs.length->(∀(i:Nat) a b,as[i]?=some a->bs[i]?=some b->F a b)->Paired F as bs
 | [],[],_,_=>.nil
 | [],_::_,h,_=>by cases h
 | _::_,[],h,_=>by cases h
 | a::as,b::bs,h,f=>.cons (f 0 a b rfl rfl) (fD (Nat.succ.inj h) fun i x y hx hy=>f (i+1) x y (by simpa using hx) (by simpa using hy))
section
variable {X:Cx}
theorem yW8:CallR X (.type "range") (fun xs H Q=>∃j:Int,xs=[.int j]/\∀p,H p=none->Q (.ref p) (upd H p (.rng 0 j))):=by
 intro pins s σ H xs us Q I r h
 obtain⟨j,rfl,q⟩:=h
 obtain⟨u,rfl,t,rfl⟩:=vals1 r
 exact call_range_1 ⟨.ref s.heap.objs.size,_,I.laid (t':=s.toks+1+1) (o:=.rng 0 j) (fun b o e=>Heap.get?_push_of_some _ e) (Nat.le_refl _) ⟨_,_,_,Heap.get?_push_size _ rfl⟩,rfl,q _ (I.hok.fresh (Nat.le_refl _))⟩
theorem zQ2 (hc:X.calm=true):CallR X (.type "list") (fun xs H Q=>∃(p:Addr) (j:Int),xs=[.ref p]/\H p=some (.rng 0 j)/\-(2 ^ 62)<=j/\j.toNat<=1000000/\∀l,H l=none->Q (.ref l) (upd H l (.lst ((List.range j.toNat).map fun (i:Nat)=>V.int (i:Int))))):=by
 intro pins s σ H xs us Q I r h
 obtain⟨p,j,rfl,hp,hs,hj,q⟩:=h
 obtain⟨u,rfl,ru⟩:=vals1 r
 cases ru
 obtain⟨t,u,v,e⟩:=I.hok p _ hp
 refine call_list_range (n:=j.toNat) (I.ok.hd hc) e (small_one (by bv_omega) (by bv_omega) hs (by bv_omega)) ?_ (by bv_omega) fun h' tk acc' c' hk hS hacc => ?_
 ·rw[rangeSize_one];split <;> bv_omega
 ·have hv:Vals ((List.range j.toNat).map fun (i:Nat)=>V.int (i:Int)) acc'.toList:=by
   obtain⟨h1,h2⟩:=hacc
   refine fD ?_ ?_
   ·rw[List.length_map,List.length_range,Array.length_toList,h1]
   ·intro i a b ha hb
    rw[List.getElem?_map] at ha
    have hi:i<j.toNat:=by
     have:=(List.getElem?_eq_some_iff.mp hb).1
     rw[Array.length_toList,h1] at this
     exact this
    rw[List.getElem?_range hi] at ha
    cases ha
    obtain⟨t,e⟩:=h2 i b (by simpa using hb)
    refine⟨t,?_⟩
    rw[e]
    simp
  refine⟨.ref s.heap.objs.size,_,I.laid (t':=tk) (o:=.lst ((List.range j.toNat).map fun (i:Nat)=>V.int (i:Int))) hk (Nat.le_refl _) ⟨?_,acc'.toList,c',hv,by simpa using hS⟩,rfl,q _ (I.hok.fresh (Nat.le_refl _))⟩
  rw[List.length_map,List.length_range]
  exact Nat.le_of_lt (Nat.lt_of_le_of_lt hj (by decide))
end
def rangeL:List D->Option D
 | [.int j]=>if -(2 ^ 62)<=j/\j.toNat<=1000000 then some (.list ((List.range j.toNat).map fun (i:Nat)=>PyData.int (i:Int))) else none
 | _=>none
theorem yW4 {H:Hp}{O:Addr->Prop}(l:List Nat):Reps H O (l.map fun (i:Nat)=>V.int (i:Int)) (l.map fun (i:Nat)=>PyData.int (i:Int)):=by
 induction l with
 | nil=>exact .nil
 | cons a l ih=>exact .cons (.int _) ih
theorem zK4 {C:Ct}{a:Expr}{p p2 pos pos2:Pos}{ms:Ev->Res (List D)}(hl:C.X.mg "list" = none) (hm:C.X.mg "range" = none) (ha:RArg C false [a] ms) (hc:autoParam (C.X.calm=true) zW._auto_1) (hgl:autoParam (Gl C.X "list") zW._auto_1) (hg:autoParam (Gl C.X "range") zW._auto_1)
  (hs:autoParam (starEach [a] C.X.env=(false,eval a C.X.env)::starEach [] C.X.env) zW._auto_1) (hs2:autoParam (starEach [.Call (.Name "range" p2) [a] [] pos2] C.X.env=(false,eval (.Call (.Name "range" p2) [a] [] pos2) C.X.env)::starEach [] C.X.env) zW._auto_1)
  (hpl:autoParam ((backTo pos (starEach [] C.X.env)).any (·.1)=false) zW._auto_1) (hpl2:autoParam ((backTo pos2 (starEach [] C.X.env)).any (·.1)=false) zW._auto_1) :
  RE C .new (.Call (.Name "list" p) [.Call (.Name "range" p2) [a] [] pos2] [] pos) (eB rangeL ms):=by
 obtain⟨t,pa,q⟩:=ha
 refine⟨_,dN (zQ2 hc) hgl hl (by rfl) (wZ (dN yW8 hg hm (by rfl) pa (by decide) (by decide) hs hpl2) wH hs2) (by decide) (by decide) hs2 hpl,fun Oc Ob σ H ρ Q R h=>q Oc Ob σ H ρ _ R (Res.zR (Res.zU h) (fun ds _ k vs H1 s1 r => ?_) fun _ z=>z)⟩
 obtain⟨d,e,k⟩:=Res.zF k
 unfold rangeL at e
 split at e
 ·split at e
  ·rename_i hb
   cases e
   obtain⟨v,rfl,va⟩:=VAs.one r
   obtain rfl:=va.int
   refine⟨_,rfl,fun p hp=>⟨p,_,rfl,yD,hb.1,hb.2,fun l hl => ?_⟩⟩
   exact k _ _ ((s1.trans (Same.new hp)).trans (Same.new hl)) (xB (s1.trans (Same.new hp)) hl (yW4 _))
  ·cases e
 ·cases e
section
variable {X:Cx}
def rExtR:V->List V->Hp->VK->Prop:=fun x vs H Q=>∃l b xs zs,x=.ref l/\vs=[.ref b]/\H l=some (.lst xs)/\(Rd H b (.lst zs)\/Rd H b (.tup zs))/\xs.length+zs.length<=sizeLine/\Q .non (upd H l (.lst (xs++zs)))
theorem yG5:MtM X "list.extend" rExtR:=by
 intro pins s σ H x vs v us Q I rx rv h
 obtain⟨l,b,xs,zs,rfl,rfl,hH,hB,hz,q⟩:=h
 cases rx
 obtain⟨u,rfl,ru⟩:=rv.one
 cases ru
 obtain⟨z,its,n,r,hl,e⟩:=I.lstM hH
 have len:(xs++zs).length<=sizeLine:=by rw[List.length_append];exact hz
 rcases hB with hB | hB
 ·obtain⟨z2,its2,n2,r2,hl2,e2⟩:=Rd.lstM I hB
  have hsz:its.toArray.size+its2.toArray.size<=sizeLine:=by rw[List.size_toArray,List.size_toArray];bv_omega
  have hlong:¬(!its.toArray.isEmpty&&Builtin.List.listTooLong (its.toArray.size+its2.toArray.size))=true:=by
   rw[notLongL hsz,Bool.and_false]
   exact Bool.false_ne_true
  refine call_meets F.slot_list_extend ⟨_,e,rfl⟩ F.entry_list_extend (F.args_list_extend_2 _ _)
   (AutoSeq1.list_extend_list_list_0 l its.toArray n b its2.toArray n2 hlong (by rw[List.size_toArray];bv_omega) (by bv_omega)) ⟨e,e2,?_⟩
  exact⟨.non,_,I.lset (its':=its++its2) hH e (by simp) (r.append r2) len,rfl,q⟩
 ·obtain⟨z2,its2,r2,o,ho,hc,⟨n2,hd⟩,_⟩:=hB.ok I.hok
  have hl2:=r2.length
  have hsz:its.toArray.size+its2.toArray.size<=sizeLine:=by rw[List.size_toArray,List.size_toArray];bv_omega
  refine call_meets F.slot_list_extend ⟨_,e,rfl⟩ F.entry_list_extend (F.args_list_extend_2 _ _)
   (yG4 hc hd hsz) ⟨e,ho,?_⟩
  exact⟨.non,_,I.lset (its':=its++its2) hH e (by simp) (r.append r2) len,rfl,q⟩
def insN (n:Nat) (x:Int):Nat:=if x<0 then (x+(n:Int)).toNat else min x.toNat n
def rInsert:V->List V->Hp->VK->Prop:=fun x vs H Q=>∃l xs i y,x=.ref l/\vs=[.int i,y]/\H l=some (.lst xs)/\-(2 ^ 63)<=i/\i<2 ^ 63/\xs.length<sizeLine/\Q .non (upd H l (.lst (xs.take (insN xs.length i)++y::xs.drop (insN xs.length i))))
theorem yV4:MtM X "list.insert" rInsert:=by
 intro pins s σ H x vs v us Q I rx rv h
 obtain⟨l,xs,i,y,rfl,rfl,hH,h1,h2,hz,q⟩:=h
 cases rx
 obtain⟨u,w',rfl,⟨t,rfl⟩,ry⟩:=rv.two
 obtain⟨z,its,n,r,hl,e⟩:=I.lstM hH
 refine call_meets F.slot_list_insert ⟨_,e,rfl⟩ F.entry_list_insert (F.args_list_insert_3 _ _ _) (AutoSeq1.list_insert_list_int_val_1 l its.toArray n i t w' (by rw[fitsIndex_both h1 h2];exact Bool.false_ne_true) (by rw[List.size_toArray];bv_omega)) ⟨e,?_⟩
 refine⟨.non,_,I.lset (its':=its.take (insN its.length i)++w'::its.drop (insN its.length i)) hH e ?_ (by rw[hl];exact (r.take _).append (.cons ry (r.drop _))) ?_,rfl,q⟩
 ·show (its.toArray.extract 0 (if i<0 then (i+(its.toArray.size:Int)).toNat else min i.toNat its.toArray.size)).push w'++its.toArray.extract (if i<0 then (i+(its.toArray.size:Int)).toNat else min i.toNat its.toArray.size)=_
  rw[PySem.W.kl_ins_eq,List.size_toArray]
  rfl
 ·rw[List.length_append,List.length_cons,List.length_take,List.length_drop]
  bv_omega
end
def appD:List D->List D->Option (List D)
 | xs,[d]=>if xs.length<sizeLine then some (xs ++ [d]) else none
 | _,_=>none
def extD:List D->List D->Option (List D)
 | xs,[d]=>(seqD d).bind fun ys=>if xs.length+ys.length<=sizeLine then some (xs++ys) else none
 | _,_=>none
def insD:List D->List D->Option (List D)
 | xs,[.int i,d]=>if -(2 ^ 63)<=i/\i<2 ^ 63/\xs.length<sizeLine then some (xs.take (insN xs.length i)++d::xs.drop (insN xs.length i)) else none
 | _,_=>none
theorem Reps.one' {H:Hp}{O:Addr->Prop}{vs:List V}{d:D}(h:Reps H O vs [d]):∃v,vs=[v]/\Rep H O v d:=by
 cases h with
 | cons a t=>cases t;exact⟨_,rfl,a⟩
theorem Reps.two' {H:Hp}{O:Addr->Prop}{vs:List V}{d d':D}(h:Reps H O vs [d,d']):∃v v',vs=[v,v']/\Rep H O v d/\Rep H O v' d':=by
 cases h with
 | cons a t =>
  obtain⟨v,rfl,q⟩:=Reps.one' t
  exact⟨_,_,rfl,a,q⟩
theorem dM:PrM rAppend appD:=by
 intro O H l xs vs xd ad ds' Q hl rx ra e k
 unfold appD at e
 split at e
 ·split at e
  ·rename_i h
   cases e
   obtain⟨v,rfl,rv⟩:=Reps.one' ra
   exact⟨l,xs,v,rfl,rfl,hl,by rw[rx.length];exact h,k _ (rx.append (.one rv))⟩
  ·cases e
 ·cases e
theorem yQ6:PrM rInsert insD:=by
 intro O H l xs vs xd ad ds' Q hl rx ra e k
 unfold insD at e
 split at e
 ·split at e
  ·rename_i h
   cases e
   obtain⟨v,v',rfl,rv,rv'⟩:=Reps.two' ra
   cases rv
   refine⟨l,xs,_,v',rfl,rfl,hl,h.1,h.2.1,by rw[rx.length];exact h.2.2,?_⟩
   rw[rx.length]
   exact k _ (Reps.insert rv' _ rx)
  ·cases e
 ·cases e
theorem bind_some {α β:Type}{r:Res α}{f:α->Res β}{b:β}(h:r.bind f=.ok b):∃a,r=.ok a/\f a=.ok b:=by
 cases r with
 | ok a=>exact⟨a,rfl,h⟩
 | ex c=>cases h
 | no=>cases h
section
variable {i j:Nat}{m n:Ev->Res Out}{t:Ev->Res Bool}{me mk:Ev->Res D}{ms mi:Ev->Res (List D)}{g:D->Ev->Option Ev}{f:List D->List D->Option (List D)}
end
def isL:Value->Bool
 | .type t=>t == "list"
 | _=>false
def noLst (K:KFr):Bool:=K.all fun p=>!isL p.2.cls
theorem zH3 {K:KFr}{a:Addr}{o:Obj}(h:K.lookup a=some o):(a,o)∈K:=by
 have h:List.lookup a K=some o:=h
 induction K with
 | nil=>cases h
 | cons p r ih =>
  obtain⟨b,u⟩:=p
  rw[List.lookup_cons] at h
  by_cases e:(a == b)=true
  ·simp only[e] at h
   cases h
   have:a=b:=by simpa using e
   rw[this]
   exact List.mem_cons_self
  ·simp only[e] at h
   exact List.mem_cons_of_mem _ (ih h h)
theorem zP6 {K:KFr}{H:Hp}{a:Addr}{xs:List V}(hn:noLst K=true) (h:SqL K H a xs):Rd H a (.lst xs):=by
 rcases h with h | ⟨o,its,n,hk,hc,_⟩
 ·exact h
 ·have:=List.all_eq_true.mp hn _ (zH3 hk)
  rw[hc] at this
  cases this
end L2.L3
namespace L2.L3
open PySem
section
variable (m n:Ev->Res Out) (t t':Ev->Res Bool) (a b c:Ev->Res D) (xs:Ev->Res (List D)) (ρ:Ev) (i j:Nat) (d:D)
theorem xO3:sN ρ=.ok (.nx ρ):=rfl
theorem xQ7:sX ρ=.no:=rfl
theorem xR7:sQ m n ρ=(m ρ).bind fun o=>match o with | .nx ρ'=>n ρ' | .rt d=>.ok (.rt d):=rfl
theorem xU6:sIf t m n ρ=(t ρ).bind fun k=>if k then m ρ else n ρ:=rfl
theorem zQ8:sR a ρ=(a ρ).bind fun d=>.ok (.rt d):=rfl
theorem xR9:sS i a ρ=(a ρ).bind fun d=>.ok (.nx (ρ.set i (some d))):=rfl
theorem xQ6:sE a ρ=(a ρ).bind fun _=>.ok (.nx ρ):=rfl
theorem xP1 (g:List D->List D->Option (List D)):sM i g xs ρ=(eV i ρ).bind fun d=>(Res.lft (lstD d)).bind fun xd=>(xs ρ).bind fun ad=>(Res.lft (g xd ad)).bind fun ds=>.ok (.nx (ρ.set i (some (.list ds)))):=rfl
theorem xO9:sI i b a ρ=(a ρ).bind fun v=>(eV i ρ).bind fun d=>(Res.lft (lstD d)).bind fun xd=>(b ρ).bind fun k=>(Res.lft (setD xd k v)).bind fun ds=>.ok (.nx (ρ.set i (some (.list ds)))):=rfl
theorem xN1:sV i j ρ=(eV j ρ).bind fun d=>.ok (.nx ((ρ.set i (some d)).set j none)):=rfl
theorem xO7 (g:D->Ev->Option Ev):sF xs g m ρ=(xs ρ).bind fun ds=>forM g m ds ρ:=rfl
theorem xO2 (k:Nat):sW k t m ρ=whM t m k ρ:=rfl
theorem zP4:eC d ρ=.ok d:=rfl
theorem eV0 (x:D) (r:Ev):eV 0 (some x::r)=.ok x:=rfl
theorem eVs (o:Option D) (r:Ev):eV (i+1) (o::r)=eV i r:=rfl
theorem xO1 (f:D->Option D):e1 f a ρ=(a ρ).bind fun x=>Res.lft (f x):=rfl
theorem zP3 (f:D->D->Option D):e2 f a b ρ=(a ρ).bind fun x=>(b ρ).bind fun y=>Res.lft (f x y):=rfl
theorem zQ9 (f:List D->Option D):eB f xs ρ=(xs ρ).bind fun ds=>Res.lft (f ds):=rfl
theorem xQ9 (f:List D->Res D):eF f xs ρ=(xs ρ).bind f:=rfl
theorem xY4 (fr:Bool) (f:List D->Res D):eFA fr f xs ρ=(xs ρ).bind fun ds=>(f ds).bind fun d=>if lfT fr d then .ok d else .no:=rfl
theorem xP7 (f:D->D->Option Bool):b2 f a b ρ=(a ρ).bind fun x=>(b ρ).bind fun y=>Res.lft (f x y):=rfl
theorem zP2 (f g:D->D->Option Bool):b3 f g a b c ρ=(a ρ).bind fun x=>(b ρ).bind fun y=>(Res.lft (f x y)).bind fun k=>if k then (c ρ).bind fun z=>Res.lft (g y z) else .ok false:=rfl
theorem zQ6:vB t ρ=(t ρ).bind fun k=>.ok (.bool k):=rfl
theorem xO6:tV a ρ=(a ρ).bind fun d=>Res.lft (isB d):=rfl
theorem xY2:tNt t ρ=(t ρ).bind fun k=>.ok (!k):=rfl
theorem xY8:tAn t t' ρ=(t ρ).bind fun k=>if k then t' ρ else .ok false:=rfl
theorem xR8:tO t t' ρ=(t ρ).bind fun k=>if k then .ok true else t' ρ:=rfl
theorem zY9:vAn a b ρ=(a ρ).bind fun d=>(Res.lft (isB d)).bind fun k=>if k then b ρ else .ok (.bool false):=rfl
theorem xS9:vO a b ρ=(a ρ).bind fun d=>(Res.lft (isB d)).bind fun k=>if k then .ok (.bool true) else b ρ:=rfl
theorem xV9:vNt a ρ=(a ρ).bind fun d=>(Res.lft (isB d)).bind fun k=>.ok (.bool (!k)):=rfl
theorem xX9:eIf t a b ρ=(t ρ).bind fun k=>if k then a ρ else b ρ:=rfl
theorem zP9:aN ρ=.ok []:=rfl
theorem zQ7:aC a xs ρ=(a ρ).bind fun x=>(xs ρ).bind fun r=>.ok (x::r):=rfl
theorem xP6:iS a ρ=(a ρ).bind fun d=>Res.lft (seqD d):=rfl
theorem xN3 (f:List D->Option (List D)):iR f xs ρ=(xs ρ).bind fun ds=>Res.lft (f ds):=rfl
theorem xN2:gN i d ρ=some (ρ.set i (some d)):=rfl
theorem yB3:tYes ρ=.ok true:=rfl
theorem yJ3 (mi:Ev->Res (List D)) (js:List Nat):eComp mi t a js ρ=(mi ρ).bind fun ds=>if ds.length<=sizeLine then (compM (fun x=>t (cEnv ρ js x)) (fun x=>a (cEnv ρ js x)) ds).bind fun out=>.ok (.list out) else .no:=rfl
theorem xO4 (f:Int->Int->Option Int) (x y:Int):i2 f (.int x) (.int y)=(f x y).map PyData.int:=rfl
theorem zP5 (f:Int->Int->Bool) (x y:Int):c2 f (.int x) (.int y)=some (f x y):=rfl
theorem yI8 (l:List D):lstD (.list l)=some l:=rfl
theorem yU2 (l:List D):seqD (.list l)=some l:=rfl
theorem yU8 (l:List D):seqD (.tuple l)=some l:=rfl
theorem aB (k:Bool):isB (.bool k)=some k:=rfl
theorem zW2:lenD [d]=(seqD d).map fun ds=>.int ds.length:=rfl
theorem yL6:listD [d]=(seqD d).map fun ds=>.list ds:=rfl
theorem yB7:tupD [d]=(seqD d).map fun ds=>.tuple ds:=rfl
theorem xO8 (l:List D) (k:Int):ixD (.list l) (.int k)=atI l k:=rfl
theorem xR4 (l:List D) (k:Int):ixD (.tuple l) (.int k)=atI l k:=rfl
theorem yF6 (k:Int):negD (.int k)=some (.int (-k)):=rfl
theorem zP8 (k:Bool):bD (some k)=some (.bool k):=rfl
end
theorem zY4 (fr:Bool) (d:D):fin fr (.rt d)=.ok d:=rfl
theorem xY7 (ρ:Ev):fin false (.nx ρ)=.ok .none:=rfl
theorem wD {g:D->Ev->Option Ev}{b:Ev->Res Out}(P:Nat->Ev->Prop) (ds:List D) (ρ:Ev) (h0:P 0 ρ) (hs:∀(i:Nat) d ρ,ds[i]?=some d->P i ρ->∃ρ1 ρ2,g d ρ=some ρ1/\b ρ1=.ok (.nx ρ2)/\P (i+1) ρ2) :
  ∃ρ',forM g b ds ρ=.ok (.nx ρ')/\P ds.length ρ':=by
 induction ds generalizing P ρ with
 | nil=>exact⟨ρ,rfl,h0⟩
 | cons d ds ih =>
  obtain⟨ρ1,ρ2,e1,e2,p⟩:=hs 0 d ρ rfl h0
  obtain⟨ρ',e,p'⟩:=ih (fun i=>P (i+1)) ρ2 p fun i d ρ hd hp=>hs (i+1) d ρ (by simpa using hd) hp
  refine⟨ρ',?_,by simpa using p'⟩
  rw[forM,e1,Res.lft_some,Res.bind_ok,e2,Res.bind_ok]
  exact e
theorem xX1 {t:Ev->Res Bool}{b:Ev->Res Out}(P:Nat->Ev->Prop) (n:Nat):∀(fuel:Nat) (ρ:Ev),P 0 ρ->(∀i ρ,i<n->P i ρ->t ρ=.ok true/\∃ρ2,b ρ=.ok (.nx ρ2)/\P (i+1) ρ2)->(∀ρ,P n ρ->t ρ=.ok false)->n<fuel->∃ρ',whM t b fuel ρ=.ok (.nx ρ')/\P n ρ':=by
 induction n generalizing P with
 | zero =>
  intro fuel ρ h0 _ he hf
  obtain⟨f,rfl⟩:∃f,fuel=f+1:=⟨fuel-1,by bv_omega⟩
  refine⟨ρ,?_,h0⟩
  rw[whM,he ρ h0]
  rfl
 | succ n ih =>
  intro fuel ρ h0 hs he hf
  obtain⟨f,rfl⟩:∃f,fuel=f+1:=⟨fuel-1,by bv_omega⟩
  obtain⟨e1,ρ2,e2,p⟩:=hs 0 ρ (Nat.succ_pos _) h0
  obtain⟨ρ',e,p'⟩:=ih (fun i=>P (i+1)) f ρ2 p (fun i ρ hi hp=>hs (i+1) ρ (by bv_omega) hp) he (by bv_omega)
  refine⟨ρ',?_,p'⟩
  rw[whM,e1,Res.bind_ok,if_pos rfl,e2,Res.bind_ok]
  exact e
theorem zU6 {t:D->Res Bool}{f:D->Res D}{α:Type}(A:α->D) (p:α->Bool) (q:α->D):∀(xs:List α),(∀x∈xs,t (A x)=.ok (p x))->(∀x∈xs,p x=true->f (A x)=.ok (q x))->compM t f (xs.map A)=.ok ((xs.filter p).map q)
 | [],_,_=>rfl
 | x::xs,ht,hf=>by
  have ih:=zU6 A p q xs (fun y hy=>ht y (List.mem_cons_of_mem _ hy)) (fun y hy=>hf y (List.mem_cons_of_mem _ hy))
  rw[List.map_cons,compM,ht x List.mem_cons_self]
  cases hp:p x with
  | false=>simp only[noEx,Res.bind_ok,Bool.false_eq_true,if_false,List.filter_cons,hp];exact ih
  | true =>
   rw[hf x List.mem_cons_self hp,ih]
   simp[noEx,List.filter_cons,hp]
abbrev tI (ns:List Int):D:=.tuple (ns.map PyData.int)
abbrev lI (ns:List Int):D:=.list (ns.map PyData.int)
theorem gG {α β:Type}(f:α->β) (xs:List α) (i:Int):atI (xs.map f) i=(atI xs i).map f:=by
 unfold atI
 rw[List.length_map]
 cases ixN xs.length i with
 | none=>rfl
 | some j=>simp
theorem fQ {xs:List Int}{j:Nat}(h:j<xs.length):atI xs (j:Int)=some (xs.getD j 0):=by
 refine jF ?_
 rw[List.getD_eq_getElem?_getD,List.getElem?_eq_getElem h]
 rfl
theorem dL {ds:List D}(h:ds.length<=1000):mkL ds=some (.list ds):=by
 unfold mkL
 exact if_pos (Nat.le_of_lt (small1000 h))
theorem zZ2 {ds:List D}(h:ds.length<=1000):mkT ds=some (.tuple ds):=by
 unfold mkT
 exact if_pos (Nat.le_of_lt (small1000 h))
theorem mkL0:mkL []=some (.list []):=dL (by simp)
theorem mkL1 (a:D):mkL [a]=some (.list [a]):=dL (by simp)
theorem mkL2 (a b:D):mkL [a,b]=some (.list [a,b]):=dL (by simp)
theorem mkL3 (a b c:D):mkL [a,b,c]=some (.list [a,b,c]):=dL (by simp)
theorem mkL4 (a b c d:D):mkL [a,b,c,d]=some (.list [a,b,c,d]):=dL (by simp)
theorem mkT0:mkT []=some (.tuple []):=zZ2 (by simp)
theorem mkT1 (a:D):mkT [a]=some (.tuple [a]):=zZ2 (by simp)
theorem mkT2 (a b:D):mkT [a,b]=some (.tuple [a,b]):=zZ2 (by simp)
theorem mkT3 (a b c:D):mkT [a,b,c]=some (.tuple [a,b,c]):=zZ2 (by simp)
theorem zN5 {l:List D}{d:D}(h:l.length<=1000):appD l [d]=some (l ++ [d]):=if_pos (small1000 h)
theorem zY7 {l k:List D}{d:D}(hd:seqD d=some k) (h:l.length+k.length<=1000):extD l [d]=some (l++k):=by
 show (seqD d).bind (fun ys=>if l.length+ys.length<=sizeLine then some (l++ys) else none)=_
 rw[hd]
 exact if_pos (Nat.le_of_lt (small1000 h))
theorem xS2 {l:List D}{d:D}{i:Int}(h0:0<=i) (h1:i<=l.length) (h:l.length<=1000):insD l [.int i,d]=some (l.take i.toNat++d::l.drop i.toNat):=by
 unfold insD
 simp only
 rw[if_pos ⟨by bv_omega,by bv_omega,small1000 h⟩]
 have e:insN l.length i=i.toNat:=by
  unfold insN
  rw[if_neg (by bv_omega)]
  bv_omega
 rw[e]
theorem yI5 {ds:List D}{r:Res D}(h:ds.length<=1000):(if ds.length<=sizeLine then r else .no)=r:=if_pos (Nat.le_of_lt (small1000 h))
theorem qJ {n:Nat}(h:n<=1000):rng1 [.int (n:Int)]=some ((List.range n).map fun (i:Nat)=>PyData.int (i:Int)):=by
 unfold rng1
 simp only
 rw[if_pos ⟨by bv_omega,by bv_omega⟩,Int.toNat_natCast]
theorem cS {n i:Nat}{d:D}(h:((List.range n).map fun (i:Nat)=>PyData.int (i:Int))[i]?=some d):i<n/\d=.int (i:Int):=by
 rw[List.getElem?_map] at h
 by_cases hi:i<n
 ·rw[List.getElem?_range hi] at h
  cases h
  exact⟨hi,rfl⟩
 ·rw[List.getElem?_eq_none (by simpa using hi)] at h
  cases h
theorem jP (i:Int):SeqAt.shaped (.int i)=true:=rfl
theorem zF7 (i j:Int):PyData.eqv (.int i) (.int j)=decide (i=j):=by
 rw[PyData.eqv]
 exact Bool.beq_eq_decide_eq i j
theorem yH (i j:Int):eqD (.int i) (.int j)=some (decide (i=j)):=by
 unfold eqD
 rw[if_pos ⟨jP i,jP j⟩,zF7]
theorem jE (i j:Int):neD (.int i) (.int j)=some (!decide (i=j)):=by
 unfold neD
 rw[if_pos ⟨jP i,jP j⟩,zF7]
theorem xX2 (ns ms:List Int):eqD (lI ns) (lI ms)=some (decide (ns=ms)):=by
 unfold eqD
 rw[if_pos ⟨bT ns,bT ms⟩,yD2]
abbrev rows (rs:List (List Int)):D:=.list (rs.map tI)
theorem yT2 {α:Type}(xs:List α) (f:α->Bool) (h:∀x∈xs,f x=true):allD [.list (xs.map fun x=>PyData.bool (f x))]=some (.bool true):=by
 have e:(xs.map fun x=>PyData.bool (f x))=(xs.map f).map PyData.bool:=by rw[List.map_map];rfl
 show (boolsOf _).map _=_
 rw[e,boolsOf_map]
 show some (PyData.bool ((xs.map f).all id))=_
 congr 2
 rw[List.all_eq_true]
 intro b hb
 obtain⟨x,hx,rfl⟩:=List.mem_map.mp hb
 exact h x hx
theorem zE2 {n m:Nat}(h:m<n):ixN n (m:Int)=some m:=by
 unfold ixN
 rw[if_pos (by bv_omega),if_pos (by bv_omega),Int.toNat_natCast]
theorem yX7 {n m:Nat}(h:m<n) (f:Nat->D) (v:D):((List.range n).map f).set m v=(List.range n).map fun c=>if c=m then v else f c:=by
 apply List.ext_getElem?
 intro i
 by_cases e:m=i
 ·subst e
  rw[List.getElem?_set_self (by simpa using h),List.getElem?_map,List.getElem?_range h]
  simp
 ·rw[List.getElem?_set_ne e,List.getElem?_map,List.getElem?_map]
  cases q:(List.range n)[i]? with
  | none=>rfl
  | some c =>
   have:c=i:=by
    have hi:=(List.getElem?_eq_some_iff.mp q).1
    rw[List.getElem?_range (by simpa using hi)] at q
    cases q;rfl
   subst this
   show some (f c)=some (if c=m then v else f c)
   rw[if_neg (fun z=>e z.symm)]
theorem yZ5 {n m:Nat}(h:m<n) (f:Nat->D) (v:D):setD ((List.range n).map f) (.int (m:Int)) v=some ((List.range n).map fun c=>if c=m then v else f c):=by
 unfold setD
 simp only
 rw[List.length_map,List.length_range,zE2 h,Option.map_some,yX7 h]
theorem zM9 (v:D) (n:Nat) (h:n<=1000):repL (.list [v]) (.int (n:Int))=some (.list (List.replicate n v)):=by
 unfold repL
 simp only
 rw[if_pos ⟨by bv_omega,by bv_omega,by rw[List.length_singleton,Int.toNat_natCast];exact Nat.le_of_lt (small1000 (by bv_omega))⟩,Int.toNat_natCast]
 congr 2
 induction n with
 | zero=>rfl
 | succ n ih=>rw[List.replicate_succ,List.flatten_cons,ih (by bv_omega),List.replicate_succ];rfl
theorem zR4 {α:Type}(v:α) (n:Nat):List.replicate n v=(List.range n).map fun _=>v:=by
 apply List.ext_getElem?
 intro i
 rw[List.getElem?_replicate,List.getElem?_map]
 by_cases h:i<n
 ·rw[if_pos h,List.getElem?_range h];rfl
 ·rw[if_neg h,List.getElem?_eq_none (by simpa using h)];rfl
theorem zT1 {n m:Nat}(h:m<n) (f:Nat->D):atI ((List.range n).map f) (m:Int)=some (f m):=jF (by rw[List.getElem?_map,List.getElem?_range h];rfl)
theorem yY3 {n:Nat}(h:n<=1000):rangeL [.int (n:Int)]=some (lI ((List.range n).map fun (i:Nat)=>(i:Int))):=by
 unfold rangeL
 simp only
 rw[if_pos ⟨by bv_omega,by bv_omega⟩,Int.toNat_natCast]
 congr 2
 rw[List.map_map]
 rfl
theorem aR {ns:List Int}(h:ns.length<=63):sortD [lI ns]=some (lI (sortI ns)):=by
 unfold sortD
 simp only[nsD,seqD,Option.bind_some,intsOf_map]
 rw[if_pos (by bv_omega)]
theorem yF5 {ns:List Int}(h:ns ≠ []):min1D [tI ns]=some (.int (minL ns)):=by
 unfold min1D
 simp only[nsD,seqD,Option.bind_some,intsOf_map]
 rw[if_neg h]
section
variable (i:Int) (b:Bool) (l:List D)
theorem xU8:isiD "int" (.int i)=some (.bool true):=rfl
theorem xV3:isiD "bool" (.int i)=some (.bool false):=rfl
theorem yA1:isiD "bool" (.bool b)=some (.bool true):=rfl
theorem xT4:isiD "int" (.bool b)=some (.bool true):=rfl
theorem xW2:isiD "tuple" (.tuple l)=some (.bool true):=rfl
theorem xT8:isiD "list" (.list l)=some (.bool true):=rfl
theorem xV6:isiD "tuple" (.list l)=some (.bool false):=rfl
theorem xZ5:isiD "list" (.tuple l)=some (.bool false):=rfl
theorem yA2:isiD "tuple" .none=some (.bool false):=rfl
theorem xU3:isiD "bool" .none=some (.bool false):=rfl
end
theorem gE {mi:Ev->Res (List D)}{t:Ev->Res Bool}{me:Ev->Res D}{js:List Nat}{ρ:Ev}{α:Type}(A:α->D) (p:α->Bool) (q:α->D) (xs:List α) (h:mi ρ=.ok (xs.map A)) (hl:xs.length<=1000)
  (ht:∀x∈xs,t (cEnv ρ js (A x))=.ok (p x)) (hf:∀x∈xs,p x=true->me (cEnv ρ js (A x))=.ok (q x)):eComp mi t me js ρ=.ok (.list ((xs.filter p).map q)):=by
 rw[yJ3,h,Res.bind_ok,yI5 (by rw[List.length_map];exact hl),zU6 A p q xs ht hf]
 rfl
theorem yF {mi:Ev->Res (List D)}{me:Ev->Res D}{js:List Nat}{ρ:Ev}{α:Type}(A:α->D) (q:α->D) (xs:List α) (h:mi ρ=.ok (xs.map A)) (hl:xs.length<=1000)
  (hf:∀x∈xs,me (cEnv ρ js (A x))=.ok (q x)):eComp mi tYes me js ρ=.ok (.list (xs.map q)):=by
 rw[gE A (fun _=>true) q xs h hl (fun _ _=>rfl) (fun x hx _=>hf x hx),List.filter_eq_self.mpr fun _ _=>rfl]
end L2.L3
namespace L2.L3
theorem yL8 {α:Type}(a:α) (l:List α):atI (a::l) 0=some a:=jF (j:=0) rfl
end L2.L3
namespace HT
open PySem PySem.Spec PyProof.Rows
section
variable {prog:Program}{w:World}{A:Around}{E:Value->Shared->Prop}{s:Shared}
theorem cH {t sl:Addr}{items:Array Value}{vl vu:Value}{lo hi:Option Int}{Q:Value->Shared->Prop}(ht:IsTup s.heap t items) (hs:s.heap.IsSliceOf sl vl vu .none) (pl:IsPart vl lo) (pu:IsPart vu hi)
  (hw:sIx items.size 0 lo=0/\sIx items.size items.size hi=items.size) (h:Q (.ref t) s):wpAny (model prog w) A (getItem (.ref t) (.ref sl)) Q E s:=by
 obtain⟨os,hos,hcs,hds⟩:=id hs
 have hTs:s.TypeIs (.ref sl) "slice":=⟨os,hos,hcs⟩
 unfold getItem
 try with_reducible refine wpAny_holding ?_
 first | refine wpAny_bind (wpAny_pure ?_) | skip
 refine wpAny_bind (wpAny_sequenceKey ht.typeIs (by decide) ?_)
 refine wpAny_bind (wpAny_callSpecial?_slot (name:=Str.ofString "__getitem__") ht.typeIs PyProof.Rows.slot_tuple_getitem
  (wpAny_call_entry PyProof.Rows.slot_tuple_getitem ht.typeIs entry_tuple_getitem ?_ (args_tuple_getitem _ _)))
 show wpAny _ _ (Builtin.Tuple.tupleItemsOf (.ref t) >>= _) _ _ s
 refine wpAny_bind (tupleItemsOf_ ht ?_)
 refine wpAny_bind (wpAny_typeOf hTs ?_)
 rw[if_pos (by decide)]
 refine wpAny_bind (kY hs pl pu ?_)
 have hyes:(((sIx items.size 0 lo:Nat):Int) == 0&&(1:Int) == 1&&(sIx items.size items.size hi-sIx items.size 0 lo) == items.size)=true:=by
  rw[hw.1,hw.2]
  simp
 show wpAny _ _ (if (((sIx items.size 0 lo:Nat):Int) == 0&&(1:Int) == 1&&(sIx items.size items.size hi-sIx items.size 0 lo) == items.size)=true then _ else _) _ _ s
 rw[if_pos hyes]
 unfold Builtin.Tuple.tupleIsExact
 refine wpAny_bind (wpAny_bind (wpAny_typeOf ht.typeIs (wpAny_pure ?_)))
 rw[if_pos (by decide)]
 refine wpAny_bind (wpAny_rule ?_)
 exact wpAny_pure ⟨_,rfl,wpAny_pure h⟩
end
end HT
namespace L2.L3
open PySem PySem.Spec PyProof.Rows
variable [CN]
section
variable {X:Cx}
def rSlTA (K:KFr):V->Option Int->Option Int->Hp->VK->Prop:=fun x lo hi H Q=>∃a xs,x=.ref a/\SqT K H a xs/\HT.sIx xs.length 0 lo=0/\HT.sIx xs.length xs.length hi=xs.length/\Q (.ref a) H
theorem yD1:SlR X (rSlTA X.K):=by
 intro pins s σ H x v vl vu lo hi sl Q I rx hs pl pu h
 obtain⟨a,xs,rfl,hx,hw1,hw2,q⟩:=h
 cases rx
 obtain⟨its,r,ht,hz⟩:=I.tuple hx
 have hlen:its.toArray.size=xs.length:=by rw[List.size_toArray];exact r.length.symm
 refine⟨"tuple",_,PyProof.Rows.slot_tuple_getitem.lookup,ht.typeIs,?_⟩
 exact HT.cH ht hs pl pu (by rw[hlen];exact⟨hw1,hw2⟩) ⟨.ref a,H,I,rfl,q⟩
end
def RO (C:Ct) (e:Option Expr) (m:Ev->Res (Option Int)):Prop :=
 ∃t,PO C.X e t/\∀(Oc:Wd) (Ob:Addr->Prop) (σ:St) (H:Hp) (ρ:Ev) (Q:Option Int->Hp->Prop),Rel Oc Ob C.om C.ln σ H ρ ->
  (m ρ).post (fun d=>∀H',Same H H'->Q d H') (fun c=>∀H',Same H H'->C.XE c H')->t σ H Q
def oN:Ev->Res (Option Int):=fun _=>.ok none
def isI:D->Option Int
 | .int i=>some i
 | _=>none
def oS (m:Ev->Res D):Ev->Res (Option Int):=fun ρ=>(m ρ).bind fun d=>(Res.lft (isI d)).bind fun i=>.ok (some i)
theorem yF1 {C:Ct}:RO C none oN:=⟨_,yC7,fun Oc Ob σ H ρ Q R h=>h H (Same.refl H)⟩
theorem gR {C:Ct}{e:Expr}{md:Md}{me:Ev->Res D}(h:RE C md e me):RO C (some e) (oS me):=by
 obtain⟨t,p,q⟩:=h
 refine⟨_,yH1 p,fun Oc Ob σ H ρ Q R h=>q Oc Ob σ H ρ _ R (Res.zR (Res.zU h) (fun d _ k v H' s r => ?_) fun _ z=>z)⟩
 obtain⟨i,e,k⟩:=Res.zF (Res.zU k)
 cases d with
 | int j=>cases e;exact⟨i,(r.va R.oh).int,k H' s⟩
 | _=>cases e
def eS (f:D->Option Int->Option Int->Option D) (m:Ev->Res D) (lo hi:Ev->Res (Option Int)):Ev->Res D:=fun ρ=>(m ρ).bind fun x=>(lo ρ).bind fun l=>(hi ρ).bind fun u=>Res.lft (f x l u)
def PrS (r:V->Option Int->Option Int->Hp->VK->Prop) (md:Md) (f:D->Option Int->Option Int->Option D):Prop :=
 ∀(Oc:Wd) (Ob:Addr->Prop) (H:Hp) (x:V) (dx:D) (lo hi:Option Int) (d:D) (Q:VK),(∀a,Oc a\/Ob a->H a≠none)->VA Oc Ob H x dx->f dx lo hi=some d->(∀v H',Same H H'->VR md Oc Ob H H' v d->Q v H')->r x lo hi H Q
theorem bO {C:Ct}{e:Expr}{lo hi:Option Expr}{md mda:Md}{me:Ev->Res D}{ml mh:Ev->Res (Option Int)}{p2 pos:Pos}{r:V->Option Int->Option Int->Hp->VK->Prop}{f:D->Option Int->Option Int->Option D}(hr:SlR C.X r) (hp:PrS r md f) (he:RE C mda e me) (hl:RO C lo ml) (hu:RO C hi mh) :
  RE C md (.Subscript e (.Slice lo hi none p2) pos) (eS f me ml mh):=by
 obtain⟨t,p,q⟩:=he
 obtain⟨tl,pl,ql⟩:=hl
 obtain⟨th,ph,qh⟩:=hu
 refine⟨_,yK2 hr p pl ph,fun Oc Ob σ H ρ Q R h=>q Oc Ob σ H ρ _ R (Res.zR (Res.zU h) (fun d _ k v H1 s1 r => ?_) fun _ z=>z)⟩
 refine ql Oc Ob σ H1 ρ _ (R.same s1) (Res.zR (Res.zU k) (fun l _ k H2 s2 => ?_) fun c z H' s'=>z H' (s1.trans s'))
 refine qh Oc Ob σ H2 ρ _ ((R.same s1).same s2) (Res.zR (Res.zU k) (fun u _ k H3 s3 => ?_) fun c z H' s'=>z H' ((s1.trans s2).trans s'))
 obtain⟨d',e,k⟩:=Res.zF k
 have R3:=((R.same s1).same s2).same s3
 refine hp Oc Ob H3 v d l u d' Q R3.oh ((r.va R.oh).same (s2.trans s3)) e fun w H' s4 rw' => ?_
 exact k w H' (((s1.trans s2).trans s3).trans s4) (rw'.from ((s1.trans s2).trans s3))
def cutD {α:Type}(xs:List α) (lo hi:Option Int):List α:=(xs.drop (HT.sIx xs.length 0 lo)).take (HT.sIx xs.length xs.length hi-HT.sIx xs.length 0 lo)
theorem cY {H:Hp}{O:Addr->Prop}{vs:List V}{ds:List D}(r:Reps H O vs ds) (lo hi:Option Int):Reps H O (cutV vs lo hi) (cutD ds lo hi):=by
 unfold cutV cutD
 rw[r.length]
 exact (r.drop _).take _
def slL:D->Option Int->Option Int->Option D
 | .list ds,lo,hi=>some (.list (cutD ds lo hi))
 | _,_,_=>none
def slD:D->Option Int->Option Int->Option D
 | .list ds,lo,hi=>some (.list (cutD ds lo hi))
 | .tuple ds,lo,hi=>some (.tuple (cutD ds lo hi))
 | _,_,_=>none
theorem yH2 {K:KFr}:PrS (rSlL K) .new slL:=by
 intro Oc Ob H x dx lo hi d Q oh va e k
 cases dx with
 | list ds =>
  cases e
  obtain⟨a,ys,rfl,rd,rs⟩:=va.list
  exact⟨a,ys,rfl,.inl rd,fun p hp=>k _ _ (Same.new hp) (xB (Same.refl H) hp (cY rs lo hi))⟩
 | _=>cases e
theorem yD8 {α:Type}{xs:List α}{lo hi:Option Int}(h1:HT.sIx xs.length 0 lo=0) (h2:HT.sIx xs.length xs.length hi=xs.length):cutD xs lo hi=xs:=by
 unfold cutD
 rw[h1,h2,List.drop_zero,Nat.sub_zero,List.take_length]
theorem xW1 {K:KFr}:PrS (fun x lo hi H Q=>rSlL K x lo hi H Q\/rSlT K x lo hi H Q\/rSlTA K x lo hi H Q) .cl slD:=by
 intro Oc Ob H x dx lo hi d Q oh va e k
 cases dx with
 | list ds =>
  cases e
  obtain⟨a,ys,rfl,rd,rs⟩:=va.list
  exact .inl ⟨a,ys,rfl,.inl rd,fun p hp=>k _ _ (Same.new hp) (VR.clean (xB (Same.refl H) hp (cY rs lo hi)) oh)⟩
 | tuple ds =>
  cases e
  rcases va with va | ⟨_,_,_,_,ez,_⟩
  ·cases va with
   | @tup a ys _ rd n rs =>
    by_cases hw:HT.sIx ys.length 0 lo=0/\HT.sIx ys.length ys.length hi=ys.length
    ·refine .inr (.inr ⟨a,ys,rfl,.inl rd,hw.1,hw.2,k _ H (Same.refl H) ?_⟩)
     rw[yD8 (by rw[<-rs.length];exact hw.1) (by rw[<-rs.length];exact hw.2)]
     exact .tup rd n rs
    ·exact .inr (.inl ⟨a,ys,rfl,.inl rd,hw,fun p hp=>k _ _ (Same.new hp) (cL oh hp (cY rs lo hi))⟩)
  ·cases ez
 | _=>cases e
theorem yP1 {C:Ct}{e:Expr}{lo hi:Option Expr}{mda:Md}{me:Ev->Res D}{ml mh:Ev->Res (Option Int)}{p2 pos:Pos}(he:RE C mda e me) (hl:RO C lo ml) (hu:RO C hi mh):RE C .new (.Subscript e (.Slice lo hi none p2) pos) (eS slL me ml mh):=bO zG6 yH2 he hl hu
theorem yR8 {C:Ct}{e:Expr}{lo hi:Option Expr}{mda:Md}{me:Ev->Res D}{ml mh:Ev->Res (Option Int)}{p2 pos:Pos}(he:RE C mda e me) (hl:RO C lo ml) (hu:RO C hi mh):RE C .cl (.Subscript e (.Slice lo hi none p2) pos) (eS slD me ml mh):=bO (zG6.or (xV1.or yD1)) xW1 he hl hu
theorem aG {C:Ct}{fr:Bool}(i:Nat){x:Str}{a:Expr}{md:Md}{ma:Ev->Res D}{p' apos cpos pos:Pos}(ha:RE C md a ma)
  (hN:autoParam (C.X.N[i]?=some x) zW._auto_1) (ho:autoParam (C.om.contains i=true) zW._auto_1) (hv:autoParam (Vis C.X.env.scope x) kO._auto_1) (hd:autoParam ((x == ("__debug__":Str))=false) zG._auto_1) (hcd:autoParam ((x == ("__classdict__":Str))=false) zG._auto_1)
  (hbase:autoParam (attributeBase (.Name x p') "extend" C.X.env (eval (.Name x p') C.X.env)=eval (.Name x p') C.X.env) zW._auto_1)
  (hfew:((backTo cpos (starEach [a] C.X.env)).all (fun x=>!x.1)&&(backToKw cpos (keywordEach [] C.X.env)).all (fun x=>x.1.isSome)
  &&decide ([a].length+([]:List Keyword).length+(if ([]:List Keyword).isEmpty then 0 else 1)<30))=true:=by rfl)
  (hline:autoParam ((apos.endLine == cpos.line)=true) zW._auto_1) (hs:autoParam (starEach [a] C.X.env=(false,eval a C.X.env)::starEach [] C.X.env) zW._auto_1) (hplain:autoParam ((backTo cpos (starEach [] C.X.env)).any (·.1)=false) zW._auto_1)
  (hsw:autoParam (swapsWith (.Call (.Attribute (.Name x p') "extend" apos) [a] [] cpos) none pos.line C.X.env=pure false) zW._auto_1) :
  RS C fr (.Expr (.Call (.Attribute (.Name x p') "extend" apos) [a] [] cpos) pos) (sM i extD (aC ma aN)):=by
 obtain⟨t,p,q⟩:=ha
 refine⟨_,gI (zY1 PySem.F.plainAttrs_list PySem.F.slot_list_extend PySem.F.type_list_extend yG5 (kW hN hv hd hcd) (wZ p wH hs) hbase hfew hline hs hplain) hsw,fun Oc Ob σ H ρ E R h => ?_⟩
 obtain⟨d,ed,k⟩:=jH (Res.zU h)
 obtain⟨xd,ex,k⟩:=Res.zF (Res.zU k)
 obtain rfl:=kK ex
 obtain⟨v,qv,l,ys,ds,rfl,e2,e3,e4,e5⟩:=R.own i _ ed (uA ho)
 cases e2
 refine⟨_,qv,.inl ⟨rfl,_,SqL.of e3⟩,q Oc Ob σ H ρ _ R (Res.zR (Res.zU (Res.zU k)) (fun ad _ k w H' s r' => ?_) fun c z H' s=>z H' (Same.frm s))⟩
 obtain⟨ds',eg,k⟩:=Res.zF (Res.zU (show ((Res.lft (extD xd [ad])).bind fun ds=>Res.ok (Out.nx (ρ.set i (some (.list ds))))).post _ _ from k))
 obtain⟨zs,e1,eg⟩:=Option.bind_eq_some_iff.mp (show (seqD ad).bind (fun ys=>if xd.length+ys.length<=sizeLine then some (xd++ys) else none)=some ds' from eg)
 split at eg
 ·rename_i hl
  cases eg
  have va:=r'.va R.oh
  have fin:∀(b:Addr) (ws:List V),(Rd H' b (.lst ws)\/Rd H' b (.tup ws))->Reps H' (Uni Oc Ob) ws zs->rExtR (.ref l) [.ref b] H' fun _ H1=>E.nx σ H1:=fun b ws rd rs=>by
   refine⟨l,b,ys,ws,rfl,rfl,s _ _ e3,rd,by rw[e5.length,rs.length];exact hl,?_⟩
   refine k _ _ Ob ((R.same s).write (uA ho) ed qv (s _ _ e3) e4 ((e5.same s).append rs)) (fun b o e n => ?_) fun b z=>.inl z
   rw[zN (fun z=>n (by subst z;exact e4))]
   exact s b o e
  cases ad with
  | list ds' =>
   cases e1
   obtain⟨b,ws,rfl,rd,rs⟩:=va.list
   exact fin b ws (.inl rd) rs
  | tuple ds' =>
   cases e1
   obtain⟨b,ws,rfl,rd,rs⟩:=va.tuple
   exact fin b ws (.inr rd) rs
  | _=>cases e1
 ·cases eg
section
variable (a:Ev->Res D) (l h:Ev->Res (Option Int)) (ρ:Ev) (f:D->Option Int->Option Int->Option D)
theorem xQ5:eS f a l h ρ=(a ρ).bind fun x=>(l ρ).bind fun lo=>(h ρ).bind fun u=>Res.lft (f x lo u):=rfl
theorem xQ4:oN ρ=.ok none:=rfl
theorem xR5:oS a ρ=(a ρ).bind fun d=>(Res.lft (isI d)).bind fun i=>.ok (some i):=rfl
theorem xZ4 (i:Int):isI (.int i)=some i:=rfl
theorem xS5 (ds:List D) (lo hi:Option Int):slL (.list ds) lo hi=some (.list (cutD ds lo hi)):=rfl
theorem xR6 (ds:List D) (lo hi:Option Int):slD (.list ds) lo hi=some (.list (cutD ds lo hi)):=rfl
theorem xP4 (ds:List D) (lo hi:Option Int):slD (.tuple ds) lo hi=some (.tuple (cutD ds lo hi)):=rfl
end
theorem yL7 {α β:Type}(g:α->β) (xs:List α) (lo hi:Option Int):cutD (xs.map g) lo hi=(cutD xs lo hi).map g:=by
 unfold cutD
 rw[List.length_map,List.map_take,List.map_drop]
theorem yJ2 {α:Type}(xs:List α) (k:Nat):cutD xs (some (k:Int)) none=xs.drop k:=by
 unfold cutD
 rw[HT.yO2,HT.zV2]
 by_cases h:k<=xs.length
 ·rw[Nat.min_eq_left h,List.take_of_length_le (by rw[List.length_drop];bv_omega)]
 ·rw[Nat.min_eq_right (by bv_omega),List.drop_eq_nil_of_le (show xs.length<=k by bv_omega)]
  simp
end L2.L3
namespace L2.L3
open PySem
theorem yB5 {ns:List Int}(h:ns ≠ []):max1D [tI ns]=some (.int (maxL ns)):=by
 unfold max1D
 simp only[nsD,seqD,Option.bind_some,intsOf_map]
 rw[if_neg h]
theorem yE8 {ns:List Int}(h:ns ≠ []):max1D [lI ns]=some (.int (maxL ns)):=by
 unfold max1D
 simp only[nsD,seqD,Option.bind_some,intsOf_map]
 rw[if_neg h]
theorem cN {α β:Type}{g:D->Ev->Option Ev}{b:Ev->Res Out}{ds:List D}{ρ:Ev}{k:Out->Res α}{k':α->Res β}{R:Res β}(P:Nat->Ev->Prop) (h0:P 0 ρ) (hs:∀(i:Nat) d ρ,ds[i]?=some d->P i ρ->∃ρ1 ρ2,g d ρ=some ρ1/\b ρ1=.ok (.nx ρ2)/\P (i+1) ρ2)
  (hd:∀ρ',P ds.length ρ'->(k (.nx ρ')).bind k'=R):((forM g b ds ρ).bind k).bind k'=R:=by
 obtain⟨ρ',e,p⟩:=wD P ds ρ h0 hs
 rw[e,Res.bind_ok]
 exact hd ρ' p
end L2.L3
namespace L2
open PySem PySem.Spec PyProof.Rows
theorem yE7 {X:Cx}{elt iter:Expr}{ifs:List Expr}{sc0 scope:Scope}{N0:List Str}{px py pos spos:Pos}{xt y:Str}{fs:List Str}{js:List Nat}{i:Nat}{wi:TI}{tt:Addr->List Addr->Shared->Hp->TT}{te:Addr->List Addr->Shared->Hp->TE}(S:CompScope sc0 scope N0 xt fs js) (h0:X.env.scope=sc0) (hN0:X.N=N0) (hc:X.calm=true)
  (hi:PI X (.Name xt px) iter wi) (ht:∀C fp s₂ H,PTs (cxComp X (xt::fs) scope C fp s₂ H) ifs (tt C fp s₂ H)) (he:∀C fp s₂ H,PE (cxComp X (xt::fs) scope C fp s₂ H) elt (te C fp s₂ H))
  (nd:X.N.Nodup) (hy:X.N[i]?=some y) (hl:Loc X.env.scope y) (hsw:swapsWith (.ListComp elt [⟨.Name xt px,iter,ifs,0⟩] scope pos) (some (.Name y py)) spos.line X.env=pure true)
  (hs:autoParam (∀x,foldedSetIterable iter X.env x=pure x) qR._auto_1) (hf:autoParam (X.fn y=true\/X.env.scope.names.lookup y=some .local) cT._auto_1) :
  PS X (.Assign [.Name y py] (.ListComp elt [⟨.Name xt px,iter,ifs,0⟩] scope pos) spos) (tAsg (tComp wi tt te js) (gName i)):=by
 intro pins s σ H E I h
 rw[exec_Assign_Name_used _ _ _ _ hsw]
 refine wpAny_bind (wpAny_standAt (wpAny_bind ?_))
 show wpAny _ X.A (do let _ <-comprehension (.ListComp elt [⟨.Name xt px,iter,ifs,0⟩] scope pos) scope X.env _ (newList []) false (eval iter X.env) (some (assign (.Name y py) X.env))) _ _ s
 refine wpAny_bind (thn (zV9 S h0 hN0 hc hi ht he hs (use:=some (assign (.Name y py) X.env)) (Qv:=fun _ s'=>SP X pins E .next s') I h fun s' C D Ha fl hI hns hC q => ?_) fun _ s' hq=>wpAny_pure (wpAny_pure hq))
 show wpAny (model X.prog X.w) X.A (assign (.Name y py) X.env (.ref D)) (fun _ s''=>∃m,s''.heap.Ns C m/\∀h',Heap.SameBut C s''.heap h'->SP X pins E .next { s'' with heap:=h' }) X.xe s'
 obtain⟨m,oC,es,ep,hgC,hdC,hrC⟩:=hns
 have I1:Inv X pins σ Ha s':=hI s'.heap ⟨rfl,fun b _=>rfl⟩
 have I2:Inv X (pins ++ [(C,oC)]) σ Ha s':=I1.qP fun p hp=>by
  rcases List.mem_append.mp hp with z | z
  ·exact I1.pin p (List.mem_append_right _ z)
  ·have:p=(C,oC):=by simpa using z
   subst this
   exact⟨hgC,hC.1,hC.2.1,hC.2.2.1,fun v z=>by rw[hdC] at z;cases z⟩
 refine wpAny_assign_Name (bQ I2 nd hy hl (show RelV (.ref D) (.ref D) from rfl) (fun s'' I3 => ?_) hf)
 have hgC':=(I3.pin (C,oC) (List.mem_append_right _ (List.mem_append_right _ List.mem_cons_self))).1
 refine⟨m,⟨oC,es,ep,hgC',hdC,hrC⟩,fun h' hsb => ?_⟩
 have I4:Inv X pins (σ.set i (some (.ref D))) Ha s'':=I3.qP fun p hp=>I3.pin p (List.mem_append_right _ (List.mem_append_left _ hp))
 exact⟨_,Ha,Inv.turned (it:=C) (t':=s''.toks) I4 (fun b o hb e=>(hsb.2 b hb).trans e) hC.1 hC.2.1 hC.2.2.2.1 hC.2.2.2.2.1 hC.2.2.2.2.2,q⟩
end L2
namespace L2.L3
open PySem PySem.Spec PyProof.Rows
variable [CN]
theorem zW1 {C:Ct}{fr:Bool}(i:Nat){elt iter:Expr}{ifs:List Expr}{sc0 scope:Scope}{N0:List Str}{px py pos spos:Pos}{xt y:Str}{fs:List Str}{js:List Nat}{mi:Ev->Res (List D)}{mt:Ev->Res Bool}{me:Ev->Res D}(nd:C.X.N.Nodup) (S:CompScope sc0 scope N0 xt fs js) (h0:C.X.env.scope=sc0) (hN0:C.X.N=N0) (hc:C.X.calm=true)
  (hi:RIc C (.Name xt px) iter mi) (ht:∀A fp s₂ H,RTs (cC C (xt::fs) scope A fp s₂ H js) ifs mt) (he:∀A fp s₂ H,RE (cC C (xt::fs) scope A fp s₂ H js) .cl elt me)
  (hy:autoParam (C.X.N[i]?=some y) zW._auto_1) (ho:autoParam (C.om.contains i=false) zW._auto_1) (hln:autoParam (C.ln.contains i=false) zW._auto_1) (hl:autoParam (Loc C.X.env.scope y) cJ._auto_1)
  (hsw:autoParam (swapsWith (.ListComp elt [⟨.Name xt px,iter,ifs,0⟩] scope pos) (some (.Name y py)) spos.line C.X.env=pure true) zW._auto_1) (hs:autoParam (∀x,foldedSetIterable iter C.X.env x=pure x) qR._auto_1) (hf:autoParam (C.X.fn y=true\/C.X.env.scope.names.lookup y=some .local) autoK12._auto_1) :
  RS C fr (.Assign [.Name y py] (.ListComp elt [⟨.Name xt px,iter,ifs,0⟩] scope pos) spos) (sS i (eComp mi mt me js)):=by
 obtain⟨wi,pi,qi⟩:=hi
 refine⟨_,yE7 (tt:=fun A fp s H=>Classical.choose (ht A fp s H)) (te:=fun A fp s H=>Classical.choose (he A fp s H)) S h0 hN0 hc pi (fun A fp s H=>(Classical.choose_spec (ht A fp s H)).1) (fun A fp s H=>(Classical.choose_spec (he A fp s H)).1) nd hy hl hsw hs hf,fun Oc Ob σ H ρ E R h => ?_⟩
 refine zT5 qi ht he R (Res.zR (Res.zU h) (fun d _ k v H' s r => ?_) fun c z H' s=>z H' (Same.frm s))
 exact k _ H' Ob ((R.same s).set (xI ho) (xI hln) (VR.clean r R.oh)) (Same.frm s) fun b z=>.inl z
end L2.L3
namespace L2
open PySem PySem.Spec PyProof.Rows
def pick3 {α:Type}(xs:List α) (l u k:Option Int):List α:=(sliceRange (sliceBounds l u k xs.length).1 (sliceBounds l u k xs.length).2.1 (sliceBounds l u k xs.length).2.2).filterMap (xs[·]?)
end L2
namespace L2.L3
open PySem PySem.Spec PyProof.Rows
variable [CN]
def eS3 (m:Ev->Res D) (lo hi st:Ev->Res (Option Int)):Ev->Res D:=fun ρ=>(m ρ).bind fun x=>(lo ρ).bind fun l=>(hi ρ).bind fun u=>(st ρ).bind fun k=>(Res.lft (lstD x)).bind fun ds=>if k≠some 0 then .ok (.list (pick3 ds l u k)) else .no
theorem xU4 (a:Ev->Res D) (l h st:Ev->Res (Option Int)) (ρ:Ev):eS3 a l h st ρ=(a ρ).bind fun x=>(l ρ).bind fun l=>(h ρ).bind fun u=>(st ρ).bind fun k=>(Res.lft (lstD x)).bind fun ds=>if k≠some 0 then .ok (.list (pick3 ds l u k)) else .no:=rfl
end L2.L3
namespace L2.L3
open PySem
theorem zZ6 {xs:List Int}{i:Int}{j:Nat}(e:i=(j:Int)) (h:j<xs.length):atI (xs.map PyData.int) i=some (.int (xs.getD j 0)):=by
 rw[e,gG,fQ h]
 rfl
theorem zH5 {xs:List Int}{n:Nat}(h:xs.length=n+1):atI (xs.map PyData.int) (-1)=some (.int (xs.getD n 0)):=by
 rw[gG]
 unfold atI ixN
 rw[h,if_neg (by decide),if_pos (by bv_omega)]
 show (xs[((-1:Int)+((n+1:Nat):Int)).toNat]?).map _=_
 rw[show ((-1:Int)+((n+1:Nat):Int)).toNat=n by bv_omega,List.getElem?_eq_getElem (by bv_omega),List.getD_eq_getElem?_getD,List.getElem?_eq_getElem (by bv_omega)]
 rfl
theorem yC9 {xs ys:List Int}(h:xs.length+ys.length<=1000):catL (lI xs) (lI ys)=some (lI (xs++ys)):=by
 unfold catL
 simp only
 rw[List.length_map,List.length_map,if_pos (Nat.le_of_lt (small1000 h))]
 simp only[lI,List.map_append]
theorem yG7 (xs:List Int):sumD [lI xs]=some (.int xs.sum):=by
 unfold sumD
 simp only[intsOf_map,Option.map_some]
end L2.L3
namespace L2.L3
open PySem
variable [CN]
section
variable {X:Cx}
end
section
variable {X:Cx}
end
end L2.L3
namespace L2.L3
open PySem PyProof.Rows
variable [CN]
section
variable {X:Cx}
end
section
variable {X:Cx}
end
section
variable {C:Ct}{fr:Bool}{md:Md}{e:Expr}{me:Ev->Res D}{pos:Pos}
def atP (xd:List D):D->Option D
 | .int j=>if 0<=j then atI xd j else none
 | _=>none
def sJ0 (i:Nat) (mk:Ev->Res D) (f:D->D->Option D) (me:Ev->Res D):Ev->Res Out:=fun ρ=>(eV i ρ).bind fun d=>(Res.lft (lstD d)).bind fun xd=>(mk ρ).bind fun k=>(Res.lft (atP xd k)).bind fun old=>(me ρ).bind fun v=>(Res.lft (f old v)).bind fun w=>(Res.lft (setD xd k w)).bind fun ds=>.ok (.nx (ρ.set i (some (.list ds))))
theorem xZ8 (i:Nat) (mk:Ev->Res D) (f:D->D->Option D) (me:Ev->Res D) (ρ:Ev):sJ0 i mk f me ρ=(eV i ρ).bind fun d=>(Res.lft (lstD d)).bind fun xd=>(mk ρ).bind fun k=>(Res.lft (atP xd k)).bind fun old=>(me ρ).bind fun v=>(Res.lft (f old v)).bind fun w=>(Res.lft (setD xd k w)).bind fun ds=>.ok (.nx (ρ.set i (some (.list ds)))):=rfl
end
section
variable {X:Cx}{pins:List (Addr×Obj)}{σ:St}{H:Hp}{s:Shared}{h':Heap}
end
end L2.L3
namespace PySem
section
variable {prog:Program}{w:World}{A:Around}{E:Value->Shared->Prop}{s:Shared}
end
end PySem
namespace L2.L3
open PySem PyProof.Rows
variable [CN]
def WalksO (Oc:Wd) (Ob:Addr->Prop) (J:It) (H1:Hp) (ds:List D):Prop :=
 ∀(H2:Hp) (Ob2:Addr->Prop),Frm Ob H1 H2->(∀b,Ob2 b->Ob b\/H1 b=none)->(∀a,Oc a\/Ob2 a->H2 a≠none)->∀i,(∀d,ds[i]?=some d->J.go i H2/\∀x H3,J.yld i H2 x H3->Same H2 H3/\Rep H3 (Uni Oc Ob2) x d)/\(ds.length<=i->J.stop i H2)
def RIo (C:Ct) (tg iter:Expr) (m:Ev->Res (List D)):Prop :=
 ∃wi,PI C.X tg iter wi/\∀(Oc:Wd) (Ob:Addr->Prop) (σ:St) (H:Hp) (ρ:Ev) (R:It->Hp->Prop),Rel Oc Ob C.om C.ln σ H ρ ->
  (m ρ).post (fun ds=>∀J H1,Same H H1->WalksO Oc Ob J H1 ds->R J H1) (fun c=>∀H',Same H H'->C.XE c H')->wi σ H R
section
variable {C:Ct}{fr:Bool}{body:List Stmt}{m:Ev->Res Out}{mi:Ev->Res (List D)}{g:D->Ev->Option Ev}{pos:Pos}
def enumD (ds:List D):List D:=(List.range ds.length).map fun (i:Nat)=>PyData.tuple [.int (i:Int),ds.getD i .none]
def zI2 (m:Ev->Res D):Ev->Res (List D):=fun ρ=>(m ρ).bind fun d=>(Res.lft (seqD d)).bind fun ds=>.ok (enumD ds)
end
theorem zW6 (m:Ev->Res D) (ρ:Ev):zI2 m ρ=(m ρ).bind fun d=>(Res.lft (seqD d)).bind fun ds=>.ok (enumD ds):=rfl
end L2.L3
namespace PySem
section
variable {prog:Program}{w:World}{A:Around}{E:Value->Shared->Prop}{s:Shared}
end
end PySem
namespace L2.L3
open PySem PySem.Spec PyProof.Rows
variable [CN]
def sA (me:Ev->Res D) (g:D->Ev->Option Ev):Ev->Res Out:=fun ρ=>(me ρ).bind fun d=>(Res.lft (g d ρ)).bind fun ρ'=>.ok (.nx ρ')
theorem xR3 (me:Ev->Res D) (g:D->Ev->Option Ev) (ρ:Ev):sA me g ρ=(me ρ).bind fun d=>(Res.lft (g d ρ)).bind fun ρ'=>.ok (.nx ρ'):=rfl
theorem zE5 {C:Ct}{fr:Bool}{e tg:Expr}{pos:Pos}{me:Ev->Res D}{g:D->Ev->Option Ev}(he:RE C .cl e me) (hg:RG C tg g) (hs:autoParam (swapsWithSole [tg] e pos.line C.X.env=pure false) zW._auto_1) (hw:autoParam (swappedStores [tg] e C.X.env=pure none) zW._auto_1)
  (h1:autoParam ((assignEach [tg] C.X.env).map (·.2)=[assign tg C.X.env]) zW._auto_1):RS C fr (.Assign [tg] e pos) (sA me g):=xZ6 he hg hs hw h1
def absD:List D->Option D
 | [.int i]=>some (.int (if i<0 then -i else i))
 | _=>none
theorem cP {Oc:Wd}{Ob:Addr->Prop}{H:Hp}{vs:List V}{d:D}(r:VAs Oc Ob H vs [d]):∃v,vs=[v]/\VA Oc Ob H v d:=by
 cases r with
 | cons h t=>cases t;exact⟨_,rfl,h⟩
theorem xV4:PrC (fun xs H Q=>∃i,xs=[.int i]/\Q (.int (if i<0 then -i else i)) H) .cl absD:=by
 intro Oc Ob H vs ds d Q oh r e k
 unfold absD at e
 split at e
 ·cases e
  obtain⟨v,rfl,h⟩:=cP r
  exact⟨_,by rw[h.int],k _ H (Same.refl H) (Rep.int _)⟩
 ·cases e
section
variable {X:Cx}
end
def eM1 (f:List D->D->Option D) (mo ma:Ev->Res D):Ev->Res D:=fun ρ=>(mo ρ).bind fun x=>(Res.lft (lstD x)).bind fun ds=>(ma ρ).bind fun y=>Res.lft (f ds y)
theorem xT7 (f:List D->D->Option D) (mo ma:Ev->Res D) (ρ:Ev):eM1 f mo ma ρ=(mo ρ).bind fun x=>(Res.lft (lstD x)).bind fun ds=>(ma ρ).bind fun y=>Res.lft (f ds y):=rfl
def Its (lo st:Int) (n:Nat):It:=⟨fun i _=>i<n,fun i H x H'=>H'=H/\x=.int (lo+(i:Int)*st),fun i _=>n<=i⟩
theorem yS4 {P:Program}{w:World}{K:KFr}{tg:Expr}(it:Addr) (lo st:Int) (n:Nat):Turn P w K tg (Its lo st n) [it] it (fun i h=>IsRangeIter h it (lo+(i:Nat)*st) ((n:Int)-(i:Nat)) st) where
 mem:=by simp
 obj:=fun i h hs b hb=>by
  have e:b=it:=by simpa using hb
  subst e
  exact⟨_,hs,fun v z=>by
   have z':Data.fields _=Data.cell v:=z
   cases z'⟩
 keep:=fun i h h' hs k=>k it (by simp) _ hs
 item:=by
  intro X hP hw hK hc i pins s σ H E I hf hs hg
  subst hP hw hK
  obtain⟨f0,f1,f2,f3,f4,f5⟩:=hf it (by simp)
  have W:=Walks.range (prog:=X.prog) (w:=X.w) (I.ok.hd hc) it lo st n
  refine W.item i s _ _ hg hs fun v h' tk hv hs' kk => ?_
  obtain⟨t,rfl⟩:=hv
  have I1:Inv X pins σ H { s with heap:=h',toks:=tk }:=I.turned (fun b o hb e=>kk b o (by simpa using hb) e) f0 f1 f3 f4 f5
  exact⟨_,rfl,zO2 (s:={ s with heap:=h',toks:=tk }) (n:="range_iterator") hs' rfl rfl (by decide) ⟨.int (lo+(i:Int)*st),H,I1,⟨t,rfl⟩,⟨rfl,rfl⟩,hs',fun b hb=>(hf b hb).1⟩⟩
 done:=by
  intro X hP hw hK hc i pins s σ H E I hf hs hg
  subst hP hw hK
  obtain⟨f0,f1,f2,f3,f4,f5⟩:=hf it (by simp)
  exact wpAny_pyNext_range_end (I.ok.hd hc) hs (by have:n<=i:=hg;bv_omega) fun h' eb=>⟨rfl,I.turned (t':=s.toks) (fun b o hb e=>eb b o hb e) f0 f1 f3 f4 f5⟩
 self:=fun _ _ _ _ _ hs h=>wpAny_pyIter_rangeiter hs h
def StepOk (i j k:Int):Prop:=k≠0/\k.natAbs.log2<9000/\Builtin.Range.small i j k=true/\0<=Builtin.Range.rangeSize i j k
instance (i j k:Int):Decidable (StepOk i j k):=by unfold StepOk;infer_instance
def iRng3 (ta:TA):TI:=fun σ H R=>ta σ H fun vs H1=>∃i j k:Int,vs=[.int i,.int j,.int k]/\StepOk i j k/\R (Its i k (Builtin.Range.rangeSize i j k).toNat) H1
theorem yP5 {X:Cx}{tg a b c:Expr}{ta:TA}{p pos:Pos}(hg:Gl X "range") (hm:X.mg "range" = none) (ha:PA X [a,b,c] ta) (hs:autoParam (starEach [a,b,c] X.env=[(false,eval a X.env),(false,eval b X.env),(false,eval c X.env)]) zW._auto_1) (hs2:autoParam (starEach [b,c] X.env=[(false,eval b X.env),(false,eval c X.env)]) zW._auto_1) :
  PI X tg (.Call (.Name "range" p) [a,b,c] [] pos) (iRng3 ta):=by
 intro pins s σ H R I h
 refine Call_ (dJ I hg hm boot_range (PyProof.Rows.callWith_type1 (thn (ha pos pins s σ H _ I h) fun us s1 ⟨vs,H1,I1,r1,q1⟩ => ?_) (by rw[hs,hs2]) (by rw[hs2];rfl)))
 obtain⟨i,j,k,e,ok,q⟩:=q1
 subst e
 cases r1 with
 | cons r rr =>
  cases rr with
  | cons r' rr =>
   cases rr with
   | cons r'' rr =>
    cases rr
    obtain⟨t,rfl⟩:=r
    obtain⟨t',rfl⟩:=r'
    obtain⟨t'',rfl⟩:=r''
    refine call_range_3 ok.1 ?_ (.inl (PyProof.noPylong_of_log2 ok.2.1))
    refine wpAny_pyIter_range (IsRange.new ..) ok.2.2.1 ?_
    have I2:Inv X pins σ H1 { s1 with heap:=s1.heap.push { cls:=.type "range",data:=.fields #[.int i t,.int j t',.int k t''] },toks:=s1.toks }:=I1.kept fun b o e=>Heap.get?_push_of_some _ e
    refine⟨(s1.heap.push { cls:=.type "range",data:=.fields #[.int i t,.int j t',.int k t''] }).objs.size,[(s1.heap.push { cls:=.type "range",data:=.fields #[.int i t,.int j t',.int k t''] }).objs.size],_,_,H1,rfl,
     I2.kept (t':=s1.toks) fun b o e=>Heap.get?_push_of_some _ e,yS4 _ i k (Builtin.Range.rangeSize i j k).toNat,?_,fun b hb => ?_,q⟩
    ·show IsRangeIter _ _ (i+((0:Nat):Int)*k) ((((Builtin.Range.rangeSize i j k).toNat:Nat):Int)-((0:Nat):Int)) k
     have n0:=ok.2.2.2
     rw[show i+((0:Nat):Int)*k=i by simp,show (((Builtin.Range.rangeSize i j k).toNat:Nat):Int)-((0:Nat):Int)=Builtin.Range.rangeSize i j k by bv_omega]
     exact Heap.get?_push_size _ rfl
    ·have e:b=(s1.heap.push { cls:=.type "range",data:=.fields #[.int i t,.int j t',.int k t''] }).objs.size:=by simpa using hb
     subst e
     exact I2.fpOk (Nat.le_refl _) (I2.hok.fresh (Nat.le_refl _))
def rng3:List D->Option (List D)
 | [.int i,.int j,.int k]=>if StepOk i j k then some ((List.range (Builtin.Range.rangeSize i j k).toNat).map fun (m:Nat)=>PyData.int (i+(m:Int)*k)) else none
 | _=>none
theorem zB4 {Oc:Wd}{Ob:Addr->Prop}{H1:Hp}{lo st:Int}{n:Nat}:Walks Oc Ob (Its lo st n) H1 ((List.range n).map fun (i:Nat)=>PyData.int (lo+(i:Int)*st)):=by
 intro H2 Ob2 f s i
 refine⟨fun d e => ?_,fun h=>by show n<=i;simpa using h⟩
 rw[List.getElem?_map] at e
 by_cases hi:i<n
 ·rw[List.getElem?_range hi] at e
  cases e
  refine⟨hi,fun x H3 hy => ?_⟩
  obtain⟨rfl,rfl⟩:=hy
  exact⟨Same.refl _,.int _⟩
 ·rw[List.getElem?_eq_none (by simpa using hi)] at e
  cases e
theorem zS8 {C:Ct}{tg a b c:Expr}{p pos:Pos}{ms:Ev->Res (List D)}(hm:C.X.mg "range" = none) (ha:RArg C false [a,b,c] ms) (hg:autoParam (Gl C.X "range") zW._auto_1) (hs:autoParam (starEach [a,b,c] C.X.env=[(false,eval a C.X.env),(false,eval b C.X.env),(false,eval c C.X.env)]) zW._auto_1) (hs2:autoParam (starEach [b,c] C.X.env=[(false,eval b C.X.env),(false,eval c C.X.env)]) zW._auto_1):RI C tg (.Call (.Name "range" p) [a,b,c] [] pos) (iR rng3 ms):=by
 obtain⟨t,pa,q⟩:=ha
 refine⟨_,yP5 hg hm pa hs hs2,fun Oc Ob σ H ρ W R h=>q Oc Ob σ H ρ _ R (Res.zR (Res.zU h) (fun ds _ k vs H' s r => ?_) fun _ z=>z)⟩
 obtain⟨xs,e,k⟩:=Res.zF k
 unfold rng3 at e
 split at e
 ·split at e
  ·rename_i hb
   cases e
   cases r with
   | cons va r =>
    obtain⟨v',v'',rfl,va',va''⟩:=VAs.two r
    obtain rfl:=va.int
    obtain rfl:=va'.int
    obtain rfl:=va''.int
    exact⟨_,_,_,rfl,hb,k _ H' s zB4⟩
  ·cases e
 ·cases e
end L2.L3
namespace L2.L3
open PySem PyProof.Rows
variable [CN]
section
variable {X:Cx}
end
def revT:D->Option D
 | .list ds=>some (.tuple ds.reverse)
 | _=>none
theorem Reps.snoc {H:Hp}{O:Addr->Prop}:∀{vs:List V}{ds:List D}{v:V}{d:D},Reps H O vs ds->Rep H O v d->Reps H O (vs ++ [v]) (ds ++ [d])
 | _,_,_,_,.nil,r=>.cons r .nil
 | _,_,_,_,.cons a t,r=>.cons a (Reps.snoc t r)
def eRevT (m:Ev->Res D):Ev->Res D:=fun ρ=>(m ρ).bind fun d=>Res.lft (revT d)
theorem yO8 (m:Ev->Res D) (ρ:Ev):eRevT m ρ=(m ρ).bind fun d=>Res.lft (revT d):=rfl
end L2.L3
namespace L2
open PySem PyProof.Rows
structure CScope2 (sc0 scope:Scope) (N0:List Str) (xt yt:Str) (fs:List Str) (js:List Nat):Prop where
 kind:scope.kind=.function
 nocell:∀y∈scope.names,y.2 ≠ .cell
 names:∀y∈scope.names,y.2=.local->scope.names.lookup y.1=some .local
 tgt:scope.names.lookup xt=some .local
 tgt2:scope.names.lookup yt=some .local
 frees:∀y∈scope.names,y.2=.free->sc0.names.lookup y.1=some .cell\/sc0.names.lookup y.1=some .free
 len:js.length=fs.length
 slots:∀p∈fs.zip js,N0[p.2]?=some p.1/\scope.names.lookup p.1=some .free
 nd:(xt::yt::fs).Nodup
section
variable {X:Cx}{pins:List (Addr×Obj)}{σ:St}{H:Hp}{s₂ s₄:Shared}{sc0 scope:Scope}{N0:List Str}{xt yt:Str}{fs:List Str}{js:List Nat}{fp:List Addr}
theorem CScope2.cells (S:CScope2 sc0 scope N0 xt yt fs js) (h0:X.env.scope=sc0) (ok:X.Ok):∀n,(n,NameKind.free)∈scope.names->∃c,X.env.cells.lookup n=some c:=fun n hn=>ok.has n (by subst h0;exact S.frees _ hn rfl)
theorem CScope2.sub (S:CScope2 sc0 scope N0 xt yt fs js) (h0:X.env.scope=sc0) (ok:X.Ok):∀x c,(clos X.env.cells scope.names []).lookup x=some c->X.env.cells.lookup x=some c :=
 fK scope.names [] (S.cells h0 ok) fun x c e=>by simp at e
end
end L2
namespace L2.L3
open PySem PyProof.Rows
variable [CN]
theorem RIo.c {C:Ct}{tg iter:Expr}{m:Ev->Res (List D)}(h:RIo C tg iter m):RIc C tg iter m:=by
 obtain⟨wi,p,q⟩:=h
 exact⟨wi,p,fun Oc Ob σ H ρ W R h=>q Oc Ob σ H ρ W R (Res.zR h (fun ds _ k J H1 s w=>k J H1 s fun H2 s2=>w H2 Ob (Same.frm s2) (fun b z=>.inl z) (R.same (s.trans s2)).oh) fun _ z=>z)⟩
section
variable {X:Cx}{pins:List (Addr×Obj)}{σ:St}{H:Hp}{s:Shared}{h':Heap}
end
structure Apart5 (z TI TO i1 i2:Addr):Prop where
 TIz:TI≠z
 TOz:TO≠z
 i1z:i1≠z
 i2z:i2≠z
 TITO:TI≠TO
 TIi1:TI≠i1
 TIi2:TI≠i2
 TOi1:TO≠i1
 TOi2:TO≠i2
 i12:i1≠i2
end L2.L3
namespace L2
open PySem PySem.Spec PyProof.Rows
end L2
namespace L2.L3
open PySem PySem.Spec PyProof.Rows
variable [CN]
end L2.L3
namespace L2.L3
open PySem
variable [CN]
end L2.L3
namespace L2.L3
open PySem PyProof.Rows
variable [CN]
section
variable {X:Cx}
end
def revL:D->Option D
 | .list ds=>some (.list ds.reverse)
 | _=>none
def eRevL (m:Ev->Res D):Ev->Res D:=fun ρ=>(m ρ).bind fun d=>Res.lft (revL d)
theorem yO4 (m:Ev->Res D) (ρ:Ev):eRevL m ρ=(m ρ).bind fun d=>Res.lft (revL d):=rfl
end L2.L3
namespace HT
open PySem PyProof.Rows
section
variable {prog:Program}{w:World}{A:Around}{E:Value->Shared->Prop}{s:Shared}
end
end HT
namespace L2.L3
open PySem PyProof.Rows
variable [CN]
section
variable {X:Cx}
end
theorem VAs.dat {K:KFr}{Oc:Wd}{Ob:Addr->Prop}{H:Hp}:∀{vs:List V}{ds:List D},VAs Oc Ob H vs ds->PyData.canLayAll0 ds=true->DatAll K H vs ds
 | _,_,.nil,_=>.nil
 | _,_,.cons h t,c=>.cons (VA.dat h (Bool.and_eq_true_iff.mp c).1) (VAs.dat t (Bool.and_eq_true_iff.mp c).2)
theorem VAs.length {Oc:Wd}{Ob:Addr->Prop}{H:Hp}:∀{vs:List V}{ds:List D},VAs Oc Ob H vs ds->vs.length=ds.length
 | _,_,.nil=>rfl
 | _,_,.cons _ t=>by rw[List.length_cons,List.length_cons,VAs.length t]
end L2.L3
namespace L2.L3
open PySem PySem.Spec PyProof.Rows
variable [CN]
section
variable {X:Cx}
end
end L2.L3
namespace HT
open PySem PyProof.Rows
section
open PySem.SeqAt
open PySem.AutoSeq1 (wpAny_loadPart')
open PySem.MeetsSeq PySem.MeetsSeq2 PySem.MeetsSeq3
end
section
variable {prog:Program}{w:World}{A:Around}{E:Value->Shared->Prop}{s:Shared}
end
end HT
namespace L2.L3
open PySem PySem.Spec PyProof.Rows
variable [CN]
section
variable {X:Cx}
end
end L2.L3
namespace L2.L3
open PySem PyProof.Rows
variable [CN]
section
variable {X:Cx}
end
end L2.L3
namespace L2.L3
universe u
theorem ls0 {α:Type u}{P:List α->Prop}(h:P []):∀us:List α,us.length=0->P us:=fun us e=>by
 rw[List.eq_nil_of_length_eq_zero e]
 exact h
theorem lsS {α:Type u}{P:List α->Prop}{n:Nat}(h:∀a us,us.length=n->P (a::us)):∀us:List α,us.length=n+1->P us:=fun us e=>by
 cases us with
 | nil=>cases e
 | cons a us=>exact h a us (Nat.succ.inj e)
theorem ls1 {α:Type u}{P:List α->Prop}(h:∀a,P [a]):∀us:List α,us.length=1->P us:=lsS fun a=>ls0 (h a)
theorem ls2 {α:Type u}{P:List α->Prop}(h:∀a b,P [a,b]):∀us:List α,us.length=2->P us:=lsS fun a=>ls1 (h a)
theorem ls3 {α:Type u}{P:List α->Prop}(h:∀a b c,P [a,b,c]):∀us:List α,us.length=3->P us:=lsS fun a=>ls2 (h a)
end L2.L3
namespace L2.L3
open PySem PySem.Spec PyProof.Rows
variable [CN]
def Raw (B:Heap) (e:Addr) (cls a0:Value) (h:Heap):Prop :=
 h.TracedW B e cls a0\/∃oe vs,h.get? e=some oe/\oe.cls=cls/\oe.data=.fields vs/\vs[1]?=some .none/\vs[0]?=some a0
structure Fl (stk:List Env) (h1:Heap) (H:Hp) (e:Addr) (cls:Value) (B:Heap) (a0:Value) (h:Heap):Prop where
 stays:B.StaysIn h
 newB:B.get? e=none
 frm:h.FunFrames B stk
 raw:Raw B e cls a0 h
 cov:∀b o,h.get? b=some o->b∉frs stk->(h1.get? b≠none\/H b≠none)->B.get? b=some o
def ExcAt (X:Cx) (c:Str) (H:Hp) (e:Value) (s:Shared):Prop :=
 ∃(pins:List (Addr×Obj)) (σ:St) (s1:Shared) (H1:Hp) (a:Addr) (B:Heap) (a0:Value),Inv X pins σ H1 s1/\Inv X pins σ H s/\Un (frs X.stack) [] H1 H s1.heap s.heap/\e=.ref a/\s1.heap.get? a=none/\H a=none/\Fl X.stack s1.heap H a (.ref (CN.ad c)) B a0 s.heap
def CXV (P:Program) (w:World):CXT:=fun outer H s E e s' =>
 ∃(a:Addr) (cls:Value) (B:Heap) (a0:Value) (H':Hp),e=.ref a/\s'.os=s.os/\AllBare s'.gens/\Un (frs outer) [] H H' s.heap s'.heap/\HOk P w H' s'.heap/\s.heap.get? a=none/\H' a=none/\Fl outer s.heap H' a cls B a0 s'.heap/\E cls none H'
theorem cX {P:Program}{w:World}{H:Hp}{h:Heap}{a:Addr}{o:HO}(x:ObjOk P w H h a o):∃u,h.get? a=some u:=by
 cases o with
 | lst xs=>exact⟨_,x.2.choose_spec.choose_spec.2⟩
 | tup xs=>obtain⟨_,its,_,ob,e,_⟩:=x;exact⟨ob,e⟩
 | dK kvs=>obtain⟨_,_,_,_,ob,_,_,e,_⟩:=x;exact⟨ob,e⟩
 | dT kvs=>obtain⟨_,_,_,_,ob,_,_,e,_⟩:=x;exact⟨ob,e⟩
 | set S n=>obtain⟨ob,_,_,_,e,_⟩:=x;exact⟨ob,e⟩
 | ins C dx fs=>obtain⟨_,_,_,e,_⟩:=x;exact⟨_,e⟩
 | own y=>exact x
 | xd fs=>obtain⟨_,⟨ob,_,_,e,_⟩,_⟩:=x;exact⟨ob,e⟩
 | rng lo hi=>obtain⟨_,_,_,e⟩:=x;exact⟨_,e⟩
 | frz ob u=>exact⟨ob,x.1⟩
 | tbl ps=>exact⟨_,x⟩
 | met f y=>exact⟨_,x⟩
 | ext φ=>exact x.2.1
theorem yS9 {P:Program}{w:World}{H:Hp}{h:Heap}{a:Addr}(x:HOk P w H h) (n:H a≠none):∃u,h.get? a=some u:=by
 cases e:H a with
 | none=>exact absurd e n
 | some o=>exact cX (x a o e)
theorem zV1 {α:Type}{o:Option α}(h:o≠none):∃x,o=some x:=by
 cases o with
 | none=>exact absurd rfl h
 | some x=>exact⟨x,rfl⟩
theorem zW4 {α:Type}{o:Option α}{x:α}(h:o=some x):o≠none:=by
 rw[h];exact fun z=>nomatch z
theorem yV1 {X:Cx}{c:Str}{H:Hp}{e:Value}{s:Shared}{E:XK}{E2:Value->Shared->Prop}(x:ExcAt X c H e s) (hst:X.stack=X.env::X.outer) (hfr:X.env.frame=some X.env.locals) (hex:X.ex=[]) (hE:E (.ref (CN.ad c)) none H) :
  wpAny (model X.prog X.w) X.A (leaving X.env e) (fun _ s''=>CXV X.prog X.w X.outer X.H₀ X.s₀ E e s'') E2 s:=by
 obtain⟨pins,σ,s1,H1,a,B,a0,I1,I,un,rfl,n1,n2,f⟩:=x
 have noex:∀b:Addr,b∉X.ex:=fun b z=>by rw[hex] at z;cases z
 have hfs:frs X.stack=X.env.locals::X.fs:=by
  rw[hst]
  show List.filterMap _ _=_
  rw[List.filterMap_cons,hfr]
  rfl
 have hfrm:s.heap.FunFrames B (X.env::X.outer):=by rw[<-hst];exact f.frm
 have hA:X.A.frames=some (X.env::X.outer):=by rw[<-hst];exact I.ok.frames
 have oldL:∀b o,X.s₀.heap.get? b=some o->b≠X.env.locals:=fun b o q z=>by
  subst z
  exact absurd (Heap.lt_size q) (Nat.not_lt.mpr I.ok.above)
 have old1:∀b o,X.s₀.heap.get? b=some o->s1.heap.get? b≠none:=fun b o q=>let ⟨_,e⟩:=I1.base.there b o q (noex b);zW4 e
 have key:∀h',Heap.LeftW B (X.env::X.outer) a (.ref (CN.ad c)) a0 s.heap h'->CXV X.prog X.w X.outer X.H₀ X.s₀ E (.ref a) { s with heap:=h' }:=by
  rintro h' ⟨k1,k2,k3,k4⟩
  have kp:∀b o,s.heap.get? b=some o->b∉frs X.stack->(s1.heap.get? b≠none\/H b≠none)->h'.get? b=some o:=fun b o q n z=>k1 b o (f.cov b o q n z)
  have out:∀b,b∉X.fs->b≠X.env.locals->b∉frs X.stack:=fun b n1 n2 z=>by
   rw[hfs] at z
   rcases List.mem_cons.mp z with z | z
   ·exact n2 z
   ·exact n1 z
  have trk:∀b,H b≠none->b∉frs X.stack:=fun b n z=>n (I.stkFree b z)
  refine⟨a,_,B,a0,H,rfl,I.os,I.bare,⟨fun b o q n hb hx => ?_,fun b o q n hb hx => ?_,fun b o q n hx=>I.base.free b o q n (noex b),fun b o q hx => ?_,I.base.tups,I.base.frzs,I.base.tbls⟩,fun b o q => ?_,?_,n2,⟨k1,f.newB,k2.2.2,.inl k3,fun b o q n z => ?_⟩,hE⟩
  ·exact kp b o (I.base.keep b o q n hb (noex b)) (out b hb (oldL b o q)) (.inl (old1 b o q))
  ·obtain⟨sl,e⟩:=I.base.slot b o q n hb (noex b)
   obtain⟨_,o',e',nf⟩:=f.frm.mem (b:=b) (by show b∈frs X.stack;rw[hfs];exact List.mem_cons_of_mem _ hb)
   rw[e] at e'
   cases e'
   obtain⟨sl',e2⟩:=k4 b _ e nf
   exact⟨sl',e2⟩
  ·by_cases hb:b∈frs X.stack
   ·obtain⟨_,o',e',_⟩:=k2.mem (b:=b) (by rw[hst] at hb;exact hb)
    exact⟨o',e'⟩
   ·obtain⟨o',e'⟩:=I.base.there b o q (noex b)
    exact⟨o',kp b o' e' hb (.inl (old1 b o q))⟩
  ·refine (I.hok b o q).stay (fun b' u hb' e => ?_) (fun _ z=>z) fun _ _ z=>z
   have n:H b'≠none:=by
    rcases hb' with rfl | hb'
    ·exact zW4 q
    ·exact zW4 hb'
   exact kp b' u e (trk b' n) (.inr n)
  ·cases q:X.s₀.heap.get? a with
   | none=>rfl
   | some o=>exact absurd n1 (old1 a o q)
  ·have nL:b≠X.env.locals:=by
    rcases z with z | z
    ·obtain⟨o',q'⟩:=zV1 z
     exact oldL b o' q'
    ·intro y
     subst y
     exact z I.free
   have ns:b∉frs X.stack:=out b n nL
   obtain⟨o2,q2⟩:∃o2,s.heap.get? b=some o2:=by
    rcases z with z | z
    ·obtain⟨o',q'⟩:=zV1 z
     exact I.base.there b o' q' (noex b)
    ·exact yS9 I.hok z
   have z':s1.heap.get? b≠none\/H b≠none:=by
    rcases z with z | z
    ·obtain⟨o',q'⟩:=zV1 z
     exact .inl (old1 b o' q')
    ·exact .inr z
   have hB:=f.cov b o2 q2 ns z'
   have q3:=k1 b o2 hB
   have q4:h'.get? b=some o:=q
   rw[q3] at q4
   cases q4
   exact hB
 rcases f.raw with t | ⟨oe,vs,he,hc,hd,h1,h0⟩
 ·exact wpAny_leaving_nextW hA hfrm hfr t f.stays f.newB key
 ·rw[<-hc] at key
  exact wpAny_leaving_firstW hA hfrm hfr he f.stays f.newB hd h1 h0 key
def Br (C:Ct):Prop:=∀(c:Str) (H:Hp) (e:Value) (s:Shared),ExcAt C.X c H e s->C.XE c H->C.X.xe e s
theorem qG {C:Ct}(h:∀c H,C.XE c H->False):Br C:=fun c H _ _ _ z=>(h c H z).elim
def wX (C:Ct):XK:=fun v _ H=>∃c,v=.ref (CN.ad c)/\C.XE c H
theorem passX {C:Ct}(hb:Br C):Passes (CXV C.X.prog C.X.w) C.X (wX C):=by
 intro pins σ H s e s' I h
 obtain⟨a,cls,B,a0,H',rfl,os,bare,un,hok,n1,n2,f,c,rfl,z⟩:=h
 exact hb c H' _ s' ⟨pins,σ,s,H,a,B,a0,I,I.call' os un hok bare (fun b z=>by cases z),un,rfl,n1,n2,f⟩ z
def spX (fr:Bool) (F:List D->Res D):Sp:=fun vs H Q E=>∃(ds:List D) (O:Addr->Prop),(∀a,O a->H a≠none)/\Reps H O vs ds/\(F ds).post (fun d=>∀v H',Same H H'->CallOk fr O H H' v d->Q v H') (fun c=>∀H',Same H H'->E (.ref (CN.ad c)) none H')
section
variable {P:Program}{w:World}{K:KFr}{mg:Str->Option Value}{base:Heap}
abbrev bodyX (P:Program) (w:World) (K:KFr) (mg:Str->Option Value) (base:Heap) (N:List Str) (x:Str) (sc:Scope) (f:Addr) (cdv:Value) (A:Around) (outer:List Env) (s:Shared) (H:Hp) (E:XK) (om:List Nat):Ct :=
 ⟨cxOf (CXV P w) P w K mg base N x sc f cdv A outer s H E,fun c H'=>E (.ref (CN.ad c)) none H',om,[]⟩
theorem zC {N:List Str}{x:Str}{sc:Scope}{f:Addr}{cdv:Value}{A:Around}{outer:List Env}{s:Shared}{H:Hp}{E:XK}{om:List Nat}:Br (bodyX P w K mg base N x sc f cdv A outer s H E om) :=
 fun c H' e s' x h=>yV1 x rfl rfl rfl h
theorem yZ {x:Str}{st:Stmt}{f:Addr}{fd:FuncData}{N ps:List Str}{k:Nat}{m:Ev->Res Out}{fr:Bool}(om:List Nat) (F:Fun K x x st f fd) (S:zK N ps (zX st))
  (hbody:∀(cdv:Value) (A:Around) (outer:List Env) (s:Shared) (H:Hp) (E:XK),Room k (A.deeper (envOfC x (zX st) s.heap.objs.size f cdv))->RSs (bodyX P w K mg base N x (zX st) f cdv A outer s H E om) fr (defBody st) m)
  (hom:autoParam (om.all (fun i=>decide (ps.length<=i))=true) zW._auto_1) :
  FnOk P w K mg base (CXV P w) (k+1) f fd ps (spX fr (runF fr ps.length N.length m)):=by
 have len:∀(vs:List V) (H:Hp) (Q:VK) (E:XK),spX fr (runF fr ps.length N.length m) vs H Q E->vs.length=ps.length:=fun vs H Q E h=>by
  obtain⟨ds,O,oh,r,k⟩:=h
  unfold runF at k
  split at k
  ·rename_i hl
   rw[r.length];exact hl
  ·exact k.elim
 obtain⟨oc,od,kV,doc,pm,an,cdv,ct,osl,rfl,lk,hcd⟩:=F.ex
 refine yY4 lk hcd S len fun A outer s H vs Q E hr h => ?_
 have hvl:=len vs H Q E h
 obtain⟨ds,O,oh,r,k⟩:=h
 have hl:ds.length=ps.length:=by rw[<-r.length];exact hvl
 unfold runF at k
 rw[if_pos hl] at k
 obtain⟨t,p,q⟩:=hbody cdv A outer s H E hr
 refine⟨t,p,q ⟨O,fun _=>0⟩ (fun _=>False) _ H (ds.map some++List.replicate (N.length-ps.length) none) _ ?_ ?_⟩
 ·refine⟨?_,fun i d e _ _ => ?_,fun i d e ho => ?_,fun i d e _ hl=>(nomatch hl),fun i j di dj a ei _ ho _ _ _ => ?_,fun a z=>oh a (z.elim id fun z=>z.elim),fun a z=>z.elim⟩
  ·unfold start
   rw[List.length_append,List.length_append,List.length_map,List.length_map,List.length_replicate,List.length_replicate,hvl,hl]
  ·obtain⟨v,ev,rv⟩:=r.get (dF e)
   exact⟨v,yK5 ev,rv.less fun b z=>z.elim id fun z=>z.elim⟩
  ·have h1:=(List.getElem?_eq_some_iff.mp (dF e)).1
   have h2:ps.length<=i:=of_decide_eq_true (List.all_eq_true.mp hom i ho)
   bv_omega
  ·have h1:=(List.getElem?_eq_some_iff.mp (dF ei)).1
   have h2:ps.length<=i:=of_decide_eq_true (List.all_eq_true.mp hom i ho)
   bv_omega
 ·have same:∀{H':Hp},Frm (fun _=>False) H H'->Same H H':=fun f b o e=>f b o e fun z=>z
  refine Res.zR (Res.zU k) (fun o _ k => ?_) fun c z H' f=>z H' (same f)
  cases o with
  | rt d =>
   intro v H' f rt
   refine k v H' (same f) ?_
   cases fr with
   | false=>exact rt
   | true =>
    obtain⟨a,ys,ds,e1,e2,e3,e4,e5,e6⟩:=rt
    exact⟨a,ys,ds,e1,e2,e3.elim id fun z=>z.elim,e5,e6⟩
  | nx ρ' =>
   cases fr with
   | true=>exact k.elim
   | false=>exact fun σ' H' Ob' R f s=>k .non H' (same f) Rep.non
end
theorem zM4 {C:Ct}{k:Nat}{f:Addr}{fd:FuncData}{ps:List Str}{fr:Bool}{F:List D->Res D}{x:Str}{p pos:Pos}{e:Expr}{es:List Expr}{ms:Ev->Res (List D)}{st:Stmt}(G:FnOk C.X.prog C.X.w C.X.K C.X.mg C.X.base (CXV C.X.prog C.X.w) k f fd ps (spX fr F)) (hh:Has C.X.K C.X.mg x st f fd ps) (hr:Room k C.X.A)
  (hb:Br C) (ha:RArg C true (e::es) ms) (hg:autoParam (Gl C.X x) zW._auto_1) (hdb:autoParam ((x == ("__debug__":Str))=false) zG._auto_1) (he:autoParam (starEach (e::es) C.X.env=(false,eval e C.X.env)::starEach es C.X.env) zW._auto_1) (hpl:autoParam ((backTo pos (starEach es C.X.env)).any (·.1)=false) zW._auto_1) :
  RE C (mdF fr) (.Call (.Name x p) (e::es) [] pos) (eF F ms):=by
 obtain⟨t,pa,q⟩:=ha
 refine⟨_,zC2 G hr hg hh.m hh.F.kp hh.b .nil (passX hb) pa hdb he hpl,fun Oc Ob σ H ρ Q R h => ?_⟩
 refine q Oc Ob σ H ρ _ R (Res.zR (Res.zU h) (fun ds _ k vs H1 s1 r => ?_) fun c z=>z)
 show spX fr F (vs ++ []) H1 Q (wX C)
 rw[List.append_nil]
 refine⟨ds,Uni Oc Ob,(R.same s1).oh,r,Res.zR k (fun d _ k v H' s2 rv => ?_) fun c z H' s2=>⟨c,rfl,z H' (s1.trans s2)⟩⟩
 refine k v H' (s1.trans s2) ?_
 cases fr with
 | false=>exact rv
 | true =>
  obtain⟨a,ys,ds,e1,e2,e3,e4,e5⟩:=rv
  exact⟨a,ys,ds,e1,e2,s1.free e3,e4,e5⟩
theorem yV8 {C:Ct}{k:Nat}{f:Addr}{fd:FuncData}{ps:List Str}{fr:Bool}{F:List D->Res D}{x:Str}{p pos:Pos}{e:Expr}{es:List Expr}{ms:Ev->Res (List D)}{st:Stmt}(G:FnOk C.X.prog C.X.w C.X.K C.X.mg C.X.base (CXV C.X.prog C.X.w) k f fd ps (spX fr F)) (hh:Has C.X.K C.X.mg x st f fd ps) (hr:Room k C.X.A)
  (hb:Br C) (ha:RArg C false (e::es) ms) (hg:autoParam (Gl C.X x) zW._auto_1) (hdb:autoParam ((x == ("__debug__":Str))=false) zG._auto_1) (he:autoParam (starEach (e::es) C.X.env=(false,eval e C.X.env)::starEach es C.X.env) zW._auto_1) (hpl:autoParam ((backTo pos (starEach es C.X.env)).any (·.1)=false) zW._auto_1) :
  RE C (mdF fr) (.Call (.Name x p) (e::es) [] pos) (eFA fr F ms):=by
 obtain⟨t,pa,q⟩:=ha
 refine⟨_,zC2 G hr hg hh.m hh.F.kp hh.b .nil (passX hb) pa hdb he hpl,fun Oc Ob σ H ρ Q R h => ?_⟩
 refine q Oc Ob σ H ρ _ R (Res.zR (Res.zU h) (fun ds _ k vs H1 s1 r => ?_) fun c z=>z)
 show spX fr F (vs ++ []) H1 Q (wX C)
 rw[List.append_nil]
 refine⟨ds,fun b=>Uni Oc Ob b/\¬∃ys,H1 b=some (.lst ys),fun a z=>(R.same s1).oh a z.1,VAs.lent r,Res.zR (Res.zU k) (fun d _ k v H' s2 rv => ?_) fun c z H' s2=>⟨c,rfl,z H' (s1.trans s2)⟩⟩
 have hB:∀b,(∃ys,H1 b=some (.lst ys))->∃ys,H' b=some (.lst ys):=fun b ⟨ys,e⟩=>⟨ys,s2 _ _ e⟩
 by_cases hl:lfT fr d=true
 ·rw[if_pos hl] at k
  refine k v H' (s1.trans s2) ?_
  cases fr with
  | false=>exact Rep.lf hB rv (by cases d <;> exact hl)
  | true =>
   obtain⟨a,ys,ds,e1,rfl,e3,e4,e5⟩:=rv
   have e5':Reps H' (fun b=>(Uni Oc Ob b\/b=a)/\¬∃ys,H1 b=some (.lst ys)) ys ds:=e5.less fun b z=>z.1.elim (fun q=>.inl ⟨q,z.2⟩) .inr
   exact⟨a,ys,ds,e1,rfl,s1.free e3,e4,Reps.lf hB e5' hl⟩
 ·rw[if_neg hl] at k
  exact k.elim
section
variable {C:Ct}{k:Nat}{f:Addr}{fd:FuncData}{ps:List Str}{F:List D->Res D}{x:Str}{p pos:Pos}{e:Expr}{es:List Expr}{ms:Ev->Res (List D)}{st:Stmt}
theorem zM (G:FnOk C.X.prog C.X.w C.X.K C.X.mg C.X.base (CXV C.X.prog C.X.w) k f fd ps (spX false F)) (hh:Has C.X.K C.X.mg x st f fd ps) (hr:Room k C.X.A)
  (hb:Br C) (ha:RArg C true (e::es) ms) (hg:autoParam (Gl C.X x) zW._auto_1) (hdb:autoParam ((x == ("__debug__":Str))=false) zG._auto_1) (he:autoParam (starEach (e::es) C.X.env=(false,eval e C.X.env)::starEach es C.X.env) zW._auto_1) (hpl:autoParam ((backTo pos (starEach es C.X.env)).any (·.1)=false) zW._auto_1) :
  RE C .cl (.Call (.Name x p) (e::es) [] pos) (eF F ms):=zM4 (fr:=false) G hh hr hb ha hg hdb he hpl
theorem xG (G:FnOk C.X.prog C.X.w C.X.K C.X.mg C.X.base (CXV C.X.prog C.X.w) k f fd ps (spX true F)) (hh:Has C.X.K C.X.mg x st f fd ps) (hr:Room k C.X.A)
  (hb:Br C) (ha:RArg C true (e::es) ms) (hg:autoParam (Gl C.X x) zW._auto_1) (hdb:autoParam ((x == ("__debug__":Str))=false) zG._auto_1) (he:autoParam (starEach (e::es) C.X.env=(false,eval e C.X.env)::starEach es C.X.env) zW._auto_1) (hpl:autoParam ((backTo pos (starEach es C.X.env)).any (·.1)=false) zW._auto_1) :
  RE C .new (.Call (.Name x p) (e::es) [] pos) (eF F ms):=zM4 (fr:=true) G hh hr hb ha hg hdb he hpl
theorem zA7 (G:FnOk C.X.prog C.X.w C.X.K C.X.mg C.X.base (CXV C.X.prog C.X.w) k f fd ps (spX false F)) (hh:Has C.X.K C.X.mg x st f fd ps) (hr:Room k C.X.A)
  (hb:Br C) (ha:RArg C false (e::es) ms) (hg:autoParam (Gl C.X x) zW._auto_1) (hdb:autoParam ((x == ("__debug__":Str))=false) zG._auto_1) (he:autoParam (starEach (e::es) C.X.env=(false,eval e C.X.env)::starEach es C.X.env) zW._auto_1) (hpl:autoParam ((backTo pos (starEach es C.X.env)).any (·.1)=false) zW._auto_1) :
  RE C .cl (.Call (.Name x p) (e::es) [] pos) (eFA false F ms):=yV8 (fr:=false) G hh hr hb ha hg hdb he hpl
end
end L2.L3
namespace L2
open PySem PySem.Spec PyProof.Rows
section
variable {X:Cx}{pins:List (Addr×Obj)}{σ:St}{H:Hp}{s:Shared}
theorem Inv.track {a:Addr}{o:HO}(I:Inv X pins σ H s) (n:H a=none) (n0:X.s₀.heap.get? a=none) (nL:a≠X.env.locals) (nC:∀x c,X.env.cells.lookup x=some c->c≠a) (nP:∀p∈X.pn++pins,p.1≠a) (new:ObjOk X.prog X.w (upd H a o) s.heap a o):Inv X pins σ (upd H a o) s:=by
 have ne:∀b u,H b=some u->b≠a:=fun b u e z=>by subst z;rw[n] at e;cases e
 have up:∀b u,H b=some u->upd H a o b=some u:=fun b u e=>by rw[zN (ne b u e)];exact e
 refine⟨I.ok,I.os,I.bare,⟨I.base.keep,I.base.slot,fun b u q z hx => ?_,I.base.there,fun b xs q=>up _ _ (I.base.tups b xs q),fun b u v q=>up _ _ (I.base.frzs b u v q),fun b ps q => ?_⟩,I.loc,I.cell,?_,fun x c e => ?_,fun p hp => ?_,fun b u e => ?_,I.len⟩
 ·have:b≠a:=fun y=>by subst y;rw[n0] at q;cases q
  rw[zN this]
  exact I.base.free b u q z hx
 ·obtain⟨more,e⟩:=I.base.tbls b ps q
  exact⟨more,up _ _ e⟩
 ·rw[zN (Ne.symm nL)]
  exact I.free
 ·rw[zN (nC x c e)]
  exact I.freeC x c e
 ·obtain⟨e,m,x1,x2,x3⟩:=I.pin p hp
  exact⟨e,by rw[zN (nP p hp)];exact m,x1,x2,x3⟩
 ·by_cases h:b=a
  ·subst h
   rw[yD] at e
   cases e
   exact new
  ·rw[zN h] at e
   exact (I.hok b u e).stay (fun _ _ _ q=>q) (fun c q=>up _ _ q) fun c xs q=>up _ _ q
end
end L2
namespace L2.L3
open PySem PySem.Spec PyProof.Rows
variable [CN]
abbrev bmV:List Value:=[.type "ValueError",.type "Exception",.type "BaseException",.type "object"]
def OwnX (K:KFr) (x:Str):Prop:=PySem.W.excIn K (CN.ad x) bmV "ValueError.__new__" = true
theorem yB1 {K:KFr}{h:Heap}{A:Addr}{bmB:List Value}{nid:String}(X:K.In h) (q:PySem.W.excIn K A bmB nid=true) :
  ∃(tl:List Value) (N:Addr) (nm qn:Str) (bs:List Value) (hd:Bool) (sn:List Str) (sb:List Value) (ab:Bool) (co:Option Bool) (dd:Option Addr) (k0 k1 k2 k3 k5:Option Value) (mN:Str->Option Value),
   h.get? A=some (excClassObj nm qn A N bs tl hd sn sb ab co dd k0 k1 k2 k3 k5 nid)/\h.Ns N mN/\mN "__init__" = none/\OwnTail h bmB tl:=by
 revert q
 rw[PySem.W.excIn]
 split
 case h_2=>exact fun q=>nomatch q
 case h_1 dd cd sl lk =>
  split
  case h_2=>exact fun q=>nomatch q
  case h_1 A' tl j0 j1 j2 j3 nn j5 em es =>
   intro q
   rw[Bool.and_eq_true,Bool.and_eq_true,Bool.and_eq_true,Bool.and_eq_true,Bool.and_eq_true] at q
   have q6:=q.2
   have q5:=q.1.2
   have q4:=q.1.1.2
   have q3:=q.1.1.1.2
   have q2:=eq_of_beq q.1.1.1.1.2
   have q1:=eq_of_beq q.1.1.1.1.1
   cases cd
   cases sl
   simp only at em es q3 q5 q6
   subst em es q1 q2
   simp only[Bool.not_eq_true'] at q3
   subst q3
   exact⟨_,_,_,_,_,_,_,_,_,_,_,_,_,_,_,_,_,X _ _ lk,.of_isNs (PySem.W.isNs_of_in X q5),PySem.W.nsMap_none_of_in X q5 (eq_of_beq q6),PySem.W.tail_of_in X q4⟩
theorem yL9 {X:Cx}{pins:List (Addr×Obj)}{σ:St}{H:Hp}{s:Shared}{c:Str}{h':Heap}{e:Addr}{args:List Value}(I:Inv X pins σ H s) (m:Heap.MadeExcOf s.heap h' e (.ref (CN.ad c)) args):ExcAt X c H (.ref e) { s with heap:=h' }:=by
 obtain⟨t,he,_,_⟩:=m.there
 have I2:Inv X pins σ H { s with heap:=h',toks:=s.toks }:=I.kept m.keeps
 have n:H e=none:=by
  cases q:H e with
  | none=>rfl
  | some o =>
   obtain⟨u,z⟩:=cX (I.hok e o q)
   rw[m.new] at z
   cases z
 refine⟨pins,σ,s,H,e,PySem.W.hideAll h' (e::frs X.stack),.ref t,I,I2,Un.kept m.keeps,rfl,m.new,n,fun b o q=>PySem.W.of_hideAll _ q,PySem.W.hideAll_none _ (.head _),PySem.W.funFrames_hide I2.stack fun env he a ha=>List.mem_cons_of_mem _ (List.mem_filterMap.mpr ⟨env,he,ha⟩),.inr ⟨_,_,he,rfl,rfl,rfl,rfl⟩,fun b o q nb z=>PySem.W.hideAll_get _ q fun hb => ?_⟩
 rcases List.mem_cons.mp hb with rfl | hb
 ·rcases z with z | z
  ·exact z m.new
  ·exact z n
 ·exact nb hb
def sRa (c:Str) (m:Ev->Res (List D)):Ev->Res Out:=fun ρ=>(m ρ).bind fun ds=>if ds.length<=sizeLine then .ex c else .no
theorem uL {C:Ct}{fr:Bool}{x:Str}{np cpos pos:Pos}{e:Expr}{es:List Expr}{ms:Ev->Res (List D)}(hb:Br C) (ho:OwnX C.X.K x) (hm:C.X.mg x=some (.ref (CN.ad x))) (ha:RArg C false (e::es) ms) (hc:autoParam (C.X.calm=true) zW._auto_1) (hg:autoParam (Gl C.X x) zW._auto_1) (hdb:autoParam ((x == ("__debug__":Str))=false) zG._auto_1)
  (he:autoParam (starEach (e::es) C.X.env=(false,eval e C.X.env)::starEach es C.X.env) zW._auto_1) (hpl:autoParam ((backTo cpos (starEach es C.X.env)).any (·.1)=false) zW._auto_1) :
  RS C fr (.Raise (some (.Call (.Name x np) (e::es) [] cpos)) none pos) (sRa x ms):=by
 obtain⟨t,pa,q⟩:=ha
 refine⟨fun _ σ H=>t σ H fun vs H1=>vs.length<=sizeLine/\C.XE x H1,fun pins s σ H D I h => ?_,fun Oc Ob σ H ρ E R h=>q Oc Ob σ H ρ _ R (Res.zR (Res.zU h) (fun ds _ k vs H' s r => ?_) fun c z H' s=>z H' (Same.frm s))⟩
 ·obtain⟨tl,N,nm,qn,bs,hd,sn,sb,ab,co,dd,k0,k1,k2,k3,k5,mN,hC,hN,hni,T⟩:=yB1 I.mod.kin ho
  refine wpAny_Raise_call_subT (C:=CN.ad x) (nm:=nm) (q:=qn) (N:=N) (bs:=bs) (bm:=tl) (hdct:=hd) (sn:=sn) (sub:=sb) (ab:=ab) (col:=co) (dd:=dd) (k0:=k0) (k1:=k1) (k2:=k2) (k3:=k3) (k5:=k5) PySem.F.excBase_ValueError (mN:=mN) (T.hasType PySem.F.excBase_ValueError.hasBase) (I.ok.hd hc)
   (by rw[he];show (false || (backTo cpos (starEach es C.X.env)).any (·.1))=false;rw[hpl];rfl) hni (zX3 I hg hm ⟨rfl,?_⟩ hdb)
  have h2:=pa cpos pins s σ H _ I h
  rw[he] at h2 ⊢
  refine Calls.evalArgs_plain (wpAny_mono h2 (fun us s2 ⟨vs,H2,I2,r,hl,z⟩ => ?_) fun _ _ y=>y)
  exact⟨rfl,by rw[<-r.length];exact hl,I2.bk _ _ hC,hN.keeps I2.bk,T.keeps I2.bk,fun h' a m=>hb x H2 _ _ (yL9 I2 m) z⟩
 ·by_cases hl:ds.length<=sizeLine
  ·rw[if_pos hl] at k
   exact⟨by rw[(VAs.rep r).length];exact hl,k H' (Same.frm s)⟩
  ·rw[if_neg hl] at k
   exact k.elim
end L2.L3
namespace PySem
section
variable {prog:Program}{w:World}{A:Around}{E:Value->Shared->Prop}{h:Heap}{g:Array GenState}{d:Drawn}{t:Nat}{os:OsState}{a C:Addr}{o:Obj}{K:KFr}
structure ExK (K:KFr) (C:Addr):Prop where
 ga:PySem.W.findIn K (.ref C) "__getattribute__" = some (some (.builtin "BaseException.__getattribute__"))
 gn:PySem.W.findIn K (.ref C) "__getattr__" = some none
 cl:PySem.W.findIn K (.ref C) "__class__" = some (some (.builtin "object.__class__"))
 sb:PySem.W.subIn K (.ref C) (.type "BaseException")=some true
 so:PySem.W.subIn K (.ref C) (.type "object")=some true
 ci:(PySem.W.clsIn K C).isSome=true
variable {dd:Option Addr}{dt:Data}{sl:Array (Option Value)}{x:Shared}
end
end PySem
namespace L2.L3
open PySem PySem.Spec PyProof.Rows
variable [CN]
abbrev inTry (X:Cx) (pn:List (Addr×Obj)) (xe:Value->Shared->Prop):Cx:={ X with pn:=pn,xe:=xe }
theorem Inv.toTry {X:Cx}{pins:List (Addr×Obj)}{σ:St}{H:Hp}{s:Shared}(I:Inv X pins σ H s) (xe:Value->Shared->Prop):Inv (inTry X (X.pn++pins) xe) [] σ H s :=
 ⟨⟨I.ok.mod,I.ok.kind,I.ok.glob,I.ok.blt,I.ok.above,I.ok.inj,I.ok.has,I.ok.cab,I.ok.hd,I.ok.frames,I.ok.stk,I.ok.exf,I.ok.bs,I.ok.bsz,I.ok.noex,I.ok.exfs,I.ok.funs,I.ok.frf⟩,I.os,I.bare,I.base,I.loc,I.cell,I.free,I.freeC,fun p hp=>I.pin p (by simpa using hp),I.hok,I.len⟩
theorem Inv.ofTry {X:Cx}{pins pins':List (Addr×Obj)}{σ:St}{H:Hp}{s:Shared}{xe:Value->Shared->Prop}(I:Inv (inTry X (X.pn++pins) xe) pins' σ H s):Inv X pins σ H s :=
 ⟨⟨I.ok.mod,I.ok.kind,I.ok.glob,I.ok.blt,I.ok.above,I.ok.inj,I.ok.has,I.ok.cab,I.ok.hd,I.ok.frames,I.ok.stk,I.ok.exf,I.ok.bs,I.ok.bsz,I.ok.noex,I.ok.exfs,I.ok.funs,I.ok.frf⟩,I.os,I.bare,I.base,I.loc,I.cell,I.free,I.freeC,fun p hp=>I.pin p (List.mem_append_left _ hp),I.hok,I.len⟩
theorem SP.ofTry {X:Cx}{pins pins':List (Addr×Obj)}{xe:Value->Shared->Prop}{D:Ends}{f:Flow}{s':Shared}(h:SP (inTry X (X.pn++pins) xe) pins' D f s'):SP X pins D f s':=by
 cases f with
 | next=>obtain⟨σ',H',I,q⟩:=h;exact⟨σ',H',Inv.ofTry I,q⟩
 | brk=>obtain⟨σ',H',I,q⟩:=h;exact⟨σ',H',Inv.ofTry I,q⟩
 | cont=>obtain⟨σ',H',I,q⟩:=h;exact⟨σ',H',Inv.ofTry I,q⟩
 | ret u=>obtain⟨v,σ',H',I,r,q⟩:=h;exact⟨v,σ',H',Inv.ofTry I,r,q⟩
section
variable {C:Ct}{e:Expr}{x:Str}{p p2 p3 pos:Pos}{md:Md}{me:Ev->Res D}
end
end L2.L3
namespace L2.L3
open PySem PySem.Spec PyProof.Rows
theorem yW6 {K:KFr}{t c:Value}{v:Bool}(h:PySem.W.kitOne K t c=some v) (n:(t == c)=false):PySem.W.kitCls K t c=some v:=by
 rw[PySem.W.kitOne,if_neg (by rw[n];decide)] at h
 exact h
theorem jJ {K:KFr}{A:Addr}{T:String}{v:Bool}(h:PySem.W.kitOne K (.ref A) (.type T)=some v):PySem.W.subIn K (.ref A) (.type T)=some v:=by
 have h2:=yW6 h rfl
 rw[PySem.W.kitCls] at h2
 split at h2
 ·exact h2
 ·cases h2
def cnOf (K:KFr):CN:=⟨fun x=>match PySem.W.nsIn K mainGlobals x with | some (some (.ref a))=>a | _=>0⟩
theorem zA5 {K:KFr}{x:Str}{a:Addr}(h:PySem.W.nsIn K mainGlobals x=some (some (.ref a))):(cnOf K).ad x=a:=by
 show (match PySem.W.nsIn K mainGlobals x with | some (some (.ref a))=>a | _=>0)=a
 rw[h]
theorem yQ8 {F:List D->Res D}{k:Nat}{l:PySem.W.OpenLaw}{q:Program}{loose:List Str}{XP:(Str->Option Value)->Heap->Prop}{YP:World->Heap->Prop}{d:DefRec}{K:Params->KFr}(hT:∀ns:List Int,ns.length<=63->F [.list (ns.map PyData.int)]=.ok (.bool true)) (hr:Room k callerA) (hn:l.most=some 63) (hdf:d.params.defaults=[])
  (hY:∀(w:World) (h:Heap),YP w h->(K w.params).In h) (hL:∀w:World,noLst (K w.params)=true)
  (hF:∀(w:World) (mg:Str->Option Value) (fa:Addr) (h:Heap),(K w.params).In h->h.Ns mainGlobals mg->mg d.name=some (.ref fa) ->
   ∃fd:FuncData,(∀(s:Shared) (u:Value),BindsTo s fd ⟨[u],[]⟩ [("script",u)])/\∀base:Heap,(K w.params).In base->base.Ns mainGlobals mg->FnOk l.prog w (K w.params) mg base (CXV l.prog w) k fa fd ["script"] (@spX (cnOf (K w.params)) false F)) :
  PySem.W.WalkO q loose XP YP l.row.toRowW d [] (fun f vs=>PySem.call f vs):=by
 refine L2.yI6 (n:=63) (k:=k) (x:="script") (CX:=fun w=>CXV l.prog w) (sp:=fun w=>@spX (cnOf (K w.params)) false F) hn (by decide) hdf hr hY hF (fun w H a ns hl hO hS => ?_) fun w H s e s' z => ?_
 ·letI:=cnOf (K w.params)
  refine⟨[.list (ns.map PyData.int)],fun _=>False,fun a z=>z.elim,.cons (.lst (zP6 (hL w) hS) (fun z=>z) (kB ns)) .nil,?_⟩
  rw[hT ns hl]
  intro v H' _ r
  cases (show Rep H' (fun _=>False) v (.bool true) from r)
  rfl
 ·obtain⟨_,_,_,_,_,_,_,_,_,_,_,_,_,z⟩:=z
  exact z
end L2.L3
namespace MR
theorem pigeon:∀(n:Nat) (f:Nat->Nat),(∀i,i<=n->f i<n)->∃i j,i<j/\j<=n/\f i=f j
 | 0,f,h=>absurd (h 0 (Nat.le_refl _)) (by bv_omega)
 | n+1,f,h=>by
  by_cases c:∃i,i<=n/\f i=f (n+1)
  ·obtain⟨i,hi,e⟩:=c
   exact⟨i,n+1,by bv_omega,Nat.le_refl _,e⟩
  ·have ne:∀i,i<=n->f i≠f (n+1):=fun i hi e=>c ⟨i,hi,e⟩
   obtain⟨i,j,h1,h2,e⟩:=pigeon n (fun i=>if f (n+1)<f i then f i-1 else f i) fun i hi=>by
    have a:=h i (by bv_omega)
    have b:=h (n+1) (Nat.le_refl _)
    have d:=ne i hi
    show (if f (n+1)<f i then f i-1 else f i)<n
    split <;> bv_omega
   refine⟨i,j,h1,by bv_omega,?_⟩
   have di:=ne i (by bv_omega)
   have dj:=ne j h2
   have e:(if f (n+1)<f i then f i-1 else f i)=(if f (n+1)<f j then f j-1 else f j):=e
   split at e <;> split at e <;> bv_omega
structure Ord (n:Nat) (xs:List Int):Prop where
 len:xs.length=n
 bd:∀i,i<n->0<=xs.getD i 0/\xs.getD i 0<n
 inj:∀i j,i<n->j<n->xs.getD i 0=xs.getD j 0->i=j
def nxt (xs:List Int) (b:Nat):Nat:=(xs.getD b 0).toNat
def it (xs:List Int):Nat->Nat->Nat
 | 0,b=>b
 | k+1,b=>nxt xs (it xs k b)
section
variable {n:Nat}{xs:List Int}
theorem Ord.yT9 (o:Ord n xs){b:Nat}(h:b<n):nxt xs b<n:=by
 have:=o.bd b h
 unfold nxt;bv_omega
theorem Ord.gL (o:Ord n xs){b:Nat}(h:b<n):xs.getD b 0=(nxt xs b:Int):=by
 have:=o.bd b h
 unfold nxt;bv_omega
theorem Ord.zF6 (o:Ord n xs){b c:Nat}(h:b<n) (h':c<n) (e:nxt xs b=nxt xs c):b=c :=
 o.inj b c h h' (by rw[o.gL h,o.gL h',e])
theorem Ord.wW (o:Ord n xs){b:Nat}(h:b<n):∀k,it xs k b<n
 | 0=>h
 | k+1=>o.yT9 (o.wW h k)
theorem vN (xs:List Int) (b:Nat) (j:Nat):∀k,it xs (k+j) b=it xs k (it xs j b)
 | 0=>by rw[Nat.zero_add];rfl
 | k+1=>by rw[Nat.add_right_comm];show nxt xs (it xs (k+j) b)=nxt xs (it xs k (it xs j b));rw[vN xs b j k]
theorem Ord.zZ5 (o:Ord n xs){b c:Nat}(h:b<n) (h':c<n):∀k,it xs k b=it xs k c->b=c
 | 0,e=>e
 | k+1,e=>o.zZ5 h h' k (o.zF6 (o.wW h k) (o.wW h' k) e)
theorem Ord.back (o:Ord n xs){b:Nat}(h:b<n):∃p,1<=p/\p<=n/\it xs p b=b:=by
 obtain⟨i,j,h1,h2,e⟩:=pigeon n (fun i=>it xs i b) fun i _=>o.wW h i
 refine⟨j-i,by bv_omega,by bv_omega,?_⟩
 have e2:it xs i (it xs (j-i) b)=it xs i b:=by
  rw[<-vN,show i+(j-i)=j by bv_omega]
  exact e.symm
 exact o.zZ5 (o.wW h _) h i e2
def perGo (xs:List Int) (b:Nat):Nat->Nat->Nat
 | 0,k=>k
 | fuel+1,k=>if it xs k b=b then k else perGo xs b fuel (k+1)
theorem aI (xs:List Int) (b:Nat):∀(fuel k:Nat),(∃p,k<=p/\p<=k+fuel/\it xs p b=b) ->
  k<=perGo xs b fuel k/\perGo xs b fuel k<=k+fuel/\it xs (perGo xs b fuel k) b=b/\∀i,k<=i->i<perGo xs b fuel k->it xs i b≠b
 | 0,k,⟨p,h1,h2,e⟩=>by
  have:p=k:=by bv_omega
  subst this
  exact⟨Nat.le_refl _,Nat.le_refl _,e,fun i a c=>absurd (show i<p from c) (by bv_omega)⟩
 | fuel+1,k,⟨p,h1,h2,e⟩=>by
  by_cases c:it xs k b=b
  ·rw[perGo,if_pos c]
   exact⟨Nat.le_refl _,by bv_omega,c,fun i a d=>absurd d (by bv_omega)⟩
  ·rw[perGo,if_neg c]
   have hp:k+1<=p:=by
    rcases Nat.lt_or_ge k p with q | q
    ·exact q
    ·have:p=k:=by bv_omega
     subst this
     exact absurd e c
   obtain⟨a1,a2,a3,a4⟩:=aI xs b fuel (k+1) ⟨p,hp,by bv_omega,e⟩
   refine⟨by bv_omega,by bv_omega,a3,fun i hi hl => ?_⟩
   by_cases q:i=k
   ·rw[q];exact c
   ·exact a4 i (by bv_omega) hl
def per (n:Nat) (xs:List Int) (b:Nat):Nat:=perGo xs b (n-1) 1
theorem Ord.zD (o:Ord n xs){b:Nat}(h:b<n):1<=per n xs b/\per n xs b<=n/\it xs (per n xs b) b=b/\∀i,1<=i->i<per n xs b->it xs i b≠b:=by
 obtain⟨p,h1,h2,e⟩:=o.back h
 obtain⟨a1,a2,a3,a4⟩:=aI xs b (n-1) 1 ⟨p,h1,by bv_omega,e⟩
 exact⟨a1,by unfold per;bv_omega,a3,a4⟩
theorem Ord.zZ8 (o:Ord n xs){b:Nat}(h:b<n){i j:Nat}(hij:i<j) (hj:j<per n xs b):it xs i b≠it xs j b:=fun e=>by
 obtain⟨_,_,_,a4⟩:=o.zD h
 refine a4 (j-i) (by bv_omega) (by bv_omega) ?_
 refine o.zZ5 (o.wW h _) h i ?_
 rw[<-vN,show i+(j-i)=j by bv_omega]
 exact e.symm
theorem yU5 (xs:List Int) (b p:Nat) (e:it xs p b=b):∀k,it xs (k*p) b=b
 | 0=>by rw[Nat.zero_mul];rfl
 | k+1=>by rw[Nat.succ_mul,vN,e,yU5 xs b p e k]
theorem Ord.xU1 (o:Ord n xs){b:Nat}(h:b<n) (k:Nat):it xs k b=it xs (k%per n xs b) b:=by
 obtain⟨a1,_,a3,_⟩:=o.zD h
 have e:k=k%per n xs b+(k / per n xs b)*per n xs b:=by rw[Nat.mul_comm];exact (Nat.mod_add_div k (per n xs b)).symm
 conv=>lhs;rw[e,vN,yU5 xs b _ a3]
def In (n:Nat) (xs:List Int) (b c:Nat):Prop:=∃i,i<per n xs b/\it xs i b=c
theorem Ord.uP (o:Ord n xs){b:Nat}(h:b<n) (k:Nat):In n xs b (it xs k b):=by
 obtain⟨a1,_⟩:=o.zD h
 exact⟨k%per n xs b,Nat.mod_lt _ (by bv_omega),(o.xU1 h k).symm⟩
theorem Ord.zD7 (o:Ord n xs){b:Nat}(h:b<n):In n xs b b:=o.uP h 0
theorem Ord.jV (o:Ord n xs){b c:Nat}(h:b<n) (hc:In n xs b c):c<n:=by
 obtain⟨i,_,rfl⟩:=hc
 exact o.wW h i
theorem Ord.cM (o:Ord n xs){b c:Nat}(h:b<n) (hc:In n xs b c):In n xs c b:=by
 obtain⟨i,hi,rfl⟩:=hc
 obtain⟨a1,_,a3,_⟩:=o.zD h
 have e:it xs (per n xs b-i) (it xs i b)=b:=by rw[<-vN,show per n xs b-i+i=per n xs b by bv_omega];exact a3
 have:=o.uP (o.wW h i) (per n xs b-i)
 rw[e] at this
 exact this
theorem Ord.bN (o:Ord n xs){b c d:Nat}(h:b<n) (hc:In n xs b c) (hd:In n xs c d):In n xs b d:=by
 obtain⟨i,_,rfl⟩:=hc
 obtain⟨j,_,rfl⟩:=hd
 rw[<-vN]
 exact o.uP h _
def ring (n:Nat) (xs:List Int) (b:Nat):List Nat:=(List.range (per n xs b)).map fun i=>it xs i b
theorem zJ (n:Nat) (xs:List Int) (b:Nat):(ring n xs b).length=per n xs b:=by unfold ring;simp
theorem yY {b c:Nat}:c∈ring n xs b↔In n xs b c:=by
 unfold ring In
 simp only[List.mem_map,List.mem_range]
theorem Ord.fY (o:Ord n xs){b:Nat}(h:b<n):(ring n xs b).Nodup:=by
 unfold ring List.Nodup
 rw[List.pairwise_map]
 refine List.Pairwise.imp_of_mem ?_ (List.pairwise_lt_range (n:=per n xs b))
 intro i j hi hj hlt
 exact o.zZ8 h hlt (List.mem_range.mp hj)
theorem Ord.vQ (o:Ord n xs){b c:Nat}(h:b<n) (hc:In n xs b c):per n xs c=per n xs b:=by
 have hcl:=o.jV h hc
 obtain⟨i,hi,rfl⟩:=hc
 obtain⟨a1,a2,a3,a4⟩:=o.zD h
 obtain⟨b1,b2,b3,b4⟩:=o.zD hcl
 have e1:it xs (per n xs b) (it xs i b)=it xs i b:=by rw[<-vN,Nat.add_comm,vN,a3]
 have e2:it xs (per n xs (it xs i b)) b=b:=by
  refine o.zZ5 (o.wW h _) h i ?_
  rw[<-vN,Nat.add_comm,vN,b3]
 rcases Nat.lt_trichotomy (per n xs (it xs i b)) (per n xs b) with q | q | q
 ·exact absurd e2 (a4 _ b1 q)
 ·exact q
 ·exact absurd e1 (b4 _ a1 q)
def has (rs:List (List Nat)) (b:Nat):Bool:=rs.any fun r=>r.contains b
def rgs (n:Nat) (xs:List Int):Nat->List (List Nat)
 | 0=>[]
 | b+1=>if has (rgs n xs b) b then rgs n xs b else rgs n xs b ++ [ring n xs b]
theorem jG {rs:List (List Nat)}{b:Nat}:has rs b=true ↔ ∃r∈rs,b∈r:=by
 unfold has
 simp[List.any_eq_true]
structure Rgs (n:Nat) (xs:List Int) (m:Nat) (rs:List (List Nat)):Prop where
 each:∀r∈rs,∃b,b<m/\r=ring n xs b/\∀c,In n xs b c->b<=c
 cover:∀c,c<m->∃r∈rs,c∈r
 nodup:rs.flatten.Nodup
 rise:rs.Pairwise fun r r'=>∀x∈r.head?,∀y∈r'.head?,x<y
theorem jX (o:Ord n xs){b:Nat}(h:b<n):(ring n xs b).head?=some b:=by
 obtain⟨a1,_⟩:=o.zD h
 unfold ring
 obtain⟨p,hp⟩:∃p,per n xs b=p+1:=⟨per n xs b-1,by bv_omega⟩
 rw[hp,List.range_succ_eq_map]
 rfl
theorem Ord.yG (o:Ord n xs):∀m,m<=n->Rgs n xs m (rgs n xs m)
 | 0,_=>⟨fun r hr=>by simp[rgs] at hr,fun c hc=>absurd hc (by bv_omega),by simp[rgs],by simp[rgs]⟩
 | m+1,h=>by
  have ih:=o.yG m (by bv_omega)
  by_cases c:has (rgs n xs m) m=true
  ·rw[rgs,if_pos c]
   refine⟨fun r hr => ?_,fun d hd => ?_,ih.nodup,ih.rise⟩
   ·obtain⟨b,hb,e,hm⟩:=ih.each r hr
    exact⟨b,by bv_omega,e,hm⟩
   ·by_cases q:d=m
    ·rw[q];exact jG.mp c
    ·exact ih.cover d (by bv_omega)
  ·rw[rgs,if_neg c]
   have hm:m<n:=by bv_omega
   have apart:∀d,In n xs m d->¬∃r∈rgs n xs m,d∈r:=fun d hd ⟨r,hr,hdr⟩=>by
    obtain⟨b,hb,rfl,_⟩:=ih.each r hr
    have h1:In n xs b d:=yY.mp hdr
    have h2:In n xs b m:=o.bN (by bv_omega) h1 (o.cM hm hd)
    exact c (jG.mpr ⟨_,hr,yY.mpr h2⟩)
   refine⟨fun r hr => ?_,fun d hd => ?_,?_,?_⟩
   ·rcases List.mem_append.mp hr with hr | hr
    ·obtain⟨b,hb,e,hmin⟩:=ih.each r hr
     exact⟨b,by bv_omega,e,hmin⟩
    ·have:r=ring n xs m:=by simpa using hr
     refine⟨m,by bv_omega,this,fun d hd => ?_⟩
     rcases Nat.lt_or_ge d m with q | q
     ·exact absurd (ih.cover d q) (apart d hd)
     ·exact q
   ·by_cases q:d=m
    ·rw[q]
     exact⟨_,List.mem_append_right _ (by simp),yY.mpr (o.zD7 hm)⟩
    ·obtain⟨r,hr,hd⟩:=ih.cover d (by bv_omega)
     exact⟨r,List.mem_append_left _ hr,hd⟩
   ·rw[List.flatten_append,List.nodup_append]
    refine⟨ih.nodup,by simpa using o.fY hm,fun a ha b hb e => ?_⟩
    have hb':b∈ring n xs m:=by simpa using hb
    subst e
    obtain⟨r,hr,har⟩:=List.mem_flatten.mp ha
    exact apart a (yY.mp hb') ⟨r,hr,har⟩
   ·rw[List.pairwise_append]
    refine⟨ih.rise,by simp,fun r hr r' hr' x hx y hy => ?_⟩
    have e:r'=ring n xs m:=by simpa using hr'
    obtain⟨b,hb,rfl,_⟩:=ih.each r hr
    rw[jX o (by bv_omega)] at hx
    rw[e,jX o hm] at hy
    have hx:x=b:=by simpa using hx.symm
    have hy:y=m:=by simpa using hy.symm
    bv_omega
end
end MR
namespace L2
open PySem PySem.Spec PyProof.Rows
section
variable {κ:Type} [DecidableEq κ]
def valV (kvs:List (κ×V)) (k:κ):Option V:=(kvs.find? fun kv=>decide (kv.1=k)).map (·.2)
def putK (kvs:List (κ×V)) (k:κ) (v:V):List (κ×V) :=
 if (kvs.any fun kv=>decide (kv.1=k))=true then kvs.map (fun kv=>if kv.1=k then (kv.1,v) else kv) else kvs ++ [(k,v)]
def dropK (kvs:List (κ×V)) (k:κ):List (κ×V):=kvs.filter fun kv=>decide (kv.1≠k)
theorem bB {p:κ×V}{r:List (κ×V)}{k:κ}(e:p.1=k):valV (p::r) k=some p.2:=by simp[valV,List.find?_cons,e]
theorem aZ {p:κ×V}{r:List (κ×V)}{k:κ}(e:¬p.1=k):valV (p::r) k=valV r k:=by simp[valV,List.find?_cons,e]
theorem fO (k:κ):∀kvs:List (κ×V),(kvs.any fun kv=>decide (kv.1=k))=(valV kvs k).isSome
 | []=>rfl
 | p::r=>by
  rw[List.any_cons]
  by_cases e:p.1=k
  ·simp only[bB e,decide_eq_true e,Bool.true_or,Option.isSome_some]
  ·rw[aZ e,decide_eq_false e,Bool.false_or];exact fO k r
theorem bR (kvs:List (κ×V)) (k:κ) (v:V):(putK kvs k v).length<=kvs.length+1:=by
 unfold putK
 split
 ·rw[List.length_map];bv_omega
 ·rw[List.length_append,List.length_cons,List.length_nil];bv_omega
theorem yN2 {kvs:List (κ×V)}{k:κ}(v:V) (h:valV kvs k=none):putK kvs k v=kvs ++ [(k,v)]:=by
 unfold putK
 rw[fO,h]
 exact if_neg (by decide)
theorem RelO.dS {o:Option V}{u:Option Value}(r:RelO o u):o.isSome=u.isSome:=by
 cases o with
 | none=>cases u with
  | none=>rfl
  | some _=>exact (show False from r).elim
 | some _=>cases u with
  | none=>exact (show False from r).elim
  | some _=>rfl
theorem RelO.getD {o:Option V}{u:Option Value}{d:V}{d':Value}(r:RelO o u) (rd:RelV d d'):RelV (o.getD d) (u.getD d'):=by
 cases o with
 | none=>cases u with
  | none=>exact rd
  | some _=>exact (show False from r).elim
 | some _=>cases u with
  | none=>exact (show False from r).elim
  | some _=>exact r
theorem KV.val {kvs:List (κ×V)}{vs:List (κ×Value)}(r:KV kvs vs) (k:κ):RelO (valV kvs k) (valueAt vs k):=by
 unfold KV at r
 induction r with
 | nil=>exact True.intro
 | @cons p q ps qs h t ih =>
  obtain⟨h1,h2⟩:=h
  by_cases e:p.1=k
  ·have e':q.1=k:=h1.symm.trans e
   have b:valueAt (q::qs) k=some q.2:=by simp[valueAt,List.find?_cons,e']
   rw[bB e,b];exact h2
  ·have e':¬q.1=k:=fun z=>e (h1.trans z)
   have b:valueAt (q::qs) k=valueAt qs k:=by simp[valueAt,List.find?_cons,e']
   rw[aZ e,b];exact ih
theorem KV.any {kvs:List (κ×V)}{vs:List (κ×Value)}(r:KV kvs vs) (k:κ):(kvs.any fun kv=>decide (kv.1=k))=vs.any fun kv=>decide (kv.1=k):=by
 unfold KV at r
 induction r with
 | nil=>rfl
 | cons h t ih=>rw[List.any_cons,List.any_cons,ih,h.1]
theorem KV.repl {kvs:List (κ×V)}{vs:List (κ×Value)}(r:KV kvs vs) (k:κ){y:V}{u:Value}(ry:RelV y u) :
  KV (kvs.map fun kv=>if kv.1=k then (kv.1,y) else kv) (vs.map fun kv=>if kv.1=k then (kv.1,u) else kv):=by
 unfold KV at r ⊢
 induction r with
 | nil=>exact .nil
 | @cons p q ps qs h t ih =>
  rw[List.map_cons,List.map_cons]
  refine .cons ?_ ih
  obtain⟨h1,h2⟩:=h
  by_cases e:p.1=k
  ·rw[if_pos e,if_pos (h1.symm.trans e)];exact⟨h1,ry⟩
  ·rw[if_neg e,if_neg (fun z=>e (h1.trans z))];exact⟨h1,h2⟩
theorem KV.put {kvs:List (κ×V)}{vs:List (κ×Value)}(r:KV kvs vs) (k:κ){y:V}{u:Value}(ry:RelV y u):KV (putK kvs k y) (stored vs k u):=by
 unfold putK stored
 rw[r.any k]
 by_cases e:(vs.any fun kv=>decide (kv.1=k))=true
 ·rw[if_pos e,if_pos e];exact r.repl k ry
 ·rw[if_neg e,if_neg e];exact Paired.snoc r ⟨rfl,ry⟩
theorem KV.drop {kvs:List (κ×V)}{vs:List (κ×Value)}(r:KV kvs vs) (k:κ):KV (dropK kvs k) (without vs k):=by
 unfold KV at r ⊢
 unfold dropK without
 induction r with
 | nil=>exact .nil
 | @cons p q ps qs h t ih =>
  obtain⟨h1,h2⟩:=h
  rw[List.filter_cons,List.filter_cons]
  by_cases e:p.1=k
  ·have a:¬decide (p.1≠k)=true:=by simp[e]
   have b:¬decide (q.1≠k)=true:=by simp[h1.symm.trans e]
   rw[if_neg a,if_neg b];exact ih
  ·have e':¬q.1=k:=fun z=>e (h1.trans z)
   have a:decide (p.1≠k)=true:=by simp[e]
   have b:decide (q.1≠k)=true:=by simp[e']
   rw[if_pos a,if_pos b];exact .cons ⟨h1,h2⟩ ih
theorem KV.length {kvs:List (κ×V)}{vs:List (κ×Value)}(r:KV kvs vs):kvs.length=vs.length:=Paired.length r
end
theorem yZ9 {P:Program}{w:World}{k:Key}{u:Value}(r:RelV (kV k) u):(mixKind P w).is k u=true:=by
 cases k with
 | inl i=>obtain⟨t,e⟩:=(show ∃t,u=Value.int i t from r);subst e;exact zJ8 P w i t
 | inr x=>obtain⟨t,e⟩:=(show ∃t,u=Value.str x t from r);subst e;exact zI1 P w x t
theorem zU9 {P:Program}{w:World}:∀{ks:List Key}{us:List Value},Vals (ks.map kV) us->ItemsAre (mixKind P w) ks us
 | [],_,r=>by rw[List.map_nil] at r;cases r;exact .nil
 | k::ks,_,r=>by
  rw[List.map_cons] at r
  cases r with
  | cons h t=>exact .cons (yZ9 h) (zU9 t)
abbrev KT (H:Hp):List (List Key×V)->List (List Key×Addr×Value)->Prop:=Paired fun p q=>p.1=q.1/\H q.2.1=some (.tup (p.1.map kV))/\RelV p.2 q.2.2
theorem KT.val {H:Hp}{kvs:List (List Key×V)}{xs:List (List Key×Addr×Value)}(r:KT H kvs xs) (k:List Key):RelO (valV kvs k) ((atKey xs k).map (·.2)):=by
 induction r with
 | nil=>exact True.intro
 | @cons p q ps qs h t ih =>
  obtain⟨h1,_,h2⟩:=h
  by_cases e:p.1=k
  ·have e':q.1=k:=h1.symm.trans e
   have b:atKey (q::qs) k=some q.2:=by simp[atKey,List.find?_cons,e']
   rw[bB e,b];exact h2
  ·have e':¬q.1=k:=fun z=>e (h1.trans z)
   have b:atKey (q::qs) k=atKey qs k:=by simp[atKey,List.find?_cons,e']
   rw[aZ e,b];exact ih
theorem KT.repl {H:Hp}{kvs:List (List Key×V)}{xs:List (List Key×Addr×Value)}(r:KT H kvs xs) (k:List Key){y:V}{u:Value}(ry:RelV y u) :
  KT H (kvs.map fun kv=>if kv.1=k then (kv.1,y) else kv) (xs.map (putAt k u)):=by
 induction r with
 | nil=>exact .nil
 | @cons p q ps qs h t ih =>
  rw[List.map_cons,List.map_cons]
  refine .cons ?_ ih
  obtain⟨h1,h2,h3⟩:=h
  unfold putAt
  by_cases e:p.1=k
  ·rw[if_pos e,if_pos (h1.symm.trans e)];exact⟨h1,h2,ry⟩
  ·rw[if_neg e,if_neg (fun z=>e (h1.trans z))];exact⟨h1,h2,h3⟩
theorem KT.put {H:Hp}{kvs:List (List Key×V)}{xs:List (List Key×Addr×Value)}(r:KT H kvs xs) (k:List Key){b:Addr}{y:V}{u:Value}(hb:H b=some (.tup (k.map kV))) (ry:RelV y u) :
  KT H (putK kvs k y) (storedH xs k b u):=by
 have e:(kvs.any fun kv=>decide (kv.1=k))=(atKey xs k).isSome:=by
  rw[fO,(r.val k).dS,Option.isSome_map]
 unfold putK storedH
 rw[e]
 by_cases q:(atKey xs k).isSome=true
 ·rw[if_pos q,if_pos q];exact r.repl k ry
 ·rw[if_neg q,if_neg q];exact Paired.snoc r ⟨rfl,hb,ry⟩
theorem KT.keeps {H H':Hp}{kvs:List (List Key×V)}{xs:List (List Key×Addr×Value)}(r:KT H kvs xs) (ht:∀b ys,H b=some (.tup ys)->H' b=some (.tup ys)):KT H' kvs xs :=
 Paired.mapP r fun _ _ z=>⟨z.1,ht _ _ z.2.1,z.2.2⟩
section
variable {P:Program}{w:World}{H:Hp}{h:Heap}{a:Addr}
theorem zP6 {u:HO}(ok:HOk P w H h) (e:Rd H a u):ObjOk P w H h a u:=e.ok ok
theorem yJ9 {kvs:List (Key×V)}(ok:HOk P w H h) (e:Rd H a (.dK kvs)):kvs.length<=sizeLine/\(a == sysModules)=false/\∃vs,KV kvs vs/\h.DictOf (mixKind P w) a vs :=
 show ObjOk P w H h a (.dK kvs) from zP6 ok e
theorem xP5 {kvs:List (Key×V)}(ok:HOk P w H h) (e:H a=some (.dK kvs)):kvs.length<=sizeLine/\(a == sysModules)=false/\∃vs,KV kvs vs/\h.DictOf (mixKind P w) a vs:=yJ9 ok (.inl e)
theorem zK7 {ks:List Key}(ok:HOk P w H h) (e:H a=some (.tup (ks.map kV))):(tupleKind (mixKind P w)).is h ks a:=by
 obtain⟨_,its,r,o,h1,h2,⟨n,h3⟩,_⟩:=(show ObjOk P w H h a (.tup (ks.map kV)) from ok a _ e)
 exact⟨o,its.toArray,n,h1,h2,h3,by simpa using zU9 r⟩
theorem yJ5 {kvs:List (List Key×V)}(ok:HOk P w H h) (e:Rd H a (.dT kvs)):kvs.length<=sizeLine/\(a == sysModules)=false /\
  ∃xs,KT H kvs xs/\h.DictOfH (tupleKind (mixKind P w)) a xs:=by
 obtain⟨z,y,xs,r,o,es,ep,h1,h2,h3,h4,h5⟩:=(show ObjOk P w H h a (.dT kvs) from zP6 ok e)
 refine⟨z,y,xs,r,o,es,ep,h1,h2,h3,h4,fun x hx => ?_,h5⟩
 have all:∀{l:List (List Key×V)}{m:List (List Key×Addr×Value)},KT H l m->∀x∈m,(tupleKind (mixKind P w)).is h x.1 x.2.1:=by
  intro l m q
  induction q with
  | nil=>intro x hx;exact nomatch hx
  | @cons p q ps qs hq t ih =>
   intro x hx
   rcases List.mem_cons.mp hx with e | hx
   ·subst e
    exact zK7 ok (by rw[<-hq.1];exact hq.2.1)
   ·exact ih x hx
 exact all r x hx
theorem xQ3 {kvs:List (List Key×V)}(ok:HOk P w H h) (e:H a=some (.dT kvs)):kvs.length<=sizeLine/\(a == sysModules)=false /\
  ∃xs,KT H kvs xs/\h.DictOfH (tupleKind (mixKind P w)) a xs:=yJ5 ok (.inl e)
end
def DGet (H:Hp) (a:Addr) (y:V) (r:Option V):Prop :=
 (∃kvs k,Rd H a (.dK kvs)/\y=kV k/\r=valV kvs k)\/∃kvs k b,Rd H a (.dT kvs)/\y=.ref b/\H b=some (.tup (k.map kV))/\r=valV kvs k
def DPut (H:Hp) (a:Addr) (y v:V) (H':Hp):Prop :=
 (∃kvs k,H a=some (.dK kvs)/\y=kV k/\kvs.length<sizeLine/\H'=upd H a (.dK (putK kvs k v))) \/
 ∃kvs k b,H a=some (.dT kvs)/\y=.ref b/\H b=some (.tup (k.map kV))/\kvs.length<sizeLine/\H'=upd H a (.dT (putK kvs k v))
theorem DGet.k {H:Hp}{a:Addr}{kvs:List (Key×V)}{k:Key}(e:H a=some (.dK kvs)):DGet H a (kV k) (valV kvs k):=.inl ⟨kvs,k,.inl e,rfl,rfl⟩
theorem DGet.t {H:Hp}{a b:Addr}{kvs:List (List Key×V)}{k:List Key}(e:H a=some (.dT kvs)) (eb:H b=some (.tup (k.map kV))):DGet H a (.ref b) (valV kvs k):=.inr ⟨kvs,k,b,.inl e,rfl,eb,rfl⟩
theorem DPut.k {H:Hp}{a:Addr}{kvs:List (Key×V)}{k:Key}{v:V}(e:H a=some (.dK kvs)) (hl:kvs.length<sizeLine):DPut H a (kV k) v (upd H a (.dK (putK kvs k v))):=.inl ⟨kvs,k,e,rfl,hl,rfl⟩
theorem DPut.t {H:Hp}{a b:Addr}{kvs:List (List Key×V)}{k:List Key}{v:V}(e:H a=some (.dT kvs)) (eb:H b=some (.tup (k.map kV))) (hl:kvs.length<sizeLine) :
  DPut H a (.ref b) v (upd H a (.dT (putK kvs k v))):=.inr ⟨kvs,k,b,e,rfl,eb,hl,rfl⟩
section
variable {X:Cx}{pins:List (Addr×Obj)}{σ:St}{H:Hp}{s:Shared}{a:Addr}{y v:V}{u r:Value}{o:Option V}{A:Around}{E:Value->Shared->Prop}
theorem Inv.big (I:Inv X pins σ H s):sysModules<s.heap.objs.size:=by
 have h:mainGlobals<s.heap.objs.size:=(I.mod.glob.keeps I.bk).lt
 exact Nat.lt_trans (by decide) h
theorem yD4 {Q:Value->Shared->Prop}(hu:A.units+1<cLine) (I:Inv X pins σ H s) (g:DGet H a y o) (ry:RelV y u) (h:∀s',Inv X pins σ H s'->Q (.bool (!o.isSome)) s') :
  wpAny (model X.prog X.w) A (compareOp .NotIn u (.ref a)) Q E s:=by
 rcases g with ⟨kvs,k,e,ey,l⟩ | ⟨kvs,k,b,e,ey,eb,l⟩
 ·subst ey
  obtain⟨z,hd,vs,rel,dd⟩:=yJ9 I.hok e
  refine wpAny_notIn_of (yZ9 ry) hd dd.mapOf ?_
  rw[<-(rel.val k).dS,<-l]
  exact h _ (I.tok _)
 ·subst ey
  cases (show u=Value.ref b from ry)
  obtain⟨z,hd,xs,rel,dd⟩:=yJ5 I.hok e
  refine wpAny_notIn_heap (tupleKind_room_in1 hu) (zK7 I.hok eb) hd dd ?_
  have q:=(rel.val k).dS
  rw[Option.isSome_map] at q
  rw[<-q,<-l]
  exact h _ (I.tok _)
theorem zC3 {h':Heap}{t':Nat}{ob:HO}(I:Inv X pins σ H s) (mu:Mut (H a)) (hs:Heap.SameBut a s.heap h') (he:∃q,h'.get? a=some q) (new:ObjOk X.prog X.w (upd H a ob) h' a ob) :
  Inv X pins σ (upd H a ob) { s with heap:=h',toks:=t' } :=
 I.write (x:=a) (e:=a) mu (.inl rfl) (fun b q hb z=>(hs.2 b hb).trans z) he new
theorem xU9 {P:Program}{w:World}{H':Hp}{h':Heap}{kvs:List (Key×V)}{vs:List (Key×Value)}(z:kvs.length<=sizeLine) (hd:(a == sysModules)=false) (rel:KV kvs vs) (dd:h'.DictOf (mixKind P w) a vs) :
  ObjOk P w H' h' a (.dK kvs):=⟨z,hd,vs,rel,dd⟩
theorem yR6 {H':Hp}{Q:Unit->Shared->Prop}(hu:A.units+1<cLine) (I:Inv X pins σ H s) (g:DPut H a y v H') (ry:RelV y u) (rv:RelV v r) (h:∀s',Inv X pins σ H' s'->Q () s') :
  wpAny (model X.prog X.w) A (setItem (.ref a) u r) Q E s:=by
 rcases g with ⟨kvs,k,e,ey,l,eH⟩ | ⟨kvs,k,b,e,ey,eb,l,eH⟩
 ·subst ey eH
  obtain⟨z,hd,vs,rel,dd⟩:=xP5 I.hok e
  have hz:vs.length<=sizeLine:=by rw[<-rel.length];exact z
  have hl:(putK kvs k v).length<=sizeLine:=by have:=bR kvs k v;bv_omega
  refine wpAny_setItem_pairs (hsz:=hz) (yZ9 ry) dd fun h' dd' hs=>h _ ?_
  have he:∃q,h'.get? a=some q:=let ⟨q,_,_,hq,_⟩:=dd'; ⟨q,hq⟩
  exact zC3 I (by rw[e];exact True.intro) hs he (xU9 hl hd (rel.put k rv) dd')
 ·subst ey eH
  cases (show u=Value.ref b from ry)
  obtain⟨z,hd,xs,rel,dd⟩:=xQ3 I.hok e
  have hz:xs.length<=sizeLine:=by rw[<-Paired.length rel];exact z
  have hl:(putK kvs k v).length<=sizeLine:=by have:=bR kvs k v;bv_omega
  refine wpAny_setItem_heap (hsz:=hz) (tupleKind_room_in1 hu) (zK7 I.hok eb) dd fun h' dd' hs=>h _ ?_
  obtain⟨q,es,ep,hq,h2,h3,h4,_,h5⟩:=dd'
  refine zC3 I (by rw[e];exact True.intro) hs ⟨q,hq⟩ ⟨hl,hd,_,(rel.put k eb rv).keeps fun c ys ec => ?_,q,es,ep,hq,h2,h3,h4,h5⟩
  rw[zN (xP2 ec e (fun z=>nomatch z))]
  exact ec
end
section
variable {X:Cx}{pins:List (Addr×Obj)}{σ:St}{H:Hp}{s:Shared}{a:Addr}{kvs:List (Key×V)}{k:Key}{u:Value}{A:Around}{E:Value->Shared->Prop}
end
def tDNotIn (ty td:TE):TE:=fun σ H Q=>ty σ H fun y H1=>td σ H1 fun x H2=>∃a o,x=.ref a/\DGet H2 a y o/\Q (.bl (!o.isSome)) H2
def sDPut (td ty tv:TE):TS:=fun D σ H=>tv σ H fun v H1=>td σ H1 fun x H2=>ty σ H2 fun y H3=>∃a H4,x=.ref a/\DPut H3 a y v H4/\D.nx σ H4
section
variable {X:Cx}{o i e value:Expr}{pos pos' tpos:Pos}{td ty tv:TE}
theorem yR1 (hu:X.A.units+1<cLine) (hi:PE X i ty) (ho:PE X o td):PC X .NotIn i o (tDNotIn ty td):=by
 intro pins s σ H Q I h
 refine thn (hi pins s σ H _ I h) fun iv s1 ⟨y,H1,I1,ry,q1⟩=>thn (ho pins s1 σ H1 _ I1 q1) fun u s2 ⟨x,H2,I2,rx,a,ov,ex,g,q2⟩ => ?_
 subst ex
 obtain rfl:u=Value.ref a:=rx
 exact yD4 hu I2 g ry fun s3 I3=>⟨.bl (!ov.isSome),H2,I3,rfl,q2⟩
theorem yH5 (hu:X.A.units+1<cLine) (ho:PE X o td) (hi:PE X i ty) (hv:PE X value tv) (hs:swapsWith value (some (.Subscript o i pos')) pos.line X.env=pure false) :
  PS X (.Assign [.Subscript o i pos'] value pos) (sDPut td ty tv):=by
 intro pins s σ H D I h
 refine wpAny_Assign_Subscript (thn (hv pins s σ H _ I h) fun r s1 ⟨v,H1,I1,rv,q1⟩=>thn (ho pins s1 σ H1 _ I1 q1) fun u s2 ⟨x,H2,I2,rx,q2⟩=>thn (hi pins s2 σ H2 _ I2 q2) fun iv s3 ⟨y,H3,I3,ry,a,H4,ex,g,q3⟩ => ?_) hs
 subst ex
 obtain rfl:u=Value.ref a:=rx
 exact yR6 hu I3 g ry rv fun s4 I4=>⟨σ,H4,I4,q3⟩
end
theorem yN1 {P:Program}{w:World}{H:Hp}(h:Heap) (hb:sysModules<h.objs.size):ObjOk P w H (h.push { cls:=.type "dict",data:=.dict #[] }) h.objs.size (.dK []) :=
 ⟨Nat.zero_le _,beq_eq_false_iff_ne.mpr (Ne.symm (Nat.ne_of_lt hb)),[],.nil,Heap.DictOf.new h⟩
def tDNewK:TE:=fun _ H Q=>∀p,H p=none->Q (.ref p) (upd H p (.dK []))
section
variable {X:Cx}{pos:Pos}
theorem yL5:PE X (.Dict [] [] pos) tDNewK:=fun pins s σ H Q I h =>
 wpAny_Dict_empty ⟨.ref s.heap.objs.size,_,I.laid (a:=s.heap.objs.size) (o:=.dK []) (t':=s.toks) (fun _ _ q=>Heap.get?_push_of_some _ q) (Nat.le_refl _) (yN1 s.heap I.big),rfl,h _ (I.hok.fresh (Nat.le_refl _))⟩
end
end L2
namespace L2.L3
open PySem PySem.Spec PyProof.Rows MR
variable [CN]
def rgI (r:List Nat):List Int:=r.map fun (b:Nat)=>(b:Int)
def ringsR (n:Nat) (xs:List Int) (m:Nat):List D:=(rgs n xs m).map fun r=>lI (rgI r)
open Classical in
def ringsF:List D->Res D
 | [.tuple es]=>match intsOf es with
  | some xs=>if Ord xs.length xs/\xs.length<=400 then .ok (.list (ringsR xs.length xs xs.length)) else .no
  | none=>.no
 | [.list es]=>match intsOf es with
  | some xs=>if Ord xs.length xs/\xs.length<=400 then .ok (.list (ringsR xs.length xs xs.length)) else .no
  | none=>.no
 | _=>.no
def Sq2 (H:Hp) (a:Addr) (xs:List Int):Prop:=Rd H a (.tup (xs.map V.int))\/Rd H a (.lst (xs.map V.int))
theorem zC5 {n:Nat}{xs:List Int}(o:Ord n xs) (hn:n<=400):ringsF [lI xs]=.ok (.list (ringsR n xs n)):=by
 have e:=o.len
 subst e
 unfold ringsF
 simp only[intsOf_map]
 rw[if_pos ⟨o,hn⟩]
theorem yQ7 {n:Nat}{xs:List Int}(o:Ord n xs) (hn:n<=400):ringsF [tI xs]=.ok (.list (ringsR n xs n)):=by
 have e:=o.len
 subst e
 unfold ringsF
 simp only[intsOf_map]
 exact if_pos ⟨o,hn⟩
def mt (l:List Nat):List (Key×V):=l.map fun (b:Nat)=>(Sum.inl (b:Int),V.bl true)
theorem yW9 (l:List Nat) (b:Nat):(valV (mt l) (Sum.inl (b:Int))).isSome=l.contains b:=by
 rw[<-fO]
 unfold mt
 rw[List.any_map,Bool.eq_iff_iff,List.any_eq_true,List.contains_iff_mem]
 constructor
 ·rintro ⟨c,hc,e⟩
  have e:(Sum.inl (c:Int):Key)=Sum.inl (b:Int):=of_decide_eq_true e
  have e:(c:Int)=(b:Int):=Sum.inl.inj e
  rw[<-Int.ofNat_inj.mp e]
  exact hc
 ·intro h
  exact⟨b,h,decide_eq_true rfl⟩
theorem xX5 {l:List Nat}{b:Nat}(h:l.contains b=false):putK (mt l) (Sum.inl (b:Int)) (V.bl true)=mt (l ++ [b]):=by
 have e:valV (mt l) (Sum.inl (b:Int))=none:=by
  have:=yW9 l b
  rw[h] at this
  cases q:valV (mt l) (Sum.inl (b:Int)) with
  | none=>rfl
  | some v=>rw[q] at this;cases this
 rw[yN2 _ e]
 unfold mt
 rw[List.map_append]
 rfl
def rLenS (K:KFr):List V->Hp->VK->Prop:=fun xs H Q=>∃p ys,xs=[.ref p]/\(SqL K H p ys\/SqT K H p ys)/\Q (.int ys.length) H
def tRgW (K:KFr):TS:=tWhile (tB (tDNotIn (tVar 5) (tVar 1))) (tSeq (sDPut (tVar 1) (tVar 5) (tC (.bl true))) (tSeq (tDrop (tBM K "list" rAppend (tVar 4) (cI (tVar 5) tNil))) (tAsg (tOp (rIx K) (tVar 0) (tVar 5)) (gName 5))))
def tRgI (K:KFr):TS:=tIfS (tTest (tOp (rI0 fun i j=>.bl (decide (j<i))) (tCB (rLenS K) (cI (tVar 4) tNil)) (tC (.int 0)))) (tDrop (tBM K "list" rAppend (tVar 2) (cI (tVar 4) tNil))) tNext
def tRg (K:KFr):TS:=tSeq (tAsg tDNewK (gName 1)) (tSeq (tAsg (tLst tNil) (gName 2)) (tSeq (tFor (iRng1 (cI (tCB (rLenS K) (cI (tVar 0) tNil)) tNil)) (gName 3) (tSeq (tAsg (tLst tNil) (gName 4)) (tSeq (tAsg (tVar 3) (gName 5)) (tSeq (tRgW K) (tRgI K))))) (tRet (tVar 2))))
section
variable {n:Nat}{xs:List Int}
def metN (n:Nat) (xs:List Int) (m k:Nat):List Nat:=(rgs n xs m).flatten++(List.range k).map fun j=>it xs j m
def stepsN (n:Nat) (xs:List Int) (m:Nat):Nat:=if has (rgs n xs m) m then 0 else per n xs m
theorem hasF (rs:List (List Nat)) (b:Nat):rs.flatten.contains b=has rs b:=by
 rw[Bool.eq_iff_iff,jG,List.contains_iff_mem,List.mem_flatten]
theorem xS1 (o:Ord n xs){m k:Nat}(hm:m<n) (hk:k<=stepsN n xs m):(metN n xs m k).contains (it xs k m)=decide (k=stepsN n xs m):=by
 have ok:=o.yG m (by bv_omega)
 obtain⟨a1,a2,a3,a4⟩:=o.zD hm
 unfold metN
 unfold stepsN at hk ⊢
 by_cases c:has (rgs n xs m) m=true
 ·rw[if_pos c] at hk ⊢
  have:k=0:=by bv_omega
  subst this
  rw[decide_eq_true rfl]
  show (_ ++ []).contains m=true
  rw[List.append_nil,hasF,c]
 ·rw[if_neg c] at hk ⊢
  by_cases e:k=per n xs m
  ·rw[decide_eq_true e,e,a3,List.contains_iff_mem]
   refine List.mem_append_right _ (List.mem_map.mpr ⟨0,List.mem_range.mpr (by bv_omega),rfl⟩)
  ·rw[decide_eq_false e]
   rw[<-Bool.not_eq_true,List.contains_iff_mem]
   intro h
   rcases List.mem_append.mp h with h | h
   ·obtain⟨r,hr,hd⟩:=List.mem_flatten.mp h
    obtain⟨b,hb,rfl,_⟩:=ok.each r hr
    have h1:In n xs b (it xs k m):=yY.mp hd
    have h2:In n xs b m:=o.bN (by bv_omega) h1 (o.cM hm (o.uP hm k))
    exact c (jG.mpr ⟨_,hr,yY.mpr h2⟩)
   ·obtain⟨j,hj,e2⟩:=List.mem_map.mp h
    have hj:=List.mem_range.mp hj
    exact o.zZ8 hm hj (by bv_omega) e2
theorem yM8 (m k:Nat):metN n xs m (k+1)=metN n xs m k ++ [it xs k m]:=by
 unfold metN
 rw[List.range_succ,List.map_append,List.append_assoc]
 rfl
theorem yH7 (m:Nat):metN n xs m (stepsN n xs m)=(rgs n xs (m+1)).flatten:=by
 unfold metN stepsN
 rw[rgs]
 by_cases c:has (rgs n xs m) m=true
 ·rw[if_pos c,if_pos c]
  simp
 ·rw[if_neg c,if_neg c,List.flatten_append]
  simp[ring]
structure RgAt (O:Addr->Prop) (H0:Hp) (am ar:Addr) (n:Nat) (xs:List Int) (X:Addr->Prop) (m:Nat) (met:List Nat) (vs:List V) (H:Hp):Prop where
 same:Same H0 H
 dic:H am=some (.dK (mt met))
 lst:H ar=some (.lst vs)
 reps:Reps H (fun b=>O b\/b=ar\/b=am\/X b) vs (ringsR n xs m)
theorem RgAt.upd {O:Addr->Prop}{H0:Hp}{am ar g:Addr}{X:Addr->Prop}{m:Nat}{met:List Nat}{vs:List V}{H:Hp}{ho:HO}(R:RgAt O H0 am ar n xs X m met vs H) (h0:H0 g=none) (hx:X g) (h1:g≠am) (h2:g≠ar):RgAt O H0 am ar n xs X m met vs (upd H g ho) where
 same:=fun b o e=>by rw[zN (fun z=>by rw[z,h0] at e;cases e)];exact R.same b o e
 dic:=by rw[zN (fun z=>h1 z.symm)];exact R.dic
 lst:=by rw[zN (fun z=>h2 z.symm)];exact R.lst
 reps:=R.reps.keep (fun b o e q=>by rw[zN (fun z=>q (.inr (.inr (.inr (by rw[z];exact hx)))))];exact e) fun b _ z=>z
theorem RgAt.put {O:Addr->Prop}{H0:Hp}{am ar:Addr}{X:Addr->Prop}{m:Nat}{met met':List Nat}{vs:List V}{H:Hp}(R:RgAt O H0 am ar n xs X m met vs H) (h0:H0 am=none) (h1:am≠ar):RgAt O H0 am ar n xs X m met' vs (L2.upd H am (.dK (mt met'))) where
 same:=fun b o e=>by rw[zN (fun z=>by rw[z,h0] at e;cases e)];exact R.same b o e
 dic:=yD
 lst:=by rw[zN (fun z=>h1 z.symm)];exact R.lst
 reps:=R.reps.keep (fun b o e q=>by rw[zN (fun z=>q (.inr (.inr (.inl z))))];exact e) fun b _ z=>z
theorem sz {k:Nat}(h:k<=1000):k<sizeLine:=small1000 h
theorem flatN (o:Ord n xs){m:Nat}(hm:m<=n):(rgs n xs m).flatten.length<=n:=by
 have grow:∀m d,(rgs n xs m).flatten.length<=(rgs n xs (m+d)).flatten.length:=by
  intro m d
  induction d with
  | zero=>exact Nat.le_refl _
  | succ d ih =>
   refine Nat.le_trans ih ?_
   rw[<-Nat.add_assoc,rgs]
   split
   ·exact Nat.le_refl _
   ·rw[List.flatten_append,List.length_append];bv_omega
 have k:=o.yG n (Nat.le_refl n)
 have p:(rgs n xs n).flatten.Perm (List.range n):=by
  rw[List.perm_ext_iff_of_nodup k.nodup List.nodup_range]
  intro a
  rw[List.mem_range,List.mem_flatten]
  constructor
  ·rintro ⟨r,hr,ha⟩
   obtain⟨b,hb,rfl,_⟩:=k.each r hr
   exact o.jV hb (yY.mp ha)
  ·intro h
   exact k.cover a h
 have:=grow m (n-m)
 rw[show m+(n-m)=n by bv_omega,p.length_eq,List.length_range] at this
 exact this
theorem yG3 (o:Ord n xs){m k:Nat}(hm:m<n) (hk:k<=n):(metN n xs m k).length<=2*n:=by
 have ok:=o.yG m (by bv_omega)
 have h1:=flatN o (show m<=n by bv_omega)
 unfold metN
 rw[List.length_append,List.length_map,List.length_range]
 bv_omega
theorem yM3 (o:Ord n xs) (hn:n<=400){K:KFr}{O:Addr->Prop}{H0:Hp}{a0 am ar g:Addr}(h0:Sq2 H0 a0 xs) (hg0:H0 g=none) (hm0:H0 am=none) (d1:g≠am) (d2:g≠ar) (d3:am≠ar){m:Nat}(hm:m<n){vs:List V}{E:Ends}{H:Hp}
  (R:RgAt O H0 am ar n xs (fun b=>b=g) m (metN n xs m 0) vs H) (hg:H g=some (.lst []))
  (k:∀H',RgAt O H0 am ar n xs (fun b=>b=g) m (metN n xs m (stepsN n xs m)) vs H'->H' g=some (.lst ((List.range (stepsN n xs m)).map fun j=>V.int ((it xs j m:Nat):Int)))->E.nx [some (.ref a0),some (.ref am),some (.ref ar),some (.int (m:Int)),some (.ref g),some (.int ((it xs (stepsN n xs m) m:Nat):Int))] H') :
  tRgW K E [some (.ref a0),some (.ref am),some (.ref ar),some (.int (m:Int)),some (.ref g),some (.int (m:Int))] H:=by
 have sp:stepsN n xs m<=n:=by
  unfold stepsN
  split
  ·bv_omega
  ·exact (o.zD hm).2.1
 refine⟨fun c σ' H'=>∃k,k<=stepsN n xs m/\c=stepsN n xs m-k/\σ'=[some (.ref a0),some (.ref am),some (.ref ar),some (.int (m:Int)),some (.ref g),some (.int ((it xs k m:Nat):Int))]/\RgAt O H0 am ar n xs (fun b=>b=g) m (metN n xs m k) vs H'/\H' g=some (.lst ((List.range k).map fun j=>V.int ((it xs j m:Nat):Int))),
  ⟨_,0,Nat.zero_le _,rfl,rfl,R,hg⟩,?_⟩
 rintro c σ' H' ⟨j,hj,rfl,rfl,R',hg'⟩
 have mi:=xS1 o hm hj
 refine⟨_,rfl,_,rfl,am,_,rfl,DGet.k (k:=Sum.inl ((it xs j m:Nat):Int)) R'.dic,_,rfl,?_⟩
 show (if _=true then _ else _)
 rw[yW9,mi]
 by_cases e:j=stepsN n xs m
 ·rw[decide_eq_true e,if_neg (by decide)]
  subst e
  exact k H' R' hg'
 ·rw[decide_eq_false e,if_pos (by decide)]
  rw[decide_eq_false e] at mi
  have fl:=yG3 o (k:=j) hm (by bv_omega)
  refine⟨fun σ2 H2=>σ2=[some (.ref a0),some (.ref am),some (.ref ar),some (.int (m:Int)),some (.ref g),some (.int ((it xs (j+1) m:Nat):Int))]/\RgAt O H0 am ar n xs (fun b=>b=g) m (metN n xs m (j+1)) vs H2/\H2 g=some (.lst ((List.range (j+1)).map fun j=>V.int ((it xs j m:Nat):Int))),
   fun σ2 H2 ⟨e1,e2,e3⟩=>⟨stepsN n xs m-(j+1),by bv_omega,j+1,by bv_omega,rfl,e1,e2,e3⟩,?_⟩
  refine⟨_,rfl,_,rfl,am,_,rfl,DPut.k (k:=Sum.inl ((it xs j m:Nat):Int)) R'.dic (by unfold mt;rw[List.length_map];exact small1000 (by bv_omega)),?_⟩
  rw[xX5 mi,<-yM8]
  have R2:RgAt O H0 am ar n xs (fun b=>b=g) m (metN n xs m (j+1)) vs (L2.upd H' am (.dK (mt (metN n xs m (j+1))))):=R'.put hm0 d3
  have g2:(L2.upd H' am (.dK (mt (metN n xs m (j+1))))) g=some (.lst ((List.range j).map fun j=>V.int ((it xs j m:Nat):Int))):=by
   rw[zN d1];exact hg'
  refine⟨_,rfl,.inl ⟨rfl,_,SqL.of g2⟩,_,rfl,g,_,_,rfl,rfl,g2,by rw[List.length_map,List.length_range];exact small1000 (by bv_omega),?_⟩
  have R3:=R2.upd (ho:=.lst (((List.range j).map fun j=>V.int ((it xs j m:Nat):Int)) ++ [V.int ((it xs j m:Nat):Int)])) hg0 rfl d1 d2
  have hi:=o.wW hm j
  have ix:atI (xs.map V.int) ((it xs j m:Nat):Int)=some (V.int ((it xs (j+1) m:Nat):Int)):=by
   rw[gG,fQ (by rw[o.len];exact hi),o.gL hi]
   rfl
  rcases h0 with h0 | h0
  ·refine⟨_,rfl,_,rfl,.inr (.inl ⟨a0,_,_,_,rfl,rfl,.inl (uK h0 fun o e=>R3.same _ o e),ix,rfl,R3,?_⟩)⟩
   rw[yD,List.range_succ,List.map_append]
   rfl
  ·refine⟨_,rfl,_,rfl,.inl ⟨a0,_,_,_,rfl,rfl,.inl (uK h0 fun o e=>R3.same _ o e),ix,rfl,R3,?_⟩⟩
   rw[yD,List.range_succ,List.map_append]
   rfl
theorem zE3:∀m,(rgs n xs m).length<=m
 | 0=>Nat.le_refl _
 | m+1=>by
  have:=zE3 m
  rw[rgs]
  split
  ·bv_omega
  ·rw[List.length_append,List.length_singleton];bv_omega
theorem zG9 (o:Ord n xs) (hn:n<=400){K:KFr}{O:Addr->Prop}{H0:Hp}(oh:∀a,O a->H0 a≠none){a0:Addr}(h0:Sq2 H0 a0 xs){E:Ends}
  (k:∀v H',Same H0 H'->CallOk true O H0 H' v (.list (ringsR n xs n))->E.rt v H'):tRg K E [some (.ref a0),none,none,none,none,none] H0:=by
 intro am ham
 refine⟨Nat.zero_le _,fun ar har => ?_⟩
 have d3:am≠ar:=fun z=>by rw[z,yD] at har;cases har
 have har0:H0 ar=none:=by rw[zN (fun z=>d3 z.symm)] at har;exact har
 have hl:(xs.map V.int).length=n:=by rw[List.length_map];exact o.len
 have S1:Same H0 (L2.upd (L2.upd H0 am (.dK [])) ar (.lst [])):=fun b ob e=>by
  rw[zN (fun z=>by rw[z,har0] at e;cases e),zN (fun z=>by rw[z,ham] at e;cases e)]
  exact e
 have l0:SqL K (L2.upd (L2.upd H0 am (.dK [])) ar (.lst [])) a0 (xs.map V.int)\/SqT K (L2.upd (L2.upd H0 am (.dK [])) ar (.lst [])) a0 (xs.map V.int):=by
  rcases h0 with h0 | h0
  ·exact .inr (.inl (uK h0 fun ob e=>S1 _ ob e))
  ·exact .inl (.inl (uK h0 fun ob e=>S1 _ ob e))
 refine⟨_,rfl,a0,_,rfl,l0,_,rfl,by bv_omega,by bv_omega,?_⟩
 rw[hl,Int.toNat_natCast]
 refine yX3 (fun i σ H=>∃x y z vs,σ=[some (.ref a0),some (.ref am),some (.ref ar),x,y,z]/\RgAt O H0 am ar n xs (fun _=>False) i (rgs n xs i).flatten vs H) ⟨none,none,none,[],rfl,S1,?_,yD,.nil⟩ ?_ ?_
 ·rw[zN d3,yD]
  rfl
 ·rintro i σ H hi ⟨x,y,z,vs,rfl,R⟩
  rw[Int.zero_add]
  refine⟨Nat.zero_le _,fun g hg => ?_⟩
  have hg0:H0 g=none:=R.same.free hg
  have d1:g≠am:=fun z=>by rw[z,R.dic] at hg;cases hg
  have d2:g≠ar:=fun z=>by rw[z,R.lst] at hg;cases hg
  have R1:RgAt O H0 am ar n xs (fun b=>b=g) i (metN n xs i 0) vs (L2.upd H g (.lst [])):=by
   refine⟨fun b ob e => ?_,?_,?_,?_⟩
   ·rw[zN (fun z=>by rw[z,hg0] at e;cases e)];exact R.same b ob e
   ·rw[zN (fun z=>d1 z.symm),R.dic]
    unfold metN
    rw[List.range_zero,List.map_nil,List.append_nil]
   ·rw[zN (fun z=>d2 z.symm)];exact R.lst
   ·refine R.reps.keep (fun b ob e _=>by rw[zN (fun z=>by rw[z,hg] at e;cases e)];exact e) fun b hb q => ?_
    rcases q with q | q | q | q
    ·exact .inl q
    ·exact .inr (.inl q)
    ·exact .inr (.inr (.inl q))
    ·exact (hb (by rw[q];exact hg)).elim
  refine⟨_,rfl,?_⟩
  refine yM3 o hn h0 hg0 ham d1 d2 d3 hi R1 yD fun H2 R2 hg2 => ?_
  refine⟨_,rfl,g,_,rfl,.inl (SqL.of hg2),_,_,rfl,rfl,_,rfl,?_⟩
  show (if _=true then _ else _)
  rw[List.length_map,List.length_range]
  have mE:=yH7 (n:=n) (xs:=xs) i
  by_cases c:has (rgs n xs i) i=true
  ·have s0:stepsN n xs i=0:=if_pos c
   have e1:rgs n xs (i+1)=rgs n xs i:=by rw[rgs,if_pos c]
   rw[s0,if_neg (by decide)]
   refine⟨_,_,_,vs,rfl,R2.same,?_,R2.lst,?_⟩
   ·rw[R2.dic,mE]
   ·unfold ringsR
    rw[e1]
    exact R2.reps.less fun b q=>by
     rcases q with q | q | q | q
     ·exact .inl q
     ·exact .inr (.inl q)
     ·exact .inr (.inr (.inl q))
     ·exact q.elim
  ·have s0:stepsN n xs i=per n xs i:=if_neg c
   have e1:rgs n xs (i+1)=rgs n xs i ++ [ring n xs i]:=by rw[rgs,if_neg c]
   obtain⟨a1,a2,_⟩:=o.zD hi
   rw[if_pos (decide_eq_true (by rw[s0];bv_omega))]
   have vl:vs.length<=n:=by
    have:=R2.reps.length
    unfold ringsR at this
    rw[List.length_map] at this
    have:=zE3 (n:=n) (xs:=xs) i
    bv_omega
   refine⟨_,rfl,.inl ⟨rfl,_,SqL.of R2.lst⟩,_,rfl,ar,_,_,rfl,rfl,R2.lst,small1000 (by bv_omega),?_⟩
   refine⟨_,_,_,vs ++ [.ref g],rfl,fun b ob e => ?_,?_,yD,?_⟩
   ·rw[zN (fun z=>by rw[z,har0] at e;cases e)];exact R2.same b ob e
   ·rw[zN d3,R2.dic,mE]
   ·unfold ringsR
    rw[e1,List.map_append]
    refine Reps.append (R2.reps.keep (fun b ob e q=>by rw[zN (fun z=>q (.inr (.inl z)))];exact e) fun b _ q => ?_) (.cons (.lst (.inl ?_) ?_ (kB (rgI (ring n xs i)))) .nil)
    ·rcases q with q | q | q | q
     ·exact .inl q
     ·exact .inr (.inl q)
     ·exact .inr (.inr (.inl q))
     ·exact q.elim
    ·rw[zN d2,hg2,s0]
     unfold rgI ring
     rw[List.map_map,List.map_map]
     rfl
    ·intro q
     rcases q with q | q | q | q
     ·exact oh g q hg0
     ·exact d2 q
     ·exact d1 q
     ·exact q
 ·rintro σ H ⟨x,y,z,vs,rfl,R⟩
  refine⟨_,rfl,k _ H R.same ⟨ar,vs,_,rfl,rfl,har0,R.lst,R.reps.less fun b q => ?_⟩⟩
  rcases q with q | q
  ·exact .inl q
  ·exact .inr (.inl q)
end
section
variable {P:Program}{w:World}{K:KFr}{mg:Str->Option Value}{base:Heap}
end
theorem zY3 {ds:List D}{Q:D->Prop}{R:Str->Prop}(h:(ringsF ds).post Q R):∃(n:Nat) (xs:List Int),(ds=[tI xs]\/ds=[lI xs])/\Ord n xs/\n<=400/\Q (.list (ringsR n xs n)):=by
 unfold ringsF at h
 split at h
 ·split at h
  ·rename_i es xs e
   have e':=uY e
   subst e'
   split at h
   ·rename_i c
    exact⟨_,xs,.inl rfl,c.1,c.2,h⟩
   ·exact h.elim
  ·exact h.elim
 ·split at h
  ·rename_i es xs e
   have e':=uY e
   subst e'
   split at h
   ·rename_i c
    exact⟨_,xs,.inr rfl,c.1,c.2,h⟩
   ·exact h.elim
  ·exact h.elim
 ·exact h.elim
section
variable {P:Program}{w:World}{K:KFr}{mg:Str->Option Value}{base:Heap}
theorem yP2 {x:Str}{st:Stmt}{f:Addr}{fd:FuncData}{N ps:List Str}{k:Nat}(F:Fun K x x st f fd) (S:zK N ps (zX st)) (hp:ps.length=1) (hN:N.length=6)
  (hbody:∀(cdv:Value) (A:Around) (outer:List Env) (s:Shared) (H:Hp) (E:XK),Room k (A.deeper (envOfC x (zX st) s.heap.objs.size f cdv))->PSs (bodyX P w K mg base N x (zX st) f cdv A outer s H E []).X (defBody st) (tRg K)) :
  FnOk P w K mg base (CXV P w) (k+1) f fd ps (spX true ringsF):=by
 have len:∀(vs:List V) (H:Hp) (Q:VK) (E:XK),spX true ringsF vs H Q E->vs.length=ps.length:=fun vs H Q E h=>by
  obtain⟨ds,O,oh,r,k⟩:=h
  obtain⟨n,xs,e,_⟩:=zY3 k
  rw[r.length,hp]
  rcases e with rfl | rfl <;> rfl
 obtain⟨oc,od,kV,doc,pm,an,cdv,ct,osl,rfl,lk,hcd⟩:=F.ex
 refine yY4 lk hcd S len fun A outer s H vs Q E hr h => ?_
 obtain⟨ds,O,oh,r,k⟩:=h
 obtain⟨n,xs,ed,o,hn,k2⟩:=zY3 k
 refine⟨_,hbody cdv A outer s H E hr,?_⟩
 have st:∀a:Addr,start N [V.ref a]=[some (.ref a),none,none,none,none,none]:=fun a=>by
  unfold start
  rw[hN]
  rfl
 rcases ed with rfl | rfl
 ·cases r with
  | cons r1 r2 =>
   cases r2
   cases r1 with
   | tup rd no rs =>
    have e:=rs.ints
    subst e
    rw[st]
    exact zG9 o hn oh (.inl rd) fun v H' s c=>k2 v H' s c
 ·cases r with
  | cons r1 r2 =>
   cases r2
   cases r1 with
   | lst rd no rs =>
    have e:=rs.ints
    subst e
    rw[st]
    exact zG9 o hn oh (.inr rd) fun v H' s c=>k2 v H' s c
end
end L2.L3
namespace MR
def rg (n:Nat):List Int:=(List.range n).map fun (i:Nat)=>(i:Int)
theorem yX6 (n:Nat):(rg n).length=n:=by unfold rg;simp
theorem yS1 {n:Nat}{a:Int}:a∈rg n↔0<=a/\a<n:=by
 unfold rg
 simp only[List.mem_map,List.mem_range]
 constructor
 ·rintro ⟨i,hi,rfl⟩;bv_omega
 ·intro h;exact⟨a.toNat,by bv_omega,by bv_omega⟩
theorem yI2 (n:Nat):(rg n).Pairwise (· < ·):=by
 unfold rg
 rw[List.pairwise_map]
 exact List.Pairwise.imp (fun h=>by bv_omega) (List.pairwise_lt_range (n:=n))
theorem zN7 (n:Nat):(rg n).Nodup:=(yI2 n).imp fun h=>by bv_omega
theorem xQ2 (n:Nat):(rg n).Pairwise (· <= ·):=(yI2 n).imp fun h=>by bv_omega
theorem bU {a b:List Int}(p:a.Perm b) (ha:a.Pairwise (· <= ·)) (hb:b.Pairwise (· <= ·)):a=b :=
 p.eq_of_pairwise (fun x y _ _ h1 h2=>by bv_omega) ha hb
theorem yY5 {xs:List Int}(h:xs.Nodup){i j:Nat}(hi:i<xs.length) (hj:j<xs.length) (e:xs.getD i 0=xs.getD j 0):i=j:=by
 rw[List.getD_eq_getElem?_getD,List.getElem?_eq_getElem hi,List.getD_eq_getElem?_getD,List.getElem?_eq_getElem hj] at e
 have e:xs[i]=xs[j]:=e
 rcases Nat.lt_trichotomy i j with q | q | q
 ·exact absurd e (List.pairwise_iff_getElem.mp h i j hi hj q)
 ·exact q
 ·exact absurd e.symm (List.pairwise_iff_getElem.mp h j i hj hi q)
theorem getD_mem {xs:List Int}{i:Nat}(h:i<xs.length):xs.getD i 0∈xs:=by
 rw[List.getD,List.getElem?_eq_getElem h]
 exact List.getElem_mem h
theorem cD {n:Nat}{xs:List Int}(p:xs.Perm (rg n)):Ord n xs:=by
 have hl:xs.length=n:=by rw[p.length_eq,yX6]
 have nd:xs.Nodup:=p.nodup_iff.mpr (zN7 n)
 exact⟨hl,fun i hi=>yS1.mp (p.mem_iff.mp (getD_mem (by bv_omega))),fun i j hi hj e=>yY5 nd (by bv_omega) (by bv_omega) e⟩
theorem onto {n:Nat}{f:Nat->Nat}(h:∀i,i<n->f i<n) (hi:∀i j,i<n->j<n->f i=f j->i=j){c:Nat}(hc:c<n):∃i,i<n/\f i=c:=by
 refine Classical.byContradiction fun no => ?_
 obtain⟨i,j,h1,h2,e⟩:=pigeon n (fun i=>if i=n then c else f i) fun i hi'=>by
  show (if i=n then c else f i)<n
  split
  ·exact hc
  ·exact h i (by bv_omega)
 have e:(if i=n then c else f i)=(if j=n then c else f j):=e
 rw[if_neg (show i≠n by bv_omega)] at e
 by_cases q:j=n
 ·rw[if_pos q] at e
  exact no ⟨i,by bv_omega,e⟩
 ·rw[if_neg q] at e
  have:=hi i j (by bv_omega) (by bv_omega) e
  bv_omega
theorem Ord.onto {n:Nat}{xs:List Int}(o:Ord n xs){c:Nat}(hc:c<n):∃b,b<n/\nxt xs b=c :=
 MR.onto (fun i hi=>o.yT9 hi) (fun i j hi hj e=>o.zF6 hi hj e) hc
def insAt (xs:List Int) (i:Nat) (v:Int):List Int:=xs.take i++v::xs.drop i
theorem yZ2 (xs:List Int) (i:Nat) (v:Int):(insAt xs i v).Perm (v::xs):=by
 unfold insAt
 have:=List.perm_middle (a:=v) (l₁:=xs.take i) (l₂:=xs.drop i)
 rwa [List.take_append_drop] at this
def lawOrd (cell:Int):Nat->List Int×Int
 | 0=>([],cell)
 | k+1=>(insAt (lawOrd cell k).1 ((lawOrd cell k).2%((k:Int)+1)).toNat k,(lawOrd cell k).2 / ((k:Int)+1))
theorem yG9 (n:Nat):rg (n+1)=rg n ++ [(n:Int)]:=by unfold rg;rw[List.range_succ,List.map_append];rfl
theorem bZ (cell:Int):∀k,(lawOrd cell k).1.Perm (rg k)
 | 0=>List.Perm.refl _
 | k+1=>by
  rw[yG9]
  refine (yZ2 _ _ _).trans ?_
  refine ((bZ cell k).cons _).trans ?_
  exact (List.perm_append_singleton _ _).symm
theorem aM (cell:Int) (n:Nat):Ord n (lawOrd cell n).1:=cD (bZ cell n)
def ofN (n:Nat) (f:Nat->Nat):List Int:=(List.range n).map fun (b:Nat)=>((f b:Nat):Int)
theorem jS (n:Nat) (f:Nat->Nat):(ofN n f).length=n:=by unfold ofN;simp
theorem zE8 {n:Nat}{f:Nat->Nat}{b:Nat}(h:b<n):(ofN n f).getD b 0=(f b:Int):=by
 unfold ofN
 simp[List.getD,h]
theorem yG1 {n:Nat}{f g:Nat->Nat}(h:∀b,b<n->f b=g b):ofN n f=ofN n g:=by
 unfold ofN
 refine List.map_congr_left fun b hb => ?_
 rw[h b (List.mem_range.mp hb)]
theorem yD5 {n:Nat}{f:Nat->Nat}(h:∀b,b<n->f b<n) (i:∀b c,b<n->c<n->f b=f c->b=c):Ord n (ofN n f):=by
 refine cD ?_
 have nd:(ofN n f).Nodup:=by
  unfold ofN
  rw[List.nodup_iff_pairwise_ne,List.pairwise_map]
  refine List.Pairwise.imp_of_mem ?_ (List.nodup_range (n:=n))
  intro a b ha hb ne e
  exact ne (i a b (List.mem_range.mp ha) (List.mem_range.mp hb) (by bv_omega))
 rw[List.perm_ext_iff_of_nodup nd (zN7 n)]
 intro a
 rw[yS1]
 unfold ofN
 rw[List.mem_map]
 constructor
 ·rintro ⟨b,hb,rfl⟩
  have:=h b (List.mem_range.mp hb)
  bv_omega
 ·rintro ⟨h1,h2⟩
  obtain⟨b,hb,e⟩:=onto (n:=n) (f:=f) h i (c:=a.toNat) (by bv_omega)
  exact⟨b,List.mem_range.mpr hb,by bv_omega⟩
theorem zK9 {n:Nat}{xs:List Int}(o:Ord n xs):ofN n (nxt xs)=xs:=by
 refine List.ext_getElem (by rw[jS,o.len]) fun b h1 h2 => ?_
 rw[jS] at h1
 have e:=zE8 (f:=nxt xs) h1
 rw[<-o.gL h1] at e
 rw[List.getD_eq_getElem?_getD,List.getD_eq_getElem?_getD,List.getElem?_eq_getElem (by rw[jS];exact h1),List.getElem?_eq_getElem h2] at e
 exact e
theorem Ord.ext {n:Nat}{xs ys:List Int}(o:Ord n xs) (o':Ord n ys) (h:∀b,b<n->nxt xs b=nxt ys b):xs=ys:=by
 rw[<-zK9 o,<-zK9 o',yG1 h]
def swO (xs:List Int) (a b:Nat):List Int:=(xs.set a (xs.getD b 0)).set b (xs.getD a 0)
section
variable {n:Nat}{xs:List Int}
theorem cQ (o:Ord n xs){a b:Nat}(ha:a<n) (hb:b<n){i:Nat}:(swO xs a b).getD i 0=if i=b then xs.getD a 0 else if i=a then xs.getD b 0 else xs.getD i 0:=by
 unfold swO
 have hl:=o.len
 rw[List.getD_eq_getElem?_getD]
 by_cases h1:i=b
 ·rw[if_pos h1,h1,List.getElem?_set_self (by rw[List.length_set];bv_omega)]
  rfl
 ·rw[if_neg h1,List.getElem?_set_ne (fun z=>h1 z.symm)]
  by_cases h2:i=a
  ·rw[if_pos h2,h2,List.getElem?_set_self (by bv_omega)]
   rfl
  ·rw[if_neg h2,List.getElem?_set_ne (fun z=>h2 z.symm),<-List.getD_eq_getElem?_getD]
theorem yF8 (o:Ord n xs) (a b:Nat):(swO xs a b).length=n:=by unfold swO;rw[List.length_set,List.length_set,o.len]
theorem gK (o:Ord n xs){a b:Nat}(ha:a<n) (hb:b<n):Ord n (swO xs a b):=by
 refine⟨yF8 o a b,fun i hi => ?_,fun i j hi hj e => ?_⟩
 ·rw[cQ o ha hb]
  split
  ·exact o.bd a ha
  ·split
   ·exact o.bd b hb
   ·exact o.bd i hi
 ·rw[cQ o ha hb,cQ o ha hb] at e
  by_cases ib:i=b
  ·rw[if_pos ib] at e
   by_cases jb:j=b
   ·bv_omega
   ·rw[if_neg jb] at e
    by_cases ja:j=a
    ·rw[if_pos ja] at e;have:=o.inj _ _ ha hb e;bv_omega
    ·rw[if_neg ja] at e;have:=o.inj _ _ ha hj e;bv_omega
  ·rw[if_neg ib] at e
   by_cases ia:i=a
   ·rw[if_pos ia] at e
    by_cases jb:j=b
    ·rw[if_pos jb] at e;have:=o.inj _ _ hb ha e;bv_omega
    ·rw[if_neg jb] at e
     by_cases ja:j=a
     ·bv_omega
     ·rw[if_neg ja] at e;have:=o.inj _ _ hb hj e;bv_omega
   ·rw[if_neg ia] at e
    by_cases jb:j=b
    ·rw[if_pos jb] at e;have:=o.inj _ _ hi ha e;bv_omega
    ·rw[if_neg jb] at e
     by_cases ja:j=a
     ·rw[if_pos ja] at e;have:=o.inj _ _ hi hb e;bv_omega
     ·rw[if_neg ja] at e;exact o.inj _ _ hi hj e
theorem zM3 (o:Ord n xs){a b:Nat}(ha:a<n) (hb:b<n) (i:Nat):nxt (swO xs a b) i=if i=b then nxt xs a else if i=a then nxt xs b else nxt xs i:=by
 unfold nxt
 rw[cQ o ha hb]
 split
 ·rfl
 ·split <;> rfl
end
section
variable {n:Nat}{xs:List Int}
theorem dU {ys:List Int}(o:Ord n ys){c q:Nat}(hc:c<n) (hq:1<=q) (e:it ys q c=c) (ne:∀i,1<=i->i<q->it ys i c≠c):per n ys c=q:=by
 obtain⟨p1,p2,p3,p4⟩:=o.zD hc
 rcases Nat.lt_trichotomy (per n ys c) q with h | h | h
 ·exact absurd p3 (ne _ p1 h)
 ·exact h
 ·exact absurd e (p4 q hq h)
theorem aV (o:Ord n xs){a j:Nat}(ha:a<n) (j0:0<j) (hj:j<per n xs a) :
  (∀k,1<=k->k<=per n xs a-j->it (swO xs a (it xs j a)) k a=it xs (j+k) a)/\(∀k,1<=k->k<=j->it (swO xs a (it xs j a)) k (it xs j a)=it xs k a):=by
 have hb:it xs j a<n:=o.wW ha j
 have hN:=zM3 o ha hb
 obtain⟨p1,_,pe,pm⟩:=o.zD ha
 have ne:∀i k,i<k->k<per n xs a->it xs i a≠it xs k a:=fun i k h1 h2=>o.zZ8 ha h1 h2
 have hab:a≠it xs j a:=ne 0 j j0 hj
 constructor
 ·intro k h1
  induction k with
  | zero=>bv_omega
  | succ k ih =>
   intro h2
   rcases Nat.eq_zero_or_pos k with z | z
   ·subst z
    show nxt (swO xs a (it xs j a)) a=nxt xs (it xs j a)
    rw[hN,if_neg hab,if_pos rfl]
   ·show nxt (swO xs a (it xs j a)) (it (swO xs a (it xs j a)) k a)=nxt xs (it xs (j+k) a)
    rw[ih z (by bv_omega),hN,if_neg (fun e=>ne j (j+k) (by bv_omega) (by bv_omega) e.symm),if_neg (fun e=>ne 0 (j+k) (by bv_omega) (by bv_omega) e.symm)]
 ·intro k h1
  induction k with
  | zero=>bv_omega
  | succ k ih =>
   intro h2
   rcases Nat.eq_zero_or_pos k with z | z
   ·subst z
    show nxt (swO xs a (it xs j a)) (it xs j a)=nxt xs a
    rw[hN,if_pos rfl]
   ·show nxt (swO xs a (it xs j a)) (it (swO xs a (it xs j a)) k (it xs j a))=nxt xs (it xs k a)
    rw[ih z (by bv_omega),hN,if_neg (fun e=>ne k j (by bv_omega) hj e),if_neg (fun e=>ne 0 k (by bv_omega) (by bv_omega) e.symm)]
theorem yP6 (o:Ord n xs){a j:Nat}(ha:a<n) (j0:0<j) (hj:j<per n xs a) :
  per n (swO xs a (it xs j a)) a=per n xs a-j/\per n (swO xs a (it xs j a)) (it xs j a)=j:=by
 obtain⟨wa,wb⟩:=aV o ha j0 hj
 have hb:it xs j a<n:=o.wW ha j
 have o':=gK o ha hb
 obtain⟨p1,_,pe,pm⟩:=o.zD ha
 have ne:∀i k,i<k->k<per n xs a->it xs i a≠it xs k a:=fun i k h1 h2=>o.zZ8 ha h1 h2
 constructor
 ·refine dU o' ha (by bv_omega) ?_ fun i h1 h2 => ?_
  ·rw[wa _ (by bv_omega) (by bv_omega),show j+(per n xs a-j)=per n xs a by bv_omega,pe]
  ·rw[wa i h1 (by bv_omega)]
   exact fun e=>ne 0 (j+i) (by bv_omega) (by bv_omega) e.symm
 ·refine dU o' hb (by bv_omega) (wb j (by bv_omega) (by bv_omega)) fun i h1 h2 => ?_
  rw[wb i h1 (by bv_omega)]
  exact ne i j h2 hj
theorem yM9 (o:Ord n xs){a b c:Nat}(ha:a<n) (hb:b<n) (hc:c<n) (h1:¬In n xs a c) (h2:¬In n xs b c):∀i,it (swO xs a b) i c=it xs i c:=fun i=>by
 induction i with
 | zero=>rfl
 | succ i ih =>
  show nxt (swO xs a b) (it (swO xs a b) i c)=nxt xs (it xs i c)
  rw[ih,zM3 o ha hb,if_neg (fun e=>h2 (by rw[<-e];exact o.cM hc (o.uP hc i))),if_neg (fun e=>h1 (by rw[<-e];exact o.cM hc (o.uP hc i)))]
theorem yH8 (o:Ord n xs){a b c:Nat}(ha:a<n) (hb:b<n) (hc:c<n) (h1:¬In n xs a c) (h2:¬In n xs b c):per n (swO xs a b) c=per n xs c:=by
 have w:=yM9 o ha hb hc h1 h2
 obtain⟨p1,_,pe,pm⟩:=o.zD hc
 exact dU (gK o ha hb) hc p1 (by rw[w,pe]) fun i hi1 hi2=>by rw[w];exact pm i hi1 hi2
def sumW (f:Nat->Nat) (l:List Nat):Nat:=(l.map f).sum
theorem yJ1 (f:Nat->Nat):sumW f []=0:=rfl
theorem qE (f:Nat->Nat) (a:Nat) (l:List Nat):sumW f (a::l)=f a+sumW f l:=by simp[sumW]
theorem fP (f:Nat->Nat) (l m:List Nat):sumW f (l++m)=sumW f l+sumW f m:=by simp[sumW]
theorem zT8 {f:Nat->Nat}{l m:List Nat}(p:l.Perm m):sumW f l=sumW f m:=by
 induction p with
 | nil=>rfl
 | cons a _ ih=>rw[qE,qE,ih]
 | swap a b l=>simp only[qE];bv_omega
 | trans _ _ h1 h2=>rw[h1,h2]
theorem zC6 {f g:Nat->Nat}{l:List Nat}(h:∀a∈l,f a=g a):sumW f l=sumW g l:=by
 unfold sumW
 rw[List.map_congr_left h]
theorem uD (f:Nat->Nat) (c:Nat):∀l:List Nat,(∀a∈l,f a=c)->sumW f l=l.length*c
 | [],_=>by simp[sumW]
 | a::l,h=>by
  rw[qE,h a (List.mem_cons_self ..),uD f c l fun x hx=>h x (List.mem_cons_of_mem _ hx),List.length_cons,Nat.succ_mul]
  bv_omega
theorem zT4 (f:Nat->Nat):∀L:List (List Nat),sumW f L.flatten=(L.map (sumW f)).sum
 | []=>rfl
 | r::L=>by rw[List.flatten_cons,fP,zT4 f L,List.map_cons,List.sum_cons]
theorem flatP (o:Ord n xs):(rgs n xs n).flatten.Perm (List.range n):=by
 have k:=o.yG n (Nat.le_refl n)
 rw[List.perm_ext_iff_of_nodup k.nodup List.nodup_range]
 intro a
 rw[List.mem_range,List.mem_flatten]
 constructor
 ·rintro ⟨r,hr,ha⟩
  obtain⟨b,hb,rfl,_⟩:=k.each r hr
  exact o.jV hb (yY.mp ha)
 ·intro h
  exact k.cover a h
def lc:Nat->Nat
 | 0=>1
 | n+1=>(n+1)*lc n
theorem yX4:∀n,0<lc n
 | 0=>Nat.one_pos
 | n+1=>Nat.mul_pos (Nat.succ_pos n) (yX4 n)
theorem yV9:∀{n l:Nat},1<=l->l<=n->l ∣ lc n
 | 0,l,h1,h2=>by bv_omega
 | n+1,l,h1,h2=>by
  rw[lc]
  rcases Nat.lt_or_ge n l with h | h
  ·obtain rfl:l=n+1:=by bv_omega
   exact Nat.dvd_mul_right ..
  ·exact Nat.dvd_trans (yV9 h1 h) (Nat.dvd_mul_left ..)
def fN (k l:Nat):Nat:=(l-1) / k
def ND (n k:Nat) (xs:List Int):Nat:=((rgs n xs n).map fun r=>fN k r.length).sum
def wt (n k l:Nat):Nat:=fN k l*(lc n / l)
theorem aO {n k l:Nat}(h1:1<=l) (h2:l<=n):l*wt n k l=lc n*fN k l:=by
 unfold wt
 rw[<-Nat.mul_assoc,Nat.mul_comm l,Nat.mul_assoc,Nat.mul_comm l,Nat.div_mul_cancel (yV9 h1 h2),Nat.mul_comm]
theorem zD9 (c:Nat) (f g:List Nat->Nat):∀L:List (List Nat),(∀r∈L,f r=c*g r)->(L.map f).sum=c*(L.map g).sum
 | [],_=>by simp
 | r::L,h=>by
  rw[List.map_cons,List.sum_cons,List.map_cons,List.sum_cons,h r (List.mem_cons_self ..),zD9 c f g L fun x hx=>h x (List.mem_cons_of_mem _ hx),Nat.mul_add]
theorem zN1 (o:Ord n xs) (k:Nat):sumW (fun b=>wt n k (per n xs b)) (List.range n)=lc n*ND n k xs:=by
 rw[<-zT8 (flatP o),zT4]
 unfold ND
 refine zD9 _ _ _ _ fun r hr => ?_
 obtain⟨b,hb,rfl,_⟩:=(o.yG n (Nat.le_refl n)).each r hr
 obtain⟨p1,p2,_,_⟩:=o.zD hb
 rw[uD _ (wt n k (per n xs b)) _ fun c hc=>by rw[o.vQ hb (yY.mp hc)],zJ]
 exact aO p1 p2
theorem part (o:Ord n xs){a:Nat}(ha:a<n):(ring n xs a++(List.range n).filter fun c=>!(ring n xs a).contains c).Perm (List.range n):=by
 have nd:=o.fY ha
 rw[List.perm_ext_iff_of_nodup ?_ List.nodup_range]
 ·intro c
  rw[List.mem_append,List.mem_filter,List.mem_range]
  constructor
  ·rintro (h | h)
   ·exact o.jV ha (yY.mp h)
   ·exact h.1
  ·intro h
   cases e:(ring n xs a).contains c with
   | true=>exact .inl (List.contains_iff_mem.mp e)
   | false=>exact .inr ⟨h,rfl⟩
 ·rw[List.nodup_append]
  refine⟨nd,List.nodup_range.filter _,fun x hx y hy e => ?_⟩
  subst e
  have:=(List.mem_filter.mp hy).2
  rw[List.contains_iff_mem.mpr hx] at this
  cases this
theorem yK7 (o:Ord n xs) (k:Nat){a j:Nat}(ha:a<n) (j0:0<j) (hj:j<per n xs a) :
  ND n k (swO xs a (it xs j a))+fN k (per n xs a)=ND n k xs+fN k (per n xs a-j)+fN k j:=by
 have hb:it xs j a<n:=o.wW ha j
 have o':=gK o ha hb
 obtain⟨wa,wb⟩:=aV o ha j0 hj
 obtain⟨pa,pb⟩:=yP6 o ha j0 hj
 obtain⟨p1,p2,pe,pm⟩:=o.zD ha
 have inb:In n xs a (it xs j a):=o.uP ha j
 have s1:=zN1 o k
 have s2:=zN1 o' k
 rw[<-zT8 (part o ha),fP] at s1 s2
 have r0:sumW (fun b=>wt n k (per n (swO xs a (it xs j a)) b)) ((List.range n).filter fun c=>!(ring n xs a).contains c)=sumW (fun b=>wt n k (per n xs b)) ((List.range n).filter fun c=>!(ring n xs a).contains c):=zC6 fun c hc=>by
  have hc1:=List.mem_range.mp (List.mem_filter.mp hc).1
  have hc2:=(List.mem_filter.mp hc).2
  have ni:¬In n xs a c:=fun z=>by rw[List.contains_iff_mem.mpr (yY.mpr z)] at hc2;cases hc2
  rw[yH8 o ha hb hc1 ni fun z=>ni (o.bN ha inb z)]
 have r1:sumW (fun b=>wt n k (per n xs b)) (ring n xs a)=lc n*fN k (per n xs a):=by
  rw[uD _ (wt n k (per n xs a)) _ fun c hc=>by rw[o.vQ ha (yY.mp hc)],zJ]
  exact aO p1 p2
 have rs:ring n xs a=[a]++(List.range j).map (fun i=>it xs (i+1) a)++(List.range (per n xs a-j-1)).map (fun i=>it xs (j+(i+1)) a):=by
  unfold ring
  conv=>lhs;rw[show per n xs a=1+j+(per n xs a-j-1) by bv_omega]
  rw[List.range_add,List.range_add,List.map_append,List.map_append,List.map_map,List.map_map]
  congr 1
  ·congr 1
   refine List.map_congr_left fun i _ => ?_
   show it xs (1+i) a=_
   rw[Nat.add_comm]
  ·refine List.map_congr_left fun i _ => ?_
   show it xs (1+j+i) a=_
   rw[show 1+j+i=j+(i+1) by bv_omega]
 have r2:sumW (fun b=>wt n k (per n (swO xs a (it xs j a)) b)) (ring n xs a)=lc n*fN k (per n xs a-j)+lc n*fN k j:=by
  rw[rs,fP,fP]
  have t1:sumW (fun b=>wt n k (per n (swO xs a (it xs j a)) b)) [a]=wt n k (per n xs a-j):=by
   rw[qE,yJ1,pa,Nat.add_zero]
  have t2:sumW (fun b=>wt n k (per n (swO xs a (it xs j a)) b)) ((List.range j).map fun i=>it xs (i+1) a)=j*wt n k j:=by
   rw[uD _ (wt n k j) _ fun c hc => ?_,List.length_map,List.length_range]
   obtain⟨i,hi,rfl⟩:=List.mem_map.mp hc
   have hi:=List.mem_range.mp hi
   have m:In n (swO xs a (it xs j a)) (it xs j a) (it xs (i+1) a):=by
    rw[<-wb (i+1) (by bv_omega) (by bv_omega)]
    exact o'.uP hb _
   rw[o'.vQ hb m,pb]
  have t3:sumW (fun b=>wt n k (per n (swO xs a (it xs j a)) b)) ((List.range (per n xs a-j-1)).map fun i=>it xs (j+(i+1)) a)=(per n xs a-j-1)*wt n k (per n xs a-j):=by
   rw[uD _ (wt n k (per n xs a-j)) _ fun c hc => ?_,List.length_map,List.length_range]
   obtain⟨i,hi,rfl⟩:=List.mem_map.mp hc
   have hi:=List.mem_range.mp hi
   have m:In n (swO xs a (it xs j a)) a (it xs (j+(i+1)) a):=by
    rw[<-wa (i+1) (by bv_omega) (by bv_omega)]
    exact o'.uP ha _
   rw[o'.vQ ha m,pa]
  rw[t1,t2,t3,aO (by bv_omega) (by bv_omega),<-aO (n:=n) (k:=k) (l:=per n xs a-j) (by bv_omega) (by bv_omega)]
  have:(per n xs a-j)*wt n k (per n xs a-j)=wt n k (per n xs a-j)+(per n xs a-j-1)*wt n k (per n xs a-j):=by
   conv=>lhs;rw[show per n xs a-j=1+(per n xs a-j-1) by bv_omega,Nat.add_mul,Nat.one_mul]
   rw[show 1+(per n xs a-j-1)=per n xs a-j by bv_omega]
  bv_omega
 rw[r0,r2] at s2
 rw[r1] at s1
 refine Nat.eq_of_mul_eq_mul_left (yX4 n) ?_
 rw[Nat.mul_add,Nat.mul_add,Nat.mul_add]
 bv_omega
end
section
variable {n:Nat}{xs:List Int}
theorem yK4 (o:Ord n xs){k:Nat}(hk:1<=k){a:Nat}(ha:a<n) (hp:k<per n xs a):ND n k (swO xs a (it xs k a))+1=ND n k xs:=by
 have z:=yK7 o k ha (by bv_omega) hp
 unfold fN at z
 have e1:(k-1) / k=0:=Nat.div_eq_of_lt (by bv_omega)
 have e2:(per n xs a-1) / k=(per n xs a-k-1) / k+1:=by
  rw[show per n xs a-1=per n xs a-k-1+k by bv_omega,Nat.add_div_right _ (by bv_omega)]
 rw[e1,e2] at z
 bv_omega
theorem yT3 (o:Ord n xs){k:Nat}(hk:1<=k):ND n k xs=0 ↔ ∀b,b<n->per n xs b<=k:=by
 have ok:=o.yG n (Nat.le_refl n)
 unfold ND
 constructor
 ·intro h b hb
  obtain⟨r,hr,hm⟩:=ok.cover b hb
  obtain⟨b0,h0,rfl,_⟩:=ok.each r hr
  have z:=List.sum_eq_zero_iff_forall_eq_nat.mp h _ (List.mem_map.mpr ⟨_,hr,rfl⟩)
  rw[o.vQ h0 (yY.mp hm)]
  rw[zJ] at z
  unfold fN at z
  have p1:=(o.zD h0).1
  rw[Nat.div_eq_zero_iff] at z
  bv_omega
 ·intro h
  refine List.sum_eq_zero_iff_forall_eq_nat.mpr fun x hx => ?_
  obtain⟨r,hr,rfl⟩:=List.mem_map.mp hx
  obtain⟨b0,h0,rfl,_⟩:=ok.each r hr
  rw[zJ]
  have:=h b0 h0
  have p1:=(o.zD h0).1
  exact Nat.div_eq_of_lt (by bv_omega)
def runX (xs:List Int) (ps:List (Nat×Nat)):List Int:=ps.foldl (fun ys q=>swO ys q.1 q.2) xs
theorem bJ (xs:List Int) (a b:List (Nat×Nat)):runX xs (a++b)=runX (runX xs a) b:=List.foldl_append ..
def pr (k:Nat) (r:List Nat):List (Nat×Nat):=(List.range (fN k r.length)).map fun m=>(r.getD 0 0,r.getD ((m+1)*k) 0)
theorem vS {b i:Nat}(h:i<per n xs b):(ring n xs b).getD i 0=it xs i b:=by
 unfold ring
 simp[List.getD,h]
theorem aK {k l m:Nat}(hk:1<=k) (h:m<fN k l):(m+1)*k<l:=by
 unfold fN at h
 have:(m+1)*k<=l-1:=(Nat.le_div_iff_mul_le (by bv_omega)).mp h
 have:1*k<=(m+1)*k:=Nat.mul_le_mul_right k (by bv_omega)
 bv_omega
theorem zO7 {ys:List Int}(o:Ord n xs) (oy:Ord n ys){k b:Nat}(hk:1<=k) (hb:b<n) (ag:∀i,it ys i b=it xs i b):∀m,m<=fN k (per n xs b) ->
  Ord n (runX ys ((pr k (ring n xs b)).take m))/\(∀i,1<=i->i<=per n xs b-m*k->it (runX ys ((pr k (ring n xs b)).take m)) i b=it xs (m*k+i) b)/\ND n k (runX ys ((pr k (ring n xs b)).take m))+m=ND n k ys /\
  ∀c,c<n->¬In n xs b c->nxt (runX ys ((pr k (ring n xs b)).take m)) c=nxt ys c
 | 0,_=>by
  rw[List.take_zero]
  exact⟨oy,fun i _ _=>by rw[Nat.zero_mul,Nat.zero_add];exact ag i,rfl,fun c _ _=>rfl⟩
 | m+1,h=>by
  obtain⟨oz,w,nd,far⟩:=zO7 o oy hk hb ag m (by bv_omega)
  obtain⟨p1,p2,pe,pm⟩:=o.zD hb
  have lt:=aK hk (show m<fN k (per n xs b) by bv_omega)
  have em:(m+1)*k=m*k+k:=Nat.succ_mul m k
  have e1:(pr k (ring n xs b)).take (m+1)=(pr k (ring n xs b)).take m ++ [(b,it xs ((m+1)*k) b)]:=by
   have g:(pr k (ring n xs b))[m]?=some (b,it xs ((m+1)*k) b):=by
    unfold pr
    rw[zJ,List.getElem?_map,List.getElem?_range (by bv_omega),Option.map_some,vS lt,vS (by bv_omega)]
    rfl
   rw[List.take_succ,g]
   rfl
  rw[e1,bJ]
  generalize runX ys ((pr k (ring n xs b)).take m)=zs at oz w nd far
  have wk:it zs k b=it xs ((m+1)*k) b:=by rw[w k hk (by bv_omega),em]
  have pz:per n zs b=per n xs b-m*k:=dU oz hb (by bv_omega) (by rw[w _ (by bv_omega) (by bv_omega),show m*k+(per n xs b-m*k)=per n xs b by bv_omega,pe]) fun i h1 h2=>by
   rw[w i h1 (by bv_omega)]
   exact pm _ (by bv_omega) (by bv_omega)
  have hp:k<per n zs b:=by bv_omega
  have hc:it zs k b<n:=oz.wW hb k
  show Ord n (swO zs b (it xs ((m+1)*k) b))/\(∀i,1<=i->i<=per n xs b-(m+1)*k->it (swO zs b (it xs ((m+1)*k) b)) i b=it xs ((m+1)*k+i) b)/\ND n k (swO zs b (it xs ((m+1)*k) b))+(m+1)=ND n k ys/\∀c,c<n->¬In n xs b c->nxt (swO zs b (it xs ((m+1)*k) b)) c=nxt ys c
  rw[<-wk]
  refine⟨gK oz hb hc,fun i h1 h2 => ?_,?_,fun c hcn ni => ?_⟩
  ·rw[(aV oz hb (by bv_omega) hp).1 i h1 (by bv_omega),w (k+i) (by bv_omega) (by bv_omega),show m*k+(k+i)=(m+1)*k+i by bv_omega]
  ·have:=yK4 oz hk hb hp
   bv_omega
  ·rw[zM3 oz hb hc,if_neg (fun e=>ni (by rw[e,wk];exact o.uP hb _)),if_neg (fun e=>ni (by rw[e];exact o.zD7 hb))]
   exact far c hcn ni
theorem zT2 (o:Ord n xs){k:Nat}(hk:1<=k):∀(L:List (List Nat)) (ys:List Int),Ord n ys->(∀r∈L,∃b,b<n/\r=ring n xs b)->L.flatten.Nodup->(∀r∈L,∀c∈r,nxt ys c=nxt xs c) ->
  Ord n (runX ys (L.flatMap (pr k)))/\ND n k (runX ys (L.flatMap (pr k)))+(L.map fun r=>fN k r.length).sum=ND n k ys
 | [],ys,oy,_,_,_=>⟨oy,rfl⟩
 | r::L,ys,oy,hL,nd,ag=>by
  obtain⟨b,hb,rfl⟩:=hL r (List.mem_cons_self ..)
  have walk:∀i,it ys i b=it xs i b:=fun i=>by
   induction i with
   | zero=>rfl
   | succ i ih =>
    show nxt ys (it ys i b)=nxt xs (it xs i b)
    rw[ih]
    exact ag _ (List.mem_cons_self ..) _ (yY.mpr (o.uP hb i))
  have z:=zO7 o oy hk hb walk (fN k (per n xs b)) (Nat.le_refl _)
  have full:(pr k (ring n xs b)).take (fN k (per n xs b))=pr k (ring n xs b):=List.take_of_length_le (by unfold pr;rw[List.length_map,List.length_range,zJ];exact Nat.le_refl _)
  rw[full] at z
  obtain⟨oz,_,e,far⟩:=z
  rw[List.flatten_cons,List.nodup_append] at nd
  have q:=zT2 o hk L (runX ys (pr k (ring n xs b))) oz (fun r hr=>hL r (List.mem_cons_of_mem _ hr)) nd.2.1 fun r hr c hc=>by
   obtain⟨b',hb',rfl⟩:=hL r (List.mem_cons_of_mem _ hr)
   have hcn:=o.jV hb' (yY.mp hc)
   rw[far c hcn fun w=>nd.2.2 c (yY.mpr w) c (List.mem_flatten.mpr ⟨_,hr,hc⟩) rfl]
   exact ag _ (List.mem_cons_of_mem _ hr) c hc
  rw[List.flatMap_cons,bJ,List.map_cons,List.sum_cons,zJ]
  exact⟨q.1,by bv_omega⟩
def told (n k:Nat) (xs:List Int):List (Nat×Nat):=(rgs n xs n).flatMap (pr k)
theorem zK3 (o:Ord n xs){k:Nat}(hk:1<=k):Ord n (runX xs (told n k xs))/\ND n k (runX xs (told n k xs))=0:=by
 have ok:=o.yG n (Nat.le_refl n)
 have z:=zT2 o hk (rgs n xs n) xs o (fun r hr=>by obtain⟨b,hb,e,_⟩:=ok.each r hr;exact⟨b,hb,e⟩) ok.nodup fun _ _ _ _=>rfl
 refine⟨z.1,?_⟩
 have e:=z.2
 unfold told
 unfold ND at e ⊢
 bv_omega
theorem yL1 (k:Nat) (xs:List Int) (n:Nat):(told n k xs).length=ND n k xs:=by
 unfold told ND
 rw[List.length_flatMap]
 congr 1
 refine List.map_congr_left fun r _ => ?_
 unfold pr
 simp
def Vp (n:Nat) (q:Nat×Nat):Prop:=q.1<n/\q.2<n/\q.1≠q.2
theorem zW5 (o:Ord n xs){k:Nat}(hk:1<=k):∀q∈told n k xs,Vp n q:=fun q hq=>by
 have ok:=o.yG n (Nat.le_refl n)
 unfold told at hq
 obtain⟨r,hr,hq⟩:=List.mem_flatMap.mp hq
 obtain⟨b,hb,rfl,_⟩:=ok.each r hr
 unfold pr at hq
 obtain⟨m,hm,rfl⟩:=List.mem_map.mp hq
 have hm:=List.mem_range.mp hm
 rw[zJ] at hm
 have lt:=aK hk hm
 have p1:=(o.zD hb).1
 have:1*k<=(m+1)*k:=Nat.mul_le_mul_right k (by bv_omega)
 refine⟨?_,?_,?_⟩
 ·show (ring n xs b).getD 0 0<n
  rw[vS (by bv_omega)];exact o.wW hb 0
 ·show (ring n xs b).getD ((m+1)*k) 0<n
  rw[vS lt];exact o.wW hb _
 ·show (ring n xs b).getD 0 0≠(ring n xs b).getD ((m+1)*k) 0
  rw[vS (by bv_omega),vS lt]
  exact o.zZ8 hb (by bv_omega) lt
theorem yC4 (o:Ord n xs):∀ps:List (Nat×Nat),(∀q∈ps,Vp n q)->Ord n (runX xs ps):=fun ps=>by
 induction ps generalizing xs with
 | nil=>intro _;exact o
 | cons q ps ih =>
  intro h
  have hq:=h q (List.mem_cons_self ..)
  exact ih (gK o hq.1 hq.2.1) fun x hx=>h x (List.mem_cons_of_mem _ hx)
end
end MR
namespace M12
def ff (n:Int):Nat->Int
 | 0=>1
 | j+1=>ff n j*(n-j)
def tot (least:Int) (many:List Int):Nat->Int
 | 0=>0
 | j+1=>if least<=(j:Int)+1 then tot least many j+ff ((many.length:Int)-1) j*many.getD (many.length-(j+1)) 0 else tot least many j
def mbl (least most:Int):Nat->List Int
 | 0=>[1]
 | n+1=>mbl least most n ++ [tot least (mbl least most n) (min most ((n:Int)+1)).toNat]
def G (least most:Int) (n:Nat):Int:=(mbl least most n).getD n 0
def B:Int:=2 ^ 400
end M12
namespace M12
end M12
namespace M12
def sumN (F:Nat->Int):Nat->Int
 | 0=>0
 | n+1=>sumN F n+F n
def bin:Nat->Nat->Int
 | _,0=>1
 | 0,_+1=>0
 | n+1,m+1=>bin n m+bin n (m+1)
def fac:Nat->Int
 | 0=>1
 | n+1=>fac n*((n:Int)+1)
end M12
namespace M12
end M12
namespace M12
def pair (n:Nat) (u v:Nat->Int):Int:=sumN (fun p=>fac p*u p*v p) (n+1)
def e0 (i:Nat):Int:=if i=0 then 1 else 0
end M12
namespace MR
def nf:Nat->Nat->Nat
 | _,0=>1
 | m,j+1=>m*nf (m-1) j
def pk:Nat->List Nat->Nat->List Nat
 | 0,_,_=>[]
 | j+1,l,r=>l.getD (r / nf (l.length-1) j) 0::pk j (l.eraseIdx (r / nf (l.length-1) j)) (r%nf (l.length-1) j)
def pr':List Nat->List Nat->Nat
 | _,[]=>0
 | l,x::xs=>l.idxOf x*nf (l.length-1) xs.length+pr' (l.erase x) xs
theorem aQ {l:List Nat}{j:Nat}(h:j<l.length):l.getD j 0∈l:=by simp[List.getD,h]
def smN (A:Nat->Nat) (c:Nat):Nat->Nat
 | 0=>0
 | j+1=>smN A c j+nf (c-1) j*A (c-(j+1))
def gn (k m:Nat):Nat:=(M12.G 1 (k:Int) m).toNat
def wo (l r:List Nat):List Nat:=l.filter fun b=>!r.contains b
inductive Told (k:Nat):List Nat->Nat->List (List Nat)->Prop
 | nil:Told k [] 0 []
 | cons {a:Nat}{t xs:List Nat}{M:Nat}{rs:List (List Nat)}:xs.length<k->xs.Nodup->(∀x∈xs,x∈t)->Told k (wo (a::t) (a::xs)) M rs ->
  Told k (a::t) (smN (gn k) (t.length+1) xs.length+pr' t xs*gn k (t.length-xs.length)+M) ((a::xs)::rs)
def Can (rs:List (List Nat)):Prop:=(∀r∈rs,∃a xs,r=a::xs/\∀x∈xs,a<x)/\rs.Pairwise fun r r'=>∀x∈r.head?,∀y∈r',x<y
theorem yE2 {n:Nat}{xs:List Int}{rs:List (List Nat)}(c:Can rs) (p:rs.flatten.Perm (List.range n)) (hl:xs.length=n)
  (hx:∀r∈rs,∀j,j<r.length->xs.getD (r.getD j 0) 0=((r.getD ((j+1)%r.length) 0:Nat):Int)):Ord n xs/\rgs n xs n=rs:=by
 have nd:rs.flatten.Nodup:=p.nodup_iff.mpr List.nodup_range
 have mem:∀b,b<n ↔ ∃r∈rs,b∈r:=fun b=>by rw[<-List.mem_range,<-p.mem_iff,List.mem_flatten]
 have ndr:∀r∈rs,r.Nodup:=fun r hr=>nd.sublist (List.sublist_flatten_of_mem hr)
 have posn:∀(r:List Nat) (b:Nat),b∈r->∃j,j<r.length/\r.getD j 0=b:=fun r b h=>by
  obtain⟨j,hj,e⟩:=List.mem_iff_getElem.mp h
  exact⟨j,hj,by rw[List.getD,List.getElem?_eq_getElem hj];exact e⟩
 have gm:∀(r:List Nat) j,j<r.length->r.getD j 0∈r:=fun r j h=>aQ h
 have apart:∀r∈rs,∀r'∈rs,∀b,b∈r->b∈r'->r=r':=fun r hr r' hr' b hb hb'=>by
  have pw:=(List.pairwise_flatten.mp nd).2
  obtain⟨i,hi,e⟩:=List.mem_iff_getElem.mp hr
  obtain⟨j,hj,e'⟩:=List.mem_iff_getElem.mp hr'
  rcases Nat.lt_trichotomy i j with q | q | q
  ·have:=List.pairwise_iff_getElem.mp pw i j hi hj q
   rw[e,e'] at this
   exact absurd rfl (this b hb b hb')
  ·subst q
   rw[<-e,<-e']
  ·have:=List.pairwise_iff_getElem.mp pw j i hj hi q
   rw[e,e'] at this
   exact absurd rfl (this b hb' b hb)
 have inj:∀r:List Nat,r.Nodup->∀i j,i<r.length->j<r.length->r.getD i 0=r.getD j 0->i=j:=fun r h i j hi hj e=>by
  rw[List.getD,List.getD,List.getElem?_eq_getElem hi,List.getElem?_eq_getElem hj] at e
  exact (List.getElem_inj h).mp e
 have nx:∀r∈rs,∀j,j<r.length->nxt xs (r.getD j 0)=r.getD ((j+1)%r.length) 0:=fun r hr j hj=>by
  unfold nxt
  rw[hx r hr j hj]
  exact Int.toNat_natCast _
 have o:Ord n xs:=by
  have e:xs=ofN n (nxt xs):=by
   refine List.ext_getElem (by rw[jS,hl]) fun i h1 h2 => ?_
   have g1:xs[i]=xs.getD i 0:=by rw[List.getD,List.getElem?_eq_getElem h1];rfl
   have g2:(ofN n (nxt xs))[i]=(ofN n (nxt xs)).getD i 0:=by rw[List.getD,List.getElem?_eq_getElem h2];rfl
   rw[g1,g2,zE8 (by bv_omega)]
   obtain⟨r,hr,hb⟩:=(mem i).mp (by bv_omega)
   obtain⟨j,hj,rfl⟩:=posn r i hb
   rw[nx r hr j hj,hx r hr j hj]
  rw[e]
  refine yD5 (fun b hb => ?_) fun b b' hb hb' e => ?_
  ·obtain⟨r,hr,hb⟩:=(mem b).mp hb
   obtain⟨j,hj,rfl⟩:=posn r b hb
   rw[nx r hr j hj]
   exact (mem _).mpr ⟨r,hr,gm r _ (Nat.mod_lt _ (by bv_omega))⟩
  ·obtain⟨r,hr,hb⟩:=(mem b).mp hb
   obtain⟨j,hj,rfl⟩:=posn r b hb
   obtain⟨r',hr',hb'⟩:=(mem b').mp hb'
   obtain⟨j',hj',rfl⟩:=posn r' b' hb'
   rw[nx r hr j hj,nx r' hr' j' hj'] at e
   have m1:=Nat.mod_lt (j+1) (show r.length > 0 by bv_omega)
   have m2:=Nat.mod_lt (j'+1) (show r'.length > 0 by bv_omega)
   have er:=apart r hr r' hr' _ (gm r _ m1) (by rw[e];exact gm r' _ m2)
   subst er
   have:=inj r (ndr r hr) _ _ m1 m2 e
   have:j=j':=by
    by_cases a1:j+1=r.length
    ·rw[a1,Nat.mod_self] at this
     by_cases a2:j'+1=r.length
     ·bv_omega
     ·rw[Nat.mod_eq_of_lt (by bv_omega)] at this
      bv_omega
    ·rw[Nat.mod_eq_of_lt (show j+1<r.length by bv_omega)] at this
     by_cases a2:j'+1=r.length
     ·rw[a2,Nat.mod_self] at this
      bv_omega
     ·rw[Nat.mod_eq_of_lt (by bv_omega)] at this
      bv_omega
   rw[this]
 refine⟨o,?_⟩
 have walk:∀r∈rs,∀i,0<r.length->it xs i (r.getD 0 0)=r.getD (i%r.length) 0:=fun r hr i h=>by
  induction i with
  | zero=>rw[Nat.zero_mod];rfl
  | succ i ih =>
   show nxt xs (it xs i _)=_
   rw[ih,nx r hr _ (Nat.mod_lt _ h),Nat.mod_add_mod]
 have pr:∀r∈rs,0<r.length->per n xs (r.getD 0 0)=r.length:=fun r hr h=>by
  refine dU o ((mem _).mpr ⟨r,hr,gm r 0 h⟩) h (by rw[walk r hr _ h,Nat.mod_self]) fun i h1 h2 e => ?_
  rw[walk r hr i h,Nat.mod_eq_of_lt h2] at e
  have:=inj r (ndr r hr) _ _ h2 h e
  bv_omega
 have rg:∀r∈rs,0<r.length->ring n xs (r.getD 0 0)=r:=fun r hr h=>by
  unfold ring
  rw[pr r hr h]
  refine List.ext_getElem (by simp) fun i h1 h2 => ?_
  rw[List.getElem_map,List.getElem_range,walk r hr i h,Nat.mod_eq_of_lt h2,List.getD,List.getElem?_eq_getElem h2]
  rfl
 have pos:∀r∈rs,0<r.length:=fun r hr=>by
  obtain⟨a,ys,rfl,_⟩:=c.1 r hr
  simp
 have main:∀m,m<=n->rgs n xs m=rs.filter fun r=>decide (r.getD 0 0<m):=fun m=>by
  induction m with
  | zero =>
   intro _
   show []=_
   exact (List.filter_eq_nil_iff.mpr fun r _=>by simp).symm
  | succ m ih =>
   intro hm
   have ih:=ih (by bv_omega)
   rw[rgs,ih]
   by_cases q:has (rs.filter fun r=>decide (r.getD 0 0<m)) m=true
   ·rw[if_pos q]
    obtain⟨r,hr,hb⟩:=jG.mp q
    obtain⟨hr,hd⟩:=List.mem_filter.mp hr
    have hd:=of_decide_eq_true hd
    refine List.filter_congr fun r' hr' => ?_
    have:¬r'.getD 0 0=m:=fun e=>by
     have:=apart r hr r' hr' m hb (by rw[<-e];exact gm r' 0 (pos r' hr'))
     subst this
     bv_omega
    by_cases a:r'.getD 0 0<m
    ·rw[decide_eq_true a,decide_eq_true (by bv_omega)]
    ·rw[decide_eq_false a,decide_eq_false (by bv_omega)]
   ·rw[if_neg q]
    obtain⟨r,hr,hb⟩:=(mem m).mp (by bv_omega)
    have e0:r.getD 0 0=m:=by
     obtain⟨a,ys,e,h⟩:=c.1 r hr
     rcases List.mem_cons.mp (e▸hb) with z | z
     ·rw[e,z];rfl
     ·have:=h m z
      refine absurd (jG.mpr ⟨r,List.mem_filter.mpr ⟨hr,decide_eq_true ?_⟩,hb⟩) q
      rw[e]
      exact this
    obtain⟨A,B,rfl⟩:=List.append_of_mem hr
    have pw:=List.pairwise_append.mp c.2
    have head:∀r':List Nat,0<r'.length->r'.getD 0 0∈r'.head?:=fun r' h=>by
     cases r' with
     | nil=>simp at h
     | cons x _=>rfl
    have hA:∀r'∈A,r'.getD 0 0<m:=fun r' h'=>by
     have hr':r'∈A++r::B:=List.mem_append_left _ h'
     exact pw.2.2 r' h' r (List.mem_cons_self ..) _ (head r' (pos r' hr')) m hb
    have hB:∀r'∈B,m<r'.getD 0 0:=fun r' h'=>by
     have hr':r'∈A++r::B:=List.mem_append_right _ (List.mem_cons_of_mem _ h')
     exact List.rel_of_pairwise_cons pw.2.1 h' m (by rw[<-e0];exact head r (pos r hr)) _ (gm r' 0 (pos r' hr'))
    have fA:∀m',m<=m'->A.filter (fun r=>decide (r.getD 0 0<m'))=A:=fun m' h=>List.filter_eq_self.mpr fun r' h'=>decide_eq_true (by have:=hA r' h';bv_omega)
    have fB:∀m',m'<=m+1->B.filter (fun r=>decide (r.getD 0 0<m'))=[]:=fun m' h=>List.filter_eq_nil_iff.mpr fun r' h'=>by
     have:=hB r' h'
     rw[decide_eq_false (by bv_omega)]
     exact Bool.false_ne_true
    rw[List.filter_append,List.filter_append,fA m (Nat.le_refl _),fA (m+1) (by bv_omega),List.filter_cons_of_neg (by rw[e0];simp),fB m (by bv_omega),List.append_nil,
     List.filter_cons_of_pos (by rw[e0];simp),fB (m+1) (Nat.le_refl _),<-e0,rg r hr (pos r hr)]
 rw[main n (Nat.le_refl _)]
 exact List.filter_eq_self.mpr fun r hr=>decide_eq_true ((mem _).mpr ⟨r,hr,gm r 0 (pos r hr)⟩)
inductive Chain:List Nat->List (List Nat)->Prop
 | nil:Chain [] []
 | cons {a:Nat}{t xs:List Nat}{rs:List (List Nat)}:xs.Nodup->(∀x∈xs,x∈t)->Chain (wo (a::t) (a::xs)) rs->Chain (a::t) ((a::xs)::rs)
theorem zD1 {n:Nat}{xs:List Int}(o:Ord n xs):Can (rgs n xs n):=by
 have k:=o.yG n (Nat.le_refl n)
 have hd:∀r∈rgs n xs n,∃b,b<n/\r=ring n xs b/\r.head?=some b/\∀c∈r,b<=c:=fun r hr=>by
  obtain⟨b,hb,rfl,h⟩:=k.each r hr
  exact⟨b,hb,rfl,jX o hb,fun c hc=>h c (yY.mp hc)⟩
 refine⟨fun r hr => ?_,?_⟩
 ·obtain⟨b,hb,e,h1,h2⟩:=hd r hr
  have nd:r.Nodup:=by rw[e];exact o.fY hb
  cases r with
  | nil=>cases h1
  | cons a ys =>
   have:a=b:=by simpa using h1
   subst this
   refine⟨a,ys,rfl,fun x hx => ?_⟩
   have:=h2 x (List.mem_cons_of_mem _ hx)
   have ne:a≠x:=fun z=>(List.nodup_cons.mp nd).1 (z▸hx)
   bv_omega
 ·have all:∀L:List (List Nat),(∀r∈L,r∈rgs n xs n)->L.Pairwise (fun r r'=>∀x∈r.head?,∀y∈r'.head?,x<y)->L.Pairwise (fun r r'=>∀x∈r.head?,∀y∈r',x<y):=fun L=>by
   induction L with
   | nil=>exact fun _ _=>List.Pairwise.nil
   | cons r L ih =>
    intro hL w
    have w':=List.pairwise_cons.mp w
    refine List.pairwise_cons.mpr ⟨fun r' hr' x hx y hy => ?_,ih (fun r hr=>hL r (List.mem_cons_of_mem _ hr)) w'.2⟩
    obtain⟨b,_,_,h1,h2⟩:=hd r' (hL r' (List.mem_cons_of_mem _ hr'))
    have:=w'.1 r' hr' x hx b (by rw[h1];rfl)
    have:=h2 y hy
    bv_omega
  exact all _ (fun r hr=>hr) k.rise
theorem yE9 {n:Nat}{xs ys:List Int}(o:Ord n xs) (o':Ord n ys) (e:rgs n xs n=rgs n ys n):xs=ys:=by
 refine MR.Ord.ext o o' fun b hb => ?_
 obtain⟨r,hr,hm⟩:=(o.yG n (Nat.le_refl n)).cover b hb
 obtain⟨c,hc,e1,_⟩:=(o.yG n (Nat.le_refl n)).each r hr
 obtain⟨c',hc',e2,_⟩:=(o'.yG n (Nat.le_refl n)).each r (e▸hr)
 have hh:c=c':=by
  have h1:=jX o hc
  have h2:=jX o' hc'
  rw[<-e1] at h1
  rw[<-e2,h1] at h2
  exact Option.some.inj h2
 subst hh
 have eq:ring n xs c=ring n ys c:=by rw[<-e1,<-e2]
 have lp:per n xs c=per n ys c:=by rw[<-zJ,<-zJ,eq]
 have at':∀i,i<per n xs c->it xs i c=it ys i c:=fun i hi=>by
  have h1:(ring n xs c)[i]?=some (it xs i c):=by
   unfold ring
   rw[List.getElem?_map,List.getElem?_range hi]
   rfl
  have h2:(ring n ys c)[i]?=some (it ys i c):=by
   unfold ring
   rw[List.getElem?_map,List.getElem?_range (by bv_omega)]
   rfl
  rw[eq,h2] at h1
  exact (Option.some.inj h1).symm
 rw[e1] at hm
 obtain⟨i,hi,rfl⟩:=yY.mp hm
 have p1:=o.zD hc
 have p2:=o'.zD hc
 show it xs (i+1) c=nxt ys (it xs i c)
 rw[at' i hi]
 show _=it ys (i+1) c
 by_cases z:i+1<per n xs c
 ·exact at' _ z
 ·have:i+1=per n xs c:=by bv_omega
  rw[this,p1.2.2.1,lp,p2.2.2.1]
end MR
namespace L2.L3
open PySem PySem.Spec PyProof.Rows
variable [CN]
section
variable {X:Cx}
theorem zR1:∀{ts:List Str}{us:List Value},Vals (ts.map V.str) us->∃l:List (Str×Tok),us=strValues l/\l.map (·.1)=ts
 | [],us,h=>by cases h;exact⟨[],rfl,rfl⟩
 | z::ts,us,h=>by
  cases h with
  | cons r rs =>
   obtain⟨t,rfl⟩:=r
   obtain⟨l,rfl,e⟩:=zR1 rs
   exact⟨(z,t)::l,rfl,by rw[List.map_cons,e]⟩
theorem zS9:∀l:List (Str×Tok),Vals ((l.map (·.1)).map V.str) (strValues l)
 | []=>.nil
 | (z,t)::l=>.cons ⟨t,rfl⟩ (zS9 l)
def rDig:V->List V->Hp->VK->Prop:=fun x vs H Q=>∃z,x=.str z/\vs=[]/\Q (.bl (Txt.isdigit z)) H
theorem yZ4:MtR X "str.isdigit" rDig:=by
 rintro pins s σ H x vs v us Q I rx rv ⟨z,rfl,rfl,q⟩
 obtain⟨t,rfl⟩:=rx
 cases rv
 exact SC.isdigit ⟨.bl _,H,I,rfl,q⟩
def rStw:V->List V->Hp->VK->Prop:=fun x vs H Q=>∃z y,x=.str z/\vs=[.str y]/\Q (.bl (Txt.startswith z y)) H
theorem zQ4:MtR X "str.startswith" rStw:=by
 rintro pins s σ H x vs v us Q I rx rv ⟨z,y,rfl,rfl,q⟩
 obtain⟨t,rfl⟩:=rx
 obtain⟨u,rfl,t2,rfl⟩:=vals1 rv
 exact SC.startswith ⟨.bl _,H,I,rfl,q⟩
def rJoin (K:KFr):V->List V->Hp->VK->Prop:=fun x vs H Q=>∃z p ts,x=.str z/\vs=[.ref p]/\SqL K H p (ts.map V.str)/\JoinOk z ts=true/\Q (.str (Txt.join z ts)) H
theorem vF:MtR X "str.join" (rJoin X.K):=by
 rintro pins s σ H x vs v us Q I rx rv ⟨z,p,ts,rfl,rfl,hq,ok,q⟩
 obtain⟨t,rfl⟩:=rx
 obtain⟨u,rfl,ru⟩:=vals1 rv
 cases ru
 obtain⟨its,r,pl,_⟩:=I.list hq
 obtain⟨l,rfl,el⟩:=zR1 r
 exact SC.join pl.isList el ok fun t' k=>⟨.str _,H,I.tok _,⟨_,rfl⟩,q⟩
def rSpl:V->List V->Hp->VK->Prop:=fun x vs H Q=>∃z y,x=.str z/\vs=[.str y]/\1<=y.length/\z.length+2<=sizeLine/\∀p,H p=none->Q (.ref p) (upd H p (.lst ((Txt.split z y).map V.str)))
theorem uM:MtR X "str.split" rSpl:=by
 rintro pins s σ H x vs v us Q I rx rv ⟨z,y,rfl,rfl,hy,hz,q⟩
 obtain⟨t,rfl⟩:=rx
 obtain⟨u,rfl,t2,rfl⟩:=vals1 rv
 have y0:(y.length == 0)=false:=by rw[beq_eq_false_iff_ne];bv_omega
 have few:=split_le z y
 have fin:∀(l:List (Str×Tok)) (k:Nat),l.map (·.1)=Txt.split z y->EP X pins σ Q (.ref s.heap.objs.size) { s with heap:=s.heap.push { cls:=.type "list",data:=.seq (strValues l).toArray },toks:=k }:=fun l k e=>by
  have V0:=zS9 l
  rw[e] at V0
  exact⟨.ref _,_,I.lnew (t':=k) V0 (by rw[List.length_map];bv_omega),rfl,q _ I.fresh⟩
 have one:∀k,Txt.split z y=[z]->EP X pins σ Q (.ref s.heap.objs.size) { s with heap:=s.heap.push { cls:=.type "list",data:=.seq [Value.str z t].toArray },toks:=k }:=fun k e=>fin [(z,t)] k (by rw[e];rfl)
 by_cases c1:(decide (z.length<y.length) || decide (Builtin.Str.strKind z<Builtin.Str.strKind y))=true
 ·have e:Txt.split z y=[z]:=by unfold Txt.split;rw[if_pos c1]
  exact call_meets F.slot_str_split (typeIs_str s z t) F.entry_str_split (F.args_str_split_2 _ _) (meets_str_split_cannot_occur z y t t2 c1) (one s.toks e)
 ·have c1':=Bool.not_eq_true _▸c1
  by_cases c2:(Builtin.Str.occurrences z y 0 z.length (z.length+1)).isEmpty=true
  ·have e:Txt.split z y=[z]:=by unfold Txt.split;rw[if_neg c1,if_pos c2]
   exact call_meets F.slot_str_split (typeIs_str s z t) F.entry_str_split (F.args_str_split_2 _ _) (meets_str_split_not_found z y t t2 (by simpa using c1) y0 c2) (one s.toks e)
  ·have e:Txt.split z y=Builtin.Str.partsBetween z (Builtin.Str.occurrences z y 0 z.length (z.length+1)) y.length:=by unfold Txt.split;rw[if_neg c1,if_neg c2]
   rw[e] at few
   refine call_meets F.slot_str_split (typeIs_str s z t) F.entry_str_split (F.args_str_split_2 _ _) (meets_str_split_sep z y t t2 (by simpa using c1) y0 (by simpa using c2) (by bv_omega) (by bv_omega)) ?_
   have key:=fin (numbered s.toks (Txt.split z y)) (s.toks+(Builtin.Str.partsBetween z (Builtin.Str.occurrences z y 0 z.length (z.length+1)) y.length).length) (numbered_texts _ _)
   rw[e,<-strsFrom_eq] at key
   exact key
end
def strD:D->Option Str
 | .str z=>some z
 | _=>none
theorem xH {x:D}{z:Str}(h:strD x=some z):x=.str z:=by
 cases x with
 | str y=>cases h;rfl
 | _=>cases h
theorem yS (z:Str):strD (.str z)=some z:=rfl
def strsOf:List D->Option (List Str)
 | []=>some []
 | x::xs=>(strD x).bind fun z=>(strsOf xs).bind fun zs=>some (z::zs)
theorem zY8:∀zs:List Str,strsOf (zs.map PyData.str)=some zs
 | []=>rfl
 | z::zs=>by
  show (strD (.str z)).bind _=_
  rw[yS,Option.bind_some,zY8 zs]
  rfl
theorem cA:∀{ds:List D}{zs:List Str},strsOf ds=some zs->ds=zs.map PyData.str
 | [],zs,h=>by cases h;rfl
 | x::xs,zs,h=>by
  obtain⟨z,e1,h⟩:=Option.bind_eq_some_iff.mp h
  obtain⟨ys,e2,h⟩:=Option.bind_eq_some_iff.mp h
  cases h
  rw[xH e1,cA e2]
  rfl
theorem zS1 {H:Hp}{O:Addr->Prop}:∀{zs:List Str}{vs:List V},Reps H O vs (zs.map PyData.str)->vs=zs.map V.str
 | [],vs,h=>by cases h;rfl
 | z::zs,vs,h=>by
  cases h with
  | cons r rs =>
   cases r
   rw[zS1 rs]
   rfl
theorem zU7 {H:Hp}{O:Addr->Prop}:∀zs:List Str,Reps H O (zs.map V.str) (zs.map PyData.str)
 | []=>.nil
 | z::zs=>.cons (.str z) (zU7 zs)
def eM0S (f:Str->Option D) (mo:Ev->Res D):Ev->Res D:=fun ρ=>(mo ρ).bind fun x=>(Res.lft (strD x)).bind fun z=>Res.lft (f z)
theorem zX5 (f:Str->Option D) (mo:Ev->Res D) (ρ:Ev):eM0S f mo ρ=(mo ρ).bind fun x=>(Res.lft (strD x)).bind fun z=>Res.lft (f z):=rfl
theorem zB2 {C:Ct}{o:Expr}{apos cpos:Pos}{md:Md}{mo:Ev->Res D}(ho:RE C md o mo)
  (hbase:autoParam (attributeBase o "isdigit" C.X.env (eval o C.X.env)=eval o C.X.env) zW._auto_1) (hline:autoParam ((apos.endLine == cpos.line)=true) zW._auto_1) :
  RE C .cl (.Call (.Attribute o "isdigit" apos) [] [] cpos) (eM0S (fun z=>some (.bool (Txt.isdigit z))) mo):=by
 obtain⟨to,po,qo⟩:=ho
 refine⟨_,xV2 PySem.F.plainAttrs_str PySem.F.slot_str_isdigit PySem.F.type_str_isdigit yZ4 po hbase hline,fun Oc Ob σ H ρ Q R h => ?_⟩
 refine qo Oc Ob σ H ρ _ R (Res.zR (Res.zU h) (fun dx _ k x H1 s1 vx => ?_) fun _ z=>z)
 obtain⟨z,ez,k1⟩:=Res.zF (Res.zU k)
 obtain rfl:=xH ez
 obtain⟨d,ed,k2⟩:=Res.zF k1
 cases ed
 obtain rfl:=(vx.va R.oh).str
 exact⟨rfl,z,rfl,rfl,k2 _ H1 s1 (Rep.bl _)⟩
def eM1S (f:Str->D->Option D) (mo ma:Ev->Res D):Ev->Res D:=fun ρ=>(mo ρ).bind fun x=>(Res.lft (strD x)).bind fun z=>(ma ρ).bind fun y=>Res.lft (f z y)
theorem xU (f:Str->D->Option D) (mo ma:Ev->Res D) (ρ:Ev):eM1S f mo ma ρ=(mo ρ).bind fun x=>(Res.lft (strD x)).bind fun z=>(ma ρ).bind fun y=>Res.lft (f z y):=rfl
def Pr1S (r:V->List V->Hp->VK->Prop) (md:Md) (f:Str->D->Option D):Prop :=
 ∀(Oc:Wd) (Ob:Addr->Prop) (H:Hp) (z:Str) (y:V) (dy d:D) (Q:VK),(∀a,Oc a\/Ob a->H a≠none)->VA Oc Ob H y dy->f z dy=some d->(∀v H',Same H H'->VR md Oc Ob H H' v d->Q v H')->r (.str z) [y] H Q
theorem yR {C:Ct}{o a:Expr}{name:Str}{id:String}{apos cpos:Pos}{md mda mdr:Md}{mo ma:Ev->Res D}{r:V->List V->Hp->VK->Prop}{f:Str->D->Option D}(slot:Slot "str" name id) (hty:typeOf (.builtin id)=pure (.type "method_descriptor")) (hm:MtR C.X id r) (hp:Pr1S r mdr f) (ho:RE C md o mo) (ha:RE C mda a ma)
  (hbase:autoParam (attributeBase o name C.X.env (eval o C.X.env)=eval o C.X.env) zW._auto_1)
  (hfew:((backTo cpos (starEach [a] C.X.env)).all (fun x=>!x.1)&&(backToKw cpos (keywordEach [] C.X.env)).all (fun x=>x.1.isSome)
  &&decide ([a].length+([]:List Keyword).length+(if ([]:List Keyword).isEmpty then 0 else 1)<30))=true:=by rfl)
  (hline:autoParam ((apos.endLine == cpos.line)=true) zW._auto_1) (hs:autoParam (starEach [a] C.X.env=(false,eval a C.X.env)::starEach [] C.X.env) zW._auto_1) (hplain:autoParam ((backTo cpos (starEach [] C.X.env)).any (·.1)=false) zW._auto_1) :
  RE C mdr (.Call (.Attribute o name apos) [a] [] cpos) (eM1S f mo ma):=by
 obtain⟨to,po,qo⟩:=ho
 obtain⟨ta,pa,qa⟩:=ha
 refine⟨_,zY1 PySem.F.plainAttrs_str slot hty hm po (wZ pa wH hs) hbase hfew hline hs hplain,fun Oc Ob σ H ρ Q R h => ?_⟩
 refine qo Oc Ob σ H ρ _ R (Res.zR (Res.zU h) (fun dx _ k x H1 s1 vx => ?_) fun _ z=>z)
 obtain⟨z,ez,k⟩:=Res.zF (Res.zU k)
 obtain rfl:=xH ez
 obtain rfl:=(vx.va R.oh).str
 refine⟨rfl,qa Oc Ob σ H1 ρ _ (R.same s1) (Res.zR (Res.zU k) (fun dy _ k y H2 s2 vy => ?_) fun c z H' s'=>z H' (s1.trans s'))⟩
 obtain⟨d,ed,k⟩:=Res.zF k
 exact hp Oc Ob H2 z y dy d Q ((R.same s1).same s2).oh (vy.va (R.same s1).oh) ed fun v H' s3 rv=>k v H' ((s1.trans s2).trans s3) (rv.from (s1.trans s2))
def stwD (z:Str) (y:D):Option D:=(strD y).map fun u=>.bool (Txt.startswith z u)
theorem zQ3:Pr1S rStw .cl stwD:=by
 intro Oc Ob H z y dy d Q oh vy e k
 obtain⟨u,e1,rfl⟩:=Option.map_eq_some_iff.mp e
 obtain rfl:=xH e1
 obtain rfl:=vy.str
 exact⟨z,u,rfl,rfl,k _ H (Same.refl H) (Rep.bl _)⟩
def splD (z:Str) (y:D):Option D:=(strD y).bind fun u=>if 1<=u.length/\z.length+2<=sizeLine then some (.list ((Txt.split z u).map PyData.str)) else none
theorem uN:Pr1S rSpl .new splD:=by
 intro Oc Ob H z y dy d Q oh vy e k
 obtain⟨u,e1,e0⟩:=Option.bind_eq_some_iff.mp e
 obtain rfl:=xH e1
 obtain rfl:=vy.str
 split at e0
 ·rename_i h
  cases e0
  exact⟨z,u,rfl,rfl,h.1,h.2,fun p hp=>k _ _ (Same.new hp) (xB (Same.refl H) hp (zU7 _))⟩
 ·cases e0
def joinD (z:Str) (y:D):Option D:=(lstD y).bind fun ds=>(strsOf ds).bind fun ts=>if JoinOk z ts=true then some (.str (Str.join z ts)) else none
theorem vD {K:KFr}:Pr1S (rJoin K) .cl joinD:=by
 intro Oc Ob H z y dy d Q oh vy e k
 obtain⟨ds,e1,e3⟩:=Option.bind_eq_some_iff.mp e
 obtain⟨ts,e2,e0⟩:=Option.bind_eq_some_iff.mp e3
 obtain rfl:=kK e1
 obtain rfl:=cA e2
 obtain⟨a,ys,rfl,rd,rs⟩:=vy.list
 obtain rfl:=zS1 rs
 split at e0
 ·rename_i h
  cases e0
  refine⟨z,a,ts,rfl,rfl,.inl rd,h,?_⟩
  rw[show Txt.join z ts=Str.join z ts from StrLaws.glued_eq_join z ts]
  exact k _ H (Same.refl H) (Rep.str _)
 ·cases e0
def catS:D->D->Option D:=fun x y=>(strD x).bind fun a=>(strD y).bind fun b=>if a.length+b.length<=sizeLine then some (.str (a++b)) else none
theorem vH:Pr2 (fun x y H Q=>∃i j,x=.str i/\y=.str j/\i.length+j.length<=sizeLine/\Q (.str (i++j)) H) .cl catS:=by
 intro Oc Ob H x y dx dy d Q oh vx vy e k
 obtain⟨a,e1,e3⟩:=Option.bind_eq_some_iff.mp e
 obtain⟨b,e2,e0⟩:=Option.bind_eq_some_iff.mp e3
 obtain rfl:=xH e1
 obtain rfl:=xH e2
 split at e0
 ·rename_i h
  cases e0
  exact⟨a,b,vx.str,vy.str,h,k _ H (Same.refl H) (Rep.str _)⟩
 ·cases e0
def strOfD:List D->Option D
 | [.int i]=>if i.natAbs.log2<1920 then some (.str (toString i)) else none
 | _=>none
theorem vV:PrC (fun xs H Q=>∃i,xs=[.int i]/\i.natAbs.log2<1920/\Q (.str (toString i)) H) .cl strOfD:=by
 intro Oc Ob H vs ds d Q oh r e k
 unfold strOfD at e
 split at e
 ·split at e
  ·rename_i h
   cases e
   obtain⟨v,rfl,hv⟩:=cP r
   exact⟨_,by rw[hv.int],h,k _ H (Same.refl H) (Rep.str _)⟩
  ·cases e
 ·cases e
theorem zR2 {X:Cx}:CallR X (.type "int") (fun xs H Q=>∃z n,xs=[.str z]/\PySem.intText? z=some n/\z.length<=640/\Q (.int n) H):=by
 rintro pins s σ H xs us Q I r ⟨z,n,rfl,e,hl,q⟩
 obtain⟨u,rfl,t,rfl⟩:=vals1 r
 exact PySem.W.KIN.call_text e hl ⟨.int n,H,I.tok _,⟨_,rfl⟩,q⟩
def intTD:List D->Option D
 | [.str z]=>if z.length<=640 then (PySem.intText? z).map PyData.int else none
 | _=>none
theorem yG6:PrC (fun xs H Q=>∃z n,xs=[.str z]/\PySem.intText? z=some n/\z.length<=640/\Q (.int n) H) .cl intTD:=by
 intro Oc Ob H vs ds d Q oh r e k
 unfold intTD at e
 split at e
 ·split at e
  ·rename_i h
   obtain⟨n,en,rfl⟩:=Option.map_eq_some_iff.mp e
   obtain⟨v,rfl,hv⟩:=cP r
   exact⟨_,n,by rw[hv.str],en,h,k _ H (Same.refl H) (Rep.int _)⟩
  ·cases e
 ·cases e
def lenTD:List D->Option D
 | [.str z]=>if z.length<=sizeLine then some (.int z.length) else none
 | _=>none
theorem yG8:PrC (fun xs H Q=>∃z,xs=[.str z]/\z.length<=sizeLine/\Q (.int z.length) H) .cl lenTD:=by
 intro Oc Ob H vs ds d Q oh r e k
 unfold lenTD at e
 split at e
 ·split at e
  ·rename_i h
   cases e
   obtain⟨v,rfl,hv⟩:=cP r
   exact⟨_,by rw[hv.str],h,k _ H (Same.refl H) (Rep.int _)⟩
  ·cases e
 ·cases e
section
variable {X:Cx}
def rSlS:V->Option Int->Option Int->Hp->VK->Prop:=fun x lo hi H Q=>∃z,x=.str z/\z.length<=sizeLine/\Q (.str (Txt.slice z lo hi)) H
theorem zE9 {v:Value}{o:Option Int}(h:IsPart v o):∃l:Option (Int×Tok),v=partValue l/\l.map (·.1)=o:=by
 cases h
 ·exact⟨none,rfl,rfl⟩
 ·rename_i i t
  exact⟨some (i,t),rfl,rfl⟩
theorem yB9:SlR X rSlS:=by
 rintro pins s σ H x v vl vu lo hi sl Q I rx hs pl pu ⟨z,rfl,hz,q⟩
 obtain⟨t,rfl⟩:=rx
 obtain⟨l,rfl,rfl⟩:=zE9 pl
 obtain⟨u,rfl,rfl⟩:=zE9 pu
 refine⟨"str",_,F.slot_str_getitem.lookup,typeIs_str _ _ _,wpAny_getItem_str_slice (l:=l) (u:=u) (st:=none) hs rfl (post_val_or_str ⟨Nat.le_trans (Txt.slice_le z _ _) hz,fun t' k => ?_⟩)⟩
 exact⟨.str _,H,I.tok _,⟨_,rfl⟩,q⟩
end
def slS (x:D) (lo hi:Option Int):Option D:=(strD x).bind fun z=>if z.length<=sizeLine then some (.str (Txt.slice z lo hi)) else none
theorem yB8:PrS rSlS .cl slS:=by
 intro Oc Ob H x dx lo hi d Q oh va e k
 obtain⟨z,e1,e0⟩:=Option.bind_eq_some_iff.mp e
 obtain rfl:=xH e1
 split at e0
 ·rename_i h
  cases e0
  exact⟨z,va.str,h,k _ H (Same.refl H) (Rep.str _)⟩
 ·cases e0
theorem yU4 {C:Ct}{e:Expr}{lo hi:Option Expr}{mda:Md}{me:Ev->Res D}{ml mh:Ev->Res (Option Int)}{p2 pos:Pos}(he:RE C mda e me) (hl:RO C lo ml) (hu:RO C hi mh):RE C .cl (.Subscript e (.Slice lo hi none p2) pos) (eS slS me ml mh):=bO yB9 yB8 he hl hu
def tFil (a b:Str) (te:TE):TE:=fun σ H Q=>te σ H fun x H1=>∃z,x=.str z/\a.length+z.length+b.length<=sizeLine/\Q (.str (a++z++b)) H1
theorem xZ7 {X:Cx}{a b:Str}{j1 j2:Nat}{p1 p2 p3 pos:Pos}{e:Expr}{te:TE}(he:PE X e te) (ha:a.length<=sizeLine):PE X (.JoinedStr [.Constant (.str a) j1 p1,.FormattedValue e (-1) none p2,.Constant (.str b) j2 p3] pos) (tFil a b te):=by
 intro pins s σ H Q I h
 refine wpAny_JoinedStr ?_
 show wpAny _ _ (eval (.Constant (.str a) j1 p1) X.env) _ _ _
 refine Calls.Constant_str ⟨a,_,rfl,by rw[Str.empty_append];exact ha,?_⟩
 show wpAny _ _ (eval (.FormattedValue e (-1) none p2) X.env) _ _ _
 refine wpAny_FormattedValue_plain (thn (he pins _ σ H _ (I.tok _) h) fun v s1 ⟨x,H1,I1,r1,z,ez,hz,q⟩ => ?_)
 subst ez
 obtain⟨t,rfl⟩:=r1
 have la:(Str.empty++a++z).length<=sizeLine:=by rw[Str.empty_append,Str.length_append];bv_omega
 have lb:(Str.empty++a++z++b).length<=sizeLine:=by rw[Str.empty_append,Str.length_append,Str.length_append];bv_omega
 have go:∀(s2:Shared),Inv X pins σ H1 s2->Joins (model X.prog X.w) X.A X.xe [eval (.Constant (.str b) j2 p3) X.env] (Str.empty++a++z) (fun out s₁=>out.length<=sizeLine/\EP X pins σ Q (.str out s₁.toks) { s₁ with toks:=s₁.toks+1 }) s2:=fun s2 I2=>by
  show wpAny _ _ (eval (.Constant (.str b) j2 p3) X.env) _ _ _
  refine Calls.Constant_str ⟨b,_,rfl,lb,?_⟩
  show (Str.empty++a++z++b).length<=sizeLine/\EP X pins σ Q (.str (Str.empty++a++z++b) _) _
  refine⟨lb,?_⟩
  rw[Str.empty_append]
  exact⟨.str _,H1,(I2.tok _).tok _,⟨_,rfl⟩,q⟩
 exact wpAny_formatField_str ⟨z,_,rfl,la,go _ I1⟩ ⟨z,_,rfl,la,go _ (I1.tok _)⟩ (by bv_omega)
def filD (a b:Str) (x:D):Option D:=(strD x).bind fun z=>if a.length+z.length+b.length<=sizeLine then some (.str (a++z++b)) else none
theorem xY6 {C:Ct}{a b:Str}{j1 j2:Nat}{p1 p2 p3 pos:Pos}{e:Expr}{md:Md}{me:Ev->Res D}(he:RE C md e me) (ha:autoParam (a.length<=sizeLine) zG._auto_1):RE C .cl (.JoinedStr [.Constant (.str a) j1 p1,.FormattedValue e (-1) none p2,.Constant (.str b) j2 p3] pos) (e1 (filD a b) me):=by
 obtain⟨te,pe,qe⟩:=he
 refine⟨_,xZ7 pe ha,fun Oc Ob σ H ρ Q R h => ?_⟩
 refine qe Oc Ob σ H ρ _ R (Res.zR (Res.zU h) (fun dx _ k x H1 s1 vx => ?_) fun _ z=>z)
 obtain⟨d,ed,k1⟩:=Res.zF k
 obtain⟨z,e1,e0⟩:=Option.bind_eq_some_iff.mp ed
 obtain rfl:=xH e1
 split at e0
 ·rename_i hl
  cases e0
  exact⟨z,(vx.va R.oh).str,hl,k1 _ H1 s1 (Rep.str _)⟩
 ·cases e0
def sTryN (mb:Ev->Res Out):Ev->Res Out:=fun ρ=>noEx (mb ρ)
theorem zD8 {C:Ct}{fr:Bool}{body:List Stmt}{h0:ExceptHandler}{hs0:List ExceptHandler}{pos:Pos}{mb:Ev->Res Out}
  (hbody:∀(pn:List (Addr×Obj)) (xe:Value->Shared->Prop),RSs ⟨inTry C.X pn xe,fun _ _=>False,C.om,C.ln⟩ fr body mb):RS C fr (.Try body (h0::hs0) [] [] pos) (sTryN mb):=by
 refine⟨fun D σ H=>∀pins s,Inv C.X pins σ H s->wpAny (model C.X.prog C.X.w) C.X.A (exec (.Try body (h0::hs0) [] [] pos) C.X.env) (SP C.X pins D) C.X.xe s,fun pins s σ H D I h=>h pins s I,fun Oc Ob σ H ρ E R hp pins s I => ?_⟩
 refine wpAny_Try_except ?_
 generalize hxe:(fun (e:Value) (s₁:Shared)=>wpAny (model C.X.prog C.X.w) C.X.A (noteFrame e C.X.env) (fun _ s₂=>wpAny (model C.X.prog C.X.w) C.X.A (setFlight e none) (fun _ s₃=>wpAny (model C.X.prog C.X.w) C.X.A (handleBy e C.X.env (h0::hs0)) (SP C.X pins E) C.X.xe s₃) C.X.xe s₂) C.X.xe s₁)=xe'
 obtain⟨tb,pb,qb⟩:=hbody (C.X.pn++pins) xe'
 refine wpAny_mono (pb [] s σ H E (Inv.toTry I _) (qb Oc Ob σ H ρ E R ?_)) (fun f s₁ hs => ?_) fun e s₁ z=>z
 ·unfold sTryN at hp
  cases em:mb ρ with
  | ok o=>rw[em] at hp;exact hp
  | no=>rw[em] at hp;exact hp.elim
  | ex c=>rw[em] at hp;exact hp.elim
 ·cases f with
  | next=>exact wpAny_execs_nil (SP.ofTry hs)
  | brk=>exact SP.ofTry (f:=.brk) hs
  | cont=>exact SP.ofTry (f:=.cont) hs
  | ret u=>exact SP.ofTry (f:=.ret u) hs
section
variable {X:Cx}
def ptV (z y:Str):List V:=[.str (Txt.partition z y).1,.str (Txt.partition z y).2.1,.str (Txt.partition z y).2.2]
def rPart:V->List V->Hp->VK->Prop:=fun x vs H Q=>∃z y,x=.str z/\vs=[.str y]/\1<=y.length/\z.length<=sizeLine/\∀p,H p=none->Q (.ref p) (upd H p (.tup (ptV z y)))
theorem Inv.tnew {its:List Value}{ys:List V}{t':Nat}{pins:List (Addr×Obj)}{σ:St}{H:Hp}{s:Shared}(I:Inv X pins σ H s) (hv:Vals ys its) (hz:ys.length<=sizeLine) :
  Inv X pins σ (upd H s.heap.objs.size (.tup ys)) { s with heap:=s.heap.push { cls:=.type "tuple",data:=.seq its.toArray },toks:=t' } :=
 I.laid (fun _ _ q=>Heap.get?_push_of_some _ q) (Nat.le_refl _) ⟨hz,its,hv,_,Heap.get?_push_size _ rfl,rfl,⟨_,rfl⟩,rfl⟩
theorem zO8:MtR X "str.partition" rPart:=by
 rintro pins s σ H x vs v us Q I rx rv ⟨z,y,rfl,rfl,hy,hz,q⟩
 obtain⟨t,rfl⟩:=rx
 obtain⟨u,rfl,t2,rfl⟩:=vals1 rv
 have y0:(y.length == 0)=false:=by rw[beq_eq_false_iff_ne];bv_omega
 have fin:∀(a b c:Tok) (k:Nat),EP X pins σ Q (.ref s.heap.objs.size) { s with heap:=s.heap.push { cls:=.type "tuple",data:=.seq [Value.str (Txt.partition z y).1 a,.str (Txt.partition z y).2.1 b,.str (Txt.partition z y).2.2 c].toArray },toks:=k }:=fun a b c k =>
  ⟨.ref _,_,Inv.tnew (ys:=ptV z y) I (.cons ⟨a,rfl⟩ (.cons ⟨b,rfl⟩ (.cons ⟨c,rfl⟩ .nil))) (by show 3<=sizeLine;decide),rfl,q _ I.fresh⟩
 refine call_meets F.slot_str_partition (typeIs_str s z t) F.entry_str_partition (F.args_str_partition_2 _ _) (meets_str_partition z y t t2 y0 hz) ?_
 unfold Txt.partition at fin
 generalize Builtin.Str.occurrences z y 0 z.length 1=l at fin ⊢
 cases l with
 | cons i r=>exact fin _ _ _ _
 | nil=>exact fin _ _ _ _
end
def partD (z:Str) (y:D):Option D:=(strD y).bind fun u=>if 1<=u.length/\z.length<=sizeLine then some (.tuple [.str (Txt.partition z u).1,.str (Txt.partition z u).2.1,.str (Txt.partition z u).2.2]) else none
theorem zM6:Pr1S rPart .cl partD:=by
 intro Oc Ob H z y dy d Q oh vy e k
 obtain⟨u,e1,e0⟩:=Option.bind_eq_some_iff.mp e
 obtain rfl:=xH e1
 obtain rfl:=vy.str
 split at e0
 ·rename_i h
  cases e0
  exact⟨z,u,rfl,rfl,h.1,h.2,fun p hp=>k _ _ (Same.new hp) (cL oh hp (.cons (.str _) (.cons (.str _) (.cons (.str _) .nil))))⟩
 ·cases e0
def eNo:Ev->Res D:=fun _=>.no
theorem xN5 {C:Ct}{md:Md}{e:Expr}:RE C md e eNo:=⟨fun _ _ _=>False,fun _ _ _ _ _ _ h=>h.elim,fun _ _ _ _ _ _ _ h=>h⟩
def sFz (m:Ev->Res Out):Ev->Res Out:=fun ρ=>match m ρ with
 | .ok (.rt d)=>.ok (.rt d)
 | .ex c=>.ex c
 | _=>.no
theorem xZ2 {m:Ev->Res Out}{ρ:Ev}{d:D}(h:m ρ=.ok (.rt d)):sFz m ρ=.ok (.rt d):=by
 unfold sFz
 rw[h]
theorem Rel.frz {Oc:Wd}{Ob:Addr->Prop}{om om':List Nat}{σ:St}{H:Hp}{ρ:Ev}(i:Nat) (hi:i∉om') (h:∀j,j≠i->(j∈om↔j∈om')) (R:Rel Oc Ob om [] σ H ρ):∃Ob',(∀b,Ob' b->Ob b)/\Rel Oc Ob' om' [] σ H ρ:=by
 have nl:∀j:Nat,j∉([]:List Nat):=fun j z=>nomatch z
 by_cases c:i∈om/\∃d,ρ[i]?=some (some d)
 ·obtain⟨c1,d,c2⟩:=c
  obtain⟨v,qv,a,ys,ds,rfl,rfl,ha,oa,rs⟩:=R.own i d c2 c1
  have less:∀b,Uni Oc (fun b=>Ob b/\b≠a) b->Uni Oc Ob b:=fun b z=>z.elim .inl fun z=>.inr z.1
  refine⟨fun b=>Ob b/\b≠a,fun b z=>z.1,R.len,fun j dj ej hj _ => ?_,fun j dj ej hj => ?_,fun j dj ej hj hl=>absurd hl (nl j),fun j k dj dk b e1 e2 h1 h2 s1 s2 => ?_,fun b z=>R.oh b (z.elim .inl fun z=>.inr z.1),fun b z=>R.ap b z.1⟩
  ·by_cases e:j=i
   ·subst e
    rw[c2] at ej
    cases ej
    refine⟨.ref a,qv,.lst (.inl ha) (fun z => ?_) (rs.less less)⟩
    rcases z with z | z
    ·exact R.ap a oa z
    ·exact z.2 rfl
   ·obtain⟨v,q,r⟩:=R.val j dj ej (fun z=>hj ((h j e).mp z)) (nl j)
    exact⟨v,q,r.less less⟩
  ·have ne:j≠i:=fun z=>hi (z▸hj)
   obtain⟨v,q,b,zs,es,rfl,rfl,hb,ob,rz⟩:=R.own j dj ej ((h j ne).mpr hj)
   refine⟨_,q,b,zs,es,rfl,rfl,hb,⟨ob,fun z => ?_⟩,rz.less less⟩
   subst z
   exact ne (R.inj j i _ _ b ej c2 ((h j ne).mpr hj) c1 q qv)
  ·have n1:j≠i:=fun z=>hi (z▸h1)
   have n2:k≠i:=fun z=>hi (z▸h2)
   exact R.inj j k dj dk b e1 e2 ((h j n1).mpr h1) ((h k n2).mpr h2) s1 s2
 ·refine⟨Ob,fun _ z=>z,R.len,fun j dj ej hj hl => ?_,fun j dj ej hj => ?_,fun j dj ej hj hl=>absurd hl (nl j),fun j k dj dk b e1 e2 h1 h2 s1 s2 => ?_,R.oh,R.ap⟩
  ·by_cases e:j=i
   ·subst e
    exact R.val j dj ej (fun z=>c ⟨z,dj,ej⟩) hl
   ·exact R.val j dj ej (fun z=>hj ((h j e).mp z)) hl
  ·have ne:j≠i:=fun z=>hi (z▸hj)
   exact R.own j dj ej ((h j ne).mpr hj)
  ·have n1:j≠i:=fun z=>hi (z▸h1)
   have n2:k≠i:=fun z=>hi (z▸h2)
   exact R.inj j k dj dk b e1 e2 ((h j n1).mpr h1) ((h k n2).mpr h2) s1 s2
theorem zX4 (i:Nat){C:Ct}{sts:List Stmt}{m:Ev->Res Out}(om':List Nat) (h:RSs { C with om:=om' } false sts m) (hl:autoParam (C.ln=[]) zW._auto_1) (hi:autoParam (om'.contains i=false) zW._auto_1) (hm:autoParam ((C.om.filter fun j=>!(j == i))=(om'.filter fun j=>!(j == i))) zW._auto_1):RSs C false sts (sFz m):=by
 have hj:∀j,j≠i->(j∈C.om↔j∈om'):=fun j n=>by
  have a:∀l:List Nat,j∈l↔j∈l.filter fun j=>!(j == i):=fun l=>by
   rw[List.mem_filter]
   exact⟨fun z=>⟨z,by simpa using n⟩,fun z=>z.1⟩
  rw[a C.om,hm,<-a om']
 obtain⟨t,p,q⟩:=h
 refine⟨t,p,fun Oc Ob σ H ρ E R hp => ?_⟩
 rw[hl] at R
 obtain⟨Ob',sub,R'⟩:=R.frz i (xI hi) hj
 refine q Oc Ob' σ H ρ E (by show Rel Oc Ob' om' C.ln σ H ρ;rw[hl];exact R') ?_
 unfold sFz at hp
 cases e:m ρ with
 | no=>rw[e] at hp;exact hp.elim
 | ex c =>
  rw[e] at hp
  exact fun H' f=>hp H' fun b o e n=>f b o e fun z=>n (sub b z)
 | ok o =>
  rw[e] at hp
  cases o with
  | rt d=>exact fun v H' f r=>hp v H' (fun b o e n=>f b o e fun z=>n (sub b z)) r
  | nx ρ'=>exact hp.elim
end L2.L3
namespace MR
open PySem PySem.StrLaws PySem.Builtin PySem.Builtin.Str
def tl (x:Str):List Nat:=x.cps.toList
theorem xW (x:Str):(tl x).length=x.length:=by unfold tl Str.length;simp
theorem yN (a b:Str):tl (a++b)=tl a++tl b:=by unfold tl;rw[Str.cps_append];simp
theorem gO {a b:Str}(h:tl a=tl b):a=b:=by
 apply Str.ext'
 have:a.cps.toList.toArray=b.cps.toList.toArray:=congrArg _ h
 simpa using this
theorem xP3 (l:List Nat):tl ⟨l.toArray⟩=l:=by unfold tl;simp
theorem vI (y p q:Str) (r:List Str):Str.join y (p::q::r)=p++y++Str.join y (q::r):=rfl
theorem zZ7 {x y:Str}{k:Nat}(h1:1<=y.length):At x y x.length k↔((tl x).drop k).take y.length=tl y:=by
 unfold At
 rw[subAt_eq,beq_iff_eq]
 constructor
 ·exact fun h=>h.2
 ·intro h
  refine⟨?_,h⟩
  have l:=congrArg List.length h
  rw[xW,List.length_take,List.length_drop,xW] at l
  bv_omega
theorem aL (x:Str) (a b:Nat):tl (strSub x a b)=((tl x).drop a).take (b-a):=strSub_toList x a b
theorem zA2 {x y:Str}{c:Nat}{y':List Nat}(hy:tl y=c::y'):∀(ps:List Str) (a f:Nat) (cuts:List Nat),ps ≠ []->(∀p∈ps,c∉tl p)->(tl x).drop a=tl (Str.join y ps)->a<=x.length->ChainG x y x.length a cuts f->(∀k,f<=k->¬At x y x.length k)->partsFrom x y.length a cuts=ps:=by
 have y1:1<=y.length:=by rw[<-xW,hy];simp
 have fst:∀k,At x y x.length k->(tl x)[k]?=some c:=fun k h=>by
  have e:=(zZ7 y1).mp h
  rw[hy] at e
  have:=congrArg (fun l=>l[0]?) e
  simp only[List.getElem?_cons_zero] at this
  rw[List.getElem?_take_of_lt (by bv_omega),List.getElem?_drop] at this
  simpa using this
 intro ps
 induction ps with
 | nil=>intro a f cuts h;exact absurd rfl h
 | cons p ps ih =>
  intro a f cuts _ hc hd ha hG hn
  have pc:=hc p List.mem_cons_self
  cases ps with
  | nil =>
   have hd:(tl x).drop a=tl p:=hd
   have no:∀k,a<=k->¬At x y x.length k:=fun k hk h=>by
    have e:=fst k h
    have e2:(tl p)[k-a]?=some c:=by
     rw[<-hd,List.getElem?_drop,show a+(k-a)=k by bv_omega]
     exact e
    exact pc (List.mem_of_getElem? e2)
   cases cuts with
   | cons d r=>exact absurd hG.2.1 (no d hG.1)
   | nil =>
    show [strSub x a x.length]=[p]
    rw[show strSub x a x.length=p from gO (by rw[aL,hd,List.take_of_length_le];rw[<-hd,List.length_drop,xW];exact Nat.le_refl _)]
  | cons q r =>
   rw[vI,yN,yN] at hd
   have len:=congrArg List.length hd
   rw[List.length_drop,List.length_append,List.length_append,xW,xW,xW] at len
   have here:At x y x.length (a+p.length):=by
    refine (zZ7 y1).mpr ?_
    rw[<-List.drop_drop,hd,List.append_assoc,List.drop_append_of_le_length (by rw[xW];exact Nat.le_refl _),<-xW p,List.drop_length,List.nil_append,<-xW y,List.take_append_of_le_length (Nat.le_refl _),List.take_length]
   have early:∀k,a<=k->k<a+p.length->¬At x y x.length k:=fun k hk hl h=>by
    have e:=fst k h
    have e2:(tl p)[k-a]?=some c:=by
     have e3:((tl x).drop a)[k-a]?=some c:=by rw[List.getElem?_drop,show a+(k-a)=k by bv_omega];exact e
     rw[hd,List.append_assoc,List.getElem?_append_left (by rw[xW];bv_omega)] at e3
     exact e3
    exact pc (List.mem_of_getElem? e2)
   cases cuts with
   | nil =>
    have ef:f=a:=hG
    exact absurd here (hn _ (by bv_omega))
   | cons d r' =>
    obtain⟨g1,g2,g3,g4⟩:=hG
    have ed:d=a+p.length:=by
     by_cases l1:d<a+p.length
     ·exact absurd g2 (early d g1 l1)
     ·by_cases l2:a+p.length<d
      ·exact absurd here (g3 _ (by bv_omega) l2)
      ·bv_omega
    subst ed
    show strSub x a (a+p.length)::partsFrom x y.length (a+p.length+y.length) r'=p::q::r
    have e1:strSub x a (a+p.length)=p:=gO (by
     rw[aL,hd,show a+p.length-a=p.length by bv_omega,List.append_assoc,<-xW p,List.take_append_of_le_length (Nat.le_refl _),List.take_length])
    rw[e1,ih (a+p.length+y.length) f r' (fun z=>nomatch z) (fun z hz=>hc z (List.mem_cons_of_mem _ hz)) ?_ (by bv_omega) g4 hn]
    rw[show a+p.length+y.length=a+(p.length+y.length) by bv_omega,<-List.drop_drop,hd,<-yN,List.drop_append_of_le_length (by rw[xW,Str.length_append];exact Nat.le_refl _),show p.length+y.length=(tl (p++y)).length by rw[xW,Str.length_append],List.drop_length,List.nil_append]
theorem yK1 (x:Str):1<=Builtin.Str.strKind x:=by
 unfold Builtin.Str.strKind
 split
 ·exact Nat.le_refl _
 ·split <;> decide
theorem vG {y:Str}{c:Nat}{y':List Nat}(hy:tl y=c::y') (hk:Builtin.Str.strKind y=1){ps:List Str}(h0:ps ≠ []) (hc:∀p∈ps,c∉tl p):Txt.split (Str.join y ps) y=ps:=by
 have y1:1<=y.length:=by rw[<-xW,hy];simp
 obtain⟨f,hG,hn⟩:=occ_tight (Str.join y ps) y y1
 have key:=zA2 hy ps 0 f _ h0 hc rfl (Nat.zero_le _) hG hn
 have whole:occurrences (Str.join y ps) y 0 (Str.join y ps).length ((Str.join y ps).length+1)=[]->[Str.join y ps]=ps:=fun e=>by
  rw[e] at key
  have key:[strSub (Str.join y ps) 0 (Str.join y ps).length]=ps:=key
  rw[sub_whole] at key
  exact key
 unfold Txt.split
 split
 ·rename_i h
  refine whole ?_
  rw[Bool.or_eq_true,decide_eq_true_eq,decide_eq_true_eq] at h
  rcases h with h | h
  ·cases e:occurrences (Str.join y ps) y 0 (Str.join y ps).length ((Str.join y ps).length+1) with
   | nil=>rfl
   | cons d r =>
    rw[e] at hG
    have:=hG.2.1.1
    bv_omega
  ·have:=yK1 (Str.join y ps)
   bv_omega
 ·split
  ·rename_i h
   exact whole (List.isEmpty_iff.mp h)
  ·rw[partsBetween_eq]
   exact key
theorem yP4 {a b w:Str}(ha:a.length=1) (hb:b.length=1):Txt.slice (a++w++b) (some 1) (some (-1))=w:=by
 have l:(a++w++b).length=w.length+2:=by rw[Str.length_append,Str.length_append];bv_omega
 have e:Txt.slice (a++w++b) (some 1) (some (-1))=sliceText (a++w++b) (some 1) (some (-1)):=rfl
 rw[e,sliceText_neg_hi _ _ (by decide) (by bv_omega),show (-1:Int)+((a++w++b).length:Int)=((w.length+1:Nat):Int) by bv_omega]
 have e2:=sliceText_nat (a++w++b) (a:=1) (b:=w.length+1) (by bv_omega) (by bv_omega)
 refine Eq.trans e2 (gO ?_)
 rw[xP3]
 show ((tl (a++w++b)).drop 1).take (w.length+1-1)=tl w
 rw[yN,yN,List.append_assoc,List.drop_append_of_le_length (by rw[xW];bv_omega),show (tl a).drop 1=[] from List.drop_eq_nil_of_le (by rw[xW];bv_omega),List.nil_append,show w.length+1-1=(tl w).length by rw[xW];bv_omega,List.take_append_of_le_length (Nat.le_refl _),List.take_length]
theorem zU3:∀(ws:List Str),ws ≠ []->Str.join "" (ws.map fun w=>"("++w ++ ")")="("++Str.join ")(" ws ++ ")"
 | [],h=>absurd rfl h
 | [w],_=>rfl
 | w::v::r,_=>by
  have ih:=zU3 (v::r) fun z=>nomatch z
  show ("("++w ++ ")") ++ ""++Str.join "" ((v::r).map fun w=>"("++w ++ ")")=_
  rw[ih,vI]
  apply gO
  simp only[yN,List.append_assoc]
  rfl
end MR
namespace K53
open PySem L2 L2.L3
def top (i:Nat):Stmt:=PySem.Challenge.pw_ownboxes_k53_orders_asked.main.body.getD i (.Pass ⟨0,0,0,0⟩)
abbrev qT:Stmt:=top 11
abbrev uV:Stmt:=top 12
abbrev uG:Stmt:=top 13
abbrev qX:Stmt:=top 14
abbrev wY:Stmt:=top 17
abbrev uI:Stmt:=top 18
abbrev vJ:Stmt:=top 35
abbrev xL:Stmt:=top 36
abbrev dH:Stmt:=top 37
abbrev vZ:Stmt:=top 38
abbrev xC:Stmt:=top 46
abbrev wG:Stmt:=top 47
abbrev xF:Stmt:=top 48
abbrev uX:Stmt:=top 49
abbrev wQ:Stmt:=top 50
abbrev wP:Stmt:=top 51
abbrev wO:Stmt:=top 53
abbrev wB:Stmt:=top 55
abbrev wE:Stmt:=top 56
abbrev xR:Stmt:=top 59
abbrev kX:Stmt:=top 60
abbrev xO:Stmt:=top 61
abbrev vC:Stmt:=top 62
abbrev jY:Stmt:=top 64
abbrev kF:Stmt:=top 65
abbrev vM:Stmt:=top 66
abbrev kU:Stmt:=top 67
abbrev qI:Stmt:=top 68
abbrev vE:Stmt:=top 69
abbrev uJ:Stmt:=top 70
abbrev gH:Stmt:=top 71
abbrev wJ:Stmt:=top 72
abbrev vR:Stmt:=top 73
abbrev vU:Stmt:=top 74
abbrev cO:Stmt:=top 75
def fX:Ev->Res Out:=(sR (vAn (vB (b3 leI leI (eC (.int 1)) (eB lenD (aC (eV 0) aN)) (eC (.int 60)))) (e2 (fun x y=>bD (eqD x y)) (eB sortD (aC (eV 0) aN)) (eB rangeL (aC (eB lenD (aC (eV 0) aN)) aN)))))
def jL:List D->Res D:=runF false 1 1 fX
def gX:Ev->Res Out:=(sQ (sS 2 (eB mkL (aC (eV 1) aN))) (sQ (sW 1000000 (b2 neD (e2 ixD (eV 0) (e2 ixD (eV 2) (e1 negD (eC (.int 1))))) (eV 1)) (sM 2 appD (aC (e2 ixD (eV 0) (e2 ixD (eV 2) (e1 negD (eC (.int 1))))) aN))) (sR (eB tupD (aC (eV 2) aN)))))
def uZ:List D->Res D:=runF false 2 3 gX
def gC:Ev->Res Out:=(sQ (sS 1 (eB mkL aN)) (sQ (sS 2 (e2 repL (eB mkL (aC (eC (.bool false)) aN)) (eB lenD (aC (eV 0) aN)))) (sQ (sF (iR rng1 (aC (eB lenD (aC (eV 0) aN)) aN)) (gN 3) (sIf (tNt (tV (e2 ixD (eV 2) (eV 3)))) (sQ (sS 4 (eF uZ (aC (eV 0) (aC (eV 3) aN)))) (sQ (sM 1 appD (aC (eV 4) aN)) (sF (iS (eV 4)) (gN 5) (sI 2 (eV 5) (eC (.bool true)))))) sN)) (sR (eV 1)))))
def yP:List D->Res D:=runF true 1 6 gC
def fM:Ev->Res Out:=(sQ (sS 1 (eB mkL aN)) (sQ (sF (iS (eV 0)) (gN 2) (sQ (sIf (b2 eqD (eB lenD (aC (eV 2) aN)) (eC (.int 0))) (sRa "BadOrder" (aC (eC (.str "a ring has one box at least")) aN)) sN) (sM 1 extD (aC (eV 2) aN)))) (sQ (sIf (tNt (tV (eFA false jL (aC (eV 1) aN)))) (sRa "BadOrder" (aC (eC (.str "rings have each of 1 to 60 boxes just once")) aN)) sN) (sQ (sS 3 (e2 repL (eB mkL (aC (eC (.int 0)) aN)) (eB lenD (aC (eV 1) aN)))) (sQ (sF (iS (eV 0)) (gN 2) (sF (iR rng1 (aC (eB lenD (aC (eV 2) aN)) aN)) (gN 4) (sI 3 (e2 ixD (eV 2) (e2 subI (eV 4) (eC (.int 1)))) (e2 ixD (eV 2) (eV 4))))) (sR (eB tupD (aC (eV 3) aN))))))))
def jR:List D->Res D:=runF false 1 5 fM
def uB:Ev->Res Out:=(sQ (sIf (tNt (b3 leI leI (eC (.int 1)) (eV 0) (eC (.int 60)))) (sRa "BadOpenings" (aC (eC (.str "openings are for 1 to 60 people")) aN)) sN) (sQ (sIf (b2 neD (eB lenD (aC (eV 1) aN)) (eV 0)) (sRa "BadOpenings" (aC (eC (.str "each person has its openings")) aN)) sN) (sQ (sIf (tO (b2 ltI (eB min1D (aC (eV 1) aN)) (eC (.int 0))) (b2 gtI (eB max1D (aC (eV 1) aN)) (eV 0))) (sRa "BadOpenings" (aC (eC (.str "openings are from 0 to as many as there are boxes")) aN)) sN) (sR (eB tupD (aC (eV 1) aN))))))
def vX:List D->Res D:=runF false 2 2 uB
def cZ:Ev->Res Out:=(sQ (sE (eF vX (aC (eB lenD (aC (eV 0) aN)) (aC (eV 1) aN)))) (sQ (sS 2 (eB mkL aN)) (sQ (sF (iS (eF yP (aC (eV 0) aN))) (gN 3) (sM 2 extD (aC (eComp (iS (eV 3)) (b2 geI (e2 ixD (eV 1) (eV 0)) (eB lenD (aC (eV 2) aN))) (eV 0) [1,3]) aN))) (sR (eB tupD (aC (eB sortD (aC (eV 2) aN)) aN))))))
def kN:List D->Res D:=runF false 2 4 cZ
def kT:Ev->Res Out:=(sQ (sIf (tNt (b3 leI leI (eC (.int 0)) (eV 1) (eB lenD (aC (eV 0) aN)))) (sRa "BadOpenings" (aC (eC (.str "openings are from 0 to as many as there are boxes")) aN)) sN) (sIf (b2 eqD (eV 1) (eC (.int 0))) (sRa "NoHelp" (aC (eC (.str "without openings no exchange helps")) aN)) sN))
def wR:List D->Res D:=runF false 2 2 kT
def uE:Ev->Res Out:=(sR (eB sumD (aC (eComp (iS (eF yP (aC (eV 0) aN))) tYes (e2 fdivI (e2 subI (eB lenD (aC (eV 0) aN)) (eC (.int 1))) (eV 1)) [1]) aN)))
def vW:List D->Res D:=runF false 2 2 uE
def zJ2:Ev->Res Out:=(sQ (sE (eF wR (aC (eV 0) (aC (eV 1) aN)))) (sR (eF vW (aC (eV 0) (aC (eV 1) aN)))))
def zY6:List D->Res D:=runF false 2 2 zJ2
def gZ:Ev->Res Out:=(sQ (sE (eF wR (aC (eV 0) (aC (eV 1) aN)))) (sQ (sS 2 (eB mkL aN)) (sQ (sF (iS (eF yP (aC (eV 0) aN))) (gN 3) (sM 2 extD (aC (eComp (iR rng3 (aC (eV 1) (aC (eB lenD (aC (eV 3) aN)) (aC (eV 1) aN)))) tYes (eB mkT (aC (e2 ixD (eV 1) (eC (.int 0))) (aC (e2 ixD (eV 1) (eV 0)) aN))) [3]) aN))) (sR (eV 2)))))
def uQ:List D->Res D:=runF true 2 4 gZ
def qN:Ev->Res Out:=(sR (eM1S joinD (eC (.str " ")) (eComp (iS (eV 0)) tYes (eB strOfD (aC (eV 0) aN)) [])))
def xN:List D->Res D:=runF false 1 1 qN
def jW:Ev->Res Out:=(sQ (sIf (tO (tNt (tV (eM0S (fun z=>some (.bool (Txt.isdigit z))) (eV 0)))) (tO (b2 gtI (eB lenTD (aC (eV 0) aN)) (eC (.int 90))) (tAn (tV (eM1S stwD (eV 0) (eC (.str "0")))) (b2 neD (eV 0) (eC (.str "0")))))) sX sN) (sR (eB intTD (aC (eV 0) aN))))
def xA:List D->Res D:=runF false 2 2 jW
def qM:Ev->Res Out:=(sR (eB tupD (aC (eComp (iS (eV 0)) tYes (eF xA (aC (eV 0) (aC (eV 1) aN))) [1]) aN)))
def xS:List D->Res D:=runF false 2 2 qM
def gU:Ev->Res Out:=(sQ (sS 1 (eF xN (aC (eV 0) aN))) (sR (e1 (filD "(" ")") (eV 1))))
def wC:List D->Res D:=runF false 1 2 gU
def kQ:Ev->Res Out:=(sR (eM1S joinD (eC (.str "")) (eComp (iS (eF yP (aC (eV 0) aN))) tYes (eF wC (aC (eV 0) aN)) [])))
def uC:List D->Res D:=runF false 1 1 kQ
def kS:Ev->Res Out:=(sQ (sS 1 (eComp (iS (eM1S splD (eS slS (eV 0) (oS (eC (.int 1))) (oS (e1 negD (eC (.int 1))))) (eC (.str ")(")))) tYes (eF xS (aC (eM1S splD (eV 0) (eC (.str " "))) (aC (eC (.int 1)) aN))) [])) (sQ (sTryN (sS 2 (eF jR (aC (eV 1) aN)))) (sQ (sIf (b2 neD (eF uC (aC (eV 2) aN)) (eV 0)) sX sN) (sR (eV 2)))))
def qU:List D->Res D:=runF false 1 3 kS
def qH:Ev->Res Out:=(sR (eIf (b2 eqD (eV 0) (eC (.str ""))) (eC (.str "none")) (eV 0)))
def xD:List D->Res D:=runF false 1 1 qH
def gY:Ev->Res Out:=(sR (eM1S joinD (eC (.str "-")) (eComp (iS (eV 0)) tYes (eB strOfD (aC (eV 0) aN)) [])))
def wF:List D->Res D:=runF false 1 1 gY
def hJ:Ev->Res Out:=(sR (eF xD (aC (eM1S joinD (eC (.str " ")) (eComp (iS (eF uQ (aC (eV 0) (aC (eV 1) aN)))) tYes (eF wF (aC (eV 0) aN)) [])) aN)))
def qF:List D->Res D:=runF false 2 2 hJ
def vA:Ev->Res Out:=(sQ (sIf (tAn (b2 eqD (eV 0) (eC (.str "rings"))) (b2 eqD (eB lenD (aC (eV 1) aN)) (eC (.int 0)))) (sR (eF xN (aC (eComp (iS (eF yP (aC (eV 2) aN))) tYes (eB lenD (aC (eV 0) aN)) []) aN))) sN) (sQ (sIf (b2 eqD (eV 0) (eC (.str "find"))) (sR (eF xD (aC (eF xN (aC (eF kN (aC (eV 2) (aC (eV 1) aN))) aN)) aN))) sN) (sQ (sIf (tAn (b2 eqD (eV 0) (eC (.str "need"))) (b2 eqD (eB lenD (aC (eV 1) aN)) (eC (.int 1)))) (sR (eB strOfD (aC (eF zY6 (aC (eV 2) (aC (e2 ixD (eV 1) (eC (.int 0))) aN))) aN))) sN) (sQ (sIf (tAn (b2 eqD (eV 0) (eC (.str "help"))) (b2 eqD (eB lenD (aC (eV 1) aN)) (eC (.int 1)))) (sR (eF qF (aC (eV 2) (aC (e2 ixD (eV 1) (eC (.int 0))) aN)))) sN) sX))))
def wS:List D->Res D:=runF false 3 3 vA
def bM:Ev->Res Out:=(sQ (sS 1 (eM1S partD (eV 0) (eC (.str " / ")))) (sQ (sS 2 (eM1S splD (e2 ixD (eV 1) (eC (.int 0))) (eC (.str " ")))) (sQ (sS 3 (eF xS (aC (eS slD (eV 2) (oS (eC (.int 1))) oN) (aC (eC (.int 1)) aN)))) (sQ (sIf (b2 eqD (e2 ixD (eV 1) (eC (.int 1))) (eC (.str ""))) (sR eNo) sN) (sR (eF wS (aC (e2 ixD (eV 2) (eC (.int 0))) (aC (eV 3) (aC (eF qU (aC (e2 ixD (eV 1) (eC (.int 2))) aN)) aN)))))))))
def fT:List D->Res D:=runF false 1 4 bM
def vY:Ev->Res Out:=(sTryN (sR (eF fT (aC (eV 0) aN))))
def yL:List D->Res D:=runF false 1 1 vY
def fS:Ev->Res Out:=(sR (eM1S joinD (eC (.str "\n")) (eComp (iS (eM1S splD (eV 0) (eC (.str "\n")))) tYes (eF yL (aC (eV 0) aN)) [])))
def jN:List D->Res D:=runF false 1 1 fS
def cV:Ev->Res Out:=(sQ (sS 2 (eB mkL aN)) (sQ (sF (iR rng1 (aC (eV 1) aN)) (gN 3) (sQ (sM 2 insD (aC (e2 modI (eV 0) (e2 addI (eV 3) (eC (.int 1)))) (aC (eV 3) aN))) (sS 0 (e2 fdivI (eV 0) (e2 addI (eV 3) (eC (.int 1))))))) (sR (eB tupD (aC (eV 2) aN)))))
def kI:List D->Res D:=runF false 2 4 cV
def yB:List D->Res D:=ringsF
def jB:Ev->Res Out:=(sQ (sS 2 (eB mkL aN)) (sQ (sF (iR rng1 (aC (eV 1) aN)) (gN 3) (sQ (sM 2 appD (aC (e2 modI (eV 0) (e2 addI (eV 1) (eC (.int 1)))) aN)) (sS 0 (e2 fdivI (eV 0) (e2 addI (eV 1) (eC (.int 1))))))) (sR (eB tupD (aC (eV 2) aN)))))
def qW:List D->Res D:=runF false 2 4 jB
def aP:Ev->Res Out:=(sQ (sS 2 (eC (.int 0))) (sQ (sF (iS (eF yB (aC (eV 0) aN))) (gN 3) (sQ (sS 4 (eB lenD (aC (eV 3) aN))) (sW 1000000 (b2 gtI (eV 4) (eV 1)) (sQ (sS 4 (e2 subI (eV 4) (eV 1))) (sS 2 (e2 addI (eV 2) (eC (.int 1)))))))) (sR (eV 2))))
def vL:List D->Res D:=runF false 2 5 aP
def aT:Ev->Res Out:=(sR (eM1S joinD (eC (.str "")) (eComp (iS (eF yB (aC (eV 0) aN))) tYes (e2 catS (e2 catS (eC (.str "(")) (eM1S joinD (eC (.str " ")) (eComp (iS (eV 0)) tYes (eB strOfD (aC (eV 0) aN)) []))) (eC (.str ")"))) [])))
def fW:List D->Res D:=runF false 1 1 aT
def gB:Ev->Res Out:=(sR (eM1S joinD (eC (.str " ")) (eComp (iS (eV 0)) tYes (eB strOfD (aC (eV 0) aN)) [])))
def xJ:List D->Res D:=runF false 1 1 gB
def dW:Ev->Res Out:=(sQ (sS 0 (eB absD (aC (eV 0) aN))) (sQ (sS 1 (e2 addI (eC (.int 1)) (e2 modI (e2 fdivI (eV 0) (eC (.int 4))) (eC (.int 12))))) (sQ (sIf (b2 eqD (e2 modI (e2 fdivI (eV 0) (eC (.int 48))) (eC (.int 8))) (eC (.int 3))) (sS 1 (e2 addI (eC (.int 1)) (e2 modI (e2 fdivI (eV 0) (eC (.int 4))) (eC (.int 60))))) sN) (sQ (sS 2 (eF kI (aC (e2 fdivI (eV 0) (eC (.int 384))) (aC (eV 1) aN)))) (sQ (sS 3 (eF qW (aC (e2 fdivI (eV 0) (eC (.int 400))) (aC (eV 1) aN)))) (sQ (sIf (b2 eqD (e2 modI (e2 fdivI (eV 0) (eC (.int 50))) (eC (.int 2))) (eC (.int 0))) (sS 3 (eB tupD (aC (eComp (iR rng1 (aC (eV 1) aN)) tYes (e2 addI (eC (.int 1)) (e2 modI (e2 ixD (eV 1) (eC (.int 0))) (eV 2))) [3,1]) aN))) sN) (sR (eB mkT (aC (e2 modI (eV 0) (eC (.int 4))) (aC (eV 2) (aC (eV 3) (aC (e2 addI (eC (.int 1)) (e2 modI (e2 fdivI (eV 0) (eC (.int 500))) (eV 1))) aN))))))))))))
def wL:List D->Res D:=runF false 1 4 dW
def zX6:Ev->Res Out:=(sQ (sA (eV 0) (gT 4 (gsC (gN 1) (gsC (gN 2) (gsC (gN 3) (gsC (gN 4) gsN)))))) (sQ (sS 5 (e2 ixD (eB mkL (aC (eC (.str "rings")) (aC (e2 catS (eC (.str "find ")) (eF xJ (aC (eV 3) aN))) (aC (e2 catS (eC (.str "need ")) (eB strOfD (aC (eV 4) aN))) (aC (e2 catS (eC (.str "help ")) (eB strOfD (aC (eV 4) aN))) aN))))) (eV 1))) (sR (e2 catS (e2 catS (eV 5) (eC (.str " / "))) (eF fW (aC (eV 2) aN))))))
def qK:List D->Res D:=runF false 1 6 zX6
def fU:Ev->Res Out:=(sQ (sS 3 (eB listD (aC (eV 0) aN))) (sQ (sS 4 (eB mkL aN)) (sQ (sIf (b2 neD (eV 2) (eC (.str "none"))) (sS 4 (eM1S splD (eV 2) (eC (.str " ")))) sN) (sQ (sIf (b2 neD (eB lenD (aC (eV 4) aN)) (eF vL (aC (eV 0) (aC (eV 1) aN)))) (sFz (sR (eC (.bool false)))) sN) (sQ (sF (iS (eV 4)) (gN 5) (sQ (sS 6 (eComp (iR rng1 (aC (eB lenD (aC (eV 0) aN)) aN)) (b2 (inD false) (eB strOfD (aC (eV 0) aN)) (eM1S splD (eV 1) (eC (.str "-")))) (eV 0) [5])) (sQ (sIf (tO (b2 neD (eB lenD (aC (eV 6) aN)) (eC (.int 2))) (b2 neD (eV 5) (e2 catS (e2 catS (eB strOfD (aC (e2 ixD (eV 6) (eC (.int 0))) aN)) (eC (.str "-"))) (eB strOfD (aC (e2 ixD (eV 6) (eC (.int 1))) aN))))) (sFz (sR (eC (.bool false)))) sN) (sQ (sS 7 (e2 ixD (eV 3) (e2 ixD (eV 6) (eC (.int 0))))) (sQ (sI 3 (e2 ixD (eV 6) (eC (.int 0))) (e2 ixD (eV 3) (e2 ixD (eV 6) (eC (.int 1))))) (sI 3 (e2 ixD (eV 6) (eC (.int 1))) (eV 7))))))) (sFz (sR (e2 (fun x y=>bD (leI x y)) (eB max1D (aC (eComp (iS (eF yB (aC (eV 3) aN))) tYes (eB lenD (aC (eV 0) aN)) []) aN)) (eV 1)))))))))
def qS:List D->Res D:=runF false 3 8 fU
def dP:Ev->Res Out:=(sQ (sA (eV 0) (gT 4 (gsC (gN 2) (gsC (gN 3) (gsC (gN 4) (gsC (gN 5) gsN)))))) (sQ (sS 6 (eF yB (aC (eV 3) aN))) (sQ (sIf (b2 eqD (eV 2) (eC (.int 0))) (sR (e2 (fun x y=>bD (eqD x y)) (eV 1) (eF xJ (aC (eComp (iS (eV 6)) tYes (eB lenD (aC (eV 0) aN)) []) aN)))) sN) (sQ (sIf (b2 eqD (eV 2) (eC (.int 2))) (sR (e2 (fun x y=>bD (eqD x y)) (eV 1) (eB strOfD (aC (eF vL (aC (eV 3) (aC (eV 5) aN))) aN)))) sN) (sQ (sIf (b2 eqD (eV 2) (eC (.int 3))) (sR (eF qS (aC (eV 3) (aC (eV 5) (aC (eV 1) aN))))) sN) (sQ (sS 7 (eB mkL aN)) (sQ (sF (iS (eV 6)) (gN 8) (sM 7 extD (aC (eComp (iS (eV 8)) (b2 leI (eB lenD (aC (eV 1) aN)) (e2 ixD (eV 2) (eV 0))) (eV 0) [8,4]) aN))) (sQ (sIf (b2 eqD (eB lenD (aC (eV 7) aN)) (eC (.int 0))) (sR (e2 (fun x y=>bD (eqD x y)) (eV 1) (eC (.str "none")))) sN) (sR (e2 (fun x y=>bD (eqD x y)) (eV 1) (eF xJ (aC (eB sortD (aC (eV 7) aN)) aN))))))))))))
def vP:List D->Res D:=runF false 2 9 dP
def cU:Ev->Res Out:=(sQ (sS 1 (eF jN (aC (eM1S joinD (eC (.str "\n")) (eComp (iS (eV 0)) tYes (eF qK (aC (eV 0) aN)) [])) aN))) (sQ (sIf (tNt (tV (e1 (isiD "str") (eV 1)))) (sR (eC (.bool false))) sN) (sQ (sS 2 (eM1S splD (eV 1) (eC (.str "\n")))) (sQ (sIf (b2 neD (eB lenD (aC (eV 2) aN)) (eB lenD (aC (eV 0) aN))) (sR (eC (.bool false))) sN) (sR (eB allD (aC (eComp (iR rng1 (aC (eB lenD (aC (eV 0) aN)) aN)) tYes (eF vP (aC (e2 ixD (eV 1) (eV 0)) (aC (e2 ixD (eV 2) (eV 0)) aN))) [0,2]) aN)))))))
def hX:List D->Res D:=runF false 1 3 cU
def yY1:Ev->Res Out:=(sQ (sS 1 (eComp (iS (e2 catL (eB mkL (aC (eC (.int 5)) aN)) (eB listD (aC (eV 0) aN)))) tYes (eF wL (aC (eV 0) aN)) [])) (sQ (sF (iR rng3 (aC (eC (.int 0)) (aC (eB lenD (aC (eV 1) aN)) (aC (eC (.int 12)) aN)))) (gN 2) (sIf (tNt (tV (eF hX (aC (eS slL (eV 1) (oS (eV 2)) (oS (e2 addI (eV 2) (eC (.int 12))))) aN)))) (sR (eC (.bool false))) sN)) (sR (eC (.bool true)))))
def yZ6:List D->Res D:=runF false 1 3 yY1
structure Txt [CN] (K:KFr) (mg:Str->Option Value):Prop where
 g_abs:mg "abs" = none
 g_all:mg "all" = none
 g_int:mg "int" = none
 g_isinstance:mg "isinstance" = none
 g_len:mg "len" = none
 g_list:mg "list" = none
 g_max:mg "max" = none
 g_min:mg "min" = none
 g_range:mg "range" = none
 g_sorted:mg "sorted" = none
 g_str:mg "str" = none
 g_sum:mg "sum" = none
 g_tuple:mg "tuple" = none
 c_MOST_FIGURES:∃u,mg "MOST_FIGURES" = some u/\RelV (.int 90) u
 c_MOST_PEOPLE:∃u,mg "MOST_PEOPLE" = some u/\RelV (.int 60) u
 k_str:Kit K "str"
 d_is_order:∃f fd,Has K mg "is_order" qT f fd ["names"]
 d_ring_from:∃f fd,Has K mg "ring_from" uV f fd ["order","box"]
 d_rings_of:∃f fd,Has K mg "rings_of" uG f fd ["order"]
 d_order_by:∃f fd,Has K mg "order_by" qX f fd ["rings"]
 d_made_openings:∃f fd,Has K mg "made_openings" wY f fd ["people","numbers"]
 d_finders:∃f fd,Has K mg "finders" uI f fd ["order","openings"]
 d_check_help:∃f fd,Has K mg "check_help" vJ f fd ["order","k"]
 d_need_of_rings:∃f fd,Has K mg "need_of_rings" xL f fd ["order","k"]
 d_need:∃f fd,Has K mg "need" dH f fd ["order","k"]
 d_exchanges:∃f fd,Has K mg "exchanges" vZ f fd ["order","k"]
 d_numbers_text:∃f fd,Has K mg "numbers_text" xC f fd ["numbers"]
 d_read_number:∃f fd,Has K mg "read_number" wG f fd ["word","row"]
 d_read_numbers:∃f fd,Has K mg "read_numbers" xF f fd ["words","row"]
 d_ring_text:∃f fd,Has K mg "ring_text" uX f fd ["ring"]
 d_order_text:∃f fd,Has K mg "order_text" wQ f fd ["order"]
 d_read_order:∃f fd,Has K mg "read_order" wP f fd ["text"]
 d_text_or_none:∃f fd,Has K mg "text_or_none" wO f fd ["text"]
 d_pair_text:∃f fd,Has K mg "pair_text" wB f fd ["pair"]
 d_help_text:∃f fd,Has K mg "help_text" wE f fd ["order","k"]
 d_answer_by_order:∃f fd,Has K mg "answer_by_order" xR f fd ["word","numbers","order"]
 d_answer:∃f fd,Has K mg "answer" kX f fd ["row"]
 d_answer_or_refusal:∃f fd,Has K mg "answer_or_refusal" xO f fd ["row"]
 d_answered:∃f fd,Has K mg "answered" vC f fd ["sheet"]
 d_l_order:∃f fd,Has K mg "_law_order" jY f fd ["cell","many"]
 d_l_rings:∃f fd,Has K mg "_law_rings" kF f fd ["order"]
 d_l_openings:∃f fd,Has K mg "_law_openings" vM f fd ["cell","many"]
 d_l_need:∃f fd,Has K mg "_law_need" kU f fd ["order","k"]
 d_l_text:∃f fd,Has K mg "_law_text" qI f fd ["order"]
 d_l_blanks:∃f fd,Has K mg "_law_blanks" vE f fd ["some"]
 d_l_asked:∃f fd,Has K mg "_law_asked" uJ f fd ["cell"]
 d_l_row:∃f fd,Has K mg "_law_row" gH f fd ["asked"]
 d_l_helped:∃f fd,Has K mg "_law_helped" wJ f fd ["order","k","answer_v"]
 d_l_right:∃f fd,Has K mg "_law_right" vR f fd ["asked","answer_v"]
 d_l_sheet:∃f fd,Has K mg "_law_sheet" vU f fd ["some"]
 d_law:∃f fd,Has K mg "law" cO f fd ["script"]
 x_BadOpenings:mg "BadOpenings" = some (.ref (CN.ad "BadOpenings"))
 x_BadOrder:mg "BadOrder" = some (.ref (CN.ad "BadOrder"))
 x_NoHelp:mg "NoHelp" = some (.ref (CN.ad "NoHelp"))
 ox_BadOpenings:OwnX K "BadOpenings"
 ox_BadOrder:OwnX K "BadOrder"
 ox_NoHelp:OwnX K "NoHelp"
section
variable [CN] {P:Program}{w:World}{K:KFr}{mg:Str->Option Value}{base:Heap}
theorem bV:zK ["names"] ["names"] (zX qT):=⟨rfl,rfl,rfl,by decide +kernel,rfl,by decide +kernel,by decide +kernel⟩
theorem zH2 (T:Txt K mg){f:Addr}{fd:FuncData}(h:Has K mg "is_order" qT f fd ["names"]):FnOk P w K mg base (CXV P w) 1 f fd ["names"] (spX false jL):=by
 refine yZ [] h.F bV fun cdv A outer s H E hr => ?_
 have nd:=bV.nd
 have hu64:=hr.units
 have br:=zC (P:=P) (w:=w) (K:=K) (mg:=mg) (base:=base) (N:=["names"]) (x:="is_order") (sc:=zX qT) (f:=f) (cdv:=cdv) (A:=A) (outer:=outer) (s:=s) (H:=H) (E:=E) (om:=[])
 exact (zQ (zI (xW3 (yN4 kA kA kJ kJ zP (zL zO yT T.g_len PySem.boot_len (zV (zZ 0) zY)) (aY T.c_MOST_PEOPLE.choose_spec.1 T.c_MOST_PEOPLE.choose_spec.2)) (xT9 (gP (xX hu64) xP (zL jD zV5 T.g_sorted (by rfl) (zV (zZ 0) zY)) (zK4 T.g_list T.g_range (zV (zL zO yT T.g_len PySem.boot_len (zV (zZ 0) zY)) zY)))))))
theorem dY:zK ["order","box","ring"] ["order","box"] (zX uV):=⟨rfl,rfl,rfl,by decide +kernel,rfl,by decide +kernel,by decide +kernel⟩
theorem zL6 (T:Txt K mg){f:Addr}{fd:FuncData}(h:Has K mg "ring_from" uV f fd ["order","box"]):FnOk P w K mg base (CXV P w) 1 f fd ["order","box"] (spX false uZ):=by
 refine yZ [2] h.F dY fun cdv A outer s H E hr => ?_
 have nd:=dY.nd
 have hu64:=hr.units
 have br:=zC (P:=P) (w:=w) (K:=K) (mg:=mg) (base:=base) (N:=["order","box","ring"]) (x:="ring_from") (sc:=zX uV) (f:=f) (cdv:=cdv) (A:=A) (outer:=outer) (s:=s) (H:=H) (E:=E) (om:=[2])
 exact (zT (wM 2 nd (xE (zS (zZ 1) zY))) (zT (zN6 1000000 (yW (qZ hu64) jM (yJ yU yK (zZ 0) (yJ yU yK (wV 2) (zL9 zP))) (zZ 1)) (zQ (cK 2 PySem.F.slot_list_append PySem.F.type_list_append qC dM (zS (yJ yU yK (zZ 0) (yJ yU yK (wV 2) (zL9 zP))) zY))) PassesOwn.leaving) (zQ (zI (yX xQ jZ T.g_tuple (by rfl) (zV (wV 2) zY))))))
theorem cF:zK ["order","rings","seen","box","ring","member"] ["order"] (zX uG):=⟨rfl,rfl,rfl,by decide +kernel,rfl,by decide +kernel,by decide +kernel⟩
theorem uR (T:Txt K mg){f:Addr}{fd:FuncData}(h:Has K mg "rings_of" uG f fd ["order"]):FnOk P w K mg base (CXV P w) 2 f fd ["order"] (spX true yP):=by
 obtain⟨f_ring_from,fd_ring_from,H_ring_from⟩:=T.d_ring_from
 have G_ring_from:FnOk P w K mg base (CXV P w) 1 f_ring_from fd_ring_from ["order","box"] (spX false uZ):=zL6 T H_ring_from
 refine yZ [1,2] h.F cF fun cdv A outer s H E hr => ?_
 have nd:=cF.nd
 have hu64:=hr.units
 have br:=zC (P:=P) (w:=w) (K:=K) (mg:=mg) (base:=base) (N:=["order","rings","seen","box","ring","member"]) (x:="rings_of") (sc:=zX uG) (f:=f) (cdv:=cdv) (A:=A) (outer:=outer) (s:=s) (H:=H) (E:=E) (om:=[1,2])
 exact (zT (wM 1 nd (xE zY)) (zT (wM 2 nd (zB zD6 yV6 (xE (zS kD zY)) (zL zO yT T.g_len PySem.boot_len (zV (zZ 0) zY)))) (zT (wN (vT T.g_range (zV (zL zO yT T.g_len PySem.boot_len (zV (zZ 0) zY)) zY)) (yM 3 nd) (zQ (yA (jC (gJ (yJ yU yK (wV 2) (zZ 3)))) (zT (yO 4 nd (zM G_ring_from H_ring_from (hr.mono (by decide)) br (zS (zZ 0) (zS (zZ 3) zY)))) (zT (cK 1 PySem.F.slot_list_append PySem.F.type_list_append qC dM (zS (zZ 4) zY)) (zQ (wN (yQ (RE.rd (zZ 4))) (yM 5 nd) (zQ (cR 2 kD (zZ 5))) PassesOwn.leaving)))) yV)) PassesOwn.leaving) (zQ (zH9 1)))))
theorem bY:zK ["rings","boxes","ring","names","place"] ["rings"] (zX qX):=⟨rfl,rfl,rfl,by decide +kernel,rfl,by decide +kernel,by decide +kernel⟩
theorem zJ7 (T:Txt K mg){f:Addr}{fd:FuncData}(h:Has K mg "order_by" qX f fd ["rings"]):FnOk P w K mg base (CXV P w) 2 f fd ["rings"] (spX false jR):=by
 obtain⟨f_is_order,fd_is_order,H_is_order⟩:=T.d_is_order
 have G_is_order:FnOk P w K mg base (CXV P w) 1 f_is_order fd_is_order ["names"] (spX false jL):=zH2 T H_is_order
 refine yZ [1,3] h.F bY fun cdv A outer s H E hr => ?_
 have nd:=bY.nd
 have hu64:=hr.units
 have br:=zC (P:=P) (w:=w) (K:=K) (mg:=mg) (base:=base) (N:=["rings","boxes","ring","names","place"]) (x:="order_by") (sc:=zX qX) (f:=f) (cdv:=cdv) (A:=A) (outer:=outer) (s:=s) (H:=H) (E:=E) (om:=[1,3])
 exact (zT (wM 1 nd (xE zY)) (zT (wN (yQ (RE.rd (zZ 0))) (yM 2 nd) (zT (yA (yW (xX hu64) xP (zL zO yT T.g_len PySem.boot_len (zV (zZ 2) zY)) zP) (zQ (uL br T.ox_BadOrder T.x_BadOrder (zV zH zY))) yV) (zQ (aG 1 (zZ 2)))) PassesOwn.leaving) (zT (yA (jC (gJ (zA7 G_is_order H_is_order (hr.mono (by decide)) br (zV (wV 1) zY)))) (zQ (uL br T.ox_BadOrder T.x_BadOrder (zV zH zY))) yV) (zT (wM 3 nd (zB zD6 yV6 (xE (zS zP zY)) (zL zO yT T.g_len PySem.boot_len (zV (wV 1) zY)))) (zT (wN (yQ (RE.rd (zZ 0))) (yM 2 nd) (zQ (wN (vT T.g_range (zV (zL zO yT T.g_len PySem.boot_len (zV (zZ 2) zY)) zY)) (yM 4 nd) (zQ (cR 3 (yJ yU yK (zZ 2) (zZ 4)) (yJ yU yK (zZ 2) (zB zM8 zK6 (zZ 4) zP)))) PassesOwn.leaving)) PassesOwn.leaving) (zQ (zI (yX xQ jZ T.g_tuple (by rfl) (zV (wV 3) zY)))))))))
theorem kZ:zK ["people","numbers"] ["people","numbers"] (zX wY):=⟨rfl,rfl,rfl,by decide +kernel,rfl,by decide +kernel,by decide +kernel⟩
theorem bK (T:Txt K mg){f:Addr}{fd:FuncData}(h:Has K mg "made_openings" wY f fd ["people","numbers"]):FnOk P w K mg base (CXV P w) 1 f fd ["people","numbers"] (spX false vX):=by
 refine yZ [] h.F kZ fun cdv A outer s H E hr => ?_
 have nd:=kZ.nd
 have hu64:=hr.units
 have br:=zC (P:=P) (w:=w) (K:=K) (mg:=mg) (base:=base) (N:=["people","numbers"]) (x:="made_openings") (sc:=zX wY) (f:=f) (cdv:=cdv) (A:=A) (outer:=outer) (s:=s) (H:=H) (E:=E) (om:=[])
 exact (zT (yA (jC (zN3 kA kA kJ kJ zP (zZ 0) (aY T.c_MOST_PEOPLE.choose_spec.1 T.c_MOST_PEOPLE.choose_spec.2))) (zQ (uL br T.ox_BadOpenings T.x_BadOpenings (zV zH zY))) yV) (zT (yA (yW (qZ hu64) jM (zL zO yT T.g_len PySem.boot_len (zV (zZ 1) zY)) (zZ 0)) (zQ (uL br T.ox_BadOpenings T.x_BadOpenings (zV zH zY))) yV) (zT (yA (RW.rt (rw_or (yW xR1 xP8 (zL (yW2 rfl) yF4 T.g_min PyProof.Rows.boot_min (zV (zZ 1) zY)) zP) (rw_or1 (yW zP7 zA1 (zL (zS2 rfl) zE4 T.g_max PyProof.Rows.boot_max (zV (zZ 1) zY)) (zZ 0))))) (zQ (uL br T.ox_BadOpenings T.x_BadOpenings (zV zH zY))) yV) (zQ (zI (yX xQ jZ T.g_tuple (by rfl) (zV (zZ 1) zY)))))))
theorem aA:zK ["order","openings","found","ring"] ["order","openings"] (zX uI):=⟨rfl,rfl,rfl,by decide +kernel,rfl,by decide +kernel,by decide +kernel⟩
theorem yZ3 (T:Txt K mg){f:Addr}{fd:FuncData}(h:Has K mg "finders" uI f fd ["order","openings"]):FnOk P w K mg base (CXV P w) 3 f fd ["order","openings"] (spX false kN):=by
 obtain⟨f_made_openings,fd_made_openings,H_made_openings⟩:=T.d_made_openings
 have G_made_openings:FnOk P w K mg base (CXV P w) 1 f_made_openings fd_made_openings ["people","numbers"] (spX false vX):=bK T H_made_openings
 obtain⟨f_rings_of,fd_rings_of,H_rings_of⟩:=T.d_rings_of
 have G_rings_of:FnOk P w K mg base (CXV P w) 2 f_rings_of fd_rings_of ["order"] (spX true yP):=uR T H_rings_of
 refine yZ [2] h.F aA fun cdv A outer s H E hr => ?_
 have nd:=aA.nd
 have hu64:=hr.units
 have br:=zC (P:=P) (w:=w) (K:=K) (mg:=mg) (base:=base) (N:=["order","openings","found","ring"]) (x:="finders") (sc:=zX uI) (f:=f) (cdv:=cdv) (A:=A) (outer:=outer) (s:=s) (H:=H) (E:=E) (om:=[2])
 exact (zT (zV4 (zM G_made_openings H_made_openings (hr.mono (by decide)) br (zS (zL zO yT T.g_len PySem.boot_len (zV (zZ 0) zY)) (zS (zZ 1) zY)))) (zT (wM 2 nd (xE zY)) (zT (wN (yQ (RE.rd (RE.cl (xG G_rings_of H_rings_of (hr.mono (by decide)) br (zS (zZ 0) zY))))) (yM 3 nd) (zQ (aG 2 (xZ (sc0:=zX uI) (N0:=["order","openings","found","ring"]) (fs:=["openings","ring"]) (js:=[1,3]) (by exact⟨rfl,by decide +kernel,by decide +kernel,by decide +kernel,by decide +kernel,rfl,by decide +kernel,by decide +kernel⟩) rfl rfl rfl (RI.c (yQ (RE.rd (zZ 3)))) (fun _ _ _ _=>(zW3 (yW xQ1 xO5 (yJ yU yK (zZ 1) (zZ 0)) (zL zO yT T.g_len PySem.boot_len (zV (zZ 2) zY))))) (fun _ _ _ _=>(zZ 0))))) PassesOwn.leaving) (zQ (zI (yX xQ jZ T.g_tuple (by rfl) (zV (zL jD zV5 T.g_sorted (by rfl) (zV (wV 2) zY)) zY)))))))
theorem fF:zK ["order","k"] ["order","k"] (zX vJ):=⟨rfl,rfl,rfl,by decide +kernel,rfl,by decide +kernel,by decide +kernel⟩
theorem fH (T:Txt K mg){f:Addr}{fd:FuncData}(h:Has K mg "check_help" vJ f fd ["order","k"]):FnOk P w K mg base (CXV P w) 1 f fd ["order","k"] (spX false wR):=by
 refine yZ [] h.F fF fun cdv A outer s H E hr => ?_
 have nd:=fF.nd
 have hu64:=hr.units
 have br:=zC (P:=P) (w:=w) (K:=K) (mg:=mg) (base:=base) (N:=["order","k"]) (x:="check_help") (sc:=zX vJ) (f:=f) (cdv:=cdv) (A:=A) (outer:=outer) (s:=s) (H:=H) (E:=E) (om:=[])
 exact (zT (yA (jC (zN3 kA kA kJ kJ zP (zZ 1) (zL zO yT T.g_len PySem.boot_len (zV (zZ 0) zY)))) (zQ (uL br T.ox_BadOpenings T.x_BadOpenings (zV zH zY))) yV) (zQ (yA (yW (xX hu64) xP (zZ 1) zP) (zQ (uL br T.ox_NoHelp T.x_NoHelp (zV zH zY))) yV)))
theorem kP:zK ["order","k"] ["order","k"] (zX xL):=⟨rfl,rfl,rfl,by decide +kernel,rfl,by decide +kernel,by decide +kernel⟩
theorem bH (T:Txt K mg){f:Addr}{fd:FuncData}(h:Has K mg "need_of_rings" xL f fd ["order","k"]):FnOk P w K mg base (CXV P w) 3 f fd ["order","k"] (spX false vW):=by
 obtain⟨f_rings_of,fd_rings_of,H_rings_of⟩:=T.d_rings_of
 have G_rings_of:FnOk P w K mg base (CXV P w) 2 f_rings_of fd_rings_of ["order"] (spX true yP):=uR T H_rings_of
 refine yZ [] h.F kP fun cdv A outer s H E hr => ?_
 have nd:=kP.nd
 have hu64:=hr.units
 have br:=zC (P:=P) (w:=w) (K:=K) (mg:=mg) (base:=base) (N:=["order","k"]) (x:="need_of_rings") (sc:=zX xL) (f:=f) (cdv:=cdv) (A:=A) (outer:=outer) (s:=s) (H:=H) (E:=E) (om:=[])
 exact (zQ (zI (zL (yV5 rfl) xT6 T.g_sum PyProof.Rows.boot_sum (zV (xZ (sc0:=zX xL) (N0:=["order","k"]) (fs:=["k"]) (js:=[1]) (by exact⟨rfl,by decide +kernel,by decide +kernel,by decide +kernel,by decide +kernel,rfl,by decide +kernel,by decide +kernel⟩) rfl rfl rfl (RI.c (yQ (RE.rd (RE.cl (xG G_rings_of H_rings_of (hr.mono (by decide)) br (zS (zZ 0) zY)))))) (fun _ _ _ _=>xY) (fun _ _ _ _=>(zB wU wA (zB zM8 zK6 (zL zO yT T.g_len PySem.boot_len (zV (zZ 0) zY)) zP) (zZ 1)))) zY))))
theorem zG8:zK ["order","k"] ["order","k"] (zX dH):=⟨rfl,rfl,rfl,by decide +kernel,rfl,by decide +kernel,by decide +kernel⟩
theorem yH6 (T:Txt K mg){f:Addr}{fd:FuncData}(h:Has K mg "need" dH f fd ["order","k"]):FnOk P w K mg base (CXV P w) 4 f fd ["order","k"] (spX false zY6):=by
 obtain⟨f_check_help,fd_check_help,H_check_help⟩:=T.d_check_help
 have G_check_help:FnOk P w K mg base (CXV P w) 1 f_check_help fd_check_help ["order","k"] (spX false wR):=fH T H_check_help
 obtain⟨f_need_of_rings,fd_need_of_rings,H_need_of_rings⟩:=T.d_need_of_rings
 have G_need_of_rings:FnOk P w K mg base (CXV P w) 3 f_need_of_rings fd_need_of_rings ["order","k"] (spX false vW):=bH T H_need_of_rings
 refine yZ [] h.F zG8 fun cdv A outer s H E hr => ?_
 have nd:=zG8.nd
 have hu64:=hr.units
 have br:=zC (P:=P) (w:=w) (K:=K) (mg:=mg) (base:=base) (N:=["order","k"]) (x:="need") (sc:=zX dH) (f:=f) (cdv:=cdv) (A:=A) (outer:=outer) (s:=s) (H:=H) (E:=E) (om:=[])
 exact (zT (zV4 (zM G_check_help H_check_help (hr.mono (by decide)) br (zS (zZ 0) (zS (zZ 1) zY)))) (zQ (zI (zM G_need_of_rings H_need_of_rings (hr.mono (by decide)) br (zS (zZ 0) (zS (zZ 1) zY))))))
theorem dG:zK ["order","k","pairs","ring"] ["order","k"] (zX vZ):=⟨rfl,rfl,rfl,by decide +kernel,rfl,by decide +kernel,by decide +kernel⟩
theorem zK5 (T:Txt K mg){f:Addr}{fd:FuncData}(h:Has K mg "exchanges" vZ f fd ["order","k"]):FnOk P w K mg base (CXV P w) 3 f fd ["order","k"] (spX true uQ):=by
 obtain⟨f_check_help,fd_check_help,H_check_help⟩:=T.d_check_help
 have G_check_help:FnOk P w K mg base (CXV P w) 1 f_check_help fd_check_help ["order","k"] (spX false wR):=fH T H_check_help
 obtain⟨f_rings_of,fd_rings_of,H_rings_of⟩:=T.d_rings_of
 have G_rings_of:FnOk P w K mg base (CXV P w) 2 f_rings_of fd_rings_of ["order"] (spX true yP):=uR T H_rings_of
 refine yZ [2] h.F dG fun cdv A outer s H E hr => ?_
 have nd:=dG.nd
 have hu64:=hr.units
 have br:=zC (P:=P) (w:=w) (K:=K) (mg:=mg) (base:=base) (N:=["order","k","pairs","ring"]) (x:="exchanges") (sc:=zX vZ) (f:=f) (cdv:=cdv) (A:=A) (outer:=outer) (s:=s) (H:=H) (E:=E) (om:=[2])
 exact (zT (zV4 (zM G_check_help H_check_help (hr.mono (by decide)) br (zS (zZ 0) (zS (zZ 1) zY)))) (zT (wM 2 nd (xE zY)) (zT (wN (yQ (RE.rd (RE.cl (xG G_rings_of H_rings_of (hr.mono (by decide)) br (zS (zZ 0) zY))))) (yM 3 nd) (zQ (aG 2 (xZ (sc0:=zX vZ) (N0:=["order","k","pairs","ring"]) (fs:=["ring"]) (js:=[3]) (by exact⟨rfl,by decide +kernel,by decide +kernel,by decide +kernel,by decide +kernel,rfl,by decide +kernel,by decide +kernel⟩) rfl rfl rfl (RI.c (zS8 T.g_range (zV (zZ 1) (zV (zL zO yT T.g_len PySem.boot_len (zV (zZ 3) zY)) (zV (zZ 1) zY))))) (fun _ _ _ _=>xY) (fun _ _ _ _=>(yS8 (zS (yJ yU yK (zZ 1) zP) (zS (yJ yU yK (zZ 1) (zZ 0)) zY))))))) PassesOwn.leaving) (zQ (zH9 2)))))
theorem kL:zK ["numbers"] ["numbers"] (zX xC):=⟨rfl,rfl,rfl,by decide +kernel,rfl,by decide +kernel,by decide +kernel⟩
theorem kM (T:Txt K mg){f:Addr}{fd:FuncData}(h:Has K mg "numbers_text" xC f fd ["numbers"]):FnOk P w K mg base (CXV P w) 1 f fd ["numbers"] (spX false xN):=by
 refine yZ [] h.F kL fun cdv A outer s H E hr => ?_
 have nd:=kL.nd
 have hu64:=hr.units
 have br:=zC (P:=P) (w:=w) (K:=K) (mg:=mg) (base:=base) (N:=["numbers"]) (x:="numbers_text") (sc:=zX xC) (f:=f) (cdv:=cdv) (A:=A) (outer:=outer) (s:=s) (H:=H) (E:=E) (om:=[])
 exact (zQ (zI (yR PySem.F.slot_str_join PySem.F.type_str_join vF vD zH (xZ (sc0:=zX xC) (N0:=["numbers"]) (fs:=[]) (js:=[]) (by exact⟨rfl,by decide +kernel,by decide +kernel,by decide +kernel,by decide +kernel,rfl,by decide +kernel,by decide +kernel⟩) rfl rfl rfl (RI.c (yQ (RE.rd (zZ 0)))) (fun _ _ _ _=>xY) (fun _ _ _ _=>(yX yE vV T.g_str (by rfl) (zV (zZ 0) zY)))))))
theorem gF:zK ["word","row"] ["word","row"] (zX wG):=⟨rfl,rfl,rfl,by decide +kernel,rfl,by decide +kernel,by decide +kernel⟩
theorem zW8 (T:Txt K mg){f:Addr}{fd:FuncData}(h:Has K mg "read_number" wG f fd ["word","row"]):FnOk P w K mg base (CXV P w) 1 f fd ["word","row"] (spX false xA):=by
 refine yZ [] h.F gF fun cdv A outer s H E hr => ?_
 have nd:=gF.nd
 have hu64:=hr.units
 have br:=zC (P:=P) (w:=w) (K:=K) (mg:=mg) (base:=base) (N:=["word","row"]) (x:="read_number") (sc:=zX wG) (f:=f) (cdv:=cdv) (A:=A) (outer:=outer) (s:=s) (H:=H) (E:=E) (om:=[])
 exact (zT (yA (RW.rt (rw_or (jC (gJ (zB2 (zZ 0)))) (rw_or (yW zP7 zA1 (zL zN2 yG8 T.g_len PySem.boot_len (zV (zZ 0) zY)) (aY T.c_MOST_FIGURES.choose_spec.1 T.c_MOST_FIGURES.choose_spec.2)) (rw_or1 (RW.rt (rw_and (gJ (yR PySem.F.slot_str_startswith PySem.F.type_str_startswith zQ4 zQ3 (zZ 0) zH)) (rw_and1 (yW (qZ hu64) jM (zZ 0) zH)))))))) (zQ bA) yV) (zQ (zI (yX zR2 yG6 T.g_int (by rfl) (zV (zZ 0) zY)))))
theorem kC:zK ["words","row"] ["words","row"] (zX xF):=⟨rfl,rfl,rfl,by decide +kernel,rfl,by decide +kernel,by decide +kernel⟩
theorem hR (T:Txt K mg){f:Addr}{fd:FuncData}(h:Has K mg "read_numbers" xF f fd ["words","row"]):FnOk P w K mg base (CXV P w) 2 f fd ["words","row"] (spX false xS):=by
 obtain⟨f_read_number,fd_read_number,H_read_number⟩:=T.d_read_number
 have G_read_number:FnOk P w K mg base (CXV P w) 1 f_read_number fd_read_number ["word","row"] (spX false xA):=zW8 T H_read_number
 refine yZ [] h.F kC fun cdv A outer s H E hr => ?_
 have nd:=kC.nd
 have hu64:=hr.units
 have br:=zC (P:=P) (w:=w) (K:=K) (mg:=mg) (base:=base) (N:=["words","row"]) (x:="read_numbers") (sc:=zX xF) (f:=f) (cdv:=cdv) (A:=A) (outer:=outer) (s:=s) (H:=H) (E:=E) (om:=[])
 exact (zQ (zI (yX xQ jZ T.g_tuple (by rfl) (zV (xZ (sc0:=zX xF) (N0:=["words","row"]) (fs:=["row"]) (js:=[1]) (by exact⟨rfl,by decide +kernel,by decide +kernel,by decide +kernel,by decide +kernel,rfl,by decide +kernel,by decide +kernel⟩) rfl rfl rfl (RI.c (yQ (RE.rd (zZ 0)))) (fun _ _ _ _=>xY) (fun _ _ _ _=>(zM G_read_number H_read_number (hr.mono (by decide)) (qG fun _ _ h=>h) (zS (zZ 0) (zS (zZ 1) zY))))) zY))))
theorem dR:zK ["ring","boxes"] ["ring"] (zX uX):=⟨rfl,rfl,rfl,by decide +kernel,rfl,by decide +kernel,by decide +kernel⟩
theorem zM7 (T:Txt K mg){f:Addr}{fd:FuncData}(h:Has K mg "ring_text" uX f fd ["ring"]):FnOk P w K mg base (CXV P w) 2 f fd ["ring"] (spX false wC):=by
 obtain⟨f_numbers_text,fd_numbers_text,H_numbers_text⟩:=T.d_numbers_text
 have G_numbers_text:FnOk P w K mg base (CXV P w) 1 f_numbers_text fd_numbers_text ["numbers"] (spX false xN):=kM T H_numbers_text
 refine yZ [] h.F dR fun cdv A outer s H E hr => ?_
 have nd:=dR.nd
 have hu64:=hr.units
 have br:=zC (P:=P) (w:=w) (K:=K) (mg:=mg) (base:=base) (N:=["ring","boxes"]) (x:="ring_text") (sc:=zX uX) (f:=f) (cdv:=cdv) (A:=A) (outer:=outer) (s:=s) (H:=H) (E:=E) (om:=[])
 exact (zT (yO 1 nd (zM G_numbers_text H_numbers_text (hr.mono (by decide)) br (zS (zZ 0) zY))) (zQ (zI (xY6 (zZ 1)))))
theorem fJ:zK ["order"] ["order"] (zX wQ):=⟨rfl,rfl,rfl,by decide +kernel,rfl,by decide +kernel,by decide +kernel⟩
theorem zR5 (T:Txt K mg){f:Addr}{fd:FuncData}(h:Has K mg "order_text" wQ f fd ["order"]):FnOk P w K mg base (CXV P w) 3 f fd ["order"] (spX false uC):=by
 obtain⟨f_rings_of,fd_rings_of,H_rings_of⟩:=T.d_rings_of
 have G_rings_of:FnOk P w K mg base (CXV P w) 2 f_rings_of fd_rings_of ["order"] (spX true yP):=uR T H_rings_of
 obtain⟨f_ring_text,fd_ring_text,H_ring_text⟩:=T.d_ring_text
 have G_ring_text:FnOk P w K mg base (CXV P w) 2 f_ring_text fd_ring_text ["ring"] (spX false wC):=zM7 T H_ring_text
 refine yZ [] h.F fJ fun cdv A outer s H E hr => ?_
 have nd:=fJ.nd
 have hu64:=hr.units
 have br:=zC (P:=P) (w:=w) (K:=K) (mg:=mg) (base:=base) (N:=["order"]) (x:="order_text") (sc:=zX wQ) (f:=f) (cdv:=cdv) (A:=A) (outer:=outer) (s:=s) (H:=H) (E:=E) (om:=[])
 exact (zQ (zI (yR PySem.F.slot_str_join PySem.F.type_str_join vF vD zH (xZ (sc0:=zX wQ) (N0:=["order"]) (fs:=[]) (js:=[]) (by exact⟨rfl,by decide +kernel,by decide +kernel,by decide +kernel,by decide +kernel,rfl,by decide +kernel,by decide +kernel⟩) rfl rfl rfl (RI.c (yQ (RE.rd (RE.cl (xG G_rings_of H_rings_of (hr.mono (by decide)) br (zS (zZ 0) zY)))))) (fun _ _ _ _=>xY) (fun _ _ _ _=>(zM G_ring_text H_ring_text (hr.mono (by decide)) (qG fun _ _ h=>h) (zS (zZ 0) zY)))))))
theorem fG:zK ["text","rings","order"] ["text"] (zX wP):=⟨rfl,rfl,rfl,by decide +kernel,rfl,by decide +kernel,by decide +kernel⟩
theorem zR9 (T:Txt K mg){f:Addr}{fd:FuncData}(h:Has K mg "read_order" wP f fd ["text"]):FnOk P w K mg base (CXV P w) 4 f fd ["text"] (spX false qU):=by
 obtain⟨f_read_numbers,fd_read_numbers,H_read_numbers⟩:=T.d_read_numbers
 have G_read_numbers:FnOk P w K mg base (CXV P w) 2 f_read_numbers fd_read_numbers ["words","row"] (spX false xS):=hR T H_read_numbers
 obtain⟨f_order_by,fd_order_by,H_order_by⟩:=T.d_order_by
 have G_order_by:FnOk P w K mg base (CXV P w) 2 f_order_by fd_order_by ["rings"] (spX false jR):=zJ7 T H_order_by
 obtain⟨f_order_text,fd_order_text,H_order_text⟩:=T.d_order_text
 have G_order_text:FnOk P w K mg base (CXV P w) 3 f_order_text fd_order_text ["order"] (spX false uC):=zR5 T H_order_text
 refine yZ [] h.F fG fun cdv A outer s H E hr => ?_
 have nd:=fG.nd
 have hu64:=hr.units
 have br:=zC (P:=P) (w:=w) (K:=K) (mg:=mg) (base:=base) (N:=["text","rings","order"]) (x:="read_order") (sc:=zX wP) (f:=f) (cdv:=cdv) (A:=A) (outer:=outer) (s:=s) (H:=H) (E:=E) (om:=[])
 exact (zT (zW1 1 nd (sc0:=zX wP) (N0:=["text","rings","order"]) (fs:=[]) (js:=[]) (by exact⟨rfl,by decide +kernel,by decide +kernel,by decide +kernel,by decide +kernel,rfl,by decide +kernel,by decide +kernel⟩) rfl rfl rfl (RI.c (yQ (RE.rd (RE.cl (yR PySem.F.slot_str_split PySem.F.type_str_split uM uN (yU4 (zZ 0) (gR zP) (gR (zL9 zP))) zH))))) (fun _ _ _ _=>xY) (fun _ _ _ _=>(zM G_read_numbers H_read_numbers (hr.mono (by decide)) (qG fun _ _ h=>h) (zS (RE.cl (yR PySem.F.slot_str_split PySem.F.type_str_split uM uN (zZ 0) zH)) (zS zP zY))))) (zT (zD8 (fun _ _=>(zQ (yO 2 nd (zM G_order_by H_order_by (hr.mono (by decide)) (qG fun _ _ h=>h) (zS (zZ 1) zY)))))) (zT (yA (yW (qZ hu64) jM (zM G_order_text H_order_text (hr.mono (by decide)) br (zS (zZ 2) zY)) (zZ 0)) (zQ bA) yV) (zQ (zI (zZ 2))))))
theorem kH:zK ["text"] ["text"] (zX wO):=⟨rfl,rfl,rfl,by decide +kernel,rfl,by decide +kernel,by decide +kernel⟩
theorem hU (T:Txt K mg){f:Addr}{fd:FuncData}(h:Has K mg "text_or_none" wO f fd ["text"]):FnOk P w K mg base (CXV P w) 1 f fd ["text"] (spX false xD):=by
 refine yZ [] h.F kH fun cdv A outer s H E hr => ?_
 have nd:=kH.nd
 have hu64:=hr.units
 have br:=zC (P:=P) (w:=w) (K:=K) (mg:=mg) (base:=base) (N:=["text"]) (x:="text_or_none") (sc:=zX wO) (f:=f) (cdv:=cdv) (A:=A) (outer:=outer) (s:=s) (H:=H) (E:=E) (om:=[])
 exact (zQ (zI (yN3 (yW (xX hu64) xP (zZ 0) zH) zH (zZ 0))))
theorem dZ:zK ["pair"] ["pair"] (zX wB):=⟨rfl,rfl,rfl,by decide +kernel,rfl,by decide +kernel,by decide +kernel⟩
theorem zL3 (T:Txt K mg){f:Addr}{fd:FuncData}(h:Has K mg "pair_text" wB f fd ["pair"]):FnOk P w K mg base (CXV P w) 1 f fd ["pair"] (spX false wF):=by
 refine yZ [] h.F dZ fun cdv A outer s H E hr => ?_
 have nd:=dZ.nd
 have hu64:=hr.units
 have br:=zC (P:=P) (w:=w) (K:=K) (mg:=mg) (base:=base) (N:=["pair"]) (x:="pair_text") (sc:=zX wB) (f:=f) (cdv:=cdv) (A:=A) (outer:=outer) (s:=s) (H:=H) (E:=E) (om:=[])
 exact (zQ (zI (yR PySem.F.slot_str_join PySem.F.type_str_join vF vD zH (xZ (sc0:=zX wB) (N0:=["pair"]) (fs:=[]) (js:=[]) (by exact⟨rfl,by decide +kernel,by decide +kernel,by decide +kernel,by decide +kernel,rfl,by decide +kernel,by decide +kernel⟩) rfl rfl rfl (RI.c (yQ (RE.rd (zZ 0)))) (fun _ _ _ _=>xY) (fun _ _ _ _=>(yX yE vV T.g_str (by rfl) (zV (zZ 0) zY)))))))
theorem fC:zK ["order","k"] ["order","k"] (zX wE):=⟨rfl,rfl,rfl,by decide +kernel,rfl,by decide +kernel,by decide +kernel⟩
theorem zL5 (T:Txt K mg){f:Addr}{fd:FuncData}(h:Has K mg "help_text" wE f fd ["order","k"]):FnOk P w K mg base (CXV P w) 4 f fd ["order","k"] (spX false qF):=by
 obtain⟨f_text_or_none,fd_text_or_none,H_text_or_none⟩:=T.d_text_or_none
 have G_text_or_none:FnOk P w K mg base (CXV P w) 1 f_text_or_none fd_text_or_none ["text"] (spX false xD):=hU T H_text_or_none
 obtain⟨f_exchanges,fd_exchanges,H_exchanges⟩:=T.d_exchanges
 have G_exchanges:FnOk P w K mg base (CXV P w) 3 f_exchanges fd_exchanges ["order","k"] (spX true uQ):=zK5 T H_exchanges
 obtain⟨f_pair_text,fd_pair_text,H_pair_text⟩:=T.d_pair_text
 have G_pair_text:FnOk P w K mg base (CXV P w) 1 f_pair_text fd_pair_text ["pair"] (spX false wF):=zL3 T H_pair_text
 refine yZ [] h.F fC fun cdv A outer s H E hr => ?_
 have nd:=fC.nd
 have hu64:=hr.units
 have br:=zC (P:=P) (w:=w) (K:=K) (mg:=mg) (base:=base) (N:=["order","k"]) (x:="help_text") (sc:=zX wE) (f:=f) (cdv:=cdv) (A:=A) (outer:=outer) (s:=s) (H:=H) (E:=E) (om:=[])
 exact (zQ (zI (zM G_text_or_none H_text_or_none (hr.mono (by decide)) br (zS (yR PySem.F.slot_str_join PySem.F.type_str_join vF vD zH (xZ (sc0:=zX wE) (N0:=["order","k"]) (fs:=[]) (js:=[]) (by exact⟨rfl,by decide +kernel,by decide +kernel,by decide +kernel,by decide +kernel,rfl,by decide +kernel,by decide +kernel⟩) rfl rfl rfl (RI.c (yQ (RE.rd (RE.cl (xG G_exchanges H_exchanges (hr.mono (by decide)) br (zS (zZ 0) (zS (zZ 1) zY))))))) (fun _ _ _ _=>xY) (fun _ _ _ _=>(zM G_pair_text H_pair_text (hr.mono (by decide)) (qG fun _ _ h=>h) (zS (zZ 0) zY))))) zY))))
theorem qD:zK ["word","numbers","order"] ["word","numbers","order"] (zX xR):=⟨rfl,rfl,rfl,by decide +kernel,rfl,by decide +kernel,by decide +kernel⟩
theorem dE (T:Txt K mg){f:Addr}{fd:FuncData}(h:Has K mg "answer_by_order" xR f fd ["word","numbers","order"]):FnOk P w K mg base (CXV P w) 5 f fd ["word","numbers","order"] (spX false wS):=by
 obtain⟨f_numbers_text,fd_numbers_text,H_numbers_text⟩:=T.d_numbers_text
 have G_numbers_text:FnOk P w K mg base (CXV P w) 1 f_numbers_text fd_numbers_text ["numbers"] (spX false xN):=kM T H_numbers_text
 obtain⟨f_rings_of,fd_rings_of,H_rings_of⟩:=T.d_rings_of
 have G_rings_of:FnOk P w K mg base (CXV P w) 2 f_rings_of fd_rings_of ["order"] (spX true yP):=uR T H_rings_of
 obtain⟨f_text_or_none,fd_text_or_none,H_text_or_none⟩:=T.d_text_or_none
 have G_text_or_none:FnOk P w K mg base (CXV P w) 1 f_text_or_none fd_text_or_none ["text"] (spX false xD):=hU T H_text_or_none
 obtain⟨f_finders,fd_finders,H_finders⟩:=T.d_finders
 have G_finders:FnOk P w K mg base (CXV P w) 3 f_finders fd_finders ["order","openings"] (spX false kN):=yZ3 T H_finders
 obtain⟨f_need,fd_need,H_need⟩:=T.d_need
 have G_need:FnOk P w K mg base (CXV P w) 4 f_need fd_need ["order","k"] (spX false zY6):=yH6 T H_need
 obtain⟨f_help_text,fd_help_text,H_help_text⟩:=T.d_help_text
 have G_help_text:FnOk P w K mg base (CXV P w) 4 f_help_text fd_help_text ["order","k"] (spX false qF):=zL5 T H_help_text
 refine yZ [] h.F qD fun cdv A outer s H E hr => ?_
 have nd:=qD.nd
 have hu64:=hr.units
 have br:=zC (P:=P) (w:=w) (K:=K) (mg:=mg) (base:=base) (N:=["word","numbers","order"]) (x:="answer_by_order") (sc:=zX xR) (f:=f) (cdv:=cdv) (A:=A) (outer:=outer) (s:=s) (H:=H) (E:=E) (om:=[])
 exact (zT (yA (RW.rt (rw_and (yW (xX hu64) xP (zZ 0) zH) (rw_and1 (yW (xX hu64) xP (zL zO yT T.g_len PySem.boot_len (zV (zZ 1) zY)) zP)))) (zQ (zI (zM G_numbers_text H_numbers_text (hr.mono (by decide)) br (zS (RE.cl (xZ (sc0:=zX xR) (N0:=["word","numbers","order"]) (fs:=[]) (js:=[]) (by exact⟨rfl,by decide +kernel,by decide +kernel,by decide +kernel,by decide +kernel,rfl,by decide +kernel,by decide +kernel⟩) rfl rfl rfl (RI.c (yQ (RE.rd (RE.cl (xG G_rings_of H_rings_of (hr.mono (by decide)) br (zS (zZ 2) zY)))))) (fun _ _ _ _=>xY) (fun _ _ _ _=>(zL zO yT T.g_len PySem.boot_len (zV (zZ 0) zY))))) zY)))) yV) (zT (yA (yW (xX hu64) xP (zZ 0) zH) (zQ (zI (zM G_text_or_none H_text_or_none (hr.mono (by decide)) br (zS (zM G_numbers_text H_numbers_text (hr.mono (by decide)) br (zS (zM G_finders H_finders (hr.mono (by decide)) br (zS (zZ 2) (zS (zZ 1) zY))) zY)) zY)))) yV) (zT (yA (RW.rt (rw_and (yW (xX hu64) xP (zZ 0) zH) (rw_and1 (yW (xX hu64) xP (zL zO yT T.g_len PySem.boot_len (zV (zZ 1) zY)) zP)))) (zQ (zI (yX yE vV T.g_str (by rfl) (zV (zM G_need H_need (hr.mono (by decide)) br (zS (zZ 2) (zS (yJ yU yK (zZ 1) zP) zY))) zY)))) yV) (zT (yA (RW.rt (rw_and (yW (xX hu64) xP (zZ 0) zH) (rw_and1 (yW (xX hu64) xP (zL zO yT T.g_len PySem.boot_len (zV (zZ 1) zY)) zP)))) (zQ (zI (zM G_help_text H_help_text (hr.mono (by decide)) br (zS (zZ 2) (zS (yJ yU yK (zZ 1) zP) zY))))) yV) (zQ bA)))))
theorem zT6:zK ["row","parts","words","numbers"] ["row"] (zX kX):=⟨rfl,rfl,rfl,by decide +kernel,rfl,by decide +kernel,by decide +kernel⟩
theorem yR9 (T:Txt K mg){f:Addr}{fd:FuncData}(h:Has K mg "answer" kX f fd ["row"]):FnOk P w K mg base (CXV P w) 6 f fd ["row"] (spX false fT):=by
 obtain⟨f_read_numbers,fd_read_numbers,H_read_numbers⟩:=T.d_read_numbers
 have G_read_numbers:FnOk P w K mg base (CXV P w) 2 f_read_numbers fd_read_numbers ["words","row"] (spX false xS):=hR T H_read_numbers
 obtain⟨f_answer_by_order,fd_answer_by_order,H_answer_by_order⟩:=T.d_answer_by_order
 have G_answer_by_order:FnOk P w K mg base (CXV P w) 5 f_answer_by_order fd_answer_by_order ["word","numbers","order"] (spX false wS):=dE T H_answer_by_order
 obtain⟨f_read_order,fd_read_order,H_read_order⟩:=T.d_read_order
 have G_read_order:FnOk P w K mg base (CXV P w) 4 f_read_order fd_read_order ["text"] (spX false qU):=zR9 T H_read_order
 refine yZ [] h.F zT6 fun cdv A outer s H E hr => ?_
 have nd:=zT6.nd
 have hu64:=hr.units
 have br:=zC (P:=P) (w:=w) (K:=K) (mg:=mg) (base:=base) (N:=["row","parts","words","numbers"]) (x:="answer") (sc:=zX kX) (f:=f) (cdv:=cdv) (A:=A) (outer:=outer) (s:=s) (H:=H) (E:=E) (om:=[])
 exact (zT (yO 1 nd (yR PySem.F.slot_str_partition PySem.F.type_str_partition zO8 zM6 (zZ 0) zH)) (zT (yO 2 nd (RE.cl (yR PySem.F.slot_str_split PySem.F.type_str_split uM uN (yJ yU yK (zZ 1) zP) zH))) (zT (yO 3 nd (zM G_read_numbers H_read_numbers (hr.mono (by decide)) br (zS (yR8 (zZ 2) (gR zP) yF1) (zS zP zY)))) (zT (yA (yW (xX hu64) xP (yJ yU yK (zZ 1) zP) zH) (zQ (zI xN5)) yV) (zQ (zI (zM G_answer_by_order H_answer_by_order (hr.mono (by decide)) br (zS (yJ yU yK (zZ 2) zP) (zS (zZ 3) (zS (zM G_read_order H_read_order (hr.mono (by decide)) br (zS (yJ yU yK (zZ 1) zP) zY)) zY))))))))))
theorem qV:zK ["row"] ["row"] (zX xO):=⟨rfl,rfl,rfl,by decide +kernel,rfl,by decide +kernel,by decide +kernel⟩
theorem gA (T:Txt K mg){f:Addr}{fd:FuncData}(h:Has K mg "answer_or_refusal" xO f fd ["row"]):FnOk P w K mg base (CXV P w) 7 f fd ["row"] (spX false yL):=by
 obtain⟨f_answer,fd_answer,H_answer⟩:=T.d_answer
 have G_answer:FnOk P w K mg base (CXV P w) 6 f_answer fd_answer ["row"] (spX false fT):=yR9 T H_answer
 refine yZ [] h.F qV fun cdv A outer s H E hr => ?_
 have nd:=qV.nd
 have hu64:=hr.units
 have br:=zC (P:=P) (w:=w) (K:=K) (mg:=mg) (base:=base) (N:=["row"]) (x:="answer_or_refusal") (sc:=zX xO) (f:=f) (cdv:=cdv) (A:=A) (outer:=outer) (s:=s) (H:=H) (E:=E) (om:=[])
 exact (zQ (zD8 (fun _ _=>(zQ (zI (zM G_answer H_answer (hr.mono (by decide)) (qG fun _ _ h=>h) (zS (zZ 0) zY)))))))
theorem bS:zK ["sheet"] ["sheet"] (zX vC):=⟨rfl,rfl,rfl,by decide +kernel,rfl,by decide +kernel,by decide +kernel⟩
theorem zI3 (T:Txt K mg){f:Addr}{fd:FuncData}(h:Has K mg "answered" vC f fd ["sheet"]):FnOk P w K mg base (CXV P w) 8 f fd ["sheet"] (spX false jN):=by
 obtain⟨f_answer_or_refusal,fd_answer_or_refusal,H_answer_or_refusal⟩:=T.d_answer_or_refusal
 have G_answer_or_refusal:FnOk P w K mg base (CXV P w) 7 f_answer_or_refusal fd_answer_or_refusal ["row"] (spX false yL):=gA T H_answer_or_refusal
 refine yZ [] h.F bS fun cdv A outer s H E hr => ?_
 have nd:=bS.nd
 have hu64:=hr.units
 have br:=zC (P:=P) (w:=w) (K:=K) (mg:=mg) (base:=base) (N:=["sheet"]) (x:="answered") (sc:=zX vC) (f:=f) (cdv:=cdv) (A:=A) (outer:=outer) (s:=s) (H:=H) (E:=E) (om:=[])
 exact (zQ (zI (yR PySem.F.slot_str_join PySem.F.type_str_join vF vD zH (xZ (sc0:=zX vC) (N0:=["sheet"]) (fs:=[]) (js:=[]) (by exact⟨rfl,by decide +kernel,by decide +kernel,by decide +kernel,by decide +kernel,rfl,by decide +kernel,by decide +kernel⟩) rfl rfl rfl (RI.c (yQ (RE.rd (RE.cl (yR PySem.F.slot_str_split PySem.F.type_str_split uM uN (zZ 0) zH))))) (fun _ _ _ _=>xY) (fun _ _ _ _=>(zM G_answer_or_refusal H_answer_or_refusal (hr.mono (by decide)) (qG fun _ _ h=>h) (zS (zZ 0) zY)))))))
theorem aE:zK ["cell","many","names","k"] ["cell","many"] (zX jY):=⟨rfl,rfl,rfl,by decide +kernel,rfl,by decide +kernel,by decide +kernel⟩
theorem zB6 (T:Txt K mg){f:Addr}{fd:FuncData}(h:Has K mg "_law_order" jY f fd ["cell","many"]):FnOk P w K mg base (CXV P w) 1 f fd ["cell","many"] (spX false kI):=by
 refine yZ [2] h.F aE fun cdv A outer s H E hr => ?_
 have nd:=aE.nd
 have hu64:=hr.units
 have br:=zC (P:=P) (w:=w) (K:=K) (mg:=mg) (base:=base) (N:=["cell","many","names","k"]) (x:="_law_order") (sc:=zX jY) (f:=f) (cdv:=cdv) (A:=A) (outer:=outer) (s:=s) (H:=H) (E:=E) (om:=[2])
 exact (zT (wM 2 nd (xE zY)) (zT (wN (vT T.g_range (zV (zZ 1) zY)) (yM 3 nd) (zT (cK 2 PySem.F.slot_list_insert PySem.F.type_list_insert yV4 yQ6 (zS (zB uH uF (zZ 0) (zB uT uW (zZ 3) zP)) (zS (zZ 3) zY))) (zQ (yO 0 nd (zB wU wA (zZ 0) (zB uT uW (zZ 3) zP))))) PassesOwn.leaving) (zQ (zI (yX xQ jZ T.g_tuple (by rfl) (zV (wV 2) zY))))))
theorem aD:zK ["order","met","rings","first","ring","box"] ["order"] (zX kF):=⟨rfl,rfl,rfl,by decide +kernel,rfl,by decide +kernel,by decide +kernel⟩
theorem jT (T:Txt K mg){f:Addr}{fd:FuncData}(h:Has K mg "_law_rings" kF f fd ["order"]):FnOk P w K mg base (CXV P w) 1 f fd ["order"] (spX true yB):=by
 refine yP2 h.F aD rfl rfl fun cdv A outer s H E hr => ?_
 have nd:=aD.nd
 exact wK (kR (i:=1) nd rfl (Or.inl rfl) yL5) (wK (kR (i:=2) nd rfl (Or.inl rfl) (zJ1 wH)) (wK (yR7 PassesOwn.leaving rfl (zU1 rfl T.g_range (wZ (fZ zO rfl T.g_len PySem.boot_len (wZ (pv 0) wH)) wH)) (zW7 (i:=3) nd rfl (Or.inl rfl)) (wK (kR (i:=4) nd rfl (Or.inl rfl) (zJ1 wH)) (wK (kR (i:=5) nd rfl (Or.inl rfl) (pv 3)) (wK (zO5 PassesOwn.leaving (xU7 (yR1 (yJ6 hr) (pv 5) (pv 1))) (wK (yH5 (yJ6 hr) (pv 1) (pv 5) yJ7 rfl) (wK (gI (zY1 PySem.F.plainAttrs_list PySem.F.slot_list_append PySem.F.type_list_append qC (pv 4) (wZ (pv 5) wH))) (gM (kR (i:=5) nd rfl (Or.inl rfl) (yI3 yU (pv 0) (pv 5) (fun _ _=>rfl))))))) (gM (yJ8 (zD4 zP7 (fZ zO rfl T.g_len PySem.boot_len (wZ (pv 4) wH)) yV7 (nomark _)) (gM (gI (zY1 PySem.F.plainAttrs_list PySem.F.slot_list_append PySem.F.type_list_append qC (pv 2) (wZ (pv 4) wH)))) zG2)))))) (gM (zM2 (pv 2)))))
theorem fI:zK ["cell","many","found","k"] ["cell","many"] (zX vM):=⟨rfl,rfl,rfl,by decide +kernel,rfl,by decide +kernel,by decide +kernel⟩
theorem zQ1 (T:Txt K mg){f:Addr}{fd:FuncData}(h:Has K mg "_law_openings" vM f fd ["cell","many"]):FnOk P w K mg base (CXV P w) 1 f fd ["cell","many"] (spX false qW):=by
 refine yZ [2] h.F fI fun cdv A outer s H E hr => ?_
 have nd:=fI.nd
 have hu64:=hr.units
 have br:=zC (P:=P) (w:=w) (K:=K) (mg:=mg) (base:=base) (N:=["cell","many","found","k"]) (x:="_law_openings") (sc:=zX vM) (f:=f) (cdv:=cdv) (A:=A) (outer:=outer) (s:=s) (H:=H) (E:=E) (om:=[2])
 exact (zT (wM 2 nd (xE zY)) (zT (wN (vT T.g_range (zV (zZ 1) zY)) (yM 3 nd) (zT (cK 2 PySem.F.slot_list_append PySem.F.type_list_append qC dM (zS (zB uH uF (zZ 0) (zB uT uW (zZ 1) zP)) zY)) (zQ (yO 0 nd (zB wU wA (zZ 0) (zB uT uW (zZ 1) zP))))) PassesOwn.leaving) (zQ (zI (yX xQ jZ T.g_tuple (by rfl) (zV (wV 2) zY))))))
theorem zU5:zK ["order","k","found","ring","left"] ["order","k"] (zX kU):=⟨rfl,rfl,rfl,by decide +kernel,rfl,by decide +kernel,by decide +kernel⟩
theorem zS6 (T:Txt K mg){f:Addr}{fd:FuncData}(h:Has K mg "_law_need" kU f fd ["order","k"]):FnOk P w K mg base (CXV P w) 2 f fd ["order","k"] (spX false vL):=by
 obtain⟨f_l_rings,fd_l_rings,H_l_rings⟩:=T.d_l_rings
 have G_l_rings:FnOk P w K mg base (CXV P w) 1 f_l_rings fd_l_rings ["order"] (spX true yB):=jT T H_l_rings
 refine yZ [] h.F zU5 fun cdv A outer s H E hr => ?_
 have nd:=zU5.nd
 have hu64:=hr.units
 have br:=zC (P:=P) (w:=w) (K:=K) (mg:=mg) (base:=base) (N:=["order","k","found","ring","left"]) (x:="_law_need") (sc:=zX kU) (f:=f) (cdv:=cdv) (A:=A) (outer:=outer) (s:=s) (H:=H) (E:=E) (om:=[])
 exact (zT (yO 2 nd zP) (zT (wN (yQ (RE.rd (RE.cl (xG G_l_rings H_l_rings (hr.mono (by decide)) br (zS (zZ 0) zY))))) (yM 3 nd) (zT (yO 4 nd (zL zO yT T.g_len PySem.boot_len (zV (zZ 3) zY))) (zQ (zN6 1000000 (yW zP7 zA1 (zZ 4) (zZ 1)) (zT (yO 4 nd (zB zM8 zK6 (zZ 4) (zZ 1))) (zQ (yO 2 nd (zB uT uW (zZ 2) zP)))) PassesOwn.leaving))) PassesOwn.leaving) (zQ (zI (zZ 2)))))
theorem zT3:zK ["order"] ["order"] (zX qI):=⟨rfl,rfl,rfl,by decide +kernel,rfl,by decide +kernel,by decide +kernel⟩
theorem yT4 (T:Txt K mg){f:Addr}{fd:FuncData}(h:Has K mg "_law_text" qI f fd ["order"]):FnOk P w K mg base (CXV P w) 2 f fd ["order"] (spX false fW):=by
 obtain⟨f_l_rings,fd_l_rings,H_l_rings⟩:=T.d_l_rings
 have G_l_rings:FnOk P w K mg base (CXV P w) 1 f_l_rings fd_l_rings ["order"] (spX true yB):=jT T H_l_rings
 refine yZ [] h.F zT3 fun cdv A outer s H E hr => ?_
 have nd:=zT3.nd
 have hu64:=hr.units
 have br:=zC (P:=P) (w:=w) (K:=K) (mg:=mg) (base:=base) (N:=["order"]) (x:="_law_text") (sc:=zX qI) (f:=f) (cdv:=cdv) (A:=A) (outer:=outer) (s:=s) (H:=H) (E:=E) (om:=[])
 exact (zQ (zI (yR PySem.F.slot_str_join PySem.F.type_str_join vF vD zH (xZ (sc0:=zX qI) (N0:=["order"]) (fs:=[]) (js:=[]) (by exact⟨rfl,by decide +kernel,by decide +kernel,by decide +kernel,by decide +kernel,rfl,by decide +kernel,by decide +kernel⟩) rfl rfl rfl (RI.c (yQ (RE.rd (RE.cl (xG G_l_rings H_l_rings (hr.mono (by decide)) br (zS (zZ 0) zY)))))) (fun _ _ _ _=>xY) (fun _ _ _ _=>(zB xK vH (zB xK vH zH (yR PySem.F.slot_str_join PySem.F.type_str_join vF vD zH (xZ (sc0:=_) (N0:=_) (fs:=[]) (js:=[]) (by exact⟨rfl,by decide +kernel,by decide +kernel,by decide +kernel,by repeat' (first | exact List.forall_mem_nil _ | refine List.forall_mem_cons.2 ⟨?_,?_⟩ | (intro h;cases h;done) | exact (fun _=>Or.inl rfl) | exact (fun _=>Or.inr rfl) | exact⟨rfl,rfl⟩),rfl,by repeat' (first | exact List.forall_mem_nil _ | refine List.forall_mem_cons.2 ⟨?_,?_⟩ | (intro h;cases h;done) | exact (fun _=>Or.inl rfl) | exact (fun _=>Or.inr rfl) | exact⟨rfl,rfl⟩),by decide +kernel⟩) rfl rfl rfl (RI.c (yQ (RE.rd (zZ 0)))) (fun _ _ _ _=>xY) (fun _ _ _ _=>(yX yE vV T.g_str (by rfl) (zV (zZ 0) zY)))))) zH))))))
theorem cB:zK ["some"] ["some"] (zX vE):=⟨rfl,rfl,rfl,by decide +kernel,rfl,by decide +kernel,by decide +kernel⟩
theorem bX (T:Txt K mg){f:Addr}{fd:FuncData}(h:Has K mg "_law_blanks" vE f fd ["some"]):FnOk P w K mg base (CXV P w) 1 f fd ["some"] (spX false xJ):=by
 refine yZ [] h.F cB fun cdv A outer s H E hr => ?_
 have nd:=cB.nd
 have hu64:=hr.units
 have br:=zC (P:=P) (w:=w) (K:=K) (mg:=mg) (base:=base) (N:=["some"]) (x:="_law_blanks") (sc:=zX vE) (f:=f) (cdv:=cdv) (A:=A) (outer:=outer) (s:=s) (H:=H) (E:=E) (om:=[])
 exact (zQ (zI (yR PySem.F.slot_str_join PySem.F.type_str_join vF vD zH (xZ (sc0:=zX vE) (N0:=["some"]) (fs:=[]) (js:=[]) (by exact⟨rfl,by decide +kernel,by decide +kernel,by decide +kernel,by decide +kernel,rfl,by decide +kernel,by decide +kernel⟩) rfl rfl rfl (RI.c (yQ (RE.rd (zZ 0)))) (fun _ _ _ _=>xY) (fun _ _ _ _=>(yX yE vV T.g_str (by rfl) (zV (zZ 0) zY)))))))
theorem zZ3:zK ["cell","many","order","openings"] ["cell"] (zX uJ):=⟨rfl,rfl,rfl,by decide +kernel,rfl,by decide +kernel,by decide +kernel⟩
theorem yY8 (T:Txt K mg){f:Addr}{fd:FuncData}(h:Has K mg "_law_asked" uJ f fd ["cell"]):FnOk P w K mg base (CXV P w) 2 f fd ["cell"] (spX false wL):=by
 obtain⟨f_l_order,fd_l_order,H_l_order⟩:=T.d_l_order
 have G_l_order:FnOk P w K mg base (CXV P w) 1 f_l_order fd_l_order ["cell","many"] (spX false kI):=zB6 T H_l_order
 obtain⟨f_l_openings,fd_l_openings,H_l_openings⟩:=T.d_l_openings
 have G_l_openings:FnOk P w K mg base (CXV P w) 1 f_l_openings fd_l_openings ["cell","many"] (spX false qW):=zQ1 T H_l_openings
 refine yZ [] h.F zZ3 fun cdv A outer s H E hr => ?_
 have nd:=zZ3.nd
 have hu64:=hr.units
 have br:=zC (P:=P) (w:=w) (K:=K) (mg:=mg) (base:=base) (N:=["cell","many","order","openings"]) (x:="_law_asked") (sc:=zX uJ) (f:=f) (cdv:=cdv) (A:=A) (outer:=outer) (s:=s) (H:=H) (E:=E) (om:=[])
 exact (zT (yO 0 nd (zL yM2 xV4 T.g_abs (by rfl) (zV (zZ 0) zY))) (zT (yO 1 nd (zB uT uW zP (zB uH uF (zB wU wA (zZ 0) zP) zP))) (zT (yA (yW (xX hu64) xP (zB uH uF (zB wU wA (zZ 0) zP) zP) zP) (zQ (yO 1 nd (zB uT uW zP (zB uH uF (zB wU wA (zZ 0) zP) zP)))) yV) (zT (yO 2 nd (zM G_l_order H_l_order (hr.mono (by decide)) br (zS (zB wU wA (zZ 0) zP) (zS (zZ 1) zY)))) (zT (yO 3 nd (zM G_l_openings H_l_openings (hr.mono (by decide)) br (zS (zB wU wA (zZ 0) zP) (zS (zZ 1) zY)))) (zT (yA (yW (xX hu64) xP (zB uH uF (zB wU wA (zZ 0) zP) zP) zP) (zQ (yO 3 nd (yX xQ jZ T.g_tuple (by rfl) (zV (xZ (sc0:=zX uJ) (N0:=["cell","many","order","openings"]) (fs:=["openings","many"]) (js:=[3,1]) (by exact⟨rfl,by decide +kernel,by decide +kernel,by decide +kernel,by decide +kernel,rfl,by decide +kernel,by decide +kernel⟩) rfl rfl rfl (RI.c (vT T.g_range (zV (zZ 1) zY))) (fun _ _ _ _=>xY) (fun _ _ _ _=>(zB uT uW zP (zB uH uF (yJ yU yK (zZ 1) zP) (zZ 2))))) zY)))) yV) (zQ (zI (yS8 (zS (zB uH uF (zZ 0) zP) (zS (zZ 2) (zS (zZ 3) (zS (zB uT uW zP (zB uH uF (zB wU wA (zZ 0) zP) (zZ 1))) zY)))))))))))))
theorem zN9:zK ["asked","way","order","openings","k","head"] ["asked"] (zX gH):=⟨rfl,rfl,rfl,by decide +kernel,rfl,by decide +kernel,by decide +kernel⟩
theorem yM6 (T:Txt K mg){f:Addr}{fd:FuncData}(h:Has K mg "_law_row" gH f fd ["asked"]):FnOk P w K mg base (CXV P w) 3 f fd ["asked"] (spX false qK):=by
 obtain⟨f_l_blanks,fd_l_blanks,H_l_blanks⟩:=T.d_l_blanks
 have G_l_blanks:FnOk P w K mg base (CXV P w) 1 f_l_blanks fd_l_blanks ["some"] (spX false xJ):=bX T H_l_blanks
 obtain⟨f_l_text,fd_l_text,H_l_text⟩:=T.d_l_text
 have G_l_text:FnOk P w K mg base (CXV P w) 2 f_l_text fd_l_text ["order"] (spX false fW):=yT4 T H_l_text
 refine yZ [] h.F zN9 fun cdv A outer s H E hr => ?_
 have nd:=zN9.nd
 have hu64:=hr.units
 have br:=zC (P:=P) (w:=w) (K:=K) (mg:=mg) (base:=base) (N:=["asked","way","order","openings","k","head"]) (x:="_law_row") (sc:=zX gH) (f:=f) (cdv:=cdv) (A:=A) (outer:=outer) (s:=s) (H:=H) (E:=E) (om:=[])
 exact (zT (zE5 (zZ 0) (yV3 rfl (vK (yM 1 nd) (vK (yM 2 nd) (vK (yM 3 nd) (vK (yM 4 nd) zG3)))))) (zT (yO 5 nd (yJ yU yK (xE (zS zH (zS (zB xK vH zH (zM G_l_blanks H_l_blanks (hr.mono (by decide)) br (zS (zZ 3) zY))) (zS (zB xK vH zH (yX yE vV T.g_str (by rfl) (zV (zZ 4) zY))) (zS (zB xK vH zH (yX yE vV T.g_str (by rfl) (zV (zZ 4) zY))) zY))))) (zZ 1))) (zQ (zI (zB xK vH (zB xK vH (zZ 5) zH) (zM G_l_text H_l_text (hr.mono (by decide)) br (zS (zZ 2) zY)))))))
theorem cE:zK ["order","k","answer_v","names","pairs","pair","boxes","one"] ["order","k","answer_v"] (zX wJ):=⟨rfl,rfl,rfl,by decide +kernel,rfl,by decide +kernel,by decide +kernel⟩
theorem zI4 (T:Txt K mg){f:Addr}{fd:FuncData}(h:Has K mg "_law_helped" wJ f fd ["order","k","answer_v"]):FnOk P w K mg base (CXV P w) 3 f fd ["order","k","answer_v"] (spX false qS):=by
 obtain⟨f_l_need,fd_l_need,H_l_need⟩:=T.d_l_need
 have G_l_need:FnOk P w K mg base (CXV P w) 2 f_l_need fd_l_need ["order","k"] (spX false vL):=zS6 T H_l_need
 obtain⟨f_l_rings,fd_l_rings,H_l_rings⟩:=T.d_l_rings
 have G_l_rings:FnOk P w K mg base (CXV P w) 1 f_l_rings fd_l_rings ["order"] (spX true yB):=jT T H_l_rings
 refine yZ [3] h.F cE fun cdv A outer s H E hr => ?_
 have nd:=cE.nd
 have hu64:=hr.units
 have br:=zC (P:=P) (w:=w) (K:=K) (mg:=mg) (base:=base) (N:=["order","k","answer_v","names","pairs","pair","boxes","one"]) (x:="_law_helped") (sc:=zX wJ) (f:=f) (cdv:=cdv) (A:=A) (outer:=outer) (s:=s) (H:=H) (E:=E) (om:=[3])
 exact (zT (wM 3 nd (yX dI zF1 T.g_list (by rfl) (zV (zZ 0) zY))) (zT (yO 4 nd (RE.cl (xE zY))) (zT (yA (yW (qZ hu64) jM (zZ 2) zH) (zQ (yO 4 nd (RE.cl (yR PySem.F.slot_str_split PySem.F.type_str_split uM uN (zZ 2) zH)))) yV) (zT (yA (yW (qZ hu64) jM (zL zO yT T.g_len PySem.boot_len (zV (zZ 4) zY)) (zM G_l_need H_l_need (hr.mono (by decide)) br (zS (zZ 0) (zS (zZ 1) zY)))) (zX4 3 [] (zQ (zI kD))) yV) (zT (wN (yQ (RE.rd (zZ 4))) (yM 5 nd) (zT (zW1 6 nd (sc0:=zX wJ) (N0:=["order","k","answer_v","names","pairs","pair","boxes","one"]) (fs:=["pair"]) (js:=[5]) (by exact⟨rfl,by decide +kernel,by decide +kernel,by decide +kernel,by decide +kernel,rfl,by decide +kernel,by decide +kernel⟩) rfl rfl rfl (RI.c (vT T.g_range (zV (zL zO yT T.g_len PySem.boot_len (zV (zZ 0) zY)) zY))) (fun _ _ _ _=>(zW3 (yW yR3 xR2 (yX yE vV T.g_str (by rfl) (zV (zZ 0) zY)) (yR PySem.F.slot_str_split PySem.F.type_str_split uM uN (zZ 1) zH)))) (fun _ _ _ _=>(zZ 0))) (zT (yA (RW.rt (rw_or (yW (qZ hu64) jM (zL zO yT T.g_len PySem.boot_len (zV (zZ 6) zY)) zP) (rw_or1 (yW (qZ hu64) jM (zZ 5) (zB xK vH (zB xK vH (yX yE vV T.g_str (by rfl) (zV (yJ yU yK (zZ 6) zP) zY)) zH) (yX yE vV T.g_str (by rfl) (zV (yJ yU yK (zZ 6) zP) zY))))))) (zX4 3 [] (zQ (zI kD))) yV) (zT (yO 7 nd (yJ yU yK (wV 3) (yJ yU yK (zZ 6) zP))) (zT (cR 3 (yJ yU yK (wV 3) (yJ yU yK (zZ 6) zP)) (yJ yU yK (zZ 6) zP)) (zQ (cR 3 (zZ 7) (yJ yU yK (zZ 6) zP))))))) PassesOwn.leaving) (zX4 3 [] (zQ (zI (gP kA kJ (zL (zS2 rfl) zE4 T.g_max PyProof.Rows.boot_max (zV (xZ (sc0:=zX wJ) (N0:=["order","k","answer_v","names","pairs","pair","boxes","one"]) (fs:=[]) (js:=[]) (by exact⟨rfl,by decide +kernel,by decide +kernel,by decide +kernel,by decide +kernel,rfl,by decide +kernel,by decide +kernel⟩) rfl rfl rfl (RI.c (yQ (RE.rd (RE.cl (xG G_l_rings H_l_rings (hr.mono (by decide)) br (zS (zZ 3) zY)))))) (fun _ _ _ _=>xY) (fun _ _ _ _=>(zL zO yT T.g_len PySem.boot_len (zV (zZ 0) zY)))) zY)) (zZ 1))))))))))
theorem zZ1:zK ["asked","answer_v","way","order","openings","k","rings","found","ring"] ["asked","answer_v"] (zX vR):=⟨rfl,rfl,rfl,by decide +kernel,rfl,by decide +kernel,by decide +kernel⟩
theorem yZ7 (T:Txt K mg){f:Addr}{fd:FuncData}(h:Has K mg "_law_right" vR f fd ["asked","answer_v"]):FnOk P w K mg base (CXV P w) 4 f fd ["asked","answer_v"] (spX false vP):=by
 obtain⟨f_l_rings,fd_l_rings,H_l_rings⟩:=T.d_l_rings
 have G_l_rings:FnOk P w K mg base (CXV P w) 1 f_l_rings fd_l_rings ["order"] (spX true yB):=jT T H_l_rings
 obtain⟨f_l_blanks,fd_l_blanks,H_l_blanks⟩:=T.d_l_blanks
 have G_l_blanks:FnOk P w K mg base (CXV P w) 1 f_l_blanks fd_l_blanks ["some"] (spX false xJ):=bX T H_l_blanks
 obtain⟨f_l_need,fd_l_need,H_l_need⟩:=T.d_l_need
 have G_l_need:FnOk P w K mg base (CXV P w) 2 f_l_need fd_l_need ["order","k"] (spX false vL):=zS6 T H_l_need
 obtain⟨f_l_helped,fd_l_helped,H_l_helped⟩:=T.d_l_helped
 have G_l_helped:FnOk P w K mg base (CXV P w) 3 f_l_helped fd_l_helped ["order","k","answer_v"] (spX false qS):=zI4 T H_l_helped
 refine yZ [7] h.F zZ1 fun cdv A outer s H E hr => ?_
 have nd:=zZ1.nd
 have hu64:=hr.units
 have br:=zC (P:=P) (w:=w) (K:=K) (mg:=mg) (base:=base) (N:=["asked","answer_v","way","order","openings","k","rings","found","ring"]) (x:="_law_right") (sc:=zX vR) (f:=f) (cdv:=cdv) (A:=A) (outer:=outer) (s:=s) (H:=H) (E:=E) (om:=[7])
 exact (zT (zE5 (zZ 0) (yV3 rfl (vK (yM 2 nd) (vK (yM 3 nd) (vK (yM 4 nd) (vK (yM 5 nd) zG3)))))) (zT (yO 6 nd (RE.cl (xG G_l_rings H_l_rings (hr.mono (by decide)) br (zS (zZ 3) zY)))) (zT (yA (yW (xX hu64) xP (zZ 2) zP) (zQ (zI (gP (xX hu64) xP (zZ 1) (zM G_l_blanks H_l_blanks (hr.mono (by decide)) br (zS (RE.cl (xZ (sc0:=zX vR) (N0:=["asked","answer_v","way","order","openings","k","rings","found","ring"]) (fs:=[]) (js:=[]) (by exact⟨rfl,by decide +kernel,by decide +kernel,by decide +kernel,by decide +kernel,rfl,by decide +kernel,by decide +kernel⟩) rfl rfl rfl (RI.c (yQ (RE.rd (zZ 6)))) (fun _ _ _ _=>xY) (fun _ _ _ _=>(zL zO yT T.g_len PySem.boot_len (zV (zZ 0) zY))))) zY))))) yV) (zT (yA (yW (xX hu64) xP (zZ 2) zP) (zQ (zI (gP (xX hu64) xP (zZ 1) (yX yE vV T.g_str (by rfl) (zV (zM G_l_need H_l_need (hr.mono (by decide)) br (zS (zZ 3) (zS (zZ 5) zY))) zY))))) yV) (zT (yA (yW (xX hu64) xP (zZ 2) zP) (zQ (zI (zM G_l_helped H_l_helped (hr.mono (by decide)) br (zS (zZ 3) (zS (zZ 5) (zS (zZ 1) zY)))))) yV) (zT (wM 7 nd (xE zY)) (zT (wN (yQ (RE.rd (zZ 6))) (yM 8 nd) (zQ (aG 7 (xZ (sc0:=zX vR) (N0:=["asked","answer_v","way","order","openings","k","rings","found","ring"]) (fs:=["ring","openings"]) (js:=[8,4]) (by exact⟨rfl,by decide +kernel,by decide +kernel,by decide +kernel,by decide +kernel,rfl,by decide +kernel,by decide +kernel⟩) rfl rfl rfl (RI.c (yQ (RE.rd (zZ 8)))) (fun _ _ _ _=>(zW3 (yW kA kJ (zL zO yT T.g_len PySem.boot_len (zV (zZ 1) zY)) (yJ yU yK (zZ 2) (zZ 0))))) (fun _ _ _ _=>(zZ 0))))) PassesOwn.leaving) (zT (yA (yW (xX hu64) xP (zL zO yT T.g_len PySem.boot_len (zV (wV 7) zY)) zP) (zQ (zI (gP (xX hu64) xP (zZ 1) zH))) yV) (zQ (zI (gP (xX hu64) xP (zZ 1) (zM G_l_blanks H_l_blanks (hr.mono (by decide)) br (zS (RE.cl (zL jD zV5 T.g_sorted (by rfl) (zV (wV 7) zY))) zY)))))))))))))
theorem aF:zK ["some","found","rows"] ["some"] (zX vU):=⟨rfl,rfl,rfl,by decide +kernel,rfl,by decide +kernel,by decide +kernel⟩
theorem yY2 (T:Txt K mg){f:Addr}{fd:FuncData}(h:Has K mg "_law_sheet" vU f fd ["some"]):FnOk P w K mg base (CXV P w) 9 f fd ["some"] (spX false hX):=by
 obtain⟨f_answered,fd_answered,H_answered⟩:=T.d_answered
 have G_answered:FnOk P w K mg base (CXV P w) 8 f_answered fd_answered ["sheet"] (spX false jN):=zI3 T H_answered
 obtain⟨f_l_row,fd_l_row,H_l_row⟩:=T.d_l_row
 have G_l_row:FnOk P w K mg base (CXV P w) 3 f_l_row fd_l_row ["asked"] (spX false qK):=yM6 T H_l_row
 obtain⟨f_l_right,fd_l_right,H_l_right⟩:=T.d_l_right
 have G_l_right:FnOk P w K mg base (CXV P w) 4 f_l_right fd_l_right ["asked","answer_v"] (spX false vP):=yZ7 T H_l_right
 refine yZ [] h.F aF fun cdv A outer s H E hr => ?_
 have nd:=aF.nd
 have hu64:=hr.units
 have br:=zC (P:=P) (w:=w) (K:=K) (mg:=mg) (base:=base) (N:=["some","found","rows"]) (x:="_law_sheet") (sc:=zX vU) (f:=f) (cdv:=cdv) (A:=A) (outer:=outer) (s:=s) (H:=H) (E:=E) (om:=[])
 exact (zT (yO 1 nd (zM G_answered H_answered (hr.mono (by decide)) br (zS (yR PySem.F.slot_str_join PySem.F.type_str_join vF vD zH (xZ (sc0:=zX vU) (N0:=["some","found","rows"]) (fs:=[]) (js:=[]) (by exact⟨rfl,by decide +kernel,by decide +kernel,by decide +kernel,by decide +kernel,rfl,by decide +kernel,by decide +kernel⟩) rfl rfl rfl (RI.c (yQ (RE.rd (zZ 0)))) (fun _ _ _ _=>xY) (fun _ _ _ _=>(zM G_l_row H_l_row (hr.mono (by decide)) (qG fun _ _ h=>h) (zS (zZ 0) zY))))) zY))) (zT (yA (jC (gJ (xZ1 T.k_str T.g_isinstance T.g_str (by decide +kernel) (zZ 1)))) (zQ (zI kD)) yV) (zT (yO 2 nd (RE.cl (yR PySem.F.slot_str_split PySem.F.type_str_split uM uN (zZ 1) zH))) (zT (yA (yW (qZ hu64) jM (zL zO yT T.g_len PySem.boot_len (zV (zZ 2) zY)) (zL zO yT T.g_len PySem.boot_len (zV (zZ 0) zY))) (zQ (zI kD)) yV) (zQ (zI (zL (yX8 rfl) xS6 T.g_all (by rfl) (zV (xZ (sc0:=zX vU) (N0:=["some","found","rows"]) (fs:=["some","rows"]) (js:=[0,2]) (by exact⟨rfl,by decide +kernel,by decide +kernel,by decide +kernel,by decide +kernel,rfl,by decide +kernel,by decide +kernel⟩) rfl rfl rfl (RI.c (vT T.g_range (zV (zL zO yT T.g_len PySem.boot_len (zV (zZ 0) zY)) zY))) (fun _ _ _ _=>xY) (fun _ _ _ _=>(zM G_l_right H_l_right (hr.mono (by decide)) (qG fun _ _ h=>h) (zS (yJ yU yK (zZ 1) (zZ 0)) (zS (yJ yU yK (zZ 2) (zZ 0)) zY))))) zY))))))))
theorem yP3:zK ["script","some","at"] ["script"] (zX cO):=⟨rfl,rfl,rfl,by decide +kernel,rfl,by decide +kernel,by decide +kernel⟩
theorem xV7 (T:Txt K mg){f:Addr}{fd:FuncData}(h:Has K mg "law" cO f fd ["script"]):FnOk P w K mg base (CXV P w) 10 f fd ["script"] (spX false yZ6):=by
 obtain⟨f_l_asked,fd_l_asked,H_l_asked⟩:=T.d_l_asked
 have G_l_asked:FnOk P w K mg base (CXV P w) 2 f_l_asked fd_l_asked ["cell"] (spX false wL):=yY8 T H_l_asked
 obtain⟨f_l_sheet,fd_l_sheet,H_l_sheet⟩:=T.d_l_sheet
 have G_l_sheet:FnOk P w K mg base (CXV P w) 9 f_l_sheet fd_l_sheet ["some"] (spX false hX):=yY2 T H_l_sheet
 refine yZ [] h.F yP3 fun cdv A outer s H E hr => ?_
 have nd:=yP3.nd
 have hu64:=hr.units
 have br:=zC (P:=P) (w:=w) (K:=K) (mg:=mg) (base:=base) (N:=["script","some","at"]) (x:="law") (sc:=zX cO) (f:=f) (cdv:=cdv) (A:=A) (outer:=outer) (s:=s) (H:=H) (E:=E) (om:=[])
 exact (zT (zW1 1 nd (sc0:=zX cO) (N0:=["script","some","at"]) (fs:=[]) (js:=[]) (by exact⟨rfl,by decide +kernel,by decide +kernel,by decide +kernel,by decide +kernel,rfl,by decide +kernel,by decide +kernel⟩) rfl rfl rfl (RI.c (yQ (RE.rd (RE.cl (zB yF3 yA6 (xE (zS zP zY)) (yX dI zF1 T.g_list (by rfl) (zV (zZ 0) zY))))))) (fun _ _ _ _=>xY) (fun _ _ _ _=>(zM G_l_asked H_l_asked (hr.mono (by decide)) (qG fun _ _ h=>h) (zS (zZ 0) zY)))) (zT (wN (zS8 T.g_range (zV zP (zV (zL zO yT T.g_len PySem.boot_len (zV (zZ 1) zY)) (zV zP zY)))) (yM 2 nd) (zQ (yA (jC (gJ (zM G_l_sheet H_l_sheet (hr.mono (by decide)) br (zS (RE.cl (yP1 (zZ 1) (gR (zZ 2)) (gR (zB uT uW (zZ 2) zP)))) zY)))) (zQ (zI kD)) yV)) PassesOwn.leaving) (zQ (zI kD))))
end
end K53
namespace K53
open PySem L2 L2.L3 MR
def evA:=(And.intro (And.intro (And.intro (And.intro (And.intro (And.intro @xT7 (And.intro @yO8 @yO4)) (And.intro @xR3 (And.intro @zW6 @xZ8))) (And.intro (And.intro @xU4 (And.intro @xQ5 @xQ4)) (And.intro @xR5 (And.intro @xZ4 @xS5)))) (And.intro (And.intro (And.intro @xR6 (And.intro @xP4 @zY4)) (And.intro @xY7 (And.intro @xO3 @xQ7))) (And.intro (And.intro @xR7 (And.intro @xU6 @zQ8)) (And.intro (And.intro @xR9 @xQ6) (And.intro @xP1 @xO9))))) (And.intro (And.intro (And.intro (And.intro @xN1 (And.intro @xO7 @xO2)) (And.intro @zP4 (And.intro @eV0 @eVs))) (And.intro (And.intro @xO1 (And.intro @zP3 @zQ9)) (And.intro (And.intro @xQ9 @xY4) (And.intro @xP7 @zP2)))) (And.intro (And.intro (And.intro @zQ6 (And.intro @xO6 @xY2)) (And.intro @xY8 (And.intro @xR8 @zY9))) (And.intro (And.intro @xS9 (And.intro @xV9 @xX9)) (And.intro (And.intro @zP9 @zQ7) (And.intro @xP6 @xN3)))))) (And.intro (And.intro (And.intro (And.intro (And.intro @xN2 (And.intro @yB3 @xO4)) (And.intro @zP5 (And.intro @yI8 @yU2))) (And.intro (And.intro @yU8 (And.intro @aB @zW2)) (And.intro (And.intro @yL6 @yB7) (And.intro @xO8 @xR4)))) (And.intro (And.intro (And.intro @yF6 (And.intro @zP8 @xU8)) (And.intro @xV3 (And.intro @yA1 @xT4))) (And.intro (And.intro @xW2 (And.intro @xT8 @xV6)) (And.intro (And.intro @xZ5 @yA2) (And.intro @xU3 @mkL0))))) (And.intro (And.intro (And.intro (And.intro @mkL1 (And.intro @mkL2 @mkL3)) (And.intro @mkL4 (And.intro @mkT0 @mkT1))) (And.intro (And.intro @mkT2 (And.intro @mkT3 @Res.bind_ok)) (And.intro (And.intro @Res.bind_no @Res.bind_ex) (And.intro @Res.lft_some @Res.lft_none)))) (And.intro (And.intro (And.intro @Option.map_some.{0,0} (And.intro @Option.bind_some.{0,0} @List.set_cons_zero.{0})) (And.intro @List.set_cons_succ.{0} (And.intro @List.length_cons.{0} @List.length_nil.{0}))) (And.intro (And.intro @if_true.{1} (And.intro @if_false.{1} @Bool.false_eq_true)) (And.intro (And.intro @ite_true.{1} @ite_false.{1}) (And.intro @Bool.not_true @Bool.not_false)))))))
def rI' (r:List Nat):List Int:=r.map fun (b:Nat)=>(b:Int)
theorem zJ6 {n b:Nat}{xs:List Int}(o:Ord n xs) (hn:n<=1000) (hb:b<n):uZ [tI xs,.int b]=.ok (tI (rI' (ring n xs b))):=by
 show (gX [some (tI xs),some (.int b),none]).bind (fin false)=_
 unfold gX
 simp -implicitDefEqProofs only[(evA)]
 obtain⟨a1,a2,a3,a4⟩:=o.zD hb
 have last:∀i,atI ((List.range (i+1)).map fun j=>PyData.int ((it xs j b:Nat):Int)) (-1)=some (.int ((it xs i b:Nat):Int)):=fun i=>by
  rw[List.range_succ,List.map_append]
  exact yK9 _ _
 have nx:∀i,atI (xs.map PyData.int) ((it xs i b:Nat):Int)=some (.int ((it xs (i+1) b:Nat):Int)):=fun i=>by
  have hi:=o.wW hb i
  rw[gG,fQ (by rw[o.len];exact hi),o.gL hi]
  rfl
 obtain⟨ρ',e,rfl⟩:=xX1 (t:=b2 neD (e2 ixD (eV 0) (e2 ixD (eV 2) (e1 negD (eC (.int 1))))) (eV 1)) (b:=sM 2 appD (aC (e2 ixD (eV 0) (e2 ixD (eV 2) (e1 negD (eC (.int 1))))) aN))
  (fun i ρ=>ρ=[some (tI xs),some (.int b),some (.list ((List.range (i+1)).map fun j=>PyData.int ((it xs j b:Nat):Int)))]) (per n xs b-1) 1000000 [some (tI xs),some (.int b),some (.list [.int b])] rfl (by
   rintro i ρ hi rfl
   simp -implicitDefEqProofs only[(evA),last,nx,jE]
   have ne:=a4 (i+1) (by bv_omega) (by bv_omega)
   rw[decide_eq_false (by bv_omega)]
   refine⟨rfl,_,?_,rfl⟩
   simp -implicitDefEqProofs only[(evA),zN5 (l:=(List.range (i+1)).map fun j=>PyData.int ((it xs j b:Nat):Int)) (by rw[List.length_map,List.length_range];bv_omega)]
   congr 2
   simp only[List.range_succ,List.map_append,List.map_cons,List.map_nil]) (by
   rintro ρ rfl
   simp -implicitDefEqProofs only[(evA),last,nx,jE]
   rw[show per n xs b-1+1=per n xs b by bv_omega,a3,decide_eq_true rfl]
   rfl) (by bv_omega)
 rw[e]
 simp -implicitDefEqProofs only[(evA)]
 congr 2
 rw[show per n xs b-1+1=per n xs b by bv_omega]
 unfold rI' ring
 rw[List.map_map,List.map_map]
 rfl
abbrev ringsD (n:Nat) (xs:List Int) (m:Nat):List (List Int):=(rgs n xs m).map rI'
theorem uU {n:Nat}{xs:List Int}(o:Ord n xs) (hn:n<=1000):yP [tI xs]=.ok (rows (ringsD n xs n)):=by
 show (gC [some (tI xs),none,none,none,none,none]).bind (fin true)=_
 unfold gC
 simp -implicitDefEqProofs only[(evA),List.length_map,o.len,zM9 _ n hn,qJ hn,zR4]
 have cnt:∀m,m<=n->(rgs n xs m).length<=m:=by
  intro m
  induction m with
  | zero=>intro _;simp[rgs]
  | succ m ih =>
   intro h
   have:=ih (by bv_omega)
   rw[rgs]
   split
   ·bv_omega
   ·rw[List.length_append,List.length_singleton];bv_omega
 obtain⟨ρ',e,x,y,z,rfl⟩:=wD (g:=gN 3) (b:=sIf (tNt (tV (e2 ixD (eV 2) (eV 3)))) (sQ (sS 4 (eF uZ (aC (eV 0) (aC (eV 3) aN)))) (sQ (sM 1 appD (aC (eV 4) aN)) (sF (iS (eV 4)) (gN 5) (sI 2 (eV 5) (eC (.bool true)))))) sN)
  (fun i ρ=>∃x y z,ρ=[some (tI xs),some (rows (ringsD n xs i)),some (.list ((List.range n).map fun c=>.bool (has (rgs n xs i) c))),x,y,z]) ((List.range n).map fun (i:Nat)=>PyData.int (i:Int)) [some (tI xs),some (.list []),some (.list ((List.range n).map fun _=>.bool false)),none,none,none] ⟨none,none,none,rfl⟩ (by
   rintro i d ρ hd ⟨x,y,z,rfl⟩
   obtain⟨hi,rfl⟩:=cS hd
   cases hh:has (rgs n xs i) i with
   | true =>
    refine⟨_,[some (tI xs),some (rows (ringsD n xs i)),some (.list ((List.range n).map fun c=>.bool (has (rgs n xs i) c))),some (.int i),y,z],rfl,?_,some (.int i),y,z,?_⟩
    ·simp -implicitDefEqProofs only[(evA),zT1 hi,hh]
    ·unfold ringsD
     rw[rgs,if_pos hh]
   | false =>
    have hh':¬has (rgs n xs i) i=true:=by rw[hh];exact Bool.false_ne_true
    obtain⟨ρ2,e2,x2,rfl⟩:=wD (g:=gN 5) (b:=sI 2 (eV 5) (eC (.bool true)))
     (fun j ρ=>∃x,ρ=[some (tI xs),some (rows (ringsD n xs i ++ [rI' (ring n xs i)])),some (.list ((List.range n).map fun c=>.bool (has (rgs n xs i) c || ((ring n xs i).take j).contains c))),some (.int i),some (tI (rI' (ring n xs i))),x]) ((rI' (ring n xs i)).map PyData.int)
     [some (tI xs),some (rows (ringsD n xs i ++ [rI' (ring n xs i)])),some (.list ((List.range n).map fun c=>.bool (has (rgs n xs i) c))),some (.int i),some (tI (rI' (ring n xs i))),z] ⟨z,by simp⟩ (by
      rintro j d ρ hd ⟨x,rfl⟩
      unfold rI' at hd
      rw[List.map_map,List.getElem?_map] at hd
      obtain⟨m,hm,rfl⟩:=Option.map_eq_some_iff.mp hd
      have hmr:m∈ring n xs i:=List.mem_of_getElem? hm
      have hml:m<n:=o.jV hi (yY.mp hmr)
      refine⟨_,_,rfl,?_,some (.int m),rfl⟩
      simp -implicitDefEqProofs only[(evA),Function.comp,yZ5 hml]
      congr 6
      refine congrArg PyData.list (List.map_congr_left fun c _ => ?_)
      rw[List.take_succ,hm]
      by_cases ec:c=m
      ·subst ec
       rw[if_pos rfl]
       simp
      ·rw[if_neg ec]
       simp[ec])
    refine⟨_,_,rfl,?_,some (.int i),some (tI (rI' (ring n xs i))),x2,rfl⟩
    have e5:rows (ringsD n xs i)=.list ((ringsD n xs i).map tI):=rfl
    simp -implicitDefEqProofs only[(evA),zT1 hi,hh,zJ6 o hn hi,zN5 (l:=(ringsD n xs i).map tI) (d:=tI (rI' (ring n xs i))) (by rw[List.length_map,List.length_map];have:=cnt i (by bv_omega);bv_omega)]
    have e6:(ringsD n xs i).map tI ++ [tI (rI' (ring n xs i))]=(ringsD n xs i ++ [rI' (ring n xs i)]).map tI:=by rw[List.map_append];rfl
    rw[e6,e2]
    congr 2
    have e7:ringsD n xs (i+1)=ringsD n xs i ++ [rI' (ring n xs i)]:=by
     unfold ringsD
     rw[rgs,if_neg hh',List.map_append]
     rfl
    rw[e7]
    congr 4
    refine congrArg PyData.list (List.map_congr_left fun c _ => ?_)
    congr 1
    rw[rgs,if_neg hh']
    unfold has rI'
    rw[List.any_append,List.length_map,List.length_map,List.take_length]
    simp)
 rw[List.length_map,List.length_range] at e
 rw[e]
 rfl
theorem fR {n:Nat}{xs:List Int}:∀m,(rgs n xs m).length<=m
 | 0=>Nat.le_refl _
 | m+1=>by
  have:=fR (n:=n) (xs:=xs) m
  rw[rgs]
  split
  ·bv_omega
  ·rw[List.length_append];simp;bv_omega
structure Opn (n:Nat) (ops:List Int):Prop where
 len:ops.length=n
 bd:∀x∈ops,0<=x/\x<=n
theorem aU {n:Nat}{ops:List Int}(p:Opn n ops) (h1:1<=n) (h2:n<=60):vX [.int n,tI ops]=.ok (tI ops):=by
 show (uB [some (.int n),some (tI ops)]).bind (fin false)=_
 unfold uB
 have hne:ops ≠ []:=fun z=>by have:=p.len;rw[z] at this;simp at this;bv_omega
 have a1:=p.bd _ (zL4 hne)
 have a2:=p.bd _ (bP hne)
 simp -implicitDefEqProofs only[(evA),List.length_map,p.len,jE,yF5 hne,yB5 hne,decide_eq_true (show (1:Int)<=(n:Int) by bv_omega),decide_eq_true (show (n:Int)<=60 by bv_omega),decide_true,decide_eq_false (show ¬minL ops<0 by bv_omega),decide_eq_false (show ¬(n:Int)<maxL ops by bv_omega)]
theorem Opn.at {n:Nat}{ops:List Int}(q:Opn n ops){p:Nat}(h:p<n):0<=ops.getD p 0/\ops.getD p 0<=n:=q.bd _ (MR.getD_mem (by rw[q.len];exact h))
theorem zX8 {n:Nat}{ops:List Int}(q:Opn n ops){p:Nat}(h:p<n):atI (ops.map PyData.int) (p:Int)=some (.int ((ops.getD p 0).toNat:Int)):=by
 have:=q.at h
 rw[gG,fQ (by rw[q.len];exact h),Option.map_some]
 congr 2
 bv_omega
def fd (n:Nat) (xs ops:List Int) (p:Nat):Bool:=decide (per n xs p<=(ops.getD p 0).toNat)
def FN (n:Nat) (xs ops:List Int):List Int:=rI' ((List.range n).filter (fd n xs ops))
theorem dD {n:Nat}{xs:List Int}(o:Ord n xs):(rgs n xs n).flatten.Perm (List.range n):=by
 have k:=o.yG n (Nat.le_refl n)
 rw[List.perm_ext_iff_of_nodup k.nodup List.nodup_range]
 intro a
 rw[List.mem_range,List.mem_flatten]
 constructor
 ·rintro ⟨r,hr,ha⟩
  obtain⟨b,hb,rfl,_⟩:=k.each r hr
  exact o.jV hb (yY.mp ha)
 ·intro h
  exact k.cover a h
theorem bG {n:Nat}{xs:List Int}(o:Ord n xs):(rgs n xs n).flatten.length=n:=by
 rw[(dD o).length_eq,List.length_range]
theorem yI (l:List Nat):(rI' l).length=l.length:=by unfold rI';simp
theorem yX2 (a b:List Nat):rI' (a++b)=rI' a++rI' b:=by unfold rI';simp
theorem yX9 (n:Nat) (xs ops:List Int):(FN n xs ops).Pairwise (· <= ·):=by
 unfold FN rI'
 rw[List.pairwise_map]
 exact ((List.pairwise_lt_range (n:=n)).filter _).imp fun h=>by bv_omega
theorem zH6 {n:Nat}{xs ops:List Int}(o:Ord n xs):sortI (rI' ((rgs n xs n).flatten.filter (fd n xs ops)))=FN n xs ops :=
 bU ((jQ _).trans (((dD o).filter _).map _)) (jA _) (yX9 n xs ops)
abbrev fBody:Ev->Res Out:=sM 2 extD (aC (eComp (iS (eV 3)) (b2 geI (e2 ixD (eV 1) (eV 0)) (eB lenD (aC (eV 2) aN))) (eV 0) [1,3]) aN)
theorem yN8 {n b:Nat}{xs ops l:List Int}{od:D}(o:Ord n xs) (q:Opn n ops) (ho:od=tI ops\/od=lI ops) (hb:b<n) (hl:l.length+((ring n xs b).filter (fd n xs ops)).length<=1000) (hn:n<=1000) :
  fBody [some (tI xs),some od,some (lI l),some (tI (rI' (ring n xs b)))]=.ok (.nx [some (tI xs),some od,some (lI (l++rI' ((ring n xs b).filter (fd n xs ops)))),some (tI (rI' (ring n xs b)))]):=by
 have pb:=(o.zD hb).2.1
 have c1:eComp (iS (eV 3)) (b2 geI (e2 ixD (eV 1) (eV 0)) (eB lenD (aC (eV 2) aN))) (eV 0) [1,3] [some (tI xs),some od,some (lI l),some (tI (rI' (ring n xs b)))]=.ok (lI (rI' ((ring n xs b).filter (fd n xs ops)))):=by
  have:=gE (mi:=iS (eV 3)) (t:=b2 geI (e2 ixD (eV 1) (eV 0)) (eB lenD (aC (eV 2) aN))) (me:=eV 0) (js:=[1,3]) (ρ:=[some (tI xs),some od,some (lI l),some (tI (rI' (ring n xs b)))]) (fun c:Nat=>PyData.int (c:Int)) (fd n xs ops) (fun c:Nat=>PyData.int (c:Int)) (ring n xs b) (by
    simp -implicitDefEqProofs only[(evA)]
    unfold rI'
    rw[List.map_map]
    rfl) (by rw[zJ];bv_omega) (fun c hc=>by
    have hcn:=o.jV hb (yY.mp hc)
    have ep:=o.vQ hb (yY.mp hc)
    have ea:=zX8 q hcn
    have el:(rI' (ring n xs b)).length=per n xs c:=by rw[yI,zJ,ep]
    show b2 geI _ _ [some (.int (c:Int)),some od,some (tI (rI' (ring n xs b)))]=_
    rcases ho with rfl | rfl
    ·simp -implicitDefEqProofs only[(evA),ea,List.length_map,el]
     unfold fd
     congr 1
     rw[Bool.eq_iff_iff,decide_eq_true_iff,decide_eq_true_iff]
     bv_omega
    ·simp -implicitDefEqProofs only[(evA),ea,List.length_map,el]
     unfold fd
     congr 1
     rw[Bool.eq_iff_iff,decide_eq_true_iff,decide_eq_true_iff]
     bv_omega) fun c _ _=>rfl
  rw[this]
  unfold rI'
  simp only[lI,List.map_map,Function.comp_def]
 have e1:=zY7 (l:=l.map PyData.int) (k:=(rI' ((ring n xs b).filter (fd n xs ops))).map PyData.int) (d:=lI (rI' ((ring n xs b).filter (fd n xs ops)))) rfl (by rw[List.length_map,List.length_map,yI];exact hl)
 simp -implicitDefEqProofs only[(evA),c1,e1]
 simp only[lI,List.map_append]
theorem fLoop {n:Nat}{xs ops:List Int}{od:D}(o:Ord n xs) (q:Opn n ops) (ho:od=tI ops\/od=lI ops) (hn:n<=1000):∃y,L3.forM (gN 3) fBody ((ringsD n xs n).map tI) [some (tI xs),some od,some (.list []),none]=.ok (.nx [some (tI xs),some od,some (lI (rI' ((rgs n xs n).flatten.filter (fd n xs ops)))),y]):=by
 have k:=o.yG n (Nat.le_refl n)
 obtain⟨ρ',e,y,rfl⟩:=wD (g:=gN 3) (b:=fBody)
  (fun i ρ=>∃y,ρ=[some (tI xs),some od,some (lI (rI' (((rgs n xs n).take i).flatten.filter (fd n xs ops)))),y]) ((ringsD n xs n).map tI) [some (tI xs),some od,some (.list []),none] ⟨none,rfl⟩ (by
   rintro i d ρ hd ⟨y,rfl⟩
   unfold ringsD at hd
   rw[List.map_map,List.getElem?_map] at hd
   obtain⟨r,hr,rfl⟩:=Option.map_eq_some_iff.mp hd
   obtain⟨b,hb,rfl,_⟩:=k.each r (List.mem_of_getElem? hr)
   have tk:(rgs n xs n).take (i+1)=(rgs n xs n).take i ++ [ring n xs b]:=by rw[List.take_succ,hr];rfl
   have e1:((rgs n xs n).take (i+1)).flatten.filter (fd n xs ops)=((rgs n xs n).take i).flatten.filter (fd n xs ops)++(ring n xs b).filter (fd n xs ops):=by
    rw[tk,List.flatten_append,List.filter_append]
    simp
   have ln:(((rgs n xs n).take (i+1)).flatten.filter (fd n xs ops)).length<=n:=by
    refine Nat.le_trans (List.length_filter_le _ _) ?_
    have h:=congrArg (fun z=>(List.flatten z).length) (List.take_append_drop (i+1) (rgs n xs n))
    simp only[List.flatten_append,List.length_append,bG o] at h
    bv_omega
   rw[e1,List.length_append] at ln
   refine⟨_,_,rfl,yN8 o q ho hb (by rw[yI];bv_omega) hn,some (tI (rI' (ring n xs b))),?_⟩
   rw[e1,yX2])
 rw[List.length_map,List.length_map,List.take_length] at e
 exact⟨y,e⟩
theorem zA9 {n:Nat}{xs ops:List Int}(o:Ord n xs) (q:Opn n ops) (h1:1<=n) (h2:n<=60):kN [tI xs,tI ops]=.ok (tI (FN n xs ops)):=by
 show (cZ [some (tI xs),some (tI ops),none,none]).bind (fin false)=_
 unfold cZ
 obtain⟨y,fl⟩:=fLoop o q (.inl rfl) (show n<=1000 by bv_omega)
 simp -implicitDefEqProofs only[(evA),List.length_map,o.len,aU q h1 h2,uU o (show n<=1000 by bv_omega),fl]
 have ln:(rI' ((rgs n xs n).flatten.filter (fd n xs ops))).length<=63:=by
  rw[yI]
  have:=List.length_filter_le (fd n xs ops) (rgs n xs n).flatten
  rw[bG o] at this
  bv_omega
 simp -implicitDefEqProofs only[(evA),aR ln,zH6 o]
theorem yB4 {ys:List Int}:sortI ys=rg ys.length↔ys.Perm (rg ys.length):=by
 constructor
 ·intro h
  rw[<-h]
  exact (jQ ys).symm
 ·intro h
  exact bU ((jQ ys).trans h) (jA ys) (xQ2 _)
theorem yP8 {ns:List Int}(h:ns.length<=63):sortD [tI ns]=some (lI (sortI ns)):=by
 unfold sortD
 simp only[nsD,seqD,Option.bind_some,intsOf_map]
 rw[if_pos (by bv_omega)]
theorem zJ9 {d:D}{ys:List Int}(hd:d=lI ys\/d=tI ys):jL [d]=.ok (.bool (decide (1<=ys.length/\ys.length<=60/\ys.Perm (rg ys.length)))):=by
 show (fX [some d]).bind (fin false)=_
 unfold fX
 have ln:lenD [d]=some (.int (ys.length:Int)):=by
  rcases hd with rfl | rfl
  ·rw[zW2];simp only[yU2,Option.map_some,List.length_map]
  ·rw[zW2];simp only[yU8,Option.map_some,List.length_map]
 by_cases h1:1<=ys.length
 ·by_cases h2:ys.length<=60
  ·have sr:sortD [d]=some (lI (sortI ys)):=by
    rcases hd with rfl | rfl
    ·exact aR (by bv_omega)
    ·exact yP8 (by bv_omega)
   have d1:decide ((1:Int)<=(ys.length:Int))=true:=decide_eq_true (by bv_omega)
   have d2:decide ((ys.length:Int)<=60)=true:=decide_eq_true (by bv_omega)
   have rl:=yY3 (n:=ys.length) (by bv_omega)
   rw[show ((List.range ys.length).map fun (i:Nat)=>(i:Int))=rg ys.length from rfl] at rl
   simp -implicitDefEqProofs only[zQ8,zY9,zQ6,zP2,zP4,zQ9,zQ7,zP9,eV0,zP3,zP5,aB,zP8,zY4,Res.bind_ok,Res.lft_some,ln,d1,d2,sr,rl,xX2,if_true]
   congr 2
   rw[Bool.eq_iff_iff,decide_eq_true_iff,decide_eq_true_iff,yB4]
   exact⟨fun z=>⟨h1,h2,z⟩,fun z=>z.2.2⟩
  ·have d1:decide ((1:Int)<=(ys.length:Int))=true:=decide_eq_true (by bv_omega)
   have d2:decide ((ys.length:Int)<=60)=false:=decide_eq_false (by bv_omega)
   simp -implicitDefEqProofs only[zQ8,zY9,zQ6,zP2,zP4,zQ9,zQ7,zP9,eV0,zP3,zP5,aB,zP8,zY4,Res.bind_ok,Res.lft_some,ln,d1,d2,if_true,Bool.false_eq_true,if_false]
   congr 2
   symm
   exact decide_eq_false fun z=>h2 z.2.1
 ·have d1:decide ((1:Int)<=(ys.length:Int))=false:=decide_eq_false (by bv_omega)
  simp -implicitDefEqProofs only[zQ8,zY9,zQ6,zP2,zP4,zQ9,zQ7,zP9,eV0,zP3,zP5,aB,zP8,zY4,Res.bind_ok,Res.lft_some,ln,d1,Bool.false_eq_true,if_false]
  congr 2
  symm
  exact decide_eq_false fun z=>h1 z.1
theorem zX9 {xs:List Int}{a:Nat}(h:a<xs.length) (v:Int):setD (xs.map PyData.int) (.int (a:Int)) (.int v)=some ((xs.set a v).map PyData.int):=by
 unfold setD
 simp only
 rw[List.length_map,zE2 h,Option.map_some,List.map_set]
theorem zL7 (r:List Nat) (q:Nat):(rI' r).getD q 0=((r.getD q 0:Nat):Int):=by
 unfold rI'
 rw[List.getD,List.getD,List.getElem?_map]
 cases r[q]? <;> rfl
theorem pw_flat {rs:List (List Nat)}(h:rs.flatten.Nodup){i j:Nat}{r r':List Nat}(hi:rs[i]?=some r) (hj:rs[j]?=some r') (hij:i<j):∀x∈r,x∉r':=by
 obtain⟨li,ei⟩:=List.getElem?_eq_some_iff.mp hi
 obtain⟨lj,ej⟩:=List.getElem?_eq_some_iff.mp hj
 have:=List.pairwise_iff_getElem.mp (List.pairwise_flatten.mp h).2 i j li lj hij
 rw[ei,ej] at this
 exact fun x hx hx'=>this x hx x hx' rfl
theorem yM7 {r:List Nat}(h:r.Nodup){i j:Nat}(hi:i<r.length) (hj:j<r.length) (e:r.getD i 0=r.getD j 0):i=j:=by
 rw[List.getD,List.getD,List.getElem?_eq_getElem hi,List.getElem?_eq_getElem hj] at e
 exact (List.getElem_inj h).mp e
theorem xV {ys:List Int}{a b:Nat}{v:Int}(h:a<ys.length):(ys.set a v).getD b 0=if a=b then v else ys.getD b 0:=by
 rw[List.getD_eq_getElem?_getD,List.getElem?_set]
 by_cases e:a=b
 ·subst e
  rw[if_pos rfl,if_pos rfl,if_pos h]
  rfl
 ·rw[if_neg e,if_neg e,List.getD_eq_getElem?_getD]
def kx (l p:Nat):Nat:=if p=0 then l-1 else p-1
theorem yY7 {l p:Nat}(h:p<l):kx l p<l:=by unfold kx;split <;> bv_omega
theorem xY9 {l p q:Nat}(h:p<l) (h':q<l) (e:kx l p=kx l q):p=q:=by
 unfold kx at e
 split at e <;> split at e <;> bv_omega
theorem yC3 {l j:Nat}(h:j<l):kx l ((j+1)%l)=j:=by
 unfold kx
 by_cases e:j+1=l
 ·rw[e,Nat.mod_self,if_pos rfl]
  bv_omega
 ·rw[Nat.mod_eq_of_lt (by bv_omega),if_neg (by bv_omega)]
  bv_omega
theorem zH4 {n:Nat}{rs:List (List Nat)}(c:Can rs) (p:rs.flatten.Perm (List.range n)) (h1:1<=n) (h2:n<=60):∃xs,Ord n xs/\rgs n xs n=rs/\jR [rows (rs.map rI')]=.ok (tI xs):=by
 have nd:rs.flatten.Nodup:=p.nodup_iff.mpr List.nodup_range
 have lf:rs.flatten.length=n:=by rw[p.length_eq,List.length_range]
 have pos:∀r∈rs,0<r.length:=fun r hr=>by
  obtain⟨a,ys,rfl,_⟩:=c.1 r hr
  simp
 have rl:∀r∈rs,r.length<=n:=fun r hr=>by
  have:=(List.sublist_flatten_of_mem hr).length_le
  bv_omega
 have rn:∀r∈rs,∀x∈r,x<n:=fun r hr x hx=>List.mem_range.mp (p.mem_iff.mp (List.mem_flatten.mpr ⟨r,hr,hx⟩))
 have ll:rs.length<=n:=by
  have:∀L:List (List Nat),(∀r∈L,0<r.length)->L.length<=L.flatten.length:=fun L=>by
   induction L with
   | nil=>exact fun _=>Nat.le_refl _
   | cons r L ih =>
    intro h
    have a:=h r (List.mem_cons_self ..)
    have b:=ih fun r hr=>h r (List.mem_cons_of_mem _ hr)
    rw[List.length_cons,List.flatten_cons,List.length_append]
    bv_omega
  have:=this rs pos
  bv_omega
 have loop:∃ρ',L3.forM (gN 2) (sF (iR rng1 (aC (eB lenD (aC (eV 2) aN)) aN)) (gN 4) (sI 3 (e2 ixD (eV 2) (e2 subI (eV 4) (eC (.int 1)))) (e2 ixD (eV 2) (eV 4)))) ((rs.map rI').map tI) [some (rows (rs.map rI')),some (lI (rI' rs.flatten)),some (tI (rI' (rs.getLast?.getD []))),some (lI (List.replicate n 0)),none]=.ok (.nx ρ') /\
   ∃(ys:List Int) (x y:Option D),ys.length=n/\(∀r∈rs,∀q,q<r.length->ys.getD (r.getD (kx r.length q) 0) 0=((r.getD q 0:Nat):Int))/\ρ'=[some (rows (rs.map rI')),some (lI (rI' rs.flatten)),x,some (lI ys),y]:=by
  obtain⟨ρ',e,ys,x,y,hl,hy,rfl⟩:=wD (g:=gN 2) (b:=sF (iR rng1 (aC (eB lenD (aC (eV 2) aN)) aN)) (gN 4) (sI 3 (e2 ixD (eV 2) (e2 subI (eV 4) (eC (.int 1)))) (e2 ixD (eV 2) (eV 4))))
   (fun i ρ=>∃(ys:List Int) (x y:Option D),ys.length=n/\(∀i',i'<i->∀r,rs[i']?=some r->∀q,q<r.length->ys.getD (r.getD (kx r.length q) 0) 0=((r.getD q 0:Nat):Int))/\ρ=[some (rows (rs.map rI')),some (lI (rI' rs.flatten)),x,some (lI ys),y])
   ((rs.map rI').map tI) [some (rows (rs.map rI')),some (lI (rI' rs.flatten)),some (tI (rI' (rs.getLast?.getD []))),some (lI (List.replicate n 0)),none] ⟨List.replicate n 0,_,_,List.length_replicate,fun i' h=>absurd h (by bv_omega),rfl⟩ (by
    rintro i d ρ hd ⟨ys,x,y,hl,hy,rfl⟩
    rw[List.map_map,List.getElem?_map] at hd
    obtain⟨r,hr,rfl⟩:=Option.map_eq_some_iff.mp hd
    have mr:r∈rs:=List.mem_of_getElem? hr
    have r0:=pos r mr
    have r1:=rl r mr
    have nr:r.Nodup:=nd.sublist (List.sublist_flatten_of_mem mr)
    have lr:((rI' r).map PyData.int).length=r.length:=by rw[List.length_map,yI]
    have at':∀q,q<r.length->atI ((rI' r).map PyData.int) (q:Int)=some (.int ((r.getD q 0:Nat):Int)):=fun q hq=>by
     rw[zZ6 rfl (by rw[yI];exact hq),zL7]
    have at1:∀q,q<r.length->atI ((rI' r).map PyData.int) ((q:Int)-1)=some (.int ((r.getD (kx r.length q) 0:Nat):Int)):=fun q hq=>by
     unfold kx
     by_cases z:q=0
     ·subst z
      rw[if_pos rfl,show (((0:Nat):Int)-1)=-1 by bv_omega,zH5 (n:=r.length-1) (by rw[yI];bv_omega),zL7]
     ·rw[if_neg z,show ((q:Int)-1)=((q-1:Nat):Int) by bv_omega,zZ6 rfl (by rw[yI];bv_omega),zL7]
    obtain⟨ρ2,e2,zs,y2,hl2,hz,hz2,rfl⟩:=wD (g:=gN 4) (b:=sI 3 (e2 ixD (eV 2) (e2 subI (eV 4) (eC (.int 1)))) (e2 ixD (eV 2) (eV 4)))
     (fun q ρ=>∃(zs:List Int) (y:Option D),zs.length=n/\(∀i',i'<i->∀r,rs[i']?=some r->∀q,q<r.length->zs.getD (r.getD (kx r.length q) 0) 0=((r.getD q 0:Nat):Int))/\(∀q',q'<q->q'<r.length->zs.getD (r.getD (kx r.length q') 0) 0=((r.getD q' 0:Nat):Int))/\ρ=[some (rows (rs.map rI')),some (lI (rI' rs.flatten)),some (tI (rI' r)),some (lI zs),y])
     ((List.range r.length).map fun (i:Nat)=>PyData.int (i:Int)) [some (rows (rs.map rI')),some (lI (rI' rs.flatten)),some (tI (rI' r)),some (lI ys),y] ⟨ys,y,hl,hy,fun q' h=>absurd h (by bv_omega),rfl⟩ (by
      rintro q d ρ hd ⟨zs,y,hl,hz,hz2,rfl⟩
      obtain⟨hq,rfl⟩:=cS hd
      have kq:=yY7 hq
      have mk:=aQ kq
      have sd:=zX9 (xs:=zs) (a:=r.getD (kx r.length q) 0) (by rw[hl];exact rn r mr _ mk) ((r.getD q 0:Nat):Int)
      refine⟨_,_,rfl,?_,zs.set (r.getD (kx r.length q) 0) ((r.getD q 0:Nat):Int),some (.int (q:Int)),by rw[List.length_set,hl],?_,?_,rfl⟩
      ·simp -implicitDefEqProofs only[(evA),at' q hq,at1 q hq,sd]
      ·intro i' hi' r' hr' q' hq'
       have ne:¬r.getD (kx r.length q) 0=r'.getD (kx r'.length q') 0:=fun z=>pw_flat nd hr' hr hi' _ (aQ (yY7 hq')) (by rw[<-z];exact mk)
       rw[xV (by rw[hl];exact rn r mr _ mk),if_neg ne]
       exact hz i' hi' r' hr' q' hq'
      ·intro q' h1 h2
       rw[xV (by rw[hl];exact rn r mr _ mk)]
       by_cases z:q'=q
       ·subst z
        rw[if_pos rfl]
       ·have ne:¬r.getD (kx r.length q) 0=r.getD (kx r.length q') 0:=fun w=>z (xY9 hq h2 (yM7 nr kq (yY7 h2) w)).symm
        rw[if_neg ne]
        exact hz2 q' (by bv_omega) h2)
    refine⟨_,_,rfl,?_,zs,some (tI (rI' r)),y2,hl2,?_,rfl⟩
    ·show sF _ _ _ [some (rows (rs.map rI')),some (lI (rI' rs.flatten)),some (tI (rI' r)),some (lI ys),y]=_
     simp -implicitDefEqProofs only[(evA),lr,qJ (show r.length<=1000 by bv_omega)]
     exact e2
    ·rw[List.length_map,List.length_range] at hz2
     intro i' hi' r' hr' q' hq'
     by_cases z:i'=i
     ·subst z
      rw[hr] at hr'
      cases hr'
      exact hz2 q' hq' hq'
     ·exact hz i' (by bv_omega) r' hr' q' hq')
  refine⟨_,e,ys,x,y,hl,fun r hr q hq => ?_,rfl⟩
  obtain⟨i,hi,er⟩:=List.mem_iff_getElem.mp hr
  exact hy i (by rw[List.length_map,List.length_map];exact hi) r (by rw[List.getElem?_eq_getElem hi,er]) q hq
 obtain⟨ρ',e,ys,x,y,hl,hy,rfl⟩:=loop
 obtain⟨o,er⟩:=yE2 (xs:=ys) c p hl fun r hr j hj=>by
  have:=hy r hr ((j+1)%r.length) (Nat.mod_lt _ (by bv_omega))
  rw[yC3 hj] at this
  exact this
 refine⟨ys,o,er,?_⟩
 show (fM [some (rows (rs.map rI')),none,none,none,none]).bind (fin false)=_
 unfold fM
 simp -implicitDefEqProofs only[(evA)]
 refine cN (fun i ρ=>ρ=[some (rows (rs.map rI')),some (lI (rI' (rs.take i).flatten)),(if i=0 then none else some (tI (rI' ((rs.take i).getLast?.getD [])))),none,none]) rfl ?_ ?_
 ·rintro i d ρ hd rfl
  rw[List.map_map,List.getElem?_map] at hd
  obtain⟨r,hr,rfl⟩:=Option.map_eq_some_iff.mp hd
  have mr:r∈rs:=List.mem_of_getElem? hr
  have r0:=pos r mr
  have tk:rs.take (i+1)=rs.take i ++ [r]:=by rw[List.take_succ,hr];rfl
  have lr:((rI' r).map PyData.int).length=r.length:=by rw[List.length_map,yI]
  have lt:(rs.take i).flatten.length+r.length<=n:=by
   have a:(rs.take (i+1)).flatten.length<=rs.flatten.length:=by
    conv=>rhs;rw[<-List.take_append_drop (i+1) rs]
    rw[List.flatten_append,List.length_append]
    bv_omega
   rw[tk,List.flatten_append,List.length_append,show [r].flatten=r by simp] at a
   bv_omega
  have ex:=zY7 (l:=(rI' (rs.take i).flatten).map PyData.int) (k:=(rI' r).map PyData.int) (d:=tI (rI' r)) rfl (by rw[List.length_map,List.length_map,yI,yI];bv_omega)
  refine⟨_,_,rfl,?_,rfl⟩
  show (sQ _ _) [some (rows (rs.map rI')),some (lI (rI' (rs.take i).flatten)),some (tI (rI' r)),none,none]=_
  simp -implicitDefEqProofs only[(evA),lr,yH,decide_eq_false (show ¬((r.length:Nat):Int)=0 by bv_omega),ex]
  rw[if_neg (by bv_omega),tk,List.flatten_append,List.getLast?_append,show [r].flatten=r by simp,yX2,lI,List.map_append]
  rfl
 ·rintro ρ rfl
  rw[List.length_map,List.length_map,List.take_length]
  have io:=zJ9 (d:=lI (rI' rs.flatten)) (ys:=rI' rs.flatten) (.inl rfl)
  have pr:(rI' rs.flatten).Perm (rg n):=p.map _
  rw[decide_eq_true ⟨by rw[yI,lf];exact h1,by rw[yI,lf];exact h2,by rw[yI,lf];exact pr⟩] at io
  have r0:¬rs.length=0:=fun z=>by
   rw[List.eq_nil_of_length_eq_zero z] at lf
   simp at lf
   bv_omega
  rw[if_neg r0]
  have lb:((rI' rs.flatten).map PyData.int).length=n:=by rw[List.length_map,yI,lf]
  have rp:repL (.list [.int 0]) (.int ((n:Nat):Int))=some (lI (List.replicate n 0)):=by
   rw[zM9 _ _ (by bv_omega),lI,List.map_replicate]
  simp -implicitDefEqProofs only[(evA),io,show lfT false (PyData.bool true)=true by decide,lb,rp]
  rw[e]
  simp -implicitDefEqProofs only[(evA)]
theorem zD3 {n:Nat}{xs:List Int}(hl:xs.length=n){k:Int}(h1:1<=k) (h2:k<=n):wR [tI xs,.int k]=.ok .none:=by
 show (kT [some (tI xs),some (.int k)]).bind (fin false)=_
 unfold kT
 have hl':(xs.map PyData.int).length=n:=by rw[List.length_map,hl]
 simp -implicitDefEqProofs only[(evA),hl',decide_eq_true (show 0<=k by bv_omega),decide_eq_true h2,yH,decide_eq_false (show ¬k=0 by bv_omega)]
theorem zG7 (f:List Nat->Nat):∀L:List (List Nat),(L.map fun r=>((f r:Nat):Int)).sum=(((L.map f).sum:Nat):Int)
 | []=>rfl
 | r::L=>by rw[List.map_cons,List.sum_cons,zG7 f L,List.map_cons,List.sum_cons,Int.natCast_add]
theorem aW {n k:Nat}{xs:List Int}(o:Ord n xs) (hn:n<=60) (h1:1<=k) (h2:k<=60):vW [tI xs,.int (k:Int)]=.ok (.int ((ND n k xs:Nat):Int)):=by
 show (uE [some (tI xs),some (.int (k:Int))]).bind (fin false)=_
 unfold uE
 have lr:=fR (n:=n) (xs:=xs) n
 have cc:eComp (iS (eF yP (aC (eV 0) aN))) tYes (e2 fdivI (e2 subI (eB lenD (aC (eV 0) aN)) (eC (.int 1))) (eV 1)) [1] [some (tI xs),some (.int (k:Int))]=.ok (lI ((rgs n xs n).map fun r=>((fN k r.length:Nat):Int))):=by
  rw[yF (fun r:List Nat=>tI (rI' r)) (fun r=>PyData.int ((fN k r.length:Nat):Int)) (rgs n xs n) (by
   simp -implicitDefEqProofs only[(evA),uU o (show n<=1000 by bv_omega)]
   rw[List.map_map]
   rfl) (by bv_omega) fun r hr=>by
   obtain⟨b,hb,rfl,_⟩:=(o.yG n (Nat.le_refl n)).each r hr
   have p1:=(o.zD hb).1
   have hl:((rI' (ring n xs b)).map PyData.int).length=per n xs b:=by rw[List.length_map,yI,zJ]
   have dv:(((per n xs b:Nat):Int)-1) / (k:Int)=((fN k (ring n xs b).length:Nat):Int):=by
    rw[zJ,show ((per n xs b:Nat):Int)-1=((per n xs b-1:Nat):Int) by bv_omega]
    rfl
   show e2 fdivI _ _ [some (tI (rI' (ring n xs b))),some (.int (k:Int))]=_
   simp -implicitDefEqProofs only[(evA),hl,fdivO,if_pos (DivOk.small (show (0:Int)<(k:Int) by bv_omega) (by bv_omega)),dv]]
  rw[lI,List.map_map]
  rfl
 simp -implicitDefEqProofs only[(evA),cc,yG7]
 rw[zG7 (fun r=>fN k r.length)]
 rfl
theorem yE1 {n k:Nat}{xs:List Int}(o:Ord n xs) (hn:n<=60) (h1:1<=k) (h2:k<=n):zY6 [tI xs,.int (k:Int)]=.ok (.int ((ND n k xs:Nat):Int)):=by
 show (zJ2 [some (tI xs),some (.int (k:Int))]).bind (fin false)=_
 unfold zJ2
 simp -implicitDefEqProofs only[(evA),zD3 o.len (k:=(k:Int)) (by bv_omega) (by bv_omega),aW o hn h1 (show k<=60 by bv_omega)]
abbrev pL (q:Nat×Nat):List Int:=[((q.1:Nat):Int),((q.2:Nat):Int)]
theorem yS3:∀k:Nat,k<61->∀l:Nat,l<61->1<=k->StepOk (k:Int) (l:Int) (k:Int)/\Builtin.Range.rangeSize (k:Int) (l:Int) (k:Int)=((fN k l:Nat):Int):=by decide +kernel
theorem yR4 {k l:Nat}(h1:1<=k) (h2:k<=60) (h3:l<=60):rng3 [.int (k:Int),.int (l:Int),.int (k:Int)]=some ((List.range (fN k l)).map fun (m:Nat)=>PyData.int (((m+1)*k:Nat):Int)):=by
 obtain⟨ok,sz⟩:=yS3 k (Nat.lt_succ_of_le h2) l (Nat.lt_succ_of_le h3) h1
 unfold rng3
 simp only
 rw[if_pos ok,sz,Int.toNat_natCast]
 congr 1
 refine List.map_congr_left fun m _ => ?_
 congr 1
 rw[Nat.add_mul,Nat.one_mul,Int.natCast_add,Int.natCast_mul,Int.add_comm]
theorem zK1 {n k:Nat}{xs:List Int}(o:Ord n xs):∀j,(((rgs n xs n).take j).flatMap (pr k)).length<=n:=fun j=>by
 have a:∀L:List (List Nat),(L.flatMap (pr k)).length<=L.flatten.length:=fun L=>by
  induction L with
  | nil=>exact Nat.le_refl _
  | cons r L ih =>
   rw[List.flatMap_cons,List.length_append,List.flatten_cons,List.length_append]
   have:(pr k r).length<=r.length:=by
    unfold pr
    rw[List.length_map,List.length_range]
    exact Nat.le_trans (Nat.div_le_self ..) (Nat.sub_le ..)
   bv_omega
 have b:=a ((rgs n xs n).take j)
 have c:((rgs n xs n).take j).flatten.length<=(rgs n xs n).flatten.length:=by
  conv=>rhs;rw[<-List.take_append_drop j (rgs n xs n)]
  rw[List.flatten_append,List.length_append]
  bv_omega
 rw[(flatP o).length_eq,List.length_range] at c
 bv_omega
theorem zL1 {n k:Nat}{xs:List Int}(o:Ord n xs) (hn:n<=60) (h1:1<=k) (h2:k<=n):uQ [tI xs,.int (k:Int)]=.ok (rows ((told n k xs).map pL)):=by
 show (gZ [some (tI xs),some (.int (k:Int)),none,none]).bind (fin true)=_
 unfold gZ
 have er:=uU o (show n<=1000 by bv_omega)
 have lr:=fR (n:=n) (xs:=xs) n
 simp -implicitDefEqProofs only[(evA),zD3 o.len (k:=(k:Int)) (by bv_omega) (by bv_omega),er]
 refine cN (fun i ρ=>∃y,ρ=[some (tI xs),some (.int (k:Int)),some (rows ((((rgs n xs n).take i).flatMap (pr k)).map pL)),y]) ⟨none,rfl⟩ ?_ ?_
 ·rintro i d ρ hd ⟨y,rfl⟩
  rw[List.map_map,List.getElem?_map] at hd
  obtain⟨r,hr,rfl⟩:=Option.map_eq_some_iff.mp hd
  obtain⟨b,hb,rfl,_⟩:=(o.yG n (Nat.le_refl n)).each r (List.mem_of_getElem? hr)
  obtain⟨p1,p2,_,_⟩:=o.zD hb
  have e1:(rgs n xs n).take (i+1)=(rgs n xs n).take i ++ [ring n xs b]:=by rw[List.take_succ,hr];rfl
  have few:=zK1 (k:=k) o (i+1)
  rw[e1,List.flatMap_append,List.length_append] at few
  have hl:((rI' (ring n xs b)).map PyData.int).length=per n xs b:=by rw[List.length_map,yI,zJ]
  have at':∀q,q<per n xs b->atI ((rI' (ring n xs b)).map PyData.int) (q:Int)=some (.int (((ring n xs b).getD q 0:Nat):Int)):=fun q hq=>by
   refine jF ?_
   unfold rI'
   rw[List.map_map,List.getElem?_map,List.getD,List.getElem?_eq_getElem (by rw[zJ];exact hq)]
   rfl
  have cc:eComp (iR rng3 (aC (eV 1) (aC (eB lenD (aC (eV 3) aN)) (aC (eV 1) aN)))) tYes (eB mkT (aC (e2 ixD (eV 1) (eC (.int 0))) (aC (e2 ixD (eV 1) (eV 0)) aN))) [3] [some (tI xs),some (.int (k:Int)),some (rows ((((rgs n xs n).take i).flatMap (pr k)).map pL)),some (tI (rI' (ring n xs b)))]=.ok (rows ((pr k (ring n xs b)).map pL)):=by
   rw[yF (fun m:Nat=>PyData.int (((m+1)*k:Nat):Int)) (fun m:Nat=>tI (pL ((ring n xs b).getD 0 0,(ring n xs b).getD ((m+1)*k) 0))) (List.range (fN k (per n xs b))) (by simp -implicitDefEqProofs only[(evA),hl,yR4 h1 (show k<=60 by bv_omega) (show per n xs b<=60 by bv_omega)]) (by rw[List.length_range];have:fN k (per n xs b)<=per n xs b:=Nat.le_trans (Nat.div_le_self ..) (Nat.sub_le ..);bv_omega) (fun m hm=>by
    have lt:=aK h1 (List.mem_range.mp hm)
    have z0:=at' 0 (by bv_omega)
    have z1:=at' ((m+1)*k) lt
    have z0':atI ((rI' (ring n xs b)).map PyData.int) 0=some (.int (((ring n xs b).getD 0 0:Nat):Int)):=z0
    show eB mkT (aC (e2 ixD (eV 1) (eC (.int 0))) (aC (e2 ixD (eV 1) (eV 0)) aN)) [some (.int (((m+1)*k:Nat):Int)),some (tI (rI' (ring n xs b)))]=_
    simp -implicitDefEqProofs only[(evA),z0',z1]
    rfl)]
   unfold pr
   rw[zJ,rows,List.map_map,List.map_map]
   rfl
  refine⟨_,_,rfl,?_,some (tI (rI' (ring n xs b))),rfl⟩
  show sM 2 extD _ [some (tI xs),some (.int (k:Int)),some (rows ((((rgs n xs n).take i).flatMap (pr k)).map pL)),some (tI (rI' (ring n xs b)))]=_
  have ex:=zY7 (l:=((((rgs n xs n).take i).flatMap (pr k)).map pL).map tI) (k:=((pr k (ring n xs b)).map pL).map tI) (d:=rows ((pr k (ring n xs b)).map pL)) rfl (by
   rw[List.length_map,List.length_map,List.length_map,List.length_map]
   have z:([ring n xs b].flatMap (pr k)).length=(pr k (ring n xs b)).length:=by simp
   bv_omega)
  simp -implicitDefEqProofs only[(evA),cc,ex]
  rw[e1,List.flatMap_append,List.map_append,rows,List.map_append]
  simp
 ·rintro ρ ⟨y,rfl⟩
  rw[List.length_map,List.length_map,List.take_length]
  simp -implicitDefEqProofs only[(evA)]
  rfl
theorem gD {n:Nat}{xs:List Int}(o:Ord n xs) (hn:n<=400):yB [tI xs]=.ok (.list ((rgs n xs n).map fun r=>lI (rI' r))):=yQ7 o hn
theorem yI9 {k l:Nat}(hk:1<=k) (h:k<l):fN k l=fN k (l-k)+1:=by
 unfold fN
 rw[show l-1=l-k-1+k by bv_omega,Nat.add_div_right _ (by bv_omega)]
theorem yO3 {k l:Nat}(h:l<=k):fN k l=0\/k=0:=by
 rcases Nat.eq_zero_or_pos k with z | z
 ·exact .inr z
 ·exact .inl (Nat.div_eq_of_lt (by bv_omega))
theorem zS5 (k:Nat) (hk:1<=k) (O K' R:Option D) (hK:K'=some (.int (k:Int))):∀(fuel l f:Nat),l<fuel->∃l':Int,whM (b2 gtI (eV 4) (eV 1)) (sQ (sS 4 (e2 subI (eV 4) (eV 1))) (sS 2 (e2 addI (eV 2) (eC (.int 1))))) fuel [O,K',some (.int (f:Int)),R,some (.int (l:Int))]=.ok (.nx [O,K',some (.int ((f+fN k l:Nat):Int)),R,some (.int l')])
 | 0,l,f,h=>absurd h (by bv_omega)
 | fuel+1,l,f,h=>by
  subst hK
  rw[whM]
  by_cases c:k<l
  ·obtain⟨l',e⟩:=zS5 k hk O _ R rfl fuel (l-k) (f+1) (by bv_omega)
   refine⟨l',?_⟩
   have e1:(l:Int)-(k:Int)=((l-k:Nat):Int):=by bv_omega
   have e2':(f:Int)+1=((f+1:Nat):Int):=by bv_omega
   simp -implicitDefEqProofs only[(evA),decide_eq_true (show (k:Int)<(l:Int) by bv_omega),e1,e2',e]
   rw[show f+1+fN k (l-k)=f+fN k l by rw[yI9 hk c];bv_omega]
  ·refine⟨(l:Int),?_⟩
   simp -implicitDefEqProofs only[(evA),decide_eq_false (show ¬(k:Int)<(l:Int) by bv_omega)]
   rcases yO3 (show l<=k by bv_omega) with z | z
   ·rw[z,Nat.add_zero]
   ·bv_omega
theorem zU4 {n k:Nat}{xs:List Int}(o:Ord n xs) (hn:n<=60) (h1:1<=k):vL [tI xs,.int (k:Int)]=.ok (.int ((ND n k xs:Nat):Int)):=by
 show (aP [some (tI xs),some (.int (k:Int)),none,none,none]).bind (fin false)=_
 unfold aP
 simp -implicitDefEqProofs only[(evA),gD o (show n<=400 by bv_omega)]
 refine cN (fun i ρ=>∃x y,ρ=[some (tI xs),some (.int (k:Int)),some (.int (((((rgs n xs n).take i).map fun r=>fN k r.length).sum:Nat):Int)),x,y]) ⟨none,none,rfl⟩ ?_ ?_
 ·rintro i d ρ hd ⟨x,y,rfl⟩
  rw[List.getElem?_map] at hd
  obtain⟨r,hr,rfl⟩:=Option.map_eq_some_iff.mp hd
  obtain⟨b,hb,er,_⟩:=(o.yG n (Nat.le_refl n)).each r (List.mem_of_getElem? hr)
  have hl:((rI' r).map PyData.int).length=r.length:=by rw[List.length_map];unfold rI';rw[List.length_map]
  have pl:r.length<=60:=by rw[er,zJ];have:=(o.zD hb).2.1;bv_omega
  obtain⟨l',e⟩:=zS5 k h1 (some (tI xs)) _ (some (lI (rI' r))) rfl 1000000 r.length ((((rgs n xs n).take i).map fun r=>fN k r.length).sum) (by bv_omega)
  refine⟨_,_,rfl,?_,some (lI (rI' r)),some (.int l'),rfl⟩
  simp -implicitDefEqProofs only[(evA),hl,e]
  have e1:(rgs n xs n).take (i+1)=(rgs n xs n).take i ++ [r]:=by rw[List.take_succ,hr];rfl
  rw[e1,List.map_append,List.sum_append]
  simp only[List.map_cons,List.map_nil,List.sum_cons,List.sum_nil,Nat.add_zero]
 ·rintro ρ ⟨x,y,rfl⟩
  rw[List.length_map,List.take_length]
  simp -implicitDefEqProofs only[(evA)]
  rfl
theorem yC8 {n k:Nat}{xs:List Int}(o:Ord n xs) (h0:1<=n) (h1:1<=k):k*ND n k xs<=n-1:=by
 have key:∀L:List (List Nat),(∀r∈L,1<=r.length)->k*(L.map fun r=>fN k r.length).sum+L.length<=L.flatten.length:=by
  intro L
  induction L with
  | nil=>intro _;simp
  | cons r L ih =>
   intro h
   have a:=ih fun r hr=>h r (List.mem_cons_of_mem _ hr)
   have b:=h r (List.mem_cons_self ..)
   have c:k*fN k r.length<=r.length-1:=Nat.mul_div_le _ _
   rw[List.map_cons,List.sum_cons,List.flatten_cons,List.length_append,List.length_cons,Nat.mul_add]
   bv_omega
 have ok:=o.yG n (Nat.le_refl n)
 have q:=key (rgs n xs n) fun r hr=>by
  obtain⟨b,hb,rfl,_⟩:=ok.each r hr
  rw[zJ]
  exact (o.zD hb).1
 have fl:=flatN o (Nat.le_refl n)
 obtain⟨r,hr,_⟩:=ok.cover 0 (by bv_omega)
 have lp:=List.length_pos_of_mem hr
 unfold ND
 bv_omega
theorem yE3 {n k:Nat}{xs:List Int}(o:Ord n xs) (h0:1<=n) (h1:1<=k):decide (maxL ((rgs n xs n).map fun r=>((r.length:Nat):Int))<=(k:Int))=decide (ND n k xs=0):=by
 have ok:=o.yG n (Nat.le_refl n)
 obtain⟨r0,hr0,_⟩:=ok.cover 0 (by bv_omega)
 rw[decide_eq_decide,yT3 o h1]
 constructor
 ·intro h b hb
  obtain⟨r,hr,hbr⟩:=ok.cover b hb
  have:=zE7 (List.mem_map.mpr ⟨r,hr,rfl⟩:((r.length:Nat):Int)∈(rgs n xs n).map fun r=>((r.length:Nat):Int))
  obtain⟨c,hc,rfl,_⟩:=ok.each r hr
  rw[zJ] at this
  rw[o.vQ hc (yY.mp hbr)]
  bv_omega
 ·intro h
  have m:=bP (ns:=(rgs n xs n).map fun r=>((r.length:Nat):Int)) (fun z=>by
   have:=List.map_eq_nil_iff.mp z
   rw[this] at hr0
   cases hr0)
  obtain⟨r,hr,e⟩:=List.mem_map.mp m
  obtain⟨c,hc,rfl,_⟩:=ok.each r hr
  rw[<-e,zJ]
  exact_mod_cast h c hc
theorem yU1 {n k:Nat}{xs:List Int}(o:Ord n xs) (hk:1<=k):∀q∈told n k xs,q.1<q.2:=fun q hq=>by
 have ne:=(zW5 o hk q hq).2.2
 have ok:=o.yG n (Nat.le_refl n)
 unfold told at hq
 obtain⟨r,hr,hq⟩:=List.mem_flatMap.mp hq
 obtain⟨b,hb,rfl,mn⟩:=ok.each r hr
 unfold pr at hq
 obtain⟨m,hm,rfl⟩:=List.mem_map.mp hq
 have hm:=List.mem_range.mp hm
 rw[zJ] at hm
 have lt:=aK hk hm
 have p1:=(o.zD hb).1
 have e1:(ring n xs b).getD 0 0=b:=vS (by bv_omega)
 have e2:(ring n xs b).getD ((m+1)*k) 0=it xs ((m+1)*k) b:=vS lt
 have le:=mn _ (o.uP hb ((m+1)*k))
 have ne':(ring n xs b).getD 0 0≠(ring n xs b).getD ((m+1)*k) 0:=ne
 show (ring n xs b).getD 0 0<(ring n xs b).getD ((m+1)*k) 0
 bv_omega
theorem zC7 (c:Int) (n:Nat) (hn:n<=1000):kI [.int c,.int n]=.ok (tI (lawOrd c n).1):=by
 show (cV [some (.int c),some (.int n),none,none]).bind (fin false)=_
 unfold cV
 simp -implicitDefEqProofs only[(evA),qJ hn]
 obtain⟨ρ',e,x,rfl⟩:=wD (g:=gN 3) (b:=sQ (sM 2 insD (aC (e2 modI (eV 0) (e2 addI (eV 3) (eC (.int 1)))) (aC (eV 3) aN))) (sS 0 (e2 fdivI (eV 0) (e2 addI (eV 3) (eC (.int 1))))))
  (fun i ρ=>∃x,ρ=[some (.int (lawOrd c i).2),some (.int n),some (lI (lawOrd c i).1),x]) ((List.range n).map fun (i:Nat)=>PyData.int (i:Int)) [some (.int c),some (.int n),some (.list []),none] ⟨none,rfl⟩ (by
   rintro i d ρ hd ⟨x,rfl⟩
   obtain⟨hi,rfl⟩:=cS hd
   refine⟨_,_,rfl,?_,some (.int i),rfl⟩
   have hl:(lawOrd c i).1.length=i:=(aM c i).len
   have h1:(0:Int)<(i:Int)+1:=by bv_omega
   have h2:=Int.emod_nonneg (lawOrd c i).2 (show ((i:Int)+1)≠0 by bv_omega)
   have h3:=Int.emod_lt_of_pos (lawOrd c i).2 h1
   simp -implicitDefEqProofs only[(evA),modO,fdivO,if_pos h1,if_pos (DivOk.small h1 (by bv_omega)),xS2 (l:=(lawOrd c i).1.map PyData.int) (d:=.int i) h2 (by rw[List.length_map,hl];bv_omega) (by rw[List.length_map,hl];bv_omega)]
   simp only[lawOrd,insAt,lI,List.map_append,List.map_cons,List.map_take,List.map_drop])
 rw[List.length_map,List.length_range] at e
 rw[e]
 rfl
theorem zR3 (c:Int){n:Nat}(h2:n<=60):∃ops,Opn n ops/\qW [.int c,.int n]=.ok (tI ops):=by
 have key:∃ops c' x,Opn n ops/\L3.forM (gN 3) (sQ (sM 2 appD (aC (e2 modI (eV 0) (e2 addI (eV 1) (eC (.int 1)))) aN)) (sS 0 (e2 fdivI (eV 0) (e2 addI (eV 1) (eC (.int 1)))))) ((List.range n).map fun (i:Nat)=>PyData.int (i:Int)) [some (.int c),some (.int n),some (.list []),none]=.ok (.nx [some (.int c'),some (.int n),some (lI ops),x]):=by
  obtain⟨ρ',e,c',ops,x,rfl,hl,hb⟩:=wD (g:=gN 3) (b:=sQ (sM 2 appD (aC (e2 modI (eV 0) (e2 addI (eV 1) (eC (.int 1)))) aN)) (sS 0 (e2 fdivI (eV 0) (e2 addI (eV 1) (eC (.int 1))))))
   (fun i ρ=>∃c' ops x,ρ=[some (.int c'),some (.int n),some (lI ops),x]/\ops.length=i/\∀y∈ops,0<=y/\y<=(n:Int)) ((List.range n).map fun (i:Nat)=>PyData.int (i:Int)) [some (.int c),some (.int n),some (.list []),none] ⟨c,[],none,rfl,rfl,fun y h=>nomatch h⟩ (by
    rintro i d ρ hd ⟨c',ops,x,rfl,hl,hb⟩
    obtain⟨hi,rfl⟩:=cS hd
    have h0:(0:Int)<(n:Int)+1:=by bv_omega
    have m1:=Int.emod_nonneg c' (show ((n:Int)+1)≠0 by bv_omega)
    have m2:=Int.emod_lt_of_pos c' h0
    refine⟨_,_,rfl,?_,c' / ((n:Int)+1),ops ++ [c'%((n:Int)+1)],some (.int i),rfl,by rw[List.length_append,hl];rfl,fun y hy => ?_⟩
    ·simp -implicitDefEqProofs only[(evA),modO,fdivO,if_pos h0,if_pos (DivOk.small h0 (by bv_omega)),zN5 (l:=ops.map PyData.int) (by rw[List.length_map];bv_omega)]
     simp only[lI,List.map_append,List.map_cons,List.map_nil]
    ·rcases List.mem_append.mp hy with hy | hy
     ·exact hb y hy
     ·have:y=c'%((n:Int)+1):=by simpa using hy
      bv_omega)
  rw[List.length_map,List.length_range] at hl
  exact⟨ops,c',x,⟨hl,hb⟩,e⟩
 obtain⟨ops,c',x,hO,e⟩:=key
 refine⟨ops,hO,?_⟩
 show (jB [some (.int c),some (.int n),none,none]).bind (fin false)=_
 unfold jB
 simp -implicitDefEqProofs only[(evA),qJ (show n<=1000 by bv_omega),e]
def numT (b:Nat):Str:=toString (b:Int)
def rT (r:List Nat):Str:=Str.join " " (r.map numT)
def wT (r:List Nat):Str:="("++rT r ++ ")"
def ordT (n:Nat) (xs:List Int):Str:=Str.join "" ((rgs n xs n).map wT)
theorem yC:∀b,b<61->((numT b).length<=2/\Txt.isdigit (numT b)=true/\(Txt.startswith (numT b) "0" = false\/numT b="0")/\PySem.intText? (numT b)=some (b:Int))/\41∉tl (numT b)/\32∉tl (numT b)/\((b:Int).natAbs.log2<1920)/\PyData.strOk (numT b)=true:=by decide +kernel
theorem gQ {sep:Str}{ts:List Str}(hs:sep.length<=2) (hl:ts.length<=60) (ht:∀t∈ts,t.length<=200):JoinOk sep ts=true/\(Str.join sep ts).length<=202*ts.length:=by
 have h1:=Nat.mul_le_mul_right 200 hl
 have h2:=Nat.mul_le_mul_left ts.length hs
 refine⟨?_,?_⟩
 ·unfold JoinOk
  rw[StrLaws.joinFits ht (by bv_omega)]
  rfl
 ·have a:=StrLaws.join_length_le sep ts
  have b:=StrLaws.sumLen_le ts ht
  bv_omega
theorem qQ {sep:Str}{ts:List Str}(h:JoinOk sep ts=true):joinD sep (.list (ts.map PyData.str))=some (.str (Str.join sep ts)):=by
 unfold joinD
 rw[show lstD (.list (ts.map PyData.str))=some (ts.map PyData.str) from rfl,Option.bind_some,zY8,Option.bind_some,if_pos h]
theorem jU {z:Str}(h:PyData.strOk z=true):SeqAt.shaped (.str z)=true:=by
 unfold SeqAt.shaped
 rw[PyData.canLay0,PyData.depth,h]
 rfl
theorem gS {a b:Str}(ha:PyData.strOk a=true) (hb:PyData.strOk b=true):neD (.str a) (.str b)=some (!decide (a=b)):=by
 unfold neD
 rw[if_pos ⟨jU ha,jU hb⟩,PyData.eqv]
 by_cases e:a=b <;> simp[e]
theorem zG1 {a b:Str}(ha:PyData.strOk a=true) (hb:PyData.strOk b=true):eqD (.str a) (.str b)=some (decide (a=b)):=by
 unfold eqD
 rw[if_pos ⟨jU ha,jU hb⟩,PyData.eqv]
 by_cases e:a=b <;> simp[e]
theorem yD6 {z:Str}:PyData.strOk z=true ↔ ∀c∈tl z,c<1114112:=by
 unfold PyData.strOk tl
 rw[<-Array.all_toList,List.all_eq_true]
 exact⟨fun h c hc=>of_decide_eq_true (h c hc),fun h c hc=>decide_eq_true (h c hc)⟩
theorem jI {a b:Str}(ha:PyData.strOk a=true) (hb:PyData.strOk b=true):PyData.strOk (a++b)=true:=by
 rw[yD6] at ha hb ⊢
 intro c hc
 rw[yN] at hc
 rcases List.mem_append.mp hc with h | h
 ·exact ha c h
 ·exact hb c h
theorem qL {y:Str}(hy:PyData.strOk y=true):∀ts:List Str,(∀t∈ts,PyData.strOk t=true)->PyData.strOk (Str.join y ts)=true
 | [],_=>(by decide +kernel:PyData.strOk Str.empty=true)
 | [t],h=>h t List.mem_cons_self
 | t::u::r,h=>by
  rw[vI]
  exact jI (jI (h t List.mem_cons_self) hy) (qL hy (u::r) fun x hx=>h x (List.mem_cons_of_mem _ hx))
theorem wI:100000<=sizeLine:=by decide
theorem qA {r:List Nat}(hr:∀x∈r,x<61) (hl:r.length<=60):(rT r).length<=180:=by
 have a:=StrLaws.join_length_le " " (r.map numT)
 have b:=StrLaws.sumLen_le (B:=2) (r.map numT) fun y hy=>by
  obtain⟨x,hx,rfl⟩:=List.mem_map.mp hy
  exact (yC x (hr x hx)).1.1
 rw[List.length_map] at a b
 have c:(" ":Str).length=1:=rfl
 unfold rT
 rw[c] at a
 bv_omega
theorem fL {r:List Nat}{d:D}(hd:d=tI (rI' r)\/d=lI (rI' r)) (hr:∀x∈r,x<61) (hl:r.length<=60):eComp (iS (eV 0)) tYes (eB strOfD (aC (eV 0) aN)) [] [some d]=.ok (.list ((r.map numT).map PyData.str)):=by
 rw[List.map_map]
 refine yF (fun b:Nat=>PyData.int (b:Int)) (fun b=>PyData.str (numT b)) r (by
  rcases hd with rfl | rfl
  ·simp -implicitDefEqProofs only[(evA)]
   unfold rI'
   rw[List.map_map]
   rfl
  ·simp -implicitDefEqProofs only[(evA)]
   unfold rI'
   rw[List.map_map]
   rfl) (by bv_omega) fun b hb => ?_
 have h:=yC b (hr b hb)
 show eB strOfD (aC (eV 0) aN) [some (.int (b:Int))]=_
 have e:strOfD [.int (b:Int)]=some (.str (numT b)):=if_pos h.2.2.2.1
 simp -implicitDefEqProofs only[(evA),e]
theorem bL {r:List Nat}(hr:∀x∈r,x<61) (hl:r.length<=60):joinD " " (.list ((r.map numT).map PyData.str))=some (.str (rT r)):=by
 refine qQ (gQ (by decide) (by rw[List.length_map];exact hl) fun t ht => ?_).1
 obtain⟨x,hx,rfl⟩:=List.mem_map.mp ht
 have:=(yC x (hr x hx)).1.1
 bv_omega
theorem qY {r:List Nat}{d:D}(hd:d=tI (rI' r)\/d=lI (rI' r)) (hr:∀x∈r,x<61) (hl:r.length<=60):xN [d]=.ok (.str (rT r)):=by
 show (qN [some d]).bind (fin false)=_
 unfold qN
 simp -implicitDefEqProofs only[(evA),xU,yS,fL hd hr hl,bL hr hl]
theorem zJ3 {r:List Nat}(hr:∀x∈r,x<61) (hl:r.length<=60):wC [tI (rI' r)]=.ok (.str (wT r)):=by
 have l:=qA hr hl
 have c:("(":Str).length+(rT r).length+(")":Str).length<=sizeLine:=by
  have c1:("(":Str).length=1:=rfl
  have c2:(")":Str).length=1:=rfl
  have:=wI
  bv_omega
 have e:filD "(" ")" (.str (rT r))=some (.str (wT r)):=by
  unfold filD
  rw[yS,Option.bind_some,if_pos c]
  rfl
 show (gU [some (tI (rI' r)),none]).bind (fin false)=_
 unfold gU
 simp -implicitDefEqProofs only[(evA),qY (.inl rfl) hr hl,e]
structure Rs (rs:List (List Nat)):Prop where
 few:rs.length<=60
 ne:rs ≠ []
 ring:∀r∈rs,(∀x∈r,x<61)/\r.length<=60/\r ≠ []
theorem zP1 {n:Nat}{xs:List Int}(o:Ord n xs) (h1:1<=n) (h2:n<=60):Rs (rgs n xs n):=by
 have p:=flatP o
 have c:=zD1 o
 have ne:∀r∈rgs n xs n,r ≠ []:=fun r hr=>by
  obtain⟨a,ys,rfl,_⟩:=c.1 r hr
  exact fun z=>nomatch z
 have lf:(rgs n xs n).flatten.length=n:=by rw[p.length_eq,List.length_range]
 have few:∀L:List (List Nat),(∀r∈L,r ≠ [])->L.length<=L.flatten.length:=fun L=>by
  induction L with
  | nil=>exact fun _=>Nat.le_refl _
  | cons r L ih =>
   intro h
   have a:=List.length_pos_iff.mpr (h r List.mem_cons_self)
   have b:=ih fun r hr=>h r (List.mem_cons_of_mem _ hr)
   rw[List.length_cons,List.flatten_cons,List.length_append]
   bv_omega
 have f:=few _ ne
 refine⟨by bv_omega,fun z => ?_,fun r hr=>⟨fun x hx => ?_,?_,ne r hr⟩⟩
 ·rw[z] at lf
  have:0=n:=lf
  bv_omega
 ·have:=List.mem_range.mp (p.mem_iff.mp (List.mem_flatten.mpr ⟨r,hr,hx⟩))
  bv_omega
 ·have:=(List.sublist_flatten_of_mem hr).length_le
  bv_omega
theorem xW9 {r:List Nat}(hr:∀x∈r,x<61) (hl:r.length<=60):(wT r).length<=182:=by
 have l:=qA hr hl
 have c1:("(":Str).length=1:=rfl
 have c2:(")":Str).length=1:=rfl
 unfold wT
 rw[Str.length_append,Str.length_append,c1,c2]
 bv_omega
theorem zY5 {rs:List (List Nat)}(q:Rs rs):joinD "" (.list ((rs.map wT).map PyData.str))=some (.str (Str.join "" (rs.map wT)))/\(Str.join "" (rs.map wT)).length<=12120:=by
 have h:=gQ (sep:="") (ts:=rs.map wT) (by decide) (by rw[List.length_map];exact q.few) fun t ht=>by
  obtain⟨r,hr,rfl⟩:=List.mem_map.mp ht
  have:=xW9 (q.ring r hr).1 (q.ring r hr).2.1
  bv_omega
 refine⟨qQ h.1,?_⟩
 have a:=h.2
 have b:=q.few
 rw[List.length_map] at a
 bv_omega
theorem zE1 {n:Nat}{xs:List Int}(q:Rs (rgs n xs n)):PyData.strOk (ordT n xs)=true:=by
 refine qL (by decide +kernel) _ fun t ht => ?_
 obtain⟨r,hr,rfl⟩:=List.mem_map.mp ht
 refine jI (jI (by decide +kernel) (qL (by decide +kernel) _ fun t ht => ?_)) (by decide +kernel)
 obtain⟨x,hx,rfl⟩:=List.mem_map.mp ht
 exact (yC x ((q.ring r hr).1 x hx)).2.2.2.2
theorem zR8 {n:Nat}{xs:List Int}(o:Ord n xs) (h1:1<=n) (h2:n<=60):uC [tI xs]=.ok (.str (ordT n xs)):=by
 have q:=zP1 o h1 h2
 have cc:eComp (iS (eF yP (aC (eV 0) aN))) tYes (eF wC (aC (eV 0) aN)) [] [some (tI xs)]=.ok (.list (((rgs n xs n).map wT).map PyData.str)):=by
  rw[List.map_map]
  refine yF (fun r:List Nat=>tI (rI' r)) (fun r=>PyData.str (wT r)) (rgs n xs n) (by
   simp -implicitDefEqProofs only[(evA),uU o (show n<=1000 by bv_omega)]
   unfold ringsD
   rw[List.map_map]
   rfl) (by have:=q.few;bv_omega) fun r hr => ?_
  show eF wC (aC (eV 0) aN) [some (tI (rI' r))]=_
  simp -implicitDefEqProofs only[(evA),zJ3 (q.ring r hr).1 (q.ring r hr).2.1]
 show (kQ [some (tI xs)]).bind (fin false)=_
 unfold kQ
 simp -implicitDefEqProofs only[(evA),xU,yS,cc,(zY5 q).1]
 rfl
theorem xT5 {r:List Nat}(hr:∀x∈r,x<61):41∉tl (rT r):=by
 have:∀l:List Nat,(∀x∈l,x<61)->41∉tl (Str.join " " (l.map numT)):=fun l=>by
  induction l with
  | nil=>exact fun _ z=>by cases z
  | cons a l ih =>
   intro h
   have ha:=(yC a (h a List.mem_cons_self)).2.1
   cases l with
   | nil=>exact ha
   | cons b l =>
    rw[List.map_cons,List.map_cons,vI,yN,yN]
    intro z
    rcases List.mem_append.mp z with z | z
    ·rcases List.mem_append.mp z with z | z
     ·exact ha z
     ·exact absurd z (by decide)
    ·exact ih (fun x hx=>h x (List.mem_cons_of_mem _ hx)) z
 exact this r hr
theorem yF2 {r:List Nat}(hr:∀x∈r,x<61) (hn:r ≠ []):Txt.split (rT r) " " = r.map numT :=
 vG (c:=32) (y':=[]) rfl (by decide +kernel) (fun z=>hn (List.map_eq_nil_iff.mp z)) fun p hp=>by
  obtain⟨x,hx,rfl⟩:=List.mem_map.mp hp
  exact (yC x (hr x hx)).2.2.1
theorem yL4 {rs:List (List Nat)}(q:Rs rs):Txt.split (Str.join ")(" (rs.map rT)) ")(" = rs.map rT :=
 vG (c:=41) (y':=[40]) rfl (by decide +kernel) (fun z=>q.ne (List.map_eq_nil_iff.mp z)) fun p hp=>by
  obtain⟨r,hr,rfl⟩:=List.mem_map.mp hp
  exact xT5 (q.ring r hr).1
theorem yA9 {rs:List (List Nat)}(q:Rs rs):Txt.slice (Str.join "" (rs.map wT)) (some 1) (some (-1))=Str.join ")(" (rs.map rT):=by
 have e:=zU3 (rs.map rT) fun z=>q.ne (List.map_eq_nil_iff.mp z)
 rw[List.map_map] at e
 have e':Str.join "" (rs.map wT)="("++Str.join ")(" (rs.map rT) ++ ")":=e
 rw[e']
 exact yP4 rfl rfl
theorem zX7 {b:Nat}(h:b<61):xA [.str (numT b),.int 1]=.ok (.int (b:Int)):=by
 obtain⟨⟨n1,n2,n3,n4⟩,_,_,_,n5⟩:=yC b h
 have lb:=wI
 have e1:lenTD [.str (numT b)]=some (.int ((numT b).length:Int)):=if_pos (by bv_omega)
 have e2':intTD [.str (numT b)]=some (.int (b:Int)):=by
  show (if (numT b).length<=640 then (PySem.intText? (numT b)).map PyData.int else none)=_
  rw[if_pos (by bv_omega),n4]
  rfl
 have e3:stwD (numT b) (.str "0")=some (.bool (Txt.startswith (numT b) "0")):=rfl
 show (jW [some (.str (numT b)),some (.int 1)]).bind (fin false)=_
 unfold jW
 rcases n3 with n3 | n3
 ·simp -implicitDefEqProofs only[(evA),zX5,xU,yS,n2,e1,decide_eq_false (show ¬(90:Int)<((numT b).length:Int) by bv_omega),e3,n3,e2']
 ·have nn:neD (.str (numT b)) (.str "0")=some false:=by
   rw[<-n3,gS n5 n5,decide_eq_true rfl]
   rfl
  generalize Txt.startswith (numT b) "0" = v at e3
  cases v
  ·simp -implicitDefEqProofs only[(evA),zX5,xU,yS,n2,e1,decide_eq_false (show ¬(90:Int)<((numT b).length:Int) by bv_omega),e3,e2']
  ·simp -implicitDefEqProofs only[(evA),zX5,xU,yS,n2,e1,decide_eq_false (show ¬(90:Int)<((numT b).length:Int) by bv_omega),e3,nn,e2']
theorem hV {r:List Nat}(hr:∀x∈r,x<61) (hl:r.length<=60):xS [.list ((r.map numT).map PyData.str),.int 1]=.ok (tI (rI' r)):=by
 have cc:eComp (iS (eV 0)) tYes (eF xA (aC (eV 0) (aC (eV 1) aN))) [1] [some (.list ((r.map numT).map PyData.str)),some (.int 1)]=.ok (.list (r.map fun b:Nat=>PyData.int (b:Int))):=by
  refine yF (fun b:Nat=>PyData.str (numT b)) (fun b=>PyData.int (b:Int)) r (by
   simp -implicitDefEqProofs only[(evA)]
   rw[List.map_map]
   rfl) (by bv_omega) fun b hb => ?_
  show eF xA (aC (eV 0) (aC (eV 1) aN)) [some (.str (numT b)),some (.int 1)]=_
  simp -implicitDefEqProofs only[(evA),zX7 (hr b hb)]
 have e:(PyData.tuple (r.map fun b:Nat=>PyData.int (b:Int)))=tI (rI' r):=by
  unfold tI rI'
  rw[List.map_map]
  rfl
 show (qM [some (.list ((r.map numT).map PyData.str)),some (.int 1)]).bind (fin false)=_
 unfold qM
 simp -implicitDefEqProofs only[(evA),cc,e]
theorem zR6 {n:Nat}{xs:List Int}(o:Ord n xs) (h1:1<=n) (h2:n<=60):qU [.str (ordT n xs)]=.ok (tI xs):=by
 have q:=zP1 o h1 h2
 have lw:=(zY5 q).2
 have lb:=wI
 have lj:=(gQ (sep:=")(") (ts:=(rgs n xs n).map rT) (by decide) (by rw[List.length_map];exact q.few) fun t ht=>by
  obtain⟨r,hr,rfl⟩:=List.mem_map.mp ht
  have:=qA (q.ring r hr).1 (q.ring r hr).2.1
  bv_omega).2
 have fw:=q.few
 rw[List.length_map] at lj
 have s1:slS (.str (ordT n xs)) (some 1) (some (-1))=some (.str (Str.join ")(" ((rgs n xs n).map rT))):=by
  unfold slS
  rw[yS,Option.bind_some,if_pos (by unfold ordT;bv_omega),<-yA9 q]
  rfl
 have s2:splD (Str.join ")(" ((rgs n xs n).map rT)) (.str ")(")=some (.list (((rgs n xs n).map rT).map PyData.str)):=by
  unfold splD
  rw[yS,Option.bind_some,if_pos ⟨by decide,by bv_omega⟩,yL4 q]
 have cc:eComp (iS (eM1S splD (eS slS (eV 0) (oS (eC (.int 1))) (oS (e1 negD (eC (.int 1))))) (eC (.str ")(")))) tYes (eF xS (aC (eM1S splD (eV 0) (eC (.str " "))) (aC (eC (.int 1)) aN))) [] [some (.str (ordT n xs)),none,none]=.ok (rows (ringsD n xs n)):=by
  have er:rows (ringsD n xs n)=.list ((rgs n xs n).map fun r=>tI (rI' r)):=by
   unfold rows ringsD
   rw[List.map_map]
   rfl
  rw[er]
  refine yF (fun r:List Nat=>PyData.str (rT r)) (fun r=>tI (rI' r)) (rgs n xs n) (by
   simp -implicitDefEqProofs only[(evA),xU,yS,s1,s2]
   rw[List.map_map]
   rfl) (by bv_omega) fun r hr => ?_
  have hr1:=(q.ring r hr).1
  have hr2:=(q.ring r hr).2.1
  have l:=qA hr1 hr2
  have s3:splD (rT r) (.str " ")=some (.list ((r.map numT).map PyData.str)):=by
   unfold splD
   rw[yS,Option.bind_some,if_pos ⟨by decide,by bv_omega⟩,yF2 hr1 (q.ring r hr).2.2]
  show eF xS (aC (eM1S splD (eV 0) (eC (.str " "))) (aC (eC (.int 1)) aN)) [some (.str (rT r))]=_
  simp -implicitDefEqProofs only[(evA),xU,yS,s3,hV hr1 hr2]
 obtain⟨zs,oz,ez,eo⟩:=zH4 (zD1 o) (flatP o) h1 h2
 rw[yE9 oz o ez] at eo
 have ty:∀(mb:Ev->Res Out) (ρ:Ev),sTryN mb ρ=noEx (mb ρ):=fun _ _=>rfl
 have nx:∀x:Out,noEx (Res.ok x)=.ok x:=fun _=>rfl
 show (kS [some (.str (ordT n xs)),none,none]).bind (fin false)=_
 unfold kS
 simp -implicitDefEqProofs only[(evA),cc,ty,nx,eo,zR8 o h1 h2,gS (zE1 q) (zE1 q),decide_true]
theorem pz:PyData.strOk "" = true/\PyData.strOk "none" = true/\PyData.strOk " / " = true/\PyData.strOk "rings" = true/\PyData.strOk "find" = true/\PyData.strOk "need" = true/\PyData.strOk "help" = true:=by decide +kernel
theorem zE6 {a b:Nat}(ha:a<61) (hb:b<61) (e:numT a=numT b):a=b:=by
 have h1:=(yC a ha).1.2.2.2
 rw[e,(yC b hb).1.2.2.2] at h1
 exact (Int.ofNat_inj.mp (Option.some.inj h1)).symm
theorem yA3 {a:Nat}(ha:a<61):tl (numT a) ≠ []:=by
 have:∀a,a<61->tl (numT a) ≠ []:=by decide +kernel
 exact this a ha
theorem uO:∀b,b<61->10∉tl (numT b)/\45∉tl (numT b)/\47∉tl (numT b):=by decide +kernel
theorem qB {c:Nat}{y:Str}(hy:c∉tl y):∀ts:List Str,(∀t∈ts,c∉tl t)->c∉tl (Str.join y ts)
 | [],_=>fun z=>by cases z
 | [t],h=>h t List.mem_cons_self
 | t::u::r,h=>by
  rw[vI,yN,yN]
  intro z
  rcases List.mem_append.mp z with z | z
  ·rcases List.mem_append.mp z with z | z
   ·exact h t List.mem_cons_self z
   ·exact hy z
  ·exact qB hy (u::r) (fun x hx=>h x (List.mem_cons_of_mem _ hx)) z
theorem zV6 {c:Nat}(hc:c=10\/c=45\/c=47){r:List Nat}(hr:∀x∈r,x<61):c∉tl (rT r):=by
 refine qB (by rcases hc with rfl | rfl | rfl <;> decide +kernel) _ fun t ht => ?_
 obtain⟨x,hx,rfl⟩:=List.mem_map.mp ht
 have:=uO x (hr x hx)
 rcases hc with rfl | rfl | rfl
 ·exact this.1
 ·exact this.2.1
 ·exact this.2.2
theorem yW1 {c:Nat}(hc:c=10\/c=45\/c=47){n:Nat}{xs:List Int}(q:Rs (rgs n xs n)):c∉tl (ordT n xs):=by
 have l:∀y∈(["","(",")"]:List Str),c∉tl y:=by
  rcases hc with rfl | rfl | rfl <;> decide +kernel
 refine qB (l _ (by simp)) _ fun t ht => ?_
 obtain⟨r,hr,rfl⟩:=List.mem_map.mp ht
 unfold wT
 rw[yN,yN]
 intro z
 rcases List.mem_append.mp z with z | z
 ·rcases List.mem_append.mp z with z | z
  ·exact l "(" (by simp) z
  ·exact zV6 hc (q.ring r hr).1 z
 ·exact l ")" (by simp) z
structure Ask (w n:Nat) (xs:List Int) (os:List Nat) (k:Nat):Prop where
 w4:w<4
 ord:Ord n xs
 n1:1<=n
 n60:n<=60
 opn:Opn n (rI' os)
 ol:os.length=n
 oo:∀x∈os,x<61
 k1:1<=k
 kn:k<=n
def askD (w:Nat) (xs:List Int) (os:List Nat) (k:Nat):D:=.tuple [.int (w:Int),tI xs,tI (rI' os),.int (k:Int)]
def hN (w:Nat) (os:List Nat) (k:Nat):List Nat:=if w=0 then [] else if w=1 then os else [k]
def hW (w:Nat):Str:=if w=0 then "rings" else if w=1 then "find" else if w=2 then "need" else "help"
def hdT (w:Nat) (os:List Nat) (k:Nat):Str:=Str.join " " (hW w::(hN w os k).map numT)
def rowT (w n:Nat) (xs:List Int) (os:List Nat) (k:Nat):Str:=hdT w os k ++ " / "++ordT n xs
theorem zF8:∀w,w<4->10∉tl (hW w)/\45∉tl (hW w)/\47∉tl (hW w)/\32∉tl (hW w)/\(hW w).length<=5/\PyData.strOk (hW w)=true:=by decide +kernel
section
variable {w n k:Nat}{xs:List Int}{os:List Nat}
theorem Ask.k61 (A:Ask w n xs os k):k<61:=Nat.lt_succ_of_le (Nat.le_trans A.kn A.n60)
theorem Ask.rs (A:Ask w n xs os k):Rs (rgs n xs n):=zP1 A.ord A.n1 A.n60
theorem Ask.hN (A:Ask w n xs os k):(∀x∈hN w os k,x<61)/\(hN w os k).length<=60:=by
 have a:=A.k61
 have b:=A.n60
 unfold K53.hN
 split
 ·exact⟨fun x z=>(by cases z),by simp⟩
 ·split
  ·exact⟨A.oo,by rw[A.ol];exact b⟩
  ·exact⟨fun x z=>(by rw[List.mem_singleton.mp z];exact a),by simp⟩
theorem aJ (A:Ask w n xs os k):(hdT w os k).length<=190/\(∀c,c=10\/c=45\/c=47->c∉tl (hdT w os k))/\PyData.strOk (hdT w os k)=true:=by
 obtain⟨f1,f2,f3,f4,f5,f6⟩:=zF8 w A.w4
 obtain⟨h1,h2⟩:=A.hN
 refine⟨?_,fun c hc => ?_,?_⟩
 ·have a:=StrLaws.join_length_le " " (hW w::(hN w os k).map numT)
  have b:=StrLaws.sumLen_le (B:=2) ((hN w os k).map numT) fun y hy=>by
   obtain⟨x,hx,rfl⟩:=List.mem_map.mp hy
   exact (yC x (h1 x hx)).1.1
  have c:(" ":Str).length=1:=rfl
  rw[List.map_cons,List.sum_cons,List.length_cons,c] at a
  rw[List.length_map] at a b
  unfold hdT
  bv_omega
 ·refine qB (by rcases hc with rfl | rfl | rfl <;> decide +kernel) _ fun t ht => ?_
  rcases List.mem_cons.mp ht with rfl | ht
  ·rcases hc with rfl | rfl | rfl
   ·exact f1
   ·exact f2
   ·exact f3
  ·obtain⟨x,hx,rfl⟩:=List.mem_map.mp ht
   have:=uO x (h1 x hx)
   rcases hc with rfl | rfl | rfl
   ·exact this.1
   ·exact this.2.1
   ·exact this.2.2
 ·refine qL (by decide +kernel) _ fun t ht => ?_
  rcases List.mem_cons.mp ht with rfl | ht
  ·exact f6
  ·obtain⟨x,hx,rfl⟩:=List.mem_map.mp ht
   exact (yC x (h1 x hx)).2.2.2.2
theorem yL2 (A:Ask w n xs os k):Txt.split (hdT w os k) " " = hW w::(hN w os k).map numT :=
 vG (c:=32) (y':=[]) rfl (by decide +kernel) (fun z=>nomatch z) fun p hp=>by
  rcases List.mem_cons.mp hp with rfl | hp
  ·exact (zF8 w A.w4).2.2.2.1
  ·obtain⟨x,hx,rfl⟩:=List.mem_map.mp hp
   exact (yC x (A.hN.1 x hx)).2.2.1
theorem yO6 (A:Ask w n xs os k):10∉tl (rowT w n xs os k):=by
 unfold rowT
 rw[yN,yN]
 intro z
 rcases List.mem_append.mp z with z | z
 ·rcases List.mem_append.mp z with z | z
  ·exact (aJ A).2.1 10 (.inl rfl) z
  ·exact absurd z (by decide +kernel)
 ·exact yW1 (.inl rfl) A.rs z
theorem zD5 (q:Rs (rgs n xs n)):(ordT n xs).length<=12120:=(zY5 q).2
theorem zF2 (A:Ask w n xs os k):(rowT w n xs os k).length<=13000:=by
 have a:=(aJ A).1
 have b:=zD5 A.rs
 have c:(" / ":Str).length=3:=rfl
 unfold rowT
 rw[Str.length_append,Str.length_append,c]
 bv_omega
theorem yN7 (A:Ask w n xs os k):Txt.partition (rowT w n xs os k) " / " = (hdT w os k,(" / ":Str),ordT n xs):=by
 have y1:1<=(" / ":Str).length:=by decide
 have y3:(" / ":Str).length=3:=rfl
 have ty:tl (" / ":Str)=[32,47,32]:=rfl
 have tr:tl (rowT w n xs os k)=tl (hdT w os k)++([32,47,32]++tl (ordT n xs)):=by unfold rowT;rw[yN,yN,ty,List.append_assoc]
 have hl:=xW (hdT w os k)
 have here:StrLaws.At (rowT w n xs os k) " / " (rowT w n xs os k).length (hdT w os k).length:=by
  refine (zZ7 y1).mpr ?_
  rw[tr,<-hl,List.drop_left,ty,y3]
  rfl
 have f47:=(aJ A).2.1 47 (.inr (.inr rfl))
 have early:∀i,i<(hdT w os k).length->¬StrLaws.At (rowT w n xs os k) " / " (rowT w n xs os k).length i:=fun i hi h=>by
  have e:=(zZ7 y1).mp h
  rw[ty,y3,tr] at e
  have e1:=congrArg (fun l=>l[1]?) e
  simp only[List.getElem?_cons_succ,List.getElem?_cons_zero] at e1
  rw[List.getElem?_take_of_lt (by bv_omega),List.getElem?_drop] at e1
  by_cases c:i+1<(tl (hdT w os k)).length
  ·rw[List.getElem?_append_left c] at e1
   exact f47 (List.mem_of_getElem? e1)
  ·rw[List.getElem?_append_right (by bv_omega),show i+1-(tl (hdT w os k)).length=0 by bv_omega] at e1
   cases e1
 have ha:=StrLaws.occ_head (rowT w n xs os k) " / " 1 (Nat.le_refl 1)
 unfold Txt.partition
 rcases ha with ⟨_,hn⟩ | ⟨i,r,h0,hi,hn⟩
 ·exact absurd here (hn _)
 ·rw[h0]
  have ei:i=(hdT w os k).length:=by
   by_cases c:i<(hdT w os k).length
   ·exact absurd hi (early i c)
   ·by_cases c2:(hdT w os k).length<i
    ·exact absurd here (hn _ c2)
    ·bv_omega
  subst ei
  have e1:Builtin.Str.strSub (rowT w n xs os k) 0 (hdT w os k).length=hdT w os k:=gO (by
   rw[aL,tr,List.drop_zero,Nat.sub_zero,<-hl,List.take_left])
  have e2:Builtin.Str.strSub (rowT w n xs os k) ((hdT w os k).length+(" / ":Str).length) (rowT w n xs os k).length=ordT n xs:=gO (by
   rw[aL,tr,<-List.append_assoc,y3,show (hdT w os k).length+3=(tl (hdT w os k) ++ [32,47,32]).length by rw[List.length_append,hl];rfl,List.drop_left,List.take_of_length_le]
   rw[xW]
   have:(rowT w n xs os k).length=(tl (hdT w os k) ++ [32,47,32]).length+(ordT n xs).length:=by
    rw[<-xW,tr,<-List.append_assoc,List.length_append,xW (ordT n xs)]
   bv_omega)
  show (Builtin.Str.strSub _ 0 _,_,Builtin.Str.strSub _ _ _)=_
  rw[e1,e2]
end
theorem gW {r:List Nat}{d:D}(hd:d=tI (rI' r)\/d=lI (rI' r)) (hr:∀x∈r,x<61) (hl:r.length<=60):xJ [d]=.ok (.str (rT r)):=by
 show (gB [some d]).bind (fin false)=_
 unfold gB
 simp -implicitDefEqProofs only[(evA),xU,yS,fL hd hr hl,bL hr hl]
theorem yS2 {n:Nat}{xs:List Int}(o:Ord n xs) (h1:1<=n) (h2:n<=60):fW [tI xs]=.ok (.str (ordT n xs)):=by
 have q:=zP1 o h1 h2
 have cc:eComp (iS (eF yB (aC (eV 0) aN))) tYes (e2 catS (e2 catS (eC (.str "(")) (eM1S joinD (eC (.str " ")) (eComp (iS (eV 0)) tYes (eB strOfD (aC (eV 0) aN)) []))) (eC (.str ")"))) [] [some (tI xs)]=.ok (.list (((rgs n xs n).map wT).map PyData.str)):=by
  rw[List.map_map]
  refine yF (fun r:List Nat=>lI (rI' r)) (fun r=>PyData.str (wT r)) (rgs n xs n) (by
   simp -implicitDefEqProofs only[(evA),gD o (show n<=400 by bv_omega)]) (by have:=q.few;bv_omega) fun r hr => ?_
  have hr1:=(q.ring r hr).1
  have hr2:=(q.ring r hr).2.1
  have l:=qA hr1 hr2
  have c1:("(":Str).length=1:=rfl
  have c2:(")":Str).length=1:=rfl
  have lb:=wI
  have e1:catS (.str "(") (.str (rT r))=some (.str ("("++rT r)):=if_pos (by bv_omega)
  have e2':catS (.str ("("++rT r)) (.str ")")=some (.str (wT r)):=if_pos (by rw[Str.length_append];bv_omega)
  show e2 catS (e2 catS (eC (.str "(")) (eM1S joinD (eC (.str " ")) (eComp (iS (eV 0)) tYes (eB strOfD (aC (eV 0) aN)) []))) (eC (.str ")")) [some (lI (rI' r))]=_
  simp -implicitDefEqProofs only[(evA),xU,yS,fL (.inr rfl) hr1 hr2,bL hr1 hr2,e1,e2']
 show (aT [some (tI xs)]).bind (fin false)=_
 unfold aT
 simp -implicitDefEqProofs only[(evA),xU,yS,cc,(zY5 q).1]
 rfl
theorem yC5 {os:List Nat}(k:Nat) (h:os ≠ []):hdT 1 os k="find "++rT os:=by
 cases os with
 | nil=>exact absurd rfl h
 | cons a l =>
  show "find" ++ " "++Str.join " " ((a::l).map numT)=_
  rw[show ("find":Str) ++ " " = "find " by decide +kernel]
  rfl
theorem yH9 (os:List Nat) (k:Nat):hdT 2 os k="need "++numT k:=by
 show "need" ++ " "++numT k=_
 rw[show ("need":Str) ++ " " = "need " by decide +kernel]
theorem yD9 (os:List Nat) (k:Nat):hdT 3 os k="help "++numT k:=by
 show "help" ++ " "++numT k=_
 rw[show ("help":Str) ++ " " = "help " by decide +kernel]
theorem yO5 {w n k:Nat}{xs:List Int}{os:List Nat}(A:Ask w n xs os k):qK [askD w xs os k]=.ok (.str (rowT w n xs os k)):=by
 have gt:gT 4 (gsC (gN 1) (gsC (gN 2) (gsC (gN 3) (gsC (gN 4) gsN)))) (askD w xs os k) [some (askD w xs os k),none,none,none,none,none]=some [some (askD w xs os k),some (.int (w:Int)),some (tI xs),some (tI (rI' os)),some (.int (k:Int)),none]:=rfl
 have nk:=yC k A.k61
 have ek:strOfD [.int (k:Int)]=some (.str (numT k)):=if_pos nk.2.2.2.1
 have hr2:os.length<=60:=by rw[A.ol];exact A.n60
 have l:=qA A.oo hr2
 have lb:=wI
 have f5:("find ":Str).length=5:=rfl
 have n5:("need ":Str).length=5:=rfl
 have h5:("help ":Str).length=5:=rfl
 have s3:(" / ":Str).length=3:=rfl
 have k2:=nk.1.1
 have c1:catS (.str "find ") (.str (rT os))=some (.str ("find "++rT os)):=if_pos (by bv_omega)
 have c2:catS (.str "need ") (.str (numT k))=some (.str ("need "++numT k)):=if_pos (by bv_omega)
 have c3:catS (.str "help ") (.str (numT k))=some (.str ("help "++numT k)):=if_pos (by bv_omega)
 have one:os ≠ []:=fun z=>by have:=A.ol;rw[z] at this;have:=A.n1;simp at *;bv_omega
 have hl:=(aJ A).1
 have ol:=zD5 A.rs
 have ai:atI [PyData.str "rings",.str ("find "++rT os),.str ("need "++numT k),.str ("help "++numT k)] (w:Int)=some (.str (hdT w os k)):=by
  rcases (show w=0\/w=1\/w=2\/w=3 by have:=A.w4;bv_omega) with rfl | rfl | rfl | rfl
  ·rfl
  ·rw[yC5 k one];rfl
  ·rw[yH9];rfl
  ·rw[yD9];rfl
 have c4:catS (.str (hdT w os k)) (.str " / ")=some (.str (hdT w os k ++ " / ")):=if_pos (by bv_omega)
 have c5:catS (.str (hdT w os k ++ " / ")) (.str (ordT n xs))=some (.str (rowT w n xs os k)):=if_pos (by rw[Str.length_append];bv_omega)
 show (zX6 [some (askD w xs os k),none,none,none,none,none]).bind (fin false)=_
 unfold zX6
 simp -implicitDefEqProofs only[(evA),gt,gW (.inl rfl) A.oo hr2,ek,c1,c2,c3,ai,c4,yS2 A.ord A.n1 A.n60,c5]
theorem strEq {a:Str}(ha:PyData.strOk a=true):eqD (.str a) (.str a)=some true:=by rw[zG1 ha ha,decide_eq_true rfl]
theorem strNe {a b:Str}(ha:PyData.strOk a=true) (hb:PyData.strOk b=true) (h:a≠b):eqD (.str a) (.str b)=some false:=by rw[zG1 ha hb,decide_eq_false h]
def tON (s:Str):Str:=if s="" then "none" else s
def pT (q:Nat×Nat):Str:=Str.join "-" [numT q.1,numT q.2]
def hpT (L:List (Nat×Nat)):Str:=Str.join " " (L.map pT)
def lens (n:Nat) (xs:List Int):List Nat:=(rgs n xs n).map List.length
def fl (n:Nat) (xs:List Int) (os:List Nat):List Nat:=(List.range n).filter (fd n xs (rI' os))
def ansT (w n:Nat) (xs:List Int) (os:List Nat) (k:Nat):Str:=if w=0 then rT (lens n xs) else if w=1 then tON (rT (fl n xs os)) else if w=2 then numT (ND n k xs) else tON (hpT (told n k xs))
theorem yS7 {s:Str}(h:PyData.strOk s=true):xD [.str s]=.ok (.str (tON s)):=by
 show (qH [some (.str s)]).bind (fin false)=_
 unfold qH tON
 by_cases e:s=""
 ·rw[if_pos e,e]
  simp -implicitDefEqProofs only[(evA),strEq pz.1]
 ·rw[if_neg e]
  simp -implicitDefEqProofs only[(evA),strNe h pz.1 e]
theorem yQ2 {s:Str}(h:PyData.strOk s=true) (l:s.length<=500) (f:10∉tl s):(tON s).length<=500/\10∉tl (tON s)/\PyData.strOk (tON s)=true:=by
 unfold tON
 split
 ·exact⟨by decide,by decide +kernel,pz.2.1⟩
 ·exact⟨l,f,h⟩
theorem zO1 {r:List Nat}(hr:∀x∈r,x<61):PyData.strOk (rT r)=true:=by
 refine qL (by decide +kernel) _ fun t ht => ?_
 obtain⟨x,hx,rfl⟩:=List.mem_map.mp ht
 exact (yC x (hr x hx)).2.2.2.2
theorem zZ9 {q:Nat×Nat}(h1:q.1<61) (h2:q.2<61):(pT q).length<=5/\PyData.strOk (pT q)=true/\45∈tl (pT q)/\32∉tl (pT q)/\10∉tl (pT q):=by
 have a:=yC q.1 h1
 have b:=yC q.2 h2
 have e:pT q=numT q.1 ++ "-"++numT q.2:=rfl
 have m:("-":Str).length=1:=rfl
 have tm:tl ("-":Str)=[45]:=rfl
 have f:∀c,c∉tl (numT q.1)->c∉tl (numT q.2)->c≠45->c∉tl (pT q):=fun c c1 c2 c3 z=>by
  rw[e,yN,yN,tm] at z
  rcases List.mem_append.mp z with z | z
  ·rcases List.mem_append.mp z with z | z
   ·exact c1 z
   ·exact c3 (List.mem_singleton.mp z)
  ·exact c2 z
 refine⟨?_,?_,?_,f 32 a.2.2.1 b.2.2.1 (by decide),f 10 (uO q.1 h1).1 (uO q.2 h2).1 (by decide)⟩
 ·rw[e,Str.length_append,Str.length_append,m]
  have:=a.1.1
  have:=b.1.1
  bv_omega
 ·rw[e]
  exact jI (jI a.2.2.2.2 (by decide +kernel)) b.2.2.2.2
 ·rw[e,yN,yN,tm]
  simp
section
variable {w n k:Nat}{xs:List Int}{os:List Nat}
theorem Ask.told (A:Ask w n xs os k):(told n k xs).length<=60/\∀q∈told n k xs,q.1<q.2/\q.2<n/\q.1<61/\q.2<61:=by
 have h:=zK1 (k:=k) A.ord (rgs n xs n).length
 rw[List.take_length] at h
 refine⟨Nat.le_trans h A.n60,fun q hq => ?_⟩
 have a:=yU1 A.ord A.k1 q hq
 have b:=zW5 A.ord A.k1 q hq
 have:=A.n60
 exact⟨a,b.2.1,by have:=b.1;bv_omega,by have:=b.2.1;bv_omega⟩
theorem zC9 (A:Ask w n xs os k):joinD " " (.list (((MR.told n k xs).map pT).map PyData.str))=some (.str (hpT (MR.told n k xs)))/\(hpT (MR.told n k xs)).length<=500/\PyData.strOk (hpT (MR.told n k xs))=true/\10∉tl (hpT (MR.told n k xs)):=by
 obtain⟨h1,h2⟩:=A.told
 have each:∀t∈(MR.told n k xs).map pT,t.length<=5/\PyData.strOk t=true/\10∉tl t:=fun t ht=>by
  obtain⟨q,hq,rfl⟩:=List.mem_map.mp ht
  obtain⟨_,_,b1,b2⟩:=h2 q hq
  have:=zZ9 b1 b2
  exact⟨this.1,this.2.1,this.2.2.2.2⟩
 refine⟨qQ (gQ (by decide) (by rw[List.length_map];exact h1) fun t ht=>Nat.le_trans (each t ht).1 (by decide)).1,?_,qL (by decide +kernel) _ fun t ht=>(each t ht).2.1,qB (by decide +kernel) _ fun t ht=>(each t ht).2.2⟩
 have a:=StrLaws.join_length_le " " ((MR.told n k xs).map pT)
 have b:=StrLaws.sumLen_le (B:=5) ((MR.told n k xs).map pT) fun t ht=>(each t ht).1
 have c:(" ":Str).length=1:=rfl
 rw[List.length_map] at a b
 rw[c] at a
 unfold hpT
 bv_omega
theorem Ask.lens (A:Ask w n xs os k):(∀x∈lens n xs,x<61)/\(lens n xs).length<=60:=by
 refine⟨fun x hx => ?_,by unfold K53.lens;rw[List.length_map];exact A.rs.few⟩
 obtain⟨r,hr,rfl⟩:=List.mem_map.mp hx
 have:=(A.rs.ring r hr).2.1
 bv_omega
theorem Ask.fl (A:Ask w n xs os k):(∀x∈fl n xs os,x<61)/\(fl n xs os).length<=60:=by
 have:=A.n60
 refine⟨fun x hx => ?_,?_⟩
 ·have:=List.mem_range.mp (List.mem_filter.mp hx).1
  bv_omega
 ·have:=List.length_filter_le (fd n xs (rI' os)) (List.range n)
  rw[List.length_range] at this
  unfold K53.fl
  bv_omega
theorem Ask.nd (A:Ask w n xs os k):ND n k xs<61:=by
 have:=yC8 A.ord A.n1 A.k1
 have h:=Nat.le_mul_of_pos_left (ND n k xs) A.k1
 have:=A.n60
 bv_omega
theorem zK2 (A:Ask w n xs os k):(ansT w n xs os k).length<=500/\10∉tl (ansT w n xs os k)/\PyData.strOk (ansT w n xs os k)=true:=by
 unfold ansT
 split
 ·exact⟨Nat.le_trans (qA A.lens.1 A.lens.2) (by decide),zV6 (.inl rfl) A.lens.1,zO1 A.lens.1⟩
 ·split
  ·exact yQ2 (zO1 A.fl.1) (Nat.le_trans (qA A.fl.1 A.fl.2) (by decide)) (zV6 (.inl rfl) A.fl.1)
  ·split
   ·have h:=yC _ A.nd
    exact⟨Nat.le_trans h.1.1 (by decide),(uO _ A.nd).1,h.2.2.2.2⟩
   ·obtain⟨_,h1,h2,h3⟩:=zC9 A
    exact yQ2 h2 h1 h3
theorem zO4 {q:Nat×Nat}(h1:q.1<61) (h2:q.2<61):wF [tI (pL q)]=.ok (.str (pT q)):=by
 have hr:∀x ∈ [q.1,q.2],x<61:=fun x hx=>by
  rcases List.mem_cons.mp hx with rfl | hx
  ·exact h1
  ·rw[List.mem_singleton.mp hx];exact h2
 have cc:=fL (d:=tI (pL q)) (r:=[q.1,q.2]) (.inl rfl) hr (by simp)
 have ej:joinD "-" (.list (([q.1,q.2].map numT).map PyData.str))=some (.str (pT q)):=qQ (gQ (by decide) (by simp) fun t ht=>by
  obtain⟨x,hx,rfl⟩:=List.mem_map.mp ht
  have:=(yC x (hr x hx)).1.1
  bv_omega).1
 show (gY [some (tI (pL q))]).bind (fin false)=_
 unfold gY
 simp -implicitDefEqProofs only[(evA),xU,yS,cc,ej]
theorem zJ4 (A:Ask w n xs os k):qF [tI xs,.int (k:Int)]=.ok (.str (tON (hpT (MR.told n k xs)))):=by
 obtain⟨h1,h2⟩:=A.told
 obtain⟨hj,hl,hs,_⟩:=zC9 A
 have cc:eComp (iS (eF uQ (aC (eV 0) (aC (eV 1) aN)))) tYes (eF wF (aC (eV 0) aN)) [] [some (tI xs),some (.int (k:Int))]=.ok (.list (((MR.told n k xs).map pT).map PyData.str)):=by
  rw[List.map_map]
  refine yF (fun q:Nat×Nat=>tI (pL q)) (fun q=>PyData.str (pT q)) (MR.told n k xs) (by
   simp -implicitDefEqProofs only[(evA),zL1 A.ord A.n60 A.k1 A.kn]
   rw[List.map_map]
   rfl) (by bv_omega) fun q hq => ?_
  show eF wF (aC (eV 0) aN) [some (tI (pL q))]=_
  simp -implicitDefEqProofs only[(evA),zO4 (h2 q hq).2.2.1 (h2 q hq).2.2.2]
 show (hJ [some (tI xs),some (.int (k:Int))]).bind (fin false)=_
 unfold hJ
 simp -implicitDefEqProofs only[(evA),xU,yS,cc,hj,yS7 hs]
theorem zN4 (A:Ask w n xs os k){mi:Ev->Res (List D)}{f:List Nat->D}{ρ:Ev}(hf:∀r,f r=tI (rI' r)\/f r=lI (rI' r)) (h:mi ρ=.ok ((rgs n xs n).map f)):eComp mi tYes (eB lenD (aC (eV 0) aN)) [] ρ=.ok (lI (rI' (lens n xs))):=by
 have e:lI (rI' (lens n xs))=.list ((rgs n xs n).map fun r=>PyData.int ((r.length:Nat):Int)):=by
  unfold lI rI' lens
  rw[List.map_map,List.map_map]
  rfl
 rw[e]
 refine yF f (fun r=>PyData.int ((r.length:Nat):Int)) (rgs n xs n) h (by have:=A.rs.few;bv_omega) fun r hr => ?_
 have hl:((rI' r).map PyData.int).length=r.length:=by rw[List.length_map,yI]
 show eB lenD (aC (eV 0) aN) [some (f r)]=_
 rcases hf r with z | z
 ·rw[z]
  simp -implicitDefEqProofs only[(evA),hl]
 ·rw[z]
  simp -implicitDefEqProofs only[(evA),hl]
theorem xX4 (A:Ask w n xs os k):wS [.str (hW w),tI (rI' (hN w os k)),tI xs]=.ok (.str (ansT w n xs os k)):=by
 obtain⟨z1,z2,z3,z4,z5,z6,z7⟩:=pz
 have lt:∀r:List Nat,((rI' r).map PyData.int).length=r.length:=fun r=>by rw[List.length_map,yI]
 have ew:hW w="rings"\/hW w="find"\/hW w="need"\/hW w="help":=by
  rcases (show w=0\/w=1\/w=2\/w=3 by have:=A.w4;bv_omega) with rfl | rfl | rfl | rfl
  ·exact .inl rfl
  ·exact .inr (.inl rfl)
  ·exact .inr (.inr (.inl rfl))
  ·exact .inr (.inr (.inr rfl))
 show (vA [some (.str (hW w)),some (tI (rI' (hN w os k))),some (tI xs)]).bind (fin false)=_
 unfold vA
 rcases (show w=0\/w=1\/w=2\/w=3 by have:=A.w4;bv_omega) with rfl | rfl | rfl | rfl
 ·have er:=uU A.ord (show n<=1000 by have:=A.n60;bv_omega)
  have cc:=zN4 A (mi:=iS (eF yP (aC (eV 2) aN))) (f:=fun r=>tI (rI' r)) (ρ:=[some (.str "rings"),some (tI (rI' [])),some (tI xs)]) (fun r=>.inl rfl) (by
   simp -implicitDefEqProofs only[(evA),er]
   unfold ringsD
   rw[List.map_map]
   rfl)
  have l0:((rI' ([]:List Nat)).map PyData.int).length=0:=rfl
  show (sQ _ _ [some (.str "rings"),some (tI (rI' [])),some (tI xs)]).bind (fin false)=.ok (.str (rT (lens n xs)))
  simp -implicitDefEqProofs only[(evA),strEq z4,l0,yH,show ((0:Nat):Int)=0 from rfl,decide_true,cc,qY (.inr rfl) A.lens.1 A.lens.2]
 ·have ef:=zA9 A.ord A.opn A.n1 A.n60
  have eF':tI (FN n xs (rI' os))=tI (rI' (fl n xs os)):=rfl
  rw[eF'] at ef
  show (sQ _ _ [some (.str "find"),some (tI (rI' os)),some (tI xs)]).bind (fin false)=.ok (.str (tON (rT (fl n xs os))))
  simp -implicitDefEqProofs only[(evA),strNe z5 z4 (by decide +kernel),strEq z5,ef,qY (.inl rfl) A.fl.1 A.fl.2,yS7 (zO1 A.fl.1)]
 ·have en:=yE1 A.ord A.n60 A.k1 A.kn
  have es:strOfD [.int ((ND n k xs:Nat):Int)]=some (.str (numT (ND n k xs))):=if_pos (yC _ A.nd).2.2.2.1
  have a0:atI ((rI' [k]).map PyData.int) 0=some (.int (k:Int)):=rfl
  have l1:((rI' [k]).map PyData.int).length=1:=rfl
  show (sQ _ _ [some (.str "need"),some (tI (rI' [k])),some (tI xs)]).bind (fin false)=.ok (.str (numT (ND n k xs)))
  simp -implicitDefEqProofs only[(evA),strNe z6 z4 (by decide +kernel),strNe z6 z5 (by decide +kernel),strEq z6,l1,yH,show ((1:Nat):Int)=1 from rfl,decide_true,a0,en,es]
 ·have eh:=zJ4 A
  have a0:atI ((rI' [k]).map PyData.int) 0=some (.int (k:Int)):=rfl
  have l1:((rI' [k]).map PyData.int).length=1:=rfl
  show (sQ _ _ [some (.str "help"),some (tI (rI' [k])),some (tI xs)]).bind (fin false)=.ok (.str (tON (hpT (MR.told n k xs))))
  simp -implicitDefEqProofs only[(evA),strNe z7 z4 (by decide +kernel),strNe z7 z5 (by decide +kernel),strNe z7 z6 (by decide +kernel),strEq z7,l1,yH,show ((1:Nat):Int)=1 from rfl,decide_true,a0,eh]
theorem yU9 (A:Ask w n xs os k):fT [.str (rowT w n xs os k)]=.ok (.str (ansT w n xs os k)):=by
 obtain⟨z1,z2,z3,z4,z5,z6,z7⟩:=pz
 have lb:=wI
 have rl:=zF2 A
 have hl:=(aJ A).1
 obtain⟨n1,n2⟩:=A.hN
 have ep:partD (rowT w n xs os k) (.str " / ")=some (.tuple [.str (hdT w os k),.str " / ",.str (ordT n xs)]):=by
  unfold partD
  rw[yS,Option.bind_some,if_pos ⟨by decide,by bv_omega⟩,yN7 A]
 have es:splD (hdT w os k) (.str " ")=some (.list (.str (hW w)::((hN w os k).map numT).map PyData.str)):=by
  unfold splD
  rw[yS,Option.bind_some,if_pos ⟨by decide,by bv_omega⟩,yL2 A]
  rfl
 have ec:cutD (PyData.str (hW w)::((hN w os k).map numT).map PyData.str) (some 1) none=((hN w os k).map numT).map PyData.str:=by
  rw[show (1:Int)=((1:Nat):Int) from rfl,yJ2]
  rfl
 have a0:∀x y z:D,atI [x,y,z] 0=some x:=fun _ _ _=>rfl
 have a1:∀x y z:D,atI [x,y,z] 1=some y:=fun _ _ _=>rfl
 have a2:∀x y z:D,atI [x,y,z] 2=some z:=fun _ _ _=>rfl
 show (bM [some (.str (rowT w n xs os k)),none,none,none]).bind (fin false)=_
 unfold bM
 simp -implicitDefEqProofs only[(evA),xU,yS,ep,a0,es,ec,hV n1 n2,a1,strNe z3 z1 (by decide +kernel),yL8,a2,zR6 A.ord A.n1 A.n60,xX4 A]
theorem zA6 (A:Ask w n xs os k):yL [.str (rowT w n xs os k)]=.ok (.str (ansT w n xs os k)):=by
 have ty:∀(mb:Ev->Res Out) (ρ:Ev),sTryN mb ρ=noEx (mb ρ):=fun _ _=>rfl
 have nx:∀x:Out,noEx (Res.ok x)=.ok x:=fun _=>rfl
 show (vY [some (.str (rowT w n xs os k))]).bind (fin false)=_
 unfold vY
 simp -implicitDefEqProofs only[(evA),ty,yU9 A,nx]
end
theorem yC6 {x:Str}{ts:List Str}:inD false (.str x) (.list (ts.map PyData.str))=some (ts.contains x):=by
 have f:(ts.map PyData.str).all flD=true:=by
  rw[List.all_eq_true]
  intro d hd
  obtain⟨t,_,rfl⟩:=List.mem_map.mp hd
  rfl
 unfold inD
 show (if flD (.str x)=true/\(ts.map PyData.str).all flD=true then _ else none)=_
 rw[if_pos ⟨rfl,f⟩]
 congr 1
 show (ts.map PyData.str).any (fun z=>eqF z (.str x))=_
 rw[List.any_map,Bool.eq_iff_iff,List.any_eq_true,List.contains_iff_mem]
 constructor
 ·rintro ⟨t,ht,e⟩
  have e:(t == x)=true:=e
  rw[<-eq_of_beq e]
  exact ht
 ·intro h
  exact⟨x,h,(beq_self_eq_true x:(x == x)=true)⟩
def hlC:Ev->Res D:=(eComp (iR rng1 (aC (eB lenD (aC (eV 0) aN)) aN)) (b2 (inD false) (eB strOfD (aC (eV 0) aN)) (eM1S splD (eV 1) (eC (.str "-")))) (eV 0) [5])
def hlB:Ev->Res Out:=(sQ (sS 6 hlC) (sQ (sIf (tO (b2 neD (eB lenD (aC (eV 6) aN)) (eC (.int 2))) (b2 neD (eV 5) (e2 catS (e2 catS (eB strOfD (aC (e2 ixD (eV 6) (eC (.int 0))) aN)) (eC (.str "-"))) (eB strOfD (aC (e2 ixD (eV 6) (eC (.int 1))) aN))))) (sR (eC (.bool false))) sN) (sQ (sS 7 (e2 ixD (eV 3) (e2 ixD (eV 6) (eC (.int 0))))) (sQ (sI 3 (e2 ixD (eV 6) (eC (.int 0))) (e2 ixD (eV 3) (e2 ixD (eV 6) (eC (.int 1))))) (sI 3 (e2 ixD (eV 6) (eC (.int 1))) (eV 7))))))
def hlE:Ev->Res Out:=(sFz (sR (e2 (fun x y=>bD (leI x y)) (eB max1D (aC (eComp (iS (eF yB (aC (eV 3) aN))) tYes (eB lenD (aC (eV 0) aN)) []) aN)) (eV 1))))
def hlS:Ev->Res Out:=(sIf (b2 neD (eV 2) (eC (.str "none"))) (sS 4 (eM1S splD (eV 2) (eC (.str " ")))) sN)
theorem xN7:fU=(sQ (sS 3 (eB listD (aC (eV 0) aN))) (sQ (sS 4 (eB mkL aN)) (sQ hlS (sQ (sIf (b2 neD (eB lenD (aC (eV 4) aN)) (eF vL (aC (eV 0) (aC (eV 1) aN)))) (sR (eC (.bool false))) sN) (sQ (sF (iS (eV 4)) (gN 5) hlB) hlE))))):=rfl
theorem xY1 {a b n:Nat}(h1:a<b) (h2:b<n):(List.range n).filter (fun x=>x == a || x == b)=[a,b]:=by
 have e:List.range n=List.range a++a::((List.range (b-a-1)).map (fun x=>a+1+x)++b::(List.range (n-b-1)).map fun x=>b+1+x):=by
  refine List.ext_getElem? fun i => ?_
  rw[List.getElem?_append,List.length_range]
  by_cases c1:i<a
  ·rw[if_pos c1,List.getElem?_range c1,List.getElem?_range (by bv_omega)]
  ·rw[if_neg c1]
   obtain⟨j,rfl⟩:∃j,i=a+j:=⟨i-a,by bv_omega⟩
   rw[show a+j-a=j by bv_omega]
   cases j with
   | zero=>rw[List.getElem?_range (by bv_omega)];rfl
   | succ j =>
    rw[List.getElem?_cons_succ,List.getElem?_append,List.length_map,List.length_range]
    by_cases c2:j<b-a-1
    ·rw[if_pos c2,List.getElem?_map,List.getElem?_range c2,List.getElem?_range (by bv_omega)]
     show some (a+(j+1))=some (a+1+j)
     congr 1
     bv_omega
    ·rw[if_neg c2]
     obtain⟨m,hm⟩:∃m,j-(b-a-1)=m:=⟨_,rfl⟩
     rw[hm]
     cases m with
     | zero =>
      rw[List.getElem?_cons_zero,show a+(j+1)=b by bv_omega,List.getElem?_range h2]
     | succ m =>
      rw[List.getElem?_cons_succ,List.getElem?_map]
      by_cases c3:m<n-b-1
      ·rw[List.getElem?_range c3,List.getElem?_range (by bv_omega)]
       show some (a+(j+1))=some (b+1+m)
       congr 1
       bv_omega
      ·rw[List.getElem?_eq_none (by rw[List.length_range];bv_omega),List.getElem?_eq_none (by rw[List.length_range];bv_omega)]
       rfl
 have no:∀l:List Nat,(∀x∈l,x≠a/\x≠b)->l.filter (fun x=>x == a || x == b)=[]:=fun l h=>by
  rw[List.filter_eq_nil_iff]
  intro x hx z
  have:=h x hx
  rw[Bool.or_eq_true,beq_iff_eq,beq_iff_eq] at z
  rcases z with z | z
  ·exact this.1 z
  ·exact this.2 z
 rw[e,List.filter_append,no _ fun x hx=>by have:=List.mem_range.mp hx;bv_omega,List.filter_cons,if_pos (by simp),List.filter_append,no _ fun x hx=>by
  obtain⟨y,hy,rfl⟩:=List.mem_map.mp hx
  have:=List.mem_range.mp hy
  bv_omega,List.filter_cons,if_pos (by simp),no _ fun x hx=>by
  obtain⟨y,hy,rfl⟩:=List.mem_map.mp hx
  bv_omega]
 rfl
theorem xT2 {n:Nat}{xs:List Int}{q:Nat×Nat}{u1 u2 u3 u4 u6 u7:Option D}(hx:xs.length=n) (hn:n<=60) (h1:q.1<q.2) (h2:q.2<n):hlC [some (tI xs),u1,u2,u3,u4,some (.str (pT q)),u6,u7]=.ok (lI (rI' [q.1,q.2])):=by
 have e:lI (rI' [q.1,q.2])=.list (((List.range n).filter fun x=>x == q.1 || x == q.2).map fun b:Nat=>PyData.int (b:Int)):=by
  rw[xY1 h1 h2]
  rfl
 have s0:Txt.split (pT q) "-" = [numT q.1,numT q.2]:=vG (c:=45) (y':=[]) rfl (by decide +kernel) (fun z=>nomatch z) fun p hp=>by
  rcases List.mem_cons.mp hp with rfl | hp
  ·exact (uO q.1 (by bv_omega)).2.1
  ·rw[List.mem_singleton.mp hp]
   exact (uO q.2 (by bv_omega)).2.1
 have lp:=(zZ9 (q:=q) (by bv_omega) (by bv_omega)).1
 have lb:=wI
 have es:splD (pT q) (.str "-")=some (.list ([numT q.1,numT q.2].map PyData.str)):=by
  unfold splD
  rw[yS,Option.bind_some,if_pos ⟨by decide,by bv_omega⟩,s0]
 unfold hlC
 rw[e]
 refine gE (fun b:Nat=>PyData.int (b:Int)) (fun x=>x == q.1 || x == q.2) (fun b:Nat=>PyData.int (b:Int)) (List.range n) (by simp -implicitDefEqProofs only[(evA),List.length_map,hx,qJ (show n<=1000 by bv_omega)]) (by rw[List.length_range];bv_omega) (fun b hb => ?_) fun b _ _=>rfl
 have hb:=List.mem_range.mp hb
 have eb:strOfD [.int (b:Int)]=some (.str (numT b)):=if_pos (yC b (by bv_omega)).2.2.2.1
 have ec:[numT q.1,numT q.2].contains (numT b)=(b == q.1 || b == q.2):=by
  rw[Bool.eq_iff_iff,List.contains_iff_mem,Bool.or_eq_true,beq_iff_eq,beq_iff_eq]
  constructor
  ·intro h
   rcases List.mem_cons.mp h with h | h
   ·exact .inl (zE6 (by bv_omega) (by bv_omega) h)
   ·exact .inr (zE6 (by bv_omega) (by bv_omega) (List.mem_singleton.mp h))
  ·rintro (rfl | rfl) <;> simp
 show b2 (inD false) (eB strOfD (aC (eV 0) aN)) (eM1S splD (eV 1) (eC (.str "-"))) [some (.int (b:Int)),some (.str (pT q))]=_
 simp -implicitDefEqProofs only[(evA),eb,xU,yS,es,yC6,ec]
theorem xU2 {n:Nat}{xs ys:List Int}{q:Nat×Nat}{u1 u2 u4 u6 u7:Option D}(hx:xs.length=n) (hy:ys.length=n) (hn:n<=60) (h1:q.1<q.2) (h2:q.2<n):∃v6 v7,hlB [some (tI xs),u1,u2,some (lI ys),u4,some (.str (pT q)),u6,u7]=.ok (.nx [some (tI xs),u1,u2,some (lI (swO ys q.1 q.2)),u4,some (.str (pT q)),v6,v7]):=by
 have c:=xT2 (u1:=u1) (u2:=u2) (u3:=some (lI ys)) (u4:=u4) (u6:=u6) (u7:=u7) hx hn h1 h2
 have b1:q.1<61:=by bv_omega
 have b2':q.2<61:=by bv_omega
 have pk:=zZ9 b1 b2'
 have k1:=yC q.1 b1
 have k2:=yC q.2 b2'
 have lb:=wI
 have m1:("-":Str).length=1:=rfl
 have e1:strOfD [.int ((q.1:Nat):Int)]=some (.str (numT q.1)):=if_pos k1.2.2.2.1
 have e2':strOfD [.int ((q.2:Nat):Int)]=some (.str (numT q.2)):=if_pos k2.2.2.2.1
 have g1:=k1.1.1
 have g2:=k2.1.1
 have c1:catS (.str (numT q.1)) (.str "-")=some (.str (numT q.1 ++ "-")):=if_pos (by bv_omega)
 have c2:catS (.str (numT q.1 ++ "-")) (.str (numT q.2))=some (.str (pT q)):=if_pos (by rw[Str.length_append];bv_omega)
 have p0:atI ((rI' [q.1,q.2]).map PyData.int) 0=some (.int ((q.1:Nat):Int)):=rfl
 have p1:atI ((rI' [q.1,q.2]).map PyData.int) 1=some (.int ((q.2:Nat):Int)):=rfl
 have l2:((rI' [q.1,q.2]).map PyData.int).length=2:=rfl
 have a1:=zZ6 (xs:=ys) (i:=((q.1:Nat):Int)) (j:=q.1) rfl (by bv_omega)
 have a2:=zZ6 (xs:=ys) (i:=((q.2:Nat):Int)) (j:=q.2) rfl (by bv_omega)
 have s1:=zX9 (xs:=ys) (a:=q.1) (by bv_omega) (ys.getD q.2 0)
 have s2:=zX9 (xs:=ys.set q.1 (ys.getD q.2 0)) (a:=q.2) (by rw[List.length_set];bv_omega) (ys.getD q.1 0)
 have nn:neD (.str (pT q)) (.str (pT q))=some false:=by
  rw[gS pk.2.1 pk.2.1,decide_eq_true rfl]
  rfl
 refine⟨some (lI (rI' [q.1,q.2])),some (.int (ys.getD q.1 0)),?_⟩
 unfold hlB
 simp -implicitDefEqProofs only[(evA),c,l2,jE,show ((2:Nat):Int)=2 from rfl,decide_true,p0,p1,e1,e2',c1,c2,nn,a1,a2,s1,s2]
 rfl
theorem yI1 {L:List (Nat×Nat)}(h:L ≠ []) (hq:∀q∈L,q.1<61/\q.2<61){s:Str}(hs:45∉tl s):hpT L≠s:=by
 intro e
 apply hs
 rw[<-e]
 cases L with
 | nil=>exact absurd rfl h
 | cons q L =>
  have m:=(zZ9 (hq q List.mem_cons_self).1 (hq q List.mem_cons_self).2).2.2.1
  cases L with
  | nil=>exact m
  | cons p L =>
   show 45∈tl (Str.join " " (pT q::pT p::L.map pT))
   rw[vI,yN,yN,List.append_assoc]
   exact List.mem_append_left _ m
section
variable {w n k:Nat}{xs:List Int}{os:List Nat}
theorem zI8 (A:Ask w n xs os k):qS [tI xs,.int (k:Int),.str (tON (hpT (MR.told n k xs)))]=.ok (.bool true):=by
 obtain⟨h1,h2⟩:=A.told
 obtain⟨hj,hl,hs,_⟩:=zC9 A
 obtain⟨z1,z2,z3,z4,z5,z6,z7⟩:=pz
 have o:=A.ord
 have hx:=o.len
 have tlen:=yL1 k xs n
 have en:=zU4 o A.n60 A.k1
 rw[<-tlen] at en
 have tv:=zW5 o A.k1
 obtain⟨ps,ep,es⟩:∃ps:Res Out,hlS [some (tI xs),some (.int (k:Int)),some (.str (tON (hpT (MR.told n k xs)))),some (lI xs),some (.list []),none,none,none]=ps/\ps=.ok (.nx [some (tI xs),some (.int (k:Int)),some (.str (tON (hpT (MR.told n k xs)))),some (lI xs),some (.list (((MR.told n k xs).map pT).map PyData.str)),none,none,none]):=by
  refine⟨_,rfl,?_⟩
  unfold hlS
  by_cases e0:MR.told n k xs=[]
  ·rw[e0]
   have t:tON (hpT [])="none":=by decide +kernel
   have nn:neD (.str "none") (.str "none")=some false:=by
    rw[gS z2 z2,decide_eq_true rfl]
    rfl
   rw[t]
   simp -implicitDefEqProofs only[(evA),nn]
   rfl
  ·have t:tON (hpT (MR.told n k xs))=hpT (MR.told n k xs):=if_neg (yI1 e0 (fun q hq=>(h2 q hq).2.2) (by decide +kernel))
   have nn:neD (.str (hpT (MR.told n k xs))) (.str "none")=some true:=by
    rw[gS hs z2,decide_eq_false (yI1 e0 (fun q hq=>(h2 q hq).2.2) (by decide +kernel))]
    rfl
   have lb:=wI
   have s0:splD (hpT (MR.told n k xs)) (.str " ")=some (.list (((MR.told n k xs).map pT).map PyData.str)):=by
    unfold splD
    rw[yS,Option.bind_some,if_pos ⟨by decide,by bv_omega⟩]
    have:Txt.split (hpT (MR.told n k xs)) " " = (MR.told n k xs).map pT:=vG (c:=32) (y':=[]) rfl (by decide +kernel) (fun z=>e0 (List.map_eq_nil_iff.mp z)) fun p hp=>by
     obtain⟨q,hq,rfl⟩:=List.mem_map.mp hp
     exact (zZ9 (h2 q hq).2.2.1 (h2 q hq).2.2.2).2.2.2.1
    rw[this]
   rw[t]
   simp -implicitDefEqProofs only[(evA),nn,xU,yS,s0]
 rw[es] at ep
 obtain⟨ρ',e,v5,v6,v7,rfl⟩:=wD (g:=gN 5) (b:=hlB) (fun i ρ=>∃v5 v6 v7,ρ=[some (tI xs),some (.int (k:Int)),some (.str (tON (hpT (MR.told n k xs)))),some (lI (runX xs ((MR.told n k xs).take i))),some (.list (((MR.told n k xs).map pT).map PyData.str)),v5,v6,v7]) (((MR.told n k xs).map pT).map PyData.str) [some (tI xs),some (.int (k:Int)),some (.str (tON (hpT (MR.told n k xs)))),some (lI xs),some (.list (((MR.told n k xs).map pT).map PyData.str)),none,none,none] ⟨none,none,none,rfl⟩ (by
  rintro i d ρ hd ⟨v5,v6,v7,rfl⟩
  rw[List.getElem?_map,List.getElem?_map,Option.map_map] at hd
  obtain⟨q,hq,rfl⟩:=Option.map_eq_some_iff.mp hd
  have mq:=List.mem_of_getElem? hq
  have oi:=yC4 o ((MR.told n k xs).take i) fun q hq=>tv q (List.mem_of_mem_take hq)
  have e1:runX xs ((MR.told n k xs).take (i+1))=swO (runX xs ((MR.told n k xs).take i)) q.1 q.2:=by
   rw[show (MR.told n k xs).take (i+1)=(MR.told n k xs).take i ++ [q] by rw[List.take_succ,hq];rfl,bJ]
   rfl
  obtain⟨w6,w7,eb⟩:=xU2 (u1:=some (.int (k:Int))) (u2:=some (.str (tON (hpT (MR.told n k xs))))) (u4:=some (.list (((MR.told n k xs).map pT).map PyData.str))) (u6:=v6) (u7:=v7) hx oi.len A.n60 (h2 q mq).1 (h2 q mq).2.1
  exact⟨_,_,rfl,eb,some (.str (pT q)),w6,w7,by rw[e1]⟩)
 rw[List.length_map,List.length_map,List.take_length] at e
 have oE:=(zK3 o A.k1).1
 have zE:=(zK3 o A.k1).2
 generalize runX xs (MR.told n k xs)=ys at e oE zE
 have lr:=fR (n:=n) (xs:=ys) n
 have hn:=A.n60
 have h0:=A.n1
 obtain⟨r0,hr0,_⟩:=(oE.yG n (Nat.le_refl n)).cover 0 (by bv_omega)
 have fE:hlE [some (tI xs),some (.int (k:Int)),some (.str (tON (hpT (MR.told n k xs)))),some (lI ys),some (.list (((MR.told n k xs).map pT).map PyData.str)),v5,v6,v7]=.ok (.rt (.bool true)):=by
  have eR:yB [lI ys]=.ok (.list ((rgs n ys n).map fun r=>lI (rI' r))):=zC5 oE (show n<=400 by bv_omega)
  have cc:eComp (iS (eF yB (aC (eV 3) aN))) tYes (eB lenD (aC (eV 0) aN)) [] [some (tI xs),some (.int (k:Int)),some (.str (tON (hpT (MR.told n k xs)))),some (lI ys),some (.list (((MR.told n k xs).map pT).map PyData.str)),v5,v6,v7]=.ok (lI ((rgs n ys n).map fun r=>((r.length:Nat):Int))):=by
   rw[yF (fun r:List Nat=>lI (rI' r)) (fun r=>PyData.int ((r.length:Nat):Int)) (rgs n ys n) (by simp -implicitDefEqProofs only[(evA),eR]) (by bv_omega) fun r hr=>by
    show eB lenD _ [some (lI (rI' r))]=_
    have hl:((rI' r).map PyData.int).length=r.length:=by rw[List.length_map,yI]
    simp -implicitDefEqProofs only[(evA),hl]]
   rw[lI,List.map_map]
   rfl
  have mx:=yE8 (ns:=(rgs n ys n).map fun r=>((r.length:Nat):Int)) (fun z=>by
   have:=List.map_eq_nil_iff.mp z
   rw[this] at hr0
   cases hr0)
  have lg:=yE3 oE h0 A.k1
  rw[decide_eq_true zE] at lg
  refine xZ2 ?_
  simp -implicitDefEqProofs only[(evA),cc,mx,lg]
 have ld:listD [.tuple (xs.map PyData.int)]=some (lI xs):=rfl
 have l4:(((MR.told n k xs).map pT).map PyData.str).length=(MR.told n k xs).length:=by rw[List.length_map,List.length_map]
 show (fU [some (tI xs),some (.int (k:Int)),some (.str (tON (hpT (MR.told n k xs)))),none,none,none,none,none]).bind (fin false)=_
 rw[xN7]
 simp -implicitDefEqProofs only[(evA),ld,ep,l4,en,jE,decide_true,e,fE]
end
def lrB:Ev->Res Out:=(sM 7 extD (aC (eComp (iS (eV 8)) (b2 leI (eB lenD (aC (eV 1) aN)) (e2 ixD (eV 2) (eV 0))) (eV 0) [8,4]) aN))
def lrE:Ev->Res Out:=(sQ (sIf (b2 eqD (eB lenD (aC (eV 7) aN)) (eC (.int 0))) (sR (e2 (fun x y=>bD (eqD x y)) (eV 1) (eC (.str "none")))) sN) (sR (e2 (fun x y=>bD (eqD x y)) (eV 1) (eF xJ (aC (eB sortD (aC (eV 7) aN)) aN)))))
theorem xN6:dP=(sQ (sA (eV 0) (gT 4 (gsC (gN 2) (gsC (gN 3) (gsC (gN 4) (gsC (gN 5) gsN)))))) (sQ (sS 6 (eF yB (aC (eV 3) aN))) (sQ (sIf (b2 eqD (eV 2) (eC (.int 0))) (sR (e2 (fun x y=>bD (eqD x y)) (eV 1) (eF xJ (aC (eComp (iS (eV 6)) tYes (eB lenD (aC (eV 0) aN)) []) aN)))) sN) (sQ (sIf (b2 eqD (eV 2) (eC (.int 2))) (sR (e2 (fun x y=>bD (eqD x y)) (eV 1) (eB strOfD (aC (eF vL (aC (eV 3) (aC (eV 5) aN))) aN)))) sN) (sQ (sIf (b2 eqD (eV 2) (eC (.int 3))) (sR (eF qS (aC (eV 3) (aC (eV 5) (aC (eV 1) aN))))) sN) (sQ (sS 7 (eB mkL aN)) (sQ (sF (iS (eV 6)) (gN 8) lrB) lrE))))))):=rfl
section
variable {w n k:Nat}{xs:List Int}{os:List Nat}
theorem xZ3 (A:Ask w n xs os k){b:Nat}{l:List Nat}{u0 u1 u2 u3 u5 u6:Option D}(hb:b<n) (hl:l.length+(ring n xs b).length<=1000):lrB [u0,u1,u2,u3,some (tI (rI' os)),u5,u6,some (lI (rI' l)),some (lI (rI' (ring n xs b)))]=.ok (.nx [u0,u1,u2,u3,some (tI (rI' os)),u5,u6,some (lI (rI' (l++(ring n xs b).filter (fd n xs (rI' os))))),some (lI (rI' (ring n xs b)))]):=by
 have o:=A.ord
 have q:=A.opn
 have pb:=(o.zD hb).2.1
 have hn:=A.n60
 have c1:eComp (iS (eV 8)) (b2 leI (eB lenD (aC (eV 1) aN)) (e2 ixD (eV 2) (eV 0))) (eV 0) [8,4] [u0,u1,u2,u3,some (tI (rI' os)),u5,u6,some (lI (rI' l)),some (lI (rI' (ring n xs b)))]=.ok (.list (((ring n xs b).filter (fd n xs (rI' os))).map fun c:Nat=>PyData.int (c:Int))):=by
  refine gE (fun c:Nat=>PyData.int (c:Int)) (fd n xs (rI' os)) (fun c:Nat=>PyData.int (c:Int)) (ring n xs b) (by
   simp -implicitDefEqProofs only[(evA)]
   unfold rI'
   rw[List.map_map]
   rfl) (by rw[zJ];bv_omega) (fun c hc => ?_) fun c _ _=>rfl
  have hcn:=o.jV hb (yY.mp hc)
  have ep:=o.vQ hb (yY.mp hc)
  have ea:=zX8 q hcn
  have el:((rI' (ring n xs b)).map PyData.int).length=per n xs c:=by rw[List.length_map,yI,zJ,ep]
  show b2 leI (eB lenD (aC (eV 1) aN)) (e2 ixD (eV 2) (eV 0)) [some (.int (c:Int)),some (lI (rI' (ring n xs b))),some (tI (rI' os))]=_
  simp -implicitDefEqProofs only[(evA),ea,el]
  unfold fd
  congr 1
  rw[Bool.eq_iff_iff,decide_eq_true_iff,decide_eq_true_iff]
  bv_omega
 have fl:=List.length_filter_le (fd n xs (rI' os)) (ring n xs b)
 have e1:=zY7 (l:=(rI' l).map PyData.int) (k:=((ring n xs b).filter (fd n xs (rI' os))).map fun c:Nat=>PyData.int (c:Int)) (d:=.list (((ring n xs b).filter (fd n xs (rI' os))).map fun c:Nat=>PyData.int (c:Int))) rfl (by rw[List.length_map,List.length_map,yI];bv_omega)
 have e3:lI (rI' (l++(ring n xs b).filter (fd n xs (rI' os))))=.list ((rI' l).map PyData.int++((ring n xs b).filter (fd n xs (rI' os))).map fun c:Nat=>PyData.int (c:Int)):=by
  unfold lI rI'
  rw[List.map_append,List.map_append,List.map_map,List.map_map]
  rfl
 rw[e3]
 unfold lrB
 simp -implicitDefEqProofs only[(evA),c1,e1]
theorem zB3 (A:Ask w n xs os k):vP [askD w xs os k,.str (ansT w n xs os k)]=.ok (.bool true):=by
 have o:=A.ord
 have hn:=A.n60
 have q:=A.rs
 have ak:=(zK2 A).2.2
 have gt:gT 4 (gsC (gN 2) (gsC (gN 3) (gsC (gN 4) (gsC (gN 5) gsN)))) (askD w xs os k) [some (askD w xs os k),some (.str (ansT w n xs os k)),none,none,none,none,none,none,none]=some [some (askD w xs os k),some (.str (ansT w n xs os k)),some (.int (w:Int)),some (tI xs),some (tI (rI' os)),some (.int (k:Int)),none,none,none]:=rfl
 have er:=gD o (show n<=400 by bv_omega)
 show (dP [some (askD w xs os k),some (.str (ansT w n xs os k)),none,none,none,none,none,none,none]).bind (fin false)=_
 rw[xN6]
 rcases (show w=0\/w=1\/w=2\/w=3 by have:=A.w4;bv_omega) with rfl | rfl | rfl | rfl
 ·have cc:=zN4 A (mi:=iS (eV 6)) (f:=fun r=>lI (rI' r)) (ρ:=[some (askD 0 xs os k),some (.str (ansT 0 n xs os k)),some (.int ((0:Nat):Int)),some (tI xs),some (tI (rI' os)),some (.int (k:Int)),some (.list ((rgs n xs n).map fun r=>lI (rI' r))),none,none]) (fun r=>.inr rfl) (by simp -implicitDefEqProofs only[(evA)])
  have eb:=gW (d:=lI (rI' (lens n xs))) (.inr rfl) A.lens.1 A.lens.2
  have ea:ansT 0 n xs os k=rT (lens n xs):=rfl
  have se:=strEq ak
  rw[ea] at se gt cc ⊢
  have i0:eqD (.int ((0:Nat):Int)) (.int 0)=some true:=by rw[yH];rfl
  simp -implicitDefEqProofs only[(evA),gt,er,i0,cc,eb,se]
 ·
  have i0:eqD (.int ((1:Nat):Int)) (.int 0)=some false:=by rw[yH];rfl
  have i2:eqD (.int ((1:Nat):Int)) (.int 2)=some false:=by rw[yH];rfl
  have i3:eqD (.int ((1:Nat):Int)) (.int 3)=some false:=by rw[yH];rfl
  have ok:=o.yG n (Nat.le_refl n)
  have fln:=bG o
  obtain⟨ρ',e,v8,rfl⟩:=wD (g:=gN 8) (b:=lrB) (fun i ρ=>∃v8,ρ=[some (askD 1 xs os k),some (.str (ansT 1 n xs os k)),some (.int ((1:Nat):Int)),some (tI xs),some (tI (rI' os)),some (.int (k:Int)),some (.list ((rgs n xs n).map fun r=>lI (rI' r))),some (lI (rI' (((rgs n xs n).take i).flatten.filter (fd n xs (rI' os))))),v8]) ((rgs n xs n).map fun r=>lI (rI' r)) [some (askD 1 xs os k),some (.str (ansT 1 n xs os k)),some (.int ((1:Nat):Int)),some (tI xs),some (tI (rI' os)),some (.int (k:Int)),some (.list ((rgs n xs n).map fun r=>lI (rI' r))),some (.list []),none] ⟨none,rfl⟩ (by
   rintro i d ρ hd ⟨v8,rfl⟩
   rw[List.getElem?_map] at hd
   obtain⟨r,hr,rfl⟩:=Option.map_eq_some_iff.mp hd
   obtain⟨b,hb,rfl,_⟩:=ok.each r (List.mem_of_getElem? hr)
   have e1:(rgs n xs n).take (i+1)=(rgs n xs n).take i ++ [ring n xs b]:=by rw[List.take_succ,hr];rfl
   have le:((rgs n xs n).take i).flatten.length+(ring n xs b).length<=n:=by
    have:((rgs n xs n).take (i+1)).flatten.length<=(rgs n xs n).flatten.length:=by
     conv=>rhs;rw[<-List.take_append_drop (i+1) (rgs n xs n)]
     rw[List.flatten_append,List.length_append]
     bv_omega
    rw[e1,List.flatten_append,List.length_append,fln] at this
    simpa using this
   have lf:=List.length_filter_le (fd n xs (rI' os)) ((rgs n xs n).take i).flatten
   refine⟨_,_,rfl,xZ3 A hb (by bv_omega),some (lI (rI' (ring n xs b))),?_⟩
   rw[e1,List.flatten_append,List.filter_append]
   simp)
  rw[List.length_map,List.take_length] at e
  have ea:ansT 1 n xs os k=tON (rT (fl n xs os)):=rfl
  have lf:=List.length_filter_le (fd n xs (rI' os)) (rgs n xs n).flatten
  have so:sortD [.list ((rI' ((rgs n xs n).flatten.filter (fd n xs (rI' os)))).map PyData.int)]=some (lI (rI' (fl n xs os))):=by
   have s:=aR (ns:=rI' ((rgs n xs n).flatten.filter (fd n xs (rI' os)))) (by rw[yI];bv_omega)
   rw[zH6 o] at s
   exact s
  have ll:((rgs n xs n).flatten.filter (fd n xs (rI' os))).length=(fl n xs os).length:=((dD o).filter _).length_eq
  have l7:((rI' ((rgs n xs n).flatten.filter (fd n xs (rI' os)))).map PyData.int).length=(fl n xs os).length:=by rw[List.length_map,yI,ll]
  have fE:lrE [some (askD 1 xs os k),some (.str (ansT 1 n xs os k)),some (.int ((1:Nat):Int)),some (tI xs),some (tI (rI' os)),some (.int (k:Int)),some (.list ((rgs n xs n).map fun r=>lI (rI' r))),some (lI (rI' ((rgs n xs n).flatten.filter (fd n xs (rI' os))))),v8]=.ok (.rt (.bool true)):=by
   unfold lrE
   by_cases z:fl n xs os=[]
   ·have l0:((fl n xs os).length:Int)=0:=by rw[z];rfl
    have t:ansT 1 n xs os k="none":=by rw[ea,z];decide +kernel
    rw[t]
    simp -implicitDefEqProofs only[(evA),l7,l0,yH,decide_true,strEq pz.2.1]
   ·have l0:¬((fl n xs os).length:Int)=0:=fun y=>z (List.eq_nil_of_length_eq_zero (by bv_omega))
    have ne:rT (fl n xs os) ≠ "":=fun y=>by
     have y:=congrArg tl y
     obtain⟨a,l,el⟩:∃a l,fl n xs os=a::l:=by
      cases e:fl n xs os with
      | nil=>exact absurd e z
      | cons a l=>exact⟨a,l,rfl⟩
     have a61:=A.fl.1 a (by rw[el];exact List.mem_cons_self)
     rw[el] at y
     have nn:=yA3 a61
     cases l with
     | nil=>exact nn y
     | cons c l =>
      have y:tl (Str.join " " (numT a::numT c::l.map numT))=[]:=y
      rw[vI,yN,yN,List.append_assoc] at y
      exact nn (List.append_eq_nil_iff.mp y).1
    have t:ansT 1 n xs os k=rT (fl n xs os):=by rw[ea];exact if_neg ne
    rw[t]
    simp -implicitDefEqProofs only[(evA),l7,yH,decide_eq_false l0,so,gW (.inr rfl) A.fl.1 A.fl.2,strEq (zO1 A.fl.1)]
  simp -implicitDefEqProofs only[(evA),gt,er,i0,i2,i3,e,fE]
 ·have i0:eqD (.int ((2:Nat):Int)) (.int 0)=some false:=by rw[yH];rfl
  have i2:eqD (.int ((2:Nat):Int)) (.int 2)=some true:=by rw[yH];rfl
  have en:=zU4 o hn A.k1
  have es:strOfD [.int ((ND n k xs:Nat):Int)]=some (.str (numT (ND n k xs))):=if_pos (yC _ A.nd).2.2.2.1
  have ea:ansT 2 n xs os k=numT (ND n k xs):=rfl
  have se:=strEq ak
  rw[ea] at se gt ⊢
  simp -implicitDefEqProofs only[(evA),gt,er,i0,i2,en,es,se]
 ·have i0:eqD (.int ((3:Nat):Int)) (.int 0)=some false:=by rw[yH];rfl
  have i2:eqD (.int ((3:Nat):Int)) (.int 2)=some false:=by rw[yH];rfl
  have i3:eqD (.int ((3:Nat):Int)) (.int 3)=some true:=by rw[yH];rfl
  have eh:=zI8 A
  have ea:ansT 3 n xs os k=tON (hpT (MR.told n k xs)):=rfl
  rw[ea] at gt ⊢
  simp -implicitDefEqProofs only[(evA),gt,er,i0,i2,i3,eh]
end
structure AskT where
 w:Nat
 n:Nat
 k:Nat
 xs:List Int
 os:List Nat
def AskT.G (a:AskT):Prop:=Ask a.w a.n a.xs a.os a.k
def rowA (a:AskT):Str:=rowT a.w a.n a.xs a.os a.k
def ansA (a:AskT):Str:=ansT a.w a.n a.xs a.os a.k
def dA (a:AskT):D:=askD a.w a.xs a.os a.k
theorem bE {ts:List Str}(hl:ts.length<=12) (ht:∀t∈ts,t.length<=13000):JoinOk "\n" ts=true/\(Str.join "\n" ts).length+2<=sizeLine:=by
 have c:("\n":Str).length=1:=rfl
 have sl:sizeLine=16777216:=by decide
 have h1:=Nat.mul_le_mul_right 13000 hl
 refine⟨?_,?_⟩
 ·unfold JoinOk
  rw[StrLaws.joinFits ht (by rw[c];bv_omega)]
  rfl
 ·have a:=StrLaws.join_length_le "\n" ts
  have b:=StrLaws.sumLen_le ts ht
  rw[c] at a
  bv_omega
theorem zL8 {ts:List Str}(h0:ts ≠ []) (hl:ts.length<=12) (ht:∀t∈ts,t.length<=13000) (hf:∀t∈ts,10∉tl t):splD (Str.join "\n" ts) (.str "\n")=some (.list (ts.map PyData.str)):=by
 unfold splD
 rw[yS,Option.bind_some,if_pos ⟨by decide,(bE hl ht).2⟩,vG (c:=10) (y':=[]) rfl (by decide +kernel) h0 hf]
section
variable {L:List AskT}
theorem zH8 (hg:∀a∈L,a.G):(∀t∈L.map rowA,t.length<=13000)/\∀t∈L.map rowA,10∉tl t:=by
 refine⟨fun t ht => ?_,fun t ht => ?_⟩
 ·obtain⟨a,ha,rfl⟩:=List.mem_map.mp ht
  exact zF2 (hg a ha)
 ·obtain⟨a,ha,rfl⟩:=List.mem_map.mp ht
  exact yO6 (hg a ha)
theorem zG5 (hg:∀a∈L,a.G):(∀t∈L.map ansA,t.length<=13000)/\∀t∈L.map ansA,10∉tl t:=by
 refine⟨fun t ht => ?_,fun t ht => ?_⟩
 ·obtain⟨a,ha,rfl⟩:=List.mem_map.mp ht
  exact Nat.le_trans (zK2 (hg a ha)).1 (by decide)
 ·obtain⟨a,ha,rfl⟩:=List.mem_map.mp ht
  exact (zK2 (hg a ha)).2.1
theorem zI6 (h0:L ≠ []) (hl:L.length<=12) (hg:∀a∈L,a.G):jN [.str (Str.join "\n" (L.map rowA))]=.ok (.str (Str.join "\n" (L.map ansA))):=by
 obtain⟨r1,r2⟩:=zH8 hg
 obtain⟨a1,a2⟩:=zG5 hg
 have s:=zL8 (ts:=L.map rowA) (fun z=>h0 (List.map_eq_nil_iff.mp z)) (by rw[List.length_map];exact hl) r1 r2
 have j:=qQ (bE (ts:=L.map ansA) (by rw[List.length_map];exact hl) a1).1
 have cc:eComp (iS (eM1S splD (eV 0) (eC (.str "\n")))) tYes (eF yL (aC (eV 0) aN)) [] [some (.str (Str.join "\n" (L.map rowA)))]=.ok (.list ((L.map ansA).map PyData.str)):=by
  rw[List.map_map]
  refine yF (fun a=>PyData.str (rowA a)) (fun a=>PyData.str (ansA a)) L (by
   simp -implicitDefEqProofs only[(evA),xU,yS,s]
   rw[List.map_map]
   rfl) (by bv_omega) fun a ha => ?_
  show eF yL (aC (eV 0) aN) [some (.str (rowA a))]=_
  have e:yL [.str (rowA a)]=.ok (.str (ansA a)):=zA6 (hg a ha)
  simp -implicitDefEqProofs only[(evA),e]
 show (fS [some (.str (Str.join "\n" (L.map rowA)))]).bind (fin false)=_
 unfold fS
 simp -implicitDefEqProofs only[(evA),xU,yS,cc,j]
theorem yZ1 (h0:L ≠ []) (hl:L.length<=12) (hg:∀a∈L,a.G):hX [.list (L.map dA)]=.ok (.bool true):=by
 obtain⟨r1,r2⟩:=zH8 hg
 obtain⟨a1,a2⟩:=zG5 hg
 have cr:eComp (iS (eV 0)) tYes (eF qK (aC (eV 0) aN)) [] [some (.list (L.map dA)),none,none]=.ok (.list ((L.map rowA).map PyData.str)):=by
  rw[List.map_map]
  refine yF dA (fun a=>PyData.str (rowA a)) L (by simp -implicitDefEqProofs only[(evA)]) (by bv_omega) fun a ha => ?_
  show eF qK (aC (eV 0) aN) [some (dA a)]=_
  have e:qK [dA a]=.ok (.str (rowA a)):=yO5 (hg a ha)
  simp -implicitDefEqProofs only[(evA),e]
 have j:=qQ (bE (ts:=L.map rowA) (by rw[List.length_map];exact hl) r1).1
 have s:=zL8 (ts:=L.map ansA) (fun z=>h0 (List.map_eq_nil_iff.mp z)) (by rw[List.length_map];exact hl) a1 a2
 have ib:∀z:Str,isiD "str" (.str z)=some (.bool true):=fun _=>rfl
 have l1:((L.map ansA).map PyData.str).length=L.length:=by rw[List.length_map,List.length_map]
 have l2:(L.map dA).length=L.length:=List.length_map ..
 have ca:eComp (iR rng1 (aC (eB lenD (aC (eV 0) aN)) aN)) tYes (eF vP (aC (e2 ixD (eV 1) (eV 0)) (aC (e2 ixD (eV 2) (eV 0)) aN))) [0,2] [some (.list (L.map dA)),some (.str (Str.join "\n" (L.map ansA))),some (.list ((L.map ansA).map PyData.str))]=.ok (.list ((List.range L.length).map fun _=>PyData.bool true)):=by
  refine yF (fun i:Nat=>PyData.int (i:Int)) (fun _=>PyData.bool true) (List.range L.length) (by simp -implicitDefEqProofs only[(evA),l2,qJ (show L.length<=1000 by bv_omega)]) (by rw[List.length_range];bv_omega) fun i hi => ?_
  have hi:=List.mem_range.mp hi
  have g1:atI (L.map dA) (i:Int)=some (dA L[i]):=jF (by rw[List.getElem?_map,List.getElem?_eq_getElem hi];rfl)
  have g2:atI ((L.map ansA).map PyData.str) (i:Int)=some (.str (ansA L[i])):=jF (by rw[List.getElem?_map,List.getElem?_map,List.getElem?_eq_getElem hi];rfl)
  have e:vP [dA L[i],.str (ansA L[i])]=.ok (.bool true):=zB3 (hg _ (List.getElem_mem hi))
  show eF vP (aC (e2 ixD (eV 1) (eV 0)) (aC (e2 ixD (eV 2) (eV 0)) aN)) [some (.int (i:Int)),some (.list (L.map dA)),some (.list ((L.map ansA).map PyData.str))]=_
  simp -implicitDefEqProofs only[(evA),g1,g2,e]
 have ad:=yT2 (List.range L.length) (fun _=>true) fun _ _=>rfl
 show (cU [some (.list (L.map dA)),none,none]).bind (fin false)=_
 unfold cU
 simp -implicitDefEqProofs only[(evA),xU,yS,cr,j,zI6 h0 hl hg,ib,s,l1,l2,jE,decide_true,ca,ad]
end
theorem xU5 {n:Nat}{ops:List Int}(q:Opn n ops) (h2:n<=60):∃os:List Nat,ops=rI' os/\os.length=n/\∀x∈os,x<61:=by
 refine⟨ops.map Int.toNat,?_,by rw[List.length_map,q.len],fun x hx => ?_⟩
 ·unfold rI'
  rw[List.map_map]
  conv=>lhs;rw[<-List.map_id ops]
  refine List.map_congr_left fun x hx => ?_
  have:=(q.bd x hx).1
  show x=((x.toNat:Nat):Int)
  bv_omega
 ·obtain⟨y,hy,rfl⟩:=List.mem_map.mp hx
  have:=q.bd y hy
  bv_omega
theorem zA4 (c:Int):∃a:AskT,a.G/\wL [.int c]=.ok (dA a):=by
 have ab:absD [.int c]=some (.int (if c<0 then -c else c)):=rfl
 generalize hc:(if c<0 then -c else c)=c' at ab
 have D4:DivOk 4:=DivOk.small (by decide) (by decide)
 have D48:DivOk 48:=DivOk.small (by decide) (by decide)
 have D384:DivOk 384:=DivOk.small (by decide) (by decide)
 have D400:DivOk 400:=DivOk.small (by decide) (by decide)
 have D50:DivOk 50:=DivOk.small (by decide) (by decide)
 have D500:DivOk 500:=DivOk.small (by decide) (by decide)
 obtain⟨n,n1,n60,en⟩:∃n:Nat,1<=n/\n<=60/\(if c' / 48%8=3 then 1+c' / 4%60 else 1+c' / 4%12)=(n:Int):=by
  have a0:=Int.emod_nonneg (c' / 4) (show (60:Int)≠0 by decide)
  have a1:=Int.emod_lt_of_pos (c' / 4) (show (0:Int)<60 by decide)
  have b0:=Int.emod_nonneg (c' / 4) (show (12:Int)≠0 by decide)
  have b1:=Int.emod_lt_of_pos (c' / 4) (show (0:Int)<12 by decide)
  refine⟨(if c' / 48%8=3 then 1+c' / 4%60 else 1+c' / 4%12).toNat,?_,?_,?_⟩ <;> split <;> bv_omega
 have np:(0:Int)<(n:Int):=by bv_omega
 have eo:=zC7 (c' / 384) n (show n<=1000 by bv_omega)
 have o:=aM (c' / 384) n
 generalize (lawOrd (c' / 384) n).1=xs at eo o
 obtain⟨ops,q,eq⟩:=zR3 (c' / 400) (n:=n) n60
 have a0:=zX8 q (p:=0) (by bv_omega)
 have a0':atI (ops.map PyData.int) 0=some (.int ((ops.getD 0 0).toNat:Int)):=a0
 obtain⟨v,hv⟩:∃v:Int,1+((ops.getD 0 0).toNat:Int)%(n:Int)=v:=⟨_,rfl⟩
 have v0:=Int.emod_nonneg ((ops.getD 0 0).toNat:Int) (show (n:Int)≠0 by bv_omega)
 have v1:=Int.emod_lt_of_pos ((ops.getD 0 0).toNat:Int) np
 have cv:∀(u0 u2:Option D),eComp (iR rng1 (aC (eV 1) aN)) tYes (e2 addI (eC (.int 1)) (e2 modI (e2 ixD (eV 1) (eC (.int 0))) (eV 2))) [3,1] [u0,some (.int (n:Int)),u2,some (tI ops)]=.ok (.list ((List.replicate n v).map PyData.int)):=fun u0 u2=>by
  have e:=yF (mi:=iR rng1 (aC (eV 1) aN)) (me:=e2 addI (eC (.int 1)) (e2 modI (e2 ixD (eV 1) (eC (.int 0))) (eV 2))) (js:=[3,1]) (ρ:=[u0,some (.int (n:Int)),u2,some (tI ops)]) (fun i:Nat=>PyData.int (i:Int)) (fun _=>PyData.int v) (List.range n) (by simp -implicitDefEqProofs only[(evA),qJ (show n<=1000 by bv_omega)]) (by rw[List.length_range];bv_omega) fun i _=>by
   show e2 addI (eC (.int 1)) (e2 modI (e2 ixD (eV 1) (eC (.int 0))) (eV 2)) [some (.int (i:Int)),some (tI ops),some (.int (n:Int))]=_
   simp -implicitDefEqProofs only[(evA),a0',modO,if_pos np,hv]
  have er:(List.range n).map (fun _=>PyData.int v)=(List.replicate n v).map PyData.int:=by
   rw[List.map_replicate,List.map_const',List.length_range]
  rw[e,er]
 obtain⟨ops',q',e'⟩:∃ops',Opn n ops'/\(if c' / 50%2=0 then tI (List.replicate n v) else tI ops)=tI ops':=by
  by_cases z:c' / 50%2=0
  ·rw[if_pos z]
   exact⟨_,⟨List.length_replicate,fun x hx=>by rw[(List.mem_replicate.mp hx).2];bv_omega⟩,rfl⟩
  ·rw[if_neg z]
   exact⟨_,q,rfl⟩
 obtain⟨os,rfl,ol,oo⟩:=xU5 q' n60
 have k0:=Int.emod_nonneg (c' / 500) (show (n:Int)≠0 by bv_omega)
 have k1:=Int.emod_lt_of_pos (c' / 500) np
 obtain⟨k,hk⟩:∃k:Nat,1+c' / 500%(n:Int)=(k:Int):=⟨(1+c' / 500%(n:Int)).toNat,by bv_omega⟩
 have w0:=Int.emod_nonneg c' (show (4:Int)≠0 by decide)
 have w1:=Int.emod_lt_of_pos c' (show (0:Int)<4 by decide)
 obtain⟨w,hw⟩:∃w:Nat,c'%4=(w:Int):=⟨(c'%4).toNat,by bv_omega⟩
 refine⟨⟨w,n,k,xs,os⟩,⟨by show w<4;bv_omega,o,n1,n60,q',ol,oo,by show 1<=k;bv_omega,by show k<=n;bv_omega⟩,?_⟩
 have m4:mkT [.int (w:Int),tI xs,tI (rI' os),.int (k:Int)]=some (askD w xs os k):=rfl
 show (dW [some (.int c),none,none,none]).bind (fin false)=.ok (askD w xs os k)
 unfold dW
 by_cases y:c' / 48%8=3
 ·rw[if_pos y] at en
  by_cases z:c' / 50%2=0
  ·rw[if_pos z] at e'
   have e2':PyData.tuple ((List.replicate n v).map PyData.int)=tI (rI' os):=e'
   simp -implicitDefEqProofs only[(evA),ab,fdivO,modO,if_pos D4,if_pos D48,if_pos D384,if_pos D400,if_pos D50,if_pos D500,if_pos (show (0:Int)<12 by decide),if_pos (show (0:Int)<8 by decide),if_pos (show (0:Int)<60 by decide),if_pos (show (0:Int)<2 by decide),if_pos (show (0:Int)<4 by decide),yH,decide_eq_true y,decide_eq_true z,en,eo,eq,cv,e2',if_pos np,hk,hw,m4]
  ·rw[if_neg z] at e'
   have e2':tI ops=tI (rI' os):=e'
   rw[e2'] at eq
   simp -implicitDefEqProofs only[(evA),ab,fdivO,modO,if_pos D4,if_pos D48,if_pos D384,if_pos D400,if_pos D50,if_pos D500,if_pos (show (0:Int)<12 by decide),if_pos (show (0:Int)<8 by decide),if_pos (show (0:Int)<60 by decide),if_pos (show (0:Int)<2 by decide),if_pos (show (0:Int)<4 by decide),yH,decide_eq_true y,decide_eq_false z,en,eo,eq,if_pos np,hk,hw,m4]
 ·rw[if_neg y] at en
  by_cases z:c' / 50%2=0
  ·rw[if_pos z] at e'
   have e2':PyData.tuple ((List.replicate n v).map PyData.int)=tI (rI' os):=e'
   simp -implicitDefEqProofs only[(evA),ab,fdivO,modO,if_pos D4,if_pos D48,if_pos D384,if_pos D400,if_pos D50,if_pos D500,if_pos (show (0:Int)<12 by decide),if_pos (show (0:Int)<8 by decide),if_pos (show (0:Int)<60 by decide),if_pos (show (0:Int)<2 by decide),if_pos (show (0:Int)<4 by decide),yH,decide_eq_false y,decide_eq_true z,en,eo,eq,cv,e2',if_pos np,hk,hw,m4]
  ·rw[if_neg z] at e'
   have e2':tI ops=tI (rI' os):=e'
   rw[e2'] at eq
   simp -implicitDefEqProofs only[(evA),ab,fdivO,modO,if_pos D4,if_pos D48,if_pos D384,if_pos D400,if_pos D50,if_pos D500,if_pos (show (0:Int)<12 by decide),if_pos (show (0:Int)<8 by decide),if_pos (show (0:Int)<60 by decide),if_pos (show (0:Int)<2 by decide),if_pos (show (0:Int)<4 by decide),yH,decide_eq_false y,decide_eq_false z,en,eo,eq,if_pos np,hk,hw,m4]
theorem step12:∀l:Nat,l<65->StepOk 0 (l:Int) 12/\Builtin.Range.rangeSize 0 (l:Int) 12=(((l+11) / 12:Nat):Int):=by decide +kernel
theorem law_true (ns:List Int) (h:ns.length<=63):yZ6 [.list (ns.map PyData.int)]=.ok (.bool true):=by
 have ch:∀c:Int,∃a:AskT,a.G/\wL [.int c]=.ok (dA a):=zA4
 let ask:Int->AskT:=fun c=>(ch c).choose
 have ag:∀c,(ask c).G:=fun c=>(ch c).choose_spec.1
 have ae:∀c,wL [.int c]=.ok (dA (ask c)):=fun c=>(ch c).choose_spec.2
 have c2:catL (.list [.int 5]) (lI ns)=_:=yC9 (xs:=[5]) (ys:=ns) (by simp;bv_omega)
 have c2':catL (.list [.int 5]) (.list (ns.map PyData.int))=_:=c2
 have cc:eComp (iS (e2 catL (eB mkL (aC (eC (.int 5)) aN)) (eB listD (aC (eV 0) aN)))) tYes (eF wL (aC (eV 0) aN)) [] [some (lI ns),none,none]=.ok (.list (((([5]++ns).map ask)).map dA)):=by
  rw[List.map_map]
  refine yF PyData.int (fun c=>dA (ask c)) ([5]++ns) (by simp -implicitDefEqProofs only[(evA),c2']) (by simp;bv_omega) fun c _ => ?_
  show eF wL (aC (eV 0) aN) [some (.int c)]=_
  simp -implicitDefEqProofs only[(evA),ae]
 have gl:∀a∈([5]++ns).map ask,a.G:=fun a ha=>by
  obtain⟨c,_,rfl⟩:=List.mem_map.mp ha
  exact ag c
 have ll:(([5]++ns).map ask).length=ns.length+1:=by simp
 generalize ([5]++ns).map ask=L at cc gl ll
 have lD:(L.map dA).length=L.length:=List.length_map ..
 have r3:rng3 [.int 0,.int ((L.length:Nat):Int),.int 12]=some ((List.range ((L.length+11) / 12)).map fun (m:Nat)=>PyData.int (((m*12:Nat)):Int)):=by
  obtain⟨ok,sz⟩:=step12 L.length (by bv_omega)
  unfold rng3
  simp only
  rw[if_pos ok,sz,Int.toNat_natCast]
  congr 1
  refine List.map_congr_left fun m _ => ?_
  show PyData.int (0+(m:Int)*12)=PyData.int ((m*12:Nat):Int)
  rw[show (0:Int)+(m:Int)*12=((m*12:Nat):Int) by bv_omega]
 show (yY1 [some (lI ns),none,none]).bind (fin false)=_
 unfold yY1
 simp -implicitDefEqProofs only[(evA),cc,lD,r3]
 refine cN (fun i ρ=>∃x,ρ=[some (lI ns),some (.list (L.map dA)),x]) ⟨none,rfl⟩ ?_ ?_
 ·rintro i d ρ hd ⟨x,rfl⟩
  rw[List.getElem?_map] at hd
  obtain⟨m,hm,rfl⟩:=Option.map_eq_some_iff.mp hd
  have hm2:=List.mem_range.mp (List.mem_of_getElem? hm)
  have cd:cutD (L.map dA) (some ((m*12:Nat):Int)) (some (((m*12:Nat):Int)+12))=(cutD L (some ((m*12:Nat):Int)) (some ((m*12+12:Nat):Int))).map dA:=yL7 ..
  have cm:∀a∈cutD L (some ((m*12:Nat):Int)) (some ((m*12+12:Nat):Int)),a∈L:=fun a ha=>by
   unfold cutD at ha
   exact List.mem_of_mem_drop (List.mem_of_mem_take ha)
  have cl:(cutD L (some ((m*12:Nat):Int)) (some ((m*12+12:Nat):Int))).length=min (min (m*12+12) L.length-min (m*12) L.length) (L.length-min (m*12) L.length):=by
   unfold cutD
   rw[List.length_take,List.length_drop,HT.zV2,HT.zV2]
  have es:=yZ1 (L:=cutD L (some ((m*12:Nat):Int)) (some ((m*12+12:Nat):Int))) (fun z=>by rw[z] at cl;simp at cl;bv_omega) (by rw[cl];bv_omega) fun a ha=>gl a (cm a ha)
  refine⟨_,_,rfl,?_,some (.int ((m*12:Nat):Int)),rfl⟩
  simp -implicitDefEqProofs only[(evA),cd,es]
 ·rintro ρ ⟨x,rfl⟩
  simp -implicitDefEqProofs only[(evA)]
end K53
def PySem.W.Fast.tw17260415349505375567 : Unit := ()
theorem PySem.W.Fast.te17260415349505375567 : True := trivial
def PySem.W.Fast.tw9483462524164333342 : PySem.Program := PySem.Challenge.pw_ownboxes_k53_orders_asked
theorem PySem.W.Fast.te9483462524164333342 : PySem.Challenge.pw_ownboxes_k53_orders_asked = PySem.W.Fast.tw9483462524164333342 := rfl
def PySem.W.Fast.tw15895375913556329772 : Unit := ()
def PySem.W.Fast.tw12411273683365070662 : Unit := ()
def PySem.W.Fast.tw4267365515420078030 : Unit := ()
def PySem.W.Fast.tw8540069988002910917 : Unit := ()
open PySem PySem.W PyProof.Rows
theorem K53.big_mk {K:KFr}{a_BadOpenings a_BadOrder a_NoHelp:PySem.Addr}(n_BadOpenings:PySem.W.nsIn K PySem.mainGlobals "BadOpenings" = some (some (.ref a_BadOpenings))) (n_BadOrder:PySem.W.nsIn K PySem.mainGlobals "BadOrder" = some (some (.ref a_BadOrder))) (n_NoHelp:PySem.W.nsIn K PySem.mainGlobals "NoHelp" = some (some (.ref a_NoHelp))) (o_BadOrder:PySem.W.excIn K a_BadOrder L2.L3.bmV "ValueError.__new__" = true) (g1_BadOrder:PySem.W.findIn K (.ref a_BadOrder) "__getattribute__" = some (some (.builtin "BaseException.__getattribute__"))) (g2_BadOrder:PySem.W.findIn K (.ref a_BadOrder) "__getattr__" = some none) (g3_BadOrder:PySem.W.findIn K (.ref a_BadOrder) "__class__" = some (some (.builtin "object.__class__"))) (g4_BadOrder:PySem.W.kitOne K (.ref a_BadOrder) (.type "BaseException")=some true) (g5_BadOrder:PySem.W.kitOne K (.ref a_BadOrder) (.type "object")=some true) (g6_BadOrder:(PySem.W.clsIn K a_BadOrder).isSome=true) (o_BadOpenings:PySem.W.excIn K a_BadOpenings L2.L3.bmV "ValueError.__new__" = true) (g1_BadOpenings:PySem.W.findIn K (.ref a_BadOpenings) "__getattribute__" = some (some (.builtin "BaseException.__getattribute__"))) (g2_BadOpenings:PySem.W.findIn K (.ref a_BadOpenings) "__getattr__" = some none) (g3_BadOpenings:PySem.W.findIn K (.ref a_BadOpenings) "__class__" = some (some (.builtin "object.__class__"))) (g4_BadOpenings:PySem.W.kitOne K (.ref a_BadOpenings) (.type "BaseException")=some true) (g5_BadOpenings:PySem.W.kitOne K (.ref a_BadOpenings) (.type "object")=some true) (g6_BadOpenings:(PySem.W.clsIn K a_BadOpenings).isSome=true) (o_NoHelp:PySem.W.excIn K a_NoHelp L2.L3.bmV "ValueError.__new__" = true) (g1_NoHelp:PySem.W.findIn K (.ref a_NoHelp) "__getattribute__" = some (some (.builtin "BaseException.__getattribute__"))) (g2_NoHelp:PySem.W.findIn K (.ref a_NoHelp) "__getattr__" = some none) (g3_NoHelp:PySem.W.findIn K (.ref a_NoHelp) "__class__" = some (some (.builtin "object.__class__"))) (g4_NoHelp:PySem.W.kitOne K (.ref a_NoHelp) (.type "BaseException")=some true) (g5_NoHelp:PySem.W.kitOne K (.ref a_NoHelp) (.type "object")=some true) (g6_NoHelp:(PySem.W.clsIn K a_NoHelp).isSome=true):∃a_BadOpenings a_BadOrder a_NoHelp:PySem.Addr,(PySem.W.nsIn K PySem.mainGlobals "BadOpenings" = some (some (.ref a_BadOpenings)))/\(PySem.W.nsIn K PySem.mainGlobals "BadOrder" = some (some (.ref a_BadOrder)))/\(PySem.W.nsIn K PySem.mainGlobals "NoHelp" = some (some (.ref a_NoHelp)))/\(PySem.W.excIn K a_BadOrder L2.L3.bmV "ValueError.__new__" = true)/\(PySem.W.findIn K (.ref a_BadOrder) "__getattribute__" = some (some (.builtin "BaseException.__getattribute__")))/\(PySem.W.findIn K (.ref a_BadOrder) "__getattr__" = some none)/\(PySem.W.findIn K (.ref a_BadOrder) "__class__" = some (some (.builtin "object.__class__")))/\(PySem.W.kitOne K (.ref a_BadOrder) (.type "BaseException")=some true)/\(PySem.W.kitOne K (.ref a_BadOrder) (.type "object")=some true)/\((PySem.W.clsIn K a_BadOrder).isSome=true)/\(PySem.W.excIn K a_BadOpenings L2.L3.bmV "ValueError.__new__" = true)/\(PySem.W.findIn K (.ref a_BadOpenings) "__getattribute__" = some (some (.builtin "BaseException.__getattribute__")))/\(PySem.W.findIn K (.ref a_BadOpenings) "__getattr__" = some none)/\(PySem.W.findIn K (.ref a_BadOpenings) "__class__" = some (some (.builtin "object.__class__")))/\(PySem.W.kitOne K (.ref a_BadOpenings) (.type "BaseException")=some true)/\(PySem.W.kitOne K (.ref a_BadOpenings) (.type "object")=some true)/\((PySem.W.clsIn K a_BadOpenings).isSome=true)/\(PySem.W.excIn K a_NoHelp L2.L3.bmV "ValueError.__new__" = true)/\(PySem.W.findIn K (.ref a_NoHelp) "__getattribute__" = some (some (.builtin "BaseException.__getattribute__")))/\(PySem.W.findIn K (.ref a_NoHelp) "__getattr__" = some none)/\(PySem.W.findIn K (.ref a_NoHelp) "__class__" = some (some (.builtin "object.__class__")))/\(PySem.W.kitOne K (.ref a_NoHelp) (.type "BaseException")=some true)/\(PySem.W.kitOne K (.ref a_NoHelp) (.type "object")=some true)/\((PySem.W.clsIn K a_NoHelp).isSome=true):=⟨a_BadOpenings,a_BadOrder,a_NoHelp,n_BadOpenings,n_BadOrder,n_NoHelp,o_BadOrder,g1_BadOrder,g2_BadOrder,g3_BadOrder,g4_BadOrder,g5_BadOrder,g6_BadOrder,o_BadOpenings,g1_BadOpenings,g2_BadOpenings,g3_BadOpenings,g4_BadOpenings,g5_BadOpenings,g6_BadOpenings,o_NoHelp,g1_NoHelp,g2_NoHelp,g3_NoHelp,g4_NoHelp,g5_NoHelp,g6_NoHelp⟩
set_option maxRecDepth 100000 in
set_option maxHeartbeats 0 in
theorem PySem.Challenge.cw_ownboxes_k53_orders_asked_holds : PySem.Challenge.rw_ownboxes_k53_orders_asked.Holds := by
 w_on;o_law;k_head; (case hw=>w_witness2)
 k_fill
 refine L2.L3.yQ8 (F:=K53.yZ6) (k:=10) (l:=PySem.Challenge.rw_ownboxes_k53_orders_asked) K53.law_true ⟨rfl,by decide,by decide⟩ rfl rfl (fun w h Y=>PySem.W.kIn_of Y) (fun w=>by rfl) ?F
 case F =>
  intro w mg fa h KX G hmg
  letI cn:L2.L3.CN:=L2.L3.cnOf (L2.KOf KX)
  have D_is_order:∃f fd,L2.Has (L2.KOf KX) mg "is_order" K53.qT f fd ["names"]:=by
   dsimp only[L2.KOf]
   refine' ⟨_,_,L2.zA KX G ?a ?l ?c ?k ?b⟩
   (case a=>k_is); (case l=>k_is); (case c=>k_is); (case k=>k_is)
   (case b=>intro _ _ _ _ _ _;refine L2.L3.ls1 ?_;exact fun _=>rfl)
  have D_ring_from:∃f fd,L2.Has (L2.KOf KX) mg "ring_from" K53.uV f fd ["order","box"]:=by
   dsimp only[L2.KOf]
   refine' ⟨_,_,L2.zA KX G ?a ?l ?c ?k ?b⟩
   (case a=>k_is); (case l=>k_is); (case c=>k_is); (case k=>k_is)
   (case b=>intro _ _ _ _ _ _;refine L2.L3.ls2 ?_;exact fun _ _=>rfl)
  have D_rings_of:∃f fd,L2.Has (L2.KOf KX) mg "rings_of" K53.uG f fd ["order"]:=by
   dsimp only[L2.KOf]
   refine' ⟨_,_,L2.zA KX G ?a ?l ?c ?k ?b⟩
   (case a=>k_is); (case l=>k_is); (case c=>k_is); (case k=>k_is)
   (case b=>intro _ _ _ _ _ _;refine L2.L3.ls1 ?_;exact fun _=>rfl)
  have D_order_by:∃f fd,L2.Has (L2.KOf KX) mg "order_by" K53.qX f fd ["rings"]:=by
   dsimp only[L2.KOf]
   refine' ⟨_,_,L2.zA KX G ?a ?l ?c ?k ?b⟩
   (case a=>k_is); (case l=>k_is); (case c=>k_is); (case k=>k_is)
   (case b=>intro _ _ _ _ _ _;refine L2.L3.ls1 ?_;exact fun _=>rfl)
  have D_made_openings:∃f fd,L2.Has (L2.KOf KX) mg "made_openings" K53.wY f fd ["people","numbers"]:=by
   dsimp only[L2.KOf]
   refine' ⟨_,_,L2.zA KX G ?a ?l ?c ?k ?b⟩
   (case a=>k_is); (case l=>k_is); (case c=>k_is); (case k=>k_is)
   (case b=>intro _ _ _ _ _ _;refine L2.L3.ls2 ?_;exact fun _ _=>rfl)
  have D_finders:∃f fd,L2.Has (L2.KOf KX) mg "finders" K53.uI f fd ["order","openings"]:=by
   dsimp only[L2.KOf]
   refine' ⟨_,_,L2.zA KX G ?a ?l ?c ?k ?b⟩
   (case a=>k_is); (case l=>k_is); (case c=>k_is); (case k=>k_is)
   (case b=>intro _ _ _ _ _ _;refine L2.L3.ls2 ?_;exact fun _ _=>rfl)
  have D_check_help:∃f fd,L2.Has (L2.KOf KX) mg "check_help" K53.vJ f fd ["order","k"]:=by
   dsimp only[L2.KOf]
   refine' ⟨_,_,L2.zA KX G ?a ?l ?c ?k ?b⟩
   (case a=>k_is); (case l=>k_is); (case c=>k_is); (case k=>k_is)
   (case b=>intro _ _ _ _ _ _;refine L2.L3.ls2 ?_;exact fun _ _=>rfl)
  have D_need_of_rings:∃f fd,L2.Has (L2.KOf KX) mg "need_of_rings" K53.xL f fd ["order","k"]:=by
   dsimp only[L2.KOf]
   refine' ⟨_,_,L2.zA KX G ?a ?l ?c ?k ?b⟩
   (case a=>k_is); (case l=>k_is); (case c=>k_is); (case k=>k_is)
   (case b=>intro _ _ _ _ _ _;refine L2.L3.ls2 ?_;exact fun _ _=>rfl)
  have D_need:∃f fd,L2.Has (L2.KOf KX) mg "need" K53.dH f fd ["order","k"]:=by
   dsimp only[L2.KOf]
   refine' ⟨_,_,L2.zA KX G ?a ?l ?c ?k ?b⟩
   (case a=>k_is); (case l=>k_is); (case c=>k_is); (case k=>k_is)
   (case b=>intro _ _ _ _ _ _;refine L2.L3.ls2 ?_;exact fun _ _=>rfl)
  have D_exchanges:∃f fd,L2.Has (L2.KOf KX) mg "exchanges" K53.vZ f fd ["order","k"]:=by
   dsimp only[L2.KOf]
   refine' ⟨_,_,L2.zA KX G ?a ?l ?c ?k ?b⟩
   (case a=>k_is); (case l=>k_is); (case c=>k_is); (case k=>k_is)
   (case b=>intro _ _ _ _ _ _;refine L2.L3.ls2 ?_;exact fun _ _=>rfl)
  have D_numbers_text:∃f fd,L2.Has (L2.KOf KX) mg "numbers_text" K53.xC f fd ["numbers"]:=by
   dsimp only[L2.KOf]
   refine' ⟨_,_,L2.zA KX G ?a ?l ?c ?k ?b⟩
   (case a=>k_is); (case l=>k_is); (case c=>k_is); (case k=>k_is)
   (case b=>intro _ _ _ _ _ _;refine L2.L3.ls1 ?_;exact fun _=>rfl)
  have D_read_number:∃f fd,L2.Has (L2.KOf KX) mg "read_number" K53.wG f fd ["word","row"]:=by
   dsimp only[L2.KOf]
   refine' ⟨_,_,L2.zA KX G ?a ?l ?c ?k ?b⟩
   (case a=>k_is); (case l=>k_is); (case c=>k_is); (case k=>k_is)
   (case b=>intro _ _ _ _ _ _;refine L2.L3.ls2 ?_;exact fun _ _=>rfl)
  have D_read_numbers:∃f fd,L2.Has (L2.KOf KX) mg "read_numbers" K53.xF f fd ["words","row"]:=by
   dsimp only[L2.KOf]
   refine' ⟨_,_,L2.zA KX G ?a ?l ?c ?k ?b⟩
   (case a=>k_is); (case l=>k_is); (case c=>k_is); (case k=>k_is)
   (case b=>intro _ _ _ _ _ _;refine L2.L3.ls2 ?_;exact fun _ _=>rfl)
  have D_ring_text:∃f fd,L2.Has (L2.KOf KX) mg "ring_text" K53.uX f fd ["ring"]:=by
   dsimp only[L2.KOf]
   refine' ⟨_,_,L2.zA KX G ?a ?l ?c ?k ?b⟩
   (case a=>k_is); (case l=>k_is); (case c=>k_is); (case k=>k_is)
   (case b=>intro _ _ _ _ _ _;refine L2.L3.ls1 ?_;exact fun _=>rfl)
  have D_order_text:∃f fd,L2.Has (L2.KOf KX) mg "order_text" K53.wQ f fd ["order"]:=by
   dsimp only[L2.KOf]
   refine' ⟨_,_,L2.zA KX G ?a ?l ?c ?k ?b⟩
   (case a=>k_is); (case l=>k_is); (case c=>k_is); (case k=>k_is)
   (case b=>intro _ _ _ _ _ _;refine L2.L3.ls1 ?_;exact fun _=>rfl)
  have D_read_order:∃f fd,L2.Has (L2.KOf KX) mg "read_order" K53.wP f fd ["text"]:=by
   dsimp only[L2.KOf]
   refine' ⟨_,_,L2.zA KX G ?a ?l ?c ?k ?b⟩
   (case a=>k_is); (case l=>k_is); (case c=>k_is); (case k=>k_is)
   (case b=>intro _ _ _ _ _ _;refine L2.L3.ls1 ?_;exact fun _=>rfl)
  have D_text_or_none:∃f fd,L2.Has (L2.KOf KX) mg "text_or_none" K53.wO f fd ["text"]:=by
   dsimp only[L2.KOf]
   refine' ⟨_,_,L2.zA KX G ?a ?l ?c ?k ?b⟩
   (case a=>k_is); (case l=>k_is); (case c=>k_is); (case k=>k_is)
   (case b=>intro _ _ _ _ _ _;refine L2.L3.ls1 ?_;exact fun _=>rfl)
  have D_pair_text:∃f fd,L2.Has (L2.KOf KX) mg "pair_text" K53.wB f fd ["pair"]:=by
   dsimp only[L2.KOf]
   refine' ⟨_,_,L2.zA KX G ?a ?l ?c ?k ?b⟩
   (case a=>k_is); (case l=>k_is); (case c=>k_is); (case k=>k_is)
   (case b=>intro _ _ _ _ _ _;refine L2.L3.ls1 ?_;exact fun _=>rfl)
  have D_help_text:∃f fd,L2.Has (L2.KOf KX) mg "help_text" K53.wE f fd ["order","k"]:=by
   dsimp only[L2.KOf]
   refine' ⟨_,_,L2.zA KX G ?a ?l ?c ?k ?b⟩
   (case a=>k_is); (case l=>k_is); (case c=>k_is); (case k=>k_is)
   (case b=>intro _ _ _ _ _ _;refine L2.L3.ls2 ?_;exact fun _ _=>rfl)
  have D_answer_by_order:∃f fd,L2.Has (L2.KOf KX) mg "answer_by_order" K53.xR f fd ["word","numbers","order"]:=by
   dsimp only[L2.KOf]
   refine' ⟨_,_,L2.zA KX G ?a ?l ?c ?k ?b⟩
   (case a=>k_is); (case l=>k_is); (case c=>k_is); (case k=>k_is)
   (case b=>intro _ _ _ _ _ _;refine L2.L3.ls3 ?_;exact fun _ _ _=>rfl)
  have D_answer:∃f fd,L2.Has (L2.KOf KX) mg "answer" K53.kX f fd ["row"]:=by
   dsimp only[L2.KOf]
   refine' ⟨_,_,L2.zA KX G ?a ?l ?c ?k ?b⟩
   (case a=>k_is); (case l=>k_is); (case c=>k_is); (case k=>k_is)
   (case b=>intro _ _ _ _ _ _;refine L2.L3.ls1 ?_;exact fun _=>rfl)
  have D_answer_or_refusal:∃f fd,L2.Has (L2.KOf KX) mg "answer_or_refusal" K53.xO f fd ["row"]:=by
   dsimp only[L2.KOf]
   refine' ⟨_,_,L2.zA KX G ?a ?l ?c ?k ?b⟩
   (case a=>k_is); (case l=>k_is); (case c=>k_is); (case k=>k_is)
   (case b=>intro _ _ _ _ _ _;refine L2.L3.ls1 ?_;exact fun _=>rfl)
  have D_answered:∃f fd,L2.Has (L2.KOf KX) mg "answered" K53.vC f fd ["sheet"]:=by
   dsimp only[L2.KOf]
   refine' ⟨_,_,L2.zA KX G ?a ?l ?c ?k ?b⟩
   (case a=>k_is); (case l=>k_is); (case c=>k_is); (case k=>k_is)
   (case b=>intro _ _ _ _ _ _;refine L2.L3.ls1 ?_;exact fun _=>rfl)
  have D_l_order:∃f fd,L2.Has (L2.KOf KX) mg "_law_order" K53.jY f fd ["cell","many"]:=by
   dsimp only[L2.KOf]
   refine' ⟨_,_,L2.zA KX G ?a ?l ?c ?k ?b⟩
   (case a=>k_is); (case l=>k_is); (case c=>k_is); (case k=>k_is)
   (case b=>intro _ _ _ _ _ _;refine L2.L3.ls2 ?_;exact fun _ _=>rfl)
  have D_l_rings:∃f fd,L2.Has (L2.KOf KX) mg "_law_rings" K53.kF f fd ["order"]:=by
   dsimp only[L2.KOf]
   refine' ⟨_,_,L2.zA KX G ?a ?l ?c ?k ?b⟩
   (case a=>k_is); (case l=>k_is); (case c=>k_is); (case k=>k_is)
   (case b=>intro _ _ _ _ _ _;refine L2.L3.ls1 ?_;exact fun _=>rfl)
  have D_l_openings:∃f fd,L2.Has (L2.KOf KX) mg "_law_openings" K53.vM f fd ["cell","many"]:=by
   dsimp only[L2.KOf]
   refine' ⟨_,_,L2.zA KX G ?a ?l ?c ?k ?b⟩
   (case a=>k_is); (case l=>k_is); (case c=>k_is); (case k=>k_is)
   (case b=>intro _ _ _ _ _ _;refine L2.L3.ls2 ?_;exact fun _ _=>rfl)
  have D_l_need:∃f fd,L2.Has (L2.KOf KX) mg "_law_need" K53.kU f fd ["order","k"]:=by
   dsimp only[L2.KOf]
   refine' ⟨_,_,L2.zA KX G ?a ?l ?c ?k ?b⟩
   (case a=>k_is); (case l=>k_is); (case c=>k_is); (case k=>k_is)
   (case b=>intro _ _ _ _ _ _;refine L2.L3.ls2 ?_;exact fun _ _=>rfl)
  have D_l_text:∃f fd,L2.Has (L2.KOf KX) mg "_law_text" K53.qI f fd ["order"]:=by
   dsimp only[L2.KOf]
   refine' ⟨_,_,L2.zA KX G ?a ?l ?c ?k ?b⟩
   (case a=>k_is); (case l=>k_is); (case c=>k_is); (case k=>k_is)
   (case b=>intro _ _ _ _ _ _;refine L2.L3.ls1 ?_;exact fun _=>rfl)
  have D_l_blanks:∃f fd,L2.Has (L2.KOf KX) mg "_law_blanks" K53.vE f fd ["some"]:=by
   dsimp only[L2.KOf]
   refine' ⟨_,_,L2.zA KX G ?a ?l ?c ?k ?b⟩
   (case a=>k_is); (case l=>k_is); (case c=>k_is); (case k=>k_is)
   (case b=>intro _ _ _ _ _ _;refine L2.L3.ls1 ?_;exact fun _=>rfl)
  have D_l_asked:∃f fd,L2.Has (L2.KOf KX) mg "_law_asked" K53.uJ f fd ["cell"]:=by
   dsimp only[L2.KOf]
   refine' ⟨_,_,L2.zA KX G ?a ?l ?c ?k ?b⟩
   (case a=>k_is); (case l=>k_is); (case c=>k_is); (case k=>k_is)
   (case b=>intro _ _ _ _ _ _;refine L2.L3.ls1 ?_;exact fun _=>rfl)
  have D_l_row:∃f fd,L2.Has (L2.KOf KX) mg "_law_row" K53.gH f fd ["asked"]:=by
   dsimp only[L2.KOf]
   refine' ⟨_,_,L2.zA KX G ?a ?l ?c ?k ?b⟩
   (case a=>k_is); (case l=>k_is); (case c=>k_is); (case k=>k_is)
   (case b=>intro _ _ _ _ _ _;refine L2.L3.ls1 ?_;exact fun _=>rfl)
  have D_l_helped:∃f fd,L2.Has (L2.KOf KX) mg "_law_helped" K53.wJ f fd ["order","k","answer_v"]:=by
   dsimp only[L2.KOf]
   refine' ⟨_,_,L2.zA KX G ?a ?l ?c ?k ?b⟩
   (case a=>k_is); (case l=>k_is); (case c=>k_is); (case k=>k_is)
   (case b=>intro _ _ _ _ _ _;refine L2.L3.ls3 ?_;exact fun _ _ _=>rfl)
  have D_l_right:∃f fd,L2.Has (L2.KOf KX) mg "_law_right" K53.vR f fd ["asked","answer_v"]:=by
   dsimp only[L2.KOf]
   refine' ⟨_,_,L2.zA KX G ?a ?l ?c ?k ?b⟩
   (case a=>k_is); (case l=>k_is); (case c=>k_is); (case k=>k_is)
   (case b=>intro _ _ _ _ _ _;refine L2.L3.ls2 ?_;exact fun _ _=>rfl)
  have D_l_sheet:∃f fd,L2.Has (L2.KOf KX) mg "_law_sheet" K53.vU f fd ["some"]:=by
   dsimp only[L2.KOf]
   refine' ⟨_,_,L2.zA KX G ?a ?l ?c ?k ?b⟩
   (case a=>k_is); (case l=>k_is); (case c=>k_is); (case k=>k_is)
   (case b=>intro _ _ _ _ _ _;refine L2.L3.ls1 ?_;exact fun _=>rfl)
  have D_law:∃f fd,L2.Has (L2.KOf KX) mg "law" K53.cO f fd ["script"]/\(∀(s:Shared) (u:Value),BindsTo s fd ⟨[u],[]⟩ [("script",u)]):=by
   dsimp only[L2.KOf]
   refine' ⟨_,_,L2.zA KX G ?a ?l ?c ?k ?b,?d⟩
   (case a=>k_is); (case l=>k_is); (case c=>k_is); (case k=>k_is)
   (case b=>intro _ _ _ _ _ _;refine L2.L3.ls1 ?_;exact fun _=>rfl)
   (case d=>exact fun s u=>.of_eq rfl)
  have BIG:∃a_BadOpenings a_BadOrder a_NoHelp:PySem.Addr,(PySem.W.nsIn (L2.KOf KX) PySem.mainGlobals "BadOpenings" = some (some (.ref a_BadOpenings)))/\(PySem.W.nsIn (L2.KOf KX) PySem.mainGlobals "BadOrder" = some (some (.ref a_BadOrder)))/\(PySem.W.nsIn (L2.KOf KX) PySem.mainGlobals "NoHelp" = some (some (.ref a_NoHelp)))/\(PySem.W.excIn (L2.KOf KX) a_BadOrder L2.L3.bmV "ValueError.__new__" = true)/\(PySem.W.findIn (L2.KOf KX) (.ref a_BadOrder) "__getattribute__" = some (some (.builtin "BaseException.__getattribute__")))/\(PySem.W.findIn (L2.KOf KX) (.ref a_BadOrder) "__getattr__" = some none)/\(PySem.W.findIn (L2.KOf KX) (.ref a_BadOrder) "__class__" = some (some (.builtin "object.__class__")))/\(PySem.W.kitOne (L2.KOf KX) (.ref a_BadOrder) (.type "BaseException")=some true)/\(PySem.W.kitOne (L2.KOf KX) (.ref a_BadOrder) (.type "object")=some true)/\((PySem.W.clsIn (L2.KOf KX) a_BadOrder).isSome=true)/\(PySem.W.excIn (L2.KOf KX) a_BadOpenings L2.L3.bmV "ValueError.__new__" = true)/\(PySem.W.findIn (L2.KOf KX) (.ref a_BadOpenings) "__getattribute__" = some (some (.builtin "BaseException.__getattribute__")))/\(PySem.W.findIn (L2.KOf KX) (.ref a_BadOpenings) "__getattr__" = some none)/\(PySem.W.findIn (L2.KOf KX) (.ref a_BadOpenings) "__class__" = some (some (.builtin "object.__class__")))/\(PySem.W.kitOne (L2.KOf KX) (.ref a_BadOpenings) (.type "BaseException")=some true)/\(PySem.W.kitOne (L2.KOf KX) (.ref a_BadOpenings) (.type "object")=some true)/\((PySem.W.clsIn (L2.KOf KX) a_BadOpenings).isSome=true)/\(PySem.W.excIn (L2.KOf KX) a_NoHelp L2.L3.bmV "ValueError.__new__" = true)/\(PySem.W.findIn (L2.KOf KX) (.ref a_NoHelp) "__getattribute__" = some (some (.builtin "BaseException.__getattribute__")))/\(PySem.W.findIn (L2.KOf KX) (.ref a_NoHelp) "__getattr__" = some none)/\(PySem.W.findIn (L2.KOf KX) (.ref a_NoHelp) "__class__" = some (some (.builtin "object.__class__")))/\(PySem.W.kitOne (L2.KOf KX) (.ref a_NoHelp) (.type "BaseException")=some true)/\(PySem.W.kitOne (L2.KOf KX) (.ref a_NoHelp) (.type "object")=some true)/\((PySem.W.clsIn (L2.KOf KX) a_NoHelp).isSome=true):=by
   dsimp only[L2.KOf]
   refine' K53.big_mk ?q_n_BadOpenings ?q_n_BadOrder ?q_n_NoHelp ?q_o_BadOrder ?q_g1_BadOrder ?q_g2_BadOrder ?q_g3_BadOrder ?q_g4_BadOrder ?q_g5_BadOrder ?q_g6_BadOrder ?q_o_BadOpenings ?q_g1_BadOpenings ?q_g2_BadOpenings ?q_g3_BadOpenings ?q_g4_BadOpenings ?q_g5_BadOpenings ?q_g6_BadOpenings ?q_o_NoHelp ?q_g1_NoHelp ?q_g2_NoHelp ?q_g3_NoHelp ?q_g4_NoHelp ?q_g5_NoHelp ?q_g6_NoHelp
   (case q_n_BadOpenings=>k_is)
   (case q_n_BadOrder=>k_is)
   (case q_n_NoHelp=>k_is)
   (case q_o_BadOrder=>k_exc)
   (case q_g1_BadOrder=>k_is)
   (case q_g2_BadOrder=>k_is)
   (case q_g3_BadOrder=>k_is)
   (case q_g4_BadOrder=>kit_is)
   (case q_g5_BadOrder=>kit_is)
   (case q_g6_BadOrder=>first | k_is | rfl | decide +kernel)
   (case q_o_BadOpenings=>k_exc)
   (case q_g1_BadOpenings=>k_is)
   (case q_g2_BadOpenings=>k_is)
   (case q_g3_BadOpenings=>k_is)
   (case q_g4_BadOpenings=>kit_is)
   (case q_g5_BadOpenings=>kit_is)
   (case q_g6_BadOpenings=>first | k_is | rfl | decide +kernel)
   (case q_o_NoHelp=>k_exc)
   (case q_g1_NoHelp=>k_is)
   (case q_g2_NoHelp=>k_is)
   (case q_g3_NoHelp=>k_is)
   (case q_g4_NoHelp=>kit_is)
   (case q_g5_NoHelp=>kit_is)
   (case q_g6_NoHelp=>first | k_is | rfl | decide +kernel)
  obtain⟨a_BadOpenings,a_BadOrder,a_NoHelp,n_BadOpenings,n_BadOrder,n_NoHelp,o_BadOrder,g1_BadOrder,g2_BadOrder,g3_BadOrder,g4_BadOrder,g5_BadOrder,g6_BadOrder,o_BadOpenings,g1_BadOpenings,g2_BadOpenings,g3_BadOpenings,g4_BadOpenings,g5_BadOpenings,g6_BadOpenings,o_NoHelp,g1_NoHelp,g2_NoHelp,g3_NoHelp,g4_NoHelp,g5_NoHelp,g6_NoHelp⟩:=BIG
  have e_BadOpenings:L2.L3.CN.ad "BadOpenings" = a_BadOpenings:=L2.L3.zA5 n_BadOpenings
  have e_BadOrder:L2.L3.CN.ad "BadOrder" = a_BadOrder:=L2.L3.zA5 n_BadOrder
  have e_NoHelp:L2.L3.CN.ad "NoHelp" = a_NoHelp:=L2.L3.zA5 n_NoHelp
  have k_BadOrder:PySem.ExK (L2.KOf KX) (L2.L3.CN.ad "BadOrder"):=by rw[e_BadOrder];exact⟨g1_BadOrder,g2_BadOrder,g3_BadOrder,L2.L3.jJ g4_BadOrder,L2.L3.jJ g5_BadOrder,g6_BadOrder⟩
  have k_BadOpenings:PySem.ExK (L2.KOf KX) (L2.L3.CN.ad "BadOpenings"):=by rw[e_BadOpenings];exact⟨g1_BadOpenings,g2_BadOpenings,g3_BadOpenings,L2.L3.jJ g4_BadOpenings,L2.L3.jJ g5_BadOpenings,g6_BadOpenings⟩
  have k_NoHelp:PySem.ExK (L2.KOf KX) (L2.L3.CN.ad "NoHelp"):=by rw[e_NoHelp];exact⟨g1_NoHelp,g2_NoHelp,g3_NoHelp,L2.L3.jJ g4_NoHelp,L2.L3.jJ g5_NoHelp,g6_NoHelp⟩
  have T:K53.Txt (L2.KOf KX) mg:=by
   dsimp only[L2.KOf]
   refine' ⟨PySem.W.mg_none_of KX G ?z0,PySem.W.mg_none_of KX G ?z1,PySem.W.mg_none_of KX G ?z2,PySem.W.mg_none_of KX G ?z3,PySem.W.mg_none_of KX G ?z4,PySem.W.mg_none_of KX G ?z5,PySem.W.mg_none_of KX G ?z6,PySem.W.mg_none_of KX G ?z7,PySem.W.mg_none_of KX G ?z8,PySem.W.mg_none_of KX G ?z9,PySem.W.mg_none_of KX G ?z10,PySem.W.mg_none_of KX G ?z11,PySem.W.mg_none_of KX G ?z12,⟨_,PySem.W.mg_of KX G ?y0,?x0⟩,⟨_,PySem.W.mg_of KX G ?y1,?x1⟩,⟨?k0_0,?k0_1,?k0_2,?k0_3,?k0_4,?k0_5⟩,D_is_order,D_ring_from,D_rings_of,D_order_by,D_made_openings,D_finders,D_check_help,D_need_of_rings,D_need,D_exchanges,D_numbers_text,D_read_number,D_read_numbers,D_ring_text,D_order_text,D_read_order,D_text_or_none,D_pair_text,D_help_text,D_answer_by_order,D_answer,D_answer_or_refusal,D_answered,D_l_order,D_l_rings,D_l_openings,D_l_need,D_l_text,D_l_blanks,D_l_asked,D_l_row,D_l_helped,D_l_right,D_l_sheet,(let ⟨f,fd,h,_⟩:=D_law; ⟨f,fd,h⟩),?xa0,?xa1,?xa2,?xb0,?xb1,?xb2⟩
   (case z0=>k_is)
   (case z1=>k_is)
   (case z2=>k_is)
   (case z3=>k_is)
   (case z4=>k_is)
   (case z5=>k_is)
   (case z6=>k_is)
   (case z7=>k_is)
   (case z8=>k_is)
   (case z9=>k_is)
   (case z10=>k_is)
   (case z11=>k_is)
   (case z12=>k_is)
   (case y0=>k_is); (case x0=>exact⟨_,rfl⟩)
   (case y1=>k_is); (case x1=>exact⟨_,rfl⟩)
   (case k0_0=>first | kit_is | rfl)
   (case k0_1=>first | kit_is | rfl)
   (case k0_2=>first | kit_is | rfl)
   (case k0_3=>first | kit_is | rfl)
   (case k0_4=>first | kit_is | rfl)
   (case k0_5=>first | kit_is | rfl)
   (case xa0=>rw[e_BadOpenings];exact PySem.W.mg_of KX G n_BadOpenings)
   (case xa1=>rw[e_BadOrder];exact PySem.W.mg_of KX G n_BadOrder)
   (case xa2=>rw[e_NoHelp];exact PySem.W.mg_of KX G n_NoHelp)
   (case xb0=>unfold L2.L3.OwnX;rw[e_BadOpenings];exact o_BadOpenings)
   (case xb1=>unfold L2.L3.OwnX;rw[e_BadOrder];exact o_BadOrder)
   (case xb2=>unfold L2.L3.OwnX;rw[e_NoHelp];exact o_NoHelp)
  obtain⟨fl,fdl,HL,HB⟩:=D_law
  have e0:=hmg.symm.trans HL.m
  cases e0
  exact⟨fdl,HB,fun base kb nb=>K53.xV7 T HL⟩
#print axioms PySem.Challenge.cw_ownboxes_k53_orders_asked_holds