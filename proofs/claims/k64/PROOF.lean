import PyProof.Rows.All
import Wide.All
import OpenK.AllK
import Wide.FinOn
import Lean
import PyProof.EqAt
import PyProof.EqKinds
import PyProof.TupleCall
import KE.KIntText
import PySem.Challenge.RW_ownboxes_k64_whole_from_text_to_answers
set_option compiler.extract_closed false
theorem zW8 (_h:True:=by first | exact .inl rfl | exact .inr rfl | assumption):True:=trivial
theorem yX (_h:True:=by decide):True:=trivial
theorem qU (_h:True:=by intro _;rfl):True:=trivial
theorem zU (_h:True:=by rfl):True:=trivial
theorem xJ6 (_h:True:=by intros;rfl):True:=trivial
theorem yY3 (_h:True:=by with_unfolding_all rfl):True:=trivial
theorem jU (_h:True:=by first | exact Or.inl rfl | exact Or.inr (Or.inl rfl) | exact Or.inr (Or.inr rfl)):True:=trivial
theorem wI8 (_h:True:=by exact fun _ _=>rfl):True:=trivial
theorem xW4 (_h:True:=by first | exact nomark _ | rfl):True:=trivial
theorem zW9 (_h:True:=by first | exact Or.inl rfl | exact Or.inr rfl):True:=trivial
theorem autoK12 (_h:True:=by first | exact .inl rfl | exact .inr rfl):True:=trivial
theorem autoK13 (_h:True:=by exact PassesOwn.never):True:=trivial
local macro_rules | `(tactic| bv_omega)=>`(tactic| first | lia | omega)
set_option Elab.async false
set_option linter.all false
set_option maxRecDepth 100000
set_option maxHeartbeats 4000000
noncomputable section
abbrev KFr:=PySem.W.Frag
namespace L2
open PySem PySem.Spec PyProof.Rows
abbrev Key:=Sum Int Str
def keyIs:Key->Value->Bool
 | .inl k,v=>Value.isInt k v
 | .inr x,v=>Value.isStrOf x v
def keyH (w:World):Key->Int
 | .inl k=>hashInt k
 | .inr x=>hashStr w x
theorem wN:∀{k:Key}{v:Value},keyIs k v=true->(∃i t,k=Sum.inl i/\v=Value.int i t)\/(∃x t,k=Sum.inr x/\v=Value.str x t)
 | .inl i,v,h=>by
  obtain⟨t,e⟩:=Value.isInt_shape (k:=i) (v:=v) h
  exact .inl ⟨i,t,rfl,e⟩
 | .inr x,v,h=>by
  obtain⟨t,e⟩:=Value.isStrOf_shape (x:=x) (v:=v) h
  exact .inr ⟨x,t,rfl,e⟩
theorem wI4 (a b:Int):decide ((Sum.inl a:Key)=Sum.inl b)=(a == b):=by
 by_cases e:a=b
 ·subst e;simp
 ·have h:¬(Sum.inl a:Key)=Sum.inl b:=fun q=>e (Sum.inl.inj q)
  rw[decide_eq_false h]
  exact (beq_eq_false_iff_ne.mpr e).symm
theorem wM4 (a b:Str):decide ((Sum.inr a:Key)=Sum.inr b)=decide (a=b):=by
 by_cases e:a=b
 ·subst e;simp
 ·have h:¬(Sum.inr a:Key)=Sum.inr b:=fun q=>e (Sum.inr.inj q)
  rw[decide_eq_false h,decide_eq_false e]
theorem wK1 (a:Int) (b:Str):decide ((Sum.inl a:Key)=Sum.inr b)=false:=decide_eq_false (fun q=>nomatch q)
theorem wK5 (a:Str) (b:Int):decide ((Sum.inr a:Key)=Sum.inl b)=false:=decide_eq_false (fun q=>nomatch q)
def mixKind (prog:Program) (w:World):PySem.KeyKind prog w Key where
 is:=keyIs
 hash:=keyH w
 inj:=fun v a b ha hb=>by
  rcases wN ha with ⟨i,t,rfl,rfl⟩ | ⟨x,t,rfl,rfl⟩
  ·rcases wN hb with ⟨j,u,rfl,e⟩ | ⟨y,u,rfl,e⟩
   ·injection e with e1 _;rw[e1]
   ·exact nomatch e
  ·rcases wN hb with ⟨j,u,rfl,e⟩ | ⟨y,u,rfl,e⟩
   ·exact nomatch e
   ·injection e with e1 _;rw[e1]
 byValue:=fun k v h=>by
  rcases wN h with ⟨i,t,rfl,rfl⟩ | ⟨x,t,rfl,rfl⟩ <;> rfl
 pyHash:=fun hv h=>by
  rcases wN hv with ⟨i,t,rfl,rfl⟩ | ⟨x,t,rfl,rfl⟩
  ·exact wpAny_pyHash_int h
  ·exact wpAny_pyHash_str h
 eqBool:=fun hu hv h=>by
  rcases wN hu with ⟨i,t,rfl,rfl⟩ | ⟨x,t,rfl,rfl⟩
  ·rcases wN hv with ⟨j,u,rfl,rfl⟩ | ⟨y,u,rfl,rfl⟩
   ·rw[wI4] at h;exact wpAny_eqBool_int h
   ·rw[wK1] at h;exact SeqAt.EqAt.int_str i t y u _ _ _ _ h
  ·rcases wN hv with ⟨j,u,rfl,rfl⟩ | ⟨y,u,rfl,rfl⟩
   ·rw[wK5] at h;exact SeqAt.EqAt.str_int x t j u _ _ _ _ h
   ·rw[wM4] at h;exact wpAny_eqBool_str h
 «strs»:=fun k x t v h=>by
  rcases wN h with ⟨i,u,rfl,e⟩ | ⟨y,u,rfl,e⟩
  ·exact nomatch e
  ·injection e with e1 _
   subst e1
   cases v <;> rfl
inductive V where
 | non | bl (b:Bool) | int (i:Int) | str (x:Str) | byt (b:Array UInt8) | flt (b:UInt64) | ref (a:Addr) | ty (n:String)
 deriving DecidableEq
def RelV:V->Value->Prop
 | .non,u=>u=Value.none
 | .bl b,u=>u=Value.bool b
 | .int i,u=>∃t,u=Value.int i t
 | .str x,u=>∃t,u=Value.str x t
 | .byt b,u=>∃t,u=Value.bytes b t
 | .flt b,u=>∃t,u=Value.float b t
 | .ref a,u=>u=Value.ref a
 | .ty n,u=>u=Value.type n
abbrev Vals:List V->List Value->Prop:=Paired RelV
theorem Vals.length {xs:List V}{us:List Value}(r:Vals xs us):xs.length=us.length:=Paired.length r
theorem Vals.get:∀{xs:List V}{us:List Value}{i:Nat}{x:V},Vals xs us->xs[i]?=some x->∃u,us[i]?=some u/\RelV x u
 | _,_,_,_,.nil,e=>by simp at e
 | _,_,0,_,.cons r _,e=>by simp at e;subst e;exact⟨_,rfl,r⟩
 | _,_,i+1,x,.cons _ t,e=>by
  obtain⟨u,h1,h2⟩:=Vals.get (i:=i) (x:=x) t (by simpa using e)
  exact⟨u,by simpa using h1,h2⟩
theorem Vals.set {x:V}{u:Value}(r:RelV x u):∀{xs:List V}{us:List Value}(i:Nat),Vals xs us->Vals (xs.set i x) (us.set i u)
 | _,_,_,.nil=>.nil
 | _,_,0,.cons _ t=>.cons r t
 | _,_,i+1,.cons q t=>.cons q (Vals.set r i t)
theorem Vals.append:∀{xs ys:List V}{us ws:List Value},Vals xs us->Vals ys ws->Vals (xs++ys) (us++ws)
 | _,_,_,_,.nil,s=>s
 | _,_,_,_,.cons r t,s=>.cons r (Vals.append t s)
theorem Vals.take:∀{xs:List V}{us:List Value}(n:Nat),Vals xs us->Vals (xs.take n) (us.take n)
 | _,_,0,_=>.nil
 | _,_,_+1,.nil=>.nil
 | _,_,n+1,.cons r t=>.cons r (Vals.take n t)
theorem Vals.drop:∀{xs:List V}{us:List Value}(n:Nat),Vals xs us->Vals (xs.drop n) (us.drop n)
 | _,_,0,r=>r
 | _,_,_+1,.nil=>.nil
 | _,_,n+1,.cons _ t=>Vals.drop n t
def RelO:Option V->Option Value->Prop
 | some v,some u=>RelV v u
 | none,none=>True
 | _,_=>False
def KV {κ:Type}:List (κ×V)->List (κ×Value)->Prop:=Paired fun (p:κ×V) (q:κ×Value)=>p.1=q.1/\RelV p.2 q.2
def kV:Key->V
 | .inl i=>.int i
 | .inr x=>.str x
inductive HO where
 | lst (xs:List V)
 | tup (xs:List V)
 | dK (kvs:List (Key×V)) | dT (kvs:List (List Key×V))
 | set (S:Int->Bool) (n:Nat)
 | ins (C dx:Addr) (fs:List (Str×V))
 | own (x:Addr)
 | xd (fs:List (Str×V))
 | met (f x:Addr)
 | rng (lo hi:Int)
 | frz (o:Obj) (u:HO)
 | tbl (ps:Array Value)
 | ext (φ:Heap->Prop)
abbrev Hp:=Addr->Option HO
def upd (H:Hp) (a:Addr) (o:HO):Hp:=fun b=>if b=a then some o else H b
theorem uC {H:Hp}{a:Addr}{o:HO}:upd H a o a=some o:=by unfold upd;rw[if_pos rfl]
theorem yU {H:Hp}{a b:Addr}{o:HO}(h:b≠a):upd H a o b=H b:=by unfold upd;rw[if_neg h]
theorem xG {H:Hp}{a b:Addr}{o:HO}(h:H a=some o) (h':H b=none):a≠b:=by
 intro e;subst e;rw[h] at h';cases h'
def TupAt (h:Heap) (a:Addr) (its:Array Value):Prop:=∃o,h.get? a=some o/\o.cls=.type "tuple"/\(∃n,o.data=.seq its n)/\o.dict=none
theorem TupAt.tup {h:Heap}{a:Addr}{its:Array Value}(x:TupAt h a its):IsTup h a its:=by
 obtain⟨o,e,c,d,_⟩:=x
 exact⟨o,e,c,d⟩
theorem TupAt.new (h:Heap) (its:Array Value):TupAt (h.push { cls:=.type "tuple",data:=.seq its }) h.objs.size its:=⟨_,Heap.get?_push_size _ rfl,rfl,⟨_,rfl⟩,rfl⟩
section
variable (P:Program) (w:World)
def ObjOk (H:Hp) (h:Heap) (a:Addr):HO->Prop
 | .lst xs=>xs.length<=sizeLine/\∃(its:List Value) (n:Nat),Vals xs its/\h.get? a=some { cls:=.type "list",data:=.seq its.toArray n }
 | .tup xs=>xs.length<=sizeLine/\∃its:List Value,Vals xs its/\TupAt h a its.toArray
 | .dK kvs=>kvs.length<=sizeLine/\(a == sysModules)=false/\∃vs,KV kvs vs/\h.DictOf (mixKind P w) a vs
 | .dT kvs=>kvs.length<=sizeLine/\(a == sysModules)=false/\∃xs:List (List Key×Addr×Value),
   Paired (fun (p:List Key×V) (q:List Key×Addr×Value)=>p.1=q.1/\H q.2.1=some (.tup (p.1.map kV))/\RelV p.2 q.2.2) kvs xs /\
   ∃o es ep,h.get? a=some o/\o.ExactDict/\o.data=.dict es ep/\es.toList=xs.map (entryOfKey (tupleKind (mixKind P w)))/\(xs.map (·.1)).Nodup
 | .set S n=>h.SetOf (intKind P w) a S n
 | .ins C dx fs=>H dx=some (.own a)/\fs.length<=1000/\dx≠a/\h.get? a=some (PySem.W.instObj C dx) /\
   ∃mA,h.Ns1 dx mA/\(∀f,RelO (fs.lookup f) (mA f))/\PySem.Within mA (fs.map (·.1))
 | .own _=>∃o,h.get? a=some o
 | .xd fs=>∃mA,h.Ns1 a mA/\∀f,RelO (fs.lookup f) (mA f)
 | .rng lo hi=>∃t u v,h.get? a=some { cls:=.type "range",data:=.fields #[.int lo t,.int hi u,.int 1 v] }
 | .frz o u=>h.get? a=some o/\ObjOk H h a u
 | .tbl ps=>h.get? a=some { cls:=.none,data:=.fields ps }
 | .met f x=>h.get? a=some (PySem.W.methodObj (.ref f) (.ref x))
 | .ext φ=>φ h/\(∃o,h.get? a=some o)/\∀h1 h2:Heap,φ h1->(∀o,h1.get? a=some o->h2.get? a=some o)->φ h2
def HOk (H:Hp) (h:Heap):Prop:=∀a o,H a=some o->ObjOk P w H h a o
end
section
variable {P:Program}{w:World}{H H':Hp}{h h':Heap}{a:Addr}{o:HO}
theorem ObjOk.lt (x:ObjOk P w H h a o):a<h.objs.size:=by
 cases o with
 | lst xs=>obtain⟨_,_,_,_,e⟩:=x;exact Heap.lt_size e
 | tup xs=>obtain⟨_,_,_,p⟩:=x;exact p.tup.lt
 | dK kvs=>obtain⟨_,_,_,_,o,_,_,e,_⟩:=x;exact Heap.lt_size e
 | dT kvs=>obtain⟨_,_,_,_,o,_,_,e,_⟩:=x;exact Heap.lt_size e
 | set S n=>obtain⟨o,_,_,_,e,_⟩:=x;exact Heap.lt_size e
 | ins C dx fs=>obtain⟨_,_,_,e,_⟩:=x;exact Heap.lt_size e
 | own y=>obtain⟨_,e⟩:=x;exact Heap.lt_size e
 | xd fs=>obtain⟨_,⟨_,_,_,e,_⟩,_⟩:=x;exact Heap.lt_size e
 | rng lo hi=>obtain⟨_,_,_,e⟩:=x;exact Heap.lt_size e
 | frz ob u=>obtain⟨e,_⟩:=x;exact Heap.lt_size e
 | tbl ps=>exact Heap.lt_size (show h.get? a=some _ from x)
 | met f y=>exact Heap.lt_size (show h.get? a=some _ from x)
 | ext φ=>obtain⟨_,⟨_,e⟩,_⟩:=x;exact Heap.lt_size e
theorem Paired.mapP {α β:Type}{F G:α->β->Prop}:∀{l₁:List α}{l₂:List β},Paired F l₁ l₂->(∀a b,F a b->G a b)->Paired G l₁ l₂
 | _,_,.nil,_=>.nil
 | _,_,.cons r t,f=>.cons (f _ _ r) (Paired.mapP t f)
theorem ObjOk.stay (x:ObjOk P w H h a o) (k:∀b u,(b=a\/H b=some (.own a))->h.get? b=some u->h'.get? b=some u)
  (ho:∀b,H b=some (.own a)->H' b=some (.own a)) (ht:∀b xs,H b=some (.tup xs)->H' b=some (.tup xs)):ObjOk P w H' h' a o:=by
 induction o with
 | lst xs=>obtain⟨z,its,n,r,e⟩:=x;exact⟨z,its,n,r,k _ _ (.inl rfl) e⟩
 | tup xs=>obtain⟨z,its,r,ob,e,c⟩:=x;exact⟨z,its,r,ob,k _ _ (.inl rfl) e,c⟩
 | dK kvs=>obtain⟨z,y,vs,r,ob,es,ep,e,c⟩:=x;exact⟨z,y,vs,r,ob,es,ep,k _ _ (.inl rfl) e,c⟩
 | dT kvs =>
  obtain⟨z,y,xs,r,ob,es,ep,e,c⟩:=x
  exact⟨z,y,xs,Paired.mapP r fun p q z=>⟨z.1,ht _ _ z.2.1,z.2.2⟩,ob,es,ep,k _ _ (.inl rfl) e,c⟩
 | set S n=>obtain⟨ob,es,ep,t,e,c⟩:=x;exact⟨ob,es,ep,t,k _ _ (.inl rfl) e,c⟩
 | ins C dx fs =>
  obtain⟨d,z,ne,e,mA,⟨od,es,ep,e2,c⟩,r⟩:=x
  exact⟨ho _ d,z,ne,k _ _ (.inl rfl) e,mA,⟨od,es,ep,k _ _ (.inr d) e2,c⟩,r⟩
 | own y=>obtain⟨ob,e⟩:=x;exact⟨ob,k _ _ (.inl rfl) e⟩
 | xd fs=>obtain⟨mA,⟨od,es,ep,e,c⟩,r⟩:=x;exact⟨mA,⟨od,es,ep,k _ _ (.inl rfl) e,c⟩,r⟩
 | rng lo hi=>obtain⟨t,u,v,e⟩:=x;exact⟨t,u,v,k _ _ (.inl rfl) e⟩
 | frz ob u ih=>obtain⟨e,q⟩:=x;exact⟨k _ _ (.inl rfl) e,ih q⟩
 | tbl ps =>
  have e:h.get? a=some { cls:=.none,data:=.fields ps }:=x
  show h'.get? a=some { cls:=.none,data:=.fields ps }
  exact k a _ (.inl rfl) e
 | met f y =>
  have e:h.get? a=some (PySem.W.methodObj (.ref f) (.ref y)):=x
  show h'.get? a=some (PySem.W.methodObj (.ref f) (.ref y))
  exact k a _ (.inl rfl) e
 | ext φ=>obtain⟨p,⟨o,e⟩,st⟩:=x;exact⟨st _ _ p fun o q=>k _ _ (.inl rfl) q,⟨o,k _ _ (.inl rfl) e⟩,st⟩
theorem HOk.lt (x:HOk P w H h) (e:H a=some o):a<h.objs.size:=(x a o e).lt
theorem HOk.fresh (x:HOk P w H h) (e:h.objs.size<=a):H a=none:=by
 cases q:H a with
 | none=>rfl
 | some u=>exact absurd (Nat.lt_of_lt_of_le (x.lt q) e) (Nat.lt_irrefl _)
theorem HOk.kept (x:HOk P w H h) (k:∀b u,h.get? b=some u->h'.get? b=some u):HOk P w H h':=fun a o e =>
 (x a o e).stay (fun b u _ q=>k b u q) (fun _ q=>q) fun _ _ q=>q
theorem HOk.laid (x:HOk P w H h) (k:∀b u,h.get? b=some u->h'.get? b=some u) (hp:h.objs.size<=a) (new:ObjOk P w (upd H a o) h' a o):HOk P w (upd H a o) h':=fun b u e=>by
 have hn:=x.fresh hp
 by_cases hb:b=a
 ·subst hb;rw[uC] at e;cases e;exact new
 ·rw[yU hb] at e
  exact (x b u e).stay (fun c v _ q=>k c v q) (fun c q=>by rw[yU (xG q hn)];exact q) fun c xs q=>by rw[yU (xG q hn)];exact q
end
def Rd (H:Hp) (a:Addr) (u:HO):Prop:=H a=some u\/∃o,H a=some (.frz o u)
theorem Rd.ok {P:Program}{w:World}{H:Hp}{h:Heap}{a:Addr}{u:HO}(r:Rd H a u) (x:HOk P w H h):ObjOk P w H h a u:=by
 rcases r with r | ⟨o,r⟩
 ·exact x a u r
 ·obtain⟨_,q⟩:=x a _ r
  exact q
def Mut:Option HO->Prop
 | some (.lst _)=>True
 | some (.dK _)=>True
 | some (.dT _)=>True
 | some (.set _ _)=>True
 | some (.ins _ _ _)=>True
 | some (.ext _)=>True
 | _=>False
section
variable {P:Program}{w:World}{H:Hp}{h h':Heap}{x e:Addr}{o':HO}
theorem HOk.write (ok:HOk P w H h) (mu:Mut (H x)) (he:e=x\/H e=some (.own x)) (k:∀b u,b≠e->h.get? b=some u->h'.get? b=some u) (heo:∃u,h'.get? e=some u)
  (new:ObjOk P w (upd H x o') h' x o'):HOk P w (upd H x o') h':=fun b u q=>by
 have nown:∀c y,H c=some (.own y)->c≠x:=fun c y r z=>by subst z;rw[r] at mu;exact mu
 have ntup:∀c xs,H c=some (.tup xs)->c≠x:=fun c xs r z=>by subst z;rw[r] at mu;exact mu
 by_cases hb:b=x
 ·subst hb;rw[uC] at q;cases q;exact new
 ·rw[yU hb] at q
  by_cases hbe:b=e
  ·have q':H b=some (.own x):=by
    rcases he with z | z
    ·exact absurd (hbe.trans z) hb
    ·rw[hbe];exact z
   rw[q] at q';cases q'
   obtain⟨v,hv⟩:=heo
   exact⟨v,by rw[hbe];exact hv⟩
  ·refine (ok b u q).stay (fun c v hc r=>k c v ?_ r) (fun c r=>by rw[yU (nown c b r)];exact r) fun c xs r=>by rw[yU (ntup c xs r)];exact r
   rcases hc with rfl | hc
   ·exact hbe
   ·rintro rfl
    rcases he with z | z
    ·exact nown c b hc z
    ·rw[hc] at z;cases z;exact hb rfl
end
structure Un (fs ex:List Addr) (H H':Hp) (h h':Heap):Prop where
 keep:∀b o,h.get? b=some o->H b=none->b∉fs->b∉ex->h'.get? b=some o
 slot:∀b o,h.get? b=some o->H b=none->b∈fs->b∉ex->∃sl,h'.get? b=some { o with slots:=sl }
 free:∀b o,h.get? b=some o->H b=none->b∉ex->H' b=none
 there:∀b o,h.get? b=some o->b∉ex->∃o',h'.get? b=some o'
 tups:∀b xs,H b=some (.tup xs)->H' b=some (.tup xs)
 frzs:∀b o u,H b=some (.frz o u)->H' b=some (.frz o u)
 tbls:∀b ps,H b=some (.tbl ps)->∃more,H' b=some (.tbl (ps++more))
section
variable {fs fs' ex ex':List Addr}{H H1 H2:Hp}{h h1 h2 h':Heap}{a x e:Addr}{o:HO}
theorem Un.any (u:Un fs ex H H1 h h1){b:Addr}{ob:Obj}(q:h.get? b=some ob) (n:H b=none) (hx:b∉ex):∃sl,h1.get? b=some { ob with slots:=sl }:=by
 by_cases hb:b∈fs
 ·exact u.slot b ob q n hb hx
 ·exact⟨ob.slots,u.keep b ob q n hb hx⟩
theorem Un.kept (k:∀b u,h.get? b=some u->h'.get? b=some u):Un fs ex H H h h' :=
 ⟨fun b ob q _ _ _=>k b ob q,fun b ob q _ _ _=>⟨ob.slots,k b ob q⟩,fun _ _ _ n _=>n,fun b ob q _=>⟨ob,k b ob q⟩,fun _ _ q=>q,fun _ _ _ q=>q,fun _ ps q=>⟨#[],by rw[q];simp⟩⟩
theorem Un.refl:Un fs ex H H h h:=Un.kept fun _ _ q=>q
theorem Un.laid (k:∀b u,h.get? b=some u->h'.get? b=some u) (hp:h.objs.size<=a) (hn:H a=none):Un fs ex H (upd H a o) h h' where
 keep:=fun b u q _ _ _=>k b u q
 slot:=fun b u q _ _ _=>⟨u.slots,k b u q⟩
 free:=fun b u q n _=>by rw[yU (Nat.ne_of_lt (Nat.lt_of_lt_of_le (Heap.lt_size q) hp))];exact n
 there:=fun b u q _=>⟨u,k b u q⟩
 tups:=fun b xs q=>by rw[yU (xG q hn)];exact q
 frzs:=fun b u xs q=>by rw[yU (xG q hn)];exact q
 tbls:=fun b ps q=>⟨#[],by rw[yU (xG q hn),q];simp⟩
theorem Un.write (mu:Mut (H x)) (he:e=x\/H e=some (.own x)) (k:∀b u,b≠e->h.get? b=some u->h'.get? b=some u) (heo:∃u,h'.get? e=some u):Un fs ex H (upd H x o) h h':=by
 have hx:∀b,H b=none->b≠x:=fun b n z=>by subst z;rw[n] at mu;exact mu
 have hb:∀b,H b=none->b≠e:=fun b n z=>by
  subst z
  rcases he with r | r
  ·exact hx b n r
  ·rw[n] at r;cases r
 have hm:∀b u,H b=some u->¬Mut (some u)->b≠x:=fun b u q nm z=>by subst z;rw[q] at mu;exact nm mu
 refine⟨fun b u q n _ _=>k b u (hb b n) q,fun b u q n _ _=>⟨u.slots,k b u (hb b n) q⟩,fun b u q n _=>by rw[yU (hx b n)];exact n,fun b u q _ => ?_,
  fun b xs q=>by rw[yU (hm b _ q fun z=>z)];exact q,fun b u xs q=>by rw[yU (hm b _ q fun z=>z)];exact q,fun b ps q=>⟨#[],by rw[yU (hm b _ q fun z=>z),q];simp⟩⟩
 by_cases hbe:b=e
 ·subst hbe;exact heo
 ·exact⟨u,k b u hbe q⟩
end
def trk (h:Heap) (H:Hp):List Addr:=(List.range h.objs.size).filter fun a=>(H a).isSome
def hidT (h:Heap) (H:Hp):Heap:=PySem.W.hideAll h (trk h H)
theorem xQ6 (h:Heap) (H:Hp):(hidT h H).objs.size=h.objs.size:=PySem.W.hideAll_size _ _
theorem xC6 {h:Heap}{H:Hp}{b:Addr}{o:Obj}(e:h.get? b=some o) (n:H b=none):(hidT h H).get? b=some o :=
 PySem.W.hideAll_get _ e fun hm=>by
  have q:(H b).isSome=true:=(List.mem_filter.mp hm).2
  rw[n] at q;simp at q
theorem wW6 {h:Heap}{H:Hp}{b:Addr}{o:Obj}(e:(hidT h H).get? b=some o):h.get? b=some o/\H b=none:=by
 have e':h.get? b=some o:=PySem.W.of_hideAll (trk h H) e
 refine⟨e',?_⟩
 cases q:H b with
 | none=>rfl
 | some x =>
  have hm:b∈trk h H:=List.mem_filter.mpr ⟨List.mem_range.mpr (Heap.lt_size e'),by simp[q]⟩
  have z:(hidT h H).get? b=none:=PySem.W.hideAll_none (trk h H) hm
  rw[z] at e;cases e
def allNews (g h:Heap) (L:Addr):List (Addr×Obj):=(List.range h.objs.size).filterMap fun a=>if a=L\/(g.get? a).isSome=true then none else (h.get? a).map fun o=>(a,o)
def rest (g h:Heap) (L d:Addr):List (Addr×Obj):=(allNews g h L).filter fun p=>decide (p.1≠d)
structure Mod (K:KFr) (mg:Str->Option Value) (base:Heap):Prop where
 kin:K.In base
 glob:base.Ns mainGlobals mg
 blt:∃mb,base.Ns builtinsNs mb/\∀x:Str,x ≠ "__name__"->mb x=bootBuiltins x
 nolimit:base.NoLimit
structure Cx where
 prog:Program
 w:World
 K:KFr
 mg:Str->Option Value
 base:Heap
 A:Around
 N:List Str
 s₀:Shared
 H₀:Hp
 env:Env
 outer:List Env
 stack:List Env
 ex:List Addr
 fn:Str->Bool
 calm:Bool
 pn:List (Addr×Obj)
 xe:Value->Shared->Prop
def frs (l:List Env):List Addr:=l.filterMap (·.frame)
abbrev Cx.fs (X:Cx):List Addr:=frs X.outer
def Vis (sc:Scope) (x:Str):Prop:=sc.names.lookup x=some .local \/ sc.names.lookup x=some .cell\/sc.names.lookup x=some .free
def Loc (sc:Scope) (x:Str):Prop:=sc.names.lookup x=some .local \/ sc.names.lookup x=some .cell
def Look (env:Env) (h:Heap) (m:Str->Option Value) (x:Str) (u:Value):Prop :=
 (env.kindOf x=some .local/\m x=some u)\/((env.kindOf x=some .cell\/env.kindOf x=some .free)/\∃c,env.cells.lookup x=some c/\h.IsCell c (some u))
structure Cx.Ok (X:Cx):Prop where
 mod:Mod X.K X.mg X.base
 kind:X.env.scope.kind=.function
 glob:X.env.globals=mainGlobals
 blt:X.env.builtins=builtinsNs
 above:X.s₀.heap.objs.size<=X.env.locals
 inj:∀x y c,X.env.cells.lookup x=some c->X.env.cells.lookup y=some c->x=y
 has:∀x,(X.env.kindOf x=some .cell\/X.env.kindOf x=some .free)->∃c,X.env.cells.lookup x=some c
 cab:∀x c,X.fn x=true->X.env.cells.lookup x=some c->X.s₀.heap.objs.size<=c
 hd:X.calm=true->X.A.handled=none
 frames:X.A.frames=some X.stack
 stk:X.stack=X.outer\/(X.stack=X.env::X.outer/\X.env.frame=some X.env.locals)
 exf:∀b∈X.ex,b≠X.env.locals/\∀x c,X.env.cells.lookup x=some c->c≠b
 bs:∀b o,X.base.get? b=some o->X.s₀.heap.get? b=some o/\X.H₀ b=none
 bsz:X.base.objs.size<=X.s₀.heap.objs.size
 noex:∀b o,X.base.get? b=some o->b∉X.ex
 exfs:∀b∈X.ex,b∉X.fs
 funs:X.s₀.heap.FunFrames X.base X.outer
 frf:∀b∈X.fs,X.H₀ b=none
structure Inv (X:Cx) (pins:List (Addr×Obj)) (σ:List (Option V)) (H:Hp) (s:Shared):Prop where
 ok:X.Ok
 os:s.os=X.s₀.os
 bare:AllBare s.gens
 base:Un X.fs X.ex X.H₀ H X.s₀.heap s.heap
 loc:∃m,s.heap.Ns X.env.locals m/\∀(i:Nat) (x:Str) (v:V),X.N[i]?=some x->σ[i]?=some (some v)->Vis X.env.scope x->∃u,RelV v u/\Look X.env s.heap m x u
 cell:∀x c,X.env.cells.lookup x=some c->∃v,s.heap.IsCell c v
 free:H X.env.locals=none
 freeC:∀x c,X.env.cells.lookup x=some c->H c=none
 pin:∀p∈X.pn++pins,s.heap.get? p.1=some p.2/\H p.1=none/\p.1≠X.env.locals/\p.1∉X.fs/\∀v,p.2.data ≠ .cell v
 hok:HOk X.prog X.w H s.heap
 len:σ.length=X.N.length
section
variable {X:Cx}{pins:List (Addr×Obj)}{σ:List (Option V)}{H H':Hp}{s:Shared}{h':Heap}
theorem Cx.Ok.nofr (ok:X.Ok){b:Addr}{o:Obj}(e:X.base.get? b=some o):b∉X.fs:=fun hb=>by
 have:=(ok.funs.mem hb).1
 rw[e] at this;cases this
theorem Inv.bs (I:Inv X pins σ H s):∀b o,X.base.get? b=some o->s.heap.get? b=some o/\H b=none:=fun b o e =>
 ⟨I.base.keep b o (I.ok.bs b o e).1 (I.ok.bs b o e).2 (I.ok.nofr e) (I.ok.noex b o e),I.base.free b o (I.ok.bs b o e).1 (I.ok.bs b o e).2 (I.ok.noex b o e)⟩
theorem Inv.bk (I:Inv X pins σ H s):∀b o,X.base.get? b=some o->s.heap.get? b=some o:=fun b o e=>(I.bs b o e).1
theorem Inv.mod (I:Inv X pins σ H s):Mod X.K X.mg X.base:=I.ok.mod
theorem Inv.kIn (I:Inv X pins σ H s):X.K.In s.heap:=I.ok.mod.kin.keeps I.bk
theorem Inv.lt (I:Inv X pins σ H s):X.env.locals<s.heap.objs.size:=let ⟨_,hn,_⟩:=I.loc;hn.lt
theorem Inv.sz (I:Inv X pins σ H s):X.s₀.heap.objs.size<=s.heap.objs.size:=Nat.le_trans I.ok.above (Nat.le_of_lt I.lt)
theorem Inv.nofs (I:Inv X pins σ H s){a:Addr}(h:s.heap.objs.size<=a):a∉X.fs:=fun hb=>by
 obtain⟨_,o,ho,_⟩:=I.ok.funs.mem hb
 exact absurd (Nat.lt_of_lt_of_le (Heap.lt_size ho) (Nat.le_trans I.sz h)) (Nat.lt_irrefl _)
theorem Inv.cne (I:Inv X pins σ H s):∀x c,X.env.cells.lookup x=some c->c≠X.env.locals:=fun x c e z=>by
 obtain⟨v,o,ho,hd⟩:=I.cell x c e
 obtain⟨m,⟨o',es,ep,ho',hd',_⟩,_⟩:=I.loc
 rw[z,ho'] at ho;cases ho;rw[hd'] at hd;cases hd
theorem Inv.funs (I:Inv X pins σ H s):s.heap.FunFrames X.base X.outer:=by
 have all:∀(l:List Env),(∀b∈frs l,b∈X.fs)->X.s₀.heap.FunFrames X.base l->s.heap.FunFrames X.base l:=by
  intro l
  induction l with
  | nil=>intro _ _;trivial
  | cons env r ih =>
   intro hs hl
   obtain⟨hk,⟨L,o,hf,hn,ho,hd⟩,hr⟩:=hl
   have hL:L∈X.fs:=hs L (by unfold frs;rw[List.filterMap_cons,hf];exact List.mem_cons_self)
   obtain⟨sl,e⟩:=I.base.slot L o ho (I.ok.frf L hL) hL fun z=>I.ok.exfs L z hL
   exact⟨hk,⟨L,_,hf,hn,e,hd⟩,ih (fun b hb=>hs b (by unfold frs;rw[List.filterMap_cons,hf];exact List.mem_cons_of_mem _ hb)) hr⟩
 exact all X.outer (fun _ hb=>hb) I.ok.funs
theorem Inv.stack (I:Inv X pins σ H s):s.heap.FunFrames X.base X.stack:=by
 rcases I.ok.stk with e | ⟨e,hf⟩
 ·rw[e];exact I.funs
 ·rw[e]
  obtain⟨m,hn,_⟩:=I.loc
  refine .cons (by rw[I.ok.kind];decide) hf hn ?_ I.funs
  exact Heap.get?_none_of_le (Nat.le_trans I.ok.bsz I.ok.above)
theorem Inv.stkSub (I:Inv X pins σ H s):∀b∈frs X.stack,b∈X.env.locals::X.fs:=fun b hb=>by
 rcases I.ok.stk with e | ⟨e,hf⟩
 ·rw[e] at hb;exact List.mem_cons_of_mem _ hb
 ·rw[e] at hb
  unfold frs at hb
  rw[List.filterMap_cons,hf] at hb
  exact hb
theorem Inv.stkFree (I:Inv X pins σ H s):∀b∈frs X.stack,H b=none:=fun b hb=>by
 rcases List.mem_cons.mp (I.stkSub b hb) with e | hb
 ·rw[e];exact I.free
 ·obtain⟨_,o,ho,_⟩:=I.ok.funs.mem hb
  exact I.base.free b o ho (I.ok.frf b hb) fun z=>I.ok.exfs b z hb
theorem Inv.step {g':Array GenState}{t':Nat}{d':Drawn}{ch:List Addr}(I:Inv X pins σ H s)
  (hch:∀b∈ch,(b∈X.ex\/X.s₀.heap.objs.size<=b)/\b≠X.env.locals/\(∀x c,X.env.cells.lookup x=some c->c≠b)/\∀p∈X.pn++pins,p.1≠b)
  (keep:∀b o,b≠X.env.locals->b∉X.fs->b∉ch->s.heap.get? b=some o->H b=none->h'.get? b=some o)
  (slot:∀b o,b≠X.env.locals->b∈X.fs->b∉ch->s.heap.get? b=some o->H b=none->∃sl,h'.get? b=some { o with slots:=sl }) (free:∀b o,b∉ch->s.heap.get? b=some o->H b=none->H' b=none)
  (there:∀b o,b∉ch->s.heap.get? b=some o->∃o',h'.get? b=some o')
  (tups:∀b xs,H b=some (.tup xs)->H' b=some (.tup xs)) (frzs:∀b o u,H b=some (.frz o u)->H' b=some (.frz o u)) (tbls:∀b ps,H b=some (.tbl ps)->∃more,H' b=some (.tbl (ps++more)))
  (ns:∀m,s.heap.Ns X.env.locals m->h'.Ns X.env.locals m) (hok:HOk X.prog X.w H' h') (hg:AllBare g') :
  Inv X pins σ H' { s with heap:=h',gens:=g',drawn:=d',toks:=t' }:=by
 have neL:∀b o,X.s₀.heap.get? b=some o->b≠X.env.locals:=fun b o e=>Nat.ne_of_lt (Nat.lt_of_lt_of_le (Heap.lt_size e) I.ok.above)
 have neC:∀b o,X.s₀.heap.get? b=some o->b∉X.ex->b∉ch:=fun b o e hx hb=>by
  rcases (hch b hb).1 with z | z
  ·exact hx z
  ·exact absurd (Nat.lt_of_lt_of_le (Heap.lt_size e) z) (Nat.lt_irrefl _)
 have cellK:∀x c,X.env.cells.lookup x=some c->∀v,s.heap.IsCell c v->h'.IsCell c v:=fun x c e v ⟨o,ho,hd⟩=>by
  have nch:c∉ch:=fun z=>(hch c z).2.2.1 x c e rfl
  by_cases hc:c∈X.fs
  ·obtain⟨sl,q⟩:=slot c o (I.cne x c e) hc nch ho (I.freeC x c e)
   exact⟨_,q,hd⟩
  ·exact⟨o,keep c o (I.cne x c e) hc nch ho (I.freeC x c e),hd⟩
 refine⟨I.ok,I.os,hg,⟨fun b o e n hb hx => ?_,fun b o e n hb hx => ?_,fun b o e n hx => ?_,fun b o e hx => ?_,fun b xs e=>tups b xs (I.base.tups b xs e),fun b o xs e=>frzs b o xs (I.base.frzs b o xs e),fun b ps e => ?_⟩,?_,fun x c e => ?_,?_,fun x c e => ?_,fun p hp => ?_,hok,I.len⟩
 ·exact keep b o (neL b o e) hb (neC b o e hx) (I.base.keep b o e n hb hx) (I.base.free b o e n hx)
 ·obtain⟨sl,e1⟩:=I.base.slot b o e n hb hx
  obtain⟨sl',e2⟩:=slot b _ (neL b o e) hb (neC b o e hx) e1 (I.base.free b o e n hx)
  exact⟨sl',e2⟩
 ·obtain⟨o',e1⟩:=I.base.there b o e hx
  exact free b o' (neC b o e hx) e1 (I.base.free b o e n hx)
 ·obtain⟨o',e1⟩:=I.base.there b o e hx
  exact there b o' (neC b o e hx) e1
 ·obtain⟨m1,e1⟩:=I.base.tbls b ps e
  obtain⟨m2,e2⟩:=tbls b _ e1
  exact⟨m1++m2,by rw[e2,Array.append_assoc]⟩
 ·obtain⟨m,hn,hl⟩:=I.loc
  refine⟨m,ns m hn,fun i x v e1 e2 e3 => ?_⟩
  obtain⟨u,r,l⟩:=hl i x v e1 e2 e3
  refine⟨u,r,?_⟩
  rcases l with l | ⟨k,c,e,z⟩
  ·exact .inl l
  ·exact .inr ⟨k,c,e,cellK x c e _ z⟩
 ·obtain⟨v,z⟩:=I.cell x c e
  exact⟨v,cellK x c e v z⟩
 ·obtain⟨m,⟨o,_,_,ho,_⟩,_⟩:=I.loc
  exact free _ o (fun z=>(hch _ z).2.1 rfl) ho I.free
 ·obtain⟨v,o,ho,hd⟩:=I.cell x c e
  exact free c o (fun z=>(hch c z).2.2.1 x c e rfl) ho (I.freeC x c e)
 ·obtain⟨e,n,ne,nf,d⟩:=I.pin p hp
  have nch:p.1∉ch:=fun z=>(hch p.1 z).2.2.2 p hp rfl
  exact⟨keep p.1 p.2 ne nf nch e n,free p.1 p.2 nch e n,ne,nf,d⟩
theorem Inv.un {t':Nat}(I:Inv X pins σ H s) (u:Un X.fs [] H H' s.heap h') (hok:HOk X.prog X.w H' h'):Inv X pins σ H' { s with heap:=h',toks:=t' }:=by
 obtain⟨m,⟨o,es,ep,ho,r⟩,_⟩:=id I.loc
 obtain⟨sl,hL⟩:=u.any ho I.free (by simp)
 exact I.step (g':=s.gens) (d':=s.drawn) (ch:=[]) (fun _ z=>nomatch z) (fun b o _ hb _ e n=>u.keep b o e n hb (by simp)) (fun b o _ hb _ e n=>u.slot b o e n hb (by simp)) (fun b o _ e n=>u.free b o e n (by simp)) (fun b o _ e=>u.there b o e (by simp)) u.tups u.frzs u.tbls (fun m' hm=>by
  obtain⟨o',es',ep',ho',r'⟩:=hm
  rw[ho] at ho';cases ho'
  exact⟨_,es',ep',hL,r'⟩) hok I.bare
theorem Inv.call {g':Array GenState}{t':Nat}{d':Drawn}{ch:List Addr}(I:Inv X pins σ H s) (u:Un (frs X.stack) ch H H' s.heap h') (hok:HOk X.prog X.w H' h') (hg:AllBare g')
  (hch:∀b∈ch,(b∈X.ex\/X.s₀.heap.objs.size<=b)/\b≠X.env.locals/\(∀x c,X.env.cells.lookup x=some c->c≠b)/\∀p∈X.pn++pins,p.1≠b) :
  Inv X pins σ H' { s with heap:=h',gens:=g',drawn:=d',toks:=t' }:=by
 obtain⟨m,⟨o,es,ep,ho,r⟩,_⟩:=id I.loc
 obtain⟨sl,hL⟩:=u.any ho I.free fun z=>(hch _ z).2.1 rfl
 exact I.step (ch:=ch) hch (fun b o hL hb hc e n=>u.keep b o e n (fun z=>(List.mem_cons.mp (I.stkSub b z)).elim hL hb) hc) (fun b o _ _ hc e n=>u.any e n hc) (fun b o hc e n=>u.free b o e n hc) (fun b o hc e=>u.there b o e hc) u.tups u.frzs u.tbls (fun m' hm=>by
  obtain⟨o',es',ep',ho',r'⟩:=hm
  rw[ho] at ho';cases ho'
  exact⟨_,es',ep',hL,r'⟩) hok hg
theorem Inv.turned {t':Nat}{it:Addr}(I:Inv X pins σ H s) (k:∀b o,b≠it->s.heap.get? b=some o->h'.get? b=some o) (hn:H it=none) (hL:it≠X.env.locals)
  (h1:it∈X.ex\/X.s₀.heap.objs.size<=it) (h2:∀x c,X.env.cells.lookup x=some c->c≠it) (h3:∀p∈X.pn++pins,p.1≠it):Inv X pins σ H { s with heap:=h',toks:=t' }:=by
 have nit:∀b u,H b=some u->b≠it:=fun b u e z=>by rw[z,hn] at e;cases e
 refine I.step (g':=s.gens) (d':=s.drawn) (ch:=[it]) (fun b hb => ?_) (fun b o _ _ hc e _=>k b o (fun z=>hc (by simp[z])) e) (fun b o _ _ hc e _=>⟨o.slots,k b o (fun z=>hc (by simp[z])) e⟩) (fun _ _ _ _ n=>n)
  (fun b o hc e=>⟨o,k b o (fun z=>hc (by simp[z])) e⟩) (fun _ _ e=>e) (fun _ _ _ e=>e) (fun b ps e=>⟨#[],by rw[e];simp⟩) (fun m hm => ?_) (fun b u e => ?_) I.bare
 ·have e:b=it:=by simpa using hb
  subst e
  exact⟨h1,hL,h2,h3⟩
 ·obtain⟨o,es,ep,ho,r⟩:=hm
  exact⟨o,es,ep,k _ o (Ne.symm hL) ho,r⟩
 ·refine (I.hok b u e).stay (fun c v hc q=>k c v ?_ q) (fun _ q=>q) fun _ _ q=>q
  rcases hc with z | z
  ·rw[z];exact nit b u e
  ·exact nit c _ z
theorem Inv.tok (I:Inv X pins σ H s) (t:Nat):Inv X pins σ H { s with toks:=t }:=I.un (h':=s.heap) (t':=t) Un.refl I.hok
theorem Inv.kept {t':Nat}(I:Inv X pins σ H s) (k:∀b u,s.heap.get? b=some u->h'.get? b=some u):Inv X pins σ H { s with heap:=h',toks:=t' }:=I.un (Un.kept k) (I.hok.kept k)
theorem Inv.laid {a:Addr}{o:HO}{t':Nat}(I:Inv X pins σ H s) (k:∀b u,s.heap.get? b=some u->h'.get? b=some u) (hp:s.heap.objs.size<=a) (new:ObjOk X.prog X.w (upd H a o) h' a o) :
  Inv X pins σ (upd H a o) { s with heap:=h',toks:=t' }:=I.un (Un.laid k hp (I.hok.fresh hp)) (I.hok.laid k hp new)
theorem Inv.write {x e:Addr}{o:HO}{t':Nat}(I:Inv X pins σ H s) (mu:Mut (H x)) (he:e=x\/H e=some (.own x)) (k:∀b u,b≠e->s.heap.get? b=some u->h'.get? b=some u) (heo:∃u,h'.get? e=some u)
  (new:ObjOk X.prog X.w (upd H x o) h' x o):Inv X pins σ (upd H x o) { s with heap:=h',toks:=t' }:=I.un (Un.write mu he k heo) (I.hok.write mu he k heo new)
theorem Inv.qR {pins':List (Addr×Obj)}(I:Inv X pins σ H s) (h:∀p∈pins',s.heap.get? p.1=some p.2/\H p.1=none/\p.1≠X.env.locals/\p.1∉X.fs/\∀v,p.2.data ≠ .cell v):Inv X pins' σ H s :=
 ⟨I.ok,I.os,I.bare,I.base,I.loc,I.cell,I.free,I.freeC,fun p hp=>(List.mem_append.mp hp).elim (fun z=>I.pin p (List.mem_append_left _ z)) (h p),I.hok,I.len⟩
theorem yH7 {N:List Str}(hN:N.Nodup){i j:Nat}{x:Str}(a:N[i]?=some x) (b:N[j]?=some x):i=j:=by
 obtain⟨h1,e1⟩:=List.getElem?_eq_some_iff.mp a
 obtain⟨h2,e2⟩:=List.getElem?_eq_some_iff.mp b
 exact (List.getElem_inj hN).mp (e1.trans e2.symm)
theorem xR5 {M:Model}{A:Around}{E:Value->Shared->Prop}{i:Nat}{x:Str}{v:V}{u:Value}{Q:Unit->Shared->Prop}(I:Inv X pins σ H s) (hN:X.N.Nodup) (hi:X.N[i]?=some x) (hx:Loc X.env.scope x) (r:RelV v u)
  (h:∀s',Inv X pins (σ.set i (some v)) H s'->(∃a,Heap.SameBut a s.heap s'.heap/\(a=X.env.locals\/X.env.cells.lookup x=some a))->Q () s') (hf:autoParam (X.fn x=true\/X.env.scope.names.lookup x=some .local) zW8._auto_1):wpAny M A (storeName X.env x u) Q E s:=by
 obtain⟨m,hn,hl⟩:=id I.loc
 have hcls:(X.env.scope.kind == .class || (X.env.scope.kind == .module&&X.env.locals != X.env.globals))=false:=by rw[I.ok.kind];rfl
 have hiσ:i<σ.length:=by rw[I.len];exact (List.getElem?_eq_some_iff.mp hi).1
 have cne:=I.cne
 have tracked:∀{a:Addr}{h':Heap},(∃o,s.heap.get? a=some o/\H a=none)->Heap.SameBut a s.heap h'->HOk X.prog X.w H h':=fun {a h'} ha hs b ob e=>by
  obtain⟨_,_,hfree⟩:=ha
  refine (I.hok b ob e).stay (fun c w' hc q=>(hs.2 c ?_).trans q) (fun _ q=>q) fun _ _ q=>q
  rintro rfl
  rcases hc with rfl | hc
  ·rw[hfree] at e;cases e
  ·rw[hfree] at hc;cases hc
 rcases hx with hk | hk
 ·refine wpAny_storeName_local hk hn (fun h' hn' hs => ?_) hcls
  obtain⟨oL,_,_,hoL,_⟩:=id hn
  refine h _ ⟨I.ok,I.os,I.bare,⟨fun b o e n hb hx => ?_,fun b o e n hb hx => ?_,I.base.free,fun b o e hx => ?_,I.base.tups,I.base.frzs,I.base.tbls⟩,⟨_,hn',fun j y v' e1 e2 e3 => ?_⟩,fun y c e => ?_,I.free,I.freeC,fun p hp => ?_,tracked ⟨oL,hoL,I.free⟩ hs,by simpa using I.len⟩ ⟨_,hs,.inl rfl⟩
  ·exact (hs.2 b (Nat.ne_of_lt (Nat.lt_of_lt_of_le (Heap.lt_size e) I.ok.above))).trans (I.base.keep b o e n hb hx)
  ·obtain⟨sl,e1⟩:=I.base.slot b o e n hb hx
   exact⟨sl,(hs.2 b (Nat.ne_of_lt (Nat.lt_of_lt_of_le (Heap.lt_size e) I.ok.above))).trans e1⟩
  ·obtain⟨o',e1⟩:=I.base.there b o e hx
   exact⟨o',(hs.2 b (Nat.ne_of_lt (Nat.lt_of_lt_of_le (Heap.lt_size e) I.ok.above))).trans e1⟩
  ·by_cases hj:j=i
   ·subst hj
    rw[hi] at e1;cases e1
    rw[List.getElem?_set_self hiσ] at e2
    cases e2
    exact⟨u,r,.inl ⟨hk,by simp⟩⟩
   ·rw[List.getElem?_set_ne (Ne.symm hj)] at e2
    obtain⟨u',r',q⟩:=hl j y v' e1 e2 e3
    refine⟨u',r',?_⟩
    rcases q with ⟨k,e⟩ | ⟨k,c,e,z⟩
    ·refine .inl ⟨k,?_⟩
     have:y≠x:=fun e=>hj (yH7 hN e1 (e▸hi))
     simp[this,e]
    ·exact .inr ⟨k,c,e,z.sameBut hs (cne y c e)⟩
  ·obtain⟨w',z⟩:=I.cell y c e
   exact⟨w',z.sameBut hs (cne y c e)⟩
  ·obtain⟨e,n,ne,nf,d⟩:=I.pin p hp
   exact⟨(hs.2 p.1 ne).trans e,n,ne,nf,d⟩
 ·have hfn:X.fn x=true:=by
   rcases hf with z | z
   ·exact z
   ·rw[z] at hk;cases hk
  obtain⟨c,hc⟩:=I.ok.has x (.inl hk)
  obtain⟨w',z⟩:=I.cell x c hc
  refine wpAny_storeName_cell I.ok.kind hk hc z (fun h' hc' hs => ?_)
  obtain⟨oc,hoc,hocd⟩:=id z
  refine h { s with heap:=h' } ⟨I.ok,I.os,I.bare,⟨fun b o e n hb hx => ?_,fun b o e n hb hx => ?_,I.base.free,fun b o e hx => ?_,I.base.tups,I.base.frzs,I.base.tbls⟩,⟨m,hn.sameBut hs (Ne.symm (cne x c hc)),fun j y v' e1 e2 e3 => ?_⟩,fun y c' e => ?_,I.free,I.freeC,fun p hp => ?_,tracked ⟨oc,hoc,I.freeC x c hc⟩ hs,by simpa using I.len⟩ ⟨c,hs,.inr hc⟩
  ·exact (hs.2 b (Nat.ne_of_lt (Nat.lt_of_lt_of_le (Heap.lt_size e) (I.ok.cab x c hfn hc)))).trans (I.base.keep b o e n hb hx)
  ·obtain⟨sl,e1⟩:=I.base.slot b o e n hb hx
   exact⟨sl,(hs.2 b (Nat.ne_of_lt (Nat.lt_of_lt_of_le (Heap.lt_size e) (I.ok.cab x c hfn hc)))).trans e1⟩
  ·obtain⟨o',e1⟩:=I.base.there b o e hx
   exact⟨o',(hs.2 b (Nat.ne_of_lt (Nat.lt_of_lt_of_le (Heap.lt_size e) (I.ok.cab x c hfn hc)))).trans e1⟩
  ·by_cases hj:j=i
   ·subst hj
    rw[hi] at e1;cases e1
    rw[List.getElem?_set_self hiσ] at e2
    cases e2
    exact⟨u,r,.inr ⟨.inl hk,c,hc,hc'⟩⟩
   ·rw[List.getElem?_set_ne (Ne.symm hj)] at e2
    obtain⟨u',r',q⟩:=hl j y v' e1 e2 e3
    refine⟨u',r',?_⟩
    rcases q with q | ⟨k,c',e,z'⟩
    ·exact .inl q
    ·refine .inr ⟨k,c',e,z'.sameBut hs ?_⟩
     rintro rfl
     exact hj (yH7 hN e1 (I.ok.inj _ _ _ e hc▸hi))
  ·by_cases hcc:c'=c
   ·subst hcc;exact⟨_,hc'⟩
   ·obtain⟨w2,z2⟩:=I.cell y c' e
    exact⟨w2,z2.sameBut hs hcc⟩
  ·obtain⟨e,n,ne,nf,d⟩:=I.pin p hp
   refine⟨(hs.2 p.1 ?_).trans e,n,ne,nf,d⟩
   intro q
   rw[q,hoc] at e
   have q':oc=p.2:=Option.some.inj e
   exact d w' (by rw[<-q'];exact hocd)
theorem zV9 {M:Model}{A:Around}{E:Value->Shared->Prop}{i:Nat}{x:Str}{v:V}{u:Value}{Q:Unit->Shared->Prop}(I:Inv X pins σ H s) (hN:X.N.Nodup) (hi:X.N[i]?=some x) (hx:Loc X.env.scope x) (r:RelV v u)
  (h:∀s',Inv X pins (σ.set i (some v)) H s'->Q () s') (hf:autoParam (X.fn x=true\/X.env.scope.names.lookup x=some .local) zW8._auto_1):wpAny M A (storeName X.env x u) Q E s :=
 xR5 I hN hi hx r (fun s' I' _=>h s' I') hf
theorem Inv.call' {s':Shared}{ch:List Addr}(I:Inv X pins σ H s) (ho:s'.os=s.os) (u:Un (frs X.stack) ch H H' s.heap s'.heap) (hok:HOk X.prog X.w H' s'.heap) (hg:AllBare s'.gens)
  (hch:∀b∈ch,(b∈X.ex\/X.s₀.heap.objs.size<=b)/\b≠X.env.locals/\(∀x c,X.env.cells.lookup x=some c->c≠b)/\∀p∈X.pn++pins,p.1≠b):Inv X pins σ H' s':=by
 obtain⟨h',g',d',t',o'⟩:=s'
 have e:o'=s.os:=ho
 subst e
 exact I.call (g':=g') (t':=t') (d':=d') u hok hg hch
end
abbrev XK:=Value->Option Addr->Hp->Prop
abbrev St:=List (Option V)
abbrev VK:=V->Hp->Prop
abbrev TE:=St->Hp->VK->Prop
abbrev TT:=St->Hp->(Bool->Hp->Prop)->Prop
abbrev TA:=St->Hp->(List V->Hp->Prop)->Prop
structure Ends where
 nx:St->Hp->Prop
 rt:VK
 bk:St->Hp->Prop:=fun _ _=>False
 ct:St->Hp->Prop:=fun _ _=>False
abbrev TS:=Ends->St->Hp->Prop
def EP (X:Cx) (pins:List (Addr×Obj)) (σ:St) (Q:VK) (u:Value) (s':Shared):Prop:=∃v H',Inv X pins σ H' s'/\RelV v u/\Q v H'
def TP (X:Cx) (pins:List (Addr×Obj)) (σ:St) (Q:Bool->Hp->Prop) (b:Bool) (s':Shared):Prop:=∃H',Inv X pins σ H' s'/\Q b H'
def AP (X:Cx) (pins:List (Addr×Obj)) (σ:St) (Q:List V->Hp->Prop) (us:List Value) (s':Shared):Prop:=∃vs H',Inv X pins σ H' s'/\Vals vs us/\Q vs H'
def SP (X:Cx) (pins:List (Addr×Obj)) (D:Ends) (f:Flow) (s':Shared):Prop :=
 match f with
 | .next=>∃σ' H',Inv X pins σ' H' s'/\D.nx σ' H'
 | .brk=>∃σ' H',Inv X pins σ' H' s'/\D.bk σ' H'
 | .cont=>∃σ' H',Inv X pins σ' H' s'/\D.ct σ' H'
 | .ret u=>∃v σ' H',Inv X pins σ' H' s'/\RelV v u/\D.rt v H'
def PE (X:Cx) (e:Expr) (t:TE):Prop :=
 ∀(pins:List (Addr×Obj)) (s:Shared) (σ:St) (H:Hp) (Q:VK),Inv X pins σ H s->t σ H Q->wpAny (model X.prog X.w) X.A (eval e X.env) (EP X pins σ Q) X.xe s
def PT (X:Cx) (e:Expr) (t:TT):Prop :=
 ∀(pins:List (Addr×Obj)) (s:Shared) (σ:St) (H:Hp) (Q:Bool->Hp->Prop),Inv X pins σ H s->t σ H Q->wpAny (model X.prog X.w) X.A (isTrue e X.env (eval e X.env)) (TP X pins σ Q) X.xe s
def PW (X:Cx) (e:Expr) (t:TT):Prop :=
 ∀(whole:Sem Value) (pins:List (Addr×Obj)) (s:Shared) (σ:St) (H:Hp) (Q:Bool->Hp->Prop),Inv X pins σ H s->t σ H Q->wpAny (model X.prog X.w) X.A (isTrue e X.env whole) (TP X pins σ Q) X.xe s
theorem PW.pt {X:Cx}{e:Expr}{t:TT}(h:PW X e t):PT X e t:=h _
def PA (X:Cx) (es:List Expr) (t:TA):Prop :=
 ∀(pos:Pos) (pins:List (Addr×Obj)) (s:Shared) (σ:St) (H:Hp) (Q:List V->Hp->Prop),Inv X pins σ H s->t σ H Q->wpAny (model X.prog X.w) X.A (spliced (backTo pos (starEach es X.env))) (AP X pins σ Q) X.xe s
def PS (X:Cx) (st:Stmt) (t:TS):Prop :=
 ∀(pins:List (Addr×Obj)) (s:Shared) (σ:St) (H:Hp) (D:Ends),Inv X pins σ H s->t D σ H->wpAny (model X.prog X.w) X.A (exec st X.env) (SP X pins D) X.xe s
def PSs (X:Cx) (st:List Stmt) (t:TS):Prop :=
 ∀(pins:List (Addr×Obj)) (s:Shared) (σ:St) (H:Hp) (D:Ends),Inv X pins σ H s->t D σ H->wpAny (model X.prog X.w) X.A (execs st X.env) (SP X pins D) X.xe s
theorem thn {α:Type}{t:Sem α}{Q Q':α->Shared->Prop}{M:Model}{A:Around}{E:Value->Shared->Prop}{s:Shared}(h:wpAny M A t Q E s) (hQ:∀a s,Q a s->Q' a s):wpAny M A t Q' E s:=wpAny_mono h hQ fun _ _ x=>x
section
variable {X:Cx}
theorem bin {a b:Expr}{ta tb:TE}(ha:PE X a ta) (hb:PE X b tb){pins:List (Addr×Obj)}{s:Shared}{σ:St}{H:Hp}{R:V->V->Hp->Prop}(I:Inv X pins σ H s) (h:ta σ H fun x H1=>tb σ H1 fun y H2=>R x y H2)
  {α:Type}{Q:α->Shared->Prop}{f:Value->Value->Sem α}
  (hf:∀v u s2 x y H2,Inv X pins σ H2 s2->RelV x v->RelV y u->R x y H2->wpAny (model X.prog X.w) X.A (f v u) Q X.xe s2) :
  wpAny (model X.prog X.w) X.A (eval a X.env) (fun v s₁=>wpAny (model X.prog X.w) X.A (eval b X.env) (fun u s₂=>wpAny (model X.prog X.w) X.A (f v u) Q X.xe s₂) X.xe s₁) X.xe s:=by
 refine thn (ha pins s σ H _ I h) fun v s1 ⟨x,H1,I1,r1,q1⟩ => ?_
 refine thn (hb pins s1 σ H1 _ I1 q1) fun u s2 ⟨y,H2,I2,r2,q2⟩ => ?_
 exact hf v u s2 x y H2 I2 r1 r2 q2
def tVar (i:Nat):TE:=fun σ H Q=>∃v,σ[i]?=some (some v)/\Q v H
def tC (v:V):TE:=fun _ H Q=>Q v H
theorem jX {i:Nat}{x:Str}{pos:Pos}(hN:X.N[i]?=some x) (hv:Vis X.env.scope x) (hd:autoParam ((x == ("__debug__":Str))=false) yX._auto_1) (hcd:autoParam ((x == ("__classdict__":Str))=false) yX._auto_1):PE X (.Name x pos) (tVar i):=by
 intro pins s σ H Q I h
 obtain⟨v,e,h⟩:=h
 obtain⟨m,hn,hl⟩:=I.loc
 obtain⟨u,r,l⟩:=hl i x v hN e hv
 have fin:EP X pins σ Q u s:=⟨v,H,I,r,h⟩
 rcases l with ⟨hk,hm⟩ | ⟨hk,c,hc,hcell⟩
 ·exact wpAny_Name (wpAny_loadName_local I.ok.kind hk hn hm fin) hd
 ·rcases hk with hk | hk
  ·exact wpAny_Name (wpAny_loadName_cell I.ok.kind hk hc hcell fin) hd
  ·exact wpAny_Name (wpAny_loadName_free I.ok.kind hk hc hcell fin hcd) hd
theorem wM2 {i j pos}:PE X (.Constant (.int i) j pos) (tC (.int i)):=fun _ _ _ H _ I h=>wpAny_Constant_int ⟨.int i,H,I.tok _,⟨_,rfl⟩,h⟩
theorem wF8 {b j pos}:PE X (.Constant (.bool b) j pos) (tC (.bl b)):=fun _ _ _ H _ I h=>Constant_bool ⟨.bl b,H,I,rfl,h⟩
theorem wJ7 {x j pos}:PE X (.Constant (.str x) j pos) (tC (.str x)):=fun _ _ _ H _ I h=>Calls.Constant_str ⟨.str x,H,I.tok _,⟨_,rfl⟩,h⟩
def Gl (X:Cx) (x:Str):Prop:=X.env.kindOf x=some .globalImplicit
theorem yX6 {E:Value->Shared->Prop}{pins:List (Addr×Obj)}{s:Shared}{σ:St}{H:Hp}{x:Str}{u:Value}{pos:Pos}{Q:Value->Shared->Prop}(I:Inv X pins σ H s) (hg:Gl X x) (hm:X.mg x=some u) (h:Q u s)
  (hd:autoParam ((x == ("__debug__":Str))=false) yX._auto_1):wpAny (model X.prog X.w) X.A (eval (.Name x pos) X.env) Q E s :=
 Calls.Name_function_global I.ok.kind hg (Calls.loadGlobal_global (by rw[I.ok.glob];exact I.mod.glob.keeps I.bk) hm h) hd
theorem zX1 {E:Value->Shared->Prop}{pins:List (Addr×Obj)}{s:Shared}{σ:St}{H:Hp}{x:Str}{u:Value}{pos:Pos}{Q:Value->Shared->Prop}(I:Inv X pins σ H s) (hg:Gl X x) (hm:X.mg x=none) (hv:bootBuiltins x=some u) (h:Q u s)
  (hn:autoParam (x ≠ "__name__") yX._auto_1) (hd:autoParam ((x == ("__debug__":Str))=false) yX._auto_1):wpAny (model X.prog X.w) X.A (eval (.Name x pos) X.env) Q E s:=by
 obtain⟨mb,h1,h2⟩:=I.mod.blt
 exact Calls.Name_function_global I.ok.kind hg (Calls.loadGlobal_builtin (by rw[I.ok.glob];exact I.mod.glob.keeps I.bk) hm (by rw[I.ok.blt];exact h1.keeps I.bk) ((h2 x hn).trans hv) h) hd
theorem wZ2 {x:Str}{v:V}{u:Value}{pos:Pos}(hg:Gl X x) (hm:X.mg x=some u) (r:RelV v u) (hd:autoParam ((x == ("__debug__":Str))=false) yX._auto_1):PE X (.Name x pos) (tC v) :=
 fun _ _ _ H _ I h=>yX6 I hg hm ⟨v,H,I,r,h⟩ hd
variable {a b:Expr}{ta tb:TE}{pos:Pos}
def tB (t:TE):TT:=fun σ H Q=>t σ H fun x H1=>∃c,x=.bl c/\Q c H1
theorem wO5 {e:Expr}{t:TE}(h:PE X e t) (he:autoParam (∀whole,isTrue e X.env whole=(do let v <-whole;standAt e.pos;holding [v] (truthy v))) qU._auto_1):PT X e (tB t):=by
 intro pins s σ H Q I hw
 refine isTrue_plain (thn (h pins s σ H _ I hw) fun v s1 ⟨x,H1,I1,r1,q1⟩ => ?_) (he _)
 obtain⟨d,rfl,q⟩:=q1
 cases r1
 exact wpAny_truthy_bool ⟨H1,I1,q⟩
variable {tA tB':TT}{rest:List Expr}
def tAnd (t u:TT):TT:=fun σ H Q=>t σ H fun c H1=>if c=true then u σ H1 Q else Q false H1
def tOr (t u:TT):TT:=fun σ H Q=>t σ H fun c H1=>if c=true then Q true H1 else u σ H1 Q
def tNot (t:TT):TT:=fun σ H Q=>t σ H fun c H1=>Q (!c) H1
theorem pw_and1 (ha:PT X a tA):PW X (.BoolOp .And [a] pos) tA:=by
 intro wh pins s σ H Q I h
 refine isTrue_and (thn (ha pins s σ H Q I h) fun c s1 e => ?_)
 cases c with
 | true=>exact isTrue_and_nil e
 | false=>exact e
theorem pw_or1 (ha:PT X a tA):PW X (.BoolOp .Or [a] pos) tA:=by
 intro wh pins s σ H Q I h
 refine isTrue_or (thn (ha pins s σ H Q I h) fun c s1 e => ?_)
 cases c with
 | false=>exact isTrue_or_nil e
 | true=>exact e
theorem pw_and (ha:PT X a tA) (hb:PW X (.BoolOp .And (b::rest) pos) tB'):PW X (.BoolOp .And (a::b::rest) pos) (tAnd tA tB'):=by
 intro wh pins s σ H Q I h
 refine isTrue_and (thn (ha pins s σ H _ I h) fun c s1 ⟨H1,I1,q1⟩ => ?_)
 cases c with
 | true=>exact hb wh pins s1 σ H1 Q I1 q1
 | false=>exact⟨H1,I1,q1⟩
theorem pw_or (ha:PT X a tA) (hb:PW X (.BoolOp .Or (b::rest) pos) tB'):PW X (.BoolOp .Or (a::b::rest) pos) (tOr tA tB'):=by
 intro wh pins s σ H Q I h
 refine isTrue_or (thn (ha pins s σ H _ I h) fun c s1 ⟨H1,I1,q1⟩ => ?_)
 cases c with
 | true=>exact⟨H1,I1,q1⟩
 | false=>exact hb wh pins s1 σ H1 Q I1 q1
theorem wO2 (ha:PT X a tA):PT X (.UnaryOp .Not a pos) (tNot tA):=by
 intro pins s σ H Q I h
 exact isTrue_not (ha pins s σ H (fun c H1=>Q (!c) H1) I h)
def tAndV (ta tb:TE):TE:=fun σ H Q=>ta σ H fun x H1=>∃c,x=.bl c/\if c=true then tb σ H1 Q else Q (.bl false) H1
theorem wM8 {op} {t:TE}(h:PE X a t):PE X (.BoolOp op [a] pos) t:=fun pins s σ H Q I hw=>BoolOp_one (h pins s σ H Q I hw)
theorem wN2 (ha:PE X a ta) (hb:PE X (.BoolOp .And (b::rest) pos) tb):PE X (.BoolOp .And (a::b::rest) pos) (tAndV ta tb):=by
 intro pins s σ H Q I h
 refine BoolOp_and (thn (ha pins s σ H _ I h) fun v s1 ⟨x,H1,I1,r1,q1⟩ => ?_)
 obtain⟨c,rfl,q1⟩:=q1
 cases r1
 refine wpAny_truthy_bool ?_
 cases c with
 | true=>exact hb pins s1 σ H1 Q I1 q1
 | false=>exact⟨.bl false,H1,I1,rfl,q1⟩
def tIf (t:TT) (ta tb:TE):TE:=fun σ H Q=>t σ H fun c H1=>if c=true then ta σ H1 Q else tb σ H1 Q
theorem xF1 {c:Expr}(hc:PT X c tA) (ha:PE X a ta) (hb:PE X b tb):PE X (.IfExp c a b pos) (tIf tA ta tb):=by
 intro pins s σ H Q I h
 refine wpAny_IfExp (thn (hc pins s σ H _ I h) fun d s1 ⟨H1,I1,q1⟩ => ?_)
 cases d with
 | true=>exact ha pins s1 σ H1 Q I1 q1
 | false=>exact hb pins s1 σ H1 Q I1 q1
end
def SqL (K:KFr) (H:Hp) (a:Addr) (xs:List V):Prop :=
 Rd H a (.lst xs) \/
  ∃(o:Obj) (its:Array Value) (n:Nat),K.lookup a=some o/\o.cls=.type "list"/\o.dict=none/\o.data=.seq its n/\its.size<=sizeLine/\Vals xs its.toList
def SqT (K:KFr) (H:Hp) (a:Addr) (xs:List V):Prop :=
 Rd H a (.tup xs) \/
  ∃(o:Obj) (its:Array Value) (n:Nat),K.lookup a=some o/\o.cls=.type "tuple"/\o.data=.seq its n/\its.size<=sizeLine/\Vals xs its.toList
def absV:Value->Option V
 | .none=>some .non
 | .bool b=>some (.bl b)
 | .int i _=>some (.int i)
 | .str x _=>some (.str x)
 | .bytes b _=>some (.byt b)
 | .float b _=>some (.flt b)
 | .ref a=>some (.ref a)
 | .type n=>some (.ty n)
 | _=>none
theorem RelV.abs {x:V}{u:Value}(r:RelV x u):absV u=some x:=by
 cases x with
 | non=>cases r;rfl
 | bl _=>cases r;rfl
 | int _=>obtain⟨t,rfl⟩:=r;rfl
 | str _=>obtain⟨t,rfl⟩:=r;rfl
 | byt _=>obtain⟨t,rfl⟩:=r;rfl
 | flt _=>obtain⟨t,rfl⟩:=r;rfl
 | ref _=>cases r;rfl
 | ty _=>cases r;rfl
theorem RelV.inj {x y:V}{u:Value}(r:RelV x u) (q:RelV y u):x=y:=Option.some.inj (r.abs.symm.trans q.abs)
theorem Vals.inj:∀{xs ys:List V}{us:List Value},Vals xs us->Vals ys us->xs=ys
 | _,_,_,.nil,.nil=>rfl
 | _,_,_,.cons r t,.cons r' t'=>by rw[r.inj r',Vals.inj t t']
section
variable {X:Cx}{pins:List (Addr×Obj)}{σ:St}{H:Hp}{s:Shared}{a:Addr}{xs ys:List V}
theorem SqL.of {K:KFr}(h:H a=some (.lst xs)):SqL K H a xs:=.inl (.inl h)
theorem Inv.list (I:Inv X pins σ H s) (h:SqL X.K H a xs):∃its:List Value,Vals xs its/\PlainL s.heap a its.toArray/\xs.length<=sizeLine:=by
 rcases h with h | ⟨o,its,n,hk,hc,hd,hs,hz,r⟩
 ·obtain⟨z,its,n,r,e⟩:=h.ok I.hok
  exact⟨its,r,⟨_,n,e,rfl,rfl,rfl⟩,z⟩
 ·refine⟨its.toList,r,⟨o,n,I.kIn a o hk,hc,hd,by simpa using hs⟩,?_⟩
  have e:=r.length
  simp only[Array.length_toList] at e
  bv_omega
theorem Inv.tuple (I:Inv X pins σ H s) (h:SqT X.K H a xs):∃its:List Value,Vals xs its/\IsTup s.heap a its.toArray/\xs.length<=sizeLine:=by
 rcases h with h | ⟨o,its,n,hk,hc,hs,hz,r⟩
 ·obtain⟨z,its,r,p⟩:=h.ok I.hok
  exact⟨its,r,p.tup,z⟩
 ·refine⟨its.toList,r,⟨o,I.kIn a o hk,hc,n,by simpa using hs⟩,?_⟩
  have e:=r.length
  simp only[Array.length_toList] at e
  bv_omega
theorem Inv.yH1 (I:Inv X pins σ H s) (h:SqL X.K H a xs) (h':SqL X.K H a ys):xs=ys:=by
 obtain⟨its,r,⟨o,n,e,_,_,d⟩,_⟩:=I.list h
 obtain⟨its',r',⟨o',n',e',_,_,d'⟩,_⟩:=I.list h'
 rw[e] at e';cases e'
 rw[d] at d'
 injection d' with d1 _
 have:its=its':=by simpa using congrArg Array.toList d1
 subst this
 exact r.inj r'
theorem Inv.yT5 (I:Inv X pins σ H s) (h:SqT X.K H a xs) (h':SqT X.K H a ys):xs=ys:=by
 obtain⟨its,r,⟨o,e,_,n,d⟩,_⟩:=I.tuple h
 obtain⟨its',r',⟨o',e',_,n',d'⟩,_⟩:=I.tuple h'
 rw[e] at e';cases e'
 rw[d] at d'
 injection d' with d1 _
 have:its=its':=by simpa using congrArg Array.toList d1
 subst this
 exact r.inj r'
end
section
variable {X:Cx}{pins:List (Addr×Obj)}{σ:St}{H:Hp}{s:Shared}{E:Value->Shared->Prop}
end
section
variable {X:Cx}{st:Stmt}{rest:List Stmt}{t u:TS}{e:Expr}{te:TE}{pos:Pos}
def tNext:TS:=fun D σ H=>D.nx σ H
def tSeq (t u:TS):TS:=fun D σ H=>t { D with nx:=u D } σ H
theorem wX7:PSs X [] tNext:=fun _ _ σ H _ I h=>wpAny_execs_nil ⟨σ,H,I,h⟩
theorem xF3 (h1:PS X st t) (h2:PSs X rest u):PSs X (st::rest) (tSeq t u):=by
 intro pins s σ H D I h
 refine wpAny_execs_cons (thn (h1 pins s σ H { D with nx:=u D } I h) fun f s1 q => ?_)
 cases f with
 | next =>
  obtain⟨σ',H',I',q⟩:=q
  exact h2 pins s1 σ' H' D I' q
 | ret v=>exact q
 | brk=>exact q
 | cont=>exact q
theorem wY6 (h1:PS X st t):PSs X [st] t:=by
 intro pins s σ H D I h
 refine wpAny_execs_cons (thn (h1 pins s σ H D I h) fun f s1 q => ?_)
 cases f with
 | next=>exact wpAny_execs_nil q
 | ret v=>exact q
 | brk=>exact q
 | cont=>exact q
theorem Inv.quiet {pins:List (Addr×Obj)}{σ:St}{H:Hp}{s:Shared}(I:Inv X pins σ H s):interactive X.env=false:=by simp[interactive,I.ok.kind]
def tDrop (te:TE):TS:=fun D σ H=>te σ H fun _ H1=>D.nx σ H1
theorem zI2 (he:PE X e te) (hs:autoParam (swapsWith e none pos.line X.env=pure false) zU._auto_1):PS X (.Expr e pos) (tDrop te):=by
 intro pins s σ H D I h
 exact wpAny_Expr_any (thn (he pins s σ H _ I h) fun v s1 ⟨x,H1,I1,r1,q1⟩=>⟨σ,H1,I1,q1⟩) I.quiet hs
def tRet (te:TE):TS:=fun D σ H=>te σ H D.rt
theorem xL7 (he:PE X e te):PS X (.Return (some e) pos) (tRet te):=by
 intro pins s σ H D I h
 exact wpAny_Return_some (thn (he pins s σ H _ I h) fun v s1 ⟨x,H1,I1,r1,q1⟩=>⟨x,σ,H1,I1,r1,q1⟩)
def tIfS (c:TT) (t u:TS):TS:=fun D σ H=>c σ H fun b H1=>if b=true then t D σ H1 else u D σ H1
theorem wH2 {c:Expr}{a b:List Stmt}{tc:TT}(hc:PT X c tc) (ha:PSs X a t) (hb:PSs X b u):PS X (.If c a b pos) (tIfS tc t u):=by
 intro pins s σ H D I h
 refine wpAny_If (thn (hc pins s σ H _ I h) fun d s1 ⟨H1,I1,q1⟩ => ?_)
 cases d with
 | true=>exact ha pins s1 σ H1 D I1 q1
 | false=>exact hb pins s1 σ H1 D I1 q1
def tNever:TS:=fun _ _ _=>False
theorem xI9:PS X st tNever:=fun _ _ _ _ _ _ h=>h.elim
end
abbrev TG:=V->St->Hp->(St->Hp->Prop)->Prop
abbrev TGs:=List V->St->Hp->(St->Hp->Prop)->Prop
def PG (X:Cx) (target:Expr) (t:TG):Prop :=
 ∀(pins:List (Addr×Obj)) (s:Shared) (σ:St) (H:Hp) (v:V) (u:Value) (Q:St->Hp->Prop),Inv X pins σ H s->RelV v u->t v σ H Q ->
  wpAny (model X.prog X.w) X.A (assign target X.env u) (fun _ s'=>∃σ' H',Inv X pins σ' H' s'/\Q σ' H') X.xe s
def PGs (X:Cx) (ts:List Expr) (t:TGs):Prop :=
 ∀(pins:List (Addr×Obj)) (s:Shared) (σ:St) (H:Hp) (vs:List V) (us:List Value) (Q:St->Hp->Prop),Inv X pins σ H s->Vals vs us->t vs σ H Q ->
  wpAny (model X.prog X.w) X.A (assignInOrder ((assignEach ts X.env).map (·.2)) us) (fun _ s'=>∃σ' H',Inv X pins σ' H' s'/\Q σ' H') X.xe s
abbrev TSet:=V->V->V->Hp->(Hp->Prop)->Prop
def PSet (X:Cx) (t:TSet):Prop :=
 ∀(pins:List (Addr×Obj)) (s:Shared) (σ:St) (H:Hp) (o i v:V) (ov iv u:Value) (Q:Hp->Prop),Inv X pins σ H s->RelV o ov->RelV i iv->RelV v u->t o i v H Q ->
  wpAny (model X.prog X.w) X.A (setItem ov iv u) (fun _ s'=>∃H',Inv X pins σ H' s'/\Q H') X.xe s
abbrev TIp:=V->V->Hp->VK->Prop
def PIp (X:Cx) (op:Operator) (t:TIp):Prop :=
 ∀(pins:List (Addr×Obj)) (s:Shared) (σ:St) (H:Hp) (x y:V) (v u:Value) (Q:VK),Inv X pins σ H s->RelV x v->RelV y u->t x y H Q ->
  wpAny (model X.prog X.w) X.A (inplaceOp op v u) (EP X pins σ Q) X.xe s
section
variable {X:Cx}{pos:Pos}
def gName (i:Nat):TG:=fun v σ H Q=>Q (σ.set i (some v)) H
theorem zK7 {i:Nat}{x:Str}(hN:X.N.Nodup) (hi:X.N[i]?=some x) (hx:Loc X.env.scope x) (hf:autoParam (X.fn x=true\/X.env.scope.names.lookup x=some .local) zW8._auto_1):PG X (.Name x pos) (gName i):=by
 intro pins s σ H v u Q I r h
 exact wpAny_assign_Name (zV9 I hN hi hx r (fun s' I'=>⟨_,H,I',h⟩) hf)
def gNil:TGs:=fun vs σ H Q=>vs=[]/\Q σ H
def gCons (t:TG) (u:TGs):TGs:=fun vs σ H Q=>∃v r,vs=v::r/\t v σ H fun σ' H'=>u r σ' H' Q
theorem xY3:PGs X [] gNil:=by
 intro pins s σ H vs us Q I r h
 obtain⟨e,h⟩:=h
 subst e
 cases r
 exact assignInOrder_nil ⟨σ,H,I,h⟩
theorem zF6 {e:Expr}{es:List Expr}{t:TG}{u:TGs}(h1:PG X e t) (h2:PGs X es u)
  (hs:autoParam ((assignEach (e::es) X.env).map (·.2)=assign e X.env::(assignEach es X.env).map (·.2)) zU._auto_1):PGs X (e::es) (gCons t u):=by
 intro pins s σ H vs us Q I r h
 obtain⟨v,vr,e1,h⟩:=h
 subst e1
 cases r with
 | cons r rr =>
  rw[hs]
  refine assignInOrder_cons (thn (h1 pins s σ H _ _ _ I r h) fun _ s1 ⟨σ1,H1,I1,q1⟩ => ?_)
  exact h2 pins s1 σ1 H1 _ _ Q I1 rr q1
def gTup (K:KFr) (n:Nat) (t:TGs):TG:=fun v σ H Q=>∃a xs,v=.ref a/\SqT K H a xs/\xs.length=n/\t xs σ H Q
theorem xQ1 {es:List Expr}{k:Nat}{t:TGs}{n:Nat}(hc:X.calm=true) (h:PGs X es t)
  (hn:autoParam ((assignEach es X.env).length=n) zU._auto_1) (hst:autoParam ((assignEach es X.env).findIdx? (·.1)=none) zU._auto_1):PG X (.Tuple es k pos) (gTup X.K n t):=by
 intro pins s σ H v u Q I r hw
 obtain⟨a,xs,e1,hq,hl,hw⟩:=hw
 subst e1
 cases r
 obtain⟨its,rv,ht,hz⟩:=I.tuple hq
 refine assign_Tuple_tuple (I.ok.hd hc) ht (by simp[hn,<-hl,rv.length]) hst fun h' hx => ?_
 have I1:Inv X pins σ H { s with heap:=h' }:=I.kept (t':=s.toks) fun b o e=>hx b o (Nat.ne_of_lt (Heap.lt_size e)) e
 exact h pins _ σ H xs _ Q I1 (by simpa using rv) hw
def gSub (to ti:TE) (t:TSet):TG:=fun v σ H Q=>to σ H fun o H1=>ti σ H1 fun i H2=>t o i v H2 fun H3=>Q σ H3
theorem wQ7 {o i:Expr}{to ti:TE}{t:TSet}(ho:PE X o to) (hi:PE X i ti) (hs:PSet X t)
  (ha:∀v,assign (.Subscript o i pos) X.env v=(do
   let ov <-holding [v] (eval o X.env)
   let iv <-holding [v,ov] (eval i X.env)
   standAt pos
   holding [v,ov,iv] (setItem ov iv v)
   release [v,ov,iv] []):=by intro _;rfl):PG X (.Subscript o i pos) (gSub to ti t):=by
 intro pins s σ H v u Q I r h
 rw[ha]
 refine wpAny_bind (wpAny_holding (thn (ho pins s σ H _ I h) fun ov s1 ⟨x,H1,I1,r1,q1⟩ => ?_))
 refine wpAny_bind (wpAny_holding (thn (hi pins s1 σ H1 _ I1 q1) fun iv s2 ⟨y,H2,I2,r2,q2⟩ => ?_))
 refine wpAny_bind (wpAny_standAt (wpAny_bind (wpAny_holding (thn (hs pins s2 σ H2 x y v ov iv u _ I2 r1 r2 r q2) fun _ s3 ⟨H3,I3,q3⟩ => ?_))))
 exact wpAny_release ⟨σ,H3,I3,q3⟩
def tAsg (te:TE) (g:TG):TS:=fun D σ H=>te σ H fun x H1=>g x σ H1 D.nx
theorem xP7 {tg e:Expr}{te:TE}{g:TG}(he:PE X e te) (hg:PG X tg g) (hs:autoParam (swapsWithSole [tg] e pos.line X.env=pure false) zU._auto_1) (hw:autoParam (swappedStores [tg] e X.env=pure none) zU._auto_1)
  (h1:autoParam ((assignEach [tg] X.env).map (·.2)=[assign tg X.env]) zU._auto_1):PS X (.Assign [tg] e pos) (tAsg te g):=by
 intro pins s σ H D I h
 refine wpAny_Assign_stores (thn (he pins s σ H _ I h) fun v s1 ⟨x,H1,I1,r1,q1⟩ => ?_) hs hw
 rw[h1]
 exact thn (hg pins s1 σ H1 x v _ I1 r1 q1) fun _ s2 q=>q
theorem xP2 {i:Nat}{x:Str}{e:Expr}{te:TE}{pos':Pos}(hN:X.N.Nodup) (hi:X.N[i]?=some x) (hx:Loc X.env.scope x) (he:PE X e te) (hs:autoParam (swapsWith e (some (.Name x pos')) pos.line X.env=pure false) zU._auto_1) (hf:autoParam (X.fn x=true\/X.env.scope.names.lookup x=some .local) zW8._auto_1) :
  PS X (.Assign [.Name x pos'] e pos) (tAsg te (gName i)):=by
 intro pins s σ H D I h
 refine wpAny_Assign_Name (thn (he pins s σ H _ I h) fun v s1 ⟨y,H1,I1,r1,q1⟩ => ?_) hs
 exact zV9 I1 hN hi hx r1 (fun s2 I2=>⟨_,H1,I2,q1⟩) hf
def tAug (i:Nat) (te:TE) (ti:TIp):TS:=fun D σ H=>∃x,σ[i]?=some (some x)/\te σ H fun y H1=>ti x y H1 fun z H2=>D.nx (σ.set i (some z)) H2
theorem wI3 {i:Nat}{x:Str}{e:Expr}{te:TE}{op:Operator}{ti:TIp}{pos':Pos}(hN:X.N.Nodup) (hi:X.N[i]?=some x) (hx:Loc X.env.scope x) (he:PE X e te) (ho:PIp X op ti) (hf:autoParam (X.fn x=true\/X.env.scope.names.lookup x=some .local) zW8._auto_1) :
  PS X (.AugAssign (.Name x pos') op e pos) (tAug i te ti):=by
 intro pins s σ H D I h
 obtain⟨v,e1,h⟩:=h
 obtain⟨m,hn,hl⟩:=I.loc
 have vis:Vis X.env.scope x:=by rcases hx with k | k;exact .inl k;exact .inr (.inl k)
 obtain⟨u,r,l⟩:=hl i x v hi e1 vis
 refine wpAny_AugAssign_Name ?_
 have go:wpAny (model X.prog X.w) X.A (eval e X.env) (fun w s₂=>wpAny (model X.prog X.w) X.A (inplaceOp op u w) (fun r s₃=>wpAny (model X.prog X.w) X.A (storeName X.env x r) (fun _=>SP X pins D .next) X.xe s₃) X.xe s₂) X.xe s:=by
  refine thn (he pins s σ H _ I h) fun w s1 ⟨y,H1,I1,r1,q1⟩ => ?_
  refine thn (ho pins s1 σ H1 v y u w _ I1 r r1 q1) fun z s2 ⟨zv,H2,I2,r2,q2⟩ => ?_
  exact zV9 I2 hN hi hx r2 (fun s3 I3=>⟨_,H2,I3,q2⟩) hf
 rcases l with ⟨hk,hm⟩ | ⟨hk,c,hc,hcell⟩
 ·exact wpAny_loadName_local I.ok.kind hk hn hm go
 ·rcases hk with hk | hk
  ·exact wpAny_loadName_cell I.ok.kind hk hc hcell go
  ·rcases hx with k | k
   ·have:X.env.scope.names.lookup x=some .free:=hk
    rw[k] at this;cases this
   ·have:X.env.scope.names.lookup x=some .free:=hk
    rw[k] at this;cases this
def tAugS (to ti te:TE) (tget:V->V->Hp->VK->Prop) (tip:TIp) (tset:TSet):TS:=fun D σ H=>to σ H fun o H1=>ti σ H1 fun i H2=>tget o i H2 fun x H3=>te σ H3 fun y H4=>tip x y H4 fun z H5=>tset o i z H5 fun H6=>D.nx σ H6
def PGet (X:Cx) (t:V->V->Hp->VK->Prop):Prop :=
 ∀(pins:List (Addr×Obj)) (s:Shared) (σ:St) (H:Hp) (o i:V) (ov iv:Value) (Q:VK),Inv X pins σ H s->RelV o ov->RelV i iv->t o i H Q ->
  wpAny (model X.prog X.w) X.A (getItem ov iv) (EP X pins σ Q) X.xe s
theorem wT8 {o i e:Expr}{to ti te:TE}{tget:V->V->Hp->VK->Prop}{tip:TIp}{tset:TSet}{op:Operator}{tpos:Pos}(ho:PE X o to) (hi:PE X i ti) (hg:PGet X tget) (he:PE X e te) (hp:PIp X op tip) (hs:PSet X tset)
  (ha:autoParam (∀ov iv new,augStore i ov iv new=(do holding [new,ov,iv] (setItem ov iv new);release [new,ov,iv] [];pure .next)) xJ6._auto_1):PS X (.AugAssign (.Subscript o i tpos) op e pos) (tAugS to ti te tget tip tset):=by
 intro pins s σ H D I h
 refine wpAny_AugAssign_SubscriptAny (thn (ho pins s σ H _ I h) fun ov s1 ⟨x1,H1,I1,r1,q1⟩ => ?_) ha
 refine thn (hi pins s1 σ H1 _ I1 q1) fun iv s2 ⟨x2,H2,I2,r2,q2⟩ => ?_
 refine thn (hg pins s2 σ H2 x1 x2 ov iv _ I2 r1 r2 q2) fun old s3 ⟨x3,H3,I3,r3,q3⟩ => ?_
 refine thn (he pins s3 σ H3 _ I3 q3) fun v s4 ⟨x4,H4,I4,r4,q4⟩ => ?_
 refine thn (hp pins s4 σ H4 x3 x4 old v _ I4 r3 r4 q4) fun new s5 ⟨x5,H5,I5,r5,q5⟩ => ?_
 exact thn (hs pins s5 σ H5 x1 x2 x5 ov iv new _ I5 r1 r2 r5 q5) fun _ s6 ⟨H6,I6,q6⟩=>⟨σ,H6,I6,q6⟩
end
section
variable {X:Cx}{pos:Pos}
def tWhile (c:TT) (tb:TS):TS:=fun D σ H=>∃W:Nat->St->Hp->Prop,(∃m,W m σ H)/\∀m σ H,W m σ H ->
 c σ H fun b H1=>if b=true then ∃N:St->Hp->Prop,(∀σ' H',N σ' H'->∃m',m'<m/\W m' σ' H')/\tb { D with nx:=N,ct:=N,bk:=D.nx } σ H1 else D.nx σ H1
theorem xH6 {c:Expr}{body:List Stmt}{tc:TT}{tb:TS}(hp:PassesOwn (model X.prog X.w) X.A X.env X.xe) (hc:PT X c tc) (hb:PSs X body tb):PS X (.While c body [] pos) (tWhile tc tb):=by
 intro pins s σ H D I h
 obtain⟨W,⟨m0,w0⟩,turn⟩:=h
 refine wpAny_While (codeAny_whileLoop (fun n s'=>∃σ' H',Inv X pins σ' H' s'/\W n σ' H') ?_ m0 ⟨σ,H,I,w0⟩)
 rintro n s1 ⟨σ1,H1,I1,w1⟩
 refine wpAny_passesOwn hp (thn (hc pins s1 σ1 H1 _ I1 (turn n σ1 H1 w1)) fun b s2 ⟨H2,I2,q2⟩ => ?_)
 cases b with
 | true =>
  obtain⟨N,hN,q2⟩:=q2
  rw[if_pos rfl]
  refine wpAny_passesOwn hp (thn (hb pins s2 σ1 H2 _ I2 q2) fun f s3 q3 => ?_)
  cases f with
  | next =>
   obtain⟨σ3,H3,I3,n3⟩:=q3
   obtain⟨m',hm,w3⟩:=hN σ3 H3 n3
   exact⟨m',hm,σ3,H3,I3,w3⟩
  | cont =>
   obtain⟨σ3,H3,I3,n3⟩:=q3
   obtain⟨m',hm,w3⟩:=hN σ3 H3 n3
   exact⟨m',hm,σ3,H3,I3,w3⟩
  | brk=>exact q3
  | ret v=>exact q3
 | false =>
  rw[if_neg Bool.false_ne_true]
  exact wpAny_execs_nil ⟨σ1,H2,I2,q2⟩
end
structure It where
 go:Nat->Hp->Prop
 yld:Nat->Hp->V->Hp->Prop
 stop:Nat->Hp->Prop
def FpOk (X:Cx) (pins:List (Addr×Obj)) (H:Hp) (b:Addr):Prop :=
 H b=none/\b≠X.env.locals/\b∉X.fs/\(b∈X.ex\/X.s₀.heap.objs.size<=b)/\(∀x c,X.env.cells.lookup x=some c->c≠b)/\∀p∈X.pn++pins,p.1≠b
theorem Inv.fpOk {X:Cx}{pins:List (Addr×Obj)}{σ:St}{H H':Hp}{s:Shared}{b:Addr}(I:Inv X pins σ H s) (hb:s.heap.objs.size<=b) (hn:H' b=none):FpOk X pins H' b:=by
 refine⟨hn,Nat.ne_of_gt (Nat.lt_of_lt_of_le I.lt hb),I.nofs hb,.inr (Nat.le_trans I.sz hb),fun x c e z => ?_,fun p hp z => ?_⟩
 ·obtain⟨v,q⟩:=I.cell x c e
  exact absurd (Nat.lt_of_lt_of_le q.lt (by rw[z];exact hb)) (Nat.lt_irrefl _)
 ·exact absurd (Nat.lt_of_lt_of_le (Heap.lt_size (I.pin p hp).1) (by rw[z];exact hb)) (Nat.lt_irrefl _)
structure Turn (P:Program) (w:World) (K:KFr) (tg:Expr) (J:It) (fp:List Addr) (it:Addr) (tn:Nat->Heap->Prop):Prop where
 mem:it∈fp
 obj:∀i h,tn i h->∀b∈fp,∃o,h.get? b=some o/\∀v,o.data ≠ .cell v
 keep:∀i h h',tn i h->(∀b∈fp,∀o,h.get? b=some o->h'.get? b=some o)->tn i h'
 item:∀(X:Cx),X.prog=P->X.w=w->X.K=K->X.calm=true->∀(i:Nat) (pins:List (Addr×Obj)) (s:Shared) (σ:St) (H:Hp) (E:Value->Shared->Prop),Inv X pins σ H s->(∀b∈fp,FpOk X pins H b)->tn i s.heap->J.go i H ->
  wpAny (model P w) X.A (pyNext (.ref it)) (fun r s1=>∃u,r=some u /\
   wpAny (model P w) X.A (letOwnedTupleGo tg (.ref it) u) (fun _ s2=>∃x H',Inv X pins σ H' s2/\RelV x u/\J.yld i H x H'/\tn (i+1) s2.heap/\∀b∈fp,H' b=none) E s1) E s
 done:∀(X:Cx),X.prog=P->X.w=w->X.K=K->X.calm=true->∀(i:Nat) (pins:List (Addr×Obj)) (s:Shared) (σ:St) (H:Hp) (E:Value->Shared->Prop),Inv X pins σ H s->(∀b∈fp,FpOk X pins H b)->tn i s.heap->J.stop i H ->
  wpAny (model P w) X.A (pyNext (.ref it)) (fun r s1=>r=none/\Inv X pins σ H s1) E s
 self:∀(A:Around) (i:Nat) (s:Shared) (Q:Value->Shared->Prop) (E:Value->Shared->Prop),tn i s.heap->Q (.ref it) s->wpAny (model P w) A (pyIter (.ref it)) Q E s
abbrev TI:=St->Hp->(It->Hp->Prop)->Prop
def PIE (X:Cx) (pins:List (Addr×Obj)) (σ:St) (tg:Expr) (R:It->Hp->Prop) (itv:Value) (s2:Shared):Prop :=
 ∃(it:Addr) (fp:List Addr) (tn:Nat->Heap->Prop) (J:It) (H':Hp),itv=.ref it/\Inv X pins σ H' s2/\Turn X.prog X.w X.K tg J fp it tn/\tn 0 s2.heap/\(∀b∈fp,FpOk X pins H' b)/\R J H'
def PI (X:Cx) (tg iter:Expr) (wi:TI):Prop :=
 ∀(pins:List (Addr×Obj)) (s:Shared) (σ:St) (H:Hp) (R:It->Hp->Prop),Inv X pins σ H s->wi σ H R ->
  wpAny (model X.prog X.w) X.A (eval iter X.env) (fun v s1=>wpAny (model X.prog X.w) X.A (pyIter v) (PIE X pins σ tg R) X.xe s1) X.xe s
theorem yO5 {M:Model}{A:Around}{E:Value->Shared->Prop}{s:Shared}{tg:Expr}{it:Addr}{u:Value}{o:Obj}{n:String}{vs:Array Value}{Q:Unit->Shared->Prop}(ho:s.heap.get? it=some o) (hc:o.cls=.type n) (hd:o.data=.fields vs)
  (hn:["enumerate","zip","dict_itemiterator","dict_reverseitemiterator","odict_iterator","itertools.zip_longest","itertools.pairwise"].contains n=false) (hQ:Q () s):wpAny M A (letOwnedTupleGo tg (.ref it) u) Q E s:=by
 unfold letOwnedTupleGo
 cases tg <;> first
  | exact wpAny_pure hQ
  | (cases u <;> first
    | exact wpAny_pure hQ
    | (refine wpAny_bind (wpAny_load ho ?_)
       rw[hc,hd]
       show wpAny M A (if (["enumerate","zip","dict_itemiterator","dict_reverseitemiterator","odict_iterator","itertools.zip_longest","itertools.pairwise"].contains n&&vs[0]? == some (rawInt _))=true then _ else _) Q E s
       rw[if_neg (by intro h;rw[hn,Bool.false_and] at h;cases h)]
       exact wpAny_pure hQ))
def Itl (K:KFr) (a:Addr):It :=
 ⟨fun i H=>∃xs x,SqL K H a xs/\xs[i]?=some x,fun i H x H'=>H'=H/\∀xs,SqL K H a xs->xs[i]?=some x,fun i H=>∃xs,SqL K H a xs/\xs.length<=i⟩
def Itt (K:KFr) (a:Addr):It :=
 ⟨fun i H=>∃xs x,SqT K H a xs/\xs[i]?=some x,fun i H x H'=>H'=H/\∀xs,SqT K H a xs->xs[i]?=some x,fun i H=>∃xs,SqT K H a xs/\xs.length<=i⟩
def Itr (lo:Int) (n:Nat):It:=⟨fun i _=>i<n,fun i H x H'=>H'=H/\x=.int (lo+i),fun i _=>n<=i⟩
theorem xQ2 {P:Program}{w:World}{K:KFr}{tg:Expr}(a it:Addr):Turn P w K tg (Itl K a) [it] it (fun i h=>h.IsListIter it a i) where
 mem:=by simp
 obj:=fun i h st b hb=>by
  have e:b=it:=by simpa using hb
  subst e
  obtain⟨o,e,c,d⟩:=st
  exact⟨o,e,fun v z=>by rw[d] at z;cases z⟩
 keep:=fun i h h' st k=>st.at fun o e=>k it (by simp) o e
 item:=by
  intro X hP hw hK hc i pins s σ H E I hf st hg
  subst hP hw hK
  obtain⟨xs,x,hq,hx⟩:=hg
  obtain⟨its,rv,p,hz⟩:=I.list hq
  obtain⟨u,hu,ru⟩:=rv.get hx
  obtain⟨f0,f1,f2,f3,f4,f5⟩:=hf it (by simp)
  refine wpAny_pyNext_list_item st p.isList (x:=u) (by simpa using hu) fun h' st' sb => ?_
  have I1:Inv X pins σ H { s with heap:=h' }:=I.turned (t':=s.toks) (fun b o hb e=>(sb.2 b hb).trans e) f0 f1 f3 f4 f5
  obtain⟨o,e,c,d⟩:=id st'
  exact⟨u,rfl,yO5 (s:={ s with heap:=h' }) e c d (by decide) ⟨x,H,I1,ru,⟨rfl,fun ys hy=>by rw[I.yH1 hy hq];exact hx⟩,st',fun b hb=>(hf b hb).1⟩⟩
 done:=by
  intro X hP hw hK hc i pins s σ H E I hf st hg
  subst hP hw hK
  obtain⟨xs,hq,hx⟩:=hg
  obtain⟨its,rv,p,hz⟩:=I.list hq
  obtain⟨f0,f1,f2,f3,f4,f5⟩:=hf it (by simp)
  have hl:=rv.length
  exact wpAny_pyNext_list_end (I.ok.hd hc) st p.isList (by simp;bv_omega) fun h' eb=>⟨rfl,I.turned (t':=s.toks) (fun b o hb e=>eb b o hb e) f0 f1 f3 f4 f5⟩
 self:=fun _ _ _ _ _ st h=>wpAny_pyIter_listiter st h
theorem xT5 {P:Program}{w:World}{K:KFr}{tg:Expr}(a it:Addr):Turn P w K tg (Itt K a) [it] it (fun i h=>h.IsTupleIter it a i) where
 mem:=by simp
 obj:=fun i h st b hb=>by
  have e:b=it:=by simpa using hb
  subst e
  obtain⟨o,e,c,d⟩:=st
  exact⟨o,e,fun v z=>by rw[d] at z;cases z⟩
 keep:=fun i h h' st k=>st.at fun o e=>k it (by simp) o e
 item:=by
  intro X hP hw hK hc i pins s σ H E I hf st hg
  subst hP hw hK
  obtain⟨xs,x,hq,hx⟩:=hg
  obtain⟨its,rv,p,hz⟩:=I.tuple hq
  obtain⟨u,hu,ru⟩:=rv.get hx
  obtain⟨f0,f1,f2,f3,f4,f5⟩:=hf it (by simp)
  refine wpAny_pyNext_tuple_item st (show s.heap.IsTuple a its.toArray from p) (x:=u) (by simpa using hu) fun h' st' sb => ?_
  have I1:Inv X pins σ H { s with heap:=h' }:=I.turned (t':=s.toks) (fun b o hb e=>(sb.2 b hb).trans e) f0 f1 f3 f4 f5
  obtain⟨o,e,c,d⟩:=id st'
  exact⟨u,rfl,yO5 (s:={ s with heap:=h' }) e c d (by decide) ⟨x,H,I1,ru,⟨rfl,fun ys hy=>by rw[I.yT5 hy hq];exact hx⟩,st',fun b hb=>(hf b hb).1⟩⟩
 done:=by
  intro X hP hw hK hc i pins s σ H E I hf st hg
  subst hP hw hK
  obtain⟨xs,hq,hx⟩:=hg
  obtain⟨its,rv,p,hz⟩:=I.tuple hq
  obtain⟨f0,f1,f2,f3,f4,f5⟩:=hf it (by simp)
  have hl:=rv.length
  exact wpAny_pyNext_tuple_end (I.ok.hd hc) st (show s.heap.IsTuple a its.toArray from p) (by simp;bv_omega) fun h' eb=>⟨rfl,I.turned (t':=s.toks) (fun b o hb e=>eb b o hb e) f0 f1 f3 f4 f5⟩
 self:=fun _ _ _ _ _ st h=>wpAny_pyIter_tupleiter st h
theorem xU6 {P:Program}{w:World}{K:KFr}{tg:Expr}(it:Addr) (lo:Int) (n:Nat):Turn P w K tg (Itr lo n) [it] it (fun i h=>IsRangeIter h it (lo+(i:Nat)*1) ((n:Int)-(i:Nat)) 1) where
 mem:=by simp
 obj:=fun i h st b hb=>by
  have e:b=it:=by simpa using hb
  subst e
  exact⟨_,st,fun v z=>by
   have z':Data.fields _=Data.cell v:=z
   cases z'⟩
 keep:=fun i h h' st k=>k it (by simp) _ st
 item:=by
  intro X hP hw hK hc i pins s σ H E I hf st hg
  subst hP hw hK
  obtain⟨f0,f1,f2,f3,f4,f5⟩:=hf it (by simp)
  have W:=Walks.range (prog:=X.prog) (w:=X.w) (I.ok.hd hc) it lo 1 n
  refine W.item i s _ _ hg st fun v h' tk hv st' kk => ?_
  obtain⟨t,rfl⟩:=hv
  have I1:Inv X pins σ H { s with heap:=h',toks:=tk }:=I.turned (fun b o hb e=>kk b o (by simpa using hb) e) f0 f1 f3 f4 f5
  refine⟨_,rfl,yO5 (s:={ s with heap:=h',toks:=tk }) (n:="range_iterator") st' rfl rfl (by decide) ⟨.int (lo+i),H,I1,⟨t,?_⟩,⟨rfl,rfl⟩,st',fun b hb=>(hf b hb).1⟩⟩
  rw[Int.mul_one]
 done:=by
  intro X hP hw hK hc i pins s σ H E I hf st hg
  subst hP hw hK
  obtain⟨f0,f1,f2,f3,f4,f5⟩:=hf it (by simp)
  exact wpAny_pyNext_range_end (I.ok.hd hc) st (by have:n<=i:=hg;bv_omega) fun h' eb=>⟨rfl,I.turned (t':=s.toks) (fun b o hb e=>eb b o hb e) f0 f1 f3 f4 f5⟩
 self:=fun _ _ _ _ _ st h=>wpAny_pyIter_rangeiter st h
section
variable {X:Cx}{tg:Expr}
theorem yK8 {pins:List (Addr×Obj)}{σ:St}{H:Hp}{s:Shared}{R:It->Hp->Prop}{E:Value->Shared->Prop}{lo hi:Int}{t u v:Tok}{tk:Nat}(I:Inv X pins σ H s) (h1:-(2 ^ 62)<=lo) (h2:lo<2 ^ 62) (h3:-(2 ^ 62)<=hi) (h4:hi<2 ^ 62)
  (q:R (Itr lo (hi-lo).toNat) H):wpAny (model X.prog X.w) X.A (pyIter (.ref s.heap.objs.size)) (PIE X pins σ tg R) E { s with heap:=s.heap.push { cls:=.type "range",data:=.fields #[.int lo t,.int hi u,.int 1 v] },toks:=tk }:=by
 refine wpAny_pyIter_range (IsRange.new ..) (small_one h1 h2 h3 h4) ?_
 have I1:Inv X pins σ H { s with heap:=s.heap.push { cls:=.type "range",data:=.fields #[.int lo t,.int hi u,.int 1 v] },toks:=tk }:=I.kept fun b o e=>Heap.get?_push_of_some _ e
 refine⟨(s.heap.push { cls:=.type "range",data:=.fields #[.int lo t,.int hi u,.int 1 v] }).objs.size,[(s.heap.push { cls:=.type "range",data:=.fields #[.int lo t,.int hi u,.int 1 v] }).objs.size],_,_,H,rfl,
  I1.kept (t':=tk) fun b o e=>Heap.get?_push_of_some _ e,xU6 _ lo (hi-lo).toNat,?_,fun b hb => ?_,q⟩
 ·have e1:lo+((0:Nat):Int)*1=lo:=by simp
  have e2:(((hi-lo).toNat:Nat):Int)-((0:Nat):Int)=Builtin.Range.rangeSize lo hi 1:=by rw[rangeSize_one];split <;> bv_omega
  show IsRangeIter _ _ (lo+((0:Nat):Int)*1) ((((hi-lo).toNat:Nat):Int)-((0:Nat):Int)) 1
  rw[e1,e2]
  exact Heap.get?_push_size _ rfl
 ·have e:b=(s.heap.push { cls:=.type "range",data:=.fields #[.int lo t,.int hi u,.int 1 v] }).objs.size:=by simpa using hb
  subst e
  exact I1.fpOk (Nat.le_refl _) (I1.hok.fresh (Nat.le_refl _))
def iRng1 (ta:TA):TI:=fun σ H R=>ta σ H fun vs H1=>∃j:Int,vs=[.int j]/\-(2 ^ 62)<=j/\j<2 ^ 62/\R (Itr 0 j.toNat) H1
def iRng2 (ta:TA):TI:=fun σ H R=>ta σ H fun vs H1=>∃i j:Int,vs=[.int i,.int j]/\(-(2 ^ 62)<=i/\i<2 ^ 62/\-(2 ^ 62)<=j/\j<2 ^ 62)/\R (Itr i (j-i).toNat) H1
theorem xJ3 {a:Expr}{ta:TA}{p pos:Pos}(hg:Gl X "range") (hm:X.mg "range" = none) (ha:PA X [a] ta) (hs:autoParam (starEach [a] X.env=[(false,eval a X.env)]) zU._auto_1):PI X tg (.Call (.Name "range" p) [a] [] pos) (iRng1 ta):=by
 intro pins s σ H R I h
 refine Call_ (zX1 I hg hm boot_range (PyProof.Rows.callWith_type1 (thn (ha pos pins s σ H _ I h) fun us s1 ⟨vs,H1,I1,r1,q1⟩ => ?_) hs rfl))
 obtain⟨j,e,q1,q2,q⟩:=q1
 subst e
 cases r1 with
 | cons r rr =>
  cases rr
  obtain⟨t,rfl⟩:=r
  exact call_range_1 (yK8 I1 (by bv_omega) (by bv_omega) q1 q2 (by simpa using q))
theorem xJ1 {a b:Expr}{ta:TA}{p pos:Pos}(hg:Gl X "range") (hm:X.mg "range" = none) (ha:PA X [a,b] ta) (hs:autoParam (starEach [a,b] X.env=[(false,eval a X.env),(false,eval b X.env)]) zU._auto_1) (hs2:autoParam (starEach [b] X.env=[(false,eval b X.env)]) zU._auto_1) :
  PI X tg (.Call (.Name "range" p) [a,b] [] pos) (iRng2 ta):=by
 intro pins s σ H R I h
 refine Call_ (zX1 I hg hm boot_range (PyProof.Rows.callWith_type1 (thn (ha pos pins s σ H _ I h) fun us s1 ⟨vs,H1,I1,r1,q1⟩ => ?_) (by rw[hs,hs2]) (by rw[hs2];rfl)))
 obtain⟨i,j,e,⟨q1,q2,q3,q4⟩,q⟩:=q1
 subst e
 cases r1 with
 | cons r rr =>
  cases rr with
  | cons r' rr =>
   cases rr
   obtain⟨t,rfl⟩:=r
   obtain⟨t',rfl⟩:=r'
   exact call_range_2 (yK8 I1 q1 q2 q3 q4 q)
def tFor (wi:TI) (g:TG) (tb:TS):TS:=fun D σ H=>wi σ H fun J H1=>∃W:Nat->Nat->St->Hp->Prop,(∃m,W 0 m σ H1)/\∀i m σ H,W i m σ H ->
 (J.stop i H/\D.nx σ H)\/(J.go i H/\∃N:St->Hp->Prop,(∀σ' H',N σ' H'->∃m',m'<m/\W (i+1) m' σ' H')/\∀x H',J.yld i H x H'->g x σ H' fun σ2 H2=>tb { D with nx:=N,ct:=N,bk:=D.nx } σ2 H2)
def pinsAt (fp:List Addr) (h:Heap):List (Addr×Obj):=fp.filterMap fun b=>(h.get? b).map fun o=>(b,o)
theorem jO {fp:List Addr}{h:Heap}{b:Addr}{o:Obj}(hb:b∈fp) (e:h.get? b=some o):(b,o)∈pinsAt fp h:=List.mem_filterMap.mpr ⟨b,hb,by rw[e];rfl⟩
theorem xL4 {fp:List Addr}{h:Heap}{p:Addr×Obj}(hp:p∈pinsAt fp h):p.1∈fp/\h.get? p.1=some p.2:=by
 obtain⟨b,hb,e⟩:=List.mem_filterMap.mp hp
 cases q:h.get? b with
 | none=>rw[q] at e;cases e
 | some o =>
  rw[q] at e
  have e':(b,o)=p:=Option.some.inj e
  subst e'
  exact⟨hb,q⟩
theorem Inv.pinned {pins:List (Addr×Obj)}{σ:St}{H:Hp}{s:Shared}{fp:List Addr}(I:Inv X pins σ H s) (hf:∀b∈fp,FpOk X pins H b) (ho:∀b∈fp,∃o,s.heap.get? b=some o/\∀v,o.data ≠ .cell v):Inv X (pins++pinsAt fp s.heap) σ H s :=
 I.qR fun p hp=>(List.mem_append.mp hp).elim (fun z=>I.pin p (List.mem_append_right _ z)) fun z=>by
  obtain⟨hb,e⟩:=xL4 z
  obtain⟨f0,f1,f2,_⟩:=hf p.1 hb
  obtain⟨o,e',d⟩:=ho p.1 hb
  rw[e] at e';cases e'
  exact⟨e,f0,f1,f2,d⟩
theorem Inv.unpinned {pins pl:List (Addr×Obj)}{σ:St}{H:Hp}{s:Shared}(I:Inv X (pins++pl) σ H s):Inv X pins σ H s:=I.qR fun p hp=>I.pin p (List.mem_append_right _ (List.mem_append_left _ hp))
theorem xR8 {iter:Expr}{body:List Stmt}{wi:TI}{g:TG}{tb:TS}{pos:Pos}(hp:PassesOwn (model X.prog X.w) X.A X.env X.xe) (hc:X.calm=true) (hi:PI X tg iter wi) (hg:PG X tg g) (hb:PSs X body tb)
  (hs:autoParam (∀x,foldedSetIterable iter X.env x=pure x) qU._auto_1):PS X (.For tg iter body [] pos) (tFor wi g tb):=by
 intro pins s σ H D I h
 refine wpAny_For (thn (hi pins s σ H _ I h) fun v s1 h1=>thn h1 fun itv s2 h2 => ?_) hs
 obtain⟨it,fp,tn,J,H2,e,I2,T,st2,f2,W,⟨m0,w0⟩,turn⟩:=h2
 subst e
 have stat:∀{H':Hp},(∀b∈fp,H' b=none)->∀b∈fp,FpOk X pins H' b:=fun hn b hb=>⟨hn b hb,(f2 b hb).2⟩
 refine codeAny_forLoop_any (fun n s'=>∃i σ' H',Inv X pins σ' H' s'/\tn i s'.heap/\(∀b∈fp,H' b=none)/\W i n σ' H') ?_ m0 ⟨0,σ,H2,I2,st2,fun b hb=>(f2 b hb).1,w0⟩
 rintro n s3 ⟨i,σ3,H3,I3,st3,fr3,w3⟩
 rcases turn i n σ3 H3 w3 with ⟨stop,qn⟩ | ⟨go,N,hN,step⟩
 ·refine wpAny_passesOwn hp (thn (T.done X rfl rfl rfl hc i pins s3 σ3 H3 X.xe I3 (stat fr3) st3 stop) fun r s4 ⟨hr,I4⟩ => ?_)
  subst hr
  exact wpAny_execs_nil ⟨σ3,H3,I4,qn⟩
 ·refine wpAny_passesOwn hp (thn (T.item X rfl rfl rfl hc i pins s3 σ3 H3 X.xe I3 (stat fr3) st3 go) fun r s4 ⟨u,hr,h4⟩ => ?_)
  subst hr
  refine wpAny_passesOwn hp (thn h4 fun _ s5 ⟨x,H5,I5,r5,y5,st5,fr5⟩ => ?_)
  have I5':=I5.pinned (stat fr5) (T.obj _ _ st5)
  refine wpAny_passesOwn hp (thn (hg _ s5 σ3 H5 x u _ I5' r5 (step x H5 y5)) fun _ s6 ⟨σ6,H6,I6,q6⟩ => ?_)
  refine wpAny_passesOwn hp (thn (hb _ s6 σ6 H6 _ I6 q6) fun f s7 q7 => ?_)
  have again:∀{σ7:St}{H7:Hp},Inv X (pins++pinsAt fp s5.heap) σ7 H7 s7->N σ7 H7->∃m,m<n/\∃i σ' H',Inv X pins σ' H' s7/\tn i s7.heap/\(∀b∈fp,H' b=none)/\W i m σ' H':=fun {σ7 H7} I7 n7=>by
   obtain⟨m',hm,w7⟩:=hN σ7 H7 n7
   refine⟨m',hm,i+1,σ7,H7,I7.unpinned,T.keep _ _ _ st5 fun b hb o e=>(I7.pin (b,o) (List.mem_append_right _ (List.mem_append_right _ (jO hb e)))).1,fun b hb => ?_,w7⟩
   obtain⟨o,e,d⟩:=T.obj _ _ st5 b hb
   exact (I7.pin (b,o) (List.mem_append_right _ (List.mem_append_right _ (jO hb e)))).2.1
  cases f with
  | next=>obtain⟨σ7,H7,I7,n7⟩:=q7;exact again I7 n7
  | cont=>obtain⟨σ7,H7,I7,n7⟩:=q7;exact again I7 n7
  | brk=>obtain⟨σ7,H7,I7,q7⟩:=q7;exact⟨σ7,H7,I7.unpinned,q7⟩
  | ret v=>obtain⟨x7,σ7,H7,I7,r7,q7⟩:=q7;exact⟨x7,σ7,H7,I7.unpinned,r7,q7⟩
end
abbrev R2:=V->V->Hp->VK->Prop
def OpR (X:Cx) (f:Value->Value->Sem Value) (r:R2):Prop :=
 ∀(pins:List (Addr×Obj)) (s:Shared) (σ:St) (H:Hp) (x y:V) (v u:Value) (Q:VK),Inv X pins σ H s->RelV x v->RelV y u->r x y H Q ->
  wpAny (model X.prog X.w) X.A (f v u) (EP X pins σ Q) X.xe s
def UnR (X:Cx) (f:Value->Sem Value) (r:V->Hp->VK->Prop):Prop :=
 ∀(pins:List (Addr×Obj)) (s:Shared) (σ:St) (H:Hp) (x:V) (v:Value) (Q:VK),Inv X pins σ H s->RelV x v->r x H Q ->
  wpAny (model X.prog X.w) X.A (f v) (EP X pins σ Q) X.xe s
def CallR (X:Cx) (f:Value) (r:List V->Hp->VK->Prop):Prop :=
 ∀(pins:List (Addr×Obj)) (s:Shared) (σ:St) (H:Hp) (xs:List V) (us:List Value) (Q:VK),Inv X pins σ H s->Vals xs us->r xs H Q ->
  wpAny (model X.prog X.w) X.A (call f us) (EP X pins σ Q) X.xe s
def tOp (r:R2) (ta tb:TE):TE:=fun σ H Q=>ta σ H fun x H1=>tb σ H1 fun y H2=>r x y H2 Q
def tUn (r:V->Hp->VK->Prop) (ta:TE):TE:=fun σ H Q=>ta σ H fun x H1=>r x H1 Q
def rI (C:Int->Int->Prop) (g:Int->Int->V):R2:=fun x y H Q=>∃i j,x=.int i/\y=.int j/\C i j/\Q (g i j) H
def rI0 (g:Int->Int->V):R2:=fun x y H Q=>∃i j,x=.int i/\y=.int j/\Q (g i j) H
def rU (g:Int->V):V->Hp->VK->Prop:=fun x H Q=>∃i,x=.int i/\Q (g i) H
section
variable {X:Cx}{a b c:Expr}{ta tb tc:TE}{pos:Pos}
theorem binT (ha:PE X a ta) (hb:PE X b tb){pins:List (Addr×Obj)}{s:Shared}{σ:St}{H:Hp}{R:V->V->Hp->Prop}(I:Inv X pins σ H s)
  (h:ta σ H fun x H1=>tb σ H1 fun y H2=>R x y H2){Q:Value->Shared->Prop}{f:Value->Value->Sem Value}
  (hf:∀v u s2 x y H2,Inv X pins σ H2 s2->RelV x v->RelV y u->R x y H2->wpAny (model X.prog X.w) X.A (f v u) Q X.xe s2) :
  wpAny (model X.prog X.w) X.A (eval a X.env) (fun v s₁=>wpAny (model X.prog X.w) X.A (eval b X.env) (fun u s₂=>wpAny (model X.prog X.w) X.A (f v u) Q X.xe s₂) X.xe s₁) X.xe s:=by
 refine thn (ha pins s σ H _ I h) fun v s1 ⟨x,H1,I1,r1,q1⟩ => ?_
 refine thn (hb pins s1 σ H1 _ I1 q1) fun u s2 ⟨y,H2,I2,r2,q2⟩ => ?_
 exact hf v u s2 x y H2 I2 r1 r2 q2
theorem wG9 {op:Operator}{r:R2}(ho:OpR X (binaryOp op) r) (ha:PE X a ta) (hb:PE X b tb):PE X (.BinOp a op b pos) (tOp r ta tb):=by
 intro pins s σ H Q I h
 exact wpAny_BinOp (binT ha hb I h fun v u s2 x y H2 I2 rx ry q=>ho pins s2 σ H2 x y v u Q I2 rx ry q)
theorem wG5 {op:UnaryOp}{r:V->Hp->VK->Prop}(ho:UnR X (unaryOp op) r) (ha:PE X a ta):PE X (.UnaryOp op a pos) (tUn r ta):=by
 intro pins s σ H Q I h
 exact UnaryOp_ (thn (ha pins s σ H _ I h) fun v s1 ⟨x,H1,I1,r1,q1⟩=>ho pins s1 σ H1 x v Q I1 r1 q1)
theorem opI {f:Value->Value->Sem Value}{C:Int->Int->Prop}{g:Int->Int->Int}
  (rule:∀(i j:Int) (t u:Tok) (s:Shared) (Q:Value->Shared->Prop) (E:Value->Shared->Prop),C i j->Q (.int (g i j) s.toks) { s with toks:=s.toks+1 }->wpAny (model X.prog X.w) X.A (f (.int i t) (.int j u)) Q E s) :
  OpR X f (rI C fun i j=>.int (g i j)):=by
 intro pins s σ H x y v u Q I rx ry h
 obtain⟨i,j,rfl,rfl,hc,q⟩:=h
 obtain⟨t,rfl⟩:=rx
 obtain⟨t',rfl⟩:=ry
 exact rule i j t t' s _ _ hc ⟨.int (g i j),H,I.tok _,⟨_,rfl⟩,q⟩
theorem opI0 {f:Value->Value->Sem Value}{g:Int->Int->Int}
  (rule:∀(i j:Int) (t u:Tok) (s:Shared) (Q:Value->Shared->Prop) (E:Value->Shared->Prop),Q (.int (g i j) s.toks) { s with toks:=s.toks+1 }->wpAny (model X.prog X.w) X.A (f (.int i t) (.int j u)) Q E s) :
  OpR X f (rI0 fun i j=>.int (g i j)):=by
 intro pins s σ H x y v u Q I rx ry h
 obtain⟨i,j,rfl,rfl,q⟩:=h
 obtain⟨t,rfl⟩:=rx
 obtain⟨t',rfl⟩:=ry
 exact rule i j t t' s _ _ ⟨.int (g i j),H,I.tok _,⟨_,rfl⟩,q⟩
theorem opB0 {f:Value->Value->Sem Value}{g:Int->Int->Bool}
  (rule:∀(i j:Int) (t u:Tok) (s:Shared) (Q:Value->Shared->Prop) (E:Value->Shared->Prop),Q (.bool (g i j)) s->wpAny (model X.prog X.w) X.A (f (.int i t) (.int j u)) Q E s) :
  OpR X f (rI0 fun i j=>.bl (g i j)):=by
 intro pins s σ H x y v u Q I rx ry h
 obtain⟨i,j,rfl,rfl,q⟩:=h
 obtain⟨t,rfl⟩:=rx
 obtain⟨t',rfl⟩:=ry
 exact rule i j t t' s _ _ ⟨.bl (g i j),H,I,rfl,q⟩
def CMul (i j:Int):Prop:=(-(2 ^ 64)<i/\i<2 ^ 64)\/(-(2 ^ 64)<j/\j<2 ^ 64)
theorem CMul.ok {i j:Int}(h:CMul i j):IntMulOk i j:=by
 rcases h with ⟨h1,h2⟩ | ⟨h1,h2⟩
 ·exact .of_left (intBits_le_64 h1 h2)
 ·exact .of_right (intBits_le_64 h1 h2)
theorem wV:OpR X (binaryOp .Add) (rI0 fun i j=>.int (i+j)):=opI0 fun _ _ _ _ _ _ _ q=>add_int q
theorem uX:OpR X (binaryOp .Sub) (rI0 fun i j=>.int (i-j)):=opI0 fun _ _ _ _ _ _ _ q=>sub_int q
theorem qZ:OpR X (binaryOp .Mod) (rI (fun _ j=>0<j) fun i j=>.int (i%j)):=opI fun i j _ _ _ _ _ hc q=>by
 have h1:(0:Int)<j:=hc
 exact mod_int' (by bv_omega) (by rw[Int.fmod_eq_emod_of_nonneg i (by bv_omega)];exact q)
theorem cL:OpR X (inplaceOp .Add) (rI0 fun i j=>.int (i+j)):=opI0 fun _ _ _ _ _ _ _ q=>iadd_int q
theorem wU3:OpR X (inplaceOp .Sub) (rI0 fun i j=>.int (i-j)):=opI0 fun _ _ _ _ _ _ _ q=>isub_int q
theorem unI {f:Value->Sem Value}{g:Int->Int}
  (rule:∀(i:Int) (t:Tok) (s:Shared) (Q:Value->Shared->Prop) (E:Value->Shared->Prop),Q (.int (g i) s.toks) { s with toks:=s.toks+1 }->wpAny (model X.prog X.w) X.A (f (.int i t)) Q E s) :
  UnR X f (rU fun i=>.int (g i)):=by
 intro pins s σ H x v Q I rx h
 obtain⟨i,rfl,q⟩:=h
 obtain⟨t,rfl⟩:=rx
 exact rule i t s _ _ ⟨.int (g i),H,I.tok _,⟨_,rfl⟩,q⟩
theorem wN8:UnR X (unaryOp .USub) (rU fun i=>.int (-i)):=unI fun _ _ _ _ _ q=>neg_int q
end
section
variable {X:Cx}{a b c:Expr}{ta tb tc:TE}{pos:Pos}
theorem zS1:OpR X (compareOp .Lt) (rI0 fun i j=>.bl (decide (i<j))):=opB0 fun _ _ _ _ _ _ _ q=>lt_int q
theorem gO:OpR X (compareOp .LtE) (rI0 fun i j=>.bl (decide (i<=j))):=opB0 fun _ _ _ _ _ _ _ q=>le_int q
theorem aJ:OpR X (compareOp .Gt) (rI0 fun i j=>.bl (decide (j<i))):=opB0 fun _ _ _ _ _ _ _ q=>gt_int q
theorem yN4:OpR X (compareOp .GtE) (rI0 fun i j=>.bl (decide (j<=i))):=opB0 fun _ _ _ _ _ _ _ q=>ge_int q
def isObj:HO->Bool
 | .lst _=>true
 | .ins _ _ _=>true
 | _=>false
theorem zN4 {pins:List (Addr×Obj)}{s:Shared}{σ:St}{H:Hp}{a:Addr}{o:HO}(I:Inv X pins σ H s) (h:H a=some o) (p:isObj o=true):∃ob,s.heap.get? a=some ob/\ob.cls ≠ .type "tuple":=by
 cases o with
 | lst xs =>
  obtain⟨_,its,n,_,e⟩:xs.length<=sizeLine/\∃(its:List Value) (n:Nat),Vals xs its/\s.heap.get? a=some { cls:=.type "list",data:=.seq its.toArray n }:=I.hok a _ h
  exact⟨_,e,(by show Value.type "list" ≠ .type "tuple";decide +kernel)⟩
 | ins C dx fs =>
  have x:=I.hok a _ h
  obtain⟨_,_,_,e,_⟩:=x
  exact⟨_,e,(by show Value.ref C ≠ .type "tuple";exact fun z=>by cases z)⟩
 | _=>exact absurd (show false=true from p) Bool.false_ne_true
theorem nomark (b:Expr){op:CmpOp}(h:autoParam (op ≠ .In) yX._auto_1) (h2:autoParam (op ≠ .NotIn) yX._auto_1):behindInMarks op b=false:=by
 have e1:(op == CmpOp.In)=false:=by cases op <;> first | rfl | exact absurd rfl h
 have e2:(op == CmpOp.NotIn)=false:=by cases op <;> first | rfl | exact absurd rfl h2
 cases b <;> simp[behindInMarks,e1,e2]
theorem wY5 {op:CmpOp}{r:R2}(ho:OpR X (compareOp op) r) (ha:PE X a ta) (hb:PE X b tb) (hm:behindInMarks op b=false):PE X (.Compare a [op] [b] pos) (tOp r ta tb):=by
 intro pins s σ H Q I h
 exact wpAny_Compare1 (binT ha hb I h fun v u s2 x y H2 I2 rx ry q=>ho pins s2 σ H2 x y v u Q I2 rx ry q) hm
def tTest (t:TE):TT:=fun σ H Q=>t σ H fun x H'=>∃k,x=.bl k/\Q k H'
theorem wU1 {op:CmpOp}{r:R2}(ho:OpR X (compareOp op) r) (ha:PE X a ta) (hb:PE X b tb) (hm:behindInMarks op b=false):PT X (.Compare a [op] [b] pos) (tTest (tOp r ta tb)):=by
 intro pins s σ H Q I h
 refine wpAny_isTrue_Compare1 (thn (ha pins s σ H _ I h) fun v s1 ⟨x,H1,I1,r1,q1⟩=>thn (hb pins s1 σ H1 _ I1 q1) fun u s2 ⟨y,H2,I2,r2,q2⟩ =>
  thn (ho pins s2 σ H2 x y v u _ I2 r1 r2 q2) fun c s3 ⟨z,H3,I3,r3,k,e,q3⟩ => ?_) hm
 subst e
 cases r3
 exact wpAny_truthy_bool ⟨H3,I3,q3⟩
def tChain (r r':R2) (ta tb tc:TE):TE:=fun σ H Q=>ta σ H fun x H1=>tb σ H1 fun y H2=>r x y H2 fun z H3=>∃k,z=.bl k /\
 (if k=true then tc σ H3 fun w' H4=>r' y w' H4 Q else Q (.bl false) H3)
theorem xD2 {op op':CmpOp}{r r':R2}(ho:OpR X (compareOp op) r) (ho':OpR X (compareOp op') r') (ha:PE X a ta) (hb:PE X b tb) (hc:PE X c tc)
  (hm:autoParam (lastMarks [op,op'] [b,c]=false) yY3._auto_1):PE X (.Compare a [op,op'] [b,c] pos) (tChain r r' ta tb tc):=by
 intro pins s σ H Q I h
 refine Compare_chain (thn (ha pins s σ H _ I h) fun v s1 ⟨x,H1,I1,r1,q1⟩=>chain_link (thn (hb pins s1 σ H1 _ I1 q1) fun u s2 ⟨y,H2,I2,r2,q2⟩ =>
  thn (ho pins s2 σ H2 x y v u _ I2 r1 r2 q2) fun d s3 ⟨z,H3,I3,r3,k,e,q3⟩ => ?_)) hm
 subst e
 cases r3
 refine wpAny_truthy_bool ?_
 cases k with
 | false=>exact ite_ff ⟨.bl false,H3,I3,rfl,q3⟩
 | true=>exact ite_tt (chain_last (thn (hc pins s3 σ H3 _ I3 q3) fun w' s4 ⟨z',H4,I4,r4,q4⟩=>ho' pins s4 σ H4 y z' u w' Q I4 r2 r4 q4))
theorem xF7 {op op':CmpOp}{r r':R2}(ho:OpR X (compareOp op) r) (ho':OpR X (compareOp op') r') (ha:PE X a ta) (hb:PE X b tb) (hc:PE X c tc)
  (hm:autoParam (lastMarks [op,op'] [b,c]=false) yY3._auto_1):PT X (.Compare a [op,op'] [b,c] pos) (tTest (tChain r r' ta tb tc)):=by
 intro pins s σ H Q I h
 refine isTrue_chain (thn (ha pins s σ H _ I h) fun v s1 ⟨x,H1,I1,r1,q1⟩=>test_link (thn (hb pins s1 σ H1 _ I1 q1) fun u s2 ⟨y,H2,I2,r2,q2⟩ =>
  thn (ho pins s2 σ H2 x y v u _ I2 r1 r2 q2) fun d s3 ⟨z,H3,I3,r3,k,e,q3⟩ => ?_)) hm
 subst e
 cases r3
 refine wpAny_truthy_bool ?_
 cases k with
 | false =>
  obtain⟨k',e',q'⟩:=q3
  cases e'
  exact ite_ff ⟨H3,I3,q'⟩
 | true =>
  refine ite_tt (test_last (thn (hc pins s3 σ H3 _ I3 q3) fun w' s4 ⟨z',H4,I4,r4,q4⟩=>thn (ho' pins s4 σ H4 y z' u w' _ I4 r2 r4 q4) fun d' s5 ⟨z2,H5,I5,r5,k2,e2,q5⟩ => ?_))
  subst e2
  cases r5
  exact wpAny_truthy_bool ⟨H5,I5,q5⟩
theorem line63:(sizeLine:Nat)<2 ^ 63:=by rw[sizeLine_eq];decide
theorem yO:OpR X (binaryOp .Add) (fun x y H Q=>∃i j,x=.str i/\y=.str j/\i.length+j.length<=sizeLine/\Q (.str (i++j)) H):=by
 intro pins s σ H x y v u Q I rx ry h
 obtain⟨i,j,rfl,rfl,hz,q⟩:=h
 obtain⟨t,rfl⟩:=rx
 obtain⟨t',rfl⟩:=ry
 exact add_str (fun t' tk=>⟨.str (i++j),H,I.tok _,⟨_,rfl⟩,q⟩) hz
theorem vals1 {x:V}{us:List Value}(r:Vals [x] us):∃u,us=[u]/\RelV x u:=by
 cases r with
 | cons r1 r2=>cases r2;exact⟨_,rfl,r1⟩
theorem vals2 {x y:V}{us:List Value}(r:Vals [x,y] us):∃u w',us=[u,w']/\RelV x u/\RelV y w':=by
 cases r with
 | cons r1 r2 =>
  cases r2 with
  | cons r3 r4=>cases r4;exact⟨_,_,rfl,r1,r3⟩
theorem xM8 (hc:X.calm=true):CallR X (.builtin "max") (fun xs H Q=>∃i j,xs=[.int i,.int j]/\Q (.int (if j > i then j else i)) H):=by
 intro pins s σ H xs us Q I r h
 obtain⟨i,j,rfl,q⟩:=h
 obtain⟨u,w',rfl,⟨t,rfl⟩,⟨t',rfl⟩⟩:=vals2 r
 refine max_two_ints (I.ok.hd hc) fun h' tk k=>⟨_,H,I.kept k,?_,q⟩
 by_cases hj:j > i
 ·rw[if_pos hj,if_pos hj];exact⟨_,rfl⟩
 ·rw[if_neg hj,if_neg hj];exact⟨_,rfl⟩
theorem zP7 (hc:X.calm=true):CallR X (.builtin "min") (fun xs H Q=>∃i j,xs=[.int i,.int j]/\Q (.int (if j<i then j else i)) H):=by
 intro pins s σ H xs us Q I r h
 obtain⟨i,j,rfl,q⟩:=h
 obtain⟨u,w',rfl,⟨t,rfl⟩,⟨t',rfl⟩⟩:=vals2 r
 refine min_two_ints (I.ok.hd hc) fun h' tk k=>⟨_,H,I.kept k,?_,q⟩
 by_cases hj:j<i
 ·rw[if_pos hj,if_pos hj];exact⟨_,rfl⟩
 ·rw[if_neg hj,if_neg hj];exact⟨_,rfl⟩
theorem yS1:CallR X (.type "int") (fun xs H Q=>(∃i,xs=[.int i]/\Q (.int i) H)\/∃k,xs=[.bl k]/\Q (.int (if k then 1 else 0)) H):=by
 intro pins s σ H xs us Q I r h
 rcases h with ⟨i,rfl,q⟩ | ⟨k,rfl,q⟩
 ·obtain⟨u,rfl,t,rfl⟩:=vals1 r
  exact call_int_int ⟨.int i,H,I,⟨_,rfl⟩,q⟩
 ·obtain⟨u,rfl,r1⟩:=vals1 r
  cases r1
  exact call_int_bool ⟨.int (if k then 1 else 0),H,I.tok _,⟨_,rfl⟩,q⟩
theorem yE:CallR X (.type "str") (fun xs H Q=>∃i,xs=[.int i]/\i.natAbs.log2<1920/\Q (.str (toString i)) H):=by
 intro pins s σ H xs us Q I r h
 obtain⟨i,rfl,hz,q⟩:=h
 obtain⟨u,rfl,t,rfl⟩:=vals1 r
 exact PySem.P.str_of_int hz ⟨.str _,H,I.tok _,⟨_,rfl⟩,q⟩
end
structure ObjM (h:Heap) (x dx C:Addr) (mA:Str->Option Value):Prop where
 obj:h.get? x=some (PySem.W.instObj C dx)
 ns:h.Ns1 dx mA
 ne:dx≠x
section
variable {prog:Program}{w:World}{A:Around}{E:Value->Shared->Prop}{s:Shared}{K:KFr}{x dx C f:Addr}{mA:Str->Option Value}{name:Str}{v:Value}
end
section
variable {P:Program}{w:World}{H H':Hp}{h h':Heap}{a C dx:Addr}{fs fs':List (Str×V)}
end
structure Cls (K:KFr) (C:Addr):Prop where
 pg:PySem.W.plainGet K C Str.empty=true
 hd:PySem.W.hasDictIn K C=true
 po:PySem.W.plainOver K C=true
 sa:PySem.W.findIn K (.ref C) "__setattr__" = some (some (.builtin "object.__setattr__"))
structure Con (K:KFr) (C:Addr) (f:Str) (v:V) (u:Value):Prop where
 at_:PySem.W.findIn K (.ref C) f=some (some u)
 rel:RelV v u
 get:PySem.W.specialIn K u "__get__" = some none
 cp:PySem.W.copiedNames.contains f=false
structure Meth (K:KFr) (C:Addr) (m:Str) (f:Addr):Prop where
 at_:PySem.W.findIn K (.ref C) m=some (some (.ref f))
 fn:PySem.W.isFn K (.ref f)=true
 kp:PySem.W.keepIn K (.ref f)=true
section
variable {X:Cx}{pins:List (Addr×Obj)}{σ:St}{H:Hp}{s:Shared}{a C dx:Addr}{fs:List (Str×V)}{f:Str}{v:V}{A:Around}{E:Value->Shared->Prop}
end
section
variable {X:Cx}{o e value:Expr}{f:Str}{pos pos' tpos:Pos}{ta tv:TE}
end
section
variable {X:Cx}{pins:List (Addr×Obj)}{σ:St}{H:Hp}{s:Shared}{A:Around}{E:Value->Shared->Prop}{Q:Value->Shared->Prop}{c:Value}{b:Bool}
inductive TyOf (K:KFr) (H:Hp):V->Value->Prop where
 | non:TyOf K H .non (.type "NoneType")
 | bl (x:Bool):TyOf K H (.bl x) (.type "bool")
 | int (i:Int):TyOf K H (.int i) (.type "int")
 | str (x:Str):TyOf K H (.str x) (.type "str")
 | flt (x:UInt64):TyOf K H (.flt x) (.type "float")
 | lst {a:Addr}{xs:List V}(e:H a=some (.lst xs)):TyOf K H (.ref a) (.type "list")
 | frz {a:Addr}{o:Obj}{xs:List V}(e:H a=some (.frz o (.lst xs))):TyOf K H (.ref a) (.type "list")
 | tup {a:Addr}{xs:List V}(e:H a=some (.tup xs)):TyOf K H (.ref a) (.type "tuple")
 | dK {a:Addr}{kvs:List (Key×V)}(e:H a=some (.dK kvs)):TyOf K H (.ref a) (.type "dict")
 | dT {a:Addr}{kvs:List (List Key×V)}(e:H a=some (.dT kvs)):TyOf K H (.ref a) (.type "dict")
 | ins {a C dx:Addr}{fs:List (Str×V)}(e:H a=some (.ins C dx fs)) (cl:Cls K C) (ha:PySem.W.findIn K (.ref C) "__class__" = some (some (.builtin "object.__class__")))
   (hn:PySem.W.specialIn K (.builtin "object.__class__") "__get__" = some (some (.builtin "getset_descriptor.__get__"))) (htk:PySem.W.takesIn K (.builtin "object.__class__")=some true)
   (hm:PySem.W.mroIn K C (.type "object")=some true):TyOf K H (.ref a) (.ref C)
end
structure Room (k:Nat) (A:Around):Prop where
 hd:A.handled=none
 dp:A.depth+3*k+5<recursionLimit
 un:A.units+16*k+200<cLine
theorem Room.mono {j k:Nat}{A:Around}(r:Room k A) (h:j<=k):Room j A:=⟨r.hd,by have:=r.dp;bv_omega,by have:=r.un;bv_omega⟩
theorem Room.deeper {k:Nat}{A:Around}(r:Room (k+1) A) (env:Env):Room k (A.deeper env) :=
 ⟨r.hd,by have:=r.dp;show A.depth+1+3*k+5<_;bv_omega,by have:=r.un;show A.units+3+16*k+200<_;bv_omega⟩
theorem Room.depth {k:Nat}{A:Around}(r:Room k A):A.depth<recursionLimit:=by have:=r.dp;bv_omega
theorem Room.units {k:Nat}{A:Around}(r:Room k A):A.units+64<cLine:=by have:=r.un;bv_omega
def tNil:TA:=fun _ H Q=>Q [] H
def wD6 (ta:TE) (tr:TA):TA:=fun σ H Q=>ta σ H fun x H1=>tr σ H1 fun xs H2=>Q (x::xs) H2
section
variable {X:Cx}{e:Expr}{es:List Expr}{te:TE}{t:TA}{pos:Pos}
theorem hJ:PA X [] tNil:=fun _ _ _ _ H Q I h=>Calls.spliced_nil ⟨[],H,I,.nil,h⟩
theorem qP (ha:PE X e te) (hr:PA X es t) (hs:autoParam (starEach (e::es) X.env=(false,eval e X.env)::starEach es X.env) zU._auto_1):PA X (e::es) (wD6 te t):=by
 intro pos pins s σ H Q I h
 rw[hs]
 show wpAny _ _ (spliced ((false,eval e X.env)::backTo pos (starEach es X.env))) _ _ s
 refine Calls.spliced_cons (thn (ha pins s σ H _ I h) fun u s1 ⟨x,H1,I1,r1,q1⟩ => ?_)
 exact thn (hr pos pins s1 σ H1 _ I1 q1) fun us s2 ⟨xs,H2,I2,r2,q2⟩=>⟨x::xs,H2,I2,.cons r1 r2,q2⟩
def tTup (t:TA):TE:=fun σ H Q=>t σ H fun xs H1=>xs.length<=sizeLine/\∀p,H1 p=none->Q (.ref p) (upd H1 p (.tup xs))
def tLst (t:TA):TE:=fun σ H Q=>t σ H fun xs H1=>xs.length<=sizeLine/\∀p,H1 p=none->Q (.ref p) (upd H1 p (.lst xs))
theorem wK2 {x1} (h:PA X es t):PE X (.Tuple es x1 pos) (tTup t):=by
 intro pins s σ H Q I hq
 refine wpAny_Tuple_spliced (thn (h pos pins s σ H _ I hq) fun us s1 ⟨xs,H1,I1,r,z,q⟩=>⟨by rw[<-r.length];exact z,?_⟩)
 have hf:H1 s1.heap.objs.size=none:=I1.hok.fresh (Nat.le_refl _)
 refine⟨.ref s1.heap.objs.size,upd H1 s1.heap.objs.size (.tup xs),I1.laid (t':=s1.toks) (fun b u e=>Heap.get?_push_of_some _ e) (Nat.le_refl _) ?_,rfl,q _ hf⟩
 exact⟨z,us,r,TupAt.new _ _⟩
theorem wO9 (h:PA X es t):PE X (.List es pos) (tLst t):=by
 intro pins s σ H Q I hq
 refine wpAny_List_spliced (thn (h pos pins s σ H _ I hq) fun us s1 ⟨xs,H1,I1,r,z,q⟩=>⟨by rw[<-r.length];exact z,?_⟩)
 have hf:H1 s1.heap.objs.size=none:=I1.hok.fresh (Nat.le_refl _)
 refine⟨.ref s1.heap.objs.size,upd H1 s1.heap.objs.size (.lst xs),I1.laid (t':=s1.toks) (fun b u e=>Heap.get?_push_of_some _ e) (Nat.le_refl _) ?_,rfl,q _ hf⟩
 exact⟨z,us,0,r,Heap.get?_push_size _ rfl⟩
end
abbrev Sp:=List V->Hp->VK->XK->Prop
abbrev CXT:=List Env->Hp->Shared->XK->Value->Shared->Prop
structure Env0 (P:Program) (w:World) (K:KFr) (mg:Str->Option Value) (base:Heap) (A:Around) (outer:List Env) (s:Shared) (H:Hp):Prop where
 frames:A.frames=some outer
 mod:Mod K mg base
 bs:∀b o,base.get? b=some o->s.heap.get? b=some o/\H b=none
 bsz:base.objs.size<=s.heap.objs.size
 funs:s.heap.FunFrames base outer
 frf:∀b∈frs outer,H b=none
 hok:HOk P w H s.heap
 bare:AllBare s.gens
def CE (outer:List Env) (P:Program) (w:World) (H:Hp) (s:Shared) (Q:VK) (u:Value) (s':Shared):Prop :=
 ∃v H',s'.os=s.os/\AllBare s'.gens/\Un (frs outer) [] H H' s.heap s'.heap/\HOk P w H' s'.heap/\RelV v u/\Q v H'
def CR (CX:CXT) (outer:List Env) (P:Program) (w:World) (H:Hp) (s:Shared) (Q:VK) (E:XK) (r:Result) (s':Shared):Prop :=
 match r with
 | .ok (.ret u)=>CE outer P w H s Q u s'
 | .ok _=>False
 | .error e=>CX outer H s E e s'
structure FnOk (P:Program) (w:World) (K:KFr) (mg:Str->Option Value) (base:Heap) (CX:CXT) (k:Nat) (f:Addr) (fd:FuncData) (ps:List Str) (sp:Sp):Prop where
 len:∀vs H Q E,sp vs H Q E->vs.length=ps.length
 run:∀(A:Around) (outer:List Env) (s:Shared) (H:Hp) (args:Args) (us:List Value) (vs:List V) (Q:VK) (E:XK),Room k A->Env0 P w K mg base A outer s H->BindsTo s fd args (ps.zip us)->Vals vs us->sp vs H Q E ->
  codeAny (model P w) A (.call (.ref f) args) (CR CX outer P w H s Q E) s
section
variable {X:Cx}{pins:List (Addr×Obj)}{σ:St}{H:Hp}{s s':Shared}
theorem Inv.env0 (I:Inv X pins σ H s):Env0 X.prog X.w X.K X.mg X.base X.A X.stack s H :=
 ⟨I.ok.frames,I.ok.mod,I.bs,Nat.le_trans I.ok.bsz I.sz,I.stack,I.stkFree,I.hok,I.bare⟩
theorem Inv.after {Q:VK}{u:Value}(I:Inv X pins σ H s) (h:CE X.stack X.prog X.w H s Q u s'):EP X pins σ Q u s':=by
 obtain⟨v,H',os,bare,un,hok,r,q⟩:=h
 obtain⟨hh,g,d,t,os'⟩:=s'
 obtain rfl:os'=s.os:=os
 exact⟨v,H',I.call (h':=hh) (g':=g) (d':=d) (t':=t) (ch:=[]) un hok bare (fun b z=>absurd z (by simp)),r,q⟩
end
def tCall (sp:Sp) (dvs:List V) (E:XK) (t:TA):TE:=fun σ H Q=>t σ H fun vs H1=>sp (vs++dvs) H1 Q E
def Binds (K:KFr) (fd:FuncData) (ps:List Str) (ds:List Value):Prop :=
 ∀(s:Shared) (us:List Value),K.In s.heap->(us++ds).length=ps.length->BindsTo s fd ⟨us,[]⟩ (ps.zip (us++ds))
theorem Binds.all {K:KFr}{fd:FuncData}{ps:List Str}(h:∀us:List Value,us.length=ps.length->bindArgs fd ⟨us,[]⟩=pure (ps.zip us)):Binds K fd ps []:=fun s us _ hl=>by
 rw[List.append_nil] at hl ⊢
 exact .of_eq (h us hl)
def Passes (CX:CXT) (X:Cx) (E:XK):Prop:=∀(pins:List (Addr×Obj)) (σ:St) (H:Hp) (s:Shared) (e:Value) (s':Shared),Inv X pins σ H s->CX X.stack H s E e s'->X.xe e s'
section
variable {X:Cx}{CX:CXT}{k:Nat}{f C:Addr}{fd:FuncData}{ps:List Str}{sp:Sp}{dvs:List V}{ds:List Value}{E:XK}{x m:Str}{p pos apos:Pos}{e o:Expr}{es:List Expr}{ta:TE}{t:TA}
theorem wJ2 {pins:List (Addr×Obj)}{σ:St}{H:Hp}{s:Shared}{Q:VK}{us:List Value}{vs:List V}(F:FnOk X.prog X.w X.K X.mg X.base CX k f fd ps sp) (hr:Room k X.A) (hb:Binds X.K fd ps ds) (hd:Vals dvs ds) (hx:Passes CX X E)
  (I:Inv X pins σ H s) (r:Vals vs us) (h:sp (vs++dvs) H Q E):wpAny (model X.prog X.w) X.A (call (.ref f) us) (EP X pins σ Q) X.xe s:=by
 have r2:Vals (vs++dvs) (us++ds):=r.append hd
 have hl:(us++ds).length=ps.length:=by rw[<-r2.length];exact F.len _ _ _ _ h
 refine wpAny_call (codeAny_mono (F.run X.A X.stack s H ⟨us,[]⟩ (us++ds) (vs++dvs) Q E hr I.env0 (hb s us I.kIn hl) r2 h) fun r s' hq => ?_)
 cases r with
 | error e=>exact hx pins σ H s e s' I hq
 | ok fl =>
  cases fl with
  | ret u=>exact I.after hq
  | next=>exact False.elim hq
  | brk=>exact False.elim hq
  | cont=>exact False.elim hq
theorem xX7 (F:FnOk X.prog X.w X.K X.mg X.base CX k f fd ps sp) (hr:Room k X.A) (hg:Gl X x) (hm:X.mg x=some (.ref f)) (hk:PySem.W.keepIn X.K (.ref f)=true) (hb:Binds X.K fd ps ds) (hd:Vals dvs ds) (hx:Passes CX X E)
  (ha:PA X (e::es) t) (hdb:autoParam ((x == ("__debug__":Str))=false) yX._auto_1) (he:autoParam (starEach (e::es) X.env=(false,eval e X.env)::starEach es X.env) zU._auto_1) (hpl:autoParam ((backTo pos (starEach es X.env)).any (·.1)=false) zU._auto_1) :
  PE X (.Call (.Name x p) (e::es) [] pos) (tCall sp dvs E t):=by
 intro pins s σ H Q I h
 refine wpAny_Call_Name_kw (yX6 I hg hm ?_ hdb)
 refine PySem.W.callWith_K (h₀:=X.base) I.ok.mod.kin hk (thn (ha pos pins s σ H _ I h) fun us s1 ⟨vs,H1,I1,r,q⟩=>⟨I1.kIn,?_⟩) he hpl
 exact wJ2 F hr hb hd hx I1 r q
structure Mk (K:KFr) (C f:Addr):Prop where
 makes:PySem.W.makesIn K C=true
 init:PySem.W.findIn K (.ref C) "__init__" = some (some (.ref f))
 fn:PySem.W.isFn K (.ref f)=true
 kp:PySem.W.keepIn K (.ref C)=true
end
section
variable {X:Cx}{CX:CXT}{k:Nat}{f C:Addr}{fd:FuncData}{ps ks:List Str}{sp:Sp}{E:XK}{x m:Str}{p pos apos kpos:Pos}{e o:Expr}{es:List Expr}{kws:List Keyword}{te ta:TE}{t tk:TA}{nm:Option Str}
structure KBinds (K:KFr) (fd:FuncData) (ps ks:List Str) (g:List Value->List Value->List Value) (gV:List V->List V->List V):Prop where
 to:∀(s:Shared) (us ws:List Value),K.In s.heap->(g us ws).length=ps.length->BindsTo s fd ⟨us,ks.zip ws⟩ (ps.zip (g us ws))
 rel:∀{vs:List V}{us:List Value}{zs:List V}{ws:List Value},Vals vs us->Vals zs ws->Vals (gV vs zs) (g us ws)
variable {g:List Value->List Value->List Value}{gV:List V->List V->List V}
end
structure zJ (N P:List Str) (sc:Scope):Prop where
 kind:sc.kind=.function
 co:sc.isCoroutine=false
 gen:sc.isGenerator=false
 nd:N.Nodup
 pre:N.take P.length=P
 par:∀x∈P,sc.names.lookup x=some .local \/ sc.names.lookup x=some .cell
 nofree:∀y∈sc.names,y.2 ≠ .free
theorem yS6 {kindOf:Str->Option NameKind}{x:Str}:∀{binds:List (Str×Value)}{m:Str->Option Value},(∀v,(x,v)∉binds)->bindL kindOf binds m x=m x
 | [],_,_=>rfl
 | (n,v)::r,m,h=>by
  unfold bindL
  rw[yS6 fun w hw=>h w (List.mem_cons_of_mem _ hw)]
  split
  ·have:x≠n:=by rintro rfl;exact h v List.mem_cons_self
   simp[this]
  ·rfl
theorem yR5 {kindOf:Str->Option NameKind}{x:Str}:∀{binds:List (Str×Value)}{m:Str->Option Value},(∀v,(x,v)∉binds)->bindC kindOf binds m x=m x
 | [],_,_=>rfl
 | (n,v)::r,m,h=>by
  unfold bindC
  rw[yR5 fun w hw=>h w (List.mem_cons_of_mem _ hw)]
  split
  ·rfl
  ·have:x≠n:=by rintro rfl;exact h v List.mem_cons_self
   simp[this]
theorem yR7 {kindOf:Str->Option NameKind}{x:Str}{v:Value}:∀{P:List Str}{vs:List Value}{i:Nat}{m:Str->Option Value},P.Nodup->P[i]?=some x->vs[i]?=some v->kindOf x=some .local ->
  bindL kindOf (P.zip vs) m x=some v
 | [],_,_,_,_,h,_,_=>by simp at h
 | _::_,[],_,_,_,_,h,_=>by simp at h
 | p::P,w::vs,0,m,nd,h1,h2,hk=>by
  simp at h1 h2;subst h1;subst h2
  show bindL kindOf ((p,w)::P.zip vs) m p=_
  unfold bindL
  rw[yS6 fun v hv=>(List.nodup_cons.mp nd).1 (List.of_mem_zip hv).1,if_pos hk]
  simp
 | p::P,w::vs,i+1,m,nd,h1,h2,hk=>by
  show bindL kindOf ((p,w)::P.zip vs) m x=_
  unfold bindL
  exact yR7 (i:=i) (List.nodup_cons.mp nd).2 (by simpa using h1) (by simpa using h2) hk
theorem yQ4 {kindOf:Str->Option NameKind}{x:Str}{v:Value}:∀{P:List Str}{vs:List Value}{i:Nat}{m:Str->Option Value},P.Nodup->P[i]?=some x->vs[i]?=some v->kindOf x≠some .local ->
  bindC kindOf (P.zip vs) m x=some v
 | [],_,_,_,_,h,_,_=>by simp at h
 | _::_,[],_,_,_,_,h,_=>by simp at h
 | p::P,w::vs,0,m,nd,h1,h2,hk=>by
  simp at h1 h2;subst h1;subst h2
  show bindC kindOf ((p,w)::P.zip vs) m p=_
  unfold bindC
  rw[yR5 fun v hv=>(List.nodup_cons.mp nd).1 (List.of_mem_zip hv).1,if_neg hk]
  simp
 | p::P,w::vs,i+1,m,nd,h1,h2,hk=>by
  show bindC kindOf ((p,w)::P.zip vs) m x=_
  unfold bindC
  exact yQ4 (i:=i) (List.nodup_cons.mp nd).2 (by simpa using h1) (by simpa using h2) hk
def start (N:List Str) (vs:List V):St:=vs.map some++List.replicate (N.length-vs.length) none
def cxOf (CX:CXT) (P:Program) (w:World) (K:KFr) (mg:Str->Option Value) (base:Heap) (N:List Str) (qual:Str) (scope:Scope) (f:Addr) (cd:Value) (A:Around) (outer:List Env) (s:Shared) (H:Hp) (E:XK):Cx where
 prog:=P
 w:=w
 K:=K
 mg:=mg
 base:=base
 A:=A.deeper (envOfC qual scope s.heap.objs.size f cd)
 N:=N
 s₀:=s
 H₀:=H
 env:=envOfC qual scope s.heap.objs.size f cd
 outer:=outer
 stack:=envOfC qual scope s.heap.objs.size f cd::outer
 ex:=[]
 calm:=true
 fn:=fun _=>true
 pn:=[]
 xe:=fun e s'=>wpAny (model P w) (A.deeper (envOfC qual scope s.heap.objs.size f cd)) (leaving (envOfC qual scope s.heap.objs.size f cd) e) (fun _ s''=>CX outer H s E e s'') (fun e' s''=>CX outer H s E e' s'') s'
theorem yE8 {sc:Scope}{n:Nat}{x:Str}(h:sc.names.lookup x=some .cell):∃c,(cellsFrom n sc.names []).lookup x=some c:=by
 have q:=PySem.W.cellsFrom_some sc.names n [] (.inl h)
 exact Option.isSome_iff_exists.mp q
theorem xK5 {CX:CXT}{P:Program}{w:World}{K:KFr}{mg:Str->Option Value}{base:Heap}{N ps:List Str}{qual:Str}{scope:Scope}{f:Addr}{cd:Value}{A:Around}{outer:List Env}{s s1:Shared}{H:Hp}{E:XK}{us:List Value}{vs:List V}
  (S:zJ N ps scope) (hd:A.handled=none) (e0:Env0 P w K mg base A outer s H) (hl:vs.length=ps.length) (r:Vals vs us)
  (x:InCallC s s.heap.objs.size (bindL (envOfC qual scope s.heap.objs.size f cd).kindOf (ps.zip us) fun _=>none) (cellsFrom (s.heap.objs.size+1) scope.names []) (bindC (envOfC qual scope s.heap.objs.size f cd).kindOf (ps.zip us) fun _=>none) s1) :
  Inv (cxOf CX P w K mg base N qual scope f cd A outer s H E) [] (start N vs) H s1:=by
 have hpl:ps.length<=N.length:=by have:=congrArg List.length S.pre;rw[List.length_take] at this;bv_omega
 obtain⟨h1,tk,rfl,hk⟩:=x.done
 have noA:∀b:Addr,b∉(cxOf CX P w K mg base N qual scope f cd A outer s H E).ex:=fun b z=>absurd (show b∈([]:List Addr) from z) (by simp)
 refine⟨⟨e0.mod,S.kind,rfl,rfl,Nat.le_refl _,fun y z c h1 h2 => ?_,fun y hy => ?_,fun y c _ h => ?_,fun _=>hd,Around.frames_deeper e0.frames,.inr ⟨rfl,rfl⟩,fun b z=>absurd z (noA b),e0.bs,e0.bsz,fun b _ _=>noA b,fun b z=>absurd z (noA b),e0.funs,e0.frf⟩,
  rfl,e0.bare,Un.kept hk,⟨_,x.toInCall.ns,fun i y v h1 h2 h3 => ?_⟩,fun y c h=>⟨_,x.cell y c h⟩,e0.hok.fresh (Nat.le_refl _),fun y c h => ?_,fun p hp=>absurd (show p∈([]:List (Addr×Obj)) from hp) (by simp),e0.hok.kept hk,?_⟩
 ·exact name_of_addr x.apart (PySem.mem_of_lookup h1) (PySem.mem_of_lookup h2)
 ·have hy:scope.names.lookup y=some .cell\/scope.names.lookup y=some .free:=hy
  rcases hy with hy | hy
  ·exact yE8 hy
  ·exact absurd rfl (S.nofree _ (PySem.mem_of_lookup hy))
 ·exact Nat.le_of_lt (x.above y c (PySem.mem_of_lookup h))
 ·have hi:i<vs.length:=by
   unfold start at h2
   by_cases hi:i<vs.length
   ·exact hi
   ·rw[List.getElem?_append_right (by simpa using hi)] at h2
    rw[List.getElem?_replicate] at h2
    split at h2 <;> cases h2
  have ha:vs[i]?=some v:=by
   unfold start at h2
   rw[List.getElem?_append_left (by simpa using hi),List.getElem?_map] at h2
   cases e:vs[i]? with
   | none=>rw[e] at h2;cases h2
   | some a=>rw[e] at h2;cases h2;rfl
  obtain⟨u,hu,rv⟩:=r.get ha
  have hp:ps[i]?=some y:=by
   rw[<-S.pre,List.getElem?_take_of_lt (by bv_omega)];exact h1
  have ndP:ps.Nodup:=by rw[<-S.pre];exact S.nd.sublist (List.take_sublist _ _)
  refine⟨u,rv,?_⟩
  rcases S.par y (List.mem_of_getElem? hp) with k | k
  ·exact .inl ⟨k,yR7 ndP hp hu k⟩
  ·obtain⟨c,e⟩:=yE8 (n:=s.heap.objs.size+1) k
   refine .inr ⟨.inl k,c,e,?_⟩
   have q:=x.cell y c e
   rw[yQ4 ndP hp hu (by show scope.names.lookup y≠_;rw[k];decide)] at q
   exact q
 ·exact e0.hok.fresh (Nat.le_of_lt (x.above y c (PySem.mem_of_lookup h)))
 ·unfold start
  show _=N.length
  rw[List.length_append,List.length_map,List.length_replicate]
  bv_omega
theorem wG2 {CX:CXT}{P:Program}{w:World}{K:KFr}{mg:Str->Option Value}{base:Heap}{k:Nat}{f:Addr}{name qual:Str}{params:Arguments}{body:List Stmt}{scope:Scope}{dV kV doc pm cdv ct oc:Value}{an od:Option Addr}
  {osl:Array (Option Value)}{N ps:List Str}{sp:Sp}(lk:K.lookup f=some ⟨oc,od,.func (PySem.W.fnOf name qual params body scope dV kV doc pm an cdv ct),osl⟩) (hcd:PySem.W.codeIn K cdv qual=true) (S:zJ N ps scope)
  (len:∀vs H Q E,sp vs H Q E->vs.length=ps.length)
  (hbody:∀(A:Around) (outer:List Env) (s:Shared) (H:Hp) (vs:List V) (Q:VK) (E:XK),Room k (A.deeper (envOfC qual scope s.heap.objs.size f cdv))->sp vs H Q E ->
   ∃t,PSs (cxOf CX P w K mg base N qual scope f cdv A outer s H E) body t/\t { nx:=fun _ H'=>Q .non H',rt:=Q } (start N vs) H) :
  FnOk P w K mg base CX (k+1) f (PySem.W.fnOf name qual params body scope dV kV doc pm an cdv ct) ps sp:=by
 refine⟨len,fun A outer s H args us vs Q E hr e0 hb r hsp => ?_⟩
 have hl:=len _ _ _ _ hsp
 have KX:K.In s.heap:=e0.mod.kin.keeps fun b o e=>(e0.bs b o e).1
 have lim:s.heap.NoLimit:=e0.mod.nolimit.keeps fun b o e=>(e0.bs b o e).1
 have hkind:∀y∈ps.zip us,scope.names.lookup y.1=some .local \/ (scope.names.lookup y.1=some .cell/\((cellsFrom (s.heap.objs.size+1) scope.names []).lookup y.1).isSome=true):=fun ⟨n,v⟩ hy=>by
  rcases S.par n (List.of_mem_zip hy).1 with q | q
  ·exact .inl q
  ·exact .inr ⟨q,PySem.W.cellsFrom_some _ _ _ (.inl q)⟩
 refine codeAny_call_function hr.depth (KX _ _ lk) rfl S.co S.gen rfl (PySem.W.codeRec_of KX hcd) (hb _ _ _ _ ?_)
 refine wpAny_newFunctionEnv_cells S.kind hkind fun env he s1 x => ?_
 subst he
 refine⟨lim.keeps x.toInCall.keep,codeAny_func ?_⟩
 obtain⟨t,ht,hq⟩:=hbody A outer s H vs Q E (hr.deeper _) hsp
 have I:Inv (cxOf CX P w K mg base N qual scope f cdv A outer s H E) [] (start N vs) H s1:=xK5 S hr.hd e0 hl r x
 refine wpAny_mono (ht [] s1 (start N vs) H _ I hq) (fun fl s' hs => ?_) fun e s' hs=>hs
 have fin:∀{σ':St}{H':Hp}{v:V}{u:Value},Inv (cxOf CX P w K mg base N qual scope f cdv A outer s H E) [] σ' H' s'->RelV v u->Q v H'->CE outer P w H s Q u s' :=
  fun {σ' H' v u} J rv q=>⟨v,H',J.os,J.bare,J.base,J.hok,rv,q⟩
 cases fl with
 | ret u =>
  obtain⟨v,σ',H',J,rv,q⟩:=hs
  exact fin J rv q
 | next =>
  obtain⟨σ',H',J,q⟩:=hs
  exact fin (v:=V.non) (u:=Value.none) J rfl q
 | brk =>
  obtain⟨_,_,_,q⟩:=hs
  exact False.elim q
 | cont =>
  obtain⟨_,_,_,q⟩:=hs
  exact False.elim q
section
variable {X:Cx}{x:Str}{p pos:Pos}{e:Expr}{es:List Expr}{t:TA}{id T:String}{r:List V->Hp->VK->Prop}
def tCB (r:List V->Hp->VK->Prop) (t:TA):TE:=fun σ H Q=>t σ H fun vs H1=>r vs H1 Q
theorem xC3 (hc:CallR X (.builtin id) r) (hg:Gl X x) (hm:X.mg x=none) (hv:bootBuiltins x=some (.builtin id)) (ha:PA X (e::es) t) (hn:autoParam (x ≠ "__name__") yX._auto_1) (hdb:autoParam ((x == ("__debug__":Str))=false) yX._auto_1)
  (he:autoParam (starEach (e::es) X.env=(false,eval e X.env)::starEach es X.env) zU._auto_1) (hpl:autoParam ((backTo pos (starEach es X.env)).any (·.1)=false) zU._auto_1):PE X (.Call (.Name x p) (e::es) [] pos) (tCB r t):=by
 intro pins s σ H Q I h
 refine wpAny_Call_Name_kw (zX1 I hg hm hv ?_ hn hdb)
 exact PyProof.Rows.callWith_builtin1 (thn (ha pos pins s σ H _ I h) fun us s1 ⟨vs,H1,I1,r1,q1⟩=>hc pins s1 σ H1 vs us Q I1 r1 q1) he hpl
theorem dU (hc:CallR X (.type T) r) (hg:Gl X x) (hm:X.mg x=none) (hv:bootBuiltins x=some (.type T)) (ha:PA X (e::es) t) (hn:autoParam (x ≠ "__name__") yX._auto_1) (hdb:autoParam ((x == ("__debug__":Str))=false) yX._auto_1)
  (he:autoParam (starEach (e::es) X.env=(false,eval e X.env)::starEach es X.env) zU._auto_1) (hpl:autoParam ((backTo pos (starEach es X.env)).any (·.1)=false) zU._auto_1):PE X (.Call (.Name x p) (e::es) [] pos) (tCB r t):=by
 intro pins s σ H Q I h
 refine wpAny_Call_Name_kw (zX1 I hg hm hv ?_ hn hdb)
 exact PyProof.Rows.callWith_type1 (thn (ha pos pins s σ H _ I h) fun us s1 ⟨vs,H1,I1,r1,q1⟩=>hc pins s1 σ H1 vs us Q I1 r1 q1) he hpl
end
end L2
namespace HT
open PySem PyProof.Rows
section
open PySem.SeqAt
open PySem.AutoSeq1 (wpAny_loadPart')
open PySem.MeetsSeq PySem.MeetsSeq2 PySem.MeetsSeq3
end
section
variable {prog:Program}{w:World}{A:Around}{E:Value->Shared->Prop}{s:Shared}
def sIx (n d:Nat):Option Int->Nat
 | none=>d
 | some v=>if v<0 then (v+(n:Int)).toNat else min v.toNat n
theorem yG5 (n d:Nat):sIx n d none=d:=rfl
theorem yB7 (n d k:Nat):sIx n d (some (k:Int))=min k n:=by
 show (if (k:Int)<0 then ((k:Int)+(n:Int)).toNat else min (k:Int).toNat n)=min k n
 rw[if_neg (by bv_omega),Int.toNat_natCast]
theorem wP3 (n d:Nat) (hd:d<=n) (o:Option Int):sIx n d o<=n:=by
 cases o with
 | none=>exact hd
 | some v =>
  show (if v<0 then (v+(n:Int)).toNat else min v.toNat n)<=n
  by_cases hv:v<0
  ·rw[if_pos hv];bv_omega
  ·rw[if_neg hv];exact Nat.min_le_right _ _
theorem xZ8 (v:Int) (n d:Nat):(if v<0 then max (v+(n:Int)) 0 else min v (n:Int))=((sIx n d (some v):Nat):Int):=by
 show (if v<0 then max (v+(n:Int)) 0 else min v (n:Int))=(((if v<0 then (v+(n:Int)).toNat else min v.toNat n):Nat):Int)
 by_cases hv:v<0
 ·simp only[if_pos hv];bv_omega
 ·simp only[if_neg hv];bv_omega
theorem xS2 (lo hi:Option Int) (n:Nat):Builtin.Slice.sliceAdjust lo hi 1 (n:Int)=(((sIx n 0 lo:Nat):Int),((sIx n n hi:Nat):Int)):=by
 have h1:¬((1:Int)<0):=by bv_omega
 unfold Builtin.Slice.sliceAdjust
 simp only[h1,if_false]
 refine Prod.ext ?_ ?_
 ·cases lo with
  | none=>rfl
  | some v=>exact xZ8 v n 0
 ·cases hi with
  | none=>rfl
  | some v=>exact xZ8 v n n
theorem xT3 (i j:Nat):Builtin.Slice.slicePlaces (i:Int) (j:Int) 1=j-i:=by
 unfold Builtin.Slice.slicePlaces
 have h1:(1:Int) > 0:=by bv_omega
 simp only[h1,if_true,Int.ediv_one]
 split <;> bv_omega
theorem zD7 {v:Value}{o:Option Int}{Q:Option Int->Shared->Prop}(p:IsPart v o) (h:Q o s):wpAny (model prog w) A (Builtin.Slice.slicePartIndex v) Q E s:=by
 cases p with
 | none=>exact slicePart_none h
 | int i t=>exact slicePart_int h
theorem bG {sl:Addr}{vl vu:Value}{lo hi:Option Int}{n:Nat}{Q:Int×Int×Nat->Shared->Prop}(hs:s.heap.IsSliceOf sl vl vu .none) (pl:IsPart vl lo) (pu:IsPart vu hi)
  (h:Q (((sIx n 0 lo:Nat):Int),1,sIx n n hi-sIx n 0 lo) s):wpAny (model prog w) A (Builtin.Slice.sliceApplied (.ref sl) (pure (n:Int))) Q E s:=by
 obtain⟨os,hos,hcs,hds⟩:=id hs
 unfold Builtin.Slice.sliceApplied Builtin.Slice.sliceFields
 refine wpAny_bind (wpAny_bind (wpAny_field hos hds (x:=vl) rfl (wpAny_bind (wpAny_field hos hds (x:=vu) rfl (wpAny_bind (wpAny_field hos hds (x:=.none) rfl (wpAny_pure ?_)))))))
 refine wpAny_bind (slicePart_none ?_)
 show wpAny _ _ (if ((1:Int) == 0)=true then _ else _) _ _ s
 rw[if_neg (by decide)]
 refine wpAny_bind (zD7 pl (wpAny_bind (zD7 pu (wpAny_bind (wpAny_pure ?_)))))
 show wpAny _ _ (match Builtin.Slice.sliceAdjust lo hi 1 (n:Int) with | (lo,hi)=>pure (lo,(1:Int),Builtin.Slice.slicePlaces lo hi 1)) _ _ s
 rw[xS2 lo hi n]
 show wpAny _ _ (pure (((sIx n 0 lo:Nat):Int),(1:Int),Builtin.Slice.slicePlaces ((sIx n 0 lo:Nat):Int) ((sIx n n hi:Nat):Int) 1)) _ _ s
 rw[xT3]
 exact wpAny_pure h
theorem xF4 (xs:Array Value) (i k:Nat):((List.range k).filterMap fun (m:Nat)=>xs[((i:Int)+(m:Int)*1).toNat]?).toArray=((xs.toList.drop i).take k).toArray:=by
 have e:(fun (m:Nat)=>xs[((i:Int)+(m:Int)*1).toNat]?)=fun m=>xs[i+m]?:=by
  funext m
  have:((i:Int)+(m:Int)*1).toNat=i+m:=by bv_omega
  rw[this]
 rw[e]
 have:=pick_run xs i k
 rw[List.filterMap_map] at this
 have e2:((fun x=>xs[x]?)∘fun x=>i+x)=fun m=>xs[i+m]?:=rfl
 rw[e2] at this
 rw[this]
theorem zI5 {t sl:Addr}{items:Array Value}{vl vu:Value}{lo hi:Option Int}{Q:Value->Shared->Prop}(ht:IsTup s.heap t items) (hs:s.heap.IsSliceOf sl vl vu .none) (pl:IsPart vl lo) (pu:IsPart vu hi)
  (hw:¬(sIx items.size 0 lo=0/\sIx items.size items.size hi=items.size))
  (h:Q (.ref s.heap.objs.size) { s with heap:=s.heap.push { cls:=.type "tuple",data:=.seq ((items.toList.drop (sIx items.size 0 lo)).take (sIx items.size items.size hi-sIx items.size 0 lo)).toArray } })
  (hsz:items.size<=sizeLine):wpAny (model prog w) A (getItem (.ref t) (.ref sl)) Q E s:=by
 have htake:sizeOk (.seq ((items.toList.drop (sIx items.size 0 lo)).take (sIx items.size items.size hi-sIx items.size 0 lo)).toArray):=by
  show ((items.toList.drop (sIx items.size 0 lo)).take (sIx items.size items.size hi-sIx items.size 0 lo)).toArray.size<=sizeLine
  rw[List.size_toArray,List.length_take,List.length_drop,Array.length_toList]
  bv_omega
 have hj:sIx items.size items.size hi<=items.size:=wP3 _ _ (Nat.le_refl _) hi
 obtain⟨os,hos,hcs,hds⟩:=id hs
 have hTs:s.TypeIs (.ref sl) "slice":=⟨os,hos,hcs⟩
 unfold getItem
 try with_reducible refine wpAny_holding ?_
 first | refine wpAny_bind (wpAny_pure ?_) | skip
 refine wpAny_bind (wpAny_sequenceKey ht.typeIs (by decide) ?_)
 refine wpAny_bind (wpAny_callSpecial?_slot (name:=Str.ofString "__getitem__") ht.typeIs PyProof.Rows.slot_tuple_getitem
  (wpAny_call_entry PyProof.Rows.slot_tuple_getitem ht.typeIs entry_tuple_getitem ?_ (args_tuple_getitem _ _)))
 show wpAny _ _ (Builtin.Tuple.tupleItemsOf (.ref t) >>= _) _ _ s
 refine wpAny_bind (tupleItemsOf_ ht ?_)
 refine wpAny_bind (wpAny_typeOf hTs ?_)
 rw[if_pos (by decide)]
 refine wpAny_bind (bG hs pl pu ?_)
 have hno:¬((((sIx items.size 0 lo:Nat):Int) == 0&&(1:Int) == 1&&(sIx items.size items.size hi-sIx items.size 0 lo) == items.size)=true):=by
  intro q
  rw[Bool.and_eq_true,Bool.and_eq_true] at q
  have q1:((sIx items.size 0 lo:Nat):Int)=0:=eq_of_beq q.1.1
  have q2:sIx items.size items.size hi-sIx items.size 0 lo=items.size:=eq_of_beq q.2
  exact hw ⟨by bv_omega,by bv_omega⟩
 show wpAny _ _ (if (((sIx items.size 0 lo:Nat):Int) == 0&&(1:Int) == 1&&(sIx items.size items.size hi-sIx items.size 0 lo) == items.size)=true then _ else _) _ _ s
 rw[if_neg hno,xF4]
 first
  | exact wpAny_bind (m:=Builtin.Tuple.tupleExact _) (wpAny_newObj_type (wpAny_pure ⟨_,rfl,wpAny_pure h⟩) htake)
  | exact wpAny_bind (m:=Builtin.Tuple.tupleExact _) (wpAny_newObj_type (wpAny_bind (wpAny_pure (wpAny_pure ⟨_,rfl,wpAny_pure h⟩))) htake)
  | exact wpAny_bind (wpAny_bind (m:=Builtin.Tuple.tupleExact _) (wpAny_newObj_type (wpAny_pure (wpAny_pure ⟨_,rfl,wpAny_pure h⟩)) htake))
  | exact wpAny_bind (wpAny_bind (m:=Builtin.Tuple.tupleExact _) (wpAny_newObj_type (wpAny_pure ⟨_,rfl,wpAny_pure h⟩) htake))
end
end HT
namespace L2
open PySem PySem.Spec PyProof.Rows
abbrev TO:=St->Hp->(Option Int->Hp->Prop)->Prop
def PO (X:Cx) (e:Option Expr) (t:TO):Prop :=
 ∀(pins:List (Addr×Obj)) (s:Shared) (σ:St) (H:Hp) (Q:Option Int->Hp->Prop),Inv X pins σ H s->t σ H Q ->
  wpAny (model X.prog X.w) X.A (evalPart e X.env) (fun u s'=>∃o H',Inv X pins σ H' s'/\IsPart u o/\Q o H') X.xe s
def tNoPart:TO:=fun _ H Q=>Q none H
def tPart (t:TE):TO:=fun σ H Q=>t σ H fun x H1=>∃i,x=.int i/\Q (some i) H1
theorem cQ {ns:List Int}:∀{us:List Value},Vals (ns.map V.int) us->IntsAre us ns:=by
 induction ns with
 | nil=>intro us r;rw[List.map_nil] at r;cases r;exact .nil
 | cons n ns ih =>
  intro us r
  rw[List.map_cons] at r
  cases r with
  | cons r1 r2 =>
   obtain⟨t,e⟩:=r1
   subst e
   exact .cons n t (ih r2)
section
variable {X:Cx}{e:Expr}{te:TE}{lo hi:Option Expr}{tl th:TO}{pos p2:Pos}
theorem wZ1:PO X none tNoPart:=by
 intro pins s σ H Q I h
 rw[evalPart_none]
 exact wpAny_pure ⟨none,H,I,.none,h⟩
theorem wX6 (h:PE X e te):PO X (some e) (tPart te):=by
 intro pins s σ H Q I hw
 rw[evalPart_some]
 refine thn (h pins s σ H _ I hw) fun u s1 ⟨x,H1,I1,r1,q1⟩ => ?_
 obtain⟨i,rfl,q⟩:=q1
 obtain⟨t,rfl⟩:=r1
 exact⟨some i,H1,I1,.int i t,q⟩
def SlR (X:Cx) (r:V->Option Int->Option Int->Hp->VK->Prop):Prop :=
 ∀(pins:List (Addr×Obj)) (s:Shared) (σ:St) (H:Hp) (x:V) (v vl vu:Value) (lo hi:Option Int) (sl:Addr) (Q:VK),Inv X pins σ H s->RelV x v->s.heap.IsSliceOf sl vl vu .none->IsPart vl lo->IsPart vu hi->r x lo hi H Q ->
  ∃T id,typeLookup (.type T) "__getitem__" = pure (some (.builtin id))/\s.TypeIs v T/\wpAny (model X.prog X.w) X.A (getItem v (.ref sl)) (EP X pins σ Q) X.xe s
theorem SlR.or {r r':V->Option Int->Option Int->Hp->VK->Prop}(h:SlR X r) (h':SlR X r'):SlR X (fun x lo hi H Q=>r x lo hi H Q\/r' x lo hi H Q):=by
 intro pins s σ H x v vl vu lo hi sl Q I rx hs pl pu q
 rcases q with q | q
 ·exact h pins s σ H x v vl vu lo hi sl Q I rx hs pl pu q
 ·exact h' pins s σ H x v vl vu lo hi sl Q I rx hs pl pu q
def tSl (r:V->Option Int->Option Int->Hp->VK->Prop) (te:TE) (tl th:TO):TE:=fun σ H Q=>te σ H fun x H1=>tl σ H1 fun l H2=>th σ H2 fun u H3=>r x l u H3 Q
theorem xG6 {r:V->Option Int->Option Int->Hp->VK->Prop}(hr:SlR X r) (he:PE X e te) (hl:PO X lo tl) (hu:PO X hi th):PE X (.Subscript e (.Slice lo hi none p2) pos) (tSl r te tl th):=by
 intro pins s σ H Q I h
 refine Subscript_ (thn (he pins s σ H _ I h) fun v s1 ⟨x,H1,I1,r1,q1⟩ => ?_)
 refine wpAny_Slice (thn (hl pins s1 σ H1 _ I1 q1) fun vl s2 ⟨l,H2,I2,pl,q2⟩=>thn (hu pins s2 σ H2 _ I2 q2) fun vu s3 ⟨u,H3,I3,pu,q3⟩ => ?_)
 rw[evalPart_none]
 refine wpAny_pure ?_
 have I4:Inv X pins σ H3 { s3 with heap:=s3.heap.push { cls:=.type "slice",data:=.fields #[vl,vu,.none] } }:=I3.kept (t':=s3.toks) fun b ob q=>Heap.get?_push_of_some _ q
 obtain⟨T,id,hT,ht,hg⟩:=hr pins { s3 with heap:=s3.heap.push { cls:=.type "slice",data:=.fields #[vl,vu,.none] } } σ H3 x v vl vu l u s3.heap.objs.size Q I4 r1 (Heap.IsSliceOf.new ..) pl pu q3
 show wpAny (model X.prog X.w) X.A (subscriptTail e (.Slice lo hi none p2) v (.ref s3.heap.objs.size)) (EP X pins σ Q) X.xe { s3 with heap:=s3.heap.push { cls:=.type "slice",data:=.fields #[vl,vu,.none] } }
 exact tail_any (ops:=[.ref s3.heap.objs.size,v]) ht hT hg (by with_unfolding_all rfl)
def cutV (xs:List V) (lo hi:Option Int):List V:=(xs.drop (HT.sIx xs.length 0 lo)).take (HT.sIx xs.length xs.length hi-HT.sIx xs.length 0 lo)
theorem zI8 (xs:List V) (lo hi:Option Int):(cutV xs lo hi).length<=xs.length:=by
 unfold cutV
 rw[List.length_take,List.length_drop]
 bv_omega
def rSlT (K:KFr):V->Option Int->Option Int->Hp->VK->Prop:=fun x lo hi H Q=>∃a xs,x=.ref a/\SqT K H a xs /\
 ¬(HT.sIx xs.length 0 lo=0/\HT.sIx xs.length xs.length hi=xs.length)/\∀p,H p=none->Q (.ref p) (upd H p (.tup (cutV xs lo hi)))
theorem wK7:SlR X (rSlT X.K):=by
 intro pins s σ H x v vl vu lo hi sl Q I rx hs pl pu h
 obtain⟨a,xs,rfl,hx,hw,q⟩:=h
 cases rx
 obtain⟨its,r,ht,hz⟩:=I.tuple hx
 have hlen:its.toArray.size=xs.length:=by rw[List.size_toArray];exact r.length.symm
 refine⟨"tuple",_,PyProof.Rows.slot_tuple_getitem.lookup,ht.typeIs,?_⟩
 refine HT.zI5 ht hs pl pu (by rw[hlen];exact hw) ?_ (by rw[hlen];exact hz)
 rw[hlen]
 refine⟨.ref s.heap.objs.size,_,I.laid (t':=s.toks) (o:=.tup (cutV xs lo hi)) (fun b ob q=>Heap.get?_push_of_some _ q) (Nat.le_refl _) ?_,rfl,q _ (I.hok.fresh (Nat.le_refl _))⟩
 exact⟨Nat.le_trans (zI8 xs lo hi) hz,_,(r.drop (HT.sIx xs.length 0 lo)).take (HT.sIx xs.length xs.length hi-HT.sIx xs.length 0 lo),TupAt.new _ _⟩
end
def ixN (n:Nat) (i:Int):Option Nat:=if 0<=i then (if i<n then some i.toNat else none) else if -(n:Int)<=i then some (i+n).toNat else none
def atI {α:Type}(xs:List α) (i:Int):Option α:=(ixN xs.length i).bind fun j=>xs[j]?
theorem xZ1 {n:Nat}{i:Int}{j:Nat}(h:ixN n i=some j):seqIndex? i n=some j/\j<n/\-(n:Int)<=i/\i<n:=by
 unfold ixN at h
 by_cases h0:0<=i
 ·rw[if_pos h0] at h
  by_cases h1:i<n
  ·rw[if_pos h1] at h
   have e:i.toNat=j:=Option.some.inj h
   exact⟨by rw[seqIndex_of h0 h1,e],by bv_omega,by bv_omega,h1⟩
  ·rw[if_neg h1] at h;cases h
 ·rw[if_neg h0] at h
  by_cases h1:-(n:Int)<=i
  ·rw[if_pos h1] at h
   have e:(i+n).toNat=j:=Option.some.inj h
   exact⟨by rw[seqIndex_neg (by bv_omega) h1,e],by bv_omega,h1,by bv_omega⟩
  ·rw[if_neg h1] at h;cases h
theorem zJ7 {α:Type}{xs:List α}{i:Int}{v:α}(h:atI xs i=some v):∃j,seqIndex? i xs.length=some j/\xs[j]?=some v/\j<xs.length/\-(xs.length:Int)<=i/\i<xs.length:=by
 unfold atI at h
 cases e:ixN xs.length i with
 | none=>rw[e] at h;cases h
 | some j =>
  rw[e] at h
  obtain⟨h1,h2,h3,h4⟩:=xZ1 e
  exact⟨j,h1,h,h2,h3,h4⟩
theorem zW4 {α:Type}{xs:List α}{j:Nat}{v:α}(h:xs[j]?=some v):atI xs (j:Int)=some v:=by
 have hj:j<xs.length:=(List.getElem?_eq_some_iff.mp h).1
 have e:ixN xs.length (j:Int)=some j:=by
  unfold ixN
  rw[if_pos (by bv_omega),if_pos (by bv_omega)];simp
 unfold atI;rw[e];exact h
theorem xH9 {α:Type}(xs:List α) (v:α):atI (xs ++ [v]) (-1)=some v:=by
 have hl:(xs ++ [v]).length=xs.length+1:=by simp
 have e:ixN (xs ++ [v]).length (-1)=some xs.length:=by
  unfold ixN
  rw[hl,if_neg (by decide),if_pos (by bv_omega)]
  congr 1
  bv_omega
 unfold atI
 rw[e]
 show (xs ++ [v])[xs.length]?=some v
 simp
def PlainIx (b:Expr):Prop:=∀o i,subscripted b false o i=operate [o,i] (getItem o i)
def IxR (X:Cx) (r:R2):Prop :=
 ∀(value slice:Expr) (pins:List (Addr×Obj)) (s:Shared) (σ:St) (H:Hp) (x y:V) (v u:Value) (Q:VK),Inv X pins σ H s->RelV x v->RelV y u->r x y H Q ->
  subscripted slice false v u=operate [v,u] (getItem v u)->wpAny (model X.prog X.w) X.A (subscriptTail value slice v u) (EP X pins σ Q) X.xe s
def MtR (X:Cx) (id:String) (r:V->List V->Hp->VK->Prop):Prop :=
 ∀(pins:List (Addr×Obj)) (s:Shared) (σ:St) (H:Hp) (x:V) (xs:List V) (v:Value) (us:List Value) (Q:VK),Inv X pins σ H s->RelV x v->Vals xs us->r x xs H Q ->
  wpAny (model X.prog X.w) X.A (call (.builtin id) (v::us)) (EP X pins σ Q) X.xe s
section
variable {X:Cx}{a b:Expr}{ta tb:TE}{pos:Pos}
theorem IxR.or {r r':R2}(h:IxR X r) (h':IxR X r'):IxR X (fun x y H Q=>r x y H Q\/r' x y H Q):=by
 intro value slice pins s σ H x y v u Q I rx ry q hs
 rcases q with q | q
 ·exact h value slice pins s σ H x y v u Q I rx ry q hs
 ·exact h' value slice pins s σ H x y v u Q I rx ry q hs
theorem wG1 {r:R2}(hr:IxR X r) (ha:PE X a ta) (hb:PE X b tb) (hs:PlainIx b):PE X (.Subscript a b pos) (tOp r ta tb):=by
 intro pins s σ H Q I h
 exact Subscript_ (binT ha hb I h fun v u s2 x y H2 I2 rx ry q=>hr a b pins s2 σ H2 x y v u Q I2 rx ry q (hs _ _))
def rIxL (K:KFr):R2:=fun x y H Q=>∃p xs i v,x=.ref p/\y=.int i/\SqL K H p xs/\atI xs i=some v/\Q v H
def rIxT (K:KFr):R2:=fun x y H Q=>∃p xs i v,x=.ref p/\y=.int i/\SqT K H p xs/\atI xs i=some v/\Q v H
def rIxS:R2:=fun x y H Q=>∃z i c,x=.str z/\y=.int i/\z.length<=sizeLine/\atI z.cps.toList i=some c/\Q (.str ⟨#[c]⟩) H
theorem wT1:IxR X (rIxL X.K):=by
 intro value slice pins s σ H x y v u Q I rx ry h hs
 obtain⟨p,xs,i,z,rfl,rfl,hq,he,q⟩:=h
 cases rx
 obtain⟨t,rfl⟩:=ry
 obtain⟨its,r,pl,hz⟩:=I.list hq
 obtain⟨j,h1,h2,h3,h4,h5⟩:=zJ7 he
 obtain⟨w,ew,rw'⟩:=r.get h2
 have hl:=r.length
 have hn:=line63
 have fin:EP X pins σ Q w s:=⟨z,H,I,rw',q⟩
 by_cases h0:0<=i
 ·have hj:i.toNat=j:=by
   rw[seqIndex_of h0 h5] at h1
   exact Option.some.inj h1
  exact item_listR pl.isList h0 (by bv_omega) (by rw[hj];simpa using ew) fin hs
 ·have hj:(i+(its.toArray.size:Int)).toNat=j:=by
   rw[seqIndex_neg (by bv_omega) h4] at h1
   rw[List.size_toArray,<-hl]
   exact Option.some.inj h1
  exact subscriptTail_builtinR (x:=w) pl.isList.typeIs slot_list_getitem.lookup
   (wpAny_getItem_list_neg (Q:=fun r s'=>r=w/\EP X pins σ Q r s') pl.isList (by bv_omega) (by rw[List.size_toArray] <;> bv_omega) (by bv_omega) (by rw[hj];simpa using ew) ⟨rfl,fin⟩) hs
theorem wM1:IxR X (rIxT X.K):=by
 intro value slice pins s σ H x y v u Q I rx ry h hs
 obtain⟨p,xs,i,z,rfl,rfl,hq,he,q⟩:=h
 cases rx
 obtain⟨t,rfl⟩:=ry
 obtain⟨its,r,pl,hz⟩:=I.tuple hq
 obtain⟨j,h1,h2,h3,h4,h5⟩:=zJ7 he
 obtain⟨w,ew,rw'⟩:=r.get h2
 have hl:=r.length
 have hn:=line63
 have fin:EP X pins σ Q w s:=⟨z,H,I,rw',q⟩
 exact subscriptTail_builtinR (x:=w) pl.typeIs slot_tuple_getitem.lookup
  (getItem_tuple (j:=j) (Q:=fun r s'=>r=w/\EP X pins σ Q r s') pl (by bv_omega) (by bv_omega) (by rw[List.size_toArray,<-hl];exact h1) (by simpa using ew) ⟨rfl,fin⟩) hs
theorem wR8:IxR X rIxS:=by
 intro value slice pins s σ H x y v u Q I rx ry h hs
 obtain⟨z,i,c,rfl,rfl,hz,he,q⟩:=h
 obtain⟨t,rfl⟩:=rx
 obtain⟨t',rfl⟩:=ry
 obtain⟨j,h1,h2,h3,h4,h5⟩:=zJ7 he
 have hl:z.cps.toList.length=z.length:=by simp[Str.length]
 rw[hl] at h1 h4 h5
 have hn:=line63
 exact tail_any (typeIs_str s z t) slot_str_getitem.lookup (getItem_str (c:=c) (by
  have e1:decide (i < -(2 ^ 63:Int))=false:=decide_eq_false (by bv_omega)
  have e2:decide (i ≥ 2 ^ 63)=false:=decide_eq_false (by bv_omega)
  rw[e1,e2,Bool.or_false]) (by rw[h1];simpa using h2) ⟨.str ⟨#[c]⟩,H,I.tok _,⟨_,rfl⟩,q⟩) hs
def rIx (K:KFr):R2:=fun x y H Q=>rIxL K x y H Q\/rIxT K x y H Q\/rIxS x y H Q
theorem zB:IxR X (rIx X.K):=wT1.or (wM1.or wR8)
theorem xU9 (its:List Value) (n j:Nat) (u:Value):Obj.mapSeq (·.setIfInBounds j u) { cls:=.type "list",data:=.seq its.toArray n }={ cls:=.type "list",data:=.seq (its.set j u).toArray n }:=by
 simp[Obj.mapSeq]
theorem Inv.lst {pins:List (Addr×Obj)}{σ:St}{H:Hp}{s:Shared}{p:Addr}{xs:List V}(I:Inv X pins σ H s) (h:H p=some (.lst xs)) :
  ∃(its:List Value) (n:Nat),Vals xs its/\s.heap.get? p=some { cls:=.type "list",data:=.seq its.toArray n }/\xs.length<=sizeLine:=by
 obtain⟨z,its,n,r,e⟩:=I.hok p _ h
 exact⟨its,n,r,e,z⟩
theorem Inv.lstUpd {pins:List (Addr×Obj)}{σ:St}{H:Hp}{s:Shared}{p:Addr}{xs ys:List V}{its its':List Value}{n n':Nat}{f:Obj->Obj}(I:Inv X pins σ H s) (h:H p=some (.lst xs))
  (ho:s.heap.get? p=some { cls:=.type "list",data:=.seq its.toArray n }) (hf:f { cls:=.type "list",data:=.seq its.toArray n }={ cls:=.type "list",data:=.seq its'.toArray n' }) (r:Vals ys its') (hz:ys.length<=sizeLine) (t:Nat) :
  Inv X pins σ (upd H p (.lst ys)) { s with heap:=s.heap.update p f,toks:=t }:=by
 have e:(s.heap.update p f).get? p=some { cls:=.type "list",data:=.seq its'.toArray n' }:=by
  rw[Heap.get?_update_self f ho (by rw[hf] <;> rfl),hf]
 refine I.write (x:=p) (e:=p) (by rw[h];trivial) (.inl rfl) (fun b u hb q=>(Heap.get?_update_other _ _ (Ne.symm hb)).trans q) ⟨_,e⟩ ?_
 exact⟨hz,its',n',r,e⟩
def rSetL:V->V->V->Hp->(Hp->Prop)->Prop:=fun o i v H Q=>∃p xs k j,o=.ref p/\i=.int k/\H p=some (.lst xs)/\ixN xs.length k=some j/\Q (upd H p (.lst (xs.set j v)))
theorem yL6:PSet X rSetL:=by
 intro pins s σ H o i v ov iv u Q I ro ri rv h
 obtain⟨p,xs,k,j,rfl,rfl,hp,hj,q⟩:=h
 cases ro
 obtain⟨t,rfl⟩:=ri
 obtain⟨its,n,r,ho,hz⟩:=I.lst hp
 obtain⟨h1,h2,h3,h4⟩:=xZ1 hj
 have hl:=r.length
 have hn:=line63
 have I':Inv X pins σ (upd H p (.lst (xs.set j v))) { s with heap:=s.heap.update p (Obj.mapSeq (·.setIfInBounds j u)) } :=
  I.lstUpd hp ho (xU9 its n j u) (r.set rv j) (by rw[List.length_set];exact hz) s.toks
 by_cases h0:0<=k
 ·have hk:k.toNat=j:=by
   rw[seqIndex_of h0 h4] at h1
   exact Option.some.inj h1
  exact PySem.W.ki_setAt ho h0 (by bv_omega) (by rw[List.size_toArray,<-hl];exact h4) (by rw[hk];exact⟨_,I',q⟩)
 ·have hk:(k+(its.toArray.size:Int)).toNat=j:=by
   rw[seqIndex_neg (by bv_omega) h3] at h1
   rw[List.size_toArray,<-hl]
   exact Option.some.inj h1
  exact PySem.W.ki_setBack ho (by bv_omega) (by rw[List.size_toArray,<-hl];exact h3) (by bv_omega) (by rw[hk];exact⟨_,I',q⟩)
theorem yM9 (lo hi:Option Int) (n:Nat):(sliceBounds lo hi none n).1=((HT.sIx n 0 lo:Nat):Int)/\(sliceBounds lo hi none n).2.1=((HT.sIx n n hi:Nat):Int)/\(sliceBounds lo hi none n).2.2=1:=by
 refine⟨?_,?_,rfl⟩
 ·cases lo with
  | none=>simp[sliceBounds,HT.sIx]
  | some i =>
   simp only[sliceBounds,HT.sIx,Option.getD_none,show (1:Int) > 0 by decide,if_true]
   by_cases h:i<0
   ·simp only[h,if_true] <;> bv_omega
   ·simp only[h,if_false] <;> bv_omega
 ·cases hi with
  | none=>simp[sliceBounds,HT.sIx]
  | some i =>
   simp only[sliceBounds,HT.sIx,Option.getD_none,show (1:Int) > 0 by decide,if_true]
   by_cases h:i<0
   ·simp only[h,if_true] <;> bv_omega
   ·simp only[h,if_false] <;> bv_omega
theorem yP7 (its:List Value) (lo hi:Option Int):slicePick its.toArray lo hi none=((its.drop (HT.sIx its.length 0 lo)).take (HT.sIx its.length its.length hi-HT.sIx its.length 0 lo)).toArray:=by
 obtain⟨h1,h2,h3⟩:=yM9 lo hi its.toArray.size
 unfold slicePick
 rw[h1,h2,h3]
 simp only[sliceRange_one,pick_run,List.size_toArray] <;> rfl
def rSlL (K:KFr):V->Option Int->Option Int->Hp->VK->Prop:=fun x lo hi H Q=>∃a xs,x=.ref a/\SqL K H a xs/\∀p,H p=none->Q (.ref p) (upd H p (.lst (cutV xs lo hi)))
theorem yC9:SlR X (rSlL X.K):=by
 intro pins s σ H x v vl vu lo hi sl Q I rx hs pl pu h
 obtain⟨a,xs,rfl,hx,q⟩:=h
 cases rx
 obtain⟨its,r,ht,hz⟩:=I.list hx
 have hlen:=r.length
 refine⟨"list",_,slot_list_getitem.lookup,ht.isList.typeIs,?_⟩
 refine wpAny_getItem_list_slice ht.isList hs pl pu .none (by simp) ?_ (by rw[List.size_toArray] <;> bv_omega)
 rw[yP7,<-hlen]
 refine⟨.ref s.heap.objs.size,_,I.laid (t':=s.toks) (o:=.lst (cutV xs lo hi)) (fun b ob q=>Heap.get?_push_of_some _ q) (Nat.le_refl _) ?_,rfl,q _ (I.hok.fresh (Nat.le_refl _))⟩
 exact⟨Nat.le_trans (zI8 xs lo hi) hz,_,0,(r.drop (HT.sIx xs.length 0 lo)).take (HT.sIx xs.length xs.length hi-HT.sIx xs.length 0 lo),Heap.get?_push_size _ rfl⟩
def flatV:V->Bool
 | .non=>true
 | .bl _=>true
 | .int _=>true
 | .str _=>true
 | _=>false
def eqV:V->V->Bool
 | .non,.non=>true
 | .bl a,.bl b=>a == b
 | .bl a,.int b=>(if a then 1 else 0) == b
 | .int a,.bl b=>a == (if b then 1 else 0)
 | .int a,.int b=>a == b
 | .str a,.str b=>a == b
 | _,_=>false
theorem wO1 {A:Around}{s:Shared}{y x:V}{u v:Value}(ry:RelV y u) (rx:RelV x v) (fy:flatV y=true) (fx:flatV x=true):SeqAt.EqAt A s u v (eqV y x):=by
 cases y with
 | non =>
  cases ry
  cases x with
  | non=>cases rx;exact SeqAt.EqAt.same _
  | bl b=>cases rx;exact SeqAt.EqAt.none_bool b
  | int b=>obtain⟨t,rfl⟩:=rx;exact SeqAt.EqAt.none_int b t
  | str b=>obtain⟨t,rfl⟩:=rx;exact SeqAt.EqAt.none_str b t
  | _=>exact absurd (show false=true from fx) Bool.false_ne_true
 | bl a =>
  cases ry
  cases x with
  | non=>cases rx;exact SeqAt.EqAt.bool_none a
  | bl b=>cases rx;exact SeqAt.EqAt.bool_bool a b
  | int b=>obtain⟨t,rfl⟩:=rx;exact SeqAt.EqAt.bool_int a b t
  | str b=>obtain⟨t,rfl⟩:=rx;exact SeqAt.EqAt.bool_str a b t
  | _=>exact absurd (show false=true from fx) Bool.false_ne_true
 | int a =>
  obtain⟨t',rfl⟩:=ry
  cases x with
  | non=>cases rx;exact SeqAt.EqAt.int_none a t'
  | bl b=>cases rx;exact SeqAt.EqAt.int_bool a t' b
  | int b=>obtain⟨t,rfl⟩:=rx;exact SeqAt.EqAt.int_int a t' b t
  | str b=>obtain⟨t,rfl⟩:=rx;exact SeqAt.EqAt.int_str a t' b t
  | _=>exact absurd (show false=true from fx) Bool.false_ne_true
 | str a =>
  obtain⟨t',rfl⟩:=ry
  cases x with
  | non=>cases rx;exact SeqAt.EqAt.str_none a t'
  | bl b=>cases rx;exact SeqAt.EqAt.str_bool a t' b
  | int b=>obtain⟨t,rfl⟩:=rx;exact SeqAt.EqAt.str_int a t' b t
  | str b=>obtain⟨t,rfl⟩:=rx;exact SeqAt.EqAt.str_str a t' b t
  | _=>exact absurd (show false=true from fx) Bool.false_ne_true
 | _=>exact absurd (show false=true from fy) Bool.false_ne_true
def eqU (x:V) (u:Value):Bool:=match u with
 | .none=>eqV .non x
 | .bool b=>eqV (.bl b) x
 | .int i _=>eqV (.int i) x
 | .str z _=>eqV (.str z) x
 | _=>false
theorem zD9 {x y:V}{u:Value}(r:RelV y u) (f:flatV y=true):eqU x u=eqV y x:=by
 cases y with
 | non=>cases r;rfl
 | bl b=>cases r;rfl
 | int i=>obtain⟨t,rfl⟩:=r;rfl
 | str z=>obtain⟨t,rfl⟩:=r;rfl
 | _=>exact absurd (show false=true from f) Bool.false_ne_true
theorem yV7 {x:V}:∀{xs:List V}{us:List Value},Vals xs us->xs.all flatV=true->us.any (eqU x)=xs.any fun y=>eqV y x
 | _,_,.nil,_=>rfl
 | y::xs,u::us,.cons r t,f=>by
  rw[List.all_cons,Bool.and_eq_true] at f
  rw[List.any_cons,List.any_cons,zD9 r f.1,yV7 t f.2]
theorem zS7 {A:Around}{s:Shared}{x:V}{v:Value}(rx:RelV x v) (fx:flatV x=true):∀{xs:List V}{us:List Value},Vals xs us->xs.all flatV=true->∀u∈us,SeqAt.EqAt A s u v (eqU x u)
 | _,_,.nil,_=>fun u hu=>by cases hu
 | y::xs,u::us,.cons r t,f=>fun u' hu=>by
  rw[List.all_cons,Bool.and_eq_true] at f
  rcases List.mem_cons.mp hu with rfl | hu
  ·rw[zD9 r f.1];exact wO1 r rx f.1 fx
  ·exact zS7 rx fx t f.2 u' hu
def inV (x:V) (xs:List V):Bool:=xs.any fun y=>eqV y x
def rIn (K:KFr) (neg:Bool):R2:=fun x y H Q=>∃p xs,y=.ref p/\(SqL K H p xs\/SqT K H p xs)/\flatV x=true/\xs.all flatV=true/\Q (.bl (if neg then !inV x xs else inV x xs)) H
theorem zQ5:OpR X (compareOp .NotIn) (rIn X.K true):=by
 intro pins s σ H x y v u Q I rx ry h
 obtain⟨p,xs,rfl,hq,fx,fs,q⟩:=h
 cases ry
 rcases hq with hq | hq
 ·obtain⟨its,r,pl,hz⟩:=I.list hq
  refine SeqAt.notIn_listAt (eqU x) pl.isList (fun w hw=>zS7 rx fx r fs w (by simpa using hw)) ⟨.bl _,H,I,rfl,?_⟩
  rw[show its.toArray.any (eqU x)=its.any (eqU x) by simp,yV7 r fs]
  exact q
 ·obtain⟨its,r,pl,hz⟩:=I.tuple hq
  refine SeqAt.notIn_tupleAt (eqU x) pl (fun w hw=>zS7 rx fx r fs w (by simpa using hw)) ⟨.bl _,H,I,rfl,?_⟩
  rw[show its.toArray.any (eqU x)=its.any (eqU x) by simp,yV7 r fs]
  exact q
theorem zM:CallR X (.builtin "len") (fun xs H Q=>∃p ys,xs=[.ref p]/\(SqL X.K H p ys\/SqT X.K H p ys)/\Q (.int ys.length) H):=by
 intro pins s σ H xs us Q I r h
 obtain⟨p,ys,rfl,hq,q⟩:=h
 obtain⟨u,rfl,rx⟩:=vals1 r
 cases rx
 have hn:=line63
 rcases hq with hq | hq
 ·obtain⟨its,r',pl,hz⟩:=I.list hq
  have hlen:=r'.length
  exact Calls.call_len_list pl.isList (by simp only[List.size_toArray] <;> bv_omega) ⟨.int ys.length,H,I.tok _,⟨s.toks+1,by rw[List.size_toArray,hlen]⟩,q⟩
 ·obtain⟨its,r',pl,hz⟩:=I.tuple hq
  have hlen:=r'.length
  exact len_tuple pl (by simp only[List.size_toArray] <;> bv_omega) ⟨.int ys.length,H,I.tok _,⟨s.toks+1,by rw[List.size_toArray,hlen]⟩,q⟩
theorem yI3:CallR X (.builtin "len") (fun xs H Q=>∃z,xs=[.str z]/\z.length<=sizeLine/\Q (.int z.length) H):=by
 intro pins s σ H xs us Q I r h
 obtain⟨z,rfl,hz,q⟩:=h
 obtain⟨u,rfl,t,rfl⟩:=vals1 r
 have hn:=line63
 exact len_str (by bv_omega) ⟨.int z.length,H,I.tok _,⟨_,rfl⟩,q⟩
theorem yK4:CallR X (.type "list") (fun xs H Q=>∃p ys,xs=[.ref p]/\(SqL X.K H p ys\/SqT X.K H p ys)/\∀l,H l=none->Q (.ref l) (upd H l (.lst ys))):=by
 intro pins s σ H xs us Q I r h
 obtain⟨p,ys,rfl,hq,q⟩:=h
 obtain⟨u,rfl,rx⟩:=vals1 r
 cases rx
 have fin:∀(its:List Value),Vals ys its->ys.length<=sizeLine->∀(h':Heap) (c':Nat),(∀b o',s.heap.get? b=some o'->h'.get? b=some o') ->
   h'.get? s.heap.objs.size=some { cls:=.type "list",dict:=none,data:=.seq its.toArray c',slots:=#[] }->EP X pins σ Q (.ref s.heap.objs.size) { s with heap:=h' }:=fun its r' hz h' c' kp e =>
  ⟨.ref s.heap.objs.size,_,I.laid (t':=s.toks) kp (Nat.le_refl _) (show ObjOk X.prog X.w _ h' _ (.lst ys) from ⟨hz,its,c',r',e⟩),rfl,q _ (I.hok.fresh (Nat.le_refl _))⟩
 rcases hq with hq | hq
 ·obtain⟨its,r',pl,hz⟩:=I.list hq
  have hlen:=r'.length
  obtain⟨o,ho,hc,n,hd⟩:=pl.isList
  exact call_list_seq p (.inl rfl) ho hc hd (fun h' c' kp e=>fin its r' hz h' c' kp e) (by simp only[List.size_toArray] <;> bv_omega)
 ·obtain⟨its,r',pl,hz⟩:=I.tuple hq
  have hlen:=r'.length
  obtain⟨o,ho,hc,n,hd⟩:=pl
  exact call_list_seq p (.inr rfl) ho hc hd (fun h' c' kp e=>fin its r' hz h' c' kp e) (by simp only[List.size_toArray] <;> bv_omega)
theorem xE:CallR X (.type "tuple") (fun xs H Q=>∃p ys,xs=[.ref p]/\((SqL X.K H p ys/\∀l,H l=none->Q (.ref l) (upd H l (.tup ys)))\/(SqT X.K H p ys/\Q (.ref p) H))):=by
 intro pins s σ H xs us Q I r h
 obtain⟨p,ys,rfl,h⟩:=h
 obtain⟨u,rfl,rx⟩:=vals1 r
 cases rx
 rcases h with ⟨hq,q⟩ | ⟨hq,q⟩
 ·obtain⟨its,r',pl,hz⟩:=I.list hq
  have hlen:=r'.length
  refine call_tuple_list pl.isList (fun h' kp => ?_) (by simp only[List.size_toArray] <;> bv_omega)
  have I1:Inv X pins σ H { s with heap:=h' }:=I.kept (t':=s.toks) kp
  have I2:Inv X pins σ (upd H h'.objs.size (.tup ys)) { s with heap:=h'.push { cls:=.type "tuple",data:=.seq its.toArray } } :=
   I1.laid (t':=s.toks) (fun b o e=>Heap.get?_push_of_some _ e) (Nat.le_refl _) (show ObjOk X.prog X.w _ _ _ (.tup ys) from ⟨hz,its,r',TupAt.new _ _⟩)
  exact⟨.ref h'.objs.size,_,I2,rfl,q _ (I1.hok.fresh (Nat.le_refl _))⟩
 ·obtain⟨its,r',pl,hz⟩:=I.tuple hq
  exact call_tuple_same pl ⟨.ref p,H,I,rfl,q⟩
def tyV (K:KFr) (T:String) (x:V) (H:Hp):Prop:=match x with
 | .str _=>T="str"
 | .int _=>T="int"
 | .ref p=>(T="list"/\∃xs,SqL K H p xs)\/(T="tuple"/\((∃o,K.lookup p=some o/\o.cls=.type "tuple"/\o.dict=none)\/∃xs,Rd H p (.tup xs))) \/
   (T="dict"/\((∃kvs,H p=some (.dK kvs))\/∃kvs,H p=some (.dT kvs)))\/(T="set"/\∃S n,H p=some (.set S n))
 | _=>False
theorem xL1 {pins:List (Addr×Obj)}{σ:St}{H:Hp}{s:Shared}{T:String}{x:V}{v:Value}(I:Inv X pins σ H s) (r:RelV x v) (ty:tyV X.K T x H) :
  s.TypeIs v T/\∀a,v=.ref a->∃ob,s.heap.get? a=some ob/\ob.dict=none:=by
 cases x with
 | str z =>
  obtain⟨t,rfl⟩:=r
  cases (show T="str" from ty)
  exact⟨typeIs_str s z t,fun _ e=>nomatch e⟩
 | int i =>
  obtain⟨t,rfl⟩:=r
  cases (show T="int" from ty)
  exact⟨typeIs_int s i t,fun _ e=>nomatch e⟩
 | ref p =>
  cases r
  rcases ty with ⟨rfl,xs,hq⟩ | ⟨rfl,⟨o,hk,hc,hd⟩ | ⟨xs,hq⟩⟩ | ⟨rfl,hk⟩ | ⟨rfl,S,n,hk⟩
  ·obtain⟨its,_,pl,_⟩:=I.list hq
   refine⟨pl.isList.typeIs,fun a e => ?_⟩
   cases e
   obtain⟨o,n,e,c,hd,_⟩:=pl
   exact⟨o,e,hd⟩
  ·refine⟨⟨o,I.kIn p o hk,hc⟩,fun a e => ?_⟩
   cases e
   exact⟨o,I.kIn _ o hk,hd⟩
  ·obtain⟨_,its,_,o,e,c,_,hd⟩:=hq.ok I.hok
   refine⟨⟨o,e,c⟩,fun a e2 => ?_⟩
   cases e2
   exact⟨o,e,hd⟩
  ·have z:∃o,s.heap.get? p=some o/\o.ExactDict:=by
    rcases hk with ⟨kvs,hk⟩ | ⟨kvs,hk⟩
    ·obtain⟨_,_,_,_,o,_,_,e,ex,_⟩:=I.hok p _ hk
     exact⟨o,e,ex⟩
    ·obtain⟨_,_,_,_,o,_,_,e,ex,_⟩:=I.hok p _ hk
     exact⟨o,e,ex⟩
   obtain⟨o,e,ex⟩:=z
   refine⟨⟨o,e,ex.1⟩,fun a e2 => ?_⟩
   cases e2
   exact⟨o,e,ex.2.1⟩
  ·obtain⟨o,_,_,_,e,ex,_⟩:=I.hok p _ hk
   refine⟨⟨o,e,ex.1⟩,fun a e2 => ?_⟩
   cases e2
   exact⟨o,e,ex.2.1⟩
 | _=>exact False.elim ty
def tBM0 (K:KFr) (T:String) (r:V->List V->Hp->VK->Prop) (to:TE):TE:=fun σ H Q=>to σ H fun x H1=>tyV K T x H1/\r x [] H1 Q
def tBM (K:KFr) (T:String) (r:V->List V->Hp->VK->Prop) (to:TE) (t:TA):TE:=fun σ H Q=>to σ H fun x H1=>tyV K T x H1/\t σ H1 fun xs H2=>r x xs H2 Q
variable {o e:Expr}{es:List Expr}{to:TE}{t:TA}{name:Str}{apos cpos:Pos}{T id:String}{r:V->List V->Hp->VK->Prop}
theorem wM9 (pa:PlainAttrs T) (slot:Slot T name id) (hty:typeOf (.builtin id)=pure (.type "method_descriptor")) (hm:MtR X id r) (ho:PE X o to)
  (hbase:autoParam (attributeBase o name X.env (eval o X.env)=eval o X.env) zU._auto_1) (hline:autoParam ((apos.endLine == cpos.line)=true) zU._auto_1):PE X (.Call (.Attribute o name apos) [] [] cpos) (tBM0 X.K T r to):=by
 intro pins s σ H Q I h
 refine wpAny_Call_method0_late hbase hline (thn (ho pins s σ H _ I h) fun v s1 ⟨x,H1,I1,r1,ty,q1⟩ => ?_)
 obtain⟨h1,h2⟩:=xL1 I1 r1 ty
 exact⟨T,id,pa,slot,hty,h1,h2,Calls.callWith_builtin rfl (PySem.evalArgs_none (hm pins s1 σ H1 x [] v [] Q I1 r1 .nil q1))⟩
theorem zJ3 (pa:PlainAttrs T) (slot:Slot T name id) (hty:typeOf (.builtin id)=pure (.type "method_descriptor")) (hm:MtR X id r) (ho:PE X o to) (ha:PA X (e::es) t)
  (hbase:autoParam (attributeBase o name X.env (eval o X.env)=eval o X.env) zU._auto_1)
  (hfew:((backTo cpos (starEach (e::es) X.env)).all (fun x=>!x.1)&&(backToKw cpos (keywordEach [] X.env)).all (fun x=>x.1.isSome)
  &&decide ((e::es).length+([]:List Keyword).length+(if ([]:List Keyword).isEmpty then 0 else 1)<30))=true:=by rfl)
  (hline:autoParam ((apos.endLine == cpos.line)=true) zU._auto_1) (hs:autoParam (starEach (e::es) X.env=(false,eval e X.env)::starEach es X.env) zU._auto_1) (hplain:autoParam ((backTo cpos (starEach es X.env)).any (·.1)=false) zU._auto_1) :
  PE X (.Call (.Attribute o name apos) (e::es) [] cpos) (tBM X.K T r to t):=by
 intro pins s σ H Q I h
 refine wpAny_Call_method_late hbase hfew hline rfl (thn (ho pins s σ H _ I h) fun v s1 ⟨x,H1,I1,r1,ty,q1⟩ => ?_)
 obtain⟨h1,h2⟩:=xL1 I1 r1 ty
 refine⟨T,id,pa,slot,hty,h1,h2,?_⟩
 have hA:=ha cpos pins s1 σ H1 _ I1 q1
 rw[hs] at hA ⊢
 refine Calls.callWith_builtin (by show (false || (backTo cpos (starEach es X.env)).any (·.1))=false;rw[hplain] <;> rfl) (Calls.evalArgs_plain ?_)
 exact thn hA fun us s2 ⟨vs,H2,I2,r2,q2⟩=>hm pins s2 σ H2 x vs v us Q I2 r1 r2 q2
end
def MtM (X:Cx) (id:String) (r:V->List V->Hp->VK->Prop):Prop :=
 ∀(pins:List (Addr×Obj)) (s:Shared) (σ:St) (H:Hp) (x:V) (xs:List V) (v:Value) (us:List Value) (Q:VK),Inv X pins σ H s->RelV x v->Vals xs us->r x xs H Q ->
  wpAny (model X.prog X.w) X.A (call (.builtin id) (v::us)) (EP X pins σ Q) X.xe s
theorem Vals.one:∀{x:V}{us:List Value},Vals [x] us->∃u,us=[u]/\RelV x u
 | _,_,.cons r .nil=>⟨_,rfl,r⟩
theorem Vals.two:∀{x y:V}{us:List Value},Vals [x,y] us->∃u v,us=[u,v]/\RelV x u/\RelV y v
 | _,_,_,.cons r (.cons q .nil)=>⟨_,_,rfl,r,q⟩
theorem Vals.eraseIdx:∀{xs:List V}{us:List Value}(i:Nat),Vals xs us->Vals (xs.eraseIdx i) (us.eraseIdx i)
 | _,_,_,.nil=>.nil
 | _,_,0,.cons _ t=>t
 | _,_,i+1,.cons r t=>.cons r (Vals.eraseIdx i t)
theorem Vals.rep {xs:List V}{us:List Value}(h:Vals xs us):∀k:Nat,Vals (List.replicate k xs).flatten (List.replicate k us).flatten
 | 0=>.nil
 | k+1=>by
  rw[List.replicate_succ,List.replicate_succ,List.flatten_cons,List.flatten_cons]
  exact Vals.append h (Vals.rep h k)
theorem yS2 {α:Type}:∀(l:List α) (i:Nat),(l.eraseIdx i).length<=l.length
 | [],_=>Nat.le_refl _
 | _::_,0=>Nat.le_succ _
 | _::r,i+1=>Nat.succ_le_succ (yS2 r i)
theorem yT3 (its:List Value):∀(k:Nat) (acc:List Value),
  List.foldl (fun x1 x2=>x1++x2) acc.toArray (List.replicate k its.toArray)=(acc++(List.replicate k its).flatten).toArray
 | 0,acc=>by simp
 | k+1,acc=>by
  have e:acc.toArray++its.toArray=(acc++its).toArray:=by simp
  have e2:(acc++its)++(List.replicate k its).flatten=acc++(List.replicate (k+1) its).flatten:=by
   rw[List.replicate_succ,List.flatten_cons,List.append_assoc]
  rw[<-e2,<-yT3 its k (acc++its),<-e,List.replicate_succ,List.foldl_cons]
section
variable {X:Cx}{pins:List (Addr×Obj)}{σ:St}{H:Hp}{s:Shared}{l b:Addr}{xs ys zs:List V}
theorem Inv.lset {its its':List Value}{n:Nat}{f:Array Value->Array Value}{t':Nat}(I:Inv X pins σ H s) (hH:H l=some (.lst xs))
  (e:s.heap.get? l=some { cls:=.type "list",data:=.seq its.toArray n }) (hf:f its.toArray=its'.toArray) (hv:Vals ys its') (hz:ys.length<=sizeLine) :
  Inv X pins σ (upd H l (.lst ys)) { s with heap:=s.heap.update l (Obj.mapSeq f),toks:=t' }:=by
 have q:=PySem.IsL.update e f
 rw[hf] at q
 refine I.write (x:=l) (e:=l) (by rw[hH];exact trivial) (.inl rfl) (fun b' u hb hu=>(Heap.get?_update_other s.heap (Obj.mapSeq f) (Ne.symm hb)).trans hu) ⟨_,q⟩ ?_
 exact⟨hz,its',_,hv,q⟩
theorem Inv.lnew {its:List Value}{t':Nat}(I:Inv X pins σ H s) (hv:Vals ys its) (hz:ys.length<=sizeLine) :
  Inv X pins σ (upd H s.heap.objs.size (.lst ys)) { s with heap:=s.heap.push { cls:=.type "list",data:=.seq its.toArray },toks:=t' } :=
 I.laid (fun _ _ q=>Heap.get?_push_of_some _ q) (Nat.le_refl _) ⟨hz,its,0,hv,Heap.get?_push_size _ rfl⟩
theorem Inv.fresh (I:Inv X pins σ H s):H s.heap.objs.size=none:=I.hok.fresh (Nat.le_refl _)
theorem Inv.lstM (I:Inv X pins σ H s) (hH:H l=some (.lst xs)):xs.length<=sizeLine/\∃(its:List Value) (n:Nat),Vals xs its/\xs.length=its.length/\s.heap.get? l=some { cls:=.type "list",data:=.seq its.toArray n }:=by
 obtain⟨z,its,n,r,e⟩:=I.hok l _ hH
 exact⟨z,its,n,r,r.length,e⟩
theorem notLongL {n:Nat}(h:n<=sizeLine):Builtin.List.listTooLong n=false:=by
 unfold Builtin.List.listTooLong
 exact decide_eq_false (by bv_omega)
end
section
variable {X:Cx}
def rAppend:V->List V->Hp->VK->Prop:=fun x vs H Q=>∃l xs y,x=.ref l/\vs=[y]/\H l=some (.lst xs)/\xs.length<sizeLine/\Q .non (upd H l (.lst (xs ++ [y])))
theorem uJ:MtM X "list.append" rAppend:=by
 intro pins s σ H x vs v us Q I rx rv h
 obtain⟨l,xs,y,rfl,rfl,hH,hz,q⟩:=h
 cases rx
 obtain⟨u,rfl,ru⟩:=rv.one
 obtain⟨z,its,n,r,hl,e⟩:=I.lstM hH
 refine call_meets F.slot_list_append ⟨_,e,rfl⟩ F.entry_list_append (F.args_list_append_2 _ _) (PySem.list_append l its.toArray n u (by rw[List.size_toArray];bv_omega)) ⟨e,?_⟩
 refine⟨.non,_,I.lset (its':=its ++ [u]) hH e (by simp) (r.append (.cons ru .nil)) ?_,rfl,q⟩
 rw[List.length_append,List.length_singleton]
 bv_omega
def rPopAt:V->List V->Hp->VK->Prop:=fun x vs H Q=>∃l xs i k y,x=.ref l/\vs=[.int i]/\H l=some (.lst xs)/\-(2 ^ 63)<=i/\i<2 ^ 63/\seqIndex? i xs.length=some k/\xs[k]?=some y/\Q y (upd H l (.lst (xs.eraseIdx k)))
theorem xI7:MtM X "list.pop" rPopAt:=by
 intro pins s σ H x vs v us Q I rx rv h
 obtain⟨l,xs,i,k,y,rfl,rfl,hH,h1,h2,hk,hy,q⟩:=h
 cases rx
 obtain⟨u,rfl,ru⟩:=rv.one
 obtain⟨t,rfl⟩:=ru
 obtain⟨z,its,n,r,hl,e⟩:=I.lstM hH
 obtain⟨w,hw,rw'⟩:=r.get hy
 refine call_meets F.slot_list_pop ⟨_,e,rfl⟩ F.entry_list_pop (F.args_list_pop_2 _ _)
  (MeetsSeq.list_pop_at l its.toArray n i t k w (fitsIndex_both h1 h2) (by rw[List.size_toArray,<-hl];exact hk) (by rw[<-Array.getElem?_toList];exact hw) (by rw[List.size_toArray];bv_omega)) ⟨e,?_⟩
 refine⟨y,_,I.lset (its':=its.eraseIdx k) hH e ?_ (r.eraseIdx k) ?_,rw',q⟩
 ·show its.toArray.eraseIdxIfInBounds k=(its.eraseIdx k).toArray
  rw[List.eraseIdxIfInBounds_toArray]
 ·have:=yS2 xs k
  bv_omega
theorem wV8 {α:Type}(xs:List α) (k:Nat):(List.replicate k xs).flatten.length=k*xs.length:=by
 induction k with
 | zero=>simp
 | succ k ih=>rw[List.replicate_succ,List.flatten_cons,List.length_append,ih,Nat.succ_mul,Nat.add_comm]
end
section
variable {prog:Program}{w:World}{A:Around}{E:Value->Shared->Prop}{s:Shared}
end
section
variable {X:Cx}
end
end L2
namespace Att
open PySem PySem.W PySem.Calls PyProof.Rows
theorem zD3 {P:Params}{h:Heap}:∀(ns:List Int) (vs:List Value),WellAll P h vs (ns.map WData.int)->IntsAre vs ns:=by
 intro ns
 induction ns with
 | nil =>
  intro vs w
  rw[List.map_nil] at w
  cases w
  exact .nil
 | cons n ns ih =>
  intro vs w
  rw[List.map_cons] at w
  cases w with
  | cons a b =>
   cases a
   exact .cons _ _ (ih _ b)
theorem xN3 {l:OpenLaw}{n:Nat}(hn:l.most=some n){P:Params}{h:Heap}{args:List WData}{vals:List Value}
  (hpre:l.row.toRowW.claim.pre args=true) (hwl:WellAll P h vals args) :
  ∃a vs ns,vals=[Value.ref a]/\args=[WData.list (ns.map WData.int)]/\h.get? a=some { cls:=.type "list",data:=.seq vs.toArray }/\IntsAre vs ns/\ns.length<=n:=by
 have hsh:WShape.hasAll [] args [.list .int]=true:=(pre_splitW hpre).1
 have hc:l.pre.holds [] { args:=args }=true:=(pre_splitW hpre).2
 obtain⟨d,r,rfl,h1,h2⟩:=hasAllW_cons hsh
 obtain rfl:=hasAllW_nil h2
 obtain⟨xs,rfl,h3⟩:=hasW_list h1
 obtain⟨ns,rfl⟩:=items_int h3
 have hlen:ns.length<=n:=by
  unfold OpenLaw.pre at hc
  have h4:(WTm.not (.lt (.lit (.int (n:Int))) (.len (.arg 0)))).holds [] { args:=[.list (ns.map .int)] }=true:=by
   have h4:=(holds_andW hc).1
   rw[hn] at h4
   exact h4
  have h5:=condW_of h4 (w_not (w_lt w_lit (w_len_list (w_arg rfl))))
  rw[List.length_map] at h5
  refine Nat.le_of_not_lt fun q => ?_
  have q':(n:Int)<((ns.length:Nat):Int):=by bv_omega
  first
   | (rw[decide_eq_true q'] at h5;exact absurd h5 (by decide))
   | (simp at h5;bv_omega)
 cases hwl with
 | cons w1 w2 =>
  cases w2
  cases w1 with
  | list ho hall=>exact⟨_,_,ns,rfl,rfl,ho,zD3 ns _ hall,hlen⟩
theorem xM5 (l:OpenLaw) (args:List WData):l.row.toRowW.claim.post args (.bool true) args=true :=
 postW_of (r:=l.row.toRowW) (X:=(true == true))
  (show WShape.has [] (.bool true) .bool=true by first | rfl | decide | simp[WShape.has,WShape.arms,WShape.armsAll])
  (show (WTm.eq .res (.lit (.bool true))).value [] { args:=args,res:=some (.bool true),after:=args }=some (.bool (true == true)) from w_eq_bool (w_res rfl) w_lit) rfl
theorem yC3 {l:OpenLaw}{n:Nat}{q:Program}{loose:List Str}{XP:(Str->Option Value)->Heap->Prop}{YP:World->Heap->Prop}{d:DefRec}
  (hn:l.most=some n) (hdf:d.params.defaults=[])
  (call:∀(w:World) (s₀ s₁:Shared) (mg mb:Str->Option Value) (fa:Addr) (o:Obj) (pm cd doc:Value) (a:Addr) (vs:List Value) (ns:List Int),
   Ground q loose [] XP w s₀ mg mb s₁.heap->YP w s₁.heap ->
   s₁.heap.get? fa=some o->o.data=.func (docDef d.name d.params d.body d.scope pm cd doc)->s₁.heap.CodeRec cd d.name->mg d.name=some (.ref fa) ->
   s₁.heap.get? a=some { cls:=.type "list",data:=.seq vs.toArray }->IntsAre vs ns->ns.length<=n->s₁.gens=#[] ->
   codeAny (model l.prog w) callerA (.call (.ref fa) ⟨[.ref a],[]⟩) (fun r s'=>r=.ok (.ret (.bool true))/\OldK s₁.heap s'.heap/\s'.os=s₁.os/\AllBare s'.gens) s₁) :
  WalkO q loose XP YP l.row.toRowW d [] (fun f vs=>PySem.call f vs):=by
 intro w s₀ s₁ mg mb G Y fa o pm cd doc dV kV ho hd hcd hD hmg hg args vals as hpre hlay hrd hwl hlo
 obtain rfl:dV=.none:=Dflts.none hD hdf
 obtain rfl:kV=.none:=Dflts.noKw hD
 obtain⟨a,vs,ns,rfl,rfl,hobj,hints,hlen⟩:=xN3 hn hpre hwl
 refine enter_call (codeAny_mono (call w s₀ s₁ mg mb fa o pm cd doc a vs ns G Y ho (fd_plain hd) hcd hmg hobj hints hlen hg) fun r s' hq => ?_)
 obtain⟨rfl,h2,h3,h4⟩:=hq
 exact⟨.inl ⟨.bool true,.bool true,[],rfl,fun _=>rfl,.bool true,xM5 l _,fun _=>⟨List.Pairwise.nil,fun _ hm=>(nomatch hm)⟩⟩,h2,h3,h4⟩
section
variable {prog:Program}{w:World}{A:Around}{E:Value->Shared->Prop}{s:Shared}{K:Frag}
end
end Att
namespace L2
open PySem PySem.Spec PyProof.Rows
theorem zP1:∀{vs:List Value}{ns:List Int},IntsAre vs ns->Vals (ns.map V.int) vs
 | _,_,.nil=>.nil
 | _,_,.cons n t h=>.cons ⟨t,rfl⟩ (zP1 h)
def Only (H:Hp):Prop:=∀b,H b=none\/∃o xs,H b=some (.frz o (.lst xs))
theorem xC1 {P:Program}{w:World}{K:KFr}{mg mb:Str->Option Value}{CX:CXT}{k:Nat}{fa a:Addr}{fd:FuncData}{x:Str}{sp:Sp}{s₁:Shared}{vs:List Value}{ns:List Int}
  (KX:K.In s₁.heap) (hns:s₁.heap.Ns mainGlobals mg) (hb:s₁.heap.Ns builtinsNs mb) (hbb:∀x:Str,x ≠ "__name__"->mb x=bootBuiltins x) (hlim:s₁.heap.NoLimit) (hg:s₁.gens=#[])
  (ha:s₁.heap.get? a=some { cls:=.type "list",data:=.seq vs.toArray }) (hi:IntsAre vs ns) (hl:ns.length<=sizeLine) (hr:Room k callerA)
  (F:∀base:Heap,K.In base->base.Ns mainGlobals mg->FnOk P w K mg base CX k fa fd [x] sp) (hbind:∀(s:Shared) (u:Value),BindsTo s fd ⟨[u],[]⟩ [(x,u)])
  (hsp:∀H:Hp,Only H->SqL K H a (ns.map V.int)->sp [.ref a] H (fun v _=>v=.bl true) fun _ _ _=>False)
  (hCX:∀H e s',CX [] H s₁ (fun _ _ _=>False) e s'->False) :
  codeAny (model P w) callerA (.call (.ref fa) ⟨[.ref a],[]⟩) (fun r s'=>r=.ok (.ret (.bool true))/\OldK s₁.heap s'.heap/\s'.os=s₁.os/\AllBare s'.gens) s₁:=by
 have rv:=zP1 hi
 have lenV:=hi.length
 have core:∀H:Hp,Only H->SqL K H a (ns.map V.int)->HOk P w H s₁.heap->(∀b,H b≠none->b=a)->(H a≠none->K.lookup a=none) ->
   codeAny (model P w) callerA (.call (.ref fa) ⟨[.ref a],[]⟩) (fun r s'=>r=.ok (.ret (.bool true))/\OldK s₁.heap s'.heap/\s'.os=s₁.os/\AllBare s'.gens) s₁:=by
  intro H hO hS hok hA hK
  have base_of:∀{b:Addr}{o:Obj},s₁.heap.get? b=some o->H b=none->(hidT s₁.heap H).get? b=some o:=fun e n=>xC6 e n
  have noA:∀{b:Addr}{o:Obj}{es:Array DictEntry}{ep:Nat},s₁.heap.get? b=some o->o.data=.dict es ep->H b=none:=fun {b o es ep} e d=>by
   cases q:H b with
   | none=>rfl
   | some u =>
    have e':b=a:=hA b (by rw[q];simp)
    subst e'
    rw[ha] at e;cases e
    have d':Data.seq vs.toArray _=Data.dict es ep:=d
    cases d'
  have nsK:∀{b:Addr}{m:Str->Option Value},s₁.heap.Ns b m->(hidT s₁.heap H).Ns b m:=fun {b m} ⟨o,es,ep,e,d,r⟩=>⟨o,es,ep,base_of e (noA e d),d,r⟩
  have hKb:K.In (hidT s₁.heap H):=fun b o e=>base_of (KX b o e) (by
   cases q:H b with
   | none=>rfl
   | some u =>
    have e':b=a:=hA b (by rw[q];simp)
    subst e'
    rw[hK (by rw[q];simp)] at e;cases e)
  have hM:Mod K mg (hidT s₁.heap H):=⟨hKb,nsK hns,⟨mb,nsK hb,hbb⟩,let ⟨mc,h1,h2⟩:=hlim; ⟨mc,nsK h1,h2⟩⟩
  have e0:Env0 P w K mg (hidT s₁.heap H) callerA [] s₁ H:=⟨rfl,hM,fun b o e=>wW6 e,Nat.le_of_eq (xQ6 _ _),trivial,fun b hb=>absurd (show b∈([]:List Addr) from hb) (by simp),hok,.of_eq hg⟩
  refine codeAny_mono ((F _ hKb (nsK hns)).run callerA [] s₁ H ⟨[.ref a],[]⟩ [.ref a] [.ref a] _ _ hr e0 (hbind s₁ (.ref a)) (.cons rfl .nil) (hsp H hO hS)) fun r s' h => ?_
  cases r with
  | error e=>exact (hCX H e s' h).elim
  | ok fl =>
   cases fl with
   | next=>exact False.elim h
   | brk=>exact False.elim h
   | cont=>exact False.elim h
   | ret u =>
    obtain⟨v,H',os,bare,un,hok',r',q⟩:=h
    have q':v=.bl true:=q
    subst q'
    obtain rfl:u=Value.bool true:=r'
    refine⟨rfl,OldK.of_keep fun b o e => ?_,os,bare⟩
    cases q:H b with
    | none=>exact un.keep b o e q (by intro z;exact absurd (show b∈([]:List Addr) from z) (by simp)) (by simp)
    | some u =>
     rcases hO b with z | ⟨ob,xs,z⟩
     ·rw[q] at z;cases z
     ·have z2:=un.frzs b ob _ z
      obtain⟨e1,_⟩:=hok b _ z
      obtain⟨e2,_⟩:=hok' b _ z2
      rw[e] at e1;cases e1
      exact e2
 cases hk:K.lookup a with
 | some o =>
  have e:=KX a o hk
  rw[ha] at e
  cases e
  refine core (fun _=>none) (fun _=>.inl rfl) (.inr ⟨_,vs.toArray,_,hk,rfl,rfl,rfl,by rw[List.size_toArray,lenV];exact hl,by simpa using rv⟩) (fun b u z=>by have z':(none:Option HO)=some u:=z;cases z') (fun b z=>absurd rfl z) fun z=>absurd rfl z
 | none =>
  refine core (fun b=>if b=a then some (.frz { cls:=.type "list",data:=.seq vs.toArray } (.lst (ns.map V.int))) else none) (fun b => ?_) (.inl (.inr ⟨{ cls:=.type "list",data:=.seq vs.toArray },if_pos rfl⟩)) (fun b u z => ?_) (fun b z => ?_) fun _=>hk
  ·by_cases hb:b=a
   ·exact .inr ⟨_,_,if_pos hb⟩
   ·exact .inl (if_neg hb)
  ·by_cases hb:b=a
   ·have z':=(if_pos hb).symm.trans z
    cases z'
    subst hb
    exact⟨ha,by rw[List.length_map];exact hl,vs,_,rv,ha⟩
   ·have z':=(if_neg hb).symm.trans z
    cases z'
  ·by_cases hb:b=a
   ·exact hb
   ·exact absurd (if_neg hb) z
abbrev KOf {K:KFr}{h:Heap}(_:K.In h):KFr:=K
theorem wZ7 {l:PySem.W.OpenLaw}{n k:Nat}{q:Program}{loose:List Str}{XP:(Str->Option Value)->Heap->Prop}{YP:World->Heap->Prop}{d:DefRec}{K:Params->KFr}{CX:World->CXT}{sp:World->Sp}{x:Str}
  (hn:l.most=some n) (hn2:n<=sizeLine) (hdf:d.params.defaults=[]) (hr:Room k callerA)
  (hY:∀(w:World) (h:Heap),YP w h->(K w.params).In h)
  (F:∀(w:World) (mg:Str->Option Value) (fa:Addr) (h:Heap),(K w.params).In h->h.Ns mainGlobals mg->mg d.name=some (.ref fa) ->
   ∃fd:FuncData,(∀(s:Shared) (u:Value),BindsTo s fd ⟨[u],[]⟩ [(x,u)]) /\
    ∀base:Heap,(K w.params).In base->base.Ns mainGlobals mg->FnOk l.prog w (K w.params) mg base (CX w) k fa fd [x] (sp w))
  (hsp:∀(w:World) (H:Hp) (a:Addr) (ns:List Int),ns.length<=n->Only H->SqL (K w.params) H a (ns.map V.int)->sp w [.ref a] H (fun v _=>v=.bl true) fun _ _ _=>False)
  (hCX:∀(w:World) (H:Hp) (s:Shared) (e:Value) (s':Shared),CX w [] H s (fun _ _ _=>False) e s'->False) :
  PySem.W.WalkO q loose XP YP l.row.toRowW d [] (fun f vs=>PySem.call f vs):=by
 refine Att.yC3 hn hdf fun w s₀ s₁ mg mb fa o pm cd doc a vs ns G Y ho hd hcd hmg hobj hints hlen hg => ?_
 have KX:=hY w _ Y
 obtain⟨fd,hb,hF⟩:=F w mg fa _ KX G.T.g hmg
 exact xC1 KX G.T.g G.T.b G.T.builtins G.T.nolimit hg hobj hints (Nat.le_trans hlen hn2) hr hF hb (fun H hO hS=>hsp w H a ns hlen hO hS) fun H e s'=>hCX w H s₁ e s'
def defArgs (s:Stmt):Arguments:=match s with
 | .FunctionDef _ a _ _ _ _ _ _ _ _=>a
 | _=>{ posonlyargs:=[],args:=[],vararg:=none,kwonlyargs:=[],kw_defaults:=[],kwarg:=none,defaults:=[] }
def defBody (s:Stmt):List Stmt:=match s with
 | .FunctionDef _ _ b _ _ _ _ _ _ _=>b
 | _=>[]
def zN (s:Stmt):Scope:=match s with
 | .FunctionDef _ _ _ _ _ _ sc _ _ _=>sc
 | _=>{ kind:=.function,names:=[],isGenerator:=false,isCoroutine:=false }
structure Fun (K:KFr) (x qual:Str) (st:Stmt) (f:Addr) (fd:FuncData):Prop where
 ex:∃(oc:Value) (od:Option Addr) (kV doc pm:Value) (an:Option Addr) (cdv ct:Value) (osl:Array (Option Value)),
  fd=PySem.W.fnOf x qual (defArgs st) (defBody st) (zN st) .none kV doc pm an cdv ct/\K.lookup f=some ⟨oc,od,.func fd,osl⟩/\PySem.W.codeIn K cdv qual=true
 kp:PySem.W.keepIn K (.ref f)=true
section
variable {P:Program}{w:World}{K:KFr}{mg:Str->Option Value}{base:Heap}
theorem Fun.binds {x qual:Str}{st:Stmt}{f:Addr}{fd:FuncData}{ps:List Str}(F:Fun K x qual st f fd)
  (h:∀(kV doc pm:Value) (an:Option Addr) (cdv ct:Value) (us:List Value),us.length=ps.length->bindArgs (PySem.W.fnOf x qual (defArgs st) (defBody st) (zN st) .none kV doc pm an cdv ct) ⟨us,[]⟩=pure (ps.zip us)):Binds K fd ps []:=by
 obtain⟨oc,od,kV,doc,pm,an,cdv,ct,osl,rfl,lk,hcd⟩:=F.ex
 exact .all (h kV doc pm an cdv ct)
theorem wM6 {x qual:Str}{st:Stmt}{f:Addr}{oc:Value}{od an:Option Addr}{osl:Array (Option Value)}{kV doc pm cdv ct:Value}(l:K.lookup f=some ⟨oc,od,.func (PySem.W.fnOf x qual (defArgs st) (defBody st) (zN st) .none kV doc pm an cdv ct),osl⟩)
  (c:PySem.W.codeIn K cdv qual=true) (k:PySem.W.keepIn K (.ref f)=true):Fun K x qual st f (PySem.W.fnOf x qual (defArgs st) (defBody st) (zN st) .none kV doc pm an cdv ct):=⟨⟨oc,od,kV,doc,pm,an,cdv,ct,osl,rfl,l,c⟩,k⟩
end
theorem small1000 {n:Nat}(h:n<=1000):n<sizeLine:=Nat.lt_of_le_of_lt h (by decide)
section
variable {X:Cx}
theorem pv (i:Nat){x:Str}{pos:Pos}(hN:autoParam (X.N[i]?=some x) zU._auto_1) (hv:autoParam (Vis X.env.scope x) jU._auto_1) (hd:autoParam ((x == ("__debug__":Str))=false) yX._auto_1)
  (hcd:autoParam ((x == ("__classdict__":Str))=false) yX._auto_1):PE X (.Name x pos) (tVar i):=jX hN hv hd hcd
end
theorem iteF {A B:Prop}(h:B):if false=true then A else B:=by
 rw[if_neg Bool.false_ne_true]
 exact h
theorem iteT {A B:Prop}(h:A):if true=true then A else B:=by
 rw[if_pos rfl]
 exact h
def Same (H H':Hp):Prop:=∀b o,H b=some o->H' b=some o
theorem Same.refl (H:Hp):Same H H:=fun _ _ h=>h
theorem Same.trans {H H1 H2:Hp}(a:Same H H1) (b:Same H1 H2):Same H H2:=fun c o h=>b c o (a c o h)
theorem Same.free {H H':Hp}(e:Same H H'){l:Addr}(h:H' l=Option.none):H l=Option.none:=by
 cases q:H l with
 | none=>rfl
 | some o =>
  rw[e l o q] at h
  cases h
end L2
set_option maxHeartbeats 2000000
namespace PySem
section
variable {prog:Program}{w:World}{A:Around}{E:Value->Shared->Prop}{s:Shared}
theorem xU4 {x:Value}{Q:List Value->Shared->Prop}
  (k:codeAny (model prog w) A (.builtin "list.__iadd__" ⟨[.ref s.heap.objs.size,x],[]⟩) (wants (fun v s'=>v=.ref s.heap.objs.size/\∃acc n,s'.heap.get? s.heap.objs.size=some { cls:=.type "list",data:=.seq acc n }/\Q acc.toList s') E) { s with heap:=s.heap.push { cls:=.type "list",data:=.seq #[] } }) :
  wpAny (model prog w) A (collect x) Q E s:=by
 wp_walk
 have h1:=F.entry_proto_collect
 have h2:=F.plain_proto_collect
 have h3:=F.plain_list_iadd
 refine codeAny_builtin h1 ?_
 rw[Around.under_plainId h2]
 wp_walk
 refine⟨plainId_quiet h3 _,codeAny_mono k fun r s' hr => ?_⟩
 cases r with
 | error e=>exact hr
 | ok f =>
  cases f with
  | ret v =>
   obtain⟨rfl,acc,n,g,q⟩:=hr
   exact wpAny_bind (wpAny_load g (wpAny_pure q))
  | _=>exact hr.elim
theorem yD6 {x:Value}{S:Spec}{Q:List Value->Shared->Prop}(m:MeetsIn prog w (Builtin.List.listExtendWith (.ref s.heap.objs.size) x (.ref s.heap.objs.size)) S)
  (k:S A (wants (fun v s'=>v=.ref s.heap.objs.size/\∃acc n,s'.heap.get? s.heap.objs.size=some { cls:=.type "list",data:=.seq acc n }/\Q acc.toList s') E) { s with heap:=s.heap.push { cls:=.type "list",data:=.seq #[] } }) :
  wpAny (model prog w) A (collect x) Q E s:=by
 have z:=F.plain_list_iadd
 have y:=m A _ _ k
 refine xU4 (codeAny_builtin F.entry_list_iadd ?_)
 rw[Around.under_plainId z]
 exact y
theorem xG2 {r:Addr}{T:String}{Q:Value->Shared->Prop}(ne:(Value.type T == .type "tuple")=false) (ty:s.TypeIs (.ref r) T)
  (k:wpAny (model prog w) A.in1.in1 (collect (.ref r)) (fun vs s'=>vs.length<=sizeLine/\Q (.ref s'.heap.objs.size) { s' with heap:=s'.heap.push { cls:=.type "tuple",data:=.seq vs.toArray } }) E s) :
  wpAny (model prog w) A (call (.type "tuple") [.ref r]) Q E s:=by
 refine callType_newIn F.called_tuple (by decide) (F.typeCall_tuple_1 _) (F.newCall_tuple_1 _) (fun o=>F.args_object_init_2 o _) F.entry_tuple_new
  (S:=fun B R t=>t=s/\B=A.in1/\R=wants (fun obj s₁=>s₁.TypeIs obj "tuple"/\Q obj s₁) E) (.of_wp fun B R t h => ?_) ⟨rfl,rfl,rfl⟩
 obtain⟨rfl,rfl,rfl⟩:=h
 have a1:=sub_tuple_self
 have a2:=init_tuple_lookup
 have a3:=madeHere_tuple
 have a4:∀(P:Bool->Shared->Prop) (E':Value->Shared->Prop),P false t->wpAny (model prog w) A.in1.in1 (Builtin.Tuple.tupleIsExact (.ref r)) P E' t:=fun P E' p=>by
  wp_walk using wpAny_typeOf ty
  first | exact p | (simp only[ne];exact p)
 have a5:∀P:List Value->Shared->Prop,(∀vs s',vs.length<=sizeLine/\Q (.ref s'.heap.objs.size) { s' with heap:=s'.heap.push { cls:=.type "tuple",data:=.seq vs.toArray } }->P vs s')->wpAny (model prog w) A.in1.in1 (collect (.ref r)) P E t:=fun P p=>wpAny_mono k p fun _ _ z=>z
 wp_walk using wpAny_typeOf ty,a4,a5
 intro vs s' ⟨hz,q⟩
 unfold Builtin.Tuple.tupleExact
 wp_walk
 exact⟨_,rfl,⟨_,Heap.get?_push_size _ rfl,rfl⟩,q⟩
theorem xM6 {Q:Value->Shared->Prop}{r:Addr}{a b c:Int}{t u v:Tok}{n:Nat}(hh:A.handled=none) (hr:IsRange s.heap r a b c t u v) (sm:Builtin.Range.small a b c=true) (hn:Builtin.Range.rangeSize a b c=n) (hz:n<=1000000)
  (q:∀(h':Heap) tk vs,(∀b o,s.heap.get? b=some o->h'.get? b=some o)->ItemsOf (fun i v=>∃t,v=.int (a+i*c) t) vs n->Q (.ref h'.objs.size) { s with heap:=h'.push { cls:=.type "tuple",data:=.seq vs },toks:=tk }) :
  wpAny (model prog w) A (call (.type "tuple") [.ref r]) Q E s:=by
 have big:(2:Nat) ^ 24<=sizeLine:=by decide
 refine xG2 (T:="range") (by decide) ⟨_,hr,rfl⟩ (yD6 (S:=fun B R x=>B=A.in1.in1/\x={ s with heap:=s.heap.push { cls:=.type "list",data:=.seq #[] } } /\
  ∀h' tk vs e,(∀b o,b≠s.heap.objs.size->x.heap.get? b=some o->h'.get? b=some o)->h'.get? s.heap.objs.size=some { cls:=.type "list",data:=.seq vs e }->ItemsOf (fun i v=>∃t,v=.int (a+i*c) t) vs n->R (.ok (.ret (.ref s.heap.objs.size))) { x with heap:=h',toks:=tk }) (fun B R x y => ?_) ⟨rfl,rfl,fun h' tk vs e keep at_ its=>⟨rfl,vs,e,at_,?_,?_⟩⟩)
 ·obtain⟨rfl,rfl,y⟩:=y
  exact wpAny_extend_range (A:=A.in1.in1) hh (Heap.get?_push_of_some _ hr) sm hn (by bv_omega) _ _ _ (Heap.get?_push_size _ rfl) y
 ·have:=its.1
  rw[Array.length_toList];bv_omega
 ·rw[Array.toArray_toList]
  exact q h' tk vs (fun b o g=>keep b o (Nat.ne_of_lt (Heap.lt_size g)) (Heap.get?_push_of_some _ g)) its
theorem yJ2 {l:Addr}{its:Array Value}{P:Value->Shared->Prop}(hh:A.handled=none) (hl:s.heap.IsTuple l its)
  (k:∀(I:Addr) (hp:Heap) (St:Nat->Heap->Prop),Walks prog w A I [I,l] [I] its.size (fun i v=>its[i]?=some v) St->St 0 hp->I<hp.objs.size->l<hp.objs.size->(∀b o,s.heap.get? b=some o->b≠I/\hp.get? b=some o)->P (.ref I) { s with heap:=hp }) :
  wpAny (model prog w) A (pyIter (.ref l)) P E s:=by
 have on:∀{b:Addr}{o:Obj},s.heap.get? b=some o->b<s.heap.objs.size:=fun g=>Heap.lt_size g
 have ll:l<s.heap.objs.size:=let ⟨_,g,_⟩:=hl;on g
 refine wpAny_pyIter_tuple hl (k _ _ _ (Walks.tuple hh _ l (Nat.ne_of_lt ll) its) ⟨⟨_,Heap.get?_push_size _ rfl,rfl,rfl⟩,hl.at fun _ g=>Heap.get?_push_of_some _ g⟩ ?_ ?_ fun b o g=>⟨Nat.ne_of_lt (on g),Heap.get?_push_of_some _ g⟩)
 ·exact Nat.lt_of_lt_of_eq (Nat.lt_succ_self _) (Heap.size_push ..).symm
 ·exact Nat.lt_of_lt_of_eq (Nat.lt_succ_of_lt ll) (Heap.size_push ..).symm
theorem wZ9 {l b:Addr}{xs ys:Array Value}{n m:Nat}{o:Obj}(hc:o.cls=.type "tuple") (hd:o.data=.seq ys m) (fit:xs.size+ys.size<=sizeLine) :
  Meets (Builtin.«list.extend» ⟨[.ref l,.ref b],[]⟩) (fun _ R x=>x.heap.get? l=some { cls:=.type "list",data:=.seq xs n }/\x.heap.get? b=some o/\R (.ok (.ret .none)) { x with heap:=x.heap.update l (Obj.mapSeq (·++ys)) }) :=
 .of_wp fun prog w A R x ⟨hl,hb,k⟩=>by
  have t:x.TypeIs (.ref b) "tuple":=⟨o,hb,hc⟩
  have e1:Builtin.List.listTooLong (xs.size+ys.size)=false:=by
   unfold Builtin.List.listTooLong
   simpa using fit
  have e2:(xs++ys).size<=sizeLine+1:=by rw[Array.size_append];bv_omega
  have e3:xs.size<=sizeLine:=by bv_omega
  wp_walk using wpAny_typeOf t,wpAny_seqItems hl rfl,wpAny_seqItems hb hd,wpAny_updateSeq hl rfl
  exact⟨_,rfl,k⟩
theorem yE7 {it:Addr}{P:Value->Shared->Prop}(ty:s.TypeIs (.ref it) "tuple_iterator")
  (k:wpAny (model prog w) A.in1 (Builtin.«tuple_iterator.__next__» ⟨[.ref it],[]⟩) (fun f x=>∃v,f=.done (.ret v)/\P v x) E s):wpAny (model prog w) A (Builtin.SmallTypes.nextOf (.ref it)) P E s:=by
 have sl:=F.slot_tuple_iterator_next
 have en:=F.entry_tuple_iterator_next
 have ok:=F.args_tuple_iterator_next_1 (.ref it)
 have c:wpAny (model prog w) A (call (.builtin "tuple_iterator.__next__") [.ref it]) P E s:=wpAny_call_entry sl ty en k ok
 unfold Builtin.SmallTypes.nextOf
 exact wpAny_bind (wpAny_callSpecial?_slot ty sl (wpAny_mono c (fun v x z=>wpAny_pure z) fun _ _ z=>z))
section
variable {it t:Addr}{i:Nat}{its:Array Value}
theorem xH7 {v:Value}{P:Value->Shared->Prop}(hI:s.heap.IsTupleIter it t i) (hT:s.heap.IsTuple t its) (at_:its[i]?=some v)
  (k:∀h',h'.IsTupleIter it t (i+1)->Heap.SameBut it s.heap h'->P v { s with heap:=h' }):wpAny (model prog w) A (Builtin.SmallTypes.nextOf (.ref it)) P E s:=by
 refine yE7 hI.typeIs ?_
 obtain⟨o,a1,a2,a3⟩:=hI
 obtain⟨ot,b1,b2,n,b3⟩:=hT
 have f0:∀(P:Value->Shared->Prop) (E':Value->Shared->Prop),P (.ref t) s->wpAny (model prog w) A.in1 (field (.ref it) 0) P E' s:=fun P E' p=>wpAny_field a1 a3 rfl p
 have f1:∀(P:Value->Shared->Prop) (E':Value->Shared->Prop),P (.int i 0) s->wpAny (model prog w) A.in1 (field (.ref it) 1) P E' s:=fun P E' p=>wpAny_field a1 a3 rfl p
 have at':its[(i:Int).toNat]?=some v:=at_
 wp_walk using f0,f1,wpAny_seqItems b1 b3,wpAny_setField a1 a3
 rw[at']
 refine wpAny_bind (wpAny_setField a1 a3 (by simp) (wpAny_pure ⟨v,rfl,k _ ⟨_,Heap.get?_update_self _ a1 ?_,?_,?_⟩ (Heap.SameBut.update ..)⟩))
 ·exact Obj.isFreed_of_fields (Obj.data_mapFields a3 _)
 ·rw[Obj.cls_mapFields,a2]
 ·rw[Obj.data_mapFields a3];rfl
theorem yA6 {P:Value->Shared->Prop}(hA:A.handled=none) (hI:s.heap.IsTupleIter it t i) (hT:s.heap.IsTuple t its) (at_:its[i]?=none)
  (k:∀h' e,Heap.ExtBut it s.heap h'->(∃o,h'.get? e=some o/\o.cls=.type "StopIteration")->E (.ref e) { s with heap:=h' }):wpAny (model prog w) A (Builtin.SmallTypes.nextOf (.ref it)) P E s:=by
 refine yE7 hI.typeIs ?_
 obtain⟨o,a1,a2,a3⟩:=hI
 obtain⟨ot,b1,b2,n,b3⟩:=hT
 have f0:∀(P:Value->Shared->Prop) (E':Value->Shared->Prop),P (.ref t) s->wpAny (model prog w) A.in1 (field (.ref it) 0) P E' s:=fun P E' p=>wpAny_field a1 a3 rfl p
 have f1:∀(P:Value->Shared->Prop) (E':Value->Shared->Prop),P (.int i 0) s->wpAny (model prog w) A.in1 (field (.ref it) 1) P E' s:=fun P E' p=>wpAny_field a1 a3 rfl p
 have at':its[(i:Int).toNat]?=none:=at_
 have hA':A.in1.handled=none:=hA
 wp_walk using f0,f1,wpAny_seqItems b1 b3,wpAny_setField a1 a3,wpAny_raiseNew_none hA'
 rw[at']
 refine wpAny_bind (wpAny_rule (wpAny_bind (wpAny_setField a1 a3 (by simp) ?_)))
 unfold Builtin.SmallTypes.stopIteration
 wp_walk using wpAny_raiseNew_none hA'
 exact k _ _ (((Heap.SameBut.update ..).extBut.push _).push _) ⟨_,Heap.get?_push_size _ rfl,rfl⟩
end
theorem yU9 {M:Model}{scope:Scope}{g bi:Addr}{cl:List (Str×Addr)}{qual:Str}{cd:Value}{outer:Env}{P:Value->Env->Shared->Prop}(nocell:∀y∈scope.names,y.2 ≠ .cell) (kind:scope.kind=.function)
  (k:∀(D C:Addr) (hp:Heap) (m:Str->Option Value),s.heap.objs.size<=D->s.heap.objs.size<=C->D≠C->(∀b o,s.heap.get? b=some o->hp.get? b=some o)->hp.get? D=some { cls:=.type "list",data:=.seq #[] }->hp.Ns C m->P (.ref D) (newEnv scope C g cl qual none cd (some outer) bi) { s with heap:=hp }) :
  wpAny M A (newList []) (fun acc x=>wpAny M A (newFunctionEnv scope g cl [] qual none cd (some outer) bi) (fun e y=>P acc e y) E x) E s:=by
 unfold newList
 refine wpAny_newObj_type (wpAny_newFunctionEnv nocell (fun _ z=>nomatch z) (fun hp ns sb => ?_) kind)
 have z:(s.heap.push { cls:=.type "list",data:=.seq #[] }).objs.size=s.heap.objs.size+1:=Heap.size_push ..
 have up:∀b o,(s.heap.push { cls:=.type "list",data:=.seq #[] }).get? b=some o->hp.get? b=some o:=fun b o q=>sb.extBut b o (Nat.ne_of_lt (Heap.lt_size q)) (Heap.get?_push_of_some _ q)
 exact k _ _ hp _ (Nat.le_refl _) (by show _<=(s.heap.push _).objs.size;rw[Heap.size_push];bv_omega) (by show _≠(s.heap.push _).objs.size;rw[Heap.size_push];bv_omega) (fun b o q=>up b o (Heap.get?_push_of_some _ q)) (up _ _ (Heap.get?_push_size _ rfl)) ns
theorem wX8 {x:Value}{oI:Obj}{Q:Value->Shared->Prop}(alive:oI.isFreed=false) (it:∀(B:Around) (P E':Value->Shared->Prop),P (.ref s.heap.objs.size) { s with heap:=s.heap.push oI }->wpAny (model prog w) B (pyIter x) P E' s)
  (k:∀h',IsEnum h' (s.heap.objs.size+1) s.heap.objs.size 0 .none->h'.get? s.heap.objs.size=some oI->(∀b o,s.heap.get? b=some o->h'.get? b=some o)->Q (.ref (s.heap.objs.size+1)) { s with heap:=h' }):wpAny (model prog w) A (call (.type "enumerate") [x]) Q E s:=by
 refine callType_newIn F.called_enumerate (by decide) (F.typeCall_enumerate_1 _) (F.newCall_enumerate_1 _) (fun o=>F.args_object_init_2 o _) F.entry_enumerate_new
  (S:=fun B R t=>t=s/\B=A.in1/\R=wants (fun v y=>y.TypeIs v "enumerate"/\Q v y) E) (.of_wp fun B R t h => ?_) ⟨rfl,rfl,rfl⟩
 obtain⟨rfl,rfl,rfl⟩:=h
 have u:=sub_enumerate
 have sz:(t.heap.push oI).objs.size=t.heap.objs.size+1:=Heap.size_push ..
 have fin:∀v:Value,v=.ref (t.heap.push oI).objs.size->Q v { t with heap:=(t.heap.push oI).push { cls:=.type "enumerate",data:=.fields #[.none,.bool false,.ref t.heap.objs.size,rawInt 0,.none,.none] } }:=fun v e=>by
  subst e
  rw[sz]
  exact k _ (by rw[<-sz];exact Heap.get?_push_size _ rfl) (Heap.get?_push_of_some _ (Heap.get?_push_size _ alive)) fun b o g=>Heap.get?_push_of_some _ (Heap.get?_push_of_some _ g)
 wp_walk
 refine wpAny_stack_any (fun st=>wpAny_pure ?_)
 split
 ·generalize (_ == Value.type "enumerate")=b
  cases b
  all_goals
   wp_walk using it A.in1.in1
   exact⟨_,rfl,⟨_,Heap.get?_push_size _ rfl,rfl⟩,fin _ rfl⟩
 ·wp_walk using it A.in1.in1
  exact⟨_,rfl,⟨_,Heap.get?_push_size _ rfl,rfl⟩,fin _ rfl⟩
end
end PySem
set_option maxHeartbeats 2000000
namespace PySem
section
variable {prog:Program}{w:World}{A:Around}{E:Value->Shared->Prop}{s:Shared}
end
end PySem
namespace L2
open PySem PySem.Spec PyProof.Rows
theorem HOk.track {P:Program}{w:World}{H:Hp}{h:Heap}{a:Addr}{o:HO}(x:HOk P w H h) (hn:H a=none) (new:ObjOk P w (upd H a o) h a o):HOk P w (upd H a o) h:=fun b u e=>by
 by_cases hb:b=a
 ·subst hb;rw[uC] at e;cases e;exact new
 ·rw[yU hb] at e
  exact (x b u e).stay (fun c v _ q=>q) (fun c q=>by rw[yU (xG q hn)];exact q) fun c xs q=>by rw[yU (xG q hn)];exact q
def clos (cells:List (Str×Addr)):List (Str×NameKind)->List (Str×Addr)->List (Str×Addr)
 | [],acc=>acc
 | (n,k)::r,acc=>if k == .free then clos cells r ((n,(cells.lookup n).getD 0)::acc) else clos cells r acc
theorem fS {env:Env}:∀(names:List (Str×NameKind)) (acc:List (Str×Addr)),(∀n,(n,NameKind.free)∈names->∃c,env.cells.lookup n=some c) ->
  (forIn names acc fun (x:Str×NameKind) (r:List (Str×Addr))=>(do
   let (name,kind):=x
   if kind == .free then do
    let c <-cellOf env name
    pure (ForInStep.yield ((name,c)::r))
   else pure (ForInStep.yield r):Sem (ForInStep (List (Str×Addr)))))=pure (clos env.cells names acc)
 | [],acc,_=>rfl
 | (n,k)::r,acc,h=>by
  rw[List.forIn_cons]
  by_cases hk:(k == NameKind.free)=true
  ·have ek:k=NameKind.free:=by simpa using hk
   obtain⟨c,hc⟩:=h n (by rw[ek];exact List.mem_cons_self)
   have e1:cellOf env n=pure c:=by unfold cellOf;rw[hc]
   simp only[hk,if_true,e1,pure_bind]
   rw[fS r _ fun m hm=>h m (List.mem_cons_of_mem _ hm)]
   show _=pure (if (k == NameKind.free)=true then clos env.cells r ((n,(env.cells.lookup n).getD 0)::acc) else clos env.cells r acc)
   rw[if_pos hk,hc]
   rfl
  ·simp only[hk,if_false,pure_bind,Bool.false_eq_true]
   rw[fS r _ fun m hm=>h m (List.mem_cons_of_mem _ hm)]
   show _=pure (if (k == NameKind.free)=true then clos env.cells r ((n,(env.cells.lookup n).getD 0)::acc) else clos env.cells r acc)
   rw[if_neg hk]
theorem zR3 {scope:Scope}{env:Env}(h:∀n,(n,NameKind.free)∈scope.names->∃c,env.cells.lookup n=some c):closureFor scope env=pure (clos env.cells scope.names []):=by
 unfold closureFor
 have:=fS (env:=env) scope.names [] h
 simp only[] at this ⊢
 rw[show (forIn scope.names ([]:List (Str×Addr)) fun (x:Str×NameKind) (r:List (Str×Addr))=>(do
   if x.2 == .free then do
    let c <-cellOf env x.1
    pure (ForInStep.yield ((x.1,c)::r))
   else pure (ForInStep.yield r):Sem (ForInStep (List (Str×Addr)))))=pure (clos env.cells scope.names []) from this]
 rfl
theorem zT4 {cells:List (Str×Addr)}:∀(names:List (Str×NameKind)) (acc:List (Str×Addr)),(∀n,(n,NameKind.free)∈names->∃c,cells.lookup n=some c)->(∀x c,acc.lookup x=some c->cells.lookup x=some c) ->
  ∀x c,(clos cells names acc).lookup x=some c->cells.lookup x=some c
 | [],acc,_,ha,x,c,e=>ha x c e
 | (n,k)::r,acc,h,ha,x,c,e=>by
  unfold clos at e
  by_cases hk:(k == NameKind.free)=true
  ·rw[if_pos hk] at e
   have ek:k=NameKind.free:=by simpa using hk
   obtain⟨d,hd⟩:=h n (by rw[ek];exact List.mem_cons_self)
   refine zT4 r _ (fun m hm=>h m (List.mem_cons_of_mem _ hm)) (fun y z q => ?_) x c e
   rw[hd,Option.getD_some,List.lookup_cons] at q
   by_cases hy:(y == n)=true
   ·simp only[hy] at q
    have ey:y=n:=by simpa using hy
    cases q
    rw[ey];exact hd
   ·simp only[hy] at q
    exact ha y z q
  ·rw[if_neg hk] at e
   exact zT4 r _ (fun m hm=>h m (List.mem_cons_of_mem _ hm)) ha x c e
theorem zE2 {cells:List (Str×Addr)}:∀(names:List (Str×NameKind)) (acc:List (Str×Addr)) (x:Str),(∃c,acc.lookup x=some c)->∃c,(clos cells names acc).lookup x=some c
 | [],acc,x,h=>h
 | (n,k)::r,acc,x,h=>by
  unfold clos
  by_cases hk:(k == NameKind.free)=true
  ·rw[if_pos hk]
   refine zE2 r _ x ?_
   rw[List.lookup_cons]
   by_cases hy:(x == n)=true
   ·simp only[hy];exact⟨_,rfl⟩
   ·simp only[hy];exact h
  ·rw[if_neg hk];exact zE2 r _ x h
theorem fX {cells:List (Str×Addr)}:∀(names:List (Str×NameKind)) (acc:List (Str×Addr)) (x:Str),(x,NameKind.free)∈names->∃c,(clos cells names acc).lookup x=some c
 | (n,k)::r,acc,x,h=>by
  unfold clos
  rcases List.mem_cons.mp h with e | e
  ·cases e
   rw[if_pos (by rfl)]
   refine zE2 r _ _ ?_
   rw[List.lookup_cons]
   simp only[beq_self_eq_true]
   exact⟨_,rfl⟩
  ·by_cases hk:(k == NameKind.free)=true
   ·rw[if_pos hk];exact fX r _ x e
   ·rw[if_neg hk];exact fX r _ x e
theorem xS4 (env:Env):∃f:Str×NameKind->Str×NameKind,(∀sc:Scope,(relabel sc env).names=sc.names.map f)/\∀q,f q=q\/(q.2=.free/\f q=(q.1,.cell)):=by
 refine⟨_,fun _=>rfl,fun q => ?_⟩
 dsimp only
 split
 ·rename_i z
  exact .inr ⟨eq_of_beq (Bool.and_eq_true_iff.mp (Bool.and_eq_true_iff.mp z).1).1,rfl⟩
 ·exact .inl rfl
theorem yR4 {f:Str×NameKind->Str×NameKind}(hf:∀q,f q=q\/(q.2=.free/\f q=(q.1,.cell))) (x:Str):∀l:List (Str×NameKind),(l.map f).lookup x=l.lookup x\/(l.lookup x=some .free/\(l.map f).lookup x=some .cell)
 | []=>.inl rfl
 | (n,k)::r=>by
  have ih:=yR4 hf x r
  rw[List.map_cons]
  rcases hf (n,k) with e | ⟨e1,e⟩
  ·rw[e]
   cases q:x == n with
   | true=>exact .inl (by rw[List.lookup_cons,List.lookup_cons,q])
   | false=>simpa only[List.lookup_cons,q] using ih
  ·cases e1
   rw[e]
   cases q:x == n with
   | true=>exact .inr ⟨by rw[List.lookup_cons,q],by rw[List.lookup_cons,q]⟩
   | false=>simpa only[List.lookup_cons,q] using ih
theorem zO3 (sc:Scope) (env:Env) (x:Str):(relabel sc env).names.lookup x=sc.names.lookup x\/(sc.names.lookup x=some .free/\(relabel sc env).names.lookup x=some .cell):=by
 obtain⟨f,e,hf⟩:=xS4 env
 rw[e sc]
 exact yR4 hf x sc.names
theorem hU {sc:Scope}{env:Env}{x:Str}{k:NameKind}(h:(relabel sc env).names.lookup x=some k):sc.names.lookup x=some k\/(k=.cell/\sc.names.lookup x=some .free):=by
 rcases zO3 sc env x with e | ⟨e1,e2⟩
 ·exact .inl (e.symm.trans h)
 ·exact .inr ⟨Option.some.inj (h.symm.trans e2),e1⟩
theorem zM8 {sc:Scope}{env:Env}{x:Str}(h:sc.names.lookup x=some .free):(relabel sc env).names.lookup x=some .cell\/(relabel sc env).names.lookup x=some .free:=by
 rcases zO3 sc env x with e | ⟨_,e⟩
 ·exact .inr (e.trans h)
 ·exact .inl e
def cxComp (X:Cx) (N:List Str) (scope:Scope) (C:Addr) (fp:List Addr) (s₂:Shared) (H:Hp):Cx where
 prog:=X.prog
 w:=X.w
 K:=X.K
 mg:=X.mg
 base:=X.base
 A:=X.A
 N:=N
 s₀:=s₂
 H₀:=H
 env:=compEnvC scope (clos X.env.cells scope.names []) C X.env
 outer:=X.stack
 stack:=X.stack
 ex:=fp
 fn:=fun _=>false
 calm:=X.calm
 pn:=[]
 xe:=fun _ _=>False
structure CompScope (sc0 scope:Scope) (N0:List Str) (xt:Str) (fs:List Str) (js:List Nat):Prop where
 kind:scope.kind=.function
 nocell:∀y∈scope.names,y.2 ≠ .cell
 names:∀y∈scope.names,y.2=.local->scope.names.lookup y.1=some .local
 tgt:scope.names.lookup xt=some .local
 frees:∀y∈scope.names,y.2=.free->sc0.names.lookup y.1=some .cell\/sc0.names.lookup y.1=some .free
 len:js.length=fs.length
 slots:∀p∈fs.zip js,N0[p.2]?=some p.1/\scope.names.lookup p.1=some .free
 nd:(xt::fs).Nodup
theorem yW9 {α β:Type}:∀{fs:List α}{js:List β}{i:Nat}{y:α}{j:β},fs[i]?=some y->js[i]?=some j->(y,j)∈fs.zip js
 | [],_,_,_,_,h,_=>by simp at h
 | _::_,[],_,_,_,_,h=>by simp at h
 | a::fs,b::js,0,y,j,h,h'=>by
  simp at h h'
  subst h h'
  exact List.mem_cons_self
 | a::fs,b::js,i+1,y,j,h,h'=>by
  rw[List.zip_cons_cons]
  exact List.mem_cons_of_mem _ (yW9 (i:=i) (by simpa using h) (by simpa using h'))
def compSt (σ:St) (js:List Nat) (v:Option V):St:=v::js.map fun j=>(σ[j]?).join
section
variable {X:Cx}{pins:List (Addr×Obj)}{σ:St}{H:Hp}{s₂ s₄:Shared}{sc0 scope:Scope}{N0:List Str}{xt:Str}{fs:List Str}{js:List Nat}{fp:List Addr}
theorem CompScope.cells (S:CompScope sc0 scope N0 xt fs js) (h0:X.env.scope=sc0) (ok:X.Ok):∀n,(n,NameKind.free)∈scope.names->∃c,X.env.cells.lookup n=some c:=fun n hn=>ok.has n (by subst h0;exact S.frees _ hn rfl)
theorem CompScope.sub (S:CompScope sc0 scope N0 xt fs js) (h0:X.env.scope=sc0) (ok:X.Ok):∀x c,(clos X.env.cells scope.names []).lookup x=some c->X.env.cells.lookup x=some c :=
 zT4 scope.names [] (S.cells h0 ok) fun x c e=>by simp at e
theorem Inv.block (S:CompScope sc0 scope N0 xt fs js) (h0:X.env.scope=sc0) (hN0:X.N=N0) (I:Inv X pins σ H s₂) (hf:∀b∈fp,FpOk X pins H b) (hfo:∀b∈fp,∃o,s₂.heap.get? b=some o)
  (hos:s₄.os=s₂.os) (hg:AllBare s₄.gens) (hk:∀b o,s₂.heap.get? b=some o->s₄.heap.get? b=some o){C:Addr}(hC:s₂.heap.objs.size<=C){m:Str->Option Value}(hn:s₄.heap.Ns C m) :
  Inv (cxComp X (xt::fs) scope C fp s₂ H) [] (compSt σ js none) H s₄:=by
 have sub:=S.sub h0 I.ok
 have blt:∀b∈fp,b<s₂.heap.objs.size:=fun b hb=>let ⟨o,e⟩:=hfo b hb;Heap.lt_size e
 have ok:(cxComp X (xt::fs) scope C fp s₂ H).Ok:=by
  refine⟨I.ok.mod,S.kind,I.ok.glob,I.ok.blt,hC,fun x y c h1 h2=>I.ok.inj x y c (sub x c h1) (sub y c h2),fun x hx => ?_,fun x c h=>(nomatch h),I.ok.hd,I.ok.frames,.inl rfl,fun b hb=>⟨?_,fun x c h=>(hf b hb).2.2.2.2.1 x c (sub x c h)⟩,I.bs,Nat.le_trans I.ok.bsz I.sz,fun b o e hb => ?_,fun b hb hs => ?_,I.stack,I.stkFree⟩
  ·have hx:(relabel scope X.env).names.lookup x=some .cell\/(relabel scope X.env).names.lookup x=some .free:=hx
   have hfree:scope.names.lookup x=some .free:=by
    rcases hx with hx | hx
    ·rcases hU hx with q | ⟨_,q⟩
     ·exact absurd rfl (S.nocell _ (PySem.mem_of_lookup q))
     ·exact q
    ·rcases hU hx with q | ⟨q,_⟩
     ·exact q
     ·cases q
   exact fX scope.names [] x (PySem.mem_of_lookup hfree)
  ·exact Nat.ne_of_lt (Nat.lt_of_lt_of_le (blt b hb) hC)
  ·rcases (hf b hb).2.2.2.1 with z | z
   ·exact I.ok.noex b o e z
   ·exact absurd (Nat.lt_of_lt_of_le (Heap.lt_size (I.ok.bs b o e).1) z) (Nat.lt_irrefl _)
  ·rcases List.mem_cons.mp (I.stkSub b hs) with z | z
   ·exact (hf b hb).2.1 z
   ·exact (hf b hb).2.2.1 z
 refine⟨ok,hos,hg,Un.kept hk,⟨m,hn,fun i x v e1 e2 e3 => ?_⟩,fun x c e => ?_,I.hok.fresh hC,fun x c e=>I.freeC x c (sub x c e),fun p hp=>absurd (show p∈([]:List (Addr×Obj)) from hp) (by simp),I.hok.kept hk,?_⟩
 ·cases i with
  | zero=>cases e2
  | succ i =>
   have e1:fs[i]?=some x:=e1
   have e2:(js.map fun j=>(σ[j]?).join)[i]?=some (some v):=e2
   rw[List.getElem?_map] at e2
   cases ej:js[i]? with
   | none=>rw[ej] at e2;cases e2
   | some j =>
    rw[ej] at e2
    have e2:(σ[j]?).join=some v:=Option.some.inj e2
    obtain⟨hN,hfr⟩:=S.slots _ (yW9 e1 ej)
    have hN:X.N[j]?=some x:=by rw[hN0];exact hN
    have hk2:X.env.kindOf x=some .cell\/X.env.kindOf x=some .free:=by subst h0;exact S.frees _ (PySem.mem_of_lookup hfr) rfl
    have hs:σ[j]?=some (some v):=by
     cases q:σ[j]? with
     | none=>rw[q] at e2;cases e2
     | some z=>rw[q] at e2;rw[show z=some v from e2]
    obtain⟨m0,hn0,hl⟩:=I.loc
    obtain⟨u,r,l⟩:=hl j x v hN hs (by rcases hk2 with z | z;exact .inr (.inl z);exact .inr (.inr z))
    refine⟨u,r,?_⟩
    rcases l with ⟨hloc,_⟩ | ⟨_,c,hc,hcell⟩
    ·rcases hk2 with z | z
     ·rw[z] at hloc;cases hloc
     ·rw[z] at hloc;cases hloc
    ·obtain⟨c',hc'⟩:=fX (cells:=X.env.cells) scope.names [] x (PySem.mem_of_lookup hfr)
     have:c'=c:=Option.some.inj ((sub x c' hc').symm.trans hc)
     subst this
     exact .inr ⟨zM8 hfr,c',hc',hcell.keeps hk⟩
 ·obtain⟨v,z⟩:=I.cell x c (sub x c e)
  exact⟨v,z.keeps hk⟩
 ·show (compSt σ js none).length=(xt::fs).length
  unfold compSt
  rw[List.length_cons,List.length_map,List.length_cons,S.len]
theorem Inv.unblock {pins':List (Addr×Obj)}{σ':St}{H':Hp}{s':Shared}{h'':Heap}{C D:Addr}{its:List Value}{n:Nat}{acc:List V}{N:List Str}(I:Inv X pins σ H s₂) (hf:∀b∈fp,FpOk X pins H b)
  (J:Inv (cxComp X N scope C fp s₂ H) pins' σ' H' s') (hC:s₂.heap.objs.size<=C) (hD:s₂.heap.objs.size<=D) (hDC:D≠C) (hHD:H' D=none)
  (hd:s'.heap.get? D=some { cls:=.type "list",data:=.seq its.toArray n }) (hv:Vals acc its) (hz:acc.length<=sizeLine) (hsb:Heap.SameBut C s'.heap h'') :
  Inv X pins σ (upd H' D (.lst acc)) { s' with heap:=h'' }:=by
 have hd2:h''.get? D=some { cls:=.type "list",data:=.seq its.toArray n }:=(hsb.2 D hDC).trans hd
 have keep:∀b o,b<s₂.heap.objs.size->s'.heap.get? b=some o->h''.get? b=some o:=fun b o hb e=>(hsb.2 b (Nat.ne_of_lt (Nat.lt_of_lt_of_le hb hC))).trans e
 have hHC:H' C=none:=J.free
 have ok1:HOk X.prog X.w H' h'':=fun b o e=>(J.hok b o e).stay (fun c v hc q=>(hsb.2 c (by
   rcases hc with z | z
   ·rw[z];exact fun w=>by rw[w,hHC] at e;cases e
   ·exact fun w=>by rw[w,hHC] at z;cases z)).trans q) (fun _ q=>q) fun _ _ q=>q
 have ok2:HOk X.prog X.w (upd H' D (.lst acc)) h'':=ok1.track hHD ⟨hz,its,n,hv,hd2⟩
 have un:Un (frs X.stack) fp H (upd H' D (.lst acc)) s₂.heap h'':=by
  have u:=J.base
  refine⟨fun b o e nb h1 h2=>keep b o (Heap.lt_size e) (u.keep b o e nb h1 h2),fun b o e nb h1 h2 => ?_,fun b o e nb h2 => ?_,fun b o e h2 => ?_,fun b xs e => ?_,fun b o v e => ?_,fun b ps e => ?_⟩
  ·obtain⟨sl,q⟩:=u.slot b o e nb h1 h2
   exact⟨sl,keep b _ (Heap.lt_size e) q⟩
  ·rw[yU (Nat.ne_of_lt (Nat.lt_of_lt_of_le (Heap.lt_size e) hD))]
   exact u.free b o e nb h2
  ·obtain⟨o',q⟩:=u.there b o e h2
   exact⟨o',keep b _ (Heap.lt_size e) q⟩
  ·have q:=u.tups b xs e
   rw[yU (xG q hHD)];exact q
  ·have q:=u.frzs b o v e
   rw[yU (xG q hHD)];exact q
  ·obtain⟨more,q⟩:=u.tbls b ps e
   exact⟨more,by rw[yU (xG q hHD)];exact q⟩
 obtain⟨hh,g,d,t,os'⟩:=s'
 obtain rfl:os'=s₂.os:=J.os
 exact Inv.call (s:=s₂) I (h':=h'') (g':=g) (d':=d) (t':=t) (ch:=fp) un ok2 J.bare fun b hb=>⟨(hf b hb).2.2.2.1,(hf b hb).2.1,(hf b hb).2.2.2.2.1,(hf b hb).2.2.2.2.2⟩
end
def tTrue:TT:=fun _ H Q=>Q true H
inductive PTs (X:Cx):List Expr->TT->Prop
 | nil:PTs X [] tTrue
 | one {c:Expr}{t:TT}:PT X c t->PTs X [c] t
def tComp (wi:TI) (tt:Addr->List Addr->Shared->Hp->TT) (te:Addr->List Addr->Shared->Hp->TE) (js:List Nat):TE:=fun σ H Q=>wi σ H fun J H1=>∀C fp s₂ H₂,∃W:Nat->Nat->List V->Hp->Prop,(∃m,W 0 m [] H1)/\∀i m acc H,W i m acc H ->
 (J.stop i H/\∀p,H p=none->Q (.ref p) (upd H p (.lst acc))) \/
 (J.go i H/\∃N:List V->Hp->Prop,(∀acc' H',N acc' H'->∃m',m'<m/\W (i+1) m' acc' H') /\
  ∀x H',J.yld i H x H'->tt C fp s₂ H₂ (compSt σ js (some x)) H' fun b H2=>if b=true then te C fp s₂ H₂ (compSt σ js (some x)) H2 fun v H3=>acc.length<sizeLine/\N (acc ++ [v]) H3 else N acc H2)
theorem yQ1 {X:Cx}{elt iter:Expr}{ifs:List Expr}{sc0 scope:Scope}{N0:List Str}{px pos:Pos}{xt:Str}{fs:List Str}{js:List Nat}{wi:TI}{tt:Addr->List Addr->Shared->Hp->TT}{te:Addr->List Addr->Shared->Hp->TE}(S:CompScope sc0 scope N0 xt fs js) (h0:X.env.scope=sc0) (hN0:X.N=N0) (hc:X.calm=true)
  (hi:PI X (.Name xt px) iter wi) (ht:∀C fp s₂ H,PTs (cxComp X (xt::fs) scope C fp s₂ H) ifs (tt C fp s₂ H)) (he:∀C fp s₂ H,PE (cxComp X (xt::fs) scope C fp s₂ H) elt (te C fp s₂ H))
  (hs:autoParam (∀x,foldedSetIterable iter X.env x=pure x) qU._auto_1)
  {pins:List (Addr×Obj)}{cpos:Pos}{s:Shared}{σ:St}{H:Hp}{Q:VK}{use:Option (Value->Sem Unit)}{Qv:Value->Shared->Prop}(I:Inv X pins σ H s) (h:tComp wi tt te js σ H Q)
  (hfin:∀(s':Shared) (C D:Addr) (Ha:Hp) (fl:Flow),(∀h'',Heap.SameBut C s'.heap h''->Inv X pins σ Ha { s' with heap:=h'' })->(∃m,s'.heap.Ns C m)->FpOk X pins Ha C->Q (.ref D) Ha->compPost (model X.prog X.w) X.A X.xe use Qv (.ref D) C (.ok fl) s') :
  wpAny (model X.prog X.w) X.A (comprehension (.ListComp elt [⟨.Name xt px,iter,ifs,0⟩] scope pos) scope X.env cpos (newList []) false (eval iter X.env) use) Qv X.xe s:=by
 refine wpAny_comprehension_free (use:=use) rfl hs (zR3 (S.cells h0 I.ok)) S.kind S.names ?_
 refine thn (hi pins s σ H _ I h) fun v s1 h1=>thn h1 fun itv s2 h2 => ?_
 obtain⟨it,fp,tn,J,H2,e,I2,T,st2,f2,hW⟩:=h2
 subst e
 have fo:∀b∈fp,∃o,s2.heap.get? b=some o:=fun b hb=>let ⟨o,e,_⟩:=T.obj 0 s2.heap st2 b hb; ⟨o,e⟩
 have blt:∀b∈fp,b<s2.heap.objs.size:=fun b hb=>let ⟨o,e⟩:=fo b hb;Heap.lt_size e
 refine yU9 S.nocell S.kind fun D C h₁ mC hDle hCle hDC old hacc hns₁ => ?_
 have bC:∀b o,s2.heap.get? b=some o->b≠C:=fun b o q z=>Nat.not_lt.mpr hCle (z▸Heap.lt_size q)
 have bD:∀b o,s2.heap.get? b=some o->b≠D:=fun b o q z=>Nat.not_lt.mpr hDle (z▸Heap.lt_size q)
 obtain⟨W,⟨m0,w0⟩,turn⟩:=hW C fp s2 H2
 have fpk:∀{H':Hp}(ob:Obj),(∀b∈fp,H' b=none)->∀b∈fp,FpOk (cxComp X (xt::fs) scope C fp s2 H2) [(D,ob)] H' b:=fun {H'} ob hn b hb=>by
  refine⟨hn b hb,Nat.ne_of_lt (Nat.lt_of_lt_of_le (blt b hb) hCle),fun z => ?_,.inl hb,fun x c e=>(f2 b hb).2.2.2.2.1 x c (S.sub h0 I2.ok x c e),fun p hp => ?_⟩
  ·rcases List.mem_cons.mp (I2.stkSub b z) with q | q
   ·exact (f2 b hb).2.1 q
   ·exact (f2 b hb).2.2.1 q
  ·have:p=(D,ob):=by
    have hp:p ∈ [] ++ [(D,ob)]:=hp
    simpa using hp
   subst this
   exact Nat.ne_of_gt (Nat.lt_of_lt_of_le (blt b hb) hDle)
 have loop:codeAny (model X.prog X.w) X.A (.compLoop (.ListComp elt [⟨.Name xt px,iter,ifs,0⟩] scope pos) 0 (.ref it) (.ref D) (compEnvC scope (clos X.env.cells scope.names []) C X.env))
    (compPost (model X.prog X.w) X.A X.xe use Qv (.ref D) C) { s2 with heap:=h₁ }:=by
  have J0:Inv (cxComp X (xt::fs) scope C fp s2 H2) [] (compSt σ js none) H2 { s2 with heap:=h₁ } :=
   Inv.block (s₂:=s2) (s₄:={ s2 with heap:=h₁ }) S h0 hN0 I2 f2 fo rfl I2.bare old hCle hns₁
  have H2D:H2 D=none:=I2.hok.fresh hDle
  have ofD:D∉frs X.stack:=fun z=>by
   rcases List.mem_cons.mp (I2.stkSub D z) with q | q
   ·exact absurd I2.lt (by rw[<-q];exact Nat.not_lt.mpr hDle)
   ·exact I2.nofs (a:=D) hDle q
  refine codeAny_loop rfl (fun n s'=>∃(i:Nat) (σ':St) (H':Hp) (acc:List V) (its:List Value) (k:Nat),(∃v0,σ'=compSt σ js v0)/\Inv (cxComp X (xt::fs) scope C fp s2 H2) [] σ' H' s'/\tn i s'.heap/\(∀b∈fp,H' b=none)/\H' D=none /\
    s'.heap.get? D=some { cls:=.type "list",data:=.seq its.toArray k }/\Vals acc its/\acc.length<=sizeLine/\W i n acc H') ?_ m0
   ⟨0,_,H2,[],[],0,⟨none,rfl⟩,J0,T.keep 0 _ _ st2 fun b hb o e=>old b o e,fun b hb=>(f2 b hb).1,H2D,hacc,.nil,Nat.zero_le _,w0⟩
  rintro n s3 ⟨i,σ3,H3,acc,its,k,⟨v0,rfl⟩,I3,st3,fr3,hD3,d3,va,hz,w3⟩
  show wpAny _ X.A ((compTurn (.ListComp elt [⟨.Name xt px,iter,ifs,0⟩] scope pos) 0 (.ref it) (.ref D) (compEnvC scope (clos X.env.cells scope.names []) C X.env)).onRaise (fun x=>do noteFrame x (compEnvC scope (clos X.env.cells scope.names []) C X.env);theTreesLotGoes x)) _ _ s3
  refine wpAny_noted ?_
  rw[compTurn_list]
  refine wpAny_bind (wpAny_standAt ?_)
  have pinD:Inv (cxComp X (xt::fs) scope C fp s2 H2) [(D,{ cls:=.type "list",data:=.seq its.toArray k })] (compSt σ js v0) H3 s3:=I3.qR fun p hp=>by
   have:p=(D,{ cls:=.type "list",data:=.seq its.toArray k }):=by simpa using hp
   subst this
   exact⟨d3,hD3,hDC,ofD,fun v z=>by cases z⟩
  refine wpAny_bind ?_
  rcases turn i n acc H3 w3 with ⟨stop,qn⟩ | ⟨go,N,hN,step⟩
  ·refine thn (T.done (cxComp X (xt::fs) scope C fp s2 H2) rfl rfl rfl hc i _ s3 _ H3 _ pinD (fpk _ fr3) st3 stop) fun r s4 ⟨hr,I4⟩ => ?_
   subst hr
   refine wpAny_pure ?_
   obtain⟨m4,hn4,_⟩:=I4.loc
   have hHC:H3 C=none:=I4.free
   refine hfin s4 C D (upd H3 D (.lst acc)) _ (fun h'' hsb=>I2.unblock f2 I4 hCle hDle hDC hD3 ((I4.pin (D,{ cls:=.type "list",data:=.seq its.toArray k }) (List.mem_append_right _ List.mem_cons_self)).1) va hz hsb) ⟨m4,hn4⟩ (I2.fpOk hCle (by rw[yU (Ne.symm hDC)];exact hHC)) (qn D hD3)
  ·refine thn (T.item (cxComp X (xt::fs) scope C fp s2 H2) rfl rfl rfl hc i _ s3 _ H3 _ pinD (fpk _ fr3) st3 go) fun r s4 ⟨u,hr,h4⟩ => ?_
   subst hr
   refine wpAny_bind (thn h4 fun _ s5 ⟨x,H5,I5,r5,y5,st5,fr5⟩ => ?_)
   have I5':=I5.pinned (fpk _ fr5) (T.obj _ _ st5)
   have gok:PG (cxComp X (xt::fs) scope C fp s2 H2) (.Name xt px) (gName 0):=zK7 S.nd rfl (.inl (lookup_relabel_local S.tgt)) (.inr (lookup_relabel_local S.tgt))
   have noE:∀(a:Value) (s':Shared),(cxComp X (xt::fs) scope C fp s2 H2).xe a s'->notedBy (model X.prog X.w) X.A (compEnvC scope (clos X.env.cells scope.names []) C X.env) (fun e s'=>compPost (model X.prog X.w) X.A X.xe use Qv (.ref D) C (.error e) s') a s':=fun _ _ z=>False.elim z
   refine wpAny_bind (wpAny_mono (gok _ s5 (compSt σ js v0) H5 x u (fun σ' H'=>σ'=compSt σ js (some x)/\H'=H5) I5' r5 ⟨rfl,rfl⟩) (fun _ s6 ⟨σ6,H6,I6,e6,e6'⟩ => ?_) noE)
   subst e6 e6'
   have fin:∀{acc':List V}{its':List Value}{k':Nat}{H7:Hp}{s7:Shared},Inv (cxComp X (xt::fs) scope C fp s2 H2) [] (compSt σ js (some x)) H7 s7->tn (i+1) s7.heap->(∀b∈fp,H7 b=none)->H7 D=none->s7.heap.get? D=some { cls:=.type "list",data:=.seq its'.toArray k' }->Vals acc' its'->acc'.length<=sizeLine->N acc' H7 ->
     ∃m,m<n/\∃(i:Nat) (σ':St) (H':Hp) (acc:List V) (its:List Value) (k:Nat),(∃v0,σ'=compSt σ js v0)/\Inv (cxComp X (xt::fs) scope C fp s2 H2) [] σ' H' s7/\tn i s7.heap/\(∀b∈fp,H' b=none)/\H' D=none /\
      s7.heap.get? D=some { cls:=.type "list",data:=.seq its.toArray k }/\Vals acc its/\acc.length<=sizeLine/\W i m acc H':=fun {acc' its' k' H7 s7} a1 a2 a3 a4 a5 a6 a7 a8=>by
    obtain⟨m',hm,w7⟩:=hN _ _ a8
    exact⟨m',hm,i+1,_,H7,acc',its',k',⟨_,rfl⟩,a1,a2,a3,a4,a5,a6,a7,w7⟩
   have rest:∀{H7:Hp}{s7:Shared},Inv (cxComp X (xt::fs) scope C fp s2 H2) ([(D,{ cls:=.type "list",data:=.seq its.toArray k })]++pinsAt fp s5.heap) (compSt σ js (some x)) H7 s7 ->
     tn (i+1) s7.heap/\(∀b∈fp,H7 b=none)/\H7 D=none/\s7.heap.get? D=some { cls:=.type "list",data:=.seq its.toArray k }:=fun {H7 s7} I7=>by
    refine⟨T.keep _ _ _ st5 fun b hb o e=>(I7.pin (b,o) (List.mem_append_right _ (List.mem_append_right _ (jO hb e)))).1,fun b hb => ?_,(I7.pin (D,{ cls:=.type "list",data:=.seq its.toArray k }) (List.mem_append_right _ (List.mem_append_left _ List.mem_cons_self))).2.1,(I7.pin (D,{ cls:=.type "list",data:=.seq its.toArray k }) (List.mem_append_right _ (List.mem_append_left _ List.mem_cons_self))).1⟩
    obtain⟨o,e,d⟩:=T.obj _ _ st5 b hb
    exact (I7.pin (b,o) (List.mem_append_right _ (List.mem_append_right _ (jO hb e)))).2.1
   have elem:∀{H7:Hp}{s7:Shared},Inv (cxComp X (xt::fs) scope C fp s2 H2) ([(D,{ cls:=.type "list",data:=.seq its.toArray k })]++pinsAt fp s5.heap) (compSt σ js (some x)) H7 s7 ->
     (te C fp s2 H2 (compSt σ js (some x)) H7 fun v H3=>acc.length<sizeLine/\N (acc ++ [v]) H3) ->
     wpAny (model X.prog X.w) X.A (eval elt (compEnvC scope (clos X.env.cells scope.names []) C X.env)) (fun y s8=>wpAny (model X.prog X.w) X.A (call (.builtin "list.append") [.ref D,y]) (fun _ s9=>∃m,m<n/\∃(i:Nat) (σ':St) (H':Hp) (acc:List V) (its:List Value) (k:Nat),(∃v0,σ'=compSt σ js v0)/\Inv (cxComp X (xt::fs) scope C fp s2 H2) [] σ' H' s9/\tn i s9.heap/\(∀b∈fp,H' b=none)/\H' D=none /\
      s9.heap.get? D=some { cls:=.type "list",data:=.seq its.toArray k }/\Vals acc its/\acc.length<=sizeLine/\W i m acc H')
      (fun _ _=>False) s8) (fun _ _=>False) s7:=fun {H7 s7} I7 q7=>by
    refine thn (he C fp s2 H2 _ s7 _ H7 _ I7 q7) fun y s8 ⟨v,H8,I8,r8,hl8,n8⟩ => ?_
    obtain⟨t8,fr8,hD8,d8⟩:=rest I8
    have hsz:=va.length
    refine call_meets F.slot_list_append ⟨_,d8,rfl⟩ F.entry_list_append (F.args_list_append_2 _ _) (PySem.list_append D its.toArray k y (by rw[List.size_toArray];bv_omega)) ⟨d8,?_⟩
    have q:=PySem.IsL.update d8 (·.push y)
    rw[show (its.toArray.push y)=(its ++ [y]).toArray by simp] at q
    have kk:∀b o,b≠D->s8.heap.get? b=some o->(s8.heap.update D (Obj.mapSeq (·.push y))).get? b=some o:=fun b o hb e=>(Heap.get?_update_other s8.heap _ (Ne.symm hb)).trans e
    have I9:Inv (cxComp X (xt::fs) scope C fp s2 H2) [] (compSt σ js (some x)) H8 { s8 with heap:=s8.heap.update D (Obj.mapSeq (·.push y)) }:=by
     refine Inv.turned (it:=D) (t':=s8.toks) (I8.qR (pins':=[]) fun p hp=>nomatch hp) kk hD8 hDC (.inr hDle) (fun x c e z => ?_) fun p hp=>absurd (show p∈([]:List (Addr×Obj)) from hp) (by simp)
     obtain⟨v,o,ho,_⟩:=I2.cell x c (S.sub h0 I2.ok x c e)
     exact bD c o ho z
    refine fin I9 (T.keep _ _ _ t8 fun b hb o e=>kk b o (Nat.ne_of_lt (Nat.lt_of_lt_of_le (blt b hb) hDle)) e) fr8 hD8 q (va.append (.cons r8 .nil)) ?_ n8
    rw[List.length_append,List.length_singleton]
    bv_omega
   have q6:=step x H6 y5
   have htt:=ht C fp s2 H2
   generalize tt C fp s2 H2=tt' at htt q6
   cases htt with
   | nil =>
    refine wpAny_bind (wpAny_pure ?_)
    dsimp only[tTrue] at q6
    rw[if_pos rfl] at q6
    refine wpAny_mono (wpAny_bind (wpAny_bind (thn (elem I6 q6) fun y s8 h8=>wpAny_bind (thn h8 fun _ s9 h9=>wpAny_pure (wpAny_pure ⟨rfl,h9⟩))))) (fun _ _ z=>z) fun _ _ z=>False.elim z
   | one ht1 =>
    refine wpAny_bind (wpAny_tests_one (wpAny_mono (ht1 _ s6 _ H6 _ I6 q6) (fun b s7 ⟨H7,I7,q7⟩ => ?_) noE))
    cases b with
    | false =>
     rw[if_neg Bool.false_ne_true] at q7
     obtain⟨t8,fr8,hD8,d8⟩:=rest I7
     exact wpAny_pure ⟨rfl,fin (I7.qR (pins':=[]) fun p hp=>nomatch hp) t8 fr8 hD8 d8 va hz q7⟩
    | true =>
     rw[if_pos rfl] at q7
     refine wpAny_mono (wpAny_bind (wpAny_bind (thn (elem I7 q7) fun y s8 h8=>wpAny_bind (thn h8 fun _ s9 h9=>wpAny_pure (wpAny_pure ⟨rfl,h9⟩))))) (fun _ _ z=>z) fun _ _ z=>False.elim z
 exact codeAny_compStart_list loop (T.self X.A 0 _ _ _ (T.keep 0 _ _ st2 fun b hb o e=>old b o e) loop)
theorem wV6 {X:Cx}{elt iter:Expr}{ifs:List Expr}{sc0 scope:Scope}{N0:List Str}{px pos:Pos}{xt:Str}{fs:List Str}{js:List Nat}{wi:TI}{tt:Addr->List Addr->Shared->Hp->TT}{te:Addr->List Addr->Shared->Hp->TE}(S:CompScope sc0 scope N0 xt fs js) (h0:X.env.scope=sc0) (hN0:X.N=N0) (hc:X.calm=true)
  (hi:PI X (.Name xt px) iter wi) (ht:∀C fp s₂ H,PTs (cxComp X (xt::fs) scope C fp s₂ H) ifs (tt C fp s₂ H)) (he:∀C fp s₂ H,PE (cxComp X (xt::fs) scope C fp s₂ H) elt (te C fp s₂ H))
  (hs:autoParam (∀x,foldedSetIterable iter X.env x=pure x) qU._auto_1) :
  PE X (.ListComp elt [⟨.Name xt px,iter,ifs,0⟩] scope pos) (tComp wi tt te js):=by
 intro pins s σ H Q I h
 rw[eval_ListComp]
 refine yQ1 S h0 hN0 hc hi ht he hs (use:=none) (Qv:=EP X pins σ Q) I h fun s' C D Ha fl hI hns hC q => ?_
 obtain⟨m,hn⟩:=hns
 exact⟨m,hn,fun h' hsb=>⟨.ref D,Ha,hI h' hsb,rfl,q⟩⟩
theorem Same.new {H:Hp}{p:Addr}{o:HO}(h:H p=none):Same H (upd H p o):=fun b u e=>by rw[yU (xG e h)];exact e
def Small (i:Int):Prop:=∃k,k<=1000000/\i.natAbs<2 ^ k
theorem Small.bits {i:Int}(h:Small i):Builtin.Int.intBits i<=2 ^ 20:=by
 obtain⟨k,hk,hi⟩:=h
 unfold Builtin.Int.intBits
 by_cases h0:(i == 0)=true
 ·rw[if_pos h0];exact Nat.zero_le _
 ·rw[if_neg h0]
  have hn:i.natAbs≠0:=by
   intro z
   have:i=0:=by bv_omega
   rw[this] at h0
   exact h0 rfl
  have:=(Nat.log2_lt hn).mpr hi
  have e:(2:Nat) ^ 20=1048576:=by decide
  bv_omega
section
variable {X:Cx}
theorem zL8 (hc:X.calm=true):CallR X (.builtin "sum") (fun xs H Q=>∃(p:Addr) (ns:List Int),xs=[.ref p]/\SqL X.K H p (ns.map V.int)/\Q (.int ns.sum) H):=by
 intro pins s σ H xs us Q I r h
 obtain⟨p,ns,rfl,hq,q⟩:=h
 obtain⟨u,rfl,ru⟩:=vals1 r
 cases ru
 obtain⟨its,rv,pl,hz⟩:=I.list hq
 have hi:IntsAre its ns:=cQ rv
 obtain⟨xs,e⟩:=hi.allInts.items
 refine sum_intListG (I.ok.hd hc) (by rw[<-e];exact pl.isList) fun h' tk t' hk=>⟨.int ns.sum,H,I.kept hk,⟨t',?_⟩,q⟩
 congr 1
 rw[preSum_eq,List.take_of_length_le (by simp),<-nums_intItems,<-e]
 show (numsOf its).sum=ns.sum
 rw[hi.numsOf]
end
mutual
inductive DatV (K:KFr) (H:Hp):V->PyData->Prop
 | non:DatV K H .non .none
 | bl (b:Bool):DatV K H (.bl b) (.bool b)
 | int (i:Int):DatV K H (.int i) (.int i)
 | str (x:Str):DatV K H (.str x) (.str x)
 | lst {a:Addr}{xs:List V}{ds:List PyData}:SqL K H a xs->DatAll K H xs ds->DatV K H (.ref a) (.list ds)
 | tup {a:Addr}{xs:List V}{ds:List PyData}:SqT K H a xs->DatAll K H xs ds->DatV K H (.ref a) (.tuple ds)
inductive DatAll (K:KFr) (H:Hp):List V->List PyData->Prop
 | nil:DatAll K H [] []
 | cons {v:V}{d:PyData}{vs:List V}{ds:List PyData}:DatV K H v d->DatAll K H vs ds->DatAll K H (v::vs) (d::ds)
end
section
variable {X:Cx}{pins:List (Addr×Obj)}{σ:St}{H:Hp}{s:Shared}
mutual
theorem Inv.reads (I:Inv X pins σ H s):∀{v:V}{d:PyData}{u:Value},DatV X.K H v d->RelV v u->∃as,Reads s.heap u d as
 | _,_,_,.non,r=>by cases r;exact⟨_,.none⟩
 | _,_,_,.bl b,r=>by cases r;exact⟨_,.bool b⟩
 | _,_,_,.int i,r=>by obtain⟨t,rfl⟩:=r;exact⟨_,.int i t⟩
 | _,_,_,.str x,r=>by obtain⟨t,rfl⟩:=r;exact⟨_,.str x t⟩
 | _,_,_,.lst hq ha,r=>by
  cases r
  obtain⟨its,rv,⟨o,n,ho,hc,_,hd⟩,_⟩:=I.list hq
  obtain⟨as,z⟩:=Inv.readsAll I ha rv
  exact⟨_,.list ho hc hd (by simpa using z)⟩
 | _,_,_,.tup hq ha,r=>by
  cases r
  obtain⟨its,rv,⟨o,ho,hc,n,hd⟩,_⟩:=I.tuple hq
  obtain⟨as,z⟩:=Inv.readsAll I ha rv
  exact⟨_,.tuple ho hc hd (by simpa using z)⟩
theorem Inv.readsAll (I:Inv X pins σ H s):∀{vs:List V}{ds:List PyData}{us:List Value},DatAll X.K H vs ds->Vals vs us->∃as,ReadsAll s.heap us ds as
 | _,_,_,.nil,r=>by cases r;exact⟨_,.nil⟩
 | _,_,_,.cons h t,r=>by
  cases r with
  | cons r1 r2 =>
   obtain⟨as,z⟩:=Inv.reads I h r1
   obtain⟨bs,z'⟩:=Inv.readsAll I t r2
   exact⟨_,.cons z z'⟩
end
end
section
variable {X:Cx}
def rEqD (K:KFr) (neg:Bool):R2:=fun x y H Q=>∃dx dy,DatV K H x dx/\DatV K H y dy/\SeqAt.shaped dx=true/\SeqAt.shaped dy=true/\Q (.bl (if neg then !PyData.eqv dx dy else PyData.eqv dx dy)) H
theorem yA (hu:X.A.units+64<cLine):OpR X (compareOp .Eq) (rEqD X.K false):=by
 intro pins s σ H x y v u Q I rx ry h
 obtain⟨dx,dy,h1,h2,s1,s2,q⟩:=h
 obtain⟨as,z1⟩:=I.reads h1 rx
 obtain⟨bs,z2⟩:=I.reads h2 ry
 exact eq_dataH z1 z2 s1 s2 hu ⟨.bl _,H,I,rfl,q⟩
theorem vT (hu:X.A.units+64<cLine):OpR X (compareOp .NotEq) (rEqD X.K true):=by
 intro pins s σ H x y v u Q I rx ry h
 obtain⟨dx,dy,h1,h2,s1,s2,q⟩:=h
 obtain⟨as,z1⟩:=I.reads h1 rx
 obtain⟨bs,z2⟩:=I.reads h2 ry
 exact ne_dataH z1 z2 s1 s2 hu ⟨.bl _,H,I,rfl,q⟩
end
theorem zH6 (ns ms:List Int):PyData.eqvAll (ns.map PyData.int) (ms.map PyData.int)=decide (ns=ms):=PySem.W.ked_eqvAll ns ms
theorem zH4 (ns:List Int):SeqAt.shaped (.list (ns.map PyData.int))=true:=PySem.W.ke_shaped_ints ns
theorem zM2 (ns:List Int):SeqAt.shaped (.tuple (ns.map PyData.int))=true:=by
 simp[SeqAt.shaped,PyData.canLay0,PyData.depth,PySem.W.ke_canLayAll0,PySem.W.ke_depthAll]
theorem wU5 (ns ms:List Int):PyData.eqv (.list (ns.map PyData.int)) (.list (ms.map PyData.int))=decide (ns=ms):=by rw[PyData.eqv];exact zH6 ns ms
theorem wX9 (ns ms:List Int):PyData.eqv (.tuple (ns.map PyData.int)) (.tuple (ms.map PyData.int))=decide (ns=ms):=by rw[PyData.eqv];exact zH6 ns ms
theorem xP3 (x:Value) (kw:List (Str×Value)):Builtin.«sorted» ⟨[x],kw⟩=collect x >>= fun xs=>newList xs >>= fun l=>holding [l] (call (.builtin "list.sort") [l] kw) >>= fun _=>ret l:=rfl
section
variable {X:Cx}
theorem cB:CallR X (.builtin "sorted") (fun xs H Q=>∃(p:Addr) (ns:List Int),xs=[.ref p]/\(SqL X.K H p (ns.map V.int)\/SqT X.K H p (ns.map V.int))/\ns.length<64 /\
  ∀(l:Addr) (ms:List Int),H l=none->ms.Perm ns->ms.Pairwise (· <= ·)->Q (.ref l) (upd H l (.lst (ms.map V.int)))):=by
 intro pins s σ H xs us Q I r h
 obtain⟨p,ns,rfl,hq,h64,q⟩:=h
 obtain⟨u,rfl,ru⟩:=vals1 r
 cases ru
 obtain⟨T,o,its,n,hT,ho,hc,hd,rv,hz⟩:∃T o its n,(T="list"\/T="tuple")/\s.heap.get? p=some o/\o.cls=.type T/\o.data=.seq its n/\Vals (ns.map V.int) its.toList/\(ns.map V.int).length<=sizeLine:=by
  rcases hq with hq | hq
  ·obtain⟨its,rv,⟨o,n,ho,hc,_,hd⟩,hz⟩:=I.list hq
   exact⟨"list",o,its.toArray,n,.inl rfl,ho,hc,hd,by simpa using rv,hz⟩
  ·obtain⟨its,rv,⟨o,ho,hc,n,hd⟩,hz⟩:=I.tuple hq
   exact⟨"tuple",o,its.toArray,n,.inr rfl,ho,hc,hd,by simpa using rv,hz⟩
 have hl:=rv.length
 have hI:IntsAre its.toList ns:=cQ rv
 rw[List.length_map] at hl hz
 have fits:its.size<=sizeLine:=by have z:=its.length_toList;bv_omega
 refine Calls.call_function_entry kind_sorted plain_sorted entry_sorted (args_sorted1 (.ref p)) ?_
 rw[xP3]
 refine wpAny_bind (wpAny_collect_seq p hT ho hc hd (fun h' kp=>wpAny_bind (wpAny_newList ?_)) fits)
 have hoL:(h'.push (seqObj "list" its.toList.toArray 0)).get? h'.objs.size=some (seqObj "list" its.toList.toArray 0):=Heap.get?_push_size _ rfl
 refine wpAny_bind (wpAny_holding (wpAny_call_entry slot_list_sort ⟨_,hoL,rfl⟩ entry_list_sort (list_sort_tree hoL hI (by bv_omega) fun out ns' a1 a2 a3=>⟨_,rfl,?_⟩) (args_list_sort _)))
 refine wpAny_pure ⟨_,rfl,?_⟩
 have I1:Inv X pins σ H { s with heap:=h' }:=I.kept (t':=s.toks) kp
 have hfresh:H h'.objs.size=none:=I1.hok.fresh (Nat.le_refl _)
 have ov:Vals (ns'.map V.int) out.toList:=zP1 a1
 have hlen:ns'.length=ns.length:=a2.length_eq
 refine⟨.ref h'.objs.size,_,I1.laid (t':=s.toks) (o:=.lst (ns'.map V.int)) (fun b ob e => ?_) (Nat.le_refl _) ?_,rfl,q _ ns' hfresh a2 a3⟩
 ·have hb:=Heap.lt_size e
  rw[sortedHeap_old (Nat.ne_of_lt hb) (by rw[size_push'];exact Nat.lt_succ_of_lt hb)]
  exact Heap.get?_push_of_some _ e
 ·obtain⟨e,he⟩:∃e,(sortedHeap (h'.push (seqObj "list" its.toList.toArray 0)) h'.objs.size its.toList out).get? h'.objs.size=some (seqObj "list" out e):=by
   exact sortedHeap_at hoL
  exact⟨by rw[List.length_map];bv_omega,out.toList,e,ov,by simpa using he⟩
end
section
variable {X:Cx}
end
end L2
namespace L2.L3
open PySem PySem.Spec PyProof.Rows
abbrev D:=PyData
inductive Res (α:Type) where
 | ok (a:α)
 | ex (c:Str)
 | no
namespace Res
def bind {α β:Type}:Res α->(α->Res β)->Res β
 | .ok a,f=>f a
 | .ex c,_=>.ex c
 | .no,_=>.no
def post {α:Type}:Res α->(α->Prop)->(Str->Prop)->Prop
 | .ok a,Q,_=>Q a
 | .ex c,_,E=>E c
 | .no,_,_=>False
theorem zT {α β:Type}{r:Res α}{f:α->Res β}{Q:β->Prop}{E:Str->Prop}(h:(r.bind f).post Q E):r.post (fun a=>(f a).post Q E) E:=by
 cases r <;> exact h
theorem zO {α:Type}{r:Res α}{Q Q':α->Prop}{E E':Str->Prop}(h:r.post Q E) (hQ:∀a,r=.ok a->Q a->Q' a) (hE:∀c,E c->E' c):r.post Q' E':=by
 cases r with
 | ok a=>exact hQ a rfl h
 | ex c=>exact hE c h
 | no=>exact h
def lft {α:Type}:Option α->Res α
 | some a=>.ok a
 | none=>.no
theorem zF {α:Type}{o:Option α}{Q:α->Prop}{E:Str->Prop}(h:(lft o).post Q E):∃a,o=some a/\Q a:=by
 cases o with
 | none=>exact h.elim
 | some a=>exact⟨a,rfl,h⟩
@[simp] theorem bind_ok {α β:Type}(a:α) (f:α->Res β):(Res.ok a).bind f=f a:=rfl
@[simp] theorem bind_no {α β:Type}(f:α->Res β):(Res.no:Res α).bind f=.no:=rfl
@[simp] theorem bind_ex {α β:Type}(c:Str) (f:α->Res β):(Res.ex c:Res α).bind f=.ex c:=rfl
@[simp] theorem lft_some {α:Type}(a:α):lft (some a)=.ok a:=rfl
@[simp] theorem lft_none {α:Type}:lft (none:Option α)=.no:=rfl
end Res
class CN where
 ad:Str->Addr
instance (priority:=low) cn0:CN:=⟨fun _=>0⟩
variable [CN]
def excP (a:Addr) (c:Str):Heap->Prop:=fun h=>∃o,h.get? a=some o/\o.cls=.ref (CN.ad c)
mutual
inductive Rep (H:Hp) (O:Addr->Prop):V->D->Prop
 | non:Rep H O .non .none
 | bl (b:Bool):Rep H O (.bl b) (.bool b)
 | int (i:Int):Rep H O (.int i) (.int i)
 | str (x:Str):Rep H O (.str x) (.str x)
 | lst {a:Addr}{xs:List V}{ds:List D}:Rd H a (.lst xs)->¬O a->Reps H O xs ds->Rep H O (.ref a) (.list ds)
 | tup {a:Addr}{xs:List V}{ds:List D}:Rd H a (.tup xs)->¬O a->Reps H O xs ds->Rep H O (.ref a) (.tuple ds)
 | exc {a:Addr}{c:Str}:H a=some (.ext (excP a c))->¬O a->Rep H O (.ref a) (.dict [(.list [],.str c)])
inductive Reps (H:Hp) (O:Addr->Prop):List V->List D->Prop
 | nil:Reps H O [] []
 | cons {v:V}{d:D}{vs:List V}{ds:List D}:Rep H O v d->Reps H O vs ds->Reps H O (v::vs) (d::ds)
end
theorem xZ9 {H:Hp}{a:Addr}{u:HO}(h:Rd H a u):H a≠none:=by
 rcases h with h | ⟨o,h⟩ <;> (rw[h];exact fun z=>nomatch z)
theorem cH {H H':Hp}{a:Addr}{u:HO}(h:Rd H a u) (k:∀o,H a=some o->H' a=some o):Rd H' a u:=by
 rcases h with h | ⟨o,h⟩
 ·exact .inl (k _ h)
 ·exact .inr ⟨o,k _ h⟩
section
variable {H H':Hp}{O O':Addr->Prop}
mutual
theorem Rep.keep (k:∀b o,H b=some o->¬O b->H' b=some o) (s:∀b,H b≠none->O' b->O b):∀{v:V}{d:D},Rep H O v d->Rep H' O' v d
 | _,_,.non=>.non
 | _,_,.bl b=>.bl b
 | _,_,.int i=>.int i
 | _,_,.str x=>.str x
 | _,_,.lst r n t=>.lst (cH r fun o e=>k _ o e n) (fun z=>n (s _ (xZ9 r) z)) (Reps.keep k s t)
 | _,_,.tup r n t=>.tup (cH r fun o e=>k _ o e n) (fun z=>n (s _ (xZ9 r) z)) (Reps.keep k s t)
 | _,_,.exc r n=>.exc (k _ _ r n) (fun z=>n (s _ (by rw[r];exact fun z=>nomatch z) z))
theorem Reps.keep (k:∀b o,H b=some o->¬O b->H' b=some o) (s:∀b,H b≠none->O' b->O b):∀{vs:List V}{ds:List D},Reps H O vs ds->Reps H' O' vs ds
 | _,_,.nil=>.nil
 | _,_,.cons h t=>.cons (Rep.keep k s h) (Reps.keep k s t)
end
mutual
theorem Rep.dat {K:KFr}:∀{v:V}{d:D},Rep H O v d->PyData.canLay0 d=true->DatV K H v d
 | _,_,.non,_=>.non
 | _,_,.bl b,_=>.bl b
 | _,_,.int i,_=>.int i
 | _,_,.str x,_=>.str x
 | _,_,.lst r n t,c=>.lst (.inl r) (Reps.dat t c)
 | _,_,.tup r n t,c=>.tup (.inl r) (Reps.dat t c)
 | _,_,.exc r n,c=>by cases c
theorem Reps.dat {K:KFr}:∀{vs:List V}{ds:List D},Reps H O vs ds->PyData.canLayAll0 ds=true->DatAll K H vs ds
 | _,_,.nil,_=>.nil
 | _,_,.cons h t,c=>.cons (Rep.dat h (Bool.and_eq_true_iff.mp c).1) (Reps.dat t (Bool.and_eq_true_iff.mp c).2)
end
theorem Rep.same {v:V}{d:D}(h:Rep H O v d) (s:Same H H'):Rep H' O v d:=h.keep (fun b o e _=>s b o e) fun _ _ z=>z
theorem Reps.same {v:List V}{d:List D}(h:Reps H O v d) (s:Same H H'):Reps H' O v d:=h.keep (fun b o e _=>s b o e) fun _ _ z=>z
theorem Rep.less {v:V}{d:D}(h:Rep H O v d) (s:∀b,O' b->O b):Rep H O' v d:=h.keep (fun b o e _=>e) fun b _ z=>s b z
theorem Reps.less {v:List V}{d:List D}(h:Reps H O v d) (s:∀b,O' b->O b):Reps H O' v d:=h.keep (fun b o e _=>e) fun b _ z=>s b z
theorem Reps.length:∀{vs:List V}{ds:List D},Reps H O vs ds->vs.length=ds.length
 | _,_,.nil=>rfl
 | _,_,.cons _ t=>congrArg (·+1) (Reps.length t)
theorem Reps.get:∀{vs:List V}{ds:List D}{i:Nat}{d:D},Reps H O vs ds->ds[i]?=some d->∃v,vs[i]?=some v/\Rep H O v d
 | _,_,_,_,.nil,e=>by simp at e
 | _,_,0,_,.cons r _,e=>by simp at e;subst e;exact⟨_,rfl,r⟩
 | _,_,i+1,d,.cons _ t,e=>by
  obtain⟨u,h1,h2⟩:=Reps.get (i:=i) (d:=d) t (by simpa using e)
  exact⟨u,by simpa using h1,h2⟩
theorem Reps.of:∀{vs:List V}{ds:List D}{i:Nat}{v:V},Reps H O vs ds->vs[i]?=some v->∃d,ds[i]?=some d/\Rep H O v d
 | _,_,_,_,.nil,e=>by simp at e
 | _,_,0,_,.cons r _,e=>by simp at e;subst e;exact⟨_,rfl,r⟩
 | _,_,i+1,v,.cons _ t,e=>by
  obtain⟨u,h1,h2⟩:=Reps.of (i:=i) (v:=v) t (by simpa using e)
  exact⟨u,by simpa using h1,h2⟩
theorem Reps.append:∀{vs ws:List V}{ds es:List D},Reps H O vs ds->Reps H O ws es->Reps H O (vs++ws) (ds++es)
 | _,_,_,_,.nil,s=>s
 | _,_,_,_,.cons r t,s=>.cons r (Reps.append t s)
theorem Reps.one {v:V}{d:D}(h:Rep H O v d):Reps H O [v] [d]:=.cons h .nil
theorem Reps.set {x:V}{u:D}(r:Rep H O x u):∀{vs:List V}{ds:List D}(i:Nat),Reps H O vs ds->Reps H O (vs.set i x) (ds.set i u)
 | _,_,_,.nil=>.nil
 | _,_,0,.cons _ t=>.cons r t
 | _,_,i+1,.cons q t=>.cons q (Reps.set r i t)
theorem Reps.take:∀{vs:List V}{ds:List D}(n:Nat),Reps H O vs ds->Reps H O (vs.take n) (ds.take n)
 | _,_,0,_=>.nil
 | _,_,_+1,.nil=>.nil
 | _,_,n+1,.cons r t=>.cons r (Reps.take n t)
theorem Reps.drop:∀{vs:List V}{ds:List D}(n:Nat),Reps H O vs ds->Reps H O (vs.drop n) (ds.drop n)
 | _,_,0,r=>r
 | _,_,_+1,.nil=>.nil
 | _,_,n+1,.cons _ t=>Reps.drop n t
theorem Reps.erase:∀{vs:List V}{ds:List D}(i:Nat),Reps H O vs ds->Reps H O (vs.eraseIdx i) (ds.eraseIdx i)
 | _,_,_,.nil=>.nil
 | _,_,0,.cons _ t=>t
 | _,_,i+1,.cons r t=>.cons r (Reps.erase i t)
theorem Reps.rep {vs:List V}{ds:List D}(h:Reps H O vs ds):∀k:Nat,Reps H O (List.replicate k vs).flatten (List.replicate k ds).flatten
 | 0=>.nil
 | k+1=>by
  rw[List.replicate_succ,List.replicate_succ,List.flatten_cons,List.flatten_cons]
  exact h.append (Reps.rep h k)
theorem Reps.insert {x:V}{u:D}(r:Rep H O x u){vs:List V}{ds:List D}(i:Nat) (h:Reps H O vs ds):Reps H O (vs.take i++x::vs.drop i) (ds.take i++u::ds.drop i) :=
 (h.take i).append (.cons r (h.drop i))
theorem zP4:∀(ns:List Int),Reps H O (ns.map V.int) (ns.map PyData.int)
 | []=>.nil
 | n::ns=>.cons (.int n) (zP4 ns)
theorem Reps.ints:∀{ns:List Int}{vs:List V},Reps H O vs (ns.map PyData.int)->vs=ns.map V.int
 | [],_,h=>by cases h;rfl
 | n::ns,_,h=>by
  cases h with
  | cons r t=>cases r;rw[Reps.ints t];rfl
end
abbrev Ev:=List (Option D)
structure Wd where
 o:Addr->Prop
 la:Nat->Addr
instance:CoeFun Wd (fun _=>Addr->Prop):=⟨Wd.o⟩
abbrev Uni (Oc:Wd) (Ob:Addr->Prop):Addr->Prop:=fun b=>Oc b\/Ob b
def OwnAt (H:Hp) (Oc:Wd) (Ob:Addr->Prop) (v:V) (d:D):Prop:=∃a ys ds,v=.ref a/\d=.list ds/\H a=some (.lst ys)/\Ob a/\Reps H (Uni Oc Ob) ys ds
def LentAt (i:Nat) (H:Hp) (Oc:Wd) (Ob:Addr->Prop) (v:V) (d:D):Prop:=∃ys ds,v=.ref (Oc.la i)/\d=.list ds/\H (Oc.la i)=some (.lst ys)/\Oc (Oc.la i)/\Reps H (Uni Oc Ob) ys ds
structure Rel (Oc:Wd) (Ob:Addr->Prop) (om ln:List Nat) (σ:St) (H:Hp) (ρ:Ev):Prop where
 len:σ.length=ρ.length
 val:∀i d,ρ[i]?=some (some d)->i∉om->i∉ln->∃v,σ[i]?=some (some v)/\Rep H (Uni Oc Ob) v d
 own:∀i d,ρ[i]?=some (some d)->i∈om->∃v,σ[i]?=some (some v)/\OwnAt H Oc Ob v d
 lnt:∀i d,ρ[i]?=some (some d)->i∉om->i∈ln->∃v,σ[i]?=some (some v)/\LentAt i H Oc Ob v d
 inj:∀i j di dj a,ρ[i]?=some (some di)->ρ[j]?=some (some dj)->i∈om->j∈om->σ[i]?=some (some (.ref a))->σ[j]?=some (some (.ref a))->i=j
 oh:∀a,Oc a\/Ob a->H a≠none
 ap:∀a,Ob a->¬Oc a
section
variable {Oc:Wd}{Ob:Addr->Prop}{om ln:List Nat}{σ:St}{H H':Hp}{ρ:Ev}
theorem Same.ne {b:Addr}(s:Same H H') (h:H b≠none):H' b≠none:=by
 cases e:H b with
 | none=>exact absurd e h
 | some o=>rw[s b o e];exact fun z=>nomatch z
theorem Rel.same (R:Rel Oc Ob om ln σ H ρ) (s:Same H H'):Rel Oc Ob om ln σ H' ρ where
 len:=R.len
 val:=fun i d e h1 h2=>let ⟨v,a,b⟩:=R.val i d e h1 h2; ⟨v,a,b.same s⟩
 own:=fun i d e h1=>let ⟨v,q,a,ys,ds,e1,e2,e3,e4,e5⟩:=R.own i d e h1; ⟨v,q,a,ys,ds,e1,e2,s _ _ e3,e4,e5.same s⟩
 lnt:=fun i d e h1 h2=>let ⟨v,q,ys,ds,e1,e2,e3,e4,e5⟩:=R.lnt i d e h1 h2; ⟨v,q,ys,ds,e1,e2,s _ _ e3,e4,e5.same s⟩
 inj:=R.inj
 oh:=fun a h=>Same.ne s (R.oh a h)
 ap:=R.ap
end
inductive Md where
 | cl
 | rd
 | any
 | new
def VA (Oc:Wd) (Ob:Addr->Prop) (H:Hp) (v:V) (d:D):Prop :=
 Rep H (Uni Oc Ob) v d\/∃a ys ds,v=.ref a/\d=.list ds/\H a=some (.lst ys)/\Reps H (Uni Oc Ob) ys ds
def VR:Md->Wd->(Addr->Prop)->Hp->Hp->V->D->Prop
 | .cl,Oc,Ob,_,H',v,d=>Rep H' (Uni Oc Ob) v d
 | .rd,Oc,Ob,_,H',v,d=>Rep H' (Uni Oc Ob) v d\/∃a ys ds,v=.ref a/\d=.list ds/\H' a=some (.lst ys)/\¬Ob a/\Reps H' (Uni Oc Ob) ys ds
 | .any,Oc,Ob,_,H',v,d=>VA Oc Ob H' v d
 | .new,Oc,Ob,H,H',v,d=>∃a ys ds,v=.ref a/\d=.list ds/\H a=none/\H' a=some (.lst ys)/\Reps H' (fun b=>Uni Oc Ob b\/b=a) ys ds
section
variable {Oc:Wd}{Ob:Addr->Prop}{H H1 H2:Hp}{v:V}{d:D}{md:Md}
theorem VR.same (h:VR md Oc Ob H H1 v d) (s:Same H1 H2):VR md Oc Ob H H2 v d:=by
 cases md with
 | cl=>exact Rep.same h s
 | rd =>
  rcases h with h | ⟨a,ys,ds,e1,e2,e3,e4,e5⟩
  ·exact .inl (Rep.same h s)
  ·exact .inr ⟨a,ys,ds,e1,e2,s _ _ e3,e4,e5.same s⟩
 | any =>
  rcases h with h | ⟨a,ys,ds,e1,e2,e3,e5⟩
  ·exact .inl (Rep.same h s)
  ·exact .inr ⟨a,ys,ds,e1,e2,s _ _ e3,e5.same s⟩
 | new =>
  obtain⟨a,ys,ds,e1,e2,e3,e4,e5⟩:=h
  exact⟨a,ys,ds,e1,e2,e3,s _ _ e4,e5.same s⟩
theorem VR.from (h:VR md Oc Ob H1 H2 v d) (s:Same H H1):VR md Oc Ob H H2 v d:=by
 cases md with
 | new =>
  obtain⟨a,ys,ds,e1,e2,e3,e4,e5⟩:=h
  exact⟨a,ys,ds,e1,e2,s.free e3,e4,e5⟩
 | _=>exact h
theorem VR.clean (h:VR .new Oc Ob H H1 v d) (oh:∀a,Oc a\/Ob a->H a≠none):VR .cl Oc Ob H H1 v d:=by
 obtain⟨a,ys,ds,rfl,rfl,e3,e4,e5⟩:=h
 exact .lst (.inl e4) (fun z=>oh a z e3) (e5.less fun b z=>.inl z)
theorem VR.va (h:VR md Oc Ob H H1 v d) (oh:∀a,Oc a\/Ob a->H a≠none):VA Oc Ob H1 v d:=by
 cases md with
 | cl=>exact .inl h
 | rd =>
  rcases h with h | ⟨a,ys,ds,e1,e2,e3,e4,e5⟩
  ·exact .inl h
  ·exact .inr ⟨a,ys,ds,e1,e2,e3,e5⟩
 | any=>exact h
 | new=>exact .inl (VR.clean h oh)
theorem VA.dat {K:KFr}(h:VA Oc Ob H v d) (c:PyData.canLay0 d=true):DatV K H v d:=by
 rcases h with h | ⟨a,ys,ds,rfl,rfl,e3,e5⟩
 ·exact h.dat c
 ·exact .lst (SqL.of e3) (e5.dat c)
theorem VA.datS {K:KFr}(h:VA Oc Ob H v d) (c:SeqAt.shaped d=true):DatV K H v d:=h.dat (SeqAt.canLay_of_shaped c)
theorem VA.list {ds:List D}(h:VA Oc Ob H v (.list ds)):∃a ys,v=.ref a/\Rd H a (.lst ys)/\Reps H (Uni Oc Ob) ys ds:=by
 rcases h with h | ⟨a,ys,ds,rfl,e,e3,e5⟩
 ·cases h with
  | lst r n t=>exact⟨_,_,rfl,r,t⟩
 ·cases e
  exact⟨a,ys,rfl,.inl e3,e5⟩
theorem VA.tuple {ds:List D}(h:VA Oc Ob H v (.tuple ds)):∃a ys,v=.ref a/\Rd H a (.tup ys)/\Reps H (Uni Oc Ob) ys ds:=by
 rcases h with h | ⟨a,ys,ds,rfl,e,e3,e5⟩
 ·cases h with
  | tup r n t=>exact⟨_,_,rfl,r,t⟩
 ·cases e
theorem VA.int {i:Int}(h:VA Oc Ob H v (.int i)):v=.int i:=by
 rcases h with h | ⟨a,ys,ds,rfl,e,e3,e5⟩
 ·cases h;rfl
 ·cases e
theorem VA.bool {i:Bool}(h:VA Oc Ob H v (.bool i)):v=.bl i:=by
 rcases h with h | ⟨a,ys,ds,rfl,e,e3,e5⟩
 ·cases h;rfl
 ·cases e
theorem VA.str {x:Str}(h:VA Oc Ob H v (.str x)):v=.str x:=by
 rcases h with h | ⟨a,ys,ds,rfl,e,e3,e5⟩
 ·cases h;rfl
 ·cases e
theorem VA.rep (h:VA Oc Ob H v d):Rep H (fun _=>False) v d:=by
 rcases h with h | ⟨a,ys,ds,rfl,rfl,e3,e5⟩
 ·exact h.less fun _ z=>z.elim
 ·exact .lst (.inl e3) (fun z=>z) (e5.less fun _ z=>z.elim)
end
structure Ct where
 X:Cx
 XE:Str->Hp->Prop
 om:List Nat
 ln:List Nat
def RE (C:Ct) (md:Md) (e:Expr) (m:Ev->Res D):Prop :=
 ∃t,PE C.X e t/\∀(Oc:Wd) (Ob:Addr->Prop) (σ:St) (H:Hp) (ρ:Ev) (Q:VK),Rel Oc Ob C.om C.ln σ H ρ ->
  (m ρ).post (fun d=>∀v H',Same H H'->VR md Oc Ob H H' v d->Q v H') (fun c=>∀H',Same H H'->C.XE c H')->t σ H Q
def RT (C:Ct) (e:Expr) (m:Ev->Res Bool):Prop :=
 ∃t,PT C.X e t/\∀(Oc:Wd) (Ob:Addr->Prop) (σ:St) (H:Hp) (ρ:Ev) (Q:Bool->Hp->Prop),Rel Oc Ob C.om C.ln σ H ρ ->
  (m ρ).post (fun b=>∀H',Same H H'->Q b H') (fun c=>∀H',Same H H'->C.XE c H')->t σ H Q
def RW (C:Ct) (e:Expr) (m:Ev->Res Bool):Prop :=
 ∃t,PW C.X e t/\∀(Oc:Wd) (Ob:Addr->Prop) (σ:St) (H:Hp) (ρ:Ev) (Q:Bool->Hp->Prop),Rel Oc Ob C.om C.ln σ H ρ ->
  (m ρ).post (fun b=>∀H',Same H H'->Q b H') (fun c=>∀H',Same H H'->C.XE c H')->t σ H Q
inductive Out where
 | nx (ρ:Ev)
 | rt (d:D)
def Frm (Ob:Addr->Prop) (H H':Hp):Prop:=∀b o,H b=some o->¬Ob b->H' b=some o
theorem Same.frm {Ob:Addr->Prop}{H H':Hp}(s:Same H H'):Frm Ob H H':=fun b o e _=>s b o e
def RetOk:Bool->Wd->(Addr->Prop)->Hp->Hp->V->D->Prop
 | true,Oc,Ob,H,H',v,d=>∃a ys ds,v=.ref a/\d=.list ds/\(H a=none\/Ob a)/\¬Oc a/\H' a=some (.lst ys)/\Reps H' (fun b=>Oc b\/b=a) ys ds
 | false,Oc,_,_,H',v,d=>Rep H' Oc.o v d
def SPost (C:Ct) (fr:Bool) (Oc:Wd) (Ob:Addr->Prop) (H:Hp) (E:Ends) (r:Res Out):Prop :=
 r.post (fun o=>match o with
  | .nx ρ'=>∀σ' H' Ob',Rel Oc Ob' C.om C.ln σ' H' ρ'->Frm Ob H H'->(∀b,Ob' b->Ob b\/H b=none)->E.nx σ' H'
  | .rt d=>∀v H',Frm Ob H H'->RetOk fr Oc Ob H H' v d->E.rt v H') (fun c=>∀H',Frm Ob H H'->C.XE c H')
def RS (C:Ct) (fr:Bool) (st:Stmt) (m:Ev->Res Out):Prop :=
 ∃t,PS C.X st t/\∀(Oc:Wd) (Ob:Addr->Prop) (σ:St) (H:Hp) (ρ:Ev) (E:Ends),Rel Oc Ob C.om C.ln σ H ρ->SPost C fr Oc Ob H E (m ρ)->t E σ H
def RSs (C:Ct) (fr:Bool) (st:List Stmt) (m:Ev->Res Out):Prop :=
 ∃t,PSs C.X st t/\∀(Oc:Wd) (Ob:Addr->Prop) (σ:St) (H:Hp) (ρ:Ev) (E:Ends),Rel Oc Ob C.om C.ln σ H ρ->SPost C fr Oc Ob H E (m ρ)->t E σ H
section
variable {C:Ct}{fr:Bool}{Oc:Wd}{Ob Ob1 Ob2:Addr->Prop}{H H1 H2:Hp}{E:Ends}{r:Res Out}
theorem Frm.trans (f:Frm Ob H H1) (s:∀b,Ob1 b->Ob b\/H b=none) (g:Frm Ob1 H1 H2):Frm Ob H H2:=fun b o e n =>
 g b o (f b o e n) fun z=>(s b z).elim n fun q=>by rw[e] at q;cases q
theorem Frm.none (f:Frm Ob H H1){b:Addr}(h:H1 b=none):Ob b\/H b=none:=by
 by_cases n:Ob b
 ·exact .inl n
 ·cases e:H b with
  | none=>exact .inr rfl
  | some o=>rw[f b o e n] at h;cases h
theorem SPost.step (f:Frm Ob H H1) (s:∀b,Ob1 b->Ob b\/H b=none) (h:SPost C fr Oc Ob H E r):SPost C fr Oc Ob1 H1 E r:=by
 refine Res.zO h (fun o _ q => ?_) fun c q H' g=>q H' (f.trans s g)
 cases o with
 | nx ρ'=>exact fun σ' H' Ob' R g s'=>q σ' H' Ob' R (f.trans s g) fun b z=>(s' b z).elim (s b) fun z=>f.none z
 | rt d =>
  refine fun v H' g k=>q v H' (f.trans s g) ?_
  cases fr with
  | false=>exact k
  | true =>
   obtain⟨a,ys,ds,e1,e2,e3,e4,e5,e6⟩:=k
   refine⟨a,ys,ds,e1,e2,?_,e4,e5,e6⟩
   rcases e3 with e3 | e3
   ·exact (f.none e3).symm
   ·exact (s a e3).symm
theorem SPost.same (f:Same H H1) (h:SPost C fr Oc Ob H E r):SPost C fr Oc Ob H1 E r:=h.step (Same.frm f) fun b z=>.inl z
end
end L2.L3
namespace L2.L3
open PySem PySem.Spec PyProof.Rows
variable [CN]
section
variable {C:Ct}{a b c e:Expr}{es:List Expr}{pos:Pos}{md mda mdb mdc:Md}{ma mb mc:Ev->Res D}
theorem RE.cl (h:RE C .new e ma):RE C .cl e ma:=by
 obtain⟨t,p,q⟩:=h
 exact⟨t,p,fun Oc Ob σ H ρ Q R h=>q Oc Ob σ H ρ Q R (Res.zO h (fun d _ k v H' s r=>k v H' s (VR.clean r R.oh)) fun _ z=>z)⟩
theorem RE.rd (h:RE C .cl e ma):RE C .rd e ma:=by
 obtain⟨t,p,q⟩:=h
 exact⟨t,p,fun Oc Ob σ H ρ Q R h=>q Oc Ob σ H ρ Q R (Res.zO h (fun d _ k v H' s r=>k v H' s (.inl r)) fun _ z=>z)⟩
def eC (d:D):Ev->Res D:=fun _=>.ok d
theorem zR {i j}:RE C .cl (.Constant (.int i) j pos) (eC (.int i)):=⟨_,wM2,fun Oc Ob σ H ρ Q R h=>h _ H (Same.refl H) (Rep.int i)⟩
theorem fJ {i j}:RE C .cl (.Constant (.bool i) j pos) (eC (.bool i)):=⟨_,wF8,fun Oc Ob σ H ρ Q R h=>h _ H (Same.refl H) (Rep.bl i)⟩
theorem zI {i j}:RE C .cl (.Constant (.str i) j pos) (eC (.str i)):=⟨_,wJ7,fun Oc Ob σ H ρ Q R h=>h _ H (Same.refl H) (Rep.str i)⟩
def eV (i:Nat):Ev->Res D:=fun ρ=>match ρ[i]? with
 | some (some d)=>.ok d
 | _=>.no
theorem vK {i:Nat}{ρ:Ev}{Q:D->Prop}{E:Str->Prop}(h:(eV i ρ).post Q E):∃d,ρ[i]?=some (some d)/\Q d:=by
 unfold eV at h
 split at h
 ·exact⟨_,by assumption,h⟩
 ·exact h.elim
theorem xO {i:Nat}{l:List Nat}(h:l.contains i=false):i∉l:=by
 intro z
 rw[List.contains_iff_mem.mpr z] at h
 cases h
theorem wR {i:Nat}{l:List Nat}(h:l.contains i=true):i∈l:=List.contains_iff_mem.mp h
theorem zZ (i:Nat){x:Str}(hN:autoParam (C.X.N[i]?=some x) zU._auto_1) (ho:autoParam (C.om.contains i=false) zU._auto_1) (hl:autoParam (C.ln.contains i=false) zU._auto_1) (hv:autoParam (Vis C.X.env.scope x) jU._auto_1) (hd:autoParam ((x == ("__debug__":Str))=false) yX._auto_1)
  (hcd:autoParam ((x == ("__classdict__":Str))=false) yX._auto_1):RE C .cl (.Name x pos) (eV i):=by
 refine⟨_,jX hN hv hd hcd,fun Oc Ob σ H ρ Q R h => ?_⟩
 obtain⟨d,e,k⟩:=vK h
 obtain⟨v,q,r⟩:=R.val i d e (xO ho) (xO hl)
 exact⟨v,q,k v H (Same.refl H) r⟩
theorem yC (i:Nat){x:Str}(hN:autoParam (C.X.N[i]?=some x) zU._auto_1) (ho:autoParam (C.om.contains i=true) zU._auto_1) (hv:autoParam (Vis C.X.env.scope x) jU._auto_1) (hd:autoParam ((x == ("__debug__":Str))=false) yX._auto_1)
  (hcd:autoParam ((x == ("__classdict__":Str))=false) yX._auto_1):RE C .any (.Name x pos) (eV i):=by
 refine⟨_,jX hN hv hd hcd,fun Oc Ob σ H ρ Q R h => ?_⟩
 obtain⟨d,e,k⟩:=vK h
 obtain⟨v,q,a,ys,ds,e1,e2,e3,e4,e5⟩:=R.own i d e (wR ho)
 exact⟨v,q,k v H (Same.refl H) (.inr ⟨a,ys,ds,e1,e2,e3,e5⟩)⟩
theorem wN1 (i:Nat){x:Str}(hN:autoParam (C.X.N[i]?=some x) zU._auto_1) (ho:autoParam (C.om.contains i=false) zU._auto_1) (hl:autoParam (C.ln.contains i=true) zU._auto_1) (hv:autoParam (Vis C.X.env.scope x) jU._auto_1) (hd:autoParam ((x == ("__debug__":Str))=false) yX._auto_1)
  (hcd:autoParam ((x == ("__classdict__":Str))=false) yX._auto_1):RE C .rd (.Name x pos) (eV i):=by
 refine⟨_,jX hN hv hd hcd,fun Oc Ob σ H ρ Q R h => ?_⟩
 obtain⟨d,e,k⟩:=vK h
 obtain⟨v,q,ys,ds,e1,e2,e3,e4,e5⟩:=R.lnt i d e (xO ho) (wR hl)
 exact⟨v,q,k v H (Same.refl H) (.inr ⟨_,ys,ds,e1,e2,e3,fun z=>R.ap _ z e4,e5⟩)⟩
theorem aY {x:Str}{i:Int}{u:Value}(hm:C.X.mg x=some u) (r:RelV (.int i) u) (hg:autoParam (Gl C.X x) zU._auto_1) (hd:autoParam ((x == ("__debug__":Str))=false) yX._auto_1):RE C .cl (.Name x pos) (eC (.int i)) :=
 ⟨_,wZ2 hg hm r hd,fun Oc Ob σ H ρ Q R h=>h _ H (Same.refl H) (Rep.int i)⟩
def e2 (f:D->D->Option D) (m n:Ev->Res D):Ev->Res D:=fun ρ=>(m ρ).bind fun x=>(n ρ).bind fun y=>Res.lft (f x y)
def Pr2 (r:R2) (md:Md) (f:D->D->Option D):Prop :=
 ∀(Oc:Wd) (Ob:Addr->Prop) (H:Hp) (x y:V) (dx dy d:D) (Q:VK),(∀a,Oc a\/Ob a->H a≠none)->VA Oc Ob H x dx->VA Oc Ob H y dy->f dx dy=some d->(∀v H',Same H H'->VR md Oc Ob H H' v d->Q v H')->r x y H Q
theorem two {ta tb:TE}{f:D->D->Option D}{r:R2}(ha:∀(Oc:Wd) (Ob:Addr->Prop) (σ:St) (H:Hp) (ρ:Ev) (Q:VK),Rel Oc Ob C.om C.ln σ H ρ->(ma ρ).post (fun d=>∀v H',Same H H'->VR mda Oc Ob H H' v d->Q v H') (fun c=>∀H',Same H H'->C.XE c H')->ta σ H Q)
  (hb:∀(Oc:Wd) (Ob:Addr->Prop) (σ:St) (H:Hp) (ρ:Ev) (Q:VK),Rel Oc Ob C.om C.ln σ H ρ->(mb ρ).post (fun d=>∀v H',Same H H'->VR mdb Oc Ob H H' v d->Q v H') (fun c=>∀H',Same H H'->C.XE c H')->tb σ H Q) (hp:Pr2 r md f)
  {Oc:Wd}{Ob:Addr->Prop}{σ:St}{H:Hp}{ρ:Ev}{Q:VK}(R:Rel Oc Ob C.om C.ln σ H ρ) (h:(e2 f ma mb ρ).post (fun d=>∀v H',Same H H'->VR md Oc Ob H H' v d->Q v H') (fun c=>∀H',Same H H'->C.XE c H')) :
  ta σ H fun x H1=>tb σ H1 fun y H2=>r x y H2 Q:=by
 refine ha Oc Ob σ H ρ _ R (Res.zO (Res.zT h) (fun dx _ q x H1 s1 vx => ?_) fun _ z=>z)
 refine hb Oc Ob σ H1 ρ _ (R.same s1) (Res.zO (Res.zT q) (fun dy _ q y H2 s2 vy => ?_) fun c z H' s'=>z H' (s1.trans s'))
 obtain⟨d,e,q⟩:=Res.zF q
 have oh2:=((R.same s1).same s2).oh
 refine hp Oc Ob H2 x y dx dy d Q oh2 ((vx.same s2).va R.oh) (vy.va (R.same s1).oh) e fun v H' s3 r => ?_
 exact q v H' ((s1.trans s2).trans s3) (r.from (s1.trans s2))
theorem zK {op:Operator}{r:R2}{f:D->D->Option D}(ho:OpR C.X (binaryOp op) r) (hp:Pr2 r md f) (ha:RE C mda a ma) (hb:RE C mdb b mb):RE C md (.BinOp a op b pos) (e2 f ma mb):=by
 obtain⟨ta,pa,qa⟩:=ha
 obtain⟨tb,pb,qb⟩:=hb
 exact⟨_,wG9 ho pa pb,fun Oc Ob σ H ρ Q R h=>two qa qb hp R h⟩
theorem yV {r:R2}{f:D->D->Option D}(ho:IxR C.X r) (hp:Pr2 r md f) (ha:RE C mda a ma) (hb:RE C mdb b mb) (hs:autoParam (PlainIx b) wI8._auto_1):RE C md (.Subscript a b pos) (e2 f ma mb):=by
 obtain⟨ta,pa,qa⟩:=ha
 obtain⟨tb,pb,qb⟩:=hb
 exact⟨_,wG1 ho pa pb hs,fun Oc Ob σ H ρ Q R h=>two qa qb hp R h⟩
def PrB (r:R2) (f:D->D->Option Bool):Prop :=
 ∀(Oc:Wd) (Ob:Addr->Prop) (H:Hp) (x y:V) (dx dy:D) (k:Bool) (Q:VK),VA Oc Ob H x dx->VA Oc Ob H y dy->f dx dy=some k->Q (.bl k) H->r x y H Q
def bD (o:Option Bool):Option D:=o.map PyData.bool
theorem PrB.pr {r:R2}{f:D->D->Option Bool}(h:PrB r f):Pr2 r .cl (fun x y=>bD (f x y)):=by
 intro Oc Ob H x y dx dy d Q oh vx vy e k
 cases ef:f dx dy with
 | none=>simp only[ef] at e;cases e
 | some b =>
  simp only[ef] at e
  cases e
  exact h Oc Ob H x y dx dy b Q vx vy ef (k _ H (Same.refl H) (Rep.bl b))
theorem zQ4 {op:CmpOp}{r:R2}{f:D->D->Option Bool}(ho:OpR C.X (compareOp op) r) (hp:PrB r f) (ha:RE C mda a ma) (hb:RE C mdb b mb) (hm:autoParam (behindInMarks op b=false) xW4._auto_1):RE C .cl (.Compare a [op] [b] pos) (e2 (fun x y=>bD (f x y)) ma mb):=by
 obtain⟨ta,pa,qa⟩:=ha
 obtain⟨tb,pb,qb⟩:=hb
 exact⟨_,wY5 ho pa pb hm,fun Oc Ob σ H ρ Q R h=>two qa qb hp.pr R h⟩
def b2 (f:D->D->Option Bool) (m n:Ev->Res D):Ev->Res Bool:=fun ρ=>(m ρ).bind fun x=>(n ρ).bind fun y=>Res.lft (f x y)
theorem wK4 {f:D->D->Option Bool}{ρ:Ev}{Q:Bool->Hp->Prop}{H:Hp}{E:Str->Prop}{Oc:Wd}{Ob:Addr->Prop}(h:(b2 f ma mb ρ).post (fun b=>∀H',Same H H'->Q b H') E) :
  (e2 (fun x y=>bD (f x y)) ma mb ρ).post (fun d=>∀v H',Same H H'->VR .cl Oc Ob H H' v d->∃k,v=.bl k/\Q k H') E:=by
 unfold e2
 unfold b2 at h
 cases ea:ma ρ with
 | no=>rw[ea] at h;exact h
 | ex c=>rw[ea] at h;exact h
 | ok x =>
  rw[ea] at h
  simp only[Res.bind_ok] at h ⊢
  cases eb:mb ρ with
  | no=>rw[eb] at h;exact h
  | ex c=>rw[eb] at h;exact h
  | ok y =>
   rw[eb] at h
   simp only[Res.bind_ok] at h ⊢
   obtain⟨k,ek,q⟩:=Res.zF h
   rw[ek]
   intro v H' s r
   have:v=.bl k:=by cases r;rfl
   exact⟨k,this,q H' s⟩
theorem zA {op:CmpOp}{r:R2}{f:D->D->Option Bool}(ho:OpR C.X (compareOp op) r) (hp:PrB r f) (ha:RE C mda a ma) (hb:RE C mdb b mb) (hm:autoParam (behindInMarks op b=false) xW4._auto_1):RT C (.Compare a [op] [b] pos) (b2 f ma mb):=by
 obtain⟨ta,pa,qa⟩:=ha
 obtain⟨tb,pb,qb⟩:=hb
 exact⟨_,wU1 ho pa pb hm,fun Oc Ob σ H ρ Q R h=>two qa qb hp.pr R (wK4 h)⟩
def b3 (f g:D->D->Option Bool) (m n o:Ev->Res D):Ev->Res Bool:=fun ρ=>(m ρ).bind fun x=>(n ρ).bind fun y=>(Res.lft (f x y)).bind fun k=>if k then (o ρ).bind fun z=>Res.lft (g y z) else .ok false
theorem chain3 {ta tb tc:TE}{f g:D->D->Option Bool}{r r':R2}(ha:∀(Oc:Wd) (Ob:Addr->Prop) (σ:St) (H:Hp) (ρ:Ev) (Q:VK),Rel Oc Ob C.om C.ln σ H ρ->(ma ρ).post (fun d=>∀v H',Same H H'->VR mda Oc Ob H H' v d->Q v H') (fun c=>∀H',Same H H'->C.XE c H')->ta σ H Q)
  (hb:∀(Oc:Wd) (Ob:Addr->Prop) (σ:St) (H:Hp) (ρ:Ev) (Q:VK),Rel Oc Ob C.om C.ln σ H ρ->(mb ρ).post (fun d=>∀v H',Same H H'->VR mdb Oc Ob H H' v d->Q v H') (fun c=>∀H',Same H H'->C.XE c H')->tb σ H Q)
  (hc:∀(Oc:Wd) (Ob:Addr->Prop) (σ:St) (H:Hp) (ρ:Ev) (Q:VK),Rel Oc Ob C.om C.ln σ H ρ->(mc ρ).post (fun d=>∀v H',Same H H'->VR mdc Oc Ob H H' v d->Q v H') (fun c=>∀H',Same H H'->C.XE c H')->tc σ H Q) (hp:PrB r f) (hp':PrB r' g)
  {Oc:Wd}{Ob:Addr->Prop}{σ:St}{H:Hp}{ρ:Ev}{Q:VK}(R:Rel Oc Ob C.om C.ln σ H ρ) (h:(b3 f g ma mb mc ρ).post (fun d=>∀H',Same H H'->Q (.bl d) H') (fun c=>∀H',Same H H'->C.XE c H')) :
  tChain r r' ta tb tc σ H Q:=by
 refine ha Oc Ob σ H ρ _ R (Res.zO (Res.zT h) (fun dx _ q x H1 s1 vx => ?_) fun _ z=>z)
 refine hb Oc Ob σ H1 ρ _ (R.same s1) (Res.zO (Res.zT q) (fun dy _ q y H2 s2 vy => ?_) fun c z H' s'=>z H' (s1.trans s'))
 obtain⟨k,e,q⟩:=Res.zF (Res.zT q)
 have R2:=(R.same s1).same s2
 refine hp Oc Ob H2 x y dx dy k _ ((vx.same s2).va R.oh) (vy.va (R.same s1).oh) e ⟨k,rfl,?_⟩
 cases k with
 | false=>exact iteF (q H2 (s1.trans s2))
 | true =>
  refine iteT (hc Oc Ob σ H2 ρ _ R2 (Res.zO (Res.zT q) (fun dz _ q z H3 s3 vz => ?_) fun c z H' s'=>z H' ((s1.trans s2).trans s')))
  obtain⟨k,e,q⟩:=Res.zF q
  exact hp' Oc Ob H3 y z dy dz k _ ((vy.same s3).va (R.same s1).oh) (vz.va R2.oh) e (q H3 ((s1.trans s2).trans s3))
theorem fQ {op op':CmpOp}{r r':R2}{f g:D->D->Option Bool}(ho:OpR C.X (compareOp op) r) (ho':OpR C.X (compareOp op') r') (hp:PrB r f) (hp':PrB r' g) (ha:RE C mda a ma) (hb:RE C mdb b mb) (hc:RE C mdc c mc)
  (hm:autoParam (lastMarks [op,op'] [b,c]=false) yY3._auto_1):RT C (.Compare a [op,op'] [b,c] pos) (b3 f g ma mb mc):=by
 obtain⟨ta,pa,qa⟩:=ha
 obtain⟨tb,pb,qb⟩:=hb
 obtain⟨tc,pc,qc⟩:=hc
 exact⟨_,xF7 ho ho' pa pb pc hm,fun Oc Ob σ H ρ Q R h=>chain3 qa qb qc hp hp' R (Res.zO h (fun b _ q H' s=>⟨b,rfl,q H' s⟩) fun _ z=>z)⟩
def vB (m:Ev->Res Bool):Ev->Res D:=fun ρ=>(m ρ).bind fun b=>.ok (.bool b)
theorem xG7 {op op':CmpOp}{r r':R2}{f g:D->D->Option Bool}(ho:OpR C.X (compareOp op) r) (ho':OpR C.X (compareOp op') r') (hp:PrB r f) (hp':PrB r' g) (ha:RE C mda a ma) (hb:RE C mdb b mb) (hc:RE C mdc c mc)
  (hm:autoParam (lastMarks [op,op'] [b,c]=false) yY3._auto_1):RE C .cl (.Compare a [op,op'] [b,c] pos) (vB (b3 f g ma mb mc)):=by
 obtain⟨ta,pa,qa⟩:=ha
 obtain⟨tb,pb,qb⟩:=hb
 obtain⟨tc,pc,qc⟩:=hc
 exact⟨_,xD2 ho ho' pa pb pc hm,fun Oc Ob σ H ρ Q R h=>chain3 qa qb qc hp hp' R (Res.zO (Res.zT h) (fun b _ q H' s=>q _ H' s (Rep.bl b)) fun _ z=>z)⟩
variable {ta' tb':Ev->Res Bool}{rest:List Expr}
def isB:D->Option Bool
 | .bool b=>some b
 | _=>none
def tV (m:Ev->Res D):Ev->Res Bool:=fun ρ=>(m ρ).bind fun d=>Res.lft (isB d)
theorem yK5 {d:D}{b:Bool}(h:isB d=some b):d=.bool b:=by
 cases d <;> simp[isB] at h ⊢
 exact h
theorem zQ8 (h:RE C md a ma) (he:autoParam (∀whole,isTrue a C.X.env whole=(do let v <-whole;standAt a.pos;holding [v] (truthy v))) qU._auto_1):RT C a (tV ma):=by
 obtain⟨t,p,q⟩:=h
 refine⟨_,wO5 p he,fun Oc Ob σ H ρ Q R h=>q Oc Ob σ H ρ _ R (Res.zO (Res.zT h) (fun d _ k v H' s r => ?_) fun _ z=>z)⟩
 obtain⟨b,e,k⟩:=Res.zF k
 obtain rfl:=yK5 e
 exact⟨b,(r.va R.oh).bool,k H' s⟩
def tNt (m:Ev->Res Bool):Ev->Res Bool:=fun ρ=>(m ρ).bind fun b=>.ok (!b)
theorem jA (h:RT C a ta'):RT C (.UnaryOp .Not a pos) (tNt ta'):=by
 obtain⟨t,p,q⟩:=h
 exact⟨_,wO2 p,fun Oc Ob σ H ρ Q R h=>q Oc Ob σ H ρ _ R (Res.zO (Res.zT h) (fun d _ k=>k) fun _ z=>z)⟩
def tAn (m n:Ev->Res Bool):Ev->Res Bool:=fun ρ=>(m ρ).bind fun b=>if b then n ρ else .ok false
def tO (m n:Ev->Res Bool):Ev->Res Bool:=fun ρ=>(m ρ).bind fun b=>if b then .ok true else n ρ
theorem rw_and1 (h:RT C a ta'):RW C (.BoolOp .And [a] pos) ta':=by
 obtain⟨t,p,q⟩:=h
 exact⟨_,pw_and1 p,q⟩
theorem rw_or1 (h:RT C a ta'):RW C (.BoolOp .Or [a] pos) ta':=by
 obtain⟨t,p,q⟩:=h
 exact⟨_,pw_or1 p,q⟩
theorem rw_and (ha:RT C a ta') (hb:RW C (.BoolOp .And (b::rest) pos) tb'):RW C (.BoolOp .And (a::b::rest) pos) (tAn ta' tb'):=by
 obtain⟨t,p,q⟩:=ha
 obtain⟨t',p',q'⟩:=hb
 refine⟨_,pw_and p p',fun Oc Ob σ H ρ Q R h=>q Oc Ob σ H ρ _ R (Res.zO (Res.zT h) (fun b _ k H' s => ?_) fun _ z=>z)⟩
 cases b with
 | true=>exact iteT (q' Oc Ob σ H' ρ Q (R.same s) (Res.zO k (fun b _ k H2 s2=>k H2 (s.trans s2)) fun c z H2 s2=>z H2 (s.trans s2)))
 | false=>exact iteF (k H' s)
theorem rw_or (ha:RT C a ta') (hb:RW C (.BoolOp .Or (b::rest) pos) tb'):RW C (.BoolOp .Or (a::b::rest) pos) (tO ta' tb'):=by
 obtain⟨t,p,q⟩:=ha
 obtain⟨t',p',q'⟩:=hb
 refine⟨_,pw_or p p',fun Oc Ob σ H ρ Q R h=>q Oc Ob σ H ρ _ R (Res.zO (Res.zT h) (fun b _ k H' s => ?_) fun _ z=>z)⟩
 cases b with
 | false=>exact iteF (q' Oc Ob σ H' ρ Q (R.same s) (Res.zO k (fun b _ k H2 s2=>k H2 (s.trans s2)) fun c z H2 s2=>z H2 (s.trans s2)))
 | true=>exact iteT (k H' s)
theorem RW.rt (h:RW C a ta'):RT C a ta':=by
 obtain⟨t,p,q⟩:=h
 exact⟨_,p.pt,q⟩
theorem xL9 {op} (h:RE C md a ma):RE C md (.BoolOp op [a] pos) ma:=by
 obtain⟨t,p,q⟩:=h
 exact⟨_,wM8 p,q⟩
def vAn (m n:Ev->Res D):Ev->Res D:=fun ρ=>(m ρ).bind fun d=>(Res.lft (isB d)).bind fun b=>if b then n ρ else .ok (.bool false)
def vO (m n:Ev->Res D):Ev->Res D:=fun ρ=>(m ρ).bind fun d=>(Res.lft (isB d)).bind fun b=>if b then .ok (.bool true) else n ρ
def vNt (m:Ev->Res D):Ev->Res D:=fun ρ=>(m ρ).bind fun d=>(Res.lft (isB d)).bind fun b=>.ok (.bool (!b))
theorem xP6 (ha:RE C mda a ma) (hb:RE C .cl (.BoolOp .And (b::rest) pos) mb):RE C .cl (.BoolOp .And (a::b::rest) pos) (vAn ma mb):=by
 obtain⟨t,p,q⟩:=ha
 obtain⟨t',p',q'⟩:=hb
 refine⟨_,wN2 p p',fun Oc Ob σ H ρ Q R h=>q Oc Ob σ H ρ _ R (Res.zO (Res.zT h) (fun d _ k v H' s r => ?_) fun _ z=>z)⟩
 obtain⟨b,e,k⟩:=Res.zF (Res.zT k)
 obtain rfl:=yK5 e
 refine⟨b,(r.va R.oh).bool,?_⟩
 cases b with
 | true=>exact iteT (q' Oc Ob σ H' ρ Q (R.same s) (Res.zO k (fun b _ k v H2 s2 r=>k v H2 (s.trans s2) r) fun c z H2 s2=>z H2 (s.trans s2)))
 | false=>exact iteF (k _ H' s (Rep.bl false))
def eIf (m:Ev->Res Bool) (n o:Ev->Res D):Ev->Res D:=fun ρ=>(m ρ).bind fun b=>if b then n ρ else o ρ
theorem xD4 (hc:RT C c ta') (ha:RE C md a ma) (hb:RE C md b mb):RE C md (.IfExp c a b pos) (eIf ta' ma mb):=by
 obtain⟨t,p,q⟩:=hc
 obtain⟨t1,p1,q1⟩:=ha
 obtain⟨t2,p2,q2⟩:=hb
 refine⟨_,xF1 p p1 p2,fun Oc Ob σ H ρ Q R h=>q Oc Ob σ H ρ _ R (Res.zO (Res.zT h) (fun b _ k H' s => ?_) fun _ z=>z)⟩
 cases b with
 | true=>exact iteT (q1 Oc Ob σ H' ρ Q (R.same s) (Res.zO k (fun b _ k v H2 s2 r=>k v H2 (s.trans s2) (r.from s)) fun c z H2 s2=>z H2 (s.trans s2)))
 | false=>exact iteF (q2 Oc Ob σ H' ρ Q (R.same s) (Res.zO k (fun b _ k v H2 s2 r=>k v H2 (s.trans s2) (r.from s)) fun c z H2 s2=>z H2 (s.trans s2)))
def e1 (f:D->Option D) (m:Ev->Res D):Ev->Res D:=fun ρ=>(m ρ).bind fun x=>Res.lft (f x)
def negD:D->Option D
 | .int i=>some (.int (-i))
 | _=>none
theorem zB1 (ha:RE C mda a ma):RE C .cl (.UnaryOp .USub a pos) (e1 negD ma):=by
 obtain⟨t,p,q⟩:=ha
 refine⟨_,wG5 wN8 p,fun Oc Ob σ H ρ Q R h=>q Oc Ob σ H ρ _ R (Res.zO (Res.zT h) (fun d _ k v H' s r => ?_) fun _ z=>z)⟩
 obtain⟨d',e,k⟩:=Res.zF k
 cases d with
 | int i =>
  cases e
  exact⟨i,(r.va R.oh).int,k _ H' s (Rep.int _)⟩
 | _=>cases e
end
inductive VAs (Oc:Wd) (Ob:Addr->Prop) (H:Hp):List V->List D->Prop
 | nil:VAs Oc Ob H [] []
 | cons {v:V}{d:D}{vs:List V}{ds:List D}:VA Oc Ob H v d->VAs Oc Ob H vs ds->VAs Oc Ob H (v::vs) (d::ds)
section
variable {Oc:Wd}{Ob:Addr->Prop}{H H':Hp}
theorem VAs.rep:∀{vs:List V}{ds:List D},VAs Oc Ob H vs ds->Reps H (fun _=>False) vs ds
 | _,_,.nil=>.nil
 | _,_,.cons h t=>.cons h.rep (VAs.rep t)
theorem VA.same {v:V}{d:D}(h:VA Oc Ob H v d) (s:Same H H'):VA Oc Ob H' v d:=VR.same (md:=.any) (H:=H) h s
end
def VQ:Bool->Wd->(Addr->Prop)->Hp->List V->List D->Prop
 | true,Oc,Ob,H,vs,ds=>Reps H (Uni Oc Ob) vs ds
 | false,Oc,Ob,H,vs,ds=>VAs Oc Ob H vs ds
def RArg (C:Ct) (cl:Bool) (es:List Expr) (m:Ev->Res (List D)):Prop :=
 ∃t,PA C.X es t/\∀(Oc:Wd) (Ob:Addr->Prop) (σ:St) (H:Hp) (ρ:Ev) (Q:List V->Hp->Prop),Rel Oc Ob C.om C.ln σ H ρ ->
  (m ρ).post (fun ds=>∀vs H',Same H H'->VQ cl Oc Ob H' vs ds->Q vs H') (fun c=>∀H',Same H H'->C.XE c H')->t σ H Q
section
variable {C:Ct}{a b c e:Expr}{es:List Expr}{pos p:Pos}{md mda mdb mdc:Md}{ma mb mc:Ev->Res D}{ms:Ev->Res (List D)}{cl:Bool}
def aN:Ev->Res (List D):=fun _=>.ok []
def aC (m:Ev->Res D) (n:Ev->Res (List D)):Ev->Res (List D):=fun ρ=>(m ρ).bind fun x=>(n ρ).bind fun xs=>.ok (x::xs)
theorem zY:RArg C cl [] aN:=⟨_,hJ,fun Oc Ob σ H ρ Q R h=>h [] H (Same.refl H) (by cases cl;exact VAs.nil;exact Reps.nil)⟩
theorem zX (ha:RE C .cl e ma) (hr:RArg C true es ms) (hs:autoParam (starEach (e::es) C.X.env=(false,eval e C.X.env)::starEach es C.X.env) zU._auto_1):RArg C true (e::es) (aC ma ms):=by
 obtain⟨t,p,q⟩:=ha
 obtain⟨t',p',q'⟩:=hr
 refine⟨_,qP p p' hs,fun Oc Ob σ H ρ Q R h=>q Oc Ob σ H ρ _ R (Res.zO (Res.zT h) (fun d _ k v H' s r => ?_) fun _ z=>z)⟩
 refine q' Oc Ob σ H' ρ _ (R.same s) (Res.zO (Res.zT k) (fun ds _ k vs H2 s2 r2 => ?_) fun c z H2 s2=>z H2 (s.trans s2))
 exact k _ H2 (s.trans s2) (Reps.cons (r.same s2) r2)
theorem zV (ha:RE C md e ma) (hr:RArg C false es ms) (hs:autoParam (starEach (e::es) C.X.env=(false,eval e C.X.env)::starEach es C.X.env) zU._auto_1):RArg C false (e::es) (aC ma ms):=by
 obtain⟨t,p,q⟩:=ha
 obtain⟨t',p',q'⟩:=hr
 refine⟨_,qP p p' hs,fun Oc Ob σ H ρ Q R h=>q Oc Ob σ H ρ _ R (Res.zO (Res.zT h) (fun d _ k v H' s r => ?_) fun _ z=>z)⟩
 refine q' Oc Ob σ H' ρ _ (R.same s) (Res.zO (Res.zT k) (fun ds _ k vs H2 s2 r2 => ?_) fun c z H2 s2=>z H2 (s.trans s2))
 exact k _ H2 (s.trans s2) (VAs.cons ((r.va R.oh).same s2) r2)
def mkL (ds:List D):Option D:=if ds.length<=sizeLine then some (.list ds) else none
def mkT (ds:List D):Option D:=if ds.length<=sizeLine then some (.tuple ds) else none
def eB (f:List D->Option D) (m:Ev->Res (List D)):Ev->Res D:=fun ρ=>(m ρ).bind fun ds=>Res.lft (f ds)
theorem wE {Oc:Wd}{Ob:Addr->Prop}{H H1:Hp}{p:Addr}{vs:List V}{ds:List D}(s:Same H H1) (hp:H1 p=none) (r:Reps H1 (Uni Oc Ob) vs ds):VR .new Oc Ob H (upd H1 p (.lst vs)) (.ref p) (.list ds) :=
 ⟨p,vs,ds,rfl,rfl,s.free hp,uC,r.keep (fun b o e _=>by rw[yU (xG e hp)];exact e) fun b n z=>z.elim id fun z=>by subst z;exact absurd hp n⟩
theorem gD {Oc:Wd}{Ob:Addr->Prop}{H1:Hp}{p:Addr}{vs:List V}{ds:List D}(oh:∀a,Oc a\/Ob a->H1 a≠none) (hp:H1 p=none) (r:Reps H1 (Uni Oc Ob) vs ds):Rep (upd H1 p (.tup vs)) (Uni Oc Ob) (.ref p) (.tuple ds) :=
 .tup (.inl uC) (fun z=>oh p z hp) (r.same (Same.new hp))
theorem yI (h:RArg C true es ms):RE C .new (.List es pos) (eB mkL ms):=by
 obtain⟨t,p,q⟩:=h
 refine⟨_,wO9 p,fun Oc Ob σ H ρ Q R h=>q Oc Ob σ H ρ _ R (Res.zO (Res.zT h) (fun ds _ k vs H' s r => ?_) fun _ z=>z)⟩
 obtain⟨d,e,k⟩:=Res.zF k
 unfold mkL at e
 split at e
 ·rename_i hl
  cases e
  exact⟨by rw[Reps.length r];exact hl,fun p hp=>k _ _ (s.trans (Same.new hp)) (wE s hp r)⟩
 ·cases e
theorem zD5 {x1} (h:RArg C true es ms):RE C .cl (.Tuple es x1 pos) (eB mkT ms):=by
 obtain⟨t,p,q⟩:=h
 refine⟨_,wK2 p,fun Oc Ob σ H ρ Q R h=>q Oc Ob σ H ρ _ R (Res.zO (Res.zT h) (fun ds _ k vs H' s r => ?_) fun _ z=>z)⟩
 obtain⟨d,e,k⟩:=Res.zF k
 unfold mkT at e
 split at e
 ·rename_i hl
  cases e
  exact⟨by rw[Reps.length r];exact hl,fun p hp=>k _ _ (s.trans (Same.new hp)) (gD (R.same s).oh hp r)⟩
 ·cases e
def PrC (r:List V->Hp->VK->Prop) (md:Md) (f:List D->Option D):Prop :=
 ∀(Oc:Wd) (Ob:Addr->Prop) (H:Hp) (vs:List V) (ds:List D) (d:D) (Q:VK),(∀a,Oc a\/Ob a->H a≠none)->VAs Oc Ob H vs ds->f ds=some d->(∀v H',Same H H'->VR md Oc Ob H H' v d->Q v H')->r vs H Q
theorem yS3 {t:TA}{r:List V->Hp->VK->Prop}{f:List D->Option D}(q:∀(Oc:Wd) (Ob:Addr->Prop) (σ:St) (H:Hp) (ρ:Ev) (Q:List V->Hp->Prop),Rel Oc Ob C.om C.ln σ H ρ ->
  (ms ρ).post (fun ds=>∀vs H',Same H H'->VQ false Oc Ob H' vs ds->Q vs H') (fun c=>∀H',Same H H'->C.XE c H')->t σ H Q) (hp:PrC r md f)
  {Oc:Wd}{Ob:Addr->Prop}{σ:St}{H:Hp}{ρ:Ev}{Q:VK}(R:Rel Oc Ob C.om C.ln σ H ρ) (h:(eB f ms ρ).post (fun d=>∀v H',Same H H'->VR md Oc Ob H H' v d->Q v H') (fun c=>∀H',Same H H'->C.XE c H')):tCB r t σ H Q:=by
 refine q Oc Ob σ H ρ _ R (Res.zO (Res.zT h) (fun ds _ k vs H' s r => ?_) fun _ z=>z)
 obtain⟨d,e,k⟩:=Res.zF k
 exact hp Oc Ob H' vs ds d Q (R.same s).oh r e fun v H2 s2 r2=>k v H2 (s.trans s2) (r2.from s)
theorem zL {x:Str}{id:String}{r:List V->Hp->VK->Prop}{f:List D->Option D}(hc:CallR C.X (.builtin id) r) (hp:PrC r md f) (hm:C.X.mg x=none) (hv:bootBuiltins x=some (.builtin id)) (ha:RArg C false (e::es) ms) (hg:autoParam (Gl C.X x) zU._auto_1) (hn:autoParam (x ≠ "__name__") yX._auto_1) (hdb:autoParam ((x == ("__debug__":Str))=false) yX._auto_1)
  (he:autoParam (starEach (e::es) C.X.env=(false,eval e C.X.env)::starEach es C.X.env) zU._auto_1) (hpl:autoParam ((backTo pos (starEach es C.X.env)).any (·.1)=false) zU._auto_1):RE C md (.Call (.Name x p) (e::es) [] pos) (eB f ms):=by
 obtain⟨t,pa,q⟩:=ha
 exact⟨_,xC3 hc hg hm hv pa hn hdb he hpl,fun Oc Ob σ H ρ Q R h=>yS3 q hp R h⟩
theorem yZ {x:Str}{T:String}{r:List V->Hp->VK->Prop}{f:List D->Option D}(hc:CallR C.X (.type T) r) (hp:PrC r md f) (hm:C.X.mg x=none) (hv:bootBuiltins x=some (.type T)) (ha:RArg C false (e::es) ms) (hg:autoParam (Gl C.X x) zU._auto_1) (hn:autoParam (x ≠ "__name__") yX._auto_1) (hdb:autoParam ((x == ("__debug__":Str))=false) yX._auto_1)
  (he:autoParam (starEach (e::es) C.X.env=(false,eval e C.X.env)::starEach es C.X.env) zU._auto_1) (hpl:autoParam ((backTo pos (starEach es C.X.env)).any (·.1)=false) zU._auto_1):RE C md (.Call (.Name x p) (e::es) [] pos) (eB f ms):=by
 obtain⟨t,pa,q⟩:=ha
 exact⟨_,dU hc hg hm hv pa hn hdb he hpl,fun Oc Ob σ H ρ Q R h=>yS3 q hp R h⟩
def Walks (Oc:Wd) (Ob:Addr->Prop) (J:It) (H1:Hp) (ds:List D):Prop :=
 ∀(H2:Hp) (Ob2:Addr->Prop),Frm Ob H1 H2->(∀b,Ob2 b->Ob b\/H1 b=none)->∀i,(∀d,ds[i]?=some d->J.go i H2/\∀x H3,J.yld i H2 x H3->Same H2 H3/\Rep H3 (Uni Oc Ob2) x d)/\(ds.length<=i->J.stop i H2)
def RI (C:Ct) (tg iter:Expr) (m:Ev->Res (List D)):Prop :=
 ∃wi,PI C.X tg iter wi/\∀(Oc:Wd) (Ob:Addr->Prop) (σ:St) (H:Hp) (ρ:Ev) (R:It->Hp->Prop),Rel Oc Ob C.om C.ln σ H ρ ->
  (m ρ).post (fun ds=>∀J H1,Same H H1->Walks Oc Ob J H1 ds->R J H1) (fun c=>∀H',Same H H'->C.XE c H')->wi σ H R
def iSeq (K:KFr) (tl:TE):TI:=fun σ H R=>tl σ H fun x H1=>∃a,x=.ref a/\(((∃xs,SqL K H1 a xs)/\R (Itl K a) H1)\/((∃xs,SqT K H1 a xs)/\R (Itt K a) H1))
theorem wP1 {X:Cx}{tg l:Expr}{tl:TE}(hl:PE X l tl):PI X tg l (iSeq X.K tl):=by
 intro pins s σ H R I h
 refine thn (hl pins s σ H _ I h) fun v s1 ⟨x,H1,I1,r1,q1⟩ => ?_
 obtain⟨a,e,q1⟩:=q1
 subst e
 cases r1
 rcases q1 with ⟨⟨xs,hq⟩,q⟩ | ⟨⟨xs,hq⟩,q⟩
 ·obtain⟨its,rv,p,hz⟩:=I1.list hq
  refine wpAny_pyIter_list p.isList ?_
  refine⟨s1.heap.objs.size,[s1.heap.objs.size],_,_,H1,rfl,I1.kept (t':=s1.toks) fun b o e=>Heap.get?_push_of_some _ e,xQ2 a _,⟨_,Heap.get?_push_size _ rfl,rfl,rfl⟩,fun b hb => ?_,q⟩
  have e:b=s1.heap.objs.size:=by simpa using hb
  subst e
  exact I1.fpOk (Nat.le_refl _) (I1.hok.fresh (Nat.le_refl _))
 ·obtain⟨its,rv,p,hz⟩:=I1.tuple hq
  refine wpAny_pyIter_tuple (show s1.heap.IsTuple a its.toArray from p) ?_
  refine⟨s1.heap.objs.size,[s1.heap.objs.size],_,_,H1,rfl,I1.kept (t':=s1.toks) fun b o e=>Heap.get?_push_of_some _ e,xT5 a _,⟨_,Heap.get?_push_size _ rfl,rfl,rfl⟩,fun b hb => ?_,q⟩
  have e:b=s1.heap.objs.size:=by simpa using hb
  subst e
  exact I1.fpOk (Nat.le_refl _) (I1.hok.fresh (Nat.le_refl _))
def seqD:D->Option (List D)
 | .list ds=>some ds
 | .tuple ds=>some ds
 | _=>none
def iS (m:Ev->Res D):Ev->Res (List D):=fun ρ=>(m ρ).bind fun d=>Res.lft (seqD d)
theorem Reps.step {Oc:Wd}{Ob Ob2:Addr->Prop}{H1 H2:Hp}{vs:List V}{ds:List D}(r:Reps H1 (Uni Oc Ob) vs ds) (f:Frm Ob H1 H2) (s:∀b,Ob2 b->Ob b\/H1 b=none):Reps H2 (Uni Oc Ob2) vs ds :=
 r.keep (fun b o e n=>f b o e fun z=>n (.inr z)) fun b n z=>z.elim .inl fun z=>(s b z).elim .inr fun q=>absurd q n
end
theorem zD6 {K:KFr}{Oc:Wd}{Ob:Addr->Prop}{H1:Hp}{a:Addr}{ys:List V}{ds:List D}(r:Rd H1 a (.lst ys)) (n:¬Ob a) (rs:Reps H1 (Uni Oc Ob) ys ds):Walks Oc Ob (Itl K a) H1 ds:=by
 intro H2 Ob2 f s i
 have r2:Rd H2 a (.lst ys):=cH r fun o e=>f a o e n
 have rs2:=rs.step f s
 refine⟨fun d e => ?_,fun h=>⟨ys,.inl r2,by rw[rs2.length];exact h⟩⟩
 obtain⟨v,ev,rv⟩:=rs2.get e
 refine⟨⟨ys,v,.inl r2,ev⟩,fun x H3 hy => ?_⟩
 obtain⟨rfl,hy⟩:=hy
 have:=hy ys (.inl r2)
 rw[ev] at this
 cases this
 exact⟨Same.refl _,rv⟩
theorem yC2 {K:KFr}{Oc:Wd}{Ob:Addr->Prop}{H1:Hp}{a:Addr}{ys:List V}{ds:List D}(r:Rd H1 a (.tup ys)) (n:¬Ob a) (rs:Reps H1 (Uni Oc Ob) ys ds):Walks Oc Ob (Itt K a) H1 ds:=by
 intro H2 Ob2 f s i
 have r2:Rd H2 a (.tup ys):=cH r fun o e=>f a o e n
 have rs2:=rs.step f s
 refine⟨fun d e => ?_,fun h=>⟨ys,.inl r2,by rw[rs2.length];exact h⟩⟩
 obtain⟨v,ev,rv⟩:=rs2.get e
 refine⟨⟨ys,v,.inl r2,ev⟩,fun x H3 hy => ?_⟩
 obtain⟨rfl,hy⟩:=hy
 have:=hy ys (.inl r2)
 rw[ev] at this
 cases this
 exact⟨Same.refl _,rv⟩
theorem zI9 {Oc:Wd}{Ob:Addr->Prop}{H1:Hp}{lo:Int}{n:Nat}{ds:List D}(e:ds=(List.range n).map fun (i:Nat)=>PyData.int (lo+(i:Int))):Walks Oc Ob (Itr lo n) H1 ds:=by
 intro H2 Ob2 f s i
 subst e
 refine⟨fun d e => ?_,fun h=>by show n<=i;simpa using h⟩
 rw[List.getElem?_map] at e
 by_cases hi:i<n
 ·rw[List.getElem?_range hi] at e
  cases e
  refine⟨hi,fun x H3 hy => ?_⟩
  obtain⟨rfl,rfl⟩:=hy
  exact⟨Same.refl _,.int _⟩
 ·rw[List.getElem?_eq_none (by simpa using hi)] at e
  cases e
section
variable {C:Ct}{a b c e:Expr}{es:List Expr}{pos p:Pos}{md mda mdb mdc:Md}{ma mb mc:Ev->Res D}{ms:Ev->Res (List D)}{cl:Bool}{tg:Expr}
theorem yH (h:RE C .rd e ma):RI C tg e (iS ma):=by
 obtain⟨t,p,q⟩:=h
 refine⟨_,wP1 p,fun Oc Ob σ H ρ W R h=>q Oc Ob σ H ρ _ R (Res.zO (Res.zT h) (fun d _ k v H' s r => ?_) fun _ z=>z)⟩
 obtain⟨ds,e,k⟩:=Res.zF k
 rcases r with r | ⟨a,ys,ds',rfl,rfl,e3,e4,e5⟩
 ·cases r with
  | lst r n t=>cases e;exact⟨_,rfl,.inl ⟨⟨_,.inl r⟩,k _ H' s (zD6 r (fun z=>n (.inr z)) t)⟩⟩
  | tup r n t=>cases e;exact⟨_,rfl,.inr ⟨⟨_,.inl r⟩,k _ H' s (yC2 r (fun z=>n (.inr z)) t)⟩⟩
  | _=>cases e
 ·cases e
  exact⟨_,rfl,.inl ⟨⟨_,SqL.of e3⟩,k _ H' s (zD6 (.inl e3) e4 e5)⟩⟩
def rng1:List D->Option (List D)
 | [.int j]=>if -(2 ^ 62)<=j/\j<2 ^ 62 then some ((List.range j.toNat).map fun (i:Nat)=>PyData.int (i:Int)) else none
 | _=>none
def rng2:List D->Option (List D)
 | [.int i,.int j]=>if -(2 ^ 62)<=i/\i<2 ^ 62/\-(2 ^ 62)<=j/\j<2 ^ 62 then some ((List.range (j-i).toNat).map fun (k:Nat)=>PyData.int (i+(k:Int))) else none
 | _=>none
def iR (f:List D->Option (List D)) (m:Ev->Res (List D)):Ev->Res (List D):=fun ρ=>(m ρ).bind fun ds=>Res.lft (f ds)
theorem VAs.one {Oc:Wd}{Ob:Addr->Prop}{H:Hp}{vs:List V}{d:D}(h:VAs Oc Ob H vs [d]):∃v,vs=[v]/\VA Oc Ob H v d:=by
 cases h with
 | cons a t=>cases t;exact⟨_,rfl,a⟩
theorem VAs.two {Oc:Wd}{Ob:Addr->Prop}{H:Hp}{vs:List V}{d d':D}(h:VAs Oc Ob H vs [d,d']):∃v v',vs=[v,v']/\VA Oc Ob H v d/\VA Oc Ob H v' d':=by
 cases h with
 | cons a t =>
  obtain⟨v,rfl,q⟩:=VAs.one t
  exact⟨_,_,rfl,a,q⟩
theorem kE (hm:C.X.mg "range" = none) (ha:RArg C false [a] ms) (hg:autoParam (Gl C.X "range") zU._auto_1) (hs:autoParam (starEach [a] C.X.env=[(false,eval a C.X.env)]) zU._auto_1):RI C tg (.Call (.Name "range" p) [a] [] pos) (iR rng1 ms):=by
 obtain⟨t,pa,q⟩:=ha
 refine⟨_,xJ3 hg hm pa hs,fun Oc Ob σ H ρ W R h=>q Oc Ob σ H ρ _ R (Res.zO (Res.zT h) (fun ds _ k vs H' s r => ?_) fun _ z=>z)⟩
 obtain⟨xs,e,k⟩:=Res.zF k
 unfold rng1 at e
 split at e
 ·split at e
  ·rename_i hb
   cases e
   obtain⟨v,rfl,va⟩:=VAs.one r
   obtain rfl:=va.int
   exact⟨_,rfl,hb.1,hb.2,k _ H' s (zI9 (by simp))⟩
  ·cases e
 ·cases e
theorem qF (hm:C.X.mg "range" = none) (ha:RArg C false [a,b] ms) (hg:autoParam (Gl C.X "range") zU._auto_1) (hs:autoParam (starEach [a,b] C.X.env=[(false,eval a C.X.env),(false,eval b C.X.env)]) zU._auto_1) (hs2:autoParam (starEach [b] C.X.env=[(false,eval b C.X.env)]) zU._auto_1):RI C tg (.Call (.Name "range" p) [a,b] [] pos) (iR rng2 ms):=by
 obtain⟨t,pa,q⟩:=ha
 refine⟨_,xJ1 hg hm pa hs hs2,fun Oc Ob σ H ρ W R h=>q Oc Ob σ H ρ _ R (Res.zO (Res.zT h) (fun ds _ k vs H' s r => ?_) fun _ z=>z)⟩
 obtain⟨xs,e,k⟩:=Res.zF k
 unfold rng2 at e
 split at e
 ·split at e
  ·rename_i hb
   cases e
   obtain⟨v,v',rfl,va,va'⟩:=VAs.two r
   obtain rfl:=va.int
   obtain rfl:=va'.int
   exact⟨_,_,rfl,hb,k _ H' s (zI9 rfl)⟩
  ·cases e
 ·cases e
end
def cEnv (ρ:Ev) (js:List Nat) (x:D):Ev:=some x::js.map fun j=>(ρ[j]?).join
def capt (js l:List Nat):List Nat:=((List.range js.length).filter fun i=>l.contains (js.getD i 0)).map (·+1)
def noEx {α:Type}:Res α->Res α
 | .ok a=>.ok a
 | _=>.no
theorem zK9 {α:Type}{r:Res α}{a:α}(h:noEx r=.ok a):r=.ok a:=by
 cases r with
 | ok b=>exact h
 | ex c=>cases h
 | no=>cases h
def compM (t:D->Res Bool) (f:D->Res D):List D->Res (List D)
 | []=>.ok []
 | x::xs=>(noEx (t x)).bind fun b=>if b then (noEx (f x)).bind fun y=>(compM t f xs).bind fun ys=>.ok (y::ys) else compM t f xs
def eComp (mi:Ev->Res (List D)) (mt:Ev->Res Bool) (me:Ev->Res D) (js:List Nat):Ev->Res D:=fun ρ=>(mi ρ).bind fun ds=>if ds.length<=sizeLine then (compM (fun x=>mt (cEnv ρ js x)) (fun x=>me (cEnv ρ js x)) ds).bind fun out=>.ok (.list out) else .no
theorem xF6 {js l:List Nat}{i:Nat}(h:i∈capt js l):∃k,i=k+1/\k<js.length/\js.getD k 0∈l:=by
 unfold capt at h
 obtain⟨k,hk,rfl⟩:=List.mem_map.mp h
 obtain⟨h1,h2⟩:=List.mem_filter.mp hk
 exact⟨k,rfl,List.mem_range.mp h1,List.contains_iff_mem.mp h2⟩
theorem yH8 {js l:List Nat}{k j:Nat}(h:js[k]?=some j) (hl:j∈l):k+1∈capt js l:=by
 unfold capt
 refine List.mem_map.mpr ⟨k,List.mem_filter.mpr ⟨List.mem_range.mpr ?_,?_⟩,rfl⟩
 ·exact (List.getElem?_eq_some_iff.mp h).1
 ·rw[List.getD_eq_getElem?_getD,h]
  exact List.contains_iff_mem.mpr hl
theorem yR3 {ρ:Ev}{js:List Nat}{x d:D}{k:Nat}(h:(cEnv ρ js x)[k+1]?=some (some d)):∃j,js[k]?=some j/\ρ[j]?=some (some d):=by
 unfold cEnv at h
 rw[List.getElem?_cons_succ,List.getElem?_map] at h
 cases e:js[k]? with
 | none=>rw[e] at h;cases h
 | some j =>
  rw[e] at h
  refine⟨j,rfl,?_⟩
  have h:(ρ[j]?).join=some d:=Option.some.inj h
  cases q:ρ[j]? with
  | none=>rw[q] at h;cases h
  | some z=>rw[q] at h;rw[show z=some d from h]
theorem kW {σ:St}{js:List Nat}{v0:Option V}{v:V}{k j:Nat}(h:js[k]?=some j) (e:σ[j]?=some (some v)):(compSt σ js v0)[k+1]?=some (some v):=by
 unfold compSt
 rw[List.getElem?_cons_succ,List.getElem?_map,h]
 show some ((σ[j]?).join)=_
 rw[e]
 rfl
def adr:Option (Option V)->Addr
 | some (some (.ref a))=>a
 | _=>0
def cW (Oc:Wd) (Ob:Addr->Prop) (σ:St) (js:List Nat):Wd:=⟨Uni Oc Ob,fun i=>adr ((compSt σ js none)[i]?)⟩
theorem Rel.comp {Oc:Wd}{Ob:Addr->Prop}{om ln:List Nat}{σ:St}{H:Hp}{ρ:Ev}{js:List Nat}{x:V}{d:D}(R:Rel Oc Ob om ln σ H ρ) (r:Rep H (Uni Oc Ob) x d):Rel (cW Oc Ob σ js) (fun _=>False) [] (capt js (om++ln)) (compSt σ js (some x)) H (cEnv ρ js d) where
 len:=by unfold compSt cEnv;simp
 val:=fun i d' e _ hl=>by
  cases i with
  | zero =>
   cases e
   exact⟨x,rfl,r.less fun b z=>z.elim id fun z=>z.elim⟩
  | succ k =>
   obtain⟨j,e1,e2⟩:=yR3 e
   have h1:j∉om:=fun z=>hl (yH8 e1 (List.mem_append_left _ z))
   have h2:j∉ln:=fun z=>hl (yH8 e1 (List.mem_append_right _ z))
   obtain⟨v,q,rv⟩:=R.val j d' e2 h1 h2
   exact⟨v,kW e1 q,rv.less fun b z=>z.elim id fun z=>z.elim⟩
 own:=fun i d' e h=>nomatch h
 lnt:=fun i d' e _ hl=>by
  obtain⟨k,rfl,hk,hj⟩:=xF6 hl
  obtain⟨j,e1,e2⟩:=yR3 e
  rw[List.getD_eq_getElem?_getD,e1,Option.getD_some] at hj
  by_cases ho:j∈om
  ·obtain⟨v,q,a,ys,ds,z1,z2,z3,z4,z5⟩:=R.own j d' e2 ho
   have ea:(cW Oc Ob σ js).la (k+1)=a:=by show adr _=a;rw[kW e1 q,z1];rfl
   exact⟨v,kW e1 q,ys,ds,by rw[ea];exact z1,z2,by rw[ea];exact z3,by rw[ea];exact .inr z4,z5.less fun b z=>z.elim id fun z=>z.elim⟩
  ·have hl2:j∈ln:=(List.mem_append.mp hj).elim (fun z=>absurd z ho) id
   obtain⟨v,q,ys,ds,z1,z2,z3,z4,z5⟩:=R.lnt j d' e2 ho hl2
   have ea:(cW Oc Ob σ js).la (k+1)=Oc.la j:=by show adr _=_;rw[kW e1 q,z1];rfl
   exact⟨v,kW e1 q,ys,ds,by rw[ea];exact z1,z2,by rw[ea];exact z3,by rw[ea];exact .inl z4,z5.less fun b z=>z.elim id fun z=>z.elim⟩
 inj:=fun i j di dj a _ _ h=>nomatch h
 oh:=fun a z=>R.oh a (z.elim id fun z=>z.elim)
 ap:=fun a z=>z.elim
abbrev cC (C:Ct) (N:List Str) (scope:Scope) (A:Addr) (fp:List Addr) (s₂:Shared) (H:Hp) (js:List Nat):Ct:=⟨cxComp C.X N scope A fp s₂ H,fun _ _=>False,[],capt js (C.om++C.ln)⟩
def RTs (C:Ct) (ifs:List Expr) (m:Ev->Res Bool):Prop:=∃t,PTs C.X ifs t/\∀(Oc:Wd) (Ob:Addr->Prop) (σ:St) (H:Hp) (ρ:Ev) (Q:Bool->Hp->Prop),Rel Oc Ob C.om C.ln σ H ρ ->
  (m ρ).post (fun b=>∀H',Same H H'->Q b H') (fun c=>∀H',Same H H'->C.XE c H')->t σ H Q
def tYes:Ev->Res Bool:=fun _=>.ok true
theorem xP {C:Ct}:RTs C [] tYes:=⟨_,.nil,fun Oc Ob σ H ρ Q R h=>h H (Same.refl H)⟩
theorem yX5 {C:Ct}{c:Expr}{m:Ev->Res Bool}(h:RT C c m):RTs C [c] m:=by
 obtain⟨t,p,q⟩:=h
 exact⟨t,.one p,q⟩
def WalksS (Oc:Wd) (Ob:Addr->Prop) (J:It) (H1:Hp) (ds:List D):Prop :=
 ∀(H2:Hp),Same H1 H2->∀i,(∀d,ds[i]?=some d->J.go i H2/\∀x H3,J.yld i H2 x H3->Same H2 H3/\Rep H3 (Uni Oc Ob) x d)/\(ds.length<=i->J.stop i H2)
def RIc (C:Ct) (tg iter:Expr) (m:Ev->Res (List D)):Prop :=
 ∃wi,PI C.X tg iter wi/\∀(Oc:Wd) (Ob:Addr->Prop) (σ:St) (H:Hp) (ρ:Ev) (R:It->Hp->Prop),Rel Oc Ob C.om C.ln σ H ρ ->
  (m ρ).post (fun ds=>∀J H1,Same H H1->WalksS Oc Ob J H1 ds->R J H1) (fun c=>∀H',Same H H'->C.XE c H')->wi σ H R
theorem RI.c {C:Ct}{tg iter:Expr}{m:Ev->Res (List D)}(h:RI C tg iter m):RIc C tg iter m:=by
 obtain⟨wi,p,q⟩:=h
 exact⟨wi,p,fun Oc Ob σ H ρ W R h=>q Oc Ob σ H ρ W R (Res.zO h (fun ds _ k J H1 s w=>k J H1 s fun H2 s2=>w H2 Ob (Same.frm s2) fun b z=>.inl z) fun _ z=>z)⟩
theorem yS9 {C:Ct}{elt:Expr}{ifs:List Expr}{scope:Scope}{N:List Str}{js:List Nat}{mi:Ev->Res (List D)}{mt:Ev->Res Bool}{me:Ev->Res D}{wi:TI}
  (qi:∀(Oc:Wd) (Ob:Addr->Prop) (σ:St) (H:Hp) (ρ:Ev) (R:It->Hp->Prop),Rel Oc Ob C.om C.ln σ H ρ->(mi ρ).post (fun ds=>∀J H1,Same H H1->WalksS Oc Ob J H1 ds->R J H1) (fun c=>∀H',Same H H'->C.XE c H')->wi σ H R)
  (ht:∀A fp s₂ H,RTs (cC C N scope A fp s₂ H js) ifs mt) (he:∀A fp s₂ H,RE (cC C N scope A fp s₂ H js) .cl elt me)
  {Oc:Wd}{Ob:Addr->Prop}{σ:St}{H:Hp}{ρ:Ev}{Q:VK}(R:Rel Oc Ob C.om C.ln σ H ρ) (h:(eComp mi mt me js ρ).post (fun d=>∀v H',Same H H'->VR .new Oc Ob H H' v d->Q v H') (fun c=>∀H',Same H H'->C.XE c H')) :
  tComp wi (fun A fp s H=>Classical.choose (ht A fp s H)) (fun A fp s H=>Classical.choose (he A fp s H)) js σ H Q:=by
 refine qi Oc Ob σ H ρ _ R (Res.zO (Res.zT h) (fun ds _ k J H1 s1 wk => ?_) fun _ z=>z)
 intro A fp s₂ H₂
 have qt:=(Classical.choose_spec (ht A fp s₂ H₂)).2
 have qe:=(Classical.choose_spec (he A fp s₂ H₂)).2
 have k:(if ds.length<=sizeLine then (compM (fun x=>mt (cEnv ρ js x)) (fun x=>me (cEnv ρ js x)) ds).bind fun out=>Res.ok (PyData.list out) else .no).post (fun d=>∀v H',Same H H'->VR .new Oc Ob H H' v d->Q v H') (fun c=>∀H',Same H H'->C.XE c H'):=k
 by_cases hlen:ds.length<=sizeLine
 ·rw[if_pos hlen] at k
  generalize hT:(fun x=>mt (cEnv ρ js x))=T at k
  generalize hF:(fun x=>me (cEnv ρ js x))=F at k
  cases ec:compM T F ds with
  | no=>rw[ec] at k;exact k.elim
  | ex c =>
   exfalso
   have nex:∀xs c,compM T F xs ≠ .ex c:=by
    intro xs
    induction xs with
    | nil=>intro c z;cases z
    | cons x xs ih =>
     intro c z
     rw[compM] at z
     cases e1:noEx (T x) with
     | no=>rw[e1] at z;cases z
     | ex c'=>cases hx:T x <;> rw[hx] at e1 <;> cases e1
     | ok b =>
      rw[e1,Res.bind_ok] at z
      cases b with
      | false=>exact ih c z
      | true =>
       simp only[if_true] at z
       cases e2:noEx (F x) with
       | no=>rw[e2] at z;cases z
       | ex c'=>cases hx:F x <;> rw[hx] at e2 <;> cases e2
       | ok y =>
        rw[e2,Res.bind_ok] at z
        cases e3:compM T F xs with
        | no=>rw[e3] at z;cases z
        | ex c'=>exact ih c' e3
        | ok ys=>rw[e3] at z;cases z
   exact nex ds c ec
  | ok out =>
   rw[ec,Res.bind_ok] at k
   refine⟨fun i m acc H=>m=ds.length-i/\i<=ds.length/\Same H1 H/\∃done rest,Reps H (Uni Oc Ob) acc done/\acc.length<=i/\compM T F (ds.drop i)=.ok rest/\done++rest=out,⟨_,rfl,Nat.zero_le _,Same.refl _,[],out,.nil,Nat.le_refl _,ec,rfl⟩,?_⟩
   rintro i m acc H2 ⟨rfl,hi,s2,done,rest,ra,la,er,eo⟩
   obtain⟨w1,w2⟩:=wk H2 s2 i
   have R2:=(R.same s1).same s2
   by_cases hlt:i<ds.length
   ·obtain⟨go,yl⟩:=w1 ds[i] (List.getElem?_eq_getElem hlt)
    have ed:ds.drop i=ds[i]::ds.drop (i+1):=List.drop_eq_getElem_cons hlt
    rw[ed,compM] at er
    have nxt:∀(acc':List V) (H3:Hp) (done' rest':List D),Same H2 H3->Reps H3 (Uni Oc Ob) acc' done'->acc'.length<=i+1->compM T F (ds.drop (i+1))=.ok rest'->done'++rest'=out ->
      ∃m',m'<ds.length-i/\(m'=ds.length-(i+1)/\i+1<=ds.length/\Same H1 H3/\∃done rest,Reps H3 (Uni Oc Ob) acc' done/\acc'.length<=i+1/\compM T F (ds.drop (i+1))=.ok rest/\done++rest=out) :=
     fun acc' H3 done' rest' s3 r3 l3 c3 o3=>⟨_,by bv_omega,rfl,hlt,s2.trans s3,done',rest',r3,l3,c3,o3⟩
    refine .inr ⟨go,fun acc' H'=>∃m',m'<ds.length-i/\(m'=ds.length-(i+1)/\i+1<=ds.length/\Same H1 H'/\∃done rest,Reps H' (Uni Oc Ob) acc' done/\acc'.length<=i+1/\compM T F (ds.drop (i+1))=.ok rest/\done++rest=out),fun acc' H' z=>z,fun x H3 hy => ?_⟩
    obtain⟨s3,rx⟩:=yl x H3 hy
    have R3:=(R2.same s3).comp (js:=js) rx
    cases e1:noEx (T ds[i]) with
    | no=>rw[e1] at er;cases er
    | ex c=>rw[e1] at er;cases er
    | ok b =>
     rw[e1,Res.bind_ok] at er
     have t1:mt (cEnv ρ js ds[i])=.ok b:=by
      have t1:=zK9 e1
      rw[<-hT] at t1
      exact t1
     refine qt _ _ _ H3 _ _ R3 ?_
     show (mt (cEnv ρ js ds[i])).post _ _
     rw[t1]
     intro H4 s4
     cases b with
     | false=>exact iteF (nxt acc H4 done rest (s3.trans s4) (ra.same (s3.trans s4)) (by bv_omega) er eo)
     | true =>
      refine iteT ?_
      simp only[if_true] at er
      cases e2:noEx (F ds[i]) with
      | no=>rw[e2] at er;cases er
      | ex c=>rw[e2] at er;cases er
      | ok y =>
       rw[e2,Res.bind_ok] at er
       have t2:me (cEnv ρ js ds[i])=.ok y:=by
        have t2:=zK9 e2
        rw[<-hF] at t2
        exact t2
       refine qe _ _ _ H4 _ _ (R3.same s4) ?_
       show (me (cEnv ρ js ds[i])).post _ _
       rw[t2]
       intro v H5 s5 rv
       refine⟨by bv_omega,?_⟩
       obtain⟨ys,e3⟩:∃ys,compM T F (ds.drop (i+1))=.ok ys:=by
        cases e3:compM T F (ds.drop (i+1)) with
        | no=>rw[e3] at er;cases er
        | ex c=>rw[e3] at er;cases er
        | ok ys=>exact⟨ys,rfl⟩
       rw[e3,Res.bind_ok] at er
       cases er
       have rv':Rep H5 (Uni Oc Ob) v y:=Rep.less rv fun b z=>.inl z
       refine nxt (acc ++ [v]) H5 (done ++ [y]) ys ((s3.trans s4).trans s5) ((ra.same ((s3.trans s4).trans s5)).append (.one rv')) (by rw[List.length_append,List.length_singleton];bv_omega) e3 ?_
       rw[List.append_assoc]
       exact eo
   ·have ei:i=ds.length:=by bv_omega
    subst ei
    refine .inl ⟨w2 (Nat.le_refl _),fun p hp => ?_⟩
    rw[List.drop_length] at er
    cases er
    rw[List.append_nil] at eo
    subst eo
    exact k _ _ ((s1.trans s2).trans (Same.new hp)) (wE (s1.trans s2) hp ra)
 ·rw[if_neg hlen] at k
  exact k.elim
theorem wZ {C:Ct}{elt iter:Expr}{ifs:List Expr}{sc0 scope:Scope}{N0:List Str}{px pos:Pos}{xt:Str}{fs:List Str}{js:List Nat}{mi:Ev->Res (List D)}{mt:Ev->Res Bool}{me:Ev->Res D}(S:CompScope sc0 scope N0 xt fs js) (h0:C.X.env.scope=sc0) (hN0:C.X.N=N0) (hc:C.X.calm=true)
  (hi:RIc C (.Name xt px) iter mi) (ht:∀A fp s₂ H,RTs (cC C (xt::fs) scope A fp s₂ H js) ifs mt) (he:∀A fp s₂ H,RE (cC C (xt::fs) scope A fp s₂ H js) .cl elt me)
  (hs:autoParam (∀x,foldedSetIterable iter C.X.env x=pure x) qU._auto_1) :
  RE C .new (.ListComp elt [⟨.Name xt px,iter,ifs,0⟩] scope pos) (eComp mi mt me js):=by
 obtain⟨wi,pi,qi⟩:=hi
 refine⟨_,wV6 (tt:=fun A fp s H=>Classical.choose (ht A fp s H)) (te:=fun A fp s H=>Classical.choose (he A fp s H)) S h0 hN0 hc pi (fun A fp s H=>(Classical.choose_spec (ht A fp s H)).1) (fun A fp s H=>(Classical.choose_spec (he A fp s H)).1) hs,fun Oc Ob σ H ρ Q R h=>yS9 qi ht he R h⟩
section
variable {C:Ct}{fr:Bool}{e c:Expr}{pos:Pos}{md:Md}{me:Ev->Res D}{mt:Ev->Res Bool}{st:Stmt}{sts rest:List Stmt}{m n:Ev->Res Out}
def sN:Ev->Res Out:=fun ρ=>.ok (.nx ρ)
def sQ (m n:Ev->Res Out):Ev->Res Out:=fun ρ=>(m ρ).bind fun o=>match o with
 | .nx ρ'=>n ρ'
 | .rt d=>.ok (.rt d)
theorem yY:RSs C fr [] sN:=⟨_,wX7,fun Oc Ob σ H ρ E R h=>h σ H Ob R (Same.frm (Same.refl H)) fun b z=>.inl z⟩
theorem zS (h:RS C fr st m):RSs C fr [st] m:=by
 obtain⟨t,p,q⟩:=h
 exact⟨_,wY6 p,q⟩
theorem zW (h:RS C fr st m) (hr:RSs C fr rest n):RSs C fr (st::rest) (sQ m n):=by
 obtain⟨t,p,q⟩:=h
 obtain⟨t',p',q'⟩:=hr
 refine⟨_,xF3 p p',fun Oc Ob σ H ρ E R h=>q Oc Ob σ H ρ _ R (Res.zO (Res.zT h) (fun o _ k => ?_) fun _ z=>z)⟩
 cases o with
 | rt d=>exact k
 | nx ρ'=>exact fun σ' H' Ob' R' f s=>q' Oc Ob' σ' H' ρ' E R' (SPost.step f s k)
def sX:Ev->Res Out:=fun _=>.no
theorem zT3:RS C fr st sX:=⟨_,xI9,fun Oc Ob σ H ρ E R h=>h.elim⟩
def sIf (t:Ev->Res Bool) (m n:Ev->Res Out):Ev->Res Out:=fun ρ=>(t ρ).bind fun b=>if b then m ρ else n ρ
theorem yN {x y:List Stmt}(hc:RT C c mt) (hx:RSs C fr x m) (hy:RSs C fr y n):RS C fr (.If c x y pos) (sIf mt m n):=by
 obtain⟨t,p,q⟩:=hc
 obtain⟨t1,p1,q1⟩:=hx
 obtain⟨t2,p2,q2⟩:=hy
 refine⟨_,wH2 p p1 p2,fun Oc Ob σ H ρ E R h=>q Oc Ob σ H ρ _ R (Res.zO (Res.zT h) (fun b _ k H' s => ?_) fun c z H' s=>z H' (Same.frm s))⟩
 cases b with
 | true=>exact iteT (q1 Oc Ob σ H' ρ E (R.same s) (SPost.same s k))
 | false=>exact iteF (q2 Oc Ob σ H' ρ E (R.same s) (SPost.same s k))
def sR (m:Ev->Res D):Ev->Res Out:=fun ρ=>(m ρ).bind fun d=>.ok (.rt d)
theorem zG (he:RE C .cl e me):RS C false (.Return (some e) pos) (sR me):=by
 obtain⟨t,p,q⟩:=he
 refine⟨_,xL7 p,fun Oc Ob σ H ρ E R h=>q Oc Ob σ H ρ _ R (Res.zO (Res.zT h) (fun d _ k v H' s r => ?_) fun c z H' s=>z H' (Same.frm s))⟩
 exact k v H' (Same.frm s) (Rep.less r fun b z=>.inl z)
theorem zY6 (i:Nat){x:Str}{p':Pos}(hN:autoParam (C.X.N[i]?=some x) zU._auto_1) (ho:autoParam (C.om.contains i=true) zU._auto_1) (hv:autoParam (Vis C.X.env.scope x) jU._auto_1) (hd:autoParam ((x == ("__debug__":Str))=false) yX._auto_1)
  (hcd:autoParam ((x == ("__classdict__":Str))=false) yX._auto_1):RS C true (.Return (some (.Name x p')) pos) (sR (eV i)):=by
 refine⟨_,xL7 (jX hN hv hd hcd),fun Oc Ob σ H ρ E R h => ?_⟩
 obtain⟨d,e,k⟩:=vK (Res.zT h)
 obtain⟨v,q,a,ys,ds,e1,e2,e3,e4,e5⟩:=R.own i d e (wR ho)
 exact⟨v,q,k v H (Same.frm (Same.refl H)) ⟨a,ys,ds,e1,e2,.inr e4,R.ap a e4,e3,e5.less fun b z=>z.elim .inl fun z=>.inr (by subst z;exact e4)⟩⟩
theorem xI {α:Type}{l:List (Option α)}{i j:Nat}{v d:α}(h:(l.set i (some v))[j]?=some (some d)):(j=i/\d=v)\/(j≠i/\l[j]?=some (some d)):=by
 by_cases e:i=j
 ·subst e
  rw[List.getElem?_set_self'] at h
  cases q:l[i]? with
  | none=>rw[q] at h;cases h
  | some z=>rw[q] at h;cases h;exact .inl ⟨rfl,rfl⟩
 ·rw[List.getElem?_set_ne e] at h
  exact .inr ⟨fun z=>e z.symm,h⟩
theorem zC8 {α:Type}{l:List (Option α)}{i j:Nat}{v d:α}(h:(l.set i (some v))[j]?=some (some d)):j<l.length:=by
 have:=(List.getElem?_eq_some_iff.mp h).1
 simpa using this
theorem Rel.set {Oc:Wd}{Ob:Addr->Prop}{om ln:List Nat}{σ:St}{H:Hp}{ρ:Ev}{i:Nat}{v:V}{d:D}(R:Rel Oc Ob om ln σ H ρ) (ho:i∉om) (hl:i∉ln) (r:Rep H (Uni Oc Ob) v d):Rel Oc Ob om ln (σ.set i (some v)) H (ρ.set i (some d)) where
 len:=by rw[List.length_set,List.length_set];exact R.len
 val:=fun j d' e h1 h2=>by
  have hj:=zC8 e
  rcases xI e with ⟨rfl,rfl⟩ | ⟨ne,e⟩
  ·exact⟨v,by rw[List.getElem?_set_self (by rw[R.len];exact hj)],r⟩
  ·obtain⟨w,q,k⟩:=R.val j d' e h1 h2
   exact⟨w,by rw[List.getElem?_set_ne (fun z=>ne z.symm)];exact q,k⟩
 own:=fun j d' e h1=>by
  rcases xI e with ⟨rfl,rfl⟩ | ⟨ne,e⟩
  ·exact absurd h1 ho
  ·obtain⟨w,q,k⟩:=R.own j d' e h1
   exact⟨w,by rw[List.getElem?_set_ne (fun z=>ne z.symm)];exact q,k⟩
 lnt:=fun j d' e h1 h2=>by
  rcases xI e with ⟨rfl,rfl⟩ | ⟨ne,e⟩
  ·exact absurd h2 hl
  ·obtain⟨w,q,k⟩:=R.lnt j d' e h1 h2
   exact⟨w,by rw[List.getElem?_set_ne (fun z=>ne z.symm)];exact q,k⟩
 inj:=fun j k dj dk a ej ek hj hk qj qk=>by
  rcases xI ej with ⟨rfl,rfl⟩ | ⟨nj,ej⟩
  ·exact absurd hj ho
  ·rcases xI ek with ⟨rfl,rfl⟩ | ⟨nk,ek⟩
   ·exact absurd hk ho
   ·rw[List.getElem?_set_ne (fun z=>nj z.symm)] at qj
    rw[List.getElem?_set_ne (fun z=>nk z.symm)] at qk
    exact R.inj j k dj dk a ej ek hj hk qj qk
 oh:=R.oh
 ap:=R.ap
theorem Rel.setO {Oc:Wd}{Ob:Addr->Prop}{om ln:List Nat}{σ:St}{H H':Hp}{ρ:Ev}{i:Nat}{v:V}{d:D}(R:Rel Oc Ob om ln σ H ρ) (s:Same H H') (ho:i∈om) (r:VR .new Oc Ob H H' v d):∃a,H a=none/\Rel Oc (fun b=>Ob b\/b=a) om ln (σ.set i (some v)) H' (ρ.set i (some d)):=by
 obtain⟨a,ys,ds,rfl,rfl,e3,e4,e5⟩:=r
 have up:∀{vs:List V}{es:List D},Reps H (Uni Oc Ob) vs es->Reps H' (Uni Oc fun b=>Ob b\/b=a) vs es:=fun r=>r.keep (fun b o e _=>s b o e) fun b n z=>z.elim .inl fun z=>z.elim .inr fun z=>by subst z;exact absurd e3 n
 have up1:∀{v:V}{e:D},Rep H (Uni Oc Ob) v e->Rep H' (Uni Oc fun b=>Ob b\/b=a) v e:=fun r=>r.keep (fun b o e _=>s b o e) fun b n z=>z.elim .inl fun z=>z.elim .inr fun z=>by subst z;exact absurd e3 n
 refine⟨a,e3,?_,fun j d' e h1 h2 => ?_,fun j d' e h1 => ?_,fun j d' e h1 h2 => ?_,fun j k dj dk b ej ek hj hk qj qk => ?_,fun b z => ?_,fun b z => ?_⟩
 ·rw[List.length_set,List.length_set];exact R.len
 ·rcases xI e with ⟨rfl,rfl⟩ | ⟨ne,e⟩
  ·exact absurd ho h1
  ·obtain⟨w,q,k⟩:=R.val j d' e h1 h2
   exact⟨w,by rw[List.getElem?_set_ne (fun z=>ne z.symm)];exact q,up1 k⟩
 ·have hj:=zC8 e
  rcases xI e with ⟨rfl,rfl⟩ | ⟨ne,e⟩
  ·refine⟨.ref a,by rw[List.getElem?_set_self (by rw[R.len];exact hj)],a,ys,ds,rfl,rfl,e4,.inr rfl,e5.less fun b z=>z.elim (fun z=>.inl (.inl z)) fun z=>z.elim (fun z=>.inl (.inr z)) .inr⟩
  ·obtain⟨w,q,b,zs,fs,z1,z2,z3,z4,z5⟩:=R.own j d' e h1
   exact⟨w,by rw[List.getElem?_set_ne (fun z=>ne z.symm)];exact q,b,zs,fs,z1,z2,s _ _ z3,.inl z4,up z5⟩
 ·rcases xI e with ⟨rfl,rfl⟩ | ⟨ne,e⟩
  ·exact absurd ho h1
  ·obtain⟨w,q,zs,fs,z1,z2,z3,z4,z5⟩:=R.lnt j d' e h1 h2
   exact⟨w,by rw[List.getElem?_set_ne (fun z=>ne z.symm)];exact q,zs,fs,z1,z2,s _ _ z3,z4,up z5⟩
 ·have lj:=zC8 ej
  have lk:=zC8 ek
  rcases xI ej with ⟨rfl,rfl⟩ | ⟨nj,ej'⟩
  ·rw[List.getElem?_set_self (by rw[R.len];exact lj)] at qj
   cases qj
   rcases xI ek with ⟨rfl,rfl⟩ | ⟨nk,ek'⟩
   ·rfl
   ·rw[List.getElem?_set_ne (fun z=>nk z.symm)] at qk
    obtain⟨w,q,b,zs,fs,z1,z2,z3,z4,z5⟩:=R.own k dk ek' hk
    rw[qk] at q
    cases q
    cases z1
    rw[e3] at z3
    cases z3
  ·rw[List.getElem?_set_ne (fun z=>nj z.symm)] at qj
   rcases xI ek with ⟨rfl,rfl⟩ | ⟨nk,ek'⟩
   ·rw[List.getElem?_set_self (by rw[R.len];exact lk)] at qk
    cases qk
    obtain⟨w,q,b,zs,fs,z1,z2,z3,z4,z5⟩:=R.own j dj ej' hj
    rw[qj] at q
    cases q
    cases z1
    rw[e3] at z3
    cases z3
   ·rw[List.getElem?_set_ne (fun z=>nk z.symm)] at qk
    exact R.inj j k dj dk b ej' ek' hj hk qj qk
 ·rcases z with z | z | rfl
  ·exact Same.ne s (R.oh b (.inl z))
  ·exact Same.ne s (R.oh b (.inr z))
  ·rw[e4];exact fun z=>nomatch z
 ·rcases z with z | rfl
  ·exact R.ap b z
  ·exact fun z=>R.oh b (.inl z) e3
def sS (i:Nat) (m:Ev->Res D):Ev->Res Out:=fun ρ=>(m ρ).bind fun d=>.ok (.nx (ρ.set i (some d)))
theorem zH (i:Nat){x:Str}{p':Pos}(nd:C.X.N.Nodup) (he:RE C .cl e me) (hi:autoParam (C.X.N[i]?=some x) zU._auto_1) (ho:autoParam (C.om.contains i=false) zU._auto_1) (hl:autoParam (C.ln.contains i=false) zU._auto_1) (hx:autoParam (Loc C.X.env.scope x) zW9._auto_1)
  (hs:autoParam (swapsWith e (some (.Name x p')) pos.line C.X.env=pure false) zU._auto_1) (hf:autoParam (C.X.fn x=true\/C.X.env.scope.names.lookup x=some .local) autoK12._auto_1):RS C fr (.Assign [.Name x p'] e pos) (sS i me):=by
 obtain⟨t,p,q⟩:=he
 refine⟨_,xP2 nd hi hx p hs hf,fun Oc Ob σ H ρ E R h=>q Oc Ob σ H ρ _ R (Res.zO (Res.zT h) (fun d _ k v H' s r => ?_) fun c z H' s=>z H' (Same.frm s))⟩
 exact k _ H' Ob ((R.same s).set (xO ho) (xO hl) r) (Same.frm s) fun b z=>.inl z
theorem xW (i:Nat){x:Str}{p':Pos}(nd:C.X.N.Nodup) (he:RE C .new e me) (hi:autoParam (C.X.N[i]?=some x) zU._auto_1) (ho:autoParam (C.om.contains i=true) zU._auto_1) (hx:autoParam (Loc C.X.env.scope x) zW9._auto_1)
  (hs:autoParam (swapsWith e (some (.Name x p')) pos.line C.X.env=pure false) zU._auto_1) (hf:autoParam (C.X.fn x=true\/C.X.env.scope.names.lookup x=some .local) autoK12._auto_1):RS C fr (.Assign [.Name x p'] e pos) (sS i me):=by
 obtain⟨t,p,q⟩:=he
 refine⟨_,xP2 nd hi hx p hs hf,fun Oc Ob σ H ρ E R h=>q Oc Ob σ H ρ _ R (Res.zO (Res.zT h) (fun d _ k v H' s r => ?_) fun c z H' s=>z H' (Same.frm s))⟩
 obtain⟨a,ha,R'⟩:=R.setO s (wR ho) r
 exact k _ H' _ R' (Same.frm s) fun b z=>z.elim .inl fun z=>.inr (by subst z;exact ha)
theorem kZ (i:Nat){x:Str}{p':Pos}{op:Operator}{r:R2}{f:D->D->Option D}(nd:C.X.N.Nodup) (hop:OpR C.X (inplaceOp op) r) (hp:Pr2 r .cl f) (he:RE C md e me) (hi:autoParam (C.X.N[i]?=some x) zU._auto_1) (ho:autoParam (C.om.contains i=false) zU._auto_1) (hl:autoParam (C.ln.contains i=false) zU._auto_1) (hx:autoParam (Loc C.X.env.scope x) zW9._auto_1)
  (hf:autoParam (C.X.fn x=true\/C.X.env.scope.names.lookup x=some .local) autoK12._auto_1):RS C fr (.AugAssign (.Name x p') op e pos) (sS i (e2 f (eV i) me)):=by
 obtain⟨t,p,q⟩:=he
 refine⟨_,wI3 (ti:=r) nd hi hx p hop hf,fun Oc Ob σ H ρ E R h => ?_⟩
 obtain⟨d,ed,k⟩:=vK (Res.zT (Res.zT h))
 obtain⟨v,qv,rv⟩:=R.val i d ed (xO ho) (xO hl)
 refine⟨v,qv,q Oc Ob σ H ρ _ R (Res.zO (Res.zT k) (fun d' _ k v' H' s r' => ?_) fun c z H' s=>z H' (Same.frm s))⟩
 obtain⟨d2,e,k⟩:=Res.zF k
 refine hp Oc Ob H' v v' d d' d2 _ (R.same s).oh (.inl (rv.same s)) (r'.va R.oh) e fun w H2 s2 rw' => ?_
 exact k _ H2 Ob ((R.same (s.trans s2)).set (xO ho) (xO hl) rw') (Same.frm (s.trans s2)) fun b z=>.inl z
def sE (m:Ev->Res D):Ev->Res Out:=fun ρ=>(m ρ).bind fun _=>.ok (.nx ρ)
theorem vJ (he:RE C md e me) (hs:autoParam (swapsWith e none pos.line C.X.env=pure false) zU._auto_1):RS C fr (.Expr e pos) (sE me):=by
 obtain⟨t,p,q⟩:=he
 refine⟨_,zI2 p hs,fun Oc Ob σ H ρ E R h=>q Oc Ob σ H ρ _ R (Res.zO (Res.zT h) (fun d _ k v H' s r => ?_) fun c z H' s=>z H' (Same.frm s))⟩
 exact k σ H' Ob (R.same s) (Same.frm s) fun b z=>.inl z
theorem Rel.write {Oc:Wd}{Ob:Addr->Prop}{om ln:List Nat}{σ:St}{H:Hp}{ρ:Ev}{i:Nat}{a:Addr}{ys ys':List V}{d:D}{ds':List D}(R:Rel Oc Ob om ln σ H ρ) (ho:i∈om) (ed:ρ[i]?=some (some d)) (es:σ[i]?=some (some (.ref a))) (ha:H a=some (.lst ys)) (hb:Ob a)
  (r:Reps H (Uni Oc Ob) ys' ds'):Rel Oc Ob om ln σ (upd H a (.lst ys')) (ρ.set i (some (.list ds'))):=by
 have kp:∀b o,H b=some o->¬Uni Oc Ob b->upd H a (.lst ys') b=some o:=fun b o e n=>by
  rw[yU (fun z=>n (by subst z;exact .inr hb))];exact e
 have up:∀{vs:List V}{es:List D},Reps H (Uni Oc Ob) vs es->Reps (upd H a (.lst ys')) (Uni Oc Ob) vs es:=fun r=>r.keep kp fun b n z=>z
 have up1:∀{v:V}{e:D},Rep H (Uni Oc Ob) v e->Rep (upd H a (.lst ys')) (Uni Oc Ob) v e:=fun r=>r.keep kp fun b n z=>z
 have li:i<σ.length:=(List.getElem?_eq_some_iff.mp es).1
 refine⟨by rw[List.length_set];exact R.len,fun j d' e h1 h2 => ?_,fun j d' e h1 => ?_,fun j d' e h1 h2 => ?_,fun j k dj dk b ej ek hj hk qj qk => ?_,fun b z => ?_,R.ap⟩
 ·rcases xI e with ⟨rfl,rfl⟩ | ⟨ne,e⟩
  ·exact absurd ho h1
  ·obtain⟨w,q,k⟩:=R.val j d' e h1 h2
   exact⟨w,q,up1 k⟩
 ·rcases xI e with ⟨rfl,rfl⟩ | ⟨ne,e⟩
  ·exact⟨.ref a,es,a,ys',ds',rfl,rfl,uC,hb,up r⟩
  ·obtain⟨w,q,b,zs,fs,rfl,z2,z3,z4,z5⟩:=R.own j d' e h1
   have nb:b≠a:=fun z=>by subst z;exact ne (R.inj j i d' d b e ed h1 ho q es)
   exact⟨_,q,b,zs,fs,rfl,z2,by rw[yU nb];exact z3,z4,up z5⟩
 ·rcases xI e with ⟨rfl,rfl⟩ | ⟨ne,e⟩
  ·exact absurd ho h1
  ·obtain⟨w,q,zs,fs,z1,z2,z3,z4,z5⟩:=R.lnt j d' e h1 h2
   have nb:Oc.la j≠a:=fun z=>R.ap a hb (z▸z4)
   exact⟨_,q,zs,fs,z1,z2,by rw[yU nb];exact z3,z4,up z5⟩
 ·have get:∀j dj,(ρ.set i (some (.list ds')))[j]?=some (some dj)->∃d,ρ[j]?=some (some d):=fun j dj e=>by
   rcases xI e with ⟨rfl,rfl⟩ | ⟨ne,e⟩
   ·exact⟨d,ed⟩
   ·exact⟨dj,e⟩
  obtain⟨d1,e1⟩:=get j dj ej
  obtain⟨d2,e2⟩:=get k dk ek
  exact R.inj j k d1 d2 b e1 e2 hj hk qj qk
 ·by_cases h:b=a
  ·subst h;rw[uC];exact fun z=>nomatch z
  ·rw[yU h];exact R.oh b z
def PrM (r:V->List V->Hp->VK->Prop) (g:List D->List D->Option (List D)):Prop :=
 ∀(O:Addr->Prop) (H:Hp) (l:Addr) (xs vs:List V) (xd ad ds':List D) (Q:VK),H l=some (.lst xs)->Reps H O xs xd->Reps H O vs ad->g xd ad=some ds'->(∀xs',Reps H O xs' ds'->Q .non (upd H l (.lst xs')))->r (.ref l) vs H Q
def lstD:D->Option (List D)
 | .list ds=>some ds
 | _=>none
def sM (i:Nat) (g:List D->List D->Option (List D)) (m:Ev->Res (List D)):Ev->Res Out:=fun ρ=>(eV i ρ).bind fun d=>(Res.lft (lstD d)).bind fun xd=>(m ρ).bind fun ad=>(Res.lft (g xd ad)).bind fun ds=>.ok (.nx (ρ.set i (some (.list ds))))
theorem vF {d:D}{ds:List D}(h:lstD d=some ds):d=.list ds:=by
 cases d <;> simp[lstD] at h ⊢
 exact h
theorem jM (i:Nat){x name:Str}{id:String}{a:Expr}{es:List Expr}{ms:Ev->Res (List D)}{p' apos cpos:Pos}{r:V->List V->Hp->VK->Prop}{g:List D->List D->Option (List D)}(slot:Slot "list" name id) (hty:typeOf (.builtin id)=pure (.type "method_descriptor")) (hm:MtR C.X id r) (hp:PrM r g) (ha:RArg C true (a::es) ms)
  (hN:autoParam (C.X.N[i]?=some x) zU._auto_1) (ho:autoParam (C.om.contains i=true) zU._auto_1) (hv:autoParam (Vis C.X.env.scope x) jU._auto_1) (hd:autoParam ((x == ("__debug__":Str))=false) yX._auto_1) (hcd:autoParam ((x == ("__classdict__":Str))=false) yX._auto_1)
  (hbase:autoParam (attributeBase (.Name x p') name C.X.env (eval (.Name x p') C.X.env)=eval (.Name x p') C.X.env) zU._auto_1)
  (hfew:((backTo cpos (starEach (a::es) C.X.env)).all (fun x=>!x.1)&&(backToKw cpos (keywordEach [] C.X.env)).all (fun x=>x.1.isSome)
  &&decide ((a::es).length+([]:List Keyword).length+(if ([]:List Keyword).isEmpty then 0 else 1)<30))=true:=by rfl)
  (hline:autoParam ((apos.endLine == cpos.line)=true) zU._auto_1) (hs:autoParam (starEach (a::es) C.X.env=(false,eval a C.X.env)::starEach es C.X.env) zU._auto_1) (hplain:autoParam ((backTo cpos (starEach es C.X.env)).any (·.1)=false) zU._auto_1)
  (hsw:autoParam (swapsWith (.Call (.Attribute (.Name x p') name apos) (a::es) [] cpos) none pos.line C.X.env=pure false) zU._auto_1) :
  RS C fr (.Expr (.Call (.Attribute (.Name x p') name apos) (a::es) [] cpos) pos) (sM i g ms):=by
 obtain⟨t,p,q⟩:=ha
 refine⟨_,zI2 (zJ3 PySem.F.plainAttrs_list slot hty hm (jX hN hv hd hcd) p hbase hfew hline hs hplain) hsw,fun Oc Ob σ H ρ E R h => ?_⟩
 obtain⟨d,ed,k⟩:=vK (Res.zT h)
 obtain⟨xd,ex,k⟩:=Res.zF (Res.zT k)
 obtain rfl:=vF ex
 obtain⟨v,qv,l,ys,ds,rfl,e2,e3,e4,e5⟩:=R.own i _ ed (wR ho)
 cases e2
 refine⟨_,qv,.inl ⟨rfl,_,SqL.of e3⟩,q Oc Ob σ H ρ _ R (Res.zO (Res.zT k) (fun ad _ k vs H' s r' => ?_) fun c z H' s=>z H' (Same.frm s))⟩
 obtain⟨ds',eg,k⟩:=Res.zF (Res.zT k)
 refine hp _ H' l ys vs xd ad ds' _ (s _ _ e3) (e5.same s) r' eg fun xs' rx => ?_
 refine k _ _ Ob ((R.same s).write (wR ho) ed qv (s _ _ e3) e4 rx) (fun b o e n => ?_) fun b z=>.inl z
 rw[yU (fun z=>n (by subst z;exact e4))]
 exact s b o e
end
def RG (C:Ct) (tg:Expr) (g:D->Ev->Option Ev):Prop :=
 ∃t,PG C.X tg t/\∀(Oc:Wd) (Ob:Addr->Prop) (σ:St) (H:Hp) (ρ ρ':Ev) (v:V) (d:D) (Q:St->Hp->Prop),Rel Oc Ob C.om C.ln σ H ρ->Rep H (Uni Oc Ob) v d->g d ρ=some ρ'->(∀σ',Rel Oc Ob C.om C.ln σ' H ρ'->Q σ' H)->t v σ H Q
def gN (i:Nat):D->Ev->Option Ev:=fun d ρ=>some (ρ.set i (some d))
section
variable {C:Ct}{fr:Bool}{e c:Expr}{es:List Expr}{pos:Pos}{md:Md}{me:Ev->Res D}{mt:Ev->Res Bool}{st:Stmt}{body sts rest:List Stmt}{m n:Ev->Res Out}{mi:Ev->Res (List D)}{g:D->Ev->Option Ev}
theorem yT (i:Nat){x:Str}(nd:C.X.N.Nodup) (hi:autoParam (C.X.N[i]?=some x) zU._auto_1) (ho:autoParam (C.om.contains i=false) zU._auto_1) (hl:autoParam (C.ln.contains i=false) zU._auto_1) (hx:autoParam (Loc C.X.env.scope x) zW9._auto_1)
  (hf:autoParam (C.X.fn x=true\/C.X.env.scope.names.lookup x=some .local) autoK12._auto_1):RG C (.Name x pos) (gN i):=by
 refine⟨_,zK7 nd hi hx hf,fun Oc Ob σ H ρ ρ' v d Q R r e k => ?_⟩
 cases e
 exact k _ (R.set (xO ho) (xO hl) r)
def RGs (C:Ct) (ts:List Expr) (g:List D->Ev->Option Ev):Prop :=
 ∃t,PGs C.X ts t/\∀(Oc:Wd) (Ob:Addr->Prop) (σ:St) (H:Hp) (ρ ρ':Ev) (vs:List V) (ds:List D) (Q:St->Hp->Prop),Rel Oc Ob C.om C.ln σ H ρ->Reps H (Uni Oc Ob) vs ds->g ds ρ=some ρ'->(∀σ',Rel Oc Ob C.om C.ln σ' H ρ'->Q σ' H)->t vs σ H Q
def gsN:List D->Ev->Option Ev
 | [],ρ=>some ρ
 | _,_=>none
def gsC (g:D->Ev->Option Ev) (h:List D->Ev->Option Ev):List D->Ev->Option Ev
 | d::ds,ρ=>(g d ρ).bind fun ρ1=>h ds ρ1
 | [],_=>none
theorem zW7:RGs C [] gsN:=by
 refine⟨_,xY3,fun Oc Ob σ H ρ ρ' vs ds Q R r e k => ?_⟩
 cases r with
 | nil=>cases e;exact⟨rfl,k σ R⟩
 | cons=>cases e
theorem uV {h:List D->Ev->Option Ev}(h1:RG C e g) (h2:RGs C es h) (hs:autoParam ((assignEach (e::es) C.X.env).map (·.2)=assign e C.X.env::(assignEach es C.X.env).map (·.2)) zU._auto_1):RGs C (e::es) (gsC g h):=by
 obtain⟨t,p,q⟩:=h1
 obtain⟨t',p',q'⟩:=h2
 refine⟨_,zF6 p p' hs,fun Oc Ob σ H ρ ρ' vs ds Q R r e k => ?_⟩
 cases r with
 | nil=>cases e
 | cons r rs =>
  obtain⟨ρ1,e1,e2⟩:=Option.bind_eq_some_iff.mp e
  exact⟨_,_,rfl,q Oc Ob σ H ρ ρ1 _ _ _ R r e1 fun σ' R'=>q' Oc Ob σ' H ρ1 ρ' _ _ Q R' rs e2 k⟩
def gT (n:Nat) (h:List D->Ev->Option Ev):D->Ev->Option Ev
 | .tuple ds,ρ=>if ds.length=n then h ds ρ else none
 | _,_=>none
theorem xN2 {k n:Nat}{h:List D->Ev->Option Ev}(hc:C.X.calm=true) (hg:RGs C es h) (hn:autoParam ((assignEach es C.X.env).length=n) zU._auto_1) (hst:autoParam ((assignEach es C.X.env).findIdx? (·.1)=none) zU._auto_1):RG C (.Tuple es k pos) (gT n h):=by
 obtain⟨t,p,q⟩:=hg
 refine⟨_,xQ1 hc p hn hst,fun Oc Ob σ H ρ ρ' v d Q R r e k => ?_⟩
 cases r with
 | tup rd no rs =>
  unfold gT at e
  simp only at e
  split at e
  ·rename_i hl
   exact⟨_,_,rfl,.inl rd,by rw[rs.length];exact hl,q Oc Ob σ H ρ ρ' _ _ Q R rs e k⟩
  ·cases e
 | _=>cases e
theorem wM3 {tg:Expr}(he:RE C .cl e me) (hg:RG C tg g) (hs:autoParam (swapsWithSole [tg] e pos.line C.X.env=pure false) zU._auto_1) (hw:autoParam (swappedStores [tg] e C.X.env=pure none) zU._auto_1)
  (h1:autoParam ((assignEach [tg] C.X.env).map (·.2)=[assign tg C.X.env]) zU._auto_1):RS C fr (.Assign [tg] e pos) (fun ρ=>(me ρ).bind fun d=>(Res.lft (g d ρ)).bind fun ρ'=>.ok (.nx ρ')):=by
 obtain⟨t,p,q⟩:=he
 obtain⟨t',p',q'⟩:=hg
 refine⟨_,xP7 p p' hs hw h1,fun Oc Ob σ H ρ E R h=>q Oc Ob σ H ρ _ R (Res.zO (Res.zT h) (fun d _ k v H' s r => ?_) fun c z H' s=>z H' (Same.frm s))⟩
 obtain⟨ρ',e,k⟩:=Res.zF (Res.zT k)
 exact q' Oc Ob σ H' ρ ρ' v d _ (R.same s) r e fun σ' R'=>k σ' H' Ob R' (Same.frm s) fun b z=>.inl z
def forM (g:D->Ev->Option Ev) (b:Ev->Res Out):List D->Ev->Res Out
 | [],ρ=>.ok (.nx ρ)
 | x::xs,ρ=>(Res.lft (g x ρ)).bind fun ρ1=>(b ρ1).bind fun o=>match o with
  | .nx ρ2=>forM g b xs ρ2
  | .rt d=>.ok (.rt d)
def sF (mi:Ev->Res (List D)) (g:D->Ev->Option Ev) (b:Ev->Res Out):Ev->Res Out:=fun ρ=>(mi ρ).bind fun ds=>forM g b ds ρ
theorem xS {tg iter:Expr}(hi:RI C tg iter mi) (hg:RG C tg g) (hb:RSs C fr body m) (hp:autoParam (PassesOwn (model C.X.prog C.X.w) C.X.A C.X.env C.X.xe) autoK13._auto_1) (hc:autoParam (C.X.calm=true) zU._auto_1)
  (hs:autoParam (∀x,foldedSetIterable iter C.X.env x=pure x) qU._auto_1):RS C fr (.For tg iter body [] pos) (sF mi g m):=by
 obtain⟨wi,pi,qi⟩:=hi
 obtain⟨tg',pg,qg⟩:=hg
 obtain⟨tb,pb,qb⟩:=hb
 refine⟨_,xR8 hp hc pi pg pb hs,fun Oc Ob σ H ρ E R h=>qi Oc Ob σ H ρ _ R (Res.zO (Res.zT h) (fun ds _ k J H1 s1 wk => ?_) fun c z H' s=>z H' (Same.frm s))⟩
 refine⟨fun i mm σ' H'=>mm=ds.length-i/\i<=ds.length/\∃ρi Obi,Rel Oc Obi C.om C.ln σ' H' ρi/\Frm Ob H1 H'/\(∀b,Obi b->Ob b\/H1 b=none)/\SPost C fr Oc Obi H' E (forM g m (ds.drop i) ρi),
  ⟨_,rfl,Nat.zero_le _,ρ,Ob,R.same s1,Same.frm (Same.refl _),fun b z=>.inl z,SPost.same s1 k⟩,?_⟩
 rintro i mm σ2 H2 ⟨rfl,hi,ρi,Obi,R2,f2,sb2,k2⟩
 obtain⟨w1,w2⟩:=wk H2 Obi f2 sb2 i
 by_cases hlt:i<ds.length
 ·obtain⟨go,yl⟩:=w1 ds[i] (List.getElem?_eq_getElem hlt)
  have ed:ds.drop i=ds[i]::ds.drop (i+1):=List.drop_eq_getElem_cons hlt
  rw[ed,forM] at k2
  obtain⟨ρ1,e1,k2⟩:=Res.zF (Res.zT k2)
  refine .inr ⟨go,fun σ' H'=>∃m',m'<ds.length-i/\(m'=ds.length-(i+1)/\i+1<=ds.length/\∃ρi Obi,Rel Oc Obi C.om C.ln σ' H' ρi/\Frm Ob H1 H'/\(∀b,Obi b->Ob b\/H1 b=none)/\SPost C fr Oc Obi H' E (forM g m (ds.drop (i+1)) ρi)),fun _ _ z=>z,fun x H3 hy => ?_⟩
  obtain⟨s3,rx⟩:=yl x H3 hy
  refine qg Oc Obi σ2 H3 ρi ρ1 x _ _ (R2.same s3) rx e1 fun σ3 R3 => ?_
  have k3:=SPost.same s3 (show SPost C fr Oc Obi H2 E _ from k2)
  refine qb Oc Obi σ3 H3 ρ1 _ R3 (Res.zO (Res.zT k3) (fun o _ k4 => ?_) fun _ z=>z)
  cases o with
  | rt d=>exact k4
  | nx ρ2 =>
   intro σ4 H4 Ob4 R4 f4 sb4
   have f3:Frm Ob H1 H3:=fun b o e n=>s3 b o (f2 b o e n)
   refine⟨_,by bv_omega,rfl,hlt,ρ2,Ob4,R4,f3.trans sb2 f4,fun b z=>(sb4 b z).elim (sb2 b) fun z=>f3.none z,SPost.step f4 sb4 k4⟩
 ·have ei:i=ds.length:=by bv_omega
  subst ei
  rw[List.drop_length] at k2
  exact .inl ⟨w2 (Nat.le_refl _),k2 σ2 H2 Obi R2 (Same.frm (Same.refl _)) fun b z=>.inl z⟩
def whM (t:Ev->Res Bool) (b:Ev->Res Out):Nat->Ev->Res Out
 | 0,_=>.no
 | k+1,ρ=>(t ρ).bind fun c=>if c then (b ρ).bind fun o=>match o with
  | .nx ρ'=>whM t b k ρ'
  | .rt d=>.ok (.rt d) else .ok (.nx ρ)
def sW (fuel:Nat) (t:Ev->Res Bool) (b:Ev->Res Out):Ev->Res Out:=fun ρ=>whM t b fuel ρ
theorem bF (fuel:Nat) (hc:RT C c mt) (hb:RSs C fr body m) (hp:autoParam (PassesOwn (model C.X.prog C.X.w) C.X.A C.X.env C.X.xe) autoK13._auto_1):RS C fr (.While c body [] pos) (sW fuel mt m):=by
 obtain⟨t,p,q⟩:=hc
 obtain⟨tb,pb,qb⟩:=hb
 refine⟨_,xH6 hp p pb,fun Oc Ob σ H ρ E R h => ?_⟩
 refine⟨fun mm σ' H'=>∃ρi Obi,Rel Oc Obi C.om C.ln σ' H' ρi/\Frm Ob H H'/\(∀b,Obi b->Ob b\/H b=none)/\SPost C fr Oc Obi H' E (whM mt m mm ρi),⟨fuel,ρ,Ob,R,Same.frm (Same.refl _),fun b z=>.inl z,h⟩,?_⟩
 rintro mm σ2 H2 ⟨ρi,Obi,R2,f2,sb2,k2⟩
 cases mm with
 | zero=>exact k2.elim
 | succ mm =>
  rw[whM] at k2
  refine q Oc Obi σ2 H2 ρi _ R2 (Res.zO (Res.zT k2) (fun b _ k3 H3 s3 => ?_) fun c z H' s=>z H' (Same.frm s))
  cases b with
  | false=>exact iteF (k3 σ2 H3 Obi (R2.same s3) (Same.frm s3) fun b z=>.inl z)
  | true =>
   refine iteT ⟨fun σ' H'=>∃m',m'<mm+1/\∃ρi Obi,Rel Oc Obi C.om C.ln σ' H' ρi/\Frm Ob H H'/\(∀b,Obi b->Ob b\/H b=none)/\SPost C fr Oc Obi H' E (whM mt m m' ρi),fun _ _ z=>z,?_⟩
   have k3:=SPost.same s3 (show SPost C fr Oc Obi H2 E _ from k3)
   refine qb Oc Obi σ2 H3 ρi _ (R2.same s3) (Res.zO (Res.zT k3) (fun o _ k4 => ?_) fun _ z=>z)
   cases o with
   | rt d=>exact k4
   | nx ρ2 =>
    intro σ4 H4 Ob4 R4 f4 sb4
    have f3:Frm Ob H H3:=fun b o e n=>s3 b o (f2 b o e n)
    exact⟨mm,Nat.lt_succ_self _,ρ2,Ob4,R4,f3.trans sb2 f4,fun b z=>(sb4 b z).elim (sb2 b) fun z=>f3.none z,SPost.step f4 sb4 k4⟩
def setD (ds:List D) (i v:D):Option (List D):=match i with
 | .int k=>(ixN ds.length k).map fun j=>ds.set j v
 | _=>none
def sI (i:Nat) (mk me:Ev->Res D):Ev->Res Out:=fun ρ=>(me ρ).bind fun v=>(eV i ρ).bind fun d=>(Res.lft (lstD d)).bind fun xd=>(mk ρ).bind fun k=>(Res.lft (setD xd k v)).bind fun ds=>.ok (.nx (ρ.set i (some (.list ds))))
theorem zJ4 (i:Nat){x:Str}{p' p2:Pos}{k:Expr}{mk:Ev->Res D}(he:RE C .cl e me) (hk:RE C md k mk) (hN:autoParam (C.X.N[i]?=some x) zU._auto_1) (ho:autoParam (C.om.contains i=true) zU._auto_1) (hv:autoParam (Vis C.X.env.scope x) jU._auto_1) (hd:autoParam ((x == ("__debug__":Str))=false) yX._auto_1)
  (hcd:autoParam ((x == ("__classdict__":Str))=false) yX._auto_1)
  (ha:∀v,assign (.Subscript (.Name x p') k p2) C.X.env v=(do
   let ov <-holding [v] (eval (.Name x p') C.X.env)
   let iv <-holding [v,ov] (eval k C.X.env)
   standAt p2
   holding [v,ov,iv] (setItem ov iv v)
   release [v,ov,iv] []):=by intro _;rfl)
  (hs:autoParam (swapsWithSole [.Subscript (.Name x p') k p2] e pos.line C.X.env=pure false) zU._auto_1) (hw:autoParam (swappedStores [.Subscript (.Name x p') k p2] e C.X.env=pure none) zU._auto_1)
  (h1:autoParam ((assignEach [.Subscript (.Name x p') k p2] C.X.env).map (·.2)=[assign (.Subscript (.Name x p') k p2) C.X.env]) zU._auto_1):RS C fr (.Assign [.Subscript (.Name x p') k p2] e pos) (sI i mk me):=by
 obtain⟨t,p,q⟩:=he
 obtain⟨t',p',q'⟩:=hk
 refine⟨_,xP7 p (wQ7 (jX hN hv hd hcd) p' yL6 ha) hs hw h1,fun Oc Ob σ H ρ E R h=>q Oc Ob σ H ρ _ R (Res.zO (Res.zT h) (fun dv _ k v H' s r => ?_) fun c z H' s=>z H' (Same.frm s))⟩
 obtain⟨d,ed,k⟩:=vK (Res.zT k)
 obtain⟨xd,ex,k⟩:=Res.zF (Res.zT k)
 obtain rfl:=vF ex
 obtain⟨w',qv,l,ys,ds,rfl,e2,e3,e4,e5⟩:=(R.same s).own i _ ed (wR ho)
 cases e2
 refine⟨_,qv,q' Oc Ob σ H' ρ _ (R.same s) (Res.zO (Res.zT k) (fun dk _ k kv H2 s2 rk => ?_) fun c z H2 s2=>z H2 (Same.frm (s.trans s2)))⟩
 obtain⟨ds',eg,k⟩:=Res.zF (Res.zT k)
 unfold setD at eg
 split at eg
 ·obtain⟨j,ej,rfl⟩:=Option.map_eq_some_iff.mp eg
  obtain rfl:=(rk.va (R.same s).oh).int
  have hl:=e5.length
  refine⟨l,ys,_,j,rfl,rfl,s2 _ _ e3,by rw[hl];exact ej,?_⟩
  refine k _ _ Ob ((R.same (s.trans s2)).write (wR ho) ed qv (s2 _ _ e3) e4 (Reps.set (Rep.same r s2) j (e5.same s2))) (fun b o e n => ?_) fun b z=>.inl z
  rw[yU (fun z=>n (by subst z;exact e4))]
  exact s2 b o (s b o e)
 ·cases eg
def sV (i j:Nat):Ev->Res Out:=fun ρ=>(eV j ρ).bind fun d=>.ok (.nx ((ρ.set i (some d)).set j none))
theorem wR1 (i:Nat){X:Cx}{XE:Str->Hp->Prop}{om:List Nat}(h:RS ⟨X,XE,om.filter (fun j=>j != i),[i]⟩ fr st m) (hkeep:∀ρ o,m ρ=.ok (.nx o)->o[i]?=ρ[i]?) (hi:autoParam (om.contains i=true) zU._auto_1):RS ⟨X,XE,om,[]⟩ fr st (fun ρ=>(eV i ρ).bind fun _=>m ρ):=by
 obtain⟨t,p,q⟩:=h
 refine⟨t,p,fun Oc Ob σ H ρ E R h => ?_⟩
 obtain⟨d,ed,k⟩:=vK (Res.zT h)
 have io:=wR hi
 obtain⟨v,qv,a,ys,ds,rfl,rfl,e3,e4,e5⟩:=R.own i d ed io
 have om':∀j,j∈om.filter (fun j=>j != i)↔j∈om/\j≠i:=fun j=>by rw[List.mem_filter];simp
 let Oc':Wd:=⟨fun b=>Oc b\/b=a,fun j=>if j=i then a else Oc.la j⟩
 have cv:∀b,Uni Oc' (fun b=>Ob b/\b≠a) b->Uni Oc Ob b:=fun b z=>z.elim (fun z=>z.elim .inl fun z=>.inr (by rw[z];exact e4)) fun z=>.inr z.1
 have vc:∀b,Uni Oc Ob b->Uni Oc' (fun b=>Ob b/\b≠a) b:=fun b z=>by
  by_cases hb:b=a
  ·exact .inl (.inr hb)
  ·exact z.elim (fun z=>.inl (.inl z)) fun z=>.inr ⟨z,hb⟩
 have R':Rel Oc' (fun b=>Ob b/\b≠a) (om.filter (fun j=>j != i)) [i] σ H ρ:=by
  refine⟨R.len,fun n d' e h1 h2 => ?_,fun n d' e h1 => ?_,fun n d' e h1 h2 => ?_,fun n k dn dk b en ek hn hk qn qk=>R.inj n k dn dk b en ek ((om' n).mp hn).1 ((om' k).mp hk).1 qn qk,fun b z=>R.oh b (cv b z),fun b z z'=>z'.elim (R.ap b z.1) z.2⟩
  ·have ni:n≠i:=fun z=>h2 (by rw[z];exact List.mem_cons_self)
   obtain⟨w,q,k⟩:=R.val n d' e (fun z=>h1 ((om' n).mpr ⟨z,ni⟩)) fun z=>h2 (List.mem_cons_of_mem _ z)
   exact⟨w,q,k.less cv⟩
  ·obtain⟨h1,ni⟩:=(om' n).mp h1
   obtain⟨w,q,b,zs,fs,rfl,z2,z3,z4,z5⟩:=R.own n d' e h1
   have nb:b≠a:=fun z=>by subst z;exact ni (R.inj n i d' _ b e ed h1 io q qv)
   exact⟨_,q,b,zs,fs,rfl,z2,z3,⟨z4,nb⟩,z5.less cv⟩
  ·by_cases ni:n=i
   ·subst ni
    rw[ed] at e
    cases e
    have ea:Oc'.la n=a:=if_pos rfl
    exact⟨_,qv,ys,ds,by rw[ea],rfl,by rw[ea];exact e3,by rw[ea];exact .inr rfl,e5.less cv⟩
   ·exact absurd h2 (by simpa using ni)
 refine q Oc' (fun b=>Ob b/\b≠a) σ H ρ E R' (Res.zO k (fun o eo k => ?_) fun c z H' f=>z H' fun b o e n=>f b o e fun z=>n z.1)
 cases o with
 | rt d' =>
  refine fun v H' f r=>k v H' (fun b o e n=>f b o e fun z=>n z.1) ?_
  cases fr with
  | false=>exact Rep.less r fun b z=>.inl z
  | true =>
   obtain⟨a',zs,fs,z1,z2,z3,z4,z5,z6⟩:=r
   exact⟨a',zs,fs,z1,z2,z3.elim .inl fun z=>.inr z.1,fun z=>z4 (.inl z),z5,z6.less fun b z=>z.elim (fun z=>.inl (.inl z)) .inr⟩
 | nx ρ2 =>
  intro σ2 H2 Ob2 R2 f2 sb2
  have e2:ρ2[i]?=some (some (.list ds)):=by rw[hkeep ρ ρ2 eo];exact ed
  have ni':i∉om.filter (fun j=>j != i):=fun z=>((om' i).mp z).2 rfl
  obtain⟨w,qw,zs,fs,z1,z2,z3,z4,z5⟩:=R2.lnt i _ e2 ni' List.mem_cons_self
  have ea:Oc'.la i=a:=if_pos rfl
  rw[ea] at z1 z3 z4
  cases z2
  subst z1
  have na:¬Ob2 a:=fun z=>R2.ap a z (.inr rfl)
  have vc2:∀b,Uni Oc (fun b=>Ob2 b\/b=a) b->Uni Oc' Ob2 b:=fun b z=>z.elim (fun z=>.inl (.inl z)) fun z=>z.elim .inr fun z=>.inl (.inr z)
  refine k σ2 H2 (fun b=>Ob2 b\/b=a) ?_ (fun b o e n=>f2 b o e fun z=>n z.1) fun b z=>z.elim (fun z=>(sb2 b z).elim (fun z=>.inl z.1) .inr) fun z=>.inl (by rw[z];exact e4)
  refine⟨R2.len,fun n d' e h1 h2 => ?_,fun n d' e h1 => ?_,fun n d' e h1 h2 => ?_,fun n k dn dk b en ek hn hk qn qk => ?_,fun b z=>R2.oh b (vc2 b z),fun b z => ?_⟩
  ·have ni:n≠i:=fun z=>h1 (by rw[z];exact io)
   obtain⟨w,q,k⟩:=R2.val n d' e (fun z=>h1 ((om' n).mp z).1) fun z=>(List.mem_cons.mp z).elim ni h2
   exact⟨w,q,k.less vc2⟩
  ·by_cases ni:n=i
   ·subst ni
    rw[e2] at e
    cases e
    exact⟨_,qw,a,zs,ds,rfl,rfl,z3,.inr rfl,z5.less vc2⟩
   ·obtain⟨w,q,b,xs,gs,y1,y2,y3,y4,y5⟩:=R2.own n d' e ((om' n).mpr ⟨h1,ni⟩)
    exact⟨w,q,b,xs,gs,y1,y2,y3,.inl y4,y5.less vc2⟩
  ·exact nomatch h2
  ·by_cases hn':n=i
   ·by_cases hk':k=i
    ·rw[hn',hk']
    ·subst hn'
     rw[qw] at qn
     cases qn
     obtain⟨w,q,b,xs,gs,y1,y2,y3,y4,y5⟩:=R2.own k dk ek ((om' k).mpr ⟨hk,hk'⟩)
     rw[qk] at q
     cases q
     cases y1
     exact absurd y4 na
   ·by_cases hk':k=i
    ·subst hk'
     rw[qw] at qk
     cases qk
     obtain⟨w,q,b,xs,gs,y1,y2,y3,y4,y5⟩:=R2.own n dn en ((om' n).mpr ⟨hn,hn'⟩)
     rw[qn] at q
     cases q
     cases y1
     exact absurd y4 na
    ·exact R2.inj n k dn dk b en ek ((om' n).mpr ⟨hn,hn'⟩) ((om' k).mpr ⟨hk,hk'⟩) qn qk
  ·rcases z with z | rfl
   ·exact fun z'=>R2.ap b z (.inl z')
   ·exact R.ap b e4
end
end L2.L3
namespace L2
open PySem PySem.Spec PyProof.Rows
structure Has (K:KFr) (mg:Str->Option Value) (x:Str) (st:Stmt) (f:Addr) (fd:FuncData) (ps:List Str):Prop where
 F:Fun K x x st f fd
 b:Binds K fd ps []
 m:mg x=some (.ref f)
theorem zK2 {K:KFr}{h:Heap}{mg:Str->Option Value}{x:Str}{st:Stmt}{f:Addr}{oc:Value}{od an:Option Addr}{osl:Array (Option Value)}{kV doc pm cdv ct:Value}{ps:List Str}(X:K.In h) (G:h.Ns mainGlobals mg)
  (a:PySem.W.nsIn K mainGlobals x=some (some (.ref f))) (l:K.lookup f=some ⟨oc,od,.func (PySem.W.fnOf x x (defArgs st) (defBody st) (zN st) .none kV doc pm an cdv ct),osl⟩)
  (c:PySem.W.codeIn K cdv x=true) (k:PySem.W.keepIn K (.ref f)=true)
  (hb:∀(kV doc pm:Value) (an:Option Addr) (cdv ct:Value) (us:List Value),us.length=ps.length->bindArgs (PySem.W.fnOf x x (defArgs st) (defBody st) (zN st) .none kV doc pm an cdv ct) ⟨us,[]⟩=pure (ps.zip us)) :
  Has K mg x st f (PySem.W.fnOf x x (defArgs st) (defBody st) (zN st) .none kV doc pm an cdv ct) ps :=
 have F:=wM6 (st:=st) l c k
 ⟨F,F.binds hb,PySem.W.mg_of X G a⟩
end L2
namespace L2.L3
open PySem PySem.Spec PyProof.Rows
variable [CN]
def CallOk:Bool->(Addr->Prop)->Hp->Hp->V->D->Prop
 | true,O,H,H',v,d=>∃a ys ds,v=.ref a/\d=.list ds/\H a=none/\H' a=some (.lst ys)/\Reps H' (fun b=>O b\/b=a) ys ds
 | false,O,_,H',v,d=>Rep H' O v d
def fin (fr:Bool):Out->Res D
 | .rt d=>.ok d
 | .nx _=>if fr then .no else .ok .none
def runF (fr:Bool) (p n:Nat) (m:Ev->Res Out):List D->Res D:=fun ds=>if ds.length=p then (m (ds.map some++List.replicate (n-p) none)).bind (fin fr) else .no
theorem zO7 {α:Type}{ds:List α}{k i:Nat}{d:α}(h:(ds.map some++List.replicate k none)[i]?=some (some d)):ds[i]?=some d:=by
 by_cases hi:i<ds.length
 ·rw[List.getElem?_append_left (by simpa using hi),List.getElem?_map] at h
  cases e:ds[i]? with
  | none=>rw[e] at h;cases h
  | some z=>rw[e] at h;cases h;rfl
 ·rw[List.getElem?_append_right (by simpa using hi),List.getElem?_replicate] at h
  split at h <;> cases h
theorem xF2 {α:Type}{ds:List α}{k i:Nat}{d:α}(h:ds[i]?=some d):(ds.map some++List.replicate k none)[i]?=some (some d):=by
 have hi:=(List.getElem?_eq_some_iff.mp h).1
 rw[List.getElem?_append_left (by simpa using hi),List.getElem?_map,h]
 rfl
section
variable {P:Program}{w:World}{K:KFr}{mg:Str->Option Value}{base:Heap}
end
def mdF (fr:Bool):Md:=if fr then .new else .cl
def eF (F:List D->Res D) (m:Ev->Res (List D)):Ev->Res D:=fun ρ=>(m ρ).bind F
section
variable {C:Ct}{k:Nat}{f:Addr}{fd:FuncData}{ps:List Str}{fr:Bool}{F:List D->Res D}{x:Str}{p pos:Pos}{e:Expr}{es:List Expr}{ms:Ev->Res (List D)}{st:Stmt}
end
mutual
def lf:D->Bool
 | .list _=>false
 | .dict _=>false
 | .tuple ds=>lfs ds
 | _=>true
def lfs:List D->Bool
 | []=>true
 | d::ds=>lf d&&lfs ds
end
mutual
theorem Rep.lf {H:Hp}{U:Addr->Prop}{B:Addr->Prop}(hB:∀b,B b->∃ys,H b=some (.lst ys)):∀{v:V}{d:D},Rep H (fun b=>U b/\¬B b) v d->L3.lf d=true->Rep H U v d
 | _,_,.non,_=>.non
 | _,_,.bl b,_=>.bl b
 | _,_,.int i,_=>.int i
 | _,_,.str x,_=>.str x
 | _,_,.lst r n t,h=>by simp[L3.lf] at h
 | _,_,.exc r n,h=>by simp[L3.lf] at h
 | _,_,@Rep.tup _ _ _ a _ _ r n t,h=>.tup r (fun z=>by
   by_cases hb:B a
   ·obtain⟨ys,e⟩:=hB _ hb
    rcases r with r | ⟨o,r⟩ <;> (rw[r] at e;cases e)
   ·exact n ⟨z,hb⟩) (Reps.lf hB t (by simpa [L3.lf] using h))
theorem Reps.lf {H:Hp}{U:Addr->Prop}{B:Addr->Prop}(hB:∀b,B b->∃ys,H b=some (.lst ys)):∀{vs:List V}{ds:List D},Reps H (fun b=>U b/\¬B b) vs ds->lfs ds=true->Reps H U vs ds
 | _,_,.nil,_=>.nil
 | _,_,.cons r t,h=>by
  rw[lfs,Bool.and_eq_true] at h
  exact .cons (Rep.lf hB r h.1) (Reps.lf hB t h.2)
end
def lfT:Bool->D->Bool
 | true,.list ds=>lfs ds
 | _,d=>lf d
def eFA (fr:Bool) (F:List D->Res D) (m:Ev->Res (List D)):Ev->Res D:=fun ρ=>(m ρ).bind fun ds=>(F ds).bind fun d=>if lfT fr d then .ok d else .no
theorem VAs.lent {Oc:Wd}{Ob:Addr->Prop}{H:Hp}:∀{vs:List V}{ds:List D},VAs Oc Ob H vs ds->Reps H (fun b=>Uni Oc Ob b/\¬∃ys,H b=some (.lst ys)) vs ds
 | _,_,.nil=>.nil
 | _,_,.cons h t=>.cons (by
   rcases h with h | ⟨a,ys,ds,rfl,rfl,e3,e5⟩
   ·exact h.less fun b z=>z.1
   ·exact .lst (.inl e3) (fun z=>z.2 ⟨ys,e3⟩) (e5.less fun b z=>z.1)) (VAs.lent t)
def i2 (f:Int->Int->Option Int):D->D->Option D
 | .int i,.int j=>(f i j).map PyData.int
 | _,_=>none
theorem xX1 {f:Int->Int->Option Int}{x y d:D}(h:i2 f x y=some d):∃i j k,x=.int i/\y=.int j/\f i j=some k/\d=.int k:=by
 cases x with
 | int i =>
  cases y with
  | int j =>
   obtain⟨k,e,rfl⟩:=Option.map_eq_some_iff.mp (show (f i j).map PyData.int=some d from h)
   exact⟨i,j,k,rfl,rfl,e,rfl⟩
  | _=>cases h
 | _=>cases h
theorem xJ8 {C:Int->Int->Prop}{g:Int->Int->Int}{f:Int->Int->Option Int}(hf:∀i j k,f i j=some k->C i j/\k=g i j):Pr2 (rI C fun i j=>.int (g i j)) .cl (i2 f):=by
 intro Oc Ob H x y dx dy d Q oh vx vy e k
 obtain⟨i,j,n,rfl,rfl,ef,rfl⟩:=xX1 e
 obtain⟨hc,rfl⟩:=hf i j n ef
 exact⟨i,j,vx.int,vy.int,hc,k _ H (Same.refl H) (Rep.int _)⟩
theorem xA4 {g:Int->Int->Int}:Pr2 (rI0 fun i j=>.int (g i j)) .cl (i2 fun i j=>some (g i j)):=by
 intro Oc Ob H x y dx dy d Q oh vx vy e k
 obtain⟨i,j,n,rfl,rfl,ef,rfl⟩:=xX1 e
 cases ef
 exact⟨i,j,vx.int,vy.int,k _ H (Same.refl H) (Rep.int _)⟩
abbrev addI:D->D->Option D:=i2 fun i j=>some (i+j)
abbrev subI:D->D->Option D:=i2 fun i j=>some (i-j)
def MulOk (i j:Int):Prop:=CMul i j\/(Small i/\Small j)
open Classical in
def mulO (i j:Int):Option Int:=if MulOk i j then some (i*j) else none
abbrev mulI:D->D->Option D:=i2 mulO
def DivOk (j:Int):Prop:=0<j/\j.natAbs.log2<9000
instance (j:Int):Decidable (DivOk j):=by unfold DivOk;infer_instance
def fdivO (i j:Int):Option Int:=if DivOk j then some (i / j) else none
def modO (i j:Int):Option Int:=if 0<j then some (i%j) else none
abbrev fdivI:D->D->Option D:=i2 fdivO
abbrev modI:D->D->Option D:=i2 modO
section
variable {X:Cx}
theorem vU:OpR X (binaryOp .Mult) (rI MulOk fun i j=>.int (i*j)):=opI fun _ _ _ _ _ _ _ hc q=>mul_int q (hc.elim CMul.ok fun h=>.of_bits h.1.bits h.2.bits)
theorem zT8:OpR X (inplaceOp .Mult) (rI MulOk fun i j=>.int (i*j)):=opI fun _ _ _ _ _ _ _ hc q=>imul_int q (hc.elim CMul.ok fun h=>.of_bits h.1.bits h.2.bits)
theorem xB:OpR X (binaryOp .FloorDiv) (rI (fun _ j=>DivOk j) fun i j=>.int (i / j)):=opI fun i j _ _ _ _ _ hc q=>by
 refine floordiv_int (by have:=hc.1;bv_omega) ?_ (.inl (PyProof.noPylong_of_log2 hc.2))
 rw[Int.fdiv_eq_ediv_of_nonneg _ (by have:=hc.1;bv_omega)]
 exact q
theorem xQ8:OpR X (inplaceOp .FloorDiv) (rI (fun _ j=>DivOk j) fun i j=>.int (i / j)):=opI fun i j _ _ _ _ _ hc q=>by
 refine ifloordiv_int (by have:=hc.1;bv_omega) ?_ (.inl (PyProof.noPylong_of_log2 hc.2))
 rw[Int.fdiv_eq_ediv_of_nonneg _ (by have:=hc.1;bv_omega)]
 exact q
end
open Classical in
theorem xQ4 {i j k:Int}(h:mulO i j=some k):MulOk i j/\k=i*j:=by
 unfold mulO at h
 split at h
 ·cases h;exact⟨by assumption,rfl⟩
 ·cases h
theorem xA {i j:Int}(h:MulOk i j):mulO i j=some (i*j):=by
 unfold mulO
 exact if_pos h
theorem xV2 {i j k:Int}(h:fdivO i j=some k):DivOk j/\k=i / j:=by
 unfold fdivO at h
 split at h
 ·cases h;exact⟨by assumption,rfl⟩
 ·cases h
theorem xN4 {i j k:Int}(h:modO i j=some k):0<j/\k=i%j:=by
 unfold modO at h
 split at h
 ·cases h;exact⟨by assumption,rfl⟩
 ·cases h
theorem DivOk.small {j:Int}(h:0<j) (h2:j<1073741824):DivOk j:=by
 refine⟨h,?_⟩
 have h30:j.natAbs.log2<30:=(Nat.log2_lt (by bv_omega)).mpr (by bv_omega)
 bv_omega
theorem MulOk.left {i j:Int}(h:-(2 ^ 64)<i) (h2:i<2 ^ 64):MulOk i j:=.inl (.inl ⟨h,h2⟩)
theorem MulOk.right {i j:Int}(h:-(2 ^ 64)<j) (h2:j<2 ^ 64):MulOk i j:=.inl (.inr ⟨h,h2⟩)
theorem xX:Pr2 (rI0 fun i j=>.int (i+j)) .cl addI:=xA4
theorem vS:Pr2 (rI0 fun i j=>.int (i-j)) .cl subI:=xA4
theorem wK:Pr2 (rI MulOk fun i j=>.int (i*j)) .cl mulI:=xJ8 fun _ _ _ h=>xQ4 h
theorem wU:Pr2 (rI (fun _ j=>DivOk j) fun i j=>.int (i / j)) .cl fdivI:=xJ8 fun _ _ _ h=>xV2 h
theorem qW:Pr2 (rI (fun _ j=>0<j) fun i j=>.int (i%j)) .cl modI:=xJ8 fun _ _ _ h=>xN4 h
def c2 (f:Int->Int->Bool):D->D->Option Bool
 | .int i,.int j=>some (f i j)
 | _,_=>none
theorem xU3 {f:Int->Int->Bool}:PrB (rI0 fun i j=>.bl (f i j)) (c2 f):=by
 intro Oc Ob H x y dx dy b Q vx vy e k
 cases dx with
 | int i =>
  cases dy with
  | int j =>
   cases e
   exact⟨_,_,vx.int,vy.int,k⟩
  | _=>cases e
 | _=>cases e
abbrev ltI:D->D->Option Bool:=c2 fun i j=>decide (i<j)
abbrev leI:D->D->Option Bool:=c2 fun i j=>decide (i<=j)
abbrev gtI:D->D->Option Bool:=c2 fun i j=>decide (j<i)
abbrev geI:D->D->Option Bool:=c2 fun i j=>decide (j<=i)
theorem zS2:PrB (rI0 fun i j=>.bl (decide (i<j))) ltI:=xU3
theorem gU:PrB (rI0 fun i j=>.bl (decide (i<=j))) leI:=xU3
theorem aV:PrB (rI0 fun i j=>.bl (decide (j<i))) gtI:=xU3
theorem yN5:PrB (rI0 fun i j=>.bl (decide (j<=i))) geI:=xU3
def eqD (x y:D):Option Bool:=if SeqAt.shaped x=true/\SeqAt.shaped y=true then some (PyData.eqv x y) else none
def neD (x y:D):Option Bool:=if SeqAt.shaped x=true/\SeqAt.shaped y=true then some (!PyData.eqv x y) else none
theorem xK {K:KFr}:PrB (rEqD K false) eqD:=by
 intro Oc Ob H x y dx dy b Q vx vy e k
 unfold eqD at e
 split at e
 ·rename_i h
  cases e
  exact⟨dx,dy,vx.datS h.1,vy.datS h.2,h.1,h.2,k⟩
 ·cases e
theorem uD {K:KFr}:PrB (rEqD K true) neD:=by
 intro Oc Ob H x y dx dy b Q vx vy e k
 unfold neD at e
 split at e
 ·rename_i h
  cases e
  exact⟨dx,dy,vx.datS h.1,vy.datS h.2,h.1,h.2,k⟩
 ·cases e
def flD:D->Bool
 | .none=>true
 | .bool _=>true
 | .int _=>true
 | .str _=>true
 | _=>false
def eqF:D->D->Bool
 | .none,.none=>true
 | .bool a,.bool b=>a == b
 | .bool a,.int b=>(if a then 1 else 0) == b
 | .int a,.bool b=>a == (if b then 1 else 0)
 | .int a,.int b=>a == b
 | .str a,.str b=>a == b
 | _,_=>false
theorem zU4 {H:Hp}{O:Addr->Prop}{v:V}{d:D}(h:Rep H O v d) (f:flD d=true):flatV v=true:=by
 cases h <;> first | rfl | cases f
theorem yV3 {H:Hp}{O O':Addr->Prop}{v v':V}{d d':D}(h:Rep H O v d) (h':Rep H O' v' d') (f:flD d=true) (f':flD d'=true):eqV v v'=eqF d d':=by
 cases h <;> cases h' <;> first | rfl | cases f | cases f'
theorem aS {H:Hp}{O:Addr->Prop}:∀{vs:List V}{ds:List D},Reps H O vs ds->ds.all flD=true->vs.all flatV=true
 | _,_,.nil,_=>rfl
 | _,_,.cons h t,f=>by
  rw[List.all_cons,Bool.and_eq_true] at f ⊢
  exact⟨zU4 h f.1,aS t f.2⟩
theorem zF8 {H:Hp}{O O':Addr->Prop}{x:V}{dx:D}(hx:Rep H O' x dx) (fx:flD dx=true):∀{vs:List V}{ds:List D},Reps H O vs ds->ds.all flD=true->inV x vs=ds.any fun y=>eqF y dx
 | _,_,.nil,_=>rfl
 | _,_,.cons h t,f=>by
  rw[List.all_cons,Bool.and_eq_true] at f
  have ih:=zF8 hx fx t f.2
  unfold inV at ih ⊢
  rw[List.any_cons,List.any_cons,ih,yV3 h hx f.1 fx]
def inD (neg:Bool) (x y:D):Option Bool:=(seqD y).bind fun ds=>if flD x=true/\ds.all flD=true then some (if neg then !ds.any (fun z=>eqF z x) else ds.any fun z=>eqF z x) else none
theorem xZ6 {Oc:Wd}{Ob:Addr->Prop}{H:Hp}{x:V}{d:D}(h:VA Oc Ob H x d) (f:flD d=true):Rep H (Uni Oc Ob) x d:=by
 rcases h with h | ⟨a,ys,ds,rfl,rfl,e3,e5⟩
 ·exact h
 ·cases f
theorem xB9 {K:KFr}{neg:Bool}:PrB (rIn K neg) (inD neg):=by
 intro Oc Ob H x y dx dy b Q vx vy e k
 unfold inD at e
 obtain⟨ds,e1,e⟩:=Option.bind_eq_some_iff.mp e
 split at e
 ·rename_i h
  cases e
  have rx:=xZ6 vx h.1
  cases dy with
  | list ds' =>
   cases e1
   obtain⟨a,ys,rfl,rd,rs⟩:=vy.list
   refine⟨a,ys,rfl,.inl (.inl rd),zU4 rx h.1,aS rs h.2,?_⟩
   rw[zF8 rx h.1 rs h.2]
   exact k
  | tuple ds' =>
   cases e1
   obtain⟨a,ys,rfl,rd,rs⟩:=vy.tuple
   refine⟨a,ys,rfl,.inr (.inl rd),zU4 rx h.1,aS rs h.2,?_⟩
   rw[zF8 rx h.1 rs h.2]
   exact k
  | _=>cases e1
 ·cases e
def ixD:D->D->Option D
 | .list ds,.int i=>atI ds i
 | .tuple ds,.int i=>atI ds i
 | _,_=>none
theorem zF1 {H:Hp}{O:Addr->Prop}{vs:List V}{ds:List D}{i:Int}{d:D}(r:Reps H O vs ds) (h:atI ds i=some d):∃v,atI vs i=some v/\Rep H O v d:=by
 unfold atI at h ⊢
 obtain⟨j,e1,e2⟩:=Option.bind_eq_some_iff.mp h
 obtain⟨v,ev,rv⟩:=r.get e2
 refine⟨v,?_,rv⟩
 rw[r.length,e1]
 exact ev
theorem yW {K:KFr}:Pr2 (rIx K) .cl ixD:=by
 intro Oc Ob H x y dx dy d Q oh vx vy e k
 cases dx with
 | list ds =>
  cases dy with
  | int i =>
   obtain⟨a,ys,rfl,rd,rs⟩:=vx.list
   obtain⟨v,ev,rv⟩:=zF1 rs e
   exact .inl ⟨a,ys,i,v,rfl,vy.int,.inl rd,ev,k v H (Same.refl H) rv⟩
  | _=>cases e
 | tuple ds =>
  cases dy with
  | int i =>
   obtain⟨a,ys,rfl,rd,rs⟩:=vx.tuple
   obtain⟨v,ev,rv⟩:=zF1 rs e
   exact .inr (.inl ⟨a,ys,i,v,rfl,vy.int,.inl rd,ev,k v H (Same.refl H) rv⟩)
  | _=>cases e
 | _=>cases e
def rCatR:R2:=fun x y H Q=>∃l b xs zs,x=.ref l/\y=.ref b/\Rd H l (.lst xs)/\Rd H b (.lst zs)/\xs.length+zs.length<=sizeLine/\∀p,H p=none->Q (.ref p) (upd H p (.lst (xs++zs)))
theorem Rd.lstM {X:Cx}{pins:List (Addr×Obj)}{σ:St}{H:Hp}{s:Shared}{l:Addr}{xs:List V}(I:Inv X pins σ H s) (hH:Rd H l (.lst xs)):xs.length<=sizeLine/\∃(its:List Value) (n:Nat),Vals xs its/\xs.length=its.length/\s.heap.get? l=some { cls:=.type "list",data:=.seq its.toArray n }:=by
 obtain⟨z,its,n,r,e⟩:=hH.ok I.hok
 exact⟨z,its,n,r,r.length,e⟩
section
variable {X:Cx}
theorem cG:OpR X (binaryOp .Add) rCatR:=by
 intro pins s σ H x y v u Q I rx ry h
 obtain⟨l,b,xs,zs,rfl,rfl,hH,hB,hz,q⟩:=h
 cases rx
 cases ry
 obtain⟨z,its,n,r,hl,e⟩:=Rd.lstM I hH
 obtain⟨z2,its2,n2,r2,hl2,e2⟩:=Rd.lstM I hB
 refine PySem.P.add_list e e2 ?_ (by rw[List.size_toArray,List.size_toArray];bv_omega)
 have ea:its.toArray++its2.toArray=(its++its2).toArray:=by simp
 rw[ea]
 exact⟨.ref _,_,I.lnew (t':=s.toks) (r.append r2) (by rw[List.length_append];bv_omega),rfl,q _ I.fresh⟩
def rRepR:R2:=fun x y H Q=>∃l k xs,x=.ref l/\y=.int k/\Rd H l (.lst xs)/\-(2 ^ 63)<=k/\k<2 ^ 63/\xs.length*k.toNat<=sizeLine /\
 ∀p,H p=none->Q (.ref p) (upd H p (.lst (List.replicate k.toNat xs).flatten))
theorem zW2:OpR X (binaryOp .Mult) rRepR:=by
 intro pins s σ H x y v u Q I rx ry h
 obtain⟨l,k,xs,rfl,rfl,hH,h1,h2,hz,q⟩:=h
 cases rx
 obtain⟨t,rfl⟩:=ry
 obtain⟨z,its,n,r,hl,e⟩:=Rd.lstM I hH
 have hlen:its.toArray.size*k.toNat<=sizeLine:=by rw[List.size_toArray,<-hl];exact hz
 have hcap:¬its.toArray.size*k.toNat > (2 ^ 63-1) / 8:=by
  have:(sizeLine:Nat)<=(2 ^ 63-1) / 8:=by decide
  bv_omega
 have hfit:¬(!Builtin.List.listFitsIndex k)=true:=by
  rw[fitsIndex_both h1 h2]
  exact Bool.false_ne_true
 have hlong:¬Builtin.List.listTooLong (its.toArray.size*k.toNat)=true:=by
  rw[notLongL hlen]
  exact Bool.false_ne_true
 have hnew:List.foldl (fun x1 x2=>x1++x2) #[] (List.replicate (if its.toArray.isEmpty=true then 0 else k.toNat) its.toArray)=(List.replicate k.toNat its).flatten.toArray:=by
  have f0:∀m:Nat,List.foldl (fun x1 x2=>x1++x2) #[] (List.replicate m its.toArray)=(List.replicate m its).flatten.toArray:=fun m=>by
   have:=yT3 its m []
   rw[List.nil_append] at this
   exact this
  rw[f0]
  cases its with
  | nil=>simp
  | cons a r'=>rw[if_neg (by simp)]
 refine wpAny_binaryOp_repeat_ref (T:="list") (U:="int") (by decide) ⟨_,e,rfl⟩ (fun s'=>typeIs_int s' k t) noFill_list_mul F.fills_int_mul F.slot_int_rmul repeat_list F.slot_int_index.lookup
  (call_meets F.slot_int_rmul (typeIs_int s k t) F.entry_int_rmul (F.args_int_rmul_2 _ _) (int___rmul___int_list k t l its.toArray n)
   ⟨e,rfl,⟨_,e,rfl⟩,call_meets F.slot_list_mul ⟨_,e,rfl⟩ F.entry_list_mul (F.args_list_mul_2 _ _) (AutoListH.list___mul___list_int_3 l its.toArray n k t hfit hcap hlong) ⟨e,?_⟩⟩)
 rw[hnew]
 exact⟨.ref _,_,I.lnew (t':=s.toks) (r.rep k.toNat) (by rw[wV8,Nat.mul_comm];exact hz),rfl,q _ I.fresh⟩
end
def catL:D->D->Option D
 | .list xs,.list ys=>if xs.length+ys.length<=sizeLine then some (.list (xs++ys)) else none
 | _,_=>none
theorem zW5:Pr2 rCatR .new catL:=by
 intro Oc Ob H x y dx dy d Q oh vx vy e k
 cases dx with
 | list xs =>
  cases dy with
  | list ys =>
   obtain⟨a,vs,rfl,rd,rs⟩:=vx.list
   obtain⟨b,ws,rfl,rd',rs'⟩:=vy.list
   unfold catL at e
   simp only at e
   split at e
   ·rename_i hl
    cases e
    refine⟨a,b,vs,ws,rfl,rfl,rd,rd',by rw[rs.length,rs'.length];exact hl,fun p hp=>k _ _ (Same.new hp) (wE (Same.refl H) hp (rs.append rs'))⟩
   ·cases e
  | _=>cases e
 | _=>cases e
def repL:D->D->Option D
 | .list xs,.int k=>if -(2 ^ 63)<=k/\k<2 ^ 63/\xs.length*k.toNat<=sizeLine then some (.list (List.replicate k.toNat xs).flatten) else none
 | _,_=>none
theorem zP3:Pr2 rRepR .new repL:=by
 intro Oc Ob H x y dx dy d Q oh vx vy e k
 cases dx with
 | list xs =>
  cases dy with
  | int j =>
   obtain⟨a,vs,rfl,rd,rs⟩:=vx.list
   unfold repL at e
   simp only at e
   split at e
   ·rename_i hl
    cases e
    refine⟨a,j,vs,rfl,vy.int,rd,hl.1,hl.2.1,by rw[rs.length];exact hl.2.2,fun p hp=>k _ _ (Same.new hp) (wE (Same.refl H) hp (rs.rep _))⟩
   ·cases e
  | _=>cases e
 | _=>cases e
def lenD:List D->Option D
 | [d]=>(seqD d).map fun ds=>.int ds.length
 | _=>none
theorem zC {K:KFr}:PrC (fun xs H Q=>∃p ys,xs=[.ref p]/\(SqL K H p ys\/SqT K H p ys)/\Q (.int ys.length) H) .cl lenD:=by
 intro Oc Ob H vs ds d Q oh va e k
 cases ds with
 | nil=>cases e
 | cons x xs =>
  cases xs with
  | cons=>cases e
  | nil =>
   obtain⟨v,rfl,vx⟩:=va.one
   obtain⟨es,e1,rfl⟩:=Option.map_eq_some_iff.mp e
   cases x with
   | list ds' =>
    cases e1
    obtain⟨a,ys,rfl,rd,rs⟩:=vx.list
    exact⟨a,ys,rfl,.inl (.inl rd),k _ H (Same.refl H) (by rw[rs.length];exact Rep.int _)⟩
   | tuple ds' =>
    cases e1
    obtain⟨a,ys,rfl,rd,rs⟩:=vx.tuple
    exact⟨a,ys,rfl,.inr (.inl rd),k _ H (Same.refl H) (by rw[rs.length];exact Rep.int _)⟩
   | _=>cases e1
def listD:List D->Option D
 | [d]=>(seqD d).map fun ds=>.list ds
 | _=>none
theorem wW3 {K:KFr}:PrC (fun xs H Q=>∃p ys,xs=[.ref p]/\(SqL K H p ys\/SqT K H p ys)/\∀l,H l=none->Q (.ref l) (upd H l (.lst ys))) .new listD:=by
 intro Oc Ob H vs ds d Q oh va e k
 cases ds with
 | nil=>cases e
 | cons x xs =>
  cases xs with
  | cons=>cases e
  | nil =>
   obtain⟨v,rfl,vx⟩:=va.one
   obtain⟨es,e1,rfl⟩:=Option.map_eq_some_iff.mp e
   cases x with
   | list ds' =>
    cases e1
    obtain⟨a,ys,rfl,rd,rs⟩:=vx.list
    exact⟨a,ys,rfl,.inl (.inl rd),fun l hl=>k _ _ (Same.new hl) (wE (Same.refl H) hl rs)⟩
   | tuple ds' =>
    cases e1
    obtain⟨a,ys,rfl,rd,rs⟩:=vx.tuple
    exact⟨a,ys,rfl,.inr (.inl rd),fun l hl=>k _ _ (Same.new hl) (wE (Same.refl H) hl rs)⟩
   | _=>cases e1
def tupD:List D->Option D
 | [d]=>(seqD d).map fun ds=>.tuple ds
 | _=>none
theorem gQ {K:KFr}:PrC (fun xs H Q=>∃p ys,xs=[.ref p]/\((SqL K H p ys/\∀l,H l=none->Q (.ref l) (upd H l (.tup ys)))\/(SqT K H p ys/\Q (.ref p) H))) .cl tupD:=by
 intro Oc Ob H vs ds d Q oh va e k
 cases ds with
 | nil=>cases e
 | cons x xs =>
  cases xs with
  | cons=>cases e
  | nil =>
   obtain⟨v,rfl,vx⟩:=va.one
   obtain⟨es,e1,rfl⟩:=Option.map_eq_some_iff.mp e
   cases x with
   | list ds' =>
    cases e1
    obtain⟨a,ys,rfl,rd,rs⟩:=vx.list
    exact⟨a,ys,rfl,.inl ⟨.inl rd,fun l hl=>k _ _ (Same.new hl) (gD oh hl rs)⟩⟩
   | tuple ds' =>
    cases e1
    rcases vx with vx | ⟨a,ys,ds,rfl,ez,_⟩
    ·cases vx with
     | tup rd n rs=>exact⟨_,_,rfl,.inr ⟨.inl rd,k _ H (Same.refl H) (.tup rd n rs)⟩⟩
    ·cases ez
   | _=>cases e1
def intsOf:List D->Option (List Int)
 | []=>some []
 | .int i::ds=>(intsOf ds).map (i :: ·)
 | _::_=>none
@[simp] theorem intsOf_map:∀ns:List Int,intsOf (ns.map PyData.int)=some ns
 | []=>rfl
 | n::ns=>by rw[List.map_cons,intsOf,intsOf_map ns];rfl
theorem fM:∀{ds:List D}{ns:List Int},intsOf ds=some ns->ds=ns.map PyData.int
 | [],ns,h=>by cases h;rfl
 | d::ds,ns,h=>by
  cases d with
  | int i =>
   obtain⟨ms,e,rfl⟩:=Option.map_eq_some_iff.mp (show (intsOf ds).map (i :: ·)=some ns from h)
   rw[fM e];rfl
  | _=>cases h
def nsD (d:D):Option (List Int):=(seqD d).bind intsOf
theorem yJ3 {K:KFr}{Oc:Wd}{Ob:Addr->Prop}{H:Hp}{x:V}{d:D}{ns:List Int}(h:VA Oc Ob H x d) (e:nsD d=some ns):∃p,x=.ref p/\(SqL K H p (ns.map V.int)\/SqT K H p (ns.map V.int)):=by
 obtain⟨ds,e1,e2⟩:=Option.bind_eq_some_iff.mp e
 obtain rfl:=fM e2
 cases d with
 | list ds' =>
  cases e1
  obtain⟨a,ys,rfl,rd,rs⟩:=h.list
  rw[rs.ints] at rd
  exact⟨a,rfl,.inl (.inl rd)⟩
 | tuple ds' =>
  cases e1
  obtain⟨a,ys,rfl,rd,rs⟩:=h.tuple
  rw[rs.ints] at rd
  exact⟨a,rfl,.inr (.inl rd)⟩
 | _=>cases e1
def sumD:List D->Option D
 | [.list ds]=>(intsOf ds).map fun ns=>.int ns.sum
 | _=>none
theorem yE4 {K:KFr}:PrC (fun xs H Q=>∃(p:Addr) (ns:List Int),xs=[.ref p]/\SqL K H p (ns.map V.int)/\Q (.int ns.sum) H) .cl sumD:=by
 intro Oc Ob H vs ds d Q oh va e k
 unfold sumD at e
 split at e
 ·obtain⟨ns,e1,rfl⟩:=Option.map_eq_some_iff.mp e
  obtain⟨v,rfl,vx⟩:=va.one
  obtain⟨a,ys,rfl,rd,rs⟩:=vx.list
  rw[fM e1] at rs
  rw[rs.ints] at rd
  exact⟨a,ns,rfl,.inl rd,k _ H (Same.refl H) (Rep.int _)⟩
 ·cases e
def sortI (ns:List Int):List Int:=ns.mergeSort (fun a b=>decide (a<=b))
theorem wW (ns:List Int):(sortI ns).Perm ns:=List.mergeSort_perm _ _
theorem bH (ns:List Int):(sortI ns).Pairwise (· <= ·):=by
 have:=List.pairwise_mergeSort (le:=fun a b:Int=>decide (a<=b)) (fun a b c h1 h2=>by simp at *;bv_omega) (fun a b=>by simp;bv_omega) ns
 exact this.imp fun h=>by simpa using h
theorem xV7 {as bs:List Int}(p:as.Perm bs) (ha:as.Pairwise (· <= ·)) (hb:bs.Pairwise (· <= ·)):as=bs:=by
 induction as generalizing bs with
 | nil=>exact (List.nil_perm.mp p).symm
 | cons a as ih =>
  cases bs with
  | nil=>exact absurd p.symm (by intro h;have:=h.length_eq;simp at this)
  | cons b bs =>
   have h1:a<=b:=by
    have:b∈a::as:=p.symm.subset List.mem_cons_self
    rcases List.mem_cons.mp this with z | z
    ·bv_omega
    ·exact (List.pairwise_cons.mp ha).1 b z
   have h2:b<=a:=by
    have:a∈b::bs:=p.subset List.mem_cons_self
    rcases List.mem_cons.mp this with z | z
    ·bv_omega
    ·exact (List.pairwise_cons.mp hb).1 a z
   have e:a=b:=by bv_omega
   subst e
   rw[ih (List.Perm.cons_inv p) (List.pairwise_cons.mp ha).2 (List.pairwise_cons.mp hb).2]
def sortD:List D->Option D
 | [d]=>(nsD d).bind fun ns=>if ns.length<64 then some (.list ((sortI ns).map PyData.int)) else none
 | _=>none
theorem yV4 {K:KFr}:PrC (fun xs H Q=>∃(p:Addr) (ns:List Int),xs=[.ref p]/\(SqL K H p (ns.map V.int)\/SqT K H p (ns.map V.int))/\ns.length<64 /\
  ∀(l:Addr) (ms:List Int),H l=none->ms.Perm ns->ms.Pairwise (· <= ·)->Q (.ref l) (upd H l (.lst (ms.map V.int)))) .new sortD:=by
 intro Oc Ob H vs ds d Q oh va e k
 unfold sortD at e
 split at e
 ·obtain⟨ns,e1,e⟩:=Option.bind_eq_some_iff.mp e
  split at e
  ·rename_i hl
   cases e
   obtain⟨v,rfl,vx⟩:=va.one
   obtain⟨p,rfl,hq⟩:=yJ3 vx e1
   refine⟨p,ns,rfl,hq,hl,fun l ms hp h1 h2 => ?_⟩
   have:ms=sortI ns:=xV7 (h1.trans (wW ns).symm) h2 (bH ns)
   subst this
   exact k _ _ (Same.new hp) (wE (Same.refl H) hp (zP4 _))
  ·cases e
 ·cases e
def min2D:List D->Option D
 | [.int i,.int j]=>some (.int (if j<i then j else i))
 | _=>none
def max2D:List D->Option D
 | [.int i,.int j]=>some (.int (if j > i then j else i))
 | _=>none
theorem yV2:PrC (fun xs H Q=>∃i j,xs=[.int i,.int j]/\Q (.int (if j<i then j else i)) H) .cl min2D:=by
 intro Oc Ob H vs ds d Q oh va e k
 unfold min2D at e
 split at e
 ·cases e
  obtain⟨v,v',rfl,vx,vy⟩:=va.two
  obtain rfl:=vx.int
  obtain rfl:=vy.int
  exact⟨_,_,rfl,k _ H (Same.refl H) (Rep.int _)⟩
 ·cases e
theorem wY8:PrC (fun xs H Q=>∃i j,xs=[.int i,.int j]/\Q (.int (if j > i then j else i)) H) .cl max2D:=by
 intro Oc Ob H vs ds d Q oh va e k
 unfold max2D at e
 split at e
 ·cases e
  obtain⟨v,v',rfl,vx,vy⟩:=va.two
  obtain rfl:=vx.int
  obtain rfl:=vy.int
  exact⟨_,_,rfl,k _ H (Same.refl H) (Rep.int _)⟩
 ·cases e
def tyD:D->String
 | .none=>"NoneType"
 | .bool _=>"bool"
 | .int _=>"int"
 | .str _=>"str"
 | .list _=>"list"
 | .tuple _=>"tuple"
 | .dict _=>"dict"
def subTy (t T:String):Bool:=t == T || (t == "bool"&&T == "int")
structure Kit (K:KFr) (T:String):Prop where
 non:PySem.W.kitOne K (.type "NoneType") (.type T)=some (subTy "NoneType" T)
 bl:PySem.W.kitOne K (.type "bool") (.type T)=some (subTy "bool" T)
 int:PySem.W.kitOne K (.type "int") (.type T)=some (subTy "int" T)
 str:PySem.W.kitOne K (.type "str") (.type T)=some (subTy "str" T)
 lst:PySem.W.kitOne K (.type "list") (.type T)=some (subTy "list" T)
 tup:PySem.W.kitOne K (.type "tuple") (.type T)=some (subTy "tuple" T)
section
variable {X:Cx}
end
def isiD (T:String):D->Option D
 | .dict _=>none
 | d=>some (.bool (subTy (tyD d) T))
theorem yS4 {s:Shared}{J:Addr}{hp h':Heap}(keep:∀b o,s.heap.get? b=some o->b≠J/\hp.get? b=some o) (hk:∀b o,b ∉ [J]->hp.get? b=some o->h'.get? b=some o):∀b o,s.heap.get? b=some o->h'.get? b=some o :=
 fun b o e=>hk b o (by simpa using (keep b o e).1) (keep b o e).2
theorem aR (xs:Array (Int×Tok)):(intItems xs).size=xs.size:=by simp[intItems]
section
variable {prog:Program}{w:World}{A:Around}{E:Value->Shared->Prop}{s:Shared}{l:Addr}{xs:Array (Int×Tok)}{Q:Value->Shared->Prop}
theorem wW9 (hh:A.handled=none) (hl:s.heap.IsTuple l (intItems xs)) (ne:0<xs.size)
  (k:∀v h' tk,(intItems xs)[argBest (fun i j=>decide (numAt xs i<numAt xs j)) (xs.size-1)]?=some v->(∀b o,s.heap.get? b=some o->h'.get? b=some o)->Q v { s with heap:=h',toks:=tk }):wpAny (model prog w) A (call (.builtin "min") [.ref l]) Q E s :=
 call_min_walk (yJ2 (A:=A.in1) hh hl fun J hp St W st a b keep=>⟨_,_,_,_,_,_,_,rfl,W,st,by simp[a,b],by rw[aR];exact ne,.ints_lt (numAt xs) (fun _ _=>intItems_at),fun v h' tk at_ hk=>k v h' tk (by rw[aR] at at_;exact at_) (yS4 keep hk)⟩)
theorem wW1 (hh:A.handled=none) (hl:s.heap.IsTuple l (intItems xs)) (ne:0<xs.size)
  (k:∀v h' tk,(intItems xs)[argBest (fun i j=>decide (numAt xs i > numAt xs j)) (xs.size-1)]?=some v->(∀b o,s.heap.get? b=some o->h'.get? b=some o)->Q v { s with heap:=h',toks:=tk }):wpAny (model prog w) A (call (.builtin "max") [.ref l]) Q E s :=
 call_max_walk (yJ2 (A:=A.in1) hh hl fun J hp St W st a b keep=>⟨_,_,_,_,_,_,_,rfl,W,st,by simp[a,b],by rw[aR];exact ne,.ints_gt (numAt xs) (fun _ _=>intItems_at),fun v h' tk at_ hk=>k v h' tk (by rw[aR] at at_;exact at_) (yS4 keep hk)⟩)
end
def minL:List Int->Int
 | []=>0
 | n::ns=>ns.foldl (fun a b=>if b<a then b else a) n
def maxL:List Int->Int
 | []=>0
 | n::ns=>ns.foldl (fun a b=>if b > a then b else a) n
theorem aF:∀(ns:List Int) (n:Int),(ns.foldl (fun a b=>if b<a then b else a) n=n\/ns.foldl (fun a b=>if b<a then b else a) n∈ns)/\ns.foldl (fun a b=>if b<a then b else a) n<=n/\∀m∈ns,ns.foldl (fun a b=>if b<a then b else a) n<=m
 | [],n=>⟨.inl rfl,Int.le_refl _,fun m h=>nomatch h⟩
 | b::ns,n=>by
  obtain⟨h1,h2,h3⟩:=aF ns (if b<n then b else n)
  rw[List.foldl_cons]
  refine⟨?_,?_,fun m hm => ?_⟩
  ·rcases h1 with h1 | h1
   ·rw[h1]
    split
    ·exact .inr List.mem_cons_self
    ·exact .inl rfl
   ·exact .inr (List.mem_cons_of_mem _ h1)
  ·refine Int.le_trans h2 ?_
   split <;> bv_omega
  ·rcases List.mem_cons.mp hm with rfl | hm
   ·refine Int.le_trans h2 ?_
    split <;> bv_omega
   ·exact h3 m hm
theorem aD:∀(ns:List Int) (n:Int),(ns.foldl (fun a b=>if b > a then b else a) n=n\/ns.foldl (fun a b=>if b > a then b else a) n∈ns)/\n<=ns.foldl (fun a b=>if b > a then b else a) n/\∀m∈ns,m<=ns.foldl (fun a b=>if b > a then b else a) n
 | [],n=>⟨.inl rfl,Int.le_refl _,fun m h=>nomatch h⟩
 | b::ns,n=>by
  obtain⟨h1,h2,h3⟩:=aD ns (if b > n then b else n)
  rw[List.foldl_cons]
  refine⟨?_,?_,fun m hm => ?_⟩
  ·rcases h1 with h1 | h1
   ·rw[h1]
    split
    ·exact .inr List.mem_cons_self
    ·exact .inl rfl
   ·exact .inr (List.mem_cons_of_mem _ h1)
  ·refine Int.le_trans ?_ h2
   split <;> bv_omega
  ·rcases List.mem_cons.mp hm with rfl | hm
   ·refine Int.le_trans ?_ h2
    split <;> bv_omega
   ·exact h3 m hm
theorem yL9 {ns:List Int}(h:ns ≠ []):minL ns∈ns:=by
 cases ns with
 | nil=>exact absurd rfl h
 | cons n ns =>
  rcases (aF ns n).1 with e | e
  ·show List.foldl _ n ns∈_
   rw[e];exact List.mem_cons_self
  ·exact List.mem_cons_of_mem _ e
theorem wS7 {ns:List Int}{m:Int}(h:m∈ns):minL ns<=m:=by
 cases ns with
 | nil=>cases h
 | cons n ns =>
  rcases List.mem_cons.mp h with rfl | h
  ·exact (aF ns m).2.1
  ·exact (aF ns n).2.2 m h
theorem zE4 {ns:List Int}(h:ns ≠ []):maxL ns∈ns:=by
 cases ns with
 | nil=>exact absurd rfl h
 | cons n ns =>
  rcases (aD ns n).1 with e | e
  ·show List.foldl _ n ns∈_
   rw[e];exact List.mem_cons_self
  ·exact List.mem_cons_of_mem _ e
theorem wY7 {ns:List Int}{m:Int}(h:m∈ns):m<=maxL ns:=by
 cases ns with
 | nil=>cases h
 | cons n ns =>
  rcases List.mem_cons.mp h with rfl | h
  ·exact (aD ns m).2.1
  ·exact (aD ns n).2.2 m h
theorem yA3 {xs:Array (Int×Tok)}{i:Nat}(h:i<xs.size):numAt xs i∈xs.toList.map (·.1):=by
 rw[numAt_eq]
 exact getD_mem (by simpa using h)
theorem yA1 {xs:Array (Int×Tok)}{a:Int}(h:a∈xs.toList.map (·.1)):∃i,i<xs.size/\a=numAt xs i:=by
 obtain⟨i,hi,e⟩:=mem_getD h
 exact⟨i,by simpa using hi,by rw[numAt_eq,e]⟩
theorem xJ9 {xs:Array (Int×Tok)}(h:0<xs.size):numAt xs (argBest (fun i j=>decide (numAt xs i<numAt xs j)) (xs.size-1))=minL (xs.toList.map (·.1)):=by
 have z:=argBest_lt (numAt xs) (xs.size-1)
 have m:=yA3 (xs:=xs) (i:=argBest (fun i j=>decide (numAt xs i<numAt xs j)) (xs.size-1)) (by bv_omega)
 obtain⟨i,hi,e⟩:=yA1 (yL9 (List.ne_nil_of_mem m))
 have:=wS7 m
 have:=z.2 i (by bv_omega)
 bv_omega
theorem xE2 {xs:Array (Int×Tok)}(h:0<xs.size):numAt xs (argBest (fun i j=>decide (numAt xs i > numAt xs j)) (xs.size-1))=maxL (xs.toList.map (·.1)):=by
 have z:=argBest_gt (numAt xs) (xs.size-1)
 have m:=yA3 (xs:=xs) (i:=argBest (fun i j=>decide (numAt xs i > numAt xs j)) (xs.size-1)) (by bv_omega)
 obtain⟨i,hi,e⟩:=yA1 (zE4 (List.ne_nil_of_mem m))
 have:=wY7 m
 have:=z.2 i (by bv_omega)
 bv_omega
section
variable {X:Cx}
theorem xN9 (hc:X.calm=true):CallR X (.builtin "min") (fun xs H Q=>∃(p:Addr) (ns:List Int),xs=[.ref p]/\(SqL X.K H p (ns.map V.int)\/SqT X.K H p (ns.map V.int))/\ns ≠ []/\Q (.int (minL ns)) H):=by
 intro pins s σ H xs us Q I r h
 obtain⟨p,ns,rfl,hq,hne,q⟩:=h
 obtain⟨u,rfl,ru⟩:=vals1 r
 cases ru
 have core:∀(its:List Value),Vals (ns.map V.int) its->∃xs:Array (Int×Tok),its.toArray=intItems xs/\ns=xs.toList.map (·.1):=fun its rv=>by
  have hi:IntsAre its ns:=cQ rv
  obtain⟨xs,e⟩:=hi.allInts.items
  exact⟨xs,e,by rw[<-hi.numsOf,<-nums_intItems,<-e]⟩
 have fin:∀(xs:Array (Int×Tok)),ns=xs.toList.map (·.1)->0<xs.size->∀(v:Value) (h':Heap) (tk:Nat),(intItems xs)[argBest (fun i j=>decide (numAt xs i<numAt xs j)) (xs.size-1)]?=some v->(∀b o,s.heap.get? b=some o->h'.get? b=some o)->EP X pins σ Q v { s with heap:=h',toks:=tk }:=fun xs hns hsz v h' tk hv hk=>by
  obtain⟨t,rfl⟩:=intItems_at hv
  have e:=xJ9 hsz
  rw[<-hns] at e
  exact⟨.int _,H,I.kept hk,⟨t,by rw[e]⟩,q⟩
 have sz:∀xs:Array (Int×Tok),ns=xs.toList.map (·.1)->0<xs.size:=fun xs hns=>by
  rcases Nat.eq_zero_or_pos xs.size with z | z
  ·exact absurd (by rw[hns,Array.size_eq_zero_iff.mp z];rfl) hne
  ·exact z
 rcases hq with hq | hq
 ·obtain⟨its,rv,pl,hz⟩:=I.list hq
  obtain⟨xs,e,hns⟩:=core its rv
  exact min_intList (I.ok.hd hc) (by rw[<-e];exact pl.isList) (sz xs hns) (fin xs hns (sz xs hns))
 ·obtain⟨its,rv,pl,hz⟩:=I.tuple hq
  obtain⟨xs,e,hns⟩:=core its rv
  exact wW9 (I.ok.hd hc) (by rw[<-e];exact pl) (sz xs hns) (fin xs hns (sz xs hns))
theorem zN3 (hc:X.calm=true):CallR X (.builtin "max") (fun xs H Q=>∃(p:Addr) (ns:List Int),xs=[.ref p]/\(SqL X.K H p (ns.map V.int)\/SqT X.K H p (ns.map V.int))/\ns ≠ []/\Q (.int (maxL ns)) H):=by
 intro pins s σ H xs us Q I r h
 obtain⟨p,ns,rfl,hq,hne,q⟩:=h
 obtain⟨u,rfl,ru⟩:=vals1 r
 cases ru
 have core:∀(its:List Value),Vals (ns.map V.int) its->∃xs:Array (Int×Tok),its.toArray=intItems xs/\ns=xs.toList.map (·.1):=fun its rv=>by
  have hi:IntsAre its ns:=cQ rv
  obtain⟨xs,e⟩:=hi.allInts.items
  exact⟨xs,e,by rw[<-hi.numsOf,<-nums_intItems,<-e]⟩
 have fin:∀(xs:Array (Int×Tok)),ns=xs.toList.map (·.1)->0<xs.size->∀(v:Value) (h':Heap) (tk:Nat),(intItems xs)[argBest (fun i j=>decide (numAt xs i > numAt xs j)) (xs.size-1)]?=some v->(∀b o,s.heap.get? b=some o->h'.get? b=some o)->EP X pins σ Q v { s with heap:=h',toks:=tk }:=fun xs hns hsz v h' tk hv hk=>by
  obtain⟨t,rfl⟩:=intItems_at hv
  have e:=xE2 hsz
  rw[<-hns] at e
  exact⟨.int _,H,I.kept hk,⟨t,by rw[e]⟩,q⟩
 have sz:∀xs:Array (Int×Tok),ns=xs.toList.map (·.1)->0<xs.size:=fun xs hns=>by
  rcases Nat.eq_zero_or_pos xs.size with z | z
  ·exact absurd (by rw[hns,Array.size_eq_zero_iff.mp z];rfl) hne
  ·exact z
 rcases hq with hq | hq
 ·obtain⟨its,rv,pl,hz⟩:=I.list hq
  obtain⟨xs,e,hns⟩:=core its rv
  exact max_intList (I.ok.hd hc) (by rw[<-e];exact pl.isList) (sz xs hns) (fin xs hns (sz xs hns))
 ·obtain⟨its,rv,pl,hz⟩:=I.tuple hq
  obtain⟨xs,e,hns⟩:=core its rv
  exact wW1 (I.ok.hd hc) (by rw[<-e];exact pl) (sz xs hns) (fin xs hns (sz xs hns))
end
def min1D:List D->Option D
 | [d]=>(nsD d).bind fun ns=>if ns=[] then none else some (.int (minL ns))
 | _=>none
def max1D:List D->Option D
 | [d]=>(nsD d).bind fun ns=>if ns=[] then none else some (.int (maxL ns))
 | _=>none
theorem wW4 {K:KFr}:PrC (fun xs H Q=>∃(p:Addr) (ns:List Int),xs=[.ref p]/\(SqL K H p (ns.map V.int)\/SqT K H p (ns.map V.int))/\ns ≠ []/\Q (.int (minL ns)) H) .cl min1D:=by
 intro Oc Ob H vs ds d Q oh va e k
 unfold min1D at e
 split at e
 ·obtain⟨ns,e1,e⟩:=Option.bind_eq_some_iff.mp e
  split at e
  ·cases e
  ·rename_i hl
   cases e
   obtain⟨v,rfl,vx⟩:=va.one
   obtain⟨p,rfl,hq⟩:=yJ3 vx e1
   exact⟨p,ns,rfl,hq,hl,k _ H (Same.refl H) (Rep.int _)⟩
 ·cases e
theorem yV1 {K:KFr}:PrC (fun xs H Q=>∃(p:Addr) (ns:List Int),xs=[.ref p]/\(SqL K H p (ns.map V.int)\/SqT K H p (ns.map V.int))/\ns ≠ []/\Q (.int (maxL ns)) H) .cl max1D:=by
 intro Oc Ob H vs ds d Q oh va e k
 unfold max1D at e
 split at e
 ·obtain⟨ns,e1,e⟩:=Option.bind_eq_some_iff.mp e
  split at e
  ·cases e
  ·rename_i hl
   cases e
   obtain⟨v,rfl,vx⟩:=va.one
   obtain⟨p,rfl,hq⟩:=yJ3 vx e1
   exact⟨p,ns,rfl,hq,hl,k _ H (Same.refl H) (Rep.int _)⟩
 ·cases e
theorem cX {α β:Type}{F:α->β->Prop}:∀{as:List α}{bs:List β},as.length=bs.length->(∀(i:Nat) a b,as[i]?=some a->bs[i]?=some b->F a b)->Paired F as bs
 | [],[],_,_=>.nil
 | [],_::_,h,_=>by cases h
 | _::_,[],h,_=>by cases h
 | a::as,b::bs,h,f=>.cons (f 0 a b rfl rfl) (cX (Nat.succ.inj h) fun i x y hx hy=>f (i+1) x y (by simpa using hx) (by simpa using hy))
section
variable {X:Cx}
theorem yR8:CallR X (.type "range") (fun xs H Q=>∃j:Int,xs=[.int j]/\∀p,H p=none->Q (.ref p) (upd H p (.rng 0 j))):=by
 intro pins s σ H xs us Q I r h
 obtain⟨j,rfl,q⟩:=h
 obtain⟨u,rfl,t,rfl⟩:=vals1 r
 exact call_range_1 ⟨.ref s.heap.objs.size,_,I.laid (t':=s.toks+1+1) (o:=.rng 0 j) (fun b o e=>Heap.get?_push_of_some _ e) (Nat.le_refl _) ⟨_,_,_,Heap.get?_push_size _ rfl⟩,rfl,q _ (I.hok.fresh (Nat.le_refl _))⟩
theorem yO3 (hc:X.calm=true):CallR X (.type "list") (fun xs H Q=>∃(p:Addr) (j:Int),xs=[.ref p]/\H p=some (.rng 0 j)/\-(2 ^ 62)<=j/\j.toNat<=1000000/\∀l,H l=none->Q (.ref l) (upd H l (.lst ((List.range j.toNat).map fun (i:Nat)=>V.int (i:Int))))):=by
 intro pins s σ H xs us Q I r h
 obtain⟨p,j,rfl,hp,hs,hj,q⟩:=h
 obtain⟨u,rfl,ru⟩:=vals1 r
 cases ru
 obtain⟨t,u,v,e⟩:=I.hok p _ hp
 refine call_list_range (n:=j.toNat) (I.ok.hd hc) e (small_one (by bv_omega) (by bv_omega) hs (by bv_omega)) ?_ (by bv_omega) fun h' tk acc' c' hk hS hacc => ?_
 ·rw[rangeSize_one];split <;> bv_omega
 ·have hv:Vals ((List.range j.toNat).map fun (i:Nat)=>V.int (i:Int)) acc'.toList:=by
   obtain⟨h1,h2⟩:=hacc
   refine cX ?_ ?_
   ·rw[List.length_map,List.length_range,Array.length_toList,h1]
   ·intro i a b ha hb
    rw[List.getElem?_map] at ha
    have hi:i<j.toNat:=by
     have:=(List.getElem?_eq_some_iff.mp hb).1
     rw[Array.length_toList,h1] at this
     exact this
    rw[List.getElem?_range hi] at ha
    cases ha
    obtain⟨t,e⟩:=h2 i b (by simpa using hb)
    refine⟨t,?_⟩
    rw[e]
    simp
  refine⟨.ref s.heap.objs.size,_,I.laid (t':=tk) (o:=.lst ((List.range j.toNat).map fun (i:Nat)=>V.int (i:Int))) hk (Nat.le_refl _) ⟨?_,acc'.toList,c',hv,by simpa using hS⟩,rfl,q _ (I.hok.fresh (Nat.le_refl _))⟩
  rw[List.length_map,List.length_range]
  exact Nat.le_of_lt (Nat.lt_of_le_of_lt hj (by decide))
end
def rangeL:List D->Option D
 | [.int j]=>if -(2 ^ 62)<=j/\j.toNat<=1000000 then some (.list ((List.range j.toNat).map fun (i:Nat)=>PyData.int (i:Int))) else none
 | _=>none
theorem yU7 {H:Hp}{O:Addr->Prop}(l:List Nat):Reps H O (l.map fun (i:Nat)=>V.int (i:Int)) (l.map fun (i:Nat)=>PyData.int (i:Int)):=by
 induction l with
 | nil=>exact .nil
 | cons a l ih=>exact .cons (.int _) ih
theorem cE {C:Ct}{a:Expr}{p p2 pos pos2:Pos}{ms:Ev->Res (List D)}(hl:C.X.mg "list" = none) (hm:C.X.mg "range" = none) (ha:RArg C false [a] ms) (hc:autoParam (C.X.calm=true) zU._auto_1) (hgl:autoParam (Gl C.X "list") zU._auto_1) (hg:autoParam (Gl C.X "range") zU._auto_1)
  (hs:autoParam (starEach [a] C.X.env=(false,eval a C.X.env)::starEach [] C.X.env) zU._auto_1) (hs2:autoParam (starEach [.Call (.Name "range" p2) [a] [] pos2] C.X.env=(false,eval (.Call (.Name "range" p2) [a] [] pos2) C.X.env)::starEach [] C.X.env) zU._auto_1)
  (hpl:autoParam ((backTo pos (starEach [] C.X.env)).any (·.1)=false) zU._auto_1) (hpl2:autoParam ((backTo pos2 (starEach [] C.X.env)).any (·.1)=false) zU._auto_1) :
  RE C .new (.Call (.Name "list" p) [.Call (.Name "range" p2) [a] [] pos2] [] pos) (eB rangeL ms):=by
 obtain⟨t,pa,q⟩:=ha
 refine⟨_,dU (yO3 hc) hgl hl (by rfl) (qP (dU yR8 hg hm (by rfl) pa (by decide) (by decide) hs hpl2) hJ hs2) (by decide) (by decide) hs2 hpl,fun Oc Ob σ H ρ Q R h=>q Oc Ob σ H ρ _ R (Res.zO (Res.zT h) (fun ds _ k vs H1 s1 r => ?_) fun _ z=>z)⟩
 obtain⟨d,e,k⟩:=Res.zF k
 unfold rangeL at e
 split at e
 ·split at e
  ·rename_i hb
   cases e
   obtain⟨v,rfl,va⟩:=VAs.one r
   obtain rfl:=va.int
   refine⟨_,rfl,fun p hp=>⟨p,_,rfl,uC,hb.1,hb.2,fun l hl => ?_⟩⟩
   exact k _ _ ((s1.trans (Same.new hp)).trans (Same.new hl)) (wE (s1.trans (Same.new hp)) hl (yU7 _))
  ·cases e
 ·cases e
section
variable {X:Cx}
def rExtR:V->List V->Hp->VK->Prop:=fun x vs H Q=>∃l b xs zs,x=.ref l/\vs=[.ref b]/\H l=some (.lst xs)/\(Rd H b (.lst zs)\/Rd H b (.tup zs))/\xs.length+zs.length<=sizeLine/\Q .non (upd H l (.lst (xs++zs)))
theorem wY2:MtM X "list.extend" rExtR:=by
 intro pins s σ H x vs v us Q I rx rv h
 obtain⟨l,b,xs,zs,rfl,rfl,hH,hB,hz,q⟩:=h
 cases rx
 obtain⟨u,rfl,ru⟩:=rv.one
 cases ru
 obtain⟨z,its,n,r,hl,e⟩:=I.lstM hH
 have len:(xs++zs).length<=sizeLine:=by rw[List.length_append];exact hz
 rcases hB with hB | hB
 ·obtain⟨z2,its2,n2,r2,hl2,e2⟩:=Rd.lstM I hB
  have hsz:its.toArray.size+its2.toArray.size<=sizeLine:=by rw[List.size_toArray,List.size_toArray];bv_omega
  have hlong:¬(!its.toArray.isEmpty&&Builtin.List.listTooLong (its.toArray.size+its2.toArray.size))=true:=by
   rw[notLongL hsz,Bool.and_false]
   exact Bool.false_ne_true
  refine call_meets F.slot_list_extend ⟨_,e,rfl⟩ F.entry_list_extend (F.args_list_extend_2 _ _)
   (AutoSeq1.list_extend_list_list_0 l its.toArray n b its2.toArray n2 hlong (by rw[List.size_toArray];bv_omega) (by bv_omega)) ⟨e,e2,?_⟩
  exact⟨.non,_,I.lset (its':=its++its2) hH e (by simp) (r.append r2) len,rfl,q⟩
 ·obtain⟨z2,its2,r2,o,ho,hc,⟨n2,hd⟩,_⟩:=hB.ok I.hok
  have hl2:=r2.length
  have hsz:its.toArray.size+its2.toArray.size<=sizeLine:=by rw[List.size_toArray,List.size_toArray];bv_omega
  refine call_meets F.slot_list_extend ⟨_,e,rfl⟩ F.entry_list_extend (F.args_list_extend_2 _ _)
   (wZ9 hc hd hsz) ⟨e,ho,?_⟩
  exact⟨.non,_,I.lset (its':=its++its2) hH e (by simp) (r.append r2) len,rfl,q⟩
def insN (n:Nat) (x:Int):Nat:=if x<0 then (x+(n:Int)).toNat else min x.toNat n
def rInsert:V->List V->Hp->VK->Prop:=fun x vs H Q=>∃l xs i y,x=.ref l/\vs=[.int i,y]/\H l=some (.lst xs)/\-(2 ^ 63)<=i/\i<2 ^ 63/\xs.length<sizeLine/\Q .non (upd H l (.lst (xs.take (insN xs.length i)++y::xs.drop (insN xs.length i))))
theorem xN5:MtM X "list.insert" rInsert:=by
 intro pins s σ H x vs v us Q I rx rv h
 obtain⟨l,xs,i,y,rfl,rfl,hH,h1,h2,hz,q⟩:=h
 cases rx
 obtain⟨u,w',rfl,⟨t,rfl⟩,ry⟩:=rv.two
 obtain⟨z,its,n,r,hl,e⟩:=I.lstM hH
 refine call_meets F.slot_list_insert ⟨_,e,rfl⟩ F.entry_list_insert (F.args_list_insert_3 _ _ _) (AutoSeq1.list_insert_list_int_val_1 l its.toArray n i t w' (by rw[fitsIndex_both h1 h2];exact Bool.false_ne_true) (by rw[List.size_toArray];bv_omega)) ⟨e,?_⟩
 refine⟨.non,_,I.lset (its':=its.take (insN its.length i)++w'::its.drop (insN its.length i)) hH e ?_ (by rw[hl];exact (r.take _).append (.cons ry (r.drop _))) ?_,rfl,q⟩
 ·show (its.toArray.extract 0 (if i<0 then (i+(its.toArray.size:Int)).toNat else min i.toNat its.toArray.size)).push w'++its.toArray.extract (if i<0 then (i+(its.toArray.size:Int)).toNat else min i.toNat its.toArray.size)=_
  rw[PySem.W.kl_ins_eq,List.size_toArray]
  rfl
 ·rw[List.length_append,List.length_cons,List.length_take,List.length_drop]
  bv_omega
end
def appD:List D->List D->Option (List D)
 | xs,[d]=>if xs.length<sizeLine then some (xs ++ [d]) else none
 | _,_=>none
def extD:List D->List D->Option (List D)
 | xs,[d]=>(seqD d).bind fun ys=>if xs.length+ys.length<=sizeLine then some (xs++ys) else none
 | _,_=>none
def insD:List D->List D->Option (List D)
 | xs,[.int i,d]=>if -(2 ^ 63)<=i/\i<2 ^ 63/\xs.length<sizeLine then some (xs.take (insN xs.length i)++d::xs.drop (insN xs.length i)) else none
 | _,_=>none
theorem Reps.one' {H:Hp}{O:Addr->Prop}{vs:List V}{d:D}(h:Reps H O vs [d]):∃v,vs=[v]/\Rep H O v d:=by
 cases h with
 | cons a t=>cases t;exact⟨_,rfl,a⟩
theorem Reps.two' {H:Hp}{O:Addr->Prop}{vs:List V}{d d':D}(h:Reps H O vs [d,d']):∃v v',vs=[v,v']/\Rep H O v d/\Rep H O v' d':=by
 cases h with
 | cons a t =>
  obtain⟨v,rfl,q⟩:=Reps.one' t
  exact⟨_,_,rfl,a,q⟩
theorem qH:PrM rAppend appD:=by
 intro O H l xs vs xd ad ds' Q hl rx ra e k
 unfold appD at e
 split at e
 ·split at e
  ·rename_i h
   cases e
   obtain⟨v,rfl,rv⟩:=Reps.one' ra
   exact⟨l,xs,v,rfl,rfl,hl,by rw[rx.length];exact h,k _ (rx.append (.one rv))⟩
  ·cases e
 ·cases e
theorem xR6:PrM rInsert insD:=by
 intro O H l xs vs xd ad ds' Q hl rx ra e k
 unfold insD at e
 split at e
 ·split at e
  ·rename_i h
   cases e
   obtain⟨v,v',rfl,rv,rv'⟩:=Reps.two' ra
   cases rv
   refine⟨l,xs,_,v',rfl,rfl,hl,h.1,h.2.1,by rw[rx.length];exact h.2.2,?_⟩
   rw[rx.length]
   exact k _ (Reps.insert rv' _ rx)
  ·cases e
 ·cases e
def Kp (i:Nat) (m:Ev->Res Out):Prop:=∀ρ o,m ρ=.ok (.nx o)->o[i]?=ρ[i]?
def KpG (i:Nat) (g:D->Ev->Option Ev):Prop:=∀d ρ o,g d ρ=some o->o[i]?=ρ[i]?
theorem bind_some {α β:Type}{r:Res α}{f:α->Res β}{b:β}(h:r.bind f=.ok b):∃a,r=.ok a/\f a=.ok b:=by
 cases r with
 | ok a=>exact⟨a,rfl,h⟩
 | ex c=>cases h
 | no=>cases h
theorem wQ1 {α:Type}{o:Option α}{a:α}(h:Res.lft o=.ok a):o=some a:=by
 cases o with
 | none=>cases h
 | some b=>cases h;rfl
section
variable {i j:Nat}{m n:Ev->Res Out}{t:Ev->Res Bool}{me mk:Ev->Res D}{ms mi:Ev->Res (List D)}{g:D->Ev->Option Ev}{f:List D->List D->Option (List D)}
theorem wE5 (h:autoParam ((i == j)=false) zU._auto_1):Kp i (sS j me):=fun ρ o e=>by
 obtain⟨d,_,e⟩:=bind_some e
 cases e
 exact List.getElem?_set_ne (fun z=>by rw[z] at h;simp at h)
theorem xA7 (h:autoParam ((i == j)=false) zU._auto_1):KpG i (gN j):=fun d ρ o e=>by
 cases e
 exact List.getElem?_set_ne (fun z=>by rw[z] at h;simp at h)
theorem xZ5 (hg:KpG i g) (hm:Kp i m):∀(ds:List D) (ρ o:Ev),forM g m ds ρ=.ok (.nx o)->o[i]?=ρ[i]?
 | [],ρ,o,e=>by cases e;rfl
 | d::ds,ρ,o,e=>by
  rw[forM] at e
  obtain⟨ρ1,e1,e⟩:=bind_some e
  obtain⟨x,e2,e⟩:=bind_some e
  cases x with
  | nx ρ2=>exact (xZ5 hg hm ds ρ2 o e).trans ((hm ρ1 ρ2 e2).trans (hg d ρ ρ1 (wQ1 e1)))
  | rt d=>cases e
theorem wE7 (hg:KpG i g) (hm:Kp i m):Kp i (sF mi g m):=fun ρ o e=>by
 obtain⟨ds,_,e⟩:=bind_some e
 exact xZ5 hg hm ds ρ o e
end
def isL:Value->Bool
 | .type t=>t == "list"
 | _=>false
def noLst (K:KFr):Bool:=K.all fun p=>!isL p.2.cls
theorem yD2 {K:KFr}{a:Addr}{o:Obj}(h:K.lookup a=some o):(a,o)∈K:=by
 have h:List.lookup a K=some o:=h
 induction K with
 | nil=>cases h
 | cons p r ih =>
  obtain⟨b,u⟩:=p
  rw[List.lookup_cons] at h
  by_cases e:(a == b)=true
  ·simp only[e] at h
   cases h
   have:a=b:=by simpa using e
   rw[this]
   exact List.mem_cons_self
  ·simp only[e] at h
   exact List.mem_cons_of_mem _ (ih h h)
theorem wE1 {K:KFr}{H:Hp}{a:Addr}{xs:List V}(hn:noLst K=true) (h:SqL K H a xs):Rd H a (.lst xs):=by
 rcases h with h | ⟨o,its,n,hk,hc,_⟩
 ·exact h
 ·have:=List.all_eq_true.mp hn _ (yD2 hk)
  rw[hc] at this
  cases this
end L2.L3
namespace L2.L3
open PySem
section
variable (m n:Ev->Res Out) (t t':Ev->Res Bool) (a b c:Ev->Res D) (xs:Ev->Res (List D)) (ρ:Ev) (i j:Nat) (d:D)
theorem wF3:sN ρ=.ok (.nx ρ):=rfl
theorem wF1:sX ρ=.no:=rfl
theorem xB8:sQ m n ρ=(m ρ).bind fun o=>match o with | .nx ρ'=>n ρ' | .rt d=>.ok (.rt d):=rfl
theorem wR7:sIf t m n ρ=(t ρ).bind fun k=>if k then m ρ else n ρ:=rfl
theorem yO6:sR a ρ=(a ρ).bind fun d=>.ok (.rt d):=rfl
theorem xB5:sS i a ρ=(a ρ).bind fun d=>.ok (.nx (ρ.set i (some d))):=rfl
theorem wF6:sE a ρ=(a ρ).bind fun _=>.ok (.nx ρ):=rfl
theorem wE9 (g:List D->List D->Option (List D)):sM i g xs ρ=(eV i ρ).bind fun d=>(Res.lft (lstD d)).bind fun xd=>(xs ρ).bind fun ad=>(Res.lft (g xd ad)).bind fun ds=>.ok (.nx (ρ.set i (some (.list ds)))):=rfl
theorem wD2:sI i b a ρ=(a ρ).bind fun v=>(eV i ρ).bind fun d=>(Res.lft (lstD d)).bind fun xd=>(b ρ).bind fun k=>(Res.lft (setD xd k v)).bind fun ds=>.ok (.nx (ρ.set i (some (.list ds)))):=rfl
theorem wD1:sV i j ρ=(eV j ρ).bind fun d=>.ok (.nx ((ρ.set i (some d)).set j none)):=rfl
theorem wH3 (g:D->Ev->Option Ev):sF xs g m ρ=(xs ρ).bind fun ds=>forM g m ds ρ:=rfl
theorem wG3 (k:Nat):sW k t m ρ=whM t m k ρ:=rfl
theorem yO8:eC d ρ=.ok d:=rfl
theorem eV0 (x:D) (r:Ev):eV 0 (some x::r)=.ok x:=rfl
theorem eVs (o:Option D) (r:Ev):eV (i+1) (o::r)=eV i r:=rfl
theorem wD4 (f:D->Option D):e1 f a ρ=(a ρ).bind fun x=>Res.lft (f x):=rfl
theorem yN3 (f:D->D->Option D):e2 f a b ρ=(a ρ).bind fun x=>(b ρ).bind fun y=>Res.lft (f x y):=rfl
theorem yZ2 (f:List D->Option D):eB f xs ρ=(xs ρ).bind fun ds=>Res.lft (f ds):=rfl
theorem wG8 (f:List D->Res D):eF f xs ρ=(xs ρ).bind f:=rfl
theorem wM7 (fr:Bool) (f:List D->Res D):eFA fr f xs ρ=(xs ρ).bind fun ds=>(f ds).bind fun d=>if lfT fr d then .ok d else .no:=rfl
theorem wE4 (f:D->D->Option Bool):b2 f a b ρ=(a ρ).bind fun x=>(b ρ).bind fun y=>Res.lft (f x y):=rfl
theorem yN2 (f g:D->D->Option Bool):b3 f g a b c ρ=(a ρ).bind fun x=>(b ρ).bind fun y=>(Res.lft (f x y)).bind fun k=>if k then (c ρ).bind fun z=>Res.lft (g y z) else .ok false:=rfl
theorem yN1:vB t ρ=(t ρ).bind fun k=>.ok (.bool k):=rfl
theorem wG7:tV a ρ=(a ρ).bind fun d=>Res.lft (isB d):=rfl
theorem wK8:tNt t ρ=(t ρ).bind fun k=>.ok (!k):=rfl
theorem wO7:tAn t t' ρ=(t ρ).bind fun k=>if k then t' ρ else .ok false:=rfl
theorem wD3:tO t t' ρ=(t ρ).bind fun k=>if k then .ok true else t' ρ:=rfl
theorem zE6:vAn a b ρ=(a ρ).bind fun d=>(Res.lft (isB d)).bind fun k=>if k then b ρ else .ok (.bool false):=rfl
theorem wF5:vO a b ρ=(a ρ).bind fun d=>(Res.lft (isB d)).bind fun k=>if k then .ok (.bool true) else b ρ:=rfl
theorem wO3:vNt a ρ=(a ρ).bind fun d=>(Res.lft (isB d)).bind fun k=>.ok (.bool (!k)):=rfl
theorem wJ3:eIf t a b ρ=(t ρ).bind fun k=>if k then a ρ else b ρ:=rfl
theorem zA9:aN ρ=.ok []:=rfl
theorem yN6:aC a xs ρ=(a ρ).bind fun x=>(xs ρ).bind fun r=>.ok (x::r):=rfl
theorem wH4:iS a ρ=(a ρ).bind fun d=>Res.lft (seqD d):=rfl
theorem wE8 (f:List D->Option (List D)):iR f xs ρ=(xs ρ).bind fun ds=>Res.lft (f ds):=rfl
theorem wF9:gN i d ρ=some (ρ.set i (some d)):=rfl
theorem wZ6:tYes ρ=.ok true:=rfl
theorem xD1 (mi:Ev->Res (List D)) (js:List Nat):eComp mi t a js ρ=(mi ρ).bind fun ds=>if ds.length<=sizeLine then (compM (fun x=>t (cEnv ρ js x)) (fun x=>a (cEnv ρ js x)) ds).bind fun out=>.ok (.list out) else .no:=rfl
theorem wF4 (f:Int->Int->Option Int) (x y:Int):i2 f (.int x) (.int y)=(f x y).map PyData.int:=rfl
theorem yO7 (f:Int->Int->Bool) (x y:Int):c2 f (.int x) (.int y)=some (f x y):=rfl
theorem wW2 (l:List D):lstD (.list l)=some l:=rfl
theorem xO7 (l:List D):seqD (.list l)=some l:=rfl
theorem xJ2 (l:List D):seqD (.tuple l)=some l:=rfl
theorem yZ7 (k:Bool):isB (.bool k)=some k:=rfl
theorem yV5:lenD [d]=(seqD d).map fun ds=>.int ds.length:=rfl
theorem xC4:listD [d]=(seqD d).map fun ds=>.list ds:=rfl
theorem wZ5:tupD [d]=(seqD d).map fun ds=>.tuple ds:=rfl
theorem wE6 (l:List D) (k:Int):ixD (.list l) (.int k)=atI l k:=rfl
theorem wD5 (l:List D) (k:Int):ixD (.tuple l) (.int k)=atI l k:=rfl
theorem wS9 (k:Int):negD (.int k)=some (.int (-k)):=rfl
theorem yO9 (k:Bool):bD (some k)=some (.bool k):=rfl
end
theorem yZ3 (fr:Bool) (d:D):fin fr (.rt d)=.ok d:=rfl
theorem wI1 (ρ:Ev):fin false (.nx ρ)=.ok .none:=rfl
theorem vW {g:D->Ev->Option Ev}{b:Ev->Res Out}(P:Nat->Ev->Prop) (ds:List D) (ρ:Ev) (h0:P 0 ρ) (hs:∀(i:Nat) d ρ,ds[i]?=some d->P i ρ->∃ρ1 ρ2,g d ρ=some ρ1/\b ρ1=.ok (.nx ρ2)/\P (i+1) ρ2) :
  ∃ρ',forM g b ds ρ=.ok (.nx ρ')/\P ds.length ρ':=by
 induction ds generalizing P ρ with
 | nil=>exact⟨ρ,rfl,h0⟩
 | cons d ds ih =>
  obtain⟨ρ1,ρ2,e1,e2,p⟩:=hs 0 d ρ rfl h0
  obtain⟨ρ',e,p'⟩:=ih (fun i=>P (i+1)) ρ2 p fun i d ρ hd hp=>hs (i+1) d ρ (by simpa using hd) hp
  refine⟨ρ',?_,by simpa using p'⟩
  rw[forM,e1,Res.lft_some,Res.bind_ok,e2,Res.bind_ok]
  exact e
theorem yJ6 {t:Ev->Res Bool}{b:Ev->Res Out}(P:Nat->Ev->Prop) (n:Nat):∀(fuel:Nat) (ρ:Ev),P 0 ρ->(∀i ρ,i<n->P i ρ->t ρ=.ok true/\∃ρ2,b ρ=.ok (.nx ρ2)/\P (i+1) ρ2)->(∀ρ,P n ρ->t ρ=.ok false)->n<fuel->∃ρ',whM t b fuel ρ=.ok (.nx ρ')/\P n ρ':=by
 induction n generalizing P with
 | zero =>
  intro fuel ρ h0 _ he hf
  obtain⟨f,rfl⟩:∃f,fuel=f+1:=⟨fuel-1,by bv_omega⟩
  refine⟨ρ,?_,h0⟩
  rw[whM,he ρ h0]
  rfl
 | succ n ih =>
  intro fuel ρ h0 hs he hf
  obtain⟨f,rfl⟩:∃f,fuel=f+1:=⟨fuel-1,by bv_omega⟩
  obtain⟨e1,ρ2,e2,p⟩:=hs 0 ρ (Nat.succ_pos _) h0
  obtain⟨ρ',e,p'⟩:=ih (fun i=>P (i+1)) f ρ2 p (fun i ρ hi hp=>hs (i+1) ρ (by bv_omega) hp) he (by bv_omega)
  refine⟨ρ',?_,p'⟩
  rw[whM,e1,Res.bind_ok,if_pos rfl,e2,Res.bind_ok]
  exact e
theorem zL1 {t:D->Res Bool}{f:D->Res D}{α:Type}(A:α->D) (p:α->Bool) (q:α->D):∀(xs:List α),(∀x∈xs,t (A x)=.ok (p x))->(∀x∈xs,p x=true->f (A x)=.ok (q x))->compM t f (xs.map A)=.ok ((xs.filter p).map q)
 | [],_,_=>rfl
 | x::xs,ht,hf=>by
  have ih:=zL1 A p q xs (fun y hy=>ht y (List.mem_cons_of_mem _ hy)) (fun y hy=>hf y (List.mem_cons_of_mem _ hy))
  rw[List.map_cons,compM,ht x List.mem_cons_self]
  cases hp:p x with
  | false=>simp only[noEx,Res.bind_ok,Bool.false_eq_true,if_false,List.filter_cons,hp];exact ih
  | true =>
   rw[hf x List.mem_cons_self hp,ih]
   simp[noEx,List.filter_cons,hp]
abbrev tI (ns:List Int):D:=.tuple (ns.map PyData.int)
abbrev lI (ns:List Int):D:=.list (ns.map PyData.int)
theorem zX3 {α β:Type}(f:α->β) (xs:List α) (i:Int):atI (xs.map f) i=(atI xs i).map f:=by
 unfold atI
 rw[List.length_map]
 cases ixN xs.length i with
 | none=>rfl
 | some j=>simp
theorem zV5 {xs:List Int}{j:Nat}(h:j<xs.length):atI xs (j:Int)=some (xs.getD j 0):=by
 refine zW4 ?_
 rw[List.getD_eq_getElem?_getD,List.getElem?_eq_getElem h]
 rfl
theorem zO2 {ds:List D}(h:ds.length<=1000):mkL ds=some (.list ds):=by
 unfold mkL
 exact if_pos (Nat.le_of_lt (small1000 h))
theorem yZ6 {ds:List D}(h:ds.length<=1000):mkT ds=some (.tuple ds):=by
 unfold mkT
 exact if_pos (Nat.le_of_lt (small1000 h))
theorem mkL0:mkL []=some (.list []):=zO2 (by simp)
theorem mkL1 (a:D):mkL [a]=some (.list [a]):=zO2 (by simp)
theorem mkL2 (a b:D):mkL [a,b]=some (.list [a,b]):=zO2 (by simp)
theorem mkL3 (a b c:D):mkL [a,b,c]=some (.list [a,b,c]):=zO2 (by simp)
theorem mkL4 (a b c d:D):mkL [a,b,c,d]=some (.list [a,b,c,d]):=zO2 (by simp)
theorem mkT0:mkT []=some (.tuple []):=yZ6 (by simp)
theorem mkT1 (a:D):mkT [a]=some (.tuple [a]):=yZ6 (by simp)
theorem mkT2 (a b:D):mkT [a,b]=some (.tuple [a,b]):=yZ6 (by simp)
theorem mkT3 (a b c:D):mkT [a,b,c]=some (.tuple [a,b,c]):=yZ6 (by simp)
theorem bR {l:List D}{d:D}(h:l.length<=1000):appD l [d]=some (l ++ [d]):=if_pos (small1000 h)
theorem yF2 {l k:List D}{d:D}(hd:seqD d=some k) (h:l.length+k.length<=1000):extD l [d]=some (l++k):=by
 show (seqD d).bind (fun ys=>if l.length+ys.length<=sizeLine then some (l++ys) else none)=_
 rw[hd]
 exact if_pos (Nat.le_of_lt (small1000 h))
theorem wR3 {l:List D}{d:D}{i:Int}(h0:0<=i) (h1:i<=l.length) (h:l.length<=1000):insD l [.int i,d]=some (l.take i.toNat++d::l.drop i.toNat):=by
 unfold insD
 simp only
 rw[if_pos ⟨by bv_omega,by bv_omega,small1000 h⟩]
 have e:insN l.length i=i.toNat:=by
  unfold insN
  rw[if_neg (by bv_omega)]
  bv_omega
 rw[e]
theorem xZ7 {ds:List D}{r:Res D}(h:ds.length<=1000):(if ds.length<=sizeLine then r else .no)=r:=if_pos (Nat.le_of_lt (small1000 h))
theorem cJ {n:Nat}(h:n<=1000):rng1 [.int (n:Int)]=some ((List.range n).map fun (i:Nat)=>PyData.int (i:Int)):=by
 unfold rng1
 simp only
 rw[if_pos ⟨by bv_omega,by bv_omega⟩,Int.toNat_natCast]
theorem zK6 {n i:Nat}{d:D}(h:((List.range n).map fun (i:Nat)=>PyData.int (i:Int))[i]?=some d):i<n/\d=.int (i:Int):=by
 rw[List.getElem?_map] at h
 by_cases hi:i<n
 ·rw[List.getElem?_range hi] at h
  cases h
  exact⟨hi,rfl⟩
 ·rw[List.getElem?_eq_none (by simpa using hi)] at h
  cases h
theorem cU (i:Int):SeqAt.shaped (.int i)=true:=rfl
theorem yB2 (i j:Int):PyData.eqv (.int i) (.int j)=decide (i=j):=by
 rw[PyData.eqv]
 exact Bool.beq_eq_decide_eq i j
theorem vV (i j:Int):eqD (.int i) (.int j)=some (decide (i=j)):=by
 unfold eqD
 rw[if_pos ⟨cU i,cU j⟩,yB2]
theorem zX8 (i j:Int):neD (.int i) (.int j)=some (!decide (i=j)):=by
 unfold neD
 rw[if_pos ⟨cU i,cU j⟩,yB2]
theorem wP7 (ns ms:List Int):eqD (lI ns) (lI ms)=some (decide (ns=ms)):=by
 unfold eqD
 rw[if_pos ⟨zH4 ns,zH4 ms⟩,wU5]
theorem wR4 (ns ms:List Int):eqD (tI ns) (tI ms)=some (decide (ns=ms)):=by
 unfold eqD
 rw[if_pos ⟨zM2 ns,zM2 ms⟩,wX9]
abbrev rows (rs:List (List Int)):D:=.list (rs.map tI)
theorem yA5 {n m:Nat}(h:m<n):ixN n (m:Int)=some m:=by
 unfold ixN
 rw[if_pos (by bv_omega),if_pos (by bv_omega),Int.toNat_natCast]
theorem xR2 {n m:Nat}(h:m<n) (f:Nat->D) (v:D):((List.range n).map f).set m v=(List.range n).map fun c=>if c=m then v else f c:=by
 apply List.ext_getElem?
 intro i
 by_cases e:m=i
 ·subst e
  rw[List.getElem?_set_self (by simpa using h),List.getElem?_map,List.getElem?_range h]
  simp
 ·rw[List.getElem?_set_ne e,List.getElem?_map,List.getElem?_map]
  cases q:(List.range n)[i]? with
  | none=>rfl
  | some c =>
   have:c=i:=by
    have hi:=(List.getElem?_eq_some_iff.mp q).1
    rw[List.getElem?_range (by simpa using hi)] at q
    cases q;rfl
   subst this
   show some (f c)=some (if c=m then v else f c)
   rw[if_neg (fun z=>e z.symm)]
theorem zU9 {n m:Nat}(h:m<n) (f:Nat->D) (v:D):setD ((List.range n).map f) (.int (m:Int)) v=some ((List.range n).map fun c=>if c=m then v else f c):=by
 unfold setD
 simp only
 rw[List.length_map,List.length_range,yA5 h,Option.map_some,xR2 h]
theorem bE (v:D) (n:Nat) (h:n<=1000):repL (.list [v]) (.int (n:Int))=some (.list (List.replicate n v)):=by
 unfold repL
 simp only
 rw[if_pos ⟨by bv_omega,by bv_omega,by rw[List.length_singleton,Int.toNat_natCast];exact Nat.le_of_lt (small1000 (by bv_omega))⟩,Int.toNat_natCast]
 congr 2
 induction n with
 | zero=>rfl
 | succ n ih=>rw[List.replicate_succ,List.flatten_cons,ih (by bv_omega),List.replicate_succ];rfl
theorem dI {α:Type}(v:α) (n:Nat):List.replicate n v=(List.range n).map fun _=>v:=by
 apply List.ext_getElem?
 intro i
 rw[List.getElem?_replicate,List.getElem?_map]
 by_cases h:i<n
 ·rw[if_pos h,List.getElem?_range h];rfl
 ·rw[if_neg h,List.getElem?_eq_none (by simpa using h)];rfl
theorem zQ6 {n m:Nat}(h:m<n) (f:Nat->D):atI ((List.range n).map f) (m:Int)=some (f m):=zW4 (by rw[List.getElem?_map,List.getElem?_range h];rfl)
theorem zU6 {n:Nat}(h:n<=1000):rangeL [.int (n:Int)]=some (lI ((List.range n).map fun (i:Nat)=>(i:Int))):=by
 unfold rangeL
 simp only
 rw[if_pos ⟨by bv_omega,by bv_omega⟩,Int.toNat_natCast]
 congr 2
 rw[List.map_map]
 rfl
theorem yJ4 {ns:List Int}(h:ns.length<=63):sortD [lI ns]=some (lI (sortI ns)):=by
 unfold sortD
 simp only[nsD,seqD,Option.bind_some,intsOf_map]
 rw[if_pos (by bv_omega)]
theorem wX3 {ns:List Int}(h:ns ≠ []):min1D [tI ns]=some (.int (minL ns)):=by
 unfold min1D
 simp only[nsD,seqD,Option.bind_some,intsOf_map]
 rw[if_neg h]
section
variable (i:Int) (b:Bool) (l:List D)
theorem wL6:isiD "int" (.int i)=some (.bool true):=rfl
theorem wQ3:isiD "bool" (.int i)=some (.bool false):=rfl
theorem wI7:isiD "bool" (.bool b)=some (.bool true):=rfl
theorem wR6:isiD "int" (.bool b)=some (.bool true):=rfl
theorem wK6:isiD "tuple" (.tuple l)=some (.bool true):=rfl
theorem wR2:isiD "list" (.list l)=some (.bool true):=rfl
theorem wQ4:isiD "tuple" (.list l)=some (.bool false):=rfl
theorem wR9:isiD "list" (.tuple l)=some (.bool false):=rfl
theorem wN9:isiD "tuple" .none=some (.bool false):=rfl
theorem wP9:isiD "bool" .none=some (.bool false):=rfl
end
theorem zV7 {mi:Ev->Res (List D)}{t:Ev->Res Bool}{me:Ev->Res D}{js:List Nat}{ρ:Ev}{α:Type}(A:α->D) (p:α->Bool) (q:α->D) (xs:List α) (h:mi ρ=.ok (xs.map A)) (hl:xs.length<=1000)
  (ht:∀x∈xs,t (cEnv ρ js (A x))=.ok (p x)) (hf:∀x∈xs,p x=true->me (cEnv ρ js (A x))=.ok (q x)):eComp mi t me js ρ=.ok (.list ((xs.filter p).map q)):=by
 rw[xD1,h,Res.bind_ok,xZ7 (by rw[List.length_map];exact hl),zL1 A p q xs ht hf]
 rfl
theorem xJ {mi:Ev->Res (List D)}{me:Ev->Res D}{js:List Nat}{ρ:Ev}{α:Type}(A:α->D) (q:α->D) (xs:List α) (h:mi ρ=.ok (xs.map A)) (hl:xs.length<=1000)
  (hf:∀x∈xs,me (cEnv ρ js (A x))=.ok (q x)):eComp mi tYes me js ρ=.ok (.list (xs.map q)):=by
 rw[zV7 A (fun _=>true) q xs h hl (fun _ _=>rfl) (fun x hx _=>hf x hx),List.filter_eq_self.mpr fun _ _=>rfl]
end L2.L3
namespace L2.L3
theorem zF9 {α:Type}(a:α) (l:List α):atI (a::l) 0=some a:=zW4 (j:=0) rfl
end L2.L3
namespace HT
open PySem PySem.Spec PyProof.Rows
section
variable {prog:Program}{w:World}{A:Around}{E:Value->Shared->Prop}{s:Shared}
theorem zI4 {t sl:Addr}{items:Array Value}{vl vu:Value}{lo hi:Option Int}{Q:Value->Shared->Prop}(ht:IsTup s.heap t items) (hs:s.heap.IsSliceOf sl vl vu .none) (pl:IsPart vl lo) (pu:IsPart vu hi)
  (hw:sIx items.size 0 lo=0/\sIx items.size items.size hi=items.size) (h:Q (.ref t) s):wpAny (model prog w) A (getItem (.ref t) (.ref sl)) Q E s:=by
 obtain⟨os,hos,hcs,hds⟩:=id hs
 have hTs:s.TypeIs (.ref sl) "slice":=⟨os,hos,hcs⟩
 unfold getItem
 try with_reducible refine wpAny_holding ?_
 first | refine wpAny_bind (wpAny_pure ?_) | skip
 refine wpAny_bind (wpAny_sequenceKey ht.typeIs (by decide) ?_)
 refine wpAny_bind (wpAny_callSpecial?_slot (name:=Str.ofString "__getitem__") ht.typeIs PyProof.Rows.slot_tuple_getitem
  (wpAny_call_entry PyProof.Rows.slot_tuple_getitem ht.typeIs entry_tuple_getitem ?_ (args_tuple_getitem _ _)))
 show wpAny _ _ (Builtin.Tuple.tupleItemsOf (.ref t) >>= _) _ _ s
 refine wpAny_bind (tupleItemsOf_ ht ?_)
 refine wpAny_bind (wpAny_typeOf hTs ?_)
 rw[if_pos (by decide)]
 refine wpAny_bind (bG hs pl pu ?_)
 have hyes:(((sIx items.size 0 lo:Nat):Int) == 0&&(1:Int) == 1&&(sIx items.size items.size hi-sIx items.size 0 lo) == items.size)=true:=by
  rw[hw.1,hw.2]
  simp
 show wpAny _ _ (if (((sIx items.size 0 lo:Nat):Int) == 0&&(1:Int) == 1&&(sIx items.size items.size hi-sIx items.size 0 lo) == items.size)=true then _ else _) _ _ s
 rw[if_pos hyes]
 unfold Builtin.Tuple.tupleIsExact
 refine wpAny_bind (wpAny_bind (wpAny_typeOf ht.typeIs (wpAny_pure ?_)))
 rw[if_pos (by decide)]
 refine wpAny_bind (wpAny_rule ?_)
 exact wpAny_pure ⟨_,rfl,wpAny_pure h⟩
end
end HT
namespace L2.L3
open PySem PySem.Spec PyProof.Rows
variable [CN]
section
variable {X:Cx}
def rSlTA (K:KFr):V->Option Int->Option Int->Hp->VK->Prop:=fun x lo hi H Q=>∃a xs,x=.ref a/\SqT K H a xs/\HT.sIx xs.length 0 lo=0/\HT.sIx xs.length xs.length hi=xs.length/\Q (.ref a) H
theorem wU9:SlR X (rSlTA X.K):=by
 intro pins s σ H x v vl vu lo hi sl Q I rx hs pl pu h
 obtain⟨a,xs,rfl,hx,hw1,hw2,q⟩:=h
 cases rx
 obtain⟨its,r,ht,hz⟩:=I.tuple hx
 have hlen:its.toArray.size=xs.length:=by rw[List.size_toArray];exact r.length.symm
 refine⟨"tuple",_,PyProof.Rows.slot_tuple_getitem.lookup,ht.typeIs,?_⟩
 exact HT.zI4 ht hs pl pu (by rw[hlen];exact⟨hw1,hw2⟩) ⟨.ref a,H,I,rfl,q⟩
end
def RO (C:Ct) (e:Option Expr) (m:Ev->Res (Option Int)):Prop :=
 ∃t,PO C.X e t/\∀(Oc:Wd) (Ob:Addr->Prop) (σ:St) (H:Hp) (ρ:Ev) (Q:Option Int->Hp->Prop),Rel Oc Ob C.om C.ln σ H ρ ->
  (m ρ).post (fun d=>∀H',Same H H'->Q d H') (fun c=>∀H',Same H H'->C.XE c H')->t σ H Q
def oN:Ev->Res (Option Int):=fun _=>.ok none
def isI:D->Option Int
 | .int i=>some i
 | _=>none
def oS (m:Ev->Res D):Ev->Res (Option Int):=fun ρ=>(m ρ).bind fun d=>(Res.lft (isI d)).bind fun i=>.ok (some i)
theorem kF {C:Ct}:RO C none oN:=⟨_,wZ1,fun Oc Ob σ H ρ Q R h=>h H (Same.refl H)⟩
theorem qQ {C:Ct}{e:Expr}{md:Md}{me:Ev->Res D}(h:RE C md e me):RO C (some e) (oS me):=by
 obtain⟨t,p,q⟩:=h
 refine⟨_,wX6 p,fun Oc Ob σ H ρ Q R h=>q Oc Ob σ H ρ _ R (Res.zO (Res.zT h) (fun d _ k v H' s r => ?_) fun _ z=>z)⟩
 obtain⟨i,e,k⟩:=Res.zF (Res.zT k)
 cases d with
 | int j=>cases e;exact⟨i,(r.va R.oh).int,k H' s⟩
 | _=>cases e
def eS (f:D->Option Int->Option Int->Option D) (m:Ev->Res D) (lo hi:Ev->Res (Option Int)):Ev->Res D:=fun ρ=>(m ρ).bind fun x=>(lo ρ).bind fun l=>(hi ρ).bind fun u=>Res.lft (f x l u)
def PrS (r:V->Option Int->Option Int->Hp->VK->Prop) (md:Md) (f:D->Option Int->Option Int->Option D):Prop :=
 ∀(Oc:Wd) (Ob:Addr->Prop) (H:Hp) (x:V) (dx:D) (lo hi:Option Int) (d:D) (Q:VK),(∀a,Oc a\/Ob a->H a≠none)->VA Oc Ob H x dx->f dx lo hi=some d->(∀v H',Same H H'->VR md Oc Ob H H' v d->Q v H')->r x lo hi H Q
theorem zF5 {C:Ct}{e:Expr}{lo hi:Option Expr}{md mda:Md}{me:Ev->Res D}{ml mh:Ev->Res (Option Int)}{p2 pos:Pos}{r:V->Option Int->Option Int->Hp->VK->Prop}{f:D->Option Int->Option Int->Option D}(hr:SlR C.X r) (hp:PrS r md f) (he:RE C mda e me) (hl:RO C lo ml) (hu:RO C hi mh) :
  RE C md (.Subscript e (.Slice lo hi none p2) pos) (eS f me ml mh):=by
 obtain⟨t,p,q⟩:=he
 obtain⟨tl,pl,ql⟩:=hl
 obtain⟨th,ph,qh⟩:=hu
 refine⟨_,xG6 hr p pl ph,fun Oc Ob σ H ρ Q R h=>q Oc Ob σ H ρ _ R (Res.zO (Res.zT h) (fun d _ k v H1 s1 r => ?_) fun _ z=>z)⟩
 refine ql Oc Ob σ H1 ρ _ (R.same s1) (Res.zO (Res.zT k) (fun l _ k H2 s2 => ?_) fun c z H' s'=>z H' (s1.trans s'))
 refine qh Oc Ob σ H2 ρ _ ((R.same s1).same s2) (Res.zO (Res.zT k) (fun u _ k H3 s3 => ?_) fun c z H' s'=>z H' ((s1.trans s2).trans s'))
 obtain⟨d',e,k⟩:=Res.zF k
 have R3:=((R.same s1).same s2).same s3
 refine hp Oc Ob H3 v d l u d' Q R3.oh ((r.va R.oh).same (s2.trans s3)) e fun w H' s4 rw' => ?_
 exact k w H' (((s1.trans s2).trans s3).trans s4) (rw'.from ((s1.trans s2).trans s3))
def cutD {α:Type}(xs:List α) (lo hi:Option Int):List α:=(xs.drop (HT.sIx xs.length 0 lo)).take (HT.sIx xs.length xs.length hi-HT.sIx xs.length 0 lo)
theorem zO9 {H:Hp}{O:Addr->Prop}{vs:List V}{ds:List D}(r:Reps H O vs ds) (lo hi:Option Int):Reps H O (cutV vs lo hi) (cutD ds lo hi):=by
 unfold cutV cutD
 rw[r.length]
 exact (r.drop _).take _
def slL:D->Option Int->Option Int->Option D
 | .list ds,lo,hi=>some (.list (cutD ds lo hi))
 | _,_,_=>none
def slD:D->Option Int->Option Int->Option D
 | .list ds,lo,hi=>some (.list (cutD ds lo hi))
 | .tuple ds,lo,hi=>some (.tuple (cutD ds lo hi))
 | _,_,_=>none
theorem wT4 {K:KFr}:PrS (rSlL K) .new slL:=by
 intro Oc Ob H x dx lo hi d Q oh va e k
 cases dx with
 | list ds =>
  cases e
  obtain⟨a,ys,rfl,rd,rs⟩:=va.list
  exact⟨a,ys,rfl,.inl rd,fun p hp=>k _ _ (Same.new hp) (wE (Same.refl H) hp (zO9 rs lo hi))⟩
 | _=>cases e
theorem wX1 {α:Type}{xs:List α}{lo hi:Option Int}(h1:HT.sIx xs.length 0 lo=0) (h2:HT.sIx xs.length xs.length hi=xs.length):cutD xs lo hi=xs:=by
 unfold cutD
 rw[h1,h2,List.drop_zero,Nat.sub_zero,List.take_length]
theorem wP5 {K:KFr}:PrS (fun x lo hi H Q=>rSlL K x lo hi H Q\/rSlT K x lo hi H Q\/rSlTA K x lo hi H Q) .cl slD:=by
 intro Oc Ob H x dx lo hi d Q oh va e k
 cases dx with
 | list ds =>
  cases e
  obtain⟨a,ys,rfl,rd,rs⟩:=va.list
  exact .inl ⟨a,ys,rfl,.inl rd,fun p hp=>k _ _ (Same.new hp) (VR.clean (wE (Same.refl H) hp (zO9 rs lo hi)) oh)⟩
 | tuple ds =>
  cases e
  rcases va with va | ⟨_,_,_,_,ez,_⟩
  ·cases va with
   | @tup a ys _ rd n rs =>
    by_cases hw:HT.sIx ys.length 0 lo=0/\HT.sIx ys.length ys.length hi=ys.length
    ·refine .inr (.inr ⟨a,ys,rfl,.inl rd,hw.1,hw.2,k _ H (Same.refl H) ?_⟩)
     rw[wX1 (by rw[<-rs.length];exact hw.1) (by rw[<-rs.length];exact hw.2)]
     exact .tup rd n rs
    ·exact .inr (.inl ⟨a,ys,rfl,.inl rd,hw,fun p hp=>k _ _ (Same.new hp) (gD oh hp (zO9 rs lo hi))⟩)
  ·cases ez
 | _=>cases e
theorem kD {C:Ct}{e:Expr}{lo hi:Option Expr}{mda:Md}{me:Ev->Res D}{ml mh:Ev->Res (Option Int)}{p2 pos:Pos}(he:RE C mda e me) (hl:RO C lo ml) (hu:RO C hi mh):RE C .new (.Subscript e (.Slice lo hi none p2) pos) (eS slL me ml mh):=zF5 yC9 wT4 he hl hu
theorem yT2 {C:Ct}{e:Expr}{lo hi:Option Expr}{mda:Md}{me:Ev->Res D}{ml mh:Ev->Res (Option Int)}{p2 pos:Pos}(he:RE C mda e me) (hl:RO C lo ml) (hu:RO C hi mh):RE C .cl (.Subscript e (.Slice lo hi none p2) pos) (eS slD me ml mh):=zF5 (yC9.or (wK7.or wU9)) wP5 he hl hu
theorem yF3 {C:Ct}{fr:Bool}(i:Nat){x:Str}{a:Expr}{md:Md}{ma:Ev->Res D}{p' apos cpos pos:Pos}(ha:RE C md a ma)
  (hN:autoParam (C.X.N[i]?=some x) zU._auto_1) (ho:autoParam (C.om.contains i=true) zU._auto_1) (hv:autoParam (Vis C.X.env.scope x) jU._auto_1) (hd:autoParam ((x == ("__debug__":Str))=false) yX._auto_1) (hcd:autoParam ((x == ("__classdict__":Str))=false) yX._auto_1)
  (hbase:autoParam (attributeBase (.Name x p') "extend" C.X.env (eval (.Name x p') C.X.env)=eval (.Name x p') C.X.env) zU._auto_1)
  (hfew:((backTo cpos (starEach [a] C.X.env)).all (fun x=>!x.1)&&(backToKw cpos (keywordEach [] C.X.env)).all (fun x=>x.1.isSome)
  &&decide ([a].length+([]:List Keyword).length+(if ([]:List Keyword).isEmpty then 0 else 1)<30))=true:=by rfl)
  (hline:autoParam ((apos.endLine == cpos.line)=true) zU._auto_1) (hs:autoParam (starEach [a] C.X.env=(false,eval a C.X.env)::starEach [] C.X.env) zU._auto_1) (hplain:autoParam ((backTo cpos (starEach [] C.X.env)).any (·.1)=false) zU._auto_1)
  (hsw:autoParam (swapsWith (.Call (.Attribute (.Name x p') "extend" apos) [a] [] cpos) none pos.line C.X.env=pure false) zU._auto_1) :
  RS C fr (.Expr (.Call (.Attribute (.Name x p') "extend" apos) [a] [] cpos) pos) (sM i extD (aC ma aN)):=by
 obtain⟨t,p,q⟩:=ha
 refine⟨_,zI2 (zJ3 PySem.F.plainAttrs_list PySem.F.slot_list_extend PySem.F.type_list_extend wY2 (jX hN hv hd hcd) (qP p hJ hs) hbase hfew hline hs hplain) hsw,fun Oc Ob σ H ρ E R h => ?_⟩
 obtain⟨d,ed,k⟩:=vK (Res.zT h)
 obtain⟨xd,ex,k⟩:=Res.zF (Res.zT k)
 obtain rfl:=vF ex
 obtain⟨v,qv,l,ys,ds,rfl,e2,e3,e4,e5⟩:=R.own i _ ed (wR ho)
 cases e2
 refine⟨_,qv,.inl ⟨rfl,_,SqL.of e3⟩,q Oc Ob σ H ρ _ R (Res.zO (Res.zT (Res.zT k)) (fun ad _ k w H' s r' => ?_) fun c z H' s=>z H' (Same.frm s))⟩
 obtain⟨ds',eg,k⟩:=Res.zF (Res.zT (show ((Res.lft (extD xd [ad])).bind fun ds=>Res.ok (Out.nx (ρ.set i (some (.list ds))))).post _ _ from k))
 obtain⟨zs,e1,eg⟩:=Option.bind_eq_some_iff.mp (show (seqD ad).bind (fun ys=>if xd.length+ys.length<=sizeLine then some (xd++ys) else none)=some ds' from eg)
 split at eg
 ·rename_i hl
  cases eg
  have va:=r'.va R.oh
  have fin:∀(b:Addr) (ws:List V),(Rd H' b (.lst ws)\/Rd H' b (.tup ws))->Reps H' (Uni Oc Ob) ws zs->rExtR (.ref l) [.ref b] H' fun _ H1=>E.nx σ H1:=fun b ws rd rs=>by
   refine⟨l,b,ys,ws,rfl,rfl,s _ _ e3,rd,by rw[e5.length,rs.length];exact hl,?_⟩
   refine k _ _ Ob ((R.same s).write (wR ho) ed qv (s _ _ e3) e4 ((e5.same s).append rs)) (fun b o e n => ?_) fun b z=>.inl z
   rw[yU (fun z=>n (by subst z;exact e4))]
   exact s b o e
  cases ad with
  | list ds' =>
   cases e1
   obtain⟨b,ws,rfl,rd,rs⟩:=va.list
   exact fin b ws (.inl rd) rs
  | tuple ds' =>
   cases e1
   obtain⟨b,ws,rfl,rd,rs⟩:=va.tuple
   exact fin b ws (.inr rd) rs
  | _=>cases e1
 ·cases eg
section
variable (a:Ev->Res D) (l h:Ev->Res (Option Int)) (ρ:Ev) (f:D->Option Int->Option Int->Option D)
theorem wG4:eS f a l h ρ=(a ρ).bind fun x=>(l ρ).bind fun lo=>(h ρ).bind fun u=>Res.lft (f x lo u):=rfl
theorem wF7:oN ρ=.ok none:=rfl
theorem wI9:oS a ρ=(a ρ).bind fun d=>(Res.lft (isI d)).bind fun i=>.ok (some i):=rfl
theorem wR5 (i:Int):isI (.int i)=some i:=rfl
theorem wN3 (ds:List D) (lo hi:Option Int):slL (.list ds) lo hi=some (.list (cutD ds lo hi)):=rfl
theorem wH7 (ds:List D) (lo hi:Option Int):slD (.list ds) lo hi=some (.list (cutD ds lo hi)):=rfl
theorem wH6 (ds:List D) (lo hi:Option Int):slD (.tuple ds) lo hi=some (.tuple (cutD ds lo hi)):=rfl
end
theorem yK6 {α β:Type}(g:α->β) (xs:List α) (lo hi:Option Int):cutD (xs.map g) lo hi=(cutD xs lo hi).map g:=by
 unfold cutD
 rw[List.length_map,List.map_take,List.map_drop]
theorem wP6 {α:Type}(xs:List α) (k:Nat):cutD xs none (some (k:Int))=xs.take k:=by
 unfold cutD
 rw[HT.yG5,HT.yB7,List.drop_zero,Nat.sub_zero]
 by_cases h:k<=xs.length
 ·rw[Nat.min_eq_left h]
 ·rw[Nat.min_eq_right (by bv_omega),List.take_length,List.take_of_length_le (by bv_omega)]
theorem cF {α:Type}(xs:List α) (k:Nat):cutD xs (some (k:Int)) none=xs.drop k:=by
 unfold cutD
 rw[HT.yG5,HT.yB7]
 by_cases h:k<=xs.length
 ·rw[Nat.min_eq_left h,List.take_of_length_le (by rw[List.length_drop];bv_omega)]
 ·rw[Nat.min_eq_right (by bv_omega),List.drop_eq_nil_of_le (show xs.length<=k by bv_omega)]
  simp
end L2.L3
namespace L2.L3
open PySem
theorem xY1 (i:Int):∀ns:List Int,(ns.map PyData.int).any (fun z=>eqF z (.int i))=ns.contains i
 | []=>rfl
 | n::ns=>by
  rw[List.map_cons,List.any_cons,xY1 i ns,List.contains_cons]
  congr 1
  show (n == i)=(i == n)
  rw[Bool.eq_iff_iff]
  simp only[beq_iff_eq]
  exact eq_comm
theorem xW3:∀ns:List Int,(ns.map PyData.int).all flD=true
 | []=>rfl
 | n::ns=>by rw[List.map_cons,List.all_cons,xW3 ns];rfl
theorem xA3 (neg:Bool) (i:Int) (ns:List Int):inD neg (.int i) (tI ns)=some (if neg then !ns.contains i else ns.contains i):=by
 unfold inD
 show (if flD (.int i)=true/\(ns.map PyData.int).all flD=true then _ else none)=_
 rw[if_pos ⟨rfl,xW3 ns⟩,xY1]
theorem wV7 {ns:List Int}(h:ns ≠ []):max1D [tI ns]=some (.int (maxL ns)):=by
 unfold max1D
 simp only[nsD,seqD,Option.bind_some,intsOf_map]
 rw[if_neg h]
theorem wY4 {ns:List Int}(h:ns ≠ []):max1D [lI ns]=some (.int (maxL ns)):=by
 unfold max1D
 simp only[nsD,seqD,Option.bind_some,intsOf_map]
 rw[if_neg h]
theorem bY {a b:Nat}(ha:a<=1000) (hb:b<=1000):rng2 [.int (a:Int),.int (b:Int)]=some ((List.range (b-a)).map fun (i:Nat)=>PyData.int ((a+i:Nat):Int)):=by
 unfold rng2
 simp only
 rw[if_pos ⟨by bv_omega,by bv_omega,by bv_omega,by bv_omega⟩]
 congr 1
 rw[show ((b:Int)-(a:Int)).toNat=b-a by bv_omega]
 refine List.map_congr_left fun i _ => ?_
 congr 1
theorem uB {n i:Nat}{f:Nat->D}{d:D}(h:((List.range n).map f)[i]?=some d):i<n/\d=f i:=by
 rw[List.getElem?_map] at h
 by_cases hi:i<n
 ·rw[List.getElem?_range hi] at h
  cases h
  exact⟨hi,rfl⟩
 ·rw[List.getElem?_eq_none (by simpa using hi)] at h
  cases h
theorem uO {α β:Type}{g:D->Ev->Option Ev}{b:Ev->Res Out}{ds:List D}{ρ:Ev}{k:Out->Res α}{k':α->Res β}{R:Res β}(P:Nat->Ev->Prop) (h0:P 0 ρ) (hs:∀(i:Nat) d ρ,ds[i]?=some d->P i ρ->∃ρ1 ρ2,g d ρ=some ρ1/\b ρ1=.ok (.nx ρ2)/\P (i+1) ρ2)
  (hd:∀ρ',P ds.length ρ'->(k (.nx ρ')).bind k'=R):((forM g b ds ρ).bind k).bind k'=R:=by
 obtain⟨ρ',e,p⟩:=vW P ds ρ h0 hs
 rw[e,Res.bind_ok]
 exact hd ρ' p
theorem wQ8 {α β:Type}{t:Ev->Res Bool}{b:Ev->Res Out}{fuel:Nat}{ρ:Ev}{k:Out->Res α}{k':α->Res β}{R:Res β}(P:Nat->Ev->Prop) (n:Nat) (hf:n<fuel) (h0:P 0 ρ) (hs:∀i ρ,i<n->P i ρ->t ρ=.ok true/\∃ρ2,b ρ=.ok (.nx ρ2)/\P (i+1) ρ2) (he:∀ρ,P n ρ->t ρ=.ok false)
  (hd:∀ρ',P n ρ'->(k (.nx ρ')).bind k'=R):((whM t b fuel ρ).bind k).bind k'=R:=by
 obtain⟨ρ',e,p⟩:=yJ6 P n fuel ρ h0 hs he hf
 rw[e,Res.bind_ok]
 exact hd ρ' p
end L2.L3
namespace L2
open PySem PySem.Spec PyProof.Rows
theorem wZ3 {X:Cx}{elt iter:Expr}{ifs:List Expr}{sc0 scope:Scope}{N0:List Str}{px py pos spos:Pos}{xt y:Str}{fs:List Str}{js:List Nat}{i:Nat}{wi:TI}{tt:Addr->List Addr->Shared->Hp->TT}{te:Addr->List Addr->Shared->Hp->TE}(S:CompScope sc0 scope N0 xt fs js) (h0:X.env.scope=sc0) (hN0:X.N=N0) (hc:X.calm=true)
  (hi:PI X (.Name xt px) iter wi) (ht:∀C fp s₂ H,PTs (cxComp X (xt::fs) scope C fp s₂ H) ifs (tt C fp s₂ H)) (he:∀C fp s₂ H,PE (cxComp X (xt::fs) scope C fp s₂ H) elt (te C fp s₂ H))
  (nd:X.N.Nodup) (hy:X.N[i]?=some y) (hl:Loc X.env.scope y) (hsw:swapsWith (.ListComp elt [⟨.Name xt px,iter,ifs,0⟩] scope pos) (some (.Name y py)) spos.line X.env=pure true)
  (hs:autoParam (∀x,foldedSetIterable iter X.env x=pure x) qU._auto_1) (hf:autoParam (X.fn y=true\/X.env.scope.names.lookup y=some .local) zW8._auto_1) :
  PS X (.Assign [.Name y py] (.ListComp elt [⟨.Name xt px,iter,ifs,0⟩] scope pos) spos) (tAsg (tComp wi tt te js) (gName i)):=by
 intro pins s σ H E I h
 rw[exec_Assign_Name_used _ _ _ _ hsw]
 refine wpAny_bind (wpAny_standAt (wpAny_bind ?_))
 show wpAny _ X.A (do let _ <-comprehension (.ListComp elt [⟨.Name xt px,iter,ifs,0⟩] scope pos) scope X.env _ (newList []) false (eval iter X.env) (some (assign (.Name y py) X.env))) _ _ s
 refine wpAny_bind (thn (yQ1 S h0 hN0 hc hi ht he hs (use:=some (assign (.Name y py) X.env)) (Qv:=fun _ s'=>SP X pins E .next s') I h fun s' C D Ha fl hI hns hC q => ?_) fun _ s' hq=>wpAny_pure (wpAny_pure hq))
 show wpAny (model X.prog X.w) X.A (assign (.Name y py) X.env (.ref D)) (fun _ s''=>∃m,s''.heap.Ns C m/\∀h',Heap.SameBut C s''.heap h'->SP X pins E .next { s'' with heap:=h' }) X.xe s'
 obtain⟨m,oC,es,ep,hgC,hdC,hrC⟩:=hns
 have I1:Inv X pins σ Ha s':=hI s'.heap ⟨rfl,fun b _=>rfl⟩
 have I2:Inv X (pins ++ [(C,oC)]) σ Ha s':=I1.qR fun p hp=>by
  rcases List.mem_append.mp hp with z | z
  ·exact I1.pin p (List.mem_append_right _ z)
  ·have:p=(C,oC):=by simpa using z
   subst this
   exact⟨hgC,hC.1,hC.2.1,hC.2.2.1,fun v z=>by rw[hdC] at z;cases z⟩
 refine wpAny_assign_Name (zV9 I2 nd hy hl (show RelV (.ref D) (.ref D) from rfl) (fun s'' I3 => ?_) hf)
 have hgC':=(I3.pin (C,oC) (List.mem_append_right _ (List.mem_append_right _ List.mem_cons_self))).1
 refine⟨m,⟨oC,es,ep,hgC',hdC,hrC⟩,fun h' hsb => ?_⟩
 have I4:Inv X pins (σ.set i (some (.ref D))) Ha s'':=I3.qR fun p hp=>I3.pin p (List.mem_append_right _ (List.mem_append_left _ hp))
 exact⟨_,Ha,Inv.turned (it:=C) (t':=s''.toks) I4 (fun b o hb e=>(hsb.2 b hb).trans e) hC.1 hC.2.1 hC.2.2.2.1 hC.2.2.2.2.1 hC.2.2.2.2.2,q⟩
end L2
namespace L2.L3
open PySem PySem.Spec PyProof.Rows
variable [CN]
theorem zK5 {C:Ct}{fr:Bool}(i:Nat){elt iter:Expr}{ifs:List Expr}{sc0 scope:Scope}{N0:List Str}{px py pos spos:Pos}{xt y:Str}{fs:List Str}{js:List Nat}{mi:Ev->Res (List D)}{mt:Ev->Res Bool}{me:Ev->Res D}(nd:C.X.N.Nodup) (S:CompScope sc0 scope N0 xt fs js) (h0:C.X.env.scope=sc0) (hN0:C.X.N=N0) (hc:C.X.calm=true)
  (hi:RIc C (.Name xt px) iter mi) (ht:∀A fp s₂ H,RTs (cC C (xt::fs) scope A fp s₂ H js) ifs mt) (he:∀A fp s₂ H,RE (cC C (xt::fs) scope A fp s₂ H js) .cl elt me)
  (hy:autoParam (C.X.N[i]?=some y) zU._auto_1) (ho:autoParam (C.om.contains i=false) zU._auto_1) (hln:autoParam (C.ln.contains i=false) zU._auto_1) (hl:autoParam (Loc C.X.env.scope y) zW9._auto_1)
  (hsw:autoParam (swapsWith (.ListComp elt [⟨.Name xt px,iter,ifs,0⟩] scope pos) (some (.Name y py)) spos.line C.X.env=pure true) zU._auto_1) (hs:autoParam (∀x,foldedSetIterable iter C.X.env x=pure x) qU._auto_1) (hf:autoParam (C.X.fn y=true\/C.X.env.scope.names.lookup y=some .local) autoK12._auto_1) :
  RS C fr (.Assign [.Name y py] (.ListComp elt [⟨.Name xt px,iter,ifs,0⟩] scope pos) spos) (sS i (eComp mi mt me js)):=by
 obtain⟨wi,pi,qi⟩:=hi
 refine⟨_,wZ3 (tt:=fun A fp s H=>Classical.choose (ht A fp s H)) (te:=fun A fp s H=>Classical.choose (he A fp s H)) S h0 hN0 hc pi (fun A fp s H=>(Classical.choose_spec (ht A fp s H)).1) (fun A fp s H=>(Classical.choose_spec (he A fp s H)).1) nd hy hl hsw hs hf,fun Oc Ob σ H ρ E R h => ?_⟩
 refine yS9 qi ht he R (Res.zO (Res.zT h) (fun d _ k v H' s r => ?_) fun c z H' s=>z H' (Same.frm s))
 exact k _ H' Ob ((R.same s).set (xO ho) (xO hln) (VR.clean r R.oh)) (Same.frm s) fun b z=>.inl z
end L2.L3
namespace L2
open PySem PySem.Spec PyProof.Rows
def pick3 {α:Type}(xs:List α) (l u k:Option Int):List α:=(sliceRange (sliceBounds l u k xs.length).1 (sliceBounds l u k xs.length).2.1 (sliceBounds l u k xs.length).2.2).filterMap (xs[·]?)
end L2
namespace L2.L3
open PySem PySem.Spec PyProof.Rows
variable [CN]
def eS3 (m:Ev->Res D) (lo hi st:Ev->Res (Option Int)):Ev->Res D:=fun ρ=>(m ρ).bind fun x=>(lo ρ).bind fun l=>(hi ρ).bind fun u=>(st ρ).bind fun k=>(Res.lft (lstD x)).bind fun ds=>if k≠some 0 then .ok (.list (pick3 ds l u k)) else .no
theorem wQ2 (a:Ev->Res D) (l h st:Ev->Res (Option Int)) (ρ:Ev):eS3 a l h st ρ=(a ρ).bind fun x=>(l ρ).bind fun l=>(h ρ).bind fun u=>(st ρ).bind fun k=>(Res.lft (lstD x)).bind fun ds=>if k≠some 0 then .ok (.list (pick3 ds l u k)) else .no:=rfl
end L2.L3
namespace L2.L3
open PySem
theorem yM7 {m:Int}(h0:0<=m) (h1:m<=1000):rng2 [.int 1,.int (m+1)]=some ((List.range m.toNat).map fun (i:Nat)=>PyData.int ((i:Int)+1)):=by
 unfold rng2
 simp only
 rw[if_pos ⟨by bv_omega,by bv_omega,by bv_omega,by bv_omega⟩]
 congr 1
 rw[show (m+1-1).toNat=m.toNat by bv_omega]
 refine List.map_congr_left fun i _ => ?_
 congr 1
 bv_omega
theorem xK7 {n:Nat}(h:n<=999):rng1 [.int ((n:Int)+1)]=some ((List.range (n+1)).map fun (i:Nat)=>PyData.int (i:Int)):=by
 have:=cJ (n:=n+1) (by bv_omega)
 rw[show ((n+1:Nat):Int)=(n:Int)+1 by bv_omega] at this
 exact this
theorem qX {xs:List Int}{i:Int}{j:Nat}(e:i=(j:Int)) (h:j<xs.length):atI (xs.map PyData.int) i=some (.int (xs.getD j 0)):=by
 rw[e,zX3,zV5 h]
 rfl
theorem yE9 {xs:List Int}{n:Nat}(h:xs.length=n+1):atI (xs.map PyData.int) (-1)=some (.int (xs.getD n 0)):=by
 rw[zX3]
 unfold atI ixN
 rw[h,if_neg (by decide),if_pos (by bv_omega)]
 show (xs[((-1:Int)+((n+1:Nat):Int)).toNat]?).map _=_
 rw[show ((-1:Int)+((n+1:Nat):Int)).toNat=n by bv_omega,List.getElem?_eq_getElem (by bv_omega),List.getD_eq_getElem?_getD,List.getElem?_eq_getElem (by bv_omega)]
 rfl
theorem wT3 {xs ys:List Int}(h:xs.length+ys.length<=1000):catL (lI xs) (lI ys)=some (lI (xs++ys)):=by
 unfold catL
 simp only
 rw[List.length_map,List.length_map,if_pos (Nat.le_of_lt (small1000 h))]
 simp only[lI,List.map_append]
theorem xY8 (xs:List Int):sumD [lI xs]=some (.int xs.sum):=by
 unfold sumD
 simp only[intsOf_map,Option.map_some]
end L2.L3
namespace L2.L3
open PySem
variable [CN]
section
variable {X:Cx}
theorem yJ8 (hc:X.calm=true):CallR X (.type "tuple") (fun xs H Q=>∃(p:Addr) (j:Int),xs=[.ref p]/\H p=some (.rng 0 j)/\-(2 ^ 62)<=j/\j.toNat<=1000000/\∀l,H l=none->Q (.ref l) (upd H l (.tup ((List.range j.toNat).map fun (i:Nat)=>V.int (i:Int))))):=by
 intro pins s σ H xs us Q I r h
 obtain⟨p,j,rfl,hp,hs,hj,q⟩:=h
 obtain⟨u,rfl,ru⟩:=vals1 r
 cases ru
 obtain⟨t,u,v,e⟩:=I.hok p _ hp
 refine xM6 (n:=j.toNat) (I.ok.hd hc) e (small_one (by bv_omega) (by bv_omega) hs (by bv_omega)) ?_ (by bv_omega) fun h' tk acc' hk hacc => ?_
 ·rw[rangeSize_one];split <;> bv_omega
 ·have hv:Vals ((List.range j.toNat).map fun (i:Nat)=>V.int (i:Int)) acc'.toList:=by
   obtain⟨h1,h2⟩:=hacc
   refine cX ?_ ?_
   ·rw[List.length_map,List.length_range,Array.length_toList,h1]
   ·intro i a b ha hb
    rw[List.getElem?_map] at ha
    have hi:i<j.toNat:=by
     have:=(List.getElem?_eq_some_iff.mp hb).1
     rw[Array.length_toList,h1] at this
     exact this
    rw[List.getElem?_range hi] at ha
    cases ha
    obtain⟨t,e⟩:=h2 i b (by simpa using hb)
    refine⟨t,?_⟩
    rw[e]
    simp
  have hz:((List.range j.toNat).map fun (i:Nat)=>V.int (i:Int)).length<=sizeLine:=by
   rw[List.length_map,List.length_range]
   exact Nat.le_of_lt (Nat.lt_of_le_of_lt hj (by decide))
  have I1:Inv X pins σ H { s with heap:=h',toks:=tk }:=I.kept (t':=tk) hk
  have I2:=I1.laid (t':=tk) (a:=h'.objs.size) (o:=.tup ((List.range j.toNat).map fun (i:Nat)=>V.int (i:Int))) (h':=h'.push { cls:=.type "tuple",data:=.seq acc' }) (fun b o e=>Heap.get?_push_of_some _ e) (Nat.le_refl _) ⟨hz,acc'.toList,hv,by simpa using TupAt.new h' acc'⟩
  exact⟨.ref h'.objs.size,_,I2,rfl,q _ (I1.hok.fresh (Nat.le_refl _))⟩
end
def rangeT:List D->Option D
 | [.int j]=>if -(2 ^ 62)<=j/\j.toNat<=1000000 then some (.tuple ((List.range j.toNat).map fun (i:Nat)=>PyData.int (i:Int))) else none
 | _=>none
theorem yD9 {C:Ct}{a:Expr}{p p2 pos pos2:Pos}{ms:Ev->Res (List D)}(hl:C.X.mg "tuple" = none) (hm:C.X.mg "range" = none) (ha:RArg C false [a] ms) (hc:autoParam (C.X.calm=true) zU._auto_1) (hgl:autoParam (Gl C.X "tuple") zU._auto_1) (hg:autoParam (Gl C.X "range") zU._auto_1)
  (hs:autoParam (starEach [a] C.X.env=(false,eval a C.X.env)::starEach [] C.X.env) zU._auto_1) (hs2:autoParam (starEach [.Call (.Name "range" p2) [a] [] pos2] C.X.env=(false,eval (.Call (.Name "range" p2) [a] [] pos2) C.X.env)::starEach [] C.X.env) zU._auto_1)
  (hpl:autoParam ((backTo pos (starEach [] C.X.env)).any (·.1)=false) zU._auto_1) (hpl2:autoParam ((backTo pos2 (starEach [] C.X.env)).any (·.1)=false) zU._auto_1) :
  RE C .cl (.Call (.Name "tuple" p) [.Call (.Name "range" p2) [a] [] pos2] [] pos) (eB rangeT ms):=by
 obtain⟨t,pa,q⟩:=ha
 refine⟨_,dU (yJ8 hc) hgl hl (by rfl) (qP (dU yR8 hg hm (by rfl) pa (by decide) (by decide) hs hpl2) hJ hs2) (by decide) (by decide) hs2 hpl,fun Oc Ob σ H ρ Q R h=>q Oc Ob σ H ρ _ R (Res.zO (Res.zT h) (fun ds _ k vs H1 s1 r => ?_) fun _ z=>z)⟩
 obtain⟨d,e,k⟩:=Res.zF k
 unfold rangeT at e
 split at e
 ·split at e
  ·rename_i hb
   cases e
   obtain⟨v,rfl,va⟩:=VAs.one r
   obtain rfl:=va.int
   refine⟨_,rfl,fun p hp=>⟨p,_,rfl,uC,hb.1,hb.2,fun l hl => ?_⟩⟩
   exact k _ _ ((s1.trans (Same.new hp)).trans (Same.new hl)) (gD (R.same (s1.trans (Same.new hp))).oh hl (yU7 _))
  ·cases e
 ·cases e
theorem xS3 {n:Nat}(h:n<=1000):rangeT [.int (n:Int)]=some (tI ((List.range n).map fun (i:Nat)=>(i:Int))):=by
 unfold rangeT
 simp only
 rw[if_pos ⟨by bv_omega,by bv_omega⟩]
 simp only[tI,List.map_map,Function.comp_def,Int.toNat_natCast]
section
variable {X:Cx}
end
end L2.L3
namespace L2.L3
open PySem PyProof.Rows
variable [CN]
section
variable {X:Cx}
end
section
variable {X:Cx}
theorem xO3:PGet X (fun x y H Q=>(∃i:Int,y=.int i/\0<=i)/\rIxL X.K x y H Q):=by
 intro pins s σ H x y v u Q I rx ry h
 obtain⟨⟨i,hy,h0⟩,p,xs,i',z,rfl,hy',hq,he,q⟩:=h
 subst hy
 cases hy'
 cases rx
 obtain⟨t,rfl⟩:=ry
 obtain⟨its,r,pl,hz⟩:=I.list hq
 obtain⟨j,h1,h2,h3,h4,h5⟩:=zJ7 he
 obtain⟨w,ew,rw'⟩:=r.get h2
 have hl:=r.length
 have hn:=line63
 have fin:EP X pins σ Q w s:=⟨z,H,I,rw',q⟩
 have hj:i.toNat=j:=by
  rw[seqIndex_of h0 h5] at h1
  exact Option.some.inj h1
 exact wpAny_getItem_list pl.isList h0 (by bv_omega) (by rw[hj];simpa using ew) fin
end
section
variable {C:Ct}{fr:Bool}{md:Md}{e:Expr}{me:Ev->Res D}{pos:Pos}
def atP (xd:List D):D->Option D
 | .int j=>if 0<=j then atI xd j else none
 | _=>none
def sJ0 (i:Nat) (mk:Ev->Res D) (f:D->D->Option D) (me:Ev->Res D):Ev->Res Out:=fun ρ=>(eV i ρ).bind fun d=>(Res.lft (lstD d)).bind fun xd=>(mk ρ).bind fun k=>(Res.lft (atP xd k)).bind fun old=>(me ρ).bind fun v=>(Res.lft (f old v)).bind fun w=>(Res.lft (setD xd k w)).bind fun ds=>.ok (.nx (ρ.set i (some (.list ds))))
theorem xY4 (i:Nat){x:Str}{p' p2:Pos}{op:Operator}{r:R2}{f:D->D->Option D}{k:Expr}{mk:Ev->Res D}{mdk:Md}(hop:OpR C.X (inplaceOp op) r) (hp:Pr2 r .cl f) (hk:RE C mdk k mk) (he:RE C md e me) (hN:autoParam (C.X.N[i]?=some x) zU._auto_1) (ho:autoParam (C.om.contains i=true) zU._auto_1) (hv:autoParam (Vis C.X.env.scope x) jU._auto_1) (hd:autoParam ((x == ("__debug__":Str))=false) yX._auto_1)
  (hcd:autoParam ((x == ("__classdict__":Str))=false) yX._auto_1)
  (ha:autoParam (∀ov iv new,augStore k ov iv new=(do holding [new,ov,iv] (setItem ov iv new);release [new,ov,iv] [];pure .next)) xJ6._auto_1):RS C fr (.AugAssign (.Subscript (.Name x p') k p2) op e pos) (sJ0 i mk f me):=by
 obtain⟨t,p,q⟩:=he
 obtain⟨t',p',q'⟩:=hk
 refine⟨_,wT8 (jX hN hv hd hcd) p' xO3 p (tip:=r) hop yL6 ha,fun Oc Ob σ H ρ E R h => ?_⟩
 obtain⟨d,ed,k⟩:=vK (Res.zT h)
 obtain⟨xd,ex,k⟩:=Res.zF (Res.zT k)
 obtain rfl:=vF ex
 obtain⟨w',qv,l,ys,ds,rfl,e2,e3,e4,e5⟩:=R.own i _ ed (wR ho)
 cases e2
 refine⟨_,qv,q' Oc Ob σ H ρ _ R (Res.zO (Res.zT k) (fun dk _ k kv H2 s2 rk => ?_) fun c z H2 s2=>z H2 (Same.frm s2))⟩
 obtain⟨old,eo,k⟩:=Res.zF (Res.zT k)
 cases dk with
 | int j =>
  have eo:(if 0<=j then atI xd j else none)=some old:=eo
  split at eo
  ·rename_i h0
   obtain rfl:=(rk.va R.oh).int
   obtain⟨vo,evo,ro⟩:=zF1 (e5.same s2) eo
   refine⟨⟨j,rfl,h0⟩,l,ys,j,vo,rfl,rfl,.inl (.inl (s2 _ _ e3)),evo,?_⟩
   refine q Oc Ob σ H2 ρ _ (R.same s2) (Res.zO (Res.zT k) (fun dv _ k v H3 s3 rv => ?_) fun c z H3 s3=>z H3 (Same.frm (s2.trans s3)))
   obtain⟨w,ew,k⟩:=Res.zF (Res.zT k)
   refine hp Oc Ob H3 vo v old dv w _ (R.same (s2.trans s3)).oh (.inl (ro.same s3)) (rv.va (R.same s2).oh) ew fun wv H4 s4 rw' => ?_
   obtain⟨ds',eg,k⟩:=Res.zF (Res.zT k)
   have s5:=(s2.trans s3).trans s4
   have eg:(ixN xd.length j).map (fun n=>xd.set n w)=some ds':=eg
   obtain⟨n,en,rfl⟩:=Option.map_eq_some_iff.mp eg
   have hl:=e5.length
   refine⟨l,ys,j,n,rfl,rfl,s5 _ _ e3,by rw[hl];exact en,?_⟩
   refine k _ _ Ob ((R.same s5).write (wR ho) ed qv (s5 _ _ e3) e4 (Reps.set rw' n (e5.same s5))) (fun b o e n => ?_) fun b z=>.inl z
   rw[yU (fun z=>n (by subst z;exact e4))]
   exact s5 b o e
  ·cases eo
 | _=>cases eo
theorem wL1 (i:Nat) (mk:Ev->Res D) (f:D->D->Option D) (me:Ev->Res D) (ρ:Ev):sJ0 i mk f me ρ=(eV i ρ).bind fun d=>(Res.lft (lstD d)).bind fun xd=>(mk ρ).bind fun k=>(Res.lft (atP xd k)).bind fun old=>(me ρ).bind fun v=>(Res.lft (f old v)).bind fun w=>(Res.lft (setD xd k w)).bind fun ds=>.ok (.nx (ρ.set i (some (.list ds)))):=rfl
theorem yA2 {xd:List D}{j:Nat}{d:D}(h:xd[j]?=some d):atP xd (.int (j:Int))=some d:=by
 show (if 0<=(j:Int) then atI xd (j:Int) else none)=_
 rw[if_pos (by bv_omega),zW4 h]
end
section
variable {X:Cx}{pins:List (Addr×Obj)}{σ:St}{H:Hp}{s:Shared}{h':Heap}
theorem turned2 {t':Nat}{e it:Addr}(I:Inv X pins σ H s) (k:∀b o,b≠e->b≠it->s.heap.get? b=some o->h'.get? b=some o) (fe:FpOk X pins H e) (fi:FpOk X pins H it):Inv X pins σ H { s with heap:=h',toks:=t' }:=by
 have nit:∀b u,H b=some u->b≠e/\b≠it:=fun b u q=>⟨fun z=>(by rw[z,fe.1] at q;cases q),fun z=>by rw[z,fi.1] at q;cases q⟩
 refine I.step (g':=s.gens) (d':=s.drawn) (ch:=[e,it]) (fun b hb => ?_) (fun b o _ _ hc q _=>k b o (fun z=>hc (by simp[z])) (fun z=>hc (by simp[z])) q) (fun b o _ _ hc q _=>⟨o.slots,k b o (fun z=>hc (by simp[z])) (fun z=>hc (by simp[z])) q⟩) (fun _ _ _ _ n=>n)
  (fun b o hc q=>⟨o,k b o (fun z=>hc (by simp[z])) (fun z=>hc (by simp[z])) q⟩) (fun _ _ q=>q) (fun _ _ _ q=>q) (fun b ps q=>⟨#[],by rw[q];simp⟩) (fun m hm => ?_) (fun b u q => ?_) I.bare
 ·have z:b=e\/b=it:=by simpa using hb
  rcases z with rfl | rfl
  ·obtain⟨f0,f1,f2,f3,f4,f5⟩:=fe
   exact⟨f3,f1,f4,f5⟩
  ·obtain⟨f0,f1,f2,f3,f4,f5⟩:=fi
   exact⟨f3,f1,f4,f5⟩
 ·obtain⟨o,es,ep,ho,r⟩:=hm
  exact⟨o,es,ep,k _ o (Ne.symm fe.2.1) (Ne.symm fi.2.1) ho,r⟩
 ·refine (I.hok b u q).stay (fun c v hc q' => ?_) (fun _ q=>q) fun _ _ q=>q
  have nc:c≠e/\c≠it:=by
   rcases hc with z | z
   ·rw[z];exact nit b u q
   ·exact nit c _ z
  exact k c v nc.1 nc.2 q'
end
def Ite (K:KFr) (a:Addr):It :=
 ⟨fun i H=>∃xs x,SqL K H a xs/\xs[i]?=some x,fun i H x H'=>∃t y,H t=none/\x=.ref t/\H'=upd H t (.tup [.int (i:Int),y])/\∀xs,SqL K H a xs->xs[i]?=some y,fun i H=>∃xs,SqL K H a xs/\xs.length<=i⟩
theorem xS6 {P:Program}{w:World}{K:KFr}{es:List Expr}{x1:Nat}{tp:Pos}(a e it:Addr) (hne:e≠it):Turn P w K (.Tuple es x1 tp) (Ite K a) [e,it] e (fun i h=>(∃old,IsEnum h e it i old)/\h.IsListIter it a i) where
 mem:=by simp
 obj:=fun i h st b hb=>by
  obtain⟨⟨old,he⟩,o,ho,hc,hd⟩:=st
  have z:b=e\/b=it:=by simpa using hb
  rcases z with rfl | rfl
  ·exact⟨_,he,fun v z=>by cases z⟩
  ·exact⟨o,ho,fun v z=>by rw[hd] at z;cases z⟩
 keep:=fun i h h' st k=>⟨st.1.elim fun old he=>⟨old,k e (by simp) _ he⟩,st.2.at fun o q=>k it (by simp) o q⟩
 item:=by
  intro X hP hw hK hc i pins s σ H E I hf st hg
  subst hP hw hK
  obtain⟨xs,x,hq,hx⟩:=hg
  obtain⟨its,rv,p,hz⟩:=I.list hq
  obtain⟨u,hu,ru⟩:=rv.get hx
  obtain⟨⟨old,he⟩,hit⟩:=st
  have fe:=hf e (by simp)
  have fi:=hf it (by simp)
  refine wpAny_pyNext_enum_item he hit p.isList (x:=u) (by simpa using hu) hne fun h' ho hit' hT hsz hk=>⟨_,rfl,?_⟩
  have hfr:H s.heap.objs.size=none:=I.hok.fresh (Nat.le_refl _)
  have I1:Inv X pins σ (upd H s.heap.objs.size (.tup [.int (i:Int),x])) { s with heap:=s.heap.push { cls:=.type "tuple",data:=.seq #[.int i s.toks,u] },toks:=s.toks+1 } :=
   I.laid (t':=s.toks+1) (fun b o q=>Heap.get?_push_of_some _ q) (Nat.le_refl _) ⟨by show 2<=sizeLine;decide,[.int i s.toks,u],.cons ⟨_,rfl⟩ (.cons ru .nil),TupAt.new _ _⟩
  have lte:e<s.heap.objs.size:=Heap.lt_size he
  have lti:it<s.heap.objs.size:=by obtain⟨_,q,_⟩:=hit;exact Heap.lt_size q
  have fe1:FpOk X pins (upd H s.heap.objs.size (.tup [.int (i:Int),x])) e:=⟨by rw[yU (Nat.ne_of_lt lte)];exact fe.1,fe.2⟩
  have fi1:FpOk X pins (upd H s.heap.objs.size (.tup [.int (i:Int),x])) it:=⟨by rw[yU (Nat.ne_of_lt lti)];exact fi.1,fi.2⟩
  have I2:Inv X pins σ (upd H s.heap.objs.size (.tup [.int (i:Int),x])) { s with heap:=h',toks:=s.toks+1 }:=by
   refine turned2 (s:={ s with heap:=s.heap.push { cls:=.type "tuple",data:=.seq #[.int i s.toks,u] },toks:=s.toks+1 }) (h':=h') (t':=s.toks+1) I1 (fun b o b1 b2 q => ?_) fe1 fi1
   by_cases z:b=s.heap.objs.size
   ·subst z
    have q:(s.heap.push { cls:=.type "tuple",data:=.seq #[.int i s.toks,u] }).get? s.heap.objs.size=some o:=q
    rw[Heap.get?_push_size _ rfl] at q
    rw[hT];exact q
   ·have q:(s.heap.push { cls:=.type "tuple",data:=.seq #[.int i s.toks,u] }).get? b=some o:=q
    rw[Heap.get?_push_ne _ _ _ z] at q
    exact hk b o b1 b2 q
  refine wpAny_letOwnedTupleGo_enum ho fun h2 he2 hs2 => ?_
  refine⟨.ref s.heap.objs.size,_,turned2 (s:={ s with heap:=h',toks:=s.toks+1 }) (h':=h2) (t':=s.toks+1) I2 (fun b o b1 b2 q=>(hs2.2 b b1).trans q) fe1 fi1,rfl,⟨_,x,hfr,rfl,rfl,fun ys hy=>by rw[I.yH1 hy hq];exact hx⟩,⟨⟨_,he2⟩,hit'.at fun o q=>(hs2.2 it hne.symm).trans q⟩,fun b hb => ?_⟩
  have z:b=e\/b=it:=by simpa using hb
  rcases z with rfl | rfl
  ·exact fe1.1
  ·exact fi1.1
 done:=by
  intro X hP hw hK hc i pins s σ H E I hf st hg
  subst hP hw hK
  obtain⟨xs,hq,hx⟩:=hg
  obtain⟨its,rv,p,hz⟩:=I.list hq
  obtain⟨⟨old,he⟩,hit⟩:=st
  have hl:=rv.length
  exact wpAny_pyNext_enum_end (I.ok.hd hc) he hit p.isList (by simp;bv_omega) fun h' eb=>⟨rfl,turned2 (t':=s.toks) I (fun b o _ b2 q=>eb b o b2 q) (hf e (by simp)) (hf it (by simp))⟩
 self:=fun _ _ _ _ _ st h=>st.1.elim fun old he=>wpAny_pyIter_enum he h
end L2.L3
namespace PySem
section
variable {prog:Program}{w:World}{A:Around}{E:Value->Shared->Prop}{s:Shared}
theorem drawsT (hA:A.handled=none) (it t:Addr) (its:Array Value) (hne:it≠t):Draws prog w A it [it,t] its.size (fun i x=>its[i]?=some x) (fun i h=>h.IsTupleIter it t i/\h.IsTuple t its) where
 live:=fun i h st=>let ⟨o,q,_⟩:=st.1; ⟨o,q⟩
 frame:=fun i h h' st k=>⟨let ⟨o,q,r⟩:=st.1; ⟨o,k it (by simp) o q,r⟩,let ⟨o,q,r⟩:=st.2; ⟨o,k t (by simp) o q,r⟩⟩
 item:=fun i s Q E hi st hQ=>xH7 st.1 st.2 (v:=its[i]) (by simp[hi]) fun h' z sb=>hQ _ h' s.toks (by simp[hi]) ⟨z,let ⟨o,q,r⟩:=st.2; ⟨o,(sb.2 t (Ne.symm hne)).trans q,r⟩⟩ sb
 done:=fun s Q E st hE=>yA6 hA st.1 st.2 (by simp) hE
theorem drawsE (hA:A.handled=none) (it t:Addr) (its:Array Value) (n:Nat) (hx:its[n]?=none) (hne:it≠t):Draws prog w A it [it,t] n (fun _ _=>False) (fun j h=>j=n/\h.IsTupleIter it t n/\h.IsTuple t its) where
 live:=fun i h st=>let ⟨o,q,_⟩:=st.2.1; ⟨o,q⟩
 frame:=fun i h h' st k=>⟨st.1,let ⟨o,q,r⟩:=st.2.1; ⟨o,k it (by simp) o q,r⟩,let ⟨o,q,r⟩:=st.2.2; ⟨o,k t (by simp) o q,r⟩⟩
 item:=fun i s Q E hi st hQ=>absurd st.1 (Nat.ne_of_lt hi)
 done:=fun s Q E st hE=>yA6 hA st.2.1 st.2.2 hx hE
end
end PySem
namespace L2.L3
open PySem PyProof.Rows
variable [CN]
def Ith (K:KFr) (a:Addr):It :=
 ⟨fun i H=>∃xs x,SqT K H a xs/\xs[i]?=some x,fun i H x H'=>∃t y,H t=none/\x=.ref t/\H'=upd H t (.tup [.int (i:Int),y])/\∀xs,SqT K H a xs->xs[i]?=some y,fun i H=>∃xs,SqT K H a xs/\xs.length<=i⟩
theorem xV9 {P:Program}{w:World}{K:KFr}{es:List Expr}{x1:Nat}{tp:Pos}(a e it:Addr) (hne:e≠it) (hia:it≠a) (hea:e≠a):Turn P w K (.Tuple es x1 tp) (Ith K a) [e,it] e (fun i h=>(∃old,IsEnum h e it i old)/\h.IsTupleIter it a i) where
 mem:=by simp
 obj:=fun i h st b hb=>by
  obtain⟨⟨old,he⟩,o,ho,hc,hd⟩:=st
  have z:b=e\/b=it:=by simpa using hb
  rcases z with rfl | rfl
  ·exact⟨_,he,fun v z=>by cases z⟩
  ·exact⟨o,ho,fun v z=>by rw[hd] at z;cases z⟩
 keep:=fun i h h' st k=>⟨st.1.elim fun old he=>⟨old,k e (by simp) _ he⟩,let ⟨o,q,r⟩:=st.2; ⟨o,k it (by simp) o q,r⟩⟩
 item:=by
  intro X hP hw hK hc i pins s σ H E I hf st hg
  subst hP hw hK
  obtain⟨xs,x,hq,hx⟩:=hg
  obtain⟨its,rv,p,hz⟩:=I.tuple hq
  obtain⟨u,hu,ru⟩:=rv.get hx
  obtain⟨⟨old,he⟩,hit⟩:=st
  have fe:=hf e (by simp)
  have fi:=hf it (by simp)
  have hlt:i<its.toArray.size:=by
   have:=(List.getElem?_eq_some_iff.mp hu).1
   simpa using this
  refine wpAny_pyNext_enum_itemD (drawsT (show X.A.in1.handled=none from I.ok.hd hc) it a its.toArray hia) he ⟨hit,p⟩ hlt hne (by simp[hne,hea]) fun x' h' tk hP' ho hit' hT hsz hk=>⟨_,rfl,?_⟩
  have ex:x'=u:=by
   have h2:its.toArray[i]?=some u:=by simpa using hu
   have h3:its.toArray[i]?=some x':=hP'
   rw[h2] at h3
   exact (Option.some.inj h3).symm
  subst ex
  have hfr:H s.heap.objs.size=none:=I.hok.fresh (Nat.le_refl _)
  have I1:Inv X pins σ (upd H s.heap.objs.size (.tup [.int (i:Int),x])) { s with heap:=s.heap.push { cls:=.type "tuple",data:=.seq #[.int i tk,x'] },toks:=tk+1 } :=
   I.laid (t':=tk+1) (fun b o q=>Heap.get?_push_of_some _ q) (Nat.le_refl _) ⟨by show 2<=sizeLine;decide,[.int i tk,x'],.cons ⟨_,rfl⟩ (.cons ru .nil),TupAt.new _ _⟩
  have lte:e<s.heap.objs.size:=Heap.lt_size he
  have lti:it<s.heap.objs.size:=by obtain⟨_,q,_⟩:=hit;exact Heap.lt_size q
  have fe1:FpOk X pins (upd H s.heap.objs.size (.tup [.int (i:Int),x])) e:=⟨by rw[yU (Nat.ne_of_lt lte)];exact fe.1,fe.2⟩
  have fi1:FpOk X pins (upd H s.heap.objs.size (.tup [.int (i:Int),x])) it:=⟨by rw[yU (Nat.ne_of_lt lti)];exact fi.1,fi.2⟩
  have I2:Inv X pins σ (upd H s.heap.objs.size (.tup [.int (i:Int),x])) { s with heap:=h',toks:=tk+1 }:=by
   refine turned2 (s:={ s with heap:=s.heap.push { cls:=.type "tuple",data:=.seq #[.int i tk,x'] },toks:=tk+1 }) (h':=h') (t':=tk+1) I1 (fun b o b1 b2 q => ?_) fe1 fi1
   by_cases z:b=s.heap.objs.size
   ·subst z
    have q:(s.heap.push { cls:=.type "tuple",data:=.seq #[.int i tk,x'] }).get? s.heap.objs.size=some o:=q
    rw[Heap.get?_push_size _ rfl] at q
    rw[hT];exact q
   ·have q:(s.heap.push { cls:=.type "tuple",data:=.seq #[.int i tk,x'] }).get? b=some o:=q
    rw[Heap.get?_push_ne _ _ _ z] at q
    exact hk b o b1 b2 q
  refine wpAny_letOwnedTupleGo_enum ho fun h2 he2 hs2 => ?_
  refine⟨.ref s.heap.objs.size,_,turned2 (s:={ s with heap:=h',toks:=tk+1 }) (h':=h2) (t':=tk+1) I2 (fun b o b1 b2 q=>(hs2.2 b b1).trans q) fe1 fi1,rfl,⟨_,x,hfr,rfl,rfl,fun ys hy=>by rw[I.yT5 hy hq];exact hx⟩,⟨⟨_,he2⟩,let ⟨o,q,r⟩:=hit'.1; ⟨o,(hs2.2 it hne.symm).trans q,r⟩⟩,fun b hb => ?_⟩
  have z:b=e\/b=it:=by simpa using hb
  rcases z with rfl | rfl
  ·exact fe1.1
  ·exact fi1.1
 done:=by
  intro X hP hw hK hc i pins s σ H E I hf st hg
  subst hP hw hK
  obtain⟨xs,hq,hx⟩:=hg
  obtain⟨its,rv,p,hz⟩:=I.tuple hq
  obtain⟨⟨old,he⟩,hit⟩:=st
  have hl:=rv.length
  exact wpAny_pyNext_enum_endD (drawsE (show X.A.in1.handled=none from I.ok.hd hc) it a its.toArray i (by simp;bv_omega) hia) he ⟨rfl,hit,p⟩ fun h' eb=>⟨rfl,turned2 (t':=s.toks) I (fun b o _ b2 q=>eb b o b2 q) (hf e (by simp)) (hf it (by simp))⟩
 self:=fun _ _ _ _ _ st h=>st.1.elim fun old he=>wpAny_pyIter_enum he h
def iEnum (K:KFr) (t:TA):TI:=fun σ H R=>t σ H fun vs H1=>∃a,vs=[.ref a]/\(((∃xs,SqL K H1 a xs)/\R (Ite K a) H1)\/((∃xs,SqT K H1 a xs)/\R (Ith K a) H1))
theorem wU2 {X:Cx}{l:Expr}{ta:TA}{es:List Expr}{x1:Nat}{tp p pos:Pos}(hg:Gl X "enumerate") (hm:X.mg "enumerate" = none) (ha:PA X [l] ta) (hs:autoParam (starEach [l] X.env=[(false,eval l X.env)]) zU._auto_1):PI X (.Tuple es x1 tp) (.Call (.Name "enumerate" p) [l] [] pos) (iEnum X.K ta):=by
 intro pins s σ H R I h
 refine Call_ (zX1 I hg hm boot_enumerate (PyProof.Rows.callWith_type1 (thn (ha pos pins s σ H _ I h) fun us s1 ⟨vs,H1,I1,r1,q1⟩ => ?_) hs rfl))
 obtain⟨a,e,q1⟩:=q1
 subst e
 obtain⟨u,rfl,ru⟩:=vals1 r1
 cases ru
 rcases q1 with ⟨⟨xs,hq⟩,q⟩ | ⟨⟨xs,hq⟩,q⟩
 ·obtain⟨its,rv,pl,hz⟩:=I1.list hq
  refine call_enumerate_list pl.isList fun h' he hit hsz hk => ?_
  refine wpAny_pyIter_enum he ?_
  refine⟨s1.heap.objs.size+1,[s1.heap.objs.size+1,s1.heap.objs.size],_,_,H1,rfl,I1.kept (t':=s1.toks) hk,xS6 a (s1.heap.objs.size+1) s1.heap.objs.size (Nat.succ_ne_self _),⟨⟨_,he⟩,hit⟩,fun b hb => ?_,q⟩
  have z:b=s1.heap.objs.size+1\/b=s1.heap.objs.size:=by simpa using hb
  rcases z with rfl | rfl
  ·exact I1.fpOk (by bv_omega) (I1.hok.fresh (by bv_omega))
  ·exact I1.fpOk (Nat.le_refl _) (I1.hok.fresh (Nat.le_refl _))
 ·obtain⟨its,rv,pt,hz⟩:=I1.tuple hq
  have lta:a<s1.heap.objs.size:=by obtain⟨o,q,_⟩:=pt;exact Heap.lt_size q
  refine wX8 (oI:={ cls:=.type "tuple_iterator",data:=.fields #[.ref a,.int 0 0] }) rfl (fun B P E' z=>wpAny_pyIter_tuple (show s1.heap.IsTuple a its.toArray from pt) z) fun h' he h0 hk => ?_
  have hit:h'.IsTupleIter s1.heap.objs.size a 0:=⟨_,h0,rfl,rfl⟩
  refine wpAny_pyIter_enum he ?_
  refine⟨s1.heap.objs.size+1,[s1.heap.objs.size+1,s1.heap.objs.size],_,_,H1,rfl,I1.kept (t':=s1.toks) hk,xV9 a (s1.heap.objs.size+1) s1.heap.objs.size (Nat.succ_ne_self _) (Nat.ne_of_gt lta) (Nat.ne_of_gt (Nat.lt_succ_of_lt lta)),⟨⟨_,he⟩,hit⟩,fun b hb => ?_,q⟩
  have z:b=s1.heap.objs.size+1\/b=s1.heap.objs.size:=by simpa using hb
  rcases z with rfl | rfl
  ·exact I1.fpOk (by bv_omega) (I1.hok.fresh (by bv_omega))
  ·exact I1.fpOk (Nat.le_refl _) (I1.hok.fresh (Nat.le_refl _))
def WalksO (Oc:Wd) (Ob:Addr->Prop) (J:It) (H1:Hp) (ds:List D):Prop :=
 ∀(H2:Hp) (Ob2:Addr->Prop),Frm Ob H1 H2->(∀b,Ob2 b->Ob b\/H1 b=none)->(∀a,Oc a\/Ob2 a->H2 a≠none)->∀i,(∀d,ds[i]?=some d->J.go i H2/\∀x H3,J.yld i H2 x H3->Same H2 H3/\Rep H3 (Uni Oc Ob2) x d)/\(ds.length<=i->J.stop i H2)
def RIo (C:Ct) (tg iter:Expr) (m:Ev->Res (List D)):Prop :=
 ∃wi,PI C.X tg iter wi/\∀(Oc:Wd) (Ob:Addr->Prop) (σ:St) (H:Hp) (ρ:Ev) (R:It->Hp->Prop),Rel Oc Ob C.om C.ln σ H ρ ->
  (m ρ).post (fun ds=>∀J H1,Same H H1->WalksO Oc Ob J H1 ds->R J H1) (fun c=>∀H',Same H H'->C.XE c H')->wi σ H R
section
variable {C:Ct}{fr:Bool}{body:List Stmt}{m:Ev->Res Out}{mi:Ev->Res (List D)}{g:D->Ev->Option Ev}{pos:Pos}
theorem wV2 {tg iter:Expr}(hi:RIo C tg iter mi) (hg:RG C tg g) (hb:RSs C fr body m) (hp:autoParam (PassesOwn (model C.X.prog C.X.w) C.X.A C.X.env C.X.xe) autoK13._auto_1) (hc:autoParam (C.X.calm=true) zU._auto_1)
  (hs:autoParam (∀x,foldedSetIterable iter C.X.env x=pure x) qU._auto_1):RS C fr (.For tg iter body [] pos) (sF mi g m):=by
 obtain⟨wi,pi,qi⟩:=hi
 obtain⟨tg',pg,qg⟩:=hg
 obtain⟨tb,pb,qb⟩:=hb
 refine⟨_,xR8 hp hc pi pg pb hs,fun Oc Ob σ H ρ E R h=>qi Oc Ob σ H ρ _ R (Res.zO (Res.zT h) (fun ds _ k J H1 s1 wk => ?_) fun c z H' s=>z H' (Same.frm s))⟩
 refine⟨fun i mm σ' H'=>mm=ds.length-i/\i<=ds.length/\∃ρi Obi,Rel Oc Obi C.om C.ln σ' H' ρi/\Frm Ob H1 H'/\(∀b,Obi b->Ob b\/H1 b=none)/\SPost C fr Oc Obi H' E (forM g m (ds.drop i) ρi),
  ⟨_,rfl,Nat.zero_le _,ρ,Ob,R.same s1,Same.frm (Same.refl _),fun b z=>.inl z,SPost.same s1 k⟩,?_⟩
 rintro i mm σ2 H2 ⟨rfl,hi,ρi,Obi,R2,f2,sb2,k2⟩
 obtain⟨w1,w2⟩:=wk H2 Obi f2 sb2 R2.oh i
 by_cases hlt:i<ds.length
 ·obtain⟨go,yl⟩:=w1 ds[i] (List.getElem?_eq_getElem hlt)
  have ed:ds.drop i=ds[i]::ds.drop (i+1):=List.drop_eq_getElem_cons hlt
  rw[ed,forM] at k2
  obtain⟨ρ1,e1,k2⟩:=Res.zF (Res.zT k2)
  refine .inr ⟨go,fun σ' H'=>∃m',m'<ds.length-i/\(m'=ds.length-(i+1)/\i+1<=ds.length/\∃ρi Obi,Rel Oc Obi C.om C.ln σ' H' ρi/\Frm Ob H1 H'/\(∀b,Obi b->Ob b\/H1 b=none)/\SPost C fr Oc Obi H' E (forM g m (ds.drop (i+1)) ρi)),fun _ _ z=>z,fun x H3 hy => ?_⟩
  obtain⟨s3,rx⟩:=yl x H3 hy
  refine qg Oc Obi σ2 H3 ρi ρ1 x _ _ (R2.same s3) rx e1 fun σ3 R3 => ?_
  have k3:=SPost.same s3 (show SPost C fr Oc Obi H2 E _ from k2)
  refine qb Oc Obi σ3 H3 ρ1 _ R3 (Res.zO (Res.zT k3) (fun o _ k4 => ?_) fun _ z=>z)
  cases o with
  | rt d=>exact k4
  | nx ρ2 =>
   intro σ4 H4 Ob4 R4 f4 sb4
   have f3:Frm Ob H1 H3:=fun b o e n=>s3 b o (f2 b o e n)
   refine⟨_,by bv_omega,rfl,hlt,ρ2,Ob4,R4,f3.trans sb2 f4,fun b z=>(sb4 b z).elim (sb2 b) fun z=>f3.none z,SPost.step f4 sb4 k4⟩
 ·have ei:i=ds.length:=by bv_omega
  subst ei
  rw[List.drop_length] at k2
  exact .inl ⟨w2 (Nat.le_refl _),k2 σ2 H2 Obi R2 (Same.frm (Same.refl _)) fun b z=>.inl z⟩
def enumD (ds:List D):List D:=(List.range ds.length).map fun (i:Nat)=>PyData.tuple [.int (i:Int),ds.getD i .none]
def jD (m:Ev->Res D):Ev->Res (List D):=fun ρ=>(m ρ).bind fun d=>(Res.lft (seqD d)).bind fun ds=>.ok (enumD ds)
theorem zB4 {K:KFr}{Oc:Wd}{Ob:Addr->Prop}{H1:Hp}{a:Addr}{ys:List V}{ds:List D}(r:Rd H1 a (.lst ys)) (n:¬Ob a) (rs:Reps H1 (Uni Oc Ob) ys ds):WalksO Oc Ob (Ite K a) H1 (enumD ds):=by
 intro H2 Ob2 f s oh i
 have r2:Rd H2 a (.lst ys):=cH r fun o e=>f a o e n
 have rs2:=rs.step f s
 have le:(enumD ds).length=ds.length:=by unfold enumD;simp
 refine⟨fun d e => ?_,fun h=>⟨ys,.inl r2,by rw[rs2.length];rw[le] at h;exact h⟩⟩
 unfold enumD at e
 rw[List.getElem?_map] at e
 obtain⟨j,ej,rfl⟩:=Option.map_eq_some_iff.mp e
 have hi:i<ds.length:=by
  have:=(List.getElem?_eq_some_iff.mp ej).1
  simpa using this
 rw[List.getElem?_range hi] at ej
 cases ej
 have ed:ds[i]?=some (ds.getD i .none):=by rw[List.getD_eq_getElem?_getD,List.getElem?_eq_getElem hi];rfl
 obtain⟨v,ev,rv⟩:=rs2.get ed
 refine⟨⟨ys,v,.inl r2,ev⟩,fun x H3 hy => ?_⟩
 obtain⟨t,y,ht,rfl,rfl,hy⟩:=hy
 have:=hy ys (.inl r2)
 rw[ev] at this
 cases this
 exact⟨Same.new ht,gD oh ht (.cons (.int _) (.cons rv .nil))⟩
theorem yC1 {K:KFr}{Oc:Wd}{Ob:Addr->Prop}{H1:Hp}{a:Addr}{ys:List V}{ds:List D}(r:Rd H1 a (.tup ys)) (n:¬Ob a) (rs:Reps H1 (Uni Oc Ob) ys ds):WalksO Oc Ob (Ith K a) H1 (enumD ds):=by
 intro H2 Ob2 f s oh i
 have r2:Rd H2 a (.tup ys):=cH r fun o e=>f a o e n
 have rs2:=rs.step f s
 have le:(enumD ds).length=ds.length:=by unfold enumD;simp
 refine⟨fun d e => ?_,fun h=>⟨ys,.inl r2,by rw[rs2.length];rw[le] at h;exact h⟩⟩
 unfold enumD at e
 rw[List.getElem?_map] at e
 obtain⟨j,ej,rfl⟩:=Option.map_eq_some_iff.mp e
 have hi:i<ds.length:=by
  have:=(List.getElem?_eq_some_iff.mp ej).1
  simpa using this
 rw[List.getElem?_range hi] at ej
 cases ej
 have ed:ds[i]?=some (ds.getD i .none):=by rw[List.getD_eq_getElem?_getD,List.getElem?_eq_getElem hi];rfl
 obtain⟨v,ev,rv⟩:=rs2.get ed
 refine⟨⟨ys,v,.inl r2,ev⟩,fun x H3 hy => ?_⟩
 obtain⟨t,y,ht,rfl,rfl,hy⟩:=hy
 have:=hy ys (.inl r2)
 rw[ev] at this
 cases this
 exact⟨Same.new ht,gD oh ht (.cons (.int _) (.cons rv .nil))⟩
theorem zM6 {e:Expr}{ma:Ev->Res D}{es:List Expr}{x1:Nat}{tp p pos:Pos}(hm:C.X.mg "enumerate" = none) (h:RE C .rd e ma) (hg:autoParam (Gl C.X "enumerate") zU._auto_1) (hs:autoParam (starEach [e] C.X.env=[(false,eval e C.X.env)]) zU._auto_1) (hs2:autoParam (starEach [e] C.X.env=(false,eval e C.X.env)::starEach [] C.X.env) zU._auto_1):RIo C (.Tuple es x1 tp) (.Call (.Name "enumerate" p) [e] [] pos) (jD ma):=by
 obtain⟨t,pe,q⟩:=h
 refine⟨_,wU2 hg hm (qP pe hJ hs2) hs,fun Oc Ob σ H ρ W R h=>q Oc Ob σ H ρ _ R (Res.zO (Res.zT h) (fun d _ k v H' s r => ?_) fun _ z=>z)⟩
 obtain⟨ds,e,k⟩:=Res.zF (Res.zT k)
 rcases r with r | ⟨a,ys,ds',rfl,rfl,e3,e4,e5⟩
 ·cases r with
  | lst r n t=>cases e;exact⟨_,rfl,.inl ⟨⟨_,.inl r⟩,k _ H' s (zB4 r (fun z=>n (.inr z)) t)⟩⟩
  | tup r n t=>cases e;exact⟨_,rfl,.inr ⟨⟨_,.inl r⟩,k _ H' s (yC1 r (fun z=>n (.inr z)) t)⟩⟩
  | _=>cases e
 ·cases e
  exact⟨_,rfl,.inl ⟨⟨_,SqL.of e3⟩,k _ H' s (zB4 (.inl e3) e4 e5)⟩⟩
end
theorem yW7 (m:Ev->Res D) (ρ:Ev):jD m ρ=(m ρ).bind fun d=>(Res.lft (seqD d)).bind fun ds=>.ok (enumD ds):=rfl
end L2.L3
namespace PySem
section
variable {prog:Program}{w:World}{A:Around}{E:Value->Shared->Prop}{s:Shared}
theorem yD4 {env:Env}{elts:List Expr}{x1} {pos:Pos}{l:Addr}{its:Array Value}{Q:Unit->Shared->Prop}(hA:A.handled=none) (hl:s.heap.IsList l its) (hn:(assignEach elts env).length=its.size) (hst:(assignEach elts env).findIdx? (·.1)=none)
  (k:∀h',Heap.ExtBut s.heap.objs.size s.heap h'->wpAny (model prog w) A (assignInOrder ((assignEach elts env).map (·.2)) its.toList) Q E { s with heap:=h' }):wpAny (model prog w) A (assign (.Tuple elts x1 pos) env (.ref l)) Q E s:=by
 rw[arm_assign_Tuple]
 refine wpAny_bind (wpAny_standAt ?_)
 unfold unpack
 rw[hn,hst]
 exact wpAny_bind (wpAny_holding (PySem.W.kun_itemsOf hA hl k))
end
end PySem
namespace L2.L3
open PySem PySem.Spec PyProof.Rows
variable [CN]
def gTl (n:Nat) (h:List D->Ev->Option Ev):D->Ev->Option Ev
 | .list ds,ρ=>if ds.length=n then h ds ρ else none
 | _,_=>none
def gLst (K:KFr) (n:Nat) (t:TGs):TG:=fun v σ H Q=>∃a xs,v=.ref a/\SqL K H a xs/\xs.length=n/\t xs σ H Q
theorem wI2 {X:Cx}{es:List Expr}{k:Nat}{t:TGs}{n:Nat}{pos:Pos}(hc:X.calm=true) (h:PGs X es t) (hn:autoParam ((assignEach es X.env).length=n) zU._auto_1) (hst:autoParam ((assignEach es X.env).findIdx? (·.1)=none) zU._auto_1):PG X (.Tuple es k pos) (gLst X.K n t):=by
 intro pins s σ H v u Q I r hw
 obtain⟨a,xs,e1,hq,hl,hw⟩:=hw
 subst e1
 cases r
 obtain⟨its,rv,ht,hz⟩:=I.list hq
 refine yD4 (I.ok.hd hc) ht.isList (by simp[hn,<-hl,rv.length]) hst fun h' hx => ?_
 have I1:Inv X pins σ H { s with heap:=h' }:=I.kept (t':=s.toks) fun b o e=>hx b o (Nat.ne_of_lt (Heap.lt_size e)) e
 exact h pins _ σ H xs _ Q I1 (by simpa using rv) hw
theorem yI2 {C:Ct}{es:List Expr}{pos:Pos}{k n:Nat}{h:List D->Ev->Option Ev}(hc:C.X.calm=true) (hg:RGs C es h) (hn:autoParam ((assignEach es C.X.env).length=n) zU._auto_1) (hst:autoParam ((assignEach es C.X.env).findIdx? (·.1)=none) zU._auto_1):RG C (.Tuple es k pos) (gTl n h):=by
 obtain⟨t,p,q⟩:=hg
 refine⟨_,wI2 hc p hn hst,fun Oc Ob σ H ρ ρ' v d Q R r e k => ?_⟩
 cases r with
 | lst rd no rs =>
  unfold gTl at e
  simp only at e
  split at e
  ·rename_i hl
   exact⟨_,_,rfl,.inl rd,by rw[rs.length];exact hl,q Oc Ob σ H ρ ρ' _ _ Q R rs e k⟩
  ·cases e
 | _=>cases e
def sA (me:Ev->Res D) (g:D->Ev->Option Ev):Ev->Res Out:=fun ρ=>(me ρ).bind fun d=>(Res.lft (g d ρ)).bind fun ρ'=>.ok (.nx ρ')
theorem wH1 (me:Ev->Res D) (g:D->Ev->Option Ev) (ρ:Ev):sA me g ρ=(me ρ).bind fun d=>(Res.lft (g d ρ)).bind fun ρ'=>.ok (.nx ρ'):=rfl
theorem yW1 {C:Ct}{fr:Bool}{e tg:Expr}{pos:Pos}{me:Ev->Res D}{g:D->Ev->Option Ev}(he:RE C .cl e me) (hg:RG C tg g) (hs:autoParam (swapsWithSole [tg] e pos.line C.X.env=pure false) zU._auto_1) (hw:autoParam (swappedStores [tg] e C.X.env=pure none) zU._auto_1)
  (h1:autoParam ((assignEach [tg] C.X.env).map (·.2)=[assign tg C.X.env]) zU._auto_1):RS C fr (.Assign [tg] e pos) (sA me g):=wM3 he hg hs hw h1
theorem zY9 {Oc:Wd}{Ob:Addr->Prop}{H:Hp}{vs:List V}{d:D}(r:VAs Oc Ob H vs [d]):∃v,vs=[v]/\VA Oc Ob H v d:=by
 cases r with
 | cons h t=>cases t;exact⟨_,rfl,h⟩
def intD:List D->Option D
 | [.int i]=>some (.int i)
 | [.bool b]=>some (.int (if b then 1 else 0))
 | _=>none
theorem xX6:PrC (fun xs H Q=>(∃i,xs=[.int i]/\Q (.int i) H)\/∃k,xs=[.bl k]/\Q (.int (if k then 1 else 0)) H) .cl intD:=by
 intro Oc Ob H vs ds d Q oh r e k
 unfold intD at e
 split at e
 ·cases e
  obtain⟨v,rfl,h⟩:=zY9 r
  exact .inl ⟨_,by rw[h.int],k _ H (Same.refl H) (Rep.int _)⟩
 ·cases e
  obtain⟨v,rfl,h⟩:=zY9 r
  exact .inr ⟨_,by rw[h.bool],k _ H (Same.refl H) (Rep.int _)⟩
 ·cases e
section
variable {X:Cx}
def rIdx (K:KFr):V->List V->Hp->VK->Prop:=fun x vs H Q=>∃(p:Addr) (xs:List V) (y:V) (j:Nat) (z:V),x=.ref p/\vs=[y]/\SqL K H p xs/\flatV y=true/\xs.all flatV=true/\xs[j]?=some z/\eqV z y=true/\(∀m z',m<j->xs[m]?=some z'->eqV z' y=false)/\j<2 ^ 62/\Q (.int j) H
theorem xH5:MtR X "list.index" (rIdx X.K):=by
 intro pins s σ H x vs v us Q I rx rv h
 obtain⟨p,xs,y,j,z,rfl,rfl,hq,fy,fs,hj,ez,no,hsm,q⟩:=h
 cases rx
 obtain⟨u,rfl,ru⟩:=vals1 rv
 obtain⟨its,r,pl,hz⟩:=I.list hq
 obtain⟨⟨c,dd,dt,sl⟩,e,hc,n,hd⟩:=pl.isList
 simp only at hc hd
 subst hc hd
 obtain⟨w0,hw0,rw0⟩:=r.get hj
 have hlen:=r.length
 have hjl:j<its.length:=(List.getElem?_eq_some_iff.mp hw0).1
 have flat:∀(m:Nat) (z':V),xs[m]?=some z'->flatV z'=true:=fun m z' hm=>List.all_eq_true.mp fs z' (List.mem_of_getElem? hm)
 refine call_meets F.slot_list_index ⟨_,e,rfl⟩ F.entry_list_index (F.args_list_index_2 _ _) (SeqAt.list_indexAt p its.toArray n dd sl u (eqU y) j (by simpa using hjl) (by bv_omega) ?_ ?_) ⟨e,fun w hw=>zS7 ru fy r fs w (by simpa using hw),?_⟩
 ·have ew:its.toArray[j]'(by simpa using hjl)=w0:=by
   have h2:=List.getElem?_eq_some_iff.mp hw0
   simpa using h2.2
  rw[ew,zD9 rw0 (flat j z hj),ez]
 ·intro m hm hlt
  have hm':m<its.length:=by simpa using hm
  obtain⟨z',hz'⟩:∃z',xs[m]?=some z':=⟨xs[m]'(by bv_omega),List.getElem?_eq_getElem (by bv_omega)⟩
  obtain⟨w1,hw1,rw1⟩:=r.get hz'
  have ew:its.toArray[m]'hm=w1:=by
   have h2:=List.getElem?_eq_some_iff.mp hw1
   simpa using h2.2
  rw[ew,zD9 rw1 (flat m z' hz'),no m z' hlt hz']
 ·exact⟨.int j,H,I.tok _,⟨_,rfl⟩,q⟩
end
def Pr1 (K:KFr) (r:V->List V->Hp->VK->Prop) (f:D->D->Option D):Prop :=
 ∀(Oc:Wd) (Ob:Addr->Prop) (H:Hp) (x y:V) (dx dy d:D) (Q:VK),VA Oc Ob H x dx->VA Oc Ob H y dy->f dx dy=some d->(∀v,Rep H (Uni Oc Ob) v d->Q v H)->r x [y] H Q
def eM1 (f:List D->D->Option D) (mo ma:Ev->Res D):Ev->Res D:=fun ρ=>(mo ρ).bind fun x=>(Res.lft (lstD x)).bind fun ds=>(ma ρ).bind fun y=>Res.lft (f ds y)
theorem wN4 (f:List D->D->Option D) (mo ma:Ev->Res D) (ρ:Ev):eM1 f mo ma ρ=(mo ρ).bind fun x=>(Res.lft (lstD x)).bind fun ds=>(ma ρ).bind fun y=>Res.lft (f ds y):=rfl
theorem xD6 {C:Ct}{o a:Expr}{name:Str}{id:String}{apos cpos:Pos}{md mda:Md}{mo ma:Ev->Res D}{r:V->List V->Hp->VK->Prop}{f:List D->D->Option D}(slot:Slot "list" name id) (hty:typeOf (.builtin id)=pure (.type "method_descriptor")) (hm:MtR C.X id r) (hp:Pr1 C.X.K r (fun x y=>(lstD x).bind fun ds=>f ds y)) (ho:RE C md o mo) (ha:RE C mda a ma)
  (hbase:autoParam (attributeBase o name C.X.env (eval o C.X.env)=eval o C.X.env) zU._auto_1)
  (hfew:((backTo cpos (starEach [a] C.X.env)).all (fun x=>!x.1)&&(backToKw cpos (keywordEach [] C.X.env)).all (fun x=>x.1.isSome)
  &&decide ([a].length+([]:List Keyword).length+(if ([]:List Keyword).isEmpty then 0 else 1)<30))=true:=by rfl)
  (hline:autoParam ((apos.endLine == cpos.line)=true) zU._auto_1) (hs:autoParam (starEach [a] C.X.env=(false,eval a C.X.env)::starEach [] C.X.env) zU._auto_1) (hplain:autoParam ((backTo cpos (starEach [] C.X.env)).any (·.1)=false) zU._auto_1) :
  RE C .cl (.Call (.Attribute o name apos) [a] [] cpos) (eM1 f mo ma):=by
 obtain⟨to,po,qo⟩:=ho
 obtain⟨ta,pa,qa⟩:=ha
 refine⟨_,zJ3 PySem.F.plainAttrs_list slot hty hm po (qP pa hJ hs) hbase hfew hline hs hplain,fun Oc Ob σ H ρ Q R h => ?_⟩
 refine qo Oc Ob σ H ρ _ R (Res.zO (Res.zT h) (fun dx _ k x H1 s1 vx => ?_) fun _ z=>z)
 obtain⟨ds,ex,k⟩:=Res.zF (Res.zT k)
 obtain rfl:=vF ex
 have vx1:=vx.va R.oh
 refine⟨?_,qa Oc Ob σ H1 ρ _ (R.same s1) (Res.zO (Res.zT k) (fun dy _ k y H2 s2 vy => ?_) fun c z H' s'=>z H' (s1.trans s'))⟩
 ·obtain⟨a',ys,rfl,rd,_⟩:=vx1.list
  exact .inl ⟨rfl,ys,.inl rd⟩
 ·obtain⟨d,ed,k⟩:=Res.zF k
  exact hp Oc Ob H2 x y _ dy d Q (vx1.same s2) (vy.va (R.same s1).oh) ed fun v rv=>k v H2 (s1.trans s2) rv
def ixDD (ds:List D) (y:D):Option D:=if flD y=true/\ds.all flD=true/\ds.length<=1000 then (ds.findIdx? fun z=>eqF z y).map (fun (j:Nat)=>PyData.int (j:Int)) else none
theorem xB3 {K:KFr}:Pr1 K (rIdx K) (fun x y=>(lstD x).bind fun ds=>ixDD ds y):=by
 intro Oc Ob H x y dx dy d Q vx vy e k
 obtain⟨ds,e1,e2⟩:=Option.bind_eq_some_iff.mp e
 clear e
 have e:=e2
 clear e2
 obtain rfl:=vF e1
 unfold ixDD at e
 split at e
 ·rename_i h
  obtain⟨j,ej,rfl⟩:=Option.map_eq_some_iff.mp e
  obtain⟨p,ys,rfl,rd,rs⟩:=vx.list
  have ry:=xZ6 vy h.1
  obtain⟨hj,h1,h2⟩:=List.findIdx?_eq_some_iff_getElem.mp ej
  obtain⟨z,hz,rz⟩:=rs.get (List.getElem?_eq_getElem hj)
  have fl:∀(m:Nat) (d:D),ds[m]?=some d->flD d=true:=fun m d hm=>List.all_eq_true.mp h.2.1 d (List.mem_of_getElem? hm)
  refine⟨p,ys,y,j,z,rfl,rfl,.inl rd,zU4 ry h.1,aS rs h.2.1,hz,?_,fun m z' hm hz' => ?_,by bv_omega,k _ (Rep.int _)⟩
  ·rw[yV3 rz ry (fl j _ (List.getElem?_eq_getElem hj)) h.1]
   exact h1
  ·obtain⟨d',hd',rd'⟩:=rs.of hz'
   have hm':m<ds.length:=by bv_omega
   rw[yV3 rd' ry (fl m _ hd') h.1]
   have h3:=h2 m hm
   rw[List.getElem?_eq_getElem hm'] at hd'
   cases hd'
   simpa using h3
 ·cases e
def Its (lo st:Int) (n:Nat):It:=⟨fun i _=>i<n,fun i H x H'=>H'=H/\x=.int (lo+(i:Int)*st),fun i _=>n<=i⟩
theorem xS8 {P:Program}{w:World}{K:KFr}{tg:Expr}(it:Addr) (lo st:Int) (n:Nat):Turn P w K tg (Its lo st n) [it] it (fun i h=>IsRangeIter h it (lo+(i:Nat)*st) ((n:Int)-(i:Nat)) st) where
 mem:=by simp
 obj:=fun i h hs b hb=>by
  have e:b=it:=by simpa using hb
  subst e
  exact⟨_,hs,fun v z=>by
   have z':Data.fields _=Data.cell v:=z
   cases z'⟩
 keep:=fun i h h' hs k=>k it (by simp) _ hs
 item:=by
  intro X hP hw hK hc i pins s σ H E I hf hs hg
  subst hP hw hK
  obtain⟨f0,f1,f2,f3,f4,f5⟩:=hf it (by simp)
  have W:=Walks.range (prog:=X.prog) (w:=X.w) (I.ok.hd hc) it lo st n
  refine W.item i s _ _ hg hs fun v h' tk hv hs' kk => ?_
  obtain⟨t,rfl⟩:=hv
  have I1:Inv X pins σ H { s with heap:=h',toks:=tk }:=I.turned (fun b o hb e=>kk b o (by simpa using hb) e) f0 f1 f3 f4 f5
  exact⟨_,rfl,yO5 (s:={ s with heap:=h',toks:=tk }) (n:="range_iterator") hs' rfl rfl (by decide) ⟨.int (lo+(i:Int)*st),H,I1,⟨t,rfl⟩,⟨rfl,rfl⟩,hs',fun b hb=>(hf b hb).1⟩⟩
 done:=by
  intro X hP hw hK hc i pins s σ H E I hf hs hg
  subst hP hw hK
  obtain⟨f0,f1,f2,f3,f4,f5⟩:=hf it (by simp)
  exact wpAny_pyNext_range_end (I.ok.hd hc) hs (by have:n<=i:=hg;bv_omega) fun h' eb=>⟨rfl,I.turned (t':=s.toks) (fun b o hb e=>eb b o hb e) f0 f1 f3 f4 f5⟩
 self:=fun _ _ _ _ _ hs h=>wpAny_pyIter_rangeiter hs h
def StepOk (i j k:Int):Prop:=k≠0/\k.natAbs.log2<9000/\Builtin.Range.small i j k=true/\0<=Builtin.Range.rangeSize i j k
instance (i j k:Int):Decidable (StepOk i j k):=by unfold StepOk;infer_instance
def iRng3 (ta:TA):TI:=fun σ H R=>ta σ H fun vs H1=>∃i j k:Int,vs=[.int i,.int j,.int k]/\StepOk i j k/\R (Its i k (Builtin.Range.rangeSize i j k).toNat) H1
theorem xS9 {X:Cx}{tg a b c:Expr}{ta:TA}{p pos:Pos}(hg:Gl X "range") (hm:X.mg "range" = none) (ha:PA X [a,b,c] ta) (hs:autoParam (starEach [a,b,c] X.env=[(false,eval a X.env),(false,eval b X.env),(false,eval c X.env)]) zU._auto_1) (hs2:autoParam (starEach [b,c] X.env=[(false,eval b X.env),(false,eval c X.env)]) zU._auto_1) :
  PI X tg (.Call (.Name "range" p) [a,b,c] [] pos) (iRng3 ta):=by
 intro pins s σ H R I h
 refine Call_ (zX1 I hg hm boot_range (PyProof.Rows.callWith_type1 (thn (ha pos pins s σ H _ I h) fun us s1 ⟨vs,H1,I1,r1,q1⟩ => ?_) (by rw[hs,hs2]) (by rw[hs2];rfl)))
 obtain⟨i,j,k,e,ok,q⟩:=q1
 subst e
 cases r1 with
 | cons r rr =>
  cases rr with
  | cons r' rr =>
   cases rr with
   | cons r'' rr =>
    cases rr
    obtain⟨t,rfl⟩:=r
    obtain⟨t',rfl⟩:=r'
    obtain⟨t'',rfl⟩:=r''
    refine call_range_3 ok.1 ?_ (.inl (PyProof.noPylong_of_log2 ok.2.1))
    refine wpAny_pyIter_range (IsRange.new ..) ok.2.2.1 ?_
    have I2:Inv X pins σ H1 { s1 with heap:=s1.heap.push { cls:=.type "range",data:=.fields #[.int i t,.int j t',.int k t''] },toks:=s1.toks }:=I1.kept fun b o e=>Heap.get?_push_of_some _ e
    refine⟨(s1.heap.push { cls:=.type "range",data:=.fields #[.int i t,.int j t',.int k t''] }).objs.size,[(s1.heap.push { cls:=.type "range",data:=.fields #[.int i t,.int j t',.int k t''] }).objs.size],_,_,H1,rfl,
     I2.kept (t':=s1.toks) fun b o e=>Heap.get?_push_of_some _ e,xS8 _ i k (Builtin.Range.rangeSize i j k).toNat,?_,fun b hb => ?_,q⟩
    ·show IsRangeIter _ _ (i+((0:Nat):Int)*k) ((((Builtin.Range.rangeSize i j k).toNat:Nat):Int)-((0:Nat):Int)) k
     have n0:=ok.2.2.2
     rw[show i+((0:Nat):Int)*k=i by simp,show (((Builtin.Range.rangeSize i j k).toNat:Nat):Int)-((0:Nat):Int)=Builtin.Range.rangeSize i j k by bv_omega]
     exact Heap.get?_push_size _ rfl
    ·have e:b=(s1.heap.push { cls:=.type "range",data:=.fields #[.int i t,.int j t',.int k t''] }).objs.size:=by simpa using hb
     subst e
     exact I2.fpOk (Nat.le_refl _) (I2.hok.fresh (Nat.le_refl _))
def rng3:List D->Option (List D)
 | [.int i,.int j,.int k]=>if StepOk i j k then some ((List.range (Builtin.Range.rangeSize i j k).toNat).map fun (m:Nat)=>PyData.int (i+(m:Int)*k)) else none
 | _=>none
theorem xS5 {Oc:Wd}{Ob:Addr->Prop}{H1:Hp}{lo st:Int}{n:Nat}:Walks Oc Ob (Its lo st n) H1 ((List.range n).map fun (i:Nat)=>PyData.int (lo+(i:Int)*st)):=by
 intro H2 Ob2 f s i
 refine⟨fun d e => ?_,fun h=>by show n<=i;simpa using h⟩
 rw[List.getElem?_map] at e
 by_cases hi:i<n
 ·rw[List.getElem?_range hi] at e
  cases e
  refine⟨hi,fun x H3 hy => ?_⟩
  obtain⟨rfl,rfl⟩:=hy
  exact⟨Same.refl _,.int _⟩
 ·rw[List.getElem?_eq_none (by simpa using hi)] at e
  cases e
theorem xR1 {C:Ct}{tg a b c:Expr}{p pos:Pos}{ms:Ev->Res (List D)}(hm:C.X.mg "range" = none) (ha:RArg C false [a,b,c] ms) (hg:autoParam (Gl C.X "range") zU._auto_1) (hs:autoParam (starEach [a,b,c] C.X.env=[(false,eval a C.X.env),(false,eval b C.X.env),(false,eval c C.X.env)]) zU._auto_1) (hs2:autoParam (starEach [b,c] C.X.env=[(false,eval b C.X.env),(false,eval c C.X.env)]) zU._auto_1):RI C tg (.Call (.Name "range" p) [a,b,c] [] pos) (iR rng3 ms):=by
 obtain⟨t,pa,q⟩:=ha
 refine⟨_,xS9 hg hm pa hs hs2,fun Oc Ob σ H ρ W R h=>q Oc Ob σ H ρ _ R (Res.zO (Res.zT h) (fun ds _ k vs H' s r => ?_) fun _ z=>z)⟩
 obtain⟨xs,e,k⟩:=Res.zF k
 unfold rng3 at e
 split at e
 ·split at e
  ·rename_i hb
   cases e
   cases r with
   | cons va r =>
    obtain⟨v',v'',rfl,va',va''⟩:=VAs.two r
    obtain rfl:=va.int
    obtain rfl:=va'.int
    obtain rfl:=va''.int
    exact⟨_,_,_,rfl,hb,k _ H' s xS5⟩
  ·cases e
 ·cases e
end L2.L3
namespace L2.L3
open PySem PyProof.Rows
variable [CN]
section
variable {X:Cx}
end
def revT:D->Option D
 | .list ds=>some (.tuple ds.reverse)
 | _=>none
def eRevT (m:Ev->Res D):Ev->Res D:=fun ρ=>(m ρ).bind fun d=>Res.lft (revT d)
theorem xE7 (m:Ev->Res D) (ρ:Ev):eRevT m ρ=(m ρ).bind fun d=>Res.lft (revT d):=rfl
end L2.L3
namespace L2
open PySem PyProof.Rows
structure CScope2 (sc0 scope:Scope) (N0:List Str) (xt yt:Str) (fs:List Str) (js:List Nat):Prop where
 kind:scope.kind=.function
 nocell:∀y∈scope.names,y.2 ≠ .cell
 names:∀y∈scope.names,y.2=.local->scope.names.lookup y.1=some .local
 tgt:scope.names.lookup xt=some .local
 tgt2:scope.names.lookup yt=some .local
 frees:∀y∈scope.names,y.2=.free->sc0.names.lookup y.1=some .cell\/sc0.names.lookup y.1=some .free
 len:js.length=fs.length
 slots:∀p∈fs.zip js,N0[p.2]?=some p.1/\scope.names.lookup p.1=some .free
 nd:(xt::yt::fs).Nodup
def compSt2 (σ:St) (js:List Nat) (v w:Option V):St:=v::w::js.map fun j=>(σ[j]?).join
section
variable {X:Cx}{pins:List (Addr×Obj)}{σ:St}{H:Hp}{s₂ s₄:Shared}{sc0 scope:Scope}{N0:List Str}{xt yt:Str}{fs:List Str}{js:List Nat}{fp:List Addr}
theorem CScope2.cells (S:CScope2 sc0 scope N0 xt yt fs js) (h0:X.env.scope=sc0) (ok:X.Ok):∀n,(n,NameKind.free)∈scope.names->∃c,X.env.cells.lookup n=some c:=fun n hn=>ok.has n (by subst h0;exact S.frees _ hn rfl)
theorem CScope2.sub (S:CScope2 sc0 scope N0 xt yt fs js) (h0:X.env.scope=sc0) (ok:X.Ok):∀x c,(clos X.env.cells scope.names []).lookup x=some c->X.env.cells.lookup x=some c :=
 zT4 scope.names [] (S.cells h0 ok) fun x c e=>by simp at e
theorem Inv.block2 (S:CScope2 sc0 scope N0 xt yt fs js) (h0:X.env.scope=sc0) (hN0:X.N=N0) (I:Inv X pins σ H s₂) (hf:∀b∈fp,FpOk X pins H b) (hfo:∀b∈fp,∃o,s₂.heap.get? b=some o)
  (hos:s₄.os=s₂.os) (hg:AllBare s₄.gens) (hk:∀b o,s₂.heap.get? b=some o->s₄.heap.get? b=some o){C:Addr}(hC:s₂.heap.objs.size<=C){m:Str->Option Value}(hn:s₄.heap.Ns C m) :
  Inv (cxComp X (xt::yt::fs) scope C fp s₂ H) [] (compSt2 σ js none none) H s₄:=by
 have sub:=S.sub h0 I.ok
 have blt:∀b∈fp,b<s₂.heap.objs.size:=fun b hb=>let ⟨o,e⟩:=hfo b hb;Heap.lt_size e
 have ok:(cxComp X (xt::yt::fs) scope C fp s₂ H).Ok:=by
  refine⟨I.ok.mod,S.kind,I.ok.glob,I.ok.blt,hC,fun x y c h1 h2=>I.ok.inj x y c (sub x c h1) (sub y c h2),fun x hx => ?_,fun x c h=>(nomatch h),I.ok.hd,I.ok.frames,.inl rfl,fun b hb=>⟨?_,fun x c h=>(hf b hb).2.2.2.2.1 x c (sub x c h)⟩,I.bs,Nat.le_trans I.ok.bsz I.sz,fun b o e hb => ?_,fun b hb hs => ?_,I.stack,I.stkFree⟩
  ·have hx:(relabel scope X.env).names.lookup x=some .cell\/(relabel scope X.env).names.lookup x=some .free:=hx
   have hfree:scope.names.lookup x=some .free:=by
    rcases hx with hx | hx
    ·rcases hU hx with q | ⟨_,q⟩
     ·exact absurd rfl (S.nocell _ (PySem.mem_of_lookup q))
     ·exact q
    ·rcases hU hx with q | ⟨q,_⟩
     ·exact q
     ·cases q
   exact fX scope.names [] x (PySem.mem_of_lookup hfree)
  ·exact Nat.ne_of_lt (Nat.lt_of_lt_of_le (blt b hb) hC)
  ·rcases (hf b hb).2.2.2.1 with z | z
   ·exact I.ok.noex b o e z
   ·exact absurd (Nat.lt_of_lt_of_le (Heap.lt_size (I.ok.bs b o e).1) z) (Nat.lt_irrefl _)
  ·rcases List.mem_cons.mp (I.stkSub b hs) with z | z
   ·exact (hf b hb).2.1 z
   ·exact (hf b hb).2.2.1 z
 refine⟨ok,hos,hg,Un.kept hk,⟨m,hn,fun i x v e1 e2 e3 => ?_⟩,fun x c e => ?_,I.hok.fresh hC,fun x c e=>I.freeC x c (sub x c e),fun p hp=>absurd (show p∈([]:List (Addr×Obj)) from hp) (by simp),I.hok.kept hk,?_⟩
 ·cases i with
  | zero=>cases e2
  | succ i =>
   cases i with
   | zero=>cases e2
   | succ i =>
   have e1:fs[i]?=some x:=e1
   have e2:(js.map fun j=>(σ[j]?).join)[i]?=some (some v):=e2
   rw[List.getElem?_map] at e2
   cases ej:js[i]? with
   | none=>rw[ej] at e2;cases e2
   | some j =>
    rw[ej] at e2
    have e2:(σ[j]?).join=some v:=Option.some.inj e2
    obtain⟨hN,hfr⟩:=S.slots _ (yW9 e1 ej)
    have hN:X.N[j]?=some x:=by rw[hN0];exact hN
    have hk2:X.env.kindOf x=some .cell\/X.env.kindOf x=some .free:=by subst h0;exact S.frees _ (PySem.mem_of_lookup hfr) rfl
    have hs:σ[j]?=some (some v):=by
     cases q:σ[j]? with
     | none=>rw[q] at e2;cases e2
     | some z=>rw[q] at e2;rw[show z=some v from e2]
    obtain⟨m0,hn0,hl⟩:=I.loc
    obtain⟨u,r,l⟩:=hl j x v hN hs (by rcases hk2 with z | z;exact .inr (.inl z);exact .inr (.inr z))
    refine⟨u,r,?_⟩
    rcases l with ⟨hloc,_⟩ | ⟨_,c,hc,hcell⟩
    ·rcases hk2 with z | z
     ·rw[z] at hloc;cases hloc
     ·rw[z] at hloc;cases hloc
    ·obtain⟨c',hc'⟩:=fX (cells:=X.env.cells) scope.names [] x (PySem.mem_of_lookup hfr)
     have:c'=c:=Option.some.inj ((sub x c' hc').symm.trans hc)
     subst this
     exact .inr ⟨zM8 hfr,c',hc',hcell.keeps hk⟩
 ·obtain⟨v,z⟩:=I.cell x c (sub x c e)
  exact⟨v,z.keeps hk⟩
 ·show (compSt2 σ js none none).length=(xt::yt::fs).length
  unfold compSt2
  rw[List.length_cons,List.length_cons,List.length_map,List.length_cons,List.length_cons,S.len]
end
def tComp2 (K:KFr) (wi:TI) (tt:Addr->List Addr->Shared->Hp->TT) (te:Addr->List Addr->Shared->Hp->TE) (js:List Nat):TE:=fun σ H Q=>wi σ H fun J H1=>∀C fp s₂ H₂,∃W:Nat->Nat->List V->Hp->Prop,(∃m,W 0 m [] H1)/\∀i m acc H,W i m acc H ->
 (J.stop i H/\∀p,H p=none->Q (.ref p) (upd H p (.lst acc))) \/
 (J.go i H/\∃N:List V->Hp->Prop,(∀acc' H',N acc' H'->∃m',m'<m/\W (i+1) m' acc' H') /\
  ∀x H',J.yld i H x H'->∃ta x1 x2,x=.ref ta/\SqT K H' ta [x1,x2]/\tt C fp s₂ H₂ (compSt2 σ js (some x1) (some x2)) H' fun b H2=>if b=true then te C fp s₂ H₂ (compSt2 σ js (some x1) (some x2)) H2 fun v H3=>acc.length<sizeLine/\N (acc ++ [v]) H3 else N acc H2)
theorem xE5 {X:Cx}{elt iter:Expr}{ifs:List Expr}{sc0 scope:Scope}{N0:List Str}{px py tp pos:Pos}{k1:Nat}{xt yt:Str}{fs:List Str}{js:List Nat}{wi:TI}{tt:Addr->List Addr->Shared->Hp->TT}{te:Addr->List Addr->Shared->Hp->TE}(S:CScope2 sc0 scope N0 xt yt fs js) (h0:X.env.scope=sc0) (hN0:X.N=N0) (hc:X.calm=true)
  (hi:PI X (.Tuple [.Name xt px,.Name yt py] k1 tp) iter wi) (ht:∀C fp s₂ H,PTs (cxComp X (xt::yt::fs) scope C fp s₂ H) ifs (tt C fp s₂ H)) (he:∀C fp s₂ H,PE (cxComp X (xt::yt::fs) scope C fp s₂ H) elt (te C fp s₂ H))
  (hs:autoParam (∀x,foldedSetIterable iter X.env x=pure x) qU._auto_1) :
  PE X (.ListComp elt [⟨.Tuple [.Name xt px,.Name yt py] k1 tp,iter,ifs,0⟩] scope pos) (tComp2 X.K wi tt te js):=by
 intro pins s σ H Q I h
 rw[eval_ListComp]
 refine wpAny_comprehension_free (use:=none) rfl hs (zR3 (S.cells h0 I.ok)) S.kind S.names ?_
 refine thn (hi pins s σ H _ I h) fun v s1 h1=>thn h1 fun itv s2 h2 => ?_
 obtain⟨it,fp,tn,J,H2,e,I2,T,st2,f2,hW⟩:=h2
 subst e
 have fo:∀b∈fp,∃o,s2.heap.get? b=some o:=fun b hb=>let ⟨o,e,_⟩:=T.obj 0 s2.heap st2 b hb; ⟨o,e⟩
 have blt:∀b∈fp,b<s2.heap.objs.size:=fun b hb=>let ⟨o,e⟩:=fo b hb;Heap.lt_size e
 refine yU9 S.nocell S.kind fun D C h₁ mC hDle hCle hDC old hacc hns₁ => ?_
 have bC:∀b o,s2.heap.get? b=some o->b≠C:=fun b o q z=>Nat.not_lt.mpr hCle (z▸Heap.lt_size q)
 have bD:∀b o,s2.heap.get? b=some o->b≠D:=fun b o q z=>Nat.not_lt.mpr hDle (z▸Heap.lt_size q)
 obtain⟨W,⟨m0,w0⟩,turn⟩:=hW C fp s2 H2
 have fpk:∀{H':Hp}(ob:Obj),(∀b∈fp,H' b=none)->∀b∈fp,FpOk (cxComp X (xt::yt::fs) scope C fp s2 H2) [(D,ob)] H' b:=fun {H'} ob hn b hb=>by
  refine⟨hn b hb,Nat.ne_of_lt (Nat.lt_of_lt_of_le (blt b hb) hCle),fun z => ?_,.inl hb,fun x c e=>(f2 b hb).2.2.2.2.1 x c (S.sub h0 I2.ok x c e),fun p hp => ?_⟩
  ·rcases List.mem_cons.mp (I2.stkSub b z) with q | q
   ·exact (f2 b hb).2.1 q
   ·exact (f2 b hb).2.2.1 q
  ·have:p=(D,ob):=by
    have hp:p ∈ [] ++ [(D,ob)]:=hp
    simpa using hp
   subst this
   exact Nat.ne_of_gt (Nat.lt_of_lt_of_le (blt b hb) hDle)
 have loop:codeAny (model X.prog X.w) X.A (.compLoop (.ListComp elt [⟨.Tuple [.Name xt px,.Name yt py] k1 tp,iter,ifs,0⟩] scope pos) 0 (.ref it) (.ref D) (compEnvC scope (clos X.env.cells scope.names []) C X.env))
    (compPost (model X.prog X.w) X.A X.xe none (EP X pins σ Q) (.ref D) C) { s2 with heap:=h₁ }:=by
  have J0:Inv (cxComp X (xt::yt::fs) scope C fp s2 H2) [] (compSt2 σ js none none) H2 { s2 with heap:=h₁ } :=
   Inv.block2 (s₂:=s2) (s₄:={ s2 with heap:=h₁ }) S h0 hN0 I2 f2 fo rfl I2.bare old hCle hns₁
  have H2D:H2 D=none:=I2.hok.fresh hDle
  have ofD:D∉frs X.stack:=fun z=>by
   rcases List.mem_cons.mp (I2.stkSub D z) with q | q
   ·exact absurd I2.lt (by rw[<-q];exact Nat.not_lt.mpr hDle)
   ·exact I2.nofs (a:=D) hDle q
  refine codeAny_loop rfl (fun n s'=>∃(i:Nat) (σ':St) (H':Hp) (acc:List V) (its:List Value) (k:Nat),(∃v0 w0,σ'=compSt2 σ js v0 w0)/\Inv (cxComp X (xt::yt::fs) scope C fp s2 H2) [] σ' H' s'/\tn i s'.heap/\(∀b∈fp,H' b=none)/\H' D=none /\
    s'.heap.get? D=some { cls:=.type "list",data:=.seq its.toArray k }/\Vals acc its/\acc.length<=sizeLine/\W i n acc H') ?_ m0
   ⟨0,_,H2,[],[],0,⟨none,none,rfl⟩,J0,T.keep 0 _ _ st2 fun b hb o e=>old b o e,fun b hb=>(f2 b hb).1,H2D,hacc,.nil,Nat.zero_le _,w0⟩
  rintro n s3 ⟨i,σ3,H3,acc,its,k,⟨v0,w0,rfl⟩,I3,st3,fr3,hD3,d3,va,hz,w3⟩
  show wpAny _ X.A ((compTurn (.ListComp elt [⟨.Tuple [.Name xt px,.Name yt py] k1 tp,iter,ifs,0⟩] scope pos) 0 (.ref it) (.ref D) (compEnvC scope (clos X.env.cells scope.names []) C X.env)).onRaise (fun x=>do noteFrame x (compEnvC scope (clos X.env.cells scope.names []) C X.env);theTreesLotGoes x)) _ _ s3
  refine wpAny_noted ?_
  rw[compTurn_list]
  refine wpAny_bind (wpAny_standAt ?_)
  have pinD:Inv (cxComp X (xt::yt::fs) scope C fp s2 H2) [(D,{ cls:=.type "list",data:=.seq its.toArray k })] (compSt2 σ js v0 w0) H3 s3:=I3.qR fun p hp=>by
   have:p=(D,{ cls:=.type "list",data:=.seq its.toArray k }):=by simpa using hp
   subst this
   exact⟨d3,hD3,hDC,ofD,fun v z=>by cases z⟩
  refine wpAny_bind ?_
  rcases turn i n acc H3 w3 with ⟨stop,qn⟩ | ⟨go,N,hN,step⟩
  ·refine thn (T.done (cxComp X (xt::yt::fs) scope C fp s2 H2) rfl rfl rfl hc i _ s3 _ H3 _ pinD (fpk _ fr3) st3 stop) fun r s4 ⟨hr,I4⟩ => ?_
   subst hr
   refine wpAny_pure ?_
   obtain⟨m4,hn4,_⟩:=I4.loc
   refine⟨m4,hn4,fun h' hsb=>⟨.ref D,_,I2.unblock f2 I4 hCle hDle hDC hD3 ((I4.pin (D,{ cls:=.type "list",data:=.seq its.toArray k }) (List.mem_append_right _ List.mem_cons_self)).1) va hz hsb,rfl,qn D hD3⟩⟩
  ·refine thn (T.item (cxComp X (xt::yt::fs) scope C fp s2 H2) rfl rfl rfl hc i _ s3 _ H3 _ pinD (fpk _ fr3) st3 go) fun r s4 ⟨u,hr,h4⟩ => ?_
   subst hr
   refine wpAny_bind (thn h4 fun _ s5 ⟨x,H5,I5,r5,y5,st5,fr5⟩ => ?_)
   have I5':=I5.pinned (fpk _ fr5) (T.obj _ _ st5)
   obtain⟨ta,x1,x2,ex,hx,q6⟩:=step x H5 y5
   have g0:PG (cxComp X (xt::yt::fs) scope C fp s2 H2) (.Name xt px) (gName 0):=zK7 S.nd rfl (.inl (lookup_relabel_local S.tgt)) (.inr (lookup_relabel_local S.tgt))
   have g1:PG (cxComp X (xt::yt::fs) scope C fp s2 H2) (.Name yt py) (gName 1):=zK7 S.nd rfl (.inl (lookup_relabel_local S.tgt2)) (.inr (lookup_relabel_local S.tgt2))
   have gok:PG (cxComp X (xt::yt::fs) scope C fp s2 H2) (.Tuple [.Name xt px,.Name yt py] k1 tp) (gTup X.K 2 (gCons (gName 0) (gCons (gName 1) gNil))):=xQ1 hc (zF6 g0 (zF6 g1 xY3))
   have noE:∀(a:Value) (s':Shared),(cxComp X (xt::yt::fs) scope C fp s2 H2).xe a s'->notedBy (model X.prog X.w) X.A (compEnvC scope (clos X.env.cells scope.names []) C X.env) (fun e s'=>compPost (model X.prog X.w) X.A X.xe none (EP X pins σ Q) (.ref D) C (.error e) s') a s':=fun _ _ z=>False.elim z
   refine wpAny_bind (wpAny_mono (gok _ s5 (compSt2 σ js v0 w0) H5 x u (fun σ' H'=>σ'=compSt2 σ js (some x1) (some x2)/\H'=H5) I5' r5 ⟨ta,[x1,x2],ex,hx,rfl,x1,[x2],rfl,x2,[],rfl,rfl,rfl,rfl⟩) (fun _ s6 ⟨σ6,H6,I6,e6,e6'⟩ => ?_) noE)
   subst e6 e6'
   have fin:∀{acc':List V}{its':List Value}{k':Nat}{H7:Hp}{s7:Shared},Inv (cxComp X (xt::yt::fs) scope C fp s2 H2) [] (compSt2 σ js (some x1) (some x2)) H7 s7->tn (i+1) s7.heap->(∀b∈fp,H7 b=none)->H7 D=none->s7.heap.get? D=some { cls:=.type "list",data:=.seq its'.toArray k' }->Vals acc' its'->acc'.length<=sizeLine->N acc' H7 ->
     ∃m,m<n/\∃(i:Nat) (σ':St) (H':Hp) (acc:List V) (its:List Value) (k:Nat),(∃v0 w0,σ'=compSt2 σ js v0 w0)/\Inv (cxComp X (xt::yt::fs) scope C fp s2 H2) [] σ' H' s7/\tn i s7.heap/\(∀b∈fp,H' b=none)/\H' D=none /\
      s7.heap.get? D=some { cls:=.type "list",data:=.seq its.toArray k }/\Vals acc its/\acc.length<=sizeLine/\W i m acc H':=fun {acc' its' k' H7 s7} a1 a2 a3 a4 a5 a6 a7 a8=>by
    obtain⟨m',hm,w7⟩:=hN _ _ a8
    exact⟨m',hm,i+1,_,H7,acc',its',k',⟨_,_,rfl⟩,a1,a2,a3,a4,a5,a6,a7,w7⟩
   have rest:∀{H7:Hp}{s7:Shared},Inv (cxComp X (xt::yt::fs) scope C fp s2 H2) ([(D,{ cls:=.type "list",data:=.seq its.toArray k })]++pinsAt fp s5.heap) (compSt2 σ js (some x1) (some x2)) H7 s7 ->
     tn (i+1) s7.heap/\(∀b∈fp,H7 b=none)/\H7 D=none/\s7.heap.get? D=some { cls:=.type "list",data:=.seq its.toArray k }:=fun {H7 s7} I7=>by
    refine⟨T.keep _ _ _ st5 fun b hb o e=>(I7.pin (b,o) (List.mem_append_right _ (List.mem_append_right _ (jO hb e)))).1,fun b hb => ?_,(I7.pin (D,{ cls:=.type "list",data:=.seq its.toArray k }) (List.mem_append_right _ (List.mem_append_left _ List.mem_cons_self))).2.1,(I7.pin (D,{ cls:=.type "list",data:=.seq its.toArray k }) (List.mem_append_right _ (List.mem_append_left _ List.mem_cons_self))).1⟩
    obtain⟨o,e,d⟩:=T.obj _ _ st5 b hb
    exact (I7.pin (b,o) (List.mem_append_right _ (List.mem_append_right _ (jO hb e)))).2.1
   have elem:∀{H7:Hp}{s7:Shared},Inv (cxComp X (xt::yt::fs) scope C fp s2 H2) ([(D,{ cls:=.type "list",data:=.seq its.toArray k })]++pinsAt fp s5.heap) (compSt2 σ js (some x1) (some x2)) H7 s7 ->
     (te C fp s2 H2 (compSt2 σ js (some x1) (some x2)) H7 fun v H3=>acc.length<sizeLine/\N (acc ++ [v]) H3) ->
     wpAny (model X.prog X.w) X.A (eval elt (compEnvC scope (clos X.env.cells scope.names []) C X.env)) (fun y s8=>wpAny (model X.prog X.w) X.A (call (.builtin "list.append") [.ref D,y]) (fun _ s9=>∃m,m<n/\∃(i:Nat) (σ':St) (H':Hp) (acc:List V) (its:List Value) (k:Nat),(∃v0 w0,σ'=compSt2 σ js v0 w0)/\Inv (cxComp X (xt::yt::fs) scope C fp s2 H2) [] σ' H' s9/\tn i s9.heap/\(∀b∈fp,H' b=none)/\H' D=none /\
      s9.heap.get? D=some { cls:=.type "list",data:=.seq its.toArray k }/\Vals acc its/\acc.length<=sizeLine/\W i m acc H')
      (fun _ _=>False) s8) (fun _ _=>False) s7:=fun {H7 s7} I7 q7=>by
    refine thn (he C fp s2 H2 _ s7 _ H7 _ I7 q7) fun y s8 ⟨v,H8,I8,r8,hl8,n8⟩ => ?_
    obtain⟨t8,fr8,hD8,d8⟩:=rest I8
    have hsz:=va.length
    refine call_meets F.slot_list_append ⟨_,d8,rfl⟩ F.entry_list_append (F.args_list_append_2 _ _) (PySem.list_append D its.toArray k y (by rw[List.size_toArray];bv_omega)) ⟨d8,?_⟩
    have q:=PySem.IsL.update d8 (·.push y)
    rw[show (its.toArray.push y)=(its ++ [y]).toArray by simp] at q
    have kk:∀b o,b≠D->s8.heap.get? b=some o->(s8.heap.update D (Obj.mapSeq (·.push y))).get? b=some o:=fun b o hb e=>(Heap.get?_update_other s8.heap _ (Ne.symm hb)).trans e
    have I9:Inv (cxComp X (xt::yt::fs) scope C fp s2 H2) [] (compSt2 σ js (some x1) (some x2)) H8 { s8 with heap:=s8.heap.update D (Obj.mapSeq (·.push y)) }:=by
     refine Inv.turned (it:=D) (t':=s8.toks) (I8.qR (pins':=[]) fun p hp=>nomatch hp) kk hD8 hDC (.inr hDle) (fun x c e z => ?_) fun p hp=>absurd (show p∈([]:List (Addr×Obj)) from hp) (by simp)
     obtain⟨v,o,ho,_⟩:=I2.cell x c (S.sub h0 I2.ok x c e)
     exact bD c o ho z
    refine fin I9 (T.keep _ _ _ t8 fun b hb o e=>kk b o (Nat.ne_of_lt (Nat.lt_of_lt_of_le (blt b hb) hDle)) e) fr8 hD8 q (va.append (.cons r8 .nil)) ?_ n8
    rw[List.length_append,List.length_singleton]
    bv_omega
   have htt:=ht C fp s2 H2
   generalize tt C fp s2 H2=tt' at htt q6
   cases htt with
   | nil =>
    refine wpAny_bind (wpAny_pure ?_)
    dsimp only[tTrue] at q6
    rw[if_pos rfl] at q6
    refine wpAny_mono (wpAny_bind (wpAny_bind (thn (elem I6 q6) fun y s8 h8=>wpAny_bind (thn h8 fun _ s9 h9=>wpAny_pure (wpAny_pure ⟨rfl,h9⟩))))) (fun _ _ z=>z) fun _ _ z=>False.elim z
   | one ht1 =>
    refine wpAny_bind (wpAny_tests_one (wpAny_mono (ht1 _ s6 _ H6 _ I6 q6) (fun b s7 ⟨H7,I7,q7⟩ => ?_) noE))
    cases b with
    | false =>
     rw[if_neg Bool.false_ne_true] at q7
     obtain⟨t8,fr8,hD8,d8⟩:=rest I7
     exact wpAny_pure ⟨rfl,fin (I7.qR (pins':=[]) fun p hp=>nomatch hp) t8 fr8 hD8 d8 va hz q7⟩
    | true =>
     rw[if_pos rfl] at q7
     refine wpAny_mono (wpAny_bind (wpAny_bind (thn (elem I7 q7) fun y s8 h8=>wpAny_bind (thn h8 fun _ s9 h9=>wpAny_pure (wpAny_pure ⟨rfl,h9⟩))))) (fun _ _ z=>z) fun _ _ z=>False.elim z
 exact codeAny_compStart_list loop (T.self X.A 0 _ _ _ (T.keep 0 _ _ st2 fun b hb o e=>old b o e) loop)
end L2
namespace L2.L3
open PySem PyProof.Rows
variable [CN]
def cEnv2 (ρ:Ev) (js:List Nat) (x y:D):Ev:=some x::some y::js.map fun j=>(ρ[j]?).join
def capt2 (js l:List Nat):List Nat:=((List.range js.length).filter fun i=>l.contains (js.getD i 0)).map (·+2)
def pr2 {α:Type}(d:D) (f:D->D->Res α):Res α :=
 match d with
 | .tuple [a,b]=>f a b
 | _=>.no
theorem wP8 {α:Type}{d:D}{f:D->D->Res α}{r:α}(h:pr2 d f=.ok r):∃a b,d=.tuple [a,b]/\f a b=.ok r:=by
 unfold pr2 at h
 split at h
 ·exact⟨_,_,rfl,h⟩
 ·cases h
def eComp2 (mi:Ev->Res (List D)) (mt:Ev->Res Bool) (me:Ev->Res D) (js:List Nat):Ev->Res D:=fun ρ=>(mi ρ).bind fun ds=>if ds.length<=sizeLine then (compM (fun d=>pr2 d fun x y=>mt (cEnv2 ρ js x y)) (fun d=>pr2 d fun x y=>me (cEnv2 ρ js x y)) ds).bind fun out=>.ok (.list out) else .no
theorem xQ3 {js l:List Nat}{i:Nat}(h:i∈capt2 js l):∃k,i=k+2/\k<js.length/\js.getD k 0∈l:=by
 unfold capt2 at h
 obtain⟨k,hk,rfl⟩:=List.mem_map.mp h
 obtain⟨h1,h2⟩:=List.mem_filter.mp hk
 exact⟨k,rfl,List.mem_range.mp h1,List.contains_iff_mem.mp h2⟩
theorem yT4 {js l:List Nat}{k j:Nat}(h:js[k]?=some j) (hl:j∈l):k+2∈capt2 js l:=by
 unfold capt2
 refine List.mem_map.mpr ⟨k,List.mem_filter.mpr ⟨List.mem_range.mpr ?_,?_⟩,rfl⟩
 ·exact (List.getElem?_eq_some_iff.mp h).1
 ·rw[List.getD_eq_getElem?_getD,h]
  exact List.contains_iff_mem.mpr hl
theorem zA2 {ρ:Ev}{js:List Nat}{x y d:D}{k:Nat}(h:(cEnv2 ρ js x y)[k+2]?=some (some d)):∃j,js[k]?=some j/\ρ[j]?=some (some d):=by
 unfold cEnv2 at h
 rw[List.getElem?_cons_succ,List.getElem?_cons_succ,List.getElem?_map] at h
 cases e:js[k]? with
 | none=>rw[e] at h;cases h
 | some j =>
  rw[e] at h
  refine⟨j,rfl,?_⟩
  have h:(ρ[j]?).join=some d:=Option.some.inj h
  cases q:ρ[j]? with
  | none=>rw[q] at h;cases h
  | some z=>rw[q] at h;rw[show z=some d from h]
theorem qE {σ:St}{js:List Nat}{v0 w0:Option V}{v:V}{k j:Nat}(h:js[k]?=some j) (e:σ[j]?=some (some v)):(compSt2 σ js v0 w0)[k+2]?=some (some v):=by
 unfold compSt2
 rw[List.getElem?_cons_succ,List.getElem?_cons_succ,List.getElem?_map,h]
 show some ((σ[j]?).join)=_
 rw[e]
 rfl
def cW2 (Oc:Wd) (Ob:Addr->Prop) (σ:St) (js:List Nat):Wd:=⟨Uni Oc Ob,fun i=>adr ((compSt2 σ js none none)[i]?)⟩
theorem Rel.comp2 {Oc:Wd}{Ob:Addr->Prop}{om ln:List Nat}{σ:St}{H:Hp}{ρ:Ev}{js:List Nat}{x y:V}{d d2:D}(R:Rel Oc Ob om ln σ H ρ) (r:Rep H (Uni Oc Ob) x d) (r2:Rep H (Uni Oc Ob) y d2):Rel (cW2 Oc Ob σ js) (fun _=>False) [] (capt2 js (om++ln)) (compSt2 σ js (some x) (some y)) H (cEnv2 ρ js d d2) where
 len:=by unfold compSt2 cEnv2;simp
 val:=fun i d' e _ hl=>by
  cases i with
  | zero =>
   cases e
   exact⟨x,rfl,r.less fun b z=>z.elim id fun z=>z.elim⟩
  | succ k =>
   cases k with
   | zero =>
   cases e
   exact⟨y,rfl,r2.less fun b z=>z.elim id fun z=>z.elim⟩
   | succ k =>
   obtain⟨j,e1,e2⟩:=zA2 e
   have h1:j∉om:=fun z=>hl (yT4 e1 (List.mem_append_left _ z))
   have h2:j∉ln:=fun z=>hl (yT4 e1 (List.mem_append_right _ z))
   obtain⟨v,q,rv⟩:=R.val j d' e2 h1 h2
   exact⟨v,qE e1 q,rv.less fun b z=>z.elim id fun z=>z.elim⟩
 own:=fun i d' e h=>nomatch h
 lnt:=fun i d' e _ hl=>by
  obtain⟨k,rfl,hk,hj⟩:=xQ3 hl
  obtain⟨j,e1,e2⟩:=zA2 e
  rw[List.getD_eq_getElem?_getD,e1,Option.getD_some] at hj
  by_cases ho:j∈om
  ·obtain⟨v,q,a,ys,ds,z1,z2,z3,z4,z5⟩:=R.own j d' e2 ho
   have ea:(cW2 Oc Ob σ js).la (k+2)=a:=by show adr _=a;rw[qE e1 q,z1];rfl
   exact⟨v,qE e1 q,ys,ds,by rw[ea];exact z1,z2,by rw[ea];exact z3,by rw[ea];exact .inr z4,z5.less fun b z=>z.elim id fun z=>z.elim⟩
  ·have hl2:j∈ln:=(List.mem_append.mp hj).elim (fun z=>absurd z ho) id
   obtain⟨v,q,ys,ds,z1,z2,z3,z4,z5⟩:=R.lnt j d' e2 ho hl2
   have ea:(cW2 Oc Ob σ js).la (k+2)=Oc.la j:=by show adr _=_;rw[qE e1 q,z1];rfl
   exact⟨v,qE e1 q,ys,ds,by rw[ea];exact z1,z2,by rw[ea];exact z3,by rw[ea];exact .inl z4,z5.less fun b z=>z.elim id fun z=>z.elim⟩
 inj:=fun i j di dj a _ _ h=>nomatch h
 oh:=fun a z=>R.oh a (z.elim id fun z=>z.elim)
 ap:=fun a z=>z.elim
abbrev cC2 (C:Ct) (N:List Str) (scope:Scope) (A:Addr) (fp:List Addr) (s₂:Shared) (H:Hp) (js:List Nat):Ct:=⟨cxComp C.X N scope A fp s₂ H,fun _ _=>False,[],capt2 js (C.om++C.ln)⟩
theorem xF5 {K:KFr}{H:Hp}{O:Addr->Prop}{x:V}{a b:D}(r:Rep H O x (.tuple [a,b])):∃ta x1 x2,x=.ref ta/\SqT K H ta [x1,x2]/\Rep H O x1 a/\Rep H O x2 b:=by
 cases r with
 | tup r n t =>
  cases t with
  | cons h1 t =>
   cases t with
   | cons h2 t =>
    cases t
    exact⟨_,_,_,rfl,.inl r,h1,h2⟩
theorem xE9 {C:Ct}{elt iter:Expr}{ifs:List Expr}{sc0 scope:Scope}{N0:List Str}{px py tp pos:Pos}{k1:Nat}{xt yt:Str}{fs:List Str}{js:List Nat}{mi:Ev->Res (List D)}{mt:Ev->Res Bool}{me:Ev->Res D}(S:CScope2 sc0 scope N0 xt yt fs js) (h0:C.X.env.scope=sc0) (hN0:C.X.N=N0) (hc:C.X.calm=true)
  (hi:RIc C (.Tuple [.Name xt px,.Name yt py] k1 tp) iter mi) (ht:∀A fp s₂ H,RTs (cC2 C (xt::yt::fs) scope A fp s₂ H js) ifs mt) (he:∀A fp s₂ H,RE (cC2 C (xt::yt::fs) scope A fp s₂ H js) .cl elt me)
  (hs:autoParam (∀x,foldedSetIterable iter C.X.env x=pure x) qU._auto_1) :
  RE C .new (.ListComp elt [⟨.Tuple [.Name xt px,.Name yt py] k1 tp,iter,ifs,0⟩] scope pos) (eComp2 mi mt me js):=by
 obtain⟨wi,pi,qi⟩:=hi
 refine⟨_,xE5 (tt:=fun A fp s H=>Classical.choose (ht A fp s H)) (te:=fun A fp s H=>Classical.choose (he A fp s H)) S h0 hN0 hc pi (fun A fp s H=>(Classical.choose_spec (ht A fp s H)).1) (fun A fp s H=>(Classical.choose_spec (he A fp s H)).1) hs,fun Oc Ob σ H ρ Q R h => ?_⟩
 refine qi Oc Ob σ H ρ _ R (Res.zO (Res.zT h) (fun ds _ k J H1 s1 wk => ?_) fun _ z=>z)
 intro A fp s₂ H₂
 have qt:=(Classical.choose_spec (ht A fp s₂ H₂)).2
 have qe:=(Classical.choose_spec (he A fp s₂ H₂)).2
 have k:(if ds.length<=sizeLine then (compM (fun d=>pr2 d fun x y=>mt (cEnv2 ρ js x y)) (fun d=>pr2 d fun x y=>me (cEnv2 ρ js x y)) ds).bind fun out=>Res.ok (PyData.list out) else .no).post (fun d=>∀v H',Same H H'->VR .new Oc Ob H H' v d->Q v H') (fun c=>∀H',Same H H'->C.XE c H'):=k
 by_cases hlen:ds.length<=sizeLine
 ·rw[if_pos hlen] at k
  generalize hT:(fun d=>pr2 d fun x y=>mt (cEnv2 ρ js x y))=T at k
  generalize hF:(fun d=>pr2 d fun x y=>me (cEnv2 ρ js x y))=F at k
  cases ec:compM T F ds with
  | no=>rw[ec] at k;exact k.elim
  | ex c =>
   exfalso
   have nex:∀xs c,compM T F xs ≠ .ex c:=by
    intro xs
    induction xs with
    | nil=>intro c z;cases z
    | cons x xs ih =>
     intro c z
     rw[compM] at z
     cases e1:noEx (T x) with
     | no=>rw[e1] at z;cases z
     | ex c'=>cases hx:T x <;> rw[hx] at e1 <;> cases e1
     | ok b =>
      rw[e1,Res.bind_ok] at z
      cases b with
      | false=>exact ih c z
      | true =>
       simp only[if_true] at z
       cases e2:noEx (F x) with
       | no=>rw[e2] at z;cases z
       | ex c'=>cases hx:F x <;> rw[hx] at e2 <;> cases e2
       | ok y =>
        rw[e2,Res.bind_ok] at z
        cases e3:compM T F xs with
        | no=>rw[e3] at z;cases z
        | ex c'=>exact ih c' e3
        | ok ys=>rw[e3] at z;cases z
   exact nex ds c ec
  | ok out =>
   rw[ec,Res.bind_ok] at k
   refine⟨fun i m acc H=>m=ds.length-i/\i<=ds.length/\Same H1 H/\∃done rest,Reps H (Uni Oc Ob) acc done/\acc.length<=i/\compM T F (ds.drop i)=.ok rest/\done++rest=out,⟨_,rfl,Nat.zero_le _,Same.refl _,[],out,.nil,Nat.le_refl _,ec,rfl⟩,?_⟩
   rintro i m acc H2 ⟨rfl,hi,s2,done,rest,ra,la,er,eo⟩
   obtain⟨w1,w2⟩:=wk H2 s2 i
   have R2:=(R.same s1).same s2
   by_cases hlt:i<ds.length
   ·obtain⟨go,yl⟩:=w1 ds[i] (List.getElem?_eq_getElem hlt)
    have ed:ds.drop i=ds[i]::ds.drop (i+1):=List.drop_eq_getElem_cons hlt
    rw[ed,compM] at er
    have nxt:∀(acc':List V) (H3:Hp) (done' rest':List D),Same H2 H3->Reps H3 (Uni Oc Ob) acc' done'->acc'.length<=i+1->compM T F (ds.drop (i+1))=.ok rest'->done'++rest'=out ->
      ∃m',m'<ds.length-i/\(m'=ds.length-(i+1)/\i+1<=ds.length/\Same H1 H3/\∃done rest,Reps H3 (Uni Oc Ob) acc' done/\acc'.length<=i+1/\compM T F (ds.drop (i+1))=.ok rest/\done++rest=out) :=
     fun acc' H3 done' rest' s3 r3 l3 c3 o3=>⟨_,by bv_omega,rfl,hlt,s2.trans s3,done',rest',r3,l3,c3,o3⟩
    refine .inr ⟨go,fun acc' H'=>∃m',m'<ds.length-i/\(m'=ds.length-(i+1)/\i+1<=ds.length/\Same H1 H'/\∃done rest,Reps H' (Uni Oc Ob) acc' done/\acc'.length<=i+1/\compM T F (ds.drop (i+1))=.ok rest/\done++rest=out),fun acc' H' z=>z,fun x H3 hy => ?_⟩
    obtain⟨s3,rx⟩:=yl x H3 hy
    cases e1:noEx (T ds[i]) with
    | no=>rw[e1] at er;cases er
    | ex c=>rw[e1] at er;cases er
    | ok b =>
     rw[e1,Res.bind_ok] at er
     have t0:=zK9 e1
     rw[<-hT] at t0
     obtain⟨da,db,ed2,t1⟩:=wP8 t0
     rw[ed2] at rx
     obtain⟨ta,x1,x2,rfl,hsq,rx1,rx2⟩:=xF5 (K:=C.X.K) rx
     have R3:=(R2.same s3).comp2 (js:=js) rx1 rx2
     refine⟨ta,x1,x2,rfl,hsq,?_⟩
     refine qt _ _ _ H3 _ _ R3 ?_
     show (mt (cEnv2 ρ js da db)).post _ _
     rw[t1]
     intro H4 s4
     cases b with
     | false=>exact iteF (nxt acc H4 done rest (s3.trans s4) (ra.same (s3.trans s4)) (by bv_omega) er eo)
     | true =>
      refine iteT ?_
      simp only[if_true] at er
      cases e2:noEx (F ds[i]) with
      | no=>rw[e2] at er;cases er
      | ex c=>rw[e2] at er;cases er
      | ok y =>
       rw[e2,Res.bind_ok] at er
       have t2:me (cEnv2 ρ js da db)=.ok y:=by
        have t2:=zK9 e2
        rw[<-hF,ed2] at t2
        exact t2
       refine qe _ _ _ H4 _ _ (R3.same s4) ?_
       show (me (cEnv2 ρ js da db)).post _ _
       rw[t2]
       intro v H5 s5 rv
       refine⟨by bv_omega,?_⟩
       obtain⟨ys,e3⟩:∃ys,compM T F (ds.drop (i+1))=.ok ys:=by
        cases e3:compM T F (ds.drop (i+1)) with
        | no=>rw[e3] at er;cases er
        | ex c=>rw[e3] at er;cases er
        | ok ys=>exact⟨ys,rfl⟩
       rw[e3,Res.bind_ok] at er
       cases er
       have rv':Rep H5 (Uni Oc Ob) v y:=Rep.less rv fun b z=>.inl z
       refine nxt (acc ++ [v]) H5 (done ++ [y]) ys ((s3.trans s4).trans s5) ((ra.same ((s3.trans s4).trans s5)).append (.one rv')) (by rw[List.length_append,List.length_singleton];bv_omega) e3 ?_
       rw[List.append_assoc]
       exact eo
   ·have ei:i=ds.length:=by bv_omega
    subst ei
    refine .inl ⟨w2 (Nat.le_refl _),fun p hp => ?_⟩
    rw[List.drop_length] at er
    cases er
    rw[List.append_nil] at eo
    subst eo
    exact k _ _ ((s1.trans s2).trans (Same.new hp)) (wE (s1.trans s2) hp ra)
 ·rw[if_neg hlen] at k
  exact k.elim
theorem RIo.c {C:Ct}{tg iter:Expr}{m:Ev->Res (List D)}(h:RIo C tg iter m):RIc C tg iter m:=by
 obtain⟨wi,p,q⟩:=h
 exact⟨wi,p,fun Oc Ob σ H ρ W R h=>q Oc Ob σ H ρ W R (Res.zO h (fun ds _ k J H1 s w=>k J H1 s fun H2 s2=>w H2 Ob (Same.frm s2) (fun b z=>.inl z) (R.same (s.trans s2)).oh) fun _ z=>z)⟩
section
variable {X:Cx}{pins:List (Addr×Obj)}{σ:St}{H:Hp}{s:Shared}{h':Heap}
end
structure Apart5 (z TI TO i1 i2:Addr):Prop where
 TIz:TI≠z
 TOz:TO≠z
 i1z:i1≠z
 i2z:i2≠z
 TITO:TI≠TO
 TIi1:TI≠i1
 TIi2:TI≠i2
 TOi1:TO≠i1
 TOi2:TO≠i2
 i12:i1≠i2
end L2.L3
namespace L2
open PySem PySem.Spec PyProof.Rows
end L2
namespace L2.L3
open PySem PySem.Spec PyProof.Rows
variable [CN]
end L2.L3
namespace L2.L3
open PySem
variable [CN]
theorem xL5 (mi:Ev->Res (List D)) (mt:Ev->Res Bool) (me:Ev->Res D) (js:List Nat) (ρ:Ev):eComp2 mi mt me js ρ=(mi ρ).bind fun ds=>if ds.length<=sizeLine then (compM (fun d=>pr2 d fun x y=>mt (cEnv2 ρ js x y)) (fun d=>pr2 d fun x y=>me (cEnv2 ρ js x y)) ds).bind fun out=>.ok (.list out) else .no:=rfl
theorem xM7 {mi:Ev->Res (List D)}{t:Ev->Res Bool}{me:Ev->Res D}{js:List Nat}{ρ:Ev}{α:Type}(A B:α->D) (p:α->Bool) (q:α->D) (xs:List α) (h:mi ρ=.ok (xs.map fun x=>PyData.tuple [A x,B x])) (hl:xs.length<=1000)
  (ht:∀x∈xs,t (cEnv2 ρ js (A x) (B x))=.ok (p x)) (hf:∀x∈xs,p x=true->me (cEnv2 ρ js (A x) (B x))=.ok (q x)):eComp2 mi t me js ρ=.ok (.list ((xs.filter p).map q)):=by
 rw[xL5,h,Res.bind_ok,xZ7 (by rw[List.length_map];exact hl),zL1 (fun x=>PyData.tuple [A x,B x]) p q xs (fun x hx=>ht x hx) (fun x hx hp=>hf x hx hp)]
 rfl
theorem xU2 {mi:Ev->Res (List D)}{me:Ev->Res D}{js:List Nat}{ρ:Ev}{α:Type}(A B:α->D) (q:α->D) (xs:List α) (h:mi ρ=.ok (xs.map fun x=>PyData.tuple [A x,B x])) (hl:xs.length<=1000)
  (hf:∀x∈xs,me (cEnv2 ρ js (A x) (B x))=.ok (q x)):eComp2 mi tYes me js ρ=.ok (.list (xs.map q)):=by
 rw[xM7 A B (fun _=>true) q xs h hl (fun _ _=>rfl) (fun x hx _=>hf x hx),List.filter_eq_self.mpr fun _ _=>rfl]
end L2.L3
namespace L2.L3
open PySem PyProof.Rows
variable [CN]
section
variable {X:Cx}
end
def revL:D->Option D
 | .list ds=>some (.list ds.reverse)
 | _=>none
def eRevL (m:Ev->Res D):Ev->Res D:=fun ρ=>(m ρ).bind fun d=>Res.lft (revL d)
theorem xI1 (m:Ev->Res D) (ρ:Ev):eRevL m ρ=(m ρ).bind fun d=>Res.lft (revL d):=rfl
end L2.L3
namespace HT
open PySem PyProof.Rows
section
variable {prog:Program}{w:World}{A:Around}{E:Value->Shared->Prop}{s:Shared}
end
end HT
namespace L2.L3
open PySem PyProof.Rows
variable [CN]
section
variable {X:Cx}
end
end L2.L3
namespace L2.L3
open PySem PySem.Spec PyProof.Rows
variable [CN]
def popV (ys:List D):D->Option (D×List D)
 | .int i=>if 0<=i/\i<ys.length/\i<2 ^ 63 then some (ys.getD i.toNat .none,ys.eraseIdx i.toNat) else none
 | _=>none
def sAP (i j:Nat) (me:Ev->Res D):Ev->Res Out:=fun ρ=>(eV i ρ).bind fun d=>(Res.lft (lstD d)).bind fun xs=>(eV j ρ).bind fun d2=>(Res.lft (lstD d2)).bind fun ys=>(me ρ).bind fun n=>(Res.lft (popV ys n)).bind fun vy=>(Res.lft (appD xs [vy.1])).bind fun zs=>.ok (.nx ((ρ.set j (some (.list vy.2))).set i (some (.list zs))))
theorem wJ9 (i j:Nat) (me:Ev->Res D) (ρ:Ev):sAP i j me ρ=(eV i ρ).bind fun d=>(Res.lft (lstD d)).bind fun xs=>(eV j ρ).bind fun d2=>(Res.lft (lstD d2)).bind fun ys=>(me ρ).bind fun n=>(Res.lft (popV ys n)).bind fun vy=>(Res.lft (appD xs [vy.1])).bind fun zs=>.ok (.nx ((ρ.set j (some (.list vy.2))).set i (some (.list zs)))):=rfl
theorem xL2 {C:Ct}{fr:Bool}{pos:Pos}(i j:Nat){x y:Str}{e:Expr}{me:Ev->Res D}{p1 p2 a1 a2 c1 c2:Pos}(he:RE C .cl e me)
  (hN:autoParam (C.X.N[i]?=some x) zU._auto_1) (ho:autoParam (C.om.contains i=true) zU._auto_1) (hv:autoParam (Vis C.X.env.scope x) jU._auto_1) (hd:autoParam ((x == ("__debug__":Str))=false) yX._auto_1) (hcd:autoParam ((x == ("__classdict__":Str))=false) yX._auto_1)
  (kN:autoParam (C.X.N[j]?=some y) zU._auto_1) (ko:autoParam (C.om.contains j=true) zU._auto_1) (kv:autoParam (Vis C.X.env.scope y) jU._auto_1) (kd:autoParam ((y == ("__debug__":Str))=false) yX._auto_1) (kcd:autoParam ((y == ("__classdict__":Str))=false) yX._auto_1)
  (hij:autoParam (j≠i) yX._auto_1)
  (kbase:autoParam (attributeBase (.Name y p2) "pop" C.X.env (eval (.Name y p2) C.X.env)=eval (.Name y p2) C.X.env) zU._auto_1)
  (kfew:autoParam (((backTo c2 (starEach [e] C.X.env)).all (fun x=>!x.1)&&(backToKw c2 (keywordEach [] C.X.env)).all (fun x=>x.1.isSome)&&decide ([e].length+([]:List Keyword).length+(if ([]:List Keyword).isEmpty then 0 else 1)<30))=true) zU._auto_1)
  (kline:autoParam ((a2.endLine == c2.line)=true) zU._auto_1) (ks:autoParam (starEach [e] C.X.env=(false,eval e C.X.env)::starEach [] C.X.env) zU._auto_1) (kplain:autoParam ((backTo c2 (starEach [] C.X.env)).any (·.1)=false) zU._auto_1)
  (hbase:autoParam (attributeBase (.Name x p1) "append" C.X.env (eval (.Name x p1) C.X.env)=eval (.Name x p1) C.X.env) zU._auto_1)
  (hfew:autoParam (((backTo c1 (starEach [.Call (.Attribute (.Name y p2) "pop" a2) [e] [] c2] C.X.env)).all (fun x=>!x.1)&&(backToKw c1 (keywordEach [] C.X.env)).all (fun x=>x.1.isSome)&&decide ([Expr.Call (.Attribute (.Name y p2) "pop" a2) [e] [] c2].length+([]:List Keyword).length+(if ([]:List Keyword).isEmpty then 0 else 1)<30))=true) zU._auto_1)
  (hline:autoParam ((a1.endLine == c1.line)=true) zU._auto_1) (hs:autoParam (starEach [.Call (.Attribute (.Name y p2) "pop" a2) [e] [] c2] C.X.env=(false,eval (.Call (.Attribute (.Name y p2) "pop" a2) [e] [] c2) C.X.env)::starEach [] C.X.env) zU._auto_1) (hplain:autoParam ((backTo c1 (starEach [] C.X.env)).any (·.1)=false) zU._auto_1)
  (hsw:autoParam (swapsWith (.Call (.Attribute (.Name x p1) "append" a1) [.Call (.Attribute (.Name y p2) "pop" a2) [e] [] c2] [] c1) none pos.line C.X.env=pure false) zU._auto_1) :
  RS C fr (.Expr (.Call (.Attribute (.Name x p1) "append" a1) [.Call (.Attribute (.Name y p2) "pop" a2) [e] [] c2] [] c1) pos) (sAP i j me):=by
 obtain⟨t,p,q⟩:=he
 refine⟨_,zI2 (zJ3 PySem.F.plainAttrs_list PySem.F.slot_list_append PySem.F.type_list_append uJ (jX hN hv hd hcd) (qP (zJ3 PySem.F.plainAttrs_list PySem.F.slot_list_pop PySem.F.type_list_pop xI7 (jX kN kv kd kcd) (qP p hJ ks) kbase kfew kline ks kplain) hJ hs) hbase hfew hline hs hplain) hsw,fun Oc Ob σ H ρ E R h => ?_⟩
 obtain⟨d,ed,k⟩:=vK (Res.zT h)
 obtain⟨xd,ex,k⟩:=Res.zF (Res.zT k)
 obtain rfl:=vF ex
 obtain⟨v,qv,l,ys,ds,rfl,e2,e3,e4,e5⟩:=R.own i _ ed (wR ho)
 cases e2
 obtain⟨d2,ed2,k⟩:=vK (Res.zT k)
 obtain⟨yd,ex2,k⟩:=Res.zF (Res.zT k)
 obtain rfl:=vF ex2
 obtain⟨v2,qv2,l2,zs,es,rfl,f2,f3,f4,f5⟩:=R.own j _ ed2 (wR ko)
 cases f2
 refine⟨_,qv,.inl ⟨rfl,_,SqL.of e3⟩,_,qv2,.inl ⟨rfl,_,SqL.of f3⟩,q Oc Ob σ H ρ _ R (Res.zO (Res.zT k) (fun n hn k w H' s r => ?_) fun c z H' s=>z H' (Same.frm s))⟩
 clear hn
 obtain⟨⟨pv,yd'⟩,ep,k⟩:=Res.zF (Res.zT k)
 obtain⟨xd',ea,k⟩:=Res.zF (Res.zT k)
 unfold popV at ep
 split at ep
 ·rename_i m
  split at ep
  ·rename_i hb
   cases ep
   cases r
   have hlen:=f5.length
   have hi:m.toNat<zs.length:=by bv_omega
   refine⟨l2,zs,m,m.toNat,zs[m.toNat],rfl,rfl,s _ _ f3,by bv_omega,hb.2.2,?_,List.getElem?_eq_getElem hi,?_⟩
   ·unfold seqIndex?
    simp only[show ¬m<0 by bv_omega,if_false]
    rw[if_pos (by simp;bv_omega)]
   have f6:=f5.same s
   have R1:=(R.same s).write (wR ko) ed2 qv2 (s _ _ f3) f4 (f6.erase m.toNat)
   have edi:(ρ.set j (some (.list (yd.eraseIdx m.toNat))))[i]?=some (some (.list xd)):=by rw[List.getElem?_set_ne hij];exact ed
   obtain⟨v',qv',l',ys',ds',rfl,g2,g3,g4,g5⟩:=R1.own i _ edi (wR ho)
   cases g2
   have el:l'=l:=by
    rw[qv] at qv'
    cases qv'
    rfl
   subst el
   unfold appD at ea
   simp only at ea
   split at ea
   ·rename_i hz
    cases ea
    have rv0:Rep H' (Uni Oc Ob) zs[m.toNat] (yd.getD m.toNat .none):=by
     obtain⟨d',hd',rd'⟩:=f6.of (List.getElem?_eq_getElem hi)
     rw[List.getD,hd']
     exact rd'
    have rv:Rep (upd H' l2 (.lst (zs.eraseIdx m.toNat))) (Uni Oc Ob) zs[m.toNat] (yd.getD m.toNat .none):=rv0.keep (fun b o e n=>by rw[yU (fun z=>n (by subst z;exact .inr f4))];exact e) fun _ _ z=>z
    refine⟨l',ys',_,rfl,rfl,g3,by rw[g5.length];exact hz,?_⟩
    refine k _ _ Ob (R1.write (wR ho) edi qv' g3 g4 (g5.append (.one rv))) (fun b o e n => ?_) fun b z=>.inl z
    rw[yU (fun z=>n (by subst z;exact g4)),yU (fun z=>n (by subst z;exact f4))]
    exact s b o e
   ·cases ea
  ·cases ep
 ·cases ep
section
variable {X:Cx}
def isI' (i:Int):Value->Bool
 | .int a _=>a == i
 | _=>false
def rRemI:V->List V->Hp->VK->Prop:=fun x vs H Q=>∃(l:Addr) (ns:List Int) (i:Int) (j:Nat),x=.ref l/\vs=[.int i]/\H l=some (.lst (ns.map V.int))/\ns[j]?=some i/\(∀m,m<j->ns[m]?≠some i)/\Q .non (upd H l (.lst ((ns.eraseIdx j).map V.int)))
theorem kG {α β:Type}(f:α->β):∀(l:List α) (m:Nat),(l.map f).eraseIdx m=(l.eraseIdx m).map f
 | [],_=>rfl
 | _::_,0=>rfl
 | a::l,m+1=>congrArg (f a :: ·) (kG f l m)
theorem zB6:∀{xs:List V}{us:List Value}(j:Nat),Vals xs us->Vals (xs.eraseIdx j) (us.eraseIdx j)
 | _,_,_,.nil=>.nil
 | _,_,0,.cons _ t=>t
 | _,_,j+1,.cons a t=>.cons a (zB6 j t)
theorem xE8 {ns:List Int}{us:List Value}(r:Vals (ns.map V.int) us){m:Nat}{u:Value}(h:us[m]?=some u):∃a t,ns[m]?=some a/\u=.int a t:=by
 have hl:=r.length
 have hm:m<ns.length:=by
  have:=(List.getElem?_eq_some_iff.mp h).1
  rw[List.length_map] at hl
  bv_omega
 obtain⟨u',hu,ru⟩:=r.get (show (ns.map V.int)[m]?=some (.int ns[m]) by rw[List.getElem?_map,List.getElem?_eq_getElem hm];rfl)
 rw[h] at hu
 cases hu
 obtain⟨t,rfl⟩:=ru
 exact⟨ns[m],t,List.getElem?_eq_getElem hm,rfl⟩
theorem wW8:MtM X "list.remove" rRemI:=by
 intro pins s σ H x vs v us Q I rx rv h
 obtain⟨l,ns,i,j,rfl,rfl,hH,hj,no,q⟩:=h
 cases rx
 obtain⟨u,rfl,t,rfl⟩:=rv.one
 obtain⟨z,its,n,r,hl,e⟩:=I.lstM hH
 have hlen:=r.length
 have hjl:j<its.length:=by
  have:=(List.getElem?_eq_some_iff.mp hj).1
  rw[List.length_map] at hlen
  bv_omega
 have at_:∀m (hm:m<its.toArray.size),∃a t,ns[m]?=some a/\its.toArray[m]=.int a t:=fun m hm=>by
  have hm':m<its.length:=by simpa using hm
  obtain⟨a,t,h1,h2⟩:=xE8 r (List.getElem?_eq_getElem hm')
  exact⟨a,t,h1,by simpa using h2⟩
 refine call_meets F.slot_list_remove ⟨_,e,rfl⟩ F.entry_list_remove (F.args_list_remove_2 _ _) (MeetsSeq.list_remove l its.toArray n (.int i t) (isI' i) (fun y hy => ?_) j (by simpa using hjl) ?_ (fun m hm hlt => ?_) (by rw[List.size_toArray];bv_omega)) ⟨e,?_⟩
 ·obtain⟨m,hm,rfl⟩:=Array.mem_iff_getElem.mp hy
  obtain⟨a,t',_,e2⟩:=at_ m hm
  rw[e2]
  exact MeetsSeq.EqGives.int a i t' t
 ·obtain⟨a,t',e1,e2⟩:=at_ j (by simpa using hjl)
  rw[e2]
  rw[hj] at e1
  cases e1
  simp[isI']
 ·obtain⟨a,t',e1,e2⟩:=at_ m hm
  rw[e2]
  have:a≠i:=fun z=>no m hlt (by rw[e1,z])
  simp[isI',this]
 ·have rr:=zB6 j r
  rw[kG] at rr
  refine⟨.non,_,I.lset (its':=its.eraseIdx j) hH e (by simp) rr ?_,rfl,q⟩
  rw[List.length_map]
  rw[List.length_map] at z
  exact Nat.le_trans (List.length_eraseIdx_le ..) z
end
def remD (xs:List D):List D->Option (List D)
 | [.int i]=>(intsOf xs).bind fun ns=>(ns.findIdx? fun a=>a == i).map fun j=>(ns.eraseIdx j).map PyData.int
 | _=>none
theorem wN6:PrM rRemI remD:=by
 intro O H l xs vs xd ad ds' Q hl rx ra e k
 unfold remD at e
 split at e
 ·rename_i i
  obtain⟨ns,e1,e⟩:=Option.bind_eq_some_iff.mp e
  obtain⟨j,ej,rfl⟩:=Option.map_eq_some_iff.mp e
  obtain⟨v,rfl,rv⟩:=Reps.one' ra
  cases rv
  have ex:xd=ns.map PyData.int:=fM e1
  subst ex
  have hx:=rx.ints
  subst hx
  obtain⟨hj,h1,h2⟩:=List.findIdx?_eq_some_iff_getElem.mp ej
  refine⟨l,ns,i,j,rfl,rfl,hl,?_,fun m hm z => ?_,k _ ?_⟩
  ·rw[List.getElem?_eq_getElem hj]
   simpa using h1
  ·have:=h2 m hm
   have hm':m<ns.length:=by bv_omega
   rw[List.getElem?_eq_getElem hm'] at z
   simp at this
   exact this (Option.some.inj z)
  ·have r2:=rx.erase j
   rw[kG,kG] at r2
   exact r2
 ·cases e
end L2.L3
namespace HT
open PySem PyProof.Rows
section
open PySem.SeqAt
open PySem.AutoSeq1 (wpAny_loadPart')
open PySem.MeetsSeq PySem.MeetsSeq2 PySem.MeetsSeq3
end
section
variable {prog:Program}{w:World}{A:Around}{E:Value->Shared->Prop}{s:Shared}
end
end HT
namespace L2.L3
open PySem PySem.Spec PyProof.Rows
variable [CN]
section
variable {X:Cx}
end
end L2.L3
namespace L2.L3
open PySem PyProof.Rows
variable [CN]
section
variable {X:Cx}
end
end L2.L3
namespace L2.L3
universe u
theorem ls0 {α:Type u}{P:List α->Prop}(h:P []):∀us:List α,us.length=0->P us:=fun us e=>by
 rw[List.eq_nil_of_length_eq_zero e]
 exact h
theorem lsS {α:Type u}{P:List α->Prop}{n:Nat}(h:∀a us,us.length=n->P (a::us)):∀us:List α,us.length=n+1->P us:=fun us e=>by
 cases us with
 | nil=>cases e
 | cons a us=>exact h a us (Nat.succ.inj e)
theorem ls1 {α:Type u}{P:List α->Prop}(h:∀a,P [a]):∀us:List α,us.length=1->P us:=lsS fun a=>ls0 (h a)
theorem ls2 {α:Type u}{P:List α->Prop}(h:∀a b,P [a,b]):∀us:List α,us.length=2->P us:=lsS fun a=>ls1 (h a)
theorem ls3 {α:Type u}{P:List α->Prop}(h:∀a b c,P [a,b,c]):∀us:List α,us.length=3->P us:=lsS fun a=>ls2 (h a)
theorem ls4 {α:Type u}{P:List α->Prop}(h:∀a b c d,P [a,b,c,d]):∀us:List α,us.length=4->P us:=lsS fun a=>ls3 (h a)
theorem ls5 {α:Type u}{P:List α->Prop}(h:∀a b c d e,P [a,b,c,d,e]):∀us:List α,us.length=5->P us:=lsS fun a=>ls4 (h a)
end L2.L3
namespace L2.L3
open PySem PySem.Spec PyProof.Rows
variable [CN]
def Raw (B:Heap) (e:Addr) (cls a0:Value) (h:Heap):Prop :=
 h.TracedW B e cls a0\/∃oe vs,h.get? e=some oe/\oe.cls=cls/\oe.data=.fields vs/\vs[1]?=some .none/\vs[0]?=some a0
structure Fl (stk:List Env) (h1:Heap) (H:Hp) (e:Addr) (cls:Value) (B:Heap) (a0:Value) (h:Heap):Prop where
 stays:B.StaysIn h
 newB:B.get? e=none
 frm:h.FunFrames B stk
 raw:Raw B e cls a0 h
 cov:∀b o,h.get? b=some o->b∉frs stk->(h1.get? b≠none\/H b≠none)->B.get? b=some o
def ExcAt (X:Cx) (c:Str) (H:Hp) (e:Value) (s:Shared):Prop :=
 ∃(pins:List (Addr×Obj)) (σ:St) (s1:Shared) (H1:Hp) (a:Addr) (B:Heap) (a0:Value),Inv X pins σ H1 s1/\Inv X pins σ H s/\Un (frs X.stack) [] H1 H s1.heap s.heap/\e=.ref a/\s1.heap.get? a=none/\H a=none/\Fl X.stack s1.heap H a (.ref (CN.ad c)) B a0 s.heap
def CXV (P:Program) (w:World):CXT:=fun outer H s E e s' =>
 ∃(a:Addr) (cls:Value) (B:Heap) (a0:Value) (H':Hp),e=.ref a/\s'.os=s.os/\AllBare s'.gens/\Un (frs outer) [] H H' s.heap s'.heap/\HOk P w H' s'.heap/\s.heap.get? a=none/\H' a=none/\Fl outer s.heap H' a cls B a0 s'.heap/\E cls none H'
theorem zN4 {P:Program}{w:World}{H:Hp}{h:Heap}{a:Addr}{o:HO}(x:ObjOk P w H h a o):∃u,h.get? a=some u:=by
 cases o with
 | lst xs=>exact⟨_,x.2.choose_spec.choose_spec.2⟩
 | tup xs=>obtain⟨_,its,_,ob,e,_⟩:=x;exact⟨ob,e⟩
 | dK kvs=>obtain⟨_,_,_,_,ob,_,_,e,_⟩:=x;exact⟨ob,e⟩
 | dT kvs=>obtain⟨_,_,_,_,ob,_,_,e,_⟩:=x;exact⟨ob,e⟩
 | set S n=>obtain⟨ob,_,_,_,e,_⟩:=x;exact⟨ob,e⟩
 | ins C dx fs=>obtain⟨_,_,_,e,_⟩:=x;exact⟨_,e⟩
 | own y=>exact x
 | xd fs=>obtain⟨_,⟨ob,_,_,e,_⟩,_⟩:=x;exact⟨ob,e⟩
 | rng lo hi=>obtain⟨_,_,_,e⟩:=x;exact⟨_,e⟩
 | frz ob u=>exact⟨ob,x.1⟩
 | tbl ps=>exact⟨_,x⟩
 | met f y=>exact⟨_,x⟩
 | ext φ=>exact x.2.1
theorem xQ5 {P:Program}{w:World}{H:Hp}{h:Heap}{a:Addr}(x:HOk P w H h) (n:H a≠none):∃u,h.get? a=some u:=by
 cases e:H a with
 | none=>exact absurd e n
 | some o=>exact zN4 (x a o e)
theorem yW3 {α:Type}{o:Option α}(h:o≠none):∃x,o=some x:=by
 cases o with
 | none=>exact absurd rfl h
 | some x=>exact⟨x,rfl⟩
theorem yY9 {α:Type}{o:Option α}{x:α}(h:o=some x):o≠none:=by
 rw[h];exact fun z=>nomatch z
theorem xO9 {X:Cx}{c:Str}{H:Hp}{e:Value}{s:Shared}{E:XK}{E2:Value->Shared->Prop}(x:ExcAt X c H e s) (hst:X.stack=X.env::X.outer) (hfr:X.env.frame=some X.env.locals) (hex:X.ex=[]) (hE:E (.ref (CN.ad c)) none H) :
  wpAny (model X.prog X.w) X.A (leaving X.env e) (fun _ s''=>CXV X.prog X.w X.outer X.H₀ X.s₀ E e s'') E2 s:=by
 obtain⟨pins,σ,s1,H1,a,B,a0,I1,I,un,rfl,n1,n2,f⟩:=x
 have noex:∀b:Addr,b∉X.ex:=fun b z=>by rw[hex] at z;cases z
 have hfs:frs X.stack=X.env.locals::X.fs:=by
  rw[hst]
  show List.filterMap _ _=_
  rw[List.filterMap_cons,hfr]
  rfl
 have hfrm:s.heap.FunFrames B (X.env::X.outer):=by rw[<-hst];exact f.frm
 have hA:X.A.frames=some (X.env::X.outer):=by rw[<-hst];exact I.ok.frames
 have oldL:∀b o,X.s₀.heap.get? b=some o->b≠X.env.locals:=fun b o q z=>by
  subst z
  exact absurd (Heap.lt_size q) (Nat.not_lt.mpr I.ok.above)
 have old1:∀b o,X.s₀.heap.get? b=some o->s1.heap.get? b≠none:=fun b o q=>let ⟨_,e⟩:=I1.base.there b o q (noex b);yY9 e
 have key:∀h',Heap.LeftW B (X.env::X.outer) a (.ref (CN.ad c)) a0 s.heap h'->CXV X.prog X.w X.outer X.H₀ X.s₀ E (.ref a) { s with heap:=h' }:=by
  rintro h' ⟨k1,k2,k3,k4⟩
  have kp:∀b o,s.heap.get? b=some o->b∉frs X.stack->(s1.heap.get? b≠none\/H b≠none)->h'.get? b=some o:=fun b o q n z=>k1 b o (f.cov b o q n z)
  have out:∀b,b∉X.fs->b≠X.env.locals->b∉frs X.stack:=fun b n1 n2 z=>by
   rw[hfs] at z
   rcases List.mem_cons.mp z with z | z
   ·exact n2 z
   ·exact n1 z
  have trk:∀b,H b≠none->b∉frs X.stack:=fun b n z=>n (I.stkFree b z)
  refine⟨a,_,B,a0,H,rfl,I.os,I.bare,⟨fun b o q n hb hx => ?_,fun b o q n hb hx => ?_,fun b o q n hx=>I.base.free b o q n (noex b),fun b o q hx => ?_,I.base.tups,I.base.frzs,I.base.tbls⟩,fun b o q => ?_,?_,n2,⟨k1,f.newB,k2.2.2,.inl k3,fun b o q n z => ?_⟩,hE⟩
  ·exact kp b o (I.base.keep b o q n hb (noex b)) (out b hb (oldL b o q)) (.inl (old1 b o q))
  ·obtain⟨sl,e⟩:=I.base.slot b o q n hb (noex b)
   obtain⟨_,o',e',nf⟩:=f.frm.mem (b:=b) (by show b∈frs X.stack;rw[hfs];exact List.mem_cons_of_mem _ hb)
   rw[e] at e'
   cases e'
   obtain⟨sl',e2⟩:=k4 b _ e nf
   exact⟨sl',e2⟩
  ·by_cases hb:b∈frs X.stack
   ·obtain⟨_,o',e',_⟩:=k2.mem (b:=b) (by rw[hst] at hb;exact hb)
    exact⟨o',e'⟩
   ·obtain⟨o',e'⟩:=I.base.there b o q (noex b)
    exact⟨o',kp b o' e' hb (.inl (old1 b o q))⟩
  ·refine (I.hok b o q).stay (fun b' u hb' e => ?_) (fun _ z=>z) fun _ _ z=>z
   have n:H b'≠none:=by
    rcases hb' with rfl | hb'
    ·exact yY9 q
    ·exact yY9 hb'
   exact kp b' u e (trk b' n) (.inr n)
  ·cases q:X.s₀.heap.get? a with
   | none=>rfl
   | some o=>exact absurd n1 (old1 a o q)
  ·have nL:b≠X.env.locals:=by
    rcases z with z | z
    ·obtain⟨o',q'⟩:=yW3 z
     exact oldL b o' q'
    ·intro y
     subst y
     exact z I.free
   have ns:b∉frs X.stack:=out b n nL
   obtain⟨o2,q2⟩:∃o2,s.heap.get? b=some o2:=by
    rcases z with z | z
    ·obtain⟨o',q'⟩:=yW3 z
     exact I.base.there b o' q' (noex b)
    ·exact xQ5 I.hok z
   have z':s1.heap.get? b≠none\/H b≠none:=by
    rcases z with z | z
    ·obtain⟨o',q'⟩:=yW3 z
     exact .inl (old1 b o' q')
    ·exact .inr z
   have hB:=f.cov b o2 q2 ns z'
   have q3:=k1 b o2 hB
   have q4:h'.get? b=some o:=q
   rw[q3] at q4
   cases q4
   exact hB
 rcases f.raw with t | ⟨oe,vs,he,hc,hd,h1,h0⟩
 ·exact wpAny_leaving_nextW hA hfrm hfr t f.stays f.newB key
 ·rw[<-hc] at key
  exact wpAny_leaving_firstW hA hfrm hfr he f.stays f.newB hd h1 h0 key
def Br (C:Ct):Prop:=∀(c:Str) (H:Hp) (e:Value) (s:Shared),ExcAt C.X c H e s->C.XE c H->C.X.xe e s
theorem aQ {C:Ct}(h:∀c H,C.XE c H->False):Br C:=fun c H _ _ _ z=>(h c H z).elim
def wX (C:Ct):XK:=fun v _ H=>∃c,v=.ref (CN.ad c)/\C.XE c H
theorem passX {C:Ct}(hb:Br C):Passes (CXV C.X.prog C.X.w) C.X (wX C):=by
 intro pins σ H s e s' I h
 obtain⟨a,cls,B,a0,H',rfl,os,bare,un,hok,n1,n2,f,c,rfl,z⟩:=h
 exact hb c H' _ s' ⟨pins,σ,s,H,a,B,a0,I,I.call' os un hok bare (fun b z=>by cases z),un,rfl,n1,n2,f⟩ z
def spX (fr:Bool) (F:List D->Res D):Sp:=fun vs H Q E=>∃(ds:List D) (O:Addr->Prop),(∀a,O a->H a≠none)/\Reps H O vs ds/\(F ds).post (fun d=>∀v H',Same H H'->CallOk fr O H H' v d->Q v H') (fun c=>∀H',Same H H'->E (.ref (CN.ad c)) none H')
section
variable {P:Program}{w:World}{K:KFr}{mg:Str->Option Value}{base:Heap}
abbrev bodyX (P:Program) (w:World) (K:KFr) (mg:Str->Option Value) (base:Heap) (N:List Str) (x:Str) (sc:Scope) (f:Addr) (cdv:Value) (A:Around) (outer:List Env) (s:Shared) (H:Hp) (E:XK) (om:List Nat):Ct :=
 ⟨cxOf (CXV P w) P w K mg base N x sc f cdv A outer s H E,fun c H'=>E (.ref (CN.ad c)) none H',om,[]⟩
theorem zQ {N:List Str}{x:Str}{sc:Scope}{f:Addr}{cdv:Value}{A:Around}{outer:List Env}{s:Shared}{H:Hp}{E:XK}{om:List Nat}:Br (bodyX P w K mg base N x sc f cdv A outer s H E om) :=
 fun c H' e s' x h=>xO9 x rfl rfl rfl h
theorem zD {x:Str}{st:Stmt}{f:Addr}{fd:FuncData}{N ps:List Str}{k:Nat}{m:Ev->Res Out}{fr:Bool}(om:List Nat) (F:Fun K x x st f fd) (S:zJ N ps (zN st))
  (hbody:∀(cdv:Value) (A:Around) (outer:List Env) (s:Shared) (H:Hp) (E:XK),Room k (A.deeper (envOfC x (zN st) s.heap.objs.size f cdv))->RSs (bodyX P w K mg base N x (zN st) f cdv A outer s H E om) fr (defBody st) m)
  (hom:autoParam (om.all (fun i=>decide (ps.length<=i))=true) zU._auto_1) :
  FnOk P w K mg base (CXV P w) (k+1) f fd ps (spX fr (runF fr ps.length N.length m)):=by
 have len:∀(vs:List V) (H:Hp) (Q:VK) (E:XK),spX fr (runF fr ps.length N.length m) vs H Q E->vs.length=ps.length:=fun vs H Q E h=>by
  obtain⟨ds,O,oh,r,k⟩:=h
  unfold runF at k
  split at k
  ·rename_i hl
   rw[r.length];exact hl
  ·exact k.elim
 obtain⟨oc,od,kV,doc,pm,an,cdv,ct,osl,rfl,lk,hcd⟩:=F.ex
 refine wG2 lk hcd S len fun A outer s H vs Q E hr h => ?_
 have hvl:=len vs H Q E h
 obtain⟨ds,O,oh,r,k⟩:=h
 have hl:ds.length=ps.length:=by rw[<-r.length];exact hvl
 unfold runF at k
 rw[if_pos hl] at k
 obtain⟨t,p,q⟩:=hbody cdv A outer s H E hr
 refine⟨t,p,q ⟨O,fun _=>0⟩ (fun _=>False) _ H (ds.map some++List.replicate (N.length-ps.length) none) _ ?_ ?_⟩
 ·refine⟨?_,fun i d e _ _ => ?_,fun i d e ho => ?_,fun i d e _ hl=>(nomatch hl),fun i j di dj a ei _ ho _ _ _ => ?_,fun a z=>oh a (z.elim id fun z=>z.elim),fun a z=>z.elim⟩
  ·unfold start
   rw[List.length_append,List.length_append,List.length_map,List.length_map,List.length_replicate,List.length_replicate,hvl,hl]
  ·obtain⟨v,ev,rv⟩:=r.get (zO7 e)
   exact⟨v,xF2 ev,rv.less fun b z=>z.elim id fun z=>z.elim⟩
  ·have h1:=(List.getElem?_eq_some_iff.mp (zO7 e)).1
   have h2:ps.length<=i:=of_decide_eq_true (List.all_eq_true.mp hom i ho)
   bv_omega
  ·have h1:=(List.getElem?_eq_some_iff.mp (zO7 ei)).1
   have h2:ps.length<=i:=of_decide_eq_true (List.all_eq_true.mp hom i ho)
   bv_omega
 ·have same:∀{H':Hp},Frm (fun _=>False) H H'->Same H H':=fun f b o e=>f b o e fun z=>z
  refine Res.zO (Res.zT k) (fun o _ k => ?_) fun c z H' f=>z H' (same f)
  cases o with
  | rt d =>
   intro v H' f rt
   refine k v H' (same f) ?_
   cases fr with
   | false=>exact rt
   | true =>
    obtain⟨a,ys,ds,e1,e2,e3,e4,e5,e6⟩:=rt
    exact⟨a,ys,ds,e1,e2,e3.elim id fun z=>z.elim,e5,e6⟩
  | nx ρ' =>
   cases fr with
   | true=>exact k.elim
   | false=>exact fun σ' H' Ob' R f s=>k .non H' (same f) Rep.non
end
theorem yE1 {C:Ct}{k:Nat}{f:Addr}{fd:FuncData}{ps:List Str}{fr:Bool}{F:List D->Res D}{x:Str}{p pos:Pos}{e:Expr}{es:List Expr}{ms:Ev->Res (List D)}{st:Stmt}(G:FnOk C.X.prog C.X.w C.X.K C.X.mg C.X.base (CXV C.X.prog C.X.w) k f fd ps (spX fr F)) (hh:Has C.X.K C.X.mg x st f fd ps) (hr:Room k C.X.A)
  (hb:Br C) (ha:RArg C true (e::es) ms) (hg:autoParam (Gl C.X x) zU._auto_1) (hdb:autoParam ((x == ("__debug__":Str))=false) yX._auto_1) (he:autoParam (starEach (e::es) C.X.env=(false,eval e C.X.env)::starEach es C.X.env) zU._auto_1) (hpl:autoParam ((backTo pos (starEach es C.X.env)).any (·.1)=false) zU._auto_1) :
  RE C (mdF fr) (.Call (.Name x p) (e::es) [] pos) (eF F ms):=by
 obtain⟨t,pa,q⟩:=ha
 refine⟨_,xX7 G hr hg hh.m hh.F.kp hh.b .nil (passX hb) pa hdb he hpl,fun Oc Ob σ H ρ Q R h => ?_⟩
 refine q Oc Ob σ H ρ _ R (Res.zO (Res.zT h) (fun ds _ k vs H1 s1 r => ?_) fun c z=>z)
 show spX fr F (vs ++ []) H1 Q (wX C)
 rw[List.append_nil]
 refine⟨ds,Uni Oc Ob,(R.same s1).oh,r,Res.zO k (fun d _ k v H' s2 rv => ?_) fun c z H' s2=>⟨c,rfl,z H' (s1.trans s2)⟩⟩
 refine k v H' (s1.trans s2) ?_
 cases fr with
 | false=>exact rv
 | true =>
  obtain⟨a,ys,ds,e1,e2,e3,e4,e5⟩:=rv
  exact⟨a,ys,ds,e1,e2,s1.free e3,e4,e5⟩
theorem xR4 {C:Ct}{k:Nat}{f:Addr}{fd:FuncData}{ps:List Str}{fr:Bool}{F:List D->Res D}{x:Str}{p pos:Pos}{e:Expr}{es:List Expr}{ms:Ev->Res (List D)}{st:Stmt}(G:FnOk C.X.prog C.X.w C.X.K C.X.mg C.X.base (CXV C.X.prog C.X.w) k f fd ps (spX fr F)) (hh:Has C.X.K C.X.mg x st f fd ps) (hr:Room k C.X.A)
  (hb:Br C) (ha:RArg C false (e::es) ms) (hg:autoParam (Gl C.X x) zU._auto_1) (hdb:autoParam ((x == ("__debug__":Str))=false) yX._auto_1) (he:autoParam (starEach (e::es) C.X.env=(false,eval e C.X.env)::starEach es C.X.env) zU._auto_1) (hpl:autoParam ((backTo pos (starEach es C.X.env)).any (·.1)=false) zU._auto_1) :
  RE C (mdF fr) (.Call (.Name x p) (e::es) [] pos) (eFA fr F ms):=by
 obtain⟨t,pa,q⟩:=ha
 refine⟨_,xX7 G hr hg hh.m hh.F.kp hh.b .nil (passX hb) pa hdb he hpl,fun Oc Ob σ H ρ Q R h => ?_⟩
 refine q Oc Ob σ H ρ _ R (Res.zO (Res.zT h) (fun ds _ k vs H1 s1 r => ?_) fun c z=>z)
 show spX fr F (vs ++ []) H1 Q (wX C)
 rw[List.append_nil]
 refine⟨ds,fun b=>Uni Oc Ob b/\¬∃ys,H1 b=some (.lst ys),fun a z=>(R.same s1).oh a z.1,VAs.lent r,Res.zO (Res.zT k) (fun d _ k v H' s2 rv => ?_) fun c z H' s2=>⟨c,rfl,z H' (s1.trans s2)⟩⟩
 have hB:∀b,(∃ys,H1 b=some (.lst ys))->∃ys,H' b=some (.lst ys):=fun b ⟨ys,e⟩=>⟨ys,s2 _ _ e⟩
 by_cases hl:lfT fr d=true
 ·rw[if_pos hl] at k
  refine k v H' (s1.trans s2) ?_
  cases fr with
  | false=>exact Rep.lf hB rv (by cases d <;> exact hl)
  | true =>
   obtain⟨a,ys,ds,e1,rfl,e3,e4,e5⟩:=rv
   have e5':Reps H' (fun b=>(Uni Oc Ob b\/b=a)/\¬∃ys,H1 b=some (.lst ys)) ys ds:=e5.less fun b z=>z.1.elim (fun q=>.inl ⟨q,z.2⟩) .inr
   exact⟨a,ys,ds,e1,rfl,s1.free e3,e4,Reps.lf hB e5' hl⟩
 ·rw[if_neg hl] at k
  exact k.elim
section
variable {C:Ct}{k:Nat}{f:Addr}{fd:FuncData}{ps:List Str}{F:List D->Res D}{x:Str}{p pos:Pos}{e:Expr}{es:List Expr}{ms:Ev->Res (List D)}{st:Stmt}
theorem zP (G:FnOk C.X.prog C.X.w C.X.K C.X.mg C.X.base (CXV C.X.prog C.X.w) k f fd ps (spX false F)) (hh:Has C.X.K C.X.mg x st f fd ps) (hr:Room k C.X.A)
  (hb:Br C) (ha:RArg C true (e::es) ms) (hg:autoParam (Gl C.X x) zU._auto_1) (hdb:autoParam ((x == ("__debug__":Str))=false) yX._auto_1) (he:autoParam (starEach (e::es) C.X.env=(false,eval e C.X.env)::starEach es C.X.env) zU._auto_1) (hpl:autoParam ((backTo pos (starEach es C.X.env)).any (·.1)=false) zU._auto_1) :
  RE C .cl (.Call (.Name x p) (e::es) [] pos) (eF F ms):=yE1 (fr:=false) G hh hr hb ha hg hdb he hpl
theorem yD (G:FnOk C.X.prog C.X.w C.X.K C.X.mg C.X.base (CXV C.X.prog C.X.w) k f fd ps (spX true F)) (hh:Has C.X.K C.X.mg x st f fd ps) (hr:Room k C.X.A)
  (hb:Br C) (ha:RArg C true (e::es) ms) (hg:autoParam (Gl C.X x) zU._auto_1) (hdb:autoParam ((x == ("__debug__":Str))=false) yX._auto_1) (he:autoParam (starEach (e::es) C.X.env=(false,eval e C.X.env)::starEach es C.X.env) zU._auto_1) (hpl:autoParam ((backTo pos (starEach es C.X.env)).any (·.1)=false) zU._auto_1) :
  RE C .new (.Call (.Name x p) (e::es) [] pos) (eF F ms):=yE1 (fr:=true) G hh hr hb ha hg hdb he hpl
theorem yZ9 (G:FnOk C.X.prog C.X.w C.X.K C.X.mg C.X.base (CXV C.X.prog C.X.w) k f fd ps (spX false F)) (hh:Has C.X.K C.X.mg x st f fd ps) (hr:Room k C.X.A)
  (hb:Br C) (ha:RArg C false (e::es) ms) (hg:autoParam (Gl C.X x) zU._auto_1) (hdb:autoParam ((x == ("__debug__":Str))=false) yX._auto_1) (he:autoParam (starEach (e::es) C.X.env=(false,eval e C.X.env)::starEach es C.X.env) zU._auto_1) (hpl:autoParam ((backTo pos (starEach es C.X.env)).any (·.1)=false) zU._auto_1) :
  RE C .cl (.Call (.Name x p) (e::es) [] pos) (eFA false F ms):=xR4 (fr:=false) G hh hr hb ha hg hdb he hpl
end
end L2.L3
namespace L2
open PySem PySem.Spec PyProof.Rows
section
variable {X:Cx}{pins:List (Addr×Obj)}{σ:St}{H:Hp}{s:Shared}
end
end L2
namespace L2.L3
open PySem PySem.Spec PyProof.Rows
variable [CN]
abbrev bmV:List Value:=[.type "ValueError",.type "Exception",.type "BaseException",.type "object"]
def OwnX (K:KFr) (x:Str):Prop:=PySem.W.excIn K (CN.ad x) bmV "ValueError.__new__" = true
theorem wX5 {K:KFr}{h:Heap}{A:Addr}{bmB:List Value}{nid:String}(X:K.In h) (q:PySem.W.excIn K A bmB nid=true) :
  ∃(tl:List Value) (N:Addr) (nm qn:Str) (bs:List Value) (hd:Bool) (sn:List Str) (sb:List Value) (ab:Bool) (co:Option Bool) (dd:Option Addr) (k0 k1 k2 k3 k5:Option Value) (mN:Str->Option Value),
   h.get? A=some (excClassObj nm qn A N bs tl hd sn sb ab co dd k0 k1 k2 k3 k5 nid)/\h.Ns N mN/\mN "__init__" = none/\OwnTail h bmB tl:=by
 revert q
 rw[PySem.W.excIn]
 split
 case h_2=>exact fun q=>nomatch q
 case h_1 dd cd sl lk =>
  split
  case h_2=>exact fun q=>nomatch q
  case h_1 A' tl j0 j1 j2 j3 nn j5 em es =>
   intro q
   rw[Bool.and_eq_true,Bool.and_eq_true,Bool.and_eq_true,Bool.and_eq_true,Bool.and_eq_true] at q
   have q6:=q.2
   have q5:=q.1.2
   have q4:=q.1.1.2
   have q3:=q.1.1.1.2
   have q2:=eq_of_beq q.1.1.1.1.2
   have q1:=eq_of_beq q.1.1.1.1.1
   cases cd
   cases sl
   simp only at em es q3 q5 q6
   subst em es q1 q2
   simp only[Bool.not_eq_true'] at q3
   subst q3
   exact⟨_,_,_,_,_,_,_,_,_,_,_,_,_,_,_,_,_,X _ _ lk,.of_isNs (PySem.W.isNs_of_in X q5),PySem.W.nsMap_none_of_in X q5 (eq_of_beq q6),PySem.W.tail_of_in X q4⟩
theorem xG1 {X:Cx}{pins:List (Addr×Obj)}{σ:St}{H:Hp}{s:Shared}{c:Str}{h':Heap}{e:Addr}{args:List Value}(I:Inv X pins σ H s) (m:Heap.MadeExcOf s.heap h' e (.ref (CN.ad c)) args):ExcAt X c H (.ref e) { s with heap:=h' }:=by
 obtain⟨t,he,_,_⟩:=m.there
 have I2:Inv X pins σ H { s with heap:=h',toks:=s.toks }:=I.kept m.keeps
 have n:H e=none:=by
  cases q:H e with
  | none=>rfl
  | some o =>
   obtain⟨u,z⟩:=zN4 (I.hok e o q)
   rw[m.new] at z
   cases z
 refine⟨pins,σ,s,H,e,PySem.W.hideAll h' (e::frs X.stack),.ref t,I,I2,Un.kept m.keeps,rfl,m.new,n,fun b o q=>PySem.W.of_hideAll _ q,PySem.W.hideAll_none _ (.head _),PySem.W.funFrames_hide I2.stack fun env he a ha=>List.mem_cons_of_mem _ (List.mem_filterMap.mpr ⟨env,he,ha⟩),.inr ⟨_,_,he,rfl,rfl,rfl,rfl⟩,fun b o q nb z=>PySem.W.hideAll_get _ q fun hb => ?_⟩
 rcases List.mem_cons.mp hb with rfl | hb
 ·rcases z with z | z
  ·exact z m.new
  ·exact z n
 ·exact nb hb
def sRa (c:Str) (m:Ev->Res (List D)):Ev->Res Out:=fun ρ=>(m ρ).bind fun ds=>if ds.length<=sizeLine then .ex c else .no
theorem xC {C:Ct}{fr:Bool}{x:Str}{np cpos pos:Pos}{e:Expr}{es:List Expr}{ms:Ev->Res (List D)}(hb:Br C) (ho:OwnX C.X.K x) (hm:C.X.mg x=some (.ref (CN.ad x))) (ha:RArg C false (e::es) ms) (hc:autoParam (C.X.calm=true) zU._auto_1) (hg:autoParam (Gl C.X x) zU._auto_1) (hdb:autoParam ((x == ("__debug__":Str))=false) yX._auto_1)
  (he:autoParam (starEach (e::es) C.X.env=(false,eval e C.X.env)::starEach es C.X.env) zU._auto_1) (hpl:autoParam ((backTo cpos (starEach es C.X.env)).any (·.1)=false) zU._auto_1) :
  RS C fr (.Raise (some (.Call (.Name x np) (e::es) [] cpos)) none pos) (sRa x ms):=by
 obtain⟨t,pa,q⟩:=ha
 refine⟨fun _ σ H=>t σ H fun vs H1=>vs.length<=sizeLine/\C.XE x H1,fun pins s σ H D I h => ?_,fun Oc Ob σ H ρ E R h=>q Oc Ob σ H ρ _ R (Res.zO (Res.zT h) (fun ds _ k vs H' s r => ?_) fun c z H' s=>z H' (Same.frm s))⟩
 ·obtain⟨tl,N,nm,qn,bs,hd,sn,sb,ab,co,dd,k0,k1,k2,k3,k5,mN,hC,hN,hni,T⟩:=wX5 I.mod.kin ho
  refine wpAny_Raise_call_subT (C:=CN.ad x) (nm:=nm) (q:=qn) (N:=N) (bs:=bs) (bm:=tl) (hdct:=hd) (sn:=sn) (sub:=sb) (ab:=ab) (col:=co) (dd:=dd) (k0:=k0) (k1:=k1) (k2:=k2) (k3:=k3) (k5:=k5) PySem.F.excBase_ValueError (mN:=mN) (T.hasType PySem.F.excBase_ValueError.hasBase) (I.ok.hd hc)
   (by rw[he];show (false || (backTo cpos (starEach es C.X.env)).any (·.1))=false;rw[hpl];rfl) hni (yX6 I hg hm ⟨rfl,?_⟩ hdb)
  have h2:=pa cpos pins s σ H _ I h
  rw[he] at h2 ⊢
  refine Calls.evalArgs_plain (wpAny_mono h2 (fun us s2 ⟨vs,H2,I2,r,hl,z⟩ => ?_) fun _ _ y=>y)
  exact⟨rfl,by rw[<-r.length];exact hl,I2.bk _ _ hC,hN.keeps I2.bk,T.keeps I2.bk,fun h' a m=>hb x H2 _ _ (xG1 I2 m) z⟩
 ·by_cases hl:ds.length<=sizeLine
  ·rw[if_pos hl] at k
   exact⟨by rw[(VAs.rep r).length];exact hl,k H' (Same.frm s)⟩
  ·rw[if_neg hl] at k
   exact k.elim
end L2.L3
namespace PySem
section
variable {prog:Program}{w:World}{A:Around}{E:Value->Shared->Prop}{h:Heap}{g:Array GenState}{d:Drawn}{t:Nat}{os:OsState}{a C:Addr}{o:Obj}{K:KFr}
structure ExK (K:KFr) (C:Addr):Prop where
 ga:PySem.W.findIn K (.ref C) "__getattribute__" = some (some (.builtin "BaseException.__getattribute__"))
 gn:PySem.W.findIn K (.ref C) "__getattr__" = some none
 cl:PySem.W.findIn K (.ref C) "__class__" = some (some (.builtin "object.__class__"))
 sb:PySem.W.subIn K (.ref C) (.type "BaseException")=some true
 so:PySem.W.subIn K (.ref C) (.type "object")=some true
 ci:(PySem.W.clsIn K C).isSome=true
variable {dd:Option Addr}{dt:Data}{sl:Array (Option Value)}{x:Shared}
end
end PySem
namespace L2.L3
open PySem PySem.Spec PyProof.Rows
variable [CN]
abbrev inTry (X:Cx) (pn:List (Addr×Obj)) (xe:Value->Shared->Prop):Cx:={ X with pn:=pn,xe:=xe }
theorem Inv.toTry {X:Cx}{pins:List (Addr×Obj)}{σ:St}{H:Hp}{s:Shared}(I:Inv X pins σ H s) (xe:Value->Shared->Prop):Inv (inTry X (X.pn++pins) xe) [] σ H s :=
 ⟨⟨I.ok.mod,I.ok.kind,I.ok.glob,I.ok.blt,I.ok.above,I.ok.inj,I.ok.has,I.ok.cab,I.ok.hd,I.ok.frames,I.ok.stk,I.ok.exf,I.ok.bs,I.ok.bsz,I.ok.noex,I.ok.exfs,I.ok.funs,I.ok.frf⟩,I.os,I.bare,I.base,I.loc,I.cell,I.free,I.freeC,fun p hp=>I.pin p (by simpa using hp),I.hok,I.len⟩
theorem Inv.ofTry {X:Cx}{pins pins':List (Addr×Obj)}{σ:St}{H:Hp}{s:Shared}{xe:Value->Shared->Prop}(I:Inv (inTry X (X.pn++pins) xe) pins' σ H s):Inv X pins σ H s :=
 ⟨⟨I.ok.mod,I.ok.kind,I.ok.glob,I.ok.blt,I.ok.above,I.ok.inj,I.ok.has,I.ok.cab,I.ok.hd,I.ok.frames,I.ok.stk,I.ok.exf,I.ok.bs,I.ok.bsz,I.ok.noex,I.ok.exfs,I.ok.funs,I.ok.frf⟩,I.os,I.bare,I.base,I.loc,I.cell,I.free,I.freeC,fun p hp=>I.pin p (List.mem_append_left _ hp),I.hok,I.len⟩
theorem SP.ofTry {X:Cx}{pins pins':List (Addr×Obj)}{xe:Value->Shared->Prop}{D:Ends}{f:Flow}{s':Shared}(h:SP (inTry X (X.pn++pins) xe) pins' D f s'):SP X pins D f s':=by
 cases f with
 | next=>obtain⟨σ',H',I,q⟩:=h;exact⟨σ',H',Inv.ofTry I,q⟩
 | brk=>obtain⟨σ',H',I,q⟩:=h;exact⟨σ',H',Inv.ofTry I,q⟩
 | cont=>obtain⟨σ',H',I,q⟩:=h;exact⟨σ',H',Inv.ofTry I,q⟩
 | ret u=>obtain⟨v,σ',H',I,r,q⟩:=h;exact⟨v,σ',H',Inv.ofTry I,r,q⟩
section
variable {C:Ct}{e:Expr}{x:Str}{p p2 p3 pos:Pos}{md:Md}{me:Ev->Res D}
end
end L2.L3
namespace L2.L3
open PySem PySem.Spec PyProof.Rows
theorem xN8 {K:KFr}{t c:Value}{v:Bool}(h:PySem.W.kitOne K t c=some v) (n:(t == c)=false):PySem.W.kitCls K t c=some v:=by
 rw[PySem.W.kitOne,if_neg (by rw[n];decide)] at h
 exact h
theorem wI {K:KFr}{A:Addr}{T:String}{v:Bool}(h:PySem.W.kitOne K (.ref A) (.type T)=some v):PySem.W.subIn K (.ref A) (.type T)=some v:=by
 have h2:=xN8 h rfl
 rw[PySem.W.kitCls] at h2
 split at h2
 ·exact h2
 ·cases h2
def cnOf (K:KFr):CN:=⟨fun x=>match PySem.W.nsIn K mainGlobals x with | some (some (.ref a))=>a | _=>0⟩
theorem zV6 {K:KFr}{x:Str}{a:Addr}(h:PySem.W.nsIn K mainGlobals x=some (some (.ref a))):(cnOf K).ad x=a:=by
 show (match PySem.W.nsIn K mainGlobals x with | some (some (.ref a))=>a | _=>0)=a
 rw[h]
theorem xL3 {F:List D->Res D}{k:Nat}{l:PySem.W.OpenLaw}{q:Program}{loose:List Str}{XP:(Str->Option Value)->Heap->Prop}{YP:World->Heap->Prop}{d:DefRec}{K:Params->KFr}(hT:∀ns:List Int,ns.length<=63->F [.list (ns.map PyData.int)]=.ok (.bool true)) (hr:Room k callerA) (hn:l.most=some 63) (hdf:d.params.defaults=[])
  (hY:∀(w:World) (h:Heap),YP w h->(K w.params).In h) (hL:∀w:World,noLst (K w.params)=true)
  (hF:∀(w:World) (mg:Str->Option Value) (fa:Addr) (h:Heap),(K w.params).In h->h.Ns mainGlobals mg->mg d.name=some (.ref fa) ->
   ∃fd:FuncData,(∀(s:Shared) (u:Value),BindsTo s fd ⟨[u],[]⟩ [("script",u)])/\∀base:Heap,(K w.params).In base->base.Ns mainGlobals mg->FnOk l.prog w (K w.params) mg base (CXV l.prog w) k fa fd ["script"] (@spX (cnOf (K w.params)) false F)) :
  PySem.W.WalkO q loose XP YP l.row.toRowW d [] (fun f vs=>PySem.call f vs):=by
 refine L2.wZ7 (n:=63) (k:=k) (x:="script") (CX:=fun w=>CXV l.prog w) (sp:=fun w=>@spX (cnOf (K w.params)) false F) hn (by decide) hdf hr hY hF (fun w H a ns hl hO hS => ?_) fun w H s e s' z => ?_
 ·letI:=cnOf (K w.params)
  refine⟨[.list (ns.map PyData.int)],fun _=>False,fun a z=>z.elim,.cons (.lst (wE1 (hL w) hS) (fun z=>z) (zP4 ns)) .nil,?_⟩
  rw[hT ns hl]
  intro v H' _ r
  cases (show Rep H' (fun _=>False) v (.bool true) from r)
  rfl
 ·obtain⟨_,_,_,_,_,_,_,_,_,_,_,_,_,z⟩:=z
  exact z
end L2.L3
namespace MR
theorem pigeon:∀(n:Nat) (f:Nat->Nat),(∀i,i<=n->f i<n)->∃i j,i<j/\j<=n/\f i=f j
 | 0,f,h=>absurd (h 0 (Nat.le_refl _)) (by bv_omega)
 | n+1,f,h=>by
  by_cases c:∃i,i<=n/\f i=f (n+1)
  ·obtain⟨i,hi,e⟩:=c
   exact⟨i,n+1,by bv_omega,Nat.le_refl _,e⟩
  ·have ne:∀i,i<=n->f i≠f (n+1):=fun i hi e=>c ⟨i,hi,e⟩
   obtain⟨i,j,h1,h2,e⟩:=pigeon n (fun i=>if f (n+1)<f i then f i-1 else f i) fun i hi=>by
    have a:=h i (by bv_omega)
    have b:=h (n+1) (Nat.le_refl _)
    have d:=ne i hi
    show (if f (n+1)<f i then f i-1 else f i)<n
    split <;> bv_omega
   refine⟨i,j,h1,by bv_omega,?_⟩
   have di:=ne i (by bv_omega)
   have dj:=ne j h2
   have e:(if f (n+1)<f i then f i-1 else f i)=(if f (n+1)<f j then f j-1 else f j):=e
   split at e <;> split at e <;> bv_omega
structure Ord (n:Nat) (xs:List Int):Prop where
 len:xs.length=n
 bd:∀i,i<n->0<=xs.getD i 0/\xs.getD i 0<n
 inj:∀i j,i<n->j<n->xs.getD i 0=xs.getD j 0->i=j
def nxt (xs:List Int) (b:Nat):Nat:=(xs.getD b 0).toNat
def it (xs:List Int):Nat->Nat->Nat
 | 0,b=>b
 | k+1,b=>nxt xs (it xs k b)
section
variable {n:Nat}{xs:List Int}
theorem Ord.wJ6 (o:Ord n xs){b:Nat}(h:b<n):nxt xs b<n:=by
 have:=o.bd b h
 unfold nxt;bv_omega
theorem Ord.zK8 (o:Ord n xs){b:Nat}(h:b<n):xs.getD b 0=(nxt xs b:Int):=by
 have:=o.bd b h
 unfold nxt;bv_omega
theorem Ord.wV1 (o:Ord n xs){b c:Nat}(h:b<n) (h':c<n) (e:nxt xs b=nxt xs c):b=c :=
 o.inj b c h h' (by rw[o.zK8 h,o.zK8 h',e])
theorem Ord.uR (o:Ord n xs){b:Nat}(h:b<n):∀k,it xs k b<n
 | 0=>h
 | k+1=>o.wJ6 (o.uR h k)
theorem qJ (xs:List Int) (b:Nat) (j:Nat):∀k,it xs (k+j) b=it xs k (it xs j b)
 | 0=>by rw[Nat.zero_add];rfl
 | k+1=>by rw[Nat.add_right_comm];show nxt xs (it xs (k+j) b)=nxt xs (it xs k (it xs j b));rw[qJ xs b j k]
theorem Ord.zC1 (o:Ord n xs){b c:Nat}(h:b<n) (h':c<n):∀k,it xs k b=it xs k c->b=c
 | 0,e=>e
 | k+1,e=>o.zC1 h h' k (o.wV1 (o.uR h k) (o.uR h' k) e)
theorem Ord.back (o:Ord n xs){b:Nat}(h:b<n):∃p,1<=p/\p<=n/\it xs p b=b:=by
 obtain⟨i,j,h1,h2,e⟩:=pigeon n (fun i=>it xs i b) fun i _=>o.uR h i
 refine⟨j-i,by bv_omega,by bv_omega,?_⟩
 have e2:it xs i (it xs (j-i) b)=it xs i b:=by
  rw[<-qJ,show i+(j-i)=j by bv_omega]
  exact e.symm
 exact o.zC1 (o.uR h _) h i e2
def perGo (xs:List Int) (b:Nat):Nat->Nat->Nat
 | 0,k=>k
 | fuel+1,k=>if it xs k b=b then k else perGo xs b fuel (k+1)
theorem yZ5 (xs:List Int) (b:Nat):∀(fuel k:Nat),(∃p,k<=p/\p<=k+fuel/\it xs p b=b) ->
  k<=perGo xs b fuel k/\perGo xs b fuel k<=k+fuel/\it xs (perGo xs b fuel k) b=b/\∀i,k<=i->i<perGo xs b fuel k->it xs i b≠b
 | 0,k,⟨p,h1,h2,e⟩=>by
  have:p=k:=by bv_omega
  subst this
  exact⟨Nat.le_refl _,Nat.le_refl _,e,fun i a c=>absurd (show i<p from c) (by bv_omega)⟩
 | fuel+1,k,⟨p,h1,h2,e⟩=>by
  by_cases c:it xs k b=b
  ·rw[perGo,if_pos c]
   exact⟨Nat.le_refl _,by bv_omega,c,fun i a d=>absurd d (by bv_omega)⟩
  ·rw[perGo,if_neg c]
   have hp:k+1<=p:=by
    rcases Nat.lt_or_ge k p with q | q
    ·exact q
    ·have:p=k:=by bv_omega
     subst this
     exact absurd e c
   obtain⟨a1,a2,a3,a4⟩:=yZ5 xs b fuel (k+1) ⟨p,hp,by bv_omega,e⟩
   refine⟨by bv_omega,by bv_omega,a3,fun i hi hl => ?_⟩
   by_cases q:i=k
   ·rw[q];exact c
   ·exact a4 i (by bv_omega) hl
def per (n:Nat) (xs:List Int) (b:Nat):Nat:=perGo xs b (n-1) 1
theorem Ord.yK (o:Ord n xs){b:Nat}(h:b<n):1<=per n xs b/\per n xs b<=n/\it xs (per n xs b) b=b/\∀i,1<=i->i<per n xs b->it xs i b≠b:=by
 obtain⟨p,h1,h2,e⟩:=o.back h
 obtain⟨a1,a2,a3,a4⟩:=yZ5 xs b (n-1) 1 ⟨p,h1,by bv_omega,e⟩
 exact⟨a1,by unfold per;bv_omega,a3,a4⟩
theorem Ord.yO4 (o:Ord n xs){b:Nat}(h:b<n){i j:Nat}(hij:i<j) (hj:j<per n xs b):it xs i b≠it xs j b:=fun e=>by
 obtain⟨_,_,_,a4⟩:=o.yK h
 refine a4 (j-i) (by bv_omega) (by bv_omega) ?_
 refine o.zC1 (o.uR h _) h i ?_
 rw[<-qJ,show i+(j-i)=j by bv_omega]
 exact e.symm
theorem xM9 (xs:List Int) (b p:Nat) (e:it xs p b=b):∀k,it xs (k*p) b=b
 | 0=>by rw[Nat.zero_mul];rfl
 | k+1=>by rw[Nat.succ_mul,qJ,e,xM9 xs b p e k]
theorem Ord.wP2 (o:Ord n xs){b:Nat}(h:b<n) (k:Nat):it xs k b=it xs (k%per n xs b) b:=by
 obtain⟨a1,_,a3,_⟩:=o.yK h
 have e:k=k%per n xs b+(k / per n xs b)*per n xs b:=by rw[Nat.mul_comm];exact (Nat.mod_add_div k (per n xs b)).symm
 conv=>lhs;rw[e,qJ,xM9 xs b _ a3]
def In (n:Nat) (xs:List Int) (b c:Nat):Prop:=∃i,i<per n xs b/\it xs i b=c
theorem Ord.gZ (o:Ord n xs){b:Nat}(h:b<n) (k:Nat):In n xs b (it xs k b):=by
 obtain⟨a1,_⟩:=o.yK h
 exact⟨k%per n xs b,Nat.mod_lt _ (by bv_omega),(o.wP2 h k).symm⟩
theorem Ord.yA7 (o:Ord n xs){b:Nat}(h:b<n):In n xs b b:=o.gZ h 0
theorem Ord.zT1 (o:Ord n xs){b c:Nat}(h:b<n) (hc:In n xs b c):c<n:=by
 obtain⟨i,_,rfl⟩:=hc
 exact o.uR h i
theorem Ord.yY5 (o:Ord n xs){b c:Nat}(h:b<n) (hc:In n xs b c):In n xs c b:=by
 obtain⟨i,hi,rfl⟩:=hc
 obtain⟨a1,_,a3,_⟩:=o.yK h
 have e:it xs (per n xs b-i) (it xs i b)=b:=by rw[<-qJ,show per n xs b-i+i=per n xs b by bv_omega];exact a3
 have:=o.gZ (o.uR h i) (per n xs b-i)
 rw[e] at this
 exact this
theorem Ord.yI8 (o:Ord n xs){b c d:Nat}(h:b<n) (hc:In n xs b c) (hd:In n xs c d):In n xs b d:=by
 obtain⟨i,_,rfl⟩:=hc
 obtain⟨j,_,rfl⟩:=hd
 rw[<-qJ]
 exact o.gZ h _
def ring (n:Nat) (xs:List Int) (b:Nat):List Nat:=(List.range (per n xs b)).map fun i=>it xs i b
theorem yS (n:Nat) (xs:List Int) (b:Nat):(ring n xs b).length=per n xs b:=by unfold ring;simp
theorem xY {b c:Nat}:c∈ring n xs b↔In n xs b c:=by
 unfold ring In
 simp only[List.mem_map,List.mem_range]
theorem Ord.zV3 (o:Ord n xs){b:Nat}(h:b<n):(ring n xs b).Nodup:=by
 unfold ring List.Nodup
 rw[List.pairwise_map]
 refine List.Pairwise.imp_of_mem ?_ (List.pairwise_lt_range (n:=per n xs b))
 intro i j hi hj hlt
 exact o.yO4 h hlt (List.mem_range.mp hj)
theorem Ord.gC (o:Ord n xs){b c:Nat}(h:b<n) (hc:In n xs b c):per n xs c=per n xs b:=by
 have hcl:=o.zT1 h hc
 obtain⟨i,hi,rfl⟩:=hc
 obtain⟨a1,a2,a3,a4⟩:=o.yK h
 obtain⟨b1,b2,b3,b4⟩:=o.yK hcl
 have e1:it xs (per n xs b) (it xs i b)=it xs i b:=by rw[<-qJ,Nat.add_comm,qJ,a3]
 have e2:it xs (per n xs (it xs i b)) b=b:=by
  refine o.zC1 (o.uR h _) h i ?_
  rw[<-qJ,Nat.add_comm,qJ,b3]
 rcases Nat.lt_trichotomy (per n xs (it xs i b)) (per n xs b) with q | q | q
 ·exact absurd e2 (a4 _ b1 q)
 ·exact q
 ·exact absurd e1 (b4 _ a1 q)
def has (rs:List (List Nat)) (b:Nat):Bool:=rs.any fun r=>r.contains b
def rgs (n:Nat) (xs:List Int):Nat->List (List Nat)
 | 0=>[]
 | b+1=>if has (rgs n xs b) b then rgs n xs b else rgs n xs b ++ [ring n xs b]
theorem zJ2 {rs:List (List Nat)}{b:Nat}:has rs b=true ↔ ∃r∈rs,b∈r:=by
 unfold has
 simp[List.any_eq_true]
structure Rgs (n:Nat) (xs:List Int) (m:Nat) (rs:List (List Nat)):Prop where
 each:∀r∈rs,∃b,b<m/\r=ring n xs b/\∀c,In n xs b c->b<=c
 cover:∀c,c<m->∃r∈rs,c∈r
 nodup:rs.flatten.Nodup
 rise:rs.Pairwise fun r r'=>∀x∈r.head?,∀y∈r'.head?,x<y
theorem dM (o:Ord n xs){b:Nat}(h:b<n):(ring n xs b).head?=some b:=by
 obtain⟨a1,_⟩:=o.yK h
 unfold ring
 obtain⟨p,hp⟩:∃p,per n xs b=p+1:=⟨per n xs b-1,by bv_omega⟩
 rw[hp,List.range_succ_eq_map]
 rfl
theorem Ord.wM (o:Ord n xs):∀m,m<=n->Rgs n xs m (rgs n xs m)
 | 0,_=>⟨fun r hr=>by simp[rgs] at hr,fun c hc=>absurd hc (by bv_omega),by simp[rgs],by simp[rgs]⟩
 | m+1,h=>by
  have ih:=o.wM m (by bv_omega)
  by_cases c:has (rgs n xs m) m=true
  ·rw[rgs,if_pos c]
   refine⟨fun r hr => ?_,fun d hd => ?_,ih.nodup,ih.rise⟩
   ·obtain⟨b,hb,e,hm⟩:=ih.each r hr
    exact⟨b,by bv_omega,e,hm⟩
   ·by_cases q:d=m
    ·rw[q];exact zJ2.mp c
    ·exact ih.cover d (by bv_omega)
  ·rw[rgs,if_neg c]
   have hm:m<n:=by bv_omega
   have apart:∀d,In n xs m d->¬∃r∈rgs n xs m,d∈r:=fun d hd ⟨r,hr,hdr⟩=>by
    obtain⟨b,hb,rfl,_⟩:=ih.each r hr
    have h1:In n xs b d:=xY.mp hdr
    have h2:In n xs b m:=o.yI8 (by bv_omega) h1 (o.yY5 hm hd)
    exact c (zJ2.mpr ⟨_,hr,xY.mpr h2⟩)
   refine⟨fun r hr => ?_,fun d hd => ?_,?_,?_⟩
   ·rcases List.mem_append.mp hr with hr | hr
    ·obtain⟨b,hb,e,hmin⟩:=ih.each r hr
     exact⟨b,by bv_omega,e,hmin⟩
    ·have:r=ring n xs m:=by simpa using hr
     refine⟨m,by bv_omega,this,fun d hd => ?_⟩
     rcases Nat.lt_or_ge d m with q | q
     ·exact absurd (ih.cover d q) (apart d hd)
     ·exact q
   ·by_cases q:d=m
    ·rw[q]
     exact⟨_,List.mem_append_right _ (by simp),xY.mpr (o.yA7 hm)⟩
    ·obtain⟨r,hr,hd⟩:=ih.cover d (by bv_omega)
     exact⟨r,List.mem_append_left _ hr,hd⟩
   ·rw[List.flatten_append,List.nodup_append]
    refine⟨ih.nodup,by simpa using o.zV3 hm,fun a ha b hb e => ?_⟩
    have hb':b∈ring n xs m:=by simpa using hb
    subst e
    obtain⟨r,hr,har⟩:=List.mem_flatten.mp ha
    exact apart a (xY.mp hb') ⟨r,hr,har⟩
   ·rw[List.pairwise_append]
    refine⟨ih.rise,by simp,fun r hr r' hr' x hx y hy => ?_⟩
    have e:r'=ring n xs m:=by simpa using hr'
    obtain⟨b,hb,rfl,_⟩:=ih.each r hr
    rw[dM o (by bv_omega)] at hx
    rw[e,dM o hm] at hy
    have hx:x=b:=by simpa using hx.symm
    have hy:y=m:=by simpa using hy.symm
    bv_omega
end
def rg (n:Nat):List Int:=(List.range n).map fun (i:Nat)=>(i:Int)
theorem xO6 (n:Nat):(rg n).length=n:=by unfold rg;simp
theorem xM3 {n:Nat}{a:Int}:a∈rg n↔0<=a/\a<n:=by
 unfold rg
 simp only[List.mem_map,List.mem_range]
 constructor
 ·rintro ⟨i,hi,rfl⟩;bv_omega
 ·intro h;exact⟨a.toNat,by bv_omega,by bv_omega⟩
theorem xA6 (n:Nat):(rg n).Pairwise (· < ·):=by
 unfold rg
 rw[List.pairwise_map]
 exact List.Pairwise.imp (fun h=>by bv_omega) (List.pairwise_lt_range (n:=n))
theorem yG1 (n:Nat):(rg n).Nodup:=(xA6 n).imp fun h=>by bv_omega
theorem wH8 (n:Nat):(rg n).Pairwise (· <= ·):=(xA6 n).imp fun h=>by bv_omega
theorem zH9 {a b:List Int}(p:a.Perm b) (ha:a.Pairwise (· <= ·)) (hb:b.Pairwise (· <= ·)):a=b :=
 p.eq_of_pairwise (fun x y _ _ h1 h2=>by bv_omega) ha hb
theorem xV8 {xs:List Int}(h:xs.Nodup){i j:Nat}(hi:i<xs.length) (hj:j<xs.length) (e:xs.getD i 0=xs.getD j 0):i=j:=by
 rw[List.getD_eq_getElem?_getD,List.getElem?_eq_getElem hi,List.getD_eq_getElem?_getD,List.getElem?_eq_getElem hj] at e
 have e:xs[i]=xs[j]:=e
 rcases Nat.lt_trichotomy i j with q | q | q
 ·exact absurd e (List.pairwise_iff_getElem.mp h i j hi hj q)
 ·exact q
 ·exact absurd e.symm (List.pairwise_iff_getElem.mp h j i hj hi q)
theorem getD_mem {xs:List Int}{i:Nat}(h:i<xs.length):xs.getD i 0∈xs:=by
 rw[List.getD,List.getElem?_eq_getElem h]
 exact List.getElem_mem h
theorem zG1 {n:Nat}{xs:List Int}(p:xs.Perm (rg n)):Ord n xs:=by
 have hl:xs.length=n:=by rw[p.length_eq,xO6]
 have nd:xs.Nodup:=p.nodup_iff.mpr (yG1 n)
 exact⟨hl,fun i hi=>xM3.mp (p.mem_iff.mp (getD_mem (by bv_omega))),fun i j hi hj e=>xV8 nd (by bv_omega) (by bv_omega) e⟩
theorem onto {n:Nat}{f:Nat->Nat}(h:∀i,i<n->f i<n) (hi:∀i j,i<n->j<n->f i=f j->i=j){c:Nat}(hc:c<n):∃i,i<n/\f i=c:=by
 refine Classical.byContradiction fun no => ?_
 obtain⟨i,j,h1,h2,e⟩:=pigeon n (fun i=>if i=n then c else f i) fun i hi'=>by
  show (if i=n then c else f i)<n
  split
  ·exact hc
  ·exact h i (by bv_omega)
 have e:(if i=n then c else f i)=(if j=n then c else f j):=e
 rw[if_neg (show i≠n by bv_omega)] at e
 by_cases q:j=n
 ·rw[if_pos q] at e
  exact no ⟨i,by bv_omega,e⟩
 ·rw[if_neg q] at e
  have:=hi i j (by bv_omega) (by bv_omega) e
  bv_omega
def insAt (xs:List Int) (i:Nat) (v:Int):List Int:=xs.take i++v::xs.drop i
theorem xW6 (xs:List Int) (i:Nat) (v:Int):(insAt xs i v).Perm (v::xs):=by
 unfold insAt
 have:=List.perm_middle (a:=v) (l₁:=xs.take i) (l₂:=xs.drop i)
 rwa [List.take_append_drop] at this
def lawOrd (cell:Int):Nat->List Int×Int
 | 0=>([],cell)
 | k+1=>(insAt (lawOrd cell k).1 ((lawOrd cell k).2%((k:Int)+1)).toNat k,(lawOrd cell k).2 / ((k:Int)+1))
theorem wY9 (n:Nat):rg (n+1)=rg n ++ [(n:Int)]:=by unfold rg;rw[List.range_succ,List.map_append];rfl
theorem zG3 (cell:Int):∀k,(lawOrd cell k).1.Perm (rg k)
 | 0=>List.Perm.refl _
 | k+1=>by
  rw[wY9]
  refine (xW6 _ _ _).trans ?_
  refine ((zG3 cell k).cons _).trans ?_
  exact (List.perm_append_singleton _ _).symm
theorem zB5 (cell:Int) (n:Nat):Ord n (lawOrd cell n).1:=zG1 (zG3 cell n)
def ofN (n:Nat) (f:Nat->Nat):List Int:=(List.range n).map fun (b:Nat)=>((f b:Nat):Int)
theorem cT (n:Nat) (f:Nat->Nat):(ofN n f).length=n:=by unfold ofN;simp
theorem yC5 {n:Nat}{f:Nat->Nat}{b:Nat}(h:b<n):(ofN n f).getD b 0=(f b:Int):=by
 unfold ofN
 simp[List.getD,h]
theorem wT6 {n:Nat}{f g:Nat->Nat}(h:∀b,b<n->f b=g b):ofN n f=ofN n g:=by
 unfold ofN
 refine List.map_congr_left fun b hb => ?_
 rw[h b (List.mem_range.mp hb)]
theorem wZ4 {n:Nat}{f:Nat->Nat}(h:∀b,b<n->f b<n) (i:∀b c,b<n->c<n->f b=f c->b=c):Ord n (ofN n f):=by
 refine zG1 ?_
 have nd:(ofN n f).Nodup:=by
  unfold ofN
  rw[List.nodup_iff_pairwise_ne,List.pairwise_map]
  refine List.Pairwise.imp_of_mem ?_ (List.nodup_range (n:=n))
  intro a b ha hb ne e
  exact ne (i a b (List.mem_range.mp ha) (List.mem_range.mp hb) (by bv_omega))
 rw[List.perm_ext_iff_of_nodup nd (yG1 n)]
 intro a
 rw[xM3]
 unfold ofN
 rw[List.mem_map]
 constructor
 ·rintro ⟨b,hb,rfl⟩
  have:=h b (List.mem_range.mp hb)
  bv_omega
 ·rintro ⟨h1,h2⟩
  obtain⟨b,hb,e⟩:=onto (n:=n) (f:=f) h i (c:=a.toNat) (by bv_omega)
  exact⟨b,List.mem_range.mpr hb,by bv_omega⟩
theorem yL4 {n:Nat}{xs:List Int}(o:Ord n xs):ofN n (nxt xs)=xs:=by
 refine List.ext_getElem (by rw[cT,o.len]) fun b h1 h2 => ?_
 rw[cT] at h1
 have e:=yC5 (f:=nxt xs) h1
 rw[<-o.zK8 h1] at e
 rw[List.getD_eq_getElem?_getD,List.getD_eq_getElem?_getD,List.getElem?_eq_getElem (by rw[cT];exact h1),List.getElem?_eq_getElem h2] at e
 exact e
theorem Ord.ext {n:Nat}{xs ys:List Int}(o:Ord n xs) (o':Ord n ys) (h:∀b,b<n->nxt xs b=nxt ys b):xs=ys:=by
 rw[<-yL4 o,<-yL4 o',wT6 h]
def swO (xs:List Int) (a b:Nat):List Int:=(xs.set a (xs.getD b 0)).set b (xs.getD a 0)
section
variable {n:Nat}{xs:List Int}
theorem zJ5 (o:Ord n xs){a b:Nat}(ha:a<n) (hb:b<n){i:Nat}:(swO xs a b).getD i 0=if i=b then xs.getD a 0 else if i=a then xs.getD b 0 else xs.getD i 0:=by
 unfold swO
 have hl:=o.len
 rw[List.getD_eq_getElem?_getD]
 by_cases h1:i=b
 ·rw[if_pos h1,h1,List.getElem?_set_self (by rw[List.length_set];bv_omega)]
  rfl
 ·rw[if_neg h1,List.getElem?_set_ne (fun z=>h1 z.symm)]
  by_cases h2:i=a
  ·rw[if_pos h2,h2,List.getElem?_set_self (by bv_omega)]
   rfl
  ·rw[if_neg h2,List.getElem?_set_ne (fun z=>h2 z.symm),<-List.getD_eq_getElem?_getD]
theorem wX4 (o:Ord n xs) (a b:Nat):(swO xs a b).length=n:=by unfold swO;rw[List.length_set,List.length_set,o.len]
theorem zX6 (o:Ord n xs){a b:Nat}(ha:a<n) (hb:b<n):Ord n (swO xs a b):=by
 refine⟨wX4 o a b,fun i hi => ?_,fun i j hi hj e => ?_⟩
 ·rw[zJ5 o ha hb]
  split
  ·exact o.bd a ha
  ·split
   ·exact o.bd b hb
   ·exact o.bd i hi
 ·rw[zJ5 o ha hb,zJ5 o ha hb] at e
  by_cases ib:i=b
  ·rw[if_pos ib] at e
   by_cases jb:j=b
   ·bv_omega
   ·rw[if_neg jb] at e
    by_cases ja:j=a
    ·rw[if_pos ja] at e;have:=o.inj _ _ ha hb e;bv_omega
    ·rw[if_neg ja] at e;have:=o.inj _ _ ha hj e;bv_omega
  ·rw[if_neg ib] at e
   by_cases ia:i=a
   ·rw[if_pos ia] at e
    by_cases jb:j=b
    ·rw[if_pos jb] at e;have:=o.inj _ _ hb ha e;bv_omega
    ·rw[if_neg jb] at e
     by_cases ja:j=a
     ·bv_omega
     ·rw[if_neg ja] at e;have:=o.inj _ _ hb hj e;bv_omega
   ·rw[if_neg ia] at e
    by_cases jb:j=b
    ·rw[if_pos jb] at e;have:=o.inj _ _ hi ha e;bv_omega
    ·rw[if_neg jb] at e
     by_cases ja:j=a
     ·rw[if_pos ja] at e;have:=o.inj _ _ hi hb e;bv_omega
     ·rw[if_neg ja] at e;exact o.inj _ _ hi hj e
theorem yN9 (o:Ord n xs){a b:Nat}(ha:a<n) (hb:b<n) (i:Nat):nxt (swO xs a b) i=if i=b then nxt xs a else if i=a then nxt xs b else nxt xs i:=by
 unfold nxt
 rw[zJ5 o ha hb]
 split
 ·rfl
 ·split <;> rfl
end
section
variable {n:Nat}{xs:List Int}
theorem zM5 {ys:List Int}(o:Ord n ys){c q:Nat}(hc:c<n) (hq:1<=q) (e:it ys q c=c) (ne:∀i,1<=i->i<q->it ys i c≠c):per n ys c=q:=by
 obtain⟨p1,p2,p3,p4⟩:=o.yK hc
 rcases Nat.lt_trichotomy (per n ys c) q with h | h | h
 ·exact absurd p3 (ne _ p1 h)
 ·exact h
 ·exact absurd e (p4 q hq h)
theorem zE1 (o:Ord n xs){a j:Nat}(ha:a<n) (j0:0<j) (hj:j<per n xs a) :
  (∀k,1<=k->k<=per n xs a-j->it (swO xs a (it xs j a)) k a=it xs (j+k) a)/\(∀k,1<=k->k<=j->it (swO xs a (it xs j a)) k (it xs j a)=it xs k a):=by
 have hb:it xs j a<n:=o.uR ha j
 have hN:=yN9 o ha hb
 obtain⟨p1,_,pe,pm⟩:=o.yK ha
 have ne:∀i k,i<k->k<per n xs a->it xs i a≠it xs k a:=fun i k h1 h2=>o.yO4 ha h1 h2
 have hab:a≠it xs j a:=ne 0 j j0 hj
 constructor
 ·intro k h1
  induction k with
  | zero=>bv_omega
  | succ k ih =>
   intro h2
   rcases Nat.eq_zero_or_pos k with z | z
   ·subst z
    show nxt (swO xs a (it xs j a)) a=nxt xs (it xs j a)
    rw[hN,if_neg hab,if_pos rfl]
   ·show nxt (swO xs a (it xs j a)) (it (swO xs a (it xs j a)) k a)=nxt xs (it xs (j+k) a)
    rw[ih z (by bv_omega),hN,if_neg (fun e=>ne j (j+k) (by bv_omega) (by bv_omega) e.symm),if_neg (fun e=>ne 0 (j+k) (by bv_omega) (by bv_omega) e.symm)]
 ·intro k h1
  induction k with
  | zero=>bv_omega
  | succ k ih =>
   intro h2
   rcases Nat.eq_zero_or_pos k with z | z
   ·subst z
    show nxt (swO xs a (it xs j a)) (it xs j a)=nxt xs a
    rw[hN,if_pos rfl]
   ·show nxt (swO xs a (it xs j a)) (it (swO xs a (it xs j a)) k (it xs j a))=nxt xs (it xs k a)
    rw[ih z (by bv_omega),hN,if_neg (fun e=>ne k j (by bv_omega) hj e),if_neg (fun e=>ne 0 k (by bv_omega) (by bv_omega) e.symm)]
theorem xJ7 (o:Ord n xs){a j:Nat}(ha:a<n) (j0:0<j) (hj:j<per n xs a) :
  per n (swO xs a (it xs j a)) a=per n xs a-j/\per n (swO xs a (it xs j a)) (it xs j a)=j:=by
 obtain⟨wa,wb⟩:=zE1 o ha j0 hj
 have hb:it xs j a<n:=o.uR ha j
 have o':=zX6 o ha hb
 obtain⟨p1,_,pe,pm⟩:=o.yK ha
 have ne:∀i k,i<k->k<per n xs a->it xs i a≠it xs k a:=fun i k h1 h2=>o.yO4 ha h1 h2
 constructor
 ·refine zM5 o' ha (by bv_omega) ?_ fun i h1 h2 => ?_
  ·rw[wa _ (by bv_omega) (by bv_omega),show j+(per n xs a-j)=per n xs a by bv_omega,pe]
  ·rw[wa i h1 (by bv_omega)]
   exact fun e=>ne 0 (j+i) (by bv_omega) (by bv_omega) e.symm
 ·refine zM5 o' hb (by bv_omega) (wb j (by bv_omega) (by bv_omega)) fun i h1 h2 => ?_
  rw[wb i h1 (by bv_omega)]
  exact ne i j h2 hj
theorem xC9 (o:Ord n xs){a b c:Nat}(ha:a<n) (hb:b<n) (hc:c<n) (h1:¬In n xs a c) (h2:¬In n xs b c):∀i,it (swO xs a b) i c=it xs i c:=fun i=>by
 induction i with
 | zero=>rfl
 | succ i ih =>
  show nxt (swO xs a b) (it (swO xs a b) i c)=nxt xs (it xs i c)
  rw[ih,yN9 o ha hb,if_neg (fun e=>h2 (by rw[<-e];exact o.yY5 hc (o.gZ hc i))),if_neg (fun e=>h1 (by rw[<-e];exact o.yY5 hc (o.gZ hc i)))]
theorem wS6 (o:Ord n xs){a b c:Nat}(ha:a<n) (hb:b<n) (hc:c<n) (h1:¬In n xs a c) (h2:¬In n xs b c):per n (swO xs a b) c=per n xs c:=by
 have w:=xC9 o ha hb hc h1 h2
 obtain⟨p1,_,pe,pm⟩:=o.yK hc
 exact zM5 (zX6 o ha hb) hc p1 (by rw[w,pe]) fun i hi1 hi2=>by rw[w];exact pm i hi1 hi2
def sumW (f:Nat->Nat) (l:List Nat):Nat:=(l.map f).sum
theorem xC2 (f:Nat->Nat):sumW f []=0:=rfl
theorem dJ (f:Nat->Nat) (a:Nat) (l:List Nat):sumW f (a::l)=f a+sumW f l:=by simp[sumW]
theorem zS4 (f:Nat->Nat) (l m:List Nat):sumW f (l++m)=sumW f l+sumW f m:=by simp[sumW]
theorem yR9 {f:Nat->Nat}{l m:List Nat}(p:l.Perm m):sumW f l=sumW f m:=by
 induction p with
 | nil=>rfl
 | cons a _ ih=>rw[dJ,dJ,ih]
 | swap a b l=>simp only[dJ];bv_omega
 | trans _ _ h1 h2=>rw[h1,h2]
theorem xV5 {f g:Nat->Nat}{l:List Nat}(h:∀a∈l,f a=g a):sumW f l=sumW g l:=by
 unfold sumW
 rw[List.map_congr_left h]
theorem gM (f:Nat->Nat) (c:Nat):∀l:List Nat,(∀a∈l,f a=c)->sumW f l=l.length*c
 | [],_=>by simp[sumW]
 | a::l,h=>by
  rw[dJ,h a (List.mem_cons_self ..),gM f c l fun x hx=>h x (List.mem_cons_of_mem _ hx),List.length_cons,Nat.succ_mul]
  bv_omega
theorem yQ3 (f:Nat->Nat):∀L:List (List Nat),sumW f L.flatten=(L.map (sumW f)).sum
 | []=>rfl
 | r::L=>by rw[List.flatten_cons,zS4,yQ3 f L,List.map_cons,List.sum_cons]
theorem flatP (o:Ord n xs):(rgs n xs n).flatten.Perm (List.range n):=by
 have k:=o.wM n (Nat.le_refl n)
 rw[List.perm_ext_iff_of_nodup k.nodup List.nodup_range]
 intro a
 rw[List.mem_range,List.mem_flatten]
 constructor
 ·rintro ⟨r,hr,ha⟩
  obtain⟨b,hb,rfl,_⟩:=k.each r hr
  exact o.zT1 hb (xY.mp ha)
 ·intro h
  exact k.cover a h
def lc:Nat->Nat
 | 0=>1
 | n+1=>(n+1)*lc n
theorem xN1:∀n,0<lc n
 | 0=>Nat.one_pos
 | n+1=>Nat.mul_pos (Nat.succ_pos n) (xN1 n)
theorem xK4:∀{n l:Nat},1<=l->l<=n->l ∣ lc n
 | 0,l,h1,h2=>by bv_omega
 | n+1,l,h1,h2=>by
  rw[lc]
  rcases Nat.lt_or_ge n l with h | h
  ·obtain rfl:l=n+1:=by bv_omega
   exact Nat.dvd_mul_right ..
  ·exact Nat.dvd_trans (xK4 h1 h) (Nat.dvd_mul_left ..)
def fN (k l:Nat):Nat:=(l-1) / k
def ND (n k:Nat) (xs:List Int):Nat:=((rgs n xs n).map fun r=>fN k r.length).sum
def wt (n k l:Nat):Nat:=fN k l*(lc n / l)
theorem zC7 {n k l:Nat}(h1:1<=l) (h2:l<=n):l*wt n k l=lc n*fN k l:=by
 unfold wt
 rw[<-Nat.mul_assoc,Nat.mul_comm l,Nat.mul_assoc,Nat.mul_comm l,Nat.div_mul_cancel (xK4 h1 h2),Nat.mul_comm]
theorem yA9 (c:Nat) (f g:List Nat->Nat):∀L:List (List Nat),(∀r∈L,f r=c*g r)->(L.map f).sum=c*(L.map g).sum
 | [],_=>by simp
 | r::L,h=>by
  rw[List.map_cons,List.sum_cons,List.map_cons,List.sum_cons,h r (List.mem_cons_self ..),yA9 c f g L fun x hx=>h x (List.mem_cons_of_mem _ hx),Nat.mul_add]
theorem yI7 (o:Ord n xs) (k:Nat):sumW (fun b=>wt n k (per n xs b)) (List.range n)=lc n*ND n k xs:=by
 rw[<-yR9 (flatP o),yQ3]
 unfold ND
 refine yA9 _ _ _ _ fun r hr => ?_
 obtain⟨b,hb,rfl,_⟩:=(o.wM n (Nat.le_refl n)).each r hr
 obtain⟨p1,p2,_,_⟩:=o.yK hb
 rw[gM _ (wt n k (per n xs b)) _ fun c hc=>by rw[o.gC hb (xY.mp hc)],yS]
 exact zC7 p1 p2
theorem part (o:Ord n xs){a:Nat}(ha:a<n):(ring n xs a++(List.range n).filter fun c=>!(ring n xs a).contains c).Perm (List.range n):=by
 have nd:=o.zV3 ha
 rw[List.perm_ext_iff_of_nodup ?_ List.nodup_range]
 ·intro c
  rw[List.mem_append,List.mem_filter,List.mem_range]
  constructor
  ·rintro (h | h)
   ·exact o.zT1 ha (xY.mp h)
   ·exact h.1
  ·intro h
   cases e:(ring n xs a).contains c with
   | true=>exact .inl (List.contains_iff_mem.mp e)
   | false=>exact .inr ⟨h,rfl⟩
 ·rw[List.nodup_append]
  refine⟨nd,List.nodup_range.filter _,fun x hx y hy e => ?_⟩
  subst e
  have:=(List.mem_filter.mp hy).2
  rw[List.contains_iff_mem.mpr hx] at this
  cases this
theorem xH1 (o:Ord n xs) (k:Nat){a j:Nat}(ha:a<n) (j0:0<j) (hj:j<per n xs a) :
  ND n k (swO xs a (it xs j a))+fN k (per n xs a)=ND n k xs+fN k (per n xs a-j)+fN k j:=by
 have hb:it xs j a<n:=o.uR ha j
 have o':=zX6 o ha hb
 obtain⟨wa,wb⟩:=zE1 o ha j0 hj
 obtain⟨pa,pb⟩:=xJ7 o ha j0 hj
 obtain⟨p1,p2,pe,pm⟩:=o.yK ha
 have inb:In n xs a (it xs j a):=o.gZ ha j
 have s1:=yI7 o k
 have s2:=yI7 o' k
 rw[<-yR9 (part o ha),zS4] at s1 s2
 have r0:sumW (fun b=>wt n k (per n (swO xs a (it xs j a)) b)) ((List.range n).filter fun c=>!(ring n xs a).contains c)=sumW (fun b=>wt n k (per n xs b)) ((List.range n).filter fun c=>!(ring n xs a).contains c):=xV5 fun c hc=>by
  have hc1:=List.mem_range.mp (List.mem_filter.mp hc).1
  have hc2:=(List.mem_filter.mp hc).2
  have ni:¬In n xs a c:=fun z=>by rw[List.contains_iff_mem.mpr (xY.mpr z)] at hc2;cases hc2
  rw[wS6 o ha hb hc1 ni fun z=>ni (o.yI8 ha inb z)]
 have r1:sumW (fun b=>wt n k (per n xs b)) (ring n xs a)=lc n*fN k (per n xs a):=by
  rw[gM _ (wt n k (per n xs a)) _ fun c hc=>by rw[o.gC ha (xY.mp hc)],yS]
  exact zC7 p1 p2
 have rs:ring n xs a=[a]++(List.range j).map (fun i=>it xs (i+1) a)++(List.range (per n xs a-j-1)).map (fun i=>it xs (j+(i+1)) a):=by
  unfold ring
  conv=>lhs;rw[show per n xs a=1+j+(per n xs a-j-1) by bv_omega]
  rw[List.range_add,List.range_add,List.map_append,List.map_append,List.map_map,List.map_map]
  congr 1
  ·congr 1
   refine List.map_congr_left fun i _ => ?_
   show it xs (1+i) a=_
   rw[Nat.add_comm]
  ·refine List.map_congr_left fun i _ => ?_
   show it xs (1+j+i) a=_
   rw[show 1+j+i=j+(i+1) by bv_omega]
 have r2:sumW (fun b=>wt n k (per n (swO xs a (it xs j a)) b)) (ring n xs a)=lc n*fN k (per n xs a-j)+lc n*fN k j:=by
  rw[rs,zS4,zS4]
  have t1:sumW (fun b=>wt n k (per n (swO xs a (it xs j a)) b)) [a]=wt n k (per n xs a-j):=by
   rw[dJ,xC2,pa,Nat.add_zero]
  have t2:sumW (fun b=>wt n k (per n (swO xs a (it xs j a)) b)) ((List.range j).map fun i=>it xs (i+1) a)=j*wt n k j:=by
   rw[gM _ (wt n k j) _ fun c hc => ?_,List.length_map,List.length_range]
   obtain⟨i,hi,rfl⟩:=List.mem_map.mp hc
   have hi:=List.mem_range.mp hi
   have m:In n (swO xs a (it xs j a)) (it xs j a) (it xs (i+1) a):=by
    rw[<-wb (i+1) (by bv_omega) (by bv_omega)]
    exact o'.gZ hb _
   rw[o'.gC hb m,pb]
  have t3:sumW (fun b=>wt n k (per n (swO xs a (it xs j a)) b)) ((List.range (per n xs a-j-1)).map fun i=>it xs (j+(i+1)) a)=(per n xs a-j-1)*wt n k (per n xs a-j):=by
   rw[gM _ (wt n k (per n xs a-j)) _ fun c hc => ?_,List.length_map,List.length_range]
   obtain⟨i,hi,rfl⟩:=List.mem_map.mp hc
   have hi:=List.mem_range.mp hi
   have m:In n (swO xs a (it xs j a)) a (it xs (j+(i+1)) a):=by
    rw[<-wa (i+1) (by bv_omega) (by bv_omega)]
    exact o'.gZ ha _
   rw[o'.gC ha m,pa]
  rw[t1,t2,t3,zC7 (by bv_omega) (by bv_omega),<-zC7 (n:=n) (k:=k) (l:=per n xs a-j) (by bv_omega) (by bv_omega)]
  have:(per n xs a-j)*wt n k (per n xs a-j)=wt n k (per n xs a-j)+(per n xs a-j-1)*wt n k (per n xs a-j):=by
   conv=>lhs;rw[show per n xs a-j=1+(per n xs a-j-1) by bv_omega,Nat.add_mul,Nat.one_mul]
   rw[show 1+(per n xs a-j-1)=per n xs a-j by bv_omega]
  bv_omega
 rw[r0,r2] at s2
 rw[r1] at s1
 refine Nat.eq_of_mul_eq_mul_left (xN1 n) ?_
 rw[Nat.mul_add,Nat.mul_add,Nat.mul_add]
 bv_omega
end
section
variable {n:Nat}{xs:List Int}
theorem xB2 (o:Ord n xs){k:Nat}(hk:1<=k){a:Nat}(ha:a<n) (hp:k<per n xs a):ND n k (swO xs a (it xs k a))+1=ND n k xs:=by
 have z:=xH1 o k ha (by bv_omega) hp
 unfold fN at z
 have e1:(k-1) / k=0:=Nat.div_eq_of_lt (by bv_omega)
 have e2:(per n xs a-1) / k=(per n xs a-k-1) / k+1:=by
  rw[show per n xs a-1=per n xs a-k-1+k by bv_omega,Nat.add_div_right _ (by bv_omega)]
 rw[e1,e2] at z
 bv_omega
theorem xO2 (o:Ord n xs){k:Nat}(hk:1<=k):ND n k xs=0 ↔ ∀b,b<n->per n xs b<=k:=by
 have ok:=o.wM n (Nat.le_refl n)
 unfold ND
 constructor
 ·intro h b hb
  obtain⟨r,hr,hm⟩:=ok.cover b hb
  obtain⟨b0,h0,rfl,_⟩:=ok.each r hr
  have z:=List.sum_eq_zero_iff_forall_eq_nat.mp h _ (List.mem_map.mpr ⟨_,hr,rfl⟩)
  rw[o.gC h0 (xY.mp hm)]
  rw[yS] at z
  unfold fN at z
  have p1:=(o.yK h0).1
  rw[Nat.div_eq_zero_iff] at z
  bv_omega
 ·intro h
  refine List.sum_eq_zero_iff_forall_eq_nat.mpr fun x hx => ?_
  obtain⟨r,hr,rfl⟩:=List.mem_map.mp hx
  obtain⟨b0,h0,rfl,_⟩:=ok.each r hr
  rw[yS]
  have:=h b0 h0
  have p1:=(o.yK h0).1
  exact Nat.div_eq_of_lt (by bv_omega)
def runX (xs:List Int) (ps:List (Nat×Nat)):List Int:=ps.foldl (fun ys q=>swO ys q.1 q.2) xs
theorem zG6 (xs:List Int) (a b:List (Nat×Nat)):runX xs (a++b)=runX (runX xs a) b:=List.foldl_append ..
def pr (k:Nat) (r:List Nat):List (Nat×Nat):=(List.range (fN k r.length)).map fun m=>(r.getD 0 0,r.getD ((m+1)*k) 0)
theorem qA {b i:Nat}(h:i<per n xs b):(ring n xs b).getD i 0=it xs i b:=by
 unfold ring
 simp[List.getD,h]
theorem zC2 {k l m:Nat}(hk:1<=k) (h:m<fN k l):(m+1)*k<l:=by
 unfold fN at h
 have:(m+1)*k<=l-1:=(Nat.le_div_iff_mul_le (by bv_omega)).mp h
 have:1*k<=(m+1)*k:=Nat.mul_le_mul_right k (by bv_omega)
 bv_omega
theorem yH2 {ys:List Int}(o:Ord n xs) (oy:Ord n ys){k b:Nat}(hk:1<=k) (hb:b<n) (ag:∀i,it ys i b=it xs i b):∀m,m<=fN k (per n xs b) ->
  Ord n (runX ys ((pr k (ring n xs b)).take m))/\(∀i,1<=i->i<=per n xs b-m*k->it (runX ys ((pr k (ring n xs b)).take m)) i b=it xs (m*k+i) b)/\ND n k (runX ys ((pr k (ring n xs b)).take m))+m=ND n k ys /\
  ∀c,c<n->¬In n xs b c->nxt (runX ys ((pr k (ring n xs b)).take m)) c=nxt ys c
 | 0,_=>by
  rw[List.take_zero]
  exact⟨oy,fun i _ _=>by rw[Nat.zero_mul,Nat.zero_add];exact ag i,rfl,fun c _ _=>rfl⟩
 | m+1,h=>by
  obtain⟨oz,w,nd,far⟩:=yH2 o oy hk hb ag m (by bv_omega)
  obtain⟨p1,p2,pe,pm⟩:=o.yK hb
  have lt:=zC2 hk (show m<fN k (per n xs b) by bv_omega)
  have em:(m+1)*k=m*k+k:=Nat.succ_mul m k
  have e1:(pr k (ring n xs b)).take (m+1)=(pr k (ring n xs b)).take m ++ [(b,it xs ((m+1)*k) b)]:=by
   have g:(pr k (ring n xs b))[m]?=some (b,it xs ((m+1)*k) b):=by
    unfold pr
    rw[yS,List.getElem?_map,List.getElem?_range (by bv_omega),Option.map_some,qA lt,qA (by bv_omega)]
    rfl
   rw[List.take_succ,g]
   rfl
  rw[e1,zG6]
  generalize runX ys ((pr k (ring n xs b)).take m)=zs at oz w nd far
  have wk:it zs k b=it xs ((m+1)*k) b:=by rw[w k hk (by bv_omega),em]
  have pz:per n zs b=per n xs b-m*k:=zM5 oz hb (by bv_omega) (by rw[w _ (by bv_omega) (by bv_omega),show m*k+(per n xs b-m*k)=per n xs b by bv_omega,pe]) fun i h1 h2=>by
   rw[w i h1 (by bv_omega)]
   exact pm _ (by bv_omega) (by bv_omega)
  have hp:k<per n zs b:=by bv_omega
  have hc:it zs k b<n:=oz.uR hb k
  show Ord n (swO zs b (it xs ((m+1)*k) b))/\(∀i,1<=i->i<=per n xs b-(m+1)*k->it (swO zs b (it xs ((m+1)*k) b)) i b=it xs ((m+1)*k+i) b)/\ND n k (swO zs b (it xs ((m+1)*k) b))+(m+1)=ND n k ys/\∀c,c<n->¬In n xs b c->nxt (swO zs b (it xs ((m+1)*k) b)) c=nxt ys c
  rw[<-wk]
  refine⟨zX6 oz hb hc,fun i h1 h2 => ?_,?_,fun c hcn ni => ?_⟩
  ·rw[(zE1 oz hb (by bv_omega) hp).1 i h1 (by bv_omega),w (k+i) (by bv_omega) (by bv_omega),show m*k+(k+i)=(m+1)*k+i by bv_omega]
  ·have:=xB2 oz hk hb hp
   bv_omega
  ·rw[yN9 oz hb hc,if_neg (fun e=>ni (by rw[e,wk];exact o.gZ hb _)),if_neg (fun e=>ni (by rw[e];exact o.yA7 hb))]
   exact far c hcn ni
theorem yT9 (o:Ord n xs){k:Nat}(hk:1<=k):∀(L:List (List Nat)) (ys:List Int),Ord n ys->(∀r∈L,∃b,b<n/\r=ring n xs b)->L.flatten.Nodup->(∀r∈L,∀c∈r,nxt ys c=nxt xs c) ->
  Ord n (runX ys (L.flatMap (pr k)))/\ND n k (runX ys (L.flatMap (pr k)))+(L.map fun r=>fN k r.length).sum=ND n k ys
 | [],ys,oy,_,_,_=>⟨oy,rfl⟩
 | r::L,ys,oy,hL,nd,ag=>by
  obtain⟨b,hb,rfl⟩:=hL r (List.mem_cons_self ..)
  have walk:∀i,it ys i b=it xs i b:=fun i=>by
   induction i with
   | zero=>rfl
   | succ i ih =>
    show nxt ys (it ys i b)=nxt xs (it xs i b)
    rw[ih]
    exact ag _ (List.mem_cons_self ..) _ (xY.mpr (o.gZ hb i))
  have z:=yH2 o oy hk hb walk (fN k (per n xs b)) (Nat.le_refl _)
  have full:(pr k (ring n xs b)).take (fN k (per n xs b))=pr k (ring n xs b):=List.take_of_length_le (by unfold pr;rw[List.length_map,List.length_range,yS];exact Nat.le_refl _)
  rw[full] at z
  obtain⟨oz,_,e,far⟩:=z
  rw[List.flatten_cons,List.nodup_append] at nd
  have q:=yT9 o hk L (runX ys (pr k (ring n xs b))) oz (fun r hr=>hL r (List.mem_cons_of_mem _ hr)) nd.2.1 fun r hr c hc=>by
   obtain⟨b',hb',rfl⟩:=hL r (List.mem_cons_of_mem _ hr)
   have hcn:=o.zT1 hb' (xY.mp hc)
   rw[far c hcn fun w=>nd.2.2 c (xY.mpr w) c (List.mem_flatten.mpr ⟨_,hr,hc⟩) rfl]
   exact ag _ (List.mem_cons_of_mem _ hr) c hc
  rw[List.flatMap_cons,zG6,List.map_cons,List.sum_cons,yS]
  exact⟨q.1,by bv_omega⟩
def told (n k:Nat) (xs:List Int):List (Nat×Nat):=(rgs n xs n).flatMap (pr k)
theorem yK3 (o:Ord n xs){k:Nat}(hk:1<=k):Ord n (runX xs (told n k xs))/\ND n k (runX xs (told n k xs))=0:=by
 have ok:=o.wM n (Nat.le_refl n)
 have z:=yT9 o hk (rgs n xs n) xs o (fun r hr=>by obtain⟨b,hb,e,_⟩:=ok.each r hr;exact⟨b,hb,e⟩) ok.nodup fun _ _ _ _=>rfl
 refine⟨z.1,?_⟩
 have e:=z.2
 unfold told
 unfold ND at e ⊢
 bv_omega
theorem xG3 (k:Nat) (xs:List Int) (n:Nat):(told n k xs).length=ND n k xs:=by
 unfold told ND
 rw[List.length_flatMap]
 congr 1
 refine List.map_congr_left fun r _ => ?_
 unfold pr
 simp
def Vp (n:Nat) (q:Nat×Nat):Prop:=q.1<n/\q.2<n/\q.1≠q.2
theorem yY8 (o:Ord n xs){k:Nat}(hk:1<=k):∀q∈told n k xs,Vp n q:=fun q hq=>by
 have ok:=o.wM n (Nat.le_refl n)
 unfold told at hq
 obtain⟨r,hr,hq⟩:=List.mem_flatMap.mp hq
 obtain⟨b,hb,rfl,_⟩:=ok.each r hr
 unfold pr at hq
 obtain⟨m,hm,rfl⟩:=List.mem_map.mp hq
 have hm:=List.mem_range.mp hm
 rw[yS] at hm
 have lt:=zC2 hk hm
 have p1:=(o.yK hb).1
 have:1*k<=(m+1)*k:=Nat.mul_le_mul_right k (by bv_omega)
 refine⟨?_,?_,?_⟩
 ·show (ring n xs b).getD 0 0<n
  rw[qA (by bv_omega)];exact o.uR hb 0
 ·show (ring n xs b).getD ((m+1)*k) 0<n
  rw[qA lt];exact o.uR hb _
 ·show (ring n xs b).getD 0 0≠(ring n xs b).getD ((m+1)*k) 0
  rw[qA (by bv_omega),qA lt]
  exact o.yO4 hb (by bv_omega) lt
theorem wU4 (o:Ord n xs):∀ps:List (Nat×Nat),(∀q∈ps,Vp n q)->Ord n (runX xs ps):=fun ps=>by
 induction ps generalizing xs with
 | nil=>intro _;exact o
 | cons q ps ih =>
  intro h
  have hq:=h q (List.mem_cons_self ..)
  exact ih (zX6 o hq.1 hq.2.1) fun x hx=>h x (List.mem_cons_of_mem _ hx)
end
end MR
namespace M12
def ff (n:Int):Nat->Int
 | 0=>1
 | j+1=>ff n j*(n-j)
def tot (least:Int) (many:List Int):Nat->Int
 | 0=>0
 | j+1=>if least<=(j:Int)+1 then tot least many j+ff ((many.length:Int)-1) j*many.getD (many.length-(j+1)) 0 else tot least many j
def mbl (least most:Int):Nat->List Int
 | 0=>[1]
 | n+1=>mbl least most n ++ [tot least (mbl least most n) (min most ((n:Int)+1)).toNat]
theorem xH (least most:Int):∀n,(mbl least most n).length=n+1
 | 0=>rfl
 | n+1=>by rw[mbl,List.length_append,xH least most n];rfl
theorem yC6 (least most:Int):∀(n i:Nat),i<=n->(mbl least most n).getD i 0=(mbl least most i).getD i 0
 | 0,i,h=>by
  have:i=0:=by bv_omega
  subst this;rfl
 | n+1,i,h=>by
  by_cases e:i=n+1
  ·subst e;rfl
  ·have l:=xH least most n
   rw[mbl,List.getD_eq_getElem?_getD,List.getElem?_append_left (by bv_omega),<-List.getD_eq_getElem?_getD]
   exact yC6 least most n i (by bv_omega)
def G (least most:Int) (n:Nat):Int:=(mbl least most n).getD n 0
theorem vH (least most:Int) (n i:Nat) (h:i<=n):(mbl least most n).getD i 0=G least most i:=yC6 least most n i h
def totG (least:Int) (A:Nat->Int) (c:Nat):Nat->Int
 | 0=>0
 | j+1=>if least<=(j:Int)+1 then totG least A c j+ff ((c:Int)-1) j*A (c-(j+1)) else totG least A c j
theorem xL6 (least most:Int) (n:Nat):∀j,tot least (mbl least most n) j=totG least (G least most) (n+1) j
 | 0=>rfl
 | j+1=>by
  have l:=xH least most n
  have e:(mbl least most n).getD (n+1-(j+1)) 0=G least most (n+1-(j+1)):=vH least most n _ (by bv_omega)
  rw[tot,totG,xL6 least most n j,l,e]
theorem yJ5 (least most:Int):G least most 0=1:=rfl
theorem yG9 (least most:Int) (n:Nat):G least most (n+1)=totG least (G least most) (n+1) (min most ((n:Int)+1)).toNat:=by
 have l:=xH least most n
 rw[<-xL6]
 unfold G
 rw[mbl,List.getD_eq_getElem?_getD,List.getElem?_append_right (by bv_omega),l]
 simp
theorem zU3 (n:Int):∀j,ff (n+1) (j+1)=(n+1)*ff n j
 | 0=>by simp[ff]
 | j+1=>by
  rw[ff,zU3 n j,ff]
  have:n+1-((j+1:Nat):Int)=n-(j:Int):=by bv_omega
  rw[this,Int.mul_assoc]
def lines (a:Int) (m:Int):Nat->Int
 | 0=>a
 | j+1=>lines a m j*(m-((j:Int)+1))
def ways (k:Int) (found:List Int) (m:Nat):Int :=
 if k<(m:Int) then (m:Int)*found.getD (m-1) 0-lines (found.getD (m-1-k.toNat) 0) m k.toNat else (m:Int)*found.getD (m-1) 0
def B:Int:=2 ^ 400
end M12
namespace M12
theorem yX1 (c:Nat) (hc:c<=61):∀j,j<=61->(ff ((c:Int)-1) j).natAbs<=2 ^ (6*j)
 | 0,_=>by simp[ff]
 | j+1,h=>by
  rw[ff,Int.natAbs_mul,Nat.mul_add,Nat.pow_add]
  have e:(2:Nat) ^ (6*1)=64:=rfl
  exact Nat.mul_le_mul (yX1 c hc j (by bv_omega)) (by rw[e];bv_omega)
theorem yG6 (least:Int) (A:Nat->Int) (c b:Nat) (hc:c<=61) (hA:∀i,i<c->(A i).natAbs<=2 ^ b):∀j,j<=c->(totG least A c j).natAbs<=j*2 ^ (366+b)
 | 0,_=>by simp[totG]
 | j+1,h=>by
  have ih:=yG6 least A c b hc hA j (by bv_omega)
  have m:(ff ((c:Int)-1) j*A (c-(j+1))).natAbs<=2 ^ (366+b):=by
   rw[Int.natAbs_mul,Nat.pow_add]
   refine Nat.mul_le_mul (Nat.le_trans (yX1 c hc j (by bv_omega)) (Nat.pow_le_pow_right (by decide) (by bv_omega))) (hA _ (by bv_omega))
  rw[totG]
  split
  ·rw[Nat.succ_mul]
   exact Nat.le_trans (Int.natAbs_add_le _ _) (Nat.add_le_add ih m)
  ·rw[Nat.succ_mul]
   exact Nat.le_trans ih (Nat.le_add_right _ _)
theorem xV6 (least most:Int):∀n,n<=60->∀i,i<=n->(G least most i).natAbs<=2 ^ (400*i)
 | 0,_,i,h=>by
  have:i=0:=by bv_omega
  subst this
  rw[yJ5];decide
 | n+1,hn,i,h=>by
  by_cases e:i<=n
  ·exact xV6 least most n (by bv_omega) i e
  ·have:i=n+1:=by bv_omega
   subst this
   rw[yG9]
   have q:=yG6 least (G least most) (n+1) (400*n) (by bv_omega) (fun i hi=>Nat.le_trans (xV6 least most n (by bv_omega) i (by bv_omega)) (Nat.pow_le_pow_right (by decide) (by bv_omega))) (min most ((n:Int)+1)).toNat (by bv_omega)
   refine Nat.le_trans q ?_
   have e1:(min most ((n:Int)+1)).toNat<=2 ^ 6:=by
    have:(2:Nat) ^ 6=64:=rfl
    bv_omega
   refine Nat.le_trans (Nat.mul_le_mul_right _ e1) ?_
   rw[<-Nat.pow_add]
   exact Nat.pow_le_pow_right (by decide) (by bv_omega)
theorem yU3 (c j:Nat) (hc:c<=61) (hj:j<=61):(ff ((c:Int)-1) j).natAbs<2 ^ 367 :=
 Nat.lt_of_le_of_lt (yX1 c hc j hj) (Nat.pow_lt_pow_right (by decide) (by bv_omega))
theorem zA4 (least most:Int) (n:Nat) (hn:n<=60):(G least most n).natAbs<2 ^ 24001 :=
 Nat.lt_of_le_of_lt (xV6 least most n hn n (Nat.le_refl _)) (Nat.pow_lt_pow_right (by decide) (by bv_omega))
end M12
namespace M12
def sumN (F:Nat->Int):Nat->Int
 | 0=>0
 | n+1=>sumN F n+F n
theorem xT {F G:Nat->Int}:∀{n:Nat},(∀i,i<n->F i=G i)->sumN F n=sumN G n
 | 0,_=>rfl
 | n+1,h=>by rw[sumN,sumN,xT fun i hi=>h i (by bv_omega),h n (by bv_omega)]
theorem kM (F G:Nat->Int):∀n,sumN (fun i=>F i+G i) n=sumN F n+sumN G n
 | 0=>rfl
 | n+1=>by rw[sumN,sumN,sumN,kM F G n];bv_omega
theorem fT (c:Int) (F:Nat->Int):∀n,sumN (fun i=>c*F i) n=c*sumN F n
 | 0=>by simp[sumN]
 | n+1=>by rw[sumN,sumN,fT c F n,Int.mul_add]
theorem uH (F:Nat->Int):∀n,sumN F (n+1)=F 0+sumN (fun i=>F (i+1)) n
 | 0=>by simp[sumN]
 | n+1=>by rw[sumN,uH F n,sumN];bv_omega
theorem vY {F:Nat->Int}:∀{n:Nat},(∀i,i<n->F i=0)->sumN F n=0
 | 0,_=>rfl
 | n+1,h=>by rw[sumN,vY fun i hi=>h i (by bv_omega),h n (by bv_omega)];rfl
theorem zU2 (F:Nat->Int) (a:Nat):∀b,sumN F (a+b)=sumN F a+sumN (fun i=>F (a+i)) b
 | 0=>by simp[sumN]
 | b+1=>by rw[<-Nat.add_assoc,sumN,zU2 F a b,sumN];bv_omega
def bin:Nat->Nat->Int
 | _,0=>1
 | 0,_+1=>0
 | n+1,m+1=>bin n m+bin n (m+1)
theorem bM (n:Nat):bin n 0=1:=by cases n <;> rfl
theorem zG7:∀(n m:Nat),n<m->bin n m=0
 | 0,m+1,_=>rfl
 | n+1,m+1,h=>by rw[bin,zG7 n m (by bv_omega),zG7 n (m+1) (by bv_omega)];rfl
theorem yL8:∀n,bin n n=1
 | 0=>rfl
 | n+1=>by rw[bin,yL8 n,zG7 n (n+1) (by bv_omega)];rfl
theorem zT2:∀(n m:Nat),bin n (m+1)*((m:Int)+1)=bin n m*((n:Int)-m)
 | 0,0=>by simp[bin]
 | 0,m+1=>by simp[bin]
 | n+1,0=>by
  have h:=zT2 n 0
  rw[bM] at h ⊢
  rw[bin,bM]
  have:((n+1:Nat):Int)=(n:Int)+1:=by bv_omega
  rw[this]
  simp at h ⊢
  bv_omega
 | n+1,m+1=>by
  have h1:=zT2 n m
  have h2:=zT2 n (m+1)
  show (bin n (m+1)+bin n (m+2))*(((m+1:Nat):Int)+1)=(bin n m+bin n (m+1))*(((n+1:Nat):Int)-((m+1:Nat):Int))
  rw[show ((m+1:Nat):Int)=(m:Int)+1 by bv_omega] at h2 ⊢
  rw[show ((n+1:Nat):Int)=(n:Int)+1 by bv_omega]
  rw[show (n:Int)+1-((m:Int)+1)=(n:Int)-m by bv_omega,Int.add_mul,Int.add_mul,h2,<-h1]
  rw[Int.mul_add (bin n (m+1)) ((m:Int)+1) 1,show (n:Int)-((m:Int)+1)=((n:Int)-m)-1 by bv_omega,Int.mul_sub]
  bv_omega
def fac:Nat->Int
 | 0=>1
 | n+1=>fac n*((n:Int)+1)
end M12
namespace M12
theorem xG5 (n m:Nat):(bin n m*((n:Int)-m)) / ((m:Int)+1)=bin n (m+1):=by
 rw[<-zT2,Int.mul_ediv_cancel _ (by bv_omega)]
def tells (g b:List Int) (n:Nat):Nat->List Int
 | 0=>[]
 | m+1=>tells g b n m ++ [bin n m*g.getD m 0*b.getD (n-m) 0]
theorem uP (g b:List Int) (n:Nat):∀m,(tells g b n m).length=m
 | 0=>rfl
 | m+1=>by rw[tells,List.length_append,uP g b n m];rfl
theorem gL:∀(n m:Nat),0<=bin n m
 | n,0=>by rw[bM];decide
 | 0,m+1=>by show (0:Int)<=0;decide
 | n+1,m+1=>by
  have h1:=gL n m
  have h2:=gL n (m+1)
  rw[bin];bv_omega
theorem yF8:∀(n m:Nat),bin n m<=2 ^ n
 | n,0=>by
  rw[bM]
  have:(0:Int)<2 ^ n:=Int.pow_pos (by decide)
  bv_omega
 | 0,m+1=>by show (0:Int)<=1;decide
 | n+1,m+1=>by
  have h1:=yF8 n m
  have h2:=yF8 n (m+1)
  rw[bin,Int.pow_succ];bv_omega
end M12
namespace M12
def inWin (o q p:Nat):Bool:=decide (p<=q/\q<p+o)
def stepM (n o:Nat) (v:Nat->Int) (q:Nat):Int :=
 (if q+1<=n then ((q:Int)+1)*v (q+1) else 0)+sumN (fun p=>if inWin o q p then v p else 0) (n+1)
def stepL (n o:Nat) (u:Nat->Int) (i:Nat):Int :=
 (if i=0 then 0 else u (i-1))+sumN (fun l=>if inWin o l i then u l*ff (l:Int) (l-i) else 0) n
def pair (n:Nat) (u v:Nat->Int):Int:=sumN (fun p=>fac p*u p*v p) (n+1)
theorem zP6 (F:Nat->Nat->Int):∀a b,sumN (fun i=>sumN (fun j=>F i j) b) a=sumN (fun j=>sumN (fun i=>F i j) a) b
 | 0,b=>(vY (F:=fun j=>sumN (fun i=>F i j) 0) fun i _=>rfl).symm
 | a+1,b=>by
  rw[sumN,zP6 F a b,<-kM]
  exact xT fun j _=>by rw[sumN]
theorem yQ9 (c:Int) (F:Nat->Int) (n:Nat):sumN (fun i=>F i*c) n=sumN F n*c:=by
 rw[xT (fun i _=>Int.mul_comm (F i) c),fT,Int.mul_comm]
theorem xO1 (i:Nat):∀d:Nat,fac i*ff ((i+d:Nat):Int) d=fac (i+d)
 | 0=>by simp[ff]
 | d+1=>by
  rw[show ((i+(d+1):Nat):Int)=((i+d:Nat):Int)+1 by bv_omega,zU3,show i+(d+1)=(i+d)+1 by bv_omega,fac,<-xO1 i d]
  rw[Int.mul_comm (((i+d:Nat):Int)+1),<-Int.mul_assoc]
theorem adjoint (n o:Nat) (u v:Nat->Int) (hu:u n=0):pair n (stepL n o u) v=pair n u (stepM n o v):=by
 have left:pair n (stepL n o u) v=sumN (fun i=>fac i*(if i=0 then 0 else u (i-1))*v i) (n+1)+sumN (fun i=>sumN (fun l=>if inWin o l i then fac l*u l*v i else 0) n) (n+1):=by
  unfold pair
  rw[<-kM]
  refine xT fun i hi => ?_
  unfold stepL
  rw[Int.mul_add,Int.add_mul]
  congr 1
  rw[<-fT,<-yQ9]
  refine xT fun l hl => ?_
  by_cases c:inWin o l i=true
  ·rw[if_pos c,if_pos c]
   have h:=of_decide_eq_true c
   obtain⟨d,rfl⟩:∃d,l=i+d:=⟨l-i,by bv_omega⟩
   rw[show i+d-i=d by bv_omega,Int.mul_comm (u (i+d)),<-Int.mul_assoc,xO1]
  ·rw[if_neg c,if_neg c];simp
 have right:pair n u (stepM n o v)=sumN (fun l=>fac l*u l*(if l+1<=n then ((l:Int)+1)*v (l+1) else 0)) (n+1)+sumN (fun l=>sumN (fun i=>if inWin o l i then fac l*u l*v i else 0) (n+1)) (n+1):=by
  unfold pair
  rw[<-kM]
  refine xT fun l hl => ?_
  unfold stepM
  rw[Int.mul_add]
  congr 1
  rw[<-fT]
  refine xT fun i hi => ?_
  by_cases c:inWin o l i=true
  ·rw[if_pos c,if_pos c]
  ·rw[if_neg c,if_neg c];simp
 rw[left,right]
 congr 1
 ·
  rw[uH]
  have z:fac 0*(if (0:Nat)=0 then 0 else u (0-1))*v 0=0:=by simp
  rw[z,Int.zero_add]
  conv=>rhs;rw[sumN]
  have t:fac n*u n*(if n+1<=n then ((n:Int)+1)*v (n+1) else 0)=0:=by rw[hu];simp
  rw[t,Int.add_zero]
  refine xT fun i hi => ?_
  rw[if_neg (by bv_omega),if_pos (by bv_omega),fac,show i+1-1=i by bv_omega]
  rw[Int.mul_assoc (fac i),Int.mul_comm ((i:Int)+1),<-Int.mul_assoc,Int.mul_assoc (fac i*u i)]
 ·
  rw[zP6 (fun i l=>if inWin o l i then fac l*u l*v i else 0) (n+1) n]
  conv=>rhs;rw[sumN]
  have t:sumN (fun i=>if inWin o n i then fac n*u n*v i else 0) (n+1)=0:=vY fun i hi=>by rw[hu];simp
  rw[t,Int.add_zero]
def e0 (i:Nat):Int:=if i=0 then 1 else 0
def runM (n:Nat) (os:List Nat):Nat->Int:=os.foldl (fun v o=>stepM n o v) e0
def runL (n:Nat) (os:List Nat):Nat->Int:=os.foldl (fun u o=>stepL n o u) e0
theorem zO1 (n:Nat) (os:List Nat) (o:Nat):runL n (os ++ [o])=stepL n o (runL n os):=by unfold runL;rw[List.foldl_append];rfl
theorem kH (n:Nat) (os:List Nat) (o:Nat):runM n (os ++ [o])=stepM n o (runM n os):=by unfold runM;rw[List.foldl_append];rfl
theorem zN5 (n:Nat):∀(os:List Nat) (i:Nat),os.length<i->runL n os.reverse i=0
 | [],i,h=>by
  show e0 i=0
  unfold e0
  rw[if_neg (by simp at h;bv_omega)]
 | o::os,i,h=>by
  rw[List.length_cons] at h
  rw[List.reverse_cons,zO1]
  unfold stepL
  rw[if_neg (by bv_omega),zN5 n os (i-1) (by bv_omega),vY fun l hl => ?_]
  ·rfl
  ·by_cases c:inWin o l i=true
   ·have h':=of_decide_eq_true c
    rw[if_pos c,zN5 n os l (by bv_omega)];simp
   ·rw[if_neg c]
theorem yO1 (n:Nat) (u:Nat->Int):pair n u e0=u 0:=by
 unfold pair
 rw[uH,vY fun i hi => ?_]
 ·show fac 0*u 0*1+0=u 0
  rw[show fac 0=1 from rfl];bv_omega
 ·show fac (i+1)*u (i+1)*(if i+1=0 then 1 else 0)=0
  rw[if_neg (by bv_omega),Int.mul_zero]
theorem yE3 (n:Nat) (v:Nat->Int):pair n e0 v=v 0:=by
 unfold pair
 rw[uH,vY fun i hi => ?_]
 ·show fac 0*1*v 0+0=v 0
  rw[show fac 0=1 from rfl];bv_omega
 ·show fac (i+1)*(if i+1=0 then 1 else 0)*v (i+1)=0
  rw[if_neg (by bv_omega),Int.mul_zero,Int.zero_mul]
theorem yQ8 (n:Nat):∀(os ps:List Nat),os.length+ps.length<=n->pair n (runL n os.reverse) (runM n ps)=pair n e0 (runM n (ps++os))
 | [],ps,_=>by rw[List.append_nil];rfl
 | o::os,ps,h=>by
  rw[List.length_cons] at h
  rw[List.reverse_cons,zO1,adjoint n o _ _ (zN5 n os n (by bv_omega)),<-kH,yQ8 n os (ps ++ [o]) (by rw[List.length_append];simp;bv_omega),List.append_assoc]
  rfl
theorem yF4 (os:List Nat):runL os.length os.reverse 0=runM os.length os 0:=by
 have h:=yQ8 os.length os [] (by simp)
 rw[List.nil_append] at h
 rw[<-yE3 os.length (runM os.length os),<-h]
 show _=pair _ _ e0
 rw[yO1]
end M12
namespace MR
def nf:Nat->Nat->Nat
 | _,0=>1
 | m,j+1=>m*nf (m-1) j
theorem zB9:∀(j m:Nat),j<=m->0<nf m j
 | 0,_,_=>Nat.one_pos
 | j+1,m,h=>Nat.mul_pos (by bv_omega) (zB9 j (m-1) (by bv_omega))
theorem yA4:∀(j m:Nat),j<=m->nf m (j+1)=nf m j*(m-j)
 | 0,m,_=>by simp[nf]
 | j+1,m,h=>by
  show m*nf (m-1) (j+1)=m*nf (m-1) j*(m-(j+1))
  rw[yA4 j (m-1) (by bv_omega),Nat.mul_assoc,show m-1-j=m-(j+1) by bv_omega]
def pk:Nat->List Nat->Nat->List Nat
 | 0,_,_=>[]
 | j+1,l,r=>l.getD (r / nf (l.length-1) j) 0::pk j (l.eraseIdx (r / nf (l.length-1) j)) (r%nf (l.length-1) j)
def pr':List Nat->List Nat->Nat
 | _,[]=>0
 | l,x::xs=>l.idxOf x*nf (l.length-1) xs.length+pr' (l.erase x) xs
theorem yM8:∀(j:Nat) (l:List Nat) (r:Nat),(pk j l r).length=j
 | 0,_,_=>rfl
 | j+1,l,r=>by rw[pk,List.length_cons,yM8 j]
theorem xK2 {j m r:Nat}(h:r<nf m (j+1)):r / nf (m-1) j<m:=Nat.div_lt_of_lt_mul (by rw[nf,Nat.mul_comm] at h;exact h)
theorem yW5:∀(l:List Nat) (j:Nat),l.Nodup->j<l.length->l.idxOf (l.getD j 0)=j/\l.erase (l.getD j 0)=l.eraseIdx j
 | a::l,0,_,_=>by simp
 | a::l,j+1,nd,h=>by
  have h':j<l.length:=by simpa using h
  have nd':=List.nodup_cons.mp nd
  obtain⟨e1,e2⟩:=yW5 l j nd'.2 h'
  have m:l.getD j 0∈l:=by simp[List.getD,h']
  have ne:¬a=l.getD j 0:=fun e=>nd'.1 (by rw[e];exact m)
  have g:(a::l).getD (j+1) 0=l.getD j 0:=rfl
  rw[g]
  constructor
  ·rw[List.idxOf_cons,show (a == l.getD j 0)=false by simpa using ne]
   show _+1=_
   rw[e1]
  ·rw[List.erase_cons,if_neg (by simpa using ne),e2]
   rfl
theorem zS9 {l:List Nat}{j:Nat}(h:j<l.length):l.getD j 0∈l:=by simp[List.getD,h]
theorem xA1:∀(j:Nat) (l:List Nat) (r:Nat),l.Nodup->j<=l.length->r<nf l.length j->(pk j l r).Nodup/\(∀x∈pk j l r,x∈l)/\pr' l (pk j l r)=r
 | 0,l,r,_,_,hr=>by
  simp[nf] at hr
  subst hr
  exact⟨List.nodup_nil,fun x hx=>(nomatch hx),rfl⟩
 | j+1,l,r,nd,hj,hr=>by
  have hd:=xK2 hr
  obtain⟨e1,e2⟩:=yW5 l _ nd hd
  have hl:(l.eraseIdx (r / nf (l.length-1) j)).length=l.length-1:=List.length_eraseIdx_of_lt hd
  have p:=zB9 j (l.length-1) (by bv_omega)
  obtain⟨h1,h2,h3⟩:=xA1 j (l.eraseIdx (r / nf (l.length-1) j)) (r%nf (l.length-1) j) (nd.eraseIdx _) (by bv_omega) (by rw[hl];exact Nat.mod_lt _ p)
  have sub:∀x∈l.eraseIdx (r / nf (l.length-1) j),x∈l:=fun x hx=>(List.eraseIdx_sublist l _).subset hx
  rw[pk]
  refine⟨List.nodup_cons.mpr ⟨fun z => ?_,h1⟩,fun x hx => ?_,?_⟩
  ·have:=h2 _ z
   rw[<-e2] at this
   exact nd.not_mem_erase this
  ·rcases List.mem_cons.mp hx with rfl | hx
   ·exact zS9 hd
   ·exact sub x (h2 x hx)
  ·rw[pr',e1,e2,h3,yM8,Nat.mul_comm]
   exact Nat.div_add_mod r _
theorem xY5:∀(xs l:List Nat),xs.Nodup->(∀x∈xs,x∈l)->xs.length<=l.length
 | [],l,_,_=>Nat.zero_le _
 | x::xs,l,nd,h=>by
  have nd':=List.nodup_cons.mp nd
  have mx:=h x (List.mem_cons_self ..)
  have:=xY5 xs (l.erase x) nd'.2 fun y hy=>(List.mem_erase_of_ne (fun (e:y=x)=>nd'.1 (by rw[<-e];exact hy))).mpr (h y (List.mem_cons_of_mem _ hy))
  rw[List.length_erase_of_mem mx] at this
  have:=List.length_pos_of_mem mx
  rw[List.length_cons]
  bv_omega
theorem yL3 {x:Nat}{xs l:List Nat}(nd:(x::xs).Nodup) (h:∀y∈x::xs,y∈l):∀y∈xs,y∈l.erase x:=fun y hy =>
 (List.mem_erase_of_ne (fun (e:y=x)=>(List.nodup_cons.mp nd).1 (by rw[<-e];exact hy))).mpr (h y (List.mem_cons_of_mem _ hy))
theorem xA5:∀(xs l:List Nat),l.Nodup->xs.Nodup->(∀x∈xs,x∈l)->pr' l xs<nf l.length xs.length
 | [],l,_,_,_=>by simp[pr',nf]
 | x::xs,l,nl,nd,h=>by
  have nd':=List.nodup_cons.mp nd
  have mx:=h x (List.mem_cons_self ..)
  have ih:=xA5 xs (l.erase x) (nl.erase x) nd'.2 (yL3 nd h)
  have li:=List.idxOf_lt_length_iff.mpr mx
  rw[List.length_erase_of_mem mx] at ih
  rw[pr',List.length_cons,nf]
  have:(l.idxOf x+1)*nf (l.length-1) xs.length<=l.length*nf (l.length-1) xs.length:=Nat.mul_le_mul_right _ (by bv_omega)
  rw[Nat.add_mul,Nat.one_mul] at this
  bv_omega
def smN (A:Nat->Nat) (c:Nat):Nat->Nat
 | 0=>0
 | j+1=>smN A c j+nf (c-1) j*A (c-(j+1))
theorem zG9 (A:Nat->Nat) (c:Nat){i:Nat}:∀{j},i<=j->smN A c i<=smN A c j
 | 0,h=>by
  have:i=0:=by bv_omega
  subst this
  exact Nat.le_refl _
 | j+1,h=>by
  by_cases e:i=j+1
  ·subst e
   exact Nat.le_refl _
  ·have:=zG9 A c (i:=i) (j:=j) (by bv_omega)
   rw[smN]
   bv_omega
theorem yH4 (A:Nat->Nat) (c N:Nat):∀J,N<smN A c J->∃j,j<J/\smN A c j<=N/\N<smN A c (j+1)
 | 0,h=>by simp[smN] at h
 | J+1,h=>by
  by_cases q:N<smN A c J
  ·obtain⟨j,h1,h2,h3⟩:=yH4 A c N J q
   exact⟨j,by bv_omega,h2,h3⟩
  ·exact⟨J,by bv_omega,by bv_omega,h⟩
theorem xW1:∀j,M12.ff 0 (j+1)=0
 | 0=>by simp[M12.ff]
 | j+1=>by rw[M12.ff,xW1 j,Int.zero_mul]
theorem yN7:∀(j m:Nat),M12.ff (m:Int) j=((nf m j:Nat):Int)
 | 0,m=>rfl
 | j+1,0=>by
  rw[nf,Nat.zero_mul]
  exact xW1 j
 | j+1,m+1=>by
  rw[nf,Nat.add_sub_cancel,Int.natCast_mul,<-yN7 j m]
  exact M12.zU3 (m:Int) j
theorem yW2 {A:Nat->Int}{B:Nat->Nat}{c:Nat}(h:∀i,i<c+1->A i=(B i:Int)):∀j,M12.totG 1 A (c+1) j=((smN B (c+1) j:Nat):Int)
 | 0=>rfl
 | j+1=>by
  have e1:(((c+1:Nat):Int)-1)=(c:Int):=by bv_omega
  have e2:((smN B (c+1) (j+1):Nat):Int)=((smN B (c+1) j:Nat):Int)+((nf c j:Nat):Int)*((B (c+1-(j+1)):Nat):Int):=by
   rw[smN,Nat.add_sub_cancel,<-Int.natCast_mul,<-Int.natCast_add]
  rw[M12.totG,if_pos (by bv_omega),yW2 h j,e2,e1,<-yN7,h _ (by bv_omega)]
def gn (k m:Nat):Nat:=(M12.G 1 (k:Int) m).toNat
theorem jF (k m:Nat):M12.G 1 (k:Int) m=((gn k m:Nat):Int):=by
 have nn:∀m,∀i,i<=m->0<=M12.G 1 (k:Int) i:=fun m=>by
  induction m with
  | zero =>
   intro i hi
   have:i=0:=by bv_omega
   subst this
   rw[M12.yJ5]
   bv_omega
  | succ m ih =>
   intro i hi
   by_cases e:i=m+1
   ·subst e
    rw[M12.yG9,yW2 (B:=fun i=>(M12.G 1 (k:Int) i).toNat) fun i hi=>(Int.toNat_of_nonneg (ih i (by bv_omega))).symm]
    exact Int.natCast_nonneg _
   ·exact ih i (by bv_omega)
 exact (Int.toNat_of_nonneg (nn m m (Nat.le_refl _))).symm
theorem xW2 (k:Nat):gn k 0=1:=rfl
theorem zI1 (k m:Nat):gn k (m+1)=smN (gn k) (m+1) (min k (m+1)):=by
 have h:=jF k (m+1)
 rw[M12.yG9,yW2 fun i _=>jF k i,show (min (k:Int) ((m:Int)+1)).toNat=min k (m+1) by bv_omega] at h
 exact_mod_cast h.symm
def wo (l r:List Nat):List Nat:=l.filter fun b=>!r.contains b
theorem zW3 (l r:List Nat):(wo l r).Sublist l:=List.filter_sublist
theorem wQ6 {l r:List Nat}{x:Nat}:x∈wo l r↔x∈l/\x∉r:=by
 unfold wo
 simp
theorem yU4:∀(l r:List Nat),l.Nodup->r.Nodup->(∀x∈r,x∈l)->(r++wo l r).Perm l
 | l,[],_,_,_=>by
  have:wo l []=l:=List.filter_eq_self.mpr fun a _=>rfl
  rw[this]
  exact List.Perm.refl _
 | l,x::r,nl,nd,h=>by
  have nd':=List.nodup_cons.mp nd
  have mx:=h x (List.mem_cons_self ..)
  have ih:=yU4 (l.erase x) r (nl.erase x) nd'.2 (yL3 nd h)
  have e:wo l (x::r)=wo (l.erase x) r:=by
   unfold wo
   rw[nl.erase_eq_filter,List.filter_filter]
   refine List.filter_congr fun b _ => ?_
   rw[List.contains_cons]
   cases h1:(b == x) <;> cases h2:r.contains b <;> simp_all
  rw[e]
  exact (ih.cons x).trans (List.perm_cons_erase mx).symm
theorem wL3 {l r:List Nat}(nl:l.Nodup) (nr:r.Nodup) (h:∀x∈r,x∈l):(wo l r).length=l.length-r.length:=by
 have:=(yU4 l r nl nr h).length_eq
 rw[List.length_append] at this
 bv_omega
inductive Told (k:Nat):List Nat->Nat->List (List Nat)->Prop
 | nil:Told k [] 0 []
 | cons {a:Nat}{t xs:List Nat}{M:Nat}{rs:List (List Nat)}:xs.length<k->xs.Nodup->(∀x∈xs,x∈t)->Told k (wo (a::t) (a::xs)) M rs ->
  Told k (a::t) (smN (gn k) (t.length+1) xs.length+pr' t xs*gn k (t.length-xs.length)+M) ((a::xs)::rs)
theorem zC6 {a:Nat}{t xs:List Nat}(nl:(a::t).Nodup) (nd:xs.Nodup) (h:∀x∈xs,x∈t):(a::xs).Nodup/\∀x∈a::xs,x∈a::t :=
 ⟨List.nodup_cons.mpr ⟨fun z=>(List.nodup_cons.mp nl).1 (h a z),nd⟩,fun x hx=>by
  rcases List.mem_cons.mp hx with rfl | hx
  ·exact List.mem_cons_self ..
  ·exact List.mem_cons_of_mem _ (h x hx)⟩
theorem yT6 {k:Nat}{l:List Nat}{N:Nat}{rs:List (List Nat)}(T:Told k l N rs):l.Nodup->rs.flatten.Perm l:=by
 induction T with
 | nil=>exact fun _=>List.Perm.refl _
 | cons h1 h2 h3 T ih =>
  intro nl
  obtain⟨n1,n2⟩:=zC6 nl h2 h3
  have:=ih (nl.sublist (zW3 _ _))
  rw[List.flatten_cons]
  exact (this.append_left _).trans (yU4 _ _ nl n1 n2)
def Can (rs:List (List Nat)):Prop:=(∀r∈rs,∃a xs,r=a::xs/\∀x∈xs,a<x)/\rs.Pairwise fun r r'=>∀x∈r.head?,∀y∈r',x<y
theorem yI5 {k:Nat}{l:List Nat}{N:Nat}{rs:List (List Nat)}(T:Told k l N rs):l.Pairwise (· < ·)->Can rs/\∀r∈rs,r.length<=k:=by
 induction T with
 | nil=>exact fun _=>⟨⟨fun r hr=>(nomatch hr),List.Pairwise.nil⟩,fun r hr=>(nomatch hr)⟩
 | @cons a t xs M rs h1 h2 h3 T ih =>
  intro nl
  have nn:(a::t).Nodup:=nl.imp fun h=>by bv_omega
  have lt:∀{x},x∈t->a<x:=fun {x} hx=>List.rel_of_pairwise_cons nl hx
  obtain⟨⟨c1,c2⟩,c3⟩:=ih (nl.sublist (zW3 _ _))
  have p:=yT6 T (nn.sublist (zW3 _ _))
  refine⟨⟨fun r hr => ?_,List.pairwise_cons.mpr ⟨fun r hr x hx y hy => ?_,c2⟩⟩,fun r hr => ?_⟩
  ·rcases List.mem_cons.mp hr with rfl | hr
   ·exact⟨a,xs,rfl,fun x hx=>lt (h3 x hx)⟩
   ·exact c1 r hr
  ·have hx:x=a:=by simpa using hx.symm
   subst hx
   have my:y∈rs.flatten:=List.mem_flatten.mpr ⟨r,hr,hy⟩
   obtain⟨m1,m2⟩:=wQ6.mp (p.mem_iff.mp my)
   rcases List.mem_cons.mp m1 with rfl | m1
   ·exact absurd (List.mem_cons_self ..) m2
   ·exact lt m1
  ·rcases List.mem_cons.mp hr with rfl | hr
   ·exact h1
   ·exact c3 r hr
theorem xK9 {k:Nat}{a:Nat}{t:List Nat}{N:Nat}(h:N<gn k (t.length+1)) :
  ∃j,j<=t.length/\j<k/\smN (gn k) (t.length+1) j<=N/\N-smN (gn k) (t.length+1) j<nf t.length j*gn k (t.length-j):=by
 rw[zI1] at h
 obtain⟨j,h1,h2,h3⟩:=yH4 _ _ _ _ h
 rw[smN,Nat.add_sub_cancel,Nat.add_sub_add_right] at h3
 exact⟨j,by bv_omega,by bv_omega,h2,by bv_omega⟩
theorem wY1 {n:Nat}{xs:List Int}{rs:List (List Nat)}(c:Can rs) (p:rs.flatten.Perm (List.range n)) (hl:xs.length=n)
  (hx:∀r∈rs,∀j,j<r.length->xs.getD (r.getD j 0) 0=((r.getD ((j+1)%r.length) 0:Nat):Int)):Ord n xs/\rgs n xs n=rs:=by
 have nd:rs.flatten.Nodup:=p.nodup_iff.mpr List.nodup_range
 have mem:∀b,b<n ↔ ∃r∈rs,b∈r:=fun b=>by rw[<-List.mem_range,<-p.mem_iff,List.mem_flatten]
 have ndr:∀r∈rs,r.Nodup:=fun r hr=>nd.sublist (List.sublist_flatten_of_mem hr)
 have posn:∀(r:List Nat) (b:Nat),b∈r->∃j,j<r.length/\r.getD j 0=b:=fun r b h=>by
  obtain⟨j,hj,e⟩:=List.mem_iff_getElem.mp h
  exact⟨j,hj,by rw[List.getD,List.getElem?_eq_getElem hj];exact e⟩
 have gm:∀(r:List Nat) j,j<r.length->r.getD j 0∈r:=fun r j h=>zS9 h
 have apart:∀r∈rs,∀r'∈rs,∀b,b∈r->b∈r'->r=r':=fun r hr r' hr' b hb hb'=>by
  have pw:=(List.pairwise_flatten.mp nd).2
  obtain⟨i,hi,e⟩:=List.mem_iff_getElem.mp hr
  obtain⟨j,hj,e'⟩:=List.mem_iff_getElem.mp hr'
  rcases Nat.lt_trichotomy i j with q | q | q
  ·have:=List.pairwise_iff_getElem.mp pw i j hi hj q
   rw[e,e'] at this
   exact absurd rfl (this b hb b hb')
  ·subst q
   rw[<-e,<-e']
  ·have:=List.pairwise_iff_getElem.mp pw j i hj hi q
   rw[e,e'] at this
   exact absurd rfl (this b hb' b hb)
 have inj:∀r:List Nat,r.Nodup->∀i j,i<r.length->j<r.length->r.getD i 0=r.getD j 0->i=j:=fun r h i j hi hj e=>by
  rw[List.getD,List.getD,List.getElem?_eq_getElem hi,List.getElem?_eq_getElem hj] at e
  exact (List.getElem_inj h).mp e
 have nx:∀r∈rs,∀j,j<r.length->nxt xs (r.getD j 0)=r.getD ((j+1)%r.length) 0:=fun r hr j hj=>by
  unfold nxt
  rw[hx r hr j hj]
  exact Int.toNat_natCast _
 have o:Ord n xs:=by
  have e:xs=ofN n (nxt xs):=by
   refine List.ext_getElem (by rw[cT,hl]) fun i h1 h2 => ?_
   have g1:xs[i]=xs.getD i 0:=by rw[List.getD,List.getElem?_eq_getElem h1];rfl
   have g2:(ofN n (nxt xs))[i]=(ofN n (nxt xs)).getD i 0:=by rw[List.getD,List.getElem?_eq_getElem h2];rfl
   rw[g1,g2,yC5 (by bv_omega)]
   obtain⟨r,hr,hb⟩:=(mem i).mp (by bv_omega)
   obtain⟨j,hj,rfl⟩:=posn r i hb
   rw[nx r hr j hj,hx r hr j hj]
  rw[e]
  refine wZ4 (fun b hb => ?_) fun b b' hb hb' e => ?_
  ·obtain⟨r,hr,hb⟩:=(mem b).mp hb
   obtain⟨j,hj,rfl⟩:=posn r b hb
   rw[nx r hr j hj]
   exact (mem _).mpr ⟨r,hr,gm r _ (Nat.mod_lt _ (by bv_omega))⟩
  ·obtain⟨r,hr,hb⟩:=(mem b).mp hb
   obtain⟨j,hj,rfl⟩:=posn r b hb
   obtain⟨r',hr',hb'⟩:=(mem b').mp hb'
   obtain⟨j',hj',rfl⟩:=posn r' b' hb'
   rw[nx r hr j hj,nx r' hr' j' hj'] at e
   have m1:=Nat.mod_lt (j+1) (show r.length > 0 by bv_omega)
   have m2:=Nat.mod_lt (j'+1) (show r'.length > 0 by bv_omega)
   have er:=apart r hr r' hr' _ (gm r _ m1) (by rw[e];exact gm r' _ m2)
   subst er
   have:=inj r (ndr r hr) _ _ m1 m2 e
   have:j=j':=by
    by_cases a1:j+1=r.length
    ·rw[a1,Nat.mod_self] at this
     by_cases a2:j'+1=r.length
     ·bv_omega
     ·rw[Nat.mod_eq_of_lt (by bv_omega)] at this
      bv_omega
    ·rw[Nat.mod_eq_of_lt (show j+1<r.length by bv_omega)] at this
     by_cases a2:j'+1=r.length
     ·rw[a2,Nat.mod_self] at this
      bv_omega
     ·rw[Nat.mod_eq_of_lt (by bv_omega)] at this
      bv_omega
   rw[this]
 refine⟨o,?_⟩
 have walk:∀r∈rs,∀i,0<r.length->it xs i (r.getD 0 0)=r.getD (i%r.length) 0:=fun r hr i h=>by
  induction i with
  | zero=>rw[Nat.zero_mod];rfl
  | succ i ih =>
   show nxt xs (it xs i _)=_
   rw[ih,nx r hr _ (Nat.mod_lt _ h),Nat.mod_add_mod]
 have pr:∀r∈rs,0<r.length->per n xs (r.getD 0 0)=r.length:=fun r hr h=>by
  refine zM5 o ((mem _).mpr ⟨r,hr,gm r 0 h⟩) h (by rw[walk r hr _ h,Nat.mod_self]) fun i h1 h2 e => ?_
  rw[walk r hr i h,Nat.mod_eq_of_lt h2] at e
  have:=inj r (ndr r hr) _ _ h2 h e
  bv_omega
 have rg:∀r∈rs,0<r.length->ring n xs (r.getD 0 0)=r:=fun r hr h=>by
  unfold ring
  rw[pr r hr h]
  refine List.ext_getElem (by simp) fun i h1 h2 => ?_
  rw[List.getElem_map,List.getElem_range,walk r hr i h,Nat.mod_eq_of_lt h2,List.getD,List.getElem?_eq_getElem h2]
  rfl
 have pos:∀r∈rs,0<r.length:=fun r hr=>by
  obtain⟨a,ys,rfl,_⟩:=c.1 r hr
  simp
 have main:∀m,m<=n->rgs n xs m=rs.filter fun r=>decide (r.getD 0 0<m):=fun m=>by
  induction m with
  | zero =>
   intro _
   show []=_
   exact (List.filter_eq_nil_iff.mpr fun r _=>by simp).symm
  | succ m ih =>
   intro hm
   have ih:=ih (by bv_omega)
   rw[rgs,ih]
   by_cases q:has (rs.filter fun r=>decide (r.getD 0 0<m)) m=true
   ·rw[if_pos q]
    obtain⟨r,hr,hb⟩:=zJ2.mp q
    obtain⟨hr,hd⟩:=List.mem_filter.mp hr
    have hd:=of_decide_eq_true hd
    refine List.filter_congr fun r' hr' => ?_
    have:¬r'.getD 0 0=m:=fun e=>by
     have:=apart r hr r' hr' m hb (by rw[<-e];exact gm r' 0 (pos r' hr'))
     subst this
     bv_omega
    by_cases a:r'.getD 0 0<m
    ·rw[decide_eq_true a,decide_eq_true (by bv_omega)]
    ·rw[decide_eq_false a,decide_eq_false (by bv_omega)]
   ·rw[if_neg q]
    obtain⟨r,hr,hb⟩:=(mem m).mp (by bv_omega)
    have e0:r.getD 0 0=m:=by
     obtain⟨a,ys,e,h⟩:=c.1 r hr
     rcases List.mem_cons.mp (e▸hb) with z | z
     ·rw[e,z];rfl
     ·have:=h m z
      refine absurd (zJ2.mpr ⟨r,List.mem_filter.mpr ⟨hr,decide_eq_true ?_⟩,hb⟩) q
      rw[e]
      exact this
    obtain⟨A,B,rfl⟩:=List.append_of_mem hr
    have pw:=List.pairwise_append.mp c.2
    have head:∀r':List Nat,0<r'.length->r'.getD 0 0∈r'.head?:=fun r' h=>by
     cases r' with
     | nil=>simp at h
     | cons x _=>rfl
    have hA:∀r'∈A,r'.getD 0 0<m:=fun r' h'=>by
     have hr':r'∈A++r::B:=List.mem_append_left _ h'
     exact pw.2.2 r' h' r (List.mem_cons_self ..) _ (head r' (pos r' hr')) m hb
    have hB:∀r'∈B,m<r'.getD 0 0:=fun r' h'=>by
     have hr':r'∈A++r::B:=List.mem_append_right _ (List.mem_cons_of_mem _ h')
     exact List.rel_of_pairwise_cons pw.2.1 h' m (by rw[<-e0];exact head r (pos r hr)) _ (gm r' 0 (pos r' hr'))
    have fA:∀m',m<=m'->A.filter (fun r=>decide (r.getD 0 0<m'))=A:=fun m' h=>List.filter_eq_self.mpr fun r' h'=>decide_eq_true (by have:=hA r' h';bv_omega)
    have fB:∀m',m'<=m+1->B.filter (fun r=>decide (r.getD 0 0<m'))=[]:=fun m' h=>List.filter_eq_nil_iff.mpr fun r' h'=>by
     have:=hB r' h'
     rw[decide_eq_false (by bv_omega)]
     exact Bool.false_ne_true
    rw[List.filter_append,List.filter_append,fA m (Nat.le_refl _),fA (m+1) (by bv_omega),List.filter_cons_of_neg (by rw[e0];simp),fB m (by bv_omega),List.append_nil,
     List.filter_cons_of_pos (by rw[e0];simp),fB (m+1) (Nat.le_refl _),<-e0,rg r hr (pos r hr)]
 rw[main n (Nat.le_refl _)]
 exact List.filter_eq_self.mpr fun r hr=>decide_eq_true ((mem _).mpr ⟨r,hr,gm r 0 (pos r hr)⟩)
theorem yB3:∀(i m:Nat),i<=m->nf m i*nf (m-i) (m-i)=nf m m
 | 0,m,_=>by simp[nf]
 | i+1,0,h=>absurd h (by bv_omega)
 | i+1,m+1,h=>by
  rw[nf,nf,Nat.add_sub_cancel,Nat.add_sub_add_right,Nat.mul_assoc,yB3 i m (by bv_omega)]
theorem xB7 (k:Nat):∀m,gn k m<=nf m m:=fun m=>by
 induction m using Nat.strongRecOn with
 | ind m ih =>
  cases m with
  | zero=>exact Nat.le_refl _
  | succ m =>
   have b:∀j,j<=m+1->smN (gn k) (m+1) j<=j*nf m m:=fun j=>by
    induction j with
    | zero=>exact fun _=>Nat.zero_le _
    | succ j ihj =>
     intro h
     have h1:=ihj (by bv_omega)
     have h2:nf m j*gn k (m-j)<=nf m m:=by
      rw[<-yB3 j m (by bv_omega)]
      exact Nat.mul_le_mul_left _ (ih (m-j) (by bv_omega))
     rw[smN,Nat.add_sub_cancel,Nat.add_sub_add_right,Nat.add_mul,Nat.one_mul]
     bv_omega
   rw[zI1]
   refine Nat.le_trans (b _ (by bv_omega)) ?_
   rw[nf,Nat.add_sub_cancel]
   exact Nat.mul_le_mul_right _ (by bv_omega)
inductive Chain:List Nat->List (List Nat)->Prop
 | nil:Chain [] []
 | cons {a:Nat}{t xs:List Nat}{rs:List (List Nat)}:xs.Nodup->(∀x∈xs,x∈t)->Chain (wo (a::t) (a::xs)) rs->Chain (a::t) ((a::xs)::rs)
theorem yB4 {n:Nat}{xs:List Int}(o:Ord n xs):Can (rgs n xs n):=by
 have k:=o.wM n (Nat.le_refl n)
 have hd:∀r∈rgs n xs n,∃b,b<n/\r=ring n xs b/\r.head?=some b/\∀c∈r,b<=c:=fun r hr=>by
  obtain⟨b,hb,rfl,h⟩:=k.each r hr
  exact⟨b,hb,rfl,dM o hb,fun c hc=>h c (xY.mp hc)⟩
 refine⟨fun r hr => ?_,?_⟩
 ·obtain⟨b,hb,e,h1,h2⟩:=hd r hr
  have nd:r.Nodup:=by rw[e];exact o.zV3 hb
  cases r with
  | nil=>cases h1
  | cons a ys =>
   have:a=b:=by simpa using h1
   subst this
   refine⟨a,ys,rfl,fun x hx => ?_⟩
   have:=h2 x (List.mem_cons_of_mem _ hx)
   have ne:a≠x:=fun z=>(List.nodup_cons.mp nd).1 (z▸hx)
   bv_omega
 ·have all:∀L:List (List Nat),(∀r∈L,r∈rgs n xs n)->L.Pairwise (fun r r'=>∀x∈r.head?,∀y∈r'.head?,x<y)->L.Pairwise (fun r r'=>∀x∈r.head?,∀y∈r',x<y):=fun L=>by
   induction L with
   | nil=>exact fun _ _=>List.Pairwise.nil
   | cons r L ih =>
    intro hL w
    have w':=List.pairwise_cons.mp w
    refine List.pairwise_cons.mpr ⟨fun r' hr' x hx y hy => ?_,ih (fun r hr=>hL r (List.mem_cons_of_mem _ hr)) w'.2⟩
    obtain⟨b,_,_,h1,h2⟩:=hd r' (hL r' (List.mem_cons_of_mem _ hr'))
    have:=w'.1 r' hr' x hx b (by rw[h1];rfl)
    have:=h2 y hy
    bv_omega
  exact all _ (fun r hr=>hr) k.rise
theorem wT5 {n:Nat}{xs ys:List Int}(o:Ord n xs) (o':Ord n ys) (e:rgs n xs n=rgs n ys n):xs=ys:=by
 refine MR.Ord.ext o o' fun b hb => ?_
 obtain⟨r,hr,hm⟩:=(o.wM n (Nat.le_refl n)).cover b hb
 obtain⟨c,hc,e1,_⟩:=(o.wM n (Nat.le_refl n)).each r hr
 obtain⟨c',hc',e2,_⟩:=(o'.wM n (Nat.le_refl n)).each r (e▸hr)
 have hh:c=c':=by
  have h1:=dM o hc
  have h2:=dM o' hc'
  rw[<-e1] at h1
  rw[<-e2,h1] at h2
  exact Option.some.inj h2
 subst hh
 have eq:ring n xs c=ring n ys c:=by rw[<-e1,<-e2]
 have lp:per n xs c=per n ys c:=by rw[<-yS,<-yS,eq]
 have at':∀i,i<per n xs c->it xs i c=it ys i c:=fun i hi=>by
  have h1:(ring n xs c)[i]?=some (it xs i c):=by
   unfold ring
   rw[List.getElem?_map,List.getElem?_range hi]
   rfl
  have h2:(ring n ys c)[i]?=some (it ys i c):=by
   unfold ring
   rw[List.getElem?_map,List.getElem?_range (by bv_omega)]
   rfl
  rw[eq,h2] at h1
  exact (Option.some.inj h1).symm
 rw[e1] at hm
 obtain⟨i,hi,rfl⟩:=xY.mp hm
 have p1:=o.yK hc
 have p2:=o'.yK hc
 show it xs (i+1) c=nxt ys (it xs i c)
 rw[at' i hi]
 show _=it ys (i+1) c
 by_cases z:i+1<per n xs c
 ·exact at' _ z
 ·have:i+1=per n xs c:=by bv_omega
  rw[this,p1.2.2.1,lp,p2.2.2.1]
end MR
namespace L2.L3
open PySem PySem.Spec PyProof.Rows
variable [CN]
section
variable {X:Cx}
theorem yR1:∀{ts:List Str}{us:List Value},Vals (ts.map V.str) us->∃l:List (Str×Tok),us=strValues l/\l.map (·.1)=ts
 | [],us,h=>by cases h;exact⟨[],rfl,rfl⟩
 | z::ts,us,h=>by
  cases h with
  | cons r rs =>
   obtain⟨t,rfl⟩:=r
   obtain⟨l,rfl,e⟩:=yR1 rs
   exact⟨(z,t)::l,rfl,by rw[List.map_cons,e]⟩
theorem yS5:∀l:List (Str×Tok),Vals ((l.map (·.1)).map V.str) (strValues l)
 | []=>.nil
 | (z,t)::l=>.cons ⟨t,rfl⟩ (yS5 l)
def rDig:V->List V->Hp->VK->Prop:=fun x vs H Q=>∃z,x=.str z/\vs=[]/\Q (.bl (Txt.isdigit z)) H
theorem xU5:MtR X "str.isdigit" rDig:=by
 rintro pins s σ H x vs v us Q I rx rv ⟨z,rfl,rfl,q⟩
 obtain⟨t,rfl⟩:=rx
 cases rv
 exact SC.isdigit ⟨.bl _,H,I,rfl,q⟩
def rStw:V->List V->Hp->VK->Prop:=fun x vs H Q=>∃z y,x=.str z/\vs=[.str y]/\Q (.bl (Txt.startswith z y)) H
theorem yP6:MtR X "str.startswith" rStw:=by
 rintro pins s σ H x vs v us Q I rx rv ⟨z,y,rfl,rfl,q⟩
 obtain⟨t,rfl⟩:=rx
 obtain⟨u,rfl,t2,rfl⟩:=vals1 rv
 exact SC.startswith ⟨.bl _,H,I,rfl,q⟩
def rJoin (K:KFr):V->List V->Hp->VK->Prop:=fun x vs H Q=>∃z p ts,x=.str z/\vs=[.ref p]/\SqL K H p (ts.map V.str)/\JoinOk z ts=true/\Q (.str (Txt.join z ts)) H
theorem qT:MtR X "str.join" (rJoin X.K):=by
 rintro pins s σ H x vs v us Q I rx rv ⟨z,p,ts,rfl,rfl,hq,ok,q⟩
 obtain⟨t,rfl⟩:=rx
 obtain⟨u,rfl,ru⟩:=vals1 rv
 cases ru
 obtain⟨its,r,pl,_⟩:=I.list hq
 obtain⟨l,rfl,el⟩:=yR1 r
 exact SC.join pl.isList el ok fun t' k=>⟨.str _,H,I.tok _,⟨_,rfl⟩,q⟩
def rSpl:V->List V->Hp->VK->Prop:=fun x vs H Q=>∃z y,x=.str z/\vs=[.str y]/\1<=y.length/\z.length+2<=sizeLine/\∀p,H p=none->Q (.ref p) (upd H p (.lst ((Txt.split z y).map V.str)))
theorem uT:MtR X "str.split" rSpl:=by
 rintro pins s σ H x vs v us Q I rx rv ⟨z,y,rfl,rfl,hy,hz,q⟩
 obtain⟨t,rfl⟩:=rx
 obtain⟨u,rfl,t2,rfl⟩:=vals1 rv
 have y0:(y.length == 0)=false:=by rw[beq_eq_false_iff_ne];bv_omega
 have few:=split_le z y
 have fin:∀(l:List (Str×Tok)) (k:Nat),l.map (·.1)=Txt.split z y->EP X pins σ Q (.ref s.heap.objs.size) { s with heap:=s.heap.push { cls:=.type "list",data:=.seq (strValues l).toArray },toks:=k }:=fun l k e=>by
  have V0:=yS5 l
  rw[e] at V0
  exact⟨.ref _,_,I.lnew (t':=k) V0 (by rw[List.length_map];bv_omega),rfl,q _ I.fresh⟩
 have one:∀k,Txt.split z y=[z]->EP X pins σ Q (.ref s.heap.objs.size) { s with heap:=s.heap.push { cls:=.type "list",data:=.seq [Value.str z t].toArray },toks:=k }:=fun k e=>fin [(z,t)] k (by rw[e];rfl)
 by_cases c1:(decide (z.length<y.length) || decide (Builtin.Str.strKind z<Builtin.Str.strKind y))=true
 ·have e:Txt.split z y=[z]:=by unfold Txt.split;rw[if_pos c1]
  exact call_meets F.slot_str_split (typeIs_str s z t) F.entry_str_split (F.args_str_split_2 _ _) (meets_str_split_cannot_occur z y t t2 c1) (one s.toks e)
 ·have c1':=Bool.not_eq_true _▸c1
  by_cases c2:(Builtin.Str.occurrences z y 0 z.length (z.length+1)).isEmpty=true
  ·have e:Txt.split z y=[z]:=by unfold Txt.split;rw[if_neg c1,if_pos c2]
   exact call_meets F.slot_str_split (typeIs_str s z t) F.entry_str_split (F.args_str_split_2 _ _) (meets_str_split_not_found z y t t2 (by simpa using c1) y0 c2) (one s.toks e)
  ·have e:Txt.split z y=Builtin.Str.partsBetween z (Builtin.Str.occurrences z y 0 z.length (z.length+1)) y.length:=by unfold Txt.split;rw[if_neg c1,if_neg c2]
   rw[e] at few
   refine call_meets F.slot_str_split (typeIs_str s z t) F.entry_str_split (F.args_str_split_2 _ _) (meets_str_split_sep z y t t2 (by simpa using c1) y0 (by simpa using c2) (by bv_omega) (by bv_omega)) ?_
   have key:=fin (numbered s.toks (Txt.split z y)) (s.toks+(Builtin.Str.partsBetween z (Builtin.Str.occurrences z y 0 z.length (z.length+1)) y.length).length) (numbered_texts _ _)
   rw[e,<-strsFrom_eq] at key
   exact key
end
def strD:D->Option Str
 | .str z=>some z
 | _=>none
theorem vZ {x:D}{z:Str}(h:strD x=some z):x=.str z:=by
 cases x with
 | str y=>cases h;rfl
 | _=>cases h
theorem yP (z:Str):strD (.str z)=some z:=rfl
def strsOf:List D->Option (List Str)
 | []=>some []
 | x::xs=>(strD x).bind fun z=>(strsOf xs).bind fun zs=>some (z::zs)
theorem zD4:∀zs:List Str,strsOf (zs.map PyData.str)=some zs
 | []=>rfl
 | z::zs=>by
  show (strD (.str z)).bind _=_
  rw[yP,Option.bind_some,zD4 zs]
  rfl
theorem zH2:∀{ds:List D}{zs:List Str},strsOf ds=some zs->ds=zs.map PyData.str
 | [],zs,h=>by cases h;rfl
 | x::xs,zs,h=>by
  obtain⟨z,e1,h⟩:=Option.bind_eq_some_iff.mp h
  obtain⟨ys,e2,h⟩:=Option.bind_eq_some_iff.mp h
  cases h
  rw[vZ e1,zH2 e2]
  rfl
theorem yP2 {H:Hp}{O:Addr->Prop}:∀{zs:List Str}{vs:List V},Reps H O vs (zs.map PyData.str)->vs=zs.map V.str
 | [],vs,h=>by cases h;rfl
 | z::zs,vs,h=>by
  cases h with
  | cons r rs =>
   cases r
   rw[yP2 rs]
   rfl
theorem yP1 {H:Hp}{O:Addr->Prop}:∀zs:List Str,Reps H O (zs.map V.str) (zs.map PyData.str)
 | []=>.nil
 | z::zs=>.cons (.str z) (yP1 zs)
def eM0S (f:Str->Option D) (mo:Ev->Res D):Ev->Res D:=fun ρ=>(mo ρ).bind fun x=>(Res.lft (strD x)).bind fun z=>Res.lft (f z)
theorem fV (f:Str->Option D) (mo:Ev->Res D) (ρ:Ev):eM0S f mo ρ=(mo ρ).bind fun x=>(Res.lft (strD x)).bind fun z=>Res.lft (f z):=rfl
theorem zA3 {C:Ct}{o:Expr}{apos cpos:Pos}{md:Md}{mo:Ev->Res D}(ho:RE C md o mo)
  (hbase:autoParam (attributeBase o "isdigit" C.X.env (eval o C.X.env)=eval o C.X.env) zU._auto_1) (hline:autoParam ((apos.endLine == cpos.line)=true) zU._auto_1) :
  RE C .cl (.Call (.Attribute o "isdigit" apos) [] [] cpos) (eM0S (fun z=>some (.bool (Txt.isdigit z))) mo):=by
 obtain⟨to,po,qo⟩:=ho
 refine⟨_,wM9 PySem.F.plainAttrs_str PySem.F.slot_str_isdigit PySem.F.type_str_isdigit xU5 po hbase hline,fun Oc Ob σ H ρ Q R h => ?_⟩
 refine qo Oc Ob σ H ρ _ R (Res.zO (Res.zT h) (fun dx _ k x H1 s1 vx => ?_) fun _ z=>z)
 obtain⟨z,ez,k1⟩:=Res.zF (Res.zT k)
 obtain rfl:=vZ ez
 obtain⟨d,ed,k2⟩:=Res.zF k1
 cases ed
 obtain rfl:=(vx.va R.oh).str
 exact⟨rfl,z,rfl,rfl,k2 _ H1 s1 (Rep.bl _)⟩
def eM1S (f:Str->D->Option D) (mo ma:Ev->Res D):Ev->Res D:=fun ρ=>(mo ρ).bind fun x=>(Res.lft (strD x)).bind fun z=>(ma ρ).bind fun y=>Res.lft (f z y)
theorem xZ (f:Str->D->Option D) (mo ma:Ev->Res D) (ρ:Ev):eM1S f mo ma ρ=(mo ρ).bind fun x=>(Res.lft (strD x)).bind fun z=>(ma ρ).bind fun y=>Res.lft (f z y):=rfl
def Pr1S (r:V->List V->Hp->VK->Prop) (md:Md) (f:Str->D->Option D):Prop :=
 ∀(Oc:Wd) (Ob:Addr->Prop) (H:Hp) (z:Str) (y:V) (dy d:D) (Q:VK),(∀a,Oc a\/Ob a->H a≠none)->VA Oc Ob H y dy->f z dy=some d->(∀v H',Same H H'->VR md Oc Ob H H' v d->Q v H')->r (.str z) [y] H Q
theorem yJ {C:Ct}{o a:Expr}{name:Str}{id:String}{apos cpos:Pos}{md mda mdr:Md}{mo ma:Ev->Res D}{r:V->List V->Hp->VK->Prop}{f:Str->D->Option D}(slot:Slot "str" name id) (hty:typeOf (.builtin id)=pure (.type "method_descriptor")) (hm:MtR C.X id r) (hp:Pr1S r mdr f) (ho:RE C md o mo) (ha:RE C mda a ma)
  (hbase:autoParam (attributeBase o name C.X.env (eval o C.X.env)=eval o C.X.env) zU._auto_1)
  (hfew:((backTo cpos (starEach [a] C.X.env)).all (fun x=>!x.1)&&(backToKw cpos (keywordEach [] C.X.env)).all (fun x=>x.1.isSome)
  &&decide ([a].length+([]:List Keyword).length+(if ([]:List Keyword).isEmpty then 0 else 1)<30))=true:=by rfl)
  (hline:autoParam ((apos.endLine == cpos.line)=true) zU._auto_1) (hs:autoParam (starEach [a] C.X.env=(false,eval a C.X.env)::starEach [] C.X.env) zU._auto_1) (hplain:autoParam ((backTo cpos (starEach [] C.X.env)).any (·.1)=false) zU._auto_1) :
  RE C mdr (.Call (.Attribute o name apos) [a] [] cpos) (eM1S f mo ma):=by
 obtain⟨to,po,qo⟩:=ho
 obtain⟨ta,pa,qa⟩:=ha
 refine⟨_,zJ3 PySem.F.plainAttrs_str slot hty hm po (qP pa hJ hs) hbase hfew hline hs hplain,fun Oc Ob σ H ρ Q R h => ?_⟩
 refine qo Oc Ob σ H ρ _ R (Res.zO (Res.zT h) (fun dx _ k x H1 s1 vx => ?_) fun _ z=>z)
 obtain⟨z,ez,k⟩:=Res.zF (Res.zT k)
 obtain rfl:=vZ ez
 obtain rfl:=(vx.va R.oh).str
 refine⟨rfl,qa Oc Ob σ H1 ρ _ (R.same s1) (Res.zO (Res.zT k) (fun dy _ k y H2 s2 vy => ?_) fun c z H' s'=>z H' (s1.trans s'))⟩
 obtain⟨d,ed,k⟩:=Res.zF k
 exact hp Oc Ob H2 z y dy d Q ((R.same s1).same s2).oh (vy.va (R.same s1).oh) ed fun v H' s3 rv=>k v H' ((s1.trans s2).trans s3) (rv.from (s1.trans s2))
def stwD (z:Str) (y:D):Option D:=(strD y).map fun u=>.bool (Txt.startswith z u)
theorem yP8:Pr1S rStw .cl stwD:=by
 intro Oc Ob H z y dy d Q oh vy e k
 obtain⟨u,e1,rfl⟩:=Option.map_eq_some_iff.mp e
 obtain rfl:=vZ e1
 obtain rfl:=vy.str
 exact⟨z,u,rfl,rfl,k _ H (Same.refl H) (Rep.bl _)⟩
def splD (z:Str) (y:D):Option D:=(strD y).bind fun u=>if 1<=u.length/\z.length+2<=sizeLine then some (.list ((Txt.split z u).map PyData.str)) else none
theorem uW:Pr1S rSpl .new splD:=by
 intro Oc Ob H z y dy d Q oh vy e k
 obtain⟨u,e1,e0⟩:=Option.bind_eq_some_iff.mp e
 obtain rfl:=vZ e1
 obtain rfl:=vy.str
 split at e0
 ·rename_i h
  cases e0
  exact⟨z,u,rfl,rfl,h.1,h.2,fun p hp=>k _ _ (Same.new hp) (wE (Same.refl H) hp (yP1 _))⟩
 ·cases e0
def joinD (z:Str) (y:D):Option D:=(lstD y).bind fun ds=>(strsOf ds).bind fun ts=>if JoinOk z ts=true then some (.str (Str.join z ts)) else none
theorem qO {K:KFr}:Pr1S (rJoin K) .cl joinD:=by
 intro Oc Ob H z y dy d Q oh vy e k
 obtain⟨ds,e1,e3⟩:=Option.bind_eq_some_iff.mp e
 obtain⟨ts,e2,e0⟩:=Option.bind_eq_some_iff.mp e3
 obtain rfl:=vF e1
 obtain rfl:=zH2 e2
 obtain⟨a,ys,rfl,rd,rs⟩:=vy.list
 obtain rfl:=yP2 rs
 split at e0
 ·rename_i h
  cases e0
  refine⟨z,a,ts,rfl,rfl,.inl rd,h,?_⟩
  rw[show Txt.join z ts=Str.join z ts from StrLaws.glued_eq_join z ts]
  exact k _ H (Same.refl H) (Rep.str _)
 ·cases e0
def catS:D->D->Option D:=fun x y=>(strD x).bind fun a=>(strD y).bind fun b=>if a.length+b.length<=sizeLine then some (.str (a++b)) else none
theorem xQ:Pr2 (fun x y H Q=>∃i j,x=.str i/\y=.str j/\i.length+j.length<=sizeLine/\Q (.str (i++j)) H) .cl catS:=by
 intro Oc Ob H x y dx dy d Q oh vx vy e k
 obtain⟨a,e1,e3⟩:=Option.bind_eq_some_iff.mp e
 obtain⟨b,e2,e0⟩:=Option.bind_eq_some_iff.mp e3
 obtain rfl:=vZ e1
 obtain rfl:=vZ e2
 split at e0
 ·rename_i h
  cases e0
  exact⟨a,b,vx.str,vy.str,h,k _ H (Same.refl H) (Rep.str _)⟩
 ·cases e0
def strOfD:List D->Option D
 | [.int i]=>if i.natAbs.log2<1920 then some (.str (toString i)) else none
 | _=>none
theorem vG:PrC (fun xs H Q=>∃i,xs=[.int i]/\i.natAbs.log2<1920/\Q (.str (toString i)) H) .cl strOfD:=by
 intro Oc Ob H vs ds d Q oh r e k
 unfold strOfD at e
 split at e
 ·split at e
  ·rename_i h
   cases e
   obtain⟨v,rfl,hv⟩:=zY9 r
   exact⟨_,by rw[hv.int],h,k _ H (Same.refl H) (Rep.str _)⟩
  ·cases e
 ·cases e
theorem xD {X:Cx}:CallR X (.type "int") (fun xs H Q=>∃z n,xs=[.str z]/\PySem.intText? z=some n/\z.length<=640/\Q (.int n) H):=by
 rintro pins s σ H xs us Q I r ⟨z,n,rfl,e,hl,q⟩
 obtain⟨u,rfl,t,rfl⟩:=vals1 r
 exact PySem.W.KIN.call_text e hl ⟨.int n,H,I.tok _,⟨_,rfl⟩,q⟩
def intTD:List D->Option D
 | [.str z]=>if z.length<=640 then (PySem.intText? z).map PyData.int else none
 | _=>none
theorem jT:PrC (fun xs H Q=>∃z n,xs=[.str z]/\PySem.intText? z=some n/\z.length<=640/\Q (.int n) H) .cl intTD:=by
 intro Oc Ob H vs ds d Q oh r e k
 unfold intTD at e
 split at e
 ·split at e
  ·rename_i h
   obtain⟨n,en,rfl⟩:=Option.map_eq_some_iff.mp e
   obtain⟨v,rfl,hv⟩:=zY9 r
   exact⟨_,n,by rw[hv.str],en,h,k _ H (Same.refl H) (Rep.int _)⟩
  ·cases e
 ·cases e
def lenTD:List D->Option D
 | [.str z]=>if z.length<=sizeLine then some (.int z.length) else none
 | _=>none
theorem wY3:PrC (fun xs H Q=>∃z,xs=[.str z]/\z.length<=sizeLine/\Q (.int z.length) H) .cl lenTD:=by
 intro Oc Ob H vs ds d Q oh r e k
 unfold lenTD at e
 split at e
 ·split at e
  ·rename_i h
   cases e
   obtain⟨v,rfl,hv⟩:=zY9 r
   exact⟨_,by rw[hv.str],h,k _ H (Same.refl H) (Rep.int _)⟩
  ·cases e
 ·cases e
section
variable {X:Cx}
def rSlS:V->Option Int->Option Int->Hp->VK->Prop:=fun x lo hi H Q=>∃z,x=.str z/\z.length<=sizeLine/\Q (.str (Txt.slice z lo hi)) H
theorem xX2 {v:Value}{o:Option Int}(h:IsPart v o):∃l:Option (Int×Tok),v=partValue l/\l.map (·.1)=o:=by
 cases h
 ·exact⟨none,rfl,rfl⟩
 ·rename_i i t
  exact⟨some (i,t),rfl,rfl⟩
theorem wL7:SlR X rSlS:=by
 rintro pins s σ H x v vl vu lo hi sl Q I rx hs pl pu ⟨z,rfl,hz,q⟩
 obtain⟨t,rfl⟩:=rx
 obtain⟨l,rfl,rfl⟩:=xX2 pl
 obtain⟨u,rfl,rfl⟩:=xX2 pu
 refine⟨"str",_,F.slot_str_getitem.lookup,typeIs_str _ _ _,wpAny_getItem_str_slice (l:=l) (u:=u) (st:=none) hs rfl (post_val_or_str ⟨Nat.le_trans (Txt.slice_le z _ _) hz,fun t' k => ?_⟩)⟩
 exact⟨.str _,H,I.tok _,⟨_,rfl⟩,q⟩
end
def slS (x:D) (lo hi:Option Int):Option D:=(strD x).bind fun z=>if z.length<=sizeLine then some (.str (Txt.slice z lo hi)) else none
theorem wK3:PrS rSlS .cl slS:=by
 intro Oc Ob H x dx lo hi d Q oh va e k
 obtain⟨z,e1,e0⟩:=Option.bind_eq_some_iff.mp e
 obtain rfl:=vZ e1
 split at e0
 ·rename_i h
  cases e0
  exact⟨z,va.str,h,k _ H (Same.refl H) (Rep.str _)⟩
 ·cases e0
theorem xP5 {C:Ct}{e:Expr}{lo hi:Option Expr}{mda:Md}{me:Ev->Res D}{ml mh:Ev->Res (Option Int)}{p2 pos:Pos}(he:RE C mda e me) (hl:RO C lo ml) (hu:RO C hi mh):RE C .cl (.Subscript e (.Slice lo hi none p2) pos) (eS slS me ml mh):=zF5 wL7 wK3 he hl hu
def tFil (a b:Str) (te:TE):TE:=fun σ H Q=>te σ H fun x H1=>∃z,x=.str z/\a.length+z.length+b.length<=sizeLine/\Q (.str (a++z++b)) H1
theorem wL5 {X:Cx}{a b:Str}{j1 j2:Nat}{p1 p2 p3 pos:Pos}{e:Expr}{te:TE}(he:PE X e te) (ha:a.length<=sizeLine):PE X (.JoinedStr [.Constant (.str a) j1 p1,.FormattedValue e (-1) none p2,.Constant (.str b) j2 p3] pos) (tFil a b te):=by
 intro pins s σ H Q I h
 refine wpAny_JoinedStr ?_
 show wpAny _ _ (eval (.Constant (.str a) j1 p1) X.env) _ _ _
 refine Calls.Constant_str ⟨a,_,rfl,by rw[Str.empty_append];exact ha,?_⟩
 show wpAny _ _ (eval (.FormattedValue e (-1) none p2) X.env) _ _ _
 refine wpAny_FormattedValue_plain (thn (he pins _ σ H _ (I.tok _) h) fun v s1 ⟨x,H1,I1,r1,z,ez,hz,q⟩ => ?_)
 subst ez
 obtain⟨t,rfl⟩:=r1
 have la:(Str.empty++a++z).length<=sizeLine:=by rw[Str.empty_append,Str.length_append];bv_omega
 have lb:(Str.empty++a++z++b).length<=sizeLine:=by rw[Str.empty_append,Str.length_append,Str.length_append];bv_omega
 have go:∀(s2:Shared),Inv X pins σ H1 s2->Joins (model X.prog X.w) X.A X.xe [eval (.Constant (.str b) j2 p3) X.env] (Str.empty++a++z) (fun out s₁=>out.length<=sizeLine/\EP X pins σ Q (.str out s₁.toks) { s₁ with toks:=s₁.toks+1 }) s2:=fun s2 I2=>by
  show wpAny _ _ (eval (.Constant (.str b) j2 p3) X.env) _ _ _
  refine Calls.Constant_str ⟨b,_,rfl,lb,?_⟩
  show (Str.empty++a++z++b).length<=sizeLine/\EP X pins σ Q (.str (Str.empty++a++z++b) _) _
  refine⟨lb,?_⟩
  rw[Str.empty_append]
  exact⟨.str _,H1,(I2.tok _).tok _,⟨_,rfl⟩,q⟩
 exact wpAny_formatField_str ⟨z,_,rfl,la,go _ I1⟩ ⟨z,_,rfl,la,go _ (I1.tok _)⟩ (by bv_omega)
def filD (a b:Str) (x:D):Option D:=(strD x).bind fun z=>if a.length+z.length+b.length<=sizeLine then some (.str (a++z++b)) else none
theorem wM5 {C:Ct}{a b:Str}{j1 j2:Nat}{p1 p2 p3 pos:Pos}{e:Expr}{md:Md}{me:Ev->Res D}(he:RE C md e me) (ha:autoParam (a.length<=sizeLine) yX._auto_1):RE C .cl (.JoinedStr [.Constant (.str a) j1 p1,.FormattedValue e (-1) none p2,.Constant (.str b) j2 p3] pos) (e1 (filD a b) me):=by
 obtain⟨te,pe,qe⟩:=he
 refine⟨_,wL5 pe ha,fun Oc Ob σ H ρ Q R h => ?_⟩
 refine qe Oc Ob σ H ρ _ R (Res.zO (Res.zT h) (fun dx _ k x H1 s1 vx => ?_) fun _ z=>z)
 obtain⟨d,ed,k1⟩:=Res.zF k
 obtain⟨z,e1,e0⟩:=Option.bind_eq_some_iff.mp ed
 obtain rfl:=vZ e1
 split at e0
 ·rename_i hl
  cases e0
  exact⟨z,(vx.va R.oh).str,hl,k1 _ H1 s1 (Rep.str _)⟩
 ·cases e0
def sTryN (mb:Ev->Res Out):Ev->Res Out:=fun ρ=>noEx (mb ρ)
theorem xY2 {C:Ct}{fr:Bool}{body:List Stmt}{h0:ExceptHandler}{hs0:List ExceptHandler}{pos:Pos}{mb:Ev->Res Out}
  (hbody:∀(pn:List (Addr×Obj)) (xe:Value->Shared->Prop),RSs ⟨inTry C.X pn xe,fun _ _=>False,C.om,C.ln⟩ fr body mb):RS C fr (.Try body (h0::hs0) [] [] pos) (sTryN mb):=by
 refine⟨fun D σ H=>∀pins s,Inv C.X pins σ H s->wpAny (model C.X.prog C.X.w) C.X.A (exec (.Try body (h0::hs0) [] [] pos) C.X.env) (SP C.X pins D) C.X.xe s,fun pins s σ H D I h=>h pins s I,fun Oc Ob σ H ρ E R hp pins s I => ?_⟩
 refine wpAny_Try_except ?_
 generalize hxe:(fun (e:Value) (s₁:Shared)=>wpAny (model C.X.prog C.X.w) C.X.A (noteFrame e C.X.env) (fun _ s₂=>wpAny (model C.X.prog C.X.w) C.X.A (setFlight e none) (fun _ s₃=>wpAny (model C.X.prog C.X.w) C.X.A (handleBy e C.X.env (h0::hs0)) (SP C.X pins E) C.X.xe s₃) C.X.xe s₂) C.X.xe s₁)=xe'
 obtain⟨tb,pb,qb⟩:=hbody (C.X.pn++pins) xe'
 refine wpAny_mono (pb [] s σ H E (Inv.toTry I _) (qb Oc Ob σ H ρ E R ?_)) (fun f s₁ hs => ?_) fun e s₁ z=>z
 ·unfold sTryN at hp
  cases em:mb ρ with
  | ok o=>rw[em] at hp;exact hp
  | no=>rw[em] at hp;exact hp.elim
  | ex c=>rw[em] at hp;exact hp.elim
 ·cases f with
  | next=>exact wpAny_execs_nil (SP.ofTry hs)
  | brk=>exact SP.ofTry (f:=.brk) hs
  | cont=>exact SP.ofTry (f:=.cont) hs
  | ret u=>exact SP.ofTry (f:=.ret u) hs
section
variable {X:Cx}
def ptV (z y:Str):List V:=[.str (Txt.partition z y).1,.str (Txt.partition z y).2.1,.str (Txt.partition z y).2.2]
def rPart:V->List V->Hp->VK->Prop:=fun x vs H Q=>∃z y,x=.str z/\vs=[.str y]/\1<=y.length/\z.length<=sizeLine/\∀p,H p=none->Q (.ref p) (upd H p (.tup (ptV z y)))
theorem Inv.tnew {its:List Value}{ys:List V}{t':Nat}{pins:List (Addr×Obj)}{σ:St}{H:Hp}{s:Shared}(I:Inv X pins σ H s) (hv:Vals ys its) (hz:ys.length<=sizeLine) :
  Inv X pins σ (upd H s.heap.objs.size (.tup ys)) { s with heap:=s.heap.push { cls:=.type "tuple",data:=.seq its.toArray },toks:=t' } :=
 I.laid (fun _ _ q=>Heap.get?_push_of_some _ q) (Nat.le_refl _) ⟨hz,its,hv,_,Heap.get?_push_size _ rfl,rfl,⟨_,rfl⟩,rfl⟩
theorem yM3:MtR X "str.partition" rPart:=by
 rintro pins s σ H x vs v us Q I rx rv ⟨z,y,rfl,rfl,hy,hz,q⟩
 obtain⟨t,rfl⟩:=rx
 obtain⟨u,rfl,t2,rfl⟩:=vals1 rv
 have y0:(y.length == 0)=false:=by rw[beq_eq_false_iff_ne];bv_omega
 have fin:∀(a b c:Tok) (k:Nat),EP X pins σ Q (.ref s.heap.objs.size) { s with heap:=s.heap.push { cls:=.type "tuple",data:=.seq [Value.str (Txt.partition z y).1 a,.str (Txt.partition z y).2.1 b,.str (Txt.partition z y).2.2 c].toArray },toks:=k }:=fun a b c k =>
  ⟨.ref _,_,Inv.tnew (ys:=ptV z y) I (.cons ⟨a,rfl⟩ (.cons ⟨b,rfl⟩ (.cons ⟨c,rfl⟩ .nil))) (by show 3<=sizeLine;decide),rfl,q _ I.fresh⟩
 refine call_meets F.slot_str_partition (typeIs_str s z t) F.entry_str_partition (F.args_str_partition_2 _ _) (meets_str_partition z y t t2 y0 hz) ?_
 unfold Txt.partition at fin
 generalize Builtin.Str.occurrences z y 0 z.length 1=l at fin ⊢
 cases l with
 | cons i r=>exact fin _ _ _ _
 | nil=>exact fin _ _ _ _
end
def partD (z:Str) (y:D):Option D:=(strD y).bind fun u=>if 1<=u.length/\z.length<=sizeLine then some (.tuple [.str (Txt.partition z u).1,.str (Txt.partition z u).2.1,.str (Txt.partition z u).2.2]) else none
theorem yK9:Pr1S rPart .cl partD:=by
 intro Oc Ob H z y dy d Q oh vy e k
 obtain⟨u,e1,e0⟩:=Option.bind_eq_some_iff.mp e
 obtain rfl:=vZ e1
 obtain rfl:=vy.str
 split at e0
 ·rename_i h
  cases e0
  exact⟨z,u,rfl,rfl,h.1,h.2,fun p hp=>k _ _ (Same.new hp) (gD oh hp (.cons (.str _) (.cons (.str _) (.cons (.str _) .nil))))⟩
 ·cases e0
def KpGs (i:Nat) (h:List D->Ev->Option Ev):Prop:=∀ds ρ o,h ds ρ=some o->o[i]?=ρ[i]?
theorem wJ4 {i:Nat}:KpGs i gsN:=fun ds ρ o e=>by
 unfold gsN at e
 split at e <;> cases e
 rfl
theorem xK1 {i:Nat}{g:D->Ev->Option Ev}{h:List D->Ev->Option Ev}(hg:KpG i g) (hh:KpGs i h):KpGs i (gsC g h):=fun ds ρ o e=>by
 unfold gsC at e
 split at e
 ·obtain⟨ρ1,e1,e2⟩:=Option.bind_eq_some_iff.mp e
  exact (hh _ _ _ e2).trans (hg _ _ _ e1)
 ·cases e
theorem wE3 {i n:Nat}{h:List D->Ev->Option Ev}(hh:KpGs i h):KpG i (gT n h):=fun d ρ o e=>by
 unfold gT at e
 split at e
 ·split at e
  ·exact hh _ _ _ e
  ·cases e
 ·cases e
end L2.L3
namespace MR
open PySem PySem.StrLaws PySem.Builtin PySem.Builtin.Str
def tl (x:Str):List Nat:=x.cps.toList
theorem yB (x:Str):(tl x).length=x.length:=by unfold tl Str.length;simp
theorem yF (a b:Str):tl (a++b)=tl a++tl b:=by unfold tl;rw[Str.cps_append];simp
theorem vA {a b:Str}(h:tl a=tl b):a=b:=by
 apply Str.ext'
 have:a.cps.toList.toArray=b.cps.toList.toArray:=congrArg _ h
 simpa using this
theorem wH9 (l:List Nat):tl ⟨l.toArray⟩=l:=by unfold tl;simp
theorem jV (y p q:Str) (r:List Str):Str.join y (p::q::r)=p++y++Str.join y (q::r):=rfl
theorem zM4 {x y:Str}{k:Nat}(h1:1<=y.length):At x y x.length k↔((tl x).drop k).take y.length=tl y:=by
 unfold At
 rw[subAt_eq,beq_iff_eq]
 constructor
 ·exact fun h=>h.2
 ·intro h
  refine⟨?_,h⟩
  have l:=congrArg List.length h
  rw[yB,List.length_take,List.length_drop,yB] at l
  bv_omega
theorem zD2 (x:Str) (a b:Nat):tl (strSub x a b)=((tl x).drop a).take (b-a):=strSub_toList x a b
theorem xU8 {x y:Str}{c:Nat}{y':List Nat}(hy:tl y=c::y'):∀(ps:List Str) (a f:Nat) (cuts:List Nat),ps ≠ []->(∀p∈ps,c∉tl p)->(tl x).drop a=tl (Str.join y ps)->a<=x.length->ChainG x y x.length a cuts f->(∀k,f<=k->¬At x y x.length k)->partsFrom x y.length a cuts=ps:=by
 have y1:1<=y.length:=by rw[<-yB,hy];simp
 have fst:∀k,At x y x.length k->(tl x)[k]?=some c:=fun k h=>by
  have e:=(zM4 y1).mp h
  rw[hy] at e
  have:=congrArg (fun l=>l[0]?) e
  simp only[List.getElem?_cons_zero] at this
  rw[List.getElem?_take_of_lt (by bv_omega),List.getElem?_drop] at this
  simpa using this
 intro ps
 induction ps with
 | nil=>intro a f cuts h;exact absurd rfl h
 | cons p ps ih =>
  intro a f cuts _ hc hd ha hG hn
  have pc:=hc p List.mem_cons_self
  cases ps with
  | nil =>
   have hd:(tl x).drop a=tl p:=hd
   have no:∀k,a<=k->¬At x y x.length k:=fun k hk h=>by
    have e:=fst k h
    have e2:(tl p)[k-a]?=some c:=by
     rw[<-hd,List.getElem?_drop,show a+(k-a)=k by bv_omega]
     exact e
    exact pc (List.mem_of_getElem? e2)
   cases cuts with
   | cons d r=>exact absurd hG.2.1 (no d hG.1)
   | nil =>
    show [strSub x a x.length]=[p]
    rw[show strSub x a x.length=p from vA (by rw[zD2,hd,List.take_of_length_le];rw[<-hd,List.length_drop,yB];exact Nat.le_refl _)]
  | cons q r =>
   rw[jV,yF,yF] at hd
   have len:=congrArg List.length hd
   rw[List.length_drop,List.length_append,List.length_append,yB,yB,yB] at len
   have here:At x y x.length (a+p.length):=by
    refine (zM4 y1).mpr ?_
    rw[<-List.drop_drop,hd,List.append_assoc,List.drop_append_of_le_length (by rw[yB];exact Nat.le_refl _),<-yB p,List.drop_length,List.nil_append,<-yB y,List.take_append_of_le_length (Nat.le_refl _),List.take_length]
   have early:∀k,a<=k->k<a+p.length->¬At x y x.length k:=fun k hk hl h=>by
    have e:=fst k h
    have e2:(tl p)[k-a]?=some c:=by
     have e3:((tl x).drop a)[k-a]?=some c:=by rw[List.getElem?_drop,show a+(k-a)=k by bv_omega];exact e
     rw[hd,List.append_assoc,List.getElem?_append_left (by rw[yB];bv_omega)] at e3
     exact e3
    exact pc (List.mem_of_getElem? e2)
   cases cuts with
   | nil =>
    have ef:f=a:=hG
    exact absurd here (hn _ (by bv_omega))
   | cons d r' =>
    obtain⟨g1,g2,g3,g4⟩:=hG
    have ed:d=a+p.length:=by
     by_cases l1:d<a+p.length
     ·exact absurd g2 (early d g1 l1)
     ·by_cases l2:a+p.length<d
      ·exact absurd here (g3 _ (by bv_omega) l2)
      ·bv_omega
    subst ed
    show strSub x a (a+p.length)::partsFrom x y.length (a+p.length+y.length) r'=p::q::r
    have e1:strSub x a (a+p.length)=p:=vA (by
     rw[zD2,hd,show a+p.length-a=p.length by bv_omega,List.append_assoc,<-yB p,List.take_append_of_le_length (Nat.le_refl _),List.take_length])
    rw[e1,ih (a+p.length+y.length) f r' (fun z=>nomatch z) (fun z hz=>hc z (List.mem_cons_of_mem _ hz)) ?_ (by bv_omega) g4 hn]
    rw[show a+p.length+y.length=a+(p.length+y.length) by bv_omega,<-List.drop_drop,hd,<-yF,List.drop_append_of_le_length (by rw[yB,Str.length_append];exact Nat.le_refl _),show p.length+y.length=(tl (p++y)).length by rw[yB,Str.length_append],List.drop_length,List.nil_append]
theorem xD3 (x:Str):1<=Builtin.Str.strKind x:=by
 unfold Builtin.Str.strKind
 split
 ·exact Nat.le_refl _
 ·split <;> decide
theorem uY {y:Str}{c:Nat}{y':List Nat}(hy:tl y=c::y') (hk:Builtin.Str.strKind y=1){ps:List Str}(h0:ps ≠ []) (hc:∀p∈ps,c∉tl p):Txt.split (Str.join y ps) y=ps:=by
 have y1:1<=y.length:=by rw[<-yB,hy];simp
 obtain⟨f,hG,hn⟩:=occ_tight (Str.join y ps) y y1
 have key:=xU8 hy ps 0 f _ h0 hc rfl (Nat.zero_le _) hG hn
 have whole:occurrences (Str.join y ps) y 0 (Str.join y ps).length ((Str.join y ps).length+1)=[]->[Str.join y ps]=ps:=fun e=>by
  rw[e] at key
  have key:[strSub (Str.join y ps) 0 (Str.join y ps).length]=ps:=key
  rw[sub_whole] at key
  exact key
 unfold Txt.split
 split
 ·rename_i h
  refine whole ?_
  rw[Bool.or_eq_true,decide_eq_true_eq,decide_eq_true_eq] at h
  rcases h with h | h
  ·cases e:occurrences (Str.join y ps) y 0 (Str.join y ps).length ((Str.join y ps).length+1) with
   | nil=>rfl
   | cons d r =>
    rw[e] at hG
    have:=hG.2.1.1
    bv_omega
  ·have:=xD3 (Str.join y ps)
   bv_omega
 ·split
  ·rename_i h
   exact whole (List.isEmpty_iff.mp h)
  ·rw[partsBetween_eq]
   exact key
theorem xM2 {a b w:Str}(ha:a.length=1) (hb:b.length=1):Txt.slice (a++w++b) (some 1) (some (-1))=w:=by
 have l:(a++w++b).length=w.length+2:=by rw[Str.length_append,Str.length_append];bv_omega
 have e:Txt.slice (a++w++b) (some 1) (some (-1))=sliceText (a++w++b) (some 1) (some (-1)):=rfl
 rw[e,sliceText_neg_hi _ _ (by decide) (by bv_omega),show (-1:Int)+((a++w++b).length:Int)=((w.length+1:Nat):Int) by bv_omega]
 have e2:=sliceText_nat (a++w++b) (a:=1) (b:=w.length+1) (by bv_omega) (by bv_omega)
 refine Eq.trans e2 (vA ?_)
 rw[wH9]
 show ((tl (a++w++b)).drop 1).take (w.length+1-1)=tl w
 rw[yF,yF,List.append_assoc,List.drop_append_of_le_length (by rw[yB];bv_omega),show (tl a).drop 1=[] from List.drop_eq_nil_of_le (by rw[yB];bv_omega),List.nil_append,show w.length+1-1=(tl w).length by rw[yB];bv_omega,List.take_append_of_le_length (Nat.le_refl _),List.take_length]
theorem yU6:∀(ws:List Str),ws ≠ []->Str.join "" (ws.map fun w=>"("++w ++ ")")="("++Str.join ")(" ws ++ ")"
 | [],h=>absurd rfl h
 | [w],_=>rfl
 | w::v::r,_=>by
  have ih:=yU6 (v::r) fun z=>nomatch z
  show ("("++w ++ ")") ++ ""++Str.join "" ((v::r).map fun w=>"("++w ++ ")")=_
  rw[ih,jV]
  apply vA
  simp only[yF,List.append_assoc]
  rfl
theorem wP4 {x y:Str}:Txt.startswith x y=true↔(tl x).take y.length=tl y:=by
 show (decide (0+y.length<=x.length)&&subAt x y 0)=true↔_
 rw[Bool.and_eq_true,decide_eq_true_eq,subAt_eq,beq_iff_eq]
 constructor
 ·exact fun h=>h.2
 ·intro h
  refine⟨?_,h⟩
  have l:=congrArg List.length h
  rw[yB,List.length_take,yB] at l
  bv_omega
theorem dQ (a b c:Str):a++b++c=a++(b++c):=vA (by rw[yF,yF,yF,yF,List.append_assoc])
theorem xW8 (y p:Str){r:List Str}(h:r ≠ []):Str.join y (p::r)=p++(y++Str.join y r):=by
 cases r with
 | nil=>exact absurd rfl h
 | cons q r=>rw[jV,dQ]
theorem xX8 {sep:Str}{ts:List Str}{B n:Nat}(hs:sep.length=1) (hl:ts.length<=n) (ht:∀t∈ts,t.length<=B) (hb:n*(B+1)<=16000000):JoinOk sep ts=true/\(Str.join sep ts).length<=n*(B+1):=by
 have h1:=Nat.mul_le_mul_right (B+1) hl
 have e1:ts.length*(B+1)=ts.length*B+ts.length:=Nat.mul_succ _ _
 have e2:ts.length*sep.length=ts.length:=by rw[hs,Nat.mul_one]
 refine⟨?_,?_⟩
 ·unfold JoinOk
  rw[joinFits ht (by bv_omega)]
  rfl
 ·have a:=join_length_le sep ts
  have b:=sumLen_le ts ht
  bv_omega
end MR
namespace MR
open PySem PySem.StrLaws PySem.Builtin PySem.Builtin.Str PySem.W PyProof.Rows
def nT (n:Nat):Str:=toString (n:Int)
theorem yZ8 (n:Nat):tl (nT n)=(Nat.toDigits 10 n).map Char.toNat:=KIN.signs_num n
theorem zG8 {m:Nat}(h:10<=m):Nat.toDigits 10 m=Nat.toDigits 10 (m / 10)++Nat.toDigits 10 (m%10):=by
 have t:=Nat.toDigits_append_toDigits (b:=10) (n:=m / 10) (d:=m%10) (by decide) (by bv_omega) (Nat.mod_lt _ (by decide))
 rw[t]
 congr 1
 bv_omega
theorem xN6:∀(k m:Nat),m<10 ^ (k+1)->(Nat.toDigits 10 m).length<=k+1
 | 0,m,h=>by
  rw[Nat.toDigits_of_lt_base (by simpa using h)]
  exact Nat.le_refl _
 | k+1,m,h=>by
  by_cases c:m<10
  ·rw[Nat.toDigits_of_lt_base c]
   show 1<=_
   bv_omega
  ·have p:10 ^ (k+1+1)=10 ^ (k+1)*10:=Nat.pow_succ 10 (k+1)
   rw[zG8 (by bv_omega),List.length_append,Nat.toDigits_of_lt_base (Nat.mod_lt _ (by decide))]
   have:=xN6 k (m / 10) (by bv_omega)
   show _+1<=_
   bv_omega
theorem xX5:∀(m:Nat),0<m->∃c r,Nat.toDigits 10 m=c::r/\c.toNat≠48:=by
 intro m
 induction m using Nat.strongRecOn with
 | _ m ih =>
  intro h
  by_cases c:m<10
  ·refine⟨_,_,Nat.toDigits_of_lt_base c,?_⟩
   have:∀d,0<d->d<10->(Nat.digitChar d).toNat≠48:=by
    intro d h0 h1
    have hh:d=1\/d=2\/d=3\/d=4\/d=5\/d=6\/d=7\/d=8\/d=9:=by bv_omega
    rcases hh with rfl | rfl | rfl | rfl | rfl | rfl | rfl | rfl | rfl <;> decide
   exact this m h c
  ·obtain⟨c,r,e,n⟩:=ih (m / 10) (by bv_omega) (by bv_omega)
   exact⟨c,r++Nat.toDigits 10 (m%10),by rw[zG8 (by bv_omega),e];rfl,n⟩
theorem wL8:∀d,d<10->48<=(Nat.digitChar d).toNat/\(Nat.digitChar d).toNat<=57:=by decide
theorem wN7 (m:Nat):∀c∈(Nat.toDigits 10 m).map Char.toNat,48<=c/\c<=57:=by
 induction m using Nat.strongRecOn with
 | _ m ih =>
  have unit:∀d,d<10->∀c∈(Nat.toDigits 10 d).map Char.toNat,48<=c/\c<=57:=fun d hd c hc=>by
   rw[Nat.toDigits_of_lt_base hd] at hc
   rw[List.mem_singleton.mp hc]
   exact wL8 d hd
  by_cases h:m<10
  ·exact unit m h
  ·intro c hc
   rw[zG8 (by bv_omega),List.map_append] at hc
   rcases List.mem_append.mp hc with hc | hc
   ·exact ih (m / 10) (by bv_omega) c hc
   ·exact unit (m%10) (by bv_omega) c hc
theorem wS5 (m:Nat):∃c r,Nat.toDigits 10 m=c::r:=by
 by_cases h:0<m
 ·obtain⟨c,r,e,_⟩:=xX5 m h
  exact⟨c,r,e⟩
 ·rw[show m=0 by bv_omega]
  exact⟨_,_,rfl⟩
structure NumOk (n:Nat):Prop where
 len:(nT n).length<=80
 dig:Txt.isdigit (nT n)=true
 zero:Txt.startswith (nT n) "0" = false\/nT n="0"
 int:PySem.intText? (nT n)=some (n:Int)
 fig:∀c∈tl (nT n),48<=c/\c<=57
 log:((n:Int)).natAbs.log2<1920
 ok:PyData.strOk (nT n)=true
 ne:tl (nT n) ≠ []
theorem isd:∀c,c<58->48<=c->Unicode.isDigit c=true:=by decide +kernel
theorem xM {n:Nat}(h:n<10 ^ 80):NumOk n:=by
 have fig:∀c∈tl (nT n),48<=c/\c<=57:=by rw[yZ8];exact wN7 n
 obtain⟨c0,r0,e0⟩:=wS5 n
 have tn:tl (nT n)=c0.toNat::r0.map Char.toNat:=by rw[yZ8,e0];rfl
 have ne:tl (nT n) ≠ []:=by rw[tn];exact fun z=>nomatch z
 have len:(nT n).length<=80:=by
  rw[<-yB,yZ8,List.length_map]
  exact xN6 79 n h
 refine⟨len,?_,?_,?_,fig,?_,?_,ne⟩
 ·unfold Txt.isdigit
  rw[Bool.and_eq_true,decide_eq_true_eq]
  refine⟨?_,?_⟩
  ·rw[<-yB,tn]
   exact Nat.succ_pos _
  ·rw[<-Array.all_toList,List.all_eq_true]
   exact fun c hc=>isd c (by have:=(fig c hc).2;bv_omega) (fig c hc).1
 ·by_cases z:n=0
  ·right
   subst z
   rfl
  ·left
   obtain⟨c,r,e,nc⟩:=xX5 n (by bv_omega)
   rw[Bool.eq_false_iff]
   intro y
   rw[wP4,yZ8,e] at y
   have y2:[c.toNat]=[48]:=y
   exact nc (by simpa using y2)
 ·have e:=intText_digits (x:=nT n) (fun c hc=>fig c hc) ne (Nat.le_trans len (by decide))
  have sg:(nT n).cps.toList=(Nat.toDigits 10 n).map Char.toNat:=yZ8 n
  rw[sg,KIN.val_back] at e
  exact e
 ·rw[Int.natAbs_natCast]
  by_cases z:n=0
  ·subst z;decide
  ·exact Nat.lt_of_lt_of_le ((Nat.log2_lt z).mpr (Nat.lt_of_lt_of_le h (show (10:Nat) ^ 80<=2 ^ 320 by decide +kernel))) (by decide)
 ·unfold PyData.strOk
  rw[<-Array.all_toList,List.all_eq_true]
  exact fun c hc=>decide_eq_true (by have:=(fig c hc).2;bv_omega)
end MR
namespace MR
open M12
theorem yY6 (m:Nat):∀d:Nat,ff (m:Int) (m+1+d)=0
 | 0=>by
  show ff (m:Int) m*((m:Int)-(m:Int))=0
  rw[Int.sub_self,Int.mul_zero]
 | d+1=>by
  show ff (m:Int) (m+1+d)*_=0
  rw[yY6 m d,Int.zero_mul]
theorem xQ7 (s:Int) (q:Nat):∀j:Nat,ff s (q+j)=ff s q*ff (s-q) j
 | 0=>by
  show ff s q=ff s q*1
  rw[Int.mul_one]
 | j+1=>by
  show ff s (q+j)*(s-((q+j:Nat):Int))=ff s q*(ff (s-q) j*((s-q)-(j:Int)))
  rw[xQ7 s q j,Int.mul_assoc,show s-((q+j:Nat):Int)=(s-q)-(j:Int) by bv_omega]
theorem wZ8 (s:Int) (q:Nat):ff (s+1) (q+1)=ff s (q+1)+((q:Int)+1)*ff s q:=by
 rw[zU3,show ff s (q+1)=ff s q*(s-(q:Int)) from rfl]
 grind
def gI (k m:Nat):Int:=(gn k m:Int)
theorem xP9 (k m:Nat):∀j,j<=m+1->((smN (gn k) (m+1) j:Nat):Int)=sumN (fun i=>ff (m:Int) i*gI k (m-i)) j
 | 0,_=>rfl
 | j+1,h=>by
  rw[sumN,<-xP9 k m j (by bv_omega)]
  have e:smN (gn k) (m+1) (j+1)=smN (gn k) (m+1) j+nf m j*gn k (m-j):=by rw[smN,Nat.add_sub_cancel,Nat.add_sub_add_right]
  rw[e,Int.natCast_add,Int.natCast_mul,<-yN7]
  rfl
theorem xX4 (F:Nat->Int) (k:Nat):∀n,sumN (fun i=>if i<k then F i else 0) n=sumN F (min k n)
 | 0=>by rw[Nat.min_zero];rfl
 | n+1=>by
  rw[sumN,xX4 F k n]
  by_cases h:n<k
  ·rw[if_pos h,Nat.min_eq_right (by bv_omega),Nat.min_eq_right (by bv_omega),sumN]
  ·rw[if_neg h,Nat.min_eq_left (by bv_omega),Nat.min_eq_left (by bv_omega),Int.add_zero]
theorem wE2 (k m:Nat):gI k (m+1)=sumN (fun j=>if j<k then ff (m:Int) j*gI k (m-j) else 0) (m+1):=by
 rw[xX4 (fun j=>ff (m:Int) j*gI k (m-j)),<-xP9 k m _ (Nat.min_le_right _ _),<-zI1]
 rfl
theorem wS2 {k s p:Nat}(hp:p<=s):sumN (fun q=>if inWin k q p then ff (s:Int) q*gI k (s-q) else 0) (s+1)=ff (s:Int) p*gI k (s-p+1):=by
 rw[show s+1=p+(s-p+1) by bv_omega,zU2,vY (n:=p) (fun i hi => ?_),Int.zero_add,wE2,<-fT]
 ·refine xT fun j hj => ?_
  have e1:inWin k (p+j) p=decide (j<k):=by
   unfold inWin
   rw[Bool.eq_iff_iff]
   simp
  have e2:=xQ7 (s:Int) p j
  rw[show (s:Int)-(p:Int)=((s-p:Nat):Int) by bv_omega] at e2
  rw[e1]
  by_cases c:j<k
  ·rw[decide_eq_true c,if_pos rfl,if_pos c,e2,show s-(p+j)=s-p-j by bv_omega,Int.mul_assoc]
  ·rw[decide_eq_false c,if_neg Bool.false_ne_true,if_neg c,Int.mul_zero]
 ·have:inWin k i p=false:=by
   unfold inWin
   rw[Bool.eq_false_iff]
   simp
   bv_omega
  show (if inWin k i p then _ else _)=(0:Int)
  rw[this]
  rfl
theorem xI4 {k s p:Nat}(hp:s<p):sumN (fun q=>if inWin k q p then ff (s:Int) q*gI k (s-q) else 0) (s+1)=0:=by
 refine vY fun i hi => ?_
 have:inWin k i p=false:=by
  unfold inWin
  rw[Bool.eq_false_iff]
  simp
  bv_omega
 rw[this]
 rfl
theorem xG8 (k t:Nat):List.replicate (t+1) k=List.replicate t k ++ [k]:=List.replicate_succ'
theorem alike (n k:Nat):∀(t s:Nat),s+t<=n->sumN (fun q=>ff (s:Int) q*runM n (List.replicate t k) q*gI k (s-q)) (s+1)=gI k (s+t)
 | 0,s,_=>by
  rw[uH,vY (n:=s) (fun i _ => ?_)]
  ·show 1*(1:Int)*gI k s+0=_
   rw[Int.one_mul,Int.one_mul,Int.add_zero]
   rfl
  ·show _*(if i+1=0 then (1:Int) else 0)*_=0
   rw[if_neg (by bv_omega),Int.mul_zero,Int.zero_mul]
 | t+1,s,h=>by
  have ih:=alike n k t (s+1) (by bv_omega)
  generalize hA:runM n (List.replicate t k)=A at ih
  have step:∀q,runM n (List.replicate (t+1) k) q=stepM n k A q:=fun q=>by rw[xG8,kH,hA]
  have left:sumN (fun q=>ff (s:Int) q*runM n (List.replicate (t+1) k) q*gI k (s-q)) (s+1)=sumN (fun q=>((q:Int)+1)*ff (s:Int) q*A (q+1)*gI k (s-q)) (s+1)+sumN (fun p=>ff (s:Int) p*A p*gI k (s-p+1)) (s+1):=by
   have e1:sumN (fun q=>ff (s:Int) q*runM n (List.replicate (t+1) k) q*gI k (s-q)) (s+1)=sumN (fun q=>((q:Int)+1)*ff (s:Int) q*A (q+1)*gI k (s-q)+sumN (fun p=>A p*(if inWin k q p then ff (s:Int) q*gI k (s-q) else 0)) (n+1)) (s+1):=by
    refine xT fun q hq => ?_
    have e2:sumN (fun p=>A p*(if inWin k q p then ff (s:Int) q*gI k (s-q) else 0)) (n+1)=sumN (fun p=>if inWin k q p then A p else 0) (n+1)*(ff (s:Int) q*gI k (s-q)):=by
     rw[<-yQ9]
     refine xT fun p _ => ?_
     by_cases c:inWin k q p=true
     ·rw[if_pos c,if_pos c]
     ·rw[if_neg c,if_neg c,Int.mul_zero,Int.zero_mul]
    rw[step,e2]
    unfold stepM
    rw[if_pos (by bv_omega)]
    grind
   rw[e1,kM,zP6]
   congr 1
   have e3:∀p,sumN (fun q=>A p*(if inWin k q p then ff (s:Int) q*gI k (s-q) else 0)) (s+1)=A p*sumN (fun q=>if inWin k q p then ff (s:Int) q*gI k (s-q) else 0) (s+1):=fun p=>fT _ _ _
   rw[show n+1=(s+1)+(n-s) by bv_omega,zU2]
   rw[vY (n:=n-s) fun i _=>by rw[e3,xI4 (by bv_omega),Int.mul_zero],Int.add_zero]
   refine xT fun p hp => ?_
   rw[e3,wS2 (by bv_omega)]
   grind
  have right:sumN (fun q=>ff ((s+1:Nat):Int) q*A q*gI k (s+1-q)) (s+1+1)=sumN (fun q=>((q:Int)+1)*ff (s:Int) q*A (q+1)*gI k (s-q)) (s+1)+sumN (fun p=>ff (s:Int) p*A p*gI k (s-p+1)) (s+1):=by
   rw[uH]
   have e1:sumN (fun i=>ff ((s+1:Nat):Int) (i+1)*A (i+1)*gI k (s+1-(i+1))) (s+1)=sumN (fun q=>((q:Int)+1)*ff (s:Int) q*A (q+1)*gI k (s-q)) (s+1)+sumN (fun q=>ff (s:Int) (q+1)*A (q+1)*gI k (s-q)) (s+1):=by
    rw[<-kM]
    refine xT fun q _ => ?_
    have:=wZ8 (s:Int) q
    rw[show ((s+1:Nat):Int)=(s:Int)+1 by bv_omega,this,Nat.add_sub_add_right]
    grind
   have e2:sumN (fun p=>ff (s:Int) p*A p*gI k (s-p+1)) (s+1)=A 0*gI k (s+1)+sumN (fun q=>ff (s:Int) (q+1)*A (q+1)*gI k (s-q)) (s+1):=by
    rw[uH,sumN]
    have z:ff (s:Int) (s+1)=0:=yY6 s 0
    rw[z,Int.zero_mul,Int.zero_mul,Int.add_zero]
    congr 1
    ·show 1*A 0*gI k (s-0+1)=_
     rw[Int.one_mul]
     rfl
    ·refine xT fun i hi => ?_
     rw[show s-(i+1)+1=s-i by bv_omega]
   rw[e1,e2]
   show 1*A 0*gI k (s+1)+_=_
   rw[Int.one_mul]
   bv_omega
  rw[left,<-right,ih,show s+1+t=s+(t+1) by bv_omega]
theorem yR2 (n k:Nat):runM n (List.replicate n k) 0=(gn k n:Int):=by
 have h:=alike n k n 0 (by bv_omega)
 rw[show 0+n=n from Nat.zero_add n] at h
 have h:0+1*runM n (List.replicate n k) 0*gI k 0=gI k n:=h
 rw[Int.zero_add,Int.one_mul,show gI k 0=1 from rfl,Int.mul_one] at h
 exact h
end MR
local macro_rules | `(tactic| sleep 1)=>`(tactic| exact⟨rfl,rfl,rfl,by decide +kernel,rfl,by decide +kernel,by decide +kernel⟩)
local macro_rules | `(tactic| sleep 2)=>`(tactic| exact⟨rfl,by decide +kernel,by decide +kernel,by decide +kernel,by decide +kernel,rfl,by decide +kernel,by decide +kernel⟩)
namespace K64
open PySem L2 L2.L3
def top (i:Nat):Stmt:=PySem.Challenge.pw_ownboxes_k64_whole_from_text_to_answers.main.body.getD i (.Pass ⟨0,0,0,0⟩)
abbrev cO:Stmt:=top 12
abbrev dZ:Stmt:=top 13
abbrev cN:Stmt:=top 14
abbrev cP:Stmt:=top 15
abbrev fF:Stmt:=top 16
abbrev fH:Stmt:=top 17
abbrev kR:Stmt:=top 18
abbrev qM:Stmt:=top 20
abbrev dX:Stmt:=top 21
abbrev jQ:Stmt:=top 23
abbrev wA:Stmt:=top 24
abbrev uQ:Stmt:=top 25
abbrev dY:Stmt:=top 26
abbrev jN:Stmt:=top 27
abbrev wB:Stmt:=top 28
abbrev cV:Stmt:=top 29
abbrev vD:Stmt:=top 30
abbrev zJ1:Stmt:=top 31
abbrev kP:Stmt:=top 33
abbrev fG:Stmt:=top 34
abbrev wD:Stmt:=top 35
abbrev kO:Stmt:=top 36
abbrev gJ:Stmt:=top 38
abbrev vE:Stmt:=top 39
abbrev zB8:Stmt:=top 40
abbrev jB:Stmt:=top 41
abbrev vI:Stmt:=top 43
abbrev wO:Stmt:=top 44
abbrev aI:Stmt:=top 45
abbrev kA:Stmt:=top 46
abbrev dS:Stmt:=top 47
abbrev qV:Stmt:=top 48
abbrev uN:Stmt:=top 51
abbrev kS:Stmt:=top 52
abbrev uK:Stmt:=top 53
abbrev fI:Stmt:=top 54
abbrev qG:Stmt:=top 55
abbrev qI:Stmt:=top 56
abbrev jS:Stmt:=top 58
abbrev jW:Stmt:=top 59
abbrev jE:Stmt:=top 60
abbrev kU:Stmt:=top 61
abbrev jP:Stmt:=top 62
abbrev vQ:Stmt:=top 63
abbrev wC:Stmt:=top 64
abbrev zV2:Stmt:=top 65
abbrev vP:Stmt:=top 66
abbrev hV:Stmt:=top 67
abbrev fK:Stmt:=top 69
abbrev aH:Stmt:=top 71
abbrev zJ9:Stmt:=top 73
abbrev zT6:Stmt:=top 74
abbrev dL:Stmt:=top 75
abbrev gP:Stmt:=top 76
abbrev cD:Stmt:=top 77
abbrev qD:Stmt:=top 78
abbrev zA6:Stmt:=top 79
def zU1:Ev->Res Out:=(sR (vAn (vB (b3 leI leI (eC (.int 1)) (eB lenD (aC (eV 0) aN)) (eC (.int 60)))) (e2 (fun x y=>bD (eqD x y)) (eB sortD (aC (eV 0) aN)) (eB rangeL (aC (eB lenD (aC (eV 0) aN)) aN)))))
def zU8:List D->Res D:=runF false 1 1 zU1
def zY2:Ev->Res Out:=(sQ (sS 2 (eB mkL (aC (eV 1) aN))) (sQ (sW 1000000 (b2 neD (e2 ixD (eV 0) (e2 ixD (eV 2) (e1 negD (eC (.int 1))))) (eV 1)) (sM 2 appD (aC (e2 ixD (eV 0) (e2 ixD (eV 2) (e1 negD (eC (.int 1))))) aN))) (sR (eB tupD (aC (eV 2) aN)))))
def fO:List D->Res D:=runF false 2 3 zY2
def zU7:Ev->Res Out:=(sQ (sS 1 (eB mkL aN)) (sQ (sS 2 (e2 repL (eB mkL (aC (eC (.bool false)) aN)) (eB lenD (aC (eV 0) aN)))) (sQ (sF (iR rng1 (aC (eB lenD (aC (eV 0) aN)) aN)) (gN 3) (sIf (tNt (tV (e2 ixD (eV 2) (eV 3)))) (sQ (sS 4 (eF fO (aC (eV 0) (aC (eV 3) aN)))) (sQ (sM 1 appD (aC (eV 4) aN)) (sF (iS (eV 4)) (gN 5) (sI 2 (eV 5) (eC (.bool true)))))) sN)) (sR (eV 1)))))
def yL:List D->Res D:=runF true 1 6 zU7
def zR1:Ev->Res Out:=(sQ (sS 1 (eB mkL aN)) (sQ (sF (iS (eV 0)) (gN 2) (sQ (sIf (b2 eqD (eB lenD (aC (eV 2) aN)) (eC (.int 0))) (sRa "BadOrder" (aC (eC (.str "a ring has one box at least")) aN)) sN) (sM 1 extD (aC (eV 2) aN)))) (sQ (sIf (tNt (tV (eFA false zU8 (aC (eV 1) aN)))) (sRa "BadOrder" (aC (eC (.str "rings have each of 1 to 60 boxes just once")) aN)) sN) (sQ (sS 3 (e2 repL (eB mkL (aC (eC (.int 0)) aN)) (eB lenD (aC (eV 1) aN)))) (sQ (sF (iS (eV 0)) (gN 2) (sF (iR rng1 (aC (eB lenD (aC (eV 2) aN)) aN)) (gN 4) (sI 3 (e2 ixD (eV 2) (e2 subI (eV 4) (eC (.int 1)))) (e2 ixD (eV 2) (eV 4))))) (sR (eB tupD (aC (eV 3) aN))))))))
def cM:List D->Res D:=runF false 1 5 zR1
def aB:Ev->Res Out:=(sIf (tNt (b3 leI ltI (eC (.int 0)) (eV 1) (eB lenD (aC (eV 0) aN)))) (sRa "BadBox" (aC (eC (.str "there is no such box")) aN)) sN)
def fD:List D->Res D:=runF false 2 2 aB
def zZ5:Ev->Res Out:=(sQ (sE (eF fD (aC (eV 0) (aC (eV 1) aN)))) (sQ (sE (eF fD (aC (eV 0) (aC (eV 2) aN)))) (sQ (sIf (b2 eqD (eV 1) (eV 2)) (sRa "BadBox" (aC (eC (.str "an exchange is of two unlike boxes")) aN)) sN) (sQ (sS 3 (eB listD (aC (eV 0) aN))) (sQ (sI 3 (eV 1) (e2 ixD (eV 0) (eV 2))) (sQ (sI 3 (eV 2) (e2 ixD (eV 0) (eV 1))) (sR (eB tupD (aC (eV 3) aN)))))))))
def fC:List D->Res D:=runF false 3 4 zZ5
def dC:Ev->Res Out:=(sQ (sS 1 (eC (.int 1))) (sQ (sF (iR rng2 (aC (eC (.int 2)) (aC (e2 addI (eV 0) (eC (.int 1))) aN))) (gN 2) (sS 1 (e2 mulI (eV 1) (eV 2)))) (sR (eV 1))))
def dF:List D->Res D:=runF false 1 3 dC
def gS:Ev->Res Out:=(sQ (sIf (tNt (b3 leI leI (eC (.int 1)) (eV 0) (eC (.int 60)))) (sRa "BadOpenings" (aC (eC (.str "openings are for 1 to 60 people")) aN)) sN) (sQ (sIf (b2 neD (eB lenD (aC (eV 1) aN)) (eV 0)) (sRa "BadOpenings" (aC (eC (.str "each person has its openings")) aN)) sN) (sQ (sIf (tO (b2 ltI (eB min1D (aC (eV 1) aN)) (eC (.int 0))) (b2 gtI (eB max1D (aC (eV 1) aN)) (eV 0))) (sRa "BadOpenings" (aC (eC (.str "openings are from 0 to as many as there are boxes")) aN)) sN) (sR (eB tupD (aC (eV 1) aN))))))
def qL:List D->Res D:=runF false 2 2 gS
def zP8:Ev->Res Out:=(sQ (sE (eF qL (aC (eB lenD (aC (eV 0) aN)) (aC (eV 1) aN)))) (sQ (sS 2 (eB mkL aN)) (sQ (sF (iS (eF yL (aC (eV 0) aN))) (gN 3) (sM 2 extD (aC (eComp (iS (eV 3)) (b2 geI (e2 ixD (eV 1) (eV 0)) (eB lenD (aC (eV 2) aN))) (eV 0) [1,3]) aN))) (sR (eB tupD (aC (eB sortD (aC (eV 2) aN)) aN))))))
def dP:List D->Res D:=runF false 2 4 zP8
def fP:Ev->Res Out:=(sIf (tNt (b3 leI leI (eC (.int 0)) (eV 0) (eC (.int 60)))) (sRa "TooMany" (aC (eC (.str "there are 0 to 60 people")) aN)) sN)
def gB:List D->Res D:=runF false 1 1 fP
def uE:Ev->Res Out:=(sQ (sE (eF gB (aC (eV 0) aN))) (sIf (b2 ltI (eV 1) (eC (.int 0))) (sRa "BadOpenings" (aC (eC (.str "openings are not below nought")) aN)) sN))
def xN:List D->Res D:=runF false 2 2 uE
def jK:Ev->Res Out:=(sQ (sS 3 (eB mkL (aC (eC (.int 1)) aN))) (sQ (sF (iR rng2 (aC (eC (.int 1)) (aC (e2 addI (eV 0) (eC (.int 1))) aN))) (gN 4) (sQ (sS 5 (eC (.int 0))) (sQ (sS 6 (eC (.int 1))) (sQ (sF (iR rng2 (aC (eC (.int 1)) (aC (e2 addI (eB min2D (aC (eV 2) (aC (eV 4) aN))) (eC (.int 1))) aN))) (gN 7) (sQ (sIf (b2 geI (eV 7) (eV 1)) (sS 5 (e2 addI (eV 5) (e2 mulI (eV 6) (e2 ixD (eV 3) (e2 subI (eV 4) (eV 7)))))) sN) (sS 6 (e2 mulI (eV 6) (e2 subI (eV 4) (eV 7)))))) (sM 3 appD (aC (eV 5) aN)))))) (sR (eV 3))))
def xL:List D->Res D:=runF true 3 8 jK
def zZ1:Ev->Res Out:=(sQ (sE (eF xN (aC (eV 0) (aC (eV 1) aN)))) (sR (e2 ixD (eF xL (aC (eV 0) (aC (eC (.int 1)) (aC (eV 1) aN)))) (eV 0))))
def zZ6:List D->Res D:=runF false 2 2 zZ1
def fY:Ev->Res Out:=(sQ (sE (eF xN (aC (eV 0) (aC (eV 1) aN)))) (sQ (sS 2 (eF xL (aC (eV 0) (aC (eC (.int 1)) (aC (eV 1) aN))))) (sQ (sS 3 (eF xL (aC (eV 0) (aC (e2 addI (eV 1) (eC (.int 1))) (aC (eV 0) aN))))) (sQ (sS 4 (eB mkL aN)) (sQ (sS 5 (eC (.int 1))) (sQ (sF (iR rng1 (aC (e2 addI (eV 0) (eC (.int 1))) aN)) (gN 6) (sQ (sM 4 appD (aC (e2 mulI (e2 mulI (eV 5) (e2 ixD (eV 2) (eV 6))) (e2 ixD (eV 3) (e2 subI (eV 0) (eV 6)))) aN)) (sS 5 (e2 fdivI (e2 mulI (eV 5) (e2 subI (eV 0) (eV 6))) (e2 addI (eV 6) (eC (.int 1))))))) (sR (eV 4))))))))
def gA:List D->Res D:=runF true 2 7 fY
def uF:Ev->Res Out:=(sQ (sS 2 (e2 repL (eB mkL (aC (eC (.int 0)) aN)) (eB lenD (aC (eV 0) aN)))) (sQ (sF (jD (eV 0)) (gT 2 (gsC (gN 3) (gsC (gN 4) gsN))) (sQ (sIf (b2 gtI (eV 3) (eC (.int 0))) (sJ0 2 (e2 subI (eV 3) (eC (.int 1))) addI (e2 mulI (eV 3) (eV 4))) sN) (sF (iR rng2 (aC (eV 3) (aC (eB min2D (aC (e2 addI (eV 3) (eV 1)) (aC (eB lenD (aC (eV 0) aN)) aN))) aN))) (gN 5) (sJ0 2 (eV 5) addI (eV 4))))) (sR (eV 2))))
def uA:List D->Res D:=runF true 2 6 uF
def zS5:Ev->Res Out:=(sQ (sS 1 (eB lenD (aC (eV 0) aN))) (sQ (sE (eF qL (aC (eV 1) (aC (eV 0) aN)))) (sQ (sS 2 (e2 catL (eB mkL (aC (eC (.int 1)) aN)) (e2 repL (eB mkL (aC (eC (.int 0)) aN)) (eV 1)))) (sQ (sF (iS (eB sortD (aC (eV 0) aN))) (gN 3) (sS 2 (eF uA (aC (eV 2) (aC (eV 3) aN))))) (sR (e2 ixD (eV 2) (eC (.int 0))))))))
def zV4:List D->Res D:=runF false 1 4 zS5
def jZ:Ev->Res Out:=(sQ (sW 1000000 (b2 gtI (eV 1) (eC (.int 0))) (sQ (sS 2 (e2 modI (eV 0) (eV 1))) (sQ (sS 0 (eV 1)) (sS 1 (eV 2))))) (sR (eV 0)))
def qC:List D->Res D:=runF false 2 3 jZ
def yV9:Ev->Res Out:=(sQ (sS 1 (eF zV4 (aC (eV 0) aN))) (sQ (sS 2 (eF dF (aC (eB lenD (aC (eV 0) aN)) aN))) (sQ (sS 3 (eF qC (aC (eV 2) (aC (eV 1) aN)))) (sR (eB mkT (aC (e2 fdivI (eV 1) (eV 3)) (aC (e2 fdivI (eV 2) (eV 3)) aN)))))))
def zJ6:List D->Res D:=runF false 1 4 yV9
def dA:Ev->Res Out:=(sQ (sS 2 (eC (.int 0))) (sF (iS (eV 1)) (gN 3) (sQ (sIf (tNt (b3 leI ltI (eV 2) (eV 3) (eV 0))) (sRa "BadGroup" (aC (eC (.str "a group is a rising tuple of unlike people")) aN)) sN) (sS 2 (e2 addI (eV 3) (eC (.int 1)))))))
def dH:List D->Res D:=runF false 2 4 dA
def zZ7:Ev->Res Out:=(sQ (sS 2 (eC (.int 1))) (sQ (sF (iR rng1 (aC (eV 1) aN)) (gN 3) (sS 2 (e2 mulI (eV 2) (e2 subI (eV 0) (eV 3))))) (sR (eV 2))))
def jC:List D->Res D:=runF false 2 4 zZ7
def jG:Ev->Res Out:=(sQ (sS 2 (eB sumD (aC (eComp2 (jD (eV 0)) tYes (e2 mulI (eV 1) (eF jC (aC (eV 0) (aC (eV 2) aN)))) [1]) aN))) (sR (e2 fdivI (eV 2) (eF jC (aC (e2 subI (eB lenD (aC (eV 0) aN)) (eC (.int 1))) (aC (eV 1) aN))))))
def jH:List D->Res D:=runF false 2 3 jG
def dD:Ev->Res Out:=(sQ (sS 3 (eF gA (aC (eV 0) (aC (eV 1) aN)))) (sQ (sE (eF dH (aC (eV 0) (aC (eV 2) aN)))) (sR (eF jH (aC (eV 3) (aC (eB lenD (aC (eV 2) aN)) aN))))))
def cY:List D->Res D:=runF false 3 4 dD
def bZ:Ev->Res Out:=(sQ (sIf (tNt (b3 leI leI (eC (.int 0)) (eV 1) (eB lenD (aC (eV 0) aN)))) (sRa "BadOpenings" (aC (eC (.str "openings are from 0 to as many as there are boxes")) aN)) sN) (sIf (b2 eqD (eV 1) (eC (.int 0))) (sRa "NoHelp" (aC (eC (.str "without openings no exchange helps")) aN)) sN))
def gX:List D->Res D:=runF false 2 2 bZ
def gW:Ev->Res Out:=(sR (eB sumD (aC (eComp (iS (eF yL (aC (eV 0) aN))) tYes (e2 fdivI (e2 subI (eB lenD (aC (eV 0) aN)) (eC (.int 1))) (eV 1)) [1]) aN)))
def qN:List D->Res D:=runF false 2 2 gW
def yM5:Ev->Res Out:=(sQ (sE (eF gX (aC (eV 0) (aC (eV 1) aN)))) (sR (eF qN (aC (eV 0) (aC (eV 1) aN)))))
def yK1:List D->Res D:=runF false 2 2 yM5
def aA:Ev->Res Out:=(sQ (sE (eF gX (aC (eV 0) (aC (eV 1) aN)))) (sQ (sS 2 (eB mkL aN)) (sQ (sF (iS (eF yL (aC (eV 0) aN))) (gN 3) (sM 2 extD (aC (eComp (iR rng3 (aC (eV 1) (aC (eB lenD (aC (eV 3) aN)) (aC (eV 1) aN)))) tYes (eB mkT (aC (e2 ixD (eV 1) (eC (.int 0))) (aC (e2 ixD (eV 1) (eV 0)) aN))) [3]) aN))) (sR (eV 2)))))
def qS:List D->Res D:=runF true 2 4 aA
def jY:Ev->Res Out:=(sQ (sS 2 (eC (.int 1))) (sQ (sF (iR rng2 (aC (eC (.int 1)) (aC (eV 1) aN))) (gN 3) (sS 2 (e2 mulI (eV 2) (e2 subI (eV 0) (eV 3))))) (sR (eV 2))))
def uZ:List D->Res D:=runF false 2 4 jY
def uS:Ev->Res Out:=(sR (e2 mulI (eF uZ (aC (eV 1) (aC (eV 2) aN))) (e2 ixD (eV 0) (e2 subI (eV 1) (eV 2)))))
def yR:List D->Res D:=runF false 3 3 uS
def zM1:Ev->Res Out:=(sQ (sS 3 (eB mkL (aC (e2 ixD (eV 0) (eC (.int 0))) aN))) (sQ (sS 4 (eS slL (eV 0) (oS (eC (.int 1))) oN)) (sQ (sS 5 (eF uZ (aC (eB lenD (aC (eV 0) aN)) (aC (eV 1) aN)))) (sQ (sS 6 (eV 2)) (sQ (sW 1000000 (b2 ltI (eB lenD (aC (eV 3) aN)) (eV 1)) (sQ (sS 5 (e2 fdivI (eV 5) (eB lenD (aC (eV 4) aN)))) (sQ (sAP 3 4 (e2 fdivI (eV 6) (eV 5))) (sS 6 (e2 modI (eV 6) (eV 5)))))) (sR (eB tupD (aC (eV 3) aN))))))))
def aK:List D->Res D:=runF false 3 7 zM1
def bV:Ev->Res Out:=(sQ (sS 2 (eC (.int 0))) (sQ (sS 3 (eS slL (eV 0) (oS (eC (.int 1))) oN)) (sQ (sF (iS (eS slD (eV 1) (oS (eC (.int 1))) oN)) (gN 4) (sQ (sS 2 (e2 addI (e2 mulI (eV 2) (eB lenD (aC (eV 3) aN))) (eM1 ixDD (eV 3) (eV 4)))) (sM 3 remD (aC (eV 4) aN)))) (sR (eV 2)))))
def gK:List D->Res D:=runF false 2 5 bV
def zO4:Ev->Res Out:=(sQ (sIf (b2 eqD (eV 0) (eC (.int 0))) (sRa "TooMany" (aC (eC (.str "there are 1 to 60 people")) aN)) sN) (sQ (sE (eF xN (aC (eV 0) (aC (eV 1) aN)))) (sQ (sS 3 (eF xL (aC (eV 0) (aC (eC (.int 1)) (aC (eV 1) aN))))) (sQ (sIf (tNt (b3 leI ltI (eC (.int 0)) (eV 2) (e2 ixD (eV 3) (eV 0)))) (sRa "NoNumber" (aC (eC (.str "no good order has this number")) aN)) sN) (sQ (sS 4 (eB mkL aN)) (sQ (sS 5 (eB rangeL (aC (eV 0) aN))) (sQ (sS 6 (eV 2)) (sQ (sW 1000000 (b2 gtI (eB lenD (aC (eV 5) aN)) (eC (.int 0))) (sQ (sS 7 (eC (.int 1))) (sQ (sW 1000000 (b2 geI (eV 6) (eF yR (aC (eV 3) (aC (eB lenD (aC (eV 5) aN)) (aC (eV 7) aN))))) (sQ (sS 6 (e2 subI (eV 6) (eF yR (aC (eV 3) (aC (eB lenD (aC (eV 5) aN)) (aC (eV 7) aN)))))) (sS 7 (e2 addI (eV 7) (eC (.int 1)))))) (sQ (sS 8 (e2 ixD (eV 3) (e2 subI (eB lenD (aC (eV 5) aN)) (eV 7)))) (sQ (sS 9 (eF aK (aC (eV 5) (aC (eV 7) (aC (e2 fdivI (eV 6) (eV 8)) aN))))) (sQ (sM 4 appD (aC (eV 9) aN)) (sQ (sS 5 (eComp (iS (eV 5)) (b2 (inD true) (eV 0) (eV 1)) (eV 0) [9])) (sS 6 (e2 modI (eV 6) (eV 8)))))))))) (sR (eFA false cM (aC (eV 4) aN)))))))))))
def zO6:List D->Res D:=runF false 3 10 zO4
def dG:Ev->Res Out:=(sQ (sE (eF xN (aC (eB lenD (aC (eV 0) aN)) (aC (eV 1) aN)))) (sQ (sS 2 (eF xL (aC (eB lenD (aC (eV 0) aN)) (aC (eC (.int 1)) (aC (eV 1) aN))))) (sQ (sS 3 (eC (.int 0))) (sQ (sS 4 (eB rangeL (aC (eB lenD (aC (eV 0) aN)) aN))) (sQ (sF (iS (eF yL (aC (eV 0) aN))) (gN 5) (sQ (sIf (b2 gtI (eB lenD (aC (eV 5) aN)) (eV 1)) (sRa "NoNumber" (aC (eC (.str "the order is not good")) aN)) sN) (sQ (sF (iR rng2 (aC (eC (.int 1)) (aC (eB lenD (aC (eV 5) aN)) aN))) (gN 6) (sS 3 (e2 addI (eV 3) (eF yR (aC (eV 2) (aC (eB lenD (aC (eV 4) aN)) (aC (eV 6) aN))))))) (sQ (sS 3 (e2 addI (eV 3) (e2 mulI (eF gK (aC (eV 4) (aC (eV 5) aN))) (e2 ixD (eV 2) (e2 subI (eB lenD (aC (eV 4) aN)) (eB lenD (aC (eV 5) aN))))))) (sS 4 (eComp (iS (eV 4)) (b2 (inD true) (eV 0) (eV 1)) (eV 0) [5])))))) (sR (eV 3)))))))
def kQ:List D->Res D:=runF false 2 7 dG
def fU:Ev->Res Out:=(sR (eM1S joinD (eC (.str " ")) (eComp (iS (eV 0)) tYes (eB strOfD (aC (eV 0) aN)) [])))
def uL:List D->Res D:=runF false 1 1 fU
def qY:Ev->Res Out:=(sQ (sIf (tO (tNt (tV (eM0S (fun z=>some (.bool (Txt.isdigit z))) (eV 0)))) (tO (b2 gtI (eB lenTD (aC (eV 0) aN)) (eC (.int 90))) (tAn (tV (eM1S stwD (eV 0) (eC (.str "0")))) (b2 neD (eV 0) (eC (.str "0")))))) sX sN) (sR (eB intTD (aC (eV 0) aN))))
def wS:List D->Res D:=runF false 2 2 qY
def uM:Ev->Res Out:=(sR (eB tupD (aC (eComp (iS (eV 0)) tYes (eF wS (aC (eV 0) (aC (eV 1) aN))) [1]) aN)))
def wP:List D->Res D:=runF false 2 2 uM
def zZ8:Ev->Res Out:=(sQ (sS 1 (eF uL (aC (eV 0) aN))) (sR (e1 (filD "(" ")") (eV 1))))
def kT:List D->Res D:=runF false 1 2 zZ8
def bX:Ev->Res Out:=(sR (eM1S joinD (eC (.str "")) (eComp (iS (eF yL (aC (eV 0) aN))) tYes (eF kT (aC (eV 0) aN)) [])))
def vR:List D->Res D:=runF false 1 1 bX
def bL:Ev->Res Out:=(sQ (sS 1 (eComp (iS (eM1S splD (eS slS (eV 0) (oS (eC (.int 1))) (oS (e1 negD (eC (.int 1))))) (eC (.str ")(")))) tYes (eF wP (aC (eM1S splD (eV 0) (eC (.str " "))) (aC (eC (.int 1)) aN))) [])) (sQ (sTryN (sS 2 (eF cM (aC (eV 1) aN)))) (sQ (sIf (b2 neD (eF vR (aC (eV 2) aN)) (eV 0)) sX sN) (sR (eV 2)))))
def qB:List D->Res D:=runF false 1 3 bL
def fZ:Ev->Res Out:=(sR (eIf (b2 eqD (eV 0) (eC (.str ""))) (eC (.str "none")) (eV 0)))
def jR:List D->Res D:=runF false 1 1 fZ
def aZ:Ev->Res Out:=(sR (eM1S joinD (eC (.str " of ")) (eComp (iS (eF zJ6 (aC (eV 0) aN))) tYes (eB strOfD (aC (eV 0) aN)) [])))
def bU:List D->Res D:=runF false 1 1 aZ
def zZ2:Ev->Res Out:=(sR (eM1S joinD (eC (.str "-")) (eComp (iS (eV 0)) tYes (eB strOfD (aC (eV 0) aN)) [])))
def kY:List D->Res D:=runF false 1 1 zZ2
def zY1:Ev->Res Out:=(sR (eF jR (aC (eM1S joinD (eC (.str " ")) (eComp (iS (eF qS (aC (eV 0) (aC (eV 1) aN)))) tYes (eF kY (aC (eV 0) aN)) [])) aN)))
def zZ3:List D->Res D:=runF false 2 2 zY1
def fW:Ev->Res Out:=(sR (eB rangeT (aC (eB min2D (aC (eV 0) (aC (e2 addI (eC (.int 60)) (eC (.int 1))) aN))) aN)))
def fR:List D->Res D:=runF false 1 1 fW
def yG:Ev->Res Out:=(sQ (sIf (b2 eqD (eV 0) (eC (.str "share"))) (sR (eF bU (aC (eV 1) aN))) sN) (sQ (sIf (tAn (b2 eqD (eV 0) (eC (.str "good"))) (b2 eqD (eB lenD (aC (eV 1) aN)) (eC (.int 2)))) (sR (eB strOfD (aC (eF zZ6 (aC (e2 ixD (eV 1) (eC (.int 0))) (aC (e2 ixD (eV 1) (eC (.int 1))) aN))) aN))) sN) (sQ (sIf (tAn (b2 eqD (eV 0) (eC (.str "goodorder"))) (b2 eqD (eB lenD (aC (eV 1) aN)) (eC (.int 3)))) (sR (eF vR (aC (eF zO6 (aC (e2 ixD (eV 1) (eC (.int 0))) (aC (e2 ixD (eV 1) (eC (.int 1))) (aC (e2 ixD (eV 1) (eC (.int 2))) aN)))) aN))) sN) (sQ (sIf (tAn (b2 eqD (eV 0) (eC (.str "group"))) (b2 eqD (eB lenD (aC (eV 1) aN)) (eC (.int 3)))) (sR (eB strOfD (aC (eF cY (aC (e2 ixD (eV 1) (eC (.int 0))) (aC (e2 ixD (eV 1) (eC (.int 1))) (aC (eF fR (aC (e2 ixD (eV 1) (eC (.int 2))) aN)) aN)))) aN))) sN) sX))))
def xU:List D->Res D:=runF false 2 2 yG
def jJ:Ev->Res Out:=(sQ (sIf (tAn (b2 eqD (eV 0) (eC (.str "rings"))) (b2 eqD (eB lenD (aC (eV 1) aN)) (eC (.int 0)))) (sR (eF uL (aC (eComp (iS (eF yL (aC (eV 2) aN))) tYes (eB lenD (aC (eV 0) aN)) []) aN))) sN) (sQ (sIf (b2 eqD (eV 0) (eC (.str "find"))) (sR (eF jR (aC (eF uL (aC (eF dP (aC (eV 2) (aC (eV 1) aN))) aN)) aN))) sN) (sQ (sIf (tAn (b2 eqD (eV 0) (eC (.str "need"))) (b2 eqD (eB lenD (aC (eV 1) aN)) (eC (.int 1)))) (sR (eB strOfD (aC (eF yK1 (aC (eV 2) (aC (e2 ixD (eV 1) (eC (.int 0))) aN))) aN))) sN) (sQ (sIf (tAn (b2 eqD (eV 0) (eC (.str "help"))) (b2 eqD (eB lenD (aC (eV 1) aN)) (eC (.int 1)))) (sR (eF zZ3 (aC (eV 2) (aC (e2 ixD (eV 1) (eC (.int 0))) aN)))) sN) sX))))
def jI:List D->Res D:=runF false 3 3 jJ
def bK:Ev->Res Out:=(sQ (sS 1 (eM1S partD (eV 0) (eC (.str " / ")))) (sQ (sS 2 (eM1S splD (e2 ixD (eV 1) (eC (.int 0))) (eC (.str " ")))) (sQ (sS 3 (eF wP (aC (eS slD (eV 2) (oS (eC (.int 1))) oN) (aC (eC (.int 1)) aN)))) (sQ (sIf (b2 eqD (e2 ixD (eV 1) (eC (.int 1))) (eC (.str ""))) (sR (eF xU (aC (e2 ixD (eV 2) (eC (.int 0))) (aC (eV 3) aN)))) sN) (sR (eF jI (aC (e2 ixD (eV 2) (eC (.int 0))) (aC (eV 3) (aC (eF qB (aC (e2 ixD (eV 1) (eC (.int 2))) aN)) aN)))))))))
def zU5:List D->Res D:=runF false 1 4 bK
def wQ:Ev->Res Out:=(sTryN (sR (eF zU5 (aC (eV 0) aN))))
def xV:List D->Res D:=runF false 1 1 wQ
def zT9:Ev->Res Out:=(sR (eM1S joinD (eC (.str "\n")) (eComp (iS (eM1S splD (eV 0) (eC (.str "\n")))) tYes (eF xV (aC (eV 0) aN)) [])))
def xF:List D->Res D:=runF false 1 1 zT9
def zZ4:Ev->Res Out:=(sQ (sIf (b2 ltI (eV 1) (eB lenD (aC (eV 0) aN))) (sR (e2 ixD (eV 0) (eV 1))) sN) (sR (eC (.int 0))))
def vX:List D->Res D:=runF false 2 2 zZ4
def zM7:Ev->Res Out:=(sQ (sS 2 (eB mkL aN)) (sQ (sF (iR rng1 (aC (eV 1) aN)) (gN 3) (sQ (sM 2 insD (aC (e2 modI (eV 0) (e2 addI (eV 3) (eC (.int 1)))) (aC (eV 3) aN))) (sS 0 (e2 fdivI (eV 0) (e2 addI (eV 3) (eC (.int 1))))))) (sR (eB tupD (aC (eV 2) aN)))))
def dW:List D->Res D:=runF false 2 4 zM7
def yW8:Ev->Res Out:=(sQ (sS 1 (eC (.int 0))) (sQ (sF (iS (eV 0)) (gN 2) (sS 1 (e2 addI (e2 mulI (eV 1) (eC (.int 1000))) (eV 2)))) (sR (eV 1))))
def zJ8:List D->Res D:=runF false 1 3 yW8
def zF2:Ev->Res Out:=(sQ (sS 1 (eC (.int 1))) (sQ (sF (iR rng2 (aC (eC (.int 2)) (aC (e2 addI (eV 0) (eC (.int 1))) aN))) (gN 2) (sS 1 (e2 mulI (eV 1) (eV 2)))) (sR (eV 1))))
def bQ:List D->Res D:=runF false 1 3 zF2
def zM9:Ev->Res Out:=(sR (eM1S joinD (eC (.str " ")) (eComp (iS (eV 0)) tYes (eB strOfD (aC (eV 0) aN)) [])))
def yQ:List D->Res D:=runF false 1 1 zM9
def zT7:Ev->Res Out:=(sQ (sS 3 (eB mkL aN)) (sQ (sIf (b2 neD (eV 2) (eC (.str "none"))) (sF (iS (eM1S splD (eV 2) (eC (.str " ")))) (gN 4) (sQ (sA (eM1S splD (eV 4) (eC (.str "-"))) (gTl 2 (gsC (gN 5) (gsC (gN 6) gsN)))) (sM 3 appD (aC (eB mkT (aC (eB intTD (aC (eV 5) aN)) (aC (eB intTD (aC (eV 6) aN)) aN))) aN)))) sN) (sQ (fun ρ=>(eV 3 ρ).bind fun _=>(sF (iS (eV 3)) (gT 2 (gsC (gN 5) (gsC (gN 6) gsN))) (sS 0 (eF fC (aC (eV 0) (aC (eV 5) (aC (eV 6) aN)))))) ρ) (sQ (sIf (b2 gtI (eB max1D (aC (eComp (iS (eF yL (aC (eV 0) aN))) tYes (eB lenD (aC (eV 0) aN)) []) aN)) (eV 1)) (sR (e1 negD (eC (.int 1)))) sN) (sR (eB lenD (aC (eV 3) aN)))))))
def cR:List D->Res D:=runF false 3 7 zT7
def xB1:Ev->Res Out:=(sR (eB sumD (aC (eComp (iS (eF yL (aC (eV 0) aN))) tYes (e2 fdivI (e2 subI (eB lenD (aC (eV 0) aN)) (eC (.int 1))) (eV 1)) [1]) aN)))
def bB:List D->Res D:=runF false 2 2 xB1
def zL6:Ev->Res Out:=(sQ (sS 5 (eB lenD (aC (eV 0) aN))) (sQ (sIf (b2 neD (e2 ixD (eV 4) (eC (.int 0))) (eF yQ (aC (eComp (iS (eF yL (aC (eV 0) aN))) tYes (eB lenD (aC (eV 0) aN)) []) aN))) (sR (eC (.bool false))) sN) (sQ (sS 6 (eF dP (aC (eV 0) (aC (eV 1) aN)))) (sQ (sIf (b2 neD (e2 ixD (eV 4) (eC (.int 1))) (e2 ixD (eB mkL (aC (eF yQ (aC (eV 6) aN)) (aC (eC (.str "none")) aN))) (eB intD (aC (e2 (fun x y=>bD (eqD x y)) (eV 6) (eB mkT aN)) aN)))) (sR (eC (.bool false))) sN) (sQ (sS 7 (eComp (iS (eF qS (aC (eV 0) (aC (eV 2) aN)))) tYes (e2 catS (e2 catS (eB strOfD (aC (e2 ixD (eV 0) (eC (.int 0))) aN)) (eC (.str "-"))) (eB strOfD (aC (e2 ixD (eV 0) (eC (.int 1))) aN))) [])) (sQ (sIf (b2 neD (e2 ixD (eV 4) (eC (.int 3))) (e2 ixD (eB mkL (aC (eM1S joinD (eC (.str " ")) (eV 7)) (aC (eC (.str "none")) aN))) (eB intD (aC (e2 (fun x y=>bD (eqD x y)) (eV 7) (eB mkL aN)) aN)))) (sR (eC (.bool false))) sN) (sQ (sS 8 (eF bB (aC (eV 0) (aC (eV 2) aN)))) (sQ (sIf (tO (b2 neD (e2 ixD (eV 4) (eC (.int 2))) (eB strOfD (aC (eV 8) aN))) (b2 neD (eF cR (aC (eV 0) (aC (eV 2) (aC (e2 ixD (eV 4) (eC (.int 3))) aN)))) (eV 8))) (sR (eC (.bool false))) sN) (sQ (sS 9 (eF qB (aC (e2 ixD (eV 4) (eC (.int 4))) aN))) (sQ (sIf (tO (b2 neD (eF kQ (aC (eV 9) (aC (eV 2) aN))) (eV 3)) (b2 gtI (eB max1D (aC (eComp (iS (eF yL (aC (eV 9) aN))) tYes (eB lenD (aC (eV 0) aN)) []) aN)) (eV 2))) (sR (eC (.bool false))) sN) (sQ (sIf (tO (b2 neD (eB lenD (aC (eV 9) aN)) (eV 5)) (tO (b2 neD (e2 ixD (eV 4) (eC (.int 5))) (e2 ixD (eV 4) (eC (.int 6)))) (b2 geI (eV 3) (eB intTD (aC (e2 ixD (eV 4) (eC (.int 5))) aN))))) (sR (eC (.bool false))) sN) (sQ (sA (eM1S splD (e2 ixD (eV 4) (eC (.int 7))) (eC (.str " of "))) (gTl 2 (gsC (gN 10) (gsC (gN 11) gsN)))) (sQ (sIf (b2 neD (e2 mulI (eB intTD (aC (eV 10) aN)) (eF bQ (aC (eV 5) aN))) (e2 mulI (eB intTD (aC (e2 ixD (eV 4) (eC (.int 5))) aN)) (eB intTD (aC (eV 11) aN)))) (sR (eC (.bool false))) sN) (sQ (sA (eM1S splD (e2 ixD (eV 4) (eC (.int 8))) (eC (.str " of "))) (gTl 2 (gsC (gN 10) (gsC (gN 11) gsN)))) (sR (vAn (eM0S (fun z=>some (.bool (Txt.isdigit z))) (eV 10)) (e2 (fun x y=>bD (eqD x y)) (e2 modI (eF bQ (aC (eV 5) aN)) (eB intTD (aC (eV 11) aN))) (eC (.int 0)))))))))))))))))))
def kJ:List D->Res D:=runF false 5 12 zL6
def xU1:Ev->Res Out:=(sQ (sS 1 (eF zJ8 (aC (eV 0) aN))) (sQ (sS 2 (e2 addI (eC (.int 1)) (e2 modI (eF vX (aC (eV 0) (aC (eC (.int 0)) aN))) (eC (.int 12))))) (sQ (sIf (b2 eqD (e2 modI (e2 fdivI (eF vX (aC (eV 0) (aC (eC (.int 0)) aN))) (eC (.int 12))) (eC (.int 8))) (eC (.int 3))) (sS 2 (e2 addI (eC (.int 13)) (e2 modI (e2 fdivI (eF vX (aC (eV 0) (aC (eC (.int 0)) aN))) (eC (.int 96))) (eC (.int 28))))) sN) (sQ (sS 3 (eF dW (aC (eV 1) (aC (eV 2) aN)))) (sQ (sS 4 (e2 addI (eC (.int 1)) (e2 modI (e2 fdivI (eV 1) (eC (.int 5))) (eV 2)))) (sQ (sS 5 (eB tupD (aC (eComp (iR rng1 (aC (eV 2) aN)) tYes (e2 modI (e2 fdivI (e2 fdivI (eV 1) (eC (.int 7))) (e2 addI (eV 0) (eC (.int 1)))) (e2 addI (eV 2) (eC (.int 1)))) [1,2]) aN))) (sQ (sS 6 (eF vR (aC (eV 3) aN))) (sQ (sS 7 (eF xF (aC (e2 catS (e2 catS (e2 catS (eC (.str "good ")) (eB strOfD (aC (eV 2) aN))) (eC (.str " "))) (eB strOfD (aC (eV 4) aN))) aN))) (sQ (sS 8 (e2 modI (e2 fdivI (eV 1) (eC (.int 11))) (eB max2D (aC (eC (.int 1)) (aC (eB intTD (aC (eV 7) aN)) aN))))) (sQ (sS 9 (eB mkL (aC (e2 catS (eC (.str "rings / ")) (eV 6)) (aC (e2 catS (e2 catS (e2 catS (eC (.str "find ")) (eF yQ (aC (eV 5) aN))) (eC (.str " / "))) (eV 6)) aN)))) (sQ (sM 9 appD (aC (e2 catS (e2 catS (e2 catS (eC (.str "need ")) (eB strOfD (aC (eV 4) aN))) (eC (.str " / "))) (eV 6)) aN)) (sQ (sS 9 (e2 catL (eV 9) (eB mkL (aC (e2 catS (e2 catS (e2 catS (eC (.str "help ")) (eB strOfD (aC (eV 4) aN))) (eC (.str " / "))) (eV 6)) (aC (e2 catS (eC (.str "goodorder ")) (eF yQ (aC (eB mkL (aC (eV 2) (aC (eV 4) (aC (eV 8) aN)))) aN))) aN))))) (sQ (sS 9 (e2 catL (eV 9) (eB mkL (aC (e2 catS (eC (.str "good ")) (eF yQ (aC (eB mkL (aC (eV 2) (aC (eV 4) aN))) aN))) (aC (e2 catS (eC (.str "group ")) (eF yQ (aC (eB mkL (aC (eV 2) (aC (eV 4) (aC (eV 2) aN)))) aN))) aN))))) (sQ (sS 9 (e2 catL (eV 9) (eB mkL (aC (e2 catS (eC (.str "share ")) (eF yQ (aC (e2 repL (eB mkL (aC (eV 4) aN)) (eV 2)) aN))) (aC (e2 catS (eC (.str "share ")) (eF yQ (aC (eV 5) aN))) aN))))) (sQ (sS 10 (eM1S splD (eF xF (aC (eM1S joinD (eC (.str "\n")) (eV 9)) aN)) (eC (.str "\n")))) (sQ (sIf (tO (b2 neD (eB lenD (aC (eV 10) aN)) (eB lenD (aC (eV 9) aN))) (tNt (tV (eF kJ (aC (eV 3) (aC (eV 5) (aC (eV 4) (aC (eV 8) (aC (eV 10) aN))))))))) (sR (eC (.bool false))) sN) (sQ (sS 11 (e2 modI (eV 1) (eB lenD (aC (eV 9) aN)))) (sQ (sS 12 (eF xF (aC (eM1S joinD (eC (.str "\n")) (e2 catL (eS slL (eV 9) (oS (eV 11)) oN) (eS slL (eV 9) oN (oS (eV 11))))) aN))) (sR (e2 (fun x y=>bD (eqD x y)) (eM1S splD (eV 12) (eC (.str "\n"))) (e2 catL (eS slL (eV 10) (oS (eV 11)) oN) (eS slL (eV 10) oN (oS (eV 11))))))))))))))))))))))))
def xT4:List D->Res D:=runF false 1 13 xU1
structure Txt [CN] (K:KFr) (mg:Str->Option Value):Prop where
 g_enumerate:mg "enumerate" = none
 g_int:mg "int" = none
 g_len:mg "len" = none
 g_list:mg "list" = none
 g_max:mg "max" = none
 g_min:mg "min" = none
 g_range:mg "range" = none
 g_sorted:mg "sorted" = none
 g_str:mg "str" = none
 g_sum:mg "sum" = none
 g_tuple:mg "tuple" = none
 c_MOST_FIGURES:∃u,mg "MOST_FIGURES" = some u/\RelV (.int 90) u
 c_MOST_PEOPLE:∃u,mg "MOST_PEOPLE" = some u/\RelV (.int 60) u
 d_is_order:∃f fd,Has K mg "is_order" cO f fd ["names"]
 d_ring_from:∃f fd,Has K mg "ring_from" dZ f fd ["order","box"]
 d_rings_of:∃f fd,Has K mg "rings_of" cN f fd ["order"]
 d_order_by:∃f fd,Has K mg "order_by" cP f fd ["rings"]
 d_check_box:∃f fd,Has K mg "check_box" fF f fd ["order","box"]
 d_exchanged:∃f fd,Has K mg "exchanged" fH f fd ["order","one","other"]
 d_many_orders:∃f fd,Has K mg "many_orders" kR f fd ["people"]
 d_made_openings:∃f fd,Has K mg "made_openings" qM f fd ["people","numbers"]
 d_finders:∃f fd,Has K mg "finders" dX f fd ["order","openings"]
 d_check_people:∃f fd,Has K mg "check_people" jQ f fd ["people"]
 d_check_people_and_k:∃f fd,Has K mg "check_people_and_k" wA f fd ["people","k"]
 d_many_by_lengths:∃f fd,Has K mg "many_by_lengths" uQ f fd ["people","least","most"]
 d_many_good:∃f fd,Has K mg "many_good" dY f fd ["people","k"]
 d_many_finding:∃f fd,Has K mg "many_finding" jN f fd ["people","k"]
 d_many_behind_person:∃f fd,Has K mg "many_behind_person" wB f fd ["many","openings"]
 d_many_all:∃f fd,Has K mg "many_all" cV f fd ["openings"]
 d_greatest_divisor:∃f fd,Has K mg "greatest_divisor" vD f fd ["one","other"]
 d_share:∃f fd,Has K mg "share" zJ1 f fd ["openings"]
 d_check_group:∃f fd,Has K mg "check_group" kP f fd ["people","group"]
 d_many_rows:∃f fd,Has K mg "many_rows" fG f fd ["people","size"]
 d_many_with_group:∃f fd,Has K mg "many_with_group" wD f fd ["many","size"]
 d_many_all_of:∃f fd,Has K mg "many_all_of" kO f fd ["people","k","group"]
 d_check_help:∃f fd,Has K mg "check_help" gJ f fd ["order","k"]
 d_need_of_rings:∃f fd,Has K mg "need_of_rings" vE f fd ["order","k"]
 d_need:∃f fd,Has K mg "need" zB8 f fd ["order","k"]
 d_exchanges:∃f fd,Has K mg "exchanges" jB f fd ["order","k"]
 d_many_first_rings:∃f fd,Has K mg "many_first_rings" vI f fd ["boxes","length"]
 d_many_with_first_ring:∃f fd,Has K mg "many_with_first_ring" wO f fd ["many","boxes","length"]
 d_ring_at:∃f fd,Has K mg "ring_at" aI f fd ["left","length","place"]
 d_ring_place:∃f fd,Has K mg "ring_place" kA f fd ["left","ring"]
 d_good_at:∃f fd,Has K mg "good_at" dS f fd ["people","k","number"]
 d_good_number:∃f fd,Has K mg "good_number" qV f fd ["order","k"]
 d_numbers_text:∃f fd,Has K mg "numbers_text" uN f fd ["numbers"]
 d_read_number:∃f fd,Has K mg "read_number" kS f fd ["word","row"]
 d_read_numbers:∃f fd,Has K mg "read_numbers" uK f fd ["words","row"]
 d_ring_text:∃f fd,Has K mg "ring_text" fI f fd ["ring"]
 d_order_text:∃f fd,Has K mg "order_text" qG f fd ["order"]
 d_read_order:∃f fd,Has K mg "read_order" qI f fd ["text"]
 d_text_or_none:∃f fd,Has K mg "text_or_none" jS f fd ["text"]
 d_share_text:∃f fd,Has K mg "share_text" jW f fd ["openings"]
 d_pair_text:∃f fd,Has K mg "pair_text" jE f fd ["pair"]
 d_help_text:∃f fd,Has K mg "help_text" kU f fd ["order","k"]
 d_first_people:∃f fd,Has K mg "first_people" jP f fd ["count"]
 d_answer_by_numbers:∃f fd,Has K mg "answer_by_numbers" vQ f fd ["word","numbers"]
 d_answer_by_order:∃f fd,Has K mg "answer_by_order" wC f fd ["word","numbers","order"]
 d_answer:∃f fd,Has K mg "answer" zV2 f fd ["row"]
 d_answer_or_refusal:∃f fd,Has K mg "answer_or_refusal" vP f fd ["row"]
 d_answered:∃f fd,Has K mg "answered" hV f fd ["sheet"]
 d_l_cell_at:∃f fd,Has K mg "_law_cell_at" fK f fd ["script","k"]
 d_l_order:∃f fd,Has K mg "_law_order" aH f fd ["cell","many"]
 d_l_all:∃f fd,Has K mg "_law_all" zJ9 f fd ["script"]
 d_l_ways:∃f fd,Has K mg "_law_ways" zT6 f fd ["many"]
 d_l_words:∃f fd,Has K mg "_law_words" dL f fd ["numbers"]
 d_l_helped:∃f fd,Has K mg "_law_helped" gP f fd ["order","k","told"]
 d_l_need:∃f fd,Has K mg "_law_need" cD f fd ["order","k"]
 d_l_right:∃f fd,Has K mg "_law_right" qD f fd ["order","openings","k","number","told"]
 d_law:∃f fd,Has K mg "law" zA6 f fd ["script"]
 x_BadBox:mg "BadBox" = some (.ref (CN.ad "BadBox"))
 x_BadGroup:mg "BadGroup" = some (.ref (CN.ad "BadGroup"))
 x_BadOpenings:mg "BadOpenings" = some (.ref (CN.ad "BadOpenings"))
 x_BadOrder:mg "BadOrder" = some (.ref (CN.ad "BadOrder"))
 x_NoHelp:mg "NoHelp" = some (.ref (CN.ad "NoHelp"))
 x_NoNumber:mg "NoNumber" = some (.ref (CN.ad "NoNumber"))
 x_TooMany:mg "TooMany" = some (.ref (CN.ad "TooMany"))
 ox_BadBox:OwnX K "BadBox"
 ox_BadGroup:OwnX K "BadGroup"
 ox_BadOpenings:OwnX K "BadOpenings"
 ox_BadOrder:OwnX K "BadOrder"
 ox_NoHelp:OwnX K "NoHelp"
 ox_NoNumber:OwnX K "NoNumber"
 ox_TooMany:OwnX K "TooMany"
section
variable [CN] {P:Program}{w:World}{K:KFr}{mg:Str->Option Value}{base:Heap}
theorem zH8:zJ ["names"] ["names"] (zN cO):=by sleep 1
theorem yD5 (T:Txt K mg){f:Addr}{fd:FuncData}(h:Has K mg "is_order" cO f fd ["names"]):FnOk P w K mg base (CXV P w) 1 f fd ["names"] (spX false zU8):=by
 refine zD [] h.F zH8 fun cdv A outer s H E hr => ?_
 have nd:=zH8.nd
 have u:=hr.units
 exact (zS (zG (xP6 (xG7 gO gO gU gU zR (zL zM zC T.g_len PySem.boot_len (zV (zZ 0) zY)) (aY T.c_MOST_PEOPLE.choose_spec.1 T.c_MOST_PEOPLE.choose_spec.2)) (xL9 (zQ4 (yA u) xK (zL cB yV4 T.g_sorted (by rfl) (zV (zZ 0) zY)) (cE T.g_list T.g_range (zV (zL zM zC T.g_len PySem.boot_len (zV (zZ 0) zY)) zY)))))))
theorem zN9:zJ ["order","box","ring"] ["order","box"] (zN dZ):=by sleep 1
theorem yI1 (T:Txt K mg){f:Addr}{fd:FuncData}(h:Has K mg "ring_from" dZ f fd ["order","box"]):FnOk P w K mg base (CXV P w) 1 f fd ["order","box"] (spX false fO):=by
 refine zD [2] h.F zN9 fun cdv A outer s H E hr => ?_
 have nd:=zN9.nd
 have u:=hr.units
 exact (zW (xW 2 nd (yI (zX (zZ 1) zY))) (zW (bF 1000000 (zA (vT u) uD (yV zB yW (zZ 0) (yV zB yW (yC 2) (zB1 zR))) (zZ 1)) (zS (jM 2 PySem.F.slot_list_append PySem.F.type_list_append uJ qH (zX (yV zB yW (zZ 0) (yV zB yW (yC 2) (zB1 zR))) zY))) PassesOwn.leaving) (zS (zG (yZ xE gQ T.g_tuple (by rfl) (zV (yC 2) zY))))))
theorem zH1:zJ ["order","rings","seen","box","ring","member"] ["order"] (zN cN):=by sleep 1
theorem wY (T:Txt K mg){f:Addr}{fd:FuncData}(h:Has K mg "rings_of" cN f fd ["order"]):FnOk P w K mg base (CXV P w) 2 f fd ["order"] (spX true yL):=by
 obtain⟨_,_,h0⟩:=T.d_ring_from
 refine zD [1,2] h.F zH1 fun cdv A outer s H E hr => ?_
 have nd:=zH1.nd
 have u:=hr.units
 exact (zW (xW 1 nd (yI zY)) (zW (xW 2 nd (zK zW2 zP3 (yI (zX fJ zY)) (zL zM zC T.g_len PySem.boot_len (zV (zZ 0) zY)))) (zW (xS (kE T.g_range (zV (zL zM zC T.g_len PySem.boot_len (zV (zZ 0) zY)) zY)) (yT 3 nd) (zS (yN (jA (zQ8 (yV zB yW (yC 2) (zZ 3)))) (zW (zH 4 nd (zP (yI1 T h0) h0 (hr.mono (by decide)) (zQ (om:=[1,2])) (zX (zZ 0) (zX (zZ 3) zY)))) (zW (jM 1 PySem.F.slot_list_append PySem.F.type_list_append uJ qH (zX (zZ 4) zY)) (zS (xS (yH (RE.rd (zZ 4))) (yT 5 nd) (zS (zJ4 2 fJ (zZ 5))) PassesOwn.leaving)))) yY)) PassesOwn.leaving) (zS (zY6 1)))))
theorem zH5:zJ ["rings","boxes","ring","names","place"] ["rings"] (zN cP):=by sleep 1
theorem zI7 (T:Txt K mg){f:Addr}{fd:FuncData}(h:Has K mg "order_by" cP f fd ["rings"]):FnOk P w K mg base (CXV P w) 2 f fd ["rings"] (spX false cM):=by
 obtain⟨_,_,h0⟩:=T.d_is_order
 refine zD [1,3] h.F zH5 fun cdv A outer s H E hr => ?_
 have nd:=zH5.nd
 have u:=hr.units
 exact (zW (xW 1 nd (yI zY)) (zW (xS (yH (RE.rd (zZ 0))) (yT 2 nd) (zW (yN (zA (yA u) xK (zL zM zC T.g_len PySem.boot_len (zV (zZ 2) zY)) zR) (zS (xC (zQ (om:=[1,3])) T.ox_BadOrder T.x_BadOrder (zV zI zY))) yY) (zS (yF3 1 (zZ 2)))) PassesOwn.leaving) (zW (yN (jA (zQ8 (yZ9 (yD5 T h0) h0 (hr.mono (by decide)) (zQ (om:=[1,3])) (zV (yC 1) zY)))) (zS (xC (zQ (om:=[1,3])) T.ox_BadOrder T.x_BadOrder (zV zI zY))) yY) (zW (xW 3 nd (zK zW2 zP3 (yI (zX zR zY)) (zL zM zC T.g_len PySem.boot_len (zV (yC 1) zY)))) (zW (xS (yH (RE.rd (zZ 0))) (yT 2 nd) (zS (xS (kE T.g_range (zV (zL zM zC T.g_len PySem.boot_len (zV (zZ 2) zY)) zY)) (yT 4 nd) (zS (zJ4 3 (yV zB yW (zZ 2) (zZ 4)) (yV zB yW (zZ 2) (zK uX vS (zZ 4) zR)))) PassesOwn.leaving)) PassesOwn.leaving) (zS (zG (yZ xE gQ T.g_tuple (by rfl) (zV (yC 3) zY)))))))))
theorem zP2:zJ ["order","box"] ["order","box"] (zN fF):=by sleep 1
theorem zQ7 (T:Txt K mg){f:Addr}{fd:FuncData}(h:Has K mg "check_box" fF f fd ["order","box"]):FnOk P w K mg base (CXV P w) 1 f fd ["order","box"] (spX false fD):=by
 refine zD [] h.F zP2 fun cdv A outer s H E hr => ?_
 have nd:=zP2.nd
 have u:=hr.units
 exact (zS (yN (jA (fQ gO zS1 gU zS2 zR (zZ 1) (zL zM zC T.g_len PySem.boot_len (zV (zZ 0) zY)))) (zS (xC zQ T.ox_BadBox T.x_BadBox (zV zI zY))) yY))
theorem zL9:zJ ["order","one","other","names"] ["order","one","other"] (zN fH):=by sleep 1
theorem yJ1 (T:Txt K mg){f:Addr}{fd:FuncData}(h:Has K mg "exchanged" fH f fd ["order","one","other"]):FnOk P w K mg base (CXV P w) 2 f fd ["order","one","other"] (spX false fC):=by
 obtain⟨_,_,h0⟩:=T.d_check_box
 refine zD [3] h.F zL9 fun cdv A outer s H E hr => ?_
 have nd:=zL9.nd
 have u:=hr.units
 exact (zW (vJ (zP (zQ7 T h0) h0 (hr.mono (by decide)) (zQ (om:=[3])) (zX (zZ 0) (zX (zZ 1) zY)))) (zW (vJ (zP (zQ7 T h0) h0 (hr.mono (by decide)) (zQ (om:=[3])) (zX (zZ 0) (zX (zZ 2) zY)))) (zW (yN (zA (yA u) xK (zZ 1) (zZ 2)) (zS (xC (zQ (om:=[3])) T.ox_BadBox T.x_BadBox (zV zI zY))) yY) (zW (xW 3 nd (yZ yK4 wW3 T.g_list (by rfl) (zV (zZ 0) zY))) (zW (zJ4 3 (yV zB yW (zZ 0) (zZ 2)) (zZ 1)) (zW (zJ4 3 (yV zB yW (zZ 0) (zZ 1)) (zZ 2)) (zS (zG (yZ xE gQ T.g_tuple (by rfl) (zV (yC 3) zY))))))))))
theorem zX5:zJ ["people","many","factor"] ["people"] (zN kR):=by sleep 1
theorem yU2 (T:Txt K mg){f:Addr}{fd:FuncData}(h:Has K mg "many_orders" kR f fd ["people"]):FnOk P w K mg base (CXV P w) 1 f fd ["people"] (spX false dF):=by
 refine zD [] h.F zX5 fun cdv A outer s H E hr => ?_
 have nd:=zX5.nd
 have u:=hr.units
 exact (zW (zH 1 nd zR) (zW (xS (qF T.g_range (zV zR (zV (zK wV xX (zZ 0) zR) zY))) (yT 2 nd) (zS (kZ 1 nd zT8 wK (zZ 2))) PassesOwn.leaving) (zS (zG (zZ 1)))))
theorem bN:zJ ["people","numbers"] ["people","numbers"] (zN qM):=by sleep 1
theorem bO (T:Txt K mg){f:Addr}{fd:FuncData}(h:Has K mg "made_openings" qM f fd ["people","numbers"]):FnOk P w K mg base (CXV P w) 1 f fd ["people","numbers"] (spX false qL):=by
 refine zD [] h.F bN fun cdv A outer s H E hr => ?_
 have nd:=bN.nd
 have u:=hr.units
 exact (zW (yN (jA (fQ gO gO gU gU zR (zZ 0) (aY T.c_MOST_PEOPLE.choose_spec.1 T.c_MOST_PEOPLE.choose_spec.2))) (zS (xC zQ T.ox_BadOpenings T.x_BadOpenings (zV zI zY))) yY) (zW (yN (zA (vT u) uD (zL zM zC T.g_len PySem.boot_len (zV (zZ 1) zY)) (zZ 0)) (zS (xC zQ T.ox_BadOpenings T.x_BadOpenings (zV zI zY))) yY) (zW (yN (RW.rt (rw_or (zA zS1 zS2 (zL (xN9 rfl) wW4 T.g_min PyProof.Rows.boot_min (zV (zZ 1) zY)) zR) (rw_or1 (zA aJ aV (zL (zN3 rfl) yV1 T.g_max PyProof.Rows.boot_max (zV (zZ 1) zY)) (zZ 0))))) (zS (xC zQ T.ox_BadOpenings T.x_BadOpenings (zV zI zY))) yY) (zS (zG (yZ xE gQ T.g_tuple (by rfl) (zV (zZ 1) zY)))))))
theorem zB3:zJ ["order","openings","found","ring"] ["order","openings"] (zN dX):=by sleep 1
theorem yY1 (T:Txt K mg){f:Addr}{fd:FuncData}(h:Has K mg "finders" dX f fd ["order","openings"]):FnOk P w K mg base (CXV P w) 3 f fd ["order","openings"] (spX false dP):=by
 obtain⟨_,_,h0⟩:=T.d_made_openings
 obtain⟨_,_,h1⟩:=T.d_rings_of
 refine zD [2] h.F zB3 fun cdv A outer s H E hr => ?_
 have nd:=zB3.nd
 have u:=hr.units
 exact (zW (vJ (zP (bO T h0) h0 (hr.mono (by decide)) (zQ (om:=[2])) (zX (zL zM zC T.g_len PySem.boot_len (zV (zZ 0) zY)) (zX (zZ 1) zY)))) (zW (xW 2 nd (yI zY)) (zW (xS (yH (RE.rd (RE.cl (yD (wY T h1) h1 (hr.mono (by decide)) (zQ (om:=[2])) (zX (zZ 0) zY))))) (yT 3 nd) (zS (yF3 2 (wZ (sc0:=zN dX) (N0:=["order","openings","found","ring"]) (fs:=["openings","ring"]) (js:=[1,3]) (by sleep 2) rfl rfl rfl (RI.c (yH (RE.rd (zZ 3)))) (fun _ _ _ _=>(yX5 (zA yN4 yN5 (yV zB yW (zZ 1) (zZ 0)) (zL zM zC T.g_len PySem.boot_len (zV (zZ 2) zY))))) (fun _ _ _ _=>(zZ 0))))) PassesOwn.leaving) (zS (zG (yZ xE gQ T.g_tuple (by rfl) (zV (zL cB yV4 T.g_sorted (by rfl) (zV (yC 2) zY)) zY)))))))
theorem aL:zJ ["people"] ["people"] (zN jQ):=by sleep 1
theorem zE7 (T:Txt K mg){f:Addr}{fd:FuncData}(h:Has K mg "check_people" jQ f fd ["people"]):FnOk P w K mg base (CXV P w) 1 f fd ["people"] (spX false gB):=by
 refine zD [] h.F aL fun cdv A outer s H E hr => ?_
 have nd:=aL.nd
 have u:=hr.units
 exact (zS (yN (jA (fQ gO gO gU gU zR (zZ 0) (aY T.c_MOST_PEOPLE.choose_spec.1 T.c_MOST_PEOPLE.choose_spec.2))) (zS (xC zQ T.ox_TooMany T.x_TooMany (zV zI zY))) yY))
theorem kI:zJ ["people","k"] ["people","k"] (zN wA):=by sleep 1
theorem wH (T:Txt K mg){f:Addr}{fd:FuncData}(h:Has K mg "check_people_and_k" wA f fd ["people","k"]):FnOk P w K mg base (CXV P w) 2 f fd ["people","k"] (spX false xN):=by
 obtain⟨_,_,h0⟩:=T.d_check_people
 refine zD [] h.F kI fun cdv A outer s H E hr => ?_
 have nd:=kI.nd
 have u:=hr.units
 exact (zW (vJ (zP (zE7 T h0) h0 (hr.mono (by decide)) zQ (zX (zZ 0) zY))) (zS (yN (zA zS1 zS2 (zZ 1) zR) (zS (xC zQ T.ox_BadOpenings T.x_BadOpenings (zV zI zY))) yY)))
theorem dO:zJ ["people","least","most","many","count","total","ways","length"] ["people","least","most"] (zN uQ):=by sleep 1
theorem wL (T:Txt K mg){f:Addr}{fd:FuncData}(h:Has K mg "many_by_lengths" uQ f fd ["people","least","most"]):FnOk P w K mg base (CXV P w) 1 f fd ["people","least","most"] (spX true xL):=by
 refine zD [3] h.F dO fun cdv A outer s H E hr => ?_
 have nd:=dO.nd
 have u:=hr.units
 exact (zW (xW 3 nd (yI (zX zR zY))) (zW (xS (qF T.g_range (zV zR (zV (zK wV xX (zZ 0) zR) zY))) (yT 4 nd) (zW (zH 5 nd zR) (zW (zH 6 nd zR) (zW (xS (qF T.g_range (zV zR (zV (zK wV xX (zL (zP7 rfl) yV2 T.g_min PyProof.Rows.boot_min (zV (zZ 2) (zV (zZ 4) zY))) zR) zY))) (yT 7 nd) (zW (yN (zA yN4 yN5 (zZ 7) (zZ 1)) (zS (kZ 5 nd cL xX (zK vU wK (zZ 6) (yV zB yW (yC 3) (zK uX vS (zZ 4) (zZ 7)))))) yY) (zS (kZ 6 nd zT8 wK (zK uX vS (zZ 4) (zZ 7))))) PassesOwn.leaving) (zS (jM 3 PySem.F.slot_list_append PySem.F.type_list_append uJ qH (zX (zZ 5) zY)))))) PassesOwn.leaving) (zS (zY6 3))))
theorem zP5:zJ ["people","k"] ["people","k"] (zN dY):=by sleep 1
theorem yM4 (T:Txt K mg){f:Addr}{fd:FuncData}(h:Has K mg "many_good" dY f fd ["people","k"]):FnOk P w K mg base (CXV P w) 3 f fd ["people","k"] (spX false zZ6):=by
 obtain⟨_,_,h0⟩:=T.d_check_people_and_k
 obtain⟨_,_,h1⟩:=T.d_many_by_lengths
 refine zD [] h.F zP5 fun cdv A outer s H E hr => ?_
 have nd:=zP5.nd
 have u:=hr.units
 exact (zW (vJ (zP (wH T h0) h0 (hr.mono (by decide)) zQ (zX (zZ 0) (zX (zZ 1) zY)))) (zS (zG (yV zB yW (yD (wL T h1) h1 (hr.mono (by decide)) zQ (zX (zZ 0) (zX zR (zX (zZ 1) zY)))) (zZ 0)))))
theorem aO:zJ ["people","k","finding","missing","told","chosen","count"] ["people","k"] (zN jN):=by sleep 1
theorem yY2 (T:Txt K mg){f:Addr}{fd:FuncData}(h:Has K mg "many_finding" jN f fd ["people","k"]):FnOk P w K mg base (CXV P w) 3 f fd ["people","k"] (spX true gA):=by
 obtain⟨_,_,h0⟩:=T.d_check_people_and_k
 obtain⟨_,_,h1⟩:=T.d_many_by_lengths
 refine zD [4] h.F aO fun cdv A outer s H E hr => ?_
 have nd:=aO.nd
 have u:=hr.units
 exact (zW (vJ (zP (wH T h0) h0 (hr.mono (by decide)) (zQ (om:=[4])) (zX (zZ 0) (zX (zZ 1) zY)))) (zW (zH 2 nd (RE.cl (yD (wL T h1) h1 (hr.mono (by decide)) (zQ (om:=[4])) (zX (zZ 0) (zX zR (zX (zZ 1) zY)))))) (zW (zH 3 nd (RE.cl (yD (wL T h1) h1 (hr.mono (by decide)) (zQ (om:=[4])) (zX (zZ 0) (zX (zK wV xX (zZ 1) zR) (zX (zZ 0) zY)))))) (zW (xW 4 nd (yI zY)) (zW (zH 5 nd zR) (zW (xS (kE T.g_range (zV (zK wV xX (zZ 0) zR) zY)) (yT 6 nd) (zW (jM 4 PySem.F.slot_list_append PySem.F.type_list_append uJ qH (zX (zK vU wK (zK vU wK (zZ 5) (yV zB yW (zZ 2) (zZ 6))) (yV zB yW (zZ 3) (zK uX vS (zZ 0) (zZ 6)))) zY)) (zS (zH 5 nd (zK xB wU (zK vU wK (zZ 5) (zK uX vS (zZ 0) (zZ 6))) (zK wV xX (zZ 6) zR))))) PassesOwn.leaving) (zS (zY6 4))))))))
theorem kC:zJ ["many","openings","later","places","ways","left"] ["many","openings"] (zN wB):=by sleep 1
theorem zX4 (T:Txt K mg){f:Addr}{fd:FuncData}(h:Has K mg "many_behind_person" wB f fd ["many","openings"]):FnOk P w K mg base (CXV P w) 1 f fd ["many","openings"] (spX true uA):=by
 refine zD [2] h.F kC fun cdv A outer s H E hr => ?_
 have nd:=kC.nd
 have u:=hr.units
 exact (zW (xW 2 nd (zK zW2 zP3 (yI (zX zR zY)) (zL zM zC T.g_len PySem.boot_len (zV (zZ 0) zY)))) (zW (wV2 (zM6 T.g_enumerate (RE.rd (zZ 0))) (xN2 rfl (uV (yT 3 nd) (uV (yT 4 nd) zW7))) (zW (yN (zA aJ aV (zZ 3) zR) (zS (xY4 2 cL xX (zK uX vS (zZ 3) zR) (zK vU wK (zZ 3) (zZ 4)))) yY) (zS (xS (qF T.g_range (zV (zZ 3) (zV (zL (zP7 rfl) yV2 T.g_min PyProof.Rows.boot_min (zV (zK wV xX (zZ 3) (zZ 1)) (zV (zL zM zC T.g_len PySem.boot_len (zV (zZ 0) zY)) zY))) zY))) (yT 5 nd) (zS (xY4 2 cL xX (zZ 5) (zZ 4))) PassesOwn.leaving))) PassesOwn.leaving) (zS (zY6 2))))
theorem zI6:zJ ["openings","people","many","number"] ["openings"] (zN cV):=by sleep 1
theorem yD1 (T:Txt K mg){f:Addr}{fd:FuncData}(h:Has K mg "many_all" cV f fd ["openings"]):FnOk P w K mg base (CXV P w) 2 f fd ["openings"] (spX false zV4):=by
 obtain⟨_,_,h0⟩:=T.d_made_openings
 obtain⟨_,_,h1⟩:=T.d_many_behind_person
 refine zD [] h.F zI6 fun cdv A outer s H E hr => ?_
 have nd:=zI6.nd
 have u:=hr.units
 exact (zW (zH 1 nd (zL zM zC T.g_len PySem.boot_len (zV (zZ 0) zY))) (zW (vJ (zP (bO T h0) h0 (hr.mono (by decide)) zQ (zX (zZ 1) (zX (zZ 0) zY)))) (zW (zH 2 nd (RE.cl (zK cG zW5 (yI (zX zR zY)) (zK zW2 zP3 (yI (zX zR zY)) (zZ 1))))) (zW (xS (yH (RE.rd (RE.cl (zL cB yV4 T.g_sorted (by rfl) (zV (zZ 0) zY))))) (yT 3 nd) (zS (zH 2 nd (RE.cl (yD (zX4 T h1) h1 (hr.mono (by decide)) zQ (zX (zZ 2) (zX (zZ 3) zY)))))) PassesOwn.leaving) (zS (zG (yV zB yW (zZ 2) zR)))))))
theorem gG:zJ ["one","other","rest"] ["one","other"] (zN vD):=by sleep 1
theorem zQ2 (T:Txt K mg){f:Addr}{fd:FuncData}(h:Has K mg "greatest_divisor" vD f fd ["one","other"]):FnOk P w K mg base (CXV P w) 1 f fd ["one","other"] (spX false qC):=by
 refine zD [] h.F gG fun cdv A outer s H E hr => ?_
 have nd:=gG.nd
 have u:=hr.units
 exact (zW (bF 1000000 (zA aJ aV (zZ 1) zR) (zW (zH 2 nd (zK qZ qW (zZ 0) (zZ 1))) (zW (zH 0 nd (zZ 1)) (zS (zH 1 nd (zZ 2))))) PassesOwn.leaving) (zS (zG (zZ 0))))
theorem yF6:zJ ["openings","finding","whole","divisor"] ["openings"] (zN zJ1):=by sleep 1
theorem xC8 (T:Txt K mg){f:Addr}{fd:FuncData}(h:Has K mg "share" zJ1 f fd ["openings"]):FnOk P w K mg base (CXV P w) 3 f fd ["openings"] (spX false zJ6):=by
 obtain⟨_,_,h0⟩:=T.d_many_all
 obtain⟨_,_,h1⟩:=T.d_many_orders
 obtain⟨_,_,h2⟩:=T.d_greatest_divisor
 refine zD [] h.F yF6 fun cdv A outer s H E hr => ?_
 have nd:=yF6.nd
 have u:=hr.units
 exact (zW (zH 1 nd (zP (yD1 T h0) h0 (hr.mono (by decide)) zQ (zX (zZ 0) zY))) (zW (zH 2 nd (zP (yU2 T h1) h1 (hr.mono (by decide)) zQ (zX (zL zM zC T.g_len PySem.boot_len (zV (zZ 0) zY)) zY))) (zW (zH 3 nd (zP (zQ2 T h2) h2 (hr.mono (by decide)) zQ (zX (zZ 2) (zX (zZ 1) zY)))) (zS (zG (zD5 (zX (zK xB wU (zZ 1) (zZ 3)) (zX (zK xB wU (zZ 2) (zZ 3)) zY))))))))
theorem zW1:zJ ["people","group","least","person"] ["people","group"] (zN kP):=by sleep 1
theorem yX3 (T:Txt K mg){f:Addr}{fd:FuncData}(h:Has K mg "check_group" kP f fd ["people","group"]):FnOk P w K mg base (CXV P w) 1 f fd ["people","group"] (spX false dH):=by
 refine zD [] h.F zW1 fun cdv A outer s H E hr => ?_
 have nd:=zW1.nd
 have u:=hr.units
 exact (zW (zH 2 nd zR) (zS (xS (yH (RE.rd (zZ 1))) (yT 3 nd) (zW (yN (jA (fQ gO zS1 gU zS2 (zZ 2) (zZ 3) (zZ 0))) (zS (xC zQ T.ox_BadGroup T.x_BadGroup (zV zI zY))) yY) (zS (zH 2 nd (zK wV xX (zZ 3) zR)))) PassesOwn.leaving)))
theorem zN6:zJ ["people","size","ways","taken"] ["people","size"] (zN fG):=by sleep 1
theorem zN1 (T:Txt K mg){f:Addr}{fd:FuncData}(h:Has K mg "many_rows" fG f fd ["people","size"]):FnOk P w K mg base (CXV P w) 1 f fd ["people","size"] (spX false jC):=by
 refine zD [] h.F zN6 fun cdv A outer s H E hr => ?_
 have nd:=zN6.nd
 have u:=hr.units
 exact (zW (zH 2 nd zR) (zW (xS (kE T.g_range (zV (zZ 1) zY)) (yT 3 nd) (zS (kZ 2 nd zT8 wK (zK uX vS (zZ 0) (zZ 3)))) PassesOwn.leaving) (zS (zG (zZ 2)))))
theorem dN:zJ ["many","size","whole"] ["many","size"] (zN wD):=by sleep 1
theorem zN7 (T:Txt K mg){f:Addr}{fd:FuncData}(h:Has K mg "many_with_group" wD f fd ["many","size"]):FnOk P w K mg base (CXV P w) 2 f fd ["many","size"] (spX false jH):=by
 obtain⟨_,_,h0⟩:=T.d_many_rows
 refine zD [] h.F dN fun cdv A outer s H E hr => ?_
 have nd:=dN.nd
 have u:=hr.units
 exact (zW (zH 2 nd (zL (zL8 rfl) yE4 T.g_sum PyProof.Rows.boot_sum (zV (xE9 (sc0:=zN wD) (N0:=["many","size","whole"]) (fs:=["size"]) (js:=[1]) (by exact⟨rfl,by decide +kernel,by decide +kernel,by decide +kernel,by decide +kernel,by decide +kernel,rfl,by decide +kernel,by decide +kernel⟩) rfl rfl rfl (RIo.c (zM6 T.g_enumerate (RE.rd (zZ 0)))) (fun _ _ _ _=>xP) (fun _ _ _ _=>(zK vU wK (zZ 1) (zP (zN1 T h0) h0 (hr.mono (by decide)) (aQ fun _ _ h=>h) (zX (zZ 0) (zX (zZ 2) zY)))))) zY))) (zS (zG (zK xB wU (zZ 2) (zP (zN1 T h0) h0 (hr.mono (by decide)) zQ (zX (zK uX vS (zL zM zC T.g_len PySem.boot_len (zV (zZ 0) zY)) zR) (zX (zZ 1) zY)))))))
theorem zY4:zJ ["people","k","group","finding"] ["people","k","group"] (zN kO):=by sleep 1
theorem yW4 (T:Txt K mg){f:Addr}{fd:FuncData}(h:Has K mg "many_all_of" kO f fd ["people","k","group"]):FnOk P w K mg base (CXV P w) 4 f fd ["people","k","group"] (spX false cY):=by
 obtain⟨_,_,h0⟩:=T.d_many_finding
 obtain⟨_,_,h1⟩:=T.d_check_group
 obtain⟨_,_,h2⟩:=T.d_many_with_group
 refine zD [] h.F zY4 fun cdv A outer s H E hr => ?_
 have nd:=zY4.nd
 have u:=hr.units
 exact (zW (zH 3 nd (RE.cl (yD (yY2 T h0) h0 (hr.mono (by decide)) zQ (zX (zZ 0) (zX (zZ 1) zY))))) (zW (vJ (zP (yX3 T h1) h1 (hr.mono (by decide)) zQ (zX (zZ 0) (zX (zZ 2) zY)))) (zS (zG (zP (zN7 T h2) h2 (hr.mono (by decide)) zQ (zX (zZ 3) (zX (zL zM zC T.g_len PySem.boot_len (zV (zZ 2) zY)) zY)))))))
theorem zR4:zJ ["order","k"] ["order","k"] (zN gJ):=by sleep 1
theorem zQ1 (T:Txt K mg){f:Addr}{fd:FuncData}(h:Has K mg "check_help" gJ f fd ["order","k"]):FnOk P w K mg base (CXV P w) 1 f fd ["order","k"] (spX false gX):=by
 refine zD [] h.F zR4 fun cdv A outer s H E hr => ?_
 have nd:=zR4.nd
 have u:=hr.units
 exact (zW (yN (jA (fQ gO gO gU gU zR (zZ 1) (zL zM zC T.g_len PySem.boot_len (zV (zZ 0) zY)))) (zS (xC zQ T.ox_BadOpenings T.x_BadOpenings (zV zI zY))) yY) (zS (yN (zA (yA u) xK (zZ 1) zR) (zS (xC zQ T.ox_NoHelp T.x_NoHelp (zV zI zY))) yY)))
theorem cA:zJ ["order","k"] ["order","k"] (zN vE):=by sleep 1
theorem zE5 (T:Txt K mg){f:Addr}{fd:FuncData}(h:Has K mg "need_of_rings" vE f fd ["order","k"]):FnOk P w K mg base (CXV P w) 3 f fd ["order","k"] (spX false qN):=by
 obtain⟨_,_,h0⟩:=T.d_rings_of
 refine zD [] h.F cA fun cdv A outer s H E hr => ?_
 have nd:=cA.nd
 have u:=hr.units
 exact (zS (zG (zL (zL8 rfl) yE4 T.g_sum PyProof.Rows.boot_sum (zV (wZ (sc0:=zN vE) (N0:=["order","k"]) (fs:=["k"]) (js:=[1]) (by sleep 2) rfl rfl rfl (RI.c (yH (RE.rd (RE.cl (yD (wY T h0) h0 (hr.mono (by decide)) zQ (zX (zZ 0) zY)))))) (fun _ _ _ _=>xP) (fun _ _ _ _=>(zK xB wU (zK uX vS (zL zM zC T.g_len PySem.boot_len (zV (zZ 0) zY)) zR) (zZ 1)))) zY))))
theorem xY7:zJ ["order","k"] ["order","k"] (zN zB8):=by sleep 1
theorem wT9 (T:Txt K mg){f:Addr}{fd:FuncData}(h:Has K mg "need" zB8 f fd ["order","k"]):FnOk P w K mg base (CXV P w) 4 f fd ["order","k"] (spX false yK1):=by
 obtain⟨_,_,h0⟩:=T.d_check_help
 obtain⟨_,_,h1⟩:=T.d_need_of_rings
 refine zD [] h.F xY7 fun cdv A outer s H E hr => ?_
 have nd:=xY7.nd
 have u:=hr.units
 exact (zW (vJ (zP (zQ1 T h0) h0 (hr.mono (by decide)) zQ (zX (zZ 0) (zX (zZ 1) zY)))) (zS (zG (zP (zE5 T h1) h1 (hr.mono (by decide)) zQ (zX (zZ 0) (zX (zZ 1) zY))))))
theorem zN2:zJ ["order","k","pairs","ring"] ["order","k"] (zN jB):=by sleep 1
theorem zO8 (T:Txt K mg){f:Addr}{fd:FuncData}(h:Has K mg "exchanges" jB f fd ["order","k"]):FnOk P w K mg base (CXV P w) 3 f fd ["order","k"] (spX true qS):=by
 obtain⟨_,_,h0⟩:=T.d_check_help
 obtain⟨_,_,h1⟩:=T.d_rings_of
 refine zD [2] h.F zN2 fun cdv A outer s H E hr => ?_
 have nd:=zN2.nd
 have u:=hr.units
 exact (zW (vJ (zP (zQ1 T h0) h0 (hr.mono (by decide)) (zQ (om:=[2])) (zX (zZ 0) (zX (zZ 1) zY)))) (zW (xW 2 nd (yI zY)) (zW (xS (yH (RE.rd (RE.cl (yD (wY T h1) h1 (hr.mono (by decide)) (zQ (om:=[2])) (zX (zZ 0) zY))))) (yT 3 nd) (zS (yF3 2 (wZ (sc0:=zN jB) (N0:=["order","k","pairs","ring"]) (fs:=["ring"]) (js:=[3]) (by sleep 2) rfl rfl rfl (RI.c (xR1 T.g_range (zV (zZ 1) (zV (zL zM zC T.g_len PySem.boot_len (zV (zZ 3) zY)) (zV (zZ 1) zY))))) (fun _ _ _ _=>xP) (fun _ _ _ _=>(zD5 (zX (yV zB yW (zZ 1) zR) (zX (yV zB yW (zZ 1) (zZ 0)) zY))))))) PassesOwn.leaving) (zS (zY6 2)))))
theorem gH:zJ ["boxes","length","ways","taken"] ["boxes","length"] (zN vI):=by sleep 1
theorem gF (T:Txt K mg){f:Addr}{fd:FuncData}(h:Has K mg "many_first_rings" vI f fd ["boxes","length"]):FnOk P w K mg base (CXV P w) 1 f fd ["boxes","length"] (spX false uZ):=by
 refine zD [] h.F gH fun cdv A outer s H E hr => ?_
 have nd:=gH.nd
 have u:=hr.units
 exact (zW (zH 2 nd zR) (zW (xS (qF T.g_range (zV zR (zV (zZ 1) zY))) (yT 3 nd) (zS (kZ 2 nd zT8 wK (zK uX vS (zZ 0) (zZ 3)))) PassesOwn.leaving) (zS (zG (zZ 2)))))
theorem jL:zJ ["many","boxes","length"] ["many","boxes","length"] (zN wO):=by sleep 1
theorem vN (T:Txt K mg){f:Addr}{fd:FuncData}(h:Has K mg "many_with_first_ring" wO f fd ["many","boxes","length"]):FnOk P w K mg base (CXV P w) 2 f fd ["many","boxes","length"] (spX false yR):=by
 obtain⟨_,_,h0⟩:=T.d_many_first_rings
 refine zD [] h.F jL fun cdv A outer s H E hr => ?_
 have nd:=jL.nd
 have u:=hr.units
 exact (zS (zG (zK vU wK (zP (gF T h0) h0 (hr.mono (by decide)) zQ (zX (zZ 1) (zX (zZ 2) zY))) (yV zB yW (zZ 0) (zK uX vS (zZ 1) (zZ 2))))))
theorem zC5:zJ ["left","length","place","ring","others","ways","rest"] ["left","length","place"] (zN aI):=by sleep 1
theorem xV3 (T:Txt K mg){f:Addr}{fd:FuncData}(h:Has K mg "ring_at" aI f fd ["left","length","place"]):FnOk P w K mg base (CXV P w) 2 f fd ["left","length","place"] (spX false aK):=by
 obtain⟨_,_,h0⟩:=T.d_many_first_rings
 refine zD [3,4] h.F zC5 fun cdv A outer s H E hr => ?_
 have nd:=zC5.nd
 have u:=hr.units
 exact (zW (xW 3 nd (yI (zX (yV zB yW (zZ 0) zR) zY))) (zW (xW 4 nd (kD (zZ 0) (qQ zR) kF)) (zW (zH 5 nd (zP (gF T h0) h0 (hr.mono (by decide)) (zQ (om:=[3,4])) (zX (zL zM zC T.g_len PySem.boot_len (zV (zZ 0) zY)) (zX (zZ 1) zY)))) (zW (zH 6 nd (zZ 2)) (zW (bF 1000000 (zA zS1 zS2 (zL zM zC T.g_len PySem.boot_len (zV (yC 3) zY)) (zZ 1)) (zW (kZ 5 nd xQ8 wU (zL zM zC T.g_len PySem.boot_len (zV (yC 4) zY))) (zW (xL2 3 4 (zK xB wU (zZ 6) (zZ 5))) (zS (zH 6 nd (zK qZ qW (zZ 6) (zZ 5)))))) PassesOwn.leaving) (zS (zG (yZ xE gQ T.g_tuple (by rfl) (zV (yC 3) zY)))))))))
theorem zR5:zJ ["left","ring","place","others","box"] ["left","ring"] (zN kA):=by sleep 1
theorem yP4 (T:Txt K mg){f:Addr}{fd:FuncData}(h:Has K mg "ring_place" kA f fd ["left","ring"]):FnOk P w K mg base (CXV P w) 1 f fd ["left","ring"] (spX false gK):=by
 refine zD [3] h.F zR5 fun cdv A outer s H E hr => ?_
 have nd:=zR5.nd
 have u:=hr.units
 exact (zW (zH 2 nd zR) (zW (xW 3 nd (kD (zZ 0) (qQ zR) kF)) (zW (xS (yH (RE.rd (yT2 (zZ 1) (qQ zR) kF))) (yT 4 nd) (zW (zH 2 nd (zK wV xX (zK vU wK (zZ 2) (zL zM zC T.g_len PySem.boot_len (zV (yC 3) zY))) (xD6 PySem.F.slot_list_index PySem.F.type_list_index xH5 xB3 (yC 3) (zZ 4)))) (zS (jM 3 PySem.F.slot_list_remove PySem.F.type_list_remove wW8 wN6 (zX (zZ 4) zY)))) PassesOwn.leaving) (zS (zG (zZ 2))))))
theorem zC9:zJ ["people","k","number","many","rings","left","rest","length","later","ring"] ["people","k","number"] (zN dS):=by sleep 1
theorem xW9 (T:Txt K mg){f:Addr}{fd:FuncData}(h:Has K mg "good_at" dS f fd ["people","k","number"]):FnOk P w K mg base (CXV P w) 3 f fd ["people","k","number"] (spX false zO6):=by
 obtain⟨_,_,h0⟩:=T.d_check_people_and_k
 obtain⟨_,_,h1⟩:=T.d_many_by_lengths
 obtain⟨_,_,h2⟩:=T.d_many_with_first_ring
 obtain⟨_,_,h3⟩:=T.d_ring_at
 obtain⟨_,_,h4⟩:=T.d_order_by
 refine zD [4] h.F zC9 fun cdv A outer s H E hr => ?_
 have nd:=zC9.nd
 have u:=hr.units
 exact (zW (yN (zA (yA u) xK (zZ 0) zR) (zS (xC (zQ (om:=[4])) T.ox_TooMany T.x_TooMany (zV zI zY))) yY) (zW (vJ (zP (wH T h0) h0 (hr.mono (by decide)) (zQ (om:=[4])) (zX (zZ 0) (zX (zZ 1) zY)))) (zW (zH 3 nd (RE.cl (yD (wL T h1) h1 (hr.mono (by decide)) (zQ (om:=[4])) (zX (zZ 0) (zX zR (zX (zZ 1) zY)))))) (zW (yN (jA (fQ gO zS1 gU zS2 zR (zZ 2) (yV zB yW (zZ 3) (zZ 0)))) (zS (xC (zQ (om:=[4])) T.ox_NoNumber T.x_NoNumber (zV zI zY))) yY) (zW (xW 4 nd (yI zY)) (zW (zH 5 nd (RE.cl (cE T.g_list T.g_range (zV (zZ 0) zY)))) (zW (zH 6 nd (zZ 2)) (zW (bF 1000000 (zA aJ aV (zL zM zC T.g_len PySem.boot_len (zV (zZ 5) zY)) zR) (zW (zH 7 nd zR) (zW (bF 1000000 (zA yN4 yN5 (zZ 6) (zP (vN T h2) h2 (hr.mono (by decide)) (zQ (om:=[4])) (zX (zZ 3) (zX (zL zM zC T.g_len PySem.boot_len (zV (zZ 5) zY)) (zX (zZ 7) zY))))) (zW (kZ 6 nd wU3 vS (zP (vN T h2) h2 (hr.mono (by decide)) (zQ (om:=[4])) (zX (zZ 3) (zX (zL zM zC T.g_len PySem.boot_len (zV (zZ 5) zY)) (zX (zZ 7) zY))))) (zS (kZ 7 nd cL xX zR))) PassesOwn.leaving) (zW (zH 8 nd (yV zB yW (zZ 3) (zK uX vS (zL zM zC T.g_len PySem.boot_len (zV (zZ 5) zY)) (zZ 7)))) (zW (zH 9 nd (zP (xV3 T h3) h3 (hr.mono (by decide)) (zQ (om:=[4])) (zX (zZ 5) (zX (zZ 7) (zX (zK xB wU (zZ 6) (zZ 8)) zY))))) (zW (jM 4 PySem.F.slot_list_append PySem.F.type_list_append uJ qH (zX (zZ 9) zY)) (zW (zK5 5 nd (sc0:=zN dS) (N0:=["people","k","number","many","rings","left","rest","length","later","ring"]) (fs:=["ring"]) (js:=[9]) (by sleep 2) rfl rfl rfl (RI.c (yH (RE.rd (zZ 5)))) (fun _ _ _ _=>(yX5 (zA zQ5 xB9 (zZ 0) (zZ 1)))) (fun _ _ _ _=>(zZ 0))) (zS (zH 6 nd (zK qZ qW (zZ 6) (zZ 8)))))))))) PassesOwn.leaving) (zS (zG (yZ9 (zI7 T h4) h4 (hr.mono (by decide)) (zQ (om:=[4])) (zV (yC 4) zY))))))))))))
theorem zY8:zJ ["order","k","many","number","left","ring","length"] ["order","k"] (zN qV):=by sleep 1
theorem yX2 (T:Txt K mg){f:Addr}{fd:FuncData}(h:Has K mg "good_number" qV f fd ["order","k"]):FnOk P w K mg base (CXV P w) 3 f fd ["order","k"] (spX false kQ):=by
 obtain⟨_,_,h0⟩:=T.d_check_people_and_k
 obtain⟨_,_,h1⟩:=T.d_many_by_lengths
 obtain⟨_,_,h2⟩:=T.d_rings_of
 obtain⟨_,_,h3⟩:=T.d_many_with_first_ring
 obtain⟨_,_,h4⟩:=T.d_ring_place
 refine zD [] h.F zY8 fun cdv A outer s H E hr => ?_
 have nd:=zY8.nd
 have u:=hr.units
 exact (zW (vJ (zP (wH T h0) h0 (hr.mono (by decide)) zQ (zX (zL zM zC T.g_len PySem.boot_len (zV (zZ 0) zY)) (zX (zZ 1) zY)))) (zW (zH 2 nd (RE.cl (yD (wL T h1) h1 (hr.mono (by decide)) zQ (zX (zL zM zC T.g_len PySem.boot_len (zV (zZ 0) zY)) (zX zR (zX (zZ 1) zY)))))) (zW (zH 3 nd zR) (zW (zH 4 nd (RE.cl (cE T.g_list T.g_range (zV (zL zM zC T.g_len PySem.boot_len (zV (zZ 0) zY)) zY)))) (zW (xS (yH (RE.rd (RE.cl (yD (wY T h2) h2 (hr.mono (by decide)) zQ (zX (zZ 0) zY))))) (yT 5 nd) (zW (yN (zA aJ aV (zL zM zC T.g_len PySem.boot_len (zV (zZ 5) zY)) (zZ 1)) (zS (xC zQ T.ox_NoNumber T.x_NoNumber (zV zI zY))) yY) (zW (xS (qF T.g_range (zV zR (zV (zL zM zC T.g_len PySem.boot_len (zV (zZ 5) zY)) zY))) (yT 6 nd) (zS (kZ 3 nd cL xX (zP (vN T h3) h3 (hr.mono (by decide)) zQ (zX (zZ 2) (zX (zL zM zC T.g_len PySem.boot_len (zV (zZ 4) zY)) (zX (zZ 6) zY)))))) PassesOwn.leaving) (zW (kZ 3 nd cL xX (zK vU wK (zP (yP4 T h4) h4 (hr.mono (by decide)) zQ (zX (zZ 4) (zX (zZ 5) zY))) (yV zB yW (zZ 2) (zK uX vS (zL zM zC T.g_len PySem.boot_len (zV (zZ 4) zY)) (zL zM zC T.g_len PySem.boot_len (zV (zZ 5) zY)))))) (zS (zK5 4 nd (sc0:=zN qV) (N0:=["order","k","many","number","left","ring","length"]) (fs:=["ring"]) (js:=[5]) (by sleep 2) rfl rfl rfl (RI.c (yH (RE.rd (zZ 4)))) (fun _ _ _ _=>(yX5 (zA zQ5 xB9 (zZ 0) (zZ 1)))) (fun _ _ _ _=>(zZ 0))))))) PassesOwn.leaving) (zS (zG (zZ 3))))))))
theorem aE:zJ ["numbers"] ["numbers"] (zN uN):=by sleep 1
theorem gR (T:Txt K mg){f:Addr}{fd:FuncData}(h:Has K mg "numbers_text" uN f fd ["numbers"]):FnOk P w K mg base (CXV P w) 1 f fd ["numbers"] (spX false uL):=by
 refine zD [] h.F aE fun cdv A outer s H E hr => ?_
 have nd:=aE.nd
 have u:=hr.units
 exact (zS (zG (yJ PySem.F.slot_str_join PySem.F.type_str_join qT qO zI (wZ (sc0:=zN uN) (N0:=["numbers"]) (fs:=[]) (js:=[]) (by sleep 2) rfl rfl rfl (RI.c (yH (RE.rd (zZ 0)))) (fun _ _ _ _=>xP) (fun _ _ _ _=>(yZ yE vG T.g_str (by rfl) (zV (zZ 0) zY)))))))
theorem zX7:zJ ["word","row"] ["word","row"] (zN kS):=by sleep 1
theorem yW6 (T:Txt K mg){f:Addr}{fd:FuncData}(h:Has K mg "read_number" kS f fd ["word","row"]):FnOk P w K mg base (CXV P w) 1 f fd ["word","row"] (spX false wS):=by
 refine zD [] h.F zX7 fun cdv A outer s H E hr => ?_
 have nd:=zX7.nd
 have u:=hr.units
 exact (zW (yN (RW.rt (rw_or (jA (zQ8 (zA3 (zZ 0)))) (rw_or (zA aJ aV (zL yI3 wY3 T.g_len PySem.boot_len (zV (zZ 0) zY)) (aY T.c_MOST_FIGURES.choose_spec.1 T.c_MOST_FIGURES.choose_spec.2)) (rw_or1 (RW.rt (rw_and (zQ8 (yJ PySem.F.slot_str_startswith PySem.F.type_str_startswith yP6 yP8 (zZ 0) zI)) (rw_and1 (zA (vT u) uD (zZ 0) zI)))))))) (zS zT3) yY) (zS (zG (yZ xD jT T.g_int (by rfl) (zV (zZ 0) zY)))))
theorem aT:zJ ["words","row"] ["words","row"] (zN uK):=by sleep 1
theorem aM (T:Txt K mg){f:Addr}{fd:FuncData}(h:Has K mg "read_numbers" uK f fd ["words","row"]):FnOk P w K mg base (CXV P w) 2 f fd ["words","row"] (spX false wP):=by
 obtain⟨_,_,h0⟩:=T.d_read_number
 refine zD [] h.F aT fun cdv A outer s H E hr => ?_
 have nd:=aT.nd
 have u:=hr.units
 exact (zS (zG (yZ xE gQ T.g_tuple (by rfl) (zV (wZ (sc0:=zN uK) (N0:=["words","row"]) (fs:=["row"]) (js:=[1]) (by sleep 2) rfl rfl rfl (RI.c (yH (RE.rd (zZ 0)))) (fun _ _ _ _=>xP) (fun _ _ _ _=>(zP (yW6 T h0) h0 (hr.mono (by decide)) (aQ fun _ _ h=>h) (zX (zZ 0) (zX (zZ 1) zY))))) zY))))
theorem zK1:zJ ["ring","boxes"] ["ring"] (zN fI):=by sleep 1
theorem yK7 (T:Txt K mg){f:Addr}{fd:FuncData}(h:Has K mg "ring_text" fI f fd ["ring"]):FnOk P w K mg base (CXV P w) 2 f fd ["ring"] (spX false kT):=by
 obtain⟨_,_,h0⟩:=T.d_numbers_text
 refine zD [] h.F zK1 fun cdv A outer s H E hr => ?_
 have nd:=zK1.nd
 have u:=hr.units
 exact (zW (zH 1 nd (zP (gR T h0) h0 (hr.mono (by decide)) zQ (zX (zZ 0) zY))) (zS (zG (wM5 (zZ 1)))))
theorem zR8:zJ ["order"] ["order"] (zN qG):=by sleep 1
theorem cZ (T:Txt K mg){f:Addr}{fd:FuncData}(h:Has K mg "order_text" qG f fd ["order"]):FnOk P w K mg base (CXV P w) 3 f fd ["order"] (spX false vR):=by
 obtain⟨_,_,h0⟩:=T.d_rings_of
 obtain⟨_,_,h1⟩:=T.d_ring_text
 refine zD [] h.F zR8 fun cdv A outer s H E hr => ?_
 have nd:=zR8.nd
 have u:=hr.units
 exact (zS (zG (yJ PySem.F.slot_str_join PySem.F.type_str_join qT qO zI (wZ (sc0:=zN qG) (N0:=["order"]) (fs:=[]) (js:=[]) (by sleep 2) rfl rfl rfl (RI.c (yH (RE.rd (RE.cl (yD (wY T h0) h0 (hr.mono (by decide)) zQ (zX (zZ 0) zY)))))) (fun _ _ _ _=>xP) (fun _ _ _ _=>(zP (yK7 T h1) h1 (hr.mono (by decide)) (aQ fun _ _ h=>h) (zX (zZ 0) zY)))))))
theorem zR7:zJ ["text","rings","order"] ["text"] (zN qI):=by sleep 1
theorem zR9 (T:Txt K mg){f:Addr}{fd:FuncData}(h:Has K mg "read_order" qI f fd ["text"]):FnOk P w K mg base (CXV P w) 4 f fd ["text"] (spX false qB):=by
 obtain⟨_,_,h0⟩:=T.d_read_numbers
 obtain⟨_,_,h1⟩:=T.d_order_by
 obtain⟨_,_,h2⟩:=T.d_order_text
 refine zD [] h.F zR7 fun cdv A outer s H E hr => ?_
 have nd:=zR7.nd
 have u:=hr.units
 exact (zW (zK5 1 nd (sc0:=zN qI) (N0:=["text","rings","order"]) (fs:=[]) (js:=[]) (by sleep 2) rfl rfl rfl (RI.c (yH (RE.rd (RE.cl (yJ PySem.F.slot_str_split PySem.F.type_str_split uT uW (xP5 (zZ 0) (qQ zR) (qQ (zB1 zR))) zI))))) (fun _ _ _ _=>xP) (fun _ _ _ _=>(zP (aM T h0) h0 (hr.mono (by decide)) (aQ fun _ _ h=>h) (zX (RE.cl (yJ PySem.F.slot_str_split PySem.F.type_str_split uT uW (zZ 0) zI)) (zX zR zY))))) (zW (xY2 (fun _ _=>(zS (zH 2 nd (zP (zI7 T h1) h1 (hr.mono (by decide)) (aQ fun _ _ h=>h) (zX (zZ 1) zY)))))) (zW (yN (zA (vT u) uD (zP (cZ T h2) h2 (hr.mono (by decide)) zQ (zX (zZ 2) zY)) (zZ 0)) (zS zT3) yY) (zS (zG (zZ 2))))))
theorem aU:zJ ["text"] ["text"] (zN jS):=by sleep 1
theorem aP (T:Txt K mg){f:Addr}{fd:FuncData}(h:Has K mg "text_or_none" jS f fd ["text"]):FnOk P w K mg base (CXV P w) 1 f fd ["text"] (spX false jR):=by
 refine zD [] h.F aU fun cdv A outer s H E hr => ?_
 have nd:=aU.nd
 have u:=hr.units
 exact (zS (zG (xD4 (zA (yA u) xK (zZ 0) zI) zI (zZ 0))))
theorem zR6:zJ ["openings"] ["openings"] (zN jW):=by sleep 1
theorem yP3 (T:Txt K mg){f:Addr}{fd:FuncData}(h:Has K mg "share_text" jW f fd ["openings"]):FnOk P w K mg base (CXV P w) 4 f fd ["openings"] (spX false bU):=by
 obtain⟨_,_,h0⟩:=T.d_share
 refine zD [] h.F zR6 fun cdv A outer s H E hr => ?_
 have nd:=zR6.nd
 have u:=hr.units
 exact (zS (zG (yJ PySem.F.slot_str_join PySem.F.type_str_join qT qO zI (wZ (sc0:=zN jW) (N0:=["openings"]) (fs:=[]) (js:=[]) (by sleep 2) rfl rfl rfl (RI.c (yH (RE.rd (zP (xC8 T h0) h0 (hr.mono (by decide)) zQ (zX (zZ 0) zY))))) (fun _ _ _ _=>xP) (fun _ _ _ _=>(yZ yE vG T.g_str (by rfl) (zV (zZ 0) zY)))))))
theorem zK4:zJ ["pair"] ["pair"] (zN jE):=by sleep 1
theorem yH3 (T:Txt K mg){f:Addr}{fd:FuncData}(h:Has K mg "pair_text" jE f fd ["pair"]):FnOk P w K mg base (CXV P w) 1 f fd ["pair"] (spX false kY):=by
 refine zD [] h.F zK4 fun cdv A outer s H E hr => ?_
 have nd:=zK4.nd
 have u:=hr.units
 exact (zS (zG (yJ PySem.F.slot_str_join PySem.F.type_str_join qT qO zI (wZ (sc0:=zN jE) (N0:=["pair"]) (fs:=[]) (js:=[]) (by sleep 2) rfl rfl rfl (RI.c (yH (RE.rd (zZ 0)))) (fun _ _ _ _=>xP) (fun _ _ _ _=>(yZ yE vG T.g_str (by rfl) (zV (zZ 0) zY)))))))
theorem zL4:zJ ["order","k"] ["order","k"] (zN kU):=by sleep 1
theorem yF5 (T:Txt K mg){f:Addr}{fd:FuncData}(h:Has K mg "help_text" kU f fd ["order","k"]):FnOk P w K mg base (CXV P w) 4 f fd ["order","k"] (spX false zZ3):=by
 obtain⟨_,_,h0⟩:=T.d_text_or_none
 obtain⟨_,_,h1⟩:=T.d_exchanges
 obtain⟨_,_,h2⟩:=T.d_pair_text
 refine zD [] h.F zL4 fun cdv A outer s H E hr => ?_
 have nd:=zL4.nd
 have u:=hr.units
 exact (zS (zG (zP (aP T h0) h0 (hr.mono (by decide)) zQ (zX (yJ PySem.F.slot_str_join PySem.F.type_str_join qT qO zI (wZ (sc0:=zN kU) (N0:=["order","k"]) (fs:=[]) (js:=[]) (by sleep 2) rfl rfl rfl (RI.c (yH (RE.rd (RE.cl (yD (zO8 T h1) h1 (hr.mono (by decide)) zQ (zX (zZ 0) (zX (zZ 1) zY))))))) (fun _ _ _ _=>xP) (fun _ _ _ _=>(zP (yH3 T h2) h2 (hr.mono (by decide)) (aQ fun _ _ h=>h) (zX (zZ 0) zY))))) zY))))
theorem aW:zJ ["count"] ["count"] (zN jP):=by sleep 1
theorem yZ4 (T:Txt K mg){f:Addr}{fd:FuncData}(h:Has K mg "first_people" jP f fd ["count"]):FnOk P w K mg base (CXV P w) 1 f fd ["count"] (spX false fR):=by
 refine zD [] h.F aW fun cdv A outer s H E hr => ?_
 have nd:=aW.nd
 have u:=hr.units
 exact (zS (zG (yD9 T.g_tuple T.g_range (zV (zL (zP7 rfl) yV2 T.g_min PyProof.Rows.boot_min (zV (zZ 0) (zV (zK wV xX (aY T.c_MOST_PEOPLE.choose_spec.1 T.c_MOST_PEOPLE.choose_spec.2) zR) zY))) zY))))
theorem gY:zJ ["word","numbers"] ["word","numbers"] (zN vQ):=by sleep 1
theorem zS8 (T:Txt K mg){f:Addr}{fd:FuncData}(h:Has K mg "answer_by_numbers" vQ f fd ["word","numbers"]):FnOk P w K mg base (CXV P w) 5 f fd ["word","numbers"] (spX false xU):=by
 obtain⟨_,_,h0⟩:=T.d_share_text
 obtain⟨_,_,h1⟩:=T.d_many_good
 obtain⟨_,_,h2⟩:=T.d_order_text
 obtain⟨_,_,h3⟩:=T.d_good_at
 obtain⟨_,_,h4⟩:=T.d_many_all_of
 obtain⟨_,_,h5⟩:=T.d_first_people
 refine zD [] h.F gY fun cdv A outer s H E hr => ?_
 have nd:=gY.nd
 have u:=hr.units
 exact (zW (yN (zA (yA u) xK (zZ 0) zI) (zS (zG (zP (yP3 T h0) h0 (hr.mono (by decide)) zQ (zX (zZ 1) zY)))) yY) (zW (yN (RW.rt (rw_and (zA (yA u) xK (zZ 0) zI) (rw_and1 (zA (yA u) xK (zL zM zC T.g_len PySem.boot_len (zV (zZ 1) zY)) zR)))) (zS (zG (yZ yE vG T.g_str (by rfl) (zV (zP (yM4 T h1) h1 (hr.mono (by decide)) zQ (zX (yV zB yW (zZ 1) zR) (zX (yV zB yW (zZ 1) zR) zY))) zY)))) yY) (zW (yN (RW.rt (rw_and (zA (yA u) xK (zZ 0) zI) (rw_and1 (zA (yA u) xK (zL zM zC T.g_len PySem.boot_len (zV (zZ 1) zY)) zR)))) (zS (zG (zP (cZ T h2) h2 (hr.mono (by decide)) zQ (zX (zP (xW9 T h3) h3 (hr.mono (by decide)) zQ (zX (yV zB yW (zZ 1) zR) (zX (yV zB yW (zZ 1) zR) (zX (yV zB yW (zZ 1) zR) zY)))) zY)))) yY) (zW (yN (RW.rt (rw_and (zA (yA u) xK (zZ 0) zI) (rw_and1 (zA (yA u) xK (zL zM zC T.g_len PySem.boot_len (zV (zZ 1) zY)) zR)))) (zS (zG (yZ yE vG T.g_str (by rfl) (zV (zP (yW4 T h4) h4 (hr.mono (by decide)) zQ (zX (yV zB yW (zZ 1) zR) (zX (yV zB yW (zZ 1) zR) (zX (zP (yZ4 T h5) h5 (hr.mono (by decide)) zQ (zX (yV zB yW (zZ 1) zR) zY)) zY)))) zY)))) yY) (zS zT3)))))
theorem dR:zJ ["word","numbers","order"] ["word","numbers","order"] (zN wC):=by sleep 1
theorem zP9 (T:Txt K mg){f:Addr}{fd:FuncData}(h:Has K mg "answer_by_order" wC f fd ["word","numbers","order"]):FnOk P w K mg base (CXV P w) 5 f fd ["word","numbers","order"] (spX false jI):=by
 obtain⟨_,_,h0⟩:=T.d_numbers_text
 obtain⟨_,_,h1⟩:=T.d_rings_of
 obtain⟨_,_,h2⟩:=T.d_text_or_none
 obtain⟨_,_,h3⟩:=T.d_finders
 obtain⟨_,_,h4⟩:=T.d_need
 obtain⟨_,_,h5⟩:=T.d_help_text
 refine zD [] h.F dR fun cdv A outer s H E hr => ?_
 have nd:=dR.nd
 have u:=hr.units
 exact (zW (yN (RW.rt (rw_and (zA (yA u) xK (zZ 0) zI) (rw_and1 (zA (yA u) xK (zL zM zC T.g_len PySem.boot_len (zV (zZ 1) zY)) zR)))) (zS (zG (zP (gR T h0) h0 (hr.mono (by decide)) zQ (zX (RE.cl (wZ (sc0:=zN wC) (N0:=["word","numbers","order"]) (fs:=[]) (js:=[]) (by sleep 2) rfl rfl rfl (RI.c (yH (RE.rd (RE.cl (yD (wY T h1) h1 (hr.mono (by decide)) zQ (zX (zZ 2) zY)))))) (fun _ _ _ _=>xP) (fun _ _ _ _=>(zL zM zC T.g_len PySem.boot_len (zV (zZ 0) zY))))) zY)))) yY) (zW (yN (zA (yA u) xK (zZ 0) zI) (zS (zG (zP (aP T h2) h2 (hr.mono (by decide)) zQ (zX (zP (gR T h0) h0 (hr.mono (by decide)) zQ (zX (zP (yY1 T h3) h3 (hr.mono (by decide)) zQ (zX (zZ 2) (zX (zZ 1) zY))) zY)) zY)))) yY) (zW (yN (RW.rt (rw_and (zA (yA u) xK (zZ 0) zI) (rw_and1 (zA (yA u) xK (zL zM zC T.g_len PySem.boot_len (zV (zZ 1) zY)) zR)))) (zS (zG (yZ yE vG T.g_str (by rfl) (zV (zP (wT9 T h4) h4 (hr.mono (by decide)) zQ (zX (zZ 2) (zX (yV zB yW (zZ 1) zR) zY))) zY)))) yY) (zW (yN (RW.rt (rw_and (zA (yA u) xK (zZ 0) zI) (rw_and1 (zA (yA u) xK (zL zM zC T.g_len PySem.boot_len (zV (zZ 1) zY)) zR)))) (zS (zG (zP (yF5 T h5) h5 (hr.mono (by decide)) zQ (zX (zZ 2) (zX (yV zB yW (zZ 1) zR) zY))))) yY) (zS zT3)))))
theorem yQ2:zJ ["row","parts","words","numbers"] ["row"] (zN zV2):=by sleep 1
theorem xR3 (T:Txt K mg){f:Addr}{fd:FuncData}(h:Has K mg "answer" zV2 f fd ["row"]):FnOk P w K mg base (CXV P w) 6 f fd ["row"] (spX false zU5):=by
 obtain⟨_,_,h0⟩:=T.d_read_numbers
 obtain⟨_,_,h1⟩:=T.d_answer_by_numbers
 obtain⟨_,_,h2⟩:=T.d_answer_by_order
 obtain⟨_,_,h3⟩:=T.d_read_order
 refine zD [] h.F yQ2 fun cdv A outer s H E hr => ?_
 have nd:=yQ2.nd
 have u:=hr.units
 exact (zW (zH 1 nd (yJ PySem.F.slot_str_partition PySem.F.type_str_partition yM3 yK9 (zZ 0) zI)) (zW (zH 2 nd (RE.cl (yJ PySem.F.slot_str_split PySem.F.type_str_split uT uW (yV zB yW (zZ 1) zR) zI))) (zW (zH 3 nd (zP (aM T h0) h0 (hr.mono (by decide)) zQ (zX (yT2 (zZ 2) (qQ zR) kF) (zX zR zY)))) (zW (yN (zA (yA u) xK (yV zB yW (zZ 1) zR) zI) (zS (zG (zP (zS8 T h1) h1 (hr.mono (by decide)) zQ (zX (yV zB yW (zZ 2) zR) (zX (zZ 3) zY))))) yY) (zS (zG (zP (zP9 T h2) h2 (hr.mono (by decide)) zQ (zX (yV zB yW (zZ 2) zR) (zX (zZ 3) (zX (zP (zR9 T h3) h3 (hr.mono (by decide)) zQ (zX (yV zB yW (zZ 1) zR) zY)) zY))))))))))
theorem kB:zJ ["row"] ["row"] (zN vP):=by sleep 1
theorem zS6 (T:Txt K mg){f:Addr}{fd:FuncData}(h:Has K mg "answer_or_refusal" vP f fd ["row"]):FnOk P w K mg base (CXV P w) 7 f fd ["row"] (spX false xV):=by
 obtain⟨_,_,h0⟩:=T.d_answer
 refine zD [] h.F kB fun cdv A outer s H E hr => ?_
 have nd:=kB.nd
 have u:=hr.units
 exact (zS (xY2 (fun _ _=>(zS (zG (zP (xR3 T h0) h0 (hr.mono (by decide)) (aQ fun _ _ h=>h) (zX (zZ 0) zY)))))))
theorem zG4:zJ ["sheet"] ["sheet"] (zN hV):=by sleep 1
theorem zY3 (T:Txt K mg){f:Addr}{fd:FuncData}(h:Has K mg "answered" hV f fd ["sheet"]):FnOk P w K mg base (CXV P w) 8 f fd ["sheet"] (spX false xF):=by
 obtain⟨_,_,h0⟩:=T.d_answer_or_refusal
 refine zD [] h.F zG4 fun cdv A outer s H E hr => ?_
 have nd:=zG4.nd
 have u:=hr.units
 exact (zS (zG (yJ PySem.F.slot_str_join PySem.F.type_str_join qT qO zI (wZ (sc0:=zN hV) (N0:=["sheet"]) (fs:=[]) (js:=[]) (by sleep 2) rfl rfl rfl (RI.c (yH (RE.rd (RE.cl (yJ PySem.F.slot_str_split PySem.F.type_str_split uT uW (zZ 0) zI))))) (fun _ _ _ _=>xP) (fun _ _ _ _=>(zP (zS6 T h0) h0 (hr.mono (by decide)) (aQ fun _ _ h=>h) (zX (zZ 0) zY)))))))
theorem zM3:zJ ["script","k"] ["script","k"] (zN fK):=by sleep 1
theorem bS (T:Txt K mg){f:Addr}{fd:FuncData}(h:Has K mg "_law_cell_at" fK f fd ["script","k"]):FnOk P w K mg base (CXV P w) 1 f fd ["script","k"] (spX false vX):=by
 refine zD [] h.F zM3 fun cdv A outer s H E hr => ?_
 have nd:=zM3.nd
 have u:=hr.units
 exact (zW (yN (zA zS1 zS2 (zZ 1) (zL zM zC T.g_len PySem.boot_len (zV (zZ 0) zY))) (zS (zG (yV zB yW (zZ 0) (zZ 1)))) yY) (zS (zG zR)))
theorem zE9:zJ ["cell","many","order","k"] ["cell","many"] (zN aH):=by sleep 1
theorem xT1 (T:Txt K mg){f:Addr}{fd:FuncData}(h:Has K mg "_law_order" aH f fd ["cell","many"]):FnOk P w K mg base (CXV P w) 1 f fd ["cell","many"] (spX false dW):=by
 refine zD [2] h.F zE9 fun cdv A outer s H E hr => ?_
 have nd:=zE9.nd
 have u:=hr.units
 exact (zW (xW 2 nd (yI zY)) (zW (xS (kE T.g_range (zV (zZ 1) zY)) (yT 3 nd) (zW (jM 2 PySem.F.slot_list_insert PySem.F.type_list_insert xN5 xR6 (zX (zK qZ qW (zZ 0) (zK wV xX (zZ 3) zR)) (zX (zZ 3) zY))) (zS (zH 0 nd (zK xB wU (zZ 0) (zK wV xX (zZ 3) zR))))) PassesOwn.leaving) (zS (zG (yZ xE gQ T.g_tuple (by rfl) (zV (yC 2) zY))))))
theorem yM2:zJ ["script","total","cell"] ["script"] (zN zJ9):=by sleep 1
theorem xG9 (T:Txt K mg){f:Addr}{fd:FuncData}(h:Has K mg "_law_all" zJ9 f fd ["script"]):FnOk P w K mg base (CXV P w) 1 f fd ["script"] (spX false zJ8):=by
 refine zD [] h.F yM2 fun cdv A outer s H E hr => ?_
 have nd:=yM2.nd
 have u:=hr.units
 exact (zW (zH 1 nd zR) (zW (xS (yH (RE.rd (zZ 0))) (yT 2 nd) (zS (zH 1 nd (zK wV xX (zK vU wK (zZ 1) zR) (zZ 2)))) PassesOwn.leaving) (zS (zG (zZ 1)))))
theorem yS8:zJ ["many","ways","k"] ["many"] (zN zT6):=by sleep 1
theorem yR6 (T:Txt K mg){f:Addr}{fd:FuncData}(h:Has K mg "_law_ways" zT6 f fd ["many"]):FnOk P w K mg base (CXV P w) 1 f fd ["many"] (spX false bQ):=by
 refine zD [] h.F yS8 fun cdv A outer s H E hr => ?_
 have nd:=yS8.nd
 have u:=hr.units
 exact (zW (zH 1 nd zR) (zW (xS (qF T.g_range (zV zR (zV (zK wV xX (zZ 0) zR) zY))) (yT 2 nd) (zS (zH 1 nd (zK vU wK (zZ 1) (zZ 2)))) PassesOwn.leaving) (zS (zG (zZ 1)))))
theorem zA7:zJ ["numbers"] ["numbers"] (zN dL):=by sleep 1
theorem vC (T:Txt K mg){f:Addr}{fd:FuncData}(h:Has K mg "_law_words" dL f fd ["numbers"]):FnOk P w K mg base (CXV P w) 1 f fd ["numbers"] (spX false yQ):=by
 refine zD [] h.F zA7 fun cdv A outer s H E hr => ?_
 have nd:=zA7.nd
 have u:=hr.units
 exact (zS (zG (yJ PySem.F.slot_str_join PySem.F.type_str_join qT qO zI (wZ (sc0:=zN dL) (N0:=["numbers"]) (fs:=[]) (js:=[]) (by sleep 2) rfl rfl rfl (RI.c (yH (RE.rd (zZ 0)))) (fun _ _ _ _=>xP) (fun _ _ _ _=>(yZ yE vG T.g_str (by rfl) (zV (zZ 0) zY)))))))
theorem zH3:zJ ["order","k","told","pairs","word","one","other"] ["order","k","told"] (zN gP):=by sleep 1
theorem yD3 (T:Txt K mg){f:Addr}{fd:FuncData}(h:Has K mg "_law_helped" gP f fd ["order","k","told"]):FnOk P w K mg base (CXV P w) 3 f fd ["order","k","told"] (spX false cR):=by
 obtain⟨_,_,h0⟩:=T.d_exchanged
 obtain⟨_,_,h1⟩:=T.d_rings_of
 refine zD [3] h.F zH3 fun cdv A outer s H E hr => ?_
 have nd:=zH3.nd
 have u:=hr.units
 exact (zW (xW 3 nd (yI zY)) (zW (yN (zA (vT u) uD (zZ 2) zI) (zS (xS (yH (RE.rd (RE.cl (yJ PySem.F.slot_str_split PySem.F.type_str_split uT uW (zZ 2) zI)))) (yT 4 nd) (zW (yW1 (RE.cl (yJ PySem.F.slot_str_split PySem.F.type_str_split uT uW (zZ 4) zI)) (yI2 rfl (uV (yT 5 nd) (uV (yT 6 nd) zW7)))) (zS (jM 3 PySem.F.slot_list_append PySem.F.type_list_append uJ qH (zX (zD5 (zX (yZ xD jT T.g_int (by rfl) (zV (zZ 5) zY)) (zX (yZ xD jT T.g_int (by rfl) (zV (zZ 6) zY)) zY))) zY)))) PassesOwn.leaving)) yY) (zW (wR1 3 (xS (yH (wN1 3)) (xN2 rfl (uV (yT 5 nd) (uV (yT 6 nd) zW7))) (zS (zH 0 nd (zP (yJ1 T h0) h0 (hr.mono (by decide)) (zQ (om:=[3])) (zX (zZ 0) (zX (zZ 5) (zX (zZ 6) zY)))))) PassesOwn.leaving) (wE7 (wE3 (xK1 xA7 (xK1 xA7 wJ4))) wE5)) (zW (yN (zA aJ aV (zL (zN3 rfl) yV1 T.g_max PyProof.Rows.boot_max (zV (wZ (sc0:=zN gP) (N0:=["order","k","told","pairs","word","one","other"]) (fs:=[]) (js:=[]) (by sleep 2) rfl rfl rfl (RI.c (yH (RE.rd (RE.cl (yD (wY T h1) h1 (hr.mono (by decide)) (zQ (om:=[3])) (zX (zZ 0) zY)))))) (fun _ _ _ _=>xP) (fun _ _ _ _=>(zL zM zC T.g_len PySem.boot_len (zV (zZ 0) zY)))) zY)) (zZ 1)) (zS (zG (zB1 zR))) yY) (zS (zG (zL zM zC T.g_len PySem.boot_len (zV (yC 3) zY))))))))
theorem yQ7:zJ ["order","k"] ["order","k"] (zN cD):=by sleep 1
theorem xO4 (T:Txt K mg){f:Addr}{fd:FuncData}(h:Has K mg "_law_need" cD f fd ["order","k"]):FnOk P w K mg base (CXV P w) 3 f fd ["order","k"] (spX false bB):=by
 obtain⟨_,_,h0⟩:=T.d_rings_of
 refine zD [] h.F yQ7 fun cdv A outer s H E hr => ?_
 have nd:=yQ7.nd
 have u:=hr.units
 exact (zS (zG (zL (zL8 rfl) yE4 T.g_sum PyProof.Rows.boot_sum (zV (wZ (sc0:=zN cD) (N0:=["order","k"]) (fs:=["k"]) (js:=[1]) (by sleep 2) rfl rfl rfl (RI.c (yH (RE.rd (RE.cl (yD (wY T h0) h0 (hr.mono (by decide)) zQ (zX (zZ 0) zY)))))) (fun _ _ _ _=>xP) (fun _ _ _ _=>(zK xB wU (zK uX vS (zL zM zC T.g_len PySem.boot_len (zV (zZ 0) zY)) zR) (zZ 1)))) zY))))
theorem zA5:zJ ["order","openings","k","number","told","people","found","pairs","due","good","part","whole"] ["order","openings","k","number","told"] (zN qD):=by sleep 1
theorem xV4 (T:Txt K mg){f:Addr}{fd:FuncData}(h:Has K mg "_law_right" qD f fd ["order","openings","k","number","told"]):FnOk P w K mg base (CXV P w) 5 f fd ["order","openings","k","number","told"] (spX false kJ):=by
 obtain⟨_,_,h0⟩:=T.d_l_words
 obtain⟨_,_,h1⟩:=T.d_rings_of
 obtain⟨_,_,h2⟩:=T.d_finders
 obtain⟨_,_,h3⟩:=T.d_exchanges
 obtain⟨_,_,h4⟩:=T.d_l_need
 obtain⟨_,_,h5⟩:=T.d_l_helped
 obtain⟨_,_,h6⟩:=T.d_read_order
 obtain⟨_,_,h7⟩:=T.d_good_number
 obtain⟨_,_,h8⟩:=T.d_l_ways
 refine zD [] h.F zA5 fun cdv A outer s H E hr => ?_
 have nd:=zA5.nd
 have u:=hr.units
 exact (zW (zH 5 nd (zL zM zC T.g_len PySem.boot_len (zV (zZ 0) zY))) (zW (yN (zA (vT u) uD (yV zB yW (zZ 4) zR) (zP (vC T h0) h0 (hr.mono (by decide)) zQ (zX (RE.cl (wZ (sc0:=zN qD) (N0:=["order","openings","k","number","told","people","found","pairs","due","good","part","whole"]) (fs:=[]) (js:=[]) (by sleep 2) rfl rfl rfl (RI.c (yH (RE.rd (RE.cl (yD (wY T h1) h1 (hr.mono (by decide)) zQ (zX (zZ 0) zY)))))) (fun _ _ _ _=>xP) (fun _ _ _ _=>(zL zM zC T.g_len PySem.boot_len (zV (zZ 0) zY))))) zY))) (zS (zG fJ)) yY) (zW (zH 6 nd (zP (yY1 T h2) h2 (hr.mono (by decide)) zQ (zX (zZ 0) (zX (zZ 1) zY)))) (zW (yN (zA (vT u) uD (yV zB yW (zZ 4) zR) (yV zB yW (yI (zX (zP (vC T h0) h0 (hr.mono (by decide)) zQ (zX (zZ 6) zY)) (zX zI zY))) (yZ yS1 xX6 T.g_int (by rfl) (zV (zQ4 (yA u) xK (zZ 6) (zD5 zY)) zY)))) (zS (zG fJ)) yY) (zW (zK5 7 nd (sc0:=zN qD) (N0:=["order","openings","k","number","told","people","found","pairs","due","good","part","whole"]) (fs:=[]) (js:=[]) (by sleep 2) rfl rfl rfl (RI.c (yH (RE.rd (RE.cl (yD (zO8 T h3) h3 (hr.mono (by decide)) zQ (zX (zZ 0) (zX (zZ 2) zY))))))) (fun _ _ _ _=>xP) (fun _ _ _ _=>(zK yO xQ (zK yO xQ (yZ yE vG T.g_str (by rfl) (zV (yV zB yW (zZ 0) zR) zY)) zI) (yZ yE vG T.g_str (by rfl) (zV (yV zB yW (zZ 0) zR) zY))))) (zW (yN (zA (vT u) uD (yV zB yW (zZ 4) zR) (yV zB yW (yI (zX (yJ PySem.F.slot_str_join PySem.F.type_str_join qT qO zI (zZ 7)) (zX zI zY))) (yZ yS1 xX6 T.g_int (by rfl) (zV (zQ4 (yA u) xK (zZ 7) (yI zY)) zY)))) (zS (zG fJ)) yY) (zW (zH 8 nd (zP (xO4 T h4) h4 (hr.mono (by decide)) zQ (zX (zZ 0) (zX (zZ 2) zY)))) (zW (yN (RW.rt (rw_or (zA (vT u) uD (yV zB yW (zZ 4) zR) (yZ yE vG T.g_str (by rfl) (zV (zZ 8) zY))) (rw_or1 (zA (vT u) uD (zP (yD3 T h5) h5 (hr.mono (by decide)) zQ (zX (zZ 0) (zX (zZ 2) (zX (yV zB yW (zZ 4) zR) zY)))) (zZ 8))))) (zS (zG fJ)) yY) (zW (zH 9 nd (zP (zR9 T h6) h6 (hr.mono (by decide)) zQ (zX (yV zB yW (zZ 4) zR) zY))) (zW (yN (RW.rt (rw_or (zA (vT u) uD (zP (yX2 T h7) h7 (hr.mono (by decide)) zQ (zX (zZ 9) (zX (zZ 2) zY))) (zZ 3)) (rw_or1 (zA aJ aV (zL (zN3 rfl) yV1 T.g_max PyProof.Rows.boot_max (zV (wZ (sc0:=zN qD) (N0:=["order","openings","k","number","told","people","found","pairs","due","good","part","whole"]) (fs:=[]) (js:=[]) (by sleep 2) rfl rfl rfl (RI.c (yH (RE.rd (RE.cl (yD (wY T h1) h1 (hr.mono (by decide)) zQ (zX (zZ 9) zY)))))) (fun _ _ _ _=>xP) (fun _ _ _ _=>(zL zM zC T.g_len PySem.boot_len (zV (zZ 0) zY)))) zY)) (zZ 2))))) (zS (zG fJ)) yY) (zW (yN (RW.rt (rw_or (zA (vT u) uD (zL zM zC T.g_len PySem.boot_len (zV (zZ 9) zY)) (zZ 5)) (rw_or (zA (vT u) uD (yV zB yW (zZ 4) zR) (yV zB yW (zZ 4) zR)) (rw_or1 (zA yN4 yN5 (zZ 3) (yZ xD jT T.g_int (by rfl) (zV (yV zB yW (zZ 4) zR) zY))))))) (zS (zG fJ)) yY) (zW (yW1 (RE.cl (yJ PySem.F.slot_str_split PySem.F.type_str_split uT uW (yV zB yW (zZ 4) zR) zI)) (yI2 rfl (uV (yT 10 nd) (uV (yT 11 nd) zW7)))) (zW (yN (zA (vT u) uD (zK vU wK (yZ xD jT T.g_int (by rfl) (zV (zZ 10) zY)) (zP (yR6 T h8) h8 (hr.mono (by decide)) zQ (zX (zZ 5) zY))) (zK vU wK (yZ xD jT T.g_int (by rfl) (zV (yV zB yW (zZ 4) zR) zY)) (yZ xD jT T.g_int (by rfl) (zV (zZ 11) zY)))) (zS (zG fJ)) yY) (zW (yW1 (RE.cl (yJ PySem.F.slot_str_split PySem.F.type_str_split uT uW (yV zB yW (zZ 4) zR) zI)) (yI2 rfl (uV (yT 10 nd) (uV (yT 11 nd) zW7)))) (zS (zG (xP6 (zA3 (zZ 10)) (xL9 (zQ4 (yA u) xK (zK qZ qW (zP (yR6 T h8) h8 (hr.mono (by decide)) zQ (zX (zZ 5) zY)) (yZ xD jT T.g_int (by rfl) (zV (zZ 11) zY))) zR)))))))))))))))))))
theorem xK6:zJ ["script","cell","people","order","k","openings","text","first","number","rows","told","at","again"] ["script"] (zN zA6):=by sleep 1
theorem wI5 (T:Txt K mg){f:Addr}{fd:FuncData}(h:Has K mg "law" zA6 f fd ["script"]):FnOk P w K mg base (CXV P w) 9 f fd ["script"] (spX false xT4):=by
 obtain⟨_,_,h0⟩:=T.d_l_all
 obtain⟨_,_,h1⟩:=T.d_l_cell_at
 obtain⟨_,_,h2⟩:=T.d_l_order
 obtain⟨_,_,h3⟩:=T.d_order_text
 obtain⟨_,_,h4⟩:=T.d_answered
 obtain⟨_,_,h5⟩:=T.d_l_words
 obtain⟨_,_,h6⟩:=T.d_l_right
 refine zD [9] h.F xK6 fun cdv A outer s H E hr => ?_
 have nd:=xK6.nd
 have u:=hr.units
 exact (zW (zH 1 nd (zP (xG9 T h0) h0 (hr.mono (by decide)) (zQ (om:=[9])) (zX (zZ 0) zY))) (zW (zH 2 nd (zK wV xX zR (zK qZ qW (zP (bS T h1) h1 (hr.mono (by decide)) (zQ (om:=[9])) (zX (zZ 0) (zX zR zY))) zR))) (zW (yN (zA (yA u) xK (zK qZ qW (zK xB wU (zP (bS T h1) h1 (hr.mono (by decide)) (zQ (om:=[9])) (zX (zZ 0) (zX zR zY))) zR) zR) zR) (zS (zH 2 nd (zK wV xX zR (zK qZ qW (zK xB wU (zP (bS T h1) h1 (hr.mono (by decide)) (zQ (om:=[9])) (zX (zZ 0) (zX zR zY))) zR) zR)))) yY) (zW (zH 3 nd (zP (xT1 T h2) h2 (hr.mono (by decide)) (zQ (om:=[9])) (zX (zZ 1) (zX (zZ 2) zY)))) (zW (zH 4 nd (zK wV xX zR (zK qZ qW (zK xB wU (zZ 1) zR) (zZ 2)))) (zW (zH 5 nd (yZ xE gQ T.g_tuple (by rfl) (zV (wZ (sc0:=zN zA6) (N0:=["script","cell","people","order","k","openings","text","first","number","rows","told","at","again"]) (fs:=["cell","people"]) (js:=[1,2]) (by sleep 2) rfl rfl rfl (RI.c (kE T.g_range (zV (zZ 2) zY))) (fun _ _ _ _=>xP) (fun _ _ _ _=>(zK qZ qW (zK xB wU (zK xB wU (zZ 1) zR) (zK wV xX (zZ 0) zR)) (zK wV xX (zZ 2) zR)))) zY))) (zW (zH 6 nd (zP (cZ T h3) h3 (hr.mono (by decide)) (zQ (om:=[9])) (zX (zZ 3) zY))) (zW (zH 7 nd (zP (zY3 T h4) h4 (hr.mono (by decide)) (zQ (om:=[9])) (zX (zK yO xQ (zK yO xQ (zK yO xQ zI (yZ yE vG T.g_str (by rfl) (zV (zZ 2) zY))) zI) (yZ yE vG T.g_str (by rfl) (zV (zZ 4) zY))) zY))) (zW (zH 8 nd (zK qZ qW (zK xB wU (zZ 1) zR) (zL (xM8 rfl) wY8 T.g_max PyProof.Rows.boot_max (zV zR (zV (yZ xD jT T.g_int (by rfl) (zV (zZ 7) zY)) zY))))) (zW (xW 9 nd (yI (zX (zK yO xQ zI (zZ 6)) (zX (zK yO xQ (zK yO xQ (zK yO xQ zI (zP (vC T h5) h5 (hr.mono (by decide)) (zQ (om:=[9])) (zX (zZ 5) zY))) zI) (zZ 6)) zY)))) (zW (jM 9 PySem.F.slot_list_append PySem.F.type_list_append uJ qH (zX (zK yO xQ (zK yO xQ (zK yO xQ zI (yZ yE vG T.g_str (by rfl) (zV (zZ 4) zY))) zI) (zZ 6)) zY)) (zW (xW 9 nd (zK cG zW5 (yC 9) (yI (zX (zK yO xQ (zK yO xQ (zK yO xQ zI (yZ yE vG T.g_str (by rfl) (zV (zZ 4) zY))) zI) (zZ 6)) (zX (zK yO xQ zI (zP (vC T h5) h5 (hr.mono (by decide)) (zQ (om:=[9])) (zX (RE.cl (yI (zX (zZ 2) (zX (zZ 4) (zX (zZ 8) zY))))) zY))) zY))))) (zW (xW 9 nd (zK cG zW5 (yC 9) (yI (zX (zK yO xQ zI (zP (vC T h5) h5 (hr.mono (by decide)) (zQ (om:=[9])) (zX (RE.cl (yI (zX (zZ 2) (zX (zZ 4) zY)))) zY))) (zX (zK yO xQ zI (zP (vC T h5) h5 (hr.mono (by decide)) (zQ (om:=[9])) (zX (RE.cl (yI (zX (zZ 2) (zX (zZ 4) (zX (zZ 2) zY))))) zY))) zY))))) (zW (xW 9 nd (zK cG zW5 (yC 9) (yI (zX (zK yO xQ zI (zP (vC T h5) h5 (hr.mono (by decide)) (zQ (om:=[9])) (zX (RE.cl (zK zW2 zP3 (yI (zX (zZ 4) zY)) (zZ 2))) zY))) (zX (zK yO xQ zI (zP (vC T h5) h5 (hr.mono (by decide)) (zQ (om:=[9])) (zX (zZ 5) zY))) zY))))) (zW (zH 10 nd (RE.cl (yJ PySem.F.slot_str_split PySem.F.type_str_split uT uW (zP (zY3 T h4) h4 (hr.mono (by decide)) (zQ (om:=[9])) (zX (yJ PySem.F.slot_str_join PySem.F.type_str_join qT qO zI (yC 9)) zY)) zI))) (zW (yN (RW.rt (rw_or (zA (vT u) uD (zL zM zC T.g_len PySem.boot_len (zV (zZ 10) zY)) (zL zM zC T.g_len PySem.boot_len (zV (yC 9) zY))) (rw_or1 (jA (zQ8 (zP (xV4 T h6) h6 (hr.mono (by decide)) (zQ (om:=[9])) (zX (zZ 3) (zX (zZ 5) (zX (zZ 4) (zX (zZ 8) (zX (zZ 10) zY))))))))))) (zS (zG fJ)) yY) (zW (zH 11 nd (zK qZ qW (zZ 1) (zL zM zC T.g_len PySem.boot_len (zV (yC 9) zY)))) (zW (zH 12 nd (zP (zY3 T h4) h4 (hr.mono (by decide)) (zQ (om:=[9])) (zX (yJ PySem.F.slot_str_join PySem.F.type_str_join qT qO zI (zK cG zW5 (kD (yC 9) (qQ (zZ 11)) kF) (kD (yC 9) kF (qQ (zZ 11))))) zY))) (zS (zG (zQ4 (yA u) xK (yJ PySem.F.slot_str_split PySem.F.type_str_split uT uW (zZ 12) zI) (zK cG zW5 (kD (zZ 10) (qQ (zZ 11)) kF) (kD (zZ 10) kF (qQ (zZ 11)))))))))))))))))))))))))
end
end K64
namespace K64
open PySem L2 L2.L3 MR
def evA:=(And.intro (And.intro (And.intro (And.intro (And.intro (And.intro @wN4 (And.intro @xE7 @xI1)) (And.intro @wH1 (And.intro @yW7 @wL1))) (And.intro (And.intro @wQ2 (And.intro @wG4 @wF7)) (And.intro @wI9 (And.intro @wR5 @wN3)))) (And.intro (And.intro (And.intro @wH7 (And.intro @wH6 @yZ3)) (And.intro @wI1 (And.intro @wF3 @wF1))) (And.intro (And.intro @xB8 (And.intro @wR7 @yO6)) (And.intro (And.intro @xB5 @wF6) (And.intro @wE9 @wD2))))) (And.intro (And.intro (And.intro (And.intro @wD1 (And.intro @wH3 @wG3)) (And.intro @yO8 (And.intro @eV0 @eVs))) (And.intro (And.intro @wD4 (And.intro @yN3 @yZ2)) (And.intro (And.intro @wG8 @wM7) (And.intro @wE4 @yN2)))) (And.intro (And.intro (And.intro @yN1 (And.intro @wG7 @wK8)) (And.intro @wO7 (And.intro @wD3 @zE6))) (And.intro (And.intro @wF5 (And.intro @wO3 @wJ3)) (And.intro (And.intro @zA9 @yN6) (And.intro @wH4 @wE8)))))) (And.intro (And.intro (And.intro (And.intro (And.intro @wF9 (And.intro @wZ6 @wF4)) (And.intro @yO7 (And.intro @wW2 @xO7))) (And.intro (And.intro @xJ2 (And.intro @yZ7 @yV5)) (And.intro (And.intro @xC4 @wZ5) (And.intro @wE6 @wD5)))) (And.intro (And.intro (And.intro @wS9 (And.intro @yO9 @wL6)) (And.intro @wQ3 (And.intro @wI7 @wR6))) (And.intro (And.intro @wK6 (And.intro @wR2 @wQ4)) (And.intro (And.intro @wR9 @wN9) (And.intro @wP9 @mkL0))))) (And.intro (And.intro (And.intro (And.intro @mkL1 (And.intro @mkL2 @mkL3)) (And.intro @mkL4 (And.intro @mkT0 @mkT1))) (And.intro (And.intro @mkT2 (And.intro @mkT3 @Res.bind_ok)) (And.intro (And.intro @Res.bind_no @Res.bind_ex) (And.intro @Res.lft_some @Res.lft_none)))) (And.intro (And.intro (And.intro @Option.map_some.{0,0} (And.intro @Option.bind_some.{0,0} @List.set_cons_zero.{0})) (And.intro @List.set_cons_succ.{0} (And.intro @List.length_cons.{0} @List.length_nil.{0}))) (And.intro (And.intro @if_true.{1} (And.intro @if_false.{1} @Bool.false_eq_true)) (And.intro (And.intro @ite_true.{1} @ite_false.{1}) (And.intro @Bool.not_true @Bool.not_false)))))))
def rI' (r:List Nat):List Int:=r.map fun (b:Nat)=>(b:Int)
theorem yI6 {n b:Nat}{xs:List Int}(o:Ord n xs) (hn:n<=1000) (hb:b<n):fO [tI xs,.int b]=.ok (tI (rI' (ring n xs b))):=by
 show (zY2 [some (tI xs),some (.int b),none]).bind (fin false)=_
 unfold zY2
 simp -implicitDefEqProofs only[(evA)]
 obtain⟨a1,a2,a3,a4⟩:=o.yK hb
 have last:∀i,atI ((List.range (i+1)).map fun j=>PyData.int ((it xs j b:Nat):Int)) (-1)=some (.int ((it xs i b:Nat):Int)):=fun i=>by
  rw[List.range_succ,List.map_append]
  exact xH9 _ _
 have nx:∀i,atI (xs.map PyData.int) ((it xs i b:Nat):Int)=some (.int ((it xs (i+1) b:Nat):Int)):=fun i=>by
  have hi:=o.uR hb i
  rw[zX3,zV5 (by rw[o.len];exact hi),o.zK8 hi]
  rfl
 obtain⟨ρ',e,rfl⟩:=yJ6 (t:=b2 neD (e2 ixD (eV 0) (e2 ixD (eV 2) (e1 negD (eC (.int 1))))) (eV 1)) (b:=sM 2 appD (aC (e2 ixD (eV 0) (e2 ixD (eV 2) (e1 negD (eC (.int 1))))) aN))
  (fun i ρ=>ρ=[some (tI xs),some (.int b),some (.list ((List.range (i+1)).map fun j=>PyData.int ((it xs j b:Nat):Int)))]) (per n xs b-1) 1000000 [some (tI xs),some (.int b),some (.list [.int b])] rfl (by
   rintro i ρ hi rfl
   simp -implicitDefEqProofs only[(evA),last,nx,zX8]
   have ne:=a4 (i+1) (by bv_omega) (by bv_omega)
   rw[decide_eq_false (by bv_omega)]
   refine⟨rfl,_,?_,rfl⟩
   simp -implicitDefEqProofs only[(evA),bR (l:=(List.range (i+1)).map fun j=>PyData.int ((it xs j b:Nat):Int)) (by rw[List.length_map,List.length_range];bv_omega)]
   congr 2
   simp only[List.range_succ,List.map_append,List.map_cons,List.map_nil]) (by
   rintro ρ rfl
   simp -implicitDefEqProofs only[(evA),last,nx,zX8]
   rw[show per n xs b-1+1=per n xs b by bv_omega,a3,decide_eq_true rfl]
   rfl) (by bv_omega)
 rw[e]
 simp -implicitDefEqProofs only[(evA)]
 congr 2
 rw[show per n xs b-1+1=per n xs b by bv_omega]
 unfold rI' ring
 rw[List.map_map,List.map_map]
 rfl
abbrev ringsD (n:Nat) (xs:List Int) (m:Nat):List (List Int):=(rgs n xs m).map rI'
theorem uU {n:Nat}{xs:List Int}(o:Ord n xs) (hn:n<=1000):yL [tI xs]=.ok (rows (ringsD n xs n)):=by
 show (zU7 [some (tI xs),none,none,none,none,none]).bind (fin true)=_
 unfold zU7
 simp -implicitDefEqProofs only[(evA),List.length_map,o.len,bE _ n hn,cJ hn,dI]
 have cnt:∀m,m<=n->(rgs n xs m).length<=m:=by
  intro m
  induction m with
  | zero=>intro _;simp[rgs]
  | succ m ih =>
   intro h
   have:=ih (by bv_omega)
   rw[rgs]
   split
   ·bv_omega
   ·rw[List.length_append,List.length_singleton];bv_omega
 obtain⟨ρ',e,x,y,z,rfl⟩:=vW (g:=gN 3) (b:=sIf (tNt (tV (e2 ixD (eV 2) (eV 3)))) (sQ (sS 4 (eF fO (aC (eV 0) (aC (eV 3) aN)))) (sQ (sM 1 appD (aC (eV 4) aN)) (sF (iS (eV 4)) (gN 5) (sI 2 (eV 5) (eC (.bool true)))))) sN)
  (fun i ρ=>∃x y z,ρ=[some (tI xs),some (rows (ringsD n xs i)),some (.list ((List.range n).map fun c=>.bool (has (rgs n xs i) c))),x,y,z]) ((List.range n).map fun (i:Nat)=>PyData.int (i:Int)) [some (tI xs),some (.list []),some (.list ((List.range n).map fun _=>.bool false)),none,none,none] ⟨none,none,none,rfl⟩ (by
   rintro i d ρ hd ⟨x,y,z,rfl⟩
   obtain⟨hi,rfl⟩:=zK6 hd
   cases hh:has (rgs n xs i) i with
   | true =>
    refine⟨_,[some (tI xs),some (rows (ringsD n xs i)),some (.list ((List.range n).map fun c=>.bool (has (rgs n xs i) c))),some (.int i),y,z],rfl,?_,some (.int i),y,z,?_⟩
    ·simp -implicitDefEqProofs only[(evA),zQ6 hi,hh]
    ·unfold ringsD
     rw[rgs,if_pos hh]
   | false =>
    have hh':¬has (rgs n xs i) i=true:=by rw[hh];exact Bool.false_ne_true
    obtain⟨ρ2,e2,x2,rfl⟩:=vW (g:=gN 5) (b:=sI 2 (eV 5) (eC (.bool true)))
     (fun j ρ=>∃x,ρ=[some (tI xs),some (rows (ringsD n xs i ++ [rI' (ring n xs i)])),some (.list ((List.range n).map fun c=>.bool (has (rgs n xs i) c || ((ring n xs i).take j).contains c))),some (.int i),some (tI (rI' (ring n xs i))),x]) ((rI' (ring n xs i)).map PyData.int)
     [some (tI xs),some (rows (ringsD n xs i ++ [rI' (ring n xs i)])),some (.list ((List.range n).map fun c=>.bool (has (rgs n xs i) c))),some (.int i),some (tI (rI' (ring n xs i))),z] ⟨z,by simp⟩ (by
      rintro j d ρ hd ⟨x,rfl⟩
      unfold rI' at hd
      rw[List.map_map,List.getElem?_map] at hd
      obtain⟨m,hm,rfl⟩:=Option.map_eq_some_iff.mp hd
      have hmr:m∈ring n xs i:=List.mem_of_getElem? hm
      have hml:m<n:=o.zT1 hi (xY.mp hmr)
      refine⟨_,_,rfl,?_,some (.int m),rfl⟩
      simp -implicitDefEqProofs only[(evA),Function.comp,zU9 hml]
      congr 6
      refine congrArg PyData.list (List.map_congr_left fun c _ => ?_)
      rw[List.take_succ,hm]
      by_cases ec:c=m
      ·subst ec
       rw[if_pos rfl]
       simp
      ·rw[if_neg ec]
       simp[ec])
    refine⟨_,_,rfl,?_,some (.int i),some (tI (rI' (ring n xs i))),x2,rfl⟩
    have e5:rows (ringsD n xs i)=.list ((ringsD n xs i).map tI):=rfl
    simp -implicitDefEqProofs only[(evA),zQ6 hi,hh,yI6 o hn hi,bR (l:=(ringsD n xs i).map tI) (d:=tI (rI' (ring n xs i))) (by rw[List.length_map,List.length_map];have:=cnt i (by bv_omega);bv_omega)]
    have e6:(ringsD n xs i).map tI ++ [tI (rI' (ring n xs i))]=(ringsD n xs i ++ [rI' (ring n xs i)]).map tI:=by rw[List.map_append];rfl
    rw[e6,e2]
    congr 2
    have e7:ringsD n xs (i+1)=ringsD n xs i ++ [rI' (ring n xs i)]:=by
     unfold ringsD
     rw[rgs,if_neg hh',List.map_append]
     rfl
    rw[e7]
    congr 4
    refine congrArg PyData.list (List.map_congr_left fun c _ => ?_)
    congr 1
    rw[rgs,if_neg hh']
    unfold has rI'
    rw[List.any_append,List.length_map,List.length_map,List.take_length]
    simp)
 rw[List.length_map,List.length_range] at e
 rw[e]
 rfl
theorem zF7 {n:Nat}{xs:List Int}:∀m,(rgs n xs m).length<=m
 | 0=>Nat.le_refl _
 | m+1=>by
  have:=zF7 (n:=n) (xs:=xs) m
  rw[rgs]
  split
  ·bv_omega
  ·rw[List.length_append];simp;bv_omega
structure Opn (n:Nat) (ops:List Int):Prop where
 len:ops.length=n
 bd:∀x∈ops,0<=x/\x<=n
theorem bJ {n:Nat}{ops:List Int}(p:Opn n ops) (h1:1<=n) (h2:n<=60):qL [.int n,tI ops]=.ok (tI ops):=by
 show (gS [some (.int n),some (tI ops)]).bind (fin false)=_
 unfold gS
 have hne:ops ≠ []:=fun z=>by have:=p.len;rw[z] at this;simp at this;bv_omega
 have a1:=p.bd _ (yL9 hne)
 have a2:=p.bd _ (zE4 hne)
 simp -implicitDefEqProofs only[(evA),List.length_map,p.len,zX8,wX3 hne,wV7 hne,decide_eq_true (show (1:Int)<=(n:Int) by bv_omega),decide_eq_true (show (n:Int)<=60 by bv_omega),decide_true,decide_eq_false (show ¬minL ops<0 by bv_omega),decide_eq_false (show ¬(n:Int)<maxL ops by bv_omega)]
theorem Opn.at {n:Nat}{ops:List Int}(q:Opn n ops){p:Nat}(h:p<n):0<=ops.getD p 0/\ops.getD p 0<=n:=q.bd _ (MR.getD_mem (by rw[q.len];exact h))
theorem wS8 {n:Nat}{ops:List Int}(q:Opn n ops){p:Nat}(h:p<n):atI (ops.map PyData.int) (p:Int)=some (.int ((ops.getD p 0).toNat:Int)):=by
 have:=q.at h
 rw[zX3,zV5 (by rw[q.len];exact h),Option.map_some]
 congr 2
 bv_omega
def fd (n:Nat) (xs ops:List Int) (p:Nat):Bool:=decide (per n xs p<=(ops.getD p 0).toNat)
def FN (n:Nat) (xs ops:List Int):List Int:=rI' ((List.range n).filter (fd n xs ops))
theorem yQ6 {n:Nat}{xs:List Int}(o:Ord n xs):(rgs n xs n).flatten.Perm (List.range n):=by
 have k:=o.wM n (Nat.le_refl n)
 rw[List.perm_ext_iff_of_nodup k.nodup List.nodup_range]
 intro a
 rw[List.mem_range,List.mem_flatten]
 constructor
 ·rintro ⟨r,hr,ha⟩
  obtain⟨b,hb,rfl,_⟩:=k.each r hr
  exact o.zT1 hb (xY.mp ha)
 ·intro h
  exact k.cover a h
theorem yK2 {n:Nat}{xs:List Int}(o:Ord n xs):(rgs n xs n).flatten.length=n:=by
 rw[(yQ6 o).length_eq,List.length_range]
theorem yM (l:List Nat):(rI' l).length=l.length:=by unfold rI';simp
theorem yH6 (a b:List Nat):rI' (a++b)=rI' a++rI' b:=by unfold rI';simp
theorem xR7 (n:Nat) (xs ops:List Int):(FN n xs ops).Pairwise (· <= ·):=by
 unfold FN rI'
 rw[List.pairwise_map]
 exact ((List.pairwise_lt_range (n:=n)).filter _).imp fun h=>by bv_omega
theorem wU8 {n:Nat}{xs ops:List Int}(o:Ord n xs):sortI (rI' ((rgs n xs n).flatten.filter (fd n xs ops)))=FN n xs ops :=
 zH9 ((wW _).trans (((yQ6 o).filter _).map _)) (bH _) (xR7 n xs ops)
abbrev fBody:Ev->Res Out:=sM 2 extD (aC (eComp (iS (eV 3)) (b2 geI (e2 ixD (eV 1) (eV 0)) (eB lenD (aC (eV 2) aN))) (eV 0) [1,3]) aN)
theorem xI5 {n b:Nat}{xs ops l:List Int}{od:D}(o:Ord n xs) (q:Opn n ops) (ho:od=tI ops\/od=lI ops) (hb:b<n) (hl:l.length+((ring n xs b).filter (fd n xs ops)).length<=1000) (hn:n<=1000) :
  fBody [some (tI xs),some od,some (lI l),some (tI (rI' (ring n xs b)))]=.ok (.nx [some (tI xs),some od,some (lI (l++rI' ((ring n xs b).filter (fd n xs ops)))),some (tI (rI' (ring n xs b)))]):=by
 have pb:=(o.yK hb).2.1
 have c1:eComp (iS (eV 3)) (b2 geI (e2 ixD (eV 1) (eV 0)) (eB lenD (aC (eV 2) aN))) (eV 0) [1,3] [some (tI xs),some od,some (lI l),some (tI (rI' (ring n xs b)))]=.ok (lI (rI' ((ring n xs b).filter (fd n xs ops)))):=by
  have:=zV7 (mi:=iS (eV 3)) (t:=b2 geI (e2 ixD (eV 1) (eV 0)) (eB lenD (aC (eV 2) aN))) (me:=eV 0) (js:=[1,3]) (ρ:=[some (tI xs),some od,some (lI l),some (tI (rI' (ring n xs b)))]) (fun c:Nat=>PyData.int (c:Int)) (fd n xs ops) (fun c:Nat=>PyData.int (c:Int)) (ring n xs b) (by
    simp -implicitDefEqProofs only[(evA)]
    unfold rI'
    rw[List.map_map]
    rfl) (by rw[yS];bv_omega) (fun c hc=>by
    have hcn:=o.zT1 hb (xY.mp hc)
    have ep:=o.gC hb (xY.mp hc)
    have ea:=wS8 q hcn
    have el:(rI' (ring n xs b)).length=per n xs c:=by rw[yM,yS,ep]
    show b2 geI _ _ [some (.int (c:Int)),some od,some (tI (rI' (ring n xs b)))]=_
    rcases ho with rfl | rfl
    ·simp -implicitDefEqProofs only[(evA),ea,List.length_map,el]
     unfold fd
     congr 1
     rw[Bool.eq_iff_iff,decide_eq_true_iff,decide_eq_true_iff]
     bv_omega
    ·simp -implicitDefEqProofs only[(evA),ea,List.length_map,el]
     unfold fd
     congr 1
     rw[Bool.eq_iff_iff,decide_eq_true_iff,decide_eq_true_iff]
     bv_omega) fun c _ _=>rfl
  rw[this]
  unfold rI'
  simp only[lI,List.map_map,Function.comp_def]
 have e1:=yF2 (l:=l.map PyData.int) (k:=(rI' ((ring n xs b).filter (fd n xs ops))).map PyData.int) (d:=lI (rI' ((ring n xs b).filter (fd n xs ops)))) rfl (by rw[List.length_map,List.length_map,yM];exact hl)
 simp -implicitDefEqProofs only[(evA),c1,e1]
 simp only[lI,List.map_append]
theorem fLoop {n:Nat}{xs ops:List Int}{od:D}(o:Ord n xs) (q:Opn n ops) (ho:od=tI ops\/od=lI ops) (hn:n<=1000):∃y,L3.forM (gN 3) fBody ((ringsD n xs n).map tI) [some (tI xs),some od,some (.list []),none]=.ok (.nx [some (tI xs),some od,some (lI (rI' ((rgs n xs n).flatten.filter (fd n xs ops)))),y]):=by
 have k:=o.wM n (Nat.le_refl n)
 obtain⟨ρ',e,y,rfl⟩:=vW (g:=gN 3) (b:=fBody)
  (fun i ρ=>∃y,ρ=[some (tI xs),some od,some (lI (rI' (((rgs n xs n).take i).flatten.filter (fd n xs ops)))),y]) ((ringsD n xs n).map tI) [some (tI xs),some od,some (.list []),none] ⟨none,rfl⟩ (by
   rintro i d ρ hd ⟨y,rfl⟩
   unfold ringsD at hd
   rw[List.map_map,List.getElem?_map] at hd
   obtain⟨r,hr,rfl⟩:=Option.map_eq_some_iff.mp hd
   obtain⟨b,hb,rfl,_⟩:=k.each r (List.mem_of_getElem? hr)
   have tk:(rgs n xs n).take (i+1)=(rgs n xs n).take i ++ [ring n xs b]:=by rw[List.take_succ,hr];rfl
   have e1:((rgs n xs n).take (i+1)).flatten.filter (fd n xs ops)=((rgs n xs n).take i).flatten.filter (fd n xs ops)++(ring n xs b).filter (fd n xs ops):=by
    rw[tk,List.flatten_append,List.filter_append]
    simp
   have ln:(((rgs n xs n).take (i+1)).flatten.filter (fd n xs ops)).length<=n:=by
    refine Nat.le_trans (List.length_filter_le _ _) ?_
    have h:=congrArg (fun z=>(List.flatten z).length) (List.take_append_drop (i+1) (rgs n xs n))
    simp only[List.flatten_append,List.length_append,yK2 o] at h
    bv_omega
   rw[e1,List.length_append] at ln
   refine⟨_,_,rfl,xI5 o q ho hb (by rw[yM];bv_omega) hn,some (tI (rI' (ring n xs b))),?_⟩
   rw[e1,yH6])
 rw[List.length_map,List.length_map,List.take_length] at e
 exact⟨y,e⟩
theorem zE8 {n:Nat}{xs ops:List Int}(o:Ord n xs) (q:Opn n ops) (h1:1<=n) (h2:n<=60):dP [tI xs,tI ops]=.ok (tI (FN n xs ops)):=by
 show (zP8 [some (tI xs),some (tI ops),none,none]).bind (fin false)=_
 unfold zP8
 obtain⟨y,fl⟩:=fLoop o q (.inl rfl) (show n<=1000 by bv_omega)
 simp -implicitDefEqProofs only[(evA),List.length_map,o.len,bJ q h1 h2,uU o (show n<=1000 by bv_omega),fl]
 have ln:(rI' ((rgs n xs n).flatten.filter (fd n xs ops))).length<=63:=by
  rw[yM]
  have:=List.length_filter_le (fd n xs ops) (rgs n xs n).flatten
  rw[yK2 o] at this
  bv_omega
 simp -implicitDefEqProofs only[(evA),yJ4 ln,wU8 o]
theorem yG3:∀l:List Int,lfs (l.map PyData.int)=true
 | []=>rfl
 | a::l=>by rw[List.map_cons,lfs,yG3 l];rfl
theorem wJ8 (l:List Int):lfT false (tI l)=true:=by
 show lf (.tuple (l.map PyData.int))=true
 rw[lf,yG3]
theorem zB7 {n:Nat}(h:n<=60):gB [.int n]=.ok .none:=by
 show (fP [some (.int n)]).bind (fin false)=_
 unfold fP
 simp -implicitDefEqProofs only[(evA),decide_eq_true (show (0:Int)<=(n:Int) by bv_omega),decide_eq_true (show (n:Int)<=60 by bv_omega)]
theorem wG {n:Nat}{k:Int}(h:n<=60) (hk:0<=k):xN [.int n,.int k]=.ok .none:=by
 show (uE [some (.int n),some (.int k)]).bind (fin false)=_
 unfold uE
 simp -implicitDefEqProofs only[(evA),zB7 h,decide_eq_false (show ¬k<0 by bv_omega)]
theorem yI9 {c j:Nat}(hc:c<=61) (hj:j<=61):Small (M12.ff ((c:Int)-1) j):=⟨367,by decide,M12.yU3 c j hc hj⟩
theorem zI3 {l k:Int}{n:Nat}(hn:n<=60):Small (M12.G l k n):=⟨24001,by decide,M12.zA4 l k n hn⟩
theorem castT {i j:Nat}(h:j<i+1):(i:Int)+1-((j:Int)+1)=((i-j:Nat):Int):=by bv_omega
theorem mulT {x:Int}{i j:Nat}(h:j<i+1) (h':i<60):MulOk x ((i:Int)+1-((j:Int)+1)):=MulOk.right (by bv_omega) (by bv_omega)
theorem le61 {i j:Nat}(h:j<i+1) (h':i<60):i+1<=61/\j<=61/\i-j<=60:=by bv_omega
theorem wJ {n:Nat}(l:Int){k:Int}(hn:n<=60) (hk:0<=k):xL [.int n,.int l,.int k]=.ok (lI (M12.mbl l k n)):=by
 show (jK [some (.int n),some (.int l),some (.int k),none,none,none,none,none]).bind (fin true)=_
 unfold jK
 simp -implicitDefEqProofs only[(evA),yM7 (m:=(n:Int)) (by bv_omega) (by bv_omega),Int.toNat_natCast]
 refine uO (fun i ρ=>∃c t w x,ρ=[some (.int n),some (.int l),some (.int k),some (lI (M12.mbl l k i)),c,t,w,x]) ⟨none,none,none,none,rfl⟩ ?_ ?_
 ·rintro i d ρ hd ⟨c,t,w,x,rfl⟩
  obtain⟨hi,rfl⟩:=uB hd
  have hlen:(M12.mbl l k i).length=i+1:=M12.xH l k i
  have hm:(if (i:Int)+1<k then (i:Int)+1 else k)=min k ((i:Int)+1):=by split <;> bv_omega
  have inner:∃y,L3.forM (gN 7) (sQ (sIf (b2 geI (eV 7) (eV 1)) (sS 5 (e2 addI (eV 5) (e2 mulI (eV 6) (e2 ixD (eV 3) (e2 subI (eV 4) (eV 7)))))) sN) (sS 6 (e2 mulI (eV 6) (e2 subI (eV 4) (eV 7))))) ((List.range (min k ((i:Int)+1)).toNat).map fun (j:Nat)=>PyData.int ((j:Int)+1))
    [some (.int n),some (.int l),some (.int k),some (lI (M12.mbl l k i)),some (.int ((i:Int)+1)),some (.int 0),some (.int 1),x]=.ok (.nx [some (.int n),some (.int l),some (.int k),some (lI (M12.mbl l k i)),some (.int ((i:Int)+1)),some (.int (M12.tot l (M12.mbl l k i) (min k ((i:Int)+1)).toNat)),some (.int (M12.ff (((i+1:Nat):Int)-1) (min k ((i:Int)+1)).toNat)),y]):=by
   obtain⟨ρ',e,y,rfl⟩:=vW (g:=gN 7) (b:=sQ (sIf (b2 geI (eV 7) (eV 1)) (sS 5 (e2 addI (eV 5) (e2 mulI (eV 6) (e2 ixD (eV 3) (e2 subI (eV 4) (eV 7)))))) sN) (sS 6 (e2 mulI (eV 6) (e2 subI (eV 4) (eV 7)))))
    (fun j ρ=>∃y,ρ=[some (.int n),some (.int l),some (.int k),some (lI (M12.mbl l k i)),some (.int ((i:Int)+1)),some (.int (M12.tot l (M12.mbl l k i) j)),some (.int (M12.ff (((i+1:Nat):Int)-1) j)),y]) ((List.range (min k ((i:Int)+1)).toNat).map fun (j:Nat)=>PyData.int ((j:Int)+1))
    [some (.int n),some (.int l),some (.int k),some (lI (M12.mbl l k i)),some (.int ((i:Int)+1)),some (.int 0),some (.int 1),x] ⟨x,rfl⟩ (by
     rintro j d ρ hd ⟨y,rfl⟩
     obtain⟨hj,rfl⟩:=uB hd
     have hj1:j<i+1:=by bv_omega
     have ii:i<60:=by bv_omega
     obtain⟨q1,q2,q3⟩:=le61 hj1 ii
     have hv:=qX (xs:=M12.mbl l k i) (i:=(i:Int)+1-((j:Int)+1)) (j:=i-j) (castT hj1) (by rw[hlen];exact Nat.lt_succ_of_le (Nat.sub_le _ _))
     rw[M12.vH l k i (i-j) (Nat.sub_le _ _)] at hv
     have e2:M12.ff (((i+1:Nat):Int)-1) j*((i:Int)+1-((j:Int)+1))=M12.ff (((i+1:Nat):Int)-1) (j+1):=by
      rw[M12.ff]
      congr 1
      bv_omega
     have m1:=xA (i:=M12.ff (((i+1:Nat):Int)-1) j) (j:=M12.G l k (i-j)) (.inr ⟨yI9 q1 q2,zI3 q3⟩)
     have m2:=xA (i:=M12.ff (((i+1:Nat):Int)-1) j) (j:=(i:Int)+1-((j:Int)+1)) (mulT hj1 ii)
     by_cases hl:l<=(j:Int)+1
     ·refine⟨_,_,rfl,?_,some (.int ((j:Int)+1)),rfl⟩
      simp -implicitDefEqProofs only[(evA),decide_eq_true hl,hv,m1,m2,e2]
      rw[M12.tot,if_pos hl,hlen,Nat.add_sub_add_right,M12.vH l k i (i-j) (Nat.sub_le _ _)]
     ·refine⟨_,_,rfl,?_,some (.int ((j:Int)+1)),rfl⟩
      simp -implicitDefEqProofs only[(evA),decide_eq_false hl,m2,e2]
      rw[M12.tot,if_neg hl])
   rw[List.length_map,List.length_range] at e
   exact⟨y,e⟩
  obtain⟨y,inner⟩:=inner
  refine⟨_,_,rfl,?_,some (.int ((i:Int)+1)),some (.int (M12.tot l (M12.mbl l k i) (min k ((i:Int)+1)).toNat)),some (.int (M12.ff (((i+1:Nat):Int)-1) (min k ((i:Int)+1)).toNat)),y,rfl⟩
  simp -implicitDefEqProofs only[(evA),min2D,hm,yM7 (m:=min k ((i:Int)+1)) (by bv_omega) (by bv_omega),inner,bR (l:=(M12.mbl l k i).map PyData.int) (by rw[List.length_map];bv_omega)]
  simp only[M12.mbl,lI,List.map_append,List.map_cons,List.map_nil]
 ·rintro ρ ⟨c,t,w,x,rfl⟩
  rw[List.length_map,List.length_range]
  simp -implicitDefEqProofs only[(evA)]
theorem yF7 {n:Nat}{k:Int}(hn:n<=60) (hk:0<=k):zZ6 [.int n,.int k]=.ok (.int (M12.G 1 k n)):=by
 show (zZ1 [some (.int n),some (.int k)]).bind (fin false)=_
 unfold zZ1
 have g1:=M12.xH 1 k n
 have hv:=qX (xs:=M12.mbl 1 k n) (i:=(n:Int)) (j:=n) rfl (by bv_omega)
 rw[M12.vH 1 k n n (Nat.le_refl _)] at hv
 simp -implicitDefEqProofs only[(evA),wG hn hk,wJ 1 hn hk,hv]
theorem yG8 {n m:Nat}(hn:n<=60):M12.bin n m<2 ^ 61:=by
 have h:=M12.yF8 n m
 have h2:(2:Int) ^ n<=2 ^ 60:=by exact_mod_cast Nat.pow_le_pow_right (by decide:0<2) hn
 have h3:(2:Int) ^ 60<2 ^ 61:=by decide
 bv_omega
theorem xZ3 {n m:Nat}{j:Int}(hn:n<=60):MulOk (M12.bin n m) j:=by
 have h:=yG8 (m:=m) hn
 have h0:=M12.gL n m
 have h1:(2:Int) ^ 61<2 ^ 64:=by decide
 exact MulOk.left (by bv_omega) (by bv_omega)
theorem zC3 {n m i:Nat}{l k:Int}(hn:n<=60) (hi:i<=60):Small (M12.bin n m*M12.G l k i):=by
 refine⟨61+24001,by decide,?_⟩
 have h:=yG8 (m:=m) hn
 have h0:=M12.gL n m
 have a:(M12.bin n m).natAbs<2 ^ 61:=by
  have:((M12.bin n m).natAbs:Int)<((2 ^ 61:Nat):Int):=by
   rw[Int.natAbs_of_nonneg h0]
   exact_mod_cast h
  exact_mod_cast this
 rw[Int.natAbs_mul,Nat.pow_add]
 exact Nat.mul_lt_mul'' a (M12.zA4 l k i hi)
def Tl (n:Nat) (k:Int) (i:Nat):List Int:=M12.tells (M12.mbl 1 k n) (M12.mbl (k+1) n n) n i
theorem yZ1 {n:Nat}{k:Int}(hn:n<=60) (hk:0<=k):gA [.int n,.int k]=.ok (lI (Tl n k (n+1))):=by
 show (fY [some (.int n),some (.int k),none,none,none,none,none]).bind (fin true)=_
 unfold fY
 have g1:=M12.xH 1 k n
 have g2:=M12.xH (k+1) n n
 simp -implicitDefEqProofs only[(evA),wG hn hk,wJ 1 hn hk,wJ (k+1) (k:=(n:Int)) hn (by bv_omega),xK7 (n:=n) (by bv_omega)]
 refine uO (fun i ρ=>∃x,ρ=[some (.int n),some (.int k),some (lI (M12.mbl 1 k n)),some (lI (M12.mbl (k+1) n n)),some (lI (Tl n k i)),some (.int (M12.bin n i)),x]) ⟨none,by rw[M12.bM];rfl⟩ ?_ ?_
 ·rintro i d ρ hd ⟨x,rfl⟩
  obtain⟨hi,rfl⟩:=uB hd
  have hv1:=qX (xs:=M12.mbl 1 k n) (i:=(i:Int)) (j:=i) rfl (by bv_omega)
  have hv2:=qX (xs:=M12.mbl (k+1) n n) (i:=(n:Int)-(i:Int)) (j:=n-i) (by bv_omega) (by bv_omega)
  have r1:=M12.vH 1 k n i (by bv_omega)
  have r2:=M12.vH (k+1) n n (n-i) (by bv_omega)
  rw[r1] at hv1
  rw[r2] at hv2
  have m1:=xA (i:=M12.bin n i) (j:=M12.G 1 k i) (xZ3 hn)
  have m2:=xA (i:=M12.bin n i*M12.G 1 k i) (j:=M12.G (k+1) n (n-i)) (.inr ⟨zC3 hn (by bv_omega),zI3 (by bv_omega)⟩)
  have m3:=xA (i:=M12.bin n i) (j:=(n:Int)-(i:Int)) (xZ3 hn)
  have lt:(Tl n k i).length=i:=M12.uP _ _ _ _
  refine⟨_,_,rfl,?_,some (.int (i:Int)),rfl⟩
  simp -implicitDefEqProofs only[(evA),hv1,hv2,m1,m2,m3,fdivO,if_pos (show DivOk ((i:Int)+1) from DivOk.small (by bv_omega) (by bv_omega)),M12.xG5,bR (l:=(Tl n k i).map PyData.int) (by rw[List.length_map];bv_omega)]
  simp only[Tl,M12.tells,lI,List.map_append,List.map_cons,List.map_nil,r1,r2]
 ·rintro ρ ⟨x,rfl⟩
  rw[List.length_map,List.length_range]
  simp -implicitDefEqProofs only[(evA)]
theorem xD7 {l:List Int}{j:Nat}(h:j<l.length):(l.map PyData.int).getD j PyData.none=PyData.int (l.getD j 0):=by
 rw[List.getD_eq_getElem?_getD,List.getD_eq_getElem?_getD,List.getElem?_map,List.getElem?_eq_getElem h]
 rfl
theorem wT7 {ys:List Int}:sortI ys=rg ys.length↔ys.Perm (rg ys.length):=by
 constructor
 ·intro h
  rw[<-h]
  exact (wW ys).symm
 ·intro h
  exact zH9 ((wW ys).trans h) (bH ys) (wH8 _)
theorem xF8 {ns:List Int}(h:ns.length<=63):sortD [tI ns]=some (lI (sortI ns)):=by
 unfold sortD
 simp only[nsD,seqD,Option.bind_some,intsOf_map]
 rw[if_pos (by bv_omega)]
theorem yC4 {d:D}{ys:List Int}(hd:d=lI ys\/d=tI ys):zU8 [d]=.ok (.bool (decide (1<=ys.length/\ys.length<=60/\ys.Perm (rg ys.length)))):=by
 show (zU1 [some d]).bind (fin false)=_
 unfold zU1
 have ln:lenD [d]=some (.int (ys.length:Int)):=by
  rcases hd with rfl | rfl
  ·rw[yV5];simp only[xO7,Option.map_some,List.length_map]
  ·rw[yV5];simp only[xJ2,Option.map_some,List.length_map]
 by_cases h1:1<=ys.length
 ·by_cases h2:ys.length<=60
  ·have sr:sortD [d]=some (lI (sortI ys)):=by
    rcases hd with rfl | rfl
    ·exact yJ4 (by bv_omega)
    ·exact xF8 (by bv_omega)
   have d1:decide ((1:Int)<=(ys.length:Int))=true:=decide_eq_true (by bv_omega)
   have d2:decide ((ys.length:Int)<=60)=true:=decide_eq_true (by bv_omega)
   have rl:=zU6 (n:=ys.length) (by bv_omega)
   rw[show ((List.range ys.length).map fun (i:Nat)=>(i:Int))=rg ys.length from rfl] at rl
   simp -implicitDefEqProofs only[yO6,zE6,yN1,yN2,yO8,yZ2,yN6,zA9,eV0,yN3,yO7,yZ7,yO9,yZ3,Res.bind_ok,Res.lft_some,ln,d1,d2,sr,rl,wP7,if_true]
   congr 2
   rw[Bool.eq_iff_iff,decide_eq_true_iff,decide_eq_true_iff,wT7]
   exact⟨fun z=>⟨h1,h2,z⟩,fun z=>z.2.2⟩
  ·have d1:decide ((1:Int)<=(ys.length:Int))=true:=decide_eq_true (by bv_omega)
   have d2:decide ((ys.length:Int)<=60)=false:=decide_eq_false (by bv_omega)
   simp -implicitDefEqProofs only[yO6,zE6,yN1,yN2,yO8,yZ2,yN6,zA9,eV0,yN3,yO7,yZ7,yO9,yZ3,Res.bind_ok,Res.lft_some,ln,d1,d2,if_true,Bool.false_eq_true,if_false]
   congr 2
   symm
   exact decide_eq_false fun z=>h2 z.2.1
 ·have d1:decide ((1:Int)<=(ys.length:Int))=false:=decide_eq_false (by bv_omega)
  simp -implicitDefEqProofs only[yO6,zE6,yN1,yN2,yO8,yZ2,yN6,zA9,eV0,yN3,yO7,yZ7,yO9,yZ3,Res.bind_ok,Res.lft_some,ln,d1,Bool.false_eq_true,if_false]
  congr 2
  symm
  exact decide_eq_false fun z=>h1 z.1
theorem yY7 {xs:List Int}{a:Nat}(h:a<xs.length) (v:Int):setD (xs.map PyData.int) (.int (a:Int)) (.int v)=some ((xs.set a v).map PyData.int):=by
 unfold setD
 simp only
 rw[List.length_map,yA5 h,Option.map_some,List.map_set]
theorem gE {m j:Nat}(hm:m<60) (hj:j<=m):uZ [.int ((m+1:Nat):Int),.int ((j+1:Nat):Int)]=.ok (.int ((nf m j:Nat):Int)):=by
 show (jY [some (.int ((m+1:Nat):Int)),some (.int ((j+1:Nat):Int)),none,none]).bind (fin false)=_
 unfold jY
 have rg:=bY (a:=1) (b:=j+1) (by bv_omega) (by bv_omega)
 rw[show ((1:Nat):Int)=1 from rfl,Nat.add_sub_cancel] at rg
 simp -implicitDefEqProofs only[(evA),rg]
 refine uO (fun i ρ=>∃a,ρ=[some (.int ((m+1:Nat):Int)),some (.int ((j+1:Nat):Int)),some (.int ((nf m i:Nat):Int)),a]) ⟨none,rfl⟩ ?_ ?_
 ·rintro i d ρ hd ⟨a,rfl⟩
  obtain⟨hi,rfl⟩:=uB hd
  have m1:=xA (i:=((nf m i:Nat):Int)) (j:=((m+1:Nat):Int)-((1+i:Nat):Int)) (MulOk.right (by bv_omega) (by bv_omega))
  have e:((nf m i:Nat):Int)*(((m+1:Nat):Int)-((1+i:Nat):Int))=((nf m (i+1):Nat):Int):=by
   rw[yA4 i m (by bv_omega),Int.natCast_mul,show ((m+1:Nat):Int)-((1+i:Nat):Int)=((m-i:Nat):Int) by bv_omega]
  refine⟨_,_,rfl,?_,some (.int ((1+i:Nat):Int)),rfl⟩
  simp -implicitDefEqProofs only[(evA),m1,e]
 ·rintro ρ ⟨a,rfl⟩
  rw[List.length_map,List.length_range]
  simp -implicitDefEqProofs only[(evA)]
theorem xC7 {m j:Nat}(hm:m<60) (hj:j<=m):Small ((nf m j:Nat):Int):=by
 rw[<-yN7,show (m:Int)=((m+1:Nat):Int)-1 by bv_omega]
 exact yI9 (by bv_omega) (by bv_omega)
theorem vM {n k m j:Nat}(hn:n<=60) (hm:m<n) (hj:j<=m):yR [lI (M12.mbl 1 (k:Int) n),.int ((m+1:Nat):Int),.int ((j+1:Nat):Int)]=.ok (.int ((nf m j*gn k (m-j):Nat):Int)):=by
 show (uS [some (lI (M12.mbl 1 (k:Int) n)),some (.int ((m+1:Nat):Int)),some (.int ((j+1:Nat):Int))]).bind (fin false)=_
 unfold uS
 have lm:=M12.xH 1 (k:Int) n
 have at1:=qX (xs:=M12.mbl 1 (k:Int) n) (i:=((m+1:Nat):Int)-((j+1:Nat):Int)) (j:=m-j) (by bv_omega) (by bv_omega)
 rw[M12.vH 1 (k:Int) n (m-j) (by bv_omega),jF] at at1
 have m1:=xA (i:=((nf m j:Nat):Int)) (j:=((gn k (m-j):Nat):Int)) (.inr ⟨xC7 (by bv_omega) hj,by rw[<-jF];exact zI3 (by bv_omega)⟩)
 simp -implicitDefEqProofs only[(evA),gE (show m<60 by bv_omega) hj,at1,m1]
 rw[Int.natCast_mul]
theorem zQ9:∀(j m:Nat),m<=60->nf m j<=2 ^ (6*j)
 | 0,_,_=>by simp[nf]
 | j+1,m,h=>by
  have:=zQ9 j (m-1) (by bv_omega)
  rw[nf,show 6*(j+1)=6*j+6 by bv_omega,Nat.pow_add,Nat.mul_comm]
  exact Nat.mul_le_mul this (by bv_omega)
theorem wJ1 {m j:Nat}(hm:m<=60) (hj:j<=m):DivOk ((nf m j:Nat):Int):=by
 have p:=zB9 j m hj
 refine⟨by bv_omega,?_⟩
 rw[Int.natAbs_natCast]
 refine Nat.lt_trans ((Nat.log2_lt (n:=nf m j) (k:=361) (by bv_omega)).mpr ?_) (by decide)
 exact Nat.lt_of_le_of_lt (zQ9 j m hm) (Nat.pow_lt_pow_right (by decide) (by bv_omega))
theorem zA8 (l:List Nat) (q:Nat):(rI' l).getD q 0=((l.getD q 0:Nat):Int):=by
 unfold rI'
 rw[List.getD_eq_getElem?_getD,List.getD_eq_getElem?_getD,List.getElem?_map]
 cases l[q]? <;> rfl
theorem xA2 (l:List Nat) (q:Nat):(rI' l).eraseIdx q=rI' (l.eraseIdx q):=kG _ l q
theorem lenDiv {m:Nat}(h:0<m) (h':m<=60):DivOk (m:Int):=DivOk.small (Int.natCast_pos.mpr h) (by bv_omega)
theorem small63 {q m:Nat}(h:q<m) (h':m<=60):(q:Int)<2 ^ 63:=by bv_omega
theorem xE6 {i j t m j':Nat}(hi:i<j) (hj:j<=t) (ht:t<60) (hl:m=t-i) (e:j-i=j'+1):0<m/\m<=60/\j'<=m-1/\i+1<=1000/\j-(i+1)=j'/\t-(i+1)=m-1:=by bv_omega
theorem xW7 {a j p:Nat}{t:List Nat}(ht:t.length<60) (hj:j<=t.length) (hp:p<nf t.length j):aK [lI (rI' (a::t)),.int ((j+1:Nat):Int),.int (p:Int)]=.ok (tI (rI' (a::pk j t p))):=by
 show (zM1 [some (lI (rI' (a::t))),some (.int ((j+1:Nat):Int)),some (.int (p:Int)),none,none,none,none]).bind (fin false)=_
 unfold zM1
 have at0:atI ((rI' (a::t)).map PyData.int) 0=some (.int (a:Int)):=zF9 _ _
 have len0:((rI' (a::t)).map PyData.int).length=t.length+1:=by rw[List.length_map,yM];rfl
 have cut:cutD ((rI' (a::t)).map PyData.int) (some 1) none=(rI' t).map PyData.int:=by
  rw[yK6,show (1:Int)=((1:Nat):Int) from rfl,cF]
  rfl
 have mf:=gE (m:=t.length) (j:=j) (by bv_omega) hj
 simp -implicitDefEqProofs only[(evA),at0,len0,cut,mf]
 refine wQ8 (fun i ρ=>∃(ys l:List Nat) (r:Nat),ys.length=i+1/\l.length=t.length-i/\r<nf (t.length-i) (j-i)/\ys++pk (j-i) l r=a::pk j t p/\ρ=[some (lI (rI' (a::t))),some (.int ((j+1:Nat):Int)),some (.int (p:Int)),some (lI (rI' ys)),some (lI (rI' l)),some (.int ((nf (t.length-i) (j-i):Nat):Int)),some (.int (r:Int))]) j (by bv_omega)
  ⟨[a],t,p,rfl,rfl,hp,rfl,rfl⟩ ?_ ?_ ?_
 ·rintro i ρ hi ⟨ys,l,r,hy,hl,hr,hu,rfl⟩
  obtain⟨j',hj'⟩:∃j',j-i=j'+1:=⟨j-i-1,(Nat.sub_add_cancel (Nat.sub_pos_of_lt hi)).symm⟩
  obtain⟨lp,l60,jl,i10,hj2,hl2⟩:=xE6 hi hj ht hl hj'
  rw[<-hl,hj'] at hr
  rw[hj'] at hu
  rw[hj',<-hl]
  have hq:=xK2 hr
  have pp:=zB9 j' (l.length-1) jl
  have ly:((rI' ys).map PyData.int).length=i+1:=by rw[List.length_map,yM,hy]
  have ll:((rI' l).map PyData.int).length=l.length:=by rw[List.length_map,yM]
  have dv:fdivO ((nf l.length (j'+1):Nat):Int) ((l.length:Nat):Int)=some ((nf (l.length-1) j':Nat):Int):=by
   unfold fdivO
   rw[if_pos (lenDiv lp l60),nf,Int.natCast_mul,Int.mul_ediv_cancel_left _ (Int.natCast_ne_zero.mpr (Nat.ne_of_gt lp))]
  have dr:fdivO (r:Int) ((nf (l.length-1) j':Nat):Int)=some ((r / nf (l.length-1) j':Nat):Int):=by
   unfold fdivO
   rw[if_pos (wJ1 (Nat.le_trans (Nat.sub_le _ _) l60) jl)]
   rfl
  have mr:modO (r:Int) ((nf (l.length-1) j':Nat):Int)=some ((r%nf (l.length-1) j':Nat):Int):=by
   unfold modO
   rw[if_pos (Int.natCast_pos.mpr pp)]
   rfl
  have pv:popV ((rI' l).map PyData.int) (.int ((r / nf (l.length-1) j':Nat):Int))=some (.int ((l.getD (r / nf (l.length-1) j') 0:Nat):Int),(rI' (l.eraseIdx (r / nf (l.length-1) j'))).map PyData.int):=by
   unfold popV
   simp only
   have b1:((r / nf (l.length-1) j':Nat):Int)<((l.length:Nat):Int):=by exact_mod_cast hq
   rw[if_pos ⟨Int.natCast_nonneg _,by rw[ll];exact b1,small63 hq l60⟩,Int.toNat_natCast,xD7 (by rw[yM];exact hq),zA8,kG,xA2]
  have ap:appD ((rI' ys).map PyData.int) [.int ((l.getD (r / nf (l.length-1) j') 0:Nat):Int)]=some ((rI' (ys ++ [l.getD (r / nf (l.length-1) j') 0])).map PyData.int):=by
   rw[bR (by rw[ly];exact i10),yH6,List.map_append]
   rfl
  refine⟨?_,?_⟩
  ·simp -implicitDefEqProofs only[(evA),ly,decide_eq_true (show ((i+1:Nat):Int)<((j+1:Nat):Int) from Int.ofNat_lt.mpr (Nat.succ_lt_succ hi))]
  ·refine⟨_,?_,ys ++ [l.getD (r / nf (l.length-1) j') 0],l.eraseIdx (r / nf (l.length-1) j'),r%nf (l.length-1) j',?_,?_,?_,?_,rfl⟩
   ·simp -implicitDefEqProofs only[(evA),wJ9,ll,dv,dr,pv,ap,mr,hj2,hl2]
   ·rw[List.length_append,hy];rfl
   ·rw[List.length_eraseIdx_of_lt hq];exact hl2.symm
   ·rw[hj2,hl2];exact Nat.mod_lt _ pp
   ·rw[hj2,List.append_assoc];exact hu
 ·rintro ρ ⟨ys,l,r,hy,hl,hr,hu,rfl⟩
  have ly:((rI' ys).map PyData.int).length=j+1:=by rw[List.length_map,yM,hy]
  simp -implicitDefEqProofs only[(evA),ly,decide_eq_false (show ¬((j+1:Nat):Int)<((j+1:Nat):Int) from Int.lt_irrefl _)]
 ·rintro ρ ⟨ys,l,r,hy,hl,hr,hu,rfl⟩
  rw[Nat.sub_self,pk,List.append_nil] at hu
  rw[<-hu]
  simp -implicitDefEqProofs only[(evA)]
theorem pw_flat {rs:List (List Nat)}(h:rs.flatten.Nodup){i j:Nat}{r r':List Nat}(hi:rs[i]?=some r) (hj:rs[j]?=some r') (hij:i<j):∀x∈r,x∉r':=by
 obtain⟨li,ei⟩:=List.getElem?_eq_some_iff.mp hi
 obtain⟨lj,ej⟩:=List.getElem?_eq_some_iff.mp hj
 have:=List.pairwise_iff_getElem.mp (List.pairwise_flatten.mp h).2 i j li lj hij
 rw[ei,ej] at this
 exact fun x hx hx'=>this x hx x hx' rfl
theorem xC5 {r:List Nat}(h:r.Nodup){i j:Nat}(hi:i<r.length) (hj:j<r.length) (e:r.getD i 0=r.getD j 0):i=j:=by
 rw[List.getD,List.getD,List.getElem?_eq_getElem hi,List.getElem?_eq_getElem hj] at e
 exact (List.getElem_inj h).mp e
theorem xI {ys:List Int}{a b:Nat}{v:Int}(h:a<ys.length):(ys.set a v).getD b 0=if a=b then v else ys.getD b 0:=by
 rw[List.getD_eq_getElem?_getD,List.getElem?_set]
 by_cases e:a=b
 ·subst e
  rw[if_pos rfl,if_pos rfl,if_pos h]
  rfl
 ·rw[if_neg e,if_neg e,List.getD_eq_getElem?_getD]
def kx (l p:Nat):Nat:=if p=0 then l-1 else p-1
theorem xU7 {l p:Nat}(h:p<l):kx l p<l:=by unfold kx;split <;> bv_omega
theorem wI6 {l p q:Nat}(h:p<l) (h':q<l) (e:kx l p=kx l q):p=q:=by
 unfold kx at e
 split at e <;> split at e <;> bv_omega
theorem wX2 {l j:Nat}(h:j<l):kx l ((j+1)%l)=j:=by
 unfold kx
 by_cases e:j+1=l
 ·rw[e,Nat.mod_self,if_pos rfl]
  bv_omega
 ·rw[Nat.mod_eq_of_lt (by bv_omega),if_neg (by bv_omega)]
  bv_omega
theorem zH7 {n:Nat}{rs:List (List Nat)}(c:Can rs) (p:rs.flatten.Perm (List.range n)) (h1:1<=n) (h2:n<=60):∃xs,Ord n xs/\rgs n xs n=rs/\cM [rows (rs.map rI')]=.ok (tI xs):=by
 have nd:rs.flatten.Nodup:=p.nodup_iff.mpr List.nodup_range
 have lf:rs.flatten.length=n:=by rw[p.length_eq,List.length_range]
 have pos:∀r∈rs,0<r.length:=fun r hr=>by
  obtain⟨a,ys,rfl,_⟩:=c.1 r hr
  simp
 have rl:∀r∈rs,r.length<=n:=fun r hr=>by
  have:=(List.sublist_flatten_of_mem hr).length_le
  bv_omega
 have rn:∀r∈rs,∀x∈r,x<n:=fun r hr x hx=>List.mem_range.mp (p.mem_iff.mp (List.mem_flatten.mpr ⟨r,hr,hx⟩))
 have ll:rs.length<=n:=by
  have:∀L:List (List Nat),(∀r∈L,0<r.length)->L.length<=L.flatten.length:=fun L=>by
   induction L with
   | nil=>exact fun _=>Nat.le_refl _
   | cons r L ih =>
    intro h
    have a:=h r (List.mem_cons_self ..)
    have b:=ih fun r hr=>h r (List.mem_cons_of_mem _ hr)
    rw[List.length_cons,List.flatten_cons,List.length_append]
    bv_omega
  have:=this rs pos
  bv_omega
 have loop:∃ρ',L3.forM (gN 2) (sF (iR rng1 (aC (eB lenD (aC (eV 2) aN)) aN)) (gN 4) (sI 3 (e2 ixD (eV 2) (e2 subI (eV 4) (eC (.int 1)))) (e2 ixD (eV 2) (eV 4)))) ((rs.map rI').map tI) [some (rows (rs.map rI')),some (lI (rI' rs.flatten)),some (tI (rI' (rs.getLast?.getD []))),some (lI (List.replicate n 0)),none]=.ok (.nx ρ') /\
   ∃(ys:List Int) (x y:Option D),ys.length=n/\(∀r∈rs,∀q,q<r.length->ys.getD (r.getD (kx r.length q) 0) 0=((r.getD q 0:Nat):Int))/\ρ'=[some (rows (rs.map rI')),some (lI (rI' rs.flatten)),x,some (lI ys),y]:=by
  obtain⟨ρ',e,ys,x,y,hl,hy,rfl⟩:=vW (g:=gN 2) (b:=sF (iR rng1 (aC (eB lenD (aC (eV 2) aN)) aN)) (gN 4) (sI 3 (e2 ixD (eV 2) (e2 subI (eV 4) (eC (.int 1)))) (e2 ixD (eV 2) (eV 4))))
   (fun i ρ=>∃(ys:List Int) (x y:Option D),ys.length=n/\(∀i',i'<i->∀r,rs[i']?=some r->∀q,q<r.length->ys.getD (r.getD (kx r.length q) 0) 0=((r.getD q 0:Nat):Int))/\ρ=[some (rows (rs.map rI')),some (lI (rI' rs.flatten)),x,some (lI ys),y])
   ((rs.map rI').map tI) [some (rows (rs.map rI')),some (lI (rI' rs.flatten)),some (tI (rI' (rs.getLast?.getD []))),some (lI (List.replicate n 0)),none] ⟨List.replicate n 0,_,_,List.length_replicate,fun i' h=>absurd h (by bv_omega),rfl⟩ (by
    rintro i d ρ hd ⟨ys,x,y,hl,hy,rfl⟩
    rw[List.map_map,List.getElem?_map] at hd
    obtain⟨r,hr,rfl⟩:=Option.map_eq_some_iff.mp hd
    have mr:r∈rs:=List.mem_of_getElem? hr
    have r0:=pos r mr
    have r1:=rl r mr
    have nr:r.Nodup:=nd.sublist (List.sublist_flatten_of_mem mr)
    have lr:((rI' r).map PyData.int).length=r.length:=by rw[List.length_map,yM]
    have at':∀q,q<r.length->atI ((rI' r).map PyData.int) (q:Int)=some (.int ((r.getD q 0:Nat):Int)):=fun q hq=>by
     rw[qX rfl (by rw[yM];exact hq),zA8]
    have at1:∀q,q<r.length->atI ((rI' r).map PyData.int) ((q:Int)-1)=some (.int ((r.getD (kx r.length q) 0:Nat):Int)):=fun q hq=>by
     unfold kx
     by_cases z:q=0
     ·subst z
      rw[if_pos rfl,show (((0:Nat):Int)-1)=-1 by bv_omega,yE9 (n:=r.length-1) (by rw[yM];bv_omega),zA8]
     ·rw[if_neg z,show ((q:Int)-1)=((q-1:Nat):Int) by bv_omega,qX rfl (by rw[yM];bv_omega),zA8]
    obtain⟨ρ2,e2,zs,y2,hl2,hz,hz2,rfl⟩:=vW (g:=gN 4) (b:=sI 3 (e2 ixD (eV 2) (e2 subI (eV 4) (eC (.int 1)))) (e2 ixD (eV 2) (eV 4)))
     (fun q ρ=>∃(zs:List Int) (y:Option D),zs.length=n/\(∀i',i'<i->∀r,rs[i']?=some r->∀q,q<r.length->zs.getD (r.getD (kx r.length q) 0) 0=((r.getD q 0:Nat):Int))/\(∀q',q'<q->q'<r.length->zs.getD (r.getD (kx r.length q') 0) 0=((r.getD q' 0:Nat):Int))/\ρ=[some (rows (rs.map rI')),some (lI (rI' rs.flatten)),some (tI (rI' r)),some (lI zs),y])
     ((List.range r.length).map fun (i:Nat)=>PyData.int (i:Int)) [some (rows (rs.map rI')),some (lI (rI' rs.flatten)),some (tI (rI' r)),some (lI ys),y] ⟨ys,y,hl,hy,fun q' h=>absurd h (by bv_omega),rfl⟩ (by
      rintro q d ρ hd ⟨zs,y,hl,hz,hz2,rfl⟩
      obtain⟨hq,rfl⟩:=zK6 hd
      have kq:=xU7 hq
      have mk:=zS9 kq
      have sd:=yY7 (xs:=zs) (a:=r.getD (kx r.length q) 0) (by rw[hl];exact rn r mr _ mk) ((r.getD q 0:Nat):Int)
      refine⟨_,_,rfl,?_,zs.set (r.getD (kx r.length q) 0) ((r.getD q 0:Nat):Int),some (.int (q:Int)),by rw[List.length_set,hl],?_,?_,rfl⟩
      ·simp -implicitDefEqProofs only[(evA),at' q hq,at1 q hq,sd]
      ·intro i' hi' r' hr' q' hq'
       have ne:¬r.getD (kx r.length q) 0=r'.getD (kx r'.length q') 0:=fun z=>pw_flat nd hr' hr hi' _ (zS9 (xU7 hq')) (by rw[<-z];exact mk)
       rw[xI (by rw[hl];exact rn r mr _ mk),if_neg ne]
       exact hz i' hi' r' hr' q' hq'
      ·intro q' h1 h2
       rw[xI (by rw[hl];exact rn r mr _ mk)]
       by_cases z:q'=q
       ·subst z
        rw[if_pos rfl]
       ·have ne:¬r.getD (kx r.length q) 0=r.getD (kx r.length q') 0:=fun w=>z (wI6 hq h2 (xC5 nr kq (xU7 h2) w)).symm
        rw[if_neg ne]
        exact hz2 q' (by bv_omega) h2)
    refine⟨_,_,rfl,?_,zs,some (tI (rI' r)),y2,hl2,?_,rfl⟩
    ·show sF _ _ _ [some (rows (rs.map rI')),some (lI (rI' rs.flatten)),some (tI (rI' r)),some (lI ys),y]=_
     simp -implicitDefEqProofs only[(evA),lr,cJ (show r.length<=1000 by bv_omega)]
     exact e2
    ·rw[List.length_map,List.length_range] at hz2
     intro i' hi' r' hr' q' hq'
     by_cases z:i'=i
     ·subst z
      rw[hr] at hr'
      cases hr'
      exact hz2 q' hq' hq'
     ·exact hz i' (by bv_omega) r' hr' q' hq')
  refine⟨_,e,ys,x,y,hl,fun r hr q hq => ?_,rfl⟩
  obtain⟨i,hi,er⟩:=List.mem_iff_getElem.mp hr
  exact hy i (by rw[List.length_map,List.length_map];exact hi) r (by rw[List.getElem?_eq_getElem hi,er]) q hq
 obtain⟨ρ',e,ys,x,y,hl,hy,rfl⟩:=loop
 obtain⟨o,er⟩:=wY1 (xs:=ys) c p hl fun r hr j hj=>by
  have:=hy r hr ((j+1)%r.length) (Nat.mod_lt _ (by bv_omega))
  rw[wX2 hj] at this
  exact this
 refine⟨ys,o,er,?_⟩
 show (zR1 [some (rows (rs.map rI')),none,none,none,none]).bind (fin false)=_
 unfold zR1
 simp -implicitDefEqProofs only[(evA)]
 refine uO (fun i ρ=>ρ=[some (rows (rs.map rI')),some (lI (rI' (rs.take i).flatten)),(if i=0 then none else some (tI (rI' ((rs.take i).getLast?.getD [])))),none,none]) rfl ?_ ?_
 ·rintro i d ρ hd rfl
  rw[List.map_map,List.getElem?_map] at hd
  obtain⟨r,hr,rfl⟩:=Option.map_eq_some_iff.mp hd
  have mr:r∈rs:=List.mem_of_getElem? hr
  have r0:=pos r mr
  have tk:rs.take (i+1)=rs.take i ++ [r]:=by rw[List.take_succ,hr];rfl
  have lr:((rI' r).map PyData.int).length=r.length:=by rw[List.length_map,yM]
  have lt:(rs.take i).flatten.length+r.length<=n:=by
   have a:(rs.take (i+1)).flatten.length<=rs.flatten.length:=by
    conv=>rhs;rw[<-List.take_append_drop (i+1) rs]
    rw[List.flatten_append,List.length_append]
    bv_omega
   rw[tk,List.flatten_append,List.length_append,show [r].flatten=r by simp] at a
   bv_omega
  have ex:=yF2 (l:=(rI' (rs.take i).flatten).map PyData.int) (k:=(rI' r).map PyData.int) (d:=tI (rI' r)) rfl (by rw[List.length_map,List.length_map,yM,yM];bv_omega)
  refine⟨_,_,rfl,?_,rfl⟩
  show (sQ _ _) [some (rows (rs.map rI')),some (lI (rI' (rs.take i).flatten)),some (tI (rI' r)),none,none]=_
  simp -implicitDefEqProofs only[(evA),lr,vV,decide_eq_false (show ¬((r.length:Nat):Int)=0 by bv_omega),ex]
  rw[if_neg (by bv_omega),tk,List.flatten_append,List.getLast?_append,show [r].flatten=r by simp,yH6,lI,List.map_append]
  rfl
 ·rintro ρ rfl
  rw[List.length_map,List.length_map,List.take_length]
  have io:=yC4 (d:=lI (rI' rs.flatten)) (ys:=rI' rs.flatten) (.inl rfl)
  have pr:(rI' rs.flatten).Perm (rg n):=p.map _
  rw[decide_eq_true ⟨by rw[yM,lf];exact h1,by rw[yM,lf];exact h2,by rw[yM,lf];exact pr⟩] at io
  have r0:¬rs.length=0:=fun z=>by
   rw[List.eq_nil_of_length_eq_zero z] at lf
   simp at lf
   bv_omega
  rw[if_neg r0]
  have lb:((rI' rs.flatten).map PyData.int).length=n:=by rw[List.length_map,yM,lf]
  have rp:repL (.list [.int 0]) (.int ((n:Nat):Int))=some (lI (List.replicate n 0)):=by
   rw[bE _ _ (by bv_omega),lI,List.map_replicate]
  simp -implicitDefEqProofs only[(evA),io,show lfT false (PyData.bool true)=true by decide,lb,rp]
  rw[e]
  simp -implicitDefEqProofs only[(evA)]
theorem wN5 {k m:Nat}(hm:m<=60) (h:0<gn k m):DivOk ((gn k m:Nat):Int):=by
 refine⟨by bv_omega,?_⟩
 rw[Int.natAbs_natCast]
 refine Nat.lt_trans ((Nat.log2_lt (n:=gn k m) (k:=361) (by bv_omega)).mpr ?_) (by decide)
 exact Nat.lt_of_le_of_lt (Nat.le_trans (xB7 k m) (zQ9 m m hm)) (Nat.pow_lt_pow_right (by decide) (by bv_omega))
theorem xJ4 (r:List Nat) (b:Nat):(rI' r).contains (b:Int)=r.contains b:=by
 unfold rI'
 induction r with
 | nil=>rfl
 | cons a r ih =>
  rw[List.map_cons,List.contains_cons,List.contains_cons,ih]
  congr 1
  rw[Bool.eq_iff_iff]
  simp
  bv_omega
def gaT:Ev->Res Bool:=b2 geI (eV 6) (eF yR (aC (eV 3) (aC (eB lenD (aC (eV 5) aN)) (aC (eV 7) aN))))
def gaI:Ev->Res Out:=sQ (sS 6 (e2 subI (eV 6) (eF yR (aC (eV 3) (aC (eB lenD (aC (eV 5) aN)) (aC (eV 7) aN)))))) (sS 7 (e2 addI (eV 7) (eC (.int 1))))
def gaB:Ev->Res Out:=(sQ (sS 7 (eC (.int 1))) (sQ (sW 1000000 gaT gaI) (sQ (sS 8 (e2 ixD (eV 3) (e2 subI (eB lenD (aC (eV 5) aN)) (eV 7)))) (sQ (sS 9 (eF aK (aC (eV 5) (aC (eV 7) (aC (e2 fdivI (eV 6) (eV 8)) aN))))) (sQ (sM 4 appD (aC (eV 9) aN)) (sQ (sS 5 (eComp (iS (eV 5)) (b2 (inD true) (eV 0) (eV 1)) (eV 0) [9])) (sS 6 (e2 modI (eV 6) (eV 8)))))))))
theorem xH4 {n k N m j:Nat}{t:List Nat}{a:Nat}{u0 u1 u2 u4 u8 u9:Option D}(hn:n<=60) (ht:t.length<n) (hj:j<=t.length) (h1:smN (gn k) (t.length+1) j<=N) (h2:N-smN (gn k) (t.length+1) j<nf t.length j*gn k (t.length-j)) :
  whM gaT gaI 1000000 [u0,u1,u2,some (lI (M12.mbl 1 (k:Int) n)),u4,some (lI (rI' (a::t))),some (.int (N:Int)),some (.int 1),u8,u9]=.ok (.nx [u0,u1,u2,some (lI (M12.mbl 1 (k:Int) n)),u4,some (lI (rI' (a::t))),some (.int ((N-smN (gn k) (t.length+1) j:Nat):Int)),some (.int ((j+1:Nat):Int)),u8,u9]):=by
 have len0:((rI' (a::t)).map PyData.int).length=t.length+1:=by rw[List.length_map,yM];rfl
 obtain⟨ρ',e,rfl⟩:=yJ6 (t:=gaT) (b:=gaI) (fun i ρ=>ρ=[u0,u1,u2,some (lI (M12.mbl 1 (k:Int) n)),u4,some (lI (rI' (a::t))),some (.int ((N-smN (gn k) (t.length+1) i:Nat):Int)),some (.int ((i+1:Nat):Int)),u8,u9]) j 1000000
  [u0,u1,u2,some (lI (M12.mbl 1 (k:Int) n)),u4,some (lI (rI' (a::t))),some (.int (N:Int)),some (.int 1),u8,u9] rfl (by
   rintro i ρ hi rfl
   have mw:=vM (k:=k) (j:=i) hn ht (by bv_omega)
   have mo:=zG9 (gn k) (t.length+1) (i:=i+1) (j:=j) (by bv_omega)
   have e1:smN (gn k) (t.length+1) (i+1)=smN (gn k) (t.length+1) i+nf t.length i*gn k (t.length-i):=by rw[smN,Nat.add_sub_cancel,Nat.add_sub_add_right]
   unfold gaT gaI
   refine⟨?_,_,?_,rfl⟩
   ·simp -implicitDefEqProofs only[(evA),len0,mw,decide_eq_true (show ((nf t.length i*gn k (t.length-i):Nat):Int)<=((N-smN (gn k) (t.length+1) i:Nat):Int) by bv_omega)]
   ·simp -implicitDefEqProofs only[(evA),len0,mw]
    rw[show ((N-smN (gn k) (t.length+1) i:Nat):Int)-((nf t.length i*gn k (t.length-i):Nat):Int)=((N-smN (gn k) (t.length+1) (i+1):Nat):Int) by bv_omega]
    rfl) (by
   rintro ρ rfl
   have mw:=vM (k:=k) (j:=j) hn ht (by bv_omega)
   unfold gaT
   simp -implicitDefEqProofs only[(evA),len0,mw,decide_eq_false (show ¬((nf t.length j*gn k (t.length-j):Nat):Int)<=((N-smN (gn k) (t.length+1) j:Nat):Int) by bv_omega)]) (by bv_omega)
 exact e
theorem castS {a b:Nat}(h:b<=a):((a+1:Nat):Int)-((b+1:Nat):Int)=((a-b:Nat):Int):=by bv_omega
theorem yA8 {n k:Nat}{u0 u1 u2:Option D}(hn:n<=60):∀(m:Nat) (l:List Nat) (N:Nat) (done:List (List Nat)) (fuel:Nat) (u7 u8 u9:Option D),l.length<=m->l.length<fuel->l.Nodup->l.length<=n->N<gn k l.length->done.length+l.length<=n ->
  ∃rs v6 v7 v8 v9,Told k l N rs/\whM (b2 gtI (eB lenD (aC (eV 5) aN)) (eC (.int 0))) gaB fuel [u0,u1,u2,some (lI (M12.mbl 1 (k:Int) n)),some (rows (done.map rI')),some (lI (rI' l)),some (.int (N:Int)),u7,u8,u9]=.ok (.nx [u0,u1,u2,some (lI (M12.mbl 1 (k:Int) n)),some (rows ((done++rs).map rI')),some (lI []),v6,v7,v8,v9])
 | m,[],N,done,0,u7,u8,u9,_,h,_,_,_,_=>absurd h (by simp)
 | m,[],N,done,fuel+1,u7,u8,u9,_,_,_,_,hN,_=>by
  rw[List.length_nil,xW2] at hN
  have:N=0:=by bv_omega
  subst this
  refine⟨[],some (.int 0),u7,u8,u9,.nil,?_⟩
  rw[whM]
  have t1:b2 gtI (eB lenD (aC (eV 5) aN)) (eC (.int 0)) [u0,u1,u2,some (lI (M12.mbl 1 (k:Int) n)),some (rows (done.map rI')),some (lI (rI' [])),some (.int ((0:Nat):Int)),u7,u8,u9]=.ok false:=by
   have l0:((rI' []).map PyData.int).length=0:=rfl
   simp -implicitDefEqProofs only[(evA),l0,decide_eq_false (show ¬(0:Int)<((0:Nat):Int) by bv_omega)]
  rw[t1,Res.bind_ok,List.append_nil]
  rfl
 | 0,a::t,N,done,fuel,u7,u8,u9,h,_,_,_,_,_=>absurd h (by simp)
 | m+1,a::t,N,done,0,u7,u8,u9,_,h,_,_,_,_=>absurd h (by simp)
 | m+1,a::t,N,done,fuel+1,u7,u8,u9,hm,hf,nd,hl,hN,hd=>by
  rw[List.length_cons] at hm hf hl hN hd
  obtain⟨j,j1,j2,j3,j4⟩:=xK9 (a:=a) hN
  have len0:((rI' (a::t)).map PyData.int).length=t.length+1:=by rw[List.length_map,yM];rfl
  have ei:=xH4 (m:=m) (a:=a) (u0:=u0) (u1:=u1) (u2:=u2) (u4:=some (rows (done.map rI'))) (u8:=u8) (u9:=u9) hn hl j1 j3 j4
  generalize hR:N-smN (gn k) (t.length+1) j=R at ei j4
  have gp:0<gn k (t.length-j):=by
   rcases Nat.eq_zero_or_pos (gn k (t.length-j)) with z | z
   ·rw[z] at j4;bv_omega
   ·exact z
  have pl:R / gn k (t.length-j)<nf t.length j:=Nat.div_lt_of_lt_mul (by rw[Nat.mul_comm];exact j4)
  have tl:=(List.nodup_cons.mp nd).2
  obtain⟨p1,p2,p3⟩:=xA1 j t _ tl j1 pl
  have pkl:=yM8 j t (R / gn k (t.length-j))
  have ra:=xW7 (a:=a) (t:=t) (Nat.lt_of_lt_of_le hl hn) j1 pl
  generalize hp:pk j t (R / gn k (t.length-j))=ps at p1 p2 p3 pkl ra
  obtain⟨n1,n2⟩:=zC6 nd p1 p2
  have wl:(wo (a::t) (a::ps)).length=t.length-j:=by rw[wL3 nd n1 n2,List.length_cons,List.length_cons,pkl];bv_omega
  have lm:=M12.xH 1 (k:Int) n
  have at1:=qX (xs:=M12.mbl 1 (k:Int) n) (i:=((t.length+1:Nat):Int)-((j+1:Nat):Int)) (j:=t.length-j) (castS j1) (by rw[lm];exact Nat.lt_succ_of_le (Nat.le_trans (Nat.sub_le _ _) (Nat.le_of_lt hl)))
  rw[M12.vH 1 (k:Int) n (t.length-j) (Nat.le_trans (Nat.sub_le _ _) (Nat.le_of_lt hl)),jF] at at1
  have dr:fdivO (R:Int) ((gn k (t.length-j):Nat):Int)=some ((R / gn k (t.length-j):Nat):Int):=by
   unfold fdivO
   rw[if_pos (wN5 (Nat.le_trans (Nat.sub_le _ _) (Nat.le_trans (Nat.le_of_lt hl) hn)) gp)]
   rfl
  have mr:modO (R:Int) ((gn k (t.length-j):Nat):Int)=some ((R%gn k (t.length-j):Nat):Int):=by
   unfold modO
   rw[if_pos (Int.natCast_pos.mpr gp)]
   rfl
  have ap:appD ((done.map rI').map tI) [tI (rI' (a::ps))]=some (((done ++ [a::ps]).map rI').map tI):=by
   rw[bR (by rw[List.length_map,List.length_map];bv_omega),List.map_append,List.map_append]
   rfl
  have cc:∀(x4 x6:Option D),eComp (iS (eV 5)) (b2 (inD true) (eV 0) (eV 1)) (eV 0) [9] [u0,u1,u2,some (lI (M12.mbl 1 (k:Int) n)),x4,some (lI (rI' (a::t))),x6,some (.int ((j+1:Nat):Int)),some (.int ((gn k (t.length-j):Nat):Int)),some (tI (rI' (a::ps)))]=.ok (lI (rI' (wo (a::t) (a::ps)))):=fun x4 x6=>by
   rw[zV7 (fun b:Nat=>PyData.int (b:Int)) (fun b=>!(a::ps).contains b) (fun b:Nat=>PyData.int (b:Int)) (a::t) (by
    simp -implicitDefEqProofs only[(evA)]
    unfold rI'
    rw[List.map_map]
    rfl) (Nat.le_trans (Nat.succ_le_of_lt (Nat.lt_of_lt_of_le hl hn)) (by decide)) (fun b hb=>by
    show b2 (inD true) (eV 0) (eV 1) [some (.int (b:Int)),some (tI (rI' (a::ps)))]=_
    simp -implicitDefEqProofs only[(evA),xA3,xJ4]) (fun b hb _=>rfl)]
   unfold wo rI' lI
   rw[List.map_map]
   rfl
  have body:gaB [u0,u1,u2,some (lI (M12.mbl 1 (k:Int) n)),some (rows (done.map rI')),some (lI (rI' (a::t))),some (.int (N:Int)),u7,u8,u9]=.ok (.nx [u0,u1,u2,some (lI (M12.mbl 1 (k:Int) n)),some (rows ((done ++ [a::ps]).map rI')),some (lI (rI' (wo (a::t) (a::ps)))),some (.int ((R%gn k (t.length-j):Nat):Int)),some (.int ((j+1:Nat):Int)),some (.int ((gn k (t.length-j):Nat):Int)),some (tI (rI' (a::ps)))]):=by
   unfold gaB
   simp -implicitDefEqProofs only[(evA),ei,len0,at1,dr,ra,ap,cc,mr]
  obtain⟨rs,v6,v7,v8,v9,T,e⟩:=yA8 hn m (wo (a::t) (a::ps)) (R%gn k (t.length-j)) (done ++ [a::ps]) fuel (some (.int ((j+1:Nat):Int))) (some (.int ((gn k (t.length-j):Nat):Int))) (some (tI (rI' (a::ps)))) (by bv_omega) (by bv_omega) (nd.sublist (zW3 _ _)) (by bv_omega) (by rw[wl];exact Nat.mod_lt _ gp) (by rw[List.length_append,wl];simp;bv_omega)
  have T':=Told.cons (k:=k) (a:=a) (t:=t) (xs:=ps) (by rw[pkl];exact j2) p1 p2 T
  have dm:=Nat.div_add_mod R (gn k (t.length-j))
  rw[pkl,p3,show smN (gn k) (t.length+1) j+R / gn k (t.length-j)*gn k (t.length-j)+R%gn k (t.length-j)=N by rw[Nat.mul_comm (R / _)];bv_omega] at T'
  refine⟨(a::ps)::rs,v6,v7,v8,v9,T',?_⟩
  have t1:b2 gtI (eB lenD (aC (eV 5) aN)) (eC (.int 0)) [u0,u1,u2,some (lI (M12.mbl 1 (k:Int) n)),some (rows (done.map rI')),some (lI (rI' (a::t))),some (.int (N:Int)),u7,u8,u9]=.ok true:=by
   simp -implicitDefEqProofs only[(evA),len0,decide_eq_true (show (0:Int)<((t.length+1:Nat):Int) from Int.natCast_pos.mpr (Nat.succ_pos _))]
  rw[whM,t1,Res.bind_ok,if_pos rfl,body,Res.bind_ok]
  simp only
  rw[e,List.append_assoc]
  rfl
theorem xS1 {n k N:Nat}(h1:1<=n) (h2:n<=60) (hN:N<gn k n):∃xs,Ord n xs/\Told k (List.range n) N (rgs n xs n)/\zO6 [.int (n:Int),.int (k:Int),.int (N:Int)]=.ok (tI xs):=by
 obtain⟨rs,v6,v7,v8,v9,T,e⟩:=yA8 (n:=n) (k:=k) (u0:=some (.int (n:Int))) (u1:=some (.int (k:Int))) (u2:=some (.int (N:Int))) h2 n (List.range n) N [] 1000000 none none none (by simp) (by simp;bv_omega) List.nodup_range (by simp) (by simpa using hN) (by simp)
 have pw:(List.range n).Pairwise (· < ·):=List.pairwise_lt_range
 obtain⟨xs,o,er,eo⟩:=zH7 (yI5 T pw).1 (yT6 T List.nodup_range) h1 h2
 refine⟨xs,o,by rw[er];exact T,?_⟩
 show (zO4 [some (.int (n:Int)),some (.int (k:Int)),some (.int (N:Int)),none,none,none,none,none,none,none]).bind (fin false)=_
 unfold zO4
 have rl:rangeL [.int (n:Int)]=some (lI (rI' (List.range n))):=zU6 (by bv_omega)
 have lm:=M12.xH 1 (k:Int) n
 have at1:=qX (xs:=M12.mbl 1 (k:Int) n) (i:=(n:Int)) (j:=n) rfl (by bv_omega)
 rw[M12.vH 1 (k:Int) n n (Nat.le_refl _),jF] at at1
 simp -implicitDefEqProofs only[(evA),vV,decide_eq_false (show ¬(n:Int)=0 by bv_omega),wG h2 (show 0<=(k:Int) by bv_omega),wJ 1 h2 (show 0<=(k:Int) by bv_omega),at1,decide_eq_true (show (0:Int)<=(N:Int) by bv_omega),decide_eq_true (show (N:Int)<((gn k n:Nat):Int) by bv_omega),rl]
 have e':whM (b2 gtI (eB lenD (aC (eV 5) aN)) (eC (.int 0))) gaB 1000000 [some (.int (n:Int)),some (.int (k:Int)),some (.int (N:Int)),some (lI (M12.mbl 1 (k:Int) n)),some (.list []),some (lI (rI' (List.range n))),some (.int (N:Int)),none,none,none]=_:=e
 unfold gaB gaT gaI at e'
 rw[e']
 simp -implicitDefEqProofs only[(evA),List.nil_append,eo,wJ8]
abbrev RX:Ev->Res Out:=sRa "NoNumber" (aC (eC (.str "the order is not good")) aN)
theorem zL2:∀(l:List Nat) (x:Nat),x∈l->((rI' l).findIdx? fun a=>a == (x:Int))=some (l.idxOf x)
 | [],x,h=>nomatch h
 | a::l,x,h=>by
  show ((((a:Nat):Int)::rI' l).findIdx? fun b=>b == (x:Int))=_
  rw[List.findIdx?_cons,List.idxOf_cons]
  by_cases e:a=x
  ·subst e
   rw[show (((a:Nat):Int) == (a:Int))=true by simp,show (a == a)=true by simp]
   rfl
  ·have h':x∈l:=by
    rcases List.mem_cons.mp h with z | z
    ·exact absurd z.symm e
    ·exact z
   rw[show (((a:Nat):Int) == (x:Int))=false by simp;bv_omega,show (a == x)=false by simpa using e,zL2 l x h']
   rfl
theorem wL4 {l:List Nat}{x:Nat}(h:x∈l) (hl:l.length<=1000):ixDD ((rI' l).map PyData.int) (.int (x:Int))=some (.int ((l.idxOf x:Nat):Int)):=by
 unfold ixDD
 rw[if_pos ⟨rfl,by rw[List.all_map];exact List.all_eq_true.mpr fun _ _=>rfl,by rw[List.length_map,yM];exact hl⟩,List.findIdx?_map]
 rw[show ((fun z=>eqF z (PyData.int (x:Int)))∘PyData.int)=fun a:Int=>a == (x:Int) from funext fun a=>rfl,zL2 l x h]
 rfl
theorem xF9 {l:List Nat}{x:Nat}(h:x∈l):l.getD (l.idxOf x) 0=x:=by
 have li:=List.idxOf_lt_length_iff.mpr h
 rw[List.getD,List.getElem?_eq_getElem li]
 simp
theorem wO4 {l:List Nat}{x:Nat}(nd:l.Nodup) (h:x∈l):remD ((rI' l).map PyData.int) [.int (x:Int)]=some ((rI' (l.erase x)).map PyData.int):=by
 unfold remD
 simp only
 have li:=List.idxOf_lt_length_iff.mpr h
 have e2:=(yW5 l (l.idxOf x) nd li).2
 rw[xF9 h] at e2
 rw[intsOf_map,Option.bind_some,zL2 l x h,e2,Option.map_some,xA2]
theorem wS4 {xs:List Nat}{i x:Nat}(h:xs[i]?=some x):xs.drop i=x::xs.drop (i+1):=by
 have hi:i<xs.length:=(List.getElem?_eq_some_iff.mp h).1
 rw[List.drop_eq_getElem_cons hi]
 congr 1
 exact (List.getElem?_eq_some_iff.mp h).2
theorem yP9 {a:Nat}{t xs:List Nat}(ht:t.length<60) (nt:t.Nodup) (nx:xs.Nodup) (hs:∀x∈xs,x∈t):gK [lI (rI' (a::t)),tI (rI' (a::xs))]=.ok (.int ((pr' t xs:Nat):Int)):=by
 show (bV [some (lI (rI' (a::t))),some (tI (rI' (a::xs))),none,none,none]).bind (fin false)=_
 unfold bV
 have cut:∀l:List Nat,cutD ((rI' (a::l)).map PyData.int) (some 1) none=(rI' l).map PyData.int:=fun l=>by
  rw[yK6,show (1:Int)=((1:Nat):Int) from rfl,cF]
  rfl
 simp -implicitDefEqProofs only[(evA),cut]
 refine uO (fun i ρ=>∃(l:List Nat) (b:Nat) (w:Option D),l.Nodup/\l.length<=t.length/\(∀x∈xs.drop i,x∈l)/\b*nf l.length (xs.length-i)+pr' l (xs.drop i)=pr' t xs/\ρ=[some (lI (rI' (a::t))),some (tI (rI' (a::xs))),some (.int (b:Int)),some (lI (rI' l)),w])
  ⟨t,0,none,nt,Nat.le_refl _,hs,by rw[Nat.zero_mul,Nat.zero_add,List.drop_zero],rfl⟩ ?_ ?_
 ·rintro i d ρ hd ⟨l,b,w,nl,ll,hl,e,rfl⟩
  unfold rI' at hd
  rw[List.map_map,List.getElem?_map] at hd
  obtain⟨x,hx,rfl⟩:=Option.map_eq_some_iff.mp hd
  have dr:=wS4 hx
  have hi:i<xs.length:=(List.getElem?_eq_some_iff.mp hx).1
  have nd:=List.Pairwise.drop (i:=i) nx
  rw[dr] at hl e nd
  have mx:=hl x (List.mem_cons_self ..)
  have le:(l.erase x).length=l.length-1:=List.length_erase_of_mem mx
  have lp:0<l.length:=List.length_pos_of_mem mx
  refine⟨_,_,rfl,?_,l.erase x,b*l.length+l.idxOf x,some (.int (x:Int)),nl.erase x,by bv_omega,yL3 nd hl,?_,rfl⟩
  ·have m1:=xA (i:=(b:Int)) (j:=((l.length:Nat):Int)) (MulOk.right (by bv_omega) (by bv_omega))
   have lm:((rI' l).map PyData.int).length=l.length:=by rw[List.length_map,yM]
   show sQ _ _ [some (lI (rI' (a::t))),some (tI (rI' (a::xs))),some (.int (b:Int)),some (lI (rI' l)),some (.int (x:Int))]=_
   simp -implicitDefEqProofs only[(evA),lm,m1,wL4 mx (show l.length<=1000 by bv_omega),wO4 nl mx]
   rw[Int.natCast_add,Int.natCast_mul]
  ·obtain⟨j,hj⟩:∃j,xs.length-i=j+1:=⟨xs.length-i-1,by bv_omega⟩
   have hj2:xs.length-(i+1)=j:=by bv_omega
   have hj3:(xs.drop (i+1)).length=j:=by rw[List.length_drop];bv_omega
   rw[hj,nf,pr',hj3] at e
   rw[hj2,le,<-e,Nat.add_mul,<-Nat.mul_assoc,Nat.add_assoc]
 ·rintro ρ ⟨l,b,w,nl,ll,hl,e,rfl⟩
  rw[List.length_map,yM,Nat.sub_self,List.drop_length,nf,pr',Nat.mul_one,Nat.add_zero] at e
  subst e
  simp -implicitDefEqProofs only[(evA)]
def gnB:Ev->Res Out:=(sQ (sF (iR rng2 (aC (eC (.int 1)) (aC (eB lenD (aC (eV 5) aN)) aN))) (gN 6) (sS 3 (e2 addI (eV 3) (eF yR (aC (eV 2) (aC (eB lenD (aC (eV 4) aN)) (aC (eV 6) aN))))))) (sQ (sS 3 (e2 addI (eV 3) (e2 mulI (eF gK (aC (eV 4) (aC (eV 5) aN))) (e2 ixD (eV 2) (e2 subI (eB lenD (aC (eV 4) aN)) (eB lenD (aC (eV 5) aN))))))) (sS 4 (eComp (iS (eV 4)) (b2 (inD true) (eV 0) (eV 1)) (eV 0) [5]))))
theorem wL2 {n k c a:Nat}{t xs:List Nat}{u0 u1 u6:Option D}(hn:n<=60) (ht:t.length<n) (nd:(a::t).Nodup) (nx:xs.Nodup) (hs:∀x∈xs,x∈t):∃v6,
  gnB [u0,u1,some (lI (M12.mbl 1 (k:Int) n)),some (.int (c:Int)),some (lI (rI' (a::t))),some (tI (rI' (a::xs))),u6]=.ok (.nx [u0,u1,some (lI (M12.mbl 1 (k:Int) n)),some (.int ((c+(smN (gn k) (t.length+1) xs.length+pr' t xs*gn k (t.length-xs.length)):Nat):Int)),some (lI (rI' (wo (a::t) (a::xs)))),some (tI (rI' (a::xs))),v6]):=by
 have tl:=(List.nodup_cons.mp nd).2
 have xl:=xY5 xs t nx hs
 have t60:=Nat.lt_of_lt_of_le ht hn
 have tn:=Nat.le_trans (Nat.sub_le t.length xs.length) (Nat.le_of_lt ht)
 have len0:((rI' (a::t)).map PyData.int).length=t.length+1:=by rw[List.length_map,yM];rfl
 have len1:((rI' (a::xs)).map PyData.int).length=xs.length+1:=by rw[List.length_map,yM];rfl
 have rg:=bY (a:=1) (b:=xs.length+1) (by decide) (Nat.le_trans (Nat.succ_le_of_lt (Nat.lt_of_le_of_lt xl t60)) (by decide))
 rw[show ((1:Nat):Int)=1 from rfl,Nat.add_sub_cancel] at rg
 obtain⟨ρ',e,v6,rfl⟩:=vW (g:=gN 6) (b:=sS 3 (e2 addI (eV 3) (eF yR (aC (eV 2) (aC (eB lenD (aC (eV 4) aN)) (aC (eV 6) aN))))))
  (fun i ρ=>∃v6,ρ=[u0,u1,some (lI (M12.mbl 1 (k:Int) n)),some (.int ((c+smN (gn k) (t.length+1) i:Nat):Int)),some (lI (rI' (a::t))),some (tI (rI' (a::xs))),v6])
  ((List.range xs.length).map fun (i:Nat)=>PyData.int ((1+i:Nat):Int)) [u0,u1,some (lI (M12.mbl 1 (k:Int) n)),some (.int (c:Int)),some (lI (rI' (a::t))),some (tI (rI' (a::xs))),u6] ⟨u6,rfl⟩ (by
   rintro i d ρ hd ⟨v6,rfl⟩
   obtain⟨hi,rfl⟩:=uB hd
   have mw:=vM (n:=n) (k:=k) (m:=t.length) (j:=i) hn ht (Nat.le_trans (Nat.le_of_lt hi) xl)
   refine⟨_,_,rfl,?_,some (.int ((i+1:Nat):Int)),rfl⟩
   rw[Nat.add_comm 1 i]
   simp -implicitDefEqProofs only[(evA),len0,mw]
   rw[smN,Nat.add_sub_cancel,Nat.add_sub_add_right,<-Nat.add_assoc,Int.natCast_add (c+_)])
 rw[List.length_map,List.length_range] at e
 refine⟨v6,?_⟩
 have lm:=M12.xH 1 (k:Int) n
 have at1:=qX (xs:=M12.mbl 1 (k:Int) n) (i:=((t.length+1:Nat):Int)-((xs.length+1:Nat):Int)) (j:=t.length-xs.length) (castS xl) (by rw[lm];exact Nat.lt_succ_of_le tn)
 rw[M12.vH 1 (k:Int) n (t.length-xs.length) tn,jF] at at1
 have rp:=yP9 (a:=a) (t:=t) (xs:=xs) t60 tl nx hs
 have pl:=xA5 xs t tl nx hs
 have sp:Small ((pr' t xs:Nat):Int):=⟨361,by decide,by
  rw[Int.natAbs_natCast]
  exact Nat.lt_of_lt_of_le pl (Nat.le_trans (zQ9 xs.length t.length (Nat.le_of_lt t60)) (Nat.pow_le_pow_right (by decide) (by bv_omega)))⟩
 have m1:=xA (i:=((pr' t xs:Nat):Int)) (j:=((gn k (t.length-xs.length):Nat):Int)) (.inr ⟨sp,by rw[<-jF];exact zI3 (Nat.le_trans tn hn)⟩)
 have cc:∀(x3 x6:Option D),eComp (iS (eV 4)) (b2 (inD true) (eV 0) (eV 1)) (eV 0) [5] [u0,u1,some (lI (M12.mbl 1 (k:Int) n)),x3,some (lI (rI' (a::t))),some (tI (rI' (a::xs))),x6]=.ok (lI (rI' (wo (a::t) (a::xs)))):=fun x3 x6=>by
  rw[zV7 (fun b:Nat=>PyData.int (b:Int)) (fun b=>!(a::xs).contains b) (fun b:Nat=>PyData.int (b:Int)) (a::t) (by
   simp -implicitDefEqProofs only[(evA)]
   unfold rI'
   rw[List.map_map]
   rfl) (Nat.le_trans (Nat.succ_le_of_lt t60) (by decide)) (fun b hb=>by
   show b2 (inD true) (eV 0) (eV 1) [some (.int (b:Int)),some (tI (rI' (a::xs)))]=_
   simp -implicitDefEqProofs only[(evA),xA3,xJ4]) (fun b hb _=>rfl)]
  unfold wo rI' lI
  rw[List.map_map]
  rfl
 unfold gnB
 simp -implicitDefEqProofs only[(evA),len0,len1,rg]
 rw[e]
 simp -implicitDefEqProofs only[(evA),rp,len0,len1,at1,m1,cc]
 rw[<-Nat.add_assoc,Int.natCast_add (c+_),Int.natCast_mul]
theorem wV3 {n k:Nat}{u0:Option D}(hn:n<=60){l:List Nat}{N:Nat}{rs:List (List Nat)}(T:Told k l N rs):∀(c:Nat) (u5 u6:Option D),l.Nodup->l.length<=n ->
  ∃v5 v6,L3.forM (gN 5) (sQ (sIf (b2 gtI (eB lenD (aC (eV 5) aN)) (eV 1)) RX sN) gnB) (rs.map fun r=>tI (rI' r)) [u0,some (.int (k:Int)),some (lI (M12.mbl 1 (k:Int) n)),some (.int (c:Int)),some (lI (rI' l)),u5,u6]=.ok (.nx [u0,some (.int (k:Int)),some (lI (M12.mbl 1 (k:Int) n)),some (.int ((c+N:Nat):Int)),some (lI []),v5,v6]):=by
 induction T with
 | nil=>exact fun c u5 u6 _ _=>⟨u5,u6,rfl⟩
 | @cons a t xs M rs h1 h2 h3 T ih =>
  intro c u5 u6 nd hl
  rw[List.length_cons] at hl
  obtain⟨w6,eb⟩:=wL2 (k:=k) (c:=c) (u0:=u0) (u1:=some (.int (k:Int))) (u6:=u6) hn (show t.length<n by bv_omega) nd h2 h3
  obtain⟨v5,v6,e⟩:=ih (c+(smN (gn k) (t.length+1) xs.length+pr' t xs*gn k (t.length-xs.length))) (some (tI (rI' (a::xs)))) w6 (nd.sublist (zW3 _ _)) (by
   have:=(zW3 (a::t) (a::xs)).length_le
   rw[List.length_cons] at this
   bv_omega)
  have len1:((rI' (a::xs)).map PyData.int).length=xs.length+1:=by rw[List.length_map,yM];rfl
  refine⟨v5,v6,?_⟩
  rw[List.map_cons,L3.forM]
  have g1:gN 5 (tI (rI' (a::xs))) [u0,some (.int (k:Int)),some (lI (M12.mbl 1 (k:Int) n)),some (.int (c:Int)),some (lI (rI' (a::t))),u5,u6]=some [u0,some (.int (k:Int)),some (lI (M12.mbl 1 (k:Int) n)),some (.int (c:Int)),some (lI (rI' (a::t))),some (tI (rI' (a::xs))),u6]:=rfl
  have b1:sQ (sIf (b2 gtI (eB lenD (aC (eV 5) aN)) (eV 1)) RX sN) gnB [u0,some (.int (k:Int)),some (lI (M12.mbl 1 (k:Int) n)),some (.int (c:Int)),some (lI (rI' (a::t))),some (tI (rI' (a::xs))),u6]=gnB [u0,some (.int (k:Int)),some (lI (M12.mbl 1 (k:Int) n)),some (.int (c:Int)),some (lI (rI' (a::t))),some (tI (rI' (a::xs))),u6]:=by
   simp -implicitDefEqProofs only[(evA),len1,decide_eq_false (show ¬(k:Int)<((xs.length+1:Nat):Int) by bv_omega)]
  rw[g1,Res.lft_some,Res.bind_ok,b1,eb,Res.bind_ok]
  simp only
  rw[e,Nat.add_assoc c]
theorem yX9 {n k N:Nat}{xs:List Int}(o:Ord n xs) (h2:n<=60) (T:Told k (List.range n) N (rgs n xs n)):kQ [tI xs,.int (k:Int)]=.ok (.int (N:Int)):=by
 show (dG [some (tI xs),some (.int (k:Int)),none,none,none,none,none]).bind (fin false)=_
 have hl:(xs.map PyData.int).length=n:=by rw[List.length_map,o.len]
 have rl:rangeL [.int (n:Int)]=some (lI (rI' (List.range n))):=zU6 (by bv_omega)
 obtain⟨v5,v6,e⟩:=wV3 (n:=n) (u0:=some (tI xs)) h2 T 0 none none List.nodup_range (by simp)
 rw[Nat.zero_add] at e
 have er:=uU o (show n<=1000 by bv_omega)
 unfold dG
 simp -implicitDefEqProofs only[(evA),hl,wG h2 (show 0<=(k:Int) by bv_omega),wJ 1 h2 (show 0<=(k:Int) by bv_omega),rl,er]
 rw[List.map_map]
 unfold gnB RX at e
 have e':L3.forM _ _ (List.map (tI∘rI') (rgs n xs n)) [some (tI xs),some (.int (k:Int)),some (lI (M12.mbl 1 (k:Int) n)),some (.int 0),some (lI (rI' (List.range n))),none,none]=_:=e
 rw[e']
 simp -implicitDefEqProofs only[(evA)]
theorem zL3 {n:Nat}{xs:List Int}(hl:xs.length=n){b:Int}(h:0<=b/\b<n):fD [tI xs,.int b]=.ok .none:=by
 show (aB [some (tI xs),some (.int b)]).bind (fin false)=_
 unfold aB
 have hl':(xs.map PyData.int).length=n:=by rw[List.length_map,hl]
 simp -implicitDefEqProofs only[(evA),hl',decide_eq_true h.1,decide_eq_true h.2]
theorem yJ9 {n:Nat}{xs:List Int}(o:Ord n xs) (hn:n<=60){a b:Nat}(ha:a<n) (hb:b<n) (hab:a≠b):fC [tI xs,.int (a:Int),.int (b:Int)]=.ok (tI (swO xs a b)):=by
 have e1:=zL3 o.len (b:=(a:Int)) ⟨by bv_omega,by bv_omega⟩
 have e2:=zL3 o.len (b:=(b:Int)) ⟨by bv_omega,by bv_omega⟩
 show (zZ5 [some (tI xs),some (.int (a:Int)),some (.int (b:Int)),none]).bind (fin false)=_
 unfold zZ5
 have hl:=o.len
 have a1:=qX (xs:=xs) (i:=(a:Int)) (j:=a) rfl (by bv_omega)
 have a2:=qX (xs:=xs) (i:=(b:Int)) (j:=b) rfl (by bv_omega)
 have s1:=yY7 (xs:=xs) (a:=a) (by bv_omega) (xs.getD b 0)
 have s2:=yY7 (xs:=xs.set a (xs.getD b 0)) (a:=b) (by rw[List.length_set];bv_omega) (xs.getD a 0)
 simp -implicitDefEqProofs only[(evA),e1,e2,vV,decide_eq_false (show ¬(a:Int)=(b:Int) by bv_omega),a1,a2,s1,s2]
 rfl
theorem xZ2 {n:Nat}{xs:List Int}(hl:xs.length=n){k:Int}(h1:1<=k) (h2:k<=n):gX [tI xs,.int k]=.ok .none:=by
 show (bZ [some (tI xs),some (.int k)]).bind (fin false)=_
 unfold bZ
 have hl':(xs.map PyData.int).length=n:=by rw[List.length_map,hl]
 simp -implicitDefEqProofs only[(evA),hl',decide_eq_true (show 0<=k by bv_omega),decide_eq_true h2,vV,decide_eq_false (show ¬k=0 by bv_omega)]
theorem yC7 (f:List Nat->Nat):∀L:List (List Nat),(L.map fun r=>((f r:Nat):Int)).sum=(((L.map f).sum:Nat):Int)
 | []=>rfl
 | r::L=>by rw[List.map_cons,List.sum_cons,yC7 f L,List.map_cons,List.sum_cons,Int.natCast_add]
theorem bP {n k:Nat}{xs:List Int}(o:Ord n xs) (hn:n<=60) (h1:1<=k) (h2:k<=60):qN [tI xs,.int (k:Int)]=.ok (.int ((ND n k xs:Nat):Int)):=by
 show (gW [some (tI xs),some (.int (k:Int))]).bind (fin false)=_
 unfold gW
 have lr:=zF7 (n:=n) (xs:=xs) n
 have cc:eComp (iS (eF yL (aC (eV 0) aN))) tYes (e2 fdivI (e2 subI (eB lenD (aC (eV 0) aN)) (eC (.int 1))) (eV 1)) [1] [some (tI xs),some (.int (k:Int))]=.ok (lI ((rgs n xs n).map fun r=>((fN k r.length:Nat):Int))):=by
  rw[xJ (fun r:List Nat=>tI (rI' r)) (fun r=>PyData.int ((fN k r.length:Nat):Int)) (rgs n xs n) (by
   simp -implicitDefEqProofs only[(evA),uU o (show n<=1000 by bv_omega)]
   rw[List.map_map]
   rfl) (by bv_omega) fun r hr=>by
   obtain⟨b,hb,rfl,_⟩:=(o.wM n (Nat.le_refl n)).each r hr
   have p1:=(o.yK hb).1
   have hl:((rI' (ring n xs b)).map PyData.int).length=per n xs b:=by rw[List.length_map,yM,yS]
   have dv:(((per n xs b:Nat):Int)-1) / (k:Int)=((fN k (ring n xs b).length:Nat):Int):=by
    rw[yS,show ((per n xs b:Nat):Int)-1=((per n xs b-1:Nat):Int) by bv_omega]
    rfl
   show e2 fdivI _ _ [some (tI (rI' (ring n xs b))),some (.int (k:Int))]=_
   simp -implicitDefEqProofs only[(evA),hl,fdivO,if_pos (DivOk.small (show (0:Int)<(k:Int) by bv_omega) (by bv_omega)),dv]]
  rw[lI,List.map_map]
  rfl
 simp -implicitDefEqProofs only[(evA),cc,xY8]
 rw[yC7 (fun r=>fN k r.length)]
 rfl
theorem wV4 {n k:Nat}{xs:List Int}(o:Ord n xs) (hn:n<=60) (h1:1<=k) (h2:k<=n):yK1 [tI xs,.int (k:Int)]=.ok (.int ((ND n k xs:Nat):Int)):=by
 show (yM5 [some (tI xs),some (.int (k:Int))]).bind (fin false)=_
 unfold yM5
 simp -implicitDefEqProofs only[(evA),xZ2 o.len (k:=(k:Int)) (by bv_omega) (by bv_omega),bP o hn h1 (show k<=60 by bv_omega)]
abbrev pL (q:Nat×Nat):List Int:=[((q.1:Nat):Int),((q.2:Nat):Int)]
theorem xL8:∀k:Nat,k<61->∀l:Nat,l<61->1<=k->StepOk (k:Int) (l:Int) (k:Int)/\Builtin.Range.rangeSize (k:Int) (l:Int) (k:Int)=((fN k l:Nat):Int):=by decide +kernel
theorem xP1 {k l:Nat}(h1:1<=k) (h2:k<=60) (h3:l<=60):rng3 [.int (k:Int),.int (l:Int),.int (k:Int)]=some ((List.range (fN k l)).map fun (m:Nat)=>PyData.int (((m+1)*k:Nat):Int)):=by
 obtain⟨ok,sz⟩:=xL8 k (Nat.lt_succ_of_le h2) l (Nat.lt_succ_of_le h3) h1
 unfold rng3
 simp only
 rw[if_pos ok,sz,Int.toNat_natCast]
 congr 1
 refine List.map_congr_left fun m _ => ?_
 congr 1
 rw[Nat.add_mul,Nat.one_mul,Int.natCast_add,Int.natCast_mul,Int.add_comm]
theorem yL1 {n k:Nat}{xs:List Int}(o:Ord n xs):∀j,(((rgs n xs n).take j).flatMap (pr k)).length<=n:=fun j=>by
 have a:∀L:List (List Nat),(L.flatMap (pr k)).length<=L.flatten.length:=fun L=>by
  induction L with
  | nil=>exact Nat.le_refl _
  | cons r L ih =>
   rw[List.flatMap_cons,List.length_append,List.flatten_cons,List.length_append]
   have:(pr k r).length<=r.length:=by
    unfold pr
    rw[List.length_map,List.length_range]
    exact Nat.le_trans (Nat.div_le_self ..) (Nat.sub_le ..)
   bv_omega
 have b:=a ((rgs n xs n).take j)
 have c:((rgs n xs n).take j).flatten.length<=(rgs n xs n).flatten.length:=by
  conv=>rhs;rw[<-List.take_append_drop j (rgs n xs n)]
  rw[List.flatten_append,List.length_append]
  bv_omega
 rw[(flatP o).length_eq,List.length_range] at c
 bv_omega
theorem zL7 {n k:Nat}{xs:List Int}(o:Ord n xs) (hn:n<=60) (h1:1<=k) (h2:k<=n):qS [tI xs,.int (k:Int)]=.ok (rows ((told n k xs).map pL)):=by
 show (aA [some (tI xs),some (.int (k:Int)),none,none]).bind (fin true)=_
 unfold aA
 have er:=uU o (show n<=1000 by bv_omega)
 have lr:=zF7 (n:=n) (xs:=xs) n
 simp -implicitDefEqProofs only[(evA),xZ2 o.len (k:=(k:Int)) (by bv_omega) (by bv_omega),er]
 refine uO (fun i ρ=>∃y,ρ=[some (tI xs),some (.int (k:Int)),some (rows ((((rgs n xs n).take i).flatMap (pr k)).map pL)),y]) ⟨none,rfl⟩ ?_ ?_
 ·rintro i d ρ hd ⟨y,rfl⟩
  rw[List.map_map,List.getElem?_map] at hd
  obtain⟨r,hr,rfl⟩:=Option.map_eq_some_iff.mp hd
  obtain⟨b,hb,rfl,_⟩:=(o.wM n (Nat.le_refl n)).each r (List.mem_of_getElem? hr)
  obtain⟨p1,p2,_,_⟩:=o.yK hb
  have e1:(rgs n xs n).take (i+1)=(rgs n xs n).take i ++ [ring n xs b]:=by rw[List.take_succ,hr];rfl
  have few:=yL1 (k:=k) o (i+1)
  rw[e1,List.flatMap_append,List.length_append] at few
  have hl:((rI' (ring n xs b)).map PyData.int).length=per n xs b:=by rw[List.length_map,yM,yS]
  have at':∀q,q<per n xs b->atI ((rI' (ring n xs b)).map PyData.int) (q:Int)=some (.int (((ring n xs b).getD q 0:Nat):Int)):=fun q hq=>by
   refine zW4 ?_
   unfold rI'
   rw[List.map_map,List.getElem?_map,List.getD,List.getElem?_eq_getElem (by rw[yS];exact hq)]
   rfl
  have cc:eComp (iR rng3 (aC (eV 1) (aC (eB lenD (aC (eV 3) aN)) (aC (eV 1) aN)))) tYes (eB mkT (aC (e2 ixD (eV 1) (eC (.int 0))) (aC (e2 ixD (eV 1) (eV 0)) aN))) [3] [some (tI xs),some (.int (k:Int)),some (rows ((((rgs n xs n).take i).flatMap (pr k)).map pL)),some (tI (rI' (ring n xs b)))]=.ok (rows ((pr k (ring n xs b)).map pL)):=by
   rw[xJ (fun m:Nat=>PyData.int (((m+1)*k:Nat):Int)) (fun m:Nat=>tI (pL ((ring n xs b).getD 0 0,(ring n xs b).getD ((m+1)*k) 0))) (List.range (fN k (per n xs b))) (by simp -implicitDefEqProofs only[(evA),hl,xP1 h1 (show k<=60 by bv_omega) (show per n xs b<=60 by bv_omega)]) (by rw[List.length_range];have:fN k (per n xs b)<=per n xs b:=Nat.le_trans (Nat.div_le_self ..) (Nat.sub_le ..);bv_omega) (fun m hm=>by
    have lt:=zC2 h1 (List.mem_range.mp hm)
    have z0:=at' 0 (by bv_omega)
    have z1:=at' ((m+1)*k) lt
    have z0':atI ((rI' (ring n xs b)).map PyData.int) 0=some (.int (((ring n xs b).getD 0 0:Nat):Int)):=z0
    show eB mkT (aC (e2 ixD (eV 1) (eC (.int 0))) (aC (e2 ixD (eV 1) (eV 0)) aN)) [some (.int (((m+1)*k:Nat):Int)),some (tI (rI' (ring n xs b)))]=_
    simp -implicitDefEqProofs only[(evA),z0',z1]
    rfl)]
   unfold pr
   rw[yS,rows,List.map_map,List.map_map]
   rfl
  refine⟨_,_,rfl,?_,some (tI (rI' (ring n xs b))),rfl⟩
  show sM 2 extD _ [some (tI xs),some (.int (k:Int)),some (rows ((((rgs n xs n).take i).flatMap (pr k)).map pL)),some (tI (rI' (ring n xs b)))]=_
  have ex:=yF2 (l:=((((rgs n xs n).take i).flatMap (pr k)).map pL).map tI) (k:=((pr k (ring n xs b)).map pL).map tI) (d:=rows ((pr k (ring n xs b)).map pL)) rfl (by
   rw[List.length_map,List.length_map,List.length_map,List.length_map]
   have z:([ring n xs b].flatMap (pr k)).length=(pr k (ring n xs b)).length:=by simp
   bv_omega)
  simp -implicitDefEqProofs only[(evA),cc,ex]
  rw[e1,List.flatMap_append,List.map_append,rows,List.map_append]
  simp
 ·rintro ρ ⟨y,rfl⟩
  rw[List.length_map,List.length_map,List.take_length]
  simp -implicitDefEqProofs only[(evA)]
  rfl
theorem flatN {n:Nat}{xs:List Int}(o:Ord n xs){m:Nat}(hm:n<=n):(rgs n xs n).flatten.length<=n:=by
 have:=(flatP o).length_eq
 rw[List.length_range] at this
 bv_omega
theorem wU6 {n k:Nat}{xs:List Int}(o:Ord n xs) (h0:1<=n) (h1:1<=k):k*ND n k xs<=n-1:=by
 have key:∀L:List (List Nat),(∀r∈L,1<=r.length)->k*(L.map fun r=>fN k r.length).sum+L.length<=L.flatten.length:=by
  intro L
  induction L with
  | nil=>intro _;simp
  | cons r L ih =>
   intro h
   have a:=ih fun r hr=>h r (List.mem_cons_of_mem _ hr)
   have b:=h r (List.mem_cons_self ..)
   have c:k*fN k r.length<=r.length-1:=Nat.mul_div_le _ _
   rw[List.map_cons,List.sum_cons,List.flatten_cons,List.length_append,List.length_cons,Nat.mul_add]
   bv_omega
 have ok:=o.wM n (Nat.le_refl n)
 have q:=key (rgs n xs n) fun r hr=>by
  obtain⟨b,hb,rfl,_⟩:=ok.each r hr
  rw[yS]
  exact (o.yK hb).1
 have fl:=flatN (m:=n) o (Nat.le_refl n)
 obtain⟨r,hr,_⟩:=ok.cover 0 (by bv_omega)
 have lp:=List.length_pos_of_mem hr
 unfold ND
 bv_omega
theorem xK8 {n k:Nat}{xs:List Int}(o:Ord n xs) (hk:1<=k):∀q∈told n k xs,q.1<q.2:=fun q hq=>by
 have ne:=(yY8 o hk q hq).2.2
 have ok:=o.wM n (Nat.le_refl n)
 unfold told at hq
 obtain⟨r,hr,hq⟩:=List.mem_flatMap.mp hq
 obtain⟨b,hb,rfl,mn⟩:=ok.each r hr
 unfold pr at hq
 obtain⟨m,hm,rfl⟩:=List.mem_map.mp hq
 have hm:=List.mem_range.mp hm
 rw[yS] at hm
 have lt:=zC2 hk hm
 have p1:=(o.yK hb).1
 have e1:(ring n xs b).getD 0 0=b:=qA (by bv_omega)
 have e2:(ring n xs b).getD ((m+1)*k) 0=it xs ((m+1)*k) b:=qA lt
 have le:=mn _ (o.gZ hb ((m+1)*k))
 have ne':(ring n xs b).getD 0 0≠(ring n xs b).getD ((m+1)*k) 0:=ne
 show (ring n xs b).getD 0 0<(ring n xs b).getD ((m+1)*k) 0
 bv_omega
def numT (b:Nat):Str:=toString (b:Int)
def rT (r:List Nat):Str:=Str.join " " (r.map numT)
def wT (r:List Nat):Str:="("++rT r ++ ")"
def ordT (n:Nat) (xs:List Int):Str:=Str.join "" ((rgs n xs n).map wT)
theorem xR:∀b,b<61->((numT b).length<=2/\Txt.isdigit (numT b)=true/\(Txt.startswith (numT b) "0" = false\/numT b="0")/\PySem.intText? (numT b)=some (b:Int))/\41∉tl (numT b)/\32∉tl (numT b)/\((b:Int).natAbs.log2<1920)/\PyData.strOk (numT b)=true:=by decide +kernel
theorem zW6 {sep:Str}{ts:List Str}(hs:sep.length<=2) (hl:ts.length<=60) (ht:∀t∈ts,t.length<=200):JoinOk sep ts=true/\(Str.join sep ts).length<=202*ts.length:=by
 have h1:=Nat.mul_le_mul_right 200 hl
 have h2:=Nat.mul_le_mul_left ts.length hs
 refine⟨?_,?_⟩
 ·unfold JoinOk
  rw[StrLaws.joinFits ht (by bv_omega)]
  rfl
 ·have a:=StrLaws.join_length_le sep ts
  have b:=StrLaws.sumLen_le ts ht
  bv_omega
theorem uG {sep:Str}{ts:List Str}(h:JoinOk sep ts=true):joinD sep (.list (ts.map PyData.str))=some (.str (Str.join sep ts)):=by
 unfold joinD
 rw[show lstD (.list (ts.map PyData.str))=some (ts.map PyData.str) from rfl,Option.bind_some,zD4,Option.bind_some,if_pos h]
theorem cS {z:Str}(h:PyData.strOk z=true):SeqAt.shaped (.str z)=true:=by
 unfold SeqAt.shaped
 rw[PyData.canLay0,PyData.depth,h]
 rfl
theorem cK {a b:Str}(ha:PyData.strOk a=true) (hb:PyData.strOk b=true):neD (.str a) (.str b)=some (!decide (a=b)):=by
 unfold neD
 rw[if_pos ⟨cS ha,cS hb⟩,PyData.eqv]
 by_cases e:a=b <;> simp[e]
theorem yC8 {a b:Str}(ha:PyData.strOk a=true) (hb:PyData.strOk b=true):eqD (.str a) (.str b)=some (decide (a=b)):=by
 unfold eqD
 rw[if_pos ⟨cS ha,cS hb⟩,PyData.eqv]
 by_cases e:a=b <;> simp[e]
theorem wV9 {z:Str}:PyData.strOk z=true ↔ ∀c∈tl z,c<1114112:=by
 unfold PyData.strOk tl
 rw[<-Array.all_toList,List.all_eq_true]
 exact⟨fun h c hc=>of_decide_eq_true (h c hc),fun h c hc=>decide_eq_true (h c hc)⟩
theorem cI {a b:Str}(ha:PyData.strOk a=true) (hb:PyData.strOk b=true):PyData.strOk (a++b)=true:=by
 rw[wV9] at ha hb ⊢
 intro c hc
 rw[yF] at hc
 rcases List.mem_append.mp hc with h | h
 ·exact ha c h
 ·exact hb c h
theorem kL {y:Str}(hy:PyData.strOk y=true):∀ts:List Str,(∀t∈ts,PyData.strOk t=true)->PyData.strOk (Str.join y ts)=true
 | [],_=>(by decide +kernel:PyData.strOk Str.empty=true)
 | [t],h=>h t List.mem_cons_self
 | t::u::r,h=>by
  rw[jV]
  exact cI (cI (h t List.mem_cons_self) hy) (kL hy (u::r) fun x hx=>h x (List.mem_cons_of_mem _ hx))
theorem wF:100000<=sizeLine:=by decide
theorem bT {r:List Nat}(hr:∀x∈r,x<61) (hl:r.length<=60):(rT r).length<=180:=by
 have a:=StrLaws.join_length_le " " (r.map numT)
 have b:=StrLaws.sumLen_le (B:=2) (r.map numT) fun y hy=>by
  obtain⟨x,hx,rfl⟩:=List.mem_map.mp hy
  exact (xR x (hr x hx)).1.1
 rw[List.length_map] at a b
 have c:(" ":Str).length=1:=rfl
 unfold rT
 rw[c] at a
 bv_omega
theorem yM1 {r:List Nat}{d:D}(hd:d=tI (rI' r)\/d=lI (rI' r)) (hr:∀x∈r,x<61) (hl:r.length<=60):eComp (iS (eV 0)) tYes (eB strOfD (aC (eV 0) aN)) [] [some d]=.ok (.list ((r.map numT).map PyData.str)):=by
 rw[List.map_map]
 refine xJ (fun b:Nat=>PyData.int (b:Int)) (fun b=>PyData.str (numT b)) r (by
  rcases hd with rfl | rfl
  ·simp -implicitDefEqProofs only[(evA)]
   unfold rI'
   rw[List.map_map]
   rfl
  ·simp -implicitDefEqProofs only[(evA)]
   unfold rI'
   rw[List.map_map]
   rfl) (by bv_omega) fun b hb => ?_
 have h:=xR b (hr b hb)
 show eB strOfD (aC (eV 0) aN) [some (.int (b:Int))]=_
 have e:strOfD [.int (b:Int)]=some (.str (numT b)):=if_pos h.2.2.2.1
 simp -implicitDefEqProofs only[(evA),e]
theorem xH2 {r:List Nat}(hr:∀x∈r,x<61) (hl:r.length<=60):joinD " " (.list ((r.map numT).map PyData.str))=some (.str (rT r)):=by
 refine uG (zW6 (by decide) (by rw[List.length_map];exact hl) fun t ht => ?_).1
 obtain⟨x,hx,rfl⟩:=List.mem_map.mp ht
 have:=(xR x (hr x hx)).1.1
 bv_omega
theorem hX {r:List Nat}{d:D}(hd:d=tI (rI' r)\/d=lI (rI' r)) (hr:∀x∈r,x<61) (hl:r.length<=60):uL [d]=.ok (.str (rT r)):=by
 show (fU [some d]).bind (fin false)=_
 unfold fU
 simp -implicitDefEqProofs only[(evA),xZ,yP,yM1 hd hr hl,xH2 hr hl]
theorem yJ7 {r:List Nat}(hr:∀x∈r,x<61) (hl:r.length<=60):kT [tI (rI' r)]=.ok (.str (wT r)):=by
 have l:=bT hr hl
 have c:("(":Str).length+(rT r).length+(")":Str).length<=sizeLine:=by
  have c1:("(":Str).length=1:=rfl
  have c2:(")":Str).length=1:=rfl
  have:=wF
  bv_omega
 have e:filD "(" ")" (.str (rT r))=some (.str (wT r)):=by
  unfold filD
  rw[yP,Option.bind_some,if_pos c]
  rfl
 show (zZ8 [some (tI (rI' r)),none]).bind (fin false)=_
 unfold zZ8
 simp -implicitDefEqProofs only[(evA),hX (.inl rfl) hr hl,e]
structure Rs (rs:List (List Nat)):Prop where
 few:rs.length<=60
 ne:rs ≠ []
 ring:∀r∈rs,(∀x∈r,x<61)/\r.length<=60/\r ≠ []
theorem zD1 {n:Nat}{xs:List Int}(o:Ord n xs) (h1:1<=n) (h2:n<=60):Rs (rgs n xs n):=by
 have p:=flatP o
 have c:=yB4 o
 have ne:∀r∈rgs n xs n,r ≠ []:=fun r hr=>by
  obtain⟨a,ys,rfl,_⟩:=c.1 r hr
  exact fun z=>nomatch z
 have lf:(rgs n xs n).flatten.length=n:=by rw[p.length_eq,List.length_range]
 have few:∀L:List (List Nat),(∀r∈L,r ≠ [])->L.length<=L.flatten.length:=fun L=>by
  induction L with
  | nil=>exact fun _=>Nat.le_refl _
  | cons r L ih =>
   intro h
   have a:=List.length_pos_iff.mpr (h r List.mem_cons_self)
   have b:=ih fun r hr=>h r (List.mem_cons_of_mem _ hr)
   rw[List.length_cons,List.flatten_cons,List.length_append]
   bv_omega
 have f:=few _ ne
 refine⟨by bv_omega,fun z => ?_,fun r hr=>⟨fun x hx => ?_,?_,ne r hr⟩⟩
 ·rw[z] at lf
  have:0=n:=lf
  bv_omega
 ·have:=List.mem_range.mp (p.mem_iff.mp (List.mem_flatten.mpr ⟨r,hr,hx⟩))
  bv_omega
 ·have:=(List.sublist_flatten_of_mem hr).length_le
  bv_omega
theorem wO8 {r:List Nat}(hr:∀x∈r,x<61) (hl:r.length<=60):(wT r).length<=182:=by
 have l:=bT hr hl
 have c1:("(":Str).length=1:=rfl
 have c2:(")":Str).length=1:=rfl
 unfold wT
 rw[Str.length_append,Str.length_append,c1,c2]
 bv_omega
theorem yL5 {rs:List (List Nat)}(q:Rs rs):joinD "" (.list ((rs.map wT).map PyData.str))=some (.str (Str.join "" (rs.map wT)))/\(Str.join "" (rs.map wT)).length<=12120:=by
 have h:=zW6 (sep:="") (ts:=rs.map wT) (by decide) (by rw[List.length_map];exact q.few) fun t ht=>by
  obtain⟨r,hr,rfl⟩:=List.mem_map.mp ht
  have:=wO8 (q.ring r hr).1 (q.ring r hr).2.1
  bv_omega
 refine⟨uG h.1,?_⟩
 have a:=h.2
 have b:=q.few
 rw[List.length_map] at a
 bv_omega
theorem yV8 {n:Nat}{xs:List Int}(q:Rs (rgs n xs n)):PyData.strOk (ordT n xs)=true:=by
 refine kL (by decide +kernel) _ fun t ht => ?_
 obtain⟨r,hr,rfl⟩:=List.mem_map.mp ht
 refine cI (cI (by decide +kernel) (kL (by decide +kernel) _ fun t ht => ?_)) (by decide +kernel)
 obtain⟨x,hx,rfl⟩:=List.mem_map.mp ht
 exact (xR x ((q.ring r hr).1 x hx)).2.2.2.2
theorem dE {n:Nat}{xs:List Int}(o:Ord n xs) (h1:1<=n) (h2:n<=60):vR [tI xs]=.ok (.str (ordT n xs)):=by
 have q:=zD1 o h1 h2
 have cc:eComp (iS (eF yL (aC (eV 0) aN))) tYes (eF kT (aC (eV 0) aN)) [] [some (tI xs)]=.ok (.list (((rgs n xs n).map wT).map PyData.str)):=by
  rw[List.map_map]
  refine xJ (fun r:List Nat=>tI (rI' r)) (fun r=>PyData.str (wT r)) (rgs n xs n) (by
   simp -implicitDefEqProofs only[(evA),uU o (show n<=1000 by bv_omega)]
   unfold ringsD
   rw[List.map_map]
   rfl) (by have:=q.few;bv_omega) fun r hr => ?_
  show eF kT (aC (eV 0) aN) [some (tI (rI' r))]=_
  simp -implicitDefEqProofs only[(evA),yJ7 (q.ring r hr).1 (q.ring r hr).2.1]
 show (bX [some (tI xs)]).bind (fin false)=_
 unfold bX
 simp -implicitDefEqProofs only[(evA),xZ,yP,cc,(yL5 q).1]
 rfl
theorem wL9 {r:List Nat}(hr:∀x∈r,x<61):41∉tl (rT r):=by
 have:∀l:List Nat,(∀x∈l,x<61)->41∉tl (Str.join " " (l.map numT)):=fun l=>by
  induction l with
  | nil=>exact fun _ z=>by cases z
  | cons a l ih =>
   intro h
   have ha:=(xR a (h a List.mem_cons_self)).2.1
   cases l with
   | nil=>exact ha
   | cons b l =>
    rw[List.map_cons,List.map_cons,jV,yF,yF]
    intro z
    rcases List.mem_append.mp z with z | z
    ·rcases List.mem_append.mp z with z | z
     ·exact ha z
     ·exact absurd z (by decide)
    ·exact ih (fun x hx=>h x (List.mem_cons_of_mem _ hx)) z
 exact this r hr
theorem wW7 {r:List Nat}(hr:∀x∈r,x<61) (hn:r ≠ []):Txt.split (rT r) " " = r.map numT :=
 uY (c:=32) (y':=[]) rfl (by decide +kernel) (fun z=>hn (List.map_eq_nil_iff.mp z)) fun p hp=>by
  obtain⟨x,hx,rfl⟩:=List.mem_map.mp hp
  exact (xR x (hr x hx)).2.2.1
theorem xD8 {rs:List (List Nat)}(q:Rs rs):Txt.split (Str.join ")(" (rs.map rT)) ")(" = rs.map rT :=
 uY (c:=41) (y':=[40]) rfl (by decide +kernel) (fun z=>q.ne (List.map_eq_nil_iff.mp z)) fun p hp=>by
  obtain⟨r,hr,rfl⟩:=List.mem_map.mp hp
  exact wL9 (q.ring r hr).1
theorem wJ5 {rs:List (List Nat)}(q:Rs rs):Txt.slice (Str.join "" (rs.map wT)) (some 1) (some (-1))=Str.join ")(" (rs.map rT):=by
 have e:=yU6 (rs.map rT) fun z=>q.ne (List.map_eq_nil_iff.mp z)
 rw[List.map_map] at e
 have e':Str.join "" (rs.map wT)="("++Str.join ")(" (rs.map rT) ++ ")":=e
 rw[e']
 exact xM2 rfl rfl
theorem yX4 {b:Nat}(h:b<61):wS [.str (numT b),.int 1]=.ok (.int (b:Int)):=by
 obtain⟨⟨n1,n2,n3,n4⟩,_,_,_,n5⟩:=xR b h
 have lb:=wF
 have e1:lenTD [.str (numT b)]=some (.int ((numT b).length:Int)):=if_pos (by bv_omega)
 have e2':intTD [.str (numT b)]=some (.int (b:Int)):=by
  show (if (numT b).length<=640 then (PySem.intText? (numT b)).map PyData.int else none)=_
  rw[if_pos (by bv_omega),n4]
  rfl
 have e3:stwD (numT b) (.str "0")=some (.bool (Txt.startswith (numT b) "0")):=rfl
 show (qY [some (.str (numT b)),some (.int 1)]).bind (fin false)=_
 unfold qY
 rcases n3 with n3 | n3
 ·simp -implicitDefEqProofs only[(evA),fV,xZ,yP,n2,e1,decide_eq_false (show ¬(90:Int)<((numT b).length:Int) by bv_omega),e3,n3,e2']
 ·have nn:neD (.str (numT b)) (.str "0")=some false:=by
   rw[<-n3,cK n5 n5,decide_eq_true rfl]
   rfl
  generalize Txt.startswith (numT b) "0" = v at e3
  cases v
  ·simp -implicitDefEqProofs only[(evA),fV,xZ,yP,n2,e1,decide_eq_false (show ¬(90:Int)<((numT b).length:Int) by bv_omega),e3,e2']
  ·simp -implicitDefEqProofs only[(evA),fV,xZ,yP,n2,e1,decide_eq_false (show ¬(90:Int)<((numT b).length:Int) by bv_omega),e3,nn,e2']
theorem aG {r:List Nat}(hr:∀x∈r,x<61) (hl:r.length<=60):wP [.list ((r.map numT).map PyData.str),.int 1]=.ok (tI (rI' r)):=by
 have cc:eComp (iS (eV 0)) tYes (eF wS (aC (eV 0) (aC (eV 1) aN))) [1] [some (.list ((r.map numT).map PyData.str)),some (.int 1)]=.ok (.list (r.map fun b:Nat=>PyData.int (b:Int))):=by
  refine xJ (fun b:Nat=>PyData.str (numT b)) (fun b=>PyData.int (b:Int)) r (by
   simp -implicitDefEqProofs only[(evA)]
   rw[List.map_map]
   rfl) (by bv_omega) fun b hb => ?_
  show eF wS (aC (eV 0) (aC (eV 1) aN)) [some (.str (numT b)),some (.int 1)]=_
  simp -implicitDefEqProofs only[(evA),yX4 (hr b hb)]
 have e:(PyData.tuple (r.map fun b:Nat=>PyData.int (b:Int)))=tI (rI' r):=by
  unfold tI rI'
  rw[List.map_map]
  rfl
 show (uM [some (.list ((r.map numT).map PyData.str)),some (.int 1)]).bind (fin false)=_
 unfold uM
 simp -implicitDefEqProofs only[(evA),cc,e]
theorem zR2 {n:Nat}{xs:List Int}(o:Ord n xs) (h1:1<=n) (h2:n<=60):qB [.str (ordT n xs)]=.ok (tI xs):=by
 have q:=zD1 o h1 h2
 have lw:=(yL5 q).2
 have lb:=wF
 have lj:=(zW6 (sep:=")(") (ts:=(rgs n xs n).map rT) (by decide) (by rw[List.length_map];exact q.few) fun t ht=>by
  obtain⟨r,hr,rfl⟩:=List.mem_map.mp ht
  have:=bT (q.ring r hr).1 (q.ring r hr).2.1
  bv_omega).2
 have fw:=q.few
 rw[List.length_map] at lj
 have s1:slS (.str (ordT n xs)) (some 1) (some (-1))=some (.str (Str.join ")(" ((rgs n xs n).map rT))):=by
  unfold slS
  rw[yP,Option.bind_some,if_pos (by unfold ordT;bv_omega),<-wJ5 q]
  rfl
 have s2:splD (Str.join ")(" ((rgs n xs n).map rT)) (.str ")(")=some (.list (((rgs n xs n).map rT).map PyData.str)):=by
  unfold splD
  rw[yP,Option.bind_some,if_pos ⟨by decide,by bv_omega⟩,xD8 q]
 have cc:eComp (iS (eM1S splD (eS slS (eV 0) (oS (eC (.int 1))) (oS (e1 negD (eC (.int 1))))) (eC (.str ")(")))) tYes (eF wP (aC (eM1S splD (eV 0) (eC (.str " "))) (aC (eC (.int 1)) aN))) [] [some (.str (ordT n xs)),none,none]=.ok (rows (ringsD n xs n)):=by
  have er:rows (ringsD n xs n)=.list ((rgs n xs n).map fun r=>tI (rI' r)):=by
   unfold rows ringsD
   rw[List.map_map]
   rfl
  rw[er]
  refine xJ (fun r:List Nat=>PyData.str (rT r)) (fun r=>tI (rI' r)) (rgs n xs n) (by
   simp -implicitDefEqProofs only[(evA),xZ,yP,s1,s2]
   rw[List.map_map]
   rfl) (by bv_omega) fun r hr => ?_
  have hr1:=(q.ring r hr).1
  have hr2:=(q.ring r hr).2.1
  have l:=bT hr1 hr2
  have s3:splD (rT r) (.str " ")=some (.list ((r.map numT).map PyData.str)):=by
   unfold splD
   rw[yP,Option.bind_some,if_pos ⟨by decide,by bv_omega⟩,wW7 hr1 (q.ring r hr).2.2]
  show eF wP (aC (eM1S splD (eV 0) (eC (.str " "))) (aC (eC (.int 1)) aN)) [some (.str (rT r))]=_
  simp -implicitDefEqProofs only[(evA),xZ,yP,s3,aG hr1 hr2]
 obtain⟨zs,oz,ez,eo⟩:=zH7 (yB4 o) (flatP o) h1 h2
 rw[wT5 oz o ez] at eo
 have ty:∀(mb:Ev->Res Out) (ρ:Ev),sTryN mb ρ=noEx (mb ρ):=fun _ _=>rfl
 have nx:∀x:Out,noEx (Res.ok x)=.ok x:=fun _=>rfl
 show (bL [some (.str (ordT n xs)),none,none]).bind (fin false)=_
 unfold bL
 simp -implicitDefEqProofs only[(evA),cc,ty,nx,eo,dE o h1 h2,cK (yV8 q) (yV8 q),decide_true]
theorem pz:PyData.strOk "" = true/\PyData.strOk "none" = true/\PyData.strOk " / " = true/\PyData.strOk "rings" = true/\PyData.strOk "find" = true/\PyData.strOk "need" = true/\PyData.strOk "help" = true:=by decide +kernel
theorem wQ5 {a:Nat}(ha:a<61):tl (numT a) ≠ []:=by
 have:∀a,a<61->tl (numT a) ≠ []:=by decide +kernel
 exact this a ha
theorem kK:∀b,b<61->10∉tl (numT b)/\45∉tl (numT b)/\47∉tl (numT b):=by decide +kernel
theorem qK {c:Nat}{y:Str}(hy:c∉tl y):∀ts:List Str,(∀t∈ts,c∉tl t)->c∉tl (Str.join y ts)
 | [],_=>fun z=>by cases z
 | [t],h=>h t List.mem_cons_self
 | t::u::r,h=>by
  rw[jV,yF,yF]
  intro z
  rcases List.mem_append.mp z with z | z
  ·rcases List.mem_append.mp z with z | z
   ·exact h t List.mem_cons_self z
   ·exact hy z
  ·exact qK hy (u::r) (fun x hx=>h x (List.mem_cons_of_mem _ hx)) z
theorem yU5 {c:Nat}(hc:c=10\/c=45\/c=47){r:List Nat}(hr:∀x∈r,x<61):c∉tl (rT r):=by
 refine qK (by rcases hc with rfl | rfl | rfl <;> decide +kernel) _ fun t ht => ?_
 obtain⟨x,hx,rfl⟩:=List.mem_map.mp ht
 have:=kK x (hr x hx)
 rcases hc with rfl | rfl | rfl
 ·exact this.1
 ·exact this.2.1
 ·exact this.2.2
theorem yS7 {c:Nat}(hc:c=10\/c=45\/c=47){n:Nat}{xs:List Int}(q:Rs (rgs n xs n)):c∉tl (ordT n xs):=by
 have l:∀y∈(["","(",")"]:List Str),c∉tl y:=by
  rcases hc with rfl | rfl | rfl <;> decide +kernel
 refine qK (l _ (by simp)) _ fun t ht => ?_
 obtain⟨r,hr,rfl⟩:=List.mem_map.mp ht
 unfold wT
 rw[yF,yF]
 intro z
 rcases List.mem_append.mp z with z | z
 ·rcases List.mem_append.mp z with z | z
  ·exact l "(" (by simp) z
  ·exact yU5 hc (q.ring r hr).1 z
 ·exact l ")" (by simp) z
structure Ask (w n:Nat) (xs:List Int) (os:List Nat) (k:Nat):Prop where
 w4:w<4
 ord:Ord n xs
 n1:1<=n
 n60:n<=60
 opn:Opn n (rI' os)
 ol:os.length=n
 oo:∀x∈os,x<61
 k1:1<=k
 kn:k<=n
def hN (w:Nat) (os:List Nat) (k:Nat):List Nat:=if w=0 then [] else if w=1 then os else [k]
def hW (w:Nat):Str:=if w=0 then "rings" else if w=1 then "find" else if w=2 then "need" else "help"
def hdT (w:Nat) (os:List Nat) (k:Nat):Str:=Str.join " " (hW w::(hN w os k).map numT)
def rowT (w n:Nat) (xs:List Int) (os:List Nat) (k:Nat):Str:=hdT w os k ++ " / "++ordT n xs
theorem xZ4:∀w,w<4->10∉tl (hW w)/\45∉tl (hW w)/\47∉tl (hW w)/\32∉tl (hW w)/\(hW w).length<=5/\PyData.strOk (hW w)=true:=by decide +kernel
section
variable {w n k:Nat}{xs:List Int}{os:List Nat}
theorem Ask.k61 (A:Ask w n xs os k):k<61:=Nat.lt_succ_of_le (Nat.le_trans A.kn A.n60)
theorem Ask.rs (A:Ask w n xs os k):Rs (rgs n xs n):=zD1 A.ord A.n1 A.n60
theorem Ask.hN (A:Ask w n xs os k):(∀x∈hN w os k,x<61)/\(hN w os k).length<=60:=by
 have a:=A.k61
 have b:=A.n60
 unfold K64.hN
 split
 ·exact⟨fun x z=>(by cases z),by simp⟩
 ·split
  ·exact⟨A.oo,by rw[A.ol];exact b⟩
  ·exact⟨fun x z=>(by rw[List.mem_singleton.mp z];exact a),by simp⟩
theorem zA1 (A:Ask w n xs os k):(hdT w os k).length<=190/\(∀c,c=10\/c=45\/c=47->c∉tl (hdT w os k))/\PyData.strOk (hdT w os k)=true:=by
 obtain⟨f1,f2,f3,f4,f5,f6⟩:=xZ4 w A.w4
 obtain⟨h1,h2⟩:=A.hN
 refine⟨?_,fun c hc => ?_,?_⟩
 ·have a:=StrLaws.join_length_le " " (hW w::(hN w os k).map numT)
  have b:=StrLaws.sumLen_le (B:=2) ((hN w os k).map numT) fun y hy=>by
   obtain⟨x,hx,rfl⟩:=List.mem_map.mp hy
   exact (xR x (h1 x hx)).1.1
  have c:(" ":Str).length=1:=rfl
  rw[List.map_cons,List.sum_cons,List.length_cons,c] at a
  rw[List.length_map] at a b
  unfold hdT
  bv_omega
 ·refine qK (by rcases hc with rfl | rfl | rfl <;> decide +kernel) _ fun t ht => ?_
  rcases List.mem_cons.mp ht with rfl | ht
  ·rcases hc with rfl | rfl | rfl
   ·exact f1
   ·exact f2
   ·exact f3
  ·obtain⟨x,hx,rfl⟩:=List.mem_map.mp ht
   have:=kK x (h1 x hx)
   rcases hc with rfl | rfl | rfl
   ·exact this.1
   ·exact this.2.1
   ·exact this.2.2
 ·refine kL (by decide +kernel) _ fun t ht => ?_
  rcases List.mem_cons.mp ht with rfl | ht
  ·exact f6
  ·obtain⟨x,hx,rfl⟩:=List.mem_map.mp ht
   exact (xR x (h1 x hx)).2.2.2.2
theorem xH3 (A:Ask w n xs os k):Txt.split (hdT w os k) " " = hW w::(hN w os k).map numT :=
 uY (c:=32) (y':=[]) rfl (by decide +kernel) (fun z=>nomatch z) fun p hp=>by
  rcases List.mem_cons.mp hp with rfl | hp
  ·exact (xZ4 w A.w4).2.2.2.1
  ·obtain⟨x,hx,rfl⟩:=List.mem_map.mp hp
   exact (xR x (A.hN.1 x hx)).2.2.1
theorem xG4 (A:Ask w n xs os k):10∉tl (rowT w n xs os k):=by
 unfold rowT
 rw[yF,yF]
 intro z
 rcases List.mem_append.mp z with z | z
 ·rcases List.mem_append.mp z with z | z
  ·exact (zA1 A).2.1 10 (.inl rfl) z
  ·exact absurd z (by decide +kernel)
 ·exact yS7 (.inl rfl) A.rs z
theorem yX7 (q:Rs (rgs n xs n)):(ordT n xs).length<=12120:=(yL5 q).2
theorem xX9 (A:Ask w n xs os k):(rowT w n xs os k).length<=13000:=by
 have a:=(zA1 A).1
 have b:=yX7 A.rs
 have c:(" / ":Str).length=3:=rfl
 unfold rowT
 rw[Str.length_append,Str.length_append,c]
 bv_omega
theorem xI8 (A:Ask w n xs os k):Txt.partition (rowT w n xs os k) " / " = (hdT w os k,(" / ":Str),ordT n xs):=by
 have y1:1<=(" / ":Str).length:=by decide
 have y3:(" / ":Str).length=3:=rfl
 have ty:tl (" / ":Str)=[32,47,32]:=rfl
 have tr:tl (rowT w n xs os k)=tl (hdT w os k)++([32,47,32]++tl (ordT n xs)):=by unfold rowT;rw[yF,yF,ty,List.append_assoc]
 have hl:=yB (hdT w os k)
 have here:StrLaws.At (rowT w n xs os k) " / " (rowT w n xs os k).length (hdT w os k).length:=by
  refine (zM4 y1).mpr ?_
  rw[tr,<-hl,List.drop_left,ty,y3]
  rfl
 have f47:=(zA1 A).2.1 47 (.inr (.inr rfl))
 have early:∀i,i<(hdT w os k).length->¬StrLaws.At (rowT w n xs os k) " / " (rowT w n xs os k).length i:=fun i hi h=>by
  have e:=(zM4 y1).mp h
  rw[ty,y3,tr] at e
  have e1:=congrArg (fun l=>l[1]?) e
  simp only[List.getElem?_cons_succ,List.getElem?_cons_zero] at e1
  rw[List.getElem?_take_of_lt (by bv_omega),List.getElem?_drop] at e1
  by_cases c:i+1<(tl (hdT w os k)).length
  ·rw[List.getElem?_append_left c] at e1
   exact f47 (List.mem_of_getElem? e1)
  ·rw[List.getElem?_append_right (by bv_omega),show i+1-(tl (hdT w os k)).length=0 by bv_omega] at e1
   cases e1
 have ha:=StrLaws.occ_head (rowT w n xs os k) " / " 1 (Nat.le_refl 1)
 unfold Txt.partition
 rcases ha with ⟨_,hn⟩ | ⟨i,r,h0,hi,hn⟩
 ·exact absurd here (hn _)
 ·rw[h0]
  have ei:i=(hdT w os k).length:=by
   by_cases c:i<(hdT w os k).length
   ·exact absurd hi (early i c)
   ·by_cases c2:(hdT w os k).length<i
    ·exact absurd here (hn _ c2)
    ·bv_omega
  subst ei
  have e1:Builtin.Str.strSub (rowT w n xs os k) 0 (hdT w os k).length=hdT w os k:=vA (by
   rw[zD2,tr,List.drop_zero,Nat.sub_zero,<-hl,List.take_left])
  have e2:Builtin.Str.strSub (rowT w n xs os k) ((hdT w os k).length+(" / ":Str).length) (rowT w n xs os k).length=ordT n xs:=vA (by
   rw[zD2,tr,<-List.append_assoc,y3,show (hdT w os k).length+3=(tl (hdT w os k) ++ [32,47,32]).length by rw[List.length_append,hl];rfl,List.drop_left,List.take_of_length_le]
   rw[yB]
   have:(rowT w n xs os k).length=(tl (hdT w os k) ++ [32,47,32]).length+(ordT n xs).length:=by
    rw[<-yB,tr,<-List.append_assoc,List.length_append,yB (ordT n xs)]
   bv_omega)
  show (Builtin.Str.strSub _ 0 _,_,Builtin.Str.strSub _ _ _)=_
  rw[e1,e2]
end
theorem xA9 {os:List Nat}(k:Nat) (h:os ≠ []):hdT 1 os k="find "++rT os:=by
 cases os with
 | nil=>exact absurd rfl h
 | cons a l =>
  show "find" ++ " "++Str.join " " ((a::l).map numT)=_
  rw[show ("find":Str) ++ " " = "find " by decide +kernel]
  rfl
theorem wS1 (os:List Nat) (k:Nat):hdT 2 os k="need "++numT k:=by
 show "need" ++ " "++numT k=_
 rw[show ("need":Str) ++ " " = "need " by decide +kernel]
theorem xA8 (os:List Nat) (k:Nat):hdT 3 os k="help "++numT k:=by
 show "help" ++ " "++numT k=_
 rw[show ("help":Str) ++ " " = "help " by decide +kernel]
theorem strEq {a:Str}(ha:PyData.strOk a=true):eqD (.str a) (.str a)=some true:=by rw[yC8 ha ha,decide_eq_true rfl]
theorem strNe {a b:Str}(ha:PyData.strOk a=true) (hb:PyData.strOk b=true) (h:a≠b):eqD (.str a) (.str b)=some false:=by rw[yC8 ha hb,decide_eq_false h]
def tON (s:Str):Str:=if s="" then "none" else s
def pT (q:Nat×Nat):Str:=Str.join "-" [numT q.1,numT q.2]
def hpT (L:List (Nat×Nat)):Str:=Str.join " " (L.map pT)
def lens (n:Nat) (xs:List Int):List Nat:=(rgs n xs n).map List.length
def fl (n:Nat) (xs:List Int) (os:List Nat):List Nat:=(List.range n).filter (fd n xs (rI' os))
def ansT (w n:Nat) (xs:List Int) (os:List Nat) (k:Nat):Str:=if w=0 then rT (lens n xs) else if w=1 then tON (rT (fl n xs os)) else if w=2 then numT (ND n k xs) else tON (hpT (told n k xs))
theorem xS7 {s:Str}(h:PyData.strOk s=true):jR [.str s]=.ok (.str (tON s)):=by
 show (fZ [some (.str s)]).bind (fin false)=_
 unfold fZ tON
 by_cases e:s=""
 ·rw[if_pos e,e]
  simp -implicitDefEqProofs only[(evA),strEq pz.1]
 ·rw[if_neg e]
  simp -implicitDefEqProofs only[(evA),strNe h pz.1 e]
theorem xM4 {s:Str}(h:PyData.strOk s=true) (l:s.length<=500) (f:10∉tl s):(tON s).length<=500/\10∉tl (tON s)/\PyData.strOk (tON s)=true:=by
 unfold tON
 split
 ·exact⟨by decide,by decide +kernel,pz.2.1⟩
 ·exact⟨l,f,h⟩
theorem xT2 {r:List Nat}(hr:∀x∈r,x<61):PyData.strOk (rT r)=true:=by
 refine kL (by decide +kernel) _ fun t ht => ?_
 obtain⟨x,hx,rfl⟩:=List.mem_map.mp ht
 exact (xR x (hr x hx)).2.2.2.2
theorem zD8 {q:Nat×Nat}(h1:q.1<61) (h2:q.2<61):(pT q).length<=5/\PyData.strOk (pT q)=true/\45∈tl (pT q)/\32∉tl (pT q)/\10∉tl (pT q):=by
 have a:=xR q.1 h1
 have b:=xR q.2 h2
 have e:pT q=numT q.1 ++ "-"++numT q.2:=rfl
 have m:("-":Str).length=1:=rfl
 have tm:tl ("-":Str)=[45]:=rfl
 have f:∀c,c∉tl (numT q.1)->c∉tl (numT q.2)->c≠45->c∉tl (pT q):=fun c c1 c2 c3 z=>by
  rw[e,yF,yF,tm] at z
  rcases List.mem_append.mp z with z | z
  ·rcases List.mem_append.mp z with z | z
   ·exact c1 z
   ·exact c3 (List.mem_singleton.mp z)
  ·exact c2 z
 refine⟨?_,?_,?_,f 32 a.2.2.1 b.2.2.1 (by decide),f 10 (kK q.1 h1).1 (kK q.2 h2).1 (by decide)⟩
 ·rw[e,Str.length_append,Str.length_append,m]
  have:=a.1.1
  have:=b.1.1
  bv_omega
 ·rw[e]
  exact cI (cI a.2.2.2.2 (by decide +kernel)) b.2.2.2.2
 ·rw[e,yF,yF,tm]
  simp
section
variable {w n k:Nat}{xs:List Int}{os:List Nat}
theorem Ask.told (A:Ask w n xs os k):(told n k xs).length<=60/\∀q∈told n k xs,q.1<q.2/\q.2<n/\q.1<61/\q.2<61:=by
 have h:=yL1 (k:=k) A.ord (rgs n xs n).length
 rw[List.take_length] at h
 refine⟨Nat.le_trans h A.n60,fun q hq => ?_⟩
 have a:=xK8 A.ord A.k1 q hq
 have b:=yY8 A.ord A.k1 q hq
 have:=A.n60
 exact⟨a,b.2.1,by have:=b.1;bv_omega,by have:=b.2.1;bv_omega⟩
theorem yN8 (A:Ask w n xs os k):joinD " " (.list (((MR.told n k xs).map pT).map PyData.str))=some (.str (hpT (MR.told n k xs)))/\(hpT (MR.told n k xs)).length<=500/\PyData.strOk (hpT (MR.told n k xs))=true/\10∉tl (hpT (MR.told n k xs)):=by
 obtain⟨h1,h2⟩:=A.told
 have each:∀t∈(MR.told n k xs).map pT,t.length<=5/\PyData.strOk t=true/\10∉tl t:=fun t ht=>by
  obtain⟨q,hq,rfl⟩:=List.mem_map.mp ht
  obtain⟨_,_,b1,b2⟩:=h2 q hq
  have:=zD8 b1 b2
  exact⟨this.1,this.2.1,this.2.2.2.2⟩
 refine⟨uG (zW6 (by decide) (by rw[List.length_map];exact h1) fun t ht=>Nat.le_trans (each t ht).1 (by decide)).1,?_,kL (by decide +kernel) _ fun t ht=>(each t ht).2.1,qK (by decide +kernel) _ fun t ht=>(each t ht).2.2⟩
 have a:=StrLaws.join_length_le " " ((MR.told n k xs).map pT)
 have b:=StrLaws.sumLen_le (B:=5) ((MR.told n k xs).map pT) fun t ht=>(each t ht).1
 have c:(" ":Str).length=1:=rfl
 rw[List.length_map] at a b
 rw[c] at a
 unfold hpT
 bv_omega
theorem Ask.lens (A:Ask w n xs os k):(∀x∈lens n xs,x<61)/\(lens n xs).length<=60:=by
 refine⟨fun x hx => ?_,by unfold K64.lens;rw[List.length_map];exact A.rs.few⟩
 obtain⟨r,hr,rfl⟩:=List.mem_map.mp hx
 have:=(A.rs.ring r hr).2.1
 bv_omega
theorem Ask.fl (A:Ask w n xs os k):(∀x∈fl n xs os,x<61)/\(fl n xs os).length<=60:=by
 have:=A.n60
 refine⟨fun x hx => ?_,?_⟩
 ·have:=List.mem_range.mp (List.mem_filter.mp hx).1
  bv_omega
 ·have:=List.length_filter_le (fd n xs (rI' os)) (List.range n)
  rw[List.length_range] at this
  unfold K64.fl
  bv_omega
theorem Ask.nd (A:Ask w n xs os k):ND n k xs<61:=by
 have:=wU6 A.ord A.n1 A.k1
 have h:=Nat.le_mul_of_pos_left (ND n k xs) A.k1
 have:=A.n60
 bv_omega
theorem aX (A:Ask w n xs os k):(ansT w n xs os k).length<=500/\10∉tl (ansT w n xs os k)/\PyData.strOk (ansT w n xs os k)=true:=by
 unfold ansT
 split
 ·exact⟨Nat.le_trans (bT A.lens.1 A.lens.2) (by decide),yU5 (.inl rfl) A.lens.1,xT2 A.lens.1⟩
 ·split
  ·exact xM4 (xT2 A.fl.1) (Nat.le_trans (bT A.fl.1 A.fl.2) (by decide)) (yU5 (.inl rfl) A.fl.1)
  ·split
   ·have h:=xR _ A.nd
    exact⟨Nat.le_trans h.1.1 (by decide),(kK _ A.nd).1,h.2.2.2.2⟩
   ·obtain⟨_,h1,h2,h3⟩:=yN8 A
    exact xM4 h2 h1 h3
theorem yI4 {q:Nat×Nat}(h1:q.1<61) (h2:q.2<61):kY [tI (pL q)]=.ok (.str (pT q)):=by
 have hr:∀x ∈ [q.1,q.2],x<61:=fun x hx=>by
  rcases List.mem_cons.mp hx with rfl | hx
  ·exact h1
  ·rw[List.mem_singleton.mp hx];exact h2
 have cc:=yM1 (d:=tI (pL q)) (r:=[q.1,q.2]) (.inl rfl) hr (by simp)
 have ej:joinD "-" (.list (([q.1,q.2].map numT).map PyData.str))=some (.str (pT q)):=uG (zW6 (by decide) (by simp) fun t ht=>by
  obtain⟨x,hx,rfl⟩:=List.mem_map.mp ht
  have:=(xR x (hr x hx)).1.1
  bv_omega).1
 show (zZ2 [some (tI (pL q))]).bind (fin false)=_
 unfold zZ2
 simp -implicitDefEqProofs only[(evA),xZ,yP,cc,ej]
theorem yM6 (A:Ask w n xs os k):zZ3 [tI xs,.int (k:Int)]=.ok (.str (tON (hpT (MR.told n k xs)))):=by
 obtain⟨h1,h2⟩:=A.told
 obtain⟨hj,hl,hs,_⟩:=yN8 A
 have cc:eComp (iS (eF qS (aC (eV 0) (aC (eV 1) aN)))) tYes (eF kY (aC (eV 0) aN)) [] [some (tI xs),some (.int (k:Int))]=.ok (.list (((MR.told n k xs).map pT).map PyData.str)):=by
  rw[List.map_map]
  refine xJ (fun q:Nat×Nat=>tI (pL q)) (fun q=>PyData.str (pT q)) (MR.told n k xs) (by
   simp -implicitDefEqProofs only[(evA),zL7 A.ord A.n60 A.k1 A.kn]
   rw[List.map_map]
   rfl) (by bv_omega) fun q hq => ?_
  show eF kY (aC (eV 0) aN) [some (tI (pL q))]=_
  simp -implicitDefEqProofs only[(evA),yI4 (h2 q hq).2.2.1 (h2 q hq).2.2.2]
 show (zY1 [some (tI xs),some (.int (k:Int))]).bind (fin false)=_
 unfold zY1
 simp -implicitDefEqProofs only[(evA),xZ,yP,cc,hj,xS7 hs]
theorem yL7 (A:Ask w n xs os k){mi:Ev->Res (List D)}{f:List Nat->D}{ρ:Ev}(hf:∀r,f r=tI (rI' r)\/f r=lI (rI' r)) (h:mi ρ=.ok ((rgs n xs n).map f)):eComp mi tYes (eB lenD (aC (eV 0) aN)) [] ρ=.ok (lI (rI' (lens n xs))):=by
 have e:lI (rI' (lens n xs))=.list ((rgs n xs n).map fun r=>PyData.int ((r.length:Nat):Int)):=by
  unfold lI rI' lens
  rw[List.map_map,List.map_map]
  rfl
 rw[e]
 refine xJ f (fun r=>PyData.int ((r.length:Nat):Int)) (rgs n xs n) h (by have:=A.rs.few;bv_omega) fun r hr => ?_
 have hl:((rI' r).map PyData.int).length=r.length:=by rw[List.length_map,yM]
 show eB lenD (aC (eV 0) aN) [some (f r)]=_
 rcases hf r with z | z
 ·rw[z]
  simp -implicitDefEqProofs only[(evA),hl]
 ·rw[z]
  simp -implicitDefEqProofs only[(evA),hl]
theorem wK9 (A:Ask w n xs os k):jI [.str (hW w),tI (rI' (hN w os k)),tI xs]=.ok (.str (ansT w n xs os k)):=by
 obtain⟨z1,z2,z3,z4,z5,z6,z7⟩:=pz
 have lt:∀r:List Nat,((rI' r).map PyData.int).length=r.length:=fun r=>by rw[List.length_map,yM]
 have ew:hW w="rings"\/hW w="find"\/hW w="need"\/hW w="help":=by
  rcases (show w=0\/w=1\/w=2\/w=3 by have:=A.w4;bv_omega) with rfl | rfl | rfl | rfl
  ·exact .inl rfl
  ·exact .inr (.inl rfl)
  ·exact .inr (.inr (.inl rfl))
  ·exact .inr (.inr (.inr rfl))
 show (jJ [some (.str (hW w)),some (tI (rI' (hN w os k))),some (tI xs)]).bind (fin false)=_
 unfold jJ
 rcases (show w=0\/w=1\/w=2\/w=3 by have:=A.w4;bv_omega) with rfl | rfl | rfl | rfl
 ·have er:=uU A.ord (show n<=1000 by have:=A.n60;bv_omega)
  have cc:=yL7 A (mi:=iS (eF yL (aC (eV 2) aN))) (f:=fun r=>tI (rI' r)) (ρ:=[some (.str "rings"),some (tI (rI' [])),some (tI xs)]) (fun r=>.inl rfl) (by
   simp -implicitDefEqProofs only[(evA),er]
   unfold ringsD
   rw[List.map_map]
   rfl)
  have l0:((rI' ([]:List Nat)).map PyData.int).length=0:=rfl
  show (sQ _ _ [some (.str "rings"),some (tI (rI' [])),some (tI xs)]).bind (fin false)=.ok (.str (rT (lens n xs)))
  simp -implicitDefEqProofs only[(evA),strEq z4,l0,vV,show ((0:Nat):Int)=0 from rfl,decide_true,cc,hX (.inr rfl) A.lens.1 A.lens.2]
 ·have ef:=zE8 A.ord A.opn A.n1 A.n60
  have eF':tI (FN n xs (rI' os))=tI (rI' (fl n xs os)):=rfl
  rw[eF'] at ef
  show (sQ _ _ [some (.str "find"),some (tI (rI' os)),some (tI xs)]).bind (fin false)=.ok (.str (tON (rT (fl n xs os))))
  simp -implicitDefEqProofs only[(evA),strNe z5 z4 (by decide +kernel),strEq z5,ef,hX (.inl rfl) A.fl.1 A.fl.2,xS7 (xT2 A.fl.1)]
 ·have en:=wV4 A.ord A.n60 A.k1 A.kn
  have es:strOfD [.int ((ND n k xs:Nat):Int)]=some (.str (numT (ND n k xs))):=if_pos (xR _ A.nd).2.2.2.1
  have a0:atI ((rI' [k]).map PyData.int) 0=some (.int (k:Int)):=rfl
  have l1:((rI' [k]).map PyData.int).length=1:=rfl
  show (sQ _ _ [some (.str "need"),some (tI (rI' [k])),some (tI xs)]).bind (fin false)=.ok (.str (numT (ND n k xs)))
  simp -implicitDefEqProofs only[(evA),strNe z6 z4 (by decide +kernel),strNe z6 z5 (by decide +kernel),strEq z6,l1,vV,show ((1:Nat):Int)=1 from rfl,decide_true,a0,en,es]
 ·have eh:=yM6 A
  have a0:atI ((rI' [k]).map PyData.int) 0=some (.int (k:Int)):=rfl
  have l1:((rI' [k]).map PyData.int).length=1:=rfl
  show (sQ _ _ [some (.str "help"),some (tI (rI' [k])),some (tI xs)]).bind (fin false)=.ok (.str (tON (hpT (MR.told n k xs))))
  simp -implicitDefEqProofs only[(evA),strNe z7 z4 (by decide +kernel),strNe z7 z5 (by decide +kernel),strNe z7 z6 (by decide +kernel),strEq z7,l1,vV,show ((1:Nat):Int)=1 from rfl,decide_true,a0,eh]
theorem xP4 (A:Ask w n xs os k):zU5 [.str (rowT w n xs os k)]=.ok (.str (ansT w n xs os k)):=by
 obtain⟨z1,z2,z3,z4,z5,z6,z7⟩:=pz
 have lb:=wF
 have rl:=xX9 A
 have hl:=(zA1 A).1
 obtain⟨n1,n2⟩:=A.hN
 have ep:partD (rowT w n xs os k) (.str " / ")=some (.tuple [.str (hdT w os k),.str " / ",.str (ordT n xs)]):=by
  unfold partD
  rw[yP,Option.bind_some,if_pos ⟨by decide,by bv_omega⟩,xI8 A]
 have es:splD (hdT w os k) (.str " ")=some (.list (.str (hW w)::((hN w os k).map numT).map PyData.str)):=by
  unfold splD
  rw[yP,Option.bind_some,if_pos ⟨by decide,by bv_omega⟩,xH3 A]
  rfl
 have ec:cutD (PyData.str (hW w)::((hN w os k).map numT).map PyData.str) (some 1) none=((hN w os k).map numT).map PyData.str:=by
  rw[show (1:Int)=((1:Nat):Int) from rfl,cF]
  rfl
 have a0:∀x y z:D,atI [x,y,z] 0=some x:=fun _ _ _=>rfl
 have a1:∀x y z:D,atI [x,y,z] 1=some y:=fun _ _ _=>rfl
 have a2:∀x y z:D,atI [x,y,z] 2=some z:=fun _ _ _=>rfl
 show (bK [some (.str (rowT w n xs os k)),none,none,none]).bind (fin false)=_
 unfold bK
 simp -implicitDefEqProofs only[(evA),xZ,yP,ep,a0,es,ec,aG n1 n2,a1,strNe z3 z1 (by decide +kernel),zF9,a2,zR2 A.ord A.n1 A.n60,wK9 A]
theorem xW5 (A:Ask w n xs os k):xV [.str (rowT w n xs os k)]=.ok (.str (ansT w n xs os k)):=by
 have ty:∀(mb:Ev->Res Out) (ρ:Ev),sTryN mb ρ=noEx (mb ρ):=fun _ _=>rfl
 have nx:∀x:Out,noEx (Res.ok x)=.ok x:=fun _=>rfl
 show (wQ [some (.str (rowT w n xs os k))]).bind (fin false)=_
 unfold wQ
 simp -implicitDefEqProofs only[(evA),ty,xP4 A,nx]
end
theorem zT5 {ts:List Str}(hl:ts.length<=12) (ht:∀t∈ts,t.length<=13000):JoinOk "\n" ts=true/\(Str.join "\n" ts).length+2<=sizeLine:=by
 have c:("\n":Str).length=1:=rfl
 have sl:sizeLine=16777216:=by decide
 have h1:=Nat.mul_le_mul_right 13000 hl
 refine⟨?_,?_⟩
 ·unfold JoinOk
  rw[StrLaws.joinFits ht (by rw[c];bv_omega)]
  rfl
 ·have a:=StrLaws.join_length_le "\n" ts
  have b:=StrLaws.sumLen_le ts ht
  rw[c] at a
  bv_omega
theorem yG4 {ts:List Str}(h0:ts ≠ []) (hl:ts.length<=12) (ht:∀t∈ts,t.length<=13000) (hf:∀t∈ts,10∉tl t):splD (Str.join "\n" ts) (.str "\n")=some (.list (ts.map PyData.str)):=by
 unfold splD
 rw[yP,Option.bind_some,if_pos ⟨by decide,(zT5 hl ht).2⟩,uY (c:=10) (y':=[]) rfl (by decide +kernel) h0 hf]
abbrev fL (n:Nat) (v:Nat->Int):D:=.list ((List.range (n+1)).map fun q=>PyData.int (v q))
theorem zV8 {n:Nat}{v u:Nat->Int}(h:∀q,q<=n->v q=u q):fL n v=fL n u :=
 congrArg PyData.list (List.map_congr_left fun q hq=>by rw[h q (by have:=List.mem_range.mp hq;bv_omega)])
theorem yT8 (a:Nat->Int) (q:Nat):∀n,M12.sumN (fun p=>if p=q then a p else 0) n=if q<n then a q else 0
 | 0=>by rw[if_neg (by bv_omega)];rfl
 | n+1=>by
  rw[M12.sumN,yT8 a q n]
  by_cases h:q<n
  ·simp[h,show ¬n=q by bv_omega,show q<n+1 by bv_omega]
  ·by_cases e:n=q
   ·subst e;simp
   ·simp[h,e,show ¬q<n+1 by bv_omega]
def Lm (o:Nat) (v:Nat->Int) (i q:Nat):Int:=M12.sumN (fun p=>(if p=q+1 then (p:Int)*v p else 0)+(if M12.inWin o q p then v p else 0)) i
theorem wQ9 (n o:Nat) (v:Nat->Int) (q:Nat):Lm o v (n+1) q=M12.stepM n o v q:=by
 unfold Lm M12.stepM
 rw[M12.kM,yT8 (fun p=>(p:Int)*v p) (q+1) (n+1)]
 congr 1
 by_cases h:q+1<=n
 ·rw[if_pos (by bv_omega),if_pos h]
  congr 1
 ·rw[if_neg (by bv_omega),if_neg h]
theorem yT7 {n i b:Nat}{x0 x1 x3:Option D}{w:Int}(M:Nat->Int) (hb:b<=n+1) (y:Option D):∃y',L3.forM (gN 5) (sJ0 2 (eV 5) addI (eV 4)) ((List.range (b-i)).map fun (k:Nat)=>PyData.int ((i+k:Nat):Int)) [x0,x1,some (fL n M),x3,some (.int w),y]=.ok (.nx [x0,x1,some (fL n fun q=>M q+(if i<=q/\q<i+(b-i) then w else 0)),x3,some (.int w),y']):=by
 obtain⟨ρ',e,y',rfl⟩:=vW (g:=gN 5) (b:=sJ0 2 (eV 5) addI (eV 4))
  (fun j ρ=>∃y,ρ=[x0,x1,some (fL n fun q=>M q+(if i<=q/\q<i+j then w else 0)),x3,some (.int w),y]) ((List.range (b-i)).map fun (k:Nat)=>PyData.int ((i+k:Nat):Int)) [x0,x1,some (fL n M),x3,some (.int w),y] ⟨y,by rw[zV8 (n:=n) (v:=fun q=>M q+(if i<=q/\q<i+0 then w else 0)) (u:=M) fun q _=>by rw[if_neg (by bv_omega),Int.add_zero]]⟩ (by
   rintro j d ρ hd ⟨y,rfl⟩
   obtain⟨hj,rfl⟩:=uB hd
   have hlt:i+j<n+1:=by bv_omega
   have at1:=yA2 (xd:=(List.range (n+1)).map fun q=>PyData.int (M q+(if i<=q/\q<i+j then w else 0))) (j:=i+j) (by rw[List.getElem?_map,List.getElem?_range hlt];rfl)
   refine⟨_,_,rfl,?_,some (.int ((i+j:Nat):Int)),rfl⟩
   simp -implicitDefEqProofs only[(evA),at1,zU9 hlt]
   refine congrArg (fun z=>Res.ok (Out.nx [x0,x1,some (PyData.list z),x3,some (PyData.int w),some (PyData.int ((i+j:Nat):Int))])) (List.map_congr_left fun q _ => ?_)
   show _=PyData.int (M q+(if i<=q/\q<i+(j+1) then w else 0))
   by_cases e:q=i+j
   ·subst e
    rw[if_pos rfl,if_neg (by bv_omega),if_pos (by bv_omega)]
    congr 1
    bv_omega
   ·rw[if_neg e]
    congr 2
    by_cases e2:i<=q/\q<i+j
    ·rw[if_pos e2,if_pos (by bv_omega)]
    ·rw[if_neg e2,if_neg (by bv_omega)])
 rw[List.length_map,List.length_range] at e
 exact⟨y',e⟩
theorem zY7 {n o:Nat}(hn:n<=60) (ho:o<=60) (v:Nat->Int):uA [fL n v,.int o]=.ok (fL n (M12.stepM n o v)):=by
 show (uF [some (fL n v),some (.int o),none,none,none,none]).bind (fin true)=_
 unfold uF
 have r0:=bE (.int 0) (n+1) (by bv_omega)
 rw[dI] at r0
 have le:((List.range (n+1)).map fun q=>PyData.int (v q)).length=n+1:=by simp
 simp -implicitDefEqProofs only[(evA),le,r0]
 refine uO (fun i ρ=>∃a b c,ρ=[some (fL n v),some (.int o),some (fL n (Lm o v i)),a,b,c]) ⟨none,none,none,rfl⟩ ?_ ?_
 ·rintro i d ρ hd ⟨a,b,c,rfl⟩
  unfold enumD at hd
  obtain⟨hi,rfl⟩:=uB hd
  rw[le] at hi
  have eg:((List.range (n+1)).map fun q=>PyData.int (v q)).getD i .none=.int (v i):=by
   rw[List.getD_eq_getElem?_getD,List.getElem?_map,List.getElem?_range hi];rfl
  rw[eg]
  have hm:(if ((n+1:Nat):Int)<(i:Int)+(o:Int) then ((n+1:Nat):Int) else (i:Int)+(o:Int))=((min (i+o) (n+1):Nat):Int):=by split <;> bv_omega
  have rg:=bY (a:=i) (b:=min (i+o) (n+1)) (by bv_omega) (by bv_omega)
  cases i with
  | zero =>
   obtain⟨y',inn⟩:=yT7 (n:=n) (i:=0) (b:=min (0+o) (n+1)) (x0:=some (fL n v)) (x1:=some (.int o)) (x3:=some (.int ((0:Nat):Int))) (w:=v 0) (Lm o v 0) (by bv_omega) c
   refine⟨_,_,rfl,?_,some (.int ((0:Nat):Int)),some (.int (v 0)),y',rfl⟩
   simp -implicitDefEqProofs only[(evA),decide_eq_false (show ¬(0:Int)<((0:Nat):Int) by bv_omega),le,min2D,hm,rg,inn]
   rw[zV8 (n:=n) (v:=fun q=>Lm o v 0 q+(if 0<=q/\q<0+(min (0+o) (n+1)-0) then v 0 else 0)) (u:=Lm o v (0+1)) fun q hq => ?_]
   show (0:Int)+(if 0<=q/\q<0+(min (0+o) (n+1)-0) then v 0 else 0)=0+((if 0=q+1 then ((0:Nat):Int)*v 0 else 0)+(if M12.inWin o q 0 then v 0 else 0))
   rw[if_neg (show ¬0=q+1 by bv_omega)]
   unfold M12.inWin
   by_cases e:(0:Nat)<=q/\q<0+(min (0+o) (n+1)-0)
   ·rw[if_pos e,if_pos (decide_eq_true (by bv_omega))];bv_omega
   ·rw[if_neg e,if_neg (by rw[decide_eq_true_iff];bv_omega)];bv_omega
  | succ j =>
   have hj:j<n+1:=by bv_omega
   have at1:=yA2 (xd:=(List.range (n+1)).map fun q=>PyData.int (Lm o v (j+1) q)) (j:=j) (by rw[List.getElem?_map,List.getElem?_range hj];rfl)
   have m1:=xA (i:=((j+1:Nat):Int)) (j:=v (j+1)) (MulOk.left (by bv_omega) (by bv_omega))
   have sd:=zU9 hj (fun q=>PyData.int (Lm o v (j+1) q)) (.int (Lm o v (j+1) j+((j+1:Nat):Int)*v (j+1)))
   have ef:((List.range (n+1)).map fun c=>if c=j then PyData.int (Lm o v (j+1) j+((j+1:Nat):Int)*v (j+1)) else PyData.int (Lm o v (j+1) c))=(List.range (n+1)).map fun q=>PyData.int (Lm o v (j+1) q+(if j+1=q+1 then ((j+1:Nat):Int)*v (j+1) else 0)):=List.map_congr_left fun q _=>by
    by_cases e:q=j
    ·subst e;rw[if_pos rfl,if_pos rfl]
    ·rw[if_neg e,if_neg (by bv_omega),Int.add_zero]
   rw[ef] at sd
   obtain⟨y',inn⟩:=yT7 (n:=n) (i:=j+1) (b:=min (j+1+o) (n+1)) (x0:=some (fL n v)) (x1:=some (.int o)) (x3:=some (.int ((j+1:Nat):Int))) (w:=v (j+1)) (fun q=>Lm o v (j+1) q+(if j+1=q+1 then ((j+1:Nat):Int)*v (j+1) else 0)) (by bv_omega) c
   refine⟨_,_,rfl,?_,some (.int ((j+1:Nat):Int)),some (.int (v (j+1))),y',rfl⟩
   simp -implicitDefEqProofs only[(evA),decide_eq_true (show (0:Int)<((j+1:Nat):Int) by bv_omega),show ((j+1:Nat):Int)-1=(j:Int) by bv_omega,at1,m1,sd,le,min2D,hm,rg,inn]
   rw[zV8 (n:=n) (v:=fun q=>Lm o v (j+1) q+(if j+1=q+1 then ((j+1:Nat):Int)*v (j+1) else 0)+(if j+1<=q/\q<j+1+(min (j+1+o) (n+1)-(j+1)) then v (j+1) else 0)) (u:=Lm o v (j+1+1)) fun q hq => ?_]
   show Lm o v (j+1) q+(if j+1=q+1 then ((j+1:Nat):Int)*v (j+1) else 0)+(if j+1<=q/\q<j+1+(min (j+1+o) (n+1)-(j+1)) then v (j+1) else 0)=Lm o v (j+1) q+((if j+1=q+1 then ((j+1:Nat):Int)*v (j+1) else 0)+(if M12.inWin o q (j+1) then v (j+1) else 0))
   unfold M12.inWin
   by_cases e:(j+1:Nat)<=q/\q<j+1+(min (j+1+o) (n+1)-(j+1))
   ·rw[if_pos e,if_pos (decide_eq_true (show j+1<=q/\q<j+1+o by bv_omega))];bv_omega
   ·rw[if_neg e,if_neg (show ¬decide (j+1<=q/\q<j+1+o)=true by rw[decide_eq_true_iff];bv_omega)];bv_omega
 ·rintro ρ ⟨a,b,c,rfl⟩
  have:(enumD ((List.range (n+1)).map fun q=>PyData.int (v q))).length=n+1:=by unfold enumD;simp
  rw[this]
  simp -implicitDefEqProofs only[(evA)]
  rw[zV8 fun q _=>wQ9 n o v q]
theorem wS3 (n:Nat):catL (.list [.int 1]) (.list ((List.range n).map fun _=>PyData.int 0))=(if n+1<=1000 then some (fL n M12.e0) else catL (.list [.int 1]) (.list ((List.range n).map fun _=>PyData.int 0))):=by
 by_cases h:n+1<=1000
 ·rw[if_pos h]
  have e:fL n M12.e0=lI ([1]++(List.range n).map fun _=>(0:Int)):=by
   show PyData.list _=PyData.list _
   congr 1
   rw[List.range_succ_eq_map,List.map_cons,List.map_append,List.map_map,List.map_map]
   rfl
  rw[e,<-wT3 (xs:=[1]) (ys:=(List.range n).map fun _=>(0:Int)) (by simp;bv_omega)]
  congr 1
  simp only[lI,List.map_map,Function.comp_def]
 ·rw[if_neg h]
theorem yD8 {n:Nat}{ops:List Int}(q:Opn n ops) (h1:1<=n) (h2:n<=60):zV4 [tI ops]=.ok (.int (M12.runM n ((sortI ops).map Int.toNat) 0)):=by
 show (zS5 [some (tI ops),none,none,none]).bind (fin false)=_
 unfold zS5
 have r0:=bE (.int 0) n (by bv_omega)
 rw[dI] at r0
 have e0:=wS3 n
 rw[if_pos (by bv_omega)] at e0
 have so:sortD [tI ops]=some (lI (sortI ops)):=by
  unfold sortD
  simp only[nsD,seqD,Option.bind_some,intsOf_map]
  rw[if_pos (by rw[q.len];bv_omega)]
 simp -implicitDefEqProofs only[(evA),List.length_map,q.len,bJ q h1 h2,r0,e0,so]
 have bd:∀x∈sortI ops,0<=x/\x<=n:=fun x hx=>q.bd x ((wW ops).mem_iff.mp hx)
 refine uO (fun i ρ=>∃a,ρ=[some (tI ops),some (.int n),some (fL n (M12.runM n (((sortI ops).map Int.toNat).take i))),a]) ⟨none,rfl⟩ ?_ ?_
 ·rintro i d ρ hd ⟨a,rfl⟩
  rw[List.getElem?_map] at hd
  obtain⟨x,hx,rfl⟩:=Option.map_eq_some_iff.mp hd
  have hb:=bd x (List.mem_of_getElem? hx)
  have eb:=zY7 (n:=n) (o:=x.toNat) h2 (by bv_omega) (M12.runM n (((sortI ops).map Int.toNat).take i))
  rw[show ((x.toNat:Nat):Int)=x by bv_omega] at eb
  refine⟨_,_,rfl,?_,some (.int x),rfl⟩
  simp -implicitDefEqProofs only[(evA),eb]
  have tk:((sortI ops).map Int.toNat).take (i+1)=((sortI ops).map Int.toNat).take i ++ [x.toNat]:=by
   rw[List.take_succ,List.getElem?_map,hx];rfl
  rw[tk,M12.kH]
 ·rintro ρ ⟨a,rfl⟩
  have a0:=zQ6 (show 0<n+1 by bv_omega) fun k=>PyData.int (M12.runM n ((sortI ops).map Int.toNat) k)
  rw[List.length_map]
  have tl:((sortI ops).map Int.toNat).take (sortI ops).length=(sortI ops).map Int.toNat:=by
   rw[List.take_of_length_le (by rw[List.length_map];exact Nat.le_refl _)]
  rw[tl]
  have a0':atI ((List.range (n+1)).map fun k=>PyData.int (M12.runM n ((sortI ops).map Int.toNat) k)) 0=_:=a0
  simp -implicitDefEqProofs only[(evA),a0']
theorem zG2 {F:Nat->Int}:∀{n:Nat},(∀i,i<n->0<=F i)->0<=M12.sumN F n
 | 0,_=>Int.le_refl _
 | n+1,h=>by
  rw[M12.sumN]
  have h1:=zG2 (n:=n) fun i hi=>h i (by bv_omega)
  have h2:=h n (by bv_omega)
  bv_omega
theorem zB2 (l:Nat):∀d:Nat,d<=l->0<M12.ff (l:Int) d
 | 0,_=>by rw[M12.ff];decide
 | d+1,h=>by
  rw[M12.ff]
  exact Int.mul_pos (zB2 l d (by bv_omega)) (by bv_omega)
theorem yG2 {n o:Nat}{u:Nat->Int}(h:∀i,0<=u i) (i:Nat):0<=M12.stepL n o u i:=by
 unfold M12.stepL
 have h1:0<=(if i=0 then (0:Int) else u (i-1)):=by
  split
  ·exact Int.le_refl _
  ·exact h _
 have h2:0<=M12.sumN (fun l=>if M12.inWin o l i then u l*M12.ff (l:Int) (l-i) else 0) n:=zG2 fun l _=>by
  show 0<=(if M12.inWin o l i then u l*M12.ff (l:Int) (l-i) else 0)
  split
  ·exact Int.mul_nonneg (h l) (Int.le_of_lt (zB2 l (l-i) (by bv_omega)))
  ·exact Int.le_refl _
 bv_omega
theorem zG5 (n:Nat):∀(os:List Nat) (i:Nat),0<=M12.runL n os.reverse i
 | [],i=>by
  show 0<=M12.e0 i
  unfold M12.e0
  split <;> decide
 | o::os,i=>by
  rw[List.reverse_cons,M12.zO1]
  exact yG2 (zG5 n os) i
theorem yF1 (n:Nat) (os:List Nat) (i:Nat):0<=M12.runL n os i:=by
 have:=zG5 n os.reverse i
 rwa [List.reverse_reverse] at this
theorem xD9 {n:Nat}{ops:List Int}(q:Opn n ops):M12.runL n ((sortI ops).reverse.map Int.toNat) 0=M12.runM n ((sortI ops).map Int.toNat) 0:=by
 have h:=M12.yF4 ((sortI ops).map Int.toNat)
 rw[List.length_map,(wW ops).length_eq,q.len,<-List.map_reverse] at h
 exact h
theorem yV6 {n:Nat}(h1:1<=n) (h2:n<=60):dF [.int n]=.ok (.int (M12.fac n)):=by
 show (dC [some (.int n),none,none]).bind (fin false)=_
 unfold dC
 have rg:=bY (a:=2) (b:=n+1) (by bv_omega) (by bv_omega)
 rw[show ((2:Nat):Int)=2 from rfl,show ((n+1:Nat):Int)=(n:Int)+1 by bv_omega] at rg
 simp -implicitDefEqProofs only[(evA),rg]
 refine uO (fun i ρ=>∃a,ρ=[some (.int n),some (.int (M12.fac (i+1))),a]) ⟨none,rfl⟩ ?_ ?_
 ·rintro i d ρ hd ⟨a,rfl⟩
  obtain⟨hi,rfl⟩:=uB hd
  have m1:=xA (i:=M12.fac (i+1)) (j:=((2+i:Nat):Int)) (MulOk.right (by bv_omega) (by bv_omega))
  refine⟨_,_,rfl,?_,some (.int ((2+i:Nat):Int)),rfl⟩
  simp -implicitDefEqProofs only[(evA),m1]
  rw[show M12.fac (i+1+1)=M12.fac (i+1)*((2+i:Nat):Int) from congrArg (M12.fac (i+1) * ·) (by bv_omega)]
 ·rintro ρ ⟨a,rfl⟩
  rw[List.length_map,List.length_range,show n+1-2+1=n by bv_omega]
  simp -implicitDefEqProofs only[(evA)]
abbrev dT:Ev->Res Bool:=b2 gtI (eV 1) (eC (.int 0))
abbrev dB:Ev->Res Out:=sQ (sS 2 (e2 modI (eV 0) (eV 1))) (sQ (sS 0 (eV 1)) (sS 1 (eV 2)))
theorem wG6 (a b:Nat) (hb:0<b) (r:Option D):dB [some (.int a),some (.int b),r]=.ok (.nx [some (.int b),some (.int ((a%b:Nat):Int)),some (.int ((a%b:Nat):Int))]):=by
 have m:modO (a:Int) (b:Int)=some ((a%b:Nat):Int):=by
  unfold modO
  rw[if_pos (by bv_omega)]
  congr 1
 unfold dB
 simp -implicitDefEqProofs only[(evA),m]
theorem yH9 (a b:Nat):Nat.gcd a b=Nat.gcd b (a%b):=by
 rw[Nat.gcd_comm a b,Nat.gcd_rec b a,Nat.gcd_comm]
theorem zN8 {f a:Nat}{r:Option D}:whM dT dB (f+1) [some (.int a),some (.int ((0:Nat):Int)),r]=.ok (.nx [some (.int ((Nat.gcd a 0:Nat):Int)),some (.int ((0:Nat):Int)),r]):=by
 rw[whM,Nat.gcd_zero_right]
 show (dT [some (.int a),some (.int ((0:Nat):Int)),r]).bind _=_
 unfold dT
 simp -implicitDefEqProofs only[(evA),decide_eq_false (show ¬(0:Int)<((0:Nat):Int) by bv_omega)]
theorem yH5 {f a b:Nat}{r:Option D}(hb:0<b):whM dT dB (f+1) [some (.int a),some (.int b),r]=whM dT dB f [some (.int b),some (.int ((a%b:Nat):Int)),some (.int ((a%b:Nat):Int))]:=by
 rw[whM]
 have t:dT [some (.int a),some (.int b),r]=.ok true:=by
  unfold dT
  simp -implicitDefEqProofs only[(evA),decide_eq_true (show (0:Int)<(b:Int) by bv_omega)]
 rw[t,Res.bind_ok,if_pos rfl,wG6 a b hb,Res.bind_ok]
theorem yF9:∀(k a b fuel:Nat) (r:Option D),b<2 ^ k->2*k<fuel->∃r',whM dT dB fuel [some (.int a),some (.int b),r]=.ok (.nx [some (.int ((Nat.gcd a b:Nat):Int)),some (.int ((0:Nat):Int)),r'])
 | 0,a,b,fuel,r,hb,hf=>by
  obtain rfl:b=0:=by simp at hb;exact hb
  obtain⟨f,rfl⟩:∃f,fuel=f+1:=⟨fuel-1,by bv_omega⟩
  exact⟨r,zN8⟩
 | k+1,a,b,fuel,r,hb,hf=>by
  obtain⟨f,rfl⟩:∃f,fuel=f+1+1:=⟨fuel-2,by bv_omega⟩
  rcases Nat.eq_zero_or_pos b with z | z
  ·subst z
   exact⟨r,zN8⟩
  ·rw[yH5 z,yH9 a b]
   rcases Nat.eq_zero_or_pos (a%b) with y | y
   ·rw[y]
    exact⟨_,zN8⟩
   ·rw[yH5 y,yH9 b (a%b)]
    refine yF9 k _ _ f _ ?_ (by bv_omega)
    have h1:=Nat.mod_lt a z
    have h2:=Nat.mod_lt b y
    have h3:b%(a%b)+(a%b)<=b:=by
     have:=Nat.mod_add_div b (a%b)
     have hq:1<=b / (a%b):=Nat.div_pos (by bv_omega) y
     have:(a%b)*1<=(a%b)*(b / (a%b)):=Nat.mul_le_mul_left _ hq
     bv_omega
    rw[Nat.pow_succ] at hb
    bv_omega
theorem zQ3 {a b:Nat}(hb:b<2 ^ 1000):qC [.int a,.int b]=.ok (.int ((Nat.gcd a b:Nat):Int)):=by
 show (jZ [some (.int a),some (.int b),none]).bind (fin false)=_
 unfold jZ
 obtain⟨r,e⟩:=yF9 1000 a b 1000000 none hb (by decide)
 simp -implicitDefEqProofs only[(evA),e]
theorem xX3:∀n:Nat,n<=60->∃W:Nat,M12.fac n=(W:Int)/\0<W/\W<=2 ^ (6*n)
 | 0,_=>⟨1,rfl,by decide,by decide⟩
 | n+1,h=>by
  obtain⟨W,e,h1,h2⟩:=xX3 n (by bv_omega)
  refine⟨W*(n+1),by rw[M12.fac,e];push_cast;rfl,Nat.mul_pos h1 (by bv_omega),?_⟩
  rw[show 6*(n+1)=6*n+6 by bv_omega,Nat.pow_add]
  exact Nat.mul_le_mul h2 (by bv_omega)
theorem xY6 {F:Nat->Int}{B:Int}:∀{n:Nat},(∀i,i<n->F i<=B)->M12.sumN F n<=(n:Int)*B
 | 0,_=>by simp[M12.sumN]
 | n+1,h=>by
  rw[M12.sumN]
  have h1:=xY6 (n:=n) fun i hi=>h i (by bv_omega)
  have h2:=h n (by bv_omega)
  rw[show ((n+1:Nat):Int)=(n:Int)+1 by bv_omega,Int.add_mul,Int.one_mul]
  bv_omega
theorem xE3 {n o:Nat}{v:Nat->Int}{B:Int}(hn:n<=60) (hB:0<=B) (h:∀q,q<=n->v q<=B) (q:Nat) (hq:q<=n):M12.stepM n o v q<=128*B:=by
 unfold M12.stepM
 have h1:(if q+1<=n then ((q:Int)+1)*v (q+1) else 0)<=60*B:=by
  split
  ·rename_i hh
   exact Int.le_trans (Int.mul_le_mul_of_nonneg_left (h (q+1) hh) (by bv_omega)) (Int.mul_le_mul_of_nonneg_right (by bv_omega) hB)
  ·bv_omega
 have h2:M12.sumN (fun p=>if M12.inWin o q p then v p else 0) (n+1)<=((n+1:Nat):Int)*B:=xY6 fun p hp=>by
  show (if M12.inWin o q p then v p else 0)<=B
  split
  ·exact h p (by bv_omega)
  ·exact hB
 have h3:((n+1:Nat):Int)*B<=61*B:=Int.mul_le_mul_of_nonneg_right (by bv_omega) hB
 bv_omega
theorem yB5 {n:Nat}(hn:n<=60):∀(os:List Nat) (q:Nat),q<=n->M12.runM n os.reverse q<=128 ^ os.length
 | [],q,_=>by
  show M12.e0 q<=1
  unfold M12.e0
  split <;> decide
 | o::os,q,hq=>by
  rw[List.reverse_cons,M12.kH,List.length_cons,Int.pow_succ,Int.mul_comm]
  exact xE3 hn (Int.pow_nonneg (by decide)) (fun q hq=>yB5 hn os q hq) q hq
theorem xB4 {n:Nat}{ops:List Int}(q:Opn n ops) (h2:n<=60):∃F:Nat,M12.runM n ((sortI ops).map Int.toNat) 0=(F:Int)/\F<2 ^ 421:=by
 have p:=yF1 n ((sortI ops).reverse.map Int.toNat) 0
 rw[xD9 q] at p
 have l:=yB5 h2 ((sortI ops).map Int.toNat).reverse 0 (by bv_omega)
 rw[List.reverse_reverse,List.length_reverse,List.length_map,(wW ops).length_eq,q.len] at l
 refine⟨(M12.runM n ((sortI ops).map Int.toNat) 0).toNat,by bv_omega,?_⟩
 have e:(128:Int) ^ n<=2 ^ 420:=by
  have:(128:Nat) ^ n<=2 ^ 420:=by
   rw[show (128:Nat)=2 ^ 7 by decide,<-Nat.pow_mul]
   exact Nat.pow_le_pow_right (by decide) (by bv_omega)
  exact_mod_cast this
 have e2:(2:Int) ^ 420<2 ^ 421:=by decide
 have e3:((2 ^ 421:Nat):Int)=(2:Int) ^ 421:=by push_cast;rfl
 have:((M12.runM n ((sortI ops).map Int.toNat) 0).toNat:Int)<((2 ^ 421:Nat):Int):=by rw[e3];bv_omega
 exact_mod_cast this
theorem xQ9 {d:Nat}(h:0<d) (h2:d<2 ^ 1000):DivOk (d:Int):=by
 refine⟨by bv_omega,?_⟩
 rw[Int.natAbs_natCast]
 exact Nat.lt_trans ((Nat.log2_lt (by bv_omega)).mpr h2) (by decide)
theorem xI2 {n F W:Nat}{ops:List Int}(q:Opn n ops) (h1:1<=n) (h2:n<=60) (hF:M12.runM n ((sortI ops).map Int.toNat) 0=(F:Int)) (hF2:F<2 ^ 421) (hW:M12.fac n=(W:Int)) (hW1:0<W) (hW2:W<=2 ^ (6*n)):zJ6 [tI ops]=.ok (.tuple [.int ((F / Nat.gcd W F:Nat):Int),.int ((W / Nat.gcd W F:Nat):Int)]):=by
 show (yV9 [some (tI ops),none,none,none]).bind (fin false)=_
 unfold yV9
 have b1:F<2 ^ 1000:=Nat.lt_of_lt_of_le hF2 (Nat.pow_le_pow_right (by decide) (by decide))
 have eg:=zQ3 (a:=W) (b:=F) b1
 have gp:0<Nat.gcd W F:=Nat.gcd_pos_of_pos_left _ hW1
 have gl:Nat.gcd W F<2 ^ 1000:=Nat.lt_of_le_of_lt (Nat.gcd_le_left _ hW1) (Nat.lt_of_le_of_lt hW2 (Nat.pow_lt_pow_right (by decide) (by bv_omega)))
 have dv:=xQ9 gp gl
 have em:=yD8 q h1 h2
 rw[hF] at em
 have eo:=yV6 h1 h2
 rw[hW] at eo
 simp -implicitDefEqProofs only[(evA),em,List.length_map,q.len,eo,eg,fdivO,if_pos dv]
 rfl
def chk (p:Int):Int->List Int->Bool
 | _,[]=>true
 | l,x::xs=>decide (l<=x/\x<p)&&chk p (x+1) xs
theorem yB1 {p:Int}:∀(xs:List Int) (l:Int),l<=p->chk p l xs=true->l+(xs.length:Int)<=p
 | [],l,h,_=>by simpa using h
 | x::xs,l,h,c=>by
  rw[chk,Bool.and_eq_true,decide_eq_true_iff] at c
  have:=yB1 xs (x+1) (by bv_omega) c.2
  rw[List.length_cons]
  bv_omega
def cgB:Ev->Res Out:=(sQ (sIf (tNt (b3 leI ltI (eV 2) (eV 3) (eV 0))) (sRa "BadGroup" (aC (eC (.str "a group is a rising tuple of unlike people")) aN)) sN) (sS 2 (e2 addI (eV 3) (eC (.int 1)))))
theorem xB6 {p:Int}{g:Option D}:∀(xs:List Int) (l:Int) (y:Option D),chk p l xs=true->∃l' y',L3.forM (gN 3) cgB (xs.map PyData.int) [some (.int p),g,some (.int l),y]=.ok (.nx [some (.int p),g,some (.int l'),y'])
 | [],l,y,_=>⟨l,y,rfl⟩
 | x::xs,l,y,c=>by
  rw[chk,Bool.and_eq_true,decide_eq_true_iff] at c
  obtain⟨l',y',e⟩:=xB6 (g:=g) xs (x+1) (some (.int x)) c.2
  refine⟨l',y',?_⟩
  have t:cgB [some (.int p),g,some (.int l),some (.int x)]=.ok (.nx [some (.int p),g,some (.int (x+1)),some (.int x)]):=by
   unfold cgB
   simp -implicitDefEqProofs only[(evA),decide_eq_true c.1.1,decide_eq_true c.1.2]
  show (Res.lft (gN 3 (.int x) [some (.int p),g,some (.int l),y])).bind _=_
  simp -implicitDefEqProofs only[(evA),t]
  exact e
theorem yO2:dA=(sQ (sS 2 (eC (.int 0))) (sF (iS (eV 1)) (gN 3) cgB)):=rfl
theorem yX8 {p:Int}{xs:List Int}(h:chk p 0 xs=true):dH [.int p,tI xs]=.ok .none:=by
 show (dA [some (.int p),some (tI xs),none,none]).bind (fin false)=_
 rw[yO2]
 obtain⟨l',y',e⟩:=xB6 (g:=some (tI xs)) xs 0 none h
 simp -implicitDefEqProofs only[(evA),e]
theorem zK3 {p:Int}{s:Nat}(h1:0<=p) (h2:p<=1000) (hs:s<=1000):jC [.int p,.int s]=.ok (.int (M12.ff p s)):=by
 show (zZ7 [some (.int p),some (.int s),none,none]).bind (fin false)=_
 unfold zZ7
 simp -implicitDefEqProofs only[(evA),cJ hs]
 refine uO (fun i ρ=>∃y,ρ=[some (.int p),some (.int s),some (.int (M12.ff p i)),y]) ⟨none,rfl⟩ ?_ ?_
 ·rintro i d ρ hd ⟨y,rfl⟩
  obtain⟨hi,rfl⟩:=zK6 hd
  have m1:=xA (i:=M12.ff p i) (j:=p-(i:Int)) (MulOk.right (by bv_omega) (by bv_omega))
  refine⟨_,_,rfl,?_,some (.int (i:Int)),rfl⟩
  simp -implicitDefEqProofs only[(evA),m1]
  rfl
 ·rintro ρ ⟨y,rfl⟩
  rw[List.length_map,List.length_range]
  simp -implicitDefEqProofs only[(evA)]
theorem xJ5 {c j:Nat}(hc:c<=60) (hj:j<=60):Small (M12.ff (c:Int) j):=by
 have:=M12.yU3 (c+1) j (by bv_omega) (by bv_omega)
 rw[show ((c+1:Nat):Int)-1=(c:Int) by bv_omega] at this
 exact⟨367,by decide,this⟩
def gsum (ms:List Int) (s:Nat):Int:=((List.range ms.length).map fun (c:Nat)=>ms.getD c 0*M12.ff (c:Int) s).sum
theorem xD5 (ms:List Int):enumD (ms.map PyData.int)=(List.range ms.length).map fun (i:Nat)=>PyData.tuple [.int (i:Int),.int (ms.getD i 0)]:=by
 unfold enumD
 rw[List.length_map]
 refine List.map_congr_left fun i hi => ?_
 have hi:=List.mem_range.mp hi
 simp only[List.getD_eq_getElem?_getD,List.getElem?_map,List.getElem?_eq_getElem hi,Option.map_some,Option.getD_some]
theorem zO5 {n s:Nat}{ms:List Int}(hl:ms.length=n+1) (hn:n<=60) (hs:s<=n) (hm:∀v∈ms,Small v):jH [lI ms,.int s]=.ok (.int (gsum ms s / M12.ff (n:Int) s)):=by
 show (jG [some (lI ms),some (.int s),none]).bind (fin false)=_
 unfold jG
 have cc:eComp2 (jD (eV 0)) tYes (e2 mulI (eV 1) (eF jC (aC (eV 0) (aC (eV 2) aN)))) [1] [some (lI ms),some (.int s),none]=.ok (lI ((List.range ms.length).map fun (c:Nat)=>ms.getD c 0*M12.ff (c:Int) s)):=by
  rw[xU2 (fun i:Nat=>PyData.int (i:Int)) (fun i:Nat=>PyData.int (ms.getD i 0)) (fun i:Nat=>PyData.int (ms.getD i 0*M12.ff (i:Int) s)) (List.range ms.length) (by
   simp -implicitDefEqProofs only[(evA),xD5]) (by rw[List.length_range];bv_omega) fun i hi=>by
    have hi:=List.mem_range.mp hi
    have mm:ms.getD i 0∈ms:=by
     rw[List.getD,List.getElem?_eq_getElem hi]
     exact List.getElem_mem hi
    have m1:=xA (i:=ms.getD i 0) (j:=M12.ff (i:Int) s) (.inr ⟨hm _ mm,xJ5 (by bv_omega) (by bv_omega)⟩)
    show e2 mulI _ _ [some (.int (i:Int)),some (.int (ms.getD i 0)),some (.int s)]=_
    simp -implicitDefEqProofs only[(evA),zK3 (p:=(i:Int)) (s:=s) (by bv_omega) (by bv_omega) (by bv_omega),m1]]
  simp only[lI,List.map_map,Function.comp_def]
 have hd:DivOk (M12.ff (n:Int) s):=by
  have p0:=zB2 n s hs
  refine⟨p0,?_⟩
  have:=M12.yU3 (n+1) s (by bv_omega) (by bv_omega)
  rw[show ((n+1:Nat):Int)-1=(n:Int) by bv_omega] at this
  exact Nat.lt_trans ((Nat.log2_lt (by bv_omega)).mpr this) (by decide)
 have hl':(ms.map PyData.int).length=n+1:=by rw[List.length_map,hl]
 simp -implicitDefEqProofs only[(evA),cc,xY8,hl',show ((n+1:Nat):Int)-1=(n:Int) by bv_omega,zK3 (p:=(n:Int)) (s:=s) (by bv_omega) (by bv_omega) (by bv_omega),fdivO,if_pos hd]
 rfl
theorem yG7 {n:Nat}{k:Int}(hn:n<=60):∀i,i<=n+1->∀v∈Tl n k i,Small v
 | 0,_,v,hv=>nomatch hv
 | i+1,hi,v,hv=>by
  have hv:v∈Tl n k i ++ [M12.bin n i*(M12.mbl 1 k n).getD i 0*(M12.mbl (k+1) n n).getD (n-i) 0]:=hv
  rcases List.mem_append.mp hv with hv | hv
  ·exact yG7 hn i (by bv_omega) v hv
  ·rw[List.mem_singleton] at hv
   rw[hv,M12.vH 1 k n i (by bv_omega),M12.vH (k+1) n n (n-i) (by bv_omega)]
   obtain⟨b1,l1,h1⟩:=zC3 (m:=i) (i:=i) (l:=1) (k:=k) hn (by bv_omega)
   refine⟨48063,by decide,?_⟩
   have a:=M12.zA4 (k+1) n (n-i) (by bv_omega)
   have a1:(M12.bin n i*M12.G 1 k i).natAbs<2 ^ (61+24001):=by
    have h:=yG8 (m:=i) hn
    have h0:=M12.gL n i
    have a:(M12.bin n i).natAbs<2 ^ 61:=by
     have:((M12.bin n i).natAbs:Int)<((2 ^ 61:Nat):Int):=by
      rw[Int.natAbs_of_nonneg h0]
      exact_mod_cast h
     exact_mod_cast this
    rw[Int.natAbs_mul,Nat.pow_add]
    exact Nat.mul_lt_mul'' a (M12.zA4 1 k i (by bv_omega))
   rw[Int.natAbs_mul,show (48063:Nat)=(61+24001)+24001 by decide,Nat.pow_add]
   exact Nat.mul_lt_mul'' a1 a
theorem yY4 {n:Nat}{k:Int}{xs:List Int}(hn:n<=60) (hk:0<=k) (hx:chk (n:Int) 0 xs=true):cY [.int n,.int k,tI xs]=.ok (.int (gsum (Tl n k (n+1)) xs.length / M12.ff (n:Int) xs.length)):=by
 show (dD [some (.int n),some (.int k),some (tI xs),none]).bind (fin false)=_
 unfold dD
 have lx:=yB1 xs 0 (by bv_omega) hx
 have lt:(Tl n k (n+1)).length=n+1:=M12.uP _ _ _ _
 have hl:(xs.map PyData.int).length=xs.length:=List.length_map ..
 simp -implicitDefEqProofs only[(evA),yZ1 hn hk,yX8 hx,hl,zO5 (n:=n) (s:=xs.length) lt hn (by bv_omega) (yG7 hn (n+1) (Nat.le_refl _))]
structure NW (W:Str) (ns:List Nat):Prop where
 ok:PyData.strOk W=true
 len:W.length<=20
 f32:32∉tl W
 f10:10∉tl W
 f47:47∉tl W
 num:∀x∈ns,x<10 ^ 80
 few:ns.length<=60
def nrow (W:Str) (ns:List Nat):Str:=Str.join " " (W::ns.map nT)
theorem zV1 {n:Nat}(h:n<10 ^ 80){c:Nat}(hc:c<48):c∉tl (nT n):=fun z=>by
 have:=((xM h).fig c z).1
 bv_omega
section
variable {W:Str}{ns:List Nat}
theorem vL (A:NW W ns):(nrow W ns).length<=5000/\10∉tl (nrow W ns)/\47∉tl (nrow W ns):=by
 have f:∀c,c<48->c≠32->c∉tl W->c∉tl (nrow W ns):=fun c h1 h2 h3=>by
  refine qK (fun z=>h2 (List.mem_singleton.mp z)) _ fun t ht => ?_
  rcases List.mem_cons.mp ht with rfl | ht
  ·exact h3
  ·obtain⟨x,hx,rfl⟩:=List.mem_map.mp ht
   exact zV1 (A.num x hx) h1
 refine⟨?_,f 10 (by decide) (by decide) A.f10,f 47 (by decide) (by decide) A.f47⟩
 have j:=xX8 (sep:=" ") (ts:=W::ns.map nT) (B:=80) (n:=61) rfl (by have:=A.few;simp;bv_omega) (fun t ht=>by
  rcases List.mem_cons.mp ht with rfl | ht
  ·have:=A.len
   bv_omega
  ·obtain⟨x,hx,rfl⟩:=List.mem_map.mp ht
   exact (xM (A.num x hx)).len) (by decide)
 have:=j.2
 unfold nrow
 bv_omega
theorem xT8 (A:NW W ns):Txt.split (nrow W ns) " " = W::ns.map nT :=
 uY (c:=32) (y':=[]) rfl (by decide +kernel) (fun z=>nomatch z) fun p hp=>by
  rcases List.mem_cons.mp hp with rfl | hp
  ·exact A.f32
  ·obtain⟨x,hx,rfl⟩:=List.mem_map.mp hp
   exact zV1 (A.num x hx) (by decide)
theorem wU7 {x:Str}(h:47∉tl x):Txt.partition x " / " = (x,Str.empty,Str.empty):=by
 unfold Txt.partition
 rcases StrLaws.occ_head x " / " 1 (Nat.le_refl 1) with ⟨h0,_⟩ | ⟨i,r,_,hi,_⟩
 ·rw[h0]
 ·have e:=(zM4 (x:=x) (y:=" / ") (k:=i) (by decide)).mp hi
  have ty:tl (" / ":Str)=[32,47,32]:=rfl
  rw[ty] at e
  have m:47∈((tl x).drop i).take (" / ":Str).length:=by rw[e];simp
  exact absurd (List.mem_of_mem_drop (List.mem_of_mem_take m)) h
theorem zC4 {b:Nat}(h:b<10 ^ 80):wS [.str (nT b),.int 1]=.ok (.int (b:Int)):=by
 have B:=xM h
 have lb:=wF
 have l80:=B.len
 have e1:lenTD [.str (nT b)]=some (.int ((nT b).length:Int)):=if_pos (by bv_omega)
 have e2':intTD [.str (nT b)]=some (.int (b:Int)):=by
  show (if (nT b).length<=640 then (PySem.intText? (nT b)).map PyData.int else none)=_
  rw[if_pos (by bv_omega),B.int]
  rfl
 have e3:stwD (nT b) (.str "0")=some (.bool (Txt.startswith (nT b) "0")):=rfl
 show (qY [some (.str (nT b)),some (.int 1)]).bind (fin false)=_
 unfold qY
 rcases B.zero with n3 | n3
 ·simp -implicitDefEqProofs only[(evA),fV,xZ,yP,B.dig,e1,decide_eq_false (show ¬(90:Int)<((nT b).length:Int) by bv_omega),e3,n3,e2']
 ·have nn:neD (.str (nT b)) (.str "0")=some false:=by
   rw[<-n3,cK B.ok B.ok,decide_eq_true rfl]
   rfl
  have n2:=B.dig
  generalize Txt.startswith (nT b) "0" = v at e3
  cases v
  ·simp -implicitDefEqProofs only[(evA),fV,xZ,yP,n2,e1,decide_eq_false (show ¬(90:Int)<((nT b).length:Int) by bv_omega),e3,e2']
  ·simp -implicitDefEqProofs only[(evA),fV,xZ,yP,n2,e1,decide_eq_false (show ¬(90:Int)<((nT b).length:Int) by bv_omega),e3,nn,e2']
theorem zF3 (A:NW W ns):wP [.list ((ns.map nT).map PyData.str),.int 1]=.ok (tI (rI' ns)):=by
 have cc:eComp (iS (eV 0)) tYes (eF wS (aC (eV 0) (aC (eV 1) aN))) [1] [some (.list ((ns.map nT).map PyData.str)),some (.int 1)]=.ok (.list (ns.map fun b:Nat=>PyData.int (b:Int))):=by
  refine xJ (fun b:Nat=>PyData.str (nT b)) (fun b=>PyData.int (b:Int)) ns (by
   simp -implicitDefEqProofs only[(evA)]
   rw[List.map_map]
   rfl) (by have:=A.few;bv_omega) fun b hb => ?_
  show eF wS (aC (eV 0) (aC (eV 1) aN)) [some (.str (nT b)),some (.int 1)]=_
  simp -implicitDefEqProofs only[(evA),zC4 (A.num b hb)]
 have e:(PyData.tuple (ns.map fun b:Nat=>PyData.int (b:Int)))=tI (rI' ns):=by
  unfold tI rI'
  rw[List.map_map]
  rfl
 show (uM [some (.list ((ns.map nT).map PyData.str)),some (.int 1)]).bind (fin false)=_
 unfold uM
 simp -implicitDefEqProofs only[(evA),cc,e]
theorem hZ (A:NW W ns){x:Str}(h:xU [.str W,tI (rI' ns)]=.ok (.str x)):xV [.str (nrow W ns)]=.ok (.str x):=by
 have lb:=wF
 obtain⟨r1,r2,r3⟩:=vL A
 have ep:partD (nrow W ns) (.str " / ")=some (.tuple [.str (nrow W ns),.str "",.str ""]):=by
  unfold partD
  rw[yP,Option.bind_some,if_pos ⟨by decide,by bv_omega⟩,wU7 r3]
  rfl
 have es:splD (nrow W ns) (.str " ")=some (.list (.str W::(ns.map nT).map PyData.str)):=by
  unfold splD
  rw[yP,Option.bind_some,if_pos ⟨by decide,by bv_omega⟩,xT8 A]
  rfl
 have ec:cutD (PyData.str W::(ns.map nT).map PyData.str) (some 1) none=(ns.map nT).map PyData.str:=by
  rw[show (1:Int)=((1:Nat):Int) from rfl,cF]
  rfl
 have a0:∀x y z:D,atI [x,y,z] 0=some x:=fun _ _ _=>rfl
 have a1:∀x y z:D,atI [x,y,z] 1=some y:=fun _ _ _=>rfl
 have ea:zU5 [.str (nrow W ns)]=.ok (.str x):=by
  show (bK [some (.str (nrow W ns)),none,none,none]).bind (fin false)=_
  unfold bK
  simp -implicitDefEqProofs only[(evA),xZ,yP,ep,a0,es,ec,zF3 A,a1,strEq pz.1,zF9,h]
 have ty:∀(mb:Ev->Res Out) (ρ:Ev),sTryN mb ρ=noEx (mb ρ):=fun _ _=>rfl
 have nx:∀x:Out,noEx (Res.ok x)=.ok x:=fun _=>rfl
 show (wQ [some (.str (nrow W ns))]).bind (fin false)=_
 unfold wQ
 simp -implicitDefEqProofs only[(evA),ty,ea,nx]
end
theorem pn:PyData.strOk "share" = true/\PyData.strOk "good" = true/\PyData.strOk "goodorder" = true/\PyData.strOk "group" = true:=by decide +kernel
theorem bA {k n:Nat}(hn:n<=40):gn k n<10 ^ 79:=by
 have h:=Nat.le_trans (xB7 k n) (zQ9 n n (by bv_omega))
 have p:2 ^ (6*n)<=2 ^ 240:=Nat.pow_le_pow_right (by decide) (by bv_omega)
 have q:(2:Nat) ^ 120<10 ^ 79:=by decide +kernel
 bv_omega
theorem yP5 {n k N:Nat}(h1:1<=n) (h2:n<=40) (hN:N<gn k n):∃xs,Ord n xs/\Told k (List.range n) N (rgs n xs n)/\xU [.str "goodorder",tI (rI' [n,k,N])]=.ok (.str (ordT n xs)):=by
 obtain⟨z1,z2,z3,z4⟩:=pn
 obtain⟨xs,o,T,e⟩:=xS1 h1 (show n<=60 by bv_omega) hN
 refine⟨xs,o,T,?_⟩
 have l3:((rI' [n,k,N]).map PyData.int).length=3:=rfl
 have a0:atI ((rI' [n,k,N]).map PyData.int) 0=some (.int (n:Int)):=rfl
 have a1:atI ((rI' [n,k,N]).map PyData.int) 1=some (.int (k:Int)):=rfl
 have a2:atI ((rI' [n,k,N]).map PyData.int) 2=some (.int (N:Int)):=rfl
 show (yG [some (.str "goodorder"),some (tI (rI' [n,k,N]))]).bind (fin false)=_
 unfold yG
 simp -implicitDefEqProofs only[(evA),strNe z3 z1 (by decide +kernel),strNe z3 z2 (by decide +kernel),strEq z3,l3,vV,show ((3:Nat):Int)=3 from rfl,decide_true,a0,a1,a2,e,dE o h1 (show n<=60 by bv_omega)]
theorem xE4 {c n:Nat}(h:c<n):M12.ff (c:Int) n=0:=by
 have:=yY6 c (n-(c+1))
 rw[show c+1+(n-(c+1))=n by bv_omega] at this
 exact this
theorem xO8 {n k:Nat}:gsum (Tl n (k:Int) (n+1)) n / M12.ff (n:Int) n=((gn k n:Nat):Int):=by
 have lt:(Tl n (k:Int) (n+1)).length=n+1:=M12.uP _ _ _ _
 have last:(Tl n (k:Int) (n+1)).getD n 0=((gn k n:Nat):Int):=by
  unfold Tl
  rw[M12.tells,List.getD,List.getElem?_append_right (by rw[M12.uP];exact Nat.le_refl _),M12.uP,Nat.sub_self]
  show M12.bin n n*(M12.mbl 1 (k:Int) n).getD n 0*(M12.mbl ((k:Int)+1) n n).getD 0 0=_
  rw[M12.yL8,M12.vH _ _ _ _ (Nat.le_refl _),M12.vH _ _ _ _ (Nat.zero_le _),jF]
  show 1*((gn k n:Nat):Int)*M12.G ((k:Int)+1) n 0=_
  rw[M12.yJ5,Int.one_mul,Int.mul_one]
 have p:=zB2 n n (Nat.le_refl _)
 unfold gsum
 rw[lt,List.range_succ,List.map_append,List.sum_append,show ((List.range n).map fun (c:Nat)=>(Tl n (k:Int) (n+1)).getD c 0*M12.ff (c:Int) n)=(List.range n).map fun _=>(0:Int) from List.map_congr_left fun c hc=>by rw[xE4 (List.mem_range.mp hc),Int.mul_zero]]
 have z:((List.range n).map fun _=>(0:Int)).sum=0:=by
  rw[List.map_const']
  induction (List.range n).length with
  | zero=>rfl
  | succ m ih=>rw[List.replicate_succ,List.sum_cons,ih];rfl
 rw[z,Int.zero_add,List.map_singleton,List.sum_singleton,last]
 exact Int.mul_ediv_cancel _ (by bv_omega)
theorem yQ5 (p:Int):∀(m a:Nat),(a:Int)+(m:Int)<=p->chk p (a:Int) ((List.range' a m).map fun (i:Nat)=>(i:Int))=true
 | 0,_,_=>rfl
 | m+1,a,h=>by
  rw[List.range'_succ,List.map_cons]
  have ih:=yQ5 p m (a+1) (by bv_omega)
  rw[chk]
  have e:(((a+1:Nat):Nat):Int)=(a:Int)+1:=by bv_omega
  rw[e] at ih
  rw[Bool.and_eq_true]
  exact⟨decide_eq_true ⟨Int.le_refl _,by bv_omega⟩,ih⟩
theorem xO5 {n k:Nat}(h1:1<=n) (h2:n<=40):xU [.str "group",tI (rI' [n,k,n])]=.ok (.str (nT (gn k n))):=by
 obtain⟨z1,z2,z3,z4⟩:=pn
 have l3:((rI' [n,k,n]).map PyData.int).length=3:=rfl
 have a0:atI ((rI' [n,k,n]).map PyData.int) 0=some (.int (n:Int)):=rfl
 have a1:atI ((rI' [n,k,n]).map PyData.int) 1=some (.int (k:Int)):=rfl
 have a2:atI ((rI' [n,k,n]).map PyData.int) 2=some (.int (n:Int)):=rfl
 have fp:fR [.int (n:Int)]=.ok (tI (rI' (List.range n))):=by
  have m2:min2D [.int (n:Int),.int 61]=some (.int (n:Int)):=by
   show some (PyData.int (if (61:Int)<(n:Int) then 61 else (n:Int)))=_
   rw[if_neg (by bv_omega)]
  have rt:rangeT [.int (n:Int)]=some (tI (rI' (List.range n))):=xS3 (by bv_omega)
  show (fW [some (.int (n:Int))]).bind (fin false)=_
  unfold fW
  simp -implicitDefEqProofs only[(evA),show (60:Int)+1=61 from rfl,m2,rt]
 have ch:chk (n:Int) 0 (rI' (List.range n))=true:=by
  have:=yQ5 (n:Int) n 0 (by bv_omega)
  rw[<-List.range_eq_range'] at this
  exact this
 have eg:=yY4 (n:=n) (k:=(k:Int)) (xs:=rI' (List.range n)) (by bv_omega) (by bv_omega) ch
 rw[yM,List.length_range,xO8] at eg
 have so:strOfD [.int ((gn k n:Nat):Int)]=some (.str (nT (gn k n))):=if_pos (xM (Nat.lt_trans (bA h2) (by decide +kernel))).log
 show (yG [some (.str "group"),some (tI (rI' [n,k,n]))]).bind (fin false)=_
 unfold yG
 simp -implicitDefEqProofs only[(evA),strNe z4 z1 (by decide +kernel),strNe z4 z2 (by decide +kernel),strNe z4 z3 (by decide +kernel),strEq z4,l3,vV,show ((3:Nat):Int)=3 from rfl,decide_true,a0,a1,a2,fp,eg,so]
theorem xH8 (n:Nat) (c:Int):sortI (List.replicate n c)=List.replicate n c:=by
 refine List.eq_replicate_iff.mpr ⟨?_,fun x hx => ?_⟩
 ·rw[(wW _).length_eq,List.length_replicate]
 ·exact List.eq_of_mem_replicate ((wW _).mem_iff.mp hx)
theorem yB8 {n k:Nat}(hk:k<=n):Opn n (rI' (List.replicate n k)):=by
 have e:rI' (List.replicate n k)=List.replicate n (k:Int):=by unfold rI';rw[List.map_replicate]
 rw[e]
 exact⟨List.length_replicate,fun x hx=>by rw[List.eq_of_mem_replicate hx];bv_omega⟩
theorem zL5 {F G:Nat->Int}:∀n,(∀i,F i<=G i)->M12.sumN F n<=M12.sumN G n
 | 0,_=>Int.le_refl _
 | n+1,h=>by
  have a:=zL5 n h
  have b:=h n
  show M12.sumN F n+F n<=M12.sumN G n+G n
  bv_omega
theorem xN7 {n o o':Nat}(ho:o<=o'){v v':Nat->Int}(h:∀q,0<=v q/\v q<=v' q) (q:Nat):0<=M12.stepM n o v q/\M12.stepM n o v q<=M12.stepM n o' v' q:=by
 have z:∀m,M12.sumN (fun _=>(0:Int)) m=0:=fun m=>by
  induction m with
  | zero=>rfl
  | succ m ih =>
   show M12.sumN (fun _=>(0:Int)) m+0=0
   rw[ih]
   rfl
 have s1:0<=M12.sumN (fun p=>if M12.inWin o q p then v p else 0) (n+1):=by
  have m:=zL5 (F:=fun _=>0) (G:=fun p=>if M12.inWin o q p then v p else 0) (n+1) fun p=>by
   show 0<=(if M12.inWin o q p=true then v p else 0)
   split
   ·exact (h p).1
   ·exact Int.le_refl _
  rw[z (n+1)] at m
  exact m
 have s2:M12.sumN (fun p=>if M12.inWin o q p then v p else 0) (n+1)<=M12.sumN (fun p=>if M12.inWin o' q p then v' p else 0) (n+1):=by
  refine zL5 (n+1) fun p => ?_
  show (if M12.inWin o q p=true then v p else 0)<=(if M12.inWin o' q p=true then v' p else 0)
  by_cases c:M12.inWin o q p=true
  ·have c':M12.inWin o' q p=true:=by
    unfold M12.inWin at c ⊢
    have:=of_decide_eq_true c
    exact decide_eq_true ⟨this.1,by bv_omega⟩
   rw[if_pos c,if_pos c']
   exact (h p).2
  ·rw[if_neg c]
   have:=h p
   split
   ·bv_omega
   ·exact Int.le_refl _
 have hq:=h (q+1)
 unfold M12.stepM
 generalize M12.sumN (fun p=>if M12.inWin o q p then v p else 0) (n+1)=S at s1 s2 ⊢
 generalize M12.sumN (fun p=>if M12.inWin o' q p then v' p else 0) (n+1)=S' at s2 ⊢
 split
 ·have a:0<=((q:Int)+1)*v (q+1):=Int.mul_nonneg (by bv_omega) hq.1
  have b:((q:Int)+1)*v (q+1)<=((q:Int)+1)*v' (q+1):=Int.mul_le_mul_of_nonneg_left hq.2 (by bv_omega)
  exact⟨by bv_omega,by bv_omega⟩
 ·exact⟨by bv_omega,by bv_omega⟩
theorem yE6 (n:Nat):∀os:List Nat,(∀o∈os,o<=n)->∀q,0<=M12.runM n os.reverse q/\M12.runM n os.reverse q<=M12.runM n (List.replicate os.length n) q
 | [],_,q=>by
  refine⟨?_,Int.le_refl _⟩
  show 0<=M12.e0 q
  unfold M12.e0
  split <;> decide
 | o::os,h,q=>by
  rw[List.reverse_cons,M12.kH,List.length_cons,List.replicate_succ',M12.kH]
  exact xN7 (h o List.mem_cons_self) (yE6 n os fun o ho=>h o (List.mem_cons_of_mem _ ho)) q
theorem wW5 {n:Nat}{ops:List Int}(q:Opn n ops):M12.runM n ((sortI ops).map Int.toNat) 0<=((gn n n:Nat):Int):=by
 have h:=yE6 n ((sortI ops).map Int.toNat).reverse (fun o ho=>by
  obtain⟨x,hx,rfl⟩:=List.mem_map.mp (List.mem_reverse.mp ho)
  have:=q.bd x ((wW _).mem_iff.mp hx)
  bv_omega) 0
 rw[List.reverse_reverse,List.length_reverse,List.length_map,(wW _).length_eq,q.len,yR2 n n] at h
 exact h.2
theorem yU8 {n:Nat}{os:List Nat}(q:Opn n (rI' os)) (h1:1<=n) (h2:n<=40):∃F W a b:Nat,M12.runM n ((sortI (rI' os)).map Int.toNat) 0=(F:Int)/\M12.fac n=(W:Int)/\W<10 ^ 79/\a<10 ^ 80/\b<10 ^ 80/\0<b/\a*W=b*F/\b ∣ W/\xU [.str "share",tI (rI' os)]=.ok (.str (Str.join " of " [nT a,nT b])):=by
 obtain⟨z1,z2,z3,z4⟩:=pn
 obtain⟨W,hW,hW1,hW2⟩:=xX3 n (by bv_omega)
 obtain⟨F,hF,hF2⟩:=xB4 q (show n<=60 by bv_omega)
 have es:=xI2 q h1 (show n<=60 by bv_omega) hF hF2 hW hW1 hW2
 have gs:=bA (k:=n) h2
 have hFg:=wW5 q
 rw[hF] at hFg
 have Wl:W<10 ^ 79:=by
  have p:2 ^ (6*n)<=2 ^ 240:=Nat.pow_le_pow_right (by decide) (by bv_omega)
  have q:(2:Nat) ^ 240<10 ^ 79:=by decide +kernel
  bv_omega
 have t79:(10:Nat) ^ 79<10 ^ 80:=by decide +kernel
 have d1:Nat.gcd W F ∣ F:=Nat.gcd_dvd_right _ _
 have d2:Nat.gcd W F ∣ W:=Nat.gcd_dvd_left _ _
 have la:=Nat.div_le_self F (Nat.gcd W F)
 have lb:=Nat.div_le_self W (Nat.gcd W F)
 have gp:0<Nat.gcd W F:=Nat.gcd_pos_of_pos_left _ hW1
 refine⟨F,W,F / Nat.gcd W F,W / Nat.gcd W F,hF,hW,Wl,by bv_omega,by bv_omega,Nat.div_pos (Nat.le_of_dvd hW1 d2) gp,?_,Nat.div_dvd_of_dvd d2,?_⟩
 ·obtain⟨u,hu⟩:=d1
  obtain⟨v,hv⟩:=d2
  generalize Nat.gcd W F=g at hu hv gp
  rw[hu,hv,Nat.mul_div_cancel_left _ gp,Nat.mul_div_cancel_left _ gp,Nat.mul_left_comm,Nat.mul_left_comm v g u,Nat.mul_comm u v]
 ·generalize F / Nat.gcd W F=a at es la
  generalize W / Nat.gcd W F=b at es lb
  have na:=xM (show a<10 ^ 80 by bv_omega)
  have nb:=xM (show b<10 ^ 80 by bv_omega)
  have so:∀c,c=a\/c=b->strOfD [.int (c:Int)]=some (.str (nT c)):=fun c hc=>by
   rcases hc with rfl | rfl
   ·exact if_pos na.log
   ·exact if_pos nb.log
  have cc:eComp (iS (eF zJ6 (aC (eV 0) aN))) tYes (eB strOfD (aC (eV 0) aN)) [] [some (tI (rI' os))]=.ok (.list (([a,b].map nT).map PyData.str)):=by
   rw[List.map_map]
   refine xJ (fun c:Nat=>PyData.int (c:Int)) (fun c=>PyData.str (nT c)) [a,b] (by
    simp -implicitDefEqProofs only[(evA),es]
    rfl) (show 2<=1000 by decide) fun c hc => ?_
   have hc:c=a\/c=b:=by simpa using hc
   show eB strOfD (aC (eV 0) aN) [some (.int (c:Int))]=_
   simp -implicitDefEqProofs only[(evA),so c hc]
  have jd:joinD " of " (.list (([a,b].map nT).map PyData.str))=some (.str (Str.join " of " [nT a,nT b])):=by
   refine uG ?_
   unfold JoinOk
   rw[StrLaws.joinFits (sep:=" of ") (B:=80) (texts:=[a,b].map nT) (fun t ht => ?_) (show 2*80+2*4<=16777216 by decide)]
   ·rfl
   ·obtain⟨c,hc,rfl⟩:=List.mem_map.mp ht
    have hc:c=a\/c=b:=by simpa using hc
    rcases hc with rfl | rfl
    ·exact na.len
    ·exact nb.len
  have et:bU [tI (rI' os)]=.ok (.str (Str.join " of " [nT a,nT b])):=by
   show (aZ [some (tI (rI' os))]).bind (fin false)=_
   unfold aZ
   simp -implicitDefEqProofs only[(evA),xZ,yP,cc,jd]
  show (yG [some (.str "share"),some (tI (rI' os))]).bind (fin false)=_
  unfold yG
  simp -implicitDefEqProofs only[(evA),strEq z1,et]
theorem xE1 {n k:Nat}(h2:n<=40):xU [.str "good",tI (rI' [n,k])]=.ok (.str (nT (gn k n))):=by
 obtain⟨z1,z2,z3,z4⟩:=pn
 have l2:((rI' [n,k]).map PyData.int).length=2:=rfl
 have a0:atI ((rI' [n,k]).map PyData.int) 0=some (.int (n:Int)):=rfl
 have a1:atI ((rI' [n,k]).map PyData.int) 1=some (.int (k:Int)):=rfl
 have e:=yF7 (n:=n) (k:=(k:Int)) (by bv_omega) (by bv_omega)
 rw[jF] at e
 have so:strOfD [.int ((gn k n:Nat):Int)]=some (.str (nT (gn k n))):=if_pos (xM (Nat.lt_trans (bA h2) (by decide +kernel))).log
 show (yG [some (.str "good"),some (tI (rI' [n,k]))]).bind (fin false)=_
 unfold yG
 simp -implicitDefEqProofs only[(evA),strNe z2 z1 (by decide +kernel),strEq z2,l2,vV,show ((2:Nat):Int)=2 from rfl,decide_true,a0,a1,e,so]
theorem yE5 (ns:List Int) (k:Nat):vX [lI ns,.int k]=.ok (.int (ns.getD k 0)):=by
 show (zZ4 [some (lI ns),some (.int k)]).bind (fin false)=_
 unfold zZ4
 simp -implicitDefEqProofs only[(evA),List.length_map,zX3]
 by_cases h:k<ns.length
 ·rw[decide_eq_true (by bv_omega)]
  simp -implicitDefEqProofs only[(evA),zV5 h]
 ·rw[decide_eq_false (by bv_omega)]
  simp -implicitDefEqProofs only[(evA),List.getD_eq_getElem?_getD,List.getElem?_eq_none (Nat.le_of_not_lt h),Option.getD_none]
theorem xI6 (ns:List Int):∃c:Int,zJ8 [lI ns]=.ok (.int c):=by
 show ∃c:Int,(yW8 [some (lI ns),none,none]).bind (fin false)=_
 unfold yW8
 simp -implicitDefEqProofs only[(evA)]
 obtain⟨ρ',e,t,x,rfl⟩:=vW (g:=gN 2) (b:=sS 1 (e2 addI (e2 mulI (eV 1) (eC (.int 1000))) (eV 2)))
  (fun i ρ=>∃t x,ρ=[some (lI ns),some (.int t),x]) (ns.map PyData.int) [some (lI ns),some (.int 0),none] ⟨0,none,rfl⟩ (by
   rintro i d ρ hd ⟨t,x,rfl⟩
   obtain⟨v,_,rfl⟩:=List.mem_map.mp (List.mem_of_getElem? hd)
   refine⟨_,_,rfl,?_,t*1000+v,some (.int v),rfl⟩
   simp -implicitDefEqProofs only[(evA),xA (MulOk.right (i:=t) (j:=1000) (by decide) (by decide))])
 exact⟨t,by rw[e];rfl⟩
theorem xV1 (c:Int) (n:Nat) (hn:n<=1000):dW [.int c,.int n]=.ok (tI (lawOrd c n).1):=by
 show (zM7 [some (.int c),some (.int n),none,none]).bind (fin false)=_
 unfold zM7
 simp -implicitDefEqProofs only[(evA),cJ hn]
 obtain⟨ρ',e,x,rfl⟩:=vW (g:=gN 3) (b:=sQ (sM 2 insD (aC (e2 modI (eV 0) (e2 addI (eV 3) (eC (.int 1)))) (aC (eV 3) aN))) (sS 0 (e2 fdivI (eV 0) (e2 addI (eV 3) (eC (.int 1))))))
  (fun i ρ=>∃x,ρ=[some (.int (lawOrd c i).2),some (.int n),some (lI (lawOrd c i).1),x]) ((List.range n).map fun (i:Nat)=>PyData.int (i:Int)) [some (.int c),some (.int n),some (.list []),none] ⟨none,rfl⟩ (by
   rintro i d ρ hd ⟨x,rfl⟩
   obtain⟨hi,rfl⟩:=zK6 hd
   refine⟨_,_,rfl,?_,some (.int i),rfl⟩
   have hl:(lawOrd c i).1.length=i:=(zB5 c i).len
   have h1:(0:Int)<(i:Int)+1:=by bv_omega
   have h2:=Int.emod_nonneg (lawOrd c i).2 (show ((i:Int)+1)≠0 by bv_omega)
   have h3:=Int.emod_lt_of_pos (lawOrd c i).2 h1
   simp -implicitDefEqProofs only[(evA),modO,fdivO,if_pos h1,if_pos (DivOk.small h1 (by bv_omega)),wR3 (l:=(lawOrd c i).1.map PyData.int) (d:=.int i) h2 (by rw[List.length_map,hl];bv_omega) (by rw[List.length_map,hl];bv_omega)]
   simp only[lawOrd,insAt,lI,List.map_append,List.map_cons,List.map_take,List.map_drop])
 rw[List.length_map,List.length_range] at e
 rw[e]
 rfl
structure PrA (p:Str×Str):Prop where
 ans:xV [.str p.1]=.ok (.str p.2)
 l1:p.1.length<=13000
 f1:10∉tl p.1
 l2:p.2.length<=13000
 f2:10∉tl p.2
 ok:PyData.strOk p.2=true
section
variable {L:List (Str×Str)}
theorem prs (hg:∀p∈L,PrA p):((∀t∈L.map Prod.fst,t.length<=13000)/\∀t∈L.map Prod.fst,10∉tl t)/\((∀t∈L.map Prod.snd,t.length<=13000)/\∀t∈L.map Prod.snd,10∉tl t):=by
 refine⟨⟨fun t ht => ?_,fun t ht => ?_⟩,⟨fun t ht => ?_,fun t ht => ?_⟩⟩ <;> (obtain⟨p,hp,rfl⟩:=List.mem_map.mp ht)
 ·exact (hg p hp).l1
 ·exact (hg p hp).f1
 ·exact (hg p hp).l2
 ·exact (hg p hp).f2
theorem zZ9 (h0:L ≠ []) (hl:L.length<=12) (hg:∀p∈L,PrA p):xF [.str (Str.join "\n" (L.map Prod.fst))]=.ok (.str (Str.join "\n" (L.map Prod.snd))):=by
 obtain⟨⟨r1,r2⟩,a1,a2⟩:=prs hg
 have s:=yG4 (ts:=L.map Prod.fst) (fun z=>h0 (List.map_eq_nil_iff.mp z)) (by rw[List.length_map];exact hl) r1 r2
 have j:=uG (zT5 (ts:=L.map Prod.snd) (by rw[List.length_map];exact hl) a1).1
 have cc:eComp (iS (eM1S splD (eV 0) (eC (.str "\n")))) tYes (eF xV (aC (eV 0) aN)) [] [some (.str (Str.join "\n" (L.map Prod.fst)))]=.ok (.list ((L.map Prod.snd).map PyData.str)):=by
  rw[List.map_map]
  refine xJ (fun p:Str×Str=>PyData.str p.1) (fun p=>PyData.str p.2) L (by
   simp -implicitDefEqProofs only[(evA),xZ,yP,s]
   rw[List.map_map]
   rfl) (by bv_omega) fun p hp => ?_
  show eF xV (aC (eV 0) aN) [some (.str p.1)]=_
  simp -implicitDefEqProofs only[(evA),(hg p hp).ans]
 show (zT9 [some (.str (Str.join "\n" (L.map Prod.fst)))]).bind (fin false)=_
 unfold zT9
 simp -implicitDefEqProofs only[(evA),xZ,yP,cc,j]
theorem yL2 (h0:L ≠ []) (hl:L.length<=12) (hg:∀p∈L,PrA p):splD (Str.join "\n" (L.map Prod.snd)) (.str "\n")=some (.list ((L.map Prod.snd).map PyData.str)):=by
 obtain⟨_,a1,a2⟩:=prs hg
 exact yG4 (fun z=>h0 (List.map_eq_nil_iff.mp z)) (by rw[List.length_map];exact hl) a1 a2
end
theorem yB6 {a b:Nat}(ha:a<10 ^ 80) (hb:b<10 ^ 80):MulOk (a:Int) (b:Int):=by
 have sm:∀c:Nat,c<10 ^ 80->Small (c:Int):=fun c hc=>⟨266,by decide,by rw[Int.natAbs_natCast];exact Nat.lt_trans hc (by decide +kernel)⟩
 exact .inr ⟨sm a ha,sm b hb⟩
theorem yT1 {W:Str}{ns:List Nat}(h:ns ≠ []){V:Str}(e:V=W ++ " "):V++Str.join " " (ns.map nT)=nrow W ns:=by
 unfold nrow
 rw[xW8 _ _ (fun z=>h (List.map_eq_nil_iff.mp z)),<-dQ,<-e]
theorem nw {W:Str}(h:PyData.strOk W=true/\W.length<=20/\32∉tl W/\10∉tl W/\47∉tl W){ns:List Nat}(hn:∀x∈ns,x<10 ^ 80) (hl:ns.length<=60):NW W ns:=⟨h.1,h.2.1,h.2.2.1,h.2.2.2.1,h.2.2.2.2,hn,hl⟩
theorem wd:∀W∈(["group","share","goodorder","good"]:List Str),PyData.strOk W=true/\W.length<=20/\32∉tl W/\10∉tl W/\47∉tl W:=by decide +kernel
theorem small80 {a:Nat}(h:a<=1000):a<10 ^ 80:=Nat.lt_of_le_of_lt h (by decide +kernel)
theorem zX9 {m:Nat}(h:m<10 ^ 80):(nT m).length<=13000/\10∉tl (nT m)/\PyData.strOk (nT m)=true:=⟨Nat.le_trans (xM h).len (by decide),zV1 h (by decide),(xM h).ok⟩
theorem xR9 (k:Nat) (hk:1<=k):∀m,0<gn k m
 | 0=>by rw[xW2];exact Nat.one_pos
 | m+1=>by
  rw[zI1]
  have h:=zG9 (gn k) (m+1) (i:=1) (j:=min k (m+1)) (by bv_omega)
  have e:smN (gn k) (m+1) 1=0+1*gn k m:=rfl
  have:=xR9 k hk m
  bv_omega
theorem uI {ns:List Nat}{d:D}(hd:d=tI (rI' ns)\/d=lI (rI' ns)) (h:∀x∈ns,x<10 ^ 80) (hl:ns.length<=60):yQ [d]=.ok (.str (Str.join " " (ns.map nT))):=by
 have cc:eComp (iS (eV 0)) tYes (eB strOfD (aC (eV 0) aN)) [] [some d]=.ok (.list ((ns.map nT).map PyData.str)):=by
  rw[List.map_map]
  refine xJ (fun b:Nat=>PyData.int (b:Int)) (fun b=>PyData.str (nT b)) ns (by
   rcases hd with rfl | rfl
   ·simp -implicitDefEqProofs only[(evA)]
    unfold rI'
    rw[List.map_map]
    rfl
   ·simp -implicitDefEqProofs only[(evA)]
    unfold rI'
    rw[List.map_map]
    rfl) (by bv_omega) fun b hb => ?_
  have e:strOfD [.int (b:Int)]=some (.str (nT b)):=if_pos (xM (h b hb)).log
  show eB strOfD (aC (eV 0) aN) [some (.int (b:Int))]=_
  simp -implicitDefEqProofs only[(evA),e]
 have jd:=uG (xX8 (sep:=" ") (ts:=ns.map nT) (B:=80) (n:=60) rfl (by rw[List.length_map];exact hl) (fun t ht=>by
  obtain⟨x,hx,rfl⟩:=List.mem_map.mp ht
  exact (xM (h x hx)).len) (by decide)).1
 show (zM9 [some d]).bind (fin false)=_
 unfold zM9
 simp -implicitDefEqProofs only[(evA),xZ,yP,cc,jd]
theorem xK3 {n:Nat}(h1:1<=n) (h2:n<=60):bQ [.int n]=.ok (.int (M12.fac n)):=by
 show (zF2 [some (.int n),none,none]).bind (fin false)=_
 unfold zF2
 have rg:=bY (a:=2) (b:=n+1) (by bv_omega) (by bv_omega)
 rw[show ((2:Nat):Int)=2 from rfl,show ((n+1:Nat):Int)=(n:Int)+1 by bv_omega] at rg
 simp -implicitDefEqProofs only[(evA),rg]
 refine uO (fun i ρ=>∃a,ρ=[some (.int n),some (.int (M12.fac (i+1))),a]) ⟨none,rfl⟩ ?_ ?_
 ·rintro i d ρ hd ⟨a,rfl⟩
  obtain⟨hi,rfl⟩:=uB hd
  have m1:=xA (i:=M12.fac (i+1)) (j:=((2+i:Nat):Int)) (MulOk.right (by bv_omega) (by bv_omega))
  refine⟨_,_,rfl,?_,some (.int ((2+i:Nat):Int)),rfl⟩
  simp -implicitDefEqProofs only[(evA),m1]
  rw[show M12.fac (i+1+1)=M12.fac (i+1)*((2+i:Nat):Int) from congrArg (M12.fac (i+1) * ·) (by bv_omega)]
 ·rintro ρ ⟨a,rfl⟩
  rw[List.length_map,List.length_range,show n+1-2+1=n by bv_omega]
  simp -implicitDefEqProofs only[(evA)]
theorem xM1 {n k:Nat}{xs:List Int}(o:Ord n xs) (hn:n<=60) (h1:1<=k) (h2:k<=60):bB [tI xs,.int (k:Int)]=.ok (.int ((ND n k xs:Nat):Int)) :=
 (congrFun (show bB=qN from rfl) _).trans (bP o hn h1 h2)
def hlB:Ev->Res Out:=(sQ (sA (eM1S splD (eV 4) (eC (.str "-"))) (gTl 2 (gsC (gN 5) (gsC (gN 6) gsN)))) (sM 3 appD (aC (eB mkT (aC (eB intTD (aC (eV 5) aN)) (aC (eB intTD (aC (eV 6) aN)) aN))) aN)))
def hlX:Ev->Res Out:=(sS 0 (eF fC (aC (eV 0) (aC (eV 5) (aC (eV 6) aN)))))
def hlE:Ev->Res Out:=(sQ (sIf (b2 gtI (eB max1D (aC (eComp (iS (eF yL (aC (eV 0) aN))) tYes (eB lenD (aC (eV 0) aN)) []) aN)) (eV 1)) (sR (e1 negD (eC (.int 1)))) sN) (sR (eB lenD (aC (eV 3) aN))))
theorem wD7:zT7=(sQ (sS 3 (eB mkL aN)) (sQ (sIf (b2 neD (eV 2) (eC (.str "none"))) (sF (iS (eM1S splD (eV 2) (eC (.str " ")))) (gN 4) hlB) sN) (sQ (fun ρ=>(eV 3 ρ).bind fun _=>(sF (iS (eV 3)) (gT 2 (gsC (gN 5) (gsC (gN 6) gsN))) hlX) ρ) hlE))):=rfl
theorem yB9 {b:Nat}(h:b<61):intTD [.str (numT b)]=some (.int (b:Int)):=by
 have h:=xR b h
 show (if (numT b).length<=640 then (PySem.intText? (numT b)).map PyData.int else none)=_
 rw[if_pos (by have:=h.1.1;bv_omega),h.1.2.2.2]
 rfl
theorem zX2 {b:Nat}(h:b<10 ^ 80):intTD [.str (nT b)]=some (.int (b:Int)):=by
 show (if (nT b).length<=640 then (PySem.intText? (nT b)).map PyData.int else none)=_
 rw[if_pos (by have:=(xM h).len;bv_omega),(xM h).int]
 rfl
theorem wO6 {q:Nat×Nat}{ds:List D}{u0 u1 u2 u5 u6:Option D}(h1:q.1<61) (h2:q.2<61) (hl:ds.length<=1000):hlB [u0,u1,u2,some (.list ds),some (.str (pT q)),u5,u6]=.ok (.nx [u0,u1,u2,some (.list (ds ++ [tI (pL q)])),some (.str (pT q)),some (.str (numT q.1)),some (.str (numT q.2))]):=by
 have lb:=wF
 have lp:=(zD8 h1 h2).1
 have s:splD (pT q) (.str "-")=some (.list [.str (numT q.1),.str (numT q.2)]):=by
  unfold splD
  have:Txt.split (pT q) "-" = [numT q.1,numT q.2]:=uY (c:=45) (y':=[]) rfl (by decide +kernel) (fun z=>nomatch z) fun p hp=>by
   have:p=numT q.1\/p=numT q.2:=by simpa using hp
   rcases this with rfl | rfl
   ·exact (kK q.1 h1).2.1
   ·exact (kK q.2 h2).2.1
  rw[yP,Option.bind_some,if_pos ⟨by decide,by bv_omega⟩,this]
  rfl
 have g:gTl 2 (gsC (gN 5) (gsC (gN 6) gsN)) (.list [.str (numT q.1),.str (numT q.2)]) [u0,u1,u2,some (.list ds),some (.str (pT q)),u5,u6]=some [u0,u1,u2,some (.list ds),some (.str (pT q)),some (.str (numT q.1)),some (.str (numT q.2))]:=rfl
 unfold hlB
 simp -implicitDefEqProofs only[(evA),xZ,yP,s,g,yB9 h1,yB9 h2,bR (l:=ds) hl]
 rfl
theorem xT6 {L:List (Nat×Nat)}(h:L ≠ []) (hq:∀q∈L,q.1<61/\q.2<61){s:Str}(hs:45∉tl s):hpT L≠s:=by
 intro e
 apply hs
 rw[<-e]
 cases L with
 | nil=>exact absurd rfl h
 | cons q L =>
  have m:=(zD8 (hq q List.mem_cons_self).1 (hq q List.mem_cons_self).2).2.2.1
  cases L with
  | nil=>exact m
  | cons p L =>
   show 45∈tl (Str.join " " (pT q::pT p::L.map pT))
   rw[jV,yF,yF,List.append_assoc]
   exact List.mem_append_left _ m
theorem yU1 {n:Nat}{ys:List Int}(o:Ord n ys) (h1:1<=n) (h2:n<=60){mi:Ev->Res (List D)}{ρ:Ev}(h:mi ρ=.ok ((rgs n ys n).map fun r=>tI (rI' r))):eComp mi tYes (eB lenD (aC (eV 0) aN)) [] ρ=.ok (lI (rI' (lens n ys))) :=
 yL7 (w:=0) (os:=List.replicate n 0) (k:=1) ⟨by decide,o,h1,h2,yB8 (Nat.zero_le n),List.length_replicate,fun x hx=>by rw[List.eq_of_mem_replicate hx];decide,Nat.le_refl 1,h1⟩ (fun _=>.inl rfl) h
theorem zE3 {n:Nat}{ys:List Int}(o:Ord n ys) (h2:n<=60):yL [tI ys]=.ok (.list ((rgs n ys n).map fun r=>tI (rI' r))):=by
 rw[uU o (show n<=1000 by bv_omega)]
 unfold rows ringsD
 rw[List.map_map]
 rfl
theorem yE2 {n k:Nat}{ys:List Int}(o:Ord n ys) (h1:1<=n) (h2:n<=60) (hk:∀r∈rgs n ys n,r.length<=k):∃M:Int,max1D [lI (rI' (lens n ys))]=some (.int M)/\M<=(k:Int):=by
 have q:=zD1 o h1 h2
 have ne:rI' (lens n ys) ≠ []:=fun z=>q.ne (List.map_eq_nil_iff.mp (List.map_eq_nil_iff.mp z))
 refine⟨_,wY4 ne,?_⟩
 have m:=zE4 ne
 generalize maxL (rI' (lens n ys))=M at m
 unfold rI' at m
 obtain⟨c,hc,rfl⟩:=List.mem_map.mp m
 obtain⟨r,hr,rfl⟩:=List.mem_map.mp hc
 have:=hk r hr
 bv_omega
section
variable {w n k:Nat}{xs:List Int}{os:List Nat}
theorem yD7 (A:Ask w n xs os k):cR [tI xs,.int (k:Int),.str (tON (hpT (MR.told n k xs)))]=.ok (.int ((ND n k xs:Nat):Int)):=by
 obtain⟨h1,h2⟩:=A.told
 obtain⟨hj,hl,hs,_⟩:=yN8 A
 obtain⟨z1,z2,z3,z4,z5,z6,z7⟩:=pz
 have o:=A.ord
 have hn:=A.n60
 have n1:=A.n1
 have hx:=o.len
 have tlen:=xG3 k xs n
 have tv:=yY8 o A.k1
 have es:∃v4 v5 v6,(sIf (b2 neD (eV 2) (eC (.str "none"))) (sF (iS (eM1S splD (eV 2) (eC (.str " ")))) (gN 4) hlB) sN) [some (tI xs),some (.int (k:Int)),some (.str (tON (hpT (MR.told n k xs)))),some (.list []),none,none,none]=.ok (.nx [some (tI xs),some (.int (k:Int)),some (.str (tON (hpT (MR.told n k xs)))),some (rows ((MR.told n k xs).map pL)),v4,v5,v6]):=by
  by_cases e0:MR.told n k xs=[]
  ·rw[e0]
   have t:tON (hpT [])="none":=by decide +kernel
   have nn:neD (.str "none") (.str "none")=some false:=by
    rw[cK z2 z2,decide_eq_true rfl]
    rfl
   rw[t]
   refine⟨none,none,none,?_⟩
   simp -implicitDefEqProofs only[(evA),nn]
   rfl
  ·have t:tON (hpT (MR.told n k xs))=hpT (MR.told n k xs):=if_neg (xT6 e0 (fun q hq=>(h2 q hq).2.2) (by decide +kernel))
   have nn:neD (.str (hpT (MR.told n k xs))) (.str "none")=some true:=by
    rw[cK hs z2,decide_eq_false (xT6 e0 (fun q hq=>(h2 q hq).2.2) (by decide +kernel))]
    rfl
   have lb:=wF
   have s0:splD (hpT (MR.told n k xs)) (.str " ")=some (.list (((MR.told n k xs).map pT).map PyData.str)):=by
    unfold splD
    rw[yP,Option.bind_some,if_pos ⟨by decide,by bv_omega⟩]
    have:Txt.split (hpT (MR.told n k xs)) " " = (MR.told n k xs).map pT:=uY (c:=32) (y':=[]) rfl (by decide +kernel) (fun z=>e0 (List.map_eq_nil_iff.mp z)) fun p hp=>by
     obtain⟨q,hq,rfl⟩:=List.mem_map.mp hp
     exact (zD8 (h2 q hq).2.2.1 (h2 q hq).2.2.2).2.2.2.1
    rw[this]
   rw[t]
   obtain⟨ρ',e,v4,v5,v6,rfl⟩:=vW (g:=gN 4) (b:=hlB) (fun i ρ=>∃v4 v5 v6,ρ=[some (tI xs),some (.int (k:Int)),some (.str (hpT (MR.told n k xs))),some (.list (((MR.told n k xs).take i).map fun q=>tI (pL q))),v4,v5,v6]) (((MR.told n k xs).map pT).map PyData.str) [some (tI xs),some (.int (k:Int)),some (.str (hpT (MR.told n k xs))),some (.list []),none,none,none] ⟨none,none,none,rfl⟩ (by
    rintro i d ρ hd ⟨v4,v5,v6,rfl⟩
    rw[List.getElem?_map,List.getElem?_map,Option.map_map] at hd
    obtain⟨q,hq,rfl⟩:=Option.map_eq_some_iff.mp hd
    have mq:=List.mem_of_getElem? hq
    have e1:((MR.told n k xs).take (i+1)).map (fun q=>tI (pL q))=((MR.told n k xs).take i).map (fun q=>tI (pL q)) ++ [tI (pL q)]:=by
     rw[show (MR.told n k xs).take (i+1)=(MR.told n k xs).take i ++ [q] by rw[List.take_succ,hq];rfl,List.map_append]
     rfl
    rw[e1]
    exact⟨_,_,rfl,wO6 (h2 q mq).2.2.1 (h2 q mq).2.2.2 (by rw[List.length_map,List.length_take];bv_omega),_,_,_,rfl⟩)
   rw[List.length_map,List.length_map,List.take_length] at e
   refine⟨v4,v5,v6,?_⟩
   have er:rows ((MR.told n k xs).map pL)=.list ((MR.told n k xs).map fun q=>tI (pL q)):=by
    unfold rows
    rw[List.map_map]
    rfl
   rw[er]
   simp -implicitDefEqProofs only[(evA),nn,xZ,yP,s0,e]
 obtain⟨v4,v5,v6,ep⟩:=es
 have er:rows ((MR.told n k xs).map pL)=.list ((MR.told n k xs).map fun q=>tI (pL q)):=by
  unfold rows
  rw[List.map_map]
  rfl
 rw[er] at ep
 obtain⟨ρ',e,w5,w6,rfl⟩:=vW (g:=gT 2 (gsC (gN 5) (gsC (gN 6) gsN))) (b:=hlX) (fun i ρ=>∃v5 v6,ρ=[some (tI (runX xs ((MR.told n k xs).take i))),some (.int (k:Int)),some (.str (tON (hpT (MR.told n k xs)))),some (.list ((MR.told n k xs).map fun q=>tI (pL q))),v4,v5,v6]) ((MR.told n k xs).map fun q=>tI (pL q)) [some (tI xs),some (.int (k:Int)),some (.str (tON (hpT (MR.told n k xs)))),some (.list ((MR.told n k xs).map fun q=>tI (pL q))),v4,v5,v6] ⟨v5,v6,rfl⟩ (by
  rintro i d ρ hd ⟨v5,v6,rfl⟩
  rw[List.getElem?_map] at hd
  obtain⟨q,hq,rfl⟩:=Option.map_eq_some_iff.mp hd
  have mq:=List.mem_of_getElem? hq
  have oi:=wU4 o ((MR.told n k xs).take i) fun q hq=>tv q (List.mem_of_mem_take hq)
  have e1:runX xs ((MR.told n k xs).take (i+1))=swO (runX xs ((MR.told n k xs).take i)) q.1 q.2:=by
   rw[show (MR.told n k xs).take (i+1)=(MR.told n k xs).take i ++ [q] by rw[List.take_succ,hq];rfl,zG6]
   rfl
  have hh:=h2 q mq
  have ex:=yJ9 oi hn (a:=q.1) (b:=q.2) (by bv_omega) (by bv_omega) (by bv_omega)
  rw[e1]
  refine⟨_,_,rfl,?_,some (.int (q.1:Int)),some (.int (q.2:Int)),rfl⟩
  unfold hlX
  simp -implicitDefEqProofs only[(evA),ex])
 rw[List.length_map,List.take_length] at e
 have oE:=(yK3 o A.k1).1
 have zE:=(yK3 o A.k1).2
 generalize runX xs (MR.told n k xs)=ys at e oE zE
 have hk:∀r∈rgs n ys n,r.length<=k:=fun r hr=>by
  obtain⟨b,hb,rfl,_⟩:=(oE.wM n (Nat.le_refl n)).each r hr
  rw[yS]
  exact (xO2 oE A.k1).mp zE b hb
 obtain⟨M,mx,mk⟩:=yE2 oE n1 hn hk
 have fE:hlE [some (tI ys),some (.int (k:Int)),some (.str (tON (hpT (MR.told n k xs)))),some (.list ((MR.told n k xs).map fun q=>tI (pL q))),v4,w5,w6]=.ok (.rt (.int ((ND n k xs:Nat):Int))):=by
  have cc:=yU1 oE n1 hn (mi:=iS (eF yL (aC (eV 0) aN))) (ρ:=[some (tI ys),some (.int (k:Int)),some (.str (tON (hpT (MR.told n k xs)))),some (.list ((MR.told n k xs).map fun q=>tI (pL q))),v4,w5,w6]) (by simp -implicitDefEqProofs only[(evA),zE3 oE hn])
  have l3:((MR.told n k xs).map fun q=>tI (pL q)).length=ND n k xs:=by rw[List.length_map,tlen]
  unfold hlE
  simp -implicitDefEqProofs only[(evA),cc,mx,decide_eq_false (show ¬(k:Int)<M by bv_omega),l3]
 show (zT7 [some (tI xs),some (.int (k:Int)),some (.str (tON (hpT (MR.told n k xs)))),none,none,none,none]).bind (fin false)=_
 rw[wD7]
 simp -implicitDefEqProofs only[xB8,xB5,yZ2,zA9,mkL0,Res.bind_ok,Res.lft_some,List.set_cons_zero,List.set_cons_succ,List.length_cons,List.length_nil,ep,if_true,ite_true]
 simp -implicitDefEqProofs only[(evA),ep,e,fE]
end
theorem xT7 {n k N G P0 P1 P3 U:Nat}{W M:Int}{xs gs fs sz gz os:List Int}{ps:List D}{t0 t1 t1' t2 t3 t3' t4 t5 t7 t8 p0 p1 p2 p3:Str}{bf bp:Bool}{i1 i3:Int}
  (hx:(xs.map PyData.int).length=n)
  (c0:∀rest:Ev,eComp (iS (eF yL (aC (eV 0) aN))) tYes (eB lenD (aC (eV 0) aN)) [] (some (tI xs)::rest)=.ok (lI sz))
  (w0:yQ [lI sz]=.ok (.str t0)) (n0:neD (.str t0) (.str t0)=some false)
  (fi:dP [tI xs,tI os]=.ok (tI fs)) (w1:yQ [tI fs]=.ok (.str t1')) (ef:eqD (tI fs) (.tuple [])=some bf) (j1:intD [.bool bf]=some (.int i1)) (x1:atI [PyData.str t1',.str "none"] i1=some (.str t1)) (n1:neD (.str t1) (.str t1)=some false)
  (c3:∀rest:Ev,eComp (iS (eF qS (aC (eV 0) (aC (eV 2) aN)))) tYes (e2 catS (e2 catS (eB strOfD (aC (e2 ixD (eV 0) (eC (.int 0))) aN)) (eC (.str "-"))) (eB strOfD (aC (e2 ixD (eV 0) (eC (.int 1))) aN))) [] (some (tI xs)::some (tI os)::some (.int (k:Int))::rest)=.ok (.list ps))
  (jp:joinD " " (.list ps)=some (.str t3')) (ep:eqD (.list ps) (.list [])=some bp) (j3:intD [.bool bp]=some (.int i3)) (x3:atI [PyData.str t3',.str "none"] i3=some (.str t3)) (n3:neD (.str t3) (.str t3)=some false)
  (ne:bB [tI xs,.int (k:Int)]=.ok (.int (U:Int))) (s2:strOfD [.int (U:Int)]=some (.str t2)) (n2:neD (.str t2) (.str t2)=some false) (hh:cR [tI xs,.int (k:Int),.str t3]=.ok (.int (U:Int)))
  (ro:qB [.str t4]=.ok (tI gs)) (gg:kQ [tI gs,.int (k:Int)]=.ok (.int (N:Int)))
  (c9:∀u0 u1 u2 u3 u4 u5 u6 u7 u8 u10 u11:Option D,eComp (iS (eF yL (aC (eV 9) aN))) tYes (eB lenD (aC (eV 0) aN)) [] [u0,u1,u2,u3,u4,u5,u6,u7,u8,some (tI gs),u10,u11]=.ok (lI gz))
  (mx:max1D [lI gz]=some (.int M)) (mk:M<=(k:Int)) (hg:(gs.map PyData.int).length=n)
  (n5:neD (.str t5) (.str t5)=some false) (i5:intTD [.str t5]=some (.int (G:Int))) (hN:N<G)
  (s7:splD t7 (.str " of ")=some (.list [.str p0,.str p1])) (i70:intTD [.str p0]=some (.int (P0:Int))) (i71:intTD [.str p1]=some (.int (P1:Int)))
  (wy:bQ [.int (n:Int)]=.ok (.int W)) (m0:MulOk (P0:Int) W) (m1:MulOk (G:Int) (P1:Int)) (mm:(P0:Int)*W=(G:Int)*(P1:Int))
  (s8:splD t8 (.str " of ")=some (.list [.str p2,.str p3])) (dg:Txt.isdigit p2=true) (i83:intTD [.str p3]=some (.int (P3:Int))) (mo:modO W (P3:Int)=some 0) :
  kJ [tI xs,tI os,.int (k:Int),.int (N:Int),.list [.str t0,.str t1,.str t2,.str t3,.str t4,.str t5,.str t5,.str t7,.str t8]]=.ok (.bool true):=by
 obtain⟨T,hT⟩:∃T:List D,T=[.str t0,.str t1,.str t2,.str t3,.str t4,.str t5,.str t5,.str t7,.str t8]:=⟨_,rfl⟩
 have a0:atI T 0=some (.str t0):=by rw[hT];rfl
 have a1:atI T 1=some (.str t1):=by rw[hT];rfl
 have a2:atI T 2=some (.str t2):=by rw[hT];rfl
 have a3:atI T 3=some (.str t3):=by rw[hT];rfl
 have a4:atI T 4=some (.str t4):=by rw[hT];rfl
 have a5:atI T 5=some (.str t5):=by rw[hT];rfl
 have a6:atI T 6=some (.str t5):=by rw[hT];rfl
 have a7:atI T 7=some (.str t7):=by rw[hT];rfl
 have a8:atI T 8=some (.str t8):=by rw[hT];rfl
 rw[<-hT]
 have g7:gTl 2 (gsC (gN 10) (gsC (gN 11) gsN)) (.list [.str p0,.str p1]) [some (tI xs),some (tI os),some (.int (k:Int)),some (.int (N:Int)),some (.list T),some (.int (n:Int)),some (tI fs),some (.list ps),some (.int (U:Int)),some (tI gs),none,none]=some [some (tI xs),some (tI os),some (.int (k:Int)),some (.int (N:Int)),some (.list T),some (.int (n:Int)),some (tI fs),some (.list ps),some (.int (U:Int)),some (tI gs),some (.str p0),some (.str p1)]:=rfl
 have g8:gTl 2 (gsC (gN 10) (gsC (gN 11) gsN)) (.list [.str p2,.str p3]) [some (tI xs),some (tI os),some (.int (k:Int)),some (.int (N:Int)),some (.list T),some (.int (n:Int)),some (tI fs),some (.list ps),some (.int (U:Int)),some (tI gs),some (.str p0),some (.str p1)]=some [some (tI xs),some (tI os),some (.int (k:Int)),some (.int (N:Int)),some (.list T),some (.int (n:Int)),some (tI fs),some (.list ps),some (.int (U:Int)),some (tI gs),some (.str p2),some (.str p3)]:=rfl
 show (zL6 [some (tI xs),some (tI os),some (.int (k:Int)),some (.int (N:Int)),some (.list T),none,none,none,none,none,none,none]).bind (fin false)=_
 unfold zL6
 simp -implicitDefEqProofs only[(evA),hx,a0,c0,w0,n0,fi,w1,ef,j1,x1,a1,n1,c3,xZ,yP,jp,ep,j3,x3,a3,n3,ne,s2,a2,n2,hh,zX8,decide_true,a4,ro,gg,c9,mx,decide_eq_false (show ¬(k:Int)<M by bv_omega),hg,a5,a6,n5,i5,decide_eq_false (show ¬(G:Int)<=(N:Int) by bv_omega),a7,s7,g7,i70,i71,wy,xA m0,xA m1,mm,a8,s8,g8,fV,dg,i83,mo,vV]
theorem wF2 {r:List Nat}(h:r ≠ []) (hr:∀x∈r,x<61):rT r ≠ "":=by
 intro z
 have t:=congrArg tl z
 cases r with
 | nil=>exact h rfl
 | cons a r =>
  have ne0:=wQ5 (hr a List.mem_cons_self)
  cases r with
  | nil=>exact ne0 t
  | cons b r =>
   have e:rT (a::b::r)=numT a ++ " "++rT (b::r):=rfl
   rw[e,yF,yF] at t
   have t2:=congrArg List.length t
   rw[List.length_append,List.length_append] at t2
   have p:=List.length_pos_iff.mpr ne0
   have z0:(tl ("":Str)).length=0:=rfl
   bv_omega
theorem zF4:∀ts:List Str,(∀t∈ts,PyData.strOk t=true)->SeqAt.shaped (.list (ts.map PyData.str))=true:=fun ts h=>by
 have lay:∀ts:List Str,(∀t∈ts,PyData.strOk t=true)->PyData.canLayAll0 (ts.map PyData.str)=true/\PyData.depthAll (ts.map PyData.str)=0:=fun ts=>by
  induction ts with
  | nil=>exact fun _=>⟨rfl,rfl⟩
  | cons t ts ih =>
   intro h
   obtain⟨a,b⟩:=ih fun x hx=>h x (List.mem_cons_of_mem _ hx)
   rw[List.map_cons,PyData.canLayAll0,PyData.depthAll,a,b,PyData.canLay0,PyData.depth,h t List.mem_cons_self]
   exact⟨rfl,rfl⟩
 obtain⟨a,b⟩:=lay ts h
 unfold SeqAt.shaped
 rw[PyData.canLay0,PyData.depth,a,b]
 rfl
theorem wT2 {ts:List Str}(h:∀t∈ts,PyData.strOk t=true):eqD (.list (ts.map PyData.str)) (.list (ts.map PyData.str))=some true:=by
 have sh:=zF4 ts h
 unfold eqD
 rw[if_pos ⟨sh,sh⟩,SeqAt.eqv_refl _ (SeqAt.canLay_of_shaped sh)]
theorem xP8 {ts:List Str}(h:∀t∈ts,PyData.strOk t=true):eqD (.list (ts.map PyData.str)) (.list [])=some (decide (ts=[])):=by
 have sh:=zF4 ts h
 have s0:=zF4 [] (fun _ z=>nomatch z)
 unfold eqD
 rw[if_pos ⟨sh,s0⟩]
 cases ts <;> rfl
theorem zS3 {a b:Nat}(ha:a<10 ^ 80) (hb:b<10 ^ 80):splD (Str.join " of " [nT a,nT b]) (.str " of ")=some (.list [.str (nT a),.str (nT b)])/\(Str.join " of " [nT a,nT b]).length<=200/\10∉tl (Str.join " of " [nT a,nT b])/\PyData.strOk (Str.join " of " [nT a,nT b])=true:=by
 have lb:=wF
 have of4:(" of ":Str).length=4:=rfl
 have jof:Str.join " of " [nT a,nT b]=nT a ++ " of "++nT b:=rfl
 have lof:(Str.join " of " [nT a,nT b]).length<=200:=by
  rw[jof,Str.length_append,Str.length_append,of4]
  have:=(xM ha).len
  have:=(xM hb).len
  bv_omega
 have fof:∀t ∈ [nT a,nT b],10∉tl t/\PyData.strOk t=true/\32∉tl t:=fun t ht=>by
  have:t=nT a\/t=nT b:=by simpa using ht
  rcases this with rfl | rfl
  ·exact⟨zV1 ha (by decide),(xM ha).ok,zV1 ha (by decide)⟩
  ·exact⟨zV1 hb (by decide),(xM hb).ok,zV1 hb (by decide)⟩
 refine⟨?_,lof,qK (by decide +kernel) _ fun t ht=>(fof t ht).1,kL (by decide +kernel) _ fun t ht=>(fof t ht).2.1⟩
 unfold splD
 rw[yP,Option.bind_some,if_pos ⟨by decide,by bv_omega⟩,uY (y:=" of ") (ps:=[nT a,nT b]) (c:=32) (y':=[111,102,32]) rfl (by decide +kernel) (fun z=>nomatch z) fun p hp=>(fof p hp).2.2]
 rfl
theorem zY5 {t:Str}(h:PyData.strOk t=true):neD (.str t) (.str t)=some false:=by
 rw[cK h h,decide_eq_true rfl]
 rfl
theorem xT9 {n k N W a b a' b':Nat}{xs gs:List Int}{os:List Nat}(A:Ask 0 n xs os k) (n40:n<=40) (og:Ord n gs) (T:Told k (List.range n) N (rgs n gs n)) (hN:N<gn k n) (hW:M12.fac n=(W:Int)) (W79:W<10 ^ 79)
  (a80:a<10 ^ 80) (b80:b<10 ^ 80) (ab:a*W=b*gn k n) (a80':a'<10 ^ 80) (b80':b'<10 ^ 80) (b0':0<b') (bW:b' ∣ W) :
  kJ [tI xs,tI (rI' os),.int (k:Int),.int (N:Int),.list [.str (ansT 0 n xs os k),.str (ansT 1 n xs os k),.str (ansT 2 n xs os k),.str (ansT 3 n xs os k),.str (ordT n gs),.str (nT (gn k n)),.str (nT (gn k n)),.str (Str.join " of " [nT a,nT b]),.str (Str.join " of " [nT a',nT b'])]]=.ok (.bool true):=by
 have o:=A.ord
 have hn:=A.n60
 have n1:=A.n1
 have A1:Ask 1 n xs os k:=⟨by decide,o,n1,hn,A.opn,A.ol,A.oo,A.k1,A.kn⟩
 have A2:Ask 2 n xs os k:=⟨by decide,o,n1,hn,A.opn,A.ol,A.oo,A.k1,A.kn⟩
 have A3:Ask 3 n xs os k:=⟨by decide,o,n1,hn,A.opn,A.ol,A.oo,A.k1,A.kn⟩
 have gs80:gn k n<10 ^ 80:=Nat.lt_trans (bA n40) (by decide +kernel)
 have W80:W<10 ^ 80:=Nat.lt_trans W79 (by decide +kernel)
 obtain⟨hj,hl,hs,_⟩:=yN8 A
 obtain⟨h1,h2⟩:=A.told
 have lenf:∀r:List Nat,(∀x∈r,x<61)->∀x∈r,x<10 ^ 80:=fun r h x hx=>small80 (by have:=h x hx;bv_omega)
 obtain⟨M,mx,mk⟩:=yE2 og n1 hn (yI5 T List.pairwise_lt_range).2
 have ef:=zE8 o A.opn n1 hn
 have eF':tI (FN n xs (rI' os))=tI (rI' (fl n xs os)):=rfl
 rw[eF'] at ef
 refine xT7 (U:=ND n k xs) (G:=gn k n) (P0:=a) (P1:=b) (P3:=b') (W:=M12.fac n) (gs:=gs) (fs:=rI' (fl n xs os)) (sz:=rI' (lens n xs)) (gz:=rI' (lens n gs)) (ps:=((MR.told n k xs).map pT).map PyData.str) (t1':=rT (fl n xs os)) (t3':=hpT (MR.told n k xs)) (p0:=nT a) (p1:=nT b) (p2:=nT a') (p3:=nT b')
  (bf:=decide (fl n xs os=[])) (bp:=decide ((MR.told n k xs).map pT=[])) (i1:=if fl n xs os=[] then 1 else 0) (i3:=if MR.told n k xs=[] then 1 else 0)
  (by rw[List.length_map,o.len]) (fun rest=>yU1 o n1 hn (by simp -implicitDefEqProofs only[(evA),zE3 o hn])) (uI (.inr rfl) (lenf _ A.lens.1) A.lens.2) (zY5 (aX A).2.2)
  ef (uI (.inl rfl) (lenf _ A.fl.1) A.fl.2) ?_ ?_ ?_ (zY5 (aX A1).2.2)
  (fun rest => ?_) hj ?_ ?_ ?_ (zY5 (aX A3).2.2)
  (xM1 o hn A.k1 (Nat.le_trans A.kn hn)) (if_pos (xR _ A.nd).2.2.2.1) (zY5 (aX A2).2.2) (yD7 A)
  (zR2 og n1 hn) (yX9 og hn T) (fun _ _ _ _ _ _ _ _ _ _ _=>yU1 og n1 hn (by simp -implicitDefEqProofs only[(evA),zE3 og hn])) mx mk (by rw[List.length_map,og.len])
  (zY5 (xM gs80).ok) (zX2 gs80) hN (zS3 a80 b80).1 (zX2 a80) (zX2 b80) (xK3 n1 hn) ?_ (yB6 gs80 b80) ?_ (zS3 a80' b80').1 (xM a80').dig (zX2 b80') ?_
 ·have e:=wR4 (rI' (fl n xs os)) []
  rw[show (tI ([]:List Int))=.tuple [] from rfl] at e
  rw[e]
  congr 1
  refine decide_eq_decide.mpr ⟨fun z=>List.map_eq_nil_iff.mp z,fun z=>by rw[z];rfl⟩
 ·by_cases c:fl n xs os=[]
  ·rw[if_pos c,decide_eq_true c];rfl
  ·rw[if_neg c,decide_eq_false c];rfl
 ·show _=some (PyData.str (tON (rT (fl n xs os))))
  by_cases c:fl n xs os=[]
  ·rw[if_pos c,c,show tON (rT [])="none" by decide +kernel];rfl
  ·rw[if_neg c,show tON (rT (fl n xs os))=rT (fl n xs os) from if_neg (wF2 c A.fl.1)];rfl
 ·have er:rows ((MR.told n k xs).map pL)=.list ((MR.told n k xs).map fun q=>tI (pL q)):=by
   unfold rows
   rw[List.map_map]
   rfl
  have ee:=zL7 o hn A.k1 A.kn
  rw[er] at ee
  rw[List.map_map]
  refine xJ (fun q:Nat×Nat=>tI (pL q)) (fun q=>PyData.str (pT q)) (MR.told n k xs) (by simp -implicitDefEqProofs only[(evA),ee]) (by bv_omega) fun q hq => ?_
  obtain⟨_,_,b1,b2⟩:=h2 q hq
  have lb:=wF
  have n1':=xR q.1 b1
  have n2':=xR q.2 b2
  have l1:("-":Str).length=1:=rfl
  have q0:atI ((pL q).map PyData.int) 0=some (.int (q.1:Int)):=rfl
  have q1:atI ((pL q).map PyData.int) 1=some (.int (q.2:Int)):=rfl
  have e1:strOfD [.int (q.1:Int)]=some (.str (numT q.1)):=if_pos n1'.2.2.2.1
  have e2':strOfD [.int (q.2:Int)]=some (.str (numT q.2)):=if_pos n2'.2.2.2.1
  have k1:catS (.str (numT q.1)) (.str "-")=some (.str (numT q.1 ++ "-")):=if_pos (by have:=n1'.1.1;bv_omega)
  have k2:catS (.str (numT q.1 ++ "-")) (.str (numT q.2))=some (.str (pT q)):=if_pos (by rw[Str.length_append];have:=n1'.1.1;have:=n2'.1.1;bv_omega)
  show e2 catS _ _ [some (tI (pL q))]=_
  simp -implicitDefEqProofs only[(evA),q0,q1,e1,e2',k1,k2]
 ·exact xP8 fun t ht=>by
   obtain⟨q,hq,rfl⟩:=List.mem_map.mp ht
   exact (zD8 (h2 q hq).2.2.1 (h2 q hq).2.2.2).2.1
 ·by_cases c:MR.told n k xs=[]
  ·rw[if_pos c,decide_eq_true (List.map_eq_nil_iff.mpr c)];rfl
  ·rw[if_neg c,decide_eq_false (fun z=>c (List.map_eq_nil_iff.mp z))];rfl
 ·show _=some (PyData.str (tON (hpT (MR.told n k xs))))
  by_cases c:MR.told n k xs=[]
  ·rw[if_pos c,c,show tON (hpT [])="none" by decide +kernel];rfl
  ·rw[if_neg c,show tON (hpT (MR.told n k xs))=hpT (MR.told n k xs) from if_neg (xT6 c (fun q hq=>(h2 q hq).2.2) (by decide +kernel))];rfl
 ·rw[hW]
  exact yB6 a80 W80
 ·rw[hW,<-Int.natCast_mul,ab,Int.natCast_mul,Int.mul_comm]
 ·rw[hW]
  unfold modO
  rw[if_pos (by bv_omega)]
  obtain⟨v,rfl⟩:=bW
  rw[Int.natCast_mul,Int.mul_emod_right]
def lwR:Ev->Res Out:=(sQ (sS 3 (eF dW (aC (eV 1) (aC (eV 2) aN)))) (sQ (sS 4 (e2 addI (eC (.int 1)) (e2 modI (e2 fdivI (eV 1) (eC (.int 5))) (eV 2)))) (sQ (sS 5 (eB tupD (aC (eComp (iR rng1 (aC (eV 2) aN)) tYes (e2 modI (e2 fdivI (e2 fdivI (eV 1) (eC (.int 7))) (e2 addI (eV 0) (eC (.int 1)))) (e2 addI (eV 2) (eC (.int 1)))) [1,2]) aN))) (sQ (sS 6 (eF vR (aC (eV 3) aN))) (sQ (sS 7 (eF xF (aC (e2 catS (e2 catS (e2 catS (eC (.str "good ")) (eB strOfD (aC (eV 2) aN))) (eC (.str " "))) (eB strOfD (aC (eV 4) aN))) aN))) (sQ (sS 8 (e2 modI (e2 fdivI (eV 1) (eC (.int 11))) (eB max2D (aC (eC (.int 1)) (aC (eB intTD (aC (eV 7) aN)) aN))))) (sQ (sS 9 (eB mkL (aC (e2 catS (eC (.str "rings / ")) (eV 6)) (aC (e2 catS (e2 catS (e2 catS (eC (.str "find ")) (eF yQ (aC (eV 5) aN))) (eC (.str " / "))) (eV 6)) aN)))) (sQ (sM 9 appD (aC (e2 catS (e2 catS (e2 catS (eC (.str "need ")) (eB strOfD (aC (eV 4) aN))) (eC (.str " / "))) (eV 6)) aN)) (sQ (sS 9 (e2 catL (eV 9) (eB mkL (aC (e2 catS (e2 catS (e2 catS (eC (.str "help ")) (eB strOfD (aC (eV 4) aN))) (eC (.str " / "))) (eV 6)) (aC (e2 catS (eC (.str "goodorder ")) (eF yQ (aC (eB mkL (aC (eV 2) (aC (eV 4) (aC (eV 8) aN)))) aN))) aN))))) (sQ (sS 9 (e2 catL (eV 9) (eB mkL (aC (e2 catS (eC (.str "good ")) (eF yQ (aC (eB mkL (aC (eV 2) (aC (eV 4) aN))) aN))) (aC (e2 catS (eC (.str "group ")) (eF yQ (aC (eB mkL (aC (eV 2) (aC (eV 4) (aC (eV 2) aN)))) aN))) aN))))) (sQ (sS 9 (e2 catL (eV 9) (eB mkL (aC (e2 catS (eC (.str "share ")) (eF yQ (aC (e2 repL (eB mkL (aC (eV 4) aN)) (eV 2)) aN))) (aC (e2 catS (eC (.str "share ")) (eF yQ (aC (eV 5) aN))) aN))))) (sQ (sS 10 (eM1S splD (eF xF (aC (eM1S joinD (eC (.str "\n")) (eV 9)) aN)) (eC (.str "\n")))) (sQ (sIf (tO (b2 neD (eB lenD (aC (eV 10) aN)) (eB lenD (aC (eV 9) aN))) (tNt (tV (eF kJ (aC (eV 3) (aC (eV 5) (aC (eV 4) (aC (eV 8) (aC (eV 10) aN))))))))) (sR (eC (.bool false))) sN) (sQ (sS 11 (e2 modI (eV 1) (eB lenD (aC (eV 9) aN)))) (sQ (sS 12 (eF xF (aC (eM1S joinD (eC (.str "\n")) (e2 catL (eS slL (eV 9) (oS (eV 11)) oN) (eS slL (eV 9) oN (oS (eV 11))))) aN))) (sR (e2 (fun x y=>bD (eqD x y)) (eM1S splD (eV 12) (eC (.str "\n"))) (e2 catL (eS slL (eV 10) (oS (eV 11)) oN) (eS slL (eV 10) oN (oS (eV 11)))))))))))))))))))))
theorem wH5:xU1=(sQ (sS 1 (eF zJ8 (aC (eV 0) aN))) (sQ (sS 2 (e2 addI (eC (.int 1)) (e2 modI (eF vX (aC (eV 0) (aC (eC (.int 0)) aN))) (eC (.int 12))))) (sQ (sIf (b2 eqD (e2 modI (e2 fdivI (eF vX (aC (eV 0) (aC (eC (.int 0)) aN))) (eC (.int 12))) (eC (.int 8))) (eC (.int 3))) (sS 2 (e2 addI (eC (.int 13)) (e2 modI (e2 fdivI (eF vX (aC (eV 0) (aC (eC (.int 0)) aN))) (eC (.int 96))) (eC (.int 28))))) sN) lwR))):=rfl
theorem xI3 {ns:List Int}{c:Int}{n k N G:Nat}{a:Nat}{xs os ks:List Int}{x y z g1 g2 g3 f b v1 v2 u1 u2 w1 w2 g gd gr kb r0 r1 r2 r3 r4 r5 r6 r7 r8 t0 t1 t2 t3 t4 t5 t6 t7 t8 R Z R' Z':Str}{Ra Rb Rc Ta Tb Tc:List D}
  (e3:dW [.int c,.int (n:Int)]=.ok (tI xs)) (d5:fdivO c 5=some (c / 5)) (m5:modO (c / 5) (n:Int)=some (c / 5%(n:Int))) (ek:1+c / 5%(n:Int)=(k:Int))
  (c5:∀r3 r4 r5 r6 r7 r8 r9 r10 r11 r12:Option D,eComp (iR rng1 (aC (eV 2) aN)) tYes (e2 modI (e2 fdivI (e2 fdivI (eV 1) (eC (.int 7))) (e2 addI (eV 0) (eC (.int 1)))) (e2 addI (eV 2) (eC (.int 1)))) [1,2] [some (lI ns),some (.int c),some (.int (n:Int)),r3,r4,r5,r6,r7,r8,r9,r10,r11,r12]=.ok (lI os))
  (e6:vR [tI xs]=.ok (.str x)) (sn:strOfD [.int (n:Int)]=some (.str y)) (sk:strOfD [.int (k:Int)]=some (.str z))
  (k1:catS (.str "good ") (.str y)=some (.str g1)) (k2:catS (.str g1) (.str " ")=some (.str g2)) (k3:catS (.str g2) (.str z)=some (.str g3)) (an0:xF [.str g3]=.ok (.str f)) (fi:intTD [.str f]=some (.int (G:Int))) (mx:max2D [.int 1,.int (G:Int)]=some (.int (G:Int)))
  (d11:fdivO c 11=some (c / 11)) (m11:modO (c / 11) (G:Int)=some (N:Int))
  (q0:catS (.str "rings / ") (.str x)=some (.str r0))
  (wo:yQ [tI os]=.ok (.str b)) (f1:catS (.str "find ") (.str b)=some (.str u1)) (f2:catS (.str u1) (.str " / ")=some (.str u2)) (f3:catS (.str u2) (.str x)=some (.str r1))
  (n1:catS (.str "need ") (.str z)=some (.str v1)) (n2:catS (.str v1) (.str " / ")=some (.str v2)) (n3:catS (.str v2) (.str x)=some (.str r2))
  (h1:catS (.str "help ") (.str z)=some (.str w1)) (h2:catS (.str w1) (.str " / ")=some (.str w2)) (h3:catS (.str w2) (.str x)=some (.str r3))
  (wg:yQ [.list [.int (n:Int),.int (k:Int),.int (N:Int)]]=.ok (.str g)) (cg:catS (.str "goodorder ") (.str g)=some (.str r4))
  (wd':yQ [.list [.int (n:Int),.int (k:Int)]]=.ok (.str gd)) (cd:catS (.str "good ") (.str gd)=some (.str r5))
  (wr:yQ [.list [.int (n:Int),.int (k:Int),.int (n:Int)]]=.ok (.str gr)) (cr:catS (.str "group ") (.str gr)=some (.str r6))
  (rp:repL (.list [.int (k:Int)]) (.int (n:Int))=some (lI ks)) (wk:yQ [lI ks]=.ok (.str kb)) (s7:catS (.str "share ") (.str kb)=some (.str r7)) (s8:catS (.str "share ") (.str b)=some (.str r8))
  (jr:joinD "\n" (.list [.str r0,.str r1,.str r2,.str r3,.str r4,.str r5,.str r6,.str r7,.str r8])=some (.str R)) (an:xF [.str R]=.ok (.str Z)) (sp:splD Z (.str "\n")=some (.list [.str t0,.str t1,.str t2,.str t3,.str t4,.str t5,.str t6,.str t7,.str t8]))
  (rt:kJ [tI xs,tI os,.int (k:Int),.int (N:Int),.list [.str t0,.str t1,.str t2,.str t3,.str t4,.str t5,.str t6,.str t7,.str t8]]=.ok (.bool true))
  (m9:modO c 9=some (a:Int))
  (ra:slL (.list [.str r0,.str r1,.str r2,.str r3,.str r4,.str r5,.str r6,.str r7,.str r8]) (some (a:Int)) none=some (.list Ra)) (rb:slL (.list [.str r0,.str r1,.str r2,.str r3,.str r4,.str r5,.str r6,.str r7,.str r8]) none (some (a:Int))=some (.list Rb)) (rc:catL (.list Ra) (.list Rb)=some (.list Rc))
  (jr':joinD "\n" (.list Rc)=some (.str R')) (an':xF [.str R']=.ok (.str Z')) (sp':splD Z' (.str "\n")=some (.list Tc))
  (ta:slL (.list [.str t0,.str t1,.str t2,.str t3,.str t4,.str t5,.str t6,.str t7,.str t8]) (some (a:Int)) none=some (.list Ta)) (tb:slL (.list [.str t0,.str t1,.str t2,.str t3,.str t4,.str t5,.str t6,.str t7,.str t8]) none (some (a:Int))=some (.list Tb)) (tc:catL (.list Ta) (.list Tb)=some (.list Tc))
  (eq:eqD (.list Tc) (.list Tc)=some true):(lwR [some (lI ns),some (.int c),some (.int (n:Int)),none,none,none,none,none,none,none,none,none,none]).bind (fin false)=.ok (.bool true):=by
 have ap:appD [PyData.str r0,.str r1] [.str r2]=some [.str r0,.str r1,.str r2]:=rfl
 have l1:catL (.list [PyData.str r0,.str r1,.str r2]) (.list [.str r3,.str r4])=some (.list [.str r0,.str r1,.str r2,.str r3,.str r4]):=rfl
 have l2:catL (.list [PyData.str r0,.str r1,.str r2,.str r3,.str r4]) (.list [.str r5,.str r6])=some (.list [.str r0,.str r1,.str r2,.str r3,.str r4,.str r5,.str r6]):=rfl
 have l3:catL (.list [PyData.str r0,.str r1,.str r2,.str r3,.str r4,.str r5,.str r6]) (.list [.str r7,.str r8])=some (.list [.str r0,.str r1,.str r2,.str r3,.str r4,.str r5,.str r6,.str r7,.str r8]):=rfl
 have nn:((9:Nat):Int)=9:=rfl
 have n9:[PyData.str r0,.str r1,.str r2,.str r3,.str r4,.str r5,.str r6,.str r7,.str r8].length=9:=rfl
 have n9':[PyData.str t0,.str t1,.str t2,.str t3,.str t4,.str t5,.str t6,.str t7,.str t8].length=9:=rfl
 obtain⟨RR,hR⟩:∃RR:List D,RR=[PyData.str r0,.str r1,.str r2,.str r3,.str r4,.str r5,.str r6,.str r7,.str r8]:=⟨_,rfl⟩
 obtain⟨TT,hT⟩:∃TT:List D,TT=[PyData.str t0,.str t1,.str t2,.str t3,.str t4,.str t5,.str t6,.str t7,.str t8]:=⟨_,rfl⟩
 rw[<-hR] at l3 n9 jr ra rb
 rw[<-hT] at n9' sp rt ta tb
 have sla:∀(xs:List D) (i:Int) (ts:List D),slL (.list xs) (some i) none=some (.list ts)->some (PyData.list (cutD xs (some i) none))=some (.list ts):=fun _ _ _ h=>h
 have slb:∀(xs:List D) (i:Int) (ts:List D),slL (.list xs) none (some i)=some (.list ts)->some (PyData.list (cutD xs none (some i)))=some (.list ts):=fun _ _ _ h=>h
 have ra2:=sla _ _ _ ra
 have rb2:=slb _ _ _ rb
 have ta2:=sla _ _ _ ta
 have tb2:=slb _ _ _ tb
 unfold lwR
 simp -implicitDefEqProofs only[(evA),e3,d5,m5,ek,c5,e6,sn,sk,k1,k2,k3,an0,fi,mx,d11,m11,q0,wo,f1,f2,f3,ap,n1,n2,n3,h1,h2,h3,wg,cg,l1,wd',cd,wr,cr,l2,rp,wk,s7,s8,l3,xZ,yP,jr,an,sp,n9,n9',nn,zX8,decide_true,rt,m9,ra2,rb2,rc,jr',an',sp',ta2,tb2,tc,eq]
theorem wV5 {G:Nat}(h:0<G):max2D [.int 1,.int (G:Int)]=some (.int (G:Int)):=by
 have e:(if (G:Int) > 1 then (G:Int) else 1)=(G:Int):=by split <;> bv_omega
 show some (PyData.int (if (G:Int) > 1 then (G:Int) else 1))=_
 rw[e]
theorem kX {a b:Str}(ha:a.length<=20000) (hb:b.length<=20000):catS (.str a) (.str b)=some (.str (a++b)):=by
 have:=wF
 exact if_pos (by bv_omega)
theorem bI {W V:Str}{ns:List Nat}(A:NW W ns) (h:ns ≠ []) (e:V=W ++ " "):catS (.str V) (.str (Str.join " " (ns.map nT)))=some (.str (nrow W ns)):=by
 have ee:=yT1 (W:=W) h e
 have lg:=(vL A).1
 rw[<-ee] at lg ⊢
 rw[Str.length_append] at lg
 exact kX (by bv_omega) (by bv_omega)
theorem xY9 (ns:List Int) (c:Int){n:Nat}(n1:1<=n) (n40:n<=40):(lwR [some (lI ns),some (.int c),some (.int (n:Int)),none,none,none,none,none,none,none,none,none,none]).bind (fin false)=.ok (.bool true):=by
 have hn60:n<=60:=by bv_omega
 have k0:=Int.emod_nonneg (c / 5) (show (n:Int)≠0 by bv_omega)
 have k9:=Int.emod_lt_of_pos (c / 5) (show (0:Int)<(n:Int) by bv_omega)
 obtain⟨k,ek⟩:∃k:Nat,1+c / 5%(n:Int)=(k:Int):=⟨(1+c / 5%(n:Int)).toNat,by bv_omega⟩
 have k1:1<=k:=by bv_omega
 have kn:k<=n:=by bv_omega
 have k61:k<61:=by bv_omega
 have n61:n<61:=by bv_omega
 have gp:=xR9 k k1 n
 have gs:=bA (k:=k) n40
 have g80:gn k n<10 ^ 80:=Nat.lt_trans gs (by decide +kernel)
 have N0:=Int.emod_nonneg (c / 11) (show ((gn k n:Nat):Int)≠0 by bv_omega)
 have N9:=Int.emod_lt_of_pos (c / 11) (show (0:Int)<((gn k n:Nat):Int) by bv_omega)
 obtain⟨N,eN⟩:∃N:Nat,c / 11%((gn k n:Nat):Int)=(N:Int):=⟨(c / 11%((gn k n:Nat):Int)).toNat,by bv_omega⟩
 have hN:N<gn k n:=by bv_omega
 have a0:=Int.emod_nonneg c (show (9:Int)≠0 by decide)
 obtain⟨a,ea⟩:∃a:Nat,c%9=(a:Int):=⟨(c%9).toNat,by bv_omega⟩
 have eo:=xV1 c n (show n<=1000 by bv_omega)
 have o:=zB5 c n
 generalize (lawOrd c n).1=xs at eo o
 obtain⟨os,hos⟩:∃os:List Nat,os=(List.range n).map fun (j:Nat)=>(c / 7 / ((j:Int)+1)%((n:Int)+1)).toNat:=⟨_,rfl⟩
 have ol:os.length=n:=by rw[hos,List.length_map,List.length_range]
 have ob:∀x∈os,x<=n:=fun x hx=>by
  rw[hos] at hx
  obtain⟨j,_,rfl⟩:=List.mem_map.mp hx
  have:=Int.emod_lt_of_pos (c / 7 / ((j:Int)+1)) (show (0:Int)<(n:Int)+1 by bv_omega)
  bv_omega
 have one:os ≠ []:=fun z=>by rw[z] at ol;have:0=n:=ol;bv_omega
 have qo:Opn n (rI' os):=⟨by rw[yM,ol],fun x hx=>by
  unfold rI' at hx
  obtain⟨y,hy,rfl⟩:=List.mem_map.mp hx
  have:=ob y hy
  bv_omega⟩
 have A:∀w,w<4->Ask w n xs os k:=fun w hw=>⟨hw,o,n1,hn60,qo,ol,fun x hx=>by have:=ob x hx;bv_omega,k1,kn⟩
 have A0:=A 0 (by decide)
 have o80:∀x∈os,x<10 ^ 80:=fun x hx=>small80 (by have:=ob x hx;bv_omega)
 obtain⟨ys,oy,T,ego⟩:=yP5 n1 n40 hN
 obtain⟨F',W,a',b',_,hW,W79,a80',b80',b0',_,bW,esh'⟩:=yU8 qo n1 n40
 obtain⟨F,W2,p,q,hF,hW2,_,p80,q80,_,pq,_,esh⟩:=yU8 (yB8 kn) n1 n40
 have eW:W2=W:=Int.ofNat_inj.mp (hW2.symm.trans hW)
 have eF:F=gn k n:=by
  have e:rI' (List.replicate n k)=List.replicate n (k:Int):=by unfold rI';rw[List.map_replicate]
  rw[e,xH8,List.map_replicate,Int.toNat_natCast,yR2 n k] at hF
  exact (Int.ofNat_inj.mp hF).symm
 rw[eW,eF] at pq
 have ko:∀x∈List.replicate n k,x<10 ^ 80:=fun x hx=>small80 (by rw[List.eq_of_mem_replicate hx];bv_omega)
 have n3:∀x ∈ [n,k,n],x<10 ^ 80:=fun x hx=>small80 (by
  have:x=n\/x=k\/x=n:=by simpa using hx
  bv_omega)
 have n2:∀x ∈ [n,k],x<10 ^ 80:=fun x hx=>small80 (by
  have:x=n\/x=k:=by simpa using hx
  bv_omega)
 have nN:∀x ∈ [n,k,N],x<10 ^ 80:=fun x hx=>by
  have:x=n\/x=k\/x=N:=by simpa using hx
  rcases this with rfl | rfl | rfl
  ·exact small80 (by bv_omega)
  ·exact small80 (by bv_omega)
  ·bv_omega
 have wgo:=nw (wd "goodorder" (by simp)) nN (by simp)
 have wgd:=nw (wd "good" (by simp)) n2 (by simp)
 have wgr:=nw (wd "group" (by simp)) n3 (by simp)
 have wsh:=nw (wd "share" (by simp)) ko (by rw[List.length_replicate];bv_omega)
 have wsh':=nw (wd "share" (by simp)) o80 (by bv_omega)
 have qy:=zD1 oy n1 hn60
 obtain⟨sp1,sp2,sp3,sp4⟩:=zS3 p80 q80
 obtain⟨sq1,sq2,sq3,sq4⟩:=zS3 a80' b80'
 have ask:∀w,w<4->PrA (rowT w n xs os k,ansT w n xs os k):=fun w hw=>⟨xW5 (A w hw),xX9 (A w hw),xG4 (A w hw),Nat.le_trans (aX (A w hw)).1 (by decide),(aX (A w hw)).2.1,(aX (A w hw)).2.2⟩
 have pgd:PrA (nrow "good" [n,k],nT (gn k n)):=⟨hZ wgd (xE1 n40),Nat.le_trans (vL wgd).1 (by decide),(vL wgd).2.1,(zX9 g80).1,(zX9 g80).2.1,(zX9 g80).2.2⟩
 obtain⟨L,hL⟩:∃L:List (Str×Str),L=[(rowT 0 n xs os k,ansT 0 n xs os k),(rowT 1 n xs os k,ansT 1 n xs os k),(rowT 2 n xs os k,ansT 2 n xs os k),(rowT 3 n xs os k,ansT 3 n xs os k),(nrow "goodorder" [n,k,N],ordT n ys),(nrow "good" [n,k],nT (gn k n)),(nrow "group" [n,k,n],nT (gn k n)),(nrow "share" (List.replicate n k),Str.join " of " [nT p,nT q]),(nrow "share" os,Str.join " of " [nT a',nT b'])]:=⟨_,rfl⟩
 have hg:∀p∈L,PrA p:=fun p hp=>by
  rw[hL] at hp
  simp only[List.mem_cons,List.not_mem_nil,or_false] at hp
  rcases hp with rfl | rfl | rfl | rfl | rfl | rfl | rfl | rfl | rfl
  ·exact ask 0 (by decide)
  ·exact ask 1 (by decide)
  ·exact ask 2 (by decide)
  ·exact ask 3 (by decide)
  ·exact⟨hZ wgo ego,Nat.le_trans (vL wgo).1 (by decide),(vL wgo).2.1,Nat.le_trans (yX7 qy) (by decide),yS7 (.inl rfl) qy,yV8 qy⟩
  ·exact pgd
  ·exact⟨hZ wgr (xO5 n1 n40),Nat.le_trans (vL wgr).1 (by decide),(vL wgr).2.1,(zX9 g80).1,(zX9 g80).2.1,(zX9 g80).2.2⟩
  ·exact⟨hZ wsh esh,Nat.le_trans (vL wsh).1 (by decide),(vL wsh).2.1,Nat.le_trans sp2 (by decide),sp3,sp4⟩
  ·exact⟨hZ wsh' esh',Nat.le_trans (vL wsh').1 (by decide),(vL wsh').2.1,Nat.le_trans sq2 (by decide),sq3,sq4⟩
 have L9:L.length=9:=by rw[hL];rfl
 have L0:L ≠ []:=fun z=>by rw[z] at L9;cases L9
 have L12:L.length<=12:=by bv_omega
 obtain⟨L',hL'⟩:∃L':List (Str×Str),L'=L.drop a++L.take a:=⟨_,rfl⟩
 have m':∀p∈L',p∈L:=fun p hp=>by
  rw[hL'] at hp
  rcases List.mem_append.mp hp with h | h
  ·exact List.mem_of_mem_drop h
  ·exact List.mem_of_mem_take h
 have L9':L'.length=9:=by
  rw[hL',List.length_append,List.length_drop,List.length_take]
  bv_omega
 have L0':L' ≠ []:=fun z=>by rw[z] at L9';cases L9'
 have L12':L'.length<=12:=by bv_omega
 have hg':∀p∈L',PrA p:=fun p hp=>hg p (m' p hp)
 have an:=zZ9 L0 L12 hg
 have sp:=yL2 L0 L12 hg
 have jr:=uG (zT5 (ts:=L.map Prod.fst) (by rw[List.length_map];exact L12) (prs hg).1.1).1
 have an':=zZ9 L0' L12' hg'
 have sp':=yL2 L0' L12' hg'
 have jr':=uG (zT5 (ts:=L'.map Prod.fst) (by rw[List.length_map];exact L12') (prs hg').1.1).1
 have eqq:=wT2 (ts:=L'.map Prod.snd) fun t ht=>by
  obtain⟨p,hp,rfl⟩:=List.mem_map.mp ht
  exact (hg' p hp).ok
 have cut1:∀f:Str×Str->Str,slL (.list ((L.map f).map PyData.str)) (some (a:Int)) none=some (.list (((L.drop a).map f).map PyData.str)):=fun f=>by
  show some (PyData.list (cutD _ (some (a:Int)) none))=_
  rw[cF,List.map_drop,List.map_drop]
 have cut2:∀f:Str×Str->Str,slL (.list ((L.map f).map PyData.str)) none (some (a:Int))=some (.list (((L.take a).map f).map PyData.str)):=fun f=>by
  show some (PyData.list (cutD _ none (some (a:Int))))=_
  rw[wP6,List.map_take,List.map_take]
 have cut3:∀f:Str×Str->Str,catL (.list (((L.drop a).map f).map PyData.str)) (.list (((L.take a).map f).map PyData.str))=some (.list ((L'.map f).map PyData.str)):=fun f=>by
  show (if _ then some (PyData.list (_++_)) else none)=_
  rw[if_pos (by
   rw[List.length_map,List.length_map,List.length_map,List.length_map,List.length_drop,List.length_take]
   have:=wF
   bv_omega),hL',List.map_append,List.map_append]
 have ra:=cut1 Prod.fst
 have rb:=cut2 Prod.fst
 have rc:=cut3 Prod.fst
 have ta:=cut1 Prod.snd
 have tb:=cut2 Prod.snd
 have tc:=cut3 Prod.snd
 generalize ((L.drop a).map Prod.fst).map PyData.str=Ra at ra rc
 generalize ((L.take a).map Prod.fst).map PyData.str=Rb at rb rc
 generalize ((L'.map Prod.fst)).map PyData.str=Rc at rc jr'
 generalize ((L.drop a).map Prod.snd).map PyData.str=Ta at ta tc
 generalize ((L.take a).map Prod.snd).map PyData.str=Tb at tb tc
 generalize ((L'.map Prod.snd)).map PyData.str=Tc at tc sp' eqq
 generalize Str.join "\n" (L'.map Prod.fst)=R' at an' jr'
 generalize Str.join "\n" (L'.map Prod.snd)=Z' at an' sp'
 generalize Str.join "\n" (L.map Prod.fst)=R at an jr
 generalize Str.join "\n" (L.map Prod.snd)=Z at an sp
 rw[hL] at sp jr ra rb ta tb
 simp only[List.map_cons,List.map_nil] at sp jr ra rb ta tb
 have lo:=yX7 A0.rs
 have c3:(" / ":Str).length=3:=rfl
 have c1:(" ":Str).length=1:=rfl
 have c8:("rings / ":Str).length=8:=rfl
 have c5:("find ":Str).length=5/\("need ":Str).length=5/\("help ":Str).length=5/\("good ":Str).length=5:=⟨rfl,rfl,rfl,rfl⟩
 have lr:=bT (r:=os) (fun x hx=>by have:=ob x hx;bv_omega) (by bv_omega)
 have lk:=(xR k k61).1.1
 have ln:=(xR n n61).1.1
 have ehd:∀w,w<4->(hdT w os k).length<=190:=fun w hw=>(zA1 (A w hw)).1
 have q0:catS (.str "rings / ") (.str (ordT n xs))=some (.str (rowT 0 n xs os k)):=by
  have e:("rings / ":Str)++ordT n xs=rowT 0 n xs os k:=by
   show _=hdT 0 os k ++ " / "++ordT n xs
   rw[show hdT 0 os k="rings" from rfl,show ("rings / ":Str)="rings" ++ " / " from vA (by decide +kernel)]
  rw[<-e]
  exact kX (by bv_omega) (by bv_omega)
 have row3:∀w,w<4->catS (.str (hdT w os k)) (.str " / ")=some (.str (hdT w os k ++ " / "))/\catS (.str (hdT w os k ++ " / ")) (.str (ordT n xs))=some (.str (rowT w n xs os k)):=fun w hw=>by
  have:=ehd w hw
  exact⟨kX (by bv_omega) (by bv_omega),kX (by rw[Str.length_append];bv_omega) (by bv_omega)⟩
 have f1:catS (.str "find ") (.str (rT os))=some (.str (hdT 1 os k)):=by
  rw[xA9 k one]
  exact kX (by bv_omega) (by bv_omega)
 have g2:catS (.str "need ") (.str (numT k))=some (.str (hdT 2 os k)):=by
  rw[wS1 os k]
  exact kX (by bv_omega) (by bv_omega)
 have g3:catS (.str "help ") (.str (numT k))=some (.str (hdT 3 os k)):=by
  rw[xA8 os k]
  exact kX (by bv_omega) (by bv_omega)
 have gd3:catS (.str ("good "++numT n ++ " ")) (.str (numT k))=some (.str (nrow "good" [n,k])):=by
  have e:"good "++numT n ++ " "++numT k=nrow "good" [n,k]:=by
   rw[<-yT1 (W:="good") (ns:=[n,k]) (fun z=>nomatch z) (V:="good ") (vA (by decide +kernel)),dQ,dQ]
   show _="good "++(nT n ++ " "++nT k)
   rw[dQ]
   rfl
  rw[<-e]
  exact kX (by rw[Str.length_append,Str.length_append];bv_omega) (by bv_omega)
 have an0:=zZ9 (L:=[(nrow "good" [n,k],nT (gn k n))]) (fun z=>nomatch z) (show 1<=12 by decide) fun p hp=>by
  rw[List.mem_singleton.mp hp]
  exact pgd
 have an0:xF [.str (nrow "good" [n,k])]=.ok (.str (nT (gn k n))):=an0
 have sk:strOfD [.int (k:Int)]=some (.str (numT k)):=if_pos (xR k k61).2.2.2.1
 have sn:strOfD [.int (n:Int)]=some (.str (numT n)):=if_pos (xR n n61).2.2.2.1
 have mx:=wV5 gp
 have rp:repL (.list [.int (k:Int)]) (.int (n:Int))=some (lI (rI' (List.replicate n k))):=by
  rw[bE _ _ (by bv_omega)]
  unfold lI rI'
  rw[List.map_replicate,List.map_replicate]
 have bo:=uI (d:=tI (rI' os)) (.inl rfl) o80 (by bv_omega)
 refine xI3 (c:=c) (k:=k) (N:=N) (G:=gn k n) (a:=a) (xs:=xs) (os:=rI' os) (ks:=rI' (List.replicate n k)) eo (if_pos (DivOk.small (by decide) (by decide))) (if_pos (by bv_omega)) ek ?_ (dE o n1 hn60) sn sk (kX (by bv_omega) (by bv_omega)) (kX (by rw[Str.length_append];bv_omega) (by bv_omega)) gd3 an0 (zX2 g80) mx (if_pos (DivOk.small (by decide) (by decide))) ?_ q0 bo f1 (row3 1 (by decide)).1 (row3 1 (by decide)).2 g2 (row3 2 (by decide)).1 (row3 2 (by decide)).2 g3 (row3 3 (by decide)).1 (row3 3 (by decide)).2
  (uI (ns:=[n,k,N]) (.inr rfl) nN (by simp)) (bI wgo (fun z=>nomatch z) (vA (by decide +kernel))) (uI (ns:=[n,k]) (.inr rfl) n2 (by simp)) (bI wgd (fun z=>nomatch z) (vA (by decide +kernel))) (uI (ns:=[n,k,n]) (.inr rfl) n3 (by simp)) (bI wgr (fun z=>nomatch z) (vA (by decide +kernel)))
  rp (uI (.inr rfl) ko (by rw[List.length_replicate];bv_omega)) (bI wsh (fun z=>by have:=congrArg List.length z;rw[List.length_replicate] at this;have:n=0:=this;bv_omega) (vA (by decide +kernel))) (bI wsh' one (vA (by decide +kernel))) jr an sp
  (xT9 A0 n40 oy T hN hW W79 p80 q80 pq a80' b80' b0' bW) ?_ ra rb rc jr' an' sp' ta tb tc eqq
 ·intro r3 r4 r5 r6 r7 r8 r9 r10 r11 r12
  have e:lI (rI' os)=.list ((List.range n).map fun (j:Nat)=>PyData.int (c / 7 / ((j:Int)+1)%((n:Int)+1))):=by
   rw[hos]
   unfold lI rI'
   rw[List.map_map,List.map_map]
   refine congrArg PyData.list (List.map_congr_left fun j _ => ?_)
   have:=Int.emod_nonneg (c / 7 / ((j:Int)+1)) (show (n:Int)+1≠0 by bv_omega)
   show PyData.int (((c / 7 / ((j:Int)+1)%((n:Int)+1)).toNat:Nat):Int)=_
   rw[Int.toNat_of_nonneg this]
  rw[e]
  refine xJ (fun i:Nat=>PyData.int (i:Int)) (fun j=>PyData.int (c / 7 / ((j:Int)+1)%((n:Int)+1))) (List.range n) (by simp -implicitDefEqProofs only[(evA),cJ (show n<=1000 by bv_omega)]) (by rw[List.length_range];bv_omega) fun j hj => ?_
  have hj:=List.mem_range.mp hj
  have d7:fdivO c 7=some (c / 7):=if_pos (DivOk.small (by decide) (by decide))
  have dj:fdivO (c / 7) ((j:Int)+1)=some (c / 7 / ((j:Int)+1)):=if_pos (DivOk.small (by bv_omega) (by bv_omega))
  have mj:modO (c / 7 / ((j:Int)+1)) ((n:Int)+1)=some (c / 7 / ((j:Int)+1)%((n:Int)+1)):=if_pos (by bv_omega)
  show e2 modI _ _ [some (.int (j:Int)),some (.int c),some (.int (n:Int))]=_
  simp -implicitDefEqProofs only[(evA),d7,dj,mj]
 ·unfold modO
  rw[if_pos (by bv_omega),eN]
 ·unfold modO
  rw[if_pos (by decide),ea]
theorem law_true (ns:List Int) (h:ns.length<=63):xT4 [.list (ns.map PyData.int)]=.ok (.bool true):=by
 show (xU1 [some (lI ns),none,none,none,none,none,none,none,none,none,none,none,none]).bind (fin false)=_
 rw[wH5]
 obtain⟨c,ec⟩:=xI6 ns
 have e0:=yE5 ns 0
 rw[show ((0:Nat):Int)=0 from rfl] at e0
 generalize ns.getD 0 0=v at e0
 have m12:modO v 12=some (v%12):=if_pos (by decide)
 have d12:fdivO v 12=some (v / 12):=if_pos (DivOk.small (by decide) (by decide))
 have m8:modO (v / 12) 8=some (v / 12%8):=if_pos (by decide)
 have d96:fdivO v 96=some (v / 96):=if_pos (DivOk.small (by decide) (by decide))
 have m28:modO (v / 96) 28=some (v / 96%28):=if_pos (by decide)
 by_cases cc:v / 12%8=3
 ·obtain⟨n,en⟩:∃n:Nat,13+v / 96%28=(n:Int):=⟨(13+v / 96%28).toNat,by bv_omega⟩
  have r:=xY9 ns c (n:=n) (by bv_omega) (by bv_omega)
  simp -implicitDefEqProofs only[(evA),ec,e0,m12,d12,m8,vV,decide_eq_true cc,d96,m28,en]
  exact r
 ·obtain⟨n,en⟩:∃n:Nat,1+v%12=(n:Int):=⟨(1+v%12).toNat,by bv_omega⟩
  have r:=xY9 ns c (n:=n) (by bv_omega) (by bv_omega)
  simp -implicitDefEqProofs only[(evA),ec,e0,m12,d12,m8,vV,decide_eq_false cc,en]
  exact r
end K64
set_option hygiene false in
local macro_rules | `(tactic| sleep 11)=>`(tactic| (dsimp only[L2.KOf];refine' ⟨_,_,L2.zK2 KX G ?a ?l ?c ?k ?b⟩; (case a=>k_is); (case l=>k_is); (case c=>k_is); (case k=>k_is); (case b=>intro _ _ _ _ _ _;refine L2.L3.ls1 ?_;exact fun _=>rfl)))
set_option hygiene false in
local macro_rules | `(tactic| sleep 12)=>`(tactic| (dsimp only[L2.KOf];refine' ⟨_,_,L2.zK2 KX G ?a ?l ?c ?k ?b⟩; (case a=>k_is); (case l=>k_is); (case c=>k_is); (case k=>k_is); (case b=>intro _ _ _ _ _ _;refine L2.L3.ls2 ?_;exact fun _ _=>rfl)))
set_option hygiene false in
local macro_rules | `(tactic| sleep 13)=>`(tactic| (dsimp only[L2.KOf];refine' ⟨_,_,L2.zK2 KX G ?a ?l ?c ?k ?b⟩; (case a=>k_is); (case l=>k_is); (case c=>k_is); (case k=>k_is); (case b=>intro _ _ _ _ _ _;refine L2.L3.ls3 ?_;exact fun _ _ _=>rfl)))
set_option hygiene false in
local macro_rules | `(tactic| sleep 15)=>`(tactic| (dsimp only[L2.KOf];refine' ⟨_,_,L2.zK2 KX G ?a ?l ?c ?k ?b⟩; (case a=>k_is); (case l=>k_is); (case c=>k_is); (case k=>k_is); (case b=>intro _ _ _ _ _ _;refine L2.L3.ls5 ?_;exact fun _ _ _ _ _=>rfl)))
def PySem.W.Fast.tw3037789246087650818 : Unit := ()
theorem PySem.W.Fast.te3037789246087650818 : True := trivial
def PySem.W.Fast.tw16643469277463458439 : PySem.Program := PySem.Challenge.pw_ownboxes_k64_whole_from_text_to_answers
theorem PySem.W.Fast.te16643469277463458439 : PySem.Challenge.pw_ownboxes_k64_whole_from_text_to_answers = PySem.W.Fast.tw16643469277463458439 := rfl
def PySem.W.Fast.tw2398123254133675424 : Unit := ()
def PySem.W.Fast.tw6459827281347770573 : Unit := ()
def PySem.W.Fast.tw15537833617533358036 : Unit := ()
def PySem.W.Fast.tw15525324883215642566 : Unit := ()
def PySem.W.Fast.tw8272914991347422663 : Unit := ()
def PySem.W.Fast.tw5020962852624794179 : Unit := ()
def PySem.W.Fast.tw1537758129579989591 : Unit := ()
def PySem.W.Fast.tw699425167403692632 : Unit := ()
def PySem.W.Fast.tw8561084447149002572 : Unit := ()
def PySem.W.Fast.tw4102764185359968508 : Unit := ()
def PySem.W.Fast.tw15269608499392230206 : Unit := ()
def PySem.W.Fast.tw12668277658112973962 : Unit := ()
def PySem.W.Fast.tw14548251020552103249 : Unit := ()
def PySem.W.Fast.tw4238286548627784871 : Unit := ()
open PySem PySem.W PyProof.Rows
theorem K64.big_mk {K:KFr}{a_BadBox a_BadGroup a_BadOpenings a_BadOrder a_NoHelp a_NoNumber a_TooMany:PySem.Addr}(n_BadBox:PySem.W.nsIn K PySem.mainGlobals "BadBox" = some (some (.ref a_BadBox))) (n_BadGroup:PySem.W.nsIn K PySem.mainGlobals "BadGroup" = some (some (.ref a_BadGroup))) (n_BadOpenings:PySem.W.nsIn K PySem.mainGlobals "BadOpenings" = some (some (.ref a_BadOpenings))) (n_BadOrder:PySem.W.nsIn K PySem.mainGlobals "BadOrder" = some (some (.ref a_BadOrder))) (n_NoHelp:PySem.W.nsIn K PySem.mainGlobals "NoHelp" = some (some (.ref a_NoHelp))) (n_NoNumber:PySem.W.nsIn K PySem.mainGlobals "NoNumber" = some (some (.ref a_NoNumber))) (n_TooMany:PySem.W.nsIn K PySem.mainGlobals "TooMany" = some (some (.ref a_TooMany))) (o_BadOrder:PySem.W.excIn K a_BadOrder L2.L3.bmV "ValueError.__new__" = true) (g1_BadOrder:PySem.W.findIn K (.ref a_BadOrder) "__getattribute__" = some (some (.builtin "BaseException.__getattribute__"))) (g2_BadOrder:PySem.W.findIn K (.ref a_BadOrder) "__getattr__" = some none) (g3_BadOrder:PySem.W.findIn K (.ref a_BadOrder) "__class__" = some (some (.builtin "object.__class__"))) (g4_BadOrder:PySem.W.kitOne K (.ref a_BadOrder) (.type "BaseException")=some true) (g5_BadOrder:PySem.W.kitOne K (.ref a_BadOrder) (.type "object")=some true) (g6_BadOrder:(PySem.W.clsIn K a_BadOrder).isSome=true) (o_BadBox:PySem.W.excIn K a_BadBox L2.L3.bmV "ValueError.__new__" = true) (g1_BadBox:PySem.W.findIn K (.ref a_BadBox) "__getattribute__" = some (some (.builtin "BaseException.__getattribute__"))) (g2_BadBox:PySem.W.findIn K (.ref a_BadBox) "__getattr__" = some none) (g3_BadBox:PySem.W.findIn K (.ref a_BadBox) "__class__" = some (some (.builtin "object.__class__"))) (g4_BadBox:PySem.W.kitOne K (.ref a_BadBox) (.type "BaseException")=some true) (g5_BadBox:PySem.W.kitOne K (.ref a_BadBox) (.type "object")=some true) (g6_BadBox:(PySem.W.clsIn K a_BadBox).isSome=true) (o_BadOpenings:PySem.W.excIn K a_BadOpenings L2.L3.bmV "ValueError.__new__" = true) (g1_BadOpenings:PySem.W.findIn K (.ref a_BadOpenings) "__getattribute__" = some (some (.builtin "BaseException.__getattribute__"))) (g2_BadOpenings:PySem.W.findIn K (.ref a_BadOpenings) "__getattr__" = some none) (g3_BadOpenings:PySem.W.findIn K (.ref a_BadOpenings) "__class__" = some (some (.builtin "object.__class__"))) (g4_BadOpenings:PySem.W.kitOne K (.ref a_BadOpenings) (.type "BaseException")=some true) (g5_BadOpenings:PySem.W.kitOne K (.ref a_BadOpenings) (.type "object")=some true) (g6_BadOpenings:(PySem.W.clsIn K a_BadOpenings).isSome=true) (o_TooMany:PySem.W.excIn K a_TooMany L2.L3.bmV "ValueError.__new__" = true) (g1_TooMany:PySem.W.findIn K (.ref a_TooMany) "__getattribute__" = some (some (.builtin "BaseException.__getattribute__"))) (g2_TooMany:PySem.W.findIn K (.ref a_TooMany) "__getattr__" = some none) (g3_TooMany:PySem.W.findIn K (.ref a_TooMany) "__class__" = some (some (.builtin "object.__class__"))) (g4_TooMany:PySem.W.kitOne K (.ref a_TooMany) (.type "BaseException")=some true) (g5_TooMany:PySem.W.kitOne K (.ref a_TooMany) (.type "object")=some true) (g6_TooMany:(PySem.W.clsIn K a_TooMany).isSome=true) (o_BadGroup:PySem.W.excIn K a_BadGroup L2.L3.bmV "ValueError.__new__" = true) (g1_BadGroup:PySem.W.findIn K (.ref a_BadGroup) "__getattribute__" = some (some (.builtin "BaseException.__getattribute__"))) (g2_BadGroup:PySem.W.findIn K (.ref a_BadGroup) "__getattr__" = some none) (g3_BadGroup:PySem.W.findIn K (.ref a_BadGroup) "__class__" = some (some (.builtin "object.__class__"))) (g4_BadGroup:PySem.W.kitOne K (.ref a_BadGroup) (.type "BaseException")=some true) (g5_BadGroup:PySem.W.kitOne K (.ref a_BadGroup) (.type "object")=some true) (g6_BadGroup:(PySem.W.clsIn K a_BadGroup).isSome=true) (o_NoHelp:PySem.W.excIn K a_NoHelp L2.L3.bmV "ValueError.__new__" = true) (g1_NoHelp:PySem.W.findIn K (.ref a_NoHelp) "__getattribute__" = some (some (.builtin "BaseException.__getattribute__"))) (g2_NoHelp:PySem.W.findIn K (.ref a_NoHelp) "__getattr__" = some none) (g3_NoHelp:PySem.W.findIn K (.ref a_NoHelp) "__class__" = some (some (.builtin "object.__class__"))) (g4_NoHelp:PySem.W.kitOne K (.ref a_NoHelp) (.type "BaseException")=some true) (g5_NoHelp:PySem.W.kitOne K (.ref a_NoHelp) (.type "object")=some true) (g6_NoHelp:(PySem.W.clsIn K a_NoHelp).isSome=true) (o_NoNumber:PySem.W.excIn K a_NoNumber L2.L3.bmV "ValueError.__new__" = true) (g1_NoNumber:PySem.W.findIn K (.ref a_NoNumber) "__getattribute__" = some (some (.builtin "BaseException.__getattribute__"))) (g2_NoNumber:PySem.W.findIn K (.ref a_NoNumber) "__getattr__" = some none) (g3_NoNumber:PySem.W.findIn K (.ref a_NoNumber) "__class__" = some (some (.builtin "object.__class__"))) (g4_NoNumber:PySem.W.kitOne K (.ref a_NoNumber) (.type "BaseException")=some true) (g5_NoNumber:PySem.W.kitOne K (.ref a_NoNumber) (.type "object")=some true) (g6_NoNumber:(PySem.W.clsIn K a_NoNumber).isSome=true):∃a_BadBox a_BadGroup a_BadOpenings a_BadOrder a_NoHelp a_NoNumber a_TooMany:PySem.Addr,(PySem.W.nsIn K PySem.mainGlobals "BadBox" = some (some (.ref a_BadBox)))/\(PySem.W.nsIn K PySem.mainGlobals "BadGroup" = some (some (.ref a_BadGroup)))/\(PySem.W.nsIn K PySem.mainGlobals "BadOpenings" = some (some (.ref a_BadOpenings)))/\(PySem.W.nsIn K PySem.mainGlobals "BadOrder" = some (some (.ref a_BadOrder)))/\(PySem.W.nsIn K PySem.mainGlobals "NoHelp" = some (some (.ref a_NoHelp)))/\(PySem.W.nsIn K PySem.mainGlobals "NoNumber" = some (some (.ref a_NoNumber)))/\(PySem.W.nsIn K PySem.mainGlobals "TooMany" = some (some (.ref a_TooMany)))/\(PySem.W.excIn K a_BadOrder L2.L3.bmV "ValueError.__new__" = true)/\(PySem.W.findIn K (.ref a_BadOrder) "__getattribute__" = some (some (.builtin "BaseException.__getattribute__")))/\(PySem.W.findIn K (.ref a_BadOrder) "__getattr__" = some none)/\(PySem.W.findIn K (.ref a_BadOrder) "__class__" = some (some (.builtin "object.__class__")))/\(PySem.W.kitOne K (.ref a_BadOrder) (.type "BaseException")=some true)/\(PySem.W.kitOne K (.ref a_BadOrder) (.type "object")=some true)/\((PySem.W.clsIn K a_BadOrder).isSome=true)/\(PySem.W.excIn K a_BadBox L2.L3.bmV "ValueError.__new__" = true)/\(PySem.W.findIn K (.ref a_BadBox) "__getattribute__" = some (some (.builtin "BaseException.__getattribute__")))/\(PySem.W.findIn K (.ref a_BadBox) "__getattr__" = some none)/\(PySem.W.findIn K (.ref a_BadBox) "__class__" = some (some (.builtin "object.__class__")))/\(PySem.W.kitOne K (.ref a_BadBox) (.type "BaseException")=some true)/\(PySem.W.kitOne K (.ref a_BadBox) (.type "object")=some true)/\((PySem.W.clsIn K a_BadBox).isSome=true)/\(PySem.W.excIn K a_BadOpenings L2.L3.bmV "ValueError.__new__" = true)/\(PySem.W.findIn K (.ref a_BadOpenings) "__getattribute__" = some (some (.builtin "BaseException.__getattribute__")))/\(PySem.W.findIn K (.ref a_BadOpenings) "__getattr__" = some none)/\(PySem.W.findIn K (.ref a_BadOpenings) "__class__" = some (some (.builtin "object.__class__")))/\(PySem.W.kitOne K (.ref a_BadOpenings) (.type "BaseException")=some true)/\(PySem.W.kitOne K (.ref a_BadOpenings) (.type "object")=some true)/\((PySem.W.clsIn K a_BadOpenings).isSome=true)/\(PySem.W.excIn K a_TooMany L2.L3.bmV "ValueError.__new__" = true)/\(PySem.W.findIn K (.ref a_TooMany) "__getattribute__" = some (some (.builtin "BaseException.__getattribute__")))/\(PySem.W.findIn K (.ref a_TooMany) "__getattr__" = some none)/\(PySem.W.findIn K (.ref a_TooMany) "__class__" = some (some (.builtin "object.__class__")))/\(PySem.W.kitOne K (.ref a_TooMany) (.type "BaseException")=some true)/\(PySem.W.kitOne K (.ref a_TooMany) (.type "object")=some true)/\((PySem.W.clsIn K a_TooMany).isSome=true)/\(PySem.W.excIn K a_BadGroup L2.L3.bmV "ValueError.__new__" = true)/\(PySem.W.findIn K (.ref a_BadGroup) "__getattribute__" = some (some (.builtin "BaseException.__getattribute__")))/\(PySem.W.findIn K (.ref a_BadGroup) "__getattr__" = some none)/\(PySem.W.findIn K (.ref a_BadGroup) "__class__" = some (some (.builtin "object.__class__")))/\(PySem.W.kitOne K (.ref a_BadGroup) (.type "BaseException")=some true)/\(PySem.W.kitOne K (.ref a_BadGroup) (.type "object")=some true)/\((PySem.W.clsIn K a_BadGroup).isSome=true)/\(PySem.W.excIn K a_NoHelp L2.L3.bmV "ValueError.__new__" = true)/\(PySem.W.findIn K (.ref a_NoHelp) "__getattribute__" = some (some (.builtin "BaseException.__getattribute__")))/\(PySem.W.findIn K (.ref a_NoHelp) "__getattr__" = some none)/\(PySem.W.findIn K (.ref a_NoHelp) "__class__" = some (some (.builtin "object.__class__")))/\(PySem.W.kitOne K (.ref a_NoHelp) (.type "BaseException")=some true)/\(PySem.W.kitOne K (.ref a_NoHelp) (.type "object")=some true)/\((PySem.W.clsIn K a_NoHelp).isSome=true)/\(PySem.W.excIn K a_NoNumber L2.L3.bmV "ValueError.__new__" = true)/\(PySem.W.findIn K (.ref a_NoNumber) "__getattribute__" = some (some (.builtin "BaseException.__getattribute__")))/\(PySem.W.findIn K (.ref a_NoNumber) "__getattr__" = some none)/\(PySem.W.findIn K (.ref a_NoNumber) "__class__" = some (some (.builtin "object.__class__")))/\(PySem.W.kitOne K (.ref a_NoNumber) (.type "BaseException")=some true)/\(PySem.W.kitOne K (.ref a_NoNumber) (.type "object")=some true)/\((PySem.W.clsIn K a_NoNumber).isSome=true):=⟨a_BadBox,a_BadGroup,a_BadOpenings,a_BadOrder,a_NoHelp,a_NoNumber,a_TooMany,n_BadBox,n_BadGroup,n_BadOpenings,n_BadOrder,n_NoHelp,n_NoNumber,n_TooMany,o_BadOrder,g1_BadOrder,g2_BadOrder,g3_BadOrder,g4_BadOrder,g5_BadOrder,g6_BadOrder,o_BadBox,g1_BadBox,g2_BadBox,g3_BadBox,g4_BadBox,g5_BadBox,g6_BadBox,o_BadOpenings,g1_BadOpenings,g2_BadOpenings,g3_BadOpenings,g4_BadOpenings,g5_BadOpenings,g6_BadOpenings,o_TooMany,g1_TooMany,g2_TooMany,g3_TooMany,g4_TooMany,g5_TooMany,g6_TooMany,o_BadGroup,g1_BadGroup,g2_BadGroup,g3_BadGroup,g4_BadGroup,g5_BadGroup,g6_BadGroup,o_NoHelp,g1_NoHelp,g2_NoHelp,g3_NoHelp,g4_NoHelp,g5_NoHelp,g6_NoHelp,o_NoNumber,g1_NoNumber,g2_NoNumber,g3_NoNumber,g4_NoNumber,g5_NoNumber,g6_NoNumber⟩
set_option maxRecDepth 100000 in
set_option maxHeartbeats 0 in
theorem PySem.Challenge.cw_ownboxes_k64_whole_from_text_to_answers_holds : PySem.Challenge.rw_ownboxes_k64_whole_from_text_to_answers.Holds := by
 w_on;o_law;k_head; (case hw=>w_witness2)
 k_fill
 refine L2.L3.xL3 (F:=K64.xT4) (k:=9) (l:=PySem.Challenge.rw_ownboxes_k64_whole_from_text_to_answers) K64.law_true ⟨rfl,by decide,by decide⟩ rfl rfl (fun w h Y=>PySem.W.kIn_of Y) (fun w=>by rfl) ?F
 case F =>
  intro w mg fa h KX G hmg
  letI cn:L2.L3.CN:=L2.L3.cnOf (L2.KOf KX)
  have D_is_order:∃f fd,L2.Has (L2.KOf KX) mg "is_order" K64.cO f fd ["names"]:=by sleep 11
  have D_ring_from:∃f fd,L2.Has (L2.KOf KX) mg "ring_from" K64.dZ f fd ["order","box"]:=by sleep 12
  have D_rings_of:∃f fd,L2.Has (L2.KOf KX) mg "rings_of" K64.cN f fd ["order"]:=by sleep 11
  have D_order_by:∃f fd,L2.Has (L2.KOf KX) mg "order_by" K64.cP f fd ["rings"]:=by sleep 11
  have D_check_box:∃f fd,L2.Has (L2.KOf KX) mg "check_box" K64.fF f fd ["order","box"]:=by sleep 12
  have D_exchanged:∃f fd,L2.Has (L2.KOf KX) mg "exchanged" K64.fH f fd ["order","one","other"]:=by sleep 13
  have D_many_orders:∃f fd,L2.Has (L2.KOf KX) mg "many_orders" K64.kR f fd ["people"]:=by sleep 11
  have D_made_openings:∃f fd,L2.Has (L2.KOf KX) mg "made_openings" K64.qM f fd ["people","numbers"]:=by sleep 12
  have D_finders:∃f fd,L2.Has (L2.KOf KX) mg "finders" K64.dX f fd ["order","openings"]:=by sleep 12
  have D_check_people:∃f fd,L2.Has (L2.KOf KX) mg "check_people" K64.jQ f fd ["people"]:=by sleep 11
  have D_check_people_and_k:∃f fd,L2.Has (L2.KOf KX) mg "check_people_and_k" K64.wA f fd ["people","k"]:=by sleep 12
  have D_many_by_lengths:∃f fd,L2.Has (L2.KOf KX) mg "many_by_lengths" K64.uQ f fd ["people","least","most"]:=by sleep 13
  have D_many_good:∃f fd,L2.Has (L2.KOf KX) mg "many_good" K64.dY f fd ["people","k"]:=by sleep 12
  have D_many_finding:∃f fd,L2.Has (L2.KOf KX) mg "many_finding" K64.jN f fd ["people","k"]:=by sleep 12
  have D_many_behind_person:∃f fd,L2.Has (L2.KOf KX) mg "many_behind_person" K64.wB f fd ["many","openings"]:=by sleep 12
  have D_many_all:∃f fd,L2.Has (L2.KOf KX) mg "many_all" K64.cV f fd ["openings"]:=by sleep 11
  have D_greatest_divisor:∃f fd,L2.Has (L2.KOf KX) mg "greatest_divisor" K64.vD f fd ["one","other"]:=by sleep 12
  have D_share:∃f fd,L2.Has (L2.KOf KX) mg "share" K64.zJ1 f fd ["openings"]:=by sleep 11
  have D_check_group:∃f fd,L2.Has (L2.KOf KX) mg "check_group" K64.kP f fd ["people","group"]:=by sleep 12
  have D_many_rows:∃f fd,L2.Has (L2.KOf KX) mg "many_rows" K64.fG f fd ["people","size"]:=by sleep 12
  have D_many_with_group:∃f fd,L2.Has (L2.KOf KX) mg "many_with_group" K64.wD f fd ["many","size"]:=by sleep 12
  have D_many_all_of:∃f fd,L2.Has (L2.KOf KX) mg "many_all_of" K64.kO f fd ["people","k","group"]:=by sleep 13
  have D_check_help:∃f fd,L2.Has (L2.KOf KX) mg "check_help" K64.gJ f fd ["order","k"]:=by sleep 12
  have D_need_of_rings:∃f fd,L2.Has (L2.KOf KX) mg "need_of_rings" K64.vE f fd ["order","k"]:=by sleep 12
  have D_need:∃f fd,L2.Has (L2.KOf KX) mg "need" K64.zB8 f fd ["order","k"]:=by sleep 12
  have D_exchanges:∃f fd,L2.Has (L2.KOf KX) mg "exchanges" K64.jB f fd ["order","k"]:=by sleep 12
  have D_many_first_rings:∃f fd,L2.Has (L2.KOf KX) mg "many_first_rings" K64.vI f fd ["boxes","length"]:=by sleep 12
  have D_many_with_first_ring:∃f fd,L2.Has (L2.KOf KX) mg "many_with_first_ring" K64.wO f fd ["many","boxes","length"]:=by sleep 13
  have D_ring_at:∃f fd,L2.Has (L2.KOf KX) mg "ring_at" K64.aI f fd ["left","length","place"]:=by sleep 13
  have D_ring_place:∃f fd,L2.Has (L2.KOf KX) mg "ring_place" K64.kA f fd ["left","ring"]:=by sleep 12
  have D_good_at:∃f fd,L2.Has (L2.KOf KX) mg "good_at" K64.dS f fd ["people","k","number"]:=by sleep 13
  have D_good_number:∃f fd,L2.Has (L2.KOf KX) mg "good_number" K64.qV f fd ["order","k"]:=by sleep 12
  have D_numbers_text:∃f fd,L2.Has (L2.KOf KX) mg "numbers_text" K64.uN f fd ["numbers"]:=by sleep 11
  have D_read_number:∃f fd,L2.Has (L2.KOf KX) mg "read_number" K64.kS f fd ["word","row"]:=by sleep 12
  have D_read_numbers:∃f fd,L2.Has (L2.KOf KX) mg "read_numbers" K64.uK f fd ["words","row"]:=by sleep 12
  have D_ring_text:∃f fd,L2.Has (L2.KOf KX) mg "ring_text" K64.fI f fd ["ring"]:=by sleep 11
  have D_order_text:∃f fd,L2.Has (L2.KOf KX) mg "order_text" K64.qG f fd ["order"]:=by sleep 11
  have D_read_order:∃f fd,L2.Has (L2.KOf KX) mg "read_order" K64.qI f fd ["text"]:=by sleep 11
  have D_text_or_none:∃f fd,L2.Has (L2.KOf KX) mg "text_or_none" K64.jS f fd ["text"]:=by sleep 11
  have D_share_text:∃f fd,L2.Has (L2.KOf KX) mg "share_text" K64.jW f fd ["openings"]:=by sleep 11
  have D_pair_text:∃f fd,L2.Has (L2.KOf KX) mg "pair_text" K64.jE f fd ["pair"]:=by sleep 11
  have D_help_text:∃f fd,L2.Has (L2.KOf KX) mg "help_text" K64.kU f fd ["order","k"]:=by sleep 12
  have D_first_people:∃f fd,L2.Has (L2.KOf KX) mg "first_people" K64.jP f fd ["count"]:=by sleep 11
  have D_answer_by_numbers:∃f fd,L2.Has (L2.KOf KX) mg "answer_by_numbers" K64.vQ f fd ["word","numbers"]:=by sleep 12
  have D_answer_by_order:∃f fd,L2.Has (L2.KOf KX) mg "answer_by_order" K64.wC f fd ["word","numbers","order"]:=by sleep 13
  have D_answer:∃f fd,L2.Has (L2.KOf KX) mg "answer" K64.zV2 f fd ["row"]:=by sleep 11
  have D_answer_or_refusal:∃f fd,L2.Has (L2.KOf KX) mg "answer_or_refusal" K64.vP f fd ["row"]:=by sleep 11
  have D_answered:∃f fd,L2.Has (L2.KOf KX) mg "answered" K64.hV f fd ["sheet"]:=by sleep 11
  have D_l_cell_at:∃f fd,L2.Has (L2.KOf KX) mg "_law_cell_at" K64.fK f fd ["script","k"]:=by sleep 12
  have D_l_order:∃f fd,L2.Has (L2.KOf KX) mg "_law_order" K64.aH f fd ["cell","many"]:=by sleep 12
  have D_l_all:∃f fd,L2.Has (L2.KOf KX) mg "_law_all" K64.zJ9 f fd ["script"]:=by sleep 11
  have D_l_ways:∃f fd,L2.Has (L2.KOf KX) mg "_law_ways" K64.zT6 f fd ["many"]:=by sleep 11
  have D_l_words:∃f fd,L2.Has (L2.KOf KX) mg "_law_words" K64.dL f fd ["numbers"]:=by sleep 11
  have D_l_helped:∃f fd,L2.Has (L2.KOf KX) mg "_law_helped" K64.gP f fd ["order","k","told"]:=by sleep 13
  have D_l_need:∃f fd,L2.Has (L2.KOf KX) mg "_law_need" K64.cD f fd ["order","k"]:=by sleep 12
  have D_l_right:∃f fd,L2.Has (L2.KOf KX) mg "_law_right" K64.qD f fd ["order","openings","k","number","told"]:=by sleep 15
  have D_law:∃f fd,L2.Has (L2.KOf KX) mg "law" K64.zA6 f fd ["script"]/\(∀(s:Shared) (u:Value),BindsTo s fd ⟨[u],[]⟩ [("script",u)]):=by
   dsimp only[L2.KOf]
   refine' ⟨_,_,L2.zK2 KX G ?a ?l ?c ?k ?b,?d⟩
   (case a=>k_is); (case l=>k_is); (case c=>k_is); (case k=>k_is)
   (case b=>intro _ _ _ _ _ _;refine L2.L3.ls1 ?_;exact fun _=>rfl)
   (case d=>exact fun s u=>.of_eq rfl)
  have BIG:∃a_BadBox a_BadGroup a_BadOpenings a_BadOrder a_NoHelp a_NoNumber a_TooMany:PySem.Addr,(PySem.W.nsIn (L2.KOf KX) PySem.mainGlobals "BadBox" = some (some (.ref a_BadBox)))/\(PySem.W.nsIn (L2.KOf KX) PySem.mainGlobals "BadGroup" = some (some (.ref a_BadGroup)))/\(PySem.W.nsIn (L2.KOf KX) PySem.mainGlobals "BadOpenings" = some (some (.ref a_BadOpenings)))/\(PySem.W.nsIn (L2.KOf KX) PySem.mainGlobals "BadOrder" = some (some (.ref a_BadOrder)))/\(PySem.W.nsIn (L2.KOf KX) PySem.mainGlobals "NoHelp" = some (some (.ref a_NoHelp)))/\(PySem.W.nsIn (L2.KOf KX) PySem.mainGlobals "NoNumber" = some (some (.ref a_NoNumber)))/\(PySem.W.nsIn (L2.KOf KX) PySem.mainGlobals "TooMany" = some (some (.ref a_TooMany)))/\(PySem.W.excIn (L2.KOf KX) a_BadOrder L2.L3.bmV "ValueError.__new__" = true)/\(PySem.W.findIn (L2.KOf KX) (.ref a_BadOrder) "__getattribute__" = some (some (.builtin "BaseException.__getattribute__")))/\(PySem.W.findIn (L2.KOf KX) (.ref a_BadOrder) "__getattr__" = some none)/\(PySem.W.findIn (L2.KOf KX) (.ref a_BadOrder) "__class__" = some (some (.builtin "object.__class__")))/\(PySem.W.kitOne (L2.KOf KX) (.ref a_BadOrder) (.type "BaseException")=some true)/\(PySem.W.kitOne (L2.KOf KX) (.ref a_BadOrder) (.type "object")=some true)/\((PySem.W.clsIn (L2.KOf KX) a_BadOrder).isSome=true)/\(PySem.W.excIn (L2.KOf KX) a_BadBox L2.L3.bmV "ValueError.__new__" = true)/\(PySem.W.findIn (L2.KOf KX) (.ref a_BadBox) "__getattribute__" = some (some (.builtin "BaseException.__getattribute__")))/\(PySem.W.findIn (L2.KOf KX) (.ref a_BadBox) "__getattr__" = some none)/\(PySem.W.findIn (L2.KOf KX) (.ref a_BadBox) "__class__" = some (some (.builtin "object.__class__")))/\(PySem.W.kitOne (L2.KOf KX) (.ref a_BadBox) (.type "BaseException")=some true)/\(PySem.W.kitOne (L2.KOf KX) (.ref a_BadBox) (.type "object")=some true)/\((PySem.W.clsIn (L2.KOf KX) a_BadBox).isSome=true)/\(PySem.W.excIn (L2.KOf KX) a_BadOpenings L2.L3.bmV "ValueError.__new__" = true)/\(PySem.W.findIn (L2.KOf KX) (.ref a_BadOpenings) "__getattribute__" = some (some (.builtin "BaseException.__getattribute__")))/\(PySem.W.findIn (L2.KOf KX) (.ref a_BadOpenings) "__getattr__" = some none)/\(PySem.W.findIn (L2.KOf KX) (.ref a_BadOpenings) "__class__" = some (some (.builtin "object.__class__")))/\(PySem.W.kitOne (L2.KOf KX) (.ref a_BadOpenings) (.type "BaseException")=some true)/\(PySem.W.kitOne (L2.KOf KX) (.ref a_BadOpenings) (.type "object")=some true)/\((PySem.W.clsIn (L2.KOf KX) a_BadOpenings).isSome=true)/\(PySem.W.excIn (L2.KOf KX) a_TooMany L2.L3.bmV "ValueError.__new__" = true)/\(PySem.W.findIn (L2.KOf KX) (.ref a_TooMany) "__getattribute__" = some (some (.builtin "BaseException.__getattribute__")))/\(PySem.W.findIn (L2.KOf KX) (.ref a_TooMany) "__getattr__" = some none)/\(PySem.W.findIn (L2.KOf KX) (.ref a_TooMany) "__class__" = some (some (.builtin "object.__class__")))/\(PySem.W.kitOne (L2.KOf KX) (.ref a_TooMany) (.type "BaseException")=some true)/\(PySem.W.kitOne (L2.KOf KX) (.ref a_TooMany) (.type "object")=some true)/\((PySem.W.clsIn (L2.KOf KX) a_TooMany).isSome=true)/\(PySem.W.excIn (L2.KOf KX) a_BadGroup L2.L3.bmV "ValueError.__new__" = true)/\(PySem.W.findIn (L2.KOf KX) (.ref a_BadGroup) "__getattribute__" = some (some (.builtin "BaseException.__getattribute__")))/\(PySem.W.findIn (L2.KOf KX) (.ref a_BadGroup) "__getattr__" = some none)/\(PySem.W.findIn (L2.KOf KX) (.ref a_BadGroup) "__class__" = some (some (.builtin "object.__class__")))/\(PySem.W.kitOne (L2.KOf KX) (.ref a_BadGroup) (.type "BaseException")=some true)/\(PySem.W.kitOne (L2.KOf KX) (.ref a_BadGroup) (.type "object")=some true)/\((PySem.W.clsIn (L2.KOf KX) a_BadGroup).isSome=true)/\(PySem.W.excIn (L2.KOf KX) a_NoHelp L2.L3.bmV "ValueError.__new__" = true)/\(PySem.W.findIn (L2.KOf KX) (.ref a_NoHelp) "__getattribute__" = some (some (.builtin "BaseException.__getattribute__")))/\(PySem.W.findIn (L2.KOf KX) (.ref a_NoHelp) "__getattr__" = some none)/\(PySem.W.findIn (L2.KOf KX) (.ref a_NoHelp) "__class__" = some (some (.builtin "object.__class__")))/\(PySem.W.kitOne (L2.KOf KX) (.ref a_NoHelp) (.type "BaseException")=some true)/\(PySem.W.kitOne (L2.KOf KX) (.ref a_NoHelp) (.type "object")=some true)/\((PySem.W.clsIn (L2.KOf KX) a_NoHelp).isSome=true)/\(PySem.W.excIn (L2.KOf KX) a_NoNumber L2.L3.bmV "ValueError.__new__" = true)/\(PySem.W.findIn (L2.KOf KX) (.ref a_NoNumber) "__getattribute__" = some (some (.builtin "BaseException.__getattribute__")))/\(PySem.W.findIn (L2.KOf KX) (.ref a_NoNumber) "__getattr__" = some none)/\(PySem.W.findIn (L2.KOf KX) (.ref a_NoNumber) "__class__" = some (some (.builtin "object.__class__")))/\(PySem.W.kitOne (L2.KOf KX) (.ref a_NoNumber) (.type "BaseException")=some true)/\(PySem.W.kitOne (L2.KOf KX) (.ref a_NoNumber) (.type "object")=some true)/\((PySem.W.clsIn (L2.KOf KX) a_NoNumber).isSome=true):=by
   dsimp only[L2.KOf]
   refine' K64.big_mk ?q_n_BadBox ?q_n_BadGroup ?q_n_BadOpenings ?q_n_BadOrder ?q_n_NoHelp ?q_n_NoNumber ?q_n_TooMany ?q_o_BadOrder ?q_g1_BadOrder ?q_g2_BadOrder ?q_g3_BadOrder ?q_g4_BadOrder ?q_g5_BadOrder ?q_g6_BadOrder ?q_o_BadBox ?q_g1_BadBox ?q_g2_BadBox ?q_g3_BadBox ?q_g4_BadBox ?q_g5_BadBox ?q_g6_BadBox ?q_o_BadOpenings ?q_g1_BadOpenings ?q_g2_BadOpenings ?q_g3_BadOpenings ?q_g4_BadOpenings ?q_g5_BadOpenings ?q_g6_BadOpenings ?q_o_TooMany ?q_g1_TooMany ?q_g2_TooMany ?q_g3_TooMany ?q_g4_TooMany ?q_g5_TooMany ?q_g6_TooMany ?q_o_BadGroup ?q_g1_BadGroup ?q_g2_BadGroup ?q_g3_BadGroup ?q_g4_BadGroup ?q_g5_BadGroup ?q_g6_BadGroup ?q_o_NoHelp ?q_g1_NoHelp ?q_g2_NoHelp ?q_g3_NoHelp ?q_g4_NoHelp ?q_g5_NoHelp ?q_g6_NoHelp ?q_o_NoNumber ?q_g1_NoNumber ?q_g2_NoNumber ?q_g3_NoNumber ?q_g4_NoNumber ?q_g5_NoNumber ?q_g6_NoNumber
   (case q_n_BadBox=>k_is)
   (case q_n_BadGroup=>k_is)
   (case q_n_BadOpenings=>k_is)
   (case q_n_BadOrder=>k_is)
   (case q_n_NoHelp=>k_is)
   (case q_n_NoNumber=>k_is)
   (case q_n_TooMany=>k_is)
   (case q_o_BadOrder=>k_exc)
   (case q_g1_BadOrder=>k_is)
   (case q_g2_BadOrder=>k_is)
   (case q_g3_BadOrder=>k_is)
   (case q_g4_BadOrder=>kit_is)
   (case q_g5_BadOrder=>kit_is)
   (case q_g6_BadOrder=>first | k_is | rfl | decide +kernel)
   (case q_o_BadBox=>k_exc)
   (case q_g1_BadBox=>k_is)
   (case q_g2_BadBox=>k_is)
   (case q_g3_BadBox=>k_is)
   (case q_g4_BadBox=>kit_is)
   (case q_g5_BadBox=>kit_is)
   (case q_g6_BadBox=>first | k_is | rfl | decide +kernel)
   (case q_o_BadOpenings=>k_exc)
   (case q_g1_BadOpenings=>k_is)
   (case q_g2_BadOpenings=>k_is)
   (case q_g3_BadOpenings=>k_is)
   (case q_g4_BadOpenings=>kit_is)
   (case q_g5_BadOpenings=>kit_is)
   (case q_g6_BadOpenings=>first | k_is | rfl | decide +kernel)
   (case q_o_TooMany=>k_exc)
   (case q_g1_TooMany=>k_is)
   (case q_g2_TooMany=>k_is)
   (case q_g3_TooMany=>k_is)
   (case q_g4_TooMany=>kit_is)
   (case q_g5_TooMany=>kit_is)
   (case q_g6_TooMany=>first | k_is | rfl | decide +kernel)
   (case q_o_BadGroup=>k_exc)
   (case q_g1_BadGroup=>k_is)
   (case q_g2_BadGroup=>k_is)
   (case q_g3_BadGroup=>k_is)
   (case q_g4_BadGroup=>kit_is)
   (case q_g5_BadGroup=>kit_is)
   (case q_g6_BadGroup=>first | k_is | rfl | decide +kernel)
   (case q_o_NoHelp=>k_exc)
   (case q_g1_NoHelp=>k_is)
   (case q_g2_NoHelp=>k_is)
   (case q_g3_NoHelp=>k_is)
   (case q_g4_NoHelp=>kit_is)
   (case q_g5_NoHelp=>kit_is)
   (case q_g6_NoHelp=>first | k_is | rfl | decide +kernel)
   (case q_o_NoNumber=>k_exc)
   (case q_g1_NoNumber=>k_is)
   (case q_g2_NoNumber=>k_is)
   (case q_g3_NoNumber=>k_is)
   (case q_g4_NoNumber=>kit_is)
   (case q_g5_NoNumber=>kit_is)
   (case q_g6_NoNumber=>first | k_is | rfl | decide +kernel)
  obtain⟨a_BadBox,a_BadGroup,a_BadOpenings,a_BadOrder,a_NoHelp,a_NoNumber,a_TooMany,n_BadBox,n_BadGroup,n_BadOpenings,n_BadOrder,n_NoHelp,n_NoNumber,n_TooMany,o_BadOrder,g1_BadOrder,g2_BadOrder,g3_BadOrder,g4_BadOrder,g5_BadOrder,g6_BadOrder,o_BadBox,g1_BadBox,g2_BadBox,g3_BadBox,g4_BadBox,g5_BadBox,g6_BadBox,o_BadOpenings,g1_BadOpenings,g2_BadOpenings,g3_BadOpenings,g4_BadOpenings,g5_BadOpenings,g6_BadOpenings,o_TooMany,g1_TooMany,g2_TooMany,g3_TooMany,g4_TooMany,g5_TooMany,g6_TooMany,o_BadGroup,g1_BadGroup,g2_BadGroup,g3_BadGroup,g4_BadGroup,g5_BadGroup,g6_BadGroup,o_NoHelp,g1_NoHelp,g2_NoHelp,g3_NoHelp,g4_NoHelp,g5_NoHelp,g6_NoHelp,o_NoNumber,g1_NoNumber,g2_NoNumber,g3_NoNumber,g4_NoNumber,g5_NoNumber,g6_NoNumber⟩:=BIG
  have e_BadBox:L2.L3.CN.ad "BadBox" = a_BadBox:=L2.L3.zV6 n_BadBox
  have e_BadGroup:L2.L3.CN.ad "BadGroup" = a_BadGroup:=L2.L3.zV6 n_BadGroup
  have e_BadOpenings:L2.L3.CN.ad "BadOpenings" = a_BadOpenings:=L2.L3.zV6 n_BadOpenings
  have e_BadOrder:L2.L3.CN.ad "BadOrder" = a_BadOrder:=L2.L3.zV6 n_BadOrder
  have e_NoHelp:L2.L3.CN.ad "NoHelp" = a_NoHelp:=L2.L3.zV6 n_NoHelp
  have e_NoNumber:L2.L3.CN.ad "NoNumber" = a_NoNumber:=L2.L3.zV6 n_NoNumber
  have e_TooMany:L2.L3.CN.ad "TooMany" = a_TooMany:=L2.L3.zV6 n_TooMany
  have k_BadOrder:PySem.ExK (L2.KOf KX) (L2.L3.CN.ad "BadOrder"):=by rw[e_BadOrder];exact⟨g1_BadOrder,g2_BadOrder,g3_BadOrder,L2.L3.wI g4_BadOrder,L2.L3.wI g5_BadOrder,g6_BadOrder⟩
  have k_BadBox:PySem.ExK (L2.KOf KX) (L2.L3.CN.ad "BadBox"):=by rw[e_BadBox];exact⟨g1_BadBox,g2_BadBox,g3_BadBox,L2.L3.wI g4_BadBox,L2.L3.wI g5_BadBox,g6_BadBox⟩
  have k_BadOpenings:PySem.ExK (L2.KOf KX) (L2.L3.CN.ad "BadOpenings"):=by rw[e_BadOpenings];exact⟨g1_BadOpenings,g2_BadOpenings,g3_BadOpenings,L2.L3.wI g4_BadOpenings,L2.L3.wI g5_BadOpenings,g6_BadOpenings⟩
  have k_TooMany:PySem.ExK (L2.KOf KX) (L2.L3.CN.ad "TooMany"):=by rw[e_TooMany];exact⟨g1_TooMany,g2_TooMany,g3_TooMany,L2.L3.wI g4_TooMany,L2.L3.wI g5_TooMany,g6_TooMany⟩
  have k_BadGroup:PySem.ExK (L2.KOf KX) (L2.L3.CN.ad "BadGroup"):=by rw[e_BadGroup];exact⟨g1_BadGroup,g2_BadGroup,g3_BadGroup,L2.L3.wI g4_BadGroup,L2.L3.wI g5_BadGroup,g6_BadGroup⟩
  have k_NoHelp:PySem.ExK (L2.KOf KX) (L2.L3.CN.ad "NoHelp"):=by rw[e_NoHelp];exact⟨g1_NoHelp,g2_NoHelp,g3_NoHelp,L2.L3.wI g4_NoHelp,L2.L3.wI g5_NoHelp,g6_NoHelp⟩
  have k_NoNumber:PySem.ExK (L2.KOf KX) (L2.L3.CN.ad "NoNumber"):=by rw[e_NoNumber];exact⟨g1_NoNumber,g2_NoNumber,g3_NoNumber,L2.L3.wI g4_NoNumber,L2.L3.wI g5_NoNumber,g6_NoNumber⟩
  have T:K64.Txt (L2.KOf KX) mg:=by
   dsimp only[L2.KOf]
   refine' ⟨PySem.W.mg_none_of KX G ?z0,PySem.W.mg_none_of KX G ?z1,PySem.W.mg_none_of KX G ?z2,PySem.W.mg_none_of KX G ?z3,PySem.W.mg_none_of KX G ?z4,PySem.W.mg_none_of KX G ?z5,PySem.W.mg_none_of KX G ?z6,PySem.W.mg_none_of KX G ?z7,PySem.W.mg_none_of KX G ?z8,PySem.W.mg_none_of KX G ?z9,PySem.W.mg_none_of KX G ?z10,⟨_,PySem.W.mg_of KX G ?y0,?x0⟩,⟨_,PySem.W.mg_of KX G ?y1,?x1⟩,D_is_order,D_ring_from,D_rings_of,D_order_by,D_check_box,D_exchanged,D_many_orders,D_made_openings,D_finders,D_check_people,D_check_people_and_k,D_many_by_lengths,D_many_good,D_many_finding,D_many_behind_person,D_many_all,D_greatest_divisor,D_share,D_check_group,D_many_rows,D_many_with_group,D_many_all_of,D_check_help,D_need_of_rings,D_need,D_exchanges,D_many_first_rings,D_many_with_first_ring,D_ring_at,D_ring_place,D_good_at,D_good_number,D_numbers_text,D_read_number,D_read_numbers,D_ring_text,D_order_text,D_read_order,D_text_or_none,D_share_text,D_pair_text,D_help_text,D_first_people,D_answer_by_numbers,D_answer_by_order,D_answer,D_answer_or_refusal,D_answered,D_l_cell_at,D_l_order,D_l_all,D_l_ways,D_l_words,D_l_helped,D_l_need,D_l_right,(let ⟨f,fd,h,_⟩:=D_law; ⟨f,fd,h⟩),?xa0,?xa1,?xa2,?xa3,?xa4,?xa5,?xa6,?xb0,?xb1,?xb2,?xb3,?xb4,?xb5,?xb6⟩
   (case z0=>k_is)
   (case z1=>k_is)
   (case z2=>k_is)
   (case z3=>k_is)
   (case z4=>k_is)
   (case z5=>k_is)
   (case z6=>k_is)
   (case z7=>k_is)
   (case z8=>k_is)
   (case z9=>k_is)
   (case z10=>k_is)
   (case y0=>k_is); (case x0=>exact⟨_,rfl⟩)
   (case y1=>k_is); (case x1=>exact⟨_,rfl⟩)
   (case xa0=>rw[e_BadBox];exact PySem.W.mg_of KX G n_BadBox)
   (case xa1=>rw[e_BadGroup];exact PySem.W.mg_of KX G n_BadGroup)
   (case xa2=>rw[e_BadOpenings];exact PySem.W.mg_of KX G n_BadOpenings)
   (case xa3=>rw[e_BadOrder];exact PySem.W.mg_of KX G n_BadOrder)
   (case xa4=>rw[e_NoHelp];exact PySem.W.mg_of KX G n_NoHelp)
   (case xa5=>rw[e_NoNumber];exact PySem.W.mg_of KX G n_NoNumber)
   (case xa6=>rw[e_TooMany];exact PySem.W.mg_of KX G n_TooMany)
   (case xb0=>unfold L2.L3.OwnX;rw[e_BadBox];exact o_BadBox)
   (case xb1=>unfold L2.L3.OwnX;rw[e_BadGroup];exact o_BadGroup)
   (case xb2=>unfold L2.L3.OwnX;rw[e_BadOpenings];exact o_BadOpenings)
   (case xb3=>unfold L2.L3.OwnX;rw[e_BadOrder];exact o_BadOrder)
   (case xb4=>unfold L2.L3.OwnX;rw[e_NoHelp];exact o_NoHelp)
   (case xb5=>unfold L2.L3.OwnX;rw[e_NoNumber];exact o_NoNumber)
   (case xb6=>unfold L2.L3.OwnX;rw[e_TooMany];exact o_TooMany)
  obtain⟨fl,fdl,HL,HB⟩:=D_law
  have e0:=hmg.symm.trans HL.m
  cases e0
  exact⟨fdl,HB,fun base kb nb=>K64.wI5 T HL⟩
#print axioms PySem.Challenge.cw_ownboxes_k64_whole_from_text_to_answers_holds