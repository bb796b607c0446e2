import PyProof.Rows.All
import Wide.All
import OpenK.AllK
import Wide.FinOn
import Lean
import PyProof.EqAt
import PyProof.EqKinds
import PyProof.TupleCall
import KE.KSortTup
import KE.KSortAsk
import KE.KIntText
import PySem.Challenge.RW_ownboxes_k58_whole_plans_of_six
set_option compiler.extract_closed false
def wZ8(_h:True:=by exact fun _ _ _ q=>q):True:=trivial
def dN(_h:True:=by first | exact .inl rfl | exact .inr rfl | assumption):True:=trivial
def zF(_h:True:=by decide):True:=trivial
def wZ9(_h:True:=by first | exact nobehind _ (by decide) (by decide) | rfl):True:=trivial
def wY(_h:True:=by intro _;rfl):True:=trivial
def zV(_h:True:=by rfl):True:=trivial
def zQ2(_h:True:=by with_unfolding_all rfl):True:=trivial
def gD(_h:True:=by first | exact Or.inl rfl | exact Or.inr (Or.inl rfl) | exact Or.inr (Or.inr rfl)):True:=trivial
def xH2(_h:True:=by exact fun _ _=>rfl):True:=trivial
def yP2(_h:True:=by first | exact nomark _ | rfl):True:=trivial
def autoK12(_h:True:=by first | exact Or.inl rfl | exact Or.inr rfl):True:=trivial
def autoK13(_h:True:=by first | exact .inl rfl | exact .inr rfl):True:=trivial
def autoK14(_h:True:=by exact Cs):True:=trivial
def DD:=dN._auto_1
def DE:=gD._auto_1
def DF:=wY._auto_1
def DG:=zF._auto_1
def DH:=zV._auto_1
local macro_rules | `(tactic| rfl')=>`(tactic| first | lia | omega)
local macro_rules | `(tactic| sleep 3)=>`(tactic| first | exact Or.inl rfl | exact Or.inr rfl)
set_option Elab.async false
set_option linter.all false
set_option maxRecDepth 100000
set_option maxHeartbeats 4000000
set_option linter.defProp false
noncomputable section
def Aa:=@List.length_map
def Ab:=@List.getElem?_eq_getElem
def Ac:=@List.getElem?_eq_some_iff
def Ad:=@List.mem_cons_of_mem
def Ae:=@List.mem_cons_self
def Af:=@PySem.Heap.get?_push_of_some
def Ag:=@List.mem_append_right
def Ah:=@PySem.wpAny_bind
def Ai:=@List.getElem?_map
def Aj:=@List.length_range
def Ak:=@Nat.le_refl
def Al:=@List.mem_range
def Am:=@List.size_toArray
def An:=@List.mem_cons
def Ao:=@List.length_append
def Ap:=@PySem.Heap.lt_size
def Aq:=@if_pos
def Ar:=@Option.map_eq_some_iff
def As:=@List.mem_of_getElem?
def Au:=@Nat.lt_of_lt_of_le
def Av:=@List.length_cons
def Aw:=@PySem.Heap.get?_push_size
def Ax:=@PySem.wpAny_pure
def Ay:=@List.mem_map
def Az:=@List.map_append
def AA:=@decide_eq_false
def AB:=@decide_eq_true
def AC:=@PySem.boot_len
def AD:=@List.getD_eq_getElem?_getD
def AE:=@List.contains_iff_mem
def AF:=@List.all_eq_true
def AG:=@PySem.Str.length_append
def AH:=@List.getElem?_range
def AI:=@Int.toNat_natCast
def AJ:=@if_neg
def AK:=@Bool.false_ne_true
def AL:=@Nat.ne_of_lt
def AM:=@List.mem_append
def AN:=@PySem.F.slot_list_append
def AO:=@PySem.F.type_list_append
def AQ:=@Nat.zero_le
def AR:=@Option.bind_eq_some_iff
def AS:=@List.mem_append_left
def AT:=@Classical.choose_spec
def AU:=@List.map_cons
def AV:=@Bool.false_eq_true
def AW:=@Option.some.inj
def AX:=@List.map_map
def AY:=@PySem.F.plainAttrs_list
def AZ:=@List.getElem?_set_ne
def Ba:=@Bool.and_eq_true
def Bb:=@PySem.mem_of_lookup
def Bc:=@List.length_singleton
def Bd:=@List.append_assoc
def Be:=@PySem.PassesOwn.leaving
def Bf:=@Nat.le_trans
def Bg:=@Option.bind_some
def Bh:=@List.nodup_cons
def Bi:=@List.getElem?_replicate
def Bj:=@List.length_replicate
def Bk:=@List.mem_filter
def Bl:=@List.getElem?_append_left
def Bm:=@List.filterMap_cons
def Bn:=@List.append_nil
def Bo:=@List.getElem?_append_right
def Bp:=@PySem.W.mg_none_of
def Bq:=@List.replicate_succ
def Bs:=@Option.map_some
def Bt:=@List.length_set
def Bu:=@List.lookup_cons
def Bv:=@List.getElem?_set_self
def Bw:=@congrArg
def Bx:=@List.getElem_of_mem
def By:=@List.range_succ
def Bz:=@List.not_mem_nil
def BB:=@List.drop_eq_getElem_cons
def BC:=@Nat.le_of_lt
def BD:=@Bool.eq_iff_iff
def BE:=@List.length_take
def BF:=@PySem.Heap.get?_update_other
def BG:=@List.mem_flatMap
def BH:=@List.flatten_cons
def BI:=@List.getElem?_cons_succ
def BJ:=@List.drop_length
def BK:=@List.take_length
def BL:=@List.nodup_range
def BM:=@List.take_of_length_le
def BN:=@List.perm_ext_iff_of_nodup
def BO:=@PyProof.Rows.slot_tuple_getitem
def BP:=@List.getElem?_eq_none
def BQ:=@List.length_drop
def BR:=@Nat.lt_succ_self
def BS:=@Int.emod_lt_of_pos
def BT:=@List.Pairwise.imp_of_mem
def BU:=@Nat.mul_le_mul_right
def BV:=@List.pairwise_map
def BW:=@List.nil_append
def BX:=@Array.length_toList
def BY:=@List.map_congr_left
def BZ:=@Nat.ne_of_gt
def Ca:=@Nat.lt_irrefl
def Cb:=@Bool.not_eq_true
def Cc:=@List.mem_filterMap
def Cd:=@PySem.Heap.size_push
def Ce:=@List.length_eraseIdx_of_lt
def Cf:=@List.mem_singleton
def Cg:=@List.getElem?_eq_none_iff
def Ch:=@Int.emod_nonneg
def Ci:=@PySem.W.mg_of
def Cj:=@Ne.symm
def Ck:=@List.any_eq_true
def Cl:=@List.drop_append_of_le_length
def Cm:=@List.take_append_of_le_length
def Cn:=@Nat.lt_of_le_of_lt
def Co:=@Nat.not_lt
def Cp:=@List.pairwise_cons
def Cq:=@List.pairwise_lt_range
def Cr:=@PySem.F.plainAttrs_str
def Cs:=@PySem.PassesOwn.never
def Cu:=@PyProof.Rows.callWith_type1
def Cv:=@Nat.lt_succ_of_lt
def Cw:=@List.nodup_append
def Cy:=@List.flatMap_cons
def Cz:=@PySem.F.slot_str_startswith
def CA:=@PySem.F.type_str_startswith
def CB:=@PySem.F.args_list_append_2
def CC:=@Bool.and_eq_true_iff
def CD:=@List.take_succ
def CF:=@Nat.mul_comm
def CG:=@Option.getD_some
def CI:=@List.ext_getElem
def CJ:=@List.filter_cons
def CK:=@List.getElem_mem
def CL:=@List.pairwise_iff_getElem
def CM:=@PySem.F.entry_list_append
def CO:=@List.flatten_append
def CP:=@Option.isSome_iff_exists
def CQ:=@List.of_mem_zip
def CS:=@PySem.F.slot_list_append
def CT:=@Nat.lt_of_lt_of_eq
def CU:=@PySem.AutoListH.list___mul___list_int_3
def CV:=@PySem.list_append
def CW:=@List.drop_zero
def CY:=@Bool.not_eq_true'
def CZ:=@Nat.lt_trichotomy
def Da:=@List.length_filter_eq_length_iff
def Db:=@List.length_filter_le
def Dc:=@PyProof.Rows.boot_min
def Dd:=@PySem.F.slot_str_join
def De:=@PySem.F.type_str_join
def Df:=@PySem.IsL.update
def Dg:=@List.cons_append
def Dh:=@List.mem_reverse
def Dj:=@PySem.Str.empty_append
def Dk:=@List.all_cons
def Dl:=@List.any_cons
def Dm:=@PySem.Calls.evalArgs_plain
def Do:=@List.length_dropLast
def Dp:=@Nat.pow_le_pow_right
def Dq:=@PySem.F.slot_int_rmul
def Dr:=@PySem.Heap.SameBut.update
def Ds:=@Int.toNat_of_nonneg
def Dt:=@List.take_succ_cons
def Du:=@List.drop_succ_cons
def Dv:=@List.map_nil
def Dw:=@List.zip_cons_cons
def Dx:=@Nat.eq_zero_or_pos
def Dy:=@List.Perm.refl
def Dz:=@Bool.not_false
def DA:=@PySem.F.args_str_split_2
def DB:=@List.getElem?_drop
def DC:=@Bool.not_true
abbrev KFr:=PySem.W.Frag
namespace L2
open PySem PySem.Spec PyProof.Rows
abbrev Key:=Sum Int Str
def keyIs:Key->Value->Bool
 | .inl k,v=>Value.isInt k v
 | .inr x,v=>Value.isStrOf x v
def keyH(w:World):Key->Int
 | .inl k=>hashInt k
 | .inr x=>hashStr w x
def xR:∀{k:Key}{v:Value},keyIs k v=true->(∃i t,k=Sum.inl i/\v=Value.int i t)\/(∃x t,k=Sum.inr x/\v=Value.str x t)
 | .inl i,v,h=>by
  obtain⟨t,e⟩:=Value.isInt_shape (k:=i) (v:=v) h
  exact .inl ⟨i,t,rfl,e⟩
 | .inr x,v,h=>by
  obtain⟨t,e⟩:=Value.isStrOf_shape (x:=x) (v:=v) h
  exact .inr ⟨x,t,rfl,e⟩
def xH3(a b:Int):decide ((Sum.inl a:Key)=Sum.inl b)=(a == b):=by
 by_cases e:a=b
 ·subst e;simp
 ·have h:¬(Sum.inl a:Key)=Sum.inl b:=fun q=>e (Sum.inl.inj q)
  rw[AA h]
  exact (beq_eq_false_iff_ne.mpr e).symm
def xD2(a b:Str):decide ((Sum.inr a:Key)=Sum.inr b)=decide (a=b):=by
 by_cases e:a=b
 ·subst e;simp
 ·have h:¬(Sum.inr a:Key)=Sum.inr b:=fun q=>e (Sum.inr.inj q)
  rw[AA h,AA e]
def xB6(a:Int)(b:Str):decide ((Sum.inl a:Key)=Sum.inr b)=false:=AA (fun q=>nomatch q)
def wZ7(a:Str)(b:Int):decide ((Sum.inr a:Key)=Sum.inl b)=false:=AA (fun q=>nomatch q)
def mixKind(prog:Program)(w:World):PySem.KeyKind prog w Key where
 is:=keyIs
 hash:=keyH w
 inj:=fun v a b ha hb=>by
  rcases xR ha with ⟨i,t,rfl,rfl⟩ | ⟨x,t,rfl,rfl⟩
  ·rcases xR hb with ⟨j,u,rfl,e⟩ | ⟨y,u,rfl,e⟩
   ·injection e with e1 _;rw[e1]
   ·exact nomatch e
  ·rcases xR hb with ⟨j,u,rfl,e⟩ | ⟨y,u,rfl,e⟩
   ·exact nomatch e
   ·injection e with e1 _;rw[e1]
 byValue:=fun k v h=>by
  rcases xR h with ⟨i,t,rfl,rfl⟩ | ⟨x,t,rfl,rfl⟩ <;> rfl
 pyHash:=fun hv h=>by
  rcases xR hv with ⟨i,t,rfl,rfl⟩ | ⟨x,t,rfl,rfl⟩
  ·exact wpAny_pyHash_int h
  ·exact wpAny_pyHash_str h
 eqBool:=fun hu hv h=>by
  rcases xR hu with ⟨i,t,rfl,rfl⟩ | ⟨x,t,rfl,rfl⟩
  ·rcases xR hv with ⟨j,u,rfl,rfl⟩ | ⟨y,u,rfl,rfl⟩
   ·rw[xH3] at h;exact wpAny_eqBool_int h
   ·rw[xB6] at h;exact SeqAt.EqAt.int_str i t y u _ _ _ _ h
  ·rcases xR hv with ⟨j,u,rfl,rfl⟩ | ⟨y,u,rfl,rfl⟩
   ·rw[wZ7] at h;exact SeqAt.EqAt.str_int x t j u _ _ _ _ h
   ·rw[xD2] at h;exact wpAny_eqBool_str h
 «strs»:=fun k x t v h=>by
  rcases xR h with ⟨i,u,rfl,e⟩ | ⟨y,u,rfl,e⟩
  ·exact nomatch e
  ·injection e with e1 _
   subst e1
   cases v <;> rfl
inductive V where
 | non | bl (b:Bool) | int (i:Int) | str (x:Str) | byt (b:Array UInt8) | flt (b:UInt64) | ref (a:Addr) | ty (n:String)
 deriving DecidableEq
def RelV:V->Value->Prop
 | .non,u=>u=Value.none
 | .bl b,u=>u=Value.bool b
 | .int i,u=>∃t,u=Value.int i t
 | .str x,u=>∃t,u=Value.str x t
 | .byt b,u=>∃t,u=Value.bytes b t
 | .flt b,u=>∃t,u=Value.float b t
 | .ref a,u=>u=Value.ref a
 | .ty n,u=>u=Value.type n
abbrev Vals:List V->List Value->Prop:=Paired RelV
def Vals.length{xs:List V}{us:List Value}(r:Vals xs us):xs.length=us.length:=Paired.length r
def Vals.get:∀{xs:List V}{us:List Value}{i:Nat}{x:V},Vals xs us->xs[i]?=some x->∃u,us[i]?=some u/\RelV x u
 | _,_,_,_,.nil,e=>by simp at e
 | _,_,0,_,.cons r _,e=>by simp at e;subst e;exact⟨_,rfl,r⟩
 | _,_,i+1,x,.cons _ t,e=>by
  obtain⟨u,h1,h2⟩:=Vals.get (i:=i) (x:=x) t (by simpa using e)
  exact⟨u,by simpa using h1,h2⟩
def Vals.set{x:V}{u:Value}(r:RelV x u):∀{xs:List V}{us:List Value}(i:Nat),Vals xs us->Vals (xs.set i x) (us.set i u)
 | _,_,_,.nil=>.nil
 | _,_,0,.cons _ t=>.cons r t
 | _,_,i+1,.cons q t=>.cons q (Vals.set r i t)
def Vals.append:∀{xs ys:List V}{us ws:List Value},Vals xs us->Vals ys ws->Vals (xs++ys) (us++ws)
 | _,_,_,_,.nil,s=>s
 | _,_,_,_,.cons r t,s=>.cons r (Vals.append t s)
def Vals.take:∀{xs:List V}{us:List Value}(n:Nat),Vals xs us->Vals (xs.take n) (us.take n)
 | _,_,0,_=>.nil
 | _,_,_+1,.nil=>.nil
 | _,_,n+1,.cons r t=>.cons r (Vals.take n t)
def Vals.drop:∀{xs:List V}{us:List Value}(n:Nat),Vals xs us->Vals (xs.drop n) (us.drop n)
 | _,_,0,r=>r
 | _,_,_+1,.nil=>.nil
 | _,_,n+1,.cons _ t=>Vals.drop n t
def Vals.wT6:∀{xs:List V}{us:List Value}{i:Nat},Vals xs us->xs[i]?=none->us[i]?=none:=fun {xs us i} r e=>by
 have h1:=r.length
 have h2:xs.length<=i:=Cg.mp e
 exact Cg.mpr (by rfl')
def RelO:Option V->Option Value->Prop
 | some v,some u=>RelV v u
 | none,none=>True
 | _,_=>False
def KV{κ:Type}:List (κ×V)->List (κ×Value)->Prop:=Paired fun (p:κ×V) (q:κ×Value)=>p.1=q.1/\RelV p.2 q.2
def kV:Key->V
 | .inl i=>.int i
 | .inr x=>.str x
inductive HO where
 | lst (xs:List V)
 | tup (xs:List V)
 | dK (kvs:List (Key×V)) | dT (kvs:List (List Key×V))
 | set (S:Int->Bool) (n:Nat)
 | ins (C dx:Addr) (fs:List (Str×V))
 | own (x:Addr)
 | xd (fs:List (Str×V))
 | met (f x:Addr)
 | rng (lo hi:Int)
 | frz (o:Obj) (u:HO)
 | tbl (q:Str)
 | ext (φ:Heap->Prop)
abbrev Hp:=Addr->Option HO
def upd(H:Hp)(a:Addr)(o:HO):Hp:=fun b=>if b=a then some o else H b
def zS{H:Hp}{a:Addr}{o:HO}:upd H a o a=some o:=by unfold upd;rw[Aq rfl]
def zY{H:Hp}{a b:Addr}{o:HO}(h:b≠a):upd H a o b=H b:=by unfold upd;rw[AJ h]
def yT1{H:Hp}{a:Addr}{o u:HO}:upd (upd H a o) a u=upd H a u:=by
 funext b;unfold upd;split <;> rfl
def yZ{H:Hp}{a b:Addr}{o:HO}(h:H a=some o)(h':H b=none):a≠b:=by
 intro e;subst e;rw[h] at h';cases h'
def TupAt(h:Heap)(a:Addr)(its:Array Value):Prop:=∃o,h.get? a=some o/\o.cls=.type "tuple"/\(∃n,o.data=.seq its n)/\o.dict=none
def TupAt.tup{h:Heap}{a:Addr}{its:Array Value}(x:TupAt h a its):IsTup h a its:=by
 obtain⟨o,e,c,d,_⟩:=x
 exact⟨o,e,c,d⟩
def TupAt.new(h:Heap)(its:Array Value):TupAt (h.push { cls:=.type "tuple",data:=.seq its }) h.objs.size its:=⟨_,Aw _ rfl,rfl,⟨_,rfl⟩,rfl⟩
section
variable (P:Program) (w:World)
def ObjOk(H:Hp)(h:Heap)(a:Addr):HO->Prop
 | .lst xs=>xs.length<=sizeLine/\∃(its:List Value) (n:Nat),Vals xs its/\h.get? a=some { cls:=.type "list",data:=.seq its.toArray n }
 | .tup xs=>xs.length<=sizeLine/\∃its:List Value,Vals xs its/\TupAt h a its.toArray
 | .dK kvs=>kvs.length<=sizeLine/\(a == sysModules)=false/\∃vs,KV kvs vs/\h.DictOf (mixKind P w) a vs
 | .dT kvs=>kvs.length<=sizeLine/\(a == sysModules)=false/\∃xs:List (List Key×Addr×Value),
   Paired (fun (p:List Key×V) (q:List Key×Addr×Value)=>p.1=q.1/\H q.2.1=some (.tup (p.1.map kV))/\RelV p.2 q.2.2) kvs xs /\
   ∃o es ep,h.get? a=some o/\o.ExactDict/\o.data=.dict es ep/\es.toList=xs.map (entryOfKey (tupleKind (mixKind P w)))/\(xs.map (·.1)).Nodup
 | .set S n=>h.SetOf (intKind P w) a S n
 | .ins C dx fs=>H dx=some (.own a)/\fs.length<=1000/\dx≠a/\h.get? a=some (PySem.W.instObj C dx) /\
   ∃mA,h.Ns1 dx mA/\(∀f,RelO (fs.lookup f) (mA f))/\PySem.Within mA (fs.map (·.1))
 | .own _=>∃o,h.get? a=some o
 | .xd fs=>∃mA,h.Ns1 a mA/\∀f,RelO (fs.lookup f) (mA f)
 | .rng lo hi=>∃t u v,h.get? a=some { cls:=.type "range",data:=.fields #[.int lo t,.int hi u,.int 1 v] }
 | .frz o u=>h.get? a=some o/\ObjOk H h a u
 | .tbl q=>∃ps,h.get? a=some { cls:=.none,data:=.fields ps }/\TriplesOk ps.toList/\∀pos cv,codeAmong pos ps.toList=some cv->∃(c':Addr) (oc:Obj) (u:HO) (vs:Array Value) (t:Tok),cv=.ref c'/\H c'=some (.frz oc u)/\oc.data=.fields vs/\vs[1]?=some (.str q t)
 | .met f x=>h.get? a=some (PySem.W.methodObj (.ref f) (.ref x))
 | .ext φ=>φ h/\(∃o,h.get? a=some o)/\∀h1 h2:Heap,φ h1->(∀o,h1.get? a=some o->h2.get? a=some o)->φ h2
def HOk(H:Hp)(h:Heap):Prop:=∀a o,H a=some o->ObjOk P w H h a o
end
section
variable {P:Program}{w:World}{H H':Hp}{h h':Heap}{a:Addr}{o:HO}
def ObjOk.lt(x:ObjOk P w H h a o):a<h.objs.size:=by
 cases o with
 | lst xs=>obtain⟨_,_,_,_,e⟩:=x;exact Ap e
 | tup xs=>obtain⟨_,_,_,p⟩:=x;exact p.tup.lt
 | dK kvs=>obtain⟨_,_,_,_,o,_,_,e,_⟩:=x;exact Ap e
 | dT kvs=>obtain⟨_,_,_,_,o,_,_,e,_⟩:=x;exact Ap e
 | set S n=>obtain⟨o,_,_,_,e,_⟩:=x;exact Ap e
 | ins C dx fs=>obtain⟨_,_,_,e,_⟩:=x;exact Ap e
 | own y=>obtain⟨_,e⟩:=x;exact Ap e
 | xd fs=>obtain⟨_,⟨_,_,_,e,_⟩,_⟩:=x;exact Ap e
 | rng lo hi=>obtain⟨_,_,_,e⟩:=x;exact Ap e
 | frz ob u=>obtain⟨e,_⟩:=x;exact Ap e
 | tbl q=>obtain⟨_,e,_⟩:=x;exact Ap e
 | met f y=>exact Ap (show h.get? a=some _ from x)
 | ext φ=>obtain⟨_,⟨_,e⟩,_⟩:=x;exact Ap e
def Paired.mapP{α β:Type}{F G:α->β->Prop}:∀{l₁:List α}{l₂:List β},Paired F l₁ l₂->(∀a b,F a b->G a b)->Paired G l₁ l₂
 | _,_,.nil,_=>.nil
 | _,_,.cons r t,f=>.cons (f _ _ r) (Paired.mapP t f)
def ObjOk.stay(x:ObjOk P w H h a o)(k:∀b u,(b=a\/H b=some (.own a))->h.get? b=some u->h'.get? b=some u)
  (ho:∀b,H b=some (.own a)->H' b=some (.own a)) (ht:∀b xs,H b=some (.tup xs)->H' b=some (.tup xs)) (hf:autoParam (∀b o u,H b=some (.frz o u)->H' b=some (.frz o u)) wZ8._auto_1):ObjOk P w H' h' a o:=by
 induction o with
 | lst xs=>obtain⟨z,its,n,r,e⟩:=x;exact⟨z,its,n,r,k _ _ (.inl rfl) e⟩
 | tup xs=>obtain⟨z,its,r,ob,e,c⟩:=x;exact⟨z,its,r,ob,k _ _ (.inl rfl) e,c⟩
 | dK kvs=>obtain⟨z,y,vs,r,ob,es,ep,e,c⟩:=x;exact⟨z,y,vs,r,ob,es,ep,k _ _ (.inl rfl) e,c⟩
 | dT kvs =>
  obtain⟨z,y,xs,r,ob,es,ep,e,c⟩:=x
  exact⟨z,y,xs,Paired.mapP r fun p q z=>⟨z.1,ht _ _ z.2.1,z.2.2⟩,ob,es,ep,k _ _ (.inl rfl) e,c⟩
 | set S n=>obtain⟨ob,es,ep,t,e,c⟩:=x;exact⟨ob,es,ep,t,k _ _ (.inl rfl) e,c⟩
 | ins C dx fs =>
  obtain⟨d,z,ne,e,mA,⟨od,es,ep,e2,c⟩,r⟩:=x
  exact⟨ho _ d,z,ne,k _ _ (.inl rfl) e,mA,⟨od,es,ep,k _ _ (.inr d) e2,c⟩,r⟩
 | own y=>obtain⟨ob,e⟩:=x;exact⟨ob,k _ _ (.inl rfl) e⟩
 | xd fs=>obtain⟨mA,⟨od,es,ep,e,c⟩,r⟩:=x;exact⟨mA,⟨od,es,ep,k _ _ (.inl rfl) e,c⟩,r⟩
 | rng lo hi=>obtain⟨t,u,v,e⟩:=x;exact⟨t,u,v,k _ _ (.inl rfl) e⟩
 | frz ob u ih=>obtain⟨e,q⟩:=x;exact⟨k _ _ (.inl rfl) e,ih q⟩
 | tbl q =>
  obtain⟨ps,e,t,c⟩:=x
  refine⟨ps,k a _ (.inl rfl) e,t,fun pos cv z => ?_⟩
  obtain⟨c',oc,u,vs,t',e1,e2,e3⟩:=c pos cv z
  exact⟨c',oc,u,vs,t',e1,hf _ _ _ e2,e3⟩
 | met f y =>
  have e:h.get? a=some (PySem.W.methodObj (.ref f) (.ref y)):=x
  show h'.get? a=some (PySem.W.methodObj (.ref f) (.ref y))
  exact k a _ (.inl rfl) e
 | ext φ=>obtain⟨p,⟨o,e⟩,st⟩:=x;exact⟨st _ _ p fun o q=>k _ _ (.inl rfl) q,⟨o,k _ _ (.inl rfl) e⟩,st⟩
def HOk.lt(x:HOk P w H h)(e:H a=some o):a<h.objs.size:=(x a o e).lt
def HOk.fresh(x:HOk P w H h)(e:h.objs.size<=a):H a=none:=by
 cases q:H a with
 | none=>rfl
 | some u=>exact absurd (Au (x.lt q) e) (Ca _)
def HOk.kept(x:HOk P w H h)(k:∀b u,h.get? b=some u->h'.get? b=some u):HOk P w H h':=fun a o e =>
 (x a o e).stay (fun b u _ q=>k b u q) (fun _ q=>q) fun _ _ q=>q
def HOk.laid(x:HOk P w H h)(k:∀b u,h.get? b=some u->h'.get? b=some u)(hp:h.objs.size<=a)(new:ObjOk P w (upd H a o) h' a o):HOk P w (upd H a o) h':=fun b u e=>by
 have hn:=x.fresh hp
 by_cases hb:b=a
 ·subst hb;rw[zS] at e;cases e;exact new
 ·rw[zY hb] at e
  exact (x b u e).stay (fun c v _ q=>k c v q) (fun c q=>by rw[zY (yZ q hn)];exact q) (fun c xs q=>by rw[zY (yZ q hn)];exact q) fun c _ _ q=>by rw[zY (yZ q hn)];exact q
end
def Rd(H:Hp)(a:Addr)(u:HO):Prop:=H a=some u\/∃o,H a=some (.frz o u)
def Rd.ok{P:Program}{w:World}{H:Hp}{h:Heap}{a:Addr}{u:HO}(r:Rd H a u)(x:HOk P w H h):ObjOk P w H h a u:=by
 rcases r with r | ⟨o,r⟩
 ·exact x a u r
 ·obtain⟨_,q⟩:=x a _ r
  exact q
def Mut:Option HO->Prop
 | some (.lst _)=>True
 | some (.dK _)=>True
 | some (.dT _)=>True
 | some (.set _ _)=>True
 | some (.ins _ _ _)=>True
 | some (.ext _)=>True
 | _=>False
section
variable {P:Program}{w:World}{H:Hp}{h h':Heap}{x e:Addr}{o':HO}
def HOk.write(ok:HOk P w H h)(mu:Mut (H x))(he:e=x\/H e=some (.own x))(k:∀b u,b≠e->h.get? b=some u->h'.get? b=some u)(heo:∃u,h'.get? e=some u)
  (new:ObjOk P w (upd H x o') h' x o'):HOk P w (upd H x o') h':=fun b u q=>by
 have nown:∀c y,H c=some (.own y)->c≠x:=fun c y r z=>by subst z;rw[r] at mu;exact mu
 have ntup:∀c xs,H c=some (.tup xs)->c≠x:=fun c xs r z=>by subst z;rw[r] at mu;exact mu
 have nfrz:∀c o xs,H c=some (.frz o xs)->c≠x:=fun c o xs r z=>by subst z;rw[r] at mu;exact mu
 by_cases hb:b=x
 ·subst hb;rw[zS] at q;cases q;exact new
 ·rw[zY hb] at q
  by_cases hbe:b=e
  ·have q':H b=some (.own x):=by
    rcases he with z | z
    ·exact absurd (hbe.trans z) hb
    ·rw[hbe];exact z
   rw[q] at q';cases q'
   obtain⟨v,hv⟩:=heo
   exact⟨v,by rw[hbe];exact hv⟩
  ·refine (ok b u q).stay (fun c v hc r=>k c v ?_ r) (fun c r=>by rw[zY (nown c b r)];exact r) (fun c xs r=>by rw[zY (ntup c xs r)];exact r) fun c o xs r=>by rw[zY (nfrz c o xs r)];exact r
   rcases hc with rfl | hc
   ·exact hbe
   ·rintro rfl
    rcases he with z | z
    ·exact nown c b hc z
    ·rw[hc] at z;cases z;exact hb rfl
end
structure Un(fs ex:List Addr)(H H':Hp)(h h':Heap):Prop where
 keep:∀b o,h.get? b=some o->H b=none->b∉fs->b∉ex->h'.get? b=some o
 slot:∀b o,h.get? b=some o->H b=none->b∈fs->b∉ex->∃sl,h'.get? b=some { o with slots:=sl }
 free:∀b o,h.get? b=some o->H b=none->b∉ex->H' b=none
 there:∀b o,h.get? b=some o->b∉ex->∃o',h'.get? b=some o'
 tups:∀b xs,H b=some (.tup xs)->H' b=some (.tup xs)
 frzs:∀b o u,H b=some (.frz o u)->H' b=some (.frz o u)
 tbls:∀b q,H b=some (.tbl q)->H' b=some (.tbl q)
section
variable {fs fs' ex ex':List Addr}{H H1 H2:Hp}{h h1 h2 h':Heap}{a x e:Addr}{o:HO}
def Un.any(u:Un fs ex H H1 h h1){b:Addr}{ob:Obj}(q:h.get? b=some ob)(n:H b=none)(hx:b∉ex):∃sl,h1.get? b=some { ob with slots:=sl }:=by
 by_cases hb:b∈fs
 ·exact u.slot b ob q n hb hx
 ·exact⟨ob.slots,u.keep b ob q n hb hx⟩
def Un.kept(k:∀b u,h.get? b=some u->h'.get? b=some u):Un fs ex H H h h' :=
 ⟨fun b ob q _ _ _=>k b ob q,fun b ob q _ _ _=>⟨ob.slots,k b ob q⟩,fun _ _ _ n _=>n,fun b ob q _=>⟨ob,k b ob q⟩,fun _ _ q=>q,fun _ _ _ q=>q,fun _ _ q=>q⟩
def Un.refl:Un fs ex H H h h:=Un.kept fun _ _ q=>q
def Un.laid(k:∀b u,h.get? b=some u->h'.get? b=some u)(hp:h.objs.size<=a)(hn:H a=none):Un fs ex H (upd H a o) h h' where
 keep:=fun b u q _ _ _=>k b u q
 slot:=fun b u q _ _ _=>⟨u.slots,k b u q⟩
 free:=fun b u q n _=>by rw[zY (AL (Au (Ap q) hp))];exact n
 there:=fun b u q _=>⟨u,k b u q⟩
 tups:=fun b xs q=>by rw[zY (yZ q hn)];exact q
 frzs:=fun b u xs q=>by rw[zY (yZ q hn)];exact q
 tbls:=fun b ps q=>by rw[zY (yZ q hn)];exact q
def Un.write(mu:Mut (H x))(he:e=x\/H e=some (.own x))(k:∀b u,b≠e->h.get? b=some u->h'.get? b=some u)(heo:∃u,h'.get? e=some u):Un fs ex H (upd H x o) h h':=by
 have hx:∀b,H b=none->b≠x:=fun b n z=>by subst z;rw[n] at mu;exact mu
 have hb:∀b,H b=none->b≠e:=fun b n z=>by
  subst z
  rcases he with r | r
  ·exact hx b n r
  ·rw[n] at r;cases r
 have hm:∀b u,H b=some u->¬Mut (some u)->b≠x:=fun b u q nm z=>by subst z;rw[q] at mu;exact nm mu
 refine⟨fun b u q n _ _=>k b u (hb b n) q,fun b u q n _ _=>⟨u.slots,k b u (hb b n) q⟩,fun b u q n _=>by rw[zY (hx b n)];exact n,fun b u q _ => ?_,
  fun b xs q=>by rw[zY (hm b _ q fun z=>z)];exact q,fun b u xs q=>by rw[zY (hm b _ q fun z=>z)];exact q,fun b ps q=>by rw[zY (hm b _ q fun z=>z)];exact q⟩
 by_cases hbe:b=e
 ·subst hbe;exact heo
 ·exact⟨u,k b u hbe q⟩
end
def trk(h:Heap)(H:Hp):List Addr:=(List.range h.objs.size).filter fun a=>(H a).isSome
def hidT(h:Heap)(H:Hp):Heap:=PySem.W.hideAll h (trk h H)
def yH1(h:Heap)(H:Hp):(hidT h H).objs.size=h.objs.size:=PySem.W.hideAll_size _ _
def xT4{h:Heap}{H:Hp}{b:Addr}{o:Obj}(e:h.get? b=some o)(n:H b=none):(hidT h H).get? b=some o :=
 PySem.W.hideAll_get _ e fun hm=>by
  have q:(H b).isSome=true:=(Bk.mp hm).2
  rw[n] at q;simp at q
def xQ3{h:Heap}{H:Hp}{b:Addr}{o:Obj}(e:(hidT h H).get? b=some o):h.get? b=some o/\H b=none:=by
 have e':h.get? b=some o:=PySem.W.of_hideAll (trk h H) e
 refine⟨e',?_⟩
 cases q:H b with
 | none=>rfl
 | some x =>
  have hm:b∈trk h H:=Bk.mpr ⟨Al.mpr (Ap e'),by simp[q]⟩
  have z:(hidT h H).get? b=none:=PySem.W.hideAll_none (trk h H) hm
  rw[z] at e;cases e
def allNews(g h:Heap)(L:Addr):List (Addr×Obj):=(List.range h.objs.size).filterMap fun a=>if a=L\/(g.get? a).isSome=true then none else (h.get? a).map fun o=>(a,o)
def yW5{g h:Heap}{L a:Addr}{o:Obj}(h1:a≠L)(h2:g.get? a=none)(h3:h.get? a=some o):(a,o)∈allNews g h L :=
 Cc.mpr ⟨a,Al.mpr (Ap h3),by simp[h1,h2,h3]⟩
def zN7{g h:Heap}{L:Addr}{p:Addr×Obj}(hp:p∈allNews g h L):p.1≠L/\g.get? p.1=none/\h.get? p.1=some p.2:=by
 obtain⟨b,_,e⟩:=Cc.mp hp
 split at e
 ·cases e
 ·rename_i hn
  cases q:h.get? b with
  | none=>rw[q] at e;simp at e
  | some u =>
   rw[q] at e
   simp only[Bs,Option.some.injEq] at e
   subst e
   refine⟨fun z=>hn (.inl z),?_,q⟩
   show g.get? b=none
   cases r:g.get? b with
   | none=>rfl
   | some v=>exact (hn (.inr (by simp[r]))).elim
def rest(g h:Heap)(L d:Addr):List (Addr×Obj):=(allNews g h L).filter fun p=>decide (p.1≠d)
def aI{g h:Heap}{L d:Addr}:∀p∈rest g h L d,p.1≠d:=fun p hp=>of_decide_eq_true (Bk.mp hp).2
def xY5{g h:Heap}{L d a:Addr}{o:Obj}(h1:a≠L)(h2:g.get? a=none)(h3:h.get? a=some o)(h4:a≠d):(a,o)∈rest g h L d :=
 Bk.mpr ⟨yW5 h1 h2 h3,AB h4⟩
def xY1{g h:Heap}{L:Addr}:News g L h (allNews g h L):=fun p hp=>let ⟨a,b,c⟩:=zN7 hp; ⟨c,a,b⟩
def zQ8{g h:Heap}{L d:Addr}{o:Obj}(h1:d≠L)(h2:g.get? d=none)(h3:h.get? d=some o):News g L h ((d,o)::rest g h L d):=fun p hp=>by
 rcases An.mp hp with rfl | hp
 ·exact⟨h3,h1,h2⟩
 ·exact xY1 p (Bk.mp hp).1
def gE{g h h':Heap}{L d:Addr}{m:Str->Option Value}(k:∀b o,g.get? b=some o->h.get? b=some o)(F:Fr g L h' m)(N:News g L h' (rest g h L d)) :
  ∀b o,b≠L->b≠d->h.get? b=some o->h'.get? b=some o:=fun b o h1 h2 e=>by
 cases q:g.get? b with
 | some u =>
  have:=k b u q
  rw[e] at this;cases this
  exact F.keep b _ q
 | none=>exact (N (b,o) (xY5 h1 q e h2)).1
def tabNames:List Str:=["turns","unwritten","played","_law_turns"]
def lamQ(x:Str):Str:=x ++ ".<locals>." ++ "<lambda>"
def TabsIn(K:KFr)(H:Hp):Prop:=∀x∈tabNames,∀c P,PySem.W.tabIn K x=some (c,P)->H P=some (.tbl (lamQ x))
structure Mod(K:KFr)(mg:Str->Option Value)(base:Heap):Prop where
 tabs:∀x∈tabNames,∀c P,PySem.W.tabIn K x=some (c,P)->PySem.W.CodeHd base c P
 bmain:∃bm ob,mg "__builtins__" = some (.ref bm)/\bm≠builtinsNs/\base.get? bm=some ob/\ob.cls=.type "module"/\ob.dict=some builtinsNs/\ob.data=.plain
 kin:K.In base
 glob:base.Ns mainGlobals mg
 blt:∃mb,base.Ns builtinsNs mb/\∀x:Str,x ≠ "__name__"->mb x=bootBuiltins x
 nolimit:base.NoLimit
structure Cx where
 prog:Program
 w:World
 K:KFr
 mg:Str->Option Value
 base:Heap
 A:Around
 N:List Str
 s₀:Shared
 H₀:Hp
 env:Env
 outer:List Env
 stack:List Env
 ex:List Addr
 fn:Str->Bool
 calm:Bool
 pn:List (Addr×Obj)
 xe:Value->Shared->Prop
def frs(l:List Env):List Addr:=l.filterMap (·.frame)
abbrev Cx.fs(X:Cx):List Addr:=frs X.outer
def Vis(sc:Scope)(x:Str):Prop:=sc.names.lookup x=some .local \/ sc.names.lookup x=some .cell\/sc.names.lookup x=some .free
def Loc(sc:Scope)(x:Str):Prop:=sc.names.lookup x=some .local \/ sc.names.lookup x=some .cell
def Look(env:Env)(h:Heap)(m:Str->Option Value)(x:Str)(u:Value):Prop :=
 (env.kindOf x=some .local/\m x=some u)\/((env.kindOf x=some .cell\/env.kindOf x=some .free)/\∃c,env.cells.lookup x=some c/\h.IsCell c (some u))
structure Cx.Ok(X:Cx):Prop where
 mod:Mod X.K X.mg X.base
 kind:X.env.scope.kind=.function
 glob:X.env.globals=mainGlobals
 blt:X.env.builtins=builtinsNs
 above:X.s₀.heap.objs.size<=X.env.locals
 inj:∀x y c,X.env.cells.lookup x=some c->X.env.cells.lookup y=some c->x=y
 has:∀x,(X.env.kindOf x=some .cell\/X.env.kindOf x=some .free)->∃c,X.env.cells.lookup x=some c
 cab:∀x c,X.fn x=true->X.env.cells.lookup x=some c->X.s₀.heap.objs.size<=c
 hd:X.calm=true->X.A.handled=none
 frames:X.A.frames=some X.stack
 stk:X.stack=X.outer\/(X.stack=X.env::X.outer/\X.env.frame=some X.env.locals)
 exf:∀b∈X.ex,b≠X.env.locals/\∀x c,X.env.cells.lookup x=some c->c≠b
 bs:∀b o,X.base.get? b=some o->X.s₀.heap.get? b=some o/\X.H₀ b=none
 bsz:X.base.objs.size<=X.s₀.heap.objs.size
 noex:∀b o,X.base.get? b=some o->b∉X.ex
 exfs:∀b∈X.ex,b∉X.fs
 funs:X.s₀.heap.FunFrames X.base X.outer
 frf:∀b∈X.fs,X.H₀ b=none
 tb:TabsIn X.K X.H₀
structure Inv(X:Cx)(DI:List (Addr×Obj))(σ:List (Option V))(H:Hp)(s:Shared):Prop where
 ok:X.Ok
 os:s.os=X.s₀.os
 bare:AllBare s.gens
 base:Un X.fs X.ex X.H₀ H X.s₀.heap s.heap
 loc:∃m,s.heap.Ns X.env.locals m/\∀(i:Nat) (x:Str) (v:V),X.N[i]?=some x->σ[i]?=some (some v)->Vis X.env.scope x->∃u,RelV v u/\Look X.env s.heap m x u
 cell:∀x c,X.env.cells.lookup x=some c->∃v,s.heap.IsCell c v
 free:H X.env.locals=none
 freeC:∀x c,X.env.cells.lookup x=some c->H c=none
 pin:∀p∈X.pn++DI,s.heap.get? p.1=some p.2/\H p.1=none/\p.1≠X.env.locals/\p.1∉X.fs/\∀v,p.2.data ≠ .cell v
 hok:HOk X.prog X.w H s.heap
 len:σ.length=X.N.length
section
variable {X:Cx}{DI:List (Addr×Obj)}{σ:List (Option V)}{H H':Hp}{s:Shared}{h':Heap}
def Cx.Ok.nofr(ok:X.Ok){b:Addr}{o:Obj}(e:X.base.get? b=some o):b∉X.fs:=fun hb=>by
 have:=(ok.funs.mem hb).1
 rw[e] at this;cases this
def Inv.tb(I:Inv X DI σ H s):TabsIn X.K H:=fun x hx c P e=>I.base.tbls P _ (I.ok.tb x hx c P e)
def Inv.bs(I:Inv X DI σ H s):∀b o,X.base.get? b=some o->s.heap.get? b=some o/\H b=none:=fun b o e =>
 ⟨I.base.keep b o (I.ok.bs b o e).1 (I.ok.bs b o e).2 (I.ok.nofr e) (I.ok.noex b o e),I.base.free b o (I.ok.bs b o e).1 (I.ok.bs b o e).2 (I.ok.noex b o e)⟩
def Inv.bk(I:Inv X DI σ H s):∀b o,X.base.get? b=some o->s.heap.get? b=some o:=fun b o e=>(I.bs b o e).1
def Inv.mod(I:Inv X DI σ H s):Mod X.K X.mg X.base:=I.ok.mod
def Inv.kIn(I:Inv X DI σ H s):X.K.In s.heap:=I.ok.mod.kin.keeps I.bk
def Inv.lt(I:Inv X DI σ H s):X.env.locals<s.heap.objs.size:=let ⟨_,hn,_⟩:=I.loc;hn.lt
def Inv.sz(I:Inv X DI σ H s):X.s₀.heap.objs.size<=s.heap.objs.size:=Bf I.ok.above (BC I.lt)
def Inv.nofs(I:Inv X DI σ H s){a:Addr}(h:s.heap.objs.size<=a):a∉X.fs:=fun hb=>by
 obtain⟨_,o,ho,_⟩:=I.ok.funs.mem hb
 exact absurd (Au (Ap ho) (Bf I.sz h)) (Ca _)
def Inv.cne(I:Inv X DI σ H s):∀x c,X.env.cells.lookup x=some c->c≠X.env.locals:=fun x c e z=>by
 obtain⟨v,o,ho,hd⟩:=I.cell x c e
 obtain⟨m,⟨o',es,ep,ho',hd',_⟩,_⟩:=I.loc
 rw[z,ho'] at ho;cases ho;rw[hd'] at hd;cases hd
def Inv.funs(I:Inv X DI σ H s):s.heap.FunFrames X.base X.outer:=by
 have all:∀(l:List Env),(∀b∈frs l,b∈X.fs)->X.s₀.heap.FunFrames X.base l->s.heap.FunFrames X.base l:=by
  intro l
  induction l with
  | nil=>intro _ _;trivial
  | cons env r ih =>
   intro hs hl
   obtain⟨hk,⟨L,o,hf,hn,ho,hd⟩,hr⟩:=hl
   have hL:L∈X.fs:=hs L (by unfold frs;rw[Bm,hf];exact Ae)
   obtain⟨sl,e⟩:=I.base.slot L o ho (I.ok.frf L hL) hL fun z=>I.ok.exfs L z hL
   exact⟨hk,⟨L,_,hf,hn,e,hd⟩,ih (fun b hb=>hs b (by unfold frs;rw[Bm,hf];exact Ad _ hb)) hr⟩
 exact all X.outer (fun _ hb=>hb) I.ok.funs
def Inv.stack(I:Inv X DI σ H s):s.heap.FunFrames X.base X.stack:=by
 rcases I.ok.stk with e | ⟨e,hf⟩
 ·rw[e];exact I.funs
 ·rw[e]
  obtain⟨m,hn,_⟩:=I.loc
  refine .cons (by rw[I.ok.kind];decide) hf hn ?_ I.funs
  exact Heap.get?_none_of_le (Bf I.ok.bsz I.ok.above)
def Inv.stkSub(I:Inv X DI σ H s):∀b∈frs X.stack,b∈X.env.locals::X.fs:=fun b hb=>by
 rcases I.ok.stk with e | ⟨e,hf⟩
 ·rw[e] at hb;exact Ad _ hb
 ·rw[e] at hb
  unfold frs at hb
  rw[Bm,hf] at hb
  exact hb
def Inv.stkFree(I:Inv X DI σ H s):∀b∈frs X.stack,H b=none:=fun b hb=>by
 rcases An.mp (I.stkSub b hb) with e | hb
 ·rw[e];exact I.free
 ·obtain⟨_,o,ho,_⟩:=I.ok.funs.mem hb
  exact I.base.free b o ho (I.ok.frf b hb) fun z=>I.ok.exfs b z hb
def Inv.step{g':Array GenState}{t':Nat}{d':Drawn}{ch:List Addr}(I:Inv X DI σ H s)
  (hch:∀b∈ch,(b∈X.ex\/X.s₀.heap.objs.size<=b)/\b≠X.env.locals/\(∀x c,X.env.cells.lookup x=some c->c≠b)/\∀p∈X.pn++DI,p.1≠b)
  (keep:∀b o,b≠X.env.locals->b∉X.fs->b∉ch->s.heap.get? b=some o->H b=none->h'.get? b=some o)
  (slot:∀b o,b≠X.env.locals->b∈X.fs->b∉ch->s.heap.get? b=some o->H b=none->∃sl,h'.get? b=some { o with slots:=sl }) (free:∀b o,b∉ch->s.heap.get? b=some o->H b=none->H' b=none)
  (there:∀b o,b∉ch->s.heap.get? b=some o->∃o',h'.get? b=some o')
  (tups:∀b xs,H b=some (.tup xs)->H' b=some (.tup xs)) (frzs:∀b o u,H b=some (.frz o u)->H' b=some (.frz o u)) (tbls:∀b q,H b=some (.tbl q)->H' b=some (.tbl q))
  (ns:∀m,s.heap.Ns X.env.locals m->h'.Ns X.env.locals m) (hok:HOk X.prog X.w H' h') (hg:AllBare g') :
  Inv X DI σ H' { s with heap:=h',gens:=g',drawn:=d',toks:=t' }:=by
 have neL:∀b o,X.s₀.heap.get? b=some o->b≠X.env.locals:=fun b o e=>AL (Au (Ap e) I.ok.above)
 have neC:∀b o,X.s₀.heap.get? b=some o->b∉X.ex->b∉ch:=fun b o e hx hb=>by
  rcases (hch b hb).1 with z | z
  ·exact hx z
  ·exact absurd (Au (Ap e) z) (Ca _)
 have cellK:∀x c,X.env.cells.lookup x=some c->∀v,s.heap.IsCell c v->h'.IsCell c v:=fun x c e v ⟨o,ho,hd⟩=>by
  have nch:c∉ch:=fun z=>(hch c z).2.2.1 x c e rfl
  by_cases hc:c∈X.fs
  ·obtain⟨sl,q⟩:=slot c o (I.cne x c e) hc nch ho (I.freeC x c e)
   exact⟨_,q,hd⟩
  ·exact⟨o,keep c o (I.cne x c e) hc nch ho (I.freeC x c e),hd⟩
 refine⟨I.ok,I.os,hg,⟨fun b o e n hb hx => ?_,fun b o e n hb hx => ?_,fun b o e n hx => ?_,fun b o e hx => ?_,fun b xs e=>tups b xs (I.base.tups b xs e),fun b o xs e=>frzs b o xs (I.base.frzs b o xs e),fun b ps e=>tbls b ps (I.base.tbls b ps e)⟩,?_,fun x c e => ?_,?_,fun x c e => ?_,fun p hp => ?_,hok,I.len⟩
 ·exact keep b o (neL b o e) hb (neC b o e hx) (I.base.keep b o e n hb hx) (I.base.free b o e n hx)
 ·obtain⟨sl,e1⟩:=I.base.slot b o e n hb hx
  obtain⟨sl',e2⟩:=slot b _ (neL b o e) hb (neC b o e hx) e1 (I.base.free b o e n hx)
  exact⟨sl',e2⟩
 ·obtain⟨o',e1⟩:=I.base.there b o e hx
  exact free b o' (neC b o e hx) e1 (I.base.free b o e n hx)
 ·obtain⟨o',e1⟩:=I.base.there b o e hx
  exact there b o' (neC b o e hx) e1
 ·obtain⟨m,hn,hl⟩:=I.loc
  refine⟨m,ns m hn,fun i x v e1 e2 e3 => ?_⟩
  obtain⟨u,r,l⟩:=hl i x v e1 e2 e3
  refine⟨u,r,?_⟩
  rcases l with l | ⟨k,c,e,z⟩
  ·exact .inl l
  ·exact .inr ⟨k,c,e,cellK x c e _ z⟩
 ·obtain⟨v,z⟩:=I.cell x c e
  exact⟨v,cellK x c e v z⟩
 ·obtain⟨m,⟨o,_,_,ho,_⟩,_⟩:=I.loc
  exact free _ o (fun z=>(hch _ z).2.1 rfl) ho I.free
 ·obtain⟨v,o,ho,hd⟩:=I.cell x c e
  exact free c o (fun z=>(hch c z).2.2.1 x c e rfl) ho (I.freeC x c e)
 ·obtain⟨e,n,ne,nf,d⟩:=I.pin p hp
  have nch:p.1∉ch:=fun z=>(hch p.1 z).2.2.2 p hp rfl
  exact⟨keep p.1 p.2 ne nf nch e n,free p.1 p.2 nch e n,ne,nf,d⟩
def Inv.un{t':Nat}(I:Inv X DI σ H s)(u:Un X.fs [] H H' s.heap h')(hok:HOk X.prog X.w H' h'):Inv X DI σ H' { s with heap:=h',toks:=t' }:=by
 obtain⟨m,⟨o,es,ep,ho,r⟩,_⟩:=id I.loc
 obtain⟨sl,hL⟩:=u.any ho I.free (by simp)
 exact I.step (g':=s.gens) (d':=s.drawn) (ch:=[]) (fun _ z=>nomatch z) (fun b o _ hb _ e n=>u.keep b o e n hb (by simp)) (fun b o _ hb _ e n=>u.slot b o e n hb (by simp)) (fun b o _ e n=>u.free b o e n (by simp)) (fun b o _ e=>u.there b o e (by simp)) u.tups u.frzs u.tbls (fun m' hm=>by
  obtain⟨o',es',ep',ho',r'⟩:=hm
  rw[ho] at ho';cases ho'
  exact⟨_,es',ep',hL,r'⟩) hok I.bare
def Inv.call{g':Array GenState}{t':Nat}{d':Drawn}{ch:List Addr}(I:Inv X DI σ H s)(u:Un (frs X.stack) ch H H' s.heap h')(hok:HOk X.prog X.w H' h')(hg:AllBare g')
  (hch:∀b∈ch,(b∈X.ex\/X.s₀.heap.objs.size<=b)/\b≠X.env.locals/\(∀x c,X.env.cells.lookup x=some c->c≠b)/\∀p∈X.pn++DI,p.1≠b) :
  Inv X DI σ H' { s with heap:=h',gens:=g',drawn:=d',toks:=t' }:=by
 obtain⟨m,⟨o,es,ep,ho,r⟩,_⟩:=id I.loc
 obtain⟨sl,hL⟩:=u.any ho I.free fun z=>(hch _ z).2.1 rfl
 exact I.step (ch:=ch) hch (fun b o hL hb hc e n=>u.keep b o e n (fun z=>(An.mp (I.stkSub b z)).elim hL hb) hc) (fun b o _ _ hc e n=>u.any e n hc) (fun b o hc e n=>u.free b o e n hc) (fun b o hc e=>u.there b o e hc) u.tups u.frzs u.tbls (fun m' hm=>by
  obtain⟨o',es',ep',ho',r'⟩:=hm
  rw[ho] at ho';cases ho'
  exact⟨_,es',ep',hL,r'⟩) hok hg
def Inv.turned{t':Nat}{it:Addr}(I:Inv X DI σ H s)(k:∀b o,b≠it->s.heap.get? b=some o->h'.get? b=some o)(hn:H it=none)(hL:it≠X.env.locals)
  (h1:it∈X.ex\/X.s₀.heap.objs.size<=it) (h2:∀x c,X.env.cells.lookup x=some c->c≠it) (h3:∀p∈X.pn++DI,p.1≠it):Inv X DI σ H { s with heap:=h',toks:=t' }:=by
 have nit:∀b u,H b=some u->b≠it:=fun b u e z=>by rw[z,hn] at e;cases e
 refine I.step (g':=s.gens) (d':=s.drawn) (ch:=[it]) (fun b hb => ?_) (fun b o _ _ hc e _=>k b o (fun z=>hc (by simp[z])) e) (fun b o _ _ hc e _=>⟨o.slots,k b o (fun z=>hc (by simp[z])) e⟩) (fun _ _ _ _ n=>n)
  (fun b o hc e=>⟨o,k b o (fun z=>hc (by simp[z])) e⟩) (fun _ _ e=>e) (fun _ _ _ e=>e) (fun _ _ e=>e) (fun m hm => ?_) (fun b u e => ?_) I.bare
 ·have e:b=it:=by simpa using hb
  subst e
  exact⟨h1,hL,h2,h3⟩
 ·obtain⟨o,es,ep,ho,r⟩:=hm
  exact⟨o,es,ep,k _ o (Cj hL) ho,r⟩
 ·refine (I.hok b u e).stay (fun c v hc q=>k c v ?_ q) (fun _ q=>q) fun _ _ q=>q
  rcases hc with z | z
  ·rw[z];exact nit b u e
  ·exact nit c _ z
def Inv.tok(I:Inv X DI σ H s)(t:Nat):Inv X DI σ H { s with toks:=t }:=I.un (h':=s.heap) (t':=t) Un.refl I.hok
def Inv.kept{t':Nat}(I:Inv X DI σ H s)(k:∀b u,s.heap.get? b=some u->h'.get? b=some u):Inv X DI σ H { s with heap:=h',toks:=t' }:=I.un (Un.kept k) (I.hok.kept k)
def Inv.laid{a:Addr}{o:HO}{t':Nat}(I:Inv X DI σ H s)(k:∀b u,s.heap.get? b=some u->h'.get? b=some u)(hp:s.heap.objs.size<=a)(new:ObjOk X.prog X.w (upd H a o) h' a o) :
  Inv X DI σ (upd H a o) { s with heap:=h',toks:=t' }:=I.un (Un.laid k hp (I.hok.fresh hp)) (I.hok.laid k hp new)
def Inv.write{x e:Addr}{o:HO}{t':Nat}(I:Inv X DI σ H s)(mu:Mut (H x))(he:e=x\/H e=some (.own x))(k:∀b u,b≠e->s.heap.get? b=some u->h'.get? b=some u)(heo:∃u,h'.get? e=some u)
  (new:ObjOk X.prog X.w (upd H x o) h' x o):Inv X DI σ (upd H x o) { s with heap:=h',toks:=t' }:=I.un (Un.write mu he k heo) (I.hok.write mu he k heo new)
def Inv.yE{pins':List (Addr×Obj)}(I:Inv X DI σ H s)(h:∀p∈pins',s.heap.get? p.1=some p.2/\H p.1=none/\p.1≠X.env.locals/\p.1∉X.fs/\∀v,p.2.data ≠ .cell v):Inv X pins' σ H s :=
 ⟨I.ok,I.os,I.bare,I.base,I.loc,I.cell,I.free,I.freeC,fun p hp=>(AM.mp hp).elim (fun z=>I.pin p (AS _ z)) (h p),I.hok,I.len⟩
def yY1{N:List Str}(hN:N.Nodup){i j:Nat}{x:Str}(a:N[i]?=some x)(b:N[j]?=some x):i=j:=by
 obtain⟨h1,e1⟩:=Ac.mp a
 obtain⟨h2,e2⟩:=Ac.mp b
 exact (List.getElem_inj hN).mp (e1.trans e2.symm)
def yC8{M:Model}{A:Around}{E:Value->Shared->Prop}{i:Nat}{x:Str}{v:V}{u:Value}{Q:Unit->Shared->Prop}(I:Inv X DI σ H s)(hN:X.N.Nodup)(hi:X.N[i]?=some x)(hx:Loc X.env.scope x)(r:RelV v u)
  (h:∀s',Inv X DI (σ.set i (some v)) H s'->(∃a,Heap.SameBut a s.heap s'.heap/\(a=X.env.locals\/X.env.cells.lookup x=some a))->Q () s') (hf:autoParam (X.fn x=true\/X.env.scope.names.lookup x=some .local) DD):wpAny M A (storeName X.env x u) Q E s:=by
 obtain⟨m,hn,hl⟩:=id I.loc
 have hcls:(X.env.scope.kind == .class || (X.env.scope.kind == .module&&X.env.locals != X.env.globals))=false:=by rw[I.ok.kind];rfl
 have hiσ:i<σ.length:=by rw[I.len];exact (Ac.mp hi).1
 have cne:=I.cne
 have tracked:∀{a:Addr}{h':Heap},(∃o,s.heap.get? a=some o/\H a=none)->Heap.SameBut a s.heap h'->HOk X.prog X.w H h':=fun {a h'} ha hs b ob e=>by
  obtain⟨_,_,hfree⟩:=ha
  refine (I.hok b ob e).stay (fun c w' hc q=>(hs.2 c ?_).trans q) (fun _ q=>q) fun _ _ q=>q
  rintro rfl
  rcases hc with rfl | hc
  ·rw[hfree] at e;cases e
  ·rw[hfree] at hc;cases hc
 rcases hx with hk | hk
 ·refine wpAny_storeName_local hk hn (fun h' hn' hs => ?_) hcls
  obtain⟨oL,_,_,hoL,_⟩:=id hn
  refine h _ ⟨I.ok,I.os,I.bare,⟨fun b o e n hb hx => ?_,fun b o e n hb hx => ?_,I.base.free,fun b o e hx => ?_,I.base.tups,I.base.frzs,I.base.tbls⟩,⟨_,hn',fun j y v' e1 e2 e3 => ?_⟩,fun y c e => ?_,I.free,I.freeC,fun p hp => ?_,tracked ⟨oL,hoL,I.free⟩ hs,by simpa using I.len⟩ ⟨_,hs,.inl rfl⟩
  ·exact (hs.2 b (AL (Au (Ap e) I.ok.above))).trans (I.base.keep b o e n hb hx)
  ·obtain⟨sl,e1⟩:=I.base.slot b o e n hb hx
   exact⟨sl,(hs.2 b (AL (Au (Ap e) I.ok.above))).trans e1⟩
  ·obtain⟨o',e1⟩:=I.base.there b o e hx
   exact⟨o',(hs.2 b (AL (Au (Ap e) I.ok.above))).trans e1⟩
  ·by_cases hj:j=i
   ·subst hj
    rw[hi] at e1;cases e1
    rw[Bv hiσ] at e2
    cases e2
    exact⟨u,r,.inl ⟨hk,by simp⟩⟩
   ·rw[AZ (Cj hj)] at e2
    obtain⟨u',r',q⟩:=hl j y v' e1 e2 e3
    refine⟨u',r',?_⟩
    rcases q with ⟨k,e⟩ | ⟨k,c,e,z⟩
    ·refine .inl ⟨k,?_⟩
     have:y≠x:=fun e=>hj (yY1 hN e1 (e▸hi))
     simp[this,e]
    ·exact .inr ⟨k,c,e,z.sameBut hs (cne y c e)⟩
  ·obtain⟨w',z⟩:=I.cell y c e
   exact⟨w',z.sameBut hs (cne y c e)⟩
  ·obtain⟨e,n,ne,nf,d⟩:=I.pin p hp
   exact⟨(hs.2 p.1 ne).trans e,n,ne,nf,d⟩
 ·have hfn:X.fn x=true:=by
   rcases hf with z | z
   ·exact z
   ·rw[z] at hk;cases hk
  obtain⟨c,hc⟩:=I.ok.has x (.inl hk)
  obtain⟨w',z⟩:=I.cell x c hc
  refine wpAny_storeName_cell I.ok.kind hk hc z (fun h' hc' hs => ?_)
  obtain⟨oc,hoc,hocd⟩:=id z
  refine h { s with heap:=h' } ⟨I.ok,I.os,I.bare,⟨fun b o e n hb hx => ?_,fun b o e n hb hx => ?_,I.base.free,fun b o e hx => ?_,I.base.tups,I.base.frzs,I.base.tbls⟩,⟨m,hn.sameBut hs (Cj (cne x c hc)),fun j y v' e1 e2 e3 => ?_⟩,fun y c' e => ?_,I.free,I.freeC,fun p hp => ?_,tracked ⟨oc,hoc,I.freeC x c hc⟩ hs,by simpa using I.len⟩ ⟨c,hs,.inr hc⟩
  ·exact (hs.2 b (AL (Au (Ap e) (I.ok.cab x c hfn hc)))).trans (I.base.keep b o e n hb hx)
  ·obtain⟨sl,e1⟩:=I.base.slot b o e n hb hx
   exact⟨sl,(hs.2 b (AL (Au (Ap e) (I.ok.cab x c hfn hc)))).trans e1⟩
  ·obtain⟨o',e1⟩:=I.base.there b o e hx
   exact⟨o',(hs.2 b (AL (Au (Ap e) (I.ok.cab x c hfn hc)))).trans e1⟩
  ·by_cases hj:j=i
   ·subst hj
    rw[hi] at e1;cases e1
    rw[Bv hiσ] at e2
    cases e2
    exact⟨u,r,.inr ⟨.inl hk,c,hc,hc'⟩⟩
   ·rw[AZ (Cj hj)] at e2
    obtain⟨u',r',q⟩:=hl j y v' e1 e2 e3
    refine⟨u',r',?_⟩
    rcases q with q | ⟨k,c',e,z'⟩
    ·exact .inl q
    ·refine .inr ⟨k,c',e,z'.sameBut hs ?_⟩
     rintro rfl
     exact hj (yY1 hN e1 (I.ok.inj _ _ _ e hc▸hi))
  ·by_cases hcc:c'=c
   ·subst hcc;exact⟨_,hc'⟩
   ·obtain⟨w2,z2⟩:=I.cell y c' e
    exact⟨w2,z2.sameBut hs hcc⟩
  ·obtain⟨e,n,ne,nf,d⟩:=I.pin p hp
   refine⟨(hs.2 p.1 ?_).trans e,n,ne,nf,d⟩
   intro q
   rw[q,hoc] at e
   have q':oc=p.2:=AW e
   exact d w' (by rw[<-q'];exact hocd)
def cY{M:Model}{A:Around}{E:Value->Shared->Prop}{i:Nat}{x:Str}{v:V}{u:Value}{Q:Unit->Shared->Prop}(I:Inv X DI σ H s)(hN:X.N.Nodup)(hi:X.N[i]?=some x)(hx:Loc X.env.scope x)(r:RelV v u)
  (h:∀s',Inv X DI (σ.set i (some v)) H s'->Q () s') (hf:autoParam (X.fn x=true\/X.env.scope.names.lookup x=some .local) DD):wpAny M A (storeName X.env x u) Q E s :=
 yC8 I hN hi hx r (fun s' I' _=>h s' I') hf
def Inv.call'{s':Shared}{ch:List Addr}(I:Inv X DI σ H s)(ho:s'.os=s.os)(u:Un (frs X.stack) ch H H' s.heap s'.heap)(hok:HOk X.prog X.w H' s'.heap)(hg:AllBare s'.gens)
  (hch:∀b∈ch,(b∈X.ex\/X.s₀.heap.objs.size<=b)/\b≠X.env.locals/\(∀x c,X.env.cells.lookup x=some c->c≠b)/\∀p∈X.pn++DI,p.1≠b):Inv X DI σ H' s':=by
 obtain⟨h',g',d',t',o'⟩:=s'
 have e:o'=s.os:=ho
 subst e
 exact I.call (g':=g') (t':=t') (d':=d') u hok hg hch
end
abbrev XK:=Value->Option Addr->Hp->Prop
abbrev St:=List (Option V)
abbrev VK:=V->Hp->Prop
abbrev TE:=St->Hp->VK->Prop
abbrev TT:=St->Hp->(Bool->Hp->Prop)->Prop
abbrev TA:=St->Hp->(List V->Hp->Prop)->Prop
structure Ends where
 nx:St->Hp->Prop
 rt:VK
 bk:St->Hp->Prop:=fun _ _=>False
 ct:St->Hp->Prop:=fun _ _=>False
abbrev TS:=Ends->St->Hp->Prop
def EP(X:Cx)(DI:List (Addr×Obj))(σ:St)(Q:VK)(u:Value)(s':Shared):Prop:=∃v H',Inv X DI σ H' s'/\RelV v u/\Q v H'
def TP(X:Cx)(DI:List (Addr×Obj))(σ:St)(Q:Bool->Hp->Prop)(b:Bool)(s':Shared):Prop:=∃H',Inv X DI σ H' s'/\Q b H'
def AP(X:Cx)(DI:List (Addr×Obj))(σ:St)(Q:List V->Hp->Prop)(us:List Value)(s':Shared):Prop:=∃vs H',Inv X DI σ H' s'/\Vals vs us/\Q vs H'
def SP(X:Cx)(DI:List (Addr×Obj))(D:Ends)(f:Flow)(s':Shared):Prop :=
 match f with
 | .next=>∃σ' H',Inv X DI σ' H' s'/\D.nx σ' H'
 | .brk=>∃σ' H',Inv X DI σ' H' s'/\D.bk σ' H'
 | .cont=>∃σ' H',Inv X DI σ' H' s'/\D.ct σ' H'
 | .ret u=>∃v σ' H',Inv X DI σ' H' s'/\RelV v u/\D.rt v H'
def PE(X:Cx)(e:Expr)(t:TE):Prop :=
 ∀(DI:List (Addr×Obj)) (s:Shared) (σ:St) (H:Hp) (Q:VK),Inv X DI σ H s->t σ H Q->wpAny (model X.prog X.w) X.A (eval e X.env) (EP X DI σ Q) X.xe s
def PT(X:Cx)(e:Expr)(t:TT):Prop :=
 ∀(DI:List (Addr×Obj)) (s:Shared) (σ:St) (H:Hp) (Q:Bool->Hp->Prop),Inv X DI σ H s->t σ H Q->wpAny (model X.prog X.w) X.A (isTrue e X.env (eval e X.env)) (TP X DI σ Q) X.xe s
def PW(X:Cx)(e:Expr)(t:TT):Prop :=
 ∀(whole:Sem Value) (DI:List (Addr×Obj)) (s:Shared) (σ:St) (H:Hp) (Q:Bool->Hp->Prop),Inv X DI σ H s->t σ H Q->wpAny (model X.prog X.w) X.A (isTrue e X.env whole) (TP X DI σ Q) X.xe s
def PW.pt{X:Cx}{e:Expr}{t:TT}(h:PW X e t):PT X e t:=h _
def PA(X:Cx)(es:List Expr)(t:TA):Prop :=
 ∀(pos:Pos) (DI:List (Addr×Obj)) (s:Shared) (σ:St) (H:Hp) (Q:List V->Hp->Prop),Inv X DI σ H s->t σ H Q->wpAny (model X.prog X.w) X.A (spliced (backTo pos (starEach es X.env))) (AP X DI σ Q) X.xe s
def PS(X:Cx)(st:Stmt)(t:TS):Prop :=
 ∀(DI:List (Addr×Obj)) (s:Shared) (σ:St) (H:Hp) (D:Ends),Inv X DI σ H s->t D σ H->wpAny (model X.prog X.w) X.A (exec st X.env) (SP X DI D) X.xe s
def PSs(X:Cx)(st:List Stmt)(t:TS):Prop :=
 ∀(DI:List (Addr×Obj)) (s:Shared) (σ:St) (H:Hp) (D:Ends),Inv X DI σ H s->t D σ H->wpAny (model X.prog X.w) X.A (execs st X.env) (SP X DI D) X.xe s
def thn{α:Type}{t:Sem α}{Q Q':α->Shared->Prop}{M:Model}{A:Around}{E:Value->Shared->Prop}{s:Shared}(h:wpAny M A t Q E s)(hQ:∀a s,Q a s->Q' a s):wpAny M A t Q' E s:=wpAny_mono h hQ fun _ _ x=>x
section
variable {X:Cx}
def bin{a b:Expr}{ta tb:TE}(ha:PE X a ta)(hb:PE X b tb){DI:List (Addr×Obj)}{s:Shared}{σ:St}{H:Hp}{R:V->V->Hp->Prop}(I:Inv X DI σ H s)(h:ta σ H fun x H1=>tb σ H1 fun y H2=>R x y H2)
  {α:Type}{Q:α->Shared->Prop}{f:Value->Value->Sem α}
  (hf:∀v u s2 x y H2,Inv X DI σ H2 s2->RelV x v->RelV y u->R x y H2->wpAny (model X.prog X.w) X.A (f v u) Q X.xe s2) :
  wpAny (model X.prog X.w) X.A (eval a X.env) (fun v s₁=>wpAny (model X.prog X.w) X.A (eval b X.env) (fun u s₂=>wpAny (model X.prog X.w) X.A (f v u) Q X.xe s₂) X.xe s₁) X.xe s:=by
 refine thn (ha DI s σ H _ I h) fun v s1 ⟨x,H1,I1,r1,q1⟩ => ?_
 refine thn (hb DI s1 σ H1 _ I1 q1) fun u s2 ⟨y,H2,I2,r2,q2⟩ => ?_
 exact hf v u s2 x y H2 I2 r1 r2 q2
def tVar(i:Nat):TE:=fun σ H Q=>∃v,σ[i]?=some (some v)/\Q v H
def tC(v:V):TE:=fun _ H Q=>Q v H
def jJ{i:Nat}{x:Str}{pos:Pos}(hN:X.N[i]?=some x)(hv:Vis X.env.scope x)(hd:autoParam ((x == ("__debug__":Str))=false) DG)(hcd:autoParam ((x == ("__classdict__":Str))=false) DG):PE X (.Name x pos) (tVar i):=by
 intro DI s σ H Q I h
 obtain⟨v,e,h⟩:=h
 obtain⟨m,hn,hl⟩:=I.loc
 obtain⟨u,r,l⟩:=hl i x v hN e hv
 have fin:EP X DI σ Q u s:=⟨v,H,I,r,h⟩
 rcases l with ⟨hk,hm⟩ | ⟨hk,c,hc,hcell⟩
 ·exact wpAny_Name (wpAny_loadName_local I.ok.kind hk hn hm fin) hd
 ·rcases hk with hk | hk
  ·exact wpAny_Name (wpAny_loadName_cell I.ok.kind hk hc hcell fin) hd
  ·exact wpAny_Name (wpAny_loadName_free I.ok.kind hk hc hcell fin hcd) hd
def yW{i j pos}:PE X (.Constant (.int i) j pos) (tC (.int i)):=fun _ _ _ H _ I h=>wpAny_Constant_int ⟨.int i,H,I.tok _,⟨_,rfl⟩,h⟩
def xR4{b j pos}:PE X (.Constant (.bool b) j pos) (tC (.bl b)):=fun _ _ _ H _ I h=>Constant_bool ⟨.bl b,H,I,rfl,h⟩
def dU{j pos}:PE X (.Constant .none j pos) (tC .non):=fun _ _ _ H _ I h=>Constant_none ⟨.non,H,I,rfl,h⟩
def gL{x j pos}:PE X (.Constant (.str x) j pos) (tC (.str x)):=fun _ _ _ H _ I h=>Calls.Constant_str ⟨.str x,H,I.tok _,⟨_,rfl⟩,h⟩
def Gl(X:Cx)(x:Str):Prop:=X.env.kindOf x=some .globalImplicit
def aP{E:Value->Shared->Prop}{DI:List (Addr×Obj)}{s:Shared}{σ:St}{H:Hp}{x:Str}{u:Value}{pos:Pos}{Q:Value->Shared->Prop}(I:Inv X DI σ H s)(hg:Gl X x)(hm:X.mg x=some u)(h:Q u s)
  (hd:autoParam ((x == ("__debug__":Str))=false) DG):wpAny (model X.prog X.w) X.A (eval (.Name x pos) X.env) Q E s :=
 Calls.Name_function_global I.ok.kind hg (Calls.loadGlobal_global (by rw[I.ok.glob];exact I.mod.glob.keeps I.bk) hm h) hd
def bZ{E:Value->Shared->Prop}{DI:List (Addr×Obj)}{s:Shared}{σ:St}{H:Hp}{x:Str}{u:Value}{pos:Pos}{Q:Value->Shared->Prop}(I:Inv X DI σ H s)(hg:Gl X x)(hm:X.mg x=none)(hv:bootBuiltins x=some u)(h:Q u s)
  (hn:autoParam (x ≠ "__name__") DG) (hd:autoParam ((x == ("__debug__":Str))=false) DG):wpAny (model X.prog X.w) X.A (eval (.Name x pos) X.env) Q E s:=by
 obtain⟨mb,h1,h2⟩:=I.mod.blt
 exact Calls.Name_function_global I.ok.kind hg (Calls.loadGlobal_builtin (by rw[I.ok.glob];exact I.mod.glob.keeps I.bk) hm (by rw[I.ok.blt];exact h1.keeps I.bk) ((h2 x hn).trans hv) h) hd
def xP1{x:Str}{v:V}{u:Value}{pos:Pos}(hg:Gl X x)(hm:X.mg x=some u)(r:RelV v u)(hd:autoParam ((x == ("__debug__":Str))=false) DG):PE X (.Name x pos) (tC v) :=
 fun _ _ _ H _ I h=>aP I hg hm ⟨v,H,I,r,h⟩ hd
variable {a b:Expr}{ta tb:TE}{pos:Pos}
def PC(X:Cx)(op:CmpOp)(a b:Expr)(t:TE):Prop :=
 ∀(DI:List (Addr×Obj)) (s:Shared) (σ:St) (H:Hp) (Q:VK),Inv X DI σ H s->t σ H Q ->
  wpAny (model X.prog X.w) X.A (eval a X.env) (fun v s₁=>wpAny (model X.prog X.w) X.A (eval b X.env) (fun u s₂=>wpAny (model X.prog X.w) X.A (compareOp op v u) (EP X DI σ Q) X.xe s₂) X.xe s₁) X.xe s
def nobehind(b:Expr){op:CmpOp}(h:op ≠ .In)(h2:op ≠ .NotIn):behindInMarks op b=false:=by
 have e1:(op == CmpOp.In)=false:=by cases op <;> first | rfl | exact absurd rfl h
 have e2:(op == CmpOp.NotIn)=false:=by cases op <;> first | rfl | exact absurd rfl h2
 cases b <;> simp[behindInMarks,e1,e2]
def tIsN(ta:TE):TE:=fun σ H Q=>ta σ H fun x H1=>Q (.bl (decide (x=.non))) H1
def tNotN(ta:TE):TE:=fun σ H Q=>ta σ H fun x H1=>Q (.bl (!decide (x=.non))) H1
def RelV.zA8{x:V}{v:Value}(r:RelV x v):(v == Value.none)=decide (x=.non):=by
 cases x with
 | non=>cases r;rfl
 | bl _=>cases r;rfl
 | int _=>obtain⟨t,rfl⟩:=r;rfl
 | str _=>obtain⟨t,rfl⟩:=r;rfl
 | byt _=>obtain⟨t,rfl⟩:=r;rfl
 | flt _=>obtain⟨t,rfl⟩:=r;rfl
 | ref _=>cases r;rfl
 | ty _=>cases r;rfl
def yH8{j pos'}(ha:PE X a ta):PC X .Is a (.Constant .none j pos') (tIsN ta):=by
 intro DI s σ H Q I h
 refine thn (ha DI s σ H _ I h) fun v s1 ⟨x,H1,I1,r1,q1⟩ => ?_
 exact Constant_none (is_none_gen ⟨.bl _,H1,I1,by rw[r1.zA8];rfl,q1⟩)
def xN3{j pos'}(ha:PE X a ta):PC X .IsNot a (.Constant .none j pos') (tNotN ta):=by
 intro DI s σ H Q I h
 refine thn (ha DI s σ H _ I h) fun v s1 ⟨x,H1,I1,r1,q1⟩ => ?_
 exact Constant_none (isnot_none_gen ⟨.bl _,H1,I1,by rw[r1.zA8];rfl,q1⟩)
def tB(t:TE):TT:=fun σ H Q=>t σ H fun x H1=>∃c,x=.bl c/\Q c H1
def yZ2{op:CmpOp}{t:TE}(h:PC X op a b t)(h1:autoParam (behindInMarks op b=false) wZ9._auto_1):PT X (.Compare a [op] [b] pos) (tB t):=by
 intro DI s σ H Q I hw
 refine wpAny_isTrue_Compare1 (thn (h DI s σ H _ I hw) fun v s1 h1=>thn h1 fun u s2 h2=>thn h2 fun c s3 ⟨x,H1,I1,r1,q1⟩ => ?_) h1
 obtain⟨d,rfl,q⟩:=q1
 cases r1
 exact wpAny_truthy_bool ⟨H1,I1,q⟩
def zR1{e:Expr}{t:TE}(h:PE X e t)(he:autoParam (∀whole,isTrue e X.env whole=(do let v <-whole;standAt e.pos;holding [v] (truthy v))) DF):PT X e (tB t):=by
 intro DI s σ H Q I hw
 refine isTrue_plain (thn (h DI s σ H _ I hw) fun v s1 ⟨x,H1,I1,r1,q1⟩ => ?_) (he _)
 obtain⟨d,rfl,q⟩:=q1
 cases r1
 exact wpAny_truthy_bool ⟨H1,I1,q⟩
variable {tA tB':TT}{rest:List Expr}
def tAnd(t u:TT):TT:=fun σ H Q=>t σ H fun c H1=>if c=true then u σ H1 Q else Q false H1
def tOr(t u:TT):TT:=fun σ H Q=>t σ H fun c H1=>if c=true then Q true H1 else u σ H1 Q
def tNot(t:TT):TT:=fun σ H Q=>t σ H fun c H1=>Q (!c) H1
def pw_and1(ha:PT X a tA):PW X (.BoolOp .And [a] pos) tA:=by
 intro wh DI s σ H Q I h
 refine isTrue_and (thn (ha DI s σ H Q I h) fun c s1 e => ?_)
 cases c with
 | true=>exact isTrue_and_nil e
 | false=>exact e
def pw_or1(ha:PT X a tA):PW X (.BoolOp .Or [a] pos) tA:=by
 intro wh DI s σ H Q I h
 refine isTrue_or (thn (ha DI s σ H Q I h) fun c s1 e => ?_)
 cases c with
 | false=>exact isTrue_or_nil e
 | true=>exact e
def pw_and(ha:PT X a tA)(hb:PW X (.BoolOp .And (b::rest) pos) tB'):PW X (.BoolOp .And (a::b::rest) pos) (tAnd tA tB'):=by
 intro wh DI s σ H Q I h
 refine isTrue_and (thn (ha DI s σ H _ I h) fun c s1 ⟨H1,I1,q1⟩ => ?_)
 cases c with
 | true=>exact hb wh DI s1 σ H1 Q I1 q1
 | false=>exact⟨H1,I1,q1⟩
def pw_or(ha:PT X a tA)(hb:PW X (.BoolOp .Or (b::rest) pos) tB'):PW X (.BoolOp .Or (a::b::rest) pos) (tOr tA tB'):=by
 intro wh DI s σ H Q I h
 refine isTrue_or (thn (ha DI s σ H _ I h) fun c s1 ⟨H1,I1,q1⟩ => ?_)
 cases c with
 | true=>exact⟨H1,I1,q1⟩
 | false=>exact hb wh DI s1 σ H1 Q I1 q1
def yG9(ha:PT X a tA):PT X (.UnaryOp .Not a pos) (tNot tA):=by
 intro DI s σ H Q I h
 exact isTrue_not (ha DI s σ H (fun c H1=>Q (!c) H1) I h)
def tAndV(ta tb:TE):TE:=fun σ H Q=>ta σ H fun x H1=>∃c,x=.bl c/\if c=true then tb σ H1 Q else Q (.bl false) H1
def xF9{op}{t:TE}(h:PE X a t):PE X (.BoolOp op [a] pos) t:=fun DI s σ H Q I hw=>BoolOp_one (h DI s σ H Q I hw)
def xA8(ha:PE X a ta)(hb:PE X (.BoolOp .And (b::rest) pos) tb):PE X (.BoolOp .And (a::b::rest) pos) (tAndV ta tb):=by
 intro DI s σ H Q I h
 refine BoolOp_and (thn (ha DI s σ H _ I h) fun v s1 ⟨x,H1,I1,r1,q1⟩ => ?_)
 obtain⟨c,rfl,q1⟩:=q1
 cases r1
 refine wpAny_truthy_bool ?_
 cases c with
 | true=>exact hb DI s1 σ H1 Q I1 q1
 | false=>exact⟨.bl false,H1,I1,rfl,q1⟩
def tIf(t:TT)(ta tb:TE):TE:=fun σ H Q=>t σ H fun c H1=>if c=true then ta σ H1 Q else tb σ H1 Q
def xX6{c:Expr}(hc:PT X c tA)(ha:PE X a ta)(hb:PE X b tb):PE X (.IfExp c a b pos) (tIf tA ta tb):=by
 intro DI s σ H Q I h
 refine wpAny_IfExp (thn (hc DI s σ H _ I h) fun d s1 ⟨H1,I1,q1⟩ => ?_)
 cases d with
 | true=>exact ha DI s1 σ H1 Q I1 q1
 | false=>exact hb DI s1 σ H1 Q I1 q1
end
def SqL(K:KFr)(H:Hp)(a:Addr)(xs:List V):Prop :=
 Rd H a (.lst xs) \/
  ∃(o:Obj) (its:Array Value) (n:Nat),K.lookup a=some o/\o.cls=.type "list"/\o.dict=none/\o.data=.seq its n/\its.size<=sizeLine/\Vals xs its.toList
def SqT(K:KFr)(H:Hp)(a:Addr)(xs:List V):Prop :=
 Rd H a (.tup xs) \/
  ∃(o:Obj) (its:Array Value) (n:Nat),K.lookup a=some o/\o.cls=.type "tuple"/\o.data=.seq its n/\its.size<=sizeLine/\Vals xs its.toList
def absV:Value->Option V
 | .none=>some .non
 | .bool b=>some (.bl b)
 | .int i _=>some (.int i)
 | .str x _=>some (.str x)
 | .bytes b _=>some (.byt b)
 | .float b _=>some (.flt b)
 | .ref a=>some (.ref a)
 | .type n=>some (.ty n)
 | _=>none
def RelV.abs{x:V}{u:Value}(r:RelV x u):absV u=some x:=by
 cases x with
 | non=>cases r;rfl
 | bl _=>cases r;rfl
 | int _=>obtain⟨t,rfl⟩:=r;rfl
 | str _=>obtain⟨t,rfl⟩:=r;rfl
 | byt _=>obtain⟨t,rfl⟩:=r;rfl
 | flt _=>obtain⟨t,rfl⟩:=r;rfl
 | ref _=>cases r;rfl
 | ty _=>cases r;rfl
def RelV.inj{x y:V}{u:Value}(r:RelV x u)(q:RelV y u):x=y:=AW (r.abs.symm.trans q.abs)
def Vals.inj:∀{xs ys:List V}{us:List Value},Vals xs us->Vals ys us->xs=ys
 | _,_,_,.nil,.nil=>rfl
 | _,_,_,.cons r t,.cons r' t'=>by rw[r.inj r',Vals.inj t t']
section
variable {X:Cx}{DI:List (Addr×Obj)}{σ:St}{H:Hp}{s:Shared}{a:Addr}{xs ys:List V}
def SqL.of{K:KFr}(h:H a=some (.lst xs)):SqL K H a xs:=.inl (.inl h)
def SqT.of{K:KFr}(h:H a=some (.tup xs)):SqT K H a xs:=.inl (.inl h)
def Inv.list(I:Inv X DI σ H s)(h:SqL X.K H a xs):∃its:List Value,Vals xs its/\PlainL s.heap a its.toArray/\xs.length<=sizeLine:=by
 rcases h with h | ⟨o,its,n,hk,hc,hd,hs,hz,r⟩
 ·obtain⟨z,its,n,r,e⟩:=h.ok I.hok
  exact⟨its,r,⟨_,n,e,rfl,rfl,rfl⟩,z⟩
 ·refine⟨its.toList,r,⟨o,n,I.kIn a o hk,hc,hd,by simpa using hs⟩,?_⟩
  have e:=r.length
  simp only[BX] at e
  rfl'
def Inv.tuple(I:Inv X DI σ H s)(h:SqT X.K H a xs):∃its:List Value,Vals xs its/\IsTup s.heap a its.toArray/\xs.length<=sizeLine:=by
 rcases h with h | ⟨o,its,n,hk,hc,hs,hz,r⟩
 ·obtain⟨z,its,r,p⟩:=h.ok I.hok
  exact⟨its,r,p.tup,z⟩
 ·refine⟨its.toList,r,⟨o,I.kIn a o hk,hc,n,by simpa using hs⟩,?_⟩
  have e:=r.length
  simp only[BX] at e
  rfl'
def Inv.zB2(I:Inv X DI σ H s)(h:SqL X.K H a xs)(h':SqL X.K H a ys):xs=ys:=by
 obtain⟨its,r,⟨o,n,e,_,_,d⟩,_⟩:=I.list h
 obtain⟨its',r',⟨o',n',e',_,_,d'⟩,_⟩:=I.list h'
 rw[e] at e';cases e'
 rw[d] at d'
 injection d' with d1 _
 have:its=its':=by simpa using Bw Array.toList d1
 subst this
 exact r.inj r'
def Inv.zK8(I:Inv X DI σ H s)(h:SqT X.K H a xs)(h':SqT X.K H a ys):xs=ys:=by
 obtain⟨its,r,⟨o,e,_,n,d⟩,_⟩:=I.tuple h
 obtain⟨its',r',⟨o',e',_,n',d'⟩,_⟩:=I.tuple h'
 rw[e] at e';cases e'
 rw[d] at d'
 injection d' with d1 _
 have:its=its':=by simpa using Bw Array.toList d1
 subst this
 exact r.inj r'
end
abbrev Cx.wish(X:Cx)(E:Value->Shared->Prop):Cx:={ X with xe:=E }
abbrev Cx.nox(X:Cx):Cx:=X.wish fun _ _=>False
def Cx.Ok.wish{X:Cx}(ok:X.Ok)(E:Value->Shared->Prop):(X.wish E).Ok :=
 ⟨ok.mod,ok.kind,ok.glob,ok.blt,ok.above,ok.inj,ok.has,ok.cab,ok.hd,ok.frames,ok.stk,ok.exf,ok.bs,ok.bsz,ok.noex,ok.exfs,ok.funs,ok.frf,ok.tb⟩
def Cx.Ok.unwish{X:Cx}{E:Value->Shared->Prop}(ok:(X.wish E).Ok):X.Ok :=
 ⟨ok.mod,ok.kind,ok.glob,ok.blt,ok.above,ok.inj,ok.has,ok.cab,ok.hd,ok.frames,ok.stk,ok.exf,ok.bs,ok.bsz,ok.noex,ok.exfs,ok.funs,ok.frf,ok.tb⟩
section
variable {X:Cx}{DI:List (Addr×Obj)}{σ:St}{H:Hp}{s:Shared}{E:Value->Shared->Prop}
def Inv.wish(I:Inv X DI σ H s)(E:Value->Shared->Prop):Inv (X.wish E) DI σ H s:=⟨I.ok.wish E,I.os,I.bare,I.base,I.loc,I.cell,I.free,I.freeC,I.pin,I.hok,I.len⟩
def Inv.unwish(I:Inv (X.wish E) DI σ H s):Inv X DI σ H s:=⟨I.ok.unwish,I.os,I.bare,I.base,I.loc,I.cell,I.free,I.freeC,I.pin,I.hok,I.len⟩
def SP.unwish{D:Ends}{f:Flow}{s':Shared}(h:SP (X.wish E) DI D f s'):SP X DI D f s':=by
 cases f with
 | next=>obtain⟨σ',H',I,q⟩:=h;exact⟨σ',H',I.unwish,q⟩
 | brk=>obtain⟨σ',H',I,q⟩:=h;exact⟨σ',H',I.unwish,q⟩
 | cont=>obtain⟨σ',H',I,q⟩:=h;exact⟨σ',H',I.unwish,q⟩
 | ret u=>obtain⟨v,σ',H',I,r,q⟩:=h;exact⟨v,σ',H',I.unwish,r,q⟩
def PSs.nox{st:List Stmt}{t:TS}(h:PSs X.nox st t):PSs X st t:=fun DI s σ H D I hw =>
 wpAny_mono (h DI s σ H D (I.wish _) hw) (fun _ _ q=>q.unwish) fun _ _ z=>False.elim z
end
section
variable {X:Cx}{st:Stmt}{rest:List Stmt}{t u:TS}{e:Expr}{te:TE}{pos:Pos}
def tNext:TS:=fun D σ H=>D.nx σ H
def tSeq(t u:TS):TS:=fun D σ H=>t { D with nx:=u D } σ H
def uB:PSs X [] tNext:=fun _ _ σ H _ I h=>wpAny_execs_nil ⟨σ,H,I,h⟩
def zG(h1:PS X st t)(h2:PSs X rest u):PSs X (st::rest) (tSeq t u):=by
 intro DI s σ H D I h
 refine wpAny_execs_cons (thn (h1 DI s σ H { D with nx:=u D } I h) fun f s1 q => ?_)
 cases f with
 | next =>
  obtain⟨σ',H',I',q⟩:=q
  exact h2 DI s1 σ' H' D I' q
 | ret v=>exact q
 | brk=>exact q
 | cont=>exact q
def yV(h1:PS X st t):PSs X [st] t:=by
 intro DI s σ H D I h
 refine wpAny_execs_cons (thn (h1 DI s σ H D I h) fun f s1 q => ?_)
 cases f with
 | next=>exact wpAny_execs_nil q
 | ret v=>exact q
 | brk=>exact q
 | cont=>exact q
def Inv.quiet{DI:List (Addr×Obj)}{σ:St}{H:Hp}{s:Shared}(I:Inv X DI σ H s):interactive X.env=false:=by simp[interactive,I.ok.kind]
def tDrop(te:TE):TS:=fun D σ H=>te σ H fun _ H1=>D.nx σ H1
def wR(he:PE X e te)(hs:autoParam (swapsWith e none pos.line X.env=pure false) DH):PS X (.Expr e pos) (tDrop te):=by
 intro DI s σ H D I h
 exact wpAny_Expr_any (thn (he DI s σ H _ I h) fun v s1 ⟨x,H1,I1,r1,q1⟩=>⟨σ,H1,I1,q1⟩) I.quiet hs
def tRet(te:TE):TS:=fun D σ H=>te σ H D.rt
def wS(he:PE X e te):PS X (.Return (some e) pos) (tRet te):=by
 intro DI s σ H D I h
 exact wpAny_Return_some (thn (he DI s σ H _ I h) fun v s1 ⟨x,H1,I1,r1,q1⟩=>⟨x,σ,H1,I1,r1,q1⟩)
def tIfS(c:TT)(t u:TS):TS:=fun D σ H=>c σ H fun b H1=>if b=true then t D σ H1 else u D σ H1
def kJ{c:Expr}{a b:List Stmt}{tc:TT}(hc:PT X c tc)(ha:PSs X a t)(hb:PSs X b u):PS X (.If c a b pos) (tIfS tc t u):=by
 intro DI s σ H D I h
 refine wpAny_If (thn (hc DI s σ H _ I h) fun d s1 ⟨H1,I1,q1⟩ => ?_)
 cases d with
 | true=>exact ha DI s1 σ H1 D I1 q1
 | false=>exact hb DI s1 σ H1 D I1 q1
def tNever:TS:=fun _ _ _=>False
def zB8:PS X st tNever:=fun _ _ _ _ _ _ h=>h.elim
end
abbrev TG:=V->St->Hp->(St->Hp->Prop)->Prop
abbrev TGs:=List V->St->Hp->(St->Hp->Prop)->Prop
def PG(X:Cx)(target:Expr)(t:TG):Prop :=
 ∀(DI:List (Addr×Obj)) (s:Shared) (σ:St) (H:Hp) (v:V) (u:Value) (Q:St->Hp->Prop),Inv X DI σ H s->RelV v u->t v σ H Q ->
  wpAny (model X.prog X.w) X.A (assign target X.env u) (fun _ s'=>∃σ' H',Inv X DI σ' H' s'/\Q σ' H') X.xe s
def PGs(X:Cx)(ts:List Expr)(t:TGs):Prop :=
 ∀(DI:List (Addr×Obj)) (s:Shared) (σ:St) (H:Hp) (vs:List V) (us:List Value) (Q:St->Hp->Prop),Inv X DI σ H s->Vals vs us->t vs σ H Q ->
  wpAny (model X.prog X.w) X.A (assignInOrder ((assignEach ts X.env).map (·.2)) us) (fun _ s'=>∃σ' H',Inv X DI σ' H' s'/\Q σ' H') X.xe s
abbrev TSet:=V->V->V->Hp->(Hp->Prop)->Prop
def PSet(X:Cx)(t:TSet):Prop :=
 ∀(DI:List (Addr×Obj)) (s:Shared) (σ:St) (H:Hp) (o i v:V) (ov iv u:Value) (Q:Hp->Prop),Inv X DI σ H s->RelV o ov->RelV i iv->RelV v u->t o i v H Q ->
  wpAny (model X.prog X.w) X.A (setItem ov iv u) (fun _ s'=>∃H',Inv X DI σ H' s'/\Q H') X.xe s
section
variable {X:Cx}{pos:Pos}
def gName(i:Nat):TG:=fun v σ H Q=>Q (σ.set i (some v)) H
def vA{i:Nat}{x:Str}(hN:X.N.Nodup)(hi:X.N[i]?=some x)(hx:Loc X.env.scope x)(hf:autoParam (X.fn x=true\/X.env.scope.names.lookup x=some .local) DD):PG X (.Name x pos) (gName i):=by
 intro DI s σ H v u Q I r h
 exact wpAny_assign_Name (cY I hN hi hx r (fun s' I'=>⟨_,H,I',h⟩) hf)
def gNil:TGs:=fun vs σ H Q=>vs=[]/\Q σ H
def gCons(t:TG)(u:TGs):TGs:=fun vs σ H Q=>∃v r,vs=v::r/\t v σ H fun σ' H'=>u r σ' H' Q
def zO5:PGs X [] gNil:=by
 intro DI s σ H vs us Q I r h
 obtain⟨e,h⟩:=h
 subst e
 cases r
 exact assignInOrder_nil ⟨σ,H,I,h⟩
def gM{e:Expr}{es:List Expr}{t:TG}{u:TGs}(h1:PG X e t)(h2:PGs X es u)
  (hs:autoParam ((assignEach (e::es) X.env).map (·.2)=assign e X.env::(assignEach es X.env).map (·.2)) DH):PGs X (e::es) (gCons t u):=by
 intro DI s σ H vs us Q I r h
 obtain⟨v,vr,e1,h⟩:=h
 subst e1
 cases r with
 | cons r rr =>
  rw[hs]
  refine assignInOrder_cons (thn (h1 DI s σ H _ _ _ I r h) fun _ s1 ⟨σ1,H1,I1,q1⟩ => ?_)
  exact h2 DI s1 σ1 H1 _ _ Q I1 rr q1
def gTup(K:KFr)(n:Nat)(t:TGs):TG:=fun v σ H Q=>∃a xs,v=.ref a/\SqT K H a xs/\xs.length=n/\t xs σ H Q
def yZ1{es:List Expr}{k:Nat}{t:TGs}{n:Nat}(hc:X.calm=true)(h:PGs X es t)
  (hn:autoParam ((assignEach es X.env).length=n) DH) (hst:autoParam ((assignEach es X.env).findIdx? (·.1)=none) DH):PG X (.Tuple es k pos) (gTup X.K n t):=by
 intro DI s σ H v u Q I r hw
 obtain⟨a,xs,e1,hq,hl,hw⟩:=hw
 subst e1
 cases r
 obtain⟨its,rv,ht,hz⟩:=I.tuple hq
 refine assign_Tuple_tuple (I.ok.hd hc) ht (by simp[hn,<-hl,rv.length]) hst fun h' hx => ?_
 have I1:Inv X DI σ H { s with heap:=h' }:=I.kept (t':=s.toks) fun b o e=>hx b o (AL (Ap e)) e
 exact h DI _ σ H xs _ Q I1 (by simpa using rv) hw
def gSub(to ti:TE)(t:TSet):TG:=fun v σ H Q=>to σ H fun o H1=>ti σ H1 fun i H2=>t o i v H2 fun H3=>Q σ H3
def zF9{o i:Expr}{to ti:TE}{t:TSet}(ho:PE X o to)(hi:PE X i ti)(hs:PSet X t)
  (ha:∀v,assign (.Subscript o i pos) X.env v=(do
   let ov <-holding [v] (eval o X.env)
   let iv <-holding [v,ov] (eval i X.env)
   standAt pos
   holding [v,ov,iv] (setItem ov iv v)
   release [v,ov,iv] []):=by intro _;rfl):PG X (.Subscript o i pos) (gSub to ti t):=by
 intro DI s σ H v u Q I r h
 rw[ha]
 refine Ah (wpAny_holding (thn (ho DI s σ H _ I h) fun ov s1 ⟨x,H1,I1,r1,q1⟩ => ?_))
 refine Ah (wpAny_holding (thn (hi DI s1 σ H1 _ I1 q1) fun iv s2 ⟨y,H2,I2,r2,q2⟩ => ?_))
 refine Ah (wpAny_standAt (Ah (wpAny_holding (thn (hs DI s2 σ H2 x y v ov iv u _ I2 r1 r2 r q2) fun _ s3 ⟨H3,I3,q3⟩ => ?_))))
 exact wpAny_release ⟨σ,H3,I3,q3⟩
def tAsg(te:TE)(g:TG):TS:=fun D σ H=>te σ H fun x H1=>g x σ H1 D.nx
def zV2{tg e:Expr}{te:TE}{g:TG}(he:PE X e te)(hg:PG X tg g)(hs:autoParam (swapsWithSole [tg] e pos.line X.env=pure false) DH)(hw:autoParam (swappedStores [tg] e X.env=pure none) DH)
  (h1:autoParam ((assignEach [tg] X.env).map (·.2)=[assign tg X.env]) DH):PS X (.Assign [tg] e pos) (tAsg te g):=by
 intro DI s σ H D I h
 refine wpAny_Assign_stores (thn (he DI s σ H _ I h) fun v s1 ⟨x,H1,I1,r1,q1⟩ => ?_) hs hw
 rw[h1]
 exact thn (hg DI s1 σ H1 x v _ I1 r1 q1) fun _ s2 q=>q
def yX{i:Nat}{x:Str}{e:Expr}{te:TE}{pos':Pos}(hN:X.N.Nodup)(hi:X.N[i]?=some x)(hx:Loc X.env.scope x)(he:PE X e te)(hs:autoParam (swapsWith e (some (.Name x pos')) pos.line X.env=pure false) DH)(hf:autoParam (X.fn x=true\/X.env.scope.names.lookup x=some .local) DD) :
  PS X (.Assign [.Name x pos'] e pos) (tAsg te (gName i)):=by
 intro DI s σ H D I h
 refine wpAny_Assign_Name (thn (he DI s σ H _ I h) fun v s1 ⟨y,H1,I1,r1,q1⟩ => ?_) hs
 exact cY I1 hN hi hx r1 (fun s2 I2=>⟨_,H1,I2,q1⟩) hf
def tWhile(c:TT)(tb:TS):TS:=fun D σ H=>∃W:Nat->St->Hp->Prop,(∃m,W m σ H)/\∀m σ H,W m σ H ->
 c σ H fun b H1=>if b=true then ∃N:St->Hp->Prop,(∀σ' H',N σ' H'->∃m',m'<m/\W m' σ' H')/\tb { D with nx:=N,ct:=N,bk:=D.nx } σ H1 else D.nx σ H1
def qK{c:Expr}{body:List Stmt}{tc:TT}{tb:TS}(hp:PassesOwn (model X.prog X.w) X.A X.env X.xe)(hc:PT X c tc)(hb:PSs X body tb):PS X (.While c body [] pos) (tWhile tc tb):=by
 intro DI s σ H D I h
 obtain⟨W,⟨m0,w0⟩,turn⟩:=h
 refine wpAny_While (codeAny_whileLoop (fun n s'=>∃σ' H',Inv X DI σ' H' s'/\W n σ' H') ?_ m0 ⟨σ,H,I,w0⟩)
 rintro n s1 ⟨σ1,H1,I1,w1⟩
 refine wpAny_passesOwn hp (thn (hc DI s1 σ1 H1 _ I1 (turn n σ1 H1 w1)) fun b s2 ⟨H2,I2,q2⟩ => ?_)
 cases b with
 | true =>
  obtain⟨N,hN,q2⟩:=q2
  rw[Aq rfl]
  refine wpAny_passesOwn hp (thn (hb DI s2 σ1 H2 _ I2 q2) fun f s3 q3 => ?_)
  cases f with
  | next =>
   obtain⟨σ3,H3,I3,n3⟩:=q3
   obtain⟨m',hm,w3⟩:=hN σ3 H3 n3
   exact⟨m',hm,σ3,H3,I3,w3⟩
  | cont =>
   obtain⟨σ3,H3,I3,n3⟩:=q3
   obtain⟨m',hm,w3⟩:=hN σ3 H3 n3
   exact⟨m',hm,σ3,H3,I3,w3⟩
  | brk=>exact q3
  | ret v=>exact q3
 | false =>
  rw[AJ AK]
  exact wpAny_execs_nil ⟨σ1,H2,I2,q2⟩
end
structure It where
 go:Nat->Hp->Prop
 yld:Nat->Hp->V->Hp->Prop
 stop:Nat->Hp->Prop
def FpOk(X:Cx)(DI:List (Addr×Obj))(H:Hp)(b:Addr):Prop :=
 H b=none/\b≠X.env.locals/\b∉X.fs/\(b∈X.ex\/X.s₀.heap.objs.size<=b)/\(∀x c,X.env.cells.lookup x=some c->c≠b)/\∀p∈X.pn++DI,p.1≠b
def Inv.fpOk{X:Cx}{DI:List (Addr×Obj)}{σ:St}{H H':Hp}{s:Shared}{b:Addr}(I:Inv X DI σ H s)(hb:s.heap.objs.size<=b)(hn:H' b=none):FpOk X DI H' b:=by
 refine⟨hn,BZ (Au I.lt hb),I.nofs hb,.inr (Bf I.sz hb),fun x c e z => ?_,fun p hp z => ?_⟩
 ·obtain⟨v,q⟩:=I.cell x c e
  exact absurd (Au q.lt (by rw[z];exact hb)) (Ca _)
 ·exact absurd (Au (Ap (I.pin p hp).1) (by rw[z];exact hb)) (Ca _)
structure Turn(P:Program)(w:World)(K:KFr)(tg:Expr)(J:It)(fp:List Addr)(it:Addr)(tn:Nat->Heap->Prop):Prop where
 mem:it∈fp
 obj:∀i h,tn i h->∀b∈fp,∃o,h.get? b=some o/\∀v,o.data ≠ .cell v
 keep:∀i h h',tn i h->(∀b∈fp,∀o,h.get? b=some o->h'.get? b=some o)->tn i h'
 item:∀(X:Cx),X.prog=P->X.w=w->X.K=K->X.calm=true->∀(i:Nat) (DI:List (Addr×Obj)) (s:Shared) (σ:St) (H:Hp) (E:Value->Shared->Prop),Inv X DI σ H s->(∀b∈fp,FpOk X DI H b)->tn i s.heap->J.go i H ->
  wpAny (model P w) X.A (pyNext (.ref it)) (fun r s1=>∃u,r=some u /\
   wpAny (model P w) X.A (letOwnedTupleGo tg (.ref it) u) (fun _ s2=>∃x H',Inv X DI σ H' s2/\RelV x u/\J.yld i H x H'/\tn (i+1) s2.heap/\∀b∈fp,H' b=none) E s1) E s
 done:∀(X:Cx),X.prog=P->X.w=w->X.K=K->X.calm=true->∀(i:Nat) (DI:List (Addr×Obj)) (s:Shared) (σ:St) (H:Hp) (E:Value->Shared->Prop),Inv X DI σ H s->(∀b∈fp,FpOk X DI H b)->tn i s.heap->J.stop i H ->
  wpAny (model P w) X.A (pyNext (.ref it)) (fun r s1=>r=none/\Inv X DI σ H s1) E s
 self:∀(A:Around) (i:Nat) (s:Shared) (Q:Value->Shared->Prop) (E:Value->Shared->Prop),tn i s.heap->Q (.ref it) s->wpAny (model P w) A (pyIter (.ref it)) Q E s
abbrev TI:=St->Hp->(It->Hp->Prop)->Prop
def PIE(X:Cx)(DI:List (Addr×Obj))(σ:St)(tg:Expr)(R:It->Hp->Prop)(itv:Value)(s2:Shared):Prop :=
 ∃(it:Addr) (fp:List Addr) (tn:Nat->Heap->Prop) (J:It) (H':Hp),itv=.ref it/\Inv X DI σ H' s2/\Turn X.prog X.w X.K tg J fp it tn/\tn 0 s2.heap/\(∀b∈fp,FpOk X DI H' b)/\R J H'
def PI(X:Cx)(tg iter:Expr)(wi:TI):Prop :=
 ∀(DI:List (Addr×Obj)) (s:Shared) (σ:St) (H:Hp) (R:It->Hp->Prop),Inv X DI σ H s->wi σ H R ->
  wpAny (model X.prog X.w) X.A (eval iter X.env) (fun v s1=>wpAny (model X.prog X.w) X.A (pyIter v) (PIE X DI σ tg R) X.xe s1) X.xe s
def yP9{M:Model}{A:Around}{E:Value->Shared->Prop}{s:Shared}{tg:Expr}{it:Addr}{u:Value}{o:Obj}{n:String}{vs:Array Value}{Q:Unit->Shared->Prop}(ho:s.heap.get? it=some o)(hc:o.cls=.type n)(hd:o.data=.fields vs)
  (hn:["enumerate","zip","dict_itemiterator","dict_reverseitemiterator","odict_iterator","itertools.zip_longest","itertools.pairwise"].contains n=false) (hQ:Q () s):wpAny M A (letOwnedTupleGo tg (.ref it) u) Q E s:=by
 unfold letOwnedTupleGo
 cases tg <;> first
  | exact Ax hQ
  | (cases u <;> first
    | exact Ax hQ
    | (refine Ah (wpAny_load ho ?_)
       rw[hc,hd]
       show wpAny M A (if (["enumerate","zip","dict_itemiterator","dict_reverseitemiterator","odict_iterator","itertools.zip_longest","itertools.pairwise"].contains n&&vs[0]? == some (rawInt _))=true then _ else _) Q E s
       rw[AJ (by intro h;rw[hn,Bool.false_and] at h;cases h)]
       exact Ax hQ))
def Itl(K:KFr)(a:Addr):It :=
 ⟨fun i H=>∃xs x,SqL K H a xs/\xs[i]?=some x,fun i H x H'=>H'=H/\∀xs,SqL K H a xs->xs[i]?=some x,fun i H=>∃xs,SqL K H a xs/\xs.length<=i⟩
def Itt(K:KFr)(a:Addr):It :=
 ⟨fun i H=>∃xs x,SqT K H a xs/\xs[i]?=some x,fun i H x H'=>H'=H/\∀xs,SqT K H a xs->xs[i]?=some x,fun i H=>∃xs,SqT K H a xs/\xs.length<=i⟩
def Itr(lo:Int)(n:Nat):It:=⟨fun i _=>i<n,fun i H x H'=>H'=H/\x=.int (lo+i),fun i _=>n<=i⟩
def zM7{P:Program}{w:World}{K:KFr}{tg:Expr}(a it:Addr):Turn P w K tg (Itl K a) [it] it (fun i h=>h.IsListIter it a i) where
 mem:=by simp
 obj:=fun i h st b hb=>by
  have e:b=it:=by simpa using hb
  subst e
  obtain⟨o,e,c,d⟩:=st
  exact⟨o,e,fun v z=>by rw[d] at z;cases z⟩
 keep:=fun i h h' st k=>st.at fun o e=>k it (by simp) o e
 item:=by
  intro X hP hw hK hc i DI s σ H E I hf st hg
  subst hP hw hK
  obtain⟨xs,x,hq,hx⟩:=hg
  obtain⟨its,rv,p,hz⟩:=I.list hq
  obtain⟨u,hu,ru⟩:=rv.get hx
  obtain⟨f0,f1,f2,f3,f4,f5⟩:=hf it (by simp)
  refine wpAny_pyNext_list_item st p.isList (x:=u) (by simpa using hu) fun h' st' sb => ?_
  have I1:Inv X DI σ H { s with heap:=h' }:=I.turned (t':=s.toks) (fun b o hb e=>(sb.2 b hb).trans e) f0 f1 f3 f4 f5
  obtain⟨o,e,c,d⟩:=id st'
  exact⟨u,rfl,yP9 (s:={ s with heap:=h' }) e c d (by decide) ⟨x,H,I1,ru,⟨rfl,fun ys hy=>by rw[I.zB2 hy hq];exact hx⟩,st',fun b hb=>(hf b hb).1⟩⟩
 done:=by
  intro X hP hw hK hc i DI s σ H E I hf st hg
  subst hP hw hK
  obtain⟨xs,hq,hx⟩:=hg
  obtain⟨its,rv,p,hz⟩:=I.list hq
  obtain⟨f0,f1,f2,f3,f4,f5⟩:=hf it (by simp)
  have hl:=rv.length
  exact wpAny_pyNext_list_end (I.ok.hd hc) st p.isList (by simp;rfl') fun h' eb=>⟨rfl,I.turned (t':=s.toks) (fun b o hb e=>eb b o hb e) f0 f1 f3 f4 f5⟩
 self:=fun _ _ _ _ _ st h=>wpAny_pyIter_listiter st h
def zU5{P:Program}{w:World}{K:KFr}{tg:Expr}(a it:Addr):Turn P w K tg (Itt K a) [it] it (fun i h=>h.IsTupleIter it a i) where
 mem:=by simp
 obj:=fun i h st b hb=>by
  have e:b=it:=by simpa using hb
  subst e
  obtain⟨o,e,c,d⟩:=st
  exact⟨o,e,fun v z=>by rw[d] at z;cases z⟩
 keep:=fun i h h' st k=>st.at fun o e=>k it (by simp) o e
 item:=by
  intro X hP hw hK hc i DI s σ H E I hf st hg
  subst hP hw hK
  obtain⟨xs,x,hq,hx⟩:=hg
  obtain⟨its,rv,p,hz⟩:=I.tuple hq
  obtain⟨u,hu,ru⟩:=rv.get hx
  obtain⟨f0,f1,f2,f3,f4,f5⟩:=hf it (by simp)
  refine wpAny_pyNext_tuple_item st (show s.heap.IsTuple a its.toArray from p) (x:=u) (by simpa using hu) fun h' st' sb => ?_
  have I1:Inv X DI σ H { s with heap:=h' }:=I.turned (t':=s.toks) (fun b o hb e=>(sb.2 b hb).trans e) f0 f1 f3 f4 f5
  obtain⟨o,e,c,d⟩:=id st'
  exact⟨u,rfl,yP9 (s:={ s with heap:=h' }) e c d (by decide) ⟨x,H,I1,ru,⟨rfl,fun ys hy=>by rw[I.zK8 hy hq];exact hx⟩,st',fun b hb=>(hf b hb).1⟩⟩
 done:=by
  intro X hP hw hK hc i DI s σ H E I hf st hg
  subst hP hw hK
  obtain⟨xs,hq,hx⟩:=hg
  obtain⟨its,rv,p,hz⟩:=I.tuple hq
  obtain⟨f0,f1,f2,f3,f4,f5⟩:=hf it (by simp)
  have hl:=rv.length
  exact wpAny_pyNext_tuple_end (I.ok.hd hc) st (show s.heap.IsTuple a its.toArray from p) (by simp;rfl') fun h' eb=>⟨rfl,I.turned (t':=s.toks) (fun b o hb e=>eb b o hb e) f0 f1 f3 f4 f5⟩
 self:=fun _ _ _ _ _ st h=>wpAny_pyIter_tupleiter st h
def yN1{P:Program}{w:World}{K:KFr}{tg:Expr}(it:Addr)(lo:Int)(n:Nat):Turn P w K tg (Itr lo n) [it] it (fun i h=>IsRangeIter h it (lo+(i:Nat)*1) ((n:Int)-(i:Nat)) 1) where
 mem:=by simp
 obj:=fun i h st b hb=>by
  have e:b=it:=by simpa using hb
  subst e
  exact⟨_,st,fun v z=>by
   have z':Data.fields _=Data.cell v:=z
   cases z'⟩
 keep:=fun i h h' st k=>k it (by simp) _ st
 item:=by
  intro X hP hw hK hc i DI s σ H E I hf st hg
  subst hP hw hK
  obtain⟨f0,f1,f2,f3,f4,f5⟩:=hf it (by simp)
  have W:=Walks.range (prog:=X.prog) (w:=X.w) (I.ok.hd hc) it lo 1 n
  refine W.item i s _ _ hg st fun v h' tk hv st' kk => ?_
  obtain⟨t,rfl⟩:=hv
  have I1:Inv X DI σ H { s with heap:=h',toks:=tk }:=I.turned (fun b o hb e=>kk b o (by simpa using hb) e) f0 f1 f3 f4 f5
  refine⟨_,rfl,yP9 (s:={ s with heap:=h',toks:=tk }) (n:="range_iterator") st' rfl rfl (by decide) ⟨.int (lo+i),H,I1,⟨t,?_⟩,⟨rfl,rfl⟩,st',fun b hb=>(hf b hb).1⟩⟩
  rw[Int.mul_one]
 done:=by
  intro X hP hw hK hc i DI s σ H E I hf st hg
  subst hP hw hK
  obtain⟨f0,f1,f2,f3,f4,f5⟩:=hf it (by simp)
  exact wpAny_pyNext_range_end (I.ok.hd hc) st (by have:n<=i:=hg;rfl') fun h' eb=>⟨rfl,I.turned (t':=s.toks) (fun b o hb e=>eb b o hb e) f0 f1 f3 f4 f5⟩
 self:=fun _ _ _ _ _ st h=>wpAny_pyIter_rangeiter st h
section
variable {X:Cx}{tg:Expr}
def iList(K:KFr)(tl:TE):TI:=fun σ H R=>tl σ H fun x H1=>∃a,x=.ref a/\(∃xs,SqL K H1 a xs)/\R (Itl K a) H1
def iTup(K:KFr)(tl:TE):TI:=fun σ H R=>tl σ H fun x H1=>∃a,x=.ref a/\(∃xs,SqT K H1 a xs)/\R (Itt K a) H1
def xK9{l:Expr}{tl:TE}(hl:PE X l tl):PI X tg l (iList X.K tl):=by
 intro DI s σ H R I h
 refine thn (hl DI s σ H _ I h) fun v s1 ⟨x,H1,I1,r1,q1⟩ => ?_
 obtain⟨a,e,⟨xs,hq⟩,q⟩:=q1
 subst e
 cases r1
 obtain⟨its,rv,p,hz⟩:=I1.list hq
 refine wpAny_pyIter_list p.isList ?_
 refine⟨s1.heap.objs.size,[s1.heap.objs.size],_,_,H1,rfl,I1.kept (t':=s1.toks) fun b o e=>Af _ e,zM7 a _,⟨_,Aw _ rfl,rfl,rfl⟩,fun b hb => ?_,q⟩
 have e:b=s1.heap.objs.size:=by simpa using hb
 subst e
 exact I1.fpOk (Ak _) (I1.hok.fresh (Ak _))
def xC6{l:Expr}{tl:TE}(hl:PE X l tl):PI X tg l (iTup X.K tl):=by
 intro DI s σ H R I h
 refine thn (hl DI s σ H _ I h) fun v s1 ⟨x,H1,I1,r1,q1⟩ => ?_
 obtain⟨a,e,⟨xs,hq⟩,q⟩:=q1
 subst e
 cases r1
 obtain⟨its,rv,p,hz⟩:=I1.tuple hq
 refine wpAny_pyIter_tuple (show s1.heap.IsTuple a its.toArray from p) ?_
 refine⟨s1.heap.objs.size,[s1.heap.objs.size],_,_,H1,rfl,I1.kept (t':=s1.toks) fun b o e=>Af _ e,zU5 a _,⟨_,Aw _ rfl,rfl,rfl⟩,fun b hb => ?_,q⟩
 have e:b=s1.heap.objs.size:=by simpa using hb
 subst e
 exact I1.fpOk (Ak _) (I1.hok.fresh (Ak _))
def xU1{DI:List (Addr×Obj)}{σ:St}{H:Hp}{s:Shared}{R:It->Hp->Prop}{E:Value->Shared->Prop}{lo hi:Int}{t u v:Tok}{tk:Nat}(I:Inv X DI σ H s)(h1:-(2 ^ 62)<=lo)(h2:lo<2 ^ 62)(h3:-(2 ^ 62)<=hi)(h4:hi<2 ^ 62)
  (q:R (Itr lo (hi-lo).toNat) H):wpAny (model X.prog X.w) X.A (pyIter (.ref s.heap.objs.size)) (PIE X DI σ tg R) E { s with heap:=s.heap.push { cls:=.type "range",data:=.fields #[.int lo t,.int hi u,.int 1 v] },toks:=tk }:=by
 refine wpAny_pyIter_range (IsRange.new ..) (small_one h1 h2 h3 h4) ?_
 have I1:Inv X DI σ H { s with heap:=s.heap.push { cls:=.type "range",data:=.fields #[.int lo t,.int hi u,.int 1 v] },toks:=tk }:=I.kept fun b o e=>Af _ e
 refine⟨(s.heap.push { cls:=.type "range",data:=.fields #[.int lo t,.int hi u,.int 1 v] }).objs.size,[(s.heap.push { cls:=.type "range",data:=.fields #[.int lo t,.int hi u,.int 1 v] }).objs.size],_,_,H,rfl,
  I1.kept (t':=tk) fun b o e=>Af _ e,yN1 _ lo (hi-lo).toNat,?_,fun b hb => ?_,q⟩
 ·have e1:lo+((0:Nat):Int)*1=lo:=by simp
  have e2:(((hi-lo).toNat:Nat):Int)-((0:Nat):Int)=Builtin.Range.rangeSize lo hi 1:=by rw[rangeSize_one];split <;> rfl'
  show IsRangeIter _ _ (lo+((0:Nat):Int)*1) ((((hi-lo).toNat:Nat):Int)-((0:Nat):Int)) 1
  rw[e1,e2]
  exact Aw _ rfl
 ·have e:b=(s.heap.push { cls:=.type "range",data:=.fields #[.int lo t,.int hi u,.int 1 v] }).objs.size:=by simpa using hb
  subst e
  exact I1.fpOk (Ak _) (I1.hok.fresh (Ak _))
def iRng1(ta:TA):TI:=fun σ H R=>ta σ H fun vs H1=>∃j:Int,vs=[.int j]/\-(2 ^ 62)<=j/\j<2 ^ 62/\R (Itr 0 j.toNat) H1
def jF{a:Expr}{ta:TA}{p pos:Pos}(hg:Gl X "range")(hm:X.mg "range" = none)(ha:PA X [a] ta)(hs:autoParam (starEach [a] X.env=[(false,eval a X.env)]) DH):PI X tg (.Call (.Name "range" p) [a] [] pos) (iRng1 ta):=by
 intro DI s σ H R I h
 refine Call_ (bZ I hg hm boot_range (Cu (thn (ha pos DI s σ H _ I h) fun us s1 ⟨vs,H1,I1,r1,q1⟩ => ?_) hs rfl))
 obtain⟨j,e,q1,q2,q⟩:=q1
 subst e
 cases r1 with
 | cons r rr =>
  cases rr
  obtain⟨t,rfl⟩:=r
  exact call_range_1 (xU1 I1 (by rfl') (by rfl') q1 q2 (by simpa using q))
def tFor(wi:TI)(g:TG)(tb:TS):TS:=fun D σ H=>wi σ H fun J H1=>∃W:Nat->Nat->St->Hp->Prop,(∃m,W 0 m σ H1)/\∀i m σ H,W i m σ H ->
 (J.stop i H/\D.nx σ H)\/(J.go i H/\∃N:St->Hp->Prop,(∀σ' H',N σ' H'->∃m',m'<m/\W (i+1) m' σ' H')/\∀x H',J.yld i H x H'->g x σ H' fun σ2 H2=>tb { D with nx:=N,ct:=N,bk:=D.nx } σ2 H2)
def pinsAt(fp:List Addr)(h:Heap):List (Addr×Obj):=fp.filterMap fun b=>(h.get? b).map fun o=>(b,o)
def xD{fp:List Addr}{h:Heap}{b:Addr}{o:Obj}(hb:b∈fp)(e:h.get? b=some o):(b,o)∈pinsAt fp h:=Cc.mpr ⟨b,hb,by rw[e];rfl⟩
def yJ6{fp:List Addr}{h:Heap}{p:Addr×Obj}(hp:p∈pinsAt fp h):p.1∈fp/\h.get? p.1=some p.2:=by
 obtain⟨b,hb,e⟩:=Cc.mp hp
 cases q:h.get? b with
 | none=>rw[q] at e;cases e
 | some o =>
  rw[q] at e
  have e':(b,o)=p:=AW e
  subst e'
  exact⟨hb,q⟩
def Inv.pinned{DI:List (Addr×Obj)}{σ:St}{H:Hp}{s:Shared}{fp:List Addr}(I:Inv X DI σ H s)(hf:∀b∈fp,FpOk X DI H b)(ho:∀b∈fp,∃o,s.heap.get? b=some o/\∀v,o.data ≠ .cell v):Inv X (DI++pinsAt fp s.heap) σ H s :=
 I.yE fun p hp=>(AM.mp hp).elim (fun z=>I.pin p (Ag _ z)) fun z=>by
  obtain⟨hb,e⟩:=yJ6 z
  obtain⟨f0,f1,f2,_⟩:=hf p.1 hb
  obtain⟨o,e',d⟩:=ho p.1 hb
  rw[e] at e';cases e'
  exact⟨e,f0,f1,f2,d⟩
def Inv.unpinned{DI pl:List (Addr×Obj)}{σ:St}{H:Hp}{s:Shared}(I:Inv X (DI++pl) σ H s):Inv X DI σ H s:=I.yE fun p hp=>I.pin p (Ag _ (AS _ hp))
def cE{iter:Expr}{body:List Stmt}{wi:TI}{g:TG}{tb:TS}{pos:Pos}(hp:PassesOwn (model X.prog X.w) X.A X.env X.xe)(hc:X.calm=true)(hi:PI X tg iter wi)(hg:PG X tg g)(hb:PSs X body tb)
  (hs:autoParam (∀x,foldedSetIterable iter X.env x=pure x) DF):PS X (.For tg iter body [] pos) (tFor wi g tb):=by
 intro DI s σ H D I h
 refine wpAny_For (thn (hi DI s σ H _ I h) fun v s1 h1=>thn h1 fun itv s2 h2 => ?_) hs
 obtain⟨it,fp,tn,J,H2,e,I2,T,st2,f2,W,⟨m0,w0⟩,turn⟩:=h2
 subst e
 have stat:∀{H':Hp},(∀b∈fp,H' b=none)->∀b∈fp,FpOk X DI H' b:=fun hn b hb=>⟨hn b hb,(f2 b hb).2⟩
 refine codeAny_forLoop_any (fun n s'=>∃i σ' H',Inv X DI σ' H' s'/\tn i s'.heap/\(∀b∈fp,H' b=none)/\W i n σ' H') ?_ m0 ⟨0,σ,H2,I2,st2,fun b hb=>(f2 b hb).1,w0⟩
 rintro n s3 ⟨i,σ3,H3,I3,st3,fr3,w3⟩
 rcases turn i n σ3 H3 w3 with ⟨stop,qn⟩ | ⟨go,N,hN,step⟩
 ·refine wpAny_passesOwn hp (thn (T.done X rfl rfl rfl hc i DI s3 σ3 H3 X.xe I3 (stat fr3) st3 stop) fun r s4 ⟨hr,I4⟩ => ?_)
  subst hr
  exact wpAny_execs_nil ⟨σ3,H3,I4,qn⟩
 ·refine wpAny_passesOwn hp (thn (T.item X rfl rfl rfl hc i DI s3 σ3 H3 X.xe I3 (stat fr3) st3 go) fun r s4 ⟨u,hr,h4⟩ => ?_)
  subst hr
  refine wpAny_passesOwn hp (thn h4 fun _ s5 ⟨x,H5,I5,r5,y5,st5,fr5⟩ => ?_)
  have I5':=I5.pinned (stat fr5) (T.obj _ _ st5)
  refine wpAny_passesOwn hp (thn (hg _ s5 σ3 H5 x u _ I5' r5 (step x H5 y5)) fun _ s6 ⟨σ6,H6,I6,q6⟩ => ?_)
  refine wpAny_passesOwn hp (thn (hb _ s6 σ6 H6 _ I6 q6) fun f s7 q7 => ?_)
  have again:∀{σ7:St}{H7:Hp},Inv X (DI++pinsAt fp s5.heap) σ7 H7 s7->N σ7 H7->∃m,m<n/\∃i σ' H',Inv X DI σ' H' s7/\tn i s7.heap/\(∀b∈fp,H' b=none)/\W i m σ' H':=fun {σ7 H7} I7 n7=>by
   obtain⟨m',hm,w7⟩:=hN σ7 H7 n7
   refine⟨m',hm,i+1,σ7,H7,I7.unpinned,T.keep _ _ _ st5 fun b hb o e=>(I7.pin (b,o) (Ag _ (Ag _ (xD hb e)))).1,fun b hb => ?_,w7⟩
   obtain⟨o,e,d⟩:=T.obj _ _ st5 b hb
   exact (I7.pin (b,o) (Ag _ (Ag _ (xD hb e)))).2.1
  cases f with
  | next=>obtain⟨σ7,H7,I7,n7⟩:=q7;exact again I7 n7
  | cont=>obtain⟨σ7,H7,I7,n7⟩:=q7;exact again I7 n7
  | brk=>obtain⟨σ7,H7,I7,q7⟩:=q7;exact⟨σ7,H7,I7.unpinned,q7⟩
  | ret v=>obtain⟨x7,σ7,H7,I7,r7,q7⟩:=q7;exact⟨x7,σ7,H7,I7.unpinned,r7,q7⟩
end
def xW5{K:KFr}{a:Addr}{xs:List V}{g:TG}{tb:TS}{D:Ends}{σ:St}{H:Hp}(Pv:Nat->St->Hp->Prop)(h0:Pv 0 σ H)(hl:∀i σ H,i<=xs.length->Pv i σ H->SqL K H a xs)
  (hs:∀i x σ H,xs[i]?=some x->Pv i σ H->g x σ H fun σ2 H2=>tb { D with nx:=Pv (i+1),ct:=Pv (i+1),bk:=D.nx } σ2 H2) (hd:∀σ H,Pv xs.length σ H->D.nx σ H) :
  ∃W:Nat->Nat->St->Hp->Prop,(∃m,W 0 m σ H)/\∀i m σ H,W i m σ H ->
   ((Itl K a).stop i H/\D.nx σ H)\/((Itl K a).go i H/\∃N:St->Hp->Prop,(∀σ' H',N σ' H'->∃m',m'<m/\W (i+1) m' σ' H')/\∀x H',(Itl K a).yld i H x H'->g x σ H' fun σ2 H2=>tb { D with nx:=N,ct:=N,bk:=D.nx } σ2 H2):=by
 refine⟨fun i m σ H=>m=xs.length-i/\i<=xs.length/\Pv i σ H,⟨xs.length,by simp,AQ _,h0⟩,?_⟩
 rintro i m σ H ⟨rfl,hi,p⟩
 have q:=hl i σ H hi p
 by_cases hlt:i<xs.length
 ·refine .inr ⟨⟨xs,xs[i],q,by simp[hlt]⟩,Pv (i+1),fun σ' H' p'=>⟨xs.length-(i+1),by rfl',rfl,hlt,p'⟩,fun x H' y => ?_⟩
  obtain⟨e,y⟩:=y
  subst e
  exact hs i x σ _ (y xs q) p
 ·have e:i=xs.length:=by rfl'
  subst e
  exact .inl ⟨⟨xs,q,Ak _⟩,hd σ H p⟩
def zM8{lo:Int}{n:Nat}{g:TG}{tb:TS}{D:Ends}{σ:St}{H:Hp}(Pv:Nat->St->Hp->Prop)(h0:Pv 0 σ H)
  (hs:∀i σ H,i<n->Pv i σ H->g (.int (lo+i)) σ H fun σ2 H2=>tb { D with nx:=Pv (i+1),ct:=Pv (i+1),bk:=D.nx } σ2 H2) (hd:∀σ H,Pv n σ H->D.nx σ H) :
  ∃W:Nat->Nat->St->Hp->Prop,(∃m,W 0 m σ H)/\∀i m σ H,W i m σ H ->
   ((Itr lo n).stop i H/\D.nx σ H)\/((Itr lo n).go i H/\∃N:St->Hp->Prop,(∀σ' H',N σ' H'->∃m',m'<m/\W (i+1) m' σ' H')/\∀x H',(Itr lo n).yld i H x H'->g x σ H' fun σ2 H2=>tb { D with nx:=N,ct:=N,bk:=D.nx } σ2 H2):=by
 refine⟨fun i m σ H=>m=n-i/\i<=n/\Pv i σ H,⟨n,by simp,AQ _,h0⟩,?_⟩
 rintro i m σ H ⟨rfl,hi,p⟩
 by_cases hlt:i<n
 ·refine .inr ⟨hlt,Pv (i+1),fun σ' H' p'=>⟨n-(i+1),by rfl',rfl,hlt,p'⟩,fun x H' y => ?_⟩
  obtain⟨e,y⟩:=y
  subst e y
  exact hs i σ _ hlt p
 ·have e:i=n:=by rfl'
  subst e
  exact .inl ⟨Ak _,hd σ H p⟩
abbrev R2:=V->V->Hp->VK->Prop
def OpR(X:Cx)(f:Value->Value->Sem Value)(r:R2):Prop :=
 ∀(DI:List (Addr×Obj)) (s:Shared) (σ:St) (H:Hp) (x y:V) (v u:Value) (Q:VK),Inv X DI σ H s->RelV x v->RelV y u->r x y H Q ->
  wpAny (model X.prog X.w) X.A (f v u) (EP X DI σ Q) X.xe s
def UnR(X:Cx)(f:Value->Sem Value)(r:V->Hp->VK->Prop):Prop :=
 ∀(DI:List (Addr×Obj)) (s:Shared) (σ:St) (H:Hp) (x:V) (v:Value) (Q:VK),Inv X DI σ H s->RelV x v->r x H Q ->
  wpAny (model X.prog X.w) X.A (f v) (EP X DI σ Q) X.xe s
def CallR(X:Cx)(f:Value)(r:List V->Hp->VK->Prop):Prop :=
 ∀(DI:List (Addr×Obj)) (s:Shared) (σ:St) (H:Hp) (xs:List V) (us:List Value) (Q:VK),Inv X DI σ H s->Vals xs us->r xs H Q ->
  wpAny (model X.prog X.w) X.A (call f us) (EP X DI σ Q) X.xe s
def tOp(r:R2)(ta tb:TE):TE:=fun σ H Q=>ta σ H fun x H1=>tb σ H1 fun y H2=>r x y H2 Q
def tUn(r:V->Hp->VK->Prop)(ta:TE):TE:=fun σ H Q=>ta σ H fun x H1=>r x H1 Q
def rI(C:Int->Int->Prop)(g:Int->Int->V):R2:=fun x y H Q=>∃i j,x=.int i/\y=.int j/\C i j/\Q (g i j) H
def rI0(g:Int->Int->V):R2:=fun x y H Q=>∃i j,x=.int i/\y=.int j/\Q (g i j) H
def rU(g:Int->V):V->Hp->VK->Prop:=fun x H Q=>∃i,x=.int i/\Q (g i) H
section
variable {X:Cx}{a b c:Expr}{ta tb tc:TE}{pos:Pos}
def binT(ha:PE X a ta)(hb:PE X b tb){DI:List (Addr×Obj)}{s:Shared}{σ:St}{H:Hp}{R:V->V->Hp->Prop}(I:Inv X DI σ H s)
  (h:ta σ H fun x H1=>tb σ H1 fun y H2=>R x y H2){Q:Value->Shared->Prop}{f:Value->Value->Sem Value}
  (hf:∀v u s2 x y H2,Inv X DI σ H2 s2->RelV x v->RelV y u->R x y H2->wpAny (model X.prog X.w) X.A (f v u) Q X.xe s2) :
  wpAny (model X.prog X.w) X.A (eval a X.env) (fun v s₁=>wpAny (model X.prog X.w) X.A (eval b X.env) (fun u s₂=>wpAny (model X.prog X.w) X.A (f v u) Q X.xe s₂) X.xe s₁) X.xe s:=by
 refine thn (ha DI s σ H _ I h) fun v s1 ⟨x,H1,I1,r1,q1⟩ => ?_
 refine thn (hb DI s1 σ H1 _ I1 q1) fun u s2 ⟨y,H2,I2,r2,q2⟩ => ?_
 exact hf v u s2 x y H2 I2 r1 r2 q2
def qY{op:Operator}{r:R2}(ho:OpR X (binaryOp op) r)(ha:PE X a ta)(hb:PE X b tb):PE X (.BinOp a op b pos) (tOp r ta tb):=by
 intro DI s σ H Q I h
 exact wpAny_BinOp (binT ha hb I h fun v u s2 x y H2 I2 rx ry q=>ho DI s2 σ H2 x y v u Q I2 rx ry q)
def yN5{op:UnaryOp}{r:V->Hp->VK->Prop}(ho:UnR X (unaryOp op) r)(ha:PE X a ta):PE X (.UnaryOp op a pos) (tUn r ta):=by
 intro DI s σ H Q I h
 exact UnaryOp_ (thn (ha DI s σ H _ I h) fun v s1 ⟨x,H1,I1,r1,q1⟩=>ho DI s1 σ H1 x v Q I1 r1 q1)
def opI{f:Value->Value->Sem Value}{C:Int->Int->Prop}{g:Int->Int->Int}
  (rule:∀(i j:Int) (t u:Tok) (s:Shared) (Q:Value->Shared->Prop) (E:Value->Shared->Prop),C i j->Q (.int (g i j) s.toks) { s with toks:=s.toks+1 }->wpAny (model X.prog X.w) X.A (f (.int i t) (.int j u)) Q E s) :
  OpR X f (rI C fun i j=>.int (g i j)):=by
 intro DI s σ H x y v u Q I rx ry h
 obtain⟨i,j,rfl,rfl,hc,q⟩:=h
 obtain⟨t,rfl⟩:=rx
 obtain⟨t',rfl⟩:=ry
 exact rule i j t t' s _ _ hc ⟨.int (g i j),H,I.tok _,⟨_,rfl⟩,q⟩
def opI0{f:Value->Value->Sem Value}{g:Int->Int->Int}
  (rule:∀(i j:Int) (t u:Tok) (s:Shared) (Q:Value->Shared->Prop) (E:Value->Shared->Prop),Q (.int (g i j) s.toks) { s with toks:=s.toks+1 }->wpAny (model X.prog X.w) X.A (f (.int i t) (.int j u)) Q E s) :
  OpR X f (rI0 fun i j=>.int (g i j)):=by
 intro DI s σ H x y v u Q I rx ry h
 obtain⟨i,j,rfl,rfl,q⟩:=h
 obtain⟨t,rfl⟩:=rx
 obtain⟨t',rfl⟩:=ry
 exact rule i j t t' s _ _ ⟨.int (g i j),H,I.tok _,⟨_,rfl⟩,q⟩
def opB0{f:Value->Value->Sem Value}{g:Int->Int->Bool}
  (rule:∀(i j:Int) (t u:Tok) (s:Shared) (Q:Value->Shared->Prop) (E:Value->Shared->Prop),Q (.bool (g i j)) s->wpAny (model X.prog X.w) X.A (f (.int i t) (.int j u)) Q E s) :
  OpR X f (rI0 fun i j=>.bl (g i j)):=by
 intro DI s σ H x y v u Q I rx ry h
 obtain⟨i,j,rfl,rfl,q⟩:=h
 obtain⟨t,rfl⟩:=rx
 obtain⟨t',rfl⟩:=ry
 exact rule i j t t' s _ _ ⟨.bl (g i j),H,I,rfl,q⟩
def dW:OpR X (binaryOp .Add) (rI0 fun i j=>.int (i+j)):=opI0 fun _ _ _ _ _ _ _ q=>add_int q
def zV6:OpR X (binaryOp .Sub) (rI0 fun i j=>.int (i-j)):=opI0 fun _ _ _ _ _ _ _ q=>sub_int q
def xF3:OpR X (binaryOp .Mod) (rI (fun _ j=>0<j) fun i j=>.int (i%j)):=opI fun i j _ _ _ _ _ hc q=>by
 have h1:(0:Int)<j:=hc
 exact mod_int' (by rfl') (by rw[Int.fmod_eq_emod_of_nonneg i (by rfl')];exact q)
def unI{f:Value->Sem Value}{g:Int->Int}
  (rule:∀(i:Int) (t:Tok) (s:Shared) (Q:Value->Shared->Prop) (E:Value->Shared->Prop),Q (.int (g i) s.toks) { s with toks:=s.toks+1 }->wpAny (model X.prog X.w) X.A (f (.int i t)) Q E s) :
  UnR X f (rU fun i=>.int (g i)):=by
 intro DI s σ H x v Q I rx h
 obtain⟨i,rfl,q⟩:=h
 obtain⟨t,rfl⟩:=rx
 exact rule i t s _ _ ⟨.int (g i),H,I.tok _,⟨_,rfl⟩,q⟩
def zA4:UnR X (unaryOp .USub) (rU fun i=>.int (-i)):=unI fun _ _ _ _ _ q=>neg_int q
def yJ7{DI:List (Addr×Obj)}{σ:St}{H:Hp}{s:Shared}{Q:VK}{k k':Bool}(I:Inv X DI σ H s)(q:Q (.bl k) H)(e:k=k'):EP X DI σ Q (.bool k') s:=by
 subst e
 exact⟨.bl k,H,I,rfl,q⟩
def yO4:OpR X (compareOp .Lt) (rI0 fun i j=>.bl (decide (i<j))):=opB0 fun _ _ _ _ _ _ _ q=>lt_int q
def aO:OpR X (compareOp .LtE) (rI0 fun i j=>.bl (decide (i<=j))):=opB0 fun _ _ _ _ _ _ _ q=>le_int q
def zR9:OpR X (compareOp .Gt) (rI0 fun i j=>.bl (decide (j<i))):=opB0 fun _ _ _ _ _ _ _ q=>gt_int q
def zE2:OpR X (compareOp .Is) (fun x y H Q=>y=.non/\Q (.bl (decide (x=.non))) H):=by
 intro DI s σ H x y v u Q I rx ry h
 obtain⟨rfl,q⟩:=h
 cases ry
 refine is_none_gen (yJ7 I q ?_)
 cases x <;> first
  | (cases rx;rfl)
  | (obtain⟨t,rfl⟩:=rx;rfl)
def yQ6:OpR X (compareOp .IsNot) (fun x y H Q=>y=.non/\Q (.bl (!decide (x=.non))) H):=by
 intro DI s σ H x y v u Q I rx ry h
 obtain⟨rfl,q⟩:=h
 cases ry
 refine isnot_none_gen (yJ7 I q ?_)
 cases x <;> first
  | (cases rx;rfl)
  | (obtain⟨t,rfl⟩:=rx;rfl)
def isObj:HO->Bool
 | .lst _=>true
 | .ins _ _ _=>true
 | _=>false
def cG{DI:List (Addr×Obj)}{s:Shared}{σ:St}{H:Hp}{a:Addr}{o:HO}(I:Inv X DI σ H s)(h:H a=some o)(p:isObj o=true):∃ob,s.heap.get? a=some ob/\ob.cls ≠ .type "tuple":=by
 cases o with
 | lst xs =>
  obtain⟨_,its,n,_,e⟩:xs.length<=sizeLine/\∃(its:List Value) (n:Nat),Vals xs its/\s.heap.get? a=some { cls:=.type "list",data:=.seq its.toArray n }:=I.hok a _ h
  exact⟨_,e,(by show Value.type "list" ≠ .type "tuple";decide +kernel)⟩
 | ins C dx fs =>
  have x:=I.hok a _ h
  obtain⟨_,_,_,e,_⟩:=x
  exact⟨_,e,(by show Value.ref C ≠ .type "tuple";exact fun z=>by cases z)⟩
 | _=>exact absurd (show false=true from p) AK
def nomark(b:Expr){op:CmpOp}(h:autoParam (op ≠ .In) DG)(h2:autoParam (op ≠ .NotIn) DG):behindInMarks op b=false:=by
 have e1:(op == CmpOp.In)=false:=by cases op <;> first | rfl | exact absurd rfl h
 have e2:(op == CmpOp.NotIn)=false:=by cases op <;> first | rfl | exact absurd rfl h2
 cases b <;> simp[behindInMarks,e1,e2]
def yS2{op:CmpOp}{r:R2}(ho:OpR X (compareOp op) r)(ha:PE X a ta)(hb:PE X b tb)(hm:behindInMarks op b=false):PE X (.Compare a [op] [b] pos) (tOp r ta tb):=by
 intro DI s σ H Q I h
 exact wpAny_Compare1 (binT ha hb I h fun v u s2 x y H2 I2 rx ry q=>ho DI s2 σ H2 x y v u Q I2 rx ry q) hm
def tTest(t:TE):TT:=fun σ H Q=>t σ H fun x H'=>∃k,x=.bl k/\Q k H'
def xE{op:CmpOp}{r:R2}(ho:OpR X (compareOp op) r)(ha:PE X a ta)(hb:PE X b tb)(hm:behindInMarks op b=false):PT X (.Compare a [op] [b] pos) (tTest (tOp r ta tb)):=by
 intro DI s σ H Q I h
 refine wpAny_isTrue_Compare1 (thn (ha DI s σ H _ I h) fun v s1 ⟨x,H1,I1,r1,q1⟩=>thn (hb DI s1 σ H1 _ I1 q1) fun u s2 ⟨y,H2,I2,r2,q2⟩ =>
  thn (ho DI s2 σ H2 x y v u _ I2 r1 r2 q2) fun c s3 ⟨z,H3,I3,r3,k,e,q3⟩ => ?_) hm
 subst e
 cases r3
 exact wpAny_truthy_bool ⟨H3,I3,q3⟩
def tChain(r r':R2)(ta tb tc:TE):TE:=fun σ H Q=>ta σ H fun x H1=>tb σ H1 fun y H2=>r x y H2 fun z H3=>∃k,z=.bl k /\
 (if k=true then tc σ H3 fun w' H4=>r' y w' H4 Q else Q (.bl false) H3)
def xZ9{op op':CmpOp}{r r':R2}(ho:OpR X (compareOp op) r)(ho':OpR X (compareOp op') r')(ha:PE X a ta)(hb:PE X b tb)(hc:PE X c tc)
  (hm:autoParam (lastMarks [op,op'] [b,c]=false) zQ2._auto_1):PE X (.Compare a [op,op'] [b,c] pos) (tChain r r' ta tb tc):=by
 intro DI s σ H Q I h
 refine Compare_chain (thn (ha DI s σ H _ I h) fun v s1 ⟨x,H1,I1,r1,q1⟩=>chain_link (thn (hb DI s1 σ H1 _ I1 q1) fun u s2 ⟨y,H2,I2,r2,q2⟩ =>
  thn (ho DI s2 σ H2 x y v u _ I2 r1 r2 q2) fun d s3 ⟨z,H3,I3,r3,k,e,q3⟩ => ?_)) hm
 subst e
 cases r3
 refine wpAny_truthy_bool ?_
 cases k with
 | false=>exact ite_ff ⟨.bl false,H3,I3,rfl,q3⟩
 | true=>exact ite_tt (chain_last (thn (hc DI s3 σ H3 _ I3 q3) fun w' s4 ⟨z',H4,I4,r4,q4⟩=>ho' DI s4 σ H4 y z' u w' Q I4 r2 r4 q4))
def yB7{op op':CmpOp}{r r':R2}(ho:OpR X (compareOp op) r)(ho':OpR X (compareOp op') r')(ha:PE X a ta)(hb:PE X b tb)(hc:PE X c tc)
  (hm:autoParam (lastMarks [op,op'] [b,c]=false) zQ2._auto_1):PT X (.Compare a [op,op'] [b,c] pos) (tTest (tChain r r' ta tb tc)):=by
 intro DI s σ H Q I h
 refine isTrue_chain (thn (ha DI s σ H _ I h) fun v s1 ⟨x,H1,I1,r1,q1⟩=>test_link (thn (hb DI s1 σ H1 _ I1 q1) fun u s2 ⟨y,H2,I2,r2,q2⟩ =>
  thn (ho DI s2 σ H2 x y v u _ I2 r1 r2 q2) fun d s3 ⟨z,H3,I3,r3,k,e,q3⟩ => ?_)) hm
 subst e
 cases r3
 refine wpAny_truthy_bool ?_
 cases k with
 | false =>
  obtain⟨k',e',q'⟩:=q3
  cases e'
  exact ite_ff ⟨H3,I3,q'⟩
 | true =>
  refine ite_tt (test_last (thn (hc DI s3 σ H3 _ I3 q3) fun w' s4 ⟨z',H4,I4,r4,q4⟩=>thn (ho' DI s4 σ H4 y z' u w' _ I4 r2 r4 q4) fun d' s5 ⟨z2,H5,I5,r5,k2,e2,q5⟩ => ?_))
  subst e2
  cases r5
  exact wpAny_truthy_bool ⟨H5,I5,q5⟩
def line63:(sizeLine:Nat)<2 ^ 63:=by rw[sizeLine_eq];decide
def vals1{x:V}{us:List Value}(r:Vals [x] us):∃u,us=[u]/\RelV x u:=by
 cases r with
 | cons r1 r2=>cases r2;exact⟨_,rfl,r1⟩
def vals2{x y:V}{us:List Value}(r:Vals [x,y] us):∃u w',us=[u,w']/\RelV x u/\RelV y w':=by
 cases r with
 | cons r1 r2 =>
  cases r2 with
  | cons r3 r4=>cases r4;exact⟨_,_,rfl,r1,r3⟩
def yH6(hc:X.calm=true):CallR X (.builtin "min") (fun xs H Q=>∃i j,xs=[.int i,.int j]/\Q (.int (if j<i then j else i)) H):=by
 intro DI s σ H xs us Q I r h
 obtain⟨i,j,rfl,q⟩:=h
 obtain⟨u,w',rfl,⟨t,rfl⟩,⟨t',rfl⟩⟩:=vals2 r
 refine min_two_ints (I.ok.hd hc) fun h' tk k=>⟨_,H,I.kept k,?_,q⟩
 by_cases hj:j<i
 ·rw[Aq hj,Aq hj];exact⟨_,rfl⟩
 ·rw[AJ hj,AJ hj];exact⟨_,rfl⟩
def zF6:CallR X (.type "str") (fun xs H Q=>∃i,xs=[.int i]/\i.natAbs.log2<1920/\Q (.str (toString i)) H):=by
 intro DI s σ H xs us Q I r h
 obtain⟨i,rfl,hz,q⟩:=h
 obtain⟨u,rfl,t,rfl⟩:=vals1 r
 exact PySem.P.str_of_int hz ⟨.str _,H,I.tok _,⟨_,rfl⟩,q⟩
end
structure ObjM(h:Heap)(x dx C:Addr)(mA:Str->Option Value):Prop where
 obj:h.get? x=some (PySem.W.instObj C dx)
 ns:h.Ns1 dx mA
 ne:dx≠x
section
variable {prog:Program}{w:World}{A:Around}{E:Value->Shared->Prop}{s:Shared}{K:KFr}{x dx C f:Addr}{mA:Str->Option Value}{name:Str}{v:Value}
end
section
variable {P:Program}{w:World}{H H':Hp}{h h':Heap}{a C dx:Addr}{fs fs':List (Str×V)}
end
structure Cls(K:KFr)(C:Addr):Prop where
 pg:PySem.W.plainGet K C Str.empty=true
 hd:PySem.W.hasDictIn K C=true
 po:PySem.W.plainOver K C=true
 sa:PySem.W.findIn K (.ref C) "__setattr__" = some (some (.builtin "object.__setattr__"))
structure Con(K:KFr)(C:Addr)(f:Str)(v:V)(u:Value):Prop where
 at_:PySem.W.findIn K (.ref C) f=some (some u)
 rel:RelV v u
 get:PySem.W.specialIn K u "__get__" = some none
 cp:PySem.W.copiedNames.contains f=false
structure Meth(K:KFr)(C:Addr)(m:Str)(f:Addr):Prop where
 at_:PySem.W.findIn K (.ref C) m=some (some (.ref f))
 fn:PySem.W.isFn K (.ref f)=true
 kp:PySem.W.keepIn K (.ref f)=true
section
variable {X:Cx}{DI:List (Addr×Obj)}{σ:St}{H:Hp}{s:Shared}{a C dx:Addr}{fs:List (Str×V)}{f:Str}{v:V}{A:Around}{E:Value->Shared->Prop}
end
section
variable {X:Cx}{o e value:Expr}{f:Str}{pos pos' tpos:Pos}{ta tv:TE}
def rAdd:V->V->Hp->VK->Prop:=fun x y H Q=>∃i j,x=.int i/\y=.int j/\Q (.int (i+j)) H
def rSub:V->V->Hp->VK->Prop:=fun x y H Q=>∃i j,x=.int i/\y=.int j/\Q (.int (i-j)) H
end
section
variable {X:Cx}{DI:List (Addr×Obj)}{σ:St}{H:Hp}{s:Shared}{A:Around}{E:Value->Shared->Prop}{Q:Value->Shared->Prop}{c:Value}{b:Bool}
inductive TyOf(K:KFr)(H:Hp):V->Value->Prop where
 | non:TyOf K H .non (.type "NoneType")
 | bl (x:Bool):TyOf K H (.bl x) (.type "bool")
 | int (i:Int):TyOf K H (.int i) (.type "int")
 | str (x:Str):TyOf K H (.str x) (.type "str")
 | flt (x:UInt64):TyOf K H (.flt x) (.type "float")
 | lst {a:Addr}{xs:List V}(e:H a=some (.lst xs)):TyOf K H (.ref a) (.type "list")
 | frz {a:Addr}{o:Obj}{xs:List V}(e:H a=some (.frz o (.lst xs))):TyOf K H (.ref a) (.type "list")
 | tup {a:Addr}{xs:List V}(e:H a=some (.tup xs)):TyOf K H (.ref a) (.type "tuple")
 | dK {a:Addr}{kvs:List (Key×V)}(e:H a=some (.dK kvs)):TyOf K H (.ref a) (.type "dict")
 | dT {a:Addr}{kvs:List (List Key×V)}(e:H a=some (.dT kvs)):TyOf K H (.ref a) (.type "dict")
 | ins {a C dx:Addr}{fs:List (Str×V)}(e:H a=some (.ins C dx fs)) (cl:Cls K C) (ha:PySem.W.findIn K (.ref C) "__class__" = some (some (.builtin "object.__class__")))
   (hn:PySem.W.specialIn K (.builtin "object.__class__") "__get__" = some (some (.builtin "getset_descriptor.__get__"))) (htk:PySem.W.takesIn K (.builtin "object.__class__")=some true)
   (hm:PySem.W.mroIn K C (.type "object")=some true):TyOf K H (.ref a) (.ref C)
end
structure Room(k:Nat)(A:Around):Prop where
 hd:A.handled=none
 dp:A.depth+3*k+5<recursionLimit
 un:A.units+16*k+200<cLine
def Room.mono{j k:Nat}{A:Around}(r:Room k A)(h:j<=k):Room j A:=⟨r.hd,by have:=r.dp;rfl',by have:=r.un;rfl'⟩
def Room.deeper{k:Nat}{A:Around}(r:Room (k+1) A)(env:Env):Room k (A.deeper env) :=
 ⟨r.hd,by have:=r.dp;show A.depth+1+3*k+5<_;rfl',by have:=r.un;show A.units+3+16*k+200<_;rfl'⟩
def Room.in1{k:Nat}{A:Around}(r:Room (k+1) A):Room k A.in1 :=
 ⟨r.hd,by have:=r.dp;show A.depth+3*k+5<_;rfl',by have:=r.un;show A.units+1+16*k+200<_;rfl'⟩
def Room.depth{k:Nat}{A:Around}(r:Room k A):A.depth<recursionLimit:=by have:=r.dp;rfl'
def Room.units{k:Nat}{A:Around}(r:Room k A):A.units+64<cLine:=by have:=r.un;rfl'
def tNil:TA:=fun _ H Q=>Q [] H
def zO(ta:TE)(tr:TA):TA:=fun σ H Q=>ta σ H fun x H1=>tr σ H1 fun xs H2=>Q (x::xs) H2
section
variable {X:Cx}{e:Expr}{es:List Expr}{te:TE}{t:TA}{pos:Pos}
def zL:PA X [] tNil:=fun _ _ _ _ H Q I h=>Calls.spliced_nil ⟨[],H,I,.nil,h⟩
def zT(ha:PE X e te)(hr:PA X es t)(hs:autoParam (starEach (e::es) X.env=(false,eval e X.env)::starEach es X.env) DH):PA X (e::es) (zO te t):=by
 intro pos DI s σ H Q I h
 rw[hs]
 show wpAny _ _ (spliced ((false,eval e X.env)::backTo pos (starEach es X.env))) _ _ s
 refine Calls.spliced_cons (thn (ha DI s σ H _ I h) fun u s1 ⟨x,H1,I1,r1,q1⟩ => ?_)
 exact thn (hr pos DI s1 σ H1 _ I1 q1) fun us s2 ⟨xs,H2,I2,r2,q2⟩=>⟨x::xs,H2,I2,.cons r1 r2,q2⟩
def tTup(t:TA):TE:=fun σ H Q=>t σ H fun xs H1=>xs.length<=sizeLine/\∀p,H1 p=none->Q (.ref p) (upd H1 p (.tup xs))
def tLst(t:TA):TE:=fun σ H Q=>t σ H fun xs H1=>xs.length<=sizeLine/\∀p,H1 p=none->Q (.ref p) (upd H1 p (.lst xs))
def jE{x1}(h:PA X es t):PE X (.Tuple es x1 pos) (tTup t):=by
 intro DI s σ H Q I hq
 refine wpAny_Tuple_spliced (thn (h pos DI s σ H _ I hq) fun us s1 ⟨xs,H1,I1,r,z,q⟩=>⟨by rw[<-r.length];exact z,?_⟩)
 have hf:H1 s1.heap.objs.size=none:=I1.hok.fresh (Ak _)
 refine⟨.ref s1.heap.objs.size,upd H1 s1.heap.objs.size (.tup xs),I1.laid (t':=s1.toks) (fun b u e=>Af _ e) (Ak _) ?_,rfl,q _ hf⟩
 exact⟨z,us,r,TupAt.new _ _⟩
def xW(h:PA X es t):PE X (.List es pos) (tLst t):=by
 intro DI s σ H Q I hq
 refine wpAny_List_spliced (thn (h pos DI s σ H _ I hq) fun us s1 ⟨xs,H1,I1,r,z,q⟩=>⟨by rw[<-r.length];exact z,?_⟩)
 have hf:H1 s1.heap.objs.size=none:=I1.hok.fresh (Ak _)
 refine⟨.ref s1.heap.objs.size,upd H1 s1.heap.objs.size (.lst xs),I1.laid (t':=s1.toks) (fun b u e=>Af _ e) (Ak _) ?_,rfl,q _ hf⟩
 exact⟨z,us,0,r,Aw _ rfl⟩
end
abbrev Sp:=List V->Hp->VK->XK->Prop
abbrev CXT:=List Env->Hp->Shared->XK->Value->Shared->Prop
structure Env0(P:Program)(w:World)(K:KFr)(mg:Str->Option Value)(base:Heap)(A:Around)(outer:List Env)(s:Shared)(H:Hp):Prop where
 frames:A.frames=some outer
 mod:Mod K mg base
 bs:∀b o,base.get? b=some o->s.heap.get? b=some o/\H b=none
 bsz:base.objs.size<=s.heap.objs.size
 funs:s.heap.FunFrames base outer
 frf:∀b∈frs outer,H b=none
 hok:HOk P w H s.heap
 bare:AllBare s.gens
 tb:TabsIn K H
def CE(outer:List Env)(P:Program)(w:World)(H:Hp)(s:Shared)(Q:VK)(u:Value)(s':Shared):Prop :=
 ∃v H',s'.os=s.os/\AllBare s'.gens/\Un (frs outer) [] H H' s.heap s'.heap/\HOk P w H' s'.heap/\RelV v u/\Q v H'
def CR(CX:CXT)(outer:List Env)(P:Program)(w:World)(H:Hp)(s:Shared)(Q:VK)(E:XK)(r:Result)(s':Shared):Prop :=
 match r with
 | .ok (.ret u)=>CE outer P w H s Q u s'
 | .ok _=>False
 | .error e=>CX outer H s E e s'
structure FnOk(P:Program)(w:World)(K:KFr)(mg:Str->Option Value)(base:Heap)(CX:CXT)(k:Nat)(f:Addr)(fd:FuncData)(ps:List Str)(sp:Sp):Prop where
 len:∀vs H Q E,sp vs H Q E->vs.length=ps.length
 run:∀(A:Around) (outer:List Env) (s:Shared) (H:Hp) (args:Args) (us:List Value) (vs:List V) (Q:VK) (E:XK),Room k A->Env0 P w K mg base A outer s H->BindsTo s fd args (ps.zip us)->Vals vs us->sp vs H Q E ->
  codeAny (model P w) A (.call (.ref f) args) (CR CX outer P w H s Q E) s
def FnOk.imp{P:Program}{w:World}{K:KFr}{mg:Str->Option Value}{base:Heap}{CX:CXT}{k:Nat}{f:Addr}{fd:FuncData}{ps:List Str}{sp sp':Sp}(F:FnOk P w K mg base CX k f fd ps sp)
  (h:∀vs H Q E,sp' vs H Q E->sp vs H Q E):FnOk P w K mg base CX k f fd ps sp' :=
 ⟨fun vs H Q E q=>F.len vs H Q E (h _ _ _ _ q),fun A outer s H args us vs Q E hr he hb hv hs=>F.run A outer s H args us vs Q E hr he hb hv (h _ _ _ _ hs)⟩
section
variable {X:Cx}{DI:List (Addr×Obj)}{σ:St}{H:Hp}{s s':Shared}
def Inv.env0(I:Inv X DI σ H s):Env0 X.prog X.w X.K X.mg X.base X.A X.stack s H :=
 ⟨I.ok.frames,I.ok.mod,I.bs,Bf I.ok.bsz I.sz,I.stack,I.stkFree,I.hok,I.bare,I.tb⟩
def Inv.after{Q:VK}{u:Value}(I:Inv X DI σ H s)(h:CE X.stack X.prog X.w H s Q u s'):EP X DI σ Q u s':=by
 obtain⟨v,H',os,bare,un,hok,r,q⟩:=h
 obtain⟨hh,g,d,t,os'⟩:=s'
 obtain rfl:os'=s.os:=os
 exact⟨v,H',I.call (h':=hh) (g':=g) (d':=d) (t':=t) (ch:=[]) un hok bare (fun b z=>absurd z (by simp)),r,q⟩
end
def tCall(sp:Sp)(dvs:List V)(E:XK)(t:TA):TE:=fun σ H Q=>t σ H fun vs H1=>sp (vs++dvs) H1 Q E
def Binds(K:KFr)(fd:FuncData)(ps:List Str)(ds:List Value):Prop :=
 ∀(s:Shared) (us:List Value),K.In s.heap->(us++ds).length=ps.length->BindsTo s fd ⟨us,[]⟩ (ps.zip (us++ds))
def Binds.all{K:KFr}{fd:FuncData}{ps:List Str}(h:∀us:List Value,us.length=ps.length->bindArgs fd ⟨us,[]⟩=pure (ps.zip us)):Binds K fd ps []:=fun s us _ hl=>by
 rw[Bn] at hl ⊢
 exact .of_eq (h us hl)
def Passes(CX:CXT)(X:Cx)(E:XK):Prop:=∀(DI:List (Addr×Obj)) (σ:St) (H:Hp) (s:Shared) (e:Value) (s':Shared),Inv X DI σ H s->CX X.stack H s E e s'->X.xe e s'
section
variable {X:Cx}{CX:CXT}{k:Nat}{f C:Addr}{fd:FuncData}{ps:List Str}{sp:Sp}{dvs:List V}{ds:List Value}{E:XK}{x m:Str}{p pos apos:Pos}{e o:Expr}{es:List Expr}{ta:TE}{t:TA}
def xF6{DI:List (Addr×Obj)}{σ:St}{H:Hp}{s:Shared}{Q:VK}{us:List Value}{vs:List V}(F:FnOk X.prog X.w X.K X.mg X.base CX k f fd ps sp)(hr:Room k X.A)(hb:Binds X.K fd ps ds)(hd:Vals dvs ds)(hx:Passes CX X E)
  (I:Inv X DI σ H s) (r:Vals vs us) (h:sp (vs++dvs) H Q E):wpAny (model X.prog X.w) X.A (call (.ref f) us) (EP X DI σ Q) X.xe s:=by
 have r2:Vals (vs++dvs) (us++ds):=r.append hd
 have hl:(us++ds).length=ps.length:=by rw[<-r2.length];exact F.len _ _ _ _ h
 refine wpAny_call (codeAny_mono (F.run X.A X.stack s H ⟨us,[]⟩ (us++ds) (vs++dvs) Q E hr I.env0 (hb s us I.kIn hl) r2 h) fun r s' hq => ?_)
 cases r with
 | error e=>exact hx DI σ H s e s' I hq
 | ok fl =>
  cases fl with
  | ret u=>exact I.after hq
  | next=>exact False.elim hq
  | brk=>exact False.elim hq
  | cont=>exact False.elim hq
def yJ(F:FnOk X.prog X.w X.K X.mg X.base CX k f fd ps sp)(hr:Room k X.A)(hg:Gl X x)(hm:X.mg x=some (.ref f))(hk:PySem.W.keepIn X.K (.ref f)=true)(hb:Binds X.K fd ps ds)(hd:Vals dvs ds)(hx:Passes CX X E)
  (ha:PA X (e::es) t) (hdb:autoParam ((x == ("__debug__":Str))=false) DG) (he:autoParam (starEach (e::es) X.env=(false,eval e X.env)::starEach es X.env) DH) (hpl:autoParam ((backTo pos (starEach es X.env)).any (·.1)=false) DH) :
  PE X (.Call (.Name x p) (e::es) [] pos) (tCall sp dvs E t):=by
 intro DI s σ H Q I h
 refine wpAny_Call_Name_kw (aP I hg hm ?_ hdb)
 refine PySem.W.callWith_K (h₀:=X.base) I.ok.mod.kin hk (thn (ha pos DI s σ H _ I h) fun us s1 ⟨vs,H1,I1,r,q⟩=>⟨I1.kIn,?_⟩) he hpl
 exact xF6 F hr hb hd hx I1 r q
structure Mk(K:KFr)(C f:Addr):Prop where
 makes:PySem.W.makesIn K C=true
 init:PySem.W.findIn K (.ref C) "__init__" = some (some (.ref f))
 fn:PySem.W.isFn K (.ref f)=true
 kp:PySem.W.keepIn K (.ref C)=true
end
section
variable {X:Cx}{CX:CXT}{k:Nat}{f C:Addr}{fd:FuncData}{ps ks:List Str}{sp:Sp}{E:XK}{x m:Str}{p pos apos kpos:Pos}{e o:Expr}{es:List Expr}{kws:List Keyword}{te ta:TE}{t tk:TA}{nm:Option Str}
structure KBinds(K:KFr)(fd:FuncData)(ps ks:List Str)(g:List Value->List Value->List Value)(gV:List V->List V->List V):Prop where
 to:∀(s:Shared) (us ws:List Value),K.In s.heap->(g us ws).length=ps.length->BindsTo s fd ⟨us,ks.zip ws⟩ (ps.zip (g us ws))
 rel:∀{vs:List V}{us:List Value}{zs:List V}{ws:List Value},Vals vs us->Vals zs ws->Vals (gV vs zs) (g us ws)
variable {g:List Value->List Value->List Value}{gV:List V->List V->List V}
end
structure zI(N P:List Str)(sc:Scope):Prop where
 kind:sc.kind=.function
 co:sc.isCoroutine=false
 gen:sc.isGenerator=false
 nd:N.Nodup
 pre:N.take P.length=P
 par:∀x∈P,sc.names.lookup x=some .local \/ sc.names.lookup x=some .cell
 nofree:∀y∈sc.names,y.2 ≠ .free
def zL3{kindOf:Str->Option NameKind}{x:Str}:∀{binds:List (Str×Value)}{m:Str->Option Value},(∀v,(x,v)∉binds)->bindL kindOf binds m x=m x
 | [],_,_=>rfl
 | (n,v)::r,m,h=>by
  unfold bindL
  rw[zL3 fun w hw=>h w (Ad _ hw)]
  split
  ·have:x≠n:=by rintro rfl;exact h v Ae
   simp[this]
  ·rfl
def zL8{kindOf:Str->Option NameKind}{x:Str}:∀{binds:List (Str×Value)}{m:Str->Option Value},(∀v,(x,v)∉binds)->bindC kindOf binds m x=m x
 | [],_,_=>rfl
 | (n,v)::r,m,h=>by
  unfold bindC
  rw[zL8 fun w hw=>h w (Ad _ hw)]
  split
  ·rfl
  ·have:x≠n:=by rintro rfl;exact h v Ae
   simp[this]
def zK1{kindOf:Str->Option NameKind}{x:Str}{v:Value}:∀{P:List Str}{vs:List Value}{i:Nat}{m:Str->Option Value},P.Nodup->P[i]?=some x->vs[i]?=some v->kindOf x=some .local ->
  bindL kindOf (P.zip vs) m x=some v
 | [],_,_,_,_,h,_,_=>by simp at h
 | _::_,[],_,_,_,_,h,_=>by simp at h
 | p::P,w::vs,0,m,nd,h1,h2,hk=>by
  simp at h1 h2;subst h1;subst h2
  show bindL kindOf ((p,w)::P.zip vs) m p=_
  unfold bindL
  rw[zL3 fun v hv=>(Bh.mp nd).1 (CQ hv).1,Aq hk]
  simp
 | p::P,w::vs,i+1,m,nd,h1,h2,hk=>by
  show bindL kindOf ((p,w)::P.zip vs) m x=_
  unfold bindL
  exact zK1 (i:=i) (Bh.mp nd).2 (by simpa using h1) (by simpa using h2) hk
def zK2{kindOf:Str->Option NameKind}{x:Str}{v:Value}:∀{P:List Str}{vs:List Value}{i:Nat}{m:Str->Option Value},P.Nodup->P[i]?=some x->vs[i]?=some v->kindOf x≠some .local ->
  bindC kindOf (P.zip vs) m x=some v
 | [],_,_,_,_,h,_,_=>by simp at h
 | _::_,[],_,_,_,_,h,_=>by simp at h
 | p::P,w::vs,0,m,nd,h1,h2,hk=>by
  simp at h1 h2;subst h1;subst h2
  show bindC kindOf ((p,w)::P.zip vs) m p=_
  unfold bindC
  rw[zL8 fun v hv=>(Bh.mp nd).1 (CQ hv).1,AJ hk]
  simp
 | p::P,w::vs,i+1,m,nd,h1,h2,hk=>by
  show bindC kindOf ((p,w)::P.zip vs) m x=_
  unfold bindC
  exact zK2 (i:=i) (Bh.mp nd).2 (by simpa using h1) (by simpa using h2) hk
def start(N:List Str)(vs:List V):St:=vs.map some++List.replicate (N.length-vs.length) none
def cxOf(CX:CXT)(P:Program)(w:World)(K:KFr)(mg:Str->Option Value)(base:Heap)(N:List Str)(qual:Str)(scope:Scope)(f:Addr)(cd:Value)(A:Around)(outer:List Env)(s:Shared)(H:Hp)(E:XK):Cx where
 prog:=P
 w:=w
 K:=K
 mg:=mg
 base:=base
 A:=A.deeper (envOfC qual scope s.heap.objs.size f cd)
 N:=N
 s₀:=s
 H₀:=H
 env:=envOfC qual scope s.heap.objs.size f cd
 outer:=outer
 stack:=envOfC qual scope s.heap.objs.size f cd::outer
 ex:=[]
 calm:=true
 fn:=fun _=>true
 pn:=[]
 xe:=fun e s'=>wpAny (model P w) (A.deeper (envOfC qual scope s.heap.objs.size f cd)) (leaving (envOfC qual scope s.heap.objs.size f cd) e) (fun _ s''=>CX outer H s E e s'') (fun e' s''=>CX outer H s E e' s'') s'
def zC5{sc:Scope}{n:Nat}{x:Str}(h:sc.names.lookup x=some .cell):∃c,(cellsFrom n sc.names []).lookup x=some c:=by
 have q:=PySem.W.cellsFrom_some sc.names n [] (.inl h)
 exact CP.mp q
def yF4{CX:CXT}{P:Program}{w:World}{K:KFr}{mg:Str->Option Value}{base:Heap}{N ps:List Str}{qual:Str}{scope:Scope}{f:Addr}{cd:Value}{A:Around}{outer:List Env}{s s1:Shared}{H:Hp}{E:XK}{us:List Value}{vs:List V}
  (S:zI N ps scope) (hd:A.handled=none) (e0:Env0 P w K mg base A outer s H) (hl:vs.length=ps.length) (r:Vals vs us)
  (x:InCallC s s.heap.objs.size (bindL (envOfC qual scope s.heap.objs.size f cd).kindOf (ps.zip us) fun _=>none) (cellsFrom (s.heap.objs.size+1) scope.names []) (bindC (envOfC qual scope s.heap.objs.size f cd).kindOf (ps.zip us) fun _=>none) s1) :
  Inv (cxOf CX P w K mg base N qual scope f cd A outer s H E) [] (start N vs) H s1:=by
 have hpl:ps.length<=N.length:=by have:=Bw List.length S.pre;rw[BE] at this;rfl'
 obtain⟨h1,tk,rfl,hk⟩:=x.done
 have noA:∀b:Addr,b∉(cxOf CX P w K mg base N qual scope f cd A outer s H E).ex:=fun b z=>absurd (show b∈([]:List Addr) from z) (by simp)
 refine⟨⟨e0.mod,S.kind,rfl,rfl,Ak _,fun y z c h1 h2 => ?_,fun y hy => ?_,fun y c _ h => ?_,fun _=>hd,Around.frames_deeper e0.frames,.inr ⟨rfl,rfl⟩,fun b z=>absurd z (noA b),e0.bs,e0.bsz,fun b _ _=>noA b,fun b z=>absurd z (noA b),e0.funs,e0.frf,e0.tb⟩,
  rfl,e0.bare,Un.kept hk,⟨_,x.toInCall.ns,fun i y v h1 h2 h3 => ?_⟩,fun y c h=>⟨_,x.cell y c h⟩,e0.hok.fresh (Ak _),fun y c h => ?_,fun p hp=>absurd (show p∈([]:List (Addr×Obj)) from hp) (by simp),e0.hok.kept hk,?_⟩
 ·exact name_of_addr x.apart (Bb h1) (Bb h2)
 ·have hy:scope.names.lookup y=some .cell\/scope.names.lookup y=some .free:=hy
  rcases hy with hy | hy
  ·exact zC5 hy
  ·exact absurd rfl (S.nofree _ (Bb hy))
 ·exact BC (x.above y c (Bb h))
 ·have hi:i<vs.length:=by
   unfold start at h2
   by_cases hi:i<vs.length
   ·exact hi
   ·rw[Bo (by simpa using hi)] at h2
    rw[Bi] at h2
    split at h2 <;> cases h2
  have ha:vs[i]?=some v:=by
   unfold start at h2
   rw[Bl (by simpa using hi),Ai] at h2
   cases e:vs[i]? with
   | none=>rw[e] at h2;cases h2
   | some a=>rw[e] at h2;cases h2;rfl
  obtain⟨u,hu,rv⟩:=r.get ha
  have hp:ps[i]?=some y:=by
   rw[<-S.pre,List.getElem?_take_of_lt (by rfl')];exact h1
  have ndP:ps.Nodup:=by rw[<-S.pre];exact S.nd.sublist (List.take_sublist _ _)
  refine⟨u,rv,?_⟩
  rcases S.par y (As hp) with k | k
  ·exact .inl ⟨k,zK1 ndP hp hu k⟩
  ·obtain⟨c,e⟩:=zC5 (n:=s.heap.objs.size+1) k
   refine .inr ⟨.inl k,c,e,?_⟩
   have q:=x.cell y c e
   rw[zK2 ndP hp hu (by show scope.names.lookup y≠_;rw[k];decide)] at q
   exact q
 ·exact e0.hok.fresh (BC (x.above y c (Bb h)))
 ·unfold start
  show _=N.length
  rw[Ao,Aa,Bj]
  rfl'
def zR2{CX:CXT}{P:Program}{w:World}{K:KFr}{mg:Str->Option Value}{base:Heap}{k:Nat}{f:Addr}{name qual:Str}{params:Arguments}{body:List Stmt}{scope:Scope}{dV kV doc pm cdv ct oc:Value}{an od:Option Addr}
  {osl:Array (Option Value)}{N ps:List Str}{sp:Sp}(lk:K.lookup f=some ⟨oc,od,.func (PySem.W.fnOf name qual params body scope dV kV doc pm an cdv ct),osl⟩) (hcd:PySem.W.codeIn K cdv qual=true) (S:zI N ps scope)
  (len:∀vs H Q E,sp vs H Q E->vs.length=ps.length)
  (hbody:∀(A:Around) (outer:List Env) (s:Shared) (H:Hp) (vs:List V) (Q:VK) (E:XK),Room k (A.deeper (envOfC qual scope s.heap.objs.size f cdv))->sp vs H Q E ->
   ∃t,PSs (cxOf CX P w K mg base N qual scope f cdv A outer s H E) body t/\t { nx:=fun _ H'=>Q .non H',rt:=Q } (start N vs) H) :
  FnOk P w K mg base CX (k+1) f (PySem.W.fnOf name qual params body scope dV kV doc pm an cdv ct) ps sp:=by
 refine⟨len,fun A outer s H args us vs Q E hr e0 hb r hsp => ?_⟩
 have hl:=len _ _ _ _ hsp
 have KX:K.In s.heap:=e0.mod.kin.keeps fun b o e=>(e0.bs b o e).1
 have lim:s.heap.NoLimit:=e0.mod.nolimit.keeps fun b o e=>(e0.bs b o e).1
 have hkind:∀y∈ps.zip us,scope.names.lookup y.1=some .local \/ (scope.names.lookup y.1=some .cell/\((cellsFrom (s.heap.objs.size+1) scope.names []).lookup y.1).isSome=true):=fun ⟨n,v⟩ hy=>by
  rcases S.par n (CQ hy).1 with q | q
  ·exact .inl q
  ·exact .inr ⟨q,PySem.W.cellsFrom_some _ _ _ (.inl q)⟩
 refine codeAny_call_function hr.depth (KX _ _ lk) rfl S.co S.gen rfl (PySem.W.codeRec_of KX hcd) (hb _ _ _ _ ?_)
 refine wpAny_newFunctionEnv_cells S.kind hkind fun env he s1 x => ?_
 subst he
 refine⟨lim.keeps x.toInCall.keep,codeAny_func ?_⟩
 obtain⟨t,ht,hq⟩:=hbody A outer s H vs Q E (hr.deeper _) hsp
 have I:Inv (cxOf CX P w K mg base N qual scope f cdv A outer s H E) [] (start N vs) H s1:=yF4 S hr.hd e0 hl r x
 refine wpAny_mono (ht [] s1 (start N vs) H _ I hq) (fun fl s' hs => ?_) fun e s' hs=>hs
 have fin:∀{σ':St}{H':Hp}{v:V}{u:Value},Inv (cxOf CX P w K mg base N qual scope f cdv A outer s H E) [] σ' H' s'->RelV v u->Q v H'->CE outer P w H s Q u s' :=
  fun {σ' H' v u} J rv q=>⟨v,H',J.os,J.bare,J.base,J.hok,rv,q⟩
 cases fl with
 | ret u =>
  obtain⟨v,σ',H',J,rv,q⟩:=hs
  exact fin J rv q
 | next =>
  obtain⟨σ',H',J,q⟩:=hs
  exact fin (v:=V.non) (u:=Value.none) J rfl q
 | brk =>
  obtain⟨_,_,_,q⟩:=hs
  exact False.elim q
 | cont =>
  obtain⟨_,_,_,q⟩:=hs
  exact False.elim q
section
variable {X:Cx}{x:Str}{p pos:Pos}{e:Expr}{es:List Expr}{t:TA}{id T:String}{r:List V->Hp->VK->Prop}
def tCB(r:List V->Hp->VK->Prop)(t:TA):TE:=fun σ H Q=>t σ H fun vs H1=>r vs H1 Q
def wM(hc:CallR X (.builtin id) r)(hg:Gl X x)(hm:X.mg x=none)(hv:bootBuiltins x=some (.builtin id))(ha:PA X (e::es) t)(hn:autoParam (x ≠ "__name__") DG)(hdb:autoParam ((x == ("__debug__":Str))=false) DG)
  (he:autoParam (starEach (e::es) X.env=(false,eval e X.env)::starEach es X.env) DH) (hpl:autoParam ((backTo pos (starEach es X.env)).any (·.1)=false) DH):PE X (.Call (.Name x p) (e::es) [] pos) (tCB r t):=by
 intro DI s σ H Q I h
 refine wpAny_Call_Name_kw (bZ I hg hm hv ?_ hn hdb)
 exact PyProof.Rows.callWith_builtin1 (thn (ha pos DI s σ H _ I h) fun us s1 ⟨vs,H1,I1,r1,q1⟩=>hc DI s1 σ H1 vs us Q I1 r1 q1) he hpl
def yF(hc:CallR X (.type T) r)(hg:Gl X x)(hm:X.mg x=none)(hv:bootBuiltins x=some (.type T))(ha:PA X (e::es) t)(hn:autoParam (x ≠ "__name__") DG)(hdb:autoParam ((x == ("__debug__":Str))=false) DG)
  (he:autoParam (starEach (e::es) X.env=(false,eval e X.env)::starEach es X.env) DH) (hpl:autoParam ((backTo pos (starEach es X.env)).any (·.1)=false) DH):PE X (.Call (.Name x p) (e::es) [] pos) (tCB r t):=by
 intro DI s σ H Q I h
 refine wpAny_Call_Name_kw (bZ I hg hm hv ?_ hn hdb)
 exact Cu (thn (ha pos DI s σ H _ I h) fun us s1 ⟨vs,H1,I1,r1,q1⟩=>hc DI s1 σ H1 vs us Q I1 r1 q1) he hpl
end
end L2
namespace HT
open PySem PyProof.Rows
section
open PySem.SeqAt
open PySem.AutoSeq1 (wpAny_loadPart')
open PySem.MeetsSeq PySem.MeetsSeq2 PySem.MeetsSeq3
end
section
variable {prog:Program}{w:World}{A:Around}{E:Value->Shared->Prop}{s:Shared}
def sIx(n d:Nat):Option Int->Nat
 | none=>d
 | some v=>if v<0 then (v+(n:Int)).toNat else min v.toNat n
def yX5(n d:Nat):sIx n d none=d:=rfl
def yS1(n d k:Nat):sIx n d (some (k:Int))=min k n:=by
 show (if (k:Int)<0 then ((k:Int)+(n:Int)).toNat else min (k:Int).toNat n)=min k n
 rw[AJ (by rfl'),AI]
def xA2(n d:Nat)(hd:d<=n)(o:Option Int):sIx n d o<=n:=by
 cases o with
 | none=>exact hd
 | some v =>
  show (if v<0 then (v+(n:Int)).toNat else min v.toNat n)<=n
  by_cases hv:v<0
  ·rw[Aq hv];rfl'
  ·rw[AJ hv];exact Nat.min_le_right _ _
def yT2(v:Int)(n d:Nat):(if v<0 then max (v+(n:Int)) 0 else min v (n:Int))=((sIx n d (some v):Nat):Int):=by
 show (if v<0 then max (v+(n:Int)) 0 else min v (n:Int))=(((if v<0 then (v+(n:Int)).toNat else min v.toNat n):Nat):Int)
 by_cases hv:v<0
 ·simp only[Aq hv];rfl'
 ·simp only[AJ hv];rfl'
def yN3(lo hi:Option Int)(n:Nat):Builtin.Slice.sliceAdjust lo hi 1 (n:Int)=(((sIx n 0 lo:Nat):Int),((sIx n n hi:Nat):Int)):=by
 have h1:¬((1:Int)<0):=by rfl'
 unfold Builtin.Slice.sliceAdjust
 simp only[h1,if_false]
 refine Prod.ext ?_ ?_
 ·cases lo with
  | none=>rfl
  | some v=>exact yT2 v n 0
 ·cases hi with
  | none=>rfl
  | some v=>exact yT2 v n n
def yN2(i j:Nat):Builtin.Slice.slicePlaces (i:Int) (j:Int) 1=j-i:=by
 unfold Builtin.Slice.slicePlaces
 have h1:(1:Int) > 0:=by rfl'
 simp only[h1,if_true,Int.ediv_one]
 split <;> rfl'
def zV9{v:Value}{o:Option Int}{Q:Option Int->Shared->Prop}(p:IsPart v o)(h:Q o s):wpAny (model prog w) A (Builtin.Slice.slicePartIndex v) Q E s:=by
 cases p with
 | none=>exact slicePart_none h
 | int i t=>exact slicePart_int h
def gP{sl:Addr}{vl vu:Value}{lo hi:Option Int}{n:Nat}{Q:Int×Int×Nat->Shared->Prop}(hs:s.heap.IsSliceOf sl vl vu .none)(pl:IsPart vl lo)(pu:IsPart vu hi)
  (h:Q (((sIx n 0 lo:Nat):Int),1,sIx n n hi-sIx n 0 lo) s):wpAny (model prog w) A (Builtin.Slice.sliceApplied (.ref sl) (pure (n:Int))) Q E s:=by
 obtain⟨os,hos,hcs,hds⟩:=id hs
 unfold Builtin.Slice.sliceApplied Builtin.Slice.sliceFields
 refine Ah (Ah (wpAny_field hos hds (x:=vl) rfl (Ah (wpAny_field hos hds (x:=vu) rfl (Ah (wpAny_field hos hds (x:=.none) rfl (Ax ?_)))))))
 refine Ah (slicePart_none ?_)
 show wpAny _ _ (if ((1:Int) == 0)=true then _ else _) _ _ s
 rw[AJ (by decide)]
 refine Ah (zV9 pl (Ah (zV9 pu (Ah (Ax ?_)))))
 show wpAny _ _ (match Builtin.Slice.sliceAdjust lo hi 1 (n:Int) with | (lo,hi)=>pure (lo,(1:Int),Builtin.Slice.slicePlaces lo hi 1)) _ _ s
 rw[yN3 lo hi n]
 show wpAny _ _ (pure (((sIx n 0 lo:Nat):Int),(1:Int),Builtin.Slice.slicePlaces ((sIx n 0 lo:Nat):Int) ((sIx n n hi:Nat):Int) 1)) _ _ s
 rw[yN2]
 exact Ax h
def xZ1(xs:Array Value)(i k:Nat):((List.range k).filterMap fun (m:Nat)=>xs[((i:Int)+(m:Int)*1).toNat]?).toArray=((xs.toList.drop i).take k).toArray:=by
 have e:(fun (m:Nat)=>xs[((i:Int)+(m:Int)*1).toNat]?)=fun m=>xs[i+m]?:=by
  funext m
  have:((i:Int)+(m:Int)*1).toNat=i+m:=by rfl'
  rw[this]
 rw[e]
 have:=pick_run xs i k
 rw[List.filterMap_map] at this
 have e2:((fun x=>xs[x]?)∘fun x=>i+x)=fun m=>xs[i+m]?:=rfl
 rw[e2] at this
 rw[this]
def zZ2{t sl:Addr}{items:Array Value}{vl vu:Value}{lo hi:Option Int}{Q:Value->Shared->Prop}(ht:IsTup s.heap t items)(hs:s.heap.IsSliceOf sl vl vu .none)(pl:IsPart vl lo)(pu:IsPart vu hi)
  (hw:¬(sIx items.size 0 lo=0/\sIx items.size items.size hi=items.size))
  (h:Q (.ref s.heap.objs.size) { s with heap:=s.heap.push { cls:=.type "tuple",data:=.seq ((items.toList.drop (sIx items.size 0 lo)).take (sIx items.size items.size hi-sIx items.size 0 lo)).toArray } })
  (hsz:items.size<=sizeLine):wpAny (model prog w) A (getItem (.ref t) (.ref sl)) Q E s:=by
 have htake:sizeOk (.seq ((items.toList.drop (sIx items.size 0 lo)).take (sIx items.size items.size hi-sIx items.size 0 lo)).toArray):=by
  show ((items.toList.drop (sIx items.size 0 lo)).take (sIx items.size items.size hi-sIx items.size 0 lo)).toArray.size<=sizeLine
  rw[Am,BE,BQ,BX]
  rfl'
 have hj:sIx items.size items.size hi<=items.size:=xA2 _ _ (Ak _) hi
 obtain⟨os,hos,hcs,hds⟩:=id hs
 have hTs:s.TypeIs (.ref sl) "slice":=⟨os,hos,hcs⟩
 unfold getItem
 try with_reducible refine wpAny_holding ?_
 first | refine Ah (Ax ?_) | skip
 refine Ah (wpAny_sequenceKey ht.typeIs (by decide) ?_)
 refine Ah (wpAny_callSpecial?_slot (name:=Str.ofString "__getitem__") ht.typeIs BO
  (wpAny_call_entry BO ht.typeIs entry_tuple_getitem ?_ (args_tuple_getitem _ _)))
 show wpAny _ _ (Builtin.Tuple.tupleItemsOf (.ref t) >>= _) _ _ s
 refine Ah (tupleItemsOf_ ht ?_)
 refine Ah (wpAny_typeOf hTs ?_)
 rw[Aq (by decide)]
 refine Ah (gP hs pl pu ?_)
 have hno:¬((((sIx items.size 0 lo:Nat):Int) == 0&&(1:Int) == 1&&(sIx items.size items.size hi-sIx items.size 0 lo) == items.size)=true):=by
  intro q
  rw[Ba,Ba] at q
  have q1:((sIx items.size 0 lo:Nat):Int)=0:=eq_of_beq q.1.1
  have q2:sIx items.size items.size hi-sIx items.size 0 lo=items.size:=eq_of_beq q.2
  exact hw ⟨by rfl',by rfl'⟩
 show wpAny _ _ (if (((sIx items.size 0 lo:Nat):Int) == 0&&(1:Int) == 1&&(sIx items.size items.size hi-sIx items.size 0 lo) == items.size)=true then _ else _) _ _ s
 rw[AJ hno,xZ1]
 first
  | exact Ah (m:=Builtin.Tuple.tupleExact _) (wpAny_newObj_type (Ax ⟨_,rfl,Ax h⟩) htake)
  | exact Ah (m:=Builtin.Tuple.tupleExact _) (wpAny_newObj_type (Ah (Ax (Ax ⟨_,rfl,Ax h⟩))) htake)
  | exact Ah (Ah (m:=Builtin.Tuple.tupleExact _) (wpAny_newObj_type (Ax (Ax ⟨_,rfl,Ax h⟩)) htake))
  | exact Ah (Ah (m:=Builtin.Tuple.tupleExact _) (wpAny_newObj_type (Ax ⟨_,rfl,Ax h⟩) htake))
end
end HT
namespace L2
open PySem PySem.Spec PyProof.Rows
abbrev TO:=St->Hp->(Option Int->Hp->Prop)->Prop
def PO(X:Cx)(e:Option Expr)(t:TO):Prop :=
 ∀(DI:List (Addr×Obj)) (s:Shared) (σ:St) (H:Hp) (Q:Option Int->Hp->Prop),Inv X DI σ H s->t σ H Q ->
  wpAny (model X.prog X.w) X.A (evalPart e X.env) (fun u s'=>∃o H',Inv X DI σ H' s'/\IsPart u o/\Q o H') X.xe s
def tNoPart:TO:=fun _ H Q=>Q none H
def tPart(t:TE):TO:=fun σ H Q=>t σ H fun x H1=>∃i,x=.int i/\Q (some i) H1
def kF{ns:List Int}:∀{us:List Value},Vals (ns.map V.int) us->IntsAre us ns:=by
 induction ns with
 | nil=>intro us r;rw[Dv] at r;cases r;exact .nil
 | cons n ns ih =>
  intro us r
  rw[AU] at r
  cases r with
  | cons r1 r2 =>
   obtain⟨t,e⟩:=r1
   subst e
   exact .cons n t (ih r2)
section
variable {X:Cx}{e:Expr}{te:TE}{lo hi:Option Expr}{tl th:TO}{pos p2:Pos}
def xI5:PO X none tNoPart:=by
 intro DI s σ H Q I h
 rw[evalPart_none]
 exact Ax ⟨none,H,I,.none,h⟩
def xI2(h:PE X e te):PO X (some e) (tPart te):=by
 intro DI s σ H Q I hw
 rw[evalPart_some]
 refine thn (h DI s σ H _ I hw) fun u s1 ⟨x,H1,I1,r1,q1⟩ => ?_
 obtain⟨i,rfl,q⟩:=q1
 obtain⟨t,rfl⟩:=r1
 exact⟨some i,H1,I1,.int i t,q⟩
def SlR(X:Cx)(r:V->Option Int->Option Int->Hp->VK->Prop):Prop :=
 ∀(DI:List (Addr×Obj)) (s:Shared) (σ:St) (H:Hp) (x:V) (v vl vu:Value) (lo hi:Option Int) (sl:Addr) (Q:VK),Inv X DI σ H s->RelV x v->s.heap.IsSliceOf sl vl vu .none->IsPart vl lo->IsPart vu hi->r x lo hi H Q ->
  ∃T id,typeLookup (.type T) "__getitem__" = pure (some (.builtin id))/\s.TypeIs v T/\wpAny (model X.prog X.w) X.A (getItem v (.ref sl)) (EP X DI σ Q) X.xe s
def SlR.or{r r':V->Option Int->Option Int->Hp->VK->Prop}(h:SlR X r)(h':SlR X r'):SlR X (fun x lo hi H Q=>r x lo hi H Q\/r' x lo hi H Q):=by
 intro DI s σ H x v vl vu lo hi sl Q I rx hs pl pu q
 rcases q with q | q
 ·exact h DI s σ H x v vl vu lo hi sl Q I rx hs pl pu q
 ·exact h' DI s σ H x v vl vu lo hi sl Q I rx hs pl pu q
def tSl(r:V->Option Int->Option Int->Hp->VK->Prop)(te:TE)(tl th:TO):TE:=fun σ H Q=>te σ H fun x H1=>tl σ H1 fun l H2=>th σ H2 fun u H3=>r x l u H3 Q
def xS1{r:V->Option Int->Option Int->Hp->VK->Prop}(hr:SlR X r)(he:PE X e te)(hl:PO X lo tl)(hu:PO X hi th):PE X (.Subscript e (.Slice lo hi none p2) pos) (tSl r te tl th):=by
 intro DI s σ H Q I h
 refine Subscript_ (thn (he DI s σ H _ I h) fun v s1 ⟨x,H1,I1,r1,q1⟩ => ?_)
 refine wpAny_Slice (thn (hl DI s1 σ H1 _ I1 q1) fun vl s2 ⟨l,H2,I2,pl,q2⟩=>thn (hu DI s2 σ H2 _ I2 q2) fun vu s3 ⟨u,H3,I3,pu,q3⟩ => ?_)
 rw[evalPart_none]
 refine Ax ?_
 have I4:Inv X DI σ H3 { s3 with heap:=s3.heap.push { cls:=.type "slice",data:=.fields #[vl,vu,.none] } }:=I3.kept (t':=s3.toks) fun b ob q=>Af _ q
 obtain⟨T,id,hT,ht,hg⟩:=hr DI { s3 with heap:=s3.heap.push { cls:=.type "slice",data:=.fields #[vl,vu,.none] } } σ H3 x v vl vu l u s3.heap.objs.size Q I4 r1 (Heap.IsSliceOf.new ..) pl pu q3
 show wpAny (model X.prog X.w) X.A (subscriptTail e (.Slice lo hi none p2) v (.ref s3.heap.objs.size)) (EP X DI σ Q) X.xe { s3 with heap:=s3.heap.push { cls:=.type "slice",data:=.fields #[vl,vu,.none] } }
 exact tail_any (ops:=[.ref s3.heap.objs.size,v]) ht hT hg (by with_unfolding_all rfl)
def cutV(xs:List V)(lo hi:Option Int):List V:=(xs.drop (HT.sIx xs.length 0 lo)).take (HT.sIx xs.length xs.length hi-HT.sIx xs.length 0 lo)
def zY1(xs:List V)(lo hi:Option Int):(cutV xs lo hi).length<=xs.length:=by
 unfold cutV
 rw[BE,BQ]
 rfl'
def rSlT(K:KFr):V->Option Int->Option Int->Hp->VK->Prop:=fun x lo hi H Q=>∃a xs,x=.ref a/\SqT K H a xs /\
 ¬(HT.sIx xs.length 0 lo=0/\HT.sIx xs.length xs.length hi=xs.length)/\∀p,H p=none->Q (.ref p) (upd H p (.tup (cutV xs lo hi)))
def xG7:SlR X (rSlT X.K):=by
 intro DI s σ H x v vl vu lo hi sl Q I rx hs pl pu h
 obtain⟨a,xs,rfl,hx,hw,q⟩:=h
 cases rx
 obtain⟨its,r,ht,hz⟩:=I.tuple hx
 have hlen:its.toArray.size=xs.length:=by rw[Am];exact r.length.symm
 refine⟨"tuple",_,BO.lookup,ht.typeIs,?_⟩
 refine HT.zZ2 ht hs pl pu (by rw[hlen];exact hw) ?_ (by rw[hlen];exact hz)
 rw[hlen]
 refine⟨.ref s.heap.objs.size,_,I.laid (t':=s.toks) (o:=.tup (cutV xs lo hi)) (fun b ob q=>Af _ q) (Ak _) ?_,rfl,q _ (I.hok.fresh (Ak _))⟩
 exact⟨Bf (zY1 xs lo hi) hz,_,(r.drop (HT.sIx xs.length 0 lo)).take (HT.sIx xs.length xs.length hi-HT.sIx xs.length 0 lo),TupAt.new _ _⟩
end
def ixN(n:Nat)(i:Int):Option Nat:=if 0<=i then (if i<n then some i.toNat else none) else if -(n:Int)<=i then some (i+n).toNat else none
def atI{α:Type}(xs:List α)(i:Int):Option α:=(ixN xs.length i).bind fun j=>xs[j]?
def yU6{n:Nat}{i:Int}{j:Nat}(h:ixN n i=some j):seqIndex? i n=some j/\j<n/\-(n:Int)<=i/\i<n:=by
 unfold ixN at h
 by_cases h0:0<=i
 ·rw[Aq h0] at h
  by_cases h1:i<n
  ·rw[Aq h1] at h
   have e:i.toNat=j:=AW h
   exact⟨by rw[seqIndex_of h0 h1,e],by rfl',by rfl',h1⟩
  ·rw[AJ h1] at h;cases h
 ·rw[AJ h0] at h
  by_cases h1:-(n:Int)<=i
  ·rw[Aq h1] at h
   have e:(i+n).toNat=j:=AW h
   exact⟨by rw[seqIndex_neg (by rfl') h1,e],by rfl',h1,by rfl'⟩
  ·rw[AJ h1] at h;cases h
def zN9{α:Type}{xs:List α}{i:Int}{v:α}(h:atI xs i=some v):∃j,seqIndex? i xs.length=some j/\xs[j]?=some v/\j<xs.length/\-(xs.length:Int)<=i/\i<xs.length:=by
 unfold atI at h
 cases e:ixN xs.length i with
 | none=>rw[e] at h;cases h
 | some j =>
  rw[e] at h
  obtain⟨h1,h2,h3,h4⟩:=yU6 e
  exact⟨j,h1,h,h2,h3,h4⟩
def zQ5{α:Type}{xs:List α}{j:Nat}{v:α}(h:xs[j]?=some v):atI xs (j:Int)=some v:=by
 have hj:j<xs.length:=(Ac.mp h).1
 have e:ixN xs.length (j:Int)=some j:=by
  unfold ixN
  rw[Aq (by rfl'),Aq (by rfl')];simp
 unfold atI;rw[e];exact h
def zW4{α:Type}(xs:List α)(v:α):atI (xs ++ [v]) (-1)=some v:=by
 have hl:(xs ++ [v]).length=xs.length+1:=by simp
 have e:ixN (xs ++ [v]).length (-1)=some xs.length:=by
  unfold ixN
  rw[hl,AJ (by decide),Aq (by rfl')]
  congr 1
  rfl'
 unfold atI
 rw[e]
 show (xs ++ [v])[xs.length]?=some v
 simp
def PlainIx(b:Expr):Prop:=∀o i,subscripted b false o i=operate [o,i] (getItem o i)
def IxR(X:Cx)(r:R2):Prop :=
 ∀(value slice:Expr) (DI:List (Addr×Obj)) (s:Shared) (σ:St) (H:Hp) (x y:V) (v u:Value) (Q:VK),Inv X DI σ H s->RelV x v->RelV y u->r x y H Q ->
  subscripted slice false v u=operate [v,u] (getItem v u)->wpAny (model X.prog X.w) X.A (subscriptTail value slice v u) (EP X DI σ Q) X.xe s
def MtR(X:Cx)(id:String)(r:V->List V->Hp->VK->Prop):Prop :=
 ∀(DI:List (Addr×Obj)) (s:Shared) (σ:St) (H:Hp) (x:V) (xs:List V) (v:Value) (us:List Value) (Q:VK),Inv X DI σ H s->RelV x v->Vals xs us->r x xs H Q ->
  wpAny (model X.prog X.w) X.A (call (.builtin id) (v::us)) (EP X DI σ Q) X.xe s
section
variable {X:Cx}{a b:Expr}{ta tb:TE}{pos:Pos}
def IxR.or{r r':R2}(h:IxR X r)(h':IxR X r'):IxR X (fun x y H Q=>r x y H Q\/r' x y H Q):=by
 intro value slice DI s σ H x y v u Q I rx ry q hs
 rcases q with q | q
 ·exact h value slice DI s σ H x y v u Q I rx ry q hs
 ·exact h' value slice DI s σ H x y v u Q I rx ry q hs
def yA{r:R2}(hr:IxR X r)(ha:PE X a ta)(hb:PE X b tb)(hs:PlainIx b):PE X (.Subscript a b pos) (tOp r ta tb):=by
 intro DI s σ H Q I h
 exact Subscript_ (binT ha hb I h fun v u s2 x y H2 I2 rx ry q=>hr a b DI s2 σ H2 x y v u Q I2 rx ry q (hs _ _))
def rIxL(K:KFr):R2:=fun x y H Q=>∃p xs i v,x=.ref p/\y=.int i/\SqL K H p xs/\atI xs i=some v/\Q v H
def rIxT(K:KFr):R2:=fun x y H Q=>∃p xs i v,x=.ref p/\y=.int i/\SqT K H p xs/\atI xs i=some v/\Q v H
def rIxS:R2:=fun x y H Q=>∃z i c,x=.str z/\y=.int i/\z.length<=sizeLine/\atI z.cps.toList i=some c/\Q (.str ⟨#[c]⟩) H
def vE:IxR X (rIxL X.K):=by
 intro value slice DI s σ H x y v u Q I rx ry h hs
 obtain⟨p,xs,i,z,rfl,rfl,hq,he,q⟩:=h
 cases rx
 obtain⟨t,rfl⟩:=ry
 obtain⟨its,r,pl,hz⟩:=I.list hq
 obtain⟨j,h1,h2,h3,h4,h5⟩:=zN9 he
 obtain⟨w,ew,rw'⟩:=r.get h2
 have hl:=r.length
 have hn:=line63
 have fin:EP X DI σ Q w s:=⟨z,H,I,rw',q⟩
 by_cases h0:0<=i
 ·have hj:i.toNat=j:=by
   rw[seqIndex_of h0 h5] at h1
   exact AW h1
  exact item_listR pl.isList h0 (by rfl') (by rw[hj];simpa using ew) fin hs
 ·have hj:(i+(its.toArray.size:Int)).toNat=j:=by
   rw[seqIndex_neg (by rfl') h4] at h1
   rw[Am,<-hl]
   exact AW h1
  exact subscriptTail_builtinR (x:=w) pl.isList.typeIs slot_list_getitem.lookup
   (wpAny_getItem_list_neg (Q:=fun r s'=>r=w/\EP X DI σ Q r s') pl.isList (by rfl') (by rw[Am] <;> rfl') (by rfl') (by rw[hj];simpa using ew) ⟨rfl,fin⟩) hs
def xK:IxR X (rIxT X.K):=by
 intro value slice DI s σ H x y v u Q I rx ry h hs
 obtain⟨p,xs,i,z,rfl,rfl,hq,he,q⟩:=h
 cases rx
 obtain⟨t,rfl⟩:=ry
 obtain⟨its,r,pl,hz⟩:=I.tuple hq
 obtain⟨j,h1,h2,h3,h4,h5⟩:=zN9 he
 obtain⟨w,ew,rw'⟩:=r.get h2
 have hl:=r.length
 have hn:=line63
 have fin:EP X DI σ Q w s:=⟨z,H,I,rw',q⟩
 exact subscriptTail_builtinR (x:=w) pl.typeIs slot_tuple_getitem.lookup
  (getItem_tuple (j:=j) (Q:=fun r s'=>r=w/\EP X DI σ Q r s') pl (by rfl') (by rfl') (by rw[Am,<-hl];exact h1) (by simpa using ew) ⟨rfl,fin⟩) hs
def xG6:IxR X rIxS:=by
 intro value slice DI s σ H x y v u Q I rx ry h hs
 obtain⟨z,i,c,rfl,rfl,hz,he,q⟩:=h
 obtain⟨t,rfl⟩:=rx
 obtain⟨t',rfl⟩:=ry
 obtain⟨j,h1,h2,h3,h4,h5⟩:=zN9 he
 have hl:z.cps.toList.length=z.length:=by simp[Str.length]
 rw[hl] at h1 h4 h5
 have hn:=line63
 exact tail_any (typeIs_str s z t) slot_str_getitem.lookup (getItem_str (c:=c) (by
  have e1:decide (i < -(2 ^ 63:Int))=false:=AA (by rfl')
  have e2:decide (i ≥ 2 ^ 63)=false:=AA (by rfl')
  rw[e1,e2,Bool.or_false]) (by rw[h1];simpa using h2) ⟨.str ⟨#[c]⟩,H,I.tok _,⟨_,rfl⟩,q⟩) hs
def rIx(K:KFr):R2:=fun x y H Q=>rIxL K x y H Q\/rIxT K x y H Q\/rIxS x y H Q
def yO:IxR X (rIx X.K):=vE.or (xK.or xG6)
def yN9(its:List Value)(n j:Nat)(u:Value):Obj.mapSeq (·.setIfInBounds j u) { cls:=.type "list",data:=.seq its.toArray n }={ cls:=.type "list",data:=.seq (its.set j u).toArray n }:=by
 simp[Obj.mapSeq]
def Inv.lst{DI:List (Addr×Obj)}{σ:St}{H:Hp}{s:Shared}{p:Addr}{xs:List V}(I:Inv X DI σ H s)(h:H p=some (.lst xs)) :
  ∃(its:List Value) (n:Nat),Vals xs its/\s.heap.get? p=some { cls:=.type "list",data:=.seq its.toArray n }/\xs.length<=sizeLine:=by
 obtain⟨z,its,n,r,e⟩:=I.hok p _ h
 exact⟨its,n,r,e,z⟩
def Inv.lstUpd{DI:List (Addr×Obj)}{σ:St}{H:Hp}{s:Shared}{p:Addr}{xs ys:List V}{its its':List Value}{n n':Nat}{f:Obj->Obj}(I:Inv X DI σ H s)(h:H p=some (.lst xs))
  (ho:s.heap.get? p=some { cls:=.type "list",data:=.seq its.toArray n }) (hf:f { cls:=.type "list",data:=.seq its.toArray n }={ cls:=.type "list",data:=.seq its'.toArray n' }) (r:Vals ys its') (hz:ys.length<=sizeLine) (t:Nat) :
  Inv X DI σ (upd H p (.lst ys)) { s with heap:=s.heap.update p f,toks:=t }:=by
 have e:(s.heap.update p f).get? p=some { cls:=.type "list",data:=.seq its'.toArray n' }:=by
  rw[Heap.get?_update_self f ho (by rw[hf] <;> rfl),hf]
 refine I.write (x:=p) (e:=p) (by rw[h];trivial) (.inl rfl) (fun b u hb q=>(BF _ _ (Cj hb)).trans q) ⟨_,e⟩ ?_
 exact⟨hz,its',n',r,e⟩
def rSetL:V->V->V->Hp->(Hp->Prop)->Prop:=fun o i v H Q=>∃p xs k j,o=.ref p/\i=.int k/\H p=some (.lst xs)/\ixN xs.length k=some j/\Q (upd H p (.lst (xs.set j v)))
def zW6:PSet X rSetL:=by
 intro DI s σ H o i v ov iv u Q I ro ri rv h
 obtain⟨p,xs,k,j,rfl,rfl,hp,hj,q⟩:=h
 cases ro
 obtain⟨t,rfl⟩:=ri
 obtain⟨its,n,r,ho,hz⟩:=I.lst hp
 obtain⟨h1,h2,h3,h4⟩:=yU6 hj
 have hl:=r.length
 have hn:=line63
 have I':Inv X DI σ (upd H p (.lst (xs.set j v))) { s with heap:=s.heap.update p (Obj.mapSeq (·.setIfInBounds j u)) } :=
  I.lstUpd hp ho (yN9 its n j u) (r.set rv j) (by rw[Bt];exact hz) s.toks
 by_cases h0:0<=k
 ·have hk:k.toNat=j:=by
   rw[seqIndex_of h0 h4] at h1
   exact AW h1
  exact PySem.W.ki_setAt ho h0 (by rfl') (by rw[Am,<-hl];exact h4) (by rw[hk];exact⟨_,I',q⟩)
 ·have hk:(k+(its.toArray.size:Int)).toNat=j:=by
   rw[seqIndex_neg (by rfl') h3] at h1
   rw[Am,<-hl]
   exact AW h1
  exact PySem.W.ki_setBack ho (by rfl') (by rw[Am,<-hl];exact h3) (by rfl') (by rw[hk];exact⟨_,I',q⟩)
def yY8(lo hi:Option Int)(n:Nat):(sliceBounds lo hi none n).1=((HT.sIx n 0 lo:Nat):Int)/\(sliceBounds lo hi none n).2.1=((HT.sIx n n hi:Nat):Int)/\(sliceBounds lo hi none n).2.2=1:=by
 refine⟨?_,?_,rfl⟩
 ·cases lo with
  | none=>simp[sliceBounds,HT.sIx]
  | some i =>
   simp only[sliceBounds,HT.sIx,Option.getD_none,show (1:Int) > 0 by decide,if_true]
   by_cases h:i<0
   ·simp only[h,if_true] <;> rfl'
   ·simp only[h,if_false] <;> rfl'
 ·cases hi with
  | none=>simp[sliceBounds,HT.sIx]
  | some i =>
   simp only[sliceBounds,HT.sIx,Option.getD_none,show (1:Int) > 0 by decide,if_true]
   by_cases h:i<0
   ·simp only[h,if_true] <;> rfl'
   ·simp only[h,if_false] <;> rfl'
def zI5(its:List Value)(lo hi:Option Int):slicePick its.toArray lo hi none=((its.drop (HT.sIx its.length 0 lo)).take (HT.sIx its.length its.length hi-HT.sIx its.length 0 lo)).toArray:=by
 obtain⟨h1,h2,h3⟩:=yY8 lo hi its.toArray.size
 unfold slicePick
 rw[h1,h2,h3]
 simp only[sliceRange_one,pick_run,Am] <;> rfl
def rSlL(K:KFr):V->Option Int->Option Int->Hp->VK->Prop:=fun x lo hi H Q=>∃a xs,x=.ref a/\SqL K H a xs/\∀p,H p=none->Q (.ref p) (upd H p (.lst (cutV xs lo hi)))
def xP3:SlR X (rSlL X.K):=by
 intro DI s σ H x v vl vu lo hi sl Q I rx hs pl pu h
 obtain⟨a,xs,rfl,hx,q⟩:=h
 cases rx
 obtain⟨its,r,ht,hz⟩:=I.list hx
 have hlen:=r.length
 refine⟨"list",_,slot_list_getitem.lookup,ht.isList.typeIs,?_⟩
 refine wpAny_getItem_list_slice ht.isList hs pl pu .none (by simp) ?_ (by rw[Am] <;> rfl')
 rw[zI5,<-hlen]
 refine⟨.ref s.heap.objs.size,_,I.laid (t':=s.toks) (o:=.lst (cutV xs lo hi)) (fun b ob q=>Af _ q) (Ak _) ?_,rfl,q _ (I.hok.fresh (Ak _))⟩
 exact⟨Bf (zY1 xs lo hi) hz,_,0,(r.drop (HT.sIx xs.length 0 lo)).take (HT.sIx xs.length xs.length hi-HT.sIx xs.length 0 lo),Aw _ rfl⟩
def flatV:V->Bool
 | .non=>true
 | .bl _=>true
 | .int _=>true
 | .str _=>true
 | _=>false
def eqV:V->V->Bool
 | .non,.non=>true
 | .bl a,.bl b=>a == b
 | .bl a,.int b=>(if a then 1 else 0) == b
 | .int a,.bl b=>a == (if b then 1 else 0)
 | .int a,.int b=>a == b
 | .str a,.str b=>a == b
 | _,_=>false
def xA9{A:Around}{s:Shared}{y x:V}{u v:Value}(ry:RelV y u)(rx:RelV x v)(fy:flatV y=true)(fx:flatV x=true):SeqAt.EqAt A s u v (eqV y x):=by
 cases y with
 | non =>
  cases ry
  cases x with
  | non=>cases rx;exact SeqAt.EqAt.same _
  | bl b=>cases rx;exact SeqAt.EqAt.none_bool b
  | int b=>obtain⟨t,rfl⟩:=rx;exact SeqAt.EqAt.none_int b t
  | str b=>obtain⟨t,rfl⟩:=rx;exact SeqAt.EqAt.none_str b t
  | _=>exact absurd (show false=true from fx) AK
 | bl a =>
  cases ry
  cases x with
  | non=>cases rx;exact SeqAt.EqAt.bool_none a
  | bl b=>cases rx;exact SeqAt.EqAt.bool_bool a b
  | int b=>obtain⟨t,rfl⟩:=rx;exact SeqAt.EqAt.bool_int a b t
  | str b=>obtain⟨t,rfl⟩:=rx;exact SeqAt.EqAt.bool_str a b t
  | _=>exact absurd (show false=true from fx) AK
 | int a =>
  obtain⟨t',rfl⟩:=ry
  cases x with
  | non=>cases rx;exact SeqAt.EqAt.int_none a t'
  | bl b=>cases rx;exact SeqAt.EqAt.int_bool a t' b
  | int b=>obtain⟨t,rfl⟩:=rx;exact SeqAt.EqAt.int_int a t' b t
  | str b=>obtain⟨t,rfl⟩:=rx;exact SeqAt.EqAt.int_str a t' b t
  | _=>exact absurd (show false=true from fx) AK
 | str a =>
  obtain⟨t',rfl⟩:=ry
  cases x with
  | non=>cases rx;exact SeqAt.EqAt.str_none a t'
  | bl b=>cases rx;exact SeqAt.EqAt.str_bool a t' b
  | int b=>obtain⟨t,rfl⟩:=rx;exact SeqAt.EqAt.str_int a t' b t
  | str b=>obtain⟨t,rfl⟩:=rx;exact SeqAt.EqAt.str_str a t' b t
  | _=>exact absurd (show false=true from fx) AK
 | _=>exact absurd (show false=true from fy) AK
def eqU(x:V)(u:Value):Bool:=match u with
 | .none=>eqV .non x
 | .bool b=>eqV (.bl b) x
 | .int i _=>eqV (.int i) x
 | .str z _=>eqV (.str z) x
 | _=>false
def zS6{x y:V}{u:Value}(r:RelV y u)(f:flatV y=true):eqU x u=eqV y x:=by
 cases y with
 | non=>cases r;rfl
 | bl b=>cases r;rfl
 | int i=>obtain⟨t,rfl⟩:=r;rfl
 | str z=>obtain⟨t,rfl⟩:=r;rfl
 | _=>exact absurd (show false=true from f) AK
def fB{x:V}:∀{xs:List V}{us:List Value},Vals xs us->xs.all flatV=true->us.any (eqU x)=xs.any fun y=>eqV y x
 | _,_,.nil,_=>rfl
 | y::xs,u::us,.cons r t,f=>by
  rw[Dk,Ba] at f
  rw[Dl,Dl,zS6 r f.1,fB t f.2]
def qB{A:Around}{s:Shared}{x:V}{v:Value}(rx:RelV x v)(fx:flatV x=true):∀{xs:List V}{us:List Value},Vals xs us->xs.all flatV=true->∀u∈us,SeqAt.EqAt A s u v (eqU x u)
 | _,_,.nil,_=>fun u hu=>by cases hu
 | y::xs,u::us,.cons r t,f=>fun u' hu=>by
  rw[Dk,Ba] at f
  rcases An.mp hu with rfl | hu
  ·rw[zS6 r f.1];exact xA9 r rx f.1 fx
  ·exact qB rx fx t f.2 u' hu
def inV(x:V)(xs:List V):Bool:=xs.any fun y=>eqV y x
def rIn(K:KFr)(neg:Bool):R2:=fun x y H Q=>∃p xs,y=.ref p/\(SqL K H p xs\/SqT K H p xs)/\flatV x=true/\xs.all flatV=true/\Q (.bl (if neg then !inV x xs else inV x xs)) H
def fY:OpR X (compareOp .In) (rIn X.K false):=by
 intro DI s σ H x y v u Q I rx ry h
 obtain⟨p,xs,rfl,hq,fx,fs,q⟩:=h
 cases ry
 rcases hq with hq | hq
 ·obtain⟨its,r,pl,hz⟩:=I.list hq
  refine SeqAt.in_listAt (eqU x) pl.isList (fun w hw=>qB rx fx r fs w (by simpa using hw)) ⟨.bl _,H,I,rfl,?_⟩
  rw[show its.toArray.any (eqU x)=its.any (eqU x) by simp,fB r fs]
  exact q
 ·obtain⟨its,r,pl,hz⟩:=I.tuple hq
  refine SeqAt.in_tupleAt (eqU x) pl (fun w hw=>qB rx fx r fs w (by simpa using hw)) ⟨.bl _,H,I,rfl,?_⟩
  rw[show its.toArray.any (eqU x)=its.any (eqU x) by simp,fB r fs]
  exact q
def gR:OpR X (compareOp .NotIn) (rIn X.K true):=by
 intro DI s σ H x y v u Q I rx ry h
 obtain⟨p,xs,rfl,hq,fx,fs,q⟩:=h
 cases ry
 rcases hq with hq | hq
 ·obtain⟨its,r,pl,hz⟩:=I.list hq
  refine SeqAt.notIn_listAt (eqU x) pl.isList (fun w hw=>qB rx fx r fs w (by simpa using hw)) ⟨.bl _,H,I,rfl,?_⟩
  rw[show its.toArray.any (eqU x)=its.any (eqU x) by simp,fB r fs]
  exact q
 ·obtain⟨its,r,pl,hz⟩:=I.tuple hq
  refine SeqAt.notIn_tupleAt (eqU x) pl (fun w hw=>qB rx fx r fs w (by simpa using hw)) ⟨.bl _,H,I,rfl,?_⟩
  rw[show its.toArray.any (eqU x)=its.any (eqU x) by simp,fB r fs]
  exact q
def zK:CallR X (.builtin "len") (fun xs H Q=>∃p ys,xs=[.ref p]/\(SqL X.K H p ys\/SqT X.K H p ys)/\Q (.int ys.length) H):=by
 intro DI s σ H xs us Q I r h
 obtain⟨p,ys,rfl,hq,q⟩:=h
 obtain⟨u,rfl,rx⟩:=vals1 r
 cases rx
 have hn:=line63
 rcases hq with hq | hq
 ·obtain⟨its,r',pl,hz⟩:=I.list hq
  have hlen:=r'.length
  exact Calls.call_len_list pl.isList (by simp only[Am] <;> rfl') ⟨.int ys.length,H,I.tok _,⟨s.toks+1,by rw[Am,hlen]⟩,q⟩
 ·obtain⟨its,r',pl,hz⟩:=I.tuple hq
  have hlen:=r'.length
  exact len_tuple pl (by simp only[Am] <;> rfl') ⟨.int ys.length,H,I.tok _,⟨s.toks+1,by rw[Am,hlen]⟩,q⟩
def bQ:CallR X (.builtin "len") (fun xs H Q=>∃z,xs=[.str z]/\z.length<=sizeLine/\Q (.int z.length) H):=by
 intro DI s σ H xs us Q I r h
 obtain⟨z,rfl,hz,q⟩:=h
 obtain⟨u,rfl,t,rfl⟩:=vals1 r
 have hn:=line63
 exact len_str (by rfl') ⟨.int z.length,H,I.tok _,⟨_,rfl⟩,q⟩
def zF3:CallR X (.type "list") (fun xs H Q=>∃p ys,xs=[.ref p]/\(SqL X.K H p ys\/SqT X.K H p ys)/\∀l,H l=none->Q (.ref l) (upd H l (.lst ys))):=by
 intro DI s σ H xs us Q I r h
 obtain⟨p,ys,rfl,hq,q⟩:=h
 obtain⟨u,rfl,rx⟩:=vals1 r
 cases rx
 have fin:∀(its:List Value),Vals ys its->ys.length<=sizeLine->∀(h':Heap) (c':Nat),(∀b o',s.heap.get? b=some o'->h'.get? b=some o') ->
   h'.get? s.heap.objs.size=some { cls:=.type "list",dict:=none,data:=.seq its.toArray c',slots:=#[] }->EP X DI σ Q (.ref s.heap.objs.size) { s with heap:=h' }:=fun its r' hz h' c' kp e =>
  ⟨.ref s.heap.objs.size,_,I.laid (t':=s.toks) kp (Ak _) (show ObjOk X.prog X.w _ h' _ (.lst ys) from ⟨hz,its,c',r',e⟩),rfl,q _ (I.hok.fresh (Ak _))⟩
 rcases hq with hq | hq
 ·obtain⟨its,r',pl,hz⟩:=I.list hq
  have hlen:=r'.length
  obtain⟨o,ho,hc,n,hd⟩:=pl.isList
  exact call_list_seq p (.inl rfl) ho hc hd (fun h' c' kp e=>fin its r' hz h' c' kp e) (by simp only[Am] <;> rfl')
 ·obtain⟨its,r',pl,hz⟩:=I.tuple hq
  have hlen:=r'.length
  obtain⟨o,ho,hc,n,hd⟩:=pl
  exact call_list_seq p (.inr rfl) ho hc hd (fun h' c' kp e=>fin its r' hz h' c' kp e) (by simp only[Am] <;> rfl')
def yY:CallR X (.type "tuple") (fun xs H Q=>∃p ys,xs=[.ref p]/\((SqL X.K H p ys/\∀l,H l=none->Q (.ref l) (upd H l (.tup ys)))\/(SqT X.K H p ys/\Q (.ref p) H))):=by
 intro DI s σ H xs us Q I r h
 obtain⟨p,ys,rfl,h⟩:=h
 obtain⟨u,rfl,rx⟩:=vals1 r
 cases rx
 rcases h with ⟨hq,q⟩ | ⟨hq,q⟩
 ·obtain⟨its,r',pl,hz⟩:=I.list hq
  have hlen:=r'.length
  refine call_tuple_list pl.isList (fun h' kp => ?_) (by simp only[Am] <;> rfl')
  have I1:Inv X DI σ H { s with heap:=h' }:=I.kept (t':=s.toks) kp
  have I2:Inv X DI σ (upd H h'.objs.size (.tup ys)) { s with heap:=h'.push { cls:=.type "tuple",data:=.seq its.toArray } } :=
   I1.laid (t':=s.toks) (fun b o e=>Af _ e) (Ak _) (show ObjOk X.prog X.w _ _ _ (.tup ys) from ⟨hz,its,r',TupAt.new _ _⟩)
  exact⟨.ref h'.objs.size,_,I2,rfl,q _ (I1.hok.fresh (Ak _))⟩
 ·obtain⟨its,r',pl,hz⟩:=I.tuple hq
  exact call_tuple_same pl ⟨.ref p,H,I,rfl,q⟩
def tyV(K:KFr)(T:String)(x:V)(H:Hp):Prop:=match x with
 | .str _=>T="str"
 | .int _=>T="int"
 | .ref p=>(T="list"/\∃xs,SqL K H p xs)\/(T="tuple"/\((∃o,K.lookup p=some o/\o.cls=.type "tuple"/\o.dict=none)\/∃xs,Rd H p (.tup xs))) \/
   (T="dict"/\((∃kvs,H p=some (.dK kvs))\/∃kvs,H p=some (.dT kvs)))\/(T="set"/\∃S n,H p=some (.set S n))
 | _=>False
def yG5{DI:List (Addr×Obj)}{σ:St}{H:Hp}{s:Shared}{T:String}{x:V}{v:Value}(I:Inv X DI σ H s)(r:RelV x v)(ty:tyV X.K T x H) :
  s.TypeIs v T/\∀a,v=.ref a->∃ob,s.heap.get? a=some ob/\ob.dict=none:=by
 cases x with
 | str z =>
  obtain⟨t,rfl⟩:=r
  cases (show T="str" from ty)
  exact⟨typeIs_str s z t,fun _ e=>nomatch e⟩
 | int i =>
  obtain⟨t,rfl⟩:=r
  cases (show T="int" from ty)
  exact⟨typeIs_int s i t,fun _ e=>nomatch e⟩
 | ref p =>
  cases r
  rcases ty with ⟨rfl,xs,hq⟩ | ⟨rfl,⟨o,hk,hc,hd⟩ | ⟨xs,hq⟩⟩ | ⟨rfl,hk⟩ | ⟨rfl,S,n,hk⟩
  ·obtain⟨its,_,pl,_⟩:=I.list hq
   refine⟨pl.isList.typeIs,fun a e => ?_⟩
   cases e
   obtain⟨o,n,e,c,hd,_⟩:=pl
   exact⟨o,e,hd⟩
  ·refine⟨⟨o,I.kIn p o hk,hc⟩,fun a e => ?_⟩
   cases e
   exact⟨o,I.kIn _ o hk,hd⟩
  ·obtain⟨_,its,_,o,e,c,_,hd⟩:=hq.ok I.hok
   refine⟨⟨o,e,c⟩,fun a e2 => ?_⟩
   cases e2
   exact⟨o,e,hd⟩
  ·have z:∃o,s.heap.get? p=some o/\o.ExactDict:=by
    rcases hk with ⟨kvs,hk⟩ | ⟨kvs,hk⟩
    ·obtain⟨_,_,_,_,o,_,_,e,ex,_⟩:=I.hok p _ hk
     exact⟨o,e,ex⟩
    ·obtain⟨_,_,_,_,o,_,_,e,ex,_⟩:=I.hok p _ hk
     exact⟨o,e,ex⟩
   obtain⟨o,e,ex⟩:=z
   refine⟨⟨o,e,ex.1⟩,fun a e2 => ?_⟩
   cases e2
   exact⟨o,e,ex.2.1⟩
  ·obtain⟨o,_,_,_,e,ex,_⟩:=I.hok p _ hk
   refine⟨⟨o,e,ex.1⟩,fun a e2 => ?_⟩
   cases e2
   exact⟨o,e,ex.2.1⟩
 | _=>exact False.elim ty
def tBM0(K:KFr)(T:String)(r:V->List V->Hp->VK->Prop)(to:TE):TE:=fun σ H Q=>to σ H fun x H1=>tyV K T x H1/\r x [] H1 Q
def tBM(K:KFr)(T:String)(r:V->List V->Hp->VK->Prop)(to:TE)(t:TA):TE:=fun σ H Q=>to σ H fun x H1=>tyV K T x H1/\t σ H1 fun xs H2=>r x xs H2 Q
variable {o e:Expr}{es:List Expr}{to:TE}{t:TA}{name:Str}{apos cpos:Pos}{T id:String}{r:V->List V->Hp->VK->Prop}
def yF5(pa:PlainAttrs T)(slot:Slot T name id)(hty:typeOf (.builtin id)=pure (.type "method_descriptor"))(hm:MtR X id r)(ho:PE X o to)
  (hbase:autoParam (attributeBase o name X.env (eval o X.env)=eval o X.env) DH) (hline:autoParam ((apos.endLine == cpos.line)=true) DH):PE X (.Call (.Attribute o name apos) [] [] cpos) (tBM0 X.K T r to):=by
 intro DI s σ H Q I h
 refine wpAny_Call_method0_late hbase hline (thn (ho DI s σ H _ I h) fun v s1 ⟨x,H1,I1,r1,ty,q1⟩ => ?_)
 obtain⟨h1,h2⟩:=yG5 I1 r1 ty
 exact⟨T,id,pa,slot,hty,h1,h2,Calls.callWith_builtin rfl (PySem.evalArgs_none (hm DI s1 σ H1 x [] v [] Q I1 r1 .nil q1))⟩
def wN(pa:PlainAttrs T)(slot:Slot T name id)(hty:typeOf (.builtin id)=pure (.type "method_descriptor"))(hm:MtR X id r)(ho:PE X o to)(ha:PA X (e::es) t)
  (hbase:autoParam (attributeBase o name X.env (eval o X.env)=eval o X.env) DH)
  (hfew:((backTo cpos (starEach (e::es) X.env)).all (fun x=>!x.1)&&(backToKw cpos (keywordEach [] X.env)).all (fun x=>x.1.isSome)
  &&decide ((e::es).length+([]:List Keyword).length+(if ([]:List Keyword).isEmpty then 0 else 1)<30))=true:=by rfl)
  (hline:autoParam ((apos.endLine == cpos.line)=true) DH) (hs:autoParam (starEach (e::es) X.env=(false,eval e X.env)::starEach es X.env) DH) (hplain:autoParam ((backTo cpos (starEach es X.env)).any (·.1)=false) DH) :
  PE X (.Call (.Attribute o name apos) (e::es) [] cpos) (tBM X.K T r to t):=by
 intro DI s σ H Q I h
 refine wpAny_Call_method_late hbase hfew hline rfl (thn (ho DI s σ H _ I h) fun v s1 ⟨x,H1,I1,r1,ty,q1⟩ => ?_)
 obtain⟨h1,h2⟩:=yG5 I1 r1 ty
 refine⟨T,id,pa,slot,hty,h1,h2,?_⟩
 have hA:=ha cpos DI s1 σ H1 _ I1 q1
 rw[hs] at hA ⊢
 refine Calls.callWith_builtin (by show (false || (backTo cpos (starEach es X.env)).any (·.1))=false;rw[hplain] <;> rfl) (Dm ?_)
 exact thn hA fun us s2 ⟨vs,H2,I2,r2,q2⟩=>hm DI s2 σ H2 x vs v us Q I2 r1 r2 q2
end
def MtM(X:Cx)(id:String)(r:V->List V->Hp->VK->Prop):Prop :=
 ∀(DI:List (Addr×Obj)) (s:Shared) (σ:St) (H:Hp) (x:V) (xs:List V) (v:Value) (us:List Value) (Q:VK),Inv X DI σ H s->RelV x v->Vals xs us->r x xs H Q ->
  wpAny (model X.prog X.w) X.A (call (.builtin id) (v::us)) (EP X DI σ Q) X.xe s
def Vals.one:∀{x:V}{us:List Value},Vals [x] us->∃u,us=[u]/\RelV x u
 | _,_,.cons r .nil=>⟨_,rfl,r⟩
def Vals.zero:∀{us:List Value},Vals [] us->us=[]
 | _,.nil=>rfl
def Vals.dropLast{xs:List V}{us:List Value}(h:Vals xs us):Vals xs.dropLast us.dropLast:=by
 induction h with
 | nil=>exact .nil
 | cons r t ih =>
  cases t with
  | nil=>exact .nil
  | cons q t'=>exact .cons r ih
def Vals.eraseIdx:∀{xs:List V}{us:List Value}(i:Nat),Vals xs us->Vals (xs.eraseIdx i) (us.eraseIdx i)
 | _,_,_,.nil=>.nil
 | _,_,0,.cons _ t=>t
 | _,_,i+1,.cons r t=>.cons r (Vals.eraseIdx i t)
def Vals.rep{xs:List V}{us:List Value}(h:Vals xs us):∀k:Nat,Vals (List.replicate k xs).flatten (List.replicate k us).flatten
 | 0=>.nil
 | k+1=>by
  rw[Bq,Bq,BH,BH]
  exact Vals.append h (Vals.rep h k)
def yO2{α:Type}(l:List α):l.eraseIdx (l.length-1)=l.dropLast:=by
 induction l with
 | nil=>rfl
 | cons a r ih =>
  cases r with
  | nil=>rfl
  | cons b r =>
   have e:(a::b::r).length-1=((b::r).length-1)+1:=by
    have h1:(a::b::r).length=r.length+2:=rfl
    have h2:(b::r).length=r.length+1:=rfl
    rfl'
   rw[e,List.eraseIdx_cons_succ,ih]
   all_goals rfl
def zK5{α:Type}:∀(l:List α) (i:Nat),(l.eraseIdx i).length<=l.length
 | [],_=>Ak _
 | _::_,0=>Nat.le_succ _
 | _::r,i+1=>Nat.succ_le_succ (zK5 r i)
def bA(its:List Value):∀(k:Nat) (acc:List Value),
  List.foldl (fun x1 x2=>x1++x2) acc.toArray (List.replicate k its.toArray)=(acc++(List.replicate k its).flatten).toArray
 | 0,acc=>by simp
 | k+1,acc=>by
  have e:acc.toArray++its.toArray=(acc++its).toArray:=by simp
  have e2:(acc++its)++(List.replicate k its).flatten=acc++(List.replicate (k+1) its).flatten:=by
   rw[Bq,BH,Bd]
  rw[<-e2,<-bA its k (acc++its),<-e,Bq,List.foldl_cons]
section
variable {X:Cx}{DI:List (Addr×Obj)}{σ:St}{H:Hp}{s:Shared}{l b:Addr}{xs ys zs:List V}
def Inv.lset{its its':List Value}{n:Nat}{f:Array Value->Array Value}{t':Nat}(I:Inv X DI σ H s)(hH:H l=some (.lst xs))
  (e:s.heap.get? l=some { cls:=.type "list",data:=.seq its.toArray n }) (hf:f its.toArray=its'.toArray) (hv:Vals ys its') (hz:ys.length<=sizeLine) :
  Inv X DI σ (upd H l (.lst ys)) { s with heap:=s.heap.update l (Obj.mapSeq f),toks:=t' }:=by
 have q:=Df e f
 rw[hf] at q
 refine I.write (x:=l) (e:=l) (by rw[hH];exact trivial) (.inl rfl) (fun b' u hb hu=>(BF s.heap (Obj.mapSeq f) (Cj hb)).trans hu) ⟨_,q⟩ ?_
 exact⟨hz,its',_,hv,q⟩
def Inv.lnew{its:List Value}{t':Nat}(I:Inv X DI σ H s)(hv:Vals ys its)(hz:ys.length<=sizeLine) :
  Inv X DI σ (upd H s.heap.objs.size (.lst ys)) { s with heap:=s.heap.push { cls:=.type "list",data:=.seq its.toArray },toks:=t' } :=
 I.laid (fun _ _ q=>Af _ q) (Ak _) ⟨hz,its,0,hv,Aw _ rfl⟩
def Inv.fresh(I:Inv X DI σ H s):H s.heap.objs.size=none:=I.hok.fresh (Ak _)
def Inv.lstM(I:Inv X DI σ H s)(hH:H l=some (.lst xs)):xs.length<=sizeLine/\∃(its:List Value) (n:Nat),Vals xs its/\xs.length=its.length/\s.heap.get? l=some { cls:=.type "list",data:=.seq its.toArray n }:=by
 obtain⟨z,its,n,r,e⟩:=I.hok l _ hH
 exact⟨z,its,n,r,r.length,e⟩
def notLongL{n:Nat}(h:n<=sizeLine):Builtin.List.listTooLong n=false:=by
 unfold Builtin.List.listTooLong
 exact AA (by rfl')
end
section
variable {X:Cx}
def rAppend:V->List V->Hp->VK->Prop:=fun x vs H Q=>∃l xs y,x=.ref l/\vs=[y]/\H l=some (.lst xs)/\xs.length<sizeLine/\Q .non (upd H l (.lst (xs ++ [y])))
def yL:MtM X "list.append" rAppend:=by
 intro DI s σ H x vs v us Q I rx rv h
 obtain⟨l,xs,y,rfl,rfl,hH,hz,q⟩:=h
 cases rx
 obtain⟨u,rfl,ru⟩:=rv.one
 obtain⟨z,its,n,r,hl,e⟩:=I.lstM hH
 refine call_meets CS ⟨_,e,rfl⟩ CM (CB _ _) (CV l its.toArray n u (by rw[Am];rfl')) ⟨e,?_⟩
 refine⟨.non,_,I.lset (its':=its ++ [u]) hH e (by simp) (r.append (.cons ru .nil)) ?_,rfl,q⟩
 rw[Ao,Bc]
 rfl'
def rPop:V->List V->Hp->VK->Prop:=fun x vs H Q=>∃l xs y,x=.ref l/\vs=[]/\H l=some (.lst xs)/\xs[xs.length-1]?=some y/\Q y (upd H l (.lst xs.dropLast))
def xB8:MtM X "list.pop" rPop:=by
 intro DI s σ H x vs v us Q I rx rv h
 obtain⟨l,xs,y,rfl,rfl,hH,hy,q⟩:=h
 cases rx
 have hus:=rv.zero
 subst hus
 obtain⟨z,its,n,r,hl,e⟩:=I.lstM hH
 obtain⟨u,hu,ru⟩:=r.get hy
 have hy':its.toArray[its.toArray.size-1]?=some u:=by
  show its.toArray[its.length-1]?=some u
  rw[<-Array.getElem?_toList,<-hl]
  exact hu
 refine call_meets F.slot_list_pop ⟨_,e,rfl⟩ F.entry_list_pop (F.args_list_pop_1 _) (MeetsSeq.list_pop_last l its.toArray n u hy' (by rw[Am];rfl')) ⟨e,?_⟩
 refine⟨y,_,I.lset (its':=its.dropLast) hH e ?_ r.dropLast ?_,ru,q⟩
 ·show its.toArray.eraseIdxIfInBounds (its.toArray.size-1)=its.dropLast.toArray
  rw[Am,List.eraseIdxIfInBounds_toArray,yO2]
 ·rw[Do]
  rfl'
def rPopAt:V->List V->Hp->VK->Prop:=fun x vs H Q=>∃l xs i k y,x=.ref l/\vs=[.int i]/\H l=some (.lst xs)/\-(2 ^ 63)<=i/\i<2 ^ 63/\seqIndex? i xs.length=some k/\xs[k]?=some y/\Q y (upd H l (.lst (xs.eraseIdx k)))
def xZ2:MtM X "list.pop" rPopAt:=by
 intro DI s σ H x vs v us Q I rx rv h
 obtain⟨l,xs,i,k,y,rfl,rfl,hH,h1,h2,hk,hy,q⟩:=h
 cases rx
 obtain⟨u,rfl,ru⟩:=rv.one
 obtain⟨t,rfl⟩:=ru
 obtain⟨z,its,n,r,hl,e⟩:=I.lstM hH
 obtain⟨w,hw,rw'⟩:=r.get hy
 refine call_meets F.slot_list_pop ⟨_,e,rfl⟩ F.entry_list_pop (F.args_list_pop_2 _ _)
  (MeetsSeq.list_pop_at l its.toArray n i t k w (fitsIndex_both h1 h2) (by rw[Am,<-hl];exact hk) (by rw[<-Array.getElem?_toList];exact hw) (by rw[Am];rfl')) ⟨e,?_⟩
 refine⟨y,_,I.lset (its':=its.eraseIdx k) hH e ?_ (r.eraseIdx k) ?_,rw',q⟩
 ·show its.toArray.eraseIdxIfInBounds k=(its.eraseIdx k).toArray
  rw[List.eraseIdxIfInBounds_toArray]
 ·have:=zK5 xs k
  rfl'
def rRep:R2:=fun x y H Q=>∃l k xs,x=.ref l/\y=.int k/\H l=some (.lst xs)/\-(2 ^ 63)<=k/\k<2 ^ 63/\xs.length*k.toNat<=sizeLine /\
 ∀p,H p=none->Q (.ref p) (upd H p (.lst (List.replicate k.toNat xs).flatten))
def yR7{α:Type}(xs:List α)(k:Nat):(List.replicate k xs).flatten.length=k*xs.length:=by
 induction k with
 | zero=>simp
 | succ k ih=>rw[Bq,BH,Ao,ih,Nat.succ_mul,Nat.add_comm]
def xE2:OpR X (binaryOp .Mult) rRep:=by
 intro DI s σ H x y v u Q I rx ry h
 obtain⟨l,k,xs,rfl,rfl,hH,h1,h2,hz,q⟩:=h
 cases rx
 obtain⟨t,rfl⟩:=ry
 obtain⟨z,its,n,r,hl,e⟩:=I.lstM hH
 have hlen:its.toArray.size*k.toNat<=sizeLine:=by rw[Am,<-hl];exact hz
 have hcap:¬its.toArray.size*k.toNat > (2 ^ 63-1) / 8:=by
  have:(sizeLine:Nat)<=(2 ^ 63-1) / 8:=by decide
  rfl'
 have hfit:¬(!Builtin.List.listFitsIndex k)=true:=by
  rw[fitsIndex_both h1 h2]
  exact AK
 have hlong:¬Builtin.List.listTooLong (its.toArray.size*k.toNat)=true:=by
  rw[notLongL hlen]
  exact AK
 have hnew:List.foldl (fun x1 x2=>x1++x2) #[] (List.replicate (if its.toArray.isEmpty=true then 0 else k.toNat) its.toArray)=(List.replicate k.toNat its).flatten.toArray:=by
  have f0:∀m:Nat,List.foldl (fun x1 x2=>x1++x2) #[] (List.replicate m its.toArray)=(List.replicate m its).flatten.toArray:=fun m=>by
   have:=bA its m []
   rw[BW] at this
   exact this
  rw[f0]
  cases its with
  | nil=>simp
  | cons a r'=>rw[AJ (by simp)]
 refine wpAny_binaryOp_repeat_ref (T:="list") (U:="int") (by decide) ⟨_,e,rfl⟩ (fun s'=>typeIs_int s' k t) noFill_list_mul F.fills_int_mul Dq repeat_list F.slot_int_index.lookup
  (call_meets Dq (typeIs_int s k t) F.entry_int_rmul (F.args_int_rmul_2 _ _) (int___rmul___int_list k t l its.toArray n)
   ⟨e,rfl,⟨_,e,rfl⟩,call_meets F.slot_list_mul ⟨_,e,rfl⟩ F.entry_list_mul (F.args_list_mul_2 _ _) (CU l its.toArray n k t hfit hcap hlong) ⟨e,?_⟩⟩)
 rw[hnew]
 exact⟨.ref _,_,I.lnew (t':=s.toks) (r.rep k.toNat) (by rw[yR7,CF];exact hz),rfl,q _ I.fresh⟩
end
section
variable {prog:Program}{w:World}{A:Around}{E:Value->Shared->Prop}{s:Shared}
end
section
variable {X:Cx}
end
end L2
namespace Att
open PySem PySem.W PySem.Calls PyProof.Rows
def zV3{P:Params}{h:Heap}:∀(ns:List Int) (vs:List Value),WellAll P h vs (ns.map WData.int)->IntsAre vs ns:=by
 intro ns
 induction ns with
 | nil =>
  intro vs w
  rw[Dv] at w
  cases w
  exact .nil
 | cons n ns ih =>
  intro vs w
  rw[AU] at w
  cases w with
  | cons a b =>
   cases a
   exact .cons _ _ (ih _ b)
def yI2{l:OpenLaw}{n:Nat}(hn:l.most=some n){P:Params}{h:Heap}{args:List WData}{vals:List Value}
  (hpre:l.row.toRowW.claim.pre args=true) (hwl:WellAll P h vals args) :
  ∃a vs ns,vals=[Value.ref a]/\args=[WData.list (ns.map WData.int)]/\h.get? a=some { cls:=.type "list",data:=.seq vs.toArray }/\IntsAre vs ns/\ns.length<=n:=by
 have hsh:WShape.hasAll [] args [.list .int]=true:=(pre_splitW hpre).1
 have hc:l.pre.holds [] { args:=args }=true:=(pre_splitW hpre).2
 obtain⟨d,r,rfl,h1,h2⟩:=hasAllW_cons hsh
 obtain rfl:=hasAllW_nil h2
 obtain⟨xs,rfl,h3⟩:=hasW_list h1
 obtain⟨ns,rfl⟩:=items_int h3
 have hlen:ns.length<=n:=by
  unfold OpenLaw.pre at hc
  have h4:(WTm.not (.lt (.lit (.int (n:Int))) (.len (.arg 0)))).holds [] { args:=[.list (ns.map .int)] }=true:=by
   have h4:=(holds_andW hc).1
   rw[hn] at h4
   exact h4
  have h5:=condW_of h4 (w_not (w_lt w_lit (w_len_list (w_arg rfl))))
  rw[Aa] at h5
  refine Nat.le_of_not_lt fun q => ?_
  have q':(n:Int)<((ns.length:Nat):Int):=by rfl'
  first
   | (rw[AB q'] at h5;exact absurd h5 (by decide))
   | (simp at h5;rfl')
 cases hwl with
 | cons w1 w2 =>
  cases w2
  cases w1 with
  | list ho hall=>exact⟨_,_,ns,rfl,rfl,ho,zV3 ns _ hall,hlen⟩
def yJ2(l:OpenLaw)(args:List WData):l.row.toRowW.claim.post args (.bool true) args=true :=
 postW_of (r:=l.row.toRowW) (X:=(true == true))
  (show WShape.has [] (.bool true) .bool=true by first | rfl | decide | simp[WShape.has,WShape.arms,WShape.armsAll])
  (show (WTm.eq .res (.lit (.bool true))).value [] { args:=args,res:=some (.bool true),after:=args }=some (.bool (true == true)) from w_eq_bool (w_res rfl) w_lit) rfl
def yX7{l:OpenLaw}{n:Nat}{q:Program}{loose:List Str}{XP:(Str->Option Value)->Heap->Prop}{YP:World->Heap->Prop}{d:DefRec}
  (hn:l.most=some n) (hdf:d.params.defaults=[])
  (call:∀(w:World) (s₀ s₁:Shared) (mg mb:Str->Option Value) (fa:Addr) (o:Obj) (pm cd doc:Value) (a:Addr) (vs:List Value) (ns:List Int),
   Ground q loose [] XP w s₀ mg mb s₁.heap->YP w s₁.heap ->
   s₁.heap.get? fa=some o->o.data=.func (docDef d.name d.params d.body d.scope pm cd doc)->s₁.heap.CodeRec cd d.name->mg d.name=some (.ref fa) ->
   s₁.heap.get? a=some { cls:=.type "list",data:=.seq vs.toArray }->IntsAre vs ns->ns.length<=n->s₁.gens=#[] ->
   codeAny (model l.prog w) callerA (.call (.ref fa) ⟨[.ref a],[]⟩) (fun r s'=>r=.ok (.ret (.bool true))/\OldK s₁.heap s'.heap/\s'.os=s₁.os/\AllBare s'.gens) s₁) :
  WalkO q loose XP YP l.row.toRowW d [] (fun f vs=>PySem.call f vs):=by
 intro w s₀ s₁ mg mb G Y fa o pm cd doc dV kV ho hd hcd hD hmg hg args vals as hpre hlay hrd hwl hlo
 obtain rfl:dV=.none:=Dflts.none hD hdf
 obtain rfl:kV=.none:=Dflts.noKw hD
 obtain⟨a,vs,ns,rfl,rfl,hobj,hints,hlen⟩:=yI2 hn hpre hwl
 refine enter_call (codeAny_mono (call w s₀ s₁ mg mb fa o pm cd doc a vs ns G Y ho (fd_plain hd) hcd hmg hobj hints hlen hg) fun r s' hq => ?_)
 obtain⟨rfl,h2,h3,h4⟩:=hq
 exact⟨.inl ⟨.bool true,.bool true,[],rfl,fun _=>rfl,.bool true,yJ2 l _,fun _=>⟨List.Pairwise.nil,fun _ hm=>(nomatch hm)⟩⟩,h2,h3,h4⟩
section
variable {prog:Program}{w:World}{A:Around}{E:Value->Shared->Prop}{s:Shared}{K:Frag}
end
end Att
namespace L2
open PySem PySem.Spec PyProof.Rows
def bO:∀{vs:List Value}{ns:List Int},IntsAre vs ns->Vals (ns.map V.int) vs
 | _,_,.nil=>.nil
 | _,_,.cons n t h=>.cons ⟨t,rfl⟩ (bO h)
def Only(H:Hp):Prop:=∀b,H b=none\/(∃o xs,H b=some (.frz o (.lst xs)))\/∃q,H b=some (.tbl q)
def tabH(K:KFr):List Str->Hp
 | []=>fun _=>none
 | x::r=>match PySem.W.tabIn K x with
  | some (_,P)=>upd (tabH K r) P (.tbl (lamQ x))
  | none=>tabH K r
def wU{K:KFr}{b:Addr}{o:HO}:∀{l:List Str},tabH K l b=some o->∃x∈l,∃c,PySem.W.tabIn K x=some (c,b)/\o=.tbl (lamQ x)
 | [],h=>nomatch h
 | x::r,h=>by
  rw[tabH] at h
  rcases e:PySem.W.tabIn K x with _ | ⟨c,P⟩ <;> simp only[e] at h
  rotate_left
  ·by_cases hb:b=P
   ·subst hb
    rw[zS] at h
    cases h
    exact⟨x,Ae,c,e,rfl⟩
   ·rw[zY hb] at h
    obtain⟨y,hy,c,e1,e2⟩:=wU h
    exact⟨y,Ad _ hy,c,e1,e2⟩
  ·obtain⟨y,hy,c,e1,e2⟩:=wU h
   exact⟨y,Ad _ hy,c,e1,e2⟩
def cX{K:KFr}(U:∀x y c c' P,x∈tabNames->y∈tabNames->PySem.W.tabIn K x=some (c,P)->PySem.W.tabIn K y=some (c',P)->x=y){c P:Addr}:∀{l:List Str}{x:Str},(∀y∈l,y∈tabNames)->x∈l->PySem.W.tabIn K x=some (c,P)->tabH K l P=some (.tbl (lamQ x))
 | y::r,x,hl,hx,e=>by
  rw[tabH]
  rcases e':PySem.W.tabIn K y with _ | ⟨c',P'⟩ <;> simp only
  rotate_left
  ·by_cases hb:P=P'
   ·subst hb
    rw[zS,U x y c c' P (hl x hx) (hl y Ae) e e']
   ·rw[zY hb]
    rcases An.mp hx with rfl | hx
    ·rw[e] at e';cases e';exact absurd rfl hb
    ·exact cX U (fun z hz=>hl z (Ad _ hz)) hx e
  ·rcases An.mp hx with rfl | hx
   ·rw[e] at e';cases e'
   ·exact cX U (fun z hz=>hl z (Ad _ hz)) hx e
def xZ5{P:Program}{w:World}{K:KFr}{mg mb:Str->Option Value}{CX:CXT}{k:Nat}{fa a:Addr}{fd:FuncData}{x:Str}{sp:Sp}{s₁:Shared}{vs:List Value}{ns:List Int}
  (KX:K.In s₁.heap) (hns:s₁.heap.Ns mainGlobals mg) (hb:s₁.heap.Ns builtinsNs mb) (hbb:∀x:Str,x ≠ "__name__"->mb x=bootBuiltins x) (hlim:s₁.heap.NoLimit) (hg:s₁.gens=#[])
  (ha:s₁.heap.get? a=some { cls:=.type "list",data:=.seq vs.toArray }) (hi:IntsAre vs ns) (hl:ns.length<=sizeLine) (hr:Room k callerA)
  (F:∀base:Heap,K.In base->base.Ns mainGlobals mg->FnOk P w K mg base CX k fa fd [x] sp) (hbind:∀(s:Shared) (u:Value),BindsTo s fd ⟨[u],[]⟩ [(x,u)])
  (hsp:∀H:Hp,Only H->SqL K H a (ns.map V.int)->sp [.ref a] H (fun v _=>v=.bl true) fun _ _ _=>False)
  (hCX:∀H e s',CX [] H s₁ (fun _ _ _=>False) e s'->False) (hnt:PySem.W.noTabs K=true) (hU:∀x y c c' P,x∈tabNames->y∈tabNames->PySem.W.tabIn K x=some (c,P)->PySem.W.tabIn K y=some (c',P)->x=y)
  (htab:∀x∈tabNames,∀c P,PySem.W.tabIn K x=some (c,P)->PySem.W.CodeHd s₁.heap c P/\s₁.heap.get? P=some (PySem.W.tabObj #[]))
  (hbm:∃bm ob,mg "__builtins__" = some (.ref bm)/\bm≠builtinsNs/\s₁.heap.get? bm=some ob/\ob.cls=.type "module"/\ob.dict=some builtinsNs/\ob.data=.plain) :
  codeAny (model P w) callerA (.call (.ref fa) ⟨[.ref a],[]⟩) (fun r s'=>r=.ok (.ret (.bool true))/\OldK s₁.heap s'.heap/\s'.os=s₁.os/\AllBare s'.gens) s₁:=by
 have rv:=bO hi
 have lenV:=hi.length
 have core:∀H:Hp,Only H->SqL K H a (ns.map V.int)->HOk P w H s₁.heap->(∀b,H b≠none->b=a\/s₁.heap.get? b=some (PySem.W.tabObj #[]))->(H a≠none->K.lookup a=none)->TabsIn K H->(∀b q,H b=some (.tbl q)->∃x∈tabNames,∃c,PySem.W.tabIn K x=some (c,b)) ->
   codeAny (model P w) callerA (.call (.ref fa) ⟨[.ref a],[]⟩) (fun r s'=>r=.ok (.ret (.bool true))/\OldK s₁.heap s'.heap/\s'.os=s₁.os/\AllBare s'.gens) s₁:=by
  intro H hO hS hok hA hK hTI hTb
  have base_of:∀{b:Addr}{o:Obj},s₁.heap.get? b=some o->H b=none->(hidT s₁.heap H).get? b=some o:=fun e n=>xT4 e n
  have noA:∀{b:Addr}{o:Obj}{es:Array DictEntry}{ep:Nat},s₁.heap.get? b=some o->o.data=.dict es ep->H b=none:=fun {b o es ep} e d=>by
   cases q:H b with
   | none=>rfl
   | some u =>
    rcases hA b (by rw[q];simp) with e' | e'
    ·subst e'
     rw[ha] at e;cases e
     have d':Data.seq vs.toArray _=Data.dict es ep:=d
     cases d'
    ·rw[e] at e';cases e';cases d
  have nsK:∀{b:Addr}{m:Str->Option Value},s₁.heap.Ns b m->(hidT s₁.heap H).Ns b m:=fun {b m} ⟨o,es,ep,e,d,r⟩=>⟨o,es,ep,base_of e (noA e d),d,r⟩
  have hKb:K.In (hidT s₁.heap H):=fun b o e=>base_of (KX b o e) (by
   cases q:H b with
   | none=>rfl
   | some u =>
    rcases hA b (by rw[q];simp) with e' | e'
    ·subst e'
     rw[hK (by rw[q];simp)] at e;cases e
    ·rw[KX b o e] at e';cases e'
     exact absurd (AF.mp hnt _ (PySem.W.mem_of_lookupK e)) (by simp))
  have unt:∀{b:Addr}{o:Obj}{T:String},s₁.heap.get? b=some o->o.cls=.type T->T ≠ "list"->H b=none:=fun {b o T} e c n=>by
   cases q:H b with
   | none=>rfl
   | some u =>
    rcases hA b (by rw[q];simp) with e' | e'
    ·subst e'
     rw[ha] at e;cases e
     have c':Value.type "list" = Value.type T:=c
     injection c' with c'
     exact absurd c'.symm n
    ·rw[e] at e';cases e';cases c
  have hM:Mod K mg (hidT s₁.heap H):=⟨fun x hx c P e=>let ⟨⟨o,vs,f,tf,fl,tg,i,tx,tt,e1,e2,r⟩,_⟩:=htab x hx c P e; ⟨o,vs,f,tf,fl,tg,i,tx,tt,base_of e1 (unt e1 e2 (by decide)),e2,r⟩,let ⟨bm,ob,b1,b2,b3,b4,r⟩:=hbm; ⟨bm,ob,b1,b2,base_of b3 (unt b3 b4 (by decide)),b4,r⟩,hKb,nsK hns,⟨mb,nsK hb,hbb⟩,let ⟨mc,h1,h2⟩:=hlim; ⟨mc,nsK h1,h2⟩⟩
  have e0:Env0 P w K mg (hidT s₁.heap H) callerA [] s₁ H:=⟨rfl,hM,fun b o e=>xQ3 e,Nat.le_of_eq (yH1 _ _),trivial,fun b hb=>absurd (show b∈([]:List Addr) from hb) (by simp),hok,.of_eq hg,hTI⟩
  refine codeAny_mono ((F _ hKb (nsK hns)).run callerA [] s₁ H ⟨[.ref a],[]⟩ [.ref a] [.ref a] _ _ hr e0 (hbind s₁ (.ref a)) (.cons rfl .nil) (hsp H hO hS)) fun r s' h => ?_
  cases r with
  | error e=>exact (hCX H e s' h).elim
  | ok fl =>
   cases fl with
   | next=>exact False.elim h
   | brk=>exact False.elim h
   | cont=>exact False.elim h
   | ret u =>
    obtain⟨v,H',os,bare,un,hok',r',q⟩:=h
    have q':v=.bl true:=q
    subst q'
    obtain rfl:u=Value.bool true:=r'
    refine⟨rfl,⟨fun b o e => ?_,fun b o e=>un.there b o e (by simp)⟩,os,bare⟩
    cases q:H b with
    | none=>exact .inl (un.keep b o e q (by intro z;exact absurd (show b∈([]:List Addr) from z) (by simp)) (by simp))
    | some u =>
     rcases hO b with z | ⟨ob,xs,z⟩ | ⟨qq,z⟩
     ·rw[q] at z;cases z
     ·have z2:=un.frzs b ob _ z
      obtain⟨e1,_⟩:=hok b _ z
      obtain⟨e2,_⟩:=hok' b _ z2
      rw[e] at e1;cases e1
      exact .inl e2
     ·obtain⟨ps,e2,_⟩:=hok' b _ (un.tbls b _ z)
      rcases hA b (by rw[z];simp) with e' | e'
      ·obtain⟨ps0,e3,_⟩:=hok b _ z
       rw[e',ha] at e3;cases e3
      ·obtain⟨x,hx,c,e4⟩:=hTb b qq z
       obtain⟨e5,e6⟩:=htab x hx c b e4
       rw[e] at e6;cases e6
       exact .inr (.inl ⟨(e5.tab e).isCodeTable,rfl,#[],ps,rfl,by rw[Array.empty_append];exact e2⟩)
 have tA:∀b,tabH K tabNames b≠none->s₁.heap.get? b=some (PySem.W.tabObj #[]):=fun b z=>by
  cases q:tabH K tabNames b with
  | none=>exact absurd q z
  | some u=>obtain⟨x,hx,c,e,_⟩:=wU q;exact (htab x hx c b e).2
 have tOk:HOk P w (tabH K tabNames) s₁.heap:=fun b u z=>by
  obtain⟨x,hx,c,e,rfl⟩:=wU z
  exact⟨#[],(htab x hx c b e).2,trivial,fun pos cv z=>nomatch z⟩
 have tB:∀b q,tabH K tabNames b=some (.tbl q)->∃x∈tabNames,∃c,PySem.W.tabIn K x=some (c,b):=fun b q z=>let ⟨x,hx,c,e,_⟩:=wU z; ⟨x,hx,c,e⟩
 have ta:tabH K tabNames a=none:=by
  cases q:tabH K tabNames a with
  | none=>rfl
  | some u =>
   have:=tA a (by rw[q];simp)
   rw[ha] at this;cases this
 cases hk:K.lookup a with
 | some o =>
  have e:=KX a o hk
  rw[ha] at e
  cases e
  have na:tabH K tabNames a=none:=by
   cases q:tabH K tabNames a with
   | none=>rfl
   | some u =>
    obtain⟨x,hx,c,e1,_⟩:=wU q
    have:=(htab x hx c a e1).2
    rw[ha] at this;cases this
  refine core (tabH K tabNames) (fun b => ?_) (.inr ⟨_,vs.toArray,_,hk,rfl,rfl,rfl,by rw[Am,lenV];exact hl,by simpa using rv⟩) tOk (fun b z=>.inr ?_) (fun z=>absurd na z) (fun x hx c P e=>cX hU (fun _ hy=>hy) hx e) tB
  ·cases q:tabH K tabNames b with
   | none=>exact .inl rfl
   | some u=>obtain⟨x,_,_,_,rfl⟩:=wU q;exact .inr (.inr ⟨_,rfl⟩)
  ·exact tA b z
 | none =>
  refine core (upd (tabH K tabNames) a (.frz { cls:=.type "list",data:=.seq vs.toArray } (.lst (ns.map V.int)))) (fun b => ?_) (.inl (.inr ⟨{ cls:=.type "list",data:=.seq vs.toArray },zS⟩)) (fun b u z => ?_) (fun b z => ?_) (fun _=>hk) (fun x hx c P e => ?_) fun b q z => ?_
  ·by_cases hb:b=a
   ·subst hb;exact .inr (.inl ⟨_,_,zS⟩)
   ·rw[zY hb]
    cases q:tabH K tabNames b with
    | none=>exact .inl rfl
    | some u=>obtain⟨x,_,_,_,rfl⟩:=wU q;exact .inr (.inr ⟨_,rfl⟩)
  ·by_cases hb:b=a
   ·subst hb
    rw[zS] at z
    cases z
    exact⟨ha,by rw[Aa];exact hl,vs,_,rv,ha⟩
   ·rw[zY hb] at z
    refine (tOk b u z).stay (fun _ _ _ q=>q) (fun c q => ?_) (fun c xs q => ?_) fun c o xs q => ?_
    ·obtain⟨_,_,_,_,q'⟩:=wU q;cases q'
    ·obtain⟨_,_,_,_,q'⟩:=wU q;cases q'
    ·obtain⟨_,_,_,_,q'⟩:=wU q;cases q'
  ·by_cases hb:b=a
   ·exact .inl hb
   ·rw[zY hb] at z
    exact .inr (tA b z)
  ·have hP:=cX hU (fun _ hy=>hy) hx e
   rw[zY (fun z=>by rw[z,ta] at hP;cases hP)]
   exact hP
  ·by_cases hb:b=a
   ·subst hb;rw[zS] at z;cases z
   ·rw[zY hb] at z
    exact tB b q z
abbrev KOf{K:KFr}{h:Heap}(_:K.In h):KFr:=K
structure TabsOk(q:Program)(K:Params->KFr):Prop where
 nt:∀w:World,PySem.W.noTabs (K w.params)=true
 un:∀(w:World) x y c c' P,x∈tabNames->y∈tabNames->PySem.W.tabIn (K w.params) x=some (c,P)->PySem.W.tabIn (K w.params) y=some (c',P)->x=y
 rc:∀(w:World),∀x∈tabNames,(PySem.W.tabIn (K w.params) x).isSome=true->((recsOf q).find? (fun e=>e.name == x)).isSome=true
def xJ3{l:PySem.W.OpenLaw}{n k:Nat}{q:Program}{loose:List Str}{XP:(Str->Option Value)->Heap->Prop}{YP:World->Heap->Prop}{d:DefRec}{K:Params->KFr}{CX:World->CXT}{sp:World->Sp}{x:Str}
  (hn:l.most=some n) (hn2:n<=sizeLine) (hdf:d.params.defaults=[]) (hr:Room k callerA)
  (hY:∀(w:World) (h:Heap),YP w h->(K w.params).In h)
  (F:∀(w:World) (mg:Str->Option Value) (fa:Addr) (h:Heap),(K w.params).In h->h.Ns mainGlobals mg->mg d.name=some (.ref fa) ->
   ∃fd:FuncData,(∀(s:Shared) (u:Value),BindsTo s fd ⟨[u],[]⟩ [(x,u)]) /\
    ∀base:Heap,(K w.params).In base->base.Ns mainGlobals mg->FnOk l.prog w (K w.params) mg base (CX w) k fa fd [x] (sp w))
  (hsp:∀(w:World) (H:Hp) (a:Addr) (ns:List Int),ns.length<=n->Only H->SqL (K w.params) H a (ns.map V.int)->sp w [.ref a] H (fun v _=>v=.bl true) fun _ _ _=>False)
  (hCX:∀(w:World) (H:Hp) (s:Shared) (e:Value) (s':Shared),CX w [] H s (fun _ _ _=>False) e s'->False) (TT:TabsOk q K) :
  PySem.W.WalkO q loose XP YP l.row.toRowW d [] (fun f vs=>PySem.call f vs):=by
 refine Att.yX7 hn hdf fun w s₀ s₁ mg mb fa o pm cd doc a vs ns G Y ho hd hcd hmg hobj hints hlen hg => ?_
 have KX:=hY w _ Y
 obtain⟨fd,hb,hF⟩:=F w mg fa _ KX G.T.g hmg
 exact xZ5 KX G.T.g G.T.b G.T.builtins G.T.nolimit hg hobj hints (Bf hlen hn2) hr hF hb (fun H hO hS=>hsp w H a ns hlen hO hS) (fun H e s'=>hCX w H s₁ e s') (TT.nt w) (TT.un w) (fun y hy c P e=>by
  have z:=TT.rc w y hy (by rw[e];rfl)
  obtain⟨d',hd'⟩:=CP.mp z
  exact PySem.W.tab_of G.T KX hd' e) G.T.bmain
def defArgs(s:Stmt):Arguments:=match s with
 | .FunctionDef _ a _ _ _ _ _ _ _ _=>a
 | _=>{ posonlyargs:=[],args:=[],vararg:=none,kwonlyargs:=[],kw_defaults:=[],kwarg:=none,defaults:=[] }
def defBody(s:Stmt):List Stmt:=match s with
 | .FunctionDef _ _ b _ _ _ _ _ _ _=>b
 | _=>[]
def zU(s:Stmt):Scope:=match s with
 | .FunctionDef _ _ _ _ _ _ sc _ _ _=>sc
 | _=>{ kind:=.function,names:=[],isGenerator:=false,isCoroutine:=false }
abbrev CX0:CXT:=fun _ _ _ _ _ _=>False
abbrev E0:XK:=fun _ _ _=>False
def pass0{X:Cx}:Passes CX0 X E0:=fun _ _ _ _ _ _ _ h=>h.elim
structure Fun(K:KFr)(x qual:Str)(st:Stmt)(f:Addr)(fd:FuncData):Prop where
 ex:∃(oc:Value) (od:Option Addr) (kV doc pm:Value) (an:Option Addr) (cdv ct:Value) (osl:Array (Option Value)),
  fd=PySem.W.fnOf x qual (defArgs st) (defBody st) (zU st) .none kV doc pm an cdv ct/\K.lookup f=some ⟨oc,od,.func fd,osl⟩/\PySem.W.codeIn K cdv qual=true
 kp:PySem.W.keepIn K (.ref f)=true
section
variable {P:Program}{w:World}{K:KFr}{mg:Str->Option Value}{base:Heap}
def Fun.ok{x qual:Str}{st:Stmt}{f:Addr}{fd:FuncData}{N ps:List Str}{k:Nat}{sp:Sp}(F:Fun K x qual st f fd)(S:zI N ps (zU st))(len:∀vs H Q E,sp vs H Q E->vs.length=ps.length)
  (hbody:∀(cdv:Value) (A:Around) (outer:List Env) (s:Shared) (H:Hp) (vs:List V) (Q:VK) (E:XK),Room k (A.deeper (envOfC qual (zU st) s.heap.objs.size f cdv))->sp vs H Q E ->
   ∃t,PSs (cxOf CX0 P w K mg base N qual (zU st) f cdv A outer s H E).nox (defBody st) t/\t { nx:=fun _ H'=>Q .non H',rt:=Q } (start N vs) H):FnOk P w K mg base CX0 (k+1) f fd ps sp:=by
 obtain⟨oc,od,kV,doc,pm,an,cdv,ct,osl,rfl,lk,hcd⟩:=F.ex
 refine zR2 lk hcd S len fun A outer s H vs Q E hr hsp => ?_
 obtain⟨t,h,q⟩:=hbody cdv A outer s H vs Q E hr hsp
 exact⟨t,h.nox,q⟩
def Fun.binds{x qual:Str}{st:Stmt}{f:Addr}{fd:FuncData}{ps:List Str}(F:Fun K x qual st f fd)
  (h:∀(kV doc pm:Value) (an:Option Addr) (cdv ct:Value) (us:List Value),us.length=ps.length->bindArgs (PySem.W.fnOf x qual (defArgs st) (defBody st) (zU st) .none kV doc pm an cdv ct) ⟨us,[]⟩=pure (ps.zip us)):Binds K fd ps []:=by
 obtain⟨oc,od,kV,doc,pm,an,cdv,ct,osl,rfl,lk,hcd⟩:=F.ex
 exact .all (h kV doc pm an cdv ct)
def xF7{x qual:Str}{st:Stmt}{f:Addr}{oc:Value}{od an:Option Addr}{osl:Array (Option Value)}{kV doc pm cdv ct:Value}(l:K.lookup f=some ⟨oc,od,.func (PySem.W.fnOf x qual (defArgs st) (defBody st) (zU st) .none kV doc pm an cdv ct),osl⟩)
  (c:PySem.W.codeIn K cdv qual=true) (k:PySem.W.keepIn K (.ref f)=true):Fun K x qual st f (PySem.W.fnOf x qual (defArgs st) (defBody st) (zU st) .none kV doc pm an cdv ct):=⟨⟨oc,od,kV,doc,pm,an,cdv,ct,osl,rfl,l,c⟩,k⟩
end
def small1000{n:Nat}(h:n<=1000):n<sizeLine:=Cn h (by decide)
section
variable {X:Cx}
def pv(i:Nat){x:Str}{pos:Pos}(hN:autoParam (X.N[i]?=some x) DH)(hv:autoParam (Vis X.env.scope x) DE)(hd:autoParam ((x == ("__debug__":Str))=false) DG)
  (hcd:autoParam ((x == ("__classdict__":Str))=false) DG):PE X (.Name x pos) (tVar i):=jJ hN hv hd hcd
end
def iteF{A B:Prop}(h:B):if false=true then A else B:=by
 rw[AJ AK]
 exact h
def iteT{A B:Prop}(h:A):if true=true then A else B:=by
 rw[Aq rfl]
 exact h
def Same(H H':Hp):Prop:=∀b o,H b=some o->H' b=some o
def Same.refl(H:Hp):Same H H:=fun _ _ h=>h
def Same.trans{H H1 H2:Hp}(a:Same H H1)(b:Same H1 H2):Same H H2:=fun c o h=>b c o (a c o h)
def Same.free{H H':Hp}(e:Same H H'){l:Addr}(h:H' l=Option.none):H l=Option.none:=by
 cases q:H l with
 | none=>rfl
 | some o =>
  rw[e l o q] at h
  cases h
end L2
set_option maxHeartbeats 2000000
namespace PySem
section
variable {prog:Program}{w:World}{A:Around}{E:Value->Shared->Prop}{s:Shared}
def yP8{x:Value}{Q:List Value->Shared->Prop}
  (k:codeAny (model prog w) A (.builtin "list.__iadd__" ⟨[.ref s.heap.objs.size,x],[]⟩) (wants (fun v s'=>v=.ref s.heap.objs.size/\∃acc n,s'.heap.get? s.heap.objs.size=some { cls:=.type "list",data:=.seq acc n }/\Q acc.toList s') E) { s with heap:=s.heap.push { cls:=.type "list",data:=.seq #[] } }) :
  wpAny (model prog w) A (collect x) Q E s:=by
 wp_walk
 have h1:=F.entry_proto_collect
 have h2:=F.plain_proto_collect
 have h3:=F.plain_list_iadd
 refine codeAny_builtin h1 ?_
 rw[Around.under_plainId h2]
 wp_walk
 refine⟨plainId_quiet h3 _,codeAny_mono k fun r s' hr => ?_⟩
 cases r with
 | error e=>exact hr
 | ok f =>
  cases f with
  | ret v =>
   obtain⟨rfl,acc,n,g,q⟩:=hr
   exact Ah (wpAny_load g (Ax q))
  | _=>exact hr.elim
def yW6{x:Value}{S:Spec}{Q:List Value->Shared->Prop}(m:MeetsIn prog w (Builtin.List.listExtendWith (.ref s.heap.objs.size) x (.ref s.heap.objs.size)) S)
  (k:S A (wants (fun v s'=>v=.ref s.heap.objs.size/\∃acc n,s'.heap.get? s.heap.objs.size=some { cls:=.type "list",data:=.seq acc n }/\Q acc.toList s') E) { s with heap:=s.heap.push { cls:=.type "list",data:=.seq #[] } }) :
  wpAny (model prog w) A (collect x) Q E s:=by
 have z:=F.plain_list_iadd
 have y:=m A _ _ k
 refine yP8 (codeAny_builtin F.entry_list_iadd ?_)
 rw[Around.under_plainId z]
 exact y
def yH4{l:Addr}{its:Array Value}{P:Value->Shared->Prop}(hh:A.handled=none)(hl:s.heap.IsList l its)
  (k:∀(I:Addr) (hp:Heap) (St:Nat->Heap->Prop),Walks prog w A I [I,l] [I] its.size (fun i v=>its[i]?=some v) St->St 0 hp->I<hp.objs.size->l<hp.objs.size->(∀b o,s.heap.get? b=some o->b≠I/\hp.get? b=some o)->P (.ref I) { s with heap:=hp }) :
  wpAny (model prog w) A (pyIter (.ref l)) P E s:=by
 have on:∀{b:Addr}{o:Obj},s.heap.get? b=some o->b<s.heap.objs.size:=fun g=>Ap g
 have ll:l<s.heap.objs.size:=let ⟨_,g,_⟩:=hl;on g
 refine wpAny_pyIter_list hl (k _ _ _ (Walks.list hh _ l (AL ll) its) ⟨⟨_,Aw _ rfl,rfl,rfl⟩,hl.at fun _ g=>Af _ g⟩ ?_ ?_ fun b o g=>⟨AL (on g),Af _ g⟩)
 ·exact CT (BR _) (Cd ..).symm
 ·exact CT (Cv ll) (Cd ..).symm
def zE9{l:Addr}{its:Array Value}{P:Value->Shared->Prop}(hh:A.handled=none)(hl:s.heap.IsTuple l its)
  (k:∀(I:Addr) (hp:Heap) (St:Nat->Heap->Prop),Walks prog w A I [I,l] [I] its.size (fun i v=>its[i]?=some v) St->St 0 hp->I<hp.objs.size->l<hp.objs.size->(∀b o,s.heap.get? b=some o->b≠I/\hp.get? b=some o)->P (.ref I) { s with heap:=hp }) :
  wpAny (model prog w) A (pyIter (.ref l)) P E s:=by
 have on:∀{b:Addr}{o:Obj},s.heap.get? b=some o->b<s.heap.objs.size:=fun g=>Ap g
 have ll:l<s.heap.objs.size:=let ⟨_,g,_⟩:=hl;on g
 refine wpAny_pyIter_tuple hl (k _ _ _ (Walks.tuple hh _ l (AL ll) its) ⟨⟨_,Aw _ rfl,rfl,rfl⟩,hl.at fun _ g=>Af _ g⟩ ?_ ?_ fun b o g=>⟨AL (on g),Af _ g⟩)
 ·exact CT (BR _) (Cd ..).symm
 ·exact CT (Cv ll) (Cd ..).symm
def xQ2{l b:Addr}{xs ys:Array Value}{n m:Nat}{o:Obj}(hc:o.cls=.type "tuple")(hd:o.data=.seq ys m)(fit:xs.size+ys.size<=sizeLine) :
  Meets (Builtin.«list.extend» ⟨[.ref l,.ref b],[]⟩) (fun _ R x=>x.heap.get? l=some { cls:=.type "list",data:=.seq xs n }/\x.heap.get? b=some o/\R (.ok (.ret .none)) { x with heap:=x.heap.update l (Obj.mapSeq (·++ys)) }) :=
 .of_wp fun prog w A R x ⟨hl,hb,k⟩=>by
  have t:x.TypeIs (.ref b) "tuple":=⟨o,hb,hc⟩
  have e1:Builtin.List.listTooLong (xs.size+ys.size)=false:=by
   unfold Builtin.List.listTooLong
   simpa using fit
  have e2:(xs++ys).size<=sizeLine+1:=by rw[Array.size_append];rfl'
  have e3:xs.size<=sizeLine:=by rfl'
  wp_walk using wpAny_typeOf t,wpAny_seqItems hl rfl,wpAny_seqItems hb hd,wpAny_updateSeq hl rfl
  exact⟨_,rfl,k⟩
def zD6{it:Addr}{P:Value->Shared->Prop}(ty:s.TypeIs (.ref it) "tuple_iterator")
  (k:wpAny (model prog w) A.in1 (Builtin.«tuple_iterator.__next__» ⟨[.ref it],[]⟩) (fun f x=>∃v,f=.done (.ret v)/\P v x) E s):wpAny (model prog w) A (Builtin.SmallTypes.nextOf (.ref it)) P E s:=by
 have sl:=F.slot_tuple_iterator_next
 have en:=F.entry_tuple_iterator_next
 have ok:=F.args_tuple_iterator_next_1 (.ref it)
 have c:wpAny (model prog w) A (call (.builtin "tuple_iterator.__next__") [.ref it]) P E s:=wpAny_call_entry sl ty en k ok
 unfold Builtin.SmallTypes.nextOf
 exact Ah (wpAny_callSpecial?_slot ty sl (wpAny_mono c (fun v x z=>Ax z) fun _ _ z=>z))
section
variable {it t:Addr}{i:Nat}{its:Array Value}
def xT2{v:Value}{P:Value->Shared->Prop}(hI:s.heap.IsTupleIter it t i)(hT:s.heap.IsTuple t its)(at_:its[i]?=some v)
  (k:∀h',h'.IsTupleIter it t (i+1)->Heap.SameBut it s.heap h'->P v { s with heap:=h' }):wpAny (model prog w) A (Builtin.SmallTypes.nextOf (.ref it)) P E s:=by
 refine zD6 hI.typeIs ?_
 obtain⟨o,a1,a2,a3⟩:=hI
 obtain⟨ot,b1,b2,n,b3⟩:=hT
 have f0:∀(P:Value->Shared->Prop) (E':Value->Shared->Prop),P (.ref t) s->wpAny (model prog w) A.in1 (field (.ref it) 0) P E' s:=fun P E' p=>wpAny_field a1 a3 rfl p
 have f1:∀(P:Value->Shared->Prop) (E':Value->Shared->Prop),P (.int i 0) s->wpAny (model prog w) A.in1 (field (.ref it) 1) P E' s:=fun P E' p=>wpAny_field a1 a3 rfl p
 have at':its[(i:Int).toNat]?=some v:=at_
 wp_walk using f0,f1,wpAny_seqItems b1 b3,wpAny_setField a1 a3
 rw[at']
 refine Ah (wpAny_setField a1 a3 (by simp) (Ax ⟨v,rfl,k _ ⟨_,Heap.get?_update_self _ a1 ?_,?_,?_⟩ (Dr ..)⟩))
 ·exact Obj.isFreed_of_fields (Obj.data_mapFields a3 _)
 ·rw[Obj.cls_mapFields,a2]
 ·rw[Obj.data_mapFields a3];rfl
def yT9{P:Value->Shared->Prop}(hA:A.handled=none)(hI:s.heap.IsTupleIter it t i)(hT:s.heap.IsTuple t its)(at_:its[i]?=none)
  (k:∀h' e,Heap.ExtBut it s.heap h'->(∃o,h'.get? e=some o/\o.cls=.type "StopIteration")->E (.ref e) { s with heap:=h' }):wpAny (model prog w) A (Builtin.SmallTypes.nextOf (.ref it)) P E s:=by
 refine zD6 hI.typeIs ?_
 obtain⟨o,a1,a2,a3⟩:=hI
 obtain⟨ot,b1,b2,n,b3⟩:=hT
 have f0:∀(P:Value->Shared->Prop) (E':Value->Shared->Prop),P (.ref t) s->wpAny (model prog w) A.in1 (field (.ref it) 0) P E' s:=fun P E' p=>wpAny_field a1 a3 rfl p
 have f1:∀(P:Value->Shared->Prop) (E':Value->Shared->Prop),P (.int i 0) s->wpAny (model prog w) A.in1 (field (.ref it) 1) P E' s:=fun P E' p=>wpAny_field a1 a3 rfl p
 have at':its[(i:Int).toNat]?=none:=at_
 have hA':A.in1.handled=none:=hA
 wp_walk using f0,f1,wpAny_seqItems b1 b3,wpAny_setField a1 a3,wpAny_raiseNew_none hA'
 rw[at']
 refine Ah (wpAny_rule (Ah (wpAny_setField a1 a3 (by simp) ?_)))
 unfold Builtin.SmallTypes.stopIteration
 wp_walk using wpAny_raiseNew_none hA'
 exact k _ _ (((Dr ..).extBut.push _).push _) ⟨_,Aw _ rfl,rfl⟩
end
def bH{M:Model}{scope:Scope}{g bi:Addr}{cl:List (Str×Addr)}{qual:Str}{cd:Value}{outer:Env}{P:Value->Env->Shared->Prop}(nocell:∀y∈scope.names,y.2 ≠ .cell)(kind:scope.kind=.function)
  (k:∀(D C:Addr) (hp:Heap) (m:Str->Option Value),s.heap.objs.size<=D->s.heap.objs.size<=C->D≠C->(∀b o,s.heap.get? b=some o->hp.get? b=some o)->hp.get? D=some { cls:=.type "list",data:=.seq #[] }->hp.Ns C m->P (.ref D) (newEnv scope C g cl qual none cd (some outer) bi) { s with heap:=hp }) :
  wpAny M A (newList []) (fun acc x=>wpAny M A (newFunctionEnv scope g cl [] qual none cd (some outer) bi) (fun e y=>P acc e y) E x) E s:=by
 unfold newList
 refine wpAny_newObj_type (wpAny_newFunctionEnv nocell (fun _ z=>nomatch z) (fun hp ns sb => ?_) kind)
 have z:(s.heap.push { cls:=.type "list",data:=.seq #[] }).objs.size=s.heap.objs.size+1:=Cd ..
 have up:∀b o,(s.heap.push { cls:=.type "list",data:=.seq #[] }).get? b=some o->hp.get? b=some o:=fun b o q=>sb.extBut b o (AL (Ap q)) (Af _ q)
 exact k _ _ hp _ (Ak _) (by show _<=(s.heap.push _).objs.size;rw[Cd];rfl') (by show _≠(s.heap.push _).objs.size;rw[Cd];rfl') (fun b o q=>up b o (Af _ q)) (up _ _ (Aw _ rfl)) ns
def xL3{x:Value}{oI:Obj}{Q:Value->Shared->Prop}(alive:oI.isFreed=false)(it:∀(B:Around) (P E':Value->Shared->Prop),P (.ref s.heap.objs.size) { s with heap:=s.heap.push oI }->wpAny (model prog w) B (pyIter x) P E' s)
  (k:∀h',IsEnum h' (s.heap.objs.size+1) s.heap.objs.size 0 .none->h'.get? s.heap.objs.size=some oI->(∀b o,s.heap.get? b=some o->h'.get? b=some o)->Q (.ref (s.heap.objs.size+1)) { s with heap:=h' }):wpAny (model prog w) A (call (.type "enumerate") [x]) Q E s:=by
 refine callType_newIn F.called_enumerate (by decide) (F.typeCall_enumerate_1 _) (F.newCall_enumerate_1 _) (fun o=>F.args_object_init_2 o _) F.entry_enumerate_new
  (S:=fun B R t=>t=s/\B=A.in1/\R=wants (fun v y=>y.TypeIs v "enumerate"/\Q v y) E) (.of_wp fun B R t h => ?_) ⟨rfl,rfl,rfl⟩
 obtain⟨rfl,rfl,rfl⟩:=h
 have u:=sub_enumerate
 have sz:(t.heap.push oI).objs.size=t.heap.objs.size+1:=Cd ..
 have fin:∀v:Value,v=.ref (t.heap.push oI).objs.size->Q v { t with heap:=(t.heap.push oI).push { cls:=.type "enumerate",data:=.fields #[.none,.bool false,.ref t.heap.objs.size,rawInt 0,.none,.none] } }:=fun v e=>by
  subst e
  rw[sz]
  exact k _ (by rw[<-sz];exact Aw _ rfl) (Af _ (Aw _ alive)) fun b o g=>Af _ (Af _ g)
 wp_walk
 refine wpAny_stack_any (fun st=>Ax ?_)
 split
 ·generalize (_ == Value.type "enumerate")=b
  cases b
  all_goals
   wp_walk using it A.in1.in1
   exact⟨_,rfl,⟨_,Aw _ rfl,rfl⟩,fin _ rfl⟩
 ·wp_walk using it A.in1.in1
  exact⟨_,rfl,⟨_,Aw _ rfl,rfl⟩,fin _ rfl⟩
end
end PySem
set_option maxHeartbeats 2000000
namespace PySem
section
variable {prog:Program}{w:World}{A:Around}{E:Value->Shared->Prop}{s:Shared}
end
end PySem
namespace L2
open PySem PySem.Spec PyProof.Rows
def HOk.track{P:Program}{w:World}{H:Hp}{h:Heap}{a:Addr}{o:HO}(x:HOk P w H h)(hn:H a=none)(new:ObjOk P w (upd H a o) h a o):HOk P w (upd H a o) h:=fun b u e=>by
 by_cases hb:b=a
 ·subst hb;rw[zS] at e;cases e;exact new
 ·rw[zY hb] at e
  exact (x b u e).stay (fun c v _ q=>q) (fun c q=>by rw[zY (yZ q hn)];exact q) (fun c xs q=>by rw[zY (yZ q hn)];exact q) fun c _ _ q=>by rw[zY (yZ q hn)];exact q
def clos(cells:List (Str×Addr)):List (Str×NameKind)->List (Str×Addr)->List (Str×Addr)
 | [],acc=>acc
 | (n,k)::r,acc=>if k == .free then clos cells r ((n,(cells.lookup n).getD 0)::acc) else clos cells r acc
def qJ{env:Env}:∀(names:List (Str×NameKind)) (acc:List (Str×Addr)),(∀n,(n,NameKind.free)∈names->∃c,env.cells.lookup n=some c) ->
  (forIn names acc fun (x:Str×NameKind) (r:List (Str×Addr))=>(do
   let (name,kind):=x
   if kind == .free then do
    let c <-cellOf env name
    pure (ForInStep.yield ((name,c)::r))
   else pure (ForInStep.yield r):Sem (ForInStep (List (Str×Addr)))))=pure (clos env.cells names acc)
 | [],acc,_=>rfl
 | (n,k)::r,acc,h=>by
  rw[List.forIn_cons]
  by_cases hk:(k == NameKind.free)=true
  ·have ek:k=NameKind.free:=by simpa using hk
   obtain⟨c,hc⟩:=h n (by rw[ek];exact Ae)
   have e1:cellOf env n=pure c:=by unfold cellOf;rw[hc]
   simp only[hk,if_true,e1,pure_bind]
   rw[qJ r _ fun m hm=>h m (Ad _ hm)]
   show _=pure (if (k == NameKind.free)=true then clos env.cells r ((n,(env.cells.lookup n).getD 0)::acc) else clos env.cells r acc)
   rw[Aq hk,hc]
   rfl
  ·simp only[hk,if_false,pure_bind,AV]
   rw[qJ r _ fun m hm=>h m (Ad _ hm)]
   show _=pure (if (k == NameKind.free)=true then clos env.cells r ((n,(env.cells.lookup n).getD 0)::acc) else clos env.cells r acc)
   rw[AJ hk]
def kU{scope:Scope}{env:Env}(h:∀n,(n,NameKind.free)∈scope.names->∃c,env.cells.lookup n=some c):closureFor scope env=pure (clos env.cells scope.names []):=by
 unfold closureFor
 have:=qJ (env:=env) scope.names [] h
 simp only[] at this ⊢
 rw[show (forIn scope.names ([]:List (Str×Addr)) fun (x:Str×NameKind) (r:List (Str×Addr))=>(do
   if x.2 == .free then do
    let c <-cellOf env x.1
    pure (ForInStep.yield ((x.1,c)::r))
   else pure (ForInStep.yield r):Sem (ForInStep (List (Str×Addr)))))=pure (clos env.cells scope.names []) from this]
 rfl
def cV{cells:List (Str×Addr)}:∀(names:List (Str×NameKind)) (acc:List (Str×Addr)),(∀n,(n,NameKind.free)∈names->∃c,cells.lookup n=some c)->(∀x c,acc.lookup x=some c->cells.lookup x=some c) ->
  ∀x c,(clos cells names acc).lookup x=some c->cells.lookup x=some c
 | [],acc,_,ha,x,c,e=>ha x c e
 | (n,k)::r,acc,h,ha,x,c,e=>by
  unfold clos at e
  by_cases hk:(k == NameKind.free)=true
  ·rw[Aq hk] at e
   have ek:k=NameKind.free:=by simpa using hk
   obtain⟨d,hd⟩:=h n (by rw[ek];exact Ae)
   refine cV r _ (fun m hm=>h m (Ad _ hm)) (fun y z q => ?_) x c e
   rw[hd,CG,Bu] at q
   by_cases hy:(y == n)=true
   ·simp only[hy] at q
    have ey:y=n:=by simpa using hy
    cases q
    rw[ey];exact hd
   ·simp only[hy] at q
    exact ha y z q
  ·rw[AJ hk] at e
   exact cV r _ (fun m hm=>h m (Ad _ hm)) ha x c e
def zX5{cells:List (Str×Addr)}:∀(names:List (Str×NameKind)) (acc:List (Str×Addr)) (x:Str),(∃c,acc.lookup x=some c)->∃c,(clos cells names acc).lookup x=some c
 | [],acc,x,h=>h
 | (n,k)::r,acc,x,h=>by
  unfold clos
  by_cases hk:(k == NameKind.free)=true
  ·rw[Aq hk]
   refine zX5 r _ x ?_
   rw[Bu]
   by_cases hy:(x == n)=true
   ·simp only[hy];exact⟨_,rfl⟩
   ·simp only[hy];exact h
  ·rw[AJ hk];exact zX5 r _ x h
def qG{cells:List (Str×Addr)}:∀(names:List (Str×NameKind)) (acc:List (Str×Addr)) (x:Str),(x,NameKind.free)∈names->∃c,(clos cells names acc).lookup x=some c
 | (n,k)::r,acc,x,h=>by
  unfold clos
  rcases An.mp h with e | e
  ·cases e
   rw[Aq (by rfl)]
   refine zX5 r _ _ ?_
   rw[Bu]
   simp only[beq_self_eq_true]
   exact⟨_,rfl⟩
  ·by_cases hk:(k == NameKind.free)=true
   ·rw[Aq hk];exact qG r _ x e
   ·rw[AJ hk];exact qG r _ x e
def yO5(env:Env):∃f:Str×NameKind->Str×NameKind,(∀sc:Scope,(relabel sc env).names=sc.names.map f)/\∀q,f q=q\/(q.2=.free/\f q=(q.1,.cell)):=by
 refine⟨_,fun _=>rfl,fun q => ?_⟩
 dsimp only
 split
 ·rename_i z
  exact .inr ⟨eq_of_beq (CC.mp (CC.mp z).1).1,rfl⟩
 ·exact .inl rfl
def zL7{f:Str×NameKind->Str×NameKind}(hf:∀q,f q=q\/(q.2=.free/\f q=(q.1,.cell)))(x:Str):∀l:List (Str×NameKind),(l.map f).lookup x=l.lookup x\/(l.lookup x=some .free/\(l.map f).lookup x=some .cell)
 | []=>.inl rfl
 | (n,k)::r=>by
  have ih:=zL7 hf x r
  rw[AU]
  rcases hf (n,k) with e | ⟨e1,e⟩
  ·rw[e]
   cases q:x == n with
   | true=>exact .inl (by rw[Bu,Bu,q])
   | false=>simpa only[Bu,q] using ih
  ·cases e1
   rw[e]
   cases q:x == n with
   | true=>exact .inr ⟨by rw[Bu,q],by rw[Bu,q]⟩
   | false=>simpa only[Bu,q] using ih
def bY(sc:Scope)(env:Env)(x:Str):(relabel sc env).names.lookup x=sc.names.lookup x\/(sc.names.lookup x=some .free/\(relabel sc env).names.lookup x=some .cell):=by
 obtain⟨f,e,hf⟩:=yO5 env
 rw[e sc]
 exact zL7 hf x sc.names
def qT{sc:Scope}{env:Env}{x:Str}{k:NameKind}(h:(relabel sc env).names.lookup x=some k):sc.names.lookup x=some k\/(k=.cell/\sc.names.lookup x=some .free):=by
 rcases bY sc env x with e | ⟨e1,e2⟩
 ·exact .inl (e.symm.trans h)
 ·exact .inr ⟨AW (h.symm.trans e2),e1⟩
def cK{sc:Scope}{env:Env}{x:Str}(h:sc.names.lookup x=some .free):(relabel sc env).names.lookup x=some .cell\/(relabel sc env).names.lookup x=some .free:=by
 rcases bY sc env x with e | ⟨_,e⟩
 ·exact .inr (e.trans h)
 ·exact .inl e
def cxComp(X:Cx)(N:List Str)(scope:Scope)(C:Addr)(fp:List Addr)(s₂:Shared)(H:Hp):Cx where
 prog:=X.prog
 w:=X.w
 K:=X.K
 mg:=X.mg
 base:=X.base
 A:=X.A
 N:=N
 s₀:=s₂
 H₀:=H
 env:=compEnvC scope (clos X.env.cells scope.names []) C X.env
 outer:=X.stack
 stack:=X.stack
 ex:=fp
 fn:=fun _=>false
 calm:=X.calm
 pn:=[]
 xe:=fun _ _=>False
structure CompScope(sc0 scope:Scope)(N0:List Str)(xt:Str)(fs:List Str)(js:List Nat):Prop where
 kind:scope.kind=.function
 nocell:∀y∈scope.names,y.2 ≠ .cell
 names:∀y∈scope.names,y.2=.local->scope.names.lookup y.1=some .local
 tgt:scope.names.lookup xt=some .local
 frees:∀y∈scope.names,y.2=.free->sc0.names.lookup y.1=some .cell\/sc0.names.lookup y.1=some .free
 len:js.length=fs.length
 slots:∀p∈fs.zip js,N0[p.2]?=some p.1/\scope.names.lookup p.1=some .free
 nd:(xt::fs).Nodup
def zN5{α β:Type}:∀{fs:List α}{js:List β}{i:Nat}{y:α}{j:β},fs[i]?=some y->js[i]?=some j->(y,j)∈fs.zip js
 | [],_,_,_,_,h,_=>by simp at h
 | _::_,[],_,_,_,_,h=>by simp at h
 | a::fs,b::js,0,y,j,h,h'=>by
  simp at h h'
  subst h h'
  exact Ae
 | a::fs,b::js,i+1,y,j,h,h'=>by
  rw[Dw]
  exact Ad _ (zN5 (i:=i) (by simpa using h) (by simpa using h'))
def compSt(σ:St)(js:List Nat)(v:Option V):St:=v::js.map fun j=>(σ[j]?).join
section
variable {X:Cx}{DI:List (Addr×Obj)}{σ:St}{H:Hp}{s₂ s₄:Shared}{sc0 scope:Scope}{N0:List Str}{xt:Str}{fs:List Str}{js:List Nat}{fp:List Addr}
def CompScope.cells(S:CompScope sc0 scope N0 xt fs js)(h0:X.env.scope=sc0)(ok:X.Ok):∀n,(n,NameKind.free)∈scope.names->∃c,X.env.cells.lookup n=some c:=fun n hn=>ok.has n (by subst h0;exact S.frees _ hn rfl)
def CompScope.sub(S:CompScope sc0 scope N0 xt fs js)(h0:X.env.scope=sc0)(ok:X.Ok):∀x c,(clos X.env.cells scope.names []).lookup x=some c->X.env.cells.lookup x=some c :=
 cV scope.names [] (S.cells h0 ok) fun x c e=>by simp at e
def Inv.block(S:CompScope sc0 scope N0 xt fs js)(h0:X.env.scope=sc0)(hN0:X.N=N0)(I:Inv X DI σ H s₂)(hf:∀b∈fp,FpOk X DI H b)(hfo:∀b∈fp,∃o,s₂.heap.get? b=some o)
  (hos:s₄.os=s₂.os) (hg:AllBare s₄.gens) (hk:∀b o,s₂.heap.get? b=some o->s₄.heap.get? b=some o){C:Addr}(hC:s₂.heap.objs.size<=C){m:Str->Option Value}(hn:s₄.heap.Ns C m) :
  Inv (cxComp X (xt::fs) scope C fp s₂ H) [] (compSt σ js none) H s₄:=by
 have sub:=S.sub h0 I.ok
 have blt:∀b∈fp,b<s₂.heap.objs.size:=fun b hb=>let ⟨o,e⟩:=hfo b hb;Ap e
 have ok:(cxComp X (xt::fs) scope C fp s₂ H).Ok:=by
  refine⟨I.ok.mod,S.kind,I.ok.glob,I.ok.blt,hC,fun x y c h1 h2=>I.ok.inj x y c (sub x c h1) (sub y c h2),fun x hx => ?_,fun x c h=>(nomatch h),I.ok.hd,I.ok.frames,.inl rfl,fun b hb=>⟨?_,fun x c h=>(hf b hb).2.2.2.2.1 x c (sub x c h)⟩,I.bs,Bf I.ok.bsz I.sz,fun b o e hb => ?_,fun b hb hs => ?_,I.stack,I.stkFree,I.tb⟩
  ·have hx:(relabel scope X.env).names.lookup x=some .cell\/(relabel scope X.env).names.lookup x=some .free:=hx
   have hfree:scope.names.lookup x=some .free:=by
    rcases hx with hx | hx
    ·rcases qT hx with q | ⟨_,q⟩
     ·exact absurd rfl (S.nocell _ (Bb q))
     ·exact q
    ·rcases qT hx with q | ⟨q,_⟩
     ·exact q
     ·cases q
   exact qG scope.names [] x (Bb hfree)
  ·exact AL (Au (blt b hb) hC)
  ·rcases (hf b hb).2.2.2.1 with z | z
   ·exact I.ok.noex b o e z
   ·exact absurd (Au (Ap (I.ok.bs b o e).1) z) (Ca _)
  ·rcases An.mp (I.stkSub b hs) with z | z
   ·exact (hf b hb).2.1 z
   ·exact (hf b hb).2.2.1 z
 refine⟨ok,hos,hg,Un.kept hk,⟨m,hn,fun i x v e1 e2 e3 => ?_⟩,fun x c e => ?_,I.hok.fresh hC,fun x c e=>I.freeC x c (sub x c e),fun p hp=>absurd (show p∈([]:List (Addr×Obj)) from hp) (by simp),I.hok.kept hk,?_⟩
 ·cases i with
  | zero=>cases e2
  | succ i =>
   have e1:fs[i]?=some x:=e1
   have e2:(js.map fun j=>(σ[j]?).join)[i]?=some (some v):=e2
   rw[Ai] at e2
   cases ej:js[i]? with
   | none=>rw[ej] at e2;cases e2
   | some j =>
    rw[ej] at e2
    have e2:(σ[j]?).join=some v:=AW e2
    obtain⟨hN,hfr⟩:=S.slots _ (zN5 e1 ej)
    have hN:X.N[j]?=some x:=by rw[hN0];exact hN
    have hk2:X.env.kindOf x=some .cell\/X.env.kindOf x=some .free:=by subst h0;exact S.frees _ (Bb hfr) rfl
    have hs:σ[j]?=some (some v):=by
     cases q:σ[j]? with
     | none=>rw[q] at e2;cases e2
     | some z=>rw[q] at e2;rw[show z=some v from e2]
    obtain⟨m0,hn0,hl⟩:=I.loc
    obtain⟨u,r,l⟩:=hl j x v hN hs (by rcases hk2 with z | z;exact .inr (.inl z);exact .inr (.inr z))
    refine⟨u,r,?_⟩
    rcases l with ⟨hloc,_⟩ | ⟨_,c,hc,hcell⟩
    ·rcases hk2 with z | z
     ·rw[z] at hloc;cases hloc
     ·rw[z] at hloc;cases hloc
    ·obtain⟨c',hc'⟩:=qG (cells:=X.env.cells) scope.names [] x (Bb hfr)
     have:c'=c:=AW ((sub x c' hc').symm.trans hc)
     subst this
     exact .inr ⟨cK hfr,c',hc',hcell.keeps hk⟩
 ·obtain⟨v,z⟩:=I.cell x c (sub x c e)
  exact⟨v,z.keeps hk⟩
 ·show (compSt σ js none).length=(xt::fs).length
  unfold compSt
  rw[Av,Aa,Av,S.len]
def Inv.unblock{pins':List (Addr×Obj)}{σ':St}{H':Hp}{s':Shared}{h'':Heap}{C D:Addr}{its:List Value}{n:Nat}{acc:List V}{N:List Str}(I:Inv X DI σ H s₂)(hf:∀b∈fp,FpOk X DI H b)
  (J:Inv (cxComp X N scope C fp s₂ H) pins' σ' H' s') (hC:s₂.heap.objs.size<=C) (hD:s₂.heap.objs.size<=D) (hDC:D≠C) (hHD:H' D=none)
  (hd:s'.heap.get? D=some { cls:=.type "list",data:=.seq its.toArray n }) (hv:Vals acc its) (hz:acc.length<=sizeLine) (hsb:Heap.SameBut C s'.heap h'') :
  Inv X DI σ (upd H' D (.lst acc)) { s' with heap:=h'' }:=by
 have hd2:h''.get? D=some { cls:=.type "list",data:=.seq its.toArray n }:=(hsb.2 D hDC).trans hd
 have keep:∀b o,b<s₂.heap.objs.size->s'.heap.get? b=some o->h''.get? b=some o:=fun b o hb e=>(hsb.2 b (AL (Au hb hC))).trans e
 have hHC:H' C=none:=J.free
 have ok1:HOk X.prog X.w H' h'':=fun b o e=>(J.hok b o e).stay (fun c v hc q=>(hsb.2 c (by
   rcases hc with z | z
   ·rw[z];exact fun w=>by rw[w,hHC] at e;cases e
   ·exact fun w=>by rw[w,hHC] at z;cases z)).trans q) (fun _ q=>q) fun _ _ q=>q
 have ok2:HOk X.prog X.w (upd H' D (.lst acc)) h'':=ok1.track hHD ⟨hz,its,n,hv,hd2⟩
 have un:Un (frs X.stack) fp H (upd H' D (.lst acc)) s₂.heap h'':=by
  have u:=J.base
  refine⟨fun b o e nb h1 h2=>keep b o (Ap e) (u.keep b o e nb h1 h2),fun b o e nb h1 h2 => ?_,fun b o e nb h2 => ?_,fun b o e h2 => ?_,fun b xs e => ?_,fun b o v e => ?_,fun b ps e => ?_⟩
  ·obtain⟨sl,q⟩:=u.slot b o e nb h1 h2
   exact⟨sl,keep b _ (Ap e) q⟩
  ·rw[zY (AL (Au (Ap e) hD))]
   exact u.free b o e nb h2
  ·obtain⟨o',q⟩:=u.there b o e h2
   exact⟨o',keep b _ (Ap e) q⟩
  ·have q:=u.tups b xs e
   rw[zY (yZ q hHD)];exact q
  ·have q:=u.frzs b o v e
   rw[zY (yZ q hHD)];exact q
  ·have q:=u.tbls b ps e
   rw[zY (yZ q hHD)];exact q
 obtain⟨hh,g,d,t,os'⟩:=s'
 obtain rfl:os'=s₂.os:=J.os
 exact Inv.call (s:=s₂) I (h':=h'') (g':=g) (d':=d) (t':=t) (ch:=fp) un ok2 J.bare fun b hb=>⟨(hf b hb).2.2.2.1,(hf b hb).2.1,(hf b hb).2.2.2.2.1,(hf b hb).2.2.2.2.2⟩
end
def tTrue:TT:=fun _ H Q=>Q true H
inductive PTs(X:Cx):List Expr->TT->Prop
 | nil:PTs X [] tTrue
 | one {c:Expr}{t:TT}:PT X c t->PTs X [c] t
def tComp(wi:TI)(tt:Addr->List Addr->Shared->Hp->TT)(te:Addr->List Addr->Shared->Hp->TE)(js:List Nat):TE:=fun σ H Q=>wi σ H fun J H1=>∀C fp s₂ H₂,∃W:Nat->Nat->List V->Hp->Prop,(∃m,W 0 m [] H1)/\∀i m acc H,W i m acc H ->
 (J.stop i H/\∀p,H p=none->Q (.ref p) (upd H p (.lst acc))) \/
 (J.go i H/\∃N:List V->Hp->Prop,(∀acc' H',N acc' H'->∃m',m'<m/\W (i+1) m' acc' H') /\
  ∀x H',J.yld i H x H'->tt C fp s₂ H₂ (compSt σ js (some x)) H' fun b H2=>if b=true then te C fp s₂ H₂ (compSt σ js (some x)) H2 fun v H3=>acc.length<sizeLine/\N (acc ++ [v]) H3 else N acc H2)
def zJ4{X:Cx}{elt iter:Expr}{ifs:List Expr}{sc0 scope:Scope}{N0:List Str}{px pos:Pos}{xt:Str}{fs:List Str}{js:List Nat}{wi:TI}{tt:Addr->List Addr->Shared->Hp->TT}{te:Addr->List Addr->Shared->Hp->TE}(S:CompScope sc0 scope N0 xt fs js)(h0:X.env.scope=sc0)(hN0:X.N=N0)(hc:X.calm=true)
  (hi:PI X (.Name xt px) iter wi) (ht:∀C fp s₂ H,PTs (cxComp X (xt::fs) scope C fp s₂ H) ifs (tt C fp s₂ H)) (he:∀C fp s₂ H,PE (cxComp X (xt::fs) scope C fp s₂ H) elt (te C fp s₂ H))
  (hs:autoParam (∀x,foldedSetIterable iter X.env x=pure x) DF)
  {DI:List (Addr×Obj)}{cpos:Pos}{s:Shared}{σ:St}{H:Hp}{Q:VK}{use:Option (Value->Sem Unit)}{Qv:Value->Shared->Prop}(I:Inv X DI σ H s) (h:tComp wi tt te js σ H Q)
  (hfin:∀(s':Shared) (C D:Addr) (Ha:Hp) (fl:Flow),(∀h'',Heap.SameBut C s'.heap h''->Inv X DI σ Ha { s' with heap:=h'' })->(∃m,s'.heap.Ns C m)->FpOk X DI Ha C->Q (.ref D) Ha->compPost (model X.prog X.w) X.A X.xe use Qv (.ref D) C (.ok fl) s') :
  wpAny (model X.prog X.w) X.A (comprehension (.ListComp elt [⟨.Name xt px,iter,ifs,0⟩] scope pos) scope X.env cpos (newList []) false (eval iter X.env) use) Qv X.xe s:=by
 refine wpAny_comprehension_free (use:=use) rfl hs (kU (S.cells h0 I.ok)) S.kind S.names ?_
 refine thn (hi DI s σ H _ I h) fun v s1 h1=>thn h1 fun itv s2 h2 => ?_
 obtain⟨it,fp,tn,J,H2,e,I2,T,st2,f2,hW⟩:=h2
 subst e
 have fo:∀b∈fp,∃o,s2.heap.get? b=some o:=fun b hb=>let ⟨o,e,_⟩:=T.obj 0 s2.heap st2 b hb; ⟨o,e⟩
 have blt:∀b∈fp,b<s2.heap.objs.size:=fun b hb=>let ⟨o,e⟩:=fo b hb;Ap e
 refine bH S.nocell S.kind fun D C h₁ mC hDle hCle hDC old hacc hns₁ => ?_
 have bC:∀b o,s2.heap.get? b=some o->b≠C:=fun b o q z=>Co.mpr hCle (z▸Ap q)
 have bD:∀b o,s2.heap.get? b=some o->b≠D:=fun b o q z=>Co.mpr hDle (z▸Ap q)
 obtain⟨W,⟨m0,w0⟩,turn⟩:=hW C fp s2 H2
 have fpk:∀{H':Hp}(ob:Obj),(∀b∈fp,H' b=none)->∀b∈fp,FpOk (cxComp X (xt::fs) scope C fp s2 H2) [(D,ob)] H' b:=fun {H'} ob hn b hb=>by
  refine⟨hn b hb,AL (Au (blt b hb) hCle),fun z => ?_,.inl hb,fun x c e=>(f2 b hb).2.2.2.2.1 x c (S.sub h0 I2.ok x c e),fun p hp => ?_⟩
  ·rcases An.mp (I2.stkSub b z) with q | q
   ·exact (f2 b hb).2.1 q
   ·exact (f2 b hb).2.2.1 q
  ·have:p=(D,ob):=by
    have hp:p ∈ [] ++ [(D,ob)]:=hp
    simpa using hp
   subst this
   exact BZ (Au (blt b hb) hDle)
 have loop:codeAny (model X.prog X.w) X.A (.compLoop (.ListComp elt [⟨.Name xt px,iter,ifs,0⟩] scope pos) 0 (.ref it) (.ref D) (compEnvC scope (clos X.env.cells scope.names []) C X.env))
    (compPost (model X.prog X.w) X.A X.xe use Qv (.ref D) C) { s2 with heap:=h₁ }:=by
  have J0:Inv (cxComp X (xt::fs) scope C fp s2 H2) [] (compSt σ js none) H2 { s2 with heap:=h₁ } :=
   Inv.block (s₂:=s2) (s₄:={ s2 with heap:=h₁ }) S h0 hN0 I2 f2 fo rfl I2.bare old hCle hns₁
  have H2D:H2 D=none:=I2.hok.fresh hDle
  have ofD:D∉frs X.stack:=fun z=>by
   rcases An.mp (I2.stkSub D z) with q | q
   ·exact absurd I2.lt (by rw[<-q];exact Co.mpr hDle)
   ·exact I2.nofs (a:=D) hDle q
  refine codeAny_loop rfl (fun n s'=>∃(i:Nat) (σ':St) (H':Hp) (acc:List V) (its:List Value) (k:Nat),(∃v0,σ'=compSt σ js v0)/\Inv (cxComp X (xt::fs) scope C fp s2 H2) [] σ' H' s'/\tn i s'.heap/\(∀b∈fp,H' b=none)/\H' D=none /\
    s'.heap.get? D=some { cls:=.type "list",data:=.seq its.toArray k }/\Vals acc its/\acc.length<=sizeLine/\W i n acc H') ?_ m0
   ⟨0,_,H2,[],[],0,⟨none,rfl⟩,J0,T.keep 0 _ _ st2 fun b hb o e=>old b o e,fun b hb=>(f2 b hb).1,H2D,hacc,.nil,AQ _,w0⟩
  rintro n s3 ⟨i,σ3,H3,acc,its,k,⟨v0,rfl⟩,I3,st3,fr3,hD3,d3,va,hz,w3⟩
  show wpAny _ X.A ((compTurn (.ListComp elt [⟨.Name xt px,iter,ifs,0⟩] scope pos) 0 (.ref it) (.ref D) (compEnvC scope (clos X.env.cells scope.names []) C X.env)).onRaise (fun x=>do noteFrame x (compEnvC scope (clos X.env.cells scope.names []) C X.env);theTreesLotGoes x)) _ _ s3
  refine wpAny_noted ?_
  rw[compTurn_list]
  refine Ah (wpAny_standAt ?_)
  have pinD:Inv (cxComp X (xt::fs) scope C fp s2 H2) [(D,{ cls:=.type "list",data:=.seq its.toArray k })] (compSt σ js v0) H3 s3:=I3.yE fun p hp=>by
   have:p=(D,{ cls:=.type "list",data:=.seq its.toArray k }):=by simpa using hp
   subst this
   exact⟨d3,hD3,hDC,ofD,fun v z=>by cases z⟩
  refine Ah ?_
  rcases turn i n acc H3 w3 with ⟨stop,qn⟩ | ⟨go,N,hN,step⟩
  ·refine thn (T.done (cxComp X (xt::fs) scope C fp s2 H2) rfl rfl rfl hc i _ s3 _ H3 _ pinD (fpk _ fr3) st3 stop) fun r s4 ⟨hr,I4⟩ => ?_
   subst hr
   refine Ax ?_
   obtain⟨m4,hn4,_⟩:=I4.loc
   have hHC:H3 C=none:=I4.free
   refine hfin s4 C D (upd H3 D (.lst acc)) _ (fun h'' hsb=>I2.unblock f2 I4 hCle hDle hDC hD3 ((I4.pin (D,{ cls:=.type "list",data:=.seq its.toArray k }) (Ag _ Ae)).1) va hz hsb) ⟨m4,hn4⟩ (I2.fpOk hCle (by rw[zY (Cj hDC)];exact hHC)) (qn D hD3)
  ·refine thn (T.item (cxComp X (xt::fs) scope C fp s2 H2) rfl rfl rfl hc i _ s3 _ H3 _ pinD (fpk _ fr3) st3 go) fun r s4 ⟨u,hr,h4⟩ => ?_
   subst hr
   refine Ah (thn h4 fun _ s5 ⟨x,H5,I5,r5,y5,st5,fr5⟩ => ?_)
   have I5':=I5.pinned (fpk _ fr5) (T.obj _ _ st5)
   have gok:PG (cxComp X (xt::fs) scope C fp s2 H2) (.Name xt px) (gName 0):=vA S.nd rfl (.inl (lookup_relabel_local S.tgt)) (.inr (lookup_relabel_local S.tgt))
   have noE:∀(a:Value) (s':Shared),(cxComp X (xt::fs) scope C fp s2 H2).xe a s'->notedBy (model X.prog X.w) X.A (compEnvC scope (clos X.env.cells scope.names []) C X.env) (fun e s'=>compPost (model X.prog X.w) X.A X.xe use Qv (.ref D) C (.error e) s') a s':=fun _ _ z=>False.elim z
   refine Ah (wpAny_mono (gok _ s5 (compSt σ js v0) H5 x u (fun σ' H'=>σ'=compSt σ js (some x)/\H'=H5) I5' r5 ⟨rfl,rfl⟩) (fun _ s6 ⟨σ6,H6,I6,e6,e6'⟩ => ?_) noE)
   subst e6 e6'
   have fin:∀{acc':List V}{its':List Value}{k':Nat}{H7:Hp}{s7:Shared},Inv (cxComp X (xt::fs) scope C fp s2 H2) [] (compSt σ js (some x)) H7 s7->tn (i+1) s7.heap->(∀b∈fp,H7 b=none)->H7 D=none->s7.heap.get? D=some { cls:=.type "list",data:=.seq its'.toArray k' }->Vals acc' its'->acc'.length<=sizeLine->N acc' H7 ->
     ∃m,m<n/\∃(i:Nat) (σ':St) (H':Hp) (acc:List V) (its:List Value) (k:Nat),(∃v0,σ'=compSt σ js v0)/\Inv (cxComp X (xt::fs) scope C fp s2 H2) [] σ' H' s7/\tn i s7.heap/\(∀b∈fp,H' b=none)/\H' D=none /\
      s7.heap.get? D=some { cls:=.type "list",data:=.seq its.toArray k }/\Vals acc its/\acc.length<=sizeLine/\W i m acc H':=fun {acc' its' k' H7 s7} a1 a2 a3 a4 a5 a6 a7 a8=>by
    obtain⟨m',hm,w7⟩:=hN _ _ a8
    exact⟨m',hm,i+1,_,H7,acc',its',k',⟨_,rfl⟩,a1,a2,a3,a4,a5,a6,a7,w7⟩
   have rest:∀{H7:Hp}{s7:Shared},Inv (cxComp X (xt::fs) scope C fp s2 H2) ([(D,{ cls:=.type "list",data:=.seq its.toArray k })]++pinsAt fp s5.heap) (compSt σ js (some x)) H7 s7 ->
     tn (i+1) s7.heap/\(∀b∈fp,H7 b=none)/\H7 D=none/\s7.heap.get? D=some { cls:=.type "list",data:=.seq its.toArray k }:=fun {H7 s7} I7=>by
    refine⟨T.keep _ _ _ st5 fun b hb o e=>(I7.pin (b,o) (Ag _ (Ag _ (xD hb e)))).1,fun b hb => ?_,(I7.pin (D,{ cls:=.type "list",data:=.seq its.toArray k }) (Ag _ (AS _ Ae))).2.1,(I7.pin (D,{ cls:=.type "list",data:=.seq its.toArray k }) (Ag _ (AS _ Ae))).1⟩
    obtain⟨o,e,d⟩:=T.obj _ _ st5 b hb
    exact (I7.pin (b,o) (Ag _ (Ag _ (xD hb e)))).2.1
   have elem:∀{H7:Hp}{s7:Shared},Inv (cxComp X (xt::fs) scope C fp s2 H2) ([(D,{ cls:=.type "list",data:=.seq its.toArray k })]++pinsAt fp s5.heap) (compSt σ js (some x)) H7 s7 ->
     (te C fp s2 H2 (compSt σ js (some x)) H7 fun v H3=>acc.length<sizeLine/\N (acc ++ [v]) H3) ->
     wpAny (model X.prog X.w) X.A (eval elt (compEnvC scope (clos X.env.cells scope.names []) C X.env)) (fun y s8=>wpAny (model X.prog X.w) X.A (call (.builtin "list.append") [.ref D,y]) (fun _ s9=>∃m,m<n/\∃(i:Nat) (σ':St) (H':Hp) (acc:List V) (its:List Value) (k:Nat),(∃v0,σ'=compSt σ js v0)/\Inv (cxComp X (xt::fs) scope C fp s2 H2) [] σ' H' s9/\tn i s9.heap/\(∀b∈fp,H' b=none)/\H' D=none /\
      s9.heap.get? D=some { cls:=.type "list",data:=.seq its.toArray k }/\Vals acc its/\acc.length<=sizeLine/\W i m acc H')
      (fun _ _=>False) s8) (fun _ _=>False) s7:=fun {H7 s7} I7 q7=>by
    refine thn (he C fp s2 H2 _ s7 _ H7 _ I7 q7) fun y s8 ⟨v,H8,I8,r8,hl8,n8⟩ => ?_
    obtain⟨t8,fr8,hD8,d8⟩:=rest I8
    have hsz:=va.length
    refine call_meets CS ⟨_,d8,rfl⟩ CM (CB _ _) (CV D its.toArray k y (by rw[Am];rfl')) ⟨d8,?_⟩
    have q:=Df d8 (·.push y)
    rw[show (its.toArray.push y)=(its ++ [y]).toArray by simp] at q
    have kk:∀b o,b≠D->s8.heap.get? b=some o->(s8.heap.update D (Obj.mapSeq (·.push y))).get? b=some o:=fun b o hb e=>(BF s8.heap _ (Cj hb)).trans e
    have I9:Inv (cxComp X (xt::fs) scope C fp s2 H2) [] (compSt σ js (some x)) H8 { s8 with heap:=s8.heap.update D (Obj.mapSeq (·.push y)) }:=by
     refine Inv.turned (it:=D) (t':=s8.toks) (I8.yE (pins':=[]) fun p hp=>nomatch hp) kk hD8 hDC (.inr hDle) (fun x c e z => ?_) fun p hp=>absurd (show p∈([]:List (Addr×Obj)) from hp) (by simp)
     obtain⟨v,o,ho,_⟩:=I2.cell x c (S.sub h0 I2.ok x c e)
     exact bD c o ho z
    refine fin I9 (T.keep _ _ _ t8 fun b hb o e=>kk b o (AL (Au (blt b hb) hDle)) e) fr8 hD8 q (va.append (.cons r8 .nil)) ?_ n8
    rw[Ao,Bc]
    rfl'
   have q6:=step x H6 y5
   have htt:=ht C fp s2 H2
   generalize tt C fp s2 H2=tt' at htt q6
   cases htt with
   | nil =>
    refine Ah (Ax ?_)
    dsimp only[tTrue] at q6
    rw[Aq rfl] at q6
    refine wpAny_mono (Ah (Ah (thn (elem I6 q6) fun y s8 h8=>Ah (thn h8 fun _ s9 h9=>Ax (Ax ⟨rfl,h9⟩))))) (fun _ _ z=>z) fun _ _ z=>False.elim z
   | one ht1 =>
    refine Ah (wpAny_tests_one (wpAny_mono (ht1 _ s6 _ H6 _ I6 q6) (fun b s7 ⟨H7,I7,q7⟩ => ?_) noE))
    cases b with
    | false =>
     rw[AJ AK] at q7
     obtain⟨t8,fr8,hD8,d8⟩:=rest I7
     exact Ax ⟨rfl,fin (I7.yE (pins':=[]) fun p hp=>nomatch hp) t8 fr8 hD8 d8 va hz q7⟩
    | true =>
     rw[Aq rfl] at q7
     refine wpAny_mono (Ah (Ah (thn (elem I7 q7) fun y s8 h8=>Ah (thn h8 fun _ s9 h9=>Ax (Ax ⟨rfl,h9⟩))))) (fun _ _ z=>z) fun _ _ z=>False.elim z
 exact codeAny_compStart_list loop (T.self X.A 0 _ _ _ (T.keep 0 _ _ st2 fun b hb o e=>old b o e) loop)
def zP3{X:Cx}{elt iter:Expr}{ifs:List Expr}{sc0 scope:Scope}{N0:List Str}{px pos:Pos}{xt:Str}{fs:List Str}{js:List Nat}{wi:TI}{tt:Addr->List Addr->Shared->Hp->TT}{te:Addr->List Addr->Shared->Hp->TE}(S:CompScope sc0 scope N0 xt fs js)(h0:X.env.scope=sc0)(hN0:X.N=N0)(hc:X.calm=true)
  (hi:PI X (.Name xt px) iter wi) (ht:∀C fp s₂ H,PTs (cxComp X (xt::fs) scope C fp s₂ H) ifs (tt C fp s₂ H)) (he:∀C fp s₂ H,PE (cxComp X (xt::fs) scope C fp s₂ H) elt (te C fp s₂ H))
  (hs:autoParam (∀x,foldedSetIterable iter X.env x=pure x) DF) :
  PE X (.ListComp elt [⟨.Name xt px,iter,ifs,0⟩] scope pos) (tComp wi tt te js):=by
 intro DI s σ H Q I h
 rw[eval_ListComp]
 refine zJ4 S h0 hN0 hc hi ht he hs (use:=none) (Qv:=EP X DI σ Q) I h fun s' C D Ha fl hI hns hC q => ?_
 obtain⟨m,hn⟩:=hns
 exact⟨m,hn,fun h' hsb=>⟨.ref D,Ha,hI h' hsb,rfl,q⟩⟩
def zR4{lo:Int}{n:Nat}{tt:TT}{te:TE}{js:List Nat}{σ:St}{H:Hp}{Q:VK}(Pv:Nat->List V->Hp->Prop)(h0:Pv 0 [] H)
  (hs:∀i acc H,i<n->Pv i acc H->tt (compSt σ js (some (.int (lo+i)))) H fun b H2=>if b=true then te (compSt σ js (some (.int (lo+i)))) H2 fun v H3=>acc.length<sizeLine/\Pv (i+1) (acc ++ [v]) H3 else Pv (i+1) acc H2)
  (hd:∀acc H,Pv n acc H->∀p,H p=none->Q (.ref p) (upd H p (.lst acc))) :
  ∃W:Nat->Nat->List V->Hp->Prop,(∃m,W 0 m [] H)/\∀i m acc H,W i m acc H ->
   ((Itr lo n).stop i H/\∀p,H p=none->Q (.ref p) (upd H p (.lst acc))) \/
   ((Itr lo n).go i H/\∃N:List V->Hp->Prop,(∀acc' H',N acc' H'->∃m',m'<m/\W (i+1) m' acc' H') /\
    ∀x H',(Itr lo n).yld i H x H'->tt (compSt σ js (some x)) H' fun b H2=>if b=true then te (compSt σ js (some x)) H2 fun v H3=>acc.length<sizeLine/\N (acc ++ [v]) H3 else N acc H2):=by
 refine⟨fun i m acc H=>m=n-i/\i<=n/\Pv i acc H,⟨n,by simp,AQ _,h0⟩,?_⟩
 rintro i m acc H ⟨rfl,hi,p⟩
 by_cases hlt:i<n
 ·refine .inr ⟨hlt,Pv (i+1),fun acc' H' p'=>⟨n-(i+1),by rfl',rfl,hlt,p'⟩,fun x H' y => ?_⟩
  obtain⟨e,y⟩:=y
  subst e y
  exact hs i acc _ hlt p
 ·have e:i=n:=by rfl'
  subst e
  exact .inl ⟨Ak _,hd acc H p⟩
def xX9{K:KFr}{a:Addr}{xs:List V}{tt:TT}{te:TE}{js:List Nat}{σ:St}{H:Hp}{Q:VK}(Pv:Nat->List V->Hp->Prop)(h0:Pv 0 [] H)(hl:∀i acc H,i<=xs.length->Pv i acc H->SqT K H a xs)
  (hs:∀i x acc H,xs[i]?=some x->Pv i acc H->tt (compSt σ js (some x)) H fun b H2=>if b=true then te (compSt σ js (some x)) H2 fun v H3=>acc.length<sizeLine/\Pv (i+1) (acc ++ [v]) H3 else Pv (i+1) acc H2)
  (hd:∀acc H,Pv xs.length acc H->∀p,H p=none->Q (.ref p) (upd H p (.lst acc))) :
  ∃W:Nat->Nat->List V->Hp->Prop,(∃m,W 0 m [] H)/\∀i m acc H,W i m acc H ->
   ((Itt K a).stop i H/\∀p,H p=none->Q (.ref p) (upd H p (.lst acc))) \/
   ((Itt K a).go i H/\∃N:List V->Hp->Prop,(∀acc' H',N acc' H'->∃m',m'<m/\W (i+1) m' acc' H') /\
    ∀x H',(Itt K a).yld i H x H'->tt (compSt σ js (some x)) H' fun b H2=>if b=true then te (compSt σ js (some x)) H2 fun v H3=>acc.length<sizeLine/\N (acc ++ [v]) H3 else N acc H2):=by
 refine⟨fun i m acc H=>m=xs.length-i/\i<=xs.length/\Pv i acc H,⟨xs.length,by simp,AQ _,h0⟩,?_⟩
 rintro i m acc H ⟨rfl,hi,p⟩
 have q:=hl i acc H hi p
 by_cases hlt:i<xs.length
 ·refine .inr ⟨⟨xs,xs[i],q,by simp[hlt]⟩,Pv (i+1),fun acc' H' p'=>⟨xs.length-(i+1),by rfl',rfl,hlt,p'⟩,fun x H' y => ?_⟩
  obtain⟨e,y⟩:=y
  subst e
  exact hs i x acc _ (y xs q) p
 ·have e:i=xs.length:=by rfl'
  subst e
  exact .inl ⟨⟨xs,q,Ak _⟩,hd acc H p⟩
def Same.new{H:Hp}{p:Addr}{o:HO}(h:H p=none):Same H (upd H p o):=fun b u e=>by rw[zY (yZ e h)];exact e
section
variable {X:Cx}
def yG8(hc:X.calm=true):CallR X (.builtin "sum") (fun xs H Q=>∃(p:Addr) (ns:List Int),xs=[.ref p]/\SqL X.K H p (ns.map V.int)/\Q (.int ns.sum) H):=by
 intro DI s σ H xs us Q I r h
 obtain⟨p,ns,rfl,hq,q⟩:=h
 obtain⟨u,rfl,ru⟩:=vals1 r
 cases ru
 obtain⟨its,rv,pl,hz⟩:=I.list hq
 have hi:IntsAre its ns:=kF rv
 obtain⟨xs,e⟩:=hi.allInts.items
 refine sum_intListG (I.ok.hd hc) (by rw[<-e];exact pl.isList) fun h' tk t' hk=>⟨.int ns.sum,H,I.kept hk,⟨t',?_⟩,q⟩
 congr 1
 rw[preSum_eq,BM (by simp),<-nums_intItems,<-e]
 show (numsOf its).sum=ns.sum
 rw[hi.numsOf]
def bB{xs:List V}{its:List Value}(r:Vals xs its):∀(ks:List Nat),Vals (ks.filterMap (xs[·]?)) (ks.filterMap (its.toArray[·]?))
 | []=>.nil
 | k::ks=>by
  have hl:=r.length
  rw[Bm,Bm]
  cases e:xs[k]? with
  | none =>
   have:its.toArray[k]?=none:=by
    rw[Cg] at e
    rw[Array.getElem?_eq_none_iff,Am]
    rfl'
   rw[this]
   exact bB r ks
  | some x =>
   obtain⟨u,hu,ru⟩:=r.get e
   have:its.toArray[k]?=some u:=by simpa using hu
   rw[this]
   exact .cons ru (bB r ks)
end
mutual
inductive DatV(K:KFr)(H:Hp):V->PyData->Prop
 | non:DatV K H .non .none
 | bl (b:Bool):DatV K H (.bl b) (.bool b)
 | int (i:Int):DatV K H (.int i) (.int i)
 | str (x:Str):DatV K H (.str x) (.str x)
 | lst {a:Addr}{xs:List V}{ds:List PyData}:SqL K H a xs->DatAll K H xs ds->DatV K H (.ref a) (.list ds)
 | tup {a:Addr}{xs:List V}{ds:List PyData}:SqT K H a xs->DatAll K H xs ds->DatV K H (.ref a) (.tuple ds)
inductive DatAll(K:KFr)(H:Hp):List V->List PyData->Prop
 | nil:DatAll K H [] []
 | cons {v:V}{d:PyData}{vs:List V}{ds:List PyData}:DatV K H v d->DatAll K H vs ds->DatAll K H (v::vs) (d::ds)
end
section
variable {X:Cx}{DI:List (Addr×Obj)}{σ:St}{H:Hp}{s:Shared}
mutual
def Inv.reads(I:Inv X DI σ H s):∀{v:V}{d:PyData}{u:Value},DatV X.K H v d->RelV v u->∃as,Reads s.heap u d as
 | _,_,_,.non,r=>by cases r;exact⟨_,.none⟩
 | _,_,_,.bl b,r=>by cases r;exact⟨_,.bool b⟩
 | _,_,_,.int i,r=>by obtain⟨t,rfl⟩:=r;exact⟨_,.int i t⟩
 | _,_,_,.str x,r=>by obtain⟨t,rfl⟩:=r;exact⟨_,.str x t⟩
 | _,_,_,.lst hq ha,r=>by
  cases r
  obtain⟨its,rv,⟨o,n,ho,hc,_,hd⟩,_⟩:=I.list hq
  obtain⟨as,z⟩:=Inv.readsAll I ha rv
  exact⟨_,.list ho hc hd (by simpa using z)⟩
 | _,_,_,.tup hq ha,r=>by
  cases r
  obtain⟨its,rv,⟨o,ho,hc,n,hd⟩,_⟩:=I.tuple hq
  obtain⟨as,z⟩:=Inv.readsAll I ha rv
  exact⟨_,.tuple ho hc hd (by simpa using z)⟩
def Inv.readsAll(I:Inv X DI σ H s):∀{vs:List V}{ds:List PyData}{us:List Value},DatAll X.K H vs ds->Vals vs us->∃as,ReadsAll s.heap us ds as
 | _,_,_,.nil,r=>by cases r;exact⟨_,.nil⟩
 | _,_,_,.cons h t,r=>by
  cases r with
  | cons r1 r2 =>
   obtain⟨as,z⟩:=Inv.reads I h r1
   obtain⟨bs,z'⟩:=Inv.readsAll I t r2
   exact⟨_,.cons z z'⟩
end
end
section
variable {X:Cx}
def rEqD(K:KFr)(neg:Bool):R2:=fun x y H Q=>∃dx dy,DatV K H x dx/\DatV K H y dy/\SeqAt.shaped dx=true/\SeqAt.shaped dy=true/\Q (.bl (if neg then !PyData.eqv dx dy else PyData.eqv dx dy)) H
def uT(hu:X.A.units+64<cLine):OpR X (compareOp .Eq) (rEqD X.K false):=by
 intro DI s σ H x y v u Q I rx ry h
 obtain⟨dx,dy,h1,h2,s1,s2,q⟩:=h
 obtain⟨as,z1⟩:=I.reads h1 rx
 obtain⟨bs,z2⟩:=I.reads h2 ry
 exact eq_dataH z1 z2 s1 s2 hu ⟨.bl _,H,I,rfl,q⟩
def xJ(hu:X.A.units+64<cLine):OpR X (compareOp .NotEq) (rEqD X.K true):=by
 intro DI s σ H x y v u Q I rx ry h
 obtain⟨dx,dy,h1,h2,s1,s2,q⟩:=h
 obtain⟨as,z1⟩:=I.reads h1 rx
 obtain⟨bs,z2⟩:=I.reads h2 ry
 exact ne_dataH z1 z2 s1 s2 hu ⟨.bl _,H,I,rfl,q⟩
end
def zY3{K:KFr}{H:Hp}:∀ns:List Int,DatAll K H (ns.map V.int) (ns.map PyData.int)
 | []=>.nil
 | n::ns=>.cons (.int n) (zY3 ns)
def yR4{K:KFr}{H:Hp}{a:Addr}{ns:List Int}(h:SqL K H a (ns.map V.int)):DatV K H (.ref a) (.list (ns.map PyData.int)):=.lst h (zY3 ns)
def zY5(ns ms:List Int):PyData.eqvAll (ns.map PyData.int) (ms.map PyData.int)=decide (ns=ms):=PySem.W.ked_eqvAll ns ms
def jX(ns:List Int):SeqAt.shaped (.list (ns.map PyData.int))=true:=PySem.W.ke_shaped_ints ns
def cH(ns:List Int):SeqAt.shaped (.tuple (ns.map PyData.int))=true:=by
 simp[SeqAt.shaped,PyData.canLay0,PyData.depth,PySem.W.ke_canLayAll0,PySem.W.ke_depthAll]
def yS8(ns ms:List Int):PyData.eqv (.list (ns.map PyData.int)) (.list (ms.map PyData.int))=decide (ns=ms):=by rw[PyData.eqv];exact zY5 ns ms
def xL9(ns ms:List Int):PyData.eqv (.tuple (ns.map PyData.int)) (.tuple (ms.map PyData.int))=decide (ns=ms):=by rw[PyData.eqv];exact zY5 ns ms
def zK6(x:Value)(kw:List (Str×Value)):Builtin.«sorted» ⟨[x],kw⟩=collect x >>= fun xs=>newList xs >>= fun l=>holding [l] (call (.builtin "list.sort") [l] kw) >>= fun _=>ret l:=rfl
section
variable {X:Cx}
def zA3:CallR X (.builtin "sorted") (fun xs H Q=>∃(p:Addr) (ns:List Int),xs=[.ref p]/\(SqL X.K H p (ns.map V.int)\/SqT X.K H p (ns.map V.int))/\ns.length<64 /\
  ∀(l:Addr) (ms:List Int),H l=none->ms.Perm ns->ms.Pairwise (· <= ·)->Q (.ref l) (upd H l (.lst (ms.map V.int)))):=by
 intro DI s σ H xs us Q I r h
 obtain⟨p,ns,rfl,hq,h64,q⟩:=h
 obtain⟨u,rfl,ru⟩:=vals1 r
 cases ru
 obtain⟨T,o,its,n,hT,ho,hc,hd,rv,hz⟩:∃T o its n,(T="list"\/T="tuple")/\s.heap.get? p=some o/\o.cls=.type T/\o.data=.seq its n/\Vals (ns.map V.int) its.toList/\(ns.map V.int).length<=sizeLine:=by
  rcases hq with hq | hq
  ·obtain⟨its,rv,⟨o,n,ho,hc,_,hd⟩,hz⟩:=I.list hq
   exact⟨"list",o,its.toArray,n,.inl rfl,ho,hc,hd,by simpa using rv,hz⟩
  ·obtain⟨its,rv,⟨o,ho,hc,n,hd⟩,hz⟩:=I.tuple hq
   exact⟨"tuple",o,its.toArray,n,.inr rfl,ho,hc,hd,by simpa using rv,hz⟩
 have hl:=rv.length
 have hI:IntsAre its.toList ns:=kF rv
 rw[Aa] at hl hz
 have fits:its.size<=sizeLine:=by have z:=its.length_toList;rfl'
 refine Calls.call_function_entry kind_sorted plain_sorted entry_sorted (args_sorted1 (.ref p)) ?_
 rw[zK6]
 refine Ah (wpAny_collect_seq p hT ho hc hd (fun h' kp=>Ah (wpAny_newList ?_)) fits)
 have hoL:(h'.push (seqObj "list" its.toList.toArray 0)).get? h'.objs.size=some (seqObj "list" its.toList.toArray 0):=Aw _ rfl
 refine Ah (wpAny_holding (wpAny_call_entry slot_list_sort ⟨_,hoL,rfl⟩ entry_list_sort (list_sort_tree hoL hI (by rfl') fun out ns' a1 a2 a3=>⟨_,rfl,?_⟩) (args_list_sort _)))
 refine Ax ⟨_,rfl,?_⟩
 have I1:Inv X DI σ H { s with heap:=h' }:=I.kept (t':=s.toks) kp
 have hfresh:H h'.objs.size=none:=I1.hok.fresh (Ak _)
 have ov:Vals (ns'.map V.int) out.toList:=bO a1
 have hlen:ns'.length=ns.length:=a2.length_eq
 refine⟨.ref h'.objs.size,_,I1.laid (t':=s.toks) (o:=.lst (ns'.map V.int)) (fun b ob e => ?_) (Ak _) ?_,rfl,q _ ns' hfresh a2 a3⟩
 ·have hb:=Ap e
  rw[sortedHeap_old (AL hb) (by rw[size_push'];exact Cv hb)]
  exact Af _ e
 ·obtain⟨e,he⟩:∃e,(sortedHeap (h'.push (seqObj "list" its.toList.toArray 0)) h'.objs.size its.toList out).get? h'.objs.size=some (seqObj "list" out e):=by
   exact sortedHeap_at hoL
  exact⟨by rw[Aa];rfl',out.toList,e,ov,by simpa using he⟩
def xZ6{bs:List Bool}{its:List Value}(r:Vals (bs.map V.bl) its){i:Nat}{v:Value}(h:its.toArray[i]?=some v):v=.bool (bs.getD i false):=by
 have h2:its[i]?=some v:=by simpa using h
 have hi:i<its.length:=(Ac.mp h2).1
 have hl:=r.length
 rw[Aa] at hl
 have e:(bs.map V.bl)[i]?=some (V.bl (bs.getD i false)):=by
  rw[Ai,Ab (by rfl'),AD,Ab (by rfl')]
  rfl
 obtain⟨u,hu,ru⟩:=r.get e
 rw[h2] at hu
 cases hu
 exact ru
def yM3(bs:List Bool):(List.range bs.length).map (fun i=>bs.getD i false)=bs:=by
 refine CI (by simp) fun i h1 h2 => ?_
 simp[List.getD,h2]
def yC6(bs:List Bool):(List.range bs.length).all (fun i=>bs.getD i false)=bs.all id:=by
 have z:=Bw (fun l=>List.all l id) (yM3 bs)
 simpa [List.all_map,Function.comp_def] using z
def yG2(hc:X.calm=true):CallR X (.builtin "all") (fun xs H Q=>∃(p:Addr) (bs:List Bool),xs=[.ref p]/\SqL X.K H p (bs.map V.bl)/\Q (.bl (bs.all id)) H):=by
 intro DI s σ H xs us Q I r h
 obtain⟨p,bs,rfl,hq,q⟩:=h
 obtain⟨u,rfl,ru⟩:=vals1 r
 cases ru
 obtain⟨its,rv,pl,hz⟩:=I.list hq
 have hl:=rv.length
 rw[Aa] at hl
 refine call_all_walk (yH4 (A:=X.A.in1) (I.ok.hd hc) pl.isList fun J hp St W st _ _ keep=>⟨_,_,_,_,_,_,fun i=>bs.getD i false,rfl,W,st,?_,fun h' tk hk => ?_⟩)
 ·intro i v s' Q' E' hP hQ
  rw[xZ6 rv hP]
  exact wpAny_truthy_bool hQ
 ·rw[Am,<-hl,yC6]
  exact⟨.bl _,H,I.kept fun b o e=>hk b o (by simpa using (keep b o e).1) (keep b o e).2,rfl,q⟩
end
end L2
namespace L2.L3
open PySem PySem.Spec PyProof.Rows
abbrev D:=PyData
inductive Res(α:Type) where
 | ok (a:α)
 | ex (c:Str)
 | no
namespace Res
def bind{α β:Type}:Res α->(α->Res β)->Res β
 | .ok a,f=>f a
 | .ex c,_=>.ex c
 | .no,_=>.no
def post{α:Type}:Res α->(α->Prop)->(Str->Prop)->Prop
 | .ok a,Q,_=>Q a
 | .ex c,_,E=>E c
 | .no,_,_=>False
def zX{α β:Type}{r:Res α}{f:α->Res β}{Q:β->Prop}{E:Str->Prop}(h:(r.bind f).post Q E):r.post (fun a=>(f a).post Q E) E:=by
 cases r <;> exact h
def zQ{α:Type}{r:Res α}{Q Q':α->Prop}{E E':Str->Prop}(h:r.post Q E)(hQ:∀a,r=.ok a->Q a->Q' a)(hE:∀c,E c->E' c):r.post Q' E':=by
 cases r with
 | ok a=>exact hQ a rfl h
 | ex c=>exact hE c h
 | no=>exact h
def lft{α:Type}:Option α->Res α
 | some a=>.ok a
 | none=>.no
def zD{α:Type}{o:Option α}{Q:α->Prop}{E:Str->Prop}(h:(lft o).post Q E):∃a,o=some a/\Q a:=by
 cases o with
 | none=>exact h.elim
 | some a=>exact⟨a,rfl,h⟩
@[simp] theorem bind_ok {α β:Type}(a:α) (f:α->Res β):(Res.ok a).bind f=f a:=rfl
@[simp] theorem bind_no {α β:Type}(f:α->Res β):(Res.no:Res α).bind f=.no:=rfl
@[simp] theorem bind_ex {α β:Type}(c:Str) (f:α->Res β):(Res.ex c:Res α).bind f=.ex c:=rfl
@[simp] theorem lft_some {α:Type}(a:α):lft (some a)=.ok a:=rfl
@[simp] theorem lft_none {α:Type}:lft (none:Option α)=.no:=rfl
end Res
class CN where
 ad:Str->Addr
instance (priority:=low) cn0:CN:=⟨fun _=>0⟩
variable [CN]
def excP(a:Addr)(c:Str):Heap->Prop:=fun h=>∃o,h.get? a=some o/\o.cls=.ref (CN.ad c)
mutual
inductive Rep(H:Hp)(O:Addr->Prop):V->D->Prop
 | non:Rep H O .non .none
 | bl (b:Bool):Rep H O (.bl b) (.bool b)
 | int (i:Int):Rep H O (.int i) (.int i)
 | str (x:Str):Rep H O (.str x) (.str x)
 | lst {a:Addr}{xs:List V}{ds:List D}:Rd H a (.lst xs)->¬O a->Reps H O xs ds->Rep H O (.ref a) (.list ds)
 | tup {a:Addr}{xs:List V}{ds:List D}:Rd H a (.tup xs)->¬O a->Reps H O xs ds->Rep H O (.ref a) (.tuple ds)
 | exc {a:Addr}{c:Str}:H a=some (.ext (excP a c))->¬O a->Rep H O (.ref a) (.dict [(.list [],.str c)])
inductive Reps(H:Hp)(O:Addr->Prop):List V->List D->Prop
 | nil:Reps H O [] []
 | cons {v:V}{d:D}{vs:List V}{ds:List D}:Rep H O v d->Reps H O vs ds->Reps H O (v::vs) (d::ds)
end
def yQ3{H:Hp}{a:Addr}{u:HO}(h:Rd H a u):H a≠none:=by
 rcases h with h | ⟨o,h⟩ <;> (rw[h];exact fun z=>nomatch z)
def yM{H H':Hp}{a:Addr}{u:HO}(h:Rd H a u)(k:∀o,H a=some o->H' a=some o):Rd H' a u:=by
 rcases h with h | ⟨o,h⟩
 ·exact .inl (k _ h)
 ·exact .inr ⟨o,k _ h⟩
section
variable {H H':Hp}{O O':Addr->Prop}
mutual
def Rep.keep(k:∀b o,H b=some o->¬O b->H' b=some o)(s:∀b,H b≠none->O' b->O b):∀{v:V}{d:D},Rep H O v d->Rep H' O' v d
 | _,_,.non=>.non
 | _,_,.bl b=>.bl b
 | _,_,.int i=>.int i
 | _,_,.str x=>.str x
 | _,_,.lst r n t=>.lst (yM r fun o e=>k _ o e n) (fun z=>n (s _ (yQ3 r) z)) (Reps.keep k s t)
 | _,_,.tup r n t=>.tup (yM r fun o e=>k _ o e n) (fun z=>n (s _ (yQ3 r) z)) (Reps.keep k s t)
 | _,_,.exc r n=>.exc (k _ _ r n) (fun z=>n (s _ (by rw[r];exact fun z=>nomatch z) z))
def Reps.keep(k:∀b o,H b=some o->¬O b->H' b=some o)(s:∀b,H b≠none->O' b->O b):∀{vs:List V}{ds:List D},Reps H O vs ds->Reps H' O' vs ds
 | _,_,.nil=>.nil
 | _,_,.cons h t=>.cons (Rep.keep k s h) (Reps.keep k s t)
end
mutual
def Rep.dat{K:KFr}:∀{v:V}{d:D},Rep H O v d->PyData.canLay0 d=true->DatV K H v d
 | _,_,.non,_=>.non
 | _,_,.bl b,_=>.bl b
 | _,_,.int i,_=>.int i
 | _,_,.str x,_=>.str x
 | _,_,.lst r n t,c=>.lst (.inl r) (Reps.dat t c)
 | _,_,.tup r n t,c=>.tup (.inl r) (Reps.dat t c)
 | _,_,.exc r n,c=>by cases c
def Reps.dat{K:KFr}:∀{vs:List V}{ds:List D},Reps H O vs ds->PyData.canLayAll0 ds=true->DatAll K H vs ds
 | _,_,.nil,_=>.nil
 | _,_,.cons h t,c=>.cons (Rep.dat h (CC.mp c).1) (Reps.dat t (CC.mp c).2)
end
def Rep.same{v:V}{d:D}(h:Rep H O v d)(s:Same H H'):Rep H' O v d:=h.keep (fun b o e _=>s b o e) fun _ _ z=>z
def Reps.same{v:List V}{d:List D}(h:Reps H O v d)(s:Same H H'):Reps H' O v d:=h.keep (fun b o e _=>s b o e) fun _ _ z=>z
def Rep.less{v:V}{d:D}(h:Rep H O v d)(s:∀b,O' b->O b):Rep H O' v d:=h.keep (fun b o e _=>e) fun b _ z=>s b z
def Reps.less{v:List V}{d:List D}(h:Reps H O v d)(s:∀b,O' b->O b):Reps H O' v d:=h.keep (fun b o e _=>e) fun b _ z=>s b z
def Reps.length:∀{vs:List V}{ds:List D},Reps H O vs ds->vs.length=ds.length
 | _,_,.nil=>rfl
 | _,_,.cons _ t=>Bw (·+1) (Reps.length t)
def Reps.get:∀{vs:List V}{ds:List D}{i:Nat}{d:D},Reps H O vs ds->ds[i]?=some d->∃v,vs[i]?=some v/\Rep H O v d
 | _,_,_,_,.nil,e=>by simp at e
 | _,_,0,_,.cons r _,e=>by simp at e;subst e;exact⟨_,rfl,r⟩
 | _,_,i+1,d,.cons _ t,e=>by
  obtain⟨u,h1,h2⟩:=Reps.get (i:=i) (d:=d) t (by simpa using e)
  exact⟨u,by simpa using h1,h2⟩
def Reps.append:∀{vs ws:List V}{ds es:List D},Reps H O vs ds->Reps H O ws es->Reps H O (vs++ws) (ds++es)
 | _,_,_,_,.nil,s=>s
 | _,_,_,_,.cons r t,s=>.cons r (Reps.append t s)
def Reps.one{v:V}{d:D}(h:Rep H O v d):Reps H O [v] [d]:=.cons h .nil
def Reps.set{x:V}{u:D}(r:Rep H O x u):∀{vs:List V}{ds:List D}(i:Nat),Reps H O vs ds->Reps H O (vs.set i x) (ds.set i u)
 | _,_,_,.nil=>.nil
 | _,_,0,.cons _ t=>.cons r t
 | _,_,i+1,.cons q t=>.cons q (Reps.set r i t)
def Reps.take:∀{vs:List V}{ds:List D}(n:Nat),Reps H O vs ds->Reps H O (vs.take n) (ds.take n)
 | _,_,0,_=>.nil
 | _,_,_+1,.nil=>.nil
 | _,_,n+1,.cons r t=>.cons r (Reps.take n t)
def Reps.drop:∀{vs:List V}{ds:List D}(n:Nat),Reps H O vs ds->Reps H O (vs.drop n) (ds.drop n)
 | _,_,0,r=>r
 | _,_,_+1,.nil=>.nil
 | _,_,n+1,.cons _ t=>Reps.drop n t
def Reps.rep{vs:List V}{ds:List D}(h:Reps H O vs ds):∀k:Nat,Reps H O (List.replicate k vs).flatten (List.replicate k ds).flatten
 | 0=>.nil
 | k+1=>by
  rw[Bq,Bq,BH,BH]
  exact h.append (Reps.rep h k)
def jA:∀(ns:List Int),Reps H O (ns.map V.int) (ns.map PyData.int)
 | []=>.nil
 | n::ns=>.cons (.int n) (jA ns)
def Reps.ints:∀{ns:List Int}{vs:List V},Reps H O vs (ns.map PyData.int)->vs=ns.map V.int
 | [],_,h=>by cases h;rfl
 | n::ns,_,h=>by
  cases h with
  | cons r t=>cases r;rw[Reps.ints t];rfl
def Reps.bools:∀{ns:List Bool}{vs:List V},Reps H O vs (ns.map PyData.bool)->vs=ns.map V.bl
 | [],_,h=>by cases h;rfl
 | n::ns,_,h=>by
  cases h with
  | cons r t=>cases r;rw[Reps.bools t];rfl
end
abbrev Ev:=List (Option D)
structure Wd where
 o:Addr->Prop
 la:Nat->Addr
instance:CoeFun Wd (fun _=>Addr->Prop):=⟨Wd.o⟩
abbrev Uni(Oc:Wd)(Ob:Addr->Prop):Addr->Prop:=fun b=>Oc b\/Ob b
def OwnAt(H:Hp)(Oc:Wd)(Ob:Addr->Prop)(v:V)(d:D):Prop:=∃a ys ds,v=.ref a/\d=.list ds/\H a=some (.lst ys)/\Ob a/\Reps H (Uni Oc Ob) ys ds
def LentAt(i:Nat)(H:Hp)(Oc:Wd)(Ob:Addr->Prop)(v:V)(d:D):Prop:=∃ys ds,v=.ref (Oc.la i)/\d=.list ds/\H (Oc.la i)=some (.lst ys)/\Oc (Oc.la i)/\Reps H (Uni Oc Ob) ys ds
structure Rel(Oc:Wd)(Ob:Addr->Prop)(om ln:List Nat)(σ:St)(H:Hp)(ρ:Ev):Prop where
 len:σ.length=ρ.length
 val:∀i d,ρ[i]?=some (some d)->i∉om->i∉ln->∃v,σ[i]?=some (some v)/\Rep H (Uni Oc Ob) v d
 own:∀i d,ρ[i]?=some (some d)->i∈om->∃v,σ[i]?=some (some v)/\OwnAt H Oc Ob v d
 lnt:∀i d,ρ[i]?=some (some d)->i∉om->i∈ln->∃v,σ[i]?=some (some v)/\LentAt i H Oc Ob v d
 inj:∀i j di dj a,ρ[i]?=some (some di)->ρ[j]?=some (some dj)->i∈om->j∈om->σ[i]?=some (some (.ref a))->σ[j]?=some (some (.ref a))->i=j
 oh:∀a,Oc a\/Ob a->H a≠none
 ap:∀a,Ob a->¬Oc a
section
variable {Oc:Wd}{Ob:Addr->Prop}{om ln:List Nat}{σ:St}{H H':Hp}{ρ:Ev}
def Same.ne{b:Addr}(s:Same H H')(h:H b≠none):H' b≠none:=by
 cases e:H b with
 | none=>exact absurd e h
 | some o=>rw[s b o e];exact fun z=>nomatch z
def Rel.same(R:Rel Oc Ob om ln σ H ρ)(s:Same H H'):Rel Oc Ob om ln σ H' ρ where
 len:=R.len
 val:=fun i d e h1 h2=>let ⟨v,a,b⟩:=R.val i d e h1 h2; ⟨v,a,b.same s⟩
 own:=fun i d e h1=>let ⟨v,q,a,ys,ds,e1,e2,e3,e4,e5⟩:=R.own i d e h1; ⟨v,q,a,ys,ds,e1,e2,s _ _ e3,e4,e5.same s⟩
 lnt:=fun i d e h1 h2=>let ⟨v,q,ys,ds,e1,e2,e3,e4,e5⟩:=R.lnt i d e h1 h2; ⟨v,q,ys,ds,e1,e2,s _ _ e3,e4,e5.same s⟩
 inj:=R.inj
 oh:=fun a h=>Same.ne s (R.oh a h)
 ap:=R.ap
end
inductive Md where
 | cl
 | rd
 | any
 | new
def VA(Oc:Wd)(Ob:Addr->Prop)(H:Hp)(v:V)(d:D):Prop :=
 Rep H (Uni Oc Ob) v d\/∃a ys ds,v=.ref a/\d=.list ds/\H a=some (.lst ys)/\Reps H (Uni Oc Ob) ys ds
def VR:Md->Wd->(Addr->Prop)->Hp->Hp->V->D->Prop
 | .cl,Oc,Ob,_,H',v,d=>Rep H' (Uni Oc Ob) v d
 | .rd,Oc,Ob,_,H',v,d=>Rep H' (Uni Oc Ob) v d\/∃a ys ds,v=.ref a/\d=.list ds/\H' a=some (.lst ys)/\¬Ob a/\Reps H' (Uni Oc Ob) ys ds
 | .any,Oc,Ob,_,H',v,d=>VA Oc Ob H' v d
 | .new,Oc,Ob,H,H',v,d=>∃a ys ds,v=.ref a/\d=.list ds/\H a=none/\H' a=some (.lst ys)/\Reps H' (fun b=>Uni Oc Ob b\/b=a) ys ds
section
variable {Oc:Wd}{Ob:Addr->Prop}{H H1 H2:Hp}{v:V}{d:D}{md:Md}
def VR.same(h:VR md Oc Ob H H1 v d)(s:Same H1 H2):VR md Oc Ob H H2 v d:=by
 cases md with
 | cl=>exact Rep.same h s
 | rd =>
  rcases h with h | ⟨a,ys,ds,e1,e2,e3,e4,e5⟩
  ·exact .inl (Rep.same h s)
  ·exact .inr ⟨a,ys,ds,e1,e2,s _ _ e3,e4,e5.same s⟩
 | any =>
  rcases h with h | ⟨a,ys,ds,e1,e2,e3,e5⟩
  ·exact .inl (Rep.same h s)
  ·exact .inr ⟨a,ys,ds,e1,e2,s _ _ e3,e5.same s⟩
 | new =>
  obtain⟨a,ys,ds,e1,e2,e3,e4,e5⟩:=h
  exact⟨a,ys,ds,e1,e2,e3,s _ _ e4,e5.same s⟩
def VR.from(h:VR md Oc Ob H1 H2 v d)(s:Same H H1):VR md Oc Ob H H2 v d:=by
 cases md with
 | new =>
  obtain⟨a,ys,ds,e1,e2,e3,e4,e5⟩:=h
  exact⟨a,ys,ds,e1,e2,s.free e3,e4,e5⟩
 | _=>exact h
def VR.clean(h:VR .new Oc Ob H H1 v d)(oh:∀a,Oc a\/Ob a->H a≠none):VR .cl Oc Ob H H1 v d:=by
 obtain⟨a,ys,ds,rfl,rfl,e3,e4,e5⟩:=h
 exact .lst (.inl e4) (fun z=>oh a z e3) (e5.less fun b z=>.inl z)
def VR.va(h:VR md Oc Ob H H1 v d)(oh:∀a,Oc a\/Ob a->H a≠none):VA Oc Ob H1 v d:=by
 cases md with
 | cl=>exact .inl h
 | rd =>
  rcases h with h | ⟨a,ys,ds,e1,e2,e3,e4,e5⟩
  ·exact .inl h
  ·exact .inr ⟨a,ys,ds,e1,e2,e3,e5⟩
 | any=>exact h
 | new=>exact .inl (VR.clean h oh)
def VA.dat{K:KFr}(h:VA Oc Ob H v d)(c:PyData.canLay0 d=true):DatV K H v d:=by
 rcases h with h | ⟨a,ys,ds,rfl,rfl,e3,e5⟩
 ·exact h.dat c
 ·exact .lst (SqL.of e3) (e5.dat c)
def VA.datS{K:KFr}(h:VA Oc Ob H v d)(c:SeqAt.shaped d=true):DatV K H v d:=h.dat (SeqAt.canLay_of_shaped c)
def VA.list{ds:List D}(h:VA Oc Ob H v (.list ds)):∃a ys,v=.ref a/\Rd H a (.lst ys)/\Reps H (Uni Oc Ob) ys ds:=by
 rcases h with h | ⟨a,ys,ds,rfl,e,e3,e5⟩
 ·cases h with
  | lst r n t=>exact⟨_,_,rfl,r,t⟩
 ·cases e
  exact⟨a,ys,rfl,.inl e3,e5⟩
def VA.tuple{ds:List D}(h:VA Oc Ob H v (.tuple ds)):∃a ys,v=.ref a/\Rd H a (.tup ys)/\Reps H (Uni Oc Ob) ys ds:=by
 rcases h with h | ⟨a,ys,ds,rfl,e,e3,e5⟩
 ·cases h with
  | tup r n t=>exact⟨_,_,rfl,r,t⟩
 ·cases e
def VA.int{i:Int}(h:VA Oc Ob H v (.int i)):v=.int i:=by
 rcases h with h | ⟨a,ys,ds,rfl,e,e3,e5⟩
 ·cases h;rfl
 ·cases e
def VA.bool{i:Bool}(h:VA Oc Ob H v (.bool i)):v=.bl i:=by
 rcases h with h | ⟨a,ys,ds,rfl,e,e3,e5⟩
 ·cases h;rfl
 ·cases e
def VA.none(h:VA Oc Ob H v .none):v=.non:=by
 rcases h with h | ⟨a,ys,ds,rfl,e,e3,e5⟩
 ·cases h;rfl
 ·cases e
def VA.str{x:Str}(h:VA Oc Ob H v (.str x)):v=.str x:=by
 rcases h with h | ⟨a,ys,ds,rfl,e,e3,e5⟩
 ·cases h;rfl
 ·cases e
def VA.rep(h:VA Oc Ob H v d):Rep H (fun _=>False) v d:=by
 rcases h with h | ⟨a,ys,ds,rfl,rfl,e3,e5⟩
 ·exact h.less fun _ z=>z.elim
 ·exact .lst (.inl e3) (fun z=>z) (e5.less fun _ z=>z.elim)
end
structure Ct where
 X:Cx
 XE:Str->Hp->Prop
 om:List Nat
 ln:List Nat
def RE(C:Ct)(md:Md)(e:Expr)(m:Ev->Res D):Prop :=
 ∃t,PE C.X e t/\∀(Oc:Wd) (Ob:Addr->Prop) (σ:St) (H:Hp) (ρ:Ev) (Q:VK),Rel Oc Ob C.om C.ln σ H ρ ->
  (m ρ).post (fun d=>∀v H',Same H H'->VR md Oc Ob H H' v d->Q v H') (fun c=>∀H',Same H H'->C.XE c H')->t σ H Q
def RT(C:Ct)(e:Expr)(m:Ev->Res Bool):Prop :=
 ∃t,PT C.X e t/\∀(Oc:Wd) (Ob:Addr->Prop) (σ:St) (H:Hp) (ρ:Ev) (Q:Bool->Hp->Prop),Rel Oc Ob C.om C.ln σ H ρ ->
  (m ρ).post (fun b=>∀H',Same H H'->Q b H') (fun c=>∀H',Same H H'->C.XE c H')->t σ H Q
def RW(C:Ct)(e:Expr)(m:Ev->Res Bool):Prop :=
 ∃t,PW C.X e t/\∀(Oc:Wd) (Ob:Addr->Prop) (σ:St) (H:Hp) (ρ:Ev) (Q:Bool->Hp->Prop),Rel Oc Ob C.om C.ln σ H ρ ->
  (m ρ).post (fun b=>∀H',Same H H'->Q b H') (fun c=>∀H',Same H H'->C.XE c H')->t σ H Q
inductive Out where
 | nx (ρ:Ev)
 | rt (d:D)
def Frm(Ob:Addr->Prop)(H H':Hp):Prop:=∀b o,H b=some o->¬Ob b->H' b=some o
def Same.frm{Ob:Addr->Prop}{H H':Hp}(s:Same H H'):Frm Ob H H':=fun b o e _=>s b o e
def RetOk:Bool->Wd->(Addr->Prop)->Hp->Hp->V->D->Prop
 | true,Oc,Ob,H,H',v,d=>∃a ys ds,v=.ref a/\d=.list ds/\(H a=none\/Ob a)/\¬Oc a/\H' a=some (.lst ys)/\Reps H' (fun b=>Oc b\/b=a) ys ds
 | false,Oc,_,_,H',v,d=>Rep H' Oc.o v d
def SPost(C:Ct)(fr:Bool)(Oc:Wd)(Ob:Addr->Prop)(H:Hp)(E:Ends)(r:Res Out):Prop :=
 r.post (fun o=>match o with
  | .nx ρ'=>∀σ' H' Ob',Rel Oc Ob' C.om C.ln σ' H' ρ'->Frm Ob H H'->(∀b,Ob' b->Ob b\/H b=none)->E.nx σ' H'
  | .rt d=>∀v H',Frm Ob H H'->RetOk fr Oc Ob H H' v d->E.rt v H') (fun c=>∀H',Frm Ob H H'->C.XE c H')
def RS(C:Ct)(fr:Bool)(st:Stmt)(m:Ev->Res Out):Prop :=
 ∃t,PS C.X st t/\∀(Oc:Wd) (Ob:Addr->Prop) (σ:St) (H:Hp) (ρ:Ev) (E:Ends),Rel Oc Ob C.om C.ln σ H ρ->SPost C fr Oc Ob H E (m ρ)->t E σ H
def RSs(C:Ct)(fr:Bool)(st:List Stmt)(m:Ev->Res Out):Prop :=
 ∃t,PSs C.X st t/\∀(Oc:Wd) (Ob:Addr->Prop) (σ:St) (H:Hp) (ρ:Ev) (E:Ends),Rel Oc Ob C.om C.ln σ H ρ->SPost C fr Oc Ob H E (m ρ)->t E σ H
section
variable {C:Ct}{fr:Bool}{Oc:Wd}{Ob Ob1 Ob2:Addr->Prop}{H H1 H2:Hp}{E:Ends}{r:Res Out}
def Frm.trans(f:Frm Ob H H1)(s:∀b,Ob1 b->Ob b\/H b=none)(g:Frm Ob1 H1 H2):Frm Ob H H2:=fun b o e n =>
 g b o (f b o e n) fun z=>(s b z).elim n fun q=>by rw[e] at q;cases q
def Frm.none(f:Frm Ob H H1){b:Addr}(h:H1 b=none):Ob b\/H b=none:=by
 by_cases n:Ob b
 ·exact .inl n
 ·cases e:H b with
  | none=>exact .inr rfl
  | some o=>rw[f b o e n] at h;cases h
def SPost.step(f:Frm Ob H H1)(s:∀b,Ob1 b->Ob b\/H b=none)(h:SPost C fr Oc Ob H E r):SPost C fr Oc Ob1 H1 E r:=by
 refine Res.zQ h (fun o _ q => ?_) fun c q H' g=>q H' (f.trans s g)
 cases o with
 | nx ρ'=>exact fun σ' H' Ob' R g s'=>q σ' H' Ob' R (f.trans s g) fun b z=>(s' b z).elim (s b) fun z=>f.none z
 | rt d =>
  refine fun v H' g k=>q v H' (f.trans s g) ?_
  cases fr with
  | false=>exact k
  | true =>
   obtain⟨a,ys,ds,e1,e2,e3,e4,e5,e6⟩:=k
   refine⟨a,ys,ds,e1,e2,?_,e4,e5,e6⟩
   rcases e3 with e3 | e3
   ·exact (f.none e3).symm
   ·exact (s a e3).symm
def SPost.same(f:Same H H1)(h:SPost C fr Oc Ob H E r):SPost C fr Oc Ob H1 E r:=h.step (Same.frm f) fun b z=>.inl z
end
end L2.L3
namespace L2.L3
open PySem PySem.Spec PyProof.Rows
variable [CN]
section
variable {C:Ct}{a b c e:Expr}{es:List Expr}{pos:Pos}{md mda mdb mdc:Md}{ma mb mc:Ev->Res D}
def RE.cl(h:RE C .new e ma):RE C .cl e ma:=by
 obtain⟨t,p,q⟩:=h
 exact⟨t,p,fun Oc Ob σ H ρ Q R h=>q Oc Ob σ H ρ Q R (Res.zQ h (fun d _ k v H' s r=>k v H' s (VR.clean r R.oh)) fun _ z=>z)⟩
def RE.rd(h:RE C .cl e ma):RE C .rd e ma:=by
 obtain⟨t,p,q⟩:=h
 exact⟨t,p,fun Oc Ob σ H ρ Q R h=>q Oc Ob σ H ρ Q R (Res.zQ h (fun d _ k v H' s r=>k v H' s (.inl r)) fun _ z=>z)⟩
def eC(d:D):Ev->Res D:=fun _=>.ok d
def yU{i j}:RE C .cl (.Constant (.int i) j pos) (eC (.int i)):=⟨_,yW,fun Oc Ob σ H ρ Q R h=>h _ H (Same.refl H) (Rep.int i)⟩
def kM{i j}:RE C .cl (.Constant (.bool i) j pos) (eC (.bool i)):=⟨_,xR4,fun Oc Ob σ H ρ Q R h=>h _ H (Same.refl H) (Rep.bl i)⟩
def gI{j}:RE C .cl (.Constant .none j pos) (eC .none):=⟨_,dU,fun Oc Ob σ H ρ Q R h=>h _ H (Same.refl H) Rep.non⟩
def yH{i j}:RE C .cl (.Constant (.str i) j pos) (eC (.str i)):=⟨_,gL,fun Oc Ob σ H ρ Q R h=>h _ H (Same.refl H) (Rep.str i)⟩
def eV(i:Nat):Ev->Res D:=fun ρ=>match ρ[i]? with
 | some (some d)=>.ok d
 | _=>.no
def hX{i:Nat}{ρ:Ev}{Q:D->Prop}{E:Str->Prop}(h:(eV i ρ).post Q E):∃d,ρ[i]?=some (some d)/\Q d:=by
 unfold eV at h
 split at h
 ·exact⟨_,by assumption,h⟩
 ·exact h.elim
def xB{i:Nat}{l:List Nat}(h:l.contains i=false):i∉l:=by
 intro z
 rw[AE.mpr z] at h
 cases h
def qV{i:Nat}{l:List Nat}(h:l.contains i=true):i∈l:=AE.mp h
def zZ(i:Nat){x:Str}(hN:autoParam (C.X.N[i]?=some x) DH)(ho:autoParam (C.om.contains i=false) DH)(hl:autoParam (C.ln.contains i=false) DH)(hv:autoParam (Vis C.X.env.scope x) DE)(hd:autoParam ((x == ("__debug__":Str))=false) DG)
  (hcd:autoParam ((x == ("__classdict__":Str))=false) DG):RE C .cl (.Name x pos) (eV i):=by
 refine⟨_,jJ hN hv hd hcd,fun Oc Ob σ H ρ Q R h => ?_⟩
 obtain⟨d,e,k⟩:=hX h
 obtain⟨v,q,r⟩:=R.val i d e (xB ho) (xB hl)
 exact⟨v,q,k v H (Same.refl H) r⟩
def vQ(i:Nat){x:Str}(hN:autoParam (C.X.N[i]?=some x) DH)(ho:autoParam (C.om.contains i=true) DH)(hv:autoParam (Vis C.X.env.scope x) DE)(hd:autoParam ((x == ("__debug__":Str))=false) DG)
  (hcd:autoParam ((x == ("__classdict__":Str))=false) DG):RE C .any (.Name x pos) (eV i):=by
 refine⟨_,jJ hN hv hd hcd,fun Oc Ob σ H ρ Q R h => ?_⟩
 obtain⟨d,e,k⟩:=hX h
 obtain⟨v,q,a,ys,ds,e1,e2,e3,e4,e5⟩:=R.own i d e (qV ho)
 exact⟨v,q,k v H (Same.refl H) (.inr ⟨a,ys,ds,e1,e2,e3,e5⟩)⟩
def dA{x:Str}{i:Int}{u:Value}(hm:C.X.mg x=some u)(r:RelV (.int i) u)(hg:autoParam (Gl C.X x) DH)(hd:autoParam ((x == ("__debug__":Str))=false) DG):RE C .cl (.Name x pos) (eC (.int i)) :=
 ⟨_,xP1 hg hm r hd,fun Oc Ob σ H ρ Q R h=>h _ H (Same.refl H) (Rep.int i)⟩
def e2(f:D->D->Option D)(m n:Ev->Res D):Ev->Res D:=fun ρ=>(m ρ).bind fun x=>(n ρ).bind fun y=>Res.lft (f x y)
def Pr2(r:R2)(md:Md)(f:D->D->Option D):Prop :=
 ∀(Oc:Wd) (Ob:Addr->Prop) (H:Hp) (x y:V) (dx dy d:D) (Q:VK),(∀a,Oc a\/Ob a->H a≠none)->VA Oc Ob H x dx->VA Oc Ob H y dy->f dx dy=some d->(∀v H',Same H H'->VR md Oc Ob H H' v d->Q v H')->r x y H Q
def two{ta tb:TE}{f:D->D->Option D}{r:R2}(ha:∀(Oc:Wd) (Ob:Addr->Prop) (σ:St) (H:Hp) (ρ:Ev) (Q:VK),Rel Oc Ob C.om C.ln σ H ρ->(ma ρ).post (fun d=>∀v H',Same H H'->VR mda Oc Ob H H' v d->Q v H') (fun c=>∀H',Same H H'->C.XE c H')->ta σ H Q)
  (hb:∀(Oc:Wd) (Ob:Addr->Prop) (σ:St) (H:Hp) (ρ:Ev) (Q:VK),Rel Oc Ob C.om C.ln σ H ρ->(mb ρ).post (fun d=>∀v H',Same H H'->VR mdb Oc Ob H H' v d->Q v H') (fun c=>∀H',Same H H'->C.XE c H')->tb σ H Q) (hp:Pr2 r md f)
  {Oc:Wd}{Ob:Addr->Prop}{σ:St}{H:Hp}{ρ:Ev}{Q:VK}(R:Rel Oc Ob C.om C.ln σ H ρ) (h:(e2 f ma mb ρ).post (fun d=>∀v H',Same H H'->VR md Oc Ob H H' v d->Q v H') (fun c=>∀H',Same H H'->C.XE c H')) :
  ta σ H fun x H1=>tb σ H1 fun y H2=>r x y H2 Q:=by
 refine ha Oc Ob σ H ρ _ R (Res.zQ (Res.zX h) (fun dx _ q x H1 s1 vx => ?_) fun _ z=>z)
 refine hb Oc Ob σ H1 ρ _ (R.same s1) (Res.zQ (Res.zX q) (fun dy _ q y H2 s2 vy => ?_) fun c z H' s'=>z H' (s1.trans s'))
 obtain⟨d,e,q⟩:=Res.zD q
 have oh2:=((R.same s1).same s2).oh
 refine hp Oc Ob H2 x y dx dy d Q oh2 ((vx.same s2).va R.oh) (vy.va (R.same s1).oh) e fun v H' s3 r => ?_
 exact q v H' ((s1.trans s2).trans s3) (r.from (s1.trans s2))
def uM{op:Operator}{r:R2}{f:D->D->Option D}(ho:OpR C.X (binaryOp op) r)(hp:Pr2 r md f)(ha:RE C mda a ma)(hb:RE C mdb b mb):RE C md (.BinOp a op b pos) (e2 f ma mb):=by
 obtain⟨ta,pa,qa⟩:=ha
 obtain⟨tb,pb,qb⟩:=hb
 exact⟨_,qY ho pa pb,fun Oc Ob σ H ρ Q R h=>two qa qb hp R h⟩
def yC{r:R2}{f:D->D->Option D}(ho:IxR C.X r)(hp:Pr2 r md f)(ha:RE C mda a ma)(hb:RE C mdb b mb)(hs:autoParam (PlainIx b) xH2._auto_1):RE C md (.Subscript a b pos) (e2 f ma mb):=by
 obtain⟨ta,pa,qa⟩:=ha
 obtain⟨tb,pb,qb⟩:=hb
 exact⟨_,yA ho pa pb hs,fun Oc Ob σ H ρ Q R h=>two qa qb hp R h⟩
def PrB(r:R2)(f:D->D->Option Bool):Prop :=
 ∀(Oc:Wd) (Ob:Addr->Prop) (H:Hp) (x y:V) (dx dy:D) (k:Bool) (Q:VK),VA Oc Ob H x dx->VA Oc Ob H y dy->f dx dy=some k->Q (.bl k) H->r x y H Q
def bD(o:Option Bool):Option D:=o.map PyData.bool
def PrB.pr{r:R2}{f:D->D->Option Bool}(h:PrB r f):Pr2 r .cl (fun x y=>bD (f x y)):=by
 intro Oc Ob H x y dx dy d Q oh vx vy e k
 cases ef:f dx dy with
 | none=>simp only[ef] at e;cases e
 | some b =>
  simp only[ef] at e
  cases e
  exact h Oc Ob H x y dx dy b Q vx vy ef (k _ H (Same.refl H) (Rep.bl b))
def zU3{op:CmpOp}{r:R2}{f:D->D->Option Bool}(ho:OpR C.X (compareOp op) r)(hp:PrB r f)(ha:RE C mda a ma)(hb:RE C mdb b mb)(hm:autoParam (behindInMarks op b=false) yP2._auto_1):RE C .cl (.Compare a [op] [b] pos) (e2 (fun x y=>bD (f x y)) ma mb):=by
 obtain⟨ta,pa,qa⟩:=ha
 obtain⟨tb,pb,qb⟩:=hb
 exact⟨_,yS2 ho pa pb hm,fun Oc Ob σ H ρ Q R h=>two qa qb hp.pr R h⟩
def b2(f:D->D->Option Bool)(m n:Ev->Res D):Ev->Res Bool:=fun ρ=>(m ρ).bind fun x=>(n ρ).bind fun y=>Res.lft (f x y)
def xD8{f:D->D->Option Bool}{ρ:Ev}{Q:Bool->Hp->Prop}{H:Hp}{E:Str->Prop}{Oc:Wd}{Ob:Addr->Prop}(h:(b2 f ma mb ρ).post (fun b=>∀H',Same H H'->Q b H') E) :
  (e2 (fun x y=>bD (f x y)) ma mb ρ).post (fun d=>∀v H',Same H H'->VR .cl Oc Ob H H' v d->∃k,v=.bl k/\Q k H') E:=by
 unfold e2
 unfold b2 at h
 cases ea:ma ρ with
 | no=>rw[ea] at h;exact h
 | ex c=>rw[ea] at h;exact h
 | ok x =>
  rw[ea] at h
  simp only[Res.bind_ok] at h ⊢
  cases eb:mb ρ with
  | no=>rw[eb] at h;exact h
  | ex c=>rw[eb] at h;exact h
  | ok y =>
   rw[eb] at h
   simp only[Res.bind_ok] at h ⊢
   obtain⟨k,ek,q⟩:=Res.zD h
   rw[ek]
   intro v H' s r
   have:v=.bl k:=by cases r;rfl
   exact⟨k,this,q H' s⟩
def yT{op:CmpOp}{r:R2}{f:D->D->Option Bool}(ho:OpR C.X (compareOp op) r)(hp:PrB r f)(ha:RE C mda a ma)(hb:RE C mdb b mb)(hm:autoParam (behindInMarks op b=false) yP2._auto_1):RT C (.Compare a [op] [b] pos) (b2 f ma mb):=by
 obtain⟨ta,pa,qa⟩:=ha
 obtain⟨tb,pb,qb⟩:=hb
 exact⟨_,xE ho pa pb hm,fun Oc Ob σ H ρ Q R h=>two qa qb hp.pr R (xD8 h)⟩
def b3(f g:D->D->Option Bool)(m n o:Ev->Res D):Ev->Res Bool:=fun ρ=>(m ρ).bind fun x=>(n ρ).bind fun y=>(Res.lft (f x y)).bind fun k=>if k then (o ρ).bind fun z=>Res.lft (g y z) else .ok false
def chain3{ta tb tc:TE}{f g:D->D->Option Bool}{r r':R2}(ha:∀(Oc:Wd) (Ob:Addr->Prop) (σ:St) (H:Hp) (ρ:Ev) (Q:VK),Rel Oc Ob C.om C.ln σ H ρ->(ma ρ).post (fun d=>∀v H',Same H H'->VR mda Oc Ob H H' v d->Q v H') (fun c=>∀H',Same H H'->C.XE c H')->ta σ H Q)
  (hb:∀(Oc:Wd) (Ob:Addr->Prop) (σ:St) (H:Hp) (ρ:Ev) (Q:VK),Rel Oc Ob C.om C.ln σ H ρ->(mb ρ).post (fun d=>∀v H',Same H H'->VR mdb Oc Ob H H' v d->Q v H') (fun c=>∀H',Same H H'->C.XE c H')->tb σ H Q)
  (hc:∀(Oc:Wd) (Ob:Addr->Prop) (σ:St) (H:Hp) (ρ:Ev) (Q:VK),Rel Oc Ob C.om C.ln σ H ρ->(mc ρ).post (fun d=>∀v H',Same H H'->VR mdc Oc Ob H H' v d->Q v H') (fun c=>∀H',Same H H'->C.XE c H')->tc σ H Q) (hp:PrB r f) (hp':PrB r' g)
  {Oc:Wd}{Ob:Addr->Prop}{σ:St}{H:Hp}{ρ:Ev}{Q:VK}(R:Rel Oc Ob C.om C.ln σ H ρ) (h:(b3 f g ma mb mc ρ).post (fun d=>∀H',Same H H'->Q (.bl d) H') (fun c=>∀H',Same H H'->C.XE c H')) :
  tChain r r' ta tb tc σ H Q:=by
 refine ha Oc Ob σ H ρ _ R (Res.zQ (Res.zX h) (fun dx _ q x H1 s1 vx => ?_) fun _ z=>z)
 refine hb Oc Ob σ H1 ρ _ (R.same s1) (Res.zQ (Res.zX q) (fun dy _ q y H2 s2 vy => ?_) fun c z H' s'=>z H' (s1.trans s'))
 obtain⟨k,e,q⟩:=Res.zD (Res.zX q)
 have R2:=(R.same s1).same s2
 refine hp Oc Ob H2 x y dx dy k _ ((vx.same s2).va R.oh) (vy.va (R.same s1).oh) e ⟨k,rfl,?_⟩
 cases k with
 | false=>exact iteF (q H2 (s1.trans s2))
 | true =>
  refine iteT (hc Oc Ob σ H2 ρ _ R2 (Res.zQ (Res.zX q) (fun dz _ q z H3 s3 vz => ?_) fun c z H' s'=>z H' ((s1.trans s2).trans s')))
  obtain⟨k,e,q⟩:=Res.zD q
  exact hp' Oc Ob H3 y z dy dz k _ ((vy.same s3).va (R.same s1).oh) (vz.va R2.oh) e (q H3 ((s1.trans s2).trans s3))
def yZ4{op op':CmpOp}{r r':R2}{f g:D->D->Option Bool}(ho:OpR C.X (compareOp op) r)(ho':OpR C.X (compareOp op') r')(hp:PrB r f)(hp':PrB r' g)(ha:RE C mda a ma)(hb:RE C mdb b mb)(hc:RE C mdc c mc)
  (hm:autoParam (lastMarks [op,op'] [b,c]=false) zQ2._auto_1):RT C (.Compare a [op,op'] [b,c] pos) (b3 f g ma mb mc):=by
 obtain⟨ta,pa,qa⟩:=ha
 obtain⟨tb,pb,qb⟩:=hb
 obtain⟨tc,pc,qc⟩:=hc
 exact⟨_,yB7 ho ho' pa pb pc hm,fun Oc Ob σ H ρ Q R h=>chain3 qa qb qc hp hp' R (Res.zQ h (fun b _ q H' s=>⟨b,rfl,q H' s⟩) fun _ z=>z)⟩
def vB(m:Ev->Res Bool):Ev->Res D:=fun ρ=>(m ρ).bind fun b=>.ok (.bool b)
def xT3{op op':CmpOp}{r r':R2}{f g:D->D->Option Bool}(ho:OpR C.X (compareOp op) r)(ho':OpR C.X (compareOp op') r')(hp:PrB r f)(hp':PrB r' g)(ha:RE C mda a ma)(hb:RE C mdb b mb)(hc:RE C mdc c mc)
  (hm:autoParam (lastMarks [op,op'] [b,c]=false) zQ2._auto_1):RE C .cl (.Compare a [op,op'] [b,c] pos) (vB (b3 f g ma mb mc)):=by
 obtain⟨ta,pa,qa⟩:=ha
 obtain⟨tb,pb,qb⟩:=hb
 obtain⟨tc,pc,qc⟩:=hc
 exact⟨_,xZ9 ho ho' pa pb pc hm,fun Oc Ob σ H ρ Q R h=>chain3 qa qb qc hp hp' R (Res.zQ (Res.zX h) (fun b _ q H' s=>q _ H' s (Rep.bl b)) fun _ z=>z)⟩
variable {ta' tb':Ev->Res Bool}{rest:List Expr}
def isB:D->Option Bool
 | .bool b=>some b
 | _=>none
def tV(m:Ev->Res D):Ev->Res Bool:=fun ρ=>(m ρ).bind fun d=>Res.lft (isB d)
def zF8{d:D}{b:Bool}(h:isB d=some b):d=.bool b:=by
 cases d <;> simp[isB] at h ⊢
 exact h
def gJ(h:RE C md a ma)(he:autoParam (∀whole,isTrue a C.X.env whole=(do let v <-whole;standAt a.pos;holding [v] (truthy v))) DF):RT C a (tV ma):=by
 obtain⟨t,p,q⟩:=h
 refine⟨_,zR1 p he,fun Oc Ob σ H ρ Q R h=>q Oc Ob σ H ρ _ R (Res.zQ (Res.zX h) (fun d _ k v H' s r => ?_) fun _ z=>z)⟩
 obtain⟨b,e,k⟩:=Res.zD k
 obtain rfl:=zF8 e
 exact⟨b,(r.va R.oh).bool,k H' s⟩
def tNt(m:Ev->Res Bool):Ev->Res Bool:=fun ρ=>(m ρ).bind fun b=>.ok (!b)
def gY(h:RT C a ta'):RT C (.UnaryOp .Not a pos) (tNt ta'):=by
 obtain⟨t,p,q⟩:=h
 exact⟨_,yG9 p,fun Oc Ob σ H ρ Q R h=>q Oc Ob σ H ρ _ R (Res.zQ (Res.zX h) (fun d _ k=>k) fun _ z=>z)⟩
def tAn(m n:Ev->Res Bool):Ev->Res Bool:=fun ρ=>(m ρ).bind fun b=>if b then n ρ else .ok false
def tO(m n:Ev->Res Bool):Ev->Res Bool:=fun ρ=>(m ρ).bind fun b=>if b then .ok true else n ρ
def rw_and1(h:RT C a ta'):RW C (.BoolOp .And [a] pos) ta':=by
 obtain⟨t,p,q⟩:=h
 exact⟨_,pw_and1 p,q⟩
def rw_or1(h:RT C a ta'):RW C (.BoolOp .Or [a] pos) ta':=by
 obtain⟨t,p,q⟩:=h
 exact⟨_,pw_or1 p,q⟩
def rw_and(ha:RT C a ta')(hb:RW C (.BoolOp .And (b::rest) pos) tb'):RW C (.BoolOp .And (a::b::rest) pos) (tAn ta' tb'):=by
 obtain⟨t,p,q⟩:=ha
 obtain⟨t',p',q'⟩:=hb
 refine⟨_,pw_and p p',fun Oc Ob σ H ρ Q R h=>q Oc Ob σ H ρ _ R (Res.zQ (Res.zX h) (fun b _ k H' s => ?_) fun _ z=>z)⟩
 cases b with
 | true=>exact iteT (q' Oc Ob σ H' ρ Q (R.same s) (Res.zQ k (fun b _ k H2 s2=>k H2 (s.trans s2)) fun c z H2 s2=>z H2 (s.trans s2)))
 | false=>exact iteF (k H' s)
def rw_or(ha:RT C a ta')(hb:RW C (.BoolOp .Or (b::rest) pos) tb'):RW C (.BoolOp .Or (a::b::rest) pos) (tO ta' tb'):=by
 obtain⟨t,p,q⟩:=ha
 obtain⟨t',p',q'⟩:=hb
 refine⟨_,pw_or p p',fun Oc Ob σ H ρ Q R h=>q Oc Ob σ H ρ _ R (Res.zQ (Res.zX h) (fun b _ k H' s => ?_) fun _ z=>z)⟩
 cases b with
 | false=>exact iteF (q' Oc Ob σ H' ρ Q (R.same s) (Res.zQ k (fun b _ k H2 s2=>k H2 (s.trans s2)) fun c z H2 s2=>z H2 (s.trans s2)))
 | true=>exact iteT (k H' s)
def RW.rt(h:RW C a ta'):RT C a ta':=by
 obtain⟨t,p,q⟩:=h
 exact⟨_,p.pt,q⟩
def xG5{op}(h:RE C md a ma):RE C md (.BoolOp op [a] pos) ma:=by
 obtain⟨t,p,q⟩:=h
 exact⟨_,xF9 p,q⟩
def vAn(m n:Ev->Res D):Ev->Res D:=fun ρ=>(m ρ).bind fun d=>(Res.lft (isB d)).bind fun b=>if b then n ρ else .ok (.bool false)
def vO(m n:Ev->Res D):Ev->Res D:=fun ρ=>(m ρ).bind fun d=>(Res.lft (isB d)).bind fun b=>if b then .ok (.bool true) else n ρ
def vNt(m:Ev->Res D):Ev->Res D:=fun ρ=>(m ρ).bind fun d=>(Res.lft (isB d)).bind fun b=>.ok (.bool (!b))
def xB7(ha:RE C mda a ma)(hb:RE C .cl (.BoolOp .And (b::rest) pos) mb):RE C .cl (.BoolOp .And (a::b::rest) pos) (vAn ma mb):=by
 obtain⟨t,p,q⟩:=ha
 obtain⟨t',p',q'⟩:=hb
 refine⟨_,xA8 p p',fun Oc Ob σ H ρ Q R h=>q Oc Ob σ H ρ _ R (Res.zQ (Res.zX h) (fun d _ k v H' s r => ?_) fun _ z=>z)⟩
 obtain⟨b,e,k⟩:=Res.zD (Res.zX k)
 obtain rfl:=zF8 e
 refine⟨b,(r.va R.oh).bool,?_⟩
 cases b with
 | true=>exact iteT (q' Oc Ob σ H' ρ Q (R.same s) (Res.zQ k (fun b _ k v H2 s2 r=>k v H2 (s.trans s2) r) fun c z H2 s2=>z H2 (s.trans s2)))
 | false=>exact iteF (k _ H' s (Rep.bl false))
def eIf(m:Ev->Res Bool)(n o:Ev->Res D):Ev->Res D:=fun ρ=>(m ρ).bind fun b=>if b then n ρ else o ρ
def e1(f:D->Option D)(m:Ev->Res D):Ev->Res D:=fun ρ=>(m ρ).bind fun x=>Res.lft (f x)
def negD:D->Option D
 | .int i=>some (.int (-i))
 | _=>none
def zC2(ha:RE C mda a ma):RE C .cl (.UnaryOp .USub a pos) (e1 negD ma):=by
 obtain⟨t,p,q⟩:=ha
 refine⟨_,yN5 zA4 p,fun Oc Ob σ H ρ Q R h=>q Oc Ob σ H ρ _ R (Res.zQ (Res.zX h) (fun d _ k v H' s r => ?_) fun _ z=>z)⟩
 obtain⟨d',e,k⟩:=Res.zD k
 cases d with
 | int i =>
  cases e
  exact⟨i,(r.va R.oh).int,k _ H' s (Rep.int _)⟩
 | _=>cases e
end
inductive VAs(Oc:Wd)(Ob:Addr->Prop)(H:Hp):List V->List D->Prop
 | nil:VAs Oc Ob H [] []
 | cons {v:V}{d:D}{vs:List V}{ds:List D}:VA Oc Ob H v d->VAs Oc Ob H vs ds->VAs Oc Ob H (v::vs) (d::ds)
section
variable {Oc:Wd}{Ob:Addr->Prop}{H H':Hp}
def VAs.rep:∀{vs:List V}{ds:List D},VAs Oc Ob H vs ds->Reps H (fun _=>False) vs ds
 | _,_,.nil=>.nil
 | _,_,.cons h t=>.cons h.rep (VAs.rep t)
def VA.same{v:V}{d:D}(h:VA Oc Ob H v d)(s:Same H H'):VA Oc Ob H' v d:=VR.same (md:=.any) (H:=H) h s
end
def VQ:Bool->Wd->(Addr->Prop)->Hp->List V->List D->Prop
 | true,Oc,Ob,H,vs,ds=>Reps H (Uni Oc Ob) vs ds
 | false,Oc,Ob,H,vs,ds=>VAs Oc Ob H vs ds
def RArg(C:Ct)(cl:Bool)(es:List Expr)(m:Ev->Res (List D)):Prop :=
 ∃t,PA C.X es t/\∀(Oc:Wd) (Ob:Addr->Prop) (σ:St) (H:Hp) (ρ:Ev) (Q:List V->Hp->Prop),Rel Oc Ob C.om C.ln σ H ρ ->
  (m ρ).post (fun ds=>∀vs H',Same H H'->VQ cl Oc Ob H' vs ds->Q vs H') (fun c=>∀H',Same H H'->C.XE c H')->t σ H Q
section
variable {C:Ct}{a b c e:Expr}{es:List Expr}{pos p:Pos}{md mda mdb mdc:Md}{ma mb mc:Ev->Res D}{ms:Ev->Res (List D)}{cl:Bool}
def aN:Ev->Res (List D):=fun _=>.ok []
def aC(m:Ev->Res D)(n:Ev->Res (List D)):Ev->Res (List D):=fun ρ=>(m ρ).bind fun x=>(n ρ).bind fun xs=>.ok (x::xs)
def zR:RArg C cl [] aN:=⟨_,zL,fun Oc Ob σ H ρ Q R h=>h [] H (Same.refl H) (by cases cl;exact VAs.nil;exact Reps.nil)⟩
def zW(ha:RE C .cl e ma)(hr:RArg C true es ms)(hs:autoParam (starEach (e::es) C.X.env=(false,eval e C.X.env)::starEach es C.X.env) DH):RArg C true (e::es) (aC ma ms):=by
 obtain⟨t,p,q⟩:=ha
 obtain⟨t',p',q'⟩:=hr
 refine⟨_,zT p p' hs,fun Oc Ob σ H ρ Q R h=>q Oc Ob σ H ρ _ R (Res.zQ (Res.zX h) (fun d _ k v H' s r => ?_) fun _ z=>z)⟩
 refine q' Oc Ob σ H' ρ _ (R.same s) (Res.zQ (Res.zX k) (fun ds _ k vs H2 s2 r2 => ?_) fun c z H2 s2=>z H2 (s.trans s2))
 exact k _ H2 (s.trans s2) (Reps.cons (r.same s2) r2)
def zM(ha:RE C md e ma)(hr:RArg C false es ms)(hs:autoParam (starEach (e::es) C.X.env=(false,eval e C.X.env)::starEach es C.X.env) DH):RArg C false (e::es) (aC ma ms):=by
 obtain⟨t,p,q⟩:=ha
 obtain⟨t',p',q'⟩:=hr
 refine⟨_,zT p p' hs,fun Oc Ob σ H ρ Q R h=>q Oc Ob σ H ρ _ R (Res.zQ (Res.zX h) (fun d _ k v H' s r => ?_) fun _ z=>z)⟩
 refine q' Oc Ob σ H' ρ _ (R.same s) (Res.zQ (Res.zX k) (fun ds _ k vs H2 s2 r2 => ?_) fun c z H2 s2=>z H2 (s.trans s2))
 exact k _ H2 (s.trans s2) (VAs.cons ((r.va R.oh).same s2) r2)
def mkL(ds:List D):Option D:=if ds.length<=sizeLine then some (.list ds) else none
def mkT(ds:List D):Option D:=if ds.length<=sizeLine then some (.tuple ds) else none
def eB(f:List D->Option D)(m:Ev->Res (List D)):Ev->Res D:=fun ρ=>(m ρ).bind fun ds=>Res.lft (f ds)
def xU{Oc:Wd}{Ob:Addr->Prop}{H H1:Hp}{p:Addr}{vs:List V}{ds:List D}(s:Same H H1)(hp:H1 p=none)(r:Reps H1 (Uni Oc Ob) vs ds):VR .new Oc Ob H (upd H1 p (.lst vs)) (.ref p) (.list ds) :=
 ⟨p,vs,ds,rfl,rfl,s.free hp,zS,r.keep (fun b o e _=>by rw[zY (yZ e hp)];exact e) fun b n z=>z.elim id fun z=>by subst z;exact absurd hp n⟩
def dO{Oc:Wd}{Ob:Addr->Prop}{H1:Hp}{p:Addr}{vs:List V}{ds:List D}(oh:∀a,Oc a\/Ob a->H1 a≠none)(hp:H1 p=none)(r:Reps H1 (Uni Oc Ob) vs ds):Rep (upd H1 p (.tup vs)) (Uni Oc Ob) (.ref p) (.tuple ds) :=
 .tup (.inl zS) (fun z=>oh p z hp) (r.same (Same.new hp))
def xY(h:RArg C true es ms):RE C .new (.List es pos) (eB mkL ms):=by
 obtain⟨t,p,q⟩:=h
 refine⟨_,xW p,fun Oc Ob σ H ρ Q R h=>q Oc Ob σ H ρ _ R (Res.zQ (Res.zX h) (fun ds _ k vs H' s r => ?_) fun _ z=>z)⟩
 obtain⟨d,e,k⟩:=Res.zD k
 unfold mkL at e
 split at e
 ·rename_i hl
  cases e
  exact⟨by rw[Reps.length r];exact hl,fun p hp=>k _ _ (s.trans (Same.new hp)) (xU s hp r)⟩
 ·cases e
def zE3{x1}(h:RArg C true es ms):RE C .cl (.Tuple es x1 pos) (eB mkT ms):=by
 obtain⟨t,p,q⟩:=h
 refine⟨_,jE p,fun Oc Ob σ H ρ Q R h=>q Oc Ob σ H ρ _ R (Res.zQ (Res.zX h) (fun ds _ k vs H' s r => ?_) fun _ z=>z)⟩
 obtain⟨d,e,k⟩:=Res.zD k
 unfold mkT at e
 split at e
 ·rename_i hl
  cases e
  exact⟨by rw[Reps.length r];exact hl,fun p hp=>k _ _ (s.trans (Same.new hp)) (dO (R.same s).oh hp r)⟩
 ·cases e
def PrC(r:List V->Hp->VK->Prop)(md:Md)(f:List D->Option D):Prop :=
 ∀(Oc:Wd) (Ob:Addr->Prop) (H:Hp) (vs:List V) (ds:List D) (d:D) (Q:VK),(∀a,Oc a\/Ob a->H a≠none)->VAs Oc Ob H vs ds->f ds=some d->(∀v H',Same H H'->VR md Oc Ob H H' v d->Q v H')->r vs H Q
def zJ7{t:TA}{r:List V->Hp->VK->Prop}{f:List D->Option D}(q:∀(Oc:Wd) (Ob:Addr->Prop) (σ:St) (H:Hp) (ρ:Ev) (Q:List V->Hp->Prop),Rel Oc Ob C.om C.ln σ H ρ ->
  (ms ρ).post (fun ds=>∀vs H',Same H H'->VQ false Oc Ob H' vs ds->Q vs H') (fun c=>∀H',Same H H'->C.XE c H')->t σ H Q)(hp:PrC r md f)
  {Oc:Wd}{Ob:Addr->Prop}{σ:St}{H:Hp}{ρ:Ev}{Q:VK}(R:Rel Oc Ob C.om C.ln σ H ρ) (h:(eB f ms ρ).post (fun d=>∀v H',Same H H'->VR md Oc Ob H H' v d->Q v H') (fun c=>∀H',Same H H'->C.XE c H')):tCB r t σ H Q:=by
 refine q Oc Ob σ H ρ _ R (Res.zQ (Res.zX h) (fun ds _ k vs H' s r => ?_) fun _ z=>z)
 obtain⟨d,e,k⟩:=Res.zD k
 exact hp Oc Ob H' vs ds d Q (R.same s).oh r e fun v H2 s2 r2=>k v H2 (s.trans s2) (r2.from s)
def zE{x:Str}{id:String}{r:List V->Hp->VK->Prop}{f:List D->Option D}(hc:CallR C.X (.builtin id) r)(hp:PrC r md f)(hm:C.X.mg x=none)(hv:bootBuiltins x=some (.builtin id))(ha:RArg C false (e::es) ms)(hg:autoParam (Gl C.X x) DH)(hn:autoParam (x ≠ "__name__") DG)(hdb:autoParam ((x == ("__debug__":Str))=false) DG)
  (he:autoParam (starEach (e::es) C.X.env=(false,eval e C.X.env)::starEach es C.X.env) DH) (hpl:autoParam ((backTo pos (starEach es C.X.env)).any (·.1)=false) DH):RE C md (.Call (.Name x p) (e::es) [] pos) (eB f ms):=by
 obtain⟨t,pa,q⟩:=ha
 exact⟨_,wM hc hg hm hv pa hn hdb he hpl,fun Oc Ob σ H ρ Q R h=>zJ7 q hp R h⟩
def xN{x:Str}{T:String}{r:List V->Hp->VK->Prop}{f:List D->Option D}(hc:CallR C.X (.type T) r)(hp:PrC r md f)(hm:C.X.mg x=none)(hv:bootBuiltins x=some (.type T))(ha:RArg C false (e::es) ms)(hg:autoParam (Gl C.X x) DH)(hn:autoParam (x ≠ "__name__") DG)(hdb:autoParam ((x == ("__debug__":Str))=false) DG)
  (he:autoParam (starEach (e::es) C.X.env=(false,eval e C.X.env)::starEach es C.X.env) DH) (hpl:autoParam ((backTo pos (starEach es C.X.env)).any (·.1)=false) DH):RE C md (.Call (.Name x p) (e::es) [] pos) (eB f ms):=by
 obtain⟨t,pa,q⟩:=ha
 exact⟨_,yF hc hg hm hv pa hn hdb he hpl,fun Oc Ob σ H ρ Q R h=>zJ7 q hp R h⟩
def Walks(Oc:Wd)(Ob:Addr->Prop)(J:It)(H1:Hp)(ds:List D):Prop :=
 ∀(H2:Hp) (Ob2:Addr->Prop),Frm Ob H1 H2->(∀b,Ob2 b->Ob b\/H1 b=none)->∀i,(∀d,ds[i]?=some d->J.go i H2/\∀x H3,J.yld i H2 x H3->Same H2 H3/\Rep H3 (Uni Oc Ob2) x d)/\(ds.length<=i->J.stop i H2)
def RI(C:Ct)(tg iter:Expr)(m:Ev->Res (List D)):Prop :=
 ∃wi,PI C.X tg iter wi/\∀(Oc:Wd) (Ob:Addr->Prop) (σ:St) (H:Hp) (ρ:Ev) (R:It->Hp->Prop),Rel Oc Ob C.om C.ln σ H ρ ->
  (m ρ).post (fun ds=>∀J H1,Same H H1->Walks Oc Ob J H1 ds->R J H1) (fun c=>∀H',Same H H'->C.XE c H')->wi σ H R
def iSeq(K:KFr)(tl:TE):TI:=fun σ H R=>tl σ H fun x H1=>∃a,x=.ref a/\(((∃xs,SqL K H1 a xs)/\R (Itl K a) H1)\/((∃xs,SqT K H1 a xs)/\R (Itt K a) H1))
def xG3{X:Cx}{tg l:Expr}{tl:TE}(hl:PE X l tl):PI X tg l (iSeq X.K tl):=by
 intro DI s σ H R I h
 refine thn (hl DI s σ H _ I h) fun v s1 ⟨x,H1,I1,r1,q1⟩ => ?_
 obtain⟨a,e,q1⟩:=q1
 subst e
 cases r1
 rcases q1 with ⟨⟨xs,hq⟩,q⟩ | ⟨⟨xs,hq⟩,q⟩
 ·obtain⟨its,rv,p,hz⟩:=I1.list hq
  refine wpAny_pyIter_list p.isList ?_
  refine⟨s1.heap.objs.size,[s1.heap.objs.size],_,_,H1,rfl,I1.kept (t':=s1.toks) fun b o e=>Af _ e,zM7 a _,⟨_,Aw _ rfl,rfl,rfl⟩,fun b hb => ?_,q⟩
  have e:b=s1.heap.objs.size:=by simpa using hb
  subst e
  exact I1.fpOk (Ak _) (I1.hok.fresh (Ak _))
 ·obtain⟨its,rv,p,hz⟩:=I1.tuple hq
  refine wpAny_pyIter_tuple (show s1.heap.IsTuple a its.toArray from p) ?_
  refine⟨s1.heap.objs.size,[s1.heap.objs.size],_,_,H1,rfl,I1.kept (t':=s1.toks) fun b o e=>Af _ e,zU5 a _,⟨_,Aw _ rfl,rfl,rfl⟩,fun b hb => ?_,q⟩
  have e:b=s1.heap.objs.size:=by simpa using hb
  subst e
  exact I1.fpOk (Ak _) (I1.hok.fresh (Ak _))
def seqD:D->Option (List D)
 | .list ds=>some ds
 | .tuple ds=>some ds
 | _=>none
def iS(m:Ev->Res D):Ev->Res (List D):=fun ρ=>(m ρ).bind fun d=>Res.lft (seqD d)
def Reps.step{Oc:Wd}{Ob Ob2:Addr->Prop}{H1 H2:Hp}{vs:List V}{ds:List D}(r:Reps H1 (Uni Oc Ob) vs ds)(f:Frm Ob H1 H2)(s:∀b,Ob2 b->Ob b\/H1 b=none):Reps H2 (Uni Oc Ob2) vs ds :=
 r.keep (fun b o e n=>f b o e fun z=>n (.inr z)) fun b n z=>z.elim .inl fun z=>(s b z).elim .inr fun q=>absurd q n
end
def zU8{K:KFr}{Oc:Wd}{Ob:Addr->Prop}{H1:Hp}{a:Addr}{ys:List V}{ds:List D}(r:Rd H1 a (.lst ys))(n:¬Ob a)(rs:Reps H1 (Uni Oc Ob) ys ds):Walks Oc Ob (Itl K a) H1 ds:=by
 intro H2 Ob2 f s i
 have r2:Rd H2 a (.lst ys):=yM r fun o e=>f a o e n
 have rs2:=rs.step f s
 refine⟨fun d e => ?_,fun h=>⟨ys,.inl r2,by rw[rs2.length];exact h⟩⟩
 obtain⟨v,ev,rv⟩:=rs2.get e
 refine⟨⟨ys,v,.inl r2,ev⟩,fun x H3 hy => ?_⟩
 obtain⟨rfl,hy⟩:=hy
 have:=hy ys (.inl r2)
 rw[ev] at this
 cases this
 exact⟨Same.refl _,rv⟩
def yW9{K:KFr}{Oc:Wd}{Ob:Addr->Prop}{H1:Hp}{a:Addr}{ys:List V}{ds:List D}(r:Rd H1 a (.tup ys))(n:¬Ob a)(rs:Reps H1 (Uni Oc Ob) ys ds):Walks Oc Ob (Itt K a) H1 ds:=by
 intro H2 Ob2 f s i
 have r2:Rd H2 a (.tup ys):=yM r fun o e=>f a o e n
 have rs2:=rs.step f s
 refine⟨fun d e => ?_,fun h=>⟨ys,.inl r2,by rw[rs2.length];exact h⟩⟩
 obtain⟨v,ev,rv⟩:=rs2.get e
 refine⟨⟨ys,v,.inl r2,ev⟩,fun x H3 hy => ?_⟩
 obtain⟨rfl,hy⟩:=hy
 have:=hy ys (.inl r2)
 rw[ev] at this
 cases this
 exact⟨Same.refl _,rv⟩
def yW3{Oc:Wd}{Ob:Addr->Prop}{H1:Hp}{lo:Int}{n:Nat}{ds:List D}(e:ds=(List.range n).map fun (i:Nat)=>PyData.int (lo+(i:Int))):Walks Oc Ob (Itr lo n) H1 ds:=by
 intro H2 Ob2 f s i
 subst e
 refine⟨fun d e => ?_,fun h=>by show n<=i;simpa using h⟩
 rw[Ai] at e
 by_cases hi:i<n
 ·rw[AH hi] at e
  cases e
  refine⟨hi,fun x H3 hy => ?_⟩
  obtain⟨rfl,rfl⟩:=hy
  exact⟨Same.refl _,.int _⟩
 ·rw[BP (by simpa using hi)] at e
  cases e
section
variable {C:Ct}{a b c e:Expr}{es:List Expr}{pos p:Pos}{md mda mdb mdc:Md}{ma mb mc:Ev->Res D}{ms:Ev->Res (List D)}{cl:Bool}{tg:Expr}
def wP(h:RE C .rd e ma):RI C tg e (iS ma):=by
 obtain⟨t,p,q⟩:=h
 refine⟨_,xG3 p,fun Oc Ob σ H ρ W R h=>q Oc Ob σ H ρ _ R (Res.zQ (Res.zX h) (fun d _ k v H' s r => ?_) fun _ z=>z)⟩
 obtain⟨ds,e,k⟩:=Res.zD k
 rcases r with r | ⟨a,ys,ds',rfl,rfl,e3,e4,e5⟩
 ·cases r with
  | lst r n t=>cases e;exact⟨_,rfl,.inl ⟨⟨_,.inl r⟩,k _ H' s (zU8 r (fun z=>n (.inr z)) t)⟩⟩
  | tup r n t=>cases e;exact⟨_,rfl,.inr ⟨⟨_,.inl r⟩,k _ H' s (yW9 r (fun z=>n (.inr z)) t)⟩⟩
  | _=>cases e
 ·cases e
  exact⟨_,rfl,.inl ⟨⟨_,SqL.of e3⟩,k _ H' s (zU8 (.inl e3) e4 e5)⟩⟩
def rng1:List D->Option (List D)
 | [.int j]=>if -(2 ^ 62)<=j/\j<2 ^ 62 then some ((List.range j.toNat).map fun (i:Nat)=>PyData.int (i:Int)) else none
 | _=>none
def iR(f:List D->Option (List D))(m:Ev->Res (List D)):Ev->Res (List D):=fun ρ=>(m ρ).bind fun ds=>Res.lft (f ds)
def VAs.one{Oc:Wd}{Ob:Addr->Prop}{H:Hp}{vs:List V}{d:D}(h:VAs Oc Ob H vs [d]):∃v,vs=[v]/\VA Oc Ob H v d:=by
 cases h with
 | cons a t=>cases t;exact⟨_,rfl,a⟩
def bM(hm:C.X.mg "range" = none)(ha:RArg C false [a] ms)(hg:autoParam (Gl C.X "range") DH)(hs:autoParam (starEach [a] C.X.env=[(false,eval a C.X.env)]) DH):RI C tg (.Call (.Name "range" p) [a] [] pos) (iR rng1 ms):=by
 obtain⟨t,pa,q⟩:=ha
 refine⟨_,jF hg hm pa hs,fun Oc Ob σ H ρ W R h=>q Oc Ob σ H ρ _ R (Res.zQ (Res.zX h) (fun ds _ k vs H' s r => ?_) fun _ z=>z)⟩
 obtain⟨xs,e,k⟩:=Res.zD k
 unfold rng1 at e
 split at e
 ·split at e
  ·rename_i hb
   cases e
   obtain⟨v,rfl,va⟩:=VAs.one r
   obtain rfl:=va.int
   exact⟨_,rfl,hb.1,hb.2,k _ H' s (yW3 (by simp))⟩
  ·cases e
 ·cases e
end
def cEnv(ρ:Ev)(js:List Nat)(x:D):Ev:=some x::js.map fun j=>(ρ[j]?).join
def capt(js l:List Nat):List Nat:=((List.range js.length).filter fun i=>l.contains (js.getD i 0)).map (·+1)
def noEx{α:Type}:Res α->Res α
 | .ok a=>.ok a
 | _=>.no
def kC{α:Type}{r:Res α}{a:α}(h:noEx r=.ok a):r=.ok a:=by
 cases r with
 | ok b=>exact h
 | ex c=>cases h
 | no=>cases h
def compM(t:D->Res Bool)(f:D->Res D):List D->Res (List D)
 | []=>.ok []
 | x::xs=>(noEx (t x)).bind fun b=>if b then (noEx (f x)).bind fun y=>(compM t f xs).bind fun ys=>.ok (y::ys) else compM t f xs
def eComp(mi:Ev->Res (List D))(mt:Ev->Res Bool)(me:Ev->Res D)(js:List Nat):Ev->Res D:=fun ρ=>(mi ρ).bind fun ds=>if ds.length<=sizeLine then (compM (fun x=>mt (cEnv ρ js x)) (fun x=>me (cEnv ρ js x)) ds).bind fun out=>.ok (.list out) else .no
def xX2{js l:List Nat}{i:Nat}(h:i∈capt js l):∃k,i=k+1/\k<js.length/\js.getD k 0∈l:=by
 unfold capt at h
 obtain⟨k,hk,rfl⟩:=Ay.mp h
 obtain⟨h1,h2⟩:=Bk.mp hk
 exact⟨k,rfl,Al.mp h1,AE.mp h2⟩
def zD8{js l:List Nat}{k j:Nat}(h:js[k]?=some j)(hl:j∈l):k+1∈capt js l:=by
 unfold capt
 refine Ay.mpr ⟨k,Bk.mpr ⟨Al.mpr ?_,?_⟩,rfl⟩
 ·exact (Ac.mp h).1
 ·rw[AD,h]
  exact AE.mpr hl
def zK4{ρ:Ev}{js:List Nat}{x d:D}{k:Nat}(h:(cEnv ρ js x)[k+1]?=some (some d)):∃j,js[k]?=some j/\ρ[j]?=some (some d):=by
 unfold cEnv at h
 rw[BI,Ai] at h
 cases e:js[k]? with
 | none=>rw[e] at h;cases h
 | some j =>
  rw[e] at h
  refine⟨j,rfl,?_⟩
  have h:(ρ[j]?).join=some d:=AW h
  cases q:ρ[j]? with
  | none=>rw[q] at h;cases h
  | some z=>rw[q] at h;rw[show z=some d from h]
def uR{σ:St}{js:List Nat}{v0:Option V}{v:V}{k j:Nat}(h:js[k]?=some j)(e:σ[j]?=some (some v)):(compSt σ js v0)[k+1]?=some (some v):=by
 unfold compSt
 rw[BI,Ai,h]
 show some ((σ[j]?).join)=_
 rw[e]
 rfl
def adr:Option (Option V)->Addr
 | some (some (.ref a))=>a
 | _=>0
def cW(Oc:Wd)(Ob:Addr->Prop)(σ:St)(js:List Nat):Wd:=⟨Uni Oc Ob,fun i=>adr ((compSt σ js none)[i]?)⟩
def Rel.comp{Oc:Wd}{Ob:Addr->Prop}{om ln:List Nat}{σ:St}{H:Hp}{ρ:Ev}{js:List Nat}{x:V}{d:D}(R:Rel Oc Ob om ln σ H ρ)(r:Rep H (Uni Oc Ob) x d):Rel (cW Oc Ob σ js) (fun _=>False) [] (capt js (om++ln)) (compSt σ js (some x)) H (cEnv ρ js d) where
 len:=by unfold compSt cEnv;simp
 val:=fun i d' e _ hl=>by
  cases i with
  | zero =>
   cases e
   exact⟨x,rfl,r.less fun b z=>z.elim id fun z=>z.elim⟩
  | succ k =>
   obtain⟨j,e1,e2⟩:=zK4 e
   have h1:j∉om:=fun z=>hl (zD8 e1 (AS _ z))
   have h2:j∉ln:=fun z=>hl (zD8 e1 (Ag _ z))
   obtain⟨v,q,rv⟩:=R.val j d' e2 h1 h2
   exact⟨v,uR e1 q,rv.less fun b z=>z.elim id fun z=>z.elim⟩
 own:=fun i d' e h=>nomatch h
 lnt:=fun i d' e _ hl=>by
  obtain⟨k,rfl,hk,hj⟩:=xX2 hl
  obtain⟨j,e1,e2⟩:=zK4 e
  rw[AD,e1,CG] at hj
  by_cases ho:j∈om
  ·obtain⟨v,q,a,ys,ds,z1,z2,z3,z4,z5⟩:=R.own j d' e2 ho
   have ea:(cW Oc Ob σ js).la (k+1)=a:=by show adr _=a;rw[uR e1 q,z1];rfl
   exact⟨v,uR e1 q,ys,ds,by rw[ea];exact z1,z2,by rw[ea];exact z3,by rw[ea];exact .inr z4,z5.less fun b z=>z.elim id fun z=>z.elim⟩
  ·have hl2:j∈ln:=(AM.mp hj).elim (fun z=>absurd z ho) id
   obtain⟨v,q,ys,ds,z1,z2,z3,z4,z5⟩:=R.lnt j d' e2 ho hl2
   have ea:(cW Oc Ob σ js).la (k+1)=Oc.la j:=by show adr _=_;rw[uR e1 q,z1];rfl
   exact⟨v,uR e1 q,ys,ds,by rw[ea];exact z1,z2,by rw[ea];exact z3,by rw[ea];exact .inl z4,z5.less fun b z=>z.elim id fun z=>z.elim⟩
 inj:=fun i j di dj a _ _ h=>nomatch h
 oh:=fun a z=>R.oh a (z.elim id fun z=>z.elim)
 ap:=fun a z=>z.elim
abbrev cC(C:Ct)(N:List Str)(scope:Scope)(A:Addr)(fp:List Addr)(s₂:Shared)(H:Hp)(js:List Nat):Ct:=⟨cxComp C.X N scope A fp s₂ H,fun _ _=>False,[],capt js (C.om++C.ln)⟩
def RTs(C:Ct)(ifs:List Expr)(m:Ev->Res Bool):Prop:=∃t,PTs C.X ifs t/\∀(Oc:Wd) (Ob:Addr->Prop) (σ:St) (H:Hp) (ρ:Ev) (Q:Bool->Hp->Prop),Rel Oc Ob C.om C.ln σ H ρ ->
  (m ρ).post (fun b=>∀H',Same H H'->Q b H') (fun c=>∀H',Same H H'->C.XE c H')->t σ H Q
def tYes:Ev->Res Bool:=fun _=>.ok true
def wF{C:Ct}:RTs C [] tYes:=⟨_,.nil,fun Oc Ob σ H ρ Q R h=>h H (Same.refl H)⟩
def WalksS(Oc:Wd)(Ob:Addr->Prop)(J:It)(H1:Hp)(ds:List D):Prop :=
 ∀(H2:Hp),Same H1 H2->∀i,(∀d,ds[i]?=some d->J.go i H2/\∀x H3,J.yld i H2 x H3->Same H2 H3/\Rep H3 (Uni Oc Ob) x d)/\(ds.length<=i->J.stop i H2)
def RIc(C:Ct)(tg iter:Expr)(m:Ev->Res (List D)):Prop :=
 ∃wi,PI C.X tg iter wi/\∀(Oc:Wd) (Ob:Addr->Prop) (σ:St) (H:Hp) (ρ:Ev) (R:It->Hp->Prop),Rel Oc Ob C.om C.ln σ H ρ ->
  (m ρ).post (fun ds=>∀J H1,Same H H1->WalksS Oc Ob J H1 ds->R J H1) (fun c=>∀H',Same H H'->C.XE c H')->wi σ H R
def RI.c{C:Ct}{tg iter:Expr}{m:Ev->Res (List D)}(h:RI C tg iter m):RIc C tg iter m:=by
 obtain⟨wi,p,q⟩:=h
 exact⟨wi,p,fun Oc Ob σ H ρ W R h=>q Oc Ob σ H ρ W R (Res.zQ h (fun ds _ k J H1 s w=>k J H1 s fun H2 s2=>w H2 Ob (Same.frm s2) fun b z=>.inl z) fun _ z=>z)⟩
def yB2{C:Ct}{elt:Expr}{ifs:List Expr}{scope:Scope}{N:List Str}{js:List Nat}{mi:Ev->Res (List D)}{mt:Ev->Res Bool}{me:Ev->Res D}{wi:TI}
  (qi:∀(Oc:Wd) (Ob:Addr->Prop) (σ:St) (H:Hp) (ρ:Ev) (R:It->Hp->Prop),Rel Oc Ob C.om C.ln σ H ρ->(mi ρ).post (fun ds=>∀J H1,Same H H1->WalksS Oc Ob J H1 ds->R J H1) (fun c=>∀H',Same H H'->C.XE c H')->wi σ H R)
  (ht:∀A fp s₂ H,RTs (cC C N scope A fp s₂ H js) ifs mt) (he:∀A fp s₂ H,RE (cC C N scope A fp s₂ H js) .cl elt me)
  {Oc:Wd}{Ob:Addr->Prop}{σ:St}{H:Hp}{ρ:Ev}{Q:VK}(R:Rel Oc Ob C.om C.ln σ H ρ) (h:(eComp mi mt me js ρ).post (fun d=>∀v H',Same H H'->VR .new Oc Ob H H' v d->Q v H') (fun c=>∀H',Same H H'->C.XE c H')) :
  tComp wi (fun A fp s H=>Classical.choose (ht A fp s H)) (fun A fp s H=>Classical.choose (he A fp s H)) js σ H Q:=by
 refine qi Oc Ob σ H ρ _ R (Res.zQ (Res.zX h) (fun ds _ k J H1 s1 wk => ?_) fun _ z=>z)
 intro A fp s₂ H₂
 have qt:=(AT (ht A fp s₂ H₂)).2
 have qe:=(AT (he A fp s₂ H₂)).2
 have k:(if ds.length<=sizeLine then (compM (fun x=>mt (cEnv ρ js x)) (fun x=>me (cEnv ρ js x)) ds).bind fun out=>Res.ok (PyData.list out) else .no).post (fun d=>∀v H',Same H H'->VR .new Oc Ob H H' v d->Q v H') (fun c=>∀H',Same H H'->C.XE c H'):=k
 by_cases hlen:ds.length<=sizeLine
 ·rw[Aq hlen] at k
  generalize hT:(fun x=>mt (cEnv ρ js x))=T at k
  generalize hF:(fun x=>me (cEnv ρ js x))=F at k
  cases ec:compM T F ds with
  | no=>rw[ec] at k;exact k.elim
  | ex c =>
   exfalso
   have nex:∀xs c,compM T F xs ≠ .ex c:=by
    intro xs
    induction xs with
    | nil=>intro c z;cases z
    | cons x xs ih =>
     intro c z
     rw[compM] at z
     cases e1:noEx (T x) with
     | no=>rw[e1] at z;cases z
     | ex c'=>cases hx:T x <;> rw[hx] at e1 <;> cases e1
     | ok b =>
      rw[e1,Res.bind_ok] at z
      cases b with
      | false=>exact ih c z
      | true =>
       simp only[if_true] at z
       cases e2:noEx (F x) with
       | no=>rw[e2] at z;cases z
       | ex c'=>cases hx:F x <;> rw[hx] at e2 <;> cases e2
       | ok y =>
        rw[e2,Res.bind_ok] at z
        cases e3:compM T F xs with
        | no=>rw[e3] at z;cases z
        | ex c'=>exact ih c' e3
        | ok ys=>rw[e3] at z;cases z
   exact nex ds c ec
  | ok out =>
   rw[ec,Res.bind_ok] at k
   refine⟨fun i m acc H=>m=ds.length-i/\i<=ds.length/\Same H1 H/\∃done rest,Reps H (Uni Oc Ob) acc done/\acc.length<=i/\compM T F (ds.drop i)=.ok rest/\done++rest=out,⟨_,rfl,AQ _,Same.refl _,[],out,.nil,Ak _,ec,rfl⟩,?_⟩
   rintro i m acc H2 ⟨rfl,hi,s2,done,rest,ra,la,er,eo⟩
   obtain⟨w1,w2⟩:=wk H2 s2 i
   have R2:=(R.same s1).same s2
   by_cases hlt:i<ds.length
   ·obtain⟨go,yl⟩:=w1 ds[i] (Ab hlt)
    have ed:ds.drop i=ds[i]::ds.drop (i+1):=BB hlt
    rw[ed,compM] at er
    have nxt:∀(acc':List V) (H3:Hp) (done' rest':List D),Same H2 H3->Reps H3 (Uni Oc Ob) acc' done'->acc'.length<=i+1->compM T F (ds.drop (i+1))=.ok rest'->done'++rest'=out ->
      ∃m',m'<ds.length-i/\(m'=ds.length-(i+1)/\i+1<=ds.length/\Same H1 H3/\∃done rest,Reps H3 (Uni Oc Ob) acc' done/\acc'.length<=i+1/\compM T F (ds.drop (i+1))=.ok rest/\done++rest=out) :=
     fun acc' H3 done' rest' s3 r3 l3 c3 o3=>⟨_,by rfl',rfl,hlt,s2.trans s3,done',rest',r3,l3,c3,o3⟩
    refine .inr ⟨go,fun acc' H'=>∃m',m'<ds.length-i/\(m'=ds.length-(i+1)/\i+1<=ds.length/\Same H1 H'/\∃done rest,Reps H' (Uni Oc Ob) acc' done/\acc'.length<=i+1/\compM T F (ds.drop (i+1))=.ok rest/\done++rest=out),fun acc' H' z=>z,fun x H3 hy => ?_⟩
    obtain⟨s3,rx⟩:=yl x H3 hy
    have R3:=(R2.same s3).comp (js:=js) rx
    cases e1:noEx (T ds[i]) with
    | no=>rw[e1] at er;cases er
    | ex c=>rw[e1] at er;cases er
    | ok b =>
     rw[e1,Res.bind_ok] at er
     have t1:mt (cEnv ρ js ds[i])=.ok b:=by
      have t1:=kC e1
      rw[<-hT] at t1
      exact t1
     refine qt _ _ _ H3 _ _ R3 ?_
     show (mt (cEnv ρ js ds[i])).post _ _
     rw[t1]
     intro H4 s4
     cases b with
     | false=>exact iteF (nxt acc H4 done rest (s3.trans s4) (ra.same (s3.trans s4)) (by rfl') er eo)
     | true =>
      refine iteT ?_
      simp only[if_true] at er
      cases e2:noEx (F ds[i]) with
      | no=>rw[e2] at er;cases er
      | ex c=>rw[e2] at er;cases er
      | ok y =>
       rw[e2,Res.bind_ok] at er
       have t2:me (cEnv ρ js ds[i])=.ok y:=by
        have t2:=kC e2
        rw[<-hF] at t2
        exact t2
       refine qe _ _ _ H4 _ _ (R3.same s4) ?_
       show (me (cEnv ρ js ds[i])).post _ _
       rw[t2]
       intro v H5 s5 rv
       refine⟨by rfl',?_⟩
       obtain⟨ys,e3⟩:∃ys,compM T F (ds.drop (i+1))=.ok ys:=by
        cases e3:compM T F (ds.drop (i+1)) with
        | no=>rw[e3] at er;cases er
        | ex c=>rw[e3] at er;cases er
        | ok ys=>exact⟨ys,rfl⟩
       rw[e3,Res.bind_ok] at er
       cases er
       have rv':Rep H5 (Uni Oc Ob) v y:=Rep.less rv fun b z=>.inl z
       refine nxt (acc ++ [v]) H5 (done ++ [y]) ys ((s3.trans s4).trans s5) ((ra.same ((s3.trans s4).trans s5)).append (.one rv')) (by rw[Ao,Bc];rfl') e3 ?_
       rw[Bd]
       exact eo
   ·have ei:i=ds.length:=by rfl'
    subst ei
    refine .inl ⟨w2 (Ak _),fun p hp => ?_⟩
    rw[BJ] at er
    cases er
    rw[Bn] at eo
    subst eo
    exact k _ _ ((s1.trans s2).trans (Same.new hp)) (xU (s1.trans s2) hp ra)
 ·rw[AJ hlen] at k
  exact k.elim
def qD{C:Ct}{elt iter:Expr}{ifs:List Expr}{sc0 scope:Scope}{N0:List Str}{px pos:Pos}{xt:Str}{fs:List Str}{js:List Nat}{mi:Ev->Res (List D)}{mt:Ev->Res Bool}{me:Ev->Res D}(S:CompScope sc0 scope N0 xt fs js)(h0:C.X.env.scope=sc0)(hN0:C.X.N=N0)(hc:C.X.calm=true)
  (hi:RIc C (.Name xt px) iter mi) (ht:∀A fp s₂ H,RTs (cC C (xt::fs) scope A fp s₂ H js) ifs mt) (he:∀A fp s₂ H,RE (cC C (xt::fs) scope A fp s₂ H js) .cl elt me)
  (hs:autoParam (∀x,foldedSetIterable iter C.X.env x=pure x) DF) :
  RE C .new (.ListComp elt [⟨.Name xt px,iter,ifs,0⟩] scope pos) (eComp mi mt me js):=by
 obtain⟨wi,pi,qi⟩:=hi
 refine⟨_,zP3 (tt:=fun A fp s H=>Classical.choose (ht A fp s H)) (te:=fun A fp s H=>Classical.choose (he A fp s H)) S h0 hN0 hc pi (fun A fp s H=>(AT (ht A fp s H)).1) (fun A fp s H=>(AT (he A fp s H)).1) hs,fun Oc Ob σ H ρ Q R h=>yB2 qi ht he R h⟩
section
variable {C:Ct}{fr:Bool}{e c:Expr}{pos:Pos}{md:Md}{me:Ev->Res D}{mt:Ev->Res Bool}{st:Stmt}{sts rest:List Stmt}{m n:Ev->Res Out}
def sN:Ev->Res Out:=fun ρ=>.ok (.nx ρ)
def sQ(m n:Ev->Res Out):Ev->Res Out:=fun ρ=>(m ρ).bind fun o=>match o with
 | .nx ρ'=>n ρ'
 | .rt d=>.ok (.rt d)
def zA:RSs C fr [] sN:=⟨_,uB,fun Oc Ob σ H ρ E R h=>h σ H Ob R (Same.frm (Same.refl H)) fun b z=>.inl z⟩
def zN(h:RS C fr st m):RSs C fr [st] m:=by
 obtain⟨t,p,q⟩:=h
 exact⟨_,yV p,q⟩
def zP(h:RS C fr st m)(hr:RSs C fr rest n):RSs C fr (st::rest) (sQ m n):=by
 obtain⟨t,p,q⟩:=h
 obtain⟨t',p',q'⟩:=hr
 refine⟨_,zG p p',fun Oc Ob σ H ρ E R h=>q Oc Ob σ H ρ _ R (Res.zQ (Res.zX h) (fun o _ k => ?_) fun _ z=>z)⟩
 cases o with
 | rt d=>exact k
 | nx ρ'=>exact fun σ' H' Ob' R' f s=>q' Oc Ob' σ' H' ρ' E R' (SPost.step f s k)
def sX:Ev->Res Out:=fun _=>.no
def dH:RS C fr st sX:=⟨_,zB8,fun Oc Ob σ H ρ E R h=>h.elim⟩
def sIf(t:Ev->Res Bool)(m n:Ev->Res Out):Ev->Res Out:=fun ρ=>(t ρ).bind fun b=>if b then m ρ else n ρ
def yN{x y:List Stmt}(hc:RT C c mt)(hx:RSs C fr x m)(hy:RSs C fr y n):RS C fr (.If c x y pos) (sIf mt m n):=by
 obtain⟨t,p,q⟩:=hc
 obtain⟨t1,p1,q1⟩:=hx
 obtain⟨t2,p2,q2⟩:=hy
 refine⟨_,kJ p p1 p2,fun Oc Ob σ H ρ E R h=>q Oc Ob σ H ρ _ R (Res.zQ (Res.zX h) (fun b _ k H' s => ?_) fun c z H' s=>z H' (Same.frm s))⟩
 cases b with
 | true=>exact iteT (q1 Oc Ob σ H' ρ E (R.same s) (SPost.same s k))
 | false=>exact iteF (q2 Oc Ob σ H' ρ E (R.same s) (SPost.same s k))
def sR(m:Ev->Res D):Ev->Res Out:=fun ρ=>(m ρ).bind fun d=>.ok (.rt d)
def zB(he:RE C .cl e me):RS C false (.Return (some e) pos) (sR me):=by
 obtain⟨t,p,q⟩:=he
 refine⟨_,wS p,fun Oc Ob σ H ρ E R h=>q Oc Ob σ H ρ _ R (Res.zQ (Res.zX h) (fun d _ k v H' s r => ?_) fun c z H' s=>z H' (Same.frm s))⟩
 exact k v H' (Same.frm s) (Rep.less r fun b z=>.inl z)
def yR2(he:RE C .new e me):RS C true (.Return (some e) pos) (sR me):=by
 obtain⟨t,p,q⟩:=he
 refine⟨_,wS p,fun Oc Ob σ H ρ E R h=>q Oc Ob σ H ρ _ R (Res.zQ (Res.zX h) (fun d _ k v H' s r => ?_) fun c z H' s=>z H' (Same.frm s))⟩
 obtain⟨a,ys,ds,e1,e2,e3,e4,e5⟩:=r
 exact k v H' (Same.frm s) ⟨a,ys,ds,e1,e2,.inl e3,fun z=>R.oh a (.inl z) e3,e4,e5.less fun b z=>z.elim (fun z=>.inl (.inl z)) .inr⟩
def yQ5(i:Nat){x:Str}{p':Pos}(hN:autoParam (C.X.N[i]?=some x) DH)(ho:autoParam (C.om.contains i=true) DH)(hv:autoParam (Vis C.X.env.scope x) DE)(hd:autoParam ((x == ("__debug__":Str))=false) DG)
  (hcd:autoParam ((x == ("__classdict__":Str))=false) DG):RS C true (.Return (some (.Name x p')) pos) (sR (eV i)):=by
 refine⟨_,wS (jJ hN hv hd hcd),fun Oc Ob σ H ρ E R h => ?_⟩
 obtain⟨d,e,k⟩:=hX (Res.zX h)
 obtain⟨v,q,a,ys,ds,e1,e2,e3,e4,e5⟩:=R.own i d e (qV ho)
 exact⟨v,q,k v H (Same.frm (Same.refl H)) ⟨a,ys,ds,e1,e2,.inr e4,R.ap a e4,e3,e5.less fun b z=>z.elim .inl fun z=>.inr (by subst z;exact e4)⟩⟩
def zC{α:Type}{l:List (Option α)}{i j:Nat}{v d:α}(h:(l.set i (some v))[j]?=some (some d)):(j=i/\d=v)\/(j≠i/\l[j]?=some (some d)):=by
 by_cases e:i=j
 ·subst e
  rw[List.getElem?_set_self'] at h
  cases q:l[i]? with
  | none=>rw[q] at h;cases h
  | some z=>rw[q] at h;cases h;exact .inl ⟨rfl,rfl⟩
 ·rw[AZ e] at h
  exact .inr ⟨fun z=>e z.symm,h⟩
def hR{α:Type}{l:List (Option α)}{i j:Nat}{v d:α}(h:(l.set i (some v))[j]?=some (some d)):j<l.length:=by
 have:=(Ac.mp h).1
 simpa using this
def Rel.set{Oc:Wd}{Ob:Addr->Prop}{om ln:List Nat}{σ:St}{H:Hp}{ρ:Ev}{i:Nat}{v:V}{d:D}(R:Rel Oc Ob om ln σ H ρ)(ho:i∉om)(hl:i∉ln)(r:Rep H (Uni Oc Ob) v d):Rel Oc Ob om ln (σ.set i (some v)) H (ρ.set i (some d)) where
 len:=by rw[Bt,Bt];exact R.len
 val:=fun j d' e h1 h2=>by
  have hj:=hR e
  rcases zC e with ⟨rfl,rfl⟩ | ⟨ne,e⟩
  ·exact⟨v,by rw[Bv (by rw[R.len];exact hj)],r⟩
  ·obtain⟨w,q,k⟩:=R.val j d' e h1 h2
   exact⟨w,by rw[AZ (fun z=>ne z.symm)];exact q,k⟩
 own:=fun j d' e h1=>by
  rcases zC e with ⟨rfl,rfl⟩ | ⟨ne,e⟩
  ·exact absurd h1 ho
  ·obtain⟨w,q,k⟩:=R.own j d' e h1
   exact⟨w,by rw[AZ (fun z=>ne z.symm)];exact q,k⟩
 lnt:=fun j d' e h1 h2=>by
  rcases zC e with ⟨rfl,rfl⟩ | ⟨ne,e⟩
  ·exact absurd h2 hl
  ·obtain⟨w,q,k⟩:=R.lnt j d' e h1 h2
   exact⟨w,by rw[AZ (fun z=>ne z.symm)];exact q,k⟩
 inj:=fun j k dj dk a ej ek hj hk qj qk=>by
  rcases zC ej with ⟨rfl,rfl⟩ | ⟨nj,ej⟩
  ·exact absurd hj ho
  ·rcases zC ek with ⟨rfl,rfl⟩ | ⟨nk,ek⟩
   ·exact absurd hk ho
   ·rw[AZ (fun z=>nj z.symm)] at qj
    rw[AZ (fun z=>nk z.symm)] at qk
    exact R.inj j k dj dk a ej ek hj hk qj qk
 oh:=R.oh
 ap:=R.ap
def Rel.setO{Oc:Wd}{Ob:Addr->Prop}{om ln:List Nat}{σ:St}{H H':Hp}{ρ:Ev}{i:Nat}{v:V}{d:D}(R:Rel Oc Ob om ln σ H ρ)(s:Same H H')(ho:i∈om)(r:VR .new Oc Ob H H' v d):∃a,H a=none/\Rel Oc (fun b=>Ob b\/b=a) om ln (σ.set i (some v)) H' (ρ.set i (some d)):=by
 obtain⟨a,ys,ds,rfl,rfl,e3,e4,e5⟩:=r
 have up:∀{vs:List V}{es:List D},Reps H (Uni Oc Ob) vs es->Reps H' (Uni Oc fun b=>Ob b\/b=a) vs es:=fun r=>r.keep (fun b o e _=>s b o e) fun b n z=>z.elim .inl fun z=>z.elim .inr fun z=>by subst z;exact absurd e3 n
 have up1:∀{v:V}{e:D},Rep H (Uni Oc Ob) v e->Rep H' (Uni Oc fun b=>Ob b\/b=a) v e:=fun r=>r.keep (fun b o e _=>s b o e) fun b n z=>z.elim .inl fun z=>z.elim .inr fun z=>by subst z;exact absurd e3 n
 refine⟨a,e3,?_,fun j d' e h1 h2 => ?_,fun j d' e h1 => ?_,fun j d' e h1 h2 => ?_,fun j k dj dk b ej ek hj hk qj qk => ?_,fun b z => ?_,fun b z => ?_⟩
 ·rw[Bt,Bt];exact R.len
 ·rcases zC e with ⟨rfl,rfl⟩ | ⟨ne,e⟩
  ·exact absurd ho h1
  ·obtain⟨w,q,k⟩:=R.val j d' e h1 h2
   exact⟨w,by rw[AZ (fun z=>ne z.symm)];exact q,up1 k⟩
 ·have hj:=hR e
  rcases zC e with ⟨rfl,rfl⟩ | ⟨ne,e⟩
  ·refine⟨.ref a,by rw[Bv (by rw[R.len];exact hj)],a,ys,ds,rfl,rfl,e4,.inr rfl,e5.less fun b z=>z.elim (fun z=>.inl (.inl z)) fun z=>z.elim (fun z=>.inl (.inr z)) .inr⟩
  ·obtain⟨w,q,b,zs,fs,z1,z2,z3,z4,z5⟩:=R.own j d' e h1
   exact⟨w,by rw[AZ (fun z=>ne z.symm)];exact q,b,zs,fs,z1,z2,s _ _ z3,.inl z4,up z5⟩
 ·rcases zC e with ⟨rfl,rfl⟩ | ⟨ne,e⟩
  ·exact absurd ho h1
  ·obtain⟨w,q,zs,fs,z1,z2,z3,z4,z5⟩:=R.lnt j d' e h1 h2
   exact⟨w,by rw[AZ (fun z=>ne z.symm)];exact q,zs,fs,z1,z2,s _ _ z3,z4,up z5⟩
 ·have lj:=hR ej
  have lk:=hR ek
  rcases zC ej with ⟨rfl,rfl⟩ | ⟨nj,ej'⟩
  ·rw[Bv (by rw[R.len];exact lj)] at qj
   cases qj
   rcases zC ek with ⟨rfl,rfl⟩ | ⟨nk,ek'⟩
   ·rfl
   ·rw[AZ (fun z=>nk z.symm)] at qk
    obtain⟨w,q,b,zs,fs,z1,z2,z3,z4,z5⟩:=R.own k dk ek' hk
    rw[qk] at q
    cases q
    cases z1
    rw[e3] at z3
    cases z3
  ·rw[AZ (fun z=>nj z.symm)] at qj
   rcases zC ek with ⟨rfl,rfl⟩ | ⟨nk,ek'⟩
   ·rw[Bv (by rw[R.len];exact lk)] at qk
    cases qk
    obtain⟨w,q,b,zs,fs,z1,z2,z3,z4,z5⟩:=R.own j dj ej' hj
    rw[qj] at q
    cases q
    cases z1
    rw[e3] at z3
    cases z3
   ·rw[AZ (fun z=>nk z.symm)] at qk
    exact R.inj j k dj dk b ej' ek' hj hk qj qk
 ·rcases z with z | z | rfl
  ·exact Same.ne s (R.oh b (.inl z))
  ·exact Same.ne s (R.oh b (.inr z))
  ·rw[e4];exact fun z=>nomatch z
 ·rcases z with z | rfl
  ·exact R.ap b z
  ·exact fun z=>R.oh b (.inl z) e3
def sS(i:Nat)(m:Ev->Res D):Ev->Res Out:=fun ρ=>(m ρ).bind fun d=>.ok (.nx (ρ.set i (some d)))
def yI(i:Nat){x:Str}{p':Pos}(nd:C.X.N.Nodup)(he:RE C .cl e me)(hi:autoParam (C.X.N[i]?=some x) DH)(ho:autoParam (C.om.contains i=false) DH)(hl:autoParam (C.ln.contains i=false) DH)(hx:autoParam (Loc C.X.env.scope x) autoK12._auto_1)
  (hs:autoParam (swapsWith e (some (.Name x p')) pos.line C.X.env=pure false) DH) (hf:autoParam (C.X.fn x=true\/C.X.env.scope.names.lookup x=some .local) autoK13._auto_1):RS C fr (.Assign [.Name x p'] e pos) (sS i me):=by
 obtain⟨t,p,q⟩:=he
 refine⟨_,yX nd hi hx p hs hf,fun Oc Ob σ H ρ E R h=>q Oc Ob σ H ρ _ R (Res.zQ (Res.zX h) (fun d _ k v H' s r => ?_) fun c z H' s=>z H' (Same.frm s))⟩
 exact k _ H' Ob ((R.same s).set (xB ho) (xB hl) r) (Same.frm s) fun b z=>.inl z
def wD(i:Nat){x:Str}{p':Pos}(nd:C.X.N.Nodup)(he:RE C .new e me)(hi:autoParam (C.X.N[i]?=some x) DH)(ho:autoParam (C.om.contains i=true) DH)(hx:autoParam (Loc C.X.env.scope x) autoK12._auto_1)
  (hs:autoParam (swapsWith e (some (.Name x p')) pos.line C.X.env=pure false) DH) (hf:autoParam (C.X.fn x=true\/C.X.env.scope.names.lookup x=some .local) autoK13._auto_1):RS C fr (.Assign [.Name x p'] e pos) (sS i me):=by
 obtain⟨t,p,q⟩:=he
 refine⟨_,yX nd hi hx p hs hf,fun Oc Ob σ H ρ E R h=>q Oc Ob σ H ρ _ R (Res.zQ (Res.zX h) (fun d _ k v H' s r => ?_) fun c z H' s=>z H' (Same.frm s))⟩
 obtain⟨a,ha,R'⟩:=R.setO s (qV ho) r
 exact k _ H' _ R' (Same.frm s) fun b z=>z.elim .inl fun z=>.inr (by subst z;exact ha)
def sE(m:Ev->Res D):Ev->Res Out:=fun ρ=>(m ρ).bind fun _=>.ok (.nx ρ)
def kB(he:RE C md e me)(hs:autoParam (swapsWith e none pos.line C.X.env=pure false) DH):RS C fr (.Expr e pos) (sE me):=by
 obtain⟨t,p,q⟩:=he
 refine⟨_,wR p hs,fun Oc Ob σ H ρ E R h=>q Oc Ob σ H ρ _ R (Res.zQ (Res.zX h) (fun d _ k v H' s r => ?_) fun c z H' s=>z H' (Same.frm s))⟩
 exact k σ H' Ob (R.same s) (Same.frm s) fun b z=>.inl z
def Rel.write{Oc:Wd}{Ob:Addr->Prop}{om ln:List Nat}{σ:St}{H:Hp}{ρ:Ev}{i:Nat}{a:Addr}{ys ys':List V}{d:D}{ds':List D}(R:Rel Oc Ob om ln σ H ρ)(ho:i∈om)(ed:ρ[i]?=some (some d))(es:σ[i]?=some (some (.ref a)))(ha:H a=some (.lst ys))(hb:Ob a)
  (r:Reps H (Uni Oc Ob) ys' ds'):Rel Oc Ob om ln σ (upd H a (.lst ys')) (ρ.set i (some (.list ds'))):=by
 have kp:∀b o,H b=some o->¬Uni Oc Ob b->upd H a (.lst ys') b=some o:=fun b o e n=>by
  rw[zY (fun z=>n (by subst z;exact .inr hb))];exact e
 have up:∀{vs:List V}{es:List D},Reps H (Uni Oc Ob) vs es->Reps (upd H a (.lst ys')) (Uni Oc Ob) vs es:=fun r=>r.keep kp fun b n z=>z
 have up1:∀{v:V}{e:D},Rep H (Uni Oc Ob) v e->Rep (upd H a (.lst ys')) (Uni Oc Ob) v e:=fun r=>r.keep kp fun b n z=>z
 have li:i<σ.length:=(Ac.mp es).1
 refine⟨by rw[Bt];exact R.len,fun j d' e h1 h2 => ?_,fun j d' e h1 => ?_,fun j d' e h1 h2 => ?_,fun j k dj dk b ej ek hj hk qj qk => ?_,fun b z => ?_,R.ap⟩
 ·rcases zC e with ⟨rfl,rfl⟩ | ⟨ne,e⟩
  ·exact absurd ho h1
  ·obtain⟨w,q,k⟩:=R.val j d' e h1 h2
   exact⟨w,q,up1 k⟩
 ·rcases zC e with ⟨rfl,rfl⟩ | ⟨ne,e⟩
  ·exact⟨.ref a,es,a,ys',ds',rfl,rfl,zS,hb,up r⟩
  ·obtain⟨w,q,b,zs,fs,rfl,z2,z3,z4,z5⟩:=R.own j d' e h1
   have nb:b≠a:=fun z=>by subst z;exact ne (R.inj j i d' d b e ed h1 ho q es)
   exact⟨_,q,b,zs,fs,rfl,z2,by rw[zY nb];exact z3,z4,up z5⟩
 ·rcases zC e with ⟨rfl,rfl⟩ | ⟨ne,e⟩
  ·exact absurd ho h1
  ·obtain⟨w,q,zs,fs,z1,z2,z3,z4,z5⟩:=R.lnt j d' e h1 h2
   have nb:Oc.la j≠a:=fun z=>R.ap a hb (z▸z4)
   exact⟨_,q,zs,fs,z1,z2,by rw[zY nb];exact z3,z4,up z5⟩
 ·have get:∀j dj,(ρ.set i (some (.list ds')))[j]?=some (some dj)->∃d,ρ[j]?=some (some d):=fun j dj e=>by
   rcases zC e with ⟨rfl,rfl⟩ | ⟨ne,e⟩
   ·exact⟨d,ed⟩
   ·exact⟨dj,e⟩
  obtain⟨d1,e1⟩:=get j dj ej
  obtain⟨d2,e2⟩:=get k dk ek
  exact R.inj j k d1 d2 b e1 e2 hj hk qj qk
 ·by_cases h:b=a
  ·subst h;rw[zS];exact fun z=>nomatch z
  ·rw[zY h];exact R.oh b z
def PrM(r:V->List V->Hp->VK->Prop)(g:List D->List D->Option (List D)):Prop :=
 ∀(O:Addr->Prop) (H:Hp) (l:Addr) (xs vs:List V) (xd ad ds':List D) (Q:VK),H l=some (.lst xs)->Reps H O xs xd->Reps H O vs ad->g xd ad=some ds'->(∀xs',Reps H O xs' ds'->Q .non (upd H l (.lst xs')))->r (.ref l) vs H Q
def lstD:D->Option (List D)
 | .list ds=>some ds
 | _=>none
def sM(i:Nat)(g:List D->List D->Option (List D))(m:Ev->Res (List D)):Ev->Res Out:=fun ρ=>(eV i ρ).bind fun d=>(Res.lft (lstD d)).bind fun xd=>(m ρ).bind fun ad=>(Res.lft (g xd ad)).bind fun ds=>.ok (.nx (ρ.set i (some (.list ds))))
def kY{d:D}{ds:List D}(h:lstD d=some ds):d=.list ds:=by
 cases d <;> simp[lstD] at h ⊢
 exact h
def qM(i:Nat){x name:Str}{id:String}{a:Expr}{es:List Expr}{ms:Ev->Res (List D)}{p' apos cpos:Pos}{r:V->List V->Hp->VK->Prop}{g:List D->List D->Option (List D)}(slot:Slot "list" name id)(hty:typeOf (.builtin id)=pure (.type "method_descriptor"))(hm:MtR C.X id r)(hp:PrM r g)(ha:RArg C true (a::es) ms)
  (hN:autoParam (C.X.N[i]?=some x) DH) (ho:autoParam (C.om.contains i=true) DH) (hv:autoParam (Vis C.X.env.scope x) DE) (hd:autoParam ((x == ("__debug__":Str))=false) DG) (hcd:autoParam ((x == ("__classdict__":Str))=false) DG)
  (hbase:autoParam (attributeBase (.Name x p') name C.X.env (eval (.Name x p') C.X.env)=eval (.Name x p') C.X.env) DH)
  (hfew:((backTo cpos (starEach (a::es) C.X.env)).all (fun x=>!x.1)&&(backToKw cpos (keywordEach [] C.X.env)).all (fun x=>x.1.isSome)
  &&decide ((a::es).length+([]:List Keyword).length+(if ([]:List Keyword).isEmpty then 0 else 1)<30))=true:=by rfl)
  (hline:autoParam ((apos.endLine == cpos.line)=true) DH) (hs:autoParam (starEach (a::es) C.X.env=(false,eval a C.X.env)::starEach es C.X.env) DH) (hplain:autoParam ((backTo cpos (starEach es C.X.env)).any (·.1)=false) DH)
  (hsw:autoParam (swapsWith (.Call (.Attribute (.Name x p') name apos) (a::es) [] cpos) none pos.line C.X.env=pure false) DH) :
  RS C fr (.Expr (.Call (.Attribute (.Name x p') name apos) (a::es) [] cpos) pos) (sM i g ms):=by
 obtain⟨t,p,q⟩:=ha
 refine⟨_,wR (wN AY slot hty hm (jJ hN hv hd hcd) p hbase hfew hline hs hplain) hsw,fun Oc Ob σ H ρ E R h => ?_⟩
 obtain⟨d,ed,k⟩:=hX (Res.zX h)
 obtain⟨xd,ex,k⟩:=Res.zD (Res.zX k)
 obtain rfl:=kY ex
 obtain⟨v,qv,l,ys,ds,rfl,e2,e3,e4,e5⟩:=R.own i _ ed (qV ho)
 cases e2
 refine⟨_,qv,.inl ⟨rfl,_,SqL.of e3⟩,q Oc Ob σ H ρ _ R (Res.zQ (Res.zX k) (fun ad _ k vs H' s r' => ?_) fun c z H' s=>z H' (Same.frm s))⟩
 obtain⟨ds',eg,k⟩:=Res.zD (Res.zX k)
 refine hp _ H' l ys vs xd ad ds' _ (s _ _ e3) (e5.same s) r' eg fun xs' rx => ?_
 refine k _ _ Ob ((R.same s).write (qV ho) ed qv (s _ _ e3) e4 rx) (fun b o e n => ?_) fun b z=>.inl z
 rw[zY (fun z=>n (by subst z;exact e4))]
 exact s b o e
end
def RG(C:Ct)(tg:Expr)(g:D->Ev->Option Ev):Prop :=
 ∃t,PG C.X tg t/\∀(Oc:Wd) (Ob:Addr->Prop) (σ:St) (H:Hp) (ρ ρ':Ev) (v:V) (d:D) (Q:St->Hp->Prop),Rel Oc Ob C.om C.ln σ H ρ->Rep H (Uni Oc Ob) v d->g d ρ=some ρ'->(∀σ',Rel Oc Ob C.om C.ln σ' H ρ'->Q σ' H)->t v σ H Q
def gN(i:Nat):D->Ev->Option Ev:=fun d ρ=>some (ρ.set i (some d))
section
variable {C:Ct}{fr:Bool}{e c:Expr}{es:List Expr}{pos:Pos}{md:Md}{me:Ev->Res D}{mt:Ev->Res Bool}{st:Stmt}{body sts rest:List Stmt}{m n:Ev->Res Out}{mi:Ev->Res (List D)}{g:D->Ev->Option Ev}
def yD(i:Nat){x:Str}(nd:C.X.N.Nodup)(hi:autoParam (C.X.N[i]?=some x) DH)(ho:autoParam (C.om.contains i=false) DH)(hl:autoParam (C.ln.contains i=false) DH)(hx:autoParam (Loc C.X.env.scope x) autoK12._auto_1)
  (hf:autoParam (C.X.fn x=true\/C.X.env.scope.names.lookup x=some .local) autoK13._auto_1):RG C (.Name x pos) (gN i):=by
 refine⟨_,vA nd hi hx hf,fun Oc Ob σ H ρ ρ' v d Q R r e k => ?_⟩
 cases e
 exact k _ (R.set (xB ho) (xB hl) r)
def RGs(C:Ct)(ts:List Expr)(g:List D->Ev->Option Ev):Prop :=
 ∃t,PGs C.X ts t/\∀(Oc:Wd) (Ob:Addr->Prop) (σ:St) (H:Hp) (ρ ρ':Ev) (vs:List V) (ds:List D) (Q:St->Hp->Prop),Rel Oc Ob C.om C.ln σ H ρ->Reps H (Uni Oc Ob) vs ds->g ds ρ=some ρ'->(∀σ',Rel Oc Ob C.om C.ln σ' H ρ'->Q σ' H)->t vs σ H Q
def gsN:List D->Ev->Option Ev
 | [],ρ=>some ρ
 | _,_=>none
def gsC(g:D->Ev->Option Ev)(h:List D->Ev->Option Ev):List D->Ev->Option Ev
 | d::ds,ρ=>(g d ρ).bind fun ρ1=>h ds ρ1
 | [],_=>none
def dP:RGs C [] gsN:=by
 refine⟨_,zO5,fun Oc Ob σ H ρ ρ' vs ds Q R r e k => ?_⟩
 cases r with
 | nil=>cases e;exact⟨rfl,k σ R⟩
 | cons=>cases e
def wW{h:List D->Ev->Option Ev}(h1:RG C e g)(h2:RGs C es h)(hs:autoParam ((assignEach (e::es) C.X.env).map (·.2)=assign e C.X.env::(assignEach es C.X.env).map (·.2)) DH):RGs C (e::es) (gsC g h):=by
 obtain⟨t,p,q⟩:=h1
 obtain⟨t',p',q'⟩:=h2
 refine⟨_,gM p p' hs,fun Oc Ob σ H ρ ρ' vs ds Q R r e k => ?_⟩
 cases r with
 | nil=>cases e
 | cons r rs =>
  obtain⟨ρ1,e1,e2⟩:=AR.mp e
  exact⟨_,_,rfl,q Oc Ob σ H ρ ρ1 _ _ _ R r e1 fun σ' R'=>q' Oc Ob σ' H ρ1 ρ' _ _ Q R' rs e2 k⟩
def gT(n:Nat)(h:List D->Ev->Option Ev):D->Ev->Option Ev
 | .tuple ds,ρ=>if ds.length=n then h ds ρ else none
 | _,_=>none
def bS{k n:Nat}{h:List D->Ev->Option Ev}(hc:C.X.calm=true)(hg:RGs C es h)(hn:autoParam ((assignEach es C.X.env).length=n) DH)(hst:autoParam ((assignEach es C.X.env).findIdx? (·.1)=none) DH):RG C (.Tuple es k pos) (gT n h):=by
 obtain⟨t,p,q⟩:=hg
 refine⟨_,yZ1 hc p hn hst,fun Oc Ob σ H ρ ρ' v d Q R r e k => ?_⟩
 cases r with
 | tup rd no rs =>
  unfold gT at e
  simp only at e
  split at e
  ·rename_i hl
   exact⟨_,_,rfl,.inl rd,by rw[rs.length];exact hl,q Oc Ob σ H ρ ρ' _ _ Q R rs e k⟩
  ·cases e
 | _=>cases e
def xF5{tg:Expr}(he:RE C .cl e me)(hg:RG C tg g)(hs:autoParam (swapsWithSole [tg] e pos.line C.X.env=pure false) DH)(hw:autoParam (swappedStores [tg] e C.X.env=pure none) DH)
  (h1:autoParam ((assignEach [tg] C.X.env).map (·.2)=[assign tg C.X.env]) DH):RS C fr (.Assign [tg] e pos) (fun ρ=>(me ρ).bind fun d=>(Res.lft (g d ρ)).bind fun ρ'=>.ok (.nx ρ')):=by
 obtain⟨t,p,q⟩:=he
 obtain⟨t',p',q'⟩:=hg
 refine⟨_,zV2 p p' hs hw h1,fun Oc Ob σ H ρ E R h=>q Oc Ob σ H ρ _ R (Res.zQ (Res.zX h) (fun d _ k v H' s r => ?_) fun c z H' s=>z H' (Same.frm s))⟩
 obtain⟨ρ',e,k⟩:=Res.zD (Res.zX k)
 exact q' Oc Ob σ H' ρ ρ' v d _ (R.same s) r e fun σ' R'=>k σ' H' Ob R' (Same.frm s) fun b z=>.inl z
def forM(g:D->Ev->Option Ev)(b:Ev->Res Out):List D->Ev->Res Out
 | [],ρ=>.ok (.nx ρ)
 | x::xs,ρ=>(Res.lft (g x ρ)).bind fun ρ1=>(b ρ1).bind fun o=>match o with
  | .nx ρ2=>forM g b xs ρ2
  | .rt d=>.ok (.rt d)
def sF(mi:Ev->Res (List D))(g:D->Ev->Option Ev)(b:Ev->Res Out):Ev->Res Out:=fun ρ=>(mi ρ).bind fun ds=>forM g b ds ρ
def jD{tg iter:Expr}(hi:RI C tg iter mi)(hg:RG C tg g)(hb:RSs C fr body m)(hp:autoParam (PassesOwn (model C.X.prog C.X.w) C.X.A C.X.env C.X.xe) autoK14._auto_1)(hc:autoParam (C.X.calm=true) DH)
  (hs:autoParam (∀x,foldedSetIterable iter C.X.env x=pure x) DF):RS C fr (.For tg iter body [] pos) (sF mi g m):=by
 obtain⟨wi,pi,qi⟩:=hi
 obtain⟨tg',pg,qg⟩:=hg
 obtain⟨tb,pb,qb⟩:=hb
 refine⟨_,cE hp hc pi pg pb hs,fun Oc Ob σ H ρ E R h=>qi Oc Ob σ H ρ _ R (Res.zQ (Res.zX h) (fun ds _ k J H1 s1 wk => ?_) fun c z H' s=>z H' (Same.frm s))⟩
 refine⟨fun i mm σ' H'=>mm=ds.length-i/\i<=ds.length/\∃ρi Obi,Rel Oc Obi C.om C.ln σ' H' ρi/\Frm Ob H1 H'/\(∀b,Obi b->Ob b\/H1 b=none)/\SPost C fr Oc Obi H' E (forM g m (ds.drop i) ρi),
  ⟨_,rfl,AQ _,ρ,Ob,R.same s1,Same.frm (Same.refl _),fun b z=>.inl z,SPost.same s1 k⟩,?_⟩
 rintro i mm σ2 H2 ⟨rfl,hi,ρi,Obi,R2,f2,sb2,k2⟩
 obtain⟨w1,w2⟩:=wk H2 Obi f2 sb2 i
 by_cases hlt:i<ds.length
 ·obtain⟨go,yl⟩:=w1 ds[i] (Ab hlt)
  have ed:ds.drop i=ds[i]::ds.drop (i+1):=BB hlt
  rw[ed,forM] at k2
  obtain⟨ρ1,e1,k2⟩:=Res.zD (Res.zX k2)
  refine .inr ⟨go,fun σ' H'=>∃m',m'<ds.length-i/\(m'=ds.length-(i+1)/\i+1<=ds.length/\∃ρi Obi,Rel Oc Obi C.om C.ln σ' H' ρi/\Frm Ob H1 H'/\(∀b,Obi b->Ob b\/H1 b=none)/\SPost C fr Oc Obi H' E (forM g m (ds.drop (i+1)) ρi)),fun _ _ z=>z,fun x H3 hy => ?_⟩
  obtain⟨s3,rx⟩:=yl x H3 hy
  refine qg Oc Obi σ2 H3 ρi ρ1 x _ _ (R2.same s3) rx e1 fun σ3 R3 => ?_
  have k3:=SPost.same s3 (show SPost C fr Oc Obi H2 E _ from k2)
  refine qb Oc Obi σ3 H3 ρ1 _ R3 (Res.zQ (Res.zX k3) (fun o _ k4 => ?_) fun _ z=>z)
  cases o with
  | rt d=>exact k4
  | nx ρ2 =>
   intro σ4 H4 Ob4 R4 f4 sb4
   have f3:Frm Ob H1 H3:=fun b o e n=>s3 b o (f2 b o e n)
   refine⟨_,by rfl',rfl,hlt,ρ2,Ob4,R4,f3.trans sb2 f4,fun b z=>(sb4 b z).elim (sb2 b) fun z=>f3.none z,SPost.step f4 sb4 k4⟩
 ·have ei:i=ds.length:=by rfl'
  subst ei
  rw[BJ] at k2
  exact .inl ⟨w2 (Ak _),k2 σ2 H2 Obi R2 (Same.frm (Same.refl _)) fun b z=>.inl z⟩
def whM(t:Ev->Res Bool)(b:Ev->Res Out):Nat->Ev->Res Out
 | 0,_=>.no
 | k+1,ρ=>(t ρ).bind fun c=>if c then (b ρ).bind fun o=>match o with
  | .nx ρ'=>whM t b k ρ'
  | .rt d=>.ok (.rt d) else .ok (.nx ρ)
def sW(fuel:Nat)(t:Ev->Res Bool)(b:Ev->Res Out):Ev->Res Out:=fun ρ=>whM t b fuel ρ
def zD9(fuel:Nat)(hc:RT C c mt)(hb:RSs C fr body m)(hp:autoParam (PassesOwn (model C.X.prog C.X.w) C.X.A C.X.env C.X.xe) autoK14._auto_1):RS C fr (.While c body [] pos) (sW fuel mt m):=by
 obtain⟨t,p,q⟩:=hc
 obtain⟨tb,pb,qb⟩:=hb
 refine⟨_,qK hp p pb,fun Oc Ob σ H ρ E R h => ?_⟩
 refine⟨fun mm σ' H'=>∃ρi Obi,Rel Oc Obi C.om C.ln σ' H' ρi/\Frm Ob H H'/\(∀b,Obi b->Ob b\/H b=none)/\SPost C fr Oc Obi H' E (whM mt m mm ρi),⟨fuel,ρ,Ob,R,Same.frm (Same.refl _),fun b z=>.inl z,h⟩,?_⟩
 rintro mm σ2 H2 ⟨ρi,Obi,R2,f2,sb2,k2⟩
 cases mm with
 | zero=>exact k2.elim
 | succ mm =>
  rw[whM] at k2
  refine q Oc Obi σ2 H2 ρi _ R2 (Res.zQ (Res.zX k2) (fun b _ k3 H3 s3 => ?_) fun c z H' s=>z H' (Same.frm s))
  cases b with
  | false=>exact iteF (k3 σ2 H3 Obi (R2.same s3) (Same.frm s3) fun b z=>.inl z)
  | true =>
   refine iteT ⟨fun σ' H'=>∃m',m'<mm+1/\∃ρi Obi,Rel Oc Obi C.om C.ln σ' H' ρi/\Frm Ob H H'/\(∀b,Obi b->Ob b\/H b=none)/\SPost C fr Oc Obi H' E (whM mt m m' ρi),fun _ _ z=>z,?_⟩
   have k3:=SPost.same s3 (show SPost C fr Oc Obi H2 E _ from k3)
   refine qb Oc Obi σ2 H3 ρi _ (R2.same s3) (Res.zQ (Res.zX k3) (fun o _ k4 => ?_) fun _ z=>z)
   cases o with
   | rt d=>exact k4
   | nx ρ2 =>
    intro σ4 H4 Ob4 R4 f4 sb4
    have f3:Frm Ob H H3:=fun b o e n=>s3 b o (f2 b o e n)
    exact⟨mm,BR _,ρ2,Ob4,R4,f3.trans sb2 f4,fun b z=>(sb4 b z).elim (sb2 b) fun z=>f3.none z,SPost.step f4 sb4 k4⟩
def setD(ds:List D)(i v:D):Option (List D):=match i with
 | .int k=>(ixN ds.length k).map fun j=>ds.set j v
 | _=>none
def sI(i:Nat)(mk me:Ev->Res D):Ev->Res Out:=fun ρ=>(me ρ).bind fun v=>(eV i ρ).bind fun d=>(Res.lft (lstD d)).bind fun xd=>(mk ρ).bind fun k=>(Res.lft (setD xd k v)).bind fun ds=>.ok (.nx (ρ.set i (some (.list ds))))
def yU4(i:Nat){x:Str}{p' p2:Pos}{k:Expr}{mk:Ev->Res D}(he:RE C .cl e me)(hk:RE C md k mk)(hN:autoParam (C.X.N[i]?=some x) DH)(ho:autoParam (C.om.contains i=true) DH)(hv:autoParam (Vis C.X.env.scope x) DE)(hd:autoParam ((x == ("__debug__":Str))=false) DG)
  (hcd:autoParam ((x == ("__classdict__":Str))=false) DG)
  (ha:∀v,assign (.Subscript (.Name x p') k p2) C.X.env v=(do
   let ov <-holding [v] (eval (.Name x p') C.X.env)
   let iv <-holding [v,ov] (eval k C.X.env)
   standAt p2
   holding [v,ov,iv] (setItem ov iv v)
   release [v,ov,iv] []):=by intro _;rfl)
  (hs:autoParam (swapsWithSole [.Subscript (.Name x p') k p2] e pos.line C.X.env=pure false) DH) (hw:autoParam (swappedStores [.Subscript (.Name x p') k p2] e C.X.env=pure none) DH)
  (h1:autoParam ((assignEach [.Subscript (.Name x p') k p2] C.X.env).map (·.2)=[assign (.Subscript (.Name x p') k p2) C.X.env]) DH):RS C fr (.Assign [.Subscript (.Name x p') k p2] e pos) (sI i mk me):=by
 obtain⟨t,p,q⟩:=he
 obtain⟨t',p',q'⟩:=hk
 refine⟨_,zV2 p (zF9 (jJ hN hv hd hcd) p' zW6 ha) hs hw h1,fun Oc Ob σ H ρ E R h=>q Oc Ob σ H ρ _ R (Res.zQ (Res.zX h) (fun dv _ k v H' s r => ?_) fun c z H' s=>z H' (Same.frm s))⟩
 obtain⟨d,ed,k⟩:=hX (Res.zX k)
 obtain⟨xd,ex,k⟩:=Res.zD (Res.zX k)
 obtain rfl:=kY ex
 obtain⟨w',qv,l,ys,ds,rfl,e2,e3,e4,e5⟩:=(R.same s).own i _ ed (qV ho)
 cases e2
 refine⟨_,qv,q' Oc Ob σ H' ρ _ (R.same s) (Res.zQ (Res.zX k) (fun dk _ k kv H2 s2 rk => ?_) fun c z H2 s2=>z H2 (Same.frm (s.trans s2)))⟩
 obtain⟨ds',eg,k⟩:=Res.zD (Res.zX k)
 unfold setD at eg
 split at eg
 ·obtain⟨j,ej,rfl⟩:=Ar.mp eg
  obtain rfl:=(rk.va (R.same s).oh).int
  have hl:=e5.length
  refine⟨l,ys,_,j,rfl,rfl,s2 _ _ e3,by rw[hl];exact ej,?_⟩
  refine k _ _ Ob ((R.same (s.trans s2)).write (qV ho) ed qv (s2 _ _ e3) e4 (Reps.set (Rep.same r s2) j (e5.same s2))) (fun b o e n => ?_) fun b z=>.inl z
  rw[zY (fun z=>n (by subst z;exact e4))]
  exact s2 b o (s b o e)
 ·cases eg
def sV(i j:Nat):Ev->Res Out:=fun ρ=>(eV j ρ).bind fun d=>.ok (.nx ((ρ.set i (some d)).set j none))
end
end L2.L3
namespace L2
open PySem PySem.Spec PyProof.Rows
structure Has(K:KFr)(mg:Str->Option Value)(x:Str)(st:Stmt)(f:Addr)(fd:FuncData)(ps:List Str):Prop where
 F:Fun K x x st f fd
 b:Binds K fd ps []
 m:mg x=some (.ref f)
def gW{K:KFr}{h:Heap}{mg:Str->Option Value}{x:Str}{st:Stmt}{f:Addr}{oc:Value}{od an:Option Addr}{osl:Array (Option Value)}{kV doc pm cdv ct:Value}{ps:List Str}(X:K.In h)(G:h.Ns mainGlobals mg)
  (a:PySem.W.nsIn K mainGlobals x=some (some (.ref f))) (l:K.lookup f=some ⟨oc,od,.func (PySem.W.fnOf x x (defArgs st) (defBody st) (zU st) .none kV doc pm an cdv ct),osl⟩)
  (c:PySem.W.codeIn K cdv x=true) (k:PySem.W.keepIn K (.ref f)=true)
  (hb:∀(kV doc pm:Value) (an:Option Addr) (cdv ct:Value) (us:List Value),us.length=ps.length->bindArgs (PySem.W.fnOf x x (defArgs st) (defBody st) (zU st) .none kV doc pm an cdv ct) ⟨us,[]⟩=pure (ps.zip us)) :
  Has K mg x st f (PySem.W.fnOf x x (defArgs st) (defBody st) (zU st) .none kV doc pm an cdv ct) ps :=
 have F:=xF7 (st:=st) l c k
 ⟨F,F.binds hb,Ci X G a⟩
end L2
namespace L2.L3
open PySem PySem.Spec PyProof.Rows
variable [CN]
def CallOk:Bool->(Addr->Prop)->Hp->Hp->V->D->Prop
 | true,O,H,H',v,d=>∃a ys ds,v=.ref a/\d=.list ds/\H a=none/\H' a=some (.lst ys)/\Reps H' (fun b=>O b\/b=a) ys ds
 | false,O,_,H',v,d=>Rep H' O v d
def spF(fr:Bool)(F:List D->Res D):Sp:=fun vs H Q _=>∃(ds:List D) (O:Addr->Prop),(∀a,O a->H a≠none)/\Reps H O vs ds/\(F ds).post (fun d=>∀v H',Same H H'->CallOk fr O H H' v d->Q v H') (fun _=>False)
def fin(fr:Bool):Out->Res D
 | .rt d=>.ok d
 | .nx _=>if fr then .no else .ok .none
def runF(fr:Bool)(p n:Nat)(m:Ev->Res Out):List D->Res D:=fun ds=>if ds.length=p then (m (ds.map some++List.replicate (n-p) none)).bind (fin fr) else .no
def xA{α:Type}{ds:List α}{k i:Nat}{d:α}(h:(ds.map some++List.replicate k none)[i]?=some (some d)):ds[i]?=some d:=by
 by_cases hi:i<ds.length
 ·rw[Bl (by simpa using hi),Ai] at h
  cases e:ds[i]? with
  | none=>rw[e] at h;cases h
  | some z=>rw[e] at h;cases h;rfl
 ·rw[Bo (by simpa using hi),Bi] at h
  split at h <;> cases h
def zX8{α:Type}{ds:List α}{k i:Nat}{d:α}(h:ds[i]?=some d):(ds.map some++List.replicate k none)[i]?=some (some d):=by
 have hi:=(Ac.mp h).1
 rw[Bl (by simpa using hi),Ai,h]
 rfl
section
variable {P:Program}{w:World}{K:KFr}{mg:Str->Option Value}{base:Heap}
abbrev bodyCt(P:Program)(w:World)(K:KFr)(mg:Str->Option Value)(base:Heap)(N:List Str)(x:Str)(sc:Scope)(f:Addr)(cdv:Value)(A:Around)(outer:List Env)(s:Shared)(H:Hp)(E:XK)(om:List Nat):Ct :=
 ⟨(cxOf CX0 P w K mg base N x sc f cdv A outer s H E).nox,fun _ _=>False,om,[]⟩
def xR5{x:Str}{st:Stmt}{f:Addr}{fd:FuncData}{N ps:List Str}{k:Nat}{m:Ev->Res Out}{fr:Bool}(om:List Nat)(F:Fun K x x st f fd)(S:zI N ps (zU st))
  (hbody:∀(cdv:Value) (A:Around) (outer:List Env) (s:Shared) (H:Hp) (E:XK),Room k (A.deeper (envOfC x (zU st) s.heap.objs.size f cdv))->RSs (bodyCt P w K mg base N x (zU st) f cdv A outer s H E om) fr (defBody st) m)
  (hom:autoParam (om.all (fun i=>decide (ps.length<=i))=true) DH) :
  FnOk P w K mg base CX0 (k+1) f fd ps (spF fr (runF fr ps.length N.length m)):=by
 have len:∀(vs:List V) (H:Hp) (Q:VK) (E:XK),spF fr (runF fr ps.length N.length m) vs H Q E->vs.length=ps.length:=fun vs H Q E h=>by
  obtain⟨ds,O,oh,r,k⟩:=h
  unfold runF at k
  split at k
  ·rename_i hl
   rw[r.length];exact hl
  ·exact k.elim
 refine F.ok S len fun cdv A outer s H vs Q E hr h => ?_
 have hvl:=len vs H Q E h
 obtain⟨ds,O,oh,r,k⟩:=h
 have hl:ds.length=ps.length:=by rw[<-r.length];exact hvl
 unfold runF at k
 rw[Aq hl] at k
 obtain⟨t,p,q⟩:=hbody cdv A outer s H E hr
 refine⟨t,p,q ⟨O,fun _=>0⟩ (fun _=>False) _ H (ds.map some++List.replicate (N.length-ps.length) none) _ ?_ ?_⟩
 ·refine⟨?_,fun i d e _ _ => ?_,fun i d e ho => ?_,fun i d e _ hl=>(nomatch hl),fun i j di dj a ei _ ho _ _ _ => ?_,fun a z=>oh a (z.elim id fun z=>z.elim),fun a z=>z.elim⟩
  ·unfold start
   rw[Ao,Ao,Aa,Aa,Bj,Bj,hvl,hl]
  ·obtain⟨v,ev,rv⟩:=r.get (xA e)
   exact⟨v,zX8 ev,rv.less fun b z=>z.elim id fun z=>z.elim⟩
  ·have h1:=(Ac.mp (xA e)).1
   have h2:ps.length<=i:=of_decide_eq_true (AF.mp hom i ho)
   rfl'
  ·have h1:=(Ac.mp (xA ei)).1
   have h2:ps.length<=i:=of_decide_eq_true (AF.mp hom i ho)
   rfl'
 ·refine Res.zQ (Res.zX k) (fun o _ k => ?_) fun c z=>z.elim
  have same:∀{H':Hp},Frm (fun _=>False) H H'->Same H H':=fun f b o e=>f b o e fun z=>z
  cases o with
  | rt d =>
   intro v H' f rt
   refine k v H' (same f) ?_
   cases fr with
   | false=>exact rt
   | true =>
    obtain⟨a,ys,ds,e1,e2,e3,e4,e5,e6⟩:=rt
    exact⟨a,ys,ds,e1,e2,e3.elim id fun z=>z.elim,e5,e6⟩
  | nx ρ' =>
   cases fr with
   | true=>exact k.elim
   | false=>exact fun σ' H' Ob' R f s=>k .non H' (same f) Rep.non
end
def mdF(fr:Bool):Md:=if fr then .new else .cl
def eF(F:List D->Res D)(m:Ev->Res (List D)):Ev->Res D:=fun ρ=>(m ρ).bind F
section
variable {C:Ct}{k:Nat}{f:Addr}{fd:FuncData}{ps:List Str}{fr:Bool}{F:List D->Res D}{x:Str}{p pos:Pos}{e:Expr}{es:List Expr}{ms:Ev->Res (List D)}{st:Stmt}
end
mutual
def lf:D->Bool
 | .list _=>false
 | .dict _=>false
 | .tuple ds=>lfs ds
 | _=>true
def lfs:List D->Bool
 | []=>true
 | d::ds=>lf d&&lfs ds
end
mutual
def Rep.lf{H:Hp}{U:Addr->Prop}{B:Addr->Prop}(hB:∀b,B b->∃ys,H b=some (.lst ys)):∀{v:V}{d:D},Rep H (fun b=>U b/\¬B b) v d->L3.lf d=true->Rep H U v d
 | _,_,.non,_=>.non
 | _,_,.bl b,_=>.bl b
 | _,_,.int i,_=>.int i
 | _,_,.str x,_=>.str x
 | _,_,.lst r n t,h=>by simp[L3.lf] at h
 | _,_,.exc r n,h=>by simp[L3.lf] at h
 | _,_,@Rep.tup _ _ _ a _ _ r n t,h=>.tup r (fun z=>by
   by_cases hb:B a
   ·obtain⟨ys,e⟩:=hB _ hb
    rcases r with r | ⟨o,r⟩ <;> (rw[r] at e;cases e)
   ·exact n ⟨z,hb⟩) (Reps.lf hB t (by simpa [L3.lf] using h))
def Reps.lf{H:Hp}{U:Addr->Prop}{B:Addr->Prop}(hB:∀b,B b->∃ys,H b=some (.lst ys)):∀{vs:List V}{ds:List D},Reps H (fun b=>U b/\¬B b) vs ds->lfs ds=true->Reps H U vs ds
 | _,_,.nil,_=>.nil
 | _,_,.cons r t,h=>by
  rw[lfs,Ba] at h
  exact .cons (Rep.lf hB r h.1) (Reps.lf hB t h.2)
end
def lfT:Bool->D->Bool
 | true,.list ds=>lfs ds
 | _,d=>lf d
def eFA(fr:Bool)(F:List D->Res D)(m:Ev->Res (List D)):Ev->Res D:=fun ρ=>(m ρ).bind fun ds=>(F ds).bind fun d=>if lfT fr d then .ok d else .no
def VAs.lent{Oc:Wd}{Ob:Addr->Prop}{H:Hp}:∀{vs:List V}{ds:List D},VAs Oc Ob H vs ds->Reps H (fun b=>Uni Oc Ob b/\¬∃ys,H b=some (.lst ys)) vs ds
 | _,_,.nil=>.nil
 | _,_,.cons h t=>.cons (by
   rcases h with h | ⟨a,ys,ds,rfl,rfl,e3,e5⟩
   ·exact h.less fun b z=>z.1
   ·exact .lst (.inl e3) (fun z=>z.2 ⟨ys,e3⟩) (e5.less fun b z=>z.1)) (VAs.lent t)
def i2(f:Int->Int->Option Int):D->D->Option D
 | .int i,.int j=>(f i j).map PyData.int
 | _,_=>none
def xI9{f:Int->Int->Option Int}{x y d:D}(h:i2 f x y=some d):∃i j k,x=.int i/\y=.int j/\f i j=some k/\d=.int k:=by
 cases x with
 | int i =>
  cases y with
  | int j =>
   obtain⟨k,e,rfl⟩:=Ar.mp (show (f i j).map PyData.int=some d from h)
   exact⟨i,j,k,rfl,rfl,e,rfl⟩
  | _=>cases h
 | _=>cases h
def xR2{g:Int->Int->Int}:Pr2 (rI0 fun i j=>.int (g i j)) .cl (i2 fun i j=>some (g i j)):=by
 intro Oc Ob H x y dx dy d Q oh vx vy e k
 obtain⟨i,j,n,rfl,rfl,ef,rfl⟩:=xI9 e
 cases ef
 exact⟨i,j,vx.int,vy.int,k _ H (Same.refl H) (Rep.int _)⟩
abbrev addI:D->D->Option D:=i2 fun i j=>some (i+j)
abbrev subI:D->D->Option D:=i2 fun i j=>some (i-j)
def DivOk(j:Int):Prop:=0<j/\j.natAbs.log2<9000
instance (j:Int):Decidable (DivOk j):=by unfold DivOk;infer_instance
section
variable {X:Cx}
def xU6:OpR X (binaryOp .FloorDiv) (rI (fun _ j=>DivOk j) fun i j=>.int (i / j)):=opI fun i j _ _ _ _ _ hc q=>by
 refine floordiv_int (by have:=hc.1;rfl') ?_ (.inl (PyProof.noPylong_of_log2 hc.2))
 rw[Int.fdiv_eq_ediv_of_nonneg _ (by have:=hc.1;rfl')]
 exact q
end
def DivOk.small{j:Int}(h:0<j)(h2:j<1073741824):DivOk j:=by
 refine⟨h,?_⟩
 have h30:j.natAbs.log2<30:=(Nat.log2_lt (by rfl')).mpr (by rfl')
 rfl'
def zW8:Pr2 (rI0 fun i j=>.int (i+j)) .cl addI:=xR2
def yK6:Pr2 (rI0 fun i j=>.int (i-j)) .cl subI:=xR2
def c2(f:Int->Int->Bool):D->D->Option Bool
 | .int i,.int j=>some (f i j)
 | _,_=>none
def yA6{f:Int->Int->Bool}:PrB (rI0 fun i j=>.bl (f i j)) (c2 f):=by
 intro Oc Ob H x y dx dy b Q vx vy e k
 cases dx with
 | int i =>
  cases dy with
  | int j =>
   cases e
   exact⟨_,_,vx.int,vy.int,k⟩
  | _=>cases e
 | _=>cases e
abbrev ltI:D->D->Option Bool:=c2 fun i j=>decide (i<j)
abbrev leI:D->D->Option Bool:=c2 fun i j=>decide (i<=j)
abbrev gtI:D->D->Option Bool:=c2 fun i j=>decide (j<i)
def yO7:PrB (rI0 fun i j=>.bl (decide (i<j))) ltI:=yA6
def aK:PrB (rI0 fun i j=>.bl (decide (i<=j))) leI:=yA6
def zH7:PrB (rI0 fun i j=>.bl (decide (j<i))) gtI:=yA6
def eqD(x y:D):Option Bool:=if SeqAt.shaped x=true/\SeqAt.shaped y=true then some (PyData.eqv x y) else none
def neD(x y:D):Option Bool:=if SeqAt.shaped x=true/\SeqAt.shaped y=true then some (!PyData.eqv x y) else none
def zH3{K:KFr}:PrB (rEqD K false) eqD:=by
 intro Oc Ob H x y dx dy b Q vx vy e k
 unfold eqD at e
 split at e
 ·rename_i h
  cases e
  exact⟨dx,dy,vx.datS h.1,vy.datS h.2,h.1,h.2,k⟩
 ·cases e
def vY{K:KFr}:PrB (rEqD K true) neD:=by
 intro Oc Ob H x y dx dy b Q vx vy e k
 unfold neD at e
 split at e
 ·rename_i h
  cases e
  exact⟨dx,dy,vx.datS h.1,vy.datS h.2,h.1,h.2,k⟩
 ·cases e
def isND(neg:Bool):D->D->Option Bool
 | .none,.none=>some (!neg)
 | _,.none=>some neg
 | _,_=>none
def yK8{Oc:Wd}{Ob:Addr->Prop}{H:Hp}{x:V}{d:D}(h:VA Oc Ob H x d):decide (x=.non)=(match d with | .none=>true | _=>false):=by
 rcases h with h | ⟨a,ys,ds,rfl,rfl,e3,e5⟩
 ·cases h <;> rfl
 ·rfl
def yL1:PrB (fun x y H Q=>y=.non/\Q (.bl (decide (x=.non))) H) (isND false):=by
 intro Oc Ob H x y dx dy b Q vx vy e k
 cases dy with
 | none =>
  refine⟨vy.none,?_⟩
  rw[yK8 vx]
  cases dx <;> (simp only[isND] at e;cases e;exact k)
 | _=>cases dx <;> cases e
def zA1:PrB (fun x y H Q=>y=.non/\Q (.bl (!decide (x=.non))) H) (isND true):=by
 intro Oc Ob H x y dx dy b Q vx vy e k
 cases dy with
 | none =>
  refine⟨vy.none,?_⟩
  rw[yK8 vx]
  cases dx <;> (simp only[isND] at e;cases e;exact k)
 | _=>cases dx <;> cases e
def flD:D->Bool
 | .none=>true
 | .bool _=>true
 | .int _=>true
 | .str _=>true
 | _=>false
def eqF:D->D->Bool
 | .none,.none=>true
 | .bool a,.bool b=>a == b
 | .bool a,.int b=>(if a then 1 else 0) == b
 | .int a,.bool b=>a == (if b then 1 else 0)
 | .int a,.int b=>a == b
 | .str a,.str b=>a == b
 | _,_=>false
def zW7{H:Hp}{O:Addr->Prop}{v:V}{d:D}(h:Rep H O v d)(f:flD d=true):flatV v=true:=by
 cases h <;> first | rfl | cases f
def xM9{H:Hp}{O O':Addr->Prop}{v v':V}{d d':D}(h:Rep H O v d)(h':Rep H O' v' d')(f:flD d=true)(f':flD d'=true):eqV v v'=eqF d d':=by
 cases h <;> cases h' <;> first | rfl | cases f | cases f'
def bV{H:Hp}{O:Addr->Prop}:∀{vs:List V}{ds:List D},Reps H O vs ds->ds.all flD=true->vs.all flatV=true
 | _,_,.nil,_=>rfl
 | _,_,.cons h t,f=>by
  rw[Dk,Ba] at f ⊢
  exact⟨zW7 h f.1,bV t f.2⟩
def zW1{H:Hp}{O O':Addr->Prop}{x:V}{dx:D}(hx:Rep H O' x dx)(fx:flD dx=true):∀{vs:List V}{ds:List D},Reps H O vs ds->ds.all flD=true->inV x vs=ds.any fun y=>eqF y dx
 | _,_,.nil,_=>rfl
 | _,_,.cons h t,f=>by
  rw[Dk,Ba] at f
  have ih:=zW1 hx fx t f.2
  unfold inV at ih ⊢
  rw[Dl,Dl,ih,xM9 h hx f.1 fx]
def inD(neg:Bool)(x y:D):Option Bool:=(seqD y).bind fun ds=>if flD x=true/\ds.all flD=true then some (if neg then !ds.any (fun z=>eqF z x) else ds.any fun z=>eqF z x) else none
def xJ2{Oc:Wd}{Ob:Addr->Prop}{H:Hp}{x:V}{d:D}(h:VA Oc Ob H x d)(f:flD d=true):Rep H (Uni Oc Ob) x d:=by
 rcases h with h | ⟨a,ys,ds,rfl,rfl,e3,e5⟩
 ·exact h
 ·cases f
def yM2{K:KFr}{neg:Bool}:PrB (rIn K neg) (inD neg):=by
 intro Oc Ob H x y dx dy b Q vx vy e k
 unfold inD at e
 obtain⟨ds,e1,e⟩:=AR.mp e
 split at e
 ·rename_i h
  cases e
  have rx:=xJ2 vx h.1
  cases dy with
  | list ds' =>
   cases e1
   obtain⟨a,ys,rfl,rd,rs⟩:=vy.list
   refine⟨a,ys,rfl,.inl (.inl rd),zW7 rx h.1,bV rs h.2,?_⟩
   rw[zW1 rx h.1 rs h.2]
   exact k
  | tuple ds' =>
   cases e1
   obtain⟨a,ys,rfl,rd,rs⟩:=vy.tuple
   refine⟨a,ys,rfl,.inr (.inl rd),zW7 rx h.1,bV rs h.2,?_⟩
   rw[zW1 rx h.1 rs h.2]
   exact k
  | _=>cases e1
 ·cases e
def ixD:D->D->Option D
 | .list ds,.int i=>atI ds i
 | .tuple ds,.int i=>atI ds i
 | _,_=>none
def zB7{H:Hp}{O:Addr->Prop}{vs:List V}{ds:List D}{i:Int}{d:D}(r:Reps H O vs ds)(h:atI ds i=some d):∃v,atI vs i=some v/\Rep H O v d:=by
 unfold atI at h ⊢
 obtain⟨j,e1,e2⟩:=AR.mp h
 obtain⟨v,ev,rv⟩:=r.get e2
 refine⟨v,?_,rv⟩
 rw[r.length,e1]
 exact ev
def yB{K:KFr}:Pr2 (rIx K) .cl ixD:=by
 intro Oc Ob H x y dx dy d Q oh vx vy e k
 cases dx with
 | list ds =>
  cases dy with
  | int i =>
   obtain⟨a,ys,rfl,rd,rs⟩:=vx.list
   obtain⟨v,ev,rv⟩:=zB7 rs e
   exact .inl ⟨a,ys,i,v,rfl,vy.int,.inl rd,ev,k v H (Same.refl H) rv⟩
  | _=>cases e
 | tuple ds =>
  cases dy with
  | int i =>
   obtain⟨a,ys,rfl,rd,rs⟩:=vx.tuple
   obtain⟨v,ev,rv⟩:=zB7 rs e
   exact .inr (.inl ⟨a,ys,i,v,rfl,vy.int,.inl rd,ev,k v H (Same.refl H) rv⟩)
  | _=>cases e
 | _=>cases e
def rCatR:R2:=fun x y H Q=>∃l b xs zs,x=.ref l/\y=.ref b/\Rd H l (.lst xs)/\Rd H b (.lst zs)/\xs.length+zs.length<=sizeLine/\∀p,H p=none->Q (.ref p) (upd H p (.lst (xs++zs)))
def Rd.lstM{X:Cx}{DI:List (Addr×Obj)}{σ:St}{H:Hp}{s:Shared}{l:Addr}{xs:List V}(I:Inv X DI σ H s)(hH:Rd H l (.lst xs)):xs.length<=sizeLine/\∃(its:List Value) (n:Nat),Vals xs its/\xs.length=its.length/\s.heap.get? l=some { cls:=.type "list",data:=.seq its.toArray n }:=by
 obtain⟨z,its,n,r,e⟩:=hH.ok I.hok
 exact⟨z,its,n,r,r.length,e⟩
section
variable {X:Cx}
def qC:OpR X (binaryOp .Add) rCatR:=by
 intro DI s σ H x y v u Q I rx ry h
 obtain⟨l,b,xs,zs,rfl,rfl,hH,hB,hz,q⟩:=h
 cases rx
 cases ry
 obtain⟨z,its,n,r,hl,e⟩:=Rd.lstM I hH
 obtain⟨z2,its2,n2,r2,hl2,e2⟩:=Rd.lstM I hB
 refine PySem.P.add_list e e2 ?_ (by rw[Am,Am];rfl')
 have ea:its.toArray++its2.toArray=(its++its2).toArray:=by simp
 rw[ea]
 exact⟨.ref _,_,I.lnew (t':=s.toks) (r.append r2) (by rw[Ao];rfl'),rfl,q _ I.fresh⟩
def rRepR:R2:=fun x y H Q=>∃l k xs,x=.ref l/\y=.int k/\Rd H l (.lst xs)/\-(2 ^ 63)<=k/\k<2 ^ 63/\xs.length*k.toNat<=sizeLine /\
 ∀p,H p=none->Q (.ref p) (upd H p (.lst (List.replicate k.toNat xs).flatten))
def yU9:OpR X (binaryOp .Mult) rRepR:=by
 intro DI s σ H x y v u Q I rx ry h
 obtain⟨l,k,xs,rfl,rfl,hH,h1,h2,hz,q⟩:=h
 cases rx
 obtain⟨t,rfl⟩:=ry
 obtain⟨z,its,n,r,hl,e⟩:=Rd.lstM I hH
 have hlen:its.toArray.size*k.toNat<=sizeLine:=by rw[Am,<-hl];exact hz
 have hcap:¬its.toArray.size*k.toNat > (2 ^ 63-1) / 8:=by
  have:(sizeLine:Nat)<=(2 ^ 63-1) / 8:=by decide
  rfl'
 have hfit:¬(!Builtin.List.listFitsIndex k)=true:=by
  rw[fitsIndex_both h1 h2]
  exact AK
 have hlong:¬Builtin.List.listTooLong (its.toArray.size*k.toNat)=true:=by
  rw[notLongL hlen]
  exact AK
 have hnew:List.foldl (fun x1 x2=>x1++x2) #[] (List.replicate (if its.toArray.isEmpty=true then 0 else k.toNat) its.toArray)=(List.replicate k.toNat its).flatten.toArray:=by
  have f0:∀m:Nat,List.foldl (fun x1 x2=>x1++x2) #[] (List.replicate m its.toArray)=(List.replicate m its).flatten.toArray:=fun m=>by
   have:=bA its m []
   rw[BW] at this
   exact this
  rw[f0]
  cases its with
  | nil=>simp
  | cons a r'=>rw[AJ (by simp)]
 refine wpAny_binaryOp_repeat_ref (T:="list") (U:="int") (by decide) ⟨_,e,rfl⟩ (fun s'=>typeIs_int s' k t) noFill_list_mul F.fills_int_mul Dq repeat_list F.slot_int_index.lookup
  (call_meets Dq (typeIs_int s k t) F.entry_int_rmul (F.args_int_rmul_2 _ _) (int___rmul___int_list k t l its.toArray n)
   ⟨e,rfl,⟨_,e,rfl⟩,call_meets F.slot_list_mul ⟨_,e,rfl⟩ F.entry_list_mul (F.args_list_mul_2 _ _) (CU l its.toArray n k t hfit hcap hlong) ⟨e,?_⟩⟩)
 rw[hnew]
 exact⟨.ref _,_,I.lnew (t':=s.toks) (r.rep k.toNat) (by rw[yR7,CF];exact hz),rfl,q _ I.fresh⟩
end
def catL:D->D->Option D
 | .list xs,.list ys=>if xs.length+ys.length<=sizeLine then some (.list (xs++ys)) else none
 | _,_=>none
def zR3:Pr2 rCatR .new catL:=by
 intro Oc Ob H x y dx dy d Q oh vx vy e k
 cases dx with
 | list xs =>
  cases dy with
  | list ys =>
   obtain⟨a,vs,rfl,rd,rs⟩:=vx.list
   obtain⟨b,ws,rfl,rd',rs'⟩:=vy.list
   unfold catL at e
   simp only at e
   split at e
   ·rename_i hl
    cases e
    refine⟨a,b,vs,ws,rfl,rfl,rd,rd',by rw[rs.length,rs'.length];exact hl,fun p hp=>k _ _ (Same.new hp) (xU (Same.refl H) hp (rs.append rs'))⟩
   ·cases e
  | _=>cases e
 | _=>cases e
def repL:D->D->Option D
 | .list xs,.int k=>if -(2 ^ 63)<=k/\k<2 ^ 63/\xs.length*k.toNat<=sizeLine then some (.list (List.replicate k.toNat xs).flatten) else none
 | _,_=>none
def yK9:Pr2 rRepR .new repL:=by
 intro Oc Ob H x y dx dy d Q oh vx vy e k
 cases dx with
 | list xs =>
  cases dy with
  | int j =>
   obtain⟨a,vs,rfl,rd,rs⟩:=vx.list
   unfold repL at e
   simp only at e
   split at e
   ·rename_i hl
    cases e
    refine⟨a,j,vs,rfl,vy.int,rd,hl.1,hl.2.1,by rw[rs.length];exact hl.2.2,fun p hp=>k _ _ (Same.new hp) (xU (Same.refl H) hp (rs.rep _))⟩
   ·cases e
  | _=>cases e
 | _=>cases e
def lenD:List D->Option D
 | [d]=>(seqD d).map fun ds=>.int ds.length
 | _=>none
def yR{K:KFr}:PrC (fun xs H Q=>∃p ys,xs=[.ref p]/\(SqL K H p ys\/SqT K H p ys)/\Q (.int ys.length) H) .cl lenD:=by
 intro Oc Ob H vs ds d Q oh va e k
 cases ds with
 | nil=>cases e
 | cons x xs =>
  cases xs with
  | cons=>cases e
  | nil =>
   obtain⟨v,rfl,vx⟩:=va.one
   obtain⟨es,e1,rfl⟩:=Ar.mp e
   cases x with
   | list ds' =>
    cases e1
    obtain⟨a,ys,rfl,rd,rs⟩:=vx.list
    exact⟨a,ys,rfl,.inl (.inl rd),k _ H (Same.refl H) (by rw[rs.length];exact Rep.int _)⟩
   | tuple ds' =>
    cases e1
    obtain⟨a,ys,rfl,rd,rs⟩:=vx.tuple
    exact⟨a,ys,rfl,.inr (.inl rd),k _ H (Same.refl H) (by rw[rs.length];exact Rep.int _)⟩
   | _=>cases e1
def listD:List D->Option D
 | [d]=>(seqD d).map fun ds=>.list ds
 | _=>none
def xI7{K:KFr}:PrC (fun xs H Q=>∃p ys,xs=[.ref p]/\(SqL K H p ys\/SqT K H p ys)/\∀l,H l=none->Q (.ref l) (upd H l (.lst ys))) .new listD:=by
 intro Oc Ob H vs ds d Q oh va e k
 cases ds with
 | nil=>cases e
 | cons x xs =>
  cases xs with
  | cons=>cases e
  | nil =>
   obtain⟨v,rfl,vx⟩:=va.one
   obtain⟨es,e1,rfl⟩:=Ar.mp e
   cases x with
   | list ds' =>
    cases e1
    obtain⟨a,ys,rfl,rd,rs⟩:=vx.list
    exact⟨a,ys,rfl,.inl (.inl rd),fun l hl=>k _ _ (Same.new hl) (xU (Same.refl H) hl rs)⟩
   | tuple ds' =>
    cases e1
    obtain⟨a,ys,rfl,rd,rs⟩:=vx.tuple
    exact⟨a,ys,rfl,.inr (.inl rd),fun l hl=>k _ _ (Same.new hl) (xU (Same.refl H) hl rs)⟩
   | _=>cases e1
def tupD:List D->Option D
 | [d]=>(seqD d).map fun ds=>.tuple ds
 | _=>none
def jB{K:KFr}:PrC (fun xs H Q=>∃p ys,xs=[.ref p]/\((SqL K H p ys/\∀l,H l=none->Q (.ref l) (upd H l (.tup ys)))\/(SqT K H p ys/\Q (.ref p) H))) .cl tupD:=by
 intro Oc Ob H vs ds d Q oh va e k
 cases ds with
 | nil=>cases e
 | cons x xs =>
  cases xs with
  | cons=>cases e
  | nil =>
   obtain⟨v,rfl,vx⟩:=va.one
   obtain⟨es,e1,rfl⟩:=Ar.mp e
   cases x with
   | list ds' =>
    cases e1
    obtain⟨a,ys,rfl,rd,rs⟩:=vx.list
    exact⟨a,ys,rfl,.inl ⟨.inl rd,fun l hl=>k _ _ (Same.new hl) (dO oh hl rs)⟩⟩
   | tuple ds' =>
    cases e1
    rcases vx with vx | ⟨a,ys,ds,rfl,ez,_⟩
    ·cases vx with
     | tup rd n rs=>exact⟨_,_,rfl,.inr ⟨.inl rd,k _ H (Same.refl H) (.tup rd n rs)⟩⟩
    ·cases ez
   | _=>cases e1
def intsOf:List D->Option (List Int)
 | []=>some []
 | .int i::ds=>(intsOf ds).map (i :: ·)
 | _::_=>none
@[simp] theorem intsOf_map:∀ns:List Int,intsOf (ns.map PyData.int)=some ns
 | []=>rfl
 | n::ns=>by rw[AU,intsOf,intsOf_map ns];rfl
def uP:∀{ds:List D}{ns:List Int},intsOf ds=some ns->ds=ns.map PyData.int
 | [],ns,h=>by cases h;rfl
 | d::ds,ns,h=>by
  cases d with
  | int i =>
   obtain⟨ms,e,rfl⟩:=Ar.mp (show (intsOf ds).map (i :: ·)=some ns from h)
   rw[uP e];rfl
  | _=>cases h
def boolsOf:List D->Option (List Bool)
 | []=>some []
 | .bool i::ds=>(boolsOf ds).map (i :: ·)
 | _::_=>none
@[simp] theorem boolsOf_map:∀ns:List Bool,boolsOf (ns.map PyData.bool)=some ns
 | []=>rfl
 | n::ns=>by rw[AU,boolsOf,boolsOf_map ns];rfl
def bK:∀{ds:List D}{ns:List Bool},boolsOf ds=some ns->ds=ns.map PyData.bool
 | [],ns,h=>by cases h;rfl
 | d::ds,ns,h=>by
  cases d with
  | bool i =>
   obtain⟨ms,e,rfl⟩:=Ar.mp (show (boolsOf ds).map (i :: ·)=some ns from h)
   rw[bK e];rfl
  | _=>cases h
def nsD(d:D):Option (List Int):=(seqD d).bind intsOf
def zF1{K:KFr}{Oc:Wd}{Ob:Addr->Prop}{H:Hp}{x:V}{d:D}{ns:List Int}(h:VA Oc Ob H x d)(e:nsD d=some ns):∃p,x=.ref p/\(SqL K H p (ns.map V.int)\/SqT K H p (ns.map V.int)):=by
 obtain⟨ds,e1,e2⟩:=AR.mp e
 obtain rfl:=uP e2
 cases d with
 | list ds' =>
  cases e1
  obtain⟨a,ys,rfl,rd,rs⟩:=h.list
  rw[rs.ints] at rd
  exact⟨a,rfl,.inl (.inl rd)⟩
 | tuple ds' =>
  cases e1
  obtain⟨a,ys,rfl,rd,rs⟩:=h.tuple
  rw[rs.ints] at rd
  exact⟨a,rfl,.inr (.inl rd)⟩
 | _=>cases e1
def sumD:List D->Option D
 | [.list ds]=>(intsOf ds).map fun ns=>.int ns.sum
 | _=>none
def xH8{K:KFr}:PrC (fun xs H Q=>∃(p:Addr) (ns:List Int),xs=[.ref p]/\SqL K H p (ns.map V.int)/\Q (.int ns.sum) H) .cl sumD:=by
 intro Oc Ob H vs ds d Q oh va e k
 unfold sumD at e
 split at e
 ·obtain⟨ns,e1,rfl⟩:=Ar.mp e
  obtain⟨v,rfl,vx⟩:=va.one
  obtain⟨a,ys,rfl,rd,rs⟩:=vx.list
  rw[uP e1] at rs
  rw[rs.ints] at rd
  exact⟨a,ns,rfl,.inl rd,k _ H (Same.refl H) (Rep.int _)⟩
 ·cases e
def sortI(ns:List Int):List Int:=ns.mergeSort (fun a b=>decide (a<=b))
def cU(ns:List Int):(sortI ns).Perm ns:=List.mergeSort_perm _ _
def bR(ns:List Int):(sortI ns).Pairwise (· <= ·):=by
 have:=List.pairwise_mergeSort (le:=fun a b:Int=>decide (a<=b)) (fun a b c h1 h2=>by simp at *;rfl') (fun a b=>by simp;rfl') ns
 exact this.imp fun h=>by simpa using h
def yL7{as bs:List Int}(p:as.Perm bs)(ha:as.Pairwise (· <= ·))(hb:bs.Pairwise (· <= ·)):as=bs:=by
 induction as generalizing bs with
 | nil=>exact (List.nil_perm.mp p).symm
 | cons a as ih =>
  cases bs with
  | nil=>exact absurd p.symm (by intro h;have:=h.length_eq;simp at this)
  | cons b bs =>
   have h1:a<=b:=by
    have:b∈a::as:=p.symm.subset Ae
    rcases An.mp this with z | z
    ·rfl'
    ·exact (Cp.mp ha).1 b z
   have h2:b<=a:=by
    have:a∈b::bs:=p.subset Ae
    rcases An.mp this with z | z
    ·rfl'
    ·exact (Cp.mp hb).1 a z
   have e:a=b:=by rfl'
   subst e
   rw[ih (List.Perm.cons_inv p) (Cp.mp ha).2 (Cp.mp hb).2]
def sortD:List D->Option D
 | [d]=>(nsD d).bind fun ns=>if ns.length<64 then some (.list ((sortI ns).map PyData.int)) else none
 | _=>none
def xJ5{K:KFr}:PrC (fun xs H Q=>∃(p:Addr) (ns:List Int),xs=[.ref p]/\(SqL K H p (ns.map V.int)\/SqT K H p (ns.map V.int))/\ns.length<64 /\
  ∀(l:Addr) (ms:List Int),H l=none->ms.Perm ns->ms.Pairwise (· <= ·)->Q (.ref l) (upd H l (.lst (ms.map V.int)))) .new sortD:=by
 intro Oc Ob H vs ds d Q oh va e k
 unfold sortD at e
 split at e
 ·obtain⟨ns,e1,e⟩:=AR.mp e
  split at e
  ·rename_i hl
   cases e
   obtain⟨v,rfl,vx⟩:=va.one
   obtain⟨p,rfl,hq⟩:=zF1 vx e1
   refine⟨p,ns,rfl,hq,hl,fun l ms hp h1 h2 => ?_⟩
   have:ms=sortI ns:=yL7 (h1.trans (cU ns).symm) h2 (bR ns)
   subst this
   exact k _ _ (Same.new hp) (xU (Same.refl H) hp (jA _))
  ·cases e
 ·cases e
def allD:List D->Option D
 | [.list ds]=>(boolsOf ds).map fun bs=>.bool (bs.all id)
 | _=>none
def xG4{K:KFr}:PrC (fun xs H Q=>∃(p:Addr) (bs:List Bool),xs=[.ref p]/\SqL K H p (bs.map V.bl)/\Q (.bl (bs.all id)) H) .cl allD:=by
 intro Oc Ob H vs ds d Q oh va e k
 unfold allD at e
 split at e
 ·obtain⟨ns,e1,rfl⟩:=Ar.mp e
  obtain⟨v,rfl,vx⟩:=va.one
  obtain⟨a,ys,rfl,rd,rs⟩:=vx.list
  rw[bK e1] at rs
  rw[rs.bools] at rd
  exact⟨a,ns,rfl,.inl rd,k _ H (Same.refl H) (Rep.bl _)⟩
 ·cases e
def tyD:D->String
 | .none=>"NoneType"
 | .bool _=>"bool"
 | .int _=>"int"
 | .str _=>"str"
 | .list _=>"list"
 | .tuple _=>"tuple"
 | .dict _=>"dict"
def subTy(t T:String):Bool:=t == T || (t == "bool"&&T == "int")
structure Kit(K:KFr)(T:String):Prop where
 non:PySem.W.kitOne K (.type "NoneType") (.type T)=some (subTy "NoneType" T)
 bl:PySem.W.kitOne K (.type "bool") (.type T)=some (subTy "bool" T)
 int:PySem.W.kitOne K (.type "int") (.type T)=some (subTy "int" T)
 str:PySem.W.kitOne K (.type "str") (.type T)=some (subTy "str" T)
 lst:PySem.W.kitOne K (.type "list") (.type T)=some (subTy "list" T)
 tup:PySem.W.kitOne K (.type "tuple") (.type T)=some (subTy "tuple" T)
section
variable {X:Cx}
end
def isiD(T:String):D->Option D
 | .dict _=>none
 | d=>some (.bool (subTy (tyD d) T))
def zJ8{s:Shared}{J:Addr}{hp h':Heap}(keep:∀b o,s.heap.get? b=some o->b≠J/\hp.get? b=some o)(hk:∀b o,b ∉ [J]->hp.get? b=some o->h'.get? b=some o):∀b o,s.heap.get? b=some o->h'.get? b=some o :=
 fun b o e=>hk b o (by simpa using (keep b o e).1) (keep b o e).2
def fR(xs:Array (Int×Tok)):(intItems xs).size=xs.size:=by simp[intItems]
section
variable {prog:Program}{w:World}{A:Around}{E:Value->Shared->Prop}{s:Shared}{l:Addr}{xs:Array (Int×Tok)}{Q:Value->Shared->Prop}
def xN2(hh:A.handled=none)(hl:s.heap.IsTuple l (intItems xs))(ne:0<xs.size)
  (k:∀v h' tk,(intItems xs)[argBest (fun i j=>decide (numAt xs i<numAt xs j)) (xs.size-1)]?=some v->(∀b o,s.heap.get? b=some o->h'.get? b=some o)->Q v { s with heap:=h',toks:=tk }):wpAny (model prog w) A (call (.builtin "min") [.ref l]) Q E s :=
 call_min_walk (zE9 (A:=A.in1) hh hl fun J hp St W st a b keep=>⟨_,_,_,_,_,_,_,rfl,W,st,by simp[a,b],by rw[fR];exact ne,.ints_lt (numAt xs) (fun _ _=>intItems_at),fun v h' tk at_ hk=>k v h' tk (by rw[fR] at at_;exact at_) (zJ8 keep hk)⟩)
def xL4(hh:A.handled=none)(hl:s.heap.IsTuple l (intItems xs))(ne:0<xs.size)
  (k:∀v h' tk,(intItems xs)[argBest (fun i j=>decide (numAt xs i > numAt xs j)) (xs.size-1)]?=some v->(∀b o,s.heap.get? b=some o->h'.get? b=some o)->Q v { s with heap:=h',toks:=tk }):wpAny (model prog w) A (call (.builtin "max") [.ref l]) Q E s :=
 call_max_walk (zE9 (A:=A.in1) hh hl fun J hp St W st a b keep=>⟨_,_,_,_,_,_,_,rfl,W,st,by simp[a,b],by rw[fR];exact ne,.ints_gt (numAt xs) (fun _ _=>intItems_at),fun v h' tk at_ hk=>k v h' tk (by rw[fR] at at_;exact at_) (zJ8 keep hk)⟩)
end
def minL:List Int->Int
 | []=>0
 | n::ns=>ns.foldl (fun a b=>if b<a then b else a) n
def maxL:List Int->Int
 | []=>0
 | n::ns=>ns.foldl (fun a b=>if b > a then b else a) n
def fV:∀(ns:List Int) (n:Int),(ns.foldl (fun a b=>if b<a then b else a) n=n\/ns.foldl (fun a b=>if b<a then b else a) n∈ns)/\ns.foldl (fun a b=>if b<a then b else a) n<=n/\∀m∈ns,ns.foldl (fun a b=>if b<a then b else a) n<=m
 | [],n=>⟨.inl rfl,Int.le_refl _,fun m h=>nomatch h⟩
 | b::ns,n=>by
  obtain⟨h1,h2,h3⟩:=fV ns (if b<n then b else n)
  rw[List.foldl_cons]
  refine⟨?_,?_,fun m hm => ?_⟩
  ·rcases h1 with h1 | h1
   ·rw[h1]
    split
    ·exact .inr Ae
    ·exact .inl rfl
   ·exact .inr (Ad _ h1)
  ·refine Int.le_trans h2 ?_
   split <;> rfl'
  ·rcases An.mp hm with rfl | hm
   ·refine Int.le_trans h2 ?_
    split <;> rfl'
   ·exact h3 m hm
def fX:∀(ns:List Int) (n:Int),(ns.foldl (fun a b=>if b > a then b else a) n=n\/ns.foldl (fun a b=>if b > a then b else a) n∈ns)/\n<=ns.foldl (fun a b=>if b > a then b else a) n/\∀m∈ns,m<=ns.foldl (fun a b=>if b > a then b else a) n
 | [],n=>⟨.inl rfl,Int.le_refl _,fun m h=>nomatch h⟩
 | b::ns,n=>by
  obtain⟨h1,h2,h3⟩:=fX ns (if b > n then b else n)
  rw[List.foldl_cons]
  refine⟨?_,?_,fun m hm => ?_⟩
  ·rcases h1 with h1 | h1
   ·rw[h1]
    split
    ·exact .inr Ae
    ·exact .inl rfl
   ·exact .inr (Ad _ h1)
  ·refine Int.le_trans ?_ h2
   split <;> rfl'
  ·rcases An.mp hm with rfl | hm
   ·refine Int.le_trans ?_ h2
    split <;> rfl'
   ·exact h3 m hm
def zX4{ns:List Int}(h:ns ≠ []):minL ns∈ns:=by
 cases ns with
 | nil=>exact absurd rfl h
 | cons n ns =>
  rcases (fV ns n).1 with e | e
  ·show List.foldl _ n ns∈_
   rw[e];exact Ae
  ·exact Ad _ e
def yR1{ns:List Int}{m:Int}(h:m∈ns):minL ns<=m:=by
 cases ns with
 | nil=>cases h
 | cons n ns =>
  rcases An.mp h with rfl | h
  ·exact (fV ns m).2.1
  ·exact (fV ns n).2.2 m h
def yY2{ns:List Int}(h:ns ≠ []):maxL ns∈ns:=by
 cases ns with
 | nil=>exact absurd rfl h
 | cons n ns =>
  rcases (fX ns n).1 with e | e
  ·show List.foldl _ n ns∈_
   rw[e];exact Ae
  ·exact Ad _ e
def xJ6{ns:List Int}{m:Int}(h:m∈ns):m<=maxL ns:=by
 cases ns with
 | nil=>cases h
 | cons n ns =>
  rcases An.mp h with rfl | h
  ·exact (fX ns m).2.1
  ·exact (fX ns n).2.2 m h
def yU3{xs:Array (Int×Tok)}{i:Nat}(h:i<xs.size):numAt xs i∈xs.toList.map (·.1):=by
 rw[numAt_eq]
 exact getD_mem (by simpa using h)
def yR3{xs:Array (Int×Tok)}{a:Int}(h:a∈xs.toList.map (·.1)):∃i,i<xs.size/\a=numAt xs i:=by
 obtain⟨i,hi,e⟩:=mem_getD h
 exact⟨i,by simpa using hi,by rw[numAt_eq,e]⟩
def xT5{xs:Array (Int×Tok)}(h:0<xs.size):numAt xs (argBest (fun i j=>decide (numAt xs i<numAt xs j)) (xs.size-1))=minL (xs.toList.map (·.1)):=by
 have z:=argBest_lt (numAt xs) (xs.size-1)
 have m:=yU3 (xs:=xs) (i:=argBest (fun i j=>decide (numAt xs i<numAt xs j)) (xs.size-1)) (by rfl')
 obtain⟨i,hi,e⟩:=yR3 (zX4 (List.ne_nil_of_mem m))
 have:=yR1 m
 have:=z.2 i (by rfl')
 rfl'
def xY3{xs:Array (Int×Tok)}(h:0<xs.size):numAt xs (argBest (fun i j=>decide (numAt xs i > numAt xs j)) (xs.size-1))=maxL (xs.toList.map (·.1)):=by
 have z:=argBest_gt (numAt xs) (xs.size-1)
 have m:=yU3 (xs:=xs) (i:=argBest (fun i j=>decide (numAt xs i > numAt xs j)) (xs.size-1)) (by rfl')
 obtain⟨i,hi,e⟩:=yR3 (yY2 (List.ne_nil_of_mem m))
 have:=xJ6 m
 have:=z.2 i (by rfl')
 rfl'
section
variable {X:Cx}
def zL5(hc:X.calm=true):CallR X (.builtin "min") (fun xs H Q=>∃(p:Addr) (ns:List Int),xs=[.ref p]/\(SqL X.K H p (ns.map V.int)\/SqT X.K H p (ns.map V.int))/\ns ≠ []/\Q (.int (minL ns)) H):=by
 intro DI s σ H xs us Q I r h
 obtain⟨p,ns,rfl,hq,hne,q⟩:=h
 obtain⟨u,rfl,ru⟩:=vals1 r
 cases ru
 have core:∀(its:List Value),Vals (ns.map V.int) its->∃xs:Array (Int×Tok),its.toArray=intItems xs/\ns=xs.toList.map (·.1):=fun its rv=>by
  have hi:IntsAre its ns:=kF rv
  obtain⟨xs,e⟩:=hi.allInts.items
  exact⟨xs,e,by rw[<-hi.numsOf,<-nums_intItems,<-e]⟩
 have fin:∀(xs:Array (Int×Tok)),ns=xs.toList.map (·.1)->0<xs.size->∀(v:Value) (h':Heap) (tk:Nat),(intItems xs)[argBest (fun i j=>decide (numAt xs i<numAt xs j)) (xs.size-1)]?=some v->(∀b o,s.heap.get? b=some o->h'.get? b=some o)->EP X DI σ Q v { s with heap:=h',toks:=tk }:=fun xs hns hsz v h' tk hv hk=>by
  obtain⟨t,rfl⟩:=intItems_at hv
  have e:=xT5 hsz
  rw[<-hns] at e
  exact⟨.int _,H,I.kept hk,⟨t,by rw[e]⟩,q⟩
 have sz:∀xs:Array (Int×Tok),ns=xs.toList.map (·.1)->0<xs.size:=fun xs hns=>by
  rcases Dx xs.size with z | z
  ·exact absurd (by rw[hns,Array.size_eq_zero_iff.mp z];rfl) hne
  ·exact z
 rcases hq with hq | hq
 ·obtain⟨its,rv,pl,hz⟩:=I.list hq
  obtain⟨xs,e,hns⟩:=core its rv
  exact min_intList (I.ok.hd hc) (by rw[<-e];exact pl.isList) (sz xs hns) (fin xs hns (sz xs hns))
 ·obtain⟨its,rv,pl,hz⟩:=I.tuple hq
  obtain⟨xs,e,hns⟩:=core its rv
  exact xN2 (I.ok.hd hc) (by rw[<-e];exact pl) (sz xs hns) (fin xs hns (sz xs hns))
def yI4(hc:X.calm=true):CallR X (.builtin "max") (fun xs H Q=>∃(p:Addr) (ns:List Int),xs=[.ref p]/\(SqL X.K H p (ns.map V.int)\/SqT X.K H p (ns.map V.int))/\ns ≠ []/\Q (.int (maxL ns)) H):=by
 intro DI s σ H xs us Q I r h
 obtain⟨p,ns,rfl,hq,hne,q⟩:=h
 obtain⟨u,rfl,ru⟩:=vals1 r
 cases ru
 have core:∀(its:List Value),Vals (ns.map V.int) its->∃xs:Array (Int×Tok),its.toArray=intItems xs/\ns=xs.toList.map (·.1):=fun its rv=>by
  have hi:IntsAre its ns:=kF rv
  obtain⟨xs,e⟩:=hi.allInts.items
  exact⟨xs,e,by rw[<-hi.numsOf,<-nums_intItems,<-e]⟩
 have fin:∀(xs:Array (Int×Tok)),ns=xs.toList.map (·.1)->0<xs.size->∀(v:Value) (h':Heap) (tk:Nat),(intItems xs)[argBest (fun i j=>decide (numAt xs i > numAt xs j)) (xs.size-1)]?=some v->(∀b o,s.heap.get? b=some o->h'.get? b=some o)->EP X DI σ Q v { s with heap:=h',toks:=tk }:=fun xs hns hsz v h' tk hv hk=>by
  obtain⟨t,rfl⟩:=intItems_at hv
  have e:=xY3 hsz
  rw[<-hns] at e
  exact⟨.int _,H,I.kept hk,⟨t,by rw[e]⟩,q⟩
 have sz:∀xs:Array (Int×Tok),ns=xs.toList.map (·.1)->0<xs.size:=fun xs hns=>by
  rcases Dx xs.size with z | z
  ·exact absurd (by rw[hns,Array.size_eq_zero_iff.mp z];rfl) hne
  ·exact z
 rcases hq with hq | hq
 ·obtain⟨its,rv,pl,hz⟩:=I.list hq
  obtain⟨xs,e,hns⟩:=core its rv
  exact max_intList (I.ok.hd hc) (by rw[<-e];exact pl.isList) (sz xs hns) (fin xs hns (sz xs hns))
 ·obtain⟨its,rv,pl,hz⟩:=I.tuple hq
  obtain⟨xs,e,hns⟩:=core its rv
  exact xL4 (I.ok.hd hc) (by rw[<-e];exact pl) (sz xs hns) (fin xs hns (sz xs hns))
end
def min1D:List D->Option D
 | [d]=>(nsD d).bind fun ns=>if ns=[] then none else some (.int (minL ns))
 | _=>none
def max1D:List D->Option D
 | [d]=>(nsD d).bind fun ns=>if ns=[] then none else some (.int (maxL ns))
 | _=>none
def yS3{K:KFr}:PrC (fun xs H Q=>∃(p:Addr) (ns:List Int),xs=[.ref p]/\(SqL K H p (ns.map V.int)\/SqT K H p (ns.map V.int))/\ns ≠ []/\Q (.int (minL ns)) H) .cl min1D:=by
 intro Oc Ob H vs ds d Q oh va e k
 unfold min1D at e
 split at e
 ·obtain⟨ns,e1,e⟩:=AR.mp e
  split at e
  ·cases e
  ·rename_i hl
   cases e
   obtain⟨v,rfl,vx⟩:=va.one
   obtain⟨p,rfl,hq⟩:=zF1 vx e1
   exact⟨p,ns,rfl,hq,hl,k _ H (Same.refl H) (Rep.int _)⟩
 ·cases e
def xQ4{K:KFr}:PrC (fun xs H Q=>∃(p:Addr) (ns:List Int),xs=[.ref p]/\(SqL K H p (ns.map V.int)\/SqT K H p (ns.map V.int))/\ns ≠ []/\Q (.int (maxL ns)) H) .cl max1D:=by
 intro Oc Ob H vs ds d Q oh va e k
 unfold max1D at e
 split at e
 ·obtain⟨ns,e1,e⟩:=AR.mp e
  split at e
  ·cases e
  ·rename_i hl
   cases e
   obtain⟨v,rfl,vx⟩:=va.one
   obtain⟨p,rfl,hq⟩:=zF1 vx e1
   exact⟨p,ns,rfl,hq,hl,k _ H (Same.refl H) (Rep.int _)⟩
 ·cases e
def kO{α β:Type}{F:α->β->Prop}:∀{as:List α}{bs:List β},as.length=bs.length->(∀(i:Nat) a b,as[i]?=some a->bs[i]?=some b->F a b)->Paired F as bs
 | [],[],_,_=>.nil
 | [],_::_,h,_=>by cases h
 | _::_,[],h,_=>by cases h
 | a::as,b::bs,h,f=>.cons (f 0 a b rfl rfl) (kO (Nat.succ.inj h) fun i x y hx hy=>f (i+1) x y (by simpa using hx) (by simpa using hy))
section
variable {X:Cx}
def cI:CallR X (.type "range") (fun xs H Q=>∃j:Int,xs=[.int j]/\∀p,H p=none->Q (.ref p) (upd H p (.rng 0 j))):=by
 intro DI s σ H xs us Q I r h
 obtain⟨j,rfl,q⟩:=h
 obtain⟨u,rfl,t,rfl⟩:=vals1 r
 exact call_range_1 ⟨.ref s.heap.objs.size,_,I.laid (t':=s.toks+1+1) (o:=.rng 0 j) (fun b o e=>Af _ e) (Ak _) ⟨_,_,_,Aw _ rfl⟩,rfl,q _ (I.hok.fresh (Ak _))⟩
def cQ(hc:X.calm=true):CallR X (.type "list") (fun xs H Q=>∃(p:Addr) (j:Int),xs=[.ref p]/\H p=some (.rng 0 j)/\-(2 ^ 62)<=j/\j.toNat<=1000000/\∀l,H l=none->Q (.ref l) (upd H l (.lst ((List.range j.toNat).map fun (i:Nat)=>V.int (i:Int))))):=by
 intro DI s σ H xs us Q I r h
 obtain⟨p,j,rfl,hp,hs,hj,q⟩:=h
 obtain⟨u,rfl,ru⟩:=vals1 r
 cases ru
 obtain⟨t,u,v,e⟩:=I.hok p _ hp
 refine call_list_range (n:=j.toNat) (I.ok.hd hc) e (small_one (by rfl') (by rfl') hs (by rfl')) ?_ (by rfl') fun h' tk acc' c' hk hS hacc => ?_
 ·rw[rangeSize_one];split <;> rfl'
 ·have hv:Vals ((List.range j.toNat).map fun (i:Nat)=>V.int (i:Int)) acc'.toList:=by
   obtain⟨h1,h2⟩:=hacc
   refine kO ?_ ?_
   ·rw[Aa,Aj,BX,h1]
   ·intro i a b ha hb
    rw[Ai] at ha
    have hi:i<j.toNat:=by
     have:=(Ac.mp hb).1
     rw[BX,h1] at this
     exact this
    rw[AH hi] at ha
    cases ha
    obtain⟨t,e⟩:=h2 i b (by simpa using hb)
    refine⟨t,?_⟩
    rw[e]
    simp
  refine⟨.ref s.heap.objs.size,_,I.laid (t':=tk) (o:=.lst ((List.range j.toNat).map fun (i:Nat)=>V.int (i:Int))) hk (Ak _) ⟨?_,acc'.toList,c',hv,by simpa using hS⟩,rfl,q _ (I.hok.fresh (Ak _))⟩
  rw[Aa,Aj]
  exact BC (Cn hj (by decide))
end
def rangeL:List D->Option D
 | [.int j]=>if -(2 ^ 62)<=j/\j.toNat<=1000000 then some (.list ((List.range j.toNat).map fun (i:Nat)=>PyData.int (i:Int))) else none
 | _=>none
def yE5{H:Hp}{O:Addr->Prop}(l:List Nat):Reps H O (l.map fun (i:Nat)=>V.int (i:Int)) (l.map fun (i:Nat)=>PyData.int (i:Int)):=by
 induction l with
 | nil=>exact .nil
 | cons a l ih=>exact .cons (.int _) ih
def zF5{C:Ct}{a:Expr}{p p2 pos pos2:Pos}{ms:Ev->Res (List D)}(hl:C.X.mg "list" = none)(hm:C.X.mg "range" = none)(ha:RArg C false [a] ms)(hc:autoParam (C.X.calm=true) DH)(hgl:autoParam (Gl C.X "list") DH)(hg:autoParam (Gl C.X "range") DH)
  (hs:autoParam (starEach [a] C.X.env=(false,eval a C.X.env)::starEach [] C.X.env) DH) (hs2:autoParam (starEach [.Call (.Name "range" p2) [a] [] pos2] C.X.env=(false,eval (.Call (.Name "range" p2) [a] [] pos2) C.X.env)::starEach [] C.X.env) DH)
  (hpl:autoParam ((backTo pos (starEach [] C.X.env)).any (·.1)=false) DH) (hpl2:autoParam ((backTo pos2 (starEach [] C.X.env)).any (·.1)=false) DH) :
  RE C .new (.Call (.Name "list" p) [.Call (.Name "range" p2) [a] [] pos2] [] pos) (eB rangeL ms):=by
 obtain⟨t,pa,q⟩:=ha
 refine⟨_,yF (cQ hc) hgl hl (by rfl) (zT (yF cI hg hm (by rfl) pa (by decide) (by decide) hs hpl2) zL hs2) (by decide) (by decide) hs2 hpl,fun Oc Ob σ H ρ Q R h=>q Oc Ob σ H ρ _ R (Res.zQ (Res.zX h) (fun ds _ k vs H1 s1 r => ?_) fun _ z=>z)⟩
 obtain⟨d,e,k⟩:=Res.zD k
 unfold rangeL at e
 split at e
 ·split at e
  ·rename_i hb
   cases e
   obtain⟨v,rfl,va⟩:=VAs.one r
   obtain rfl:=va.int
   refine⟨_,rfl,fun p hp=>⟨p,_,rfl,zS,hb.1,hb.2,fun l hl => ?_⟩⟩
   exact k _ _ ((s1.trans (Same.new hp)).trans (Same.new hl)) (xU (s1.trans (Same.new hp)) hl (yE5 _))
  ·cases e
 ·cases e
section
variable {X:Cx}
def rExtR:V->List V->Hp->VK->Prop:=fun x vs H Q=>∃l b xs zs,x=.ref l/\vs=[.ref b]/\H l=some (.lst xs)/\(Rd H b (.lst zs)\/Rd H b (.tup zs))/\xs.length+zs.length<=sizeLine/\Q .non (upd H l (.lst (xs++zs)))
def xH1:MtM X "list.extend" rExtR:=by
 intro DI s σ H x vs v us Q I rx rv h
 obtain⟨l,b,xs,zs,rfl,rfl,hH,hB,hz,q⟩:=h
 cases rx
 obtain⟨u,rfl,ru⟩:=rv.one
 cases ru
 obtain⟨z,its,n,r,hl,e⟩:=I.lstM hH
 have len:(xs++zs).length<=sizeLine:=by rw[Ao];exact hz
 rcases hB with hB | hB
 ·obtain⟨z2,its2,n2,r2,hl2,e2⟩:=Rd.lstM I hB
  have hsz:its.toArray.size+its2.toArray.size<=sizeLine:=by rw[Am,Am];rfl'
  have hlong:¬(!its.toArray.isEmpty&&Builtin.List.listTooLong (its.toArray.size+its2.toArray.size))=true:=by
   rw[notLongL hsz,Bool.and_false]
   exact AK
  refine call_meets F.slot_list_extend ⟨_,e,rfl⟩ F.entry_list_extend (F.args_list_extend_2 _ _)
   (AutoSeq1.list_extend_list_list_0 l its.toArray n b its2.toArray n2 hlong (by rw[Am];rfl') (by rfl')) ⟨e,e2,?_⟩
  exact⟨.non,_,I.lset (its':=its++its2) hH e (by simp) (r.append r2) len,rfl,q⟩
 ·obtain⟨z2,its2,r2,o,ho,hc,⟨n2,hd⟩,_⟩:=hB.ok I.hok
  have hl2:=r2.length
  have hsz:its.toArray.size+its2.toArray.size<=sizeLine:=by rw[Am,Am];rfl'
  refine call_meets F.slot_list_extend ⟨_,e,rfl⟩ F.entry_list_extend (F.args_list_extend_2 _ _)
   (xQ2 hc hd hsz) ⟨e,ho,?_⟩
  exact⟨.non,_,I.lset (its':=its++its2) hH e (by simp) (r.append r2) len,rfl,q⟩
end
def appD:List D->List D->Option (List D)
 | xs,[d]=>if xs.length<sizeLine then some (xs ++ [d]) else none
 | _,_=>none
def extD:List D->List D->Option (List D)
 | xs,[d]=>(seqD d).bind fun ys=>if xs.length+ys.length<=sizeLine then some (xs++ys) else none
 | _,_=>none
def Reps.one'{H:Hp}{O:Addr->Prop}{vs:List V}{d:D}(h:Reps H O vs [d]):∃v,vs=[v]/\Rep H O v d:=by
 cases h with
 | cons a t=>cases t;exact⟨_,rfl,a⟩
def vS:PrM rAppend appD:=by
 intro O H l xs vs xd ad ds' Q hl rx ra e k
 unfold appD at e
 split at e
 ·split at e
  ·rename_i h
   cases e
   obtain⟨v,rfl,rv⟩:=Reps.one' ra
   exact⟨l,xs,v,rfl,rfl,hl,by rw[rx.length];exact h,k _ (rx.append (.one rv))⟩
  ·cases e
 ·cases e
section
variable {i j:Nat}{m n:Ev->Res Out}{t:Ev->Res Bool}{me mk:Ev->Res D}{ms mi:Ev->Res (List D)}{g:D->Ev->Option Ev}{f:List D->List D->Option (List D)}
end
def isL:Value->Bool
 | .type t=>t == "list"
 | _=>false
def noLst(K:KFr):Bool:=K.all fun p=>!isL p.2.cls
def yX8{K:KFr}{a:Addr}{o:Obj}(h:K.lookup a=some o):(a,o)∈K:=by
 have h:List.lookup a K=some o:=h
 induction K with
 | nil=>cases h
 | cons p r ih =>
  obtain⟨b,u⟩:=p
  rw[Bu] at h
  by_cases e:(a == b)=true
  ·simp only[e] at h
   cases h
   have:a=b:=by simpa using e
   rw[this]
   exact Ae
  ·simp only[e] at h
   exact Ad _ (ih h h)
def wW5{K:KFr}{H:Hp}{a:Addr}{xs:List V}(hn:noLst K=true)(h:SqL K H a xs):Rd H a (.lst xs):=by
 rcases h with h | ⟨o,its,n,hk,hc,_⟩
 ·exact h
 ·have:=AF.mp hn _ (yX8 hk)
  rw[hc] at this
  cases this
end L2.L3
namespace L2.L3
open PySem
section
variable (m n:Ev->Res Out) (t t':Ev->Res Bool) (a b c:Ev->Res D) (xs:Ev->Res (List D)) (ρ:Ev) (i j:Nat) (d:D)
def wV7:sN ρ=.ok (.nx ρ):=rfl
def wW3:sX ρ=.no:=rfl
def wY5:sQ m n ρ=(m ρ).bind fun o=>match o with | .nx ρ'=>n ρ' | .rt d=>.ok (.rt d):=rfl
def xB1:sIf t m n ρ=(t ρ).bind fun k=>if k then m ρ else n ρ:=rfl
def zH9:sR a ρ=(a ρ).bind fun d=>.ok (.rt d):=rfl
def wX5:sS i a ρ=(a ρ).bind fun d=>.ok (.nx (ρ.set i (some d))):=rfl
def wU3:sE a ρ=(a ρ).bind fun _=>.ok (.nx ρ):=rfl
def wW2(g:List D->List D->Option (List D)):sM i g xs ρ=(eV i ρ).bind fun d=>(Res.lft (lstD d)).bind fun xd=>(xs ρ).bind fun ad=>(Res.lft (g xd ad)).bind fun ds=>.ok (.nx (ρ.set i (some (.list ds)))):=rfl
def wV4:sI i b a ρ=(a ρ).bind fun v=>(eV i ρ).bind fun d=>(Res.lft (lstD d)).bind fun xd=>(b ρ).bind fun k=>(Res.lft (setD xd k v)).bind fun ds=>.ok (.nx (ρ.set i (some (.list ds)))):=rfl
def wU6:sV i j ρ=(eV j ρ).bind fun d=>.ok (.nx ((ρ.set i (some d)).set j none)):=rfl
def wT2(g:D->Ev->Option Ev):sF xs g m ρ=(xs ρ).bind fun ds=>forM g m ds ρ:=rfl
def wW1(k:Nat):sW k t m ρ=whM t m k ρ:=rfl
def zG1:eC d ρ=.ok d:=rfl
def eV0(x:D)(r:Ev):eV 0 (some x::r)=.ok x:=rfl
def eVs(o:Option D)(r:Ev):eV (i+1) (o::r)=eV i r:=rfl
def wU1(f:D->Option D):e1 f a ρ=(a ρ).bind fun x=>Res.lft (f x):=rfl
def zH6(f:D->D->Option D):e2 f a b ρ=(a ρ).bind fun x=>(b ρ).bind fun y=>Res.lft (f x y):=rfl
def zI9(f:List D->Option D):eB f xs ρ=(xs ρ).bind fun ds=>Res.lft (f ds):=rfl
def wV2(f:List D->Res D):eF f xs ρ=(xs ρ).bind f:=rfl
def xB3(fr:Bool)(f:List D->Res D):eFA fr f xs ρ=(xs ρ).bind fun ds=>(f ds).bind fun d=>if lfT fr d then .ok d else .no:=rfl
def wY7(f:D->D->Option Bool):b2 f a b ρ=(a ρ).bind fun x=>(b ρ).bind fun y=>Res.lft (f x y):=rfl
def zH4(f g:D->D->Option Bool):b3 f g a b c ρ=(a ρ).bind fun x=>(b ρ).bind fun y=>(Res.lft (f x y)).bind fun k=>if k then (c ρ).bind fun z=>Res.lft (g y z) else .ok false:=rfl
def zG5:vB t ρ=(t ρ).bind fun k=>.ok (.bool k):=rfl
def wT4:tV a ρ=(a ρ).bind fun d=>Res.lft (isB d):=rfl
def xA3:tNt t ρ=(t ρ).bind fun k=>.ok (!k):=rfl
def xE7:tAn t t' ρ=(t ρ).bind fun k=>if k then t' ρ else .ok false:=rfl
def wV5:tO t t' ρ=(t ρ).bind fun k=>if k then .ok true else t' ρ:=rfl
def zS1:vAn a b ρ=(a ρ).bind fun d=>(Res.lft (isB d)).bind fun k=>if k then b ρ else .ok (.bool false):=rfl
def wY9:vO a b ρ=(a ρ).bind fun d=>(Res.lft (isB d)).bind fun k=>if k then .ok (.bool true) else b ρ:=rfl
def xD9:vNt a ρ=(a ρ).bind fun d=>(Res.lft (isB d)).bind fun k=>.ok (.bool (!k)):=rfl
def xC7:eIf t a b ρ=(t ρ).bind fun k=>if k then a ρ else b ρ:=rfl
def zH1:aN ρ=.ok []:=rfl
def zG4:aC a xs ρ=(a ρ).bind fun x=>(xs ρ).bind fun r=>.ok (x::r):=rfl
def wX4:iS a ρ=(a ρ).bind fun d=>Res.lft (seqD d):=rfl
def wW8(f:List D->Option (List D)):iR f xs ρ=(xs ρ).bind fun ds=>Res.lft (f ds):=rfl
def wW6:gN i d ρ=some (ρ.set i (some d)):=rfl
def xL6:tYes ρ=.ok true:=rfl
def xU4(mi:Ev->Res (List D))(js:List Nat):eComp mi t a js ρ=(mi ρ).bind fun ds=>if ds.length<=sizeLine then (compM (fun x=>t (cEnv ρ js x)) (fun x=>a (cEnv ρ js x)) ds).bind fun out=>.ok (.list out) else .no:=rfl
def wU2(f:Int->Int->Option Int)(x y:Int):i2 f (.int x) (.int y)=(f x y).map PyData.int:=rfl
def zH8(f:Int->Int->Bool)(x y:Int):c2 f (.int x) (.int y)=some (f x y):=rfl
def xI1(l:List D):lstD (.list l)=some l:=rfl
def yJ5(l:List D):seqD (.list l)=some l:=rfl
def yB1(l:List D):seqD (.tuple l)=some l:=rfl
def zV8(k:Bool):isB (.bool k)=some k:=rfl
def zM4:lenD [d]=(seqD d).map fun ds=>.int ds.length:=rfl
def xV3:listD [d]=(seqD d).map fun ds=>.list ds:=rfl
def xK5:tupD [d]=(seqD d).map fun ds=>.tuple ds:=rfl
def wX2(l:List D)(k:Int):ixD (.list l) (.int k)=atI l k:=rfl
def wX8(l:List D)(k:Int):ixD (.tuple l) (.int k)=atI l k:=rfl
def xO3(k:Int):negD (.int k)=some (.int (-k)):=rfl
def zH5(k:Bool):bD (some k)=some (.bool k):=rfl
end
def zT6(fr:Bool)(d:D):fin fr (.rt d)=.ok d:=rfl
def xC2(ρ:Ev):fin false (.nx ρ)=.ok .none:=rfl
def jZ{g:D->Ev->Option Ev}{b:Ev->Res Out}(P:Nat->Ev->Prop)(ds:List D)(ρ:Ev)(h0:P 0 ρ)(hs:∀(i:Nat) d ρ,ds[i]?=some d->P i ρ->∃ρ1 ρ2,g d ρ=some ρ1/\b ρ1=.ok (.nx ρ2)/\P (i+1) ρ2) :
  ∃ρ',forM g b ds ρ=.ok (.nx ρ')/\P ds.length ρ':=by
 induction ds generalizing P ρ with
 | nil=>exact⟨ρ,rfl,h0⟩
 | cons d ds ih =>
  obtain⟨ρ1,ρ2,e1,e2,p⟩:=hs 0 d ρ rfl h0
  obtain⟨ρ',e,p'⟩:=ih (fun i=>P (i+1)) ρ2 p fun i d ρ hd hp=>hs (i+1) d ρ (by simpa using hd) hp
  refine⟨ρ',?_,by simpa using p'⟩
  rw[forM,e1,Res.lft_some,Res.bind_ok,e2,Res.bind_ok]
  exact e
def yD5{t:Ev->Res Bool}{b:Ev->Res Out}(P:Nat->Ev->Prop)(n:Nat):∀(fuel:Nat) (ρ:Ev),P 0 ρ->(∀i ρ,i<n->P i ρ->t ρ=.ok true/\∃ρ2,b ρ=.ok (.nx ρ2)/\P (i+1) ρ2)->(∀ρ,P n ρ->t ρ=.ok false)->n<fuel->∃ρ',whM t b fuel ρ=.ok (.nx ρ')/\P n ρ':=by
 induction n generalizing P with
 | zero =>
  intro fuel ρ h0 _ he hf
  obtain⟨f,rfl⟩:∃f,fuel=f+1:=⟨fuel-1,by rfl'⟩
  refine⟨ρ,?_,h0⟩
  rw[whM,he ρ h0]
  rfl
 | succ n ih =>
  intro fuel ρ h0 hs he hf
  obtain⟨f,rfl⟩:∃f,fuel=f+1:=⟨fuel-1,by rfl'⟩
  obtain⟨e1,ρ2,e2,p⟩:=hs 0 ρ (Nat.succ_pos _) h0
  obtain⟨ρ',e,p'⟩:=ih (fun i=>P (i+1)) f ρ2 p (fun i ρ hi hp=>hs (i+1) ρ (by rfl') hp) he (by rfl')
  refine⟨ρ',?_,p'⟩
  rw[whM,e1,Res.bind_ok,Aq rfl,e2,Res.bind_ok]
  exact e
def aY{t:D->Res Bool}{f:D->Res D}{α:Type}(A:α->D)(p:α->Bool)(q:α->D):∀(xs:List α),(∀x∈xs,t (A x)=.ok (p x))->(∀x∈xs,p x=true->f (A x)=.ok (q x))->compM t f (xs.map A)=.ok ((xs.filter p).map q)
 | [],_,_=>rfl
 | x::xs,ht,hf=>by
  have ih:=aY A p q xs (fun y hy=>ht y (Ad _ hy)) (fun y hy=>hf y (Ad _ hy))
  rw[AU,compM,ht x Ae]
  cases hp:p x with
  | false=>simp only[noEx,Res.bind_ok,AV,if_false,CJ,hp];exact ih
  | true =>
   rw[hf x Ae hp,ih]
   simp[noEx,CJ,hp]
abbrev tI(ns:List Int):D:=.tuple (ns.map PyData.int)
abbrev lI(ns:List Int):D:=.list (ns.map PyData.int)
def xF{α β:Type}(f:α->β)(xs:List α)(i:Int):atI (xs.map f) i=(atI xs i).map f:=by
 unfold atI
 rw[Aa]
 cases ixN xs.length i with
 | none=>rfl
 | some j=>simp
def xL{xs:List Int}{j:Nat}(h:j<xs.length):atI xs (j:Int)=some (xs.getD j 0):=by
 refine zQ5 ?_
 rw[AD,Ab h]
 rfl
def aX{ds:List D}(h:ds.length<=1000):mkL ds=some (.list ds):=by
 unfold mkL
 exact Aq (BC (small1000 h))
def zQ1{ds:List D}(h:ds.length<=1000):mkT ds=some (.tuple ds):=by
 unfold mkT
 exact Aq (BC (small1000 h))
def mkL0:mkL []=some (.list []):=aX (by simp)
def mkL1(a:D):mkL [a]=some (.list [a]):=aX (by simp)
def mkL2(a b:D):mkL [a,b]=some (.list [a,b]):=aX (by simp)
def mkL3(a b c:D):mkL [a,b,c]=some (.list [a,b,c]):=aX (by simp)
def mkL4(a b c d:D):mkL [a,b,c,d]=some (.list [a,b,c,d]):=aX (by simp)
def mkT0:mkT []=some (.tuple []):=zQ1 (by simp)
def mkT1(a:D):mkT [a]=some (.tuple [a]):=zQ1 (by simp)
def mkT2(a b:D):mkT [a,b]=some (.tuple [a,b]):=zQ1 (by simp)
def mkT3(a b c:D):mkT [a,b,c]=some (.tuple [a,b,c]):=zQ1 (by simp)
def gK{l:List D}{d:D}(h:l.length<=1000):appD l [d]=some (l ++ [d]):=Aq (small1000 h)
def yC2{l k:List D}{d:D}(hd:seqD d=some k)(h:l.length+k.length<=1000):extD l [d]=some (l++k):=by
 show (seqD d).bind (fun ys=>if l.length+ys.length<=sizeLine then some (l++ys) else none)=_
 rw[hd]
 exact Aq (BC (small1000 h))
def yU5{ds:List D}{r:Res D}(h:ds.length<=1000):(if ds.length<=sizeLine then r else .no)=r:=Aq (BC (small1000 h))
def aL{n:Nat}(h:n<=1000):rng1 [.int (n:Int)]=some ((List.range n).map fun (i:Nat)=>PyData.int (i:Int)):=by
 unfold rng1
 simp only
 rw[Aq ⟨by rfl',by rfl'⟩,AI]
def yP1{n i:Nat}{d:D}(h:((List.range n).map fun (i:Nat)=>PyData.int (i:Int))[i]?=some d):i<n/\d=.int (i:Int):=by
 rw[Ai] at h
 by_cases hi:i<n
 ·rw[AH hi] at h
  cases h
  exact⟨hi,rfl⟩
 ·rw[BP (by simpa using hi)] at h
  cases h
def kI(i:Int):SeqAt.shaped (.int i)=true:=rfl
def zZ1(i j:Int):PyData.eqv (.int i) (.int j)=decide (i=j):=by
 rw[PyData.eqv]
 exact Bool.beq_eq_decide_eq i j
def aS(i j:Int):eqD (.int i) (.int j)=some (decide (i=j)):=by
 unfold eqD
 rw[Aq ⟨kI i,kI j⟩,zZ1]
def uD(i j:Int):neD (.int i) (.int j)=some (!decide (i=j)):=by
 unfold neD
 rw[Aq ⟨kI i,kI j⟩,zZ1]
def xD4(ns ms:List Int):eqD (lI ns) (lI ms)=some (decide (ns=ms)):=by
 unfold eqD
 rw[Aq ⟨jX ns,jX ms⟩,yS8]
def yJ1(ns ms:List Int):neD (tI ns) (tI ms)=some (!decide (ns=ms)):=by
 unfold neD
 rw[Aq ⟨cH ns,cH ms⟩,xL9]
abbrev rows(rs:List (List Int)):D:=.list (rs.map tI)
def zO3{n m:Nat}(h:m<n):ixN n (m:Int)=some m:=by
 unfold ixN
 rw[Aq (by rfl'),Aq (by rfl'),AI]
def yE9{n m:Nat}(h:m<n)(f:Nat->D)(v:D):((List.range n).map f).set m v=(List.range n).map fun c=>if c=m then v else f c:=by
 apply List.ext_getElem?
 intro i
 by_cases e:m=i
 ·subst e
  rw[Bv (by simpa using h),Ai,AH h]
  simp
 ·rw[AZ e,Ai,Ai]
  cases q:(List.range n)[i]? with
  | none=>rfl
  | some c =>
   have:c=i:=by
    have hi:=(Ac.mp q).1
    rw[AH (by simpa using hi)] at q
    cases q;rfl
   subst this
   show some (f c)=some (if c=m then v else f c)
   rw[AJ (fun z=>e z.symm)]
def yL6{n m:Nat}(h:m<n)(f:Nat->D)(v:D):setD ((List.range n).map f) (.int (m:Int)) v=some ((List.range n).map fun c=>if c=m then v else f c):=by
 unfold setD
 simp only
 rw[Aa,Aj,zO3 h,Bs,yE9 h]
def yZ7(v:D)(n:Nat)(h:n<=1000):repL (.list [v]) (.int (n:Int))=some (.list (List.replicate n v)):=by
 unfold repL
 simp only
 rw[Aq ⟨by rfl',by rfl',by rw[Bc,AI];exact BC (small1000 (by rfl'))⟩,AI]
 congr 2
 induction n with
 | zero=>rfl
 | succ n ih=>rw[Bq,BH,ih (by rfl'),Bq];rfl
def zI3{α:Type}(v:α)(n:Nat):List.replicate n v=(List.range n).map fun _=>v:=by
 apply List.ext_getElem?
 intro i
 rw[Bi,Ai]
 by_cases h:i<n
 ·rw[Aq h,AH h];rfl
 ·rw[AJ h,BP (by simpa using h)];rfl
def zJ6{n m:Nat}(h:m<n)(f:Nat->D):atI ((List.range n).map f) (m:Int)=some (f m):=zQ5 (by rw[Ai,AH h];rfl)
def yL3{n:Nat}(h:n<=1000):rangeL [.int (n:Int)]=some (lI ((List.range n).map fun (i:Nat)=>(i:Int))):=by
 unfold rangeL
 simp only
 rw[Aq ⟨by rfl',by rfl'⟩,AI]
 congr 2
 rw[AX]
 rfl
def yA8{ns:List Int}(h:ns.length<=63):sortD [lI ns]=some (lI (sortI ns)):=by
 unfold sortD
 simp only[nsD,seqD,Bg,intsOf_map]
 rw[Aq (by rfl')]
def xN1{ns:List Int}(h:ns ≠ []):min1D [tI ns]=some (.int (minL ns)):=by
 unfold min1D
 simp only[nsD,seqD,Bg,intsOf_map]
 rw[AJ h]
def xO8{ns:List Int}(h:ns ≠ []):min1D [lI ns]=some (.int (minL ns)):=by
 unfold min1D
 simp only[nsD,seqD,Bg,intsOf_map]
 rw[AJ h]
section
variable (i:Int) (b:Bool) (l:List D)
def xB9:isiD "int" (.int i)=some (.bool true):=rfl
def xC9:isiD "bool" (.int i)=some (.bool false):=rfl
def xH6:isiD "bool" (.bool b)=some (.bool true):=rfl
def wZ3:isiD "int" (.bool b)=some (.bool true):=rfl
def xG9:isiD "tuple" (.tuple l)=some (.bool true):=rfl
def xD5:isiD "list" (.list l)=some (.bool true):=rfl
def xH7:isiD "tuple" (.list l)=some (.bool false):=rfl
def xE4:isiD "list" (.tuple l)=some (.bool false):=rfl
def xF1:isiD "tuple" .none=some (.bool false):=rfl
def xE9:isiD "bool" .none=some (.bool false):=rfl
end
def xU3{mi:Ev->Res (List D)}{t:Ev->Res Bool}{me:Ev->Res D}{js:List Nat}{ρ:Ev}{α:Type}(A:α->D)(p:α->Bool)(q:α->D)(xs:List α)(h:mi ρ=.ok (xs.map A))(hl:xs.length<=1000)
  (ht:∀x∈xs,t (cEnv ρ js (A x))=.ok (p x)) (hf:∀x∈xs,p x=true->me (cEnv ρ js (A x))=.ok (q x)):eComp mi t me js ρ=.ok (.list ((xs.filter p).map q)):=by
 rw[xU4,h,Res.bind_ok,yU5 (by rw[Aa];exact hl),aY A p q xs ht hf]
 rfl
def vR{mi:Ev->Res (List D)}{me:Ev->Res D}{js:List Nat}{ρ:Ev}{α:Type}(A:α->D)(q:α->D)(xs:List α)(h:mi ρ=.ok (xs.map A))(hl:xs.length<=1000)
  (hf:∀x∈xs,me (cEnv ρ js (A x))=.ok (q x)):eComp mi tYes me js ρ=.ok (.list (xs.map q)):=by
 rw[xU3 A (fun _=>true) q xs h hl (fun _ _=>rfl) (fun x hx _=>hf x hx),List.filter_eq_self.mpr fun _ _=>rfl]
end L2.L3
namespace L2.L3
def zA6{α:Type}(a:α)(l:List α):atI (a::l) 0=some a:=zQ5 (j:=0) rfl
end L2.L3
namespace HT
open PySem PySem.Spec PyProof.Rows
section
variable {prog:Program}{w:World}{A:Around}{E:Value->Shared->Prop}{s:Shared}
def zZ3{t sl:Addr}{items:Array Value}{vl vu:Value}{lo hi:Option Int}{Q:Value->Shared->Prop}(ht:IsTup s.heap t items)(hs:s.heap.IsSliceOf sl vl vu .none)(pl:IsPart vl lo)(pu:IsPart vu hi)
  (hw:sIx items.size 0 lo=0/\sIx items.size items.size hi=items.size) (h:Q (.ref t) s):wpAny (model prog w) A (getItem (.ref t) (.ref sl)) Q E s:=by
 obtain⟨os,hos,hcs,hds⟩:=id hs
 have hTs:s.TypeIs (.ref sl) "slice":=⟨os,hos,hcs⟩
 unfold getItem
 try with_reducible refine wpAny_holding ?_
 first | refine Ah (Ax ?_) | skip
 refine Ah (wpAny_sequenceKey ht.typeIs (by decide) ?_)
 refine Ah (wpAny_callSpecial?_slot (name:=Str.ofString "__getitem__") ht.typeIs BO
  (wpAny_call_entry BO ht.typeIs entry_tuple_getitem ?_ (args_tuple_getitem _ _)))
 show wpAny _ _ (Builtin.Tuple.tupleItemsOf (.ref t) >>= _) _ _ s
 refine Ah (tupleItemsOf_ ht ?_)
 refine Ah (wpAny_typeOf hTs ?_)
 rw[Aq (by decide)]
 refine Ah (gP hs pl pu ?_)
 have hyes:(((sIx items.size 0 lo:Nat):Int) == 0&&(1:Int) == 1&&(sIx items.size items.size hi-sIx items.size 0 lo) == items.size)=true:=by
  rw[hw.1,hw.2]
  simp
 show wpAny _ _ (if (((sIx items.size 0 lo:Nat):Int) == 0&&(1:Int) == 1&&(sIx items.size items.size hi-sIx items.size 0 lo) == items.size)=true then _ else _) _ _ s
 rw[Aq hyes]
 unfold Builtin.Tuple.tupleIsExact
 refine Ah (Ah (wpAny_typeOf ht.typeIs (Ax ?_)))
 rw[Aq (by decide)]
 refine Ah (wpAny_rule ?_)
 exact Ax ⟨_,rfl,Ax h⟩
end
end HT
namespace L2.L3
open PySem PySem.Spec PyProof.Rows
variable [CN]
section
variable {X:Cx}
def rSlTA(K:KFr):V->Option Int->Option Int->Hp->VK->Prop:=fun x lo hi H Q=>∃a xs,x=.ref a/\SqT K H a xs/\HT.sIx xs.length 0 lo=0/\HT.sIx xs.length xs.length hi=xs.length/\Q (.ref a) H
def xN8:SlR X (rSlTA X.K):=by
 intro DI s σ H x v vl vu lo hi sl Q I rx hs pl pu h
 obtain⟨a,xs,rfl,hx,hw1,hw2,q⟩:=h
 cases rx
 obtain⟨its,r,ht,hz⟩:=I.tuple hx
 have hlen:its.toArray.size=xs.length:=by rw[Am];exact r.length.symm
 refine⟨"tuple",_,BO.lookup,ht.typeIs,?_⟩
 exact HT.zZ3 ht hs pl pu (by rw[hlen];exact⟨hw1,hw2⟩) ⟨.ref a,H,I,rfl,q⟩
end
def RO(C:Ct)(e:Option Expr)(m:Ev->Res (Option Int)):Prop :=
 ∃t,PO C.X e t/\∀(Oc:Wd) (Ob:Addr->Prop) (σ:St) (H:Hp) (ρ:Ev) (Q:Option Int->Hp->Prop),Rel Oc Ob C.om C.ln σ H ρ ->
  (m ρ).post (fun d=>∀H',Same H H'->Q d H') (fun c=>∀H',Same H H'->C.XE c H')->t σ H Q
def oN:Ev->Res (Option Int):=fun _=>.ok none
def isI:D->Option Int
 | .int i=>some i
 | _=>none
def oS(m:Ev->Res D):Ev->Res (Option Int):=fun ρ=>(m ρ).bind fun d=>(Res.lft (isI d)).bind fun i=>.ok (some i)
def aA{C:Ct}:RO C none oN:=⟨_,xI5,fun Oc Ob σ H ρ Q R h=>h H (Same.refl H)⟩
def vC{C:Ct}{e:Expr}{md:Md}{me:Ev->Res D}(h:RE C md e me):RO C (some e) (oS me):=by
 obtain⟨t,p,q⟩:=h
 refine⟨_,xI2 p,fun Oc Ob σ H ρ Q R h=>q Oc Ob σ H ρ _ R (Res.zQ (Res.zX h) (fun d _ k v H' s r => ?_) fun _ z=>z)⟩
 obtain⟨i,e,k⟩:=Res.zD (Res.zX k)
 cases d with
 | int j=>cases e;exact⟨i,(r.va R.oh).int,k H' s⟩
 | _=>cases e
def eS(f:D->Option Int->Option Int->Option D)(m:Ev->Res D)(lo hi:Ev->Res (Option Int)):Ev->Res D:=fun ρ=>(m ρ).bind fun x=>(lo ρ).bind fun l=>(hi ρ).bind fun u=>Res.lft (f x l u)
def PrS(r:V->Option Int->Option Int->Hp->VK->Prop)(md:Md)(f:D->Option Int->Option Int->Option D):Prop :=
 ∀(Oc:Wd) (Ob:Addr->Prop) (H:Hp) (x:V) (dx:D) (lo hi:Option Int) (d:D) (Q:VK),(∀a,Oc a\/Ob a->H a≠none)->VA Oc Ob H x dx->f dx lo hi=some d->(∀v H',Same H H'->VR md Oc Ob H H' v d->Q v H')->r x lo hi H Q
def zC7{C:Ct}{e:Expr}{lo hi:Option Expr}{md mda:Md}{me:Ev->Res D}{ml mh:Ev->Res (Option Int)}{p2 pos:Pos}{r:V->Option Int->Option Int->Hp->VK->Prop}{f:D->Option Int->Option Int->Option D}(hr:SlR C.X r)(hp:PrS r md f)(he:RE C mda e me)(hl:RO C lo ml)(hu:RO C hi mh) :
  RE C md (.Subscript e (.Slice lo hi none p2) pos) (eS f me ml mh):=by
 obtain⟨t,p,q⟩:=he
 obtain⟨tl,pl,ql⟩:=hl
 obtain⟨th,ph,qh⟩:=hu
 refine⟨_,xS1 hr p pl ph,fun Oc Ob σ H ρ Q R h=>q Oc Ob σ H ρ _ R (Res.zQ (Res.zX h) (fun d _ k v H1 s1 r => ?_) fun _ z=>z)⟩
 refine ql Oc Ob σ H1 ρ _ (R.same s1) (Res.zQ (Res.zX k) (fun l _ k H2 s2 => ?_) fun c z H' s'=>z H' (s1.trans s'))
 refine qh Oc Ob σ H2 ρ _ ((R.same s1).same s2) (Res.zQ (Res.zX k) (fun u _ k H3 s3 => ?_) fun c z H' s'=>z H' ((s1.trans s2).trans s'))
 obtain⟨d',e,k⟩:=Res.zD k
 have R3:=((R.same s1).same s2).same s3
 refine hp Oc Ob H3 v d l u d' Q R3.oh ((r.va R.oh).same (s2.trans s3)) e fun w H' s4 rw' => ?_
 exact k w H' (((s1.trans s2).trans s3).trans s4) (rw'.from ((s1.trans s2).trans s3))
def cutD{α:Type}(xs:List α)(lo hi:Option Int):List α:=(xs.drop (HT.sIx xs.length 0 lo)).take (HT.sIx xs.length xs.length hi-HT.sIx xs.length 0 lo)
def zL4{H:Hp}{O:Addr->Prop}{vs:List V}{ds:List D}(r:Reps H O vs ds)(lo hi:Option Int):Reps H O (cutV vs lo hi) (cutD ds lo hi):=by
 unfold cutV cutD
 rw[r.length]
 exact (r.drop _).take _
def slL:D->Option Int->Option Int->Option D
 | .list ds,lo,hi=>some (.list (cutD ds lo hi))
 | _,_,_=>none
def slD:D->Option Int->Option Int->Option D
 | .list ds,lo,hi=>some (.list (cutD ds lo hi))
 | .tuple ds,lo,hi=>some (.tuple (cutD ds lo hi))
 | _,_,_=>none
def xM8{α:Type}{xs:List α}{lo hi:Option Int}(h1:HT.sIx xs.length 0 lo=0)(h2:HT.sIx xs.length xs.length hi=xs.length):cutD xs lo hi=xs:=by
 unfold cutD
 rw[h1,h2,CW,Nat.sub_zero,BK]
def xD6{K:KFr}:PrS (fun x lo hi H Q=>rSlL K x lo hi H Q\/rSlT K x lo hi H Q\/rSlTA K x lo hi H Q) .cl slD:=by
 intro Oc Ob H x dx lo hi d Q oh va e k
 cases dx with
 | list ds =>
  cases e
  obtain⟨a,ys,rfl,rd,rs⟩:=va.list
  exact .inl ⟨a,ys,rfl,.inl rd,fun p hp=>k _ _ (Same.new hp) (VR.clean (xU (Same.refl H) hp (zL4 rs lo hi)) oh)⟩
 | tuple ds =>
  cases e
  rcases va with va | ⟨_,_,_,_,ez,_⟩
  ·cases va with
   | @tup a ys _ rd n rs =>
    by_cases hw:HT.sIx ys.length 0 lo=0/\HT.sIx ys.length ys.length hi=ys.length
    ·refine .inr (.inr ⟨a,ys,rfl,.inl rd,hw.1,hw.2,k _ H (Same.refl H) ?_⟩)
     rw[xM8 (by rw[<-rs.length];exact hw.1) (by rw[<-rs.length];exact hw.2)]
     exact .tup rd n rs
    ·exact .inr (.inl ⟨a,ys,rfl,.inl rd,hw,fun p hp=>k _ _ (Same.new hp) (dO oh hp (zL4 rs lo hi))⟩)
  ·cases ez
 | _=>cases e
def gA{C:Ct}{e:Expr}{lo hi:Option Expr}{mda:Md}{me:Ev->Res D}{ml mh:Ev->Res (Option Int)}{p2 pos:Pos}(he:RE C mda e me)(hl:RO C lo ml)(hu:RO C hi mh):RE C .cl (.Subscript e (.Slice lo hi none p2) pos) (eS slD me ml mh):=zC7 (xP3.or (xG7.or xN8)) xD6 he hl hu
def xF4{C:Ct}{fr:Bool}(i:Nat){x:Str}{a:Expr}{md:Md}{ma:Ev->Res D}{p' apos cpos pos:Pos}(ha:RE C md a ma)
  (hN:autoParam (C.X.N[i]?=some x) DH) (ho:autoParam (C.om.contains i=true) DH) (hv:autoParam (Vis C.X.env.scope x) DE) (hd:autoParam ((x == ("__debug__":Str))=false) DG) (hcd:autoParam ((x == ("__classdict__":Str))=false) DG)
  (hbase:autoParam (attributeBase (.Name x p') "extend" C.X.env (eval (.Name x p') C.X.env)=eval (.Name x p') C.X.env) DH)
  (hfew:((backTo cpos (starEach [a] C.X.env)).all (fun x=>!x.1)&&(backToKw cpos (keywordEach [] C.X.env)).all (fun x=>x.1.isSome)
  &&decide ([a].length+([]:List Keyword).length+(if ([]:List Keyword).isEmpty then 0 else 1)<30))=true:=by rfl)
  (hline:autoParam ((apos.endLine == cpos.line)=true) DH) (hs:autoParam (starEach [a] C.X.env=(false,eval a C.X.env)::starEach [] C.X.env) DH) (hplain:autoParam ((backTo cpos (starEach [] C.X.env)).any (·.1)=false) DH)
  (hsw:autoParam (swapsWith (.Call (.Attribute (.Name x p') "extend" apos) [a] [] cpos) none pos.line C.X.env=pure false) DH) :
  RS C fr (.Expr (.Call (.Attribute (.Name x p') "extend" apos) [a] [] cpos) pos) (sM i extD (aC ma aN)):=by
 obtain⟨t,p,q⟩:=ha
 refine⟨_,wR (wN AY PySem.F.slot_list_extend PySem.F.type_list_extend xH1 (jJ hN hv hd hcd) (zT p zL hs) hbase hfew hline hs hplain) hsw,fun Oc Ob σ H ρ E R h => ?_⟩
 obtain⟨d,ed,k⟩:=hX (Res.zX h)
 obtain⟨xd,ex,k⟩:=Res.zD (Res.zX k)
 obtain rfl:=kY ex
 obtain⟨v,qv,l,ys,ds,rfl,e2,e3,e4,e5⟩:=R.own i _ ed (qV ho)
 cases e2
 refine⟨_,qv,.inl ⟨rfl,_,SqL.of e3⟩,q Oc Ob σ H ρ _ R (Res.zQ (Res.zX (Res.zX k)) (fun ad _ k w H' s r' => ?_) fun c z H' s=>z H' (Same.frm s))⟩
 obtain⟨ds',eg,k⟩:=Res.zD (Res.zX (show ((Res.lft (extD xd [ad])).bind fun ds=>Res.ok (Out.nx (ρ.set i (some (.list ds))))).post _ _ from k))
 obtain⟨zs,e1,eg⟩:=AR.mp (show (seqD ad).bind (fun ys=>if xd.length+ys.length<=sizeLine then some (xd++ys) else none)=some ds' from eg)
 split at eg
 ·rename_i hl
  cases eg
  have va:=r'.va R.oh
  have fin:∀(b:Addr) (ws:List V),(Rd H' b (.lst ws)\/Rd H' b (.tup ws))->Reps H' (Uni Oc Ob) ws zs->rExtR (.ref l) [.ref b] H' fun _ H1=>E.nx σ H1:=fun b ws rd rs=>by
   refine⟨l,b,ys,ws,rfl,rfl,s _ _ e3,rd,by rw[e5.length,rs.length];exact hl,?_⟩
   refine k _ _ Ob ((R.same s).write (qV ho) ed qv (s _ _ e3) e4 ((e5.same s).append rs)) (fun b o e n => ?_) fun b z=>.inl z
   rw[zY (fun z=>n (by subst z;exact e4))]
   exact s b o e
  cases ad with
  | list ds' =>
   cases e1
   obtain⟨b,ws,rfl,rd,rs⟩:=va.list
   exact fin b ws (.inl rd) rs
  | tuple ds' =>
   cases e1
   obtain⟨b,ws,rfl,rd,rs⟩:=va.tuple
   exact fin b ws (.inr rd) rs
  | _=>cases e1
 ·cases eg
section
variable (a:Ev->Res D) (l h:Ev->Res (Option Int)) (ρ:Ev) (f:D->Option Int->Option Int->Option D)
def wV9:eS f a l h ρ=(a ρ).bind fun x=>(l ρ).bind fun lo=>(h ρ).bind fun u=>Res.lft (f x lo u):=rfl
def wT5:oN ρ=.ok none:=rfl
def wT1:oS a ρ=(a ρ).bind fun d=>(Res.lft (isI d)).bind fun i=>.ok (some i):=rfl
def wZ2(i:Int):isI (.int i)=some i:=rfl
def xA6(ds:List D)(lo hi:Option Int):slL (.list ds) lo hi=some (.list (cutD ds lo hi)):=rfl
def wY4(ds:List D)(lo hi:Option Int):slD (.list ds) lo hi=some (.list (cutD ds lo hi)):=rfl
def wX6(ds:List D)(lo hi:Option Int):slD (.tuple ds) lo hi=some (.tuple (cutD ds lo hi)):=rfl
end
def xX7{α β:Type}(g:α->β)(xs:List α)(lo hi:Option Int):cutD (xs.map g) lo hi=(cutD xs lo hi).map g:=by
 unfold cutD
 rw[Aa,List.map_take,List.map_drop]
def zG9{α:Type}(xs:List α)(k:Nat):cutD xs (some (k:Int)) none=xs.drop k:=by
 unfold cutD
 rw[HT.yX5,HT.yS1]
 by_cases h:k<=xs.length
 ·rw[Nat.min_eq_left h,BM (by rw[BQ];rfl')]
 ·rw[Nat.min_eq_right (by rfl'),List.drop_eq_nil_of_le (show xs.length<=k by rfl')]
  simp
end L2.L3
namespace L2.L3
open PySem
def yQ1(i:Int):∀ns:List Int,(ns.map PyData.int).any (fun z=>eqF z (.int i))=ns.contains i
 | []=>rfl
 | n::ns=>by
  rw[AU,Dl,yQ1 i ns,List.contains_cons]
  congr 1
  show (n == i)=(i == n)
  rw[BD]
  simp only[beq_iff_eq]
  exact eq_comm
def yQ9:∀ns:List Int,(ns.map PyData.int).all flD=true
 | []=>rfl
 | n::ns=>by rw[AU,Dk,yQ9 ns];rfl
def zH2(neg:Bool)(i:Int)(ns:List Int):inD neg (.int i) (lI ns)=some (if neg then !ns.contains i else ns.contains i):=by
 unfold inD
 show (if flD (.int i)=true/\(ns.map PyData.int).all flD=true then _ else none)=_
 rw[Aq ⟨rfl,yQ9 ns⟩,yQ1]
def xV8(a b:Bool):neD (.bool a) (.bool b)=some (!(a == b)):=by
 unfold neD
 rw[Aq ⟨rfl,rfl⟩,PyData.eqv]
def xJ4{ns:List Int}(h:ns ≠ []):max1D [tI ns]=some (.int (maxL ns)):=by
 unfold max1D
 simp only[nsD,seqD,Bg,intsOf_map]
 rw[AJ h]
def aG{α β:Type}{g:D->Ev->Option Ev}{b:Ev->Res Out}{ds:List D}{ρ:Ev}{k:Out->Res α}{k':α->Res β}{R:Res β}(P:Nat->Ev->Prop)(h0:P 0 ρ)(hs:∀(i:Nat) d ρ,ds[i]?=some d->P i ρ->∃ρ1 ρ2,g d ρ=some ρ1/\b ρ1=.ok (.nx ρ2)/\P (i+1) ρ2)
  (hd:∀ρ',P ds.length ρ'->(k (.nx ρ')).bind k'=R):((forM g b ds ρ).bind k).bind k'=R:=by
 obtain⟨ρ',e,p⟩:=jZ P ds ρ h0 hs
 rw[e,Res.bind_ok]
 exact hd ρ' p
def wZ4{α β:Type}{t:Ev->Res Bool}{b:Ev->Res Out}{fuel:Nat}{ρ:Ev}{k:Out->Res α}{k':α->Res β}{R:Res β}(P:Nat->Ev->Prop)(n:Nat)(hf:n<fuel)(h0:P 0 ρ)(hs:∀i ρ,i<n->P i ρ->t ρ=.ok true/\∃ρ2,b ρ=.ok (.nx ρ2)/\P (i+1) ρ2)(he:∀ρ,P n ρ->t ρ=.ok false)
  (hd:∀ρ',P n ρ'->(k (.nx ρ')).bind k'=R):((whM t b fuel ρ).bind k).bind k'=R:=by
 obtain⟨ρ',e,p⟩:=yD5 P n fuel ρ h0 hs he hf
 rw[e,Res.bind_ok]
 exact hd ρ' p
end L2.L3
namespace L2
open PySem PySem.Spec PyProof.Rows
def xM2{X:Cx}{elt iter:Expr}{ifs:List Expr}{sc0 scope:Scope}{N0:List Str}{px py pos spos:Pos}{xt y:Str}{fs:List Str}{js:List Nat}{i:Nat}{wi:TI}{tt:Addr->List Addr->Shared->Hp->TT}{te:Addr->List Addr->Shared->Hp->TE}(S:CompScope sc0 scope N0 xt fs js)(h0:X.env.scope=sc0)(hN0:X.N=N0)(hc:X.calm=true)
  (hi:PI X (.Name xt px) iter wi) (ht:∀C fp s₂ H,PTs (cxComp X (xt::fs) scope C fp s₂ H) ifs (tt C fp s₂ H)) (he:∀C fp s₂ H,PE (cxComp X (xt::fs) scope C fp s₂ H) elt (te C fp s₂ H))
  (nd:X.N.Nodup) (hy:X.N[i]?=some y) (hl:Loc X.env.scope y) (hsw:swapsWith (.ListComp elt [⟨.Name xt px,iter,ifs,0⟩] scope pos) (some (.Name y py)) spos.line X.env=pure true)
  (hs:autoParam (∀x,foldedSetIterable iter X.env x=pure x) DF) (hf:autoParam (X.fn y=true\/X.env.scope.names.lookup y=some .local) DD) :
  PS X (.Assign [.Name y py] (.ListComp elt [⟨.Name xt px,iter,ifs,0⟩] scope pos) spos) (tAsg (tComp wi tt te js) (gName i)):=by
 intro DI s σ H E I h
 rw[exec_Assign_Name_used _ _ _ _ hsw]
 refine Ah (wpAny_standAt (Ah ?_))
 show wpAny _ X.A (do let _ <-comprehension (.ListComp elt [⟨.Name xt px,iter,ifs,0⟩] scope pos) scope X.env _ (newList []) false (eval iter X.env) (some (assign (.Name y py) X.env))) _ _ s
 refine Ah (thn (zJ4 S h0 hN0 hc hi ht he hs (use:=some (assign (.Name y py) X.env)) (Qv:=fun _ s'=>SP X DI E .next s') I h fun s' C D Ha fl hI hns hC q => ?_) fun _ s' hq=>Ax (Ax hq))
 show wpAny (model X.prog X.w) X.A (assign (.Name y py) X.env (.ref D)) (fun _ s''=>∃m,s''.heap.Ns C m/\∀h',Heap.SameBut C s''.heap h'->SP X DI E .next { s'' with heap:=h' }) X.xe s'
 obtain⟨m,oC,es,ep,hgC,hdC,hrC⟩:=hns
 have I1:Inv X DI σ Ha s':=hI s'.heap ⟨rfl,fun b _=>rfl⟩
 have I2:Inv X (DI ++ [(C,oC)]) σ Ha s':=I1.yE fun p hp=>by
  rcases AM.mp hp with z | z
  ·exact I1.pin p (Ag _ z)
  ·have:p=(C,oC):=by simpa using z
   subst this
   exact⟨hgC,hC.1,hC.2.1,hC.2.2.1,fun v z=>by rw[hdC] at z;cases z⟩
 refine wpAny_assign_Name (cY I2 nd hy hl (show RelV (.ref D) (.ref D) from rfl) (fun s'' I3 => ?_) hf)
 have hgC':=(I3.pin (C,oC) (Ag _ (Ag _ Ae))).1
 refine⟨m,⟨oC,es,ep,hgC',hdC,hrC⟩,fun h' hsb => ?_⟩
 have I4:Inv X DI (σ.set i (some (.ref D))) Ha s'':=I3.yE fun p hp=>I3.pin p (Ag _ (AS _ hp))
 exact⟨_,Ha,Inv.turned (it:=C) (t':=s''.toks) I4 (fun b o hb e=>(hsb.2 b hb).trans e) hC.1 hC.2.1 hC.2.2.2.1 hC.2.2.2.2.1 hC.2.2.2.2.2,q⟩
end L2
namespace L2.L3
open PySem PySem.Spec PyProof.Rows
variable [CN]
end L2.L3
namespace L2
open PySem PySem.Spec PyProof.Rows
def pick3{α:Type}(xs:List α)(l u k:Option Int):List α:=(sliceRange (sliceBounds l u k xs.length).1 (sliceBounds l u k xs.length).2.1 (sliceBounds l u k xs.length).2.2).filterMap (xs[·]?)
def tSl3E(K:KFr)(te:TE)(tl th ts:TO):TE:=fun σ H Q=>te σ H fun x H1=>tl σ H1 fun l H2=>th σ H2 fun u H3=>ts σ H3 fun st H4=>st≠some 0/\∃a xs,x=.ref a/\SqL K H4 a xs /\
 ((pick3 xs l u st).length<=xs.length->∀p,H4 p=none->Q (.ref p) (upd H4 p (.lst (pick3 xs l u st))))
def yN4{X:Cx}{e st:Expr}{te:TE}{lo hi:Option Expr}{tl th ts:TO}{pos p2:Pos}(he:PE X e te)(hl:PO X lo tl)(hu:PO X hi th)(hst:PO X (some st) ts):PE X (.Subscript e (.Slice lo hi (some st) p2) pos) (tSl3E X.K te tl th ts):=by
 intro DI s σ H Q I h
 refine Subscript_ (thn (he DI s σ H _ I h) fun v s1 ⟨x,H1,I1,r1,q1⟩ => ?_)
 refine wpAny_Slice (thn (hl DI s1 σ H1 _ I1 q1) fun vl s2 ⟨l,H2,I2,pl,q2⟩=>thn (hu DI s2 σ H2 _ I2 q2) fun vu s3 ⟨u,H3,I3,pu,q3⟩=>thn (hst DI s3 σ H3 _ I3 q3) fun vs s4 ⟨k,H4,I4,pk,q4⟩ => ?_)
 obtain⟨h0,a,xs,rfl,hx,q⟩:=q4
 cases r1
 have I5:Inv X DI σ H4 { s4 with heap:=s4.heap.push { cls:=.type "slice",data:=.fields #[vl,vu,vs] } }:=I4.kept (t':=s4.toks) fun b ob q=>Af _ q
 obtain⟨its,r,ht,hz⟩:=I5.list hx
 have hlen:=r.length
 show wpAny (model X.prog X.w) X.A (subscriptTail e (.Slice lo hi (some st) p2) (.ref a) (.ref s4.heap.objs.size)) (EP X DI σ Q) X.xe { s4 with heap:=s4.heap.push { cls:=.type "slice",data:=.fields #[vl,vu,vs] } }
 refine tail_any (ops:=[.ref a,.ref s4.heap.objs.size]) ht.isList.typeIs slot_list_getitem.lookup ?_ (by with_unfolding_all rfl)
 refine wpAny_getItem_list_slice ht.isList (Heap.IsSliceOf.new ..) pl pu pk h0 ?_ (by rw[Am] <;> rfl')
 have sz:=slicePick_size_le its.toArray l u k
 unfold slicePick at sz ⊢
 unfold pick3 at q
 rw[hlen] at q
 rw[Am] at sz ⊢
 generalize sliceRange (sliceBounds l u k its.length).1 (sliceBounds l u k its.length).2.1 (sliceBounds l u k its.length).2.2=ks at sz q ⊢
 have rv:=bB r ks
 have rl:=rv.length
 rw[Am] at sz
 exact⟨.ref (s4.heap.push { cls:=.type "slice",data:=.fields #[vl,vu,vs] }).objs.size,_,I5.laid (t':=s4.toks) (o:=.lst (ks.filterMap (xs[·]?))) (fun b ob q=>Af _ q) (Ak _) ⟨by rfl',_,0,rv,Aw _ rfl⟩,rfl,q (by rfl') _ (I5.hok.fresh (Ak _))⟩
end L2
namespace L2.L3
open PySem PySem.Spec PyProof.Rows
variable [CN]
def eS3(m:Ev->Res D)(lo hi st:Ev->Res (Option Int)):Ev->Res D:=fun ρ=>(m ρ).bind fun x=>(lo ρ).bind fun l=>(hi ρ).bind fun u=>(st ρ).bind fun k=>(Res.lft (lstD x)).bind fun ds=>if k≠some 0 then .ok (.list (pick3 ds l u k)) else .no
def bW{H:Hp}{O:Addr->Prop}{vs:List V}{ds:List D}(r:Reps H O vs ds):∀ks:List Nat,Reps H O (ks.filterMap (vs[·]?)) (ks.filterMap (ds[·]?))
 | []=>.nil
 | k::ks=>by
  rw[Bm,Bm]
  cases e:ds[k]? with
  | none =>
   have:vs[k]?=none:=by
    rw[Cg] at e ⊢
    rw[r.length];exact e
   rw[this]
   exact bW r ks
  | some d =>
   obtain⟨v,ev,rv⟩:=r.get e
   rw[ev]
   exact .cons rv (bW r ks)
def yE4{C:Ct}{e st:Expr}{lo hi:Option Expr}{mda:Md}{me:Ev->Res D}{ml mh ms:Ev->Res (Option Int)}{p2 pos:Pos}(he:RE C mda e me)(hl:RO C lo ml)(hu:RO C hi mh)(hs:RO C (some st) ms) :
  RE C .new (.Subscript e (.Slice lo hi (some st) p2) pos) (eS3 me ml mh ms):=by
 obtain⟨t,p,q⟩:=he
 obtain⟨tl,pl,ql⟩:=hl
 obtain⟨th,ph,qh⟩:=hu
 obtain⟨ts,ps,qs⟩:=hs
 refine⟨_,yN4 p pl ph ps,fun Oc Ob σ H ρ Q R h=>q Oc Ob σ H ρ _ R (Res.zQ (Res.zX h) (fun d _ k v H1 s1 r => ?_) fun _ z=>z)⟩
 refine ql Oc Ob σ H1 ρ _ (R.same s1) (Res.zQ (Res.zX k) (fun l _ k H2 s2 => ?_) fun c z H' s'=>z H' (s1.trans s'))
 refine qh Oc Ob σ H2 ρ _ ((R.same s1).same s2) (Res.zQ (Res.zX k) (fun u _ k H3 s3 => ?_) fun c z H' s'=>z H' ((s1.trans s2).trans s'))
 refine qs Oc Ob σ H3 ρ _ (((R.same s1).same s2).same s3) (Res.zQ (Res.zX k) (fun st _ k H4 s4 => ?_) fun c z H' s'=>z H' (((s1.trans s2).trans s3).trans s'))
 obtain⟨ds,ed,k5⟩:=Res.zD (Res.zX k)
 clear k
 obtain rfl:=kY ed
 by_cases h0:st≠some 0
 ·rw[Aq h0] at k5
  have S:=((s1.trans s2).trans s3).trans s4
  obtain⟨a,ys,rfl,rd,rs⟩:=((r.va R.oh).same ((s2.trans s3).trans s4)).list
  refine⟨h0,a,ys,rfl,.inl rd,fun _ p hp=>k5 _ _ (S.trans (Same.new hp)) (xU S hp ?_)⟩
  unfold pick3
  rw[rs.length]
  exact bW rs _
 ·rw[AJ h0] at k5
  exact k5.elim
def yJ9{α β:Type}(f:α->β)(xs:List α)(l u k:Option Int):pick3 (xs.map f) l u k=(pick3 xs l u k).map f:=by
 unfold pick3
 rw[Aa]
 generalize sliceRange (sliceBounds l u k xs.length).1 (sliceBounds l u k xs.length).2.1 (sliceBounds l u k xs.length).2.2=ks
 induction ks with
 | nil=>rfl
 | cons a ks ih =>
  rw[Bm,Bm,Ai]
  cases xs[a]? with
  | none=>exact ih
  | some y=>rw[Bs,AU,<-ih]
def xD3(a:Ev->Res D)(l h st:Ev->Res (Option Int))(ρ:Ev):eS3 a l h st ρ=(a ρ).bind fun x=>(l ρ).bind fun l=>(h ρ).bind fun u=>(st ρ).bind fun k=>(Res.lft (lstD x)).bind fun ds=>if k≠some 0 then .ok (.list (pick3 ds l u k)) else .no:=rfl
end L2.L3
namespace L2.L3
open PySem
def yC5{xs:List Int}{i:Int}{j:Nat}(e:i=(j:Int))(h:j<xs.length):atI (xs.map PyData.int) i=some (.int (xs.getD j 0)):=by
 rw[e,xF,xL h]
 rfl
def yX9{xs:List Int}{n:Nat}(h:xs.length=n+1):atI (xs.map PyData.int) (-1)=some (.int (xs.getD n 0)):=by
 rw[xF]
 unfold atI ixN
 rw[h,AJ (by decide),Aq (by rfl')]
 show (xs[((-1:Int)+((n+1:Nat):Int)).toNat]?).map _=_
 rw[show ((-1:Int)+((n+1:Nat):Int)).toNat=n by rfl',Ab (by rfl'),AD,Ab (by rfl')]
 rfl
def aR{xs ys:List Int}(h:xs.length+ys.length<=1000):catL (lI xs) (lI ys)=some (lI (xs++ys)):=by
 unfold catL
 simp only
 rw[Aa,Aa,Aq (BC (small1000 h))]
 simp only[lI,Az]
def xN6(xs:List Int):sumD [lI xs]=some (.int xs.sum):=by
 unfold sumD
 simp only[intsOf_map,Bs]
end L2.L3
namespace L2.L3
open PySem
variable [CN]
section
variable {X:Cx}
end
end L2.L3
namespace L2.L3
open PySem PyProof.Rows
variable [CN]
section
variable {X:Cx}
end
section
variable {C:Ct}{fr:Bool}{md:Md}{e:Expr}{me:Ev->Res D}{pos:Pos}
def atP(xd:List D):D->Option D
 | .int j=>if 0<=j then atI xd j else none
 | _=>none
def sJ0(i:Nat)(mk:Ev->Res D)(f:D->D->Option D)(me:Ev->Res D):Ev->Res Out:=fun ρ=>(eV i ρ).bind fun d=>(Res.lft (lstD d)).bind fun xd=>(mk ρ).bind fun k=>(Res.lft (atP xd k)).bind fun old=>(me ρ).bind fun v=>(Res.lft (f old v)).bind fun w=>(Res.lft (setD xd k w)).bind fun ds=>.ok (.nx (ρ.set i (some (.list ds))))
def xD7(i:Nat)(mk:Ev->Res D)(f:D->D->Option D)(me:Ev->Res D)(ρ:Ev):sJ0 i mk f me ρ=(eV i ρ).bind fun d=>(Res.lft (lstD d)).bind fun xd=>(mk ρ).bind fun k=>(Res.lft (atP xd k)).bind fun old=>(me ρ).bind fun v=>(Res.lft (f old v)).bind fun w=>(Res.lft (setD xd k w)).bind fun ds=>.ok (.nx (ρ.set i (some (.list ds)))):=rfl
end
section
variable {X:Cx}{DI:List (Addr×Obj)}{σ:St}{H:Hp}{s:Shared}{h':Heap}
def turned2{t':Nat}{e it:Addr}(I:Inv X DI σ H s)(k:∀b o,b≠e->b≠it->s.heap.get? b=some o->h'.get? b=some o)(fe:FpOk X DI H e)(fi:FpOk X DI H it):Inv X DI σ H { s with heap:=h',toks:=t' }:=by
 have nit:∀b u,H b=some u->b≠e/\b≠it:=fun b u q=>⟨fun z=>(by rw[z,fe.1] at q;cases q),fun z=>by rw[z,fi.1] at q;cases q⟩
 refine I.step (g':=s.gens) (d':=s.drawn) (ch:=[e,it]) (fun b hb => ?_) (fun b o _ _ hc q _=>k b o (fun z=>hc (by simp[z])) (fun z=>hc (by simp[z])) q) (fun b o _ _ hc q _=>⟨o.slots,k b o (fun z=>hc (by simp[z])) (fun z=>hc (by simp[z])) q⟩) (fun _ _ _ _ n=>n)
  (fun b o hc q=>⟨o,k b o (fun z=>hc (by simp[z])) (fun z=>hc (by simp[z])) q⟩) (fun _ _ q=>q) (fun _ _ _ q=>q) (fun _ _ q=>q) (fun m hm => ?_) (fun b u q => ?_) I.bare
 ·have z:b=e\/b=it:=by simpa using hb
  rcases z with rfl | rfl
  ·obtain⟨f0,f1,f2,f3,f4,f5⟩:=fe
   exact⟨f3,f1,f4,f5⟩
  ·obtain⟨f0,f1,f2,f3,f4,f5⟩:=fi
   exact⟨f3,f1,f4,f5⟩
 ·obtain⟨o,es,ep,ho,r⟩:=hm
  exact⟨o,es,ep,k _ o (Cj fe.2.1) (Cj fi.2.1) ho,r⟩
 ·refine (I.hok b u q).stay (fun c v hc q' => ?_) (fun _ q=>q) fun _ _ q=>q
  have nc:c≠e/\c≠it:=by
   rcases hc with z | z
   ·rw[z];exact nit b u q
   ·exact nit c _ z
  exact k c v nc.1 nc.2 q'
end
def Ite(K:KFr)(a:Addr):It :=
 ⟨fun i H=>∃xs x,SqL K H a xs/\xs[i]?=some x,fun i H x H'=>∃t y,H t=none/\x=.ref t/\H'=upd H t (.tup [.int (i:Int),y])/\∀xs,SqL K H a xs->xs[i]?=some y,fun i H=>∃xs,SqL K H a xs/\xs.length<=i⟩
def yI6{P:Program}{w:World}{K:KFr}{es:List Expr}{x1:Nat}{tp:Pos}(a e it:Addr)(hne:e≠it):Turn P w K (.Tuple es x1 tp) (Ite K a) [e,it] e (fun i h=>(∃old,IsEnum h e it i old)/\h.IsListIter it a i) where
 mem:=by simp
 obj:=fun i h st b hb=>by
  obtain⟨⟨old,he⟩,o,ho,hc,hd⟩:=st
  have z:b=e\/b=it:=by simpa using hb
  rcases z with rfl | rfl
  ·exact⟨_,he,fun v z=>by cases z⟩
  ·exact⟨o,ho,fun v z=>by rw[hd] at z;cases z⟩
 keep:=fun i h h' st k=>⟨st.1.elim fun old he=>⟨old,k e (by simp) _ he⟩,st.2.at fun o q=>k it (by simp) o q⟩
 item:=by
  intro X hP hw hK hc i DI s σ H E I hf st hg
  subst hP hw hK
  obtain⟨xs,x,hq,hx⟩:=hg
  obtain⟨its,rv,p,hz⟩:=I.list hq
  obtain⟨u,hu,ru⟩:=rv.get hx
  obtain⟨⟨old,he⟩,hit⟩:=st
  have fe:=hf e (by simp)
  have fi:=hf it (by simp)
  refine wpAny_pyNext_enum_item he hit p.isList (x:=u) (by simpa using hu) hne fun h' ho hit' hT hsz hk=>⟨_,rfl,?_⟩
  have hfr:H s.heap.objs.size=none:=I.hok.fresh (Ak _)
  have I1:Inv X DI σ (upd H s.heap.objs.size (.tup [.int (i:Int),x])) { s with heap:=s.heap.push { cls:=.type "tuple",data:=.seq #[.int i s.toks,u] },toks:=s.toks+1 } :=
   I.laid (t':=s.toks+1) (fun b o q=>Af _ q) (Ak _) ⟨by show 2<=sizeLine;decide,[.int i s.toks,u],.cons ⟨_,rfl⟩ (.cons ru .nil),TupAt.new _ _⟩
  have lte:e<s.heap.objs.size:=Ap he
  have lti:it<s.heap.objs.size:=by obtain⟨_,q,_⟩:=hit;exact Ap q
  have fe1:FpOk X DI (upd H s.heap.objs.size (.tup [.int (i:Int),x])) e:=⟨by rw[zY (AL lte)];exact fe.1,fe.2⟩
  have fi1:FpOk X DI (upd H s.heap.objs.size (.tup [.int (i:Int),x])) it:=⟨by rw[zY (AL lti)];exact fi.1,fi.2⟩
  have I2:Inv X DI σ (upd H s.heap.objs.size (.tup [.int (i:Int),x])) { s with heap:=h',toks:=s.toks+1 }:=by
   refine turned2 (s:={ s with heap:=s.heap.push { cls:=.type "tuple",data:=.seq #[.int i s.toks,u] },toks:=s.toks+1 }) (h':=h') (t':=s.toks+1) I1 (fun b o b1 b2 q => ?_) fe1 fi1
   by_cases z:b=s.heap.objs.size
   ·subst z
    have q:(s.heap.push { cls:=.type "tuple",data:=.seq #[.int i s.toks,u] }).get? s.heap.objs.size=some o:=q
    rw[Aw _ rfl] at q
    rw[hT];exact q
   ·have q:(s.heap.push { cls:=.type "tuple",data:=.seq #[.int i s.toks,u] }).get? b=some o:=q
    rw[Heap.get?_push_ne _ _ _ z] at q
    exact hk b o b1 b2 q
  refine wpAny_letOwnedTupleGo_enum ho fun h2 he2 hs2 => ?_
  refine⟨.ref s.heap.objs.size,_,turned2 (s:={ s with heap:=h',toks:=s.toks+1 }) (h':=h2) (t':=s.toks+1) I2 (fun b o b1 b2 q=>(hs2.2 b b1).trans q) fe1 fi1,rfl,⟨_,x,hfr,rfl,rfl,fun ys hy=>by rw[I.zB2 hy hq];exact hx⟩,⟨⟨_,he2⟩,hit'.at fun o q=>(hs2.2 it hne.symm).trans q⟩,fun b hb => ?_⟩
  have z:b=e\/b=it:=by simpa using hb
  rcases z with rfl | rfl
  ·exact fe1.1
  ·exact fi1.1
 done:=by
  intro X hP hw hK hc i DI s σ H E I hf st hg
  subst hP hw hK
  obtain⟨xs,hq,hx⟩:=hg
  obtain⟨its,rv,p,hz⟩:=I.list hq
  obtain⟨⟨old,he⟩,hit⟩:=st
  have hl:=rv.length
  exact wpAny_pyNext_enum_end (I.ok.hd hc) he hit p.isList (by simp;rfl') fun h' eb=>⟨rfl,turned2 (t':=s.toks) I (fun b o _ b2 q=>eb b o b2 q) (hf e (by simp)) (hf it (by simp))⟩
 self:=fun _ _ _ _ _ st h=>st.1.elim fun old he=>wpAny_pyIter_enum he h
end L2.L3
namespace PySem
section
variable {prog:Program}{w:World}{A:Around}{E:Value->Shared->Prop}{s:Shared}
def drawsT(hA:A.handled=none)(it t:Addr)(its:Array Value)(hne:it≠t):Draws prog w A it [it,t] its.size (fun i x=>its[i]?=some x) (fun i h=>h.IsTupleIter it t i/\h.IsTuple t its) where
 live:=fun i h st=>let ⟨o,q,_⟩:=st.1; ⟨o,q⟩
 frame:=fun i h h' st k=>⟨let ⟨o,q,r⟩:=st.1; ⟨o,k it (by simp) o q,r⟩,let ⟨o,q,r⟩:=st.2; ⟨o,k t (by simp) o q,r⟩⟩
 item:=fun i s Q E hi st hQ=>xT2 st.1 st.2 (v:=its[i]) (by simp[hi]) fun h' z sb=>hQ _ h' s.toks (by simp[hi]) ⟨z,let ⟨o,q,r⟩:=st.2; ⟨o,(sb.2 t (Cj hne)).trans q,r⟩⟩ sb
 done:=fun s Q E st hE=>yT9 hA st.1 st.2 (by simp) hE
def drawsE(hA:A.handled=none)(it t:Addr)(its:Array Value)(n:Nat)(hx:its[n]?=none)(hne:it≠t):Draws prog w A it [it,t] n (fun _ _=>False) (fun j h=>j=n/\h.IsTupleIter it t n/\h.IsTuple t its) where
 live:=fun i h st=>let ⟨o,q,_⟩:=st.2.1; ⟨o,q⟩
 frame:=fun i h h' st k=>⟨st.1,let ⟨o,q,r⟩:=st.2.1; ⟨o,k it (by simp) o q,r⟩,let ⟨o,q,r⟩:=st.2.2; ⟨o,k t (by simp) o q,r⟩⟩
 item:=fun i s Q E hi st hQ=>absurd st.1 (AL hi)
 done:=fun s Q E st hE=>yT9 hA st.2.1 st.2.2 hx hE
end
end PySem
namespace L2.L3
open PySem PyProof.Rows
variable [CN]
def Ith(K:KFr)(a:Addr):It :=
 ⟨fun i H=>∃xs x,SqT K H a xs/\xs[i]?=some x,fun i H x H'=>∃t y,H t=none/\x=.ref t/\H'=upd H t (.tup [.int (i:Int),y])/\∀xs,SqT K H a xs->xs[i]?=some y,fun i H=>∃xs,SqT K H a xs/\xs.length<=i⟩
def yN8{P:Program}{w:World}{K:KFr}{es:List Expr}{x1:Nat}{tp:Pos}(a e it:Addr)(hne:e≠it)(hia:it≠a)(hea:e≠a):Turn P w K (.Tuple es x1 tp) (Ith K a) [e,it] e (fun i h=>(∃old,IsEnum h e it i old)/\h.IsTupleIter it a i) where
 mem:=by simp
 obj:=fun i h st b hb=>by
  obtain⟨⟨old,he⟩,o,ho,hc,hd⟩:=st
  have z:b=e\/b=it:=by simpa using hb
  rcases z with rfl | rfl
  ·exact⟨_,he,fun v z=>by cases z⟩
  ·exact⟨o,ho,fun v z=>by rw[hd] at z;cases z⟩
 keep:=fun i h h' st k=>⟨st.1.elim fun old he=>⟨old,k e (by simp) _ he⟩,let ⟨o,q,r⟩:=st.2; ⟨o,k it (by simp) o q,r⟩⟩
 item:=by
  intro X hP hw hK hc i DI s σ H E I hf st hg
  subst hP hw hK
  obtain⟨xs,x,hq,hx⟩:=hg
  obtain⟨its,rv,p,hz⟩:=I.tuple hq
  obtain⟨u,hu,ru⟩:=rv.get hx
  obtain⟨⟨old,he⟩,hit⟩:=st
  have fe:=hf e (by simp)
  have fi:=hf it (by simp)
  have hlt:i<its.toArray.size:=by
   have:=(Ac.mp hu).1
   simpa using this
  refine wpAny_pyNext_enum_itemD (drawsT (show X.A.in1.handled=none from I.ok.hd hc) it a its.toArray hia) he ⟨hit,p⟩ hlt hne (by simp[hne,hea]) fun x' h' tk hP' ho hit' hT hsz hk=>⟨_,rfl,?_⟩
  have ex:x'=u:=by
   have h2:its.toArray[i]?=some u:=by simpa using hu
   have h3:its.toArray[i]?=some x':=hP'
   rw[h2] at h3
   exact (AW h3).symm
  subst ex
  have hfr:H s.heap.objs.size=none:=I.hok.fresh (Ak _)
  have I1:Inv X DI σ (upd H s.heap.objs.size (.tup [.int (i:Int),x])) { s with heap:=s.heap.push { cls:=.type "tuple",data:=.seq #[.int i tk,x'] },toks:=tk+1 } :=
   I.laid (t':=tk+1) (fun b o q=>Af _ q) (Ak _) ⟨by show 2<=sizeLine;decide,[.int i tk,x'],.cons ⟨_,rfl⟩ (.cons ru .nil),TupAt.new _ _⟩
  have lte:e<s.heap.objs.size:=Ap he
  have lti:it<s.heap.objs.size:=by obtain⟨_,q,_⟩:=hit;exact Ap q
  have fe1:FpOk X DI (upd H s.heap.objs.size (.tup [.int (i:Int),x])) e:=⟨by rw[zY (AL lte)];exact fe.1,fe.2⟩
  have fi1:FpOk X DI (upd H s.heap.objs.size (.tup [.int (i:Int),x])) it:=⟨by rw[zY (AL lti)];exact fi.1,fi.2⟩
  have I2:Inv X DI σ (upd H s.heap.objs.size (.tup [.int (i:Int),x])) { s with heap:=h',toks:=tk+1 }:=by
   refine turned2 (s:={ s with heap:=s.heap.push { cls:=.type "tuple",data:=.seq #[.int i tk,x'] },toks:=tk+1 }) (h':=h') (t':=tk+1) I1 (fun b o b1 b2 q => ?_) fe1 fi1
   by_cases z:b=s.heap.objs.size
   ·subst z
    have q:(s.heap.push { cls:=.type "tuple",data:=.seq #[.int i tk,x'] }).get? s.heap.objs.size=some o:=q
    rw[Aw _ rfl] at q
    rw[hT];exact q
   ·have q:(s.heap.push { cls:=.type "tuple",data:=.seq #[.int i tk,x'] }).get? b=some o:=q
    rw[Heap.get?_push_ne _ _ _ z] at q
    exact hk b o b1 b2 q
  refine wpAny_letOwnedTupleGo_enum ho fun h2 he2 hs2 => ?_
  refine⟨.ref s.heap.objs.size,_,turned2 (s:={ s with heap:=h',toks:=tk+1 }) (h':=h2) (t':=tk+1) I2 (fun b o b1 b2 q=>(hs2.2 b b1).trans q) fe1 fi1,rfl,⟨_,x,hfr,rfl,rfl,fun ys hy=>by rw[I.zK8 hy hq];exact hx⟩,⟨⟨_,he2⟩,let ⟨o,q,r⟩:=hit'.1; ⟨o,(hs2.2 it hne.symm).trans q,r⟩⟩,fun b hb => ?_⟩
  have z:b=e\/b=it:=by simpa using hb
  rcases z with rfl | rfl
  ·exact fe1.1
  ·exact fi1.1
 done:=by
  intro X hP hw hK hc i DI s σ H E I hf st hg
  subst hP hw hK
  obtain⟨xs,hq,hx⟩:=hg
  obtain⟨its,rv,p,hz⟩:=I.tuple hq
  obtain⟨⟨old,he⟩,hit⟩:=st
  have hl:=rv.length
  exact wpAny_pyNext_enum_endD (drawsE (show X.A.in1.handled=none from I.ok.hd hc) it a its.toArray i (by simp;rfl') hia) he ⟨rfl,hit,p⟩ fun h' eb=>⟨rfl,turned2 (t':=s.toks) I (fun b o _ b2 q=>eb b o b2 q) (hf e (by simp)) (hf it (by simp))⟩
 self:=fun _ _ _ _ _ st h=>st.1.elim fun old he=>wpAny_pyIter_enum he h
def iEnum(K:KFr)(t:TA):TI:=fun σ H R=>t σ H fun vs H1=>∃a,vs=[.ref a]/\(((∃xs,SqL K H1 a xs)/\R (Ite K a) H1)\/((∃xs,SqT K H1 a xs)/\R (Ith K a) H1))
def xK7{X:Cx}{l:Expr}{ta:TA}{es:List Expr}{x1:Nat}{tp p pos:Pos}(hg:Gl X "enumerate")(hm:X.mg "enumerate" = none)(ha:PA X [l] ta)(hs:autoParam (starEach [l] X.env=[(false,eval l X.env)]) DH):PI X (.Tuple es x1 tp) (.Call (.Name "enumerate" p) [l] [] pos) (iEnum X.K ta):=by
 intro DI s σ H R I h
 refine Call_ (bZ I hg hm boot_enumerate (Cu (thn (ha pos DI s σ H _ I h) fun us s1 ⟨vs,H1,I1,r1,q1⟩ => ?_) hs rfl))
 obtain⟨a,e,q1⟩:=q1
 subst e
 obtain⟨u,rfl,ru⟩:=vals1 r1
 cases ru
 rcases q1 with ⟨⟨xs,hq⟩,q⟩ | ⟨⟨xs,hq⟩,q⟩
 ·obtain⟨its,rv,pl,hz⟩:=I1.list hq
  refine call_enumerate_list pl.isList fun h' he hit hsz hk => ?_
  refine wpAny_pyIter_enum he ?_
  refine⟨s1.heap.objs.size+1,[s1.heap.objs.size+1,s1.heap.objs.size],_,_,H1,rfl,I1.kept (t':=s1.toks) hk,yI6 a (s1.heap.objs.size+1) s1.heap.objs.size (Nat.succ_ne_self _),⟨⟨_,he⟩,hit⟩,fun b hb => ?_,q⟩
  have z:b=s1.heap.objs.size+1\/b=s1.heap.objs.size:=by simpa using hb
  rcases z with rfl | rfl
  ·exact I1.fpOk (by rfl') (I1.hok.fresh (by rfl'))
  ·exact I1.fpOk (Ak _) (I1.hok.fresh (Ak _))
 ·obtain⟨its,rv,pt,hz⟩:=I1.tuple hq
  have lta:a<s1.heap.objs.size:=by obtain⟨o,q,_⟩:=pt;exact Ap q
  refine xL3 (oI:={ cls:=.type "tuple_iterator",data:=.fields #[.ref a,.int 0 0] }) rfl (fun B P E' z=>wpAny_pyIter_tuple (show s1.heap.IsTuple a its.toArray from pt) z) fun h' he h0 hk => ?_
  have hit:h'.IsTupleIter s1.heap.objs.size a 0:=⟨_,h0,rfl,rfl⟩
  refine wpAny_pyIter_enum he ?_
  refine⟨s1.heap.objs.size+1,[s1.heap.objs.size+1,s1.heap.objs.size],_,_,H1,rfl,I1.kept (t':=s1.toks) hk,yN8 a (s1.heap.objs.size+1) s1.heap.objs.size (Nat.succ_ne_self _) (BZ lta) (BZ (Cv lta)),⟨⟨_,he⟩,hit⟩,fun b hb => ?_,q⟩
  have z:b=s1.heap.objs.size+1\/b=s1.heap.objs.size:=by simpa using hb
  rcases z with rfl | rfl
  ·exact I1.fpOk (by rfl') (I1.hok.fresh (by rfl'))
  ·exact I1.fpOk (Ak _) (I1.hok.fresh (Ak _))
def WalksO(Oc:Wd)(Ob:Addr->Prop)(J:It)(H1:Hp)(ds:List D):Prop :=
 ∀(H2:Hp) (Ob2:Addr->Prop),Frm Ob H1 H2->(∀b,Ob2 b->Ob b\/H1 b=none)->(∀a,Oc a\/Ob2 a->H2 a≠none)->∀i,(∀d,ds[i]?=some d->J.go i H2/\∀x H3,J.yld i H2 x H3->Same H2 H3/\Rep H3 (Uni Oc Ob2) x d)/\(ds.length<=i->J.stop i H2)
def RIo(C:Ct)(tg iter:Expr)(m:Ev->Res (List D)):Prop :=
 ∃wi,PI C.X tg iter wi/\∀(Oc:Wd) (Ob:Addr->Prop) (σ:St) (H:Hp) (ρ:Ev) (R:It->Hp->Prop),Rel Oc Ob C.om C.ln σ H ρ ->
  (m ρ).post (fun ds=>∀J H1,Same H H1->WalksO Oc Ob J H1 ds->R J H1) (fun c=>∀H',Same H H'->C.XE c H')->wi σ H R
section
variable {C:Ct}{fr:Bool}{body:List Stmt}{m:Ev->Res Out}{mi:Ev->Res (List D)}{g:D->Ev->Option Ev}{pos:Pos}
def zN6{tg iter:Expr}(hi:RIo C tg iter mi)(hg:RG C tg g)(hb:RSs C fr body m)(hp:autoParam (PassesOwn (model C.X.prog C.X.w) C.X.A C.X.env C.X.xe) autoK14._auto_1)(hc:autoParam (C.X.calm=true) DH)
  (hs:autoParam (∀x,foldedSetIterable iter C.X.env x=pure x) DF):RS C fr (.For tg iter body [] pos) (sF mi g m):=by
 obtain⟨wi,pi,qi⟩:=hi
 obtain⟨tg',pg,qg⟩:=hg
 obtain⟨tb,pb,qb⟩:=hb
 refine⟨_,cE hp hc pi pg pb hs,fun Oc Ob σ H ρ E R h=>qi Oc Ob σ H ρ _ R (Res.zQ (Res.zX h) (fun ds _ k J H1 s1 wk => ?_) fun c z H' s=>z H' (Same.frm s))⟩
 refine⟨fun i mm σ' H'=>mm=ds.length-i/\i<=ds.length/\∃ρi Obi,Rel Oc Obi C.om C.ln σ' H' ρi/\Frm Ob H1 H'/\(∀b,Obi b->Ob b\/H1 b=none)/\SPost C fr Oc Obi H' E (forM g m (ds.drop i) ρi),
  ⟨_,rfl,AQ _,ρ,Ob,R.same s1,Same.frm (Same.refl _),fun b z=>.inl z,SPost.same s1 k⟩,?_⟩
 rintro i mm σ2 H2 ⟨rfl,hi,ρi,Obi,R2,f2,sb2,k2⟩
 obtain⟨w1,w2⟩:=wk H2 Obi f2 sb2 R2.oh i
 by_cases hlt:i<ds.length
 ·obtain⟨go,yl⟩:=w1 ds[i] (Ab hlt)
  have ed:ds.drop i=ds[i]::ds.drop (i+1):=BB hlt
  rw[ed,forM] at k2
  obtain⟨ρ1,e1,k2⟩:=Res.zD (Res.zX k2)
  refine .inr ⟨go,fun σ' H'=>∃m',m'<ds.length-i/\(m'=ds.length-(i+1)/\i+1<=ds.length/\∃ρi Obi,Rel Oc Obi C.om C.ln σ' H' ρi/\Frm Ob H1 H'/\(∀b,Obi b->Ob b\/H1 b=none)/\SPost C fr Oc Obi H' E (forM g m (ds.drop (i+1)) ρi)),fun _ _ z=>z,fun x H3 hy => ?_⟩
  obtain⟨s3,rx⟩:=yl x H3 hy
  refine qg Oc Obi σ2 H3 ρi ρ1 x _ _ (R2.same s3) rx e1 fun σ3 R3 => ?_
  have k3:=SPost.same s3 (show SPost C fr Oc Obi H2 E _ from k2)
  refine qb Oc Obi σ3 H3 ρ1 _ R3 (Res.zQ (Res.zX k3) (fun o _ k4 => ?_) fun _ z=>z)
  cases o with
  | rt d=>exact k4
  | nx ρ2 =>
   intro σ4 H4 Ob4 R4 f4 sb4
   have f3:Frm Ob H1 H3:=fun b o e n=>s3 b o (f2 b o e n)
   refine⟨_,by rfl',rfl,hlt,ρ2,Ob4,R4,f3.trans sb2 f4,fun b z=>(sb4 b z).elim (sb2 b) fun z=>f3.none z,SPost.step f4 sb4 k4⟩
 ·have ei:i=ds.length:=by rfl'
  subst ei
  rw[BJ] at k2
  exact .inl ⟨w2 (Ak _),k2 σ2 H2 Obi R2 (Same.frm (Same.refl _)) fun b z=>.inl z⟩
def enumD(ds:List D):List D:=(List.range ds.length).map fun (i:Nat)=>PyData.tuple [.int (i:Int),ds.getD i .none]
def xQ(m:Ev->Res D):Ev->Res (List D):=fun ρ=>(m ρ).bind fun d=>(Res.lft (seqD d)).bind fun ds=>.ok (enumD ds)
def zU9{K:KFr}{Oc:Wd}{Ob:Addr->Prop}{H1:Hp}{a:Addr}{ys:List V}{ds:List D}(r:Rd H1 a (.lst ys))(n:¬Ob a)(rs:Reps H1 (Uni Oc Ob) ys ds):WalksO Oc Ob (Ite K a) H1 (enumD ds):=by
 intro H2 Ob2 f s oh i
 have r2:Rd H2 a (.lst ys):=yM r fun o e=>f a o e n
 have rs2:=rs.step f s
 have le:(enumD ds).length=ds.length:=by unfold enumD;simp
 refine⟨fun d e => ?_,fun h=>⟨ys,.inl r2,by rw[rs2.length];rw[le] at h;exact h⟩⟩
 unfold enumD at e
 rw[Ai] at e
 obtain⟨j,ej,rfl⟩:=Ar.mp e
 have hi:i<ds.length:=by
  have:=(Ac.mp ej).1
  simpa using this
 rw[AH hi] at ej
 cases ej
 have ed:ds[i]?=some (ds.getD i .none):=by rw[AD,Ab hi];rfl
 obtain⟨v,ev,rv⟩:=rs2.get ed
 refine⟨⟨ys,v,.inl r2,ev⟩,fun x H3 hy => ?_⟩
 obtain⟨t,y,ht,rfl,rfl,hy⟩:=hy
 have:=hy ys (.inl r2)
 rw[ev] at this
 cases this
 exact⟨Same.new ht,dO oh ht (.cons (.int _) (.cons rv .nil))⟩
def yV5{K:KFr}{Oc:Wd}{Ob:Addr->Prop}{H1:Hp}{a:Addr}{ys:List V}{ds:List D}(r:Rd H1 a (.tup ys))(n:¬Ob a)(rs:Reps H1 (Uni Oc Ob) ys ds):WalksO Oc Ob (Ith K a) H1 (enumD ds):=by
 intro H2 Ob2 f s oh i
 have r2:Rd H2 a (.tup ys):=yM r fun o e=>f a o e n
 have rs2:=rs.step f s
 have le:(enumD ds).length=ds.length:=by unfold enumD;simp
 refine⟨fun d e => ?_,fun h=>⟨ys,.inl r2,by rw[rs2.length];rw[le] at h;exact h⟩⟩
 unfold enumD at e
 rw[Ai] at e
 obtain⟨j,ej,rfl⟩:=Ar.mp e
 have hi:i<ds.length:=by
  have:=(Ac.mp ej).1
  simpa using this
 rw[AH hi] at ej
 cases ej
 have ed:ds[i]?=some (ds.getD i .none):=by rw[AD,Ab hi];rfl
 obtain⟨v,ev,rv⟩:=rs2.get ed
 refine⟨⟨ys,v,.inl r2,ev⟩,fun x H3 hy => ?_⟩
 obtain⟨t,y,ht,rfl,rfl,hy⟩:=hy
 have:=hy ys (.inl r2)
 rw[ev] at this
 cases this
 exact⟨Same.new ht,dO oh ht (.cons (.int _) (.cons rv .nil))⟩
def vP{e:Expr}{ma:Ev->Res D}{es:List Expr}{x1:Nat}{tp p pos:Pos}(hm:C.X.mg "enumerate" = none)(h:RE C .rd e ma)(hg:autoParam (Gl C.X "enumerate") DH)(hs:autoParam (starEach [e] C.X.env=[(false,eval e C.X.env)]) DH)(hs2:autoParam (starEach [e] C.X.env=(false,eval e C.X.env)::starEach [] C.X.env) DH):RIo C (.Tuple es x1 tp) (.Call (.Name "enumerate" p) [e] [] pos) (xQ ma):=by
 obtain⟨t,pe,q⟩:=h
 refine⟨_,xK7 hg hm (zT pe zL hs2) hs,fun Oc Ob σ H ρ W R h=>q Oc Ob σ H ρ _ R (Res.zQ (Res.zX h) (fun d _ k v H' s r => ?_) fun _ z=>z)⟩
 obtain⟨ds,e,k⟩:=Res.zD (Res.zX k)
 rcases r with r | ⟨a,ys,ds',rfl,rfl,e3,e4,e5⟩
 ·cases r with
  | lst r n t=>cases e;exact⟨_,rfl,.inl ⟨⟨_,.inl r⟩,k _ H' s (zU9 r (fun z=>n (.inr z)) t)⟩⟩
  | tup r n t=>cases e;exact⟨_,rfl,.inr ⟨⟨_,.inl r⟩,k _ H' s (yV5 r (fun z=>n (.inr z)) t)⟩⟩
  | _=>cases e
 ·cases e
  exact⟨_,rfl,.inl ⟨⟨_,SqL.of e3⟩,k _ H' s (zU9 (.inl e3) e4 e5)⟩⟩
end
def zN8(m:Ev->Res D)(ρ:Ev):xQ m ρ=(m ρ).bind fun d=>(Res.lft (seqD d)).bind fun ds=>.ok (enumD ds):=rfl
end L2.L3
namespace PySem
section
variable {prog:Program}{w:World}{A:Around}{E:Value->Shared->Prop}{s:Shared}
end
end PySem
namespace L2.L3
open PySem PySem.Spec PyProof.Rows
variable [CN]
def sA(me:Ev->Res D)(g:D->Ev->Option Ev):Ev->Res Out:=fun ρ=>(me ρ).bind fun d=>(Res.lft (g d ρ)).bind fun ρ'=>.ok (.nx ρ')
def wW9(me:Ev->Res D)(g:D->Ev->Option Ev)(ρ:Ev):sA me g ρ=(me ρ).bind fun d=>(Res.lft (g d ρ)).bind fun ρ'=>.ok (.nx ρ'):=rfl
def xQ6{C:Ct}{fr:Bool}{e tg:Expr}{pos:Pos}{me:Ev->Res D}{g:D->Ev->Option Ev}(he:RE C .cl e me)(hg:RG C tg g)(hs:autoParam (swapsWithSole [tg] e pos.line C.X.env=pure false) DH)(hw:autoParam (swappedStores [tg] e C.X.env=pure none) DH)
  (h1:autoParam ((assignEach [tg] C.X.env).map (·.2)=[assign tg C.X.env]) DH):RS C fr (.Assign [tg] e pos) (sA me g):=xF5 he hg hs hw h1
def zM2{Oc:Wd}{Ob:Addr->Prop}{H:Hp}{vs:List V}{d:D}(r:VAs Oc Ob H vs [d]):∃v,vs=[v]/\VA Oc Ob H v d:=by
 cases r with
 | cons h t=>cases t;exact⟨_,rfl,h⟩
section
variable {X:Cx}
def rIdx(K:KFr):V->List V->Hp->VK->Prop:=fun x vs H Q=>∃(p:Addr) (xs:List V) (y:V) (j:Nat) (z:V),x=.ref p/\vs=[y]/\SqL K H p xs/\flatV y=true/\xs.all flatV=true/\xs[j]?=some z/\eqV z y=true/\(∀m z',m<j->xs[m]?=some z'->eqV z' y=false)/\j<2 ^ 62/\Q (.int j) H
def xV1:MtR X "list.index" (rIdx X.K):=by
 intro DI s σ H x vs v us Q I rx rv h
 obtain⟨p,xs,y,j,z,rfl,rfl,hq,fy,fs,hj,ez,no,hsm,q⟩:=h
 cases rx
 obtain⟨u,rfl,ru⟩:=vals1 rv
 obtain⟨its,r,pl,hz⟩:=I.list hq
 obtain⟨⟨c,dd,dt,sl⟩,e,hc,n,hd⟩:=pl.isList
 simp only at hc hd
 subst hc hd
 obtain⟨w0,hw0,rw0⟩:=r.get hj
 have hlen:=r.length
 have hjl:j<its.length:=(Ac.mp hw0).1
 have flat:∀(m:Nat) (z':V),xs[m]?=some z'->flatV z'=true:=fun m z' hm=>AF.mp fs z' (As hm)
 refine call_meets F.slot_list_index ⟨_,e,rfl⟩ F.entry_list_index (F.args_list_index_2 _ _) (SeqAt.list_indexAt p its.toArray n dd sl u (eqU y) j (by simpa using hjl) (by rfl') ?_ ?_) ⟨e,fun w hw=>qB ru fy r fs w (by simpa using hw),?_⟩
 ·have ew:its.toArray[j]'(by simpa using hjl)=w0:=by
   have h2:=Ac.mp hw0
   simpa using h2.2
  rw[ew,zS6 rw0 (flat j z hj),ez]
 ·intro m hm hlt
  have hm':m<its.length:=by simpa using hm
  obtain⟨z',hz'⟩:∃z',xs[m]?=some z':=⟨xs[m]'(by rfl'),Ab (by rfl')⟩
  obtain⟨w1,hw1,rw1⟩:=r.get hz'
  have ew:its.toArray[m]'hm=w1:=by
   have h2:=Ac.mp hw1
   simpa using h2.2
  rw[ew,zS6 rw1 (flat m z' hz'),no m z' hlt hz']
 ·exact⟨.int j,H,I.tok _,⟨_,rfl⟩,q⟩
end
def eM1(f:List D->D->Option D)(mo ma:Ev->Res D):Ev->Res D:=fun ρ=>(mo ρ).bind fun x=>(Res.lft (lstD x)).bind fun ds=>(ma ρ).bind fun y=>Res.lft (f ds y)
def xH5(f:List D->D->Option D)(mo ma:Ev->Res D)(ρ:Ev):eM1 f mo ma ρ=(mo ρ).bind fun x=>(Res.lft (lstD x)).bind fun ds=>(ma ρ).bind fun y=>Res.lft (f ds y):=rfl
def StepOk(i j k:Int):Prop:=k≠0/\k.natAbs.log2<9000/\Builtin.Range.small i j k=true/\0<=Builtin.Range.rangeSize i j k
instance (i j k:Int):Decidable (StepOk i j k):=by unfold StepOk;infer_instance
end L2.L3
namespace L2.L3
open PySem PyProof.Rows
variable [CN]
section
variable {X:Cx}
end
def revT:D->Option D
 | .list ds=>some (.tuple ds.reverse)
 | _=>none
def eRevT(m:Ev->Res D):Ev->Res D:=fun ρ=>(m ρ).bind fun d=>Res.lft (revT d)
def xV4(m:Ev->Res D)(ρ:Ev):eRevT m ρ=(m ρ).bind fun d=>Res.lft (revT d):=rfl
end L2.L3
namespace L2
open PySem PyProof.Rows
structure CScope2(sc0 scope:Scope)(N0:List Str)(xt yt:Str)(fs:List Str)(js:List Nat):Prop where
 kind:scope.kind=.function
 nocell:∀y∈scope.names,y.2 ≠ .cell
 names:∀y∈scope.names,y.2=.local->scope.names.lookup y.1=some .local
 tgt:scope.names.lookup xt=some .local
 tgt2:scope.names.lookup yt=some .local
 frees:∀y∈scope.names,y.2=.free->sc0.names.lookup y.1=some .cell\/sc0.names.lookup y.1=some .free
 len:js.length=fs.length
 slots:∀p∈fs.zip js,N0[p.2]?=some p.1/\scope.names.lookup p.1=some .free
 nd:(xt::yt::fs).Nodup
def compSt2(σ:St)(js:List Nat)(v w:Option V):St:=v::w::js.map fun j=>(σ[j]?).join
section
variable {X:Cx}{DI:List (Addr×Obj)}{σ:St}{H:Hp}{s₂ s₄:Shared}{sc0 scope:Scope}{N0:List Str}{xt yt:Str}{fs:List Str}{js:List Nat}{fp:List Addr}
def CScope2.cells(S:CScope2 sc0 scope N0 xt yt fs js)(h0:X.env.scope=sc0)(ok:X.Ok):∀n,(n,NameKind.free)∈scope.names->∃c,X.env.cells.lookup n=some c:=fun n hn=>ok.has n (by subst h0;exact S.frees _ hn rfl)
def CScope2.sub(S:CScope2 sc0 scope N0 xt yt fs js)(h0:X.env.scope=sc0)(ok:X.Ok):∀x c,(clos X.env.cells scope.names []).lookup x=some c->X.env.cells.lookup x=some c :=
 cV scope.names [] (S.cells h0 ok) fun x c e=>by simp at e
def Inv.block2(S:CScope2 sc0 scope N0 xt yt fs js)(h0:X.env.scope=sc0)(hN0:X.N=N0)(I:Inv X DI σ H s₂)(hf:∀b∈fp,FpOk X DI H b)(hfo:∀b∈fp,∃o,s₂.heap.get? b=some o)
  (hos:s₄.os=s₂.os) (hg:AllBare s₄.gens) (hk:∀b o,s₂.heap.get? b=some o->s₄.heap.get? b=some o){C:Addr}(hC:s₂.heap.objs.size<=C){m:Str->Option Value}(hn:s₄.heap.Ns C m) :
  Inv (cxComp X (xt::yt::fs) scope C fp s₂ H) [] (compSt2 σ js none none) H s₄:=by
 have sub:=S.sub h0 I.ok
 have blt:∀b∈fp,b<s₂.heap.objs.size:=fun b hb=>let ⟨o,e⟩:=hfo b hb;Ap e
 have ok:(cxComp X (xt::yt::fs) scope C fp s₂ H).Ok:=by
  refine⟨I.ok.mod,S.kind,I.ok.glob,I.ok.blt,hC,fun x y c h1 h2=>I.ok.inj x y c (sub x c h1) (sub y c h2),fun x hx => ?_,fun x c h=>(nomatch h),I.ok.hd,I.ok.frames,.inl rfl,fun b hb=>⟨?_,fun x c h=>(hf b hb).2.2.2.2.1 x c (sub x c h)⟩,I.bs,Bf I.ok.bsz I.sz,fun b o e hb => ?_,fun b hb hs => ?_,I.stack,I.stkFree,I.tb⟩
  ·have hx:(relabel scope X.env).names.lookup x=some .cell\/(relabel scope X.env).names.lookup x=some .free:=hx
   have hfree:scope.names.lookup x=some .free:=by
    rcases hx with hx | hx
    ·rcases qT hx with q | ⟨_,q⟩
     ·exact absurd rfl (S.nocell _ (Bb q))
     ·exact q
    ·rcases qT hx with q | ⟨q,_⟩
     ·exact q
     ·cases q
   exact qG scope.names [] x (Bb hfree)
  ·exact AL (Au (blt b hb) hC)
  ·rcases (hf b hb).2.2.2.1 with z | z
   ·exact I.ok.noex b o e z
   ·exact absurd (Au (Ap (I.ok.bs b o e).1) z) (Ca _)
  ·rcases An.mp (I.stkSub b hs) with z | z
   ·exact (hf b hb).2.1 z
   ·exact (hf b hb).2.2.1 z
 refine⟨ok,hos,hg,Un.kept hk,⟨m,hn,fun i x v e1 e2 e3 => ?_⟩,fun x c e => ?_,I.hok.fresh hC,fun x c e=>I.freeC x c (sub x c e),fun p hp=>absurd (show p∈([]:List (Addr×Obj)) from hp) (by simp),I.hok.kept hk,?_⟩
 ·cases i with
  | zero=>cases e2
  | succ i =>
   cases i with
   | zero=>cases e2
   | succ i =>
   have e1:fs[i]?=some x:=e1
   have e2:(js.map fun j=>(σ[j]?).join)[i]?=some (some v):=e2
   rw[Ai] at e2
   cases ej:js[i]? with
   | none=>rw[ej] at e2;cases e2
   | some j =>
    rw[ej] at e2
    have e2:(σ[j]?).join=some v:=AW e2
    obtain⟨hN,hfr⟩:=S.slots _ (zN5 e1 ej)
    have hN:X.N[j]?=some x:=by rw[hN0];exact hN
    have hk2:X.env.kindOf x=some .cell\/X.env.kindOf x=some .free:=by subst h0;exact S.frees _ (Bb hfr) rfl
    have hs:σ[j]?=some (some v):=by
     cases q:σ[j]? with
     | none=>rw[q] at e2;cases e2
     | some z=>rw[q] at e2;rw[show z=some v from e2]
    obtain⟨m0,hn0,hl⟩:=I.loc
    obtain⟨u,r,l⟩:=hl j x v hN hs (by rcases hk2 with z | z;exact .inr (.inl z);exact .inr (.inr z))
    refine⟨u,r,?_⟩
    rcases l with ⟨hloc,_⟩ | ⟨_,c,hc,hcell⟩
    ·rcases hk2 with z | z
     ·rw[z] at hloc;cases hloc
     ·rw[z] at hloc;cases hloc
    ·obtain⟨c',hc'⟩:=qG (cells:=X.env.cells) scope.names [] x (Bb hfr)
     have:c'=c:=AW ((sub x c' hc').symm.trans hc)
     subst this
     exact .inr ⟨cK hfr,c',hc',hcell.keeps hk⟩
 ·obtain⟨v,z⟩:=I.cell x c (sub x c e)
  exact⟨v,z.keeps hk⟩
 ·show (compSt2 σ js none none).length=(xt::yt::fs).length
  unfold compSt2
  rw[Av,Av,Aa,Av,Av,S.len]
end
def tComp2(K:KFr)(wi:TI)(tt:Addr->List Addr->Shared->Hp->TT)(te:Addr->List Addr->Shared->Hp->TE)(js:List Nat):TE:=fun σ H Q=>wi σ H fun J H1=>∀C fp s₂ H₂,∃W:Nat->Nat->List V->Hp->Prop,(∃m,W 0 m [] H1)/\∀i m acc H,W i m acc H ->
 (J.stop i H/\∀p,H p=none->Q (.ref p) (upd H p (.lst acc))) \/
 (J.go i H/\∃N:List V->Hp->Prop,(∀acc' H',N acc' H'->∃m',m'<m/\W (i+1) m' acc' H') /\
  ∀x H',J.yld i H x H'->∃ta x1 x2,x=.ref ta/\SqT K H' ta [x1,x2]/\tt C fp s₂ H₂ (compSt2 σ js (some x1) (some x2)) H' fun b H2=>if b=true then te C fp s₂ H₂ (compSt2 σ js (some x1) (some x2)) H2 fun v H3=>acc.length<sizeLine/\N (acc ++ [v]) H3 else N acc H2)
def yB9{X:Cx}{elt iter:Expr}{ifs:List Expr}{sc0 scope:Scope}{N0:List Str}{px py tp pos:Pos}{k1:Nat}{xt yt:Str}{fs:List Str}{js:List Nat}{wi:TI}{tt:Addr->List Addr->Shared->Hp->TT}{te:Addr->List Addr->Shared->Hp->TE}(S:CScope2 sc0 scope N0 xt yt fs js)(h0:X.env.scope=sc0)(hN0:X.N=N0)(hc:X.calm=true)
  (hi:PI X (.Tuple [.Name xt px,.Name yt py] k1 tp) iter wi) (ht:∀C fp s₂ H,PTs (cxComp X (xt::yt::fs) scope C fp s₂ H) ifs (tt C fp s₂ H)) (he:∀C fp s₂ H,PE (cxComp X (xt::yt::fs) scope C fp s₂ H) elt (te C fp s₂ H))
  (hs:autoParam (∀x,foldedSetIterable iter X.env x=pure x) DF) :
  PE X (.ListComp elt [⟨.Tuple [.Name xt px,.Name yt py] k1 tp,iter,ifs,0⟩] scope pos) (tComp2 X.K wi tt te js):=by
 intro DI s σ H Q I h
 rw[eval_ListComp]
 refine wpAny_comprehension_free (use:=none) rfl hs (kU (S.cells h0 I.ok)) S.kind S.names ?_
 refine thn (hi DI s σ H _ I h) fun v s1 h1=>thn h1 fun itv s2 h2 => ?_
 obtain⟨it,fp,tn,J,H2,e,I2,T,st2,f2,hW⟩:=h2
 subst e
 have fo:∀b∈fp,∃o,s2.heap.get? b=some o:=fun b hb=>let ⟨o,e,_⟩:=T.obj 0 s2.heap st2 b hb; ⟨o,e⟩
 have blt:∀b∈fp,b<s2.heap.objs.size:=fun b hb=>let ⟨o,e⟩:=fo b hb;Ap e
 refine bH S.nocell S.kind fun D C h₁ mC hDle hCle hDC old hacc hns₁ => ?_
 have bC:∀b o,s2.heap.get? b=some o->b≠C:=fun b o q z=>Co.mpr hCle (z▸Ap q)
 have bD:∀b o,s2.heap.get? b=some o->b≠D:=fun b o q z=>Co.mpr hDle (z▸Ap q)
 obtain⟨W,⟨m0,w0⟩,turn⟩:=hW C fp s2 H2
 have fpk:∀{H':Hp}(ob:Obj),(∀b∈fp,H' b=none)->∀b∈fp,FpOk (cxComp X (xt::yt::fs) scope C fp s2 H2) [(D,ob)] H' b:=fun {H'} ob hn b hb=>by
  refine⟨hn b hb,AL (Au (blt b hb) hCle),fun z => ?_,.inl hb,fun x c e=>(f2 b hb).2.2.2.2.1 x c (S.sub h0 I2.ok x c e),fun p hp => ?_⟩
  ·rcases An.mp (I2.stkSub b z) with q | q
   ·exact (f2 b hb).2.1 q
   ·exact (f2 b hb).2.2.1 q
  ·have:p=(D,ob):=by
    have hp:p ∈ [] ++ [(D,ob)]:=hp
    simpa using hp
   subst this
   exact BZ (Au (blt b hb) hDle)
 have loop:codeAny (model X.prog X.w) X.A (.compLoop (.ListComp elt [⟨.Tuple [.Name xt px,.Name yt py] k1 tp,iter,ifs,0⟩] scope pos) 0 (.ref it) (.ref D) (compEnvC scope (clos X.env.cells scope.names []) C X.env))
    (compPost (model X.prog X.w) X.A X.xe none (EP X DI σ Q) (.ref D) C) { s2 with heap:=h₁ }:=by
  have J0:Inv (cxComp X (xt::yt::fs) scope C fp s2 H2) [] (compSt2 σ js none none) H2 { s2 with heap:=h₁ } :=
   Inv.block2 (s₂:=s2) (s₄:={ s2 with heap:=h₁ }) S h0 hN0 I2 f2 fo rfl I2.bare old hCle hns₁
  have H2D:H2 D=none:=I2.hok.fresh hDle
  have ofD:D∉frs X.stack:=fun z=>by
   rcases An.mp (I2.stkSub D z) with q | q
   ·exact absurd I2.lt (by rw[<-q];exact Co.mpr hDle)
   ·exact I2.nofs (a:=D) hDle q
  refine codeAny_loop rfl (fun n s'=>∃(i:Nat) (σ':St) (H':Hp) (acc:List V) (its:List Value) (k:Nat),(∃v0 w0,σ'=compSt2 σ js v0 w0)/\Inv (cxComp X (xt::yt::fs) scope C fp s2 H2) [] σ' H' s'/\tn i s'.heap/\(∀b∈fp,H' b=none)/\H' D=none /\
    s'.heap.get? D=some { cls:=.type "list",data:=.seq its.toArray k }/\Vals acc its/\acc.length<=sizeLine/\W i n acc H') ?_ m0
   ⟨0,_,H2,[],[],0,⟨none,none,rfl⟩,J0,T.keep 0 _ _ st2 fun b hb o e=>old b o e,fun b hb=>(f2 b hb).1,H2D,hacc,.nil,AQ _,w0⟩
  rintro n s3 ⟨i,σ3,H3,acc,its,k,⟨v0,w0,rfl⟩,I3,st3,fr3,hD3,d3,va,hz,w3⟩
  show wpAny _ X.A ((compTurn (.ListComp elt [⟨.Tuple [.Name xt px,.Name yt py] k1 tp,iter,ifs,0⟩] scope pos) 0 (.ref it) (.ref D) (compEnvC scope (clos X.env.cells scope.names []) C X.env)).onRaise (fun x=>do noteFrame x (compEnvC scope (clos X.env.cells scope.names []) C X.env);theTreesLotGoes x)) _ _ s3
  refine wpAny_noted ?_
  rw[compTurn_list]
  refine Ah (wpAny_standAt ?_)
  have pinD:Inv (cxComp X (xt::yt::fs) scope C fp s2 H2) [(D,{ cls:=.type "list",data:=.seq its.toArray k })] (compSt2 σ js v0 w0) H3 s3:=I3.yE fun p hp=>by
   have:p=(D,{ cls:=.type "list",data:=.seq its.toArray k }):=by simpa using hp
   subst this
   exact⟨d3,hD3,hDC,ofD,fun v z=>by cases z⟩
  refine Ah ?_
  rcases turn i n acc H3 w3 with ⟨stop,qn⟩ | ⟨go,N,hN,step⟩
  ·refine thn (T.done (cxComp X (xt::yt::fs) scope C fp s2 H2) rfl rfl rfl hc i _ s3 _ H3 _ pinD (fpk _ fr3) st3 stop) fun r s4 ⟨hr,I4⟩ => ?_
   subst hr
   refine Ax ?_
   obtain⟨m4,hn4,_⟩:=I4.loc
   refine⟨m4,hn4,fun h' hsb=>⟨.ref D,_,I2.unblock f2 I4 hCle hDle hDC hD3 ((I4.pin (D,{ cls:=.type "list",data:=.seq its.toArray k }) (Ag _ Ae)).1) va hz hsb,rfl,qn D hD3⟩⟩
  ·refine thn (T.item (cxComp X (xt::yt::fs) scope C fp s2 H2) rfl rfl rfl hc i _ s3 _ H3 _ pinD (fpk _ fr3) st3 go) fun r s4 ⟨u,hr,h4⟩ => ?_
   subst hr
   refine Ah (thn h4 fun _ s5 ⟨x,H5,I5,r5,y5,st5,fr5⟩ => ?_)
   have I5':=I5.pinned (fpk _ fr5) (T.obj _ _ st5)
   obtain⟨ta,x1,x2,ex,hx,q6⟩:=step x H5 y5
   have g0:PG (cxComp X (xt::yt::fs) scope C fp s2 H2) (.Name xt px) (gName 0):=vA S.nd rfl (.inl (lookup_relabel_local S.tgt)) (.inr (lookup_relabel_local S.tgt))
   have g1:PG (cxComp X (xt::yt::fs) scope C fp s2 H2) (.Name yt py) (gName 1):=vA S.nd rfl (.inl (lookup_relabel_local S.tgt2)) (.inr (lookup_relabel_local S.tgt2))
   have gok:PG (cxComp X (xt::yt::fs) scope C fp s2 H2) (.Tuple [.Name xt px,.Name yt py] k1 tp) (gTup X.K 2 (gCons (gName 0) (gCons (gName 1) gNil))):=yZ1 hc (gM g0 (gM g1 zO5))
   have noE:∀(a:Value) (s':Shared),(cxComp X (xt::yt::fs) scope C fp s2 H2).xe a s'->notedBy (model X.prog X.w) X.A (compEnvC scope (clos X.env.cells scope.names []) C X.env) (fun e s'=>compPost (model X.prog X.w) X.A X.xe none (EP X DI σ Q) (.ref D) C (.error e) s') a s':=fun _ _ z=>False.elim z
   refine Ah (wpAny_mono (gok _ s5 (compSt2 σ js v0 w0) H5 x u (fun σ' H'=>σ'=compSt2 σ js (some x1) (some x2)/\H'=H5) I5' r5 ⟨ta,[x1,x2],ex,hx,rfl,x1,[x2],rfl,x2,[],rfl,rfl,rfl,rfl⟩) (fun _ s6 ⟨σ6,H6,I6,e6,e6'⟩ => ?_) noE)
   subst e6 e6'
   have fin:∀{acc':List V}{its':List Value}{k':Nat}{H7:Hp}{s7:Shared},Inv (cxComp X (xt::yt::fs) scope C fp s2 H2) [] (compSt2 σ js (some x1) (some x2)) H7 s7->tn (i+1) s7.heap->(∀b∈fp,H7 b=none)->H7 D=none->s7.heap.get? D=some { cls:=.type "list",data:=.seq its'.toArray k' }->Vals acc' its'->acc'.length<=sizeLine->N acc' H7 ->
     ∃m,m<n/\∃(i:Nat) (σ':St) (H':Hp) (acc:List V) (its:List Value) (k:Nat),(∃v0 w0,σ'=compSt2 σ js v0 w0)/\Inv (cxComp X (xt::yt::fs) scope C fp s2 H2) [] σ' H' s7/\tn i s7.heap/\(∀b∈fp,H' b=none)/\H' D=none /\
      s7.heap.get? D=some { cls:=.type "list",data:=.seq its.toArray k }/\Vals acc its/\acc.length<=sizeLine/\W i m acc H':=fun {acc' its' k' H7 s7} a1 a2 a3 a4 a5 a6 a7 a8=>by
    obtain⟨m',hm,w7⟩:=hN _ _ a8
    exact⟨m',hm,i+1,_,H7,acc',its',k',⟨_,_,rfl⟩,a1,a2,a3,a4,a5,a6,a7,w7⟩
   have rest:∀{H7:Hp}{s7:Shared},Inv (cxComp X (xt::yt::fs) scope C fp s2 H2) ([(D,{ cls:=.type "list",data:=.seq its.toArray k })]++pinsAt fp s5.heap) (compSt2 σ js (some x1) (some x2)) H7 s7 ->
     tn (i+1) s7.heap/\(∀b∈fp,H7 b=none)/\H7 D=none/\s7.heap.get? D=some { cls:=.type "list",data:=.seq its.toArray k }:=fun {H7 s7} I7=>by
    refine⟨T.keep _ _ _ st5 fun b hb o e=>(I7.pin (b,o) (Ag _ (Ag _ (xD hb e)))).1,fun b hb => ?_,(I7.pin (D,{ cls:=.type "list",data:=.seq its.toArray k }) (Ag _ (AS _ Ae))).2.1,(I7.pin (D,{ cls:=.type "list",data:=.seq its.toArray k }) (Ag _ (AS _ Ae))).1⟩
    obtain⟨o,e,d⟩:=T.obj _ _ st5 b hb
    exact (I7.pin (b,o) (Ag _ (Ag _ (xD hb e)))).2.1
   have elem:∀{H7:Hp}{s7:Shared},Inv (cxComp X (xt::yt::fs) scope C fp s2 H2) ([(D,{ cls:=.type "list",data:=.seq its.toArray k })]++pinsAt fp s5.heap) (compSt2 σ js (some x1) (some x2)) H7 s7 ->
     (te C fp s2 H2 (compSt2 σ js (some x1) (some x2)) H7 fun v H3=>acc.length<sizeLine/\N (acc ++ [v]) H3) ->
     wpAny (model X.prog X.w) X.A (eval elt (compEnvC scope (clos X.env.cells scope.names []) C X.env)) (fun y s8=>wpAny (model X.prog X.w) X.A (call (.builtin "list.append") [.ref D,y]) (fun _ s9=>∃m,m<n/\∃(i:Nat) (σ':St) (H':Hp) (acc:List V) (its:List Value) (k:Nat),(∃v0 w0,σ'=compSt2 σ js v0 w0)/\Inv (cxComp X (xt::yt::fs) scope C fp s2 H2) [] σ' H' s9/\tn i s9.heap/\(∀b∈fp,H' b=none)/\H' D=none /\
      s9.heap.get? D=some { cls:=.type "list",data:=.seq its.toArray k }/\Vals acc its/\acc.length<=sizeLine/\W i m acc H')
      (fun _ _=>False) s8) (fun _ _=>False) s7:=fun {H7 s7} I7 q7=>by
    refine thn (he C fp s2 H2 _ s7 _ H7 _ I7 q7) fun y s8 ⟨v,H8,I8,r8,hl8,n8⟩ => ?_
    obtain⟨t8,fr8,hD8,d8⟩:=rest I8
    have hsz:=va.length
    refine call_meets CS ⟨_,d8,rfl⟩ CM (CB _ _) (CV D its.toArray k y (by rw[Am];rfl')) ⟨d8,?_⟩
    have q:=Df d8 (·.push y)
    rw[show (its.toArray.push y)=(its ++ [y]).toArray by simp] at q
    have kk:∀b o,b≠D->s8.heap.get? b=some o->(s8.heap.update D (Obj.mapSeq (·.push y))).get? b=some o:=fun b o hb e=>(BF s8.heap _ (Cj hb)).trans e
    have I9:Inv (cxComp X (xt::yt::fs) scope C fp s2 H2) [] (compSt2 σ js (some x1) (some x2)) H8 { s8 with heap:=s8.heap.update D (Obj.mapSeq (·.push y)) }:=by
     refine Inv.turned (it:=D) (t':=s8.toks) (I8.yE (pins':=[]) fun p hp=>nomatch hp) kk hD8 hDC (.inr hDle) (fun x c e z => ?_) fun p hp=>absurd (show p∈([]:List (Addr×Obj)) from hp) (by simp)
     obtain⟨v,o,ho,_⟩:=I2.cell x c (S.sub h0 I2.ok x c e)
     exact bD c o ho z
    refine fin I9 (T.keep _ _ _ t8 fun b hb o e=>kk b o (AL (Au (blt b hb) hDle)) e) fr8 hD8 q (va.append (.cons r8 .nil)) ?_ n8
    rw[Ao,Bc]
    rfl'
   have htt:=ht C fp s2 H2
   generalize tt C fp s2 H2=tt' at htt q6
   cases htt with
   | nil =>
    refine Ah (Ax ?_)
    dsimp only[tTrue] at q6
    rw[Aq rfl] at q6
    refine wpAny_mono (Ah (Ah (thn (elem I6 q6) fun y s8 h8=>Ah (thn h8 fun _ s9 h9=>Ax (Ax ⟨rfl,h9⟩))))) (fun _ _ z=>z) fun _ _ z=>False.elim z
   | one ht1 =>
    refine Ah (wpAny_tests_one (wpAny_mono (ht1 _ s6 _ H6 _ I6 q6) (fun b s7 ⟨H7,I7,q7⟩ => ?_) noE))
    cases b with
    | false =>
     rw[AJ AK] at q7
     obtain⟨t8,fr8,hD8,d8⟩:=rest I7
     exact Ax ⟨rfl,fin (I7.yE (pins':=[]) fun p hp=>nomatch hp) t8 fr8 hD8 d8 va hz q7⟩
    | true =>
     rw[Aq rfl] at q7
     refine wpAny_mono (Ah (Ah (thn (elem I7 q7) fun y s8 h8=>Ah (thn h8 fun _ s9 h9=>Ax (Ax ⟨rfl,h9⟩))))) (fun _ _ z=>z) fun _ _ z=>False.elim z
 exact codeAny_compStart_list loop (T.self X.A 0 _ _ _ (T.keep 0 _ _ st2 fun b hb o e=>old b o e) loop)
end L2
namespace L2.L3
open PySem PyProof.Rows
variable [CN]
def cEnv2(ρ:Ev)(js:List Nat)(x y:D):Ev:=some x::some y::js.map fun j=>(ρ[j]?).join
def capt2(js l:List Nat):List Nat:=((List.range js.length).filter fun i=>l.contains (js.getD i 0)).map (·+2)
def pr2{α:Type}(d:D)(f:D->D->Res α):Res α :=
 match d with
 | .tuple [a,b]=>f a b
 | _=>.no
def yD1{α:Type}{d:D}{f:D->D->Res α}{r:α}(h:pr2 d f=.ok r):∃a b,d=.tuple [a,b]/\f a b=.ok r:=by
 unfold pr2 at h
 split at h
 ·exact⟨_,_,rfl,h⟩
 ·cases h
def eComp2(mi:Ev->Res (List D))(mt:Ev->Res Bool)(me:Ev->Res D)(js:List Nat):Ev->Res D:=fun ρ=>(mi ρ).bind fun ds=>if ds.length<=sizeLine then (compM (fun d=>pr2 d fun x y=>mt (cEnv2 ρ js x y)) (fun d=>pr2 d fun x y=>me (cEnv2 ρ js x y)) ds).bind fun out=>.ok (.list out) else .no
def yD9{js l:List Nat}{i:Nat}(h:i∈capt2 js l):∃k,i=k+2/\k<js.length/\js.getD k 0∈l:=by
 unfold capt2 at h
 obtain⟨k,hk,rfl⟩:=Ay.mp h
 obtain⟨h1,h2⟩:=Bk.mp hk
 exact⟨k,rfl,Al.mp h1,AE.mp h2⟩
def zK9{js l:List Nat}{k j:Nat}(h:js[k]?=some j)(hl:j∈l):k+2∈capt2 js l:=by
 unfold capt2
 refine Ay.mpr ⟨k,Bk.mpr ⟨Al.mpr ?_,?_⟩,rfl⟩
 ·exact (Ac.mp h).1
 ·rw[AD,h]
  exact AE.mpr hl
def zS5{ρ:Ev}{js:List Nat}{x y d:D}{k:Nat}(h:(cEnv2 ρ js x y)[k+2]?=some (some d)):∃j,js[k]?=some j/\ρ[j]?=some (some d):=by
 unfold cEnv2 at h
 rw[BI,BI,Ai] at h
 cases e:js[k]? with
 | none=>rw[e] at h;cases h
 | some j =>
  rw[e] at h
  refine⟨j,rfl,?_⟩
  have h:(ρ[j]?).join=some d:=AW h
  cases q:ρ[j]? with
  | none=>rw[q] at h;cases h
  | some z=>rw[q] at h;rw[show z=some d from h]
def vN{σ:St}{js:List Nat}{v0 w0:Option V}{v:V}{k j:Nat}(h:js[k]?=some j)(e:σ[j]?=some (some v)):(compSt2 σ js v0 w0)[k+2]?=some (some v):=by
 unfold compSt2
 rw[BI,BI,Ai,h]
 show some ((σ[j]?).join)=_
 rw[e]
 rfl
def cW2(Oc:Wd)(Ob:Addr->Prop)(σ:St)(js:List Nat):Wd:=⟨Uni Oc Ob,fun i=>adr ((compSt2 σ js none none)[i]?)⟩
def Rel.comp2{Oc:Wd}{Ob:Addr->Prop}{om ln:List Nat}{σ:St}{H:Hp}{ρ:Ev}{js:List Nat}{x y:V}{d d2:D}(R:Rel Oc Ob om ln σ H ρ)(r:Rep H (Uni Oc Ob) x d)(r2:Rep H (Uni Oc Ob) y d2):Rel (cW2 Oc Ob σ js) (fun _=>False) [] (capt2 js (om++ln)) (compSt2 σ js (some x) (some y)) H (cEnv2 ρ js d d2) where
 len:=by unfold compSt2 cEnv2;simp
 val:=fun i d' e _ hl=>by
  cases i with
  | zero =>
   cases e
   exact⟨x,rfl,r.less fun b z=>z.elim id fun z=>z.elim⟩
  | succ k =>
   cases k with
   | zero =>
   cases e
   exact⟨y,rfl,r2.less fun b z=>z.elim id fun z=>z.elim⟩
   | succ k =>
   obtain⟨j,e1,e2⟩:=zS5 e
   have h1:j∉om:=fun z=>hl (zK9 e1 (AS _ z))
   have h2:j∉ln:=fun z=>hl (zK9 e1 (Ag _ z))
   obtain⟨v,q,rv⟩:=R.val j d' e2 h1 h2
   exact⟨v,vN e1 q,rv.less fun b z=>z.elim id fun z=>z.elim⟩
 own:=fun i d' e h=>nomatch h
 lnt:=fun i d' e _ hl=>by
  obtain⟨k,rfl,hk,hj⟩:=yD9 hl
  obtain⟨j,e1,e2⟩:=zS5 e
  rw[AD,e1,CG] at hj
  by_cases ho:j∈om
  ·obtain⟨v,q,a,ys,ds,z1,z2,z3,z4,z5⟩:=R.own j d' e2 ho
   have ea:(cW2 Oc Ob σ js).la (k+2)=a:=by show adr _=a;rw[vN e1 q,z1];rfl
   exact⟨v,vN e1 q,ys,ds,by rw[ea];exact z1,z2,by rw[ea];exact z3,by rw[ea];exact .inr z4,z5.less fun b z=>z.elim id fun z=>z.elim⟩
  ·have hl2:j∈ln:=(AM.mp hj).elim (fun z=>absurd z ho) id
   obtain⟨v,q,ys,ds,z1,z2,z3,z4,z5⟩:=R.lnt j d' e2 ho hl2
   have ea:(cW2 Oc Ob σ js).la (k+2)=Oc.la j:=by show adr _=_;rw[vN e1 q,z1];rfl
   exact⟨v,vN e1 q,ys,ds,by rw[ea];exact z1,z2,by rw[ea];exact z3,by rw[ea];exact .inl z4,z5.less fun b z=>z.elim id fun z=>z.elim⟩
 inj:=fun i j di dj a _ _ h=>nomatch h
 oh:=fun a z=>R.oh a (z.elim id fun z=>z.elim)
 ap:=fun a z=>z.elim
abbrev cC2(C:Ct)(N:List Str)(scope:Scope)(A:Addr)(fp:List Addr)(s₂:Shared)(H:Hp)(js:List Nat):Ct:=⟨cxComp C.X N scope A fp s₂ H,fun _ _=>False,[],capt2 js (C.om++C.ln)⟩
def zB4{K:KFr}{H:Hp}{O:Addr->Prop}{x:V}{a b:D}(r:Rep H O x (.tuple [a,b])):∃ta x1 x2,x=.ref ta/\SqT K H ta [x1,x2]/\Rep H O x1 a/\Rep H O x2 b:=by
 cases r with
 | tup r n t =>
  cases t with
  | cons h1 t =>
   cases t with
   | cons h2 t =>
    cases t
    exact⟨_,_,_,rfl,.inl r,h1,h2⟩
def yX6{C:Ct}{elt iter:Expr}{ifs:List Expr}{sc0 scope:Scope}{N0:List Str}{px py tp pos:Pos}{k1:Nat}{xt yt:Str}{fs:List Str}{js:List Nat}{mi:Ev->Res (List D)}{mt:Ev->Res Bool}{me:Ev->Res D}(S:CScope2 sc0 scope N0 xt yt fs js)(h0:C.X.env.scope=sc0)(hN0:C.X.N=N0)(hc:C.X.calm=true)
  (hi:RIc C (.Tuple [.Name xt px,.Name yt py] k1 tp) iter mi) (ht:∀A fp s₂ H,RTs (cC2 C (xt::yt::fs) scope A fp s₂ H js) ifs mt) (he:∀A fp s₂ H,RE (cC2 C (xt::yt::fs) scope A fp s₂ H js) .cl elt me)
  (hs:autoParam (∀x,foldedSetIterable iter C.X.env x=pure x) DF) :
  RE C .new (.ListComp elt [⟨.Tuple [.Name xt px,.Name yt py] k1 tp,iter,ifs,0⟩] scope pos) (eComp2 mi mt me js):=by
 obtain⟨wi,pi,qi⟩:=hi
 refine⟨_,yB9 (tt:=fun A fp s H=>Classical.choose (ht A fp s H)) (te:=fun A fp s H=>Classical.choose (he A fp s H)) S h0 hN0 hc pi (fun A fp s H=>(AT (ht A fp s H)).1) (fun A fp s H=>(AT (he A fp s H)).1) hs,fun Oc Ob σ H ρ Q R h => ?_⟩
 refine qi Oc Ob σ H ρ _ R (Res.zQ (Res.zX h) (fun ds _ k J H1 s1 wk => ?_) fun _ z=>z)
 intro A fp s₂ H₂
 have qt:=(AT (ht A fp s₂ H₂)).2
 have qe:=(AT (he A fp s₂ H₂)).2
 have k:(if ds.length<=sizeLine then (compM (fun d=>pr2 d fun x y=>mt (cEnv2 ρ js x y)) (fun d=>pr2 d fun x y=>me (cEnv2 ρ js x y)) ds).bind fun out=>Res.ok (PyData.list out) else .no).post (fun d=>∀v H',Same H H'->VR .new Oc Ob H H' v d->Q v H') (fun c=>∀H',Same H H'->C.XE c H'):=k
 by_cases hlen:ds.length<=sizeLine
 ·rw[Aq hlen] at k
  generalize hT:(fun d=>pr2 d fun x y=>mt (cEnv2 ρ js x y))=T at k
  generalize hF:(fun d=>pr2 d fun x y=>me (cEnv2 ρ js x y))=F at k
  cases ec:compM T F ds with
  | no=>rw[ec] at k;exact k.elim
  | ex c =>
   exfalso
   have nex:∀xs c,compM T F xs ≠ .ex c:=by
    intro xs
    induction xs with
    | nil=>intro c z;cases z
    | cons x xs ih =>
     intro c z
     rw[compM] at z
     cases e1:noEx (T x) with
     | no=>rw[e1] at z;cases z
     | ex c'=>cases hx:T x <;> rw[hx] at e1 <;> cases e1
     | ok b =>
      rw[e1,Res.bind_ok] at z
      cases b with
      | false=>exact ih c z
      | true =>
       simp only[if_true] at z
       cases e2:noEx (F x) with
       | no=>rw[e2] at z;cases z
       | ex c'=>cases hx:F x <;> rw[hx] at e2 <;> cases e2
       | ok y =>
        rw[e2,Res.bind_ok] at z
        cases e3:compM T F xs with
        | no=>rw[e3] at z;cases z
        | ex c'=>exact ih c' e3
        | ok ys=>rw[e3] at z;cases z
   exact nex ds c ec
  | ok out =>
   rw[ec,Res.bind_ok] at k
   refine⟨fun i m acc H=>m=ds.length-i/\i<=ds.length/\Same H1 H/\∃done rest,Reps H (Uni Oc Ob) acc done/\acc.length<=i/\compM T F (ds.drop i)=.ok rest/\done++rest=out,⟨_,rfl,AQ _,Same.refl _,[],out,.nil,Ak _,ec,rfl⟩,?_⟩
   rintro i m acc H2 ⟨rfl,hi,s2,done,rest,ra,la,er,eo⟩
   obtain⟨w1,w2⟩:=wk H2 s2 i
   have R2:=(R.same s1).same s2
   by_cases hlt:i<ds.length
   ·obtain⟨go,yl⟩:=w1 ds[i] (Ab hlt)
    have ed:ds.drop i=ds[i]::ds.drop (i+1):=BB hlt
    rw[ed,compM] at er
    have nxt:∀(acc':List V) (H3:Hp) (done' rest':List D),Same H2 H3->Reps H3 (Uni Oc Ob) acc' done'->acc'.length<=i+1->compM T F (ds.drop (i+1))=.ok rest'->done'++rest'=out ->
      ∃m',m'<ds.length-i/\(m'=ds.length-(i+1)/\i+1<=ds.length/\Same H1 H3/\∃done rest,Reps H3 (Uni Oc Ob) acc' done/\acc'.length<=i+1/\compM T F (ds.drop (i+1))=.ok rest/\done++rest=out) :=
     fun acc' H3 done' rest' s3 r3 l3 c3 o3=>⟨_,by rfl',rfl,hlt,s2.trans s3,done',rest',r3,l3,c3,o3⟩
    refine .inr ⟨go,fun acc' H'=>∃m',m'<ds.length-i/\(m'=ds.length-(i+1)/\i+1<=ds.length/\Same H1 H'/\∃done rest,Reps H' (Uni Oc Ob) acc' done/\acc'.length<=i+1/\compM T F (ds.drop (i+1))=.ok rest/\done++rest=out),fun acc' H' z=>z,fun x H3 hy => ?_⟩
    obtain⟨s3,rx⟩:=yl x H3 hy
    cases e1:noEx (T ds[i]) with
    | no=>rw[e1] at er;cases er
    | ex c=>rw[e1] at er;cases er
    | ok b =>
     rw[e1,Res.bind_ok] at er
     have t0:=kC e1
     rw[<-hT] at t0
     obtain⟨da,db,ed2,t1⟩:=yD1 t0
     rw[ed2] at rx
     obtain⟨ta,x1,x2,rfl,hsq,rx1,rx2⟩:=zB4 (K:=C.X.K) rx
     have R3:=(R2.same s3).comp2 (js:=js) rx1 rx2
     refine⟨ta,x1,x2,rfl,hsq,?_⟩
     refine qt _ _ _ H3 _ _ R3 ?_
     show (mt (cEnv2 ρ js da db)).post _ _
     rw[t1]
     intro H4 s4
     cases b with
     | false=>exact iteF (nxt acc H4 done rest (s3.trans s4) (ra.same (s3.trans s4)) (by rfl') er eo)
     | true =>
      refine iteT ?_
      simp only[if_true] at er
      cases e2:noEx (F ds[i]) with
      | no=>rw[e2] at er;cases er
      | ex c=>rw[e2] at er;cases er
      | ok y =>
       rw[e2,Res.bind_ok] at er
       have t2:me (cEnv2 ρ js da db)=.ok y:=by
        have t2:=kC e2
        rw[<-hF,ed2] at t2
        exact t2
       refine qe _ _ _ H4 _ _ (R3.same s4) ?_
       show (me (cEnv2 ρ js da db)).post _ _
       rw[t2]
       intro v H5 s5 rv
       refine⟨by rfl',?_⟩
       obtain⟨ys,e3⟩:∃ys,compM T F (ds.drop (i+1))=.ok ys:=by
        cases e3:compM T F (ds.drop (i+1)) with
        | no=>rw[e3] at er;cases er
        | ex c=>rw[e3] at er;cases er
        | ok ys=>exact⟨ys,rfl⟩
       rw[e3,Res.bind_ok] at er
       cases er
       have rv':Rep H5 (Uni Oc Ob) v y:=Rep.less rv fun b z=>.inl z
       refine nxt (acc ++ [v]) H5 (done ++ [y]) ys ((s3.trans s4).trans s5) ((ra.same ((s3.trans s4).trans s5)).append (.one rv')) (by rw[Ao,Bc];rfl') e3 ?_
       rw[Bd]
       exact eo
   ·have ei:i=ds.length:=by rfl'
    subst ei
    refine .inl ⟨w2 (Ak _),fun p hp => ?_⟩
    rw[BJ] at er
    cases er
    rw[Bn] at eo
    subst eo
    exact k _ _ ((s1.trans s2).trans (Same.new hp)) (xU (s1.trans s2) hp ra)
 ·rw[AJ hlen] at k
  exact k.elim
def RIo.c{C:Ct}{tg iter:Expr}{m:Ev->Res (List D)}(h:RIo C tg iter m):RIc C tg iter m:=by
 obtain⟨wi,p,q⟩:=h
 exact⟨wi,p,fun Oc Ob σ H ρ W R h=>q Oc Ob σ H ρ W R (Res.zQ h (fun ds _ k J H1 s w=>k J H1 s fun H2 s2=>w H2 Ob (Same.frm s2) (fun b z=>.inl z) (R.same (s.trans s2)).oh) fun _ z=>z)⟩
section
variable {X:Cx}{DI:List (Addr×Obj)}{σ:St}{H:Hp}{s:Shared}{h':Heap}
end
structure Apart5(z TI TO i1 i2:Addr):Prop where
 TIz:TI≠z
 TOz:TO≠z
 i1z:i1≠z
 i2z:i2≠z
 TITO:TI≠TO
 TIi1:TI≠i1
 TIi2:TI≠i2
 TOi1:TO≠i1
 TOi2:TO≠i2
 i12:i1≠i2
end L2.L3
namespace L2
open PySem PySem.Spec PyProof.Rows
def yO3{X:Cx}{elt iter:Expr}{ifs:List Expr}{sc0 scope:Scope}{N0:List Str}{px pw tp pos:Pos}{k1:Nat}{xt yt:Str}{fs:List Str}{js:List Nat}{wi:TI}{tt:Addr->List Addr->Shared->Hp->TT}{te:Addr->List Addr->Shared->Hp->TE}(S:CScope2 sc0 scope N0 xt yt fs js)(h0:X.env.scope=sc0)(hN0:X.N=N0)(hc:X.calm=true)
  (hi:PI X (.Tuple [.Name xt px,.Name yt pw] k1 tp) iter wi) (ht:∀C fp s₂ H,PTs (cxComp X (xt::yt::fs) scope C fp s₂ H) ifs (tt C fp s₂ H)) (he:∀C fp s₂ H,PE (cxComp X (xt::yt::fs) scope C fp s₂ H) elt (te C fp s₂ H))
  (hs:autoParam (∀x,foldedSetIterable iter X.env x=pure x) DF)
  {DI:List (Addr×Obj)}{cpos:Pos}{s:Shared}{σ:St}{H:Hp}{Q:VK}{use:Option (Value->Sem Unit)}{Qv:Value->Shared->Prop}(I:Inv X DI σ H s) (h:tComp2 X.K wi tt te js σ H Q)
  (hfin:∀(s':Shared) (C D:Addr) (Ha:Hp) (fl:Flow),(∀h'',Heap.SameBut C s'.heap h''->Inv X DI σ Ha { s' with heap:=h'' })->(∃m,s'.heap.Ns C m)->FpOk X DI Ha C->Q (.ref D) Ha->compPost (model X.prog X.w) X.A X.xe use Qv (.ref D) C (.ok fl) s') :
  wpAny (model X.prog X.w) X.A (comprehension (.ListComp elt [⟨.Tuple [.Name xt px,.Name yt pw] k1 tp,iter,ifs,0⟩] scope pos) scope X.env cpos (newList []) false (eval iter X.env) use) Qv X.xe s:=by
 refine wpAny_comprehension_free (use:=use) rfl hs (kU (S.cells h0 I.ok)) S.kind S.names ?_
 refine thn (hi DI s σ H _ I h) fun v s1 h1=>thn h1 fun itv s2 h2 => ?_
 obtain⟨it,fp,tn,J,H2,e,I2,T,st2,f2,hW⟩:=h2
 subst e
 have fo:∀b∈fp,∃o,s2.heap.get? b=some o:=fun b hb=>let ⟨o,e,_⟩:=T.obj 0 s2.heap st2 b hb; ⟨o,e⟩
 have blt:∀b∈fp,b<s2.heap.objs.size:=fun b hb=>let ⟨o,e⟩:=fo b hb;Ap e
 refine bH S.nocell S.kind fun D C h₁ mC hDle hCle hDC old hacc hns₁ => ?_
 have bC:∀b o,s2.heap.get? b=some o->b≠C:=fun b o q z=>Co.mpr hCle (z▸Ap q)
 have bD:∀b o,s2.heap.get? b=some o->b≠D:=fun b o q z=>Co.mpr hDle (z▸Ap q)
 obtain⟨W,⟨m0,w0⟩,turn⟩:=hW C fp s2 H2
 have fpk:∀{H':Hp}(ob:Obj),(∀b∈fp,H' b=none)->∀b∈fp,FpOk (cxComp X (xt::yt::fs) scope C fp s2 H2) [(D,ob)] H' b:=fun {H'} ob hn b hb=>by
  refine⟨hn b hb,AL (Au (blt b hb) hCle),fun z => ?_,.inl hb,fun x c e=>(f2 b hb).2.2.2.2.1 x c (S.sub h0 I2.ok x c e),fun p hp => ?_⟩
  ·rcases An.mp (I2.stkSub b z) with q | q
   ·exact (f2 b hb).2.1 q
   ·exact (f2 b hb).2.2.1 q
  ·have:p=(D,ob):=by
    have hp:p ∈ [] ++ [(D,ob)]:=hp
    simpa using hp
   subst this
   exact BZ (Au (blt b hb) hDle)
 have loop:codeAny (model X.prog X.w) X.A (.compLoop (.ListComp elt [⟨.Tuple [.Name xt px,.Name yt pw] k1 tp,iter,ifs,0⟩] scope pos) 0 (.ref it) (.ref D) (compEnvC scope (clos X.env.cells scope.names []) C X.env))
    (compPost (model X.prog X.w) X.A X.xe use Qv (.ref D) C) { s2 with heap:=h₁ }:=by
  have J0:Inv (cxComp X (xt::yt::fs) scope C fp s2 H2) [] (compSt2 σ js none none) H2 { s2 with heap:=h₁ } :=
   Inv.block2 (s₂:=s2) (s₄:={ s2 with heap:=h₁ }) S h0 hN0 I2 f2 fo rfl I2.bare old hCle hns₁
  have H2D:H2 D=none:=I2.hok.fresh hDle
  have ofD:D∉frs X.stack:=fun z=>by
   rcases An.mp (I2.stkSub D z) with q | q
   ·exact absurd I2.lt (by rw[<-q];exact Co.mpr hDle)
   ·exact I2.nofs (a:=D) hDle q
  refine codeAny_loop rfl (fun n s'=>∃(i:Nat) (σ':St) (H':Hp) (acc:List V) (its:List Value) (k:Nat),(∃v0 w0,σ'=compSt2 σ js v0 w0)/\Inv (cxComp X (xt::yt::fs) scope C fp s2 H2) [] σ' H' s'/\tn i s'.heap/\(∀b∈fp,H' b=none)/\H' D=none /\
    s'.heap.get? D=some { cls:=.type "list",data:=.seq its.toArray k }/\Vals acc its/\acc.length<=sizeLine/\W i n acc H') ?_ m0
   ⟨0,_,H2,[],[],0,⟨none,none,rfl⟩,J0,T.keep 0 _ _ st2 fun b hb o e=>old b o e,fun b hb=>(f2 b hb).1,H2D,hacc,.nil,AQ _,w0⟩
  rintro n s3 ⟨i,σ3,H3,acc,its,k,⟨v0,w0,rfl⟩,I3,st3,fr3,hD3,d3,va,hz,w3⟩
  show wpAny _ X.A ((compTurn (.ListComp elt [⟨.Tuple [.Name xt px,.Name yt pw] k1 tp,iter,ifs,0⟩] scope pos) 0 (.ref it) (.ref D) (compEnvC scope (clos X.env.cells scope.names []) C X.env)).onRaise (fun x=>do noteFrame x (compEnvC scope (clos X.env.cells scope.names []) C X.env);theTreesLotGoes x)) _ _ s3
  refine wpAny_noted ?_
  rw[compTurn_list]
  refine Ah (wpAny_standAt ?_)
  have pinD:Inv (cxComp X (xt::yt::fs) scope C fp s2 H2) [(D,{ cls:=.type "list",data:=.seq its.toArray k })] (compSt2 σ js v0 w0) H3 s3:=I3.yE fun p hp=>by
   have:p=(D,{ cls:=.type "list",data:=.seq its.toArray k }):=by simpa using hp
   subst this
   exact⟨d3,hD3,hDC,ofD,fun v z=>by cases z⟩
  refine Ah ?_
  rcases turn i n acc H3 w3 with ⟨stop,qn⟩ | ⟨go,N,hN,step⟩
  ·refine thn (T.done (cxComp X (xt::yt::fs) scope C fp s2 H2) rfl rfl rfl hc i _ s3 _ H3 _ pinD (fpk _ fr3) st3 stop) fun r s4 ⟨hr,I4⟩ => ?_
   subst hr
   refine Ax ?_
   obtain⟨m4,hn4,_⟩:=I4.loc
   have hHC:H3 C=none:=I4.free
   refine hfin s4 C D (upd H3 D (.lst acc)) _ (fun h'' hsb=>I2.unblock f2 I4 hCle hDle hDC hD3 ((I4.pin (D,{ cls:=.type "list",data:=.seq its.toArray k }) (Ag _ Ae)).1) va hz hsb) ⟨m4,hn4⟩ (I2.fpOk hCle (by rw[zY (Cj hDC)];exact hHC)) (qn D hD3)
  ·refine thn (T.item (cxComp X (xt::yt::fs) scope C fp s2 H2) rfl rfl rfl hc i _ s3 _ H3 _ pinD (fpk _ fr3) st3 go) fun r s4 ⟨u,hr,h4⟩ => ?_
   subst hr
   refine Ah (thn h4 fun _ s5 ⟨x,H5,I5,r5,y5,st5,fr5⟩ => ?_)
   have I5':=I5.pinned (fpk _ fr5) (T.obj _ _ st5)
   obtain⟨ta,x1,x2,ex,hx,q6⟩:=step x H5 y5
   have g0:PG (cxComp X (xt::yt::fs) scope C fp s2 H2) (.Name xt px) (gName 0):=vA S.nd rfl (.inl (lookup_relabel_local S.tgt)) (.inr (lookup_relabel_local S.tgt))
   have g1:PG (cxComp X (xt::yt::fs) scope C fp s2 H2) (.Name yt pw) (gName 1):=vA S.nd rfl (.inl (lookup_relabel_local S.tgt2)) (.inr (lookup_relabel_local S.tgt2))
   have gok:PG (cxComp X (xt::yt::fs) scope C fp s2 H2) (.Tuple [.Name xt px,.Name yt pw] k1 tp) (gTup X.K 2 (gCons (gName 0) (gCons (gName 1) gNil))):=yZ1 hc (gM g0 (gM g1 zO5))
   have noE:∀(a:Value) (s':Shared),(cxComp X (xt::yt::fs) scope C fp s2 H2).xe a s'->notedBy (model X.prog X.w) X.A (compEnvC scope (clos X.env.cells scope.names []) C X.env) (fun e s'=>compPost (model X.prog X.w) X.A X.xe use Qv (.ref D) C (.error e) s') a s':=fun _ _ z=>False.elim z
   refine Ah (wpAny_mono (gok _ s5 (compSt2 σ js v0 w0) H5 x u (fun σ' H'=>σ'=compSt2 σ js (some x1) (some x2)/\H'=H5) I5' r5 ⟨ta,[x1,x2],ex,hx,rfl,x1,[x2],rfl,x2,[],rfl,rfl,rfl,rfl⟩) (fun _ s6 ⟨σ6,H6,I6,e6,e6'⟩ => ?_) noE)
   subst e6 e6'
   have fin:∀{acc':List V}{its':List Value}{k':Nat}{H7:Hp}{s7:Shared},Inv (cxComp X (xt::yt::fs) scope C fp s2 H2) [] (compSt2 σ js (some x1) (some x2)) H7 s7->tn (i+1) s7.heap->(∀b∈fp,H7 b=none)->H7 D=none->s7.heap.get? D=some { cls:=.type "list",data:=.seq its'.toArray k' }->Vals acc' its'->acc'.length<=sizeLine->N acc' H7 ->
     ∃m,m<n/\∃(i:Nat) (σ':St) (H':Hp) (acc:List V) (its:List Value) (k:Nat),(∃v0 w0,σ'=compSt2 σ js v0 w0)/\Inv (cxComp X (xt::yt::fs) scope C fp s2 H2) [] σ' H' s7/\tn i s7.heap/\(∀b∈fp,H' b=none)/\H' D=none /\
      s7.heap.get? D=some { cls:=.type "list",data:=.seq its.toArray k }/\Vals acc its/\acc.length<=sizeLine/\W i m acc H':=fun {acc' its' k' H7 s7} a1 a2 a3 a4 a5 a6 a7 a8=>by
    obtain⟨m',hm,w7⟩:=hN _ _ a8
    exact⟨m',hm,i+1,_,H7,acc',its',k',⟨_,_,rfl⟩,a1,a2,a3,a4,a5,a6,a7,w7⟩
   have rest:∀{H7:Hp}{s7:Shared},Inv (cxComp X (xt::yt::fs) scope C fp s2 H2) ([(D,{ cls:=.type "list",data:=.seq its.toArray k })]++pinsAt fp s5.heap) (compSt2 σ js (some x1) (some x2)) H7 s7 ->
     tn (i+1) s7.heap/\(∀b∈fp,H7 b=none)/\H7 D=none/\s7.heap.get? D=some { cls:=.type "list",data:=.seq its.toArray k }:=fun {H7 s7} I7=>by
    refine⟨T.keep _ _ _ st5 fun b hb o e=>(I7.pin (b,o) (Ag _ (Ag _ (xD hb e)))).1,fun b hb => ?_,(I7.pin (D,{ cls:=.type "list",data:=.seq its.toArray k }) (Ag _ (AS _ Ae))).2.1,(I7.pin (D,{ cls:=.type "list",data:=.seq its.toArray k }) (Ag _ (AS _ Ae))).1⟩
    obtain⟨o,e,d⟩:=T.obj _ _ st5 b hb
    exact (I7.pin (b,o) (Ag _ (Ag _ (xD hb e)))).2.1
   have elem:∀{H7:Hp}{s7:Shared},Inv (cxComp X (xt::yt::fs) scope C fp s2 H2) ([(D,{ cls:=.type "list",data:=.seq its.toArray k })]++pinsAt fp s5.heap) (compSt2 σ js (some x1) (some x2)) H7 s7 ->
     (te C fp s2 H2 (compSt2 σ js (some x1) (some x2)) H7 fun v H3=>acc.length<sizeLine/\N (acc ++ [v]) H3) ->
     wpAny (model X.prog X.w) X.A (eval elt (compEnvC scope (clos X.env.cells scope.names []) C X.env)) (fun y s8=>wpAny (model X.prog X.w) X.A (call (.builtin "list.append") [.ref D,y]) (fun _ s9=>∃m,m<n/\∃(i:Nat) (σ':St) (H':Hp) (acc:List V) (its:List Value) (k:Nat),(∃v0 w0,σ'=compSt2 σ js v0 w0)/\Inv (cxComp X (xt::yt::fs) scope C fp s2 H2) [] σ' H' s9/\tn i s9.heap/\(∀b∈fp,H' b=none)/\H' D=none /\
      s9.heap.get? D=some { cls:=.type "list",data:=.seq its.toArray k }/\Vals acc its/\acc.length<=sizeLine/\W i m acc H')
      (fun _ _=>False) s8) (fun _ _=>False) s7:=fun {H7 s7} I7 q7=>by
    refine thn (he C fp s2 H2 _ s7 _ H7 _ I7 q7) fun y s8 ⟨v,H8,I8,r8,hl8,n8⟩ => ?_
    obtain⟨t8,fr8,hD8,d8⟩:=rest I8
    have hsz:=va.length
    refine call_meets CS ⟨_,d8,rfl⟩ CM (CB _ _) (CV D its.toArray k y (by rw[Am];rfl')) ⟨d8,?_⟩
    have q:=Df d8 (·.push y)
    rw[show (its.toArray.push y)=(its ++ [y]).toArray by simp] at q
    have kk:∀b o,b≠D->s8.heap.get? b=some o->(s8.heap.update D (Obj.mapSeq (·.push y))).get? b=some o:=fun b o hb e=>(BF s8.heap _ (Cj hb)).trans e
    have I9:Inv (cxComp X (xt::yt::fs) scope C fp s2 H2) [] (compSt2 σ js (some x1) (some x2)) H8 { s8 with heap:=s8.heap.update D (Obj.mapSeq (·.push y)) }:=by
     refine Inv.turned (it:=D) (t':=s8.toks) (I8.yE (pins':=[]) fun p hp=>nomatch hp) kk hD8 hDC (.inr hDle) (fun x c e z => ?_) fun p hp=>absurd (show p∈([]:List (Addr×Obj)) from hp) (by simp)
     obtain⟨v,o,ho,_⟩:=I2.cell x c (S.sub h0 I2.ok x c e)
     exact bD c o ho z
    refine fin I9 (T.keep _ _ _ t8 fun b hb o e=>kk b o (AL (Au (blt b hb) hDle)) e) fr8 hD8 q (va.append (.cons r8 .nil)) ?_ n8
    rw[Ao,Bc]
    rfl'
   have htt:=ht C fp s2 H2
   generalize tt C fp s2 H2=tt' at htt q6
   cases htt with
   | nil =>
    refine Ah (Ax ?_)
    dsimp only[tTrue] at q6
    rw[Aq rfl] at q6
    refine wpAny_mono (Ah (Ah (thn (elem I6 q6) fun y s8 h8=>Ah (thn h8 fun _ s9 h9=>Ax (Ax ⟨rfl,h9⟩))))) (fun _ _ z=>z) fun _ _ z=>False.elim z
   | one ht1 =>
    refine Ah (wpAny_tests_one (wpAny_mono (ht1 _ s6 _ H6 _ I6 q6) (fun b s7 ⟨H7,I7,q7⟩ => ?_) noE))
    cases b with
    | false =>
     rw[AJ AK] at q7
     obtain⟨t8,fr8,hD8,d8⟩:=rest I7
     exact Ax ⟨rfl,fin (I7.yE (pins':=[]) fun p hp=>nomatch hp) t8 fr8 hD8 d8 va hz q7⟩
    | true =>
     rw[Aq rfl] at q7
     refine wpAny_mono (Ah (Ah (thn (elem I7 q7) fun y s8 h8=>Ah (thn h8 fun _ s9 h9=>Ax (Ax ⟨rfl,h9⟩))))) (fun _ _ z=>z) fun _ _ z=>False.elim z
 exact codeAny_compStart_list loop (T.self X.A 0 _ _ _ (T.keep 0 _ _ st2 fun b hb o e=>old b o e) loop)
def xU9{X:Cx}{elt iter:Expr}{ifs:List Expr}{sc0 scope:Scope}{N0:List Str}{px pw tp py pos spos:Pos}{k1:Nat}{xt yt y:Str}{fs:List Str}{js:List Nat}{i:Nat}{wi:TI}{tt:Addr->List Addr->Shared->Hp->TT}{te:Addr->List Addr->Shared->Hp->TE}(S:CScope2 sc0 scope N0 xt yt fs js)(h0:X.env.scope=sc0)(hN0:X.N=N0)(hc:X.calm=true)
  (hi:PI X (.Tuple [.Name xt px,.Name yt pw] k1 tp) iter wi) (ht:∀C fp s₂ H,PTs (cxComp X (xt::yt::fs) scope C fp s₂ H) ifs (tt C fp s₂ H)) (he:∀C fp s₂ H,PE (cxComp X (xt::yt::fs) scope C fp s₂ H) elt (te C fp s₂ H))
  (nd:X.N.Nodup) (hy:X.N[i]?=some y) (hl:Loc X.env.scope y) (hsw:swapsWith (.ListComp elt [⟨.Tuple [.Name xt px,.Name yt pw] k1 tp,iter,ifs,0⟩] scope pos) (some (.Name y py)) spos.line X.env=pure true)
  (hs:autoParam (∀x,foldedSetIterable iter X.env x=pure x) DF) (hf:autoParam (X.fn y=true\/X.env.scope.names.lookup y=some .local) DD) :
  PS X (.Assign [.Name y py] (.ListComp elt [⟨.Tuple [.Name xt px,.Name yt pw] k1 tp,iter,ifs,0⟩] scope pos) spos) (tAsg (tComp2 X.K wi tt te js) (gName i)):=by
 intro DI s σ H E I h
 rw[exec_Assign_Name_used _ _ _ _ hsw]
 refine Ah (wpAny_standAt (Ah ?_))
 show wpAny _ X.A (do let _ <-comprehension (.ListComp elt [⟨.Tuple [.Name xt px,.Name yt pw] k1 tp,iter,ifs,0⟩] scope pos) scope X.env _ (newList []) false (eval iter X.env) (some (assign (.Name y py) X.env))) _ _ s
 refine Ah (thn (yO3 S h0 hN0 hc hi ht he hs (use:=some (assign (.Name y py) X.env)) (Qv:=fun _ s'=>SP X DI E .next s') I h fun s' C D Ha fl hI hns hC q => ?_) fun _ s' hq=>Ax (Ax hq))
 show wpAny (model X.prog X.w) X.A (assign (.Name y py) X.env (.ref D)) (fun _ s''=>∃m,s''.heap.Ns C m/\∀h',Heap.SameBut C s''.heap h'->SP X DI E .next { s'' with heap:=h' }) X.xe s'
 obtain⟨m,oC,es,ep,hgC,hdC,hrC⟩:=hns
 have I1:Inv X DI σ Ha s':=hI s'.heap ⟨rfl,fun b _=>rfl⟩
 have I2:Inv X (DI ++ [(C,oC)]) σ Ha s':=I1.yE fun p hp=>by
  rcases AM.mp hp with z | z
  ·exact I1.pin p (Ag _ z)
  ·have:p=(C,oC):=by simpa using z
   subst this
   exact⟨hgC,hC.1,hC.2.1,hC.2.2.1,fun v z=>by rw[hdC] at z;cases z⟩
 refine wpAny_assign_Name (cY I2 nd hy hl (show RelV (.ref D) (.ref D) from rfl) (fun s'' I3 => ?_) hf)
 have hgC':=(I3.pin (C,oC) (Ag _ (Ag _ Ae))).1
 refine⟨m,⟨oC,es,ep,hgC',hdC,hrC⟩,fun h' hsb => ?_⟩
 have I4:Inv X DI (σ.set i (some (.ref D))) Ha s'':=I3.yE fun p hp=>I3.pin p (Ag _ (AS _ hp))
 exact⟨_,Ha,Inv.turned (it:=C) (t':=s''.toks) I4 (fun b o hb e=>(hsb.2 b hb).trans e) hC.1 hC.2.1 hC.2.2.2.1 hC.2.2.2.2.1 hC.2.2.2.2.2,q⟩
end L2
namespace L2.L3
open PySem PySem.Spec PyProof.Rows
variable [CN]
def yM5{C:Ct}{elt:Expr}{ifs:List Expr}{scope:Scope}{N:List Str}{js:List Nat}{mi:Ev->Res (List D)}{mt:Ev->Res Bool}{me:Ev->Res D}{wi:TI}
  (qi:∀(Oc:Wd) (Ob:Addr->Prop) (σ:St) (H:Hp) (ρ:Ev) (R:It->Hp->Prop),Rel Oc Ob C.om C.ln σ H ρ->(mi ρ).post (fun ds=>∀J H1,Same H H1->WalksS Oc Ob J H1 ds->R J H1) (fun c=>∀H',Same H H'->C.XE c H')->wi σ H R)
  (ht:∀A fp s₂ H,RTs (cC2 C N scope A fp s₂ H js) ifs mt) (he:∀A fp s₂ H,RE (cC2 C N scope A fp s₂ H js) .cl elt me)
  {Oc:Wd}{Ob:Addr->Prop}{σ:St}{H:Hp}{ρ:Ev}{Q:VK}(R:Rel Oc Ob C.om C.ln σ H ρ) (h:(eComp2 mi mt me js ρ).post (fun d=>∀v H',Same H H'->VR .new Oc Ob H H' v d->Q v H') (fun c=>∀H',Same H H'->C.XE c H')) :
  tComp2 C.X.K wi (fun A fp s H=>Classical.choose (ht A fp s H)) (fun A fp s H=>Classical.choose (he A fp s H)) js σ H Q:=by
 refine qi Oc Ob σ H ρ _ R (Res.zQ (Res.zX h) (fun ds _ k J H1 s1 wk => ?_) fun _ z=>z)
 intro A fp s₂ H₂
 have qt:=(AT (ht A fp s₂ H₂)).2
 have qe:=(AT (he A fp s₂ H₂)).2
 have k:(if ds.length<=sizeLine then (compM (fun d=>pr2 d fun x y=>mt (cEnv2 ρ js x y)) (fun d=>pr2 d fun x y=>me (cEnv2 ρ js x y)) ds).bind fun out=>Res.ok (PyData.list out) else .no).post (fun d=>∀v H',Same H H'->VR .new Oc Ob H H' v d->Q v H') (fun c=>∀H',Same H H'->C.XE c H'):=k
 by_cases hlen:ds.length<=sizeLine
 ·rw[Aq hlen] at k
  generalize hT:(fun d=>pr2 d fun x y=>mt (cEnv2 ρ js x y))=T at k
  generalize hF:(fun d=>pr2 d fun x y=>me (cEnv2 ρ js x y))=F at k
  cases ec:compM T F ds with
  | no=>rw[ec] at k;exact k.elim
  | ex c =>
   exfalso
   have nex:∀xs c,compM T F xs ≠ .ex c:=by
    intro xs
    induction xs with
    | nil=>intro c z;cases z
    | cons x xs ih =>
     intro c z
     rw[compM] at z
     cases e1:noEx (T x) with
     | no=>rw[e1] at z;cases z
     | ex c'=>cases hx:T x <;> rw[hx] at e1 <;> cases e1
     | ok b =>
      rw[e1,Res.bind_ok] at z
      cases b with
      | false=>exact ih c z
      | true =>
       simp only[if_true] at z
       cases e2:noEx (F x) with
       | no=>rw[e2] at z;cases z
       | ex c'=>cases hx:F x <;> rw[hx] at e2 <;> cases e2
       | ok y =>
        rw[e2,Res.bind_ok] at z
        cases e3:compM T F xs with
        | no=>rw[e3] at z;cases z
        | ex c'=>exact ih c' e3
        | ok ys=>rw[e3] at z;cases z
   exact nex ds c ec
  | ok out =>
   rw[ec,Res.bind_ok] at k
   refine⟨fun i m acc H=>m=ds.length-i/\i<=ds.length/\Same H1 H/\∃done rest,Reps H (Uni Oc Ob) acc done/\acc.length<=i/\compM T F (ds.drop i)=.ok rest/\done++rest=out,⟨_,rfl,AQ _,Same.refl _,[],out,.nil,Ak _,ec,rfl⟩,?_⟩
   rintro i m acc H2 ⟨rfl,hi,s2,done,rest,ra,la,er,eo⟩
   obtain⟨w1,w2⟩:=wk H2 s2 i
   have R2:=(R.same s1).same s2
   by_cases hlt:i<ds.length
   ·obtain⟨go,yl⟩:=w1 ds[i] (Ab hlt)
    have ed:ds.drop i=ds[i]::ds.drop (i+1):=BB hlt
    rw[ed,compM] at er
    have nxt:∀(acc':List V) (H3:Hp) (done' rest':List D),Same H2 H3->Reps H3 (Uni Oc Ob) acc' done'->acc'.length<=i+1->compM T F (ds.drop (i+1))=.ok rest'->done'++rest'=out ->
      ∃m',m'<ds.length-i/\(m'=ds.length-(i+1)/\i+1<=ds.length/\Same H1 H3/\∃done rest,Reps H3 (Uni Oc Ob) acc' done/\acc'.length<=i+1/\compM T F (ds.drop (i+1))=.ok rest/\done++rest=out) :=
     fun acc' H3 done' rest' s3 r3 l3 c3 o3=>⟨_,by rfl',rfl,hlt,s2.trans s3,done',rest',r3,l3,c3,o3⟩
    refine .inr ⟨go,fun acc' H'=>∃m',m'<ds.length-i/\(m'=ds.length-(i+1)/\i+1<=ds.length/\Same H1 H'/\∃done rest,Reps H' (Uni Oc Ob) acc' done/\acc'.length<=i+1/\compM T F (ds.drop (i+1))=.ok rest/\done++rest=out),fun acc' H' z=>z,fun x H3 hy => ?_⟩
    obtain⟨s3,rx⟩:=yl x H3 hy
    cases e1:noEx (T ds[i]) with
    | no=>rw[e1] at er;cases er
    | ex c=>rw[e1] at er;cases er
    | ok b =>
     rw[e1,Res.bind_ok] at er
     have t0:=kC e1
     rw[<-hT] at t0
     obtain⟨da,db,ed2,t1⟩:=yD1 t0
     rw[ed2] at rx
     obtain⟨ta,x1,x2,rfl,hsq,rx1,rx2⟩:=zB4 (K:=C.X.K) rx
     have R3:=(R2.same s3).comp2 (js:=js) rx1 rx2
     refine⟨ta,x1,x2,rfl,hsq,?_⟩
     refine qt _ _ _ H3 _ _ R3 ?_
     show (mt (cEnv2 ρ js da db)).post _ _
     rw[t1]
     intro H4 s4
     cases b with
     | false=>exact iteF (nxt acc H4 done rest (s3.trans s4) (ra.same (s3.trans s4)) (by rfl') er eo)
     | true =>
      refine iteT ?_
      simp only[if_true] at er
      cases e2:noEx (F ds[i]) with
      | no=>rw[e2] at er;cases er
      | ex c=>rw[e2] at er;cases er
      | ok y =>
       rw[e2,Res.bind_ok] at er
       have t2:me (cEnv2 ρ js da db)=.ok y:=by
        have t2:=kC e2
        rw[<-hF,ed2] at t2
        exact t2
       refine qe _ _ _ H4 _ _ (R3.same s4) ?_
       show (me (cEnv2 ρ js da db)).post _ _
       rw[t2]
       intro v H5 s5 rv
       refine⟨by rfl',?_⟩
       obtain⟨ys,e3⟩:∃ys,compM T F (ds.drop (i+1))=.ok ys:=by
        cases e3:compM T F (ds.drop (i+1)) with
        | no=>rw[e3] at er;cases er
        | ex c=>rw[e3] at er;cases er
        | ok ys=>exact⟨ys,rfl⟩
       rw[e3,Res.bind_ok] at er
       cases er
       have rv':Rep H5 (Uni Oc Ob) v y:=Rep.less rv fun b z=>.inl z
       refine nxt (acc ++ [v]) H5 (done ++ [y]) ys ((s3.trans s4).trans s5) ((ra.same ((s3.trans s4).trans s5)).append (.one rv')) (by rw[Ao,Bc];rfl') e3 ?_
       rw[Bd]
       exact eo
   ·have ei:i=ds.length:=by rfl'
    subst ei
    refine .inl ⟨w2 (Ak _),fun p hp => ?_⟩
    rw[BJ] at er
    cases er
    rw[Bn] at eo
    subst eo
    exact k _ _ ((s1.trans s2).trans (Same.new hp)) (xU (s1.trans s2) hp ra)
 ·rw[AJ hlen] at k
  exact k.elim
def xV6{C:Ct}{fr:Bool}(i:Nat){elt iter:Expr}{ifs:List Expr}{sc0 scope:Scope}{N0:List Str}{px pw tp py pos spos:Pos}{k1:Nat}{xt yt y:Str}{fs:List Str}{js:List Nat}{mi:Ev->Res (List D)}{mt:Ev->Res Bool}{me:Ev->Res D}(nd:C.X.N.Nodup)(S:CScope2 sc0 scope N0 xt yt fs js)(h0:C.X.env.scope=sc0)(hN0:C.X.N=N0)(hc:C.X.calm=true)
  (hi:RIc C (.Tuple [.Name xt px,.Name yt pw] k1 tp) iter mi) (ht:∀A fp s₂ H,RTs (cC2 C (xt::yt::fs) scope A fp s₂ H js) ifs mt) (he:∀A fp s₂ H,RE (cC2 C (xt::yt::fs) scope A fp s₂ H js) .cl elt me)
  (hy:autoParam (C.X.N[i]?=some y) DH) (ho:autoParam (C.om.contains i=false) DH) (hln:autoParam (C.ln.contains i=false) DH) (hl:autoParam (Loc C.X.env.scope y) autoK12._auto_1)
  (hsw:autoParam (swapsWith (.ListComp elt [⟨.Tuple [.Name xt px,.Name yt pw] k1 tp,iter,ifs,0⟩] scope pos) (some (.Name y py)) spos.line C.X.env=pure true) DH) (hs:autoParam (∀x,foldedSetIterable iter C.X.env x=pure x) DF) (hf:autoParam (C.X.fn y=true\/C.X.env.scope.names.lookup y=some .local) autoK13._auto_1) :
  RS C fr (.Assign [.Name y py] (.ListComp elt [⟨.Tuple [.Name xt px,.Name yt pw] k1 tp,iter,ifs,0⟩] scope pos) spos) (sS i (eComp2 mi mt me js)):=by
 obtain⟨wi,pi,qi⟩:=hi
 refine⟨_,xU9 (tt:=fun A fp s H=>Classical.choose (ht A fp s H)) (te:=fun A fp s H=>Classical.choose (he A fp s H)) S h0 hN0 hc pi (fun A fp s H=>(AT (ht A fp s H)).1) (fun A fp s H=>(AT (he A fp s H)).1) nd hy hl hsw hs hf,fun Oc Ob σ H ρ E R h => ?_⟩
 refine yM5 qi ht he R (Res.zQ (Res.zX h) (fun d _ k v H' s r => ?_) fun c z H' s=>z H' (Same.frm s))
 exact k _ H' Ob ((R.same s).set (xB ho) (xB hln) (VR.clean r R.oh)) (Same.frm s) fun b z=>.inl z
end L2.L3
namespace L2.L3
open PySem
variable [CN]
def yH2(mi:Ev->Res (List D))(mt:Ev->Res Bool)(me:Ev->Res D)(js:List Nat)(ρ:Ev):eComp2 mi mt me js ρ=(mi ρ).bind fun ds=>if ds.length<=sizeLine then (compM (fun d=>pr2 d fun x y=>mt (cEnv2 ρ js x y)) (fun d=>pr2 d fun x y=>me (cEnv2 ρ js x y)) ds).bind fun out=>.ok (.list out) else .no:=rfl
def yH7{mi:Ev->Res (List D)}{t:Ev->Res Bool}{me:Ev->Res D}{js:List Nat}{ρ:Ev}{α:Type}(A B:α->D)(p:α->Bool)(q:α->D)(xs:List α)(h:mi ρ=.ok (xs.map fun x=>PyData.tuple [A x,B x]))(hl:xs.length<=1000)
  (ht:∀x∈xs,t (cEnv2 ρ js (A x) (B x))=.ok (p x)) (hf:∀x∈xs,p x=true->me (cEnv2 ρ js (A x) (B x))=.ok (q x)):eComp2 mi t me js ρ=.ok (.list ((xs.filter p).map q)):=by
 rw[yH2,h,Res.bind_ok,yU5 (by rw[Aa];exact hl),aY (fun x=>PyData.tuple [A x,B x]) p q xs (fun x hx=>ht x hx) (fun x hx hp=>hf x hx hp)]
 rfl
def dE{mi:Ev->Res (List D)}{me:Ev->Res D}{js:List Nat}{ρ:Ev}{α:Type}(A B:α->D)(q:α->D)(xs:List α)(h:mi ρ=.ok (xs.map fun x=>PyData.tuple [A x,B x]))(hl:xs.length<=1000)
  (hf:∀x∈xs,me (cEnv2 ρ js (A x) (B x))=.ok (q x)):eComp2 mi tYes me js ρ=.ok (.list (xs.map q)):=by
 rw[yH7 A B (fun _=>true) q xs h hl (fun _ _=>rfl) (fun x hx _=>hf x hx),List.filter_eq_self.mpr fun _ _=>rfl]
end L2.L3
namespace L2.L3
open PySem PyProof.Rows
variable [CN]
section
variable {X:Cx}
end
def revL:D->Option D
 | .list ds=>some (.list ds.reverse)
 | _=>none
def eRevL(m:Ev->Res D):Ev->Res D:=fun ρ=>(m ρ).bind fun d=>Res.lft (revL d)
def yA7(m:Ev->Res D)(ρ:Ev):eRevL m ρ=(m ρ).bind fun d=>Res.lft (revL d):=rfl
end L2.L3
namespace HT
open PySem PyProof.Rows
section
variable {prog:Program}{w:World}{A:Around}{E:Value->Shared->Prop}{s:Shared}
end
end HT
namespace L2.L3
open PySem PyProof.Rows
variable [CN]
section
variable {X:Cx}
end
end L2.L3
namespace L2.L3
open PySem PySem.Spec PyProof.Rows
variable [CN]
section
variable {X:Cx}
end
end L2.L3
namespace HT
open PySem PyProof.Rows
section
open PySem.SeqAt
open PySem.AutoSeq1 (wpAny_loadPart')
open PySem.MeetsSeq PySem.MeetsSeq2 PySem.MeetsSeq3
end
section
variable {prog:Program}{w:World}{A:Around}{E:Value->Shared->Prop}{s:Shared}
end
end HT
namespace L2.L3
open PySem PySem.Spec PyProof.Rows
variable [CN]
section
variable {X:Cx}
end
end L2.L3
namespace L2.L3
open PySem PyProof.Rows
variable [CN]
section
variable {X:Cx}
end
end L2.L3
namespace L2.L3
universe u
def ls0{α:Type u}{P:List α->Prop}(h:P []):∀us:List α,us.length=0->P us:=fun us e=>by
 rw[List.eq_nil_of_length_eq_zero e]
 exact h
def lsS{α:Type u}{P:List α->Prop}{n:Nat}(h:∀a us,us.length=n->P (a::us)):∀us:List α,us.length=n+1->P us:=fun us e=>by
 cases us with
 | nil=>cases e
 | cons a us=>exact h a us (Nat.succ.inj e)
def ls1{α:Type u}{P:List α->Prop}(h:∀a,P [a]):∀us:List α,us.length=1->P us:=lsS fun a=>ls0 (h a)
def ls2{α:Type u}{P:List α->Prop}(h:∀a b,P [a,b]):∀us:List α,us.length=2->P us:=lsS fun a=>ls1 (h a)
def ls3{α:Type u}{P:List α->Prop}(h:∀a b c,P [a,b,c]):∀us:List α,us.length=3->P us:=lsS fun a=>ls2 (h a)
def ls4{α:Type u}{P:List α->Prop}(h:∀a b c d,P [a,b,c,d]):∀us:List α,us.length=4->P us:=lsS fun a=>ls3 (h a)
def ls5{α:Type u}{P:List α->Prop}(h:∀a b c d e,P [a,b,c,d,e]):∀us:List α,us.length=5->P us:=lsS fun a=>ls4 (h a)
def ls6{α:Type u}{P:List α->Prop}(h:∀a b c d e f,P [a,b,c,d,e,f]):∀us:List α,us.length=6->P us:=lsS fun a=>ls5 (h a)
end L2.L3
namespace L2.L3
open PySem PySem.Spec PyProof.Rows
variable [CN]
def Raw(B:Heap)(e:Addr)(cls a0:Value)(h:Heap):Prop :=
 h.TracedW B e cls a0\/∃oe vs,h.get? e=some oe/\oe.cls=cls/\oe.data=.fields vs/\vs[1]?=some .none/\vs[0]?=some a0
structure Fl(stk:List Env)(h1:Heap)(H:Hp)(e:Addr)(cls:Value)(B:Heap)(a0:Value)(h:Heap):Prop where
 stays:B.StaysIn h
 newB:B.get? e=none
 frm:h.FunFrames B stk
 raw:Raw B e cls a0 h
 cov:∀b o,h.get? b=some o->b∉frs stk->(h1.get? b≠none\/H b≠none)->B.get? b=some o
def ExcAt(X:Cx)(c:Str)(H:Hp)(e:Value)(s:Shared):Prop :=
 ∃(DI:List (Addr×Obj)) (σ:St) (s1:Shared) (H1:Hp) (a:Addr) (B:Heap) (a0:Value),Inv X DI σ H1 s1/\Inv X DI σ H s/\Un (frs X.stack) [] H1 H s1.heap s.heap/\e=.ref a/\s1.heap.get? a=none/\H a=none/\Fl X.stack s1.heap H a (.ref (CN.ad c)) B a0 s.heap
def CXV(P:Program)(w:World):CXT:=fun outer H s E e s' =>
 ∃(a:Addr) (cls:Value) (B:Heap) (a0:Value) (H':Hp),e=.ref a/\s'.os=s.os/\AllBare s'.gens/\Un (frs outer) [] H H' s.heap s'.heap/\HOk P w H' s'.heap/\s.heap.get? a=none/\H' a=none/\Fl outer s.heap H' a cls B a0 s'.heap/\E cls none H'
def cG{P:Program}{w:World}{H:Hp}{h:Heap}{a:Addr}{o:HO}(x:ObjOk P w H h a o):∃u,h.get? a=some u:=by
 cases o with
 | lst xs=>exact⟨_,x.2.choose_spec.choose_spec.2⟩
 | tup xs=>obtain⟨_,its,_,ob,e,_⟩:=x;exact⟨ob,e⟩
 | dK kvs=>obtain⟨_,_,_,_,ob,_,_,e,_⟩:=x;exact⟨ob,e⟩
 | dT kvs=>obtain⟨_,_,_,_,ob,_,_,e,_⟩:=x;exact⟨ob,e⟩
 | set S n=>obtain⟨ob,_,_,_,e,_⟩:=x;exact⟨ob,e⟩
 | ins C dx fs=>obtain⟨_,_,_,e,_⟩:=x;exact⟨_,e⟩
 | own y=>exact x
 | xd fs=>obtain⟨_,⟨ob,_,_,e,_⟩,_⟩:=x;exact⟨ob,e⟩
 | rng lo hi=>obtain⟨_,_,_,e⟩:=x;exact⟨_,e⟩
 | frz ob u=>exact⟨ob,x.1⟩
 | tbl ps=>obtain⟨_,e,_⟩:=x;exact⟨_,e⟩
 | met f y=>exact⟨_,x⟩
 | ext φ=>exact x.2.1
def yG6{P:Program}{w:World}{H:Hp}{h:Heap}{a:Addr}(x:HOk P w H h)(n:H a≠none):∃u,h.get? a=some u:=by
 cases e:H a with
 | none=>exact absurd e n
 | some o=>exact cG (x a o e)
def zQ9{α:Type}{o:Option α}(h:o≠none):∃x,o=some x:=by
 cases o with
 | none=>exact absurd rfl h
 | some x=>exact⟨x,rfl⟩
def zO2{α:Type}{o:Option α}{x:α}(h:o=some x):o≠none:=by
 rw[h];exact fun z=>nomatch z
def yD7{X:Cx}{c:Str}{H:Hp}{e:Value}{s:Shared}{E:XK}{E2:Value->Shared->Prop}(x:ExcAt X c H e s)(hst:X.stack=X.env::X.outer)(hfr:X.env.frame=some X.env.locals)(hex:X.ex=[])(hE:E (.ref (CN.ad c)) none H) :
  wpAny (model X.prog X.w) X.A (leaving X.env e) (fun _ s''=>CXV X.prog X.w X.outer X.H₀ X.s₀ E e s'') E2 s:=by
 obtain⟨DI,σ,s1,H1,a,B,a0,I1,I,un,rfl,n1,n2,f⟩:=x
 have noex:∀b:Addr,b∉X.ex:=fun b z=>by rw[hex] at z;cases z
 have hfs:frs X.stack=X.env.locals::X.fs:=by
  rw[hst]
  show List.filterMap _ _=_
  rw[Bm,hfr]
  rfl
 have hfrm:s.heap.FunFrames B (X.env::X.outer):=by rw[<-hst];exact f.frm
 have hA:X.A.frames=some (X.env::X.outer):=by rw[<-hst];exact I.ok.frames
 have oldL:∀b o,X.s₀.heap.get? b=some o->b≠X.env.locals:=fun b o q z=>by
  subst z
  exact absurd (Ap q) (Co.mpr I.ok.above)
 have old1:∀b o,X.s₀.heap.get? b=some o->s1.heap.get? b≠none:=fun b o q=>let ⟨_,e⟩:=I1.base.there b o q (noex b);zO2 e
 have key:∀h',Heap.LeftW B (X.env::X.outer) a (.ref (CN.ad c)) a0 s.heap h'->CXV X.prog X.w X.outer X.H₀ X.s₀ E (.ref a) { s with heap:=h' }:=by
  rintro h' ⟨k1,k2,k3,k4⟩
  have kp:∀b o,s.heap.get? b=some o->b∉frs X.stack->(s1.heap.get? b≠none\/H b≠none)->h'.get? b=some o:=fun b o q n z=>k1 b o (f.cov b o q n z)
  have out:∀b,b∉X.fs->b≠X.env.locals->b∉frs X.stack:=fun b n1 n2 z=>by
   rw[hfs] at z
   rcases An.mp z with z | z
   ·exact n2 z
   ·exact n1 z
  have trk:∀b,H b≠none->b∉frs X.stack:=fun b n z=>n (I.stkFree b z)
  refine⟨a,_,B,a0,H,rfl,I.os,I.bare,⟨fun b o q n hb hx => ?_,fun b o q n hb hx => ?_,fun b o q n hx=>I.base.free b o q n (noex b),fun b o q hx => ?_,I.base.tups,I.base.frzs,I.base.tbls⟩,fun b o q => ?_,?_,n2,⟨k1,f.newB,k2.2.2,.inl k3,fun b o q n z => ?_⟩,hE⟩
  ·exact kp b o (I.base.keep b o q n hb (noex b)) (out b hb (oldL b o q)) (.inl (old1 b o q))
  ·obtain⟨sl,e⟩:=I.base.slot b o q n hb (noex b)
   obtain⟨_,o',e',nf⟩:=f.frm.mem (b:=b) (by show b∈frs X.stack;rw[hfs];exact Ad _ hb)
   rw[e] at e'
   cases e'
   obtain⟨sl',e2⟩:=k4 b _ e nf
   exact⟨sl',e2⟩
  ·by_cases hb:b∈frs X.stack
   ·obtain⟨_,o',e',_⟩:=k2.mem (b:=b) (by rw[hst] at hb;exact hb)
    exact⟨o',e'⟩
   ·obtain⟨o',e'⟩:=I.base.there b o q (noex b)
    exact⟨o',kp b o' e' hb (.inl (old1 b o q))⟩
  ·refine (I.hok b o q).stay (fun b' u hb' e => ?_) (fun _ z=>z) fun _ _ z=>z
   have n:H b'≠none:=by
    rcases hb' with rfl | hb'
    ·exact zO2 q
    ·exact zO2 hb'
   exact kp b' u e (trk b' n) (.inr n)
  ·cases q:X.s₀.heap.get? a with
   | none=>rfl
   | some o=>exact absurd n1 (old1 a o q)
  ·have nL:b≠X.env.locals:=by
    rcases z with z | z
    ·obtain⟨o',q'⟩:=zQ9 z
     exact oldL b o' q'
    ·intro y
     subst y
     exact z I.free
   have ns:b∉frs X.stack:=out b n nL
   obtain⟨o2,q2⟩:∃o2,s.heap.get? b=some o2:=by
    rcases z with z | z
    ·obtain⟨o',q'⟩:=zQ9 z
     exact I.base.there b o' q' (noex b)
    ·exact yG6 I.hok z
   have z':s1.heap.get? b≠none\/H b≠none:=by
    rcases z with z | z
    ·obtain⟨o',q'⟩:=zQ9 z
     exact .inl (old1 b o' q')
    ·exact .inr z
   have hB:=f.cov b o2 q2 ns z'
   have q3:=k1 b o2 hB
   have q4:h'.get? b=some o:=q
   rw[q3] at q4
   cases q4
   exact hB
 rcases f.raw with t | ⟨oe,vs,he,hc,hd,h1,h0⟩
 ·exact wpAny_leaving_nextW hA hfrm hfr t f.stays f.newB key
 ·rw[<-hc] at key
  exact wpAny_leaving_firstW hA hfrm hfr he f.stays f.newB hd h1 h0 key
def Br(C:Ct):Prop:=∀(c:Str) (H:Hp) (e:Value) (s:Shared),ExcAt C.X c H e s->C.XE c H->C.X.xe e s
def zT7{C:Ct}(h:∀c H,C.XE c H->False):Br C:=fun c H _ _ _ z=>(h c H z).elim
def wX(C:Ct):XK:=fun v _ H=>∃c,v=.ref (CN.ad c)/\C.XE c H
def passX{C:Ct}(hb:Br C):Passes (CXV C.X.prog C.X.w) C.X (wX C):=by
 intro DI σ H s e s' I h
 obtain⟨a,cls,B,a0,H',rfl,os,bare,un,hok,n1,n2,f,c,rfl,z⟩:=h
 exact hb c H' _ s' ⟨DI,σ,s,H,a,B,a0,I,I.call' os un hok bare (fun b z=>by cases z),un,rfl,n1,n2,f⟩ z
def spX(fr:Bool)(F:List D->Res D):Sp:=fun vs H Q E=>∃(ds:List D) (O:Addr->Prop),(∀a,O a->H a≠none)/\Reps H O vs ds/\(F ds).post (fun d=>∀v H',Same H H'->CallOk fr O H H' v d->Q v H') (fun c=>∀H',Same H H'->E (.ref (CN.ad c)) none H')
section
variable {P:Program}{w:World}{K:KFr}{mg:Str->Option Value}{base:Heap}
abbrev bodyX(P:Program)(w:World)(K:KFr)(mg:Str->Option Value)(base:Heap)(N:List Str)(x:Str)(sc:Scope)(f:Addr)(cdv:Value)(A:Around)(outer:List Env)(s:Shared)(H:Hp)(E:XK)(om:List Nat):Ct :=
 ⟨cxOf (CXV P w) P w K mg base N x sc f cdv A outer s H E,fun c H'=>E (.ref (CN.ad c)) none H',om,[]⟩
def zJ{N:List Str}{x:Str}{sc:Scope}{f:Addr}{cdv:Value}{A:Around}{outer:List Env}{s:Shared}{H:Hp}{E:XK}{om:List Nat}:Br (bodyX P w K mg base N x sc f cdv A outer s H E om) :=
 fun c H' e s' x h=>yD7 x rfl rfl rfl h
def yS{x:Str}{st:Stmt}{f:Addr}{fd:FuncData}{N ps:List Str}{k:Nat}{m:Ev->Res Out}{fr:Bool}(om:List Nat)(F:Fun K x x st f fd)(S:zI N ps (zU st))
  (hbody:∀(cdv:Value) (A:Around) (outer:List Env) (s:Shared) (H:Hp) (E:XK),Room k (A.deeper (envOfC x (zU st) s.heap.objs.size f cdv))->RSs (bodyX P w K mg base N x (zU st) f cdv A outer s H E om) fr (defBody st) m)
  (hom:autoParam (om.all (fun i=>decide (ps.length<=i))=true) DH) :
  FnOk P w K mg base (CXV P w) (k+1) f fd ps (spX fr (runF fr ps.length N.length m)):=by
 have len:∀(vs:List V) (H:Hp) (Q:VK) (E:XK),spX fr (runF fr ps.length N.length m) vs H Q E->vs.length=ps.length:=fun vs H Q E h=>by
  obtain⟨ds,O,oh,r,k⟩:=h
  unfold runF at k
  split at k
  ·rename_i hl
   rw[r.length];exact hl
  ·exact k.elim
 obtain⟨oc,od,kV,doc,pm,an,cdv,ct,osl,rfl,lk,hcd⟩:=F.ex
 refine zR2 lk hcd S len fun A outer s H vs Q E hr h => ?_
 have hvl:=len vs H Q E h
 obtain⟨ds,O,oh,r,k⟩:=h
 have hl:ds.length=ps.length:=by rw[<-r.length];exact hvl
 unfold runF at k
 rw[Aq hl] at k
 obtain⟨t,p,q⟩:=hbody cdv A outer s H E hr
 refine⟨t,p,q ⟨O,fun _=>0⟩ (fun _=>False) _ H (ds.map some++List.replicate (N.length-ps.length) none) _ ?_ ?_⟩
 ·refine⟨?_,fun i d e _ _ => ?_,fun i d e ho => ?_,fun i d e _ hl=>(nomatch hl),fun i j di dj a ei _ ho _ _ _ => ?_,fun a z=>oh a (z.elim id fun z=>z.elim),fun a z=>z.elim⟩
  ·unfold start
   rw[Ao,Ao,Aa,Aa,Bj,Bj,hvl,hl]
  ·obtain⟨v,ev,rv⟩:=r.get (xA e)
   exact⟨v,zX8 ev,rv.less fun b z=>z.elim id fun z=>z.elim⟩
  ·have h1:=(Ac.mp (xA e)).1
   have h2:ps.length<=i:=of_decide_eq_true (AF.mp hom i ho)
   rfl'
  ·have h1:=(Ac.mp (xA ei)).1
   have h2:ps.length<=i:=of_decide_eq_true (AF.mp hom i ho)
   rfl'
 ·have same:∀{H':Hp},Frm (fun _=>False) H H'->Same H H':=fun f b o e=>f b o e fun z=>z
  refine Res.zQ (Res.zX k) (fun o _ k => ?_) fun c z H' f=>z H' (same f)
  cases o with
  | rt d =>
   intro v H' f rt
   refine k v H' (same f) ?_
   cases fr with
   | false=>exact rt
   | true =>
    obtain⟨a,ys,ds,e1,e2,e3,e4,e5,e6⟩:=rt
    exact⟨a,ys,ds,e1,e2,e3.elim id fun z=>z.elim,e5,e6⟩
  | nx ρ' =>
   cases fr with
   | true=>exact k.elim
   | false=>exact fun σ' H' Ob' R f s=>k .non H' (same f) Rep.non
def yE2{fr:Bool}{k:Nat}{f:Addr}{fd:FuncData}{ps:List Str}:FnOk P w K mg base (CXV P w) k f fd ps (spX fr fun _=>.no) :=
 ⟨fun _ _ _ _ ⟨_,_,_,_,k⟩=>k.elim,fun _ _ _ _ _ _ _ _ _ _ _ _ _ ⟨_,_,_,_,k⟩=>k.elim⟩
end
def zC9{C:Ct}{k:Nat}{f:Addr}{fd:FuncData}{ps:List Str}{fr:Bool}{F:List D->Res D}{x:Str}{p pos:Pos}{e:Expr}{es:List Expr}{ms:Ev->Res (List D)}{st:Stmt}(G:FnOk C.X.prog C.X.w C.X.K C.X.mg C.X.base (CXV C.X.prog C.X.w) k f fd ps (spX fr F))(hh:Has C.X.K C.X.mg x st f fd ps)(hr:Room k C.X.A)
  (hb:Br C) (ha:RArg C true (e::es) ms) (hg:autoParam (Gl C.X x) DH) (hdb:autoParam ((x == ("__debug__":Str))=false) DG) (he:autoParam (starEach (e::es) C.X.env=(false,eval e C.X.env)::starEach es C.X.env) DH) (hpl:autoParam ((backTo pos (starEach es C.X.env)).any (·.1)=false) DH) :
  RE C (mdF fr) (.Call (.Name x p) (e::es) [] pos) (eF F ms):=by
 obtain⟨t,pa,q⟩:=ha
 refine⟨_,yJ G hr hg hh.m hh.F.kp hh.b .nil (passX hb) pa hdb he hpl,fun Oc Ob σ H ρ Q R h => ?_⟩
 refine q Oc Ob σ H ρ _ R (Res.zQ (Res.zX h) (fun ds _ k vs H1 s1 r => ?_) fun c z=>z)
 show spX fr F (vs ++ []) H1 Q (wX C)
 rw[Bn]
 refine⟨ds,Uni Oc Ob,(R.same s1).oh,r,Res.zQ k (fun d _ k v H' s2 rv => ?_) fun c z H' s2=>⟨c,rfl,z H' (s1.trans s2)⟩⟩
 refine k v H' (s1.trans s2) ?_
 cases fr with
 | false=>exact rv
 | true =>
  obtain⟨a,ys,ds,e1,e2,e3,e4,e5⟩:=rv
  exact⟨a,ys,ds,e1,e2,s1.free e3,e4,e5⟩
def yG1{C:Ct}{k:Nat}{f:Addr}{fd:FuncData}{ps:List Str}{fr:Bool}{F:List D->Res D}{x:Str}{p pos:Pos}{e:Expr}{es:List Expr}{ms:Ev->Res (List D)}{st:Stmt}(G:FnOk C.X.prog C.X.w C.X.K C.X.mg C.X.base (CXV C.X.prog C.X.w) k f fd ps (spX fr F))(hh:Has C.X.K C.X.mg x st f fd ps)(hr:Room k C.X.A)
  (hb:Br C) (ha:RArg C false (e::es) ms) (hg:autoParam (Gl C.X x) DH) (hdb:autoParam ((x == ("__debug__":Str))=false) DG) (he:autoParam (starEach (e::es) C.X.env=(false,eval e C.X.env)::starEach es C.X.env) DH) (hpl:autoParam ((backTo pos (starEach es C.X.env)).any (·.1)=false) DH) :
  RE C (mdF fr) (.Call (.Name x p) (e::es) [] pos) (eFA fr F ms):=by
 obtain⟨t,pa,q⟩:=ha
 refine⟨_,yJ G hr hg hh.m hh.F.kp hh.b .nil (passX hb) pa hdb he hpl,fun Oc Ob σ H ρ Q R h => ?_⟩
 refine q Oc Ob σ H ρ _ R (Res.zQ (Res.zX h) (fun ds _ k vs H1 s1 r => ?_) fun c z=>z)
 show spX fr F (vs ++ []) H1 Q (wX C)
 rw[Bn]
 refine⟨ds,fun b=>Uni Oc Ob b/\¬∃ys,H1 b=some (.lst ys),fun a z=>(R.same s1).oh a z.1,VAs.lent r,Res.zQ (Res.zX k) (fun d _ k v H' s2 rv => ?_) fun c z H' s2=>⟨c,rfl,z H' (s1.trans s2)⟩⟩
 have hB:∀b,(∃ys,H1 b=some (.lst ys))->∃ys,H' b=some (.lst ys):=fun b ⟨ys,e⟩=>⟨ys,s2 _ _ e⟩
 by_cases hl:lfT fr d=true
 ·rw[Aq hl] at k
  refine k v H' (s1.trans s2) ?_
  cases fr with
  | false=>exact Rep.lf hB rv (by cases d <;> exact hl)
  | true =>
   obtain⟨a,ys,ds,e1,rfl,e3,e4,e5⟩:=rv
   have e5':Reps H' (fun b=>(Uni Oc Ob b\/b=a)/\¬∃ys,H1 b=some (.lst ys)) ys ds:=e5.less fun b z=>z.1.elim (fun q=>.inl ⟨q,z.2⟩) .inr
   exact⟨a,ys,ds,e1,rfl,s1.free e3,e4,Reps.lf hB e5' hl⟩
 ·rw[AJ hl] at k
  exact k.elim
section
variable {C:Ct}{k:Nat}{f:Addr}{fd:FuncData}{ps:List Str}{F:List D->Res D}{x:Str}{p pos:Pos}{e:Expr}{es:List Expr}{ms:Ev->Res (List D)}{st:Stmt}
def zH(G:FnOk C.X.prog C.X.w C.X.K C.X.mg C.X.base (CXV C.X.prog C.X.w) k f fd ps (spX false F))(hh:Has C.X.K C.X.mg x st f fd ps)(hr:Room k C.X.A)
  (hb:Br C) (ha:RArg C true (e::es) ms) (hg:autoParam (Gl C.X x) DH) (hdb:autoParam ((x == ("__debug__":Str))=false) DG) (he:autoParam (starEach (e::es) C.X.env=(false,eval e C.X.env)::starEach es C.X.env) DH) (hpl:autoParam ((backTo pos (starEach es C.X.env)).any (·.1)=false) DH) :
  RE C .cl (.Call (.Name x p) (e::es) [] pos) (eF F ms):=zC9 (fr:=false) G hh hr hb ha hg hdb he hpl
def gB(G:FnOk C.X.prog C.X.w C.X.K C.X.mg C.X.base (CXV C.X.prog C.X.w) k f fd ps (spX true F))(hh:Has C.X.K C.X.mg x st f fd ps)(hr:Room k C.X.A)
  (hb:Br C) (ha:RArg C true (e::es) ms) (hg:autoParam (Gl C.X x) DH) (hdb:autoParam ((x == ("__debug__":Str))=false) DG) (he:autoParam (starEach (e::es) C.X.env=(false,eval e C.X.env)::starEach es C.X.env) DH) (hpl:autoParam ((backTo pos (starEach es C.X.env)).any (·.1)=false) DH) :
  RE C .new (.Call (.Name x p) (e::es) [] pos) (eF F ms):=zC9 (fr:=true) G hh hr hb ha hg hdb he hpl
def zV1(G:FnOk C.X.prog C.X.w C.X.K C.X.mg C.X.base (CXV C.X.prog C.X.w) k f fd ps (spX false F))(hh:Has C.X.K C.X.mg x st f fd ps)(hr:Room k C.X.A)
  (hb:Br C) (ha:RArg C false (e::es) ms) (hg:autoParam (Gl C.X x) DH) (hdb:autoParam ((x == ("__debug__":Str))=false) DG) (he:autoParam (starEach (e::es) C.X.env=(false,eval e C.X.env)::starEach es C.X.env) DH) (hpl:autoParam ((backTo pos (starEach es C.X.env)).any (·.1)=false) DH) :
  RE C .cl (.Call (.Name x p) (e::es) [] pos) (eFA false F ms):=yG1 (fr:=false) G hh hr hb ha hg hdb he hpl
end
end L2.L3
namespace L2
open PySem PySem.Spec PyProof.Rows
section
variable {X:Cx}{DI:List (Addr×Obj)}{σ:St}{H:Hp}{s:Shared}
end
end L2
namespace L2.L3
open PySem PySem.Spec PyProof.Rows
variable [CN]
abbrev bmV:List Value:=[.type "ValueError",.type "Exception",.type "BaseException",.type "object"]
def OwnX(K:KFr)(x:Str):Prop:=PySem.W.excIn K (CN.ad x) bmV "ValueError.__new__" = true
def xQ5{K:KFr}{h:Heap}{A:Addr}{bmB:List Value}{nid:String}(X:K.In h)(q:PySem.W.excIn K A bmB nid=true) :
  ∃(tl:List Value) (N:Addr) (nm qn:Str) (bs:List Value) (hd:Bool) (sn:List Str) (sb:List Value) (ab:Bool) (co:Option Bool) (dd:Option Addr) (k0 k1 k2 k3 k5:Option Value) (mN:Str->Option Value),
   h.get? A=some (excClassObj nm qn A N bs tl hd sn sb ab co dd k0 k1 k2 k3 k5 nid)/\h.Ns N mN/\mN "__init__" = none/\OwnTail h bmB tl:=by
 revert q
 rw[PySem.W.excIn]
 split
 case h_2=>exact fun q=>nomatch q
 case h_1 dd cd sl lk =>
  split
  case h_2=>exact fun q=>nomatch q
  case h_1 A' tl j0 j1 j2 j3 nn j5 em es =>
   intro q
   rw[Ba,Ba,Ba,Ba,Ba] at q
   have q6:=q.2
   have q5:=q.1.2
   have q4:=q.1.1.2
   have q3:=q.1.1.1.2
   have q2:=eq_of_beq q.1.1.1.1.2
   have q1:=eq_of_beq q.1.1.1.1.1
   cases cd
   cases sl
   simp only at em es q3 q5 q6
   subst em es q1 q2
   simp only[CY] at q3
   subst q3
   exact⟨_,_,_,_,_,_,_,_,_,_,_,_,_,_,_,_,_,X _ _ lk,.of_isNs (PySem.W.isNs_of_in X q5),PySem.W.nsMap_none_of_in X q5 (eq_of_beq q6),PySem.W.tail_of_in X q4⟩
def yA1{X:Cx}{DI:List (Addr×Obj)}{σ:St}{H:Hp}{s:Shared}{c:Str}{h':Heap}{e:Addr}{args:List Value}(I:Inv X DI σ H s)(m:Heap.MadeExcOf s.heap h' e (.ref (CN.ad c)) args):ExcAt X c H (.ref e) { s with heap:=h' }:=by
 obtain⟨t,he,_,_⟩:=m.there
 have I2:Inv X DI σ H { s with heap:=h',toks:=s.toks }:=I.kept m.keeps
 have n:H e=none:=by
  cases q:H e with
  | none=>rfl
  | some o =>
   obtain⟨u,z⟩:=cG (I.hok e o q)
   rw[m.new] at z
   cases z
 refine⟨DI,σ,s,H,e,PySem.W.hideAll h' (e::frs X.stack),.ref t,I,I2,Un.kept m.keeps,rfl,m.new,n,fun b o q=>PySem.W.of_hideAll _ q,PySem.W.hideAll_none _ (.head _),PySem.W.funFrames_hide I2.stack fun env he a ha=>Ad _ (Cc.mpr ⟨env,he,ha⟩),.inr ⟨_,_,he,rfl,rfl,rfl,rfl⟩,fun b o q nb z=>PySem.W.hideAll_get _ q fun hb => ?_⟩
 rcases An.mp hb with rfl | hb
 ·rcases z with z | z
  ·exact z m.new
  ·exact z n
 ·exact nb hb
def sRa(c:Str)(m:Ev->Res (List D)):Ev->Res Out:=fun ρ=>(m ρ).bind fun ds=>if ds.length<=sizeLine then .ex c else .no
def xT{C:Ct}{fr:Bool}{x:Str}{np cpos pos:Pos}{e:Expr}{es:List Expr}{ms:Ev->Res (List D)}(hb:Br C)(ho:OwnX C.X.K x)(hm:C.X.mg x=some (.ref (CN.ad x)))(ha:RArg C false (e::es) ms)(hc:autoParam (C.X.calm=true) DH)(hg:autoParam (Gl C.X x) DH)(hdb:autoParam ((x == ("__debug__":Str))=false) DG)
  (he:autoParam (starEach (e::es) C.X.env=(false,eval e C.X.env)::starEach es C.X.env) DH) (hpl:autoParam ((backTo cpos (starEach es C.X.env)).any (·.1)=false) DH) :
  RS C fr (.Raise (some (.Call (.Name x np) (e::es) [] cpos)) none pos) (sRa x ms):=by
 obtain⟨t,pa,q⟩:=ha
 refine⟨fun _ σ H=>t σ H fun vs H1=>vs.length<=sizeLine/\C.XE x H1,fun DI s σ H D I h => ?_,fun Oc Ob σ H ρ E R h=>q Oc Ob σ H ρ _ R (Res.zQ (Res.zX h) (fun ds _ k vs H' s r => ?_) fun c z H' s=>z H' (Same.frm s))⟩
 ·obtain⟨tl,N,nm,qn,bs,hd,sn,sb,ab,co,dd,k0,k1,k2,k3,k5,mN,hC,hN,hni,T⟩:=xQ5 I.mod.kin ho
  refine wpAny_Raise_call_subT (C:=CN.ad x) (nm:=nm) (q:=qn) (N:=N) (bs:=bs) (bm:=tl) (hdct:=hd) (sn:=sn) (sub:=sb) (ab:=ab) (col:=co) (dd:=dd) (k0:=k0) (k1:=k1) (k2:=k2) (k3:=k3) (k5:=k5) PySem.F.excBase_ValueError (mN:=mN) (T.hasType PySem.F.excBase_ValueError.hasBase) (I.ok.hd hc)
   (by rw[he];show (false || (backTo cpos (starEach es C.X.env)).any (·.1))=false;rw[hpl];rfl) hni (aP I hg hm ⟨rfl,?_⟩ hdb)
  have h2:=pa cpos DI s σ H _ I h
  rw[he] at h2 ⊢
  refine Dm (wpAny_mono h2 (fun us s2 ⟨vs,H2,I2,r,hl,z⟩ => ?_) fun _ _ y=>y)
  exact⟨rfl,by rw[<-r.length];exact hl,I2.bk _ _ hC,hN.keeps I2.bk,T.keeps I2.bk,fun h' a m=>hb x H2 _ _ (yA1 I2 m) z⟩
 ·by_cases hl:ds.length<=sizeLine
  ·rw[Aq hl] at k
   exact⟨by rw[(VAs.rep r).length];exact hl,k H' (Same.frm s)⟩
  ·rw[AJ hl] at k
   exact k.elim
end L2.L3
namespace PySem
section
variable {prog:Program}{w:World}{A:Around}{E:Value->Shared->Prop}{h:Heap}{g:Array GenState}{d:Drawn}{t:Nat}{os:OsState}{a C:Addr}{o:Obj}{K:KFr}
structure ExK(K:KFr)(C:Addr):Prop where
 ga:PySem.W.findIn K (.ref C) "__getattribute__" = some (some (.builtin "BaseException.__getattribute__"))
 gn:PySem.W.findIn K (.ref C) "__getattr__" = some none
 cl:PySem.W.findIn K (.ref C) "__class__" = some (some (.builtin "object.__class__"))
 sb:PySem.W.subIn K (.ref C) (.type "BaseException")=some true
 so:PySem.W.subIn K (.ref C) (.type "object")=some true
 ci:(PySem.W.clsIn K C).isSome=true
variable {dd:Option Addr}{dt:Data}{sl:Array (Option Value)}{x:Shared}
end
end PySem
namespace L2.L3
open PySem PySem.Spec PyProof.Rows
variable [CN]
abbrev inTry(X:Cx)(pn:List (Addr×Obj))(xe:Value->Shared->Prop):Cx:={ X with pn:=pn,xe:=xe }
def Inv.toTry{X:Cx}{DI:List (Addr×Obj)}{σ:St}{H:Hp}{s:Shared}(I:Inv X DI σ H s)(xe:Value->Shared->Prop):Inv (inTry X (X.pn++DI) xe) [] σ H s :=
 ⟨⟨I.ok.mod,I.ok.kind,I.ok.glob,I.ok.blt,I.ok.above,I.ok.inj,I.ok.has,I.ok.cab,I.ok.hd,I.ok.frames,I.ok.stk,I.ok.exf,I.ok.bs,I.ok.bsz,I.ok.noex,I.ok.exfs,I.ok.funs,I.ok.frf,I.ok.tb⟩,I.os,I.bare,I.base,I.loc,I.cell,I.free,I.freeC,fun p hp=>I.pin p (by simpa using hp),I.hok,I.len⟩
def Inv.ofTry{X:Cx}{DI pins':List (Addr×Obj)}{σ:St}{H:Hp}{s:Shared}{xe:Value->Shared->Prop}(I:Inv (inTry X (X.pn++DI) xe) pins' σ H s):Inv X DI σ H s :=
 ⟨⟨I.ok.mod,I.ok.kind,I.ok.glob,I.ok.blt,I.ok.above,I.ok.inj,I.ok.has,I.ok.cab,I.ok.hd,I.ok.frames,I.ok.stk,I.ok.exf,I.ok.bs,I.ok.bsz,I.ok.noex,I.ok.exfs,I.ok.funs,I.ok.frf,I.ok.tb⟩,I.os,I.bare,I.base,I.loc,I.cell,I.free,I.freeC,fun p hp=>I.pin p (AS _ hp),I.hok,I.len⟩
def SP.ofTry{X:Cx}{DI pins':List (Addr×Obj)}{xe:Value->Shared->Prop}{D:Ends}{f:Flow}{s':Shared}(h:SP (inTry X (X.pn++DI) xe) pins' D f s'):SP X DI D f s':=by
 cases f with
 | next=>obtain⟨σ',H',I,q⟩:=h;exact⟨σ',H',Inv.ofTry I,q⟩
 | brk=>obtain⟨σ',H',I,q⟩:=h;exact⟨σ',H',Inv.ofTry I,q⟩
 | cont=>obtain⟨σ',H',I,q⟩:=h;exact⟨σ',H',Inv.ofTry I,q⟩
 | ret u=>obtain⟨v,σ',H',I,r,q⟩:=h;exact⟨v,σ',H',Inv.ofTry I,r,q⟩
section
variable {C:Ct}{e:Expr}{x:Str}{p p2 p3 pos:Pos}{md:Md}{me:Ev->Res D}
end
end L2.L3
namespace L2.L3
open PySem PySem.Spec PyProof.Rows
def yG3{K:KFr}{t c:Value}{v:Bool}(h:PySem.W.kitOne K t c=some v)(n:(t == c)=false):PySem.W.kitCls K t c=some v:=by
 rw[PySem.W.kitOne,AJ (by rw[n];decide)] at h
 exact h
def hZ{K:KFr}{A:Addr}{T:String}{v:Bool}(h:PySem.W.kitOne K (.ref A) (.type T)=some v):PySem.W.subIn K (.ref A) (.type T)=some v:=by
 have h2:=yG3 h rfl
 rw[PySem.W.kitCls] at h2
 split at h2
 ·exact h2
 ·cases h2
def cnOf(K:KFr):CN:=⟨fun x=>match PySem.W.nsIn K mainGlobals x with | some (some (.ref a))=>a | _=>0⟩
def yP6{K:KFr}{x:Str}{a:Addr}(h:PySem.W.nsIn K mainGlobals x=some (some (.ref a))):(cnOf K).ad x=a:=by
 show (match PySem.W.nsIn K mainGlobals x with | some (some (.ref a))=>a | _=>0)=a
 rw[h]
def yC9{F:List D->Res D}{k:Nat}{l:PySem.W.OpenLaw}{q:Program}{loose:List Str}{XP:(Str->Option Value)->Heap->Prop}{YP:World->Heap->Prop}{d:DefRec}{K:Params->KFr}(hT:∀ns:List Int,ns.length<=63->F [.list (ns.map PyData.int)]=.ok (.bool true))(hr:Room k callerA)(hn:l.most=some 63)(hdf:d.params.defaults=[])
  (hY:∀(w:World) (h:Heap),YP w h->(K w.params).In h) (hL:∀w:World,noLst (K w.params)=true)
  (hF:∀(w:World) (mg:Str->Option Value) (fa:Addr) (h:Heap),(K w.params).In h->h.Ns mainGlobals mg->mg d.name=some (.ref fa) ->
   ∃fd:FuncData,(∀(s:Shared) (u:Value),BindsTo s fd ⟨[u],[]⟩ [("script",u)])/\∀base:Heap,(K w.params).In base->base.Ns mainGlobals mg->FnOk l.prog w (K w.params) mg base (CXV l.prog w) k fa fd ["script"] (@spX (cnOf (K w.params)) false F)) (TT:TabsOk q K) :
  PySem.W.WalkO q loose XP YP l.row.toRowW d [] (fun f vs=>PySem.call f vs):=by
 refine L2.xJ3 (n:=63) (k:=k) (x:="script") (CX:=fun w=>CXV l.prog w) (sp:=fun w=>@spX (cnOf (K w.params)) false F) hn (by decide) hdf hr hY hF (fun w H a ns hl hO hS => ?_) (fun w H s e s' z => ?_) TT
 ·letI:=cnOf (K w.params)
  refine⟨[.list (ns.map PyData.int)],fun _=>False,fun a z=>z.elim,.cons (.lst (wW5 (hL w) hS) (fun z=>z) (jA ns)) .nil,?_⟩
  rw[hT ns hl]
  intro v H' _ r
  cases (show Rep H' (fun _=>False) v (.bool true) from r)
  rfl
 ·obtain⟨_,_,_,_,_,_,_,_,_,_,_,_,_,z⟩:=z
  exact z
end L2.L3
namespace MR
def pigeon:∀(n:Nat) (f:Nat->Nat),(∀i,i<=n->f i<n)->∃i j,i<j/\j<=n/\f i=f j
 | 0,f,h=>absurd (h 0 (Ak _)) (by rfl')
 | n+1,f,h=>by
  by_cases c:∃i,i<=n/\f i=f (n+1)
  ·obtain⟨i,hi,e⟩:=c
   exact⟨i,n+1,by rfl',Ak _,e⟩
  ·have ne:∀i,i<=n->f i≠f (n+1):=fun i hi e=>c ⟨i,hi,e⟩
   obtain⟨i,j,h1,h2,e⟩:=pigeon n (fun i=>if f (n+1)<f i then f i-1 else f i) fun i hi=>by
    have a:=h i (by rfl')
    have b:=h (n+1) (Ak _)
    have d:=ne i hi
    show (if f (n+1)<f i then f i-1 else f i)<n
    split <;> rfl'
   refine⟨i,j,h1,by rfl',?_⟩
   have di:=ne i (by rfl')
   have dj:=ne j h2
   have e:(if f (n+1)<f i then f i-1 else f i)=(if f (n+1)<f j then f j-1 else f j):=e
   split at e <;> split at e <;> rfl'
structure Ord(n:Nat)(xs:List Int):Prop where
 len:xs.length=n
 bd:∀i,i<n->0<=xs.getD i 0/\xs.getD i 0<n
 inj:∀i j,i<n->j<n->xs.getD i 0=xs.getD j 0->i=j
def nxt(xs:List Int)(b:Nat):Nat:=(xs.getD b 0).toNat
def it(xs:List Int):Nat->Nat->Nat
 | 0,b=>b
 | k+1,b=>nxt xs (it xs k b)
section
variable {n:Nat}{xs:List Int}
def Ord.xX(o:Ord n xs){b:Nat}(h:b<n):nxt xs b<n:=by
 have:=o.bd b h
 unfold nxt;rfl'
def Ord.xS(o:Ord n xs){b:Nat}(h:b<n):xs.getD b 0=(nxt xs b:Int):=by
 have:=o.bd b h
 unfold nxt;rfl'
def Ord.qI(o:Ord n xs){b c:Nat}(h:b<n)(h':c<n)(e:nxt xs b=nxt xs c):b=c :=
 o.inj b c h h' (by rw[o.xS h,o.xS h',e])
def Ord.jQ(o:Ord n xs){b:Nat}(h:b<n):∀k,it xs k b<n
 | 0=>h
 | k+1=>o.xX (o.jQ h k)
def wH(xs:List Int)(b:Nat)(j:Nat):∀k,it xs (k+j) b=it xs k (it xs j b)
 | 0=>by rw[Nat.zero_add];rfl
 | k+1=>by rw[Nat.add_right_comm];show nxt xs (it xs (k+j) b)=nxt xs (it xs k (it xs j b));rw[wH xs b j k]
def Ord.zT1(o:Ord n xs){b c:Nat}(h:b<n)(h':c<n):∀k,it xs k b=it xs k c->b=c
 | 0,e=>e
 | k+1,e=>o.zT1 h h' k (o.qI (o.jQ h k) (o.jQ h' k) e)
def Ord.back(o:Ord n xs){b:Nat}(h:b<n):∃p,1<=p/\p<=n/\it xs p b=b:=by
 obtain⟨i,j,h1,h2,e⟩:=pigeon n (fun i=>it xs i b) fun i _=>o.jQ h i
 refine⟨j-i,by rfl',by rfl',?_⟩
 have e2:it xs i (it xs (j-i) b)=it xs i b:=by
  rw[<-wH,show i+(j-i)=j by rfl']
  exact e.symm
 exact o.zT1 (o.jQ h _) h i e2
def perGo(xs:List Int)(b:Nat):Nat->Nat->Nat
 | 0,k=>k
 | fuel+1,k=>if it xs k b=b then k else perGo xs b fuel (k+1)
def zU4(xs:List Int)(b:Nat):∀(fuel k:Nat),(∃p,k<=p/\p<=k+fuel/\it xs p b=b) ->
  k<=perGo xs b fuel k/\perGo xs b fuel k<=k+fuel/\it xs (perGo xs b fuel k) b=b/\∀i,k<=i->i<perGo xs b fuel k->it xs i b≠b
 | 0,k,⟨p,h1,h2,e⟩=>by
  have:p=k:=by rfl'
  subst this
  exact⟨Ak _,Ak _,e,fun i a c=>absurd (show i<p from c) (by rfl')⟩
 | fuel+1,k,⟨p,h1,h2,e⟩=>by
  by_cases c:it xs k b=b
  ·rw[perGo,Aq c]
   exact⟨Ak _,by rfl',c,fun i a d=>absurd d (by rfl')⟩
  ·rw[perGo,AJ c]
   have hp:k+1<=p:=by
    rcases Nat.lt_or_ge k p with q | q
    ·exact q
    ·have:p=k:=by rfl'
     subst this
     exact absurd e c
   obtain⟨a1,a2,a3,a4⟩:=zU4 xs b fuel (k+1) ⟨p,hp,by rfl',e⟩
   refine⟨by rfl',by rfl',a3,fun i hi hl => ?_⟩
   by_cases q:i=k
   ·rw[q];exact c
   ·exact a4 i (by rfl') hl
def per(n:Nat)(xs:List Int)(b:Nat):Nat:=perGo xs b (n-1) 1
def Ord.xZ(o:Ord n xs){b:Nat}(h:b<n):1<=per n xs b/\per n xs b<=n/\it xs (per n xs b) b=b/\∀i,1<=i->i<per n xs b->it xs i b≠b:=by
 obtain⟨p,h1,h2,e⟩:=o.back h
 obtain⟨a1,a2,a3,a4⟩:=zU4 xs b (n-1) 1 ⟨p,h1,by rfl',e⟩
 exact⟨a1,by unfold per;rfl',a3,a4⟩
def Ord.wY6(o:Ord n xs){b:Nat}(h:b<n){i j:Nat}(hij:i<j)(hj:j<per n xs b):it xs i b≠it xs j b:=fun e=>by
 obtain⟨_,_,_,a4⟩:=o.xZ h
 refine a4 (j-i) (by rfl') (by rfl') ?_
 refine o.zT1 (o.jQ h _) h i ?_
 rw[<-wH,show i+(j-i)=j by rfl']
 exact e.symm
def yC1(xs:List Int)(b p:Nat)(e:it xs p b=b):∀k,it xs (k*p) b=b
 | 0=>by rw[Nat.zero_mul];rfl
 | k+1=>by rw[Nat.succ_mul,wH,e,yC1 xs b p e k]
def Ord.xC8(o:Ord n xs){b:Nat}(h:b<n)(k:Nat):it xs k b=it xs (k%per n xs b) b:=by
 obtain⟨a1,_,a3,_⟩:=o.xZ h
 have e:k=k%per n xs b+(k / per n xs b)*per n xs b:=by rw[CF];exact (Nat.mod_add_div k (per n xs b)).symm
 conv=>lhs;rw[e,wH,yC1 xs b _ a3]
def In(n:Nat)(xs:List Int)(b c:Nat):Prop:=∃i,i<per n xs b/\it xs i b=c
def Ord.zG3(o:Ord n xs){b:Nat}(h:b<n)(k:Nat):In n xs b (it xs k b):=by
 obtain⟨a1,_⟩:=o.xZ h
 exact⟨k%per n xs b,Nat.mod_lt _ (by rfl'),(o.xC8 h k).symm⟩
def Ord.xM4(o:Ord n xs){b:Nat}(h:b<n):In n xs b b:=o.zG3 h 0
def Ord.aM(o:Ord n xs){b c:Nat}(h:b<n)(hc:In n xs b c):c<n:=by
 obtain⟨i,_,rfl⟩:=hc
 exact o.jQ h i
def Ord.xJ9(o:Ord n xs){b c:Nat}(h:b<n)(hc:In n xs b c):In n xs c b:=by
 obtain⟨i,hi,rfl⟩:=hc
 obtain⟨a1,_,a3,_⟩:=o.xZ h
 have e:it xs (per n xs b-i) (it xs i b)=b:=by rw[<-wH,show per n xs b-i+i=per n xs b by rfl'];exact a3
 have:=o.zG3 (o.jQ h i) (per n xs b-i)
 rw[e] at this
 exact this
def Ord.xW1(o:Ord n xs){b c d:Nat}(h:b<n)(hc:In n xs b c)(hd:In n xs c d):In n xs b d:=by
 obtain⟨i,_,rfl⟩:=hc
 obtain⟨j,_,rfl⟩:=hd
 rw[<-wH]
 exact o.zG3 h _
def ring(n:Nat)(xs:List Int)(b:Nat):List Nat:=(List.range (per n xs b)).map fun i=>it xs i b
def jU(n:Nat)(xs:List Int)(b:Nat):(ring n xs b).length=per n xs b:=by unfold ring;simp
def wV{b c:Nat}:c∈ring n xs b↔In n xs b c:=by
 unfold ring In
 simp only[Ay,Al]
def Ord.zT9(o:Ord n xs){b:Nat}(h:b<n):(ring n xs b).Nodup:=by
 unfold ring List.Nodup
 rw[BV]
 refine BT ?_ (Cq (n:=per n xs b))
 intro i j hi hj hlt
 exact o.wY6 h hlt (Al.mp hj)
def Ord.zG7(o:Ord n xs){b c:Nat}(h:b<n)(hc:In n xs b c):per n xs c=per n xs b:=by
 have hcl:=o.aM h hc
 obtain⟨i,hi,rfl⟩:=hc
 obtain⟨a1,a2,a3,a4⟩:=o.xZ h
 obtain⟨b1,b2,b3,b4⟩:=o.xZ hcl
 have e1:it xs (per n xs b) (it xs i b)=it xs i b:=by rw[<-wH,Nat.add_comm,wH,a3]
 have e2:it xs (per n xs (it xs i b)) b=b:=by
  refine o.zT1 (o.jQ h _) h i ?_
  rw[<-wH,Nat.add_comm,wH,b3]
 rcases CZ (per n xs (it xs i b)) (per n xs b) with q | q | q
 ·exact absurd e2 (a4 _ b1 q)
 ·exact q
 ·exact absurd e1 (b4 _ a1 q)
def has(rs:List (List Nat))(b:Nat):Bool:=rs.any fun r=>r.contains b
def rgs(n:Nat)(xs:List Int):Nat->List (List Nat)
 | 0=>[]
 | b+1=>if has (rgs n xs b) b then rgs n xs b else rgs n xs b ++ [ring n xs b]
def yQ7{rs:List (List Nat)}{b:Nat}:has rs b=true ↔ ∃r∈rs,b∈r:=by
 unfold has
 simp[Ck]
structure Rgs(n:Nat)(xs:List Int)(m:Nat)(rs:List (List Nat)):Prop where
 each:∀r∈rs,∃b,b<m/\r=ring n xs b/\∀c,In n xs b c->b<=c
 cover:∀c,c<m->∃r∈rs,c∈r
 nodup:rs.flatten.Nodup
 rise:rs.Pairwise fun r r'=>∀x∈r.head?,∀y∈r'.head?,x<y
def zL1(o:Ord n xs){b:Nat}(h:b<n):(ring n xs b).head?=some b:=by
 obtain⟨a1,_⟩:=o.xZ h
 unfold ring
 obtain⟨p,hp⟩:∃p,per n xs b=p+1:=⟨per n xs b-1,by rfl'⟩
 rw[hp,List.range_succ_eq_map]
 rfl
def Ord.yX3(o:Ord n xs):∀m,m<=n->Rgs n xs m (rgs n xs m)
 | 0,_=>⟨fun r hr=>by simp[rgs] at hr,fun c hc=>absurd hc (by rfl'),by simp[rgs],by simp[rgs]⟩
 | m+1,h=>by
  have ih:=o.yX3 m (by rfl')
  by_cases c:has (rgs n xs m) m=true
  ·rw[rgs,Aq c]
   refine⟨fun r hr => ?_,fun d hd => ?_,ih.nodup,ih.rise⟩
   ·obtain⟨b,hb,e,hm⟩:=ih.each r hr
    exact⟨b,by rfl',e,hm⟩
   ·by_cases q:d=m
    ·rw[q];exact yQ7.mp c
    ·exact ih.cover d (by rfl')
  ·rw[rgs,AJ c]
   have hm:m<n:=by rfl'
   have apart:∀d,In n xs m d->¬∃r∈rgs n xs m,d∈r:=fun d hd ⟨r,hr,hdr⟩=>by
    obtain⟨b,hb,rfl,_⟩:=ih.each r hr
    have h1:In n xs b d:=wV.mp hdr
    have h2:In n xs b m:=o.xW1 (by rfl') h1 (o.xJ9 hm hd)
    exact c (yQ7.mpr ⟨_,hr,wV.mpr h2⟩)
   refine⟨fun r hr => ?_,fun d hd => ?_,?_,?_⟩
   ·rcases AM.mp hr with hr | hr
    ·obtain⟨b,hb,e,hmin⟩:=ih.each r hr
     exact⟨b,by rfl',e,hmin⟩
    ·have:r=ring n xs m:=by simpa using hr
     refine⟨m,by rfl',this,fun d hd => ?_⟩
     rcases Nat.lt_or_ge d m with q | q
     ·exact absurd (ih.cover d q) (apart d hd)
     ·exact q
   ·by_cases q:d=m
    ·rw[q]
     exact⟨_,Ag _ (by simp),wV.mpr (o.xM4 hm)⟩
    ·obtain⟨r,hr,hd⟩:=ih.cover d (by rfl')
     exact⟨r,AS _ hr,hd⟩
   ·rw[CO,Cw]
    refine⟨ih.nodup,by simpa using o.zT9 hm,fun a ha b hb e => ?_⟩
    have hb':b∈ring n xs m:=by simpa using hb
    subst e
    obtain⟨r,hr,har⟩:=List.mem_flatten.mp ha
    exact apart a (wV.mp hb') ⟨r,hr,har⟩
   ·rw[List.pairwise_append]
    refine⟨ih.rise,by simp,fun r hr r' hr' x hx y hy => ?_⟩
    have e:r'=ring n xs m:=by simpa using hr'
    obtain⟨b,hb,rfl,_⟩:=ih.each r hr
    rw[zL1 o (by rfl')] at hx
    rw[e,zL1 o hm] at hy
    have hx:x=b:=by simpa using hx.symm
    have hy:y=m:=by simpa using hy.symm
    rfl'
end
end MR
namespace L2.L3
open PySem PySem.Spec PyProof.Rows MR
variable [CN]
def pwD(m p:Int):Nat->Int
 | 0=>p
 | i+1=>pwD m p i / m
def digD(m p:Int)(n:Nat):List Int:=(List.range n).map fun i=>pwD m p i%m
def Pot(a:Addr)(H H':Hp):Prop:=∀b o,H b=some o->b≠a->H' b=some o
def Pot.upd{a:Addr}{H:Hp}{o:HO}:Pot a H (upd H a o):=fun b u e n=>by rw[zY n];exact e
def Pot.trans{a:Addr}{H H1 H2:Hp}(h:Pot a H H1)(g:Pot a H1 H2):Pot a H H2:=fun b o e n=>g b o (h b o e n) n
def Pot.refl(a:Addr)(H:Hp):Pot a H H:=fun _ _ e _=>e
def Pot.new{a b:Addr}{H H1:Hp}{o:HO}(h:Pot a H H1)(hb:H1 b=none):Pot a H (L2.upd H1 b o):=fun c u e n=>by
 rw[zY (fun z=>by rw[z] at e;rw[z] at n;rw[h b u e n] at hb;cases hb)]
 exact h c u e n
def spTake:Sp:=fun vs H Q _=>∃(a:Addr) (p m:Int),vs=[.ref a,.int m]/\H a=some (.lst [.int p])/\DivOk m/\Q (.int (p%m)) (upd H a (.lst [.int (p / m)]))
def tTake(K:KFr):TS:=tSeq (tAsg (tOp (rI (fun _ j=>0<j) fun i j=>.int (i%j)) (tOp (rIxL K) (tVar 0) (tC (.int 0))) (tVar 1)) (gName 2)) (tSeq (tAsg (tOp (rI (fun _ j=>DivOk j) fun i j=>.int (i / j)) (tOp (rIxL K) (tVar 0) (tC (.int 0))) (tVar 1)) (gSub (tVar 0) (tC (.int 0)) rSetL)) (tRet (tVar 2)))
def yI1{K:KFr}{a:Addr}{p m:Int}{H:Hp}{E:Ends}(h:H a=some (.lst [.int p]))(hm:DivOk m)(k:E.rt (.int (p%m)) (upd H a (.lst [.int (p / m)]))):tTake K E [some (.ref a),some (.int m),none] H:=by
 refine⟨_,rfl,a,_,0,_,rfl,rfl,SqL.of h,rfl,_,rfl,_,_,rfl,rfl,hm.1,?_⟩
 refine⟨_,rfl,a,_,0,_,rfl,rfl,SqL.of h,rfl,_,rfl,_,_,rfl,rfl,hm,?_⟩
 exact⟨_,rfl,a,_,0,0,rfl,rfl,h,rfl,_,rfl,k⟩
section
variable {P:Program}{w:World}{K:KFr}{mg:Str->Option Value}{base:Heap}
def xO9{x:Str}{st:Stmt}{f:Addr}{fd:FuncData}{N ps:List Str}{k:Nat}(F:Fun K x x st f fd)(S:zI N ps (zU st))(hp:ps.length=2)(hN:N.length=3)
  (hbody:∀(cdv:Value) (A:Around) (outer:List Env) (s:Shared) (H:Hp) (E:XK),Room k (A.deeper (envOfC x (zU st) s.heap.objs.size f cdv))->PSs (cxOf CX0 P w K mg base N x (zU st) f cdv A outer s H E).nox (defBody st) (tTake K)) :
  FnOk P w K mg base CX0 (k+1) f fd ps spTake:=by
 refine F.ok S (fun vs H Q E ⟨a,p,m,e,_⟩=>by rw[e,hp];rfl) fun cdv A outer s H vs Q E hr h => ?_
 obtain⟨a,p,m,rfl,ha,hm,q⟩:=h
 refine⟨_,hbody cdv A outer s H E hr,?_⟩
 have st:start N [V.ref a,V.int m]=[some (.ref a),some (.int m),none]:=by
  unfold start
  rw[hN]
  rfl
 rw[st]
 exact yI1 ha hm q
end
def rTup(K:KFr):List V->Hp->VK->Prop:=fun xs H Q=>∃p ys,xs=[.ref p]/\((SqL K H p ys/\∀l,H l=none->Q (.ref l) (upd H l (.tup ys)))\/(SqT K H p ys/\Q (.ref p) H))
def rAdd:R2:=rI0 fun i j=>.int (i+j)
def DigTo(a:Addr)(m p:Int)(n:Nat)(H:Hp)(Q:VK):Prop:=∀b H',H b=none->H' b=some (.tup ((digD m p n).map V.int))->H' a=some (.lst [.int (pwD m p n)])->Pot a H H'->Q (.ref b) H'
def xT1(m p:Int)(n:Nat):digD m p (n+1)=digD m p n ++ [pwD m p n%m]:=by
 unfold digD
 rw[By,Az]
 rfl
def xS2{K:KFr}{σ:St}{js:List Nat}{a:Addr}{m p:Int}{n:Nat}{H:Hp}{Q:VK}{te:Addr->List Addr->Shared->Hp->TE}{wi:TI}(ha:H a=some (.lst [.int p]))(hn:n<=1000)
  (hw:∀(H:Hp) (R:It->Hp->Prop),R (Itr 0 n) H->wi σ H R)
  (he:∀C fp s₂ H₂ (i:Nat) (q:Int) (H:Hp) (Q:VK),H a=some (.lst [.int q])->Q (.int (q%m)) (upd H a (.lst [.int (q / m)]))->te C fp s₂ H₂ (compSt σ js (some (.int (0+(i:Int))))) H Q)
  (k:DigTo a m p n H Q):tCB (rTup K) (zO (tComp wi (fun _ _ _ _=>tTrue) te js) tNil) σ H Q:=by
 refine hw H _ fun C fp s₂ H₂ => ?_
 refine zR4 (lo:=0) (n:=n) (tt:=tTrue) (te:=te C fp s₂ H₂) (js:=js) (σ:=σ) (Q:=fun x H1=>rTup K [x] H1 Q) (fun i acc H1=>acc=(digD m p i).map V.int/\H1 a=some (.lst [.int (pwD m p i)])/\Pot a H H1) ⟨rfl,ha,Pot.refl a H⟩ ?_ ?_
 ·rintro i acc H1 hi ⟨rfl,h1,po⟩
  unfold tTrue
  simp only[if_true]
  refine he C fp s₂ H₂ i _ H1 _ h1 ⟨by rw[Aa,digD,Aa,Aj];exact small1000 (by rfl'),?_,zS,po.trans Pot.upd⟩
  rw[xT1,Az]
  rfl
 ·rintro acc H1 ⟨rfl,h1,po⟩ l hl
  have al:a≠l:=fun z=>by rw[<-z,h1] at hl;cases hl
  refine⟨l,_,rfl,.inl ⟨SqL.of zS,fun b hb => ?_⟩⟩
  have bl:b≠l:=fun z=>by rw[z,zS] at hb;cases hb
  have ba:b≠a:=fun z=>by rw[z,zY al,h1] at hb;cases hb
  have hb1:H1 b=none:=by rw[zY bl] at hb;exact hb
  have hb0:H b=none:=by
   cases e:H b with
   | none=>rfl
   | some o=>rw[po b o e ba] at hb1;cases hb1
  refine k b _ hb0 zS ?_ ((po.new hl).new hb)
  rw[zY (fun z=>ba z.symm),zY al]
  exact h1
def tOpn(K:KFr):TS:=tRet (tCB (rTup K) (zO (tComp (iRng1 (zO (tVar 1) tNil)) (fun _ _ _ _=>tTrue) (fun _ _ _ _=>tCall spTake [] E0 (zO (tVar 1) (zO (tOp rAdd (tVar 2) (tC (.int 1))) tNil))) [0,1]) tNil))
def spOpn:Sp:=fun vs H Q _=>∃(a:Addr) (p:Int) (n:Nat),vs=[.ref a,.int (n:Int)]/\H a=some (.lst [.int p])/\n<=1000/\DigTo a ((n:Int)+1) p n H Q
def xY4{K:KFr}{a:Addr}{p:Int}{n:Nat}{H:Hp}{E:Ends}(h:H a=some (.lst [.int p]))(hn:n<=1000)(k:DigTo a ((n:Int)+1) p n H E.rt):tOpn K E [some (.ref a),some (.int (n:Int))] H:=by
 refine xS2 (K:=K) (m:=(n:Int)+1) h hn (fun H' R r=>⟨_,rfl,(n:Int),rfl,by rfl',by rfl',by rw[AI];exact r⟩) (fun C fp s₂ H₂ i q H' Q' h' k' => ?_) k
 exact⟨_,rfl,_,rfl,_,_,rfl,rfl,a,q,_,rfl,h',DivOk.small (by rfl') (by rfl'),k'⟩
section
variable {P:Program}{w:World}{K:KFr}{mg:Str->Option Value}{base:Heap}
def xG1{x:Str}{st:Stmt}{f:Addr}{fd:FuncData}{N ps:List Str}{k:Nat}(F:Fun K x x st f fd)(S:zI N ps (zU st))(hp:ps.length=2)(hN:N.length=2)
  (hbody:∀(cdv:Value) (A:Around) (outer:List Env) (s:Shared) (H:Hp) (E:XK),Room k (A.deeper (envOfC x (zU st) s.heap.objs.size f cdv))->PSs (cxOf CX0 P w K mg base N x (zU st) f cdv A outer s H E).nox (defBody st) (tOpn K)) :
  FnOk P w K mg base CX0 (k+1) f fd ps spOpn:=by
 refine F.ok S (fun vs H Q E ⟨a,p,n,e,_⟩=>by rw[e,hp];rfl) fun cdv A outer s H vs Q E hr h => ?_
 obtain⟨a,p,n,rfl,ha,hn,q⟩:=h
 refine⟨_,hbody cdv A outer s H E hr,?_⟩
 have st:start N [V.ref a,V.int (n:Int)]=[some (.ref a),some (.int (n:Int))]:=by
  unfold start
  rw[hN]
  rfl
 rw[st]
 exact xY4 ha hn q
end
def yE1{α β:Type}(f:α->β):∀(l:List α) (i:Nat),(l.map f).eraseIdx i=(l.eraseIdx i).map f
 | [],_=>rfl
 | _::_,0=>rfl
 | _::l,i+1=>Bw _ (yE1 f l i)
def aE{α:Type}:∀(l:List α) (i:Nat) (h:i<l.length),(l[i]::l.eraseIdx i).Perm l
 | [],_,h=>nomatch h
 | _::_,0,_=>Dy _
 | x::l,i+1,h=>(List.Perm.swap x _ _).trans ((aE l i (Nat.lt_of_succ_lt_succ h)).cons x)
def pickO:Nat->List Int->Int->List Int
 | 0,_,_=>[]
 | k+1,l,p=>l.getD (p%((k+1:Nat):Int)).toNat 0::pickO k (l.eraseIdx (p%((k+1:Nat):Int)).toNat) (p / ((k+1:Nat):Int))
def zR7:∀(k:Nat) (l:List Int) (p:Int),l.length=k->(pickO k l p).Perm l
 | 0,l,p,h=>by rw[List.length_eq_zero_iff.mp h];exact List.Perm.nil
 | k+1,l,p,h=>by
  have h0:=Ch p (show ((k+1:Nat):Int)≠0 by rfl')
  have h1:=BS p (show (0:Int)<((k+1:Nat):Int) by rfl')
  have hj:(p%((k+1:Nat):Int)).toNat<l.length:=by rfl'
  rw[pickO]
  refine ((zR7 k _ _ (by rw[Ce hj];rfl')).cons _).trans ?_
  rw[List.getD,Ab hj,CG]
  exact aE l _ hj
def ordP(n:Nat)(p:Int):List Int:=pickO n ((List.range n).map fun (i:Nat)=>(i:Int)) p
def rLnS(K:KFr):List V->Hp->VK->Prop:=fun xs H Q=>∃p ys,xs=[.ref p]/\(SqL K H p ys\/SqT K H p ys)/\Q (.int ys.length) H
def rRng:List V->Hp->VK->Prop:=fun xs H Q=>∃j:Int,xs=[.int j]/\∀p,H p=none->Q (.ref p) (upd H p (.rng 0 j))
def rLstR:List V->Hp->VK->Prop:=fun xs H Q=>∃(p:Addr) (j:Int),xs=[.ref p]/\H p=some (.rng 0 j)/\-(2 ^ 62)<=j/\j.toNat<=1000000/\∀l,H l=none->Q (.ref l) (upd H l (.lst ((List.range j.toNat).map fun (i:Nat)=>V.int (i:Int))))
def tOrdW(K:KFr):TS:=tWhile (tTest (tOp (rEqD K true) (tVar 2) (tLst tNil))) (tDrop (tBM K "list" rAppend (tVar 3) (zO (tBM K "list" rPopAt (tVar 2) (zO (tCall spTake [] E0 (zO (tVar 0) (zO (tCB (rLnS K) (zO (tVar 2) tNil)) tNil))) tNil)) tNil)))
def tOrd(K:KFr):TS:=tSeq (tAsg (tCB rLstR (zO (tCB rRng (zO (tVar 1) tNil)) tNil)) (gName 2)) (tSeq (tAsg (tLst tNil) (gName 3)) (tSeq (tOrdW K) (tRet (tCB (rTup K) (zO (tVar 3) tNil)))))
def OrdTo(a:Addr)(n:Nat)(p:Int)(H:Hp)(Q:VK):Prop:=∀b H' q,H b=none->H' b=some (.tup ((ordP n p).map V.int))->H' a=some (.lst [.int q])->Pot a H H'->Q (.ref b) H'
def yF7{K:KFr}{H0:Hp}{a la lo:Addr}{n:Nat}{T:List Int}{E:Ends}(hn:n<=1000)(d1:a≠la)(d2:a≠lo)(d3:la≠lo)
  (k:∀H q,H a=some (.lst [.int q])->H lo=some (.lst (T.map V.int))->Pot a H0 H->E.nx [some (.ref a),some (.int (n:Int)),some (.ref la),some (.ref lo)] H)
  (f1:H0 la=none) (f2:H0 lo=none):∀{H:Hp}{l acc:List Int}{p:Int},H a=some (.lst [.int p])->H la=some (.lst (l.map V.int))->H lo=some (.lst (acc.map V.int))->Pot a H0 H->acc++pickO l.length l p=T->acc.length+l.length=n ->
   tOrdW K E [some (.ref a),some (.int (n:Int)),some (.ref la),some (.ref lo)] H:=by
 intro H l acc p ha hla hlo po e hl
 refine⟨fun m σ H=>∃l acc p,m=l.length/\σ=[some (.ref a),some (.int (n:Int)),some (.ref la),some (.ref lo)]/\H a=some (.lst [.int p])/\H la=some (.lst (l.map V.int))/\H lo=some (.lst (acc.map V.int))/\Pot a H0 H/\acc++pickO l.length l p=T/\acc.length+l.length=n,⟨_,l,acc,p,rfl,rfl,ha,hla,hlo,po,e,hl⟩,?_⟩
 clear e hl ha hla hlo po
 rintro m σ H ⟨l,acc,p,rfl,rfl,ha,hla,hlo,po,e,hl⟩
 refine⟨_,rfl,AQ _,fun g hg => ?_⟩
 have ga:a≠g:=fun z=>by rw[<-z,ha] at hg;cases hg
 have gla:la≠g:=fun z=>by rw[<-z,hla] at hg;cases hg
 have glo:lo≠g:=fun z=>by rw[<-z,hlo] at hg;cases hg
 have po':=po.new (o:=.lst []) hg
 have ha':(upd H g (.lst [])) a=some (.lst [.int p]):=by rw[zY ga];exact ha
 have hla':(upd H g (.lst [])) la=some (.lst (l.map V.int)):=by rw[zY gla];exact hla
 have hlo':(upd H g (.lst [])) lo=some (.lst (acc.map V.int)):=by rw[zY glo];exact hlo
 generalize hH1:upd H g (.lst [])=H1 at *
 refine⟨.list (l.map PyData.int),.list (([]:List Int).map PyData.int),yR4 (SqL.of hla'),yR4 (SqL.of (by rw[<-hH1];exact zS)),jX l,jX [],_,rfl,?_⟩
 rw[yS8]
 cases l with
 | nil =>
  rw[AB rfl,AJ (by decide)]
  rw[show acc=T from by rw[<-e];exact (Bn acc).symm] at hlo'
  exact k H1 p ha' hlo' po'
 | cons x l =>
  have em:=Ch p (show ((l.length+1:Nat):Int)≠0 by rfl')
  have em':=BS p (show (0:Int)<((l.length+1:Nat):Int) by rfl')
  have hlen:((x::l).map V.int).length=l.length+1:=by rw[Aa];rfl
  generalize hi:p%((l.length+1:Nat):Int)=i at em em'
  have hj:i.toNat<(x::l).length:=by rw[Av];rfl'
  rw[AA (by exact fun z=>nomatch z),Aq (by decide)]
  refine⟨fun σ' H'=>∃l' acc' p',l'.length=l.length/\σ'=[some (.ref a),some (.int (n:Int)),some (.ref la),some (.ref lo)]/\H' a=some (.lst [.int p'])/\H' la=some (.lst (l'.map V.int))/\H' lo=some (.lst (acc'.map V.int))/\Pot a H0 H'/\acc'++pickO l'.length l' p'=T/\acc'.length+l'.length=n,fun σ' H' ⟨l',acc',p',e1,e2⟩=>⟨l.length,by rw[Av];rfl',l',acc',p',e1.symm,e2⟩,?_⟩
  refine⟨_,rfl,.inl ⟨rfl,_,SqL.of hlo'⟩,_,rfl,.inl ⟨rfl,_,SqL.of hla'⟩,_,rfl,_,rfl,la,_,rfl,.inl (SqL.of hla'),a,p,_,rfl,ha',?_⟩
  rw[hlen,hi]
  refine⟨DivOk.small (by rfl') (by rw[Av] at hl;rfl'),la,_,i,i.toNat,V.int ((x::l).getD i.toNat 0),rfl,rfl,by rw[zY (fun z=>d1 z.symm)];exact hla',by rfl',by rw[Av] at hl;rfl',?_,?_,?_⟩
  ·unfold seqIndex?
   rw[hlen]
   have e1:¬i<0:=by rfl'
   simp only[AJ e1]
   rw[Aq (by simp;rfl')]
  ·rw[Ai,List.getD,Ab hj]
   rfl
  ·have p2:Pot a H0 (upd H1 a (.lst [.int (p / ((l.length+1:Nat):Int))])):=po'.trans Pot.upd
   have keep:∀{H2:Hp}{c:Addr}{o:HO},H0 c=none->Pot a H0 H2->Pot a H0 (upd H2 c o):=fun {H2 c o} h0 h b u e n=>by
    rw[zY (fun z=>by rw[z,h0] at e;cases e)]
    exact h b u e n
   refine⟨lo,acc.map V.int,_,rfl,rfl,by rw[zY (fun z=>d3 z.symm),zY (fun z=>d2 z.symm)];exact hlo',by rw[Aa];exact small1000 (by rfl'),(x::l).eraseIdx i.toNat,acc ++ [(x::l).getD i.toNat 0],p / ((l.length+1:Nat):Int),?_,rfl,?_,?_,?_,keep f2 (keep f1 p2),?_,?_⟩
   ·rw[Ce hj];rfl
   ·rw[zY d2,zY d1,zS]
   ·rw[zY d3,zS,yE1]
   ·rw[zS,Az];rfl
   ·rw[<-e,Av,pickO,hi,Ce hj,Bd]
    rfl
   ·rw[Ao,Ce hj]
    rw[Av] at hl ⊢
    simp
    rfl'
def xW6{K:KFr}{a:Addr}{p:Int}{n:Nat}{H:Hp}{E:Ends}(h:H a=some (.lst [.int p]))(hn:n<=1000)(k:OrdTo a n p H E.rt):tOrd K E [some (.ref a),some (.int (n:Int)),none,none] H:=by
 refine⟨_,rfl,_,rfl,fun g hg=>⟨g,_,rfl,zS,by rfl',by rfl',fun la hla=>⟨AQ _,fun lo hlo => ?_⟩⟩⟩
 have ag:a≠g:=fun z=>by rw[<-z,h] at hg;cases hg
 have gla:la≠g:=fun z=>by rw[z,zS] at hla;cases hla
 have ala:a≠la:=fun z=>by rw[<-z,zY ag,h] at hla;cases hla
 have lola:la≠lo:=fun z=>by rw[<-z,zS] at hlo;cases hlo
 have glo:lo≠g:=fun z=>by rw[z,zY (fun z=>gla z.symm),zS] at hlo;cases hlo
 have alo:a≠lo:=fun z=>by rw[<-z,zY ala,zY ag,h] at hlo;cases hlo
 have f1:H la=none:=by rw[zY gla] at hla;exact hla
 have f2:H lo=none:=by rw[zY (fun z=>lola z.symm),zY glo] at hlo;exact hlo
 refine yF7 (T:=ordP n p) hn ala alo lola (fun H2 q ha hl po => ?_) f1 f2 (l:=(List.range n).map fun (i:Nat)=>(i:Int)) (acc:=[]) (p:=p) ?_ ?_ zS ?_ ?_ ?_
 ·refine⟨_,rfl,lo,_,rfl,.inl ⟨SqL.of hl,fun b hb => ?_⟩⟩
  have ba:b≠a:=fun z=>by rw[z,ha] at hb;cases hb
  refine k b _ q ?_ zS ?_ (po.new hb)
  ·cases e:H b with
   | none=>rfl
   | some o=>rw[po b o e ba] at hb;cases hb
  ·rw[zY (fun z=>ba z.symm)];exact ha
 ·rw[zY alo,zY ala,zY ag];exact h
 ·rw[zY lola,zS,AI,AX];rfl
 ·exact ((Pot.refl a H).new hg).new hla |>.new hlo
 ·rw[Aa,Aj];rfl
 ·rw[Aa,Aj];simp
def spOrd:Sp:=fun vs H Q _=>∃(a:Addr) (p:Int) (n:Nat),vs=[.ref a,.int (n:Int)]/\H a=some (.lst [.int p])/\n<=1000/\OrdTo a n p H Q
section
variable {P:Program}{w:World}{K:KFr}{mg:Str->Option Value}{base:Heap}
def xI3{x:Str}{st:Stmt}{f:Addr}{fd:FuncData}{N ps:List Str}{k:Nat}(F:Fun K x x st f fd)(S:zI N ps (zU st))(hp:ps.length=2)(hN:N.length=4)
  (hbody:∀(cdv:Value) (A:Around) (outer:List Env) (s:Shared) (H:Hp) (E:XK),Room k (A.deeper (envOfC x (zU st) s.heap.objs.size f cdv))->PSs (cxOf CX0 P w K mg base N x (zU st) f cdv A outer s H E).nox (defBody st) (tOrd K)) :
  FnOk P w K mg base CX0 (k+1) f fd ps spOrd:=by
 refine F.ok S (fun vs H Q E ⟨a,p,n,e,_⟩=>by rw[e,hp];rfl) fun cdv A outer s H vs Q E hr h => ?_
 obtain⟨a,p,n,rfl,ha,hn,q⟩:=h
 refine⟨_,hbody cdv A outer s H E hr,?_⟩
 have st:start N [V.ref a,V.int (n:Int)]=[some (.ref a),some (.int (n:Int)),none,none]:=by
  unfold start
  rw[hN]
  rfl
 rw[st]
 exact xW6 ha hn q
end
def yI3{O:Addr->Prop}{H0 H:Hp}{x0:V}{a b:Addr}{n:Int}{xs:List Int}{E:Ends}(oh:∀a,O a->H0 a≠none)(fa:H0 a=none)(fb:H0 b=none)(hb:H b=some (.tup (xs.map V.int)))(po:Pot a H0 H)
  (k:∀v H',Same H0 H'->CallOk false O H0 H' v (.tuple [.int n,tI xs])->E.rt v H'):tRet (tTup (zO (tVar 2) (zO (tVar 3) tNil))) E [some x0,some (.ref a),some (.int n),some (.ref b)] H:=by
 have sm:Same H0 H:=fun c o e=>po c o e fun z=>by rw[z,fa] at e;cases e
 refine⟨_,rfl,_,rfl,by show 2<=sizeLine;decide,fun t ht => ?_⟩
 have tb:b≠t:=fun z=>by rw[<-z,hb] at ht;cases ht
 have t0:H0 t=none:=by
  cases e:H0 t with
  | none=>rfl
  | some o=>rw[sm t o e] at ht;cases ht
 refine k _ _ (sm.trans (Same.new ht)) (.tup (.inl zS) (fun z=>oh t z t0) (.cons (.int n) (.cons (.tup (.inl ?_) (fun z=>oh b z fb) (jA xs)) .nil)))
 rw[zY tb]
 exact hb
section
variable {P:Program}{w:World}{K:KFr}{mg:Str->Option Value}{base:Heap}
end
def ordF:List D->Res D
 | [.int p,.int n]=>if 0<=n/\n<=1000 then .ok (tI (ordP n.toNat p)) else .no
 | _=>.no
def yH3{C:Ct}{me me2:Ev->Res D}{md:Md}{t1 t2:TE}{E:XK}
  (q1:∀(Oc:Wd) (Ob:Addr->Prop) (σ:St) (H:Hp) (ρ:Ev) (Q:VK),Rel Oc Ob C.om C.ln σ H ρ->(me ρ).post (fun d=>∀v H',Same H H'->VR .cl Oc Ob H H' v d->Q v H') (fun c=>∀H',Same H H'->C.XE c H')->t1 σ H Q)
  (q2:∀(Oc:Wd) (Ob:Addr->Prop) (σ:St) (H:Hp) (ρ:Ev) (Q:VK),Rel Oc Ob C.om C.ln σ H ρ->(me2 ρ).post (fun d=>∀v H',Same H H'->VR md Oc Ob H H' v d->Q v H') (fun c=>∀H',Same H H'->C.XE c H')->t2 σ H Q)
  {Oc:Wd}{Ob:Addr->Prop}{σ:St}{H:Hp}{ρ:Ev}{Q:VK}(R:Rel Oc Ob C.om C.ln σ H ρ) (h:(eF ordF (aC me (aC me2 aN)) ρ).post (fun d=>∀v H',Same H H'->VR .cl Oc Ob H H' v d->Q v H') (fun c=>∀H',Same H H'->C.XE c H')) :
  tCall spOrd [] E (zO (tLst (zO t1 tNil)) (zO t2 tNil)) σ H Q:=by
 refine q1 Oc Ob σ H ρ _ R (Res.zQ (Res.zX (Res.zX h)) (fun d _ k x H1 s1 vx => ?_) fun _ z=>z)
 refine⟨by show 1<=sizeLine;decide,fun a ha => ?_⟩
 have s1':Same H (upd H1 a (.lst [x])):=s1.trans (Same.new ha)
 refine q2 Oc Ob σ _ ρ _ (R.same s1') (Res.zQ (Res.zX (Res.zX k)) (fun d2 _ k y H2 s2 vy => ?_) fun c z H' s'=>z H' (s1'.trans s'))
 have vy':=vy.va (R.same s1').oh
 have k':(ordF [d,d2]).post (fun d=>∀v H',Same H H'->VR .cl Oc Ob H H' v d->Q v H') (fun c=>∀H',Same H H'->C.XE c H'):=k
 unfold ordF at k'
 split at k'
 ·rename_i p n e
  cases e
  split at k'
  ·rename_i hn
   have ex:=VA.int (.inl vx)
   have ey:=vy'.int
   subst ex ey
   refine⟨a,p,n.toNat,by rw[Ds hn.1];rfl,s2 _ _ zS,by rfl',fun b H' q fb hb hq po => ?_⟩
   have sm:Same H H':=fun c o e=>po c o (s2 c o (s1' c o e)) fun z=>by rw[z] at e;rw[s1 a o e] at ha;cases ha
   refine k' _ H' sm (.tup (.inl hb) (fun z => ?_) (jA _))
   exact R.oh b z ((s1'.trans s2).free fb)
  ·exact k'.elim
 ·exact k'.elim
def yT4(x:Int)(ns:List Int):inV (.int x) (ns.map V.int)=ns.contains x:=by
 unfold inV
 rw[List.any_map,List.contains_eq_any_beq]
 refine Bw (fun f=>ns.any f) (funext fun y => ?_)
 show eqV (.int y) (.int x)=(x == y)
 unfold eqV
 rw[BD]
 simp
 exact eq_comm
def zJ3(ns:List Int):(ns.map V.int).all flatV=true:=by
 rw[List.all_map]
 exact AF.mpr fun _ _=>rfl
def clN(n:Nat)(bs:List Int):List Int:=((List.range n).filter fun (i:Nat)=>!bs.contains (i:Int)).map fun (i:Nat)=>(i:Int)
def zF2(i:Nat)(bs:List Int):clN (i+1) bs=clN i bs++(if bs.contains (i:Int) then [] else [(i:Int)]):=by
 unfold clN
 rw[By,List.filter_append,Az]
 congr 1
 cases h:bs.contains (i:Int) <;> simp only[CJ,List.filter_nil,h,DC,Dz,if_true,if_false,AV,AU,Dv]
def yV6(n:Nat)(bs:List Int):(clN n bs).length<=n:=by
 unfold clN
 rw[Aa]
 exact Bf (Db _ _) (by rw[Aj];exact Ak n)
def yD8:∀(xs l:List Int),xs.Nodup->(∀x∈xs,x∈l)->xs.length<=l.length
 | [],_,_,_=>AQ _
 | x::xs,l,nd,h=>by
  have hx:=h x (Ae ..)
  have:=yD8 xs (l.erase x) (Bh.mp nd).2 fun y hy=>(List.mem_erase_of_ne (fun z:y=x=>(Bh.mp nd).1 (by rw[<-z];exact hy))).mpr (h y (Ad _ hy))
  rw[List.length_erase_of_mem hx] at this
  have:=List.length_pos_of_mem hx
  rw[Av]
  rfl'
def yR5(n:Nat)(bs:List Int)(h:bs.length<n):0<(clN n bs).length:=by
 rcases Dx (clN n bs).length with z | z
 ·exfalso
  have all:∀i,i<n->(i:Int)∈bs:=fun i hi=>by
   have e:=List.length_eq_zero_iff.mp z
   unfold clN at e
   rw[List.map_eq_nil_iff,List.filter_eq_nil_iff] at e
   have:=e i (Al.mpr hi)
   simpa using this
  have nd:((List.range n).map fun (i:Nat)=>(i:Int)).Nodup:=List.Pairwise.map (fun (i:Nat)=>(i:Int)) (fun a b h e=>h (Int.ofNat.inj e)) BL
  have:=yD8 _ bs nd (fun x hx=>by
   obtain⟨i,hi,rfl⟩:=Ay.mp hx
   exact all i (Al.mp hi))
  rw[Aa,Aj] at this
  rfl'
 ·exact z
def runG(g:Nat->Int->D×Int):Nat->Int->List D×Int
 | 0,p=>([],p)
 | k+1,p=>((runG g k p).1 ++ [(g k (runG g k p).2).1],(g k (runG g k p).2).2)
def trG(n:Nat)(thin:Bool):Nat->List Int->List Int->Int->D×Int
 | 0,_,_,p=>(.none,p)
 | l+1,bs,ns,p =>
  if thin=true/\p%4=3 then (.none,p / 4)
  else (fun (p1:Int)=>(fun (b:Int)=>(fun r:List D×Int=>(PyData.tuple [.int b,.tuple r.1],r.2))
   (runG (fun i q=>if ns.contains (i:Int) then (.none,q) else trG n thin l (bs ++ [b]) (ns ++ [(i:Int)]) q) n (p1 / ((clN n bs).length:Int))))
   ((clN n bs).getD (p1%((clN n bs).length:Int)).toNat 0)) (if thin=true then p / 4 else p)
def nxG(n:Nat)(thin:Bool)(l:Nat)(bs ns:List Int)(b:Int):Nat->Int->D×Int:=fun i q=>if ns.contains (i:Int) then (.none,q) else trG n thin l (bs ++ [b]) (ns ++ [(i:Int)]) q
def yU8{n l:Nat}{thin:Bool}{bs ns:List Int}{p:Int}(h:thin=true/\p%4=3):trG n thin (l+1) bs ns p=(.none,p / 4):=by rw[trG,Aq h]
def zE5{n l:Nat}{thin:Bool}{bs ns:List Int}{p p1 b:Int}(h:¬(thin=true/\p%4=3))(e1:(if thin=true then p / 4 else p)=p1)(e2:(clN n bs).getD (p1%((clN n bs).length:Int)).toNat 0=b) :
  trG n thin (l+1) bs ns p=(.tuple [.int b,.tuple (runG (nxG n thin l bs ns b) n (p1 / ((clN n bs).length:Int))).1],(runG (nxG n thin l bs ns b) n (p1 / ((clN n bs).length:Int))).2):=by
 subst e1 e2
 rw[trG,AJ h]
 rfl
def spTree(k:Nat):Sp:=fun vs H Q _=>∃(O:Addr->Prop) (a ab an:Addr) (p:Int) (n l:Nat) (bs ns:List Int) (thin:Bool),(∀x,O x->H x≠none)/\O a/\H a=some (.lst [.int p])/\vs=[.ref a,.int (n:Int),.int (l:Int),.ref ab,.ref an,.bl thin] /\
 Rd H ab (.lst (bs.map V.int))/\ab≠a/\Rd H an (.lst (ns.map V.int))/\an≠a/\l<k/\n<=100/\bs.length+l<=n/\ns.length+l<=200 /\
 ∀v H',Pot a H H'->H' a=some (.lst [.int (trG n thin l bs ns p).2])->Rep H' O v (trG n thin l bs ns p).1->Q v H'
def rSub:R2:=rI0 fun i j=>.int (i-j)
def tAppV(K:KFr)(i:Nat)(t:TE):TS:=tDrop (tBM K "list" rAppend (tVar i) (zO t tNil))
def tTrF(K:KFr)(sp:Sp):TS:=tFor (iRng1 (zO (tVar 1) tNil)) (gName 9) (tIfS (tTest (tOp (rIn K false) (tVar 9) (tVar 4))) (tAppV K 8 (tC .non))
 (tAppV K 8 (tCall sp [] E0 (zO (tVar 0) (zO (tVar 1) (zO (tOp rSub (tVar 2) (tC (.int 1))) (zO (tOp rCatR (tVar 3) (tLst (zO (tVar 7) tNil))) (zO (tOp rCatR (tVar 4) (tLst (zO (tVar 9) tNil))) (zO (tVar 5) tNil)))))))))
def tTrE(K:KFr):TS:=tRet (tTup (zO (tVar 7) (zO (tCB (rTup K) (zO (tVar 8) tNil)) tNil)))
def tTrS(K:KFr)(sp:Sp):TS :=
 tSeq (tAsg (tOp (rIxL K) (tVar 6) (tCall spTake [] E0 (zO (tVar 0) (zO (tCB (rLnS K) (zO (tVar 6) tNil)) tNil)))) (gName 7))
 (tSeq (tAsg (tLst tNil) (gName 8)) (tSeq (tTrF K sp) (tTrE K)))
def tTrR(K:KFr)(sp:Sp):TS :=
 tSeq (tAsg (tComp (iRng1 (zO (tVar 1) tNil)) (fun _ _ _ _=>tTest (tOp (rIn K true) (tVar 0) (tVar 1))) (fun _ _ _ _=>tVar 0) [3]) (gName 6)) (tTrS K sp)
def tTr(K:KFr)(sp:Sp):TS :=
 tSeq (tIfS (tOr (tTest (tOp (rEqD K false) (tVar 2) (tC (.int 0)))) (tAnd (tB (tVar 5)) (tTest (tOp (rEqD K false) (tCall spTake [] E0 (zO (tVar 0) (zO (tC (.int 4)) tNil))) (tC (.int 3)))))) (tRet (tC .non)) tNext) (tTrR K sp)
def evI(x y:Int):V.bl (if false=true then !PyData.eqv (.int x) (.int y) else PyData.eqv (.int x) (.int y))=.bl (decide (x=y)):=by rw[AJ (by decide),zZ1]
def zD1{a b:Addr}{u:HO}{H H':Hp}(r:Rd H b u)(po:Pot a H H')(n:b≠a):Rd H' b u:=yM r fun o e=>po b o e n
def Pot.none{a b:Addr}{H H':Hp}(po:Pot a H H')(n:b≠a)(h:H' b=none):H b=none:=by
 cases e:H b with
 | none=>rfl
 | some o=>rw[po b o e n] at h;cases h
def xV7{K:KFr}{O:Addr->Prop}{H0 H:Hp}{a la:Addr}{v1 v2 v3 v4 v5 v6 v9:Option V}{b q:Int}{vs:List V}{ds:List D}{E:Ends}(oh:∀x,O x->H0 x≠none)(po:Pot a H0 H)(ha:H a=some (.lst [.int q]))(fl:H0 la=none)(al:la≠a)(hl:H la=some (.lst vs))(rs:Reps H (fun x=>O x\/x=la) vs ds)
  (k:∀v H',Pot a H0 H'->H' a=some (.lst [.int q])->Rep H' O v (.tuple [.int b,.tuple ds])->E.rt v H'):tTrE K E [some (.ref a),v1,v2,v3,v4,v5,v6,some (.int b),some (.ref la),v9] H:=by
 refine⟨_,rfl,_,rfl,la,_,rfl,.inl ⟨SqL.of hl,fun t ht=>⟨by show 2<=sizeLine;decide,fun r hr => ?_⟩⟩⟩
 have ta:t≠a:=fun z=>by rw[z,ha] at ht;cases ht
 have tr:t≠r:=fun z=>by rw[<-z,zS] at hr;cases hr
 have hr1:H r=none:=by rw[zY (fun z=>tr z.symm)] at hr;exact hr
 have ra:r≠a:=fun z=>by rw[z,ha] at hr1;cases hr1
 have po1:=(po.new (o:=.tup vs) ht).new (o:=.tup [.int b,.ref t]) hr
 refine k _ _ po1 ?_ (.tup (.inl zS) (fun z=>oh r z (po.none ra hr1)) (.cons (.int b) (.cons (.tup (xs:=vs) (.inl ?_) (fun z=>oh t z (po.none ta ht)) ?_) .nil)))
 ·rw[zY (fun z=>ra z.symm),zY (fun z=>ta z.symm)]
  exact ha
 ·rw[zY tr]
  exact zS
 ·refine rs.keep (fun x o e _ => ?_) fun x _ z=>.inl z
  have xt:x≠t:=fun z=>by rw[z,ht] at e;cases e
  have xr:x≠r:=fun z=>by rw[z,hr1] at e;cases e
  rw[zY xr,zY xt]
  exact e
def xX5{K:KFr}{k n l:Nat}{thin:Bool}{bs ns:List Int}{b p2:Int}{O:Addr->Prop}{H0:Hp}{a ab an ac la:Addr}{E:Ends}(oh:∀x,O x->H0 x≠none)(oa:O a)(rb:Rd H0 ab (.lst (bs.map V.int)))(nb:ab≠a)(rn:Rd H0 an (.lst (ns.map V.int)))(nn:an≠a)(fl:H0 la=none)(al:la≠a)(hk:l<k)(hn:n<=100)(hb:(bs ++ [b]).length+l<=n)(hs:ns.length+(l+1)<=200)
  (kk:∀v9 vs H,Pot a H0 H->H a=some (.lst [.int (runG (nxG n thin l bs ns b) n p2).2])->H la=some (.lst vs)->Reps H (fun x=>O x\/x=la) vs (runG (nxG n thin l bs ns b) n p2).1 ->
   E.nx [some (.ref a),some (.int (n:Int)),some (.int ((l+1:Nat):Int)),some (.ref ab),some (.ref an),some (.bl thin),some (.ref ac),some (.int b),some (.ref la),v9] H)
  {H:Hp}(po:Pot a H0 H) (ha:H a=some (.lst [.int p2])) (hl:H la=some (.lst [])) :
  tTrF K (spTree k) E [some (.ref a),some (.int (n:Int)),some (.int ((l+1:Nat):Int)),some (.ref ab),some (.ref an),some (.bl thin),some (.ref ac),some (.int b),some (.ref la),none] H:=by
 refine⟨_,rfl,(n:Int),rfl,by rfl',by rfl',?_⟩
 rw[AI]
 have keepL:∀{H':Hp}{o:HO},Pot a H0 H'->Pot a H0 (upd H' la o):=fun {H' o} h c u e n=>by
  rw[zY (fun z=>by rw[z,fl] at e;cases e)]
  exact h c u e n
 refine zM8 (fun i σ H=>∃v9 vs,σ=[some (.ref a),some (.int (n:Int)),some (.int ((l+1:Nat):Int)),some (.ref ab),some (.ref an),some (.bl thin),some (.ref ac),some (.int b),some (.ref la),v9]/\Pot a H0 H/\H a=some (.lst [.int (runG (nxG n thin l bs ns b) i p2).2])/\H la=some (.lst vs)/\vs.length=i/\Reps H (fun x=>O x\/x=la) vs (runG (nxG n thin l bs ns b) i p2).1) ⟨none,[],rfl,po,ha,hl,rfl,.nil⟩ ?_ ?_
 ·clear po ha hl H
  rintro i σ H hi ⟨v9,vs,rfl,po,ha,hl,lv,rs⟩
  rw[Int.zero_add]
  have rn':=zD1 rn po nn
  have rb':=zD1 rb po nb
  have fin:∀{H':Hp}{v:V}{d:D}{q:Int},Pot a H0 H'->H' a=some (.lst [.int q])->H' la=some (.lst vs)->Reps H' (fun x=>O x\/x=la) vs (runG (nxG n thin l bs ns b) i p2).1->Rep H' (fun x=>O x\/x=la) v d->nxG n thin l bs ns b i (runG (nxG n thin l bs ns b) i p2).2=(d,q) ->
    ∃v9 vs',[some (V.ref a),some (.int (n:Int)),some (.int ((l+1:Nat):Int)),some (.ref ab),some (.ref an),some (.bl thin),some (.ref ac),some (.int b),some (.ref la),some (.int (i:Int))]=[some (.ref a),some (.int (n:Int)),some (.int ((l+1:Nat):Int)),some (.ref ab),some (.ref an),some (.bl thin),some (.ref ac),some (.int b),some (.ref la),v9]/\Pot a H0 (upd H' la (.lst (vs ++ [v])))/\(upd H' la (.lst (vs ++ [v]))) a=some (.lst [.int (runG (nxG n thin l bs ns b) (i+1) p2).2])/\(upd H' la (.lst (vs ++ [v]))) la=some (.lst vs')/\vs'.length=i+1/\Reps (upd H' la (.lst (vs ++ [v]))) (fun x=>O x\/x=la) vs' (runG (nxG n thin l bs ns b) (i+1) p2).1:=by
   intro H' v d q po' ha' hl' rs' rv e
   have kp:∀c o,H' c=some o->¬(O c\/c=la)->(upd H' la (.lst (vs ++ [v]))) c=some o:=fun c o e n=>by rw[zY (fun z=>n (.inr z))];exact e
   refine⟨_,vs ++ [v],rfl,keepL po',?_,zS,by rw[Ao,lv];rfl,?_⟩
   ·rw[zY (fun z=>al z.symm),ha',runG,e]
   ·rw[runG,e]
    exact (rs'.keep kp fun _ _ z=>z).append (.one (rv.keep kp fun _ _ z=>z))
  refine⟨_,rfl,_,rfl,an,_,rfl,.inl (.inl rn'),rfl,zJ3 ns,_,rfl,?_⟩
  rw[yT4]
  simp only[AV,if_false]
  by_cases c:ns.contains (i:Int)=true
  ·rw[c]
   simp only[if_true]
   refine⟨_,rfl,.inl ⟨rfl,_,SqL.of hl⟩,la,vs,.non,rfl,rfl,hl,by rw[lv];exact small1000 (by rfl'),?_⟩
   exact fin po ha hl rs .non (by unfold nxG;rw[Aq c])
  ·rw[Cb] at c
   rw[c]
   simp only[AV,if_false]
   refine⟨_,rfl,.inl ⟨rfl,_,SqL.of hl⟩,_,rfl,_,rfl,_,rfl,_,_,rfl,rfl,_,rfl,_,rfl,by show 1<=sizeLine;decide,fun t1 h1 => ?_⟩
   have S1:=Same.new (H:=H) (o:=.lst [.int b]) h1
   refine⟨ab,t1,bs.map V.int,[.int b],rfl,rfl,yM rb' fun o e=>S1 _ o e,.inl zS,by rw[Aa];exact BC (small1000 (by simp at hb ⊢;rfl')),fun q1 h1' => ?_⟩
   have S2:=Same.new (o:=.lst (bs.map V.int ++ [.int b])) h1'
   refine⟨_,rfl,_,rfl,by show 1<=sizeLine;decide,fun t2 h2 => ?_⟩
   have S3:=Same.new (o:=.lst [.int (i:Int)]) h2
   have S123:=(S1.trans S2).trans S3
   refine⟨an,t2,ns.map V.int,[.int (i:Int)],rfl,rfl,yM rn' fun o e=>S123 _ o e,.inl zS,by rw[Aa];exact BC (small1000 (by simp;rfl')),fun q2 h2'=>⟨_,rfl,?_⟩⟩
   have S4:=Same.new (o:=.lst (ns.map V.int ++ [.int (i:Int)])) h2'
   have S:=S123.trans S4
   have qa:q1≠a:=fun z=>by rw[z,S1 _ _ ha] at h1';cases h1'
   have qa2:q2≠a:=fun z=>by rw[z,S123 _ _ ha] at h2';cases h2'
   refine⟨fun x=>O x\/x=la,a,q1,q2,_,n,l,bs ++ [b],ns ++ [(i:Int)],thin,?_,.inl oa,S _ _ ha,?_,.inl ?_,qa,.inl ?_,qa2,hk,hn,hb,by simp;rfl',fun v H' po' ha' rv => ?_⟩
   ·intro x hx
    rcases hx with hx | hx
    ·by_cases z:x=a
     ·rw[z,S _ _ ha];exact fun z=>nomatch z
     ·cases e:H0 x with
      | none=>exact absurd e (oh x hx)
      | some o=>rw[S _ _ (po x o e z)];exact fun z=>nomatch z
    ·rw[hx,S _ _ hl];exact fun z=>nomatch z
   ·show [V.ref a,V.int (n:Int),V.int (((l+1:Nat):Int)-1),V.ref q1,V.ref q2,V.bl thin]=_
    rw[show ((l+1:Nat):Int)-1=(l:Int) by rfl']
   ·rw[(S3.trans S4) _ _ (zS (H:=upd H t1 (.lst [.int b])) (a:=q1) (o:=.lst (bs.map V.int ++ [.int b]))),Az];rfl
   ·rw[zS,Az];rfl
   ·have pH:Pot a H H':=fun c o e n=>po' c o (S c o e) n
    have kp:∀c o,H c=some o->¬(O c\/c=la)->H' c=some o:=fun c o e n=>pH c o e fun z=>n (.inl (by rw[z];exact oa))
    have hl':=pH la _ hl al
    refine⟨la,vs,v,rfl,rfl,hl',by rw[lv];exact small1000 (by rfl'),?_⟩
    exact fin (po.trans pH) ha' hl' (rs.keep kp fun _ _ z=>z) rv (by unfold nxG;rw[c,AJ AK])
 ·rintro σ H ⟨v9,vs,rfl,po,ha,hl,_,rs⟩
  exact kk v9 vs H po ha hl rs
def yZ3{K:KFr}{k n l:Nat}{thin:Bool}{bs ns:List Int}{b p1:Int}{O:Addr->Prop}{H0:Hp}{a ab an:Addr}{E:Ends}(oh:∀x,O x->H0 x≠none)(oa:O a)(rb:Rd H0 ab (.lst (bs.map V.int)))(nb:ab≠a)(rn:Rd H0 an (.lst (ns.map V.int)))(nn:an≠a)(hk:l<k)(hn:n<=100)(hb:bs.length+(l+1)<=n)(hs:ns.length+(l+1)<=200)
  (eb:(clN n bs).getD (p1%((clN n bs).length:Int)).toNat 0=b)
  (kk:∀v H',Pot a H0 H'->H' a=some (.lst [.int (runG (nxG n thin l bs ns b) n (p1 / ((clN n bs).length:Int))).2])->Rep H' O v (.tuple [.int b,.tuple (runG (nxG n thin l bs ns b) n (p1 / ((clN n bs).length:Int))).1])->E.rt v H')
  {H:Hp}(po:Pot a H0 H) (ha:H a=some (.lst [.int p1])) :
  tTrR K (spTree k) E [some (.ref a),some (.int (n:Int)),some (.int ((l+1:Nat):Int)),some (.ref ab),some (.ref an),some (.bl thin),none,none,none,none] H:=by
 have rb':=zD1 rb po nb
 have lm:((clN n bs).map V.int).length=(clN n bs).length:=Aa ..
 have cp:=yR5 n bs (by rfl')
 have cl:=yV6 n bs
 refine⟨_,rfl,(n:Int),rfl,by rfl',by rfl',?_⟩
 rw[AI]
 intro C fp s₂ H₂
 refine zR4 (lo:=0) (n:=n) (tt:=tTest (tOp (rIn K true) (tVar 0) (tVar 1))) (te:=tVar 0) (js:=[3]) (σ:=[some (.ref a),some (.int (n:Int)),some (.int ((l+1:Nat):Int)),some (.ref ab),some (.ref an),some (.bl thin),none,none,none,none]) (Q:=fun v H'=>tTrS K (spTree k) E [some (.ref a),some (.int (n:Int)),some (.int ((l+1:Nat):Int)),some (.ref ab),some (.ref an),some (.bl thin),some v,none,none,none] H') (fun i acc H'=>acc=(clN i bs).map V.int/\H'=H) ⟨rfl,rfl⟩ ?_ ?_
 ·rintro i acc H' hi ⟨rfl,rfl⟩
  refine⟨_,rfl,_,rfl,ab,_,rfl,.inl (.inl rb'),rfl,zJ3 bs,_,rfl,?_⟩
  rw[yT4,Int.zero_add]
  simp only[if_true]
  cases c:bs.contains (i:Int) with
  | false =>
   simp only[Dz,if_true]
   refine⟨_,rfl,by rw[Aa];exact small1000 (by have:=yV6 i bs;rfl'),?_,rfl⟩
   rw[zF2,c,AJ AK,Az]
   rfl
  | true =>
   simp only[DC,AV,if_false]
   refine⟨?_,trivial⟩
   rw[zF2,c,Aq rfl,Bn]
 ·rintro acc H' ⟨rfl,rfl⟩ ac hac
  have aca:ac≠a:=fun z=>by rw[z,ha] at hac;cases hac
  have h0:=Ch p1 (show ((clN n bs).length:Int)≠0 by rfl')
  have h1:=BS p1 (show (0:Int)<((clN n bs).length:Int) by rfl')
  refine⟨_,rfl,_,rfl,_,rfl,ac,_,rfl,.inl (SqL.of zS),a,p1,_,rfl,by rw[zY (fun z=>aca z.symm)];exact ha,?_⟩
  rw[lm]
  have at1:atI ((clN n bs).map V.int) (p1%((clN n bs).length:Int))=some (.int b):=by
   obtain⟨j,hj⟩:∃j:Nat,p1%((clN n bs).length:Int)=(j:Int):=⟨(p1%((clN n bs).length:Int)).toNat,by rfl'⟩
   rw[hj,AI] at eb
   rw[hj,xF,xL (by rfl'),eb]
   rfl
  refine⟨DivOk.small (by rfl') (by rfl'),ac,_,_,.int b,rfl,rfl,SqL.of (by rw[zY aca,zS]),at1,AQ _,fun la hla => ?_⟩
  have la1:la≠a:=fun z=>by rw[z,zS] at hla;cases hla
  have lac:la≠ac:=fun z=>by rw[z,zY aca,zS] at hla;cases hla
  have hla0:H' la=none:=by rw[zY la1,zY lac] at hla;exact hla
  refine xX5 (E:={ E with nx:=tTrE K E }) oh oa rb nb rn nn (po.none la1 hla0) la1 hk hn (by simp;rfl') hs (fun v9 vs H2 po2 ha2 hl2 rs2=>xV7 oh po2 ha2 (po.none la1 hla0) la1 hl2 rs2 kk) ?_ ?_ zS
  ·exact ((po.new hac).trans Pot.upd).new hla
  ·rw[zY (fun z=>la1 z.symm),zS]
def yD6{K:KFr}{k n l:Nat}{thin:Bool}{bs ns:List Int}{p:Int}{O:Addr->Prop}{H:Hp}{a ab an:Addr}{E:Ends}(oh:∀x,O x->H x≠none)(oa:O a)(ha:H a=some (.lst [.int p]))(rb:Rd H ab (.lst (bs.map V.int)))(nb:ab≠a)(rn:Rd H an (.lst (ns.map V.int)))(nn:an≠a)(hk:l<k+1)(hn:n<=100)(hb:bs.length+l<=n)(hs:ns.length+l<=200)
  (kk:∀v H',Pot a H H'->H' a=some (.lst [.int (trG n thin l bs ns p).2])->Rep H' O v (trG n thin l bs ns p).1->E.rt v H') :
  tTr K (spTree k) E [some (.ref a),some (.int (n:Int)),some (.int (l:Int)),some (.ref ab),some (.ref an),some (.bl thin),none,none,none,none] H:=by
 refine⟨_,rfl,.int _,.int 0,.int _,.int _,rfl,rfl,_,evI _ _,?_⟩
 cases l with
 | zero =>
  rw[AB (show ((0:Nat):Int)=0 from rfl)]
  simp only[if_true]
  exact kk _ _ (Pot.refl a H) ha .non
 | succ l =>
  rw[AA (show ¬((l+1:Nat):Int)=0 by rfl')]
  simp only[AV,if_false]
  refine⟨_,rfl,thin,rfl,?_⟩
  cases thin with
  | false =>
   simp only[AV,if_false]
   have e:=zE5 (n:=n) (l:=l) (thin:=false) (bs:=bs) (ns:=ns) (p:=p) (fun z=>AK z.1) rfl rfl
   rw[e] at kk
   exact yZ3 oh oa rb nb rn nn (by rfl') hn hb hs rfl kk (Pot.refl a H) ha
  | true =>
   simp only[if_true]
   refine⟨_,rfl,a,p,4,rfl,ha,DivOk.small (by decide) (by decide),.int _,.int 3,.int _,.int _,rfl,rfl,_,evI _ _,?_⟩
   by_cases q:p%4=3
   ·rw[AB q]
    simp only[if_true]
    rw[yU8 ⟨rfl,q⟩] at kk
    exact kk _ _ Pot.upd zS .non
   ·rw[AA q]
    simp only[AV,if_false]
    have e:=zE5 (n:=n) (l:=l) (thin:=true) (bs:=bs) (ns:=ns) (p:=p) (fun z=>q z.2) rfl rfl
    rw[e] at kk
    exact yZ3 oh oa rb nb rn nn (by rfl') hn hb hs rfl kk Pot.upd zS
section
variable {P:Program}{w:World}{K:KFr}{mg:Str->Option Value}{base:Heap}
def xL2{x:Str}{st:Stmt}{f:Addr}{fd:FuncData}{N ps:List Str}{j k:Nat}(F:Fun K x x st f fd)(S:zI N ps (zU st))(hp:ps.length=6)(hN:N.length=10)
  (hbody:∀(cdv:Value) (A:Around) (outer:List Env) (s:Shared) (H:Hp) (E:XK),Room j (A.deeper (envOfC x (zU st) s.heap.objs.size f cdv))->PSs (cxOf CX0 P w K mg base N x (zU st) f cdv A outer s H E).nox (defBody st) (tTr K (spTree k))) :
  FnOk P w K mg base CX0 (j+1) f fd ps (spTree (k+1)):=by
 refine F.ok S (fun vs H Q E ⟨O,a,ab,an,p,n,l,bs,ns,thin,_,_,_,e,_⟩=>by rw[e,hp];rfl) fun cdv A outer s H vs Q E hr h => ?_
 obtain⟨O,a,ab,an,p,n,l,bs,ns,thin,oh,oa,ha,rfl,rb,nb,rn,nn,hk,hn,hb,hs,kk⟩:=h
 refine⟨_,hbody cdv A outer s H E hr,?_⟩
 have st:start N [V.ref a,.int (n:Int),.int (l:Int),.ref ab,.ref an,.bl thin]=[some (.ref a),some (.int (n:Int)),some (.int (l:Int)),some (.ref ab),some (.ref an),some (.bl thin),none,none,none,none]:=by
  unfold start
  rw[hN]
  rfl
 rw[st]
 exact yD6 oh oa ha rb nb rn nn hk hn hb hs kk
end
def tr1(n:Nat)(ops ms:List Int)(i:Nat):D:=(trG n (decide (ms.getD i 0%3=2)) (ops.getD i 0).toNat [] [(i:Int)] (ms.getD i 0 / 3)).1
def plD(n:Nat)(ops ms:List Int):D:=.tuple ((List.range n).map fun (i:Nat)=>tr1 n ops ms i)
def plOk(n:Int)(ops ms:List Int):Prop:=0<=n/\n<=7/\ops.length=n.toNat/\ms.length=n.toNat/\∀o∈ops,0<=o/\o<=n
open Classical in
def plF(Fs:List D->Res D):List D->Res D
 | [d,.int n,.tuple es]=>match intsOf es,Fs [d,.int 3,.int n] with
  | some ops,.ok (.list cs)=>match intsOf cs with
   | some ms=>if plOk n ops ms then .ok (plD n.toNat ops ms) else .no
   | _=>.no
  | _,_=>.no
 | _=>.no
def wZ6{Fs:List D->Res D}{ds:List D}{c:Str}:plF Fs ds ≠ .ex c:=by
 unfold plF
 split
 ·split
  ·split
   ·split <;> exact fun z=>nomatch z
   ·exact fun z=>nomatch z
  ·exact fun z=>nomatch z
 ·exact fun z=>nomatch z
def yD3{Fs:List D->Res D}{ds:List D}{Q:D->Prop}{R:Str->Prop}(h:(plF Fs ds).post Q R):∃(d:D) (n:Nat) (ops ms:List Int),ds=[d,.int (n:Int),tI ops]/\Fs [d,.int 3,.int (n:Int)]=.ok (lI ms)/\n<=7/\ops.length=n/\ms.length=n/\(∀o∈ops,0<=o/\o<=(n:Int))/\Q (plD n ops ms):=by
 unfold plF at h
 split at h
 ·split at h
  ·rename_i d n es _ _ ops cs e1 e
   split at h
   ·rename_i ms e2
    obtain rfl:=uP e1
    obtain rfl:=uP e2
    split at h
    ·rename_i c
     obtain⟨c1,c2,c3,c4,c5⟩:=c
     obtain⟨m,rfl⟩:∃m:Nat,n=(m:Int):=⟨n.toNat,by rfl'⟩
     rw[AI] at c3 c4 h
     exact⟨d,m,ops,ms,rfl,e,by rfl',c3,c4,c5,h⟩
    ·exact h.elim
   ·exact h.elim
  ·exact h.elim
 ·exact h.elim
def xE6{Fs:List D->Res D}{d:D}{n:Nat}{ops ms:List Int}(e:Fs [d,.int 3,.int (n:Int)]=.ok (lI ms))(hn:n<=7)(h1:ops.length=n)(h2:ms.length=n)(h3:∀o∈ops,0<=o/\o<=(n:Int)):plF Fs [d,.int (n:Int),tI ops]=.ok (plD n ops ms):=by
 unfold plF tI
 simp only[intsOf_map,e,lI]
 rw[Aq ⟨by rfl',by rfl',by rw[AI];exact h1,by rw[AI];exact h2,h3⟩,AI]
def tPlB(K:KFr)(k:Nat):TS:=tSeq (tAsg (tLst (zO (tOp (rIxL K) (tVar 4) (tVar 5)) tNil)) (gName 6)) (tSeq (tAsg (tOp (rEqD K false) (tCall spTake [] E0 (zO (tVar 6) (zO (tC (.int 3)) tNil))) (tC (.int 2))) (gName 7))
 (tAppV K 3 (tCall (spTree k) [] E0 (zO (tVar 6) (zO (tVar 1) (zO (tOp (rIxT K) (tVar 2) (tVar 5)) (zO (tLst tNil) (zO (tLst (zO (tVar 5) tNil)) (zO (tVar 7) tNil)))))))))
def tPl(K:KFr)(k:Nat)(Fs:List D->Res D):TS:=tSeq (tAsg (tLst tNil) (gName 3)) (tSeq (tAsg (tCall (spF true Fs) [] E0 (zO (tVar 0) (zO (tC (.int 3)) (zO (tVar 1) tNil)))) (gName 4))
 (tSeq (tFor (iRng1 (zO (tVar 1) tNil)) (gName 5) (tPlB K k)) (tRet (tCB (rTup K) (zO (tVar 3) tNil)))))
def xP8{K:KFr}{k:Nat}{Fs:List D->Res D}{O:Addr->Prop}{H0:Hp}{x0:V}{d0:D}{ao:Addr}{n:Nat}{ops ms:List Int}{E:Ends}(oh:∀a,O a->H0 a≠none)(r0:Rep H0 O x0 d0)(ro:Rd H0 ao (.tup (ops.map V.int)))(hs:Fs [d0,.int 3,.int (n:Int)]=.ok (lI ms))(hn:n<=7)(hk:8<=k)(lo:ops.length=n)(lm:ms.length=n)(ho:∀o∈ops,0<=o/\o<=(n:Int))
  (kk:∀v H',Same H0 H'->CallOk false O H0 H' v (plD n ops ms)->E.rt v H'):tPl K k Fs E [some x0,some (.int (n:Int)),some (.ref ao),none,none,none,none,none] H0:=by
 refine⟨AQ _,fun lt hlt => ?_⟩
 have S1:=Same.new (o:=.lst []) hlt
 refine⟨_,rfl,_,rfl,[d0,.int 3,.int (n:Int)],fun x=>O x\/x=lt,fun x hx => ?_,.cons (r0.keep (fun b o e _=>S1 b o e) fun b hb z => ?_) (.cons (.int 3) (.cons (.int (n:Int)) .nil)),?_⟩
 ·rcases hx with hx | hx
  ·exact Same.ne S1 (oh x hx)
  ·rw[hx,zS];exact fun z=>nomatch z
 ·rcases z with z | z
  ·exact z
  ·exact absurd hlt (by rw[z] at hb;exact hb)
 rw[hs]
 rintro v H1 s1 ⟨lc,ys,ds,rfl,e,hlc,hlc1,rc⟩
 cases e
 obtain rfl:=rc.ints
 have S01:Same H0 H1:=S1.trans s1
 have hlt1:H1 lt=some (.lst []):=s1 _ _ zS
 have ltc:lt≠lc:=fun z=>by rw[<-z,zS] at hlc;cases hlc
 have flc:H0 lc=none:=by rw[zY (fun z=>ltc z.symm)] at hlc;exact hlc
 refine⟨_,rfl,(n:Int),rfl,by rfl',by rfl',?_⟩
 rw[AI]
 refine zM8 (fun i σ H=>∃v5 v6 v7 vs,σ=[some x0,some (.int (n:Int)),some (.ref ao),some (.ref lt),some (.ref lc),v5,v6,v7]/\Same H0 H/\H lc=some (.lst (ms.map V.int))/\H lt=some (.lst vs)/\vs.length=i/\Reps H (fun x=>O x\/x=lt) vs ((List.range i).map fun (i:Nat)=>tr1 n ops ms i)) ⟨none,none,none,[],rfl,S01,hlc1,hlt1,rfl,.nil⟩ ?_ ?_
 ·rintro i σ H hi ⟨v5,v6,v7,vs,rfl,S,hc,hl,lv,rs⟩
  rw[Int.zero_add]
  have at1:atI (ms.map V.int) (i:Int)=some (.int (ms.getD i 0)):=by rw[xF,xL (by rfl')];rfl
  have at2:atI (ops.map V.int) (i:Int)=some (.int (ops.getD i 0)):=by rw[xF,xL (by rfl')];rfl
  have bo:=ho (ops.getD i 0) (by rw[List.getD,Ab (by rfl'),CG];exact CK _)
  refine⟨_,rfl,_,rfl,lc,_,_,_,rfl,rfl,SqL.of hc,at1,by show 1<=sizeLine;decide,fun a ha => ?_⟩
  have la:lt≠a:=fun z=>by rw[<-z,hl] at ha;cases ha
  have fa:H0 a=none:=S.free ha
  refine⟨_,rfl,a,_,3,rfl,zS,DivOk.small (by decide) (by decide),.int _,.int 2,.int _,.int _,rfl,rfl,?_⟩
  rw[evI,yT1]
  have Sa:=Same.new (o:=.lst [.int (ms.getD i 0 / 3)]) ha
  have hl1:(upd H a (.lst [.int (ms.getD i 0 / 3)])) lt=some (.lst vs):=Sa _ _ hl
  refine⟨_,rfl,.inl ⟨rfl,_,SqL.of hl1⟩,_,rfl,_,rfl,_,rfl,_,rfl,ao,_,_,_,rfl,rfl,.inl (yM ro fun o e=>Sa _ o (S _ o e)),at2,AQ _,fun t1 h1 => ?_⟩
  have St1:=Same.new (o:=.lst []) h1
  refine⟨_,rfl,by show 1<=sizeLine;decide,fun t2 h2=>⟨_,rfl,?_⟩⟩
  have St2:=Same.new (o:=.lst [.int (i:Int)]) h2
  have Sn:=St1.trans St2
  have SH:=Sa.trans Sn
  have ta1:t1≠a:=fun z=>by rw[z,zS] at h1;cases h1
  have ta2:t2≠a:=fun z=>by rw[z,zY (fun z=>ta1 z.symm),zS] at h2;cases h2
  refine⟨fun x=>O x\/x=lt\/x=a,a,t1,t2,ms.getD i 0 / 3,n,(ops.getD i 0).toNat,[],[(i:Int)],decide (ms.getD i 0%3=2),fun x hx => ?_,.inr (.inr rfl),Sn _ _ zS,by rw[Ds bo.1];rfl,.inl (St2 _ _ zS),ta1,.inl zS,ta2,by rfl',by rfl',by show 0+_<=n;rfl',by show 1+_<=200;rfl',fun v H' po hp rv => ?_⟩
  ·rcases hx with hx | hx | hx
   ·exact Same.ne SH (Same.ne S (oh x hx))
   ·rw[hx,Sn _ _ hl1];exact fun z=>nomatch z
   ·rw[hx,Sn _ _ zS];exact fun z=>nomatch z
  ·have pH:∀c o,H c=some o->H' c=some o:=fun c o e=>po c o (SH c o e) fun z=>by rw[z,ha] at e;cases e
   have hl':=pH _ _ hl
   refine⟨lt,vs,v,rfl,rfl,hl',by rw[lv];exact small1000 (by rfl'),?_⟩
   have kp:∀c o,H' c=some o->¬(O c\/c=lt)->(upd H' lt (.lst (vs ++ [v]))) c=some o:=fun c o e n=>by rw[zY (fun z=>n (.inr z))];exact e
   refine⟨_,_,_,vs ++ [v],rfl,fun c o e => ?_,?_,zS,by rw[Ao,lv];rfl,?_⟩
   ·rw[zY (fun z=>by rw[z,hlt] at e;cases e)]
    exact pH _ _ (S _ _ e)
   ·rw[zY (fun z=>ltc z.symm)]
    exact pH _ _ hc
   ·rw[By,Az]
    refine ((rs.keep (fun c o e _=>pH c o e) fun _ _ z=>z).keep kp fun _ _ z=>z).append (.one ?_)
    exact (rv.less fun x hx=>hx.elim .inl fun z=>.inr (.inl z)).keep kp fun _ _ z=>z
 ·rintro σ H ⟨v5,v6,v7,vs,rfl,S,hc,hl,_,rs⟩
  refine⟨_,rfl,lt,_,rfl,.inl ⟨SqL.of hl,fun t ht=>kk _ _ (S.trans (Same.new ht)) (.tup (xs:=vs) (.inl zS) (fun z=>oh t z (S.free ht)) ?_)⟩⟩
  refine rs.keep (fun c o e _ => ?_) fun _ _ z=>.inl z
  rw[zY (fun z=>by rw[z,ht] at e;cases e)]
  exact e
section
variable {P:Program}{w:World}{K:KFr}{mg:Str->Option Value}{base:Heap}
def xO4{f:Addr}{fd:FuncData}{ps:List Str}{k:Nat}:FnOk P w K mg base CX0 k f fd ps (spTree 0):=by
 have no:∀{vs:List V}{H:Hp}{Q:VK}{E:XK},spTree 0 vs H Q E->False:=by
  rintro vs H Q E ⟨O,a,ab,an,p,n,l,bs,ns,thin,_,_,_,_,_,_,_,_,hl,_⟩
  rfl'
 exact⟨fun vs H Q E h=>(no h).elim,fun A outer s H args us vs Q E hr e b v h=>(no h).elim⟩
def xQ8(Fs:List D->Res D){x:Str}{st:Stmt}{f:Addr}{fd:FuncData}{N ps:List Str}{j k:Nat}(hk:8<=k)(F:Fun K x x st f fd)(S:zI N ps (zU st))(hp:ps.length=3)(hN:N.length=8)
  (hbody:∀(cdv:Value) (A':Around) (outer:List Env) (s:Shared) (H:Hp) (E:XK),Room j (A'.deeper (envOfC x (zU st) s.heap.objs.size f cdv))->PSs (cxOf CX0 P w K mg base N x (zU st) f cdv A' outer s H E).nox (defBody st) (tPl K k Fs)) :
  FnOk P w K mg base CX0 (j+1) f fd ps (spF false (plF Fs)):=by
 refine F.ok S (fun vs H Q E ⟨ds,O,oh,r,q⟩ => ?_) fun cdv A' outer s H vs Q E hr h => ?_
 ·obtain⟨d,n,ops,ms,rfl,_⟩:=yD3 q
  rw[r.length,hp]
  rfl
 ·obtain⟨ds,O,oh,r,q⟩:=h
  obtain⟨d,n,ops,ms,rfl,hc,hn,lo,lm,ho,q⟩:=yD3 q
  refine⟨_,hbody cdv A' outer s H E hr,?_⟩
  cases r with
  | @cons v _ _ _ r1 r2 =>
   cases r2 with
   | cons r2 r3 =>
    cases r2
    cases r3 with
    | cons r3 r4 =>
     cases r4
     cases r3 with
     | @tup a _ _ rd no rs =>
      obtain rfl:=rs.ints
      have st:start N [v,V.int (n:Int),V.ref a]=[some v,some (.int (n:Int)),some (.ref a),none,none,none,none,none]:=by
       unfold start
       rw[hN]
       rfl
      rw[st]
      exact xP8 oh r1 rd hc hn hk lo lm ho q
end
end L2.L3
namespace MR
def rg(n:Nat):List Int:=(List.range n).map fun (i:Nat)=>(i:Int)
def yE8(n:Nat):(rg n).length=n:=by unfold rg;simp
def zA9{n:Nat}{a:Int}:a∈rg n↔0<=a/\a<n:=by
 unfold rg
 simp only[Ay,Al]
 constructor
 ·rintro ⟨i,hi,rfl⟩;rfl'
 ·intro h;exact⟨a.toNat,by rfl',by rfl'⟩
def xR6(n:Nat):(rg n).Pairwise (· < ·):=by
 unfold rg
 rw[BV]
 exact List.Pairwise.imp (fun h=>by rfl') (Cq (n:=n))
def zC6(n:Nat):(rg n).Nodup:=(xR6 n).imp fun h=>by rfl'
def wT3(n:Nat):(rg n).Pairwise (· <= ·):=(xR6 n).imp fun h=>by rfl'
def yV1{a b:List Int}(p:a.Perm b)(ha:a.Pairwise (· <= ·))(hb:b.Pairwise (· <= ·)):a=b :=
 p.eq_of_pairwise (fun x y _ _ h1 h2=>by rfl') ha hb
def yM8{xs:List Int}(h:xs.Nodup){i j:Nat}(hi:i<xs.length)(hj:j<xs.length)(e:xs.getD i 0=xs.getD j 0):i=j:=by
 rw[AD,Ab hi,AD,Ab hj] at e
 have e:xs[i]=xs[j]:=e
 rcases CZ i j with q | q | q
 ·exact absurd e (CL.mp h i j hi hj q)
 ·exact q
 ·exact absurd e.symm (CL.mp h j i hj hi q)
def getD_mem{xs:List Int}{i:Nat}(h:i<xs.length):xs.getD i 0∈xs:=by
 rw[List.getD,Ab h]
 exact CK h
def jM{n:Nat}{xs:List Int}(p:xs.Perm (rg n)):Ord n xs:=by
 have hl:xs.length=n:=by rw[p.length_eq,yE8]
 have nd:xs.Nodup:=p.nodup_iff.mpr (zC6 n)
 exact⟨hl,fun i hi=>zA9.mp (p.mem_iff.mp (getD_mem (by rfl'))),fun i j hi hj e=>yM8 nd (by rfl') (by rfl') e⟩
def onto{n:Nat}{f:Nat->Nat}(h:∀i,i<n->f i<n)(hi:∀i j,i<n->j<n->f i=f j->i=j){c:Nat}(hc:c<n):∃i,i<n/\f i=c:=by
 refine Classical.byContradiction fun no => ?_
 obtain⟨i,j,h1,h2,e⟩:=pigeon n (fun i=>if i=n then c else f i) fun i hi'=>by
  show (if i=n then c else f i)<n
  split
  ·exact hc
  ·exact h i (by rfl')
 have e:(if i=n then c else f i)=(if j=n then c else f j):=e
 rw[AJ (show i≠n by rfl')] at e
 by_cases q:j=n
 ·rw[Aq q] at e
  exact no ⟨i,by rfl',e⟩
 ·rw[AJ q] at e
  have:=hi i j (by rfl') (by rfl') e
  rfl'
def Ord.onto{n:Nat}{xs:List Int}(o:Ord n xs){c:Nat}(hc:c<n):∃b,b<n/\nxt xs b=c :=
 MR.onto (fun i hi=>o.xX hi) (fun i j hi hj e=>o.qI hi hj e) hc
def insAt(xs:List Int)(i:Nat)(v:Int):List Int:=xs.take i++v::xs.drop i
def zT2(xs:List Int)(i:Nat)(v:Int):(insAt xs i v).Perm (v::xs):=by
 unfold insAt
 have:=List.perm_middle (a:=v) (l₁:=xs.take i) (l₂:=xs.drop i)
 rwa [List.take_append_drop] at this
def lawOrd(cell:Int):Nat->List Int×Int
 | 0=>([],cell)
 | k+1=>(insAt (lawOrd cell k).1 ((lawOrd cell k).2%((k:Int)+1)).toNat k,(lawOrd cell k).2 / ((k:Int)+1))
def xQ1(n:Nat):rg (n+1)=rg n ++ [(n:Int)]:=by unfold rg;rw[By,Az];rfl
def fP(cell:Int):∀k,(lawOrd cell k).1.Perm (rg k)
 | 0=>Dy _
 | k+1=>by
  rw[xQ1]
  refine (zT2 _ _ _).trans ?_
  refine ((fP cell k).cons _).trans ?_
  exact (List.perm_append_singleton _ _).symm
def qO(cell:Int)(n:Nat):Ord n (lawOrd cell n).1:=jM (fP cell n)
def ofN(n:Nat)(f:Nat->Nat):List Int:=(List.range n).map fun (b:Nat)=>((f b:Nat):Int)
def cZ(n:Nat)(f:Nat->Nat):(ofN n f).length=n:=by unfold ofN;simp
def yQ2{n:Nat}{f:Nat->Nat}{b:Nat}(h:b<n):(ofN n f).getD b 0=(f b:Int):=by
 unfold ofN
 simp[List.getD,h]
def yS6{n:Nat}{f:Nat->Nat}{b:Nat}(h:b<n):nxt (ofN n f) b=f b:=by
 unfold nxt
 rw[yQ2 h]
 rfl'
def xN7{n:Nat}{f g:Nat->Nat}(h:∀b,b<n->f b=g b):ofN n f=ofN n g:=by
 unfold ofN
 refine BY fun b hb => ?_
 rw[h b (Al.mp hb)]
def yR9{n:Nat}{f:Nat->Nat}(h:∀b,b<n->f b<n)(i:∀b c,b<n->c<n->f b=f c->b=c):Ord n (ofN n f):=by
 refine jM ?_
 have nd:(ofN n f).Nodup:=by
  unfold ofN
  rw[List.nodup_iff_pairwise_ne,BV]
  refine BT ?_ (BL (n:=n))
  intro a b ha hb ne e
  exact ne (i a b (Al.mp ha) (Al.mp hb) (by rfl'))
 rw[BN nd (zC6 n)]
 intro a
 rw[zA9]
 unfold ofN
 rw[Ay]
 constructor
 ·rintro ⟨b,hb,rfl⟩
  have:=h b (Al.mp hb)
  rfl'
 ·rintro ⟨h1,h2⟩
  obtain⟨b,hb,e⟩:=onto (n:=n) (f:=f) h i (c:=a.toNat) (by rfl')
  exact⟨b,Al.mpr hb,by rfl'⟩
def zD4{n:Nat}{xs:List Int}(o:Ord n xs):ofN n (nxt xs)=xs:=by
 refine CI (by rw[cZ,o.len]) fun b h1 h2 => ?_
 rw[cZ] at h1
 have e:=yQ2 (f:=nxt xs) h1
 rw[<-o.xS h1] at e
 rw[AD,AD,Ab (by rw[cZ];exact h1),Ab h2] at e
 exact e
def Ord.ext{n:Nat}{xs ys:List Int}(o:Ord n xs)(o':Ord n ys)(h:∀b,b<n->nxt xs b=nxt ys b):xs=ys:=by
 rw[<-zD4 o,<-zD4 o',xN7 h]
def cmpO(n:Nat)(xs ys:List Int):List Int:=ofN n fun b=>nxt ys (nxt xs b)
def yA3{n:Nat}{xs ys:List Int}{b:Nat}(h:b<n):nxt (cmpO n xs ys) b=nxt ys (nxt xs b):=yS6 h
def xS6{n:Nat}{xs ys:List Int}(o:Ord n xs)(o':Ord n ys):Ord n (cmpO n xs ys) :=
 yR9 (fun b h=>o'.xX (o.xX h)) fun b c h h' e=>o.qI h h' (o'.qI (o.xX h) (o.xX h') e)
section
variable {n:Nat}{xs:List Int}
def zT3(xs:List Int)(b k:Nat):it xs (k+1) b=it xs k (nxt xs b):=wH xs b 1 k
def xE8{P:Nat->Prop}(n:Nat)(h:∃c,P c):∃m,P m/\∀c,P c->m<=c:=by
 obtain⟨c,hc⟩:=h
 induction c using Nat.strongRecOn with
 | ind c ih =>
  by_cases q:∃d,d<c/\P d
  ·obtain⟨d,hd,pd⟩:=q
   exact ih d hd pd
  ·exact⟨c,hc,fun d pd=>Nat.le_of_not_lt fun z=>q ⟨d,z,pd⟩⟩
def lc:Nat->Nat
 | 0=>1
 | n+1=>(n+1)*lc n
def part(o:Ord n xs){a:Nat}(ha:a<n):(ring n xs a++(List.range n).filter fun c=>!(ring n xs a).contains c).Perm (List.range n):=by
 have nd:=o.zT9 ha
 rw[BN ?_ BL]
 ·intro c
  rw[AM,Bk,Al]
  constructor
  ·rintro (h | h)
   ·exact o.aM ha (wV.mp h)
   ·exact h.1
  ·intro h
   cases e:(ring n xs a).contains c with
   | true=>exact .inl (AE.mp e)
   | false=>exact .inr ⟨h,rfl⟩
 ·rw[Cw]
  refine⟨nd,BL.filter _,fun x hx y hy e => ?_⟩
  subst e
  have:=(Bk.mp hy).2
  rw[AE.mpr hx] at this
  cases this
end
end MR
namespace M12
def ff(n:Int):Nat->Int
 | 0=>1
 | j+1=>ff n j*(n-j)
def tot(least:Int)(many:List Int):Nat->Int
 | 0=>0
 | j+1=>if least<=(j:Int)+1 then tot least many j+ff ((many.length:Int)-1) j*many.getD (many.length-(j+1)) 0 else tot least many j
def mbl(least most:Int):Nat->List Int
 | 0=>[1]
 | n+1=>mbl least most n ++ [tot least (mbl least most n) (min most ((n:Int)+1)).toNat]
def G(least most:Int)(n:Nat):Int:=(mbl least most n).getD n 0
def B:Int:=2 ^ 400
end M12
namespace M12
end M12
namespace M12
def sumN(F:Nat->Int):Nat->Int
 | 0=>0
 | n+1=>sumN F n+F n
def bin:Nat->Nat->Int
 | _,0=>1
 | 0,_+1=>0
 | n+1,m+1=>bin n m+bin n (m+1)
def term(g b:Nat->Int)(n m:Nat):Int:=bin n m*g m*b (n-m)
def fac:Nat->Int
 | 0=>1
 | n+1=>fac n*((n:Int)+1)
end M12
namespace M12
def tells(g b:List Int)(n:Nat):Nat->List Int
 | 0=>[]
 | m+1=>tells g b n m ++ [bin n m*g.getD m 0*b.getD (n-m) 0]
end M12
namespace M12
def inWin(o q p:Nat):Bool:=decide (p<=q/\q<p+o)
def stepM(n o:Nat)(v:Nat->Int)(q:Nat):Int :=
 (if q+1<=n then ((q:Int)+1)*v (q+1) else 0)+sumN (fun p=>if inWin o q p then v p else 0) (n+1)
def e0(i:Nat):Int:=if i=0 then 1 else 0
end M12
namespace M12
section
variable (g b:Nat->Int)
def TT(l s:Nat):Int:=sumN (fun c=>term g b l c*ff (c:Int) s) (l+1)
variable {g b}
end
end M12
namespace M12
end M12
namespace M12
section
variable (g b:Nat->Int)
variable {g b}
end
end M12
namespace MR
def stepI(n:Nat)(rs:List (List Int)):List (List Int):=rs.flatMap fun r=>((List.range n).filter fun (x:Nat)=>!r.contains (x:Int)).map fun (x:Nat)=>r ++ [(x:Int)]
def ordsI(n:Nat):Nat->List (List Int)
 | 0=>[[]]
 | i+1=>stepI n (ordsI n i)
def H1:List (Nat×Nat):=[(57,1)]
def H2:List (Nat×Nat):=[(449,1),(751,1)]
def H3:List (Nat×Nat):=[(3487,1),(5601,1),(5553,1),(7717,2),(5595,1)]
def H4:List (Nat×Nat):=[(26811,1),(41609,1),(41273,1),(56421,2),(41567,1),(41225,1),(39216,3),(55737,2),(71229,6),(56325,2),(41267,1),(56409,2),(41561,1)]
def H5:List (Nat×Nat):=[(204485,1),(308071,1),(305719,1),(411755,2),(307777,1),(305383,1),(291320,3),(406967,2),(515411,6),(411083,2),(305677,1),(411671,2),(307735,1),(305335,1),(291272,3),(288920,3),(394956,2),(290978,3),(406283,2),(392220,2),(508211,6),(619057,24),(514385,6),(406871,2),(515267,6),(392514,2),(410987,2),(394572,2),(305377,1),(291314,3),(406955,2),(515393,6),(411071,2),(394914,2),(394614,2),(392556,2),(305671,1),(411659,2),(394908,2),(394620,2),(307729,1),(392562,2)]
def H6:List (Nat×Nat):=[(1549045,1),(2274147,1),(2257683,1),(2999935,2),(2272089,1),(2255331,1),(2156890,3),(2966419,2),(3725527,6),(2995231,2),(2257389,1),(2999347,2),(2271795,1),(2254995,1),(2156554,3),(2140090,3),(2882342,2),(2154496,3),(2961631,2),(2863190,2),(3675127,6),(4451049,24),(3718345,6),(2965747,2),(3724519,6),(2865248,2),(2994559,2),(2879654,2),(2255289,1),(2156848,3),(2966335,2),(3725401,6),(2995147,2),(2882048,2),(2879948,2),(2865542,2),(2257347,1),(2999263,2),(2882006,2),(2879990,2),(2271753,1),(2865584,2),(2254947,1),(2156506,3),(2140042,3),(2882294,2),(2154448,3),(2137690,3),(2039249,15),(2848778,2),(3607886,6),(2877590,2),(2139748,3),(2881706,2),(2154154,3),(2960947,2),(2862506,2),(2846042,2),(2764751,40),(2860448,2),(3667927,6),(3569486,6),(4383825,24),(5176555,120),(4441449,24),(3674101,6),(4449681,24),(3573602,6),(3717319,6),(3602414,6),(2961535,2),(2863094,2),(3674983,6),(4450857,24),(3718201,6),(2846336,2),(3603002,6),(2860742,2),(3574190,6),(2965651,2),(3724375,6),(2865152,2),(2848394,2),(3607118,6),(2864858,2),(2994463,2),(2879558,2),(2877206,2),(2879264,2),(2254989,1),(2156548,3),(2140084,3),(2882336,2),(2154490,3),(2961619,2),(2863178,2),(3675109,6),(4451025,24),(3718327,6),(2965735,2),(3724501,6),(2865236,2),(2994547,2),(2879642,2),(2848736,2),(3607802,6),(2877548,2),(2848436,2),(3607202,6),(2877248,2),(2881664,2),(2846378,2),(3603086,6),(2879306,2),(2860784,2),(3574274,6),(2864900,2),(2255283,1),(2156842,3),(2966323,2),(3725383,6),(2995135,2),(2882042,2),(2879936,2),(2865530,2),(2848730,2),(3607790,6),(2877542,2),(2848442,2),(3607214,6),(2877254,2),(2881958,2),(2879894,2),(2865488,2),(2257341,1),(2999251,2),(2881994,2),(2879984,2),(2881658,2),(2846384,2),(3603098,6),(2879312,2),(2881952,2),(2879900,2),(2271747,1),(2865578,2),(2860790,2),(3574286,6),(2864906,2),(2865494,2)]
def H(n:Nat):List (Nat×Nat):=match n with | 1=>H1 | 2=>H2 | 3=>H3 | 4=>H4 | 5=>H5 | _=>H6
def ins(c:Nat):List (Nat×Nat)->List (Nat×Nat)
 | []=>[(c,1)]
 | q::r=>if Nat.beq q.1 c then (q.1,q.2+1)::r else q::ins c r
def cnt:List (Nat×Nat)->(Nat->Bool)->Nat
 | [],_=>0
 | q::r,P=>(if P q.1 then q.2 else 0)+cnt r P
def dg(c i:Nat):Nat:=c / 7 ^ i%7
def fdC(k c p:Nat):Bool:=Nat.ble (dg c p) k
def gsm(ms:List Int)(s:Nat):Int:=((List.range ms.length).map fun (c:Nat)=>ms.getD c 0*M12.ff (c:Int) s).sum
def tl(n k:Nat):List Int:=M12.tells (M12.mbl 1 (k:Int) n) (M12.mbl ((k:Int)+1) n n) n (n+1)
def sub:Nat->Nat->List (List Nat)
 | _,0=>[[]]
 | a,m+1=>sub (a+1) m++(sub (a+1) m).map (a :: ·)
def zO8:∀n,n<7->1<=n->∀k,k<n+2->∀g∈sub 0 n,gsm (tl n k) g.length / M12.ff (n:Int) g.length=((cnt (H n) fun c=>g.all (fdC (min k n) c):Nat):Int):=by decide +kernel
section
variable {n:Nat}{xs:List Int}
def cl{α:Type}(n:Nat)(f:α->Nat)(l:List α):List Int:=(List.range (n+1)).map fun j=>((l.countP fun x=>Nat.beq (f x) j:Nat):Int)
end
def stepT(n o:Nat)(l:List Int):List Int:=(List.range (n+1)).map fun q=>M12.stepM n o (fun p=>l.getD p 0) q
def xO2:∀n,n<7->1<=n->((ordsI n n).length:Int)=M12.fac n:=by decide +kernel
def fc:Nat->Nat
 | 0=>1
 | n+1=>(n+1)*fc n
def yK7:∀n,M12.fac n=((fc n:Nat):Int)
 | 0=>rfl
 | n+1=>by
  rw[M12.fac,yK7 n,fc]
  push_cast
  rw[Int.mul_comm]
def rk:List Int->List Int->Nat
 | _,[]=>0
 | l,x::xs=>l.idxOf x*fc (l.length-1)+rk (l.erase x) xs
def aE:∀(l:List Int) (j:Nat),j<l.length->(l.getD j 0::l.eraseIdx j).Perm l
 | a::l,0,_=>Dy _
 | a::l,j+1,h=>(List.Perm.swap a (l.getD j 0) (l.eraseIdx j)).trans ((aE l j (by simpa using h)).cons a)
def qP{α:Type}[BEq α][LawfulBEq α]:∀(l m:List α),l.Nodup->(∀x∈l,x∈m)->m.length<=l.length->l.Perm m
 | [],m,_,_,h=>by
  have:m=[]:=List.eq_nil_of_length_eq_zero (by simpa using h)
  subst this
  exact Dy _
 | x::l,m,nd,sub,h=>by
  have mx:=sub x (Ae ..)
  have nd':=Bh.mp nd
  have le:(m.erase x).length=m.length-1:=List.length_erase_of_mem mx
  have ih:=qP l (m.erase x) nd'.2 (fun y hy=>(List.mem_erase_of_ne (fun e=>nd'.1 (by rw[<-e];exact hy))).mpr (sub y (Ad _ hy))) (by rw[le];simp at h;rfl')
  exact (ih.cons x).trans (List.perm_cons_erase mx).symm
def aH{v:Int}:∀(p q:Nat) (A B:List Int),v∉A->v∉B->p<=A.length->q<=B.length->insAt A p v=insAt B q v->p=q/\A=B
 | 0,0,A,B,_,_,_,_,e=>⟨rfl,by simpa [insAt] using e⟩
 | 0,q+1,A,[],_,_,_,h,_=>by simp at h
 | 0,q+1,A,b::B,_,hb,_,_,e=>by
  simp only[insAt,List.take_zero,CW,BW,Dt,Du,Dg] at e
  exact absurd (Ae ..) (by rw[<-(List.cons.inj e).1] at hb;exact hb)
 | p+1,_,[],B,_,_,h,_,_=>by simp at h
 | p+1,0,a::A,B,ha,_,_,_,e=>by
  simp only[insAt,List.take_zero,CW,BW,Dt,Du,Dg] at e
  exact absurd (Ae ..) (by rw[(List.cons.inj e).1] at ha;exact ha)
 | p+1,q+1,a::A,[],_,_,_,h,_=>by simp at h
 | p+1,q+1,a::A,b::B,ha,hb,h,h',e=>by
  simp only[insAt,Dt,Du,Dg] at e
  obtain⟨e1,e2⟩:=List.cons.inj e
  obtain⟨i1,i2⟩:=aH p q A B (fun z=>ha (Ad _ z)) (fun z=>hb (Ad _ z)) (by simpa using h) (by simpa using h') e2
  exact⟨by rfl',by rw[e1,i2]⟩
def zB9(c:Nat):∀k,(lawOrd (c:Int) k).2=((c / fc k:Nat):Int)
 | 0=>by simp[lawOrd,fc]
 | k+1=>by
  rw[lawOrd,zB9 c k,fc,show ((k:Int)+1)=((k+1:Nat):Int) by rfl',CF,<-Nat.div_div_eq_div_mul]
  rfl
def yQ4(c d:Nat):∀k,(lawOrd (c:Int) k).1=(lawOrd (d:Int) k).1->c%fc k=d%fc k
 | 0,_=>by rw[fc,Nat.mod_one,Nat.mod_one]
 | k+1,e=>by
  have nk:∀c:Int,(k:Int)∉(lawOrd c k).1:=fun c h=>by
   have:=zA9.mp ((fP c k).mem_iff.mp h)
   rfl'
  have le:∀c:Nat,((lawOrd (c:Int) k).2%((k:Int)+1)).toNat=c / fc k%(k+1):=fun c=>by
   rw[zB9,show ((k:Int)+1)=((k+1:Nat):Int) by rfl']
   rfl
  have ln:∀c:Int,(lawOrd c k).1.length=k:=fun c=>(qO c k).len
  rw[lawOrd,lawOrd] at e
  simp only at e
  rw[le,le] at e
  have a1:=Nat.mod_lt (c / fc k) (show k+1 > 0 by rfl')
  have a2:=Nat.mod_lt (d / fc k) (show k+1 > 0 by rfl')
  obtain⟨p,q⟩:=aH _ _ _ _ (nk c) (nk d) (by rw[ln];rfl') (by rw[ln];rfl') e
  have ih:=yQ4 c d k q
  rw[fc,CF,Nat.mod_mul,Nat.mod_mul,ih,p]
def zG6{n:Nat}{xs:List Int}(o:Ord n xs):∀i,i<=n->xs.take i∈ordsI n i
 | 0,_=>by simp[ordsI]
 | i+1,h=>by
  have ih:=zG6 o i (by rfl')
  have hl:=o.len
  have hi:i<xs.length:=by rfl'
  have e:xs.take (i+1)=xs.take i ++ [((nxt xs i:Nat):Int)]:=by
   rw[CD,Ab hi,<-o.xS (by rfl')]
   simp[List.getD,hi]
  rw[ordsI,stepI,BG]
  refine⟨_,ih,Ay.mpr ⟨nxt xs i,Bk.mpr ⟨Al.mpr (o.xX (by rfl')),?_⟩,e.symm⟩⟩
  rw[CY,<-Cb,AE]
  intro z
  obtain⟨j,hj,ej⟩:=List.mem_iff_getElem.mp z
  rw[BE] at hj
  rw[List.getElem_take] at ej
  have:xs.getD j 0=xs.getD i 0:=by
   rw[o.xS (show i<n by rfl'),<-ej]
   simp[List.getD,show j<xs.length by rfl']
  have:=o.inj j i (by rfl') (by rfl') this
  rfl'
def zX3{n:Nat}{xs:List Int}(o:Ord n xs):xs∈ordsI n n:=by
 have:=zG6 o n (Ak n)
 rwa [BM (by rw[o.len];exact Ak n)] at this
def yP3{n:Nat}(h1:1<=n)(h2:n<7){xs:List Int}(o:Ord n xs):((List.range (fc n)).map fun (i:Nat)=>cmpO n (lawOrd (i:Int) n).1 xs).Perm (ordsI n n):=by
 have L:=xO2 n h2 h1
 rw[yK7] at L
 refine qP _ _ ?_ (fun y hy => ?_) (by rw[Aa,Aj];rfl')
 ·unfold List.Nodup
  rw[BV]
  refine BT ?_ (Cq (n:=fc n))
  intro i j hi hj lt e
  have oi:=qO (i:Int) n
  have oj:=qO (j:Int) n
  have q:(lawOrd (i:Int) n).1=(lawOrd (j:Int) n).1:=Ord.ext oi oj fun b hb=>by
   have:=Bw (fun l=>nxt l b) e
   simp only[yA3 hb] at this
   exact o.qI (oi.xX hb) (oj.xX hb) this
  have m:=yQ4 i j n q
  rw[Nat.mod_eq_of_lt (Al.mp hi),Nat.mod_eq_of_lt (Al.mp hj)] at m
  rfl'
 ·obtain⟨i,_,rfl⟩:=Ay.mp hy
  exact zX3 (xS6 (qO _ n) o)
def allO:Nat->List (List Int)
 | 0=>[[]]
 | k+1=>(allO k).flatMap fun r=>(List.range (r.length+1)).map fun j=>insAt r j (k:Int)
def fac:Nat->Nat
 | 0=>1
 | k+1=>(k+1)*fac k
def bG:∀n,∀xs∈allO n,xs.Perm (rg n)
 | 0,xs,h=>by
  have:xs=[]:=by simpa [allO] using h
  rw[this]
  exact List.Perm.nil
 | k+1,xs,h=>by
  rw[allO] at h
  obtain⟨r,hr,h⟩:=BG.mp h
  obtain⟨j,_,rfl⟩:=Ay.mp h
  have p:=bG k r hr
  refine (zT2 r j (k:Int)).trans ((p.cons _).trans ?_)
  have e:rg (k+1)=rg k ++ [(k:Int)]:=by
   unfold rg
   rw[By,Az]
   rfl
  rw[e]
  exact (List.perm_append_singleton _ _).symm
def zM1{n:Nat}{xs:List Int}(h:xs∈allO n):Ord n xs:=jM (bG n xs h)
def zM5(c:Nat):∀l:List Nat,(∀x∈l,x=c)->l.sum=l.length*c
 | [],_=>by simp
 | x::l,h=>by
  rw[List.sum_cons,zM5 c l fun y hy=>h y (Ad _ hy),h x (Ae ..),Av,Nat.add_mul,Nat.one_mul,Nat.add_comm]
def zP1:∀n,(allO n).length=fac n
 | 0=>rfl
 | k+1=>by
  rw[allO,List.length_flatMap,zM5 (k+1),Aa,zP1 k,fac,CF]
  intro x hx
  obtain⟨r,hr,rfl⟩:=Ay.mp hx
  rw[Aa,Aj,(zM1 hr).len]
def bP:∀n,(allO n).Nodup
 | 0=>by simp[allO]
 | k+1=>by
  have no:∀r∈allO k,(k:Int)∉r:=fun r hr h=>by
   have:=(bG k r hr).mem_iff.mp h
   unfold rg at this
   obtain⟨i,hi,e⟩:=Ay.mp this
   have:=Al.mp hi
   rfl'
  rw[allO]
  refine List.pairwise_flatMap.mpr ⟨fun r hr => ?_,?_⟩
  ·refine BV.mpr (BT (fun {i j} hi hj h e=>h ?_) BL)
   have:=Al.mp hi
   have:=Al.mp hj
   exact (aH i j r r (no r hr) (no r hr) (by rfl') (by rfl') e).1
  ·refine BT (fun {r s} hr hs h => ?_) (bP k)
   intro x hx y hy exy
   subst exy
   obtain⟨i,hi,e1⟩:=Ay.mp hx
   obtain⟨j,hj,e2⟩:=Ay.mp hy
   have:=Al.mp hi
   have:=Al.mp hj
   exact h (aH i j r s (no r hr) (no s hs) (by rfl') (by rfl') (e1.trans e2.symm)).2
structure AllOrd(n:Nat)(L:List (List Int)):Prop where
 nd:L.Nodup
 mem:∀xs,xs∈L↔Ord n xs
 len:L.length=fac n
def yR6{n:Nat}(h1:1<=n)(h2:n<7):AllOrd n (allO n):=by
 have fcf:∀k,fc k=fac k:=fun k=>by
  induction k with
  | zero=>rfl
  | succ k ih=>rw[fac,fc,ih,CF]
 have le:(ordsI n n).length=fac n:=by
  have:=(yP3 h1 h2 (qO 0 n)).length_eq
  rw[Aa,Aj,fcf] at this
  exact this.symm
 have p:=qP (allO n) (ordsI n n) (bP n) (fun x hx=>zX3 (zM1 hx)) (by rw[zP1,le];exact Ak _)
 exact⟨bP n,fun xs=>⟨zM1,fun o=>p.mem_iff.mpr (zX3 o)⟩,zP1 n⟩
def xW3{n:Nat}{ms:List Nat}(nd:ms.Nodup)(h:∀m∈ms,m<n):((List.range n).filter fun m=>!ms.contains m).length+ms.length=n:=by
 have p:(((List.range n).filter fun m=>!ms.contains m)++ms).Perm (List.range n):=by
  refine (BN (Cw.mpr ⟨BL.sublist List.filter_sublist,nd,fun x hx y hy e => ?_⟩) BL).mpr fun x => ?_
  ·have:=(Bk.mp hx).2
   rw[e] at this
   simp at this
   exact this hy
  ·rw[AM,Bk,Al]
   constructor
   ·rintro (z | z)
    ·exact z.1
    ·exact h x z
   ·intro hx
    by_cases z:x∈ms
    ·exact .inr z
    ·exact .inl ⟨hx,by simpa using z⟩
 have:=p.length_eq
 rw[Ao,Aj] at this
 exact this
section
variable {τ:Type}(bx:τ->Option Nat) (nx:τ->Nat->τ) (n:Nat)
inductive Tk:Nat->τ->Prop
 | leaf {l:Nat}{t:τ}:bx t=none->Tk l t
 | node {l b:Nat}{t:τ}:bx t=some b->b<n->(∀x,x<n->Tk l (nx t x))->Tk (l+1) t
abbrev Rv:=Nat×Nat×Nat
variable (g:Nat->Nat->Nat)
inductive Tn(p:Nat):Nat->τ->Nat->List (Option Nat)->List Rv->List (Option Nat)->Prop
 | done {t:τ}{l:Nat}{seen:List (Option Nat)}:some p∈seen->Tn p 0 t l seen [] seen
 | leafN {k:Nat}{t:τ}{l b:Nat}{seen out:List (Option Nat)}{rs:List Rv}:some p∉seen->bx t=none->seen[b]?=some none->(∀i,i<b->seen[i]?≠some none)->Tn p k t (g b l) (seen.set b (some (g b l))) rs out->Tn p (k+1) t l seen ((b,l,g b l)::rs) out
 | nodeN {k:Nat}{t:τ}{l b:Nat}{seen out:List (Option Nat)}{rs:List Rv}:some p∉seen->bx t=some b->seen[b]?=some none->Tn p k (nx t (g b l)) (g b l) (seen.set b (some (g b l))) rs out->Tn p (k+1) t l seen ((b,l,g b l)::rs) out
 | nodeO {k:Nat}{t:τ}{l b x:Nat}{seen out:List (Option Nat)}{rs:List Rv}:some p∉seen->bx t=some b->seen[b]?=some (some x)->Tn p k (nx t x) l seen rs out->Tn p (k+1) t l seen rs out
variable {bx nx n g}
def Tn.agree{g':Nat->Nat->Nat}{p k:Nat}{t:τ}{l:Nat}{seen out:List (Option Nat)}{rs:List Rv}(h:Tn bx nx g p k t l seen rs out)(e:∀r∈rs,g' r.1 r.2.1=r.2.2):Tn bx nx g' p k t l seen rs out:=by
 induction h with
 | done h=>exact .done h
 | leafN h1 h2 h3 h4 _ ih =>
  have e0:=e _ Ae
  simp only at e0
  have:=ih fun r hr=>e r (Ad _ hr)
  rw[<-e0] at this ⊢
  exact .leafN h1 h2 h3 h4 this
 | nodeN h1 h2 h3 _ ih =>
  have e0:=e _ Ae
  simp only at e0
  have:=ih fun r hr=>e r (Ad _ hr)
  rw[<-e0] at this ⊢
  exact .nodeN h1 h2 h3 this
 | nodeO h1 h2 h3 _ ih=>exact .nodeO h1 h2 h3 (ih e)
def Tn.det{p k k':Nat}{t:τ}{l:Nat}{seen out out':List (Option Nat)}{rs rs':List Rv}(h:Tn bx nx g p k t l seen rs out)(h':Tn bx nx g p k' t l seen rs' out'):rs=rs'/\out=out':=by
 induction h generalizing k' rs' out' with
 | done h =>
  cases h' with
  | done _=>exact⟨rfl,rfl⟩
  | leafN h1=>exact absurd h h1
  | nodeN h1=>exact absurd h h1
  | nodeO h1=>exact absurd h h1
 | @leafN k t l b seen out rs h1 h2 h3 h4 _ ih =>
  cases h' with
  | done h=>exact absurd h h1
  | @leafN _ _ _ b' _ _ _ _ _ g3 g4 q =>
   have:b=b':=by
    rcases CZ b b' with z | z | z
    ·exact absurd h3 (g4 b z)
    ·exact z
    ·exact absurd g3 (h4 b' z)
   subst this
   obtain⟨e1,e2⟩:=ih q
   exact⟨by rw[e1],e2⟩
  | nodeN _ g2=>rw[h2] at g2;cases g2
  | nodeO _ g2=>rw[h2] at g2;cases g2
 | @nodeN k t l b seen out rs h1 h2 h3 _ ih =>
  cases h' with
  | done h=>exact absurd h h1
  | leafN _ g2=>rw[h2] at g2;cases g2
  | nodeN _ g2 _ q =>
   rw[h2] at g2;cases g2
   obtain⟨e1,e2⟩:=ih q
   exact⟨by rw[e1],e2⟩
  | nodeO _ g2 g3=>rw[h2] at g2;cases g2;rw[h3] at g3;cases g3
 | @nodeO k t l b x seen out rs h1 h2 h3 _ ih =>
  cases h' with
  | done h=>exact absurd h h1
  | leafN _ g2=>rw[h2] at g2;cases g2
  | nodeN _ g2 g3=>rw[h2] at g2;cases g2;rw[h3] at g3;cases g3
  | nodeO _ g2 g3 q =>
   rw[h2] at g2;cases g2
   rw[h3] at g3;cases g3
   exact ih q
variable (n)
structure Sd(seen:List (Option Nat))(used:List Nat):Prop where
 len:seen.length=n
 inj:∀(i j x:Nat),seen[i]?=some (some x)->seen[j]?=some (some x)->i=j
 lt:∀(i x:Nat),seen[i]?=some (some x)->x<n
 und:used.Nodup
 rel:∀y,y∈used↔some y∈seen
structure Md(p l:Nat)(seen:List (Option Nat))(used:List Nat):Prop where
 len:seen.length=n
 inj:∀(i j x:Nat),seen[i]?=some (some x)->seen[j]?=some (some x)->i=j
 lt:∀(i x:Nat),seen[i]?=some (some x)->x<n
 und:used.Nodup
 pn:p<n
 np:some p∉seen
 nl:l∉used
 rel:∀y,(y∈used\/y=l)↔(some y∈seen\/y=p)
variable {n}
def Md.ll{p l:Nat}{seen:List (Option Nat)}{used:List Nat}(M:Md n p l seen used):l<n:=by
 rcases (M.rel l).mp (.inr rfl) with h | h
 ·obtain⟨i,hi,e⟩:=Bx h
  exact M.lt i l (by rw[Ab hi,e])
 ·rw[h];exact M.pn
def Md.ult{p l:Nat}{seen:List (Option Nat)}{used:List Nat}(M:Md n p l seen used):∀u∈used,u<n:=fun u hu=>by
 rcases (M.rel u).mp (.inl hu) with h | h
 ·obtain⟨i,hi,e⟩:=Bx h
  exact M.lt i u (by rw[Ab hi,e])
 ·rw[h];exact M.pn
def Md.few{p l:Nat}{seen:List (Option Nat)}{used:List Nat}(M:Md n p l seen used):used.length<n:=by
 have:=xW3 (n:=n) (ms:=l::used) (Bh.mpr ⟨M.nl,M.und⟩) (fun m hm=>by
  rcases An.mp hm with rfl | hm
  ·exact M.ll
  ·exact M.ult m hm)
 rw[Av] at this
 rfl'
def zC{seen:List (Option Nat)}{b i:Nat}{x:Nat}(hb:b<seen.length):(seen.set b (some x))[i]?=if i=b then some (some x) else seen[i]?:=by
 rw[List.getElem?_set]
 by_cases e:b=i
 ·subst e;rw[Aq rfl,Aq rfl,Aq hb]
 ·rw[AJ e,AJ (fun z=>e z.symm)]
def zP4{seen:List (Option Nat)}{b x y:Nat}(hb:seen[b]?=some none):some y∈seen.set b (some x)↔(some y∈seen\/y=x):=by
 have hl:b<seen.length:=(Ac.mp hb).1
 constructor
 ·intro h
  obtain⟨i,hi,e⟩:=Bx h
  have e2:(seen.set b (some x))[i]?=some (some y):=by rw[Ab hi,e]
  rw[zC hl] at e2
  split at e2
  ·cases e2;exact .inr rfl
  ·exact .inl (As e2)
 ·intro h
  rcases h with h | h
  ·obtain⟨i,hi,e⟩:=Bx h
   have e1:seen[i]?=some (some y):=by rw[Ab hi,e]
   refine As (i:=i) ?_
   rw[zC hl,AJ (fun z=>by rw[z,hb] at e1;cases e1)]
   exact e1
  ·refine As (i:=b) ?_
   rw[zC hl,Aq rfl,h]
def yT8{seen:List (Option Nat)}{b x:Nat}(hb:seen[b]?=some none)(inj:∀(i j x:Nat),seen[i]?=some (some x)->seen[j]?=some (some x)->i=j)(nx:some x∉seen):∀(i j y:Nat),(seen.set b (some x))[i]?=some (some y)->(seen.set b (some x))[j]?=some (some y)->i=j:=fun i j y h1 h2=>by
 have hl:b<seen.length:=(Ac.mp hb).1
 rw[zC hl] at h1 h2
 split at h1 <;> split at h2
 ·rfl'
 ·cases h1;exact absurd (As h2) nx
 ·cases h2;exact absurd (As h1) nx
 ·exact inj i j y h1 h2
def hR{seen:List (Option Nat)}{b x:Nat}(hb:seen[b]?=some none)(lt:∀(i x:Nat),seen[i]?=some (some x)->x<n)(hx:x<n):∀(i y:Nat),(seen.set b (some x))[i]?=some (some y)->y<n:=fun i y h=>by
 have hl:b<seen.length:=(Ac.mp hb).1
 rw[zC hl] at h
 split at h
 ·cases h;exact hx
 ·exact lt i y h
def Md.on{p l b x:Nat}{seen:List (Option Nat)}{used:List Nat}(M:Md n p l seen used)(hb:seen[b]?=some none)(hx:x<n)(nx:some x∉seen)(xp:x≠p):Md n p x (seen.set b (some x)) (l::used) where
 len:=by rw[Bt];exact M.len
 inj:=yT8 hb M.inj nx
 lt:=hR hb M.lt hx
 und:=Bh.mpr ⟨M.nl,M.und⟩
 pn:=M.pn
 np:=fun h=>((zP4 hb).mp h).elim M.np fun e=>xp e.symm
 nl:=fun h=>by
  have:x∈used\/x=l:=(An.mp h).symm
  exact ((M.rel x).mp this).elim nx xp
 rel:=fun y=>by
  rw[An,zP4 hb]
  have:=M.rel y
  constructor
  ·rintro ((h | h) | h)
   ·exact ((this.mp (.inr h)).elim (fun z=>.inl (.inl z)) .inr)
   ·exact ((this.mp (.inl h)).elim (fun z=>.inl (.inl z)) .inr)
   ·exact .inl (.inr h)
  ·rintro ((h | h) | h)
   ·exact .inl ((this.mpr (.inl h)).elim .inr .inl)
   ·exact .inr h
   ·exact .inl ((this.mpr (.inr h)).elim .inr .inl)
def Md.end'{p l b:Nat}{seen:List (Option Nat)}{used:List Nat}(M:Md n p l seen used)(hb:seen[b]?=some none):Sd n (seen.set b (some p)) (l::used) where
 len:=by rw[Bt];exact M.len
 inj:=yT8 hb M.inj M.np
 lt:=hR hb M.lt M.pn
 und:=Bh.mpr ⟨M.nl,M.und⟩
 rel:=fun y=>by
  rw[An,zP4 hb]
  have:=M.rel y
  exact⟨fun h=>this.mp h.symm,fun h=>(this.mpr h).symm⟩
def Sd.md{p:Nat}{seen:List (Option Nat)}{used:List Nat}(S:Sd n seen used)(hp:p<n)(np:some p∉seen):Md n p p seen used :=
 ⟨S.len,S.inj,S.lt,S.und,hp,np,fun h=>np ((S.rel p).mp h),fun y=>by rw[S.rel y]⟩
def Md.closed{p l:Nat}{seen:List (Option Nat)}{used:List Nat}(M:Md n p l seen used):∃b:Nat,seen[b]?=some none/\∀i:Nat,i<b->seen[i]?≠some none:=by
 have:∃b:Nat,seen[b]?=some none:=by
  by_cases h:∃b:Nat,seen[b]?=some none
  ·exact h
  ·exfalso
   have all:∀i:Nat,i<n->∃x,seen[i]?=some (some x):=fun i hi=>by
    have hi':i<seen.length:=by rw[M.len];exact hi
    cases e:seen[i] with
    | none=>exact absurd ⟨i,by rw[Ab hi',e]⟩ h
    | some x=>exact⟨x,by rw[Ab hi',e]⟩
   have key:∀i:Nat,i<n->seen[i]?=some (some (((seen[i]?).join).getD 0)):=fun i hi=>by
    obtain⟨x,e⟩:=all i hi
    rw[e]
    rfl
   obtain⟨i,hi,e⟩:=MR.onto (n:=n) (f:=fun i:Nat=>((seen[i]?).join).getD 0) (fun i hi=>M.lt i _ (key i hi)) (fun i j hi hj e=>M.inj i j _ (key i hi) (by rw[key j hj];rw[show ((seen[i]?).join).getD 0=((seen[j]?).join).getD 0 from e])) M.pn
   have:=key i hi
   rw[show ((seen[i]?).join).getD 0=p from e] at this
   exact M.np (As this)
 obtain⟨m,h1,h2⟩:=xE8 n this
 exact⟨m,h1,fun i hi z=>by have:=h2 i z;rfl'⟩
inductive Chn(p:Nat):Nat->List Rv->Prop
 | last {b l:Nat}:Chn p l [(b,l,p)]
 | cons {b l x:Nat}{rs:List Rv}:x≠p->Chn p x rs->Chn p l ((b,l,x)::rs)
abbrev las(rs:List Rv):List Nat:=rs.map fun r=>r.2.1
structure Lv(seen out:List (Option Nat))(rs:List Rv):Prop where
 keep:∀(i x:Nat),seen[i]?=some (some x)->out[i]?=some (some x)
 shown:∀r∈rs,out[r.1]?=some (some r.2.2)
 val:∀r∈rs,g r.1 r.2.1=r.2.2
variable (n)
def Or(J:List (Option Nat)->List Nat->Prop)(g:Nat->Nat->Nat):Prop:=∀(seen:List (Option Nat)) (used:List Nat) (b l:Nat),J seen used->seen.length=n->seen[b]?=some none->l<n->l∉used->g b l<n/\some (g b l)∉seen/\J (seen.set b (some (g b l))) (l::used)
variable {n}
def cB{J:List (Option Nat)->List Nat->Prop}(hJ:Or n J g):∀(m d:Nat){p l:Nat}{t:τ}{seen:List (Option Nat)}{used:List Nat},d+(n-used.length)<=m->Md n p l seen used->J seen used->Tk bx nx n d t ->
  ∃k rs out,Tn bx nx g p k t l seen rs out/\k<=m/\Sd n out ((las rs).reverse++used)/\J out ((las rs).reverse++used)/\Chn p l rs/\Lv (g:=g) seen out rs/\some p∈out
 | 0,d,p,l,t,seen,used,hm,M,j,T=>by have:=M.few;rfl'
 | m+1,d,p,l,t,seen,used,hm,M,j,T=>by
  have fw:=M.few
  have step:∀(b:Nat) (t':τ) (d':Nat),seen[b]?=some none->d'<=d->Tk bx nx n d' t'->∃k rs out,Tn bx nx g p k t' (g b l) (seen.set b (some (g b l))) rs out/\k<=m/\Sd n out ((las ((b,l,g b l)::rs)).reverse++used)/\J out ((las ((b,l,g b l)::rs)).reverse++used)/\Chn p l ((b,l,g b l)::rs)/\Lv (g:=g) seen out ((b,l,g b l)::rs)/\some p∈out:=fun b t' d' hb hd T'=>by
   obtain⟨x1,x2,x3⟩:=hJ seen used b l j M.len hb M.ll M.nl
   have hl:b<seen.length:=(Ac.mp hb).1
   have kp:∀(i x:Nat),seen[i]?=some (some x)->(seen.set b (some (g b l)))[i]?=some (some x):=fun i x e=>by
    rw[zC hl,AJ (fun z=>by rw[z,hb] at e;cases e)]
    exact e
   have here:(seen.set b (some (g b l)))[b]?=some (some (g b l)):=by rw[zC hl,Aq rfl]
   by_cases xp:g b l=p
   ·have S:=M.end' hb
    rw[<-xp] at S
    refine⟨0,[],_,.done ?_,AQ _,S,x3,?_,⟨kp,?_,?_⟩,?_⟩
    ·exact As (i:=b) (by rw[here,xp])
    ·rw[xp];exact .last
    ·intro r hr
     rw[Cf.mp hr]
     exact here
    ·intro r hr
     rw[Cf.mp hr]
    ·exact As (i:=b) (by rw[here,xp])
   ·have M':=M.on hb x1 x2 xp
    obtain⟨k,rs,out,h1,h2,h3,h4,h5,h6,h7⟩:=cB hJ m d' (p:=p) (l:=g b l) (t:=t') (seen:=seen.set b (some (g b l))) (used:=l::used) (by rw[Av];rfl') M' x3 T'
    have eu:(las ((b,l,g b l)::rs)).reverse++used=(las rs).reverse++l::used:=by simp[las]
    refine⟨k,rs,out,h1,h2,by rw[eu];exact h3,by rw[eu];exact h4,.cons xp h5,⟨fun i x e=>h6.keep i x (kp i x e),fun r hr => ?_,fun r hr => ?_⟩,h7⟩
    ·rcases An.mp hr with rfl | hr
     ·exact h6.keep b _ here
     ·exact h6.shown r hr
    ·rcases An.mp hr with rfl | hr
     ·rfl
     ·exact h6.val r hr
  cases T with
  | leaf h =>
   obtain⟨b,hb,hf⟩:=M.closed
   obtain⟨k,rs,out,h1,h2,r⟩:=step b t 0 hb (AQ _) (.leaf h)
   exact⟨k+1,_,out,.leafN M.np h hb hf h1,by rfl',r⟩
  | @node d b _ hbx hbn T' =>
   cases e:seen[b]? with
   | none=>rw[Ab (by rw[M.len];exact hbn)] at e;cases e
   | some z =>
    cases z with
    | none =>
     obtain⟨x1,_,_⟩:=hJ seen used b l j M.len e M.ll M.nl
     obtain⟨k,rs,out,h1,h2,r⟩:=step b (nx t (g b l)) d e (by rfl') (T' _ x1)
     exact⟨k+1,_,out,.nodeN M.np hbx e h1,by rfl',r⟩
    | some x =>
     obtain⟨k,rs,out,h1,h2,r⟩:=cB hJ m d (p:=p) (l:=l) (t:=nx t x) (seen:=seen) (used:=used) (by rfl') M j (T' x (M.lt b x e))
     exact⟨k+1,rs,out,.nodeO M.np hbx e h1,by rfl',r⟩
inductive Gm(bx:τ->Option Nat)(nx:τ->Nat->τ)(g:Nat->Nat->Nat)(T:Nat->τ):List Nat->List (Option Nat)->List (Nat×List Rv)->List (Option Nat)->Prop
 | nil {seen:List (Option Nat)}:Gm bx nx g T [] seen [] seen
 | skip {p:Nat}{ps:List Nat}{seen fin:List (Option Nat)}{out:List (Nat×List Rv)}:some p∈seen->Gm bx nx g T ps seen out fin->Gm bx nx g T (p::ps) seen out fin
 | play {p k:Nat}{ps:List Nat}{seen mid fin:List (Option Nat)}{rs:List Rv}{out:List (Nat×List Rv)}:some p∉seen->Tn bx nx g p k (T p) p seen rs mid->Gm bx nx g T ps mid out fin->Gm bx nx g T (p::ps) seen ((p,rs)::out) fin
abbrev allR(out:List (Nat×List Rv)):List Rv:=out.flatMap fun z=>z.2
def Gm.agree{T:Nat->τ}{g':Nat->Nat->Nat}{ps:List Nat}{seen fin:List (Option Nat)}{out:List (Nat×List Rv)}(h:Gm bx nx g T ps seen out fin)(e:∀r∈allR out,g' r.1 r.2.1=r.2.2):Gm bx nx g' T ps seen out fin:=by
 induction h with
 | nil=>exact .nil
 | skip h _ ih=>exact .skip h (ih e)
 | play h t _ ih =>
  refine .play h (t.agree fun r hr=>e r ?_) (ih fun r hr=>e r ?_)
  ·rw[allR,Cy];exact AS _ hr
  ·rw[allR,Cy];exact Ag _ hr
def Gm.det{T:Nat->τ}{ps:List Nat}{seen fin fin':List (Option Nat)}{out out':List (Nat×List Rv)}(h:Gm bx nx g T ps seen out fin)(h':Gm bx nx g T ps seen out' fin'):out=out'/\fin=fin':=by
 induction h generalizing out' fin' with
 | nil=>cases h';exact⟨rfl,rfl⟩
 | skip h _ ih =>
  cases h' with
  | skip _ q=>exact ih q
  | play n=>exact absurd h n
 | play n t _ ih =>
  cases h' with
  | skip h=>exact absurd h n
  | play _ t' q =>
   obtain⟨e1,e2⟩:=t.det t'
   subst e1 e2
   obtain⟨e3,e4⟩:=ih q
   exact⟨by rw[e3],e4⟩
structure Gv(seen fin:List (Option Nat))(out:List (Nat×List Rv)):Prop where
 keep:∀(i x:Nat),seen[i]?=some (some x)->fin[i]?=some (some x)
 shown:∀r∈allR out,fin[r.1]?=some (some r.2.2)
 val:∀r∈allR out,g r.1 r.2.1=r.2.2
 chn:∀z∈out,Chn z.1 z.1 z.2
def bL{J:List (Option Nat)->List Nat->Prop}(hJ:Or n J g){T:Nat->τ}{R:Nat->Nat->Prop}(hT:∀p,p<n->∃d,d<=n/\Tk bx nx n d (T p))(rr:∀p,R p p):∀(ps:List Nat){seen:List (Option Nat)}{used:List Nat},(∀p∈ps,p<n)->ps.Pairwise R->Sd n seen used->J seen used->(∀y,y<n->some y∈seen\/y∈ps) ->
  ∃out fin,Gm bx nx g T ps seen out fin/\Sd n fin ((las (allR out)).reverse++used)/\J fin ((las (allR out)).reverse++used)/\Gv (g:=g) seen fin out/\(∀z∈out,z.1<n/\∀r∈z.2,R z.1 r.2.1)/\∀y,y<n->some y∈fin
 | [],seen,used,hp,pw,S,j,al=>⟨[],seen,.nil,S,j,⟨fun _ _ e=>e,fun r hr=>(nomatch hr),fun r hr=>(nomatch hr),fun z hz=>(nomatch hz)⟩,fun z hz=>(nomatch hz),fun y hy=>(al y hy).elim id fun h=>(nomatch h)⟩
 | p::ps,seen,used,hp,pw,S,j,al=>by
  obtain⟨pw1,pw2⟩:=Cp.mp pw
  have hpn:=hp p Ae
  by_cases h:some p∈seen
  ·obtain⟨out,fin,h1,h2,h3,h4,h5,h6⟩:=bL hJ hT rr ps (fun q hq=>hp q (Ad _ hq)) pw2 S j fun y hy=>(al y hy).elim .inl fun z=>by
    rcases An.mp z with rfl | z
    ·exact .inl h
    ·exact .inr z
   exact⟨out,fin,.skip h h1,h2,h3,h4,h5,h6⟩
  ·obtain⟨d,hd,Tp⟩:=hT p hpn
   obtain⟨k,rs,mid,t1,t2,t3,t4,t5,t6,t7⟩:=cB hJ (d+n) d (p:=p) (l:=p) (t:=T p) (seen:=seen) (used:=used) (by rfl') (S.md hpn h) j Tp
   obtain⟨out,fin,h1,h2,h3,h4,h5,h6⟩:=bL hJ hT rr ps (fun q hq=>hp q (Ad _ hq)) pw2 t3 t4 fun y hy=>(al y hy).elim (fun z=>by
    obtain⟨i,hi,e⟩:=Bx z
    exact .inl (As (t6.keep i y (by rw[Ab hi,e])))) fun z=>by
    rcases An.mp z with rfl | z
    ·exact .inl t7
    ·exact .inr z
   have ea:allR ((p,rs)::out)=rs++allR out:=by rw[allR,Cy]
   have eu:(las (allR ((p,rs)::out))).reverse++used=(las (allR out)).reverse++((las rs).reverse++used):=by rw[ea,las,Az,List.reverse_append,Bd]
   refine⟨(p,rs)::out,fin,.play h t1 h1,by rw[eu];exact h2,by rw[eu];exact h3,⟨fun i x e=>h4.keep i x (t6.keep i x e),fun r hr => ?_,fun r hr => ?_,fun z hz => ?_⟩,fun z hz => ?_,h6⟩
   ·rw[ea] at hr
    rcases AM.mp hr with hr | hr
    ·exact h4.keep _ _ (t6.shown r hr)
    ·exact h4.shown r hr
   ·rw[ea] at hr
    rcases AM.mp hr with hr | hr
    ·exact t6.val r hr
    ·exact h4.val r hr
   ·rcases An.mp hz with rfl | hz
    ·exact t5
    ·exact h4.chn z hz
   ·rcases An.mp hz with rfl | hz
    ·refine⟨hpn,fun r hr => ?_⟩
     have un:r.2.1∉used:=fun z=>by
      have:=t3.und
      rw[Cw] at this
      exact this.2.2 r.2.1 (Dh.mpr (Ay.mpr ⟨r,hr,rfl⟩)) r.2.1 z rfl
     have ns:some r.2.1∉seen:=fun z=>un ((S.rel _).mpr z)
     have lt:r.2.1<n:=by
      have m:r.2.1∈(las rs).reverse++used:=AS _ (Dh.mpr (Ay.mpr ⟨r,hr,rfl⟩))
      obtain⟨i,hi,e⟩:=Bx ((t3.rel _).mp m)
      exact t3.lt i _ (by rw[Ab hi,e])
     rcases (al _ lt).resolve_left ns |> An.mp with e | e
     ·show R p r.2.1
      rw[e];exact rr p
     ·exact pw1 _ e
    ·exact h5 z hz
end
def xT9(n:Nat):Sd n (List.replicate n none) [] where
 len:=Bj
 inj:=fun i j x h=>by rw[Bi] at h;split at h <;> cases h
 lt:=fun i x h=>by rw[Bi] at h;split at h <;> cases h
 und:=List.nodup_nil
 rel:=fun y=>⟨fun h=>(nomatch h),fun h=>by have:=List.eq_of_mem_replicate h;cases this⟩
def xY9{n:Nat}{xs:List Int}(o:Ord n xs):Or n (fun seen _=>∀(i x:Nat),seen[i]?=some (some x)->nxt xs i=x) fun b _=>nxt xs b:=fun seen used b l j hl hb _ _=>by
 have hbn:b<n:=by rw[<-hl];exact (Ac.mp hb).1
 refine⟨o.xX hbn,fun h => ?_,fun i x e => ?_⟩
 ·obtain⟨i,hi,e⟩:=Bx h
  have e':seen[i]?=some (some (nxt xs b)):=by rw[Ab hi,e]
  have:=o.qI (by rw[<-hl];exact hi) hbn (j i _ e')
  rw[this,hb] at e'
  cases e'
 ·rw[zC (by rw[hl];exact hbn)] at e
  split at e
  ·rename_i h
   cases e
   rw[h]
  ·exact j i x e
def zR5{α β:Type}{f:α->β}:∀{L:List α},(L.map f).Nodup->∀{a b:α},a∈L->b∈L->f a=f b->a=b
 | [],_,a,_,ha,_,_=>nomatch ha
 | c::L,h,a,b,ha,hb,e=>by
  obtain⟨h1,h2⟩:=Bh.mp h
  rcases An.mp ha with rfl | ha'
  ·rcases An.mp hb with rfl | hb'
   ·rfl
   ·exact absurd (e▸List.mem_map_of_mem hb') h1
  ·rcases An.mp hb with rfl | hb'
   ·exact absurd (e▸List.mem_map_of_mem ha') h1
   ·exact zR5 h2 ha' hb' e
def nats(f:Nat->Nat)(n:Nat):List Int:=(List.range n).map fun i=>((f i:Nat):Int)
def xW4{f:Nat->Nat}{n i:Nat}(h:i<n):nxt (nats f n) i=f i:=by
 unfold nxt nats
 rw[List.getD,Ai,AH h]
 simp
def xX1{f:Nat->Nat}{n:Nat}(h:∀i,i<n->f i<n)(hi:∀i j,i<n->j<n->f i=f j->i=j):Ord n (nats f n):=by
 have g:∀i,i<n->(nats f n).getD i 0=((f i:Nat):Int):=fun i hi=>by
  unfold nats
  rw[List.getD,Ai,AH hi]
  rfl
 refine⟨by unfold nats;simp,fun i hi' => ?_,fun i j h1 h2 e => ?_⟩
 ·rw[g i hi']
  have:=h i hi'
  rfl'
 ·rw[g i h1,g j h2] at e
  exact hi i j h1 h2 (by rfl')
def full(xs:List Int)(n:Nat):List (Option Nat):=(List.range n).map fun i=>some (nxt xs i)
section
variable {τ:Type}{bx:τ->Option Nat}{nx:τ->Nat->τ}{n:Nat}
structure Wr(bx:τ->Option Nat)(nx:τ->Nat->τ)(n:Nat)(T:Nat->τ)(R:Nat->Nat->Prop)(ps:List Nat)(xs ys:List Int)(out:List (Nat×List Rv)):Prop where
 ord:Ord n xs
 wrt:Ord n ys
 gm:Gm bx nx (fun b _=>nxt xs b) T ps (List.replicate n none) out (full xs n)
 gr:Gm bx nx (fun _ l=>nxt ys l) T ps (List.replicate n none) out (full xs n)
 val:∀r∈allR out,nxt xs r.1=r.2.2/\nxt ys r.2.1=r.2.2/\r.1<n
 chn:∀z∈out,Chn z.1 z.1 z.2/\z.1<n/\∀r∈z.2,R z.1 r.2.1
 all:∀y,y<n->∃z∈out,∃r∈z.2,r.2.1=y
 box:∀b,b<n->∃z∈out,∃r∈z.2,r.1=b
def yA5{xs:List Int}{fin:List (Option Nat)}(hl:fin.length=n)(h:∀i,i<n->fin[i]?=some (some (nxt xs i))):fin=full xs n:=by
 refine List.ext_getElem? fun i => ?_
 unfold full
 by_cases hi:i<n
 ·rw[h i hi,Ai,AH hi]
  rfl
 ·rw[BP (by rfl'),BP (by simp;rfl')]
def Sd.open'{fin:List (Option Nat)}{used:List Nat}(S:Sd n fin used)(h:∀y,y<n->some y∈fin):∀i,i<n->∃x,fin[i]?=some (some x)/\x<n:=by
 have w:∀y,∃i,y<n->(i<n/\fin[i]?=some (some y)):=fun y=>by
  by_cases hy:y<n
  ·obtain⟨i,hi,e⟩:=Bx (h y hy)
   exact⟨i,fun _=>⟨by rw[<-S.len];exact hi,by rw[Ab hi,e]⟩⟩
  ·exact⟨0,fun z=>absurd z hy⟩
 have sp:=fun y hy=>AT (w y) hy
 intro i hi
 obtain⟨y,hy,e⟩:=MR.onto (n:=n) (f:=fun y=>Classical.choose (w y)) (fun y hy=>(sp y hy).1) (fun y z hy hz e=>by
  have a:=(sp y hy).2
  have b:=(sp z hz).2
  have e':Classical.choose (w y)=Classical.choose (w z):=e
  rw[e',b] at a
  have:z=y:=by simpa using a
  exact this.symm) hi
 have e':Classical.choose (w y)=i:=e
 exact⟨y,by rw[<-e'];exact (sp y hy).2,hy⟩
def yV7{out:List (Nat×List Rv)}{y:Nat}(h:y∈las (allR out)):∃z∈out,∃r∈z.2,r.2.1=y:=by
 obtain⟨r,hr,e⟩:=Ay.mp h
 obtain⟨z,hz,hr⟩:=BG.mp hr
 exact⟨z,hz,r,hr,e⟩
def yJ4{g:Nat->Nat->Nat}{T:Nat->τ}{ps:List Nat}{seen fin:List (Option Nat)}{out:List (Nat×List Rv)}(h:Gm bx nx g T ps seen out fin):∀(i x:Nat),fin[i]?=some (some x)->seen[i]?=some (some x)\/∃r∈allR out,r.1=i:=by
 have turn:∀{p k:Nat}{t:τ}{l:Nat}{seen out:List (Option Nat)}{rs:List Rv},Tn bx nx g p k t l seen rs out->∀(i x:Nat),out[i]?=some (some x)->seen[i]?=some (some x)\/∃r∈rs,r.1=i:=by
  intro p k t l seen out rs h
  have st:∀{seen:List (Option Nat)}{b v i x:Nat},seen[b]?=some none->(seen.set b (some v))[i]?=some (some x)->seen[i]?=some (some x)\/b=i:=fun {seen b v i x} hb e=>by
   rw[zC (Ac.mp hb).1] at e
   split at e
   ·rename_i z;exact .inr z.symm
   ·exact .inl e
  induction h with
  | done _=>exact fun i x e=>.inl e
  | leafN _ _ h3 _ _ ih =>
   intro i x e
   rcases ih i x e with q | ⟨r,hr,q⟩
   ·rcases st h3 q with q | q
    ·exact .inl q
    ·exact .inr ⟨_,Ae,q⟩
   ·exact .inr ⟨r,Ad _ hr,q⟩
  | nodeN _ _ h3 _ ih =>
   intro i x e
   rcases ih i x e with q | ⟨r,hr,q⟩
   ·rcases st h3 q with q | q
    ·exact .inl q
    ·exact .inr ⟨_,Ae,q⟩
   ·exact .inr ⟨r,Ad _ hr,q⟩
  | nodeO _ _ _ _ ih=>exact ih
 induction h with
 | nil=>exact fun i x e=>.inl e
 | skip _ _ ih=>exact ih
 | play _ t _ ih =>
  intro i x e
  rcases ih i x e with q | ⟨r,hr,q⟩
  ·rcases turn t i x q with q | ⟨r,hr,q⟩
   ·exact .inl q
   ·exact .inr ⟨r,by rw[allR,Cy];exact AS _ hr,q⟩
  ·exact .inr ⟨r,by rw[allR,Cy];exact Ag _ hr,q⟩
def yP7{T:Nat->τ}{R:Nat->Nat->Prop}{ps:List Nat}{xs:List Int}(o:Ord n xs)(hT:∀p,p<n->∃d,d<=n/\Tk bx nx n d (T p))(rr:∀p,R p p)(hp:∀p∈ps,p<n)(pw:ps.Pairwise R)(al:∀y,y<n->y∈ps):∃ys out,Wr bx nx n T R ps xs ys out:=by
 obtain⟨out,fin,h1,h2,h3,h4,h5,h6⟩:=bL (xY9 o) hT rr ps hp pw (xT9 n) (fun i x h=>by rw[Bi] at h;split at h <;> cases h) fun y hy=>.inr (al y hy)
 rw[Bn] at h2
 have op:=h2.open' h6
 have ef:fin=full xs n:=yA5 h2.len fun i hi=>by
  obtain⟨x,e,_⟩:=op i hi
  rw[e,h3 i x e]
 subst ef
 have nd:(las (allR out)).Nodup:=(List.reverse_perm _).nodup_iff.mp h2.und
 have al':∀y,y<n->∃z∈out,∃r∈z.2,r.2.1=y:=fun y hy=>yV7 (Dh.mp ((h2.rel y).mpr (h6 y hy)))
 have bl:∀r∈allR out,r.1<n:=fun r hr=>by
  have:=h4.shown r hr
  have hl:=(Ac.mp this).1
  rw[h2.len] at hl
  exact hl
 have w:∀y,∃x,y<n->∃r∈allR out,r.2.1=y/\r.2.2=x:=fun y=>by
  by_cases hy:y<n
  ·obtain⟨z,hz,r,hr,e⟩:=al' y hy
   exact⟨r.2.2,fun _=>⟨r,BG.mpr ⟨z,hz,hr⟩,e,rfl⟩⟩
  ·exact⟨0,fun z=>absurd z hy⟩
 have sp:=fun y hy=>AT (w y) hy
 have lt':∀r∈allR out,r.2.1<n:=fun r hr=>by
  have m:=(h2.rel r.2.1).mp (Dh.mpr (Ay.mpr ⟨r,hr,rfl⟩))
  obtain⟨i,hi,e⟩:=Bx m
  exact h2.lt i _ (by rw[Ab hi,e])
 have vv:∀r∈allR out,Classical.choose (w r.2.1)=r.2.2:=fun r hr=>by
  obtain⟨r',hr',e1,e2⟩:=sp r.2.1 (lt' r hr)
  have:=zR5 nd hr' hr e1
  rw[<-e2,this]
 have flt:∀y,y<n->Classical.choose (w y)<n:=fun y hy=>by
  obtain⟨r,hr,e1,e2⟩:=sp y hy
  rw[<-e2,<-h4.val r hr]
  exact o.xX (bl r hr)
 have boxes:=yJ4 h1
 have onto':∀x,x<n->∃y,y<n/\Classical.choose (w y)=x:=fun x hx=>by
  obtain⟨b,hb,eb⟩:=o.onto hx
  rcases boxes b x (by unfold full;rw[Ai,AH hb,Bs,eb]) with q | ⟨r,hr,q⟩
  ·rw[Bi] at q;split at q <;> cases q
  ·refine⟨r.2.1,lt' r hr,?_⟩
   rw[vv r hr,<-h4.val r hr]
   show nxt xs r.1=x
   rw[q,eb]
 have finj:∀i j,i<n->j<n->Classical.choose (w i)=Classical.choose (w j)->i=j:=by
  have k:∀x,∃y,x<n->(y<n/\Classical.choose (w y)=x):=fun x=>by
   by_cases hx:x<n
   ·obtain⟨y,h⟩:=onto' x hx
    exact⟨y,fun _=>h⟩
   ·exact⟨0,fun z=>absurd z hx⟩
  have kp:=fun x hx=>AT (k x) hx
  intro i j hi hj e
  obtain⟨a,ha,ea⟩:=MR.onto (n:=n) (f:=fun x=>Classical.choose (k x)) (fun x hx=>(kp x hx).1) (fun x z hx hz e=>by
   have e':Classical.choose (k x)=Classical.choose (k z):=e
   rw[<-(kp x hx).2,<-(kp z hz).2,e']) hi
  obtain⟨b,hb,eb⟩:=MR.onto (n:=n) (f:=fun x=>Classical.choose (k x)) (fun x hx=>(kp x hx).1) (fun x z hx hz e=>by
   have e':Classical.choose (k x)=Classical.choose (k z):=e
   rw[<-(kp x hx).2,<-(kp z hz).2,e']) hj
  have ea':Classical.choose (k a)=i:=ea
  have eb':Classical.choose (k b)=j:=eb
  have a2:=(kp a ha).2
  have b2:=(kp b hb).2
  rw[ea'] at a2
  rw[eb'] at b2
  rw[a2,b2] at e
  rw[<-ea',<-eb',e]
 have oy:Ord n (nats (fun y=>Classical.choose (w y)) n):=xX1 flt finj
 have vy:∀r∈allR out,nxt (nats (fun y=>Classical.choose (w y)) n) r.2.1=r.2.2:=fun r hr=>by rw[xW4 (lt' r hr),vv r hr]
 refine⟨_,out,o,oy,h1,h1.agree vy,fun r hr=>⟨h4.val r hr,vy r hr,bl r hr⟩,fun z hz=>⟨h4.chn z hz,h5 z hz⟩,al',fun b hb => ?_⟩
 rcases boxes b (nxt xs b) (by unfold full;rw[Ai,AH hb,Bs]) with q | ⟨r,hr,q⟩
 ·rw[Bi] at q;split at q <;> cases q
 ·obtain⟨z,hz,hr⟩:=BG.mp hr
  exact⟨z,hz,r,hr,q⟩
def Wr.inj{T:Nat->τ}{R:Nat->Nat->Prop}{ps:List Nat}{xs xs' ys:List Int}{out out':List (Nat×List Rv)}(w:Wr bx nx n T R ps xs ys out)(w':Wr bx nx n T R ps xs' ys out'):xs=xs':=by
 have e:=(w.gr.det w'.gr).2
 have g:∀i,i<n->nxt xs i=nxt xs' i:=fun i hi=>by
  have:=Bw (fun l=>l[i]?) e
  unfold full at this
  simp only[Ai,AH hi,Bs] at this
  simpa using this
 refine CI (by rw[w.ord.len,w'.ord.len]) fun i h1 h2 => ?_
 have hi:i<n:=by rw[<-w.ord.len];exact h1
 have a:=w.ord.xS hi
 have b:=w'.ord.xS hi
 rw[g i hi,<-b] at a
 rw[List.getD,List.getD,Ab h1,Ab h2] at a
 exact a
def Chn.round{ys:List Int}{p:Nat}{l:Nat}{rs:List Rv}(h:Chn p l rs)(v:∀r∈rs,nxt ys r.2.1=r.2.2):it ys rs.length l=p/\(∀i,1<=i->i<rs.length->it ys i l≠p)/\(∀r∈rs,∃k,it ys k l=r.2.1)/\1<=rs.length:=by
 induction h with
 | @last b l =>
  have:=v _ (Cf.mpr rfl)
  simp only at this
  refine⟨?_,fun i h1 h2 => ?_,fun r hr=>⟨0,by rw[Cf.mp hr];rfl⟩,Ak _⟩
  ·show it ys 1 l=p
   rw[zT3]
   exact this
  ·rw[Bc] at h2;rfl'
 | @cons b l x rs xp _ ih =>
  have e:=v _ Ae
  simp only at e
  obtain⟨h1,h2,h3,h4⟩:=ih fun r hr=>v r (Ad _ hr)
  refine⟨?_,fun i hi hi2 => ?_,fun r hr => ?_,by rw[Av];rfl'⟩
  ·rw[Av,zT3,e]
   exact h1
  ·obtain⟨j,rfl⟩:∃j,i=j+1:=⟨i-1,by rfl'⟩
   rw[zT3,e]
   rw[Av] at hi2
   by_cases z:j=0
   ·subst z;exact xp
   ·exact h2 j (by rfl') (by rfl')
  ·rcases An.mp hr with rfl | hr
   ·exact⟨0,rfl⟩
   ·obtain⟨k,ek⟩:=h3 r hr
    exact⟨k+1,by rw[zT3,e];exact ek⟩
def Wr.pers{T:Nat->τ}{R:Nat->Nat->Prop}{ps:List Nat}{xs ys:List Int}{out:List (Nat×List Rv)}(w:Wr bx nx n T R ps xs ys out):(∀z∈out,per n ys z.1=z.2.length)/\∀q,q<n->∃z∈out,per n ys q=z.2.length/\R z.1 q:=by
 have a:∀z∈out,per n ys z.1=z.2.length/\∀r∈z.2,∃k,it ys k z.1=r.2.1:=fun z hz=>by
  obtain⟨c,zn,_⟩:=w.chn z hz
  obtain⟨h1,h2,h3,h4⟩:=c.round fun r hr=>(w.val r (BG.mpr ⟨z,hz,hr⟩)).2.1
  obtain⟨p1,p2,p3,p4⟩:=w.wrt.xZ zn
  refine⟨?_,h3⟩
  rcases CZ (MR.per n ys z.1) z.2.length with q | q | q
  ·exact absurd p3 (h2 _ p1 q)
  ·exact q
  ·exact absurd h1 (p4 _ h4 q)
 refine⟨fun z hz=>(a z hz).1,fun q hq => ?_⟩
 obtain⟨z,hz,r,hr,e⟩:=w.all q hq
 obtain⟨c,zn,rl⟩:=w.chn z hz
 obtain⟨k,ek⟩:=(a z hz).2 r hr
 have inn:In n ys z.1 q:=by rw[<-e,<-ek];exact w.wrt.zG3 zn k
 refine⟨z,hz,?_,by rw[<-e];exact rl r hr⟩
 rw[w.wrt.zG7 zn inn]
 exact (a z hz).1
inductive Dn(bx:τ->Option Nat)(nx:τ->Nat->τ)(xs:List Int):τ->List Nat->Prop
 | leaf {t:τ}:bx t=none->Dn bx nx xs t []
 | node {t:τ}{b:Nat}{ws:List Nat}:bx t=some b->Dn bx nx xs (nx t (nxt xs b)) ws->Dn bx nx xs t (b::ws)
def Tn.short{xs:List Int}{p k:Nat}{t:τ}{l:Nat}{seen out:List (Option Nat)}{rs:List Rv}(h:Tn bx nx (fun b _=>nxt xs b) p k t l seen rs out):∀{ws:List Nat},(∀(i x:Nat),seen[i]?=some (some x)->nxt xs i=x)->Dn bx nx xs t ws->(∃b∈ws,nxt xs b=p)->rs.length<=ws.length:=by
 induction h with
 | done _=>intros;exact AQ _
 | leafN h1 h2 h3 h4 _ ih =>
  intro ws j D f
  cases D with
  | leaf _=>obtain⟨b,hb,_⟩:=f;exact nomatch hb
  | node g2=>rw[h2] at g2;cases g2
 | @nodeN k t l b seen out rs h1 h2 h3 q ih =>
  intro ws j D f
  cases D with
  | leaf g2=>rw[h2] at g2;cases g2
  | node g2 D' =>
   rw[h2] at g2;cases g2
   have hl:=(Ac.mp h3).1
   by_cases xp:nxt xs b=p
   ·have:rs=[]:=by
     cases q with
     | done _=>rfl
     | leafN n=>exact absurd (As (i:=b) (by rw[zC hl,Aq rfl];exact Bw (fun z=>some (some z)) xp)) n
     | nodeN n=>exact absurd (As (i:=b) (by rw[zC hl,Aq rfl];exact Bw (fun z=>some (some z)) xp)) n
     | nodeO n=>exact absurd (As (i:=b) (by rw[zC hl,Aq rfl];exact Bw (fun z=>some (some z)) xp)) n
    rw[this,Av,Av]
    simp
   ·rw[Av,Av]
    refine Nat.succ_le_succ (ih (fun i x e => ?_) D' ?_)
    ·rw[zC hl] at e
     split at e
     ·rename_i z;cases e;rw[z]
     ·exact j i x e
    ·obtain⟨c,hc,ec⟩:=f
     rcases An.mp hc with rfl | hc
     ·exact absurd ec xp
     ·exact⟨c,hc,ec⟩
 | @nodeO k t l b x seen out rs h1 h2 h3 _ ih =>
  intro ws j D f
  cases D with
  | leaf g2=>rw[h2] at g2;cases g2
  | node g2 D' =>
   rw[h2] at g2;cases g2
   have e:=j b x h3
   rw[e] at D'
   refine Bf (ih j D' ?_) (by rw[Av];rfl')
   obtain⟨c,hc,ec⟩:=f
   rcases An.mp hc with rfl | hc
   ·rw[e] at ec
    rw[ec] at h3
    exact absurd (As h3) h1
   ·exact⟨c,hc,ec⟩
def Gm.short{xs:List Int}{T:Nat->τ}{ps:List Nat}{seen fin:List (Option Nat)}{out:List (Nat×List Rv)}(h:Gm bx nx (fun b _=>nxt xs b) T ps seen out fin)(o:Nat->Nat):(∀(i x:Nat),seen[i]?=some (some x)->nxt xs i=x)->(∀p∈ps,∃ws,Dn bx nx xs (T p) ws/\(∃b∈ws,nxt xs b=p)/\ws.length<=o p)->∀z∈out,z.2.length<=o z.1:=by
 have kept:∀{p k:Nat}{t:τ}{l:Nat}{seen out:List (Option Nat)}{rs:List Rv},Tn bx nx (fun b _=>nxt xs b) p k t l seen rs out->(∀(i x:Nat),seen[i]?=some (some x)->nxt xs i=x)->∀(i x:Nat),out[i]?=some (some x)->nxt xs i=x:=by
  intro p k t l seen out rs h
  have st:∀{seen:List (Option Nat)}{b:Nat},seen[b]?=some none->(∀(i x:Nat),seen[i]?=some (some x)->nxt xs i=x)->∀(i x:Nat),(seen.set b (some (nxt xs b)))[i]?=some (some x)->nxt xs i=x:=fun {seen b} hb j i x e=>by
   rw[zC (Ac.mp hb).1] at e
   split at e
   ·rename_i z;cases e;rw[z]
   ·exact j i x e
  induction h with
  | done _=>exact fun j=>j
  | leafN _ _ h3 _ _ ih=>exact fun j=>ih (st h3 j)
  | nodeN _ _ h3 _ ih=>exact fun j=>ih (st h3 j)
  | nodeO _ _ _ _ ih=>exact ih
 induction h with
 | nil=>exact fun _ _ z hz=>nomatch hz
 | skip _ _ ih=>exact fun j f=>ih j fun p hp=>f p (Ad _ hp)
 | play _ t _ ih =>
  intro j f z hz
  rcases An.mp hz with rfl | hz
  ·obtain⟨ws,D,hb,hl⟩:=f _ Ae
   exact Bf (t.short j D hb) hl
  ·exact ih (kept t j) (fun p hp=>f p (Ad _ hp)) z hz
end
end MR
namespace MR
open PySem PySem.W
def kasRun{α:Type}(lt:Nat->Nat->Bool):KasT α->α
 | .ret a=>a
 | .ask i j k=>kasRun lt (k (lt i j))
def kasIn{α:Type}(n:Nat)(lt:Nat->Nat->Bool):KasT α->Bool
 | .ret _=>true
 | .ask i j k=>decide (i<n)&&(decide (j<n)&&kasIn n lt (k (lt i j)))
def zL6{α:Type}{n:Nat}{lt lt':Nat->Nat->Bool}(e:∀i j,i<n->j<n->lt i j=lt' i j):∀t:KasT α,kasIn n lt t=true->kasRun lt' t=kasRun lt t/\kasIn n lt' t=true
 | .ret a,_=>⟨rfl,rfl⟩
 | .ask i j k,h=>by
  rw[kasIn,Ba,Ba,decide_eq_true_iff,decide_eq_true_iff] at h
  obtain⟨h1,h2,h3⟩:=h
  obtain⟨a,b⟩:=zL6 e (k (lt i j)) h3
  have q:=e i j h1 h2
  rw[kasRun,kasRun,kasIn,<-q]
  exact⟨a,by rw[AB h1,AB h2,Bool.true_and,Bool.true_and];exact b⟩
def kasOk(n:Nat)(r:List Int):Bool:=kasIn n (fun i j=>decide (r.getD i 0<r.getD j 0)) (kas_sort n)&&((kasRun (fun i j=>decide (r.getD i 0<r.getD j 0)) (kas_sort n)).toList.map (fun i=>r.getD i 0) == rg n&&(kasRun (fun i j=>decide (r.getD i 0<r.getD j 0)) (kas_sort n)).toList.all fun i=>decide (i<n))
def wV8:(allO 2).all (kasOk 2)=true:=by decide +kernel
def wU9:(allO 3).all (kasOk 3)=true:=by decide +kernel
def wV6:(allO 4).all (kasOk 4)=true:=by decide +kernel
def wY3:(allO 5).all (kasOk 5)=true:=by decide +kernel
def wW4:(allO 6).all (kasOk 6)=true:=by decide +kernel
def xL8{n:Nat}(h2:2<=n)(h6:n<=6){r:List Int}(o:Ord n r):kasOk n r=true:=by
 have m:=((yR6 (n:=n) (by rfl') (by rfl')).mem r).mpr o
 rcases (show n=2\/n=3\/n=4\/n=5\/n=6 by rfl') with rfl | rfl | rfl | rfl | rfl
 ·exact AF.mp wV8 r m
 ·exact AF.mp wU9 r m
 ·exact AF.mp wV6 r m
 ·exact AF.mp wY3 r m
 ·exact AF.mp wW4 r m
def rkN(n:Nat)(κ:Nat->Int)(i:Nat):Nat:=(List.range n).countP fun j=>decide (κ j<κ i)
def zU2{n:Nat}{κ:Nat->Int}{i j:Nat}(hi:i<n)(h:κ i<κ j):rkN n κ i<rkN n κ j:=by
 unfold rkN
 have sub:∀l:List Nat,i∈l->(l.countP fun x=>decide (κ x<κ i))<l.countP fun x=>decide (κ x<κ j):=by
  intro l
  have le:∀l:List Nat,(l.countP fun x=>decide (κ x<κ i))<=l.countP fun x=>decide (κ x<κ j):=fun l=>List.countP_mono_left fun x _ hx=>AB (by have:=of_decide_eq_true hx;rfl')
  induction l with
  | nil=>exact fun h=>nomatch h
  | cons a l ih =>
   intro hm
   rw[List.countP_cons,List.countP_cons]
   rcases An.mp hm with rfl | hm
   ·rw[AJ (show ¬decide (κ i<κ i)=true by simp),Aq (AB h)]
    have:=le l
    rfl'
   ·have:=ih hm
    by_cases c:κ a<κ i
    ·rw[Aq (AB c),Aq (AB (show κ a<κ j by rfl'))]
     rfl'
    ·rw[AJ (show ¬decide (κ a<κ i)=true by simpa using c)]
     split <;> rfl'
 exact sub _ (Al.mpr hi)
def yR8{n:Nat}{κ:Nat->Int}(inj:∀i j,i<n->j<n->κ i=κ j->i=j){i j:Nat}(hi:i<n)(hj:j<n):rkN n κ i<rkN n κ j↔κ i<κ j:=by
 constructor
 ·intro h
  rcases Int.lt_trichotomy (κ i) (κ j) with z | z | z
  ·exact z
  ·have:=inj i j hi hj z
   subst this
   rfl'
  ·have:=zU2 hj z
   rfl'
 ·exact zU2 hi
def xS9{n:Nat}{κ:Nat->Int}{i:Nat}(hi:i<n):rkN n κ i<n:=by
 have h1:∀l:List Nat,i∈l->(l.countP fun x=>decide (κ x<κ i))<l.length:=by
  intro l hm
  rcases Nat.lt_or_ge (l.countP fun x=>decide (κ x<κ i)) l.length with z | z
  ·exact z
  ·have e:=List.countP_eq_length.mp (Nat.le_antisymm List.countP_le_length z) i hm
   have:=of_decide_eq_true e
   rfl'
 have:=h1 (List.range n) (Al.mpr hi)
 rw[Aj] at this
 exact this
def byK(n:Nat)(κ:Nat->Int):List Nat:=(kasRun (fun i j=>decide (κ i<κ j)) (kas_sort n)).toList
def yI9{n:Nat}{κ:Nat->Int}(h2:2<=n)(h6:n<=6)(inj:∀i j,i<n->j<n->κ i=κ j->i=j):kasIn n (fun i j=>decide (κ i<κ j)) (kas_sort n)=true/\(byK n κ).Perm (List.range n)/\(byK n κ).Pairwise fun a b=>κ a<κ b:=by
 have rin:∀i j,i<n->j<n->rkN n κ i=rkN n κ j->i=j:=fun i j hi hj e=>by
  rcases Int.lt_trichotomy (κ i) (κ j) with z | z | z
  ·have:=zU2 hi z;rfl'
  ·exact inj i j hi hj z
  ·have:=zU2 hj z;rfl'
 have o:Ord n (ofN n (rkN n κ)):=yR9 (fun p h=>xS9 h) rin
 have at_:∀i,i<n->(ofN n (rkN n κ)).getD i 0=((rkN n κ i:Nat):Int):=fun i hi=>by rw[o.xS hi,yS6 hi]
 have k:=xL8 h2 h6 o
 unfold kasOk at k
 rw[Ba,Ba] at k
 obtain⟨k1,k2,k3⟩:=k
 have ag:∀i j,i<n->j<n->(fun i j=>decide ((ofN n (rkN n κ)).getD i 0<(ofN n (rkN n κ)).getD j 0)) i j=(fun i j=>decide (κ i<κ j)) i j:=fun i j hi hj=>by
  show decide _=decide _
  rw[at_ i hi,at_ j hj]
  refine decide_eq_decide.mpr ?_
  rw[<-yR8 inj hi hj]
  rfl'
 obtain⟨e1,e2⟩:=zL6 ag _ k1
 rw[<-e1] at k2 k3
 have k2:=eq_of_beq k2
 have lt:∀i∈byK n κ,i<n:=fun i hi=>of_decide_eq_true (AF.mp k3 i hi)
 have mp:(byK n κ).map (rkN n κ)=List.range n:=by
  have e:(byK n κ).map (fun i=>(ofN n (rkN n κ)).getD i 0)=((byK n κ).map (rkN n κ)).map fun (b:Nat)=>(b:Int):=by
   rw[AX]
   exact BY fun i hi=>at_ i (lt i hi)
  have k2':(byK n κ).map (fun i=>(ofN n (rkN n κ)).getD i 0)=rg n:=k2
  rw[e] at k2'
  exact List.map_inj_right (fun a b h=>Int.ofNat_inj.mp h) |>.mp k2'
 refine⟨e2,?_,?_⟩
 ·have nd:(byK n κ).Nodup:=by
   have:((byK n κ).map (rkN n κ)).Nodup:=by rw[mp];exact BL
   exact List.Pairwise.of_map (rkN n κ) (fun a b h e=>h (by rw[e])) this
  have ln:(byK n κ).length=n:=by
   have:=Bw List.length mp
   rw[Aa,Aj] at this
   exact this
  rw[BN nd BL]
  intro a
  rw[Al]
  refine⟨lt a,fun ha => ?_⟩
  have:rkN n κ a∈(byK n κ).map (rkN n κ):=by rw[mp];exact Al.mpr (xS9 ha)
  obtain⟨b,hb,e⟩:=Ay.mp this
  rw[<-rin b a (lt b hb) ha e]
  exact hb
 ·have pw:((byK n κ).map (rkN n κ)).Pairwise (· < ·):=by rw[mp];exact Cq
  rw[BV] at pw
  exact pw.imp_of_mem fun {a b} ha hb h=>(yR8 inj (lt a ha) (lt b hb)).mp h
def yH5{α:Type}{n:Nat}{cmp:Nat->Nat->(Bool->Shared->Prop)->Shared->Prop}{J:Shared->Prop}{lt:Nat->Nat->Bool}(h:∀(i j:Nat) (C:Bool->Shared->Prop) (s:Shared),i<n->j<n->J s->(∀s',J s'->C (lt i j) s')->cmp i j C s):∀(t:KasT α) (Q:α->Shared->Prop) (s:Shared),kasIn n lt t=true->J s->(∀s',J s'->Q (kasRun lt t) s')->t.kasWp cmp Q s
 | .ret a,Q,s,_,js,q=>q s js
 | .ask i j k,Q,s,hin,js,q=>by
  rw[kasIn,Ba,Ba,decide_eq_true_iff,decide_eq_true_iff] at hin
  exact h i j _ s hin.1 hin.2.1 js fun s' js'=>yH5 h (k (lt i j)) Q s' hin.2.2 js' q
end MR
namespace L2.L3
open PySem PySem.Spec PyProof.Rows MR
variable [CN]
section
variable {P:Program}{w:World}{K:KFr}{mg:Str->Option Value}{base:Heap}{CX:CXT}{k:Nat}{f:Addr}{fd:FuncData}{ps:List Str}
def xR7{sp:Sp}(F:FnOk P w K mg base CX0 k f fd ps sp):FnOk P w K mg base CX k f fd ps sp :=
 ⟨F.len,fun A outer s H args us vs Q E hr he hb hv hs=>codeAny_mono (F.run A outer s H args us vs Q E hr he hb hv hs) fun r s' h=>by
  cases r with
  | ok fl =>
   cases fl with
   | ret u=>exact h
   | _=>exact h
  | error e=>exact h.elim⟩
def yF8{F:List D->Res D}{fr:Bool}(no:∀ds c,F ds ≠ .ex c)(G:FnOk P w K mg base CX0 k f fd ps (spF fr F)):FnOk P w K mg base CX k f fd ps (spX fr F) :=
 (xR7 G).imp fun vs H Q E h=>by
  obtain⟨ds,O,oh,r,q⟩:=h
  refine⟨ds,O,oh,r,?_⟩
  cases e:F ds with
  | ok d=>rw[e] at q;exact q
  | no=>rw[e] at q;exact q
  | ex c=>exact absurd e (no ds c)
end
def yA4{C:Ct}{k:Nat}{f:Addr}{fd:FuncData}{ps:List Str}{x:Str}{p pos lpos:Pos}{e e2:Expr}{me me2:Ev->Res D}{md:Md}{st:Stmt}(G:FnOk C.X.prog C.X.w C.X.K C.X.mg C.X.base (CXV C.X.prog C.X.w) k f fd ps spOrd)(hh:Has C.X.K C.X.mg x st f fd ps)(hr:Room k C.X.A)(hb:Br C)
  (h1:RE C .cl e me) (h2:RE C md e2 me2) (hg:autoParam (Gl C.X x) DH) (hdb:autoParam ((x == ("__debug__":Str))=false) DG) (hs1:autoParam (starEach [e] C.X.env=(false,eval e C.X.env)::starEach [] C.X.env) DH) (hs2:autoParam (starEach [e2] C.X.env=(false,eval e2 C.X.env)::starEach [] C.X.env) DH)
  (he:autoParam (starEach [.List [e] lpos,e2] C.X.env=(false,eval (.List [e] lpos) C.X.env)::starEach [e2] C.X.env) DH) (hpl:autoParam ((backTo pos (starEach [e2] C.X.env)).any (·.1)=false) DH) :
  RE C .cl (.Call (.Name x p) [.List [e] lpos,e2] [] pos) (eF ordF (aC me (aC me2 aN))):=by
 obtain⟨t1,p1,q1⟩:=h1
 obtain⟨t2,p2,q2⟩:=h2
 exact⟨_,yJ G hr hg hh.m hh.F.kp hh.b .nil (passX hb) (zT (xW (zT p1 zL hs1)) (zT p2 zL hs2) he) hdb he hpl,fun Oc Ob σ H ρ Q R h=>yH3 q1 q2 R h⟩
end L2.L3
namespace L2
open PySem PySem.Spec PyProof.Rows
def LamAt(H:Hp)(f:Addr)(q:Str)(ps:Arguments)(e:Expr)(sc:Scope)(cl:List (Str×Addr)):Prop :=
 ∃(c':Addr) (ctv pm:Value) (oc:Obj) (u v:HO) (vs:Array Value) (t:Tok),H f=some (.frz (PySem.W.kla_obj "<lambda>" q ps e sc cl pm c' ctv) v)/\H c'=some (.frz oc u)/\oc.data=.fields vs/\vs[1]?=some (.str q t)
def Ext(H H':Hp):Prop:=∀b o,H b=some o->H' b=some o
def Ext.refl(H:Hp):Ext H H:=fun _ _ e=>e
def Ext.trans{H H1 H2:Hp}(a:Ext H H1)(b:Ext H1 H2):Ext H H2:=fun x o e=>b x o (a x o e)
def Ext.new{H:Hp}{a:Addr}{o:HO}(h:H a=none):Ext H (upd H a o):=fun b u e=>by rw[zY (yZ e h)];exact e
def LamAt.ext{H H':Hp}{f:Addr}{q:Str}{ps:Arguments}{e:Expr}{sc:Scope}{cl:List (Str×Addr)}(x:LamAt H f q ps e sc cl)(k:Ext H H'):LamAt H' f q ps e sc cl:=by
 obtain⟨c',ctv,pm,oc,u,v,vs,t,h1,h2,h3⟩:=x
 exact⟨c',ctv,pm,oc,u,v,vs,t,k _ _ h1,k _ _ h2,h3⟩
def tLam(q:Str)(ps:Arguments)(e:Expr)(sc:Scope)(cl:List (Str×Addr)):TE:=fun _ H Q=>∀f H1,LamAt H1 f q ps e sc cl->Ext H H1->H f=none->Q (.ref f) H1
def apartBy{α:Type}{φ:Obj->α}{h:Heap}{a b:Addr}{x y:Obj}(ex:h.get? a=some x)(ey:h.get? b=some y)(n:φ x≠φ y):a≠b:=fun z=>n (by rw[<-z,ex] at ey;exact Bw φ (AW ey))
def yE3{pos pos':Pos}{c cv:Value}:∀(l:List Value),TriplesOk l->codeAmong pos' (l ++ [rawInt pos.line,rawInt pos.col,c])=some cv->codeAmong pos' l=some cv\/cv=c:=fun l t z=>by
 fun_induction TriplesOk l with
 | case1 =>
  right
  simp only[BW,codeAmong,rawInt] at z
  split at z
  ·exact (AW z).symm
  ·cases z
 | case2 a t' b u y r ih =>
  simp only[Dg,codeAmong] at z ⊢
  split
  ·rename_i hc;rw[Aq hc] at z;exact .inl z
  ·rename_i hc;rw[AJ hc] at z;exact ih t z
 | case3 l h1 h2=>exact t.elim
section
variable {X:Cx}{DI:List (Addr×Obj)}{σ:St}{H:Hp}{s:Shared}
def Inv.lam{h':Heap}{tk:Nat}{P c':Addr}{q:Str}{oc fo:Obj}(hfo:fo.isFreed=false)(I:Inv X DI σ H s)(hP:H P=some (.tbl q))(hx:Heap.ExtBut P s.heap h')(hc:s.heap.objs.size<=c')(hlt:c'<h'.objs.size)(hoc:h'.get? c'=some oc)
  (new:ObjOk X.prog X.w (upd H c' (.frz oc (.own c'))) h' P (.tbl q)):Inv X DI σ (upd (upd H c' (.frz oc (.own c'))) h'.objs.size (.frz fo (.own h'.objs.size))) { s with heap:=h'.push fo,toks:=tk }:=by
 have hs:s.heap.objs.size<=h'.objs.size:=BC (Cn hc hlt)
 have cn:H c'=none:=I.hok.fresh hc
 have fn:H h'.objs.size=none:=I.hok.fresh hs
 have cf:h'.objs.size≠c':=BZ hlt
 have fn2:(upd H c' (.frz oc (.own c'))) h'.objs.size=none:=by rw[zY cf];exact fn
 have e1:Ext H (upd (upd H c' (.frz oc (.own c'))) h'.objs.size (.frz fo (.own h'.objs.size))):=(Ext.new cn).trans (Ext.new fn2)
 have nP:∀b,H b=none->b≠P:=fun b n z=>by rw[z,hP] at n;cases n
 refine I.step (g':=s.gens) (d':=s.drawn) (ch:=[]) (fun _ z=>nomatch z) (fun b o _ _ _ e n=>Af _ (hx b o (nP b n) e)) (fun b o _ _ _ e n=>⟨o.slots,Af _ (hx b o (nP b n) e)⟩) (fun b o _ e n => ?_) (fun b o _ e => ?_)
  (fun b xs e=>e1 _ _ e) (fun b o xs e=>e1 _ _ e) (fun b q e=>e1 _ _ e) (fun m hm=>(hm.extBut hx (nP _ I.free)).push _) (fun b o e => ?_) I.bare
 ·have hb:=Ap e
  rw[zY (AL (Au hb hs)),zY (AL (Au hb hc))]
  exact n
 ·by_cases hb:b=P
  ·subst hb
   obtain⟨ps,e',_⟩:=new
   exact⟨_,Af _ e'⟩
  ·exact⟨o,Af _ (hx b o hb e)⟩
 ·by_cases hb:b=h'.objs.size
  ·subst hb
   rw[zS] at e
   cases e
   exact⟨Aw _ hfo,_,Aw _ hfo⟩
  ·rw[zY hb] at e
   by_cases hb2:b=c'
   ·subst hb2
    rw[zS] at e
    cases e
    exact⟨Af _ hoc,_,Af _ hoc⟩
   ·have e0:=e
    rw[zY hb2] at e
    by_cases hb3:b=P
    ·subst hb3
     rw[hP] at e
     cases e
     exact new.stay (fun c v _ q=>Af _ q) (fun c q=>by rw[zY (yZ q fn2)];exact q) (fun c _ q=>by rw[zY (yZ q fn2)];exact q) fun c _ _ q=>by rw[zY (yZ q fn2)];exact q
    ·refine (I.hok b o e).stay (fun c v hcc q=>Af _ (hx c v ?_ q)) (fun c q=>e1 _ _ q) (fun c xs q=>e1 _ _ q) fun c _ _ q=>e1 _ _ q
     rcases hcc with z | z
     ·rw[z];exact hb3
     ·rintro rfl;rw[hP] at z;cases z
def yJ3{ps:Arguments}{body:Expr}{sc:Scope}{pos:Pos}{x:Str}{c P:Addr}{cl:List (Str×Addr)}(hx:x∈tabNames)(ht:PySem.W.tabIn X.K x=some (c,P))(hcode:X.env.code=.ref c)(hq:X.env.qual=x ++ ".<locals>.")
  (hdef:defaultsOf ps X.env=([],[])) (hcl:X.Ok->closureFor sc X.env=pure cl):PE X (.Lambda ps body sc pos) (tLam (lamQ x) ps body sc cl):=by
 intro DI s σ H Q I h
 have hP:=I.tb x hx c P ht
 have okP:=I.hok P _ hP
 obtain⟨pt,e1,tr,am⟩:=id okP
 have G:=I.mod.glob.keeps I.bk
 have CH:=(I.mod.tabs x hx c P ht).keeps I.bk
 obtain⟨og,_,_,gg,gd,_⟩:=id G
 obtain⟨bm,ob,b1,b2,b3,b4,b5,b6⟩:=I.mod.bmain
 have gb:=I.bk _ _ b3
 have far1:=apartBy (φ:=Obj.data) gg e1 (by rw[gd];exact fun z=>nomatch z)
 have far2:=apartBy (φ:=Obj.cls) gb e1 (by rw[b4];exact fun z=>nomatch z)
 have far3:=apartBy (φ:=Obj.data) gb gg (by rw[b6,gd];exact fun z=>nomatch z)
 have BA:s.heap.BuiltinsAt X.mg P:=⟨bm,ob,b1,b2,far3,far2,gb,b4,b5,b6⟩
 refine PySem.W.kla_eval hdef ?_
 have eq:X.env.qual ++ "<lambda>" = lamQ x:=by rw[hq];rfl
 rw[eq]
 cases ha:codeAmong pos pt.toList with
 | none =>
  refine PySem.W.kla_makeFunction (hcl I.ok) I.ok.glob G hcode CH e1 tr ha far1 BA fun c' ctv h' tk hxx hge hlt hrec htb => ?_
  rcases hrec with ⟨_,oc,vs,t,⟨⟩,hoc,hd,hv⟩
  have cn:H c'=none:=I.hok.fresh hge
  have I2:=Inv.lam (tk:=tk) (fo:=PySem.W.kla_obj "<lambda>" (lamQ x) ps body sc cl ((X.mg "__name__").getD .none) c' ctv) rfl I hP hxx hge hlt hoc ⟨_,htb,by simpa using TriplesOk_snoc _ _ _ _ tr,fun pos' cv z => ?_⟩
  ·refine⟨.ref h'.objs.size,_,I2,rfl,h _ _ ⟨c',ctv,_,oc,.own c',_,vs,t,zS,?_,hd,hv⟩ ?_ (I.hok.fresh (BC (Cn hge hlt)))⟩
   ·rw[zY (AL hlt),zS]
   ·exact (Ext.new cn).trans (Ext.new (by rw[zY (BZ hlt)];exact I.hok.fresh (BC (Cn hge hlt))))
  ·have z':codeAmong pos' (pt.toList ++ [rawInt pos.line,rawInt pos.col,.ref c'])=some cv:=by simpa using z
   rcases yE3 pt.toList tr z' with z1 | z1
   ·obtain⟨c3,oc3,u3,vs3,t3,a1,a2,a3⟩:=am pos' cv z1
    exact⟨c3,oc3,u3,vs3,t3,a1,by rw[zY (yZ a2 cn)];exact a2,a3⟩
   ·exact⟨c',oc,_,vs,t,z1,zS,hd,hv⟩
 | some cv =>
  obtain⟨c',oc,u,vs,t,rfl,a2,a3,a4⟩:=am pos cv ha
  refine PySem.W.kla_makeFunctionHit (hcl I.ok) I.ok.glob G hcode CH e1 tr ha BA fun ctv h' tk hk hsz => ?_
  have fn:H h'.objs.size=none:=I.hok.fresh hsz
  refine⟨.ref h'.objs.size,_,I.laid (a:=h'.objs.size) (o:=.frz (PySem.W.kla_obj "<lambda>" (lamQ x) ps body sc cl ((X.mg "__name__").getD .none) c' ctv) (.own h'.objs.size)) (h':=h'.push _) (fun b o e=>Af _ (hk b o e)) hsz ⟨Aw _ rfl,_,Aw _ rfl⟩,rfl,h _ _ ⟨c',ctv,_,oc,u,_,vs,t,zS,?_,a3,a4⟩ (Ext.new fn) fn⟩
  rw[zY (yZ a2 fn)]
  exact a2
end
def cxLam(P:Program)(w:World)(K:KFr)(mg:Str->Option Value)(base:Heap)(N:List Str)(q:Str)(sc:Scope)(f:Addr)(cd:Value)(cl:List (Str×Addr))(A:Around)(outer:List Env)(s:Shared)(H:Hp):Cx where
 prog:=P
 w:=w
 K:=K
 mg:=mg
 base:=base
 A:=A.deeper (PySem.W.envX q sc s.heap.objs.size f cd cl)
 N:=N
 s₀:=s
 H₀:=H
 env:=PySem.W.envX q sc s.heap.objs.size f cd cl
 outer:=outer
 stack:=PySem.W.envX q sc s.heap.objs.size f cd cl::outer
 ex:=[]
 calm:=true
 fn:=fun _=>false
 pn:=[]
 xe:=fun _ _=>False
structure LamScope(ps:List Str)(y:Str)(sc:Scope):Prop where
 kind:sc.kind=.function
 co:sc.isCoroutine=false
 gen:sc.isGenerator=false
 par:∀x∈ps,sc.names.lookup x=some .local
 nd:ps.Nodup
 free:sc.names.lookup y=some .free
 nocell:∀z∈sc.names,z.2 ≠ .cell
 only:∀z,sc.names.lookup z=some .free->z=y
section
variable {P:Program}{w:World}{K:KFr}{mg:Str->Option Value}{base:Heap}{A:Around}{outer:List Env}{s:Shared}{H:Hp}
def yZ6{x:Str}{v:Value}:∀{ps:List Str}{us:List Value}{i:Nat},ps.Nodup->ps[i]?=some x->us[i]?=some v->(ps.zip us).reverse.lookup x=some v
 | [],_,_,_,h,_=>by simp at h
 | _::_,[],_,_,_,h=>by simp at h
 | p::ps,u::us,0,nd,h1,h2=>by
  simp at h1 h2;subst h1;subst h2
  rw[Dw,List.reverse_cons,List.lookup_append]
  have:(ps.zip us).reverse.lookup p=none:=by
   rw[List.lookup_eq_none_iff]
   intro z hz
   have hz':z∈ps.zip us:=by simpa using hz
   have:=(CQ (a:=z.1) (b:=z.2) (by simpa using hz')).1
   simp only[bne_iff_ne,beq_eq_false_iff_ne,ne_eq]
   rintro rfl
   exact (Bh.mp nd).1 this
  rw[this]
  simp[Bu]
 | p::ps,u::us,i+1,nd,h1,h2=>by
  rw[Dw,List.reverse_cons,List.lookup_append,yZ6 (i:=i) (Bh.mp nd).2 (by simpa using h1) (by simpa using h2)]
  rfl
def xP4{ps:List Str}{y:Str}{sc:Scope}{q:Str}{f cl:Addr}{cd uy:Value}{vy:V}{us:List Value}{vs:List V}{h₁:Heap}{tk:Nat}{fo:Obj}(S:LamScope ps y sc)(hd:A.handled=none)(e0:Env0 P w K mg base A outer s H)(hl:vs.length=ps.length)(r:Vals vs us)
  (hc:s.heap.IsCell cl (some uy)) (hn:H cl=none) (rv:RelV vy uy) (ns:h₁.Ns s.heap.objs.size (fun x=>(ps.zip us).reverse.lookup x)) (hk:∀b o,s.heap.get? b=some o->h₁.get? b=some o) :
  Inv (cxLam P w K mg base (ps ++ [y]) q sc f cd [(y,cl)] A outer s H) [] (vs.map some ++ [some vy]) H { s with heap:=h₁,toks:=tk }:=by
 have noA:∀b:Addr,b∉(cxLam P w K mg base (ps ++ [y]) q sc f cd [(y,cl)] A outer s H).ex:=fun b z=>absurd (show b∈([]:List Addr) from z) (by simp)
 have cel:∀z c,(cxLam P w K mg base (ps ++ [y]) q sc f cd [(y,cl)] A outer s H).env.cells.lookup z=some c->z=y/\c=cl:=fun z c e=>by
  have e:List.lookup z [(y,cl)]=some c:=e
  rw[Bu] at e
  split at e
  ·rename_i h;cases e;exact⟨beq_iff_eq.mp h,rfl⟩
  ·cases e
 have hy:(cxLam P w K mg base (ps ++ [y]) q sc f cd [(y,cl)] A outer s H).env.cells.lookup y=some cl:=by
  show List.lookup y [(y,cl)]=some cl
  rw[Bu,beq_self_eq_true]
 refine⟨⟨e0.mod,S.kind,rfl,rfl,Ak _,fun z z' c h1 h2=>(cel z c h1).1.trans (cel z' c h2).1.symm,fun z hz => ?_,fun z c h=>(nomatch h),fun _=>hd,Around.frames_deeper e0.frames,.inr ⟨rfl,rfl⟩,fun b z=>absurd z (noA b),e0.bs,e0.bsz,fun b _ _=>noA b,fun b z=>absurd z (noA b),e0.funs,e0.frf,e0.tb⟩,
  rfl,e0.bare,Un.kept hk,⟨_,ns,fun i z v h1 h2 h3 => ?_⟩,fun z c h => ?_,e0.hok.fresh (Ak _),fun z c h=>by rw[(cel z c h).2];exact hn,fun p hp=>absurd (show p∈([]:List (Addr×Obj)) from hp) (by simp),e0.hok.kept hk,?_⟩
 ·have hz:sc.names.lookup z=some .cell\/sc.names.lookup z=some .free:=hz
  rcases hz with hz | hz
  ·exact absurd rfl (S.nocell _ (Bb hz))
  ·rw[S.only z hz];exact⟨cl,hy⟩
 ·by_cases hi:i<vs.length
  ·have h1:(ps ++ [y])[i]?=some z:=h1
   rw[Bl (by rfl')] at h1
   rw[Bl (by simpa using hi),Ai] at h2
   cases e:vs[i]? with
   | none=>rw[e] at h2;cases h2
   | some a =>
    rw[e] at h2
    cases h2
    obtain⟨u,hu,ru⟩:=r.get e
    exact⟨u,ru,.inl ⟨S.par z (As h1),yZ6 S.nd h1 hu⟩⟩
  ·have h1:(ps ++ [y])[i]?=some z:=h1
   rw[Bo (by simpa using hi)] at h2
   rw[Bo (by rfl')] at h1
   simp only[Aa] at h2
   have e0:i-ps.length=0:=by
    cases e:i-ps.length with
    | zero=>rfl
    | succ n=>rw[e] at h1;simp at h1
   rw[e0] at h1
   rw[hl,e0] at h2
   simp at h1 h2
   subst h1 h2
   exact⟨uy,rv,.inr ⟨.inr S.free,cl,hy,hc.keeps hk⟩⟩
 ·rw[(cel z c h).2]
  exact⟨_,hc.keeps hk⟩
 ·show _=(ps ++ [y]).length
  simp[hl]
def yS7{ps:List Str}{y:Str}{sc:Scope}{q:Str}{f cl c':Addr}{pm ctv uy:Value}{vy:V}{us:List Value}{vs:List V}{params:Arguments}{body:Expr}{k:Nat}{Q:VK}{t:TE}(S:LamScope ps y sc)(hr:Room (k+1) A)(e0:Env0 P w K mg base A outer s H)
  (hf:s.heap.get? f=some (PySem.W.kla_obj "<lambda>" q params body sc [(y,cl)] pm c' ctv)) (hcd:s.heap.CodeRec (.ref c') q) (hc:s.heap.IsCell cl (some uy)) (hn:H cl=none) (rv:RelV vy uy)
  (hb:bindArgs (PySem.W.kla_fn "<lambda>" q params body sc [(y,cl)] pm (.ref c') ctv) ⟨us,[]⟩=pure (ps.zip us)) (hl:vs.length=ps.length) (r:Vals vs us)
  (hbody:Room k (A.deeper (PySem.W.envX q sc s.heap.objs.size f (.ref c') [(y,cl)]))->PE (cxLam P w K mg base (ps ++ [y]) q sc f (.ref c') [(y,cl)] A outer s H) body t) (h:t (vs.map some ++ [some vy]) H Q) :
  codeAny (model P w) A (.call (.ref f) ⟨us,[]⟩) (CR CX0 outer P w H s Q E0) s:=by
 refine PySem.W.kla_callFunE hr.depth hf rfl S.co S.gen rfl hcd ?_
 rw[hb]
 refine Ax (wpAny_newFunctionEnv S.nocell (fun z hz=>S.par _ (CQ (a:=z.1) (b:=z.2) hz).1) (fun h₁ hns hsb => ?_) S.kind)
 have hk:∀b o,s.heap.get? b=some o->h₁.get? b=some o:=fun b o e=>hsb.extBut b o (AL (Ap e)) (Af _ e)
 have lim:s.heap.NoLimit:=e0.mod.nolimit.keeps fun b o e=>(e0.bs b o e).1
 refine⟨lim.keeps hk,PySem.W.kla_codeExpr ?_⟩
 have I:=xP4 (q:=q) (f:=f) (cd:=.ref c') (tk:=s.toks+(ps.zip us).length) (fo:=default) S hr.hd e0 hl r hc hn rv hns hk
 refine wpAny_mono (hbody (hr.deeper _) [] _ _ H Q I h) (fun v s' hs => ?_) fun e s' hs=>hs.elim
 obtain⟨x,H',J,rx,qx⟩:=hs
 exact⟨x,H',J.os,J.bare,J.base,J.hok,rx,qx⟩
end
def rmv(H:Hp)(a:Addr):Hp:=fun b=>if b=a then none else H b
def uF{H:Hp}{a:Addr}:rmv H a a=none:=Aq rfl
def xV{H:Hp}{a b:Addr}(h:b≠a):rmv H a b=H b:=AJ h
def xB5{H:Hp}{a b:Addr}{o:HO}(h:rmv H a b=some o):b≠a/\H b=some o:=by
 by_cases e:b=a
 ·rw[e,uF] at h;cases h
 ·rw[xV e] at h;exact⟨e,h⟩
section
variable {P:Program}{w:World}{K:KFr}{mg:Str->Option Value}{base:Heap}{A:Around}{outer:List Env}{s:Shared}{H:Hp}{h:Heap}{cl:Addr}{φ:Heap->Prop}
def HOk.rmv(ok:HOk P w H h)(hc:H cl=some (.ext φ)):HOk P w (rmv H cl) h:=fun b o e=>by
 obtain⟨hb,e'⟩:=xB5 e
 exact (ok b o e').stay (fun _ _ _ q=>q) (fun c q=>by rw[xV (fun z=>by rw[z,hc] at q;cases q)];exact q) (fun c _ q=>by rw[xV (fun z=>by rw[z,hc] at q;cases q)];exact q) fun c _ _ q=>by rw[xV (fun z=>by rw[z,hc] at q;cases q)];exact q
def Env0.rmv(e:Env0 P w K mg base A outer s H)(hc:H cl=some (.ext φ)):Env0 P w K mg base A outer s (rmv H cl) where
 frames:=e.frames
 mod:=e.mod
 bs:=fun b o h=>⟨(e.bs b o h).1,by
  by_cases z:b=cl
  ·rw[z];exact uF
  ·rw[xV z];exact (e.bs b o h).2⟩
 bsz:=e.bsz
 funs:=e.funs
 frf:=fun b hb=>by
  by_cases z:b=cl
  ·rw[z];exact uF
  ·rw[xV z];exact e.frf b hb
 hok:=e.hok.rmv hc
 bare:=e.bare
 tb:=fun x hx c P' ht=>by
  have q:=e.tb x hx c P' ht
  rw[xV (fun z=>by rw[z,hc] at q;cases q)]
  exact q
end
abbrev cellO(cl:Addr)(oc:Obj):HO:=.ext fun h=>h.get? cl=some oc
section
variable {P:Program}{w:World}{K:KFr}{mg:Str->Option Value}{base:Heap}{A:Around}{outer:List Env}{s:Shared}{H:Hp}{cl:Addr}{oc:Obj}
def HOk.lend{h:Heap}(x:HOk P w H h)(hn:H cl=none)(ho:h.get? cl=some oc):HOk P w (upd H cl (cellO cl oc)) h :=
 x.track hn ⟨ho,⟨oc,ho⟩,fun h1 h2 p k=>k _ p⟩
def Env0.lend(e:Env0 P w K mg base A outer s H)(hn:H cl=none)(hb:base.get? cl=none)(hf:cl∉frs outer)(ho:s.heap.get? cl=some oc):Env0 P w K mg base A outer s (upd H cl (cellO cl oc)) where
 frames:=e.frames
 mod:=e.mod
 bs:=fun b o h=>⟨(e.bs b o h).1,by rw[zY (fun z=>by rw[z,hb] at h;cases h)];exact (e.bs b o h).2⟩
 bsz:=e.bsz
 funs:=e.funs
 frf:=fun b hb'=>by rw[zY (show b≠cl from fun z=>hf (by rw[<-z];exact hb'))];exact e.frf b hb'
 hok:=e.hok.lend hn ho
 bare:=e.bare
 tb:=fun x hx c P' ht=>by
  have q:=e.tb x hx c P' ht
  rw[zY (fun z=>by rw[z,hn] at q;cases q)]
  exact q
def Un.unhide{fs:List Addr}{H2:Hp}{h h':Heap}(u:Un fs [] (rmv H cl) H2 h h')(C:H cl=some (cellO cl oc)):Un fs [] H (upd H2 cl (cellO cl oc)) h h':=by
 have nc:∀b,H b=none->b≠cl:=fun b n z=>by rw[z,C] at n;cases n
 have up:∀b o,b≠cl->H2 b=some o->upd H2 cl (cellO cl oc) b=some o:=fun b o n e=>by rw[zY n];exact e
 have dn:∀b o,H b=some o->b≠cl->rmv H cl b=some o:=fun b o e n=>by rw[xV n];exact e
 have df:∀b,H b=none->rmv H cl b=none:=fun b n=>by rw[xV (nc b n)];exact n
 refine⟨fun b o e n=>u.keep b o e (df b n),fun b o e n=>u.slot b o e (df b n),fun b o e n hx => ?_,u.there,fun b xs e => ?_,fun b o xs e => ?_,fun b q e => ?_⟩
 ·rw[zY (nc b n)];exact u.free b o e (df b n) hx
 ·have n:b≠cl:=fun z=>by rw[z,C] at e;cases e
  exact up b _ n (u.tups b xs (dn b _ e n))
 ·have n:b≠cl:=fun z=>by rw[z,C] at e;cases e
  exact up b _ n (u.frzs b o xs (dn b _ e n))
 ·have n:b≠cl:=fun z=>by rw[z,C] at e;cases e
  exact up b _ n (u.tbls b q (dn b _ e n))
def xV5{ps:List Str}{y:Str}{sc:Scope}{q:Str}{f:Addr}{uy:Value}{vy:V}{us:List Value}{vs:List V}{params:Arguments}{body:Expr}{k:Nat}{Q:VK}{t:TE}(S:LamScope ps y sc)(hr:Room (k+1) A)(e0:Env0 P w K mg base A outer s H)
  (L:LamAt H f q params body sc [(y,cl)]) (C:H cl=some (cellO cl oc)) (hd:oc.data=.cell (some uy)) (rv:RelV vy uy)
  (hb:∀(pm cd ctv:Value),bindArgs (PySem.W.kla_fn "<lambda>" q params body sc [(y,cl)] pm cd ctv) ⟨us,[]⟩=pure (ps.zip us)) (hl:vs.length=ps.length) (r:Vals vs us)
  (hbody:∀c':Addr,PE (cxLam P w K mg base (ps ++ [y]) q sc f (.ref c') [(y,cl)] A outer s (rmv H cl)) body t) (h:t (vs.map some ++ [some vy]) (rmv H cl) fun v H2=>H2 cl=none->Q v (upd H2 cl (cellO cl oc))) :
  codeAny (model P w) A (.call (.ref f) ⟨us,[]⟩) (CR CX0 outer P w H s Q E0) s:=by
 obtain⟨c',ctv,pm,o2,u,v,ws,tk,hf,hc',hd2,hq⟩:=L
 have gf:=(e0.hok f _ hf).1
 have gc:=(e0.hok c' _ hc').1
 have gcl:s.heap.get? cl=some oc:=(e0.hok cl _ C).1
 have nf:cl∉frs outer:=fun z=>by have:=e0.frf cl z;rw[C] at this;cases this
 refine codeAny_mono (yS7 S hr (e0.rmv C) gf ⟨c',o2,ws,tk,rfl,gc,hd2,hq⟩ ⟨oc,gcl,hd⟩ uF rv (hb _ _ _) hl r (fun _=>hbody c') h) fun r s' hq => ?_
 cases r with
 | error e=>exact False.elim hq
 | ok fl =>
  cases fl with
  | ret u =>
   obtain⟨v,H2,os,bare,un,hok,r,qq⟩:=hq
   have n2:H2 cl=none:=un.free cl oc gcl uF (by simp)
   have g2:s'.heap.get? cl=some oc:=un.keep cl oc gcl uF nf (by simp)
   exact⟨v,_,os,bare,un.unhide C,hok.lend n2 g2,r,qq n2⟩
  | _=>exact False.elim hq
def CallAt(P:Program)(w:World)(K:KFr)(mg:Str->Option Value)(base:Heap)(k:Nat)(H:Hp)(f:Addr)(vs:List V)(Q:VK):Prop :=
 (∃o fd u,H f=some (.frz o u)/\o.data=.func fd)/\∀(A:Around) (outer:List Env) (s:Shared) (us:List Value),Room k A->Env0 P w K mg base A outer s H->Vals vs us->codeAny (model P w) A (.call (.ref f) ⟨us,[]⟩) (CR CX0 outer P w H s Q E0) s
end
section
variable {X:Cx}{i k:Nat}{x:Str}{p pos:Pos}{e:Expr}{es:List Expr}{t:TA}
def xF8{DI:List (Addr×Obj)}{σ:St}{H:Hp}{s:Shared}{Q:VK}{us:List Value}{vs:List V}{f:Addr}(hr:Room k X.A)(I:Inv X DI σ H s)(r:Vals vs us)(h:CallAt X.prog X.w X.K X.mg X.base k H f vs Q):wpAny (model X.prog X.w) X.A (call (.ref f) us) (EP X DI σ Q) X.xe s:=by
 refine wpAny_call (codeAny_mono (h.2 X.A X.stack s us hr I.env0 r) fun r s' hq => ?_)
 cases r with
 | error e=>exact False.elim hq
 | ok fl =>
  cases fl with
  | ret u=>exact I.after hq
  | _=>exact False.elim hq
def tCallV(X:Cx)(k i:Nat)(t:TA):TE:=fun σ H Q=>∃f,σ[i]?=some (some (.ref f))/\t σ H fun vs H1=>CallAt X.prog X.w X.K X.mg X.base k H1 f vs Q
def xY7(hr:Room k X.A)(hN:X.N[i]?=some x)(hv:Vis X.env.scope x)(ha:PA X (e::es) t)(hd:autoParam ((x == ("__debug__":Str))=false) DG)(hcd:autoParam ((x == ("__classdict__":Str))=false) DG)
  (he:autoParam (starEach (e::es) X.env=(false,eval e X.env)::starEach es X.env) DH) (hpl:autoParam ((backTo pos (starEach es X.env)).any (·.1)=false) DH):PE X (.Call (.Name x p) (e::es) [] pos) (tCallV X k i t):=by
 intro DI s σ H Q I h
 obtain⟨f,hf,h⟩:=h
 refine wpAny_Call_Name_kw (thn (jJ (pos:=p) hN hv hd hcd DI s σ H (fun v H'=>v=.ref f/\H'=H) I ⟨_,hf,rfl,rfl⟩) fun u s1 ⟨v,H',I1,r1,e1,e2⟩ => ?_)
 subst e1 e2
 obtain rfl:u=Value.ref f:=r1
 have hh:=ha pos DI s1 σ _ _ I1 h
 rw[he] at hh ⊢
 refine PySem.W.callWith_of (P:=fun hp=>∃o fd,hp.get? f=some o/\o.data=.func fd) (by show ((false || (backTo pos (starEach es X.env)).any (·.1)) || false)=false;rw[hpl];rfl) (fun hp ⟨o,fd,g,d⟩=>⟨.frame,.inl rfl,?_⟩) (Dm (thn hh fun us s2 ⟨vs,H2,I2,r2,q2⟩ => ?_))
 ·refine (PySem.W.Looks.ld (part:=none) g).andThen ?_
  rw[d]
  exact .now
 ·obtain⟨⟨o,fd,u,hH,hdd⟩,_⟩:=id q2
  exact⟨⟨o,fd,(I2.hok f _ hH).1,hdd⟩,xF8 hr I2 r2 q2⟩
end
end L2
namespace L2.L3
open PySem PySem.Spec PyProof.Rows MR
variable [CN]
def bxD:D->Option Nat
 | .tuple [.int b,.tuple _]=>some b.toNat
 | _=>none
def nxD:D->Nat->D
 | .tuple [.int _,.tuple ds],x=>ds.getD x .none
 | _,_=>.none
inductive TrS(n:Nat):D->Prop
 | none:TrS n .none
 | node {b:Nat}{ds:List D}:b<n->ds.length=n->(∀d∈ds,TrS n d)->TrS n (.tuple [.int (b:Int),.tuple ds])
def oV:Option Nat->V
 | none=>.non
 | some x=>.int (x:Int)
def zP9(l:List (Option Nat)):(l.map oV).all flatV=true:=by
 rw[List.all_map]
 exact AF.mpr fun x _=>by cases x <;> rfl
def yT5(i j:Int):eqV (.int i) (.int j)=decide (i=j):=by
 show (i == j)=_
 rw[BD,beq_iff_eq,decide_eq_true_iff]
def xR1(l:List (Option Nat))(p:Nat):inV (.int (p:Int)) (l.map oV)=l.contains (some p):=by
 unfold inV
 rw[List.any_map,BD,Ck,AE]
 constructor
 ·rintro ⟨x,hx,e⟩
  cases x with
  | none=>cases e
  | some y =>
   have e:eqV (.int (y:Int)) (.int (p:Int))=true:=e
   rw[yT5] at e
   have:=of_decide_eq_true e
   have:y=p:=by rfl'
   rw[<-this]
   exact hx
 ·intro h
  refine⟨_,h,?_⟩
  show eqV (.int (p:Int)) (.int (p:Int))=true
  rw[yT5]
  exact AB rfl
def xW7{l:List (Option Nat)}{b:Nat}{o:Option Nat}(h:l[b]?=some o):atI (l.map oV) (b:Int)=some (oV o):=by
 unfold atI ixN
 have hb:=(Ac.mp h).1
 rw[Aa,Aq (by rfl'),Aq (by rfl')]
 simp[h]
def rTupV(K:KFr):List V->Hp->VK->Prop:=fun xs H Q=>∃p ys,xs=[.ref p]/\((SqL K H p ys/\∀l,H l=none->Q (.ref l) (upd H l (.tup ys)))\/(SqT K H p ys/\Q (.ref p) H))
def tTnB(X:Cx)(k:Nat):TS:=tSeq (tAsg (tIf (tB (tIsN (tVar 6))) (tBM X.K "list" (rIdx X.K) (tVar 2) (zO (tC .non) tNil)) (tOp (rIxT X.K) (tVar 6) (tC (.int 0)))) (gName 7))
 (tSeq (tIfS (tB (tIsN (tOp (rIxL X.K) (tVar 2) (tVar 7)))) (tSeq (tDrop (tBM X.K "list" rAppend (tVar 4) (zO (tVar 7) tNil))) (tSeq (tAsg (tCallV X k 3 (zO (tVar 7) (zO (tVar 5) tNil))) (gName 5)) (tAsg (tVar 5) (gSub (tVar 2) (tVar 7) rSetL)))) tNext)
  (tIfS (tB (tNotN (tVar 6))) (tAsg (tOp (rIxT X.K) (tOp (rIxT X.K) (tVar 6) (tC (.int 1))) (tOp (rIxL X.K) (tVar 2) (tVar 7))) (gName 6)) tNext))
def tTn(X:Cx)(k:Nat):TS:=tSeq (tAsg (tLst tNil) (gName 4)) (tSeq (tAsg (tVar 1) (gName 5)) (tSeq (tAsg (tVar 0) (gName 6)) (tSeq (tWhile (tTest (tOp (rIn X.K true) (tVar 1) (tVar 2))) (tTnB X k)) (tRet (tTup (zO (tVar 1) (zO (tCB (rTupV X.K) (zO (tVar 4) tNil)) tNil)))))))
def AskOk(X:Cx)(k:Nat)(H0:Hp)(sa f:Addr)(n:Nat)(g:Nat->Nat->Nat):Prop:=∀(H:Hp) (b l:Nat) (Q:VK),(∀c o,H0 c=some o->c≠sa->H c=some o)->b<n->l<n->Q (.int ((g b l:Nat):Int)) H->CallAt X.prog X.w X.K X.mg X.base k H f [.int (b:Int),.int (l:Int)] Q
structure TnAt(H0:Hp)(sa ba:Addr)(seen:List (Option Nat))(bs:List Nat)(vr:V)(t:D)(H:Hp):Prop where
 same:∀c o,H0 c=some o->c≠sa->H c=some o
 see:H sa=some (.lst (seen.map oV))
 box:H ba=some (.lst (bs.map fun (b:Nat)=>V.int (b:Int)))
 tree:Rep H (fun c=>c=sa\/c=ba) vr t
def TnAt.upd{H0 H:Hp}{sa ba c:Addr}{ho:HO}{seen seen':List (Option Nat)}{bs bs':List Nat}{vr:V}{t:D}(T:TnAt H0 sa ba seen bs vr t H)(hc:c=sa\/c=ba)(hb:H0 ba=none)(h1:(L2.upd H c ho) sa=some (.lst (seen'.map oV)))(h2:(L2.upd H c ho) ba=some (.lst (bs'.map fun (b:Nat)=>V.int (b:Int)))):TnAt H0 sa ba seen' bs' vr t (L2.upd H c ho):=by
 refine⟨fun d o e n => ?_,h1,h2,T.tree.keep (fun d o e n=>by rw[zY (fun z=>n (by rw[z];exact hc))];exact e) fun d _ z=>z⟩
 rw[zY (fun z=>by
  rcases hc with w | w
  ·exact n (z.trans w)
  ·rw[z,w,hb] at e;cases e)]
 exact T.same d o e n
def atN{l:List V}{x:Nat}{v:V}(h:l[x]?=some v):atI l (x:Int)=some v:=by
 unfold atI ixN
 have hb:=(Ac.mp h).1
 rw[Aq (by rfl'),Aq (by rfl')]
 simp[h]
def stepT(t:D)(x:Nat):D:=if bxD t=none then t else nxD t x
def zQ4{X:Cx}{H0 H:Hp}{sa fa ba:Addr}{seen:List (Option Nat)}{bs:List Nat}{vr:V}{t:D}{n b x:Nat}{p l:Int}{v0:Option V}{E:Ends}(T:TnAt H0 sa ba seen bs vr t H)(ht:TrS n t)(hx:seen[b]?=some (some x))(xn:x<n)
  (k0:∀vr',TnAt H0 sa ba seen bs vr' (stepT t x) H->TrS n (stepT t x)->E.nx [v0,some (.int p),some (.ref sa),some (.ref fa),some (.ref ba),some (.int l),some vr',some (.int (b:Int))] H) :
  (tIfS (tB (tNotN (tVar 6))) (tAsg (tOp (rIxT X.K) (tOp (rIxT X.K) (tVar 6) (tC (.int 1))) (tOp (rIxL X.K) (tVar 2) (tVar 7))) (gName 6)) tNext) E [v0,some (.int p),some (.ref sa),some (.ref fa),some (.ref ba),some (.int l),some vr,some (.int (b:Int))] H:=by
 refine⟨_,rfl,_,rfl,?_⟩
 show (if _=true then _ else _)
 have tr:=T.tree
 cases ht with
 | none =>
  cases tr
  rw[AJ (by decide)]
  exact k0 _ T .none
 | @node b' ds hb hl hd =>
  cases tr with
  | @tup a _ _ rd no rs =>
   cases rs with
   | cons r1 r2 =>
    cases r1
    cases r2 with
    | cons r2 r3 =>
     cases r3
     cases r2 with
     | @tup c ys _ rd2 no2 rs2 =>
      rw[Aq (show (!decide (V.ref a=V.non))=true by rw[AA (fun z=>nomatch z)];rfl)]
      have ex:ds[x]?=some (ds.getD x .none):=by
       rw[List.getD,Ab (by rw[hl];exact xn)]
       rfl
      obtain⟨y,ey,ry⟩:=rs2.get ex
      refine⟨_,rfl,a,_,1,.ref c,rfl,rfl,.inl rd,rfl,_,rfl,_,rfl,sa,_,_,_,rfl,rfl,SqL.of T.see,xW7 hx,c,ys,_,y,rfl,rfl,.inl rd2,atN ey,?_⟩
      have e:stepT (.tuple [.int (b':Int),.tuple ds]) x=ds.getD x .none:=rfl
      refine k0 y ?_ ?_
      ·rw[e];exact⟨T.same,T.see,T.box,ry⟩
      ·rw[e];exact hd _ (As ex)
def yV9{X:Cx}{kk:Nat}{H0 H:Hp}{sa fa ba:Addr}{seen:List (Option Nat)}{bs:List Nat}{vr:V}{t:D}{n b l:Nat}{p:Int}{g:Nat->Nat->Nat}{v0:Option V}{E:Ends}(T:TnAt H0 sa ba seen bs vr t H)(hb0:H0 ba=none)(hs0:∃o,H0 sa=some o)(ask:AskOk X kk H0 sa fa n g)(hn:seen.length=n)(bn:b<n)(ln:l<n)(hbs:bs.length<1000)(hx:seen[b]?=some none)
  (k0:∀H',TnAt H0 sa ba (seen.set b (some (g b l))) (bs ++ [b]) vr t H'->E.nx [v0,some (.int p),some (.ref sa),some (.ref fa),some (.ref ba),some (.int ((g b l:Nat):Int)),some vr,some (.int (b:Int))] H') :
  (tIfS (tB (tIsN (tOp (rIxL X.K) (tVar 2) (tVar 7)))) (tSeq (tDrop (tBM X.K "list" rAppend (tVar 4) (zO (tVar 7) tNil))) (tSeq (tAsg (tCallV X kk 3 (zO (tVar 7) (zO (tVar 5) tNil))) (gName 5)) (tAsg (tVar 5) (gSub (tVar 2) (tVar 7) rSetL)))) tNext) E [v0,some (.int p),some (.ref sa),some (.ref fa),some (.ref ba),some (.int (l:Int)),some vr,some (.int (b:Int))] H:=by
 have sb:sa≠ba:=fun z=>by obtain⟨o,e⟩:=hs0;rw[z,hb0] at e;cases e
 refine⟨_,rfl,_,rfl,sa,_,_,_,rfl,rfl,SqL.of T.see,xW7 hx,_,rfl,?_⟩
 show (if _=true then _ else _)
 rw[Aq (by decide)]
 refine⟨_,rfl,.inl ⟨rfl,_,SqL.of T.box⟩,_,rfl,ba,_,_,rfl,rfl,T.box,by rw[Aa];exact small1000 (by rfl'),?_⟩
 have e1:(bs.map fun (b:Nat)=>V.int (b:Int)) ++ [V.int (b:Int)]=(bs ++ [b]).map fun (b:Nat)=>V.int (b:Int):=by rw[Az];rfl
 rw[e1]
 have T1:TnAt H0 sa ba seen (bs ++ [b]) vr t (L2.upd H ba (.lst ((bs ++ [b]).map fun (b:Nat)=>V.int (b:Int)))):=T.upd (.inr rfl) hb0 (by rw[zY sb];exact T.see) zS
 refine⟨fa,rfl,_,rfl,_,rfl,ask _ b l _ T1.same bn ln ?_⟩
 refine⟨_,rfl,_,rfl,_,rfl,sa,_,_,b,rfl,rfl,T1.see,?_,?_⟩
 ·unfold ixN
  rw[Aa,hn,Aq (by rfl'),Aq (by rfl')]
  simp
 ·have e2:(seen.map oV).set b (.int ((g b l:Nat):Int))=(seen.set b (some (g b l))).map oV:=by
   rw[List.map_set]
   rfl
  rw[e2]
  exact k0 _ (T1.upd (.inl rfl) hb0 zS (by rw[zY sb.symm];exact T1.box))
def TrS.leaf{n:Nat}{t:D}(h:TrS n t)(e:bxD t=Option.none):t=.none:=by
 cases h with
 | none=>rfl
 | node=>cases e
def TrS.box{n b:Nat}{t:D}(h:TrS n t)(e:bxD t=some b):b<n/\∃ds,t=.tuple [.int (b:Int),.tuple ds]:=by
 cases h with
 | none=>cases e
 | @node b' ds hb hl hd =>
  have e:some ((b':Int).toNat)=some b:=e
  rw[AI] at e
  cases e
  exact⟨hb,ds,rfl⟩
def yY6{X:Cx}{H0 H:Hp}{sa fa ba:Addr}{seen:List (Option Nat)}{bs:List Nat}{vr:V}{t:D}{n b:Nat}{p l:Int}{v0 u7:Option V}{Q:VK}(T:TnAt H0 sa ba seen bs vr t H)(ht:TrS n t)(bn:b<1000)(h:(bxD t=some b)\/(bxD t=none/\seen[b]?=some none/\∀i,i<b->seen[i]?≠some none))(q:Q (.int (b:Int)) H) :
  tIf (tB (tIsN (tVar 6))) (tBM X.K "list" (rIdx X.K) (tVar 2) (zO (tC .non) tNil)) (tOp (rIxT X.K) (tVar 6) (tC (.int 0))) [v0,some (.int p),some (.ref sa),some (.ref fa),some (.ref ba),some (.int l),some vr,u7] H Q:=by
 refine⟨_,rfl,_,rfl,?_⟩
 show (if _=true then _ else _)
 have tr:=T.tree
 rcases h with e | ⟨e,h1,h2⟩
 ·obtain⟨_,ds,rfl⟩:=ht.box e
  cases tr with
  | @tup a _ _ rd no rs =>
   cases rs with
   | cons r1 r2 =>
    cases r1
    rw[AJ (show ¬decide (V.ref a=V.non)=true by rw[AA (fun z=>nomatch z)];decide)]
    exact⟨_,rfl,a,_,0,_,rfl,rfl,.inl rd,atN (x:=0) rfl,q⟩
 ·obtain rfl:=ht.leaf e
  cases tr
  rw[Aq (by decide)]
  refine⟨_,rfl,.inl ⟨rfl,_,SqL.of T.see⟩,sa,_,.non,b,.non,rfl,rfl,SqL.of T.see,rfl,zP9 _,by rw[Ai,h1];rfl,rfl,fun m z hm ez => ?_,by rfl',q⟩
  rw[Ai] at ez
  obtain⟨o,eo,rfl⟩:=Ar.mp ez
  cases o with
  | none=>exact absurd eo (h2 m hm)
  | some x=>rfl
def xL1{X:Cx}{kk:Nat}{H0:Hp}{sa fa:Addr}{seen0 out:List (Option Nat)}{rs0:List Rv}{v0:V}{t0:D}{n m0 p:Nat}{g:Nat->Nat->Nat}{E:Ends}(hs:H0 sa=some (.lst (seen0.map oV)))(ht0:Rep H0 (fun c=>c=sa) v0 t0)(tr0:TrS n t0)(hn:seen0.length=n)(n60:n<=60)(hp:p<n)(ins:∀x,some x∈seen0->x<n)(ask:AskOk X kk H0 sa fa n g)(hg:∀b l,b<n->l<n->g b l<n)(few:rs0.length<=900)
  (tn:Tn bxD nxD g p m0 t0 p seen0 rs0 out)
  (k0:∀(a c:Addr) (H':Hp),H0 a=none->H0 c=none->a≠c->(∀d o,H0 d=some o->d≠sa->H' d=some o)->H' sa=some (.lst (out.map oV))->H' a=some (.tup [.int (p:Int),.ref c])->H' c=some (.tup (rs0.map fun r=>V.int ((r.1:Nat):Int)))->E.rt (.ref a) H') :
  tTn X kk E [some v0,some (.int (p:Int)),some (.ref sa),some (.ref fa),none,none,none,none] H0:=by
 refine⟨AQ _,fun ba hba => ?_⟩
 have sb:sa≠ba:=fun z=>by rw[z,hba] at hs;cases hs
 have T0:TnAt H0 sa ba seen0 [] v0 t0 (L2.upd H0 ba (.lst [])):=by
  refine⟨fun c o e _ => ?_,?_,zS,ht0.keep (fun c o e _ => ?_) fun c hc z => ?_⟩
  ·rw[zY (fun z=>by rw[z,hba] at e;cases e)];exact e
  ·rw[zY sb];exact hs
  ·rw[zY (fun z=>by rw[z,hba] at e;cases e)];exact e
  ·rcases z with z | z
   ·exact z
   ·exact absurd hba (by rw[<-z];exact hc)
 generalize L2.upd H0 ba (.lst [])=H1 at T0
 refine⟨_,rfl,?_⟩
 refine⟨_,rfl,?_⟩
 refine⟨fun m σ H=>∃t l seen bs rs vr u7,Tn bxD nxD g p m t l seen rs out/\bs++rs.map (·.1)=rs0.map (·.1)/\seen.length=n/\(∀x,some x∈seen->x<n)/\l<n/\TrS n t/\TnAt H0 sa ba seen bs vr t H/\σ=[some v0,some (.int (p:Int)),some (.ref sa),some (.ref fa),some (.ref ba),some (.int (l:Int)),some vr,u7],⟨m0,t0,p,seen0,[],rs0,v0,none,tn,rfl,hn,ins,hp,tr0,T0,rfl⟩,?_⟩
 rintro m σ H ⟨t,l,seen,bs,rs,vr,u7,tn,eb,hl,hin,hln,ht,T,rfl⟩
 refine⟨_,rfl,_,rfl,sa,_,rfl,.inl (SqL.of T.see),rfl,zP9 _,_,rfl,?_⟩
 show (if _=true then _ else _)
 rw[xR1]
 have lb:bs.length+rs.length=rs0.length:=by
  have:=Bw List.length eb
  rw[Ao,Aa,Aa] at this
  exact this
 have upd_in:∀(b y:Nat),y<n->∀x,some x∈seen.set b (some y)->x<n:=fun b y hy x hx=>by
  rcases List.mem_or_eq_of_mem_set hx with z | z
  ·exact hin x z
  ·cases z;exact hy
 cases tn with
 | done h =>
  rw[AE.mpr h,AJ (by decide)]
  refine⟨_,rfl,_,rfl,ba,_,rfl,.inl ⟨SqL.of T.box,fun c hc => ?_⟩⟩
  refine⟨by show 2<=sizeLine;decide,fun a ha => ?_⟩
  have fr:∀d,H d=none->H0 d=none:=fun d hd=>by
   cases e:H0 d with
   | none=>rfl
   | some o =>
    by_cases z:d=sa
    ·rw[z,T.see] at hd;cases hd
    ·rw[T.same d o e z] at hd;cases hd
  have ac:a≠c:=fun z=>by rw[z,zS] at ha;cases ha
  have ha':H a=none:=by rw[zY ac] at ha;exact ha
  have sc:sa≠c:=fun z=>by rw[<-z,T.see] at hc;cases hc
  have sa':sa≠a:=fun z=>by rw[<-z,T.see] at ha';cases ha'
  refine k0 a c _ (fr a ha') (fr c hc) ac (fun d o e n' => ?_) ?_ zS ?_
  ·have hd:=T.same d o e n'
   rw[zY (fun z=>by rw[z,ha'] at hd;cases hd),zY (fun z=>by rw[z,hc] at hd;cases hd)]
   exact hd
  ·rw[zY sa',zY sc];exact T.see
  ·rw[zY ac.symm,zS]
   rw[Dv,Bn] at eb
   rw[eb,AX]
   rfl
 | @leafN k _ _ b _ _ rs' h1 h2 h3 h4 tn' =>
  have bn:b<n:=by rw[<-hl];exact (Ac.mp h3).1
  have gn:=hg b l bn hln
  rw[show seen.contains (some p)=false by rw[<-Cb,AE];exact h1,Aq (by decide)]
  refine⟨fun σ' H'=>∃t l seen bs rs vr u7,Tn bxD nxD g p k t l seen rs out/\bs++rs.map (·.1)=rs0.map (·.1)/\seen.length=n/\(∀x,some x∈seen->x<n)/\l<n/\TrS n t/\TnAt H0 sa ba seen bs vr t H'/\σ'=[some v0,some (.int (p:Int)),some (.ref sa),some (.ref fa),some (.ref ba),some (.int (l:Int)),some vr,u7],fun σ' H' w=>⟨k,BR k,w⟩,?_⟩
  refine yY6 T ht (by rfl') (.inr ⟨h2,h3,h4⟩) ?_
  refine yV9 T hba ⟨_,hs⟩ ask hl bn hln (by rw[Av] at lb;rfl') h3 fun H' T' => ?_
  have hx:(seen.set b (some (g b l)))[b]?=some (some (g b l)):=Bv (by rw[hl];exact bn)
  refine zQ4 T' ht hx gn fun vr' T2 ht2 => ?_
  have es:stepT t (g b l)=t:=Aq h2
  rw[es] at T2 ht2
  exact⟨t,g b l,_,bs ++ [b],rs',vr',_,tn',by rw[Bd];exact eb,by rw[Bt];exact hl,upd_in b _ gn,gn,ht2,T2,rfl⟩
 | @nodeN k _ _ b _ _ rs' h1 h2 h3 tn' =>
  have bn:b<n:=(ht.box h2).1
  have gn:=hg b l bn hln
  rw[show seen.contains (some p)=false by rw[<-Cb,AE];exact h1,Aq (by decide)]
  refine⟨fun σ' H'=>∃t l seen bs rs vr u7,Tn bxD nxD g p k t l seen rs out/\bs++rs.map (·.1)=rs0.map (·.1)/\seen.length=n/\(∀x,some x∈seen->x<n)/\l<n/\TrS n t/\TnAt H0 sa ba seen bs vr t H'/\σ'=[some v0,some (.int (p:Int)),some (.ref sa),some (.ref fa),some (.ref ba),some (.int (l:Int)),some vr,u7],fun σ' H' w=>⟨k,BR k,w⟩,?_⟩
  refine yY6 T ht (by rfl') (.inl h2) ?_
  refine yV9 T hba ⟨_,hs⟩ ask hl bn hln (by rw[Av] at lb;rfl') h3 fun H' T' => ?_
  have hx:(seen.set b (some (g b l)))[b]?=some (some (g b l)):=Bv (by rw[hl];exact bn)
  refine zQ4 T' ht hx gn fun vr' T2 ht2 => ?_
  have es:stepT t (g b l)=nxD t (g b l):=AJ (by rw[h2];exact fun z=>nomatch z)
  rw[es] at T2 ht2
  exact⟨_,g b l,_,bs ++ [b],rs',vr',_,tn',by rw[Bd];exact eb,by rw[Bt];exact hl,upd_in b _ gn,gn,ht2,T2,rfl⟩
 | @nodeO k _ _ b x _ _ _ h1 h2 h3 tn' =>
  have bn:b<n:=(ht.box h2).1
  have xn:x<n:=hin x (As h3)
  rw[show seen.contains (some p)=false by rw[<-Cb,AE];exact h1,Aq (by decide)]
  refine⟨fun σ' H'=>∃t l seen bs rs vr u7,Tn bxD nxD g p k t l seen rs out/\bs++rs.map (·.1)=rs0.map (·.1)/\seen.length=n/\(∀x,some x∈seen->x<n)/\l<n/\TrS n t/\TnAt H0 sa ba seen bs vr t H'/\σ'=[some v0,some (.int (p:Int)),some (.ref sa),some (.ref fa),some (.ref ba),some (.int (l:Int)),some vr,u7],fun σ' H' w=>⟨k,BR k,w⟩,?_⟩
  refine yY6 T ht (by rfl') (.inl h2) ?_
  refine⟨_,rfl,_,rfl,sa,_,_,_,rfl,rfl,SqL.of T.see,xW7 h3,_,rfl,?_⟩
  show (if _=true then _ else _)
  rw[AJ (show ¬decide (oV (some x)=V.non)=true by rw[AA (fun z=>nomatch z)];decide)]
  refine zQ4 T ht h3 xn fun vr' T2 ht2 => ?_
  have es:stepT t x=nxD t x:=AJ (by rw[h2];exact fun z=>nomatch z)
  rw[es] at T2 ht2
  exact⟨_,l,seen,bs,rs,vr',_,tn',eb,hl,hin,hln,ht2,T2,rfl⟩
def AskAt(P:Program)(w:World)(K:KFr)(mg:Str->Option Value)(base:Heap)(k:Nat)(H0:Hp)(sa f:Addr)(n:Nat)(g:Nat->Nat->Nat):Prop:=∀(H:Hp) (b l:Nat) (Q:VK),(∀c o,H0 c=some o->c≠sa->H c=some o)->b<n->l<n->Q (.int ((g b l:Nat):Int)) H->CallAt P w K mg base k H f [.int (b:Int),.int (l:Int)] Q
def spTurn(P:Program)(w:World)(K:KFr)(mg:Str->Option Value)(base:Heap)(kk:Nat):Sp:=fun vs H Q _=>∃(v0:V) (t0:D) (n m0 p:Nat) (sa fa:Addr) (seen0 out:List (Option Nat)) (rs0:List Rv) (g:Nat->Nat->Nat),vs=[v0,.int (p:Int),.ref sa,.ref fa]/\H sa=some (.lst (seen0.map oV))/\Rep H (fun c=>c=sa) v0 t0/\TrS n t0/\seen0.length=n/\n<=60/\p<n/\(∀x,some x∈seen0->x<n)/\AskAt P w K mg base kk H sa fa n g/\(∀b l,b<n->l<n->g b l<n)/\rs0.length<=900/\Tn bxD nxD g p m0 t0 p seen0 rs0 out /\
 ∀(a c:Addr) (H':Hp),H a=none->H c=none->a≠c->(∀d o,H d=some o->d≠sa->H' d=some o)->H' sa=some (.lst (out.map oV))->H' a=some (.tup [.int (p:Int),.ref c])->H' c=some (.tup (rs0.map fun r=>V.int ((r.1:Nat):Int)))->Q (.ref a) H'
section
variable {P:Program}{w:World}{K:KFr}{mg:Str->Option Value}{base:Heap}
def xP6{x:Str}{st:Stmt}{f:Addr}{fd:FuncData}{N ps:List Str}{k kk:Nat}(F:Fun K x x st f fd)(S:zI N ps (zU st))(hp:ps.length=4)(hN:N.length=8)
  (hbody:∀(cdv:Value) (A:Around) (outer:List Env) (s:Shared) (H:Hp) (E:XK),Room k (A.deeper (envOfC x (zU st) s.heap.objs.size f cdv))->PSs (cxOf CX0 P w K mg base N x (zU st) f cdv A outer s H E).nox (defBody st) (tTn (cxOf CX0 P w K mg base N x (zU st) f cdv A outer s H E).nox kk)) :
  FnOk P w K mg base CX0 (k+1) f fd ps (spTurn P w K mg base kk):=by
 refine F.ok S (fun vs H Q E ⟨v0,t0,n,m0,p,sa,fa,seen0,out,rs0,g,e,_⟩=>by rw[e,hp];rfl) fun cdv A outer s H vs Q E hr h => ?_
 obtain⟨v0,t0,n,m0,p,sa,fa,seen0,out,rs0,g,rfl,h1,h2,h3,h4,h5,h6,h7,h8,h9,h10,h11,q⟩:=h
 refine⟨_,hbody cdv A outer s H E hr,?_⟩
 have st:start N [v0,V.int (p:Int),V.ref sa,V.ref fa]=[some v0,some (.int (p:Int)),some (.ref sa),some (.ref fa),none,none,none,none]:=by
  unfold start
  rw[hN]
  rfl
 rw[st]
 exact xL1 h1 h2 h3 h4 h5 h6 h7 h8 h9 h10 h11 q
end
def rLenV(K:KFr):List V->Hp->VK->Prop:=fun xs H Q=>∃p ys,xs=[.ref p]/\(SqL K H p ys\/SqT K H p ys)/\Q (.int ys.length) H
section
variable (P:Program) (w:World) (K:KFr) (mg:Str->Option Value) (base:Heap)
def AskE(k:Nat)(H0:Hp)(f:Addr)(n:Nat)(g:Nat->Nat->Nat):Prop:=∀(H:Hp) (b l:Nat) (Q:VK),Same H0 H->b<n->l<n->Q (.int ((g b l:Nat):Int)) H->CallAt P w K mg base k H f [.int (b:Int),.int (l:Int)] Q
def tGm(kk:Nat)(wi:TI):TS:=tSeq (tAsg (tOp rRep (tLst (zO (tC .non) tNil)) (tCB (rLenV K) (zO (tVar 0) tNil))) (gName 3)) (tSeq (tAsg (tLst tNil) (gName 4))
 (tSeq (tFor wi (gName 5) (tIfS (tTest (tOp (rIn K true) (tVar 5) (tVar 3))) (tDrop (tBM K "list" rAppend (tVar 4) (zO (tCall (spTurn P w K mg base kk) [] E0 (zO (tOp (rIxT K) (tVar 0) (tVar 5)) (zO (tVar 5) (zO (tVar 3) (zO (tVar 2) tNil))))) tNil))) tNext))
  (tRet (tTup (zO (tVar 4) (zO (tVar 3) tNil))))))
end
def TurnsAt(H0 H:Hp)(as:List Addr)(out:List (Nat×List Rv)):Prop:=as.length=out.length/\∀(j:Nat) (a:Addr) (z:Nat×List Rv),as[j]?=some a->out[j]?=some z->∃c,H0 c=none/\H a=some (.tup [.int ((z.1:Nat):Int),.ref c])/\H c=some (.tup (z.2.map fun r=>V.int ((r.1:Nat):Int)))
structure GmAt(H0:Hp)(sa da:Addr)(seen:List (Option Nat))(out:List (Nat×List Rv))(H:Hp):Prop where
 same:Same H0 H
 see:H sa=some (.lst (seen.map oV))
 don:∃as,H da=some (.lst (as.map V.ref))/\TurnsAt H0 H as out/\∀a∈as,H0 a=none
def GmAt.up{H0 H H1:Hp}{sa da:Addr}{seen:List (Option Nat)}{out:List (Nat×List Rv)}(G:GmAt H0 sa da seen out H)(s4:Same H H1):GmAt H0 sa da seen out H1:=by
 obtain⟨as,e1,e2,e3⟩:=G.don
 exact⟨G.same.trans s4,s4 _ _ G.see,as,s4 _ _ e1,⟨e2.1,fun j a z ea ez=>by obtain⟨c,q0,q1,q2⟩:=e2.2 j a z ea ez;exact⟨c,q0,s4 _ _ q1,s4 _ _ q2⟩⟩,e3⟩
def xQ7{P:Program}{w:World}{K:KFr}{mg:Str->Option Value}{base:Heap}{kk:Nat}{wi:TI}{H0:Hp}{pa fa:Addr}{v1:V}{ds:List D}{n:Nat}{po:List Nat}{out:List (Nat×List Rv)}{fin:List (Option Nat)}{g:Nat->Nat->Nat}{E:Ends}
  (hp:Rep H0 (fun _=>False) (.ref pa) (.tuple ds)) (hl:ds.length=n) (tr:∀d∈ds,TrS n d) (n60:n<=60) (hpo:∀p∈po,p<n) (lpo:po.length<=60) (ask:AskE P w K mg base kk H0 fa n g) (hg:∀b l,b<n->l<n->g b l<n) (few:∀z∈out,z.2.length<=900)
  (tin:∀(p k:Nat) (seen mid:List (Option Nat)) (rs:List Rv),Tn bxD nxD g p k (ds.getD p .none) p seen rs mid->seen.length=n->p<n->(∀x,some x∈seen->x<n)->mid.length=n/\∀x,some x∈mid->x<n)
  (gm:Gm bxD nxD g (fun p=>ds.getD p .none) po (List.replicate n none) out fin)
  (hw:∀(σ:St) (H:Hp) (R:It->Hp->Prop),Same H0 H->σ[0]?=some (some (.ref pa))->σ[1]?=some (some v1)->(∀l H1,Same H H1->H1 l=none->R (Itl K l) (L2.upd H1 l (.lst (po.map fun (p:Nat)=>V.int (p:Int)))))->wi σ H R)
  (k0:∀(a da sa:Addr) (H':Hp),H0 a=none->H0 da=none->H0 sa=none->GmAt H0 sa da fin out H'->H' a=some (.tup [.ref da,.ref sa])->E.rt (.ref a) H') :
  tGm P w K mg base kk wi E [some (.ref pa),some v1,some (.ref fa),none,none,none] H0:=by
 cases hp with
 | @tup _ ys _ rd no rs =>
 have yl:ys.length=n:=by rw[rs.length,hl]
 refine⟨by show 1<=sizeLine;decide,fun l1 h1 => ?_⟩
 have s1:=Same.new h1 (o:=.lst [V.non])
 refine⟨_,rfl,pa,ys,rfl,.inr (.inl (yM rd fun o e=>s1 _ _ e)),l1,_,_,rfl,rfl,zS,by rfl',by rfl',?_,?_⟩
 ·rw[yl]
  have:(60:Nat)<sizeLine:=by decide
  show 1*_<=_
  rfl'
 intro sa hsa
 have e0:(List.replicate (ys.length:Int).toNat [V.non]).flatten=(List.replicate n (none:Option Nat)).map oV:=by
  rw[AI,yl,List.map_replicate]
  clear hsa
  induction n with
  | zero=>rfl
  | succ m ih=>rw[Bq,BH,Bq];simp[oV]
 rw[e0]
 have s2:Same H0 (L2.upd (L2.upd H0 l1 (.lst [V.non])) sa (.lst ((List.replicate n (none:Option Nat)).map oV))):=s1.trans (Same.new hsa)
 have sa0:H0 sa=none:=s1.free hsa
 have see0:(L2.upd (L2.upd H0 l1 (.lst [V.non])) sa (.lst ((List.replicate n (none:Option Nat)).map oV))) sa=some (.lst ((List.replicate n (none:Option Nat)).map oV)):=zS
 generalize L2.upd (L2.upd H0 l1 (.lst [V.non])) sa (.lst ((List.replicate n (none:Option Nat)).map oV))=H2 at s2 see0
 refine⟨AQ _,fun da hda => ?_⟩
 have s3:=Same.new hda (o:=.lst [])
 have da0:H0 da=none:=s2.free hda
 have sd:sa≠da:=fun z=>by rw[<-z,see0] at hda;cases hda
 have G0:GmAt H0 sa da (List.replicate n none) [] (L2.upd H2 da (.lst [])):=⟨s2.trans s3,s3 _ _ see0,[],zS,⟨rfl,fun j a z ea=>by cases ea⟩,fun a ha=>nomatch ha⟩
 generalize L2.upd H2 da (.lst [])=H3 at G0
 refine hw _ H3 _ G0.same rfl rfl fun l H4 s34 hl0 => ?_
 replace G0:=G0.up s34
 clear s34
 have l0:H0 l=none:=G0.same.free hl0
 have s4:=Same.new hl0 (o:=.lst (po.map fun (p:Nat)=>V.int (p:Int)))
 have ls:l≠sa:=fun z=>by rw[z,G0.see] at hl0;cases hl0
 have ld:l≠da:=fun z=>by obtain⟨as,e,_⟩:=G0.don;rw[z,e] at hl0;cases hl0
 have G1:GmAt H0 sa da (List.replicate n none) [] (L2.upd H4 l (.lst (po.map fun (p:Nat)=>V.int (p:Int)))):=by
  obtain⟨as,e1,e2,e3⟩:=G0.don
  exact⟨G0.same.trans s4,s4 _ _ G0.see,as,s4 _ _ e1,⟨e2.1,fun j a z ea ez=>by obtain⟨c,q0,q1,q2⟩:=e2.2 j a z ea ez;exact⟨c,q0,s4 _ _ q1,s4 _ _ q2⟩⟩,e3⟩
 refine xW5 (xs:=po.map fun (p:Nat)=>V.int (p:Int)) (fun i σ H=>∃u5 seen rest dn,σ=[some (.ref pa),some v1,some (.ref fa),some (.ref sa),some (.ref da),u5]/\Gm bxD nxD g (fun p=>ds.getD p .none) (po.drop i) seen rest fin/\dn++rest=out/\dn.length<=i/\GmAt H0 sa da seen dn H/\seen.length=n/\(∀x,some x∈seen->x<n)/\H l=some (.lst (po.map fun (p:Nat)=>V.int (p:Int))))
  ⟨none,_,out,[],rfl,gm,rfl,AQ _,G1,Bj,fun x hx=>(by have:=List.eq_of_mem_replicate hx;cases this),zS⟩ (fun i σ H _ ⟨_,_,_,_,_,_,_,_,_,_,_,e⟩=>SqL.of e) ?_ ?_
 ·rintro i v σ H ev ⟨u5,seen,rest,dn,rfl,gm,eo,ld0,G,hs,hin,hll⟩
  rw[Ai] at ev
  obtain⟨p,ep,rfl⟩:=Ar.mp ev
  have hi:=(Ac.mp ep).1
  have pn:p<n:=hpo p (As ep)
  have dr:po.drop i=p::po.drop (i+1):=by
   rw[BB hi]
   rw[Ab hi] at ep
   rw[AW ep]
  rw[dr] at gm
  refine⟨_,rfl,_,rfl,sa,_,rfl,.inl (SqL.of G.see),rfl,zP9 _,_,rfl,?_⟩
  show (if _=true then _ else _)
  rw[xR1]
  cases gm with
  | skip h gm' =>
   rw[AE.mpr h,AJ (by decide)]
   exact⟨_,seen,rest,dn,rfl,gm',eo,by rfl',G,hs,hin,hll⟩
  | @play _ k _ _ mid _ rs1 out' h tn gm' =>
   rw[show seen.contains (some p)=false by rw[<-Cb,AE];exact h,Aq (by decide)]
   obtain⟨as,d1,d2,d3⟩:=G.don
   have ex:ds[p]?=some (ds.getD p .none):=by
    rw[List.getD,Ab (by rw[hl];exact pn)]
    rfl
   obtain⟨y,ey,ry⟩:=rs.get ex
   have mo:(p,rs1)∈out:=by rw[<-eo];exact Ag _ Ae
   obtain⟨m1,m2⟩:=tin p k seen mid rs1 tn hs pn hin
   refine⟨_,rfl,.inl ⟨rfl,_,SqL.of d1⟩,_,rfl,_,rfl,pa,ys,_,y,rfl,rfl,.inl (yM rd fun o e=>G.same _ _ e),atN ey,_,rfl,_,rfl,_,rfl,y,ds.getD p .none,n,k,p,sa,fa,seen,mid,rs1,g,rfl,G.see,ry.keep (fun b o e _=>G.same b o e) (fun b hb z=>absurd sa0 (by rw[<-z];exact hb)),tr _ (As ex),hs,n60,pn,hin,?_,hg,few _ mo,tn,?_⟩
   ·intro H1 b l Q keep bn ln q
    exact ask H1 b l Q (fun c o e=>keep c o (G.same _ _ e) (fun z=>by rw[z,sa0] at e;cases e)) bn ln q
   ·intro a c H' ha hc ac keep hsee hta htc
    have dda:=keep _ _ d1 sd.symm
    have aln:as.length<=i:=by rw[d2.1];exact ld0
    refine⟨da,_,_,rfl,rfl,dda,by rw[Aa];exact small1000 (by rfl'),?_⟩
    have nad:∀(x:Addr) (o:HO),H' x=some o->(∀zs,o ≠ .lst zs)->(L2.upd H' da (.lst (as.map V.ref ++ [.ref a]))) x=some o:=fun x o e n'=>by
     rw[zY (fun z=>by rw[z,dda] at e;cases e;exact n' _ rfl)]
     exact e
    refine⟨_,mid,out',dn ++ [(p,rs1)],rfl,gm',by rw[Bd];exact eo,by rw[Ao,Bc];rfl',⟨fun b o e => ?_,?_,as ++ [a],?_,⟨?_,fun j b z eb ez => ?_⟩,fun b hb => ?_⟩,m1,m2,?_⟩
    ·rw[zY (fun z=>by rw[z,da0] at e;cases e)]
     exact keep _ _ (G.same _ _ e) (fun z=>by rw[z,sa0] at e;cases e)
    ·rw[zY sd];exact hsee
    ·rw[zS,Az];rfl
    ·rw[Ao,Ao,d2.1];rfl
    ·by_cases hj:j<as.length
     ·rw[Bl hj] at eb
      rw[Bl (by rw[<-d2.1];exact hj)] at ez
      obtain⟨c',q0,q1,q2⟩:=d2.2 j b z eb ez
      exact⟨c',q0,nad _ _ (keep _ _ q1 (fun w=>by rw[w,G.see] at q1;cases q1)) (fun zs w=>nomatch w),nad _ _ (keep _ _ q2 (fun w=>by rw[w,G.see] at q2;cases q2)) (fun zs w=>nomatch w)⟩
     ·rw[Bo (by rfl')] at eb
      rw[Bo (by rw[<-d2.1];rfl')] at ez
      have hj0:j-as.length=0:=by
       cases q:j-as.length with
       | zero=>rfl
       | succ i=>rw[q] at eb;cases eb
      rw[hj0] at eb
      rw[<-d2.1,hj0] at ez
      cases eb
      cases ez
      exact⟨c,G.same.free hc,nad _ _ hta (fun zs w=>nomatch w),nad _ _ htc (fun zs w=>nomatch w)⟩
    ·rcases AM.mp hb with q | q
     ·exact d3 b q
     ·rw[Cf.mp q]
      exact G.same.free ha
    ·rw[zY ld]
     exact keep _ _ hll ls
 ·rintro σ H ⟨u5,seen,rest,dn,rfl,gm,eo,_,G,hs,hin,hll⟩
  rw[Aa,BJ] at gm
  cases gm
  rw[Bn] at eo
  subst eo
  refine⟨_,rfl,_,rfl,by show 2<=sizeLine;decide,fun a ha => ?_⟩
  have s5:=Same.new ha (o:=.tup [V.ref da,V.ref sa])
  obtain⟨as,d1,d2,d3⟩:=G.don
  exact k0 a da sa _ (G.same.free ha) da0 sa0 ⟨G.same.trans s5,s5 _ _ G.see,as,s5 _ _ d1,⟨d2.1,fun j b z eb ez=>by obtain⟨c,q0,q1,q2⟩:=d2.2 j b z eb ez;exact⟨c,q0,s5 _ _ q1,s5 _ _ q2⟩⟩,d3⟩ zS
def TrS.next{n x:Nat}{t:D}(h:TrS n t)(hx:x<n):TrS n (nxD t x):=by
 cases h with
 | none=>exact .none
 | @node b ds hb hl hd =>
  show TrS n (ds.getD x .none)
  rw[List.getD,Ab (by rw[hl];exact hx)]
  exact hd _ (CK ..)
def xJ8{n:Nat}{g:Nat->Nat->Nat}(hg:∀b l,b<n->l<n->g b l<n){p k:Nat}{t:D}{l:Nat}{seen mid:List (Option Nat)}{rs:List Rv}(h:Tn bxD nxD g p k t l seen rs mid):TrS n t->seen.length=n->l<n->(∀x,some x∈seen->x<n)->mid.length=n/\∀x,some x∈mid->x<n:=by
 have put:∀(seen:List (Option Nat)) (b y:Nat),(∀x,some x∈seen->x<n)->y<n->∀x,some x∈seen.set b (some y)->x<n:=fun seen b y hin hy x hx=>by
  rcases List.mem_or_eq_of_mem_set hx with z | z
  ·exact hin x z
  ·cases z;exact hy
 induction h with
 | done h=>exact fun _ h1 _ h2=>⟨h1,h2⟩
 | @leafN k t l b seen out rs h1 h2 h3 h4 _ ih =>
  intro ht hl ln hin
  have bn:b<n:=by rw[<-hl];exact (Ac.mp h3).1
  exact ih ht (by rw[Bt];exact hl) (hg b l bn ln) (put seen b _ hin (hg b l bn ln))
 | @nodeN k t l b seen out rs h1 h2 h3 _ ih =>
  intro ht hl ln hin
  have bn:=(ht.box h2).1
  exact ih (ht.next (hg b l bn ln)) (by rw[Bt];exact hl) (hg b l bn ln) (put seen b _ hin (hg b l bn ln))
 | @nodeO k t l b x seen out rs h1 h2 h3 _ ih =>
  intro ht hl ln hin
  exact ih (ht.next (hin x (As h3))) hl ln hin
def spPlayed(P:Program)(w:World)(K:KFr)(mg:Str->Option Value)(base:Heap)(kk:Nat)(Or:Hp->V->Nat->List Nat->Prop):Sp:=fun vs H Q _=>∃(pa fa:Addr) (v1:V) (ds:List D) (n:Nat) (po:List Nat) (out:List (Nat×List Rv)) (fin:List (Option Nat)) (g:Nat->Nat->Nat),vs=[.ref pa,v1,.ref fa]/\Rep H (fun _=>False) (.ref pa) (.tuple ds)/\ds.length=n/\(∀d∈ds,TrS n d)/\n<=60/\(∀p∈po,p<n)/\po.length<=60/\Or H v1 n po/\AskE P w K mg base kk H fa n g/\(∀b l,b<n->l<n->g b l<n)/\(∀z∈out,z.2.length<=900)/\Gm bxD nxD g (fun p=>ds.getD p .none) po (List.replicate n none) out fin /\
 ∀(a da sa:Addr) (H':Hp),H a=none->H da=none->H sa=none->GmAt H sa da fin out H'->H' a=some (.tup [.ref da,.ref sa])->Q (.ref a) H'
section
variable {P:Program}{w:World}{K:KFr}{mg:Str->Option Value}{base:Heap}
end
def yK4{H:Hp}{cl:Addr}{o:HO}(h:H cl=some o):L2.upd (rmv H cl) cl o=H:=by
 funext b
 by_cases z:b=cl
 ·subst z
  rw[zS,h]
 ·rw[zY z]
  exact xV z
section
variable {P:Program}{w:World}{K:KFr}{mg:Str->Option Value}{base:Heap}
def xP5{H0:Hp}{ps:List Str}{y:Str}{sc:Scope}{q:Str}{f cl oa:Addr}{oc:Obj}{uy:Value}{params:Arguments}{body:Expr}{k n i:Nat}{xs:List Int}(hi:i<2)(S:LamScope ps y sc)(hps:ps.length=2)(L:LamAt H0 f q params body sc [(y,cl)])(C:H0 cl=some (cellO cl oc))(hd:oc.data=.cell (some uy))(rv:RelV (.ref oa) uy)(ho:Rd H0 oa (.tup (xs.map V.int)))(o:Ord n xs)
  (hb:∀(us:List Value) (pm cd ctv:Value),us.length=2->bindArgs (PySem.W.kla_fn "<lambda>" q params body sc [(y,cl)] pm cd ctv) ⟨us,[]⟩=pure (ps.zip us))
  (hbody:∀(H:Hp) (A:Around) (outer:List Env) (s:Shared) (c':Addr),PE (cxLam P w K mg base (ps ++ [y]) q sc f (.ref c') [(y,cl)] A outer s (rmv H cl)) body (tOp (rIxT K) (tVar 2) (tVar i))) :
  AskE P w K mg base (k+1) H0 f n (fun b l=>if i=0 then nxt xs b else nxt xs l):=by
 intro H b l Q s bn ln hq
 have C':=s _ _ C
 have L':=L.ext (fun b o e=>s b o e)
 have oacl:oa≠cl:=fun z=>by
  rw[z] at ho
  rcases ho with ho | ⟨_,ho⟩
  ·rw[C] at ho;cases ho
  ·rw[C] at ho;cases ho
 refine⟨?_,fun A outer s1 us hr e0 r => ?_⟩
 ·obtain⟨c',ctv,pm,o2,u,v,ws,tk,hf,_⟩:=L'
  exact⟨_,_,_,hf,rfl⟩
 ·have hl:us.length=2:=by rw[<-r.length];rfl
  refine xV5 S hr e0 L' C' hd rv (fun pm cd ctv=>hb us pm cd ctv hl) (by rw[hps];rfl) r (fun c'=>hbody H A outer s1 c') ?_
  have gt:∀c:Nat,c<n->atI (xs.map V.int) (c:Int)=some (V.int ((nxt xs c:Nat):Int)):=fun c hc=>by
   rw[xF,xL (by rw[o.len];exact hc),o.xS hc]
   rfl
  have rd:Rd (rmv H cl) oa (.tup (xs.map V.int)):=yM ho fun o e=>by rw[xV oacl];exact s _ _ e
  have fin:Q (.int ((if i=0 then nxt xs b else nxt xs l:Nat):Int)) (L2.upd (rmv H cl) cl (cellO cl oc)):=by
   rw[yK4 C']
   exact hq
  rcases (show i=0\/i=1 by rfl') with rfl | rfl
  ·exact⟨_,rfl,_,rfl,oa,_,_,_,rfl,rfl,.inl rd,gt b bn,fun _=>fin⟩
  ·exact⟨_,rfl,_,rfl,oa,_,_,_,rfl,rfl,.inl rd,gt l ln,fun _=>fin⟩
end
end L2.L3
namespace L2
open PySem PySem.Spec PyProof.Rows
section
variable {X:Cx}{DI:List (Addr×Obj)}{σ:St}{H:Hp}{s:Shared}{m:Str->Option Value}
def xC4{h:Heap}{a:Addr}{m m':Str->Option Value}(x:h.Ns a m)(y:h.Ns a m'):m=m':=by
 obtain⟨o,es,ep,ho,d,_,f⟩:=x
 obtain⟨o',es',ep',ho',d',_,f'⟩:=y
 rw[ho] at ho'
 cases ho'
 rw[d] at d'
 cases d'
 funext n
 rw[<-f n,<-f' n]
def Inv.xZ7{Q:VK}{u:Value}{s':Shared}(I:Inv X DI σ H s)(h:CE X.stack X.prog X.w H s Q u s')(hm:s.heap.Ns X.env.locals m):EP X DI σ Q u s'/\s'.heap.Ns X.env.locals m:=by
 refine⟨I.after h,?_⟩
 obtain⟨v,H',os,bare,un,hok,r,q⟩:=h
 obtain⟨o,es,ep,ho,r⟩:=hm
 obtain⟨sl,hL⟩:=un.any ho I.free (by simp)
 exact⟨_,es,ep,hL,r⟩
def Inv.chg{b:Addr}{h':Heap}(I:Inv X DI σ H s)(f:FpOk X DI H b)(hm:s.heap.Ns X.env.locals m)(hm':h'.Ns X.env.locals m)(k:∀c o,c≠X.env.locals->c≠b->s.heap.get? c=some o->h'.get? c=some o):Inv X DI σ H { s with heap:=h' }:=by
 obtain⟨f0,f1,f2,f3,f4,f5⟩:=f
 have nb:∀c u,H c=some u->c≠b:=fun c u e z=>by rw[z,f0] at e;cases e
 have nL:∀c u,H c=some u->c≠X.env.locals:=fun c u e z=>by rw[z,I.free] at e;cases e
 refine I.step (g':=s.gens) (d':=s.drawn) (t':=s.toks) (ch:=[b]) (fun c hc => ?_) (fun c o hL _ hc e _=>k c o hL (fun z=>hc (by simp[z])) e) (fun c o hL _ hc e _=>⟨o.slots,k c o hL (fun z=>hc (by simp[z])) e⟩) (fun _ _ _ _ n=>n)
  (fun c o hc e => ?_) (fun _ _ e=>e) (fun _ _ _ e=>e) (fun _ _ e=>e) (fun m1 h1=>by rw[xC4 h1 hm];exact hm') (fun c u e=>(I.hok c u e).stay (fun d v hd q => ?_) (fun _ q=>q) (fun _ _ q=>q) fun _ _ _ q=>q) I.bare
 ·obtain rfl:c=b:=by simpa using hc
  exact⟨f3,f1,f4,f5⟩
 ·by_cases z:c=X.env.locals
  ·obtain⟨o',_,_,ho',_⟩:=hm'
   exact⟨o',by rw[z];exact ho'⟩
  ·exact⟨o,k c o z (fun z=>hc (by simp[z])) e⟩
 ·rcases hd with z | z
  ·rw[z] at q ⊢
   exact k c v (nL c u e) (nb c u e) q
  ·exact k d v (nL d _ z) (nb d _ z) q
def Inv.take{b:Addr}{o:HO}(I:Inv X DI σ H s)(f:FpOk X DI H b)(ok:ObjOk X.prog X.w (upd H b o) s.heap b o):Inv X DI σ (upd H b o) s:=by
 obtain⟨f0,f1,f2,f3,f4,f5⟩:=f
 have nb:∀c u,H c=some u->c≠b:=fun c u e z=>by rw[z,f0] at e;cases e
 have up:∀c u,H c=some u->upd H b o c=some u:=fun c u e=>by rw[zY (nb c u e)];exact e
 refine I.step (h':=s.heap) (g':=s.gens) (d':=s.drawn) (t':=s.toks) (ch:=[b]) (fun c hc => ?_) (fun c o _ _ _ e _=>e) (fun c o _ _ _ e _=>⟨o.slots,e⟩) (fun c o hc _ n=>by rw[zY (fun z=>hc (by simp[z]))];exact n)
  (fun c o _ e=>⟨o,e⟩) (fun c _ e=>up c _ e) (fun c _ _ e=>up c _ e) (fun c _ e=>up c _ e) (fun m1 h1=>h1) (fun c u e => ?_) I.bare
 ·obtain rfl:c=b:=by simpa using hc
  exact⟨f3,f1,f4,f5⟩
 ·by_cases z:c=b
  ·subst z
   rw[zS] at e
   cases e
   exact ok
  ·rw[zY z] at e
   exact (I.hok c u e).stay (fun d v _ q=>q) (fun d q=>up d _ q) (fun d _ q=>up d _ q) fun d _ _ q=>up d _ q
def Inv.sub{pins':List (Addr×Obj)}(I:Inv X DI σ H s)(h:∀p∈pins',p∈DI):Inv X pins' σ H s:=I.yE fun p hp=>I.pin p (Ag _ (h p hp))
def FpOk.at{b:Addr}{H':Hp}(f:FpOk X DI H b)(h:H' b=none):FpOk X DI H' b:=⟨h,f.2⟩
structure Two(X:Cx)(DI:List (Addr×Obj))(σ:St)(m:Str->Option Value)(a kS:Addr)(e1:Nat)(ks:List Value)(e:Nat)(H:Hp)(s:Shared):Prop where
 inv:Inv X DI σ H s
 ns:s.heap.Ns X.env.locals m
 fk:FpOk X DI H kS
 fa:FpOk X DI H a
 ne:kS≠a
 gk:s.heap.get? kS=some (seqObj "list" (List.toArray ks) e)
 ga:s.heap.get? a=some (seqObj "list" #[] e1)
def Two.pinned{a kS:Addr}{e1 e:Nat}{ks:List Value}(T:Two X DI σ m a kS e1 ks e H s):Inv X ((kS,seqObj "list" (List.toArray ks) e)::(a,seqObj "list" #[] e1)::DI) σ H s:=by
 refine T.inv.yE fun p hp => ?_
 rcases An.mp hp with rfl | hp
 ·exact⟨T.gk,T.fk.1,T.fk.2.1,T.fk.2.2.1,fun v z=>nomatch z⟩
 ·rcases An.mp hp with rfl | hp
  ·exact⟨T.ga,T.fa.1,T.fa.2.1,T.fa.2.2.1,fun v z=>nomatch z⟩
  ·exact T.inv.pin p (Ag _ hp)
def Two.call{a kS:Addr}{e1 e:Nat}{ks:List Value}{Q:VK}{u:Value}{s':Shared}(T:Two X DI σ m a kS e1 ks e H s)(h:CE X.stack X.prog X.w H s Q u s'):∃v H',Two X DI σ m a kS e1 ks e H' s'/\RelV v u/\Q v H':=by
 obtain⟨⟨v,H',I,r,q⟩,ns⟩:=T.pinned.xZ7 h T.ns
 have p1:=I.pin _ (Ag _ (Ae ..))
 have p2:=I.pin _ (Ag _ (Ad _ (Ae ..)))
 exact⟨v,H',⟨I.sub fun p hp=>Ad _ (Ad _ hp),ns,T.fk.at p1.2.1,T.fa.at p2.2.1,T.ne,p1.1,p2.1⟩,r,q⟩
def Two.fr{a kS:Addr}{e1 e:Nat}{ks:List Value}(T:Two X DI σ m a kS e1 ks e H s):Fr X.base X.env.locals s.heap m:=⟨T.ns,T.inv.bk,Bf T.inv.ok.bsz T.inv.ok.above⟩
def FpOk.nobase{b:Addr}(f:FpOk X DI H b)(I:Inv X DI σ H s):X.base.get? b=none:=by
 cases e:X.base.get? b with
 | none=>rfl
 | some o =>
  rcases f.2.2.2.1 with z | z
  ·exact absurd z (I.ok.noex b o e)
  ·exact absurd (Au (Ap e) (Bf I.ok.bsz z)) (Ca _)
def Two.newsK{a kS:Addr}{e1 e:Nat}{ks:List Value}(T:Two X DI σ m a kS e1 ks e H s):News X.base X.env.locals s.heap ((kS,seqObj "list" (List.toArray ks) e)::rest X.base s.heap X.env.locals kS):=zQ8 T.fk.2.1 (T.fk.nobase T.inv) T.gk
def Two.setK{a kS:Addr}{e1 e c:Nat}{ks ks':List Value}{h':Heap}(T:Two X DI σ m a kS e1 ks e H s)(F:Fr X.base X.env.locals h' m)(N:News X.base X.env.locals h' ((kS,seqObj "list" (List.toArray ks') c)::rest X.base s.heap X.env.locals kS)):Two X DI σ m a kS e1 ks' c H { s with heap:=h' }:=by
 have kp:=gE (fun b o e=>T.inv.bk b o e) F fun p hp=>N p (Ad _ hp)
 exact⟨T.inv.chg T.fk T.ns F.ns kp,F.ns,T.fk,T.fa,T.ne,(N _ (Ae ..)).1,kp _ _ T.fa.2.1 T.ne.symm T.ga⟩
def Two.setA{a kS:Addr}{e1 e c:Nat}{ks:List Value}{out:List V}{its:List Value}{h':Heap}(T:Two X DI σ m a kS e1 ks e H s)(F:Fr X.base X.env.locals h' m)(N:News X.base X.env.locals h' ((a,PySem.W.listOf (List.toArray its) c)::rest X.base s.heap X.env.locals a))(hz:out.length<=sizeLine)(r:Vals out its):Inv X DI σ (upd H a (.lst out)) { s with heap:=h' }:=by
 have kp:=gE (fun b o e=>T.inv.bk b o e) F fun p hp=>N p (Ad _ hp)
 have I:=T.inv.chg T.fa T.ns F.ns kp
 exact I.take T.fa ⟨hz,its,c,r,(N _ (Ae ..)).1⟩
end
end L2
namespace L2
open PySem PySem.Spec PyProof.Rows PySem.W
def KeyAt(H:Hp)(op:Nat->Int)(as:List Addr):Prop:=∀(j:Nat) (k:Addr),as[j]?=some k->H k=some (.tup [.int (op j),.int (j:Int)])
def ItemsFrom(i:Nat)(r:List Value):Prop:=∀(j:Nat) (v:Value),r[j]?=some v->∃t,v=.int ((i+j:Nat):Int) t
section
variable {X:Cx}{DI:List (Addr×Obj)}{σ:St}{H:Hp}{s:Shared}{m:Str->Option Value}{A:Around}
def AskK(X:Cx)(A:Around)(DI:List (Addr×Obj))(σ:St)(H0:Hp)(f:Addr)(n:Nat)(op:Nat->Int):Prop:=∀(i:Nat) (t:Tok) (H:Hp) (s:Shared),i<n->Ext H0 H->Inv X DI σ H s ->
 codeAny (model X.prog X.w) A (.call (.ref f) ⟨[.int (i:Int) t],[]⟩) (CR CX0 X.stack X.prog X.w H s (fun v H'=>∃k,v=.ref k/\H k=none/\H'=upd H k (.tup [.int (op i),.int (i:Int)])) E0) s
def yU1{a kS:Addr}{e1 e n i:Nat}{op:Nat->Int}{H0:Hp}{f:Addr}{t:Tok}{as:List Addr}{R:Value->Shared->Prop}(ask:AskK X A DI σ H0 f n op)(hi:i<n)(T:Two X DI σ m a kS e1 (as.map Value.ref) e H s)(x:Ext H0 H)(l:as.length=i)(ka:KeyAt H op as)
  (h:∀k H' s',Two X DI σ m a kS e1 (as.map Value.ref) e H' s'->Ext H0 H'->KeyAt H' op (as ++ [k])->R (.ref k) s'):wpAny (model X.prog X.w) A (call (.ref f) [.int (i:Int) t]) R (fun _ _=>False) s:=by
 refine wpAny_call (codeAny_mono (ask i t H s hi x T.inv) fun r s' hq => ?_)
 cases r with
 | error e=>exact False.elim hq
 | ok fl =>
  cases fl with
  | ret u =>
   obtain⟨v,H',T',rv,k,rfl,hk,rfl⟩:=T.call hq
   obtain rfl:u=Value.ref k:=rv
   have e1:Ext H (upd H k (.tup [.int (op i),.int (i:Int)])):=Ext.new hk
   refine h k _ s' T' (x.trans e1) fun j k' e => ?_
   by_cases hj:j<as.length
   ·rw[Bl hj] at e
    exact e1 _ _ (ka j k' e)
   ·rw[Bo (by rfl')] at e
    have hj0:j=as.length:=by
     cases q:j-as.length with
     | zero=>rfl'
     | succ z=>rw[q] at e;cases e
    subst hj0
    rw[Nat.sub_self] at e
    cases e
    rw[zS,l]
  | _=>exact False.elim hq
def zC8{a kS:Addr}{e1 n:Nat}{op:Nat->Int}{H0:Hp}{f:Addr}{Fin:List Value->Nat->Shared->Prop}(ask:AskK X A DI σ H0 f n op)
  (fin:∀as e H s,as.length=n->Two X DI σ m a kS e1 (as.map Value.ref) e H s->Ext H0 H->KeyAt H op as->Fin (as.map Value.ref) e s):∀(r:List Value) (i:Nat) (as:List Addr) (e:Nat) (H:Hp) (s:Shared),ItemsFrom i r->i+r.length=n->as.length=i->Two X DI σ m a kS e1 (as.map Value.ref) e H s->Ext H0 H->KeyAt H op as ->
   KatKeys X.prog X.w A X.base X.env.locals m kS (.ref f) Fin r (as.map Value.ref) e s
 | [],i,as,e,H,s,_,hn,l,T,x,ka=>KatKeys.nil (fin as e H s (by rw[l];simpa using hn) T x ka)
 | v::r,i,as,e,H,s,it,hn,l,T,x,ka=>by
  obtain⟨t,rfl⟩:=it 0 v rfl
  rw[Av] at hn
  refine KatKeys.cons (yU1 ask (by rfl') T x l ka fun k H' s' T' x' ka' => ?_)
  refine KatBack.intro T'.fr T'.newsK (UpdF.head aI) fun h' c F' N' => ?_
  have e0:as.map Value.ref ++ [Value.ref k]=(as ++ [k]).map Value.ref:=by rw[Az];rfl
  rw[e0] at N' ⊢
  exact zC8 ask fin r (i+1) (as ++ [k]) c H' _ (fun j v hv=>by obtain⟨t,e⟩:=it (j+1) v (by simpa using hv);exact⟨t,by rw[e];congr 2;rfl'⟩) (by rfl') (by rw[Ao,l];rfl) (T'.setK F' N') x' ka'
def xX3{p q:Int}{its:List Value}(r:Vals [V.int p,V.int q] its):∃t u,its=[.int p t,.int q u]:=by
 match its,r with
 | [],r=>cases r
 | [_],r=>have:=r.length;cases this
 | _::_::_::_,r=>have:=r.length;cases this
 | [a,b],r =>
  obtain⟨u1,e1,t,rfl⟩:=r.get (i:=0) rfl
  obtain⟨u2,e2,u,rfl⟩:=r.get (i:=1) rfl
  cases e1
  cases e2
  exact⟨t,u,rfl⟩
def zN2{op:Nat->Int}{as:List Addr}(ok:HOk X.prog X.w H s.heap)(ka:KeyAt H op as){j:Nat}{k:Addr}(e:as[j]?=some k):∃o n t u,s.heap.get? k=some o/\o.cls=.type "tuple"/\o.data=.seq #[.int (op j) t,.int (j:Int) u] n:=by
 obtain⟨_,its,r,o,ho,hc,⟨n,hd⟩,_⟩:=ok k _ (ka j k e)
 obtain⟨t,u,rfl⟩:=xX3 r
 exact⟨o,n,t,u,ho,hc,hd⟩
def zF7{op:Nat->Int}{h:Heap}:∀(as:List Addr) (i:Nat),(∀(j:Nat) (k:Addr),as[j]?=some k->∃o n t u,h.get? k=some o/\o.cls=.type "tuple"/\o.data=.seq #[.int (op (i+j)) t,.int ((i+j:Nat):Int) u] n)->∃fs,fs.length=as.length/\KatTups h (as.map Value.ref) fs/\∀v∈fs,∃z t,v=.int z t
 | [],_,_=>⟨[],rfl,KatTups.nil,fun v hv=>nomatch hv⟩
 | k::as,i,ka=>by
  obtain⟨o,n,t,u,ho,hc,hd⟩:=ka 0 k rfl
  obtain⟨fs,hl,T,hf⟩:=zF7 as (i+1) fun j k' e=>by
   have:=ka (j+1) k' (by simpa using e)
   rw[show i+(j+1)=i+1+j by rfl'] at this
   exact this
  refine⟨.int (op (i+0)) t::fs,by rw[Av,Av,hl],KatTups.cons ho hc hd (by rfl) T,fun v hv => ?_⟩
  rcases An.mp hv with rfl | hv
  ·exact⟨_,t,rfl⟩
  ·exact hf v hv
def xM6{op:Nat->Int}{as:List Addr}{n i j:Nat}{C:Bool->Shared->Prop}(ok:HOk X.prog X.w H s.heap)(ka:KeyAt H op as)(l:as.length=n)(n60:n<=60)(hi:i<n)(hj:j<n)(h:C (decide (op i*100+(i:Int)<op j*100+(j:Int))) s):kas_ask X.prog X.w A (tuples' true) (as.map Value.ref) i j C s:=by
 unfold kas_ask
 have ei:as[i]?=some as[i]:=Ab (by rfl')
 have ej:as[j]?=some as[j]:=Ab (by rfl')
 have gi:(as.map Value.ref).getD i Value.none=.ref as[i]:=by rw[List.getD,Ai,ei];rfl
 have gj:(as.map Value.ref).getD j Value.none=.ref as[j]:=by rw[List.getD,Ai,ej];rfl
 rw[gi,gj]
 obtain⟨o,n1,t,u,ho,hc,hd⟩:=zN2 ok ka ei
 obtain⟨o',n1',t',u',ho',hc',hd'⟩:=zN2 ok ka ej
 refine kat_lt ho hd ho' hd' ?_
 show KatLex _ _ _ true _ C [(_,_),(_,_)] 0 s
 refine kat_cons (wpAny_eqBool_int (kat_go (fun e => ?_) fun e => ?_))
 ·have e:op i=op j:=by simpa using e
  refine kat_yes (kat_cons (wpAny_eqBool_int (kat_go (fun e2 => ?_) fun e2 => ?_)))
  ·have e2:(i:Int)=j:=by simpa using e2
   refine kat_yes (kat_nil ?_)
   rw[AA (by rfl')] at h
   exact h
  ·have e2:¬(i:Int)=j:=by simpa using e2
   refine kat_no (kat_one _ _ (lt_int ?_))
   have:decide ((i:Int)<j)=decide (op i*100+(i:Int)<op j*100+(j:Int)):=decide_eq_decide.mpr (by rfl')
   show C _ s
   rw[this]
   exact h
 ·have e:¬op i=op j:=by simpa using e
  refine kat_no (oneLt_int ?_)
  have:decide (op i<op j)=decide (op i*100+(i:Int)<op j*100+(j:Int)):=decide_eq_decide.mpr (by rfl')
  rw[this]
  exact h
end
end L2
namespace L2
open PySem PySem.Spec PyProof.Rows PySem.W MR
def poK(n:Nat)(op:Nat->Int):List Nat:=if n<2 then List.range n else byK n fun i=>op i*100+(i:Int)
def dZ{n:Nat}{op:Nat->Int}(h6:n<=6):(poK n op).Perm (List.range n)/\(poK n op).Pairwise fun a b=>op a*100+(a:Int)<op b*100+(b:Int):=by
 unfold poK
 by_cases h:n<2
 ·rw[Aq h]
  rcases (show n=0\/n=1 by rfl') with rfl | rfl
  ·exact⟨.refl _,.nil⟩
  ·exact⟨.refl _,by simp⟩
 ·rw[AJ h]
  exact (yI9 (by rfl') h6 fun i j hi hj e=>by rfl').2
section
variable {X:Cx}{DI:List (Addr×Obj)}{σ:St}{H:Hp}{s:Shared}{m:Str->Option Value}{A:Around}
def zO8{a kS:Addr}{e1 e:Nat}{ks its:List Value}{n:Nat}{po:List Nat}{P:Shared->Prop}(T:Two X DI σ m a kS e1 ks e H s)(it:ItemsFrom 0 its)(hn:its.length=n)(n60:n<=60)(lt:∀p∈po,p<n)(ln:po.length=n)
  (h:∀s',Inv X DI σ (upd H a (.lst (po.map fun (p:Nat)=>V.int (p:Int)))) s'->P s'):KatFin X.base X.env.locals m kS a ks e e1 (po.map fun i=>its.getD i Value.none) P s:=by
 refine KatFin.intro T.fr T.newsK (UpdF.head aI) fun h' c F' N' => ?_
 have T2:=T.setK (ks':=[]) F' N'
 refine KasFin.intro T2.fr (zQ8 T2.fa.2.1 (T2.fa.nobase T2.inv) T2.ga) (UpdF.head aI) fun h2 c2 F2 N2 => ?_
 refine h _ (T2.setA F2 N2 ?_ ?_)
 ·rw[Aa,ln]
  have:(60:Nat)<sizeLine:=by decide
  rfl'
 ·refine L2.L3.kO (by rw[Aa,Aa]) fun i x y hx hy => ?_
  rw[Ai] at hx hy
  obtain⟨p,ep,rfl⟩:=Ar.mp hx
  rw[ep] at hy
  have hy:some (its.getD p Value.none)=some y:=hy
  cases hy
  have pn:=lt p (As ep)
  have eg:its[p]?=some (its.getD p Value.none):=by
   rw[List.getD,Ab (by rfl')]
   rfl
  obtain⟨t,et⟩:=it p _ eg
  refine⟨t,?_⟩
  rw[et,Nat.zero_add]
def yE6{a:Addr}{n e0:Nat}{op:Nat->Int}{f:Addr}{its:List Value}{P:PySem.Fin->Shared->Prop}{E:Value->Shared->Prop}(I:Inv X DI σ H s)(fa:FpOk X DI H a)(hsz:s.heap.objs.size=a+1)(ga:s.heap.get? a=some (seqObj "list" its.toArray e0))(it:ItemsFrom 0 its)(hn:its.length=n)(h2:2<=n)(h6:n<=6)
  (ask:AskK X A DI σ H f n op) (h:∀H' s',Ext H H'->H' a=none->Inv X DI σ (upd H' a (.lst ((poK n op).map fun (p:Nat)=>V.int (p:Int)))) s'->P (.done (.ret .none)) s') :
  wpAny (model X.prog X.w) A (ksk_tree a (.ref f) false) P E s:=by
 obtain⟨m,ns,_⟩:=id I.loc
 have F:Fr X.base X.env.locals s.heap m:=⟨ns,I.bk,Bf I.ok.bsz I.ok.above⟩
 have ab:=fa.nobase I
 obtain⟨b1,b2,b3⟩:=yI9 (n:=n) (κ:=fun i=>op i*100+(i:Int)) h2 h6 fun i j hi hj e=>by rfl'
 have ep:poK n op=byK n fun i=>op i*100+(i:Int):=AJ (by rfl')
 refine kat_keyed F (news:=rest X.base s.heap X.env.locals a) (fun p hp=>(zQ8 fa.2.1 ab ga) p (Ad _ hp)) ga fa.2.1 ab aI (by rfl') (by rfl') fun kS e1 h' F' N' hlt hall => ?_
 have gk:=(N' _ (Ae ..)).1
 have ga':=(N' _ (Ad _ (Ae ..))).1
 have kp:=gE (fun b o e=>I.bk b o e) F' fun p hp=>N' p (Ad _ (Ad _ hp))
 have sk:s.heap.objs.size<=kS:=Bf (Nat.le_of_eq hsz) (Nat.succ_le_of_lt hlt)
 have fk:FpOk X DI H kS:=I.fpOk sk (I.hok.fresh sk)
 have T:Two X DI σ m a kS e1 (([]:List Addr).map Value.ref) 0 H { s with heap:=h' }:=⟨I.chg fa ns F'.ns kp,F'.ns,fk,fa,BZ hlt,gk,ga'⟩
 refine zC8 ask (fun as e H' s' la T' x ka => ?_) its 0 [] 0 H _ it (by rfl') rfl T (Ext.refl H) fun j k z=>by cases z
 obtain⟨fs,lf,kt,ft⟩:=zF7 (h:=s'.heap) as 0 fun j k z=>by
  rw[Nat.zero_add]
  exact zN2 T'.inv.hok ka z
 refine kat_kind (T:=.type "int") kt (by rfl') (fun v hv => ?_) (by decide) ?_
 ·obtain⟨z,t,rfl⟩:=ft v hv
  exact .now
 show (kas_sort its.length).kasWp (kas_ask X.prog X.w A (tuples' true) (katRev false (as.map Value.ref))) _ s'
 rw[hn]
 refine yH5 (n:=n) (J:=fun z=>z=s') (lt:=fun i j=>decide (op i*100+(i:Int)<op j*100+(j:Int))) (fun i j C z hi hj jz hc => ?_) _ _ _ b1 rfl fun z jz => ?_
 ·subst jz
  exact xM6 T'.inv.hok ka la (by rfl') hi hj (hc _ rfl)
 ·subst jz
  have mem:∀p∈poK n op,p<n:=fun p hp=>by
   rw[ep] at hp
   exact Al.mp (b2.mem_iff.mp hp)
  have len:(poK n op).length=n:=by rw[ep,b2.length_eq,Aj]
  have fin:=zO8 (po:=poK n op) (P:=fun s4=>P (.done (.ret .none)) s4) T' it hn (by rfl') mem len fun s4 I4=>h H' s4 x T'.fa.1 I4
  rw[ep] at fin
  exact fin
def xP2{a kS:Addr}{e1 e:Nat}{k v:Value}{P:PySem.Fin->Shared->Prop}{E:Value->Shared->Prop}(h:KatFin X.base X.env.locals m kS a [k] e e1 [v] (fun s'=>P (.done (.ret .none)) s') s):wpAny (model X.prog X.w) A (ksk_end a false #[v] e1 (.ref kS) #[k]) P E s:=by
 unfold ksk_end
 dsimp only
 rw[AJ (by decide),Aq (by show 1<2;decide),Aq (by show 1<2;decide)]
 refine Ah (Ax ?_)
 rw[StateT.run_pure]
 refine Ah (Ax ?_)
 dsimp only
 exact kat_tail (ks:=[k]) (out:=[v]) (b:=false) (by show ((#[k].zip #[v]).map (·.2))=#[v];simp) (by show 1<64;decide) (by show 1<64;decide) rfl h
def xU7{a:Addr}{e0:Nat}{op:Nat->Int}{f:Addr}{v:Value}{P:PySem.Fin->Shared->Prop}{E:Value->Shared->Prop}(I:Inv X DI σ H s)(fa:FpOk X DI H a)(hsz:s.heap.objs.size=a+1)(ga:s.heap.get? a=some (seqObj "list" #[v] e0))(it:ItemsFrom 0 [v])
  (ask:AskK X A DI σ H f 1 op) (h:∀H' s',Ext H H'->H' a=none->Inv X DI σ (upd H' a (.lst ((poK 1 op).map fun (p:Nat)=>V.int (p:Int)))) s'->P (.done (.ret .none)) s') :
  wpAny (model X.prog X.w) A (ksk_tree a (.ref f) false) P E s:=by
 obtain⟨m,ns,_⟩:=id I.loc
 have one:(1:Nat)<=sizeLine:=by decide
 obtain⟨e1,g1⟩:∃e1,(s.heap.update a (Obj.mapSeq fun _=>(#[]:Array Value))).get? a=some (seqObj "list" #[] e1):=⟨_,get?_update_seq ga fun _=>#[]⟩
 have sz1:((s.heap.update a (Obj.mapSeq fun _=>(#[]:Array Value))).push (seqObj "tuple" #[v] 0)).objs.size=a+2:=by rw[size_push',Heap.size_update,hsz]
 have sk:s.heap.objs.size<=((s.heap.update a (Obj.mapSeq fun _=>(#[]:Array Value))).push (seqObj "tuple" #[v] 0)).objs.size:=by rw[sz1,hsz];exact Nat.le_succ _
 have ne1:((s.heap.update a (Obj.mapSeq fun _=>(#[]:Array Value))).push (seqObj "tuple" #[v] 0)).objs.size≠a:=by rw[sz1];exact BZ (Cv (BR a))
 unfold ksk_tree
 refine Ah (listItems_at ga rfl (Ah (listUpdate_at ga rfl (Ah (seqEpoch_at g1 rfl (Ah (wpAny_newTuple (Ah (wpAny_newList (wpAny_holding ?_) (AQ _))) one)))) one (AQ _))))
 have kp:∀c o,c≠a->s.heap.get? c=some o->(((s.heap.update a (Obj.mapSeq fun _=>(#[]:Array Value))).push (seqObj "tuple" #[v] 0)).push (seqObj "list" #[] 0)).get? c=some o:=fun c o hc e=>Af _ (Af _ ((BF _ _ (Cj hc)).trans e))
 have ns':(((s.heap.update a (Obj.mapSeq fun _=>(#[]:Array Value))).push (seqObj "tuple" #[v] 0)).push (seqObj "list" #[] 0)).Ns X.env.locals m:=by
  obtain⟨o,es,ep,ho,r⟩:=ns
  exact⟨o,es,ep,kp _ _ fa.2.1.symm ho,r⟩
 have T:Two X DI σ m a ((s.heap.update a (Obj.mapSeq fun _=>(#[]:Array Value))).push (seqObj "tuple" #[v] 0)).objs.size e1 (([]:List Addr).map Value.ref) 0 H { s with heap:=((s.heap.update a (Obj.mapSeq fun _=>(#[]:Array Value))).push (seqObj "tuple" #[v] 0)).push (seqObj "list" #[] 0) } :=
  ⟨I.chg fa ns ns' fun c o _ hc e=>kp c o hc e,ns',I.fpOk sk (I.hok.fresh sk),fa,ne1,Aw _ rfl,Af _ (Af _ g1)⟩
 generalize ((s.heap.update a (Obj.mapSeq fun _=>(#[]:Array Value))).push (seqObj "tuple" #[v] 0)).objs.size=kS at T ⊢
 show wpAny (model X.prog X.w) A (ksk_rest a (.ref f) false #[v] e1 (.ref kS)) P E _
 obtain⟨t,rfl⟩:=it 0 v rfl
 unfold ksk_rest
 refine Ah (wpAny_rule ?_)
 simp only[List.forIn_toArray,List.forIn_cons,List.forIn_nil]
 refine Ah (Ah (Ah (wpAny_attempt (wpAny_mono (yU1 (t:=t) ask (i:=0) (by decide) T (Ext.refl H) rfl (fun j k z=>by cases z) fun k H' s' T' x ka => ?_) (fun _ _ z=>z) fun _ _ z=>z.elim))))
 have e2:=Dr s'.heap kS (Obj.mapSeq (·.push (Value.ref k)))
 obtain⟨c2,g2⟩:∃c2,(s'.heap.update kS (Obj.mapSeq (·.push (Value.ref k)))).get? kS=some (seqObj "list" (List.toArray [Value.ref k]) c2):=⟨_,get?_update_seq T'.gk (·.push (Value.ref k))⟩
 have kp':∀c o,c≠kS->s'.heap.get? c=some o->(s'.heap.update kS (Obj.mapSeq (·.push (Value.ref k)))).get? c=some o:=fun c o hc e=>(BF _ _ (Cj hc)).trans e
 have n2:(s'.heap.update kS (Obj.mapSeq (·.push (Value.ref k)))).Ns X.env.locals m:=by
  obtain⟨o,es,ep,ho,r⟩:=T'.ns
  exact⟨o,es,ep,kp' _ _ T'.fk.2.1.symm ho,r⟩
 have T2:Two X DI σ m a kS e1 [Value.ref k] c2 H' { s' with heap:=s'.heap.update kS (Obj.mapSeq (·.push (Value.ref k))) }:=⟨T'.inv.chg T'.fk T'.ns n2 fun c o _ hc e=>kp' c o hc e,n2,T'.fk,T'.fa,T'.ne,g2,kp' _ _ T'.ne.symm T'.ga⟩
 dsimp only
 refine Ah (listUpdate_at T'.gk rfl ?_ (AQ _) (by show 1<=_;rfl'))
 refine Ax ?_
 dsimp only
 refine Ax (Ah (listItems_at g2 rfl (xP2 (m:=m) (e:=c2) ?_)))
 exact zO8 (po:=poK 1 op) (its:=[_]) T2 it rfl (by show 1<=60;decide) (fun p hp=>by simpa [poK] using hp) (by simp[poK]) fun s4 I4=>h H' s4 x T2.fa.1 I4
def yV3{prog:Program}{w:World}{s:Shared}{E:Value->Shared->Prop}{Q:List Value->Shared->Prop}{r:Addr}{a b c:Int}{t u v:Tok}{n:Nat}(hh:A.handled=none)(hr:IsRange s.heap r a b c t u v)(sm:Builtin.Range.small a b c=true)(hn:Builtin.Range.rangeSize a b c=n)(hz:n<=1000000)
  (q:∀(h':Heap) tk vs,(∀b o,s.heap.get? b=some o->h'.get? b=some o)->ItemsOf (fun i v=>∃t,v=.int (a+i*c) t) vs n->Q vs.toList { s with heap:=h',toks:=tk }) :
  wpAny (model prog w) A (collect (.ref r)) Q E s:=by
 have big:(2:Nat) ^ 24<=sizeLine:=by decide
 refine yW6 (S:=fun B R x=>B=A/\x={ s with heap:=s.heap.push { cls:=.type "list",data:=.seq #[] } } /\
  ∀h' tk vs e,(∀b o,b≠s.heap.objs.size->x.heap.get? b=some o->h'.get? b=some o)->h'.get? s.heap.objs.size=some { cls:=.type "list",data:=.seq vs e }->ItemsOf (fun i v=>∃t,v=.int (a+i*c) t) vs n->R (.ok (.ret (.ref s.heap.objs.size))) { x with heap:=h',toks:=tk }) (fun B R x y => ?_) ⟨rfl,rfl,fun h' tk vs e keep at_ its=>⟨rfl,vs,e,at_,?_⟩⟩
 ·obtain⟨rfl,rfl,y⟩:=y
  exact wpAny_extend_range (A:=B) hh (Af _ hr) sm hn (by rfl') _ _ _ (Aw _ rfl) y
 ·exact q h' tk vs (fun b o g=>keep b o (AL (Ap g)) (Af _ g)) its
def xT8{n:Nat}{op:Nat->Int}{f:Addr}{its:List Value}{Q:VK}{E:Value->Shared->Prop}(I:Inv X DI σ H s)(it:ItemsFrom 0 its)(hn:its.length=n)(h1:1<=n)(h6:n<=6)(ask:AskK X A.in1 DI σ H f n op)
  (q:∀H' l,Ext H H'->H' l=none->Q (.ref l) (upd H' l (.lst ((poK n op).map fun (p:Nat)=>V.int (p:Int))))) :
  wpAny (model X.prog X.w) A (newList its >>= fun l=>holding [l] (call (.builtin "list.sort") [l] [(Str.ofString "key",.ref f)]) >>= fun _=>ret l) (fun fin s'=>∃v,fin=.done (.ret v)/\EP X DI σ Q v s') E s:=by
 have fits:its.length<=sizeLine:=by
  have:(60:Nat)<sizeLine:=by decide
  rfl'
 have go:(s.heap.push (seqObj "list" its.toArray 0)).get? s.heap.objs.size=some (seqObj "list" its.toArray 0):=Aw _ rfl
 have fa:FpOk X DI H s.heap.objs.size:=I.fpOk (Ak _) (I.hok.fresh (Ak _))
 have I1:Inv X DI σ H { s with heap:=s.heap.push (seqObj "list" its.toArray 0) }:=I.kept (t':=s.toks) fun b o e=>Af _ e
 refine Ah (wpAny_newList (Ah (wpAny_holding (wpAny_call_entry_kw slot_list_sort ⟨_,go,rfl⟩ entry_list_sort ?_ (ksk_l1 _ _)))) fits)
 show wpAny (model X.prog X.w) A.in1 (Builtin.«list.sort» ⟨[.ref s.heap.objs.size],[(Str.ofString "key",.ref f)]⟩) _ _ _
 rw[ksk_t1]
 have fin:∀H' s',Ext H H'->H' s.heap.objs.size=none->Inv X DI σ (upd H' s.heap.objs.size (.lst ((poK n op).map fun (p:Nat)=>V.int (p:Int)))) s'->∃v,PySem.Fin.done (.ret .none)=.done (.ret v)/\wpAny (model X.prog X.w) A (ret (.ref s.heap.objs.size)) (fun fin s'=>∃v,fin=.done (.ret v)/\EP X DI σ Q v s') E s':=fun H' s' x hn' I'=>⟨_,rfl,Ax ⟨_,rfl,.ref s.heap.objs.size,_,I',rfl,q H' _ x hn'⟩⟩
 rcases (show n=1\/2<=n by rfl') with rfl | h2
 ·match its,hn with
  | [v],_=>exact xU7 I1 fa (size_push' ..) go it ask fin
 ·exact yE6 I1 fa (size_push' ..) go it hn h2 h6 ask fin
end
def opF(ops:List Int):Nat->Int:=fun i=>ops.getD i 0
section
variable {X:Cx}
def rKey(K:KFr):TE:=tTup (zO (tOp (rIxT K) (tVar 1) (tVar 0)) (zO (tVar 0) tNil))
def xY6{A:Around}{DI:List (Addr×Obj)}{σ:St}{H1:Hp}{f cl oa:Addr}{j k n:Nat}{one y q:Str}{sc:Scope}{params:Arguments}{body:Expr}{ops:List Int}(hA:A.frames=X.A.frames)(hr:Room (k+1) A)(S:LamScope [one] y sc)(L:LamAt H1 f q params body sc [(y,cl)])(hcl:X.env.cells.lookup y=some cl)(hk:X.env.kindOf y=some .cell)(hj:X.N[j]?=some y)(hσ:σ[j]?=some (some (.ref oa)))(ho:Rd H1 oa (.tup (ops.map V.int)))(hl:ops.length=n)
  (hb:∀(us:List Value) (pm cd ctv:Value),us.length=1->bindArgs (kla_fn "<lambda>" q params body sc [(y,cl)] pm cd ctv) ⟨us,[]⟩=pure ([one].zip us))
  (hbody:∀(H:Hp) (outer:List Env) (s:Shared) (c':Addr),PE (cxLam X.prog X.w X.K X.mg X.base ([one] ++ [y]) q sc f (.ref c') [(y,cl)] A outer s H) body (rKey X.K)):AskK X A DI σ H1 f n (opF ops):=by
 intro i t H s hi x I
 obtain⟨c',ctv,pm,oc,u,v,vs,tk,hf,hc',hd,hq⟩:=L.ext x
 obtain⟨m,ns,lk⟩:=I.loc
 obtain⟨uo,rv,look⟩:=lk j y _ hj hσ (.inr (.inl hk))
 have cell:s.heap.IsCell cl (some uo):=by
  rcases look with ⟨z,_⟩ | ⟨_,c,ec,ic⟩
  ·rw[hk] at z;cases z
  ·rw[hcl] at ec;cases ec;exact ic
 have e0:=I.env0
 have e1:Env0 X.prog X.w X.K X.mg X.base A X.stack s H:=⟨hA.trans e0.frames,e0.mod,e0.bs,e0.bsz,e0.funs,e0.frf,e0.hok,e0.bare,e0.tb⟩
 refine yS7 S hr e1 (I.hok f _ hf).1 ⟨c',oc,vs,tk,rfl,(I.hok c' _ hc').1,hd,hq⟩ cell (I.freeC y cl hcl) rv (hb _ _ _ _ rfl) (vs:=[.int (i:Int)]) rfl (.cons ⟨t,rfl⟩ .nil) (fun _=>hbody H X.stack s c') ?_
 have rd:Rd H oa (.tup (ops.map V.int)):=L2.L3.yM ho fun o e=>x _ _ e
 refine⟨_,rfl,_,rfl,oa,_,_,.int (opF ops i),rfl,rfl,.inl rd,?_,?_⟩
 ·rw[L2.L3.atN (x:=i)]
  rw[Ai,Ab (by rfl')]
  show some (V.int _)=some (V.int _)
  congr 2
  unfold opF
  rw[List.getD,Ab (by rfl')]
  rfl
 ·exact⟨_,rfl,by show 2<=sizeLine;decide,fun k hk=>⟨k,rfl,hk,rfl⟩⟩
def tSortK(K:KFr)(j:Nat)(t:TA):TE:=fun σ H Q=>t σ H fun vs H1=>∃(p oa:Addr) (n:Nat) (ops:List Int),vs=[.ref p]/\(H1 p=some (.rng 0 (n:Int))\/SqL K H1 p ((List.range n).map fun (i:Nat)=>V.int (i:Int)))/\1<=n/\n<=6/\σ[j]?=some (some (.ref oa))/\Rd H1 oa (.tup (ops.map V.int))/\ops.length=n /\
 ∀H2 l,Ext H1 H2->H2 l=none->Q (.ref l) (upd H2 l (.lst ((poK n (opF ops)).map fun (p:Nat)=>V.int (p:Int))))
def xV2{e:Expr}{p pos kp lpos:Pos}{t:TA}{j k:Nat}{one y x:Str}{c P:Addr}{sc:Scope}{params:Arguments}{body:Expr}(hr:Room (k+3) X.A)(hc:X.calm=true)(hg:Gl X "sorted")(hm:X.mg "sorted" = none)(ha:PA X [e] t)
  (hx:x∈tabNames) (ht:tabIn X.K x=some (c,P)) (hcode:X.env.code=.ref c) (hq:X.env.qual=x ++ ".<locals>.") (hdef:defaultsOf params X.env=([],[])) (hcl:∀cl,X.env.cells.lookup y=some cl->closureFor sc X.env=pure [(y,cl)])
  (S:LamScope [one] y sc) (hk:X.env.kindOf y=some .cell) (hj:X.N[j]?=some y)
  (hb:∀(cl:Addr) (us:List Value) (pm cd ctv:Value),us.length=1->bindArgs (kla_fn "<lambda>" (lamQ x) params body sc [(y,cl)] pm cd ctv) ⟨us,[]⟩=pure ([one].zip us))
  (hbody:∀(A:Around) (H:Hp) (outer:List Env) (s:Shared) (f cl c':Addr),PE (cxLam X.prog X.w X.K X.mg X.base ([one] ++ [y]) (lamQ x) sc f (.ref c') [(y,cl)] A outer s H) body (rKey X.K))
  (hn:autoParam ((("sorted":Str)) ≠ "__name__") DG) (hdb:autoParam (((("sorted":Str)) == ("__debug__":Str))=false) DG)
  (he:autoParam (backTo pos (starEach [e] X.env)=(false,eval e X.env)::backTo pos (starEach [] X.env)) DH) (hpl:autoParam ((backTo pos (starEach [e] X.env)).any (·.1)=false) DH) :
  PE X (.Call (.Name "sorted" p) [e] [⟨some (Str.ofString "key"),.Lambda params body sc lpos,kp⟩] pos) (tSortK X.K j t):=by
 intro DI s σ H Q I h
 refine wpAny_Call_Name_kw (bZ I hg hm PyProof.Rows.boot_sorted ?_ hn hdb)
 refine callWith_kw (thn (ha pos DI s σ H _ I h) fun us s1 ⟨vs,H1,I1,r1,q1⟩ => ?_) he hpl
 obtain⟨r,oa,n,ops,rfl,src,n1,n6,hσ,ho,hl,q⟩:=q1
 obtain⟨u,rfl,ru⟩:=vals1 r1
 cases ru
 obtain⟨cl,ec⟩:=I1.ok.has y (.inl hk)
 refine kws_cons (thn (yJ3 (cl:=[(y,cl)]) hx ht hcode hq hdef (fun _=>hcl cl ec) DI s1 σ H1 (fun v H2=>∃f,v=.ref f/\LamAt H2 f (lamQ x) params body sc [(y,cl)]/\Ext H1 H2) I1 fun f H2 L x _=>⟨f,rfl,L,x⟩) fun uf s2 ⟨vf,H2,I2,r2,f,e2,L,x2⟩ => ?_)
 subst e2
 obtain rfl:uf=Value.ref f:=r2
 refine kws_nil ?_
 show wpAny (model X.prog X.w) X.A (call (.builtin "sorted") [.ref r] [(Str.ofString "key",.ref f)]) (EP X DI σ Q) X.xe s2
 refine call_function_entry_kw kind_sorted plain_sorted entry_sorted (ksk_s1 (.ref r) (.ref f)) ?_
 rw[zK6]
 have ho2:Rd H2 oa (.tup (ops.map V.int)):=L2.L3.yM ho fun o e=>x2 _ _ e
 have ask:AskK X X.A.in1.in1 DI σ H2 f n (opF ops):=xY6 (k:=k) rfl (hr.in1.in1) S L ec hk hj hσ ho2 hl (hb cl) fun H outer s c'=>hbody _ H outer s f cl c'
 have fin:∀(its:List Value) (h':Heap) (tk:Nat),(∀b o,s2.heap.get? b=some o->h'.get? b=some o)->ItemsFrom 0 its->its.length=n ->
   wpAny (model X.prog X.w) X.A.in1 (newList its >>= fun l=>holding [l] (call (.builtin "list.sort") [l] [(Str.ofString "key",.ref f)]) >>= fun _=>ret l) (fun fin s'=>∃v,fin=.done (.ret v)/\EP X DI σ Q v s') X.xe { s2 with heap:=h',toks:=tk }:=fun its h' tk kp it ln =>
  xT8 (I2.kept (t':=tk) kp) it ln n1 n6 ask fun H3 l x3 hn3=>q H3 l (x2.trans x3) hn3
 rcases src with hp | hp
 ·obtain⟨t1,t2,t3,eo⟩:=I2.hok r _ (x2 _ _ hp)
  refine Ah (yV3 (n:=n) (I.ok.hd hc) eo (small_one (by rfl') (by rfl') (by rfl') (by rfl')) ?_ (by rfl') fun h' tk vs kp its=>fin _ h' tk kp (fun i v ev => ?_) ?_)
  ·rw[rangeSize_one];split <;> rfl'
  ·obtain⟨t,e⟩:=its.2 i v (by simpa using ev)
   exact⟨t,by rw[e];simp⟩
  ·rw[BX,its.1]
 ·have hp2:SqL X.K H2 r ((List.range n).map fun (i:Nat)=>V.int (i:Int)):=hp.imp (fun z=>L2.L3.yM z fun o e=>x2 _ _ e) id
  obtain⟨its,rv,⟨o,n',ho',hc',_,hd'⟩,hz⟩:=I2.list hp2
  have ln:=rv.length
  rw[Aa,Aj] at ln
  refine Ah (wpAny_collect_seq r (.inl rfl) ho' hc' hd' (fun h' kp=>fin its h' s2.toks kp (fun i v ev => ?_) (by rfl')) (by rw[Am];rw[Aa,Aj] at hz;rfl'))
  have hi:i<n:=by
   have:=(Ac.mp ev).1
   rfl'
  obtain⟨u,eu,t,ru⟩:=rv.get (i:=i) (by rw[Ai,AH hi];rfl)
  rw[ev] at eu
  cases eu
  exact⟨t,by rw[ru,Nat.zero_add]⟩
end
end L2
namespace L2
open PySem PySem.Spec PyProof.Rows
def Fun.okC{P:Program}{w:World}{K:KFr}{mg:Str->Option Value}{base:Heap}{k:Nat}{x qual:Str}{st:Stmt}{f c:Addr}{fd:FuncData}{N ps:List Str}{sp:Sp}(F:Fun K x qual st f fd)(hc:fd.code=.ref c)(S:zI N ps (zU st))(hl:∀vs H Q E,sp vs H Q E->vs.length=ps.length)
  (hbody:∀(A:Around) (outer:List Env) (s:Shared) (H:Hp) (vs:List V) (Q:VK) (E:XK),Room k (A.deeper (envOfC qual (zU st) s.heap.objs.size f (.ref c)))->sp vs H Q E ->
   ∃t,PSs (cxOf CX0 P w K mg base N qual (zU st) f (.ref c) A outer s H E).nox (defBody st) t/\t { nx:=fun _ H'=>Q .non H',rt:=Q } (start N vs) H):FnOk P w K mg base CX0 (k+1) f fd ps sp:=by
 obtain⟨oc,od,kV,doc,pm,an,cdv,ct,osl,rfl,lk,hcd⟩:=F.ex
 obtain rfl:cdv=.ref c:=hc
 refine zR2 lk hcd S hl fun A outer s H vs Q E hr hsp => ?_
 obtain⟨t,h,q⟩:=hbody A outer s H vs Q E hr hsp
 exact⟨t,h.nox,q⟩
end L2
namespace L2.L3
open PySem PySem.Spec PyProof.Rows MR
variable [CN]
def orK(H:Hp)(v:V)(n:Nat)(po:List Nat):Prop:=∃(oa:Addr) (ops:List Int),v=.ref oa/\Rd H oa (.tup (ops.map V.int))/\ops.length=n/\1<=n/\n<=6/\po=poK n (opF ops)
def wiK(K:KFr):TI:=iList K (tSortK K 1 (zO (tCB rRng (zO (tCB (rLenV K) (zO (tVar 0) tNil)) tNil)) tNil))
def xE3{K:KFr}(H0:Hp)(v1:V)(n:Nat)(po:List Nat)(o:orK H0 v1 n po)(pa:Addr)(ys:List V)(hp:Rd H0 pa (.tup ys))(hl:ys.length=n)(σ:St)(H:Hp)(R:It->Hp->Prop)(sm:Same H0 H)(e0:σ[0]?=some (some (.ref pa)))(e1:σ[1]?=some (some v1))(h:∀l H1,Same H H1->H1 l=none->R (Itl K l) (L2.upd H1 l (.lst (po.map fun (p:Nat)=>V.int (p:Int))))):wiK K σ H R:=by
 obtain⟨oa,ops,rfl,ho,lo,n1,n6,rfl⟩:=o
 refine⟨_,e0,pa,ys,rfl,.inr (.inl (yM hp fun o e=>sm _ _ e)),_,rfl,fun p hp => ?_⟩
 have s1:=Same.new hp (o:=.rng 0 (ys.length:Int))
 refine⟨p,oa,n,ops,rfl,.inl (by rw[zS,hl]),n1,n6,e1,yM ho fun o e=>s1 _ _ (sm _ _ e),lo,fun H2 l x hn => ?_⟩
 exact⟨l,rfl,⟨_,SqL.of zS⟩,h l H2 (s1.trans fun b o e=>x b o e) hn⟩
section
variable {P:Program}{w:World}{K:KFr}{mg:Str->Option Value}{base:Heap}
def yP4{x:Str}{st:Stmt}{f c:Addr}{fd:FuncData}{N ps:List Str}{k kk:Nat}(F:Fun K x x st f fd)(S:zI N ps (zU st))(hp:ps.length=3)(hN:N.length=6)(hc:fd.code=.ref c)
  (hbody:∀(A:Around) (outer:List Env) (s:Shared) (H:Hp) (E:XK),Room k (A.deeper (envOfC x (zU st) s.heap.objs.size f (.ref c)))->PSs (cxOf CX0 P w K mg base N x (zU st) f (.ref c) A outer s H E).nox (defBody st) (tGm P w K mg base kk (wiK K))) :
  FnOk P w K mg base CX0 (k+1) f fd ps (spPlayed P w K mg base kk orK):=by
 refine F.okC hc S (fun vs H Q E ⟨pa,fa,v1,ds,n,po,out,fin,g,e,_⟩=>by rw[e,hp];rfl) fun A outer s H vs Q E hr h => ?_
 obtain⟨pa,fa,v1,ds,n,po,out,fin,g,rfl,h1,h2,h3,h4,h5,h6,h7,h8,h9,h10,h11,q⟩:=h
 refine⟨_,hbody A outer s H E hr,?_⟩
 have st:start N [V.ref pa,v1,V.ref fa]=[some (.ref pa),some v1,some (.ref fa),none,none,none]:=by
  unfold start
  rw[hN]
  rfl
 rw[st]
 have h1':=h1
 cases h1' with
 | @tup _ ys _ rd no rs =>
  refine xQ7 h1 h2 h3 h4 h5 h6 h8 h9 h10 (fun p k seen mid rs1 tn hs pn hin => ?_) h11 (fun σ H' R s' e0 e r => ?_) q
  ·refine xJ8 h9 tn ?_ hs pn hin
   rw[List.getD,Ab (by rw[h2];exact pn)]
   exact h3 _ (CK ..)
  ·exact xE3 H v1 n po h7 pa ys rd (by rw[rs.length,h2]) σ H' R s' e0 e r
end
end L2.L3
namespace L2
open PySem PySem.Spec PyProof.Rows
section
variable {P:Program}{w:World}{outer:List Env}{H:Hp}{s s':Shared}{cl:Addr}{oc:Obj}{Q:VK}{u:Value}
def CE.unlend(hn:H cl=none)(e:s.heap.get? cl=some oc)(hf:cl∉frs outer)(h:CE outer P w (upd H cl (cellO cl oc)) s (fun v H2=>H2 cl=some (cellO cl oc)/\Q v (rmv H2 cl)) u s'):CE outer P w H s Q u s':=by
 obtain⟨v,H2,os,bare,un,hok,r,c2,q⟩:=h
 have up:∀b,b≠cl->upd H cl (cellO cl oc) b=H b:=fun b n=>zY n
 have ne:∀b o,H b=some o->b≠cl:=fun b o e z=>by rw[z,hn] at e;cases e
 refine⟨v,rmv H2 cl,os,bare,⟨fun b o g n hb hx => ?_,fun b o g n hb hx => ?_,fun b o g n hx => ?_,fun b o g=>un.there b o g,fun b xs g => ?_,fun b o xs g => ?_,fun b q g => ?_⟩,hok.rmv c2,r,q⟩
 ·by_cases z:b=cl
  ·subst z
   rw[e] at g
   cases g
   exact (hok b _ c2).1
  ·exact un.keep b o g (by rw[up b z];exact n) hb hx
 ·have z:b≠cl:=fun z=>hf (by rw[<-z];exact hb)
  exact un.slot b o g (by rw[up b z];exact n) hb hx
 ·by_cases z:b=cl
  ·rw[z];exact uF
  ·rw[xV z];exact un.free b o g (by rw[up b z];exact n) hx
 ·have z:=ne b _ g
  rw[xV z]
  exact un.tups b xs (by rw[up b z];exact g)
 ·have z:=ne b _ g
  rw[xV z]
  exact un.frzs b o xs (by rw[up b z];exact g)
 ·have z:=ne b _ g
  rw[xV z]
  exact un.tbls b q (by rw[up b z];exact g)
end
section
variable {X:Cx}{k:Nat}{f:Addr}{fd:FuncData}{ps:List Str}{sp:Sp}
def xS3{DI:List (Addr×Obj)}{σ:St}{H:Hp}{s:Shared}{Q:VK}{us:List Value}{vs:List V}{cl:Addr}{y:Str}{j:Nat}{vy:V}(F:FnOk X.prog X.w X.K X.mg X.base CX0 k f fd ps sp)(hr:Room k X.A)(hb:Binds X.K fd ps [])
  (I:Inv X DI σ H s) (r:Vals vs us) (hcl:X.env.cells.lookup y=some cl) (hk:X.env.kindOf y=some .cell) (hfn:X.fn y=true) (hj:X.N[j]?=some y) (hσ:σ[j]?=some (some vy))
  (h:∀oc uy,oc.data=.cell (some uy)->RelV vy uy->H cl=none->sp vs (upd H cl (cellO cl oc)) (fun v H2=>H2 cl=some (cellO cl oc)/\Q v (rmv H2 cl)) E0):wpAny (model X.prog X.w) X.A (call (.ref f) us) (EP X DI σ Q) X.xe s:=by
 obtain⟨m,ns,lk⟩:=id I.loc
 obtain⟨uy,rv,look⟩:=lk j y _ hj hσ (.inr (.inl hk))
 obtain⟨oc,hoc,hd⟩:s.heap.IsCell cl (some uy):=by
  rcases look with ⟨z,_⟩ | ⟨_,c,ec,ic⟩
  ·rw[hk] at z;cases z
  ·rw[hcl] at ec;cases ec;exact ic
 have hn:=I.freeC y cl hcl
 have above:=I.ok.cab y cl hfn hcl
 have nb:X.base.get? cl=none:=Heap.get?_none_of_le (Bf I.ok.bsz above)
 have nf:cl∉frs X.stack:=fun z=>by
  rcases An.mp (I.stkSub cl z) with e | e
  ·exact I.cne y cl hcl e
  ·obtain⟨_,o,ho,_⟩:=I.ok.funs.mem e
   exact absurd (Au (Ap ho) above) (Ca _)
 have hs:=h oc uy hd rv hn
 have hl:us.length=ps.length:=by rw[<-r.length];exact F.len _ _ _ _ hs
 have bi:=hb s us I.kIn (by rw[Bn];exact hl)
 rw[Bn] at bi
 refine wpAny_call (codeAny_mono (F.run X.A X.stack s _ ⟨us,[]⟩ us vs _ E0 hr (I.env0.lend hn nb nf hoc) bi r hs) fun r s' hq => ?_)
 cases r with
 | error e=>exact False.elim hq
 | ok fl =>
  cases fl with
  | ret u=>exact I.after (CE.unlend hn hoc nf hq)
  | _=>exact False.elim hq
end
def tabUn(K:KFr):Bool:=decide (tabNames.filterMap fun x=>(PySem.W.tabIn K x).map Prod.snd).Nodup
def tabRc(K:KFr)(q:Program):Bool:=tabNames.all fun x=>!(PySem.W.tabIn K x).isSome || ((recsOf q).find? (fun e=>e.name == x)).isSome
def zC4{α β:Type}{f:α->Option β}{p:β}:∀{l:List α}{x y:α},(l.filterMap f).Nodup->x∈l->y∈l->f x=some p->f y=some p->x=y
 | [],_,_,_,h,_,_,_=>nomatch h
 | a::l,x,y,nd,hx,hy,ex,ey=>by
  have sub:(l.filterMap f).Nodup:=by
   rw[Bm] at nd
   split at nd
   ·exact nd
   ·exact (Bh.mp nd).2
  have no:∀z,z∈l->f z=some p->f a≠some p:=fun z hz ez ea=>by
   rw[Bm,ea] at nd
   exact (Bh.mp nd).1 (Cc.mpr ⟨z,hz,ez⟩)
  rcases An.mp hx with e1 | h1
  ·rcases An.mp hy with e2 | h2
   ·rw[e1,e2]
   ·exact absurd (by rw[<-e1];exact ex) (no y h2 ey)
  ·rcases An.mp hy with e2 | h2
   ·exact absurd (by rw[<-e2];exact ey) (no x h1 ex)
   ·exact zC4 sub h1 h2 ex ey
def yF9{q:Program}{K:Params->KFr}(h1:∀w:World,PySem.W.noTabs (K w.params)=true)(h2:∀w:World,tabUn (K w.params)=true)(h3:∀w:World,tabRc (K w.params) q=true):TabsOk q K:=by
 refine⟨h1,fun w x y c c' P hx hy ex ey => ?_,fun w x hx hs => ?_⟩
 ·have nd:=of_decide_eq_true (h2 w)
  exact zC4 (p:=P) nd hx hy (by rw[ex];rfl) (by rw[ey];rfl)
 ·have z:=AF.mp (h3 w) x hx
  rw[hs] at z
  exact z
def xX4{K:KFr}{h:Heap}{mg:Str->Option Value}{x:Str}{c P f:Addr}{st:Stmt}{fd:FuncData}{ps:List Str}(X:K.In h)(G:h.Ns mainGlobals mg)(t:PySem.W.tabIn K x=some (c,P))(H:Has K mg x st f fd ps):fd.code=.ref c:=by
 unfold PySem.W.tabIn at t
 split at t
 ·rename_i f' hn
  have e:=Ci X G hn
  rw[H.m] at e
  cases e
  split at t
  ·rename_i fd' _ hl
   obtain⟨oc,od,kV,doc,pm,an,cdv,ct,osl,ef,lk,_⟩:=H.F.ex
   rw[lk] at hl
   cases hl
   split at t
   ·rename_i c' ec
    split at t
    ·split at t
     ·cases t
      exact ec
     ·cases t
    ·cases t
   ·cases t
  ·cases t
 ·cases t
def zN3{K:KFr}{h:Heap}{mg:Str->Option Value}{x:Str}{st:Stmt}{ps:List Str}(X:K.In h)(G:h.Ns mainGlobals mg)(t:(PySem.W.tabIn K x).isSome=true):∃c P,PySem.W.tabIn K x=some (c,P)/\∀f fd,Has K mg x st f fd ps->fd.code=.ref c:=by
 obtain⟨⟨c,P⟩,e⟩:=CP.mp t
 exact⟨c,P,e,fun f fd H=>xX4 X G e H⟩
end L2
namespace L2.L3
open PySem PySem.Spec PyProof.Rows MR
variable [CN]
def lamG(i:Nat)(xs:List Int):Nat->Nat->Nat:=fun b l=>if i=0 then nxt xs b else nxt xs l
def turnD(z:Nat×List Rv):D:=.tuple [.int (z.1:Int),.tuple (z.2.map fun r=>.int (r.1:Int))]
def oD:Option Nat->D
 | none=>.none
 | some x=>.int (x:Int)
structure PlyIn(i:Nat)(plan openings order:D)(out:List (Nat×List Rv))(fin:List (Option Nat)):Prop where
 ex:∃(n:Nat) (ds:List D) (ops xs:List Int),plan=.tuple ds/\openings=.tuple (ops.map .int)/\order=.tuple (xs.map .int)/\ds.length=n/\(∀d∈ds,TrS n d)/\ops.length=n/\1<=n/\n<=6/\Ord n xs/\(∀z∈out,z.2.length<=900)/\Gm bxD nxD (lamG i xs) (fun p=>ds.getD p .none) (poK n (opF ops)) (List.replicate n none) out fin
def zZ7{a b:List Int}(h:a.map PyData.int=b.map PyData.int):a=b:=by
 have:=Bw intsOf h
 rw[intsOf_map,intsOf_map] at this
 exact AW this
def PlyIn.one{i:Nat}{p o q:D}{out out':List (Nat×List Rv)}{fin fin':List (Option Nat)}(a:PlyIn i p o q out fin)(b:PlyIn i p o q out' fin'):out=out'/\fin=fin':=by
 obtain⟨n,ds,ops,xs,rfl,rfl,rfl,h1,_,h2,_,_,_,_,g⟩:=a.ex
 obtain⟨n',ds',ops',xs',e1,e2,e3,h1',_,h2',_,_,_,_,g'⟩:=b.ex
 cases e1
 obtain rfl:=zZ7 (show ops.map PyData.int=ops'.map PyData.int by injection e2)
 obtain rfl:=zZ7 (show xs.map PyData.int=xs'.map PyData.int by injection e3)
 subst h1
 subst h1'
 exact g.det g'
open Classical in
def ply(i j:Nat)(p o q:D):Res D:=if h:∃z:List (Nat×List Rv)×List (Option Nat),PlyIn i p o q z.1 z.2 then .ok (if j=0 then .list (h.choose.1.map turnD) else .list (h.choose.2.map oD)) else .no
def yF3{i j:Nat}{p o q:D}{out:List (Nat×List Rv)}{fin:List (Option Nat)}(h:PlyIn i p o q out fin):ply i j p o q=.ok (if j=0 then .list (out.map turnD) else .list (fin.map oD)):=by
 have ex:∃z:List (Nat×List Rv)×List (Option Nat),PlyIn i p o q z.1 z.2:=⟨(out,fin),h⟩
 obtain⟨e1,e2⟩:=ex.choose_spec.one h
 unfold ply
 rw[dif_pos ex,e1,e2]
def eP(i j:Nat):Ev->Res D:=fun ρ=>match ρ[0]?,ρ[1]?,ρ[2]? with
 | some (some a),some (some b),some (some c)=>ply i j a b c
 | _,_,_=>.no
def xO1{i j:Nat}{ρ:Ev}{φ:D->Prop}{ψ:Str->Prop}(h:(eP i j ρ).post φ ψ):∃a b c out fin,ρ[0]?=some (some a)/\ρ[1]?=some (some b)/\ρ[2]?=some (some c)/\PlyIn i a b c out fin/\φ (if j=0 then .list (out.map turnD) else .list (fin.map oD)):=by
 unfold eP at h
 split at h
 ·rename_i a b c e1 e2 e3
  unfold ply at h
  split at h
  ·rename_i ex
   exact⟨a,b,c,_,_,e1,e2,e3,ex.choose_spec,h⟩
  ·exact False.elim h
 ·exact False.elim h
def tPly(i:Nat):TE:=fun σ H Q=>∃(pa oa qa:Addr) (n:Nat) (ds:List D) (ops xs:List Int) (out:List (Nat×List Rv)) (fin:List (Option Nat)),σ[0]?=some (some (.ref pa))/\σ[1]?=some (some (.ref oa))/\σ[2]?=some (some (.ref qa))/\Rep H (fun _=>False) (.ref pa) (.tuple ds)/\Rd H oa (.tup (ops.map V.int))/\Rd H qa (.tup (xs.map V.int)) /\
 ds.length=n/\(∀d∈ds,TrS n d)/\ops.length=n/\1<=n/\n<=6/\Ord n xs/\(∀z∈out,z.2.length<=900)/\Gm bxD nxD (lamG i xs) (fun p=>ds.getD p .none) (poK n (opF ops)) (List.replicate n none) out fin /\
 ∀(a da sa:Addr) (H':Hp),H da=none->H sa=none->GmAt H sa da fin out H'->H' a=some (.tup [.ref da,.ref sa])->Q (.ref a) H'
def GmAt.less{H0 H1 H:Hp}{sa da:Addr}{fin:List (Option Nat)}{out:List (Nat×List Rv)}(x:∀b o,H0 b=some o->H1 b=some o)(G:GmAt H1 sa da fin out H):GmAt H0 sa da fin out H:=by
 obtain⟨as,a1,a2,a3⟩:=G.don
 have fr:∀a,H1 a=none->H0 a=none:=fun a h=>by
  cases e:H0 a with
  | none=>rfl
  | some o=>rw[x a o e] at h;cases h
 exact⟨fun b o e=>G.same b o (x b o e),G.see,as,a1,⟨a2.1,fun j a z e1 e2=>let ⟨c,q0,q1⟩:=a2.2 j a z e1 e2; ⟨c,fr c q0,q1⟩⟩,fun a ha=>fr a (a3 a ha)⟩
def GmAt.rmv{H0 H:Hp}{sa da cl:Addr}{oc:Obj}{fin:List (Option Nat)}{out:List (Nat×List Rv)}(hn:H0 cl=none)(C:H cl=some (cellO cl oc))(G:GmAt H0 sa da fin out H):GmAt H0 sa da fin out (rmv H cl):=by
 have ne:∀b o,H b=some o->(∀φ,o ≠ .ext φ)->L2.rmv H cl b=some o:=fun b o e n=>by
  rw[xV (fun z=>by rw[z,C] at e;cases e;exact n _ rfl)]
  exact e
 obtain⟨as,a1,a2,a3⟩:=G.don
 refine⟨fun b o e => ?_,ne _ _ G.see (fun φ z=>nomatch z),as,ne _ _ a1 (fun φ z=>nomatch z),⟨a2.1,fun j a z e1 e2 => ?_⟩,a3⟩
 ·rw[xV (fun z=>by rw[z,hn] at e;cases e)]
  exact G.same b o e
 ·obtain⟨c,q0,q1,q2⟩:=a2.2 j a z e1 e2
  exact⟨c,q0,ne _ _ q1 (fun φ z=>nomatch z),ne _ _ q2 (fun φ z=>nomatch z)⟩
section
variable {X:Cx}
def yI8{i k kk:Nat}{x y pl b1 b2:Str}{f c P:Addr}{fd:FuncData}{ps:List Str}{p p0 p1 pos lpos:Pos}{n0 n1:Str}{params:Arguments}{body:Expr}{sc:Scope}(hi:i<2)
  (F:FnOk X.prog X.w X.K X.mg X.base CX0 k f fd ps (spPlayed X.prog X.w X.K X.mg X.base (kk+1) orK)) (hr:Room k X.A) (hg:Gl X pl) (hm:X.mg pl=some (.ref f)) (hkp:PySem.W.keepIn X.K (.ref f)=true) (hb:Binds X.K fd ps [])
  (v0:PE X (.Name n0 p0) (tVar 0)) (v1:PE X (.Name n1 p1) (tVar 1))
  (hx:x∈tabNames) (ht:PySem.W.tabIn X.K x=some (c,P)) (hcode:X.env.code=.ref c) (hq:X.env.qual=x ++ ".<locals>.") (hdef:defaultsOf params X.env=([],[])) (hcl:∀cl,X.env.cells.lookup y=some cl->closureFor sc X.env=pure [(y,cl)])
  (S:LamScope [b1,b2] y sc) (hk:X.env.kindOf y=some .cell) (hj:X.N[2]?=some y) (hfn:X.fn y=true)
  (hba:∀(cl:Addr) (us:List Value) (pm cd ctv:Value),us.length=2->bindArgs (PySem.W.kla_fn "<lambda>" (lamQ x) params body sc [(y,cl)] pm cd ctv) ⟨us,[]⟩=pure ([b1,b2].zip us))
  (hbody:∀(A:Around) (H:Hp) (outer:List Env) (s:Shared) (f cl c':Addr),PE (cxLam X.prog X.w X.K X.mg X.base ([b1,b2] ++ [y]) (lamQ x) sc f (.ref c') [(y,cl)] A outer s H) body (tOp (rIxT X.K) (tVar 2) (tVar i)))
  (hdb:autoParam ((pl == ("__debug__":Str))=false) DG) (he:autoParam (starEach [.Name n0 p0,.Name n1 p1,.Lambda params body sc lpos] X.env=(false,eval (.Name n0 p0) X.env)::starEach [.Name n1 p1,.Lambda params body sc lpos] X.env) DH) (hpl:autoParam ((backTo pos (starEach [.Name n1 p1,.Lambda params body sc lpos] X.env)).any (·.1)=false) DH)
  (h2:autoParam (starEach [.Name n1 p1,.Lambda params body sc lpos] X.env=(false,eval (.Name n1 p1) X.env)::starEach [.Lambda params body sc lpos] X.env) DH) (h3:autoParam (starEach [.Lambda params body sc lpos] X.env=(false,eval (.Lambda params body sc lpos) X.env)::starEach [] X.env) DH) :
  PE X (.Call (.Name pl p) [.Name n0 p0,.Name n1 p1,.Lambda params body sc lpos] [] pos) (tPly i):=by
 intro DI s σ H Q I h
 obtain⟨cl,ec⟩:=I.ok.has y (.inl hk)
 obtain⟨pa,oa,qa,n,ds,ops,xs,out,fin,e0,e1,e2,r0,r1,r2,g1,g2,g3,g4,g5,g6,g7,g8,q⟩:=h
 refine wpAny_Call_Name_kw (aP I hg hm ?_ hdb)
 have ha:=zT v0 (zT v1 (zT (yJ3 (cl:=[(y,cl)]) hx ht hcode hq hdef (fun _=>hcl cl ec)) zL h3) h2) he
 refine PySem.W.callWith_K (h₀:=X.base) I.ok.mod.kin hkp (thn (ha pos DI s σ H (fun vs H1=>∃fl,vs=[.ref pa,.ref oa,.ref fl]/\LamAt H1 fl (lamQ x) params body sc [(y,cl)]/\Ext H H1) I ⟨_,e0,_,e1,fun fl H1 L ex _=>⟨fl,rfl,L,ex⟩⟩) fun us s1 ⟨vs,H1,I1,r,fl,ev,L,ex⟩=>⟨I1.kIn,?_⟩) he hpl
 subst ev
 refine xS3 (j:=2) F hr hb I1 r ec hk hfn hj e2 fun oc uy hd rv hn => ?_
 have up:Ext H1 (L2.upd H1 cl (cellO cl oc)):=Ext.new hn
 have ex2:=ex.trans up
 refine⟨pa,fl,.ref oa,ds,n,poK n (opF ops),out,fin,lamG i xs,rfl,r0.keep (fun b o e _=>ex2 b o e) (fun b _ z=>z),g1,g2,by rfl',?_,?_,⟨oa,ops,rfl,yM r1 fun o e=>ex2 _ _ e,g3,g4,g5,rfl⟩,?_,?_,g7,g8,?_⟩
 ·intro p hp
  exact Al.mp ((dZ g5).1.mem_iff.mp hp)
 ·rw[(dZ g5).1.length_eq,Aj];rfl'
 ·refine xP5 hi S rfl (L.ext up) zS hd rv (yM r2 fun o e=>ex2 _ _ e) g6 (fun us pm cd ctv hl=>hba cl us pm cd ctv hl) fun H A outer s c'=>hbody A (L2.rmv H cl) outer s fl cl c'
 ·intro b l hb hl
  unfold lamG
  split
  ·exact g6.xX hb
  ·exact g6.xX hl
 ·intro a da sa H' hna hnd hns G hta
  have C2:H' cl=some (cellO cl oc):=G.same _ _ zS
  refine⟨C2,q a da sa _ ?_ ?_ ((G.less fun b o e=>ex2 b o e).rmv (by
   cases z:H cl with
   | none=>rfl
   | some o=>have:=ex _ _ z;rw[hn] at this;cases this) C2) ?_⟩
  ·cases z:H da with
   | none=>rfl
   | some o=>rw[ex2 _ _ z] at hnd;cases hnd
  ·cases z:H sa with
   | none=>rfl
   | some o=>rw[ex2 _ _ z] at hns;cases hns
  ·rw[xV (fun z=>by rw[z,C2] at hta;cases hta)]
   exact hta
end
def zY9{H:Hp}{O:Addr->Prop}{α:Type}{f:α->V}{g:α->D}:∀(l:List α),(∀x∈l,Rep H O (f x) (g x))->Reps H O (l.map f) (l.map g)
 | [],_=>.nil
 | a::l,h=>.cons (h a Ae) (zY9 l fun x hx=>h x (Ad _ hx))
def yS9{H:Hp}{O:Addr->Prop}:∀(vs:List V) (ds:List D),vs.length=ds.length->(∀(j:Nat) (v:V) (d:D),vs[j]?=some v->ds[j]?=some d->Rep H O v d)->Reps H O vs ds
 | [],[],_,_=>.nil
 | [],_::_,h,_=>by cases h
 | _::_,[],h,_=>by cases h
 | a::vs,b::ds,h,f=>.cons (f 0 a b rfl rfl) (yS9 vs ds (Nat.succ.inj h) fun j v d e1 e2=>f (j+1) v d (by simpa using e1) (by simpa using e2))
def yI5{H0 H:Hp}{O:Addr->Prop}{as:List Addr}{out:List (Nat×List Rv)}(oh:∀a,O a->(H0 a≠none\/∃xs,H a=some (.lst xs)))(T:TurnsAt H0 H as out)(new:∀a∈as,H0 a=none):Reps H O (as.map V.ref) (out.map turnD):=by
 have no:∀a xs,H0 a=none->H a=some (.tup xs)->¬O a:=fun a xs h1 h2 z=>by
  rcases oh a z with q | ⟨ys,q⟩
  ·exact q h1
  ·rw[h2] at q;cases q
 refine yS9 _ _ (by rw[Aa,Aa,T.1]) fun j v d e1 e2 => ?_
 rw[Ai] at e1 e2
 obtain⟨a,ea,rfl⟩:=Ar.mp e1
 obtain⟨z,ez,rfl⟩:=Ar.mp e2
 obtain⟨c,h0,h1,h2⟩:=T.2 j a z ea ez
 refine .tup (.inl h1) (no a _ (new a (As ea)) h1) (.cons (.int _) (.cons (.tup (.inl h2) (no c _ h0 h2) ?_) .nil))
 exact zY9 z.2 fun r _=>.int _
def yK3{C:Ct}{i j:Nat}{e b:Expr}{pos:Pos}(hj:j<2)(he:PE C.X e (tPly i))(hb:PE C.X b (tC (.int (j:Int))))(hs:PlainIx b)(o0:0∉C.om/\0∉C.ln)(o1:1∉C.om/\1∉C.ln)(o2:2∉C.om/\2∉C.ln):RE C .new (.Subscript e b pos) (eP i j):=by
 refine⟨_,yA xK he hb hs,fun Oc Ob σ H ρ Q R h => ?_⟩
 obtain⟨a,b,c,out,fin,e0,e1,e2,P,k⟩:=xO1 h
 obtain⟨n,ds,ops,xs,rfl,rfl,rfl,g1,g2,g3,g4,g5,g6,g7,g8⟩:=P.ex
 obtain⟨v0,s0,r0⟩:=R.val 0 _ e0 o0.1 o0.2
 obtain⟨v1,s1,r1⟩:=R.val 1 _ e1 o1.1 o1.2
 obtain⟨v2,s2,r2⟩:=R.val 2 _ e2 o2.1 o2.2
 have q0:=r0.less (O':=fun _=>False) fun _ z=>z.elim
 cases r0 with
 | @tup pa _ _ _ _ _ =>
 cases r1 with
 | @tup oa y1 _ rd1 _ rs1 =>
 cases r2 with
 | @tup qa y2 _ rd2 _ rs2 =>
 obtain rfl:=rs1.ints
 obtain rfl:=rs2.ints
 refine⟨pa,oa,qa,n,ds,ops,xs,out,fin,s0,s1,s2,q0,rd1,rd2,g1,g2,g3,g4,g5,g6,g7,g8,fun a da sa H' hd hsn G hta => ?_⟩
 obtain⟨as,d1,d2,d3⟩:=G.don
 have oh:∀(l:Addr),(∃xs,H' l=some (.lst xs))->∀b,(Uni Oc Ob b\/b=l)->(H b≠none\/∃xs,H' b=some (.lst xs)):=fun l hl b z=>by
  rcases z with z | z
  ·exact .inl (R.oh b z)
  ·rw[z];exact .inr hl
 rcases (show j=0\/j=1 by rfl') with rfl | rfl
 ·refine⟨a,_,_,.ref da,rfl,rfl,.inl (.inl hta),rfl,k _ _ G.same ?_⟩
  rw[Aq rfl]
  exact⟨da,_,_,rfl,rfl,hd,d1,yI5 (oh da ⟨_,d1⟩) d2 d3⟩
 ·refine⟨a,_,_,.ref sa,rfl,rfl,.inl (.inl hta),rfl,k _ _ G.same ?_⟩
  rw[AJ (by decide)]
  exact⟨sa,_,_,rfl,rfl,hsn,G.see,zY9 fin fun x _=>by cases x with | none=>exact .non | some x=>exact .int _⟩
end L2.L3
namespace L2
open PySem PySem.Spec PyProof.Rows
def LamScope.of{ps:List Str}{y:Str}{sc:Scope}(h1:sc.kind=.function)(h2:sc.isCoroutine=false)(h3:sc.isGenerator=false)(h4:∀x∈ps,sc.names.lookup x=some .local)(h5:ps.Nodup)(h6:sc.names.lookup y=some .free)(h7:∀z∈sc.names,z.2 ≠ .cell)(h8:(sc.names.all fun p=>!(p.2 == .free) || p.1 == y)=true):LamScope ps y sc:=by
 refine⟨h1,h2,h3,h4,h5,h6,h7,fun z e => ?_⟩
 have:=AF.mp h8 _ (Bb e)
 simpa using this
def yZ5{env:Env}{ad:Str->Addr}:∀(names:List (Str×NameKind)) (cs:List (Str×Addr)),(∀p∈names,p.2=.free->env.cells.lookup p.1=some (ad p.1)) ->
  (forIn names cs (fun (p:Str×NameKind) (r:List (Str×Addr))=>(if (p.2 == .free)=true then (do let a <-cellOf env p.1;pure (ForInStep.yield ((p.1,a)::r))) else pure (ForInStep.yield r):Sem _)))=(pure (((names.filter fun p=>p.2 == .free).map fun p=>(p.1,ad p.1)).reverse++cs):Sem _)
 | [],cs,_=>by simp
 | p::names,cs,h=>by
  rw[List.forIn_cons]
  by_cases e:p.2=.free
  ·have e':(p.2 == .free)=true:=by rw[e];rfl
   have ec:cellOf env p.1=pure (ad p.1):=by
    unfold cellOf
    rw[h p Ae e]
   rw[Aq e',ec]
   simp only[pure_bind]
   rw[yZ5 names _ fun q hq=>h q (Ad _ hq),CJ,Aq e']
   simp
  ·have e':¬(p.2 == .free)=true:=fun z=>e (by simpa using z)
   rw[AJ e']
   simp only[pure_bind]
   rw[yZ5 names _ fun q hq=>h q (Ad _ hq),CJ,AJ e']
def fN{sc:Scope}{env:Env}{y:Str}{cl:Addr}(h:(sc.names.filter fun p=>p.2 == .free)=[(y,.free)])(e:env.cells.lookup y=some cl):closureFor sc env=pure [(y,cl)]:=by
 have g:=yZ5 (env:=env) (ad:=fun _=>cl) sc.names [] fun p hp hf=>by
  have:p∈sc.names.filter fun p=>p.2 == .free:=Bk.mpr ⟨hp,by rw[hf];rfl⟩
  rw[h] at this
  rw[Cf.mp this]
  exact e
 rw[h] at g
 unfold closureFor
 show (forIn sc.names [] (fun (p:Str×NameKind) (r:List (Str×Addr))=>(if (p.2 == .free)=true then (do let a <-cellOf env p.1;pure (ForInStep.yield ((p.1,a)::r))) else pure (ForInStep.yield r):Sem _)) >>= fun cs=>pure cs)=_
 rw[g]
 rfl
end L2
namespace L2.L3
open PySem PySem.Spec PyProof.Rows
variable [CN]
section
variable {P:Program}{w:World}{K:KFr}{mg:Str->Option Value}{base:Heap}
def yU7{c:Addr}{x:Str}{st:Stmt}{f:Addr}{fd:FuncData}{N ps:List Str}{k:Nat}{m:Ev->Res Out}{fr:Bool}(om:List Nat)(F:Fun K x x st f fd)(hc:fd.code=.ref c)(S:zI N ps (zU st))
  (hbody:∀(A:Around) (outer:List Env) (s:Shared) (H:Hp) (E:XK),Room k (A.deeper (envOfC x (zU st) s.heap.objs.size f (.ref c)))->RSs (bodyX P w K mg base N x (zU st) f (.ref c) A outer s H E om) fr (defBody st) m)
  (hom:autoParam (om.all (fun i=>decide (ps.length<=i))=true) DH) :
  FnOk P w K mg base (CXV P w) (k+1) f fd ps (spX fr (runF fr ps.length N.length m)):=by
 have len:∀(vs:List V) (H:Hp) (Q:VK) (E:XK),spX fr (runF fr ps.length N.length m) vs H Q E->vs.length=ps.length:=fun vs H Q E h=>by
  obtain⟨ds,O,oh,r,k⟩:=h
  unfold runF at k
  split at k
  ·rename_i hl
   rw[r.length];exact hl
  ·exact k.elim
 obtain⟨oc,od,kV,doc,pm,an,cdv,ct,osl,rfl,lk,hcd⟩:=F.ex
 obtain rfl:cdv=.ref c:=hc
 refine zR2 lk hcd S len fun A outer s H vs Q E hr h => ?_
 have hvl:=len vs H Q E h
 obtain⟨ds,O,oh,r,k⟩:=h
 have hl:ds.length=ps.length:=by rw[<-r.length];exact hvl
 unfold runF at k
 rw[Aq hl] at k
 obtain⟨t,p,q⟩:=hbody A outer s H E hr
 refine⟨t,p,q ⟨O,fun _=>0⟩ (fun _=>False) _ H (ds.map some++List.replicate (N.length-ps.length) none) _ ?_ ?_⟩
 ·refine⟨?_,fun i d e _ _ => ?_,fun i d e ho => ?_,fun i d e _ hl=>(nomatch hl),fun i j di dj a ei _ ho _ _ _ => ?_,fun a z=>oh a (z.elim id fun z=>z.elim),fun a z=>z.elim⟩
  ·unfold start
   rw[Ao,Ao,Aa,Aa,Bj,Bj,hvl,hl]
  ·obtain⟨v,ev,rv⟩:=r.get (xA e)
   exact⟨v,zX8 ev,rv.less fun b z=>z.elim id fun z=>z.elim⟩
  ·have h1:=(Ac.mp (xA e)).1
   have h2:ps.length<=i:=of_decide_eq_true (AF.mp hom i ho)
   rfl'
  ·have h1:=(Ac.mp (xA ei)).1
   have h2:ps.length<=i:=of_decide_eq_true (AF.mp hom i ho)
   rfl'
 ·have same:∀{H':Hp},Frm (fun _=>False) H H'->Same H H':=fun f b o e=>f b o e fun z=>z
  refine Res.zQ (Res.zX k) (fun o _ k => ?_) fun c z H' f=>z H' (same f)
  cases o with
  | rt d =>
   intro v H' f rt
   refine k v H' (same f) ?_
   cases fr with
   | false=>exact rt
   | true =>
    obtain⟨a,ys,ds,e1,e2,e3,e4,e5,e6⟩:=rt
    exact⟨a,ys,ds,e1,e2,e3.elim id fun z=>z.elim,e5,e6⟩
  | nx ρ' =>
   cases fr with
   | true=>exact k.elim
   | false=>exact fun σ' H' Ob' R f s=>k .non H' (same f) Rep.non
end
section
variable {X:Cx}
def zJ5:∀{ts:List Str}{us:List Value},Vals (ts.map V.str) us->∃l:List (Str×Tok),us=strValues l/\l.map (·.1)=ts
 | [],us,h=>by cases h;exact⟨[],rfl,rfl⟩
 | z::ts,us,h=>by
  cases h with
  | cons r rs =>
   obtain⟨t,rfl⟩:=r
   obtain⟨l,rfl,e⟩:=zJ5 rs
   exact⟨(z,t)::l,rfl,by rw[AU,e]⟩
def zL2:∀l:List (Str×Tok),Vals ((l.map (·.1)).map V.str) (strValues l)
 | []=>.nil
 | (z,t)::l=>.cons ⟨t,rfl⟩ (zL2 l)
def rDig:V->List V->Hp->VK->Prop:=fun x vs H Q=>∃z,x=.str z/\vs=[]/\Q (.bl (Txt.isdigit z)) H
def yM1:MtR X "str.isdigit" rDig:=by
 rintro DI s σ H x vs v us Q I rx rv ⟨z,rfl,rfl,q⟩
 obtain⟨t,rfl⟩:=rx
 cases rv
 exact SC.isdigit ⟨.bl _,H,I,rfl,q⟩
def rStw:V->List V->Hp->VK->Prop:=fun x vs H Q=>∃z y,x=.str z/\vs=[.str y]/\Q (.bl (Txt.startswith z y)) H
def kQ:MtR X "str.startswith" rStw:=by
 rintro DI s σ H x vs v us Q I rx rv ⟨z,y,rfl,rfl,q⟩
 obtain⟨t,rfl⟩:=rx
 obtain⟨u,rfl,t2,rfl⟩:=vals1 rv
 exact SC.startswith ⟨.bl _,H,I,rfl,q⟩
def rJoin(K:KFr):V->List V->Hp->VK->Prop:=fun x vs H Q=>∃z p ts,x=.str z/\vs=[.ref p]/\SqL K H p (ts.map V.str)/\JoinOk z ts=true/\Q (.str (Txt.join z ts)) H
def zO6:MtR X "str.join" (rJoin X.K):=by
 rintro DI s σ H x vs v us Q I rx rv ⟨z,p,ts,rfl,rfl,hq,ok,q⟩
 obtain⟨t,rfl⟩:=rx
 obtain⟨u,rfl,ru⟩:=vals1 rv
 cases ru
 obtain⟨its,r,pl,_⟩:=I.list hq
 obtain⟨l,rfl,el⟩:=zJ5 r
 exact SC.join pl.isList el ok fun t' k=>⟨.str _,H,I.tok _,⟨_,rfl⟩,q⟩
def rSpl:V->List V->Hp->VK->Prop:=fun x vs H Q=>∃z y,x=.str z/\vs=[.str y]/\1<=y.length/\z.length+2<=sizeLine/\∀p,H p=none->Q (.ref p) (upd H p (.lst ((Txt.split z y).map V.str)))
def zE6:MtR X "str.split" rSpl:=by
 rintro DI s σ H x vs v us Q I rx rv ⟨z,y,rfl,rfl,hy,hz,q⟩
 obtain⟨t,rfl⟩:=rx
 obtain⟨u,rfl,t2,rfl⟩:=vals1 rv
 have y0:(y.length == 0)=false:=by rw[beq_eq_false_iff_ne];rfl'
 have few:=split_le z y
 have fin:∀(l:List (Str×Tok)) (k:Nat),l.map (·.1)=Txt.split z y->EP X DI σ Q (.ref s.heap.objs.size) { s with heap:=s.heap.push { cls:=.type "list",data:=.seq (strValues l).toArray },toks:=k }:=fun l k e=>by
  have V0:=zL2 l
  rw[e] at V0
  exact⟨.ref _,_,I.lnew (t':=k) V0 (by rw[Aa];rfl'),rfl,q _ I.fresh⟩
 have one:∀k,Txt.split z y=[z]->EP X DI σ Q (.ref s.heap.objs.size) { s with heap:=s.heap.push { cls:=.type "list",data:=.seq [Value.str z t].toArray },toks:=k }:=fun k e=>fin [(z,t)] k (by rw[e];rfl)
 by_cases c1:(decide (z.length<y.length) || decide (Builtin.Str.strKind z<Builtin.Str.strKind y))=true
 ·have e:Txt.split z y=[z]:=by unfold Txt.split;rw[Aq c1]
  exact call_meets F.slot_str_split (typeIs_str s z t) F.entry_str_split (DA _ _) (meets_str_split_cannot_occur z y t t2 c1) (one s.toks e)
 ·have c1':=Cb _▸c1
  by_cases c2:(Builtin.Str.occurrences z y 0 z.length (z.length+1)).isEmpty=true
  ·have e:Txt.split z y=[z]:=by unfold Txt.split;rw[AJ c1,Aq c2]
   exact call_meets F.slot_str_split (typeIs_str s z t) F.entry_str_split (DA _ _) (meets_str_split_not_found z y t t2 (by simpa using c1) y0 c2) (one s.toks e)
  ·have e:Txt.split z y=Builtin.Str.partsBetween z (Builtin.Str.occurrences z y 0 z.length (z.length+1)) y.length:=by unfold Txt.split;rw[AJ c1,AJ c2]
   rw[e] at few
   refine call_meets F.slot_str_split (typeIs_str s z t) F.entry_str_split (DA _ _) (meets_str_split_sep z y t t2 (by simpa using c1) y0 (by simpa using c2) (by rfl') (by rfl')) ?_
   have key:=fin (numbered s.toks (Txt.split z y)) (s.toks+(Builtin.Str.partsBetween z (Builtin.Str.occurrences z y 0 z.length (z.length+1)) y.length).length) (numbered_texts _ _)
   rw[e,<-strsFrom_eq] at key
   exact key
end
def strD:D->Option Str
 | .str z=>some z
 | _=>none
def vL{x:D}{z:Str}(h:strD x=some z):x=.str z:=by
 cases x with
 | str y=>cases h;rfl
 | _=>cases h
def xP(z:Str):strD (.str z)=some z:=rfl
def strsOf:List D->Option (List Str)
 | []=>some []
 | x::xs=>(strD x).bind fun z=>(strsOf xs).bind fun zs=>some (z::zs)
def zR8:∀zs:List Str,strsOf (zs.map PyData.str)=some zs
 | []=>rfl
 | z::zs=>by
  show (strD (.str z)).bind _=_
  rw[xP,Bg,zR8 zs]
  rfl
def zZ5:∀{ds:List D}{zs:List Str},strsOf ds=some zs->ds=zs.map PyData.str
 | [],zs,h=>by cases h;rfl
 | x::xs,zs,h=>by
  obtain⟨z,e1,h⟩:=AR.mp h
  obtain⟨ys,e2,h⟩:=AR.mp h
  cases h
  rw[vL e1,zZ5 e2]
  rfl
def zM9{H:Hp}{O:Addr->Prop}:∀{zs:List Str}{vs:List V},Reps H O vs (zs.map PyData.str)->vs=zs.map V.str
 | [],vs,h=>by cases h;rfl
 | z::zs,vs,h=>by
  cases h with
  | cons r rs =>
   cases r
   rw[zM9 rs]
   rfl
def zJ1{H:Hp}{O:Addr->Prop}:∀zs:List Str,Reps H O (zs.map V.str) (zs.map PyData.str)
 | []=>.nil
 | z::zs=>.cons (.str z) (zJ1 zs)
def eM0S(f:Str->Option D)(mo:Ev->Res D):Ev->Res D:=fun ρ=>(mo ρ).bind fun x=>(Res.lft (strD x)).bind fun z=>Res.lft (f z)
def zP8(f:Str->Option D)(mo:Ev->Res D)(ρ:Ev):eM0S f mo ρ=(mo ρ).bind fun x=>(Res.lft (strD x)).bind fun z=>Res.lft (f z):=rfl
def yO1{C:Ct}{o:Expr}{apos cpos:Pos}{md:Md}{mo:Ev->Res D}(ho:RE C md o mo)
  (hbase:autoParam (attributeBase o "isdigit" C.X.env (eval o C.X.env)=eval o C.X.env) DH) (hline:autoParam ((apos.endLine == cpos.line)=true) DH) :
  RE C .cl (.Call (.Attribute o "isdigit" apos) [] [] cpos) (eM0S (fun z=>some (.bool (Txt.isdigit z))) mo):=by
 obtain⟨to,po,qo⟩:=ho
 refine⟨_,yF5 Cr PySem.F.slot_str_isdigit PySem.F.type_str_isdigit yM1 po hbase hline,fun Oc Ob σ H ρ Q R h => ?_⟩
 refine qo Oc Ob σ H ρ _ R (Res.zQ (Res.zX h) (fun dx _ k x H1 s1 vx => ?_) fun _ z=>z)
 obtain⟨z,ez,k1⟩:=Res.zD (Res.zX k)
 obtain rfl:=vL ez
 obtain⟨d,ed,k2⟩:=Res.zD k1
 cases ed
 obtain rfl:=(vx.va R.oh).str
 exact⟨rfl,z,rfl,rfl,k2 _ H1 s1 (Rep.bl _)⟩
def eM1S(f:Str->D->Option D)(mo ma:Ev->Res D):Ev->Res D:=fun ρ=>(mo ρ).bind fun x=>(Res.lft (strD x)).bind fun z=>(ma ρ).bind fun y=>Res.lft (f z y)
def vD(f:Str->D->Option D)(mo ma:Ev->Res D)(ρ:Ev):eM1S f mo ma ρ=(mo ρ).bind fun x=>(Res.lft (strD x)).bind fun z=>(ma ρ).bind fun y=>Res.lft (f z y):=rfl
def Pr1S(r:V->List V->Hp->VK->Prop)(md:Md)(f:Str->D->Option D):Prop :=
 ∀(Oc:Wd) (Ob:Addr->Prop) (H:Hp) (z:Str) (y:V) (dy d:D) (Q:VK),(∀a,Oc a\/Ob a->H a≠none)->VA Oc Ob H y dy->f z dy=some d->(∀v H',Same H H'->VR md Oc Ob H H' v d->Q v H')->r (.str z) [y] H Q
def vT{C:Ct}{o a:Expr}{name:Str}{id:String}{apos cpos:Pos}{md mda mdr:Md}{mo ma:Ev->Res D}{r:V->List V->Hp->VK->Prop}{f:Str->D->Option D}(slot:Slot "str" name id)(hty:typeOf (.builtin id)=pure (.type "method_descriptor"))(hm:MtR C.X id r)(hp:Pr1S r mdr f)(ho:RE C md o mo)(ha:RE C mda a ma)
  (hbase:autoParam (attributeBase o name C.X.env (eval o C.X.env)=eval o C.X.env) DH)
  (hfew:((backTo cpos (starEach [a] C.X.env)).all (fun x=>!x.1)&&(backToKw cpos (keywordEach [] C.X.env)).all (fun x=>x.1.isSome)
  &&decide ([a].length+([]:List Keyword).length+(if ([]:List Keyword).isEmpty then 0 else 1)<30))=true:=by rfl)
  (hline:autoParam ((apos.endLine == cpos.line)=true) DH) (hs:autoParam (starEach [a] C.X.env=(false,eval a C.X.env)::starEach [] C.X.env) DH) (hplain:autoParam ((backTo cpos (starEach [] C.X.env)).any (·.1)=false) DH) :
  RE C mdr (.Call (.Attribute o name apos) [a] [] cpos) (eM1S f mo ma):=by
 obtain⟨to,po,qo⟩:=ho
 obtain⟨ta,pa,qa⟩:=ha
 refine⟨_,wN Cr slot hty hm po (zT pa zL hs) hbase hfew hline hs hplain,fun Oc Ob σ H ρ Q R h => ?_⟩
 refine qo Oc Ob σ H ρ _ R (Res.zQ (Res.zX h) (fun dx _ k x H1 s1 vx => ?_) fun _ z=>z)
 obtain⟨z,ez,k⟩:=Res.zD (Res.zX k)
 obtain rfl:=vL ez
 obtain rfl:=(vx.va R.oh).str
 refine⟨rfl,qa Oc Ob σ H1 ρ _ (R.same s1) (Res.zQ (Res.zX k) (fun dy _ k y H2 s2 vy => ?_) fun c z H' s'=>z H' (s1.trans s'))⟩
 obtain⟨d,ed,k⟩:=Res.zD k
 exact hp Oc Ob H2 z y dy d Q ((R.same s1).same s2).oh (vy.va (R.same s1).oh) ed fun v H' s3 rv=>k v H' ((s1.trans s2).trans s3) (rv.from (s1.trans s2))
def stwD(z:Str)(y:D):Option D:=(strD y).map fun u=>.bool (Txt.startswith z u)
def cS:Pr1S rStw .cl stwD:=by
 intro Oc Ob H z y dy d Q oh vy e k
 obtain⟨u,e1,rfl⟩:=Ar.mp e
 obtain rfl:=vL e1
 obtain rfl:=vy.str
 exact⟨z,u,rfl,rfl,k _ H (Same.refl H) (Rep.bl _)⟩
def splD(z:Str)(y:D):Option D:=(strD y).bind fun u=>if 1<=u.length/\z.length+2<=sizeLine then some (.list ((Txt.split z u).map PyData.str)) else none
def yX1:Pr1S rSpl .new splD:=by
 intro Oc Ob H z y dy d Q oh vy e k
 obtain⟨u,e1,e0⟩:=AR.mp e
 obtain rfl:=vL e1
 obtain rfl:=vy.str
 split at e0
 ·rename_i h
  cases e0
  exact⟨z,u,rfl,rfl,h.1,h.2,fun p hp=>k _ _ (Same.new hp) (xU (Same.refl H) hp (zJ1 _))⟩
 ·cases e0
def joinD(z:Str)(y:D):Option D:=(lstD y).bind fun ds=>(strsOf ds).bind fun ts=>if JoinOk z ts=true then some (.str (Str.join z ts)) else none
def zO9{K:KFr}:Pr1S (rJoin K) .cl joinD:=by
 intro Oc Ob H z y dy d Q oh vy e k
 obtain⟨ds,e1,e3⟩:=AR.mp e
 obtain⟨ts,e2,e0⟩:=AR.mp e3
 obtain rfl:=kY e1
 obtain rfl:=zZ5 e2
 obtain⟨a,ys,rfl,rd,rs⟩:=vy.list
 obtain rfl:=zM9 rs
 split at e0
 ·rename_i h
  cases e0
  refine⟨z,a,ts,rfl,rfl,.inl rd,h,?_⟩
  rw[show Txt.join z ts=Str.join z ts from StrLaws.glued_eq_join z ts]
  exact k _ H (Same.refl H) (Rep.str _)
 ·cases e0
def strOfD:List D->Option D
 | [.int i]=>if i.natAbs.log2<1920 then some (.str (toString i)) else none
 | _=>none
def xC5:PrC (fun xs H Q=>∃i,xs=[.int i]/\i.natAbs.log2<1920/\Q (.str (toString i)) H) .cl strOfD:=by
 intro Oc Ob H vs ds d Q oh r e k
 unfold strOfD at e
 split at e
 ·split at e
  ·rename_i h
   cases e
   obtain⟨v,rfl,hv⟩:=zM2 r
   exact⟨_,by rw[hv.int],h,k _ H (Same.refl H) (Rep.str _)⟩
  ·cases e
 ·cases e
def zI8{X:Cx}:CallR X (.type "int") (fun xs H Q=>∃z n,xs=[.str z]/\PySem.intText? z=some n/\z.length<=640/\Q (.int n) H):=by
 rintro DI s σ H xs us Q I r ⟨z,n,rfl,e,hl,q⟩
 obtain⟨u,rfl,t,rfl⟩:=vals1 r
 exact PySem.W.KIN.call_text e hl ⟨.int n,H,I.tok _,⟨_,rfl⟩,q⟩
def intTD:List D->Option D
 | [.str z]=>if z.length<=640 then (PySem.intText? z).map PyData.int else none
 | _=>none
def xK6:PrC (fun xs H Q=>∃z n,xs=[.str z]/\PySem.intText? z=some n/\z.length<=640/\Q (.int n) H) .cl intTD:=by
 intro Oc Ob H vs ds d Q oh r e k
 unfold intTD at e
 split at e
 ·split at e
  ·rename_i h
   obtain⟨n,en,rfl⟩:=Ar.mp e
   obtain⟨v,rfl,hv⟩:=zM2 r
   exact⟨_,n,by rw[hv.str],en,h,k _ H (Same.refl H) (Rep.int _)⟩
  ·cases e
 ·cases e
def lenTD:List D->Option D
 | [.str z]=>if z.length<=sizeLine then some (.int z.length) else none
 | _=>none
def yT7:PrC (fun xs H Q=>∃z,xs=[.str z]/\z.length<=sizeLine/\Q (.int z.length) H) .cl lenTD:=by
 intro Oc Ob H vs ds d Q oh r e k
 unfold lenTD at e
 split at e
 ·split at e
  ·rename_i h
   cases e
   obtain⟨v,rfl,hv⟩:=zM2 r
   exact⟨_,by rw[hv.str],h,k _ H (Same.refl H) (Rep.int _)⟩
  ·cases e
 ·cases e
section
variable {X:Cx}
def rSlS:V->Option Int->Option Int->Hp->VK->Prop:=fun x lo hi H Q=>∃z,x=.str z/\z.length<=sizeLine/\Q (.str (Txt.slice z lo hi)) H
def yT6{v:Value}{o:Option Int}(h:IsPart v o):∃l:Option (Int×Tok),v=partValue l/\l.map (·.1)=o:=by
 cases h
 ·exact⟨none,rfl,rfl⟩
 ·rename_i i t
  exact⟨some (i,t),rfl,rfl⟩
def xG2:SlR X rSlS:=by
 rintro DI s σ H x v vl vu lo hi sl Q I rx hs pl pu ⟨z,rfl,hz,q⟩
 obtain⟨t,rfl⟩:=rx
 obtain⟨l,rfl,rfl⟩:=yT6 pl
 obtain⟨u,rfl,rfl⟩:=yT6 pu
 refine⟨"str",_,F.slot_str_getitem.lookup,typeIs_str _ _ _,wpAny_getItem_str_slice (l:=l) (u:=u) (st:=none) hs rfl (post_val_or_str ⟨Bf (Txt.slice_le z _ _) hz,fun t' k => ?_⟩)⟩
 exact⟨.str _,H,I.tok _,⟨_,rfl⟩,q⟩
end
def slS(x:D)(lo hi:Option Int):Option D:=(strD x).bind fun z=>if z.length<=sizeLine then some (.str (Txt.slice z lo hi)) else none
def xF2:PrS rSlS .cl slS:=by
 intro Oc Ob H x dx lo hi d Q oh va e k
 obtain⟨z,e1,e0⟩:=AR.mp e
 obtain rfl:=vL e1
 split at e0
 ·rename_i h
  cases e0
  exact⟨z,va.str,h,k _ H (Same.refl H) (Rep.str _)⟩
 ·cases e0
def yD4{C:Ct}{e:Expr}{lo hi:Option Expr}{mda:Md}{me:Ev->Res D}{ml mh:Ev->Res (Option Int)}{p2 pos:Pos}(he:RE C mda e me)(hl:RO C lo ml)(hu:RO C hi mh):RE C .cl (.Subscript e (.Slice lo hi none p2) pos) (eS slS me ml mh):=zC7 xG2 xF2 he hl hu
def sTryN(mb:Ev->Res Out):Ev->Res Out:=fun ρ=>noEx (mb ρ)
def xK8{C:Ct}{fr:Bool}{body:List Stmt}{h0:ExceptHandler}{hs0:List ExceptHandler}{pos:Pos}{mb:Ev->Res Out}
  (hbody:∀(pn:List (Addr×Obj)) (xe:Value->Shared->Prop),RSs ⟨inTry C.X pn xe,fun _ _=>False,C.om,C.ln⟩ fr body mb):RS C fr (.Try body (h0::hs0) [] [] pos) (sTryN mb):=by
 refine⟨fun D σ H=>∀DI s,Inv C.X DI σ H s->wpAny (model C.X.prog C.X.w) C.X.A (exec (.Try body (h0::hs0) [] [] pos) C.X.env) (SP C.X DI D) C.X.xe s,fun DI s σ H D I h=>h DI s I,fun Oc Ob σ H ρ E R hp DI s I => ?_⟩
 refine wpAny_Try_except ?_
 generalize hxe:(fun (e:Value) (s₁:Shared)=>wpAny (model C.X.prog C.X.w) C.X.A (noteFrame e C.X.env) (fun _ s₂=>wpAny (model C.X.prog C.X.w) C.X.A (setFlight e none) (fun _ s₃=>wpAny (model C.X.prog C.X.w) C.X.A (handleBy e C.X.env (h0::hs0)) (SP C.X DI E) C.X.xe s₃) C.X.xe s₂) C.X.xe s₁)=xe'
 obtain⟨tb,pb,qb⟩:=hbody (C.X.pn++DI) xe'
 refine wpAny_mono (pb [] s σ H E (Inv.toTry I _) (qb Oc Ob σ H ρ E R ?_)) (fun f s₁ hs => ?_) fun e s₁ z=>z
 ·unfold sTryN at hp
  cases em:mb ρ with
  | ok o=>rw[em] at hp;exact hp
  | no=>rw[em] at hp;exact hp.elim
  | ex c=>rw[em] at hp;exact hp.elim
 ·cases f with
  | next=>exact wpAny_execs_nil (SP.ofTry hs)
  | brk=>exact SP.ofTry (f:=.brk) hs
  | cont=>exact SP.ofTry (f:=.cont) hs
  | ret u=>exact SP.ofTry (f:=.ret u) hs
section
variable {X:Cx}
def ptV(z y:Str):List V:=[.str (Txt.partition z y).1,.str (Txt.partition z y).2.1,.str (Txt.partition z y).2.2]
def rPart:V->List V->Hp->VK->Prop:=fun x vs H Q=>∃z y,x=.str z/\vs=[.str y]/\1<=y.length/\z.length<=sizeLine/\∀p,H p=none->Q (.ref p) (upd H p (.tup (ptV z y)))
def Inv.tnew{its:List Value}{ys:List V}{t':Nat}{DI:List (Addr×Obj)}{σ:St}{H:Hp}{s:Shared}(I:Inv X DI σ H s)(hv:Vals ys its)(hz:ys.length<=sizeLine) :
  Inv X DI σ (upd H s.heap.objs.size (.tup ys)) { s with heap:=s.heap.push { cls:=.type "tuple",data:=.seq its.toArray },toks:=t' } :=
 I.laid (fun _ _ q=>Af _ q) (Ak _) ⟨hz,its,hv,_,Aw _ rfl,rfl,⟨_,rfl⟩,rfl⟩
def yY9:MtR X "str.partition" rPart:=by
 rintro DI s σ H x vs v us Q I rx rv ⟨z,y,rfl,rfl,hy,hz,q⟩
 obtain⟨t,rfl⟩:=rx
 obtain⟨u,rfl,t2,rfl⟩:=vals1 rv
 have y0:(y.length == 0)=false:=by rw[beq_eq_false_iff_ne];rfl'
 have fin:∀(a b c:Tok) (k:Nat),EP X DI σ Q (.ref s.heap.objs.size) { s with heap:=s.heap.push { cls:=.type "tuple",data:=.seq [Value.str (Txt.partition z y).1 a,.str (Txt.partition z y).2.1 b,.str (Txt.partition z y).2.2 c].toArray },toks:=k }:=fun a b c k =>
  ⟨.ref _,_,Inv.tnew (ys:=ptV z y) I (.cons ⟨a,rfl⟩ (.cons ⟨b,rfl⟩ (.cons ⟨c,rfl⟩ .nil))) (by show 3<=sizeLine;decide),rfl,q _ I.fresh⟩
 refine call_meets F.slot_str_partition (typeIs_str s z t) F.entry_str_partition (F.args_str_partition_2 _ _) (meets_str_partition z y t t2 y0 hz) ?_
 unfold Txt.partition at fin
 generalize Builtin.Str.occurrences z y 0 z.length 1=l at fin ⊢
 cases l with
 | cons i r=>exact fin _ _ _ _
 | nil=>exact fin _ _ _ _
end
def catZ(acc:Str)(zs:List Str):Str:=zs.foldl (fun a b=>a++b) acc
abbrev TJ:=St->Hp->(List Str->Hp->Prop)->Prop
def PJs(X:Cx)(n:Nat)(es:List Expr)(t:TJ):Prop :=
 ∀(DI:List (Addr×Obj)) (s:Shared) (σ:St) (H:Hp) (acc:Str) (K:Str->Hp->Prop),Inv X DI σ H s->acc.length<=n*1000000->t σ H (fun zs H'=>K (catZ acc zs) H') ->
  Joins (model X.prog X.w) X.A X.xe (evalEach es X.env) acc (fun out s₁=>out.length<=sizeLine/\∃H',Inv X DI σ H' s₁/\K out H') s
def line16:16*1000000<=sizeLine:=by decide
section
variable {X:Cx}{n:Nat}{es:List Expr}{t:TJ}
def xE5(hn:n<=16):PJs X n [] (fun _ H Q=>Q [] H):=by
 intro DI s σ H acc K I hl h
 have:=line16
 have:=BU 1000000 hn
 exact⟨by rfl',H,I,h⟩
def xT7{a:Str}{j:Nat}{p:Pos}(ha:a.length<=1000)(hn:n+1<=16)(h:PJs X (n+1) es t):PJs X n (.Constant (.str a) j p::es) (fun σ H Q=>t σ H fun zs H'=>Q (a::zs) H'):=by
 intro DI s σ H acc K I hl hk
 have:=line16
 have:=BU 1000000 hn
 show wpAny _ _ (eval (.Constant (.str a) j p) X.env) _ _ _
 refine Calls.Constant_str ⟨a,_,rfl,by rw[AG];rfl',?_⟩
 exact h DI _ σ H (acc++a) K (I.tok _) (by rw[AG];rfl') hk
def xB4{e:Expr}{te:TE}{p:Pos}(he:PE X e te)(hn:n+1<=16)(h:PJs X (n+1) es t):PJs X n (.FormattedValue e (-1) none p::es) (fun σ H Q=>te σ H fun x H1=>∃z,x=.str z/\z.length<=1000000/\t σ H1 fun zs H'=>Q (z::zs) H'):=by
 intro DI s σ H acc K I hl hk
 have:=line16
 have:=BU 1000000 hn
 show wpAny _ _ (eval (.FormattedValue e (-1) none p) X.env) _ _ _
 refine wpAny_FormattedValue_plain (thn (he DI _ σ H _ I hk) fun v s1 ⟨x,H1,I1,r1,z,ez,hz,q⟩ => ?_)
 subst ez
 obtain⟨u,rfl⟩:=r1
 have go:∀s2,Inv X DI σ H1 s2->Joins (model X.prog X.w) X.A X.xe (evalEach es X.env) (acc++z) (fun out s₁=>out.length<=sizeLine/\∃H',Inv X DI σ H' s₁/\K out H') s2:=fun s2 I2=>h DI s2 σ H1 (acc++z) K I2 (by rw[AG];rfl') q
 exact wpAny_formatField_str ⟨z,_,rfl,by rw[AG];rfl',go _ I1⟩ ⟨z,_,rfl,by rw[AG];rfl',go _ (I1.tok _)⟩ (by rfl')
def xD1{e:Expr}{te:TE}{p:Pos}(he:PE X e te)(hn:n+1<=16)(h:PJs X (n+1) es t):PJs X n (.FormattedValue e (-1) none p::es) (fun σ H Q=>te σ H fun x H1=>∃i,x=.int i/\i.natAbs.log2<1920/\(toString i:Str).length<=1000000/\t σ H1 fun zs H'=>Q ((toString i:Str)::zs) H'):=by
 intro DI s σ H acc K I hl hk
 have:=line16
 have:=BU 1000000 hn
 show wpAny _ _ (eval (.FormattedValue e (-1) none p) X.env) _ _ _
 refine wpAny_FormattedValue_plain (thn (he DI _ σ H _ I hk) fun v s1 ⟨x,H1,I1,r1,i,ei,hd,hz,q⟩ => ?_)
 subst ei
 obtain⟨u,rfl⟩:=r1
 refine wpAny_formatField_int hd ⟨_,_,rfl,by rw[AG];rfl',?_⟩
 exact h DI _ σ H1 (acc++(toString i:Str)) K (I1.tok _) (by rw[AG];rfl') q
def yH9{v1 v2:Expr}{pos:Pos}(h:PJs X 0 (v1::v2::es) t):PE X (.JoinedStr (v1::v2::es) pos) (fun σ H Q=>t σ H fun zs H'=>Q (.str (catZ Str.empty zs)) H'):=by
 intro DI s σ H Q I hk
 refine wpAny_JoinedStr ?_
 have key:=h DI s σ H Str.empty (fun out H'=>Q (.str out) H') I (AQ _) hk
 have mono:∀(parts:List (Sem Value)) (acc:Str) (Q1 Q2:Str->Shared->Prop) (s:Shared),(∀o s,Q1 o s->Q2 o s)->Joins (model X.prog X.w) X.A X.xe parts acc Q1 s->Joins (model X.prog X.w) X.A X.xe parts acc Q2 s:=fun parts=>by
  induction parts with
  | nil=>exact fun acc Q1 Q2 s h k=>h _ _ k
  | cons p ps ih=>exact fun acc Q1 Q2 s h k=>wpAny_mono k (fun v s1 ⟨y,u,e,l,j⟩=>⟨y,u,e,l,ih _ _ _ _ h j⟩) fun _ _ z=>z
 refine mono _ _ _ _ _ (fun o s1 ⟨l,H',I',k⟩=>⟨l,.str o,H',I'.tok _,⟨_,rfl⟩,k⟩) key
end
def RJ(C:Ct)(n:Nat)(es:List Expr)(ms:Ev->Res (List Str)):Prop :=
 ∃t,PJs C.X n es t/\∀(Oc:Wd) (Ob:Addr->Prop) (σ:St) (H:Hp) (ρ:Ev) (Q:List Str->Hp->Prop),Rel Oc Ob C.om C.ln σ H ρ ->
  (ms ρ).post (fun zs=>∀H',Same H H'->Q zs H') (fun c=>∀H',Same H H'->C.XE c H')->t σ H Q
def jN:Ev->Res (List Str):=fun _=>.ok []
def jC(a:Str)(ms:Ev->Res (List Str)):Ev->Res (List Str):=fun ρ=>(ms ρ).bind fun zs=>.ok (a::zs)
def jS(f:D->Option Str)(m:Ev->Res D)(ms:Ev->Res (List Str)):Ev->Res (List Str):=fun ρ=>(m ρ).bind fun x=>(Res.lft (f x)).bind fun z=>(ms ρ).bind fun zs=>.ok (z::zs)
def fS(x:D):Option Str:=(strD x).bind fun z=>if z.length<=1000000 then some z else none
def fI:D->Option Str
 | .int i=>if i.natAbs.log2<1920/\(toString i:Str).length<=1000000 then some (toString i) else none
 | _=>none
section
variable {C:Ct}{n:Nat}{es:List Expr}{ms:Ev->Res (List Str)}
def zW9(hn:autoParam (n<=16) DG):RJ C n [] jN:=⟨_,xE5 hn,fun Oc Ob σ H ρ Q R h=>h H (Same.refl H)⟩
def uG{a:Str}{j:Nat}{p:Pos}(h:RJ C (n+1) es ms)(ha:autoParam (a.length<=1000) DG)(hn:autoParam (n+1<=16) DG):RJ C n (.Constant (.str a) j p::es) (jC a ms):=by
 obtain⟨t,p,q⟩:=h
 exact⟨_,xT7 ha hn p,fun Oc Ob σ H ρ Q R h=>q Oc Ob σ H ρ _ R (Res.zQ (Res.zX h) (fun zs _ k H' s=>k H' s) fun _ z=>z)⟩
def zA7{e:Expr}{md:Md}{m:Ev->Res D}{p:Pos}(he:RE C md e m)(h:RJ C (n+1) es ms)(hn:autoParam (n+1<=16) DG):RJ C n (.FormattedValue e (-1) none p::es) (jS fS m ms):=by
 obtain⟨te,pe,qe⟩:=he
 obtain⟨t,p,q⟩:=h
 refine⟨_,xB4 pe hn p,fun Oc Ob σ H ρ Q R h=>qe Oc Ob σ H ρ _ R (Res.zQ (Res.zX h) (fun dx _ k x H1 s1 vx => ?_) fun _ z=>z)⟩
 obtain⟨z,ez,k1⟩:=Res.zD (Res.zX k)
 obtain⟨y,e1,e0⟩:=AR.mp ez
 obtain rfl:=vL e1
 split at e0
 ·rename_i hl
  cases e0
  exact⟨z,(vx.va R.oh).str,hl,q Oc Ob σ H1 ρ _ (R.same s1) (Res.zQ (Res.zX k1) (fun zs _ k2 H' s=>k2 H' (s1.trans s)) fun c z H' s=>z H' (s1.trans s))⟩
 ·cases e0
def yY4{e:Expr}{md:Md}{m:Ev->Res D}{p:Pos}(he:RE C md e m)(h:RJ C (n+1) es ms)(hn:autoParam (n+1<=16) DG):RJ C n (.FormattedValue e (-1) none p::es) (jS fI m ms):=by
 obtain⟨te,pe,qe⟩:=he
 obtain⟨t,p,q⟩:=h
 refine⟨_,xD1 pe hn p,fun Oc Ob σ H ρ Q R h=>qe Oc Ob σ H ρ _ R (Res.zQ (Res.zX h) (fun dx _ k x H1 s1 vx => ?_) fun _ z=>z)⟩
 obtain⟨z,ez,k1⟩:=Res.zD (Res.zX k)
 cases dx with
 | int i =>
  have e0:(if i.natAbs.log2<1920/\(toString i:Str).length<=1000000 then some (toString i:Str) else none)=some z:=ez
  split at e0
  ·rename_i hl
   cases e0
   exact⟨i,(vx.va R.oh).int,hl.1,hl.2,q Oc Ob σ H1 ρ _ (R.same s1) (Res.zQ (Res.zX k1) (fun zs _ k2 H' s=>k2 H' (s1.trans s)) fun c z H' s=>z H' (s1.trans s))⟩
  ·cases e0
 | _=>cases ez
def eJ(ms:Ev->Res (List Str)):Ev->Res D:=fun ρ=>(ms ρ).bind fun zs=>.ok (.str (catZ Str.empty zs))
def fZ{v1 v2:Expr}{pos:Pos}(h:RJ C 0 (v1::v2::es) ms):RE C .cl (.JoinedStr (v1::v2::es) pos) (eJ ms):=by
 obtain⟨t,p,q⟩:=h
 exact⟨_,yH9 p,fun Oc Ob σ H ρ Q R h=>q Oc Ob σ H ρ _ R (Res.zQ (Res.zX h) (fun zs _ k H' s=>k _ H' s (Rep.str _)) fun _ z=>z)⟩
end
end L2.L3
namespace L2.L3
open PySem PySem.Spec PyProof.Rows MR
variable [CN]
abbrev Fs:=List (Int×List D)
def Run(F1 F2:List D->Res D)(r p:Int)(t:D):Nat->Option D->Str->Fs->Prop
 | 0,_,_,_=>False
 | m+1,none,s,fs=>(s.length<=sizeLine/\fs.length<=900)/\((Txt.startswith s "-" = true/\∃s1,F2 [.str s,.str "-",.int r]=.ok (.str s1)/\Run F1 F2 r p t m (some .none) s1 fs) \/
   (Txt.startswith s "-" = false/\∃n,F1 [.str (Txt.partition s "(").1,.int r]=.ok (.int n)/\Run F1 F2 r p t m none (Txt.partition s "(").2.2 ((n,[])::fs)))
 | _+1,some d,s,[]=>s=""/\d=t
 | m+1,some d,s,(n,ds)::fs=>ds.length<=900/\(((ds.length:Int)=p-1/\∃s1,F2 [.str s,.str ")",.int r]=.ok (.str s1)/\Run F1 F2 r p t m (some (.tuple [.int n,.tuple (ds ++ [d])])) s1 fs) \/
   (¬(ds.length:Int)=p-1/\∃s1,F2 [.str s,.str " ",.int r]=.ok (.str s1)/\Run F1 F2 r p t m none s1 ((n,ds ++ [d])::fs)))
def yX4{a b:Str}{x:Res D}(h:x=.ok (.str a))(h':x=.ok (.str b)):a=b:=by
 rw[h] at h';cases h';rfl
def fA{F1 F2:List D->Res D}{r p:Int}{t t':D}:∀(m m':Nat) (o:Option D) (s:Str) (fs:Fs),Run F1 F2 r p t m o s fs->Run F1 F2 r p t' m' o s fs->t=t'
 | 0,_,_,_,_,h,_=>h.elim
 | _+1,0,_,_,_,_,h=>h.elim
 | m+1,m'+1,none,s,fs,h,h'=>by
  rcases h.2 with ⟨c,s1,e,k⟩ | ⟨c,n,e,k⟩ <;> rcases h'.2 with ⟨c',s1',e',k'⟩ | ⟨c',n',e',k'⟩
  ·cases yX4 e e'
   exact fA m m' _ _ _ k k'
  ·rw[c] at c';cases c'
  ·rw[c] at c';cases c'
  ·rw[e] at e'
   cases e'
   exact fA m m' _ _ _ k k'
 | m+1,m'+1,some d,s,[],h,h'=>h.2.symm.trans h'.2
 | m+1,m'+1,some d,s,(n,ds)::fs,h,h'=>by
  rcases h.2 with ⟨c,s1,e,k⟩ | ⟨c,s1,e,k⟩ <;> rcases h'.2 with ⟨c',s1',e',k'⟩ | ⟨c',s1',e',k'⟩
  ·cases yX4 e e'
   exact fA m m' _ _ _ k k'
  ·exact absurd c c'
  ·exact absurd c' c
  ·cases yX4 e e'
   exact fA m m' _ _ _ k k'
open Classical in
def rtF(F1 F2:List D->Res D):List D->Res D
 | [.str z,.int p,.int r]=>if h:∃t m,Run F1 F2 r p t m none z [] then .ok h.choose else .no
 | _=>.no
def xH4{F1 F2:List D->Res D}{r p:Int}{t:D}{m:Nat}{z:Str}(h:Run F1 F2 r p t m none z []):rtF F1 F2 [.str z,.int p,.int r]=.ok t:=by
 have hx:∃t m,Run F1 F2 r p t m none z []:=⟨t,m,h⟩
 unfold rtF
 simp only
 rw[dif_pos hx]
 obtain⟨m',h'⟩:=hx.choose_spec
 rw[fA m' m _ _ _ h' h]
def yC3{F1 F2:List D->Res D}{ds:List D}{Q:D->Prop}{R:Str->Prop}(h:(rtF F1 F2 ds).post Q R):∃z p r t m,ds=[.str z,.int p,.int r]/\Run F1 F2 r p t m none z []/\Q t:=by
 unfold rtF at h
 split at h
 ·split at h
  ·rename_i hx
   obtain⟨m,hm⟩:=hx.choose_spec
   exact⟨_,_,_,_,m,rfl,hm,h⟩
  ·exact h.elim
 ·exact h.elim
mutual
inductive TV(H0 H:Hp):V->D->Prop
 | non:TV H0 H .non .none
 | int (i:Int):TV H0 H (.int i) (.int i)
 | tup {q:Addr}{xs:List V}{ds:List D}:H q=some (.tup xs)->H0 q=none->TVs H0 H xs ds->TV H0 H (.ref q) (.tuple ds)
inductive TVs(H0 H:Hp):List V->List D->Prop
 | nil:TVs H0 H [] []
 | cons {v:V}{d:D}{vs:List V}{ds:List D}:TV H0 H v d->TVs H0 H vs ds->TVs H0 H (v::vs) (d::ds)
end
def TK(H H':Hp):Prop:=∀q xs,H q=some (.tup xs)->H' q=some (.tup xs)
section
variable {H0 H H':Hp}
mutual
def TV.keep(k:TK H H'):∀{v:V}{d:D},TV H0 H v d->TV H0 H' v d
 | _,_,.non=>.non
 | _,_,.int i=>.int i
 | _,_,.tup e n t=>.tup (k _ _ e) n (TVs.keep k t)
def TVs.keep(k:TK H H'):∀{vs:List V}{ds:List D},TVs H0 H vs ds->TVs H0 H' vs ds
 | _,_,.nil=>.nil
 | _,_,.cons h t=>.cons (TV.keep k h) (TVs.keep k t)
end
mutual
def TV.rep{O:Addr->Prop}(oh:∀a,O a->H0 a≠none):∀{v:V}{d:D},TV H0 H v d->Rep H O v d
 | _,_,.non=>.non
 | _,_,.int i=>.int i
 | _,_,.tup e n t=>.tup (.inl e) (fun z=>oh _ z n) (TVs.rep oh t)
def TVs.rep{O:Addr->Prop}(oh:∀a,O a->H0 a≠none):∀{vs:List V}{ds:List D},TVs H0 H vs ds->Reps H O vs ds
 | _,_,.nil=>.nil
 | _,_,.cons h t=>.cons (TV.rep oh h) (TVs.rep oh t)
end
def TVs.len:∀{vs:List V}{ds:List D},TVs H0 H vs ds->vs.length=ds.length
 | _,_,.nil=>rfl
 | _,_,.cons _ t=>Bw (·+1) (TVs.len t)
def TVs.app{v:V}{d:D}(h:TV H0 H v d):∀{vs:List V}{ds:List D},TVs H0 H vs ds->TVs H0 H (vs ++ [v]) (ds ++ [d])
 | _,_,.nil=>.cons h .nil
 | _,_,.cons g t=>.cons g (TVs.app h t)
def dX(s:Same H H'):TK H H':=fun q xs e=>s q _ e
def zB3{a:Addr}{xs:List V}{o:HO}(h:H a=some (.lst xs)):TK H (upd H a o):=fun q ys e=>by
 rw[zY (fun z=>by rw[z,h] at e;cases e)]
 exact e
def TK.trans{H'':Hp}(k:TK H H')(l:TK H' H''):TK H H'':=fun q xs e=>l q xs (k q xs e)
def zY8{a:Addr}{o:HO}(s:Same H0 H)(n:H0 a=none):Same H0 (upd H a o):=fun q u e=>by
 rw[zY (fun z=>by rw[z,n] at e;cases e)]
 exact s q u e
def aU{a:Addr}(s:Same H H')(n:H' a=none):H a=none:=by
 cases e:H a with
 | none=>rfl
 | some o=>rw[s a o e] at n;cases n
end
inductive FR(H0:Hp)(b:Addr)(H:Hp):Fs->List V->List Addr->Prop
 | nil:FR H0 b H [] [] []
 | cons {n:Int}{ds:List D}{fs:Fs}{vs:List V}{las:List Addr}{q la:Addr}{ws:List V}:FR H0 b H fs vs las->H q=some (.tup [.int n,.ref la])->H la=some (.lst ws)->H0 la=none->la≠b->la∉las->TVs H0 H ws ds->FR H0 b H ((n,ds)::fs) (vs ++ [.ref q]) (la::las)
section
variable {H0 H H':Hp}{b:Addr}
def FR.keep(k:TK H H'):∀{fs:Fs}{vs:List V}{las:List Addr},(∀la∈las,∀ws,H la=some (.lst ws)->H' la=some (.lst ws))->FR H0 b H fs vs las->FR H0 b H' fs vs las
 | _,_,_,_,.nil=>.nil
 | _,_,_,l,.cons t hq hl n nb nl tv=>.cons (t.keep k fun la h=>l la (Ad _ h)) (k _ _ hq) (l _ Ae _ hl) n nb nl (tv.keep k)
def FR.len:∀{fs:Fs}{vs:List V}{las:List Addr},FR H0 b H fs vs las->vs.length=fs.length
 | _,_,_,.nil=>rfl
 | _,_,_,.cons t _ _ _ _ _ _=>by rw[Ao,t.len];rfl
def FR.mem:∀{fs:Fs}{vs:List V}{las:List Addr},FR H0 b H fs vs las->∀la∈las,la≠b/\∃ws,H la=some (.lst ws)
 | _,_,_,.nil,_,h=>nomatch h
 | _,_,_,.cons t _ hl _ nb _ _,la,h=>by
  rcases An.mp h with rfl | h
  ·exact⟨nb,_,hl⟩
  ·exact t.mem la h
end
def Stt(H0 H:Hp)(b:Addr)(fs:Fs):Prop:=∃vs las,Same H0 H/\H0 b=none/\H b=some (.lst vs)/\FR H0 b H fs vs las
def Stt.same{H0 H H':Hp}{b:Addr}{fs:Fs}(S:Stt H0 H b fs)(s:Same H H'):Stt H0 H' b fs:=by
 obtain⟨vs,las,sm,fb,hb,fr⟩:=S
 exact⟨vs,las,sm.trans s,fb,s _ _ hb,fr.keep (dX s) fun la _ ws e=>s _ _ e⟩
section
variable (K:KFr) (F1 F2:List D->Res D)
def tBs(sg:Str):TS:=tAsg (tCall (spX false F2) [] E0 (zO (tVar 4) (zO (tC (.str sg)) (zO (tVar 2) tNil)))) (gName 4)
def tDn:TS:=tWhile (tNot (tB (tBM K "str" rStw (tVar 4) (zO (tC (.str "-")) tNil)))) (tSeq (tAsg (tBM K "str" rPart (tVar 4) (zO (tC (.str "(")) tNil)) (gName 5))
 (tSeq (tDrop (tBM K "list" rAppend (tVar 3) (zO (tTup (zO (tCall (spX false F1) [] E0 (zO (tOp (rIxT K) (tVar 5) (tC (.int 0))) (zO (tVar 2) tNil))) (zO (tLst tNil) tNil))) tNil))) (tAsg (tOp (rIxT K) (tVar 5) (tC (.int 2))) (gName 4))))
def tTop:TE:=tOp (rIxT K) (tOp (rIxL K) (tVar 3) (tUn (rU fun i=>.int (-i)) (tC (.int 1)))) (tC (.int 1))
def tUpW:TS:=tWhile (tAnd (tTest (tOp (rI0 fun i j=>.bl (decide (j<i))) (tCB (rLnS K) (zO (tVar 3) tNil)) (tC (.int 0)))) (tTest (tOp (rEqD K false) (tCB (rLnS K) (zO (tTop K) tNil)) (tOp rSub (tVar 1) (tC (.int 1))))))
 (tSeq (tBs F2 ")") (tSeq (tAsg (tBM0 K "list" rPop (tVar 3)) (gName 7)) (tAsg (tTup (zO (tOp (rIxT K) (tVar 7) (tC (.int 0))) (zO (tCB (rTup K) (zO (tOp rCatR (tOp (rIxT K) (tVar 7) (tC (.int 1))) (tLst (zO (tVar 6) tNil))) tNil)) tNil))) (gName 6))))
def tEn:TS:=tSeq (tIfS (tTest (tOp (rEqD K false) (tCB (rLnS K) (zO (tVar 3) tNil)) (tC (.int 0)))) (tSeq (tIfS (tTest (tOp (rEqD K true) (tVar 4) (tC (.str "")))) tNever tNext) (tRet (tVar 6))) tNext)
 (tSeq (tBs F2 " ") (tDrop (tBM K "list" rAppend (tTop K) (zO (tVar 6) tNil))))
def tRt:TS:=tSeq (tAsg (tLst tNil) (gName 3)) (tSeq (tAsg (tVar 0) (gName 4)) (tWhile (tB (tC (.bl true))) (tSeq (tDn K F1) (tSeq (tBs F2 "-") (tSeq (tAsg (tC .non) (gName 6)) (tSeq (tUpW K F2) (tEn K F2)))))))
end
def callX{F:List D->Res D}{vs:List V}{ds:List D}{d:D}{H:Hp}{Q:VK}{E:XK}(e:F ds=.ok d)(r:Reps H (fun _=>False) vs ds)(k:∀v H',Same H H'->Rep H' (fun _=>False) v d->Q v H'):spX false F vs H Q E :=
 ⟨ds,fun _=>False,fun _ z=>z.elim,r,by rw[e];exact fun v H' s c=>k v H' s c⟩
section
variable {K:KFr}{F1 F2:List D->Res D}{r p:Int}{t:D}{H0:Hp}{b:Addr}{z:V}
def zP5{sg s s1:Str}{v0 v1 v3 v5 v6 v7:Option V}{H:Hp}{E:Ends}(e:F2 [.str s,.str sg,.int r]=.ok (.str s1))(k:∀H',Same H H'->E.nx [v0,v1,some (.int r),v3,some (.str s1),v5,v6,v7] H') :
  tBs F2 sg E [v0,v1,some (.int r),v3,some (.str s),v5,v6,v7] H:=by
 refine⟨_,rfl,_,rfl,?_⟩
 refine callX (ds:=[.str s,.str sg,.int r]) e (.cons (.str _) (.cons (.str _) (.cons (.int _) .nil))) fun v H' sm rv => ?_
 cases rv
 exact k H' sm
def xJ7{m:Nat}{s:Str}{fs:Fs}{v5 v6 v7:Option V}{H:Hp}{E:Ends}(S:Stt H0 H b fs)(R:Run F1 F2 r p t m none s fs)
  (kk:∀m' s fs v5 H,m'<=m->Run F1 F2 r p t m' none s fs->Txt.startswith s "-" = true->Stt H0 H b fs->E.nx [some z,some (.int p),some (.int r),some (.ref b),some (.str s),v5,v6,v7] H) :
  tDn K F1 E [some z,some (.int p),some (.int r),some (.ref b),some (.str s),v5,v6,v7] H:=by
 refine⟨fun m' σ H=>m'<=m/\∃s fs v5,σ=[some z,some (.int p),some (.int r),some (.ref b),some (.str s),v5,v6,v7]/\Stt H0 H b fs/\Run F1 F2 r p t m' none s fs,⟨m,Ak _,s,fs,v5,rfl,S,R⟩,?_⟩
 clear S R
 rintro m' σ H ⟨hm,s,fs,v5,rfl,S,R⟩
 cases m' with
 | zero=>exact R.elim
 | succ m' =>
  obtain⟨⟨hs,hf⟩,R⟩:=R
  refine⟨_,rfl,rfl,s,"-",rfl,rfl,_,rfl,?_⟩
  rcases R with ⟨h,R⟩ | ⟨h,n,e1,R⟩
  ·rw[h]
   simp only[DC,AV,if_false]
   exact kk (m'+1) s fs v5 H hm ⟨⟨hs,hf⟩,.inl ⟨h,R⟩⟩ h S
  ·rw[h]
   simp only[Dz,if_true]
   refine⟨fun σ' H'=>∃v5,σ'=[some z,some (.int p),some (.int r),some (.ref b),some (.str (Txt.partition s "(").2.2),v5,v6,v7]/\Stt H0 H' b ((n,[])::fs),fun σ' H' ⟨v5,e,S'⟩=>⟨m',by rfl',by rfl',_,_,v5,e,S',R⟩,?_⟩
   obtain⟨vs,las,sm,fb,hb,fr⟩:=S
   refine⟨_,rfl,rfl,s,"(",rfl,rfl,by decide,hs,fun q hq => ?_⟩
   have s1:=Same.new (H:=H) (o:=.tup (ptV s "(")) hq
   refine⟨_,rfl,.inl ⟨rfl,_,SqL.of (s1 _ _ hb)⟩,?_⟩
   refine⟨_,rfl,q,_,0,_,rfl,rfl,.inl (.inl zS),rfl,_,rfl,?_⟩
   refine callX (ds:=[.str (Txt.partition s "(").1,.int r]) e1 (.cons (.str _) (.cons (.int _) .nil)) fun v H2 s2 rv => ?_
   cases rv
   refine⟨AQ _,fun la hla=>⟨by show 2<=sizeLine;decide,fun q2 hq2 => ?_⟩⟩
   have s3:=Same.new (o:=.lst []) hla
   have s4:=Same.new (o:=.tup [.int n,.ref la]) hq2
   have s12:=s1.trans s2
   have s14:=(s12.trans s3).trans s4
   have hb4:=s14 _ _ hb
   refine⟨b,vs,_,rfl,rfl,hb4,by rw[fr.len];exact small1000 (by rfl'),?_⟩
   have qb:q≠b:=fun y=>by rw[y,hb] at hq;cases hq
   have hq5:(upd (upd (upd H2 la (.lst [])) q2 (.tup [.int n,.ref la])) b (.lst (vs ++ [.ref q2]))) q=some (.tup (ptV s "(")):=by
    rw[zY qb]
    exact ((s2.trans s3).trans s4) _ _ zS
   refine⟨_,rfl,q,_,2,_,rfl,rfl,.inl (.inl hq5),rfl,_,rfl,vs ++ [.ref q2],la::las,zY8 (sm.trans s14) fb,fb,zS,?_⟩
   have lab:la≠b:=fun y=>by rw[y,s12 _ _ hb] at hla;cases hla
   have q2b:q2≠b:=fun y=>by rw[y,(s12.trans s3) _ _ hb] at hq2;cases hq2
   refine .cons (fr.keep ((dX s14).trans (zB3 hb4)) fun l hl ws e => ?_) ?_ (ws:=[]) ?_ (aU (sm.trans s12) hla) lab (fun y => ?_) .nil
   ·rw[zY (fr.mem l hl).1]
    exact s14 _ _ e
   ·rw[zY q2b]
    exact zS
   ·rw[zY lab]
    exact s4 _ _ zS
   ·obtain⟨_,ws,e⟩:=fr.mem la y
    rw[s12 _ _ e] at hla
    cases hla
def xP7{m:Nat}{s:Str}{fs:Fs}{d:D}{v:V}{v5 v7:Option V}{H:Hp}{E:Ends}(S:Stt H0 H b fs)(T:TV H0 H v d)(R:Run F1 F2 r p t m (some d) s fs)
  (kk:∀m' s fs d v v7 H,m'<=m->Run F1 F2 r p t m' (some d) s fs->(∀n ds fs',fs=(n,ds)::fs'->¬(ds.length:Int)=p-1)->TV H0 H v d->Stt H0 H b fs->E.nx [some z,some (.int p),some (.int r),some (.ref b),some (.str s),v5,some v,v7] H) :
  tUpW K F2 E [some z,some (.int p),some (.int r),some (.ref b),some (.str s),v5,some v,v7] H:=by
 refine⟨fun m' σ H=>m'<=m/\∃s fs d v v7,σ=[some z,some (.int p),some (.int r),some (.ref b),some (.str s),v5,some v,v7]/\Stt H0 H b fs/\TV H0 H v d/\Run F1 F2 r p t m' (some d) s fs,⟨m,Ak _,s,fs,d,v,v7,rfl,S,T,R⟩,?_⟩
 clear S T R
 rintro m' σ H ⟨hm,s,fs,d,v,v7,rfl,S,T,R⟩
 cases m' with
 | zero=>exact R.elim
 | succ m' =>
  obtain⟨vs,las,sm,fb,hb,fr⟩:=id S
  refine⟨_,rfl,b,vs,rfl,.inl (SqL.of hb),_,0,rfl,rfl,_,rfl,?_⟩
  cases fr with
  | nil =>
   rw[AA (show ¬(0:Int)<(([]:List V).length:Int) from fun y=>by cases y)]
   simp only[AV,if_false]
   exact kk (m'+1) s [] d v v7 H hm R (fun _ _ _ y=>nomatch y) T S
  | @cons n ds fs vs las q la ws fr hq hl n0 nb nl tv =>
   rw[AB (show (0:Int)<((vs ++ [V.ref q]).length:Int) by rw[Ao,Bc];rfl')]
   simp only[if_true]
   refine⟨_,rfl,1,rfl,b,_,-1,.ref q,rfl,rfl,SqL.of hb,zW4 _ _,q,_,1,.ref la,rfl,rfl,.inl (.inl hq),rfl,la,ws,rfl,.inl (SqL.of hl),_,rfl,_,1,rfl,rfl,.int _,.int _,.int _,.int _,rfl,rfl,_,evI _ _,?_⟩
   obtain⟨few,R⟩:=R
   rw[tv.len]
   rcases R with ⟨c,s1,e,R⟩ | ⟨c,s1,e,R⟩
   ·rw[AB c]
    simp only[if_true]
    refine⟨fun σ' H'=>∃v v7,σ'=[some z,some (.int p),some (.int r),some (.ref b),some (.str s1),v5,some v,v7]/\Stt H0 H' b fs/\TV H0 H' v (.tuple [.int n,.tuple (ds ++ [d])]),fun σ' H' ⟨v,v7,e,S',T'⟩=>⟨m',by rfl',by rfl',s1,fs,_,v,v7,e,S',T',R⟩,?_⟩
    refine zP5 e fun H1 s1' => ?_
    have hb1:=s1' _ _ hb
    refine⟨_,rfl,.inl ⟨rfl,_,SqL.of hb1⟩,b,_,.ref q,rfl,rfl,hb1,by rw[Ao,Bo (by simp)];simp,?_⟩
    rw[List.dropLast_concat]
    have lab:la≠b:=nb
    have qb:q≠b:=fun y=>by rw[y,hb] at hq;cases hq
    have hq2:(upd H1 b (.lst vs)) q=some (.tup [.int n,.ref la]):=by rw[zY qb];exact s1' _ _ hq
    have hl2:(upd H1 b (.lst vs)) la=some (.lst ws):=by rw[zY lab];exact s1' _ _ hl
    have hb2:(upd H1 b (.lst vs)) b=some (.lst vs):=zS
    have sm2:Same H0 (upd H1 b (.lst vs)):=zY8 (sm.trans s1') fb
    have tk2:TK H (upd H1 b (.lst vs)):=(dX s1').trans (zB3 hb1)
    have ls2:∀l∈las,∀us,H l=some (.lst us)->(upd H1 b (.lst vs)) l=some (.lst us):=fun l hl us e=>by
     rw[zY (fr.mem l hl).1]
     exact s1' _ _ e
    generalize upd H1 b (.lst vs)=H2 at hq2 hl2 hb2 sm2 tk2 ls2 ⊢
    refine⟨_,rfl,q,_,0,_,rfl,rfl,.inl (.inl hq2),rfl,_,rfl,q,_,1,_,rfl,rfl,.inl (.inl hq2),rfl,_,rfl,by show 1<=sizeLine;decide,fun l1 h1 => ?_⟩
    have s3:=Same.new (o:=.lst [v]) h1
    refine⟨la,l1,ws,[v],rfl,rfl,.inl (s3 _ _ hl2),.inl zS,by rw[tv.len];exact BC (small1000 (by show ds.length+1<=1000;rfl')),fun l2 h2 => ?_⟩
    have s4:=Same.new (o:=.lst (ws ++ [v])) h2
    refine⟨l2,_,rfl,.inl ⟨SqL.of zS,fun t3 h3=>⟨by show 2<=sizeLine;decide,fun t4 h4 => ?_⟩⟩⟩
    have s5:=Same.new (o:=.tup (ws ++ [v])) h3
    have s6:=Same.new (o:=.tup [.int n,.ref t3]) h4
    have s34:=s3.trans s4
    have s35:=s34.trans s5
    have s36:=s35.trans s6
    have tk6:=tk2.trans (dX s36)
    refine⟨.ref t4,_,rfl,⟨vs,las,sm2.trans s36,fb,s36 _ _ hb2,fr.keep tk6 fun l hl us e=>s36 _ _ (ls2 l hl us e)⟩,?_⟩
    exact .tup zS (aU (sm2.trans s35) h4) (.cons (.int n) (.cons (.tup (s6 _ _ zS) (aU (sm2.trans s34) h3) ((tv.keep tk6).app (T.keep tk6))) .nil))
   ·rw[AA c]
    simp only[AV,if_false]
    exact kk (m'+1) s ((n,ds)::fs) d v v7 H hm (show _/\_ from ⟨few,.inr ⟨c,s1,e,R⟩⟩) (fun n' ds' fs' y=>by cases y;exact c) T S
def xN9{m:Nat}{s:Str}{fs:Fs}{d:D}{v:V}{v5 v7:Option V}{H:Hp}{E:Ends}(S:Stt H0 H b fs)(T:TV H0 H v d)(R:Run F1 F2 r p t m (some d) s fs)(C:∀n ds fs',fs=(n,ds)::fs'->¬(ds.length:Int)=p-1)
  (kr:∀v H,Same H0 H->TV H0 H v t->E.rt v H) (kn:∀m' s fs H,m'<m->Run F1 F2 r p t m' none s fs->Stt H0 H b fs->E.nx [some z,some (.int p),some (.int r),some (.ref b),some (.str s),v5,some v,v7] H) :
  tEn K F2 E [some z,some (.int p),some (.int r),some (.ref b),some (.str s),v5,some v,v7] H:=by
 cases m with
 | zero=>exact R.elim
 | succ m =>
  obtain⟨vs,las,sm,fb,hb,fr⟩:=id S
  refine⟨_,rfl,b,vs,rfl,.inl (SqL.of hb),.int _,.int 0,.int _,.int _,rfl,rfl,_,evI _ _,?_⟩
  cases fr with
  | nil =>
   obtain⟨rfl,rfl⟩:=R
   rw[AB (show (([]:List V).length:Int)=0 from rfl)]
   simp only[if_true]
   refine⟨_,rfl,.str "",.str "",.str _,.str _,by decide +kernel,by decide +kernel,false,rfl,?_⟩
   simp only[AV,if_false]
   exact⟨_,rfl,kr v H sm T⟩
  | @cons n ds fs vs las q la ws fr hq hl n0 nb nl tv =>
   rw[AA (show ¬((vs ++ [V.ref q]).length:Int)=0 by rw[Ao,Bc];rfl')]
   simp only[AV,if_false]
   obtain⟨few,R⟩:=R
   rcases R with ⟨c,s1,e,R⟩ | ⟨c,s1,e,R⟩
   ·exact absurd c (C n ds fs rfl)
   ·refine zP5 e fun H1 s1' => ?_
    have hb1:=s1' _ _ hb
    have hq1:=s1' _ _ hq
    have hl1:=s1' _ _ hl
    refine⟨_,rfl,1,rfl,b,_,-1,.ref q,rfl,rfl,SqL.of hb1,zW4 _ _,q,_,1,.ref la,rfl,rfl,.inl (.inl hq1),rfl,.inl ⟨rfl,_,SqL.of hl1⟩,_,rfl,la,ws,v,rfl,rfl,hl1,by rw[tv.len];exact small1000 (by rfl'),?_⟩
    have tk:TK H (upd H1 la (.lst (ws ++ [v]))):=(dX s1').trans (zB3 hl1)
    refine kn m s1 _ _ (BR _) R ⟨vs ++ [.ref q],la::las,zY8 (sm.trans s1') n0,fb,by rw[zY (Cj nb)];exact hb1,.cons (fr.keep tk fun l hl' us e => ?_) (tk _ _ hq) zS n0 nb nl ((tv.keep tk).app (T.keep tk))⟩
    rw[zY (fun y=>by subst y;exact nl hl')]
    exact s1' _ _ e
def xK1{m:Nat}{s:Str}{H:Hp}{E:Ends}(R:Run F1 F2 r p t m none s [])(kr:∀v H',Same H H'->TV H H' v t->E.rt v H') :
  tRt K F1 F2 E [some (.str s),some (.int p),some (.int r),none,none,none,none,none] H:=by
 refine⟨AQ _,fun b hb=>⟨_,rfl,?_⟩⟩
 refine⟨fun m σ H'=>∃s' fs v5 v6 v7,σ=[some (.str s),some (.int p),some (.int r),some (.ref b),some (.str s'),v5,v6,v7]/\Stt H H' b fs/\Run F1 F2 r p t m none s' fs,⟨m,s,[],none,none,none,rfl,⟨[],[],Same.new hb,hb,zS,.nil⟩,R⟩,?_⟩
 clear R
 rintro m σ H' ⟨s',fs,v5,v6,v7,rfl,S,R⟩
 refine⟨true,rfl,?_⟩
 simp only[if_true]
 refine⟨fun σ' H''=>∃m',m'<m/\∃s' fs v5 v6 v7,σ'=[some (.str s),some (.int p),some (.int r),some (.ref b),some (.str s'),v5,v6,v7]/\Stt H H'' b fs/\Run F1 F2 r p t m' none s' fs,fun σ' H'' h=>h,?_⟩
 refine xJ7 S R fun m1 s1 fs1 v5 H1 hm1 R1 c S1 => ?_
 cases m1 with
 | zero=>exact R1.elim
 | succ m1 =>
  rcases R1.2 with ⟨_,s2,e,R2⟩ | ⟨c',_⟩
  ·refine zP5 e fun H2 sm2 => ?_
   show tSeq (tUpW K F2) (tEn K F2) _ [some (.str s),some (.int p),some (.int r),some (.ref b),some (.str s2),v5,some .non,v7] H2
   refine xP7 (S1.same sm2) .non R2 fun m3 s3 fs3 d v v7 H3 hm3 R3 C T S3 => ?_
   refine xN9 S3 T R3 C (fun v H'' sm tv=>kr v H'' sm tv) fun m4 s4 fs4 H4 hm4 R4 S4=>⟨m4,by rfl',s4,fs4,_,_,_,rfl,S4,R4⟩
  ·rw[c] at c'
   cases c'
end
def passF{X:Cx}:Passes (CXV X.prog X.w) X E0:=fun DI σ H s e s' I h=>by
 obtain⟨_,_,_,_,_,_,_,_,_,_,_,_,_,z⟩:=h
 exact z.elim
section
variable {P:Program}{w:World}{K:KFr}{mg:Str->Option Value}{base:Heap}
def wX3{x:Str}{st:Stmt}{f:Addr}{fd:FuncData}{N ps:List Str}{k:Nat}(F1 F2:List D->Res D)(F:Fun K x x st f fd)(S:zI N ps (zU st))(hp:ps.length=3)(hN:N.length=8)
  (hbody:∀(cdv:Value) (A:Around) (outer:List Env) (s:Shared) (H:Hp) (E:XK),Room k (A.deeper (envOfC x (zU st) s.heap.objs.size f cdv))->PSs (bodyX P w K mg base N x (zU st) f cdv A outer s H E []).X (defBody st) (tRt K F1 F2)) :
  FnOk P w K mg base (CXV P w) (k+1) f fd ps (spX false (rtF F1 F2)):=by
 have len:∀(vs:List V) (H:Hp) (Q:VK) (E:XK),spX false (rtF F1 F2) vs H Q E->vs.length=ps.length:=fun vs H Q E h=>by
  obtain⟨ds,O,oh,r,k⟩:=h
  obtain⟨z,p,r',t,m,rfl,_⟩:=yC3 k
  rw[r.length,hp]
  rfl
 obtain⟨oc,od,kV,doc,pm,an,cdv,ct,osl,rfl,lk,hcd⟩:=F.ex
 refine zR2 lk hcd S len fun A outer s H vs Q E hr h => ?_
 obtain⟨ds,O,oh,r,k⟩:=h
 obtain⟨z,p,r',t,m,rfl,R,k⟩:=yC3 k
 refine⟨_,hbody cdv A outer s H E hr,?_⟩
 cases r with
 | cons r1 r =>
  cases r with
  | cons r2 r =>
   cases r with
   | cons r3 r =>
    cases r
    cases r1
    cases r2
    cases r3
    have st:start N [V.str z,.int p,.int r']=[some (.str z),some (.int p),some (.int r'),none,none,none,none,none]:=by
     unfold start
     rw[hN]
     rfl
    rw[st]
    exact xK1 R fun v H' s c=>k v H' s (c.rep oh)
end
def mnB(B x:Int):Int:=if B<x then B else x
def gsD(A B p:Int):D :=
 if 1+p%A=A then .tuple [.int (1+p%A),tI ((digD (1+p%A+1) (p / A) (1+p%A).toNat).map (mnB B))]
 else .tuple [.int (1+p%A),tI (digD (1+p%A+1) (p / A) (1+p%A).toNat)]
def gsF(A B:Int)(Fc:List D->Res D):List D->Res D
 | [d]=>match Fc [d,.int 0] with
  | .ok (.int p)=>.ok (gsD A B p)
  | _=>.no
 | _=>.no
def wZ5{A B:Int}{Fc:List D->Res D}{d:D}{p:Int}(h:Fc [d,.int 0]=.ok (.int p)):gsF A B Fc [d]=.ok (gsD A B p):=by
 unfold gsF
 simp only[h]
def xC1{A B:Int}{Fc:List D->Res D}{ds:List D}{c:Str}:gsF A B Fc ds ≠ .ex c:=by
 unfold gsF
 split
 ·split <;> exact fun z=>nomatch z
 ·exact fun z=>nomatch z
def yB5{A B:Int}{Fc:List D->Res D}{ds:List D}{Q:D->Prop}{R:Str->Prop}(h:(gsF A B Fc ds).post Q R):∃d p,ds=[d]/\Fc [d,.int 0]=.ok (.int p)/\Q (gsD A B p):=by
 unfold gsF at h
 split at h
 ·split at h
  ·rename_i d _ p e
   exact⟨d,p,rfl,e,h⟩
  ·exact h.elim
 ·exact h.elim
def rMn:List V->Hp->VK->Prop:=fun xs H Q=>∃i j,xs=[.int i,.int j]/\Q (.int (if j<i then j else i)) H
def tGsM(K:KFr)(B:Int):TE:=tCB (rTup K) (zO (tComp (iTup K (tVar 3)) (fun _ _ _ _=>tTrue) (fun _ _ _ _=>tCB rMn (zO (tVar 0) (zO (tC (.int B)) tNil))) []) tNil)
def tGsT(K:KFr)(A B:Int):TS :=
 tSeq (tAsg (tCall spOpn [] E0 (zO (tVar 1) (zO (tVar 2) tNil))) (gName 3))
 (tSeq (tIfS (tTest (tOp (rEqD K false) (tVar 2) (tC (.int A)))) (tAsg (tGsM K B) (gName 3)) tNext)
 (tRet (tTup (zO (tVar 2) (zO (tVar 3) tNil)))))
def tGs(K:KFr)(A B:Int)(Fc:List D->Res D):TS :=
 tSeq (tAsg (tLst (zO (tCall (spF false Fc) [] E0 (zO (tVar 0) (zO (tC (.int 0)) tNil))) tNil)) (gName 1))
 (tSeq (tAsg (tOp rAdd (tC (.int 1)) (tCall spTake [] E0 (zO (tVar 1) (zO (tC (.int A)) tNil)))) (gName 2)) (tGsT K A B))
def xZ4{K:KFr}{B:Int}{b:Addr}{ds:List Int}{x0 x1 x2:Option V}{H:Hp}{Q:VK}(hb:H b=some (.tup (ds.map V.int)))(hl:ds.length<=1000)
  (k:∀l c,H l=none->c≠l->(upd H l (.lst ((ds.map (mnB B)).map V.int))) c=none->Q (.ref c) (upd (upd H l (.lst ((ds.map (mnB B)).map V.int))) c (.tup ((ds.map (mnB B)).map V.int)))):tGsM K B [x0,x1,x2,some (.ref b)] H Q:=by
 refine⟨_,rfl,b,rfl,⟨_,SqT.of hb⟩,fun C fp s₂ H₂ => ?_⟩
 refine xX9 (K:=K) (a:=b) (xs:=ds.map V.int) (tt:=tTrue) (te:=tCB rMn (zO (tVar 0) (zO (tC (.int B)) tNil))) (js:=[]) (σ:=[x0,x1,x2,some (.ref b)]) (Q:=fun x H1=>rTup K [x] H1 Q) (fun i acc H1=>acc=((ds.take i).map (mnB B)).map V.int/\H1=H) ⟨rfl,rfl⟩ (fun _ _ H1 _ h=>by rw[h.2];exact SqT.of hb) ?_ ?_
 ·rintro i x acc H1 hx ⟨rfl,rfl⟩
  rw[Ai] at hx
  obtain⟨d,hd,rfl⟩:=Ar.mp hx
  unfold tTrue
  simp only[if_true]
  refine⟨_,rfl,d,B,rfl,by rw[Aa,Aa,BE];exact small1000 (by rfl'),?_,rfl⟩
  rw[show ds.take (i+1)=ds.take i ++ [d] by rw[CD,hd];rfl,Az,Az]
  rfl
 ·rintro acc H1 ⟨rfl,rfl⟩ l hl'
  rw[Aa,BK]
  refine⟨l,_,rfl,.inl ⟨SqL.of zS,fun c hc => ?_⟩⟩
  exact k l c hl' (fun z=>by rw[z,zS] at hc;cases hc) hc
def xN4{K:KFr}{A B:Int}{Fc:List D->Res D}{O:Addr->Prop}{H0:Hp}{x0:V}{d0:D}{p:Int}{E:Ends}(hA:0<A)(hA2:A<=60)(oh:∀a,O a->H0 a≠none)(r0:Rep H0 O x0 d0)(hc:Fc [d0,.int 0]=.ok (.int p))
  (k:∀v H',Same H0 H'->CallOk false O H0 H' v (gsD A B p)->E.rt v H'):tGs K A B Fc E [some x0,none,none,none] H0:=by
 have e0:=Ch p (Int.ne_of_gt hA)
 have e1:=BS p hA
 obtain⟨n,hn⟩:∃n:Nat,1+p%A=(n:Int):=⟨(1+p%A).toNat,by rfl'⟩
 have n2:n<=1000:=by rfl'
 refine⟨_,rfl,[d0,.int 0],O,oh,.cons r0 (.cons (.int 0) .nil),?_⟩
 rw[hc]
 intro v H1 s1 cv
 cases cv
 refine⟨by show 1<=sizeLine;decide,fun a ha => ?_⟩
 have fa:H0 a=none:=s1.free ha
 suffices h:tGsT K A B E [some x0,some (.ref a),some (.int (n:Int)),none] (upd H1 a (.lst [.int (p / A)])) by
  rw[<-hn] at h
  refine⟨_,rfl,a,p,A,rfl,zS,DivOk.small hA (by rfl'),_,_,rfl,rfl,?_⟩
  rw[yT1]
  exact h
 have po2:Pot a H0 (upd H1 a (.lst [.int (p / A)])):=fun b o e n=>by rw[zY n];exact s1 b o e
 refine⟨_,rfl,_,rfl,a,p / A,n,rfl,zS,n2,fun b H2 fb hb hp po => ?_⟩
 have fb0:H0 b=none:=by
  cases e:H0 b with
  | none=>rfl
  | some o =>
   have ba:b≠a:=fun z=>by rw[z,fa] at e;cases e
   rw[po2 b o e ba] at fb;cases fb
 have po3:=po2.trans po
 have ba:b≠a:=fun z=>by rw[z,hp] at hb;cases hb
 have ev:∀x:Int,V.bl (if false=true then !PyData.eqv (.int x) (.int A) else PyData.eqv (.int x) (.int A))=.bl (decide (x=A)):=fun x=>by rw[AJ (by decide),zZ1]
 refine⟨_,rfl,.int _,.int A,.int _,.int _,rfl,rfl,_,ev _,?_⟩
 by_cases q:(n:Int)=A
 ·have gd:gsD A B p=.tuple [.int (n:Int),tI ((digD ((n:Int)+1) (p / A) n).map (mnB B))]:=by
   unfold gsD
   rw[hn,AI,Aq q]
  rw[gd] at k
  rw[AB q]
  simp only[if_true]
  show tGsM K B [some x0,some (.ref a),some (.int (n:Int)),some (.ref b)] H2 fun v H'=>tRet (tTup (zO (tVar 2) (zO (tVar 3) tNil))) E [some x0,some (.ref a),some (.int (n:Int)),some v] H'
  refine xZ4 hb (by rw[digD,Aa,Aj];exact n2) fun l c fl cl fc => ?_
  have hfc:H2 c=none:=by rw[zY cl] at fc;exact fc
  have fc0:H0 c=none:=by
   cases e:H0 c with
   | none=>rfl
   | some o =>
    have ca:c≠a:=fun z=>by rw[z,fa] at e;cases e
    rw[po3 c o e ca] at hfc;cases hfc
  exact yI3 oh fa fc0 zS ((po3.new fl).new fc) k
 ·have gd:gsD A B p=.tuple [.int (n:Int),tI (digD ((n:Int)+1) (p / A) n)]:=by
   unfold gsD
   rw[hn,AI,AJ q]
  rw[gd] at k
  rw[AA q]
  simp only[AV,if_false]
  exact yI3 oh fa fb0 hb po3 k
section
variable {P:Program}{w:World}{K:KFr}{mg:Str->Option Value}{base:Heap}
def wY2(A B:Int)(Fc:List D->Res D)(hA:0<A/\A<=60){x:Str}{st:Stmt}{f:Addr}{fd:FuncData}{N ps:List Str}{k:Nat}(F:Fun K x x st f fd)(S:zI N ps (zU st))(hp:ps.length=1)(hN:N.length=4)
  (hbody:∀(cdv:Value) (A':Around) (outer:List Env) (s:Shared) (H:Hp) (E:XK),Room k (A'.deeper (envOfC x (zU st) s.heap.objs.size f cdv))->PSs (cxOf CX0 P w K mg base N x (zU st) f cdv A' outer s H E).nox (defBody st) (tGs K A B Fc)) :
  FnOk P w K mg base CX0 (k+1) f fd ps (spF false (gsF A B Fc)):=by
 refine F.ok S (fun vs H Q E ⟨ds,O,oh,r,q⟩ => ?_) fun cdv A' outer s H vs Q E hr h => ?_
 ·obtain⟨d,p,rfl,_⟩:=yB5 q
  rw[r.length,hp]
  rfl
 ·obtain⟨ds,O,oh,r,q⟩:=h
  obtain⟨d,p,rfl,hc,q⟩:=yB5 q
  refine⟨_,hbody cdv A' outer s H E hr,?_⟩
  cases r with
  | @cons v _ _ _ r1 r2 =>
   cases r2
   have st:start N [v]=[some v,none,none,none]:=by
    unfold start
    rw[hN]
    rfl
   rw[st]
   exact xN4 hA.1 hA.2 oh r1 hc q
end
end L2.L3
namespace MR
def nf:Nat->Nat->Nat
 | _,0=>1
 | m,j+1=>m*nf (m-1) j
def pk:Nat->List Nat->Nat->List Nat
 | 0,_,_=>[]
 | j+1,l,r=>l.getD (r / nf (l.length-1) j) 0::pk j (l.eraseIdx (r / nf (l.length-1) j)) (r%nf (l.length-1) j)
def pr':List Nat->List Nat->Nat
 | _,[]=>0
 | l,x::xs=>l.idxOf x*nf (l.length-1) xs.length+pr' (l.erase x) xs
def zX2{l:List Nat}{j:Nat}(h:j<l.length):l.getD j 0∈l:=by simp[List.getD,h]
def smN(A:Nat->Nat)(c:Nat):Nat->Nat
 | 0=>0
 | j+1=>smN A c j+nf (c-1) j*A (c-(j+1))
def gn(k m:Nat):Nat:=(M12.G 1 (k:Int) m).toNat
def wo(l r:List Nat):List Nat:=l.filter fun b=>!r.contains b
inductive Told(k:Nat):List Nat->Nat->List (List Nat)->Prop
 | nil:Told k [] 0 []
 | cons {a:Nat}{t xs:List Nat}{M:Nat}{rs:List (List Nat)}:xs.length<k->xs.Nodup->(∀x∈xs,x∈t)->Told k (wo (a::t) (a::xs)) M rs ->
  Told k (a::t) (smN (gn k) (t.length+1) xs.length+pr' t xs*gn k (t.length-xs.length)+M) ((a::xs)::rs)
inductive Chain:List Nat->List (List Nat)->Prop
 | nil:Chain [] []
 | cons {a:Nat}{t xs:List Nat}{rs:List (List Nat)}:xs.Nodup->(∀x∈xs,x∈t)->Chain (wo (a::t) (a::xs)) rs->Chain (a::t) ((a::xs)::rs)
end MR
namespace MR
open PySem PySem.StrLaws PySem.Builtin PySem.Builtin.Str
def tlS(x:Str):List Nat:=x.cps.toList
def yQ(x:Str):(tlS x).length=x.length:=by unfold tlS Str.length;simp
def yP(a b:Str):tlS (a++b)=tlS a++tlS b:=by unfold tlS;rw[Str.cps_append];simp
def jH{a b:Str}(h:tlS a=tlS b):a=b:=by
 apply Str.ext'
 have:a.cps.toList.toArray=b.cps.toList.toArray:=Bw _ h
 simpa using this
def wX7(l:List Nat):tlS ⟨l.toArray⟩=l:=by unfold tlS;simp
def jI(y p q:Str)(r:List Str):Str.join y (p::q::r)=p++y++Str.join y (q::r):=rfl
def zU1{x y:Str}{k:Nat}(h1:1<=y.length):At x y x.length k↔((tlS x).drop k).take y.length=tlS y:=by
 unfold At
 rw[subAt_eq,beq_iff_eq]
 constructor
 ·exact fun h=>h.2
 ·intro h
  refine⟨?_,h⟩
  have l:=Bw List.length h
  rw[yQ,BE,BQ,yQ] at l
  rfl'
def zT4(x:Str)(a b:Nat):tlS (strSub x a b)=((tlS x).drop a).take (b-a):=strSub_toList x a b
def yM9{x y:Str}{c:Nat}{y':List Nat}(hy:tlS y=c::y'):∀(ps:List Str) (a f:Nat) (cuts:List Nat),ps ≠ []->(∀p∈ps,c∉tlS p)->(tlS x).drop a=tlS (Str.join y ps)->a<=x.length->ChainG x y x.length a cuts f->(∀k,f<=k->¬At x y x.length k)->partsFrom x y.length a cuts=ps:=by
 have y1:1<=y.length:=by rw[<-yQ,hy];simp
 have fst:∀k,At x y x.length k->(tlS x)[k]?=some c:=fun k h=>by
  have e:=(zU1 y1).mp h
  rw[hy] at e
  have:=Bw (fun l=>l[0]?) e
  simp only[List.getElem?_cons_zero] at this
  rw[List.getElem?_take_of_lt (by rfl'),DB] at this
  simpa using this
 intro ps
 induction ps with
 | nil=>intro a f cuts h;exact absurd rfl h
 | cons p ps ih =>
  intro a f cuts _ hc hd ha hG hn
  have pc:=hc p Ae
  cases ps with
  | nil =>
   have hd:(tlS x).drop a=tlS p:=hd
   have no:∀k,a<=k->¬At x y x.length k:=fun k hk h=>by
    have e:=fst k h
    have e2:(tlS p)[k-a]?=some c:=by
     rw[<-hd,DB,show a+(k-a)=k by rfl']
     exact e
    exact pc (As e2)
   cases cuts with
   | cons d r=>exact absurd hG.2.1 (no d hG.1)
   | nil =>
    show [strSub x a x.length]=[p]
    rw[show strSub x a x.length=p from jH (by rw[zT4,hd,BM];rw[<-hd,BQ,yQ];exact Ak _)]
  | cons q r =>
   rw[jI,yP,yP] at hd
   have len:=Bw List.length hd
   rw[BQ,Ao,Ao,yQ,yQ,yQ] at len
   have here:At x y x.length (a+p.length):=by
    refine (zU1 y1).mpr ?_
    rw[<-List.drop_drop,hd,Bd,Cl (by rw[yQ];exact Ak _),<-yQ p,BJ,BW,<-yQ y,Cm (Ak _),BK]
   have early:∀k,a<=k->k<a+p.length->¬At x y x.length k:=fun k hk hl h=>by
    have e:=fst k h
    have e2:(tlS p)[k-a]?=some c:=by
     have e3:((tlS x).drop a)[k-a]?=some c:=by rw[DB,show a+(k-a)=k by rfl'];exact e
     rw[hd,Bd,Bl (by rw[yQ];rfl')] at e3
     exact e3
    exact pc (As e2)
   cases cuts with
   | nil =>
    have ef:f=a:=hG
    exact absurd here (hn _ (by rfl'))
   | cons d r' =>
    obtain⟨g1,g2,g3,g4⟩:=hG
    have ed:d=a+p.length:=by
     by_cases l1:d<a+p.length
     ·exact absurd g2 (early d g1 l1)
     ·by_cases l2:a+p.length<d
      ·exact absurd here (g3 _ (by rfl') l2)
      ·rfl'
    subst ed
    show strSub x a (a+p.length)::partsFrom x y.length (a+p.length+y.length) r'=p::q::r
    have e1:strSub x a (a+p.length)=p:=jH (by
     rw[zT4,hd,show a+p.length-a=p.length by rfl',Bd,<-yQ p,Cm (Ak _),BK])
    rw[e1,ih (a+p.length+y.length) f r' (fun z=>nomatch z) (fun z hz=>hc z (Ad _ hz)) ?_ (by rfl') g4 hn]
    rw[show a+p.length+y.length=a+(p.length+y.length) by rfl',<-List.drop_drop,hd,<-yP,Cl (by rw[yQ,AG];exact Ak _),show p.length+y.length=(tlS (p++y)).length by rw[yQ,AG],BJ,BW]
def xU5(x:Str):1<=Builtin.Str.strKind x:=by
 unfold Builtin.Str.strKind
 split
 ·exact Ak _
 ·split <;> decide
def zU6{y:Str}{c:Nat}{y':List Nat}(hy:tlS y=c::y')(hk:Builtin.Str.strKind y=1){ps:List Str}(h0:ps ≠ [])(hc:∀p∈ps,c∉tlS p):Txt.split (Str.join y ps) y=ps:=by
 have y1:1<=y.length:=by rw[<-yQ,hy];simp
 obtain⟨f,hG,hn⟩:=occ_tight (Str.join y ps) y y1
 have key:=yM9 hy ps 0 f _ h0 hc rfl (AQ _) hG hn
 have whole:occurrences (Str.join y ps) y 0 (Str.join y ps).length ((Str.join y ps).length+1)=[]->[Str.join y ps]=ps:=fun e=>by
  rw[e] at key
  have key:[strSub (Str.join y ps) 0 (Str.join y ps).length]=ps:=key
  rw[sub_whole] at key
  exact key
 unfold Txt.split
 split
 ·rename_i h
  refine whole ?_
  rw[Bool.or_eq_true,decide_eq_true_eq,decide_eq_true_eq] at h
  rcases h with h | h
  ·cases e:occurrences (Str.join y ps) y 0 (Str.join y ps).length ((Str.join y ps).length+1) with
   | nil=>rfl
   | cons d r =>
    rw[e] at hG
    have:=hG.2.1.1
    rfl'
  ·have:=xU5 (Str.join y ps)
   rfl'
 ·split
  ·rename_i h
   exact whole (List.isEmpty_iff.mp h)
  ·rw[partsBetween_eq]
   exact key
def yF2{x y:Str}:Txt.startswith x y=true↔(tlS x).take y.length=tlS y:=by
 show (decide (0+y.length<=x.length)&&subAt x y 0)=true↔_
 rw[Ba,decide_eq_true_eq,subAt_eq,beq_iff_eq]
 constructor
 ·exact fun h=>h.2
 ·intro h
  refine⟨?_,h⟩
  have l:=Bw List.length h
  rw[yQ,BE,yQ] at l
  rfl'
def yG7(a s:Str):Txt.startswith (a++s) a=true:=by
 rw[yF2,yP,<-yQ a,Cm (Ak _),BK]
def xZ3{a s y:Str}{c:Nat}(hy:tlS y=[c])(ha:tlS a ≠ [])(hc:c∉tlS a):Txt.startswith (a++s) y=false:=by
 rw[Bool.eq_false_iff]
 intro h
 rw[yF2,<-yQ y,hy,yP] at h
 cases e:tlS a with
 | nil=>exact ha e
 | cons d r =>
  rw[e] at h hc
  have:d=c:=by simpa using h
  exact hc (this▸Ae)
def yA2{a y s:Str}{c:Nat}(hy:tlS y=[c])(hc:c∉tlS a):(Txt.partition (a++(y++s)) y).1=a/\(Txt.partition (a++(y++s)) y).2.2=s:=by
 have ly:y.length=1:=by rw[<-yQ,hy];rfl
 have la:=yQ a
 have tx:tlS (a++(y++s))=tlS a++c::tlS s:=by rw[yP,yP,hy];rfl
 have lx:(a++(y++s)).length=a.length+(1+s.length):=by rw[AG,AG,ly]
 have here:At (a++(y++s)) y (a++(y++s)).length a.length:=by
  refine (zU1 (by rfl')).mpr ?_
  rw[tx,<-la,List.drop_left,ly,hy]
  rfl
 have early:∀k,k<a.length->¬At (a++(y++s)) y (a++(y++s)).length k:=fun k hk h=>by
  have e:=(zU1 (by rfl')).mp h
  rw[tx,ly,hy,Cl (by rfl')] at e
  have:(tlS a).drop k ≠ []:=fun z=>by have:=Bw List.length z;rw[BQ] at this;simp at this;rfl'
  cases e2:(tlS a).drop k with
  | nil=>exact this e2
  | cons d r =>
   rw[e2] at e
   have e3:d=c:=by simpa using e
   exact hc (e3▸List.mem_of_mem_drop (e2▸Ae:d∈(tlS a).drop k))
 unfold Txt.partition
 rcases occ_head (a++(y++s)) y 1 (Ak 1) with ⟨_,hn⟩ | ⟨i,r,h0,hi,hn⟩
 ·exact absurd here (hn _)
 ·have ei:i=a.length:=by
   by_cases l1:i<a.length
   ·exact absurd hi (early i l1)
   ·by_cases l2:a.length<i
    ·exact absurd here (hn _ l2)
    ·rfl'
  subst ei
  rw[h0]
  refine⟨jH ?_,jH ?_⟩
  ·show tlS (strSub (a++(y++s)) 0 a.length)=tlS a
   rw[zT4,tx,CW,Nat.sub_zero,<-la,List.take_left]
  ·show tlS (strSub (a++(y++s)) (a.length+y.length) (a++(y++s)).length)=tlS s
   rw[zT4,tx,ly,lx,show tlS a++c::tlS s=(tlS a ++ [c])++tlS s by simp,show a.length+1=(tlS a ++ [c]).length by simp[la],List.drop_left,BM (by rw[yQ,Ao,la];simp;rfl')]
def yO8(a s:Str):Txt.slice (a++s) (some (a.length:Int)) none=s:=by
 have e:Txt.slice (a++s) (some (a.length:Int)) none=sliceText (a++s) (some (a.length:Int)) none:=rfl
 have l1:=yQ (a++s)
 rw[AG] at l1
 rw[e,sliceText_from ⟨by rfl',by show (a.length:Int)<=((tlS (a++s)).length:Int);rfl'⟩]
 refine jH ?_
 rw[wX7]
 show ((tlS (a++s)).drop (a.length:Int).toNat).take (((tlS (a++s)).length:Int)-(a.length:Int)).toNat=tlS s
 rw[AI,l1,yP,<-yQ a,List.drop_left,BM]
 rw[yQ]
 rfl'
def vU(a b c:Str):a++b++c=a++(b++c):=jH (by rw[yP,yP,yP,yP,Bd])
def zS4(y p:Str){r:List Str}(h:r ≠ []):Str.join y (p::r)=p++(y++Str.join y r):=by
 cases r with
 | nil=>exact absurd rfl h
 | cons q r=>rw[jI,vU]
def zN4{sep:Str}{ts:List Str}{B n:Nat}(hs:sep.length=1)(hl:ts.length<=n)(ht:∀t∈ts,t.length<=B)(hb:n*(B+1)<=16000000):JoinOk sep ts=true/\(Str.join sep ts).length<=n*(B+1):=by
 have h1:=BU (B+1) hl
 have e1:ts.length*(B+1)=ts.length*B+ts.length:=Nat.mul_succ _ _
 have e2:ts.length*sep.length=ts.length:=by rw[hs,Nat.mul_one]
 refine⟨?_,?_⟩
 ·unfold JoinOk
  rw[joinFits ht (by rfl')]
  rfl
 ·have a:=join_length_le sep ts
  have b:=sumLen_le ts ht
  rfl'
end MR
local macro_rules | `(tactic| sleep 1)=>`(tactic| exact⟨rfl,rfl,rfl,by decide +kernel,rfl,by decide +kernel,by decide +kernel⟩)
local macro_rules | `(tactic| sleep 2)=>`(tactic| exact⟨rfl,by decide +kernel,by decide +kernel,by decide +kernel,by decide +kernel,rfl,by decide +kernel,by decide +kernel⟩)
namespace K58
open PySem L2 L2.L3
def top(i:Nat):Stmt:=PySem.Challenge.pw_ownboxes_k58_whole_plans_of_six.main.body.getD i (.Pass ⟨0,0,0,0⟩)
abbrev kH:Stmt:=top 8
abbrev jT:Stmt:=top 9
abbrev kE:Stmt:=top 10
abbrev kN:Stmt:=top 11
abbrev vX:Stmt:=top 13
abbrev vW:Stmt:=top 14
abbrev kK:Stmt:=top 15
abbrev xH:Stmt:=top 18
abbrev uY:Stmt:=top 19
abbrev uU:Stmt:=top 20
abbrev uK:Stmt:=top 21
abbrev qX:Stmt:=top 22
abbrev vV:Stmt:=top 23
abbrev uH:Stmt:=top 24
abbrev qU:Stmt:=top 26
abbrev kG:Stmt:=top 27
abbrev qE:Stmt:=top 28
abbrev kD:Stmt:=top 29
abbrev zV7:Stmt:=top 30
abbrev kZ:Stmt:=top 31
abbrev wC:Stmt:=top 32
abbrev wQ:Stmt:=top 35
abbrev uL:Stmt:=top 36
abbrev wT:Stmt:=top 37
abbrev wA:Stmt:=top 38
abbrev jW:Stmt:=top 39
abbrev vZ:Stmt:=top 40
abbrev uJ:Stmt:=top 41
abbrev jP:Stmt:=top 42
abbrev uN:Stmt:=top 43
abbrev uQ:Stmt:=top 44
abbrev jR:Stmt:=top 46
abbrev hV:Stmt:=top 47
abbrev dF:Stmt:=top 48
abbrev jK:Stmt:=top 49
abbrev vM:Stmt:=top 50
abbrev qA:Stmt:=top 51
abbrev gS:Stmt:=top 52
abbrev uC:Stmt:=top 53
abbrev zG2:Stmt:=top 54
def dD:Ev->Res Out:=(sR (vAn (vB (b3 leI leI (eC (.int 1)) (eB lenD (aC (eV 0) aN)) (eC (.int 60)))) (e2 (fun x y=>bD (eqD x y)) (eB sortD (aC (eV 0) aN)) (eB rangeL (aC (eB lenD (aC (eV 0) aN)) aN)))))
def dM:List D->Res D:=runF false 1 1 dD
def fQ:Ev->Res Out:=(sQ (sS 2 (eB mkL (aC (eV 1) aN))) (sQ (sW 1000000 (b2 neD (e2 ixD (eV 0) (e2 ixD (eV 2) (e1 negD (eC (.int 1))))) (eV 1)) (sM 2 appD (aC (e2 ixD (eV 0) (e2 ixD (eV 2) (e1 negD (eC (.int 1))))) aN))) (sR (eB tupD (aC (eV 2) aN)))))
def jV:List D->Res D:=runF false 2 3 fQ
def dJ:Ev->Res Out:=(sQ (sS 1 (eB mkL aN)) (sQ (sS 2 (e2 repL (eB mkL (aC (eC (.bool false)) aN)) (eB lenD (aC (eV 0) aN)))) (sQ (sF (iR rng1 (aC (eB lenD (aC (eV 0) aN)) aN)) (gN 3) (sIf (tNt (tV (e2 ixD (eV 2) (eV 3)))) (sQ (sS 4 (eF jV (aC (eV 0) (aC (eV 3) aN)))) (sQ (sM 1 appD (aC (eV 4) aN)) (sF (iS (eV 4)) (gN 5) (sI 2 (eV 5) (eC (.bool true)))))) sN)) (sR (eV 1)))))
def dB:List D->Res D:=runF true 1 6 dJ
def dL:Ev->Res Out:=(sQ (sS 1 (eB mkL aN)) (sQ (sF (iS (eV 0)) (gN 2) (sQ (sIf (b2 eqD (eB lenD (aC (eV 2) aN)) (eC (.int 0))) (sRa "BadOrder" (aC (eC (.str "a ring has one box at least")) aN)) sN) (sM 1 extD (aC (eV 2) aN)))) (sQ (sIf (tNt (tV (eFA false dM (aC (eV 1) aN)))) (sRa "BadOrder" (aC (eC (.str "rings have each of 1 to 60 boxes just once")) aN)) sN) (sQ (sS 3 (e2 repL (eB mkL (aC (eC (.int 0)) aN)) (eB lenD (aC (eV 1) aN)))) (sQ (sF (iS (eV 0)) (gN 2) (sF (iR rng1 (aC (eB lenD (aC (eV 2) aN)) aN)) (gN 4) (sI 3 (e2 ixD (eV 2) (e2 subI (eV 4) (eC (.int 1)))) (e2 ixD (eV 2) (eV 4))))) (sR (eB tupD (aC (eV 3) aN))))))))
def kL:List D->Res D:=runF false 1 5 dL
def qQ:Ev->Res Out:=(sQ (sIf (tNt (b3 leI leI (eC (.int 1)) (eV 0) (eC (.int 60)))) (sRa "BadOpenings" (aC (eC (.str "openings are for 1 to 60 people")) aN)) sN) (sQ (sIf (b2 neD (eB lenD (aC (eV 1) aN)) (eV 0)) (sRa "BadOpenings" (aC (eC (.str "each person has its openings")) aN)) sN) (sQ (sIf (tO (b2 ltI (eB min1D (aC (eV 1) aN)) (eC (.int 0))) (b2 gtI (eB max1D (aC (eV 1) aN)) (eV 0))) (sRa "BadOpenings" (aC (eC (.str "openings are from 0 to as many as there are boxes")) aN)) sN) (sR (eB tupD (aC (eV 1) aN))))))
def xM:List D->Res D:=runF false 2 2 qQ
def gX:Ev->Res Out:=(sQ (sE (eF xM (aC (eB lenD (aC (eV 0) aN)) (aC (eV 1) aN)))) (sQ (sF (iS (eF dB (aC (eV 0) aN))) (gN 2) (sIf (b2 gtI (eB lenD (aC (eV 2) aN)) (eB min1D (aC (eComp (iS (eV 2)) tYes (e2 ixD (eV 1) (eV 0)) [1]) aN))) (sR (eV 2)) sN)) (sR (eC .none))))
def gQ:List D->Res D:=runF false 2 3 gX
def dI:Ev->Res Out:=(sR (e2 (fun x y=>bD ((isND false) x y)) (eF gQ (aC (eV 0) (aC (eV 1) aN))) (eC .none)))
def vF:List D->Res D:=runF false 2 2 dI
def wO:Ev->Res Out:=(sQ (sIf (b2 gtI (eB lenD (aC (eV 0) aN)) (eC (.int 6))) (sRa "BadOpenings" (aC (eC (.str "plans are for 1 to 6 people")) aN)) sN) (sR (eF xM (aC (eB lenD (aC (eV 0) aN)) (aC (eV 0) aN)))))
def xI:List D->Res D:=runF false 1 1 wO
def uX(Fself:List D->Res D):Ev->Res Out:=(sQ (sIf (b2 (isND false) (eV 0) (eC .none)) (sR (eC .none)) sN) (sQ (sS 5 (e2 ixD (eV 0) (eC (.int 0)))) (sQ (sS 6 (e2 ixD (eV 0) (eC (.int 1)))) (sQ (sIf (b2 eqD (eV 2) (eC (.int 0))) (sRa "BadPlan" (aC (eC (.str "a way down a tree has more boxes than there are openings")) aN)) sN) (sQ (sIf (tNt (b3 leI ltI (eC (.int 0)) (eV 5) (eV 1))) (sRa "BadPlan" (aC (eC (.str "a tree has a box that is not there")) aN)) sN) (sQ (sIf (b2 (inD false) (eV 5) (eV 3)) (sRa "BadPlan" (aC (eC (.str "a way down a tree has a box twice")) aN)) sN) (sQ (sIf (b2 neD (eB lenD (aC (eV 6) aN)) (eV 1)) (sRa "BadPlan" (aC (eC (.str "each box of a tree has a next tree for each person")) aN)) sN) (sQ (sS 7 (eB mkL aN)) (sQ (sF (xQ (eV 6)) (gT 2 (gsC (gN 8) (gsC (gN 9) gsN))) (sQ (sIf (tAn (b2 (isND true) (eV 9) (eC .none)) (b2 (inD false) (eV 8) (eV 4))) (sRa "BadPlan" (aC (eC (.str "a tree goes on by the own name, or by a name found before")) aN)) sN) (sM 7 appD (aC (eF Fself (aC (eV 9) (aC (eV 1) (aC (e2 subI (eV 2) (eC (.int 1))) (aC (e2 catL (eV 3) (eB mkL (aC (eV 5) aN))) (aC (e2 catL (eV 4) (eB mkL (aC (eV 8) aN))) aN)))))) aN)))) (sR (eB mkT (aC (eV 5) (aC (eB tupD (aC (eV 7) aN)) aN)))))))))))))
def wB:Nat->List D->Res D
 | 0=>fun _=>.no
 | n+1=>runF false 5 10 (uX (wB n))
def uO:List D->Res D:=wB 14
def fO:Ev->Res Out:=(sQ (sS 2 (eF xI (aC (eV 0) aN))) (sQ (sS 3 (eB lenD (aC (eV 2) aN))) (sQ (sIf (b2 neD (eB lenD (aC (eV 1) aN)) (eV 3)) (sRa "BadPlan" (aC (eC (.str "a plan has a tree for each person")) aN)) sN) (sR (eB tupD (aC (eComp2 (xQ (eV 1)) tYes (eF uO (aC (eV 1) (aC (eV 2) (aC (e2 ixD (eV 3) (eV 0)) (aC (eB mkL aN) (aC (eB mkL (aC (eV 0) aN)) aN)))))) [3,2]) aN))))))
def uZ:List D->Res D:=runF false 2 4 fO
def wG:Ev->Res Out:=(sIf (b2 neD (eB lenD (aC (eV 1) aN)) (eB lenD (aC (eV 0) aN))) (sRa "BadOrder" (aC (eC (.str "the order has not as many boxes as the plan has trees")) aN)) sN)
def wI:List D->Res D:=runF false 2 2 wG
def gF:Ev->Res Out:=(sQ (sS 2 (eB mkL aN)) (sQ (sS 3 (eV 0)) (sQ (sW 1000000 (b2 (isND true) (eV 3) (eC .none)) (sQ (sS 4 (e2 ixD (eV 3) (eC (.int 0)))) (sQ (sM 2 appD (aC (eV 4) aN)) (sS 3 (e2 ixD (e2 ixD (eV 3) (eC (.int 1))) (e2 ixD (eV 1) (eV 4))))))) (sR (eV 2)))))
def qR:List D->Res D:=runF true 2 5 gF
def gH:Ev->Res Out:=(sQ (sE (eF wI (aC (eV 0) (aC (eV 1) aN)))) (sQ (sS 2 (eB mkL aN)) (sQ (sF (xQ (eV 0)) (gT 2 (gsC (gN 3) (gsC (gN 4) gsN))) (sIf (b2 (inD false) (eV 3) (eComp (iS (eF qR (aC (eV 4) (aC (eV 1) aN)))) tYes (e2 ixD (eV 1) (eV 0)) [1])) (sM 2 appD (aC (eV 3) aN)) sN)) (sR (eB tupD (aC (eV 2) aN))))))
def xO:List D->Res D:=runF false 2 5 gH
def kT:Ev->Res Out:=(sR (e2 (fun x y=>bD (eqD x y)) (eB lenD (aC (eF xO (aC (eV 0) (aC (eV 1) aN))) aN)) (eB lenD (aC (eV 0) aN))))
def uI:List D->Res D:=runF false 2 2 kT
def gU:Ev->Res Out:=(sQ (sE (eF xM (aC (eB lenD (aC (eV 0) aN)) (aC (eV 1) aN)))) (sE (eF wI (aC (eV 0) (aC (eV 2) aN)))))
def qW:List D->Res D:=runF false 3 3 gU
def dY:Ev->Res Out:=(sQ (sE (eF qW (aC (eV 0) (aC (eV 1) (aC (eV 2) aN))))) (sR (eP 0 0)))
def kA:List D->Res D:=runF true 3 3 dY
def yN6:Ev->Res Out:=(sR (eB allD (aC (eComp2 (iS (eF kA (aC (eV 0) (aC (eV 1) (aC (eV 2) aN))))) tYes (e2 (fun x y=>bD (leI x y)) (eB lenD (aC (eV 1) aN)) (e2 ixD (eV 2) (eV 0))) [1]) aN)))
def fW:List D->Res D:=runF false 3 3 yN6
def bJ:Ev->Res Out:=(sQ (sS 3 (eB mkL aN)) (sQ (sF (iS (eF kA (aC (eV 0) (aC (eV 1) (aC (eV 2) aN))))) (gT 2 (gsC (gN 4) (gsC (gN 5) gsN))) (sM 3 appD (aC (e2 catL (eB mkL (aC (eV 4) aN)) (eComp (iS (eS slD (eV 5) oN (oS (e1 negD (eC (.int 1)))))) tYes (e2 ixD (eV 1) (eV 0)) [2])) aN))) (sR (eFA false kL (aC (eV 3) aN)))))
def fU:List D->Res D:=runF false 3 6 bJ
def uW:Ev->Res Out:=(sQ (sE (eF qW (aC (eV 0) (aC (eV 1) (aC (eV 2) aN))))) (sR (eB tupD (aC (eP 1 1) aN))))
def wE:List D->Res D:=runF false 3 3 uW
def qL:Ev->Res Out:=(sR (eM1S joinD (eC (.str " ")) (eComp (iS (eV 0)) tYes (eB strOfD (aC (eV 0) aN)) [])))
def vK:List D->Res D:=runF false 1 1 qL
def kX:Ev->Res Out:=(sQ (sIf (tO (tNt (tV (eM0S (fun z=>some (.bool (Txt.isdigit z))) (eV 0)))) (tO (b2 gtI (eB lenTD (aC (eV 0) aN)) (eC (.int 90))) (tAn (tV (eM1S stwD (eV 0) (eC (.str "0")))) (b2 neD (eV 0) (eC (.str "0")))))) sX sN) (sR (eB intTD (aC (eV 0) aN))))
def yK:List D->Res D:=runF false 2 2 kX
def qF:Ev->Res Out:=(sR (eB tupD (aC (eComp (iS (eV 0)) tYes (eF yK (aC (eV 0) (aC (eV 1) aN))) [1]) aN)))
def qH:List D->Res D:=runF false 2 2 qF
def uV(Fself:List D->Res D):Ev->Res Out:=(sQ (sIf (b2 (isND false) (eV 0) (eC .none)) (sR (eC (.str "-"))) sN) (sQ (sS 1 (e2 ixD (eV 0) (eC (.int 0)))) (sQ (sS 2 (eM1S joinD (eC (.str " ")) (eComp (iS (e2 ixD (eV 0) (eC (.int 1)))) tYes (eF Fself (aC (eV 0) aN)) []))) (sR (eJ (jS fI (eV 1) (jC "(" (jS fS (eV 2) (jC ")" jN)))))))))
def xG:Nat->List D->Res D
 | 0=>fun _=>.no
 | n+1=>runF false 1 3 (uV (xG n))
def fJ:List D->Res D:=xG 14
def fK:Ev->Res Out:=(sQ (sS 2 (eF vK (aC (eF xM (aC (eB lenD (aC (eV 1) aN)) (aC (eV 0) aN))) aN))) (sQ (sS 3 (eB mkL (aC (eJ (jC "openings " (jS fS (eV 2) jN))) aN))) (sQ (sF (xQ (eV 1)) (gT 2 (gsC (gN 4) (gsC (gN 5) gsN))) (sQ (sS 6 (eF fJ (aC (eV 5) aN))) (sM 3 appD (aC (eJ (jC "person " (jS fI (eV 4) (jC " " (jS fS (eV 6) jN))))) aN)))) (sR (eM1S joinD (eC (.str "\n")) (eV 3))))))
def jY:List D->Res D:=runF false 2 7 fK
def qN:Ev->Res Out:=(sQ (sS 1 (eM1S splD (eV 0) (eC (.str " ")))) (sQ (sIf (b2 neD (e2 ixD (eV 1) (eC (.int 0))) (eC (.str "openings"))) sX sN) (sQ (sS 2 (eF qH (aC (eS slD (eV 1) (oS (eC (.int 1))) oN) (aC (eC (.int 1)) aN)))) (sTryN (sR (eF xI (aC (eV 2) aN)))))))
def qS:List D->Res D:=runF false 1 3 qN
def kR:Ev->Res Out:=(sQ (sIf (tNt (tV (eM1S stwD (eV 0) (eV 1)))) sX sN) (sR (eS slS (eV 0) (oS (eB lenTD (aC (eV 1) aN))) oN)))
def yG:List D->Res D:=runF false 3 3 kR
def jL:List D->Res D:=rtF yK yG
def kW:Ev->Res Out:=(sQ (sS 3 (e2 addI (eV 1) (eC (.int 2)))) (sR (eF jL (aC (eF yG (aC (eV 0) (aC (eJ (jC "person " (jS fI (eV 1) (jC " " jN)))) (aC (eV 3) aN)))) (aC (eV 2) (aC (eV 3) aN))))))
def wJ:List D->Res D:=runF false 3 4 kW
def fM:Ev->Res Out:=(sQ (sS 1 (eM1S splD (eV 0) (eC (.str "\n")))) (sQ (sS 2 (eF qS (aC (e2 ixD (eV 1) (eC (.int 0))) aN))) (sQ (sS 3 (eB lenD (aC (eV 2) aN))) (sQ (sS 4 (eComp2 (xQ (eS slD (eV 1) (oS (eC (.int 1))) (oS (e2 addI (eV 3) (eC (.int 1)))))) tYes (eF wJ (aC (eV 1) (aC (eV 0) (aC (eV 2) aN)))) [3])) (sQ (sIf (b2 neD (eB lenD (aC (eV 1) aN)) (e2 addI (eV 3) (eC (.int 1)))) sX sN) (sR (eB mkT (aC (eV 2) (aC (eF uZ (aC (eV 2) (aC (eV 4) aN))) aN)))))))))
def jO:List D->Res D:=runF false 1 5 fM
def fL:Ev->Res Out:=(sQ (sIf (b2 ltI (eV 1) (eB lenD (aC (eV 0) aN))) (sR (e2 ixD (eV 0) (eV 1))) sN) (sR (eC (.int 0))))
def uS:List D->Res D:=runF false 2 2 fL
def zW5:Ev->Res Out:=(sR (eComp (iR rng1 (aC (eV 2) aN)) tYes (eB sumD (aC (eS3 (eV 1) (oS (e2 addI (eV 2) (eV 0))) oN (oS (eV 3))) aN)) [0,1,2]))
def dC:List D->Res D:=runF true 3 3 zW5
def gG:List D->Res D:=plF dC
def jG:List D->Res D:=gsF 6 3 uS
def yK2:Ev->Res Out:=(sQ (sA (eF jG (aC (eV 0) aN)) (gT 2 (gsC (gN 1) (gsC (gN 2) gsN)))) (sQ (sS 3 (eF gG (aC (eV 0) (aC (eV 1) (aC (eV 2) aN))))) (sQ (sIf (b2 neD (eF uZ (aC (eV 2) (aC (eV 3) aN))) (eV 3)) (sR (eC (.bool false))) sN) (sQ (sS 4 (eF jO (aC (eF jY (aC (eV 2) (aC (eV 3) aN))) aN))) (sQ (sIf (b2 neD (eV 4) (eB mkT (aC (eV 2) (aC (eV 3) aN)))) (sR (eC (.bool false))) sN) (sQ (sF (iS (e2 catL (eB mkL (aC (eB lenD (aC (eV 0) aN)) aN)) (eB listD (aC (eS slD (eV 0) (oS (eC (.int 1))) (oS (eC (.int 41)))) aN)))) (gN 5) (sQ (sS 6 (eF ordF (aC (eV 5) (aC (eV 1) aN)))) (sQ (sS 7 (eF fU (aC (eV 3) (aC (eV 2) (aC (eV 6) aN))))) (sQ (sIf (tO (b2 neD (eF fW (aC (eV 3) (aC (eV 2) (aC (eV 6) aN)))) (eF vF (aC (eV 7) (aC (eV 2) aN)))) (b2 neD (eF wE (aC (eV 3) (aC (eV 2) (aC (eV 7) aN)))) (eV 6))) (sR (eC (.bool false))) sN) (sQ (sIf (tAn (tV (eF uI (aC (eV 3) (aC (eV 6) aN)))) (tNt (tV (eF fW (aC (eV 3) (aC (eV 2) (aC (eV 6) aN))))))) (sR (eC (.bool false))) sN) (sQ (sIf (b2 neD (eF fW (aC (eV 3) (aC (eV 2) (aC (eF wE (aC (eV 3) (aC (eV 2) (aC (eV 6) aN)))) aN)))) (eF vF (aC (eV 6) (aC (eV 2) aN)))) (sR (eC (.bool false))) sN) (sIf (b2 neD (eF xO (aC (e2 ixD (eV 4) (eC (.int 1))) (aC (eV 6) aN))) (eF xO (aC (eV 3) (aC (eV 6) aN)))) (sR (eC (.bool false))) sN))))))) (sR (eC (.bool true)))))))))
def yO9:List D->Res D:=runF false 1 8 yK2
structure Txt[CN](K:KFr)(mg:Str->Option Value):Prop where
 g_all:mg "all" = none
 g_enumerate:mg "enumerate" = none
 g_int:mg "int" = none
 g_len:mg "len" = none
 g_list:mg "list" = none
 g_max:mg "max" = none
 g_min:mg "min" = none
 g_range:mg "range" = none
 g_sorted:mg "sorted" = none
 g_str:mg "str" = none
 g_sum:mg "sum" = none
 g_tuple:mg "tuple" = none
 c_MOST_FIGURES:∃u,mg "MOST_FIGURES" = some u/\RelV (.int 90) u
 c_MOST_IN_A_PLAN:∃u,mg "MOST_IN_A_PLAN" = some u/\RelV (.int 6) u
 c_MOST_PEOPLE:∃u,mg "MOST_PEOPLE" = some u/\RelV (.int 60) u
 d_is_order:∃f fd,Has K mg "is_order" kH f fd ["names"]
 d_ring_from:∃f fd,Has K mg "ring_from" jT f fd ["order","box"]
 d_rings_of:∃f fd,Has K mg "rings_of" kE f fd ["order"]
 d_order_by:∃f fd,Has K mg "order_by" kN f fd ["rings"]
 d_made_openings:∃f fd,Has K mg "made_openings" vX f fd ["people","numbers"]
 d_short_ring:∃f fd,Has K mg "short_ring" vW f fd ["order","openings"]
 d_all_find:∃f fd,Has K mg "all_find" kK f fd ["order","openings"]
 d_openings_of_a_plan:∃f fd,Has K mg "openings_of_a_plan" xH f fd ["openings"]
 d_made_tree:∃f fd,Has K mg "made_tree" uY f fd ["tree","people","left","boxes","names"]
 d_made_plan:∃f fd,Has K mg "made_plan" uU f fd ["openings","trees"]
 d_check_boxes:∃f fd,Has K mg "check_boxes" uK f fd ["plan","order"]
 d_boxes_down:∃f fd,Has K mg "boxes_down" qX f fd ["tree","order"]
 d_finders_by:∃f fd,Has K mg "finders_by" vV f fd ["plan","order"]
 d_all_find_by:∃f fd,Has K mg "all_find_by" uH f fd ["plan","order"]
 d_check_game:∃f fd,Has K mg "check_game" qU f fd ["plan","openings","order"]
 d_one_turn:∃f fd,Has K mg "one_turn" kG f fd ["tree","person","seen","name_in"]
 d_played:∃f fd,Has K mg "played" qE f fd ["plan","openings","name_in"]
 d_turns:∃f fd,Has K mg "turns" kD f fd ["plan","openings","order"]
 d_won:∃f fd,Has K mg "won" zV7 f fd ["plan","openings","order"]
 d_written:∃f fd,Has K mg "written" kZ f fd ["plan","openings","order"]
 d_unwritten:∃f fd,Has K mg "unwritten" wC f fd ["plan","openings","order"]
 d_numbers_text:∃f fd,Has K mg "numbers_text" wQ f fd ["numbers"]
 d_read_number:∃f fd,Has K mg "read_number" uL f fd ["word","row"]
 d_read_numbers:∃f fd,Has K mg "read_numbers" wT f fd ["words","row"]
 d_tree_text:∃f fd,Has K mg "tree_text" wA f fd ["tree"]
 d_plan_text:∃f fd,Has K mg "plan_text" jW f fd ["openings","plan"]
 d_read_openings:∃f fd,Has K mg "read_openings" vZ f fd ["text"]
 d_behind_sign:∃f fd,Has K mg "behind_sign" uJ f fd ["text","sign","row"]
 d_read_tree:∃f fd,Has K mg "read_tree" jP f fd ["text","people","row"]
 d_read_person:∃f fd,Has K mg "read_person" uN f fd ["text","person","people"]
 d_read_plan:∃f fd,Has K mg "read_plan" uQ f fd ["text"]
 d_l_cell_at:∃f fd,Has K mg "_law_cell_at" jR f fd ["script","k"]
 d_l_sums:∃f fd,Has K mg "_law_sums" hV f fd ["script","start","many"]
 d_l_take:∃f fd,Has K mg "_law_take" dF f fd ["pot","many"]
 d_l_order:∃f fd,Has K mg "_law_order" jK f fd ["pot","people"]
 d_l_openings:∃f fd,Has K mg "_law_openings" vM f fd ["pot","people"]
 d_l_tree:∃f fd,Has K mg "_law_tree" qA f fd ["pot","people","left","boxes","names","thin"]
 d_l_plan:∃f fd,Has K mg "_law_plan" gS f fd ["script","people","openings"]
 d_l_great:∃f fd,Has K mg "_law_great" uC f fd ["script"]
 d_law:∃f fd,Has K mg "law" zG2 f fd ["script"]
 t_played:∃c P,PySem.W.tabIn K "played" = some (c,P)/\∀f fd,Has K mg "played" qE f fd ["plan","openings","name_in"]->fd.code=.ref c
 t_turns:∃c P,PySem.W.tabIn K "turns" = some (c,P)/\∀f fd,Has K mg "turns" kD f fd ["plan","openings","order"]->fd.code=.ref c
 t_unwritten:∃c P,PySem.W.tabIn K "unwritten" = some (c,P)/\∀f fd,Has K mg "unwritten" wC f fd ["plan","openings","order"]->fd.code=.ref c
 x_BadOpenings:mg "BadOpenings" = some (.ref (CN.ad "BadOpenings"))
 x_BadOrder:mg "BadOrder" = some (.ref (CN.ad "BadOrder"))
 x_BadPlan:mg "BadPlan" = some (.ref (CN.ad "BadPlan"))
 ox_BadOpenings:OwnX K "BadOpenings"
 ox_BadOrder:OwnX K "BadOrder"
 ox_BadPlan:OwnX K "BadPlan"
section
variable [CN] {P:Program}{w:World}{K:KFr}{mg:Str->Option Value}{base:Heap}
def zZ9:zI ["names"] ["names"] (zU kH):=by sleep 1
variable (T:Txt K mg){f:Addr}{fd:FuncData}
include T
theorem yW1(h:Has K mg "is_order" kH f fd ["names"]):FnOk P w K mg base (CXV P w) 1 f fd ["names"] (spX false dM):=by
 refine yS [] h.F zZ9 fun cdv A outer s H E hr => ?_
 have nd:=zZ9.nd
 have u:=hr.units
 exact (zN (zB (xB7 (xT3 aO aO aK aK yU (zE zK yR T.g_len AC (zM (zZ 0) zR)) (dA T.c_MOST_PEOPLE.choose_spec.1 T.c_MOST_PEOPLE.choose_spec.2)) (xG5 (zU3 (uT u) zH3 (zE zA3 xJ5 T.g_sorted (by rfl) (zM (zZ 0) zR)) (zF5 T.g_list T.g_range (zM (zE zK yR T.g_len AC (zM (zZ 0) zR)) zR)))))))
def bU:zI ["order","box","ring"] ["order","box"] (zU jT):=by sleep 1
theorem zG8(h:Has K mg "ring_from" jT f fd ["order","box"]):FnOk P w K mg base (CXV P w) 1 f fd ["order","box"] (spX false jV):=by
 refine yS [2] h.F bU fun cdv A outer s H E hr => ?_
 have nd:=bU.nd
 have u:=hr.units
 exact (zP (wD 2 nd (xY (zW (zZ 1) zR))) (zP (zD9 1000000 (yT (xJ u) vY (yC yO yB (zZ 0) (yC yO yB (vQ 2) (zC2 yU))) (zZ 1)) (zN (qM 2 AN AO yL vS (zW (yC yO yB (zZ 0) (yC yO yB (vQ 2) (zC2 yU))) zR))) Be) (zN (zB (xN yY jB T.g_tuple (by rfl) (zM (vQ 2) zR))))))
def zY7:zI ["order","rings","seen","box","ring","member"] ["order"] (zU kE):=by sleep 1
theorem yV4(h:Has K mg "rings_of" kE f fd ["order"]):FnOk P w K mg base (CXV P w) 2 f fd ["order"] (spX true dB):=by
 obtain⟨_,_,h0⟩:=T.d_ring_from
 refine yS [1,2] h.F zY7 fun cdv A outer s H E hr => ?_
 have nd:=zY7.nd
 have u:=hr.units
 exact (zP (wD 1 nd (xY zR)) (zP (wD 2 nd (uM yU9 yK9 (xY (zW kM zR)) (zE zK yR T.g_len AC (zM (zZ 0) zR)))) (zP (jD (bM T.g_range (zM (zE zK yR T.g_len AC (zM (zZ 0) zR)) zR)) (yD 3 nd) (zN (yN (gY (gJ (yC yO yB (vQ 2) (zZ 3)))) (zP (yI 4 nd (zH (zG8 T h0) h0 (hr.mono (by decide)) (zJ (om:=[1,2])) (zW (zZ 0) (zW (zZ 3) zR)))) (zP (qM 1 AN AO yL vS (zW (zZ 4) zR)) (zN (jD (wP (RE.rd (zZ 4))) (yD 5 nd) (zN (yU4 2 kM (zZ 5))) Be)))) zA)) Be) (zN (yQ5 1)))))
def zY4:zI ["rings","boxes","ring","names","place"] ["rings"] (zU kN):=by sleep 1
theorem yW7(h:Has K mg "order_by" kN f fd ["rings"]):FnOk P w K mg base (CXV P w) 2 f fd ["rings"] (spX false kL):=by
 obtain⟨_,_,h0⟩:=T.d_is_order
 refine yS [1,3] h.F zY4 fun cdv A outer s H E hr => ?_
 have nd:=zY4.nd
 have u:=hr.units
 exact (zP (wD 1 nd (xY zR)) (zP (jD (wP (RE.rd (zZ 0))) (yD 2 nd) (zP (yN (yT (uT u) zH3 (zE zK yR T.g_len AC (zM (zZ 2) zR)) yU) (zN (xT (zJ (om:=[1,3])) T.ox_BadOrder T.x_BadOrder (zM yH zR))) zA) (zN (xF4 1 (zZ 2)))) Be) (zP (yN (gY (gJ (zV1 (yW1 T h0) h0 (hr.mono (by decide)) (zJ (om:=[1,3])) (zM (vQ 1) zR)))) (zN (xT (zJ (om:=[1,3])) T.ox_BadOrder T.x_BadOrder (zM yH zR))) zA) (zP (wD 3 nd (uM yU9 yK9 (xY (zW yU zR)) (zE zK yR T.g_len AC (zM (vQ 1) zR)))) (zP (jD (wP (RE.rd (zZ 0))) (yD 2 nd) (zN (jD (bM T.g_range (zM (zE zK yR T.g_len AC (zM (zZ 2) zR)) zR)) (yD 4 nd) (zN (yU4 3 (yC yO yB (zZ 2) (zZ 4)) (yC yO yB (zZ 2) (uM zV6 yK6 (zZ 4) yU)))) Be)) Be) (zN (zB (xN yY jB T.g_tuple (by rfl) (zM (vQ 3) zR)))))))))
def gO:zI ["people","numbers"] ["people","numbers"] (zU vX):=by sleep 1
theorem wL(h:Has K mg "made_openings" vX f fd ["people","numbers"]):FnOk P w K mg base (CXV P w) 1 f fd ["people","numbers"] (spX false xM):=by
 refine yS [] h.F gO fun cdv A outer s H E hr => ?_
 have nd:=gO.nd
 have u:=hr.units
 exact (zP (yN (gY (yZ4 aO aO aK aK yU (zZ 0) (dA T.c_MOST_PEOPLE.choose_spec.1 T.c_MOST_PEOPLE.choose_spec.2))) (zN (xT zJ T.ox_BadOpenings T.x_BadOpenings (zM yH zR))) zA) (zP (yN (yT (xJ u) vY (zE zK yR T.g_len AC (zM (zZ 1) zR)) (zZ 0)) (zN (xT zJ T.ox_BadOpenings T.x_BadOpenings (zM yH zR))) zA) (zP (yN (RW.rt (rw_or (yT yO4 yO7 (zE (zL5 rfl) yS3 T.g_min Dc (zM (zZ 1) zR)) yU) (rw_or1 (yT zR9 zH7 (zE (yI4 rfl) xQ4 T.g_max PyProof.Rows.boot_max (zM (zZ 1) zR)) (zZ 0))))) (zN (xT zJ T.ox_BadOpenings T.x_BadOpenings (zM yH zR))) zA) (zN (zB (xN yY jB T.g_tuple (by rfl) (zM (zZ 1) zR)))))))
def cL:zI ["order","openings","ring"] ["order","openings"] (zU vW):=by sleep 1
theorem zI1(h:Has K mg "short_ring" vW f fd ["order","openings"]):FnOk P w K mg base (CXV P w) 3 f fd ["order","openings"] (spX false gQ):=by
 obtain⟨_,_,h0⟩:=T.d_made_openings
 obtain⟨_,_,h1⟩:=T.d_rings_of
 refine yS [] h.F cL fun cdv A outer s H E hr => ?_
 have nd:=cL.nd
 have u:=hr.units
 exact (zP (kB (zH (wL T h0) h0 (hr.mono (by decide)) zJ (zW (zE zK yR T.g_len AC (zM (zZ 0) zR)) (zW (zZ 1) zR)))) (zP (jD (wP (RE.rd (RE.cl (gB (yV4 T h1) h1 (hr.mono (by decide)) zJ (zW (zZ 0) zR))))) (yD 2 nd) (zN (yN (yT zR9 zH7 (zE zK yR T.g_len AC (zM (zZ 2) zR)) (zE (zL5 rfl) yS3 T.g_min Dc (zM (qD (sc0:=zU vW) (N0:=["order","openings","ring"]) (fs:=["openings"]) (js:=[1]) (by sleep 2) rfl rfl rfl (RI.c (wP (RE.rd (zZ 2)))) (fun _ _ _ _=>wF) (fun _ _ _ _=>(yC yO yB (zZ 1) (zZ 0)))) zR))) (zN (zB (zZ 2))) zA)) Be) (zN (zB gI))))
def zZ6:zI ["order","openings"] ["order","openings"] (zU kK):=by sleep 1
theorem zY6(h:Has K mg "all_find" kK f fd ["order","openings"]):FnOk P w K mg base (CXV P w) 4 f fd ["order","openings"] (spX false vF):=by
 obtain⟨_,_,h0⟩:=T.d_short_ring
 refine yS [] h.F zZ6 fun cdv A outer s H E hr => ?_
 have nd:=zZ6.nd
 have u:=hr.units
 exact (zN (zB (zU3 zE2 yL1 (zH (zI1 T h0) h0 (hr.mono (by decide)) zJ (zW (zZ 0) (zW (zZ 1) zR))) gI)))
def uE:zI ["openings"] ["openings"] (zU xH):=by sleep 1
theorem uA(h:Has K mg "openings_of_a_plan" xH f fd ["openings"]):FnOk P w K mg base (CXV P w) 2 f fd ["openings"] (spX false xI):=by
 obtain⟨_,_,h0⟩:=T.d_made_openings
 refine yS [] h.F uE fun cdv A outer s H E hr => ?_
 have nd:=uE.nd
 have u:=hr.units
 exact (zP (yN (yT zR9 zH7 (zE zK yR T.g_len AC (zM (zZ 0) zR)) (dA T.c_MOST_IN_A_PLAN.choose_spec.1 T.c_MOST_IN_A_PLAN.choose_spec.2)) (zN (xT zJ T.ox_BadOpenings T.x_BadOpenings (zM yH zR))) zA) (zN (zB (zH (wL T h0) h0 (hr.mono (by decide)) zJ (zW (zE zK yR T.g_len AC (zM (zZ 0) zR)) (zW (zZ 0) zR))))))
def cA:zI ["tree","people","left","boxes","names","box","nexts","told","name","coming"] ["tree","people","left","boxes","names"] (zU uY):=by sleep 1
theorem zI2(h:Has K mg "made_tree" uY f fd ["tree","people","left","boxes","names"]):∀n,FnOk P w K mg base (CXV P w) (1+n) f fd ["tree","people","left","boxes","names"] (spX false (wB n)):=by
 intro n
 induction n with
 | zero=>exact yE2
 | succ n G_made_tree =>
 have h0:=h
 refine yS [7] h.F cA fun cdv A outer s H E hr => ?_
 have nd:=cA.nd
 have u:=hr.units
 exact (zP (yN (yT zE2 yL1 (zZ 0) gI) (zN (zB gI)) zA) (zP (yI 5 nd (yC yO yB (zZ 0) yU)) (zP (yI 6 nd (yC yO yB (zZ 0) yU)) (zP (yN (yT (uT u) zH3 (zZ 2) yU) (zN (xT (zJ (om:=[7])) T.ox_BadPlan T.x_BadPlan (zM yH zR))) zA) (zP (yN (gY (yZ4 aO yO4 aK yO7 yU (zZ 5) (zZ 1))) (zN (xT (zJ (om:=[7])) T.ox_BadPlan T.x_BadPlan (zM yH zR))) zA) (zP (yN (yT fY yM2 (zZ 5) (zZ 3)) (zN (xT (zJ (om:=[7])) T.ox_BadPlan T.x_BadPlan (zM yH zR))) zA) (zP (yN (yT (xJ u) vY (zE zK yR T.g_len AC (zM (zZ 6) zR)) (zZ 1)) (zN (xT (zJ (om:=[7])) T.ox_BadPlan T.x_BadPlan (zM yH zR))) zA) (zP (wD 7 nd (xY zR)) (zP (zN6 (vP T.g_enumerate (RE.rd (zZ 6))) (bS rfl (wW (yD 8 nd) (wW (yD 9 nd) dP))) (zP (yN (RW.rt (rw_and (yT yQ6 zA1 (zZ 9) gI) (rw_and1 (yT fY yM2 (zZ 8) (zZ 4))))) (zN (xT (zJ (om:=[7])) T.ox_BadPlan T.x_BadPlan (zM yH zR))) zA) (zN (qM 7 AN AO yL vS (zW (zH G_made_tree h0 hr (zJ (om:=[7])) (zW (zZ 9) (zW (zZ 1) (zW (uM zV6 yK6 (zZ 2) yU) (zW (RE.cl (uM qC zR3 (zZ 3) (xY (zW (zZ 5) zR)))) (zW (RE.cl (uM qC zR3 (zZ 4) (xY (zW (zZ 8) zR)))) zR)))))) zR)))) Be) (zN (zB (zE3 (zW (zZ 5) (zW (xN yY jB T.g_tuple (by rfl) (zM (vQ 7) zR)) zR))))))))))))))
theorem zE8(h:Has K mg "made_tree" uY f fd ["tree","people","left","boxes","names"]):FnOk P w K mg base (CXV P w) 15 f fd ["tree","people","left","boxes","names"] (spX false uO):=zI2 T h 14
def cD:zI ["openings","trees","numbers","people"] ["openings","trees"] (zU uU):=by sleep 1
theorem bI(h:Has K mg "made_plan" uU f fd ["openings","trees"]):FnOk P w K mg base (CXV P w) 16 f fd ["openings","trees"] (spX false uZ):=by
 obtain⟨_,_,h0⟩:=T.d_openings_of_a_plan
 obtain⟨_,_,h1⟩:=T.d_made_tree
 refine yS [] h.F cD fun cdv A outer s H E hr => ?_
 have nd:=cD.nd
 have u:=hr.units
 exact (zP (yI 2 nd (zH (uA T h0) h0 (hr.mono (by decide)) zJ (zW (zZ 0) zR))) (zP (yI 3 nd (zE zK yR T.g_len AC (zM (zZ 2) zR))) (zP (yN (yT (xJ u) vY (zE zK yR T.g_len AC (zM (zZ 1) zR)) (zZ 3)) (zN (xT zJ T.ox_BadPlan T.x_BadPlan (zM yH zR))) zA) (zN (zB (xN yY jB T.g_tuple (by rfl) (zM (yX6 (sc0:=zU uU) (N0:=["openings","trees","numbers","people"]) (fs:=["people","numbers"]) (js:=[3,2]) (by exact⟨rfl,by decide +kernel,by decide +kernel,by decide +kernel,by decide +kernel,by decide +kernel,rfl,by decide +kernel,by decide +kernel⟩) rfl rfl rfl (RIo.c (vP T.g_enumerate (RE.rd (zZ 1)))) (fun _ _ _ _=>wF) (fun _ _ _ _=>(zH (zE8 T h1) h1 (hr.mono (by decide)) (zT7 fun _ _ h=>h) (zW (zZ 1) (zW (zZ 2) (zW (yC yO yB (zZ 3) (zZ 0)) (zW (RE.cl (xY zR)) (zW (RE.cl (xY (zW (zZ 0) zR))) zR)))))))) zR)))))))
def dS:zI ["plan","order"] ["plan","order"] (zU uK):=by sleep 1
theorem fD(h:Has K mg "check_boxes" uK f fd ["plan","order"]):FnOk P w K mg base (CXV P w) 1 f fd ["plan","order"] (spX false wI):=by
 refine yS [] h.F dS fun cdv A outer s H E hr => ?_
 have nd:=dS.nd
 have u:=hr.units
 exact (zN (yN (yT (xJ u) vY (zE zK yR T.g_len AC (zM (zZ 1) zR)) (zE zK yR T.g_len AC (zM (zZ 0) zR))) (zN (xT zJ T.ox_BadOrder T.x_BadOrder (zM yH zR))) zA))
def cR:zI ["tree","order","boxes","rest","box"] ["tree","order"] (zU qX):=by sleep 1
theorem zI4(h:Has K mg "boxes_down" qX f fd ["tree","order"]):FnOk P w K mg base (CXV P w) 1 f fd ["tree","order"] (spX true qR):=by
 refine yS [2] h.F cR fun cdv A outer s H E hr => ?_
 have nd:=cR.nd
 have u:=hr.units
 exact (zP (wD 2 nd (xY zR)) (zP (yI 3 nd (zZ 0)) (zP (zD9 1000000 (yT yQ6 zA1 (zZ 3) gI) (zP (yI 4 nd (yC yO yB (zZ 3) yU)) (zP (qM 2 AN AO yL vS (zW (zZ 4) zR)) (zN (yI 3 nd (yC yO yB (yC yO yB (zZ 3) yU) (yC yO yB (zZ 1) (zZ 4))))))) Be) (zN (yQ5 2)))))
def cP:zI ["plan","order","found","person","tree"] ["plan","order"] (zU vV):=by sleep 1
theorem kP(h:Has K mg "finders_by" vV f fd ["plan","order"]):FnOk P w K mg base (CXV P w) 2 f fd ["plan","order"] (spX false xO):=by
 obtain⟨_,_,h0⟩:=T.d_check_boxes
 obtain⟨_,_,h1⟩:=T.d_boxes_down
 refine yS [2] h.F cP fun cdv A outer s H E hr => ?_
 have nd:=cP.nd
 have u:=hr.units
 exact (zP (kB (zH (fD T h0) h0 (hr.mono (by decide)) (zJ (om:=[2])) (zW (zZ 0) (zW (zZ 1) zR)))) (zP (wD 2 nd (xY zR)) (zP (zN6 (vP T.g_enumerate (RE.rd (zZ 0))) (bS rfl (wW (yD 3 nd) (wW (yD 4 nd) dP))) (zN (yN (yT fY yM2 (zZ 3) (qD (sc0:=zU vV) (N0:=["plan","order","found","person","tree"]) (fs:=["order"]) (js:=[1]) (by sleep 2) rfl rfl rfl (RI.c (wP (RE.rd (RE.cl (gB (zI4 T h1) h1 (hr.mono (by decide)) (zJ (om:=[2])) (zW (zZ 4) (zW (zZ 1) zR))))))) (fun _ _ _ _=>wF) (fun _ _ _ _=>(yC yO yB (zZ 1) (zZ 0))))) (zN (qM 2 AN AO yL vS (zW (zZ 3) zR))) zA)) Be) (zN (zB (xN yY jB T.g_tuple (by rfl) (zM (vQ 2) zR)))))))
def fC:zI ["plan","order"] ["plan","order"] (zU uH):=by sleep 1
theorem zP6(h:Has K mg "all_find_by" uH f fd ["plan","order"]):FnOk P w K mg base (CXV P w) 3 f fd ["plan","order"] (spX false uI):=by
 obtain⟨_,_,h0⟩:=T.d_finders_by
 refine yS [] h.F fC fun cdv A outer s H E hr => ?_
 have nd:=fC.nd
 have u:=hr.units
 exact (zN (zB (zU3 (uT u) zH3 (zE zK yR T.g_len AC (zM (zH (kP T h0) h0 (hr.mono (by decide)) zJ (zW (zZ 0) (zW (zZ 1) zR))) zR)) (zE zK yR T.g_len AC (zM (zZ 0) zR)))))
def cT:zI ["plan","openings","order"] ["plan","openings","order"] (zU qU):=by sleep 1
theorem cN(h:Has K mg "check_game" qU f fd ["plan","openings","order"]):FnOk P w K mg base (CXV P w) 2 f fd ["plan","openings","order"] (spX false qW):=by
 obtain⟨_,_,h0⟩:=T.d_made_openings
 obtain⟨_,_,h1⟩:=T.d_check_boxes
 refine yS [] h.F cT fun cdv A outer s H E hr => ?_
 have nd:=cT.nd
 have u:=hr.units
 exact (zP (kB (zH (wL T h0) h0 (hr.mono (by decide)) zJ (zW (zE zK yR T.g_len AC (zM (zZ 0) zR)) (zW (zZ 1) zR)))) (zN (kB (zH (fD T h1) h1 (hr.mono (by decide)) zJ (zW (zZ 0) (zW (zZ 2) zR))))))
def zY2:zI ["tree","person","seen","name_in","boxes","last","rest","box"] ["tree","person","seen","name_in"] (zU kG):=by sleep 1
theorem zF4(h:Has K mg "one_turn" kG f fd ["tree","person","seen","name_in"]):FnOk P w K mg base CX0 2 f fd ["tree","person","seen","name_in"] (spTurn P w K mg base 1):=by
 refine (xP6 (k:=1) (kk:=1)) h.F zY2 rfl rfl fun cdv A outer s H E hr => ?_
 have nd:=zY2.nd
 exact (zG (yX (i:=4) nd rfl (by sleep 3) (xW zL)) (zG (yX (i:=5) nd rfl (by sleep 3) (pv 1)) (zG (yX (i:=6) nd rfl (by sleep 3) (pv 0)) (zG (qK Cs (xE gR (pv 1) (pv 2) rfl) (zG (yX (i:=7) nd rfl (by sleep 3) (xX6 (yZ2 (yH8 (pv 6))) (wN AY PySem.F.slot_list_index PySem.F.type_list_index xV1 (pv 2) (zT dU zL)) (yA xK (pv 6) yW (fun _ _=>rfl)))) (zG (kJ (yZ2 (yH8 (yA vE (pv 2) (pv 7) (fun _ _=>rfl)))) (zG (wR (wN AY AN AO yL (pv 4) (zT (pv 7) zL))) (zG (yX (i:=5) nd rfl (by sleep 3) (xY7 (i:=3) hr rfl (by first | exact Or.inl rfl | exact Or.inr (Or.inl rfl)) (zT (pv 7) (zT (pv 5) zL)))) (yV (zV2 (pv 5) (zF9 (pv 2) (pv 7) zW6))))) uB) (yV (kJ (yZ2 (xN3 (pv 6))) (yV (yX (i:=6) nd rfl (by sleep 3) (yA xK (yA xK (pv 6) yW (fun _ _=>rfl)) (yA vE (pv 2) (pv 7) (fun _ _=>rfl)) (fun _ _=>rfl)))) uB))))) (yV (wS (jE (zT (pv 1) (zT (yF yY rfl T.g_tuple (by rfl) (zT (pv 4) zL)) zL)))))))))
def zJ2:zI ["plan","openings","name_in","seen","done","person"] ["plan","openings","name_in"] (zU qE):=by sleep 1
theorem zS2(h:Has K mg "played" qE f fd ["plan","openings","name_in"]):FnOk P w K mg base CX0 4 f fd ["plan","openings","name_in"] (spPlayed P w K mg base 1 orK):=by
 obtain⟨_,_,h0⟩:=T.d_one_turn
 obtain⟨c_t,P_t,e_t,hc_t⟩:=T.t_played
 refine (yP4 (k:=3) (kk:=1)) h.F zJ2 rfl rfl (hc_t _ _ h) fun A outer s H E hr => ?_
 have nd:=zJ2.nd
 exact (zG (yX (i:=3) nd rfl (by sleep 3) (qY xE2 (xW (zT dU zL)) (wM zK rfl T.g_len AC (zT (pv 0) zL)))) (zG (yX (i:=4) nd rfl (by sleep 3) (xW zL)) (zG (cE Cs rfl (xK9 (xV2 (k:=0) (j:=1) (one:="one") (y:="openings") (x:="played") hr rfl rfl T.g_sorted (zT (yF cI rfl T.g_range (by rfl) (zT (wM zK rfl T.g_len AC (zT (pv 0) zL)) zL)) zL) (by decide) e_t rfl rfl rfl (fun cl ec=>fN (by rfl) ec) (LamScope.of rfl rfl rfl (by decide +kernel) (by decide +kernel) (by rfl) (by decide +kernel) (by decide +kernel)) rfl rfl (fun cl us pm cd ctv hl=>match us,hl with | [_],_=>rfl) (fun A H outer s f cl c1=>(jE (zT (yA xK (pv 1) (pv 0) (fun _ _=>rfl)) (zT (pv 0) zL)))))) (vA (i:=5) nd rfl (by sleep 3)) (yV (kJ (xE gR (pv 5) (pv 3) rfl) (yV (wR (wN AY AN AO yL (pv 4) (zT (yJ (zF4 T h0) (hr.mono (by decide)) rfl h0.m h0.F.kp h0.b .nil pass0 (zT (yA xK (pv 0) (pv 5) (fun _ _=>rfl)) (zT (pv 5) (zT (pv 3) (zT (pv 2) zL))))) zL)))) uB))) (yV (wS (jE (zT (pv 4) (zT (pv 3) zL))))))))
def yY3:zI ["plan","openings","order"] ["plan","openings","order"] (zU kD):=by sleep 1
theorem yZ9(h:Has K mg "turns" kD f fd ["plan","openings","order"]):FnOk P w K mg base (CXV P w) 5 f fd ["plan","openings","order"] (spX true kA):=by
 obtain⟨_,_,h0⟩:=T.d_check_game
 obtain⟨_,_,h1⟩:=T.d_played
 obtain⟨c_t,P_t,e_t,hc_t⟩:=T.t_turns
 refine yU7 [] h.F (hc_t _ _ h) yY3 fun A outer s H E hr => ?_
 have nd:=yY3.nd
 have u:=hr.units
 exact (zP (kB (zH (cN T h0) h0 (hr.mono (by decide)) zJ (zW (zZ 0) (zW (zZ 1) (zW (zZ 2) zR))))) (zN (yR2 (yK3 (i:=0) (j:=0) (by decide) (yI8 (i:=0) (kk:=0) (x:="turns") (y:="order") (pl:="played") (b1:="box") (b2:="last") (by decide) (zS2 T h1) (hr.mono (by decide)) rfl h1.m h1.F.kp h1.b (pv 0) (pv 1) (by decide) e_t rfl rfl rfl (fun cl ec=>fN (by rfl) ec) (LamScope.of rfl rfl rfl (by decide +kernel) (by decide +kernel) (by rfl) (by decide +kernel) (by decide +kernel)) rfl rfl rfl (fun cl us pm cd ctv hl=>match us,hl with | [_,_],_=>rfl) (fun A H outer s f cl c1=>(yA xK (pv 2) (pv 0) (fun _ _=>rfl)))) yW (fun _ _=>rfl) (by exact⟨Bz,Bz⟩) (by exact⟨Bz,Bz⟩) (by exact⟨Bz,Bz⟩)))))
def yG4:zI ["plan","openings","order"] ["plan","openings","order"] (zU zV7):=by sleep 1
theorem zB6(h:Has K mg "won" zV7 f fd ["plan","openings","order"]):FnOk P w K mg base (CXV P w) 6 f fd ["plan","openings","order"] (spX false fW):=by
 obtain⟨_,_,h0⟩:=T.d_turns
 refine yS [] h.F yG4 fun cdv A outer s H E hr => ?_
 have nd:=yG4.nd
 have u:=hr.units
 exact (zN (zB (zE (yG2 rfl) xG4 T.g_all (by rfl) (zM (yX6 (sc0:=zU zV7) (N0:=["plan","openings","order"]) (fs:=["openings"]) (js:=[1]) (by exact⟨rfl,by decide +kernel,by decide +kernel,by decide +kernel,by decide +kernel,by decide +kernel,rfl,by decide +kernel,by decide +kernel⟩) rfl rfl rfl (RI.c (wP (RE.rd (RE.cl (gB (yZ9 T h0) h0 (hr.mono (by decide)) zJ (zW (zZ 0) (zW (zZ 1) (zW (zZ 2) zR)))))))) (fun _ _ _ _=>wF) (fun _ _ _ _=>(zU3 aO aK (zE zK yR T.g_len AC (zM (zZ 1) zR)) (yC yO yB (zZ 2) (zZ 0))))) zR))))
def zV5:zI ["plan","openings","order","rings","person","boxes"] ["plan","openings","order"] (zU kZ):=by sleep 1
theorem yL8(h:Has K mg "written" kZ f fd ["plan","openings","order"]):FnOk P w K mg base (CXV P w) 6 f fd ["plan","openings","order"] (spX false fU):=by
 obtain⟨_,_,h0⟩:=T.d_turns
 obtain⟨_,_,h1⟩:=T.d_order_by
 refine yS [3] h.F zV5 fun cdv A outer s H E hr => ?_
 have nd:=zV5.nd
 have u:=hr.units
 exact (zP (wD 3 nd (xY zR)) (zP (jD (wP (RE.rd (RE.cl (gB (yZ9 T h0) h0 (hr.mono (by decide)) (zJ (om:=[3])) (zW (zZ 0) (zW (zZ 1) (zW (zZ 2) zR))))))) (bS rfl (wW (yD 4 nd) (wW (yD 5 nd) dP))) (zN (qM 3 AN AO yL vS (zW (RE.cl (uM qC zR3 (xY (zW (zZ 4) zR)) (qD (sc0:=zU kZ) (N0:=["plan","openings","order","rings","person","boxes"]) (fs:=["order"]) (js:=[2]) (by sleep 2) rfl rfl rfl (RI.c (wP (RE.rd (gA (zZ 5) aA (vC (zC2 yU)))))) (fun _ _ _ _=>wF) (fun _ _ _ _=>(yC yO yB (zZ 1) (zZ 0)))))) zR))) Be) (zN (zB (zV1 (yW7 T h1) h1 (hr.mono (by decide)) (zJ (om:=[3])) (zM (vQ 3) zR))))))
def cF:zI ["plan","openings","order"] ["plan","openings","order"] (zU wC):=by sleep 1
theorem bT(h:Has K mg "unwritten" wC f fd ["plan","openings","order"]):FnOk P w K mg base (CXV P w) 5 f fd ["plan","openings","order"] (spX false wE):=by
 obtain⟨_,_,h0⟩:=T.d_check_game
 obtain⟨_,_,h1⟩:=T.d_played
 obtain⟨c_t,P_t,e_t,hc_t⟩:=T.t_unwritten
 refine yU7 [] h.F (hc_t _ _ h) cF fun A outer s H E hr => ?_
 have nd:=cF.nd
 have u:=hr.units
 exact (zP (kB (zH (cN T h0) h0 (hr.mono (by decide)) zJ (zW (zZ 0) (zW (zZ 1) (zW (zZ 2) zR))))) (zN (zB (xN yY jB T.g_tuple (by rfl) (zM (yK3 (i:=1) (j:=1) (by decide) (yI8 (i:=1) (kk:=0) (x:="unwritten") (y:="order") (pl:="played") (b1:="box") (b2:="last") (by decide) (zS2 T h1) (hr.mono (by decide)) rfl h1.m h1.F.kp h1.b (pv 0) (pv 1) (by decide) e_t rfl rfl rfl (fun cl ec=>fN (by rfl) ec) (LamScope.of rfl rfl rfl (by decide +kernel) (by decide +kernel) (by rfl) (by decide +kernel) (by decide +kernel)) rfl rfl rfl (fun cl us pm cd ctv hl=>match us,hl with | [_,_],_=>rfl) (fun A H outer s f cl c1=>(yA xK (pv 2) (pv 1) (fun _ _=>rfl)))) yW (fun _ _=>rfl) (by exact⟨Bz,Bz⟩) (by exact⟨Bz,Bz⟩) (by exact⟨Bz,Bz⟩)) zR)))))
def gC:zI ["numbers"] ["numbers"] (zU wQ):=by sleep 1
theorem zT5(h:Has K mg "numbers_text" wQ f fd ["numbers"]):FnOk P w K mg base (CXV P w) 1 f fd ["numbers"] (spX false vK):=by
 refine yS [] h.F gC fun cdv A outer s H E hr => ?_
 have nd:=gC.nd
 have u:=hr.units
 exact (zN (zB (vT Dd De zO6 zO9 yH (qD (sc0:=zU wQ) (N0:=["numbers"]) (fs:=[]) (js:=[]) (by sleep 2) rfl rfl rfl (RI.c (wP (RE.rd (zZ 0)))) (fun _ _ _ _=>wF) (fun _ _ _ _=>(xN zF6 xC5 T.g_str (by rfl) (zM (zZ 0) zR)))))))
def fH:zI ["word","row"] ["word","row"] (zU uL):=by sleep 1
theorem dQ(h:Has K mg "read_number" uL f fd ["word","row"]):FnOk P w K mg base (CXV P w) 1 f fd ["word","row"] (spX false yK):=by
 refine yS [] h.F fH fun cdv A outer s H E hr => ?_
 have nd:=fH.nd
 have u:=hr.units
 exact (zP (yN (RW.rt (rw_or (gY (gJ (yO1 (zZ 0)))) (rw_or (yT zR9 zH7 (zE bQ yT7 T.g_len AC (zM (zZ 0) zR)) (dA T.c_MOST_FIGURES.choose_spec.1 T.c_MOST_FIGURES.choose_spec.2)) (rw_or1 (RW.rt (rw_and (gJ (vT Cz CA kQ cS (zZ 0) yH)) (rw_and1 (yT (xJ u) vY (zZ 0) yH)))))))) (zN dH) zA) (zN (zB (xN zI8 xK6 T.g_int (by rfl) (zM (zZ 0) zR)))))
def fT:zI ["words","row"] ["words","row"] (zU wT):=by sleep 1
theorem zT8(h:Has K mg "read_numbers" wT f fd ["words","row"]):FnOk P w K mg base (CXV P w) 2 f fd ["words","row"] (spX false qH):=by
 obtain⟨_,_,h0⟩:=T.d_read_number
 refine yS [] h.F fT fun cdv A outer s H E hr => ?_
 have nd:=fT.nd
 have u:=hr.units
 exact (zN (zB (xN yY jB T.g_tuple (by rfl) (zM (qD (sc0:=zU wT) (N0:=["words","row"]) (fs:=["row"]) (js:=[1]) (by sleep 2) rfl rfl rfl (RI.c (wP (RE.rd (zZ 0)))) (fun _ _ _ _=>wF) (fun _ _ _ _=>(zH (dQ T h0) h0 (hr.mono (by decide)) (zT7 fun _ _ h=>h) (zW (zZ 0) (zW (zZ 1) zR))))) zR))))
def bF:zI ["tree","box","nexts"] ["tree"] (zU wA):=by sleep 1
theorem zI6(h:Has K mg "tree_text" wA f fd ["tree"]):∀n,FnOk P w K mg base (CXV P w) (1+n) f fd ["tree"] (spX false (xG n)):=by
 intro n
 induction n with
 | zero=>exact yE2
 | succ n G_tree_text =>
 have h0:=h
 refine yS [] h.F bF fun cdv A outer s H E hr => ?_
 have nd:=bF.nd
 have u:=hr.units
 exact (zP (yN (yT zE2 yL1 (zZ 0) gI) (zN (zB yH)) zA) (zP (yI 1 nd (yC yO yB (zZ 0) yU)) (zP (yI 2 nd (vT Dd De zO6 zO9 yH (qD (sc0:=zU wA) (N0:=["tree","box","nexts"]) (fs:=[]) (js:=[]) (by sleep 2) rfl rfl rfl (RI.c (wP (RE.rd (yC yO yB (zZ 0) yU)))) (fun _ _ _ _=>wF) (fun _ _ _ _=>(zH G_tree_text h0 hr (zT7 fun _ _ h=>h) (zW (zZ 0) zR)))))) (zN (zB (fZ (yY4 (zZ 1) (uG (zA7 (zZ 2) (uG zW9))))))))))
theorem zD5(h:Has K mg "tree_text" wA f fd ["tree"]):FnOk P w K mg base (CXV P w) 15 f fd ["tree"] (spX false fJ):=zI6 T h 14
def aZ:zI ["openings","plan","numbers","rows","person","tree","way"] ["openings","plan"] (zU jW):=by sleep 1
theorem zD7(h:Has K mg "plan_text" jW f fd ["openings","plan"]):FnOk P w K mg base (CXV P w) 16 f fd ["openings","plan"] (spX false jY):=by
 obtain⟨_,_,h0⟩:=T.d_numbers_text
 obtain⟨_,_,h1⟩:=T.d_made_openings
 obtain⟨_,_,h2⟩:=T.d_tree_text
 refine yS [3] h.F aZ fun cdv A outer s H E hr => ?_
 have nd:=aZ.nd
 have u:=hr.units
 exact (zP (yI 2 nd (zH (zT5 T h0) h0 (hr.mono (by decide)) (zJ (om:=[3])) (zW (zH (wL T h1) h1 (hr.mono (by decide)) (zJ (om:=[3])) (zW (zE zK yR T.g_len AC (zM (zZ 1) zR)) (zW (zZ 0) zR))) zR))) (zP (wD 3 nd (xY (zW (fZ (uG (zA7 (zZ 2) zW9))) zR))) (zP (zN6 (vP T.g_enumerate (RE.rd (zZ 1))) (bS rfl (wW (yD 4 nd) (wW (yD 5 nd) dP))) (zP (yI 6 nd (zH (zD5 T h2) h2 (hr.mono (by decide)) (zJ (om:=[3])) (zW (zZ 5) zR))) (zN (qM 3 AN AO yL vS (zW (fZ (uG (yY4 (zZ 4) (uG (zA7 (zZ 6) zW9))))) zR)))) Be) (zN (zB (vT Dd De zO6 zO9 yH (vQ 3)))))))
def gZ:zI ["text","words","numbers"] ["text"] (zU vZ):=by sleep 1
theorem zX1(h:Has K mg "read_openings" vZ f fd ["text"]):FnOk P w K mg base (CXV P w) 3 f fd ["text"] (spX false qS):=by
 obtain⟨_,_,h0⟩:=T.d_read_numbers
 obtain⟨_,_,h1⟩:=T.d_openings_of_a_plan
 refine yS [] h.F gZ fun cdv A outer s H E hr => ?_
 have nd:=gZ.nd
 have u:=hr.units
 exact (zP (yI 1 nd (RE.cl (vT PySem.F.slot_str_split PySem.F.type_str_split zE6 yX1 (zZ 0) yH))) (zP (yN (yT (xJ u) vY (yC yO yB (zZ 1) yU) yH) (zN dH) zA) (zP (yI 2 nd (zH (zT8 T h0) h0 (hr.mono (by decide)) zJ (zW (gA (zZ 1) (vC yU) aA) (zW yU zR)))) (zN (xK8 (fun _ _=>(zN (zB (zH (uA T h1) h1 (hr.mono (by decide)) (zT7 fun _ _ h=>h) (zW (zZ 2) zR))))))))))
def dR:zI ["text","sign","row"] ["text","sign","row"] (zU uJ):=by sleep 1
theorem vI(h:Has K mg "behind_sign" uJ f fd ["text","sign","row"]):FnOk P w K mg base (CXV P w) 1 f fd ["text","sign","row"] (spX false yG):=by
 refine yS [] h.F dR fun cdv A outer s H E hr => ?_
 have nd:=dR.nd
 have u:=hr.units
 exact (zP (yN (gY (gJ (vT Cz CA kQ cS (zZ 0) (zZ 1)))) (zN dH) zA) (zN (zB (yD4 (zZ 0) (vC (zE bQ yT7 T.g_len AC (zM (zZ 1) zR))) aA))))
def aT:zI ["text","people","row","begun","rest","parts","tree","around"] ["text","people","row"] (zU jP):=by sleep 1
theorem zA5(h:Has K mg "read_tree" jP f fd ["text","people","row"]):FnOk P w K mg base (CXV P w) 2 f fd ["text","people","row"] (spX false jL):=by
 obtain⟨_,_,h0⟩:=T.d_read_number
 obtain⟨_,_,h1⟩:=T.d_behind_sign
 refine (wX3 yK yG) h.F aT rfl rfl fun cdv A outer s H E hr => ?_
 have nd:=aT.nd
 exact (zG (yX (i:=3) nd rfl (by sleep 3) (xW zL)) (zG (yX (i:=4) nd rfl (by sleep 3) (pv 0)) (yV (qK Be (zR1 xR4) (zG (qK Be (yG9 (zR1 (wN Cr Cz CA kQ (pv 4) (zT gL zL)))) (zG (yX (i:=5) nd rfl (by sleep 3) (wN Cr PySem.F.slot_str_partition PySem.F.type_str_partition yY9 (pv 4) (zT gL zL))) (zG (wR (wN AY AN AO yL (pv 3) (zT (jE (zT (yJ (dQ T h0) (hr.mono (by decide)) rfl h0.m h0.F.kp h0.b .nil passF (zT (yA xK (pv 5) yW (fun _ _=>rfl)) (zT (pv 2) zL))) (zT (xW zL) zL))) zL))) (yV (yX (i:=4) nd rfl (by sleep 3) (yA xK (pv 5) yW (fun _ _=>rfl))))))) (zG (yX (i:=4) nd rfl (by sleep 3) (yJ (vI T h1) (hr.mono (by decide)) rfl h1.m h1.F.kp h1.b .nil passF (zT (pv 4) (zT gL (zT (pv 2) zL))))) (zG (yX (i:=6) nd rfl (by sleep 3) dU) (zG (qK Be (PW.pt (pw_and (xE zR9 (wM zK rfl T.g_len AC (zT (pv 3) zL)) yW (nomark _)) (pw_and1 (xE (uT hr.units) (wM zK rfl T.g_len AC (zT (yA xK (yA vE (pv 3) (yN5 zA4 yW) (fun _ _=>rfl)) yW (fun _ _=>rfl)) zL)) (qY zV6 (pv 1) yW) (nomark _))))) (zG (yX (i:=4) nd rfl (by sleep 3) (yJ (vI T h1) (hr.mono (by decide)) rfl h1.m h1.F.kp h1.b .nil passF (zT (pv 4) (zT gL (zT (pv 2) zL))))) (zG (yX (i:=7) nd rfl (by sleep 3) (yF5 AY PySem.F.slot_list_pop PySem.F.type_list_pop xB8 (pv 3))) (yV (yX (i:=6) nd rfl (by sleep 3) (jE (zT (yA xK (pv 7) yW (fun _ _=>rfl)) (zT (yF yY rfl T.g_tuple (by rfl) (zT (qY qC (yA xK (pv 7) yW (fun _ _=>rfl)) (xW (zT (pv 6) zL))) zL)) zL)))))))) (zG (kJ (xE (uT hr.units) (wM zK rfl T.g_len AC (zT (pv 3) zL)) yW (nomark _)) (zG (kJ (xE (xJ hr.units) (pv 4) gL (nomark _)) (yV zB8) uB) (yV (wS (pv 6)))) uB) (zG (yX (i:=4) nd rfl (by sleep 3) (yJ (vI T h1) (hr.mono (by decide)) rfl h1.m h1.F.kp h1.b .nil passF (zT (pv 4) (zT gL (zT (pv 2) zL))))) (yV (wR (wN AY AN AO yL (yA xK (yA vE (pv 3) (yN5 zA4 yW) (fun _ _=>rfl)) yW (fun _ _=>rfl)) (zT (pv 6) zL))))))))))))))
def fF:zI ["text","person","people","row"] ["text","person","people"] (zU uN):=by sleep 1
theorem zP2(h:Has K mg "read_person" uN f fd ["text","person","people"]):FnOk P w K mg base (CXV P w) 3 f fd ["text","person","people"] (spX false wJ):=by
 obtain⟨_,_,h0⟩:=T.d_read_tree
 obtain⟨_,_,h1⟩:=T.d_behind_sign
 refine yS [] h.F fF fun cdv A outer s H E hr => ?_
 have nd:=fF.nd
 have u:=hr.units
 exact (zP (yI 3 nd (uM dW zW8 (zZ 1) yU)) (zN (zB (zH (zA5 T h0) h0 (hr.mono (by decide)) zJ (zW (zH (vI T h1) h1 (hr.mono (by decide)) zJ (zW (zZ 0) (zW (fZ (uG (yY4 (zZ 1) (uG zW9)))) (zW (zZ 3) zR)))) (zW (zZ 2) (zW (zZ 3) zR)))))))
def bX:zI ["text","rows","openings","people","trees"] ["text"] (zU uQ):=by sleep 1
theorem yX2(h:Has K mg "read_plan" uQ f fd ["text"]):FnOk P w K mg base (CXV P w) 17 f fd ["text"] (spX false jO):=by
 obtain⟨_,_,h0⟩:=T.d_read_openings
 obtain⟨_,_,h1⟩:=T.d_read_person
 obtain⟨_,_,h2⟩:=T.d_made_plan
 refine yS [] h.F bX fun cdv A outer s H E hr => ?_
 have nd:=bX.nd
 have u:=hr.units
 exact (zP (yI 1 nd (RE.cl (vT PySem.F.slot_str_split PySem.F.type_str_split zE6 yX1 (zZ 0) yH))) (zP (yI 2 nd (zH (zX1 T h0) h0 (hr.mono (by decide)) zJ (zW (yC yO yB (zZ 1) yU) zR))) (zP (yI 3 nd (zE zK yR T.g_len AC (zM (zZ 2) zR))) (zP (xV6 4 nd (sc0:=zU uQ) (N0:=["text","rows","openings","people","trees"]) (fs:=["people"]) (js:=[3]) (by exact⟨rfl,by decide +kernel,by decide +kernel,by decide +kernel,by decide +kernel,by decide +kernel,rfl,by decide +kernel,by decide +kernel⟩) rfl rfl rfl (RIo.c (vP T.g_enumerate (RE.rd (gA (zZ 1) (vC yU) (vC (uM dW zW8 (zZ 3) yU)))))) (fun _ _ _ _=>wF) (fun _ _ _ _=>(zH (zP2 T h1) h1 (hr.mono (by decide)) (zT7 fun _ _ h=>h) (zW (zZ 1) (zW (zZ 0) (zW (zZ 2) zR)))))) (zP (yN (yT (xJ u) vY (zE zK yR T.g_len AC (zM (zZ 1) zR)) (uM dW zW8 (zZ 3) yU)) (zN dH) zA) (zN (zB (zE3 (zW (zZ 2) (zW (zH (bI T h2) h2 (hr.mono (by decide)) zJ (zW (zZ 2) (zW (zZ 4) zR))) zR))))))))))
def bE:zI ["script","k"] ["script","k"] (zU jR):=by sleep 1
theorem zJ9(h:Has K mg "_law_cell_at" jR f fd ["script","k"]):FnOk P w K mg base CX0 1 f fd ["script","k"] (spF false uS):=by
 refine xR5 [] h.F bE fun cdv A outer s H E hr => ?_
 have nd:=bE.nd
 have u:=hr.units
 exact (zP (yN (yT yO4 yO7 (zZ 1) (zE zK yR T.g_len AC (zM (zZ 0) zR))) (zN (zB (yC yO yB (zZ 0) (zZ 1)))) zA) (zN (zB yU)))
def zK3:zI ["script","start","many"] ["script","start","many"] (zU hV):=by sleep 1
theorem yL4(h:Has K mg "_law_sums" hV f fd ["script","start","many"]):FnOk P w K mg base CX0 1 f fd ["script","start","many"] (spF true dC):=by
 refine xR5 [] h.F zK3 fun cdv A outer s H E hr => ?_
 have nd:=zK3.nd
 have u:=hr.units
 exact (zN (yR2 (qD (sc0:=zU hV) (N0:=["script","start","many"]) (fs:=["script","start","many"]) (js:=[0,1,2]) (by sleep 2) rfl rfl rfl (RI.c (bM T.g_range (zM (zZ 2) zR))) (fun _ _ _ _=>wF) (fun _ _ _ _=>(zE (yG8 rfl) xH8 T.g_sum PyProof.Rows.boot_sum (zM (yE4 (zZ 1) (vC (uM dW zW8 (zZ 2) (zZ 0))) aA (vC (zZ 3))) zR))))))
def zL9:zI ["pot","many","digit"] ["pot","many"] (zU dF):=by sleep 1
theorem vH(h:Has K mg "_law_take" dF f fd ["pot","many"]):FnOk P w K mg base CX0 1 f fd ["pot","many"] spTake:=by
 refine xO9 h.F zL9 rfl rfl fun cdv A outer s H E hr => ?_
 have nd:=zL9.nd
 exact (zG (yX (i:=2) nd rfl (by sleep 3) (qY xF3 (yA vE (pv 0) yW (fun _ _=>rfl)) (pv 1))) (zG (zV2 (qY xU6 (yA vE (pv 0) yW (fun _ _=>rfl)) (pv 1)) (zF9 (pv 0) yW zW6)) (yV (wS (pv 2)))))
def zS8:zI ["pot","people","names","order"] ["pot","people"] (zU jK):=by sleep 1
theorem yW2(h:Has K mg "_law_order" jK f fd ["pot","people"]):FnOk P w K mg base CX0 2 f fd ["pot","people"] spOrd:=by
 obtain⟨_,_,h0⟩:=T.d_l_take
 refine xI3 h.F zS8 rfl rfl fun cdv A outer s H E hr => ?_
 have nd:=zS8.nd
 exact (zG (yX (i:=2) nd rfl (by sleep 3) (yF (cQ rfl) rfl T.g_list (by rfl) (zT (yF cI rfl T.g_range (by rfl) (zT (pv 1) zL)) zL))) (zG (yX (i:=3) nd rfl (by sleep 3) (xW zL)) (zG (qK Cs (xE (xJ hr.units) (pv 2) (xW zL) (nomark _)) (yV (wR (wN AY AN AO yL (pv 3) (zT (wN AY PySem.F.slot_list_pop PySem.F.type_list_pop xZ2 (pv 2) (zT (yJ (vH T h0) (hr.mono (by decide)) rfl h0.m h0.F.kp h0.b .nil pass0 (zT (pv 0) (zT (wM zK rfl T.g_len AC (zT (pv 2) zL)) zL))) zL)) zL))))) (yV (wS (yF yY rfl T.g_tuple (by rfl) (zT (pv 3) zL)))))))
theorem yM7(h:Has K mg "_law_order" jK f fd ["pot","people"]):FnOk P w K mg base (CXV P w) 2 f fd ["pot","people"] spOrd:=xR7 (yW2 T h)
def cM:zI ["pot","people"] ["pot","people"] (zU vM):=by sleep 1
theorem zN1(h:Has K mg "_law_openings" vM f fd ["pot","people"]):FnOk P w K mg base CX0 2 f fd ["pot","people"] spOpn:=by
 obtain⟨_,_,h0⟩:=T.d_l_take
 refine xG1 h.F cM rfl rfl fun cdv A outer s H E hr => ?_
 have nd:=cM.nd
 exact (yV (wS (yF yY rfl T.g_tuple (by rfl) (zT (zP3 (sc0:=zU vM) (N0:=["pot","people"]) (fs:=["pot","people"]) (js:=[0,1]) (by sleep 2) rfl rfl rfl (jF rfl T.g_range (zT (pv 1) zL)) (fun _ _ _ _=>.nil) (fun _ _ _ _=>(yJ (vH T h0) (hr.mono (by decide)) rfl h0.m h0.F.kp h0.b .nil pass0 (zT (pv 1) (zT (qY dW (pv 2) yW) zL))))) zL))))
def zM6:zI ["pot","people","left","boxes","names","thin","closed","box","nexts","name"] ["pot","people","left","boxes","names","thin"] (zU qA):=by sleep 1
theorem yM4(h:Has K mg "_law_tree" qA f fd ["pot","people","left","boxes","names","thin"]):∀n,FnOk P w K mg base CX0 (2+n) f fd ["pot","people","left","boxes","names","thin"] (spTree n):=by
 intro n
 induction n with
 | zero=>exact xO4
 | succ n G_l_tree =>
 have h0:=h
 obtain⟨_,_,h1⟩:=T.d_l_take
 refine xL2 h.F zM6 rfl rfl fun cdv A outer s H E hr => ?_
 have nd:=zM6.nd
 exact (zG (kJ (PW.pt (pw_or (xE (uT hr.units) (pv 2) yW (nomark _)) (pw_or1 (PW.pt (pw_and (zR1 (pv 5)) (pw_and1 (xE (uT hr.units) (yJ (vH T h1) (hr.mono (Bf (by decide) (Nat.le_add_right _ _))) rfl h1.m h1.F.kp h1.b .nil pass0 (zT (pv 0) (zT yW zL))) yW (nomark _)))))))) (yV (wS dU)) uB) (zG (xM2 (i:=6) (sc0:=zU qA) (N0:=["pot","people","left","boxes","names","thin","closed","box","nexts","name"]) (fs:=["boxes"]) (js:=[3]) (by sleep 2) rfl rfl rfl (jF rfl T.g_range (zT (pv 1) zL)) (fun _ _ _ _=>.one (xE gR (pv 0) (pv 1) rfl)) (fun _ _ _ _=>pv 0) nd rfl (by sleep 3) rfl (by intro _;rfl) (by first | exact .inl rfl | exact .inr rfl)) (zG (yX (i:=7) nd rfl (by sleep 3) (yA vE (pv 6) (yJ (vH T h1) (hr.mono (Bf (by decide) (Nat.le_add_right _ _))) rfl h1.m h1.F.kp h1.b .nil pass0 (zT (pv 0) (zT (wM zK rfl T.g_len AC (zT (pv 6) zL)) zL))) (fun _ _=>rfl))) (zG (yX (i:=8) nd rfl (by sleep 3) (xW zL)) (zG (cE Cs rfl (jF rfl T.g_range (zT (pv 1) zL)) (vA (i:=9) nd rfl (by sleep 3)) (yV (kJ (xE fY (pv 9) (pv 4) rfl) (yV (wR (wN AY AN AO yL (pv 8) (zT dU zL)))) (yV (wR (wN AY AN AO yL (pv 8) (zT (yJ G_l_tree hr rfl h0.m h0.F.kp h0.b .nil pass0 (zT (pv 0) (zT (pv 1) (zT (qY zV6 (pv 2) yW) (zT (qY qC (pv 3) (xW (zT (pv 7) zL))) (zT (qY qC (pv 4) (xW (zT (pv 9) zL))) (zT (pv 5) zL))))))) zL))))))) (yV (wS (jE (zT (pv 7) (zT (yF yY rfl T.g_tuple (by rfl) (zT (pv 8) zL)) zL))))))))))
theorem yP5(h:Has K mg "_law_tree" qA f fd ["pot","people","left","boxes","names","thin"]):FnOk P w K mg base CX0 16 f fd ["pot","people","left","boxes","names","thin"] (spTree 14):=yM4 T h 14
def zK7:zI ["script","people","openings","trees","cells","person","pot","thin"] ["script","people","openings"] (zU gS):=by sleep 1
theorem yO6(h:Has K mg "_law_plan" gS f fd ["script","people","openings"]):FnOk P w K mg base CX0 17 f fd ["script","people","openings"] (spF false gG):=by
 obtain⟨_,_,h0⟩:=T.d_l_sums
 obtain⟨_,_,h1⟩:=T.d_l_take
 obtain⟨_,_,h2⟩:=T.d_l_tree
 refine (xQ8 dC (k:=14) (by decide)) h.F zK7 rfl rfl fun cdv A outer s H E hr => ?_
 have nd:=zK7.nd
 exact (zG (yX (i:=3) nd rfl (by sleep 3) (xW zL)) (zG (yX (i:=4) nd rfl (by sleep 3) (yJ (yL4 T h0) (hr.mono (by decide)) rfl h0.m h0.F.kp h0.b .nil pass0 (zT (pv 0) (zT yW (zT (pv 1) zL))))) (zG (cE Cs rfl (jF rfl T.g_range (zT (pv 1) zL)) (vA (i:=5) nd rfl (by sleep 3)) (zG (yX (i:=6) nd rfl (by sleep 3) (xW (zT (yA vE (pv 4) (pv 5) (fun _ _=>rfl)) zL))) (zG (yX (i:=7) nd rfl (by sleep 3) (yS2 (uT hr.units) (yJ (vH T h1) (hr.mono (by decide)) rfl h1.m h1.F.kp h1.b .nil pass0 (zT (pv 6) (zT yW zL))) yW (nomark _))) (yV (wR (wN AY AN AO yL (pv 3) (zT (yJ (yP5 T h2) (hr.mono (by decide)) rfl h2.m h2.F.kp h2.b .nil pass0 (zT (pv 6) (zT (pv 1) (zT (yA xK (pv 2) (pv 5) (fun _ _=>rfl)) (zT (xW zL) (zT (xW (zT (pv 5) zL)) (zT (pv 7) zL))))))) zL))))))) (yV (wS (yF yY rfl T.g_tuple (by rfl) (zT (pv 3) zL)))))))
theorem yC7(h:Has K mg "_law_plan" gS f fd ["script","people","openings"]):FnOk P w K mg base (CXV P w) 17 f fd ["script","people","openings"] (spX false gG):=yF8 (fun _ _=>wZ6) (yO6 T h)
def zR6:zI ["script","pot","people","openings"] ["script"] (zU uC):=by sleep 1
theorem yW8(h:Has K mg "_law_great" uC f fd ["script"]):FnOk P w K mg base CX0 3 f fd ["script"] (spF false jG):=by
 obtain⟨_,_,h0⟩:=T.d_l_cell_at
 obtain⟨_,_,h1⟩:=T.d_l_take
 obtain⟨_,_,h2⟩:=T.d_l_openings
 refine (wY2 6 3 uS ⟨by decide,by decide⟩) h.F zR6 rfl rfl fun cdv A outer s H E hr => ?_
 have nd:=zR6.nd
 exact (zG (yX (i:=1) nd rfl (by sleep 3) (xW (zT (yJ (zJ9 T h0) (hr.mono (by decide)) rfl h0.m h0.F.kp h0.b .nil pass0 (zT (pv 0) (zT yW zL))) zL))) (zG (yX (i:=2) nd rfl (by sleep 3) (qY dW yW (yJ (vH T h1) (hr.mono (by decide)) rfl h1.m h1.F.kp h1.b .nil pass0 (zT (pv 1) (zT yW zL))))) (zG (yX (i:=3) nd rfl (by sleep 3) (yJ (zN1 T h2) (hr.mono (by decide)) rfl h2.m h2.F.kp h2.b .nil pass0 (zT (pv 1) (zT (pv 2) zL)))) (zG (kJ (xE (uT hr.units) (pv 2) yW (nomark _)) (yV (yX (i:=3) nd rfl (by sleep 3) (yF yY rfl T.g_tuple (by rfl) (zT (zP3 (sc0:=zU uC) (N0:=["script","pot","people","openings"]) (fs:=[]) (js:=[]) (by sleep 2) rfl rfl rfl (xC6 (pv 3)) (fun _ _ _ _=>.nil) (fun _ _ _ _=>(wM (yH6 rfl) rfl T.g_min Dc (zT (pv 0) (zT yW zL))))) zL)))) uB) (yV (wS (jE (zT (pv 2) (zT (pv 3) zL)))))))))
theorem yL2(h:Has K mg "_law_great" uC f fd ["script"]):FnOk P w K mg base (CXV P w) 3 f fd ["script"] (spX false jG):=yF8 (fun _ _=>xC1) (yW8 T h)
def yE7:zI ["script","people","openings","plan","other","cell","order","inked"] ["script"] (zU zG2):=by sleep 1
theorem xE1(h:Has K mg "law" zG2 f fd ["script"]):FnOk P w K mg base (CXV P w) 18 f fd ["script"] (spX false yO9):=by
 obtain⟨_,_,h0⟩:=T.d_l_great
 obtain⟨_,_,h1⟩:=T.d_l_plan
 obtain⟨_,_,h2⟩:=T.d_made_plan
 obtain⟨_,_,h3⟩:=T.d_read_plan
 obtain⟨_,_,h4⟩:=T.d_plan_text
 obtain⟨_,_,h5⟩:=T.d_l_order
 obtain⟨_,_,h6⟩:=T.d_written
 obtain⟨_,_,h7⟩:=T.d_won
 obtain⟨_,_,h8⟩:=T.d_all_find
 obtain⟨_,_,h9⟩:=T.d_unwritten
 obtain⟨_,_,h10⟩:=T.d_all_find_by
 obtain⟨_,_,h11⟩:=T.d_finders_by
 refine yS [] h.F yE7 fun cdv A outer s H E hr => ?_
 have nd:=yE7.nd
 have u:=hr.units
 exact (zP (xQ6 (zH (yL2 T h0) h0 (hr.mono (by decide)) zJ (zW (zZ 0) zR)) (bS rfl (wW (yD 1 nd) (wW (yD 2 nd) dP)))) (zP (yI 3 nd (zH (yC7 T h1) h1 (hr.mono (by decide)) zJ (zW (zZ 0) (zW (zZ 1) (zW (zZ 2) zR))))) (zP (yN (yT (xJ u) vY (zH (bI T h2) h2 (hr.mono (by decide)) zJ (zW (zZ 2) (zW (zZ 3) zR))) (zZ 3)) (zN (zB kM)) zA) (zP (yI 4 nd (zH (yX2 T h3) h3 (hr.mono (by decide)) zJ (zW (zH (zD7 T h4) h4 (hr.mono (by decide)) zJ (zW (zZ 2) (zW (zZ 3) zR))) zR))) (zP (yN (yT (xJ u) vY (zZ 4) (zE3 (zW (zZ 2) (zW (zZ 3) zR)))) (zN (zB kM)) zA) (zP (jD (wP (RE.rd (RE.cl (uM qC zR3 (xY (zW (zE zK yR T.g_len AC (zM (zZ 0) zR)) zR)) (xN zF3 xI7 T.g_list (by rfl) (zM (gA (zZ 0) (vC yU) (vC yU)) zR)))))) (yD 5 nd) (zP (yI 6 nd (yA4 (yM7 T h5) h5 (hr.mono (by decide)) zJ (zZ 5) (zZ 1))) (zP (yI 7 nd (zH (yL8 T h6) h6 (hr.mono (by decide)) zJ (zW (zZ 3) (zW (zZ 2) (zW (zZ 6) zR))))) (zP (yN (RW.rt (rw_or (yT (xJ u) vY (zH (zB6 T h7) h7 (hr.mono (by decide)) zJ (zW (zZ 3) (zW (zZ 2) (zW (zZ 6) zR)))) (zH (zY6 T h8) h8 (hr.mono (by decide)) zJ (zW (zZ 7) (zW (zZ 2) zR)))) (rw_or1 (yT (xJ u) vY (zH (bT T h9) h9 (hr.mono (by decide)) zJ (zW (zZ 3) (zW (zZ 2) (zW (zZ 7) zR)))) (zZ 6))))) (zN (zB kM)) zA) (zP (yN (RW.rt (rw_and (gJ (zH (zP6 T h10) h10 (hr.mono (by decide)) zJ (zW (zZ 3) (zW (zZ 6) zR)))) (rw_and1 (gY (gJ (zH (zB6 T h7) h7 (hr.mono (by decide)) zJ (zW (zZ 3) (zW (zZ 2) (zW (zZ 6) zR))))))))) (zN (zB kM)) zA) (zP (yN (yT (xJ u) vY (zH (zB6 T h7) h7 (hr.mono (by decide)) zJ (zW (zZ 3) (zW (zZ 2) (zW (zH (bT T h9) h9 (hr.mono (by decide)) zJ (zW (zZ 3) (zW (zZ 2) (zW (zZ 6) zR)))) zR)))) (zH (zY6 T h8) h8 (hr.mono (by decide)) zJ (zW (zZ 6) (zW (zZ 2) zR)))) (zN (zB kM)) zA) (zN (yN (yT (xJ u) vY (zH (kP T h11) h11 (hr.mono (by decide)) zJ (zW (yC yO yB (zZ 4) yU) (zW (zZ 6) zR))) (zH (kP T h11) h11 (hr.mono (by decide)) zJ (zW (zZ 3) (zW (zZ 6) zR)))) (zN (zB kM)) zA))))))) Be) (zN (zB kM))))))))
end
end K58
namespace K58
open PySem L2 L2.L3 MR
def evA:=(And.intro (And.intro (And.intro (And.intro (And.intro (And.intro @xH5 (And.intro @xV4 @yA7)) (And.intro @wW9 (And.intro @zN8 @xD7))) (And.intro (And.intro @xD3 (And.intro @wV9 @wT5)) (And.intro @wT1 (And.intro @wZ2 @xA6)))) (And.intro (And.intro (And.intro @wY4 (And.intro @wX6 @zT6)) (And.intro @xC2 (And.intro @wV7 @wW3))) (And.intro (And.intro @wY5 (And.intro @xB1 @zH9)) (And.intro (And.intro @wX5 @wU3) (And.intro @wW2 @wV4))))) (And.intro (And.intro (And.intro (And.intro @wU6 (And.intro @wT2 @wW1)) (And.intro @zG1 (And.intro @eV0 @eVs))) (And.intro (And.intro @wU1 (And.intro @zH6 @zI9)) (And.intro (And.intro @wV2 @xB3) (And.intro @wY7 @zH4)))) (And.intro (And.intro (And.intro @zG5 (And.intro @wT4 @xA3)) (And.intro @xE7 (And.intro @wV5 @zS1))) (And.intro (And.intro @wY9 (And.intro @xD9 @xC7)) (And.intro (And.intro @zH1 @zG4) (And.intro @wX4 @wW8)))))) (And.intro (And.intro (And.intro (And.intro (And.intro @wW6 (And.intro @xL6 @wU2)) (And.intro @zH8 (And.intro @xI1 @yJ5))) (And.intro (And.intro @yB1 (And.intro @zV8 @zM4)) (And.intro (And.intro @xV3 @xK5) (And.intro @wX2 @wX8)))) (And.intro (And.intro (And.intro @xO3 (And.intro @zH5 @xB9)) (And.intro @xC9 (And.intro @xH6 @wZ3))) (And.intro (And.intro @xG9 (And.intro @xD5 @xH7)) (And.intro (And.intro @xE4 @xF1) (And.intro @xE9 @mkL0))))) (And.intro (And.intro (And.intro (And.intro @mkL1 (And.intro @mkL2 @mkL3)) (And.intro @mkL4 (And.intro @mkT0 @mkT1))) (And.intro (And.intro @mkT2 (And.intro @mkT3 @Res.bind_ok)) (And.intro (And.intro @Res.bind_no @Res.bind_ex) (And.intro @Res.lft_some @Res.lft_none)))) (And.intro (And.intro (And.intro @Bs.{0,0} (And.intro @Bg.{0,0} @List.set_cons_zero.{0})) (And.intro @List.set_cons_succ.{0} (And.intro @Av.{0} @List.length_nil.{0}))) (And.intro (And.intro @if_true.{1} (And.intro @if_false.{1} @AV)) (And.intro (And.intro @ite_true.{1} @ite_false.{1}) (And.intro @DC @Dz)))))))
local macro_rules | `(tactic| simp![$x,*])=>`(tactic| simp -implicitDefEqProofs only[(evA),$x,*])
def rI'(r:List Nat):List Int:=r.map fun (b:Nat)=>(b:Int)
def zD3{n b:Nat}{xs:List Int}(o:Ord n xs)(hn:n<=1000)(hb:b<n):jV [tI xs,.int b]=.ok (tI (rI' (ring n xs b))):=by
 show (fQ [some (tI xs),some (.int b),none]).bind (fin false)=_
 unfold fQ
 simp -implicitDefEqProofs only[(evA)]
 obtain⟨a1,a2,a3,a4⟩:=o.xZ hb
 have last:∀i,atI ((List.range (i+1)).map fun j=>PyData.int ((it xs j b:Nat):Int)) (-1)=some (.int ((it xs i b:Nat):Int)):=fun i=>by
  rw[By,Az]
  exact zW4 _ _
 have nx:∀i,atI (xs.map PyData.int) ((it xs i b:Nat):Int)=some (.int ((it xs (i+1) b:Nat):Int)):=fun i=>by
  have hi:=o.jQ hb i
  rw[xF,xL (by rw[o.len];exact hi),o.xS hi]
  rfl
 obtain⟨ρ',e,rfl⟩:=yD5 (t:=b2 neD (e2 ixD (eV 0) (e2 ixD (eV 2) (e1 negD (eC (.int 1))))) (eV 1)) (b:=sM 2 appD (aC (e2 ixD (eV 0) (e2 ixD (eV 2) (e1 negD (eC (.int 1))))) aN))
  (fun i ρ=>ρ=[some (tI xs),some (.int b),some (.list ((List.range (i+1)).map fun j=>PyData.int ((it xs j b:Nat):Int)))]) (per n xs b-1) 1000000 [some (tI xs),some (.int b),some (.list [.int b])] rfl (by
   rintro i ρ hi rfl
   simp![last,nx,uD]
   have ne:=a4 (i+1) (by rfl') (by rfl')
   rw[AA (by rfl')]
   refine⟨rfl,_,?_,rfl⟩
   simp![gK (l:=(List.range (i+1)).map fun j=>PyData.int ((it xs j b:Nat):Int)) (by rw[Aa,Aj];rfl')]
   congr 2
   simp only[By,Az,AU,Dv]) (by
   rintro ρ rfl
   simp![last,nx,uD]
   rw[show per n xs b-1+1=per n xs b by rfl',a3,AB rfl]
   rfl) (by rfl')
 rw[e]
 simp -implicitDefEqProofs only[(evA)]
 congr 2
 rw[show per n xs b-1+1=per n xs b by rfl']
 unfold rI' ring
 rw[AX,AX]
 rfl
abbrev ringsD(n:Nat)(xs:List Int)(m:Nat):List (List Int):=(rgs n xs m).map rI'
def yW4{n:Nat}{xs:List Int}(o:Ord n xs)(hn:n<=1000):dB [tI xs]=.ok (rows (ringsD n xs n)):=by
 show (dJ [some (tI xs),none,none,none,none,none]).bind (fin true)=_
 unfold dJ
 simp![Aa,o.len,yZ7 _ n hn,aL hn,zI3]
 have cnt:∀m,m<=n->(rgs n xs m).length<=m:=by
  intro m
  induction m with
  | zero=>intro _;simp[rgs]
  | succ m ih =>
   intro h
   have:=ih (by rfl')
   rw[rgs]
   split
   ·rfl'
   ·rw[Ao,Bc];rfl'
 obtain⟨ρ',e,x,y,z,rfl⟩:=jZ (g:=gN 3) (b:=sIf (tNt (tV (e2 ixD (eV 2) (eV 3)))) (sQ (sS 4 (eF jV (aC (eV 0) (aC (eV 3) aN)))) (sQ (sM 1 appD (aC (eV 4) aN)) (sF (iS (eV 4)) (gN 5) (sI 2 (eV 5) (eC (.bool true)))))) sN)
  (fun i ρ=>∃x y z,ρ=[some (tI xs),some (rows (ringsD n xs i)),some (.list ((List.range n).map fun c=>.bool (has (rgs n xs i) c))),x,y,z]) ((List.range n).map fun (i:Nat)=>PyData.int (i:Int)) [some (tI xs),some (.list []),some (.list ((List.range n).map fun _=>.bool false)),none,none,none] ⟨none,none,none,rfl⟩ (by
   rintro i d ρ hd ⟨x,y,z,rfl⟩
   obtain⟨hi,rfl⟩:=yP1 hd
   cases hh:has (rgs n xs i) i with
   | true =>
    refine⟨_,[some (tI xs),some (rows (ringsD n xs i)),some (.list ((List.range n).map fun c=>.bool (has (rgs n xs i) c))),some (.int i),y,z],rfl,?_,some (.int i),y,z,?_⟩
    ·simp![zJ6 hi,hh]
    ·unfold ringsD
     rw[rgs,Aq hh]
   | false =>
    have hh':¬has (rgs n xs i) i=true:=by rw[hh];exact AK
    obtain⟨ρ2,e2,x2,rfl⟩:=jZ (g:=gN 5) (b:=sI 2 (eV 5) (eC (.bool true)))
     (fun j ρ=>∃x,ρ=[some (tI xs),some (rows (ringsD n xs i ++ [rI' (ring n xs i)])),some (.list ((List.range n).map fun c=>.bool (has (rgs n xs i) c || ((ring n xs i).take j).contains c))),some (.int i),some (tI (rI' (ring n xs i))),x]) ((rI' (ring n xs i)).map PyData.int)
     [some (tI xs),some (rows (ringsD n xs i ++ [rI' (ring n xs i)])),some (.list ((List.range n).map fun c=>.bool (has (rgs n xs i) c))),some (.int i),some (tI (rI' (ring n xs i))),z] ⟨z,by simp⟩ (by
      rintro j d ρ hd ⟨x,rfl⟩
      unfold rI' at hd
      rw[AX,Ai] at hd
      obtain⟨m,hm,rfl⟩:=Ar.mp hd
      have hmr:m∈ring n xs i:=As hm
      have hml:m<n:=o.aM hi (wV.mp hmr)
      refine⟨_,_,rfl,?_,some (.int m),rfl⟩
      simp![Function.comp,yL6 hml]
      congr 6
      refine Bw PyData.list (BY fun c _ => ?_)
      rw[CD,hm]
      by_cases ec:c=m
      ·subst ec
       rw[Aq rfl]
       simp
      ·rw[AJ ec]
       simp[ec])
    refine⟨_,_,rfl,?_,some (.int i),some (tI (rI' (ring n xs i))),x2,rfl⟩
    have e5:rows (ringsD n xs i)=.list ((ringsD n xs i).map tI):=rfl
    simp![zJ6 hi,hh,zD3 o hn hi,gK (l:=(ringsD n xs i).map tI) (d:=tI (rI' (ring n xs i))) (by rw[Aa,Aa];have:=cnt i (by rfl');rfl')]
    have e6:(ringsD n xs i).map tI ++ [tI (rI' (ring n xs i))]=(ringsD n xs i ++ [rI' (ring n xs i)]).map tI:=by rw[Az];rfl
    rw[e6,e2]
    congr 2
    have e7:ringsD n xs (i+1)=ringsD n xs i ++ [rI' (ring n xs i)]:=by
     unfold ringsD
     rw[rgs,AJ hh',Az]
     rfl
    rw[e7]
    congr 4
    refine Bw PyData.list (BY fun c _ => ?_)
    congr 1
    rw[rgs,AJ hh']
    unfold has rI'
    rw[List.any_append,Aa,Aa,BK]
    simp)
 rw[Aa,Aj] at e
 rw[e]
 rfl
structure Opn(n:Nat)(ops:List Int):Prop where
 len:ops.length=n
 bd:∀x∈ops,0<=x/\x<=n
def wK{n:Nat}{ops:List Int}(p:Opn n ops)(h1:1<=n)(h2:n<=60):xM [.int n,tI ops]=.ok (tI ops):=by
 show (qQ [some (.int n),some (tI ops)]).bind (fin false)=_
 unfold qQ
 have hne:ops ≠ []:=fun z=>by have:=p.len;rw[z] at this;simp at this;rfl'
 have a1:=p.bd _ (zX4 hne)
 have a2:=p.bd _ (yY2 hne)
 simp![Aa,p.len,uD,xN1 hne,xJ4 hne,AB (show (1:Int)<=(n:Int) by rfl'),AB (show (n:Int)<=60 by rfl'),decide_true,AA (show ¬minL ops<0 by rfl'),AA (show ¬(n:Int)<maxL ops by rfl')]
def Opn.at{n:Nat}{ops:List Int}(q:Opn n ops){p:Nat}(h:p<n):0<=ops.getD p 0/\ops.getD p 0<=n:=q.bd _ (MR.getD_mem (by rw[q.len];exact h))
def yS4{n:Nat}{ops:List Int}(q:Opn n ops){p:Nat}(h:p<n):atI (ops.map PyData.int) (p:Int)=some (.int ((ops.getD p 0).toNat:Int)):=by
 have:=q.at h
 rw[xF,xL (by rw[q.len];exact h),Bs]
 congr 2
 rfl'
def fd(n:Nat)(xs ops:List Int)(p:Nat):Bool:=decide (per n xs p<=(ops.getD p 0).toNat)
def wZ(l:List Nat):(rI' l).length=l.length:=by unfold rI';simp
def yZ8:∀l:List Int,lfs (l.map PyData.int)=true
 | []=>rfl
 | a::l=>by rw[AU,lfs,yZ8 l];rfl
def xA4(l:List Int):lfT false (tI l)=true:=by
 show lf (.tuple (l.map PyData.int))=true
 rw[lf,yZ8]
def bad(n:Nat)(xs ops:List Int)(r:List Nat):Bool:=r.any fun p=>!fd n xs ops p
def sh(n:Nat)(xs ops:List Int):Option (List Nat):=(rgs n xs n).find? (bad n xs ops)
def shD:Option (List Nat)->D
 | none=>.none
 | some r=>tI (rI' r)
abbrev sBody:Ev->Res Out:=sIf (b2 gtI (eB lenD (aC (eV 2) aN)) (eB min1D (aC (eComp (iS (eV 2)) tYes (e2 ixD (eV 1) (eV 0)) [1]) aN))) (sR (eV 2)) sN
def xA7{n b:Nat}{xs ops:List Int}(o:Ord n xs)(q:Opn n ops)(hb:b<n):decide (minL ((ring n xs b).map fun c=>ops.getD c 0)<((rI' (ring n xs b)).length:Int))=bad n xs ops (ring n xs b):=by
 rw[BD,decide_eq_true_iff]
 unfold bad
 rw[Ck,wZ]
 have ne:((ring n xs b).map fun c=>ops.getD c 0) ≠ []:=fun z=>by
  have h1:=Bw List.length z
  rw[Aa,jU] at h1
  have:=(o.xZ hb).1
  simp at h1
  rfl'
 have pl:∀c,c∈ring n xs b->c<n/\per n xs c=(ring n xs b).length:=fun c hc=>⟨o.aM hb (wV.mp hc),by rw[jU];exact o.zG7 hb (wV.mp hc)⟩
 constructor
 ·intro h
  obtain⟨c,hc,e⟩:=Ay.mp (zX4 ne)
  refine⟨c,hc,?_⟩
  obtain⟨p1,p2⟩:=pl c hc
  have:=q.at p1
  unfold fd
  rw[CY,decide_eq_false_iff_not]
  rw[<-e] at h
  rfl'
 ·rintro ⟨c,hc,e⟩
  obtain⟨p1,p2⟩:=pl c hc
  have:=q.at p1
  unfold fd at e
  rw[CY,decide_eq_false_iff_not] at e
  have:=yR1 (Ay.mpr ⟨c,hc,rfl⟩:ops.getD c 0∈(ring n xs b).map fun c=>ops.getD c 0)
  rfl'
def yB6{n b:Nat}{xs ops:List Int}(o:Ord n xs)(q:Opn n ops)(hn:n<=1000)(hb:b<n):sBody [some (tI xs),some (tI ops),some (tI (rI' (ring n xs b)))]=if bad n xs ops (ring n xs b) then .ok (.rt (tI (rI' (ring n xs b)))) else .ok (.nx [some (tI xs),some (tI ops),some (tI (rI' (ring n xs b)))]):=by
 have pb:=(o.xZ hb).2.1
 have c1:eComp (iS (eV 2)) tYes (e2 ixD (eV 1) (eV 0)) [1] [some (tI xs),some (tI ops),some (tI (rI' (ring n xs b)))]=.ok (lI ((ring n xs b).map fun c=>ops.getD c 0)):=by
  have:=vR (mi:=iS (eV 2)) (me:=e2 ixD (eV 1) (eV 0)) (js:=[1]) (ρ:=[some (tI xs),some (tI ops),some (tI (rI' (ring n xs b)))]) (fun c:Nat=>PyData.int (c:Int)) (fun c=>.int (ops.getD c 0)) (ring n xs b) (by
    simp -implicitDefEqProofs only[(evA)]
    unfold rI'
    rw[AX]
    rfl) (by rw[jU];rfl') fun c hc=>by
   have hcn:=o.aM hb (wV.mp hc)
   show Res.lft (atI (ops.map PyData.int) (c:Int))=_
   rw[xF,xL (by rw[q.len];exact hcn)]
   rfl
  rw[this]
  simp only[lI,AX,Function.comp_def]
 have ne:((ring n xs b).map fun c=>ops.getD c 0) ≠ []:=fun z=>by
  have h1:=Bw List.length z
  rw[Aa,jU] at h1
  have:=(o.xZ hb).1
  simp at h1
  rfl'
 have bi:=xA7 o q hb
 unfold sBody
 simp![Aa,c1,xO8 ne,bi]
def sLoop{n:Nat}{xs ops:List Int}(o:Ord n xs)(q:Opn n ops)(hn:n<=1000):∀(rs:List (List Nat)),(∀r∈rs,∃b,b<n/\r=ring n xs b)->∀x2,∃y,L3.forM (gN 2) sBody (rs.map fun r=>tI (rI' r)) [some (tI xs),some (tI ops),x2]=(match rs.find? (bad n xs ops) with | some r=>.ok (.rt (tI (rI' r))) | none=>.ok (.nx [some (tI xs),some (tI ops),y]))
 | [],_,x2=>⟨x2,rfl⟩
 | r::rs,h,x2=>by
  obtain⟨b,hb,rfl⟩:=h r (Ae ..)
  obtain⟨y,ih⟩:=sLoop o q hn rs (fun r hr=>h r (Ad _ hr)) (some (tI (rI' (ring n xs b))))
  refine⟨y,?_⟩
  rw[AU]
  show (sBody [some (tI xs),some (tI ops),some (tI (rI' (ring n xs b)))]).bind _=_
  rw[yB6 o q hn hb,List.find?_cons]
  cases hbd:bad n xs ops (ring n xs b) with
  | true=>rfl
  | false=>exact ih
def yN7{n:Nat}{xs:List Int}(o:Ord n xs):∀r∈rgs n xs n,∃b,b<n/\r=ring n xs b:=fun r hr=>by
 obtain⟨b,hb,e,_⟩:=(o.yX3 n (Ak n)).each r hr
 exact⟨b,hb,e⟩
def zI7{n:Nat}{xs ops:List Int}(o:Ord n xs)(q:Opn n ops)(h1:1<=n)(h2:n<=60):gQ [tI xs,tI ops]=.ok (shD (sh n xs ops)):=by
 show (gX [some (tI xs),some (tI ops),none]).bind (fin false)=_
 unfold gX
 obtain⟨y,fl⟩:=sLoop o q (show n<=1000 by rfl') (rgs n xs n) (yN7 o) none
 have e:(ringsD n xs n).map tI=(rgs n xs n).map fun r=>tI (rI' r):=by unfold ringsD;rw[AX];rfl
 simp![Aa,o.len,wK q h1 h2,yW4 o (show n<=1000 by rfl'),e,fl]
 unfold sh
 cases (rgs n xs n).find? (bad n xs ops) with
 | none=>rfl
 | some r=>rfl
def zZ8{n:Nat}{xs ops:List Int}(o:Ord n xs)(q:Opn n ops)(h1:1<=n)(h2:n<=60):vF [tI xs,tI ops]=.ok (.bool (sh n xs ops).isNone):=by
 show (dI [some (tI xs),some (tI ops)]).bind (fin false)=_
 unfold dI
 simp![zI7 o q h1 h2]
 cases sh n xs ops with
 | none=>rfl
 | some r=>rfl
def al(n:Nat)(ops xs:List Int):Bool:=(List.range n).all (fd n xs ops)
def xA1{n i:Nat}(f:Nat->D)(h:i<n):atI ((List.range n).map f) (i:Int)=some (f i):=by
 unfold atI
 rw[Aa,Aj,zO3 h,Bg,Ai,AH h]
 rfl
def fG(n:Nat)(f:Nat->D):enumD ((List.range n).map f)=(List.range n).map fun (i:Nat)=>PyData.tuple [.int (i:Int),f i]:=by
 unfold enumD
 rw[Aa,Aj]
 refine BY fun i hi => ?_
 rw[List.getD,Ai,AH (Al.mp hi)]
 rfl
def qZ{n:Nat}{ops:List Int}(q:Opn n ops)(h1:1<=n)(h2:n<=6):xI [tI ops]=.ok (tI ops):=by
 show (wO [some (tI ops)]).bind (fin false)=_
 unfold wO
 simp![Aa,q.len,AA (show ¬(6:Int)<(n:Int) by rfl'),wK q h1 (show n<=60 by rfl')]
inductive TreeOk(n:Nat):Nat->List Int->List Int->D->Prop
 | none {l:Nat}{bs ns:List Int}:TreeOk n l bs ns .none
 | node {l:Nat}{bs ns:List Int}(b:Nat) (f:Nat->D):b<n->bs.contains (b:Int)=false->(∀i,i<n->ns.contains (i:Int)=true->f i=.none)->(∀i,i<n->TreeOk n l (bs ++ [(b:Int)]) (ns ++ [(i:Int)]) (f i))->TreeOk n (l+1) bs ns (.tuple [.int (b:Int),.tuple ((List.range n).map f)])
def zP7{α:Type}(f:α->D)(m:Nat):∀xs:List α,(∀x∈xs,(f x).canLay0=true/\(f x).depth<=m/\lf (f x)=true)->PyData.canLayAll0 (xs.map f)=true/\PyData.depthAll (xs.map f)<=m/\lfs (xs.map f)=true
 | [],_=>⟨rfl,AQ _,rfl⟩
 | x::xs,h=>by
  obtain⟨h1,h2,h3⟩:=h x (Ae ..)
  obtain⟨g1,g2,g3⟩:=zP7 f m xs fun y hy=>h y (Ad _ hy)
  rw[AU,PyData.canLayAll0,PyData.depthAll,lfs,h1,g1,h3,g3]
  exact⟨rfl,Nat.max_le.mpr ⟨h2,g2⟩,rfl⟩
def xX8{n l:Nat}{bs ns:List Int}{d:D}(T:TreeOk n l bs ns d):d.canLay0=true/\d.depth<=2*l/\lf d=true:=by
 induction T with
 | none=>exact⟨rfl,AQ _,rfl⟩
 | @node l bs ns b f _ _ _ _ ih =>
  obtain⟨h1,h2,h3⟩:=zP7 f (2*l) (List.range n) fun i hi=>ih i (Al.mp hi)
  refine⟨?_,?_,?_⟩
  ·rw[PyData.canLay0,PyData.canLayAll0,PyData.canLay0,PyData.canLayAll0,PyData.canLay0,h1]
   rfl
  ·rw[PyData.depth,PyData.depthAll,PyData.depthAll,PyData.depth,PyData.depth,PyData.depthAll]
   have:max 0 (max (PyData.depthAll (List.map f (List.range n))+1) 0)<=2*l+1:=Nat.max_le.mpr ⟨AQ _,Nat.max_le.mpr ⟨by rfl',AQ _⟩⟩
   rfl'
  ·show (true&&(lfs ((List.range n).map f)&&true))=true
   rw[h3]
   rfl
structure PlanOk(n:Nat)(ops:List Int)(t:Nat->D):Prop where
 tree:∀p,p<n->TreeOk n (ops.getD p 0).toNat [] [(p:Int)] (t p)
def PlanOk.shape{n:Nat}{ops:List Int}{t:Nat->D}(P:PlanOk n ops t)(q:Opn n ops)(hn:n<=6):PyData.canLayAll0 ((List.range n).map t)=true/\PyData.depthAll ((List.range n).map t)<=12/\lfs ((List.range n).map t)=true :=
 zP7 t 12 (List.range n) fun p hp=>by
  have hp:=Al.mp hp
  obtain⟨h1,h2,h3⟩:=xX8 (P.tree p hp)
  have:=q.at hp
  exact⟨h1,by rfl',h3⟩
def xW8(d:D):∃b,isND true d .none=some b:=by cases d <;> exact⟨_,rfl⟩
def zC1(g:Nat->Int->D×Int)(p:Int):∀k,(runG g k p).1=(List.range k).map fun i=>(g i (runG g i p).2).1
 | 0=>rfl
 | k+1=>by
  rw[runG,zC1 g p k,By,Az]
  rfl
def xM1{n:Nat}{bs:List Int}{x:Int}(h:x∈clN n bs):∃b:Nat,b<n/\x=(b:Int)/\bs.contains (b:Int)=false:=by
 unfold clN at h
 obtain⟨b,hb,rfl⟩:=Ay.mp h
 obtain⟨h1,h2⟩:=Bk.mp hb
 exact⟨b,Al.mp h1,rfl,by simpa using h2⟩
def xS8{n:Nat}{thin:Bool}:∀(l:Nat) (bs ns:List Int) (p:Int),bs.length+l<=n->TreeOk n l bs ns (trG n thin l bs ns p).1
 | 0,bs,ns,p,_=>.none
 | l+1,bs,ns,p,h=>by
  by_cases q:thin=true/\p%4=3
  ·rw[yU8 q]
   exact .none
  ·rw[zE5 q rfl rfl,zC1]
   have cp:=yR5 n bs (by rfl')
   generalize (if thin=true then p / 4 else p)=p1
   have h0:=Ch p1 (show ((clN n bs).length:Int)≠0 by rfl')
   have h1:=BS p1 (show (0:Int)<((clN n bs).length:Int) by rfl')
   obtain⟨b,hb,eb,nb⟩:=xM1 (MR.getD_mem (xs:=clN n bs) (i:=(p1%((clN n bs).length:Int)).toNat) (by rfl'))
   rw[eb]
   refine .node b _ hb nb (fun i hi c => ?_) fun i hi => ?_
   ·unfold nxG
    rw[Aq c]
   ·by_cases c:ns.contains (i:Int)=true
    ·have e:∀z:Int,(nxG n thin l bs ns (b:Int) i z).1=.none:=fun z=>by unfold nxG;rw[Aq c]
     rw[e]
     exact .none
    ·have e:∀z:Int,nxG n thin l bs ns (b:Int) i z=trG n thin l (bs ++ [(b:Int)]) (ns ++ [(i:Int)]) z:=fun z=>by unfold nxG;rw[AJ c]
     rw[e]
     exact xS8 l _ _ _ (by rw[Ao];simp;rfl')
def wU7{n:Nat}{ops ms:List Int}(q:Opn n ops):PlanOk n ops (tr1 n ops ms):=⟨fun p hp=>xS8 _ _ _ _ (by have:=q.at hp;show 0+_<=n;rfl')⟩
def wW7{n:Nat}(hn:n<=6){l:Nat}{bs ns:List Int}{d:D}(T:TreeOk n l bs ns d):∀k,l<k->bs.length+l<=100->ns.length+l<=100->wB k [d,.int (n:Int),.int (l:Int),lI bs,lI ns]=.ok d:=by
 induction T with
 | @none l bs ns =>
  intro k hk _ _
  obtain⟨k,rfl⟩:∃j,k=j+1:=⟨k-1,by rfl'⟩
  show (uX (wB k) [some .none,some (.int (n:Int)),some (.int (l:Int)),some (lI bs),some (lI ns),none,none,none,none,none]).bind (fin false)=_
  unfold uX
  have i0:isND false .none .none=some true:=rfl
  simp![i0]
 | @node l bs ns b f hb nb hf _ ih =>
  intro k hk h1 h2
  obtain⟨k,rfl⟩:∃j,k=j+1:=⟨k-1,by rfl'⟩
  show (uX (wB k) [some (.tuple [.int (b:Int),.tuple ((List.range n).map f)]),some (.int (n:Int)),some (.int ((l+1:Nat):Int)),some (lI bs),some (lI ns),none,none,none,none,none]).bind (fin false)=_
  unfold uX
  have i0:isND false (.tuple [.int (b:Int),.tuple ((List.range n).map f)]) .none=some false:=rfl
  have a0:atI [PyData.int (b:Int),.tuple ((List.range n).map f)] 0=some (.int (b:Int)):=rfl
  have a1:atI [PyData.int (b:Int),.tuple ((List.range n).map f)] 1=some (.tuple ((List.range n).map f)):=rfl
  have hl:((List.range n).map f).length=n:=by rw[Aa,Aj]
  have cb:catL (lI bs) (.list [.int (b:Int)])=some (lI (bs ++ [(b:Int)])):=aR (xs:=bs) (ys:=[(b:Int)]) (by simp;rfl')
  have sb:((l+1:Nat):Int)-1=(l:Int):=by rfl'
  simp![i0,a0,a1,aS,AA (show ¬((l+1:Nat):Int)=0 by rfl'),AB (show (0:Int)<=(b:Int) by rfl'),AB (show (b:Int)<(n:Int) by rfl'),zH2,nb,hl,uD,decide_true,fG]
  refine aG (fun i ρ=>∃x y,ρ=[some (.tuple [.int (b:Int),.tuple ((List.range n).map f)]),some (.int (n:Int)),some (.int ((l+1:Nat):Int)),some (lI bs),some (lI ns),some (.int (b:Int)),some (.tuple ((List.range n).map f)),some (.list ((List.range i).map f)),x,y]) ⟨none,none,rfl⟩ ?_ ?_
  ·rintro i d ρ hd ⟨x,y,rfl⟩
   rw[Ai] at hd
   obtain⟨j,ej,rfl⟩:=Ar.mp hd
   have hi:i<n:=by simpa using (Ac.mp ej).1
   rw[AH hi] at ej
   cases ej
   have cn:catL (lI ns) (.list [.int (i:Int)])=some (lI (ns ++ [(i:Int)])):=aR (xs:=ns) (ys:=[(i:Int)]) (by simp;rfl')
   have e1:=ih i hi k (by rfl') (by simp;rfl') (by simp;rfl')
   have ap:=gK (l:=(List.range i).map f) (d:=f i) (by rw[Aa,Aj];rfl')
   have rs:(List.range i).map f ++ [f i]=(List.range (i+1)).map f:=by rw[By,Az];rfl
   rw[rs] at ap
   refine⟨_,[some (.tuple [.int (b:Int),.tuple ((List.range n).map f)]),some (.int (n:Int)),some (.int ((l+1:Nat):Int)),some (lI bs),some (lI ns),some (.int (b:Int)),some (.tuple ((List.range n).map f)),some (.list ((List.range (i+1)).map f)),some (.int (i:Int)),some (f i)],rfl,?_,_,_,rfl⟩
   cases c:ns.contains (i:Int) with
   | true =>
    have fi:=hf i hi c
    have i1:isND true (f i) .none=some false:=by rw[fi];rfl
    simp![i1,cb,cn,sb,e1,ap]
   | false =>
    obtain⟨t,ht⟩:=xW8 (f i)
    cases t with
    | true=>simp![ht,zH2,c,cb,cn,sb,e1,ap]
    | false=>simp![ht,cb,cn,sb,e1,ap]
  ·rintro ρ ⟨x,y,rfl⟩
   rw[Aa,Aj]
   simp -implicitDefEqProofs only[(evA)]
def cJ{n:Nat}{ops:List Int}{t:Nat->D}(P:PlanOk n ops t)(q:Opn n ops)(h1:1<=n)(h2:n<=6){x:D}(hx:x=.tuple ((List.range n).map t)\/x=.list ((List.range n).map t)):uZ [tI ops,x]=.ok (.tuple ((List.range n).map t)):=by
 have hl:((List.range n).map t).length=n:=by rw[Aa,Aj]
 have lx:lenD [x]=some (.int (n:Int)):=by
  rcases hx with rfl | rfl
  ·show some (PyData.int ((((List.range n).map t).length:Nat):Int))=_
   rw[hl]
  ·show some (PyData.int ((((List.range n).map t).length:Nat):Int))=_
   rw[hl]
 have sx:seqD x=some ((List.range n).map t):=by rcases hx with rfl | rfl <;> rfl
 show (fO [some (tI ops),some x,none,none]).bind (fin false)=_
 unfold fO
 have cc:eComp2 (xQ (eV 1)) tYes (eF uO (aC (eV 1) (aC (eV 2) (aC (e2 ixD (eV 3) (eV 0)) (aC (eB mkL aN) (aC (eB mkL (aC (eV 0) aN)) aN)))))) [3,2] [some (tI ops),some x,some (tI ops),some (.int (n:Int))]=.ok (.list ((List.range n).map t)):=by
  refine dE (fun p:Nat=>PyData.int (p:Int)) t t (List.range n) (by simp![sx,fG]) (by rw[Aj];rfl') fun p hp => ?_
  have hp:=Al.mp hp
  have b:=q.at hp
  have e:=wW7 h2 (P.tree p hp) 14 (by rfl') (by show 0+_<=100;rfl') (by show 1+_<=100;rfl')
  have e':uO [t p,.int (n:Int),.int ((ops.getD p 0).toNat:Int),.list [],.list [.int (p:Int)]]=.ok (t p):=e
  show eF uO _ [some (.int (p:Int)),some (t p),some (.int (n:Int)),some (tI ops)]=_
  simp![yS4 q hp,e']
 have ol:(ops.map PyData.int).length=n:=by rw[Aa,q.len]
 simp![qZ q h1 h2,ol,lx,uD,decide_true,cc]
def yK5(a b:List Nat):rI' (a++b)=rI' a++rI' b:=by unfold rI';simp
inductive Down(n:Nat)(xs:List Int):D->List Nat->Prop
 | none:Down n xs .none []
 | node {b:Nat}{f:Nat->D}{ws:List Nat}:b<n->Down n xs (f (nxt xs b)) ws->Down n xs (.tuple [.int (b:Int),.tuple ((List.range n).map f)]) (b::ws)
def xO5{n l:Nat}{bs ns xs:List Int}{d:D}(o:Ord n xs)(T:TreeOk n l bs ns d):∃ws,Down n xs d ws/\ws.length<=l:=by
 induction T with
 | none=>exact⟨[],.none,AQ _⟩
 | @node l bs ns b f hb _ _ _ ih =>
  obtain⟨ws,D,h⟩:=ih (nxt xs b) (o.xX hb)
  exact⟨b::ws,.node hb D,by rw[Av];rfl'⟩
def Down.lt{n:Nat}{xs:List Int}{d:D}{ws:List Nat}(D:Down n xs d ws):∀b∈ws,b<n:=by
 induction D with
 | none=>exact fun b hb=>nomatch hb
 | @node b f ws hb _ ih =>
  intro c hc
  rcases An.mp hc with rfl | hc
  ·exact hb
  ·exact ih c hc
def zQ6{n:Nat}{xs:List Int}{d:D}{ws:List Nat}(o:Ord n xs)(hn:n<=60)(D:Down n xs d ws)(hw:ws.length<=100):qR [d,tI xs]=.ok (lI (rI' ws)):=by
 show (gF [some d,some (tI xs),none,none,none]).bind (fin true)=_
 unfold gF
 simp -implicitDefEqProofs only[(evA)]
 refine wZ4 (fun i ρ=>∃x di,Down n xs di (ws.drop i)/\ρ=[some d,some (tI xs),some (lI (rI' (ws.take i))),some di,x]) ws.length (by rfl') ⟨none,d,D,rfl⟩ ?_ ?_ ?_
 ·rintro i ρ hi ⟨x,di,Di,rfl⟩
  have ew:ws.drop i=ws[i]::ws.drop (i+1):=BB hi
  rw[ew] at Di
  generalize hb:ws[i]=b at Di ew
  cases Di with
  | @node _ f _ hbn D2 =>
   have i0:isND true (.tuple [.int (b:Int),.tuple ((List.range n).map f)]) .none=some true:=rfl
   have b0:atI [PyData.int (b:Int),.tuple ((List.range n).map f)] 0=some (.int (b:Int)):=rfl
   have b1:atI [PyData.int (b:Int),.tuple ((List.range n).map f)] 1=some (.tuple ((List.range n).map f)):=rfl
   have nx:atI (xs.map PyData.int) (b:Int)=some (.int ((nxt xs b:Nat):Int)):=by
    rw[xF,xL (by rw[o.len];exact hbn),o.xS hbn]
    rfl
   have at2:=xA1 f (o.xX hbn)
   have ap:=gK (l:=(rI' (ws.take i)).map PyData.int) (d:=.int (b:Int)) (by rw[Aa,wZ,BE];rfl')
   refine⟨by simp![i0],_,?_,some (.int (b:Int)),f (nxt xs b),D2,rfl⟩
   simp![b0,ap,b1,nx,at2]
   rw[show ws.take (i+1)=ws.take i ++ [b] by rw[CD,Ab hi,hb];rfl,yK5]
   simp only[lI,Az]
   rfl
 ·rintro ρ ⟨x,di,Di,rfl⟩
  rw[BJ] at Di
  cases Di
  have i0:isND true .none .none=some false:=rfl
  simp![i0]
 ·rintro ρ ⟨x,di,Di,rfl⟩
  rw[BK]
  simp -implicitDefEqProofs only[(evA)]
def ftF(xs:List Int)(W:Nat->List Nat)(p:Nat):Bool:=((W p).map fun b=>((nxt xs b:Nat):Int)).contains (p:Int)
def zS9{n:Nat}{ops xs:List Int}{t:Nat->D}(o:Ord n xs)(P:PlanOk n ops t):∃W:Nat->List Nat,∀p,p<n->Down n xs (t p) (W p)/\(W p).length<=(ops.getD p 0).toNat:=by
 have h:∀p,∃ws,p<n->Down n xs (t p) ws/\ws.length<=(ops.getD p 0).toNat:=fun p=>by
  by_cases hp:p<n
  ·obtain⟨ws,D,l⟩:=xO5 o (P.tree p hp)
   exact⟨ws,fun _=>⟨D,l⟩⟩
  ·exact⟨[],fun h=>absurd h hp⟩
 exact⟨fun p=>Classical.choose (h p),fun p hp=>AT (h p) hp⟩
def zS7{n:Nat}{ds:List D}{xs:List Int}(o:Ord n xs)(h:ds.length=n):wI [.tuple ds,tI xs]=.ok .none:=by
 show (wG [some (.tuple ds),some (tI xs)]).bind (fin false)=_
 unfold wG
 simp![Aa,o.len,h,uD,decide_true]
def zM3{n:Nat}{xs ops:List Int}{t:Nat->D}{W:Nat->List Nat}(o:Ord n xs)(q:Opn n ops)(h2:n<=60)(hW:∀p,p<n->Down n xs (t p) (W p)/\(W p).length<=(ops.getD p 0).toNat):xO [.tuple ((List.range n).map t),tI xs]=.ok (tI (rI' ((List.range n).filter (ftF xs W)))):=by
 have hl:((List.range n).map t).length=n:=by rw[Aa,Aj]
 have hle:∀i,((List.range i).filter (ftF xs W)).length<=i:=fun i=>Bf (Db _ _) (by rw[Aj];exact Ak i)
 show (gH [some (.tuple ((List.range n).map t)),some (tI xs),none,none,none]).bind (fin false)=_
 unfold gH
 have en:enumD ((List.range n).map t)=_:=fG n _
 simp![zS7 o hl,en]
 refine aG (fun i ρ=>∃x y,ρ=[some (.tuple ((List.range n).map t)),some (tI xs),some (lI (rI' ((List.range i).filter (ftF xs W)))),x,y]) ⟨none,none,rfl⟩ ?_ ?_
 ·rintro i d ρ hd ⟨x,y,rfl⟩
  rw[Ai] at hd
  obtain⟨j,ej,rfl⟩:=Ar.mp hd
  have hi:i<n:=by simpa using (Ac.mp ej).1
  rw[AH hi] at ej
  cases ej
  obtain⟨Di,li⟩:=hW i hi
  have b:=q.at hi
  have bd:=zQ6 o h2 Di (by rfl')
  have cc:eComp (iS (eF qR (aC (eV 4) (aC (eV 1) aN)))) tYes (e2 ixD (eV 1) (eV 0)) [1] [some (.tuple ((List.range n).map t)),some (tI xs),some (lI (rI' ((List.range i).filter (ftF xs W)))),some (.int (i:Int)),some (t i)]=.ok (lI ((W i).map fun b=>((nxt xs b:Nat):Int))):=by
   rw[vR (fun b:Nat=>PyData.int (b:Int)) (fun b:Nat=>PyData.int ((nxt xs b:Nat):Int)) (W i) (by
    simp![bd]
    unfold rI'
    rw[AX]
    rfl) (by rfl') (fun b hb=>by
    have hb:=Di.lt b hb
    have nx:atI (xs.map PyData.int) (b:Int)=some (.int ((nxt xs b:Nat):Int)):=by
     rw[xF,xL (by rw[o.len];exact hb),o.xS hb]
     rfl
    show e2 ixD _ _ [some (.int (b:Int)),some (tI xs)]=_
    simp![nx])]
   rw[lI,AX]
   rfl
  have fi:((W i).map fun b=>((nxt xs b:Nat):Int)).contains (i:Int)=ftF xs W i:=rfl
  have rs:(List.range (i+1)).filter (ftF xs W)=(List.range i).filter (ftF xs W)++(if ftF xs W i then [i] else []):=by
   rw[By,List.filter_append]
   congr 1
   by_cases h:ftF xs W i=true <;> simp[h]
  have lle:((rI' ((List.range i).filter (ftF xs W))).map PyData.int).length<=1000:=by
   rw[Aa,wZ]
   have:=hle i
   rfl'
  refine⟨_,[some (.tuple ((List.range n).map t)),some (tI xs),some (lI (rI' ((List.range (i+1)).filter (ftF xs W)))),some (.int (i:Int)),some (t i)],rfl,?_,_,_,rfl⟩
  cases c:ftF xs W i with
  | true =>
   rw[c] at fi rs
   simp![cc,zH2,fi,gK lle]
   rw[rs,Aq rfl,yK5]
   simp only[lI,Az]
   rfl
  | false =>
   rw[c] at fi rs
   simp![cc,zH2,fi]
   rw[rs,AJ AK,Bn]
 ·rintro ρ ⟨x,y,rfl⟩
  rw[Aa,Aj]
  simp -implicitDefEqProofs only[(evA)]
def dnB:Nat->D->List Int->List Nat
 | 0,_,_=>[]
 | l+1,d,xs=>match d with
  | .tuple [.int b,.tuple ds]=>b.toNat::dnB l (ds.getD (nxt xs b.toNat) .none) xs
  | _=>[]
def aD{n i:Nat}(f:Nat->D)(h:i<n):((List.range n).map f).getD i .none=f i:=by
 rw[List.getD,Ai,AH h]
 rfl
def xS5{n l b:Nat}{f:Nat->D}{xs:List Int}(o:Ord n xs)(hb:b<n):dnB (l+1) (.tuple [.int (b:Int),.tuple ((List.range n).map f)]) xs=b::dnB l (f (nxt xs b)) xs:=by
 rw[dnB]
 simp only[AI]
 rw[aD f (o.xX hb)]
def yA9(l:Nat)(xs:List Int):dnB l .none xs=[]:=by cases l <;> rfl
def xR8{n:Nat}{xs:List Int}{d:D}{ws:List Nat}(o:Ord n xs)(D:Down n xs d ws):∀l,ws.length<=l->ws=dnB l d xs:=by
 induction D with
 | none=>exact fun l _=>(yA9 l xs).symm
 | @node b f ws hb _ ih =>
  intro l hl
  obtain⟨l,rfl⟩:∃k,l=k+1:=⟨l-1,by rw[Av] at hl;rfl'⟩
  rw[xS5 o hb,<-ih l (by rw[Av] at hl;rfl')]
def fnB(l:Nat)(d:D)(p:Nat)(xs:List Int):Bool:=((dnB l d xs).map fun b=>((nxt xs b:Nat):Int)).contains (p:Int)
structure OutN(n:Nat)(ns:List Int)(js:List Nat):Prop where
 eq:ns=js.map fun (j:Nat)=>(j:Int)
 nd:js.Nodup
 lt:∀j∈js,j<n
def zA2(ns:List Int)(k:Nat):uS [lI ns,.int k]=.ok (.int (ns.getD k 0)):=by
 show (fL [some (lI ns),some (.int k)]).bind (fin false)=_
 unfold fL
 simp![Aa,xF]
 by_cases h:k<ns.length
 ·rw[AB (by rfl')]
  simp![xL h]
 ·rw[AA (by rfl')]
  simp![AD,BP (Nat.le_of_not_lt h),Option.getD_none]
def xO7{m:Int}{n:Nat}(p:Int)(hm:0<m)(h:m<=(n:Int)+1):Opn n (digD m p n):=by
 unfold digD
 refine⟨by rw[Aa,Aj],fun z hz => ?_⟩
 obtain⟨i,_,rfl⟩:=Ay.mp hz
 have h0:=Ch (pwD m p i) (Int.ne_of_gt hm)
 have h1:=BS (pwD m p i) hm
 exact⟨h0,by rfl'⟩
def xC3(p:Int):∃(n:Nat) (ops:List Int),1<=n/\n<=6/\Opn n ops/\gsD 6 3 p=.tuple [.int (n:Int),tI ops]/\∀x∈ops,x<=5:=by
 have h0:=Ch p (show (6:Int)≠0 by decide)
 have h1:=BS p (show (0:Int)<6 by decide)
 obtain⟨n,hn⟩:∃n:Nat,1+p%6=(n:Int):=⟨(1+p%6).toNat,by rfl'⟩
 have q:=xO7 (m:=(n:Int)+1) (n:=n) (p / 6) (by rfl') (by rfl')
 unfold gsD
 rw[hn,AI]
 have b3:∀x:Int,0<=x->0<=mnB 3 x/\mnB 3 x<=x/\mnB 3 x<=3:=fun x hx=>by
  unfold mnB
  split <;> rfl'
 split
 ·refine⟨n,_,by rfl',by rfl',⟨by rw[Aa,q.len],fun z hz => ?_⟩,rfl,fun z hz => ?_⟩
  ·obtain⟨y,hy,rfl⟩:=Ay.mp hz
   have:=q.bd y hy
   have:=b3 y this.1
   rfl'
  ·obtain⟨y,hy,rfl⟩:=Ay.mp hz
   have:=q.bd y hy
   have:=b3 y this.1
   rfl'
 ·refine⟨n,_,by rfl',by rfl',q,rfl,fun z hz => ?_⟩
  have:=q.bd z hz
  rfl'
def yM6(ns:List Int):∃(n:Nat) (ops:List Int),1<=n/\n<=6/\Opn n ops/\jG [lI ns]=.ok (.tuple [.int (n:Int),tI ops])/\∀x∈ops,x<=5:=by
 obtain⟨n,ops,h1,h2,q,eg,b⟩:=xC3 (ns.getD 0 0)
 refine⟨n,ops,h1,h2,q,?_,b⟩
 have e':uS [lI ns,.int 0]=.ok (.int (ns.getD 0 0)):=zA2 ns 0
 rw[<-eg]
 exact wZ5 e'
def yL5(ns:List Int){n:Nat}(h1:1<=n)(h2:n<=7):∃ms:List Int,ms.length=n/\dC [lI ns,.int 3,.int (n:Int)]=.ok (lI ms):=by
 refine⟨(List.range n).map fun (k:Nat)=>(pick3 ns (some (3+(k:Int))) none (some (n:Int))).sum,by simp,?_⟩
 show (zW5 [some (lI ns),some (.int 3),some (.int (n:Int))]).bind (fin true)=_
 unfold zW5
 have c1:eComp (iR rng1 (aC (eV 2) aN)) tYes (eB sumD (aC (eS3 (eV 1) (oS (e2 addI (eV 2) (eV 0))) oN (oS (eV 3))) aN)) [0,1,2] [some (lI ns),some (.int 3),some (.int (n:Int))]=.ok (lI ((List.range n).map fun (k:Nat)=>(pick3 ns (some (3+(k:Int))) none (some (n:Int))).sum)):=by
  have:=vR (mi:=iR rng1 (aC (eV 2) aN)) (me:=eB sumD (aC (eS3 (eV 1) (oS (e2 addI (eV 2) (eV 0))) oN (oS (eV 3))) aN)) (js:=[0,1,2]) (ρ:=[some (lI ns),some (.int 3),some (.int (n:Int))]) (fun k:Nat=>PyData.int (k:Int)) (fun k=>.int (pick3 ns (some (3+(k:Int))) none (some (n:Int))).sum) (List.range n) (by simp![aL (show n<=1000 by rfl')]) (by rw[Aj];rfl') fun k hk=>by
   show eB sumD _ [some (.int (k:Int)),some (lI ns),some (.int 3),some (.int (n:Int))]=_
   simp![Aq (show (some (n:Int))≠some 0 from fun z=>by have:=AW z;rfl'),yJ9,xN6]
  rw[this]
  simp only[lI,AX,Function.comp_def]
 simp![c1]
def yD2(ns:List Int){n:Nat}{ops:List Int}(q:Opn n ops)(h1:1<=n)(h2:n<=6):∃t:Nat->D,PlanOk n ops t/\gG [lI ns,.int (n:Int),tI ops]=.ok (.tuple ((List.range n).map t)):=by
 obtain⟨ms,hm,e⟩:=yL5 ns h1 (show n<=7 by rfl')
 exact⟨tr1 n ops ms,wU7 q,xE6 e (by rfl') q.len hm q.bd⟩
def xQ9{ys:List Int}:sortI ys=rg ys.length↔ys.Perm (rg ys.length):=by
 constructor
 ·intro h
  rw[<-h]
  exact (cU ys).symm
 ·intro h
  exact yV1 ((cU ys).trans h) (bR ys) (wT3 _)
def xU2{ns:List Int}(h:ns.length<=63):sortD [tI ns]=some (lI (sortI ns)):=by
 unfold sortD
 simp only[nsD,seqD,Bg,intsOf_map]
 rw[Aq (by rfl')]
def yV2{d:D}{ys:List Int}(hd:d=lI ys\/d=tI ys):dM [d]=.ok (.bool (decide (1<=ys.length/\ys.length<=60/\ys.Perm (rg ys.length)))):=by
 show (dD [some d]).bind (fin false)=_
 unfold dD
 have ln:lenD [d]=some (.int (ys.length:Int)):=by
  rcases hd with rfl | rfl
  ·rw[zM4];simp only[yJ5,Bs,Aa]
  ·rw[zM4];simp only[yB1,Bs,Aa]
 by_cases h1:1<=ys.length
 ·by_cases h2:ys.length<=60
  ·have sr:sortD [d]=some (lI (sortI ys)):=by
    rcases hd with rfl | rfl
    ·exact yA8 (by rfl')
    ·exact xU2 (by rfl')
   have d1:decide ((1:Int)<=(ys.length:Int))=true:=AB (by rfl')
   have d2:decide ((ys.length:Int)<=60)=true:=AB (by rfl')
   have rl:=yL3 (n:=ys.length) (by rfl')
   rw[show ((List.range ys.length).map fun (i:Nat)=>(i:Int))=rg ys.length from rfl] at rl
   simp -implicitDefEqProofs only[zH9,zS1,zG5,zH4,zG1,zI9,zG4,zH1,eV0,zH6,zH8,zV8,zH5,zT6,Res.bind_ok,Res.lft_some,ln,d1,d2,sr,rl,xD4,if_true]
   congr 2
   rw[BD,decide_eq_true_iff,decide_eq_true_iff,xQ9]
   exact⟨fun z=>⟨h1,h2,z⟩,fun z=>z.2.2⟩
  ·have d1:decide ((1:Int)<=(ys.length:Int))=true:=AB (by rfl')
   have d2:decide ((ys.length:Int)<=60)=false:=AA (by rfl')
   simp -implicitDefEqProofs only[zH9,zS1,zG5,zH4,zG1,zI9,zG4,zH1,eV0,zH6,zH8,zV8,zH5,zT6,Res.bind_ok,Res.lft_some,ln,d1,d2,if_true,AV,if_false]
   congr 2
   symm
   exact AA fun z=>h2 z.2.1
 ·have d1:decide ((1:Int)<=(ys.length:Int))=false:=AA (by rfl')
  simp -implicitDefEqProofs only[zH9,zS1,zG5,zH4,zG1,zI9,zG4,zH1,eV0,zH6,zH8,zV8,zH5,zT6,Res.bind_ok,Res.lft_some,ln,d1,AV,if_false]
  congr 2
  symm
  exact AA fun z=>h1 z.1
def xO6{xs:List Int}{a:Nat}(h:a<xs.length)(v:Int):setD (xs.map PyData.int) (.int (a:Int)) (.int v)=some ((xs.set a v).map PyData.int):=by
 unfold setD
 simp only
 rw[Aa,zO3 h,Bs,List.map_set]
def Sq(d:D)(r:List Int):Prop:=d=tI r\/d=lI r
structure Sqs(ds:List D)(R:List (List Int)):Prop where
 len:ds.length=R.length
 each:∀(i:Nat) (d:D),ds[i]?=some d->∃r,R[i]?=some r/\Sq d r
abbrev obB:Ev->Res Out:=sQ (sIf (b2 eqD (eB lenD (aC (eV 2) aN)) (eC (.int 0))) (sRa "BadOrder" (aC (eC (.str "a ring has one box at least")) aN)) sN) (sM 1 extD (aC (eV 2) aN))
def xN5{ds:List D}{R:List (List Int)}(q:Sqs ds R)(hl:R.flatten.length<=1000){i:Nat}{d:D}{x:Option D}(hd:ds[i]?=some d)(hne:∀r,R[i]?=some r->r ≠ []):obB [some (.list ds),some (lI (R.take i).flatten),some d,x,none]=.ok (.nx [some (.list ds),some (lI (R.take (i+1)).flatten),some d,x,none]):=by
 obtain⟨r,hr,sq⟩:=q.each i d hd
 have ne:=hne r hr
 have r0:0<r.length:=by cases r with
  | nil=>exact absurd rfl ne
  | cons _ _=>simp
 have tk:R.take (i+1)=R.take i ++ [r]:=by rw[CD,hr];rfl
 have lt:(R.take i).flatten.length+r.length<=1000:=by
  have a:(R.take (i+1)).flatten.length<=R.flatten.length:=by
   conv=>rhs;rw[<-List.take_append_drop (i+1) R]
   rw[CO,Ao]
   rfl'
  rw[tk,CO,Ao,show [r].flatten=r by simp] at a
  rfl'
 have lr:(r.map PyData.int).length=r.length:=by rw[Aa]
 have e2:(R.take (i+1)).flatten=(R.take i).flatten++r:=by rw[tk,CO,show [r].flatten=r by simp]
 rcases sq with rfl | rfl
 ·have ex:=yC2 (l:=(R.take i).flatten.map PyData.int) (k:=r.map PyData.int) (d:=tI r) rfl (by rw[Aa,Aa];exact lt)
  simp![lr,aS,AA (show ¬((r.length:Nat):Int)=0 by rfl'),ex]
  rw[e2]
  simp only[lI,Az]
  try rfl
 ·have ex:=yC2 (l:=(R.take i).flatten.map PyData.int) (k:=r.map PyData.int) (d:=lI r) rfl (by rw[Aa,Aa];exact lt)
  simp![lr,aS,AA (show ¬((r.length:Nat):Int)=0 by rfl'),ex]
  rw[e2]
  simp only[lI,Az]
  try rfl
def pw_flat{rs:List (List Nat)}(h:rs.flatten.Nodup){i j:Nat}{r r':List Nat}(hi:rs[i]?=some r)(hj:rs[j]?=some r')(hij:i<j):∀x∈r,x∉r':=by
 obtain⟨li,ei⟩:=Ac.mp hi
 obtain⟨lj,ej⟩:=Ac.mp hj
 have:=CL.mp (List.pairwise_flatten.mp h).2 i j li lj hij
 rw[ei,ej] at this
 exact fun x hx hx'=>this x hx x hx' rfl
def zX2{r:List Nat}{i:Nat}(h:i<r.length):r.getD i 0∈r:=by
 rw[List.getD,Ab h]
 exact CK h
def xT6{r:List Nat}(h:r.Nodup){i j:Nat}(hi:i<r.length)(hj:j<r.length)(e:r.getD i 0=r.getD j 0):i=j:=by
 rw[List.getD,List.getD,Ab hi,Ab hj] at e
 exact (List.getElem_inj h).mp e
def zC{ys:List Int}{a b:Nat}{v:Int}(h:a<ys.length):(ys.set a v).getD b 0=if a=b then v else ys.getD b 0:=by
 rw[AD,List.getElem?_set]
 by_cases e:a=b
 ·subst e
  rw[Aq rfl,Aq rfl,Aq h]
  rfl
 ·rw[AJ e,AJ e,AD]
def zE7(r:List Nat)(q:Nat):(rI' r).getD q 0=((r.getD q 0:Nat):Int):=by
 unfold rI'
 rw[List.getD,List.getD,Ai]
 cases r[q]? <;> rfl
def kx(l p:Nat):Nat:=if p=0 then l-1 else p-1
def yL9{l p:Nat}(h:p<l):kx l p<l:=by unfold kx;split <;> rfl'
def xH9{l p q:Nat}(h:p<l)(h':q<l)(e:kx l p=kx l q):p=q:=by
 unfold kx at e
 split at e <;> split at e <;> rfl'
abbrev obI:Ev->Res Out:=sI 3 (e2 ixD (eV 2) (e2 subI (eV 4) (eC (.int 1)))) (e2 ixD (eV 2) (eV 4))
def xI6{n:Nat}{d0 d1 d:D}{rs:List (List Nat)}{r:List Nat}{i:Nat}{ys:List Int}{y:Option D}(nd:rs.flatten.Nodup)(rn:∀r∈rs,∀x∈r,x<n)(h1000:r.length<=1000)(hr:rs[i]?=some r)(sq:Sq d (rI' r))(hl:ys.length=n)
  (hy:∀i',i'<i->∀r,rs[i']?=some r->∀q,q<r.length->ys.getD (r.getD (kx r.length q) 0) 0=((r.getD q 0:Nat):Int)) :
  ∃(zs:List Int) (y2:Option D),zs.length=n/\(∀i',i'<i+1->∀r,rs[i']?=some r->∀q,q<r.length->zs.getD (r.getD (kx r.length q) 0) 0=((r.getD q 0:Nat):Int))/\sF (iR rng1 (aC (eB lenD (aC (eV 2) aN)) aN)) (gN 4) obI [some d0,some d1,some d,some (lI ys),y]=.ok (.nx [some d0,some d1,some d,some (lI zs),y2]):=by
 have mr:r∈rs:=As hr
 have nr:r.Nodup:=nd.sublist (List.sublist_flatten_of_mem mr)
 have lr:((rI' r).map PyData.int).length=r.length:=by rw[Aa,wZ]
 have at':∀q,q<r.length->atI ((rI' r).map PyData.int) (q:Int)=some (.int ((r.getD q 0:Nat):Int)):=fun q hq=>by
  rw[yC5 rfl (by rw[wZ];exact hq),zE7]
 have at1:∀q,q<r.length->atI ((rI' r).map PyData.int) ((q:Int)-1)=some (.int ((r.getD (kx r.length q) 0:Nat):Int)):=fun q hq=>by
  unfold kx
  by_cases z:q=0
  ·subst z
   rw[Aq rfl,show (((0:Nat):Int)-1)=-1 by rfl',yX9 (n:=r.length-1) (by rw[wZ];rfl'),zE7]
  ·rw[AJ z,show ((q:Int)-1)=((q-1:Nat):Int) by rfl',yC5 rfl (by rw[wZ];rfl'),zE7]
 obtain⟨ρ2,e2,zs,y2,hl2,hz,hz2,rfl⟩:=jZ (g:=gN 4) (b:=obI)
  (fun q ρ=>∃(zs:List Int) (y:Option D),zs.length=n/\(∀i',i'<i->∀r,rs[i']?=some r->∀q,q<r.length->zs.getD (r.getD (kx r.length q) 0) 0=((r.getD q 0:Nat):Int))/\(∀q',q'<q->q'<r.length->zs.getD (r.getD (kx r.length q') 0) 0=((r.getD q' 0:Nat):Int))/\ρ=[some d0,some d1,some d,some (lI zs),y])
  ((List.range r.length).map fun (i:Nat)=>PyData.int (i:Int)) [some d0,some d1,some d,some (lI ys),y] ⟨ys,y,hl,hy,fun q' h=>absurd h (by rfl'),rfl⟩ (by
   rintro q e ρ hd ⟨zs,y,hl,hz,hz2,rfl⟩
   obtain⟨hq,rfl⟩:=yP1 hd
   have kq:=yL9 hq
   have mk:=zX2 kq
   have sd:=xO6 (xs:=zs) (a:=r.getD (kx r.length q) 0) (by rw[hl];exact rn r mr _ mk) ((r.getD q 0:Nat):Int)
   refine⟨_,_,rfl,?_,zs.set (r.getD (kx r.length q) 0) ((r.getD q 0:Nat):Int),some (.int (q:Int)),by rw[Bt,hl],?_,?_,rfl⟩
   ·rcases sq with rfl | rfl
    ·simp![at' q hq,at1 q hq,sd]
    ·simp![at' q hq,at1 q hq,sd]
   ·intro i' hi' r' hr' q' hq'
    have ne:¬r.getD (kx r.length q) 0=r'.getD (kx r'.length q') 0:=fun z=>pw_flat nd hr' hr hi' _ (zX2 (yL9 hq')) (by rw[<-z];exact mk)
    rw[zC (by rw[hl];exact rn r mr _ mk),AJ ne]
    exact hz i' hi' r' hr' q' hq'
   ·intro q' h1 h2
    rw[zC (by rw[hl];exact rn r mr _ mk)]
    by_cases z:q'=q
    ·subst z
     rw[Aq rfl]
    ·have ne:¬r.getD (kx r.length q) 0=r.getD (kx r.length q') 0:=fun w=>z (xH9 hq h2 (xT6 nr kq (yL9 h2) w)).symm
     rw[AJ ne]
     exact hz2 q' (by rfl') h2)
 rw[Aa,Aj] at hz2
 refine⟨zs,y2,hl2,fun i' hi' r' hr' q' hq' => ?_,?_⟩
 ·by_cases z:i'=i
  ·subst z
   rw[hr] at hr'
   cases hr'
   exact hz2 q' hq' hq'
  ·exact hz i' (by rfl') r' hr' q' hq'
 ·rcases sq with rfl | rfl
  ·simp![lr,aL h1000]
   exact e2
  ·simp![lr,aL h1000]
   exact e2
def yY5{n:Nat}{ds:List D}{rs:List (List Nat)}(q:Sqs ds (rs.map rI'))(p:rs.flatten.Perm (List.range n))(h1:1<=n)(h2:n<=60)(pos:∀r∈rs,0<r.length) :
  ∃ys:List Int,ys.length=n/\(∀r∈rs,∀q,q<r.length->ys.getD (r.getD (kx r.length q) 0) 0=((r.getD q 0:Nat):Int))/\kL [.list ds]=.ok (tI ys):=by
 have nd:rs.flatten.Nodup:=p.nodup_iff.mpr BL
 have lf:rs.flatten.length=n:=by rw[p.length_eq,Aj]
 have rl:∀r∈rs,r.length<=n:=fun r hr=>by
  have:=(List.sublist_flatten_of_mem hr).length_le
  rfl'
 have rn:∀r∈rs,∀x∈r,x<n:=fun r hr x hx=>Al.mp (p.mem_iff.mp (List.mem_flatten.mpr ⟨r,hr,hx⟩))
 have ef:(rs.map rI').flatten=rI' rs.flatten:=by unfold rI';rw[List.map_flatten]
 have lfl:(rs.map rI').flatten.length=n:=by rw[ef,wZ,lf]
 have x0:Option D:=none
 obtain⟨ρ1,e1,x,rfl⟩:=jZ (g:=gN 2) (b:=obB) (fun i ρ=>∃x,ρ=[some (.list ds),some (lI ((rs.map rI').take i).flatten),x,none,none]) ds [some (.list ds),some (.list []),none,none,none] ⟨none,rfl⟩ (by
  rintro i d ρ hd ⟨x,rfl⟩
  refine⟨_,_,rfl,xN5 q (by rfl') hd (fun r hr z => ?_),some d,rfl⟩
  rw[Ai] at hr
  obtain⟨r',hr',rfl⟩:=Ar.mp hr
  have:=pos r' (As hr')
  have z':=Bw List.length z
  rw[wZ] at z'
  simp at z'
  rw[z'] at this
  simp at this)
 rw[q.len,BK,ef] at e1
 obtain⟨ρ2,e2,ys,x2,y2,hl,hy,rfl⟩:=jZ (g:=gN 2) (b:=sF (iR rng1 (aC (eB lenD (aC (eV 2) aN)) aN)) (gN 4) obI)
  (fun i ρ=>∃(ys:List Int) (x y:Option D),ys.length=n/\(∀i',i'<i->∀r,rs[i']?=some r->∀q,q<r.length->ys.getD (r.getD (kx r.length q) 0) 0=((r.getD q 0:Nat):Int))/\ρ=[some (.list ds),some (lI (rI' rs.flatten)),x,some (lI ys),y])
  ds [some (.list ds),some (lI (rI' rs.flatten)),x,some (lI (List.replicate n 0)),none] ⟨List.replicate n 0,_,_,Bj,fun i' h=>absurd h (by rfl'),rfl⟩ (by
   rintro i d ρ hd ⟨ys,x,y,hl,hy,rfl⟩
   obtain⟨r',hr',sq⟩:=q.each i d hd
   rw[Ai] at hr'
   obtain⟨r,hr,rfl⟩:=Ar.mp hr'
   obtain⟨zs,y2,hl2,hz,e⟩:=xI6 (d0:=.list ds) (d1:=lI (rI' rs.flatten)) (y:=y) nd rn (by have:=rl r (As hr);rfl') hr sq hl hy
   exact⟨_,_,rfl,e,zs,some d,y2,hl2,hz,rfl⟩)
 refine⟨ys,hl,fun r hr q' hq => ?_,?_⟩
 ·obtain⟨i,hi,er⟩:=List.mem_iff_getElem.mp hr
  exact hy i (by rw[q.len,Aa];exact hi) r (by rw[Ab hi,er]) q' hq
 ·show (dL [some (.list ds),none,none,none,none]).bind (fin false)=_
  unfold dL
  have io:=yV2 (d:=lI (rI' rs.flatten)) (ys:=rI' rs.flatten) (.inl rfl)
  have pr:(rI' rs.flatten).Perm (rg n):=p.map _
  rw[AB ⟨by rw[wZ,lf];exact h1,by rw[wZ,lf];exact h2,by rw[wZ,lf];exact pr⟩] at io
  have lb:((rI' rs.flatten).map PyData.int).length=n:=by rw[Aa,wZ,lf]
  have rp:repL (.list [.int 0]) (.int ((n:Nat):Int))=some (lI (List.replicate n 0)):=by
   rw[yZ7 _ _ (by rfl'),lI,List.map_replicate]
  simp![e1,io,show lfT false (PyData.bool true)=true by decide,lb,rp]
  rw[e2]
  simp -implicitDefEqProofs only[(evA)]
def yI7{n l:Nat}{bs ns:List Int}{d:D}(T:TreeOk n l bs ns d):TrS n d:=by
 induction T with
 | none=>exact .none
 | @node l bs ns b f hb _ _ _ ih =>
  refine .node hb (by rw[Aa,Aj]) fun d hd => ?_
  obtain⟨i,hi,rfl⟩:=Ay.mp hd
  exact ih i (Al.mp hi)
def wY1{n l:Nat}{bs ns:List Int}{d:D}(T:TreeOk n l bs ns d):Tk bxD nxD n l d:=by
 induction T with
 | none=>exact .leaf rfl
 | @node l bs ns b f hb _ _ _ ih =>
  refine .node (b:=b) rfl hb fun x hx => ?_
  show Tk bxD nxD n l (((List.range n).map f).getD x .none)
  rw[aD f hx]
  exact ih x hx
def wX9{n:Nat}{xs:List Int}{d:D}{ws:List Nat}(o:Ord n xs)(D:Down n xs d ws):Dn bxD nxD xs d ws:=by
 induction D with
 | none=>exact .leaf rfl
 | @node b f ws hb _ ih =>
  refine .node (b:=b) rfl ?_
  show Dn bxD nxD xs (((List.range n).map f).getD (nxt xs b) .none) ws
  rw[aD f (o.xX hb)]
  exact ih
def tOf(n:Nat)(t:Nat->D)(p:Nat):D:=((List.range n).map t).getD p .none
def yC4{n p:Nat}(t:Nat->D)(h:p<n):tOf n t p=t p:=aD t h
def oR(ops:List Int)(p q:Nat):Prop:=ops.getD p 0<=ops.getD q 0
abbrev WrP(n:Nat)(ops:List Int)(t:Nat->D)(xs ys:List Int)(out:List (Nat×List Rv)):Prop:=Wr bxD nxD n (tOf n t) (oR ops) (poK n (opF ops)) xs ys out
def xM3{n:Nat}{ops:List Int}{t:Nat->D}(P:PlanOk n ops t)(q:Opn n ops):∀p,p<n->∃d,d<=n/\Tk bxD nxD n d (tOf n t p):=fun p hp=>by
 have b:=q.at hp
 rw[yC4 t hp]
 exact⟨_,by rfl',wY1 (P.tree p hp)⟩
def wU8{n:Nat}{ops:List Int}(h2:n<=6):(poK n (opF ops)).Pairwise (oR ops):=by
 obtain⟨p,w⟩:=dZ (n:=n) (op:=opF ops) h2
 refine w.imp_of_mem fun {a b} ha hb h => ?_
 have a1:=Al.mp (p.mem_iff.mp ha)
 have b1:=Al.mp (p.mem_iff.mp hb)
 unfold oR
 unfold opF at h
 rfl'
def yQ8{n:Nat}{ops xs:List Int}{t:Nat->D}(P:PlanOk n ops t)(q:Opn n ops)(h2:n<=6)(o:Ord n xs):∃ys out,WrP n ops t xs ys out:=by
 have pm:=(dZ (n:=n) (op:=opF ops) h2).1
 exact yP7 o (xM3 P q) (fun p=>Int.le_refl _) (fun p hp=>Al.mp (pm.mem_iff.mp hp)) (wU8 h2) fun y hy=>pm.mem_iff.mpr (Al.mpr hy)
def lam0(xs:List Int):lamG 0 xs=fun b _=>nxt xs b:=by
 funext b l
 exact Aq rfl
def lam1(xs:List Int):lamG 1 xs=fun _ l=>nxt xs l:=by
 funext b l
 exact AJ (by decide)
def yJ8{n:Nat}{ops xs ys:List Int}{t:Nat->D}{out:List (Nat×List Rv)}(w:WrP n ops t xs ys out)(h2:n<=6):∀z∈out,z.2.length<=900:=fun z hz=>by
 have e:=w.pers.1 z hz
 have l:=(w.wrt.xZ (w.chn z hz).2.1).2.1
 rfl'
def xB2{n:Nat}{ops xs ys:List Int}{t:Nat->D}{out:List (Nat×List Rv)}(w:WrP n ops t xs ys out)(P:PlanOk n ops t)(q:Opn n ops)(h1:1<=n)(h2:n<=6):PlyIn 0 (.tuple ((List.range n).map t)) (tI ops) (tI xs) out (full xs n) :=
 ⟨n,_,ops,xs,rfl,rfl,rfl,by rw[Aa,Aj],fun d hd=>by
  obtain⟨p,hp,rfl⟩:=Ay.mp hd
  exact yI7 (P.tree p (Al.mp hp)),q.len,h1,h2,w.ord,yJ8 w h2,by rw[lam0];exact w.gm⟩
def cO{n:Nat}{ops xs:List Int}{t:Nat->D}(q:Opn n ops)(o:Ord n xs)(h1:1<=n)(h2:n<=6):qW [.tuple ((List.range n).map t),tI ops,tI xs]=.ok .none:=by
 have hl:((List.range n).map t).length=n:=by rw[Aa,Aj]
 have lx:(xs.map PyData.int).length=n:=by rw[Aa,o.len]
 have e1:wI [.tuple ((List.range n).map t),tI xs]=.ok .none:=by
  show (wG [some (.tuple ((List.range n).map t)),some (tI xs)]).bind (fin false)=_
  unfold wG
  simp![hl,lx,uD,decide_true]
 show (gU [some (.tuple ((List.range n).map t)),some (tI ops),some (tI xs)]).bind (fin false)=_
 unfold gU
 simp![hl,wK q h1 (show n<=60 by rfl'),e1]
def yY7{n:Nat}{ops xs ys:List Int}{t:Nat->D}{out:List (Nat×List Rv)}(w:WrP n ops t xs ys out)(P:PlanOk n ops t)(q:Opn n ops)(h1:1<=n)(h2:n<=6):kA [.tuple ((List.range n).map t),tI ops,tI xs]=.ok (.list (out.map turnD)):=by
 have e1:eP 0 0 [some (.tuple ((List.range n).map t)),some (tI ops),some (tI xs)]=.ok (.list (out.map turnD)):=(yF3 (j:=0) (xB2 w P q h1 h2)).trans rfl
 show (dY [some (.tuple ((List.range n).map t)),some (tI ops),some (tI xs)]).bind (fin true)=_
 unfold dY
 simp![cO q w.ord h1 h2,e1]
def wonO(ops:List Int)(out:List (Nat×List Rv)):Bool:=out.all fun z=>decide ((z.2.length:Int)<=ops.getD z.1 0)
def xA5{g:Nat->Nat->Nat}{T:Nat->D}{ps:List Nat}{seen fin:List (Option Nat)}{out:List (Nat×List Rv)}(h:Gm bxD nxD g T ps seen out fin):out.length<=ps.length:=by
 induction h with
 | nil=>exact Ak _
 | skip _ _ ih=>exact Nat.le_succ_of_le ih
 | play _ _ _ ih=>exact Nat.succ_le_succ ih
def yS5{n:Nat}{ops xs ys:List Int}{t:Nat->D}{out:List (Nat×List Rv)}(w:WrP n ops t xs ys out)(h2:n<=6):out.length<=6:=by
 have h:=xA5 w.gm
 rw[(dZ (n:=n) (op:=opF ops) h2).1.length_eq,Aj] at h
 rfl'
def yT3{n:Nat}{ops xs ys:List Int}{t:Nat->D}{out:List (Nat×List Rv)}(w:WrP n ops t xs ys out)(P:PlanOk n ops t)(q:Opn n ops)(h1:1<=n)(h2:n<=6):fW [.tuple ((List.range n).map t),tI ops,tI xs]=.ok (.bool (wonO ops out)):=by
 show (yN6 [some (.tuple ((List.range n).map t)),some (tI ops),some (tI xs)]).bind (fin false)=_
 unfold yN6
 have cc:eComp2 (iS (eF kA (aC (eV 0) (aC (eV 1) (aC (eV 2) aN))))) tYes (e2 (fun x y=>bD (leI x y)) (eB lenD (aC (eV 1) aN)) (e2 ixD (eV 2) (eV 0))) [1] [some (.tuple ((List.range n).map t)),some (tI ops),some (tI xs)]=.ok (.list (out.map fun z=>PyData.bool (decide ((z.2.length:Int)<=ops.getD z.1 0)))):=by
  refine dE (fun z:Nat×List Rv=>PyData.int (z.1:Int)) (fun z=>PyData.tuple (z.2.map fun r=>.int (r.1:Int))) _ out (by simp![yY7 w P q h1 h2];rfl) (by have:=yS5 w h2;rfl') fun z hz => ?_
  have zn:=(w.chn z hz).2.1
  have a1:=yS4 q zn
  have b:=q.at zn
  have l1:(z.2.map fun r=>PyData.int (r.1:Int)).length=z.2.length:=Aa ..
  rw[<-Ds b.1]
  show e2 (fun x y=>bD (leI x y)) (eB lenD (aC (eV 1) aN)) (e2 ixD (eV 2) (eV 0)) [some (.int (z.1:Int)),some (.tuple (z.2.map fun r=>.int (r.1:Int))),some (tI ops)]=_
  simp![a1,l1]
 have ad:allD [.list (out.map fun z=>PyData.bool (decide ((z.2.length:Int)<=ops.getD z.1 0)))]=some (.bool (wonO ops out)):=by
  have e:(out.map fun z=>PyData.bool (decide ((z.2.length:Int)<=ops.getD z.1 0)))=(out.map fun z=>decide ((z.2.length:Int)<=ops.getD z.1 0)).map PyData.bool:=by rw[AX];rfl
  show (boolsOf _).map _=_
  rw[e,boolsOf_map,Bs,List.all_map]
  rfl
 simp![cc,ad]
def zE1{n:Nat}{ops xs ys:List Int}{t:Nat->D}{out:List (Nat×List Rv)}(w:WrP n ops t xs ys out)(q:Opn n ops):wonO ops out=al n ops ys:=by
 obtain⟨p1,p2⟩:=w.pers
 unfold wonO al
 rw[BD,AF,AF]
 constructor
 ·intro h p hp
  obtain⟨z,hz,e,r⟩:=p2 p (Al.mp hp)
  have:=of_decide_eq_true (h z hz)
  have b:=q.at (Al.mp hp)
  unfold oR at r
  unfold fd
  exact AB (by rfl')
 ·intro h z hz
  have zn:=(w.chn z hz).2.1
  have:=of_decide_eq_true (h z.1 (Al.mpr zn))
  have e:=p1 z hz
  have b:=q.at zn
  exact AB (by rfl')
def FB(n:Nat)(ops:List Int)(t:Nat->D)(xs:List Int):List Int:=rI' ((List.range n).filter fun p=>fnB (ops.getD p 0).toNat (t p) p xs)
def xR9{n:Nat}{xs ops:List Int}{t:Nat->D}(o:Ord n xs)(q:Opn n ops)(P:PlanOk n ops t)(h2:n<=60):xO [.tuple ((List.range n).map t),tI xs]=.ok (tI (FB n ops t xs)):=by
 obtain⟨W,hW⟩:=zS9 o P
 rw[zM3 o q h2 hW]
 unfold FB
 rw[List.filter_congr fun p hp => ?_]
 obtain⟨D,l⟩:=hW p (Al.mp hp)
 unfold ftF fnB
 rw[<-xR8 o D _ l]
def xK2{n p:Nat}{xs:List Int}{d:D}{ws:List Nat}(o:Ord n xs)(D:Down n xs d ws){l:Nat}(hl:ws.length<=l):fnB l d p xs=ws.any fun b=>nxt xs b == p:=by
 unfold fnB
 rw[<-xR8 o D l hl,List.contains_eq_any_beq,List.any_map]
 refine Bw (fun f=>ws.any f) (funext fun b => ?_)
 show ((p:Int) == ((nxt xs b:Nat):Int))=(nxt xs b == p)
 rw[BD,beq_iff_eq,beq_iff_eq]
 constructor
 ·intro h;rfl'
 ·intro h;rw[h]
def xI8{n:Nat}(S:Nat->Bool):(((rI' ((List.range n).filter S)).length:Int)=(n:Int))↔(List.range n).all S=true:=by
 rw[wZ]
 have:=Db S (List.range n)
 rw[Aj] at this
 constructor
 ·intro h
  have e:((List.range n).filter S).length=(List.range n).length:=by rw[Aj];rfl'
  exact AF.mpr (Da.mp e)
 ·intro h
  have e:=Da.mpr (AF.mp h)
  rw[e,Aj]
def aB(n:Nat)(ops:List Int)(t:Nat->D)(xs:List Int):Bool:=(List.range n).all fun p=>fnB (ops.getD p 0).toNat (t p) p xs
def zQ3{n:Nat}{xs ops:List Int}{t:Nat->D}(o:Ord n xs)(q:Opn n ops)(P:PlanOk n ops t)(h2:n<=60):uI [.tuple ((List.range n).map t),tI xs]=.ok (.bool (aB n ops t xs)):=by
 have hl:((List.range n).map t).length=n:=by rw[Aa,Aj]
 have lf:((FB n ops t xs).map PyData.int).length=(FB n ops t xs).length:=Aa ..
 have e:decide (((FB n ops t xs).length:Int)=(n:Int))=aB n ops t xs:=by
  rw[BD,decide_eq_true_iff]
  exact xI8 _
 show (kT [some (.tuple ((List.range n).map t)),some (tI xs)]).bind (fin false)=_
 unfold kT
 simp![xR9 o q P h2,lf,hl,aS,e]
def wY8{n:Nat}{ops xs:List Int}{t:Nat->D}(P:PlanOk n ops t)(o:Ord n xs)(h:aB n ops t xs=true):∀p,p<n->∃ws,Dn bxD nxD xs (tOf n t p) ws/\(∃b∈ws,nxt xs b=p)/\ws.length<=(ops.getD p 0).toNat:=fun p hp=>by
 obtain⟨W,hW⟩:=zS9 o P
 obtain⟨D,l⟩:=hW p hp
 have f:=AF.mp h p (Al.mpr hp)
 rw[xK2 o D l] at f
 obtain⟨b,hb,e⟩:=Ck.mp f
 exact⟨W p,by rw[yC4 t hp];exact wX9 o D,⟨b,hb,beq_iff_eq.mp e⟩,l⟩
def yB8{n:Nat}{ops xs ys:List Int}{t:Nat->D}{out:List (Nat×List Rv)}(w:WrP n ops t xs ys out)(P:PlanOk n ops t)(q:Opn n ops)(h2:n<=6)(h:aB n ops t xs=true):wonO ops out=true:=by
 have pm:=(dZ (n:=n) (op:=opF ops) h2).1
 have sh:=w.gm.short (fun p=>(ops.getD p 0).toNat) (fun i x e=>by rw[Bi] at e;split at e <;> cases e) fun p hp=>wY8 P w.ord h p (Al.mp (pm.mem_iff.mp hp))
 unfold wonO
 refine AF.mpr fun z hz=>AB ?_
 have:=sh z hz
 have b:=q.at (w.chn z hz).2.1
 rfl'
def xR3{n:Nat}{xs ops:List Int}(o:Ord n xs):(sh n xs ops).isNone=al n ops xs:=by
 have k:=o.yX3 n (Ak n)
 unfold sh al
 rw[BD,Option.isNone_iff_eq_none,List.find?_eq_none,AF]
 constructor
 ·intro h p hp
  obtain⟨r,hr,hm⟩:=k.cover p (Al.mp hp)
  have z:=h r hr
  unfold bad at z
  cases e:fd n xs ops p with
  | true=>rfl
  | false=>exact absurd (Ck.mpr ⟨p,hm,by rw[e];rfl⟩) z
 ·intro h r hr z
  obtain⟨b,hb,rfl,_⟩:=k.each r hr
  unfold bad at z
  obtain⟨p,hm,e⟩:=Ck.mp z
  rw[h p (Al.mpr (o.aM hb (wV.mp hm)))] at e
  cases e
structure Sn(n:Nat)(xs:List Int)(seen:List (Option Nat))(os:List Nat):Prop where
 len:seen.length=n
 nd:os.Nodup
 lt:∀b∈os,b<n
 at':∀b,b<n->seen[b]?=some (if os.contains b then some (nxt xs b) else none)
def Sn.shut{n b:Nat}{xs:List Int}{seen:List (Option Nat)}{os:List Nat}(S:Sn n xs seen os)(h:seen[b]?=some none):b<n/\os.contains b=false:=by
 have bn:b<n:=by rw[<-S.len];exact (Ac.mp h).1
 have:=S.at' b bn
 rw[h] at this
 refine⟨bn,?_⟩
 cases c:os.contains b with
 | false=>rfl
 | true=>rw[c,Aq rfl] at this;cases this
def Sn.put{n b:Nat}{xs:List Int}{seen:List (Option Nat)}{os:List Nat}(S:Sn n xs seen os)(h:seen[b]?=some none):Sn n xs (seen.set b (some (nxt xs b))) (os ++ [b]):=by
 obtain⟨bn,c⟩:=S.shut h
 have nb:b∉os:=fun z=>by rw[AE.mpr z] at c;cases c
 refine⟨by rw[Bt];exact S.len,?_,fun x hx => ?_,fun x hx => ?_⟩
 ·rw[Cw]
  exact⟨S.nd,by simp,fun a ha y hy e=>by
   have:y=b:=by simpa using hy
   exact nb (by rw[<-this,<-e];exact ha)⟩
 ·rcases AM.mp hx with z | z
  ·exact S.lt x z
  ·have:x=b:=by simpa using z
   rw[this];exact bn
 ·rw[MR.zC (by rw[S.len];exact bn)]
  by_cases e:x=b
  ·rw[Aq e,Aq (AE.mpr (by rw[e];simp)),e]
  ·rw[AJ e,S.at' x hx]
   have:(os ++ [b]).contains x=os.contains x:=by
    rw[BD,AE,AE,AM]
    exact⟨fun z=>z.elim id fun z=>absurd (by simpa using z) e,.inl⟩
   rw[this]
def wX1{n:Nat}{xs:List Int}{p k l:Nat}{t:D}{seen mid:List (Option Nat)}{rs:List Rv}(h:Tn bxD nxD (fun b _=>nxt xs b) p k t l seen rs mid):∀os,Sn n xs seen os->Sn n xs mid (os++rs.map (·.1)):=by
 induction h with
 | done _=>intro os S;simpa using S
 | @leafN k t l b seen out rs h1 h2 h3 h4 _ ih =>
  intro os S
  have:=ih (os ++ [b]) (S.put h3)
  rw[Bd] at this
  exact this
 | @nodeN k t l b seen out rs h1 h2 h3 _ ih =>
  intro os S
  have:=ih (os ++ [b]) (S.put h3)
  rw[Bd] at this
  exact this
 | nodeO _ _ _ _ ih=>exact ih
def wU4{n:Nat}{xs:List Int}{T:Nat->D}{ps:List Nat}{seen fin:List (Option Nat)}{out:List (Nat×List Rv)}(h:Gm bxD nxD (fun b _=>nxt xs b) T ps seen out fin):∀os,Sn n xs seen os->Sn n xs fin (os++(allR out).map (·.1)):=by
 induction h with
 | nil=>intro os S;simpa [allR] using S
 | skip _ _ ih=>exact ih
 | @play p k ps seen mid fin rs out _ tn _ ih =>
  intro os S
  have:=ih _ (wX1 tn os S)
  rw[Bd,<-Az] at this
  exact this
def aJ{p l:Nat}{rs:List Rv}(h:Chn p l rs):las rs=l::rs.dropLast.map fun r=>r.2.2:=by
 induction h with
 | last=>rfl
 | @cons b l x rs _ hc ih =>
  have ne:rs ≠ []:=by cases hc <;> exact fun z=>nomatch z
  rw[List.dropLast_cons_of_ne_nil ne]
  show l::las rs=l::(x::rs.dropLast.map fun r=>r.2.2)
  rw[ih]
def xU8{p l:Nat}{rs:List Rv}(h:Chn p l rs):∀(j:Nat) (r:Rv),rs[j]?=some r->r.2.2=if j+1<rs.length then (las rs).getD (j+1) 0 else p:=by
 induction h with
 | last =>
  intro j r e
  cases j with
  | zero =>
   have e:some _=some r:=e
   cases e
   rfl
  | succ j=>cases e
 | @cons b l x rs _ hc ih =>
  intro j r e
  have l0:0<rs.length:=by cases hc <;> exact Nat.succ_pos _
  cases j with
  | zero =>
   have e:some _=some r:=e
   cases e
   rw[Aq (by rw[Av];rfl')]
   show x=(las rs).getD 0 0
   rw[aJ hc]
   rfl
  | succ j =>
   have e:rs[j]?=some r:=by simpa using e
   rw[ih j r e,Av]
   by_cases c:j+1<rs.length
   ·rw[Aq c,Aq (by rfl')]
    rfl
   ·rw[AJ c,AJ (by rfl')]
def xJ1{p l:Nat}{rs:List Rv}(h:Chn p l rs):0<rs.length:=by cases h <;> exact Nat.succ_pos _
def xY8(out:List (Nat×List Rv)):(out.map fun z=>las z.2).flatten=las (allR out):=by
 induction out with
 | nil=>rfl
 | cons z out ih =>
  rw[AU,BH,ih]
  show las z.2++las (allR out)=las (z.2++allR out)
  unfold las
  rw[Az]
def xW9{n:Nat}{ops xs ys:List Int}{t:Nat->D}{out:List (Nat×List Rv)}(w:WrP n ops t xs ys out):(las (allR out)).Perm (List.range n):=by
 have S:=wU4 w.gm [] ⟨Bj,List.nodup_nil,fun b hb=>(by cases hb),fun b hb=>(by rw[Bi,Aq hb];rfl)⟩
 rw[BW] at S
 have nd:(las (allR out)).Nodup:=by
  have:=S.nd
  unfold las
  rw[List.Nodup,BV] at this ⊢
  refine this.imp_of_mem fun {a b} ha hb ne e=>ne ?_
  obtain⟨a1,a2,a3⟩:=w.val a ha
  obtain⟨b1,b2,b3⟩:=w.val b hb
  rw[e,b2] at a2
  exact w.ord.qI a3 b3 (by rw[a1,b1,a2])
 rw[BN nd BL]
 intro y
 rw[Al]
 constructor
 ·intro h
  obtain⟨z,hz,r,hr,rfl⟩:=yV7 h
  obtain⟨c,zn,_⟩:=w.chn z hz
  have m:r.2.1∈las z.2:=Ay.mpr ⟨r,hr,rfl⟩
  rw[aJ c] at m
  rcases An.mp m with e | m
  ·rw[e];exact zn
  ·obtain⟨r',hr',e⟩:=Ay.mp m
   obtain⟨v1,_,v3⟩:=w.val r' (BG.mpr ⟨z,hz,List.dropLast_subset _ hr'⟩)
   rw[<-e,<-v1]
   exact w.ord.xX v3
 ·intro h
  obtain⟨z,hz,r,hr,rfl⟩:=w.all y h
  exact Ay.mpr ⟨r,BG.mpr ⟨z,hz,hr⟩,rfl⟩
def wrB:Ev->Res Out:=(sM 3 appD (aC (e2 catL (eB mkL (aC (eV 4) aN)) (eComp (iS (eS slD (eV 5) oN (oS (e1 negD (eC (.int 1)))))) tYes (e2 ixD (eV 1) (eV 0)) [2])) aN))
def yB3:bJ=(sQ (sS 3 (eB mkL aN)) (sQ (sF (iS (eF kA (aC (eV 0) (aC (eV 1) (aC (eV 2) aN))))) (gT 2 (gsC (gN 4) (gsC (gN 5) gsN))) wrB) (sR (eFA false kL (aC (eV 3) aN))))):=rfl
def yB4{α:Type}(l:List α):cutD l none (some (-1))=l.dropLast:=by
 have e:HT.sIx l.length l.length (some (-1))=l.length-1:=by
  unfold HT.sIx
  simp
  rfl'
 have e0:HT.sIx l.length 0 none=0:=rfl
 unfold cutD
 rw[e,e0,CW,Nat.sub_zero,List.dropLast_eq_take]
def yK1{n:Nat}{ops xs ys:List Int}{t:Nat->D}{out:List (Nat×List Rv)}(w:WrP n ops t xs ys out)(P:PlanOk n ops t)(q:Opn n ops)(h1:1<=n)(h2:n<=6):fU [.tuple ((List.range n).map t),tI ops,tI xs]=.ok (tI ys):=by
 have pm:=xW9 w
 have few:=yS5 w h2
 have rsl:((out.map fun z=>las z.2).map rI').length=out.length:=by rw[Aa,Aa]
 obtain⟨ys',l',h',e'⟩:=yY5 (n:=n) (ds:=(out.map fun z=>las z.2).map fun r=>lI (rI' r)) (rs:=out.map fun z=>las z.2) ⟨by rw[Aa,Aa,Aa,Aa],fun i d hd=>by
  rw[Ai] at hd
  obtain⟨r,hr,rfl⟩:=Ar.mp hd
  exact⟨rI' r,by rw[Ai,hr];rfl,.inr rfl⟩⟩ (by rw[xY8];exact pm) h1 (by rfl') fun r hr=>by
   obtain⟨z,hz,rfl⟩:=Ay.mp hr
   show 0<(las z.2).length
   rw[Aa]
   exact xJ1 (w.chn z hz).1
 have ey:ys'=ys:=by
  refine CI (by rw[l',w.wrt.len]) fun i hi hj => ?_
  rw[l'] at hi
  have g1:ys'[i]=ys'.getD i 0:=by simp[List.getD,l',hi]
  have g2:ys[i]=ys.getD i 0:=by simp[List.getD,w.wrt.len,hi]
  rw[g1,g2,w.wrt.xS hi]
  obtain⟨z,hz,r,hr,er⟩:=w.all i hi
  obtain⟨j,hj,ej⟩:=Bx hr
  have ej':z.2[j]?=some r:=by rw[Ab hj,ej]
  obtain⟨c,zn,_⟩:=w.chn z hz
  have nx:=xU8 c j r ej'
  have v:=(w.val r (BG.mpr ⟨z,hz,hr⟩)).2.1
  have ll:(las z.2).length=z.2.length:=Aa ..
  have gj:(las z.2).getD j 0=i:=by
   rw[List.getD,Ai,ej']
   exact er
  have use:=fun q hq=>h' (las z.2) (Ay.mpr ⟨z,hz,rfl⟩) q hq
  rw[er] at v
  by_cases cj:j+1<z.2.length
  ·have u:=use (j+1) (by rw[ll];exact cj)
   have k1:kx (las z.2).length (j+1)=j:=by unfold kx;rw[AJ (by rfl')];rfl'
   rw[k1,gj] at u
   rw[u,v,nx,Aq cj]
  ·have u:=use 0 (by rw[ll];rfl')
   have k1:kx (las z.2).length 0=j:=by unfold kx;rw[Aq rfl,ll];rfl'
   rw[k1,gj] at u
   rw[u,v,nx,AJ cj,aJ c]
   rfl
 rw[ey] at e'
 obtain⟨ρ',e,x,y,rfl⟩:=jZ (g:=gT 2 (gsC (gN 4) (gsC (gN 5) gsN))) (b:=wrB) (fun j ρ=>∃x y,ρ=[some (.tuple ((List.range n).map t)),some (tI ops),some (tI xs),some (.list (((out.take j).map fun z=>las z.2).map fun r=>lI (rI' r))),x,y]) (out.map turnD) [some (.tuple ((List.range n).map t)),some (tI ops),some (tI xs),some (.list []),none,none] ⟨none,none,rfl⟩ (by
  rintro j d ρ hd ⟨x,y,rfl⟩
  rw[Ai] at hd
  obtain⟨z,hz,rfl⟩:=Ar.mp hd
  have zm:=As hz
  obtain⟨c,zn,_⟩:=w.chn z zm
  have tk:out.take (j+1)=out.take j ++ [z]:=by rw[CD,hz];rfl
  have pl:=w.pers.1 z zm
  have pn:=(w.wrt.xZ zn).2.1
  have cut:cutD (z.2.map fun r=>PyData.int (r.1:Int)) none (some (-1))=z.2.dropLast.map fun r=>PyData.int (r.1:Int):=by rw[yB4,List.map_dropLast]
  have cc:eComp (iS (eS slD (eV 5) oN (oS (e1 negD (eC (.int 1)))))) tYes (e2 ixD (eV 1) (eV 0)) [2] [some (.tuple ((List.range n).map t)),some (tI ops),some (tI xs),some (.list (((out.take j).map fun z=>las z.2).map fun r=>lI (rI' r))),some (.int (z.1:Int)),some (.tuple (z.2.map fun r=>.int (r.1:Int)))]=.ok (.list (z.2.dropLast.map fun r=>PyData.int ((r.2.2:Nat):Int))):=by
   refine vR (fun r:Rv=>PyData.int (r.1:Int)) (fun r:Rv=>PyData.int ((r.2.2:Nat):Int)) z.2.dropLast (by simp![show (-1:Int)=-1 from rfl,cut]) (by rw[Do];rfl') fun r hr => ?_
   obtain⟨v1,_,v3⟩:=w.val r (BG.mpr ⟨z,zm,List.dropLast_subset _ hr⟩)
   have a1:atI (xs.map PyData.int) (r.1:Int)=some (.int ((nxt xs r.1:Nat):Int)):=by
    rw[xF,xL (by rw[w.ord.len];exact v3),w.ord.xS v3]
    rfl
   rw[v1] at a1
   show e2 ixD (eV 1) (eV 0) [some (.int (r.1:Int)),some (tI xs)]=_
   simp![a1]
  have ct:catL (.list [.int (z.1:Int)]) (.list (z.2.dropLast.map fun r=>PyData.int ((r.2.2:Nat):Int)))=some (lI (rI' (las z.2))):=by
   have:=aR (xs:=[(z.1:Int)]) (ys:=z.2.dropLast.map fun r=>((r.2.2:Nat):Int)) (by rw[Aa,Do];simp;rfl')
   rw[aJ c]
   have e1:(z.2.dropLast.map fun r=>PyData.int ((r.2.2:Nat):Int))=(z.2.dropLast.map fun r=>((r.2.2:Nat):Int)).map PyData.int:=by rw[AX];rfl
   have e2:rI' (z.1::z.2.dropLast.map fun r=>r.2.2)=[(z.1:Int)]++z.2.dropLast.map fun r=>((r.2.2:Nat):Int):=by unfold rI';rw[AU,AX];rfl
   rw[e1,e2]
   exact this
  have ap:=gK (l:=((out.take j).map fun z=>las z.2).map fun r=>lI (rI' r)) (d:=lI (rI' (las z.2))) (by rw[Aa,Aa,BE];rfl')
  refine⟨_,_,rfl,?_,some (.int (z.1:Int)),some (.tuple (z.2.map fun r=>.int (r.1:Int))),rfl⟩
  show wrB [some (.tuple ((List.range n).map t)),some (tI ops),some (tI xs),some (.list (((out.take j).map fun z=>las z.2).map fun r=>lI (rI' r))),some (.int (z.1:Int)),some (.tuple (z.2.map fun r=>.int (r.1:Int)))]=_
  unfold wrB
  rw[tk,Az,Az]
  simp![cc,ct,ap]
  rfl)
 rw[Aa,BK] at e
 show (bJ [some (.tuple ((List.range n).map t)),some (tI ops),some (tI xs),none,none,none]).bind (fin false)=_
 rw[yB3]
 have l0:lfT false (tI ys)=true:=xA4 ys
 simp![yY7 w P q h1 h2,e,e',l0]
def xP9{n:Nat}{ops xs ys:List Int}{t:Nat->D}{out:List (Nat×List Rv)}(w:WrP n ops t xs ys out)(P:PlanOk n ops t)(q:Opn n ops)(h1:1<=n)(h2:n<=6):PlyIn 1 (.tuple ((List.range n).map t)) (tI ops) (tI ys) out (full xs n) :=
 ⟨n,_,ops,ys,rfl,rfl,rfl,by rw[Aa,Aj],fun d hd=>by
  obtain⟨p,hp,rfl⟩:=Ay.mp hd
  exact yI7 (P.tree p (Al.mp hp)),q.len,h1,h2,w.wrt,yJ8 w h2,by rw[lam1];exact w.gr⟩
def xL5{n:Nat}{xs:List Int}(o:Ord n xs):(full xs n).map oD=xs.map PyData.int:=by
 have e1:(full xs n).map oD=(List.range n).map fun i=>PyData.int ((nxt xs i:Nat):Int):=by
  unfold full
  rw[AX]
  rfl
 rw[e1]
 refine CI (by rw[Aa,Aa,Aj,o.len]) fun i hi hj => ?_
 have hn:i<n:=by
  rw[Aa,o.len] at hj
  exact hj
 have e:=o.xS hn
 have g:xs[i]'(by rw[o.len];exact hn)=xs.getD i 0:=by simp[List.getD,o.len,hn]
 rw[List.getElem_map,List.getElem_range,List.getElem_map,g,e]
def bN{n:Nat}{ops xs ys:List Int}{t:Nat->D}{out:List (Nat×List Rv)}(w:WrP n ops t xs ys out)(P:PlanOk n ops t)(q:Opn n ops)(h1:1<=n)(h2:n<=6):wE [.tuple ((List.range n).map t),tI ops,tI ys]=.ok (tI xs):=by
 have e1:eP 1 1 [some (.tuple ((List.range n).map t)),some (tI ops),some (tI ys)]=.ok (.list (xs.map PyData.int)):=by
  rw[<-xL5 w.ord]
  exact (yF3 (j:=1) (xP9 w P q h1 h2)).trans rfl
 show (uW [some (.tuple ((List.range n).map t)),some (tI ops),some (tI ys)]).bind (fin false)=_
 unfold uW
 simp![cO q w.wrt h1 h2,e1]
def xI4{n:Nat}{ops ys:List Int}{t:Nat->D}(P:PlanOk n ops t)(q:Opn n ops)(h1:1<=n)(h2:n<=6)(o:Ord n ys):∃xs out,WrP n ops t xs ys out:=by
 have A:=yR6 h1 (show n<7 by rfl')
 generalize allO n=L at A
 have W:∀xs,∃ys,xs∈L->∃out,WrP n ops t xs ys out:=fun xs=>by
  by_cases h:xs∈L
  ·obtain⟨ys,out,w⟩:=yQ8 P q h2 ((A.mem xs).mp h)
   exact⟨ys,fun _=>⟨out,w⟩⟩
  ·exact⟨[],fun z=>absurd z h⟩
 let f:List Int->List Int:=fun xs=>(W xs).choose
 have F:∀xs∈L,∃out,WrP n ops t xs (f xs) out:=fun xs hx=>(W xs).choose_spec hx
 have nd:(L.map f).Nodup:=by
  have go:∀M:List (List Int),M.Nodup->(∀x∈M,x∈L)->(M.map f).Nodup:=by
   intro M
   induction M with
   | nil=>exact fun _ _=>List.nodup_nil
   | cons a M ih =>
    intro h hs
    obtain⟨h1,h2⟩:=Bh.mp h
    rw[AU,Bh]
    refine⟨fun z => ?_,ih h2 fun x hx=>hs x (Ad _ hx)⟩
    obtain⟨b,hb,e⟩:=Ay.mp z
    obtain⟨o1,w1⟩:=F a (hs a Ae)
    obtain⟨o2,w2⟩:=F b (hs b (Ad _ hb))
    rw[e] at w2
    exact h1 (by rw[w1.inj w2];exact hb)
  exact go L A.nd fun x hx=>hx
 have pm:=qP (L.map f) L nd (fun y hy=>by
  obtain⟨x,hx,rfl⟩:=Ay.mp hy
  obtain⟨out,w⟩:=F x hx
  exact (A.mem _).mpr w.wrt) (by rw[Aa];exact Ak _)
 obtain⟨x,hx,e⟩:=Ay.mp (pm.mem_iff.mpr ((A.mem ys).mpr o))
 obtain⟨out,w⟩:=F x hx
 rw[e] at w
 exact⟨x,out,w⟩
def xS4(n:Nat)(p:Int):Ord n (ordP n p):=jM (zR7 n _ p (by rw[Aa,Aj]))
def xK4(c:Int){m:Nat}(h:m<=1000):ordF [.int c,.int (m:Int)]=.ok (tI (ordP m c)):=by
 show (if 0<=(m:Int)/\(m:Int)<=1000 then Res.ok (tI (ordP (m:Int).toNat c)) else .no)=_
 rw[Aq ⟨by rfl',by rfl'⟩,AI]
def numT(b:Nat):Str:=toString (b:Int)
def rT(r:List Nat):Str:=Str.join " " (r.map numT)
def xC:∀b,b<61->((numT b).length<=2/\Txt.isdigit (numT b)=true/\(Txt.startswith (numT b) "0" = false\/numT b="0")/\PySem.intText? (numT b)=some (b:Int))/\41∉tlS (numT b)/\32∉tlS (numT b)/\((b:Int).natAbs.log2<1920)/\PyData.strOk (numT b)=true/\45∉tlS (numT b)/\40∉tlS (numT b)/\tlS (numT b) ≠ []/\10∉tlS (numT b):=by decide +kernel
def xK3{sep:Str}{ts:List Str}(hs:sep.length<=2)(hl:ts.length<=60)(ht:∀t∈ts,t.length<=200):JoinOk sep ts=true/\(Str.join sep ts).length<=202*ts.length:=by
 have h1:=BU 200 hl
 have h2:=Nat.mul_le_mul_left ts.length hs
 refine⟨?_,?_⟩
 ·unfold JoinOk
  rw[StrLaws.joinFits ht (by rfl')]
  rfl
 ·have a:=StrLaws.join_length_le sep ts
  have b:=StrLaws.sumLen_le ts ht
  rfl'
def zW2{sep:Str}{ts:List Str}(h:JoinOk sep ts=true):joinD sep (.list (ts.map PyData.str))=some (.str (Str.join sep ts)):=by
 unfold joinD
 rw[show lstD (.list (ts.map PyData.str))=some (ts.map PyData.str) from rfl,Bg,zR8,Bg,Aq h]
def zS3{z:Str}(h:PyData.strOk z=true):SeqAt.shaped (.str z)=true:=by
 unfold SeqAt.shaped
 rw[PyData.canLay0,PyData.depth,h]
 rfl
def yU2{a b:Str}(ha:PyData.strOk a=true)(hb:PyData.strOk b=true):neD (.str a) (.str b)=some (!decide (a=b)):=by
 unfold neD
 rw[Aq ⟨zS3 ha,zS3 hb⟩,PyData.eqv]
 by_cases e:a=b <;> simp[e]
def xM7{z:Str}:PyData.strOk z=true ↔ ∀c∈tlS z,c<1114112:=by
 unfold PyData.strOk tlS
 rw[<-Array.all_toList,AF]
 exact⟨fun h c hc=>of_decide_eq_true (h c hc),fun h c hc=>AB (h c hc)⟩
def vG{a b:Str}(ha:PyData.strOk a=true)(hb:PyData.strOk b=true):PyData.strOk (a++b)=true:=by
 rw[xM7] at ha hb ⊢
 intro c hc
 rw[yP] at hc
 rcases AM.mp hc with h | h
 ·exact ha c h
 ·exact hb c h
def zX7{y:Str}(hy:PyData.strOk y=true):∀ts:List Str,(∀t∈ts,PyData.strOk t=true)->PyData.strOk (Str.join y ts)=true
 | [],_=>(by decide +kernel:PyData.strOk Str.empty=true)
 | [t],h=>h t Ae
 | t::u::r,h=>by
  rw[jI]
  exact vG (vG (h t Ae) hy) (zX7 hy (u::r) fun x hx=>h x (Ad _ hx))
def xV9:100000<=sizeLine:=by decide
def xG8{r:List Nat}(hr:∀x∈r,x<61)(hl:r.length<=60):(rT r).length<=180:=by
 have a:=StrLaws.join_length_le " " (r.map numT)
 have b:=StrLaws.sumLen_le (B:=2) (r.map numT) fun y hy=>by
  obtain⟨x,hx,rfl⟩:=Ay.mp hy
  exact (xC x (hr x hx)).1.1
 rw[Aa] at a b
 have c:(" ":Str).length=1:=rfl
 unfold rT
 rw[c] at a
 rfl'
def xS7{r:List Nat}{d:D}(hd:d=tI (rI' r)\/d=lI (rI' r))(hr:∀x∈r,x<61)(hl:r.length<=60):eComp (iS (eV 0)) tYes (eB strOfD (aC (eV 0) aN)) [] [some d]=.ok (.list ((r.map numT).map PyData.str)):=by
 rw[AX]
 refine vR (fun b:Nat=>PyData.int (b:Int)) (fun b=>PyData.str (numT b)) r (by
  rcases hd with rfl | rfl
  ·simp -implicitDefEqProofs only[(evA)]
   unfold rI'
   rw[AX]
   rfl
  ·simp -implicitDefEqProofs only[(evA)]
   unfold rI'
   rw[AX]
   rfl) (by rfl') fun b hb => ?_
 have h:=xC b (hr b hb)
 show eB strOfD (aC (eV 0) aN) [some (.int (b:Int))]=_
 have e:strOfD [.int (b:Int)]=some (.str (numT b)):=Aq h.2.2.2.1
 simp![e]
def xY2{r:List Nat}(hr:∀x∈r,x<61)(hl:r.length<=60):joinD " " (.list ((r.map numT).map PyData.str))=some (.str (rT r)):=by
 refine zW2 (xK3 (by decide) (by rw[Aa];exact hl) fun t ht => ?_).1
 obtain⟨x,hx,rfl⟩:=Ay.mp ht
 have:=(xC x (hr x hx)).1.1
 rfl'
def zV4{r:List Nat}{d:D}(hd:d=tI (rI' r)\/d=lI (rI' r))(hr:∀x∈r,x<61)(hl:r.length<=60):vK [d]=.ok (.str (rT r)):=by
 show (qL [some d]).bind (fin false)=_
 unfold qL
 simp![vD,xP,xS7 hd hr hl,xY2 hr hl]
def fE{b:Nat}(h:b<61)(w:Int):yK [.str (numT b),.int w]=.ok (.int (b:Int)):=by
 obtain⟨⟨n1,n2,n3,n4⟩,_,_,_,n5,_⟩:=xC b h
 have lb:=xV9
 have e1:lenTD [.str (numT b)]=some (.int ((numT b).length:Int)):=Aq (by rfl')
 have e2':intTD [.str (numT b)]=some (.int (b:Int)):=by
  show (if (numT b).length<=640 then (PySem.intText? (numT b)).map PyData.int else none)=_
  rw[Aq (by rfl'),n4]
  rfl
 have e3:stwD (numT b) (.str "0")=some (.bool (Txt.startswith (numT b) "0")):=rfl
 show (kX [some (.str (numT b)),some (.int w)]).bind (fin false)=_
 unfold kX
 rcases n3 with n3 | n3
 ·simp![zP8,vD,xP,n2,e1,AA (show ¬(90:Int)<((numT b).length:Int) by rfl'),e3,n3,e2']
 ·have nn:neD (.str (numT b)) (.str "0")=some false:=by
   rw[<-n3,yU2 n5 n5,AB rfl]
   rfl
  generalize Txt.startswith (numT b) "0" = v at e3
  cases v
  ·simp![zP8,vD,xP,n2,e1,AA (show ¬(90:Int)<((numT b).length:Int) by rfl'),e3,e2']
  ·simp![zP8,vD,xP,n2,e1,AA (show ¬(90:Int)<((numT b).length:Int) by rfl'),e3,nn,e2']
def zU7{r:List Nat}(hr:∀x∈r,x<61)(hl:r.length<=60):qH [.list ((r.map numT).map PyData.str),.int 1]=.ok (tI (rI' r)):=by
 have cc:eComp (iS (eV 0)) tYes (eF yK (aC (eV 0) (aC (eV 1) aN))) [1] [some (.list ((r.map numT).map PyData.str)),some (.int 1)]=.ok (.list (r.map fun b:Nat=>PyData.int (b:Int))):=by
  refine vR (fun b:Nat=>PyData.str (numT b)) (fun b=>PyData.int (b:Int)) r (by
   simp -implicitDefEqProofs only[(evA)]
   rw[AX]
   rfl) (by rfl') fun b hb => ?_
  show eF yK (aC (eV 0) (aC (eV 1) aN)) [some (.str (numT b)),some (.int 1)]=_
  simp![fE (hr b hb) 1]
 have e:(PyData.tuple (r.map fun b:Nat=>PyData.int (b:Int)))=tI (rI' r):=by
  unfold tI rI'
  rw[AX]
  rfl
 show (qF [some (.list ((r.map numT).map PyData.str)),some (.int 1)]).bind (fin false)=_
 unfold qF
 simp![cc,e]
def ttx:Nat->D->Str
 | k+1,.tuple [.int b,.tuple ts]=>toString b ++ "("++Str.join " " (ts.map (ttx k)) ++ ")"
 | _,_=>"-"
def zX9(l:Nat):ttx l .none="-":=by cases l <;> rfl
def zW3(l b:Nat)(ts:List D):ttx (l+1) (.tuple [.int (b:Int),.tuple ts])=numT b ++ "("++Str.join " " (ts.map (ttx l)) ++ ")":=rfl
def lm(l:Nat):Nat:=30*6 ^ l
def zQ7{n:Nat}(hn:n<=6){l:Nat}{bs ns:List Int}{d:D}(T:TreeOk n l bs ns d):l<=6->5*(ttx l d).length+11<=16*6 ^ l/\PyData.strOk (ttx l d)=true/\10∉tlS (ttx l d):=by
 induction T with
 | none =>
  intro _
  rw[zX9]
  refine⟨?_,by decide +kernel,by decide⟩
  have:0<6 ^ (‹Nat›:Nat):=Nat.pow_pos (by decide)
  have e:("-":Str).length=1:=rfl
  rw[e]
  rfl'
 | @node l bs ns b f hb _ _ _ ih =>
  intro hl
  have nb:=xC b (by rfl')
  rw[zW3]
  have c1:("(":Str).length=1:=rfl
  have c2:(")":Str).length=1:=rfl
  have six:(6:Nat) ^ (l+1)=6*6 ^ l:=Nat.pow_succ'
  have small:6 ^ l<=6 ^ 6:=Dp (by decide) (by rfl')
  have e6:(6:Nat) ^ 6=46656:=by decide
  have each:∀t∈((List.range n).map f).map (ttx l),(5*t.length+11<=16*6 ^ l)/\PyData.strOk t=true/\10∉tlS t:=fun t ht=>by
   rw[AX] at ht
   obtain⟨i,hi,rfl⟩:=Ay.mp ht
   exact ih i (Al.mp hi) (by rfl')
  obtain⟨B,hB⟩:∃B,B=(16*6 ^ l-11) / 5:=⟨_,rfl⟩
  have j:=zN4 (sep:=" ") (ts:=((List.range n).map f).map (ttx l)) (B:=B) (n:=6) rfl (by simp;exact hn) (fun t ht=>by have:=(each t ht).1;rfl') (by rfl')
  refine⟨?_,?_,?_⟩
  ·rw[AG,AG,AG,c1,c2,six]
   have:=nb.1.1
   have:=j.2
   have:0<6 ^ l:=Nat.pow_pos (by decide)
   rfl'
  ·exact vG (vG (vG nb.2.2.2.2.1 (by decide +kernel)) (zX7 (by decide +kernel) _ fun t ht=>(each t ht).2.1)) (by decide +kernel)
  ·have jn:∀ts:List Str,(∀t∈ts,10∉tlS t)->10∉tlS (Str.join " " ts):=fun ts=>by
    induction ts with
    | nil=>exact fun _ z=>by cases z
    | cons a r ih2 =>
     intro h
     cases r with
     | nil=>exact h a Ae
     | cons b r =>
      rw[jI,yP,yP]
      intro z
      rcases AM.mp z with z | z
      ·rcases AM.mp z with z | z
       ·exact h a Ae z
       ·exact absurd z (by decide)
      ·exact ih2 (fun x hx=>h x (Ad _ hx)) z
   intro z
   rw[yP,yP,yP] at z
   rcases AM.mp z with z | z
   ·rcases AM.mp z with z | z
    ·rcases AM.mp z with z | z
     ·exact nb.2.2.2.2.2.2.2.2 z
     ·exact absurd z (by decide)
    ·exact jn _ (fun t ht=>(each t ht).2.2) z
   ·exact absurd z (by decide)
def aW{n:Nat}(hn:n<=6){l:Nat}{bs ns:List Int}{d:D}(T:TreeOk n l bs ns d)(hl:l<=6):(ttx l d).length<=150000:=by
 have h:=(zQ7 hn T hl).1
 have small:6 ^ l<=6 ^ 6:=Dp (by decide) hl
 have e6:(6:Nat) ^ 6=46656:=by decide
 rfl'
def xM5{n:Nat}(hn:n<=6){l:Nat}{bs:List Int}{ns:Nat->List Int}{f:Nat->D}(T:∀i,i<n->TreeOk n l bs (ns i) (f i))(hl:l<=5):JoinOk " " (((List.range n).map f).map (ttx l))=true/\(Str.join " " (((List.range n).map f).map (ttx l))).length<=150000:=by
 have small:6 ^ l<=6 ^ 5:=Dp (by decide) hl
 have e6:(6:Nat) ^ 5=7776:=by decide
 have j:=zN4 (sep:=" ") (ts:=((List.range n).map f).map (ttx l)) (B:=24900) (n:=6) rfl (by simp;exact hn) (fun t ht=>by
  rw[AX] at ht
  obtain⟨i,hi,rfl⟩:=Ay.mp ht
  have:=(zQ7 hn (T i (Al.mp hi)) (by rfl')).1
  show (ttx l (f i)).length<=24900
  rfl') (by decide)
 exact⟨j.1,by have:=j.2;rfl'⟩
def dG:1000000<=sizeLine:=by decide
def wV3{n:Nat}(hn:n<=6){l:Nat}{bs ns:List Int}{d:D}(T:TreeOk n l bs ns d):∀k,l<k->l<=6->xG k [d]=.ok (.str (ttx l d)):=by
 induction T with
 | @none l bs ns =>
  intro k hk _
  obtain⟨k,rfl⟩:∃j,k=j+1:=⟨k-1,by rfl'⟩
  have i0:isND false .none .none=some true:=rfl
  rw[zX9]
  show (uV (xG k) [some .none,none,none]).bind (fin false)=_
  unfold uV
  simp![i0]
 | @node l bs ns b f hb nb hf Tk ih =>
  intro k hk hl
  obtain⟨k,rfl⟩:∃j,k=j+1:=⟨k-1,by rfl'⟩
  have i0:isND false (.tuple [.int (b:Int),.tuple ((List.range n).map f)]) .none=some false:=rfl
  have a0:atI [PyData.int (b:Int),.tuple ((List.range n).map f)] 0=some (.int (b:Int)):=rfl
  have a1:atI [PyData.int (b:Int),.tuple ((List.range n).map f)] 1=some (.tuple ((List.range n).map f)):=rfl
  obtain⟨j1,j2⟩:=xM5 hn Tk (by rfl')
  have jd:=zW2 j1
  have nk:=xC b (by rfl')
  have so:strOfD [.int (b:Int)]=some (.str (numT b)):=Aq nk.2.2.2.1
  have bl:=dG
  have c1:("(":Str).length=1:=rfl
  have c2:(")":Str).length=1:=rfl
  have n2:=nk.1.1
  rw[zW3]
  have cc:eComp (iS (e2 ixD (eV 0) (eC (.int 1)))) tYes (eF (xG k) (aC (eV 0) aN)) [] [some (.tuple [.int (b:Int),.tuple ((List.range n).map f)]),some (.int (b:Int)),none]=.ok (.list ((((List.range n).map f).map (ttx l)).map PyData.str)):=by
   rw[AX,AX]
   refine vR f (fun i=>PyData.str (ttx l (f i))) (List.range n) (by simp![a1]) (by rw[Aj];rfl') fun i hi => ?_
   have e:=(ih i (Al.mp hi) k (by rfl') (by rfl'))
   show eF (xG k) (aC (eV 0) aN) [some (f i)]=_
   simp![e]
  have f1:fI (.int (b:Int))=some (numT b):=Aq ⟨nk.2.2.2.1,by show (numT b).length<=1000000;rfl'⟩
  have f2:fS (.str (Str.join " " (((List.range n).map f).map (ttx l))))=some (Str.join " " (((List.range n).map f).map (ttx l))):=by
   unfold fS
   rw[xP,Bg,Aq (by rfl')]
  have jj:eJ (jS fI (eV 1) (jC "(" (jS fS (eV 2) (jC ")" jN)))) [some (.tuple [.int (b:Int),.tuple ((List.range n).map f)]),some (.int (b:Int)),some (.str (Str.join " " (((List.range n).map f).map (ttx l))))]=.ok (.str (numT b ++ "("++Str.join " " (((List.range n).map f).map (ttx l)) ++ ")")):=by
   unfold eJ jS jC jN
   simp![f1,f2]
   show Res.ok (PyData.str (Str.empty++numT b ++ "("++Str.join " " (((List.range n).map f).map (ttx l)) ++ ")"))=_
   rw[Dj]
  show (uV (xG k) [some (.tuple [.int (b:Int),.tuple ((List.range n).map f)]),none,none]).bind (fin false)=_
  unfold uV
  simp![i0,a0,vD,xP,cc,jd,jj]
def vJ{a s:Str}{w:Int}(h:(a++s).length<=1000000):yG [.str (a++s),.str a,.int w]=.ok (.str s):=by
 have bl:=dG
 have la:a.length<=(a++s).length:=by rw[AG];rfl'
 have e1:stwD (a++s) (.str a)=some (.bool true):=by
  unfold stwD
  rw[xP,Bs,yG7]
 have e2':lenTD [.str a]=some (.int (a.length:Int)):=Aq (by rfl')
 have e3:slS (.str (a++s)) (some (a.length:Int)) none=some (.str s):=by
  unfold slS
  rw[xP,Bg,Aq (by rfl'),yO8]
 show (kR [some (.str (a++s)),some (.str a),some (.int w)]).bind (fin false)=_
 unfold kR
 simp![vD,xP,e1,e2',e3]
def xZ8{n:Nat}(h1:1<=n)(hn:n<=6){w:Int}{R:D}{l:Nat}{bs ns:List Int}{d:D}(T:TreeOk n l bs ns d):∀(s:Str) (fs:Fs) (m:Nat),l<=6->(ttx l d++s).length<=1000000->fs.length+l<=100 ->
  Run yK yG w (n:Int) R m (some d) s fs->∃m',Run yK yG w (n:Int) R m' none (ttx l d++s) fs:=by
 have bl:=dG
 induction T with
 | none =>
  intro s fs m hl hs hf h
  rw[zX9] at hs ⊢
  exact⟨m+1,⟨by rfl',by rfl'⟩,.inl ⟨yG7 _ _,s,vJ hs,h⟩⟩
 | @node l bs ns b f hb nb hf' Tk ih =>
  intro s fs m hl hs hf h
  have nk:=xC b (by rfl')
  have kids:∀(j i:Nat),i+(j+1)=n->(Str.join " " (((List.range' i (j+1)).map f).map (ttx l))++(")"++s)).length<=1000000->∃m',Run yK yG w (n:Int) R m' none (Str.join " " (((List.range' i (j+1)).map f).map (ttx l))++(")"++s)) (((b:Int),(List.range i).map f)::fs):=by
   intro j
   induction j with
   | zero =>
    intro i hi hlen
    have e:Str.join " " (((List.range' i (0+1)).map f).map (ttx l))=ttx l (f i):=rfl
    rw[e] at hlen ⊢
    have hlen2:(")"++s:Str).length<=1000000:=by rw[AG] at hlen;rfl'
    refine ih i (by rfl') (")"++s) _ (m+1) (by rfl') hlen (by rw[Av];rfl') ⟨by rw[Aa,Aj];rfl',.inl ⟨by rw[Aa,Aj];rfl',s,vJ hlen2,?_⟩⟩
    have e2:(List.range i).map f ++ [f i]=(List.range n).map f:=by rw[<-show i+1=n by rfl',By,Az];rfl
    rw[e2]
    exact h
   | succ j ihj =>
    intro i hi hlen
    have e:Str.join " " (((List.range' i (j+1+1)).map f).map (ttx l))++(")"++s)=ttx l (f i)++(" "++(Str.join " " (((List.range' (i+1) (j+1)).map f).map (ttx l))++(")"++s))):=by
     rw[List.range'_succ,AU,AU,zS4 _ _ (by rw[List.range'_succ];exact fun z=>nomatch z),vU,vU]
    rw[e] at hlen ⊢
    have hlen2:(" "++(Str.join " " (((List.range' (i+1) (j+1)).map f).map (ttx l))++(")"++s)):Str).length<=1000000:=by rw[AG] at hlen;rfl'
    have hlen3:(Str.join " " (((List.range' (i+1) (j+1)).map f).map (ttx l))++(")"++s):Str).length<=1000000:=by rw[AG] at hlen2;rfl'
    obtain⟨m',h'⟩:=ihj (i+1) (by rfl') hlen3
    have e2:(List.range i).map f ++ [f i]=(List.range (i+1)).map f:=by rw[By,Az];rfl
    refine ih i (by rfl') _ _ (m'+1) (by rfl') hlen (by rw[Av];rfl') ⟨by rw[Aa,Aj];rfl',.inr ⟨by rw[Aa,Aj];rfl',_,vJ hlen2,?_⟩⟩
    rw[e2]
    exact h'
  have e:ttx (l+1) (.tuple [.int (b:Int),.tuple ((List.range n).map f)])++s=numT b++("("++(Str.join " " (((List.range n).map f).map (ttx l))++(")"++s))):=by
   rw[zW3,vU,vU,vU]
  rw[e] at hs ⊢
  have hs2:("("++(Str.join " " (((List.range n).map f).map (ttx l))++(")"++s)):Str).length<=1000000:=by rw[AG] at hs;rfl'
  have hs3:(Str.join " " (((List.range n).map f).map (ttx l))++(")"++s):Str).length<=1000000:=by rw[AG] at hs2;rfl'
  have er:List.range n=List.range' 0 (n-1+1):=by rw[show n-1+1=n by rfl',List.range_eq_range']
  obtain⟨m',h'⟩:=kids (n-1) 0 (by rfl') (by rw[<-er];exact hs3)
  rw[<-er] at h'
  obtain⟨p1,p2⟩:=yA2 (a:=numT b) (y:="(") (s:=Str.join " " (((List.range n).map f).map (ttx l))++(")"++s)) (c:=40) rfl nk.2.2.2.2.2.2.1
  refine⟨m'+1,⟨by rfl',by rfl'⟩,.inr ⟨xZ3 (c:=45) rfl nk.2.2.2.2.2.2.2.1 nk.2.2.2.2.2.1,(b:Int),?_,?_⟩⟩
  ·rw[p1]
   exact fE (by rfl') w
  ·rw[p2]
   exact h'
def zB5{n:Nat}(h1:1<=n)(hn:n<=6){w:Int}{l:Nat}{bs ns:List Int}{d:D}(T:TreeOk n l bs ns d)(hl:l<=6):jL [.str (ttx l d),.int (n:Int),.int w]=.ok d:=by
 have small:=aW hn T hl
 have e:ttx l d ++ "" = ttx l d:=jH (by rw[yP];exact Bn _)
 obtain⟨m,h⟩:=xZ8 (w:=w) (R:=d) h1 hn T "" [] 1 hl (by rw[e];rfl') (by show 0+l<=100;rfl') ⟨rfl,rfl⟩
 rw[e] at h
 exact xH4 h
def opN(ops:List Int):List Nat:=ops.map Int.toNat
def yV8{n:Nat}{ops:List Int}(q:Opn n ops):rI' (opN ops)=ops:=by
 unfold rI' opN
 rw[AX]
 have:∀x∈ops,((fun (b:Nat)=>(b:Int))∘Int.toNat) x=x:=fun x hx=>by
  have:=(q.bd x hx).1
  show ((x.toNat:Nat):Int)=x
  rfl'
 rw[BY this,List.map_id']
def aV{n:Nat}{ops:List Int}(q:Opn n ops)(hn:n<=6):∀x∈opN ops,x<61:=fun x hx=>by
 obtain⟨y,hy,rfl⟩:=Ay.mp hx
 have:=(q.bd y hy).2
 rfl'
def aF{n:Nat}{ops:List Int}(q:Opn n ops):(opN ops).length=n:=by unfold opN;rw[Aa,q.len]
def opT(ops:List Int):Str:="openings "++rT (opN ops)
def pT(p:Nat)(x:Str):Str:="person "++numT p ++ " "++x
def lv(ops:List Int)(p:Nat):Nat:=(ops.getD p 0).toNat
def prw(n:Nat)(ops:List Int)(t:Nat->D):List Str:=opT ops::(List.range n).map fun p=>pT p (ttx (lv ops p) (t p))
section
variable {n:Nat}{ops:List Int}{t:Nat->D}
def aQ(q:Opn n ops)(hn:n<=6){p:Nat}(hp:p<n):lv ops p<=6:=by
 have:=q.at hp
 unfold lv
 rfl'
def zO4(q:Opn n ops)(hn:n<=6):(opT ops).length<=200/\(rT (opN ops)).length<=180:=by
 have h:=xG8 (aV q hn) (by rw[aF q];rfl')
 have c:("openings ":Str).length=9:=rfl
 unfold opT
 rw[AG]
 exact⟨by rfl',h⟩
def yF6(P:PlanOk n ops t)(q:Opn n ops)(hn:n<=6){p:Nat}(hp:p<n):(pT p (ttx (lv ops p) (t p))).length<=150010:=by
 have h:=aW hn (P.tree p hp) (aQ q hn hp)
 have nk:=(xC p (by rfl')).1.1
 have c:("person ":Str).length=7:=rfl
 have c2:(" ":Str).length=1:=rfl
 unfold pT
 rw[AG,AG,AG]
 have h':(ttx (lv ops p) (t p)).length<=150000:=h
 rfl'
def xL7(P:PlanOk n ops t)(q:Opn n ops)(hn:n<=6):∀x∈prw n ops t,x.length<=150010:=fun x hx=>by
 rcases An.mp hx with rfl | hx
 ·have:=(zO4 q hn).1
  rfl'
 ·obtain⟨p,hp,rfl⟩:=Ay.mp hx
  exact yF6 P q hn (Al.mp hp)
def zO1:(prw n ops t).length=n+1:=by unfold prw;simp
def zD2(P:PlanOk n ops t)(q:Opn n ops)(hn:n<=6):JoinOk "\n" (prw n ops t)=true/\(Str.join "\n" (prw n ops t)).length<=7*(150010+1) :=
 zN4 rfl (by rw[zO1];rfl') (xL7 P q hn) (by decide)
def wU5{r:List Nat}(hr:∀x∈r,x<61):PyData.strOk (rT r)=true/\10∉tlS (rT r):=by
 refine⟨zX7 (by decide +kernel) _ fun t ht => ?_,?_⟩
 ·obtain⟨x,hx,rfl⟩:=Ay.mp ht
  exact (xC x (hr x hx)).2.2.2.2.1
 ·have:∀l:List Nat,(∀x∈l,x<61)->10∉tlS (Str.join " " (l.map numT)):=fun l=>by
   induction l with
   | nil=>exact fun _ z=>by cases z
   | cons a l ih =>
    intro h
    have ha:=(xC a (h a Ae)).2.2.2.2.2.2.2.2
    cases l with
    | nil=>exact ha
    | cons b l =>
     rw[AU,AU,jI,yP,yP]
     intro z
     rcases AM.mp z with z | z
     ·rcases AM.mp z with z | z
      ·exact ha z
      ·exact absurd z (by decide)
     ·exact ih (fun x hx=>h x (Ad _ hx)) z
  exact this r hr
def wZ1(P:PlanOk n ops t)(q:Opn n ops)(hn:n<=6):∀x∈prw n ops t,PyData.strOk x=true/\10∉tlS x:=fun x hx=>by
 rcases An.mp hx with rfl | hx
 ·have h:=wU5 (aV q hn)
  refine⟨vG (by decide +kernel) h.1,fun z => ?_⟩
  unfold opT at z
  rw[yP] at z
  rcases AM.mp z with z | z
  ·exact absurd z (by decide +kernel)
  ·exact h.2 z
 ·obtain⟨p,hp,rfl⟩:=Ay.mp hx
  have hp:=Al.mp hp
  have h:=zQ7 hn (P.tree p hp) (aQ q hn hp)
  have nk:=xC p (by rfl')
  refine⟨vG (vG (vG (by decide +kernel) nk.2.2.2.2.1) (by decide +kernel)) h.2.1,fun z => ?_⟩
  unfold pT at z
  rw[yP,yP,yP] at z
  rcases AM.mp z with z | z
  ·rcases AM.mp z with z | z
   ·rcases AM.mp z with z | z
    ·exact absurd z (by decide +kernel)
    ·exact nk.2.2.2.2.2.2.2.2 z
   ·exact absurd z (by decide)
  ·exact h.2.2 z
def yF1(P:PlanOk n ops t)(q:Opn n ops)(hn:n<=6):Txt.split (Str.join "\n" (prw n ops t)) "\n" = prw n ops t :=
 zU6 (c:=10) (y':=[]) rfl (by decide +kernel) (fun z=>nomatch z) fun p hp=>(wZ1 P q hn p hp).2
def xW2(i:Nat):(opT ops::(List.range i).map fun p=>pT p (ttx (lv ops p) (t p))).map PyData.str ++ [PyData.str (pT i (ttx (lv ops i) (t i)))]=(opT ops::(List.range (i+1)).map fun p=>pT p (ttx (lv ops p) (t p))).map PyData.str:=by
 rw[By,Az,AU,AU,Az]
 rfl
def zE4(P:PlanOk n ops t)(q:Opn n ops)(h1:1<=n)(hn:n<=6):jY [tI ops,.tuple ((List.range n).map t)]=.ok (.str (Str.join "\n" (prw n ops t))):=by
 show (fK [some (tI ops),some (.tuple ((List.range n).map t)),none,none,none,none,none]).bind (fin false)=_
 have e0:=yV8 q
 have lr:=(zO4 q hn).2
 have hl:((List.range n).map t).length=n:=by rw[Aa,Aj]
 have en:vK [tI ops]=.ok (.str (rT (opN ops))):=zV4 (r:=opN ops) (.inl (by rw[e0])) (aV q hn) (by rw[aF q];rfl')
 have fs:fS (.str (rT (opN ops)))=some (rT (opN ops)):=by
  unfold fS
  rw[xP,Bg,Aq (by rfl')]
 have jo:eJ (jC "openings " (jS fS (eV 2) jN)) [some (tI ops),some (.tuple ((List.range n).map t)),some (.str (rT (opN ops))),none,none,none,none]=.ok (.str (opT ops)):=by
  unfold eJ jS jC jN
  simp![fs]
  show Res.ok (PyData.str (Str.empty ++ "openings "++rT (opN ops)))=_
  rw[Dj]
  rfl
 have jd:=zW2 (zD2 P q hn).1
 unfold fK
 simp![hl,wK q h1 (show n<=60 by rfl'),en,jo,fG]
 refine aG (fun i ρ=>∃x y z,ρ=[some (tI ops),some (.tuple ((List.range n).map t)),some (.str (rT (opN ops))),some (.list ((opT ops::(List.range i).map fun p=>pT p (ttx (lv ops p) (t p))).map PyData.str)),x,y,z]) ⟨none,none,none,rfl⟩ ?_ ?_
 ·rintro i d ρ hd ⟨x,y,z,rfl⟩
  rw[Ai] at hd
  obtain⟨j,ej,rfl⟩:=Ar.mp hd
  have hi:i<n:=by simpa using (Ac.mp ej).1
  rw[AH hi] at ej
  cases ej
  have nk:=xC i (by rfl')
  have n2:=nk.1.1
  have tx:=aW hn (P.tree i hi) (aQ q hn hi)
  have tx:(ttx (lv ops i) (t i)).length<=150000:=tx
  have e1:fJ [t i]=.ok (.str (ttx (lv ops i) (t i))):=(wV3 hn (P.tree i hi) 14 (by have:=aQ q hn hi;unfold lv at this;rfl') (aQ q hn hi))
  have f1:fI (.int (i:Int))=some (numT i):=Aq ⟨nk.2.2.2.1,by show (numT i).length<=1000000;rfl'⟩
  have f2:fS (.str (ttx (lv ops i) (t i)))=some (ttx (lv ops i) (t i)):=by
   unfold fS
   rw[xP,Bg,Aq (by rfl')]
  have jj:eJ (jC "person " (jS fI (eV 4) (jC " " (jS fS (eV 6) jN)))) [some (tI ops),some (.tuple ((List.range n).map t)),some (.str (rT (opN ops))),some (.list ((opT ops::(List.range i).map fun p=>pT p (ttx (lv ops p) (t p))).map PyData.str)),some (.int (i:Int)),some (t i),some (.str (ttx (lv ops i) (t i)))]=.ok (.str (pT i (ttx (lv ops i) (t i)))):=by
   unfold eJ jS jC jN
   simp![f1,f2]
   show Res.ok (PyData.str (Str.empty ++ "person "++numT i ++ " "++ttx (lv ops i) (t i)))=_
   rw[Dj]
   rfl
  have ap:appD ((opT ops::(List.range i).map fun p=>pT p (ttx (lv ops p) (t p))).map PyData.str) [.str (pT i (ttx (lv ops i) (t i)))]=some ((opT ops::(List.range (i+1)).map fun p=>pT p (ttx (lv ops p) (t p))).map PyData.str):=by
   rw[<-xW2]
   exact gK (by simp;rfl')
  refine⟨_,[some (tI ops),some (.tuple ((List.range n).map t)),some (.str (rT (opN ops))),some (.list ((opT ops::(List.range (i+1)).map fun p=>pT p (ttx (lv ops p) (t p))).map PyData.str)),some (.int (i:Int)),some (t i),some (.str (ttx (lv ops i) (t i)))],rfl,?_,_,_,_,rfl⟩
  simp![e1,jj,ap]
 ·rintro ρ ⟨x,y,z,rfl⟩
  rw[Aa,Aj]
  have jd':joinD "\n" (.list ((opT ops::(List.range n).map fun p=>pT p (ttx (lv ops p) (t p))).map PyData.str))=some (.str (Str.join "\n" (prw n ops t))):=jd
  simp![vD,xP,jd']
def zX6(q:Opn n ops)(h1:1<=n)(hn:n<=6):qS [.str (opT ops)]=.ok (tI ops):=by
 have bl:=dG
 have lo:=(zO4 q hn).1
 have ne:(opN ops).map numT ≠ []:=fun z=>by
  have e:=Bw List.length z
  rw[Aa,aF q] at e
  have:n=0:=e
  rfl'
 have jn:opT ops=Str.join " " (("openings":Str)::(opN ops).map numT):=by
  rw[zS4 _ _ ne,<-vU]
  show "openings "++rT (opN ops)=_
  rw[show ("openings ":Str)="openings" ++ " " from jH (by decide +kernel)]
  rfl
 have sp:splD (opT ops) (.str " ")=some (.list (((("openings":Str)::(opN ops).map numT)).map PyData.str)):=by
  unfold splD
  have sj:Txt.split (Str.join " " (("openings":Str)::(opN ops).map numT)) " " = ("openings":Str)::(opN ops).map numT:=zU6 (c:=32) (y':=[]) rfl (by decide +kernel) (fun z=>nomatch z) fun p hp=>by
   rcases An.mp hp with rfl | hp
   ·decide +kernel
   ·obtain⟨x,hx,rfl⟩:=Ay.mp hp
    exact (xC x (aV q hn x hx)).2.2.1
  rw[xP,Bg,Aq ⟨by decide,by rfl'⟩,jn,sj]
 have a0:atI (PyData.str "openings"::((opN ops).map numT).map PyData.str) 0=some (.str "openings"):=zA6 _ _
 have nn:neD (.str "openings") (.str "openings")=some false:=by
  rw[yU2 (by decide +kernel) (by decide +kernel),AB rfl]
  rfl
 have sl:slD (.list (PyData.str "openings"::((opN ops).map numT).map PyData.str)) (some 1) none=some (.list (((opN ops).map numT).map PyData.str)):=by
  show some (PyData.list (cutD (PyData.str "openings"::((opN ops).map numT).map PyData.str) (some ((1:Nat):Int)) none))=_
  rw[zG9]
  rfl
 have er:=zU7 (r:=opN ops) (aV q hn) (by rw[aF q];rfl')
 rw[yV8 q] at er
 have ty:∀(mb:Ev->Res Out) (ρ:Ev),sTryN mb ρ=noEx (mb ρ):=fun _ _=>rfl
 have nx:∀x:Out,noEx (Res.ok x)=.ok x:=fun _=>rfl
 rw[AU] at sp
 show (qN [some (.str (opT ops)),none,none]).bind (fin false)=_
 unfold qN
 simp![vD,xP,sp,a0,nn,sl,er,ty,nx,qZ q h1 hn]
def zO7(P:PlanOk n ops t)(q:Opn n ops)(h1:1<=n)(hn:n<=6){p:Nat}(hp:p<n):wJ [.str (pT p (ttx (lv ops p) (t p))),.int (p:Int),.int (n:Int)]=.ok (t p):=by
 have nk:=xC p (by rfl')
 have n2:=nk.1.1
 have lp:=yF6 P q hn hp
 have f1:fI (.int (p:Int))=some (numT p):=Aq ⟨nk.2.2.2.1,by show (numT p).length<=1000000;rfl'⟩
 have jj:eJ (jC "person " (jS fI (eV 1) (jC " " jN))) [some (.str (pT p (ttx (lv ops p) (t p)))),some (.int (p:Int)),some (.int (n:Int)),some (.int ((p:Int)+2))]=.ok (.str ("person "++numT p ++ " ")):=by
  unfold eJ jS jC jN
  simp![f1]
  show Res.ok (PyData.str (Str.empty ++ "person "++numT p ++ " "))=_
  rw[Dj]
 have bs:yG [.str (pT p (ttx (lv ops p) (t p))),.str ("person "++numT p ++ " "),.int ((p:Int)+2)]=.ok (.str (ttx (lv ops p) (t p))):=vJ (Bf (show (pT p (ttx (lv ops p) (t p))).length<=150010 from lp) (by decide))
 have rt:jL [.str (ttx (lv ops p) (t p)),.int (n:Int),.int ((p:Int)+2)]=.ok (t p):=zB5 h1 hn (P.tree p hp) (aQ q hn hp)
 show (kW [some (.str (pT p (ttx (lv ops p) (t p)))),some (.int (p:Int)),some (.int (n:Int)),none]).bind (fin false)=_
 unfold kW
 simp![jj,bs,rt]
def zC3(P:PlanOk n ops t)(q:Opn n ops)(h1:1<=n)(hn:n<=6):jO [.str (Str.join "\n" (prw n ops t))]=.ok (.tuple [tI ops,.tuple ((List.range n).map t)]):=by
 have bl:=line16
 have lj:=(zD2 P q hn).2
 have sp:splD (Str.join "\n" (prw n ops t)) (.str "\n")=some (.list ((prw n ops t).map PyData.str)):=by
  unfold splD
  rw[xP,Bg,Aq ⟨by decide,by rfl'⟩,yF1 P q hn]
 have a0:atI ((prw n ops t).map PyData.str) 0=some (.str (opT ops)):=zA6 _ _
 have sl:slD (.list ((prw n ops t).map PyData.str)) (some 1) (some ((n:Int)+1))=some (.list ((List.range n).map fun p=>PyData.str (pT p (ttx (lv ops p) (t p))))):=by
  show some (PyData.list (cutD ((prw n ops t).map PyData.str) (some ((1:Nat):Int)) (some ((n+1:Nat):Int))))=_
  have e:cutD ((prw n ops t).map PyData.str) (some ((1:Nat):Int)) (some ((n+1:Nat):Int))=(List.range n).map fun p=>PyData.str (pT p (ttx (lv ops p) (t p))):=by
   have ln:((prw n ops t).map PyData.str).length=n+1:=by rw[Aa,zO1]
   have e1:cutD ((prw n ops t).map PyData.str) (some ((1:Nat):Int)) (some ((n+1:Nat):Int))=cutD ((prw n ops t).map PyData.str) (some ((1:Nat):Int)) none:=by
    unfold cutD
    rw[ln]
    have:HT.sIx (n+1) (n+1) (some ((n+1:Nat):Int))=HT.sIx (n+1) (n+1) none:=by
     rw[HT.yX5,HT.yS1,Nat.min_self]
    rw[this]
   rw[e1,zG9]
   show ((List.range n).map fun p=>pT p (ttx (lv ops p) (t p))).map PyData.str=_
   rw[AX]
   rfl
  rw[e]
 have en:∀f:Nat->D,enumD ((List.range n).map f)=(List.range n).map fun (i:Nat)=>PyData.tuple [.int (i:Int),f i]:=fG n
 have cc:eComp2 (xQ (eS slD (eV 1) (oS (eC (.int 1))) (oS (e2 addI (eV 3) (eC (.int 1)))))) tYes (eF wJ (aC (eV 1) (aC (eV 0) (aC (eV 2) aN)))) [3] [some (.str (Str.join "\n" (prw n ops t))),some (.list ((prw n ops t).map PyData.str)),some (tI ops),some (.int (n:Int)),none]=.ok (.list ((List.range n).map t)):=by
  refine dE (fun p:Nat=>PyData.int (p:Int)) (fun p=>PyData.str (pT p (ttx (lv ops p) (t p)))) t (List.range n) (by simp![sl,en]) (by rw[Aj];rfl') fun p hp => ?_
  have hp:=Al.mp hp
  show eF wJ _ [some (.int (p:Int)),some (.str (pT p (ttx (lv ops p) (t p)))),some (.int (n:Int))]=_
  simp![zO7 P q h1 hn hp]
 have ln:((prw n ops t).map PyData.str).length=n+1:=by rw[Aa,zO1]
 have ol:(ops.map PyData.int).length=n:=by rw[Aa,q.len]
 have ei:(((n+1:Nat):Nat):Int)=(n:Int)+1:=by rfl'
 have mp:=cJ P q h1 hn (x:=.list ((List.range n).map t)) (.inr rfl)
 show (fM [some (.str (Str.join "\n" (prw n ops t))),none,none,none,none]).bind (fin false)=_
 unfold fM
 simp![vD,xP,sp,a0,zX6 q h1 hn,ol,cc,ln,ei,uD,decide_true,mp]
end
def lwI:Ev->Res Out:=(sIf (tO (b2 neD (eF fW (aC (eV 3) (aC (eV 2) (aC (eV 6) aN)))) (eF vF (aC (eV 7) (aC (eV 2) aN)))) (b2 neD (eF wE (aC (eV 3) (aC (eV 2) (aC (eV 7) aN)))) (eV 6))) (sR (eC (.bool false))) sN)
def lwJ:Ev->Res Out:=(sIf (tAn (tV (eF uI (aC (eV 3) (aC (eV 6) aN)))) (tNt (tV (eF fW (aC (eV 3) (aC (eV 2) (aC (eV 6) aN))))))) (sR (eC (.bool false))) sN)
def lwK:Ev->Res Out:=(sIf (b2 neD (eF fW (aC (eV 3) (aC (eV 2) (aC (eF wE (aC (eV 3) (aC (eV 2) (aC (eV 6) aN)))) aN)))) (eF vF (aC (eV 6) (aC (eV 2) aN)))) (sR (eC (.bool false))) sN)
def lwL:Ev->Res Out:=(sIf (b2 neD (eF xO (aC (e2 ixD (eV 4) (eC (.int 1))) (aC (eV 6) aN))) (eF xO (aC (eV 3) (aC (eV 6) aN)))) (sR (eC (.bool false))) sN)
def wV1:yK2=(sQ (sA (eF jG (aC (eV 0) aN)) (gT 2 (gsC (gN 1) (gsC (gN 2) gsN)))) (sQ (sS 3 (eF gG (aC (eV 0) (aC (eV 1) (aC (eV 2) aN))))) (sQ (sIf (b2 neD (eF uZ (aC (eV 2) (aC (eV 3) aN))) (eV 3)) (sR (eC (.bool false))) sN) (sQ (sS 4 (eF jO (aC (eF jY (aC (eV 2) (aC (eV 3) aN))) aN))) (sQ (sIf (b2 neD (eV 4) (eB mkT (aC (eV 2) (aC (eV 3) aN)))) (sR (eC (.bool false))) sN) (sQ (sF (iS (e2 catL (eB mkL (aC (eB lenD (aC (eV 0) aN)) aN)) (eB listD (aC (eS slD (eV 0) (oS (eC (.int 1))) (oS (eC (.int 41)))) aN)))) (gN 5) (sQ (sS 6 (eF ordF (aC (eV 5) (aC (eV 1) aN)))) (sQ (sS 7 (eF fU (aC (eV 3) (aC (eV 2) (aC (eV 6) aN))))) (sQ lwI (sQ lwJ (sQ lwK lwL)))))) (sR (eC (.bool true))))))))):=rfl
def zB1{d:D}(h:SeqAt.shaped d=true):neD d d=some false:=by
 unfold neD
 rw[Aq ⟨h,h⟩,SeqAt.eqv_refl _ (SeqAt.canLay_of_shaped h)]
 rfl
def zZ4{n:Nat}{ops:List Int}{t:Nat->D}(P:PlanOk n ops t)(q:Opn n ops)(hn:n<=6):SeqAt.shaped (.tuple ((List.range n).map t))=true/\SeqAt.shaped (.tuple [tI ops,.tuple ((List.range n).map t)])=true:=by
 obtain⟨a,b,_⟩:=P.shape q hn
 have c:∀l:List Int,PyData.canLayAll0 (l.map PyData.int)=true/\PyData.depthAll (l.map PyData.int)=0:=fun l=>by
  induction l with
  | nil=>exact⟨rfl,rfl⟩
  | cons x l ih=>exact⟨by rw[AU,PyData.canLayAll0,ih.1];rfl,by rw[AU,PyData.depthAll,ih.2];rfl⟩
 refine⟨?_,?_⟩
 ·unfold SeqAt.shaped
  rw[PyData.canLay0,PyData.depth,a,AB (by rfl')]
  rfl
 ·unfold SeqAt.shaped
  rw[PyData.canLay0,PyData.depth,PyData.canLayAll0,PyData.canLayAll0,PyData.canLayAll0,PyData.depthAll,PyData.depthAll,PyData.depthAll,PyData.canLay0,PyData.canLay0,PyData.depth,PyData.depth,a,(c ops).1,(c ops).2,AB (by rfl')]
  rfl
def law_true(ns:List Int)(h:ns.length<=63):yO9 [.list (ns.map PyData.int)]=.ok (.bool true):=by
 show (yK2 [some (lI ns),none,none,none,none,none,none,none]).bind (fin false)=_
 obtain⟨n,ops,h1,h2,q,eg,_⟩:=yM6 ns
 obtain⟨t,P,ep⟩:=yD2 ns q h1 h2
 have gt:gT 2 (gsC (gN 1) (gsC (gN 2) gsN)) (.tuple [.int (n:Int),tI ops]) [some (lI ns),none,none,none,none,none,none,none]=some [some (lI ns),some (.int (n:Int)),some (tI ops),none,none,none,none,none]:=rfl
 have em:=cJ P q h1 h2 (x:=.tuple ((List.range n).map t)) (.inl rfl)
 have et:=zE4 P q h1 h2
 have er:=zC3 P q h1 h2
 have n1:=zB1 (zZ4 P q h2).1
 have n2:=zB1 (zZ4 P q h2).2
 have hl:(ns.map PyData.int).length=ns.length:=Aa ..
 have c1:cutD (ns.map PyData.int) (some 1) (some 41)=(cutD ns (some 1) (some 41)).map PyData.int:=xX7 ..
 have cl:(cutD ns (some 1) (some 41)).length<=63:=by
  unfold cutD
  rw[BE,BQ]
  rfl'
 generalize cutD ns (some 1) (some 41)=ms at c1 cl
 have c2:catL (.list [.int (ns.length:Int)]) (.list (ms.map PyData.int))=_:=aR (xs:=[(ns.length:Int)]) (ys:=ms) (by simp;rfl')
 have nb:∀b:Bool,neD (.bool b) (.bool b)=some false:=fun b=>by rw[xV8];simp
 have a1:atI [tI ops,.tuple ((List.range n).map t)] 1=some (.tuple ((List.range n).map t)):=rfl
 rw[wV1]
 simp![eg,gt,ep,em,n1,et,er,n2,hl,c1,c2]
 refine aG (fun i ρ=>∃a b c,ρ=[some (lI ns),some (.int (n:Int)),some (tI ops),some (.tuple ((List.range n).map t)),some (.tuple [tI ops,.tuple ((List.range n).map t)]),a,b,c]) ⟨none,none,none,rfl⟩ ?_ ?_
 ·rintro i d ρ hd ⟨a5,a6,a7,rfl⟩
  rw[Ai] at hd
  obtain⟨c,_,rfl⟩:=Ar.mp hd
  have eo:=xK4 c (m:=n) (by rfl')
  have o:=xS4 n c
  generalize ordP n c=xs at eo o
  obtain⟨ys,out,w⟩:=yQ8 P q h2 o
  obtain⟨zs,out2,w2⟩:=xI4 P q h1 h2 o
  have e6:=yK1 w P q h1 h2
  have e8:=yT3 w P q h1 h2
  have e9:=zZ8 w.wrt q h1 (show n<=60 by rfl')
  rw[xR3 w.wrt] at e9
  have fw:=yB8 w P q h2
  rw[zE1 w q] at e8 fw
  have eu:=bN w P q h1 h2
  have eu2:=bN w2 P q h1 h2
  have e10:=yT3 w2 P q h1 h2
  rw[zE1 w2 q] at e10
  have e11:=zZ8 o q h1 (show n<=60 by rfl')
  rw[xR3 o] at e11
  have eb:=zQ3 o q P (show n<=60 by rfl')
  have ef:=xR9 o q P (show n<=60 by rfl')
  have nx:neD (tI xs) (tI xs)=some false:=by rw[yJ1,AB rfl];rfl
  have nf:neD (tI (FB n ops t xs)) (tI (FB n ops t xs))=some false:=by rw[yJ1,AB rfl];rfl
  obtain⟨ρ,hρ⟩:∃ρ:Ev,ρ=[some (lI ns),some (.int (n:Int)),some (tI ops),some (.tuple ((List.range n).map t)),some (.tuple [tI ops,.tuple ((List.range n).map t)]),some (.int c),some (tI xs),some (tI ys)]:=⟨_,rfl⟩
  have ei:lwI ρ=.ok (.nx ρ):=by
   rw[hρ]
   unfold lwI
   simp![e8,e9,nb,eu,nx]
  have ej:lwJ ρ=.ok (.nx ρ):=by
   rw[hρ]
   unfold lwJ
   cases a:aB n ops t xs with
   | false =>
    rw[a] at eb
    simp![eb]
   | true =>
    rw[a] at eb
    rw[fw a] at e8
    simp![eb,e8]
  have ek:lwK ρ=.ok (.nx ρ):=by
   rw[hρ]
   unfold lwK
   simp![eu2,e10,e11,nb]
  have el:lwL ρ=.ok (.nx ρ):=by
   rw[hρ]
   unfold lwL
   simp![a1,ef,nf]
  rw[hρ] at ei ej ek el
  refine⟨_,[some (lI ns),some (.int (n:Int)),some (tI ops),some (.tuple ((List.range n).map t)),some (.tuple [tI ops,.tuple ((List.range n).map t)]),some (.int c),some (tI xs),some (tI ys)],rfl,?_,_,_,_,rfl⟩
  simp![eo,e6,ei,ej,ek,el]
 ·rintro ρ ⟨a,b,c,rfl⟩
  simp -implicitDefEqProofs only[(evA)]
end K58
set_option hygiene false in
local macro_rules | `(tactic| sleep 11)=>`(tactic| (dsimp only[L2.KOf];refine' ⟨_,_,L2.gW KX G ?a ?l ?c ?k ?b⟩; (case a=>k_is); (case l=>k_is); (case c=>k_is); (case k=>k_is); (case b=>intro _ _ _ _ _ _;refine L2.L3.ls1 ?_;exact fun _=>rfl)))
set_option hygiene false in
local macro_rules | `(tactic| sleep 12)=>`(tactic| (dsimp only[L2.KOf];refine' ⟨_,_,L2.gW KX G ?a ?l ?c ?k ?b⟩; (case a=>k_is); (case l=>k_is); (case c=>k_is); (case k=>k_is); (case b=>intro _ _ _ _ _ _;refine L2.L3.ls2 ?_;exact fun _ _=>rfl)))
set_option hygiene false in
local macro_rules | `(tactic| sleep 13)=>`(tactic| (dsimp only[L2.KOf];refine' ⟨_,_,L2.gW KX G ?a ?l ?c ?k ?b⟩; (case a=>k_is); (case l=>k_is); (case c=>k_is); (case k=>k_is); (case b=>intro _ _ _ _ _ _;refine L2.L3.ls3 ?_;exact fun _ _ _=>rfl)))
set_option hygiene false in
local macro_rules | `(tactic| sleep 14)=>`(tactic| (dsimp only[L2.KOf];refine' ⟨_,_,L2.gW KX G ?a ?l ?c ?k ?b⟩; (case a=>k_is); (case l=>k_is); (case c=>k_is); (case k=>k_is); (case b=>intro _ _ _ _ _ _;refine L2.L3.ls4 ?_;exact fun _ _ _ _=>rfl)))
set_option hygiene false in
local macro_rules | `(tactic| sleep 15)=>`(tactic| (dsimp only[L2.KOf];refine' ⟨_,_,L2.gW KX G ?a ?l ?c ?k ?b⟩; (case a=>k_is); (case l=>k_is); (case c=>k_is); (case k=>k_is); (case b=>intro _ _ _ _ _ _;refine L2.L3.ls5 ?_;exact fun _ _ _ _ _=>rfl)))
set_option hygiene false in
local macro_rules | `(tactic| sleep 16)=>`(tactic| (dsimp only[L2.KOf];refine' ⟨_,_,L2.gW KX G ?a ?l ?c ?k ?b⟩; (case a=>k_is); (case l=>k_is); (case c=>k_is); (case k=>k_is); (case b=>intro _ _ _ _ _ _;refine L2.L3.ls6 ?_;exact fun _ _ _ _ _ _=>rfl)))
def PySem.W.Fast.tw5879200793107831393 : Unit := ()
theorem PySem.W.Fast.te5879200793107831393 : True := trivial
def PySem.W.Fast.tw14301970139575213043 : PySem.Program := PySem.Challenge.pw_ownboxes_k58_whole_plans_of_six
theorem PySem.W.Fast.te14301970139575213043 : PySem.Challenge.pw_ownboxes_k58_whole_plans_of_six = PySem.W.Fast.tw14301970139575213043 := rfl
def PySem.W.Fast.tw1780271070270093823 : Unit := ()
def PySem.W.Fast.tw7547715458900547866 : Unit := ()
def PySem.W.Fast.tw2687924398619980914 : Unit := ()
def PySem.W.Fast.tw1324912233388796188 : Unit := ()
def PySem.W.Fast.tw7606576046585801178 : Unit := ()
def PySem.W.Fast.tw17624226763043915946 : Unit := ()
def PySem.W.Fast.tw13081818859642594508 : Unit := ()
def PySem.W.Fast.tw3547488952800187659 : Unit := ()
def PySem.W.Fast.tw17134321454706919749 : Unit := ()
open PySem PySem.W PyProof.Rows
def K58.big_mk{K:KFr}{a_BadOpenings a_BadOrder a_BadPlan:PySem.Addr}(n_BadOpenings:PySem.W.nsIn K PySem.mainGlobals "BadOpenings" = some (some (.ref a_BadOpenings)))(n_BadOrder:PySem.W.nsIn K PySem.mainGlobals "BadOrder" = some (some (.ref a_BadOrder)))(n_BadPlan:PySem.W.nsIn K PySem.mainGlobals "BadPlan" = some (some (.ref a_BadPlan)))(o_BadOrder:PySem.W.excIn K a_BadOrder L2.L3.bmV "ValueError.__new__" = true)(g1_BadOrder:PySem.W.findIn K (.ref a_BadOrder) "__getattribute__" = some (some (.builtin "BaseException.__getattribute__")))(g2_BadOrder:PySem.W.findIn K (.ref a_BadOrder) "__getattr__" = some none)(g3_BadOrder:PySem.W.findIn K (.ref a_BadOrder) "__class__" = some (some (.builtin "object.__class__")))(g4_BadOrder:PySem.W.kitOne K (.ref a_BadOrder) (.type "BaseException")=some true)(g5_BadOrder:PySem.W.kitOne K (.ref a_BadOrder) (.type "object")=some true)(g6_BadOrder:(PySem.W.clsIn K a_BadOrder).isSome=true)(o_BadOpenings:PySem.W.excIn K a_BadOpenings L2.L3.bmV "ValueError.__new__" = true)(g1_BadOpenings:PySem.W.findIn K (.ref a_BadOpenings) "__getattribute__" = some (some (.builtin "BaseException.__getattribute__")))(g2_BadOpenings:PySem.W.findIn K (.ref a_BadOpenings) "__getattr__" = some none)(g3_BadOpenings:PySem.W.findIn K (.ref a_BadOpenings) "__class__" = some (some (.builtin "object.__class__")))(g4_BadOpenings:PySem.W.kitOne K (.ref a_BadOpenings) (.type "BaseException")=some true)(g5_BadOpenings:PySem.W.kitOne K (.ref a_BadOpenings) (.type "object")=some true)(g6_BadOpenings:(PySem.W.clsIn K a_BadOpenings).isSome=true)(o_BadPlan:PySem.W.excIn K a_BadPlan L2.L3.bmV "ValueError.__new__" = true)(g1_BadPlan:PySem.W.findIn K (.ref a_BadPlan) "__getattribute__" = some (some (.builtin "BaseException.__getattribute__")))(g2_BadPlan:PySem.W.findIn K (.ref a_BadPlan) "__getattr__" = some none)(g3_BadPlan:PySem.W.findIn K (.ref a_BadPlan) "__class__" = some (some (.builtin "object.__class__")))(g4_BadPlan:PySem.W.kitOne K (.ref a_BadPlan) (.type "BaseException")=some true)(g5_BadPlan:PySem.W.kitOne K (.ref a_BadPlan) (.type "object")=some true)(g6_BadPlan:(PySem.W.clsIn K a_BadPlan).isSome=true):∃a_BadOpenings a_BadOrder a_BadPlan:PySem.Addr,(PySem.W.nsIn K PySem.mainGlobals "BadOpenings" = some (some (.ref a_BadOpenings)))/\(PySem.W.nsIn K PySem.mainGlobals "BadOrder" = some (some (.ref a_BadOrder)))/\(PySem.W.nsIn K PySem.mainGlobals "BadPlan" = some (some (.ref a_BadPlan)))/\(PySem.W.excIn K a_BadOrder L2.L3.bmV "ValueError.__new__" = true)/\(PySem.W.findIn K (.ref a_BadOrder) "__getattribute__" = some (some (.builtin "BaseException.__getattribute__")))/\(PySem.W.findIn K (.ref a_BadOrder) "__getattr__" = some none)/\(PySem.W.findIn K (.ref a_BadOrder) "__class__" = some (some (.builtin "object.__class__")))/\(PySem.W.kitOne K (.ref a_BadOrder) (.type "BaseException")=some true)/\(PySem.W.kitOne K (.ref a_BadOrder) (.type "object")=some true)/\((PySem.W.clsIn K a_BadOrder).isSome=true)/\(PySem.W.excIn K a_BadOpenings L2.L3.bmV "ValueError.__new__" = true)/\(PySem.W.findIn K (.ref a_BadOpenings) "__getattribute__" = some (some (.builtin "BaseException.__getattribute__")))/\(PySem.W.findIn K (.ref a_BadOpenings) "__getattr__" = some none)/\(PySem.W.findIn K (.ref a_BadOpenings) "__class__" = some (some (.builtin "object.__class__")))/\(PySem.W.kitOne K (.ref a_BadOpenings) (.type "BaseException")=some true)/\(PySem.W.kitOne K (.ref a_BadOpenings) (.type "object")=some true)/\((PySem.W.clsIn K a_BadOpenings).isSome=true)/\(PySem.W.excIn K a_BadPlan L2.L3.bmV "ValueError.__new__" = true)/\(PySem.W.findIn K (.ref a_BadPlan) "__getattribute__" = some (some (.builtin "BaseException.__getattribute__")))/\(PySem.W.findIn K (.ref a_BadPlan) "__getattr__" = some none)/\(PySem.W.findIn K (.ref a_BadPlan) "__class__" = some (some (.builtin "object.__class__")))/\(PySem.W.kitOne K (.ref a_BadPlan) (.type "BaseException")=some true)/\(PySem.W.kitOne K (.ref a_BadPlan) (.type "object")=some true)/\((PySem.W.clsIn K a_BadPlan).isSome=true):=⟨a_BadOpenings,a_BadOrder,a_BadPlan,n_BadOpenings,n_BadOrder,n_BadPlan,o_BadOrder,g1_BadOrder,g2_BadOrder,g3_BadOrder,g4_BadOrder,g5_BadOrder,g6_BadOrder,o_BadOpenings,g1_BadOpenings,g2_BadOpenings,g3_BadOpenings,g4_BadOpenings,g5_BadOpenings,g6_BadOpenings,o_BadPlan,g1_BadPlan,g2_BadPlan,g3_BadPlan,g4_BadPlan,g5_BadPlan,g6_BadPlan⟩
set_option maxRecDepth 100000 in
set_option maxHeartbeats 0 in
theorem PySem.Challenge.cw_ownboxes_k58_whole_plans_of_six_holds : PySem.Challenge.rw_ownboxes_k58_whole_plans_of_six.Holds := by
 w_on;o_law;k_head; (case hw=>w_witness2)
 k_fill
 refine L2.L3.yC9 (F:=K58.yO9) (k:=18) (l:=PySem.Challenge.rw_ownboxes_k58_whole_plans_of_six) K58.law_true ⟨rfl,by decide,by decide⟩ rfl rfl (fun w h Y=>PySem.W.km_in_of Y) (fun w=>by rfl) ?F ?TT
 case TT=>exact L2.yF9 (fun w=>by rfl) (fun w=>by kernel_rfl) (fun w=>by kernel_rfl)
 case F =>
  intro w mg fa h KX G hmg
  letI cn:L2.L3.CN:=L2.L3.cnOf (L2.KOf KX)
  have D_is_order:∃f fd,L2.Has (L2.KOf KX) mg "is_order" K58.kH f fd ["names"]:=by sleep 11
  have D_ring_from:∃f fd,L2.Has (L2.KOf KX) mg "ring_from" K58.jT f fd ["order","box"]:=by sleep 12
  have D_rings_of:∃f fd,L2.Has (L2.KOf KX) mg "rings_of" K58.kE f fd ["order"]:=by sleep 11
  have D_order_by:∃f fd,L2.Has (L2.KOf KX) mg "order_by" K58.kN f fd ["rings"]:=by sleep 11
  have D_made_openings:∃f fd,L2.Has (L2.KOf KX) mg "made_openings" K58.vX f fd ["people","numbers"]:=by sleep 12
  have D_short_ring:∃f fd,L2.Has (L2.KOf KX) mg "short_ring" K58.vW f fd ["order","openings"]:=by sleep 12
  have D_all_find:∃f fd,L2.Has (L2.KOf KX) mg "all_find" K58.kK f fd ["order","openings"]:=by sleep 12
  have D_openings_of_a_plan:∃f fd,L2.Has (L2.KOf KX) mg "openings_of_a_plan" K58.xH f fd ["openings"]:=by sleep 11
  have D_made_tree:∃f fd,L2.Has (L2.KOf KX) mg "made_tree" K58.uY f fd ["tree","people","left","boxes","names"]:=by sleep 15
  have D_made_plan:∃f fd,L2.Has (L2.KOf KX) mg "made_plan" K58.uU f fd ["openings","trees"]:=by sleep 12
  have D_check_boxes:∃f fd,L2.Has (L2.KOf KX) mg "check_boxes" K58.uK f fd ["plan","order"]:=by sleep 12
  have D_boxes_down:∃f fd,L2.Has (L2.KOf KX) mg "boxes_down" K58.qX f fd ["tree","order"]:=by sleep 12
  have D_finders_by:∃f fd,L2.Has (L2.KOf KX) mg "finders_by" K58.vV f fd ["plan","order"]:=by sleep 12
  have D_all_find_by:∃f fd,L2.Has (L2.KOf KX) mg "all_find_by" K58.uH f fd ["plan","order"]:=by sleep 12
  have D_check_game:∃f fd,L2.Has (L2.KOf KX) mg "check_game" K58.qU f fd ["plan","openings","order"]:=by sleep 13
  have D_one_turn:∃f fd,L2.Has (L2.KOf KX) mg "one_turn" K58.kG f fd ["tree","person","seen","name_in"]:=by sleep 14
  have D_played:∃f fd,L2.Has (L2.KOf KX) mg "played" K58.qE f fd ["plan","openings","name_in"]:=by sleep 13
  have D_turns:∃f fd,L2.Has (L2.KOf KX) mg "turns" K58.kD f fd ["plan","openings","order"]:=by sleep 13
  have D_won:∃f fd,L2.Has (L2.KOf KX) mg "won" K58.zV7 f fd ["plan","openings","order"]:=by sleep 13
  have D_written:∃f fd,L2.Has (L2.KOf KX) mg "written" K58.kZ f fd ["plan","openings","order"]:=by sleep 13
  have D_unwritten:∃f fd,L2.Has (L2.KOf KX) mg "unwritten" K58.wC f fd ["plan","openings","order"]:=by sleep 13
  have D_numbers_text:∃f fd,L2.Has (L2.KOf KX) mg "numbers_text" K58.wQ f fd ["numbers"]:=by sleep 11
  have D_read_number:∃f fd,L2.Has (L2.KOf KX) mg "read_number" K58.uL f fd ["word","row"]:=by sleep 12
  have D_read_numbers:∃f fd,L2.Has (L2.KOf KX) mg "read_numbers" K58.wT f fd ["words","row"]:=by sleep 12
  have D_tree_text:∃f fd,L2.Has (L2.KOf KX) mg "tree_text" K58.wA f fd ["tree"]:=by sleep 11
  have D_plan_text:∃f fd,L2.Has (L2.KOf KX) mg "plan_text" K58.jW f fd ["openings","plan"]:=by sleep 12
  have D_read_openings:∃f fd,L2.Has (L2.KOf KX) mg "read_openings" K58.vZ f fd ["text"]:=by sleep 11
  have D_behind_sign:∃f fd,L2.Has (L2.KOf KX) mg "behind_sign" K58.uJ f fd ["text","sign","row"]:=by sleep 13
  have D_read_tree:∃f fd,L2.Has (L2.KOf KX) mg "read_tree" K58.jP f fd ["text","people","row"]:=by sleep 13
  have D_read_person:∃f fd,L2.Has (L2.KOf KX) mg "read_person" K58.uN f fd ["text","person","people"]:=by sleep 13
  have D_read_plan:∃f fd,L2.Has (L2.KOf KX) mg "read_plan" K58.uQ f fd ["text"]:=by sleep 11
  have D_l_cell_at:∃f fd,L2.Has (L2.KOf KX) mg "_law_cell_at" K58.jR f fd ["script","k"]:=by sleep 12
  have D_l_sums:∃f fd,L2.Has (L2.KOf KX) mg "_law_sums" K58.hV f fd ["script","start","many"]:=by sleep 13
  have D_l_take:∃f fd,L2.Has (L2.KOf KX) mg "_law_take" K58.dF f fd ["pot","many"]:=by sleep 12
  have D_l_order:∃f fd,L2.Has (L2.KOf KX) mg "_law_order" K58.jK f fd ["pot","people"]:=by sleep 12
  have D_l_openings:∃f fd,L2.Has (L2.KOf KX) mg "_law_openings" K58.vM f fd ["pot","people"]:=by sleep 12
  have D_l_tree:∃f fd,L2.Has (L2.KOf KX) mg "_law_tree" K58.qA f fd ["pot","people","left","boxes","names","thin"]:=by sleep 16
  have D_l_plan:∃f fd,L2.Has (L2.KOf KX) mg "_law_plan" K58.gS f fd ["script","people","openings"]:=by sleep 13
  have D_l_great:∃f fd,L2.Has (L2.KOf KX) mg "_law_great" K58.uC f fd ["script"]:=by sleep 11
  have D_law:∃f fd,L2.Has (L2.KOf KX) mg "law" K58.zG2 f fd ["script"]/\(∀(s:Shared) (u:Value),BindsTo s fd ⟨[u],[]⟩ [("script",u)]):=by
   dsimp only[L2.KOf]
   refine' ⟨_,_,L2.gW KX G ?a ?l ?c ?k ?b,?d⟩
   (case a=>k_is); (case l=>k_is); (case c=>k_is); (case k=>k_is)
   (case b=>intro _ _ _ _ _ _;refine L2.L3.ls1 ?_;exact fun _=>rfl)
   (case d=>exact fun s u=>.of_eq rfl)
  have BIG:∃a_BadOpenings a_BadOrder a_BadPlan:PySem.Addr,(PySem.W.nsIn (L2.KOf KX) PySem.mainGlobals "BadOpenings" = some (some (.ref a_BadOpenings)))/\(PySem.W.nsIn (L2.KOf KX) PySem.mainGlobals "BadOrder" = some (some (.ref a_BadOrder)))/\(PySem.W.nsIn (L2.KOf KX) PySem.mainGlobals "BadPlan" = some (some (.ref a_BadPlan)))/\(PySem.W.excIn (L2.KOf KX) a_BadOrder L2.L3.bmV "ValueError.__new__" = true)/\(PySem.W.findIn (L2.KOf KX) (.ref a_BadOrder) "__getattribute__" = some (some (.builtin "BaseException.__getattribute__")))/\(PySem.W.findIn (L2.KOf KX) (.ref a_BadOrder) "__getattr__" = some none)/\(PySem.W.findIn (L2.KOf KX) (.ref a_BadOrder) "__class__" = some (some (.builtin "object.__class__")))/\(PySem.W.kitOne (L2.KOf KX) (.ref a_BadOrder) (.type "BaseException")=some true)/\(PySem.W.kitOne (L2.KOf KX) (.ref a_BadOrder) (.type "object")=some true)/\((PySem.W.clsIn (L2.KOf KX) a_BadOrder).isSome=true)/\(PySem.W.excIn (L2.KOf KX) a_BadOpenings L2.L3.bmV "ValueError.__new__" = true)/\(PySem.W.findIn (L2.KOf KX) (.ref a_BadOpenings) "__getattribute__" = some (some (.builtin "BaseException.__getattribute__")))/\(PySem.W.findIn (L2.KOf KX) (.ref a_BadOpenings) "__getattr__" = some none)/\(PySem.W.findIn (L2.KOf KX) (.ref a_BadOpenings) "__class__" = some (some (.builtin "object.__class__")))/\(PySem.W.kitOne (L2.KOf KX) (.ref a_BadOpenings) (.type "BaseException")=some true)/\(PySem.W.kitOne (L2.KOf KX) (.ref a_BadOpenings) (.type "object")=some true)/\((PySem.W.clsIn (L2.KOf KX) a_BadOpenings).isSome=true)/\(PySem.W.excIn (L2.KOf KX) a_BadPlan L2.L3.bmV "ValueError.__new__" = true)/\(PySem.W.findIn (L2.KOf KX) (.ref a_BadPlan) "__getattribute__" = some (some (.builtin "BaseException.__getattribute__")))/\(PySem.W.findIn (L2.KOf KX) (.ref a_BadPlan) "__getattr__" = some none)/\(PySem.W.findIn (L2.KOf KX) (.ref a_BadPlan) "__class__" = some (some (.builtin "object.__class__")))/\(PySem.W.kitOne (L2.KOf KX) (.ref a_BadPlan) (.type "BaseException")=some true)/\(PySem.W.kitOne (L2.KOf KX) (.ref a_BadPlan) (.type "object")=some true)/\((PySem.W.clsIn (L2.KOf KX) a_BadPlan).isSome=true):=by
   dsimp only[L2.KOf]
   refine' K58.big_mk ?q_n_BadOpenings ?q_n_BadOrder ?q_n_BadPlan ?q_o_BadOrder ?q_g1_BadOrder ?q_g2_BadOrder ?q_g3_BadOrder ?q_g4_BadOrder ?q_g5_BadOrder ?q_g6_BadOrder ?q_o_BadOpenings ?q_g1_BadOpenings ?q_g2_BadOpenings ?q_g3_BadOpenings ?q_g4_BadOpenings ?q_g5_BadOpenings ?q_g6_BadOpenings ?q_o_BadPlan ?q_g1_BadPlan ?q_g2_BadPlan ?q_g3_BadPlan ?q_g4_BadPlan ?q_g5_BadPlan ?q_g6_BadPlan
   (case q_n_BadOpenings=>k_is)
   (case q_n_BadOrder=>k_is)
   (case q_n_BadPlan=>k_is)
   (case q_o_BadOrder=>k_exc)
   (case q_g1_BadOrder=>k_is)
   (case q_g2_BadOrder=>k_is)
   (case q_g3_BadOrder=>k_is)
   (case q_g4_BadOrder=>kit_is)
   (case q_g5_BadOrder=>kit_is)
   (case q_g6_BadOrder=>first | k_is | rfl | decide +kernel)
   (case q_o_BadOpenings=>k_exc)
   (case q_g1_BadOpenings=>k_is)
   (case q_g2_BadOpenings=>k_is)
   (case q_g3_BadOpenings=>k_is)
   (case q_g4_BadOpenings=>kit_is)
   (case q_g5_BadOpenings=>kit_is)
   (case q_g6_BadOpenings=>first | k_is | rfl | decide +kernel)
   (case q_o_BadPlan=>k_exc)
   (case q_g1_BadPlan=>k_is)
   (case q_g2_BadPlan=>k_is)
   (case q_g3_BadPlan=>k_is)
   (case q_g4_BadPlan=>kit_is)
   (case q_g5_BadPlan=>kit_is)
   (case q_g6_BadPlan=>first | k_is | rfl | decide +kernel)
  obtain⟨a_BadOpenings,a_BadOrder,a_BadPlan,n_BadOpenings,n_BadOrder,n_BadPlan,o_BadOrder,g1_BadOrder,g2_BadOrder,g3_BadOrder,g4_BadOrder,g5_BadOrder,g6_BadOrder,o_BadOpenings,g1_BadOpenings,g2_BadOpenings,g3_BadOpenings,g4_BadOpenings,g5_BadOpenings,g6_BadOpenings,o_BadPlan,g1_BadPlan,g2_BadPlan,g3_BadPlan,g4_BadPlan,g5_BadPlan,g6_BadPlan⟩:=BIG
  have e_BadOpenings:L2.L3.CN.ad "BadOpenings" = a_BadOpenings:=L2.L3.yP6 n_BadOpenings
  have e_BadOrder:L2.L3.CN.ad "BadOrder" = a_BadOrder:=L2.L3.yP6 n_BadOrder
  have e_BadPlan:L2.L3.CN.ad "BadPlan" = a_BadPlan:=L2.L3.yP6 n_BadPlan
  have k_BadOrder:PySem.ExK (L2.KOf KX) (L2.L3.CN.ad "BadOrder"):=by rw[e_BadOrder];exact⟨g1_BadOrder,g2_BadOrder,g3_BadOrder,L2.L3.hZ g4_BadOrder,L2.L3.hZ g5_BadOrder,g6_BadOrder⟩
  have k_BadOpenings:PySem.ExK (L2.KOf KX) (L2.L3.CN.ad "BadOpenings"):=by rw[e_BadOpenings];exact⟨g1_BadOpenings,g2_BadOpenings,g3_BadOpenings,L2.L3.hZ g4_BadOpenings,L2.L3.hZ g5_BadOpenings,g6_BadOpenings⟩
  have k_BadPlan:PySem.ExK (L2.KOf KX) (L2.L3.CN.ad "BadPlan"):=by rw[e_BadPlan];exact⟨g1_BadPlan,g2_BadPlan,g3_BadPlan,L2.L3.hZ g4_BadPlan,L2.L3.hZ g5_BadPlan,g6_BadPlan⟩
  have A_played:(PySem.W.tabIn (L2.KOf KX) "played").isSome=true:=by
   dsimp only[L2.KOf]
   kernel_rfl
  have B_played:∃c P,PySem.W.tabIn (L2.KOf KX) "played" = some (c,P)/\∀f fd,L2.Has (L2.KOf KX) mg "played" K58.qE f fd ["plan","openings","name_in"]->fd.code=.ref c:=L2.zN3 KX G A_played
  have A_turns:(PySem.W.tabIn (L2.KOf KX) "turns").isSome=true:=by
   dsimp only[L2.KOf]
   kernel_rfl
  have dY:∃c P,PySem.W.tabIn (L2.KOf KX) "turns" = some (c,P)/\∀f fd,L2.Has (L2.KOf KX) mg "turns" K58.kD f fd ["plan","openings","order"]->fd.code=.ref c:=L2.zN3 KX G A_turns
  have A_unwritten:(PySem.W.tabIn (L2.KOf KX) "unwritten").isSome=true:=by
   dsimp only[L2.KOf]
   kernel_rfl
  have uW:∃c P,PySem.W.tabIn (L2.KOf KX) "unwritten" = some (c,P)/\∀f fd,L2.Has (L2.KOf KX) mg "unwritten" K58.wC f fd ["plan","openings","order"]->fd.code=.ref c:=L2.zN3 KX G A_unwritten
  have T:K58.Txt (L2.KOf KX) mg:=by
   dsimp only[L2.KOf]
   refine' ⟨Bp KX G ?z0,Bp KX G ?z1,Bp KX G ?z2,Bp KX G ?z3,Bp KX G ?z4,Bp KX G ?z5,Bp KX G ?z6,Bp KX G ?z7,Bp KX G ?z8,Bp KX G ?z9,Bp KX G ?z10,Bp KX G ?z11,⟨_,Ci KX G ?y0,?x0⟩,⟨_,Ci KX G ?y1,?x1⟩,⟨_,Ci KX G ?y2,?x2⟩,D_is_order,D_ring_from,D_rings_of,D_order_by,D_made_openings,D_short_ring,D_all_find,D_openings_of_a_plan,D_made_tree,D_made_plan,D_check_boxes,D_boxes_down,D_finders_by,D_all_find_by,D_check_game,D_one_turn,D_played,D_turns,D_won,D_written,D_unwritten,D_numbers_text,D_read_number,D_read_numbers,D_tree_text,D_plan_text,D_read_openings,D_behind_sign,D_read_tree,D_read_person,D_read_plan,D_l_cell_at,D_l_sums,D_l_take,D_l_order,D_l_openings,D_l_tree,D_l_plan,D_l_great,(let ⟨f,fd,h,_⟩:=D_law; ⟨f,fd,h⟩),B_played,dY,uW,?xa0,?xa1,?xa2,?xb0,?xb1,?xb2⟩
   (case z0=>k_is)
   (case z1=>k_is)
   (case z2=>k_is)
   (case z3=>k_is)
   (case z4=>k_is)
   (case z5=>k_is)
   (case z6=>k_is)
   (case z7=>k_is)
   (case z8=>k_is)
   (case z9=>k_is)
   (case z10=>k_is)
   (case z11=>k_is)
   (case y0=>k_is); (case x0=>exact⟨_,rfl⟩)
   (case y1=>k_is); (case x1=>exact⟨_,rfl⟩)
   (case y2=>k_is); (case x2=>exact⟨_,rfl⟩)
   (case xa0=>rw[e_BadOpenings];exact Ci KX G n_BadOpenings)
   (case xa1=>rw[e_BadOrder];exact Ci KX G n_BadOrder)
   (case xa2=>rw[e_BadPlan];exact Ci KX G n_BadPlan)
   (case xb0=>unfold L2.L3.OwnX;rw[e_BadOpenings];exact o_BadOpenings)
   (case xb1=>unfold L2.L3.OwnX;rw[e_BadOrder];exact o_BadOrder)
   (case xb2=>unfold L2.L3.OwnX;rw[e_BadPlan];exact o_BadPlan)
  obtain⟨fl,fdl,HL,HB⟩:=D_law
  have e0:=hmg.symm.trans HL.m
  cases e0
  exact⟨fdl,HB,fun base kb nb=>K58.xE1 T HL⟩
