import PyProof.Rows.All
import Wide.All
import OpenK.AllK
import Wide.FinOn
import Lean
import PyProof.EqAt
import PyProof.EqKinds
import PyProof.TupleCall
import KE.KIntText
import PySem.Challenge.RW_ownboxes_k54_counts_asked
set_option compiler.extract_closed false
theorem aQ(_h:True:=by first | exact .inl rfl | exact .inr rfl | assumption):True:=trivial
theorem zD(_h:True:=by decide):True:=trivial
theorem wG8(_h:True:=by first | exact nobehind _ (by decide) (by decide) | rfl):True:=trivial
theorem uP(_h:True:=by intro _;rfl):True:=trivial
theorem zU(_h:True:=by rfl):True:=trivial
theorem xK2(_h:True:=by intros;rfl):True:=trivial
theorem zD4(_h:True:=by with_unfolding_all rfl):True:=trivial
theorem jV(_h:True:=by first | exact Or.inl rfl | exact Or.inr (Or.inl rfl) | exact Or.inr (Or.inr rfl)):True:=trivial
theorem wG9(_h:True:=by exact fun _ _=>rfl):True:=trivial
theorem xZ9(_h:True:=by first | exact nomark _ | rfl):True:=trivial
theorem aP(_h:True:=by first | exact Or.inl rfl | exact Or.inr rfl):True:=trivial
theorem autoK12(_h:True:=by first | exact .inl rfl | exact .inr rfl):True:=trivial
theorem autoK13(_h:True:=by exact PassesOwn.never):True:=trivial
def DX:=aQ._auto_1
def DY:=jV._auto_1
def DZ:=uP._auto_1
def Ea:=zD._auto_1
def Eb:=zU._auto_1
local macro_rules | `(tactic| rfl')=>`(tactic| first | lia | omega)
set_option Elab.async false
set_option linter.all false
set_option maxRecDepth 100000
set_option maxHeartbeats 4000000
noncomputable section
def Aa:=@List.length_map
def Ab:=@Nat.le_refl
def Ac:=@if_pos
def Ad:=@decide_eq_false
def Ae:=@List.getElem?_eq_getElem
def Af:=@List.mem_cons_self
def Ag:=@decide_eq_true
def Ah:=@if_neg
def Ai:=@PySem.Heap.get?_push_of_some
def Aj:=@List.mem_cons_of_mem
def Ak:=@List.getD_eq_getElem?_getD
def Al:=@List.getElem?_map
def Am:=@PySem.wpAny_bind
def An:=@List.length_append
def Ao:=@List.size_toArray
def Ap:=@List.mem_append_right
def Aq:=@List.length_range
def Ar:=@Nat.lt_of_lt_of_le
def As:=@PySem.Heap.lt_size
def Au:=@List.getElem?_eq_some_iff
def Av:=@List.map_map
def Aw:=@PySem.PassesOwn.leaving
def Ax:=@List.length_cons
def Ay:=@PySem.boot_len
def Az:=@Option.map_eq_some_iff
def AA:=@PySem.Heap.get?_push_size
def AB:=@List.mem_range
def AC:=@Option.bind_eq_some_iff
def AD:=@Int.mul_assoc
def AE:=@List.mem_map
def AF:=@PySem.wpAny_pure
def AG:=@Bool.false_ne_true
def AH:=@Nat.le_trans
def AI:=@List.map_cons
def AJ:=@Option.some.inj
def AK:=@List.map_append
def AL:=@Nat.ne_of_lt
def AM:=@List.mem_cons
def AN:=@List.getElem?_range
def AO:=@List.getElem?_set_ne
def AQ:=@List.nodup_cons
def AR:=@Option.bind_some
def AS:=@Nat.add_sub_add_right
def AT:=@Nat.lt_of_le_of_lt
def AU:=@Nat.add_sub_cancel
def AV:=@Bool.and_eq_true
def AW:=@Int.toNat_natCast
def AX:=@List.mem_append
def AY:=@PySem.mem_of_lookup
def AZ:=@PySem.F.slot_list_append
def Ba:=@PySem.F.type_list_append
def Bb:=@List.mem_append_left
def Bc:=@congrArg
def Bd:=@Classical.choose_spec
def Be:=@PySem.W.mg_none_of
def Bf:=@List.map_congr_left
def Bg:=@Nat.mul_le_mul_right
def Bh:=@List.append_assoc
def Bi:=@PySem.Str.length_append
def Bj:=@List.contains_iff_mem
def Bk:=@Nat.zero_le
def Bl:=@List.replicate_succ
def Bm:=@List.length_singleton
def Bn:=@PyProof.Rows.boot_min
def Bo:=@List.getElem?_append_right
def Bp:=@Nat.mod_lt
def Bq:=@List.mem_of_getElem?
def Bs:=@List.getElem?_append_left
def Bt:=@Int.mul_comm
def Bu:=@Option.map_some
def Bv:=@List.all_eq_true
def Bw:=@List.map_eq_nil_iff
def Bx:=@List.flatten_cons
def By:=@Nat.lt_trichotomy
def Bz:=@Nat.lt_trans
def BA:=@Int.add_zero
def BB:=@List.pairwise_cons
def BC:=@List.append_nil
def BD:=@Nat.le_of_lt
def BE:=@List.getElem?_set_self
def BF:=@List.length_drop
def BG:=@List.lookup_cons
def BH:=@List.take_of_length_le
def BI:=@List.pairwise_iff_getElem
def BJ:=@Array.length_toList
def BK:=@Int.le_refl
def BL:=@List.length_replicate
def BM:=@List.idxOf_lt_length_iff
def BN:=@List.length_take
def BO:=@List.getElem?_cons_succ
def BP:=@PySem.F.plainAttrs_list
def BQ:=@List.mem_flatten
def BR:=@PyProof.Rows.callWith_type1
def BS:=@Nat.mul_comm
def BT:=@Int.mul_zero
def BU:=@Int.zero_mul
def BV:=@PyProof.Rows.slot_tuple_getitem
def BW:=@PySem.F.slot_str_join
def BX:=@PySem.F.type_str_join
def BY:=@Nat.eq_zero_or_pos
def BZ:=@List.map_replicate
def Ca:=@List.length_erase_of_mem
def Cb:=@Nat.pow_le_pow_right
def Cc:=@Int.mul_le_mul_of_nonneg_left
def Cd:=@Nat.toDigits_of_lt_base
def Ce:=@List.mem_filter
def Cf:=@List.nil_append
def Cg:=@Bool.eq_iff_iff
def Ch:=@List.range_succ
def Ci:=@List.flatten_append
def Cj:=@List.map_nil
def Ck:=@PySem.Heap.get?_update_other
def Cl:=@List.pairwise_lt_range
def Cm:=@List.sublist_flatten_of_mem
def Cn:=@PySem.F.slot_str_split
def Co:=@PySem.F.type_str_split
def Cp:=@Int.one_mul
def Cq:=@List.nodup_range
def Cr:=@Nat.mod_eq_of_lt
def Cs:=@PySem.Heap.size_push
def Cu:=@Bool.false_eq_true
def Cv:=@List.getElem?_eq_none
def Cw:=@List.drop_eq_getElem_cons
def Cy:=@List.length_set
def Cz:=@Int.zero_add
def CA:=@Nat.pow_lt_pow_right
def CB:=@Nat.lt_irrefl
def CC:=@List.any_cons
def CD:=@PySem.W.mg_of
def CF:=@List.filter_eq_self
def CG:=@List.drop_length
def CH:=@List.take_length
def CI:=@List.eq_nil_of_length_eq_zero
def CJ:=@Int.add_mul
def CK:=@List.drop_append_of_le_length
def CL:=@List.take_append_of_le_length
def CM:=@Nat.sub_le
def CO:=@List.find?_cons
def CP:=@Int.natCast_mul
def CQ:=@Nat.div_le_self
def CS:=@Int.ofNat_inj
def CT:=@Ne.symm
def CU:=@Function.comp_def
def CV:=@List.reverse_cons
def CW:=@Bool.and_eq_true_iff
def CY:=@List.perm_ext_iff_of_nodup
def CZ:=@Int.mul_add
def Da:=@Nat.pow_add
def Db:=@List.mem_iff_getElem
def Dc:=@Int.mul_nonneg
def Dd:=@Nat.min_eq_right
def De:=@List.filterMap_cons
def Df:=@Nat.mul_le_mul_left
def Dg:=@PySem.F.args_tuple_add_2
def Dh:=@PyProof.noPylong_of_log2
def Di:=@Nat.min_eq_left
def Dj:=@Nat.lt_of_lt_of_eq
def Dk:=@List.contains_cons
def Dl:=@Int.natAbs_natCast
def Dm:=@List.getElem?_replicate
def Dn:=@PySem.F.entry_tuple_add
def Do:=@Nat.log2_lt
def Dp:=@Nat.add_mul
def Dq:=@Nat.one_mul
def Dr:=@Nat.gcd_pos_of_pos_left
def Ds:=@Nat.ne_of_gt
def Dt:=@PySem.F.slot_tuple_add
def Du:=@PySem.Calls.callWith_builtin
def Dv:=@Nat.lt_succ_of_lt
def Dw:=@List.pairwise_map
def Dx:=@Int.natAbs_mul
def Dy:=@PySem.StrLaws.join_length_le
def Dz:=@PySem.F.slot_dict_get
def DA:=@PyProof.Rows.boot_max
def DB:=@Nat.lt_succ_self
def DC:=@Option.getD_some
def DD:=@Nat.not_lt
def DE:=@List.ext_getElem
def DF:=@PySem.Str.empty_append
def DG:=@List.all_cons
def DH:=@PySem.Calls.evalArgs_plain
def DI:=@PySem.F.args_list_append_2
def DJ:=@List.reverse_reverse
def DK:=@List.foldl_cons
def DL:=@List.length_nil
def DM:=@Int.natCast_pos
def DN:=@PySem.F.entry_list_append
def DO:=@Int.le_trans
def DP:=@List.mem_filterMap
def DQ:=@PySem.Calls.spliced_cons
def DR:=@PySem.F.slot_list_append
def DS:=@Nat.mul_le_mul
def DT:=@PySem.F.args_str_split_2
def DU:=@List.getElem?_drop
def DV:=@List.mem_singleton
def DW:=@Int.mul_one
abbrev KFr:=PySem.W.Frag
namespace L2
open PySem PySem.Spec PyProof.Rows
abbrev Key:=Sum Int Str
def keyIs:Key->Value->Bool
 | .inl k,v=>Value.isInt k v
 | .inr x,v=>Value.isStrOf x v
def keyH(w:World):Key->Int
 | .inl k=>hashInt k
 | .inr x=>hashStr w x
theorem wW:∀{k:Key}{v:Value},keyIs k v=true->(∃i t,k=Sum.inl i/\v=Value.int i t)\/(∃x t,k=Sum.inr x/\v=Value.str x t)
 | .inl i,v,h=>by
  obtain⟨t,e⟩:=Value.isInt_shape (k:=i) (v:=v) h
  exact .inl ⟨i,t,rfl,e⟩
 | .inr x,v,h=>by
  obtain⟨t,e⟩:=Value.isStrOf_shape (x:=x) (v:=v) h
  exact .inr ⟨x,t,rfl,e⟩
theorem xU8(i:Int)(t:Tok):keyIs (.inl i) (.int i t)=true:=by simp[keyIs,Value.isInt]
theorem xQ4(x:Str)(t:Tok):keyIs (.inr x) (.str x t)=true:=by simp[keyIs,Value.isStrOf]
theorem wI6(a b:Int):decide ((Sum.inl a:Key)=Sum.inl b)=(a == b):=by
 by_cases e:a=b
 ·subst e;simp
 ·have h:¬(Sum.inl a:Key)=Sum.inl b:=fun q=>e (Sum.inl.inj q)
  rw[Ad h]
  exact (beq_eq_false_iff_ne.mpr e).symm
theorem wP1(a b:Str):decide ((Sum.inr a:Key)=Sum.inr b)=decide (a=b):=by
 by_cases e:a=b
 ·subst e;simp
 ·have h:¬(Sum.inr a:Key)=Sum.inr b:=fun q=>e (Sum.inr.inj q)
  rw[Ad h,Ad e]
theorem wO9(a:Int)(b:Str):decide ((Sum.inl a:Key)=Sum.inr b)=false:=Ad (fun q=>nomatch q)
theorem wM3(a:Str)(b:Int):decide ((Sum.inr a:Key)=Sum.inl b)=false:=Ad (fun q=>nomatch q)
def mixKind(prog:Program)(w:World):PySem.KeyKind prog w Key where
 is:=keyIs
 hash:=keyH w
 inj:=fun v a b ha hb=>by
  rcases wW ha with ⟨i,t,rfl,rfl⟩ | ⟨x,t,rfl,rfl⟩
  ·rcases wW hb with ⟨j,u,rfl,e⟩ | ⟨y,u,rfl,e⟩
   ·injection e with e1 _;rw[e1]
   ·exact nomatch e
  ·rcases wW hb with ⟨j,u,rfl,e⟩ | ⟨y,u,rfl,e⟩
   ·exact nomatch e
   ·injection e with e1 _;rw[e1]
 byValue:=fun k v h=>by
  rcases wW h with ⟨i,t,rfl,rfl⟩ | ⟨x,t,rfl,rfl⟩ <;> rfl
 pyHash:=fun hv h=>by
  rcases wW hv with ⟨i,t,rfl,rfl⟩ | ⟨x,t,rfl,rfl⟩
  ·exact wpAny_pyHash_int h
  ·exact wpAny_pyHash_str h
 eqBool:=fun hu hv h=>by
  rcases wW hu with ⟨i,t,rfl,rfl⟩ | ⟨x,t,rfl,rfl⟩
  ·rcases wW hv with ⟨j,u,rfl,rfl⟩ | ⟨y,u,rfl,rfl⟩
   ·rw[wI6] at h;exact wpAny_eqBool_int h
   ·rw[wO9] at h;exact SeqAt.EqAt.int_str i t y u _ _ _ _ h
  ·rcases wW hv with ⟨j,u,rfl,rfl⟩ | ⟨y,u,rfl,rfl⟩
   ·rw[wM3] at h;exact SeqAt.EqAt.str_int x t j u _ _ _ _ h
   ·rw[wP1] at h;exact wpAny_eqBool_str h
 «strs»:=fun k x t v h=>by
  rcases wW h with ⟨i,u,rfl,e⟩ | ⟨y,u,rfl,e⟩
  ·exact nomatch e
  ·injection e with e1 _
   subst e1
   cases v <;> rfl
theorem yF1(prog:Program)(w:World)(i:Int)(t:Tok):(mixKind prog w).is (.inl i) (.int i t)=true:=xU8 i t
theorem yH2(prog:Program)(w:World)(x:Str)(t:Tok):(mixKind prog w).is (.inr x) (.str x t)=true:=xQ4 x t
inductive V where
 | non | bl (b:Bool) | int (i:Int) | str (x:Str) | byt (b:Array UInt8) | flt (b:UInt64) | ref (a:Addr) | ty (n:String)
 deriving DecidableEq
def RelV:V->Value->Prop
 | .non,u=>u=Value.none
 | .bl b,u=>u=Value.bool b
 | .int i,u=>∃t,u=Value.int i t
 | .str x,u=>∃t,u=Value.str x t
 | .byt b,u=>∃t,u=Value.bytes b t
 | .flt b,u=>∃t,u=Value.float b t
 | .ref a,u=>u=Value.ref a
 | .ty n,u=>u=Value.type n
abbrev Vals:List V->List Value->Prop:=Paired RelV
theorem Vals.length{xs:List V}{us:List Value}(r:Vals xs us):xs.length=us.length:=Paired.length r
theorem Vals.get:∀{xs:List V}{us:List Value}{i:Nat}{x:V},Vals xs us->xs[i]?=some x->∃u,us[i]?=some u/\RelV x u
 | _,_,_,_,.nil,e=>by simp at e
 | _,_,0,_,.cons r _,e=>by simp at e;subst e;exact⟨_,rfl,r⟩
 | _,_,i+1,x,.cons _ t,e=>by
  obtain⟨u,h1,h2⟩:=Vals.get (i:=i) (x:=x) t (by simpa using e)
  exact⟨u,by simpa using h1,h2⟩
theorem Vals.set{x:V}{u:Value}(r:RelV x u):∀{xs:List V}{us:List Value}(i:Nat),Vals xs us->Vals (xs.set i x) (us.set i u)
 | _,_,_,.nil=>.nil
 | _,_,0,.cons _ t=>.cons r t
 | _,_,i+1,.cons q t=>.cons q (Vals.set r i t)
theorem Vals.append:∀{xs ys:List V}{us ws:List Value},Vals xs us->Vals ys ws->Vals (xs++ys) (us++ws)
 | _,_,_,_,.nil,s=>s
 | _,_,_,_,.cons r t,s=>.cons r (Vals.append t s)
theorem Vals.take:∀{xs:List V}{us:List Value}(n:Nat),Vals xs us->Vals (xs.take n) (us.take n)
 | _,_,0,_=>.nil
 | _,_,_+1,.nil=>.nil
 | _,_,n+1,.cons r t=>.cons r (Vals.take n t)
theorem Vals.drop:∀{xs:List V}{us:List Value}(n:Nat),Vals xs us->Vals (xs.drop n) (us.drop n)
 | _,_,0,r=>r
 | _,_,_+1,.nil=>.nil
 | _,_,n+1,.cons _ t=>Vals.drop n t
def RelO:Option V->Option Value->Prop
 | some v,some u=>RelV v u
 | none,none=>True
 | _,_=>False
def KV{κ:Type}:List (κ×V)->List (κ×Value)->Prop:=Paired fun (p:κ×V) (q:κ×Value)=>p.1=q.1/\RelV p.2 q.2
def kV:Key->V
 | .inl i=>.int i
 | .inr x=>.str x
inductive HO where
 | lst (xs:List V)
 | tup (xs:List V)
 | dK (kvs:List (Key×V)) | dT (kvs:List (List Key×V))
 | set (S:Int->Bool) (n:Nat)
 | ins (C dx:Addr) (fs:List (Str×V))
 | own (x:Addr)
 | xd (fs:List (Str×V))
 | met (f x:Addr)
 | rng (lo hi:Int)
 | frz (o:Obj) (u:HO)
 | tbl (ps:Array Value)
 | ext (φ:Heap->Prop)
abbrev Hp:=Addr->Option HO
def upd(H:Hp)(a:Addr)(o:HO):Hp:=fun b=>if b=a then some o else H b
theorem yP{H:Hp}{a:Addr}{o:HO}:upd H a o a=some o:=by unfold upd;rw[Ac rfl]
theorem zG{H:Hp}{a b:Addr}{o:HO}(h:b≠a):upd H a o b=H b:=by unfold upd;rw[Ah h]
theorem wD8{H:Hp}{a b:Addr}{o u:HO}(h:H a=some o)(h':H b=some u)(d:o≠u):a≠b:=by
 intro e;subst e;rw[h] at h';exact d (AJ h')
theorem xT{H:Hp}{a b:Addr}{o:HO}(h:H a=some o)(h':H b=none):a≠b:=by
 intro e;subst e;rw[h] at h';cases h'
def TupAt(h:Heap)(a:Addr)(its:Array Value):Prop:=∃o,h.get? a=some o/\o.cls=.type "tuple"/\(∃n,o.data=.seq its n)/\o.dict=none
theorem TupAt.tup{h:Heap}{a:Addr}{its:Array Value}(x:TupAt h a its):IsTup h a its:=by
 obtain⟨o,e,c,d,_⟩:=x
 exact⟨o,e,c,d⟩
theorem TupAt.new(h:Heap)(its:Array Value):TupAt (h.push { cls:=.type "tuple",data:=.seq its }) h.objs.size its:=⟨_,AA _ rfl,rfl,⟨_,rfl⟩,rfl⟩
section
variable (P:Program) (w:World)
def ObjOk(H:Hp)(h:Heap)(a:Addr):HO->Prop
 | .lst xs=>xs.length<=sizeLine/\∃(its:List Value) (n:Nat),Vals xs its/\h.get? a=some { cls:=.type "list",data:=.seq its.toArray n }
 | .tup xs=>xs.length<=sizeLine/\∃its:List Value,Vals xs its/\TupAt h a its.toArray
 | .dK kvs=>kvs.length<=sizeLine/\(a == sysModules)=false/\∃vs,KV kvs vs/\h.DictOf (mixKind P w) a vs
 | .dT kvs=>kvs.length<=sizeLine/\(a == sysModules)=false/\∃xs:List (List Key×Addr×Value),
   Paired (fun (p:List Key×V) (q:List Key×Addr×Value)=>p.1=q.1/\H q.2.1=some (.tup (p.1.map kV))/\RelV p.2 q.2.2) kvs xs /\
   ∃o es ep,h.get? a=some o/\o.ExactDict/\o.data=.dict es ep/\es.toList=xs.map (entryOfKey (tupleKind (mixKind P w)))/\(xs.map (·.1)).Nodup
 | .set S n=>h.SetOf (intKind P w) a S n
 | .ins C dx fs=>H dx=some (.own a)/\fs.length<=1000/\dx≠a/\h.get? a=some (PySem.W.instObj C dx) /\
   ∃mA,h.Ns1 dx mA/\(∀f,RelO (fs.lookup f) (mA f))/\PySem.Within mA (fs.map (·.1))
 | .own _=>∃o,h.get? a=some o
 | .xd fs=>∃mA,h.Ns1 a mA/\∀f,RelO (fs.lookup f) (mA f)
 | .rng lo hi=>∃t u v,h.get? a=some { cls:=.type "range",data:=.fields #[.int lo t,.int hi u,.int 1 v] }
 | .frz o u=>h.get? a=some o/\ObjOk H h a u
 | .tbl ps=>h.get? a=some { cls:=.none,data:=.fields ps }
 | .met f x=>h.get? a=some (PySem.W.methodObj (.ref f) (.ref x))
 | .ext φ=>φ h/\(∃o,h.get? a=some o)/\∀h1 h2:Heap,φ h1->(∀o,h1.get? a=some o->h2.get? a=some o)->φ h2
def HOk(H:Hp)(h:Heap):Prop:=∀a o,H a=some o->ObjOk P w H h a o
end
section
variable {P:Program}{w:World}{H H':Hp}{h h':Heap}{a:Addr}{o:HO}
theorem ObjOk.lt(x:ObjOk P w H h a o):a<h.objs.size:=by
 cases o with
 | lst xs=>obtain⟨_,_,_,_,e⟩:=x;exact As e
 | tup xs=>obtain⟨_,_,_,p⟩:=x;exact p.tup.lt
 | dK kvs=>obtain⟨_,_,_,_,o,_,_,e,_⟩:=x;exact As e
 | dT kvs=>obtain⟨_,_,_,_,o,_,_,e,_⟩:=x;exact As e
 | set S n=>obtain⟨o,_,_,_,e,_⟩:=x;exact As e
 | ins C dx fs=>obtain⟨_,_,_,e,_⟩:=x;exact As e
 | own y=>obtain⟨_,e⟩:=x;exact As e
 | xd fs=>obtain⟨_,⟨_,_,_,e,_⟩,_⟩:=x;exact As e
 | rng lo hi=>obtain⟨_,_,_,e⟩:=x;exact As e
 | frz ob u=>obtain⟨e,_⟩:=x;exact As e
 | tbl ps=>exact As (show h.get? a=some _ from x)
 | met f y=>exact As (show h.get? a=some _ from x)
 | ext φ=>obtain⟨_,⟨_,e⟩,_⟩:=x;exact As e
theorem Paired.mapP{α β:Type}{F G:α->β->Prop}:∀{l₁:List α}{l₂:List β},Paired F l₁ l₂->(∀a b,F a b->G a b)->Paired G l₁ l₂
 | _,_,.nil,_=>.nil
 | _,_,.cons r t,f=>.cons (f _ _ r) (Paired.mapP t f)
theorem ObjOk.stay(x:ObjOk P w H h a o)(k:∀b u,(b=a\/H b=some (.own a))->h.get? b=some u->h'.get? b=some u)
  (ho:∀b,H b=some (.own a)->H' b=some (.own a)) (ht:∀b xs,H b=some (.tup xs)->H' b=some (.tup xs)):ObjOk P w H' h' a o:=by
 induction o with
 | lst xs=>obtain⟨z,its,n,r,e⟩:=x;exact⟨z,its,n,r,k _ _ (.inl rfl) e⟩
 | tup xs=>obtain⟨z,its,r,ob,e,c⟩:=x;exact⟨z,its,r,ob,k _ _ (.inl rfl) e,c⟩
 | dK kvs=>obtain⟨z,y,vs,r,ob,es,ep,e,c⟩:=x;exact⟨z,y,vs,r,ob,es,ep,k _ _ (.inl rfl) e,c⟩
 | dT kvs =>
  obtain⟨z,y,xs,r,ob,es,ep,e,c⟩:=x
  exact⟨z,y,xs,Paired.mapP r fun p q z=>⟨z.1,ht _ _ z.2.1,z.2.2⟩,ob,es,ep,k _ _ (.inl rfl) e,c⟩
 | set S n=>obtain⟨ob,es,ep,t,e,c⟩:=x;exact⟨ob,es,ep,t,k _ _ (.inl rfl) e,c⟩
 | ins C dx fs =>
  obtain⟨d,z,ne,e,mA,⟨od,es,ep,e2,c⟩,r⟩:=x
  exact⟨ho _ d,z,ne,k _ _ (.inl rfl) e,mA,⟨od,es,ep,k _ _ (.inr d) e2,c⟩,r⟩
 | own y=>obtain⟨ob,e⟩:=x;exact⟨ob,k _ _ (.inl rfl) e⟩
 | xd fs=>obtain⟨mA,⟨od,es,ep,e,c⟩,r⟩:=x;exact⟨mA,⟨od,es,ep,k _ _ (.inl rfl) e,c⟩,r⟩
 | rng lo hi=>obtain⟨t,u,v,e⟩:=x;exact⟨t,u,v,k _ _ (.inl rfl) e⟩
 | frz ob u ih=>obtain⟨e,q⟩:=x;exact⟨k _ _ (.inl rfl) e,ih q⟩
 | tbl ps =>
  have e:h.get? a=some { cls:=.none,data:=.fields ps }:=x
  show h'.get? a=some { cls:=.none,data:=.fields ps }
  exact k a _ (.inl rfl) e
 | met f y =>
  have e:h.get? a=some (PySem.W.methodObj (.ref f) (.ref y)):=x
  show h'.get? a=some (PySem.W.methodObj (.ref f) (.ref y))
  exact k a _ (.inl rfl) e
 | ext φ=>obtain⟨p,⟨o,e⟩,st⟩:=x;exact⟨st _ _ p fun o q=>k _ _ (.inl rfl) q,⟨o,k _ _ (.inl rfl) e⟩,st⟩
theorem HOk.lt(x:HOk P w H h)(e:H a=some o):a<h.objs.size:=(x a o e).lt
theorem HOk.fresh(x:HOk P w H h)(e:h.objs.size<=a):H a=none:=by
 cases q:H a with
 | none=>rfl
 | some u=>exact absurd (Ar (x.lt q) e) (CB _)
theorem HOk.kept(x:HOk P w H h)(k:∀b u,h.get? b=some u->h'.get? b=some u):HOk P w H h':=fun a o e =>
 (x a o e).stay (fun b u _ q=>k b u q) (fun _ q=>q) fun _ _ q=>q
theorem HOk.laid(x:HOk P w H h)(k:∀b u,h.get? b=some u->h'.get? b=some u)(hp:h.objs.size<=a)(new:ObjOk P w (upd H a o) h' a o):HOk P w (upd H a o) h':=fun b u e=>by
 have hn:=x.fresh hp
 by_cases hb:b=a
 ·subst hb;rw[yP] at e;cases e;exact new
 ·rw[zG hb] at e
  exact (x b u e).stay (fun c v _ q=>k c v q) (fun c q=>by rw[zG (xT q hn)];exact q) fun c xs q=>by rw[zG (xT q hn)];exact q
end
def Rd(H:Hp)(a:Addr)(u:HO):Prop:=H a=some u\/∃o,H a=some (.frz o u)
theorem Rd.ok{P:Program}{w:World}{H:Hp}{h:Heap}{a:Addr}{u:HO}(r:Rd H a u)(x:HOk P w H h):ObjOk P w H h a u:=by
 rcases r with r | ⟨o,r⟩
 ·exact x a u r
 ·obtain⟨_,q⟩:=x a _ r
  exact q
def Mut:Option HO->Prop
 | some (.lst _)=>True
 | some (.dK _)=>True
 | some (.dT _)=>True
 | some (.set _ _)=>True
 | some (.ins _ _ _)=>True
 | some (.ext _)=>True
 | _=>False
section
variable {P:Program}{w:World}{H:Hp}{h h':Heap}{x e:Addr}{o':HO}
theorem HOk.write(ok:HOk P w H h)(mu:Mut (H x))(he:e=x\/H e=some (.own x))(k:∀b u,b≠e->h.get? b=some u->h'.get? b=some u)(heo:∃u,h'.get? e=some u)
  (new:ObjOk P w (upd H x o') h' x o'):HOk P w (upd H x o') h':=fun b u q=>by
 have nown:∀c y,H c=some (.own y)->c≠x:=fun c y r z=>by subst z;rw[r] at mu;exact mu
 have ntup:∀c xs,H c=some (.tup xs)->c≠x:=fun c xs r z=>by subst z;rw[r] at mu;exact mu
 by_cases hb:b=x
 ·subst hb;rw[yP] at q;cases q;exact new
 ·rw[zG hb] at q
  by_cases hbe:b=e
  ·have q':H b=some (.own x):=by
    rcases he with z | z
    ·exact absurd (hbe.trans z) hb
    ·rw[hbe];exact z
   rw[q] at q';cases q'
   obtain⟨v,hv⟩:=heo
   exact⟨v,by rw[hbe];exact hv⟩
  ·refine (ok b u q).stay (fun c v hc r=>k c v ?_ r) (fun c r=>by rw[zG (nown c b r)];exact r) fun c xs r=>by rw[zG (ntup c xs r)];exact r
   rcases hc with rfl | hc
   ·exact hbe
   ·rintro rfl
    rcases he with z | z
    ·exact nown c b hc z
    ·rw[hc] at z;cases z;exact hb rfl
end
structure Un(fs ex:List Addr)(H H':Hp)(h h':Heap):Prop where
 keep:∀b o,h.get? b=some o->H b=none->b∉fs->b∉ex->h'.get? b=some o
 slot:∀b o,h.get? b=some o->H b=none->b∈fs->b∉ex->∃sl,h'.get? b=some { o with slots:=sl }
 free:∀b o,h.get? b=some o->H b=none->b∉ex->H' b=none
 there:∀b o,h.get? b=some o->b∉ex->∃o',h'.get? b=some o'
 tups:∀b xs,H b=some (.tup xs)->H' b=some (.tup xs)
 frzs:∀b o u,H b=some (.frz o u)->H' b=some (.frz o u)
 tbls:∀b ps,H b=some (.tbl ps)->∃more,H' b=some (.tbl (ps++more))
section
variable {fs fs' ex ex':List Addr}{H H1 H2:Hp}{h h1 h2 h':Heap}{a x e:Addr}{o:HO}
theorem Un.any(u:Un fs ex H H1 h h1){b:Addr}{ob:Obj}(q:h.get? b=some ob)(n:H b=none)(hx:b∉ex):∃sl,h1.get? b=some { ob with slots:=sl }:=by
 by_cases hb:b∈fs
 ·exact u.slot b ob q n hb hx
 ·exact⟨ob.slots,u.keep b ob q n hb hx⟩
theorem Un.kept(k:∀b u,h.get? b=some u->h'.get? b=some u):Un fs ex H H h h' :=
 ⟨fun b ob q _ _ _=>k b ob q,fun b ob q _ _ _=>⟨ob.slots,k b ob q⟩,fun _ _ _ n _=>n,fun b ob q _=>⟨ob,k b ob q⟩,fun _ _ q=>q,fun _ _ _ q=>q,fun _ ps q=>⟨#[],by rw[q];simp⟩⟩
theorem Un.refl:Un fs ex H H h h:=Un.kept fun _ _ q=>q
theorem Un.laid(k:∀b u,h.get? b=some u->h'.get? b=some u)(hp:h.objs.size<=a)(hn:H a=none):Un fs ex H (upd H a o) h h' where
 keep:=fun b u q _ _ _=>k b u q
 slot:=fun b u q _ _ _=>⟨u.slots,k b u q⟩
 free:=fun b u q n _=>by rw[zG (AL (Ar (As q) hp))];exact n
 there:=fun b u q _=>⟨u,k b u q⟩
 tups:=fun b xs q=>by rw[zG (xT q hn)];exact q
 frzs:=fun b u xs q=>by rw[zG (xT q hn)];exact q
 tbls:=fun b ps q=>⟨#[],by rw[zG (xT q hn),q];simp⟩
theorem Un.write(mu:Mut (H x))(he:e=x\/H e=some (.own x))(k:∀b u,b≠e->h.get? b=some u->h'.get? b=some u)(heo:∃u,h'.get? e=some u):Un fs ex H (upd H x o) h h':=by
 have hx:∀b,H b=none->b≠x:=fun b n z=>by subst z;rw[n] at mu;exact mu
 have hb:∀b,H b=none->b≠e:=fun b n z=>by
  subst z
  rcases he with r | r
  ·exact hx b n r
  ·rw[n] at r;cases r
 have hm:∀b u,H b=some u->¬Mut (some u)->b≠x:=fun b u q nm z=>by subst z;rw[q] at mu;exact nm mu
 refine⟨fun b u q n _ _=>k b u (hb b n) q,fun b u q n _ _=>⟨u.slots,k b u (hb b n) q⟩,fun b u q n _=>by rw[zG (hx b n)];exact n,fun b u q _ => ?_,
  fun b xs q=>by rw[zG (hm b _ q fun z=>z)];exact q,fun b u xs q=>by rw[zG (hm b _ q fun z=>z)];exact q,fun b ps q=>⟨#[],by rw[zG (hm b _ q fun z=>z),q];simp⟩⟩
 by_cases hbe:b=e
 ·subst hbe;exact heo
 ·exact⟨u,k b u hbe q⟩
end
def trk(h:Heap)(H:Hp):List Addr:=(List.range h.objs.size).filter fun a=>(H a).isSome
def hidT(h:Heap)(H:Hp):Heap:=PySem.W.hideAll h (trk h H)
theorem xQ6(h:Heap)(H:Hp):(hidT h H).objs.size=h.objs.size:=PySem.W.hideAll_size _ _
theorem xD5{h:Heap}{H:Hp}{b:Addr}{o:Obj}(e:h.get? b=some o)(n:H b=none):(hidT h H).get? b=some o :=
 PySem.W.hideAll_get _ e fun hm=>by
  have q:(H b).isSome=true:=(Ce.mp hm).2
  rw[n] at q;simp at q
theorem wW6{h:Heap}{H:Hp}{b:Addr}{o:Obj}(e:(hidT h H).get? b=some o):h.get? b=some o/\H b=none:=by
 have e':h.get? b=some o:=PySem.W.of_hideAll (trk h H) e
 refine⟨e',?_⟩
 cases q:H b with
 | none=>rfl
 | some x =>
  have hm:b∈trk h H:=Ce.mpr ⟨AB.mpr (As e'),by simp[q]⟩
  have z:(hidT h H).get? b=none:=PySem.W.hideAll_none (trk h H) hm
  rw[z] at e;cases e
def allNews(g h:Heap)(L:Addr):List (Addr×Obj):=(List.range h.objs.size).filterMap fun a=>if a=L\/(g.get? a).isSome=true then none else (h.get? a).map fun o=>(a,o)
def rest(g h:Heap)(L d:Addr):List (Addr×Obj):=(allNews g h L).filter fun p=>decide (p.1≠d)
structure Mod(K:KFr)(mg:Str->Option Value)(base:Heap):Prop where
 kin:K.In base
 glob:base.Ns mainGlobals mg
 blt:∃mb,base.Ns builtinsNs mb/\∀x:Str,x ≠ "__name__"->mb x=bootBuiltins x
 nolimit:base.NoLimit
structure Cx where
 prog:Program
 w:World
 K:KFr
 mg:Str->Option Value
 base:Heap
 A:Around
 N:List Str
 s₀:Shared
 H₀:Hp
 env:Env
 outer:List Env
 stack:List Env
 ex:List Addr
 fn:Str->Bool
 calm:Bool
 pn:List (Addr×Obj)
 xe:Value->Shared->Prop
def frs(l:List Env):List Addr:=l.filterMap (·.frame)
abbrev Cx.fs(X:Cx):List Addr:=frs X.outer
def Vis(sc:Scope)(x:Str):Prop:=sc.names.lookup x=some .local \/ sc.names.lookup x=some .cell\/sc.names.lookup x=some .free
def Loc(sc:Scope)(x:Str):Prop:=sc.names.lookup x=some .local \/ sc.names.lookup x=some .cell
def Look(env:Env)(h:Heap)(m:Str->Option Value)(x:Str)(u:Value):Prop :=
 (env.kindOf x=some .local/\m x=some u)\/((env.kindOf x=some .cell\/env.kindOf x=some .free)/\∃c,env.cells.lookup x=some c/\h.IsCell c (some u))
structure Cx.Ok(X:Cx):Prop where
 mod:Mod X.K X.mg X.base
 kind:X.env.scope.kind=.function
 glob:X.env.globals=mainGlobals
 blt:X.env.builtins=builtinsNs
 above:X.s₀.heap.objs.size<=X.env.locals
 inj:∀x y c,X.env.cells.lookup x=some c->X.env.cells.lookup y=some c->x=y
 has:∀x,(X.env.kindOf x=some .cell\/X.env.kindOf x=some .free)->∃c,X.env.cells.lookup x=some c
 cab:∀x c,X.fn x=true->X.env.cells.lookup x=some c->X.s₀.heap.objs.size<=c
 hd:X.calm=true->X.A.handled=none
 frames:X.A.frames=some X.stack
 stk:X.stack=X.outer\/(X.stack=X.env::X.outer/\X.env.frame=some X.env.locals)
 exf:∀b∈X.ex,b≠X.env.locals/\∀x c,X.env.cells.lookup x=some c->c≠b
 bs:∀b o,X.base.get? b=some o->X.s₀.heap.get? b=some o/\X.H₀ b=none
 bsz:X.base.objs.size<=X.s₀.heap.objs.size
 noex:∀b o,X.base.get? b=some o->b∉X.ex
 exfs:∀b∈X.ex,b∉X.fs
 funs:X.s₀.heap.FunFrames X.base X.outer
 frf:∀b∈X.fs,X.H₀ b=none
structure Inv(X:Cx)(Ec:List (Addr×Obj))(σ:List (Option V))(H:Hp)(s:Shared):Prop where
 ok:X.Ok
 os:s.os=X.s₀.os
 bare:AllBare s.gens
 base:Un X.fs X.ex X.H₀ H X.s₀.heap s.heap
 loc:∃m,s.heap.Ns X.env.locals m/\∀(i:Nat) (x:Str) (v:V),X.N[i]?=some x->σ[i]?=some (some v)->Vis X.env.scope x->∃u,RelV v u/\Look X.env s.heap m x u
 cell:∀x c,X.env.cells.lookup x=some c->∃v,s.heap.IsCell c v
 free:H X.env.locals=none
 freeC:∀x c,X.env.cells.lookup x=some c->H c=none
 pin:∀p∈X.pn++Ec,s.heap.get? p.1=some p.2/\H p.1=none/\p.1≠X.env.locals/\p.1∉X.fs/\∀v,p.2.data ≠ .cell v
 hok:HOk X.prog X.w H s.heap
 len:σ.length=X.N.length
section
variable {X:Cx}{Ec:List (Addr×Obj)}{σ:List (Option V)}{H H':Hp}{s:Shared}{h':Heap}
theorem Cx.Ok.nofr(ok:X.Ok){b:Addr}{o:Obj}(e:X.base.get? b=some o):b∉X.fs:=fun hb=>by
 have:=(ok.funs.mem hb).1
 rw[e] at this;cases this
theorem Inv.bs(I:Inv X Ec σ H s):∀b o,X.base.get? b=some o->s.heap.get? b=some o/\H b=none:=fun b o e =>
 ⟨I.base.keep b o (I.ok.bs b o e).1 (I.ok.bs b o e).2 (I.ok.nofr e) (I.ok.noex b o e),I.base.free b o (I.ok.bs b o e).1 (I.ok.bs b o e).2 (I.ok.noex b o e)⟩
theorem Inv.bk(I:Inv X Ec σ H s):∀b o,X.base.get? b=some o->s.heap.get? b=some o:=fun b o e=>(I.bs b o e).1
theorem Inv.mod(I:Inv X Ec σ H s):Mod X.K X.mg X.base:=I.ok.mod
theorem Inv.kIn(I:Inv X Ec σ H s):X.K.In s.heap:=I.ok.mod.kin.keeps I.bk
theorem Inv.lt(I:Inv X Ec σ H s):X.env.locals<s.heap.objs.size:=let ⟨_,hn,_⟩:=I.loc;hn.lt
theorem Inv.sz(I:Inv X Ec σ H s):X.s₀.heap.objs.size<=s.heap.objs.size:=AH I.ok.above (BD I.lt)
theorem Inv.nofs(I:Inv X Ec σ H s){a:Addr}(h:s.heap.objs.size<=a):a∉X.fs:=fun hb=>by
 obtain⟨_,o,ho,_⟩:=I.ok.funs.mem hb
 exact absurd (Ar (As ho) (AH I.sz h)) (CB _)
theorem Inv.cne(I:Inv X Ec σ H s):∀x c,X.env.cells.lookup x=some c->c≠X.env.locals:=fun x c e z=>by
 obtain⟨v,o,ho,hd⟩:=I.cell x c e
 obtain⟨m,⟨o',es,ep,ho',hd',_⟩,_⟩:=I.loc
 rw[z,ho'] at ho;cases ho;rw[hd'] at hd;cases hd
theorem Inv.funs(I:Inv X Ec σ H s):s.heap.FunFrames X.base X.outer:=by
 have all:∀(l:List Env),(∀b∈frs l,b∈X.fs)->X.s₀.heap.FunFrames X.base l->s.heap.FunFrames X.base l:=by
  intro l
  induction l with
  | nil=>intro _ _;trivial
  | cons env r ih =>
   intro hs hl
   obtain⟨hk,⟨L,o,hf,hn,ho,hd⟩,hr⟩:=hl
   have hL:L∈X.fs:=hs L (by unfold frs;rw[De,hf];exact Af)
   obtain⟨sl,e⟩:=I.base.slot L o ho (I.ok.frf L hL) hL fun z=>I.ok.exfs L z hL
   exact⟨hk,⟨L,_,hf,hn,e,hd⟩,ih (fun b hb=>hs b (by unfold frs;rw[De,hf];exact Aj _ hb)) hr⟩
 exact all X.outer (fun _ hb=>hb) I.ok.funs
theorem Inv.stack(I:Inv X Ec σ H s):s.heap.FunFrames X.base X.stack:=by
 rcases I.ok.stk with e | ⟨e,hf⟩
 ·rw[e];exact I.funs
 ·rw[e]
  obtain⟨m,hn,_⟩:=I.loc
  refine .cons (by rw[I.ok.kind];decide) hf hn ?_ I.funs
  exact Heap.get?_none_of_le (AH I.ok.bsz I.ok.above)
theorem Inv.stkSub(I:Inv X Ec σ H s):∀b∈frs X.stack,b∈X.env.locals::X.fs:=fun b hb=>by
 rcases I.ok.stk with e | ⟨e,hf⟩
 ·rw[e] at hb;exact Aj _ hb
 ·rw[e] at hb
  unfold frs at hb
  rw[De,hf] at hb
  exact hb
theorem Inv.stkFree(I:Inv X Ec σ H s):∀b∈frs X.stack,H b=none:=fun b hb=>by
 rcases AM.mp (I.stkSub b hb) with e | hb
 ·rw[e];exact I.free
 ·obtain⟨_,o,ho,_⟩:=I.ok.funs.mem hb
  exact I.base.free b o ho (I.ok.frf b hb) fun z=>I.ok.exfs b z hb
theorem Inv.step{g':Array GenState}{t':Nat}{d':Drawn}{ch:List Addr}(I:Inv X Ec σ H s)
  (hch:∀b∈ch,(b∈X.ex\/X.s₀.heap.objs.size<=b)/\b≠X.env.locals/\(∀x c,X.env.cells.lookup x=some c->c≠b)/\∀p∈X.pn++Ec,p.1≠b)
  (keep:∀b o,b≠X.env.locals->b∉X.fs->b∉ch->s.heap.get? b=some o->H b=none->h'.get? b=some o)
  (slot:∀b o,b≠X.env.locals->b∈X.fs->b∉ch->s.heap.get? b=some o->H b=none->∃sl,h'.get? b=some { o with slots:=sl }) (free:∀b o,b∉ch->s.heap.get? b=some o->H b=none->H' b=none)
  (there:∀b o,b∉ch->s.heap.get? b=some o->∃o',h'.get? b=some o')
  (tups:∀b xs,H b=some (.tup xs)->H' b=some (.tup xs)) (frzs:∀b o u,H b=some (.frz o u)->H' b=some (.frz o u)) (tbls:∀b ps,H b=some (.tbl ps)->∃more,H' b=some (.tbl (ps++more)))
  (ns:∀m,s.heap.Ns X.env.locals m->h'.Ns X.env.locals m) (hok:HOk X.prog X.w H' h') (hg:AllBare g') :
  Inv X Ec σ H' { s with heap:=h',gens:=g',drawn:=d',toks:=t' }:=by
 have neL:∀b o,X.s₀.heap.get? b=some o->b≠X.env.locals:=fun b o e=>AL (Ar (As e) I.ok.above)
 have neC:∀b o,X.s₀.heap.get? b=some o->b∉X.ex->b∉ch:=fun b o e hx hb=>by
  rcases (hch b hb).1 with z | z
  ·exact hx z
  ·exact absurd (Ar (As e) z) (CB _)
 have cellK:∀x c,X.env.cells.lookup x=some c->∀v,s.heap.IsCell c v->h'.IsCell c v:=fun x c e v ⟨o,ho,hd⟩=>by
  have nch:c∉ch:=fun z=>(hch c z).2.2.1 x c e rfl
  by_cases hc:c∈X.fs
  ·obtain⟨sl,q⟩:=slot c o (I.cne x c e) hc nch ho (I.freeC x c e)
   exact⟨_,q,hd⟩
  ·exact⟨o,keep c o (I.cne x c e) hc nch ho (I.freeC x c e),hd⟩
 refine⟨I.ok,I.os,hg,⟨fun b o e n hb hx => ?_,fun b o e n hb hx => ?_,fun b o e n hx => ?_,fun b o e hx => ?_,fun b xs e=>tups b xs (I.base.tups b xs e),fun b o xs e=>frzs b o xs (I.base.frzs b o xs e),fun b ps e => ?_⟩,?_,fun x c e => ?_,?_,fun x c e => ?_,fun p hp => ?_,hok,I.len⟩
 ·exact keep b o (neL b o e) hb (neC b o e hx) (I.base.keep b o e n hb hx) (I.base.free b o e n hx)
 ·obtain⟨sl,e1⟩:=I.base.slot b o e n hb hx
  obtain⟨sl',e2⟩:=slot b _ (neL b o e) hb (neC b o e hx) e1 (I.base.free b o e n hx)
  exact⟨sl',e2⟩
 ·obtain⟨o',e1⟩:=I.base.there b o e hx
  exact free b o' (neC b o e hx) e1 (I.base.free b o e n hx)
 ·obtain⟨o',e1⟩:=I.base.there b o e hx
  exact there b o' (neC b o e hx) e1
 ·obtain⟨m1,e1⟩:=I.base.tbls b ps e
  obtain⟨m2,e2⟩:=tbls b _ e1
  exact⟨m1++m2,by rw[e2,Array.append_assoc]⟩
 ·obtain⟨m,hn,hl⟩:=I.loc
  refine⟨m,ns m hn,fun i x v e1 e2 e3 => ?_⟩
  obtain⟨u,r,l⟩:=hl i x v e1 e2 e3
  refine⟨u,r,?_⟩
  rcases l with l | ⟨k,c,e,z⟩
  ·exact .inl l
  ·exact .inr ⟨k,c,e,cellK x c e _ z⟩
 ·obtain⟨v,z⟩:=I.cell x c e
  exact⟨v,cellK x c e v z⟩
 ·obtain⟨m,⟨o,_,_,ho,_⟩,_⟩:=I.loc
  exact free _ o (fun z=>(hch _ z).2.1 rfl) ho I.free
 ·obtain⟨v,o,ho,hd⟩:=I.cell x c e
  exact free c o (fun z=>(hch c z).2.2.1 x c e rfl) ho (I.freeC x c e)
 ·obtain⟨e,n,ne,nf,d⟩:=I.pin p hp
  have nch:p.1∉ch:=fun z=>(hch p.1 z).2.2.2 p hp rfl
  exact⟨keep p.1 p.2 ne nf nch e n,free p.1 p.2 nch e n,ne,nf,d⟩
theorem Inv.un{t':Nat}(I:Inv X Ec σ H s)(u:Un X.fs [] H H' s.heap h')(hok:HOk X.prog X.w H' h'):Inv X Ec σ H' { s with heap:=h',toks:=t' }:=by
 obtain⟨m,⟨o,es,ep,ho,r⟩,_⟩:=id I.loc
 obtain⟨sl,hL⟩:=u.any ho I.free (by simp)
 exact I.step (g':=s.gens) (d':=s.drawn) (ch:=[]) (fun _ z=>nomatch z) (fun b o _ hb _ e n=>u.keep b o e n hb (by simp)) (fun b o _ hb _ e n=>u.slot b o e n hb (by simp)) (fun b o _ e n=>u.free b o e n (by simp)) (fun b o _ e=>u.there b o e (by simp)) u.tups u.frzs u.tbls (fun m' hm=>by
  obtain⟨o',es',ep',ho',r'⟩:=hm
  rw[ho] at ho';cases ho'
  exact⟨_,es',ep',hL,r'⟩) hok I.bare
theorem Inv.call{g':Array GenState}{t':Nat}{d':Drawn}{ch:List Addr}(I:Inv X Ec σ H s)(u:Un (frs X.stack) ch H H' s.heap h')(hok:HOk X.prog X.w H' h')(hg:AllBare g')
  (hch:∀b∈ch,(b∈X.ex\/X.s₀.heap.objs.size<=b)/\b≠X.env.locals/\(∀x c,X.env.cells.lookup x=some c->c≠b)/\∀p∈X.pn++Ec,p.1≠b) :
  Inv X Ec σ H' { s with heap:=h',gens:=g',drawn:=d',toks:=t' }:=by
 obtain⟨m,⟨o,es,ep,ho,r⟩,_⟩:=id I.loc
 obtain⟨sl,hL⟩:=u.any ho I.free fun z=>(hch _ z).2.1 rfl
 exact I.step (ch:=ch) hch (fun b o hL hb hc e n=>u.keep b o e n (fun z=>(AM.mp (I.stkSub b z)).elim hL hb) hc) (fun b o _ _ hc e n=>u.any e n hc) (fun b o hc e n=>u.free b o e n hc) (fun b o hc e=>u.there b o e hc) u.tups u.frzs u.tbls (fun m' hm=>by
  obtain⟨o',es',ep',ho',r'⟩:=hm
  rw[ho] at ho';cases ho'
  exact⟨_,es',ep',hL,r'⟩) hok hg
theorem Inv.turned{t':Nat}{it:Addr}(I:Inv X Ec σ H s)(k:∀b o,b≠it->s.heap.get? b=some o->h'.get? b=some o)(hn:H it=none)(hL:it≠X.env.locals)
  (h1:it∈X.ex\/X.s₀.heap.objs.size<=it) (h2:∀x c,X.env.cells.lookup x=some c->c≠it) (h3:∀p∈X.pn++Ec,p.1≠it):Inv X Ec σ H { s with heap:=h',toks:=t' }:=by
 have nit:∀b u,H b=some u->b≠it:=fun b u e z=>by rw[z,hn] at e;cases e
 refine I.step (g':=s.gens) (d':=s.drawn) (ch:=[it]) (fun b hb => ?_) (fun b o _ _ hc e _=>k b o (fun z=>hc (by simp[z])) e) (fun b o _ _ hc e _=>⟨o.slots,k b o (fun z=>hc (by simp[z])) e⟩) (fun _ _ _ _ n=>n)
  (fun b o hc e=>⟨o,k b o (fun z=>hc (by simp[z])) e⟩) (fun _ _ e=>e) (fun _ _ _ e=>e) (fun b ps e=>⟨#[],by rw[e];simp⟩) (fun m hm => ?_) (fun b u e => ?_) I.bare
 ·have e:b=it:=by simpa using hb
  subst e
  exact⟨h1,hL,h2,h3⟩
 ·obtain⟨o,es,ep,ho,r⟩:=hm
  exact⟨o,es,ep,k _ o (CT hL) ho,r⟩
 ·refine (I.hok b u e).stay (fun c v hc q=>k c v ?_ q) (fun _ q=>q) fun _ _ q=>q
  rcases hc with z | z
  ·rw[z];exact nit b u e
  ·exact nit c _ z
theorem Inv.tok(I:Inv X Ec σ H s)(t:Nat):Inv X Ec σ H { s with toks:=t }:=I.un (h':=s.heap) (t':=t) Un.refl I.hok
theorem Inv.kept{t':Nat}(I:Inv X Ec σ H s)(k:∀b u,s.heap.get? b=some u->h'.get? b=some u):Inv X Ec σ H { s with heap:=h',toks:=t' }:=I.un (Un.kept k) (I.hok.kept k)
theorem Inv.laid{a:Addr}{o:HO}{t':Nat}(I:Inv X Ec σ H s)(k:∀b u,s.heap.get? b=some u->h'.get? b=some u)(hp:s.heap.objs.size<=a)(new:ObjOk X.prog X.w (upd H a o) h' a o) :
  Inv X Ec σ (upd H a o) { s with heap:=h',toks:=t' }:=I.un (Un.laid k hp (I.hok.fresh hp)) (I.hok.laid k hp new)
theorem Inv.write{x e:Addr}{o:HO}{t':Nat}(I:Inv X Ec σ H s)(mu:Mut (H x))(he:e=x\/H e=some (.own x))(k:∀b u,b≠e->s.heap.get? b=some u->h'.get? b=some u)(heo:∃u,h'.get? e=some u)
  (new:ObjOk X.prog X.w (upd H x o) h' x o):Inv X Ec σ (upd H x o) { s with heap:=h',toks:=t' }:=I.un (Un.write mu he k heo) (I.hok.write mu he k heo new)
theorem Inv.uL{pins':List (Addr×Obj)}(I:Inv X Ec σ H s)(h:∀p∈pins',s.heap.get? p.1=some p.2/\H p.1=none/\p.1≠X.env.locals/\p.1∉X.fs/\∀v,p.2.data ≠ .cell v):Inv X pins' σ H s :=
 ⟨I.ok,I.os,I.bare,I.base,I.loc,I.cell,I.free,I.freeC,fun p hp=>(AX.mp hp).elim (fun z=>I.pin p (Bb _ z)) (h p),I.hok,I.len⟩
theorem yJ2{N:List Str}(hN:N.Nodup){i j:Nat}{x:Str}(a:N[i]?=some x)(b:N[j]?=some x):i=j:=by
 obtain⟨h1,e1⟩:=Au.mp a
 obtain⟨h2,e2⟩:=Au.mp b
 exact (List.getElem_inj hN).mp (e1.trans e2.symm)
theorem xT3{M:Model}{A:Around}{E:Value->Shared->Prop}{i:Nat}{x:Str}{v:V}{u:Value}{Q:Unit->Shared->Prop}(I:Inv X Ec σ H s)(hN:X.N.Nodup)(hi:X.N[i]?=some x)(hx:Loc X.env.scope x)(r:RelV v u)
  (h:∀s',Inv X Ec (σ.set i (some v)) H s'->(∃a,Heap.SameBut a s.heap s'.heap/\(a=X.env.locals\/X.env.cells.lookup x=some a))->Q () s') (hf:autoParam (X.fn x=true\/X.env.scope.names.lookup x=some .local) DX):wpAny M A (storeName X.env x u) Q E s:=by
 obtain⟨m,hn,hl⟩:=id I.loc
 have hcls:(X.env.scope.kind == .class || (X.env.scope.kind == .module&&X.env.locals != X.env.globals))=false:=by rw[I.ok.kind];rfl
 have hiσ:i<σ.length:=by rw[I.len];exact (Au.mp hi).1
 have cne:=I.cne
 have tracked:∀{a:Addr}{h':Heap},(∃o,s.heap.get? a=some o/\H a=none)->Heap.SameBut a s.heap h'->HOk X.prog X.w H h':=fun {a h'} ha hs b ob e=>by
  obtain⟨_,_,hfree⟩:=ha
  refine (I.hok b ob e).stay (fun c w' hc q=>(hs.2 c ?_).trans q) (fun _ q=>q) fun _ _ q=>q
  rintro rfl
  rcases hc with rfl | hc
  ·rw[hfree] at e;cases e
  ·rw[hfree] at hc;cases hc
 rcases hx with hk | hk
 ·refine wpAny_storeName_local hk hn (fun h' hn' hs => ?_) hcls
  obtain⟨oL,_,_,hoL,_⟩:=id hn
  refine h _ ⟨I.ok,I.os,I.bare,⟨fun b o e n hb hx => ?_,fun b o e n hb hx => ?_,I.base.free,fun b o e hx => ?_,I.base.tups,I.base.frzs,I.base.tbls⟩,⟨_,hn',fun j y v' e1 e2 e3 => ?_⟩,fun y c e => ?_,I.free,I.freeC,fun p hp => ?_,tracked ⟨oL,hoL,I.free⟩ hs,by simpa using I.len⟩ ⟨_,hs,.inl rfl⟩
  ·exact (hs.2 b (AL (Ar (As e) I.ok.above))).trans (I.base.keep b o e n hb hx)
  ·obtain⟨sl,e1⟩:=I.base.slot b o e n hb hx
   exact⟨sl,(hs.2 b (AL (Ar (As e) I.ok.above))).trans e1⟩
  ·obtain⟨o',e1⟩:=I.base.there b o e hx
   exact⟨o',(hs.2 b (AL (Ar (As e) I.ok.above))).trans e1⟩
  ·by_cases hj:j=i
   ·subst hj
    rw[hi] at e1;cases e1
    rw[BE hiσ] at e2
    cases e2
    exact⟨u,r,.inl ⟨hk,by simp⟩⟩
   ·rw[AO (CT hj)] at e2
    obtain⟨u',r',q⟩:=hl j y v' e1 e2 e3
    refine⟨u',r',?_⟩
    rcases q with ⟨k,e⟩ | ⟨k,c,e,z⟩
    ·refine .inl ⟨k,?_⟩
     have:y≠x:=fun e=>hj (yJ2 hN e1 (e▸hi))
     simp[this,e]
    ·exact .inr ⟨k,c,e,z.sameBut hs (cne y c e)⟩
  ·obtain⟨w',z⟩:=I.cell y c e
   exact⟨w',z.sameBut hs (cne y c e)⟩
  ·obtain⟨e,n,ne,nf,d⟩:=I.pin p hp
   exact⟨(hs.2 p.1 ne).trans e,n,ne,nf,d⟩
 ·have hfn:X.fn x=true:=by
   rcases hf with z | z
   ·exact z
   ·rw[z] at hk;cases hk
  obtain⟨c,hc⟩:=I.ok.has x (.inl hk)
  obtain⟨w',z⟩:=I.cell x c hc
  refine wpAny_storeName_cell I.ok.kind hk hc z (fun h' hc' hs => ?_)
  obtain⟨oc,hoc,hocd⟩:=id z
  refine h { s with heap:=h' } ⟨I.ok,I.os,I.bare,⟨fun b o e n hb hx => ?_,fun b o e n hb hx => ?_,I.base.free,fun b o e hx => ?_,I.base.tups,I.base.frzs,I.base.tbls⟩,⟨m,hn.sameBut hs (CT (cne x c hc)),fun j y v' e1 e2 e3 => ?_⟩,fun y c' e => ?_,I.free,I.freeC,fun p hp => ?_,tracked ⟨oc,hoc,I.freeC x c hc⟩ hs,by simpa using I.len⟩ ⟨c,hs,.inr hc⟩
  ·exact (hs.2 b (AL (Ar (As e) (I.ok.cab x c hfn hc)))).trans (I.base.keep b o e n hb hx)
  ·obtain⟨sl,e1⟩:=I.base.slot b o e n hb hx
   exact⟨sl,(hs.2 b (AL (Ar (As e) (I.ok.cab x c hfn hc)))).trans e1⟩
  ·obtain⟨o',e1⟩:=I.base.there b o e hx
   exact⟨o',(hs.2 b (AL (Ar (As e) (I.ok.cab x c hfn hc)))).trans e1⟩
  ·by_cases hj:j=i
   ·subst hj
    rw[hi] at e1;cases e1
    rw[BE hiσ] at e2
    cases e2
    exact⟨u,r,.inr ⟨.inl hk,c,hc,hc'⟩⟩
   ·rw[AO (CT hj)] at e2
    obtain⟨u',r',q⟩:=hl j y v' e1 e2 e3
    refine⟨u',r',?_⟩
    rcases q with q | ⟨k,c',e,z'⟩
    ·exact .inl q
    ·refine .inr ⟨k,c',e,z'.sameBut hs ?_⟩
     rintro rfl
     exact hj (yJ2 hN e1 (I.ok.inj _ _ _ e hc▸hi))
  ·by_cases hcc:c'=c
   ·subst hcc;exact⟨_,hc'⟩
   ·obtain⟨w2,z2⟩:=I.cell y c' e
    exact⟨w2,z2.sameBut hs hcc⟩
  ·obtain⟨e,n,ne,nf,d⟩:=I.pin p hp
   refine⟨(hs.2 p.1 ?_).trans e,n,ne,nf,d⟩
   intro q
   rw[q,hoc] at e
   have q':oc=p.2:=AJ e
   exact d w' (by rw[<-q'];exact hocd)
theorem aE{M:Model}{A:Around}{E:Value->Shared->Prop}{i:Nat}{x:Str}{v:V}{u:Value}{Q:Unit->Shared->Prop}(I:Inv X Ec σ H s)(hN:X.N.Nodup)(hi:X.N[i]?=some x)(hx:Loc X.env.scope x)(r:RelV v u)
  (h:∀s',Inv X Ec (σ.set i (some v)) H s'->Q () s') (hf:autoParam (X.fn x=true\/X.env.scope.names.lookup x=some .local) DX):wpAny M A (storeName X.env x u) Q E s :=
 xT3 I hN hi hx r (fun s' I' _=>h s' I') hf
theorem Inv.call'{s':Shared}{ch:List Addr}(I:Inv X Ec σ H s)(ho:s'.os=s.os)(u:Un (frs X.stack) ch H H' s.heap s'.heap)(hok:HOk X.prog X.w H' s'.heap)(hg:AllBare s'.gens)
  (hch:∀b∈ch,(b∈X.ex\/X.s₀.heap.objs.size<=b)/\b≠X.env.locals/\(∀x c,X.env.cells.lookup x=some c->c≠b)/\∀p∈X.pn++Ec,p.1≠b):Inv X Ec σ H' s':=by
 obtain⟨h',g',d',t',o'⟩:=s'
 have e:o'=s.os:=ho
 subst e
 exact I.call (g':=g') (t':=t') (d':=d') u hok hg hch
end
abbrev XK:=Value->Option Addr->Hp->Prop
abbrev St:=List (Option V)
abbrev VK:=V->Hp->Prop
abbrev TE:=St->Hp->VK->Prop
abbrev TT:=St->Hp->(Bool->Hp->Prop)->Prop
abbrev TA:=St->Hp->(List V->Hp->Prop)->Prop
structure Ends where
 nx:St->Hp->Prop
 rt:VK
 bk:St->Hp->Prop:=fun _ _=>False
 ct:St->Hp->Prop:=fun _ _=>False
abbrev TS:=Ends->St->Hp->Prop
def EP(X:Cx)(Ec:List (Addr×Obj))(σ:St)(Q:VK)(u:Value)(s':Shared):Prop:=∃v H',Inv X Ec σ H' s'/\RelV v u/\Q v H'
def TP(X:Cx)(Ec:List (Addr×Obj))(σ:St)(Q:Bool->Hp->Prop)(b:Bool)(s':Shared):Prop:=∃H',Inv X Ec σ H' s'/\Q b H'
def AP(X:Cx)(Ec:List (Addr×Obj))(σ:St)(Q:List V->Hp->Prop)(us:List Value)(s':Shared):Prop:=∃vs H',Inv X Ec σ H' s'/\Vals vs us/\Q vs H'
def SP(X:Cx)(Ec:List (Addr×Obj))(D:Ends)(f:Flow)(s':Shared):Prop :=
 match f with
 | .next=>∃σ' H',Inv X Ec σ' H' s'/\D.nx σ' H'
 | .brk=>∃σ' H',Inv X Ec σ' H' s'/\D.bk σ' H'
 | .cont=>∃σ' H',Inv X Ec σ' H' s'/\D.ct σ' H'
 | .ret u=>∃v σ' H',Inv X Ec σ' H' s'/\RelV v u/\D.rt v H'
def PE(X:Cx)(e:Expr)(t:TE):Prop :=
 ∀(Ec:List (Addr×Obj)) (s:Shared) (σ:St) (H:Hp) (Q:VK),Inv X Ec σ H s->t σ H Q->wpAny (model X.prog X.w) X.A (eval e X.env) (EP X Ec σ Q) X.xe s
def PT(X:Cx)(e:Expr)(t:TT):Prop :=
 ∀(Ec:List (Addr×Obj)) (s:Shared) (σ:St) (H:Hp) (Q:Bool->Hp->Prop),Inv X Ec σ H s->t σ H Q->wpAny (model X.prog X.w) X.A (isTrue e X.env (eval e X.env)) (TP X Ec σ Q) X.xe s
def PW(X:Cx)(e:Expr)(t:TT):Prop :=
 ∀(whole:Sem Value) (Ec:List (Addr×Obj)) (s:Shared) (σ:St) (H:Hp) (Q:Bool->Hp->Prop),Inv X Ec σ H s->t σ H Q->wpAny (model X.prog X.w) X.A (isTrue e X.env whole) (TP X Ec σ Q) X.xe s
theorem PW.pt{X:Cx}{e:Expr}{t:TT}(h:PW X e t):PT X e t:=h _
def PA(X:Cx)(es:List Expr)(t:TA):Prop :=
 ∀(pos:Pos) (Ec:List (Addr×Obj)) (s:Shared) (σ:St) (H:Hp) (Q:List V->Hp->Prop),Inv X Ec σ H s->t σ H Q->wpAny (model X.prog X.w) X.A (spliced (backTo pos (starEach es X.env))) (AP X Ec σ Q) X.xe s
def PS(X:Cx)(st:Stmt)(t:TS):Prop :=
 ∀(Ec:List (Addr×Obj)) (s:Shared) (σ:St) (H:Hp) (D:Ends),Inv X Ec σ H s->t D σ H->wpAny (model X.prog X.w) X.A (exec st X.env) (SP X Ec D) X.xe s
def PSs(X:Cx)(st:List Stmt)(t:TS):Prop :=
 ∀(Ec:List (Addr×Obj)) (s:Shared) (σ:St) (H:Hp) (D:Ends),Inv X Ec σ H s->t D σ H->wpAny (model X.prog X.w) X.A (execs st X.env) (SP X Ec D) X.xe s
theorem thn{α:Type}{t:Sem α}{Q Q':α->Shared->Prop}{M:Model}{A:Around}{E:Value->Shared->Prop}{s:Shared}(h:wpAny M A t Q E s)(hQ:∀a s,Q a s->Q' a s):wpAny M A t Q' E s:=wpAny_mono h hQ fun _ _ x=>x
section
variable {X:Cx}
theorem bin{a b:Expr}{ta tb:TE}(ha:PE X a ta)(hb:PE X b tb){Ec:List (Addr×Obj)}{s:Shared}{σ:St}{H:Hp}{R:V->V->Hp->Prop}(I:Inv X Ec σ H s)(h:ta σ H fun x H1=>tb σ H1 fun y H2=>R x y H2)
  {α:Type}{Q:α->Shared->Prop}{f:Value->Value->Sem α}
  (hf:∀v u s2 x y H2,Inv X Ec σ H2 s2->RelV x v->RelV y u->R x y H2->wpAny (model X.prog X.w) X.A (f v u) Q X.xe s2) :
  wpAny (model X.prog X.w) X.A (eval a X.env) (fun v s₁=>wpAny (model X.prog X.w) X.A (eval b X.env) (fun u s₂=>wpAny (model X.prog X.w) X.A (f v u) Q X.xe s₂) X.xe s₁) X.xe s:=by
 refine thn (ha Ec s σ H _ I h) fun v s1 ⟨x,H1,I1,r1,q1⟩ => ?_
 refine thn (hb Ec s1 σ H1 _ I1 q1) fun u s2 ⟨y,H2,I2,r2,q2⟩ => ?_
 exact hf v u s2 x y H2 I2 r1 r2 q2
def tVar(i:Nat):TE:=fun σ H Q=>∃v,σ[i]?=some (some v)/\Q v H
def tC(v:V):TE:=fun _ H Q=>Q v H
theorem jY{i:Nat}{x:Str}{pos:Pos}(hN:X.N[i]?=some x)(hv:Vis X.env.scope x)(hd:autoParam ((x == ("__debug__":Str))=false) Ea)(hcd:autoParam ((x == ("__classdict__":Str))=false) Ea):PE X (.Name x pos) (tVar i):=by
 intro Ec s σ H Q I h
 obtain⟨v,e,h⟩:=h
 obtain⟨m,hn,hl⟩:=I.loc
 obtain⟨u,r,l⟩:=hl i x v hN e hv
 have fin:EP X Ec σ Q u s:=⟨v,H,I,r,h⟩
 rcases l with ⟨hk,hm⟩ | ⟨hk,c,hc,hcell⟩
 ·exact wpAny_Name (wpAny_loadName_local I.ok.kind hk hn hm fin) hd
 ·rcases hk with hk | hk
  ·exact wpAny_Name (wpAny_loadName_cell I.ok.kind hk hc hcell fin) hd
  ·exact wpAny_Name (wpAny_loadName_free I.ok.kind hk hc hcell fin hcd) hd
theorem fY{i j pos}:PE X (.Constant (.int i) j pos) (tC (.int i)):=fun _ _ _ H _ I h=>wpAny_Constant_int ⟨.int i,H,I.tok _,⟨_,rfl⟩,h⟩
theorem yS3{b j pos}:PE X (.Constant (.bool b) j pos) (tC (.bl b)):=fun _ _ _ H _ I h=>Constant_bool ⟨.bl b,H,I,rfl,h⟩
theorem xR3{x j pos}:PE X (.Constant (.str x) j pos) (tC (.str x)):=fun _ _ _ H _ I h=>Calls.Constant_str ⟨.str x,H,I.tok _,⟨_,rfl⟩,h⟩
def Gl(X:Cx)(x:Str):Prop:=X.env.kindOf x=some .globalImplicit
theorem zB2{E:Value->Shared->Prop}{Ec:List (Addr×Obj)}{s:Shared}{σ:St}{H:Hp}{x:Str}{u:Value}{pos:Pos}{Q:Value->Shared->Prop}(I:Inv X Ec σ H s)(hg:Gl X x)(hm:X.mg x=some u)(h:Q u s)
  (hd:autoParam ((x == ("__debug__":Str))=false) Ea):wpAny (model X.prog X.w) X.A (eval (.Name x pos) X.env) Q E s :=
 Calls.Name_function_global I.ok.kind hg (Calls.loadGlobal_global (by rw[I.ok.glob];exact I.mod.glob.keeps I.bk) hm h) hd
theorem aU{E:Value->Shared->Prop}{Ec:List (Addr×Obj)}{s:Shared}{σ:St}{H:Hp}{x:Str}{u:Value}{pos:Pos}{Q:Value->Shared->Prop}(I:Inv X Ec σ H s)(hg:Gl X x)(hm:X.mg x=none)(hv:bootBuiltins x=some u)(h:Q u s)
  (hn:autoParam (x ≠ "__name__") Ea) (hd:autoParam ((x == ("__debug__":Str))=false) Ea):wpAny (model X.prog X.w) X.A (eval (.Name x pos) X.env) Q E s:=by
 obtain⟨mb,h1,h2⟩:=I.mod.blt
 exact Calls.Name_function_global I.ok.kind hg (Calls.loadGlobal_builtin (by rw[I.ok.glob];exact I.mod.glob.keeps I.bk) hm (by rw[I.ok.blt];exact h1.keeps I.bk) ((h2 x hn).trans hv) h) hd
theorem wT6{x:Str}{v:V}{u:Value}{pos:Pos}(hg:Gl X x)(hm:X.mg x=some u)(r:RelV v u)(hd:autoParam ((x == ("__debug__":Str))=false) Ea):PE X (.Name x pos) (tC v) :=
 fun _ _ _ H _ I h=>zB2 I hg hm ⟨v,H,I,r,h⟩ hd
variable {a b:Expr}{ta tb:TE}{pos:Pos}
def PC(X:Cx)(op:CmpOp)(a b:Expr)(t:TE):Prop :=
 ∀(Ec:List (Addr×Obj)) (s:Shared) (σ:St) (H:Hp) (Q:VK),Inv X Ec σ H s->t σ H Q ->
  wpAny (model X.prog X.w) X.A (eval a X.env) (fun v s₁=>wpAny (model X.prog X.w) X.A (eval b X.env) (fun u s₂=>wpAny (model X.prog X.w) X.A (compareOp op v u) (EP X Ec σ Q) X.xe s₂) X.xe s₁) X.xe s
theorem nobehind(b:Expr){op:CmpOp}(h:op ≠ .In)(h2:op ≠ .NotIn):behindInMarks op b=false:=by
 have e1:(op == CmpOp.In)=false:=by cases op <;> first | rfl | exact absurd rfl h
 have e2:(op == CmpOp.NotIn)=false:=by cases op <;> first | rfl | exact absurd rfl h2
 cases b <;> simp[behindInMarks,e1,e2]
def tB(t:TE):TT:=fun σ H Q=>t σ H fun x H1=>∃c,x=.bl c/\Q c H1
theorem wI7{op:CmpOp}{t:TE}(h:PC X op a b t)(h1:autoParam (behindInMarks op b=false) wG8._auto_1):PT X (.Compare a [op] [b] pos) (tB t):=by
 intro Ec s σ H Q I hw
 refine wpAny_isTrue_Compare1 (thn (h Ec s σ H _ I hw) fun v s1 h1=>thn h1 fun u s2 h2=>thn h2 fun c s3 ⟨x,H1,I1,r1,q1⟩ => ?_) h1
 obtain⟨d,rfl,q⟩:=q1
 cases r1
 exact wpAny_truthy_bool ⟨H1,I1,q⟩
theorem wP8{e:Expr}{t:TE}(h:PE X e t)(he:autoParam (∀whole,isTrue e X.env whole=(do let v <-whole;standAt e.pos;holding [v] (truthy v))) DZ):PT X e (tB t):=by
 intro Ec s σ H Q I hw
 refine isTrue_plain (thn (h Ec s σ H _ I hw) fun v s1 ⟨x,H1,I1,r1,q1⟩ => ?_) (he _)
 obtain⟨d,rfl,q⟩:=q1
 cases r1
 exact wpAny_truthy_bool ⟨H1,I1,q⟩
variable {tA tB':TT}{rest:List Expr}
def tAnd(t u:TT):TT:=fun σ H Q=>t σ H fun c H1=>if c=true then u σ H1 Q else Q false H1
def tOr(t u:TT):TT:=fun σ H Q=>t σ H fun c H1=>if c=true then Q true H1 else u σ H1 Q
def tNot(t:TT):TT:=fun σ H Q=>t σ H fun c H1=>Q (!c) H1
theorem pw_and1(ha:PT X a tA):PW X (.BoolOp .And [a] pos) tA:=by
 intro wh Ec s σ H Q I h
 refine isTrue_and (thn (ha Ec s σ H Q I h) fun c s1 e => ?_)
 cases c with
 | true=>exact isTrue_and_nil e
 | false=>exact e
theorem pw_or1(ha:PT X a tA):PW X (.BoolOp .Or [a] pos) tA:=by
 intro wh Ec s σ H Q I h
 refine isTrue_or (thn (ha Ec s σ H Q I h) fun c s1 e => ?_)
 cases c with
 | false=>exact isTrue_or_nil e
 | true=>exact e
theorem pw_and(ha:PT X a tA)(hb:PW X (.BoolOp .And (b::rest) pos) tB'):PW X (.BoolOp .And (a::b::rest) pos) (tAnd tA tB'):=by
 intro wh Ec s σ H Q I h
 refine isTrue_and (thn (ha Ec s σ H _ I h) fun c s1 ⟨H1,I1,q1⟩ => ?_)
 cases c with
 | true=>exact hb wh Ec s1 σ H1 Q I1 q1
 | false=>exact⟨H1,I1,q1⟩
theorem pw_or(ha:PT X a tA)(hb:PW X (.BoolOp .Or (b::rest) pos) tB'):PW X (.BoolOp .Or (a::b::rest) pos) (tOr tA tB'):=by
 intro wh Ec s σ H Q I h
 refine isTrue_or (thn (ha Ec s σ H _ I h) fun c s1 ⟨H1,I1,q1⟩ => ?_)
 cases c with
 | true=>exact⟨H1,I1,q1⟩
 | false=>exact hb wh Ec s1 σ H1 Q I1 q1
theorem wJ2(ha:PT X a tA):PT X (.UnaryOp .Not a pos) (tNot tA):=by
 intro Ec s σ H Q I h
 exact isTrue_not (ha Ec s σ H (fun c H1=>Q (!c) H1) I h)
def tAndV(ta tb:TE):TE:=fun σ H Q=>ta σ H fun x H1=>∃c,x=.bl c/\if c=true then tb σ H1 Q else Q (.bl false) H1
def tOrV(ta tb:TE):TE:=fun σ H Q=>ta σ H fun x H1=>∃c,x=.bl c/\if c=true then Q (.bl true) H1 else tb σ H1 Q
theorem wK1{op}{t:TE}(h:PE X a t):PE X (.BoolOp op [a] pos) t:=fun Ec s σ H Q I hw=>BoolOp_one (h Ec s σ H Q I hw)
theorem wM4(ha:PE X a ta)(hb:PE X (.BoolOp .And (b::rest) pos) tb):PE X (.BoolOp .And (a::b::rest) pos) (tAndV ta tb):=by
 intro Ec s σ H Q I h
 refine BoolOp_and (thn (ha Ec s σ H _ I h) fun v s1 ⟨x,H1,I1,r1,q1⟩ => ?_)
 obtain⟨c,rfl,q1⟩:=q1
 cases r1
 refine wpAny_truthy_bool ?_
 cases c with
 | true=>exact hb Ec s1 σ H1 Q I1 q1
 | false=>exact⟨.bl false,H1,I1,rfl,q1⟩
theorem wD5(ha:PE X a ta)(hb:PE X (.BoolOp .Or (b::rest) pos) tb):PE X (.BoolOp .Or (a::b::rest) pos) (tOrV ta tb):=by
 intro Ec s σ H Q I h
 refine BoolOp_or (thn (ha Ec s σ H _ I h) fun v s1 ⟨x,H1,I1,r1,q1⟩ => ?_)
 obtain⟨c,rfl,q1⟩:=q1
 cases r1
 refine wpAny_truthy_bool ?_
 cases c with
 | false=>exact hb Ec s1 σ H1 Q I1 q1
 | true=>exact⟨.bl true,H1,I1,rfl,q1⟩
end
def SqL(K:KFr)(H:Hp)(a:Addr)(xs:List V):Prop :=
 Rd H a (.lst xs) \/
  ∃(o:Obj) (its:Array Value) (n:Nat),K.lookup a=some o/\o.cls=.type "list"/\o.dict=none/\o.data=.seq its n/\its.size<=sizeLine/\Vals xs its.toList
def SqT(K:KFr)(H:Hp)(a:Addr)(xs:List V):Prop :=
 Rd H a (.tup xs) \/
  ∃(o:Obj) (its:Array Value) (n:Nat),K.lookup a=some o/\o.cls=.type "tuple"/\o.data=.seq its n/\its.size<=sizeLine/\Vals xs its.toList
def absV:Value->Option V
 | .none=>some .non
 | .bool b=>some (.bl b)
 | .int i _=>some (.int i)
 | .str x _=>some (.str x)
 | .bytes b _=>some (.byt b)
 | .float b _=>some (.flt b)
 | .ref a=>some (.ref a)
 | .type n=>some (.ty n)
 | _=>none
theorem RelV.abs{x:V}{u:Value}(r:RelV x u):absV u=some x:=by
 cases x with
 | non=>cases r;rfl
 | bl _=>cases r;rfl
 | int _=>obtain⟨t,rfl⟩:=r;rfl
 | str _=>obtain⟨t,rfl⟩:=r;rfl
 | byt _=>obtain⟨t,rfl⟩:=r;rfl
 | flt _=>obtain⟨t,rfl⟩:=r;rfl
 | ref _=>cases r;rfl
 | ty _=>cases r;rfl
theorem RelV.inj{x y:V}{u:Value}(r:RelV x u)(q:RelV y u):x=y:=AJ (r.abs.symm.trans q.abs)
theorem Vals.inj:∀{xs ys:List V}{us:List Value},Vals xs us->Vals ys us->xs=ys
 | _,_,_,.nil,.nil=>rfl
 | _,_,_,.cons r t,.cons r' t'=>by rw[r.inj r',Vals.inj t t']
section
variable {X:Cx}{Ec:List (Addr×Obj)}{σ:St}{H:Hp}{s:Shared}{a:Addr}{xs ys:List V}
theorem SqL.of{K:KFr}(h:H a=some (.lst xs)):SqL K H a xs:=.inl (.inl h)
theorem Inv.list(I:Inv X Ec σ H s)(h:SqL X.K H a xs):∃its:List Value,Vals xs its/\PlainL s.heap a its.toArray/\xs.length<=sizeLine:=by
 rcases h with h | ⟨o,its,n,hk,hc,hd,hs,hz,r⟩
 ·obtain⟨z,its,n,r,e⟩:=h.ok I.hok
  exact⟨its,r,⟨_,n,e,rfl,rfl,rfl⟩,z⟩
 ·refine⟨its.toList,r,⟨o,n,I.kIn a o hk,hc,hd,by simpa using hs⟩,?_⟩
  have e:=r.length
  simp only[BJ] at e
  rfl'
theorem Inv.tuple(I:Inv X Ec σ H s)(h:SqT X.K H a xs):∃its:List Value,Vals xs its/\IsTup s.heap a its.toArray/\xs.length<=sizeLine:=by
 rcases h with h | ⟨o,its,n,hk,hc,hs,hz,r⟩
 ·obtain⟨z,its,r,p⟩:=h.ok I.hok
  exact⟨its,r,p.tup,z⟩
 ·refine⟨its.toList,r,⟨o,I.kIn a o hk,hc,n,by simpa using hs⟩,?_⟩
  have e:=r.length
  simp only[BJ] at e
  rfl'
theorem Inv.yM8(I:Inv X Ec σ H s)(h:SqL X.K H a xs)(h':SqL X.K H a ys):xs=ys:=by
 obtain⟨its,r,⟨o,n,e,_,_,d⟩,_⟩:=I.list h
 obtain⟨its',r',⟨o',n',e',_,_,d'⟩,_⟩:=I.list h'
 rw[e] at e';cases e'
 rw[d] at d'
 injection d' with d1 _
 have:its=its':=by simpa using Bc Array.toList d1
 subst this
 exact r.inj r'
theorem Inv.yU1(I:Inv X Ec σ H s)(h:SqT X.K H a xs)(h':SqT X.K H a ys):xs=ys:=by
 obtain⟨its,r,⟨o,e,_,n,d⟩,_⟩:=I.tuple h
 obtain⟨its',r',⟨o',e',_,n',d'⟩,_⟩:=I.tuple h'
 rw[e] at e';cases e'
 rw[d] at d'
 injection d' with d1 _
 have:its=its':=by simpa using Bc Array.toList d1
 subst this
 exact r.inj r'
end
abbrev Cx.wish(X:Cx)(E:Value->Shared->Prop):Cx:={ X with xe:=E }
abbrev Cx.nox(X:Cx):Cx:=X.wish fun _ _=>False
theorem Cx.Ok.wish{X:Cx}(ok:X.Ok)(E:Value->Shared->Prop):(X.wish E).Ok :=
 ⟨ok.mod,ok.kind,ok.glob,ok.blt,ok.above,ok.inj,ok.has,ok.cab,ok.hd,ok.frames,ok.stk,ok.exf,ok.bs,ok.bsz,ok.noex,ok.exfs,ok.funs,ok.frf⟩
theorem Cx.Ok.unwish{X:Cx}{E:Value->Shared->Prop}(ok:(X.wish E).Ok):X.Ok :=
 ⟨ok.mod,ok.kind,ok.glob,ok.blt,ok.above,ok.inj,ok.has,ok.cab,ok.hd,ok.frames,ok.stk,ok.exf,ok.bs,ok.bsz,ok.noex,ok.exfs,ok.funs,ok.frf⟩
section
variable {X:Cx}{Ec:List (Addr×Obj)}{σ:St}{H:Hp}{s:Shared}{E:Value->Shared->Prop}
theorem Inv.wish(I:Inv X Ec σ H s)(E:Value->Shared->Prop):Inv (X.wish E) Ec σ H s:=⟨I.ok.wish E,I.os,I.bare,I.base,I.loc,I.cell,I.free,I.freeC,I.pin,I.hok,I.len⟩
theorem Inv.unwish(I:Inv (X.wish E) Ec σ H s):Inv X Ec σ H s:=⟨I.ok.unwish,I.os,I.bare,I.base,I.loc,I.cell,I.free,I.freeC,I.pin,I.hok,I.len⟩
theorem SP.unwish{D:Ends}{f:Flow}{s':Shared}(h:SP (X.wish E) Ec D f s'):SP X Ec D f s':=by
 cases f with
 | next=>obtain⟨σ',H',I,q⟩:=h;exact⟨σ',H',I.unwish,q⟩
 | brk=>obtain⟨σ',H',I,q⟩:=h;exact⟨σ',H',I.unwish,q⟩
 | cont=>obtain⟨σ',H',I,q⟩:=h;exact⟨σ',H',I.unwish,q⟩
 | ret u=>obtain⟨v,σ',H',I,r,q⟩:=h;exact⟨v,σ',H',I.unwish,r,q⟩
theorem PSs.nox{st:List Stmt}{t:TS}(h:PSs X.nox st t):PSs X st t:=fun Ec s σ H D I hw =>
 wpAny_mono (h Ec s σ H D (I.wish _) hw) (fun _ _ q=>q.unwish) fun _ _ z=>False.elim z
end
section
variable {X:Cx}{st:Stmt}{rest:List Stmt}{t u:TS}{e:Expr}{te:TE}{pos:Pos}
def tNext:TS:=fun D σ H=>D.nx σ H
def tSeq(t u:TS):TS:=fun D σ H=>t { D with nx:=u D } σ H
theorem zQ5:PSs X [] tNext:=fun _ _ σ H _ I h=>wpAny_execs_nil ⟨σ,H,I,h⟩
theorem xD(h1:PS X st t)(h2:PSs X rest u):PSs X (st::rest) (tSeq t u):=by
 intro Ec s σ H D I h
 refine wpAny_execs_cons (thn (h1 Ec s σ H { D with nx:=u D } I h) fun f s1 q => ?_)
 cases f with
 | next =>
  obtain⟨σ',H',I',q⟩:=q
  exact h2 Ec s1 σ' H' D I' q
 | ret v=>exact q
 | brk=>exact q
 | cont=>exact q
theorem qL(h1:PS X st t):PSs X [st] t:=by
 intro Ec s σ H D I h
 refine wpAny_execs_cons (thn (h1 Ec s σ H D I h) fun f s1 q => ?_)
 cases f with
 | next=>exact wpAny_execs_nil q
 | ret v=>exact q
 | brk=>exact q
 | cont=>exact q
theorem Inv.quiet{Ec:List (Addr×Obj)}{σ:St}{H:Hp}{s:Shared}(I:Inv X Ec σ H s):interactive X.env=false:=by simp[interactive,I.ok.kind]
def tDrop(te:TE):TS:=fun D σ H=>te σ H fun _ H1=>D.nx σ H1
theorem dO(he:PE X e te)(hs:autoParam (swapsWith e none pos.line X.env=pure false) Eb):PS X (.Expr e pos) (tDrop te):=by
 intro Ec s σ H D I h
 exact wpAny_Expr_any (thn (he Ec s σ H _ I h) fun v s1 ⟨x,H1,I1,r1,q1⟩=>⟨σ,H1,I1,q1⟩) I.quiet hs
def tRet(te:TE):TS:=fun D σ H=>te σ H D.rt
theorem zW9(he:PE X e te):PS X (.Return (some e) pos) (tRet te):=by
 intro Ec s σ H D I h
 exact wpAny_Return_some (thn (he Ec s σ H _ I h) fun v s1 ⟨x,H1,I1,r1,q1⟩=>⟨x,σ,H1,I1,r1,q1⟩)
def tIfS(c:TT)(t u:TS):TS:=fun D σ H=>c σ H fun b H1=>if b=true then t D σ H1 else u D σ H1
theorem yR5{c:Expr}{a b:List Stmt}{tc:TT}(hc:PT X c tc)(ha:PSs X a t)(hb:PSs X b u):PS X (.If c a b pos) (tIfS tc t u):=by
 intro Ec s σ H D I h
 refine wpAny_If (thn (hc Ec s σ H _ I h) fun d s1 ⟨H1,I1,q1⟩ => ?_)
 cases d with
 | true=>exact ha Ec s1 σ H1 D I1 q1
 | false=>exact hb Ec s1 σ H1 D I1 q1
def tNever:TS:=fun _ _ _=>False
theorem xI9:PS X st tNever:=fun _ _ _ _ _ _ h=>h.elim
end
abbrev TG:=V->St->Hp->(St->Hp->Prop)->Prop
abbrev TGs:=List V->St->Hp->(St->Hp->Prop)->Prop
def PG(X:Cx)(target:Expr)(t:TG):Prop :=
 ∀(Ec:List (Addr×Obj)) (s:Shared) (σ:St) (H:Hp) (v:V) (u:Value) (Q:St->Hp->Prop),Inv X Ec σ H s->RelV v u->t v σ H Q ->
  wpAny (model X.prog X.w) X.A (assign target X.env u) (fun _ s'=>∃σ' H',Inv X Ec σ' H' s'/\Q σ' H') X.xe s
def PGs(X:Cx)(ts:List Expr)(t:TGs):Prop :=
 ∀(Ec:List (Addr×Obj)) (s:Shared) (σ:St) (H:Hp) (vs:List V) (us:List Value) (Q:St->Hp->Prop),Inv X Ec σ H s->Vals vs us->t vs σ H Q ->
  wpAny (model X.prog X.w) X.A (assignInOrder ((assignEach ts X.env).map (·.2)) us) (fun _ s'=>∃σ' H',Inv X Ec σ' H' s'/\Q σ' H') X.xe s
abbrev TSet:=V->V->V->Hp->(Hp->Prop)->Prop
def PSet(X:Cx)(t:TSet):Prop :=
 ∀(Ec:List (Addr×Obj)) (s:Shared) (σ:St) (H:Hp) (o i v:V) (ov iv u:Value) (Q:Hp->Prop),Inv X Ec σ H s->RelV o ov->RelV i iv->RelV v u->t o i v H Q ->
  wpAny (model X.prog X.w) X.A (setItem ov iv u) (fun _ s'=>∃H',Inv X Ec σ H' s'/\Q H') X.xe s
abbrev TIp:=V->V->Hp->VK->Prop
def PIp(X:Cx)(op:Operator)(t:TIp):Prop :=
 ∀(Ec:List (Addr×Obj)) (s:Shared) (σ:St) (H:Hp) (x y:V) (v u:Value) (Q:VK),Inv X Ec σ H s->RelV x v->RelV y u->t x y H Q ->
  wpAny (model X.prog X.w) X.A (inplaceOp op v u) (EP X Ec σ Q) X.xe s
section
variable {X:Cx}{pos:Pos}
def gName(i:Nat):TG:=fun v σ H Q=>Q (σ.set i (some v)) H
theorem dF{i:Nat}{x:Str}(hN:X.N.Nodup)(hi:X.N[i]?=some x)(hx:Loc X.env.scope x)(hf:autoParam (X.fn x=true\/X.env.scope.names.lookup x=some .local) DX):PG X (.Name x pos) (gName i):=by
 intro Ec s σ H v u Q I r h
 exact wpAny_assign_Name (aE I hN hi hx r (fun s' I'=>⟨_,H,I',h⟩) hf)
def gNil:TGs:=fun vs σ H Q=>vs=[]/\Q σ H
def gCons(t:TG)(u:TGs):TGs:=fun vs σ H Q=>∃v r,vs=v::r/\t v σ H fun σ' H'=>u r σ' H' Q
theorem yC1:PGs X [] gNil:=by
 intro Ec s σ H vs us Q I r h
 obtain⟨e,h⟩:=h
 subst e
 cases r
 exact assignInOrder_nil ⟨σ,H,I,h⟩
theorem zK7{e:Expr}{es:List Expr}{t:TG}{u:TGs}(h1:PG X e t)(h2:PGs X es u)
  (hs:autoParam ((assignEach (e::es) X.env).map (·.2)=assign e X.env::(assignEach es X.env).map (·.2)) Eb):PGs X (e::es) (gCons t u):=by
 intro Ec s σ H vs us Q I r h
 obtain⟨v,vr,e1,h⟩:=h
 subst e1
 cases r with
 | cons r rr =>
  rw[hs]
  refine assignInOrder_cons (thn (h1 Ec s σ H _ _ _ I r h) fun _ s1 ⟨σ1,H1,I1,q1⟩ => ?_)
  exact h2 Ec s1 σ1 H1 _ _ Q I1 rr q1
def gTup(K:KFr)(n:Nat)(t:TGs):TG:=fun v σ H Q=>∃a xs,v=.ref a/\SqT K H a xs/\xs.length=n/\t xs σ H Q
theorem xR8{es:List Expr}{k:Nat}{t:TGs}{n:Nat}(hc:X.calm=true)(h:PGs X es t)
  (hn:autoParam ((assignEach es X.env).length=n) Eb) (hst:autoParam ((assignEach es X.env).findIdx? (·.1)=none) Eb):PG X (.Tuple es k pos) (gTup X.K n t):=by
 intro Ec s σ H v u Q I r hw
 obtain⟨a,xs,e1,hq,hl,hw⟩:=hw
 subst e1
 cases r
 obtain⟨its,rv,ht,hz⟩:=I.tuple hq
 refine assign_Tuple_tuple (I.ok.hd hc) ht (by simp[hn,<-hl,rv.length]) hst fun h' hx => ?_
 have I1:Inv X Ec σ H { s with heap:=h' }:=I.kept (t':=s.toks) fun b o e=>hx b o (AL (As e)) e
 exact h Ec _ σ H xs _ Q I1 (by simpa using rv) hw
def gSub(to ti:TE)(t:TSet):TG:=fun v σ H Q=>to σ H fun o H1=>ti σ H1 fun i H2=>t o i v H2 fun H3=>Q σ H3
theorem wJ5{o i:Expr}{to ti:TE}{t:TSet}(ho:PE X o to)(hi:PE X i ti)(hs:PSet X t)
  (ha:∀v,assign (.Subscript o i pos) X.env v=(do
   let ov <-holding [v] (eval o X.env)
   let iv <-holding [v,ov] (eval i X.env)
   standAt pos
   holding [v,ov,iv] (setItem ov iv v)
   release [v,ov,iv] []):=by intro _;rfl):PG X (.Subscript o i pos) (gSub to ti t):=by
 intro Ec s σ H v u Q I r h
 rw[ha]
 refine Am (wpAny_holding (thn (ho Ec s σ H _ I h) fun ov s1 ⟨x,H1,I1,r1,q1⟩ => ?_))
 refine Am (wpAny_holding (thn (hi Ec s1 σ H1 _ I1 q1) fun iv s2 ⟨y,H2,I2,r2,q2⟩ => ?_))
 refine Am (wpAny_standAt (Am (wpAny_holding (thn (hs Ec s2 σ H2 x y v ov iv u _ I2 r1 r2 r q2) fun _ s3 ⟨H3,I3,q3⟩ => ?_))))
 exact wpAny_release ⟨σ,H3,I3,q3⟩
def tAsg(te:TE)(g:TG):TS:=fun D σ H=>te σ H fun x H1=>g x σ H1 D.nx
theorem xT4{tg e:Expr}{te:TE}{g:TG}(he:PE X e te)(hg:PG X tg g)(hs:autoParam (swapsWithSole [tg] e pos.line X.env=pure false) Eb)(hw:autoParam (swappedStores [tg] e X.env=pure none) Eb)
  (h1:autoParam ((assignEach [tg] X.env).map (·.2)=[assign tg X.env]) Eb):PS X (.Assign [tg] e pos) (tAsg te g):=by
 intro Ec s σ H D I h
 refine wpAny_Assign_stores (thn (he Ec s σ H _ I h) fun v s1 ⟨x,H1,I1,r1,q1⟩ => ?_) hs hw
 rw[h1]
 exact thn (hg Ec s1 σ H1 x v _ I1 r1 q1) fun _ s2 q=>q
theorem kY{i:Nat}{x:Str}{e:Expr}{te:TE}{pos':Pos}(hN:X.N.Nodup)(hi:X.N[i]?=some x)(hx:Loc X.env.scope x)(he:PE X e te)(hs:autoParam (swapsWith e (some (.Name x pos')) pos.line X.env=pure false) Eb)(hf:autoParam (X.fn x=true\/X.env.scope.names.lookup x=some .local) DX) :
  PS X (.Assign [.Name x pos'] e pos) (tAsg te (gName i)):=by
 intro Ec s σ H D I h
 refine wpAny_Assign_Name (thn (he Ec s σ H _ I h) fun v s1 ⟨y,H1,I1,r1,q1⟩ => ?_) hs
 exact aE I1 hN hi hx r1 (fun s2 I2=>⟨_,H1,I2,q1⟩) hf
def tAug(i:Nat)(te:TE)(ti:TIp):TS:=fun D σ H=>∃x,σ[i]?=some (some x)/\te σ H fun y H1=>ti x y H1 fun z H2=>D.nx (σ.set i (some z)) H2
theorem wQ6{i:Nat}{x:Str}{e:Expr}{te:TE}{op:Operator}{ti:TIp}{pos':Pos}(hN:X.N.Nodup)(hi:X.N[i]?=some x)(hx:Loc X.env.scope x)(he:PE X e te)(ho:PIp X op ti)(hf:autoParam (X.fn x=true\/X.env.scope.names.lookup x=some .local) DX) :
  PS X (.AugAssign (.Name x pos') op e pos) (tAug i te ti):=by
 intro Ec s σ H D I h
 obtain⟨v,e1,h⟩:=h
 obtain⟨m,hn,hl⟩:=I.loc
 have vis:Vis X.env.scope x:=by rcases hx with k | k;exact .inl k;exact .inr (.inl k)
 obtain⟨u,r,l⟩:=hl i x v hi e1 vis
 refine wpAny_AugAssign_Name ?_
 have go:wpAny (model X.prog X.w) X.A (eval e X.env) (fun w s₂=>wpAny (model X.prog X.w) X.A (inplaceOp op u w) (fun r s₃=>wpAny (model X.prog X.w) X.A (storeName X.env x r) (fun _=>SP X Ec D .next) X.xe s₃) X.xe s₂) X.xe s:=by
  refine thn (he Ec s σ H _ I h) fun w s1 ⟨y,H1,I1,r1,q1⟩ => ?_
  refine thn (ho Ec s1 σ H1 v y u w _ I1 r r1 q1) fun z s2 ⟨zv,H2,I2,r2,q2⟩ => ?_
  exact aE I2 hN hi hx r2 (fun s3 I3=>⟨_,H2,I3,q2⟩) hf
 rcases l with ⟨hk,hm⟩ | ⟨hk,c,hc,hcell⟩
 ·exact wpAny_loadName_local I.ok.kind hk hn hm go
 ·rcases hk with hk | hk
  ·exact wpAny_loadName_cell I.ok.kind hk hc hcell go
  ·rcases hx with k | k
   ·have:X.env.scope.names.lookup x=some .free:=hk
    rw[k] at this;cases this
   ·have:X.env.scope.names.lookup x=some .free:=hk
    rw[k] at this;cases this
def tAugS(to ti te:TE)(tget:V->V->Hp->VK->Prop)(tip:TIp)(tset:TSet):TS:=fun D σ H=>to σ H fun o H1=>ti σ H1 fun i H2=>tget o i H2 fun x H3=>te σ H3 fun y H4=>tip x y H4 fun z H5=>tset o i z H5 fun H6=>D.nx σ H6
def PGet(X:Cx)(t:V->V->Hp->VK->Prop):Prop :=
 ∀(Ec:List (Addr×Obj)) (s:Shared) (σ:St) (H:Hp) (o i:V) (ov iv:Value) (Q:VK),Inv X Ec σ H s->RelV o ov->RelV i iv->t o i H Q ->
  wpAny (model X.prog X.w) X.A (getItem ov iv) (EP X Ec σ Q) X.xe s
theorem xA6{o i e:Expr}{to ti te:TE}{tget:V->V->Hp->VK->Prop}{tip:TIp}{tset:TSet}{op:Operator}{tpos:Pos}(ho:PE X o to)(hi:PE X i ti)(hg:PGet X tget)(he:PE X e te)(hp:PIp X op tip)(hs:PSet X tset)
  (ha:autoParam (∀ov iv new,augStore i ov iv new=(do holding [new,ov,iv] (setItem ov iv new);release [new,ov,iv] [];pure .next)) xK2._auto_1):PS X (.AugAssign (.Subscript o i tpos) op e pos) (tAugS to ti te tget tip tset):=by
 intro Ec s σ H D I h
 refine wpAny_AugAssign_SubscriptAny (thn (ho Ec s σ H _ I h) fun ov s1 ⟨x1,H1,I1,r1,q1⟩ => ?_) ha
 refine thn (hi Ec s1 σ H1 _ I1 q1) fun iv s2 ⟨x2,H2,I2,r2,q2⟩ => ?_
 refine thn (hg Ec s2 σ H2 x1 x2 ov iv _ I2 r1 r2 q2) fun old s3 ⟨x3,H3,I3,r3,q3⟩ => ?_
 refine thn (he Ec s3 σ H3 _ I3 q3) fun v s4 ⟨x4,H4,I4,r4,q4⟩ => ?_
 refine thn (hp Ec s4 σ H4 x3 x4 old v _ I4 r3 r4 q4) fun new s5 ⟨x5,H5,I5,r5,q5⟩ => ?_
 exact thn (hs Ec s5 σ H5 x1 x2 x5 ov iv new _ I5 r1 r2 r5 q5) fun _ s6 ⟨H6,I6,q6⟩=>⟨σ,H6,I6,q6⟩
def tWhile(c:TT)(tb:TS):TS:=fun D σ H=>∃W:Nat->St->Hp->Prop,(∃m,W m σ H)/\∀m σ H,W m σ H ->
 c σ H fun b H1=>if b=true then ∃N:St->Hp->Prop,(∀σ' H',N σ' H'->∃m',m'<m/\W m' σ' H')/\tb { D with nx:=N,ct:=N,bk:=D.nx } σ H1 else D.nx σ H1
theorem yO7{c:Expr}{body:List Stmt}{tc:TT}{tb:TS}(hp:PassesOwn (model X.prog X.w) X.A X.env X.xe)(hc:PT X c tc)(hb:PSs X body tb):PS X (.While c body [] pos) (tWhile tc tb):=by
 intro Ec s σ H D I h
 obtain⟨W,⟨m0,w0⟩,turn⟩:=h
 refine wpAny_While (codeAny_whileLoop (fun n s'=>∃σ' H',Inv X Ec σ' H' s'/\W n σ' H') ?_ m0 ⟨σ,H,I,w0⟩)
 rintro n s1 ⟨σ1,H1,I1,w1⟩
 refine wpAny_passesOwn hp (thn (hc Ec s1 σ1 H1 _ I1 (turn n σ1 H1 w1)) fun b s2 ⟨H2,I2,q2⟩ => ?_)
 cases b with
 | true =>
  obtain⟨N,hN,q2⟩:=q2
  rw[Ac rfl]
  refine wpAny_passesOwn hp (thn (hb Ec s2 σ1 H2 _ I2 q2) fun f s3 q3 => ?_)
  cases f with
  | next =>
   obtain⟨σ3,H3,I3,n3⟩:=q3
   obtain⟨m',hm,w3⟩:=hN σ3 H3 n3
   exact⟨m',hm,σ3,H3,I3,w3⟩
  | cont =>
   obtain⟨σ3,H3,I3,n3⟩:=q3
   obtain⟨m',hm,w3⟩:=hN σ3 H3 n3
   exact⟨m',hm,σ3,H3,I3,w3⟩
  | brk=>exact q3
  | ret v=>exact q3
 | false =>
  rw[Ah AG]
  exact wpAny_execs_nil ⟨σ1,H2,I2,q2⟩
end
structure It where
 go:Nat->Hp->Prop
 yld:Nat->Hp->V->Hp->Prop
 stop:Nat->Hp->Prop
def FpOk(X:Cx)(Ec:List (Addr×Obj))(H:Hp)(b:Addr):Prop :=
 H b=none/\b≠X.env.locals/\b∉X.fs/\(b∈X.ex\/X.s₀.heap.objs.size<=b)/\(∀x c,X.env.cells.lookup x=some c->c≠b)/\∀p∈X.pn++Ec,p.1≠b
theorem Inv.fpOk{X:Cx}{Ec:List (Addr×Obj)}{σ:St}{H H':Hp}{s:Shared}{b:Addr}(I:Inv X Ec σ H s)(hb:s.heap.objs.size<=b)(hn:H' b=none):FpOk X Ec H' b:=by
 refine⟨hn,Ds (Ar I.lt hb),I.nofs hb,.inr (AH I.sz hb),fun x c e z => ?_,fun p hp z => ?_⟩
 ·obtain⟨v,q⟩:=I.cell x c e
  exact absurd (Ar q.lt (by rw[z];exact hb)) (CB _)
 ·exact absurd (Ar (As (I.pin p hp).1) (by rw[z];exact hb)) (CB _)
structure Turn(P:Program)(w:World)(K:KFr)(tg:Expr)(J:It)(fp:List Addr)(it:Addr)(tn:Nat->Heap->Prop):Prop where
 mem:it∈fp
 obj:∀i h,tn i h->∀b∈fp,∃o,h.get? b=some o/\∀v,o.data ≠ .cell v
 keep:∀i h h',tn i h->(∀b∈fp,∀o,h.get? b=some o->h'.get? b=some o)->tn i h'
 item:∀(X:Cx),X.prog=P->X.w=w->X.K=K->X.calm=true->∀(i:Nat) (Ec:List (Addr×Obj)) (s:Shared) (σ:St) (H:Hp) (E:Value->Shared->Prop),Inv X Ec σ H s->(∀b∈fp,FpOk X Ec H b)->tn i s.heap->J.go i H ->
  wpAny (model P w) X.A (pyNext (.ref it)) (fun r s1=>∃u,r=some u /\
   wpAny (model P w) X.A (letOwnedTupleGo tg (.ref it) u) (fun _ s2=>∃x H',Inv X Ec σ H' s2/\RelV x u/\J.yld i H x H'/\tn (i+1) s2.heap/\∀b∈fp,H' b=none) E s1) E s
 done:∀(X:Cx),X.prog=P->X.w=w->X.K=K->X.calm=true->∀(i:Nat) (Ec:List (Addr×Obj)) (s:Shared) (σ:St) (H:Hp) (E:Value->Shared->Prop),Inv X Ec σ H s->(∀b∈fp,FpOk X Ec H b)->tn i s.heap->J.stop i H ->
  wpAny (model P w) X.A (pyNext (.ref it)) (fun r s1=>r=none/\Inv X Ec σ H s1) E s
 self:∀(A:Around) (i:Nat) (s:Shared) (Q:Value->Shared->Prop) (E:Value->Shared->Prop),tn i s.heap->Q (.ref it) s->wpAny (model P w) A (pyIter (.ref it)) Q E s
abbrev TI:=St->Hp->(It->Hp->Prop)->Prop
def PIE(X:Cx)(Ec:List (Addr×Obj))(σ:St)(tg:Expr)(R:It->Hp->Prop)(itv:Value)(s2:Shared):Prop :=
 ∃(it:Addr) (fp:List Addr) (tn:Nat->Heap->Prop) (J:It) (H':Hp),itv=.ref it/\Inv X Ec σ H' s2/\Turn X.prog X.w X.K tg J fp it tn/\tn 0 s2.heap/\(∀b∈fp,FpOk X Ec H' b)/\R J H'
def PI(X:Cx)(tg iter:Expr)(wi:TI):Prop :=
 ∀(Ec:List (Addr×Obj)) (s:Shared) (σ:St) (H:Hp) (R:It->Hp->Prop),Inv X Ec σ H s->wi σ H R ->
  wpAny (model X.prog X.w) X.A (eval iter X.env) (fun v s1=>wpAny (model X.prog X.w) X.A (pyIter v) (PIE X Ec σ tg R) X.xe s1) X.xe s
theorem yR6{M:Model}{A:Around}{E:Value->Shared->Prop}{s:Shared}{tg:Expr}{it:Addr}{u:Value}{o:Obj}{n:String}{vs:Array Value}{Q:Unit->Shared->Prop}(ho:s.heap.get? it=some o)(hc:o.cls=.type n)(hd:o.data=.fields vs)
  (hn:["enumerate","zip","dict_itemiterator","dict_reverseitemiterator","odict_iterator","itertools.zip_longest","itertools.pairwise"].contains n=false) (hQ:Q () s):wpAny M A (letOwnedTupleGo tg (.ref it) u) Q E s:=by
 unfold letOwnedTupleGo
 cases tg <;> first
  | exact AF hQ
  | (cases u <;> first
    | exact AF hQ
    | (refine Am (wpAny_load ho ?_)
       rw[hc,hd]
       show wpAny M A (if (["enumerate","zip","dict_itemiterator","dict_reverseitemiterator","odict_iterator","itertools.zip_longest","itertools.pairwise"].contains n&&vs[0]? == some (rawInt _))=true then _ else _) Q E s
       rw[Ah (by intro h;rw[hn,Bool.false_and] at h;cases h)]
       exact AF hQ))
def Itl(K:KFr)(a:Addr):It :=
 ⟨fun i H=>∃xs x,SqL K H a xs/\xs[i]?=some x,fun i H x H'=>H'=H/\∀xs,SqL K H a xs->xs[i]?=some x,fun i H=>∃xs,SqL K H a xs/\xs.length<=i⟩
def Itt(K:KFr)(a:Addr):It :=
 ⟨fun i H=>∃xs x,SqT K H a xs/\xs[i]?=some x,fun i H x H'=>H'=H/\∀xs,SqT K H a xs->xs[i]?=some x,fun i H=>∃xs,SqT K H a xs/\xs.length<=i⟩
def Itr(lo:Int)(n:Nat):It:=⟨fun i _=>i<n,fun i H x H'=>H'=H/\x=.int (lo+i),fun i _=>n<=i⟩
theorem xP9{P:Program}{w:World}{K:KFr}{tg:Expr}(a it:Addr):Turn P w K tg (Itl K a) [it] it (fun i h=>h.IsListIter it a i) where
 mem:=by simp
 obj:=fun i h st b hb=>by
  have e:b=it:=by simpa using hb
  subst e
  obtain⟨o,e,c,d⟩:=st
  exact⟨o,e,fun v z=>by rw[d] at z;cases z⟩
 keep:=fun i h h' st k=>st.at fun o e=>k it (by simp) o e
 item:=by
  intro X hP hw hK hc i Ec s σ H E I hf st hg
  subst hP hw hK
  obtain⟨xs,x,hq,hx⟩:=hg
  obtain⟨its,rv,p,hz⟩:=I.list hq
  obtain⟨u,hu,ru⟩:=rv.get hx
  obtain⟨f0,f1,f2,f3,f4,f5⟩:=hf it (by simp)
  refine wpAny_pyNext_list_item st p.isList (x:=u) (by simpa using hu) fun h' st' sb => ?_
  have I1:Inv X Ec σ H { s with heap:=h' }:=I.turned (t':=s.toks) (fun b o hb e=>(sb.2 b hb).trans e) f0 f1 f3 f4 f5
  obtain⟨o,e,c,d⟩:=id st'
  exact⟨u,rfl,yR6 (s:={ s with heap:=h' }) e c d (by decide) ⟨x,H,I1,ru,⟨rfl,fun ys hy=>by rw[I.yM8 hy hq];exact hx⟩,st',fun b hb=>(hf b hb).1⟩⟩
 done:=by
  intro X hP hw hK hc i Ec s σ H E I hf st hg
  subst hP hw hK
  obtain⟨xs,hq,hx⟩:=hg
  obtain⟨its,rv,p,hz⟩:=I.list hq
  obtain⟨f0,f1,f2,f3,f4,f5⟩:=hf it (by simp)
  have hl:=rv.length
  exact wpAny_pyNext_list_end (I.ok.hd hc) st p.isList (by simp;rfl') fun h' eb=>⟨rfl,I.turned (t':=s.toks) (fun b o hb e=>eb b o hb e) f0 f1 f3 f4 f5⟩
 self:=fun _ _ _ _ _ st h=>wpAny_pyIter_listiter st h
theorem xY7{P:Program}{w:World}{K:KFr}{tg:Expr}(a it:Addr):Turn P w K tg (Itt K a) [it] it (fun i h=>h.IsTupleIter it a i) where
 mem:=by simp
 obj:=fun i h st b hb=>by
  have e:b=it:=by simpa using hb
  subst e
  obtain⟨o,e,c,d⟩:=st
  exact⟨o,e,fun v z=>by rw[d] at z;cases z⟩
 keep:=fun i h h' st k=>st.at fun o e=>k it (by simp) o e
 item:=by
  intro X hP hw hK hc i Ec s σ H E I hf st hg
  subst hP hw hK
  obtain⟨xs,x,hq,hx⟩:=hg
  obtain⟨its,rv,p,hz⟩:=I.tuple hq
  obtain⟨u,hu,ru⟩:=rv.get hx
  obtain⟨f0,f1,f2,f3,f4,f5⟩:=hf it (by simp)
  refine wpAny_pyNext_tuple_item st (show s.heap.IsTuple a its.toArray from p) (x:=u) (by simpa using hu) fun h' st' sb => ?_
  have I1:Inv X Ec σ H { s with heap:=h' }:=I.turned (t':=s.toks) (fun b o hb e=>(sb.2 b hb).trans e) f0 f1 f3 f4 f5
  obtain⟨o,e,c,d⟩:=id st'
  exact⟨u,rfl,yR6 (s:={ s with heap:=h' }) e c d (by decide) ⟨x,H,I1,ru,⟨rfl,fun ys hy=>by rw[I.yU1 hy hq];exact hx⟩,st',fun b hb=>(hf b hb).1⟩⟩
 done:=by
  intro X hP hw hK hc i Ec s σ H E I hf st hg
  subst hP hw hK
  obtain⟨xs,hq,hx⟩:=hg
  obtain⟨its,rv,p,hz⟩:=I.tuple hq
  obtain⟨f0,f1,f2,f3,f4,f5⟩:=hf it (by simp)
  have hl:=rv.length
  exact wpAny_pyNext_tuple_end (I.ok.hd hc) st (show s.heap.IsTuple a its.toArray from p) (by simp;rfl') fun h' eb=>⟨rfl,I.turned (t':=s.toks) (fun b o hb e=>eb b o hb e) f0 f1 f3 f4 f5⟩
 self:=fun _ _ _ _ _ st h=>wpAny_pyIter_tupleiter st h
theorem xY8{P:Program}{w:World}{K:KFr}{tg:Expr}(it:Addr)(lo:Int)(n:Nat):Turn P w K tg (Itr lo n) [it] it (fun i h=>IsRangeIter h it (lo+(i:Nat)*1) ((n:Int)-(i:Nat)) 1) where
 mem:=by simp
 obj:=fun i h st b hb=>by
  have e:b=it:=by simpa using hb
  subst e
  exact⟨_,st,fun v z=>by
   have z':Data.fields _=Data.cell v:=z
   cases z'⟩
 keep:=fun i h h' st k=>k it (by simp) _ st
 item:=by
  intro X hP hw hK hc i Ec s σ H E I hf st hg
  subst hP hw hK
  obtain⟨f0,f1,f2,f3,f4,f5⟩:=hf it (by simp)
  have W:=Walks.range (prog:=X.prog) (w:=X.w) (I.ok.hd hc) it lo 1 n
  refine W.item i s _ _ hg st fun v h' tk hv st' kk => ?_
  obtain⟨t,rfl⟩:=hv
  have I1:Inv X Ec σ H { s with heap:=h',toks:=tk }:=I.turned (fun b o hb e=>kk b o (by simpa using hb) e) f0 f1 f3 f4 f5
  refine⟨_,rfl,yR6 (s:={ s with heap:=h',toks:=tk }) (n:="range_iterator") st' rfl rfl (by decide) ⟨.int (lo+i),H,I1,⟨t,?_⟩,⟨rfl,rfl⟩,st',fun b hb=>(hf b hb).1⟩⟩
  rw[DW]
 done:=by
  intro X hP hw hK hc i Ec s σ H E I hf st hg
  subst hP hw hK
  obtain⟨f0,f1,f2,f3,f4,f5⟩:=hf it (by simp)
  exact wpAny_pyNext_range_end (I.ok.hd hc) st (by have:n<=i:=hg;rfl') fun h' eb=>⟨rfl,I.turned (t':=s.toks) (fun b o hb e=>eb b o hb e) f0 f1 f3 f4 f5⟩
 self:=fun _ _ _ _ _ st h=>wpAny_pyIter_rangeiter st h
section
variable {X:Cx}{tg:Expr}
theorem yN6{Ec:List (Addr×Obj)}{σ:St}{H:Hp}{s:Shared}{R:It->Hp->Prop}{E:Value->Shared->Prop}{lo hi:Int}{t u v:Tok}{tk:Nat}(I:Inv X Ec σ H s)(h1:-(2 ^ 62)<=lo)(h2:lo<2 ^ 62)(h3:-(2 ^ 62)<=hi)(h4:hi<2 ^ 62)
  (q:R (Itr lo (hi-lo).toNat) H):wpAny (model X.prog X.w) X.A (pyIter (.ref s.heap.objs.size)) (PIE X Ec σ tg R) E { s with heap:=s.heap.push { cls:=.type "range",data:=.fields #[.int lo t,.int hi u,.int 1 v] },toks:=tk }:=by
 refine wpAny_pyIter_range (IsRange.new ..) (small_one h1 h2 h3 h4) ?_
 have I1:Inv X Ec σ H { s with heap:=s.heap.push { cls:=.type "range",data:=.fields #[.int lo t,.int hi u,.int 1 v] },toks:=tk }:=I.kept fun b o e=>Ai _ e
 refine⟨(s.heap.push { cls:=.type "range",data:=.fields #[.int lo t,.int hi u,.int 1 v] }).objs.size,[(s.heap.push { cls:=.type "range",data:=.fields #[.int lo t,.int hi u,.int 1 v] }).objs.size],_,_,H,rfl,
  I1.kept (t':=tk) fun b o e=>Ai _ e,xY8 _ lo (hi-lo).toNat,?_,fun b hb => ?_,q⟩
 ·have e1:lo+((0:Nat):Int)*1=lo:=by simp
  have e2:(((hi-lo).toNat:Nat):Int)-((0:Nat):Int)=Builtin.Range.rangeSize lo hi 1:=by rw[rangeSize_one];split <;> rfl'
  show IsRangeIter _ _ (lo+((0:Nat):Int)*1) ((((hi-lo).toNat:Nat):Int)-((0:Nat):Int)) 1
  rw[e1,e2]
  exact AA _ rfl
 ·have e:b=(s.heap.push { cls:=.type "range",data:=.fields #[.int lo t,.int hi u,.int 1 v] }).objs.size:=by simpa using hb
  subst e
  exact I1.fpOk (Ab _) (I1.hok.fresh (Ab _))
def iRng1(ta:TA):TI:=fun σ H R=>ta σ H fun vs H1=>∃j:Int,vs=[.int j]/\-(2 ^ 62)<=j/\j<2 ^ 62/\R (Itr 0 j.toNat) H1
def iRng2(ta:TA):TI:=fun σ H R=>ta σ H fun vs H1=>∃i j:Int,vs=[.int i,.int j]/\(-(2 ^ 62)<=i/\i<2 ^ 62/\-(2 ^ 62)<=j/\j<2 ^ 62)/\R (Itr i (j-i).toNat) H1
theorem zS3{a:Expr}{ta:TA}{p pos:Pos}(hg:Gl X "range")(hm:X.mg "range" = none)(ha:PA X [a] ta)(hs:autoParam (starEach [a] X.env=[(false,eval a X.env)]) Eb):PI X tg (.Call (.Name "range" p) [a] [] pos) (iRng1 ta):=by
 intro Ec s σ H R I h
 refine Call_ (aU I hg hm boot_range (BR (thn (ha pos Ec s σ H _ I h) fun us s1 ⟨vs,H1,I1,r1,q1⟩ => ?_) hs rfl))
 obtain⟨j,e,q1,q2,q⟩:=q1
 subst e
 cases r1 with
 | cons r rr =>
  cases rr
  obtain⟨t,rfl⟩:=r
  exact call_range_1 (yN6 I1 (by rfl') (by rfl') q1 q2 (by simpa using q))
theorem xM8{a b:Expr}{ta:TA}{p pos:Pos}(hg:Gl X "range")(hm:X.mg "range" = none)(ha:PA X [a,b] ta)(hs:autoParam (starEach [a,b] X.env=[(false,eval a X.env),(false,eval b X.env)]) Eb)(hs2:autoParam (starEach [b] X.env=[(false,eval b X.env)]) Eb) :
  PI X tg (.Call (.Name "range" p) [a,b] [] pos) (iRng2 ta):=by
 intro Ec s σ H R I h
 refine Call_ (aU I hg hm boot_range (BR (thn (ha pos Ec s σ H _ I h) fun us s1 ⟨vs,H1,I1,r1,q1⟩ => ?_) (by rw[hs,hs2]) (by rw[hs2];rfl)))
 obtain⟨i,j,e,⟨q1,q2,q3,q4⟩,q⟩:=q1
 subst e
 cases r1 with
 | cons r rr =>
  cases rr with
  | cons r' rr =>
   cases rr
   obtain⟨t,rfl⟩:=r
   obtain⟨t',rfl⟩:=r'
   exact call_range_2 (yN6 I1 q1 q2 q3 q4 q)
def tFor(wi:TI)(g:TG)(tb:TS):TS:=fun D σ H=>wi σ H fun J H1=>∃W:Nat->Nat->St->Hp->Prop,(∃m,W 0 m σ H1)/\∀i m σ H,W i m σ H ->
 (J.stop i H/\D.nx σ H)\/(J.go i H/\∃N:St->Hp->Prop,(∀σ' H',N σ' H'->∃m',m'<m/\W (i+1) m' σ' H')/\∀x H',J.yld i H x H'->g x σ H' fun σ2 H2=>tb { D with nx:=N,ct:=N,bk:=D.nx } σ2 H2)
def pinsAt(fp:List Addr)(h:Heap):List (Addr×Obj):=fp.filterMap fun b=>(h.get? b).map fun o=>(b,o)
theorem qR{fp:List Addr}{h:Heap}{b:Addr}{o:Obj}(hb:b∈fp)(e:h.get? b=some o):(b,o)∈pinsAt fp h:=DP.mpr ⟨b,hb,by rw[e];rfl⟩
theorem xT6{fp:List Addr}{h:Heap}{p:Addr×Obj}(hp:p∈pinsAt fp h):p.1∈fp/\h.get? p.1=some p.2:=by
 obtain⟨b,hb,e⟩:=DP.mp hp
 cases q:h.get? b with
 | none=>rw[q] at e;cases e
 | some o =>
  rw[q] at e
  have e':(b,o)=p:=AJ e
  subst e'
  exact⟨hb,q⟩
theorem Inv.pinned{Ec:List (Addr×Obj)}{σ:St}{H:Hp}{s:Shared}{fp:List Addr}(I:Inv X Ec σ H s)(hf:∀b∈fp,FpOk X Ec H b)(ho:∀b∈fp,∃o,s.heap.get? b=some o/\∀v,o.data ≠ .cell v):Inv X (Ec++pinsAt fp s.heap) σ H s :=
 I.uL fun p hp=>(AX.mp hp).elim (fun z=>I.pin p (Ap _ z)) fun z=>by
  obtain⟨hb,e⟩:=xT6 z
  obtain⟨f0,f1,f2,_⟩:=hf p.1 hb
  obtain⟨o,e',d⟩:=ho p.1 hb
  rw[e] at e';cases e'
  exact⟨e,f0,f1,f2,d⟩
theorem Inv.unpinned{Ec pl:List (Addr×Obj)}{σ:St}{H:Hp}{s:Shared}(I:Inv X (Ec++pl) σ H s):Inv X Ec σ H s:=I.uL fun p hp=>I.pin p (Ap _ (Bb _ hp))
theorem zH5{iter:Expr}{body:List Stmt}{wi:TI}{g:TG}{tb:TS}{pos:Pos}(hp:PassesOwn (model X.prog X.w) X.A X.env X.xe)(hc:X.calm=true)(hi:PI X tg iter wi)(hg:PG X tg g)(hb:PSs X body tb)
  (hs:autoParam (∀x,foldedSetIterable iter X.env x=pure x) DZ):PS X (.For tg iter body [] pos) (tFor wi g tb):=by
 intro Ec s σ H D I h
 refine wpAny_For (thn (hi Ec s σ H _ I h) fun v s1 h1=>thn h1 fun itv s2 h2 => ?_) hs
 obtain⟨it,fp,tn,J,H2,e,I2,T,st2,f2,W,⟨m0,w0⟩,turn⟩:=h2
 subst e
 have stat:∀{H':Hp},(∀b∈fp,H' b=none)->∀b∈fp,FpOk X Ec H' b:=fun hn b hb=>⟨hn b hb,(f2 b hb).2⟩
 refine codeAny_forLoop_any (fun n s'=>∃i σ' H',Inv X Ec σ' H' s'/\tn i s'.heap/\(∀b∈fp,H' b=none)/\W i n σ' H') ?_ m0 ⟨0,σ,H2,I2,st2,fun b hb=>(f2 b hb).1,w0⟩
 rintro n s3 ⟨i,σ3,H3,I3,st3,fr3,w3⟩
 rcases turn i n σ3 H3 w3 with ⟨stop,qn⟩ | ⟨go,N,hN,step⟩
 ·refine wpAny_passesOwn hp (thn (T.done X rfl rfl rfl hc i Ec s3 σ3 H3 X.xe I3 (stat fr3) st3 stop) fun r s4 ⟨hr,I4⟩ => ?_)
  subst hr
  exact wpAny_execs_nil ⟨σ3,H3,I4,qn⟩
 ·refine wpAny_passesOwn hp (thn (T.item X rfl rfl rfl hc i Ec s3 σ3 H3 X.xe I3 (stat fr3) st3 go) fun r s4 ⟨u,hr,h4⟩ => ?_)
  subst hr
  refine wpAny_passesOwn hp (thn h4 fun _ s5 ⟨x,H5,I5,r5,y5,st5,fr5⟩ => ?_)
  have I5':=I5.pinned (stat fr5) (T.obj _ _ st5)
  refine wpAny_passesOwn hp (thn (hg _ s5 σ3 H5 x u _ I5' r5 (step x H5 y5)) fun _ s6 ⟨σ6,H6,I6,q6⟩ => ?_)
  refine wpAny_passesOwn hp (thn (hb _ s6 σ6 H6 _ I6 q6) fun f s7 q7 => ?_)
  have again:∀{σ7:St}{H7:Hp},Inv X (Ec++pinsAt fp s5.heap) σ7 H7 s7->N σ7 H7->∃m,m<n/\∃i σ' H',Inv X Ec σ' H' s7/\tn i s7.heap/\(∀b∈fp,H' b=none)/\W i m σ' H':=fun {σ7 H7} I7 n7=>by
   obtain⟨m',hm,w7⟩:=hN σ7 H7 n7
   refine⟨m',hm,i+1,σ7,H7,I7.unpinned,T.keep _ _ _ st5 fun b hb o e=>(I7.pin (b,o) (Ap _ (Ap _ (qR hb e)))).1,fun b hb => ?_,w7⟩
   obtain⟨o,e,d⟩:=T.obj _ _ st5 b hb
   exact (I7.pin (b,o) (Ap _ (Ap _ (qR hb e)))).2.1
  cases f with
  | next=>obtain⟨σ7,H7,I7,n7⟩:=q7;exact again I7 n7
  | cont=>obtain⟨σ7,H7,I7,n7⟩:=q7;exact again I7 n7
  | brk=>obtain⟨σ7,H7,I7,q7⟩:=q7;exact⟨σ7,H7,I7.unpinned,q7⟩
  | ret v=>obtain⟨x7,σ7,H7,I7,r7,q7⟩:=q7;exact⟨x7,σ7,H7,I7.unpinned,r7,q7⟩
end
theorem yV8{lo:Int}{n:Nat}{g:TG}{tb:TS}{D:Ends}{σ:St}{H:Hp}(Pv:Nat->St->Hp->Prop)(h0:Pv 0 σ H)
  (hs:∀i σ H,i<n->Pv i σ H->g (.int (lo+i)) σ H fun σ2 H2=>tb { D with nx:=Pv (i+1),ct:=Pv (i+1),bk:=D.nx } σ2 H2) (hd:∀σ H,Pv n σ H->D.nx σ H) :
  ∃W:Nat->Nat->St->Hp->Prop,(∃m,W 0 m σ H)/\∀i m σ H,W i m σ H ->
   ((Itr lo n).stop i H/\D.nx σ H)\/((Itr lo n).go i H/\∃N:St->Hp->Prop,(∀σ' H',N σ' H'->∃m',m'<m/\W (i+1) m' σ' H')/\∀x H',(Itr lo n).yld i H x H'->g x σ H' fun σ2 H2=>tb { D with nx:=N,ct:=N,bk:=D.nx } σ2 H2):=by
 refine⟨fun i m σ H=>m=n-i/\i<=n/\Pv i σ H,⟨n,by simp,Bk _,h0⟩,?_⟩
 rintro i m σ H ⟨rfl,hi,p⟩
 by_cases hlt:i<n
 ·refine .inr ⟨hlt,Pv (i+1),fun σ' H' p'=>⟨n-(i+1),by rfl',rfl,hlt,p'⟩,fun x H' y => ?_⟩
  obtain⟨e,y⟩:=y
  subst e y
  exact hs i σ _ hlt p
 ·have e:i=n:=by rfl'
  subst e
  exact .inl ⟨Ab _,hd σ H p⟩
abbrev R2:=V->V->Hp->VK->Prop
def OpR(X:Cx)(f:Value->Value->Sem Value)(r:R2):Prop :=
 ∀(Ec:List (Addr×Obj)) (s:Shared) (σ:St) (H:Hp) (x y:V) (v u:Value) (Q:VK),Inv X Ec σ H s->RelV x v->RelV y u->r x y H Q ->
  wpAny (model X.prog X.w) X.A (f v u) (EP X Ec σ Q) X.xe s
def UnR(X:Cx)(f:Value->Sem Value)(r:V->Hp->VK->Prop):Prop :=
 ∀(Ec:List (Addr×Obj)) (s:Shared) (σ:St) (H:Hp) (x:V) (v:Value) (Q:VK),Inv X Ec σ H s->RelV x v->r x H Q ->
  wpAny (model X.prog X.w) X.A (f v) (EP X Ec σ Q) X.xe s
def CallR(X:Cx)(f:Value)(r:List V->Hp->VK->Prop):Prop :=
 ∀(Ec:List (Addr×Obj)) (s:Shared) (σ:St) (H:Hp) (xs:List V) (us:List Value) (Q:VK),Inv X Ec σ H s->Vals xs us->r xs H Q ->
  wpAny (model X.prog X.w) X.A (call f us) (EP X Ec σ Q) X.xe s
def tOp(r:R2)(ta tb:TE):TE:=fun σ H Q=>ta σ H fun x H1=>tb σ H1 fun y H2=>r x y H2 Q
def tUn(r:V->Hp->VK->Prop)(ta:TE):TE:=fun σ H Q=>ta σ H fun x H1=>r x H1 Q
def rI(C:Int->Int->Prop)(g:Int->Int->V):R2:=fun x y H Q=>∃i j,x=.int i/\y=.int j/\C i j/\Q (g i j) H
def rI0(g:Int->Int->V):R2:=fun x y H Q=>∃i j,x=.int i/\y=.int j/\Q (g i j) H
def rU(g:Int->V):V->Hp->VK->Prop:=fun x H Q=>∃i,x=.int i/\Q (g i) H
section
variable {X:Cx}{a b c:Expr}{ta tb tc:TE}{pos:Pos}
theorem binT(ha:PE X a ta)(hb:PE X b tb){Ec:List (Addr×Obj)}{s:Shared}{σ:St}{H:Hp}{R:V->V->Hp->Prop}(I:Inv X Ec σ H s)
  (h:ta σ H fun x H1=>tb σ H1 fun y H2=>R x y H2){Q:Value->Shared->Prop}{f:Value->Value->Sem Value}
  (hf:∀v u s2 x y H2,Inv X Ec σ H2 s2->RelV x v->RelV y u->R x y H2->wpAny (model X.prog X.w) X.A (f v u) Q X.xe s2) :
  wpAny (model X.prog X.w) X.A (eval a X.env) (fun v s₁=>wpAny (model X.prog X.w) X.A (eval b X.env) (fun u s₂=>wpAny (model X.prog X.w) X.A (f v u) Q X.xe s₂) X.xe s₁) X.xe s:=by
 refine thn (ha Ec s σ H _ I h) fun v s1 ⟨x,H1,I1,r1,q1⟩ => ?_
 refine thn (hb Ec s1 σ H1 _ I1 q1) fun u s2 ⟨y,H2,I2,r2,q2⟩ => ?_
 exact hf v u s2 x y H2 I2 r1 r2 q2
theorem xB3{op:Operator}{r:R2}(ho:OpR X (binaryOp op) r)(ha:PE X a ta)(hb:PE X b tb):PE X (.BinOp a op b pos) (tOp r ta tb):=by
 intro Ec s σ H Q I h
 exact wpAny_BinOp (binT ha hb I h fun v u s2 x y H2 I2 rx ry q=>ho Ec s2 σ H2 x y v u Q I2 rx ry q)
theorem wD1{op:UnaryOp}{r:V->Hp->VK->Prop}(ho:UnR X (unaryOp op) r)(ha:PE X a ta):PE X (.UnaryOp op a pos) (tUn r ta):=by
 intro Ec s σ H Q I h
 exact UnaryOp_ (thn (ha Ec s σ H _ I h) fun v s1 ⟨x,H1,I1,r1,q1⟩=>ho Ec s1 σ H1 x v Q I1 r1 q1)
theorem opI{f:Value->Value->Sem Value}{C:Int->Int->Prop}{g:Int->Int->Int}
  (rule:∀(i j:Int) (t u:Tok) (s:Shared) (Q:Value->Shared->Prop) (E:Value->Shared->Prop),C i j->Q (.int (g i j) s.toks) { s with toks:=s.toks+1 }->wpAny (model X.prog X.w) X.A (f (.int i t) (.int j u)) Q E s) :
  OpR X f (rI C fun i j=>.int (g i j)):=by
 intro Ec s σ H x y v u Q I rx ry h
 obtain⟨i,j,rfl,rfl,hc,q⟩:=h
 obtain⟨t,rfl⟩:=rx
 obtain⟨t',rfl⟩:=ry
 exact rule i j t t' s _ _ hc ⟨.int (g i j),H,I.tok _,⟨_,rfl⟩,q⟩
theorem opI0{f:Value->Value->Sem Value}{g:Int->Int->Int}
  (rule:∀(i j:Int) (t u:Tok) (s:Shared) (Q:Value->Shared->Prop) (E:Value->Shared->Prop),Q (.int (g i j) s.toks) { s with toks:=s.toks+1 }->wpAny (model X.prog X.w) X.A (f (.int i t) (.int j u)) Q E s) :
  OpR X f (rI0 fun i j=>.int (g i j)):=by
 intro Ec s σ H x y v u Q I rx ry h
 obtain⟨i,j,rfl,rfl,q⟩:=h
 obtain⟨t,rfl⟩:=rx
 obtain⟨t',rfl⟩:=ry
 exact rule i j t t' s _ _ ⟨.int (g i j),H,I.tok _,⟨_,rfl⟩,q⟩
theorem opB0{f:Value->Value->Sem Value}{g:Int->Int->Bool}
  (rule:∀(i j:Int) (t u:Tok) (s:Shared) (Q:Value->Shared->Prop) (E:Value->Shared->Prop),Q (.bool (g i j)) s->wpAny (model X.prog X.w) X.A (f (.int i t) (.int j u)) Q E s) :
  OpR X f (rI0 fun i j=>.bl (g i j)):=by
 intro Ec s σ H x y v u Q I rx ry h
 obtain⟨i,j,rfl,rfl,q⟩:=h
 obtain⟨t,rfl⟩:=rx
 obtain⟨t',rfl⟩:=ry
 exact rule i j t t' s _ _ ⟨.bl (g i j),H,I,rfl,q⟩
def CMul(i j:Int):Prop:=(-(2 ^ 64)<i/\i<2 ^ 64)\/(-(2 ^ 64)<j/\j<2 ^ 64)
theorem CMul.ok{i j:Int}(h:CMul i j):IntMulOk i j:=by
 rcases h with ⟨h1,h2⟩ | ⟨h1,h2⟩
 ·exact .of_left (intBits_le_64 h1 h2)
 ·exact .of_right (intBits_le_64 h1 h2)
theorem yA:OpR X (binaryOp .Add) (rI0 fun i j=>.int (i+j)):=opI0 fun _ _ _ _ _ _ _ q=>add_int q
theorem wB:OpR X (binaryOp .Sub) (rI0 fun i j=>.int (i-j)):=opI0 fun _ _ _ _ _ _ _ q=>sub_int q
theorem wV:OpR X (binaryOp .Mod) (rI (fun _ j=>0<j) fun i j=>.int (i%j)):=opI fun i j _ _ _ _ _ hc q=>by
 have h1:(0:Int)<j:=hc
 exact mod_int' (by rfl') (by rw[Int.fmod_eq_emod_of_nonneg i (by rfl')];exact q)
theorem zQ6:OpR X (inplaceOp .Add) (rI0 fun i j=>.int (i+j)):=opI0 fun _ _ _ _ _ _ _ q=>iadd_int q
theorem wZ6:OpR X (inplaceOp .Sub) (rI0 fun i j=>.int (i-j)):=opI0 fun _ _ _ _ _ _ _ q=>isub_int q
theorem unI{f:Value->Sem Value}{g:Int->Int}
  (rule:∀(i:Int) (t:Tok) (s:Shared) (Q:Value->Shared->Prop) (E:Value->Shared->Prop),Q (.int (g i) s.toks) { s with toks:=s.toks+1 }->wpAny (model X.prog X.w) X.A (f (.int i t)) Q E s) :
  UnR X f (rU fun i=>.int (g i)):=by
 intro Ec s σ H x v Q I rx h
 obtain⟨i,rfl,q⟩:=h
 obtain⟨t,rfl⟩:=rx
 exact rule i t s _ _ ⟨.int (g i),H,I.tok _,⟨_,rfl⟩,q⟩
theorem wK8:UnR X (unaryOp .USub) (rU fun i=>.int (-i)):=unI fun _ _ _ _ _ q=>neg_int q
theorem aF:OpR X (compareOp .Lt) (rI0 fun i j=>.bl (decide (i<j))):=opB0 fun _ _ _ _ _ _ _ q=>lt_int q
theorem gO:OpR X (compareOp .LtE) (rI0 fun i j=>.bl (decide (i<=j))):=opB0 fun _ _ _ _ _ _ _ q=>le_int q
theorem cG:OpR X (compareOp .Gt) (rI0 fun i j=>.bl (decide (j<i))):=opB0 fun _ _ _ _ _ _ _ q=>gt_int q
theorem xB6:OpR X (compareOp .GtE) (rI0 fun i j=>.bl (decide (j<=i))):=opB0 fun _ _ _ _ _ _ _ q=>ge_int q
def isObj:HO->Bool
 | .lst _=>true
 | .ins _ _ _=>true
 | _=>false
theorem zV3{Ec:List (Addr×Obj)}{s:Shared}{σ:St}{H:Hp}{a:Addr}{o:HO}(I:Inv X Ec σ H s)(h:H a=some o)(p:isObj o=true):∃ob,s.heap.get? a=some ob/\ob.cls ≠ .type "tuple":=by
 cases o with
 | lst xs =>
  obtain⟨_,its,n,_,e⟩:xs.length<=sizeLine/\∃(its:List Value) (n:Nat),Vals xs its/\s.heap.get? a=some { cls:=.type "list",data:=.seq its.toArray n }:=I.hok a _ h
  exact⟨_,e,(by show Value.type "list" ≠ .type "tuple";decide +kernel)⟩
 | ins C dx fs =>
  have x:=I.hok a _ h
  obtain⟨_,_,_,e,_⟩:=x
  exact⟨_,e,(by show Value.ref C ≠ .type "tuple";exact fun z=>by cases z)⟩
 | _=>exact absurd (show false=true from p) AG
theorem nomark(b:Expr){op:CmpOp}(h:autoParam (op ≠ .In) Ea)(h2:autoParam (op ≠ .NotIn) Ea):behindInMarks op b=false:=by
 have e1:(op == CmpOp.In)=false:=by cases op <;> first | rfl | exact absurd rfl h
 have e2:(op == CmpOp.NotIn)=false:=by cases op <;> first | rfl | exact absurd rfl h2
 cases b <;> simp[behindInMarks,e1,e2]
theorem wW4{op:CmpOp}{r:R2}(ho:OpR X (compareOp op) r)(ha:PE X a ta)(hb:PE X b tb)(hm:behindInMarks op b=false):PE X (.Compare a [op] [b] pos) (tOp r ta tb):=by
 intro Ec s σ H Q I h
 exact wpAny_Compare1 (binT ha hb I h fun v u s2 x y H2 I2 rx ry q=>ho Ec s2 σ H2 x y v u Q I2 rx ry q) hm
def tTest(t:TE):TT:=fun σ H Q=>t σ H fun x H'=>∃k,x=.bl k/\Q k H'
theorem zQ4{op:CmpOp}{r:R2}(ho:OpR X (compareOp op) r)(ha:PE X a ta)(hb:PE X b tb)(hm:behindInMarks op b=false):PT X (.Compare a [op] [b] pos) (tTest (tOp r ta tb)):=by
 intro Ec s σ H Q I h
 refine wpAny_isTrue_Compare1 (thn (ha Ec s σ H _ I h) fun v s1 ⟨x,H1,I1,r1,q1⟩=>thn (hb Ec s1 σ H1 _ I1 q1) fun u s2 ⟨y,H2,I2,r2,q2⟩ =>
  thn (ho Ec s2 σ H2 x y v u _ I2 r1 r2 q2) fun c s3 ⟨z,H3,I3,r3,k,e,q3⟩ => ?_) hm
 subst e
 cases r3
 exact wpAny_truthy_bool ⟨H3,I3,q3⟩
def tChain(r r':R2)(ta tb tc:TE):TE:=fun σ H Q=>ta σ H fun x H1=>tb σ H1 fun y H2=>r x y H2 fun z H3=>∃k,z=.bl k /\
 (if k=true then tc σ H3 fun w' H4=>r' y w' H4 Q else Q (.bl false) H3)
theorem xH7{op op':CmpOp}{r r':R2}(ho:OpR X (compareOp op) r)(ho':OpR X (compareOp op') r')(ha:PE X a ta)(hb:PE X b tb)(hc:PE X c tc)
  (hm:autoParam (lastMarks [op,op'] [b,c]=false) zD4._auto_1):PE X (.Compare a [op,op'] [b,c] pos) (tChain r r' ta tb tc):=by
 intro Ec s σ H Q I h
 refine Compare_chain (thn (ha Ec s σ H _ I h) fun v s1 ⟨x,H1,I1,r1,q1⟩=>chain_link (thn (hb Ec s1 σ H1 _ I1 q1) fun u s2 ⟨y,H2,I2,r2,q2⟩ =>
  thn (ho Ec s2 σ H2 x y v u _ I2 r1 r2 q2) fun d s3 ⟨z,H3,I3,r3,k,e,q3⟩ => ?_)) hm
 subst e
 cases r3
 refine wpAny_truthy_bool ?_
 cases k with
 | false=>exact ite_ff ⟨.bl false,H3,I3,rfl,q3⟩
 | true=>exact ite_tt (chain_last (thn (hc Ec s3 σ H3 _ I3 q3) fun w' s4 ⟨z',H4,I4,r4,q4⟩=>ho' Ec s4 σ H4 y z' u w' Q I4 r2 r4 q4))
theorem xJ5{op op':CmpOp}{r r':R2}(ho:OpR X (compareOp op) r)(ho':OpR X (compareOp op') r')(ha:PE X a ta)(hb:PE X b tb)(hc:PE X c tc)
  (hm:autoParam (lastMarks [op,op'] [b,c]=false) zD4._auto_1):PT X (.Compare a [op,op'] [b,c] pos) (tTest (tChain r r' ta tb tc)):=by
 intro Ec s σ H Q I h
 refine isTrue_chain (thn (ha Ec s σ H _ I h) fun v s1 ⟨x,H1,I1,r1,q1⟩=>test_link (thn (hb Ec s1 σ H1 _ I1 q1) fun u s2 ⟨y,H2,I2,r2,q2⟩ =>
  thn (ho Ec s2 σ H2 x y v u _ I2 r1 r2 q2) fun d s3 ⟨z,H3,I3,r3,k,e,q3⟩ => ?_)) hm
 subst e
 cases r3
 refine wpAny_truthy_bool ?_
 cases k with
 | false =>
  obtain⟨k',e',q'⟩:=q3
  cases e'
  exact ite_ff ⟨H3,I3,q'⟩
 | true =>
  refine ite_tt (test_last (thn (hc Ec s3 σ H3 _ I3 q3) fun w' s4 ⟨z',H4,I4,r4,q4⟩=>thn (ho' Ec s4 σ H4 y z' u w' _ I4 r2 r4 q4) fun d' s5 ⟨z2,H5,I5,r5,k2,e2,q5⟩ => ?_))
  subst e2
  cases r5
  exact wpAny_truthy_bool ⟨H5,I5,q5⟩
theorem line63:(sizeLine:Nat)<2 ^ 63:=by rw[sizeLine_eq];decide
theorem qN:OpR X (binaryOp .Add) (fun x y H Q=>∃i j,x=.str i/\y=.str j/\i.length+j.length<=sizeLine/\Q (.str (i++j)) H):=by
 intro Ec s σ H x y v u Q I rx ry h
 obtain⟨i,j,rfl,rfl,hz,q⟩:=h
 obtain⟨t,rfl⟩:=rx
 obtain⟨t',rfl⟩:=ry
 exact add_str (fun t' tk=>⟨.str (i++j),H,I.tok _,⟨_,rfl⟩,q⟩) hz
theorem vals1{x:V}{us:List Value}(r:Vals [x] us):∃u,us=[u]/\RelV x u:=by
 cases r with
 | cons r1 r2=>cases r2;exact⟨_,rfl,r1⟩
theorem vals2{x y:V}{us:List Value}(r:Vals [x,y] us):∃u w',us=[u,w']/\RelV x u/\RelV y w':=by
 cases r with
 | cons r1 r2 =>
  cases r2 with
  | cons r3 r4=>cases r4;exact⟨_,_,rfl,r1,r3⟩
theorem xJ2:CallR X (.builtin "abs") (fun xs H Q=>∃i,xs=[.int i]/\Q (.int (if i<0 then -i else i)) H):=by
 intro Ec s σ H xs us Q I r h
 obtain⟨i,rfl,q⟩:=h
 obtain⟨u,rfl,t,rfl⟩:=vals1 r
 exact call_abs_int fun u tk=>⟨.int (if i<0 then -i else i),H,I.tok _,⟨_,rfl⟩,q⟩
theorem xQ9(hc:X.calm=true):CallR X (.builtin "max") (fun xs H Q=>∃i j,xs=[.int i,.int j]/\Q (.int (if j > i then j else i)) H):=by
 intro Ec s σ H xs us Q I r h
 obtain⟨i,j,rfl,q⟩:=h
 obtain⟨u,w',rfl,⟨t,rfl⟩,⟨t',rfl⟩⟩:=vals2 r
 refine max_two_ints (I.ok.hd hc) fun h' tk k=>⟨_,H,I.kept k,?_,q⟩
 by_cases hj:j > i
 ·rw[Ac hj,Ac hj];exact⟨_,rfl⟩
 ·rw[Ah hj,Ah hj];exact⟨_,rfl⟩
theorem uD(hc:X.calm=true):CallR X (.builtin "min") (fun xs H Q=>∃i j,xs=[.int i,.int j]/\Q (.int (if j<i then j else i)) H):=by
 intro Ec s σ H xs us Q I r h
 obtain⟨i,j,rfl,q⟩:=h
 obtain⟨u,w',rfl,⟨t,rfl⟩,⟨t',rfl⟩⟩:=vals2 r
 refine min_two_ints (I.ok.hd hc) fun h' tk k=>⟨_,H,I.kept k,?_,q⟩
 by_cases hj:j<i
 ·rw[Ac hj,Ac hj];exact⟨_,rfl⟩
 ·rw[Ah hj,Ah hj];exact⟨_,rfl⟩
theorem xN1:CallR X (.type "int") (fun xs H Q=>(∃i,xs=[.int i]/\Q (.int i) H)\/∃k,xs=[.bl k]/\Q (.int (if k then 1 else 0)) H):=by
 intro Ec s σ H xs us Q I r h
 rcases h with ⟨i,rfl,q⟩ | ⟨k,rfl,q⟩
 ·obtain⟨u,rfl,t,rfl⟩:=vals1 r
  exact call_int_int ⟨.int i,H,I,⟨_,rfl⟩,q⟩
 ·obtain⟨u,rfl,r1⟩:=vals1 r
  cases r1
  exact call_int_bool ⟨.int (if k then 1 else 0),H,I.tok _,⟨_,rfl⟩,q⟩
theorem yI:CallR X (.type "str") (fun xs H Q=>∃i,xs=[.int i]/\i.natAbs.log2<1920/\Q (.str (toString i)) H):=by
 intro Ec s σ H xs us Q I r h
 obtain⟨i,rfl,hz,q⟩:=h
 obtain⟨u,rfl,t,rfl⟩:=vals1 r
 exact PySem.P.str_of_int hz ⟨.str _,H,I.tok _,⟨_,rfl⟩,q⟩
end
structure ObjM(h:Heap)(x dx C:Addr)(mA:Str->Option Value):Prop where
 obj:h.get? x=some (PySem.W.instObj C dx)
 ns:h.Ns1 dx mA
 ne:dx≠x
section
variable {prog:Program}{w:World}{A:Around}{E:Value->Shared->Prop}{s:Shared}{K:KFr}{x dx C f:Addr}{mA:Str->Option Value}{name:Str}{v:Value}
end
section
variable {P:Program}{w:World}{H H':Hp}{h h':Heap}{a C dx:Addr}{fs fs':List (Str×V)}
end
structure Cls(K:KFr)(C:Addr):Prop where
 pg:PySem.W.plainGet K C Str.empty=true
 hd:PySem.W.hasDictIn K C=true
 po:PySem.W.plainOver K C=true
 sa:PySem.W.findIn K (.ref C) "__setattr__" = some (some (.builtin "object.__setattr__"))
structure Con(K:KFr)(C:Addr)(f:Str)(v:V)(u:Value):Prop where
 at_:PySem.W.findIn K (.ref C) f=some (some u)
 rel:RelV v u
 get:PySem.W.specialIn K u "__get__" = some none
 cp:PySem.W.copiedNames.contains f=false
structure Meth(K:KFr)(C:Addr)(m:Str)(f:Addr):Prop where
 at_:PySem.W.findIn K (.ref C) m=some (some (.ref f))
 fn:PySem.W.isFn K (.ref f)=true
 kp:PySem.W.keepIn K (.ref f)=true
section
variable {X:Cx}{Ec:List (Addr×Obj)}{σ:St}{H:Hp}{s:Shared}{a C dx:Addr}{fs:List (Str×V)}{f:Str}{v:V}{A:Around}{E:Value->Shared->Prop}
end
section
variable {X:Cx}{o e value:Expr}{f:Str}{pos pos' tpos:Pos}{ta tv:TE}
end
section
variable {X:Cx}{Ec:List (Addr×Obj)}{σ:St}{H:Hp}{s:Shared}{A:Around}{E:Value->Shared->Prop}{Q:Value->Shared->Prop}{c:Value}{b:Bool}
inductive TyOf(K:KFr)(H:Hp):V->Value->Prop where
 | non:TyOf K H .non (.type "NoneType")
 | bl (x:Bool):TyOf K H (.bl x) (.type "bool")
 | int (i:Int):TyOf K H (.int i) (.type "int")
 | str (x:Str):TyOf K H (.str x) (.type "str")
 | flt (x:UInt64):TyOf K H (.flt x) (.type "float")
 | lst {a:Addr}{xs:List V}(e:H a=some (.lst xs)):TyOf K H (.ref a) (.type "list")
 | frz {a:Addr}{o:Obj}{xs:List V}(e:H a=some (.frz o (.lst xs))):TyOf K H (.ref a) (.type "list")
 | tup {a:Addr}{xs:List V}(e:H a=some (.tup xs)):TyOf K H (.ref a) (.type "tuple")
 | dK {a:Addr}{kvs:List (Key×V)}(e:H a=some (.dK kvs)):TyOf K H (.ref a) (.type "dict")
 | dT {a:Addr}{kvs:List (List Key×V)}(e:H a=some (.dT kvs)):TyOf K H (.ref a) (.type "dict")
 | ins {a C dx:Addr}{fs:List (Str×V)}(e:H a=some (.ins C dx fs)) (cl:Cls K C) (ha:PySem.W.findIn K (.ref C) "__class__" = some (some (.builtin "object.__class__")))
   (hn:PySem.W.specialIn K (.builtin "object.__class__") "__get__" = some (some (.builtin "getset_descriptor.__get__"))) (htk:PySem.W.takesIn K (.builtin "object.__class__")=some true)
   (hm:PySem.W.mroIn K C (.type "object")=some true):TyOf K H (.ref a) (.ref C)
end
structure Room(k:Nat)(A:Around):Prop where
 hd:A.handled=none
 dp:A.depth+3*k+5<recursionLimit
 un:A.units+16*k+200<cLine
theorem Room.mono{j k:Nat}{A:Around}(r:Room k A)(h:j<=k):Room j A:=⟨r.hd,by have:=r.dp;rfl',by have:=r.un;rfl'⟩
theorem Room.deeper{k:Nat}{A:Around}(r:Room (k+1) A)(env:Env):Room k (A.deeper env) :=
 ⟨r.hd,by have:=r.dp;show A.depth+1+3*k+5<_;rfl',by have:=r.un;show A.units+3+16*k+200<_;rfl'⟩
theorem Room.depth{k:Nat}{A:Around}(r:Room k A):A.depth<recursionLimit:=by have:=r.dp;rfl'
theorem Room.units{k:Nat}{A:Around}(r:Room k A):A.units+64<cLine:=by have:=r.un;rfl'
def tNil:TA:=fun _ H Q=>Q [] H
def dS(ta:TE)(tr:TA):TA:=fun σ H Q=>ta σ H fun x H1=>tr σ H1 fun xs H2=>Q (x::xs) H2
section
variable {X:Cx}{e:Expr}{es:List Expr}{te:TE}{t:TA}{pos:Pos}
theorem xE:PA X [] tNil:=fun _ _ _ _ H Q I h=>Calls.spliced_nil ⟨[],H,I,.nil,h⟩
theorem xO(ha:PE X e te)(hr:PA X es t)(hs:autoParam (starEach (e::es) X.env=(false,eval e X.env)::starEach es X.env) Eb):PA X (e::es) (dS te t):=by
 intro pos Ec s σ H Q I h
 rw[hs]
 show wpAny _ _ (spliced ((false,eval e X.env)::backTo pos (starEach es X.env))) _ _ s
 refine DQ (thn (ha Ec s σ H _ I h) fun u s1 ⟨x,H1,I1,r1,q1⟩ => ?_)
 exact thn (hr pos Ec s1 σ H1 _ I1 q1) fun us s2 ⟨xs,H2,I2,r2,q2⟩=>⟨x::xs,H2,I2,.cons r1 r2,q2⟩
def tTup(t:TA):TE:=fun σ H Q=>t σ H fun xs H1=>xs.length<=sizeLine/\∀p,H1 p=none->Q (.ref p) (upd H1 p (.tup xs))
def tLst(t:TA):TE:=fun σ H Q=>t σ H fun xs H1=>xs.length<=sizeLine/\∀p,H1 p=none->Q (.ref p) (upd H1 p (.lst xs))
theorem xM2{x1}(h:PA X es t):PE X (.Tuple es x1 pos) (tTup t):=by
 intro Ec s σ H Q I hq
 refine wpAny_Tuple_spliced (thn (h pos Ec s σ H _ I hq) fun us s1 ⟨xs,H1,I1,r,z,q⟩=>⟨by rw[<-r.length];exact z,?_⟩)
 have hf:H1 s1.heap.objs.size=none:=I1.hok.fresh (Ab _)
 refine⟨.ref s1.heap.objs.size,upd H1 s1.heap.objs.size (.tup xs),I1.laid (t':=s1.toks) (fun b u e=>Ai _ e) (Ab _) ?_,rfl,q _ hf⟩
 exact⟨z,us,r,TupAt.new _ _⟩
theorem yO3(h:PA X es t):PE X (.List es pos) (tLst t):=by
 intro Ec s σ H Q I hq
 refine wpAny_List_spliced (thn (h pos Ec s σ H _ I hq) fun us s1 ⟨xs,H1,I1,r,z,q⟩=>⟨by rw[<-r.length];exact z,?_⟩)
 have hf:H1 s1.heap.objs.size=none:=I1.hok.fresh (Ab _)
 refine⟨.ref s1.heap.objs.size,upd H1 s1.heap.objs.size (.lst xs),I1.laid (t':=s1.toks) (fun b u e=>Ai _ e) (Ab _) ?_,rfl,q _ hf⟩
 exact⟨z,us,0,r,AA _ rfl⟩
end
abbrev Sp:=List V->Hp->VK->XK->Prop
abbrev CXT:=List Env->Hp->Shared->XK->Value->Shared->Prop
structure Env0(P:Program)(w:World)(K:KFr)(mg:Str->Option Value)(base:Heap)(A:Around)(outer:List Env)(s:Shared)(H:Hp):Prop where
 frames:A.frames=some outer
 mod:Mod K mg base
 bs:∀b o,base.get? b=some o->s.heap.get? b=some o/\H b=none
 bsz:base.objs.size<=s.heap.objs.size
 funs:s.heap.FunFrames base outer
 frf:∀b∈frs outer,H b=none
 hok:HOk P w H s.heap
 bare:AllBare s.gens
def CE(outer:List Env)(P:Program)(w:World)(H:Hp)(s:Shared)(Q:VK)(u:Value)(s':Shared):Prop :=
 ∃v H',s'.os=s.os/\AllBare s'.gens/\Un (frs outer) [] H H' s.heap s'.heap/\HOk P w H' s'.heap/\RelV v u/\Q v H'
def CR(CX:CXT)(outer:List Env)(P:Program)(w:World)(H:Hp)(s:Shared)(Q:VK)(E:XK)(r:Result)(s':Shared):Prop :=
 match r with
 | .ok (.ret u)=>CE outer P w H s Q u s'
 | .ok _=>False
 | .error e=>CX outer H s E e s'
structure FnOk(P:Program)(w:World)(K:KFr)(mg:Str->Option Value)(base:Heap)(CX:CXT)(k:Nat)(f:Addr)(fd:FuncData)(ps:List Str)(sp:Sp):Prop where
 len:∀vs H Q E,sp vs H Q E->vs.length=ps.length
 run:∀(A:Around) (outer:List Env) (s:Shared) (H:Hp) (args:Args) (us:List Value) (vs:List V) (Q:VK) (E:XK),Room k A->Env0 P w K mg base A outer s H->BindsTo s fd args (ps.zip us)->Vals vs us->sp vs H Q E ->
  codeAny (model P w) A (.call (.ref f) args) (CR CX outer P w H s Q E) s
theorem FnOk.imp{P:Program}{w:World}{K:KFr}{mg:Str->Option Value}{base:Heap}{CX:CXT}{k:Nat}{f:Addr}{fd:FuncData}{ps:List Str}{sp sp':Sp}(F:FnOk P w K mg base CX k f fd ps sp)
  (h:∀vs H Q E,sp' vs H Q E->sp vs H Q E):FnOk P w K mg base CX k f fd ps sp' :=
 ⟨fun vs H Q E q=>F.len vs H Q E (h _ _ _ _ q),fun A outer s H args us vs Q E hr he hb hv hs=>F.run A outer s H args us vs Q E hr he hb hv (h _ _ _ _ hs)⟩
section
variable {X:Cx}{Ec:List (Addr×Obj)}{σ:St}{H:Hp}{s s':Shared}
theorem Inv.env0(I:Inv X Ec σ H s):Env0 X.prog X.w X.K X.mg X.base X.A X.stack s H :=
 ⟨I.ok.frames,I.ok.mod,I.bs,AH I.ok.bsz I.sz,I.stack,I.stkFree,I.hok,I.bare⟩
theorem Inv.after{Q:VK}{u:Value}(I:Inv X Ec σ H s)(h:CE X.stack X.prog X.w H s Q u s'):EP X Ec σ Q u s':=by
 obtain⟨v,H',os,bare,un,hok,r,q⟩:=h
 obtain⟨hh,g,d,t,os'⟩:=s'
 obtain rfl:os'=s.os:=os
 exact⟨v,H',I.call (h':=hh) (g':=g) (d':=d) (t':=t) (ch:=[]) un hok bare (fun b z=>absurd z (by simp)),r,q⟩
end
def tCall(sp:Sp)(dvs:List V)(E:XK)(t:TA):TE:=fun σ H Q=>t σ H fun vs H1=>sp (vs++dvs) H1 Q E
def Binds(K:KFr)(fd:FuncData)(ps:List Str)(ds:List Value):Prop :=
 ∀(s:Shared) (us:List Value),K.In s.heap->(us++ds).length=ps.length->BindsTo s fd ⟨us,[]⟩ (ps.zip (us++ds))
theorem Binds.all{K:KFr}{fd:FuncData}{ps:List Str}(h:∀us:List Value,us.length=ps.length->bindArgs fd ⟨us,[]⟩=pure (ps.zip us)):Binds K fd ps []:=fun s us _ hl=>by
 rw[BC] at hl ⊢
 exact .of_eq (h us hl)
def Passes(CX:CXT)(X:Cx)(E:XK):Prop:=∀(Ec:List (Addr×Obj)) (σ:St) (H:Hp) (s:Shared) (e:Value) (s':Shared),Inv X Ec σ H s->CX X.stack H s E e s'->X.xe e s'
section
variable {X:Cx}{CX:CXT}{k:Nat}{f C:Addr}{fd:FuncData}{ps:List Str}{sp:Sp}{dvs:List V}{ds:List Value}{E:XK}{x m:Str}{p pos apos:Pos}{e o:Expr}{es:List Expr}{ta:TE}{t:TA}
theorem wJ3{Ec:List (Addr×Obj)}{σ:St}{H:Hp}{s:Shared}{Q:VK}{us:List Value}{vs:List V}(F:FnOk X.prog X.w X.K X.mg X.base CX k f fd ps sp)(hr:Room k X.A)(hb:Binds X.K fd ps ds)(hd:Vals dvs ds)(hx:Passes CX X E)
  (I:Inv X Ec σ H s) (r:Vals vs us) (h:sp (vs++dvs) H Q E):wpAny (model X.prog X.w) X.A (call (.ref f) us) (EP X Ec σ Q) X.xe s:=by
 have r2:Vals (vs++dvs) (us++ds):=r.append hd
 have hl:(us++ds).length=ps.length:=by rw[<-r2.length];exact F.len _ _ _ _ h
 refine wpAny_call (codeAny_mono (F.run X.A X.stack s H ⟨us,[]⟩ (us++ds) (vs++dvs) Q E hr I.env0 (hb s us I.kIn hl) r2 h) fun r s' hq => ?_)
 cases r with
 | error e=>exact hx Ec σ H s e s' I hq
 | ok fl =>
  cases fl with
  | ret u=>exact I.after hq
  | next=>exact False.elim hq
  | brk=>exact False.elim hq
  | cont=>exact False.elim hq
theorem yB8(F:FnOk X.prog X.w X.K X.mg X.base CX k f fd ps sp)(hr:Room k X.A)(hg:Gl X x)(hm:X.mg x=some (.ref f))(hk:PySem.W.keepIn X.K (.ref f)=true)(hb:Binds X.K fd ps ds)(hd:Vals dvs ds)(hx:Passes CX X E)
  (ha:PA X (e::es) t) (hdb:autoParam ((x == ("__debug__":Str))=false) Ea) (he:autoParam (starEach (e::es) X.env=(false,eval e X.env)::starEach es X.env) Eb) (hpl:autoParam ((backTo pos (starEach es X.env)).any (·.1)=false) Eb) :
  PE X (.Call (.Name x p) (e::es) [] pos) (tCall sp dvs E t):=by
 intro Ec s σ H Q I h
 refine wpAny_Call_Name_kw (zB2 I hg hm ?_ hdb)
 refine PySem.W.callWith_K (h₀:=X.base) I.ok.mod.kin hk (thn (ha pos Ec s σ H _ I h) fun us s1 ⟨vs,H1,I1,r,q⟩=>⟨I1.kIn,?_⟩) he hpl
 exact wJ3 F hr hb hd hx I1 r q
structure Mk(K:KFr)(C f:Addr):Prop where
 makes:PySem.W.makesIn K C=true
 init:PySem.W.findIn K (.ref C) "__init__" = some (some (.ref f))
 fn:PySem.W.isFn K (.ref f)=true
 kp:PySem.W.keepIn K (.ref C)=true
end
section
variable {X:Cx}{CX:CXT}{k:Nat}{f C:Addr}{fd:FuncData}{ps ks:List Str}{sp:Sp}{E:XK}{x m:Str}{p pos apos kpos:Pos}{e o:Expr}{es:List Expr}{kws:List Keyword}{te ta:TE}{t tk:TA}{nm:Option Str}
structure KBinds(K:KFr)(fd:FuncData)(ps ks:List Str)(g:List Value->List Value->List Value)(gV:List V->List V->List V):Prop where
 to:∀(s:Shared) (us ws:List Value),K.In s.heap->(g us ws).length=ps.length->BindsTo s fd ⟨us,ks.zip ws⟩ (ps.zip (g us ws))
 rel:∀{vs:List V}{us:List Value}{zs:List V}{ws:List Value},Vals vs us->Vals zs ws->Vals (gV vs zs) (g us ws)
variable {g:List Value->List Value->List Value}{gV:List V->List V->List V}
end
structure zH(N P:List Str)(sc:Scope):Prop where
 kind:sc.kind=.function
 co:sc.isCoroutine=false
 gen:sc.isGenerator=false
 nd:N.Nodup
 pre:N.take P.length=P
 par:∀x∈P,sc.names.lookup x=some .local \/ sc.names.lookup x=some .cell
 nofree:∀y∈sc.names,y.2 ≠ .free
theorem yV5{kindOf:Str->Option NameKind}{x:Str}:∀{binds:List (Str×Value)}{m:Str->Option Value},(∀v,(x,v)∉binds)->bindL kindOf binds m x=m x
 | [],_,_=>rfl
 | (n,v)::r,m,h=>by
  unfold bindL
  rw[yV5 fun w hw=>h w (Aj _ hw)]
  split
  ·have:x≠n:=by rintro rfl;exact h v Af
   simp[this]
  ·rfl
theorem yX1{kindOf:Str->Option NameKind}{x:Str}:∀{binds:List (Str×Value)}{m:Str->Option Value},(∀v,(x,v)∉binds)->bindC kindOf binds m x=m x
 | [],_,_=>rfl
 | (n,v)::r,m,h=>by
  unfold bindC
  rw[yX1 fun w hw=>h w (Aj _ hw)]
  split
  ·rfl
  ·have:x≠n:=by rintro rfl;exact h v Af
   simp[this]
theorem yW9{kindOf:Str->Option NameKind}{x:Str}{v:Value}:∀{P:List Str}{vs:List Value}{i:Nat}{m:Str->Option Value},P.Nodup->P[i]?=some x->vs[i]?=some v->kindOf x=some .local ->
  bindL kindOf (P.zip vs) m x=some v
 | [],_,_,_,_,h,_,_=>by simp at h
 | _::_,[],_,_,_,_,h,_=>by simp at h
 | p::P,w::vs,0,m,nd,h1,h2,hk=>by
  simp at h1 h2;subst h1;subst h2
  show bindL kindOf ((p,w)::P.zip vs) m p=_
  unfold bindL
  rw[yV5 fun v hv=>(AQ.mp nd).1 (List.of_mem_zip hv).1,Ac hk]
  simp
 | p::P,w::vs,i+1,m,nd,h1,h2,hk=>by
  show bindL kindOf ((p,w)::P.zip vs) m x=_
  unfold bindL
  exact yW9 (i:=i) (AQ.mp nd).2 (by simpa using h1) (by simpa using h2) hk
theorem yY9{kindOf:Str->Option NameKind}{x:Str}{v:Value}:∀{P:List Str}{vs:List Value}{i:Nat}{m:Str->Option Value},P.Nodup->P[i]?=some x->vs[i]?=some v->kindOf x≠some .local ->
  bindC kindOf (P.zip vs) m x=some v
 | [],_,_,_,_,h,_,_=>by simp at h
 | _::_,[],_,_,_,_,h,_=>by simp at h
 | p::P,w::vs,0,m,nd,h1,h2,hk=>by
  simp at h1 h2;subst h1;subst h2
  show bindC kindOf ((p,w)::P.zip vs) m p=_
  unfold bindC
  rw[yX1 fun v hv=>(AQ.mp nd).1 (List.of_mem_zip hv).1,Ah hk]
  simp
 | p::P,w::vs,i+1,m,nd,h1,h2,hk=>by
  show bindC kindOf ((p,w)::P.zip vs) m x=_
  unfold bindC
  exact yY9 (i:=i) (AQ.mp nd).2 (by simpa using h1) (by simpa using h2) hk
def start(N:List Str)(vs:List V):St:=vs.map some++List.replicate (N.length-vs.length) none
def cxOf(CX:CXT)(P:Program)(w:World)(K:KFr)(mg:Str->Option Value)(base:Heap)(N:List Str)(qual:Str)(scope:Scope)(f:Addr)(cd:Value)(A:Around)(outer:List Env)(s:Shared)(H:Hp)(E:XK):Cx where
 prog:=P
 w:=w
 K:=K
 mg:=mg
 base:=base
 A:=A.deeper (envOfC qual scope s.heap.objs.size f cd)
 N:=N
 s₀:=s
 H₀:=H
 env:=envOfC qual scope s.heap.objs.size f cd
 outer:=outer
 stack:=envOfC qual scope s.heap.objs.size f cd::outer
 ex:=[]
 calm:=true
 fn:=fun _=>true
 pn:=[]
 xe:=fun e s'=>wpAny (model P w) (A.deeper (envOfC qual scope s.heap.objs.size f cd)) (leaving (envOfC qual scope s.heap.objs.size f cd) e) (fun _ s''=>CX outer H s E e s'') (fun e' s''=>CX outer H s E e' s'') s'
theorem yK6{sc:Scope}{n:Nat}{x:Str}(h:sc.names.lookup x=some .cell):∃c,(cellsFrom n sc.names []).lookup x=some c:=by
 have q:=PySem.W.cellsFrom_some sc.names n [] (.inl h)
 exact Option.isSome_iff_exists.mp q
theorem xQ2{CX:CXT}{P:Program}{w:World}{K:KFr}{mg:Str->Option Value}{base:Heap}{N ps:List Str}{qual:Str}{scope:Scope}{f:Addr}{cd:Value}{A:Around}{outer:List Env}{s s1:Shared}{H:Hp}{E:XK}{us:List Value}{vs:List V}
  (S:zH N ps scope) (hd:A.handled=none) (e0:Env0 P w K mg base A outer s H) (hl:vs.length=ps.length) (r:Vals vs us)
  (x:InCallC s s.heap.objs.size (bindL (envOfC qual scope s.heap.objs.size f cd).kindOf (ps.zip us) fun _=>none) (cellsFrom (s.heap.objs.size+1) scope.names []) (bindC (envOfC qual scope s.heap.objs.size f cd).kindOf (ps.zip us) fun _=>none) s1) :
  Inv (cxOf CX P w K mg base N qual scope f cd A outer s H E) [] (start N vs) H s1:=by
 have hpl:ps.length<=N.length:=by have:=Bc List.length S.pre;rw[BN] at this;rfl'
 obtain⟨h1,tk,rfl,hk⟩:=x.done
 have noA:∀b:Addr,b∉(cxOf CX P w K mg base N qual scope f cd A outer s H E).ex:=fun b z=>absurd (show b∈([]:List Addr) from z) (by simp)
 refine⟨⟨e0.mod,S.kind,rfl,rfl,Ab _,fun y z c h1 h2 => ?_,fun y hy => ?_,fun y c _ h => ?_,fun _=>hd,Around.frames_deeper e0.frames,.inr ⟨rfl,rfl⟩,fun b z=>absurd z (noA b),e0.bs,e0.bsz,fun b _ _=>noA b,fun b z=>absurd z (noA b),e0.funs,e0.frf⟩,
  rfl,e0.bare,Un.kept hk,⟨_,x.toInCall.ns,fun i y v h1 h2 h3 => ?_⟩,fun y c h=>⟨_,x.cell y c h⟩,e0.hok.fresh (Ab _),fun y c h => ?_,fun p hp=>absurd (show p∈([]:List (Addr×Obj)) from hp) (by simp),e0.hok.kept hk,?_⟩
 ·exact name_of_addr x.apart (AY h1) (AY h2)
 ·have hy:scope.names.lookup y=some .cell\/scope.names.lookup y=some .free:=hy
  rcases hy with hy | hy
  ·exact yK6 hy
  ·exact absurd rfl (S.nofree _ (AY hy))
 ·exact BD (x.above y c (AY h))
 ·have hi:i<vs.length:=by
   unfold start at h2
   by_cases hi:i<vs.length
   ·exact hi
   ·rw[Bo (by simpa using hi)] at h2
    rw[Dm] at h2
    split at h2 <;> cases h2
  have ha:vs[i]?=some v:=by
   unfold start at h2
   rw[Bs (by simpa using hi),Al] at h2
   cases e:vs[i]? with
   | none=>rw[e] at h2;cases h2
   | some a=>rw[e] at h2;cases h2;rfl
  obtain⟨u,hu,rv⟩:=r.get ha
  have hp:ps[i]?=some y:=by
   rw[<-S.pre,List.getElem?_take_of_lt (by rfl')];exact h1
  have ndP:ps.Nodup:=by rw[<-S.pre];exact S.nd.sublist (List.take_sublist _ _)
  refine⟨u,rv,?_⟩
  rcases S.par y (Bq hp) with k | k
  ·exact .inl ⟨k,yW9 ndP hp hu k⟩
  ·obtain⟨c,e⟩:=yK6 (n:=s.heap.objs.size+1) k
   refine .inr ⟨.inl k,c,e,?_⟩
   have q:=x.cell y c e
   rw[yY9 ndP hp hu (by show scope.names.lookup y≠_;rw[k];decide)] at q
   exact q
 ·exact e0.hok.fresh (BD (x.above y c (AY h)))
 ·unfold start
  show _=N.length
  rw[An,Aa,BL]
  rfl'
theorem xW3{CX:CXT}{P:Program}{w:World}{K:KFr}{mg:Str->Option Value}{base:Heap}{k:Nat}{f:Addr}{name qual:Str}{params:Arguments}{body:List Stmt}{scope:Scope}{dV kV doc pm cdv ct oc:Value}{an od:Option Addr}
  {osl:Array (Option Value)}{N ps:List Str}{sp:Sp}(lk:K.lookup f=some ⟨oc,od,.func (PySem.W.fnOf name qual params body scope dV kV doc pm an cdv ct),osl⟩) (hcd:PySem.W.codeIn K cdv qual=true) (S:zH N ps scope)
  (len:∀vs H Q E,sp vs H Q E->vs.length=ps.length)
  (hbody:∀(A:Around) (outer:List Env) (s:Shared) (H:Hp) (vs:List V) (Q:VK) (E:XK),Room k (A.deeper (envOfC qual scope s.heap.objs.size f cdv))->sp vs H Q E ->
   ∃t,PSs (cxOf CX P w K mg base N qual scope f cdv A outer s H E) body t/\t { nx:=fun _ H'=>Q .non H',rt:=Q } (start N vs) H) :
  FnOk P w K mg base CX (k+1) f (PySem.W.fnOf name qual params body scope dV kV doc pm an cdv ct) ps sp:=by
 refine⟨len,fun A outer s H args us vs Q E hr e0 hb r hsp => ?_⟩
 have hl:=len _ _ _ _ hsp
 have KX:K.In s.heap:=e0.mod.kin.keeps fun b o e=>(e0.bs b o e).1
 have lim:s.heap.NoLimit:=e0.mod.nolimit.keeps fun b o e=>(e0.bs b o e).1
 have hkind:∀y∈ps.zip us,scope.names.lookup y.1=some .local \/ (scope.names.lookup y.1=some .cell/\((cellsFrom (s.heap.objs.size+1) scope.names []).lookup y.1).isSome=true):=fun ⟨n,v⟩ hy=>by
  rcases S.par n (List.of_mem_zip hy).1 with q | q
  ·exact .inl q
  ·exact .inr ⟨q,PySem.W.cellsFrom_some _ _ _ (.inl q)⟩
 refine codeAny_call_function hr.depth (KX _ _ lk) rfl S.co S.gen rfl (PySem.W.codeRec_of KX hcd) (hb _ _ _ _ ?_)
 refine wpAny_newFunctionEnv_cells S.kind hkind fun env he s1 x => ?_
 subst he
 refine⟨lim.keeps x.toInCall.keep,codeAny_func ?_⟩
 obtain⟨t,ht,hq⟩:=hbody A outer s H vs Q E (hr.deeper _) hsp
 have I:Inv (cxOf CX P w K mg base N qual scope f cdv A outer s H E) [] (start N vs) H s1:=xQ2 S hr.hd e0 hl r x
 refine wpAny_mono (ht [] s1 (start N vs) H _ I hq) (fun fl s' hs => ?_) fun e s' hs=>hs
 have fin:∀{σ':St}{H':Hp}{v:V}{u:Value},Inv (cxOf CX P w K mg base N qual scope f cdv A outer s H E) [] σ' H' s'->RelV v u->Q v H'->CE outer P w H s Q u s' :=
  fun {σ' H' v u} J rv q=>⟨v,H',J.os,J.bare,J.base,J.hok,rv,q⟩
 cases fl with
 | ret u =>
  obtain⟨v,σ',H',J,rv,q⟩:=hs
  exact fin J rv q
 | next =>
  obtain⟨σ',H',J,q⟩:=hs
  exact fin (v:=V.non) (u:=Value.none) J rfl q
 | brk =>
  obtain⟨_,_,_,q⟩:=hs
  exact False.elim q
 | cont =>
  obtain⟨_,_,_,q⟩:=hs
  exact False.elim q
section
variable {X:Cx}{x:Str}{p pos:Pos}{e:Expr}{es:List Expr}{t:TA}{id T:String}{r:List V->Hp->VK->Prop}
def tCB(r:List V->Hp->VK->Prop)(t:TA):TE:=fun σ H Q=>t σ H fun vs H1=>r vs H1 Q
theorem zX1(hc:CallR X (.builtin id) r)(hg:Gl X x)(hm:X.mg x=none)(hv:bootBuiltins x=some (.builtin id))(ha:PA X (e::es) t)(hn:autoParam (x ≠ "__name__") Ea)(hdb:autoParam ((x == ("__debug__":Str))=false) Ea)
  (he:autoParam (starEach (e::es) X.env=(false,eval e X.env)::starEach es X.env) Eb) (hpl:autoParam ((backTo pos (starEach es X.env)).any (·.1)=false) Eb):PE X (.Call (.Name x p) (e::es) [] pos) (tCB r t):=by
 intro Ec s σ H Q I h
 refine wpAny_Call_Name_kw (aU I hg hm hv ?_ hn hdb)
 exact PyProof.Rows.callWith_builtin1 (thn (ha pos Ec s σ H _ I h) fun us s1 ⟨vs,H1,I1,r1,q1⟩=>hc Ec s1 σ H1 vs us Q I1 r1 q1) he hpl
theorem fT(hc:CallR X (.type T) r)(hg:Gl X x)(hm:X.mg x=none)(hv:bootBuiltins x=some (.type T))(ha:PA X (e::es) t)(hn:autoParam (x ≠ "__name__") Ea)(hdb:autoParam ((x == ("__debug__":Str))=false) Ea)
  (he:autoParam (starEach (e::es) X.env=(false,eval e X.env)::starEach es X.env) Eb) (hpl:autoParam ((backTo pos (starEach es X.env)).any (·.1)=false) Eb):PE X (.Call (.Name x p) (e::es) [] pos) (tCB r t):=by
 intro Ec s σ H Q I h
 refine wpAny_Call_Name_kw (aU I hg hm hv ?_ hn hdb)
 exact BR (thn (ha pos Ec s σ H _ I h) fun us s1 ⟨vs,H1,I1,r1,q1⟩=>hc Ec s1 σ H1 vs us Q I1 r1 q1) he hpl
end
end L2
namespace HT
open PySem PyProof.Rows
section
open PySem.SeqAt
open PySem.AutoSeq1 (wpAny_loadPart')
open PySem.MeetsSeq PySem.MeetsSeq2 PySem.MeetsSeq3
end
section
variable {prog:Program}{w:World}{A:Around}{E:Value->Shared->Prop}{s:Shared}
theorem wS8{t b:Addr}{vs ws:List Value}{Q:Value->Shared->Prop}(ht:IsTup s.heap t vs.toArray)(hb:IsTup s.heap b ws.toArray)(hv:vs ≠ [])
  (h1:ws=[]->Q (.ref t) s) (h2:ws ≠ []->Q (.ref s.heap.objs.size) { s with heap:=s.heap.push { cls:=.type "tuple",data:=.seq (vs++ws).toArray } })
  (hsz:vs.length+ws.length<=sizeLine):wpAny (model prog w) A (binaryOp .Add (.ref t) (.ref b)) Q E s:=by
 obtain⟨⟨cls,dd,data,sl⟩,ho,hc,n,hd⟩:=id ht
 obtain⟨⟨cls2,dd2,data2,sl2⟩,ho2,hc2,n2,hd2⟩:=id hb
 simp only at hc hd hc2 hd2
 subst hc hd hc2 hd2
 have e:vs.toArray++ws.toArray=(vs++ws).toArray:=by simp
 by_cases hw:ws=[]
 ·exact concat_meets ⟨_,ho,rfl⟩ ⟨_,ho2,rfl⟩ noFill_tuple_add seq_tuple_add Dt Dn (Dg _ _)
   (tuple_addW1 t b vs.toArray ws.toArray n n2 dd dd2 sl sl2 (by simpa using hv) (by simp[hw])) ⟨ho,ho2,h1 hw⟩
 ·refine concat_meets ⟨_,ho,rfl⟩ ⟨_,ho2,rfl⟩ noFill_tuple_add seq_tuple_add Dt Dn (Dg _ _)
   (tuple_addW2 t b vs.toArray ws.toArray n n2 dd dd2 sl sl2 (by simpa using hv) (by simpa using hw) (by rw[Ao,Ao];exact hsz)) ⟨ho,ho2,?_⟩
  rw[e]
  exact h2 hw
def sIx(n d:Nat):Option Int->Nat
 | none=>d
 | some v=>if v<0 then (v+(n:Int)).toNat else min v.toNat n
theorem xH1(n d:Nat):sIx n d none=d:=rfl
theorem zC3(n d k:Nat):sIx n d (some (k:Int))=min k n:=by
 show (if (k:Int)<0 then ((k:Int)+(n:Int)).toNat else min (k:Int).toNat n)=min k n
 rw[Ah (by rfl'),AW]
theorem wK7(n d:Nat)(hd:d<=n)(o:Option Int):sIx n d o<=n:=by
 cases o with
 | none=>exact hd
 | some v =>
  show (if v<0 then (v+(n:Int)).toNat else min v.toNat n)<=n
  by_cases hv:v<0
  ·rw[Ac hv];rfl'
  ·rw[Ah hv];exact Nat.min_le_right _ _
theorem yE8(v:Int)(n d:Nat):(if v<0 then max (v+(n:Int)) 0 else min v (n:Int))=((sIx n d (some v):Nat):Int):=by
 show (if v<0 then max (v+(n:Int)) 0 else min v (n:Int))=(((if v<0 then (v+(n:Int)).toNat else min v.toNat n):Nat):Int)
 by_cases hv:v<0
 ·simp only[Ac hv];rfl'
 ·simp only[Ah hv];rfl'
theorem xW8(lo hi:Option Int)(n:Nat):Builtin.Slice.sliceAdjust lo hi 1 (n:Int)=(((sIx n 0 lo:Nat):Int),((sIx n n hi:Nat):Int)):=by
 have h1:¬((1:Int)<0):=by rfl'
 unfold Builtin.Slice.sliceAdjust
 simp only[h1,if_false]
 refine Prod.ext ?_ ?_
 ·cases lo with
  | none=>rfl
  | some v=>exact yE8 v n 0
 ·cases hi with
  | none=>rfl
  | some v=>exact yE8 v n n
theorem xV1(i j:Nat):Builtin.Slice.slicePlaces (i:Int) (j:Int) 1=j-i:=by
 unfold Builtin.Slice.slicePlaces
 have h1:(1:Int) > 0:=by rfl'
 simp only[h1,if_true,Int.ediv_one]
 split <;> rfl'
theorem zE3{v:Value}{o:Option Int}{Q:Option Int->Shared->Prop}(p:IsPart v o)(h:Q o s):wpAny (model prog w) A (Builtin.Slice.slicePartIndex v) Q E s:=by
 cases p with
 | none=>exact slicePart_none h
 | int i t=>exact slicePart_int h
theorem cM{sl:Addr}{vl vu:Value}{lo hi:Option Int}{n:Nat}{Q:Int×Int×Nat->Shared->Prop}(hs:s.heap.IsSliceOf sl vl vu .none)(pl:IsPart vl lo)(pu:IsPart vu hi)
  (h:Q (((sIx n 0 lo:Nat):Int),1,sIx n n hi-sIx n 0 lo) s):wpAny (model prog w) A (Builtin.Slice.sliceApplied (.ref sl) (pure (n:Int))) Q E s:=by
 obtain⟨os,hos,hcs,hds⟩:=id hs
 unfold Builtin.Slice.sliceApplied Builtin.Slice.sliceFields
 refine Am (Am (wpAny_field hos hds (x:=vl) rfl (Am (wpAny_field hos hds (x:=vu) rfl (Am (wpAny_field hos hds (x:=.none) rfl (AF ?_)))))))
 refine Am (slicePart_none ?_)
 show wpAny _ _ (if ((1:Int) == 0)=true then _ else _) _ _ s
 rw[Ah (by decide)]
 refine Am (zE3 pl (Am (zE3 pu (Am (AF ?_)))))
 show wpAny _ _ (match Builtin.Slice.sliceAdjust lo hi 1 (n:Int) with | (lo,hi)=>pure (lo,(1:Int),Builtin.Slice.slicePlaces lo hi 1)) _ _ s
 rw[xW8 lo hi n]
 show wpAny _ _ (pure (((sIx n 0 lo:Nat):Int),(1:Int),Builtin.Slice.slicePlaces ((sIx n 0 lo:Nat):Int) ((sIx n n hi:Nat):Int) 1)) _ _ s
 rw[xV1]
 exact AF h
theorem xF1(xs:Array Value)(i k:Nat):((List.range k).filterMap fun (m:Nat)=>xs[((i:Int)+(m:Int)*1).toNat]?).toArray=((xs.toList.drop i).take k).toArray:=by
 have e:(fun (m:Nat)=>xs[((i:Int)+(m:Int)*1).toNat]?)=fun m=>xs[i+m]?:=by
  funext m
  have:((i:Int)+(m:Int)*1).toNat=i+m:=by rfl'
  rw[this]
 rw[e]
 have:=pick_run xs i k
 rw[List.filterMap_map] at this
 have e2:((fun x=>xs[x]?)∘fun x=>i+x)=fun m=>xs[i+m]?:=rfl
 rw[e2] at this
 rw[this]
theorem zP6{t sl:Addr}{items:Array Value}{vl vu:Value}{lo hi:Option Int}{Q:Value->Shared->Prop}(ht:IsTup s.heap t items)(hs:s.heap.IsSliceOf sl vl vu .none)(pl:IsPart vl lo)(pu:IsPart vu hi)
  (hw:¬(sIx items.size 0 lo=0/\sIx items.size items.size hi=items.size))
  (h:Q (.ref s.heap.objs.size) { s with heap:=s.heap.push { cls:=.type "tuple",data:=.seq ((items.toList.drop (sIx items.size 0 lo)).take (sIx items.size items.size hi-sIx items.size 0 lo)).toArray } })
  (hsz:items.size<=sizeLine):wpAny (model prog w) A (getItem (.ref t) (.ref sl)) Q E s:=by
 have htake:sizeOk (.seq ((items.toList.drop (sIx items.size 0 lo)).take (sIx items.size items.size hi-sIx items.size 0 lo)).toArray):=by
  show ((items.toList.drop (sIx items.size 0 lo)).take (sIx items.size items.size hi-sIx items.size 0 lo)).toArray.size<=sizeLine
  rw[Ao,BN,BF,BJ]
  rfl'
 have hj:sIx items.size items.size hi<=items.size:=wK7 _ _ (Ab _) hi
 obtain⟨os,hos,hcs,hds⟩:=id hs
 have hTs:s.TypeIs (.ref sl) "slice":=⟨os,hos,hcs⟩
 unfold getItem
 try with_reducible refine wpAny_holding ?_
 first | refine Am (AF ?_) | skip
 refine Am (wpAny_sequenceKey ht.typeIs (by decide) ?_)
 refine Am (wpAny_callSpecial?_slot (name:=Str.ofString "__getitem__") ht.typeIs BV
  (wpAny_call_entry BV ht.typeIs entry_tuple_getitem ?_ (args_tuple_getitem _ _)))
 show wpAny _ _ (Builtin.Tuple.tupleItemsOf (.ref t) >>= _) _ _ s
 refine Am (tupleItemsOf_ ht ?_)
 refine Am (wpAny_typeOf hTs ?_)
 rw[Ac (by decide)]
 refine Am (cM hs pl pu ?_)
 have hno:¬((((sIx items.size 0 lo:Nat):Int) == 0&&(1:Int) == 1&&(sIx items.size items.size hi-sIx items.size 0 lo) == items.size)=true):=by
  intro q
  rw[AV,AV] at q
  have q1:((sIx items.size 0 lo:Nat):Int)=0:=eq_of_beq q.1.1
  have q2:sIx items.size items.size hi-sIx items.size 0 lo=items.size:=eq_of_beq q.2
  exact hw ⟨by rfl',by rfl'⟩
 show wpAny _ _ (if (((sIx items.size 0 lo:Nat):Int) == 0&&(1:Int) == 1&&(sIx items.size items.size hi-sIx items.size 0 lo) == items.size)=true then _ else _) _ _ s
 rw[Ah hno,xF1]
 first
  | exact Am (m:=Builtin.Tuple.tupleExact _) (wpAny_newObj_type (AF ⟨_,rfl,AF h⟩) htake)
  | exact Am (m:=Builtin.Tuple.tupleExact _) (wpAny_newObj_type (Am (AF (AF ⟨_,rfl,AF h⟩))) htake)
  | exact Am (Am (m:=Builtin.Tuple.tupleExact _) (wpAny_newObj_type (AF (AF ⟨_,rfl,AF h⟩)) htake))
  | exact Am (Am (m:=Builtin.Tuple.tupleExact _) (wpAny_newObj_type (AF ⟨_,rfl,AF h⟩) htake))
end
end HT
namespace L2
open PySem PySem.Spec PyProof.Rows
abbrev TO:=St->Hp->(Option Int->Hp->Prop)->Prop
def PO(X:Cx)(e:Option Expr)(t:TO):Prop :=
 ∀(Ec:List (Addr×Obj)) (s:Shared) (σ:St) (H:Hp) (Q:Option Int->Hp->Prop),Inv X Ec σ H s->t σ H Q ->
  wpAny (model X.prog X.w) X.A (evalPart e X.env) (fun u s'=>∃o H',Inv X Ec σ H' s'/\IsPart u o/\Q o H') X.xe s
def tNoPart:TO:=fun _ H Q=>Q none H
def tPart(t:TE):TO:=fun σ H Q=>t σ H fun x H1=>∃i,x=.int i/\Q (some i) H1
theorem fF{ns:List Int}:∀{us:List Value},Vals (ns.map V.int) us->IntsAre us ns:=by
 induction ns with
 | nil=>intro us r;rw[Cj] at r;cases r;exact .nil
 | cons n ns ih =>
  intro us r
  rw[AI] at r
  cases r with
  | cons r1 r2 =>
   obtain⟨t,e⟩:=r1
   subst e
   exact .cons n t (ih r2)
section
variable {X:Cx}{e:Expr}{te:TE}{lo hi:Option Expr}{tl th:TO}{pos p2:Pos}
theorem wV1:PO X none tNoPart:=by
 intro Ec s σ H Q I h
 rw[evalPart_none]
 exact AF ⟨none,H,I,.none,h⟩
theorem zC1(h:PE X e te):PO X (some e) (tPart te):=by
 intro Ec s σ H Q I hw
 rw[evalPart_some]
 refine thn (h Ec s σ H _ I hw) fun u s1 ⟨x,H1,I1,r1,q1⟩ => ?_
 obtain⟨i,rfl,q⟩:=q1
 obtain⟨t,rfl⟩:=r1
 exact⟨some i,H1,I1,.int i t,q⟩
def SlR(X:Cx)(r:V->Option Int->Option Int->Hp->VK->Prop):Prop :=
 ∀(Ec:List (Addr×Obj)) (s:Shared) (σ:St) (H:Hp) (x:V) (v vl vu:Value) (lo hi:Option Int) (sl:Addr) (Q:VK),Inv X Ec σ H s->RelV x v->s.heap.IsSliceOf sl vl vu .none->IsPart vl lo->IsPart vu hi->r x lo hi H Q ->
  ∃T id,typeLookup (.type T) "__getitem__" = pure (some (.builtin id))/\s.TypeIs v T/\wpAny (model X.prog X.w) X.A (getItem v (.ref sl)) (EP X Ec σ Q) X.xe s
theorem SlR.or{r r':V->Option Int->Option Int->Hp->VK->Prop}(h:SlR X r)(h':SlR X r'):SlR X (fun x lo hi H Q=>r x lo hi H Q\/r' x lo hi H Q):=by
 intro Ec s σ H x v vl vu lo hi sl Q I rx hs pl pu q
 rcases q with q | q
 ·exact h Ec s σ H x v vl vu lo hi sl Q I rx hs pl pu q
 ·exact h' Ec s σ H x v vl vu lo hi sl Q I rx hs pl pu q
def tSl(r:V->Option Int->Option Int->Hp->VK->Prop)(te:TE)(tl th:TO):TE:=fun σ H Q=>te σ H fun x H1=>tl σ H1 fun l H2=>th σ H2 fun u H3=>r x l u H3 Q
theorem yJ3{r:V->Option Int->Option Int->Hp->VK->Prop}(hr:SlR X r)(he:PE X e te)(hl:PO X lo tl)(hu:PO X hi th):PE X (.Subscript e (.Slice lo hi none p2) pos) (tSl r te tl th):=by
 intro Ec s σ H Q I h
 refine Subscript_ (thn (he Ec s σ H _ I h) fun v s1 ⟨x,H1,I1,r1,q1⟩ => ?_)
 refine wpAny_Slice (thn (hl Ec s1 σ H1 _ I1 q1) fun vl s2 ⟨l,H2,I2,pl,q2⟩=>thn (hu Ec s2 σ H2 _ I2 q2) fun vu s3 ⟨u,H3,I3,pu,q3⟩ => ?_)
 rw[evalPart_none]
 refine AF ?_
 have I4:Inv X Ec σ H3 { s3 with heap:=s3.heap.push { cls:=.type "slice",data:=.fields #[vl,vu,.none] } }:=I3.kept (t':=s3.toks) fun b ob q=>Ai _ q
 obtain⟨T,id,hT,ht,hg⟩:=hr Ec { s3 with heap:=s3.heap.push { cls:=.type "slice",data:=.fields #[vl,vu,.none] } } σ H3 x v vl vu l u s3.heap.objs.size Q I4 r1 (Heap.IsSliceOf.new ..) pl pu q3
 show wpAny (model X.prog X.w) X.A (subscriptTail e (.Slice lo hi none p2) v (.ref s3.heap.objs.size)) (EP X Ec σ Q) X.xe { s3 with heap:=s3.heap.push { cls:=.type "slice",data:=.fields #[vl,vu,.none] } }
 exact tail_any (ops:=[.ref s3.heap.objs.size,v]) ht hT hg (by with_unfolding_all rfl)
def cutV(xs:List V)(lo hi:Option Int):List V:=(xs.drop (HT.sIx xs.length 0 lo)).take (HT.sIx xs.length xs.length hi-HT.sIx xs.length 0 lo)
theorem zO7(xs:List V)(lo hi:Option Int):(cutV xs lo hi).length<=xs.length:=by
 unfold cutV
 rw[BN,BF]
 rfl'
def rSlT(K:KFr):V->Option Int->Option Int->Hp->VK->Prop:=fun x lo hi H Q=>∃a xs,x=.ref a/\SqT K H a xs /\
 ¬(HT.sIx xs.length 0 lo=0/\HT.sIx xs.length xs.length hi=xs.length)/\∀p,H p=none->Q (.ref p) (upd H p (.tup (cutV xs lo hi)))
theorem xO8:SlR X (rSlT X.K):=by
 intro Ec s σ H x v vl vu lo hi sl Q I rx hs pl pu h
 obtain⟨a,xs,rfl,hx,hw,q⟩:=h
 cases rx
 obtain⟨its,r,ht,hz⟩:=I.tuple hx
 have hlen:its.toArray.size=xs.length:=by rw[Ao];exact r.length.symm
 refine⟨"tuple",_,BV.lookup,ht.typeIs,?_⟩
 refine HT.zP6 ht hs pl pu (by rw[hlen];exact hw) ?_ (by rw[hlen];exact hz)
 rw[hlen]
 refine⟨.ref s.heap.objs.size,_,I.laid (t':=s.toks) (o:=.tup (cutV xs lo hi)) (fun b ob q=>Ai _ q) (Ab _) ?_,rfl,q _ (I.hok.fresh (Ab _))⟩
 exact⟨AH (zO7 xs lo hi) hz,_,(r.drop (HT.sIx xs.length 0 lo)).take (HT.sIx xs.length xs.length hi-HT.sIx xs.length 0 lo),TupAt.new _ _⟩
def rCatT(K:KFr):R2:=fun x y H Q=>∃a b xs ys,x=.ref a/\y=.ref b/\SqT K H a xs/\SqT K H b ys/\xs ≠ []/\xs.length+ys.length<=sizeLine /\
 (ys=[]->Q (.ref a) H)/\(ys ≠ []->∀p,H p=none->Q (.ref p) (upd H p (.tup (xs++ys))))
theorem Vals.zB7{xs:List V}{us:List Value}(r:Vals xs us):us=[]↔xs=[]:=by
 cases r with
 | nil=>simp
 | cons _ _=>simp
theorem wX4:OpR X (binaryOp .Add) (rCatT X.K):=by
 intro Ec s σ H x y v u Q I rx ry h
 obtain⟨a,b,xs,ys,rfl,rfl,ha,hb,hx,hz,q1,q2⟩:=h
 cases rx
 cases ry
 obtain⟨its,r1,p1,_⟩:=I.tuple ha
 obtain⟨its2,r2,p2,_⟩:=I.tuple hb
 refine HT.wS8 p1 p2 (fun z=>hx (r1.zB7.mp z)) (fun z=>⟨.ref a,H,I,rfl,q1 (r2.zB7.mp z)⟩) (fun z => ?_) (by rw[<-r1.length,<-r2.length];exact hz)
 refine⟨.ref s.heap.objs.size,_,I.laid (t':=s.toks) (o:=.tup (xs++ys)) (fun b ob q=>Ai _ q) (Ab _) ?_,rfl,q2 (fun w=>z (r2.zB7.mpr w)) _ (I.hok.fresh (Ab _))⟩
 exact⟨by rw[An];exact hz,_,r1.append r2,TupAt.new _ _⟩
end
def ixN(n:Nat)(i:Int):Option Nat:=if 0<=i then (if i<n then some i.toNat else none) else if -(n:Int)<=i then some (i+n).toNat else none
def atI{α:Type}(xs:List α)(i:Int):Option α:=(ixN xs.length i).bind fun j=>xs[j]?
theorem yA8{n:Nat}{i:Int}{j:Nat}(h:ixN n i=some j):seqIndex? i n=some j/\j<n/\-(n:Int)<=i/\i<n:=by
 unfold ixN at h
 by_cases h0:0<=i
 ·rw[Ac h0] at h
  by_cases h1:i<n
  ·rw[Ac h1] at h
   have e:i.toNat=j:=AJ h
   exact⟨by rw[seqIndex_of h0 h1,e],by rfl',by rfl',h1⟩
  ·rw[Ah h1] at h;cases h
 ·rw[Ah h0] at h
  by_cases h1:-(n:Int)<=i
  ·rw[Ac h1] at h
   have e:(i+n).toNat=j:=AJ h
   exact⟨by rw[seqIndex_neg (by rfl') h1,e],by rfl',h1,by rfl'⟩
  ·rw[Ah h1] at h;cases h
theorem zP3{α:Type}{xs:List α}{i:Int}{v:α}(h:atI xs i=some v):∃j,seqIndex? i xs.length=some j/\xs[j]?=some v/\j<xs.length/\-(xs.length:Int)<=i/\i<xs.length:=by
 unfold atI at h
 cases e:ixN xs.length i with
 | none=>rw[e] at h;cases h
 | some j =>
  rw[e] at h
  obtain⟨h1,h2,h3,h4⟩:=yA8 e
  exact⟨j,h1,h,h2,h3,h4⟩
theorem qM{α:Type}{xs:List α}{j:Nat}{v:α}(h:xs[j]?=some v):atI xs (j:Int)=some v:=by
 have hj:j<xs.length:=(Au.mp h).1
 have e:ixN xs.length (j:Int)=some j:=by
  unfold ixN
  rw[Ac (by rfl'),Ac (by rfl')];simp
 unfold atI;rw[e];exact h
theorem xG1{α:Type}(xs:List α)(v:α):atI (xs ++ [v]) (-1)=some v:=by
 have hl:(xs ++ [v]).length=xs.length+1:=by simp
 have e:ixN (xs ++ [v]).length (-1)=some xs.length:=by
  unfold ixN
  rw[hl,Ah (by decide),Ac (by rfl')]
  congr 1
  rfl'
 unfold atI
 rw[e]
 show (xs ++ [v])[xs.length]?=some v
 simp
def PlainIx(b:Expr):Prop:=∀o i,subscripted b false o i=operate [o,i] (getItem o i)
def IxR(X:Cx)(r:R2):Prop :=
 ∀(value slice:Expr) (Ec:List (Addr×Obj)) (s:Shared) (σ:St) (H:Hp) (x y:V) (v u:Value) (Q:VK),Inv X Ec σ H s->RelV x v->RelV y u->r x y H Q ->
  subscripted slice false v u=operate [v,u] (getItem v u)->wpAny (model X.prog X.w) X.A (subscriptTail value slice v u) (EP X Ec σ Q) X.xe s
def MtR(X:Cx)(id:String)(r:V->List V->Hp->VK->Prop):Prop :=
 ∀(Ec:List (Addr×Obj)) (s:Shared) (σ:St) (H:Hp) (x:V) (xs:List V) (v:Value) (us:List Value) (Q:VK),Inv X Ec σ H s->RelV x v->Vals xs us->r x xs H Q ->
  wpAny (model X.prog X.w) X.A (call (.builtin id) (v::us)) (EP X Ec σ Q) X.xe s
section
variable {X:Cx}{a b:Expr}{ta tb:TE}{pos:Pos}
theorem IxR.or{r r':R2}(h:IxR X r)(h':IxR X r'):IxR X (fun x y H Q=>r x y H Q\/r' x y H Q):=by
 intro value slice Ec s σ H x y v u Q I rx ry q hs
 rcases q with q | q
 ·exact h value slice Ec s σ H x y v u Q I rx ry q hs
 ·exact h' value slice Ec s σ H x y v u Q I rx ry q hs
theorem jQ{r:R2}(hr:IxR X r)(ha:PE X a ta)(hb:PE X b tb)(hs:PlainIx b):PE X (.Subscript a b pos) (tOp r ta tb):=by
 intro Ec s σ H Q I h
 exact Subscript_ (binT ha hb I h fun v u s2 x y H2 I2 rx ry q=>hr a b Ec s2 σ H2 x y v u Q I2 rx ry q (hs _ _))
def rIxL(K:KFr):R2:=fun x y H Q=>∃p xs i v,x=.ref p/\y=.int i/\SqL K H p xs/\atI xs i=some v/\Q v H
def rIxT(K:KFr):R2:=fun x y H Q=>∃p xs i v,x=.ref p/\y=.int i/\SqT K H p xs/\atI xs i=some v/\Q v H
def rIxS:R2:=fun x y H Q=>∃z i c,x=.str z/\y=.int i/\z.length<=sizeLine/\atI z.cps.toList i=some c/\Q (.str ⟨#[c]⟩) H
theorem hU:IxR X (rIxL X.K):=by
 intro value slice Ec s σ H x y v u Q I rx ry h hs
 obtain⟨p,xs,i,z,rfl,rfl,hq,he,q⟩:=h
 cases rx
 obtain⟨t,rfl⟩:=ry
 obtain⟨its,r,pl,hz⟩:=I.list hq
 obtain⟨j,h1,h2,h3,h4,h5⟩:=zP3 he
 obtain⟨w,ew,rw'⟩:=r.get h2
 have hl:=r.length
 have hn:=line63
 have fin:EP X Ec σ Q w s:=⟨z,H,I,rw',q⟩
 by_cases h0:0<=i
 ·have hj:i.toNat=j:=by
   rw[seqIndex_of h0 h5] at h1
   exact AJ h1
  exact item_listR pl.isList h0 (by rfl') (by rw[hj];simpa using ew) fin hs
 ·have hj:(i+(its.toArray.size:Int)).toNat=j:=by
   rw[seqIndex_neg (by rfl') h4] at h1
   rw[Ao,<-hl]
   exact AJ h1
  exact subscriptTail_builtinR (x:=w) pl.isList.typeIs slot_list_getitem.lookup
   (wpAny_getItem_list_neg (Q:=fun r s'=>r=w/\EP X Ec σ Q r s') pl.isList (by rfl') (by rw[Ao] <;> rfl') (by rfl') (by rw[hj];simpa using ew) ⟨rfl,fin⟩) hs
theorem bA:IxR X (rIxT X.K):=by
 intro value slice Ec s σ H x y v u Q I rx ry h hs
 obtain⟨p,xs,i,z,rfl,rfl,hq,he,q⟩:=h
 cases rx
 obtain⟨t,rfl⟩:=ry
 obtain⟨its,r,pl,hz⟩:=I.tuple hq
 obtain⟨j,h1,h2,h3,h4,h5⟩:=zP3 he
 obtain⟨w,ew,rw'⟩:=r.get h2
 have hl:=r.length
 have hn:=line63
 have fin:EP X Ec σ Q w s:=⟨z,H,I,rw',q⟩
 exact subscriptTail_builtinR (x:=w) pl.typeIs slot_tuple_getitem.lookup
  (getItem_tuple (j:=j) (Q:=fun r s'=>r=w/\EP X Ec σ Q r s') pl (by rfl') (by rfl') (by rw[Ao,<-hl];exact h1) (by simpa using ew) ⟨rfl,fin⟩) hs
theorem wG5:IxR X rIxS:=by
 intro value slice Ec s σ H x y v u Q I rx ry h hs
 obtain⟨z,i,c,rfl,rfl,hz,he,q⟩:=h
 obtain⟨t,rfl⟩:=rx
 obtain⟨t',rfl⟩:=ry
 obtain⟨j,h1,h2,h3,h4,h5⟩:=zP3 he
 have hl:z.cps.toList.length=z.length:=by simp[Str.length]
 rw[hl] at h1 h4 h5
 have hn:=line63
 exact tail_any (typeIs_str s z t) slot_str_getitem.lookup (getItem_str (c:=c) (by
  have e1:decide (i < -(2 ^ 63:Int))=false:=Ad (by rfl')
  have e2:decide (i ≥ 2 ^ 63)=false:=Ad (by rfl')
  rw[e1,e2,Bool.or_false]) (by rw[h1];simpa using h2) ⟨.str ⟨#[c]⟩,H,I.tok _,⟨_,rfl⟩,q⟩) hs
def rIx(K:KFr):R2:=fun x y H Q=>rIxL K x y H Q\/rIxT K x y H Q\/rIxS x y H Q
theorem yY:IxR X (rIx X.K):=hU.or (bA.or wG5)
theorem xW5(its:List Value)(n j:Nat)(u:Value):Obj.mapSeq (·.setIfInBounds j u) { cls:=.type "list",data:=.seq its.toArray n }={ cls:=.type "list",data:=.seq (its.set j u).toArray n }:=by
 simp[Obj.mapSeq]
theorem Inv.lst{Ec:List (Addr×Obj)}{σ:St}{H:Hp}{s:Shared}{p:Addr}{xs:List V}(I:Inv X Ec σ H s)(h:H p=some (.lst xs)) :
  ∃(its:List Value) (n:Nat),Vals xs its/\s.heap.get? p=some { cls:=.type "list",data:=.seq its.toArray n }/\xs.length<=sizeLine:=by
 obtain⟨z,its,n,r,e⟩:=I.hok p _ h
 exact⟨its,n,r,e,z⟩
theorem Inv.lstUpd{Ec:List (Addr×Obj)}{σ:St}{H:Hp}{s:Shared}{p:Addr}{xs ys:List V}{its its':List Value}{n n':Nat}{f:Obj->Obj}(I:Inv X Ec σ H s)(h:H p=some (.lst xs))
  (ho:s.heap.get? p=some { cls:=.type "list",data:=.seq its.toArray n }) (hf:f { cls:=.type "list",data:=.seq its.toArray n }={ cls:=.type "list",data:=.seq its'.toArray n' }) (r:Vals ys its') (hz:ys.length<=sizeLine) (t:Nat) :
  Inv X Ec σ (upd H p (.lst ys)) { s with heap:=s.heap.update p f,toks:=t }:=by
 have e:(s.heap.update p f).get? p=some { cls:=.type "list",data:=.seq its'.toArray n' }:=by
  rw[Heap.get?_update_self f ho (by rw[hf] <;> rfl),hf]
 refine I.write (x:=p) (e:=p) (by rw[h];trivial) (.inl rfl) (fun b u hb q=>(Ck _ _ (CT hb)).trans q) ⟨_,e⟩ ?_
 exact⟨hz,its',n',r,e⟩
def rSetL:V->V->V->Hp->(Hp->Prop)->Prop:=fun o i v H Q=>∃p xs k j,o=.ref p/\i=.int k/\H p=some (.lst xs)/\ixN xs.length k=some j/\Q (upd H p (.lst (xs.set j v)))
theorem yH1:PSet X rSetL:=by
 intro Ec s σ H o i v ov iv u Q I ro ri rv h
 obtain⟨p,xs,k,j,rfl,rfl,hp,hj,q⟩:=h
 cases ro
 obtain⟨t,rfl⟩:=ri
 obtain⟨its,n,r,ho,hz⟩:=I.lst hp
 obtain⟨h1,h2,h3,h4⟩:=yA8 hj
 have hl:=r.length
 have hn:=line63
 have I':Inv X Ec σ (upd H p (.lst (xs.set j v))) { s with heap:=s.heap.update p (Obj.mapSeq (·.setIfInBounds j u)) } :=
  I.lstUpd hp ho (xW5 its n j u) (r.set rv j) (by rw[Cy];exact hz) s.toks
 by_cases h0:0<=k
 ·have hk:k.toNat=j:=by
   rw[seqIndex_of h0 h4] at h1
   exact AJ h1
  exact PySem.W.ki_setAt ho h0 (by rfl') (by rw[Ao,<-hl];exact h4) (by rw[hk];exact⟨_,I',q⟩)
 ·have hk:(k+(its.toArray.size:Int)).toNat=j:=by
   rw[seqIndex_neg (by rfl') h3] at h1
   rw[Ao,<-hl]
   exact AJ h1
  exact PySem.W.ki_setBack ho (by rfl') (by rw[Ao,<-hl];exact h3) (by rfl') (by rw[hk];exact⟨_,I',q⟩)
theorem yN3(lo hi:Option Int)(n:Nat):(sliceBounds lo hi none n).1=((HT.sIx n 0 lo:Nat):Int)/\(sliceBounds lo hi none n).2.1=((HT.sIx n n hi:Nat):Int)/\(sliceBounds lo hi none n).2.2=1:=by
 refine⟨?_,?_,rfl⟩
 ·cases lo with
  | none=>simp[sliceBounds,HT.sIx]
  | some i =>
   simp only[sliceBounds,HT.sIx,Option.getD_none,show (1:Int) > 0 by decide,if_true]
   by_cases h:i<0
   ·simp only[h,if_true] <;> rfl'
   ·simp only[h,if_false] <;> rfl'
 ·cases hi with
  | none=>simp[sliceBounds,HT.sIx]
  | some i =>
   simp only[sliceBounds,HT.sIx,Option.getD_none,show (1:Int) > 0 by decide,if_true]
   by_cases h:i<0
   ·simp only[h,if_true] <;> rfl'
   ·simp only[h,if_false] <;> rfl'
theorem yT4(its:List Value)(lo hi:Option Int):slicePick its.toArray lo hi none=((its.drop (HT.sIx its.length 0 lo)).take (HT.sIx its.length its.length hi-HT.sIx its.length 0 lo)).toArray:=by
 obtain⟨h1,h2,h3⟩:=yN3 lo hi its.toArray.size
 unfold slicePick
 rw[h1,h2,h3]
 simp only[sliceRange_one,pick_run,Ao] <;> rfl
def rSlL(K:KFr):V->Option Int->Option Int->Hp->VK->Prop:=fun x lo hi H Q=>∃a xs,x=.ref a/\SqL K H a xs/\∀p,H p=none->Q (.ref p) (upd H p (.lst (cutV xs lo hi)))
theorem yA6:SlR X (rSlL X.K):=by
 intro Ec s σ H x v vl vu lo hi sl Q I rx hs pl pu h
 obtain⟨a,xs,rfl,hx,q⟩:=h
 cases rx
 obtain⟨its,r,ht,hz⟩:=I.list hx
 have hlen:=r.length
 refine⟨"list",_,slot_list_getitem.lookup,ht.isList.typeIs,?_⟩
 refine wpAny_getItem_list_slice ht.isList hs pl pu .none (by simp) ?_ (by rw[Ao] <;> rfl')
 rw[yT4,<-hlen]
 refine⟨.ref s.heap.objs.size,_,I.laid (t':=s.toks) (o:=.lst (cutV xs lo hi)) (fun b ob q=>Ai _ q) (Ab _) ?_,rfl,q _ (I.hok.fresh (Ab _))⟩
 exact⟨AH (zO7 xs lo hi) hz,_,0,(r.drop (HT.sIx xs.length 0 lo)).take (HT.sIx xs.length xs.length hi-HT.sIx xs.length 0 lo),AA _ rfl⟩
def flatV:V->Bool
 | .non=>true
 | .bl _=>true
 | .int _=>true
 | .str _=>true
 | _=>false
def eqV:V->V->Bool
 | .non,.non=>true
 | .bl a,.bl b=>a == b
 | .bl a,.int b=>(if a then 1 else 0) == b
 | .int a,.bl b=>a == (if b then 1 else 0)
 | .int a,.int b=>a == b
 | .str a,.str b=>a == b
 | _,_=>false
theorem wJ4{A:Around}{s:Shared}{y x:V}{u v:Value}(ry:RelV y u)(rx:RelV x v)(fy:flatV y=true)(fx:flatV x=true):SeqAt.EqAt A s u v (eqV y x):=by
 cases y with
 | non =>
  cases ry
  cases x with
  | non=>cases rx;exact SeqAt.EqAt.same _
  | bl b=>cases rx;exact SeqAt.EqAt.none_bool b
  | int b=>obtain⟨t,rfl⟩:=rx;exact SeqAt.EqAt.none_int b t
  | str b=>obtain⟨t,rfl⟩:=rx;exact SeqAt.EqAt.none_str b t
  | _=>exact absurd (show false=true from fx) AG
 | bl a =>
  cases ry
  cases x with
  | non=>cases rx;exact SeqAt.EqAt.bool_none a
  | bl b=>cases rx;exact SeqAt.EqAt.bool_bool a b
  | int b=>obtain⟨t,rfl⟩:=rx;exact SeqAt.EqAt.bool_int a b t
  | str b=>obtain⟨t,rfl⟩:=rx;exact SeqAt.EqAt.bool_str a b t
  | _=>exact absurd (show false=true from fx) AG
 | int a =>
  obtain⟨t',rfl⟩:=ry
  cases x with
  | non=>cases rx;exact SeqAt.EqAt.int_none a t'
  | bl b=>cases rx;exact SeqAt.EqAt.int_bool a t' b
  | int b=>obtain⟨t,rfl⟩:=rx;exact SeqAt.EqAt.int_int a t' b t
  | str b=>obtain⟨t,rfl⟩:=rx;exact SeqAt.EqAt.int_str a t' b t
  | _=>exact absurd (show false=true from fx) AG
 | str a =>
  obtain⟨t',rfl⟩:=ry
  cases x with
  | non=>cases rx;exact SeqAt.EqAt.str_none a t'
  | bl b=>cases rx;exact SeqAt.EqAt.str_bool a t' b
  | int b=>obtain⟨t,rfl⟩:=rx;exact SeqAt.EqAt.str_int a t' b t
  | str b=>obtain⟨t,rfl⟩:=rx;exact SeqAt.EqAt.str_str a t' b t
  | _=>exact absurd (show false=true from fx) AG
 | _=>exact absurd (show false=true from fy) AG
def eqU(x:V)(u:Value):Bool:=match u with
 | .none=>eqV .non x
 | .bool b=>eqV (.bl b) x
 | .int i _=>eqV (.int i) x
 | .str z _=>eqV (.str z) x
 | _=>false
theorem xS6{x y:V}{u:Value}(r:RelV y u)(f:flatV y=true):eqU x u=eqV y x:=by
 cases y with
 | non=>cases r;rfl
 | bl b=>cases r;rfl
 | int i=>obtain⟨t,rfl⟩:=r;rfl
 | str z=>obtain⟨t,rfl⟩:=r;rfl
 | _=>exact absurd (show false=true from f) AG
theorem zA1{x:V}:∀{xs:List V}{us:List Value},Vals xs us->xs.all flatV=true->us.any (eqU x)=xs.any fun y=>eqV y x
 | _,_,.nil,_=>rfl
 | y::xs,u::us,.cons r t,f=>by
  rw[DG,AV] at f
  rw[CC,CC,xS6 r f.1,zA1 t f.2]
theorem zM1{A:Around}{s:Shared}{x:V}{v:Value}(rx:RelV x v)(fx:flatV x=true):∀{xs:List V}{us:List Value},Vals xs us->xs.all flatV=true->∀u∈us,SeqAt.EqAt A s u v (eqU x u)
 | _,_,.nil,_=>fun u hu=>by cases hu
 | y::xs,u::us,.cons r t,f=>fun u' hu=>by
  rw[DG,AV] at f
  rcases AM.mp hu with rfl | hu
  ·rw[xS6 r f.1];exact wJ4 r rx f.1 fx
  ·exact zM1 rx fx t f.2 u' hu
def inV(x:V)(xs:List V):Bool:=xs.any fun y=>eqV y x
def rIn(K:KFr)(neg:Bool):R2:=fun x y H Q=>∃p xs,y=.ref p/\(SqL K H p xs\/SqT K H p xs)/\flatV x=true/\xs.all flatV=true/\Q (.bl (if neg then !inV x xs else inV x xs)) H
theorem yM1:OpR X (compareOp .NotIn) (rIn X.K true):=by
 intro Ec s σ H x y v u Q I rx ry h
 obtain⟨p,xs,rfl,hq,fx,fs,q⟩:=h
 cases ry
 rcases hq with hq | hq
 ·obtain⟨its,r,pl,hz⟩:=I.list hq
  refine SeqAt.notIn_listAt (eqU x) pl.isList (fun w hw=>zM1 rx fx r fs w (by simpa using hw)) ⟨.bl _,H,I,rfl,?_⟩
  rw[show its.toArray.any (eqU x)=its.any (eqU x) by simp,zA1 r fs]
  exact q
 ·obtain⟨its,r,pl,hz⟩:=I.tuple hq
  refine SeqAt.notIn_tupleAt (eqU x) pl (fun w hw=>zM1 rx fx r fs w (by simpa using hw)) ⟨.bl _,H,I,rfl,?_⟩
  rw[show its.toArray.any (eqU x)=its.any (eqU x) by simp,zA1 r fs]
  exact q
theorem zL:CallR X (.builtin "len") (fun xs H Q=>∃p ys,xs=[.ref p]/\(SqL X.K H p ys\/SqT X.K H p ys)/\Q (.int ys.length) H):=by
 intro Ec s σ H xs us Q I r h
 obtain⟨p,ys,rfl,hq,q⟩:=h
 obtain⟨u,rfl,rx⟩:=vals1 r
 cases rx
 have hn:=line63
 rcases hq with hq | hq
 ·obtain⟨its,r',pl,hz⟩:=I.list hq
  have hlen:=r'.length
  exact Calls.call_len_list pl.isList (by simp only[Ao] <;> rfl') ⟨.int ys.length,H,I.tok _,⟨s.toks+1,by rw[Ao,hlen]⟩,q⟩
 ·obtain⟨its,r',pl,hz⟩:=I.tuple hq
  have hlen:=r'.length
  exact len_tuple pl (by simp only[Ao] <;> rfl') ⟨.int ys.length,H,I.tok _,⟨s.toks+1,by rw[Ao,hlen]⟩,q⟩
theorem yJ5:CallR X (.builtin "len") (fun xs H Q=>∃z,xs=[.str z]/\z.length<=sizeLine/\Q (.int z.length) H):=by
 intro Ec s σ H xs us Q I r h
 obtain⟨z,rfl,hz,q⟩:=h
 obtain⟨u,rfl,t,rfl⟩:=vals1 r
 have hn:=line63
 exact len_str (by rfl') ⟨.int z.length,H,I.tok _,⟨_,rfl⟩,q⟩
theorem yP8:CallR X (.type "list") (fun xs H Q=>∃p ys,xs=[.ref p]/\(SqL X.K H p ys\/SqT X.K H p ys)/\∀l,H l=none->Q (.ref l) (upd H l (.lst ys))):=by
 intro Ec s σ H xs us Q I r h
 obtain⟨p,ys,rfl,hq,q⟩:=h
 obtain⟨u,rfl,rx⟩:=vals1 r
 cases rx
 have fin:∀(its:List Value),Vals ys its->ys.length<=sizeLine->∀(h':Heap) (c':Nat),(∀b o',s.heap.get? b=some o'->h'.get? b=some o') ->
   h'.get? s.heap.objs.size=some { cls:=.type "list",dict:=none,data:=.seq its.toArray c',slots:=#[] }->EP X Ec σ Q (.ref s.heap.objs.size) { s with heap:=h' }:=fun its r' hz h' c' kp e =>
  ⟨.ref s.heap.objs.size,_,I.laid (t':=s.toks) kp (Ab _) (show ObjOk X.prog X.w _ h' _ (.lst ys) from ⟨hz,its,c',r',e⟩),rfl,q _ (I.hok.fresh (Ab _))⟩
 rcases hq with hq | hq
 ·obtain⟨its,r',pl,hz⟩:=I.list hq
  have hlen:=r'.length
  obtain⟨o,ho,hc,n,hd⟩:=pl.isList
  exact call_list_seq p (.inl rfl) ho hc hd (fun h' c' kp e=>fin its r' hz h' c' kp e) (by simp only[Ao] <;> rfl')
 ·obtain⟨its,r',pl,hz⟩:=I.tuple hq
  have hlen:=r'.length
  obtain⟨o,ho,hc,n,hd⟩:=pl
  exact call_list_seq p (.inr rfl) ho hc hd (fun h' c' kp e=>fin its r' hz h' c' kp e) (by simp only[Ao] <;> rfl')
theorem xR:CallR X (.type "tuple") (fun xs H Q=>∃p ys,xs=[.ref p]/\((SqL X.K H p ys/\∀l,H l=none->Q (.ref l) (upd H l (.tup ys)))\/(SqT X.K H p ys/\Q (.ref p) H))):=by
 intro Ec s σ H xs us Q I r h
 obtain⟨p,ys,rfl,h⟩:=h
 obtain⟨u,rfl,rx⟩:=vals1 r
 cases rx
 rcases h with ⟨hq,q⟩ | ⟨hq,q⟩
 ·obtain⟨its,r',pl,hz⟩:=I.list hq
  have hlen:=r'.length
  refine call_tuple_list pl.isList (fun h' kp => ?_) (by simp only[Ao] <;> rfl')
  have I1:Inv X Ec σ H { s with heap:=h' }:=I.kept (t':=s.toks) kp
  have I2:Inv X Ec σ (upd H h'.objs.size (.tup ys)) { s with heap:=h'.push { cls:=.type "tuple",data:=.seq its.toArray } } :=
   I1.laid (t':=s.toks) (fun b o e=>Ai _ e) (Ab _) (show ObjOk X.prog X.w _ _ _ (.tup ys) from ⟨hz,its,r',TupAt.new _ _⟩)
  exact⟨.ref h'.objs.size,_,I2,rfl,q _ (I1.hok.fresh (Ab _))⟩
 ·obtain⟨its,r',pl,hz⟩:=I.tuple hq
  exact call_tuple_same pl ⟨.ref p,H,I,rfl,q⟩
def tyV(K:KFr)(T:String)(x:V)(H:Hp):Prop:=match x with
 | .str _=>T="str"
 | .int _=>T="int"
 | .ref p=>(T="list"/\∃xs,SqL K H p xs)\/(T="tuple"/\((∃o,K.lookup p=some o/\o.cls=.type "tuple"/\o.dict=none)\/∃xs,Rd H p (.tup xs))) \/
   (T="dict"/\((∃kvs,H p=some (.dK kvs))\/∃kvs,H p=some (.dT kvs)))\/(T="set"/\∃S n,H p=some (.set S n))
 | _=>False
theorem xT5{Ec:List (Addr×Obj)}{σ:St}{H:Hp}{s:Shared}{T:String}{x:V}{v:Value}(I:Inv X Ec σ H s)(r:RelV x v)(ty:tyV X.K T x H) :
  s.TypeIs v T/\∀a,v=.ref a->∃ob,s.heap.get? a=some ob/\ob.dict=none:=by
 cases x with
 | str z =>
  obtain⟨t,rfl⟩:=r
  cases (show T="str" from ty)
  exact⟨typeIs_str s z t,fun _ e=>nomatch e⟩
 | int i =>
  obtain⟨t,rfl⟩:=r
  cases (show T="int" from ty)
  exact⟨typeIs_int s i t,fun _ e=>nomatch e⟩
 | ref p =>
  cases r
  rcases ty with ⟨rfl,xs,hq⟩ | ⟨rfl,⟨o,hk,hc,hd⟩ | ⟨xs,hq⟩⟩ | ⟨rfl,hk⟩ | ⟨rfl,S,n,hk⟩
  ·obtain⟨its,_,pl,_⟩:=I.list hq
   refine⟨pl.isList.typeIs,fun a e => ?_⟩
   cases e
   obtain⟨o,n,e,c,hd,_⟩:=pl
   exact⟨o,e,hd⟩
  ·refine⟨⟨o,I.kIn p o hk,hc⟩,fun a e => ?_⟩
   cases e
   exact⟨o,I.kIn _ o hk,hd⟩
  ·obtain⟨_,its,_,o,e,c,_,hd⟩:=hq.ok I.hok
   refine⟨⟨o,e,c⟩,fun a e2 => ?_⟩
   cases e2
   exact⟨o,e,hd⟩
  ·have z:∃o,s.heap.get? p=some o/\o.ExactDict:=by
    rcases hk with ⟨kvs,hk⟩ | ⟨kvs,hk⟩
    ·obtain⟨_,_,_,_,o,_,_,e,ex,_⟩:=I.hok p _ hk
     exact⟨o,e,ex⟩
    ·obtain⟨_,_,_,_,o,_,_,e,ex,_⟩:=I.hok p _ hk
     exact⟨o,e,ex⟩
   obtain⟨o,e,ex⟩:=z
   refine⟨⟨o,e,ex.1⟩,fun a e2 => ?_⟩
   cases e2
   exact⟨o,e,ex.2.1⟩
  ·obtain⟨o,_,_,_,e,ex,_⟩:=I.hok p _ hk
   refine⟨⟨o,e,ex.1⟩,fun a e2 => ?_⟩
   cases e2
   exact⟨o,e,ex.2.1⟩
 | _=>exact False.elim ty
def tBM0(K:KFr)(T:String)(r:V->List V->Hp->VK->Prop)(to:TE):TE:=fun σ H Q=>to σ H fun x H1=>tyV K T x H1/\r x [] H1 Q
def tBM(K:KFr)(T:String)(r:V->List V->Hp->VK->Prop)(to:TE)(t:TA):TE:=fun σ H Q=>to σ H fun x H1=>tyV K T x H1/\t σ H1 fun xs H2=>r x xs H2 Q
variable {o e:Expr}{es:List Expr}{to:TE}{t:TA}{name:Str}{apos cpos:Pos}{T id:String}{r:V->List V->Hp->VK->Prop}
theorem wM8(pa:PlainAttrs T)(slot:Slot T name id)(hty:typeOf (.builtin id)=pure (.type "method_descriptor"))(hm:MtR X id r)(ho:PE X o to)
  (hbase:autoParam (attributeBase o name X.env (eval o X.env)=eval o X.env) Eb) (hline:autoParam ((apos.endLine == cpos.line)=true) Eb):PE X (.Call (.Attribute o name apos) [] [] cpos) (tBM0 X.K T r to):=by
 intro Ec s σ H Q I h
 refine wpAny_Call_method0_late hbase hline (thn (ho Ec s σ H _ I h) fun v s1 ⟨x,H1,I1,r1,ty,q1⟩ => ?_)
 obtain⟨h1,h2⟩:=xT5 I1 r1 ty
 exact⟨T,id,pa,slot,hty,h1,h2,Du rfl (PySem.evalArgs_none (hm Ec s1 σ H1 x [] v [] Q I1 r1 .nil q1))⟩
theorem zZ3(pa:PlainAttrs T)(slot:Slot T name id)(hty:typeOf (.builtin id)=pure (.type "method_descriptor"))(hm:MtR X id r)(ho:PE X o to)(ha:PA X (e::es) t)
  (hbase:autoParam (attributeBase o name X.env (eval o X.env)=eval o X.env) Eb)
  (hfew:((backTo cpos (starEach (e::es) X.env)).all (fun x=>!x.1)&&(backToKw cpos (keywordEach [] X.env)).all (fun x=>x.1.isSome)
  &&decide ((e::es).length+([]:List Keyword).length+(if ([]:List Keyword).isEmpty then 0 else 1)<30))=true:=by rfl)
  (hline:autoParam ((apos.endLine == cpos.line)=true) Eb) (hs:autoParam (starEach (e::es) X.env=(false,eval e X.env)::starEach es X.env) Eb) (hplain:autoParam ((backTo cpos (starEach es X.env)).any (·.1)=false) Eb) :
  PE X (.Call (.Attribute o name apos) (e::es) [] cpos) (tBM X.K T r to t):=by
 intro Ec s σ H Q I h
 refine wpAny_Call_method_late hbase hfew hline rfl (thn (ho Ec s σ H _ I h) fun v s1 ⟨x,H1,I1,r1,ty,q1⟩ => ?_)
 obtain⟨h1,h2⟩:=xT5 I1 r1 ty
 refine⟨T,id,pa,slot,hty,h1,h2,?_⟩
 have hA:=ha cpos Ec s1 σ H1 _ I1 q1
 rw[hs] at hA ⊢
 refine Du (by show (false || (backTo cpos (starEach es X.env)).any (·.1))=false;rw[hplain] <;> rfl) (DH ?_)
 exact thn hA fun us s2 ⟨vs,H2,I2,r2,q2⟩=>hm Ec s2 σ H2 x vs v us Q I2 r1 r2 q2
end
def MtM(X:Cx)(id:String)(r:V->List V->Hp->VK->Prop):Prop :=
 ∀(Ec:List (Addr×Obj)) (s:Shared) (σ:St) (H:Hp) (x:V) (xs:List V) (v:Value) (us:List Value) (Q:VK),Inv X Ec σ H s->RelV x v->Vals xs us->r x xs H Q ->
  wpAny (model X.prog X.w) X.A (call (.builtin id) (v::us)) (EP X Ec σ Q) X.xe s
theorem Vals.one:∀{x:V}{us:List Value},Vals [x] us->∃u,us=[u]/\RelV x u
 | _,_,.cons r .nil=>⟨_,rfl,r⟩
theorem Vals.two:∀{x y:V}{us:List Value},Vals [x,y] us->∃u v,us=[u,v]/\RelV x u/\RelV y v
 | _,_,_,.cons r (.cons q .nil)=>⟨_,_,rfl,r,q⟩
theorem Vals.eraseIdx:∀{xs:List V}{us:List Value}(i:Nat),Vals xs us->Vals (xs.eraseIdx i) (us.eraseIdx i)
 | _,_,_,.nil=>.nil
 | _,_,0,.cons _ t=>t
 | _,_,i+1,.cons r t=>.cons r (Vals.eraseIdx i t)
theorem Vals.rep{xs:List V}{us:List Value}(h:Vals xs us):∀k:Nat,Vals (List.replicate k xs).flatten (List.replicate k us).flatten
 | 0=>.nil
 | k+1=>by
  rw[Bl,Bl,Bx,Bx]
  exact Vals.append h (Vals.rep h k)
theorem yX2{α:Type}:∀(l:List α) (i:Nat),(l.eraseIdx i).length<=l.length
 | [],_=>Ab _
 | _::_,0=>Nat.le_succ _
 | _::r,i+1=>Nat.succ_le_succ (yX2 r i)
theorem yV3(its:List Value):∀(k:Nat) (acc:List Value),
  List.foldl (fun x1 x2=>x1++x2) acc.toArray (List.replicate k its.toArray)=(acc++(List.replicate k its).flatten).toArray
 | 0,acc=>by simp
 | k+1,acc=>by
  have e:acc.toArray++its.toArray=(acc++its).toArray:=by simp
  have e2:(acc++its)++(List.replicate k its).flatten=acc++(List.replicate (k+1) its).flatten:=by
   rw[Bl,Bx,Bh]
  rw[<-e2,<-yV3 its k (acc++its),<-e,Bl,DK]
section
variable {X:Cx}{Ec:List (Addr×Obj)}{σ:St}{H:Hp}{s:Shared}{l b:Addr}{xs ys zs:List V}
theorem Inv.lset{its its':List Value}{n:Nat}{f:Array Value->Array Value}{t':Nat}(I:Inv X Ec σ H s)(hH:H l=some (.lst xs))
  (e:s.heap.get? l=some { cls:=.type "list",data:=.seq its.toArray n }) (hf:f its.toArray=its'.toArray) (hv:Vals ys its') (hz:ys.length<=sizeLine) :
  Inv X Ec σ (upd H l (.lst ys)) { s with heap:=s.heap.update l (Obj.mapSeq f),toks:=t' }:=by
 have q:=PySem.IsL.update e f
 rw[hf] at q
 refine I.write (x:=l) (e:=l) (by rw[hH];exact trivial) (.inl rfl) (fun b' u hb hu=>(Ck s.heap (Obj.mapSeq f) (CT hb)).trans hu) ⟨_,q⟩ ?_
 exact⟨hz,its',_,hv,q⟩
theorem Inv.lnew{its:List Value}{t':Nat}(I:Inv X Ec σ H s)(hv:Vals ys its)(hz:ys.length<=sizeLine) :
  Inv X Ec σ (upd H s.heap.objs.size (.lst ys)) { s with heap:=s.heap.push { cls:=.type "list",data:=.seq its.toArray },toks:=t' } :=
 I.laid (fun _ _ q=>Ai _ q) (Ab _) ⟨hz,its,0,hv,AA _ rfl⟩
theorem Inv.fresh(I:Inv X Ec σ H s):H s.heap.objs.size=none:=I.hok.fresh (Ab _)
theorem Inv.lstM(I:Inv X Ec σ H s)(hH:H l=some (.lst xs)):xs.length<=sizeLine/\∃(its:List Value) (n:Nat),Vals xs its/\xs.length=its.length/\s.heap.get? l=some { cls:=.type "list",data:=.seq its.toArray n }:=by
 obtain⟨z,its,n,r,e⟩:=I.hok l _ hH
 exact⟨z,its,n,r,r.length,e⟩
theorem notLongL{n:Nat}(h:n<=sizeLine):Builtin.List.listTooLong n=false:=by
 unfold Builtin.List.listTooLong
 exact Ad (by rfl')
end
section
variable {X:Cx}
def rAppend:V->List V->Hp->VK->Prop:=fun x vs H Q=>∃l xs y,x=.ref l/\vs=[y]/\H l=some (.lst xs)/\xs.length<sizeLine/\Q .non (upd H l (.lst (xs ++ [y])))
theorem wE:MtM X "list.append" rAppend:=by
 intro Ec s σ H x vs v us Q I rx rv h
 obtain⟨l,xs,y,rfl,rfl,hH,hz,q⟩:=h
 cases rx
 obtain⟨u,rfl,ru⟩:=rv.one
 obtain⟨z,its,n,r,hl,e⟩:=I.lstM hH
 refine call_meets DR ⟨_,e,rfl⟩ DN (DI _ _) (PySem.list_append l its.toArray n u (by rw[Ao];rfl')) ⟨e,?_⟩
 refine⟨.non,_,I.lset (its':=its ++ [u]) hH e (by simp) (r.append (.cons ru .nil)) ?_,rfl,q⟩
 rw[An,Bm]
 rfl'
def rPopAt:V->List V->Hp->VK->Prop:=fun x vs H Q=>∃l xs i k y,x=.ref l/\vs=[.int i]/\H l=some (.lst xs)/\-(2 ^ 63)<=i/\i<2 ^ 63/\seqIndex? i xs.length=some k/\xs[k]?=some y/\Q y (upd H l (.lst (xs.eraseIdx k)))
theorem xC1:MtM X "list.pop" rPopAt:=by
 intro Ec s σ H x vs v us Q I rx rv h
 obtain⟨l,xs,i,k,y,rfl,rfl,hH,h1,h2,hk,hy,q⟩:=h
 cases rx
 obtain⟨u,rfl,ru⟩:=rv.one
 obtain⟨t,rfl⟩:=ru
 obtain⟨z,its,n,r,hl,e⟩:=I.lstM hH
 obtain⟨w,hw,rw'⟩:=r.get hy
 refine call_meets F.slot_list_pop ⟨_,e,rfl⟩ F.entry_list_pop (F.args_list_pop_2 _ _)
  (MeetsSeq.list_pop_at l its.toArray n i t k w (fitsIndex_both h1 h2) (by rw[Ao,<-hl];exact hk) (by rw[<-Array.getElem?_toList];exact hw) (by rw[Ao];rfl')) ⟨e,?_⟩
 refine⟨y,_,I.lset (its':=its.eraseIdx k) hH e ?_ (r.eraseIdx k) ?_,rw',q⟩
 ·show its.toArray.eraseIdxIfInBounds k=(its.eraseIdx k).toArray
  rw[List.eraseIdxIfInBounds_toArray]
 ·have:=yX2 xs k
  rfl'
theorem wV9{α:Type}(xs:List α)(k:Nat):(List.replicate k xs).flatten.length=k*xs.length:=by
 induction k with
 | zero=>simp
 | succ k ih=>rw[Bl,Bx,An,ih,Nat.succ_mul,Nat.add_comm]
end
section
variable {prog:Program}{w:World}{A:Around}{E:Value->Shared->Prop}{s:Shared}
end
section
variable {X:Cx}
end
end L2
namespace Att
open PySem PySem.W PySem.Calls PyProof.Rows
theorem zH9{P:Params}{h:Heap}:∀(ns:List Int) (vs:List Value),WellAll P h vs (ns.map WData.int)->IntsAre vs ns:=by
 intro ns
 induction ns with
 | nil =>
  intro vs w
  rw[Cj] at w
  cases w
  exact .nil
 | cons n ns ih =>
  intro vs w
  rw[AI] at w
  cases w with
  | cons a b =>
   cases a
   exact .cons _ _ (ih _ b)
theorem xL6{l:OpenLaw}{n:Nat}(hn:l.most=some n){P:Params}{h:Heap}{args:List WData}{vals:List Value}
  (hpre:l.row.toRowW.claim.pre args=true) (hwl:WellAll P h vals args) :
  ∃a vs ns,vals=[Value.ref a]/\args=[WData.list (ns.map WData.int)]/\h.get? a=some { cls:=.type "list",data:=.seq vs.toArray }/\IntsAre vs ns/\ns.length<=n:=by
 have hsh:WShape.hasAll [] args [.list .int]=true:=(pre_splitW hpre).1
 have hc:l.pre.holds [] { args:=args }=true:=(pre_splitW hpre).2
 obtain⟨d,r,rfl,h1,h2⟩:=hasAllW_cons hsh
 obtain rfl:=hasAllW_nil h2
 obtain⟨xs,rfl,h3⟩:=hasW_list h1
 obtain⟨ns,rfl⟩:=items_int h3
 have hlen:ns.length<=n:=by
  unfold OpenLaw.pre at hc
  have h4:(WTm.not (.lt (.lit (.int (n:Int))) (.len (.arg 0)))).holds [] { args:=[.list (ns.map .int)] }=true:=by
   have h4:=(holds_andW hc).1
   rw[hn] at h4
   exact h4
  have h5:=condW_of h4 (w_not (w_lt w_lit (w_len_list (w_arg rfl))))
  rw[Aa] at h5
  refine Nat.le_of_not_lt fun q => ?_
  have q':(n:Int)<((ns.length:Nat):Int):=by rfl'
  first
   | (rw[Ag q'] at h5;exact absurd h5 (by decide))
   | (simp at h5;rfl')
 cases hwl with
 | cons w1 w2 =>
  cases w2
  cases w1 with
  | list ho hall=>exact⟨_,_,ns,rfl,rfl,ho,zH9 ns _ hall,hlen⟩
theorem xS3(l:OpenLaw)(args:List WData):l.row.toRowW.claim.post args (.bool true) args=true :=
 postW_of (r:=l.row.toRowW) (X:=(true == true))
  (show WShape.has [] (.bool true) .bool=true by first | rfl | decide | simp[WShape.has,WShape.arms,WShape.armsAll])
  (show (WTm.eq .res (.lit (.bool true))).value [] { args:=args,res:=some (.bool true),after:=args }=some (.bool (true == true)) from w_eq_bool (w_res rfl) w_lit) rfl
theorem yH8{l:OpenLaw}{n:Nat}{q:Program}{loose:List Str}{XP:(Str->Option Value)->Heap->Prop}{YP:World->Heap->Prop}{d:DefRec}
  (hn:l.most=some n) (hdf:d.params.defaults=[])
  (call:∀(w:World) (s₀ s₁:Shared) (mg mb:Str->Option Value) (fa:Addr) (o:Obj) (pm cd doc:Value) (a:Addr) (vs:List Value) (ns:List Int),
   Ground q loose [] XP w s₀ mg mb s₁.heap->YP w s₁.heap ->
   s₁.heap.get? fa=some o->o.data=.func (docDef d.name d.params d.body d.scope pm cd doc)->s₁.heap.CodeRec cd d.name->mg d.name=some (.ref fa) ->
   s₁.heap.get? a=some { cls:=.type "list",data:=.seq vs.toArray }->IntsAre vs ns->ns.length<=n->s₁.gens=#[] ->
   codeAny (model l.prog w) callerA (.call (.ref fa) ⟨[.ref a],[]⟩) (fun r s'=>r=.ok (.ret (.bool true))/\OldK s₁.heap s'.heap/\s'.os=s₁.os/\AllBare s'.gens) s₁) :
  WalkO q loose XP YP l.row.toRowW d [] (fun f vs=>PySem.call f vs):=by
 intro w s₀ s₁ mg mb G Y fa o pm cd doc dV kV ho hd hcd hD hmg hg args vals as hpre hlay hrd hwl hlo
 obtain rfl:dV=.none:=Dflts.none hD hdf
 obtain rfl:kV=.none:=Dflts.noKw hD
 obtain⟨a,vs,ns,rfl,rfl,hobj,hints,hlen⟩:=xL6 hn hpre hwl
 refine enter_call (codeAny_mono (call w s₀ s₁ mg mb fa o pm cd doc a vs ns G Y ho (fd_plain hd) hcd hmg hobj hints hlen hg) fun r s' hq => ?_)
 obtain⟨rfl,h2,h3,h4⟩:=hq
 exact⟨.inl ⟨.bool true,.bool true,[],rfl,fun _=>rfl,.bool true,xS3 l _,fun _=>⟨List.Pairwise.nil,fun _ hm=>(nomatch hm)⟩⟩,h2,h3,h4⟩
section
variable {prog:Program}{w:World}{A:Around}{E:Value->Shared->Prop}{s:Shared}{K:Frag}
end
end Att
namespace L2
open PySem PySem.Spec PyProof.Rows
theorem zS2:∀{vs:List Value}{ns:List Int},IntsAre vs ns->Vals (ns.map V.int) vs
 | _,_,.nil=>.nil
 | _,_,.cons n t h=>.cons ⟨t,rfl⟩ (zS2 h)
def Only(H:Hp):Prop:=∀b,H b=none\/∃o xs,H b=some (.frz o (.lst xs))
theorem xG8{P:Program}{w:World}{K:KFr}{mg mb:Str->Option Value}{CX:CXT}{k:Nat}{fa a:Addr}{fd:FuncData}{x:Str}{sp:Sp}{s₁:Shared}{vs:List Value}{ns:List Int}
  (KX:K.In s₁.heap) (hns:s₁.heap.Ns mainGlobals mg) (hb:s₁.heap.Ns builtinsNs mb) (hbb:∀x:Str,x ≠ "__name__"->mb x=bootBuiltins x) (hlim:s₁.heap.NoLimit) (hg:s₁.gens=#[])
  (ha:s₁.heap.get? a=some { cls:=.type "list",data:=.seq vs.toArray }) (hi:IntsAre vs ns) (hl:ns.length<=sizeLine) (hr:Room k callerA)
  (F:∀base:Heap,K.In base->base.Ns mainGlobals mg->FnOk P w K mg base CX k fa fd [x] sp) (hbind:∀(s:Shared) (u:Value),BindsTo s fd ⟨[u],[]⟩ [(x,u)])
  (hsp:∀H:Hp,Only H->SqL K H a (ns.map V.int)->sp [.ref a] H (fun v _=>v=.bl true) fun _ _ _=>False)
  (hCX:∀H e s',CX [] H s₁ (fun _ _ _=>False) e s'->False) :
  codeAny (model P w) callerA (.call (.ref fa) ⟨[.ref a],[]⟩) (fun r s'=>r=.ok (.ret (.bool true))/\OldK s₁.heap s'.heap/\s'.os=s₁.os/\AllBare s'.gens) s₁:=by
 have rv:=zS2 hi
 have lenV:=hi.length
 have core:∀H:Hp,Only H->SqL K H a (ns.map V.int)->HOk P w H s₁.heap->(∀b,H b≠none->b=a)->(H a≠none->K.lookup a=none) ->
   codeAny (model P w) callerA (.call (.ref fa) ⟨[.ref a],[]⟩) (fun r s'=>r=.ok (.ret (.bool true))/\OldK s₁.heap s'.heap/\s'.os=s₁.os/\AllBare s'.gens) s₁:=by
  intro H hO hS hok hA hK
  have base_of:∀{b:Addr}{o:Obj},s₁.heap.get? b=some o->H b=none->(hidT s₁.heap H).get? b=some o:=fun e n=>xD5 e n
  have noA:∀{b:Addr}{o:Obj}{es:Array DictEntry}{ep:Nat},s₁.heap.get? b=some o->o.data=.dict es ep->H b=none:=fun {b o es ep} e d=>by
   cases q:H b with
   | none=>rfl
   | some u =>
    have e':b=a:=hA b (by rw[q];simp)
    subst e'
    rw[ha] at e;cases e
    have d':Data.seq vs.toArray _=Data.dict es ep:=d
    cases d'
  have nsK:∀{b:Addr}{m:Str->Option Value},s₁.heap.Ns b m->(hidT s₁.heap H).Ns b m:=fun {b m} ⟨o,es,ep,e,d,r⟩=>⟨o,es,ep,base_of e (noA e d),d,r⟩
  have hKb:K.In (hidT s₁.heap H):=fun b o e=>base_of (KX b o e) (by
   cases q:H b with
   | none=>rfl
   | some u =>
    have e':b=a:=hA b (by rw[q];simp)
    subst e'
    rw[hK (by rw[q];simp)] at e;cases e)
  have hM:Mod K mg (hidT s₁.heap H):=⟨hKb,nsK hns,⟨mb,nsK hb,hbb⟩,let ⟨mc,h1,h2⟩:=hlim; ⟨mc,nsK h1,h2⟩⟩
  have e0:Env0 P w K mg (hidT s₁.heap H) callerA [] s₁ H:=⟨rfl,hM,fun b o e=>wW6 e,Nat.le_of_eq (xQ6 _ _),trivial,fun b hb=>absurd (show b∈([]:List Addr) from hb) (by simp),hok,.of_eq hg⟩
  refine codeAny_mono ((F _ hKb (nsK hns)).run callerA [] s₁ H ⟨[.ref a],[]⟩ [.ref a] [.ref a] _ _ hr e0 (hbind s₁ (.ref a)) (.cons rfl .nil) (hsp H hO hS)) fun r s' h => ?_
  cases r with
  | error e=>exact (hCX H e s' h).elim
  | ok fl =>
   cases fl with
   | next=>exact False.elim h
   | brk=>exact False.elim h
   | cont=>exact False.elim h
   | ret u =>
    obtain⟨v,H',os,bare,un,hok',r',q⟩:=h
    have q':v=.bl true:=q
    subst q'
    obtain rfl:u=Value.bool true:=r'
    refine⟨rfl,OldK.of_keep fun b o e => ?_,os,bare⟩
    cases q:H b with
    | none=>exact un.keep b o e q (by intro z;exact absurd (show b∈([]:List Addr) from z) (by simp)) (by simp)
    | some u =>
     rcases hO b with z | ⟨ob,xs,z⟩
     ·rw[q] at z;cases z
     ·have z2:=un.frzs b ob _ z
      obtain⟨e1,_⟩:=hok b _ z
      obtain⟨e2,_⟩:=hok' b _ z2
      rw[e] at e1;cases e1
      exact e2
 cases hk:K.lookup a with
 | some o =>
  have e:=KX a o hk
  rw[ha] at e
  cases e
  refine core (fun _=>none) (fun _=>.inl rfl) (.inr ⟨_,vs.toArray,_,hk,rfl,rfl,rfl,by rw[Ao,lenV];exact hl,by simpa using rv⟩) (fun b u z=>by have z':(none:Option HO)=some u:=z;cases z') (fun b z=>absurd rfl z) fun z=>absurd rfl z
 | none =>
  refine core (fun b=>if b=a then some (.frz { cls:=.type "list",data:=.seq vs.toArray } (.lst (ns.map V.int))) else none) (fun b => ?_) (.inl (.inr ⟨{ cls:=.type "list",data:=.seq vs.toArray },Ac rfl⟩)) (fun b u z => ?_) (fun b z => ?_) fun _=>hk
  ·by_cases hb:b=a
   ·exact .inr ⟨_,_,Ac hb⟩
   ·exact .inl (Ah hb)
  ·by_cases hb:b=a
   ·have z':=(Ac hb).symm.trans z
    cases z'
    subst hb
    exact⟨ha,by rw[Aa];exact hl,vs,_,rv,ha⟩
   ·have z':=(Ah hb).symm.trans z
    cases z'
  ·by_cases hb:b=a
   ·exact hb
   ·exact absurd (Ah hb) z
abbrev KOf{K:KFr}{h:Heap}(_:K.In h):KFr:=K
theorem wX6{l:PySem.W.OpenLaw}{n k:Nat}{q:Program}{loose:List Str}{XP:(Str->Option Value)->Heap->Prop}{YP:World->Heap->Prop}{d:DefRec}{K:Params->KFr}{CX:World->CXT}{sp:World->Sp}{x:Str}
  (hn:l.most=some n) (hn2:n<=sizeLine) (hdf:d.params.defaults=[]) (hr:Room k callerA)
  (hY:∀(w:World) (h:Heap),YP w h->(K w.params).In h)
  (F:∀(w:World) (mg:Str->Option Value) (fa:Addr) (h:Heap),(K w.params).In h->h.Ns mainGlobals mg->mg d.name=some (.ref fa) ->
   ∃fd:FuncData,(∀(s:Shared) (u:Value),BindsTo s fd ⟨[u],[]⟩ [(x,u)]) /\
    ∀base:Heap,(K w.params).In base->base.Ns mainGlobals mg->FnOk l.prog w (K w.params) mg base (CX w) k fa fd [x] (sp w))
  (hsp:∀(w:World) (H:Hp) (a:Addr) (ns:List Int),ns.length<=n->Only H->SqL (K w.params) H a (ns.map V.int)->sp w [.ref a] H (fun v _=>v=.bl true) fun _ _ _=>False)
  (hCX:∀(w:World) (H:Hp) (s:Shared) (e:Value) (s':Shared),CX w [] H s (fun _ _ _=>False) e s'->False) :
  PySem.W.WalkO q loose XP YP l.row.toRowW d [] (fun f vs=>PySem.call f vs):=by
 refine Att.yH8 hn hdf fun w s₀ s₁ mg mb fa o pm cd doc a vs ns G Y ho hd hcd hmg hobj hints hlen hg => ?_
 have KX:=hY w _ Y
 obtain⟨fd,hb,hF⟩:=F w mg fa _ KX G.T.g hmg
 exact xG8 KX G.T.g G.T.b G.T.builtins G.T.nolimit hg hobj hints (AH hlen hn2) hr hF hb (fun H hO hS=>hsp w H a ns hlen hO hS) fun H e s'=>hCX w H s₁ e s'
def defArgs(s:Stmt):Arguments:=match s with
 | .FunctionDef _ a _ _ _ _ _ _ _ _=>a
 | _=>{ posonlyargs:=[],args:=[],vararg:=none,kwonlyargs:=[],kw_defaults:=[],kwarg:=none,defaults:=[] }
def defBody(s:Stmt):List Stmt:=match s with
 | .FunctionDef _ _ b _ _ _ _ _ _ _=>b
 | _=>[]
def zP(s:Stmt):Scope:=match s with
 | .FunctionDef _ _ _ _ _ _ sc _ _ _=>sc
 | _=>{ kind:=.function,names:=[],isGenerator:=false,isCoroutine:=false }
abbrev CX0:CXT:=fun _ _ _ _ _ _=>False
structure Fun(K:KFr)(x qual:Str)(st:Stmt)(f:Addr)(fd:FuncData):Prop where
 ex:∃(oc:Value) (od:Option Addr) (kV doc pm:Value) (an:Option Addr) (cdv ct:Value) (osl:Array (Option Value)),
  fd=PySem.W.fnOf x qual (defArgs st) (defBody st) (zP st) .none kV doc pm an cdv ct/\K.lookup f=some ⟨oc,od,.func fd,osl⟩/\PySem.W.codeIn K cdv qual=true
 kp:PySem.W.keepIn K (.ref f)=true
section
variable {P:Program}{w:World}{K:KFr}{mg:Str->Option Value}{base:Heap}
theorem Fun.ok{x qual:Str}{st:Stmt}{f:Addr}{fd:FuncData}{N ps:List Str}{k:Nat}{sp:Sp}(F:Fun K x qual st f fd)(S:zH N ps (zP st))(len:∀vs H Q E,sp vs H Q E->vs.length=ps.length)
  (hbody:∀(cdv:Value) (A:Around) (outer:List Env) (s:Shared) (H:Hp) (vs:List V) (Q:VK) (E:XK),Room k (A.deeper (envOfC qual (zP st) s.heap.objs.size f cdv))->sp vs H Q E ->
   ∃t,PSs (cxOf CX0 P w K mg base N qual (zP st) f cdv A outer s H E).nox (defBody st) t/\t { nx:=fun _ H'=>Q .non H',rt:=Q } (start N vs) H):FnOk P w K mg base CX0 (k+1) f fd ps sp:=by
 obtain⟨oc,od,kV,doc,pm,an,cdv,ct,osl,rfl,lk,hcd⟩:=F.ex
 refine xW3 lk hcd S len fun A outer s H vs Q E hr hsp => ?_
 obtain⟨t,h,q⟩:=hbody cdv A outer s H vs Q E hr hsp
 exact⟨t,h.nox,q⟩
theorem Fun.binds{x qual:Str}{st:Stmt}{f:Addr}{fd:FuncData}{ps:List Str}(F:Fun K x qual st f fd)
  (h:∀(kV doc pm:Value) (an:Option Addr) (cdv ct:Value) (us:List Value),us.length=ps.length->bindArgs (PySem.W.fnOf x qual (defArgs st) (defBody st) (zP st) .none kV doc pm an cdv ct) ⟨us,[]⟩=pure (ps.zip us)):Binds K fd ps []:=by
 obtain⟨oc,od,kV,doc,pm,an,cdv,ct,osl,rfl,lk,hcd⟩:=F.ex
 exact .all (h kV doc pm an cdv ct)
theorem wJ7{x qual:Str}{st:Stmt}{f:Addr}{oc:Value}{od an:Option Addr}{osl:Array (Option Value)}{kV doc pm cdv ct:Value}(l:K.lookup f=some ⟨oc,od,.func (PySem.W.fnOf x qual (defArgs st) (defBody st) (zP st) .none kV doc pm an cdv ct),osl⟩)
  (c:PySem.W.codeIn K cdv qual=true) (k:PySem.W.keepIn K (.ref f)=true):Fun K x qual st f (PySem.W.fnOf x qual (defArgs st) (defBody st) (zP st) .none kV doc pm an cdv ct):=⟨⟨oc,od,kV,doc,pm,an,cdv,ct,osl,rfl,l,c⟩,k⟩
end
theorem yS4{A:Around}{k:Nat}(hr:Room k A):A.units+1<cLine:=AT (Nat.add_le_add_left (by decide:1<=64) _) hr.units
theorem small1000{n:Nat}(h:n<=1000):n<sizeLine:=AT h (by decide)
section
variable {X:Cx}
theorem pv(i:Nat){x:Str}{pos:Pos}(hN:autoParam (X.N[i]?=some x) Eb)(hv:autoParam (Vis X.env.scope x) DY)(hd:autoParam ((x == ("__debug__":Str))=false) Ea)
  (hcd:autoParam ((x == ("__classdict__":Str))=false) Ea):PE X (.Name x pos) (tVar i):=jY hN hv hd hcd
end
theorem iteF{A B:Prop}(h:B):if false=true then A else B:=by
 rw[Ah AG]
 exact h
theorem iteT{A B:Prop}(h:A):if true=true then A else B:=by
 rw[Ac rfl]
 exact h
def Same(H H':Hp):Prop:=∀b o,H b=some o->H' b=some o
theorem Same.refl(H:Hp):Same H H:=fun _ _ h=>h
theorem Same.trans{H H1 H2:Hp}(a:Same H H1)(b:Same H1 H2):Same H H2:=fun c o h=>b c o (a c o h)
theorem Same.free{H H':Hp}(e:Same H H'){l:Addr}(h:H' l=Option.none):H l=Option.none:=by
 cases q:H l with
 | none=>rfl
 | some o =>
  rw[e l o q] at h
  cases h
end L2
set_option maxHeartbeats 2000000
namespace PySem
section
variable {prog:Program}{w:World}{A:Around}{E:Value->Shared->Prop}{s:Shared}
theorem xU4{x:Value}{Q:List Value->Shared->Prop}
  (k:codeAny (model prog w) A (.builtin "list.__iadd__" ⟨[.ref s.heap.objs.size,x],[]⟩) (wants (fun v s'=>v=.ref s.heap.objs.size/\∃acc n,s'.heap.get? s.heap.objs.size=some { cls:=.type "list",data:=.seq acc n }/\Q acc.toList s') E) { s with heap:=s.heap.push { cls:=.type "list",data:=.seq #[] } }) :
  wpAny (model prog w) A (collect x) Q E s:=by
 wp_walk
 have h1:=F.entry_proto_collect
 have h2:=F.plain_proto_collect
 have h3:=F.plain_list_iadd
 refine codeAny_builtin h1 ?_
 rw[Around.under_plainId h2]
 wp_walk
 refine⟨plainId_quiet h3 _,codeAny_mono k fun r s' hr => ?_⟩
 cases r with
 | error e=>exact hr
 | ok f =>
  cases f with
  | ret v =>
   obtain⟨rfl,acc,n,g,q⟩:=hr
   exact Am (wpAny_load g (AF q))
  | _=>exact hr.elim
theorem yH5{x:Value}{S:Spec}{Q:List Value->Shared->Prop}(m:MeetsIn prog w (Builtin.List.listExtendWith (.ref s.heap.objs.size) x (.ref s.heap.objs.size)) S)
  (k:S A (wants (fun v s'=>v=.ref s.heap.objs.size/\∃acc n,s'.heap.get? s.heap.objs.size=some { cls:=.type "list",data:=.seq acc n }/\Q acc.toList s') E) { s with heap:=s.heap.push { cls:=.type "list",data:=.seq #[] } }) :
  wpAny (model prog w) A (collect x) Q E s:=by
 have z:=F.plain_list_iadd
 have y:=m A _ _ k
 refine xU4 (codeAny_builtin F.entry_list_iadd ?_)
 rw[Around.under_plainId z]
 exact y
theorem xD8{r:Addr}{T:String}{Q:Value->Shared->Prop}(ne:(Value.type T == .type "tuple")=false)(ty:s.TypeIs (.ref r) T)
  (k:wpAny (model prog w) A.in1.in1 (collect (.ref r)) (fun vs s'=>vs.length<=sizeLine/\Q (.ref s'.heap.objs.size) { s' with heap:=s'.heap.push { cls:=.type "tuple",data:=.seq vs.toArray } }) E s) :
  wpAny (model prog w) A (call (.type "tuple") [.ref r]) Q E s:=by
 refine callType_newIn F.called_tuple (by decide) (F.typeCall_tuple_1 _) (F.newCall_tuple_1 _) (fun o=>F.args_object_init_2 o _) F.entry_tuple_new
  (S:=fun B R t=>t=s/\B=A.in1/\R=wants (fun obj s₁=>s₁.TypeIs obj "tuple"/\Q obj s₁) E) (.of_wp fun B R t h => ?_) ⟨rfl,rfl,rfl⟩
 obtain⟨rfl,rfl,rfl⟩:=h
 have a1:=sub_tuple_self
 have a2:=init_tuple_lookup
 have a3:=madeHere_tuple
 have a4:∀(P:Bool->Shared->Prop) (E':Value->Shared->Prop),P false t->wpAny (model prog w) A.in1.in1 (Builtin.Tuple.tupleIsExact (.ref r)) P E' t:=fun P E' p=>by
  wp_walk using wpAny_typeOf ty
  first | exact p | (simp only[ne];exact p)
 have a5:∀P:List Value->Shared->Prop,(∀vs s',vs.length<=sizeLine/\Q (.ref s'.heap.objs.size) { s' with heap:=s'.heap.push { cls:=.type "tuple",data:=.seq vs.toArray } }->P vs s')->wpAny (model prog w) A.in1.in1 (collect (.ref r)) P E t:=fun P p=>wpAny_mono k p fun _ _ z=>z
 wp_walk using wpAny_typeOf ty,a4,a5
 intro vs s' ⟨hz,q⟩
 unfold Builtin.Tuple.tupleExact
 wp_walk
 exact⟨_,rfl,⟨_,AA _ rfl,rfl⟩,q⟩
theorem xP5{Q:Value->Shared->Prop}{r:Addr}{a b c:Int}{t u v:Tok}{n:Nat}(hh:A.handled=none)(hr:IsRange s.heap r a b c t u v)(sm:Builtin.Range.small a b c=true)(hn:Builtin.Range.rangeSize a b c=n)(hz:n<=1000000)
  (q:∀(h':Heap) tk vs,(∀b o,s.heap.get? b=some o->h'.get? b=some o)->ItemsOf (fun i v=>∃t,v=.int (a+i*c) t) vs n->Q (.ref h'.objs.size) { s with heap:=h'.push { cls:=.type "tuple",data:=.seq vs },toks:=tk }) :
  wpAny (model prog w) A (call (.type "tuple") [.ref r]) Q E s:=by
 have big:(2:Nat) ^ 24<=sizeLine:=by decide
 refine xD8 (T:="range") (by decide) ⟨_,hr,rfl⟩ (yH5 (S:=fun B R x=>B=A.in1.in1/\x={ s with heap:=s.heap.push { cls:=.type "list",data:=.seq #[] } } /\
  ∀h' tk vs e,(∀b o,b≠s.heap.objs.size->x.heap.get? b=some o->h'.get? b=some o)->h'.get? s.heap.objs.size=some { cls:=.type "list",data:=.seq vs e }->ItemsOf (fun i v=>∃t,v=.int (a+i*c) t) vs n->R (.ok (.ret (.ref s.heap.objs.size))) { x with heap:=h',toks:=tk }) (fun B R x y => ?_) ⟨rfl,rfl,fun h' tk vs e keep at_ its=>⟨rfl,vs,e,at_,?_,?_⟩⟩)
 ·obtain⟨rfl,rfl,y⟩:=y
  exact wpAny_extend_range (A:=A.in1.in1) hh (Ai _ hr) sm hn (by rfl') _ _ _ (AA _ rfl) y
 ·have:=its.1
  rw[BJ];rfl'
 ·rw[Array.toArray_toList]
  exact q h' tk vs (fun b o g=>keep b o (AL (As g)) (Ai _ g)) its
theorem xP8{l:Addr}{its:Array Value}{P:Value->Shared->Prop}(hh:A.handled=none)(hl:s.heap.IsList l its)
  (k:∀(I:Addr) (hp:Heap) (St:Nat->Heap->Prop),Walks prog w A I [I,l] [I] its.size (fun i v=>its[i]?=some v) St->St 0 hp->I<hp.objs.size->l<hp.objs.size->(∀b o,s.heap.get? b=some o->b≠I/\hp.get? b=some o)->P (.ref I) { s with heap:=hp }) :
  wpAny (model prog w) A (pyIter (.ref l)) P E s:=by
 have on:∀{b:Addr}{o:Obj},s.heap.get? b=some o->b<s.heap.objs.size:=fun g=>As g
 have ll:l<s.heap.objs.size:=let ⟨_,g,_⟩:=hl;on g
 refine wpAny_pyIter_list hl (k _ _ _ (Walks.list hh _ l (AL ll) its) ⟨⟨_,AA _ rfl,rfl,rfl⟩,hl.at fun _ g=>Ai _ g⟩ ?_ ?_ fun b o g=>⟨AL (on g),Ai _ g⟩)
 ·exact Dj (DB _) (Cs ..).symm
 ·exact Dj (Dv ll) (Cs ..).symm
theorem yJ8{l:Addr}{its:Array Value}{P:Value->Shared->Prop}(hh:A.handled=none)(hl:s.heap.IsTuple l its)
  (k:∀(I:Addr) (hp:Heap) (St:Nat->Heap->Prop),Walks prog w A I [I,l] [I] its.size (fun i v=>its[i]?=some v) St->St 0 hp->I<hp.objs.size->l<hp.objs.size->(∀b o,s.heap.get? b=some o->b≠I/\hp.get? b=some o)->P (.ref I) { s with heap:=hp }) :
  wpAny (model prog w) A (pyIter (.ref l)) P E s:=by
 have on:∀{b:Addr}{o:Obj},s.heap.get? b=some o->b<s.heap.objs.size:=fun g=>As g
 have ll:l<s.heap.objs.size:=let ⟨_,g,_⟩:=hl;on g
 refine wpAny_pyIter_tuple hl (k _ _ _ (Walks.tuple hh _ l (AL ll) its) ⟨⟨_,AA _ rfl,rfl,rfl⟩,hl.at fun _ g=>Ai _ g⟩ ?_ ?_ fun b o g=>⟨AL (on g),Ai _ g⟩)
 ·exact Dj (DB _) (Cs ..).symm
 ·exact Dj (Dv ll) (Cs ..).symm
theorem wS9{l b:Addr}{xs ys:Array Value}{n m:Nat}{o:Obj}(hc:o.cls=.type "tuple")(hd:o.data=.seq ys m)(fit:xs.size+ys.size<=sizeLine) :
  Meets (Builtin.«list.extend» ⟨[.ref l,.ref b],[]⟩) (fun _ R x=>x.heap.get? l=some { cls:=.type "list",data:=.seq xs n }/\x.heap.get? b=some o/\R (.ok (.ret .none)) { x with heap:=x.heap.update l (Obj.mapSeq (·++ys)) }) :=
 .of_wp fun prog w A R x ⟨hl,hb,k⟩=>by
  have t:x.TypeIs (.ref b) "tuple":=⟨o,hb,hc⟩
  have e1:Builtin.List.listTooLong (xs.size+ys.size)=false:=by
   unfold Builtin.List.listTooLong
   simpa using fit
  have e2:(xs++ys).size<=sizeLine+1:=by rw[Array.size_append];rfl'
  have e3:xs.size<=sizeLine:=by rfl'
  wp_walk using wpAny_typeOf t,wpAny_seqItems hl rfl,wpAny_seqItems hb hd,wpAny_updateSeq hl rfl
  exact⟨_,rfl,k⟩
theorem yN4{it:Addr}{P:Value->Shared->Prop}(ty:s.TypeIs (.ref it) "tuple_iterator")
  (k:wpAny (model prog w) A.in1 (Builtin.«tuple_iterator.__next__» ⟨[.ref it],[]⟩) (fun f x=>∃v,f=.done (.ret v)/\P v x) E s):wpAny (model prog w) A (Builtin.SmallTypes.nextOf (.ref it)) P E s:=by
 have sl:=F.slot_tuple_iterator_next
 have en:=F.entry_tuple_iterator_next
 have ok:=F.args_tuple_iterator_next_1 (.ref it)
 have c:wpAny (model prog w) A (call (.builtin "tuple_iterator.__next__") [.ref it]) P E s:=wpAny_call_entry sl ty en k ok
 unfold Builtin.SmallTypes.nextOf
 exact Am (wpAny_callSpecial?_slot ty sl (wpAny_mono c (fun v x z=>AF z) fun _ _ z=>z))
section
variable {it t:Addr}{i:Nat}{its:Array Value}
theorem xD7{v:Value}{P:Value->Shared->Prop}(hI:s.heap.IsTupleIter it t i)(hT:s.heap.IsTuple t its)(at_:its[i]?=some v)
  (k:∀h',h'.IsTupleIter it t (i+1)->Heap.SameBut it s.heap h'->P v { s with heap:=h' }):wpAny (model prog w) A (Builtin.SmallTypes.nextOf (.ref it)) P E s:=by
 refine yN4 hI.typeIs ?_
 obtain⟨o,a1,a2,a3⟩:=hI
 obtain⟨ot,b1,b2,n,b3⟩:=hT
 have f0:∀(P:Value->Shared->Prop) (E':Value->Shared->Prop),P (.ref t) s->wpAny (model prog w) A.in1 (field (.ref it) 0) P E' s:=fun P E' p=>wpAny_field a1 a3 rfl p
 have f1:∀(P:Value->Shared->Prop) (E':Value->Shared->Prop),P (.int i 0) s->wpAny (model prog w) A.in1 (field (.ref it) 1) P E' s:=fun P E' p=>wpAny_field a1 a3 rfl p
 have at':its[(i:Int).toNat]?=some v:=at_
 wp_walk using f0,f1,wpAny_seqItems b1 b3,wpAny_setField a1 a3
 rw[at']
 refine Am (wpAny_setField a1 a3 (by simp) (AF ⟨v,rfl,k _ ⟨_,Heap.get?_update_self _ a1 ?_,?_,?_⟩ (Heap.SameBut.update ..)⟩))
 ·exact Obj.isFreed_of_fields (Obj.data_mapFields a3 _)
 ·rw[Obj.cls_mapFields,a2]
 ·rw[Obj.data_mapFields a3];rfl
theorem xZ8{P:Value->Shared->Prop}(hA:A.handled=none)(hI:s.heap.IsTupleIter it t i)(hT:s.heap.IsTuple t its)(at_:its[i]?=none)
  (k:∀h' e,Heap.ExtBut it s.heap h'->(∃o,h'.get? e=some o/\o.cls=.type "StopIteration")->E (.ref e) { s with heap:=h' }):wpAny (model prog w) A (Builtin.SmallTypes.nextOf (.ref it)) P E s:=by
 refine yN4 hI.typeIs ?_
 obtain⟨o,a1,a2,a3⟩:=hI
 obtain⟨ot,b1,b2,n,b3⟩:=hT
 have f0:∀(P:Value->Shared->Prop) (E':Value->Shared->Prop),P (.ref t) s->wpAny (model prog w) A.in1 (field (.ref it) 0) P E' s:=fun P E' p=>wpAny_field a1 a3 rfl p
 have f1:∀(P:Value->Shared->Prop) (E':Value->Shared->Prop),P (.int i 0) s->wpAny (model prog w) A.in1 (field (.ref it) 1) P E' s:=fun P E' p=>wpAny_field a1 a3 rfl p
 have at':its[(i:Int).toNat]?=none:=at_
 have hA':A.in1.handled=none:=hA
 wp_walk using f0,f1,wpAny_seqItems b1 b3,wpAny_setField a1 a3,wpAny_raiseNew_none hA'
 rw[at']
 refine Am (wpAny_rule (Am (wpAny_setField a1 a3 (by simp) ?_)))
 unfold Builtin.SmallTypes.stopIteration
 wp_walk using wpAny_raiseNew_none hA'
 exact k _ _ (((Heap.SameBut.update ..).extBut.push _).push _) ⟨_,AA _ rfl,rfl⟩
end
theorem yY5{M:Model}{scope:Scope}{g bi:Addr}{cl:List (Str×Addr)}{qual:Str}{cd:Value}{outer:Env}{P:Value->Env->Shared->Prop}(nocell:∀y∈scope.names,y.2 ≠ .cell)(kind:scope.kind=.function)
  (k:∀(D C:Addr) (hp:Heap) (m:Str->Option Value),s.heap.objs.size<=D->s.heap.objs.size<=C->D≠C->(∀b o,s.heap.get? b=some o->hp.get? b=some o)->hp.get? D=some { cls:=.type "list",data:=.seq #[] }->hp.Ns C m->P (.ref D) (newEnv scope C g cl qual none cd (some outer) bi) { s with heap:=hp }) :
  wpAny M A (newList []) (fun acc x=>wpAny M A (newFunctionEnv scope g cl [] qual none cd (some outer) bi) (fun e y=>P acc e y) E x) E s:=by
 unfold newList
 refine wpAny_newObj_type (wpAny_newFunctionEnv nocell (fun _ z=>nomatch z) (fun hp ns sb => ?_) kind)
 have z:(s.heap.push { cls:=.type "list",data:=.seq #[] }).objs.size=s.heap.objs.size+1:=Cs ..
 have up:∀b o,(s.heap.push { cls:=.type "list",data:=.seq #[] }).get? b=some o->hp.get? b=some o:=fun b o q=>sb.extBut b o (AL (As q)) (Ai _ q)
 exact k _ _ hp _ (Ab _) (by show _<=(s.heap.push _).objs.size;rw[Cs];rfl') (by show _≠(s.heap.push _).objs.size;rw[Cs];rfl') (fun b o q=>up b o (Ai _ q)) (up _ _ (AA _ rfl)) ns
theorem wY5{x:Value}{oI:Obj}{Q:Value->Shared->Prop}(alive:oI.isFreed=false)(it:∀(B:Around) (P E':Value->Shared->Prop),P (.ref s.heap.objs.size) { s with heap:=s.heap.push oI }->wpAny (model prog w) B (pyIter x) P E' s)
  (k:∀h',IsEnum h' (s.heap.objs.size+1) s.heap.objs.size 0 .none->h'.get? s.heap.objs.size=some oI->(∀b o,s.heap.get? b=some o->h'.get? b=some o)->Q (.ref (s.heap.objs.size+1)) { s with heap:=h' }):wpAny (model prog w) A (call (.type "enumerate") [x]) Q E s:=by
 refine callType_newIn F.called_enumerate (by decide) (F.typeCall_enumerate_1 _) (F.newCall_enumerate_1 _) (fun o=>F.args_object_init_2 o _) F.entry_enumerate_new
  (S:=fun B R t=>t=s/\B=A.in1/\R=wants (fun v y=>y.TypeIs v "enumerate"/\Q v y) E) (.of_wp fun B R t h => ?_) ⟨rfl,rfl,rfl⟩
 obtain⟨rfl,rfl,rfl⟩:=h
 have u:=sub_enumerate
 have sz:(t.heap.push oI).objs.size=t.heap.objs.size+1:=Cs ..
 have fin:∀v:Value,v=.ref (t.heap.push oI).objs.size->Q v { t with heap:=(t.heap.push oI).push { cls:=.type "enumerate",data:=.fields #[.none,.bool false,.ref t.heap.objs.size,rawInt 0,.none,.none] } }:=fun v e=>by
  subst e
  rw[sz]
  exact k _ (by rw[<-sz];exact AA _ rfl) (Ai _ (AA _ alive)) fun b o g=>Ai _ (Ai _ g)
 wp_walk
 refine wpAny_stack_any (fun st=>AF ?_)
 split
 ·generalize (_ == Value.type "enumerate")=b
  cases b
  all_goals
   wp_walk using it A.in1.in1
   exact⟨_,rfl,⟨_,AA _ rfl,rfl⟩,fin _ rfl⟩
 ·wp_walk using it A.in1.in1
  exact⟨_,rfl,⟨_,AA _ rfl,rfl⟩,fin _ rfl⟩
end
end PySem
set_option maxHeartbeats 2000000
namespace PySem
section
variable {prog:Program}{w:World}{A:Around}{E:Value->Shared->Prop}{s:Shared}
end
end PySem
namespace L2
open PySem PySem.Spec PyProof.Rows
theorem HOk.track{P:Program}{w:World}{H:Hp}{h:Heap}{a:Addr}{o:HO}(x:HOk P w H h)(hn:H a=none)(new:ObjOk P w (upd H a o) h a o):HOk P w (upd H a o) h:=fun b u e=>by
 by_cases hb:b=a
 ·subst hb;rw[yP] at e;cases e;exact new
 ·rw[zG hb] at e
  exact (x b u e).stay (fun c v _ q=>q) (fun c q=>by rw[zG (xT q hn)];exact q) fun c xs q=>by rw[zG (xT q hn)];exact q
def clos(cells:List (Str×Addr)):List (Str×NameKind)->List (Str×Addr)->List (Str×Addr)
 | [],acc=>acc
 | (n,k)::r,acc=>if k == .free then clos cells r ((n,(cells.lookup n).getD 0)::acc) else clos cells r acc
theorem kD{env:Env}:∀(names:List (Str×NameKind)) (acc:List (Str×Addr)),(∀n,(n,NameKind.free)∈names->∃c,env.cells.lookup n=some c) ->
  (forIn names acc fun (x:Str×NameKind) (r:List (Str×Addr))=>(do
   let (name,kind):=x
   if kind == .free then do
    let c <-cellOf env name
    pure (ForInStep.yield ((name,c)::r))
   else pure (ForInStep.yield r):Sem (ForInStep (List (Str×Addr)))))=pure (clos env.cells names acc)
 | [],acc,_=>rfl
 | (n,k)::r,acc,h=>by
  rw[List.forIn_cons]
  by_cases hk:(k == NameKind.free)=true
  ·have ek:k=NameKind.free:=by simpa using hk
   obtain⟨c,hc⟩:=h n (by rw[ek];exact Af)
   have e1:cellOf env n=pure c:=by unfold cellOf;rw[hc]
   simp only[hk,if_true,e1,pure_bind]
   rw[kD r _ fun m hm=>h m (Aj _ hm)]
   show _=pure (if (k == NameKind.free)=true then clos env.cells r ((n,(env.cells.lookup n).getD 0)::acc) else clos env.cells r acc)
   rw[Ac hk,hc]
   rfl
  ·simp only[hk,if_false,pure_bind,Cu]
   rw[kD r _ fun m hm=>h m (Aj _ hm)]
   show _=pure (if (k == NameKind.free)=true then clos env.cells r ((n,(env.cells.lookup n).getD 0)::acc) else clos env.cells r acc)
   rw[Ah hk]
theorem zX5{scope:Scope}{env:Env}(h:∀n,(n,NameKind.free)∈scope.names->∃c,env.cells.lookup n=some c):closureFor scope env=pure (clos env.cells scope.names []):=by
 unfold closureFor
 have:=kD (env:=env) scope.names [] h
 simp only[] at this ⊢
 rw[show (forIn scope.names ([]:List (Str×Addr)) fun (x:Str×NameKind) (r:List (Str×Addr))=>(do
   if x.2 == .free then do
    let c <-cellOf env x.1
    pure (ForInStep.yield ((x.1,c)::r))
   else pure (ForInStep.yield r):Sem (ForInStep (List (Str×Addr)))))=pure (clos env.cells scope.names []) from this]
 rfl
theorem zY5{cells:List (Str×Addr)}:∀(names:List (Str×NameKind)) (acc:List (Str×Addr)),(∀n,(n,NameKind.free)∈names->∃c,cells.lookup n=some c)->(∀x c,acc.lookup x=some c->cells.lookup x=some c) ->
  ∀x c,(clos cells names acc).lookup x=some c->cells.lookup x=some c
 | [],acc,_,ha,x,c,e=>ha x c e
 | (n,k)::r,acc,h,ha,x,c,e=>by
  unfold clos at e
  by_cases hk:(k == NameKind.free)=true
  ·rw[Ac hk] at e
   have ek:k=NameKind.free:=by simpa using hk
   obtain⟨d,hd⟩:=h n (by rw[ek];exact Af)
   refine zY5 r _ (fun m hm=>h m (Aj _ hm)) (fun y z q => ?_) x c e
   rw[hd,DC,BG] at q
   by_cases hy:(y == n)=true
   ·simp only[hy] at q
    have ey:y=n:=by simpa using hy
    cases q
    rw[ey];exact hd
   ·simp only[hy] at q
    exact ha y z q
  ·rw[Ah hk] at e
   exact zY5 r _ (fun m hm=>h m (Aj _ hm)) ha x c e
theorem zM7{cells:List (Str×Addr)}:∀(names:List (Str×NameKind)) (acc:List (Str×Addr)) (x:Str),(∃c,acc.lookup x=some c)->∃c,(clos cells names acc).lookup x=some c
 | [],acc,x,h=>h
 | (n,k)::r,acc,x,h=>by
  unfold clos
  by_cases hk:(k == NameKind.free)=true
  ·rw[Ac hk]
   refine zM7 r _ x ?_
   rw[BG]
   by_cases hy:(x == n)=true
   ·simp only[hy];exact⟨_,rfl⟩
   ·simp only[hy];exact h
  ·rw[Ah hk];exact zM7 r _ x h
theorem gX{cells:List (Str×Addr)}:∀(names:List (Str×NameKind)) (acc:List (Str×Addr)) (x:Str),(x,NameKind.free)∈names->∃c,(clos cells names acc).lookup x=some c
 | (n,k)::r,acc,x,h=>by
  unfold clos
  rcases AM.mp h with e | e
  ·cases e
   rw[Ac (by rfl)]
   refine zM7 r _ _ ?_
   rw[BG]
   simp only[beq_self_eq_true]
   exact⟨_,rfl⟩
  ·by_cases hk:(k == NameKind.free)=true
   ·rw[Ac hk];exact gX r _ x e
   ·rw[Ah hk];exact gX r _ x e
theorem xU2(env:Env):∃f:Str×NameKind->Str×NameKind,(∀sc:Scope,(relabel sc env).names=sc.names.map f)/\∀q,f q=q\/(q.2=.free/\f q=(q.1,.cell)):=by
 refine⟨_,fun _=>rfl,fun q => ?_⟩
 dsimp only
 split
 ·rename_i z
  exact .inr ⟨eq_of_beq (CW.mp (CW.mp z).1).1,rfl⟩
 ·exact .inl rfl
theorem yU3{f:Str×NameKind->Str×NameKind}(hf:∀q,f q=q\/(q.2=.free/\f q=(q.1,.cell)))(x:Str):∀l:List (Str×NameKind),(l.map f).lookup x=l.lookup x\/(l.lookup x=some .free/\(l.map f).lookup x=some .cell)
 | []=>.inl rfl
 | (n,k)::r=>by
  have ih:=yU3 hf x r
  rw[AI]
  rcases hf (n,k) with e | ⟨e1,e⟩
  ·rw[e]
   cases q:x == n with
   | true=>exact .inl (by rw[BG,BG,q])
   | false=>simpa only[BG,q] using ih
  ·cases e1
   rw[e]
   cases q:x == n with
   | true=>exact .inr ⟨by rw[BG,q],by rw[BG,q]⟩
   | false=>simpa only[BG,q] using ih
theorem zR2(sc:Scope)(env:Env)(x:Str):(relabel sc env).names.lookup x=sc.names.lookup x\/(sc.names.lookup x=some .free/\(relabel sc env).names.lookup x=some .cell):=by
 obtain⟨f,e,hf⟩:=xU2 env
 rw[e sc]
 exact yU3 hf x sc.names
theorem kX{sc:Scope}{env:Env}{x:Str}{k:NameKind}(h:(relabel sc env).names.lookup x=some k):sc.names.lookup x=some k\/(k=.cell/\sc.names.lookup x=some .free):=by
 rcases zR2 sc env x with e | ⟨e1,e2⟩
 ·exact .inl (e.symm.trans h)
 ·exact .inr ⟨AJ (h.symm.trans e2),e1⟩
theorem zV6{sc:Scope}{env:Env}{x:Str}(h:sc.names.lookup x=some .free):(relabel sc env).names.lookup x=some .cell\/(relabel sc env).names.lookup x=some .free:=by
 rcases zR2 sc env x with e | ⟨_,e⟩
 ·exact .inr (e.trans h)
 ·exact .inl e
def cxComp(X:Cx)(N:List Str)(scope:Scope)(C:Addr)(fp:List Addr)(s₂:Shared)(H:Hp):Cx where
 prog:=X.prog
 w:=X.w
 K:=X.K
 mg:=X.mg
 base:=X.base
 A:=X.A
 N:=N
 s₀:=s₂
 H₀:=H
 env:=compEnvC scope (clos X.env.cells scope.names []) C X.env
 outer:=X.stack
 stack:=X.stack
 ex:=fp
 fn:=fun _=>false
 calm:=X.calm
 pn:=[]
 xe:=fun _ _=>False
structure CompScope(sc0 scope:Scope)(N0:List Str)(xt:Str)(fs:List Str)(js:List Nat):Prop where
 kind:scope.kind=.function
 nocell:∀y∈scope.names,y.2 ≠ .cell
 names:∀y∈scope.names,y.2=.local->scope.names.lookup y.1=some .local
 tgt:scope.names.lookup xt=some .local
 frees:∀y∈scope.names,y.2=.free->sc0.names.lookup y.1=some .cell\/sc0.names.lookup y.1=some .free
 len:js.length=fs.length
 slots:∀p∈fs.zip js,N0[p.2]?=some p.1/\scope.names.lookup p.1=some .free
 nd:(xt::fs).Nodup
theorem yZ2{α β:Type}:∀{fs:List α}{js:List β}{i:Nat}{y:α}{j:β},fs[i]?=some y->js[i]?=some j->(y,j)∈fs.zip js
 | [],_,_,_,_,h,_=>by simp at h
 | _::_,[],_,_,_,_,h=>by simp at h
 | a::fs,b::js,0,y,j,h,h'=>by
  simp at h h'
  subst h h'
  exact Af
 | a::fs,b::js,i+1,y,j,h,h'=>by
  rw[List.zip_cons_cons]
  exact Aj _ (yZ2 (i:=i) (by simpa using h) (by simpa using h'))
def compSt(σ:St)(js:List Nat)(v:Option V):St:=v::js.map fun j=>(σ[j]?).join
section
variable {X:Cx}{Ec:List (Addr×Obj)}{σ:St}{H:Hp}{s₂ s₄:Shared}{sc0 scope:Scope}{N0:List Str}{xt:Str}{fs:List Str}{js:List Nat}{fp:List Addr}
theorem CompScope.cells(S:CompScope sc0 scope N0 xt fs js)(h0:X.env.scope=sc0)(ok:X.Ok):∀n,(n,NameKind.free)∈scope.names->∃c,X.env.cells.lookup n=some c:=fun n hn=>ok.has n (by subst h0;exact S.frees _ hn rfl)
theorem CompScope.sub(S:CompScope sc0 scope N0 xt fs js)(h0:X.env.scope=sc0)(ok:X.Ok):∀x c,(clos X.env.cells scope.names []).lookup x=some c->X.env.cells.lookup x=some c :=
 zY5 scope.names [] (S.cells h0 ok) fun x c e=>by simp at e
theorem Inv.block(S:CompScope sc0 scope N0 xt fs js)(h0:X.env.scope=sc0)(hN0:X.N=N0)(I:Inv X Ec σ H s₂)(hf:∀b∈fp,FpOk X Ec H b)(hfo:∀b∈fp,∃o,s₂.heap.get? b=some o)
  (hos:s₄.os=s₂.os) (hg:AllBare s₄.gens) (hk:∀b o,s₂.heap.get? b=some o->s₄.heap.get? b=some o){C:Addr}(hC:s₂.heap.objs.size<=C){m:Str->Option Value}(hn:s₄.heap.Ns C m) :
  Inv (cxComp X (xt::fs) scope C fp s₂ H) [] (compSt σ js none) H s₄:=by
 have sub:=S.sub h0 I.ok
 have blt:∀b∈fp,b<s₂.heap.objs.size:=fun b hb=>let ⟨o,e⟩:=hfo b hb;As e
 have ok:(cxComp X (xt::fs) scope C fp s₂ H).Ok:=by
  refine⟨I.ok.mod,S.kind,I.ok.glob,I.ok.blt,hC,fun x y c h1 h2=>I.ok.inj x y c (sub x c h1) (sub y c h2),fun x hx => ?_,fun x c h=>(nomatch h),I.ok.hd,I.ok.frames,.inl rfl,fun b hb=>⟨?_,fun x c h=>(hf b hb).2.2.2.2.1 x c (sub x c h)⟩,I.bs,AH I.ok.bsz I.sz,fun b o e hb => ?_,fun b hb hs => ?_,I.stack,I.stkFree⟩
  ·have hx:(relabel scope X.env).names.lookup x=some .cell\/(relabel scope X.env).names.lookup x=some .free:=hx
   have hfree:scope.names.lookup x=some .free:=by
    rcases hx with hx | hx
    ·rcases kX hx with q | ⟨_,q⟩
     ·exact absurd rfl (S.nocell _ (AY q))
     ·exact q
    ·rcases kX hx with q | ⟨q,_⟩
     ·exact q
     ·cases q
   exact gX scope.names [] x (AY hfree)
  ·exact AL (Ar (blt b hb) hC)
  ·rcases (hf b hb).2.2.2.1 with z | z
   ·exact I.ok.noex b o e z
   ·exact absurd (Ar (As (I.ok.bs b o e).1) z) (CB _)
  ·rcases AM.mp (I.stkSub b hs) with z | z
   ·exact (hf b hb).2.1 z
   ·exact (hf b hb).2.2.1 z
 refine⟨ok,hos,hg,Un.kept hk,⟨m,hn,fun i x v e1 e2 e3 => ?_⟩,fun x c e => ?_,I.hok.fresh hC,fun x c e=>I.freeC x c (sub x c e),fun p hp=>absurd (show p∈([]:List (Addr×Obj)) from hp) (by simp),I.hok.kept hk,?_⟩
 ·cases i with
  | zero=>cases e2
  | succ i =>
   have e1:fs[i]?=some x:=e1
   have e2:(js.map fun j=>(σ[j]?).join)[i]?=some (some v):=e2
   rw[Al] at e2
   cases ej:js[i]? with
   | none=>rw[ej] at e2;cases e2
   | some j =>
    rw[ej] at e2
    have e2:(σ[j]?).join=some v:=AJ e2
    obtain⟨hN,hfr⟩:=S.slots _ (yZ2 e1 ej)
    have hN:X.N[j]?=some x:=by rw[hN0];exact hN
    have hk2:X.env.kindOf x=some .cell\/X.env.kindOf x=some .free:=by subst h0;exact S.frees _ (AY hfr) rfl
    have hs:σ[j]?=some (some v):=by
     cases q:σ[j]? with
     | none=>rw[q] at e2;cases e2
     | some z=>rw[q] at e2;rw[show z=some v from e2]
    obtain⟨m0,hn0,hl⟩:=I.loc
    obtain⟨u,r,l⟩:=hl j x v hN hs (by rcases hk2 with z | z;exact .inr (.inl z);exact .inr (.inr z))
    refine⟨u,r,?_⟩
    rcases l with ⟨hloc,_⟩ | ⟨_,c,hc,hcell⟩
    ·rcases hk2 with z | z
     ·rw[z] at hloc;cases hloc
     ·rw[z] at hloc;cases hloc
    ·obtain⟨c',hc'⟩:=gX (cells:=X.env.cells) scope.names [] x (AY hfr)
     have:c'=c:=AJ ((sub x c' hc').symm.trans hc)
     subst this
     exact .inr ⟨zV6 hfr,c',hc',hcell.keeps hk⟩
 ·obtain⟨v,z⟩:=I.cell x c (sub x c e)
  exact⟨v,z.keeps hk⟩
 ·show (compSt σ js none).length=(xt::fs).length
  unfold compSt
  rw[Ax,Aa,Ax,S.len]
theorem Inv.unblock{pins':List (Addr×Obj)}{σ':St}{H':Hp}{s':Shared}{h'':Heap}{C D:Addr}{its:List Value}{n:Nat}{acc:List V}{N:List Str}(I:Inv X Ec σ H s₂)(hf:∀b∈fp,FpOk X Ec H b)
  (J:Inv (cxComp X N scope C fp s₂ H) pins' σ' H' s') (hC:s₂.heap.objs.size<=C) (hD:s₂.heap.objs.size<=D) (hDC:D≠C) (hHD:H' D=none)
  (hd:s'.heap.get? D=some { cls:=.type "list",data:=.seq its.toArray n }) (hv:Vals acc its) (hz:acc.length<=sizeLine) (hsb:Heap.SameBut C s'.heap h'') :
  Inv X Ec σ (upd H' D (.lst acc)) { s' with heap:=h'' }:=by
 have hd2:h''.get? D=some { cls:=.type "list",data:=.seq its.toArray n }:=(hsb.2 D hDC).trans hd
 have keep:∀b o,b<s₂.heap.objs.size->s'.heap.get? b=some o->h''.get? b=some o:=fun b o hb e=>(hsb.2 b (AL (Ar hb hC))).trans e
 have hHC:H' C=none:=J.free
 have ok1:HOk X.prog X.w H' h'':=fun b o e=>(J.hok b o e).stay (fun c v hc q=>(hsb.2 c (by
   rcases hc with z | z
   ·rw[z];exact fun w=>by rw[w,hHC] at e;cases e
   ·exact fun w=>by rw[w,hHC] at z;cases z)).trans q) (fun _ q=>q) fun _ _ q=>q
 have ok2:HOk X.prog X.w (upd H' D (.lst acc)) h'':=ok1.track hHD ⟨hz,its,n,hv,hd2⟩
 have un:Un (frs X.stack) fp H (upd H' D (.lst acc)) s₂.heap h'':=by
  have u:=J.base
  refine⟨fun b o e nb h1 h2=>keep b o (As e) (u.keep b o e nb h1 h2),fun b o e nb h1 h2 => ?_,fun b o e nb h2 => ?_,fun b o e h2 => ?_,fun b xs e => ?_,fun b o v e => ?_,fun b ps e => ?_⟩
  ·obtain⟨sl,q⟩:=u.slot b o e nb h1 h2
   exact⟨sl,keep b _ (As e) q⟩
  ·rw[zG (AL (Ar (As e) hD))]
   exact u.free b o e nb h2
  ·obtain⟨o',q⟩:=u.there b o e h2
   exact⟨o',keep b _ (As e) q⟩
  ·have q:=u.tups b xs e
   rw[zG (xT q hHD)];exact q
  ·have q:=u.frzs b o v e
   rw[zG (xT q hHD)];exact q
  ·obtain⟨more,q⟩:=u.tbls b ps e
   exact⟨more,by rw[zG (xT q hHD)];exact q⟩
 obtain⟨hh,g,d,t,os'⟩:=s'
 obtain rfl:os'=s₂.os:=J.os
 exact Inv.call (s:=s₂) I (h':=h'') (g':=g) (d':=d) (t':=t) (ch:=fp) un ok2 J.bare fun b hb=>⟨(hf b hb).2.2.2.1,(hf b hb).2.1,(hf b hb).2.2.2.2.1,(hf b hb).2.2.2.2.2⟩
end
def tTrue:TT:=fun _ H Q=>Q true H
inductive PTs(X:Cx):List Expr->TT->Prop
 | nil:PTs X [] tTrue
 | one {c:Expr}{t:TT}:PT X c t->PTs X [c] t
def tComp(wi:TI)(tt:Addr->List Addr->Shared->Hp->TT)(te:Addr->List Addr->Shared->Hp->TE)(js:List Nat):TE:=fun σ H Q=>wi σ H fun J H1=>∀C fp s₂ H₂,∃W:Nat->Nat->List V->Hp->Prop,(∃m,W 0 m [] H1)/\∀i m acc H,W i m acc H ->
 (J.stop i H/\∀p,H p=none->Q (.ref p) (upd H p (.lst acc))) \/
 (J.go i H/\∃N:List V->Hp->Prop,(∀acc' H',N acc' H'->∃m',m'<m/\W (i+1) m' acc' H') /\
  ∀x H',J.yld i H x H'->tt C fp s₂ H₂ (compSt σ js (some x)) H' fun b H2=>if b=true then te C fp s₂ H₂ (compSt σ js (some x)) H2 fun v H3=>acc.length<sizeLine/\N (acc ++ [v]) H3 else N acc H2)
theorem yZ9{X:Cx}{elt iter:Expr}{ifs:List Expr}{sc0 scope:Scope}{N0:List Str}{px pos:Pos}{xt:Str}{fs:List Str}{js:List Nat}{wi:TI}{tt:Addr->List Addr->Shared->Hp->TT}{te:Addr->List Addr->Shared->Hp->TE}(S:CompScope sc0 scope N0 xt fs js)(h0:X.env.scope=sc0)(hN0:X.N=N0)(hc:X.calm=true)
  (hi:PI X (.Name xt px) iter wi) (ht:∀C fp s₂ H,PTs (cxComp X (xt::fs) scope C fp s₂ H) ifs (tt C fp s₂ H)) (he:∀C fp s₂ H,PE (cxComp X (xt::fs) scope C fp s₂ H) elt (te C fp s₂ H))
  (hs:autoParam (∀x,foldedSetIterable iter X.env x=pure x) DZ)
  {Ec:List (Addr×Obj)}{cpos:Pos}{s:Shared}{σ:St}{H:Hp}{Q:VK}{use:Option (Value->Sem Unit)}{Qv:Value->Shared->Prop}(I:Inv X Ec σ H s) (h:tComp wi tt te js σ H Q)
  (hfin:∀(s':Shared) (C D:Addr) (Ha:Hp) (fl:Flow),(∀h'',Heap.SameBut C s'.heap h''->Inv X Ec σ Ha { s' with heap:=h'' })->(∃m,s'.heap.Ns C m)->FpOk X Ec Ha C->Q (.ref D) Ha->compPost (model X.prog X.w) X.A X.xe use Qv (.ref D) C (.ok fl) s') :
  wpAny (model X.prog X.w) X.A (comprehension (.ListComp elt [⟨.Name xt px,iter,ifs,0⟩] scope pos) scope X.env cpos (newList []) false (eval iter X.env) use) Qv X.xe s:=by
 refine wpAny_comprehension_free (use:=use) rfl hs (zX5 (S.cells h0 I.ok)) S.kind S.names ?_
 refine thn (hi Ec s σ H _ I h) fun v s1 h1=>thn h1 fun itv s2 h2 => ?_
 obtain⟨it,fp,tn,J,H2,e,I2,T,st2,f2,hW⟩:=h2
 subst e
 have fo:∀b∈fp,∃o,s2.heap.get? b=some o:=fun b hb=>let ⟨o,e,_⟩:=T.obj 0 s2.heap st2 b hb; ⟨o,e⟩
 have blt:∀b∈fp,b<s2.heap.objs.size:=fun b hb=>let ⟨o,e⟩:=fo b hb;As e
 refine yY5 S.nocell S.kind fun D C h₁ mC hDle hCle hDC old hacc hns₁ => ?_
 have bC:∀b o,s2.heap.get? b=some o->b≠C:=fun b o q z=>DD.mpr hCle (z▸As q)
 have bD:∀b o,s2.heap.get? b=some o->b≠D:=fun b o q z=>DD.mpr hDle (z▸As q)
 obtain⟨W,⟨m0,w0⟩,turn⟩:=hW C fp s2 H2
 have fpk:∀{H':Hp}(ob:Obj),(∀b∈fp,H' b=none)->∀b∈fp,FpOk (cxComp X (xt::fs) scope C fp s2 H2) [(D,ob)] H' b:=fun {H'} ob hn b hb=>by
  refine⟨hn b hb,AL (Ar (blt b hb) hCle),fun z => ?_,.inl hb,fun x c e=>(f2 b hb).2.2.2.2.1 x c (S.sub h0 I2.ok x c e),fun p hp => ?_⟩
  ·rcases AM.mp (I2.stkSub b z) with q | q
   ·exact (f2 b hb).2.1 q
   ·exact (f2 b hb).2.2.1 q
  ·have:p=(D,ob):=by
    have hp:p ∈ [] ++ [(D,ob)]:=hp
    simpa using hp
   subst this
   exact Ds (Ar (blt b hb) hDle)
 have loop:codeAny (model X.prog X.w) X.A (.compLoop (.ListComp elt [⟨.Name xt px,iter,ifs,0⟩] scope pos) 0 (.ref it) (.ref D) (compEnvC scope (clos X.env.cells scope.names []) C X.env))
    (compPost (model X.prog X.w) X.A X.xe use Qv (.ref D) C) { s2 with heap:=h₁ }:=by
  have J0:Inv (cxComp X (xt::fs) scope C fp s2 H2) [] (compSt σ js none) H2 { s2 with heap:=h₁ } :=
   Inv.block (s₂:=s2) (s₄:={ s2 with heap:=h₁ }) S h0 hN0 I2 f2 fo rfl I2.bare old hCle hns₁
  have H2D:H2 D=none:=I2.hok.fresh hDle
  have ofD:D∉frs X.stack:=fun z=>by
   rcases AM.mp (I2.stkSub D z) with q | q
   ·exact absurd I2.lt (by rw[<-q];exact DD.mpr hDle)
   ·exact I2.nofs (a:=D) hDle q
  refine codeAny_loop rfl (fun n s'=>∃(i:Nat) (σ':St) (H':Hp) (acc:List V) (its:List Value) (k:Nat),(∃v0,σ'=compSt σ js v0)/\Inv (cxComp X (xt::fs) scope C fp s2 H2) [] σ' H' s'/\tn i s'.heap/\(∀b∈fp,H' b=none)/\H' D=none /\
    s'.heap.get? D=some { cls:=.type "list",data:=.seq its.toArray k }/\Vals acc its/\acc.length<=sizeLine/\W i n acc H') ?_ m0
   ⟨0,_,H2,[],[],0,⟨none,rfl⟩,J0,T.keep 0 _ _ st2 fun b hb o e=>old b o e,fun b hb=>(f2 b hb).1,H2D,hacc,.nil,Bk _,w0⟩
  rintro n s3 ⟨i,σ3,H3,acc,its,k,⟨v0,rfl⟩,I3,st3,fr3,hD3,d3,va,hz,w3⟩
  show wpAny _ X.A ((compTurn (.ListComp elt [⟨.Name xt px,iter,ifs,0⟩] scope pos) 0 (.ref it) (.ref D) (compEnvC scope (clos X.env.cells scope.names []) C X.env)).onRaise (fun x=>do noteFrame x (compEnvC scope (clos X.env.cells scope.names []) C X.env);theTreesLotGoes x)) _ _ s3
  refine wpAny_noted ?_
  rw[compTurn_list]
  refine Am (wpAny_standAt ?_)
  have pinD:Inv (cxComp X (xt::fs) scope C fp s2 H2) [(D,{ cls:=.type "list",data:=.seq its.toArray k })] (compSt σ js v0) H3 s3:=I3.uL fun p hp=>by
   have:p=(D,{ cls:=.type "list",data:=.seq its.toArray k }):=by simpa using hp
   subst this
   exact⟨d3,hD3,hDC,ofD,fun v z=>by cases z⟩
  refine Am ?_
  rcases turn i n acc H3 w3 with ⟨stop,qn⟩ | ⟨go,N,hN,step⟩
  ·refine thn (T.done (cxComp X (xt::fs) scope C fp s2 H2) rfl rfl rfl hc i _ s3 _ H3 _ pinD (fpk _ fr3) st3 stop) fun r s4 ⟨hr,I4⟩ => ?_
   subst hr
   refine AF ?_
   obtain⟨m4,hn4,_⟩:=I4.loc
   have hHC:H3 C=none:=I4.free
   refine hfin s4 C D (upd H3 D (.lst acc)) _ (fun h'' hsb=>I2.unblock f2 I4 hCle hDle hDC hD3 ((I4.pin (D,{ cls:=.type "list",data:=.seq its.toArray k }) (Ap _ Af)).1) va hz hsb) ⟨m4,hn4⟩ (I2.fpOk hCle (by rw[zG (CT hDC)];exact hHC)) (qn D hD3)
  ·refine thn (T.item (cxComp X (xt::fs) scope C fp s2 H2) rfl rfl rfl hc i _ s3 _ H3 _ pinD (fpk _ fr3) st3 go) fun r s4 ⟨u,hr,h4⟩ => ?_
   subst hr
   refine Am (thn h4 fun _ s5 ⟨x,H5,I5,r5,y5,st5,fr5⟩ => ?_)
   have I5':=I5.pinned (fpk _ fr5) (T.obj _ _ st5)
   have gok:PG (cxComp X (xt::fs) scope C fp s2 H2) (.Name xt px) (gName 0):=dF S.nd rfl (.inl (lookup_relabel_local S.tgt)) (.inr (lookup_relabel_local S.tgt))
   have noE:∀(a:Value) (s':Shared),(cxComp X (xt::fs) scope C fp s2 H2).xe a s'->notedBy (model X.prog X.w) X.A (compEnvC scope (clos X.env.cells scope.names []) C X.env) (fun e s'=>compPost (model X.prog X.w) X.A X.xe use Qv (.ref D) C (.error e) s') a s':=fun _ _ z=>False.elim z
   refine Am (wpAny_mono (gok _ s5 (compSt σ js v0) H5 x u (fun σ' H'=>σ'=compSt σ js (some x)/\H'=H5) I5' r5 ⟨rfl,rfl⟩) (fun _ s6 ⟨σ6,H6,I6,e6,e6'⟩ => ?_) noE)
   subst e6 e6'
   have fin:∀{acc':List V}{its':List Value}{k':Nat}{H7:Hp}{s7:Shared},Inv (cxComp X (xt::fs) scope C fp s2 H2) [] (compSt σ js (some x)) H7 s7->tn (i+1) s7.heap->(∀b∈fp,H7 b=none)->H7 D=none->s7.heap.get? D=some { cls:=.type "list",data:=.seq its'.toArray k' }->Vals acc' its'->acc'.length<=sizeLine->N acc' H7 ->
     ∃m,m<n/\∃(i:Nat) (σ':St) (H':Hp) (acc:List V) (its:List Value) (k:Nat),(∃v0,σ'=compSt σ js v0)/\Inv (cxComp X (xt::fs) scope C fp s2 H2) [] σ' H' s7/\tn i s7.heap/\(∀b∈fp,H' b=none)/\H' D=none /\
      s7.heap.get? D=some { cls:=.type "list",data:=.seq its.toArray k }/\Vals acc its/\acc.length<=sizeLine/\W i m acc H':=fun {acc' its' k' H7 s7} a1 a2 a3 a4 a5 a6 a7 a8=>by
    obtain⟨m',hm,w7⟩:=hN _ _ a8
    exact⟨m',hm,i+1,_,H7,acc',its',k',⟨_,rfl⟩,a1,a2,a3,a4,a5,a6,a7,w7⟩
   have rest:∀{H7:Hp}{s7:Shared},Inv (cxComp X (xt::fs) scope C fp s2 H2) ([(D,{ cls:=.type "list",data:=.seq its.toArray k })]++pinsAt fp s5.heap) (compSt σ js (some x)) H7 s7 ->
     tn (i+1) s7.heap/\(∀b∈fp,H7 b=none)/\H7 D=none/\s7.heap.get? D=some { cls:=.type "list",data:=.seq its.toArray k }:=fun {H7 s7} I7=>by
    refine⟨T.keep _ _ _ st5 fun b hb o e=>(I7.pin (b,o) (Ap _ (Ap _ (qR hb e)))).1,fun b hb => ?_,(I7.pin (D,{ cls:=.type "list",data:=.seq its.toArray k }) (Ap _ (Bb _ Af))).2.1,(I7.pin (D,{ cls:=.type "list",data:=.seq its.toArray k }) (Ap _ (Bb _ Af))).1⟩
    obtain⟨o,e,d⟩:=T.obj _ _ st5 b hb
    exact (I7.pin (b,o) (Ap _ (Ap _ (qR hb e)))).2.1
   have elem:∀{H7:Hp}{s7:Shared},Inv (cxComp X (xt::fs) scope C fp s2 H2) ([(D,{ cls:=.type "list",data:=.seq its.toArray k })]++pinsAt fp s5.heap) (compSt σ js (some x)) H7 s7 ->
     (te C fp s2 H2 (compSt σ js (some x)) H7 fun v H3=>acc.length<sizeLine/\N (acc ++ [v]) H3) ->
     wpAny (model X.prog X.w) X.A (eval elt (compEnvC scope (clos X.env.cells scope.names []) C X.env)) (fun y s8=>wpAny (model X.prog X.w) X.A (call (.builtin "list.append") [.ref D,y]) (fun _ s9=>∃m,m<n/\∃(i:Nat) (σ':St) (H':Hp) (acc:List V) (its:List Value) (k:Nat),(∃v0,σ'=compSt σ js v0)/\Inv (cxComp X (xt::fs) scope C fp s2 H2) [] σ' H' s9/\tn i s9.heap/\(∀b∈fp,H' b=none)/\H' D=none /\
      s9.heap.get? D=some { cls:=.type "list",data:=.seq its.toArray k }/\Vals acc its/\acc.length<=sizeLine/\W i m acc H')
      (fun _ _=>False) s8) (fun _ _=>False) s7:=fun {H7 s7} I7 q7=>by
    refine thn (he C fp s2 H2 _ s7 _ H7 _ I7 q7) fun y s8 ⟨v,H8,I8,r8,hl8,n8⟩ => ?_
    obtain⟨t8,fr8,hD8,d8⟩:=rest I8
    have hsz:=va.length
    refine call_meets DR ⟨_,d8,rfl⟩ DN (DI _ _) (PySem.list_append D its.toArray k y (by rw[Ao];rfl')) ⟨d8,?_⟩
    have q:=PySem.IsL.update d8 (·.push y)
    rw[show (its.toArray.push y)=(its ++ [y]).toArray by simp] at q
    have kk:∀b o,b≠D->s8.heap.get? b=some o->(s8.heap.update D (Obj.mapSeq (·.push y))).get? b=some o:=fun b o hb e=>(Ck s8.heap _ (CT hb)).trans e
    have I9:Inv (cxComp X (xt::fs) scope C fp s2 H2) [] (compSt σ js (some x)) H8 { s8 with heap:=s8.heap.update D (Obj.mapSeq (·.push y)) }:=by
     refine Inv.turned (it:=D) (t':=s8.toks) (I8.uL (pins':=[]) fun p hp=>nomatch hp) kk hD8 hDC (.inr hDle) (fun x c e z => ?_) fun p hp=>absurd (show p∈([]:List (Addr×Obj)) from hp) (by simp)
     obtain⟨v,o,ho,_⟩:=I2.cell x c (S.sub h0 I2.ok x c e)
     exact bD c o ho z
    refine fin I9 (T.keep _ _ _ t8 fun b hb o e=>kk b o (AL (Ar (blt b hb) hDle)) e) fr8 hD8 q (va.append (.cons r8 .nil)) ?_ n8
    rw[An,Bm]
    rfl'
   have q6:=step x H6 y5
   have htt:=ht C fp s2 H2
   generalize tt C fp s2 H2=tt' at htt q6
   cases htt with
   | nil =>
    refine Am (AF ?_)
    dsimp only[tTrue] at q6
    rw[Ac rfl] at q6
    refine wpAny_mono (Am (Am (thn (elem I6 q6) fun y s8 h8=>Am (thn h8 fun _ s9 h9=>AF (AF ⟨rfl,h9⟩))))) (fun _ _ z=>z) fun _ _ z=>False.elim z
   | one ht1 =>
    refine Am (wpAny_tests_one (wpAny_mono (ht1 _ s6 _ H6 _ I6 q6) (fun b s7 ⟨H7,I7,q7⟩ => ?_) noE))
    cases b with
    | false =>
     rw[Ah AG] at q7
     obtain⟨t8,fr8,hD8,d8⟩:=rest I7
     exact AF ⟨rfl,fin (I7.uL (pins':=[]) fun p hp=>nomatch hp) t8 fr8 hD8 d8 va hz q7⟩
    | true =>
     rw[Ac rfl] at q7
     refine wpAny_mono (Am (Am (thn (elem I7 q7) fun y s8 h8=>Am (thn h8 fun _ s9 h9=>AF (AF ⟨rfl,h9⟩))))) (fun _ _ z=>z) fun _ _ z=>False.elim z
 exact codeAny_compStart_list loop (T.self X.A 0 _ _ _ (T.keep 0 _ _ st2 fun b hb o e=>old b o e) loop)
theorem wR8{X:Cx}{elt iter:Expr}{ifs:List Expr}{sc0 scope:Scope}{N0:List Str}{px pos:Pos}{xt:Str}{fs:List Str}{js:List Nat}{wi:TI}{tt:Addr->List Addr->Shared->Hp->TT}{te:Addr->List Addr->Shared->Hp->TE}(S:CompScope sc0 scope N0 xt fs js)(h0:X.env.scope=sc0)(hN0:X.N=N0)(hc:X.calm=true)
  (hi:PI X (.Name xt px) iter wi) (ht:∀C fp s₂ H,PTs (cxComp X (xt::fs) scope C fp s₂ H) ifs (tt C fp s₂ H)) (he:∀C fp s₂ H,PE (cxComp X (xt::fs) scope C fp s₂ H) elt (te C fp s₂ H))
  (hs:autoParam (∀x,foldedSetIterable iter X.env x=pure x) DZ) :
  PE X (.ListComp elt [⟨.Name xt px,iter,ifs,0⟩] scope pos) (tComp wi tt te js):=by
 intro Ec s σ H Q I h
 rw[eval_ListComp]
 refine yZ9 S h0 hN0 hc hi ht he hs (use:=none) (Qv:=EP X Ec σ Q) I h fun s' C D Ha fl hI hns hC q => ?_
 obtain⟨m,hn⟩:=hns
 exact⟨m,hn,fun h' hsb=>⟨.ref D,Ha,hI h' hsb,rfl,q⟩⟩
theorem Same.new{H:Hp}{p:Addr}{o:HO}(h:H p=none):Same H (upd H p o):=fun b u e=>by rw[zG (xT e h)];exact e
def Small(i:Int):Prop:=∃k,k<=1000000/\i.natAbs<2 ^ k
theorem Small.bits{i:Int}(h:Small i):Builtin.Int.intBits i<=2 ^ 20:=by
 obtain⟨k,hk,hi⟩:=h
 unfold Builtin.Int.intBits
 by_cases h0:(i == 0)=true
 ·rw[Ac h0];exact Bk _
 ·rw[Ah h0]
  have hn:i.natAbs≠0:=by
   intro z
   have:i=0:=by rfl'
   rw[this] at h0
   exact h0 rfl
  have:=(Do hn).mpr hi
  have e:(2:Nat) ^ 20=1048576:=by decide
  rfl'
section
variable {X:Cx}
theorem xU6(hc:X.calm=true):CallR X (.builtin "sum") (fun xs H Q=>∃(p:Addr) (ns:List Int),xs=[.ref p]/\SqL X.K H p (ns.map V.int)/\Q (.int ns.sum) H):=by
 intro Ec s σ H xs us Q I r h
 obtain⟨p,ns,rfl,hq,q⟩:=h
 obtain⟨u,rfl,ru⟩:=vals1 r
 cases ru
 obtain⟨its,rv,pl,hz⟩:=I.list hq
 have hi:IntsAre its ns:=fF rv
 obtain⟨xs,e⟩:=hi.allInts.items
 refine sum_intListG (I.ok.hd hc) (by rw[<-e];exact pl.isList) fun h' tk t' hk=>⟨.int ns.sum,H,I.kept hk,⟨t',?_⟩,q⟩
 congr 1
 rw[preSum_eq,BH (by simp),<-nums_intItems,<-e]
 show (numsOf its).sum=ns.sum
 rw[hi.numsOf]
end
mutual
inductive DatV(K:KFr)(H:Hp):V->PyData->Prop
 | non:DatV K H .non .none
 | bl (b:Bool):DatV K H (.bl b) (.bool b)
 | int (i:Int):DatV K H (.int i) (.int i)
 | str (x:Str):DatV K H (.str x) (.str x)
 | lst {a:Addr}{xs:List V}{ds:List PyData}:SqL K H a xs->DatAll K H xs ds->DatV K H (.ref a) (.list ds)
 | tup {a:Addr}{xs:List V}{ds:List PyData}:SqT K H a xs->DatAll K H xs ds->DatV K H (.ref a) (.tuple ds)
inductive DatAll(K:KFr)(H:Hp):List V->List PyData->Prop
 | nil:DatAll K H [] []
 | cons {v:V}{d:PyData}{vs:List V}{ds:List PyData}:DatV K H v d->DatAll K H vs ds->DatAll K H (v::vs) (d::ds)
end
section
variable {X:Cx}{Ec:List (Addr×Obj)}{σ:St}{H:Hp}{s:Shared}
mutual
theorem Inv.reads(I:Inv X Ec σ H s):∀{v:V}{d:PyData}{u:Value},DatV X.K H v d->RelV v u->∃as,Reads s.heap u d as
 | _,_,_,.non,r=>by cases r;exact⟨_,.none⟩
 | _,_,_,.bl b,r=>by cases r;exact⟨_,.bool b⟩
 | _,_,_,.int i,r=>by obtain⟨t,rfl⟩:=r;exact⟨_,.int i t⟩
 | _,_,_,.str x,r=>by obtain⟨t,rfl⟩:=r;exact⟨_,.str x t⟩
 | _,_,_,.lst hq ha,r=>by
  cases r
  obtain⟨its,rv,⟨o,n,ho,hc,_,hd⟩,_⟩:=I.list hq
  obtain⟨as,z⟩:=Inv.readsAll I ha rv
  exact⟨_,.list ho hc hd (by simpa using z)⟩
 | _,_,_,.tup hq ha,r=>by
  cases r
  obtain⟨its,rv,⟨o,ho,hc,n,hd⟩,_⟩:=I.tuple hq
  obtain⟨as,z⟩:=Inv.readsAll I ha rv
  exact⟨_,.tuple ho hc hd (by simpa using z)⟩
theorem Inv.readsAll(I:Inv X Ec σ H s):∀{vs:List V}{ds:List PyData}{us:List Value},DatAll X.K H vs ds->Vals vs us->∃as,ReadsAll s.heap us ds as
 | _,_,_,.nil,r=>by cases r;exact⟨_,.nil⟩
 | _,_,_,.cons h t,r=>by
  cases r with
  | cons r1 r2 =>
   obtain⟨as,z⟩:=Inv.reads I h r1
   obtain⟨bs,z'⟩:=Inv.readsAll I t r2
   exact⟨_,.cons z z'⟩
end
end
section
variable {X:Cx}
def rEqD(K:KFr)(neg:Bool):R2:=fun x y H Q=>∃dx dy,DatV K H x dx/\DatV K H y dy/\SeqAt.shaped dx=true/\SeqAt.shaped dy=true/\Q (.bl (if neg then !PyData.eqv dx dy else PyData.eqv dx dy)) H
theorem yO(hu:X.A.units+64<cLine):OpR X (compareOp .Eq) (rEqD X.K false):=by
 intro Ec s σ H x y v u Q I rx ry h
 obtain⟨dx,dy,h1,h2,s1,s2,q⟩:=h
 obtain⟨as,z1⟩:=I.reads h1 rx
 obtain⟨bs,z2⟩:=I.reads h2 ry
 exact eq_dataH z1 z2 s1 s2 hu ⟨.bl _,H,I,rfl,q⟩
theorem cN(hu:X.A.units+64<cLine):OpR X (compareOp .NotEq) (rEqD X.K true):=by
 intro Ec s σ H x y v u Q I rx ry h
 obtain⟨dx,dy,h1,h2,s1,s2,q⟩:=h
 obtain⟨as,z1⟩:=I.reads h1 rx
 obtain⟨bs,z2⟩:=I.reads h2 ry
 exact ne_dataH z1 z2 s1 s2 hu ⟨.bl _,H,I,rfl,q⟩
end
theorem zO9(ns ms:List Int):PyData.eqvAll (ns.map PyData.int) (ms.map PyData.int)=decide (ns=ms):=PySem.W.ked_eqvAll ns ms
theorem zO8(ns:List Int):SeqAt.shaped (.list (ns.map PyData.int))=true:=PySem.W.ke_shaped_ints ns
theorem zS7(ns:List Int):SeqAt.shaped (.tuple (ns.map PyData.int))=true:=by
 simp[SeqAt.shaped,PyData.canLay0,PyData.depth,PySem.W.ke_canLayAll0,PySem.W.ke_depthAll]
theorem wS4(ns ms:List Int):PyData.eqv (.list (ns.map PyData.int)) (.list (ms.map PyData.int))=decide (ns=ms):=by rw[PyData.eqv];exact zO9 ns ms
theorem wT2(ns ms:List Int):PyData.eqv (.tuple (ns.map PyData.int)) (.tuple (ms.map PyData.int))=decide (ns=ms):=by rw[PyData.eqv];exact zO9 ns ms
theorem xL3(x:Value)(kw:List (Str×Value)):Builtin.«sorted» ⟨[x],kw⟩=collect x >>= fun xs=>newList xs >>= fun l=>holding [l] (call (.builtin "list.sort") [l] kw) >>= fun _=>ret l:=rfl
section
variable {X:Cx}
theorem zS6:CallR X (.builtin "sorted") (fun xs H Q=>∃(p:Addr) (ns:List Int),xs=[.ref p]/\(SqL X.K H p (ns.map V.int)\/SqT X.K H p (ns.map V.int))/\ns.length<64 /\
  ∀(l:Addr) (ms:List Int),H l=none->ms.Perm ns->ms.Pairwise (· <= ·)->Q (.ref l) (upd H l (.lst (ms.map V.int)))):=by
 intro Ec s σ H xs us Q I r h
 obtain⟨p,ns,rfl,hq,h64,q⟩:=h
 obtain⟨u,rfl,ru⟩:=vals1 r
 cases ru
 obtain⟨T,o,its,n,hT,ho,hc,hd,rv,hz⟩:∃T o its n,(T="list"\/T="tuple")/\s.heap.get? p=some o/\o.cls=.type T/\o.data=.seq its n/\Vals (ns.map V.int) its.toList/\(ns.map V.int).length<=sizeLine:=by
  rcases hq with hq | hq
  ·obtain⟨its,rv,⟨o,n,ho,hc,_,hd⟩,hz⟩:=I.list hq
   exact⟨"list",o,its.toArray,n,.inl rfl,ho,hc,hd,by simpa using rv,hz⟩
  ·obtain⟨its,rv,⟨o,ho,hc,n,hd⟩,hz⟩:=I.tuple hq
   exact⟨"tuple",o,its.toArray,n,.inr rfl,ho,hc,hd,by simpa using rv,hz⟩
 have hl:=rv.length
 have hI:IntsAre its.toList ns:=fF rv
 rw[Aa] at hl hz
 have fits:its.size<=sizeLine:=by have z:=its.length_toList;rfl'
 refine Calls.call_function_entry kind_sorted plain_sorted entry_sorted (args_sorted1 (.ref p)) ?_
 rw[xL3]
 refine Am (wpAny_collect_seq p hT ho hc hd (fun h' kp=>Am (wpAny_newList ?_)) fits)
 have hoL:(h'.push (seqObj "list" its.toList.toArray 0)).get? h'.objs.size=some (seqObj "list" its.toList.toArray 0):=AA _ rfl
 refine Am (wpAny_holding (wpAny_call_entry slot_list_sort ⟨_,hoL,rfl⟩ entry_list_sort (list_sort_tree hoL hI (by rfl') fun out ns' a1 a2 a3=>⟨_,rfl,?_⟩) (args_list_sort _)))
 refine AF ⟨_,rfl,?_⟩
 have I1:Inv X Ec σ H { s with heap:=h' }:=I.kept (t':=s.toks) kp
 have hfresh:H h'.objs.size=none:=I1.hok.fresh (Ab _)
 have ov:Vals (ns'.map V.int) out.toList:=zS2 a1
 have hlen:ns'.length=ns.length:=a2.length_eq
 refine⟨.ref h'.objs.size,_,I1.laid (t':=s.toks) (o:=.lst (ns'.map V.int)) (fun b ob e => ?_) (Ab _) ?_,rfl,q _ ns' hfresh a2 a3⟩
 ·have hb:=As e
  rw[sortedHeap_old (AL hb) (by rw[size_push'];exact Dv hb)]
  exact Ai _ e
 ·obtain⟨e,he⟩:∃e,(sortedHeap (h'.push (seqObj "list" its.toList.toArray 0)) h'.objs.size its.toList out).get? h'.objs.size=some (seqObj "list" out e):=by
   exact sortedHeap_at hoL
  exact⟨by rw[Aa];rfl',out.toList,e,ov,by simpa using he⟩
theorem xD2{bs:List Bool}{its:List Value}(r:Vals (bs.map V.bl) its){i:Nat}{v:Value}(h:its.toArray[i]?=some v):v=.bool (bs.getD i false):=by
 have h2:its[i]?=some v:=by simpa using h
 have hi:i<its.length:=(Au.mp h2).1
 have hl:=r.length
 rw[Aa] at hl
 have e:(bs.map V.bl)[i]?=some (V.bl (bs.getD i false)):=by
  rw[Al,Ae (by rfl'),Ak,Ae (by rfl')]
  rfl
 obtain⟨u,hu,ru⟩:=r.get e
 rw[h2] at hu
 cases hu
 exact ru
theorem xW7(bs:List Bool):(List.range bs.length).map (fun i=>bs.getD i false)=bs:=by
 refine DE (by simp) fun i h1 h2 => ?_
 simp[List.getD,h2]
theorem xN7(bs:List Bool):(List.range bs.length).all (fun i=>bs.getD i false)=bs.all id:=by
 have z:=Bc (fun l=>List.all l id) (xW7 bs)
 simpa [List.all_map,CU] using z
theorem yV9(hc:X.calm=true):CallR X (.builtin "all") (fun xs H Q=>∃(p:Addr) (bs:List Bool),xs=[.ref p]/\SqL X.K H p (bs.map V.bl)/\Q (.bl (bs.all id)) H):=by
 intro Ec s σ H xs us Q I r h
 obtain⟨p,bs,rfl,hq,q⟩:=h
 obtain⟨u,rfl,ru⟩:=vals1 r
 cases ru
 obtain⟨its,rv,pl,hz⟩:=I.list hq
 have hl:=rv.length
 rw[Aa] at hl
 refine call_all_walk (xP8 (A:=X.A.in1) (I.ok.hd hc) pl.isList fun J hp St W st _ _ keep=>⟨_,_,_,_,_,_,fun i=>bs.getD i false,rfl,W,st,?_,fun h' tk hk => ?_⟩)
 ·intro i v s' Q' E' hP hQ
  rw[xD2 rv hP]
  exact wpAny_truthy_bool hQ
 ·rw[Ao,<-hl,xN7]
  exact⟨.bl _,H,I.kept fun b o e=>hk b o (by simpa using (keep b o e).1) (keep b o e).2,rfl,q⟩
end
end L2
namespace L2.L3
open PySem PySem.Spec PyProof.Rows
abbrev D:=PyData
inductive Res(α:Type) where
 | ok (a:α)
 | ex (c:Str)
 | no
namespace Res
def bind{α β:Type}:Res α->(α->Res β)->Res β
 | .ok a,f=>f a
 | .ex c,_=>.ex c
 | .no,_=>.no
def post{α:Type}:Res α->(α->Prop)->(Str->Prop)->Prop
 | .ok a,Q,_=>Q a
 | .ex c,_,E=>E c
 | .no,_,_=>False
theorem zT{α β:Type}{r:Res α}{f:α->Res β}{Q:β->Prop}{E:Str->Prop}(h:(r.bind f).post Q E):r.post (fun a=>(f a).post Q E) E:=by
 cases r <;> exact h
theorem zQ{α:Type}{r:Res α}{Q Q':α->Prop}{E E':Str->Prop}(h:r.post Q E)(hQ:∀a,r=.ok a->Q a->Q' a)(hE:∀c,E c->E' c):r.post Q' E':=by
 cases r with
 | ok a=>exact hQ a rfl h
 | ex c=>exact hE c h
 | no=>exact h
def lft{α:Type}:Option α->Res α
 | some a=>.ok a
 | none=>.no
theorem zF{α:Type}{o:Option α}{Q:α->Prop}{E:Str->Prop}(h:(lft o).post Q E):∃a,o=some a/\Q a:=by
 cases o with
 | none=>exact h.elim
 | some a=>exact⟨a,rfl,h⟩
@[simp] theorem bind_ok {α β:Type}(a:α) (f:α->Res β):(Res.ok a).bind f=f a:=rfl
@[simp] theorem bind_no {α β:Type}(f:α->Res β):(Res.no:Res α).bind f=.no:=rfl
@[simp] theorem bind_ex {α β:Type}(c:Str) (f:α->Res β):(Res.ex c:Res α).bind f=.ex c:=rfl
@[simp] theorem lft_some {α:Type}(a:α):lft (some a)=.ok a:=rfl
@[simp] theorem lft_none {α:Type}:lft (none:Option α)=.no:=rfl
end Res
class CN where
 ad:Str->Addr
instance (priority:=low) cn0:CN:=⟨fun _=>0⟩
variable [CN]
def excP(a:Addr)(c:Str):Heap->Prop:=fun h=>∃o,h.get? a=some o/\o.cls=.ref (CN.ad c)
mutual
inductive Rep(H:Hp)(O:Addr->Prop):V->D->Prop
 | non:Rep H O .non .none
 | bl (b:Bool):Rep H O (.bl b) (.bool b)
 | int (i:Int):Rep H O (.int i) (.int i)
 | str (x:Str):Rep H O (.str x) (.str x)
 | lst {a:Addr}{xs:List V}{ds:List D}:Rd H a (.lst xs)->¬O a->Reps H O xs ds->Rep H O (.ref a) (.list ds)
 | tup {a:Addr}{xs:List V}{ds:List D}:Rd H a (.tup xs)->¬O a->Reps H O xs ds->Rep H O (.ref a) (.tuple ds)
 | exc {a:Addr}{c:Str}:H a=some (.ext (excP a c))->¬O a->Rep H O (.ref a) (.dict [(.list [],.str c)])
inductive Reps(H:Hp)(O:Addr->Prop):List V->List D->Prop
 | nil:Reps H O [] []
 | cons {v:V}{d:D}{vs:List V}{ds:List D}:Rep H O v d->Reps H O vs ds->Reps H O (v::vs) (d::ds)
end
theorem yE7{H:Hp}{a:Addr}{u:HO}(h:Rd H a u):H a≠none:=by
 rcases h with h | ⟨o,h⟩ <;> (rw[h];exact fun z=>nomatch z)
theorem wC{H H':Hp}{a:Addr}{u:HO}(h:Rd H a u)(k:∀o,H a=some o->H' a=some o):Rd H' a u:=by
 rcases h with h | ⟨o,h⟩
 ·exact .inl (k _ h)
 ·exact .inr ⟨o,k _ h⟩
section
variable {H H':Hp}{O O':Addr->Prop}
mutual
theorem Rep.keep(k:∀b o,H b=some o->¬O b->H' b=some o)(s:∀b,H b≠none->O' b->O b):∀{v:V}{d:D},Rep H O v d->Rep H' O' v d
 | _,_,.non=>.non
 | _,_,.bl b=>.bl b
 | _,_,.int i=>.int i
 | _,_,.str x=>.str x
 | _,_,.lst r n t=>.lst (wC r fun o e=>k _ o e n) (fun z=>n (s _ (yE7 r) z)) (Reps.keep k s t)
 | _,_,.tup r n t=>.tup (wC r fun o e=>k _ o e n) (fun z=>n (s _ (yE7 r) z)) (Reps.keep k s t)
 | _,_,.exc r n=>.exc (k _ _ r n) (fun z=>n (s _ (by rw[r];exact fun z=>nomatch z) z))
theorem Reps.keep(k:∀b o,H b=some o->¬O b->H' b=some o)(s:∀b,H b≠none->O' b->O b):∀{vs:List V}{ds:List D},Reps H O vs ds->Reps H' O' vs ds
 | _,_,.nil=>.nil
 | _,_,.cons h t=>.cons (Rep.keep k s h) (Reps.keep k s t)
end
mutual
theorem Rep.dat{K:KFr}:∀{v:V}{d:D},Rep H O v d->PyData.canLay0 d=true->DatV K H v d
 | _,_,.non,_=>.non
 | _,_,.bl b,_=>.bl b
 | _,_,.int i,_=>.int i
 | _,_,.str x,_=>.str x
 | _,_,.lst r n t,c=>.lst (.inl r) (Reps.dat t c)
 | _,_,.tup r n t,c=>.tup (.inl r) (Reps.dat t c)
 | _,_,.exc r n,c=>by cases c
theorem Reps.dat{K:KFr}:∀{vs:List V}{ds:List D},Reps H O vs ds->PyData.canLayAll0 ds=true->DatAll K H vs ds
 | _,_,.nil,_=>.nil
 | _,_,.cons h t,c=>.cons (Rep.dat h (CW.mp c).1) (Reps.dat t (CW.mp c).2)
end
theorem Rep.same{v:V}{d:D}(h:Rep H O v d)(s:Same H H'):Rep H' O v d:=h.keep (fun b o e _=>s b o e) fun _ _ z=>z
theorem Reps.same{v:List V}{d:List D}(h:Reps H O v d)(s:Same H H'):Reps H' O v d:=h.keep (fun b o e _=>s b o e) fun _ _ z=>z
theorem Rep.less{v:V}{d:D}(h:Rep H O v d)(s:∀b,O' b->O b):Rep H O' v d:=h.keep (fun b o e _=>e) fun b _ z=>s b z
theorem Reps.less{v:List V}{d:List D}(h:Reps H O v d)(s:∀b,O' b->O b):Reps H O' v d:=h.keep (fun b o e _=>e) fun b _ z=>s b z
theorem Reps.length:∀{vs:List V}{ds:List D},Reps H O vs ds->vs.length=ds.length
 | _,_,.nil=>rfl
 | _,_,.cons _ t=>Bc (·+1) (Reps.length t)
theorem Reps.get:∀{vs:List V}{ds:List D}{i:Nat}{d:D},Reps H O vs ds->ds[i]?=some d->∃v,vs[i]?=some v/\Rep H O v d
 | _,_,_,_,.nil,e=>by simp at e
 | _,_,0,_,.cons r _,e=>by simp at e;subst e;exact⟨_,rfl,r⟩
 | _,_,i+1,d,.cons _ t,e=>by
  obtain⟨u,h1,h2⟩:=Reps.get (i:=i) (d:=d) t (by simpa using e)
  exact⟨u,by simpa using h1,h2⟩
theorem Reps.of:∀{vs:List V}{ds:List D}{i:Nat}{v:V},Reps H O vs ds->vs[i]?=some v->∃d,ds[i]?=some d/\Rep H O v d
 | _,_,_,_,.nil,e=>by simp at e
 | _,_,0,_,.cons r _,e=>by simp at e;subst e;exact⟨_,rfl,r⟩
 | _,_,i+1,v,.cons _ t,e=>by
  obtain⟨u,h1,h2⟩:=Reps.of (i:=i) (v:=v) t (by simpa using e)
  exact⟨u,by simpa using h1,h2⟩
theorem Reps.append:∀{vs ws:List V}{ds es:List D},Reps H O vs ds->Reps H O ws es->Reps H O (vs++ws) (ds++es)
 | _,_,_,_,.nil,s=>s
 | _,_,_,_,.cons r t,s=>.cons r (Reps.append t s)
theorem Reps.one{v:V}{d:D}(h:Rep H O v d):Reps H O [v] [d]:=.cons h .nil
theorem Reps.set{x:V}{u:D}(r:Rep H O x u):∀{vs:List V}{ds:List D}(i:Nat),Reps H O vs ds->Reps H O (vs.set i x) (ds.set i u)
 | _,_,_,.nil=>.nil
 | _,_,0,.cons _ t=>.cons r t
 | _,_,i+1,.cons q t=>.cons q (Reps.set r i t)
theorem Reps.take:∀{vs:List V}{ds:List D}(n:Nat),Reps H O vs ds->Reps H O (vs.take n) (ds.take n)
 | _,_,0,_=>.nil
 | _,_,_+1,.nil=>.nil
 | _,_,n+1,.cons r t=>.cons r (Reps.take n t)
theorem Reps.drop:∀{vs:List V}{ds:List D}(n:Nat),Reps H O vs ds->Reps H O (vs.drop n) (ds.drop n)
 | _,_,0,r=>r
 | _,_,_+1,.nil=>.nil
 | _,_,n+1,.cons _ t=>Reps.drop n t
theorem Reps.erase:∀{vs:List V}{ds:List D}(i:Nat),Reps H O vs ds->Reps H O (vs.eraseIdx i) (ds.eraseIdx i)
 | _,_,_,.nil=>.nil
 | _,_,0,.cons _ t=>t
 | _,_,i+1,.cons r t=>.cons r (Reps.erase i t)
theorem Reps.rep{vs:List V}{ds:List D}(h:Reps H O vs ds):∀k:Nat,Reps H O (List.replicate k vs).flatten (List.replicate k ds).flatten
 | 0=>.nil
 | k+1=>by
  rw[Bl,Bl,Bx,Bx]
  exact h.append (Reps.rep h k)
theorem Reps.insert{x:V}{u:D}(r:Rep H O x u){vs:List V}{ds:List D}(i:Nat)(h:Reps H O vs ds):Reps H O (vs.take i++x::vs.drop i) (ds.take i++u::ds.drop i) :=
 (h.take i).append (.cons r (h.drop i))
theorem cB:∀(ns:List Int),Reps H O (ns.map V.int) (ns.map PyData.int)
 | []=>.nil
 | n::ns=>.cons (.int n) (cB ns)
theorem Reps.ints:∀{ns:List Int}{vs:List V},Reps H O vs (ns.map PyData.int)->vs=ns.map V.int
 | [],_,h=>by cases h;rfl
 | n::ns,_,h=>by
  cases h with
  | cons r t=>cases r;rw[Reps.ints t];rfl
theorem Reps.bools:∀{ns:List Bool}{vs:List V},Reps H O vs (ns.map PyData.bool)->vs=ns.map V.bl
 | [],_,h=>by cases h;rfl
 | n::ns,_,h=>by
  cases h with
  | cons r t=>cases r;rw[Reps.bools t];rfl
end
abbrev Ev:=List (Option D)
structure Wd where
 o:Addr->Prop
 la:Nat->Addr
instance:CoeFun Wd (fun _=>Addr->Prop):=⟨Wd.o⟩
abbrev Uni(Oc:Wd)(Ob:Addr->Prop):Addr->Prop:=fun b=>Oc b\/Ob b
def OwnAt(H:Hp)(Oc:Wd)(Ob:Addr->Prop)(v:V)(d:D):Prop:=∃a ys ds,v=.ref a/\d=.list ds/\H a=some (.lst ys)/\Ob a/\Reps H (Uni Oc Ob) ys ds
def LentAt(i:Nat)(H:Hp)(Oc:Wd)(Ob:Addr->Prop)(v:V)(d:D):Prop:=∃ys ds,v=.ref (Oc.la i)/\d=.list ds/\H (Oc.la i)=some (.lst ys)/\Oc (Oc.la i)/\Reps H (Uni Oc Ob) ys ds
structure Rel(Oc:Wd)(Ob:Addr->Prop)(om ln:List Nat)(σ:St)(H:Hp)(ρ:Ev):Prop where
 len:σ.length=ρ.length
 val:∀i d,ρ[i]?=some (some d)->i∉om->i∉ln->∃v,σ[i]?=some (some v)/\Rep H (Uni Oc Ob) v d
 own:∀i d,ρ[i]?=some (some d)->i∈om->∃v,σ[i]?=some (some v)/\OwnAt H Oc Ob v d
 lnt:∀i d,ρ[i]?=some (some d)->i∉om->i∈ln->∃v,σ[i]?=some (some v)/\LentAt i H Oc Ob v d
 inj:∀i j di dj a,ρ[i]?=some (some di)->ρ[j]?=some (some dj)->i∈om->j∈om->σ[i]?=some (some (.ref a))->σ[j]?=some (some (.ref a))->i=j
 oh:∀a,Oc a\/Ob a->H a≠none
 ap:∀a,Ob a->¬Oc a
section
variable {Oc:Wd}{Ob:Addr->Prop}{om ln:List Nat}{σ:St}{H H':Hp}{ρ:Ev}
theorem Same.ne{b:Addr}(s:Same H H')(h:H b≠none):H' b≠none:=by
 cases e:H b with
 | none=>exact absurd e h
 | some o=>rw[s b o e];exact fun z=>nomatch z
theorem Rel.same(R:Rel Oc Ob om ln σ H ρ)(s:Same H H'):Rel Oc Ob om ln σ H' ρ where
 len:=R.len
 val:=fun i d e h1 h2=>let ⟨v,a,b⟩:=R.val i d e h1 h2; ⟨v,a,b.same s⟩
 own:=fun i d e h1=>let ⟨v,q,a,ys,ds,e1,e2,e3,e4,e5⟩:=R.own i d e h1; ⟨v,q,a,ys,ds,e1,e2,s _ _ e3,e4,e5.same s⟩
 lnt:=fun i d e h1 h2=>let ⟨v,q,ys,ds,e1,e2,e3,e4,e5⟩:=R.lnt i d e h1 h2; ⟨v,q,ys,ds,e1,e2,s _ _ e3,e4,e5.same s⟩
 inj:=R.inj
 oh:=fun a h=>Same.ne s (R.oh a h)
 ap:=R.ap
end
inductive Md where
 | cl
 | rd
 | any
 | new
def VA(Oc:Wd)(Ob:Addr->Prop)(H:Hp)(v:V)(d:D):Prop :=
 Rep H (Uni Oc Ob) v d\/∃a ys ds,v=.ref a/\d=.list ds/\H a=some (.lst ys)/\Reps H (Uni Oc Ob) ys ds
def VR:Md->Wd->(Addr->Prop)->Hp->Hp->V->D->Prop
 | .cl,Oc,Ob,_,H',v,d=>Rep H' (Uni Oc Ob) v d
 | .rd,Oc,Ob,_,H',v,d=>Rep H' (Uni Oc Ob) v d\/∃a ys ds,v=.ref a/\d=.list ds/\H' a=some (.lst ys)/\¬Ob a/\Reps H' (Uni Oc Ob) ys ds
 | .any,Oc,Ob,_,H',v,d=>VA Oc Ob H' v d
 | .new,Oc,Ob,H,H',v,d=>∃a ys ds,v=.ref a/\d=.list ds/\H a=none/\H' a=some (.lst ys)/\Reps H' (fun b=>Uni Oc Ob b\/b=a) ys ds
section
variable {Oc:Wd}{Ob:Addr->Prop}{H H1 H2:Hp}{v:V}{d:D}{md:Md}
theorem VR.same(h:VR md Oc Ob H H1 v d)(s:Same H1 H2):VR md Oc Ob H H2 v d:=by
 cases md with
 | cl=>exact Rep.same h s
 | rd =>
  rcases h with h | ⟨a,ys,ds,e1,e2,e3,e4,e5⟩
  ·exact .inl (Rep.same h s)
  ·exact .inr ⟨a,ys,ds,e1,e2,s _ _ e3,e4,e5.same s⟩
 | any =>
  rcases h with h | ⟨a,ys,ds,e1,e2,e3,e5⟩
  ·exact .inl (Rep.same h s)
  ·exact .inr ⟨a,ys,ds,e1,e2,s _ _ e3,e5.same s⟩
 | new =>
  obtain⟨a,ys,ds,e1,e2,e3,e4,e5⟩:=h
  exact⟨a,ys,ds,e1,e2,e3,s _ _ e4,e5.same s⟩
theorem VR.from(h:VR md Oc Ob H1 H2 v d)(s:Same H H1):VR md Oc Ob H H2 v d:=by
 cases md with
 | new =>
  obtain⟨a,ys,ds,e1,e2,e3,e4,e5⟩:=h
  exact⟨a,ys,ds,e1,e2,s.free e3,e4,e5⟩
 | _=>exact h
theorem VR.clean(h:VR .new Oc Ob H H1 v d)(oh:∀a,Oc a\/Ob a->H a≠none):VR .cl Oc Ob H H1 v d:=by
 obtain⟨a,ys,ds,rfl,rfl,e3,e4,e5⟩:=h
 exact .lst (.inl e4) (fun z=>oh a z e3) (e5.less fun b z=>.inl z)
theorem VR.va(h:VR md Oc Ob H H1 v d)(oh:∀a,Oc a\/Ob a->H a≠none):VA Oc Ob H1 v d:=by
 cases md with
 | cl=>exact .inl h
 | rd =>
  rcases h with h | ⟨a,ys,ds,e1,e2,e3,e4,e5⟩
  ·exact .inl h
  ·exact .inr ⟨a,ys,ds,e1,e2,e3,e5⟩
 | any=>exact h
 | new=>exact .inl (VR.clean h oh)
theorem VA.dat{K:KFr}(h:VA Oc Ob H v d)(c:PyData.canLay0 d=true):DatV K H v d:=by
 rcases h with h | ⟨a,ys,ds,rfl,rfl,e3,e5⟩
 ·exact h.dat c
 ·exact .lst (SqL.of e3) (e5.dat c)
theorem VA.datS{K:KFr}(h:VA Oc Ob H v d)(c:SeqAt.shaped d=true):DatV K H v d:=h.dat (SeqAt.canLay_of_shaped c)
theorem VA.list{ds:List D}(h:VA Oc Ob H v (.list ds)):∃a ys,v=.ref a/\Rd H a (.lst ys)/\Reps H (Uni Oc Ob) ys ds:=by
 rcases h with h | ⟨a,ys,ds,rfl,e,e3,e5⟩
 ·cases h with
  | lst r n t=>exact⟨_,_,rfl,r,t⟩
 ·cases e
  exact⟨a,ys,rfl,.inl e3,e5⟩
theorem VA.tuple{ds:List D}(h:VA Oc Ob H v (.tuple ds)):∃a ys,v=.ref a/\Rd H a (.tup ys)/\Reps H (Uni Oc Ob) ys ds:=by
 rcases h with h | ⟨a,ys,ds,rfl,e,e3,e5⟩
 ·cases h with
  | tup r n t=>exact⟨_,_,rfl,r,t⟩
 ·cases e
theorem VA.int{i:Int}(h:VA Oc Ob H v (.int i)):v=.int i:=by
 rcases h with h | ⟨a,ys,ds,rfl,e,e3,e5⟩
 ·cases h;rfl
 ·cases e
theorem VA.bool{i:Bool}(h:VA Oc Ob H v (.bool i)):v=.bl i:=by
 rcases h with h | ⟨a,ys,ds,rfl,e,e3,e5⟩
 ·cases h;rfl
 ·cases e
theorem VA.str{x:Str}(h:VA Oc Ob H v (.str x)):v=.str x:=by
 rcases h with h | ⟨a,ys,ds,rfl,e,e3,e5⟩
 ·cases h;rfl
 ·cases e
theorem VA.rep(h:VA Oc Ob H v d):Rep H (fun _=>False) v d:=by
 rcases h with h | ⟨a,ys,ds,rfl,rfl,e3,e5⟩
 ·exact h.less fun _ z=>z.elim
 ·exact .lst (.inl e3) (fun z=>z) (e5.less fun _ z=>z.elim)
end
structure Ct where
 X:Cx
 XE:Str->Hp->Prop
 om:List Nat
 ln:List Nat
def RE(C:Ct)(md:Md)(e:Expr)(m:Ev->Res D):Prop :=
 ∃t,PE C.X e t/\∀(Oc:Wd) (Ob:Addr->Prop) (σ:St) (H:Hp) (ρ:Ev) (Q:VK),Rel Oc Ob C.om C.ln σ H ρ ->
  (m ρ).post (fun d=>∀v H',Same H H'->VR md Oc Ob H H' v d->Q v H') (fun c=>∀H',Same H H'->C.XE c H')->t σ H Q
def RT(C:Ct)(e:Expr)(m:Ev->Res Bool):Prop :=
 ∃t,PT C.X e t/\∀(Oc:Wd) (Ob:Addr->Prop) (σ:St) (H:Hp) (ρ:Ev) (Q:Bool->Hp->Prop),Rel Oc Ob C.om C.ln σ H ρ ->
  (m ρ).post (fun b=>∀H',Same H H'->Q b H') (fun c=>∀H',Same H H'->C.XE c H')->t σ H Q
def RW(C:Ct)(e:Expr)(m:Ev->Res Bool):Prop :=
 ∃t,PW C.X e t/\∀(Oc:Wd) (Ob:Addr->Prop) (σ:St) (H:Hp) (ρ:Ev) (Q:Bool->Hp->Prop),Rel Oc Ob C.om C.ln σ H ρ ->
  (m ρ).post (fun b=>∀H',Same H H'->Q b H') (fun c=>∀H',Same H H'->C.XE c H')->t σ H Q
inductive Out where
 | nx (ρ:Ev)
 | rt (d:D)
def Frm(Ob:Addr->Prop)(H H':Hp):Prop:=∀b o,H b=some o->¬Ob b->H' b=some o
theorem Same.frm{Ob:Addr->Prop}{H H':Hp}(s:Same H H'):Frm Ob H H':=fun b o e _=>s b o e
def RetOk:Bool->Wd->(Addr->Prop)->Hp->Hp->V->D->Prop
 | true,Oc,Ob,H,H',v,d=>∃a ys ds,v=.ref a/\d=.list ds/\(H a=none\/Ob a)/\¬Oc a/\H' a=some (.lst ys)/\Reps H' (fun b=>Oc b\/b=a) ys ds
 | false,Oc,_,_,H',v,d=>Rep H' Oc.o v d
def SPost(C:Ct)(fr:Bool)(Oc:Wd)(Ob:Addr->Prop)(H:Hp)(E:Ends)(r:Res Out):Prop :=
 r.post (fun o=>match o with
  | .nx ρ'=>∀σ' H' Ob',Rel Oc Ob' C.om C.ln σ' H' ρ'->Frm Ob H H'->(∀b,Ob' b->Ob b\/H b=none)->E.nx σ' H'
  | .rt d=>∀v H',Frm Ob H H'->RetOk fr Oc Ob H H' v d->E.rt v H') (fun c=>∀H',Frm Ob H H'->C.XE c H')
def RS(C:Ct)(fr:Bool)(st:Stmt)(m:Ev->Res Out):Prop :=
 ∃t,PS C.X st t/\∀(Oc:Wd) (Ob:Addr->Prop) (σ:St) (H:Hp) (ρ:Ev) (E:Ends),Rel Oc Ob C.om C.ln σ H ρ->SPost C fr Oc Ob H E (m ρ)->t E σ H
def RSs(C:Ct)(fr:Bool)(st:List Stmt)(m:Ev->Res Out):Prop :=
 ∃t,PSs C.X st t/\∀(Oc:Wd) (Ob:Addr->Prop) (σ:St) (H:Hp) (ρ:Ev) (E:Ends),Rel Oc Ob C.om C.ln σ H ρ->SPost C fr Oc Ob H E (m ρ)->t E σ H
section
variable {C:Ct}{fr:Bool}{Oc:Wd}{Ob Ob1 Ob2:Addr->Prop}{H H1 H2:Hp}{E:Ends}{r:Res Out}
theorem Frm.trans(f:Frm Ob H H1)(s:∀b,Ob1 b->Ob b\/H b=none)(g:Frm Ob1 H1 H2):Frm Ob H H2:=fun b o e n =>
 g b o (f b o e n) fun z=>(s b z).elim n fun q=>by rw[e] at q;cases q
theorem Frm.none(f:Frm Ob H H1){b:Addr}(h:H1 b=none):Ob b\/H b=none:=by
 by_cases n:Ob b
 ·exact .inl n
 ·cases e:H b with
  | none=>exact .inr rfl
  | some o=>rw[f b o e n] at h;cases h
theorem SPost.step(f:Frm Ob H H1)(s:∀b,Ob1 b->Ob b\/H b=none)(h:SPost C fr Oc Ob H E r):SPost C fr Oc Ob1 H1 E r:=by
 refine Res.zQ h (fun o _ q => ?_) fun c q H' g=>q H' (f.trans s g)
 cases o with
 | nx ρ'=>exact fun σ' H' Ob' R g s'=>q σ' H' Ob' R (f.trans s g) fun b z=>(s' b z).elim (s b) fun z=>f.none z
 | rt d =>
  refine fun v H' g k=>q v H' (f.trans s g) ?_
  cases fr with
  | false=>exact k
  | true =>
   obtain⟨a,ys,ds,e1,e2,e3,e4,e5,e6⟩:=k
   refine⟨a,ys,ds,e1,e2,?_,e4,e5,e6⟩
   rcases e3 with e3 | e3
   ·exact (f.none e3).symm
   ·exact (s a e3).symm
theorem SPost.same(f:Same H H1)(h:SPost C fr Oc Ob H E r):SPost C fr Oc Ob H1 E r:=h.step (Same.frm f) fun b z=>.inl z
end
end L2.L3
namespace L2.L3
open PySem PySem.Spec PyProof.Rows
variable [CN]
section
variable {C:Ct}{a b c e:Expr}{es:List Expr}{pos:Pos}{md mda mdb mdc:Md}{ma mb mc:Ev->Res D}
theorem RE.cl(h:RE C .new e ma):RE C .cl e ma:=by
 obtain⟨t,p,q⟩:=h
 exact⟨t,p,fun Oc Ob σ H ρ Q R h=>q Oc Ob σ H ρ Q R (Res.zQ h (fun d _ k v H' s r=>k v H' s (VR.clean r R.oh)) fun _ z=>z)⟩
theorem RE.rd(h:RE C .cl e ma):RE C .rd e ma:=by
 obtain⟨t,p,q⟩:=h
 exact⟨t,p,fun Oc Ob σ H ρ Q R h=>q Oc Ob σ H ρ Q R (Res.zQ h (fun d _ k v H' s r=>k v H' s (.inl r)) fun _ z=>z)⟩
def eC(d:D):Ev->Res D:=fun _=>.ok d
theorem zR{i j}:RE C .cl (.Constant (.int i) j pos) (eC (.int i)):=⟨_,fY,fun Oc Ob σ H ρ Q R h=>h _ H (Same.refl H) (Rep.int i)⟩
theorem yQ5{i j}:RE C .cl (.Constant (.bool i) j pos) (eC (.bool i)):=⟨_,yS3,fun Oc Ob σ H ρ Q R h=>h _ H (Same.refl H) (Rep.bl i)⟩
theorem zB{i j}:RE C .cl (.Constant (.str i) j pos) (eC (.str i)):=⟨_,xR3,fun Oc Ob σ H ρ Q R h=>h _ H (Same.refl H) (Rep.str i)⟩
def eV(i:Nat):Ev->Res D:=fun ρ=>match ρ[i]? with
 | some (some d)=>.ok d
 | _=>.no
theorem uO{i:Nat}{ρ:Ev}{Q:D->Prop}{E:Str->Prop}(h:(eV i ρ).post Q E):∃d,ρ[i]?=some (some d)/\Q d:=by
 unfold eV at h
 split at h
 ·exact⟨_,by assumption,h⟩
 ·exact h.elim
theorem xS{i:Nat}{l:List Nat}(h:l.contains i=false):i∉l:=by
 intro z
 rw[Bj.mpr z] at h
 cases h
theorem wJ{i:Nat}{l:List Nat}(h:l.contains i=true):i∈l:=Bj.mp h
theorem zZ(i:Nat){x:Str}(hN:autoParam (C.X.N[i]?=some x) Eb)(ho:autoParam (C.om.contains i=false) Eb)(hl:autoParam (C.ln.contains i=false) Eb)(hv:autoParam (Vis C.X.env.scope x) DY)(hd:autoParam ((x == ("__debug__":Str))=false) Ea)
  (hcd:autoParam ((x == ("__classdict__":Str))=false) Ea):RE C .cl (.Name x pos) (eV i):=by
 refine⟨_,jY hN hv hd hcd,fun Oc Ob σ H ρ Q R h => ?_⟩
 obtain⟨d,e,k⟩:=uO h
 obtain⟨v,q,r⟩:=R.val i d e (xS ho) (xS hl)
 exact⟨v,q,k v H (Same.refl H) r⟩
theorem wK(i:Nat){x:Str}(hN:autoParam (C.X.N[i]?=some x) Eb)(ho:autoParam (C.om.contains i=true) Eb)(hv:autoParam (Vis C.X.env.scope x) DY)(hd:autoParam ((x == ("__debug__":Str))=false) Ea)
  (hcd:autoParam ((x == ("__classdict__":Str))=false) Ea):RE C .any (.Name x pos) (eV i):=by
 refine⟨_,jY hN hv hd hcd,fun Oc Ob σ H ρ Q R h => ?_⟩
 obtain⟨d,e,k⟩:=uO h
 obtain⟨v,q,a,ys,ds,e1,e2,e3,e4,e5⟩:=R.own i d e (wJ ho)
 exact⟨v,q,k v H (Same.refl H) (.inr ⟨a,ys,ds,e1,e2,e3,e5⟩)⟩
theorem cT{x:Str}{i:Int}{u:Value}(hm:C.X.mg x=some u)(r:RelV (.int i) u)(hg:autoParam (Gl C.X x) Eb)(hd:autoParam ((x == ("__debug__":Str))=false) Ea):RE C .cl (.Name x pos) (eC (.int i)) :=
 ⟨_,wT6 hg hm r hd,fun Oc Ob σ H ρ Q R h=>h _ H (Same.refl H) (Rep.int i)⟩
def e2(f:D->D->Option D)(m n:Ev->Res D):Ev->Res D:=fun ρ=>(m ρ).bind fun x=>(n ρ).bind fun y=>Res.lft (f x y)
def Pr2(r:R2)(md:Md)(f:D->D->Option D):Prop :=
 ∀(Oc:Wd) (Ob:Addr->Prop) (H:Hp) (x y:V) (dx dy d:D) (Q:VK),(∀a,Oc a\/Ob a->H a≠none)->VA Oc Ob H x dx->VA Oc Ob H y dy->f dx dy=some d->(∀v H',Same H H'->VR md Oc Ob H H' v d->Q v H')->r x y H Q
theorem two{ta tb:TE}{f:D->D->Option D}{r:R2}(ha:∀(Oc:Wd) (Ob:Addr->Prop) (σ:St) (H:Hp) (ρ:Ev) (Q:VK),Rel Oc Ob C.om C.ln σ H ρ->(ma ρ).post (fun d=>∀v H',Same H H'->VR mda Oc Ob H H' v d->Q v H') (fun c=>∀H',Same H H'->C.XE c H')->ta σ H Q)
  (hb:∀(Oc:Wd) (Ob:Addr->Prop) (σ:St) (H:Hp) (ρ:Ev) (Q:VK),Rel Oc Ob C.om C.ln σ H ρ->(mb ρ).post (fun d=>∀v H',Same H H'->VR mdb Oc Ob H H' v d->Q v H') (fun c=>∀H',Same H H'->C.XE c H')->tb σ H Q) (hp:Pr2 r md f)
  {Oc:Wd}{Ob:Addr->Prop}{σ:St}{H:Hp}{ρ:Ev}{Q:VK}(R:Rel Oc Ob C.om C.ln σ H ρ) (h:(e2 f ma mb ρ).post (fun d=>∀v H',Same H H'->VR md Oc Ob H H' v d->Q v H') (fun c=>∀H',Same H H'->C.XE c H')) :
  ta σ H fun x H1=>tb σ H1 fun y H2=>r x y H2 Q:=by
 refine ha Oc Ob σ H ρ _ R (Res.zQ (Res.zT h) (fun dx _ q x H1 s1 vx => ?_) fun _ z=>z)
 refine hb Oc Ob σ H1 ρ _ (R.same s1) (Res.zQ (Res.zT q) (fun dy _ q y H2 s2 vy => ?_) fun c z H' s'=>z H' (s1.trans s'))
 obtain⟨d,e,q⟩:=Res.zF q
 have oh2:=((R.same s1).same s2).oh
 refine hp Oc Ob H2 x y dx dy d Q oh2 ((vx.same s2).va R.oh) (vy.va (R.same s1).oh) e fun v H' s3 r => ?_
 exact q v H' ((s1.trans s2).trans s3) (r.from (s1.trans s2))
theorem zM{op:Operator}{r:R2}{f:D->D->Option D}(ho:OpR C.X (binaryOp op) r)(hp:Pr2 r md f)(ha:RE C mda a ma)(hb:RE C mdb b mb):RE C md (.BinOp a op b pos) (e2 f ma mb):=by
 obtain⟨ta,pa,qa⟩:=ha
 obtain⟨tb,pb,qb⟩:=hb
 exact⟨_,xB3 ho pa pb,fun Oc Ob σ H ρ Q R h=>two qa qb hp R h⟩
theorem yR{r:R2}{f:D->D->Option D}(ho:IxR C.X r)(hp:Pr2 r md f)(ha:RE C mda a ma)(hb:RE C mdb b mb)(hs:autoParam (PlainIx b) wG9._auto_1):RE C md (.Subscript a b pos) (e2 f ma mb):=by
 obtain⟨ta,pa,qa⟩:=ha
 obtain⟨tb,pb,qb⟩:=hb
 exact⟨_,jQ ho pa pb hs,fun Oc Ob σ H ρ Q R h=>two qa qb hp R h⟩
def PrB(r:R2)(f:D->D->Option Bool):Prop :=
 ∀(Oc:Wd) (Ob:Addr->Prop) (H:Hp) (x y:V) (dx dy:D) (k:Bool) (Q:VK),VA Oc Ob H x dx->VA Oc Ob H y dy->f dx dy=some k->Q (.bl k) H->r x y H Q
def bD(o:Option Bool):Option D:=o.map PyData.bool
theorem PrB.pr{r:R2}{f:D->D->Option Bool}(h:PrB r f):Pr2 r .cl (fun x y=>bD (f x y)):=by
 intro Oc Ob H x y dx dy d Q oh vx vy e k
 cases ef:f dx dy with
 | none=>simp only[ef] at e;cases e
 | some b =>
  simp only[ef] at e
  cases e
  exact h Oc Ob H x y dx dy b Q vx vy ef (k _ H (Same.refl H) (Rep.bl b))
theorem uG{op:CmpOp}{r:R2}{f:D->D->Option Bool}(ho:OpR C.X (compareOp op) r)(hp:PrB r f)(ha:RE C mda a ma)(hb:RE C mdb b mb)(hm:autoParam (behindInMarks op b=false) xZ9._auto_1):RE C .cl (.Compare a [op] [b] pos) (e2 (fun x y=>bD (f x y)) ma mb):=by
 obtain⟨ta,pa,qa⟩:=ha
 obtain⟨tb,pb,qb⟩:=hb
 exact⟨_,wW4 ho pa pb hm,fun Oc Ob σ H ρ Q R h=>two qa qb hp.pr R h⟩
def b2(f:D->D->Option Bool)(m n:Ev->Res D):Ev->Res Bool:=fun ρ=>(m ρ).bind fun x=>(n ρ).bind fun y=>Res.lft (f x y)
theorem wL6{f:D->D->Option Bool}{ρ:Ev}{Q:Bool->Hp->Prop}{H:Hp}{E:Str->Prop}{Oc:Wd}{Ob:Addr->Prop}(h:(b2 f ma mb ρ).post (fun b=>∀H',Same H H'->Q b H') E) :
  (e2 (fun x y=>bD (f x y)) ma mb ρ).post (fun d=>∀v H',Same H H'->VR .cl Oc Ob H H' v d->∃k,v=.bl k/\Q k H') E:=by
 unfold e2
 unfold b2 at h
 cases ea:ma ρ with
 | no=>rw[ea] at h;exact h
 | ex c=>rw[ea] at h;exact h
 | ok x =>
  rw[ea] at h
  simp only[Res.bind_ok] at h ⊢
  cases eb:mb ρ with
  | no=>rw[eb] at h;exact h
  | ex c=>rw[eb] at h;exact h
  | ok y =>
   rw[eb] at h
   simp only[Res.bind_ok] at h ⊢
   obtain⟨k,ek,q⟩:=Res.zF h
   rw[ek]
   intro v H' s r
   have:v=.bl k:=by cases r;rfl
   exact⟨k,this,q H' s⟩
theorem zA{op:CmpOp}{r:R2}{f:D->D->Option Bool}(ho:OpR C.X (compareOp op) r)(hp:PrB r f)(ha:RE C mda a ma)(hb:RE C mdb b mb)(hm:autoParam (behindInMarks op b=false) xZ9._auto_1):RT C (.Compare a [op] [b] pos) (b2 f ma mb):=by
 obtain⟨ta,pa,qa⟩:=ha
 obtain⟨tb,pb,qb⟩:=hb
 exact⟨_,zQ4 ho pa pb hm,fun Oc Ob σ H ρ Q R h=>two qa qb hp.pr R (wL6 h)⟩
def b3(f g:D->D->Option Bool)(m n o:Ev->Res D):Ev->Res Bool:=fun ρ=>(m ρ).bind fun x=>(n ρ).bind fun y=>(Res.lft (f x y)).bind fun k=>if k then (o ρ).bind fun z=>Res.lft (g y z) else .ok false
theorem chain3{ta tb tc:TE}{f g:D->D->Option Bool}{r r':R2}(ha:∀(Oc:Wd) (Ob:Addr->Prop) (σ:St) (H:Hp) (ρ:Ev) (Q:VK),Rel Oc Ob C.om C.ln σ H ρ->(ma ρ).post (fun d=>∀v H',Same H H'->VR mda Oc Ob H H' v d->Q v H') (fun c=>∀H',Same H H'->C.XE c H')->ta σ H Q)
  (hb:∀(Oc:Wd) (Ob:Addr->Prop) (σ:St) (H:Hp) (ρ:Ev) (Q:VK),Rel Oc Ob C.om C.ln σ H ρ->(mb ρ).post (fun d=>∀v H',Same H H'->VR mdb Oc Ob H H' v d->Q v H') (fun c=>∀H',Same H H'->C.XE c H')->tb σ H Q)
  (hc:∀(Oc:Wd) (Ob:Addr->Prop) (σ:St) (H:Hp) (ρ:Ev) (Q:VK),Rel Oc Ob C.om C.ln σ H ρ->(mc ρ).post (fun d=>∀v H',Same H H'->VR mdc Oc Ob H H' v d->Q v H') (fun c=>∀H',Same H H'->C.XE c H')->tc σ H Q) (hp:PrB r f) (hp':PrB r' g)
  {Oc:Wd}{Ob:Addr->Prop}{σ:St}{H:Hp}{ρ:Ev}{Q:VK}(R:Rel Oc Ob C.om C.ln σ H ρ) (h:(b3 f g ma mb mc ρ).post (fun d=>∀H',Same H H'->Q (.bl d) H') (fun c=>∀H',Same H H'->C.XE c H')) :
  tChain r r' ta tb tc σ H Q:=by
 refine ha Oc Ob σ H ρ _ R (Res.zQ (Res.zT h) (fun dx _ q x H1 s1 vx => ?_) fun _ z=>z)
 refine hb Oc Ob σ H1 ρ _ (R.same s1) (Res.zQ (Res.zT q) (fun dy _ q y H2 s2 vy => ?_) fun c z H' s'=>z H' (s1.trans s'))
 obtain⟨k,e,q⟩:=Res.zF (Res.zT q)
 have R2:=(R.same s1).same s2
 refine hp Oc Ob H2 x y dx dy k _ ((vx.same s2).va R.oh) (vy.va (R.same s1).oh) e ⟨k,rfl,?_⟩
 cases k with
 | false=>exact iteF (q H2 (s1.trans s2))
 | true =>
  refine iteT (hc Oc Ob σ H2 ρ _ R2 (Res.zQ (Res.zT q) (fun dz _ q z H3 s3 vz => ?_) fun c z H' s'=>z H' ((s1.trans s2).trans s')))
  obtain⟨k,e,q⟩:=Res.zF q
  exact hp' Oc Ob H3 y z dy dz k _ ((vy.same s3).va (R.same s1).oh) (vz.va R2.oh) e (q H3 ((s1.trans s2).trans s3))
theorem zY2{op op':CmpOp}{r r':R2}{f g:D->D->Option Bool}(ho:OpR C.X (compareOp op) r)(ho':OpR C.X (compareOp op') r')(hp:PrB r f)(hp':PrB r' g)(ha:RE C mda a ma)(hb:RE C mdb b mb)(hc:RE C mdc c mc)
  (hm:autoParam (lastMarks [op,op'] [b,c]=false) zD4._auto_1):RT C (.Compare a [op,op'] [b,c] pos) (b3 f g ma mb mc):=by
 obtain⟨ta,pa,qa⟩:=ha
 obtain⟨tb,pb,qb⟩:=hb
 obtain⟨tc,pc,qc⟩:=hc
 exact⟨_,xJ5 ho ho' pa pb pc hm,fun Oc Ob σ H ρ Q R h=>chain3 qa qb qc hp hp' R (Res.zQ h (fun b _ q H' s=>⟨b,rfl,q H' s⟩) fun _ z=>z)⟩
def vB(m:Ev->Res Bool):Ev->Res D:=fun ρ=>(m ρ).bind fun b=>.ok (.bool b)
theorem xK8{op op':CmpOp}{r r':R2}{f g:D->D->Option Bool}(ho:OpR C.X (compareOp op) r)(ho':OpR C.X (compareOp op') r')(hp:PrB r f)(hp':PrB r' g)(ha:RE C mda a ma)(hb:RE C mdb b mb)(hc:RE C mdc c mc)
  (hm:autoParam (lastMarks [op,op'] [b,c]=false) zD4._auto_1):RE C .cl (.Compare a [op,op'] [b,c] pos) (vB (b3 f g ma mb mc)):=by
 obtain⟨ta,pa,qa⟩:=ha
 obtain⟨tb,pb,qb⟩:=hb
 obtain⟨tc,pc,qc⟩:=hc
 exact⟨_,xH7 ho ho' pa pb pc hm,fun Oc Ob σ H ρ Q R h=>chain3 qa qb qc hp hp' R (Res.zQ (Res.zT h) (fun b _ q H' s=>q _ H' s (Rep.bl b)) fun _ z=>z)⟩
variable {ta' tb':Ev->Res Bool}{rest:List Expr}
def isB:D->Option Bool
 | .bool b=>some b
 | _=>none
def tV(m:Ev->Res D):Ev->Res Bool:=fun ρ=>(m ρ).bind fun d=>Res.lft (isB d)
theorem zL8{d:D}{b:Bool}(h:isB d=some b):d=.bool b:=by
 cases d <;> simp[isB] at h ⊢
 exact h
theorem aV(h:RE C md a ma)(he:autoParam (∀whole,isTrue a C.X.env whole=(do let v <-whole;standAt a.pos;holding [v] (truthy v))) DZ):RT C a (tV ma):=by
 obtain⟨t,p,q⟩:=h
 refine⟨_,wP8 p he,fun Oc Ob σ H ρ Q R h=>q Oc Ob σ H ρ _ R (Res.zQ (Res.zT h) (fun d _ k v H' s r => ?_) fun _ z=>z)⟩
 obtain⟨b,e,k⟩:=Res.zF k
 obtain rfl:=zL8 e
 exact⟨b,(r.va R.oh).bool,k H' s⟩
def tNt(m:Ev->Res Bool):Ev->Res Bool:=fun ρ=>(m ρ).bind fun b=>.ok (!b)
theorem fW(h:RT C a ta'):RT C (.UnaryOp .Not a pos) (tNt ta'):=by
 obtain⟨t,p,q⟩:=h
 exact⟨_,wJ2 p,fun Oc Ob σ H ρ Q R h=>q Oc Ob σ H ρ _ R (Res.zQ (Res.zT h) (fun d _ k=>k) fun _ z=>z)⟩
def tAn(m n:Ev->Res Bool):Ev->Res Bool:=fun ρ=>(m ρ).bind fun b=>if b then n ρ else .ok false
def tO(m n:Ev->Res Bool):Ev->Res Bool:=fun ρ=>(m ρ).bind fun b=>if b then .ok true else n ρ
theorem rw_and1(h:RT C a ta'):RW C (.BoolOp .And [a] pos) ta':=by
 obtain⟨t,p,q⟩:=h
 exact⟨_,pw_and1 p,q⟩
theorem rw_or1(h:RT C a ta'):RW C (.BoolOp .Or [a] pos) ta':=by
 obtain⟨t,p,q⟩:=h
 exact⟨_,pw_or1 p,q⟩
theorem rw_and(ha:RT C a ta')(hb:RW C (.BoolOp .And (b::rest) pos) tb'):RW C (.BoolOp .And (a::b::rest) pos) (tAn ta' tb'):=by
 obtain⟨t,p,q⟩:=ha
 obtain⟨t',p',q'⟩:=hb
 refine⟨_,pw_and p p',fun Oc Ob σ H ρ Q R h=>q Oc Ob σ H ρ _ R (Res.zQ (Res.zT h) (fun b _ k H' s => ?_) fun _ z=>z)⟩
 cases b with
 | true=>exact iteT (q' Oc Ob σ H' ρ Q (R.same s) (Res.zQ k (fun b _ k H2 s2=>k H2 (s.trans s2)) fun c z H2 s2=>z H2 (s.trans s2)))
 | false=>exact iteF (k H' s)
theorem rw_or(ha:RT C a ta')(hb:RW C (.BoolOp .Or (b::rest) pos) tb'):RW C (.BoolOp .Or (a::b::rest) pos) (tO ta' tb'):=by
 obtain⟨t,p,q⟩:=ha
 obtain⟨t',p',q'⟩:=hb
 refine⟨_,pw_or p p',fun Oc Ob σ H ρ Q R h=>q Oc Ob σ H ρ _ R (Res.zQ (Res.zT h) (fun b _ k H' s => ?_) fun _ z=>z)⟩
 cases b with
 | false=>exact iteF (q' Oc Ob σ H' ρ Q (R.same s) (Res.zQ k (fun b _ k H2 s2=>k H2 (s.trans s2)) fun c z H2 s2=>z H2 (s.trans s2)))
 | true=>exact iteT (k H' s)
theorem RW.rt(h:RW C a ta'):RT C a ta':=by
 obtain⟨t,p,q⟩:=h
 exact⟨_,p.pt,q⟩
theorem yO8{op}(h:RE C md a ma):RE C md (.BoolOp op [a] pos) ma:=by
 obtain⟨t,p,q⟩:=h
 exact⟨_,wK1 p,q⟩
def vAn(m n:Ev->Res D):Ev->Res D:=fun ρ=>(m ρ).bind fun d=>(Res.lft (isB d)).bind fun b=>if b then n ρ else .ok (.bool false)
def vO(m n:Ev->Res D):Ev->Res D:=fun ρ=>(m ρ).bind fun d=>(Res.lft (isB d)).bind fun b=>if b then .ok (.bool true) else n ρ
def vNt(m:Ev->Res D):Ev->Res D:=fun ρ=>(m ρ).bind fun d=>(Res.lft (isB d)).bind fun b=>.ok (.bool (!b))
theorem xU5(ha:RE C mda a ma)(hb:RE C .cl (.BoolOp .And (b::rest) pos) mb):RE C .cl (.BoolOp .And (a::b::rest) pos) (vAn ma mb):=by
 obtain⟨t,p,q⟩:=ha
 obtain⟨t',p',q'⟩:=hb
 refine⟨_,wM4 p p',fun Oc Ob σ H ρ Q R h=>q Oc Ob σ H ρ _ R (Res.zQ (Res.zT h) (fun d _ k v H' s r => ?_) fun _ z=>z)⟩
 obtain⟨b,e,k⟩:=Res.zF (Res.zT k)
 obtain rfl:=zL8 e
 refine⟨b,(r.va R.oh).bool,?_⟩
 cases b with
 | true=>exact iteT (q' Oc Ob σ H' ρ Q (R.same s) (Res.zQ k (fun b _ k v H2 s2 r=>k v H2 (s.trans s2) r) fun c z H2 s2=>z H2 (s.trans s2)))
 | false=>exact iteF (k _ H' s (Rep.bl false))
theorem wA3(ha:RE C mda a ma)(hb:RE C .cl (.BoolOp .Or (b::rest) pos) mb):RE C .cl (.BoolOp .Or (a::b::rest) pos) (vO ma mb):=by
 obtain⟨t,p,q⟩:=ha
 obtain⟨t',p',q'⟩:=hb
 refine⟨_,wD5 p p',fun Oc Ob σ H ρ Q R h=>q Oc Ob σ H ρ _ R (Res.zQ (Res.zT h) (fun d _ k v H' s r => ?_) fun _ z=>z)⟩
 obtain⟨b,e,k⟩:=Res.zF (Res.zT k)
 obtain rfl:=zL8 e
 refine⟨b,(r.va R.oh).bool,?_⟩
 cases b with
 | false=>exact iteF (q' Oc Ob σ H' ρ Q (R.same s) (Res.zQ k (fun b _ k v H2 s2 r=>k v H2 (s.trans s2) r) fun c z H2 s2=>z H2 (s.trans s2)))
 | true=>exact iteT (k _ H' s (Rep.bl true))
def eIf(m:Ev->Res Bool)(n o:Ev->Res D):Ev->Res D:=fun ρ=>(m ρ).bind fun b=>if b then n ρ else o ρ
def e1(f:D->Option D)(m:Ev->Res D):Ev->Res D:=fun ρ=>(m ρ).bind fun x=>Res.lft (f x)
def negD:D->Option D
 | .int i=>some (.int (-i))
 | _=>none
theorem yP9(ha:RE C mda a ma):RE C .cl (.UnaryOp .USub a pos) (e1 negD ma):=by
 obtain⟨t,p,q⟩:=ha
 refine⟨_,wD1 wK8 p,fun Oc Ob σ H ρ Q R h=>q Oc Ob σ H ρ _ R (Res.zQ (Res.zT h) (fun d _ k v H' s r => ?_) fun _ z=>z)⟩
 obtain⟨d',e,k⟩:=Res.zF k
 cases d with
 | int i =>
  cases e
  exact⟨i,(r.va R.oh).int,k _ H' s (Rep.int _)⟩
 | _=>cases e
end
inductive VAs(Oc:Wd)(Ob:Addr->Prop)(H:Hp):List V->List D->Prop
 | nil:VAs Oc Ob H [] []
 | cons {v:V}{d:D}{vs:List V}{ds:List D}:VA Oc Ob H v d->VAs Oc Ob H vs ds->VAs Oc Ob H (v::vs) (d::ds)
section
variable {Oc:Wd}{Ob:Addr->Prop}{H H':Hp}
theorem VAs.rep:∀{vs:List V}{ds:List D},VAs Oc Ob H vs ds->Reps H (fun _=>False) vs ds
 | _,_,.nil=>.nil
 | _,_,.cons h t=>.cons h.rep (VAs.rep t)
theorem VA.same{v:V}{d:D}(h:VA Oc Ob H v d)(s:Same H H'):VA Oc Ob H' v d:=VR.same (md:=.any) (H:=H) h s
end
def VQ:Bool->Wd->(Addr->Prop)->Hp->List V->List D->Prop
 | true,Oc,Ob,H,vs,ds=>Reps H (Uni Oc Ob) vs ds
 | false,Oc,Ob,H,vs,ds=>VAs Oc Ob H vs ds
def RArg(C:Ct)(cl:Bool)(es:List Expr)(m:Ev->Res (List D)):Prop :=
 ∃t,PA C.X es t/\∀(Oc:Wd) (Ob:Addr->Prop) (σ:St) (H:Hp) (ρ:Ev) (Q:List V->Hp->Prop),Rel Oc Ob C.om C.ln σ H ρ ->
  (m ρ).post (fun ds=>∀vs H',Same H H'->VQ cl Oc Ob H' vs ds->Q vs H') (fun c=>∀H',Same H H'->C.XE c H')->t σ H Q
section
variable {C:Ct}{a b c e:Expr}{es:List Expr}{pos p:Pos}{md mda mdb mdc:Md}{ma mb mc:Ev->Res D}{ms:Ev->Res (List D)}{cl:Bool}
def aN:Ev->Res (List D):=fun _=>.ok []
def aC(m:Ev->Res D)(n:Ev->Res (List D)):Ev->Res (List D):=fun ρ=>(m ρ).bind fun x=>(n ρ).bind fun xs=>.ok (x::xs)
theorem zY:RArg C cl [] aN:=⟨_,xE,fun Oc Ob σ H ρ Q R h=>h [] H (Same.refl H) (by cases cl;exact VAs.nil;exact Reps.nil)⟩
theorem zX(ha:RE C .cl e ma)(hr:RArg C true es ms)(hs:autoParam (starEach (e::es) C.X.env=(false,eval e C.X.env)::starEach es C.X.env) Eb):RArg C true (e::es) (aC ma ms):=by
 obtain⟨t,p,q⟩:=ha
 obtain⟨t',p',q'⟩:=hr
 refine⟨_,xO p p' hs,fun Oc Ob σ H ρ Q R h=>q Oc Ob σ H ρ _ R (Res.zQ (Res.zT h) (fun d _ k v H' s r => ?_) fun _ z=>z)⟩
 refine q' Oc Ob σ H' ρ _ (R.same s) (Res.zQ (Res.zT k) (fun ds _ k vs H2 s2 r2 => ?_) fun c z H2 s2=>z H2 (s.trans s2))
 exact k _ H2 (s.trans s2) (Reps.cons (r.same s2) r2)
theorem zV(ha:RE C md e ma)(hr:RArg C false es ms)(hs:autoParam (starEach (e::es) C.X.env=(false,eval e C.X.env)::starEach es C.X.env) Eb):RArg C false (e::es) (aC ma ms):=by
 obtain⟨t,p,q⟩:=ha
 obtain⟨t',p',q'⟩:=hr
 refine⟨_,xO p p' hs,fun Oc Ob σ H ρ Q R h=>q Oc Ob σ H ρ _ R (Res.zQ (Res.zT h) (fun d _ k v H' s r => ?_) fun _ z=>z)⟩
 refine q' Oc Ob σ H' ρ _ (R.same s) (Res.zQ (Res.zT k) (fun ds _ k vs H2 s2 r2 => ?_) fun c z H2 s2=>z H2 (s.trans s2))
 exact k _ H2 (s.trans s2) (VAs.cons ((r.va R.oh).same s2) r2)
def mkL(ds:List D):Option D:=if ds.length<=sizeLine then some (.list ds) else none
def mkT(ds:List D):Option D:=if ds.length<=sizeLine then some (.tuple ds) else none
def eB(f:List D->Option D)(m:Ev->Res (List D)):Ev->Res D:=fun ρ=>(m ρ).bind fun ds=>Res.lft (f ds)
theorem wN{Oc:Wd}{Ob:Addr->Prop}{H H1:Hp}{p:Addr}{vs:List V}{ds:List D}(s:Same H H1)(hp:H1 p=none)(r:Reps H1 (Uni Oc Ob) vs ds):VR .new Oc Ob H (upd H1 p (.lst vs)) (.ref p) (.list ds) :=
 ⟨p,vs,ds,rfl,rfl,s.free hp,yP,r.keep (fun b o e _=>by rw[zG (xT e hp)];exact e) fun b n z=>z.elim id fun z=>by subst z;exact absurd hp n⟩
theorem gR{Oc:Wd}{Ob:Addr->Prop}{H1:Hp}{p:Addr}{vs:List V}{ds:List D}(oh:∀a,Oc a\/Ob a->H1 a≠none)(hp:H1 p=none)(r:Reps H1 (Uni Oc Ob) vs ds):Rep (upd H1 p (.tup vs)) (Uni Oc Ob) (.ref p) (.tuple ds) :=
 .tup (.inl yP) (fun z=>oh p z hp) (r.same (Same.new hp))
theorem yG(h:RArg C true es ms):RE C .new (.List es pos) (eB mkL ms):=by
 obtain⟨t,p,q⟩:=h
 refine⟨_,yO3 p,fun Oc Ob σ H ρ Q R h=>q Oc Ob σ H ρ _ R (Res.zQ (Res.zT h) (fun ds _ k vs H' s r => ?_) fun _ z=>z)⟩
 obtain⟨d,e,k⟩:=Res.zF k
 unfold mkL at e
 split at e
 ·rename_i hl
  cases e
  exact⟨by rw[Reps.length r];exact hl,fun p hp=>k _ _ (s.trans (Same.new hp)) (wN s hp r)⟩
 ·cases e
theorem zS9{x1}(h:RArg C true es ms):RE C .cl (.Tuple es x1 pos) (eB mkT ms):=by
 obtain⟨t,p,q⟩:=h
 refine⟨_,xM2 p,fun Oc Ob σ H ρ Q R h=>q Oc Ob σ H ρ _ R (Res.zQ (Res.zT h) (fun ds _ k vs H' s r => ?_) fun _ z=>z)⟩
 obtain⟨d,e,k⟩:=Res.zF k
 unfold mkT at e
 split at e
 ·rename_i hl
  cases e
  exact⟨by rw[Reps.length r];exact hl,fun p hp=>k _ _ (s.trans (Same.new hp)) (gR (R.same s).oh hp r)⟩
 ·cases e
def PrC(r:List V->Hp->VK->Prop)(md:Md)(f:List D->Option D):Prop :=
 ∀(Oc:Wd) (Ob:Addr->Prop) (H:Hp) (vs:List V) (ds:List D) (d:D) (Q:VK),(∀a,Oc a\/Ob a->H a≠none)->VAs Oc Ob H vs ds->f ds=some d->(∀v H',Same H H'->VR md Oc Ob H H' v d->Q v H')->r vs H Q
theorem yX7{t:TA}{r:List V->Hp->VK->Prop}{f:List D->Option D}(q:∀(Oc:Wd) (Ob:Addr->Prop) (σ:St) (H:Hp) (ρ:Ev) (Q:List V->Hp->Prop),Rel Oc Ob C.om C.ln σ H ρ ->
  (ms ρ).post (fun ds=>∀vs H',Same H H'->VQ false Oc Ob H' vs ds->Q vs H') (fun c=>∀H',Same H H'->C.XE c H')->t σ H Q)(hp:PrC r md f)
  {Oc:Wd}{Ob:Addr->Prop}{σ:St}{H:Hp}{ρ:Ev}{Q:VK}(R:Rel Oc Ob C.om C.ln σ H ρ) (h:(eB f ms ρ).post (fun d=>∀v H',Same H H'->VR md Oc Ob H H' v d->Q v H') (fun c=>∀H',Same H H'->C.XE c H')):tCB r t σ H Q:=by
 refine q Oc Ob σ H ρ _ R (Res.zQ (Res.zT h) (fun ds _ k vs H' s r => ?_) fun _ z=>z)
 obtain⟨d,e,k⟩:=Res.zF k
 exact hp Oc Ob H' vs ds d Q (R.same s).oh r e fun v H2 s2 r2=>k v H2 (s.trans s2) (r2.from s)
theorem zJ{x:Str}{id:String}{r:List V->Hp->VK->Prop}{f:List D->Option D}(hc:CallR C.X (.builtin id) r)(hp:PrC r md f)(hm:C.X.mg x=none)(hv:bootBuiltins x=some (.builtin id))(ha:RArg C false (e::es) ms)(hg:autoParam (Gl C.X x) Eb)(hn:autoParam (x ≠ "__name__") Ea)(hdb:autoParam ((x == ("__debug__":Str))=false) Ea)
  (he:autoParam (starEach (e::es) C.X.env=(false,eval e C.X.env)::starEach es C.X.env) Eb) (hpl:autoParam ((backTo pos (starEach es C.X.env)).any (·.1)=false) Eb):RE C md (.Call (.Name x p) (e::es) [] pos) (eB f ms):=by
 obtain⟨t,pa,q⟩:=ha
 exact⟨_,zX1 hc hg hm hv pa hn hdb he hpl,fun Oc Ob σ H ρ Q R h=>yX7 q hp R h⟩
theorem yX{x:Str}{T:String}{r:List V->Hp->VK->Prop}{f:List D->Option D}(hc:CallR C.X (.type T) r)(hp:PrC r md f)(hm:C.X.mg x=none)(hv:bootBuiltins x=some (.type T))(ha:RArg C false (e::es) ms)(hg:autoParam (Gl C.X x) Eb)(hn:autoParam (x ≠ "__name__") Ea)(hdb:autoParam ((x == ("__debug__":Str))=false) Ea)
  (he:autoParam (starEach (e::es) C.X.env=(false,eval e C.X.env)::starEach es C.X.env) Eb) (hpl:autoParam ((backTo pos (starEach es C.X.env)).any (·.1)=false) Eb):RE C md (.Call (.Name x p) (e::es) [] pos) (eB f ms):=by
 obtain⟨t,pa,q⟩:=ha
 exact⟨_,fT hc hg hm hv pa hn hdb he hpl,fun Oc Ob σ H ρ Q R h=>yX7 q hp R h⟩
def Walks(Oc:Wd)(Ob:Addr->Prop)(J:It)(H1:Hp)(ds:List D):Prop :=
 ∀(H2:Hp) (Ob2:Addr->Prop),Frm Ob H1 H2->(∀b,Ob2 b->Ob b\/H1 b=none)->∀i,(∀d,ds[i]?=some d->J.go i H2/\∀x H3,J.yld i H2 x H3->Same H2 H3/\Rep H3 (Uni Oc Ob2) x d)/\(ds.length<=i->J.stop i H2)
def RI(C:Ct)(tg iter:Expr)(m:Ev->Res (List D)):Prop :=
 ∃wi,PI C.X tg iter wi/\∀(Oc:Wd) (Ob:Addr->Prop) (σ:St) (H:Hp) (ρ:Ev) (R:It->Hp->Prop),Rel Oc Ob C.om C.ln σ H ρ ->
  (m ρ).post (fun ds=>∀J H1,Same H H1->Walks Oc Ob J H1 ds->R J H1) (fun c=>∀H',Same H H'->C.XE c H')->wi σ H R
def iSeq(K:KFr)(tl:TE):TI:=fun σ H R=>tl σ H fun x H1=>∃a,x=.ref a/\(((∃xs,SqL K H1 a xs)/\R (Itl K a) H1)\/((∃xs,SqT K H1 a xs)/\R (Itt K a) H1))
theorem wK5{X:Cx}{tg l:Expr}{tl:TE}(hl:PE X l tl):PI X tg l (iSeq X.K tl):=by
 intro Ec s σ H R I h
 refine thn (hl Ec s σ H _ I h) fun v s1 ⟨x,H1,I1,r1,q1⟩ => ?_
 obtain⟨a,e,q1⟩:=q1
 subst e
 cases r1
 rcases q1 with ⟨⟨xs,hq⟩,q⟩ | ⟨⟨xs,hq⟩,q⟩
 ·obtain⟨its,rv,p,hz⟩:=I1.list hq
  refine wpAny_pyIter_list p.isList ?_
  refine⟨s1.heap.objs.size,[s1.heap.objs.size],_,_,H1,rfl,I1.kept (t':=s1.toks) fun b o e=>Ai _ e,xP9 a _,⟨_,AA _ rfl,rfl,rfl⟩,fun b hb => ?_,q⟩
  have e:b=s1.heap.objs.size:=by simpa using hb
  subst e
  exact I1.fpOk (Ab _) (I1.hok.fresh (Ab _))
 ·obtain⟨its,rv,p,hz⟩:=I1.tuple hq
  refine wpAny_pyIter_tuple (show s1.heap.IsTuple a its.toArray from p) ?_
  refine⟨s1.heap.objs.size,[s1.heap.objs.size],_,_,H1,rfl,I1.kept (t':=s1.toks) fun b o e=>Ai _ e,xY7 a _,⟨_,AA _ rfl,rfl,rfl⟩,fun b hb => ?_,q⟩
  have e:b=s1.heap.objs.size:=by simpa using hb
  subst e
  exact I1.fpOk (Ab _) (I1.hok.fresh (Ab _))
def seqD:D->Option (List D)
 | .list ds=>some ds
 | .tuple ds=>some ds
 | _=>none
def iS(m:Ev->Res D):Ev->Res (List D):=fun ρ=>(m ρ).bind fun d=>Res.lft (seqD d)
theorem Reps.step{Oc:Wd}{Ob Ob2:Addr->Prop}{H1 H2:Hp}{vs:List V}{ds:List D}(r:Reps H1 (Uni Oc Ob) vs ds)(f:Frm Ob H1 H2)(s:∀b,Ob2 b->Ob b\/H1 b=none):Reps H2 (Uni Oc Ob2) vs ds :=
 r.keep (fun b o e n=>f b o e fun z=>n (.inr z)) fun b n z=>z.elim .inl fun z=>(s b z).elim .inr fun q=>absurd q n
end
theorem zE2{K:KFr}{Oc:Wd}{Ob:Addr->Prop}{H1:Hp}{a:Addr}{ys:List V}{ds:List D}(r:Rd H1 a (.lst ys))(n:¬Ob a)(rs:Reps H1 (Uni Oc Ob) ys ds):Walks Oc Ob (Itl K a) H1 ds:=by
 intro H2 Ob2 f s i
 have r2:Rd H2 a (.lst ys):=wC r fun o e=>f a o e n
 have rs2:=rs.step f s
 refine⟨fun d e => ?_,fun h=>⟨ys,.inl r2,by rw[rs2.length];exact h⟩⟩
 obtain⟨v,ev,rv⟩:=rs2.get e
 refine⟨⟨ys,v,.inl r2,ev⟩,fun x H3 hy => ?_⟩
 obtain⟨rfl,hy⟩:=hy
 have:=hy ys (.inl r2)
 rw[ev] at this
 cases this
 exact⟨Same.refl _,rv⟩
theorem yG8{K:KFr}{Oc:Wd}{Ob:Addr->Prop}{H1:Hp}{a:Addr}{ys:List V}{ds:List D}(r:Rd H1 a (.tup ys))(n:¬Ob a)(rs:Reps H1 (Uni Oc Ob) ys ds):Walks Oc Ob (Itt K a) H1 ds:=by
 intro H2 Ob2 f s i
 have r2:Rd H2 a (.tup ys):=wC r fun o e=>f a o e n
 have rs2:=rs.step f s
 refine⟨fun d e => ?_,fun h=>⟨ys,.inl r2,by rw[rs2.length];exact h⟩⟩
 obtain⟨v,ev,rv⟩:=rs2.get e
 refine⟨⟨ys,v,.inl r2,ev⟩,fun x H3 hy => ?_⟩
 obtain⟨rfl,hy⟩:=hy
 have:=hy ys (.inl r2)
 rw[ev] at this
 cases this
 exact⟨Same.refl _,rv⟩
theorem zP8{Oc:Wd}{Ob:Addr->Prop}{H1:Hp}{lo:Int}{n:Nat}{ds:List D}(e:ds=(List.range n).map fun (i:Nat)=>PyData.int (lo+(i:Int))):Walks Oc Ob (Itr lo n) H1 ds:=by
 intro H2 Ob2 f s i
 subst e
 refine⟨fun d e => ?_,fun h=>by show n<=i;simpa using h⟩
 rw[Al] at e
 by_cases hi:i<n
 ·rw[AN hi] at e
  cases e
  refine⟨hi,fun x H3 hy => ?_⟩
  obtain⟨rfl,rfl⟩:=hy
  exact⟨Same.refl _,.int _⟩
 ·rw[Cv (by simpa using hi)] at e
  cases e
section
variable {C:Ct}{a b c e:Expr}{es:List Expr}{pos p:Pos}{md mda mdb mdc:Md}{ma mb mc:Ev->Res D}{ms:Ev->Res (List D)}{cl:Bool}{tg:Expr}
theorem xF(h:RE C .rd e ma):RI C tg e (iS ma):=by
 obtain⟨t,p,q⟩:=h
 refine⟨_,wK5 p,fun Oc Ob σ H ρ W R h=>q Oc Ob σ H ρ _ R (Res.zQ (Res.zT h) (fun d _ k v H' s r => ?_) fun _ z=>z)⟩
 obtain⟨ds,e,k⟩:=Res.zF k
 rcases r with r | ⟨a,ys,ds',rfl,rfl,e3,e4,e5⟩
 ·cases r with
  | lst r n t=>cases e;exact⟨_,rfl,.inl ⟨⟨_,.inl r⟩,k _ H' s (zE2 r (fun z=>n (.inr z)) t)⟩⟩
  | tup r n t=>cases e;exact⟨_,rfl,.inr ⟨⟨_,.inl r⟩,k _ H' s (yG8 r (fun z=>n (.inr z)) t)⟩⟩
  | _=>cases e
 ·cases e
  exact⟨_,rfl,.inl ⟨⟨_,SqL.of e3⟩,k _ H' s (zE2 (.inl e3) e4 e5)⟩⟩
def rng1:List D->Option (List D)
 | [.int j]=>if -(2 ^ 62)<=j/\j<2 ^ 62 then some ((List.range j.toNat).map fun (i:Nat)=>PyData.int (i:Int)) else none
 | _=>none
def rng2:List D->Option (List D)
 | [.int i,.int j]=>if -(2 ^ 62)<=i/\i<2 ^ 62/\-(2 ^ 62)<=j/\j<2 ^ 62 then some ((List.range (j-i).toNat).map fun (k:Nat)=>PyData.int (i+(k:Int))) else none
 | _=>none
def iR(f:List D->Option (List D))(m:Ev->Res (List D)):Ev->Res (List D):=fun ρ=>(m ρ).bind fun ds=>Res.lft (f ds)
theorem VAs.one{Oc:Wd}{Ob:Addr->Prop}{H:Hp}{vs:List V}{d:D}(h:VAs Oc Ob H vs [d]):∃v,vs=[v]/\VA Oc Ob H v d:=by
 cases h with
 | cons a t=>cases t;exact⟨_,rfl,a⟩
theorem VAs.two{Oc:Wd}{Ob:Addr->Prop}{H:Hp}{vs:List V}{d d':D}(h:VAs Oc Ob H vs [d,d']):∃v v',vs=[v,v']/\VA Oc Ob H v d/\VA Oc Ob H v' d':=by
 cases h with
 | cons a t =>
  obtain⟨v,rfl,q⟩:=VAs.one t
  exact⟨_,_,rfl,a,q⟩
theorem wF(hm:C.X.mg "range" = none)(ha:RArg C false [a] ms)(hg:autoParam (Gl C.X "range") Eb)(hs:autoParam (starEach [a] C.X.env=[(false,eval a C.X.env)]) Eb):RI C tg (.Call (.Name "range" p) [a] [] pos) (iR rng1 ms):=by
 obtain⟨t,pa,q⟩:=ha
 refine⟨_,zS3 hg hm pa hs,fun Oc Ob σ H ρ W R h=>q Oc Ob σ H ρ _ R (Res.zQ (Res.zT h) (fun ds _ k vs H' s r => ?_) fun _ z=>z)⟩
 obtain⟨xs,e,k⟩:=Res.zF k
 unfold rng1 at e
 split at e
 ·split at e
  ·rename_i hb
   cases e
   obtain⟨v,rfl,va⟩:=VAs.one r
   obtain rfl:=va.int
   exact⟨_,rfl,hb.1,hb.2,k _ H' s (zP8 (by simp))⟩
  ·cases e
 ·cases e
theorem uY(hm:C.X.mg "range" = none)(ha:RArg C false [a,b] ms)(hg:autoParam (Gl C.X "range") Eb)(hs:autoParam (starEach [a,b] C.X.env=[(false,eval a C.X.env),(false,eval b C.X.env)]) Eb)(hs2:autoParam (starEach [b] C.X.env=[(false,eval b C.X.env)]) Eb):RI C tg (.Call (.Name "range" p) [a,b] [] pos) (iR rng2 ms):=by
 obtain⟨t,pa,q⟩:=ha
 refine⟨_,xM8 hg hm pa hs hs2,fun Oc Ob σ H ρ W R h=>q Oc Ob σ H ρ _ R (Res.zQ (Res.zT h) (fun ds _ k vs H' s r => ?_) fun _ z=>z)⟩
 obtain⟨xs,e,k⟩:=Res.zF k
 unfold rng2 at e
 split at e
 ·split at e
  ·rename_i hb
   cases e
   obtain⟨v,v',rfl,va,va'⟩:=VAs.two r
   obtain rfl:=va.int
   obtain rfl:=va'.int
   exact⟨_,_,rfl,hb,k _ H' s (zP8 rfl)⟩
  ·cases e
 ·cases e
end
def cEnv(ρ:Ev)(js:List Nat)(x:D):Ev:=some x::js.map fun j=>(ρ[j]?).join
def capt(js l:List Nat):List Nat:=((List.range js.length).filter fun i=>l.contains (js.getD i 0)).map (·+1)
def noEx{α:Type}:Res α->Res α
 | .ok a=>.ok a
 | _=>.no
theorem zR4{α:Type}{r:Res α}{a:α}(h:noEx r=.ok a):r=.ok a:=by
 cases r with
 | ok b=>exact h
 | ex c=>cases h
 | no=>cases h
def compM(t:D->Res Bool)(f:D->Res D):List D->Res (List D)
 | []=>.ok []
 | x::xs=>(noEx (t x)).bind fun b=>if b then (noEx (f x)).bind fun y=>(compM t f xs).bind fun ys=>.ok (y::ys) else compM t f xs
def eComp(mi:Ev->Res (List D))(mt:Ev->Res Bool)(me:Ev->Res D)(js:List Nat):Ev->Res D:=fun ρ=>(mi ρ).bind fun ds=>if ds.length<=sizeLine then (compM (fun x=>mt (cEnv ρ js x)) (fun x=>me (cEnv ρ js x)) ds).bind fun out=>.ok (.list out) else .no
theorem xI3{js l:List Nat}{i:Nat}(h:i∈capt js l):∃k,i=k+1/\k<js.length/\js.getD k 0∈l:=by
 unfold capt at h
 obtain⟨k,hk,rfl⟩:=AE.mp h
 obtain⟨h1,h2⟩:=Ce.mp hk
 exact⟨k,rfl,AB.mp h1,Bj.mp h2⟩
theorem yN2{js l:List Nat}{k j:Nat}(h:js[k]?=some j)(hl:j∈l):k+1∈capt js l:=by
 unfold capt
 refine AE.mpr ⟨k,Ce.mpr ⟨AB.mpr ?_,?_⟩,rfl⟩
 ·exact (Au.mp h).1
 ·rw[Ak,h]
  exact Bj.mpr hl
theorem yY6{ρ:Ev}{js:List Nat}{x d:D}{k:Nat}(h:(cEnv ρ js x)[k+1]?=some (some d)):∃j,js[k]?=some j/\ρ[j]?=some (some d):=by
 unfold cEnv at h
 rw[BO,Al] at h
 cases e:js[k]? with
 | none=>rw[e] at h;cases h
 | some j =>
  rw[e] at h
  refine⟨j,rfl,?_⟩
  have h:(ρ[j]?).join=some d:=AJ h
  cases q:ρ[j]? with
  | none=>rw[q] at h;cases h
  | some z=>rw[q] at h;rw[show z=some d from h]
theorem jZ{σ:St}{js:List Nat}{v0:Option V}{v:V}{k j:Nat}(h:js[k]?=some j)(e:σ[j]?=some (some v)):(compSt σ js v0)[k+1]?=some (some v):=by
 unfold compSt
 rw[BO,Al,h]
 show some ((σ[j]?).join)=_
 rw[e]
 rfl
def adr:Option (Option V)->Addr
 | some (some (.ref a))=>a
 | _=>0
def cW(Oc:Wd)(Ob:Addr->Prop)(σ:St)(js:List Nat):Wd:=⟨Uni Oc Ob,fun i=>adr ((compSt σ js none)[i]?)⟩
theorem Rel.comp{Oc:Wd}{Ob:Addr->Prop}{om ln:List Nat}{σ:St}{H:Hp}{ρ:Ev}{js:List Nat}{x:V}{d:D}(R:Rel Oc Ob om ln σ H ρ)(r:Rep H (Uni Oc Ob) x d):Rel (cW Oc Ob σ js) (fun _=>False) [] (capt js (om++ln)) (compSt σ js (some x)) H (cEnv ρ js d) where
 len:=by unfold compSt cEnv;simp
 val:=fun i d' e _ hl=>by
  cases i with
  | zero =>
   cases e
   exact⟨x,rfl,r.less fun b z=>z.elim id fun z=>z.elim⟩
  | succ k =>
   obtain⟨j,e1,e2⟩:=yY6 e
   have h1:j∉om:=fun z=>hl (yN2 e1 (Bb _ z))
   have h2:j∉ln:=fun z=>hl (yN2 e1 (Ap _ z))
   obtain⟨v,q,rv⟩:=R.val j d' e2 h1 h2
   exact⟨v,jZ e1 q,rv.less fun b z=>z.elim id fun z=>z.elim⟩
 own:=fun i d' e h=>nomatch h
 lnt:=fun i d' e _ hl=>by
  obtain⟨k,rfl,hk,hj⟩:=xI3 hl
  obtain⟨j,e1,e2⟩:=yY6 e
  rw[Ak,e1,DC] at hj
  by_cases ho:j∈om
  ·obtain⟨v,q,a,ys,ds,z1,z2,z3,z4,z5⟩:=R.own j d' e2 ho
   have ea:(cW Oc Ob σ js).la (k+1)=a:=by show adr _=a;rw[jZ e1 q,z1];rfl
   exact⟨v,jZ e1 q,ys,ds,by rw[ea];exact z1,z2,by rw[ea];exact z3,by rw[ea];exact .inr z4,z5.less fun b z=>z.elim id fun z=>z.elim⟩
  ·have hl2:j∈ln:=(AX.mp hj).elim (fun z=>absurd z ho) id
   obtain⟨v,q,ys,ds,z1,z2,z3,z4,z5⟩:=R.lnt j d' e2 ho hl2
   have ea:(cW Oc Ob σ js).la (k+1)=Oc.la j:=by show adr _=_;rw[jZ e1 q,z1];rfl
   exact⟨v,jZ e1 q,ys,ds,by rw[ea];exact z1,z2,by rw[ea];exact z3,by rw[ea];exact .inl z4,z5.less fun b z=>z.elim id fun z=>z.elim⟩
 inj:=fun i j di dj a _ _ h=>nomatch h
 oh:=fun a z=>R.oh a (z.elim id fun z=>z.elim)
 ap:=fun a z=>z.elim
abbrev cC(C:Ct)(N:List Str)(scope:Scope)(A:Addr)(fp:List Addr)(s₂:Shared)(H:Hp)(js:List Nat):Ct:=⟨cxComp C.X N scope A fp s₂ H,fun _ _=>False,[],capt js (C.om++C.ln)⟩
def RTs(C:Ct)(ifs:List Expr)(m:Ev->Res Bool):Prop:=∃t,PTs C.X ifs t/\∀(Oc:Wd) (Ob:Addr->Prop) (σ:St) (H:Hp) (ρ:Ev) (Q:Bool->Hp->Prop),Rel Oc Ob C.om C.ln σ H ρ ->
  (m ρ).post (fun b=>∀H',Same H H'->Q b H') (fun c=>∀H',Same H H'->C.XE c H')->t σ H Q
def tYes:Ev->Res Bool:=fun _=>.ok true
theorem xJ{C:Ct}:RTs C [] tYes:=⟨_,.nil,fun Oc Ob σ H ρ Q R h=>h H (Same.refl H)⟩
theorem wU6{C:Ct}{c:Expr}{m:Ev->Res Bool}(h:RT C c m):RTs C [c] m:=by
 obtain⟨t,p,q⟩:=h
 exact⟨t,.one p,q⟩
def WalksS(Oc:Wd)(Ob:Addr->Prop)(J:It)(H1:Hp)(ds:List D):Prop :=
 ∀(H2:Hp),Same H1 H2->∀i,(∀d,ds[i]?=some d->J.go i H2/\∀x H3,J.yld i H2 x H3->Same H2 H3/\Rep H3 (Uni Oc Ob) x d)/\(ds.length<=i->J.stop i H2)
def RIc(C:Ct)(tg iter:Expr)(m:Ev->Res (List D)):Prop :=
 ∃wi,PI C.X tg iter wi/\∀(Oc:Wd) (Ob:Addr->Prop) (σ:St) (H:Hp) (ρ:Ev) (R:It->Hp->Prop),Rel Oc Ob C.om C.ln σ H ρ ->
  (m ρ).post (fun ds=>∀J H1,Same H H1->WalksS Oc Ob J H1 ds->R J H1) (fun c=>∀H',Same H H'->C.XE c H')->wi σ H R
theorem RI.c{C:Ct}{tg iter:Expr}{m:Ev->Res (List D)}(h:RI C tg iter m):RIc C tg iter m:=by
 obtain⟨wi,p,q⟩:=h
 exact⟨wi,p,fun Oc Ob σ H ρ W R h=>q Oc Ob σ H ρ W R (Res.zQ h (fun ds _ k J H1 s w=>k J H1 s fun H2 s2=>w H2 Ob (Same.frm s2) fun b z=>.inl z) fun _ z=>z)⟩
theorem yU4{C:Ct}{elt:Expr}{ifs:List Expr}{scope:Scope}{N:List Str}{js:List Nat}{mi:Ev->Res (List D)}{mt:Ev->Res Bool}{me:Ev->Res D}{wi:TI}
  (qi:∀(Oc:Wd) (Ob:Addr->Prop) (σ:St) (H:Hp) (ρ:Ev) (R:It->Hp->Prop),Rel Oc Ob C.om C.ln σ H ρ->(mi ρ).post (fun ds=>∀J H1,Same H H1->WalksS Oc Ob J H1 ds->R J H1) (fun c=>∀H',Same H H'->C.XE c H')->wi σ H R)
  (ht:∀A fp s₂ H,RTs (cC C N scope A fp s₂ H js) ifs mt) (he:∀A fp s₂ H,RE (cC C N scope A fp s₂ H js) .cl elt me)
  {Oc:Wd}{Ob:Addr->Prop}{σ:St}{H:Hp}{ρ:Ev}{Q:VK}(R:Rel Oc Ob C.om C.ln σ H ρ) (h:(eComp mi mt me js ρ).post (fun d=>∀v H',Same H H'->VR .new Oc Ob H H' v d->Q v H') (fun c=>∀H',Same H H'->C.XE c H')) :
  tComp wi (fun A fp s H=>Classical.choose (ht A fp s H)) (fun A fp s H=>Classical.choose (he A fp s H)) js σ H Q:=by
 refine qi Oc Ob σ H ρ _ R (Res.zQ (Res.zT h) (fun ds _ k J H1 s1 wk => ?_) fun _ z=>z)
 intro A fp s₂ H₂
 have qt:=(Bd (ht A fp s₂ H₂)).2
 have qe:=(Bd (he A fp s₂ H₂)).2
 have k:(if ds.length<=sizeLine then (compM (fun x=>mt (cEnv ρ js x)) (fun x=>me (cEnv ρ js x)) ds).bind fun out=>Res.ok (PyData.list out) else .no).post (fun d=>∀v H',Same H H'->VR .new Oc Ob H H' v d->Q v H') (fun c=>∀H',Same H H'->C.XE c H'):=k
 by_cases hlen:ds.length<=sizeLine
 ·rw[Ac hlen] at k
  generalize hT:(fun x=>mt (cEnv ρ js x))=T at k
  generalize hF:(fun x=>me (cEnv ρ js x))=F at k
  cases ec:compM T F ds with
  | no=>rw[ec] at k;exact k.elim
  | ex c =>
   exfalso
   have nex:∀xs c,compM T F xs ≠ .ex c:=by
    intro xs
    induction xs with
    | nil=>intro c z;cases z
    | cons x xs ih =>
     intro c z
     rw[compM] at z
     cases e1:noEx (T x) with
     | no=>rw[e1] at z;cases z
     | ex c'=>cases hx:T x <;> rw[hx] at e1 <;> cases e1
     | ok b =>
      rw[e1,Res.bind_ok] at z
      cases b with
      | false=>exact ih c z
      | true =>
       simp only[if_true] at z
       cases e2:noEx (F x) with
       | no=>rw[e2] at z;cases z
       | ex c'=>cases hx:F x <;> rw[hx] at e2 <;> cases e2
       | ok y =>
        rw[e2,Res.bind_ok] at z
        cases e3:compM T F xs with
        | no=>rw[e3] at z;cases z
        | ex c'=>exact ih c' e3
        | ok ys=>rw[e3] at z;cases z
   exact nex ds c ec
  | ok out =>
   rw[ec,Res.bind_ok] at k
   refine⟨fun i m acc H=>m=ds.length-i/\i<=ds.length/\Same H1 H/\∃done rest,Reps H (Uni Oc Ob) acc done/\acc.length<=i/\compM T F (ds.drop i)=.ok rest/\done++rest=out,⟨_,rfl,Bk _,Same.refl _,[],out,.nil,Ab _,ec,rfl⟩,?_⟩
   rintro i m acc H2 ⟨rfl,hi,s2,done,rest,ra,la,er,eo⟩
   obtain⟨w1,w2⟩:=wk H2 s2 i
   have R2:=(R.same s1).same s2
   by_cases hlt:i<ds.length
   ·obtain⟨go,yl⟩:=w1 ds[i] (Ae hlt)
    have ed:ds.drop i=ds[i]::ds.drop (i+1):=Cw hlt
    rw[ed,compM] at er
    have nxt:∀(acc':List V) (H3:Hp) (done' rest':List D),Same H2 H3->Reps H3 (Uni Oc Ob) acc' done'->acc'.length<=i+1->compM T F (ds.drop (i+1))=.ok rest'->done'++rest'=out ->
      ∃m',m'<ds.length-i/\(m'=ds.length-(i+1)/\i+1<=ds.length/\Same H1 H3/\∃done rest,Reps H3 (Uni Oc Ob) acc' done/\acc'.length<=i+1/\compM T F (ds.drop (i+1))=.ok rest/\done++rest=out) :=
     fun acc' H3 done' rest' s3 r3 l3 c3 o3=>⟨_,by rfl',rfl,hlt,s2.trans s3,done',rest',r3,l3,c3,o3⟩
    refine .inr ⟨go,fun acc' H'=>∃m',m'<ds.length-i/\(m'=ds.length-(i+1)/\i+1<=ds.length/\Same H1 H'/\∃done rest,Reps H' (Uni Oc Ob) acc' done/\acc'.length<=i+1/\compM T F (ds.drop (i+1))=.ok rest/\done++rest=out),fun acc' H' z=>z,fun x H3 hy => ?_⟩
    obtain⟨s3,rx⟩:=yl x H3 hy
    have R3:=(R2.same s3).comp (js:=js) rx
    cases e1:noEx (T ds[i]) with
    | no=>rw[e1] at er;cases er
    | ex c=>rw[e1] at er;cases er
    | ok b =>
     rw[e1,Res.bind_ok] at er
     have t1:mt (cEnv ρ js ds[i])=.ok b:=by
      have t1:=zR4 e1
      rw[<-hT] at t1
      exact t1
     refine qt _ _ _ H3 _ _ R3 ?_
     show (mt (cEnv ρ js ds[i])).post _ _
     rw[t1]
     intro H4 s4
     cases b with
     | false=>exact iteF (nxt acc H4 done rest (s3.trans s4) (ra.same (s3.trans s4)) (by rfl') er eo)
     | true =>
      refine iteT ?_
      simp only[if_true] at er
      cases e2:noEx (F ds[i]) with
      | no=>rw[e2] at er;cases er
      | ex c=>rw[e2] at er;cases er
      | ok y =>
       rw[e2,Res.bind_ok] at er
       have t2:me (cEnv ρ js ds[i])=.ok y:=by
        have t2:=zR4 e2
        rw[<-hF] at t2
        exact t2
       refine qe _ _ _ H4 _ _ (R3.same s4) ?_
       show (me (cEnv ρ js ds[i])).post _ _
       rw[t2]
       intro v H5 s5 rv
       refine⟨by rfl',?_⟩
       obtain⟨ys,e3⟩:∃ys,compM T F (ds.drop (i+1))=.ok ys:=by
        cases e3:compM T F (ds.drop (i+1)) with
        | no=>rw[e3] at er;cases er
        | ex c=>rw[e3] at er;cases er
        | ok ys=>exact⟨ys,rfl⟩
       rw[e3,Res.bind_ok] at er
       cases er
       have rv':Rep H5 (Uni Oc Ob) v y:=Rep.less rv fun b z=>.inl z
       refine nxt (acc ++ [v]) H5 (done ++ [y]) ys ((s3.trans s4).trans s5) ((ra.same ((s3.trans s4).trans s5)).append (.one rv')) (by rw[An,Bm];rfl') e3 ?_
       rw[Bh]
       exact eo
   ·have ei:i=ds.length:=by rfl'
    subst ei
    refine .inl ⟨w2 (Ab _),fun p hp => ?_⟩
    rw[CG] at er
    cases er
    rw[BC] at eo
    subst eo
    exact k _ _ ((s1.trans s2).trans (Same.new hp)) (wN (s1.trans s2) hp ra)
 ·rw[Ah hlen] at k
  exact k.elim
theorem wP{C:Ct}{elt iter:Expr}{ifs:List Expr}{sc0 scope:Scope}{N0:List Str}{px pos:Pos}{xt:Str}{fs:List Str}{js:List Nat}{mi:Ev->Res (List D)}{mt:Ev->Res Bool}{me:Ev->Res D}(S:CompScope sc0 scope N0 xt fs js)(h0:C.X.env.scope=sc0)(hN0:C.X.N=N0)(hc:C.X.calm=true)
  (hi:RIc C (.Name xt px) iter mi) (ht:∀A fp s₂ H,RTs (cC C (xt::fs) scope A fp s₂ H js) ifs mt) (he:∀A fp s₂ H,RE (cC C (xt::fs) scope A fp s₂ H js) .cl elt me)
  (hs:autoParam (∀x,foldedSetIterable iter C.X.env x=pure x) DZ) :
  RE C .new (.ListComp elt [⟨.Name xt px,iter,ifs,0⟩] scope pos) (eComp mi mt me js):=by
 obtain⟨wi,pi,qi⟩:=hi
 refine⟨_,wR8 (tt:=fun A fp s H=>Classical.choose (ht A fp s H)) (te:=fun A fp s H=>Classical.choose (he A fp s H)) S h0 hN0 hc pi (fun A fp s H=>(Bd (ht A fp s H)).1) (fun A fp s H=>(Bd (he A fp s H)).1) hs,fun Oc Ob σ H ρ Q R h=>yU4 qi ht he R h⟩
section
variable {C:Ct}{fr:Bool}{e c:Expr}{pos:Pos}{md:Md}{me:Ev->Res D}{mt:Ev->Res Bool}{st:Stmt}{sts rest:List Stmt}{m n:Ev->Res Out}
def sN:Ev->Res Out:=fun ρ=>.ok (.nx ρ)
def sQ(m n:Ev->Res Out):Ev->Res Out:=fun ρ=>(m ρ).bind fun o=>match o with
 | .nx ρ'=>n ρ'
 | .rt d=>.ok (.rt d)
theorem yZ:RSs C fr [] sN:=⟨_,zQ5,fun Oc Ob σ H ρ E R h=>h σ H Ob R (Same.frm (Same.refl H)) fun b z=>.inl z⟩
theorem zS(h:RS C fr st m):RSs C fr [st] m:=by
 obtain⟨t,p,q⟩:=h
 exact⟨_,qL p,q⟩
theorem zW(h:RS C fr st m)(hr:RSs C fr rest n):RSs C fr (st::rest) (sQ m n):=by
 obtain⟨t,p,q⟩:=h
 obtain⟨t',p',q'⟩:=hr
 refine⟨_,xD p p',fun Oc Ob σ H ρ E R h=>q Oc Ob σ H ρ _ R (Res.zQ (Res.zT h) (fun o _ k => ?_) fun _ z=>z)⟩
 cases o with
 | rt d=>exact k
 | nx ρ'=>exact fun σ' H' Ob' R' f s=>q' Oc Ob' σ' H' ρ' E R' (SPost.step f s k)
def sX:Ev->Res Out:=fun _=>.no
theorem zL9:RS C fr st sX:=⟨_,xI9,fun Oc Ob σ H ρ E R h=>h.elim⟩
def sIf(t:Ev->Res Bool)(m n:Ev->Res Out):Ev->Res Out:=fun ρ=>(t ρ).bind fun b=>if b then m ρ else n ρ
theorem yN{x y:List Stmt}(hc:RT C c mt)(hx:RSs C fr x m)(hy:RSs C fr y n):RS C fr (.If c x y pos) (sIf mt m n):=by
 obtain⟨t,p,q⟩:=hc
 obtain⟨t1,p1,q1⟩:=hx
 obtain⟨t2,p2,q2⟩:=hy
 refine⟨_,yR5 p p1 p2,fun Oc Ob σ H ρ E R h=>q Oc Ob σ H ρ _ R (Res.zQ (Res.zT h) (fun b _ k H' s => ?_) fun c z H' s=>z H' (Same.frm s))⟩
 cases b with
 | true=>exact iteT (q1 Oc Ob σ H' ρ E (R.same s) (SPost.same s k))
 | false=>exact iteF (q2 Oc Ob σ H' ρ E (R.same s) (SPost.same s k))
def sR(m:Ev->Res D):Ev->Res Out:=fun ρ=>(m ρ).bind fun d=>.ok (.rt d)
theorem zE(he:RE C .cl e me):RS C false (.Return (some e) pos) (sR me):=by
 obtain⟨t,p,q⟩:=he
 refine⟨_,zW9 p,fun Oc Ob σ H ρ E R h=>q Oc Ob σ H ρ _ R (Res.zQ (Res.zT h) (fun d _ k v H' s r => ?_) fun c z H' s=>z H' (Same.frm s))⟩
 exact k v H' (Same.frm s) (Rep.less r fun b z=>.inl z)
theorem zQ2(i:Nat){x:Str}{p':Pos}(hN:autoParam (C.X.N[i]?=some x) Eb)(ho:autoParam (C.om.contains i=true) Eb)(hv:autoParam (Vis C.X.env.scope x) DY)(hd:autoParam ((x == ("__debug__":Str))=false) Ea)
  (hcd:autoParam ((x == ("__classdict__":Str))=false) Ea):RS C true (.Return (some (.Name x p')) pos) (sR (eV i)):=by
 refine⟨_,zW9 (jY hN hv hd hcd),fun Oc Ob σ H ρ E R h => ?_⟩
 obtain⟨d,e,k⟩:=uO (Res.zT h)
 obtain⟨v,q,a,ys,ds,e1,e2,e3,e4,e5⟩:=R.own i d e (wJ ho)
 exact⟨v,q,k v H (Same.frm (Same.refl H)) ⟨a,ys,ds,e1,e2,.inr e4,R.ap a e4,e3,e5.less fun b z=>z.elim .inl fun z=>.inr (by subst z;exact e4)⟩⟩
theorem xW{α:Type}{l:List (Option α)}{i j:Nat}{v d:α}(h:(l.set i (some v))[j]?=some (some d)):(j=i/\d=v)\/(j≠i/\l[j]?=some (some d)):=by
 by_cases e:i=j
 ·subst e
  rw[List.getElem?_set_self'] at h
  cases q:l[i]? with
  | none=>rw[q] at h;cases h
  | some z=>rw[q] at h;cases h;exact .inl ⟨rfl,rfl⟩
 ·rw[AO e] at h
  exact .inr ⟨fun z=>e z.symm,h⟩
theorem zE6{α:Type}{l:List (Option α)}{i j:Nat}{v d:α}(h:(l.set i (some v))[j]?=some (some d)):j<l.length:=by
 have:=(Au.mp h).1
 simpa using this
theorem Rel.set{Oc:Wd}{Ob:Addr->Prop}{om ln:List Nat}{σ:St}{H:Hp}{ρ:Ev}{i:Nat}{v:V}{d:D}(R:Rel Oc Ob om ln σ H ρ)(ho:i∉om)(hl:i∉ln)(r:Rep H (Uni Oc Ob) v d):Rel Oc Ob om ln (σ.set i (some v)) H (ρ.set i (some d)) where
 len:=by rw[Cy,Cy];exact R.len
 val:=fun j d' e h1 h2=>by
  have hj:=zE6 e
  rcases xW e with ⟨rfl,rfl⟩ | ⟨ne,e⟩
  ·exact⟨v,by rw[BE (by rw[R.len];exact hj)],r⟩
  ·obtain⟨w,q,k⟩:=R.val j d' e h1 h2
   exact⟨w,by rw[AO (fun z=>ne z.symm)];exact q,k⟩
 own:=fun j d' e h1=>by
  rcases xW e with ⟨rfl,rfl⟩ | ⟨ne,e⟩
  ·exact absurd h1 ho
  ·obtain⟨w,q,k⟩:=R.own j d' e h1
   exact⟨w,by rw[AO (fun z=>ne z.symm)];exact q,k⟩
 lnt:=fun j d' e h1 h2=>by
  rcases xW e with ⟨rfl,rfl⟩ | ⟨ne,e⟩
  ·exact absurd h2 hl
  ·obtain⟨w,q,k⟩:=R.lnt j d' e h1 h2
   exact⟨w,by rw[AO (fun z=>ne z.symm)];exact q,k⟩
 inj:=fun j k dj dk a ej ek hj hk qj qk=>by
  rcases xW ej with ⟨rfl,rfl⟩ | ⟨nj,ej⟩
  ·exact absurd hj ho
  ·rcases xW ek with ⟨rfl,rfl⟩ | ⟨nk,ek⟩
   ·exact absurd hk ho
   ·rw[AO (fun z=>nj z.symm)] at qj
    rw[AO (fun z=>nk z.symm)] at qk
    exact R.inj j k dj dk a ej ek hj hk qj qk
 oh:=R.oh
 ap:=R.ap
theorem Rel.setO{Oc:Wd}{Ob:Addr->Prop}{om ln:List Nat}{σ:St}{H H':Hp}{ρ:Ev}{i:Nat}{v:V}{d:D}(R:Rel Oc Ob om ln σ H ρ)(s:Same H H')(ho:i∈om)(r:VR .new Oc Ob H H' v d):∃a,H a=none/\Rel Oc (fun b=>Ob b\/b=a) om ln (σ.set i (some v)) H' (ρ.set i (some d)):=by
 obtain⟨a,ys,ds,rfl,rfl,e3,e4,e5⟩:=r
 have up:∀{vs:List V}{es:List D},Reps H (Uni Oc Ob) vs es->Reps H' (Uni Oc fun b=>Ob b\/b=a) vs es:=fun r=>r.keep (fun b o e _=>s b o e) fun b n z=>z.elim .inl fun z=>z.elim .inr fun z=>by subst z;exact absurd e3 n
 have up1:∀{v:V}{e:D},Rep H (Uni Oc Ob) v e->Rep H' (Uni Oc fun b=>Ob b\/b=a) v e:=fun r=>r.keep (fun b o e _=>s b o e) fun b n z=>z.elim .inl fun z=>z.elim .inr fun z=>by subst z;exact absurd e3 n
 refine⟨a,e3,?_,fun j d' e h1 h2 => ?_,fun j d' e h1 => ?_,fun j d' e h1 h2 => ?_,fun j k dj dk b ej ek hj hk qj qk => ?_,fun b z => ?_,fun b z => ?_⟩
 ·rw[Cy,Cy];exact R.len
 ·rcases xW e with ⟨rfl,rfl⟩ | ⟨ne,e⟩
  ·exact absurd ho h1
  ·obtain⟨w,q,k⟩:=R.val j d' e h1 h2
   exact⟨w,by rw[AO (fun z=>ne z.symm)];exact q,up1 k⟩
 ·have hj:=zE6 e
  rcases xW e with ⟨rfl,rfl⟩ | ⟨ne,e⟩
  ·refine⟨.ref a,by rw[BE (by rw[R.len];exact hj)],a,ys,ds,rfl,rfl,e4,.inr rfl,e5.less fun b z=>z.elim (fun z=>.inl (.inl z)) fun z=>z.elim (fun z=>.inl (.inr z)) .inr⟩
  ·obtain⟨w,q,b,zs,fs,z1,z2,z3,z4,z5⟩:=R.own j d' e h1
   exact⟨w,by rw[AO (fun z=>ne z.symm)];exact q,b,zs,fs,z1,z2,s _ _ z3,.inl z4,up z5⟩
 ·rcases xW e with ⟨rfl,rfl⟩ | ⟨ne,e⟩
  ·exact absurd ho h1
  ·obtain⟨w,q,zs,fs,z1,z2,z3,z4,z5⟩:=R.lnt j d' e h1 h2
   exact⟨w,by rw[AO (fun z=>ne z.symm)];exact q,zs,fs,z1,z2,s _ _ z3,z4,up z5⟩
 ·have lj:=zE6 ej
  have lk:=zE6 ek
  rcases xW ej with ⟨rfl,rfl⟩ | ⟨nj,ej'⟩
  ·rw[BE (by rw[R.len];exact lj)] at qj
   cases qj
   rcases xW ek with ⟨rfl,rfl⟩ | ⟨nk,ek'⟩
   ·rfl
   ·rw[AO (fun z=>nk z.symm)] at qk
    obtain⟨w,q,b,zs,fs,z1,z2,z3,z4,z5⟩:=R.own k dk ek' hk
    rw[qk] at q
    cases q
    cases z1
    rw[e3] at z3
    cases z3
  ·rw[AO (fun z=>nj z.symm)] at qj
   rcases xW ek with ⟨rfl,rfl⟩ | ⟨nk,ek'⟩
   ·rw[BE (by rw[R.len];exact lk)] at qk
    cases qk
    obtain⟨w,q,b,zs,fs,z1,z2,z3,z4,z5⟩:=R.own j dj ej' hj
    rw[qj] at q
    cases q
    cases z1
    rw[e3] at z3
    cases z3
   ·rw[AO (fun z=>nk z.symm)] at qk
    exact R.inj j k dj dk b ej' ek' hj hk qj qk
 ·rcases z with z | z | rfl
  ·exact Same.ne s (R.oh b (.inl z))
  ·exact Same.ne s (R.oh b (.inr z))
  ·rw[e4];exact fun z=>nomatch z
 ·rcases z with z | rfl
  ·exact R.ap b z
  ·exact fun z=>R.oh b (.inl z) e3
def sS(i:Nat)(m:Ev->Res D):Ev->Res Out:=fun ρ=>(m ρ).bind fun d=>.ok (.nx (ρ.set i (some d)))
theorem zK(i:Nat){x:Str}{p':Pos}(nd:C.X.N.Nodup)(he:RE C .cl e me)(hi:autoParam (C.X.N[i]?=some x) Eb)(ho:autoParam (C.om.contains i=false) Eb)(hl:autoParam (C.ln.contains i=false) Eb)(hx:autoParam (Loc C.X.env.scope x) aP._auto_1)
  (hs:autoParam (swapsWith e (some (.Name x p')) pos.line C.X.env=pure false) Eb) (hf:autoParam (C.X.fn x=true\/C.X.env.scope.names.lookup x=some .local) autoK12._auto_1):RS C fr (.Assign [.Name x p'] e pos) (sS i me):=by
 obtain⟨t,p,q⟩:=he
 refine⟨_,kY nd hi hx p hs hf,fun Oc Ob σ H ρ E R h=>q Oc Ob σ H ρ _ R (Res.zQ (Res.zT h) (fun d _ k v H' s r => ?_) fun c z H' s=>z H' (Same.frm s))⟩
 exact k _ H' Ob ((R.same s).set (xS ho) (xS hl) r) (Same.frm s) fun b z=>.inl z
theorem wO(i:Nat){x:Str}{p':Pos}(nd:C.X.N.Nodup)(he:RE C .new e me)(hi:autoParam (C.X.N[i]?=some x) Eb)(ho:autoParam (C.om.contains i=true) Eb)(hx:autoParam (Loc C.X.env.scope x) aP._auto_1)
  (hs:autoParam (swapsWith e (some (.Name x p')) pos.line C.X.env=pure false) Eb) (hf:autoParam (C.X.fn x=true\/C.X.env.scope.names.lookup x=some .local) autoK12._auto_1):RS C fr (.Assign [.Name x p'] e pos) (sS i me):=by
 obtain⟨t,p,q⟩:=he
 refine⟨_,kY nd hi hx p hs hf,fun Oc Ob σ H ρ E R h=>q Oc Ob σ H ρ _ R (Res.zQ (Res.zT h) (fun d _ k v H' s r => ?_) fun c z H' s=>z H' (Same.frm s))⟩
 obtain⟨a,ha,R'⟩:=R.setO s (wJ ho) r
 exact k _ H' _ R' (Same.frm s) fun b z=>z.elim .inl fun z=>.inr (by subst z;exact ha)
theorem fU(i:Nat){x:Str}{p':Pos}{op:Operator}{r:R2}{f:D->D->Option D}(nd:C.X.N.Nodup)(hop:OpR C.X (inplaceOp op) r)(hp:Pr2 r .cl f)(he:RE C md e me)(hi:autoParam (C.X.N[i]?=some x) Eb)(ho:autoParam (C.om.contains i=false) Eb)(hl:autoParam (C.ln.contains i=false) Eb)(hx:autoParam (Loc C.X.env.scope x) aP._auto_1)
  (hf:autoParam (C.X.fn x=true\/C.X.env.scope.names.lookup x=some .local) autoK12._auto_1):RS C fr (.AugAssign (.Name x p') op e pos) (sS i (e2 f (eV i) me)):=by
 obtain⟨t,p,q⟩:=he
 refine⟨_,wQ6 (ti:=r) nd hi hx p hop hf,fun Oc Ob σ H ρ E R h => ?_⟩
 obtain⟨d,ed,k⟩:=uO (Res.zT (Res.zT h))
 obtain⟨v,qv,rv⟩:=R.val i d ed (xS ho) (xS hl)
 refine⟨v,qv,q Oc Ob σ H ρ _ R (Res.zQ (Res.zT k) (fun d' _ k v' H' s r' => ?_) fun c z H' s=>z H' (Same.frm s))⟩
 obtain⟨d2,e,k⟩:=Res.zF k
 refine hp Oc Ob H' v v' d d' d2 _ (R.same s).oh (.inl (rv.same s)) (r'.va R.oh) e fun w H2 s2 rw' => ?_
 exact k _ H2 Ob ((R.same (s.trans s2)).set (xS ho) (xS hl) rw') (Same.frm (s.trans s2)) fun b z=>.inl z
def sE(m:Ev->Res D):Ev->Res Out:=fun ρ=>(m ρ).bind fun _=>.ok (.nx ρ)
theorem dL(he:RE C md e me)(hs:autoParam (swapsWith e none pos.line C.X.env=pure false) Eb):RS C fr (.Expr e pos) (sE me):=by
 obtain⟨t,p,q⟩:=he
 refine⟨_,dO p hs,fun Oc Ob σ H ρ E R h=>q Oc Ob σ H ρ _ R (Res.zQ (Res.zT h) (fun d _ k v H' s r => ?_) fun c z H' s=>z H' (Same.frm s))⟩
 exact k σ H' Ob (R.same s) (Same.frm s) fun b z=>.inl z
theorem Rel.write{Oc:Wd}{Ob:Addr->Prop}{om ln:List Nat}{σ:St}{H:Hp}{ρ:Ev}{i:Nat}{a:Addr}{ys ys':List V}{d:D}{ds':List D}(R:Rel Oc Ob om ln σ H ρ)(ho:i∈om)(ed:ρ[i]?=some (some d))(es:σ[i]?=some (some (.ref a)))(ha:H a=some (.lst ys))(hb:Ob a)
  (r:Reps H (Uni Oc Ob) ys' ds'):Rel Oc Ob om ln σ (upd H a (.lst ys')) (ρ.set i (some (.list ds'))):=by
 have kp:∀b o,H b=some o->¬Uni Oc Ob b->upd H a (.lst ys') b=some o:=fun b o e n=>by
  rw[zG (fun z=>n (by subst z;exact .inr hb))];exact e
 have up:∀{vs:List V}{es:List D},Reps H (Uni Oc Ob) vs es->Reps (upd H a (.lst ys')) (Uni Oc Ob) vs es:=fun r=>r.keep kp fun b n z=>z
 have up1:∀{v:V}{e:D},Rep H (Uni Oc Ob) v e->Rep (upd H a (.lst ys')) (Uni Oc Ob) v e:=fun r=>r.keep kp fun b n z=>z
 have li:i<σ.length:=(Au.mp es).1
 refine⟨by rw[Cy];exact R.len,fun j d' e h1 h2 => ?_,fun j d' e h1 => ?_,fun j d' e h1 h2 => ?_,fun j k dj dk b ej ek hj hk qj qk => ?_,fun b z => ?_,R.ap⟩
 ·rcases xW e with ⟨rfl,rfl⟩ | ⟨ne,e⟩
  ·exact absurd ho h1
  ·obtain⟨w,q,k⟩:=R.val j d' e h1 h2
   exact⟨w,q,up1 k⟩
 ·rcases xW e with ⟨rfl,rfl⟩ | ⟨ne,e⟩
  ·exact⟨.ref a,es,a,ys',ds',rfl,rfl,yP,hb,up r⟩
  ·obtain⟨w,q,b,zs,fs,rfl,z2,z3,z4,z5⟩:=R.own j d' e h1
   have nb:b≠a:=fun z=>by subst z;exact ne (R.inj j i d' d b e ed h1 ho q es)
   exact⟨_,q,b,zs,fs,rfl,z2,by rw[zG nb];exact z3,z4,up z5⟩
 ·rcases xW e with ⟨rfl,rfl⟩ | ⟨ne,e⟩
  ·exact absurd ho h1
  ·obtain⟨w,q,zs,fs,z1,z2,z3,z4,z5⟩:=R.lnt j d' e h1 h2
   have nb:Oc.la j≠a:=fun z=>R.ap a hb (z▸z4)
   exact⟨_,q,zs,fs,z1,z2,by rw[zG nb];exact z3,z4,up z5⟩
 ·have get:∀j dj,(ρ.set i (some (.list ds')))[j]?=some (some dj)->∃d,ρ[j]?=some (some d):=fun j dj e=>by
   rcases xW e with ⟨rfl,rfl⟩ | ⟨ne,e⟩
   ·exact⟨d,ed⟩
   ·exact⟨dj,e⟩
  obtain⟨d1,e1⟩:=get j dj ej
  obtain⟨d2,e2⟩:=get k dk ek
  exact R.inj j k d1 d2 b e1 e2 hj hk qj qk
 ·by_cases h:b=a
  ·subst h;rw[yP];exact fun z=>nomatch z
  ·rw[zG h];exact R.oh b z
def PrM(r:V->List V->Hp->VK->Prop)(g:List D->List D->Option (List D)):Prop :=
 ∀(O:Addr->Prop) (H:Hp) (l:Addr) (xs vs:List V) (xd ad ds':List D) (Q:VK),H l=some (.lst xs)->Reps H O xs xd->Reps H O vs ad->g xd ad=some ds'->(∀xs',Reps H O xs' ds'->Q .non (upd H l (.lst xs')))->r (.ref l) vs H Q
def lstD:D->Option (List D)
 | .list ds=>some ds
 | _=>none
def sM(i:Nat)(g:List D->List D->Option (List D))(m:Ev->Res (List D)):Ev->Res Out:=fun ρ=>(eV i ρ).bind fun d=>(Res.lft (lstD d)).bind fun xd=>(m ρ).bind fun ad=>(Res.lft (g xd ad)).bind fun ds=>.ok (.nx (ρ.set i (some (.list ds))))
theorem qU{d:D}{ds:List D}(h:lstD d=some ds):d=.list ds:=by
 cases d <;> simp[lstD] at h ⊢
 exact h
theorem jG(i:Nat){x name:Str}{id:String}{a:Expr}{es:List Expr}{ms:Ev->Res (List D)}{p' apos cpos:Pos}{r:V->List V->Hp->VK->Prop}{g:List D->List D->Option (List D)}(slot:Slot "list" name id)(hty:typeOf (.builtin id)=pure (.type "method_descriptor"))(hm:MtR C.X id r)(hp:PrM r g)(ha:RArg C true (a::es) ms)
  (hN:autoParam (C.X.N[i]?=some x) Eb) (ho:autoParam (C.om.contains i=true) Eb) (hv:autoParam (Vis C.X.env.scope x) DY) (hd:autoParam ((x == ("__debug__":Str))=false) Ea) (hcd:autoParam ((x == ("__classdict__":Str))=false) Ea)
  (hbase:autoParam (attributeBase (.Name x p') name C.X.env (eval (.Name x p') C.X.env)=eval (.Name x p') C.X.env) Eb)
  (hfew:((backTo cpos (starEach (a::es) C.X.env)).all (fun x=>!x.1)&&(backToKw cpos (keywordEach [] C.X.env)).all (fun x=>x.1.isSome)
  &&decide ((a::es).length+([]:List Keyword).length+(if ([]:List Keyword).isEmpty then 0 else 1)<30))=true:=by rfl)
  (hline:autoParam ((apos.endLine == cpos.line)=true) Eb) (hs:autoParam (starEach (a::es) C.X.env=(false,eval a C.X.env)::starEach es C.X.env) Eb) (hplain:autoParam ((backTo cpos (starEach es C.X.env)).any (·.1)=false) Eb)
  (hsw:autoParam (swapsWith (.Call (.Attribute (.Name x p') name apos) (a::es) [] cpos) none pos.line C.X.env=pure false) Eb) :
  RS C fr (.Expr (.Call (.Attribute (.Name x p') name apos) (a::es) [] cpos) pos) (sM i g ms):=by
 obtain⟨t,p,q⟩:=ha
 refine⟨_,dO (zZ3 BP slot hty hm (jY hN hv hd hcd) p hbase hfew hline hs hplain) hsw,fun Oc Ob σ H ρ E R h => ?_⟩
 obtain⟨d,ed,k⟩:=uO (Res.zT h)
 obtain⟨xd,ex,k⟩:=Res.zF (Res.zT k)
 obtain rfl:=qU ex
 obtain⟨v,qv,l,ys,ds,rfl,e2,e3,e4,e5⟩:=R.own i _ ed (wJ ho)
 cases e2
 refine⟨_,qv,.inl ⟨rfl,_,SqL.of e3⟩,q Oc Ob σ H ρ _ R (Res.zQ (Res.zT k) (fun ad _ k vs H' s r' => ?_) fun c z H' s=>z H' (Same.frm s))⟩
 obtain⟨ds',eg,k⟩:=Res.zF (Res.zT k)
 refine hp _ H' l ys vs xd ad ds' _ (s _ _ e3) (e5.same s) r' eg fun xs' rx => ?_
 refine k _ _ Ob ((R.same s).write (wJ ho) ed qv (s _ _ e3) e4 rx) (fun b o e n => ?_) fun b z=>.inl z
 rw[zG (fun z=>n (by subst z;exact e4))]
 exact s b o e
end
def RG(C:Ct)(tg:Expr)(g:D->Ev->Option Ev):Prop :=
 ∃t,PG C.X tg t/\∀(Oc:Wd) (Ob:Addr->Prop) (σ:St) (H:Hp) (ρ ρ':Ev) (v:V) (d:D) (Q:St->Hp->Prop),Rel Oc Ob C.om C.ln σ H ρ->Rep H (Uni Oc Ob) v d->g d ρ=some ρ'->(∀σ',Rel Oc Ob C.om C.ln σ' H ρ'->Q σ' H)->t v σ H Q
def gN(i:Nat):D->Ev->Option Ev:=fun d ρ=>some (ρ.set i (some d))
section
variable {C:Ct}{fr:Bool}{e c:Expr}{es:List Expr}{pos:Pos}{md:Md}{me:Ev->Res D}{mt:Ev->Res Bool}{st:Stmt}{body sts rest:List Stmt}{m n:Ev->Res Out}{mi:Ev->Res (List D)}{g:D->Ev->Option Ev}
theorem yV(i:Nat){x:Str}(nd:C.X.N.Nodup)(hi:autoParam (C.X.N[i]?=some x) Eb)(ho:autoParam (C.om.contains i=false) Eb)(hl:autoParam (C.ln.contains i=false) Eb)(hx:autoParam (Loc C.X.env.scope x) aP._auto_1)
  (hf:autoParam (C.X.fn x=true\/C.X.env.scope.names.lookup x=some .local) autoK12._auto_1):RG C (.Name x pos) (gN i):=by
 refine⟨_,dF nd hi hx hf,fun Oc Ob σ H ρ ρ' v d Q R r e k => ?_⟩
 cases e
 exact k _ (R.set (xS ho) (xS hl) r)
def RGs(C:Ct)(ts:List Expr)(g:List D->Ev->Option Ev):Prop :=
 ∃t,PGs C.X ts t/\∀(Oc:Wd) (Ob:Addr->Prop) (σ:St) (H:Hp) (ρ ρ':Ev) (vs:List V) (ds:List D) (Q:St->Hp->Prop),Rel Oc Ob C.om C.ln σ H ρ->Reps H (Uni Oc Ob) vs ds->g ds ρ=some ρ'->(∀σ',Rel Oc Ob C.om C.ln σ' H ρ'->Q σ' H)->t vs σ H Q
def gsN:List D->Ev->Option Ev
 | [],ρ=>some ρ
 | _,_=>none
def gsC(g:D->Ev->Option Ev)(h:List D->Ev->Option Ev):List D->Ev->Option Ev
 | d::ds,ρ=>(g d ρ).bind fun ρ1=>h ds ρ1
 | [],_=>none
theorem yB7:RGs C [] gsN:=by
 refine⟨_,yC1,fun Oc Ob σ H ρ ρ' vs ds Q R r e k => ?_⟩
 cases r with
 | nil=>cases e;exact⟨rfl,k σ R⟩
 | cons=>cases e
theorem jP{h:List D->Ev->Option Ev}(h1:RG C e g)(h2:RGs C es h)(hs:autoParam ((assignEach (e::es) C.X.env).map (·.2)=assign e C.X.env::(assignEach es C.X.env).map (·.2)) Eb):RGs C (e::es) (gsC g h):=by
 obtain⟨t,p,q⟩:=h1
 obtain⟨t',p',q'⟩:=h2
 refine⟨_,zK7 p p' hs,fun Oc Ob σ H ρ ρ' vs ds Q R r e k => ?_⟩
 cases r with
 | nil=>cases e
 | cons r rs =>
  obtain⟨ρ1,e1,e2⟩:=AC.mp e
  exact⟨_,_,rfl,q Oc Ob σ H ρ ρ1 _ _ _ R r e1 fun σ' R'=>q' Oc Ob σ' H ρ1 ρ' _ _ Q R' rs e2 k⟩
def gT(n:Nat)(h:List D->Ev->Option Ev):D->Ev->Option Ev
 | .tuple ds,ρ=>if ds.length=n then h ds ρ else none
 | _,_=>none
theorem xP4{k n:Nat}{h:List D->Ev->Option Ev}(hc:C.X.calm=true)(hg:RGs C es h)(hn:autoParam ((assignEach es C.X.env).length=n) Eb)(hst:autoParam ((assignEach es C.X.env).findIdx? (·.1)=none) Eb):RG C (.Tuple es k pos) (gT n h):=by
 obtain⟨t,p,q⟩:=hg
 refine⟨_,xR8 hc p hn hst,fun Oc Ob σ H ρ ρ' v d Q R r e k => ?_⟩
 cases r with
 | tup rd no rs =>
  unfold gT at e
  simp only at e
  split at e
  ·rename_i hl
   exact⟨_,_,rfl,.inl rd,by rw[rs.length];exact hl,q Oc Ob σ H ρ ρ' _ _ Q R rs e k⟩
  ·cases e
 | _=>cases e
theorem wO4{tg:Expr}(he:RE C .cl e me)(hg:RG C tg g)(hs:autoParam (swapsWithSole [tg] e pos.line C.X.env=pure false) Eb)(hw:autoParam (swappedStores [tg] e C.X.env=pure none) Eb)
  (h1:autoParam ((assignEach [tg] C.X.env).map (·.2)=[assign tg C.X.env]) Eb):RS C fr (.Assign [tg] e pos) (fun ρ=>(me ρ).bind fun d=>(Res.lft (g d ρ)).bind fun ρ'=>.ok (.nx ρ')):=by
 obtain⟨t,p,q⟩:=he
 obtain⟨t',p',q'⟩:=hg
 refine⟨_,xT4 p p' hs hw h1,fun Oc Ob σ H ρ E R h=>q Oc Ob σ H ρ _ R (Res.zQ (Res.zT h) (fun d _ k v H' s r => ?_) fun c z H' s=>z H' (Same.frm s))⟩
 obtain⟨ρ',e,k⟩:=Res.zF (Res.zT k)
 exact q' Oc Ob σ H' ρ ρ' v d _ (R.same s) r e fun σ' R'=>k σ' H' Ob R' (Same.frm s) fun b z=>.inl z
def forM(g:D->Ev->Option Ev)(b:Ev->Res Out):List D->Ev->Res Out
 | [],ρ=>.ok (.nx ρ)
 | x::xs,ρ=>(Res.lft (g x ρ)).bind fun ρ1=>(b ρ1).bind fun o=>match o with
  | .nx ρ2=>forM g b xs ρ2
  | .rt d=>.ok (.rt d)
def sF(mi:Ev->Res (List D))(g:D->Ev->Option Ev)(b:Ev->Res Out):Ev->Res Out:=fun ρ=>(mi ρ).bind fun ds=>forM g b ds ρ
theorem xU{tg iter:Expr}(hi:RI C tg iter mi)(hg:RG C tg g)(hb:RSs C fr body m)(hp:autoParam (PassesOwn (model C.X.prog C.X.w) C.X.A C.X.env C.X.xe) autoK13._auto_1)(hc:autoParam (C.X.calm=true) Eb)
  (hs:autoParam (∀x,foldedSetIterable iter C.X.env x=pure x) DZ):RS C fr (.For tg iter body [] pos) (sF mi g m):=by
 obtain⟨wi,pi,qi⟩:=hi
 obtain⟨tg',pg,qg⟩:=hg
 obtain⟨tb,pb,qb⟩:=hb
 refine⟨_,zH5 hp hc pi pg pb hs,fun Oc Ob σ H ρ E R h=>qi Oc Ob σ H ρ _ R (Res.zQ (Res.zT h) (fun ds _ k J H1 s1 wk => ?_) fun c z H' s=>z H' (Same.frm s))⟩
 refine⟨fun i mm σ' H'=>mm=ds.length-i/\i<=ds.length/\∃ρi Obi,Rel Oc Obi C.om C.ln σ' H' ρi/\Frm Ob H1 H'/\(∀b,Obi b->Ob b\/H1 b=none)/\SPost C fr Oc Obi H' E (forM g m (ds.drop i) ρi),
  ⟨_,rfl,Bk _,ρ,Ob,R.same s1,Same.frm (Same.refl _),fun b z=>.inl z,SPost.same s1 k⟩,?_⟩
 rintro i mm σ2 H2 ⟨rfl,hi,ρi,Obi,R2,f2,sb2,k2⟩
 obtain⟨w1,w2⟩:=wk H2 Obi f2 sb2 i
 by_cases hlt:i<ds.length
 ·obtain⟨go,yl⟩:=w1 ds[i] (Ae hlt)
  have ed:ds.drop i=ds[i]::ds.drop (i+1):=Cw hlt
  rw[ed,forM] at k2
  obtain⟨ρ1,e1,k2⟩:=Res.zF (Res.zT k2)
  refine .inr ⟨go,fun σ' H'=>∃m',m'<ds.length-i/\(m'=ds.length-(i+1)/\i+1<=ds.length/\∃ρi Obi,Rel Oc Obi C.om C.ln σ' H' ρi/\Frm Ob H1 H'/\(∀b,Obi b->Ob b\/H1 b=none)/\SPost C fr Oc Obi H' E (forM g m (ds.drop (i+1)) ρi)),fun _ _ z=>z,fun x H3 hy => ?_⟩
  obtain⟨s3,rx⟩:=yl x H3 hy
  refine qg Oc Obi σ2 H3 ρi ρ1 x _ _ (R2.same s3) rx e1 fun σ3 R3 => ?_
  have k3:=SPost.same s3 (show SPost C fr Oc Obi H2 E _ from k2)
  refine qb Oc Obi σ3 H3 ρ1 _ R3 (Res.zQ (Res.zT k3) (fun o _ k4 => ?_) fun _ z=>z)
  cases o with
  | rt d=>exact k4
  | nx ρ2 =>
   intro σ4 H4 Ob4 R4 f4 sb4
   have f3:Frm Ob H1 H3:=fun b o e n=>s3 b o (f2 b o e n)
   refine⟨_,by rfl',rfl,hlt,ρ2,Ob4,R4,f3.trans sb2 f4,fun b z=>(sb4 b z).elim (sb2 b) fun z=>f3.none z,SPost.step f4 sb4 k4⟩
 ·have ei:i=ds.length:=by rfl'
  subst ei
  rw[CG] at k2
  exact .inl ⟨w2 (Ab _),k2 σ2 H2 Obi R2 (Same.frm (Same.refl _)) fun b z=>.inl z⟩
def whM(t:Ev->Res Bool)(b:Ev->Res Out):Nat->Ev->Res Out
 | 0,_=>.no
 | k+1,ρ=>(t ρ).bind fun c=>if c then (b ρ).bind fun o=>match o with
  | .nx ρ'=>whM t b k ρ'
  | .rt d=>.ok (.rt d) else .ok (.nx ρ)
def sW(fuel:Nat)(t:Ev->Res Bool)(b:Ev->Res Out):Ev->Res Out:=fun ρ=>whM t b fuel ρ
theorem kC(fuel:Nat)(hc:RT C c mt)(hb:RSs C fr body m)(hp:autoParam (PassesOwn (model C.X.prog C.X.w) C.X.A C.X.env C.X.xe) autoK13._auto_1):RS C fr (.While c body [] pos) (sW fuel mt m):=by
 obtain⟨t,p,q⟩:=hc
 obtain⟨tb,pb,qb⟩:=hb
 refine⟨_,yO7 hp p pb,fun Oc Ob σ H ρ E R h => ?_⟩
 refine⟨fun mm σ' H'=>∃ρi Obi,Rel Oc Obi C.om C.ln σ' H' ρi/\Frm Ob H H'/\(∀b,Obi b->Ob b\/H b=none)/\SPost C fr Oc Obi H' E (whM mt m mm ρi),⟨fuel,ρ,Ob,R,Same.frm (Same.refl _),fun b z=>.inl z,h⟩,?_⟩
 rintro mm σ2 H2 ⟨ρi,Obi,R2,f2,sb2,k2⟩
 cases mm with
 | zero=>exact k2.elim
 | succ mm =>
  rw[whM] at k2
  refine q Oc Obi σ2 H2 ρi _ R2 (Res.zQ (Res.zT k2) (fun b _ k3 H3 s3 => ?_) fun c z H' s=>z H' (Same.frm s))
  cases b with
  | false=>exact iteF (k3 σ2 H3 Obi (R2.same s3) (Same.frm s3) fun b z=>.inl z)
  | true =>
   refine iteT ⟨fun σ' H'=>∃m',m'<mm+1/\∃ρi Obi,Rel Oc Obi C.om C.ln σ' H' ρi/\Frm Ob H H'/\(∀b,Obi b->Ob b\/H b=none)/\SPost C fr Oc Obi H' E (whM mt m m' ρi),fun _ _ z=>z,?_⟩
   have k3:=SPost.same s3 (show SPost C fr Oc Obi H2 E _ from k3)
   refine qb Oc Obi σ2 H3 ρi _ (R2.same s3) (Res.zQ (Res.zT k3) (fun o _ k4 => ?_) fun _ z=>z)
   cases o with
   | rt d=>exact k4
   | nx ρ2 =>
    intro σ4 H4 Ob4 R4 f4 sb4
    have f3:Frm Ob H H3:=fun b o e n=>s3 b o (f2 b o e n)
    exact⟨mm,DB _,ρ2,Ob4,R4,f3.trans sb2 f4,fun b z=>(sb4 b z).elim (sb2 b) fun z=>f3.none z,SPost.step f4 sb4 k4⟩
def setD(ds:List D)(i v:D):Option (List D):=match i with
 | .int k=>(ixN ds.length k).map fun j=>ds.set j v
 | _=>none
def sI(i:Nat)(mk me:Ev->Res D):Ev->Res Out:=fun ρ=>(me ρ).bind fun v=>(eV i ρ).bind fun d=>(Res.lft (lstD d)).bind fun xd=>(mk ρ).bind fun k=>(Res.lft (setD xd k v)).bind fun ds=>.ok (.nx (ρ.set i (some (.list ds))))
theorem yB9(i:Nat){x:Str}{p' p2:Pos}{k:Expr}{mk:Ev->Res D}(he:RE C .cl e me)(hk:RE C md k mk)(hN:autoParam (C.X.N[i]?=some x) Eb)(ho:autoParam (C.om.contains i=true) Eb)(hv:autoParam (Vis C.X.env.scope x) DY)(hd:autoParam ((x == ("__debug__":Str))=false) Ea)
  (hcd:autoParam ((x == ("__classdict__":Str))=false) Ea)
  (ha:∀v,assign (.Subscript (.Name x p') k p2) C.X.env v=(do
   let ov <-holding [v] (eval (.Name x p') C.X.env)
   let iv <-holding [v,ov] (eval k C.X.env)
   standAt p2
   holding [v,ov,iv] (setItem ov iv v)
   release [v,ov,iv] []):=by intro _;rfl)
  (hs:autoParam (swapsWithSole [.Subscript (.Name x p') k p2] e pos.line C.X.env=pure false) Eb) (hw:autoParam (swappedStores [.Subscript (.Name x p') k p2] e C.X.env=pure none) Eb)
  (h1:autoParam ((assignEach [.Subscript (.Name x p') k p2] C.X.env).map (·.2)=[assign (.Subscript (.Name x p') k p2) C.X.env]) Eb):RS C fr (.Assign [.Subscript (.Name x p') k p2] e pos) (sI i mk me):=by
 obtain⟨t,p,q⟩:=he
 obtain⟨t',p',q'⟩:=hk
 refine⟨_,xT4 p (wJ5 (jY hN hv hd hcd) p' yH1 ha) hs hw h1,fun Oc Ob σ H ρ E R h=>q Oc Ob σ H ρ _ R (Res.zQ (Res.zT h) (fun dv _ k v H' s r => ?_) fun c z H' s=>z H' (Same.frm s))⟩
 obtain⟨d,ed,k⟩:=uO (Res.zT k)
 obtain⟨xd,ex,k⟩:=Res.zF (Res.zT k)
 obtain rfl:=qU ex
 obtain⟨w',qv,l,ys,ds,rfl,e2,e3,e4,e5⟩:=(R.same s).own i _ ed (wJ ho)
 cases e2
 refine⟨_,qv,q' Oc Ob σ H' ρ _ (R.same s) (Res.zQ (Res.zT k) (fun dk _ k kv H2 s2 rk => ?_) fun c z H2 s2=>z H2 (Same.frm (s.trans s2)))⟩
 obtain⟨ds',eg,k⟩:=Res.zF (Res.zT k)
 unfold setD at eg
 split at eg
 ·obtain⟨j,ej,rfl⟩:=Az.mp eg
  obtain rfl:=(rk.va (R.same s).oh).int
  have hl:=e5.length
  refine⟨l,ys,_,j,rfl,rfl,s2 _ _ e3,by rw[hl];exact ej,?_⟩
  refine k _ _ Ob ((R.same (s.trans s2)).write (wJ ho) ed qv (s2 _ _ e3) e4 (Reps.set (Rep.same r s2) j (e5.same s2))) (fun b o e n => ?_) fun b z=>.inl z
  rw[zG (fun z=>n (by subst z;exact e4))]
  exact s2 b o (s b o e)
 ·cases eg
def sV(i j:Nat):Ev->Res Out:=fun ρ=>(eV j ρ).bind fun d=>.ok (.nx ((ρ.set i (some d)).set j none))
end
end L2.L3
namespace L2
open PySem PySem.Spec PyProof.Rows
structure Has(K:KFr)(mg:Str->Option Value)(x:Str)(st:Stmt)(f:Addr)(fd:FuncData)(ps:List Str):Prop where
 F:Fun K x x st f fd
 b:Binds K fd ps []
 m:mg x=some (.ref f)
theorem zH3{K:KFr}{h:Heap}{mg:Str->Option Value}{x:Str}{st:Stmt}{f:Addr}{oc:Value}{od an:Option Addr}{osl:Array (Option Value)}{kV doc pm cdv ct:Value}{ps:List Str}(X:K.In h)(G:h.Ns mainGlobals mg)
  (a:PySem.W.nsIn K mainGlobals x=some (some (.ref f))) (l:K.lookup f=some ⟨oc,od,.func (PySem.W.fnOf x x (defArgs st) (defBody st) (zP st) .none kV doc pm an cdv ct),osl⟩)
  (c:PySem.W.codeIn K cdv x=true) (k:PySem.W.keepIn K (.ref f)=true)
  (hb:∀(kV doc pm:Value) (an:Option Addr) (cdv ct:Value) (us:List Value),us.length=ps.length->bindArgs (PySem.W.fnOf x x (defArgs st) (defBody st) (zP st) .none kV doc pm an cdv ct) ⟨us,[]⟩=pure (ps.zip us)) :
  Has K mg x st f (PySem.W.fnOf x x (defArgs st) (defBody st) (zP st) .none kV doc pm an cdv ct) ps :=
 have F:=wJ7 (st:=st) l c k
 ⟨F,F.binds hb,CD X G a⟩
end L2
namespace L2.L3
open PySem PySem.Spec PyProof.Rows
variable [CN]
def CallOk:Bool->(Addr->Prop)->Hp->Hp->V->D->Prop
 | true,O,H,H',v,d=>∃a ys ds,v=.ref a/\d=.list ds/\H a=none/\H' a=some (.lst ys)/\Reps H' (fun b=>O b\/b=a) ys ds
 | false,O,_,H',v,d=>Rep H' O v d
def spF(fr:Bool)(F:List D->Res D):Sp:=fun vs H Q _=>∃(ds:List D) (O:Addr->Prop),(∀a,O a->H a≠none)/\Reps H O vs ds/\(F ds).post (fun d=>∀v H',Same H H'->CallOk fr O H H' v d->Q v H') (fun _=>False)
def fin(fr:Bool):Out->Res D
 | .rt d=>.ok d
 | .nx _=>if fr then .no else .ok .none
def runF(fr:Bool)(p n:Nat)(m:Ev->Res Out):List D->Res D:=fun ds=>if ds.length=p then (m (ds.map some++List.replicate (n-p) none)).bind (fin fr) else .no
theorem zV7{α:Type}{ds:List α}{k i:Nat}{d:α}(h:(ds.map some++List.replicate k none)[i]?=some (some d)):ds[i]?=some d:=by
 by_cases hi:i<ds.length
 ·rw[Bs (by simpa using hi),Al] at h
  cases e:ds[i]? with
  | none=>rw[e] at h;cases h
  | some z=>rw[e] at h;cases h;rfl
 ·rw[Bo (by simpa using hi),Dm] at h
  split at h <;> cases h
theorem xG2{α:Type}{ds:List α}{k i:Nat}{d:α}(h:ds[i]?=some d):(ds.map some++List.replicate k none)[i]?=some (some d):=by
 have hi:=(Au.mp h).1
 rw[Bs (by simpa using hi),Al,h]
 rfl
section
variable {P:Program}{w:World}{K:KFr}{mg:Str->Option Value}{base:Heap}
end
def mdF(fr:Bool):Md:=if fr then .new else .cl
def eF(F:List D->Res D)(m:Ev->Res (List D)):Ev->Res D:=fun ρ=>(m ρ).bind F
section
variable {C:Ct}{k:Nat}{f:Addr}{fd:FuncData}{ps:List Str}{fr:Bool}{F:List D->Res D}{x:Str}{p pos:Pos}{e:Expr}{es:List Expr}{ms:Ev->Res (List D)}{st:Stmt}
end
mutual
def lf:D->Bool
 | .list _=>false
 | .dict _=>false
 | .tuple ds=>lfs ds
 | _=>true
def lfs:List D->Bool
 | []=>true
 | d::ds=>lf d&&lfs ds
end
mutual
theorem Rep.lf{H:Hp}{U:Addr->Prop}{B:Addr->Prop}(hB:∀b,B b->∃ys,H b=some (.lst ys)):∀{v:V}{d:D},Rep H (fun b=>U b/\¬B b) v d->L3.lf d=true->Rep H U v d
 | _,_,.non,_=>.non
 | _,_,.bl b,_=>.bl b
 | _,_,.int i,_=>.int i
 | _,_,.str x,_=>.str x
 | _,_,.lst r n t,h=>by simp[L3.lf] at h
 | _,_,.exc r n,h=>by simp[L3.lf] at h
 | _,_,@Rep.tup _ _ _ a _ _ r n t,h=>.tup r (fun z=>by
   by_cases hb:B a
   ·obtain⟨ys,e⟩:=hB _ hb
    rcases r with r | ⟨o,r⟩ <;> (rw[r] at e;cases e)
   ·exact n ⟨z,hb⟩) (Reps.lf hB t (by simpa [L3.lf] using h))
theorem Reps.lf{H:Hp}{U:Addr->Prop}{B:Addr->Prop}(hB:∀b,B b->∃ys,H b=some (.lst ys)):∀{vs:List V}{ds:List D},Reps H (fun b=>U b/\¬B b) vs ds->lfs ds=true->Reps H U vs ds
 | _,_,.nil,_=>.nil
 | _,_,.cons r t,h=>by
  rw[lfs,AV] at h
  exact .cons (Rep.lf hB r h.1) (Reps.lf hB t h.2)
end
def lfT:Bool->D->Bool
 | true,.list ds=>lfs ds
 | _,d=>lf d
def eFA(fr:Bool)(F:List D->Res D)(m:Ev->Res (List D)):Ev->Res D:=fun ρ=>(m ρ).bind fun ds=>(F ds).bind fun d=>if lfT fr d then .ok d else .no
theorem VAs.lent{Oc:Wd}{Ob:Addr->Prop}{H:Hp}:∀{vs:List V}{ds:List D},VAs Oc Ob H vs ds->Reps H (fun b=>Uni Oc Ob b/\¬∃ys,H b=some (.lst ys)) vs ds
 | _,_,.nil=>.nil
 | _,_,.cons h t=>.cons (by
   rcases h with h | ⟨a,ys,ds,rfl,rfl,e3,e5⟩
   ·exact h.less fun b z=>z.1
   ·exact .lst (.inl e3) (fun z=>z.2 ⟨ys,e3⟩) (e5.less fun b z=>z.1)) (VAs.lent t)
def i2(f:Int->Int->Option Int):D->D->Option D
 | .int i,.int j=>(f i j).map PyData.int
 | _,_=>none
theorem yC7{f:Int->Int->Option Int}{x y d:D}(h:i2 f x y=some d):∃i j k,x=.int i/\y=.int j/\f i j=some k/\d=.int k:=by
 cases x with
 | int i =>
  cases y with
  | int j =>
   obtain⟨k,e,rfl⟩:=Az.mp (show (f i j).map PyData.int=some d from h)
   exact⟨i,j,k,rfl,rfl,e,rfl⟩
  | _=>cases h
 | _=>cases h
theorem xG7{C:Int->Int->Prop}{g:Int->Int->Int}{f:Int->Int->Option Int}(hf:∀i j k,f i j=some k->C i j/\k=g i j):Pr2 (rI C fun i j=>.int (g i j)) .cl (i2 f):=by
 intro Oc Ob H x y dx dy d Q oh vx vy e k
 obtain⟨i,j,n,rfl,rfl,ef,rfl⟩:=yC7 e
 obtain⟨hc,rfl⟩:=hf i j n ef
 exact⟨i,j,vx.int,vy.int,hc,k _ H (Same.refl H) (Rep.int _)⟩
theorem xB5{g:Int->Int->Int}:Pr2 (rI0 fun i j=>.int (g i j)) .cl (i2 fun i j=>some (g i j)):=by
 intro Oc Ob H x y dx dy d Q oh vx vy e k
 obtain⟨i,j,n,rfl,rfl,ef,rfl⟩:=yC7 e
 cases ef
 exact⟨i,j,vx.int,vy.int,k _ H (Same.refl H) (Rep.int _)⟩
abbrev addI:D->D->Option D:=i2 fun i j=>some (i+j)
abbrev subI:D->D->Option D:=i2 fun i j=>some (i-j)
def MulOk(i j:Int):Prop:=CMul i j\/(Small i/\Small j)
open Classical in
def mulO(i j:Int):Option Int:=if MulOk i j then some (i*j) else none
abbrev mulI:D->D->Option D:=i2 mulO
def DivOk(j:Int):Prop:=0<j/\j.natAbs.log2<9000
instance (j:Int):Decidable (DivOk j):=by unfold DivOk;infer_instance
def fdivO(i j:Int):Option Int:=if DivOk j then some (i / j) else none
def modO(i j:Int):Option Int:=if 0<j then some (i%j) else none
abbrev fdivI:D->D->Option D:=i2 fdivO
abbrev modI:D->D->Option D:=i2 modO
section
variable {X:Cx}
theorem vC:OpR X (binaryOp .Mult) (rI MulOk fun i j=>.int (i*j)):=opI fun _ _ _ _ _ _ _ hc q=>mul_int q (hc.elim CMul.ok fun h=>.of_bits h.1.bits h.2.bits)
theorem aD:OpR X (inplaceOp .Mult) (rI MulOk fun i j=>.int (i*j)):=opI fun _ _ _ _ _ _ _ hc q=>imul_int q (hc.elim CMul.ok fun h=>.of_bits h.1.bits h.2.bits)
theorem yJ:OpR X (binaryOp .FloorDiv) (rI (fun _ j=>DivOk j) fun i j=>.int (i / j)):=opI fun i j _ _ _ _ _ hc q=>by
 refine floordiv_int (by have:=hc.1;rfl') ?_ (.inl (Dh hc.2))
 rw[Int.fdiv_eq_ediv_of_nonneg _ (by have:=hc.1;rfl')]
 exact q
theorem xS9:OpR X (inplaceOp .FloorDiv) (rI (fun _ j=>DivOk j) fun i j=>.int (i / j)):=opI fun i j _ _ _ _ _ hc q=>by
 refine ifloordiv_int (by have:=hc.1;rfl') ?_ (.inl (Dh hc.2))
 rw[Int.fdiv_eq_ediv_of_nonneg _ (by have:=hc.1;rfl')]
 exact q
end
open Classical in
theorem xM3{i j k:Int}(h:mulO i j=some k):MulOk i j/\k=i*j:=by
 unfold mulO at h
 split at h
 ·cases h;exact⟨by assumption,rfl⟩
 ·cases h
theorem xA{i j:Int}(h:MulOk i j):mulO i j=some (i*j):=by
 unfold mulO
 exact Ac h
theorem xW2{i j k:Int}(h:fdivO i j=some k):DivOk j/\k=i / j:=by
 unfold fdivO at h
 split at h
 ·cases h;exact⟨by assumption,rfl⟩
 ·cases h
theorem xT7{i j k:Int}(h:modO i j=some k):0<j/\k=i%j:=by
 unfold modO at h
 split at h
 ·cases h;exact⟨by assumption,rfl⟩
 ·cases h
theorem DivOk.small{j:Int}(h:0<j)(h2:j<1073741824):DivOk j:=by
 refine⟨h,?_⟩
 have h30:j.natAbs.log2<30:=(Do (by rfl')).mpr (by rfl')
 rfl'
theorem MulOk.left{i j:Int}(h:-(2 ^ 64)<i)(h2:i<2 ^ 64):MulOk i j:=.inl (.inl ⟨h,h2⟩)
theorem MulOk.right{i j:Int}(h:-(2 ^ 64)<j)(h2:j<2 ^ 64):MulOk i j:=.inl (.inr ⟨h,h2⟩)
theorem yM:Pr2 (rI0 fun i j=>.int (i+j)) .cl addI:=xB5
theorem wI:Pr2 (rI0 fun i j=>.int (i-j)) .cl subI:=xB5
theorem wA:Pr2 (rI MulOk fun i j=>.int (i*j)) .cl mulI:=xG7 fun _ _ _ h=>xM3 h
theorem yB:Pr2 (rI (fun _ j=>DivOk j) fun i j=>.int (i / j)) .cl fdivI:=xG7 fun _ _ _ h=>xW2 h
theorem wU:Pr2 (rI (fun _ j=>0<j) fun i j=>.int (i%j)) .cl modI:=xG7 fun _ _ _ h=>xT7 h
def c2(f:Int->Int->Bool):D->D->Option Bool
 | .int i,.int j=>some (f i j)
 | _,_=>none
theorem xX4{f:Int->Int->Bool}:PrB (rI0 fun i j=>.bl (f i j)) (c2 f):=by
 intro Oc Ob H x y dx dy b Q vx vy e k
 cases dx with
 | int i =>
  cases dy with
  | int j =>
   cases e
   exact⟨_,_,vx.int,vy.int,k⟩
  | _=>cases e
 | _=>cases e
abbrev ltI:D->D->Option Bool:=c2 fun i j=>decide (i<j)
abbrev leI:D->D->Option Bool:=c2 fun i j=>decide (i<=j)
abbrev gtI:D->D->Option Bool:=c2 fun i j=>decide (j<i)
abbrev geI:D->D->Option Bool:=c2 fun i j=>decide (j<=i)
theorem zY9:PrB (rI0 fun i j=>.bl (decide (i<j))) ltI:=xX4
theorem gP:PrB (rI0 fun i j=>.bl (decide (i<=j))) leI:=xX4
theorem zZ1:PrB (rI0 fun i j=>.bl (decide (j<i))) gtI:=xX4
theorem xB1:PrB (rI0 fun i j=>.bl (decide (j<=i))) geI:=xX4
def eqD(x y:D):Option Bool:=if SeqAt.shaped x=true/\SeqAt.shaped y=true then some (PyData.eqv x y) else none
def neD(x y:D):Option Bool:=if SeqAt.shaped x=true/\SeqAt.shaped y=true then some (!PyData.eqv x y) else none
theorem xY{K:KFr}:PrB (rEqD K false) eqD:=by
 intro Oc Ob H x y dx dy b Q vx vy e k
 unfold eqD at e
 split at e
 ·rename_i h
  cases e
  exact⟨dx,dy,vx.datS h.1,vy.datS h.2,h.1,h.2,k⟩
 ·cases e
theorem zR7{K:KFr}:PrB (rEqD K true) neD:=by
 intro Oc Ob H x y dx dy b Q vx vy e k
 unfold neD at e
 split at e
 ·rename_i h
  cases e
  exact⟨dx,dy,vx.datS h.1,vy.datS h.2,h.1,h.2,k⟩
 ·cases e
def flD:D->Bool
 | .none=>true
 | .bool _=>true
 | .int _=>true
 | .str _=>true
 | _=>false
def eqF:D->D->Bool
 | .none,.none=>true
 | .bool a,.bool b=>a == b
 | .bool a,.int b=>(if a then 1 else 0) == b
 | .int a,.bool b=>a == (if b then 1 else 0)
 | .int a,.int b=>a == b
 | .str a,.str b=>a == b
 | _,_=>false
theorem zL1{H:Hp}{O:Addr->Prop}{v:V}{d:D}(h:Rep H O v d)(f:flD d=true):flatV v=true:=by
 cases h <;> first | rfl | cases f
theorem wV6{H:Hp}{O O':Addr->Prop}{v v':V}{d d':D}(h:Rep H O v d)(h':Rep H O' v' d')(f:flD d=true)(f':flD d'=true):eqV v v'=eqF d d':=by
 cases h <;> cases h' <;> first | rfl | cases f | cases f'
theorem zW6{H:Hp}{O:Addr->Prop}:∀{vs:List V}{ds:List D},Reps H O vs ds->ds.all flD=true->vs.all flatV=true
 | _,_,.nil,_=>rfl
 | _,_,.cons h t,f=>by
  rw[DG,AV] at f ⊢
  exact⟨zL1 h f.1,zW6 t f.2⟩
theorem zK5{H:Hp}{O O':Addr->Prop}{x:V}{dx:D}(hx:Rep H O' x dx)(fx:flD dx=true):∀{vs:List V}{ds:List D},Reps H O vs ds->ds.all flD=true->inV x vs=ds.any fun y=>eqF y dx
 | _,_,.nil,_=>rfl
 | _,_,.cons h t,f=>by
  rw[DG,AV] at f
  have ih:=zK5 hx fx t f.2
  unfold inV at ih ⊢
  rw[CC,CC,ih,wV6 h hx f.1 fx]
def inD(neg:Bool)(x y:D):Option Bool:=(seqD y).bind fun ds=>if flD x=true/\ds.all flD=true then some (if neg then !ds.any (fun z=>eqF z x) else ds.any fun z=>eqF z x) else none
theorem wT1{Oc:Wd}{Ob:Addr->Prop}{H:Hp}{x:V}{d:D}(h:VA Oc Ob H x d)(f:flD d=true):Rep H (Uni Oc Ob) x d:=by
 rcases h with h | ⟨a,ys,ds,rfl,rfl,e3,e5⟩
 ·exact h
 ·cases f
theorem wC5{K:KFr}{neg:Bool}:PrB (rIn K neg) (inD neg):=by
 intro Oc Ob H x y dx dy b Q vx vy e k
 unfold inD at e
 obtain⟨ds,e1,e⟩:=AC.mp e
 split at e
 ·rename_i h
  cases e
  have rx:=wT1 vx h.1
  cases dy with
  | list ds' =>
   cases e1
   obtain⟨a,ys,rfl,rd,rs⟩:=vy.list
   refine⟨a,ys,rfl,.inl (.inl rd),zL1 rx h.1,zW6 rs h.2,?_⟩
   rw[zK5 rx h.1 rs h.2]
   exact k
  | tuple ds' =>
   cases e1
   obtain⟨a,ys,rfl,rd,rs⟩:=vy.tuple
   refine⟨a,ys,rfl,.inr (.inl rd),zL1 rx h.1,zW6 rs h.2,?_⟩
   rw[zK5 rx h.1 rs h.2]
   exact k
  | _=>cases e1
 ·cases e
def ixD:D->D->Option D
 | .list ds,.int i=>atI ds i
 | .tuple ds,.int i=>atI ds i
 | _,_=>none
theorem zL2{H:Hp}{O:Addr->Prop}{vs:List V}{ds:List D}{i:Int}{d:D}(r:Reps H O vs ds)(h:atI ds i=some d):∃v,atI vs i=some v/\Rep H O v d:=by
 unfold atI at h ⊢
 obtain⟨j,e1,e2⟩:=AC.mp h
 obtain⟨v,ev,rv⟩:=r.get e2
 refine⟨v,?_,rv⟩
 rw[r.length,e1]
 exact ev
theorem yT{K:KFr}:Pr2 (rIx K) .cl ixD:=by
 intro Oc Ob H x y dx dy d Q oh vx vy e k
 cases dx with
 | list ds =>
  cases dy with
  | int i =>
   obtain⟨a,ys,rfl,rd,rs⟩:=vx.list
   obtain⟨v,ev,rv⟩:=zL2 rs e
   exact .inl ⟨a,ys,i,v,rfl,vy.int,.inl rd,ev,k v H (Same.refl H) rv⟩
  | _=>cases e
 | tuple ds =>
  cases dy with
  | int i =>
   obtain⟨a,ys,rfl,rd,rs⟩:=vx.tuple
   obtain⟨v,ev,rv⟩:=zL2 rs e
   exact .inr (.inl ⟨a,ys,i,v,rfl,vy.int,.inl rd,ev,k v H (Same.refl H) rv⟩)
  | _=>cases e
 | _=>cases e
def rCatR:R2:=fun x y H Q=>∃l b xs zs,x=.ref l/\y=.ref b/\Rd H l (.lst xs)/\Rd H b (.lst zs)/\xs.length+zs.length<=sizeLine/\∀p,H p=none->Q (.ref p) (upd H p (.lst (xs++zs)))
theorem Rd.lstM{X:Cx}{Ec:List (Addr×Obj)}{σ:St}{H:Hp}{s:Shared}{l:Addr}{xs:List V}(I:Inv X Ec σ H s)(hH:Rd H l (.lst xs)):xs.length<=sizeLine/\∃(its:List Value) (n:Nat),Vals xs its/\xs.length=its.length/\s.heap.get? l=some { cls:=.type "list",data:=.seq its.toArray n }:=by
 obtain⟨z,its,n,r,e⟩:=hH.ok I.hok
 exact⟨z,its,n,r,r.length,e⟩
section
variable {X:Cx}
theorem zB3:OpR X (binaryOp .Add) rCatR:=by
 intro Ec s σ H x y v u Q I rx ry h
 obtain⟨l,b,xs,zs,rfl,rfl,hH,hB,hz,q⟩:=h
 cases rx
 cases ry
 obtain⟨z,its,n,r,hl,e⟩:=Rd.lstM I hH
 obtain⟨z2,its2,n2,r2,hl2,e2⟩:=Rd.lstM I hB
 refine PySem.P.add_list e e2 ?_ (by rw[Ao,Ao];rfl')
 have ea:its.toArray++its2.toArray=(its++its2).toArray:=by simp
 rw[ea]
 exact⟨.ref _,_,I.lnew (t':=s.toks) (r.append r2) (by rw[An];rfl'),rfl,q _ I.fresh⟩
def rRepR:R2:=fun x y H Q=>∃l k xs,x=.ref l/\y=.int k/\Rd H l (.lst xs)/\-(2 ^ 63)<=k/\k<2 ^ 63/\xs.length*k.toNat<=sizeLine /\
 ∀p,H p=none->Q (.ref p) (upd H p (.lst (List.replicate k.toNat xs).flatten))
theorem zP2:OpR X (binaryOp .Mult) rRepR:=by
 intro Ec s σ H x y v u Q I rx ry h
 obtain⟨l,k,xs,rfl,rfl,hH,h1,h2,hz,q⟩:=h
 cases rx
 obtain⟨t,rfl⟩:=ry
 obtain⟨z,its,n,r,hl,e⟩:=Rd.lstM I hH
 have hlen:its.toArray.size*k.toNat<=sizeLine:=by rw[Ao,<-hl];exact hz
 have hcap:¬its.toArray.size*k.toNat > (2 ^ 63-1) / 8:=by
  have:(sizeLine:Nat)<=(2 ^ 63-1) / 8:=by decide
  rfl'
 have hfit:¬(!Builtin.List.listFitsIndex k)=true:=by
  rw[fitsIndex_both h1 h2]
  exact AG
 have hlong:¬Builtin.List.listTooLong (its.toArray.size*k.toNat)=true:=by
  rw[notLongL hlen]
  exact AG
 have hnew:List.foldl (fun x1 x2=>x1++x2) #[] (List.replicate (if its.toArray.isEmpty=true then 0 else k.toNat) its.toArray)=(List.replicate k.toNat its).flatten.toArray:=by
  have f0:∀m:Nat,List.foldl (fun x1 x2=>x1++x2) #[] (List.replicate m its.toArray)=(List.replicate m its).flatten.toArray:=fun m=>by
   have:=yV3 its m []
   rw[Cf] at this
   exact this
  rw[f0]
  cases its with
  | nil=>simp
  | cons a r'=>rw[Ah (by simp)]
 refine wpAny_binaryOp_repeat_ref (T:="list") (U:="int") (by decide) ⟨_,e,rfl⟩ (fun s'=>typeIs_int s' k t) noFill_list_mul F.fills_int_mul F.slot_int_rmul repeat_list F.slot_int_index.lookup
  (call_meets F.slot_int_rmul (typeIs_int s k t) F.entry_int_rmul (F.args_int_rmul_2 _ _) (int___rmul___int_list k t l its.toArray n)
   ⟨e,rfl,⟨_,e,rfl⟩,call_meets F.slot_list_mul ⟨_,e,rfl⟩ F.entry_list_mul (F.args_list_mul_2 _ _) (AutoListH.list___mul___list_int_3 l its.toArray n k t hfit hcap hlong) ⟨e,?_⟩⟩)
 rw[hnew]
 exact⟨.ref _,_,I.lnew (t':=s.toks) (r.rep k.toNat) (by rw[wV9,BS];exact hz),rfl,q _ I.fresh⟩
end
def catL:D->D->Option D
 | .list xs,.list ys=>if xs.length+ys.length<=sizeLine then some (.list (xs++ys)) else none
 | _,_=>none
theorem yK1:Pr2 rCatR .new catL:=by
 intro Oc Ob H x y dx dy d Q oh vx vy e k
 cases dx with
 | list xs =>
  cases dy with
  | list ys =>
   obtain⟨a,vs,rfl,rd,rs⟩:=vx.list
   obtain⟨b,ws,rfl,rd',rs'⟩:=vy.list
   unfold catL at e
   simp only at e
   split at e
   ·rename_i hl
    cases e
    refine⟨a,b,vs,ws,rfl,rfl,rd,rd',by rw[rs.length,rs'.length];exact hl,fun p hp=>k _ _ (Same.new hp) (wN (Same.refl H) hp (rs.append rs'))⟩
   ·cases e
  | _=>cases e
 | _=>cases e
def repL:D->D->Option D
 | .list xs,.int k=>if -(2 ^ 63)<=k/\k<2 ^ 63/\xs.length*k.toNat<=sizeLine then some (.list (List.replicate k.toNat xs).flatten) else none
 | _,_=>none
theorem zJ2:Pr2 rRepR .new repL:=by
 intro Oc Ob H x y dx dy d Q oh vx vy e k
 cases dx with
 | list xs =>
  cases dy with
  | int j =>
   obtain⟨a,vs,rfl,rd,rs⟩:=vx.list
   unfold repL at e
   simp only at e
   split at e
   ·rename_i hl
    cases e
    refine⟨a,j,vs,rfl,vy.int,rd,hl.1,hl.2.1,by rw[rs.length];exact hl.2.2,fun p hp=>k _ _ (Same.new hp) (wN (Same.refl H) hp (rs.rep _))⟩
   ·cases e
  | _=>cases e
 | _=>cases e
def lenD:List D->Option D
 | [d]=>(seqD d).map fun ds=>.int ds.length
 | _=>none
theorem yW{K:KFr}:PrC (fun xs H Q=>∃p ys,xs=[.ref p]/\(SqL K H p ys\/SqT K H p ys)/\Q (.int ys.length) H) .cl lenD:=by
 intro Oc Ob H vs ds d Q oh va e k
 cases ds with
 | nil=>cases e
 | cons x xs =>
  cases xs with
  | cons=>cases e
  | nil =>
   obtain⟨v,rfl,vx⟩:=va.one
   obtain⟨es,e1,rfl⟩:=Az.mp e
   cases x with
   | list ds' =>
    cases e1
    obtain⟨a,ys,rfl,rd,rs⟩:=vx.list
    exact⟨a,ys,rfl,.inl (.inl rd),k _ H (Same.refl H) (by rw[rs.length];exact Rep.int _)⟩
   | tuple ds' =>
    cases e1
    obtain⟨a,ys,rfl,rd,rs⟩:=vx.tuple
    exact⟨a,ys,rfl,.inr (.inl rd),k _ H (Same.refl H) (by rw[rs.length];exact Rep.int _)⟩
   | _=>cases e1
def listD:List D->Option D
 | [d]=>(seqD d).map fun ds=>.list ds
 | _=>none
theorem wZ7{K:KFr}:PrC (fun xs H Q=>∃p ys,xs=[.ref p]/\(SqL K H p ys\/SqT K H p ys)/\∀l,H l=none->Q (.ref l) (upd H l (.lst ys))) .new listD:=by
 intro Oc Ob H vs ds d Q oh va e k
 cases ds with
 | nil=>cases e
 | cons x xs =>
  cases xs with
  | cons=>cases e
  | nil =>
   obtain⟨v,rfl,vx⟩:=va.one
   obtain⟨es,e1,rfl⟩:=Az.mp e
   cases x with
   | list ds' =>
    cases e1
    obtain⟨a,ys,rfl,rd,rs⟩:=vx.list
    exact⟨a,ys,rfl,.inl (.inl rd),fun l hl=>k _ _ (Same.new hl) (wN (Same.refl H) hl rs)⟩
   | tuple ds' =>
    cases e1
    obtain⟨a,ys,rfl,rd,rs⟩:=vx.tuple
    exact⟨a,ys,rfl,.inr (.inl rd),fun l hl=>k _ _ (Same.new hl) (wN (Same.refl H) hl rs)⟩
   | _=>cases e1
def tupD:List D->Option D
 | [d]=>(seqD d).map fun ds=>.tuple ds
 | _=>none
theorem jF{K:KFr}:PrC (fun xs H Q=>∃p ys,xs=[.ref p]/\((SqL K H p ys/\∀l,H l=none->Q (.ref l) (upd H l (.tup ys)))\/(SqT K H p ys/\Q (.ref p) H))) .cl tupD:=by
 intro Oc Ob H vs ds d Q oh va e k
 cases ds with
 | nil=>cases e
 | cons x xs =>
  cases xs with
  | cons=>cases e
  | nil =>
   obtain⟨v,rfl,vx⟩:=va.one
   obtain⟨es,e1,rfl⟩:=Az.mp e
   cases x with
   | list ds' =>
    cases e1
    obtain⟨a,ys,rfl,rd,rs⟩:=vx.list
    exact⟨a,ys,rfl,.inl ⟨.inl rd,fun l hl=>k _ _ (Same.new hl) (gR oh hl rs)⟩⟩
   | tuple ds' =>
    cases e1
    rcases vx with vx | ⟨a,ys,ds,rfl,ez,_⟩
    ·cases vx with
     | tup rd n rs=>exact⟨_,_,rfl,.inr ⟨.inl rd,k _ H (Same.refl H) (.tup rd n rs)⟩⟩
    ·cases ez
   | _=>cases e1
def intsOf:List D->Option (List Int)
 | []=>some []
 | .int i::ds=>(intsOf ds).map (i :: ·)
 | _::_=>none
@[simp] theorem intsOf_map:∀ns:List Int,intsOf (ns.map PyData.int)=some ns
 | []=>rfl
 | n::ns=>by rw[AI,intsOf,intsOf_map ns];rfl
theorem gL:∀{ds:List D}{ns:List Int},intsOf ds=some ns->ds=ns.map PyData.int
 | [],ns,h=>by cases h;rfl
 | d::ds,ns,h=>by
  cases d with
  | int i =>
   obtain⟨ms,e,rfl⟩:=Az.mp (show (intsOf ds).map (i :: ·)=some ns from h)
   rw[gL e];rfl
  | _=>cases h
def boolsOf:List D->Option (List Bool)
 | []=>some []
 | .bool i::ds=>(boolsOf ds).map (i :: ·)
 | _::_=>none
@[simp] theorem boolsOf_map:∀ns:List Bool,boolsOf (ns.map PyData.bool)=some ns
 | []=>rfl
 | n::ns=>by rw[AI,boolsOf,boolsOf_map ns];rfl
theorem zR1:∀{ds:List D}{ns:List Bool},boolsOf ds=some ns->ds=ns.map PyData.bool
 | [],ns,h=>by cases h;rfl
 | d::ds,ns,h=>by
  cases d with
  | bool i =>
   obtain⟨ms,e,rfl⟩:=Az.mp (show (boolsOf ds).map (i :: ·)=some ns from h)
   rw[zR1 e];rfl
  | _=>cases h
def nsD(d:D):Option (List Int):=(seqD d).bind intsOf
theorem yP7{K:KFr}{Oc:Wd}{Ob:Addr->Prop}{H:Hp}{x:V}{d:D}{ns:List Int}(h:VA Oc Ob H x d)(e:nsD d=some ns):∃p,x=.ref p/\(SqL K H p (ns.map V.int)\/SqT K H p (ns.map V.int)):=by
 obtain⟨ds,e1,e2⟩:=AC.mp e
 obtain rfl:=gL e2
 cases d with
 | list ds' =>
  cases e1
  obtain⟨a,ys,rfl,rd,rs⟩:=h.list
  rw[rs.ints] at rd
  exact⟨a,rfl,.inl (.inl rd)⟩
 | tuple ds' =>
  cases e1
  obtain⟨a,ys,rfl,rd,rs⟩:=h.tuple
  rw[rs.ints] at rd
  exact⟨a,rfl,.inr (.inl rd)⟩
 | _=>cases e1
def sumD:List D->Option D
 | [.list ds]=>(intsOf ds).map fun ns=>.int ns.sum
 | _=>none
theorem wO7{K:KFr}:PrC (fun xs H Q=>∃(p:Addr) (ns:List Int),xs=[.ref p]/\SqL K H p (ns.map V.int)/\Q (.int ns.sum) H) .cl sumD:=by
 intro Oc Ob H vs ds d Q oh va e k
 unfold sumD at e
 split at e
 ·obtain⟨ns,e1,rfl⟩:=Az.mp e
  obtain⟨v,rfl,vx⟩:=va.one
  obtain⟨a,ys,rfl,rd,rs⟩:=vx.list
  rw[gL e1] at rs
  rw[rs.ints] at rd
  exact⟨a,ns,rfl,.inl rd,k _ H (Same.refl H) (Rep.int _)⟩
 ·cases e
def sortI(ns:List Int):List Int:=ns.mergeSort (fun a b=>decide (a<=b))
theorem xM(ns:List Int):(sortI ns).Perm ns:=List.mergeSort_perm _ _
theorem cO(ns:List Int):(sortI ns).Pairwise (· <= ·):=by
 have:=List.pairwise_mergeSort (le:=fun a b:Int=>decide (a<=b)) (fun a b c h1 h2=>by simp at *;rfl') (fun a b=>by simp;rfl') ns
 exact this.imp fun h=>by simpa using h
theorem xV2{as bs:List Int}(p:as.Perm bs)(ha:as.Pairwise (· <= ·))(hb:bs.Pairwise (· <= ·)):as=bs:=by
 induction as generalizing bs with
 | nil=>exact (List.nil_perm.mp p).symm
 | cons a as ih =>
  cases bs with
  | nil=>exact absurd p.symm (by intro h;have:=h.length_eq;simp at this)
  | cons b bs =>
   have h1:a<=b:=by
    have:b∈a::as:=p.symm.subset Af
    rcases AM.mp this with z | z
    ·rfl'
    ·exact (BB.mp ha).1 b z
   have h2:b<=a:=by
    have:a∈b::bs:=p.subset Af
    rcases AM.mp this with z | z
    ·rfl'
    ·exact (BB.mp hb).1 a z
   have e:a=b:=by rfl'
   subst e
   rw[ih (List.Perm.cons_inv p) (BB.mp ha).2 (BB.mp hb).2]
def sortD:List D->Option D
 | [d]=>(nsD d).bind fun ns=>if ns.length<64 then some (.list ((sortI ns).map PyData.int)) else none
 | _=>none
theorem yB1{K:KFr}:PrC (fun xs H Q=>∃(p:Addr) (ns:List Int),xs=[.ref p]/\(SqL K H p (ns.map V.int)\/SqT K H p (ns.map V.int))/\ns.length<64 /\
  ∀(l:Addr) (ms:List Int),H l=none->ms.Perm ns->ms.Pairwise (· <= ·)->Q (.ref l) (upd H l (.lst (ms.map V.int)))) .new sortD:=by
 intro Oc Ob H vs ds d Q oh va e k
 unfold sortD at e
 split at e
 ·obtain⟨ns,e1,e⟩:=AC.mp e
  split at e
  ·rename_i hl
   cases e
   obtain⟨v,rfl,vx⟩:=va.one
   obtain⟨p,rfl,hq⟩:=yP7 vx e1
   refine⟨p,ns,rfl,hq,hl,fun l ms hp h1 h2 => ?_⟩
   have:ms=sortI ns:=xV2 (h1.trans (xM ns).symm) h2 (cO ns)
   subst this
   exact k _ _ (Same.new hp) (wN (Same.refl H) hp (cB _))
  ·cases e
 ·cases e
def allD:List D->Option D
 | [.list ds]=>(boolsOf ds).map fun bs=>.bool (bs.all id)
 | _=>none
theorem xL4{K:KFr}:PrC (fun xs H Q=>∃(p:Addr) (bs:List Bool),xs=[.ref p]/\SqL K H p (bs.map V.bl)/\Q (.bl (bs.all id)) H) .cl allD:=by
 intro Oc Ob H vs ds d Q oh va e k
 unfold allD at e
 split at e
 ·obtain⟨ns,e1,rfl⟩:=Az.mp e
  obtain⟨v,rfl,vx⟩:=va.one
  obtain⟨a,ys,rfl,rd,rs⟩:=vx.list
  rw[zR1 e1] at rs
  rw[rs.bools] at rd
  exact⟨a,ns,rfl,.inl rd,k _ H (Same.refl H) (Rep.bl _)⟩
 ·cases e
def min2D:List D->Option D
 | [.int i,.int j]=>some (.int (if j<i then j else i))
 | _=>none
def max2D:List D->Option D
 | [.int i,.int j]=>some (.int (if j > i then j else i))
 | _=>none
theorem gS:PrC (fun xs H Q=>∃i j,xs=[.int i,.int j]/\Q (.int (if j<i then j else i)) H) .cl min2D:=by
 intro Oc Ob H vs ds d Q oh va e k
 unfold min2D at e
 split at e
 ·cases e
  obtain⟨v,v',rfl,vx,vy⟩:=va.two
  obtain rfl:=vx.int
  obtain rfl:=vy.int
  exact⟨_,_,rfl,k _ H (Same.refl H) (Rep.int _)⟩
 ·cases e
theorem wW8:PrC (fun xs H Q=>∃i j,xs=[.int i,.int j]/\Q (.int (if j > i then j else i)) H) .cl max2D:=by
 intro Oc Ob H vs ds d Q oh va e k
 unfold max2D at e
 split at e
 ·cases e
  obtain⟨v,v',rfl,vx,vy⟩:=va.two
  obtain rfl:=vx.int
  obtain rfl:=vy.int
  exact⟨_,_,rfl,k _ H (Same.refl H) (Rep.int _)⟩
 ·cases e
def tyD:D->String
 | .none=>"NoneType"
 | .bool _=>"bool"
 | .int _=>"int"
 | .str _=>"str"
 | .list _=>"list"
 | .tuple _=>"tuple"
 | .dict _=>"dict"
def subTy(t T:String):Bool:=t == T || (t == "bool"&&T == "int")
structure Kit(K:KFr)(T:String):Prop where
 non:PySem.W.kitOne K (.type "NoneType") (.type T)=some (subTy "NoneType" T)
 bl:PySem.W.kitOne K (.type "bool") (.type T)=some (subTy "bool" T)
 int:PySem.W.kitOne K (.type "int") (.type T)=some (subTy "int" T)
 str:PySem.W.kitOne K (.type "str") (.type T)=some (subTy "str" T)
 lst:PySem.W.kitOne K (.type "list") (.type T)=some (subTy "list" T)
 tup:PySem.W.kitOne K (.type "tuple") (.type T)=some (subTy "tuple" T)
section
variable {X:Cx}
end
def isiD(T:String):D->Option D
 | .dict _=>none
 | d=>some (.bool (subTy (tyD d) T))
theorem yV1{s:Shared}{J:Addr}{hp h':Heap}(keep:∀b o,s.heap.get? b=some o->b≠J/\hp.get? b=some o)(hk:∀b o,b ∉ [J]->hp.get? b=some o->h'.get? b=some o):∀b o,s.heap.get? b=some o->h'.get? b=some o :=
 fun b o e=>hk b o (by simpa using (keep b o e).1) (keep b o e).2
theorem bU(xs:Array (Int×Tok)):(intItems xs).size=xs.size:=by simp[intItems]
section
variable {prog:Program}{w:World}{A:Around}{E:Value->Shared->Prop}{s:Shared}{l:Addr}{xs:Array (Int×Tok)}{Q:Value->Shared->Prop}
theorem wS3(hh:A.handled=none)(hl:s.heap.IsTuple l (intItems xs))(ne:0<xs.size)
  (k:∀v h' tk,(intItems xs)[argBest (fun i j=>decide (numAt xs i<numAt xs j)) (xs.size-1)]?=some v->(∀b o,s.heap.get? b=some o->h'.get? b=some o)->Q v { s with heap:=h',toks:=tk }):wpAny (model prog w) A (call (.builtin "min") [.ref l]) Q E s :=
 call_min_walk (yJ8 (A:=A.in1) hh hl fun J hp St W st a b keep=>⟨_,_,_,_,_,_,_,rfl,W,st,by simp[a,b],by rw[bU];exact ne,.ints_lt (numAt xs) (fun _ _=>intItems_at),fun v h' tk at_ hk=>k v h' tk (by rw[bU] at at_;exact at_) (yV1 keep hk)⟩)
theorem wT7(hh:A.handled=none)(hl:s.heap.IsTuple l (intItems xs))(ne:0<xs.size)
  (k:∀v h' tk,(intItems xs)[argBest (fun i j=>decide (numAt xs i > numAt xs j)) (xs.size-1)]?=some v->(∀b o,s.heap.get? b=some o->h'.get? b=some o)->Q v { s with heap:=h',toks:=tk }):wpAny (model prog w) A (call (.builtin "max") [.ref l]) Q E s :=
 call_max_walk (yJ8 (A:=A.in1) hh hl fun J hp St W st a b keep=>⟨_,_,_,_,_,_,_,rfl,W,st,by simp[a,b],by rw[bU];exact ne,.ints_gt (numAt xs) (fun _ _=>intItems_at),fun v h' tk at_ hk=>k v h' tk (by rw[bU] at at_;exact at_) (yV1 keep hk)⟩)
end
def minL:List Int->Int
 | []=>0
 | n::ns=>ns.foldl (fun a b=>if b<a then b else a) n
def maxL:List Int->Int
 | []=>0
 | n::ns=>ns.foldl (fun a b=>if b > a then b else a) n
theorem bS:∀(ns:List Int) (n:Int),(ns.foldl (fun a b=>if b<a then b else a) n=n\/ns.foldl (fun a b=>if b<a then b else a) n∈ns)/\ns.foldl (fun a b=>if b<a then b else a) n<=n/\∀m∈ns,ns.foldl (fun a b=>if b<a then b else a) n<=m
 | [],n=>⟨.inl rfl,BK _,fun m h=>nomatch h⟩
 | b::ns,n=>by
  obtain⟨h1,h2,h3⟩:=bS ns (if b<n then b else n)
  rw[DK]
  refine⟨?_,?_,fun m hm => ?_⟩
  ·rcases h1 with h1 | h1
   ·rw[h1]
    split
    ·exact .inr Af
    ·exact .inl rfl
   ·exact .inr (Aj _ h1)
  ·refine DO h2 ?_
   split <;> rfl'
  ·rcases AM.mp hm with rfl | hm
   ·refine DO h2 ?_
    split <;> rfl'
   ·exact h3 m hm
theorem cD:∀(ns:List Int) (n:Int),(ns.foldl (fun a b=>if b > a then b else a) n=n\/ns.foldl (fun a b=>if b > a then b else a) n∈ns)/\n<=ns.foldl (fun a b=>if b > a then b else a) n/\∀m∈ns,m<=ns.foldl (fun a b=>if b > a then b else a) n
 | [],n=>⟨.inl rfl,BK _,fun m h=>nomatch h⟩
 | b::ns,n=>by
  obtain⟨h1,h2,h3⟩:=cD ns (if b > n then b else n)
  rw[DK]
  refine⟨?_,?_,fun m hm => ?_⟩
  ·rcases h1 with h1 | h1
   ·rw[h1]
    split
    ·exact .inr Af
    ·exact .inl rfl
   ·exact .inr (Aj _ h1)
  ·refine DO ?_ h2
   split <;> rfl'
  ·rcases AM.mp hm with rfl | hm
   ·refine DO ?_ h2
    split <;> rfl'
   ·exact h3 m hm
theorem zK1{ns:List Int}(h:ns ≠ []):minL ns∈ns:=by
 cases ns with
 | nil=>exact absurd rfl h
 | cons n ns =>
  rcases (bS ns n).1 with e | e
  ·show List.foldl _ n ns∈_
   rw[e];exact Af
  ·exact Aj _ e
theorem yA1{ns:List Int}{m:Int}(h:m∈ns):minL ns<=m:=by
 cases ns with
 | nil=>cases h
 | cons n ns =>
  rcases AM.mp h with rfl | h
  ·exact (bS ns m).2.1
  ·exact (bS ns n).2.2 m h
theorem zM8{ns:List Int}(h:ns ≠ []):maxL ns∈ns:=by
 cases ns with
 | nil=>exact absurd rfl h
 | cons n ns =>
  rcases (cD ns n).1 with e | e
  ·show List.foldl _ n ns∈_
   rw[e];exact Af
  ·exact Aj _ e
theorem wV3{ns:List Int}{m:Int}(h:m∈ns):m<=maxL ns:=by
 cases ns with
 | nil=>cases h
 | cons n ns =>
  rcases AM.mp h with rfl | h
  ·exact (cD ns m).2.1
  ·exact (cD ns n).2.2 m h
theorem yA3{xs:Array (Int×Tok)}{i:Nat}(h:i<xs.size):numAt xs i∈xs.toList.map (·.1):=by
 rw[numAt_eq]
 exact getD_mem (by simpa using h)
theorem yA9{xs:Array (Int×Tok)}{a:Int}(h:a∈xs.toList.map (·.1)):∃i,i<xs.size/\a=numAt xs i:=by
 obtain⟨i,hi,e⟩:=mem_getD h
 exact⟨i,by simpa using hi,by rw[numAt_eq,e]⟩
theorem xH5{xs:Array (Int×Tok)}(h:0<xs.size):numAt xs (argBest (fun i j=>decide (numAt xs i<numAt xs j)) (xs.size-1))=minL (xs.toList.map (·.1)):=by
 have z:=argBest_lt (numAt xs) (xs.size-1)
 have m:=yA3 (xs:=xs) (i:=argBest (fun i j=>decide (numAt xs i<numAt xs j)) (xs.size-1)) (by rfl')
 obtain⟨i,hi,e⟩:=yA9 (zK1 (List.ne_nil_of_mem m))
 have:=yA1 m
 have:=z.2 i (by rfl')
 rfl'
theorem xE8{xs:Array (Int×Tok)}(h:0<xs.size):numAt xs (argBest (fun i j=>decide (numAt xs i > numAt xs j)) (xs.size-1))=maxL (xs.toList.map (·.1)):=by
 have z:=argBest_gt (numAt xs) (xs.size-1)
 have m:=yA3 (xs:=xs) (i:=argBest (fun i j=>decide (numAt xs i > numAt xs j)) (xs.size-1)) (by rfl')
 obtain⟨i,hi,e⟩:=yA9 (zM8 (List.ne_nil_of_mem m))
 have:=wV3 m
 have:=z.2 i (by rfl')
 rfl'
section
variable {X:Cx}
theorem yU8(hc:X.calm=true):CallR X (.builtin "min") (fun xs H Q=>∃(p:Addr) (ns:List Int),xs=[.ref p]/\(SqL X.K H p (ns.map V.int)\/SqT X.K H p (ns.map V.int))/\ns ≠ []/\Q (.int (minL ns)) H):=by
 intro Ec s σ H xs us Q I r h
 obtain⟨p,ns,rfl,hq,hne,q⟩:=h
 obtain⟨u,rfl,ru⟩:=vals1 r
 cases ru
 have core:∀(its:List Value),Vals (ns.map V.int) its->∃xs:Array (Int×Tok),its.toArray=intItems xs/\ns=xs.toList.map (·.1):=fun its rv=>by
  have hi:IntsAre its ns:=fF rv
  obtain⟨xs,e⟩:=hi.allInts.items
  exact⟨xs,e,by rw[<-hi.numsOf,<-nums_intItems,<-e]⟩
 have fin:∀(xs:Array (Int×Tok)),ns=xs.toList.map (·.1)->0<xs.size->∀(v:Value) (h':Heap) (tk:Nat),(intItems xs)[argBest (fun i j=>decide (numAt xs i<numAt xs j)) (xs.size-1)]?=some v->(∀b o,s.heap.get? b=some o->h'.get? b=some o)->EP X Ec σ Q v { s with heap:=h',toks:=tk }:=fun xs hns hsz v h' tk hv hk=>by
  obtain⟨t,rfl⟩:=intItems_at hv
  have e:=xH5 hsz
  rw[<-hns] at e
  exact⟨.int _,H,I.kept hk,⟨t,by rw[e]⟩,q⟩
 have sz:∀xs:Array (Int×Tok),ns=xs.toList.map (·.1)->0<xs.size:=fun xs hns=>by
  rcases BY xs.size with z | z
  ·exact absurd (by rw[hns,Array.size_eq_zero_iff.mp z];rfl) hne
  ·exact z
 rcases hq with hq | hq
 ·obtain⟨its,rv,pl,hz⟩:=I.list hq
  obtain⟨xs,e,hns⟩:=core its rv
  exact min_intList (I.ok.hd hc) (by rw[<-e];exact pl.isList) (sz xs hns) (fin xs hns (sz xs hns))
 ·obtain⟨its,rv,pl,hz⟩:=I.tuple hq
  obtain⟨xs,e,hns⟩:=core its rv
  exact wS3 (I.ok.hd hc) (by rw[<-e];exact pl) (sz xs hns) (fin xs hns (sz xs hns))
theorem yW5(hc:X.calm=true):CallR X (.builtin "max") (fun xs H Q=>∃(p:Addr) (ns:List Int),xs=[.ref p]/\(SqL X.K H p (ns.map V.int)\/SqT X.K H p (ns.map V.int))/\ns ≠ []/\Q (.int (maxL ns)) H):=by
 intro Ec s σ H xs us Q I r h
 obtain⟨p,ns,rfl,hq,hne,q⟩:=h
 obtain⟨u,rfl,ru⟩:=vals1 r
 cases ru
 have core:∀(its:List Value),Vals (ns.map V.int) its->∃xs:Array (Int×Tok),its.toArray=intItems xs/\ns=xs.toList.map (·.1):=fun its rv=>by
  have hi:IntsAre its ns:=fF rv
  obtain⟨xs,e⟩:=hi.allInts.items
  exact⟨xs,e,by rw[<-hi.numsOf,<-nums_intItems,<-e]⟩
 have fin:∀(xs:Array (Int×Tok)),ns=xs.toList.map (·.1)->0<xs.size->∀(v:Value) (h':Heap) (tk:Nat),(intItems xs)[argBest (fun i j=>decide (numAt xs i > numAt xs j)) (xs.size-1)]?=some v->(∀b o,s.heap.get? b=some o->h'.get? b=some o)->EP X Ec σ Q v { s with heap:=h',toks:=tk }:=fun xs hns hsz v h' tk hv hk=>by
  obtain⟨t,rfl⟩:=intItems_at hv
  have e:=xE8 hsz
  rw[<-hns] at e
  exact⟨.int _,H,I.kept hk,⟨t,by rw[e]⟩,q⟩
 have sz:∀xs:Array (Int×Tok),ns=xs.toList.map (·.1)->0<xs.size:=fun xs hns=>by
  rcases BY xs.size with z | z
  ·exact absurd (by rw[hns,Array.size_eq_zero_iff.mp z];rfl) hne
  ·exact z
 rcases hq with hq | hq
 ·obtain⟨its,rv,pl,hz⟩:=I.list hq
  obtain⟨xs,e,hns⟩:=core its rv
  exact max_intList (I.ok.hd hc) (by rw[<-e];exact pl.isList) (sz xs hns) (fin xs hns (sz xs hns))
 ·obtain⟨its,rv,pl,hz⟩:=I.tuple hq
  obtain⟨xs,e,hns⟩:=core its rv
  exact wT7 (I.ok.hd hc) (by rw[<-e];exact pl) (sz xs hns) (fin xs hns (sz xs hns))
end
def min1D:List D->Option D
 | [d]=>(nsD d).bind fun ns=>if ns=[] then none else some (.int (minL ns))
 | _=>none
def max1D:List D->Option D
 | [d]=>(nsD d).bind fun ns=>if ns=[] then none else some (.int (maxL ns))
 | _=>none
theorem yD8{K:KFr}:PrC (fun xs H Q=>∃(p:Addr) (ns:List Int),xs=[.ref p]/\(SqL K H p (ns.map V.int)\/SqT K H p (ns.map V.int))/\ns ≠ []/\Q (.int (minL ns)) H) .cl min1D:=by
 intro Oc Ob H vs ds d Q oh va e k
 unfold min1D at e
 split at e
 ·obtain⟨ns,e1,e⟩:=AC.mp e
  split at e
  ·cases e
  ·rename_i hl
   cases e
   obtain⟨v,rfl,vx⟩:=va.one
   obtain⟨p,rfl,hq⟩:=yP7 vx e1
   exact⟨p,ns,rfl,hq,hl,k _ H (Same.refl H) (Rep.int _)⟩
 ·cases e
theorem yD2{K:KFr}:PrC (fun xs H Q=>∃(p:Addr) (ns:List Int),xs=[.ref p]/\(SqL K H p (ns.map V.int)\/SqT K H p (ns.map V.int))/\ns ≠ []/\Q (.int (maxL ns)) H) .cl max1D:=by
 intro Oc Ob H vs ds d Q oh va e k
 unfold max1D at e
 split at e
 ·obtain⟨ns,e1,e⟩:=AC.mp e
  split at e
  ·cases e
  ·rename_i hl
   cases e
   obtain⟨v,rfl,vx⟩:=va.one
   obtain⟨p,rfl,hq⟩:=yP7 vx e1
   exact⟨p,ns,rfl,hq,hl,k _ H (Same.refl H) (Rep.int _)⟩
 ·cases e
theorem fM{α β:Type}{F:α->β->Prop}:∀{as:List α}{bs:List β},as.length=bs.length->(∀(i:Nat) a b,as[i]?=some a->bs[i]?=some b->F a b)->Paired F as bs
 | [],[],_,_=>.nil
 | [],_::_,h,_=>by cases h
 | _::_,[],h,_=>by cases h
 | a::as,b::bs,h,f=>.cons (f 0 a b rfl rfl) (fM (Nat.succ.inj h) fun i x y hx hy=>f (i+1) x y (by simpa using hx) (by simpa using hy))
section
variable {X:Cx}
theorem yV2:CallR X (.type "range") (fun xs H Q=>∃j:Int,xs=[.int j]/\∀p,H p=none->Q (.ref p) (upd H p (.rng 0 j))):=by
 intro Ec s σ H xs us Q I r h
 obtain⟨j,rfl,q⟩:=h
 obtain⟨u,rfl,t,rfl⟩:=vals1 r
 exact call_range_1 ⟨.ref s.heap.objs.size,_,I.laid (t':=s.toks+1+1) (o:=.rng 0 j) (fun b o e=>Ai _ e) (Ab _) ⟨_,_,_,AA _ rfl⟩,rfl,q _ (I.hok.fresh (Ab _))⟩
theorem yT1(hc:X.calm=true):CallR X (.type "list") (fun xs H Q=>∃(p:Addr) (j:Int),xs=[.ref p]/\H p=some (.rng 0 j)/\-(2 ^ 62)<=j/\j.toNat<=1000000/\∀l,H l=none->Q (.ref l) (upd H l (.lst ((List.range j.toNat).map fun (i:Nat)=>V.int (i:Int))))):=by
 intro Ec s σ H xs us Q I r h
 obtain⟨p,j,rfl,hp,hs,hj,q⟩:=h
 obtain⟨u,rfl,ru⟩:=vals1 r
 cases ru
 obtain⟨t,u,v,e⟩:=I.hok p _ hp
 refine call_list_range (n:=j.toNat) (I.ok.hd hc) e (small_one (by rfl') (by rfl') hs (by rfl')) ?_ (by rfl') fun h' tk acc' c' hk hS hacc => ?_
 ·rw[rangeSize_one];split <;> rfl'
 ·have hv:Vals ((List.range j.toNat).map fun (i:Nat)=>V.int (i:Int)) acc'.toList:=by
   obtain⟨h1,h2⟩:=hacc
   refine fM ?_ ?_
   ·rw[Aa,Aq,BJ,h1]
   ·intro i a b ha hb
    rw[Al] at ha
    have hi:i<j.toNat:=by
     have:=(Au.mp hb).1
     rw[BJ,h1] at this
     exact this
    rw[AN hi] at ha
    cases ha
    obtain⟨t,e⟩:=h2 i b (by simpa using hb)
    refine⟨t,?_⟩
    rw[e]
    simp
  refine⟨.ref s.heap.objs.size,_,I.laid (t':=tk) (o:=.lst ((List.range j.toNat).map fun (i:Nat)=>V.int (i:Int))) hk (Ab _) ⟨?_,acc'.toList,c',hv,by simpa using hS⟩,rfl,q _ (I.hok.fresh (Ab _))⟩
  rw[Aa,Aq]
  exact BD (AT hj (by decide))
end
def rangeL:List D->Option D
 | [.int j]=>if -(2 ^ 62)<=j/\j.toNat<=1000000 then some (.list ((List.range j.toNat).map fun (i:Nat)=>PyData.int (i:Int))) else none
 | _=>none
theorem yY4{H:Hp}{O:Addr->Prop}(l:List Nat):Reps H O (l.map fun (i:Nat)=>V.int (i:Int)) (l.map fun (i:Nat)=>PyData.int (i:Int)):=by
 induction l with
 | nil=>exact .nil
 | cons a l ih=>exact .cons (.int _) ih
theorem zW7{C:Ct}{a:Expr}{p p2 pos pos2:Pos}{ms:Ev->Res (List D)}(hl:C.X.mg "list" = none)(hm:C.X.mg "range" = none)(ha:RArg C false [a] ms)(hc:autoParam (C.X.calm=true) Eb)(hgl:autoParam (Gl C.X "list") Eb)(hg:autoParam (Gl C.X "range") Eb)
  (hs:autoParam (starEach [a] C.X.env=(false,eval a C.X.env)::starEach [] C.X.env) Eb) (hs2:autoParam (starEach [.Call (.Name "range" p2) [a] [] pos2] C.X.env=(false,eval (.Call (.Name "range" p2) [a] [] pos2) C.X.env)::starEach [] C.X.env) Eb)
  (hpl:autoParam ((backTo pos (starEach [] C.X.env)).any (·.1)=false) Eb) (hpl2:autoParam ((backTo pos2 (starEach [] C.X.env)).any (·.1)=false) Eb) :
  RE C .new (.Call (.Name "list" p) [.Call (.Name "range" p2) [a] [] pos2] [] pos) (eB rangeL ms):=by
 obtain⟨t,pa,q⟩:=ha
 refine⟨_,fT (yT1 hc) hgl hl (by rfl) (xO (fT yV2 hg hm (by rfl) pa (by decide) (by decide) hs hpl2) xE hs2) (by decide) (by decide) hs2 hpl,fun Oc Ob σ H ρ Q R h=>q Oc Ob σ H ρ _ R (Res.zQ (Res.zT h) (fun ds _ k vs H1 s1 r => ?_) fun _ z=>z)⟩
 obtain⟨d,e,k⟩:=Res.zF k
 unfold rangeL at e
 split at e
 ·split at e
  ·rename_i hb
   cases e
   obtain⟨v,rfl,va⟩:=VAs.one r
   obtain rfl:=va.int
   refine⟨_,rfl,fun p hp=>⟨p,_,rfl,yP,hb.1,hb.2,fun l hl => ?_⟩⟩
   exact k _ _ ((s1.trans (Same.new hp)).trans (Same.new hl)) (wN (s1.trans (Same.new hp)) hl (yY4 _))
  ·cases e
 ·cases e
section
variable {X:Cx}
def rExtR:V->List V->Hp->VK->Prop:=fun x vs H Q=>∃l b xs zs,x=.ref l/\vs=[.ref b]/\H l=some (.lst xs)/\(Rd H b (.lst zs)\/Rd H b (.tup zs))/\xs.length+zs.length<=sizeLine/\Q .non (upd H l (.lst (xs++zs)))
theorem xA8:MtM X "list.extend" rExtR:=by
 intro Ec s σ H x vs v us Q I rx rv h
 obtain⟨l,b,xs,zs,rfl,rfl,hH,hB,hz,q⟩:=h
 cases rx
 obtain⟨u,rfl,ru⟩:=rv.one
 cases ru
 obtain⟨z,its,n,r,hl,e⟩:=I.lstM hH
 have len:(xs++zs).length<=sizeLine:=by rw[An];exact hz
 rcases hB with hB | hB
 ·obtain⟨z2,its2,n2,r2,hl2,e2⟩:=Rd.lstM I hB
  have hsz:its.toArray.size+its2.toArray.size<=sizeLine:=by rw[Ao,Ao];rfl'
  have hlong:¬(!its.toArray.isEmpty&&Builtin.List.listTooLong (its.toArray.size+its2.toArray.size))=true:=by
   rw[notLongL hsz,Bool.and_false]
   exact AG
  refine call_meets F.slot_list_extend ⟨_,e,rfl⟩ F.entry_list_extend (F.args_list_extend_2 _ _)
   (AutoSeq1.list_extend_list_list_0 l its.toArray n b its2.toArray n2 hlong (by rw[Ao];rfl') (by rfl')) ⟨e,e2,?_⟩
  exact⟨.non,_,I.lset (its':=its++its2) hH e (by simp) (r.append r2) len,rfl,q⟩
 ·obtain⟨z2,its2,r2,o,ho,hc,⟨n2,hd⟩,_⟩:=hB.ok I.hok
  have hl2:=r2.length
  have hsz:its.toArray.size+its2.toArray.size<=sizeLine:=by rw[Ao,Ao];rfl'
  refine call_meets F.slot_list_extend ⟨_,e,rfl⟩ F.entry_list_extend (F.args_list_extend_2 _ _)
   (wS9 hc hd hsz) ⟨e,ho,?_⟩
  exact⟨.non,_,I.lset (its':=its++its2) hH e (by simp) (r.append r2) len,rfl,q⟩
def insN(n:Nat)(x:Int):Nat:=if x<0 then (x+(n:Int)).toNat else min x.toNat n
def rInsert:V->List V->Hp->VK->Prop:=fun x vs H Q=>∃l xs i y,x=.ref l/\vs=[.int i,y]/\H l=some (.lst xs)/\-(2 ^ 63)<=i/\i<2 ^ 63/\xs.length<sizeLine/\Q .non (upd H l (.lst (xs.take (insN xs.length i)++y::xs.drop (insN xs.length i))))
theorem xM1:MtM X "list.insert" rInsert:=by
 intro Ec s σ H x vs v us Q I rx rv h
 obtain⟨l,xs,i,y,rfl,rfl,hH,h1,h2,hz,q⟩:=h
 cases rx
 obtain⟨u,w',rfl,⟨t,rfl⟩,ry⟩:=rv.two
 obtain⟨z,its,n,r,hl,e⟩:=I.lstM hH
 refine call_meets F.slot_list_insert ⟨_,e,rfl⟩ F.entry_list_insert (F.args_list_insert_3 _ _ _) (AutoSeq1.list_insert_list_int_val_1 l its.toArray n i t w' (by rw[fitsIndex_both h1 h2];exact AG) (by rw[Ao];rfl')) ⟨e,?_⟩
 refine⟨.non,_,I.lset (its':=its.take (insN its.length i)++w'::its.drop (insN its.length i)) hH e ?_ (by rw[hl];exact (r.take _).append (.cons ry (r.drop _))) ?_,rfl,q⟩
 ·show (its.toArray.extract 0 (if i<0 then (i+(its.toArray.size:Int)).toNat else min i.toNat its.toArray.size)).push w'++its.toArray.extract (if i<0 then (i+(its.toArray.size:Int)).toNat else min i.toNat its.toArray.size)=_
  rw[PySem.W.kl_ins_eq,Ao]
  rfl
 ·rw[An,Ax,BN,BF]
  rfl'
end
def appD:List D->List D->Option (List D)
 | xs,[d]=>if xs.length<sizeLine then some (xs ++ [d]) else none
 | _,_=>none
def extD:List D->List D->Option (List D)
 | xs,[d]=>(seqD d).bind fun ys=>if xs.length+ys.length<=sizeLine then some (xs++ys) else none
 | _,_=>none
def insD:List D->List D->Option (List D)
 | xs,[.int i,d]=>if -(2 ^ 63)<=i/\i<2 ^ 63/\xs.length<sizeLine then some (xs.take (insN xs.length i)++d::xs.drop (insN xs.length i)) else none
 | _,_=>none
theorem Reps.one'{H:Hp}{O:Addr->Prop}{vs:List V}{d:D}(h:Reps H O vs [d]):∃v,vs=[v]/\Rep H O v d:=by
 cases h with
 | cons a t=>cases t;exact⟨_,rfl,a⟩
theorem Reps.two'{H:Hp}{O:Addr->Prop}{vs:List V}{d d':D}(h:Reps H O vs [d,d']):∃v v',vs=[v,v']/\Rep H O v d/\Rep H O v' d':=by
 cases h with
 | cons a t =>
  obtain⟨v,rfl,q⟩:=Reps.one' t
  exact⟨_,_,rfl,a,q⟩
theorem uB:PrM rAppend appD:=by
 intro O H l xs vs xd ad ds' Q hl rx ra e k
 unfold appD at e
 split at e
 ·split at e
  ·rename_i h
   cases e
   obtain⟨v,rfl,rv⟩:=Reps.one' ra
   exact⟨l,xs,v,rfl,rfl,hl,by rw[rx.length];exact h,k _ (rx.append (.one rv))⟩
  ·cases e
 ·cases e
theorem xP1:PrM rInsert insD:=by
 intro O H l xs vs xd ad ds' Q hl rx ra e k
 unfold insD at e
 split at e
 ·split at e
  ·rename_i h
   cases e
   obtain⟨v,v',rfl,rv,rv'⟩:=Reps.two' ra
   cases rv
   refine⟨l,xs,_,v',rfl,rfl,hl,h.1,h.2.1,by rw[rx.length];exact h.2.2,?_⟩
   rw[rx.length]
   exact k _ (Reps.insert rv' _ rx)
  ·cases e
 ·cases e
section
variable {i j:Nat}{m n:Ev->Res Out}{t:Ev->Res Bool}{me mk:Ev->Res D}{ms mi:Ev->Res (List D)}{g:D->Ev->Option Ev}{f:List D->List D->Option (List D)}
end
def isL:Value->Bool
 | .type t=>t == "list"
 | _=>false
def noLst(K:KFr):Bool:=K.all fun p=>!isL p.2.cls
theorem yG9{K:KFr}{a:Addr}{o:Obj}(h:K.lookup a=some o):(a,o)∈K:=by
 have h:List.lookup a K=some o:=h
 induction K with
 | nil=>cases h
 | cons p r ih =>
  obtain⟨b,u⟩:=p
  rw[BG] at h
  by_cases e:(a == b)=true
  ·simp only[e] at h
   cases h
   have:a=b:=by simpa using e
   rw[this]
   exact Af
  ·simp only[e] at h
   exact Aj _ (ih h h)
theorem yR2{K:KFr}{H:Hp}{a:Addr}{xs:List V}(hn:noLst K=true)(h:SqL K H a xs):Rd H a (.lst xs):=by
 rcases h with h | ⟨o,its,n,hk,hc,_⟩
 ·exact h
 ·have:=Bv.mp hn _ (yG9 hk)
  rw[hc] at this
  cases this
end L2.L3
namespace L2.L3
open PySem
section
variable (m n:Ev->Res Out) (t t':Ev->Res Bool) (a b c:Ev->Res D) (xs:Ev->Res (List D)) (ρ:Ev) (i j:Nat) (d:D)
theorem wB1:sN ρ=.ok (.nx ρ):=rfl
theorem wF8:sX ρ=.no:=rfl
theorem wA1:sQ m n ρ=(m ρ).bind fun o=>match o with | .nx ρ'=>n ρ' | .rt d=>.ok (.rt d):=rfl
theorem wO1:sIf t m n ρ=(t ρ).bind fun k=>if k then m ρ else n ρ:=rfl
theorem yS6:sR a ρ=(a ρ).bind fun d=>.ok (.rt d):=rfl
theorem wE5:sS i a ρ=(a ρ).bind fun d=>.ok (.nx (ρ.set i (some d))):=rfl
theorem wF4:sE a ρ=(a ρ).bind fun _=>.ok (.nx ρ):=rfl
theorem wB4(g:List D->List D->Option (List D)):sM i g xs ρ=(eV i ρ).bind fun d=>(Res.lft (lstD d)).bind fun xd=>(xs ρ).bind fun ad=>(Res.lft (g xd ad)).bind fun ds=>.ok (.nx (ρ.set i (some (.list ds)))):=rfl
theorem wE4:sI i b a ρ=(a ρ).bind fun v=>(eV i ρ).bind fun d=>(Res.lft (lstD d)).bind fun xd=>(b ρ).bind fun k=>(Res.lft (setD xd k v)).bind fun ds=>.ok (.nx (ρ.set i (some (.list ds)))):=rfl
theorem wC6:sV i j ρ=(eV j ρ).bind fun d=>.ok (.nx ((ρ.set i (some d)).set j none)):=rfl
theorem wD2(g:D->Ev->Option Ev):sF xs g m ρ=(xs ρ).bind fun ds=>forM g m ds ρ:=rfl
theorem wE3(k:Nat):sW k t m ρ=whM t m k ρ:=rfl
theorem yS7:eC d ρ=.ok d:=rfl
theorem eV0(x:D)(r:Ev):eV 0 (some x::r)=.ok x:=rfl
theorem eVs(o:Option D)(r:Ev):eV (i+1) (o::r)=eV i r:=rfl
theorem wE1(f:D->Option D):e1 f a ρ=(a ρ).bind fun x=>Res.lft (f x):=rfl
theorem yQ2(f:D->D->Option D):e2 f a b ρ=(a ρ).bind fun x=>(b ρ).bind fun y=>Res.lft (f x y):=rfl
theorem yR3(f:List D->Option D):eB f xs ρ=(xs ρ).bind fun ds=>Res.lft (f ds):=rfl
theorem wD9(f:List D->Res D):eF f xs ρ=(xs ρ).bind f:=rfl
theorem wH5(fr:Bool)(f:List D->Res D):eFA fr f xs ρ=(xs ρ).bind fun ds=>(f ds).bind fun d=>if lfT fr d then .ok d else .no:=rfl
theorem wC3(f:D->D->Option Bool):b2 f a b ρ=(a ρ).bind fun x=>(b ρ).bind fun y=>Res.lft (f x y):=rfl
theorem yR1(f g:D->D->Option Bool):b3 f g a b c ρ=(a ρ).bind fun x=>(b ρ).bind fun y=>(Res.lft (f x y)).bind fun k=>if k then (c ρ).bind fun z=>Res.lft (g y z) else .ok false:=rfl
theorem yQ8:vB t ρ=(t ρ).bind fun k=>.ok (.bool k):=rfl
theorem wC7:tV a ρ=(a ρ).bind fun d=>Res.lft (isB d):=rfl
theorem wP2:tNt t ρ=(t ρ).bind fun k=>.ok (!k):=rfl
theorem wH6:tAn t t' ρ=(t ρ).bind fun k=>if k then t' ρ else .ok false:=rfl
theorem wE9:tO t t' ρ=(t ρ).bind fun k=>if k then .ok true else t' ρ:=rfl
theorem zG2:vAn a b ρ=(a ρ).bind fun d=>(Res.lft (isB d)).bind fun k=>if k then b ρ else .ok (.bool false):=rfl
theorem wF6:vO a b ρ=(a ρ).bind fun d=>(Res.lft (isB d)).bind fun k=>if k then .ok (.bool true) else b ρ:=rfl
theorem wJ6:vNt a ρ=(a ρ).bind fun d=>(Res.lft (isB d)).bind fun k=>.ok (.bool (!k)):=rfl
theorem wN5:eIf t a b ρ=(t ρ).bind fun k=>if k then a ρ else b ρ:=rfl
theorem yR9:aN ρ=.ok []:=rfl
theorem yQ4:aC a xs ρ=(a ρ).bind fun x=>(xs ρ).bind fun r=>.ok (x::r):=rfl
theorem wE8:iS a ρ=(a ρ).bind fun d=>Res.lft (seqD d):=rfl
theorem wB6(f:List D->Option (List D)):iR f xs ρ=(xs ρ).bind fun ds=>Res.lft (f ds):=rfl
theorem wB2:gN i d ρ=some (ρ.set i (some d)):=rfl
theorem wX5:tYes ρ=.ok true:=rfl
theorem xH4(mi:Ev->Res (List D))(js:List Nat):eComp mi t a js ρ=(mi ρ).bind fun ds=>if ds.length<=sizeLine then (compM (fun x=>t (cEnv ρ js x)) (fun x=>a (cEnv ρ js x)) ds).bind fun out=>.ok (.list out) else .no:=rfl
theorem wB7(f:Int->Int->Option Int)(x y:Int):i2 f (.int x) (.int y)=(f x y).map PyData.int:=rfl
theorem yQ7(f:Int->Int->Bool)(x y:Int):c2 f (.int x) (.int y)=some (f x y):=rfl
theorem wZ8(l:List D):lstD (.list l)=some l:=rfl
theorem xM9(l:List D):seqD (.list l)=some l:=rfl
theorem xP3(l:List D):seqD (.tuple l)=some l:=rfl
theorem zJ9(k:Bool):isB (.bool k)=some k:=rfl
theorem yZ1:lenD [d]=(seqD d).map fun ds=>.int ds.length:=rfl
theorem xH8:listD [d]=(seqD d).map fun ds=>.list ds:=rfl
theorem wZ9:tupD [d]=(seqD d).map fun ds=>.tuple ds:=rfl
theorem wD4(l:List D)(k:Int):ixD (.list l) (.int k)=atI l k:=rfl
theorem wC2(l:List D)(k:Int):ixD (.tuple l) (.int k)=atI l k:=rfl
theorem wV7(k:Int):negD (.int k)=some (.int (-k)):=rfl
theorem yR4(k:Bool):bD (some k)=some (.bool k):=rfl
end
theorem zG7(fr:Bool)(d:D):fin fr (.rt d)=.ok d:=rfl
theorem wK9(ρ:Ev):fin false (.nx ρ)=.ok .none:=rfl
theorem uM{g:D->Ev->Option Ev}{b:Ev->Res Out}(P:Nat->Ev->Prop)(ds:List D)(ρ:Ev)(h0:P 0 ρ)(hs:∀(i:Nat) d ρ,ds[i]?=some d->P i ρ->∃ρ1 ρ2,g d ρ=some ρ1/\b ρ1=.ok (.nx ρ2)/\P (i+1) ρ2) :
  ∃ρ',forM g b ds ρ=.ok (.nx ρ')/\P ds.length ρ':=by
 induction ds generalizing P ρ with
 | nil=>exact⟨ρ,rfl,h0⟩
 | cons d ds ih =>
  obtain⟨ρ1,ρ2,e1,e2,p⟩:=hs 0 d ρ rfl h0
  obtain⟨ρ',e,p'⟩:=ih (fun i=>P (i+1)) ρ2 p fun i d ρ hd hp=>hs (i+1) d ρ (by simpa using hd) hp
  refine⟨ρ',?_,by simpa using p'⟩
  rw[forM,e1,Res.lft_some,Res.bind_ok,e2,Res.bind_ok]
  exact e
theorem yJ6{t:Ev->Res Bool}{b:Ev->Res Out}(P:Nat->Ev->Prop)(n:Nat):∀(fuel:Nat) (ρ:Ev),P 0 ρ->(∀i ρ,i<n->P i ρ->t ρ=.ok true/\∃ρ2,b ρ=.ok (.nx ρ2)/\P (i+1) ρ2)->(∀ρ,P n ρ->t ρ=.ok false)->n<fuel->∃ρ',whM t b fuel ρ=.ok (.nx ρ')/\P n ρ':=by
 induction n generalizing P with
 | zero =>
  intro fuel ρ h0 _ he hf
  obtain⟨f,rfl⟩:∃f,fuel=f+1:=⟨fuel-1,by rfl'⟩
  refine⟨ρ,?_,h0⟩
  rw[whM,he ρ h0]
  rfl
 | succ n ih =>
  intro fuel ρ h0 hs he hf
  obtain⟨f,rfl⟩:∃f,fuel=f+1:=⟨fuel-1,by rfl'⟩
  obtain⟨e1,ρ2,e2,p⟩:=hs 0 ρ (Nat.succ_pos _) h0
  obtain⟨ρ',e,p'⟩:=ih (fun i=>P (i+1)) f ρ2 p (fun i ρ hi hp=>hs (i+1) ρ (by rfl') hp) he (by rfl')
  refine⟨ρ',?_,p'⟩
  rw[whM,e1,Res.bind_ok,Ac rfl,e2,Res.bind_ok]
  exact e
theorem zV1{t:D->Res Bool}{f:D->Res D}{α:Type}(A:α->D)(p:α->Bool)(q:α->D):∀(xs:List α),(∀x∈xs,t (A x)=.ok (p x))->(∀x∈xs,p x=true->f (A x)=.ok (q x))->compM t f (xs.map A)=.ok ((xs.filter p).map q)
 | [],_,_=>rfl
 | x::xs,ht,hf=>by
  have ih:=zV1 A p q xs (fun y hy=>ht y (Aj _ hy)) (fun y hy=>hf y (Aj _ hy))
  rw[AI,compM,ht x Af]
  cases hp:p x with
  | false=>simp only[noEx,Res.bind_ok,Cu,if_false,List.filter_cons,hp];exact ih
  | true =>
   rw[hf x Af hp,ih]
   simp[noEx,List.filter_cons,hp]
abbrev tI(ns:List Int):D:=.tuple (ns.map PyData.int)
abbrev lI(ns:List Int):D:=.list (ns.map PyData.int)
theorem zR6{α β:Type}(f:α->β)(xs:List α)(i:Int):atI (xs.map f) i=(atI xs i).map f:=by
 unfold atI
 rw[Aa]
 cases ixN xs.length i with
 | none=>rfl
 | some j=>simp
theorem zK3{xs:List Int}{j:Nat}(h:j<xs.length):atI xs (j:Int)=some (xs.getD j 0):=by
 refine qM ?_
 rw[Ak,Ae h]
 rfl
theorem zT4{ds:List D}(h:ds.length<=1000):mkL ds=some (.list ds):=by
 unfold mkL
 exact Ac (BD (small1000 h))
theorem zF7{ds:List D}(h:ds.length<=1000):mkT ds=some (.tuple ds):=by
 unfold mkT
 exact Ac (BD (small1000 h))
theorem mkL0:mkL []=some (.list []):=zT4 (by simp)
theorem mkL1(a:D):mkL [a]=some (.list [a]):=zT4 (by simp)
theorem mkL2(a b:D):mkL [a,b]=some (.list [a,b]):=zT4 (by simp)
theorem mkL3(a b c:D):mkL [a,b,c]=some (.list [a,b,c]):=zT4 (by simp)
theorem mkL4(a b c d:D):mkL [a,b,c,d]=some (.list [a,b,c,d]):=zT4 (by simp)
theorem mkT0:mkT []=some (.tuple []):=zF7 (by simp)
theorem mkT1(a:D):mkT [a]=some (.tuple [a]):=zF7 (by simp)
theorem mkT2(a b:D):mkT [a,b]=some (.tuple [a,b]):=zF7 (by simp)
theorem mkT3(a b c:D):mkT [a,b,c]=some (.tuple [a,b,c]):=zF7 (by simp)
theorem gC{l:List D}{d:D}(h:l.length<=1000):appD l [d]=some (l ++ [d]):=Ac (small1000 h)
theorem wN8{l k:List D}{d:D}(hd:seqD d=some k)(h:l.length+k.length<=1000):extD l [d]=some (l++k):=by
 show (seqD d).bind (fun ys=>if l.length+ys.length<=sizeLine then some (l++ys) else none)=_
 rw[hd]
 exact Ac (BD (small1000 h))
theorem wI8{l:List D}{d:D}{i:Int}(h0:0<=i)(h1:i<=l.length)(h:l.length<=1000):insD l [.int i,d]=some (l.take i.toNat++d::l.drop i.toNat):=by
 unfold insD
 simp only
 rw[Ac ⟨by rfl',by rfl',small1000 h⟩]
 have e:insN l.length i=i.toNat:=by
  unfold insN
  rw[Ah (by rfl')]
  rfl'
 rw[e]
theorem yC5{ds:List D}{r:Res D}(h:ds.length<=1000):(if ds.length<=sizeLine then r else .no)=r:=Ac (BD (small1000 h))
theorem uK{n:Nat}(h:n<=1000):rng1 [.int (n:Int)]=some ((List.range n).map fun (i:Nat)=>PyData.int (i:Int)):=by
 unfold rng1
 simp only
 rw[Ac ⟨by rfl',by rfl'⟩,AW]
theorem dH{n i:Nat}{d:D}(h:((List.range n).map fun (i:Nat)=>PyData.int (i:Int))[i]?=some d):i<n/\d=.int (i:Int):=by
 rw[Al] at h
 by_cases hi:i<n
 ·rw[AN hi] at h
  cases h
  exact⟨hi,rfl⟩
 ·rw[Cv (by simpa using hi)] at h
  cases h
theorem dY(i:Int):SeqAt.shaped (.int i)=true:=rfl
theorem yD3(i j:Int):PyData.eqv (.int i) (.int j)=decide (i=j):=by
 rw[PyData.eqv]
 exact Bool.beq_eq_decide_eq i j
theorem xB(i j:Int):eqD (.int i) (.int j)=some (decide (i=j)):=by
 unfold eqD
 rw[Ac ⟨dY i,dY j⟩,yD3]
theorem zQ7(i j:Int):neD (.int i) (.int j)=some (!decide (i=j)):=by
 unfold neD
 rw[Ac ⟨dY i,dY j⟩,yD3]
theorem wG4(ns ms:List Int):eqD (lI ns) (lI ms)=some (decide (ns=ms)):=by
 unfold eqD
 rw[Ac ⟨zO8 ns,zO8 ms⟩,wS4]
theorem zF4(ns ms:List Int):eqD (tI ns) (tI ms)=some (decide (ns=ms)):=by
 unfold eqD
 rw[Ac ⟨zS7 ns,zS7 ms⟩,wT2]
abbrev rows(rs:List (List Int)):D:=.list (rs.map tI)
theorem xZ4{n m:Nat}(h:m<n):ixN n (m:Int)=some m:=by
 unfold ixN
 rw[Ac (by rfl'),Ac (by rfl'),AW]
theorem xR2{n m:Nat}(h:m<n)(f:Nat->D)(v:D):((List.range n).map f).set m v=(List.range n).map fun c=>if c=m then v else f c:=by
 apply List.ext_getElem?
 intro i
 by_cases e:m=i
 ·subst e
  rw[BE (by simpa using h),Al,AN h]
  simp
 ·rw[AO e,Al,Al]
  cases q:(List.range n)[i]? with
  | none=>rfl
  | some c =>
   have:c=i:=by
    have hi:=(Au.mp q).1
    rw[AN (by simpa using hi)] at q
    cases q;rfl
   subst this
   show some (f c)=some (if c=m then v else f c)
   rw[Ah (fun z=>e z.symm)]
theorem zY4{n m:Nat}(h:m<n)(f:Nat->D)(v:D):setD ((List.range n).map f) (.int (m:Int)) v=some ((List.range n).map fun c=>if c=m then v else f c):=by
 unfold setD
 simp only
 rw[Aa,Aq,xZ4 h,Bu,xR2 h]
theorem aJ(v:D)(n:Nat)(h:n<=1000):repL (.list [v]) (.int (n:Int))=some (.list (List.replicate n v)):=by
 unfold repL
 simp only
 rw[Ac ⟨by rfl',by rfl',by rw[Bm,AW];exact BD (small1000 (by rfl'))⟩,AW]
 congr 2
 induction n with
 | zero=>rfl
 | succ n ih=>rw[Bl,Bx,ih (by rfl'),Bl];rfl
theorem fO{α:Type}(v:α)(n:Nat):List.replicate n v=(List.range n).map fun _=>v:=by
 apply List.ext_getElem?
 intro i
 rw[Dm,Al]
 by_cases h:i<n
 ·rw[Ac h,AN h];rfl
 ·rw[Ah h,Cv (by simpa using h)];rfl
theorem zU1{n m:Nat}(h:m<n)(f:Nat->D):atI ((List.range n).map f) (m:Int)=some (f m):=qM (by rw[Al,AN h];rfl)
theorem zE5{n:Nat}(h:n<=1000):rangeL [.int (n:Int)]=some (lI ((List.range n).map fun (i:Nat)=>(i:Int))):=by
 unfold rangeL
 simp only
 rw[Ac ⟨by rfl',by rfl'⟩,AW]
 congr 2
 rw[Av]
 rfl
theorem xE7{ns:List Int}(h:ns.length<=63):sortD [lI ns]=some (lI (sortI ns)):=by
 unfold sortD
 simp only[nsD,seqD,AR,intsOf_map]
 rw[Ac (by rfl')]
theorem wY1{ns:List Int}(h:ns ≠ []):min1D [tI ns]=some (.int (minL ns)):=by
 unfold min1D
 simp only[nsD,seqD,AR,intsOf_map]
 rw[Ah h]
theorem wW7{ns:List Int}(h:ns ≠ []):min1D [lI ns]=some (.int (minL ns)):=by
 unfold min1D
 simp only[nsD,seqD,AR,intsOf_map]
 rw[Ah h]
section
variable (i:Int) (b:Bool) (l:List D)
theorem wL5:isiD "int" (.int i)=some (.bool true):=rfl
theorem wI9:isiD "bool" (.int i)=some (.bool false):=rfl
theorem wP9:isiD "bool" (.bool b)=some (.bool true):=rfl
theorem wL1:isiD "int" (.bool b)=some (.bool true):=rfl
theorem wL9:isiD "tuple" (.tuple l)=some (.bool true):=rfl
theorem wP3:isiD "list" (.list l)=some (.bool true):=rfl
theorem wM7:isiD "tuple" (.list l)=some (.bool false):=rfl
theorem wM2:isiD "list" (.tuple l)=some (.bool false):=rfl
theorem wG2:isiD "tuple" .none=some (.bool false):=rfl
theorem wM1:isiD "bool" .none=some (.bool false):=rfl
end
theorem yM6{mi:Ev->Res (List D)}{t:Ev->Res Bool}{me:Ev->Res D}{js:List Nat}{ρ:Ev}{α:Type}(A:α->D)(p:α->Bool)(q:α->D)(xs:List α)(h:mi ρ=.ok (xs.map A))(hl:xs.length<=1000)
  (ht:∀x∈xs,t (cEnv ρ js (A x))=.ok (p x)) (hf:∀x∈xs,p x=true->me (cEnv ρ js (A x))=.ok (q x)):eComp mi t me js ρ=.ok (.list ((xs.filter p).map q)):=by
 rw[xH4,h,Res.bind_ok,yC5 (by rw[Aa];exact hl),zV1 A p q xs ht hf]
 rfl
theorem yF{mi:Ev->Res (List D)}{me:Ev->Res D}{js:List Nat}{ρ:Ev}{α:Type}(A:α->D)(q:α->D)(xs:List α)(h:mi ρ=.ok (xs.map A))(hl:xs.length<=1000)
  (hf:∀x∈xs,me (cEnv ρ js (A x))=.ok (q x)):eComp mi tYes me js ρ=.ok (.list (xs.map q)):=by
 rw[yM6 A (fun _=>true) q xs h hl (fun _ _=>rfl) (fun x hx _=>hf x hx),CF.mpr fun _ _=>rfl]
end L2.L3
namespace L2.L3
theorem aM{α:Type}(a:α)(l:List α):atI (a::l) 0=some a:=qM (j:=0) rfl
end L2.L3
namespace HT
open PySem PySem.Spec PyProof.Rows
section
variable {prog:Program}{w:World}{A:Around}{E:Value->Shared->Prop}{s:Shared}
theorem zP5{t sl:Addr}{items:Array Value}{vl vu:Value}{lo hi:Option Int}{Q:Value->Shared->Prop}(ht:IsTup s.heap t items)(hs:s.heap.IsSliceOf sl vl vu .none)(pl:IsPart vl lo)(pu:IsPart vu hi)
  (hw:sIx items.size 0 lo=0/\sIx items.size items.size hi=items.size) (h:Q (.ref t) s):wpAny (model prog w) A (getItem (.ref t) (.ref sl)) Q E s:=by
 obtain⟨os,hos,hcs,hds⟩:=id hs
 have hTs:s.TypeIs (.ref sl) "slice":=⟨os,hos,hcs⟩
 unfold getItem
 try with_reducible refine wpAny_holding ?_
 first | refine Am (AF ?_) | skip
 refine Am (wpAny_sequenceKey ht.typeIs (by decide) ?_)
 refine Am (wpAny_callSpecial?_slot (name:=Str.ofString "__getitem__") ht.typeIs BV
  (wpAny_call_entry BV ht.typeIs entry_tuple_getitem ?_ (args_tuple_getitem _ _)))
 show wpAny _ _ (Builtin.Tuple.tupleItemsOf (.ref t) >>= _) _ _ s
 refine Am (tupleItemsOf_ ht ?_)
 refine Am (wpAny_typeOf hTs ?_)
 rw[Ac (by decide)]
 refine Am (cM hs pl pu ?_)
 have hyes:(((sIx items.size 0 lo:Nat):Int) == 0&&(1:Int) == 1&&(sIx items.size items.size hi-sIx items.size 0 lo) == items.size)=true:=by
  rw[hw.1,hw.2]
  simp
 show wpAny _ _ (if (((sIx items.size 0 lo:Nat):Int) == 0&&(1:Int) == 1&&(sIx items.size items.size hi-sIx items.size 0 lo) == items.size)=true then _ else _) _ _ s
 rw[Ac hyes]
 unfold Builtin.Tuple.tupleIsExact
 refine Am (Am (wpAny_typeOf ht.typeIs (AF ?_)))
 rw[Ac (by decide)]
 refine Am (wpAny_rule ?_)
 exact AF ⟨_,rfl,AF h⟩
end
end HT
namespace L2.L3
open PySem PySem.Spec PyProof.Rows
variable [CN]
section
variable {X:Cx}
def rSlTA(K:KFr):V->Option Int->Option Int->Hp->VK->Prop:=fun x lo hi H Q=>∃a xs,x=.ref a/\SqT K H a xs/\HT.sIx xs.length 0 lo=0/\HT.sIx xs.length xs.length hi=xs.length/\Q (.ref a) H
theorem wZ5:SlR X (rSlTA X.K):=by
 intro Ec s σ H x v vl vu lo hi sl Q I rx hs pl pu h
 obtain⟨a,xs,rfl,hx,hw1,hw2,q⟩:=h
 cases rx
 obtain⟨its,r,ht,hz⟩:=I.tuple hx
 have hlen:its.toArray.size=xs.length:=by rw[Ao];exact r.length.symm
 refine⟨"tuple",_,BV.lookup,ht.typeIs,?_⟩
 exact HT.zP5 ht hs pl pu (by rw[hlen];exact⟨hw1,hw2⟩) ⟨.ref a,H,I,rfl,q⟩
end
def RO(C:Ct)(e:Option Expr)(m:Ev->Res (Option Int)):Prop :=
 ∃t,PO C.X e t/\∀(Oc:Wd) (Ob:Addr->Prop) (σ:St) (H:Hp) (ρ:Ev) (Q:Option Int->Hp->Prop),Rel Oc Ob C.om C.ln σ H ρ ->
  (m ρ).post (fun d=>∀H',Same H H'->Q d H') (fun c=>∀H',Same H H'->C.XE c H')->t σ H Q
def oN:Ev->Res (Option Int):=fun _=>.ok none
def isI:D->Option Int
 | .int i=>some i
 | _=>none
def oS(m:Ev->Res D):Ev->Res (Option Int):=fun ρ=>(m ρ).bind fun d=>(Res.lft (isI d)).bind fun i=>.ok (some i)
theorem yB2{C:Ct}:RO C none oN:=⟨_,wV1,fun Oc Ob σ H ρ Q R h=>h H (Same.refl H)⟩
theorem dQ{C:Ct}{e:Expr}{md:Md}{me:Ev->Res D}(h:RE C md e me):RO C (some e) (oS me):=by
 obtain⟨t,p,q⟩:=h
 refine⟨_,zC1 p,fun Oc Ob σ H ρ Q R h=>q Oc Ob σ H ρ _ R (Res.zQ (Res.zT h) (fun d _ k v H' s r => ?_) fun _ z=>z)⟩
 obtain⟨i,e,k⟩:=Res.zF (Res.zT k)
 cases d with
 | int j=>cases e;exact⟨i,(r.va R.oh).int,k H' s⟩
 | _=>cases e
def eS(f:D->Option Int->Option Int->Option D)(m:Ev->Res D)(lo hi:Ev->Res (Option Int)):Ev->Res D:=fun ρ=>(m ρ).bind fun x=>(lo ρ).bind fun l=>(hi ρ).bind fun u=>Res.lft (f x l u)
def PrS(r:V->Option Int->Option Int->Hp->VK->Prop)(md:Md)(f:D->Option Int->Option Int->Option D):Prop :=
 ∀(Oc:Wd) (Ob:Addr->Prop) (H:Hp) (x:V) (dx:D) (lo hi:Option Int) (d:D) (Q:VK),(∀a,Oc a\/Ob a->H a≠none)->VA Oc Ob H x dx->f dx lo hi=some d->(∀v H',Same H H'->VR md Oc Ob H H' v d->Q v H')->r x lo hi H Q
theorem zM4{C:Ct}{e:Expr}{lo hi:Option Expr}{md mda:Md}{me:Ev->Res D}{ml mh:Ev->Res (Option Int)}{p2 pos:Pos}{r:V->Option Int->Option Int->Hp->VK->Prop}{f:D->Option Int->Option Int->Option D}(hr:SlR C.X r)(hp:PrS r md f)(he:RE C mda e me)(hl:RO C lo ml)(hu:RO C hi mh) :
  RE C md (.Subscript e (.Slice lo hi none p2) pos) (eS f me ml mh):=by
 obtain⟨t,p,q⟩:=he
 obtain⟨tl,pl,ql⟩:=hl
 obtain⟨th,ph,qh⟩:=hu
 refine⟨_,yJ3 hr p pl ph,fun Oc Ob σ H ρ Q R h=>q Oc Ob σ H ρ _ R (Res.zQ (Res.zT h) (fun d _ k v H1 s1 r => ?_) fun _ z=>z)⟩
 refine ql Oc Ob σ H1 ρ _ (R.same s1) (Res.zQ (Res.zT k) (fun l _ k H2 s2 => ?_) fun c z H' s'=>z H' (s1.trans s'))
 refine qh Oc Ob σ H2 ρ _ ((R.same s1).same s2) (Res.zQ (Res.zT k) (fun u _ k H3 s3 => ?_) fun c z H' s'=>z H' ((s1.trans s2).trans s'))
 obtain⟨d',e,k⟩:=Res.zF k
 have R3:=((R.same s1).same s2).same s3
 refine hp Oc Ob H3 v d l u d' Q R3.oh ((r.va R.oh).same (s2.trans s3)) e fun w H' s4 rw' => ?_
 exact k w H' (((s1.trans s2).trans s3).trans s4) (rw'.from ((s1.trans s2).trans s3))
def cutD{α:Type}(xs:List α)(lo hi:Option Int):List α:=(xs.drop (HT.sIx xs.length 0 lo)).take (HT.sIx xs.length xs.length hi-HT.sIx xs.length 0 lo)
theorem zT1{H:Hp}{O:Addr->Prop}{vs:List V}{ds:List D}(r:Reps H O vs ds)(lo hi:Option Int):Reps H O (cutV vs lo hi) (cutD ds lo hi):=by
 unfold cutV cutD
 rw[r.length]
 exact (r.drop _).take _
def slL:D->Option Int->Option Int->Option D
 | .list ds,lo,hi=>some (.list (cutD ds lo hi))
 | _,_,_=>none
def slD:D->Option Int->Option Int->Option D
 | .list ds,lo,hi=>some (.list (cutD ds lo hi))
 | .tuple ds,lo,hi=>some (.tuple (cutD ds lo hi))
 | _,_,_=>none
theorem wY4{K:KFr}:PrS (rSlL K) .new slL:=by
 intro Oc Ob H x dx lo hi d Q oh va e k
 cases dx with
 | list ds =>
  cases e
  obtain⟨a,ys,rfl,rd,rs⟩:=va.list
  exact⟨a,ys,rfl,.inl rd,fun p hp=>k _ _ (Same.new hp) (wN (Same.refl H) hp (zT1 rs lo hi))⟩
 | _=>cases e
theorem wZ2{α:Type}{xs:List α}{lo hi:Option Int}(h1:HT.sIx xs.length 0 lo=0)(h2:HT.sIx xs.length xs.length hi=xs.length):cutD xs lo hi=xs:=by
 unfold cutD
 rw[h1,h2,List.drop_zero,Nat.sub_zero,CH]
theorem wL4{K:KFr}:PrS (fun x lo hi H Q=>rSlL K x lo hi H Q\/rSlT K x lo hi H Q\/rSlTA K x lo hi H Q) .cl slD:=by
 intro Oc Ob H x dx lo hi d Q oh va e k
 cases dx with
 | list ds =>
  cases e
  obtain⟨a,ys,rfl,rd,rs⟩:=va.list
  exact .inl ⟨a,ys,rfl,.inl rd,fun p hp=>k _ _ (Same.new hp) (VR.clean (wN (Same.refl H) hp (zT1 rs lo hi)) oh)⟩
 | tuple ds =>
  cases e
  rcases va with va | ⟨_,_,_,_,ez,_⟩
  ·cases va with
   | @tup a ys _ rd n rs =>
    by_cases hw:HT.sIx ys.length 0 lo=0/\HT.sIx ys.length ys.length hi=ys.length
    ·refine .inr (.inr ⟨a,ys,rfl,.inl rd,hw.1,hw.2,k _ H (Same.refl H) ?_⟩)
     rw[wZ2 (by rw[<-rs.length];exact hw.1) (by rw[<-rs.length];exact hw.2)]
     exact .tup rd n rs
    ·exact .inr (.inl ⟨a,ys,rfl,.inl rd,hw,fun p hp=>k _ _ (Same.new hp) (gR oh hp (zT1 rs lo hi))⟩)
  ·cases ez
 | _=>cases e
theorem yV6{C:Ct}{e:Expr}{lo hi:Option Expr}{mda:Md}{me:Ev->Res D}{ml mh:Ev->Res (Option Int)}{p2 pos:Pos}(he:RE C mda e me)(hl:RO C lo ml)(hu:RO C hi mh):RE C .new (.Subscript e (.Slice lo hi none p2) pos) (eS slL me ml mh):=zM4 yA6 wY4 he hl hu
theorem xN2{C:Ct}{e:Expr}{lo hi:Option Expr}{mda:Md}{me:Ev->Res D}{ml mh:Ev->Res (Option Int)}{p2 pos:Pos}(he:RE C mda e me)(hl:RO C lo ml)(hu:RO C hi mh):RE C .cl (.Subscript e (.Slice lo hi none p2) pos) (eS slD me ml mh):=zM4 (yA6.or (xO8.or wZ5)) wL4 he hl hu
theorem wP4{C:Ct}{fr:Bool}(i:Nat){x:Str}{a:Expr}{md:Md}{ma:Ev->Res D}{p' apos cpos pos:Pos}(ha:RE C md a ma)
  (hN:autoParam (C.X.N[i]?=some x) Eb) (ho:autoParam (C.om.contains i=true) Eb) (hv:autoParam (Vis C.X.env.scope x) DY) (hd:autoParam ((x == ("__debug__":Str))=false) Ea) (hcd:autoParam ((x == ("__classdict__":Str))=false) Ea)
  (hbase:autoParam (attributeBase (.Name x p') "extend" C.X.env (eval (.Name x p') C.X.env)=eval (.Name x p') C.X.env) Eb)
  (hfew:((backTo cpos (starEach [a] C.X.env)).all (fun x=>!x.1)&&(backToKw cpos (keywordEach [] C.X.env)).all (fun x=>x.1.isSome)
  &&decide ([a].length+([]:List Keyword).length+(if ([]:List Keyword).isEmpty then 0 else 1)<30))=true:=by rfl)
  (hline:autoParam ((apos.endLine == cpos.line)=true) Eb) (hs:autoParam (starEach [a] C.X.env=(false,eval a C.X.env)::starEach [] C.X.env) Eb) (hplain:autoParam ((backTo cpos (starEach [] C.X.env)).any (·.1)=false) Eb)
  (hsw:autoParam (swapsWith (.Call (.Attribute (.Name x p') "extend" apos) [a] [] cpos) none pos.line C.X.env=pure false) Eb) :
  RS C fr (.Expr (.Call (.Attribute (.Name x p') "extend" apos) [a] [] cpos) pos) (sM i extD (aC ma aN)):=by
 obtain⟨t,p,q⟩:=ha
 refine⟨_,dO (zZ3 BP PySem.F.slot_list_extend PySem.F.type_list_extend xA8 (jY hN hv hd hcd) (xO p xE hs) hbase hfew hline hs hplain) hsw,fun Oc Ob σ H ρ E R h => ?_⟩
 obtain⟨d,ed,k⟩:=uO (Res.zT h)
 obtain⟨xd,ex,k⟩:=Res.zF (Res.zT k)
 obtain rfl:=qU ex
 obtain⟨v,qv,l,ys,ds,rfl,e2,e3,e4,e5⟩:=R.own i _ ed (wJ ho)
 cases e2
 refine⟨_,qv,.inl ⟨rfl,_,SqL.of e3⟩,q Oc Ob σ H ρ _ R (Res.zQ (Res.zT (Res.zT k)) (fun ad _ k w H' s r' => ?_) fun c z H' s=>z H' (Same.frm s))⟩
 obtain⟨ds',eg,k⟩:=Res.zF (Res.zT (show ((Res.lft (extD xd [ad])).bind fun ds=>Res.ok (Out.nx (ρ.set i (some (.list ds))))).post _ _ from k))
 obtain⟨zs,e1,eg⟩:=AC.mp (show (seqD ad).bind (fun ys=>if xd.length+ys.length<=sizeLine then some (xd++ys) else none)=some ds' from eg)
 split at eg
 ·rename_i hl
  cases eg
  have va:=r'.va R.oh
  have fin:∀(b:Addr) (ws:List V),(Rd H' b (.lst ws)\/Rd H' b (.tup ws))->Reps H' (Uni Oc Ob) ws zs->rExtR (.ref l) [.ref b] H' fun _ H1=>E.nx σ H1:=fun b ws rd rs=>by
   refine⟨l,b,ys,ws,rfl,rfl,s _ _ e3,rd,by rw[e5.length,rs.length];exact hl,?_⟩
   refine k _ _ Ob ((R.same s).write (wJ ho) ed qv (s _ _ e3) e4 ((e5.same s).append rs)) (fun b o e n => ?_) fun b z=>.inl z
   rw[zG (fun z=>n (by subst z;exact e4))]
   exact s b o e
  cases ad with
  | list ds' =>
   cases e1
   obtain⟨b,ws,rfl,rd,rs⟩:=va.list
   exact fin b ws (.inl rd) rs
  | tuple ds' =>
   cases e1
   obtain⟨b,ws,rfl,rd,rs⟩:=va.tuple
   exact fin b ws (.inr rd) rs
  | _=>cases e1
 ·cases eg
section
variable (a:Ev->Res D) (l h:Ev->Res (Option Int)) (ρ:Ev) (f:D->Option Int->Option Int->Option D)
theorem wD3:eS f a l h ρ=(a ρ).bind fun x=>(l ρ).bind fun lo=>(h ρ).bind fun u=>Res.lft (f x lo u):=rfl
theorem wE2:oN ρ=.ok none:=rfl
theorem wD6:oS a ρ=(a ρ).bind fun d=>(Res.lft (isI d)).bind fun i=>.ok (some i):=rfl
theorem wK4(i:Int):isI (.int i)=some i:=rfl
theorem wO6(ds:List D)(lo hi:Option Int):slL (.list ds) lo hi=some (.list (cutD ds lo hi)):=rfl
theorem wC8(ds:List D)(lo hi:Option Int):slD (.list ds) lo hi=some (.list (cutD ds lo hi)):=rfl
theorem wD7(ds:List D)(lo hi:Option Int):slD (.tuple ds) lo hi=some (.tuple (cutD ds lo hi)):=rfl
end
theorem xK5{α β:Type}(g:α->β)(xs:List α)(lo hi:Option Int):cutD (xs.map g) lo hi=(cutD xs lo hi).map g:=by
 unfold cutD
 rw[Aa,List.map_take,List.map_drop]
theorem yN5{α:Type}(xs:List α)(k:Nat):cutD xs (some (k:Int)) none=xs.drop k:=by
 unfold cutD
 rw[HT.xH1,HT.zC3]
 by_cases h:k<=xs.length
 ·rw[Di h,BH (by rw[BF];rfl')]
 ·rw[Dd (by rfl'),List.drop_eq_nil_of_le (show xs.length<=k by rfl')]
  simp
end L2.L3
namespace L2.L3
open PySem
theorem yD1(i:Int):∀ns:List Int,(ns.map PyData.int).any (fun z=>eqF z (.int i))=ns.contains i
 | []=>rfl
 | n::ns=>by
  rw[AI,CC,yD1 i ns,Dk]
  congr 1
  show (n == i)=(i == n)
  rw[Cg]
  simp only[beq_iff_eq]
  exact eq_comm
theorem yE6:∀ns:List Int,(ns.map PyData.int).all flD=true
 | []=>rfl
 | n::ns=>by rw[AI,DG,yE6 ns];rfl
theorem wB9(neg:Bool)(i:Int)(ns:List Int):inD neg (.int i) (tI ns)=some (if neg then !ns.contains i else ns.contains i):=by
 unfold inD
 show (if flD (.int i)=true/\(ns.map PyData.int).all flD=true then _ else none)=_
 rw[Ac ⟨rfl,yE6 ns⟩,yD1]
theorem wQ4{ns:List Int}(h:ns ≠ []):max1D [tI ns]=some (.int (maxL ns)):=by
 unfold max1D
 simp only[nsD,seqD,AR,intsOf_map]
 rw[Ah h]
theorem wU5{ns:List Int}(h:ns ≠ []):max1D [lI ns]=some (.int (maxL ns)):=by
 unfold max1D
 simp only[nsD,seqD,AR,intsOf_map]
 rw[Ah h]
theorem zZ4{a b:Nat}(ha:a<=1000)(hb:b<=1000):rng2 [.int (a:Int),.int (b:Int)]=some ((List.range (b-a)).map fun (i:Nat)=>PyData.int ((a+i:Nat):Int)):=by
 unfold rng2
 simp only
 rw[Ac ⟨by rfl',by rfl',by rfl',by rfl'⟩]
 congr 1
 rw[show ((b:Int)-(a:Int)).toNat=b-a by rfl']
 refine Bf fun i _ => ?_
 congr 1
theorem vK{n i:Nat}{f:Nat->D}{d:D}(h:((List.range n).map f)[i]?=some d):i<n/\d=f i:=by
 rw[Al] at h
 by_cases hi:i<n
 ·rw[AN hi] at h
  cases h
  exact⟨hi,rfl⟩
 ·rw[Cv (by simpa using hi)] at h
  cases h
theorem vU{α β:Type}{g:D->Ev->Option Ev}{b:Ev->Res Out}{ds:List D}{ρ:Ev}{k:Out->Res α}{k':α->Res β}{R:Res β}(P:Nat->Ev->Prop)(h0:P 0 ρ)(hs:∀(i:Nat) d ρ,ds[i]?=some d->P i ρ->∃ρ1 ρ2,g d ρ=some ρ1/\b ρ1=.ok (.nx ρ2)/\P (i+1) ρ2)
  (hd:∀ρ',P ds.length ρ'->(k (.nx ρ')).bind k'=R):((forM g b ds ρ).bind k).bind k'=R:=by
 obtain⟨ρ',e,p⟩:=uM P ds ρ h0 hs
 rw[e,Res.bind_ok]
 exact hd ρ' p
theorem wI3{α β:Type}{t:Ev->Res Bool}{b:Ev->Res Out}{fuel:Nat}{ρ:Ev}{k:Out->Res α}{k':α->Res β}{R:Res β}(P:Nat->Ev->Prop)(n:Nat)(hf:n<fuel)(h0:P 0 ρ)(hs:∀i ρ,i<n->P i ρ->t ρ=.ok true/\∃ρ2,b ρ=.ok (.nx ρ2)/\P (i+1) ρ2)(he:∀ρ,P n ρ->t ρ=.ok false)
  (hd:∀ρ',P n ρ'->(k (.nx ρ')).bind k'=R):((whM t b fuel ρ).bind k).bind k'=R:=by
 obtain⟨ρ',e,p⟩:=yJ6 P n fuel ρ h0 hs he hf
 rw[e,Res.bind_ok]
 exact hd ρ' p
end L2.L3
namespace L2
open PySem PySem.Spec PyProof.Rows
theorem wU2{X:Cx}{elt iter:Expr}{ifs:List Expr}{sc0 scope:Scope}{N0:List Str}{px py pos spos:Pos}{xt y:Str}{fs:List Str}{js:List Nat}{i:Nat}{wi:TI}{tt:Addr->List Addr->Shared->Hp->TT}{te:Addr->List Addr->Shared->Hp->TE}(S:CompScope sc0 scope N0 xt fs js)(h0:X.env.scope=sc0)(hN0:X.N=N0)(hc:X.calm=true)
  (hi:PI X (.Name xt px) iter wi) (ht:∀C fp s₂ H,PTs (cxComp X (xt::fs) scope C fp s₂ H) ifs (tt C fp s₂ H)) (he:∀C fp s₂ H,PE (cxComp X (xt::fs) scope C fp s₂ H) elt (te C fp s₂ H))
  (nd:X.N.Nodup) (hy:X.N[i]?=some y) (hl:Loc X.env.scope y) (hsw:swapsWith (.ListComp elt [⟨.Name xt px,iter,ifs,0⟩] scope pos) (some (.Name y py)) spos.line X.env=pure true)
  (hs:autoParam (∀x,foldedSetIterable iter X.env x=pure x) DZ) (hf:autoParam (X.fn y=true\/X.env.scope.names.lookup y=some .local) DX) :
  PS X (.Assign [.Name y py] (.ListComp elt [⟨.Name xt px,iter,ifs,0⟩] scope pos) spos) (tAsg (tComp wi tt te js) (gName i)):=by
 intro Ec s σ H E I h
 rw[exec_Assign_Name_used _ _ _ _ hsw]
 refine Am (wpAny_standAt (Am ?_))
 show wpAny _ X.A (do let _ <-comprehension (.ListComp elt [⟨.Name xt px,iter,ifs,0⟩] scope pos) scope X.env _ (newList []) false (eval iter X.env) (some (assign (.Name y py) X.env))) _ _ s
 refine Am (thn (yZ9 S h0 hN0 hc hi ht he hs (use:=some (assign (.Name y py) X.env)) (Qv:=fun _ s'=>SP X Ec E .next s') I h fun s' C D Ha fl hI hns hC q => ?_) fun _ s' hq=>AF (AF hq))
 show wpAny (model X.prog X.w) X.A (assign (.Name y py) X.env (.ref D)) (fun _ s''=>∃m,s''.heap.Ns C m/\∀h',Heap.SameBut C s''.heap h'->SP X Ec E .next { s'' with heap:=h' }) X.xe s'
 obtain⟨m,oC,es,ep,hgC,hdC,hrC⟩:=hns
 have I1:Inv X Ec σ Ha s':=hI s'.heap ⟨rfl,fun b _=>rfl⟩
 have I2:Inv X (Ec ++ [(C,oC)]) σ Ha s':=I1.uL fun p hp=>by
  rcases AX.mp hp with z | z
  ·exact I1.pin p (Ap _ z)
  ·have:p=(C,oC):=by simpa using z
   subst this
   exact⟨hgC,hC.1,hC.2.1,hC.2.2.1,fun v z=>by rw[hdC] at z;cases z⟩
 refine wpAny_assign_Name (aE I2 nd hy hl (show RelV (.ref D) (.ref D) from rfl) (fun s'' I3 => ?_) hf)
 have hgC':=(I3.pin (C,oC) (Ap _ (Ap _ Af))).1
 refine⟨m,⟨oC,es,ep,hgC',hdC,hrC⟩,fun h' hsb => ?_⟩
 have I4:Inv X Ec (σ.set i (some (.ref D))) Ha s'':=I3.uL fun p hp=>I3.pin p (Ap _ (Bb _ hp))
 exact⟨_,Ha,Inv.turned (it:=C) (t':=s''.toks) I4 (fun b o hb e=>(hsb.2 b hb).trans e) hC.1 hC.2.1 hC.2.2.2.1 hC.2.2.2.2.1 hC.2.2.2.2.2,q⟩
end L2
namespace L2.L3
open PySem PySem.Spec PyProof.Rows
variable [CN]
theorem xZ3{C:Ct}{fr:Bool}(i:Nat){elt iter:Expr}{ifs:List Expr}{sc0 scope:Scope}{N0:List Str}{px py pos spos:Pos}{xt y:Str}{fs:List Str}{js:List Nat}{mi:Ev->Res (List D)}{mt:Ev->Res Bool}{me:Ev->Res D}(nd:C.X.N.Nodup)(S:CompScope sc0 scope N0 xt fs js)(h0:C.X.env.scope=sc0)(hN0:C.X.N=N0)(hc:C.X.calm=true)
  (hi:RIc C (.Name xt px) iter mi) (ht:∀A fp s₂ H,RTs (cC C (xt::fs) scope A fp s₂ H js) ifs mt) (he:∀A fp s₂ H,RE (cC C (xt::fs) scope A fp s₂ H js) .cl elt me)
  (hy:autoParam (C.X.N[i]?=some y) Eb) (ho:autoParam (C.om.contains i=false) Eb) (hln:autoParam (C.ln.contains i=false) Eb) (hl:autoParam (Loc C.X.env.scope y) aP._auto_1)
  (hsw:autoParam (swapsWith (.ListComp elt [⟨.Name xt px,iter,ifs,0⟩] scope pos) (some (.Name y py)) spos.line C.X.env=pure true) Eb) (hs:autoParam (∀x,foldedSetIterable iter C.X.env x=pure x) DZ) (hf:autoParam (C.X.fn y=true\/C.X.env.scope.names.lookup y=some .local) autoK12._auto_1) :
  RS C fr (.Assign [.Name y py] (.ListComp elt [⟨.Name xt px,iter,ifs,0⟩] scope pos) spos) (sS i (eComp mi mt me js)):=by
 obtain⟨wi,pi,qi⟩:=hi
 refine⟨_,wU2 (tt:=fun A fp s H=>Classical.choose (ht A fp s H)) (te:=fun A fp s H=>Classical.choose (he A fp s H)) S h0 hN0 hc pi (fun A fp s H=>(Bd (ht A fp s H)).1) (fun A fp s H=>(Bd (he A fp s H)).1) nd hy hl hsw hs hf,fun Oc Ob σ H ρ E R h => ?_⟩
 refine yU4 qi ht he R (Res.zQ (Res.zT h) (fun d _ k v H' s r => ?_) fun c z H' s=>z H' (Same.frm s))
 exact k _ H' Ob ((R.same s).set (xS ho) (xS hln) (VR.clean r R.oh)) (Same.frm s) fun b z=>.inl z
end L2.L3
namespace L2
open PySem PySem.Spec PyProof.Rows
def pick3{α:Type}(xs:List α)(l u k:Option Int):List α:=(sliceRange (sliceBounds l u k xs.length).1 (sliceBounds l u k xs.length).2.1 (sliceBounds l u k xs.length).2.2).filterMap (xs[·]?)
end L2
namespace L2.L3
open PySem PySem.Spec PyProof.Rows
variable [CN]
def eS3(m:Ev->Res D)(lo hi st:Ev->Res (Option Int)):Ev->Res D:=fun ρ=>(m ρ).bind fun x=>(lo ρ).bind fun l=>(hi ρ).bind fun u=>(st ρ).bind fun k=>(Res.lft (lstD x)).bind fun ds=>if k≠some 0 then .ok (.list (pick3 ds l u k)) else .no
theorem wJ9(a:Ev->Res D)(l h st:Ev->Res (Option Int))(ρ:Ev):eS3 a l h st ρ=(a ρ).bind fun x=>(l ρ).bind fun l=>(h ρ).bind fun u=>(st ρ).bind fun k=>(Res.lft (lstD x)).bind fun ds=>if k≠some 0 then .ok (.list (pick3 ds l u k)) else .no:=rfl
end L2.L3
namespace L2.L3
open PySem
theorem aG{m:Int}(h0:0<=m)(h1:m<=1000):rng2 [.int 1,.int (m+1)]=some ((List.range m.toNat).map fun (i:Nat)=>PyData.int ((i:Int)+1)):=by
 unfold rng2
 simp only
 rw[Ac ⟨by rfl',by rfl',by rfl',by rfl'⟩]
 congr 1
 rw[show (m+1-1).toNat=m.toNat by rfl']
 refine Bf fun i _ => ?_
 congr 1
 rfl'
theorem xS4{n:Nat}(h:n<=999):rng1 [.int ((n:Int)+1)]=some ((List.range (n+1)).map fun (i:Nat)=>PyData.int (i:Int)):=by
 have:=uK (n:=n+1) (by rfl')
 rw[show ((n+1:Nat):Int)=(n:Int)+1 by rfl'] at this
 exact this
theorem uR{xs:List Int}{i:Int}{j:Nat}(e:i=(j:Int))(h:j<xs.length):atI (xs.map PyData.int) i=some (.int (xs.getD j 0)):=by
 rw[e,zR6,zK3 h]
 rfl
theorem yG5{xs:List Int}{n:Nat}(h:xs.length=n+1):atI (xs.map PyData.int) (-1)=some (.int (xs.getD n 0)):=by
 rw[zR6]
 unfold atI ixN
 rw[h,Ah (by decide),Ac (by rfl')]
 show (xs[((-1:Int)+((n+1:Nat):Int)).toNat]?).map _=_
 rw[show ((-1:Int)+((n+1:Nat):Int)).toNat=n by rfl',Ae (by rfl'),Ak,Ae (by rfl')]
 rfl
theorem xZ2{xs ys:List Int}(h:xs.length+ys.length<=1000):catL (lI xs) (lI ys)=some (lI (xs++ys)):=by
 unfold catL
 simp only
 rw[Aa,Aa,Ac (BD (small1000 h))]
 simp only[lI,AK]
theorem wQ2(xs:List Int):sumD [lI xs]=some (.int xs.sum):=by
 unfold sumD
 simp only[intsOf_map,Bu]
end L2.L3
namespace L2.L3
open PySem
variable [CN]
section
variable {X:Cx}
theorem yO1(hc:X.calm=true):CallR X (.type "tuple") (fun xs H Q=>∃(p:Addr) (j:Int),xs=[.ref p]/\H p=some (.rng 0 j)/\-(2 ^ 62)<=j/\j.toNat<=1000000/\∀l,H l=none->Q (.ref l) (upd H l (.tup ((List.range j.toNat).map fun (i:Nat)=>V.int (i:Int))))):=by
 intro Ec s σ H xs us Q I r h
 obtain⟨p,j,rfl,hp,hs,hj,q⟩:=h
 obtain⟨u,rfl,ru⟩:=vals1 r
 cases ru
 obtain⟨t,u,v,e⟩:=I.hok p _ hp
 refine xP5 (n:=j.toNat) (I.ok.hd hc) e (small_one (by rfl') (by rfl') hs (by rfl')) ?_ (by rfl') fun h' tk acc' hk hacc => ?_
 ·rw[rangeSize_one];split <;> rfl'
 ·have hv:Vals ((List.range j.toNat).map fun (i:Nat)=>V.int (i:Int)) acc'.toList:=by
   obtain⟨h1,h2⟩:=hacc
   refine fM ?_ ?_
   ·rw[Aa,Aq,BJ,h1]
   ·intro i a b ha hb
    rw[Al] at ha
    have hi:i<j.toNat:=by
     have:=(Au.mp hb).1
     rw[BJ,h1] at this
     exact this
    rw[AN hi] at ha
    cases ha
    obtain⟨t,e⟩:=h2 i b (by simpa using hb)
    refine⟨t,?_⟩
    rw[e]
    simp
  have hz:((List.range j.toNat).map fun (i:Nat)=>V.int (i:Int)).length<=sizeLine:=by
   rw[Aa,Aq]
   exact BD (AT hj (by decide))
  have I1:Inv X Ec σ H { s with heap:=h',toks:=tk }:=I.kept (t':=tk) hk
  have I2:=I1.laid (t':=tk) (a:=h'.objs.size) (o:=.tup ((List.range j.toNat).map fun (i:Nat)=>V.int (i:Int))) (h':=h'.push { cls:=.type "tuple",data:=.seq acc' }) (fun b o e=>Ai _ e) (Ab _) ⟨hz,acc'.toList,hv,by simpa using TupAt.new h' acc'⟩
  exact⟨.ref h'.objs.size,_,I2,rfl,q _ (I1.hok.fresh (Ab _))⟩
end
def rangeT:List D->Option D
 | [.int j]=>if -(2 ^ 62)<=j/\j.toNat<=1000000 then some (.tuple ((List.range j.toNat).map fun (i:Nat)=>PyData.int (i:Int))) else none
 | _=>none
theorem zN1{C:Ct}{a:Expr}{p p2 pos pos2:Pos}{ms:Ev->Res (List D)}(hl:C.X.mg "tuple" = none)(hm:C.X.mg "range" = none)(ha:RArg C false [a] ms)(hc:autoParam (C.X.calm=true) Eb)(hgl:autoParam (Gl C.X "tuple") Eb)(hg:autoParam (Gl C.X "range") Eb)
  (hs:autoParam (starEach [a] C.X.env=(false,eval a C.X.env)::starEach [] C.X.env) Eb) (hs2:autoParam (starEach [.Call (.Name "range" p2) [a] [] pos2] C.X.env=(false,eval (.Call (.Name "range" p2) [a] [] pos2) C.X.env)::starEach [] C.X.env) Eb)
  (hpl:autoParam ((backTo pos (starEach [] C.X.env)).any (·.1)=false) Eb) (hpl2:autoParam ((backTo pos2 (starEach [] C.X.env)).any (·.1)=false) Eb) :
  RE C .cl (.Call (.Name "tuple" p) [.Call (.Name "range" p2) [a] [] pos2] [] pos) (eB rangeT ms):=by
 obtain⟨t,pa,q⟩:=ha
 refine⟨_,fT (yO1 hc) hgl hl (by rfl) (xO (fT yV2 hg hm (by rfl) pa (by decide) (by decide) hs hpl2) xE hs2) (by decide) (by decide) hs2 hpl,fun Oc Ob σ H ρ Q R h=>q Oc Ob σ H ρ _ R (Res.zQ (Res.zT h) (fun ds _ k vs H1 s1 r => ?_) fun _ z=>z)⟩
 obtain⟨d,e,k⟩:=Res.zF k
 unfold rangeT at e
 split at e
 ·split at e
  ·rename_i hb
   cases e
   obtain⟨v,rfl,va⟩:=VAs.one r
   obtain rfl:=va.int
   refine⟨_,rfl,fun p hp=>⟨p,_,rfl,yP,hb.1,hb.2,fun l hl => ?_⟩⟩
   exact k _ _ ((s1.trans (Same.new hp)).trans (Same.new hl)) (gR (R.same (s1.trans (Same.new hp))).oh hl (yY4 _))
  ·cases e
 ·cases e
theorem zK8{n:Nat}(h:n<=1000):rangeT [.int (n:Int)]=some (tI ((List.range n).map fun (i:Nat)=>(i:Int))):=by
 unfold rangeT
 simp only
 rw[Ac ⟨by rfl',by rfl'⟩]
 simp only[tI,Av,CU,AW]
section
variable {X:Cx}
end
end L2.L3
namespace L2.L3
open PySem PyProof.Rows
variable [CN]
section
variable {X:Cx}
theorem xO9:PGet X (fun x y H Q=>(∃i:Int,y=.int i/\0<=i)/\rIxL X.K x y H Q):=by
 intro Ec s σ H x y v u Q I rx ry h
 obtain⟨⟨i,hy,h0⟩,p,xs,i',z,rfl,hy',hq,he,q⟩:=h
 subst hy
 cases hy'
 cases rx
 obtain⟨t,rfl⟩:=ry
 obtain⟨its,r,pl,hz⟩:=I.list hq
 obtain⟨j,h1,h2,h3,h4,h5⟩:=zP3 he
 obtain⟨w,ew,rw'⟩:=r.get h2
 have hl:=r.length
 have hn:=line63
 have fin:EP X Ec σ Q w s:=⟨z,H,I,rw',q⟩
 have hj:i.toNat=j:=by
  rw[seqIndex_of h0 h5] at h1
  exact AJ h1
 exact wpAny_getItem_list pl.isList h0 (by rfl') (by rw[hj];simpa using ew) fin
end
section
variable {C:Ct}{fr:Bool}{md:Md}{e:Expr}{me:Ev->Res D}{pos:Pos}
def atP(xd:List D):D->Option D
 | .int j=>if 0<=j then atI xd j else none
 | _=>none
def sJ0(i:Nat)(mk:Ev->Res D)(f:D->D->Option D)(me:Ev->Res D):Ev->Res Out:=fun ρ=>(eV i ρ).bind fun d=>(Res.lft (lstD d)).bind fun xd=>(mk ρ).bind fun k=>(Res.lft (atP xd k)).bind fun old=>(me ρ).bind fun v=>(Res.lft (f old v)).bind fun w=>(Res.lft (setD xd k w)).bind fun ds=>.ok (.nx (ρ.set i (some (.list ds))))
theorem yE3(i:Nat){x:Str}{p' p2:Pos}{op:Operator}{r:R2}{f:D->D->Option D}{k:Expr}{mk:Ev->Res D}{mdk:Md}(hop:OpR C.X (inplaceOp op) r)(hp:Pr2 r .cl f)(hk:RE C mdk k mk)(he:RE C md e me)(hN:autoParam (C.X.N[i]?=some x) Eb)(ho:autoParam (C.om.contains i=true) Eb)(hv:autoParam (Vis C.X.env.scope x) DY)(hd:autoParam ((x == ("__debug__":Str))=false) Ea)
  (hcd:autoParam ((x == ("__classdict__":Str))=false) Ea)
  (ha:autoParam (∀ov iv new,augStore k ov iv new=(do holding [new,ov,iv] (setItem ov iv new);release [new,ov,iv] [];pure .next)) xK2._auto_1):RS C fr (.AugAssign (.Subscript (.Name x p') k p2) op e pos) (sJ0 i mk f me):=by
 obtain⟨t,p,q⟩:=he
 obtain⟨t',p',q'⟩:=hk
 refine⟨_,xA6 (jY hN hv hd hcd) p' xO9 p (tip:=r) hop yH1 ha,fun Oc Ob σ H ρ E R h => ?_⟩
 obtain⟨d,ed,k⟩:=uO (Res.zT h)
 obtain⟨xd,ex,k⟩:=Res.zF (Res.zT k)
 obtain rfl:=qU ex
 obtain⟨w',qv,l,ys,ds,rfl,e2,e3,e4,e5⟩:=R.own i _ ed (wJ ho)
 cases e2
 refine⟨_,qv,q' Oc Ob σ H ρ _ R (Res.zQ (Res.zT k) (fun dk _ k kv H2 s2 rk => ?_) fun c z H2 s2=>z H2 (Same.frm s2))⟩
 obtain⟨old,eo,k⟩:=Res.zF (Res.zT k)
 cases dk with
 | int j =>
  have eo:(if 0<=j then atI xd j else none)=some old:=eo
  split at eo
  ·rename_i h0
   obtain rfl:=(rk.va R.oh).int
   obtain⟨vo,evo,ro⟩:=zL2 (e5.same s2) eo
   refine⟨⟨j,rfl,h0⟩,l,ys,j,vo,rfl,rfl,.inl (.inl (s2 _ _ e3)),evo,?_⟩
   refine q Oc Ob σ H2 ρ _ (R.same s2) (Res.zQ (Res.zT k) (fun dv _ k v H3 s3 rv => ?_) fun c z H3 s3=>z H3 (Same.frm (s2.trans s3)))
   obtain⟨w,ew,k⟩:=Res.zF (Res.zT k)
   refine hp Oc Ob H3 vo v old dv w _ (R.same (s2.trans s3)).oh (.inl (ro.same s3)) (rv.va (R.same s2).oh) ew fun wv H4 s4 rw' => ?_
   obtain⟨ds',eg,k⟩:=Res.zF (Res.zT k)
   have s5:=(s2.trans s3).trans s4
   have eg:(ixN xd.length j).map (fun n=>xd.set n w)=some ds':=eg
   obtain⟨n,en,rfl⟩:=Az.mp eg
   have hl:=e5.length
   refine⟨l,ys,j,n,rfl,rfl,s5 _ _ e3,by rw[hl];exact en,?_⟩
   refine k _ _ Ob ((R.same s5).write (wJ ho) ed qv (s5 _ _ e3) e4 (Reps.set rw' n (e5.same s5))) (fun b o e n => ?_) fun b z=>.inl z
   rw[zG (fun z=>n (by subst z;exact e4))]
   exact s5 b o e
  ·cases eo
 | _=>cases eo
theorem wL8(i:Nat)(mk:Ev->Res D)(f:D->D->Option D)(me:Ev->Res D)(ρ:Ev):sJ0 i mk f me ρ=(eV i ρ).bind fun d=>(Res.lft (lstD d)).bind fun xd=>(mk ρ).bind fun k=>(Res.lft (atP xd k)).bind fun old=>(me ρ).bind fun v=>(Res.lft (f old v)).bind fun w=>(Res.lft (setD xd k w)).bind fun ds=>.ok (.nx (ρ.set i (some (.list ds)))):=rfl
theorem yD5{xd:List D}{j:Nat}{d:D}(h:xd[j]?=some d):atP xd (.int (j:Int))=some d:=by
 show (if 0<=(j:Int) then atI xd (j:Int) else none)=_
 rw[Ac (by rfl'),qM h]
end
section
variable {X:Cx}{Ec:List (Addr×Obj)}{σ:St}{H:Hp}{s:Shared}{h':Heap}
theorem turned2{t':Nat}{e it:Addr}(I:Inv X Ec σ H s)(k:∀b o,b≠e->b≠it->s.heap.get? b=some o->h'.get? b=some o)(fe:FpOk X Ec H e)(fi:FpOk X Ec H it):Inv X Ec σ H { s with heap:=h',toks:=t' }:=by
 have nit:∀b u,H b=some u->b≠e/\b≠it:=fun b u q=>⟨fun z=>(by rw[z,fe.1] at q;cases q),fun z=>by rw[z,fi.1] at q;cases q⟩
 refine I.step (g':=s.gens) (d':=s.drawn) (ch:=[e,it]) (fun b hb => ?_) (fun b o _ _ hc q _=>k b o (fun z=>hc (by simp[z])) (fun z=>hc (by simp[z])) q) (fun b o _ _ hc q _=>⟨o.slots,k b o (fun z=>hc (by simp[z])) (fun z=>hc (by simp[z])) q⟩) (fun _ _ _ _ n=>n)
  (fun b o hc q=>⟨o,k b o (fun z=>hc (by simp[z])) (fun z=>hc (by simp[z])) q⟩) (fun _ _ q=>q) (fun _ _ _ q=>q) (fun b ps q=>⟨#[],by rw[q];simp⟩) (fun m hm => ?_) (fun b u q => ?_) I.bare
 ·have z:b=e\/b=it:=by simpa using hb
  rcases z with rfl | rfl
  ·obtain⟨f0,f1,f2,f3,f4,f5⟩:=fe
   exact⟨f3,f1,f4,f5⟩
  ·obtain⟨f0,f1,f2,f3,f4,f5⟩:=fi
   exact⟨f3,f1,f4,f5⟩
 ·obtain⟨o,es,ep,ho,r⟩:=hm
  exact⟨o,es,ep,k _ o (CT fe.2.1) (CT fi.2.1) ho,r⟩
 ·refine (I.hok b u q).stay (fun c v hc q' => ?_) (fun _ q=>q) fun _ _ q=>q
  have nc:c≠e/\c≠it:=by
   rcases hc with z | z
   ·rw[z];exact nit b u q
   ·exact nit c _ z
  exact k c v nc.1 nc.2 q'
end
def Ite(K:KFr)(a:Addr):It :=
 ⟨fun i H=>∃xs x,SqL K H a xs/\xs[i]?=some x,fun i H x H'=>∃t y,H t=none/\x=.ref t/\H'=upd H t (.tup [.int (i:Int),y])/\∀xs,SqL K H a xs->xs[i]?=some y,fun i H=>∃xs,SqL K H a xs/\xs.length<=i⟩
theorem xO4{P:Program}{w:World}{K:KFr}{es:List Expr}{x1:Nat}{tp:Pos}(a e it:Addr)(hne:e≠it):Turn P w K (.Tuple es x1 tp) (Ite K a) [e,it] e (fun i h=>(∃old,IsEnum h e it i old)/\h.IsListIter it a i) where
 mem:=by simp
 obj:=fun i h st b hb=>by
  obtain⟨⟨old,he⟩,o,ho,hc,hd⟩:=st
  have z:b=e\/b=it:=by simpa using hb
  rcases z with rfl | rfl
  ·exact⟨_,he,fun v z=>by cases z⟩
  ·exact⟨o,ho,fun v z=>by rw[hd] at z;cases z⟩
 keep:=fun i h h' st k=>⟨st.1.elim fun old he=>⟨old,k e (by simp) _ he⟩,st.2.at fun o q=>k it (by simp) o q⟩
 item:=by
  intro X hP hw hK hc i Ec s σ H E I hf st hg
  subst hP hw hK
  obtain⟨xs,x,hq,hx⟩:=hg
  obtain⟨its,rv,p,hz⟩:=I.list hq
  obtain⟨u,hu,ru⟩:=rv.get hx
  obtain⟨⟨old,he⟩,hit⟩:=st
  have fe:=hf e (by simp)
  have fi:=hf it (by simp)
  refine wpAny_pyNext_enum_item he hit p.isList (x:=u) (by simpa using hu) hne fun h' ho hit' hT hsz hk=>⟨_,rfl,?_⟩
  have hfr:H s.heap.objs.size=none:=I.hok.fresh (Ab _)
  have I1:Inv X Ec σ (upd H s.heap.objs.size (.tup [.int (i:Int),x])) { s with heap:=s.heap.push { cls:=.type "tuple",data:=.seq #[.int i s.toks,u] },toks:=s.toks+1 } :=
   I.laid (t':=s.toks+1) (fun b o q=>Ai _ q) (Ab _) ⟨by show 2<=sizeLine;decide,[.int i s.toks,u],.cons ⟨_,rfl⟩ (.cons ru .nil),TupAt.new _ _⟩
  have lte:e<s.heap.objs.size:=As he
  have lti:it<s.heap.objs.size:=by obtain⟨_,q,_⟩:=hit;exact As q
  have fe1:FpOk X Ec (upd H s.heap.objs.size (.tup [.int (i:Int),x])) e:=⟨by rw[zG (AL lte)];exact fe.1,fe.2⟩
  have fi1:FpOk X Ec (upd H s.heap.objs.size (.tup [.int (i:Int),x])) it:=⟨by rw[zG (AL lti)];exact fi.1,fi.2⟩
  have I2:Inv X Ec σ (upd H s.heap.objs.size (.tup [.int (i:Int),x])) { s with heap:=h',toks:=s.toks+1 }:=by
   refine turned2 (s:={ s with heap:=s.heap.push { cls:=.type "tuple",data:=.seq #[.int i s.toks,u] },toks:=s.toks+1 }) (h':=h') (t':=s.toks+1) I1 (fun b o b1 b2 q => ?_) fe1 fi1
   by_cases z:b=s.heap.objs.size
   ·subst z
    have q:(s.heap.push { cls:=.type "tuple",data:=.seq #[.int i s.toks,u] }).get? s.heap.objs.size=some o:=q
    rw[AA _ rfl] at q
    rw[hT];exact q
   ·have q:(s.heap.push { cls:=.type "tuple",data:=.seq #[.int i s.toks,u] }).get? b=some o:=q
    rw[Heap.get?_push_ne _ _ _ z] at q
    exact hk b o b1 b2 q
  refine wpAny_letOwnedTupleGo_enum ho fun h2 he2 hs2 => ?_
  refine⟨.ref s.heap.objs.size,_,turned2 (s:={ s with heap:=h',toks:=s.toks+1 }) (h':=h2) (t':=s.toks+1) I2 (fun b o b1 b2 q=>(hs2.2 b b1).trans q) fe1 fi1,rfl,⟨_,x,hfr,rfl,rfl,fun ys hy=>by rw[I.yM8 hy hq];exact hx⟩,⟨⟨_,he2⟩,hit'.at fun o q=>(hs2.2 it hne.symm).trans q⟩,fun b hb => ?_⟩
  have z:b=e\/b=it:=by simpa using hb
  rcases z with rfl | rfl
  ·exact fe1.1
  ·exact fi1.1
 done:=by
  intro X hP hw hK hc i Ec s σ H E I hf st hg
  subst hP hw hK
  obtain⟨xs,hq,hx⟩:=hg
  obtain⟨its,rv,p,hz⟩:=I.list hq
  obtain⟨⟨old,he⟩,hit⟩:=st
  have hl:=rv.length
  exact wpAny_pyNext_enum_end (I.ok.hd hc) he hit p.isList (by simp;rfl') fun h' eb=>⟨rfl,turned2 (t':=s.toks) I (fun b o _ b2 q=>eb b o b2 q) (hf e (by simp)) (hf it (by simp))⟩
 self:=fun _ _ _ _ _ st h=>st.1.elim fun old he=>wpAny_pyIter_enum he h
end L2.L3
namespace PySem
section
variable {prog:Program}{w:World}{A:Around}{E:Value->Shared->Prop}{s:Shared}
theorem drawsT(hA:A.handled=none)(it t:Addr)(its:Array Value)(hne:it≠t):Draws prog w A it [it,t] its.size (fun i x=>its[i]?=some x) (fun i h=>h.IsTupleIter it t i/\h.IsTuple t its) where
 live:=fun i h st=>let ⟨o,q,_⟩:=st.1; ⟨o,q⟩
 frame:=fun i h h' st k=>⟨let ⟨o,q,r⟩:=st.1; ⟨o,k it (by simp) o q,r⟩,let ⟨o,q,r⟩:=st.2; ⟨o,k t (by simp) o q,r⟩⟩
 item:=fun i s Q E hi st hQ=>xD7 st.1 st.2 (v:=its[i]) (by simp[hi]) fun h' z sb=>hQ _ h' s.toks (by simp[hi]) ⟨z,let ⟨o,q,r⟩:=st.2; ⟨o,(sb.2 t (CT hne)).trans q,r⟩⟩ sb
 done:=fun s Q E st hE=>xZ8 hA st.1 st.2 (by simp) hE
theorem drawsE(hA:A.handled=none)(it t:Addr)(its:Array Value)(n:Nat)(hx:its[n]?=none)(hne:it≠t):Draws prog w A it [it,t] n (fun _ _=>False) (fun j h=>j=n/\h.IsTupleIter it t n/\h.IsTuple t its) where
 live:=fun i h st=>let ⟨o,q,_⟩:=st.2.1; ⟨o,q⟩
 frame:=fun i h h' st k=>⟨st.1,let ⟨o,q,r⟩:=st.2.1; ⟨o,k it (by simp) o q,r⟩,let ⟨o,q,r⟩:=st.2.2; ⟨o,k t (by simp) o q,r⟩⟩
 item:=fun i s Q E hi st hQ=>absurd st.1 (AL hi)
 done:=fun s Q E st hE=>xZ8 hA st.2.1 st.2.2 hx hE
end
end PySem
namespace L2.L3
open PySem PyProof.Rows
variable [CN]
def Ith(K:KFr)(a:Addr):It :=
 ⟨fun i H=>∃xs x,SqT K H a xs/\xs[i]?=some x,fun i H x H'=>∃t y,H t=none/\x=.ref t/\H'=upd H t (.tup [.int (i:Int),y])/\∀xs,SqT K H a xs->xs[i]?=some y,fun i H=>∃xs,SqT K H a xs/\xs.length<=i⟩
theorem xV4{P:Program}{w:World}{K:KFr}{es:List Expr}{x1:Nat}{tp:Pos}(a e it:Addr)(hne:e≠it)(hia:it≠a)(hea:e≠a):Turn P w K (.Tuple es x1 tp) (Ith K a) [e,it] e (fun i h=>(∃old,IsEnum h e it i old)/\h.IsTupleIter it a i) where
 mem:=by simp
 obj:=fun i h st b hb=>by
  obtain⟨⟨old,he⟩,o,ho,hc,hd⟩:=st
  have z:b=e\/b=it:=by simpa using hb
  rcases z with rfl | rfl
  ·exact⟨_,he,fun v z=>by cases z⟩
  ·exact⟨o,ho,fun v z=>by rw[hd] at z;cases z⟩
 keep:=fun i h h' st k=>⟨st.1.elim fun old he=>⟨old,k e (by simp) _ he⟩,let ⟨o,q,r⟩:=st.2; ⟨o,k it (by simp) o q,r⟩⟩
 item:=by
  intro X hP hw hK hc i Ec s σ H E I hf st hg
  subst hP hw hK
  obtain⟨xs,x,hq,hx⟩:=hg
  obtain⟨its,rv,p,hz⟩:=I.tuple hq
  obtain⟨u,hu,ru⟩:=rv.get hx
  obtain⟨⟨old,he⟩,hit⟩:=st
  have fe:=hf e (by simp)
  have fi:=hf it (by simp)
  have hlt:i<its.toArray.size:=by
   have:=(Au.mp hu).1
   simpa using this
  refine wpAny_pyNext_enum_itemD (drawsT (show X.A.in1.handled=none from I.ok.hd hc) it a its.toArray hia) he ⟨hit,p⟩ hlt hne (by simp[hne,hea]) fun x' h' tk hP' ho hit' hT hsz hk=>⟨_,rfl,?_⟩
  have ex:x'=u:=by
   have h2:its.toArray[i]?=some u:=by simpa using hu
   have h3:its.toArray[i]?=some x':=hP'
   rw[h2] at h3
   exact (AJ h3).symm
  subst ex
  have hfr:H s.heap.objs.size=none:=I.hok.fresh (Ab _)
  have I1:Inv X Ec σ (upd H s.heap.objs.size (.tup [.int (i:Int),x])) { s with heap:=s.heap.push { cls:=.type "tuple",data:=.seq #[.int i tk,x'] },toks:=tk+1 } :=
   I.laid (t':=tk+1) (fun b o q=>Ai _ q) (Ab _) ⟨by show 2<=sizeLine;decide,[.int i tk,x'],.cons ⟨_,rfl⟩ (.cons ru .nil),TupAt.new _ _⟩
  have lte:e<s.heap.objs.size:=As he
  have lti:it<s.heap.objs.size:=by obtain⟨_,q,_⟩:=hit;exact As q
  have fe1:FpOk X Ec (upd H s.heap.objs.size (.tup [.int (i:Int),x])) e:=⟨by rw[zG (AL lte)];exact fe.1,fe.2⟩
  have fi1:FpOk X Ec (upd H s.heap.objs.size (.tup [.int (i:Int),x])) it:=⟨by rw[zG (AL lti)];exact fi.1,fi.2⟩
  have I2:Inv X Ec σ (upd H s.heap.objs.size (.tup [.int (i:Int),x])) { s with heap:=h',toks:=tk+1 }:=by
   refine turned2 (s:={ s with heap:=s.heap.push { cls:=.type "tuple",data:=.seq #[.int i tk,x'] },toks:=tk+1 }) (h':=h') (t':=tk+1) I1 (fun b o b1 b2 q => ?_) fe1 fi1
   by_cases z:b=s.heap.objs.size
   ·subst z
    have q:(s.heap.push { cls:=.type "tuple",data:=.seq #[.int i tk,x'] }).get? s.heap.objs.size=some o:=q
    rw[AA _ rfl] at q
    rw[hT];exact q
   ·have q:(s.heap.push { cls:=.type "tuple",data:=.seq #[.int i tk,x'] }).get? b=some o:=q
    rw[Heap.get?_push_ne _ _ _ z] at q
    exact hk b o b1 b2 q
  refine wpAny_letOwnedTupleGo_enum ho fun h2 he2 hs2 => ?_
  refine⟨.ref s.heap.objs.size,_,turned2 (s:={ s with heap:=h',toks:=tk+1 }) (h':=h2) (t':=tk+1) I2 (fun b o b1 b2 q=>(hs2.2 b b1).trans q) fe1 fi1,rfl,⟨_,x,hfr,rfl,rfl,fun ys hy=>by rw[I.yU1 hy hq];exact hx⟩,⟨⟨_,he2⟩,let ⟨o,q,r⟩:=hit'.1; ⟨o,(hs2.2 it hne.symm).trans q,r⟩⟩,fun b hb => ?_⟩
  have z:b=e\/b=it:=by simpa using hb
  rcases z with rfl | rfl
  ·exact fe1.1
  ·exact fi1.1
 done:=by
  intro X hP hw hK hc i Ec s σ H E I hf st hg
  subst hP hw hK
  obtain⟨xs,hq,hx⟩:=hg
  obtain⟨its,rv,p,hz⟩:=I.tuple hq
  obtain⟨⟨old,he⟩,hit⟩:=st
  have hl:=rv.length
  exact wpAny_pyNext_enum_endD (drawsE (show X.A.in1.handled=none from I.ok.hd hc) it a its.toArray i (by simp;rfl') hia) he ⟨rfl,hit,p⟩ fun h' eb=>⟨rfl,turned2 (t':=s.toks) I (fun b o _ b2 q=>eb b o b2 q) (hf e (by simp)) (hf it (by simp))⟩
 self:=fun _ _ _ _ _ st h=>st.1.elim fun old he=>wpAny_pyIter_enum he h
def iEnum(K:KFr)(t:TA):TI:=fun σ H R=>t σ H fun vs H1=>∃a,vs=[.ref a]/\(((∃xs,SqL K H1 a xs)/\R (Ite K a) H1)\/((∃xs,SqT K H1 a xs)/\R (Ith K a) H1))
theorem wQ1{X:Cx}{l:Expr}{ta:TA}{es:List Expr}{x1:Nat}{tp p pos:Pos}(hg:Gl X "enumerate")(hm:X.mg "enumerate" = none)(ha:PA X [l] ta)(hs:autoParam (starEach [l] X.env=[(false,eval l X.env)]) Eb):PI X (.Tuple es x1 tp) (.Call (.Name "enumerate" p) [l] [] pos) (iEnum X.K ta):=by
 intro Ec s σ H R I h
 refine Call_ (aU I hg hm boot_enumerate (BR (thn (ha pos Ec s σ H _ I h) fun us s1 ⟨vs,H1,I1,r1,q1⟩ => ?_) hs rfl))
 obtain⟨a,e,q1⟩:=q1
 subst e
 obtain⟨u,rfl,ru⟩:=vals1 r1
 cases ru
 rcases q1 with ⟨⟨xs,hq⟩,q⟩ | ⟨⟨xs,hq⟩,q⟩
 ·obtain⟨its,rv,pl,hz⟩:=I1.list hq
  refine call_enumerate_list pl.isList fun h' he hit hsz hk => ?_
  refine wpAny_pyIter_enum he ?_
  refine⟨s1.heap.objs.size+1,[s1.heap.objs.size+1,s1.heap.objs.size],_,_,H1,rfl,I1.kept (t':=s1.toks) hk,xO4 a (s1.heap.objs.size+1) s1.heap.objs.size (Nat.succ_ne_self _),⟨⟨_,he⟩,hit⟩,fun b hb => ?_,q⟩
  have z:b=s1.heap.objs.size+1\/b=s1.heap.objs.size:=by simpa using hb
  rcases z with rfl | rfl
  ·exact I1.fpOk (by rfl') (I1.hok.fresh (by rfl'))
  ·exact I1.fpOk (Ab _) (I1.hok.fresh (Ab _))
 ·obtain⟨its,rv,pt,hz⟩:=I1.tuple hq
  have lta:a<s1.heap.objs.size:=by obtain⟨o,q,_⟩:=pt;exact As q
  refine wY5 (oI:={ cls:=.type "tuple_iterator",data:=.fields #[.ref a,.int 0 0] }) rfl (fun B P E' z=>wpAny_pyIter_tuple (show s1.heap.IsTuple a its.toArray from pt) z) fun h' he h0 hk => ?_
  have hit:h'.IsTupleIter s1.heap.objs.size a 0:=⟨_,h0,rfl,rfl⟩
  refine wpAny_pyIter_enum he ?_
  refine⟨s1.heap.objs.size+1,[s1.heap.objs.size+1,s1.heap.objs.size],_,_,H1,rfl,I1.kept (t':=s1.toks) hk,xV4 a (s1.heap.objs.size+1) s1.heap.objs.size (Nat.succ_ne_self _) (Ds lta) (Ds (Dv lta)),⟨⟨_,he⟩,hit⟩,fun b hb => ?_,q⟩
  have z:b=s1.heap.objs.size+1\/b=s1.heap.objs.size:=by simpa using hb
  rcases z with rfl | rfl
  ·exact I1.fpOk (by rfl') (I1.hok.fresh (by rfl'))
  ·exact I1.fpOk (Ab _) (I1.hok.fresh (Ab _))
def WalksO(Oc:Wd)(Ob:Addr->Prop)(J:It)(H1:Hp)(ds:List D):Prop :=
 ∀(H2:Hp) (Ob2:Addr->Prop),Frm Ob H1 H2->(∀b,Ob2 b->Ob b\/H1 b=none)->(∀a,Oc a\/Ob2 a->H2 a≠none)->∀i,(∀d,ds[i]?=some d->J.go i H2/\∀x H3,J.yld i H2 x H3->Same H2 H3/\Rep H3 (Uni Oc Ob2) x d)/\(ds.length<=i->J.stop i H2)
def RIo(C:Ct)(tg iter:Expr)(m:Ev->Res (List D)):Prop :=
 ∃wi,PI C.X tg iter wi/\∀(Oc:Wd) (Ob:Addr->Prop) (σ:St) (H:Hp) (ρ:Ev) (R:It->Hp->Prop),Rel Oc Ob C.om C.ln σ H ρ ->
  (m ρ).post (fun ds=>∀J H1,Same H H1->WalksO Oc Ob J H1 ds->R J H1) (fun c=>∀H',Same H H'->C.XE c H')->wi σ H R
section
variable {C:Ct}{fr:Bool}{body:List Stmt}{m:Ev->Res Out}{mi:Ev->Res (List D)}{g:D->Ev->Option Ev}{pos:Pos}
theorem wS5{tg iter:Expr}(hi:RIo C tg iter mi)(hg:RG C tg g)(hb:RSs C fr body m)(hp:autoParam (PassesOwn (model C.X.prog C.X.w) C.X.A C.X.env C.X.xe) autoK13._auto_1)(hc:autoParam (C.X.calm=true) Eb)
  (hs:autoParam (∀x,foldedSetIterable iter C.X.env x=pure x) DZ):RS C fr (.For tg iter body [] pos) (sF mi g m):=by
 obtain⟨wi,pi,qi⟩:=hi
 obtain⟨tg',pg,qg⟩:=hg
 obtain⟨tb,pb,qb⟩:=hb
 refine⟨_,zH5 hp hc pi pg pb hs,fun Oc Ob σ H ρ E R h=>qi Oc Ob σ H ρ _ R (Res.zQ (Res.zT h) (fun ds _ k J H1 s1 wk => ?_) fun c z H' s=>z H' (Same.frm s))⟩
 refine⟨fun i mm σ' H'=>mm=ds.length-i/\i<=ds.length/\∃ρi Obi,Rel Oc Obi C.om C.ln σ' H' ρi/\Frm Ob H1 H'/\(∀b,Obi b->Ob b\/H1 b=none)/\SPost C fr Oc Obi H' E (forM g m (ds.drop i) ρi),
  ⟨_,rfl,Bk _,ρ,Ob,R.same s1,Same.frm (Same.refl _),fun b z=>.inl z,SPost.same s1 k⟩,?_⟩
 rintro i mm σ2 H2 ⟨rfl,hi,ρi,Obi,R2,f2,sb2,k2⟩
 obtain⟨w1,w2⟩:=wk H2 Obi f2 sb2 R2.oh i
 by_cases hlt:i<ds.length
 ·obtain⟨go,yl⟩:=w1 ds[i] (Ae hlt)
  have ed:ds.drop i=ds[i]::ds.drop (i+1):=Cw hlt
  rw[ed,forM] at k2
  obtain⟨ρ1,e1,k2⟩:=Res.zF (Res.zT k2)
  refine .inr ⟨go,fun σ' H'=>∃m',m'<ds.length-i/\(m'=ds.length-(i+1)/\i+1<=ds.length/\∃ρi Obi,Rel Oc Obi C.om C.ln σ' H' ρi/\Frm Ob H1 H'/\(∀b,Obi b->Ob b\/H1 b=none)/\SPost C fr Oc Obi H' E (forM g m (ds.drop (i+1)) ρi)),fun _ _ z=>z,fun x H3 hy => ?_⟩
  obtain⟨s3,rx⟩:=yl x H3 hy
  refine qg Oc Obi σ2 H3 ρi ρ1 x _ _ (R2.same s3) rx e1 fun σ3 R3 => ?_
  have k3:=SPost.same s3 (show SPost C fr Oc Obi H2 E _ from k2)
  refine qb Oc Obi σ3 H3 ρ1 _ R3 (Res.zQ (Res.zT k3) (fun o _ k4 => ?_) fun _ z=>z)
  cases o with
  | rt d=>exact k4
  | nx ρ2 =>
   intro σ4 H4 Ob4 R4 f4 sb4
   have f3:Frm Ob H1 H3:=fun b o e n=>s3 b o (f2 b o e n)
   refine⟨_,by rfl',rfl,hlt,ρ2,Ob4,R4,f3.trans sb2 f4,fun b z=>(sb4 b z).elim (sb2 b) fun z=>f3.none z,SPost.step f4 sb4 k4⟩
 ·have ei:i=ds.length:=by rfl'
  subst ei
  rw[CG] at k2
  exact .inl ⟨w2 (Ab _),k2 σ2 H2 Obi R2 (Same.frm (Same.refl _)) fun b z=>.inl z⟩
def enumD(ds:List D):List D:=(List.range ds.length).map fun (i:Nat)=>PyData.tuple [.int (i:Int),ds.getD i .none]
def qB(m:Ev->Res D):Ev->Res (List D):=fun ρ=>(m ρ).bind fun d=>(Res.lft (seqD d)).bind fun ds=>.ok (enumD ds)
theorem zG9{K:KFr}{Oc:Wd}{Ob:Addr->Prop}{H1:Hp}{a:Addr}{ys:List V}{ds:List D}(r:Rd H1 a (.lst ys))(n:¬Ob a)(rs:Reps H1 (Uni Oc Ob) ys ds):WalksO Oc Ob (Ite K a) H1 (enumD ds):=by
 intro H2 Ob2 f s oh i
 have r2:Rd H2 a (.lst ys):=wC r fun o e=>f a o e n
 have rs2:=rs.step f s
 have le:(enumD ds).length=ds.length:=by unfold enumD;simp
 refine⟨fun d e => ?_,fun h=>⟨ys,.inl r2,by rw[rs2.length];rw[le] at h;exact h⟩⟩
 unfold enumD at e
 rw[Al] at e
 obtain⟨j,ej,rfl⟩:=Az.mp e
 have hi:i<ds.length:=by
  have:=(Au.mp ej).1
  simpa using this
 rw[AN hi] at ej
 cases ej
 have ed:ds[i]?=some (ds.getD i .none):=by rw[Ak,Ae hi];rfl
 obtain⟨v,ev,rv⟩:=rs2.get ed
 refine⟨⟨ys,v,.inl r2,ev⟩,fun x H3 hy => ?_⟩
 obtain⟨t,y,ht,rfl,rfl,hy⟩:=hy
 have:=hy ys (.inl r2)
 rw[ev] at this
 cases this
 exact⟨Same.new ht,gR oh ht (.cons (.int _) (.cons rv .nil))⟩
theorem yG1{K:KFr}{Oc:Wd}{Ob:Addr->Prop}{H1:Hp}{a:Addr}{ys:List V}{ds:List D}(r:Rd H1 a (.tup ys))(n:¬Ob a)(rs:Reps H1 (Uni Oc Ob) ys ds):WalksO Oc Ob (Ith K a) H1 (enumD ds):=by
 intro H2 Ob2 f s oh i
 have r2:Rd H2 a (.tup ys):=wC r fun o e=>f a o e n
 have rs2:=rs.step f s
 have le:(enumD ds).length=ds.length:=by unfold enumD;simp
 refine⟨fun d e => ?_,fun h=>⟨ys,.inl r2,by rw[rs2.length];rw[le] at h;exact h⟩⟩
 unfold enumD at e
 rw[Al] at e
 obtain⟨j,ej,rfl⟩:=Az.mp e
 have hi:i<ds.length:=by
  have:=(Au.mp ej).1
  simpa using this
 rw[AN hi] at ej
 cases ej
 have ed:ds[i]?=some (ds.getD i .none):=by rw[Ak,Ae hi];rfl
 obtain⟨v,ev,rv⟩:=rs2.get ed
 refine⟨⟨ys,v,.inl r2,ev⟩,fun x H3 hy => ?_⟩
 obtain⟨t,y,ht,rfl,rfl,hy⟩:=hy
 have:=hy ys (.inl r2)
 rw[ev] at this
 cases this
 exact⟨Same.new ht,gR oh ht (.cons (.int _) (.cons rv .nil))⟩
theorem zT9{e:Expr}{ma:Ev->Res D}{es:List Expr}{x1:Nat}{tp p pos:Pos}(hm:C.X.mg "enumerate" = none)(h:RE C .rd e ma)(hg:autoParam (Gl C.X "enumerate") Eb)(hs:autoParam (starEach [e] C.X.env=[(false,eval e C.X.env)]) Eb)(hs2:autoParam (starEach [e] C.X.env=(false,eval e C.X.env)::starEach [] C.X.env) Eb):RIo C (.Tuple es x1 tp) (.Call (.Name "enumerate" p) [e] [] pos) (qB ma):=by
 obtain⟨t,pe,q⟩:=h
 refine⟨_,wQ1 hg hm (xO pe xE hs2) hs,fun Oc Ob σ H ρ W R h=>q Oc Ob σ H ρ _ R (Res.zQ (Res.zT h) (fun d _ k v H' s r => ?_) fun _ z=>z)⟩
 obtain⟨ds,e,k⟩:=Res.zF (Res.zT k)
 rcases r with r | ⟨a,ys,ds',rfl,rfl,e3,e4,e5⟩
 ·cases r with
  | lst r n t=>cases e;exact⟨_,rfl,.inl ⟨⟨_,.inl r⟩,k _ H' s (zG9 r (fun z=>n (.inr z)) t)⟩⟩
  | tup r n t=>cases e;exact⟨_,rfl,.inr ⟨⟨_,.inl r⟩,k _ H' s (yG1 r (fun z=>n (.inr z)) t)⟩⟩
  | _=>cases e
 ·cases e
  exact⟨_,rfl,.inl ⟨⟨_,SqL.of e3⟩,k _ H' s (zG9 (.inl e3) e4 e5)⟩⟩
end
theorem zA3(m:Ev->Res D)(ρ:Ev):qB m ρ=(m ρ).bind fun d=>(Res.lft (seqD d)).bind fun ds=>.ok (enumD ds):=rfl
end L2.L3
namespace PySem
section
variable {prog:Program}{w:World}{A:Around}{E:Value->Shared->Prop}{s:Shared}
end
end PySem
namespace L2.L3
open PySem PySem.Spec PyProof.Rows
variable [CN]
def sA(me:Ev->Res D)(g:D->Ev->Option Ev):Ev->Res Out:=fun ρ=>(me ρ).bind fun d=>(Res.lft (g d ρ)).bind fun ρ'=>.ok (.nx ρ')
theorem wA2(me:Ev->Res D)(g:D->Ev->Option Ev)(ρ:Ev):sA me g ρ=(me ρ).bind fun d=>(Res.lft (g d ρ)).bind fun ρ'=>.ok (.nx ρ'):=rfl
theorem wR5{C:Ct}{fr:Bool}{e tg:Expr}{pos:Pos}{me:Ev->Res D}{g:D->Ev->Option Ev}(he:RE C .cl e me)(hg:RG C tg g)(hs:autoParam (swapsWithSole [tg] e pos.line C.X.env=pure false) Eb)(hw:autoParam (swappedStores [tg] e C.X.env=pure none) Eb)
  (h1:autoParam ((assignEach [tg] C.X.env).map (·.2)=[assign tg C.X.env]) Eb):RS C fr (.Assign [tg] e pos) (sA me g):=wO4 he hg hs hw h1
def absD:List D->Option D
 | [.int i]=>some (.int (if i<0 then -i else i))
 | _=>none
theorem dG{Oc:Wd}{Ob:Addr->Prop}{H:Hp}{vs:List V}{d:D}(r:VAs Oc Ob H vs [d]):∃v,vs=[v]/\VA Oc Ob H v d:=by
 cases r with
 | cons h t=>cases t;exact⟨_,rfl,h⟩
theorem wO8:PrC (fun xs H Q=>∃i,xs=[.int i]/\Q (.int (if i<0 then -i else i)) H) .cl absD:=by
 intro Oc Ob H vs ds d Q oh r e k
 unfold absD at e
 split at e
 ·cases e
  obtain⟨v,rfl,h⟩:=dG r
  exact⟨_,by rw[h.int],k _ H (Same.refl H) (Rep.int _)⟩
 ·cases e
def intD:List D->Option D
 | [.int i]=>some (.int i)
 | [.bool b]=>some (.int (if b then 1 else 0))
 | _=>none
theorem wU4:PrC (fun xs H Q=>(∃i,xs=[.int i]/\Q (.int i) H)\/∃k,xs=[.bl k]/\Q (.int (if k then 1 else 0)) H) .cl intD:=by
 intro Oc Ob H vs ds d Q oh r e k
 unfold intD at e
 split at e
 ·cases e
  obtain⟨v,rfl,h⟩:=dG r
  exact .inl ⟨_,by rw[h.int],k _ H (Same.refl H) (Rep.int _)⟩
 ·cases e
  obtain⟨v,rfl,h⟩:=dG r
  exact .inr ⟨_,by rw[h.bool],k _ H (Same.refl H) (Rep.int _)⟩
 ·cases e
section
variable {X:Cx}
end
def eM1(f:List D->D->Option D)(mo ma:Ev->Res D):Ev->Res D:=fun ρ=>(mo ρ).bind fun x=>(Res.lft (lstD x)).bind fun ds=>(ma ρ).bind fun y=>Res.lft (f ds y)
theorem wH8(f:List D->D->Option D)(mo ma:Ev->Res D)(ρ:Ev):eM1 f mo ma ρ=(mo ρ).bind fun x=>(Res.lft (lstD x)).bind fun ds=>(ma ρ).bind fun y=>Res.lft (f ds y):=rfl
def Its(lo st:Int)(n:Nat):It:=⟨fun i _=>i<n,fun i H x H'=>H'=H/\x=.int (lo+(i:Int)*st),fun i _=>n<=i⟩
theorem xM4{P:Program}{w:World}{K:KFr}{tg:Expr}(it:Addr)(lo st:Int)(n:Nat):Turn P w K tg (Its lo st n) [it] it (fun i h=>IsRangeIter h it (lo+(i:Nat)*st) ((n:Int)-(i:Nat)) st) where
 mem:=by simp
 obj:=fun i h hs b hb=>by
  have e:b=it:=by simpa using hb
  subst e
  exact⟨_,hs,fun v z=>by
   have z':Data.fields _=Data.cell v:=z
   cases z'⟩
 keep:=fun i h h' hs k=>k it (by simp) _ hs
 item:=by
  intro X hP hw hK hc i Ec s σ H E I hf hs hg
  subst hP hw hK
  obtain⟨f0,f1,f2,f3,f4,f5⟩:=hf it (by simp)
  have W:=Walks.range (prog:=X.prog) (w:=X.w) (I.ok.hd hc) it lo st n
  refine W.item i s _ _ hg hs fun v h' tk hv hs' kk => ?_
  obtain⟨t,rfl⟩:=hv
  have I1:Inv X Ec σ H { s with heap:=h',toks:=tk }:=I.turned (fun b o hb e=>kk b o (by simpa using hb) e) f0 f1 f3 f4 f5
  exact⟨_,rfl,yR6 (s:={ s with heap:=h',toks:=tk }) (n:="range_iterator") hs' rfl rfl (by decide) ⟨.int (lo+(i:Int)*st),H,I1,⟨t,rfl⟩,⟨rfl,rfl⟩,hs',fun b hb=>(hf b hb).1⟩⟩
 done:=by
  intro X hP hw hK hc i Ec s σ H E I hf hs hg
  subst hP hw hK
  obtain⟨f0,f1,f2,f3,f4,f5⟩:=hf it (by simp)
  exact wpAny_pyNext_range_end (I.ok.hd hc) hs (by have:n<=i:=hg;rfl') fun h' eb=>⟨rfl,I.turned (t':=s.toks) (fun b o hb e=>eb b o hb e) f0 f1 f3 f4 f5⟩
 self:=fun _ _ _ _ _ hs h=>wpAny_pyIter_rangeiter hs h
def StepOk(i j k:Int):Prop:=k≠0/\k.natAbs.log2<9000/\Builtin.Range.small i j k=true/\0<=Builtin.Range.rangeSize i j k
instance (i j k:Int):Decidable (StepOk i j k):=by unfold StepOk;infer_instance
def iRng3(ta:TA):TI:=fun σ H R=>ta σ H fun vs H1=>∃i j k:Int,vs=[.int i,.int j,.int k]/\StepOk i j k/\R (Its i k (Builtin.Range.rangeSize i j k).toNat) H1
theorem xS7{X:Cx}{tg a b c:Expr}{ta:TA}{p pos:Pos}(hg:Gl X "range")(hm:X.mg "range" = none)(ha:PA X [a,b,c] ta)(hs:autoParam (starEach [a,b,c] X.env=[(false,eval a X.env),(false,eval b X.env),(false,eval c X.env)]) Eb)(hs2:autoParam (starEach [b,c] X.env=[(false,eval b X.env),(false,eval c X.env)]) Eb) :
  PI X tg (.Call (.Name "range" p) [a,b,c] [] pos) (iRng3 ta):=by
 intro Ec s σ H R I h
 refine Call_ (aU I hg hm boot_range (BR (thn (ha pos Ec s σ H _ I h) fun us s1 ⟨vs,H1,I1,r1,q1⟩ => ?_) (by rw[hs,hs2]) (by rw[hs2];rfl)))
 obtain⟨i,j,k,e,ok,q⟩:=q1
 subst e
 cases r1 with
 | cons r rr =>
  cases rr with
  | cons r' rr =>
   cases rr with
   | cons r'' rr =>
    cases rr
    obtain⟨t,rfl⟩:=r
    obtain⟨t',rfl⟩:=r'
    obtain⟨t'',rfl⟩:=r''
    refine call_range_3 ok.1 ?_ (.inl (Dh ok.2.1))
    refine wpAny_pyIter_range (IsRange.new ..) ok.2.2.1 ?_
    have I2:Inv X Ec σ H1 { s1 with heap:=s1.heap.push { cls:=.type "range",data:=.fields #[.int i t,.int j t',.int k t''] },toks:=s1.toks }:=I1.kept fun b o e=>Ai _ e
    refine⟨(s1.heap.push { cls:=.type "range",data:=.fields #[.int i t,.int j t',.int k t''] }).objs.size,[(s1.heap.push { cls:=.type "range",data:=.fields #[.int i t,.int j t',.int k t''] }).objs.size],_,_,H1,rfl,
     I2.kept (t':=s1.toks) fun b o e=>Ai _ e,xM4 _ i k (Builtin.Range.rangeSize i j k).toNat,?_,fun b hb => ?_,q⟩
    ·show IsRangeIter _ _ (i+((0:Nat):Int)*k) ((((Builtin.Range.rangeSize i j k).toNat:Nat):Int)-((0:Nat):Int)) k
     have n0:=ok.2.2.2
     rw[show i+((0:Nat):Int)*k=i by simp,show (((Builtin.Range.rangeSize i j k).toNat:Nat):Int)-((0:Nat):Int)=Builtin.Range.rangeSize i j k by rfl']
     exact AA _ rfl
    ·have e:b=(s1.heap.push { cls:=.type "range",data:=.fields #[.int i t,.int j t',.int k t''] }).objs.size:=by simpa using hb
     subst e
     exact I2.fpOk (Ab _) (I2.hok.fresh (Ab _))
def rng3:List D->Option (List D)
 | [.int i,.int j,.int k]=>if StepOk i j k then some ((List.range (Builtin.Range.rangeSize i j k).toNat).map fun (m:Nat)=>PyData.int (i+(m:Int)*k)) else none
 | _=>none
theorem xV3{Oc:Wd}{Ob:Addr->Prop}{H1:Hp}{lo st:Int}{n:Nat}:Walks Oc Ob (Its lo st n) H1 ((List.range n).map fun (i:Nat)=>PyData.int (lo+(i:Int)*st)):=by
 intro H2 Ob2 f s i
 refine⟨fun d e => ?_,fun h=>by show n<=i;simpa using h⟩
 rw[Al] at e
 by_cases hi:i<n
 ·rw[AN hi] at e
  cases e
  refine⟨hi,fun x H3 hy => ?_⟩
  obtain⟨rfl,rfl⟩:=hy
  exact⟨Same.refl _,.int _⟩
 ·rw[Cv (by simpa using hi)] at e
  cases e
theorem xO3{C:Ct}{tg a b c:Expr}{p pos:Pos}{ms:Ev->Res (List D)}(hm:C.X.mg "range" = none)(ha:RArg C false [a,b,c] ms)(hg:autoParam (Gl C.X "range") Eb)(hs:autoParam (starEach [a,b,c] C.X.env=[(false,eval a C.X.env),(false,eval b C.X.env),(false,eval c C.X.env)]) Eb)(hs2:autoParam (starEach [b,c] C.X.env=[(false,eval b C.X.env),(false,eval c C.X.env)]) Eb):RI C tg (.Call (.Name "range" p) [a,b,c] [] pos) (iR rng3 ms):=by
 obtain⟨t,pa,q⟩:=ha
 refine⟨_,xS7 hg hm pa hs hs2,fun Oc Ob σ H ρ W R h=>q Oc Ob σ H ρ _ R (Res.zQ (Res.zT h) (fun ds _ k vs H' s r => ?_) fun _ z=>z)⟩
 obtain⟨xs,e,k⟩:=Res.zF k
 unfold rng3 at e
 split at e
 ·split at e
  ·rename_i hb
   cases e
   cases r with
   | cons va r =>
    obtain⟨v',v'',rfl,va',va''⟩:=VAs.two r
    obtain rfl:=va.int
    obtain rfl:=va'.int
    obtain rfl:=va''.int
    exact⟨_,_,_,rfl,hb,k _ H' s xV3⟩
  ·cases e
 ·cases e
end L2.L3
namespace L2.L3
open PySem PyProof.Rows
variable [CN]
section
variable {X:Cx}
end
def revT:D->Option D
 | .list ds=>some (.tuple ds.reverse)
 | _=>none
def eRevT(m:Ev->Res D):Ev->Res D:=fun ρ=>(m ρ).bind fun d=>Res.lft (revT d)
theorem xE9(m:Ev->Res D)(ρ:Ev):eRevT m ρ=(m ρ).bind fun d=>Res.lft (revT d):=rfl
end L2.L3
namespace L2
open PySem PyProof.Rows
structure CScope2(sc0 scope:Scope)(N0:List Str)(xt yt:Str)(fs:List Str)(js:List Nat):Prop where
 kind:scope.kind=.function
 nocell:∀y∈scope.names,y.2 ≠ .cell
 names:∀y∈scope.names,y.2=.local->scope.names.lookup y.1=some .local
 tgt:scope.names.lookup xt=some .local
 tgt2:scope.names.lookup yt=some .local
 frees:∀y∈scope.names,y.2=.free->sc0.names.lookup y.1=some .cell\/sc0.names.lookup y.1=some .free
 len:js.length=fs.length
 slots:∀p∈fs.zip js,N0[p.2]?=some p.1/\scope.names.lookup p.1=some .free
 nd:(xt::yt::fs).Nodup
def compSt2(σ:St)(js:List Nat)(v w:Option V):St:=v::w::js.map fun j=>(σ[j]?).join
section
variable {X:Cx}{Ec:List (Addr×Obj)}{σ:St}{H:Hp}{s₂ s₄:Shared}{sc0 scope:Scope}{N0:List Str}{xt yt:Str}{fs:List Str}{js:List Nat}{fp:List Addr}
theorem CScope2.cells(S:CScope2 sc0 scope N0 xt yt fs js)(h0:X.env.scope=sc0)(ok:X.Ok):∀n,(n,NameKind.free)∈scope.names->∃c,X.env.cells.lookup n=some c:=fun n hn=>ok.has n (by subst h0;exact S.frees _ hn rfl)
theorem CScope2.sub(S:CScope2 sc0 scope N0 xt yt fs js)(h0:X.env.scope=sc0)(ok:X.Ok):∀x c,(clos X.env.cells scope.names []).lookup x=some c->X.env.cells.lookup x=some c :=
 zY5 scope.names [] (S.cells h0 ok) fun x c e=>by simp at e
theorem Inv.block2(S:CScope2 sc0 scope N0 xt yt fs js)(h0:X.env.scope=sc0)(hN0:X.N=N0)(I:Inv X Ec σ H s₂)(hf:∀b∈fp,FpOk X Ec H b)(hfo:∀b∈fp,∃o,s₂.heap.get? b=some o)
  (hos:s₄.os=s₂.os) (hg:AllBare s₄.gens) (hk:∀b o,s₂.heap.get? b=some o->s₄.heap.get? b=some o){C:Addr}(hC:s₂.heap.objs.size<=C){m:Str->Option Value}(hn:s₄.heap.Ns C m) :
  Inv (cxComp X (xt::yt::fs) scope C fp s₂ H) [] (compSt2 σ js none none) H s₄:=by
 have sub:=S.sub h0 I.ok
 have blt:∀b∈fp,b<s₂.heap.objs.size:=fun b hb=>let ⟨o,e⟩:=hfo b hb;As e
 have ok:(cxComp X (xt::yt::fs) scope C fp s₂ H).Ok:=by
  refine⟨I.ok.mod,S.kind,I.ok.glob,I.ok.blt,hC,fun x y c h1 h2=>I.ok.inj x y c (sub x c h1) (sub y c h2),fun x hx => ?_,fun x c h=>(nomatch h),I.ok.hd,I.ok.frames,.inl rfl,fun b hb=>⟨?_,fun x c h=>(hf b hb).2.2.2.2.1 x c (sub x c h)⟩,I.bs,AH I.ok.bsz I.sz,fun b o e hb => ?_,fun b hb hs => ?_,I.stack,I.stkFree⟩
  ·have hx:(relabel scope X.env).names.lookup x=some .cell\/(relabel scope X.env).names.lookup x=some .free:=hx
   have hfree:scope.names.lookup x=some .free:=by
    rcases hx with hx | hx
    ·rcases kX hx with q | ⟨_,q⟩
     ·exact absurd rfl (S.nocell _ (AY q))
     ·exact q
    ·rcases kX hx with q | ⟨q,_⟩
     ·exact q
     ·cases q
   exact gX scope.names [] x (AY hfree)
  ·exact AL (Ar (blt b hb) hC)
  ·rcases (hf b hb).2.2.2.1 with z | z
   ·exact I.ok.noex b o e z
   ·exact absurd (Ar (As (I.ok.bs b o e).1) z) (CB _)
  ·rcases AM.mp (I.stkSub b hs) with z | z
   ·exact (hf b hb).2.1 z
   ·exact (hf b hb).2.2.1 z
 refine⟨ok,hos,hg,Un.kept hk,⟨m,hn,fun i x v e1 e2 e3 => ?_⟩,fun x c e => ?_,I.hok.fresh hC,fun x c e=>I.freeC x c (sub x c e),fun p hp=>absurd (show p∈([]:List (Addr×Obj)) from hp) (by simp),I.hok.kept hk,?_⟩
 ·cases i with
  | zero=>cases e2
  | succ i =>
   cases i with
   | zero=>cases e2
   | succ i =>
   have e1:fs[i]?=some x:=e1
   have e2:(js.map fun j=>(σ[j]?).join)[i]?=some (some v):=e2
   rw[Al] at e2
   cases ej:js[i]? with
   | none=>rw[ej] at e2;cases e2
   | some j =>
    rw[ej] at e2
    have e2:(σ[j]?).join=some v:=AJ e2
    obtain⟨hN,hfr⟩:=S.slots _ (yZ2 e1 ej)
    have hN:X.N[j]?=some x:=by rw[hN0];exact hN
    have hk2:X.env.kindOf x=some .cell\/X.env.kindOf x=some .free:=by subst h0;exact S.frees _ (AY hfr) rfl
    have hs:σ[j]?=some (some v):=by
     cases q:σ[j]? with
     | none=>rw[q] at e2;cases e2
     | some z=>rw[q] at e2;rw[show z=some v from e2]
    obtain⟨m0,hn0,hl⟩:=I.loc
    obtain⟨u,r,l⟩:=hl j x v hN hs (by rcases hk2 with z | z;exact .inr (.inl z);exact .inr (.inr z))
    refine⟨u,r,?_⟩
    rcases l with ⟨hloc,_⟩ | ⟨_,c,hc,hcell⟩
    ·rcases hk2 with z | z
     ·rw[z] at hloc;cases hloc
     ·rw[z] at hloc;cases hloc
    ·obtain⟨c',hc'⟩:=gX (cells:=X.env.cells) scope.names [] x (AY hfr)
     have:c'=c:=AJ ((sub x c' hc').symm.trans hc)
     subst this
     exact .inr ⟨zV6 hfr,c',hc',hcell.keeps hk⟩
 ·obtain⟨v,z⟩:=I.cell x c (sub x c e)
  exact⟨v,z.keeps hk⟩
 ·show (compSt2 σ js none none).length=(xt::yt::fs).length
  unfold compSt2
  rw[Ax,Ax,Aa,Ax,Ax,S.len]
end
def tComp2(K:KFr)(wi:TI)(tt:Addr->List Addr->Shared->Hp->TT)(te:Addr->List Addr->Shared->Hp->TE)(js:List Nat):TE:=fun σ H Q=>wi σ H fun J H1=>∀C fp s₂ H₂,∃W:Nat->Nat->List V->Hp->Prop,(∃m,W 0 m [] H1)/\∀i m acc H,W i m acc H ->
 (J.stop i H/\∀p,H p=none->Q (.ref p) (upd H p (.lst acc))) \/
 (J.go i H/\∃N:List V->Hp->Prop,(∀acc' H',N acc' H'->∃m',m'<m/\W (i+1) m' acc' H') /\
  ∀x H',J.yld i H x H'->∃ta x1 x2,x=.ref ta/\SqT K H' ta [x1,x2]/\tt C fp s₂ H₂ (compSt2 σ js (some x1) (some x2)) H' fun b H2=>if b=true then te C fp s₂ H₂ (compSt2 σ js (some x1) (some x2)) H2 fun v H3=>acc.length<sizeLine/\N (acc ++ [v]) H3 else N acc H2)
theorem xI5{X:Cx}{elt iter:Expr}{ifs:List Expr}{sc0 scope:Scope}{N0:List Str}{px py tp pos:Pos}{k1:Nat}{xt yt:Str}{fs:List Str}{js:List Nat}{wi:TI}{tt:Addr->List Addr->Shared->Hp->TT}{te:Addr->List Addr->Shared->Hp->TE}(S:CScope2 sc0 scope N0 xt yt fs js)(h0:X.env.scope=sc0)(hN0:X.N=N0)(hc:X.calm=true)
  (hi:PI X (.Tuple [.Name xt px,.Name yt py] k1 tp) iter wi) (ht:∀C fp s₂ H,PTs (cxComp X (xt::yt::fs) scope C fp s₂ H) ifs (tt C fp s₂ H)) (he:∀C fp s₂ H,PE (cxComp X (xt::yt::fs) scope C fp s₂ H) elt (te C fp s₂ H))
  (hs:autoParam (∀x,foldedSetIterable iter X.env x=pure x) DZ) :
  PE X (.ListComp elt [⟨.Tuple [.Name xt px,.Name yt py] k1 tp,iter,ifs,0⟩] scope pos) (tComp2 X.K wi tt te js):=by
 intro Ec s σ H Q I h
 rw[eval_ListComp]
 refine wpAny_comprehension_free (use:=none) rfl hs (zX5 (S.cells h0 I.ok)) S.kind S.names ?_
 refine thn (hi Ec s σ H _ I h) fun v s1 h1=>thn h1 fun itv s2 h2 => ?_
 obtain⟨it,fp,tn,J,H2,e,I2,T,st2,f2,hW⟩:=h2
 subst e
 have fo:∀b∈fp,∃o,s2.heap.get? b=some o:=fun b hb=>let ⟨o,e,_⟩:=T.obj 0 s2.heap st2 b hb; ⟨o,e⟩
 have blt:∀b∈fp,b<s2.heap.objs.size:=fun b hb=>let ⟨o,e⟩:=fo b hb;As e
 refine yY5 S.nocell S.kind fun D C h₁ mC hDle hCle hDC old hacc hns₁ => ?_
 have bC:∀b o,s2.heap.get? b=some o->b≠C:=fun b o q z=>DD.mpr hCle (z▸As q)
 have bD:∀b o,s2.heap.get? b=some o->b≠D:=fun b o q z=>DD.mpr hDle (z▸As q)
 obtain⟨W,⟨m0,w0⟩,turn⟩:=hW C fp s2 H2
 have fpk:∀{H':Hp}(ob:Obj),(∀b∈fp,H' b=none)->∀b∈fp,FpOk (cxComp X (xt::yt::fs) scope C fp s2 H2) [(D,ob)] H' b:=fun {H'} ob hn b hb=>by
  refine⟨hn b hb,AL (Ar (blt b hb) hCle),fun z => ?_,.inl hb,fun x c e=>(f2 b hb).2.2.2.2.1 x c (S.sub h0 I2.ok x c e),fun p hp => ?_⟩
  ·rcases AM.mp (I2.stkSub b z) with q | q
   ·exact (f2 b hb).2.1 q
   ·exact (f2 b hb).2.2.1 q
  ·have:p=(D,ob):=by
    have hp:p ∈ [] ++ [(D,ob)]:=hp
    simpa using hp
   subst this
   exact Ds (Ar (blt b hb) hDle)
 have loop:codeAny (model X.prog X.w) X.A (.compLoop (.ListComp elt [⟨.Tuple [.Name xt px,.Name yt py] k1 tp,iter,ifs,0⟩] scope pos) 0 (.ref it) (.ref D) (compEnvC scope (clos X.env.cells scope.names []) C X.env))
    (compPost (model X.prog X.w) X.A X.xe none (EP X Ec σ Q) (.ref D) C) { s2 with heap:=h₁ }:=by
  have J0:Inv (cxComp X (xt::yt::fs) scope C fp s2 H2) [] (compSt2 σ js none none) H2 { s2 with heap:=h₁ } :=
   Inv.block2 (s₂:=s2) (s₄:={ s2 with heap:=h₁ }) S h0 hN0 I2 f2 fo rfl I2.bare old hCle hns₁
  have H2D:H2 D=none:=I2.hok.fresh hDle
  have ofD:D∉frs X.stack:=fun z=>by
   rcases AM.mp (I2.stkSub D z) with q | q
   ·exact absurd I2.lt (by rw[<-q];exact DD.mpr hDle)
   ·exact I2.nofs (a:=D) hDle q
  refine codeAny_loop rfl (fun n s'=>∃(i:Nat) (σ':St) (H':Hp) (acc:List V) (its:List Value) (k:Nat),(∃v0 w0,σ'=compSt2 σ js v0 w0)/\Inv (cxComp X (xt::yt::fs) scope C fp s2 H2) [] σ' H' s'/\tn i s'.heap/\(∀b∈fp,H' b=none)/\H' D=none /\
    s'.heap.get? D=some { cls:=.type "list",data:=.seq its.toArray k }/\Vals acc its/\acc.length<=sizeLine/\W i n acc H') ?_ m0
   ⟨0,_,H2,[],[],0,⟨none,none,rfl⟩,J0,T.keep 0 _ _ st2 fun b hb o e=>old b o e,fun b hb=>(f2 b hb).1,H2D,hacc,.nil,Bk _,w0⟩
  rintro n s3 ⟨i,σ3,H3,acc,its,k,⟨v0,w0,rfl⟩,I3,st3,fr3,hD3,d3,va,hz,w3⟩
  show wpAny _ X.A ((compTurn (.ListComp elt [⟨.Tuple [.Name xt px,.Name yt py] k1 tp,iter,ifs,0⟩] scope pos) 0 (.ref it) (.ref D) (compEnvC scope (clos X.env.cells scope.names []) C X.env)).onRaise (fun x=>do noteFrame x (compEnvC scope (clos X.env.cells scope.names []) C X.env);theTreesLotGoes x)) _ _ s3
  refine wpAny_noted ?_
  rw[compTurn_list]
  refine Am (wpAny_standAt ?_)
  have pinD:Inv (cxComp X (xt::yt::fs) scope C fp s2 H2) [(D,{ cls:=.type "list",data:=.seq its.toArray k })] (compSt2 σ js v0 w0) H3 s3:=I3.uL fun p hp=>by
   have:p=(D,{ cls:=.type "list",data:=.seq its.toArray k }):=by simpa using hp
   subst this
   exact⟨d3,hD3,hDC,ofD,fun v z=>by cases z⟩
  refine Am ?_
  rcases turn i n acc H3 w3 with ⟨stop,qn⟩ | ⟨go,N,hN,step⟩
  ·refine thn (T.done (cxComp X (xt::yt::fs) scope C fp s2 H2) rfl rfl rfl hc i _ s3 _ H3 _ pinD (fpk _ fr3) st3 stop) fun r s4 ⟨hr,I4⟩ => ?_
   subst hr
   refine AF ?_
   obtain⟨m4,hn4,_⟩:=I4.loc
   refine⟨m4,hn4,fun h' hsb=>⟨.ref D,_,I2.unblock f2 I4 hCle hDle hDC hD3 ((I4.pin (D,{ cls:=.type "list",data:=.seq its.toArray k }) (Ap _ Af)).1) va hz hsb,rfl,qn D hD3⟩⟩
  ·refine thn (T.item (cxComp X (xt::yt::fs) scope C fp s2 H2) rfl rfl rfl hc i _ s3 _ H3 _ pinD (fpk _ fr3) st3 go) fun r s4 ⟨u,hr,h4⟩ => ?_
   subst hr
   refine Am (thn h4 fun _ s5 ⟨x,H5,I5,r5,y5,st5,fr5⟩ => ?_)
   have I5':=I5.pinned (fpk _ fr5) (T.obj _ _ st5)
   obtain⟨ta,x1,x2,ex,hx,q6⟩:=step x H5 y5
   have g0:PG (cxComp X (xt::yt::fs) scope C fp s2 H2) (.Name xt px) (gName 0):=dF S.nd rfl (.inl (lookup_relabel_local S.tgt)) (.inr (lookup_relabel_local S.tgt))
   have g1:PG (cxComp X (xt::yt::fs) scope C fp s2 H2) (.Name yt py) (gName 1):=dF S.nd rfl (.inl (lookup_relabel_local S.tgt2)) (.inr (lookup_relabel_local S.tgt2))
   have gok:PG (cxComp X (xt::yt::fs) scope C fp s2 H2) (.Tuple [.Name xt px,.Name yt py] k1 tp) (gTup X.K 2 (gCons (gName 0) (gCons (gName 1) gNil))):=xR8 hc (zK7 g0 (zK7 g1 yC1))
   have noE:∀(a:Value) (s':Shared),(cxComp X (xt::yt::fs) scope C fp s2 H2).xe a s'->notedBy (model X.prog X.w) X.A (compEnvC scope (clos X.env.cells scope.names []) C X.env) (fun e s'=>compPost (model X.prog X.w) X.A X.xe none (EP X Ec σ Q) (.ref D) C (.error e) s') a s':=fun _ _ z=>False.elim z
   refine Am (wpAny_mono (gok _ s5 (compSt2 σ js v0 w0) H5 x u (fun σ' H'=>σ'=compSt2 σ js (some x1) (some x2)/\H'=H5) I5' r5 ⟨ta,[x1,x2],ex,hx,rfl,x1,[x2],rfl,x2,[],rfl,rfl,rfl,rfl⟩) (fun _ s6 ⟨σ6,H6,I6,e6,e6'⟩ => ?_) noE)
   subst e6 e6'
   have fin:∀{acc':List V}{its':List Value}{k':Nat}{H7:Hp}{s7:Shared},Inv (cxComp X (xt::yt::fs) scope C fp s2 H2) [] (compSt2 σ js (some x1) (some x2)) H7 s7->tn (i+1) s7.heap->(∀b∈fp,H7 b=none)->H7 D=none->s7.heap.get? D=some { cls:=.type "list",data:=.seq its'.toArray k' }->Vals acc' its'->acc'.length<=sizeLine->N acc' H7 ->
     ∃m,m<n/\∃(i:Nat) (σ':St) (H':Hp) (acc:List V) (its:List Value) (k:Nat),(∃v0 w0,σ'=compSt2 σ js v0 w0)/\Inv (cxComp X (xt::yt::fs) scope C fp s2 H2) [] σ' H' s7/\tn i s7.heap/\(∀b∈fp,H' b=none)/\H' D=none /\
      s7.heap.get? D=some { cls:=.type "list",data:=.seq its.toArray k }/\Vals acc its/\acc.length<=sizeLine/\W i m acc H':=fun {acc' its' k' H7 s7} a1 a2 a3 a4 a5 a6 a7 a8=>by
    obtain⟨m',hm,w7⟩:=hN _ _ a8
    exact⟨m',hm,i+1,_,H7,acc',its',k',⟨_,_,rfl⟩,a1,a2,a3,a4,a5,a6,a7,w7⟩
   have rest:∀{H7:Hp}{s7:Shared},Inv (cxComp X (xt::yt::fs) scope C fp s2 H2) ([(D,{ cls:=.type "list",data:=.seq its.toArray k })]++pinsAt fp s5.heap) (compSt2 σ js (some x1) (some x2)) H7 s7 ->
     tn (i+1) s7.heap/\(∀b∈fp,H7 b=none)/\H7 D=none/\s7.heap.get? D=some { cls:=.type "list",data:=.seq its.toArray k }:=fun {H7 s7} I7=>by
    refine⟨T.keep _ _ _ st5 fun b hb o e=>(I7.pin (b,o) (Ap _ (Ap _ (qR hb e)))).1,fun b hb => ?_,(I7.pin (D,{ cls:=.type "list",data:=.seq its.toArray k }) (Ap _ (Bb _ Af))).2.1,(I7.pin (D,{ cls:=.type "list",data:=.seq its.toArray k }) (Ap _ (Bb _ Af))).1⟩
    obtain⟨o,e,d⟩:=T.obj _ _ st5 b hb
    exact (I7.pin (b,o) (Ap _ (Ap _ (qR hb e)))).2.1
   have elem:∀{H7:Hp}{s7:Shared},Inv (cxComp X (xt::yt::fs) scope C fp s2 H2) ([(D,{ cls:=.type "list",data:=.seq its.toArray k })]++pinsAt fp s5.heap) (compSt2 σ js (some x1) (some x2)) H7 s7 ->
     (te C fp s2 H2 (compSt2 σ js (some x1) (some x2)) H7 fun v H3=>acc.length<sizeLine/\N (acc ++ [v]) H3) ->
     wpAny (model X.prog X.w) X.A (eval elt (compEnvC scope (clos X.env.cells scope.names []) C X.env)) (fun y s8=>wpAny (model X.prog X.w) X.A (call (.builtin "list.append") [.ref D,y]) (fun _ s9=>∃m,m<n/\∃(i:Nat) (σ':St) (H':Hp) (acc:List V) (its:List Value) (k:Nat),(∃v0 w0,σ'=compSt2 σ js v0 w0)/\Inv (cxComp X (xt::yt::fs) scope C fp s2 H2) [] σ' H' s9/\tn i s9.heap/\(∀b∈fp,H' b=none)/\H' D=none /\
      s9.heap.get? D=some { cls:=.type "list",data:=.seq its.toArray k }/\Vals acc its/\acc.length<=sizeLine/\W i m acc H')
      (fun _ _=>False) s8) (fun _ _=>False) s7:=fun {H7 s7} I7 q7=>by
    refine thn (he C fp s2 H2 _ s7 _ H7 _ I7 q7) fun y s8 ⟨v,H8,I8,r8,hl8,n8⟩ => ?_
    obtain⟨t8,fr8,hD8,d8⟩:=rest I8
    have hsz:=va.length
    refine call_meets DR ⟨_,d8,rfl⟩ DN (DI _ _) (PySem.list_append D its.toArray k y (by rw[Ao];rfl')) ⟨d8,?_⟩
    have q:=PySem.IsL.update d8 (·.push y)
    rw[show (its.toArray.push y)=(its ++ [y]).toArray by simp] at q
    have kk:∀b o,b≠D->s8.heap.get? b=some o->(s8.heap.update D (Obj.mapSeq (·.push y))).get? b=some o:=fun b o hb e=>(Ck s8.heap _ (CT hb)).trans e
    have I9:Inv (cxComp X (xt::yt::fs) scope C fp s2 H2) [] (compSt2 σ js (some x1) (some x2)) H8 { s8 with heap:=s8.heap.update D (Obj.mapSeq (·.push y)) }:=by
     refine Inv.turned (it:=D) (t':=s8.toks) (I8.uL (pins':=[]) fun p hp=>nomatch hp) kk hD8 hDC (.inr hDle) (fun x c e z => ?_) fun p hp=>absurd (show p∈([]:List (Addr×Obj)) from hp) (by simp)
     obtain⟨v,o,ho,_⟩:=I2.cell x c (S.sub h0 I2.ok x c e)
     exact bD c o ho z
    refine fin I9 (T.keep _ _ _ t8 fun b hb o e=>kk b o (AL (Ar (blt b hb) hDle)) e) fr8 hD8 q (va.append (.cons r8 .nil)) ?_ n8
    rw[An,Bm]
    rfl'
   have htt:=ht C fp s2 H2
   generalize tt C fp s2 H2=tt' at htt q6
   cases htt with
   | nil =>
    refine Am (AF ?_)
    dsimp only[tTrue] at q6
    rw[Ac rfl] at q6
    refine wpAny_mono (Am (Am (thn (elem I6 q6) fun y s8 h8=>Am (thn h8 fun _ s9 h9=>AF (AF ⟨rfl,h9⟩))))) (fun _ _ z=>z) fun _ _ z=>False.elim z
   | one ht1 =>
    refine Am (wpAny_tests_one (wpAny_mono (ht1 _ s6 _ H6 _ I6 q6) (fun b s7 ⟨H7,I7,q7⟩ => ?_) noE))
    cases b with
    | false =>
     rw[Ah AG] at q7
     obtain⟨t8,fr8,hD8,d8⟩:=rest I7
     exact AF ⟨rfl,fin (I7.uL (pins':=[]) fun p hp=>nomatch hp) t8 fr8 hD8 d8 va hz q7⟩
    | true =>
     rw[Ac rfl] at q7
     refine wpAny_mono (Am (Am (thn (elem I7 q7) fun y s8 h8=>Am (thn h8 fun _ s9 h9=>AF (AF ⟨rfl,h9⟩))))) (fun _ _ z=>z) fun _ _ z=>False.elim z
 exact codeAny_compStart_list loop (T.self X.A 0 _ _ _ (T.keep 0 _ _ st2 fun b hb o e=>old b o e) loop)
end L2
namespace L2.L3
open PySem PyProof.Rows
variable [CN]
def cEnv2(ρ:Ev)(js:List Nat)(x y:D):Ev:=some x::some y::js.map fun j=>(ρ[j]?).join
def capt2(js l:List Nat):List Nat:=((List.range js.length).filter fun i=>l.contains (js.getD i 0)).map (·+2)
def pr2{α:Type}(d:D)(f:D->D->Res α):Res α :=
 match d with
 | .tuple [a,b]=>f a b
 | _=>.no
theorem wK2{α:Type}{d:D}{f:D->D->Res α}{r:α}(h:pr2 d f=.ok r):∃a b,d=.tuple [a,b]/\f a b=.ok r:=by
 unfold pr2 at h
 split at h
 ·exact⟨_,_,rfl,h⟩
 ·cases h
def eComp2(mi:Ev->Res (List D))(mt:Ev->Res Bool)(me:Ev->Res D)(js:List Nat):Ev->Res D:=fun ρ=>(mi ρ).bind fun ds=>if ds.length<=sizeLine then (compM (fun d=>pr2 d fun x y=>mt (cEnv2 ρ js x y)) (fun d=>pr2 d fun x y=>me (cEnv2 ρ js x y)) ds).bind fun out=>.ok (.list out) else .no
theorem xK1{js l:List Nat}{i:Nat}(h:i∈capt2 js l):∃k,i=k+2/\k<js.length/\js.getD k 0∈l:=by
 unfold capt2 at h
 obtain⟨k,hk,rfl⟩:=AE.mp h
 obtain⟨h1,h2⟩:=Ce.mp hk
 exact⟨k,rfl,AB.mp h1,Bj.mp h2⟩
theorem yX3{js l:List Nat}{k j:Nat}(h:js[k]?=some j)(hl:j∈l):k+2∈capt2 js l:=by
 unfold capt2
 refine AE.mpr ⟨k,Ce.mpr ⟨AB.mpr ?_,?_⟩,rfl⟩
 ·exact (Au.mp h).1
 ·rw[Ak,h]
  exact Bj.mpr hl
theorem zF9{ρ:Ev}{js:List Nat}{x y d:D}{k:Nat}(h:(cEnv2 ρ js x y)[k+2]?=some (some d)):∃j,js[k]?=some j/\ρ[j]?=some (some d):=by
 unfold cEnv2 at h
 rw[BO,BO,Al] at h
 cases e:js[k]? with
 | none=>rw[e] at h;cases h
 | some j =>
  rw[e] at h
  refine⟨j,rfl,?_⟩
  have h:(ρ[j]?).join=some d:=AJ h
  cases q:ρ[j]? with
  | none=>rw[q] at h;cases h
  | some z=>rw[q] at h;rw[show z=some d from h]
theorem uA{σ:St}{js:List Nat}{v0 w0:Option V}{v:V}{k j:Nat}(h:js[k]?=some j)(e:σ[j]?=some (some v)):(compSt2 σ js v0 w0)[k+2]?=some (some v):=by
 unfold compSt2
 rw[BO,BO,Al,h]
 show some ((σ[j]?).join)=_
 rw[e]
 rfl
def cW2(Oc:Wd)(Ob:Addr->Prop)(σ:St)(js:List Nat):Wd:=⟨Uni Oc Ob,fun i=>adr ((compSt2 σ js none none)[i]?)⟩
theorem Rel.comp2{Oc:Wd}{Ob:Addr->Prop}{om ln:List Nat}{σ:St}{H:Hp}{ρ:Ev}{js:List Nat}{x y:V}{d d2:D}(R:Rel Oc Ob om ln σ H ρ)(r:Rep H (Uni Oc Ob) x d)(r2:Rep H (Uni Oc Ob) y d2):Rel (cW2 Oc Ob σ js) (fun _=>False) [] (capt2 js (om++ln)) (compSt2 σ js (some x) (some y)) H (cEnv2 ρ js d d2) where
 len:=by unfold compSt2 cEnv2;simp
 val:=fun i d' e _ hl=>by
  cases i with
  | zero =>
   cases e
   exact⟨x,rfl,r.less fun b z=>z.elim id fun z=>z.elim⟩
  | succ k =>
   cases k with
   | zero =>
   cases e
   exact⟨y,rfl,r2.less fun b z=>z.elim id fun z=>z.elim⟩
   | succ k =>
   obtain⟨j,e1,e2⟩:=zF9 e
   have h1:j∉om:=fun z=>hl (yX3 e1 (Bb _ z))
   have h2:j∉ln:=fun z=>hl (yX3 e1 (Ap _ z))
   obtain⟨v,q,rv⟩:=R.val j d' e2 h1 h2
   exact⟨v,uA e1 q,rv.less fun b z=>z.elim id fun z=>z.elim⟩
 own:=fun i d' e h=>nomatch h
 lnt:=fun i d' e _ hl=>by
  obtain⟨k,rfl,hk,hj⟩:=xK1 hl
  obtain⟨j,e1,e2⟩:=zF9 e
  rw[Ak,e1,DC] at hj
  by_cases ho:j∈om
  ·obtain⟨v,q,a,ys,ds,z1,z2,z3,z4,z5⟩:=R.own j d' e2 ho
   have ea:(cW2 Oc Ob σ js).la (k+2)=a:=by show adr _=a;rw[uA e1 q,z1];rfl
   exact⟨v,uA e1 q,ys,ds,by rw[ea];exact z1,z2,by rw[ea];exact z3,by rw[ea];exact .inr z4,z5.less fun b z=>z.elim id fun z=>z.elim⟩
  ·have hl2:j∈ln:=(AX.mp hj).elim (fun z=>absurd z ho) id
   obtain⟨v,q,ys,ds,z1,z2,z3,z4,z5⟩:=R.lnt j d' e2 ho hl2
   have ea:(cW2 Oc Ob σ js).la (k+2)=Oc.la j:=by show adr _=_;rw[uA e1 q,z1];rfl
   exact⟨v,uA e1 q,ys,ds,by rw[ea];exact z1,z2,by rw[ea];exact z3,by rw[ea];exact .inl z4,z5.less fun b z=>z.elim id fun z=>z.elim⟩
 inj:=fun i j di dj a _ _ h=>nomatch h
 oh:=fun a z=>R.oh a (z.elim id fun z=>z.elim)
 ap:=fun a z=>z.elim
abbrev cC2(C:Ct)(N:List Str)(scope:Scope)(A:Addr)(fp:List Addr)(s₂:Shared)(H:Hp)(js:List Nat):Ct:=⟨cxComp C.X N scope A fp s₂ H,fun _ _=>False,[],capt2 js (C.om++C.ln)⟩
theorem xH6{K:KFr}{H:Hp}{O:Addr->Prop}{x:V}{a b:D}(r:Rep H O x (.tuple [a,b])):∃ta x1 x2,x=.ref ta/\SqT K H ta [x1,x2]/\Rep H O x1 a/\Rep H O x2 b:=by
 cases r with
 | tup r n t =>
  cases t with
  | cons h1 t =>
   cases t with
   | cons h2 t =>
    cases t
    exact⟨_,_,_,rfl,.inl r,h1,h2⟩
theorem xD1{C:Ct}{elt iter:Expr}{ifs:List Expr}{sc0 scope:Scope}{N0:List Str}{px py tp pos:Pos}{k1:Nat}{xt yt:Str}{fs:List Str}{js:List Nat}{mi:Ev->Res (List D)}{mt:Ev->Res Bool}{me:Ev->Res D}(S:CScope2 sc0 scope N0 xt yt fs js)(h0:C.X.env.scope=sc0)(hN0:C.X.N=N0)(hc:C.X.calm=true)
  (hi:RIc C (.Tuple [.Name xt px,.Name yt py] k1 tp) iter mi) (ht:∀A fp s₂ H,RTs (cC2 C (xt::yt::fs) scope A fp s₂ H js) ifs mt) (he:∀A fp s₂ H,RE (cC2 C (xt::yt::fs) scope A fp s₂ H js) .cl elt me)
  (hs:autoParam (∀x,foldedSetIterable iter C.X.env x=pure x) DZ) :
  RE C .new (.ListComp elt [⟨.Tuple [.Name xt px,.Name yt py] k1 tp,iter,ifs,0⟩] scope pos) (eComp2 mi mt me js):=by
 obtain⟨wi,pi,qi⟩:=hi
 refine⟨_,xI5 (tt:=fun A fp s H=>Classical.choose (ht A fp s H)) (te:=fun A fp s H=>Classical.choose (he A fp s H)) S h0 hN0 hc pi (fun A fp s H=>(Bd (ht A fp s H)).1) (fun A fp s H=>(Bd (he A fp s H)).1) hs,fun Oc Ob σ H ρ Q R h => ?_⟩
 refine qi Oc Ob σ H ρ _ R (Res.zQ (Res.zT h) (fun ds _ k J H1 s1 wk => ?_) fun _ z=>z)
 intro A fp s₂ H₂
 have qt:=(Bd (ht A fp s₂ H₂)).2
 have qe:=(Bd (he A fp s₂ H₂)).2
 have k:(if ds.length<=sizeLine then (compM (fun d=>pr2 d fun x y=>mt (cEnv2 ρ js x y)) (fun d=>pr2 d fun x y=>me (cEnv2 ρ js x y)) ds).bind fun out=>Res.ok (PyData.list out) else .no).post (fun d=>∀v H',Same H H'->VR .new Oc Ob H H' v d->Q v H') (fun c=>∀H',Same H H'->C.XE c H'):=k
 by_cases hlen:ds.length<=sizeLine
 ·rw[Ac hlen] at k
  generalize hT:(fun d=>pr2 d fun x y=>mt (cEnv2 ρ js x y))=T at k
  generalize hF:(fun d=>pr2 d fun x y=>me (cEnv2 ρ js x y))=F at k
  cases ec:compM T F ds with
  | no=>rw[ec] at k;exact k.elim
  | ex c =>
   exfalso
   have nex:∀xs c,compM T F xs ≠ .ex c:=by
    intro xs
    induction xs with
    | nil=>intro c z;cases z
    | cons x xs ih =>
     intro c z
     rw[compM] at z
     cases e1:noEx (T x) with
     | no=>rw[e1] at z;cases z
     | ex c'=>cases hx:T x <;> rw[hx] at e1 <;> cases e1
     | ok b =>
      rw[e1,Res.bind_ok] at z
      cases b with
      | false=>exact ih c z
      | true =>
       simp only[if_true] at z
       cases e2:noEx (F x) with
       | no=>rw[e2] at z;cases z
       | ex c'=>cases hx:F x <;> rw[hx] at e2 <;> cases e2
       | ok y =>
        rw[e2,Res.bind_ok] at z
        cases e3:compM T F xs with
        | no=>rw[e3] at z;cases z
        | ex c'=>exact ih c' e3
        | ok ys=>rw[e3] at z;cases z
   exact nex ds c ec
  | ok out =>
   rw[ec,Res.bind_ok] at k
   refine⟨fun i m acc H=>m=ds.length-i/\i<=ds.length/\Same H1 H/\∃done rest,Reps H (Uni Oc Ob) acc done/\acc.length<=i/\compM T F (ds.drop i)=.ok rest/\done++rest=out,⟨_,rfl,Bk _,Same.refl _,[],out,.nil,Ab _,ec,rfl⟩,?_⟩
   rintro i m acc H2 ⟨rfl,hi,s2,done,rest,ra,la,er,eo⟩
   obtain⟨w1,w2⟩:=wk H2 s2 i
   have R2:=(R.same s1).same s2
   by_cases hlt:i<ds.length
   ·obtain⟨go,yl⟩:=w1 ds[i] (Ae hlt)
    have ed:ds.drop i=ds[i]::ds.drop (i+1):=Cw hlt
    rw[ed,compM] at er
    have nxt:∀(acc':List V) (H3:Hp) (done' rest':List D),Same H2 H3->Reps H3 (Uni Oc Ob) acc' done'->acc'.length<=i+1->compM T F (ds.drop (i+1))=.ok rest'->done'++rest'=out ->
      ∃m',m'<ds.length-i/\(m'=ds.length-(i+1)/\i+1<=ds.length/\Same H1 H3/\∃done rest,Reps H3 (Uni Oc Ob) acc' done/\acc'.length<=i+1/\compM T F (ds.drop (i+1))=.ok rest/\done++rest=out) :=
     fun acc' H3 done' rest' s3 r3 l3 c3 o3=>⟨_,by rfl',rfl,hlt,s2.trans s3,done',rest',r3,l3,c3,o3⟩
    refine .inr ⟨go,fun acc' H'=>∃m',m'<ds.length-i/\(m'=ds.length-(i+1)/\i+1<=ds.length/\Same H1 H'/\∃done rest,Reps H' (Uni Oc Ob) acc' done/\acc'.length<=i+1/\compM T F (ds.drop (i+1))=.ok rest/\done++rest=out),fun acc' H' z=>z,fun x H3 hy => ?_⟩
    obtain⟨s3,rx⟩:=yl x H3 hy
    cases e1:noEx (T ds[i]) with
    | no=>rw[e1] at er;cases er
    | ex c=>rw[e1] at er;cases er
    | ok b =>
     rw[e1,Res.bind_ok] at er
     have t0:=zR4 e1
     rw[<-hT] at t0
     obtain⟨da,db,ed2,t1⟩:=wK2 t0
     rw[ed2] at rx
     obtain⟨ta,x1,x2,rfl,hsq,rx1,rx2⟩:=xH6 (K:=C.X.K) rx
     have R3:=(R2.same s3).comp2 (js:=js) rx1 rx2
     refine⟨ta,x1,x2,rfl,hsq,?_⟩
     refine qt _ _ _ H3 _ _ R3 ?_
     show (mt (cEnv2 ρ js da db)).post _ _
     rw[t1]
     intro H4 s4
     cases b with
     | false=>exact iteF (nxt acc H4 done rest (s3.trans s4) (ra.same (s3.trans s4)) (by rfl') er eo)
     | true =>
      refine iteT ?_
      simp only[if_true] at er
      cases e2:noEx (F ds[i]) with
      | no=>rw[e2] at er;cases er
      | ex c=>rw[e2] at er;cases er
      | ok y =>
       rw[e2,Res.bind_ok] at er
       have t2:me (cEnv2 ρ js da db)=.ok y:=by
        have t2:=zR4 e2
        rw[<-hF,ed2] at t2
        exact t2
       refine qe _ _ _ H4 _ _ (R3.same s4) ?_
       show (me (cEnv2 ρ js da db)).post _ _
       rw[t2]
       intro v H5 s5 rv
       refine⟨by rfl',?_⟩
       obtain⟨ys,e3⟩:∃ys,compM T F (ds.drop (i+1))=.ok ys:=by
        cases e3:compM T F (ds.drop (i+1)) with
        | no=>rw[e3] at er;cases er
        | ex c=>rw[e3] at er;cases er
        | ok ys=>exact⟨ys,rfl⟩
       rw[e3,Res.bind_ok] at er
       cases er
       have rv':Rep H5 (Uni Oc Ob) v y:=Rep.less rv fun b z=>.inl z
       refine nxt (acc ++ [v]) H5 (done ++ [y]) ys ((s3.trans s4).trans s5) ((ra.same ((s3.trans s4).trans s5)).append (.one rv')) (by rw[An,Bm];rfl') e3 ?_
       rw[Bh]
       exact eo
   ·have ei:i=ds.length:=by rfl'
    subst ei
    refine .inl ⟨w2 (Ab _),fun p hp => ?_⟩
    rw[CG] at er
    cases er
    rw[BC] at eo
    subst eo
    exact k _ _ ((s1.trans s2).trans (Same.new hp)) (wN (s1.trans s2) hp ra)
 ·rw[Ah hlen] at k
  exact k.elim
theorem RIo.c{C:Ct}{tg iter:Expr}{m:Ev->Res (List D)}(h:RIo C tg iter m):RIc C tg iter m:=by
 obtain⟨wi,p,q⟩:=h
 exact⟨wi,p,fun Oc Ob σ H ρ W R h=>q Oc Ob σ H ρ W R (Res.zQ h (fun ds _ k J H1 s w=>k J H1 s fun H2 s2=>w H2 Ob (Same.frm s2) (fun b z=>.inl z) (R.same (s.trans s2)).oh) fun _ z=>z)⟩
section
variable {X:Cx}{Ec:List (Addr×Obj)}{σ:St}{H:Hp}{s:Shared}{h':Heap}
end
structure Apart5(z TI TO i1 i2:Addr):Prop where
 TIz:TI≠z
 TOz:TO≠z
 i1z:i1≠z
 i2z:i2≠z
 TITO:TI≠TO
 TIi1:TI≠i1
 TIi2:TI≠i2
 TOi1:TO≠i1
 TOi2:TO≠i2
 i12:i1≠i2
end L2.L3
namespace L2
open PySem PySem.Spec PyProof.Rows
end L2
namespace L2.L3
open PySem PySem.Spec PyProof.Rows
variable [CN]
end L2.L3
namespace L2.L3
open PySem
variable [CN]
theorem xO6(mi:Ev->Res (List D))(mt:Ev->Res Bool)(me:Ev->Res D)(js:List Nat)(ρ:Ev):eComp2 mi mt me js ρ=(mi ρ).bind fun ds=>if ds.length<=sizeLine then (compM (fun d=>pr2 d fun x y=>mt (cEnv2 ρ js x y)) (fun d=>pr2 d fun x y=>me (cEnv2 ρ js x y)) ds).bind fun out=>.ok (.list out) else .no:=rfl
theorem xR6{mi:Ev->Res (List D)}{t:Ev->Res Bool}{me:Ev->Res D}{js:List Nat}{ρ:Ev}{α:Type}(A B:α->D)(p:α->Bool)(q:α->D)(xs:List α)(h:mi ρ=.ok (xs.map fun x=>PyData.tuple [A x,B x]))(hl:xs.length<=1000)
  (ht:∀x∈xs,t (cEnv2 ρ js (A x) (B x))=.ok (p x)) (hf:∀x∈xs,p x=true->me (cEnv2 ρ js (A x) (B x))=.ok (q x)):eComp2 mi t me js ρ=.ok (.list ((xs.filter p).map q)):=by
 rw[xO6,h,Res.bind_ok,yC5 (by rw[Aa];exact hl),zV1 (fun x=>PyData.tuple [A x,B x]) p q xs (fun x hx=>ht x hx) (fun x hx hp=>hf x hx hp)]
 rfl
theorem xX6{mi:Ev->Res (List D)}{me:Ev->Res D}{js:List Nat}{ρ:Ev}{α:Type}(A B:α->D)(q:α->D)(xs:List α)(h:mi ρ=.ok (xs.map fun x=>PyData.tuple [A x,B x]))(hl:xs.length<=1000)
  (hf:∀x∈xs,me (cEnv2 ρ js (A x) (B x))=.ok (q x)):eComp2 mi tYes me js ρ=.ok (.list (xs.map q)):=by
 rw[xR6 A B (fun _=>true) q xs h hl (fun _ _=>rfl) (fun x hx _=>hf x hx),CF.mpr fun _ _=>rfl]
end L2.L3
namespace L2.L3
open PySem PyProof.Rows
variable [CN]
section
variable {X:Cx}
end
def revL:D->Option D
 | .list ds=>some (.list ds.reverse)
 | _=>none
def eRevL(m:Ev->Res D):Ev->Res D:=fun ρ=>(m ρ).bind fun d=>Res.lft (revL d)
theorem xD9(m:Ev->Res D)(ρ:Ev):eRevL m ρ=(m ρ).bind fun d=>Res.lft (revL d):=rfl
end L2.L3
namespace HT
open PySem PyProof.Rows
section
variable {prog:Program}{w:World}{A:Around}{E:Value->Shared->Prop}{s:Shared}
theorem xD4{t b:Addr}{ws:List Value}{Q:Value->Shared->Prop}(ht:IsTup s.heap t ([]:List Value).toArray)(hb:IsTup s.heap b ws.toArray)(h:Q (.ref b) s):wpAny (model prog w) A (binaryOp .Add (.ref t) (.ref b)) Q E s:=by
 obtain⟨⟨cls,dd,data,sl⟩,ho,hc,n,hd⟩:=id ht
 obtain⟨⟨cls2,dd2,data2,sl2⟩,ho2,hc2,n2,hd2⟩:=id hb
 simp only at hc hd hc2 hd2
 subst hc hd hc2 hd2
 exact concat_meets ⟨_,ho,rfl⟩ ⟨_,ho2,rfl⟩ noFill_tuple_add seq_tuple_add Dt Dn (Dg _ _)
  (tuple_addW0 t b ([]:List Value).toArray ws.toArray n n2 dd dd2 sl sl2 (by simp)) ⟨ho,ho2,h⟩
end
end HT
namespace L2.L3
open PySem PyProof.Rows
variable [CN]
section
variable {X:Cx}
def rCatU(K:KFr):R2:=fun x y H Q=>∃a b xs ys,x=.ref a/\y=.ref b/\SqT K H a xs/\SqT K H b ys/\xs.length+ys.length<=sizeLine /\
 (xs=[]->Q (.ref b) H)/\(xs ≠ []->ys=[]->Q (.ref a) H)/\(xs ≠ []->ys ≠ []->∀p,H p=none->Q (.ref p) (upd H p (.tup (xs++ys))))
theorem wU1:OpR X (binaryOp .Add) (rCatU X.K):=by
 intro Ec s σ H x y v u Q I rx ry h
 obtain⟨a,b,xs,ys,rfl,rfl,ha,hb,hz,q0,q1,q2⟩:=h
 by_cases hx:xs=[]
 ·cases rx
  cases ry
  obtain⟨its,r1,p1,_⟩:=I.tuple ha
  obtain⟨its2,r2,p2,_⟩:=I.tuple hb
  subst hx
  cases r1
  exact HT.xD4 p1 p2 ⟨.ref b,H,I,rfl,q0 rfl⟩
 ·exact wX4 Ec s σ H _ _ v u Q I rx ry ⟨a,b,xs,ys,rfl,rfl,ha,hb,hx,hz,q1 hx,q2 hx⟩
end
end L2.L3
namespace L2.L3
open PySem PySem.Spec PyProof.Rows
variable [CN]
def popV(ys:List D):D->Option (D×List D)
 | .int i=>if 0<=i/\i<ys.length/\i<2 ^ 63 then some (ys.getD i.toNat .none,ys.eraseIdx i.toNat) else none
 | _=>none
def sAP(i j:Nat)(me:Ev->Res D):Ev->Res Out:=fun ρ=>(eV i ρ).bind fun d=>(Res.lft (lstD d)).bind fun xs=>(eV j ρ).bind fun d2=>(Res.lft (lstD d2)).bind fun ys=>(me ρ).bind fun n=>(Res.lft (popV ys n)).bind fun vy=>(Res.lft (appD xs [vy.1])).bind fun zs=>.ok (.nx ((ρ.set j (some (.list vy.2))).set i (some (.list zs))))
theorem wN7(i j:Nat)(me:Ev->Res D)(ρ:Ev):sAP i j me ρ=(eV i ρ).bind fun d=>(Res.lft (lstD d)).bind fun xs=>(eV j ρ).bind fun d2=>(Res.lft (lstD d2)).bind fun ys=>(me ρ).bind fun n=>(Res.lft (popV ys n)).bind fun vy=>(Res.lft (appD xs [vy.1])).bind fun zs=>.ok (.nx ((ρ.set j (some (.list vy.2))).set i (some (.list zs)))):=rfl
theorem xQ3{C:Ct}{fr:Bool}{pos:Pos}(i j:Nat){x y:Str}{e:Expr}{me:Ev->Res D}{p1 p2 a1 a2 c1 c2:Pos}(he:RE C .cl e me)
  (hN:autoParam (C.X.N[i]?=some x) Eb) (ho:autoParam (C.om.contains i=true) Eb) (hv:autoParam (Vis C.X.env.scope x) DY) (hd:autoParam ((x == ("__debug__":Str))=false) Ea) (hcd:autoParam ((x == ("__classdict__":Str))=false) Ea)
  (kN:autoParam (C.X.N[j]?=some y) Eb) (ko:autoParam (C.om.contains j=true) Eb) (kv:autoParam (Vis C.X.env.scope y) DY) (kd:autoParam ((y == ("__debug__":Str))=false) Ea) (kcd:autoParam ((y == ("__classdict__":Str))=false) Ea)
  (hij:autoParam (j≠i) Ea)
  (kbase:autoParam (attributeBase (.Name y p2) "pop" C.X.env (eval (.Name y p2) C.X.env)=eval (.Name y p2) C.X.env) Eb)
  (kfew:autoParam (((backTo c2 (starEach [e] C.X.env)).all (fun x=>!x.1)&&(backToKw c2 (keywordEach [] C.X.env)).all (fun x=>x.1.isSome)&&decide ([e].length+([]:List Keyword).length+(if ([]:List Keyword).isEmpty then 0 else 1)<30))=true) Eb)
  (kline:autoParam ((a2.endLine == c2.line)=true) Eb) (ks:autoParam (starEach [e] C.X.env=(false,eval e C.X.env)::starEach [] C.X.env) Eb) (kplain:autoParam ((backTo c2 (starEach [] C.X.env)).any (·.1)=false) Eb)
  (hbase:autoParam (attributeBase (.Name x p1) "append" C.X.env (eval (.Name x p1) C.X.env)=eval (.Name x p1) C.X.env) Eb)
  (hfew:autoParam (((backTo c1 (starEach [.Call (.Attribute (.Name y p2) "pop" a2) [e] [] c2] C.X.env)).all (fun x=>!x.1)&&(backToKw c1 (keywordEach [] C.X.env)).all (fun x=>x.1.isSome)&&decide ([Expr.Call (.Attribute (.Name y p2) "pop" a2) [e] [] c2].length+([]:List Keyword).length+(if ([]:List Keyword).isEmpty then 0 else 1)<30))=true) Eb)
  (hline:autoParam ((a1.endLine == c1.line)=true) Eb) (hs:autoParam (starEach [.Call (.Attribute (.Name y p2) "pop" a2) [e] [] c2] C.X.env=(false,eval (.Call (.Attribute (.Name y p2) "pop" a2) [e] [] c2) C.X.env)::starEach [] C.X.env) Eb) (hplain:autoParam ((backTo c1 (starEach [] C.X.env)).any (·.1)=false) Eb)
  (hsw:autoParam (swapsWith (.Call (.Attribute (.Name x p1) "append" a1) [.Call (.Attribute (.Name y p2) "pop" a2) [e] [] c2] [] c1) none pos.line C.X.env=pure false) Eb) :
  RS C fr (.Expr (.Call (.Attribute (.Name x p1) "append" a1) [.Call (.Attribute (.Name y p2) "pop" a2) [e] [] c2] [] c1) pos) (sAP i j me):=by
 obtain⟨t,p,q⟩:=he
 refine⟨_,dO (zZ3 BP AZ Ba wE (jY hN hv hd hcd) (xO (zZ3 BP PySem.F.slot_list_pop PySem.F.type_list_pop xC1 (jY kN kv kd kcd) (xO p xE ks) kbase kfew kline ks kplain) xE hs) hbase hfew hline hs hplain) hsw,fun Oc Ob σ H ρ E R h => ?_⟩
 obtain⟨d,ed,k⟩:=uO (Res.zT h)
 obtain⟨xd,ex,k⟩:=Res.zF (Res.zT k)
 obtain rfl:=qU ex
 obtain⟨v,qv,l,ys,ds,rfl,e2,e3,e4,e5⟩:=R.own i _ ed (wJ ho)
 cases e2
 obtain⟨d2,ed2,k⟩:=uO (Res.zT k)
 obtain⟨yd,ex2,k⟩:=Res.zF (Res.zT k)
 obtain rfl:=qU ex2
 obtain⟨v2,qv2,l2,zs,es,rfl,f2,f3,f4,f5⟩:=R.own j _ ed2 (wJ ko)
 cases f2
 refine⟨_,qv,.inl ⟨rfl,_,SqL.of e3⟩,_,qv2,.inl ⟨rfl,_,SqL.of f3⟩,q Oc Ob σ H ρ _ R (Res.zQ (Res.zT k) (fun n hn k w H' s r => ?_) fun c z H' s=>z H' (Same.frm s))⟩
 clear hn
 obtain⟨⟨pv,yd'⟩,ep,k⟩:=Res.zF (Res.zT k)
 obtain⟨xd',ea,k⟩:=Res.zF (Res.zT k)
 unfold popV at ep
 split at ep
 ·rename_i m
  split at ep
  ·rename_i hb
   cases ep
   cases r
   have hlen:=f5.length
   have hi:m.toNat<zs.length:=by rfl'
   refine⟨l2,zs,m,m.toNat,zs[m.toNat],rfl,rfl,s _ _ f3,by rfl',hb.2.2,?_,Ae hi,?_⟩
   ·unfold seqIndex?
    simp only[show ¬m<0 by rfl',if_false]
    rw[Ac (by simp;rfl')]
   have f6:=f5.same s
   have R1:=(R.same s).write (wJ ko) ed2 qv2 (s _ _ f3) f4 (f6.erase m.toNat)
   have edi:(ρ.set j (some (.list (yd.eraseIdx m.toNat))))[i]?=some (some (.list xd)):=by rw[AO hij];exact ed
   obtain⟨v',qv',l',ys',ds',rfl,g2,g3,g4,g5⟩:=R1.own i _ edi (wJ ho)
   cases g2
   have el:l'=l:=by
    rw[qv] at qv'
    cases qv'
    rfl
   subst el
   unfold appD at ea
   simp only at ea
   split at ea
   ·rename_i hz
    cases ea
    have rv0:Rep H' (Uni Oc Ob) zs[m.toNat] (yd.getD m.toNat .none):=by
     obtain⟨d',hd',rd'⟩:=f6.of (Ae hi)
     rw[List.getD,hd']
     exact rd'
    have rv:Rep (upd H' l2 (.lst (zs.eraseIdx m.toNat))) (Uni Oc Ob) zs[m.toNat] (yd.getD m.toNat .none):=rv0.keep (fun b o e n=>by rw[zG (fun z=>n (by subst z;exact .inr f4))];exact e) fun _ _ z=>z
    refine⟨l',ys',_,rfl,rfl,g3,by rw[g5.length];exact hz,?_⟩
    refine k _ _ Ob (R1.write (wJ ho) edi qv' g3 g4 (g5.append (.one rv))) (fun b o e n => ?_) fun b z=>.inl z
    rw[zG (fun z=>n (by subst z;exact g4)),zG (fun z=>n (by subst z;exact f4))]
    exact s b o e
   ·cases ea
  ·cases ep
 ·cases ep
section
variable {X:Cx}
theorem zS5{α β:Type}(f:α->β):∀(l:List α) (m:Nat),(l.map f).eraseIdx m=(l.eraseIdx m).map f
 | [],_=>rfl
 | _::_,0=>rfl
 | a::l,m+1=>Bc (f a :: ·) (zS5 f l m)
end
end L2.L3
namespace HT
open PySem PyProof.Rows
section
open PySem.SeqAt
open PySem.AutoSeq1 (wpAny_loadPart')
open PySem.MeetsSeq PySem.MeetsSeq2 PySem.MeetsSeq3
end
section
variable {prog:Program}{w:World}{A:Around}{E:Value->Shared->Prop}{s:Shared}
end
end HT
namespace L2.L3
open PySem PySem.Spec PyProof.Rows
variable [CN]
section
variable {X:Cx}
end
end L2.L3
namespace L2.L3
open PySem PyProof.Rows
variable [CN]
section
variable {X:Cx}
end
end L2.L3
namespace L2.L3
universe u
theorem ls0{α:Type u}{P:List α->Prop}(h:P []):∀us:List α,us.length=0->P us:=fun us e=>by
 rw[CI e]
 exact h
theorem lsS{α:Type u}{P:List α->Prop}{n:Nat}(h:∀a us,us.length=n->P (a::us)):∀us:List α,us.length=n+1->P us:=fun us e=>by
 cases us with
 | nil=>cases e
 | cons a us=>exact h a us (Nat.succ.inj e)
theorem ls1{α:Type u}{P:List α->Prop}(h:∀a,P [a]):∀us:List α,us.length=1->P us:=lsS fun a=>ls0 (h a)
theorem ls2{α:Type u}{P:List α->Prop}(h:∀a b,P [a,b]):∀us:List α,us.length=2->P us:=lsS fun a=>ls1 (h a)
theorem ls3{α:Type u}{P:List α->Prop}(h:∀a b c,P [a,b,c]):∀us:List α,us.length=3->P us:=lsS fun a=>ls2 (h a)
end L2.L3
namespace L2.L3
open PySem PySem.Spec PyProof.Rows
section
variable {M:Model}{A:Around}{E:Value->Shared->Prop}{s:Shared}{B:Heap}{L e:Addr}{cls a0 fl:Value}
theorem xE6{env:Env}{outer:List Env}{Q:Unit->Shared->Prop}(hA:A.frames=some (env::outer))(hF:s.heap.FunFrames B (env::outer))(hf:env.frame=some L)(ht:s.heap.TracedAtW B e cls a0 fl)(hB:B.StaysIn s.heap)(hn:B.get? e=none)
  (k:∀g,Heap.NotedW B (env::outer) e cls a0 (rawInt L) s.heap g->Q () { s with heap:=g }):wpAny M A (noteFrame (.ref e) env) Q E s:=by
 by_cases z:fl=rawInt L
 ·subst z
  exact wpAny_noteFrame_againW hf ht (k s.heap ⟨hB,hF,ht,fun b o q _=>⟨o.slots,q⟩⟩)
 ·obtain⟨oe,vs,T,oT,ts,g1,⟨rfl,g3⟩,g4,g5,g6,g7,g8,g9,g10⟩:=ht
  have sz:=(Array.getElem?_eq_some_iff.mp g10).1
  have n1:(Value.ref T != Value.none)=true:=by simp
  have n2:(fl == rawInt L)=false:=by simpa using z
  have ot:∀b,b≠T->(s.heap.update T (Obj.mapFields (·.setIfInBounds 3 .none))).get? b=s.heap.get? b:=fun b hb=>Ck _ _ (CT hb)
  have nf:∀b o,s.heap.get? b=some o->(∀vs,o.data ≠ .fields vs)->b≠T:=fun b o q hd w=>by
   subst w
   cases g8.symm.trans q
   exact hd ts g9
  unfold noteFrame
  simp only[hf]
  refine Am (wpAny_field g1 g4 g5 ?_)
  simp only[n1,if_true]
  refine Am (wpAny_field g8 g9 g10 ?_)
  simp only[n2,Cu,if_false]
  refine Am (wpAny_setField g8 g9 sz (wpAny_entryW (a0:=a0) (vs:=vs) hA ?_ hf ((ot e g7.symm).trans g1) (fun b o q => ?_) hn g4 (Array.getElem?_eq_some_iff.mp g5).1 g3 fun g hg => ?_))
  ·exact hF.of_keeps fun b o q hd=>⟨o,(ot b (nf b o q hd)).trans q,rfl⟩
  ·have:b≠T:=fun w=>by subst w;rw[g6] at q;cases q
   exact (ot b this).trans (hB b o q)
  ·exact k g ⟨hg.1,hg.2.1,hg.2.2.1,fun b o q hd=>hg.2.2.2 b o ((ot b (nf b o q hd)).trans q) hd⟩
end
variable [CN]
def Raw(B:Heap)(e:Addr)(cls a0:Value)(h:Heap):Prop :=
 (∃fl,h.TracedAtW B e cls a0 fl)\/∃oe vs,h.get? e=some oe/\oe.cls=cls/\oe.data=.fields vs/\vs[1]?=some .none/\vs[0]?=some a0
structure Fl(stk:List Env)(h1:Heap)(H:Hp)(e:Addr)(cls:Value)(B:Heap)(a0:Value)(h:Heap):Prop where
 stays:B.StaysIn h
 newB:B.get? e=none
 frm:h.FunFrames B stk
 raw:Raw B e cls a0 h
 cov:∀b o,h.get? b=some o->b∉frs stk->(h1.get? b≠none\/H b≠none)->B.get? b=some o
def ExcAt(X:Cx)(c:Str)(H:Hp)(e:Value)(s:Shared):Prop :=
 ∃(Ec:List (Addr×Obj)) (σ:St) (s1:Shared) (H1:Hp) (a:Addr) (B:Heap) (a0:Value),Inv X Ec σ H1 s1/\Inv X Ec σ H s/\Un (frs X.stack) [] H1 H s1.heap s.heap/\e=.ref a/\s1.heap.get? a=none/\H a=none/\Fl X.stack s1.heap H a (.ref (CN.ad c)) B a0 s.heap
def CXV(P:Program)(w:World):CXT:=fun outer H s E e s' =>
 ∃(a:Addr) (cls:Value) (B:Heap) (a0:Value) (H':Hp),e=.ref a/\s'.os=s.os/\AllBare s'.gens/\Un (frs outer) [] H H' s.heap s'.heap/\HOk P w H' s'.heap/\s.heap.get? a=none/\H' a=none/\Fl outer s.heap H' a cls B a0 s'.heap/\E cls none H'
theorem zV3{P:Program}{w:World}{H:Hp}{h:Heap}{a:Addr}{o:HO}(x:ObjOk P w H h a o):∃u,h.get? a=some u:=by
 cases o with
 | lst xs=>exact⟨_,x.2.choose_spec.choose_spec.2⟩
 | tup xs=>obtain⟨_,its,_,ob,e,_⟩:=x;exact⟨ob,e⟩
 | dK kvs=>obtain⟨_,_,_,_,ob,_,_,e,_⟩:=x;exact⟨ob,e⟩
 | dT kvs=>obtain⟨_,_,_,_,ob,_,_,e,_⟩:=x;exact⟨ob,e⟩
 | set S n=>obtain⟨ob,_,_,_,e,_⟩:=x;exact⟨ob,e⟩
 | ins C dx fs=>obtain⟨_,_,_,e,_⟩:=x;exact⟨_,e⟩
 | own y=>exact x
 | xd fs=>obtain⟨_,⟨ob,_,_,e,_⟩,_⟩:=x;exact⟨ob,e⟩
 | rng lo hi=>obtain⟨_,_,_,e⟩:=x;exact⟨_,e⟩
 | frz ob u=>exact⟨ob,x.1⟩
 | tbl ps=>exact⟨_,x⟩
 | met f y=>exact⟨_,x⟩
 | ext φ=>exact x.2.1
theorem xL5{P:Program}{w:World}{H:Hp}{h:Heap}{a:Addr}(x:HOk P w H h)(n:H a≠none):∃u,h.get? a=some u:=by
 cases e:H a with
 | none=>exact absurd e n
 | some o=>exact zV3 (x a o e)
theorem zA2{α:Type}{o:Option α}(h:o≠none):∃x,o=some x:=by
 cases o with
 | none=>exact absurd rfl h
 | some x=>exact⟨x,rfl⟩
theorem zC9{α:Type}{o:Option α}{x:α}(h:o=some x):o≠none:=by
 rw[h];exact fun z=>nomatch z
theorem xL1{X:Cx}{c:Str}{H:Hp}{e:Value}{s:Shared}{E:XK}{E2:Value->Shared->Prop}(x:ExcAt X c H e s)(hst:X.stack=X.env::X.outer)(hfr:X.env.frame=some X.env.locals)(hex:X.ex=[])(hE:E (.ref (CN.ad c)) none H) :
  wpAny (model X.prog X.w) X.A (leaving X.env e) (fun _ s''=>CXV X.prog X.w X.outer X.H₀ X.s₀ E e s'') E2 s:=by
 obtain⟨Ec,σ,s1,H1,a,B,a0,I1,I,un,rfl,n1,n2,f⟩:=x
 have noex:∀b:Addr,b∉X.ex:=fun b z=>by rw[hex] at z;cases z
 have hfs:frs X.stack=X.env.locals::X.fs:=by
  rw[hst]
  show List.filterMap _ _=_
  rw[De,hfr]
  rfl
 have hfrm:s.heap.FunFrames B (X.env::X.outer):=by rw[<-hst];exact f.frm
 have hA:X.A.frames=some (X.env::X.outer):=by rw[<-hst];exact I.ok.frames
 have oldL:∀b o,X.s₀.heap.get? b=some o->b≠X.env.locals:=fun b o q z=>by
  subst z
  exact absurd (As q) (DD.mpr I.ok.above)
 have old1:∀b o,X.s₀.heap.get? b=some o->s1.heap.get? b≠none:=fun b o q=>let ⟨_,e⟩:=I1.base.there b o q (noex b);zC9 e
 have key:∀h',Heap.LeftW B (X.env::X.outer) a (.ref (CN.ad c)) a0 s.heap h'->CXV X.prog X.w X.outer X.H₀ X.s₀ E (.ref a) { s with heap:=h' }:=by
  rintro h' ⟨k1,k2,k3,k4⟩
  have kp:∀b o,s.heap.get? b=some o->b∉frs X.stack->(s1.heap.get? b≠none\/H b≠none)->h'.get? b=some o:=fun b o q n z=>k1 b o (f.cov b o q n z)
  have out:∀b,b∉X.fs->b≠X.env.locals->b∉frs X.stack:=fun b n1 n2 z=>by
   rw[hfs] at z
   rcases AM.mp z with z | z
   ·exact n2 z
   ·exact n1 z
  have trk:∀b,H b≠none->b∉frs X.stack:=fun b n z=>n (I.stkFree b z)
  refine⟨a,_,B,a0,H,rfl,I.os,I.bare,⟨fun b o q n hb hx => ?_,fun b o q n hb hx => ?_,fun b o q n hx=>I.base.free b o q n (noex b),fun b o q hx => ?_,I.base.tups,I.base.frzs,I.base.tbls⟩,fun b o q => ?_,?_,n2,⟨k1,f.newB,k2.2.2,.inl ⟨_,k3.at⟩,fun b o q n z => ?_⟩,hE⟩
  ·exact kp b o (I.base.keep b o q n hb (noex b)) (out b hb (oldL b o q)) (.inl (old1 b o q))
  ·obtain⟨sl,e⟩:=I.base.slot b o q n hb (noex b)
   obtain⟨_,o',e',nf⟩:=f.frm.mem (b:=b) (by show b∈frs X.stack;rw[hfs];exact Aj _ hb)
   rw[e] at e'
   cases e'
   obtain⟨sl',e2⟩:=k4 b _ e nf
   exact⟨sl',e2⟩
  ·by_cases hb:b∈frs X.stack
   ·obtain⟨_,o',e',_⟩:=k2.mem (b:=b) (by rw[hst] at hb;exact hb)
    exact⟨o',e'⟩
   ·obtain⟨o',e'⟩:=I.base.there b o q (noex b)
    exact⟨o',kp b o' e' hb (.inl (old1 b o q))⟩
  ·refine (I.hok b o q).stay (fun b' u hb' e => ?_) (fun _ z=>z) fun _ _ z=>z
   have n:H b'≠none:=by
    rcases hb' with rfl | hb'
    ·exact zC9 q
    ·exact zC9 hb'
   exact kp b' u e (trk b' n) (.inr n)
  ·cases q:X.s₀.heap.get? a with
   | none=>rfl
   | some o=>exact absurd n1 (old1 a o q)
  ·have nL:b≠X.env.locals:=by
    rcases z with z | z
    ·obtain⟨o',q'⟩:=zA2 z
     exact oldL b o' q'
    ·intro y
     subst y
     exact z I.free
   have ns:b∉frs X.stack:=out b n nL
   obtain⟨o2,q2⟩:∃o2,s.heap.get? b=some o2:=by
    rcases z with z | z
    ·obtain⟨o',q'⟩:=zA2 z
     exact I.base.there b o' q' (noex b)
    ·exact xL5 I.hok z
   have z':s1.heap.get? b≠none\/H b≠none:=by
    rcases z with z | z
    ·obtain⟨o',q'⟩:=zA2 z
     exact .inl (old1 b o' q')
    ·exact .inr z
   have hB:=f.cov b o2 q2 ns z'
   have q3:=k1 b o2 hB
   have q4:h'.get? b=some o:=q
   rw[q3] at q4
   cases q4
   exact hB
 rcases f.raw with t | ⟨oe,vs,he,hc,hd,h1,h0⟩
 ·obtain⟨fl,t⟩:=t
  unfold leaving
  refine Am (xE6 hA hfrm hfr t f.stays f.newB fun g ⟨x1,x2,x3,x4⟩ => ?_)
  exact wpAny_landsW (s:={ s with heap:=g }) ⟨x1,f.newB,x2,x3⟩ fun g2 fly ups=>key g2 ⟨fly.1,fly.2.2.1,fly.2.2.2,Heap.UpToSlots.trans x4 ups⟩
 ·rw[<-hc] at key
  exact wpAny_leaving_firstW hA hfrm hfr he f.stays f.newB hd h1 h0 key
def Br(C:Ct):Prop:=∀(c:Str) (H:Hp) (e:Value) (s:Shared),ExcAt C.X c H e s->C.XE c H->C.X.xe e s
theorem fD{C:Ct}(h:∀c H,C.XE c H->False):Br C:=fun c H _ _ _ z=>(h c H z).elim
def wX(C:Ct):XK:=fun v _ H=>∃c,v=.ref (CN.ad c)/\C.XE c H
theorem passX{C:Ct}(hb:Br C):Passes (CXV C.X.prog C.X.w) C.X (wX C):=by
 intro Ec σ H s e s' I h
 obtain⟨a,cls,B,a0,H',rfl,os,bare,un,hok,n1,n2,f,c,rfl,z⟩:=h
 exact hb c H' _ s' ⟨Ec,σ,s,H,a,B,a0,I,I.call' os un hok bare (fun b z=>by cases z),un,rfl,n1,n2,f⟩ z
def spX(fr:Bool)(F:List D->Res D):Sp:=fun vs H Q E=>∃(ds:List D) (O:Addr->Prop),(∀a,O a->H a≠none)/\Reps H O vs ds/\(F ds).post (fun d=>∀v H',Same H H'->CallOk fr O H H' v d->Q v H') (fun c=>∀H',Same H H'->E (.ref (CN.ad c)) none H')
section
variable {P:Program}{w:World}{K:KFr}{mg:Str->Option Value}{base:Heap}
abbrev bodyX(P:Program)(w:World)(K:KFr)(mg:Str->Option Value)(base:Heap)(N:List Str)(x:Str)(sc:Scope)(f:Addr)(cdv:Value)(A:Around)(outer:List Env)(s:Shared)(H:Hp)(E:XK)(om:List Nat):Ct :=
 ⟨cxOf (CXV P w) P w K mg base N x sc f cdv A outer s H E,fun c H'=>E (.ref (CN.ad c)) none H',om,[]⟩
theorem zN{N:List Str}{x:Str}{sc:Scope}{f:Addr}{cdv:Value}{A:Around}{outer:List Env}{s:Shared}{H:Hp}{E:XK}{om:List Nat}:Br (bodyX P w K mg base N x sc f cdv A outer s H E om) :=
 fun c H' e s' x h=>xL1 x rfl rfl rfl h
theorem zC{x:Str}{st:Stmt}{f:Addr}{fd:FuncData}{N ps:List Str}{k:Nat}{m:Ev->Res Out}{fr:Bool}(om:List Nat)(F:Fun K x x st f fd)(S:zH N ps (zP st))
  (hbody:∀(cdv:Value) (A:Around) (outer:List Env) (s:Shared) (H:Hp) (E:XK),Room k (A.deeper (envOfC x (zP st) s.heap.objs.size f cdv))->RSs (bodyX P w K mg base N x (zP st) f cdv A outer s H E om) fr (defBody st) m)
  (hom:autoParam (om.all (fun i=>decide (ps.length<=i))=true) Eb) :
  FnOk P w K mg base (CXV P w) (k+1) f fd ps (spX fr (runF fr ps.length N.length m)):=by
 have len:∀(vs:List V) (H:Hp) (Q:VK) (E:XK),spX fr (runF fr ps.length N.length m) vs H Q E->vs.length=ps.length:=fun vs H Q E h=>by
  obtain⟨ds,O,oh,r,k⟩:=h
  unfold runF at k
  split at k
  ·rename_i hl
   rw[r.length];exact hl
  ·exact k.elim
 obtain⟨oc,od,kV,doc,pm,an,cdv,ct,osl,rfl,lk,hcd⟩:=F.ex
 refine xW3 lk hcd S len fun A outer s H vs Q E hr h => ?_
 have hvl:=len vs H Q E h
 obtain⟨ds,O,oh,r,k⟩:=h
 have hl:ds.length=ps.length:=by rw[<-r.length];exact hvl
 unfold runF at k
 rw[Ac hl] at k
 obtain⟨t,p,q⟩:=hbody cdv A outer s H E hr
 refine⟨t,p,q ⟨O,fun _=>0⟩ (fun _=>False) _ H (ds.map some++List.replicate (N.length-ps.length) none) _ ?_ ?_⟩
 ·refine⟨?_,fun i d e _ _ => ?_,fun i d e ho => ?_,fun i d e _ hl=>(nomatch hl),fun i j di dj a ei _ ho _ _ _ => ?_,fun a z=>oh a (z.elim id fun z=>z.elim),fun a z=>z.elim⟩
  ·unfold start
   rw[An,An,Aa,Aa,BL,BL,hvl,hl]
  ·obtain⟨v,ev,rv⟩:=r.get (zV7 e)
   exact⟨v,xG2 ev,rv.less fun b z=>z.elim id fun z=>z.elim⟩
  ·have h1:=(Au.mp (zV7 e)).1
   have h2:ps.length<=i:=of_decide_eq_true (Bv.mp hom i ho)
   rfl'
  ·have h1:=(Au.mp (zV7 ei)).1
   have h2:ps.length<=i:=of_decide_eq_true (Bv.mp hom i ho)
   rfl'
 ·have same:∀{H':Hp},Frm (fun _=>False) H H'->Same H H':=fun f b o e=>f b o e fun z=>z
  refine Res.zQ (Res.zT k) (fun o _ k => ?_) fun c z H' f=>z H' (same f)
  cases o with
  | rt d =>
   intro v H' f rt
   refine k v H' (same f) ?_
   cases fr with
   | false=>exact rt
   | true =>
    obtain⟨a,ys,ds,e1,e2,e3,e4,e5,e6⟩:=rt
    exact⟨a,ys,ds,e1,e2,e3.elim id fun z=>z.elim,e5,e6⟩
  | nx ρ' =>
   cases fr with
   | true=>exact k.elim
   | false=>exact fun σ' H' Ob' R f s=>k .non H' (same f) Rep.non
end
theorem yO6{C:Ct}{k:Nat}{f:Addr}{fd:FuncData}{ps:List Str}{fr:Bool}{F:List D->Res D}{x:Str}{p pos:Pos}{e:Expr}{es:List Expr}{ms:Ev->Res (List D)}{st:Stmt}(G:FnOk C.X.prog C.X.w C.X.K C.X.mg C.X.base (CXV C.X.prog C.X.w) k f fd ps (spX fr F))(hh:Has C.X.K C.X.mg x st f fd ps)(hr:Room k C.X.A)
  (hb:Br C) (ha:RArg C true (e::es) ms) (hg:autoParam (Gl C.X x) Eb) (hdb:autoParam ((x == ("__debug__":Str))=false) Ea) (he:autoParam (starEach (e::es) C.X.env=(false,eval e C.X.env)::starEach es C.X.env) Eb) (hpl:autoParam ((backTo pos (starEach es C.X.env)).any (·.1)=false) Eb) :
  RE C (mdF fr) (.Call (.Name x p) (e::es) [] pos) (eF F ms):=by
 obtain⟨t,pa,q⟩:=ha
 refine⟨_,yB8 G hr hg hh.m hh.F.kp hh.b .nil (passX hb) pa hdb he hpl,fun Oc Ob σ H ρ Q R h => ?_⟩
 refine q Oc Ob σ H ρ _ R (Res.zQ (Res.zT h) (fun ds _ k vs H1 s1 r => ?_) fun c z=>z)
 show spX fr F (vs ++ []) H1 Q (wX C)
 rw[BC]
 refine⟨ds,Uni Oc Ob,(R.same s1).oh,r,Res.zQ k (fun d _ k v H' s2 rv => ?_) fun c z H' s2=>⟨c,rfl,z H' (s1.trans s2)⟩⟩
 refine k v H' (s1.trans s2) ?_
 cases fr with
 | false=>exact rv
 | true =>
  obtain⟨a,ys,ds,e1,e2,e3,e4,e5⟩:=rv
  exact⟨a,ys,ds,e1,e2,s1.free e3,e4,e5⟩
theorem xP6{C:Ct}{k:Nat}{f:Addr}{fd:FuncData}{ps:List Str}{fr:Bool}{F:List D->Res D}{x:Str}{p pos:Pos}{e:Expr}{es:List Expr}{ms:Ev->Res (List D)}{st:Stmt}(G:FnOk C.X.prog C.X.w C.X.K C.X.mg C.X.base (CXV C.X.prog C.X.w) k f fd ps (spX fr F))(hh:Has C.X.K C.X.mg x st f fd ps)(hr:Room k C.X.A)
  (hb:Br C) (ha:RArg C false (e::es) ms) (hg:autoParam (Gl C.X x) Eb) (hdb:autoParam ((x == ("__debug__":Str))=false) Ea) (he:autoParam (starEach (e::es) C.X.env=(false,eval e C.X.env)::starEach es C.X.env) Eb) (hpl:autoParam ((backTo pos (starEach es C.X.env)).any (·.1)=false) Eb) :
  RE C (mdF fr) (.Call (.Name x p) (e::es) [] pos) (eFA fr F ms):=by
 obtain⟨t,pa,q⟩:=ha
 refine⟨_,yB8 G hr hg hh.m hh.F.kp hh.b .nil (passX hb) pa hdb he hpl,fun Oc Ob σ H ρ Q R h => ?_⟩
 refine q Oc Ob σ H ρ _ R (Res.zQ (Res.zT h) (fun ds _ k vs H1 s1 r => ?_) fun c z=>z)
 show spX fr F (vs ++ []) H1 Q (wX C)
 rw[BC]
 refine⟨ds,fun b=>Uni Oc Ob b/\¬∃ys,H1 b=some (.lst ys),fun a z=>(R.same s1).oh a z.1,VAs.lent r,Res.zQ (Res.zT k) (fun d _ k v H' s2 rv => ?_) fun c z H' s2=>⟨c,rfl,z H' (s1.trans s2)⟩⟩
 have hB:∀b,(∃ys,H1 b=some (.lst ys))->∃ys,H' b=some (.lst ys):=fun b ⟨ys,e⟩=>⟨ys,s2 _ _ e⟩
 by_cases hl:lfT fr d=true
 ·rw[Ac hl] at k
  refine k v H' (s1.trans s2) ?_
  cases fr with
  | false=>exact Rep.lf hB rv (by cases d <;> exact hl)
  | true =>
   obtain⟨a,ys,ds,e1,rfl,e3,e4,e5⟩:=rv
   have e5':Reps H' (fun b=>(Uni Oc Ob b\/b=a)/\¬∃ys,H1 b=some (.lst ys)) ys ds:=e5.less fun b z=>z.1.elim (fun q=>.inl ⟨q,z.2⟩) .inr
   exact⟨a,ys,ds,e1,rfl,s1.free e3,e4,Reps.lf hB e5' hl⟩
 ·rw[Ah hl] at k
  exact k.elim
section
variable {C:Ct}{k:Nat}{f:Addr}{fd:FuncData}{ps:List Str}{F:List D->Res D}{x:Str}{p pos:Pos}{e:Expr}{es:List Expr}{ms:Ev->Res (List D)}{st:Stmt}
theorem zO(G:FnOk C.X.prog C.X.w C.X.K C.X.mg C.X.base (CXV C.X.prog C.X.w) k f fd ps (spX false F))(hh:Has C.X.K C.X.mg x st f fd ps)(hr:Room k C.X.A)
  (hb:Br C) (ha:RArg C true (e::es) ms) (hg:autoParam (Gl C.X x) Eb) (hdb:autoParam ((x == ("__debug__":Str))=false) Ea) (he:autoParam (starEach (e::es) C.X.env=(false,eval e C.X.env)::starEach es C.X.env) Eb) (hpl:autoParam ((backTo pos (starEach es C.X.env)).any (·.1)=false) Eb) :
  RE C .cl (.Call (.Name x p) (e::es) [] pos) (eF F ms):=yO6 (fr:=false) G hh hr hb ha hg hdb he hpl
theorem vM(G:FnOk C.X.prog C.X.w C.X.K C.X.mg C.X.base (CXV C.X.prog C.X.w) k f fd ps (spX true F))(hh:Has C.X.K C.X.mg x st f fd ps)(hr:Room k C.X.A)
  (hb:Br C) (ha:RArg C true (e::es) ms) (hg:autoParam (Gl C.X x) Eb) (hdb:autoParam ((x == ("__debug__":Str))=false) Ea) (he:autoParam (starEach (e::es) C.X.env=(false,eval e C.X.env)::starEach es C.X.env) Eb) (hpl:autoParam ((backTo pos (starEach es C.X.env)).any (·.1)=false) Eb) :
  RE C .new (.Call (.Name x p) (e::es) [] pos) (eF F ms):=yO6 (fr:=true) G hh hr hb ha hg hdb he hpl
theorem zH4(G:FnOk C.X.prog C.X.w C.X.K C.X.mg C.X.base (CXV C.X.prog C.X.w) k f fd ps (spX false F))(hh:Has C.X.K C.X.mg x st f fd ps)(hr:Room k C.X.A)
  (hb:Br C) (ha:RArg C false (e::es) ms) (hg:autoParam (Gl C.X x) Eb) (hdb:autoParam ((x == ("__debug__":Str))=false) Ea) (he:autoParam (starEach (e::es) C.X.env=(false,eval e C.X.env)::starEach es C.X.env) Eb) (hpl:autoParam ((backTo pos (starEach es C.X.env)).any (·.1)=false) Eb) :
  RE C .cl (.Call (.Name x p) (e::es) [] pos) (eFA false F ms):=xP6 (fr:=false) G hh hr hb ha hg hdb he hpl
end
end L2.L3
namespace L2
open PySem PySem.Spec PyProof.Rows
section
variable {X:Cx}{Ec:List (Addr×Obj)}{σ:St}{H:Hp}{s:Shared}
end
end L2
namespace L2.L3
open PySem PySem.Spec PyProof.Rows
variable [CN]
abbrev bmV:List Value:=[.type "ValueError",.type "Exception",.type "BaseException",.type "object"]
def OwnX(K:KFr)(x:Str):Prop:=PySem.W.excIn K (CN.ad x) bmV "ValueError.__new__" = true
theorem wU8{K:KFr}{h:Heap}{A:Addr}{bmB:List Value}{nid:String}(X:K.In h)(q:PySem.W.excIn K A bmB nid=true) :
  ∃(tl:List Value) (N:Addr) (nm qn:Str) (bs:List Value) (hd:Bool) (sn:List Str) (sb:List Value) (ab:Bool) (co:Option Bool) (dd:Option Addr) (k0 k1 k2 k3 k5:Option Value) (mN:Str->Option Value),
   h.get? A=some (excClassObj nm qn A N bs tl hd sn sb ab co dd k0 k1 k2 k3 k5 nid)/\h.Ns N mN/\mN "__init__" = none/\OwnTail h bmB tl:=by
 revert q
 rw[PySem.W.excIn]
 split
 case h_2=>exact fun q=>nomatch q
 case h_1 dd cd sl lk =>
  split
  case h_2=>exact fun q=>nomatch q
  case h_1 A' tl j0 j1 j2 j3 nn j5 em es =>
   intro q
   rw[AV,AV,AV,AV,AV] at q
   have q6:=q.2
   have q5:=q.1.2
   have q4:=q.1.1.2
   have q3:=q.1.1.1.2
   have q2:=eq_of_beq q.1.1.1.1.2
   have q1:=eq_of_beq q.1.1.1.1.1
   cases cd
   cases sl
   simp only at em es q3 q5 q6
   subst em es q1 q2
   simp only[Bool.not_eq_true'] at q3
   subst q3
   exact⟨_,_,_,_,_,_,_,_,_,_,_,_,_,_,_,_,_,X _ _ lk,.of_isNs (PySem.W.isNs_of_in X q5),PySem.W.nsMap_none_of_in X q5 (eq_of_beq q6),PySem.W.tail_of_in X q4⟩
theorem xC4{X:Cx}{Ec:List (Addr×Obj)}{σ:St}{H:Hp}{s:Shared}{c:Str}{h':Heap}{e:Addr}{args:List Value}(I:Inv X Ec σ H s)(m:Heap.MadeExcOf s.heap h' e (.ref (CN.ad c)) args):ExcAt X c H (.ref e) { s with heap:=h' }:=by
 obtain⟨t,he,_,_⟩:=m.there
 have I2:Inv X Ec σ H { s with heap:=h',toks:=s.toks }:=I.kept m.keeps
 have n:H e=none:=by
  cases q:H e with
  | none=>rfl
  | some o =>
   obtain⟨u,z⟩:=zV3 (I.hok e o q)
   rw[m.new] at z
   cases z
 refine⟨Ec,σ,s,H,e,PySem.W.hideAll h' (e::frs X.stack),.ref t,I,I2,Un.kept m.keeps,rfl,m.new,n,fun b o q=>PySem.W.of_hideAll _ q,PySem.W.hideAll_none _ (.head _),PySem.W.funFrames_hide I2.stack fun env he a ha=>Aj _ (DP.mpr ⟨env,he,ha⟩),.inr ⟨_,_,he,rfl,rfl,rfl,rfl⟩,fun b o q nb z=>PySem.W.hideAll_get _ q fun hb => ?_⟩
 rcases AM.mp hb with rfl | hb
 ·rcases z with z | z
  ·exact z m.new
  ·exact z n
 ·exact nb hb
def sRa(c:Str)(m:Ev->Res (List D)):Ev->Res Out:=fun ρ=>(m ρ).bind fun ds=>if ds.length<=sizeLine then .ex c else .no
theorem vI{C:Ct}{fr:Bool}{x:Str}{np cpos pos:Pos}{e:Expr}{es:List Expr}{ms:Ev->Res (List D)}(hb:Br C)(ho:OwnX C.X.K x)(hm:C.X.mg x=some (.ref (CN.ad x)))(ha:RArg C false (e::es) ms)(hc:autoParam (C.X.calm=true) Eb)(hg:autoParam (Gl C.X x) Eb)(hdb:autoParam ((x == ("__debug__":Str))=false) Ea)
  (he:autoParam (starEach (e::es) C.X.env=(false,eval e C.X.env)::starEach es C.X.env) Eb) (hpl:autoParam ((backTo cpos (starEach es C.X.env)).any (·.1)=false) Eb) :
  RS C fr (.Raise (some (.Call (.Name x np) (e::es) [] cpos)) none pos) (sRa x ms):=by
 obtain⟨t,pa,q⟩:=ha
 refine⟨fun _ σ H=>t σ H fun vs H1=>vs.length<=sizeLine/\C.XE x H1,fun Ec s σ H D I h => ?_,fun Oc Ob σ H ρ E R h=>q Oc Ob σ H ρ _ R (Res.zQ (Res.zT h) (fun ds _ k vs H' s r => ?_) fun c z H' s=>z H' (Same.frm s))⟩
 ·obtain⟨tl,N,nm,qn,bs,hd,sn,sb,ab,co,dd,k0,k1,k2,k3,k5,mN,hC,hN,hni,T⟩:=wU8 I.mod.kin ho
  refine wpAny_Raise_call_subT (C:=CN.ad x) (nm:=nm) (q:=qn) (N:=N) (bs:=bs) (bm:=tl) (hdct:=hd) (sn:=sn) (sub:=sb) (ab:=ab) (col:=co) (dd:=dd) (k0:=k0) (k1:=k1) (k2:=k2) (k3:=k3) (k5:=k5) PySem.F.excBase_ValueError (mN:=mN) (T.hasType PySem.F.excBase_ValueError.hasBase) (I.ok.hd hc)
   (by rw[he];show (false || (backTo cpos (starEach es C.X.env)).any (·.1))=false;rw[hpl];rfl) hni (zB2 I hg hm ⟨rfl,?_⟩ hdb)
  have h2:=pa cpos Ec s σ H _ I h
  rw[he] at h2 ⊢
  refine DH (wpAny_mono h2 (fun us s2 ⟨vs,H2,I2,r,hl,z⟩ => ?_) fun _ _ y=>y)
  exact⟨rfl,by rw[<-r.length];exact hl,I2.bk _ _ hC,hN.keeps I2.bk,T.keeps I2.bk,fun h' a m=>hb x H2 _ _ (xC4 I2 m) z⟩
 ·by_cases hl:ds.length<=sizeLine
  ·rw[Ac hl] at k
   exact⟨by rw[(VAs.rep r).length];exact hl,k H' (Same.frm s)⟩
  ·rw[Ah hl] at k
   exact k.elim
end L2.L3
namespace PySem
section
variable {prog:Program}{w:World}{A:Around}{E:Value->Shared->Prop}{h:Heap}{g:Array GenState}{d:Drawn}{t:Nat}{os:OsState}{a C:Addr}{o:Obj}{K:KFr}
structure ExK(K:KFr)(C:Addr):Prop where
 ga:PySem.W.findIn K (.ref C) "__getattribute__" = some (some (.builtin "BaseException.__getattribute__"))
 gn:PySem.W.findIn K (.ref C) "__getattr__" = some none
 cl:PySem.W.findIn K (.ref C) "__class__" = some (some (.builtin "object.__class__"))
 sb:PySem.W.subIn K (.ref C) (.type "BaseException")=some true
 so:PySem.W.subIn K (.ref C) (.type "object")=some true
 ci:(PySem.W.clsIn K C).isSome=true
variable {dd:Option Addr}{dt:Data}{sl:Array (Option Value)}{x:Shared}
end
end PySem
namespace L2.L3
open PySem PySem.Spec PyProof.Rows
variable [CN]
abbrev inTry(X:Cx)(pn:List (Addr×Obj))(xe:Value->Shared->Prop):Cx:={ X with pn:=pn,xe:=xe }
theorem Inv.toTry{X:Cx}{Ec:List (Addr×Obj)}{σ:St}{H:Hp}{s:Shared}(I:Inv X Ec σ H s)(xe:Value->Shared->Prop):Inv (inTry X (X.pn++Ec) xe) [] σ H s :=
 ⟨⟨I.ok.mod,I.ok.kind,I.ok.glob,I.ok.blt,I.ok.above,I.ok.inj,I.ok.has,I.ok.cab,I.ok.hd,I.ok.frames,I.ok.stk,I.ok.exf,I.ok.bs,I.ok.bsz,I.ok.noex,I.ok.exfs,I.ok.funs,I.ok.frf⟩,I.os,I.bare,I.base,I.loc,I.cell,I.free,I.freeC,fun p hp=>I.pin p (by simpa using hp),I.hok,I.len⟩
theorem Inv.ofTry{X:Cx}{Ec pins':List (Addr×Obj)}{σ:St}{H:Hp}{s:Shared}{xe:Value->Shared->Prop}(I:Inv (inTry X (X.pn++Ec) xe) pins' σ H s):Inv X Ec σ H s :=
 ⟨⟨I.ok.mod,I.ok.kind,I.ok.glob,I.ok.blt,I.ok.above,I.ok.inj,I.ok.has,I.ok.cab,I.ok.hd,I.ok.frames,I.ok.stk,I.ok.exf,I.ok.bs,I.ok.bsz,I.ok.noex,I.ok.exfs,I.ok.funs,I.ok.frf⟩,I.os,I.bare,I.base,I.loc,I.cell,I.free,I.freeC,fun p hp=>I.pin p (Bb _ hp),I.hok,I.len⟩
theorem SP.ofTry{X:Cx}{Ec pins':List (Addr×Obj)}{xe:Value->Shared->Prop}{D:Ends}{f:Flow}{s':Shared}(h:SP (inTry X (X.pn++Ec) xe) pins' D f s'):SP X Ec D f s':=by
 cases f with
 | next=>obtain⟨σ',H',I,q⟩:=h;exact⟨σ',H',Inv.ofTry I,q⟩
 | brk=>obtain⟨σ',H',I,q⟩:=h;exact⟨σ',H',Inv.ofTry I,q⟩
 | cont=>obtain⟨σ',H',I,q⟩:=h;exact⟨σ',H',Inv.ofTry I,q⟩
 | ret u=>obtain⟨v,σ',H',I,r,q⟩:=h;exact⟨v,σ',H',Inv.ofTry I,r,q⟩
section
variable {C:Ct}{e:Expr}{x:Str}{p p2 p3 pos:Pos}{md:Md}{me:Ev->Res D}
end
end L2.L3
namespace L2.L3
open PySem PySem.Spec PyProof.Rows
theorem xR5{K:KFr}{t c:Value}{v:Bool}(h:PySem.W.kitOne K t c=some v)(n:(t == c)=false):PySem.W.kitCls K t c=some v:=by
 rw[PySem.W.kitOne,Ah (by rw[n];decide)] at h
 exact h
theorem uN{K:KFr}{A:Addr}{T:String}{v:Bool}(h:PySem.W.kitOne K (.ref A) (.type T)=some v):PySem.W.subIn K (.ref A) (.type T)=some v:=by
 have h2:=xR5 h rfl
 rw[PySem.W.kitCls] at h2
 split at h2
 ·exact h2
 ·cases h2
def cnOf(K:KFr):CN:=⟨fun x=>match PySem.W.nsIn K mainGlobals x with | some (some (.ref a))=>a | _=>0⟩
theorem zJ4{K:KFr}{x:Str}{a:Addr}(h:PySem.W.nsIn K mainGlobals x=some (some (.ref a))):(cnOf K).ad x=a:=by
 show (match PySem.W.nsIn K mainGlobals x with | some (some (.ref a))=>a | _=>0)=a
 rw[h]
theorem xN4{F:List D->Res D}{k:Nat}{l:PySem.W.OpenLaw}{q:Program}{loose:List Str}{XP:(Str->Option Value)->Heap->Prop}{YP:World->Heap->Prop}{d:DefRec}{K:Params->KFr}(hT:∀ns:List Int,ns.length<=63->F [.list (ns.map PyData.int)]=.ok (.bool true))(hr:Room k callerA)(hn:l.most=some 63)(hdf:d.params.defaults=[])
  (hY:∀(w:World) (h:Heap),YP w h->(K w.params).In h) (hL:∀w:World,noLst (K w.params)=true)
  (hF:∀(w:World) (mg:Str->Option Value) (fa:Addr) (h:Heap),(K w.params).In h->h.Ns mainGlobals mg->mg d.name=some (.ref fa) ->
   ∃fd:FuncData,(∀(s:Shared) (u:Value),BindsTo s fd ⟨[u],[]⟩ [("script",u)])/\∀base:Heap,(K w.params).In base->base.Ns mainGlobals mg->FnOk l.prog w (K w.params) mg base (CXV l.prog w) k fa fd ["script"] (@spX (cnOf (K w.params)) false F)) :
  PySem.W.WalkO q loose XP YP l.row.toRowW d [] (fun f vs=>PySem.call f vs):=by
 refine L2.wX6 (n:=63) (k:=k) (x:="script") (CX:=fun w=>CXV l.prog w) (sp:=fun w=>@spX (cnOf (K w.params)) false F) hn (by decide) hdf hr hY hF (fun w H a ns hl hO hS => ?_) fun w H s e s' z => ?_
 ·letI:=cnOf (K w.params)
  refine⟨[.list (ns.map PyData.int)],fun _=>False,fun a z=>z.elim,.cons (.lst (yR2 (hL w) hS) (fun z=>z) (cB ns)) .nil,?_⟩
  rw[hT ns hl]
  intro v H' _ r
  cases (show Rep H' (fun _=>False) v (.bool true) from r)
  rfl
 ·obtain⟨_,_,_,_,_,_,_,_,_,_,_,_,_,z⟩:=z
  exact z
end L2.L3
namespace MR
theorem pigeon:∀(n:Nat) (f:Nat->Nat),(∀i,i<=n->f i<n)->∃i j,i<j/\j<=n/\f i=f j
 | 0,f,h=>absurd (h 0 (Ab _)) (by rfl')
 | n+1,f,h=>by
  by_cases c:∃i,i<=n/\f i=f (n+1)
  ·obtain⟨i,hi,e⟩:=c
   exact⟨i,n+1,by rfl',Ab _,e⟩
  ·have ne:∀i,i<=n->f i≠f (n+1):=fun i hi e=>c ⟨i,hi,e⟩
   obtain⟨i,j,h1,h2,e⟩:=pigeon n (fun i=>if f (n+1)<f i then f i-1 else f i) fun i hi=>by
    have a:=h i (by rfl')
    have b:=h (n+1) (Ab _)
    have d:=ne i hi
    show (if f (n+1)<f i then f i-1 else f i)<n
    split <;> rfl'
   refine⟨i,j,h1,by rfl',?_⟩
   have di:=ne i (by rfl')
   have dj:=ne j h2
   have e:(if f (n+1)<f i then f i-1 else f i)=(if f (n+1)<f j then f j-1 else f j):=e
   split at e <;> split at e <;> rfl'
structure Ord(n:Nat)(xs:List Int):Prop where
 len:xs.length=n
 bd:∀i,i<n->0<=xs.getD i 0/\xs.getD i 0<n
 inj:∀i j,i<n->j<n->xs.getD i 0=xs.getD j 0->i=j
def nxt(xs:List Int)(b:Nat):Nat:=(xs.getD b 0).toNat
def it(xs:List Int):Nat->Nat->Nat
 | 0,b=>b
 | k+1,b=>nxt xs (it xs k b)
section
variable {n:Nat}{xs:List Int}
theorem Ord.wH3(o:Ord n xs){b:Nat}(h:b<n):nxt xs b<n:=by
 have:=o.bd b h
 unfold nxt;rfl'
theorem Ord.aY(o:Ord n xs){b:Nat}(h:b<n):xs.getD b 0=(nxt xs b:Int):=by
 have:=o.bd b h
 unfold nxt;rfl'
theorem Ord.wW2(o:Ord n xs){b c:Nat}(h:b<n)(h':c<n)(e:nxt xs b=nxt xs c):b=c :=
 o.inj b c h h' (by rw[o.aY h,o.aY h',e])
theorem Ord.qJ(o:Ord n xs){b:Nat}(h:b<n):∀k,it xs k b<n
 | 0=>h
 | k+1=>o.wH3 (o.qJ h k)
theorem qV(xs:List Int)(b:Nat)(j:Nat):∀k,it xs (k+j) b=it xs k (it xs j b)
 | 0=>by rw[Nat.zero_add];rfl
 | k+1=>by rw[Nat.add_right_comm];show nxt xs (it xs (k+j) b)=nxt xs (it xs k (it xs j b));rw[qV xs b j k]
theorem Ord.zF1(o:Ord n xs){b c:Nat}(h:b<n)(h':c<n):∀k,it xs k b=it xs k c->b=c
 | 0,e=>e
 | k+1,e=>o.zF1 h h' k (o.wW2 (o.qJ h k) (o.qJ h' k) e)
theorem Ord.back(o:Ord n xs){b:Nat}(h:b<n):∃p,1<=p/\p<=n/\it xs p b=b:=by
 obtain⟨i,j,h1,h2,e⟩:=pigeon n (fun i=>it xs i b) fun i _=>o.qJ h i
 refine⟨j-i,by rfl',by rfl',?_⟩
 have e2:it xs i (it xs (j-i) b)=it xs i b:=by
  rw[<-qV,show i+(j-i)=j by rfl']
  exact e.symm
 exact o.zF1 (o.qJ h _) h i e2
def perGo(xs:List Int)(b:Nat):Nat->Nat->Nat
 | 0,k=>k
 | fuel+1,k=>if it xs k b=b then k else perGo xs b fuel (k+1)
theorem zF2(xs:List Int)(b:Nat):∀(fuel k:Nat),(∃p,k<=p/\p<=k+fuel/\it xs p b=b) ->
  k<=perGo xs b fuel k/\perGo xs b fuel k<=k+fuel/\it xs (perGo xs b fuel k) b=b/\∀i,k<=i->i<perGo xs b fuel k->it xs i b≠b
 | 0,k,⟨p,h1,h2,e⟩=>by
  have:p=k:=by rfl'
  subst this
  exact⟨Ab _,Ab _,e,fun i a c=>absurd (show i<p from c) (by rfl')⟩
 | fuel+1,k,⟨p,h1,h2,e⟩=>by
  by_cases c:it xs k b=b
  ·rw[perGo,Ac c]
   exact⟨Ab _,by rfl',c,fun i a d=>absurd d (by rfl')⟩
  ·rw[perGo,Ah c]
   have hp:k+1<=p:=by
    rcases Nat.lt_or_ge k p with q | q
    ·exact q
    ·have:p=k:=by rfl'
     subst this
     exact absurd e c
   obtain⟨a1,a2,a3,a4⟩:=zF2 xs b fuel (k+1) ⟨p,hp,by rfl',e⟩
   refine⟨by rfl',by rfl',a3,fun i hi hl => ?_⟩
   by_cases q:i=k
   ·rw[q];exact c
   ·exact a4 i (by rfl') hl
def per(n:Nat)(xs:List Int)(b:Nat):Nat:=perGo xs b (n-1) 1
theorem Ord.yE(o:Ord n xs){b:Nat}(h:b<n):1<=per n xs b/\per n xs b<=n/\it xs (per n xs b) b=b/\∀i,1<=i->i<per n xs b->it xs i b≠b:=by
 obtain⟨p,h1,h2,e⟩:=o.back h
 obtain⟨a1,a2,a3,a4⟩:=zF2 xs b (n-1) 1 ⟨p,h1,by rfl',e⟩
 exact⟨a1,by unfold per;rfl',a3,a4⟩
theorem Ord.xA2(o:Ord n xs){b:Nat}(h:b<n){i j:Nat}(hij:i<j)(hj:j<per n xs b):it xs i b≠it xs j b:=fun e=>by
 obtain⟨_,_,_,a4⟩:=o.yE h
 refine a4 (j-i) (by rfl') (by rfl') ?_
 refine o.zF1 (o.qJ h _) h i ?_
 rw[<-qV,show i+(j-i)=j by rfl']
 exact e.symm
theorem xP7(xs:List Int)(b p:Nat)(e:it xs p b=b):∀k,it xs (k*p) b=b
 | 0=>by rw[Nat.zero_mul];rfl
 | k+1=>by rw[Nat.succ_mul,qV,e,xP7 xs b p e k]
theorem Ord.wI4(o:Ord n xs){b:Nat}(h:b<n)(k:Nat):it xs k b=it xs (k%per n xs b) b:=by
 obtain⟨a1,_,a3,_⟩:=o.yE h
 have e:k=k%per n xs b+(k / per n xs b)*per n xs b:=by rw[BS];exact (Nat.mod_add_div k (per n xs b)).symm
 conv=>lhs;rw[e,qV,xP7 xs b _ a3]
def In(n:Nat)(xs:List Int)(b c:Nat):Prop:=∃i,i<per n xs b/\it xs i b=c
theorem Ord.yQ3(o:Ord n xs){b:Nat}(h:b<n)(k:Nat):In n xs b (it xs k b):=by
 obtain⟨a1,_⟩:=o.yE h
 exact⟨k%per n xs b,Bp _ (by rfl'),(o.wI4 h k).symm⟩
theorem Ord.wR2(o:Ord n xs){b:Nat}(h:b<n):In n xs b b:=o.yQ3 h 0
theorem Ord.yS9(o:Ord n xs){b c:Nat}(h:b<n)(hc:In n xs b c):c<n:=by
 obtain⟨i,_,rfl⟩:=hc
 exact o.qJ h i
theorem Ord.yB4(o:Ord n xs){b c:Nat}(h:b<n)(hc:In n xs b c):In n xs c b:=by
 obtain⟨i,hi,rfl⟩:=hc
 obtain⟨a1,_,a3,_⟩:=o.yE h
 have e:it xs (per n xs b-i) (it xs i b)=b:=by rw[<-qV,show per n xs b-i+i=per n xs b by rfl'];exact a3
 have:=o.yQ3 (o.qJ h i) (per n xs b-i)
 rw[e] at this
 exact this
theorem Ord.yQ9(o:Ord n xs){b c d:Nat}(h:b<n)(hc:In n xs b c)(hd:In n xs c d):In n xs b d:=by
 obtain⟨i,_,rfl⟩:=hc
 obtain⟨j,_,rfl⟩:=hd
 rw[<-qV]
 exact o.yQ3 h _
def ring(n:Nat)(xs:List Int)(b:Nat):List Nat:=(List.range (per n xs b)).map fun i=>it xs i b
theorem jX(n:Nat)(xs:List Int)(b:Nat):(ring n xs b).length=per n xs b:=by unfold ring;simp
theorem xQ{b c:Nat}:c∈ring n xs b↔In n xs b c:=by
 unfold ring In
 simp only[AE,AB]
theorem Ord.zI9(o:Ord n xs){b:Nat}(h:b<n):(ring n xs b).Nodup:=by
 unfold ring List.Nodup
 rw[Dw]
 refine List.Pairwise.imp_of_mem ?_ (Cl (n:=per n xs b))
 intro i j hi hj hlt
 exact o.xA2 h hlt (AB.mp hj)
theorem Ord.yP2(o:Ord n xs){b c:Nat}(h:b<n)(hc:In n xs b c):per n xs c=per n xs b:=by
 have hcl:=o.yS9 h hc
 obtain⟨i,hi,rfl⟩:=hc
 obtain⟨a1,a2,a3,a4⟩:=o.yE h
 obtain⟨b1,b2,b3,b4⟩:=o.yE hcl
 have e1:it xs (per n xs b) (it xs i b)=it xs i b:=by rw[<-qV,Nat.add_comm,qV,a3]
 have e2:it xs (per n xs (it xs i b)) b=b:=by
  refine o.zF1 (o.qJ h _) h i ?_
  rw[<-qV,Nat.add_comm,qV,b3]
 rcases By (per n xs (it xs i b)) (per n xs b) with q | q | q
 ·exact absurd e2 (a4 _ b1 q)
 ·exact q
 ·exact absurd e1 (b4 _ a1 q)
def has(rs:List (List Nat))(b:Nat):Bool:=rs.any fun r=>r.contains b
def rgs(n:Nat)(xs:List Int):Nat->List (List Nat)
 | 0=>[]
 | b+1=>if has (rgs n xs b) b then rgs n xs b else rgs n xs b ++ [ring n xs b]
theorem dI{rs:List (List Nat)}{b:Nat}:has rs b=true ↔ ∃r∈rs,b∈r:=by
 unfold has
 simp[List.any_eq_true]
structure Rgs(n:Nat)(xs:List Int)(m:Nat)(rs:List (List Nat)):Prop where
 each:∀r∈rs,∃b,b<m/\r=ring n xs b/\∀c,In n xs b c->b<=c
 cover:∀c,c<m->∃r∈rs,c∈r
 nodup:rs.flatten.Nodup
 rise:rs.Pairwise fun r r'=>∀x∈r.head?,∀y∈r'.head?,x<y
theorem gD(o:Ord n xs){b:Nat}(h:b<n):(ring n xs b).head?=some b:=by
 obtain⟨a1,_⟩:=o.yE h
 unfold ring
 obtain⟨p,hp⟩:∃p,per n xs b=p+1:=⟨per n xs b-1,by rfl'⟩
 rw[hp,List.range_succ_eq_map]
 rfl
theorem Ord.uH(o:Ord n xs):∀m,m<=n->Rgs n xs m (rgs n xs m)
 | 0,_=>⟨fun r hr=>by simp[rgs] at hr,fun c hc=>absurd hc (by rfl'),by simp[rgs],by simp[rgs]⟩
 | m+1,h=>by
  have ih:=o.uH m (by rfl')
  by_cases c:has (rgs n xs m) m=true
  ·rw[rgs,Ac c]
   refine⟨fun r hr => ?_,fun d hd => ?_,ih.nodup,ih.rise⟩
   ·obtain⟨b,hb,e,hm⟩:=ih.each r hr
    exact⟨b,by rfl',e,hm⟩
   ·by_cases q:d=m
    ·rw[q];exact dI.mp c
    ·exact ih.cover d (by rfl')
  ·rw[rgs,Ah c]
   have hm:m<n:=by rfl'
   have apart:∀d,In n xs m d->¬∃r∈rgs n xs m,d∈r:=fun d hd ⟨r,hr,hdr⟩=>by
    obtain⟨b,hb,rfl,_⟩:=ih.each r hr
    have h1:In n xs b d:=xQ.mp hdr
    have h2:In n xs b m:=o.yQ9 (by rfl') h1 (o.yB4 hm hd)
    exact c (dI.mpr ⟨_,hr,xQ.mpr h2⟩)
   refine⟨fun r hr => ?_,fun d hd => ?_,?_,?_⟩
   ·rcases AX.mp hr with hr | hr
    ·obtain⟨b,hb,e,hmin⟩:=ih.each r hr
     exact⟨b,by rfl',e,hmin⟩
    ·have:r=ring n xs m:=by simpa using hr
     refine⟨m,by rfl',this,fun d hd => ?_⟩
     rcases Nat.lt_or_ge d m with q | q
     ·exact absurd (ih.cover d q) (apart d hd)
     ·exact q
   ·by_cases q:d=m
    ·rw[q]
     exact⟨_,Ap _ (by simp),xQ.mpr (o.wR2 hm)⟩
    ·obtain⟨r,hr,hd⟩:=ih.cover d (by rfl')
     exact⟨r,Bb _ hr,hd⟩
   ·rw[Ci,List.nodup_append]
    refine⟨ih.nodup,by simpa using o.zI9 hm,fun a ha b hb e => ?_⟩
    have hb':b∈ring n xs m:=by simpa using hb
    subst e
    obtain⟨r,hr,har⟩:=BQ.mp ha
    exact apart a (xQ.mp hb') ⟨r,hr,har⟩
   ·rw[List.pairwise_append]
    refine⟨ih.rise,by simp,fun r hr r' hr' x hx y hy => ?_⟩
    have e:r'=ring n xs m:=by simpa using hr'
    obtain⟨b,hb,rfl,_⟩:=ih.each r hr
    rw[gD o (by rfl')] at hx
    rw[e,gD o hm] at hy
    have hx:x=b:=by simpa using hx.symm
    have hy:y=m:=by simpa using hy.symm
    rfl'
end
end MR
namespace L2
open PySem PySem.Spec PyProof.Rows
section
variable {κ:Type} [DecidableEq κ]
def valV(kvs:List (κ×V))(k:κ):Option V:=(kvs.find? fun kv=>decide (kv.1=k)).map (·.2)
def putK(kvs:List (κ×V))(k:κ)(v:V):List (κ×V) :=
 if (kvs.any fun kv=>decide (kv.1=k))=true then kvs.map (fun kv=>if kv.1=k then (kv.1,v) else kv) else kvs ++ [(k,v)]
theorem vZ{p:κ×V}{r:List (κ×V)}{k:κ}(e:p.1=k):valV (p::r) k=some p.2:=by simp[valV,CO,e]
theorem vY{p:κ×V}{r:List (κ×V)}{k:κ}(e:¬p.1=k):valV (p::r) k=valV r k:=by simp[valV,CO,e]
theorem hX(k:κ):∀kvs:List (κ×V),(kvs.any fun kv=>decide (kv.1=k))=(valV kvs k).isSome
 | []=>rfl
 | p::r=>by
  rw[CC]
  by_cases e:p.1=k
  ·simp only[vZ e,Ag e,Bool.true_or,Option.isSome_some]
  ·rw[vY e,Ad e,Bool.false_or];exact hX k r
theorem yN7(k j:κ)(y:V):∀kvs:List (κ×V),valV (kvs.map fun kv=>if kv.1=k then (kv.1,y) else kv) j=(valV kvs j).map fun x=>if j=k then y else x
 | []=>rfl
 | p::r=>by
  have ih:=yN7 k j y r
  rw[AI]
  by_cases h:p.1=k
  ·rw[Ac h]
   by_cases e:p.1=j
   ·rw[vZ (p:=(p.1,y)) e,vZ e,Bu,Ac (e.symm.trans h)]
   ·rw[vY (p:=(p.1,y)) e,vY e,ih]
  ·rw[Ah h]
   by_cases e:p.1=j
   ·rw[vZ (p:=p) e,vZ e,Bu,Ah (fun z=>h (e.trans z))]
   ·rw[vY (p:=p) e,vY e,ih]
theorem yW3(k j:κ)(y:V):∀kvs:List (κ×V),valV kvs k=none->valV (kvs ++ [(k,y)]) j=if j=k then some y else valV kvs j
 | [],_=>by
  by_cases e:k=j
  ·rw[Ac e.symm];exact vZ (p:=(k,y)) e
  ·rw[Ah (fun z=>e z.symm)];exact vY (p:=(k,y)) e
 | p::r,hn=>by
  rw[List.cons_append]
  have hk:¬p.1=k:=fun z=>by rw[vZ z] at hn;cases hn
  rw[vY hk] at hn
  have ih:=yW3 k j y r hn
  by_cases e:p.1=j
  ·rw[vZ e,vZ e,Ah (fun z=>hk (e.trans z))]
  ·rw[vY e,vY e,ih]
theorem xG5(kvs:List (κ×V))(k j:κ)(y:V):valV (putK kvs k y) j=if j=k then some y else valV kvs j:=by
 unfold putK
 by_cases a:(kvs.any fun kv=>decide (kv.1=k))=true
 ·rw[Ac a,yN7]
  rw[hX] at a
  by_cases e:j=k
  ·obtain⟨x,hx⟩:=Option.isSome_iff_exists.mp a
   rw[Ac e,e,hx,Bu,Ac rfl]
  ·rw[Ah e]
   cases valV kvs j with
   | none=>rfl
   | some x=>rw[Bu,Ah e]
 ·rw[Ah a]
  refine yW3 k j y kvs ?_
  rw[hX] at a
  cases q:valV kvs k with
  | none=>rfl
  | some x=>rw[q] at a;exact (a rfl).elim
theorem bL(kvs:List (κ×V))(k:κ)(v:V):(putK kvs k v).length<=kvs.length+1:=by
 unfold putK
 split
 ·rw[Aa];rfl'
 ·rw[An,Ax,DL];rfl'
theorem xJ9{kvs:List (κ×V)}{k:κ}(v:V)(h:valV kvs k=none):putK kvs k v=kvs ++ [(k,v)]:=by
 unfold putK
 rw[hX,h]
 exact Ah (by decide)
theorem RelO.zS8{o:Option V}{u:Option Value}(r:RelO o u):o.isSome=u.isSome:=by
 cases o with
 | none=>cases u with
  | none=>rfl
  | some _=>exact (show False from r).elim
 | some _=>cases u with
  | none=>exact (show False from r).elim
  | some _=>rfl
theorem RelO.getD{o:Option V}{u:Option Value}{d:V}{d':Value}(r:RelO o u)(rd:RelV d d'):RelV (o.getD d) (u.getD d'):=by
 cases o with
 | none=>cases u with
  | none=>exact rd
  | some _=>exact (show False from r).elim
 | some _=>cases u with
  | none=>exact (show False from r).elim
  | some _=>exact r
theorem KV.val{kvs:List (κ×V)}{vs:List (κ×Value)}(r:KV kvs vs)(k:κ):RelO (valV kvs k) (valueAt vs k):=by
 unfold KV at r
 induction r with
 | nil=>exact True.intro
 | @cons p q ps qs h t ih =>
  obtain⟨h1,h2⟩:=h
  by_cases e:p.1=k
  ·have e':q.1=k:=h1.symm.trans e
   have b:valueAt (q::qs) k=some q.2:=by simp[valueAt,CO,e']
   rw[vZ e,b];exact h2
  ·have e':¬q.1=k:=fun z=>e (h1.trans z)
   have b:valueAt (q::qs) k=valueAt qs k:=by simp[valueAt,CO,e']
   rw[vY e,b];exact ih
theorem KV.any{kvs:List (κ×V)}{vs:List (κ×Value)}(r:KV kvs vs)(k:κ):(kvs.any fun kv=>decide (kv.1=k))=vs.any fun kv=>decide (kv.1=k):=by
 unfold KV at r
 induction r with
 | nil=>rfl
 | cons h t ih=>rw[CC,CC,ih,h.1]
theorem KV.repl{kvs:List (κ×V)}{vs:List (κ×Value)}(r:KV kvs vs)(k:κ){y:V}{u:Value}(ry:RelV y u) :
  KV (kvs.map fun kv=>if kv.1=k then (kv.1,y) else kv) (vs.map fun kv=>if kv.1=k then (kv.1,u) else kv):=by
 unfold KV at r ⊢
 induction r with
 | nil=>exact .nil
 | @cons p q ps qs h t ih =>
  rw[AI,AI]
  refine .cons ?_ ih
  obtain⟨h1,h2⟩:=h
  by_cases e:p.1=k
  ·rw[Ac e,Ac (h1.symm.trans e)];exact⟨h1,ry⟩
  ·rw[Ah e,Ah (fun z=>e (h1.trans z))];exact⟨h1,h2⟩
theorem KV.put{kvs:List (κ×V)}{vs:List (κ×Value)}(r:KV kvs vs)(k:κ){y:V}{u:Value}(ry:RelV y u):KV (putK kvs k y) (stored vs k u):=by
 unfold putK stored
 rw[r.any k]
 by_cases e:(vs.any fun kv=>decide (kv.1=k))=true
 ·rw[Ac e,Ac e];exact r.repl k ry
 ·rw[Ah e,Ah e];exact Paired.snoc r ⟨rfl,ry⟩
theorem KV.length{kvs:List (κ×V)}{vs:List (κ×Value)}(r:KV kvs vs):kvs.length=vs.length:=Paired.length r
end
theorem yR7{P:Program}{w:World}{k:Key}{u:Value}(r:RelV (kV k) u):(mixKind P w).is k u=true:=by
 cases k with
 | inl i=>obtain⟨t,e⟩:=(show ∃t,u=Value.int i t from r);subst e;exact yF1 P w i t
 | inr x=>obtain⟨t,e⟩:=(show ∃t,u=Value.str x t from r);subst e;exact yH2 P w x t
theorem yW1{P:Program}{w:World}:∀{ks:List Key}{us:List Value},Vals (ks.map kV) us->ItemsAre (mixKind P w) ks us
 | [],_,r=>by rw[Cj] at r;cases r;exact .nil
 | k::ks,_,r=>by
  rw[AI] at r
  cases r with
  | cons h t=>exact .cons (yR7 h) (yW1 t)
abbrev KT(H:Hp):List (List Key×V)->List (List Key×Addr×Value)->Prop:=Paired fun p q=>p.1=q.1/\H q.2.1=some (.tup (p.1.map kV))/\RelV p.2 q.2.2
theorem KT.val{H:Hp}{kvs:List (List Key×V)}{xs:List (List Key×Addr×Value)}(r:KT H kvs xs)(k:List Key):RelO (valV kvs k) ((atKey xs k).map (·.2)):=by
 induction r with
 | nil=>exact True.intro
 | @cons p q ps qs h t ih =>
  obtain⟨h1,_,h2⟩:=h
  by_cases e:p.1=k
  ·have e':q.1=k:=h1.symm.trans e
   have b:atKey (q::qs) k=some q.2:=by simp[atKey,CO,e']
   rw[vZ e,b];exact h2
  ·have e':¬q.1=k:=fun z=>e (h1.trans z)
   have b:atKey (q::qs) k=atKey qs k:=by simp[atKey,CO,e']
   rw[vY e,b];exact ih
theorem KT.repl{H:Hp}{kvs:List (List Key×V)}{xs:List (List Key×Addr×Value)}(r:KT H kvs xs)(k:List Key){y:V}{u:Value}(ry:RelV y u) :
  KT H (kvs.map fun kv=>if kv.1=k then (kv.1,y) else kv) (xs.map (putAt k u)):=by
 induction r with
 | nil=>exact .nil
 | @cons p q ps qs h t ih =>
  rw[AI,AI]
  refine .cons ?_ ih
  obtain⟨h1,h2,h3⟩:=h
  unfold putAt
  by_cases e:p.1=k
  ·rw[Ac e,Ac (h1.symm.trans e)];exact⟨h1,h2,ry⟩
  ·rw[Ah e,Ah (fun z=>e (h1.trans z))];exact⟨h1,h2,h3⟩
theorem KT.put{H:Hp}{kvs:List (List Key×V)}{xs:List (List Key×Addr×Value)}(r:KT H kvs xs)(k:List Key){b:Addr}{y:V}{u:Value}(hb:H b=some (.tup (k.map kV)))(ry:RelV y u) :
  KT H (putK kvs k y) (storedH xs k b u):=by
 have e:(kvs.any fun kv=>decide (kv.1=k))=(atKey xs k).isSome:=by
  rw[hX,(r.val k).zS8,Option.isSome_map]
 unfold putK storedH
 rw[e]
 by_cases q:(atKey xs k).isSome=true
 ·rw[Ac q,Ac q];exact r.repl k ry
 ·rw[Ah q,Ah q];exact Paired.snoc r ⟨rfl,hb,ry⟩
theorem KT.keeps{H H':Hp}{kvs:List (List Key×V)}{xs:List (List Key×Addr×Value)}(r:KT H kvs xs)(ht:∀b ys,H b=some (.tup ys)->H' b=some (.tup ys)):KT H' kvs xs :=
 Paired.mapP r fun _ _ z=>⟨z.1,ht _ _ z.2.1,z.2.2⟩
section
variable {P:Program}{w:World}{H:Hp}{h:Heap}{a:Addr}
theorem yR2{u:HO}(ok:HOk P w H h)(e:Rd H a u):ObjOk P w H h a u:=e.ok ok
theorem yS5{kvs:List (Key×V)}(ok:HOk P w H h)(e:Rd H a (.dK kvs)):kvs.length<=sizeLine/\(a == sysModules)=false/\∃vs,KV kvs vs/\h.DictOf (mixKind P w) a vs :=
 show ObjOk P w H h a (.dK kvs) from yR2 ok e
theorem wF1{kvs:List (Key×V)}(ok:HOk P w H h)(e:H a=some (.dK kvs)):kvs.length<=sizeLine/\(a == sysModules)=false/\∃vs,KV kvs vs/\h.DictOf (mixKind P w) a vs:=yS5 ok (.inl e)
theorem zI5{ks:List Key}(ok:HOk P w H h)(e:H a=some (.tup (ks.map kV))):(tupleKind (mixKind P w)).is h ks a:=by
 obtain⟨_,its,r,o,h1,h2,⟨n,h3⟩,_⟩:=(show ObjOk P w H h a (.tup (ks.map kV)) from ok a _ e)
 exact⟨o,its.toArray,n,h1,h2,h3,by simpa using yW1 r⟩
theorem yS8{kvs:List (List Key×V)}(ok:HOk P w H h)(e:Rd H a (.dT kvs)):kvs.length<=sizeLine/\(a == sysModules)=false /\
  ∃xs,KT H kvs xs/\h.DictOfH (tupleKind (mixKind P w)) a xs:=by
 obtain⟨z,y,xs,r,o,es,ep,h1,h2,h3,h4,h5⟩:=(show ObjOk P w H h a (.dT kvs) from yR2 ok e)
 refine⟨z,y,xs,r,o,es,ep,h1,h2,h3,h4,fun x hx => ?_,h5⟩
 have all:∀{l:List (List Key×V)}{m:List (List Key×Addr×Value)},KT H l m->∀x∈m,(tupleKind (mixKind P w)).is h x.1 x.2.1:=by
  intro l m q
  induction q with
  | nil=>intro x hx;exact nomatch hx
  | @cons p q ps qs hq t ih =>
   intro x hx
   rcases AM.mp hx with e | hx
   ·subst e
    exact zI5 ok (by rw[<-hq.1];exact hq.2.1)
   ·exact ih x hx
 exact all r x hx
theorem wE6{kvs:List (List Key×V)}(ok:HOk P w H h)(e:H a=some (.dT kvs)):kvs.length<=sizeLine/\(a == sysModules)=false /\
  ∃xs,KT H kvs xs/\h.DictOfH (tupleKind (mixKind P w)) a xs:=yS8 ok (.inl e)
end
def DGet(H:Hp)(a:Addr)(y:V)(r:Option V):Prop :=
 (∃kvs k,Rd H a (.dK kvs)/\y=kV k/\r=valV kvs k)\/∃kvs k b,Rd H a (.dT kvs)/\y=.ref b/\H b=some (.tup (k.map kV))/\r=valV kvs k
def DPut(H:Hp)(a:Addr)(y v:V)(H':Hp):Prop :=
 (∃kvs k,H a=some (.dK kvs)/\y=kV k/\kvs.length<sizeLine/\H'=upd H a (.dK (putK kvs k v))) \/
 ∃kvs k b,H a=some (.dT kvs)/\y=.ref b/\H b=some (.tup (k.map kV))/\kvs.length<sizeLine/\H'=upd H a (.dT (putK kvs k v))
theorem DGet.k{H:Hp}{a:Addr}{kvs:List (Key×V)}{k:Key}(e:H a=some (.dK kvs)):DGet H a (kV k) (valV kvs k):=.inl ⟨kvs,k,.inl e,rfl,rfl⟩
theorem DGet.t{H:Hp}{a b:Addr}{kvs:List (List Key×V)}{k:List Key}(e:H a=some (.dT kvs))(eb:H b=some (.tup (k.map kV))):DGet H a (.ref b) (valV kvs k):=.inr ⟨kvs,k,b,.inl e,rfl,eb,rfl⟩
theorem DPut.k{H:Hp}{a:Addr}{kvs:List (Key×V)}{k:Key}{v:V}(e:H a=some (.dK kvs))(hl:kvs.length<sizeLine):DPut H a (kV k) v (upd H a (.dK (putK kvs k v))):=.inl ⟨kvs,k,e,rfl,hl,rfl⟩
theorem DPut.t{H:Hp}{a b:Addr}{kvs:List (List Key×V)}{k:List Key}{v:V}(e:H a=some (.dT kvs))(eb:H b=some (.tup (k.map kV)))(hl:kvs.length<sizeLine) :
  DPut H a (.ref b) v (upd H a (.dT (putK kvs k v))):=.inr ⟨kvs,k,b,e,rfl,eb,hl,rfl⟩
section
variable {X:Cx}{Ec:List (Addr×Obj)}{σ:St}{H:Hp}{s:Shared}{a:Addr}{y v:V}{u r:Value}{o:Option V}{A:Around}{E:Value->Shared->Prop}
theorem Inv.big(I:Inv X Ec σ H s):sysModules<s.heap.objs.size:=by
 have h:mainGlobals<s.heap.objs.size:=(I.mod.glob.keeps I.bk).lt
 exact Bz (by decide) h
theorem wT3{Q:Value->Shared->Prop}(hu:A.units+1<cLine)(I:Inv X Ec σ H s)(g:DGet H a y o)(ry:RelV y u)(h:∀s',Inv X Ec σ H s'->Q (.bool (!o.isSome)) s') :
  wpAny (model X.prog X.w) A (compareOp .NotIn u (.ref a)) Q E s:=by
 rcases g with ⟨kvs,k,e,ey,l⟩ | ⟨kvs,k,b,e,ey,eb,l⟩
 ·subst ey
  obtain⟨z,hd,vs,rel,dd⟩:=yS5 I.hok e
  refine wpAny_notIn_of (yR7 ry) hd dd.mapOf ?_
  rw[<-(rel.val k).zS8,<-l]
  exact h _ (I.tok _)
 ·subst ey
  cases (show u=Value.ref b from ry)
  obtain⟨z,hd,xs,rel,dd⟩:=yS8 I.hok e
  refine wpAny_notIn_heap (tupleKind_room_in1 hu) (zI5 I.hok eb) hd dd ?_
  have q:=(rel.val k).zS8
  rw[Option.isSome_map] at q
  rw[<-q,<-l]
  exact h _ (I.tok _)
theorem yF8{h':Heap}{t':Nat}{ob:HO}(I:Inv X Ec σ H s)(mu:Mut (H a))(hs:Heap.SameBut a s.heap h')(he:∃q,h'.get? a=some q)(new:ObjOk X.prog X.w (upd H a ob) h' a ob) :
  Inv X Ec σ (upd H a ob) { s with heap:=h',toks:=t' } :=
 I.write (x:=a) (e:=a) mu (.inl rfl) (fun b q hb z=>(hs.2 b hb).trans z) he new
theorem wN3{P:Program}{w:World}{H':Hp}{h':Heap}{kvs:List (Key×V)}{vs:List (Key×Value)}(z:kvs.length<=sizeLine)(hd:(a == sysModules)=false)(rel:KV kvs vs)(dd:h'.DictOf (mixKind P w) a vs) :
  ObjOk P w H' h' a (.dK kvs):=⟨z,hd,vs,rel,dd⟩
theorem xN9{H':Hp}{Q:Unit->Shared->Prop}(hu:A.units+1<cLine)(I:Inv X Ec σ H s)(g:DPut H a y v H')(ry:RelV y u)(rv:RelV v r)(h:∀s',Inv X Ec σ H' s'->Q () s') :
  wpAny (model X.prog X.w) A (setItem (.ref a) u r) Q E s:=by
 rcases g with ⟨kvs,k,e,ey,l,eH⟩ | ⟨kvs,k,b,e,ey,eb,l,eH⟩
 ·subst ey eH
  obtain⟨z,hd,vs,rel,dd⟩:=wF1 I.hok e
  have hz:vs.length<=sizeLine:=by rw[<-rel.length];exact z
  have hl:(putK kvs k v).length<=sizeLine:=by have:=bL kvs k v;rfl'
  refine wpAny_setItem_pairs (hsz:=hz) (yR7 ry) dd fun h' dd' hs=>h _ ?_
  have he:∃q,h'.get? a=some q:=let ⟨q,_,_,hq,_⟩:=dd'; ⟨q,hq⟩
  exact yF8 I (by rw[e];exact True.intro) hs he (wN3 hl hd (rel.put k rv) dd')
 ·subst ey eH
  cases (show u=Value.ref b from ry)
  obtain⟨z,hd,xs,rel,dd⟩:=wE6 I.hok e
  have hz:xs.length<=sizeLine:=by rw[<-Paired.length rel];exact z
  have hl:(putK kvs k v).length<=sizeLine:=by have:=bL kvs k v;rfl'
  refine wpAny_setItem_heap (hsz:=hz) (tupleKind_room_in1 hu) (zI5 I.hok eb) dd fun h' dd' hs=>h _ ?_
  obtain⟨q,es,ep,hq,h2,h3,h4,_,h5⟩:=dd'
  refine yF8 I (by rw[e];exact True.intro) hs ⟨q,hq⟩ ⟨hl,hd,_,(rel.put k eb rv).keeps fun c ys ec => ?_,q,es,ep,hq,h2,h3,h4,h5⟩
  rw[zG (wD8 ec e (fun z=>nomatch z))]
  exact ec
end
section
variable {X:Cx}{Ec:List (Addr×Obj)}{σ:St}{H:Hp}{s:Shared}{a:Addr}{kvs:List (Key×V)}{k:Key}{u:Value}{A:Around}{E:Value->Shared->Prop}
end
def tDNotIn(ty td:TE):TE:=fun σ H Q=>ty σ H fun y H1=>td σ H1 fun x H2=>∃a o,x=.ref a/\DGet H2 a y o/\Q (.bl (!o.isSome)) H2
def sDPut(td ty tv:TE):TS:=fun D σ H=>tv σ H fun v H1=>td σ H1 fun x H2=>ty σ H2 fun y H3=>∃a H4,x=.ref a/\DPut H3 a y v H4/\D.nx σ H4
section
variable {X:Cx}{o i e value:Expr}{pos pos' tpos:Pos}{td ty tv:TE}
theorem xQ1(hu:X.A.units+1<cLine)(hi:PE X i ty)(ho:PE X o td):PC X .NotIn i o (tDNotIn ty td):=by
 intro Ec s σ H Q I h
 refine thn (hi Ec s σ H _ I h) fun iv s1 ⟨y,H1,I1,ry,q1⟩=>thn (ho Ec s1 σ H1 _ I1 q1) fun u s2 ⟨x,H2,I2,rx,a,ov,ex,g,q2⟩ => ?_
 subst ex
 obtain rfl:u=Value.ref a:=rx
 exact wT3 hu I2 g ry fun s3 I3=>⟨.bl (!ov.isSome),H2,I3,rfl,q2⟩
theorem yC8(hu:X.A.units+1<cLine)(ho:PE X o td)(hi:PE X i ty)(hv:PE X value tv)(hs:swapsWith value (some (.Subscript o i pos')) pos.line X.env=pure false) :
  PS X (.Assign [.Subscript o i pos'] value pos) (sDPut td ty tv):=by
 intro Ec s σ H D I h
 refine wpAny_Assign_Subscript (thn (hv Ec s σ H _ I h) fun r s1 ⟨v,H1,I1,rv,q1⟩=>thn (ho Ec s1 σ H1 _ I1 q1) fun u s2 ⟨x,H2,I2,rx,q2⟩=>thn (hi Ec s2 σ H2 _ I2 q2) fun iv s3 ⟨y,H3,I3,ry,a,H4,ex,g,q3⟩ => ?_) hs
 subst ex
 obtain rfl:u=Value.ref a:=rx
 exact xN9 hu I3 g ry rv fun s4 I4=>⟨σ,H4,I4,q3⟩
end
theorem xC9{P:Program}{w:World}{H:Hp}(h:Heap)(hb:sysModules<h.objs.size):ObjOk P w H (h.push { cls:=.type "dict",data:=.dict #[] }) h.objs.size (.dK []) :=
 ⟨Bk _,beq_eq_false_iff_ne.mpr (CT (AL hb)),[],.nil,Heap.DictOf.new h⟩
theorem xI4{P:Program}{w:World}{H:Hp}(h:Heap)(hb:sysModules<h.objs.size):ObjOk P w H (h.push { cls:=.type "dict",data:=.dict #[] }) h.objs.size (.dT []) :=
 ⟨Bk _,beq_eq_false_iff_ne.mpr (CT (AL hb)),[],.nil,_,#[],0,AA _ rfl,⟨rfl,rfl,rfl⟩,rfl,rfl,List.nodup_nil⟩
def tDNewK:TE:=fun _ H Q=>∀p,H p=none->Q (.ref p) (upd H p (.dK []))
def tDNewT:TE:=fun _ H Q=>∀p,H p=none->Q (.ref p) (upd H p (.dT []))
section
variable {X:Cx}{pos:Pos}
theorem xF4:PE X (.Dict [] [] pos) tDNewK:=fun Ec s σ H Q I h =>
 wpAny_Dict_empty ⟨.ref s.heap.objs.size,_,I.laid (a:=s.heap.objs.size) (o:=.dK []) (t':=s.toks) (fun _ _ q=>Ai _ q) (Ab _) (xC9 s.heap I.big),rfl,h _ (I.hok.fresh (Ab _))⟩
theorem xK3:PE X (.Dict [] [] pos) tDNewT:=fun Ec s σ H Q I h =>
 wpAny_Dict_empty ⟨.ref s.heap.objs.size,_,I.laid (a:=s.heap.objs.size) (o:=.dT []) (t':=s.toks) (fun _ _ q=>Ai _ q) (Ab _) (xI4 s.heap I.big),rfl,h _ (I.hok.fresh (Ab _))⟩
end
end L2
namespace L2.L3
open PySem PySem.Spec PyProof.Rows MR
variable [CN]
def rgI(r:List Nat):List Int:=r.map fun (b:Nat)=>(b:Int)
def ringsR(n:Nat)(xs:List Int)(m:Nat):List D:=(rgs n xs m).map fun r=>lI (rgI r)
open Classical in
def ringsF:List D->Res D
 | [.tuple es]=>match intsOf es with
  | some xs=>if Ord xs.length xs/\xs.length<=400 then .ok (.list (ringsR xs.length xs xs.length)) else .no
  | none=>.no
 | _=>.no
theorem xL8{n:Nat}{xs:List Int}(o:Ord n xs)(hn:n<=400):ringsF [tI xs]=.ok (.list (ringsR n xs n)):=by
 have e:=o.len
 subst e
 unfold ringsF
 simp only[intsOf_map]
 exact Ac ⟨o,hn⟩
def mt(l:List Nat):List (Key×V):=l.map fun (b:Nat)=>(Sum.inl (b:Int),V.bl true)
theorem xO1(l:List Nat)(b:Nat):(valV (mt l) (Sum.inl (b:Int))).isSome=l.contains b:=by
 rw[<-hX]
 unfold mt
 rw[List.any_map,Cg,List.any_eq_true,Bj]
 constructor
 ·rintro ⟨c,hc,e⟩
  have e:(Sum.inl (c:Int):Key)=Sum.inl (b:Int):=of_decide_eq_true e
  have e:(c:Int)=(b:Int):=Sum.inl.inj e
  rw[<-CS.mp e]
  exact hc
 ·intro h
  exact⟨b,h,Ag rfl⟩
theorem wN6{l:List Nat}{b:Nat}(h:l.contains b=false):putK (mt l) (Sum.inl (b:Int)) (V.bl true)=mt (l ++ [b]):=by
 have e:valV (mt l) (Sum.inl (b:Int))=none:=by
  have:=xO1 l b
  rw[h] at this
  cases q:valV (mt l) (Sum.inl (b:Int)) with
  | none=>rfl
  | some v=>rw[q] at this;cases this
 rw[xJ9 _ e]
 unfold mt
 rw[AK]
 rfl
def rLenS(K:KFr):List V->Hp->VK->Prop:=fun xs H Q=>∃p ys,xs=[.ref p]/\(SqL K H p ys\/SqT K H p ys)/\Q (.int ys.length) H
def tRgW(K:KFr):TS:=tWhile (tB (tDNotIn (tVar 5) (tVar 1))) (tSeq (sDPut (tVar 1) (tVar 5) (tC (.bl true))) (tSeq (tDrop (tBM K "list" rAppend (tVar 4) (dS (tVar 5) tNil))) (tAsg (tOp (rIxT K) (tVar 0) (tVar 5)) (gName 5))))
def tRgI(K:KFr):TS:=tIfS (tTest (tOp (rI0 fun i j=>.bl (decide (j<i))) (tCB (rLenS K) (dS (tVar 4) tNil)) (tC (.int 0)))) (tDrop (tBM K "list" rAppend (tVar 2) (dS (tVar 4) tNil))) tNext
def tRg(K:KFr):TS:=tSeq (tAsg tDNewK (gName 1)) (tSeq (tAsg (tLst tNil) (gName 2)) (tSeq (tFor (iRng1 (dS (tCB (rLenS K) (dS (tVar 0) tNil)) tNil)) (gName 3) (tSeq (tAsg (tLst tNil) (gName 4)) (tSeq (tAsg (tVar 3) (gName 5)) (tSeq (tRgW K) (tRgI K))))) (tRet (tVar 2))))
section
variable {n:Nat}{xs:List Int}
def metN(n:Nat)(xs:List Int)(m k:Nat):List Nat:=(rgs n xs m).flatten++(List.range k).map fun j=>it xs j m
def stepsN(n:Nat)(xs:List Int)(m:Nat):Nat:=if has (rgs n xs m) m then 0 else per n xs m
theorem hasF(rs:List (List Nat))(b:Nat):rs.flatten.contains b=has rs b:=by
 rw[Cg,dI,Bj,BQ]
theorem wN4(o:Ord n xs){m k:Nat}(hm:m<n)(hk:k<=stepsN n xs m):(metN n xs m k).contains (it xs k m)=decide (k=stepsN n xs m):=by
 have ok:=o.uH m (by rfl')
 obtain⟨a1,a2,a3,a4⟩:=o.yE hm
 unfold metN
 unfold stepsN at hk ⊢
 by_cases c:has (rgs n xs m) m=true
 ·rw[Ac c] at hk ⊢
  have:k=0:=by rfl'
  subst this
  rw[Ag rfl]
  show (_ ++ []).contains m=true
  rw[BC,hasF,c]
 ·rw[Ah c] at hk ⊢
  by_cases e:k=per n xs m
  ·rw[Ag e,e,a3,Bj]
   refine Ap _ (AE.mpr ⟨0,AB.mpr (by rfl'),rfl⟩)
  ·rw[Ad e]
   rw[<-Bool.not_eq_true,Bj]
   intro h
   rcases AX.mp h with h | h
   ·obtain⟨r,hr,hd⟩:=BQ.mp h
    obtain⟨b,hb,rfl,_⟩:=ok.each r hr
    have h1:In n xs b (it xs k m):=xQ.mp hd
    have h2:In n xs b m:=o.yQ9 (by rfl') h1 (o.yB4 hm (o.yQ3 hm k))
    exact c (dI.mpr ⟨_,hr,xQ.mpr h2⟩)
   ·obtain⟨j,hj,e2⟩:=AE.mp h
    have hj:=AB.mp hj
    exact o.xA2 hm hj (by rfl') e2
theorem xH3(m k:Nat):metN n xs m (k+1)=metN n xs m k ++ [it xs k m]:=by
 unfold metN
 rw[Ch,AK,Bh]
 rfl
theorem wX8(m:Nat):metN n xs m (stepsN n xs m)=(rgs n xs (m+1)).flatten:=by
 unfold metN stepsN
 rw[rgs]
 by_cases c:has (rgs n xs m) m=true
 ·rw[Ac c,Ac c]
  simp
 ·rw[Ah c,Ah c,Ci]
  simp[ring]
structure RgAt(O:Addr->Prop)(H0:Hp)(am ar:Addr)(n:Nat)(xs:List Int)(X:Addr->Prop)(m:Nat)(met:List Nat)(vs:List V)(H:Hp):Prop where
 same:Same H0 H
 dic:H am=some (.dK (mt met))
 lst:H ar=some (.lst vs)
 reps:Reps H (fun b=>O b\/b=ar\/b=am\/X b) vs (ringsR n xs m)
theorem RgAt.upd{O:Addr->Prop}{H0:Hp}{am ar g:Addr}{X:Addr->Prop}{m:Nat}{met:List Nat}{vs:List V}{H:Hp}{ho:HO}(R:RgAt O H0 am ar n xs X m met vs H)(h0:H0 g=none)(hx:X g)(h1:g≠am)(h2:g≠ar):RgAt O H0 am ar n xs X m met vs (upd H g ho) where
 same:=fun b o e=>by rw[zG (fun z=>by rw[z,h0] at e;cases e)];exact R.same b o e
 dic:=by rw[zG (fun z=>h1 z.symm)];exact R.dic
 lst:=by rw[zG (fun z=>h2 z.symm)];exact R.lst
 reps:=R.reps.keep (fun b o e q=>by rw[zG (fun z=>q (.inr (.inr (.inr (by rw[z];exact hx)))))];exact e) fun b _ z=>z
theorem RgAt.put{O:Addr->Prop}{H0:Hp}{am ar:Addr}{X:Addr->Prop}{m:Nat}{met met':List Nat}{vs:List V}{H:Hp}(R:RgAt O H0 am ar n xs X m met vs H)(h0:H0 am=none)(h1:am≠ar):RgAt O H0 am ar n xs X m met' vs (L2.upd H am (.dK (mt met'))) where
 same:=fun b o e=>by rw[zG (fun z=>by rw[z,h0] at e;cases e)];exact R.same b o e
 dic:=yP
 lst:=by rw[zG (fun z=>h1 z.symm)];exact R.lst
 reps:=R.reps.keep (fun b o e q=>by rw[zG (fun z=>q (.inr (.inr (.inl z))))];exact e) fun b _ z=>z
theorem sz{k:Nat}(h:k<=1000):k<sizeLine:=small1000 h
theorem flatN(o:Ord n xs){m:Nat}(hm:m<=n):(rgs n xs m).flatten.length<=n:=by
 have grow:∀m d,(rgs n xs m).flatten.length<=(rgs n xs (m+d)).flatten.length:=by
  intro m d
  induction d with
  | zero=>exact Ab _
  | succ d ih =>
   refine AH ih ?_
   rw[<-Nat.add_assoc,rgs]
   split
   ·exact Ab _
   ·rw[Ci,An];rfl'
 have k:=o.uH n (Ab n)
 have p:(rgs n xs n).flatten.Perm (List.range n):=by
  rw[CY k.nodup Cq]
  intro a
  rw[AB,BQ]
  constructor
  ·rintro ⟨r,hr,ha⟩
   obtain⟨b,hb,rfl,_⟩:=k.each r hr
   exact o.yS9 hb (xQ.mp ha)
  ·intro h
   exact k.cover a h
 have:=grow m (n-m)
 rw[show m+(n-m)=n by rfl',p.length_eq,Aq] at this
 exact this
theorem wY2(o:Ord n xs){m k:Nat}(hm:m<n)(hk:k<=n):(metN n xs m k).length<=2*n:=by
 have ok:=o.uH m (by rfl')
 have h1:=flatN o (show m<=n by rfl')
 unfold metN
 rw[An,Aa,Aq]
 rfl'
theorem xF2(o:Ord n xs)(hn:n<=400){K:KFr}{O:Addr->Prop}{H0:Hp}{a0 am ar g:Addr}(h0:Rd H0 a0 (.tup (xs.map V.int)))(hg0:H0 g=none)(hm0:H0 am=none)(d1:g≠am)(d2:g≠ar)(d3:am≠ar){m:Nat}(hm:m<n){vs:List V}{E:Ends}{H:Hp}
  (R:RgAt O H0 am ar n xs (fun b=>b=g) m (metN n xs m 0) vs H) (hg:H g=some (.lst []))
  (k:∀H',RgAt O H0 am ar n xs (fun b=>b=g) m (metN n xs m (stepsN n xs m)) vs H'->H' g=some (.lst ((List.range (stepsN n xs m)).map fun j=>V.int ((it xs j m:Nat):Int)))->E.nx [some (.ref a0),some (.ref am),some (.ref ar),some (.int (m:Int)),some (.ref g),some (.int ((it xs (stepsN n xs m) m:Nat):Int))] H') :
  tRgW K E [some (.ref a0),some (.ref am),some (.ref ar),some (.int (m:Int)),some (.ref g),some (.int (m:Int))] H:=by
 have sp:stepsN n xs m<=n:=by
  unfold stepsN
  split
  ·rfl'
  ·exact (o.yE hm).2.1
 refine⟨fun c σ' H'=>∃k,k<=stepsN n xs m/\c=stepsN n xs m-k/\σ'=[some (.ref a0),some (.ref am),some (.ref ar),some (.int (m:Int)),some (.ref g),some (.int ((it xs k m:Nat):Int))]/\RgAt O H0 am ar n xs (fun b=>b=g) m (metN n xs m k) vs H'/\H' g=some (.lst ((List.range k).map fun j=>V.int ((it xs j m:Nat):Int))),
  ⟨_,0,Bk _,rfl,rfl,R,hg⟩,?_⟩
 rintro c σ' H' ⟨j,hj,rfl,rfl,R',hg'⟩
 have mi:=wN4 o hm hj
 refine⟨_,rfl,_,rfl,am,_,rfl,DGet.k (k:=Sum.inl ((it xs j m:Nat):Int)) R'.dic,_,rfl,?_⟩
 show (if _=true then _ else _)
 rw[xO1,mi]
 by_cases e:j=stepsN n xs m
 ·rw[Ag e,Ah (by decide)]
  subst e
  exact k H' R' hg'
 ·rw[Ad e,Ac (by decide)]
  rw[Ad e] at mi
  have fl:=wY2 o (k:=j) hm (by rfl')
  refine⟨fun σ2 H2=>σ2=[some (.ref a0),some (.ref am),some (.ref ar),some (.int (m:Int)),some (.ref g),some (.int ((it xs (j+1) m:Nat):Int))]/\RgAt O H0 am ar n xs (fun b=>b=g) m (metN n xs m (j+1)) vs H2/\H2 g=some (.lst ((List.range (j+1)).map fun j=>V.int ((it xs j m:Nat):Int))),
   fun σ2 H2 ⟨e1,e2,e3⟩=>⟨stepsN n xs m-(j+1),by rfl',j+1,by rfl',rfl,e1,e2,e3⟩,?_⟩
  refine⟨_,rfl,_,rfl,am,_,rfl,DPut.k (k:=Sum.inl ((it xs j m:Nat):Int)) R'.dic (by unfold mt;rw[Aa];exact small1000 (by rfl')),?_⟩
  rw[wN6 mi,<-xH3]
  have R2:RgAt O H0 am ar n xs (fun b=>b=g) m (metN n xs m (j+1)) vs (L2.upd H' am (.dK (mt (metN n xs m (j+1))))):=R'.put hm0 d3
  have g2:(L2.upd H' am (.dK (mt (metN n xs m (j+1))))) g=some (.lst ((List.range j).map fun j=>V.int ((it xs j m:Nat):Int))):=by
   rw[zG d1];exact hg'
  refine⟨_,rfl,.inl ⟨rfl,_,SqL.of g2⟩,_,rfl,g,_,_,rfl,rfl,g2,by rw[Aa,Aq];exact small1000 (by rfl'),?_⟩
  have R3:=R2.upd (ho:=.lst (((List.range j).map fun j=>V.int ((it xs j m:Nat):Int)) ++ [V.int ((it xs j m:Nat):Int)])) hg0 rfl d1 d2
  have hi:=o.qJ hm j
  have ix:atI (xs.map V.int) ((it xs j m:Nat):Int)=some (V.int ((it xs (j+1) m:Nat):Int)):=by
   rw[zR6,zK3 (by rw[o.len];exact hi),o.aY hi]
   rfl
  refine⟨_,rfl,_,rfl,a0,_,_,_,rfl,rfl,.inl (wC h0 fun o e=>R3.same _ o e),ix,rfl,R3,?_⟩
  rw[yP,Ch,AK]
  rfl
theorem dP:∀m,(rgs n xs m).length<=m
 | 0=>Ab _
 | m+1=>by
  have:=dP m
  rw[rgs]
  split
  ·rfl'
  ·rw[An,Bm];rfl'
theorem xA5(o:Ord n xs)(hn:n<=400){K:KFr}{O:Addr->Prop}{H0:Hp}(oh:∀a,O a->H0 a≠none){a0:Addr}(h0:Rd H0 a0 (.tup (xs.map V.int))){E:Ends}
  (k:∀v H',Same H0 H'->CallOk true O H0 H' v (.list (ringsR n xs n))->E.rt v H'):tRg K E [some (.ref a0),none,none,none,none,none] H0:=by
 intro am ham
 refine⟨Bk _,fun ar har => ?_⟩
 have d3:am≠ar:=fun z=>by rw[z,yP] at har;cases har
 have har0:H0 ar=none:=by rw[zG (fun z=>d3 z.symm)] at har;exact har
 have hl:(xs.map V.int).length=n:=by rw[Aa];exact o.len
 have S1:Same H0 (L2.upd (L2.upd H0 am (.dK [])) ar (.lst [])):=fun b ob e=>by
  rw[zG (fun z=>by rw[z,har0] at e;cases e),zG (fun z=>by rw[z,ham] at e;cases e)]
  exact e
 refine⟨_,rfl,a0,_,rfl,.inr (.inl (wC h0 fun ob e=>S1 _ ob e)),_,rfl,by rfl',by rfl',?_⟩
 rw[hl,AW]
 refine yV8 (fun i σ H=>∃x y z vs,σ=[some (.ref a0),some (.ref am),some (.ref ar),x,y,z]/\RgAt O H0 am ar n xs (fun _=>False) i (rgs n xs i).flatten vs H) ⟨none,none,none,[],rfl,S1,?_,yP,.nil⟩ ?_ ?_
 ·rw[zG d3,yP]
  rfl
 ·rintro i σ H hi ⟨x,y,z,vs,rfl,R⟩
  rw[Cz]
  refine⟨Bk _,fun g hg => ?_⟩
  have hg0:H0 g=none:=R.same.free hg
  have d1:g≠am:=fun z=>by rw[z,R.dic] at hg;cases hg
  have d2:g≠ar:=fun z=>by rw[z,R.lst] at hg;cases hg
  have R1:RgAt O H0 am ar n xs (fun b=>b=g) i (metN n xs i 0) vs (L2.upd H g (.lst [])):=by
   refine⟨fun b ob e => ?_,?_,?_,?_⟩
   ·rw[zG (fun z=>by rw[z,hg0] at e;cases e)];exact R.same b ob e
   ·rw[zG (fun z=>d1 z.symm),R.dic]
    unfold metN
    rw[List.range_zero,Cj,BC]
   ·rw[zG (fun z=>d2 z.symm)];exact R.lst
   ·refine R.reps.keep (fun b ob e _=>by rw[zG (fun z=>by rw[z,hg] at e;cases e)];exact e) fun b hb q => ?_
    rcases q with q | q | q | q
    ·exact .inl q
    ·exact .inr (.inl q)
    ·exact .inr (.inr (.inl q))
    ·exact (hb (by rw[q];exact hg)).elim
  refine⟨_,rfl,?_⟩
  refine xF2 o hn h0 hg0 ham d1 d2 d3 hi R1 yP fun H2 R2 hg2 => ?_
  refine⟨_,rfl,g,_,rfl,.inl (SqL.of hg2),_,_,rfl,rfl,_,rfl,?_⟩
  show (if _=true then _ else _)
  rw[Aa,Aq]
  have mE:=wX8 (n:=n) (xs:=xs) i
  by_cases c:has (rgs n xs i) i=true
  ·have s0:stepsN n xs i=0:=Ac c
   have e1:rgs n xs (i+1)=rgs n xs i:=by rw[rgs,Ac c]
   rw[s0,Ah (by decide)]
   refine⟨_,_,_,vs,rfl,R2.same,?_,R2.lst,?_⟩
   ·rw[R2.dic,mE]
   ·unfold ringsR
    rw[e1]
    exact R2.reps.less fun b q=>by
     rcases q with q | q | q | q
     ·exact .inl q
     ·exact .inr (.inl q)
     ·exact .inr (.inr (.inl q))
     ·exact q.elim
  ·have s0:stepsN n xs i=per n xs i:=Ah c
   have e1:rgs n xs (i+1)=rgs n xs i ++ [ring n xs i]:=by rw[rgs,Ah c]
   obtain⟨a1,a2,_⟩:=o.yE hi
   rw[Ac (Ag (by rw[s0];rfl'))]
   have vl:vs.length<=n:=by
    have:=R2.reps.length
    unfold ringsR at this
    rw[Aa] at this
    have:=dP (n:=n) (xs:=xs) i
    rfl'
   refine⟨_,rfl,.inl ⟨rfl,_,SqL.of R2.lst⟩,_,rfl,ar,_,_,rfl,rfl,R2.lst,small1000 (by rfl'),?_⟩
   refine⟨_,_,_,vs ++ [.ref g],rfl,fun b ob e => ?_,?_,yP,?_⟩
   ·rw[zG (fun z=>by rw[z,har0] at e;cases e)];exact R2.same b ob e
   ·rw[zG d3,R2.dic,mE]
   ·unfold ringsR
    rw[e1,AK]
    refine Reps.append (R2.reps.keep (fun b ob e q=>by rw[zG (fun z=>q (.inr (.inl z)))];exact e) fun b _ q => ?_) (.cons (.lst (.inl ?_) ?_ (cB (rgI (ring n xs i)))) .nil)
    ·rcases q with q | q | q | q
     ·exact .inl q
     ·exact .inr (.inl q)
     ·exact .inr (.inr (.inl q))
     ·exact q.elim
    ·rw[zG d2,hg2,s0]
     unfold rgI ring
     rw[Av,Av]
     rfl
    ·intro q
     rcases q with q | q | q | q
     ·exact oh g q hg0
     ·exact d2 q
     ·exact d1 q
     ·exact q
 ·rintro σ H ⟨x,y,z,vs,rfl,R⟩
  refine⟨_,rfl,k _ H R.same ⟨ar,vs,_,rfl,rfl,har0,R.lst,R.reps.less fun b q => ?_⟩⟩
  rcases q with q | q
  ·exact .inl q
  ·exact .inr (.inl q)
end
section
variable {P:Program}{w:World}{K:KFr}{mg:Str->Option Value}{base:Heap}
end
theorem zI6{ds:List D}{Q:D->Prop}{R:Str->Prop}(h:(ringsF ds).post Q R):∃(n:Nat) (xs:List Int),ds=[tI xs]/\Ord n xs/\n<=400/\Q (.list (ringsR n xs n)):=by
 unfold ringsF at h
 split at h
 ·split at h
  ·rename_i es xs e
   have e':=gL e
   subst e'
   split at h
   ·rename_i c
    exact⟨_,xs,rfl,c.1,c.2,h⟩
   ·exact h.elim
  ·exact h.elim
 ·exact h.elim
section
variable {P:Program}{w:World}{K:KFr}{mg:Str->Option Value}{base:Heap}
theorem xT2{x:Str}{st:Stmt}{f:Addr}{fd:FuncData}{N ps:List Str}{k:Nat}(F:Fun K x x st f fd)(S:zH N ps (zP st))(hp:ps.length=1)(hN:N.length=6)
  (hbody:∀(cdv:Value) (A:Around) (outer:List Env) (s:Shared) (H:Hp) (E:XK),Room k (A.deeper (envOfC x (zP st) s.heap.objs.size f cdv))->PSs (bodyX P w K mg base N x (zP st) f cdv A outer s H E []).X (defBody st) (tRg K)) :
  FnOk P w K mg base (CXV P w) (k+1) f fd ps (spX true ringsF):=by
 have len:∀(vs:List V) (H:Hp) (Q:VK) (E:XK),spX true ringsF vs H Q E->vs.length=ps.length:=fun vs H Q E h=>by
  obtain⟨ds,O,oh,r,k⟩:=h
  obtain⟨n,xs,rfl,_⟩:=zI6 k
  rw[r.length,hp]
  rfl
 obtain⟨oc,od,kV,doc,pm,an,cdv,ct,osl,rfl,lk,hcd⟩:=F.ex
 refine xW3 lk hcd S len fun A outer s H vs Q E hr h => ?_
 obtain⟨ds,O,oh,r,k⟩:=h
 obtain⟨n,xs,rfl,o,hn,k⟩:=zI6 k
 refine⟨_,hbody cdv A outer s H E hr,?_⟩
 cases r with
 | cons r1 r2 =>
  cases r2
  cases r1 with
  | tup rd no rs =>
   have e:=rs.ints
   subst e
   have st:∀a:Addr,start N [V.ref a]=[some (.ref a),none,none,none,none,none]:=fun a=>by
    unfold start
    rw[hN]
    rfl
   rw[st]
   exact xA5 o hn oh rd fun v H' s c=>k v H' s c
end
section
variable {P:Program}{w:World}{K:KFr}{mg:Str->Option Value}{base:Heap}{CX:CXT}{k:Nat}{f:Addr}{fd:FuncData}{ps:List Str}
theorem wC9{sp:Sp}(F:FnOk P w K mg base CX0 k f fd ps sp):FnOk P w K mg base CX k f fd ps sp :=
 ⟨F.len,fun A outer s H args us vs Q E hr he hb hv hs=>codeAny_mono (F.run A outer s H args us vs Q E hr he hb hv hs) fun r s' h=>by
  cases r with
  | ok fl =>
   cases fl with
   | ret u=>exact h
   | _=>exact h
  | error e=>exact h.elim⟩
theorem wI5{F:List D->Res D}{fr:Bool}(no:∀ds c,F ds ≠ .ex c)(G:FnOk P w K mg base CX0 k f fd ps (spF fr F)):FnOk P w K mg base CX k f fd ps (spX fr F) :=
 (wC9 G).imp fun vs H Q E h=>by
  obtain⟨ds,O,oh,r,q⟩:=h
  refine⟨ds,O,oh,r,?_⟩
  cases e:F ds with
  | ok d=>rw[e] at q;exact q
  | no=>rw[e] at q;exact q
  | ex c=>exact absurd e (no ds c)
end
end L2.L3
namespace L2
open PySem PySem.Spec PyProof.Rows
structure M2(X:Cx)(o:Expr)(m:Str)(apos:Pos)(e f:Expr)(cpos:Pos):Prop where
 base:attributeBase o m X.env (eval o X.env)=eval o X.env
 few:((backTo cpos (starEach [e,f] X.env)).all (fun x=>!x.1)&&(backToKw cpos (keywordEach [] X.env)).all (fun x=>x.1.isSome)
 &&decide (([e,f]:List Expr).length+([]:List Keyword).length+(if ([]:List Keyword).isEmpty then 0 else 1)<30))=true
 line:(apos.endLine == cpos.line)=true
 trees:backTo cpos (starEach [e,f] X.env)=[(false,eval e X.env),(false,eval f X.env)]
def IsD(H:Hp)(a:Addr):Prop:=(∃kvs,Rd H a (.dK kvs))\/∃kvs,Rd H a (.dT kvs)
theorem wK3{X:Cx}{Ec:List (Addr×Obj)}{σ:St}{H:Hp}{s:Shared}{a:Addr}(I:Inv X Ec σ H s)(d:IsD H a) :
  s.TypeIs (.ref a) "dict"/\(∀b,Value.ref a=.ref b->∃ob,s.heap.get? b=some ob/\ob.dict=none)/\(a == sysModules)=false:=by
 rcases d with ⟨kvs,e⟩ | ⟨kvs,e⟩
 ·obtain⟨_,hd,vs,_,dd⟩:=yS5 I.hok e
  refine⟨dd.typeIs,fun b q => ?_,hd⟩
  cases q
  obtain⟨ob,_,_,h1,h2,_⟩:=dd
  exact⟨ob,h1,h2.2.1⟩
 ·obtain⟨_,hd,xs,_,dd⟩:=yS8 I.hok e
  refine⟨dd.typeIs,fun b q => ?_,hd⟩
  cases q
  obtain⟨ob,_,_,h1,h2,_⟩:=dd
  exact⟨ob,h1,h2.2.1⟩
section
variable {X:Cx}{Ec:List (Addr×Obj)}{σ:St}{H:Hp}{s:Shared}{a:Addr}{y d:V}{u r:Value}{o:Option V}{A:Around}{E:Value->Shared->Prop}
theorem wH2{Q:Value->Shared->Prop}(hu:A.units+1<cLine)(I:Inv X Ec σ H s)(g:DGet H a y o)(ry:RelV y u)(rd:RelV d r)(h:∀w' s',Inv X Ec σ H s'->RelV (o.getD d) w'->Q w' s') :
  wpAny (model X.prog X.w) A (call (.builtin "dict.get") [.ref a,u,r]) Q E s:=by
 rcases g with ⟨kvs,k,e,ey,l⟩ | ⟨kvs,k,b,e,ey,eb,l⟩
 ·subst ey
  obtain⟨z,hd,vs,rel,dd⟩:=yS5 I.hok e
  refine call_meetsIn Dz dd.typeIs PySem.F.entry_dict_get (PySem.F.args_dict_get_3 _ _ _) (meets_dict_get_default (mixKind X.prog X.w) a (yR7 ry) hd r) ⟨_,dd.mapOf,h _ _ (I.tok _) ?_⟩
  rw[l]
  exact (rel.val k).getD rd
 ·subst ey
  cases (show u=Value.ref b from ry)
  obtain⟨z,hd,xs,rel,dd⟩:=yS8 I.hok e
  refine call_meetsIn Dz dd.typeIs PySem.F.entry_dict_get (PySem.F.args_dict_get_3 _ _ _) (meetsH_dict_get_default (tupleKind (mixKind X.prog X.w)) a b hd r) ⟨tupleKind_room_in1 hu,k,xs,zI5 I.hok eb,dd,h _ _ (I.tok _) ?_⟩
  rw[l]
  exact (rel.val k).getD rd
end
def tDGet2(td ty tx:TE):TE:=fun σ H Q=>td σ H fun x H1=>∃a,x=.ref a/\IsD H1 a/\ty σ H1 fun y H2=>tx σ H2 fun z H3=>∃o,DGet H3 a y o/\Q (o.getD z) H3
section
variable {X:Cx}{o e f:Expr}{apos cpos:Pos}{td ty tx:TE}
theorem xC6(hu:X.A.units+1<cLine)(ho:PE X o td)(he:PE X e ty)(hf:PE X f tx)(m:M2 X o "get" apos e f cpos):PE X (.Call (.Attribute o "get" apos) [e,f] [] cpos) (tDGet2 td ty tx):=by
 intro Ec s σ H Q I h
 refine wpAny_Call_method m.base m.few m.line PySem.F.plainAttrs_dict Dz PySem.F.type_dict_get (thn (ho Ec s σ H _ I h) fun u s1 ⟨x,H1,I1,rx,a,ex,d,q1⟩ => ?_)
 subst ex
 obtain rfl:u=Value.ref a:=rx
 obtain⟨t1,t2,_⟩:=wK3 I1 d
 refine⟨t1,t2,?_⟩
 rw[m.trees]
 refine Du rfl (DH (DQ (thn (he Ec s1 σ H1 _ I1 q1) fun iv s2 ⟨y,H2,I2,ry,q2⟩ =>
  DQ (thn (hf Ec s2 σ H2 _ I2 q2) fun fv s3 ⟨z,H3,I3,rz,ov,g,q3⟩=>Calls.spliced_nil ?_))))
 exact wH2 hu I3 g ry rz fun w' s4 I4 rw'=>⟨_,H3,I4,rw',q3⟩
end
end L2
namespace L2.L3
open PySem PySem.Spec PyProof.Rows MR
variable [CN]
section
omit [CN]
def unRow:D->D->Option (Option (Int×Int×Str×Int))
 | .tuple [_,.str w,a,b,m],.str s=>if PyData.strOk w=true then (if w="goodorder" then (match a,b,m with
  | .int x,.int y,.int z=>some (some (x,y,s,z))
  | _,_,_=>none) else some none) else none
 | _,_=>none
def unRows:List D->List D->Option (List (Option (Int×Int×Str×Int)))
 | [],[]=>some []
 | r::rs,a::as=>(unRow r a).bind fun u=>(unRows rs as).map fun us=>u::us
 | _,_=>none
def UnCons(us:List (Option (Int×Int×Str×Int))):Prop:=∀(i j:Nat) (x y:Int) (s:Str) (z z':Int),us[i]?=some (some (x,y,s,z))->us[j]?=some (some (x,y,s,z'))->z=z'
open Classical in
def unF:List D->Res D
 | [.list rs,.list as]=>match unRows rs as with
  | some us=>if rs.length<=1000/\UnCons us then .ok (.bool true) else .no
  | none=>.no
 | _=>.no
open Classical in
theorem wM6{rs as:List D}{us:List (Option (Int×Int×Str×Int))}(h:unRows rs as=some us)(hl:rs.length<=1000)(hc:UnCons us):unF [.list rs,.list as]=.ok (.bool true):=by
 show (match unRows rs as with | some us=>if rs.length<=1000/\UnCons us then Res.ok (PyData.bool true) else .no | none=>.no)=_
 rw[h]
 exact Ac ⟨hl,hc⟩
theorem xR7{ds:List D}{Q:D->Prop}{E:Str->Prop}(h:(unF ds).post Q E):∃rs as us,ds=[.list rs,.list as]/\unRows rs as=some us/\rs.length<=1000/\UnCons us/\Q (.bool true):=by
 unfold unF at h
 split at h
 ·split at h
  ·rename_i us e
   split at h
   ·rename_i c
    exact⟨_,_,us,rfl,e,c.1,c.2,h⟩
   ·exact h.elim
  ·exact h.elim
 ·exact h.elim
theorem wQ8{ds:List D}{c:Str}:unF ds ≠ .ex c:=by
 intro h
 unfold unF at h
 split at h
 ·split at h
  ·split at h <;> cases h
  ·cases h
 ·cases h
theorem zK9:∀{rs as:List D}{us:List (Option (Int×Int×Str×Int))},unRows rs as=some us->∀(i:Nat) (r:D),rs[i]?=some r->∃a u,as[i]?=some a/\us[i]?=some u/\unRow r a=some u
 | [],_,_,_,i,r,e=>by simp at e
 | r::rs,[],_,h,_,_,_=>by cases h
 | r::rs,a::as,us,h,i,q,e=>by
  unfold unRows at h
  obtain⟨u,h1,h2⟩:=AC.mp h
  obtain⟨vs,h3,rfl⟩:=Az.mp h2
  cases i with
  | zero =>
   cases e
   exact⟨a,u,rfl,rfl,h1⟩
  | succ i =>
   obtain⟨b,v,e1,e2,e3⟩:=zK9 h3 i q e
   exact⟨b,v,e1,e2,e3⟩
theorem xH9{r a:D}{u:Option (Int×Int×Str×Int)}(h:unRow r a=some u):∃t w a2 b2 m2 s,r=.tuple [t,.str w,a2,b2,m2]/\a=.str s/\PyData.strOk w=true/\((w="goodorder"/\∃x y z,a2=.int x/\b2=.int y/\m2=.int z/\u=some (x,y,s,z))\/(w ≠ "goodorder"/\u=none)):=by
 unfold unRow at h
 split at h
 ·rename_i t w a2 b2 m2 s
  split at h
  ·rename_i ok
   refine⟨t,w,a2,b2,m2,s,rfl,rfl,ok,?_⟩
   split at h
   ·rename_i g
    split at h
    ·cases h
     exact .inl ⟨g,_,_,_,rfl,rfl,rfl,rfl⟩
    ·cases h
   ·rename_i g
    cases h
    exact .inr ⟨g,rfl⟩
  ·cases h
 ·cases h
end
def kU(x y:Int)(s:Str):List Key:=[Sum.inl x,Sum.inl y,Sum.inr s]
def tRw(K:KFr):TE:=tOp (rIxL K) (tVar 0) (tVar 3)
def tRi(K:KFr)(i:Int):TE:=tOp (rIxT K) (tRw K) (tC (.int i))
def tUnT(K:KFr):TT:=tTest (tOp (rEqD K false) (tRi K 1) (tC (.str "goodorder")))
def tUnS(K:KFr):TE:=tOp (rCatU K) (tSl (rSlT K) (tRw K) (tPart (tC (.int 2))) (tPart (tC (.int 4)))) (tTup (dS (tOp (rIxL K) (tVar 1) (tVar 3)) tNil))
def tUnC(K:KFr):TT:=tTest (tOp (rEqD K true) (tDGet2 (tVar 2) (tVar 4) (tRi K 4)) (tRi K 4))
def tUnB(K:KFr):TS:=tIfS (tUnT K) (tSeq (tAsg (tUnS K) (gName 4)) (tSeq (tIfS (tUnC K) (tRet (tC (.bl false))) tNext) (sDPut (tVar 2) (tVar 4) (tRi K 4)))) tNext
def tUnl(K:KFr):TS:=tSeq (tAsg tDNewT (gName 2)) (tSeq (tFor (iRng1 (dS (tCB (rLenS K) (dS (tVar 0) tNil)) tNil)) (gName 3) (tUnB K)) (tRet (tC (.bl true))))
section
variable {K:KFr}{H0:Hp}{pr pa am:Addr}{xs ys:List V}{rs as:List D}{us:List (Option (Int×Int×Str×Int))}{O:Addr->Prop}
structure UnAt(H0:Hp)(am:Addr)(us:List (Option (Int×Int×Str×Int)))(i:Nat)(H:Hp):Prop where
 same:Same H0 H
 dic:∃kvs,H am=some (.dT kvs)/\kvs.length<=i/\∀key v,valV kvs key=some v->∃(j:Nat) (x y:Int) (s:Str) (z:Int),us[j]?=some (some (x,y,s,z))/\key=kU x y s/\v=.int z
theorem UnAt.more{i:Nat}{H:Hp}(U:UnAt H0 am us i H):UnAt H0 am us (i+1) H :=
 let ⟨kvs,a,b,c⟩:=U.dic
 ⟨U.same,kvs,a,by rfl',c⟩
theorem UnAt.new{i:Nat}{H:Hp}{p:Addr}{o:HO}(U:UnAt H0 am us i H)(hp:H p=none):UnAt H0 am us i (L2.upd H p o):=by
 obtain⟨kvs,a,b,c⟩:=U.dic
 exact⟨U.same.trans (Same.new hp),kvs,Same.new hp _ _ a,b,c⟩
theorem wU7(h0:H0 am=none)(hr:Rd H0 pr (.lst xs))(rr:Reps H0 O xs rs)(ha:Rd H0 pa (.lst ys))(ra:Reps H0 O ys as)(hu:unRows rs as=some us)(hc:UnCons us)(hl:rs.length<=1000){i:Nat}{H:Hp}{E:Ends}{u4:Option V}(hi:i<rs.length)(U:UnAt H0 am us i H)
  (k:∀H' v4,UnAt H0 am us (i+1) H'->E.nx [some (.ref pr),some (.ref pa),some (.ref am),some (.int (i:Int)),v4] H') :
  tUnB K E [some (.ref pr),some (.ref pa),some (.ref am),some (.int (i:Int)),u4] H:=by
 have er:rs[i]?=some rs[i]:=Ae hi
 obtain⟨a,u,ea,eu,eru⟩:=zK9 hu i _ er
 obtain⟨t,w,a2,b2,m2,s,e1,e2,ok,cs⟩:=xH9 eru
 obtain⟨v,ev,rv⟩:=rr.get er
 obtain⟨va,eva,rva⟩:=ra.get ea
 rw[e1] at rv
 rw[e2] at rva
 cases rva
 cases rv with
 | @tup q ws _ rq nq rws =>
 cases rws with
 | @cons w0 _ _ _ r0 rws =>
 cases rws with
 | cons r1 rws =>
 cases rws with
 | @cons w2 _ _ _ r2 rws =>
 cases rws with
 | @cons w3 _ _ _ r3 rws =>
 cases rws with
 | @cons w4 _ _ _ r4 rws =>
 cases rws
 cases r1
 have row:∀(H':Hp) (Q:VK) (x2 x4:Option V),Same H0 H'->Q (.ref q) H'->tRw K [some (.ref pr),some (.ref pa),x2,some (.int (i:Int)),x4] H' Q:=fun H' Q x2 x4 sm h =>
  ⟨_,rfl,_,rfl,pr,xs,(i:Int),.ref q,rfl,rfl,.inl (wC hr fun o e=>sm _ _ e),qM ev,h⟩
 have at':∀(H':Hp) (Q:VK) (x2 x4:Option V) (j:Int) (z:V),Same H0 H'->atI [w0,V.str w,w2,w3,w4] j=some z->Q z H'->tRi K j [some (.ref pr),some (.ref pa),x2,some (.int (i:Int)),x4] H' Q:=fun H' Q x2 x4 j z sm e h =>
  row H' _ x2 x4 sm ⟨q,_,j,z,rfl,rfl,.inl (wC rq fun o e=>sm _ _ e),e,h⟩
 have okg:PyData.strOk "goodorder" = true:=by decide +kernel
 have shp:∀z:Str,PyData.strOk z=true->SeqAt.shaped (.str z)=true:=fun z h=>by
  unfold SeqAt.shaped
  rw[PyData.canLay0,PyData.depth,h]
  rfl
 refine at' H _ _ _ 1 (.str w) U.same rfl ⟨.str w,.str "goodorder",.str _,.str _,shp _ ok,shp _ okg,_,rfl,?_⟩
 have ev2:(if false=true then !PyData.eqv (.str w) (.str "goodorder") else PyData.eqv (.str w) (.str "goodorder"))=decide (w="goodorder"):=by
  rw[Ah AG,PyData.eqv]
  by_cases e:w="goodorder" <;> simp[e]
 rw[ev2]
 rcases cs with ⟨g,x,y,z,rfl,rfl,rfl,rfl⟩ | ⟨g,rfl⟩
 ·rw[Ag g]
  refine iteT ?_
  cases r2
  cases r3
  cases r4
  refine row H _ _ _ U.same ⟨2,rfl,4,rfl,q,_,rfl,.inl (wC rq fun o e=>U.same _ _ e),(show ¬(HT.sIx 5 0 (some 2)=0/\HT.sIx 5 5 (some 4)=5) by decide),fun p1 h1 => ?_⟩
  have U1:=U.new (o:=.tup (cutV [w0,V.str w,V.int x,V.int y,V.int z] (some 2) (some 4))) h1
  have cut:cutV [w0,V.str w,V.int x,V.int y,V.int z] (some 2) (some 4)=[V.int x,V.int y]:=rfl
  rw[cut] at U1 ⊢
  have g1:(L2.upd H p1 (.tup [V.int x,V.int y])) p1=some (.tup [V.int x,V.int y]):=yP
  generalize (L2.upd H p1 (.tup [V.int x,V.int y]))=H1 at U1 g1
  refine⟨_,rfl,_,rfl,pa,ys,(i:Int),.str s,rfl,rfl,.inl (wC ha fun o e=>U1.same _ _ e),qM eva,by show 1<=sizeLine;decide,fun p2 h2 => ?_⟩
  have U2:=U1.new (o:=.tup [.str s]) h2
  have g2:(L2.upd H1 p2 (.tup [V.str s])) p2=some (.tup [V.str s]):=yP
  have g1':=Same.new (o:=.tup [V.str s]) h2 _ _ g1
  generalize (L2.upd H1 p2 (.tup [V.str s]))=H2 at U2 g2 g1'
  refine⟨p1,p2,_,_,rfl,rfl,.inl (.inl g1'),.inl (.inl g2),by show 3<=sizeLine;decide,(fun z=>nomatch z),(fun _ z=>nomatch z),fun _ _ p3 h3 => ?_⟩
  have U3:=U2.new (o:=.tup ([V.int x,V.int y] ++ [V.str s])) h3
  have g3:(L2.upd H2 p3 (.tup ([V.int x,V.int y] ++ [V.str s]))) p3=some (.tup ((kU x y s).map kV)):=yP
  generalize (L2.upd H2 p3 (.tup ([V.int x,V.int y] ++ [V.str s])))=H3 at U3 g3
  obtain⟨kvs,d1,d2,d3⟩:=U3.dic
  have val:(valV kvs (kU x y s)).getD (.int z)=.int z:=by
   cases e:valV kvs (kU x y s) with
   | none=>rfl
   | some v =>
    obtain⟨j,x',y',s',z',uj,ek,rfl⟩:=d3 _ _ e
    unfold kU at ek
    injection ek with k1 ek
    injection ek with k2 ek
    injection ek with k3 _
    cases k1
    cases k2
    cases k3
    rw[hc j i x y s z' z uj eu]
    rfl
  show tSeq (tIfS (tUnC K) (tRet (tC (.bl false))) tNext) (sDPut (tVar 2) (tVar 4) (tRi K 4)) E [some (.ref pr),some (.ref pa),some (.ref am),some (.int (i:Int)),some (.ref p3)] H3
  refine⟨_,rfl,am,rfl,.inr ⟨kvs,.inl d1⟩,_,rfl,at' H3 _ _ _ 4 (.int z) U3.same rfl ⟨_,DGet.t d1 g3,?_⟩⟩
  rw[val]
  refine at' H3 _ _ _ 4 (.int z) U3.same rfl ⟨.int z,.int z,.int z,.int z,rfl,rfl,_,rfl,?_⟩
  have ne:(if true=true then !PyData.eqv (.int z) (.int z) else PyData.eqv (.int z) (.int z))=false:=by
   rw[Ac rfl,PyData.eqv]
   simp
  rw[ne]
  refine iteF ?_
  refine at' H3 _ _ _ 4 (.int z) U3.same rfl ⟨_,rfl,_,rfl,am,_,rfl,DPut.t d1 g3 (by have big:(1000:Nat)<sizeLine:=(by decide);rfl'),?_⟩
  refine k _ _ ⟨fun b o e => ?_,_,yP,AH (bL ..) (by rfl'),fun key v e => ?_⟩
  ·rw[zG (fun z=>by rw[z,h0] at e;cases e)]
   exact U3.same b o e
  ·rw[xG5] at e
   split at e
   ·rename_i c
    cases e
    exact⟨i,x,y,s,z,eu,c,rfl⟩
   ·exact d3 key v e
 ·rw[Ad g]
  exact iteF (k H _ U.more)
theorem wU9(hr:Rd H0 pr (.lst xs))(rr:Reps H0 O xs rs)(ha:Rd H0 pa (.lst ys))(ra:Reps H0 O ys as)(hu:unRows rs as=some us)(hc:UnCons us)(hl:rs.length<=1000){E:Ends}
  (k:∀H',Same H0 H'->E.rt (.bl true) H'):tUnl K E [some (.ref pr),some (.ref pa),none,none,none] H0:=by
 intro am ham
 have S1:Same H0 (L2.upd H0 am (.dT [])):=Same.new ham
 have ln:=rr.length
 refine⟨_,rfl,pr,xs,rfl,.inl (.inl (wC hr fun o e=>S1 _ _ e)),_,rfl,by rfl',by rfl',?_⟩
 rw[AW,ln]
 refine yV8 (fun i σ H=>∃x y,σ=[some (.ref pr),some (.ref pa),some (.ref am),x,y]/\UnAt H0 am us i H) ⟨none,none,rfl,S1,[],yP,Bk _,fun key v e=>by cases e⟩ ?_ ?_
 ·rintro i σ H hi ⟨x,y,rfl,U⟩
  rw[Cz]
  exact wU7 ham hr rr ha ra hu hc hl hi U fun H' v4 U'=>⟨_,_,rfl,U'⟩
 ·rintro σ H ⟨x,y,rfl,U⟩
  exact k H U.same
end
section
variable {P:Program}{w:World}{K:KFr}{mg:Str->Option Value}{base:Heap}
theorem wJ1{x:Str}{st:Stmt}{f:Addr}{fd:FuncData}{N ps:List Str}{j:Nat}(F:Fun K x x st f fd)(S:zH N ps (zP st))(hp:ps.length=2)(hN:N.length=5)
  (hbody:∀(cdv:Value) (A':Around) (outer:List Env) (s:Shared) (H:Hp) (E:XK),Room j (A'.deeper (envOfC x (zP st) s.heap.objs.size f cdv))->PSs (cxOf CX0 P w K mg base N x (zP st) f cdv A' outer s H E).nox (defBody st) (tUnl K)) :
  FnOk P w K mg base CX0 (j+1) f fd ps (spF false unF):=by
 refine F.ok S (fun vs H Q E ⟨ds,O,oh,r,q⟩ => ?_) fun cdv A' outer s H vs Q E hr h => ?_
 ·obtain⟨rs,as,us,rfl,_⟩:=xR7 q
  rw[r.length,hp]
  rfl
 ·obtain⟨ds,O,oh,r,q⟩:=h
  obtain⟨rs,as,us,rfl,h1,h2,h3,q2⟩:=xR7 q
  refine⟨_,hbody cdv A' outer s H E hr,?_⟩
  cases r with
  | @cons v1 _ _ _ r1 r =>
  cases r with
  | @cons v2 _ _ _ r2 r =>
  cases r
  cases r1 with
  | @lst pr xs _ d1 n1 s1 =>
  cases r2 with
  | @lst pa ys _ d2 n2 s2 =>
  have st:start N [V.ref pr,V.ref pa]=[some (.ref pr),some (.ref pa),none,none,none]:=by
   unfold start
   rw[hN]
   rfl
  rw[st]
  exact wU9 d1 s1 d2 s2 h1 h3 h2 fun H' sm=>q2 _ H' sm (Rep.bl true)
end
end L2.L3
namespace MR
def rg(n:Nat):List Int:=(List.range n).map fun (i:Nat)=>(i:Int)
theorem xM6(n:Nat):(rg n).length=n:=by unfold rg;simp
theorem xM5{n:Nat}{a:Int}:a∈rg n↔0<=a/\a<n:=by
 unfold rg
 simp only[AE,AB]
 constructor
 ·rintro ⟨i,hi,rfl⟩;rfl'
 ·intro h;exact⟨a.toNat,by rfl',by rfl'⟩
theorem xB7(n:Nat):(rg n).Pairwise (· < ·):=by
 unfold rg
 rw[Dw]
 exact List.Pairwise.imp (fun h=>by rfl') (Cl (n:=n))
theorem yK3(n:Nat):(rg n).Nodup:=(xB7 n).imp fun h=>by rfl'
theorem wC1(n:Nat):(rg n).Pairwise (· <= ·):=(xB7 n).imp fun h=>by rfl'
theorem yG6{a b:List Int}(p:a.Perm b)(ha:a.Pairwise (· <= ·))(hb:b.Pairwise (· <= ·)):a=b :=
 p.eq_of_pairwise (fun x y _ _ h1 h2=>by rfl') ha hb
theorem xY3{xs:List Int}(h:xs.Nodup){i j:Nat}(hi:i<xs.length)(hj:j<xs.length)(e:xs.getD i 0=xs.getD j 0):i=j:=by
 rw[Ak,Ae hi,Ak,Ae hj] at e
 have e:xs[i]=xs[j]:=e
 rcases By i j with q | q | q
 ·exact absurd e (BI.mp h i j hi hj q)
 ·exact q
 ·exact absurd e.symm (BI.mp h j i hj hi q)
theorem getD_mem{xs:List Int}{i:Nat}(h:i<xs.length):xs.getD i 0∈xs:=by
 rw[List.getD,Ae h]
 exact List.getElem_mem h
theorem zP9{n:Nat}{xs:List Int}(p:xs.Perm (rg n)):Ord n xs:=by
 have hl:xs.length=n:=by rw[p.length_eq,xM6]
 have nd:xs.Nodup:=p.nodup_iff.mpr (yK3 n)
 exact⟨hl,fun i hi=>xM5.mp (p.mem_iff.mp (getD_mem (by rfl'))),fun i j hi hj e=>xY3 nd (by rfl') (by rfl') e⟩
theorem onto{n:Nat}{f:Nat->Nat}(h:∀i,i<n->f i<n)(hi:∀i j,i<n->j<n->f i=f j->i=j){c:Nat}(hc:c<n):∃i,i<n/\f i=c:=by
 refine Classical.byContradiction fun no => ?_
 obtain⟨i,j,h1,h2,e⟩:=pigeon n (fun i=>if i=n then c else f i) fun i hi'=>by
  show (if i=n then c else f i)<n
  split
  ·exact hc
  ·exact h i (by rfl')
 have e:(if i=n then c else f i)=(if j=n then c else f j):=e
 rw[Ah (show i≠n by rfl')] at e
 by_cases q:j=n
 ·rw[Ac q] at e
  exact no ⟨i,by rfl',e⟩
 ·rw[Ah q] at e
  have:=hi i j (by rfl') (by rfl') e
  rfl'
def insAt(xs:List Int)(i:Nat)(v:Int):List Int:=xs.take i++v::xs.drop i
theorem xX8(xs:List Int)(i:Nat)(v:Int):(insAt xs i v).Perm (v::xs):=by
 unfold insAt
 have:=List.perm_middle (a:=v) (l₁:=xs.take i) (l₂:=xs.drop i)
 rwa [List.take_append_drop] at this
def lawOrd(cell:Int):Nat->List Int×Int
 | 0=>([],cell)
 | k+1=>(insAt (lawOrd cell k).1 ((lawOrd cell k).2%((k:Int)+1)).toNat k,(lawOrd cell k).2 / ((k:Int)+1))
theorem wY7(n:Nat):rg (n+1)=rg n ++ [(n:Int)]:=by unfold rg;rw[Ch,AK];rfl
theorem zN8(cell:Int):∀k,(lawOrd cell k).1.Perm (rg k)
 | 0=>List.Perm.refl _
 | k+1=>by
  rw[wY7]
  refine (xX8 _ _ _).trans ?_
  refine ((zN8 cell k).cons _).trans ?_
  exact (List.perm_append_singleton _ _).symm
theorem zE7(cell:Int)(n:Nat):Ord n (lawOrd cell n).1:=zP9 (zN8 cell n)
def ofN(n:Nat)(f:Nat->Nat):List Int:=(List.range n).map fun (b:Nat)=>((f b:Nat):Int)
theorem fC(n:Nat)(f:Nat->Nat):(ofN n f).length=n:=by unfold ofN;simp
theorem yD6{n:Nat}{f:Nat->Nat}{b:Nat}(h:b<n):(ofN n f).getD b 0=(f b:Int):=by
 unfold ofN
 simp[List.getD,h]
theorem wT8{n:Nat}{f g:Nat->Nat}(h:∀b,b<n->f b=g b):ofN n f=ofN n g:=by
 unfold ofN
 refine Bf fun b hb => ?_
 rw[h b (AB.mp hb)]
theorem wR6{n:Nat}{f:Nat->Nat}(h:∀b,b<n->f b<n)(i:∀b c,b<n->c<n->f b=f c->b=c):Ord n (ofN n f):=by
 refine zP9 ?_
 have nd:(ofN n f).Nodup:=by
  unfold ofN
  rw[List.nodup_iff_pairwise_ne,Dw]
  refine List.Pairwise.imp_of_mem ?_ (Cq (n:=n))
  intro a b ha hb ne e
  exact ne (i a b (AB.mp ha) (AB.mp hb) (by rfl'))
 rw[CY nd (yK3 n)]
 intro a
 rw[xM5]
 unfold ofN
 rw[AE]
 constructor
 ·rintro ⟨b,hb,rfl⟩
  have:=h b (AB.mp hb)
  rfl'
 ·rintro ⟨h1,h2⟩
  obtain⟨b,hb,e⟩:=onto (n:=n) (f:=f) h i (c:=a.toNat) (by rfl')
  exact⟨b,AB.mpr hb,by rfl'⟩
theorem yN1{n:Nat}{xs:List Int}(o:Ord n xs):ofN n (nxt xs)=xs:=by
 refine DE (by rw[fC,o.len]) fun b h1 h2 => ?_
 rw[fC] at h1
 have e:=yD6 (f:=nxt xs) h1
 rw[<-o.aY h1] at e
 rw[Ak,Ak,Ae (by rw[fC];exact h1),Ae h2] at e
 exact e
theorem Ord.ext{n:Nat}{xs ys:List Int}(o:Ord n xs)(o':Ord n ys)(h:∀b,b<n->nxt xs b=nxt ys b):xs=ys:=by
 rw[<-yN1 o,<-yN1 o',wT8 h]
end MR
namespace M12
def ff(n:Int):Nat->Int
 | 0=>1
 | j+1=>ff n j*(n-j)
def tot(least:Int)(many:List Int):Nat->Int
 | 0=>0
 | j+1=>if least<=(j:Int)+1 then tot least many j+ff ((many.length:Int)-1) j*many.getD (many.length-(j+1)) 0 else tot least many j
def mbl(least most:Int):Nat->List Int
 | 0=>[1]
 | n+1=>mbl least most n ++ [tot least (mbl least most n) (min most ((n:Int)+1)).toNat]
theorem xZ(least most:Int):∀n,(mbl least most n).length=n+1
 | 0=>rfl
 | n+1=>by rw[mbl,An,xZ least most n];rfl
theorem xZ1(least most:Int):∀(n i:Nat),i<=n->(mbl least most n).getD i 0=(mbl least most i).getD i 0
 | 0,i,h=>by
  have:i=0:=by rfl'
  subst this;rfl
 | n+1,i,h=>by
  by_cases e:i=n+1
  ·subst e;rfl
  ·have l:=xZ least most n
   rw[mbl,Ak,Bs (by rfl'),<-Ak]
   exact xZ1 least most n i (by rfl')
def G(least most:Int)(n:Nat):Int:=(mbl least most n).getD n 0
theorem yL(least most:Int)(n i:Nat)(h:i<=n):(mbl least most n).getD i 0=G least most i:=xZ1 least most n i h
def totG(least:Int)(A:Nat->Int)(c:Nat):Nat->Int
 | 0=>0
 | j+1=>if least<=(j:Int)+1 then totG least A c j+ff ((c:Int)-1) j*A (c-(j+1)) else totG least A c j
theorem zI1(least most:Int)(n:Nat):∀j,tot least (mbl least most n) j=totG least (G least most) (n+1) j
 | 0=>rfl
 | j+1=>by
  have l:=xZ least most n
  have e:(mbl least most n).getD (n+1-(j+1)) 0=G least most (n+1-(j+1)):=yL least most n _ (by rfl')
  rw[tot,totG,zI1 least most n j,l,e]
theorem zT5(least most:Int):G least most 0=1:=rfl
theorem uQ(least most:Int)(n:Nat):G least most (n+1)=totG least (G least most) (n+1) (min most ((n:Int)+1)).toNat:=by
 have l:=xZ least most n
 rw[<-zI1]
 unfold G
 rw[mbl,Ak,Bo (by rfl'),l]
 simp
theorem wM(n:Int):∀j,ff (n+1) (j+1)=(n+1)*ff n j
 | 0=>by simp[ff]
 | j+1=>by
  rw[ff,wM n j,ff]
  have:n+1-((j+1:Nat):Int)=n-(j:Int):=by rfl'
  rw[this,AD]
theorem zY8(A:Nat->Int)(c:Nat):∀j,totG 1 A (c+1) (j+1)=A c+(c:Int)*totG 1 A c j
 | 0=>by simp[totG,ff]
 | j+1=>by
  have h1:(1:Int)<=((j+1:Nat):Int)+1:=by rfl'
  have h2:(1:Int)<=(j:Int)+1:=by rfl'
  rw[totG,Ac h1,zY8 A c j]
  conv=>rhs;rw[totG,Ac h2]
  have e:(((c+1:Nat):Int)-1)=((c:Int)-1)+1:=by rfl'
  have e2:c+1-(j+1+1)=c-(j+1):=by rfl'
  rw[e,wM,e2,CZ,Int.add_assoc]
  congr 2
  have e3:(c:Int)-1+1=(c:Int):=by rfl'
  rw[e3,AD]
theorem xB9(k:Int)(hk:0<=k)(m:Nat) :
  G 1 k (m+1)=((m:Int)+1)*G 1 k m-(if k<(m:Int)+1 then ff (m:Int) k.toNat*G 1 k (m-k.toNat) else 0):=by
 rw[uQ]
 by_cases hkm:k<(m:Int)+1
 ·rw[Ac hkm]
  have e1:(min k ((m:Int)+1)).toNat=k.toNat:=by rfl'
  rw[e1]
  have key:totG 1 (G 1 k) (m+1) (k.toNat+1)=G 1 k m+(m:Int)*totG 1 (G 1 k) m k.toNat:=zY8 _ _ _
  have h1:(1:Int)<=(k.toNat:Int)+1:=by rfl'
  rw[totG,Ac h1] at key
  have e2:((m+1:Nat):Int)-1=(m:Int):=by rfl'
  have e3:m+1-(k.toNat+1)=m-k.toNat:=by rfl'
  rw[e2,e3] at key
  have last:(m:Int)*totG 1 (G 1 k) m k.toNat=(m:Int)*G 1 k m:=by
   cases m with
   | zero=>simp
   | succ p =>
    have:(min k ((p:Int)+1)).toNat=k.toNat:=by rfl'
    rw[uQ,this]
  rw[last] at key
  rw[CJ,Cp]
  rfl'
 ·rw[Ah hkm]
  have e1:(min k ((m:Int)+1)).toNat=m+1:=by rfl'
  rw[e1,zY8]
  have last:(m:Int)*totG 1 (G 1 k) m m=(m:Int)*G 1 k m:=by
   cases m with
   | zero=>simp
   | succ p =>
    have:(min k ((p:Int)+1)).toNat=p+1:=by rfl'
    rw[uQ,this]
  rw[last,CJ,Cp]
  rfl'
def lines(a:Int)(m:Int):Nat->Int
 | 0=>a
 | j+1=>lines a m j*(m-((j:Int)+1))
theorem zM2(a m:Int):∀j,lines a m j=a*ff (m-1) j
 | 0=>by simp[lines,ff]
 | j+1=>by
  rw[lines,zM2 a m j,ff,AD]
  congr 2
  rfl'
def ways(k:Int)(found:List Int)(m:Nat):Int :=
 if k<(m:Int) then (m:Int)*found.getD (m-1) 0-lines (found.getD (m-1-k.toNat) 0) m k.toNat else (m:Int)*found.getD (m-1) 0
def goods(k:Int):Nat->List Int
 | 0=>[1]
 | n+1=>goods k n ++ [ways k (goods k n) (n+1)]
theorem yL6(k k':Int)(hk:0<=k)(hk':0<=k'):∀n:Nat,(∀m:Nat,m<=n->(min k (m:Int))=min k' (m:Int))->goods k' n=mbl 1 k n
 | 0,_=>rfl
 | n+1,h=>by
  have ih:=yL6 k k' hk hk' n fun m hm=>h m (by rfl')
  have hm:=h (n+1) (Ab _)
  rw[goods,ih,mbl]
  congr 2
  rw[zI1,<-uQ,xB9 k hk]
  unfold ways
  have a1:n+1-1=n:=rfl
  rw[a1,yL 1 k n n (Ab _)]
  by_cases c:k<(n:Int)+1
  ·have ek:k'=k:=by rfl'
   subst ek
   have c':k'<((n+1:Nat):Int):=by rfl'
   rw[Ac c',Ac c,yL 1 k' n _ (by rfl'),zM2]
   have e2:((n+1:Nat):Int)-1=(n:Int):=by rfl'
   rw[e2,Bt (G 1 k' (n-k'.toNat))]
   rfl
  ·have c':¬k'<((n+1:Nat):Int):=by rfl'
   rw[Ah c',Ah c,Int.sub_zero]
   rfl
def B:Int:=2 ^ 400
end M12
namespace M12
theorem zB9(c:Nat)(hc:c<=61):∀j,j<=61->(ff ((c:Int)-1) j).natAbs<=2 ^ (6*j)
 | 0,_=>by simp[ff]
 | j+1,h=>by
  rw[ff,Dx,Nat.mul_add,Da]
  have e:(2:Nat) ^ (6*1)=64:=rfl
  exact DS (zB9 c hc j (by rfl')) (by rw[e];rfl')
theorem yJ4(least:Int)(A:Nat->Int)(c b:Nat)(hc:c<=61)(hA:∀i,i<c->(A i).natAbs<=2 ^ b):∀j,j<=c->(totG least A c j).natAbs<=j*2 ^ (366+b)
 | 0,_=>by simp[totG]
 | j+1,h=>by
  have ih:=yJ4 least A c b hc hA j (by rfl')
  have m:(ff ((c:Int)-1) j*A (c-(j+1))).natAbs<=2 ^ (366+b):=by
   rw[Dx,Da]
   refine DS (AH (zB9 c hc j (by rfl')) (Cb (by decide) (by rfl'))) (hA _ (by rfl'))
  rw[totG]
  split
  ·rw[Nat.succ_mul]
   exact AH (Int.natAbs_add_le _ _) (Nat.add_le_add ih m)
  ·rw[Nat.succ_mul]
   exact AH ih (Nat.le_add_right _ _)
theorem xW1(least most:Int):∀n,n<=60->∀i,i<=n->(G least most i).natAbs<=2 ^ (400*i)
 | 0,_,i,h=>by
  have:i=0:=by rfl'
  subst this
  rw[zT5];decide
 | n+1,hn,i,h=>by
  by_cases e:i<=n
  ·exact xW1 least most n (by rfl') i e
  ·have:i=n+1:=by rfl'
   subst this
   rw[uQ]
   have q:=yJ4 least (G least most) (n+1) (400*n) (by rfl') (fun i hi=>AH (xW1 least most n (by rfl') i (by rfl')) (Cb (by decide) (by rfl'))) (min most ((n:Int)+1)).toNat (by rfl')
   refine AH q ?_
   have e1:(min most ((n:Int)+1)).toNat<=2 ^ 6:=by
    have:(2:Nat) ^ 6=64:=rfl
    rfl'
   refine AH (Bg _ e1) ?_
   rw[<-Da]
   exact Cb (by decide) (by rfl')
theorem zB1(c j:Nat)(hc:c<=61)(hj:j<=61):(ff ((c:Int)-1) j).natAbs<2 ^ 367 :=
 AT (zB9 c hc j hj) (CA (by decide) (by rfl'))
theorem zJ6(least most:Int)(n:Nat)(hn:n<=60):(G least most n).natAbs<2 ^ 24001 :=
 AT (xW1 least most n hn n (Ab _)) (CA (by decide) (by rfl'))
end M12
namespace M12
def sumN(F:Nat->Int):Nat->Int
 | 0=>0
 | n+1=>sumN F n+F n
theorem zI{F G:Nat->Int}:∀{n:Nat},(∀i,i<n->F i=G i)->sumN F n=sumN G n
 | 0,_=>rfl
 | n+1,h=>by rw[sumN,sumN,zI fun i hi=>h i (by rfl'),h n (by rfl')]
theorem wZ(F G:Nat->Int):∀n,sumN (fun i=>F i+G i) n=sumN F n+sumN G n
 | 0=>rfl
 | n+1=>by rw[sumN,sumN,sumN,wZ F G n];rfl'
theorem yM9(F G:Nat->Int):∀n,sumN (fun i=>F i-G i) n=sumN F n-sumN G n
 | 0=>rfl
 | n+1=>by rw[sumN,sumN,sumN,yM9 F G n];rfl'
theorem xP(c:Int)(F:Nat->Int):∀n,sumN (fun i=>c*F i) n=c*sumN F n
 | 0=>by simp[sumN]
 | n+1=>by rw[sumN,sumN,xP c F n,CZ]
theorem xK(F:Nat->Int):∀n,sumN F (n+1)=F 0+sumN (fun i=>F (i+1)) n
 | 0=>by simp[sumN]
 | n+1=>by rw[sumN,xK F n,sumN];rfl'
theorem yQ{F:Nat->Int}:∀{n:Nat},(∀i,i<n->F i=0)->sumN F n=0
 | 0,_=>rfl
 | n+1,h=>by rw[sumN,yQ fun i hi=>h i (by rfl'),h n (by rfl')];rfl
theorem uW(F:Nat->Int)(a:Nat):∀b,sumN F (a+b)=sumN F a+sumN (fun i=>F (a+i)) b
 | 0=>by simp[sumN]
 | b+1=>by rw[<-Nat.add_assoc,sumN,uW F a b,sumN];rfl'
def bin:Nat->Nat->Int
 | _,0=>1
 | 0,_+1=>0
 | n+1,m+1=>bin n m+bin n (m+1)
theorem jN(n:Nat):bin n 0=1:=by cases n <;> rfl
theorem gY:∀(n m:Nat),n<m->bin n m=0
 | 0,m+1,_=>rfl
 | n+1,m+1,h=>by rw[bin,gY n m (by rfl'),gY n (m+1) (by rfl')];rfl
theorem yP6:∀n,bin n n=1
 | 0=>rfl
 | n+1=>by rw[bin,yP6 n,gY n (n+1) (by rfl')];rfl
theorem gQ:∀(n m:Nat),bin n (m+1)*((m:Int)+1)=bin n m*((n:Int)-m)
 | 0,0=>by simp[bin]
 | 0,m+1=>by simp[bin]
 | n+1,0=>by
  have h:=gQ n 0
  rw[jN] at h ⊢
  rw[bin,jN]
  have:((n+1:Nat):Int)=(n:Int)+1:=by rfl'
  rw[this]
  simp at h ⊢
  rfl'
 | n+1,m+1=>by
  have h1:=gQ n m
  have h2:=gQ n (m+1)
  show (bin n (m+1)+bin n (m+2))*(((m+1:Nat):Int)+1)=(bin n m+bin n (m+1))*(((n+1:Nat):Int)-((m+1:Nat):Int))
  rw[show ((m+1:Nat):Int)=(m:Int)+1 by rfl'] at h2 ⊢
  rw[show ((n+1:Nat):Int)=(n:Int)+1 by rfl']
  rw[show (n:Int)+1-((m:Int)+1)=(n:Int)-m by rfl',CJ,CJ,h2,<-h1]
  rw[CZ (bin n (m+1)) ((m:Int)+1) 1,show (n:Int)-((m:Int)+1)=((n:Int)-m)-1 by rfl',Int.mul_sub]
  rfl'
theorem xS8(n j:Nat):∀k:Nat,j+k<=n->bin n (j+k)*ff ((j+k:Nat):Int) k=bin n j*ff ((n:Int)-j) k
 | 0,_=>by simp[ff]
 | k+1,h=>by
  have ih:=xS8 n j k (by rfl')
  have b:=gQ n (j+k)
  have e:ff ((j+(k+1):Nat):Int) (k+1)=(((j+k:Nat):Int)+1)*ff ((j+k:Nat):Int) k:=by
   rw[show ((j+(k+1):Nat):Int)=((j+k:Nat):Int)+1 by rfl']
   exact wM _ _
  rw[e,<-AD,show j+(k+1)=j+k+1 by rfl',b,ff,AD,Bt ((n:Int)-((j+k:Nat):Int)),<-AD,ih,AD]
  congr 2
  rfl'
theorem cK(A:Nat->Int)(c:Nat)(l:Int):∀j:Nat,(j:Int)<l->totG l A c j=0
 | 0,_=>rfl
 | j+1,h=>by rw[totG,Ah (by rfl'),cK A c l j (by rfl')]
theorem zO6(A:Nat->Int)(c k:Nat):∀d:Nat,totG ((k:Int)+1) A (c+1) (k+1+d)=ff (c:Int) k*A (c-k)+(c:Int)*totG ((k:Int)+1) A c (k+d)
 | 0=>by
  rw[show k+1+0=k+1 by rfl,show k+0=k by rfl,totG,Ac (by rfl'),cK A (c+1) _ k (by rfl'),cK A c _ k (by rfl')]
  rw[show ((c+1:Nat):Int)-1=(c:Int) by rfl',show c+1-(k+1)=c-k by rfl']
  simp
 | d+1=>by
  have ih:=zO6 A c k d
  rw[show k+1+(d+1)=(k+1+d)+1 by rfl',totG,Ac (by rfl'),ih,show k+(d+1)=(k+d)+1 by rfl',totG,Ac (by rfl')]
  rw[show ((c+1:Nat):Int)-1=((c:Int)-1)+1 by rfl',show k+1+d=(k+d)+1 by rfl',wM,show c+1-(k+d+1+1)=c-(k+d+1) by rfl',CZ,show (c:Int)-1+1=(c:Int) by rfl']
  rw[<-AD (c:Int),Int.add_assoc]
theorem xA4(k m:Nat)(most:Int)(hm:(m:Int)+1<=most) :
  G ((k:Int)+1) most (m+1)=(m:Int)*G ((k:Int)+1) most m+(if (k:Int)<(m:Int)+1 then ff (m:Int) k*G ((k:Int)+1) most (m-k) else 0):=by
 rw[uQ,show (min most ((m:Int)+1)).toNat=m+1 by rfl']
 have last:(m:Int)*totG ((k:Int)+1) (G ((k:Int)+1) most) m m=(m:Int)*G ((k:Int)+1) most m:=by
  cases m with
  | zero=>simp
  | succ p=>rw[uQ,show (min most ((p:Int)+1)).toNat=p+1 by rfl']
 by_cases h:(k:Int)<(m:Int)+1
 ·rw[Ac h]
  obtain⟨d,rfl⟩:∃d,m=k+d:=⟨m-k,by rfl'⟩
  rw[show k+d+1=k+1+d by rfl',show k+1+d=(k+1+d) by rfl]
  have:=zO6 (G ((k:Int)+1) most) (k+d) k d
  rw[show k+d+1=k+1+d by rfl'] at this
  rw[this,last]
  rfl'
 ·rw[Ah h,cK _ _ _ _ (by rfl')]
  cases m with
  | zero=>simp
  | succ p=>rw[uQ,cK _ _ _ _ (by rfl')];simp
def term(g b:Nat->Int)(n m:Nat):Int:=bin n m*g m*b (n-m)
def fac:Nat->Int
 | 0=>1
 | n+1=>fac n*((n:Int)+1)
theorem yX4(g b:Nat->Int)(k N:Nat)(g0:g 0=1)(b0:b 0=1)
  (hg:∀m,m<N->g (m+1)=((m:Int)+1)*g m-(if k<=m then ff (m:Int) k*g (m-k) else 0))
  (hb:∀m,m<N->b (m+1)=(m:Int)*b m+(if k<=m then ff (m:Int) k*b (m-k) else 0)) :
  ∀n,n<=N->sumN (term g b n) (n+1)=fac n
 | 0,_=>by simp[sumN,term,bin,g0,b0,fac]
 | n+1,h=>by
  have ih:=yX4 g b k N g0 b0 hg hb n (by rfl')
  have e1:sumN (term g b (n+1)) (n+2)=sumN (fun m=>bin n m*g m*b (n+1-m)) (n+1)+sumN (fun m=>bin n m*g (m+1)*b (n-m)) (n+1):=by
   rw[xK]
   have p:∀i,term g b (n+1) (i+1)=bin n i*g (i+1)*b (n-i)+bin n (i+1)*g (i+1)*b (n-i):=fun i=>by
    unfold term
    rw[bin,show n+1-(i+1)=n-i by rfl',CJ,CJ]
   rw[zI fun i _=>p i,wZ]
   have q:sumN (fun m=>bin n m*g m*b (n+1-m)) (n+1)=bin n 0*g 0*b (n+1)+sumN (fun i=>bin n (i+1)*g (i+1)*b (n-i)) n:=by
    rw[xK]
    congr 1
    exact zI fun i _=>by rw[show n+1-(i+1)=n-i by rfl']
   have z:sumN (fun i=>bin n (i+1)*g (i+1)*b (n-i)) (n+1)=sumN (fun i=>bin n (i+1)*g (i+1)*b (n-i)) n:=by
    rw[sumN,gY n (n+1) (by rfl')];simp
   rw[z,q]
   show bin (n+1) 0*g 0*b (n+1-0)+_=_
   rw[jN,jN,Nat.sub_zero]
   rfl'
  rw[e1]
  let S1:Nat->Int:=fun m=>if k<=n-m then bin n m*ff ((n:Int)-m) k*g m*b (n-m-k) else 0
  let S2:Nat->Int:=fun m=>if k<=m then bin n m*ff (m:Int) k*g (m-k)*b (n-m) else 0
  have p1:sumN (fun m=>bin n m*g m*b (n+1-m)) (n+1)=sumN (fun m=>((n:Int)-m)*term g b n m+S1 m) (n+1):=zI fun m hm=>by
   rw[show n+1-m=(n-m)+1 by rfl',hb (n-m) (by rfl'),show ((n-m:Nat):Int)=(n:Int)-m by rfl']
   show _=((n:Int)-m)*(bin n m*g m*b (n-m))+(if k<=n-m then _ else _)
   by_cases c:k<=n-m
   ·rw[Ac c,Ac c,CZ]
    congr 1
    ·rw[<-AD,Bt (bin n m*g m),AD]
    ·rw[<-AD,AD (bin n m),Bt (g m),<-AD]
   ·rw[Ah c,Ah c,BA,BA,<-AD,Bt (bin n m*g m),AD]
  have p2:sumN (fun m=>bin n m*g (m+1)*b (n-m)) (n+1)=sumN (fun m=>((m:Int)+1)*term g b n m-S2 m) (n+1):=zI fun m hm=>by
   rw[hg m (by rfl')]
   show _=((m:Int)+1)*(bin n m*g m*b (n-m))-(if k<=m then _ else _)
   by_cases c:k<=m
   ·rw[Ac c,Ac c,Int.mul_sub,Int.sub_mul]
    congr 1
    ·rw[<-AD,Bt (bin n m),AD,AD]
     congr 1
     rw[AD]
    ·rw[<-AD (bin n m)]
   ·rw[Ah c,Ah c,Int.sub_zero,Int.sub_zero,<-AD,Bt (bin n m),AD,AD]
    congr 1
    rw[AD]
  rw[p1,p2,wZ,yM9]
  have s12:sumN S1 (n+1)=sumN S2 (n+1):=by
   by_cases c:k<=n
   ·obtain⟨d,rfl⟩:∃d,n=k+d:=⟨n-k,by rfl'⟩
    have a1:sumN S1 (k+d+1)=sumN (fun j=>bin (k+d) j*ff (((k+d:Nat):Int)-j) k*g j*b (d-j)) (d+1):=by
     rw[show k+d+1=(d+1)+k by rfl',uW,yQ (n:=k) (fun i hi => ?_),BA]
     ·exact zI fun i hi=>by
       show (if k<=k+d-i then _ else _)=_
       rw[Ac (by rfl'),show k+d-i-k=d-i by rfl']
     ·show (if k<=k+d-(d+1+i) then _ else _)=_
      rw[Ah (by rfl')]
    have a2:sumN S2 (k+d+1)=sumN (fun j=>bin (k+d) (j+k)*ff ((j+k:Nat):Int) k*g j*b (d-j)) (d+1):=by
     rw[show k+d+1=k+(d+1) by rfl',uW,yQ (n:=k) (fun i hi => ?_),Cz]
     ·exact zI fun i hi=>by
       show (if k<=k+i then _ else _)=_
       rw[Ac (by rfl'),show k+i-k=i by rfl',show k+i=i+k by rfl',show k+d-(i+k)=d-i by rfl']
     ·show (if k<=i then _ else _)=_
      rw[Ah (by rfl')]
    rw[a1,a2]
    exact zI fun j hj=>by rw[xS8 (k+d) j k (by rfl')]
   ·rw[yQ fun i hi => ?_,yQ fun i hi => ?_]
    ·show (if k<=i then _ else _)=_
     rw[Ah (by rfl')]
    ·show (if k<=n-i then _ else _)=_
     rw[Ah (by rfl')]
  have comb:sumN (fun m=>((n:Int)-m)*term g b n m) (n+1)+sumN (fun m=>((m:Int)+1)*term g b n m) (n+1)=((n:Int)+1)*sumN (term g b n) (n+1):=by
   rw[<-wZ,<-xP]
   exact zI fun m _=>by
    rw[<-CJ]
    congr 1
    rfl'
  rw[fac,<-ih,Bt (sumN (term g b n) (n+1))]
  rfl'
end M12
namespace M12
def waysB(k:Int)(found:List Int)(m:Nat):Int :=
 if k<(m:Int) then ((m:Int)-1)*found.getD (m-1) 0+lines (found.getD (m-1-k.toNat) 0) m k.toNat else ((m:Int)-1)*found.getD (m-1) 0
def bads(k:Int):Nat->List Int
 | 0=>[1]
 | n+1=>bads k n ++ [waysB k (bads k n) (n+1)]
theorem zA4(k k' most:Int)(hk:0<=k)(hk':0<=k'):∀n:Nat,(n:Int)<=most->(∀m:Nat,m<=n->(min k (m:Int))=min k' (m:Int))->bads k' n=mbl (k+1) most n
 | 0,_,_=>rfl
 | n+1,hn,h=>by
  have ih:=zA4 k k' most hk hk' n (by rfl') fun m hm=>h m (by rfl')
  have hm:=h (n+1) (Ab _)
  have ekn:((k.toNat:Nat):Int)=k:=by rfl'
  rw[bads,ih,mbl]
  congr 2
  rw[zI1,<-uQ]
  have r:=xA4 k.toNat n most (by rfl')
  rw[ekn] at r
  rw[r]
  unfold waysB
  have a1:n+1-1=n:=rfl
  rw[a1,yL (k+1) most n n (Ab _),show ((n+1:Nat):Int)-1=(n:Int) by rfl']
  by_cases c:k<(n:Int)+1
  ·have ek:k'=k:=by rfl'
   subst ek
   have c':k'<((n+1:Nat):Int):=by rfl'
   rw[Ac c',Ac c,yL (k'+1) most n _ (by rfl'),zM2]
   rw[show ((n+1:Nat):Int)-1=(n:Int) by rfl',Bt (G (k'+1) most (n-k'.toNat))]
  ·have c':¬k'<((n+1:Nat):Int):=by rfl'
   rw[Ah c',Ah c,BA]
theorem xI7(n m:Nat):(bin n m*((n:Int)-m)) / ((m:Int)+1)=bin n (m+1):=by
 rw[<-gQ,Int.mul_ediv_cancel _ (by rfl')]
def tells(g b:List Int)(n:Nat):Nat->List Int
 | 0=>[]
 | m+1=>tells g b n m ++ [bin n m*g.getD m 0*b.getD (n-m) 0]
theorem wR(g b:List Int)(n:Nat):∀m,(tells g b n m).length=m
 | 0=>rfl
 | m+1=>by rw[tells,An,wR g b n m];rfl
theorem yI4(xs:List Int)(v:Int):(xs ++ [v]).sum=xs.sum+v:=by
 induction xs with
 | nil=>simp
 | cons x xs ih=>rw[List.cons_append,List.sum_cons,List.sum_cons,ih];rfl'
theorem zV5(g b:List Int)(n:Nat):∀m,(tells g b n m).sum=sumN (fun i=>bin n i*g.getD i 0*b.getD (n-i) 0) m
 | 0=>rfl
 | m+1=>by rw[tells,yI4,zV5 g b n m,sumN]
theorem yF3(n:Nat)(k:Int)(hk:0<=k):(tells (mbl 1 k n) (mbl (k+1) n n) n (n+1)).sum=fac n:=by
 rw[zV5]
 have ekn:((k.toNat:Nat):Int)=k:=by rfl'
 rw[<-yX4 (G 1 k) (G (k+1) n) k.toNat n (zT5 _ _) (zT5 _ _) (fun m hm => ?_) (fun m hm => ?_) n (Ab _)]
 ·exact zI fun i hi=>by
   unfold term
   rw[yL 1 k n i (by rfl'),yL (k+1) n n (n-i) (by rfl')]
 ·rw[xB9 k hk]
  congr 1
  by_cases c:k<(m:Int)+1
  ·rw[Ac c,Ac (by rfl')]
  ·rw[Ah c,Ah (by rfl')]
 ·have r:=xA4 k.toNat m n (by rfl')
  rw[ekn] at r
  rw[r]
  congr 1
  by_cases c:k<(m:Int)+1
  ·rw[Ac c,Ac (by rfl')]
  ·rw[Ah c,Ah (by rfl')]
theorem zN9(n:Nat)(k:Int)(hk:0<=k):tells (mbl 1 k n) (mbl (k+1) n n) n (n+1)=tells (goods (min k n) n) (bads (min k n) n) n (n+1):=by
 rw[yL6 k (min k n) hk (by rfl') n fun m hm=>by rfl',zA4 k (min k n) n hk (by rfl') n (by rfl') fun m hm=>by rfl']
theorem jD:∀(n m:Nat),0<=bin n m
 | n,0=>by rw[jN];decide
 | 0,m+1=>by show (0:Int)<=0;decide
 | n+1,m+1=>by
  have h1:=jD n m
  have h2:=jD n (m+1)
  rw[bin];rfl'
theorem yI9:∀(n m:Nat),bin n m<=2 ^ n
 | n,0=>by
  rw[jN]
  have:(0:Int)<2 ^ n:=Int.pow_pos (by decide)
  rfl'
 | 0,m+1=>by show (0:Int)<=1;decide
 | n+1,m+1=>by
  have h1:=yI9 n m
  have h2:=yI9 n (m+1)
  rw[bin,Int.pow_succ];rfl'
end M12
namespace M12
def inWin(o q p:Nat):Bool:=decide (p<=q/\q<p+o)
def stepM(n o:Nat)(v:Nat->Int)(q:Nat):Int :=
 (if q+1<=n then ((q:Int)+1)*v (q+1) else 0)+sumN (fun p=>if inWin o q p then v p else 0) (n+1)
def stepL(n o:Nat)(u:Nat->Int)(i:Nat):Int :=
 (if i=0 then 0 else u (i-1))+sumN (fun l=>if inWin o l i then u l*ff (l:Int) (l-i) else 0) n
def pair(n:Nat)(u v:Nat->Int):Int:=sumN (fun p=>fac p*u p*v p) (n+1)
theorem zT6(F:Nat->Nat->Int):∀a b,sumN (fun i=>sumN (fun j=>F i j) b) a=sumN (fun j=>sumN (fun i=>F i j) a) b
 | 0,b=>(yQ (F:=fun j=>sumN (fun i=>F i j) 0) fun i _=>rfl).symm
 | a+1,b=>by
  rw[sumN,zT6 F a b,<-wZ]
  exact zI fun j _=>by rw[sumN]
theorem yW7(c:Int)(F:Nat->Int)(n:Nat):sumN (fun i=>F i*c) n=sumN F n*c:=by
 rw[zI (fun i _=>Bt (F i) c),xP,Bt]
theorem yM7(i:Nat):∀d:Nat,fac i*ff ((i+d:Nat):Int) d=fac (i+d)
 | 0=>by simp[ff]
 | d+1=>by
  rw[show ((i+(d+1):Nat):Int)=((i+d:Nat):Int)+1 by rfl',wM,show i+(d+1)=(i+d)+1 by rfl',fac,<-yM7 i d]
  rw[Bt (((i+d:Nat):Int)+1),<-AD]
theorem adjoint(n o:Nat)(u v:Nat->Int)(hu:u n=0):pair n (stepL n o u) v=pair n u (stepM n o v):=by
 have left:pair n (stepL n o u) v=sumN (fun i=>fac i*(if i=0 then 0 else u (i-1))*v i) (n+1)+sumN (fun i=>sumN (fun l=>if inWin o l i then fac l*u l*v i else 0) n) (n+1):=by
  unfold pair
  rw[<-wZ]
  refine zI fun i hi => ?_
  unfold stepL
  rw[CZ,CJ]
  congr 1
  rw[<-xP,<-yW7]
  refine zI fun l hl => ?_
  by_cases c:inWin o l i=true
  ·rw[Ac c,Ac c]
   have h:=of_decide_eq_true c
   obtain⟨d,rfl⟩:∃d,l=i+d:=⟨l-i,by rfl'⟩
   rw[show i+d-i=d by rfl',Bt (u (i+d)),<-AD,yM7]
  ·rw[Ah c,Ah c];simp
 have right:pair n u (stepM n o v)=sumN (fun l=>fac l*u l*(if l+1<=n then ((l:Int)+1)*v (l+1) else 0)) (n+1)+sumN (fun l=>sumN (fun i=>if inWin o l i then fac l*u l*v i else 0) (n+1)) (n+1):=by
  unfold pair
  rw[<-wZ]
  refine zI fun l hl => ?_
  unfold stepM
  rw[CZ]
  congr 1
  rw[<-xP]
  refine zI fun i hi => ?_
  by_cases c:inWin o l i=true
  ·rw[Ac c,Ac c]
  ·rw[Ah c,Ah c];simp
 rw[left,right]
 congr 1
 ·
  rw[xK]
  have z:fac 0*(if (0:Nat)=0 then 0 else u (0-1))*v 0=0:=by simp
  rw[z,Cz]
  conv=>rhs;rw[sumN]
  have t:fac n*u n*(if n+1<=n then ((n:Int)+1)*v (n+1) else 0)=0:=by rw[hu];simp
  rw[t,BA]
  refine zI fun i hi => ?_
  rw[Ah (by rfl'),Ac (by rfl'),fac,show i+1-1=i by rfl']
  rw[AD (fac i),Bt ((i:Int)+1),<-AD,AD (fac i*u i)]
 ·
  rw[zT6 (fun i l=>if inWin o l i then fac l*u l*v i else 0) (n+1) n]
  conv=>rhs;rw[sumN]
  have t:sumN (fun i=>if inWin o n i then fac n*u n*v i else 0) (n+1)=0:=yQ fun i hi=>by rw[hu];simp
  rw[t,BA]
def e0(i:Nat):Int:=if i=0 then 1 else 0
def runM(n:Nat)(os:List Nat):Nat->Int:=os.foldl (fun v o=>stepM n o v) e0
def runL(n:Nat)(os:List Nat):Nat->Int:=os.foldl (fun u o=>stepL n o u) e0
theorem zV2(n:Nat)(os:List Nat)(o:Nat):runL n (os ++ [o])=stepL n o (runL n os):=by unfold runL;rw[List.foldl_append];rfl
theorem jL(n:Nat)(os:List Nat)(o:Nat):runM n (os ++ [o])=stepM n o (runM n os):=by unfold runM;rw[List.foldl_append];rfl
theorem zT3(n:Nat):∀(os:List Nat) (i:Nat),os.length<i->runL n os.reverse i=0
 | [],i,h=>by
  show e0 i=0
  unfold e0
  rw[Ah (by simp at h;rfl')]
 | o::os,i,h=>by
  rw[Ax] at h
  rw[CV,zV2]
  unfold stepL
  rw[Ah (by rfl'),zT3 n os (i-1) (by rfl'),yQ fun l hl => ?_]
  ·rfl
  ·by_cases c:inWin o l i=true
   ·have h':=of_decide_eq_true c
    rw[Ac c,zT3 n os l (by rfl')];simp
   ·rw[Ah c]
theorem yT5(n:Nat)(u:Nat->Int):pair n u e0=u 0:=by
 unfold pair
 rw[xK,yQ fun i hi => ?_]
 ·show fac 0*u 0*1+0=u 0
  rw[show fac 0=1 from rfl];rfl'
 ·show fac (i+1)*u (i+1)*(if i+1=0 then 1 else 0)=0
  rw[Ah (by rfl'),BT]
theorem yL9(n:Nat)(v:Nat->Int):pair n e0 v=v 0:=by
 unfold pair
 rw[xK,yQ fun i hi => ?_]
 ·show fac 0*1*v 0+0=v 0
  rw[show fac 0=1 from rfl];rfl'
 ·show fac (i+1)*(if i+1=0 then 1 else 0)*v (i+1)=0
  rw[Ah (by rfl'),BT,BU]
theorem yU7(n:Nat):∀(os ps:List Nat),os.length+ps.length<=n->pair n (runL n os.reverse) (runM n ps)=pair n e0 (runM n (ps++os))
 | [],ps,_=>by rw[BC];rfl
 | o::os,ps,h=>by
  rw[Ax] at h
  rw[CV,zV2,adjoint n o _ _ (zT3 n os n (by rfl')),<-jL,yU7 n os (ps ++ [o]) (by rw[An];simp;rfl'),Bh]
  rfl
theorem yK2(os:List Nat):runL os.length os.reverse 0=runM os.length os 0:=by
 have h:=yU7 os.length os [] (by simp)
 rw[Cf] at h
 rw[<-yL9 os.length (runM os.length os),<-h]
 show _=pair _ _ e0
 rw[yT5]
end M12
namespace MR
section
variable {n:Nat}{xs:List Int}
theorem wN9{ys:List Int}(o:Ord n ys){c q:Nat}(hc:c<n)(hq:1<=q)(e:it ys q c=c)(ne:∀i,1<=i->i<q->it ys i c≠c):per n ys c=q:=by
 obtain⟨p1,p2,p3,p4⟩:=o.yE hc
 rcases By (per n ys c) q with h | h | h
 ·exact absurd p3 (ne _ p1 h)
 ·exact h
 ·exact absurd e (p4 q hq h)
theorem flatP(o:Ord n xs):(rgs n xs n).flatten.Perm (List.range n):=by
 have k:=o.uH n (Ab n)
 rw[CY k.nodup Cq]
 intro a
 rw[AB,BQ]
 constructor
 ·rintro ⟨r,hr,ha⟩
  obtain⟨b,hb,rfl,_⟩:=k.each r hr
  exact o.yS9 hb (xQ.mp ha)
 ·intro h
  exact k.cover a h
def lc:Nat->Nat
 | 0=>1
 | n+1=>(n+1)*lc n
end
def nf:Nat->Nat->Nat
 | _,0=>1
 | m,j+1=>m*nf (m-1) j
theorem zJ8:∀(j m:Nat),j<=m->0<nf m j
 | 0,_,_=>Nat.one_pos
 | j+1,m,h=>Nat.mul_pos (by rfl') (zJ8 j (m-1) (by rfl'))
theorem yC6:∀(j m:Nat),j<=m->nf m (j+1)=nf m j*(m-j)
 | 0,m,_=>by simp[nf]
 | j+1,m,h=>by
  show m*nf (m-1) (j+1)=m*nf (m-1) j*(m-(j+1))
  rw[yC6 j (m-1) (by rfl'),Nat.mul_assoc,show m-1-j=m-(j+1) by rfl']
def pk:Nat->List Nat->Nat->List Nat
 | 0,_,_=>[]
 | j+1,l,r=>l.getD (r / nf (l.length-1) j) 0::pk j (l.eraseIdx (r / nf (l.length-1) j)) (r%nf (l.length-1) j)
def pr':List Nat->List Nat->Nat
 | _,[]=>0
 | l,x::xs=>l.idxOf x*nf (l.length-1) xs.length+pr' (l.erase x) xs
theorem yM3:∀(j:Nat) (l:List Nat) (r:Nat),(pk j l r).length=j
 | 0,_,_=>rfl
 | j+1,l,r=>by rw[pk,Ax,yM3 j]
theorem xT8{j m r:Nat}(h:r<nf m (j+1)):r / nf (m-1) j<m:=Nat.div_lt_of_lt_mul (by rw[nf,BS] at h;exact h)
theorem zD5:∀(l:List Nat) (j:Nat),l.Nodup->j<l.length->l.idxOf (l.getD j 0)=j/\l.erase (l.getD j 0)=l.eraseIdx j
 | a::l,0,_,_=>by simp
 | a::l,j+1,nd,h=>by
  have h':j<l.length:=by simpa using h
  have nd':=AQ.mp nd
  obtain⟨e1,e2⟩:=zD5 l j nd'.2 h'
  have m:l.getD j 0∈l:=by simp[List.getD,h']
  have ne:¬a=l.getD j 0:=fun e=>nd'.1 (by rw[e];exact m)
  have g:(a::l).getD (j+1) 0=l.getD j 0:=rfl
  rw[g]
  constructor
  ·rw[List.idxOf_cons,show (a == l.getD j 0)=false by simpa using ne]
   show _+1=_
   rw[e1]
  ·rw[List.erase_cons,Ah (by simpa using ne),e2]
   rfl
theorem zY3{l:List Nat}{j:Nat}(h:j<l.length):l.getD j 0∈l:=by simp[List.getD,h]
theorem xB4:∀(j:Nat) (l:List Nat) (r:Nat),l.Nodup->j<=l.length->r<nf l.length j->(pk j l r).Nodup/\(∀x∈pk j l r,x∈l)/\pr' l (pk j l r)=r
 | 0,l,r,_,_,hr=>by
  simp[nf] at hr
  subst hr
  exact⟨List.nodup_nil,fun x hx=>(nomatch hx),rfl⟩
 | j+1,l,r,nd,hj,hr=>by
  have hd:=xT8 hr
  obtain⟨e1,e2⟩:=zD5 l _ nd hd
  have hl:(l.eraseIdx (r / nf (l.length-1) j)).length=l.length-1:=List.length_eraseIdx_of_lt hd
  have p:=zJ8 j (l.length-1) (by rfl')
  obtain⟨h1,h2,h3⟩:=xB4 j (l.eraseIdx (r / nf (l.length-1) j)) (r%nf (l.length-1) j) (nd.eraseIdx _) (by rfl') (by rw[hl];exact Bp _ p)
  have sub:∀x∈l.eraseIdx (r / nf (l.length-1) j),x∈l:=fun x hx=>(List.eraseIdx_sublist l _).subset hx
  rw[pk]
  refine⟨AQ.mpr ⟨fun z => ?_,h1⟩,fun x hx => ?_,?_⟩
  ·have:=h2 _ z
   rw[<-e2] at this
   exact nd.not_mem_erase this
  ·rcases AM.mp hx with rfl | hx
   ·exact zY3 hd
   ·exact sub x (h2 x hx)
  ·rw[pr',e1,e2,h3,yM3,BS]
   exact Nat.div_add_mod r _
theorem zQ8:∀(xs l:List Nat),xs.Nodup->(∀x∈xs,x∈l)->xs.length<=l.length
 | [],l,_,_=>Bk _
 | x::xs,l,nd,h=>by
  have nd':=AQ.mp nd
  have mx:=h x (Af ..)
  have:=zQ8 xs (l.erase x) nd'.2 fun y hy=>(List.mem_erase_of_ne (fun (e:y=x)=>nd'.1 (by rw[<-e];exact hy))).mpr (h y (Aj _ hy))
  rw[Ca mx] at this
  have:=List.length_pos_of_mem mx
  rw[Ax]
  rfl'
theorem cL{x:Nat}{xs l:List Nat}(nd:(x::xs).Nodup)(h:∀y∈x::xs,y∈l):∀y∈xs,y∈l.erase x:=fun y hy =>
 (List.mem_erase_of_ne (fun (e:y=x)=>(AQ.mp nd).1 (by rw[<-e];exact hy))).mpr (h y (Aj _ hy))
theorem aA:∀(xs l:List Nat),l.Nodup->xs.Nodup->(∀x∈xs,x∈l)->pr' l xs<nf l.length xs.length
 | [],l,_,_,_=>by simp[pr',nf]
 | x::xs,l,nl,nd,h=>by
  have nd':=AQ.mp nd
  have mx:=h x (Af ..)
  have ih:=aA xs (l.erase x) (nl.erase x) nd'.2 (cL nd h)
  have li:=BM.mpr mx
  rw[Ca mx] at ih
  rw[pr',Ax,nf]
  have:(l.idxOf x+1)*nf (l.length-1) xs.length<=l.length*nf (l.length-1) xs.length:=Bg _ (by rfl')
  rw[Dp,Dq] at this
  rfl'
theorem zI7:∀(xs l:List Nat),l.Nodup->xs.Nodup->(∀x∈xs,x∈l)->pk xs.length l (pr' l xs)=xs
 | [],l,_,_,_=>rfl
 | x::xs,l,nl,nd,h=>by
  have nd':=AQ.mp nd
  have mx:=h x (Af ..)
  have s:=cL nd h
  have lt:=aA xs (l.erase x) (nl.erase x) nd'.2 s
  have ih:=zI7 xs (l.erase x) (nl.erase x) nd'.2 s
  have li:=BM.mpr mx
  rw[Ca mx] at lt
  have p:0<nf (l.length-1) xs.length:=by rfl'
  have gx:l.getD (l.idxOf x) 0=x:=by
   rw[List.getD,Ae li]
   simp
  have e2:=(zD5 l (l.idxOf x) nl li).2
  rw[gx] at e2
  rw[pr',Ax,pk,BS,Nat.mul_add_div p,Nat.div_eq_of_lt lt,Nat.add_zero,Nat.mul_add_mod,Cr lt,gx,<-e2,ih]
def smN(A:Nat->Nat)(c:Nat):Nat->Nat
 | 0=>0
 | j+1=>smN A c j+nf (c-1) j*A (c-(j+1))
theorem jO(A:Nat->Nat)(c:Nat){i:Nat}:∀{j},i<=j->smN A c i<=smN A c j
 | 0,h=>by
  have:i=0:=by rfl'
  subst this
  exact Ab _
 | j+1,h=>by
  by_cases e:i=j+1
  ·subst e
   exact Ab _
  ·have:=jO A c (i:=i) (j:=j) (by rfl')
   rw[smN]
   rfl'
theorem yI2(A:Nat->Nat)(c N:Nat):∀J,N<smN A c J->∃j,j<J/\smN A c j<=N/\N<smN A c (j+1)
 | 0,h=>by simp[smN] at h
 | J+1,h=>by
  by_cases q:N<smN A c J
  ·obtain⟨j,h1,h2,h3⟩:=yI2 A c N J q
   exact⟨j,by rfl',h2,h3⟩
  ·exact⟨J,by rfl',by rfl',h⟩
theorem yD9:∀j,M12.ff 0 (j+1)=0
 | 0=>by simp[M12.ff]
 | j+1=>by rw[M12.ff,yD9 j,BU]
theorem zG6:∀(j m:Nat),M12.ff (m:Int) j=((nf m j:Nat):Int)
 | 0,m=>rfl
 | j+1,0=>by
  rw[nf,Nat.zero_mul]
  exact yD9 j
 | j+1,m+1=>by
  rw[nf,AU,CP,<-zG6 j m]
  exact M12.wM (m:Int) j
theorem zC5{A:Nat->Int}{B:Nat->Nat}{c:Nat}(h:∀i,i<c+1->A i=(B i:Int)):∀j,M12.totG 1 A (c+1) j=((smN B (c+1) j:Nat):Int)
 | 0=>rfl
 | j+1=>by
  have e1:(((c+1:Nat):Int)-1)=(c:Int):=by rfl'
  have e2:((smN B (c+1) (j+1):Nat):Int)=((smN B (c+1) j:Nat):Int)+((nf c j:Nat):Int)*((B (c+1-(j+1)):Nat):Int):=by
   rw[smN,AU,<-CP,<-Int.natCast_add]
  rw[M12.totG,Ac (by rfl'),zC5 h j,e2,e1,<-zG6,h _ (by rfl')]
def gn(k m:Nat):Nat:=(M12.G 1 (k:Int) m).toNat
theorem jB(k m:Nat):M12.G 1 (k:Int) m=((gn k m:Nat):Int):=by
 have nn:∀m,∀i,i<=m->0<=M12.G 1 (k:Int) i:=fun m=>by
  induction m with
  | zero =>
   intro i hi
   have:i=0:=by rfl'
   subst this
   rw[M12.zT5]
   rfl'
  | succ m ih =>
   intro i hi
   by_cases e:i=m+1
   ·subst e
    rw[M12.uQ,zC5 (B:=fun i=>(M12.G 1 (k:Int) i).toNat) fun i hi=>(Int.toNat_of_nonneg (ih i (by rfl'))).symm]
    exact Int.natCast_nonneg _
   ·exact ih i (by rfl')
 exact (Int.toNat_of_nonneg (nn m m (Ab _))).symm
theorem zA8(k:Nat):gn k 0=1:=rfl
theorem aW(k m:Nat):gn k (m+1)=smN (gn k) (m+1) (min k (m+1)):=by
 have h:=jB k (m+1)
 rw[M12.uQ,zC5 fun i _=>jB k i,show (min (k:Int) ((m:Int)+1)).toNat=min k (m+1) by rfl'] at h
 exact_mod_cast h.symm
def wo(l r:List Nat):List Nat:=l.filter fun b=>!r.contains b
theorem kW(l r:List Nat):(wo l r).Sublist l:=List.filter_sublist
theorem wM5{l r:List Nat}{x:Nat}:x∈wo l r↔x∈l/\x∉r:=by
 unfold wo
 simp
theorem zA6:∀(l r:List Nat),l.Nodup->r.Nodup->(∀x∈r,x∈l)->(r++wo l r).Perm l
 | l,[],_,_,_=>by
  have:wo l []=l:=CF.mpr fun a _=>rfl
  rw[this]
  exact List.Perm.refl _
 | l,x::r,nl,nd,h=>by
  have nd':=AQ.mp nd
  have mx:=h x (Af ..)
  have ih:=zA6 (l.erase x) r (nl.erase x) nd'.2 (cL nd h)
  have e:wo l (x::r)=wo (l.erase x) r:=by
   unfold wo
   rw[nl.erase_eq_filter,List.filter_filter]
   refine List.filter_congr fun b _ => ?_
   rw[Dk]
   cases h1:(b == x) <;> cases h2:r.contains b <;> simp_all
  rw[e]
  exact (ih.cons x).trans (List.perm_cons_erase mx).symm
theorem zH7{l r:List Nat}(nl:l.Nodup)(nr:r.Nodup)(h:∀x∈r,x∈l):(wo l r).length=l.length-r.length:=by
 have:=(zA6 l r nl nr h).length_eq
 rw[An] at this
 rfl'
inductive Told(k:Nat):List Nat->Nat->List (List Nat)->Prop
 | nil:Told k [] 0 []
 | cons {a:Nat}{t xs:List Nat}{M:Nat}{rs:List (List Nat)}:xs.length<k->xs.Nodup->(∀x∈xs,x∈t)->Told k (wo (a::t) (a::xs)) M rs ->
  Told k (a::t) (smN (gn k) (t.length+1) xs.length+pr' t xs*gn k (t.length-xs.length)+M) ((a::xs)::rs)
theorem kZ{a:Nat}{t xs:List Nat}(nl:(a::t).Nodup)(nd:xs.Nodup)(h:∀x∈xs,x∈t):(a::xs).Nodup/\∀x∈a::xs,x∈a::t :=
 ⟨AQ.mpr ⟨fun z=>(AQ.mp nl).1 (h a z),nd⟩,fun x hx=>by
  rcases AM.mp hx with rfl | hx
  ·exact Af ..
  ·exact Aj _ (h x hx)⟩
theorem yZ5{k:Nat}{l:List Nat}{N:Nat}{rs:List (List Nat)}(T:Told k l N rs):l.Nodup->rs.flatten.Perm l:=by
 induction T with
 | nil=>exact fun _=>List.Perm.refl _
 | cons h1 h2 h3 T ih =>
  intro nl
  obtain⟨n1,n2⟩:=kZ nl h2 h3
  have:=ih (nl.sublist (kW _ _))
  rw[Bx]
  exact (this.append_left _).trans (zA6 _ _ nl n1 n2)
theorem xZ5{k:Nat}{l:List Nat}{N:Nat}{rs:List (List Nat)}(T:Told k l N rs):l.Nodup->N<gn k l.length:=by
 induction T with
 | nil=>exact fun _=>by rw[DL,zA8];rfl'
 | @cons a t xs M rs h1 h2 h3 T ih =>
  intro nl
  obtain⟨n1,n2⟩:=kZ nl h2 h3
  have h4:=ih (nl.sublist (kW _ _))
  have lx:=zQ8 xs t h2 h3
  rw[zH7 nl n1 n2,Ax,Ax,AS] at h4
  have p:=aA xs t (AQ.mp nl).2 h2 h3
  have m:=jO (gn k) (t.length+1) (i:=xs.length+1) (j:=min k (t.length+1)) (by rfl')
  rw[Ax,aW]
  refine Ar ?_ m
  rw[smN,AU,AS]
  have:(pr' t xs+1)*gn k (t.length-xs.length)<=nf t.length xs.length*gn k (t.length-xs.length):=Bg _ p
  rw[Dp,Dq] at this
  rfl'
def Can(rs:List (List Nat)):Prop:=(∀r∈rs,∃a xs,r=a::xs/\∀x∈xs,a<x)/\rs.Pairwise fun r r'=>∀x∈r.head?,∀y∈r',x<y
theorem yO4{k:Nat}{l:List Nat}{N:Nat}{rs:List (List Nat)}(T:Told k l N rs):l.Pairwise (· < ·)->Can rs/\∀r∈rs,r.length<=k:=by
 induction T with
 | nil=>exact fun _=>⟨⟨fun r hr=>(nomatch hr),List.Pairwise.nil⟩,fun r hr=>(nomatch hr)⟩
 | @cons a t xs M rs h1 h2 h3 T ih =>
  intro nl
  have nn:(a::t).Nodup:=nl.imp fun h=>by rfl'
  have lt:∀{x},x∈t->a<x:=fun {x} hx=>List.rel_of_pairwise_cons nl hx
  obtain⟨⟨c1,c2⟩,c3⟩:=ih (nl.sublist (kW _ _))
  have p:=yZ5 T (nn.sublist (kW _ _))
  refine⟨⟨fun r hr => ?_,BB.mpr ⟨fun r hr x hx y hy => ?_,c2⟩⟩,fun r hr => ?_⟩
  ·rcases AM.mp hr with rfl | hr
   ·exact⟨a,xs,rfl,fun x hx=>lt (h3 x hx)⟩
   ·exact c1 r hr
  ·have hx:x=a:=by simpa using hx.symm
   subst hx
   have my:y∈rs.flatten:=BQ.mpr ⟨r,hr,hy⟩
   obtain⟨m1,m2⟩:=wM5.mp (p.mem_iff.mp my)
   rcases AM.mp m1 with rfl | m1
   ·exact absurd (Af ..) m2
   ·exact lt m1
  ·rcases AM.mp hr with rfl | hr
   ·exact h1
   ·exact c3 r hr
theorem xN8{k:Nat}{a:Nat}{t:List Nat}{N:Nat}(h:N<gn k (t.length+1)) :
  ∃j,j<=t.length/\j<k/\smN (gn k) (t.length+1) j<=N/\N-smN (gn k) (t.length+1) j<nf t.length j*gn k (t.length-j):=by
 rw[aW] at h
 obtain⟨j,h1,h2,h3⟩:=yI2 _ _ _ _ h
 rw[smN,AU,AS] at h3
 exact⟨j,by rfl',by rfl',h2,by rfl'⟩
theorem xI1{k:Nat}{l:List Nat}{N:Nat}{rs:List (List Nat)}(T:Told k l N rs):∀{rs'},l.Nodup->Told k l N rs'->rs'=rs:=by
 induction T with
 | nil =>
  intro rs' _ T'
  cases T'
  rfl
 | @cons a t xs M rs h1 h2 h3 T ih =>
  intro rs' nl T'
  have tl:=(AQ.mp nl).2
  generalize hN:smN (gn k) (t.length+1) xs.length+pr' t xs*gn k (t.length-xs.length)+M=N at T'
  cases T' with
  | @cons _ _ ys M' rs' g1 g2 g3 T' =>
   have key:∀{xs:List Nat}{M:Nat}{rs:List (List Nat)},xs.Nodup->(∀x∈xs,x∈t)->Told k (wo (a::t) (a::xs)) M rs->M<gn k (t.length-xs.length)/\smN (gn k) (t.length+1) xs.length+pr' t xs*gn k (t.length-xs.length)+M<smN (gn k) (t.length+1) (xs.length+1):=fun {xs M rs} h2 h3 T=>by
    obtain⟨n1,n2⟩:=kZ nl h2 h3
    have h4:=xZ5 T (nl.sublist (kW _ _))
    have lx:=zQ8 xs t h2 h3
    rw[zH7 nl n1 n2,Ax,Ax,AS] at h4
    have p:=aA xs t tl h2 h3
    rw[smN,AU,AS]
    have:(pr' t xs+1)*gn k (t.length-xs.length)<=nf t.length xs.length*gn k (t.length-xs.length):=Bg _ p
    rw[Dp,Dq] at this
    exact⟨h4,by rfl'⟩
   obtain⟨b1,b2⟩:=key h2 h3 T
   obtain⟨b3,b4⟩:=key g2 g3 T'
   have el:ys.length=xs.length:=by
    rcases By xs.length ys.length with q | q | q
    ·have:=jO (gn k) (t.length+1) (i:=xs.length+1) (j:=ys.length) q
     rfl'
    ·exact q.symm
    ·have:=jO (gn k) (t.length+1) (i:=ys.length+1) (j:=xs.length) q
     rfl'
   rw[el] at hN b3 b4
   have e0:gn k (t.length-xs.length)*pr' t xs+M=gn k (t.length-xs.length)*pr' t ys+M':=by
    rw[BS _ (pr' t xs),BS _ (pr' t ys)]
    rfl'
   have d:(gn k (t.length-xs.length)*pr' t xs+M) / gn k (t.length-xs.length)=(gn k (t.length-xs.length)*pr' t ys+M') / gn k (t.length-xs.length):=by rw[e0]
   rw[Nat.mul_add_div (by rfl'),Nat.mul_add_div (by rfl'),Nat.div_eq_of_lt b1,Nat.div_eq_of_lt b3,Nat.add_zero,Nat.add_zero] at d
   have exy:ys=xs:=by
    rw[<-zI7 ys t tl g2 g3,el,<-d,zI7 xs t tl h2 h3]
   subst exy
   have em:M'=M:=by rw[d] at e0;rfl'
   subst em
   rw[ih (nl.sublist (kW _ _)) T']
theorem wY9{n:Nat}{xs:List Int}{rs:List (List Nat)}(c:Can rs)(p:rs.flatten.Perm (List.range n))(hl:xs.length=n)
  (hx:∀r∈rs,∀j,j<r.length->xs.getD (r.getD j 0) 0=((r.getD ((j+1)%r.length) 0:Nat):Int)):Ord n xs/\rgs n xs n=rs:=by
 have nd:rs.flatten.Nodup:=p.nodup_iff.mpr Cq
 have mem:∀b,b<n ↔ ∃r∈rs,b∈r:=fun b=>by rw[<-AB,<-p.mem_iff,BQ]
 have ndr:∀r∈rs,r.Nodup:=fun r hr=>nd.sublist (Cm hr)
 have posn:∀(r:List Nat) (b:Nat),b∈r->∃j,j<r.length/\r.getD j 0=b:=fun r b h=>by
  obtain⟨j,hj,e⟩:=Db.mp h
  exact⟨j,hj,by rw[List.getD,Ae hj];exact e⟩
 have gm:∀(r:List Nat) j,j<r.length->r.getD j 0∈r:=fun r j h=>zY3 h
 have apart:∀r∈rs,∀r'∈rs,∀b,b∈r->b∈r'->r=r':=fun r hr r' hr' b hb hb'=>by
  have pw:=(List.pairwise_flatten.mp nd).2
  obtain⟨i,hi,e⟩:=Db.mp hr
  obtain⟨j,hj,e'⟩:=Db.mp hr'
  rcases By i j with q | q | q
  ·have:=BI.mp pw i j hi hj q
   rw[e,e'] at this
   exact absurd rfl (this b hb b hb')
  ·subst q
   rw[<-e,<-e']
  ·have:=BI.mp pw j i hj hi q
   rw[e,e'] at this
   exact absurd rfl (this b hb' b hb)
 have inj:∀r:List Nat,r.Nodup->∀i j,i<r.length->j<r.length->r.getD i 0=r.getD j 0->i=j:=fun r h i j hi hj e=>by
  rw[List.getD,List.getD,Ae hi,Ae hj] at e
  exact (List.getElem_inj h).mp e
 have nx:∀r∈rs,∀j,j<r.length->nxt xs (r.getD j 0)=r.getD ((j+1)%r.length) 0:=fun r hr j hj=>by
  unfold nxt
  rw[hx r hr j hj]
  exact AW _
 have o:Ord n xs:=by
  have e:xs=ofN n (nxt xs):=by
   refine DE (by rw[fC,hl]) fun i h1 h2 => ?_
   have g1:xs[i]=xs.getD i 0:=by rw[List.getD,Ae h1];rfl
   have g2:(ofN n (nxt xs))[i]=(ofN n (nxt xs)).getD i 0:=by rw[List.getD,Ae h2];rfl
   rw[g1,g2,yD6 (by rfl')]
   obtain⟨r,hr,hb⟩:=(mem i).mp (by rfl')
   obtain⟨j,hj,rfl⟩:=posn r i hb
   rw[nx r hr j hj,hx r hr j hj]
  rw[e]
  refine wR6 (fun b hb => ?_) fun b b' hb hb' e => ?_
  ·obtain⟨r,hr,hb⟩:=(mem b).mp hb
   obtain⟨j,hj,rfl⟩:=posn r b hb
   rw[nx r hr j hj]
   exact (mem _).mpr ⟨r,hr,gm r _ (Bp _ (by rfl'))⟩
  ·obtain⟨r,hr,hb⟩:=(mem b).mp hb
   obtain⟨j,hj,rfl⟩:=posn r b hb
   obtain⟨r',hr',hb'⟩:=(mem b').mp hb'
   obtain⟨j',hj',rfl⟩:=posn r' b' hb'
   rw[nx r hr j hj,nx r' hr' j' hj'] at e
   have m1:=Bp (j+1) (show r.length > 0 by rfl')
   have m2:=Bp (j'+1) (show r'.length > 0 by rfl')
   have er:=apart r hr r' hr' _ (gm r _ m1) (by rw[e];exact gm r' _ m2)
   subst er
   have:=inj r (ndr r hr) _ _ m1 m2 e
   have:j=j':=by
    by_cases a1:j+1=r.length
    ·rw[a1,Nat.mod_self] at this
     by_cases a2:j'+1=r.length
     ·rfl'
     ·rw[Cr (by rfl')] at this
      rfl'
    ·rw[Cr (show j+1<r.length by rfl')] at this
     by_cases a2:j'+1=r.length
     ·rw[a2,Nat.mod_self] at this
      rfl'
     ·rw[Cr (by rfl')] at this
      rfl'
   rw[this]
 refine⟨o,?_⟩
 have walk:∀r∈rs,∀i,0<r.length->it xs i (r.getD 0 0)=r.getD (i%r.length) 0:=fun r hr i h=>by
  induction i with
  | zero=>rw[Nat.zero_mod];rfl
  | succ i ih =>
   show nxt xs (it xs i _)=_
   rw[ih,nx r hr _ (Bp _ h),Nat.mod_add_mod]
 have pr:∀r∈rs,0<r.length->per n xs (r.getD 0 0)=r.length:=fun r hr h=>by
  refine wN9 o ((mem _).mpr ⟨r,hr,gm r 0 h⟩) h (by rw[walk r hr _ h,Nat.mod_self]) fun i h1 h2 e => ?_
  rw[walk r hr i h,Cr h2] at e
  have:=inj r (ndr r hr) _ _ h2 h e
  rfl'
 have rg:∀r∈rs,0<r.length->ring n xs (r.getD 0 0)=r:=fun r hr h=>by
  unfold ring
  rw[pr r hr h]
  refine DE (by simp) fun i h1 h2 => ?_
  rw[List.getElem_map,List.getElem_range,walk r hr i h,Cr h2,List.getD,Ae h2]
  rfl
 have pos:∀r∈rs,0<r.length:=fun r hr=>by
  obtain⟨a,ys,rfl,_⟩:=c.1 r hr
  simp
 have main:∀m,m<=n->rgs n xs m=rs.filter fun r=>decide (r.getD 0 0<m):=fun m=>by
  induction m with
  | zero =>
   intro _
   show []=_
   exact (List.filter_eq_nil_iff.mpr fun r _=>by simp).symm
  | succ m ih =>
   intro hm
   have ih:=ih (by rfl')
   rw[rgs,ih]
   by_cases q:has (rs.filter fun r=>decide (r.getD 0 0<m)) m=true
   ·rw[Ac q]
    obtain⟨r,hr,hb⟩:=dI.mp q
    obtain⟨hr,hd⟩:=Ce.mp hr
    have hd:=of_decide_eq_true hd
    refine List.filter_congr fun r' hr' => ?_
    have:¬r'.getD 0 0=m:=fun e=>by
     have:=apart r hr r' hr' m hb (by rw[<-e];exact gm r' 0 (pos r' hr'))
     subst this
     rfl'
    by_cases a:r'.getD 0 0<m
    ·rw[Ag a,Ag (by rfl')]
    ·rw[Ad a,Ad (by rfl')]
   ·rw[Ah q]
    obtain⟨r,hr,hb⟩:=(mem m).mp (by rfl')
    have e0:r.getD 0 0=m:=by
     obtain⟨a,ys,e,h⟩:=c.1 r hr
     rcases AM.mp (e▸hb) with z | z
     ·rw[e,z];rfl
     ·have:=h m z
      refine absurd (dI.mpr ⟨r,Ce.mpr ⟨hr,Ag ?_⟩,hb⟩) q
      rw[e]
      exact this
    obtain⟨A,B,rfl⟩:=List.append_of_mem hr
    have pw:=List.pairwise_append.mp c.2
    have head:∀r':List Nat,0<r'.length->r'.getD 0 0∈r'.head?:=fun r' h=>by
     cases r' with
     | nil=>simp at h
     | cons x _=>rfl
    have hA:∀r'∈A,r'.getD 0 0<m:=fun r' h'=>by
     have hr':r'∈A++r::B:=Bb _ h'
     exact pw.2.2 r' h' r (Af ..) _ (head r' (pos r' hr')) m hb
    have hB:∀r'∈B,m<r'.getD 0 0:=fun r' h'=>by
     have hr':r'∈A++r::B:=Ap _ (Aj _ h')
     exact List.rel_of_pairwise_cons pw.2.1 h' m (by rw[<-e0];exact head r (pos r hr)) _ (gm r' 0 (pos r' hr'))
    have fA:∀m',m<=m'->A.filter (fun r=>decide (r.getD 0 0<m'))=A:=fun m' h=>CF.mpr fun r' h'=>Ag (by have:=hA r' h';rfl')
    have fB:∀m',m'<=m+1->B.filter (fun r=>decide (r.getD 0 0<m'))=[]:=fun m' h=>List.filter_eq_nil_iff.mpr fun r' h'=>by
     have:=hB r' h'
     rw[Ad (by rfl')]
     exact AG
    rw[List.filter_append,List.filter_append,fA m (Ab _),fA (m+1) (by rfl'),List.filter_cons_of_neg (by rw[e0];simp),fB m (by rfl'),BC,
     List.filter_cons_of_pos (by rw[e0];simp),fB (m+1) (Ab _),<-e0,rg r hr (pos r hr)]
 rw[main n (Ab _)]
 exact CF.mpr fun r hr=>Ag ((mem _).mpr ⟨r,hr,gm r 0 (pos r hr)⟩)
theorem yB3:∀(i m:Nat),i<=m->nf m i*nf (m-i) (m-i)=nf m m
 | 0,m,_=>by simp[nf]
 | i+1,0,h=>absurd h (by rfl')
 | i+1,m+1,h=>by
  rw[nf,nf,AU,AS,Nat.mul_assoc,yB3 i m (by rfl')]
theorem xB2(k:Nat):∀m,gn k m<=nf m m:=fun m=>by
 induction m using Nat.strongRecOn with
 | ind m ih =>
  cases m with
  | zero=>exact Ab _
  | succ m =>
   have b:∀j,j<=m+1->smN (gn k) (m+1) j<=j*nf m m:=fun j=>by
    induction j with
    | zero=>exact fun _=>Bk _
    | succ j ihj =>
     intro h
     have h1:=ihj (by rfl')
     have h2:nf m j*gn k (m-j)<=nf m m:=by
      rw[<-yB3 j m (by rfl')]
      exact Df _ (ih (m-j) (by rfl'))
     rw[smN,AU,AS,Dp,Dq]
     rfl'
   rw[aW]
   refine AH (b _ (by rfl')) ?_
   rw[nf,AU]
   exact Bg _ (by rfl')
inductive Chain:List Nat->List (List Nat)->Prop
 | nil:Chain [] []
 | cons {a:Nat}{t xs:List Nat}{rs:List (List Nat)}:xs.Nodup->(∀x∈xs,x∈t)->Chain (wo (a::t) (a::xs)) rs->Chain (a::t) ((a::xs)::rs)
theorem yE5{n:Nat}{xs:List Int}(o:Ord n xs):Can (rgs n xs n):=by
 have k:=o.uH n (Ab n)
 have hd:∀r∈rgs n xs n,∃b,b<n/\r=ring n xs b/\r.head?=some b/\∀c∈r,b<=c:=fun r hr=>by
  obtain⟨b,hb,rfl,h⟩:=k.each r hr
  exact⟨b,hb,rfl,gD o hb,fun c hc=>h c (xQ.mp hc)⟩
 refine⟨fun r hr => ?_,?_⟩
 ·obtain⟨b,hb,e,h1,h2⟩:=hd r hr
  have nd:r.Nodup:=by rw[e];exact o.zI9 hb
  cases r with
  | nil=>cases h1
  | cons a ys =>
   have:a=b:=by simpa using h1
   subst this
   refine⟨a,ys,rfl,fun x hx => ?_⟩
   have:=h2 x (Aj _ hx)
   have ne:a≠x:=fun z=>(AQ.mp nd).1 (z▸hx)
   rfl'
 ·have all:∀L:List (List Nat),(∀r∈L,r∈rgs n xs n)->L.Pairwise (fun r r'=>∀x∈r.head?,∀y∈r'.head?,x<y)->L.Pairwise (fun r r'=>∀x∈r.head?,∀y∈r',x<y):=fun L=>by
   induction L with
   | nil=>exact fun _ _=>List.Pairwise.nil
   | cons r L ih =>
    intro hL w
    have w':=BB.mp w
    refine BB.mpr ⟨fun r' hr' x hx y hy => ?_,ih (fun r hr=>hL r (Aj _ hr)) w'.2⟩
    obtain⟨b,_,_,h1,h2⟩:=hd r' (hL r' (Aj _ hr'))
    have:=w'.1 r' hr' x hx b (by rw[h1];rfl)
    have:=h2 y hy
    rfl'
  exact all _ (fun r hr=>hr) k.rise
theorem wW1{n:Nat}{xs ys:List Int}(o:Ord n xs)(o':Ord n ys)(e:rgs n xs n=rgs n ys n):xs=ys:=by
 refine MR.Ord.ext o o' fun b hb => ?_
 obtain⟨r,hr,hm⟩:=(o.uH n (Ab n)).cover b hb
 obtain⟨c,hc,e1,_⟩:=(o.uH n (Ab n)).each r hr
 obtain⟨c',hc',e2,_⟩:=(o'.uH n (Ab n)).each r (e▸hr)
 have hh:c=c':=by
  have h1:=gD o hc
  have h2:=gD o' hc'
  rw[<-e1] at h1
  rw[<-e2,h1] at h2
  exact AJ h2
 subst hh
 have eq:ring n xs c=ring n ys c:=by rw[<-e1,<-e2]
 have lp:per n xs c=per n ys c:=by rw[<-jX,<-jX,eq]
 have at':∀i,i<per n xs c->it xs i c=it ys i c:=fun i hi=>by
  have h1:(ring n xs c)[i]?=some (it xs i c):=by
   unfold ring
   rw[Al,AN hi]
   rfl
  have h2:(ring n ys c)[i]?=some (it ys i c):=by
   unfold ring
   rw[Al,AN (by rfl')]
   rfl
  rw[eq,h2] at h1
  exact (AJ h1).symm
 rw[e1] at hm
 obtain⟨i,hi,rfl⟩:=xQ.mp hm
 have p1:=o.yE hc
 have p2:=o'.yE hc
 show it xs (i+1) c=nxt ys (it xs i c)
 rw[at' i hi]
 show _=it ys (i+1) c
 by_cases z:i+1<per n xs c
 ·exact at' _ z
 ·have:i+1=per n xs c:=by rfl'
  rw[this,p1.2.2.1,lp,p2.2.2.1]
end MR
namespace L2.L3
open PySem PySem.Spec PyProof.Rows
variable [CN]
section
variable {X:Cx}
theorem yV4:∀{ts:List Str}{us:List Value},Vals (ts.map V.str) us->∃l:List (Str×Tok),us=strValues l/\l.map (·.1)=ts
 | [],us,h=>by cases h;exact⟨[],rfl,rfl⟩
 | z::ts,us,h=>by
  cases h with
  | cons r rs =>
   obtain⟨t,rfl⟩:=r
   obtain⟨l,rfl,e⟩:=yV4 rs
   exact⟨(z,t)::l,rfl,by rw[AI,e]⟩
theorem yW4:∀l:List (Str×Tok),Vals ((l.map (·.1)).map V.str) (strValues l)
 | []=>.nil
 | (z,t)::l=>.cons ⟨t,rfl⟩ (yW4 l)
def rDig:V->List V->Hp->VK->Prop:=fun x vs H Q=>∃z,x=.str z/\vs=[]/\Q (.bl (Txt.isdigit z)) H
theorem xV6:MtR X "str.isdigit" rDig:=by
 rintro Ec s σ H x vs v us Q I rx rv ⟨z,rfl,rfl,q⟩
 obtain⟨t,rfl⟩:=rx
 cases rv
 exact SC.isdigit ⟨.bl _,H,I,rfl,q⟩
def rStw:V->List V->Hp->VK->Prop:=fun x vs H Q=>∃z y,x=.str z/\vs=[.str y]/\Q (.bl (Txt.startswith z y)) H
theorem yT3:MtR X "str.startswith" rStw:=by
 rintro Ec s σ H x vs v us Q I rx rv ⟨z,y,rfl,rfl,q⟩
 obtain⟨t,rfl⟩:=rx
 obtain⟨u,rfl,t2,rfl⟩:=vals1 rv
 exact SC.startswith ⟨.bl _,H,I,rfl,q⟩
def rJoin(K:KFr):V->List V->Hp->VK->Prop:=fun x vs H Q=>∃z p ts,x=.str z/\vs=[.ref p]/\SqL K H p (ts.map V.str)/\JoinOk z ts=true/\Q (.str (Txt.join z ts)) H
theorem dM:MtR X "str.join" (rJoin X.K):=by
 rintro Ec s σ H x vs v us Q I rx rv ⟨z,p,ts,rfl,rfl,hq,ok,q⟩
 obtain⟨t,rfl⟩:=rx
 obtain⟨u,rfl,ru⟩:=vals1 rv
 cases ru
 obtain⟨its,r,pl,_⟩:=I.list hq
 obtain⟨l,rfl,el⟩:=yV4 r
 exact SC.join pl.isList el ok fun t' k=>⟨.str _,H,I.tok _,⟨_,rfl⟩,q⟩
def rSpl:V->List V->Hp->VK->Prop:=fun x vs H Q=>∃z y,x=.str z/\vs=[.str y]/\1<=y.length/\z.length+2<=sizeLine/\∀p,H p=none->Q (.ref p) (upd H p (.lst ((Txt.split z y).map V.str)))
theorem cS:MtR X "str.split" rSpl:=by
 rintro Ec s σ H x vs v us Q I rx rv ⟨z,y,rfl,rfl,hy,hz,q⟩
 obtain⟨t,rfl⟩:=rx
 obtain⟨u,rfl,t2,rfl⟩:=vals1 rv
 have y0:(y.length == 0)=false:=by rw[beq_eq_false_iff_ne];rfl'
 have few:=split_le z y
 have fin:∀(l:List (Str×Tok)) (k:Nat),l.map (·.1)=Txt.split z y->EP X Ec σ Q (.ref s.heap.objs.size) { s with heap:=s.heap.push { cls:=.type "list",data:=.seq (strValues l).toArray },toks:=k }:=fun l k e=>by
  have V0:=yW4 l
  rw[e] at V0
  exact⟨.ref _,_,I.lnew (t':=k) V0 (by rw[Aa];rfl'),rfl,q _ I.fresh⟩
 have one:∀k,Txt.split z y=[z]->EP X Ec σ Q (.ref s.heap.objs.size) { s with heap:=s.heap.push { cls:=.type "list",data:=.seq [Value.str z t].toArray },toks:=k }:=fun k e=>fin [(z,t)] k (by rw[e];rfl)
 by_cases c1:(decide (z.length<y.length) || decide (Builtin.Str.strKind z<Builtin.Str.strKind y))=true
 ·have e:Txt.split z y=[z]:=by unfold Txt.split;rw[Ac c1]
  exact call_meets F.slot_str_split (typeIs_str s z t) F.entry_str_split (DT _ _) (meets_str_split_cannot_occur z y t t2 c1) (one s.toks e)
 ·have c1':=Bool.not_eq_true _▸c1
  by_cases c2:(Builtin.Str.occurrences z y 0 z.length (z.length+1)).isEmpty=true
  ·have e:Txt.split z y=[z]:=by unfold Txt.split;rw[Ah c1,Ac c2]
   exact call_meets F.slot_str_split (typeIs_str s z t) F.entry_str_split (DT _ _) (meets_str_split_not_found z y t t2 (by simpa using c1) y0 c2) (one s.toks e)
  ·have e:Txt.split z y=Builtin.Str.partsBetween z (Builtin.Str.occurrences z y 0 z.length (z.length+1)) y.length:=by unfold Txt.split;rw[Ah c1,Ah c2]
   rw[e] at few
   refine call_meets F.slot_str_split (typeIs_str s z t) F.entry_str_split (DT _ _) (meets_str_split_sep z y t t2 (by simpa using c1) y0 (by simpa using c2) (by rfl') (by rfl')) ?_
   have key:=fin (numbered s.toks (Txt.split z y)) (s.toks+(Builtin.Str.partsBetween z (Builtin.Str.occurrences z y 0 z.length (z.length+1)) y.length).length) (numbered_texts _ _)
   rw[e,<-strsFrom_eq] at key
   exact key
end
def strD:D->Option Str
 | .str z=>some z
 | _=>none
theorem wD{x:D}{z:Str}(h:strD x=some z):x=.str z:=by
 cases x with
 | str y=>cases h;rfl
 | _=>cases h
theorem yC(z:Str):strD (.str z)=some z:=rfl
def strsOf:List D->Option (List Str)
 | []=>some []
 | x::xs=>(strD x).bind fun z=>(strsOf xs).bind fun zs=>some (z::zs)
theorem zI4:∀zs:List Str,strsOf (zs.map PyData.str)=some zs
 | []=>rfl
 | z::zs=>by
  show (strD (.str z)).bind _=_
  rw[yC,AR,zI4 zs]
  rfl
theorem zN6:∀{ds:List D}{zs:List Str},strsOf ds=some zs->ds=zs.map PyData.str
 | [],zs,h=>by cases h;rfl
 | x::xs,zs,h=>by
  obtain⟨z,e1,h⟩:=AC.mp h
  obtain⟨ys,e2,h⟩:=AC.mp h
  cases h
  rw[wD e1,zN6 e2]
  rfl
theorem yW2{H:Hp}{O:Addr->Prop}:∀{zs:List Str}{vs:List V},Reps H O vs (zs.map PyData.str)->vs=zs.map V.str
 | [],vs,h=>by cases h;rfl
 | z::zs,vs,h=>by
  cases h with
  | cons r rs =>
   cases r
   rw[yW2 rs]
   rfl
theorem yU5{H:Hp}{O:Addr->Prop}:∀zs:List Str,Reps H O (zs.map V.str) (zs.map PyData.str)
 | []=>.nil
 | z::zs=>.cons (.str z) (yU5 zs)
def eM0S(f:Str->Option D)(mo:Ev->Res D):Ev->Res D:=fun ρ=>(mo ρ).bind fun x=>(Res.lft (strD x)).bind fun z=>Res.lft (f z)
theorem dR(f:Str->Option D)(mo:Ev->Res D)(ρ:Ev):eM0S f mo ρ=(mo ρ).bind fun x=>(Res.lft (strD x)).bind fun z=>Res.lft (f z):=rfl
theorem xX1{C:Ct}{o:Expr}{apos cpos:Pos}{md:Md}{mo:Ev->Res D}(ho:RE C md o mo)
  (hbase:autoParam (attributeBase o "isdigit" C.X.env (eval o C.X.env)=eval o C.X.env) Eb) (hline:autoParam ((apos.endLine == cpos.line)=true) Eb) :
  RE C .cl (.Call (.Attribute o "isdigit" apos) [] [] cpos) (eM0S (fun z=>some (.bool (Txt.isdigit z))) mo):=by
 obtain⟨to,po,qo⟩:=ho
 refine⟨_,wM8 PySem.F.plainAttrs_str PySem.F.slot_str_isdigit PySem.F.type_str_isdigit xV6 po hbase hline,fun Oc Ob σ H ρ Q R h => ?_⟩
 refine qo Oc Ob σ H ρ _ R (Res.zQ (Res.zT h) (fun dx _ k x H1 s1 vx => ?_) fun _ z=>z)
 obtain⟨z,ez,k1⟩:=Res.zF (Res.zT k)
 obtain rfl:=wD ez
 obtain⟨d,ed,k2⟩:=Res.zF k1
 cases ed
 obtain rfl:=(vx.va R.oh).str
 exact⟨rfl,z,rfl,rfl,k2 _ H1 s1 (Rep.bl _)⟩
def eM1S(f:Str->D->Option D)(mo ma:Ev->Res D):Ev->Res D:=fun ρ=>(mo ρ).bind fun x=>(Res.lft (strD x)).bind fun z=>(ma ρ).bind fun y=>Res.lft (f z y)
theorem xI(f:Str->D->Option D)(mo ma:Ev->Res D)(ρ:Ev):eM1S f mo ma ρ=(mo ρ).bind fun x=>(Res.lft (strD x)).bind fun z=>(ma ρ).bind fun y=>Res.lft (f z y):=rfl
def Pr1S(r:V->List V->Hp->VK->Prop)(md:Md)(f:Str->D->Option D):Prop :=
 ∀(Oc:Wd) (Ob:Addr->Prop) (H:Hp) (z:Str) (y:V) (dy d:D) (Q:VK),(∀a,Oc a\/Ob a->H a≠none)->VA Oc Ob H y dy->f z dy=some d->(∀v H',Same H H'->VR md Oc Ob H H' v d->Q v H')->r (.str z) [y] H Q
theorem xN{C:Ct}{o a:Expr}{name:Str}{id:String}{apos cpos:Pos}{md mda mdr:Md}{mo ma:Ev->Res D}{r:V->List V->Hp->VK->Prop}{f:Str->D->Option D}(slot:Slot "str" name id)(hty:typeOf (.builtin id)=pure (.type "method_descriptor"))(hm:MtR C.X id r)(hp:Pr1S r mdr f)(ho:RE C md o mo)(ha:RE C mda a ma)
  (hbase:autoParam (attributeBase o name C.X.env (eval o C.X.env)=eval o C.X.env) Eb)
  (hfew:((backTo cpos (starEach [a] C.X.env)).all (fun x=>!x.1)&&(backToKw cpos (keywordEach [] C.X.env)).all (fun x=>x.1.isSome)
  &&decide ([a].length+([]:List Keyword).length+(if ([]:List Keyword).isEmpty then 0 else 1)<30))=true:=by rfl)
  (hline:autoParam ((apos.endLine == cpos.line)=true) Eb) (hs:autoParam (starEach [a] C.X.env=(false,eval a C.X.env)::starEach [] C.X.env) Eb) (hplain:autoParam ((backTo cpos (starEach [] C.X.env)).any (·.1)=false) Eb) :
  RE C mdr (.Call (.Attribute o name apos) [a] [] cpos) (eM1S f mo ma):=by
 obtain⟨to,po,qo⟩:=ho
 obtain⟨ta,pa,qa⟩:=ha
 refine⟨_,zZ3 PySem.F.plainAttrs_str slot hty hm po (xO pa xE hs) hbase hfew hline hs hplain,fun Oc Ob σ H ρ Q R h => ?_⟩
 refine qo Oc Ob σ H ρ _ R (Res.zQ (Res.zT h) (fun dx _ k x H1 s1 vx => ?_) fun _ z=>z)
 obtain⟨z,ez,k⟩:=Res.zF (Res.zT k)
 obtain rfl:=wD ez
 obtain rfl:=(vx.va R.oh).str
 refine⟨rfl,qa Oc Ob σ H1 ρ _ (R.same s1) (Res.zQ (Res.zT k) (fun dy _ k y H2 s2 vy => ?_) fun c z H' s'=>z H' (s1.trans s'))⟩
 obtain⟨d,ed,k⟩:=Res.zF k
 exact hp Oc Ob H2 z y dy d Q ((R.same s1).same s2).oh (vy.va (R.same s1).oh) ed fun v H' s3 rv=>k v H' ((s1.trans s2).trans s3) (rv.from (s1.trans s2))
def stwD(z:Str)(y:D):Option D:=(strD y).map fun u=>.bool (Txt.startswith z u)
theorem yT6:Pr1S rStw .cl stwD:=by
 intro Oc Ob H z y dy d Q oh vy e k
 obtain⟨u,e1,rfl⟩:=Az.mp e
 obtain rfl:=wD e1
 obtain rfl:=vy.str
 exact⟨z,u,rfl,rfl,k _ H (Same.refl H) (Rep.bl _)⟩
def splD(z:Str)(y:D):Option D:=(strD y).bind fun u=>if 1<=u.length/\z.length+2<=sizeLine then some (.list ((Txt.split z u).map PyData.str)) else none
theorem cV:Pr1S rSpl .new splD:=by
 intro Oc Ob H z y dy d Q oh vy e k
 obtain⟨u,e1,e0⟩:=AC.mp e
 obtain rfl:=wD e1
 obtain rfl:=vy.str
 split at e0
 ·rename_i h
  cases e0
  exact⟨z,u,rfl,rfl,h.1,h.2,fun p hp=>k _ _ (Same.new hp) (wN (Same.refl H) hp (yU5 _))⟩
 ·cases e0
def joinD(z:Str)(y:D):Option D:=(lstD y).bind fun ds=>(strsOf ds).bind fun ts=>if JoinOk z ts=true then some (.str (Str.join z ts)) else none
theorem dN{K:KFr}:Pr1S (rJoin K) .cl joinD:=by
 intro Oc Ob H z y dy d Q oh vy e k
 obtain⟨ds,e1,e3⟩:=AC.mp e
 obtain⟨ts,e2,e0⟩:=AC.mp e3
 obtain rfl:=qU e1
 obtain rfl:=zN6 e2
 obtain⟨a,ys,rfl,rd,rs⟩:=vy.list
 obtain rfl:=yW2 rs
 split at e0
 ·rename_i h
  cases e0
  refine⟨z,a,ts,rfl,rfl,.inl rd,h,?_⟩
  rw[show Txt.join z ts=Str.join z ts from StrLaws.glued_eq_join z ts]
  exact k _ H (Same.refl H) (Rep.str _)
 ·cases e0
def catS:D->D->Option D:=fun x y=>(strD x).bind fun a=>(strD y).bind fun b=>if a.length+b.length<=sizeLine then some (.str (a++b)) else none
theorem dJ:Pr2 (fun x y H Q=>∃i j,x=.str i/\y=.str j/\i.length+j.length<=sizeLine/\Q (.str (i++j)) H) .cl catS:=by
 intro Oc Ob H x y dx dy d Q oh vx vy e k
 obtain⟨a,e1,e3⟩:=AC.mp e
 obtain⟨b,e2,e0⟩:=AC.mp e3
 obtain rfl:=wD e1
 obtain rfl:=wD e2
 split at e0
 ·rename_i h
  cases e0
  exact⟨a,b,vx.str,vy.str,h,k _ H (Same.refl H) (Rep.str _)⟩
 ·cases e0
def strOfD:List D->Option D
 | [.int i]=>if i.natAbs.log2<1920 then some (.str (toString i)) else none
 | _=>none
theorem uS:PrC (fun xs H Q=>∃i,xs=[.int i]/\i.natAbs.log2<1920/\Q (.str (toString i)) H) .cl strOfD:=by
 intro Oc Ob H vs ds d Q oh r e k
 unfold strOfD at e
 split at e
 ·split at e
  ·rename_i h
   cases e
   obtain⟨v,rfl,hv⟩:=dG r
   exact⟨_,by rw[hv.int],h,k _ H (Same.refl H) (Rep.str _)⟩
  ·cases e
 ·cases e
theorem yS2{X:Cx}:CallR X (.type "int") (fun xs H Q=>∃z n,xs=[.str z]/\PySem.intText? z=some n/\z.length<=640/\Q (.int n) H):=by
 rintro Ec s σ H xs us Q I r ⟨z,n,rfl,e,hl,q⟩
 obtain⟨u,rfl,t,rfl⟩:=vals1 r
 exact PySem.W.KIN.call_text e hl ⟨.int n,H,I.tok _,⟨_,rfl⟩,q⟩
def intTD:List D->Option D
 | [.str z]=>if z.length<=640 then (PySem.intText? z).map PyData.int else none
 | _=>none
theorem wR4:PrC (fun xs H Q=>∃z n,xs=[.str z]/\PySem.intText? z=some n/\z.length<=640/\Q (.int n) H) .cl intTD:=by
 intro Oc Ob H vs ds d Q oh r e k
 unfold intTD at e
 split at e
 ·split at e
  ·rename_i h
   obtain⟨n,en,rfl⟩:=Az.mp e
   obtain⟨v,rfl,hv⟩:=dG r
   exact⟨_,n,by rw[hv.str],en,h,k _ H (Same.refl H) (Rep.int _)⟩
  ·cases e
 ·cases e
def lenTD:List D->Option D
 | [.str z]=>if z.length<=sizeLine then some (.int z.length) else none
 | _=>none
theorem wV5:PrC (fun xs H Q=>∃z,xs=[.str z]/\z.length<=sizeLine/\Q (.int z.length) H) .cl lenTD:=by
 intro Oc Ob H vs ds d Q oh r e k
 unfold lenTD at e
 split at e
 ·split at e
  ·rename_i h
   cases e
   obtain⟨v,rfl,hv⟩:=dG r
   exact⟨_,by rw[hv.str],h,k _ H (Same.refl H) (Rep.int _)⟩
  ·cases e
 ·cases e
section
variable {X:Cx}
def rSlS:V->Option Int->Option Int->Hp->VK->Prop:=fun x lo hi H Q=>∃z,x=.str z/\z.length<=sizeLine/\Q (.str (Txt.slice z lo hi)) H
theorem yC4{v:Value}{o:Option Int}(h:IsPart v o):∃l:Option (Int×Tok),v=partValue l/\l.map (·.1)=o:=by
 cases h
 ·exact⟨none,rfl,rfl⟩
 ·rename_i i t
  exact⟨some (i,t),rfl,rfl⟩
theorem wH9:SlR X rSlS:=by
 rintro Ec s σ H x v vl vu lo hi sl Q I rx hs pl pu ⟨z,rfl,hz,q⟩
 obtain⟨t,rfl⟩:=rx
 obtain⟨l,rfl,rfl⟩:=yC4 pl
 obtain⟨u,rfl,rfl⟩:=yC4 pu
 refine⟨"str",_,F.slot_str_getitem.lookup,typeIs_str _ _ _,wpAny_getItem_str_slice (l:=l) (u:=u) (st:=none) hs rfl (post_val_or_str ⟨AH (Txt.slice_le z _ _) hz,fun t' k => ?_⟩)⟩
 exact⟨.str _,H,I.tok _,⟨_,rfl⟩,q⟩
end
def slS(x:D)(lo hi:Option Int):Option D:=(strD x).bind fun z=>if z.length<=sizeLine then some (.str (Txt.slice z lo hi)) else none
theorem wG6:PrS rSlS .cl slS:=by
 intro Oc Ob H x dx lo hi d Q oh va e k
 obtain⟨z,e1,e0⟩:=AC.mp e
 obtain rfl:=wD e1
 split at e0
 ·rename_i h
  cases e0
  exact⟨z,va.str,h,k _ H (Same.refl H) (Rep.str _)⟩
 ·cases e0
theorem xL9{C:Ct}{e:Expr}{lo hi:Option Expr}{mda:Md}{me:Ev->Res D}{ml mh:Ev->Res (Option Int)}{p2 pos:Pos}(he:RE C mda e me)(hl:RO C lo ml)(hu:RO C hi mh):RE C .cl (.Subscript e (.Slice lo hi none p2) pos) (eS slS me ml mh):=zM4 wH9 wG6 he hl hu
def tFil(a b:Str)(te:TE):TE:=fun σ H Q=>te σ H fun x H1=>∃z,x=.str z/\a.length+z.length+b.length<=sizeLine/\Q (.str (a++z++b)) H1
theorem wP5{X:Cx}{a b:Str}{j1 j2:Nat}{p1 p2 p3 pos:Pos}{e:Expr}{te:TE}(he:PE X e te)(ha:a.length<=sizeLine):PE X (.JoinedStr [.Constant (.str a) j1 p1,.FormattedValue e (-1) none p2,.Constant (.str b) j2 p3] pos) (tFil a b te):=by
 intro Ec s σ H Q I h
 refine wpAny_JoinedStr ?_
 show wpAny _ _ (eval (.Constant (.str a) j1 p1) X.env) _ _ _
 refine Calls.Constant_str ⟨a,_,rfl,by rw[DF];exact ha,?_⟩
 show wpAny _ _ (eval (.FormattedValue e (-1) none p2) X.env) _ _ _
 refine wpAny_FormattedValue_plain (thn (he Ec _ σ H _ (I.tok _) h) fun v s1 ⟨x,H1,I1,r1,z,ez,hz,q⟩ => ?_)
 subst ez
 obtain⟨t,rfl⟩:=r1
 have la:(Str.empty++a++z).length<=sizeLine:=by rw[DF,Bi];rfl'
 have lb:(Str.empty++a++z++b).length<=sizeLine:=by rw[DF,Bi,Bi];rfl'
 have go:∀(s2:Shared),Inv X Ec σ H1 s2->Joins (model X.prog X.w) X.A X.xe [eval (.Constant (.str b) j2 p3) X.env] (Str.empty++a++z) (fun out s₁=>out.length<=sizeLine/\EP X Ec σ Q (.str out s₁.toks) { s₁ with toks:=s₁.toks+1 }) s2:=fun s2 I2=>by
  show wpAny _ _ (eval (.Constant (.str b) j2 p3) X.env) _ _ _
  refine Calls.Constant_str ⟨b,_,rfl,lb,?_⟩
  show (Str.empty++a++z++b).length<=sizeLine/\EP X Ec σ Q (.str (Str.empty++a++z++b) _) _
  refine⟨lb,?_⟩
  rw[DF]
  exact⟨.str _,H1,(I2.tok _).tok _,⟨_,rfl⟩,q⟩
 exact wpAny_formatField_str ⟨z,_,rfl,la,go _ I1⟩ ⟨z,_,rfl,la,go _ (I1.tok _)⟩ (by rfl')
def filD(a b:Str)(x:D):Option D:=(strD x).bind fun z=>if a.length+z.length+b.length<=sizeLine then some (.str (a++z++b)) else none
theorem wG3{C:Ct}{a b:Str}{j1 j2:Nat}{p1 p2 p3 pos:Pos}{e:Expr}{md:Md}{me:Ev->Res D}(he:RE C md e me)(ha:autoParam (a.length<=sizeLine) Ea):RE C .cl (.JoinedStr [.Constant (.str a) j1 p1,.FormattedValue e (-1) none p2,.Constant (.str b) j2 p3] pos) (e1 (filD a b) me):=by
 obtain⟨te,pe,qe⟩:=he
 refine⟨_,wP5 pe ha,fun Oc Ob σ H ρ Q R h => ?_⟩
 refine qe Oc Ob σ H ρ _ R (Res.zQ (Res.zT h) (fun dx _ k x H1 s1 vx => ?_) fun _ z=>z)
 obtain⟨d,ed,k1⟩:=Res.zF k
 obtain⟨z,e1,e0⟩:=AC.mp ed
 obtain rfl:=wD e1
 split at e0
 ·rename_i hl
  cases e0
  exact⟨z,(vx.va R.oh).str,hl,k1 _ H1 s1 (Rep.str _)⟩
 ·cases e0
def sTryN(mb:Ev->Res Out):Ev->Res Out:=fun ρ=>noEx (mb ρ)
theorem yD7{C:Ct}{fr:Bool}{body:List Stmt}{h0:ExceptHandler}{hs0:List ExceptHandler}{pos:Pos}{mb:Ev->Res Out}
  (hbody:∀(pn:List (Addr×Obj)) (xe:Value->Shared->Prop),RSs ⟨inTry C.X pn xe,fun _ _=>False,C.om,C.ln⟩ fr body mb):RS C fr (.Try body (h0::hs0) [] [] pos) (sTryN mb):=by
 refine⟨fun D σ H=>∀Ec s,Inv C.X Ec σ H s->wpAny (model C.X.prog C.X.w) C.X.A (exec (.Try body (h0::hs0) [] [] pos) C.X.env) (SP C.X Ec D) C.X.xe s,fun Ec s σ H D I h=>h Ec s I,fun Oc Ob σ H ρ E R hp Ec s I => ?_⟩
 refine wpAny_Try_except ?_
 generalize hxe:(fun (e:Value) (s₁:Shared)=>wpAny (model C.X.prog C.X.w) C.X.A (noteFrame e C.X.env) (fun _ s₂=>wpAny (model C.X.prog C.X.w) C.X.A (setFlight e none) (fun _ s₃=>wpAny (model C.X.prog C.X.w) C.X.A (handleBy e C.X.env (h0::hs0)) (SP C.X Ec E) C.X.xe s₃) C.X.xe s₂) C.X.xe s₁)=xe'
 obtain⟨tb,pb,qb⟩:=hbody (C.X.pn++Ec) xe'
 refine wpAny_mono (pb [] s σ H E (Inv.toTry I _) (qb Oc Ob σ H ρ E R ?_)) (fun f s₁ hs => ?_) fun e s₁ z=>z
 ·unfold sTryN at hp
  cases em:mb ρ with
  | ok o=>rw[em] at hp;exact hp
  | no=>rw[em] at hp;exact hp.elim
  | ex c=>rw[em] at hp;exact hp.elim
 ·cases f with
  | next=>exact wpAny_execs_nil (SP.ofTry hs)
  | brk=>exact SP.ofTry (f:=.brk) hs
  | cont=>exact SP.ofTry (f:=.cont) hs
  | ret u=>exact SP.ofTry (f:=.ret u) hs
section
variable {X:Cx}
def ptV(z y:Str):List V:=[.str (Txt.partition z y).1,.str (Txt.partition z y).2.1,.str (Txt.partition z y).2.2]
def rPart:V->List V->Hp->VK->Prop:=fun x vs H Q=>∃z y,x=.str z/\vs=[.str y]/\1<=y.length/\z.length<=sizeLine/\∀p,H p=none->Q (.ref p) (upd H p (.tup (ptV z y)))
theorem Inv.tnew{its:List Value}{ys:List V}{t':Nat}{Ec:List (Addr×Obj)}{σ:St}{H:Hp}{s:Shared}(I:Inv X Ec σ H s)(hv:Vals ys its)(hz:ys.length<=sizeLine) :
  Inv X Ec σ (upd H s.heap.objs.size (.tup ys)) { s with heap:=s.heap.push { cls:=.type "tuple",data:=.seq its.toArray },toks:=t' } :=
 I.laid (fun _ _ q=>Ai _ q) (Ab _) ⟨hz,its,hv,_,AA _ rfl,rfl,⟨_,rfl⟩,rfl⟩
theorem yJ7:MtR X "str.partition" rPart:=by
 rintro Ec s σ H x vs v us Q I rx rv ⟨z,y,rfl,rfl,hy,hz,q⟩
 obtain⟨t,rfl⟩:=rx
 obtain⟨u,rfl,t2,rfl⟩:=vals1 rv
 have y0:(y.length == 0)=false:=by rw[beq_eq_false_iff_ne];rfl'
 have fin:∀(a b c:Tok) (k:Nat),EP X Ec σ Q (.ref s.heap.objs.size) { s with heap:=s.heap.push { cls:=.type "tuple",data:=.seq [Value.str (Txt.partition z y).1 a,.str (Txt.partition z y).2.1 b,.str (Txt.partition z y).2.2 c].toArray },toks:=k }:=fun a b c k =>
  ⟨.ref _,_,Inv.tnew (ys:=ptV z y) I (.cons ⟨a,rfl⟩ (.cons ⟨b,rfl⟩ (.cons ⟨c,rfl⟩ .nil))) (by show 3<=sizeLine;decide),rfl,q _ I.fresh⟩
 refine call_meets F.slot_str_partition (typeIs_str s z t) F.entry_str_partition (F.args_str_partition_2 _ _) (meets_str_partition z y t t2 y0 hz) ?_
 unfold Txt.partition at fin
 generalize Builtin.Str.occurrences z y 0 z.length 1=l at fin ⊢
 cases l with
 | cons i r=>exact fin _ _ _ _
 | nil=>exact fin _ _ _ _
end
def partD(z:Str)(y:D):Option D:=(strD y).bind fun u=>if 1<=u.length/\z.length<=sizeLine then some (.tuple [.str (Txt.partition z u).1,.str (Txt.partition z u).2.1,.str (Txt.partition z u).2.2]) else none
theorem yI7:Pr1S rPart .cl partD:=by
 intro Oc Ob H z y dy d Q oh vy e k
 obtain⟨u,e1,e0⟩:=AC.mp e
 obtain rfl:=wD e1
 obtain rfl:=vy.str
 split at e0
 ·rename_i h
  cases e0
  exact⟨z,u,rfl,rfl,h.1,h.2,fun p hp=>k _ _ (Same.new hp) (gR oh hp (.cons (.str _) (.cons (.str _) (.cons (.str _) .nil))))⟩
 ·cases e0
def eNo:Ev->Res D:=fun _=>.no
theorem wF7{C:Ct}{md:Md}{e:Expr}:RE C md e eNo:=⟨fun _ _ _=>False,fun _ _ _ _ _ _ h=>h.elim,fun _ _ _ _ _ _ _ h=>h⟩
end L2.L3
namespace MR
open PySem PySem.StrLaws PySem.Builtin PySem.Builtin.Str
def tl(x:Str):List Nat:=x.cps.toList
theorem xX(x:Str):(tl x).length=x.length:=by unfold tl Str.length;simp
theorem wQ(a b:Str):tl (a++b)=tl a++tl b:=by unfold tl;rw[Str.cps_append];simp
theorem kO{a b:Str}(h:tl a=tl b):a=b:=by
 apply Str.ext'
 have:a.cps.toList.toArray=b.cps.toList.toArray:=Bc _ h
 simpa using this
theorem wB3(l:List Nat):tl ⟨l.toArray⟩=l:=by unfold tl;simp
theorem jK(y p q:Str)(r:List Str):Str.join y (p::q::r)=p++y++Str.join y (q::r):=rfl
theorem yN8{x y:Str}{k:Nat}(h1:1<=y.length):At x y x.length k↔((tl x).drop k).take y.length=tl y:=by
 unfold At
 rw[subAt_eq,beq_iff_eq]
 constructor
 ·exact fun h=>h.2
 ·intro h
  refine⟨?_,h⟩
  have l:=Bc List.length h
  rw[xX,BN,BF,xX] at l
  rfl'
theorem xT9(x:Str)(a b:Nat):tl (strSub x a b)=((tl x).drop a).take (b-a):=strSub_toList x a b
theorem xY6{x y:Str}{c:Nat}{y':List Nat}(hy:tl y=c::y'):∀(ps:List Str) (a f:Nat) (cuts:List Nat),ps ≠ []->(∀p∈ps,c∉tl p)->(tl x).drop a=tl (Str.join y ps)->a<=x.length->ChainG x y x.length a cuts f->(∀k,f<=k->¬At x y x.length k)->partsFrom x y.length a cuts=ps:=by
 have y1:1<=y.length:=by rw[<-xX,hy];simp
 have fst:∀k,At x y x.length k->(tl x)[k]?=some c:=fun k h=>by
  have e:=(yN8 y1).mp h
  rw[hy] at e
  have:=Bc (fun l=>l[0]?) e
  simp only[List.getElem?_cons_zero] at this
  rw[List.getElem?_take_of_lt (by rfl'),DU] at this
  simpa using this
 intro ps
 induction ps with
 | nil=>intro a f cuts h;exact absurd rfl h
 | cons p ps ih =>
  intro a f cuts _ hc hd ha hG hn
  have pc:=hc p Af
  cases ps with
  | nil =>
   have hd:(tl x).drop a=tl p:=hd
   have no:∀k,a<=k->¬At x y x.length k:=fun k hk h=>by
    have e:=fst k h
    have e2:(tl p)[k-a]?=some c:=by
     rw[<-hd,DU,show a+(k-a)=k by rfl']
     exact e
    exact pc (Bq e2)
   cases cuts with
   | cons d r=>exact absurd hG.2.1 (no d hG.1)
   | nil =>
    show [strSub x a x.length]=[p]
    rw[show strSub x a x.length=p from kO (by rw[xT9,hd,BH];rw[<-hd,BF,xX];exact Ab _)]
  | cons q r =>
   rw[jK,wQ,wQ] at hd
   have len:=Bc List.length hd
   rw[BF,An,An,xX,xX,xX] at len
   have here:At x y x.length (a+p.length):=by
    refine (yN8 y1).mpr ?_
    rw[<-List.drop_drop,hd,Bh,CK (by rw[xX];exact Ab _),<-xX p,CG,Cf,<-xX y,CL (Ab _),CH]
   have early:∀k,a<=k->k<a+p.length->¬At x y x.length k:=fun k hk hl h=>by
    have e:=fst k h
    have e2:(tl p)[k-a]?=some c:=by
     have e3:((tl x).drop a)[k-a]?=some c:=by rw[DU,show a+(k-a)=k by rfl'];exact e
     rw[hd,Bh,Bs (by rw[xX];rfl')] at e3
     exact e3
    exact pc (Bq e2)
   cases cuts with
   | nil =>
    have ef:f=a:=hG
    exact absurd here (hn _ (by rfl'))
   | cons d r' =>
    obtain⟨g1,g2,g3,g4⟩:=hG
    have ed:d=a+p.length:=by
     by_cases l1:d<a+p.length
     ·exact absurd g2 (early d g1 l1)
     ·by_cases l2:a+p.length<d
      ·exact absurd here (g3 _ (by rfl') l2)
      ·rfl'
    subst ed
    show strSub x a (a+p.length)::partsFrom x y.length (a+p.length+y.length) r'=p::q::r
    have e1:strSub x a (a+p.length)=p:=kO (by
     rw[xT9,hd,show a+p.length-a=p.length by rfl',Bh,<-xX p,CL (Ab _),CH])
    rw[e1,ih (a+p.length+y.length) f r' (fun z=>nomatch z) (fun z hz=>hc z (Aj _ hz)) ?_ (by rfl') g4 hn]
    rw[show a+p.length+y.length=a+(p.length+y.length) by rfl',<-List.drop_drop,hd,<-wQ,CK (by rw[xX,Bi];exact Ab _),show p.length+y.length=(tl (p++y)).length by rw[xX,Bi],CG,Cf]
theorem xJ1(x:Str):1<=Builtin.Str.strKind x:=by
 unfold Builtin.Str.strKind
 split
 ·exact Ab _
 ·split <;> decide
theorem dZ{y:Str}{c:Nat}{y':List Nat}(hy:tl y=c::y')(hk:Builtin.Str.strKind y=1){ps:List Str}(h0:ps ≠ [])(hc:∀p∈ps,c∉tl p):Txt.split (Str.join y ps) y=ps:=by
 have y1:1<=y.length:=by rw[<-xX,hy];simp
 obtain⟨f,hG,hn⟩:=occ_tight (Str.join y ps) y y1
 have key:=xY6 hy ps 0 f _ h0 hc rfl (Bk _) hG hn
 have whole:occurrences (Str.join y ps) y 0 (Str.join y ps).length ((Str.join y ps).length+1)=[]->[Str.join y ps]=ps:=fun e=>by
  rw[e] at key
  have key:[strSub (Str.join y ps) 0 (Str.join y ps).length]=ps:=key
  rw[sub_whole] at key
  exact key
 unfold Txt.split
 split
 ·rename_i h
  refine whole ?_
  rw[Bool.or_eq_true,decide_eq_true_eq,decide_eq_true_eq] at h
  rcases h with h | h
  ·cases e:occurrences (Str.join y ps) y 0 (Str.join y ps).length ((Str.join y ps).length+1) with
   | nil=>rfl
   | cons d r =>
    rw[e] at hG
    have:=hG.2.1.1
    rfl'
  ·have:=xJ1 (Str.join y ps)
   rfl'
 ·split
  ·rename_i h
   exact whole (List.isEmpty_iff.mp h)
  ·rw[partsBetween_eq]
   exact key
theorem xM7{a b w:Str}(ha:a.length=1)(hb:b.length=1):Txt.slice (a++w++b) (some 1) (some (-1))=w:=by
 have l:(a++w++b).length=w.length+2:=by rw[Bi,Bi];rfl'
 have e:Txt.slice (a++w++b) (some 1) (some (-1))=sliceText (a++w++b) (some 1) (some (-1)):=rfl
 rw[e,sliceText_neg_hi _ _ (by decide) (by rfl'),show (-1:Int)+((a++w++b).length:Int)=((w.length+1:Nat):Int) by rfl']
 have e2:=sliceText_nat (a++w++b) (a:=1) (b:=w.length+1) (by rfl') (by rfl')
 refine Eq.trans e2 (kO ?_)
 rw[wB3]
 show ((tl (a++w++b)).drop 1).take (w.length+1-1)=tl w
 rw[wQ,wQ,Bh,CK (by rw[xX];rfl'),show (tl a).drop 1=[] from List.drop_eq_nil_of_le (by rw[xX];rfl'),Cf,show w.length+1-1=(tl w).length by rw[xX];rfl',CL (Ab _),CH]
theorem yX6:∀(ws:List Str),ws ≠ []->Str.join "" (ws.map fun w=>"("++w ++ ")")="("++Str.join ")(" ws ++ ")"
 | [],h=>absurd rfl h
 | [w],_=>rfl
 | w::v::r,_=>by
  have ih:=yX6 (v::r) fun z=>nomatch z
  show ("("++w ++ ")") ++ ""++Str.join "" ((v::r).map fun w=>"("++w ++ ")")=_
  rw[ih,jK]
  apply kO
  simp only[wQ,Bh]
  rfl
theorem wI1{x y:Str}:Txt.startswith x y=true↔(tl x).take y.length=tl y:=by
 show (decide (0+y.length<=x.length)&&subAt x y 0)=true↔_
 rw[AV,decide_eq_true_eq,subAt_eq,beq_iff_eq]
 constructor
 ·exact fun h=>h.2
 ·intro h
  refine⟨?_,h⟩
  have l:=Bc List.length h
  rw[xX,BN,xX] at l
  rfl'
theorem yX8(a b c:Str):a++b++c=a++(b++c):=kO (by rw[wQ,wQ,wQ,wQ,Bh])
theorem xX7(y p:Str){r:List Str}(h:r ≠ []):Str.join y (p::r)=p++(y++Str.join y r):=by
 cases r with
 | nil=>exact absurd rfl h
 | cons q r=>rw[jK,yX8]
theorem yA2{sep:Str}{ts:List Str}{B n:Nat}(hs:sep.length=1)(hl:ts.length<=n)(ht:∀t∈ts,t.length<=B)(hb:n*(B+1)<=16000000):JoinOk sep ts=true/\(Str.join sep ts).length<=n*(B+1):=by
 have h1:=Bg (B+1) hl
 have e1:ts.length*(B+1)=ts.length*B+ts.length:=Nat.mul_succ _ _
 have e2:ts.length*sep.length=ts.length:=by rw[hs,Nat.mul_one]
 refine⟨?_,?_⟩
 ·unfold JoinOk
  rw[joinFits ht (by rfl')]
  rfl
 ·have a:=join_length_le sep ts
  have b:=sumLen_le ts ht
  rfl'
end MR
namespace MR
open PySem PySem.StrLaws PySem.Builtin PySem.Builtin.Str PySem.W PyProof.Rows
def nT(n:Nat):Str:=toString (n:Int)
theorem zI2(n:Nat):tl (nT n)=(Nat.toDigits 10 n).map Char.toNat:=KIN.signs_num n
theorem zL5{m:Nat}(h:10<=m):Nat.toDigits 10 m=Nat.toDigits 10 (m / 10)++Nat.toDigits 10 (m%10):=by
 have t:=Nat.toDigits_append_toDigits (b:=10) (n:=m / 10) (d:=m%10) (by decide) (by rfl') (Bp _ (by decide))
 rw[t]
 congr 1
 rfl'
theorem xS2:∀(k m:Nat),m<10 ^ (k+1)->(Nat.toDigits 10 m).length<=k+1
 | 0,m,h=>by
  rw[Cd (by simpa using h)]
  exact Ab _
 | k+1,m,h=>by
  by_cases c:m<10
  ·rw[Cd c]
   show 1<=_
   rfl'
  ·have p:10 ^ (k+1+1)=10 ^ (k+1)*10:=Nat.pow_succ 10 (k+1)
   rw[zL5 (by rfl'),An,Cd (Bp _ (by decide))]
   have:=xS2 k (m / 10) (by rfl')
   show _+1<=_
   rfl'
theorem yC2:∀(m:Nat),0<m->∃c r,Nat.toDigits 10 m=c::r/\c.toNat≠48:=by
 intro m
 induction m using Nat.strongRecOn with
 | _ m ih =>
  intro h
  by_cases c:m<10
  ·refine⟨_,_,Cd c,?_⟩
   have:∀d,0<d->d<10->(Nat.digitChar d).toNat≠48:=by
    intro d h0 h1
    have hh:d=1\/d=2\/d=3\/d=4\/d=5\/d=6\/d=7\/d=8\/d=9:=by rfl'
    rcases hh with rfl | rfl | rfl | rfl | rfl | rfl | rfl | rfl | rfl <;> decide
   exact this m h c
  ·obtain⟨c,r,e,n⟩:=ih (m / 10) (by rfl') (by rfl')
   exact⟨c,r++Nat.toDigits 10 (m%10),by rw[zL5 (by rfl'),e];rfl,n⟩
theorem wO3:∀d,d<10->48<=(Nat.digitChar d).toNat/\(Nat.digitChar d).toNat<=57:=by decide
theorem wQ7(m:Nat):∀c∈(Nat.toDigits 10 m).map Char.toNat,48<=c/\c<=57:=by
 induction m using Nat.strongRecOn with
 | _ m ih =>
  have unit:∀d,d<10->∀c∈(Nat.toDigits 10 d).map Char.toNat,48<=c/\c<=57:=fun d hd c hc=>by
   rw[Cd hd] at hc
   rw[DV.mp hc]
   exact wO3 d hd
  by_cases h:m<10
  ·exact unit m h
  ·intro c hc
   rw[zL5 (by rfl'),AK] at hc
   rcases AX.mp hc with hc | hc
   ·exact ih (m / 10) (by rfl') c hc
   ·exact unit (m%10) (by rfl') c hc
theorem wS6(m:Nat):∃c r,Nat.toDigits 10 m=c::r:=by
 by_cases h:0<m
 ·obtain⟨c,r,e,_⟩:=yC2 m h
  exact⟨c,r,e⟩
 ·rw[show m=0 by rfl']
  exact⟨_,_,rfl⟩
structure NumOk(n:Nat):Prop where
 len:(nT n).length<=80
 dig:Txt.isdigit (nT n)=true
 zero:Txt.startswith (nT n) "0" = false\/nT n="0"
 int:PySem.intText? (nT n)=some (n:Int)
 fig:∀c∈tl (nT n),48<=c/\c<=57
 log:((n:Int)).natAbs.log2<1920
 ok:PyData.strOk (nT n)=true
 ne:tl (nT n) ≠ []
theorem isd:∀c,c<58->48<=c->Unicode.isDigit c=true:=by decide +kernel
end MR
namespace MR
open M12
theorem zA5(m:Nat):∀d:Nat,ff (m:Int) (m+1+d)=0
 | 0=>by
  show ff (m:Int) m*((m:Int)-(m:Int))=0
  rw[Int.sub_self,BT]
 | d+1=>by
  show ff (m:Int) (m+1+d)*_=0
  rw[zA5 m d,BU]
theorem xN3(s:Int)(q:Nat):∀j:Nat,ff s (q+j)=ff s q*ff (s-q) j
 | 0=>by
  show ff s q=ff s q*1
  rw[DW]
 | j+1=>by
  show ff s (q+j)*(s-((q+j:Nat):Int))=ff s q*(ff (s-q) j*((s-q)-(j:Int)))
  rw[xN3 s q j,AD,show s-((q+j:Nat):Int)=(s-q)-(j:Int) by rfl']
theorem wS2(s:Int)(q:Nat):ff (s+1) (q+1)=ff s (q+1)+((q:Int)+1)*ff s q:=by
 rw[wM,show ff s (q+1)=ff s q*(s-(q:Int)) from rfl]
 grind
def gI(k m:Nat):Int:=(gn k m:Int)
theorem xQ8(k m:Nat):∀j,j<=m+1->((smN (gn k) (m+1) j:Nat):Int)=sumN (fun i=>ff (m:Int) i*gI k (m-i)) j
 | 0,_=>rfl
 | j+1,h=>by
  rw[sumN,<-xQ8 k m j (by rfl')]
  have e:smN (gn k) (m+1) (j+1)=smN (gn k) (m+1) j+nf m j*gn k (m-j):=by rw[smN,AU,AS]
  rw[e,Int.natCast_add,CP,<-zG6]
  rfl
theorem xZ6(F:Nat->Int)(k:Nat):∀n,sumN (fun i=>if i<k then F i else 0) n=sumN F (min k n)
 | 0=>by rw[Nat.min_zero];rfl
 | n+1=>by
  rw[sumN,xZ6 F k n]
  by_cases h:n<k
  ·rw[Ac h,Dd (by rfl'),Dd (by rfl'),sumN]
  ·rw[Ah h,Di (by rfl'),Di (by rfl'),BA]
theorem wA4(k m:Nat):gI k (m+1)=sumN (fun j=>if j<k then ff (m:Int) j*gI k (m-j) else 0) (m+1):=by
 rw[xZ6 (fun j=>ff (m:Int) j*gI k (m-j)),<-xQ8 k m _ (Nat.min_le_right _ _),<-aW]
 rfl
theorem wT4{k s p:Nat}(hp:p<=s):sumN (fun q=>if inWin k q p then ff (s:Int) q*gI k (s-q) else 0) (s+1)=ff (s:Int) p*gI k (s-p+1):=by
 rw[show s+1=p+(s-p+1) by rfl',uW,yQ (n:=p) (fun i hi => ?_),Cz,wA4,<-xP]
 ·refine zI fun j hj => ?_
  have e1:inWin k (p+j) p=decide (j<k):=by
   unfold inWin
   rw[Cg]
   simp
  have e2:=xN3 (s:Int) p j
  rw[show (s:Int)-(p:Int)=((s-p:Nat):Int) by rfl'] at e2
  rw[e1]
  by_cases c:j<k
  ·rw[Ag c,Ac rfl,Ac c,e2,show s-(p+j)=s-p-j by rfl',AD]
  ·rw[Ad c,Ah AG,Ah c,BT]
 ·have:inWin k i p=false:=by
   unfold inWin
   rw[Bool.eq_false_iff]
   simp
   rfl'
  show (if inWin k i p then _ else _)=(0:Int)
  rw[this]
  rfl
theorem xJ3{k s p:Nat}(hp:s<p):sumN (fun q=>if inWin k q p then ff (s:Int) q*gI k (s-q) else 0) (s+1)=0:=by
 refine yQ fun i hi => ?_
 have:inWin k i p=false:=by
  unfold inWin
  rw[Bool.eq_false_iff]
  simp
  rfl'
 rw[this]
 rfl
theorem xK6(k t:Nat):List.replicate (t+1) k=List.replicate t k ++ [k]:=List.replicate_succ'
theorem alike(n k:Nat):∀(t s:Nat),s+t<=n->sumN (fun q=>ff (s:Int) q*runM n (List.replicate t k) q*gI k (s-q)) (s+1)=gI k (s+t)
 | 0,s,_=>by
  rw[xK,yQ (n:=s) (fun i _ => ?_)]
  ·show 1*(1:Int)*gI k s+0=_
   rw[Cp,Cp,BA]
   rfl
  ·show _*(if i+1=0 then (1:Int) else 0)*_=0
   rw[Ah (by rfl'),BT,BU]
 | t+1,s,h=>by
  have ih:=alike n k t (s+1) (by rfl')
  generalize hA:runM n (List.replicate t k)=A at ih
  have step:∀q,runM n (List.replicate (t+1) k) q=stepM n k A q:=fun q=>by rw[xK6,jL,hA]
  have left:sumN (fun q=>ff (s:Int) q*runM n (List.replicate (t+1) k) q*gI k (s-q)) (s+1)=sumN (fun q=>((q:Int)+1)*ff (s:Int) q*A (q+1)*gI k (s-q)) (s+1)+sumN (fun p=>ff (s:Int) p*A p*gI k (s-p+1)) (s+1):=by
   have e1:sumN (fun q=>ff (s:Int) q*runM n (List.replicate (t+1) k) q*gI k (s-q)) (s+1)=sumN (fun q=>((q:Int)+1)*ff (s:Int) q*A (q+1)*gI k (s-q)+sumN (fun p=>A p*(if inWin k q p then ff (s:Int) q*gI k (s-q) else 0)) (n+1)) (s+1):=by
    refine zI fun q hq => ?_
    have e2:sumN (fun p=>A p*(if inWin k q p then ff (s:Int) q*gI k (s-q) else 0)) (n+1)=sumN (fun p=>if inWin k q p then A p else 0) (n+1)*(ff (s:Int) q*gI k (s-q)):=by
     rw[<-yW7]
     refine zI fun p _ => ?_
     by_cases c:inWin k q p=true
     ·rw[Ac c,Ac c]
     ·rw[Ah c,Ah c,BT,BU]
    rw[step,e2]
    unfold stepM
    rw[Ac (by rfl')]
    grind
   rw[e1,wZ,zT6]
   congr 1
   have e3:∀p,sumN (fun q=>A p*(if inWin k q p then ff (s:Int) q*gI k (s-q) else 0)) (s+1)=A p*sumN (fun q=>if inWin k q p then ff (s:Int) q*gI k (s-q) else 0) (s+1):=fun p=>xP _ _ _
   rw[show n+1=(s+1)+(n-s) by rfl',uW]
   rw[yQ (n:=n-s) fun i _=>by rw[e3,xJ3 (by rfl'),BT],BA]
   refine zI fun p hp => ?_
   rw[e3,wT4 (by rfl')]
   grind
  have right:sumN (fun q=>ff ((s+1:Nat):Int) q*A q*gI k (s+1-q)) (s+1+1)=sumN (fun q=>((q:Int)+1)*ff (s:Int) q*A (q+1)*gI k (s-q)) (s+1)+sumN (fun p=>ff (s:Int) p*A p*gI k (s-p+1)) (s+1):=by
   rw[xK]
   have e1:sumN (fun i=>ff ((s+1:Nat):Int) (i+1)*A (i+1)*gI k (s+1-(i+1))) (s+1)=sumN (fun q=>((q:Int)+1)*ff (s:Int) q*A (q+1)*gI k (s-q)) (s+1)+sumN (fun q=>ff (s:Int) (q+1)*A (q+1)*gI k (s-q)) (s+1):=by
    rw[<-wZ]
    refine zI fun q _ => ?_
    have:=wS2 (s:Int) q
    rw[show ((s+1:Nat):Int)=(s:Int)+1 by rfl',this,AS]
    grind
   have e2:sumN (fun p=>ff (s:Int) p*A p*gI k (s-p+1)) (s+1)=A 0*gI k (s+1)+sumN (fun q=>ff (s:Int) (q+1)*A (q+1)*gI k (s-q)) (s+1):=by
    rw[xK,sumN]
    have z:ff (s:Int) (s+1)=0:=zA5 s 0
    rw[z,BU,BU,BA]
    congr 1
    ·show 1*A 0*gI k (s-0+1)=_
     rw[Cp]
     rfl
    ·refine zI fun i hi => ?_
     rw[show s-(i+1)+1=s-i by rfl']
   rw[e1,e2]
   show 1*A 0*gI k (s+1)+_=_
   rw[Cp]
   rfl'
  rw[left,<-right,ih,show s+1+t=s+(t+1) by rfl']
theorem yY3(n k:Nat):runM n (List.replicate n k) 0=(gn k n:Int):=by
 have h:=alike n k n 0 (by rfl')
 rw[show 0+n=n from Nat.zero_add n] at h
 have h:0+1*runM n (List.replicate n k) 0*gI k 0=gI k n:=h
 rw[Cz,Cp,show gI k 0=1 from rfl,DW] at h
 exact h
end MR
namespace M12
theorem xW6(F:Nat->Nat->Int)(a:Nat):∀b,sumN (fun i=>sumN (fun j=>F i j) b) a=sumN (fun j=>sumN (fun i=>F i j) a) b:=by
 intro b
 induction a with
 | zero=>exact (yQ fun i _=>rfl).symm
 | succ a ih=>rw[sumN,ih,<-wZ];rfl
theorem qK:∀(n j:Nat),n<j->ff (n:Int) j=0
 | n,0,h=>absurd h (by rfl')
 | n,j+1,h=>by
  rw[ff]
  by_cases e:n=j
  ·subst e;simp
  ·rw[qK n j (by rfl'),BU]
theorem yW6(x:Int):∀s:Nat,ff (x+1) (s+1)=ff x (s+1)+((s:Int)+1)*ff x s
 | 0=>by simp only[ff];grind
 | s+1=>by
  have ih:=yW6 x s
  rw[ff,ih]
  simp only[ff]
  push_cast
  grind
theorem zH6:∀(n c:Nat),bin (n+1) (c+1)*((c:Int)+1)=((n:Int)+1)*bin n c
 | 0,0=>by decide
 | 0,c+1=>by rw[gY 1 (c+1+1) (by rfl'),gY 0 (c+1) (by rfl')];simp
 | n+1,c=>by
  have h:=gQ (n+1) c
  have e:bin (n+1+1) (c+1)=bin (n+1) c+bin (n+1) (c+1):=rfl
  rw[e]
  push_cast at h ⊢
  grind
theorem yE4:∀(i n c:Nat),i<=c->i<=n->bin n c*ff (c:Int) i=ff (n:Int) i*bin (n-i) (c-i)
 | 0,n,c,_,_=>by simp[ff]
 | i+1,n,c,h1,h2=>by
  have ih:=yE4 i n c (by rfl') (by rfl')
  obtain⟨m,hm⟩:∃m,n-i=m+1:=⟨n-i-1,by rfl'⟩
  obtain⟨d,hd⟩:∃d,c-i=d+1:=⟨c-i-1,by rfl'⟩
  have ab:=zH6 m d
  rw[hm,hd] at ih
  rw[show n-(i+1)=m by rfl',show c-(i+1)=d by rfl',ff,ff]
  have e1:(n:Int)-(i:Int)=(m:Int)+1:=by rfl'
  have e2:(c:Int)-(i:Int)=(d:Int)+1:=by rfl'
  rw[e1,e2]
  grind
section
variable (g b:Nat->Int)
def TT(l s:Nat):Int:=sumN (fun c=>term g b l c*ff (c:Int) s) (l+1)
def VV(l i s:Nat):Int:=sumN (fun c=>term g b (l-i) c*ff ((i+c:Nat):Int) s) (l-i+1)
def UU(l s m:Nat):Int:=sumN (fun i=>ff (l:Int) i*VV g b l i s) m
variable {g b}
theorem wT9(l s:Nat):VV g b l 0 s=TT g b l s:=by
 unfold VV TT
 rw[Nat.sub_zero]
 exact zI fun c _=>by rw[Nat.zero_add]
theorem wX3(l i s:Nat):VV g b (l+1) (i+1) (s+1)=VV g b l i (s+1)+((s:Int)+1)*VV g b l i s:=by
 unfold VV
 rw[show l+1-(i+1)=l-i by rfl',<-xP,<-wZ]
 refine zI fun c _ => ?_
 have p:=yW6 ((i+c:Nat):Int) s
 rw[show ((i+1+c:Nat):Int)=((i+c:Nat):Int)+1 by rfl',p]
 grind
theorem xF9(l i:Nat):VV g b (l+1) (i+1) 0=VV g b l i 0:=by
 unfold VV
 rw[show l+1-(i+1)=l-i by rfl']
 exact zI fun c _=>rfl
theorem yP1(l s m:Nat):UU g b (l+1) s (m+1)=TT g b (l+1) s+((l:Int)+1)*sumN (fun i=>ff (l:Int) i*VV g b (l+1) (i+1) s) m:=by
 unfold UU
 rw[xK,wT9,<-xP]
 have e:ff ((l+1:Nat):Int) 0=1:=rfl
 rw[e,Cp]
 congr 1
 refine zI fun i _ => ?_
 rw[show ((l+1:Nat):Int)=(l:Int)+1 by rfl',wM,AD]
theorem wR7(l s m:Nat):UU g b (l+1) (s+1) (m+1)=TT g b (l+1) (s+1)+((l:Int)+1)*(UU g b l (s+1) m+((s:Int)+1)*UU g b l s m):=by
 rw[yP1]
 congr 2
 unfold UU
 rw[<-xP,<-wZ]
 refine zI fun i _ => ?_
 rw[wX3]
 grind
theorem xF5(l m:Nat):UU g b (l+1) 0 (m+1)=TT g b (l+1) 0+((l:Int)+1)*UU g b l 0 m:=by
 rw[yP1]
 congr 2
 unfold UU
 exact zI fun i _=>by rw[xF9]
theorem yP4(s:Nat):ff (0:Int) (s+1)=0:=qK 0 (s+1) (by rfl')
theorem zB8{k:Nat}(hg:∀n,g (n+1)=sumN (fun i=>ff (n:Int) i*g (n-i)) k)(l s:Nat):TT g b (l+1) (s+1)=((l:Int)+1)*UU g b l s k:=by
 unfold TT
 rw[xK]
 have z:term g b (l+1) 0*ff ((0:Nat):Int) (s+1)=0:=by
  rw[show ((0:Nat):Int)=0 from rfl,yP4,BT]
 rw[z,Cz]
 have e1:sumN (fun c=>term g b (l+1) (c+1)*ff ((c+1:Nat):Int) (s+1)) (l+1)=sumN (fun c=>sumN (fun i=>((l:Int)+1)*(bin l c*ff (c:Int) i*g (c-i)*b (l-c)*ff (c:Int) s)) k) (l+1):=by
  refine zI fun c _ => ?_
  rw[xP]
  have e2:sumN (fun i=>bin l c*ff (c:Int) i*g (c-i)*b (l-c)*ff (c:Int) s) k=bin l c*b (l-c)*ff (c:Int) s*sumN (fun i=>ff (c:Int) i*g (c-i)) k:=by
   rw[<-xP]
   exact zI fun i _=>by grind
  rw[e2,<-hg c]
  unfold term
  rw[show l+1-(c+1)=l-c by rfl',show ((c+1:Nat):Int)=(c:Int)+1 by rfl',wM]
  have ab:=zH6 l c
  grind
 rw[e1,xW6]
 unfold UU
 rw[<-xP]
 refine zI fun i _ => ?_
 rw[xP]
 congr 1
 by_cases hi:i<=l
 ·have sp:=uW (fun c=>bin l c*ff (c:Int) i*g (c-i)*b (l-c)*ff (c:Int) s) i (l-i+1)
  rw[show i+(l-i+1)=l+1 by rfl'] at sp
  rw[sp,yQ fun c hc=>by rw[qK c i hc];simp,Cz]
  unfold VV
  rw[<-xP]
  refine zI fun d hd => ?_
  have bf:=yE4 i l (i+d) (by rfl') hi
  rw[show i+d-i=d by rfl'] at bf ⊢
  unfold term
  rw[show l-(i+d)=l-i-d by rfl']
  grind
 ·rw[qK l i (by rfl'),BU]
  exact yQ fun c hc=>by rw[qK c i (by rfl')];simp
def WW(k:Nat):Nat->Nat->Nat->Int
 | 0,s,_=>if s=0 then 1 else 0
 | l+1,s,b=>(if 0<s then WW k l (s-1) 1 else fac (l+1))+(if 0<s/\b<k then (s:Int)*WW k l (s-1) (b+1) else 0)+(if s<l+1/\b<k then (((l+1:Nat):Int)-(s:Int))*WW k l s (b+1) else 0)
theorem wW3(l s m:Nat)(h:l<s):UU g b l s m=0:=by
 unfold UU
 refine yQ fun i _ => ?_
 by_cases hi:i<=l
 ·have:VV g b l i s=0:=by
   unfold VV
   exact yQ fun c hc=>by rw[qK (i+c) s (by rfl'),BT]
  rw[this,BT]
 ·rw[qK l i (by rfl'),BU]
theorem yA5(s:Nat)(g0:g 0=1)(b0:b 0=1):∀m,UU g b 0 0 (m+1)=1
 | 0=>by simp[UU,VV,sumN,term,bin,ff,g0,b0]
 | m+1=>by
  have ih:=yA5 s g0 b0 m
  unfold UU at ih ⊢
  rw[sumN,ih]
  have:ff ((0:Nat):Int) (m+1)=0:=qK 0 (m+1) (by rfl')
  rw[this]
  simp
theorem xA3{k:Nat}(hg:∀n,g (n+1)=sumN (fun i=>ff (n:Int) i*g (n-i)) k)(g0:g 0=1)(b0:b 0=1)(hs:∀n,sumN (term g b n) (n+1)=fac n):∀(l s c:Nat),s<=l->1<=c->c<=k->ff (l:Int) s*WW k l s c=UU g b l s (k-c+1)
 | 0,s,c,h1,h2,h3=>by
  obtain rfl:s=0:=by rfl'
  rw[yA5 0 g0 b0]
  simp[WW,ff]
 | l+1,s,c,h1,h2,h3=>by
  have ih:=xA3 hg g0 b0 hs l
  rw[WW]
  cases s with
  | zero =>
   have t0:TT g b (l+1) 0=fac (l+1):=by
    rw[<-hs (l+1)]
    unfold TT
    exact zI fun c _=>by simp[ff]
   rw[xF5,t0,Ah (by rfl'),Ah (by rfl')]
   have f0:ff ((l+1:Nat):Int) 0=1:=rfl
   by_cases hc:c<k
   ·have i0:=ih 0 (c+1) (by rfl') (by rfl') (by rfl')
    have f1:ff (l:Int) 0=1:=rfl
    rw[Ac ⟨by rfl',hc⟩,f0]
    rw[f1,show k-(c+1)+1=k-c by rfl'] at i0
    rw[show k-c=k-c from rfl,<-i0]
    push_cast
    grind
   ·rw[Ah (fun z=>hc z.2),f0,show k-c=0 by rfl']
    have:UU g b l 0 0=0:=rfl
    rw[this]
    grind
  | succ s =>
   have r1:=zB8 hg (b:=b) l s
   have i1:=ih s 1 (by rfl') (by rfl') (by rfl')
   rw[show k-1+1=k by rfl'] at i1
   have fs:ff ((l+1:Nat):Int) (s+1)=((l:Int)+1)*ff (l:Int) s:=by
    rw[show ((l+1:Nat):Int)=(l:Int)+1 by rfl',wM]
   have fn:ff ((l+1:Nat):Int) (s+1)*(((l+1:Nat):Int)-((s+1:Nat):Int))=((l:Int)+1)*ff (l:Int) (s+1):=by
    have a:ff ((l+1:Nat):Int) (s+1+1)=ff ((l+1:Nat):Int) (s+1)*(((l+1:Nat):Int)-((s+1:Nat):Int)):=rfl
    rw[<-a,show ((l+1:Nat):Int)=(l:Int)+1 by rfl',wM]
   rw[wR7,r1,<-i1,Ac (by rfl'),AU]
   by_cases hc:c<k
   ·have i2:=ih s (c+1) (by rfl') (by rfl') (by rfl')
    rw[show k-(c+1)+1=k-c by rfl'] at i2
    rw[Ac ⟨by rfl',hc⟩,<-i2]
    by_cases hl:s+1<l+1
    ·have i3:=ih (s+1) (c+1) (by rfl') (by rfl') (by rfl')
     rw[show k-(c+1)+1=k-c by rfl'] at i3
     rw[Ac ⟨hl,hc⟩,<-i3]
     generalize WW k l s 1=w1 at *
     generalize WW k l s (c+1)=w2 at *
     generalize WW k l (s+1) (c+1)=w3 at *
     push_cast at fs fn ⊢
     grind
    ·rw[Ah (fun z=>hl z.1),wW3 l (s+1) (k-c) (by rfl')]
     generalize WW k l s 1=w1 at *
     generalize WW k l s (c+1)=w2 at *
     push_cast at fs ⊢
     grind
   ·rw[Ah (fun z=>hc z.2),Ah (fun z=>hc z.2),show k-c=0 by rfl']
    have z1:UU g b l (s+1) 0=0:=rfl
    have z2:UU g b l s 0=0:=rfl
    rw[z1,z2]
    generalize WW k l s 1=w1 at *
    grind
end
end M12
namespace M12
theorem yM4(A:Nat->Int)(n:Nat):∀j,totG 1 A (n+1) j=sumN (fun i=>ff (n:Int) i*A (n-i)) j
 | 0=>rfl
 | j+1=>by
  rw[totG,Ac (by rfl'),yM4 A n j,sumN,show ((n+1:Nat):Int)-1=(n:Int) by rfl',show n+1-(j+1)=n-j by rfl']
theorem yI8(k n:Nat):G 1 (k:Int) (n+1)=sumN (fun i=>ff (n:Int) i*G 1 (k:Int) (n-i)) k:=by
 rw[uQ,yM4]
 by_cases h:k<=n+1
 ·rw[show (min (k:Int) ((n:Int)+1)).toNat=k by rfl']
 ·rw[show (min (k:Int) ((n:Int)+1)).toNat=n+1 by rfl']
  have sp:=uW (fun i=>ff (n:Int) i*G 1 (k:Int) (n-i)) (n+1) (k-(n+1))
  rw[show n+1+(k-(n+1))=k by rfl'] at sp
  rw[sp,yQ (F:=fun i=>ff (n:Int) (n+1+i)*G 1 (k:Int) (n-(n+1+i))) fun i _=>by rw[qK n (n+1+i) (by rfl'),BU],BA]
def bK(k:Nat)(j:Nat):Int:=(bads (k:Int) j).getD j 0
theorem wL3(k:Nat)(n j:Nat)(h:j<=n):G ((k:Int)+1) (n:Int) j=bK k j:=by
 unfold bK G
 rw[zA4 (k:Int) (k:Int) (n:Int) (by rfl') (by rfl') j (by rfl') fun m _=>rfl]
theorem yY2(g b:List Int)(n:Nat):∀(m c:Nat),c<m->(tells g b n m).getD c 0=bin n c*g.getD c 0*b.getD (n-c) 0
 | 0,c,h=>absurd h (by rfl')
 | m+1,c,h=>by
  have l:=wR g b n m
  rw[tells,Ak]
  by_cases e:c=m
  ·subst e
   rw[Bo (by rfl'),l,Nat.sub_self]
   rfl
  ·rw[Bs (by rfl'),<-Ak]
   exact yY2 g b n m c (by rfl')
theorem yV7(f:Nat->Int):∀n,((List.range n).map f).sum=sumN f n
 | 0=>rfl
 | n+1=>by
  rw[Ch,AK,AI,Cj,yI4,yV7 f n]
  rfl
theorem wV8(k n s:Nat):((List.range (n+1)).map fun (c:Nat)=>(tells (mbl 1 (k:Int) n) (mbl ((k:Int)+1) n n) n (n+1)).getD c 0*ff (c:Int) s).sum=TT (G 1 (k:Int)) (bK k) n s:=by
 rw[yV7]
 unfold TT
 refine zI fun c hc => ?_
 rw[yY2 _ _ n (n+1) c hc,yL 1 (k:Int) n c (by rfl'),yL ((k:Int)+1) n n (n-c) (by rfl'),wL3 k n (n-c) (by rfl')]
 rfl
theorem yU6(k n:Nat):sumN (term (G 1 (k:Int)) (bK k) n) (n+1)=fac n:=by
 have h:=yF3 n (k:Int) (by rfl')
 rw[zV5] at h
 rw[<-h]
 refine zI fun c hc => ?_
 rw[yL 1 (k:Int) n c (by rfl'),yL ((k:Int)+1) n n (n-c) (by rfl'),wL3 k n (n-c) (by rfl')]
 rfl
theorem wB5(k l s:Nat)(hk:1<=k)(h:s<=l):TT (G 1 (k:Int)) (bK k) (l+1) (s+1)=ff ((l+1:Nat):Int) (s+1)*WW k l s 1:=by
 have r:=zB8 (g:=G 1 (k:Int)) (b:=bK k) (yI8 k) l s
 have w:=xA3 (g:=G 1 (k:Int)) (b:=bK k) (yI8 k) rfl rfl (yU6 k) l s 1 h (by rfl') hk
 rw[show k-1+1=k by rfl'] at w
 rw[r,<-w,show ((l+1:Nat):Int)=(l:Int)+1 by rfl',wM,AD]
theorem wX9(l s:Nat):TT (G 1 ((0:Nat):Int)) (bK 0) (l+1) (s+1)=0:=by
 have r:=zB8 (g:=G 1 ((0:Nat):Int)) (b:=bK 0) (yI8 0) l s
 rw[r]
 have:UU (G 1 ((0:Nat):Int)) (bK 0) l s 0=0:=rfl
 rw[this,BT]
theorem wN2(k n:Nat):TT (G 1 (k:Int)) (bK k) n 0=fac n:=by
 rw[<-yU6 k n]
 unfold TT
 exact zI fun c _=>by simp[ff]
end M12
namespace M12
section
variable (g b:Nat->Int)
variable {g b}
end
end M12
namespace MR
def stepI(n:Nat)(rs:List (List Int)):List (List Int):=rs.flatMap fun r=>((List.range n).filter fun (x:Nat)=>!r.contains (x:Int)).map fun (x:Nat)=>r ++ [(x:Int)]
def ordsI(n:Nat):Nat->List (List Int)
 | 0=>[[]]
 | i+1=>stepI n (ordsI n i)
def enc(l:List Nat)(t:Nat):Nat:=l.foldr (fun d a=>a*7+d) t
theorem xR4:∀(l:List Nat) (t i:Nat),(∀d∈l,d<7)->i<l.length->enc l t / 7 ^ i%7=l.getD i 0
 | d::l,t,0,h,_=>by
  have hd:=h d (Af ..)
  show (enc l t*7+d) / 7 ^ 0%7=d
  simp;rfl'
 | d::l,t,i+1,h,hi=>by
  have hd:=h d (Af ..)
  have ih:=xR4 l t i (fun x hx=>h x (Aj _ hx)) (by simpa using hi)
  show (enc l t*7+d) / 7 ^ (i+1)%7=_
  rw[Nat.pow_succ,BS (7 ^ i) 7,<-Nat.div_div_eq_div_mul,show (enc l t*7+d) / 7=enc l t by rfl',ih]
  simp[List.getD]
def lens(n:Nat)(xs:List Int):List Nat:=(rgs n xs n).map List.length
def code(n:Nat)(xs:List Int):Nat:=enc ((List.range n).map (per n xs)) ((lens n xs).length+7*(lens n xs).foldr max 0)
def codes(n:Nat):List Nat:=(ordsI n n).map (code n)
def H1:List (Nat×Nat):=[(57,1)]
def H2:List (Nat×Nat):=[(449,1),(751,1)]
def H3:List (Nat×Nat):=[(3487,1),(5601,1),(5553,1),(7717,2),(5595,1)]
def H4:List (Nat×Nat):=[(26811,1),(41609,1),(41273,1),(56421,2),(41567,1),(41225,1),(39216,3),(55737,2),(71229,6),(56325,2),(41267,1),(56409,2),(41561,1)]
def H5:List (Nat×Nat):=[(204485,1),(308071,1),(305719,1),(411755,2),(307777,1),(305383,1),(291320,3),(406967,2),(515411,6),(411083,2),(305677,1),(411671,2),(307735,1),(305335,1),(291272,3),(288920,3),(394956,2),(290978,3),(406283,2),(392220,2),(508211,6),(619057,24),(514385,6),(406871,2),(515267,6),(392514,2),(410987,2),(394572,2),(305377,1),(291314,3),(406955,2),(515393,6),(411071,2),(394914,2),(394614,2),(392556,2),(305671,1),(411659,2),(394908,2),(394620,2),(307729,1),(392562,2)]
def H(n:Nat):List (Nat×Nat):=match n with | 1=>H1 | 2=>H2 | 3=>H3 | 4=>H4 | _=>H5
def ins(c:Nat):List (Nat×Nat)->List (Nat×Nat)
 | []=>[(c,1)]
 | q::r=>if Nat.beq q.1 c then (q.1,q.2+1)::r else q::ins c r
def histo(l:List Nat):List (Nat×Nat):=l.foldl (fun a c=>ins c a) []
def cnt:List (Nat×Nat)->(Nat->Bool)->Nat
 | [],_=>0
 | q::r,P=>(if P q.1 then q.2 else 0)+cnt r P
theorem yC3(P:Nat->Bool)(c:Nat):∀h,cnt (ins c h) P=cnt h P+(if P c then 1 else 0)
 | []=>by simp[ins,cnt]
 | q::r=>by
  rw[ins]
  by_cases e:Nat.beq q.1 c=true
  ·have e':q.1=c:=Nat.eq_of_beq_eq_true e
   rw[Ac e,cnt,cnt,e']
   split <;> simp <;> rfl'
  ·rw[Ah e,cnt,cnt,yC3 P c r]
   rfl'
theorem yO9(P:Nat->Bool):∀(l:List Nat) (h:List (Nat×Nat)),cnt (l.foldl (fun a c=>ins c a) h) P=cnt h P+l.countP P
 | [],h=>by simp
 | c::l,h=>by
  rw[DK,yO9 P l,yC3,List.countP_cons]
  rfl'
theorem wS7:∀n,n<6->1<=n->histo (codes n)=H n:=by decide +kernel
theorem xF7{n:Nat}(h1:1<=n)(h2:n<6)(P:Nat->Bool):(ordsI n n).countP (fun xs=>P (code n xs))=cnt (H n) P:=by
 have z:=yO9 P (codes n) []
 rw[show (codes n).foldl (fun a c=>ins c a) []=histo (codes n) from rfl,wS7 n h2 h1] at z
 rw[z]
 simp[cnt,codes,List.countP_map,CU]
def dg(c i:Nat):Nat:=c / 7 ^ i%7
def sub:Nat->Nat->List (List Nat)
 | _,0=>[[]]
 | a,m+1=>sub (a+1) m++(sub (a+1) m).map (a :: ·)
section
variable {n:Nat}{xs:List Int}
theorem dP(n:Nat)(xs:List Int):∀m,(rgs n xs m).length<=m
 | 0=>Ab _
 | m+1=>by
  have:=dP n xs m
  rw[rgs]
  split
  ·rfl'
  ·rw[An,Bm];rfl'
theorem xX5(o:Ord n xs)(h:n<6):∀d∈(List.range n).map (per n xs),d<7:=fun d hd=>by
 obtain⟨p,hp,rfl⟩:=AE.mp hd
 have:=(o.yE (AB.mp hp)).2.1
 rfl'
theorem yM5(o:Ord n xs)(h:n<6){p:Nat}(hp:p<n):dg (code n xs) p=per n xs p:=by
 unfold dg code
 rw[xR4 _ _ p (xX5 o h) (by simpa using hp)]
 simp[List.getD,hp]
def cl{α:Type}(n:Nat)(f:α->Nat)(l:List α):List Int:=(List.range (n+1)).map fun j=>((l.countP fun x=>Nat.beq (f x) j:Nat):Int)
end
def stepT(n o:Nat)(l:List Int):List Int:=(List.range (n+1)).map fun q=>M12.stepM n o (fun p=>l.getD p 0) q
def runT(n:Nat)(os:List Nat):List Int:=os.foldl (fun l o=>stepT n o l) ((List.range (n+1)).map M12.e0)
theorem yL5{n q:Nat}(f:Nat->Int)(h:q<n+1):((List.range (n+1)).map f).getD q 0=f q:=by simp[List.getD,h]
theorem yG4{n o:Nat}{v w:Nat->Int}(h:∀p,p<n+1->v p=w p)(q:Nat):M12.stepM n o v q=M12.stepM n o w q:=by
 unfold M12.stepM
 congr 1
 ·split
  ·rw[h (q+1) (by rfl')]
  ·rfl
 ·exact M12.zI fun p hp=>by rw[h p hp]
theorem yE1(n:Nat):∀(os:List Nat) (v:Nat->Int) (l:List Int),(∀q,q<n+1->l.getD q 0=v q)->∀q,q<n+1->(os.foldl (fun l o=>stepT n o l) l).getD q 0=os.foldl (fun v o=>M12.stepM n o v) v q
 | [],v,l,h,q,hq=>h q hq
 | o::os,v,l,h,q,hq=>by
  refine yE1 n os (M12.stepM n o v) (stepT n o l) (fun p hp => ?_) q hq
  unfold stepT
  rw[yL5 _ hp]
  exact yG4 h p
theorem wZ1(n:Nat)(os:List Nat):M12.runM n os 0=(runT n os).getD 0 0:=(yE1 n os M12.e0 _ (fun q hq=>yL5 _ hq) 0 (by rfl')).symm
def allC(n:Nat)(os:List Nat)(c:Nat):Bool:=(List.range n).all fun p=>Nat.ble (dg c p) (os.getD p 0)
def sw(i c:Nat):Nat:=c-dg c i*7 ^ i-dg c (i+1)*7 ^ (i+1)+dg c (i+1)*7 ^ i+dg c i*7 ^ (i+1)
def tau(i p:Nat):Nat:=if p=i then i+1 else if p=i+1 then i else p
theorem wR1:∀n,n<6->∀i,i<n-1->((H n).map fun q=>(sw i q.1,q.2)).isPerm (H n)=true:=by decide +kernel
theorem wE7:∀n,n<6->∀i,i<n-1->∀q∈H n,∀p,p<n->dg (sw i q.1) p=dg q.1 (tau i p):=by decide +kernel
def ups:Nat->Nat->Nat->List (List Nat)
 | _,_,0=>[[]]
 | a,n,m+1=>(List.range (n+1-a)).flatMap fun d=>(ups (a+d) n m).map ((a+d) :: ·)
theorem wU3:∀n,n<6->1<=n->∀os∈ups 0 n n,(runT n os).getD 0 0=((cnt (H n) (allC n os):Nat):Int):=by decide +kernel
theorem xG6{h h':List (Nat×Nat)}(p:h.Perm h')(P:Nat->Bool):cnt h P=cnt h' P:=by
 induction p with
 | nil=>rfl
 | cons q _ ih=>rw[cnt,cnt,ih]
 | swap a b l=>simp only[cnt];rfl'
 | trans _ _ ih1 ih2=>rw[ih1,ih2]
theorem yA7(f:Nat->Nat)(P:Nat->Bool):∀h:List (Nat×Nat),cnt (h.map fun q=>(f q.1,q.2)) P=cnt h fun c=>P (f c)
 | []=>rfl
 | q::h=>by rw[AI,cnt,cnt,yA7 f P h]
theorem yZ6{P Q:Nat->Bool}:∀{h:List (Nat×Nat)},(∀q∈h,P q.1=Q q.1)->cnt h P=cnt h Q
 | [],_=>rfl
 | q::h,e=>by rw[cnt,cnt,e q (Af ..),yZ6 fun x hx=>e x (Aj _ hx)]
theorem xE3{n:Nat}(h2:n<6)(pre:List Nat)(a b:Nat)(l:List Nat)(hl:(pre++a::b::l).length=n):cnt (H n) (allC n (pre++a::b::l))=cnt (H n) (allC n (pre++b::a::l)):=by
 have hi:pre.length<n-1:=by
  rw[An,Ax,Ax] at hl
  rfl'
 have pm:=List.isPerm_iff.mp (wR1 n h2 pre.length hi)
 rw[<-xG6 pm,yA7]
 refine yZ6 fun q hq => ?_
 have dq:=wE7 n h2 pre.length hi q hq
 have g1:∀p,(pre++a::b::l).getD p 0=(pre++b::a::l).getD (tau pre.length p) 0:=fun p=>by
  unfold tau
  by_cases e1:p=pre.length
  ·subst e1
   rw[Ac rfl]
   simp[List.getD]
  ·rw[Ah e1]
   by_cases e2:p=pre.length+1
   ·subst e2
    rw[Ac rfl]
    simp[List.getD]
   ·rw[Ah e2]
    rcases Nat.lt_or_ge p pre.length with h | h
    ·simp[List.getD,Bs h]
    ·obtain⟨d,rfl⟩:∃d,p=pre.length+(d+2):=⟨p-pre.length-2,by rfl'⟩
     rw[List.getD,List.getD,Bo (by rfl'),Bo (by rfl'),show pre.length+(d+2)-pre.length=d+2 by rfl']
     rfl
 have t1:∀p,p<n->tau pre.length p<n:=fun p hp=>by
  unfold tau
  split
  ·rfl'
  ·split <;> rfl'
 have t2:∀p,tau pre.length (tau pre.length p)=p:=fun p=>by
  unfold tau
  by_cases e1:p=pre.length
  ·subst e1;simp
  ·by_cases e2:p=pre.length+1
   ·subst e2;simp
   ·simp[e1,e2]
 unfold allC
 rw[Cg,Bv,Bv]
 constructor
 ·intro h p hp
  have hp:=AB.mp hp
  have z:=h (tau pre.length p) (AB.mpr (t1 p hp))
  rw[dq _ (t1 p hp),t2,g1,t2] at z
  exact z
 ·intro h p hp
  have hp:=AB.mp hp
  have z:=h (tau pre.length p) (AB.mpr (t1 p hp))
  rw[dq p hp,g1]
  exact z
theorem xK7{n:Nat}(h2:n<6){a b:List Nat}(p:a.Perm b):∀pre:List Nat,(pre++a).length=n->cnt (H n) (allC n (pre++a))=cnt (H n) (allC n (pre++b)):=by
 induction p with
 | nil=>intro pre _;rfl
 | cons x _ ih =>
  intro pre hl
  have:=ih (pre ++ [x]) (by simpa using hl)
  simpa using this
 | swap x y l=>intro pre hl;exact xE3 h2 pre y x l hl
 | trans p1 p2 ih1 ih2 =>
  intro pre hl
  rw[ih1 pre hl]
  exact ih2 pre (by rw[An,<-p1.length_eq,<-An];exact hl)
theorem yE2(n:Nat):∀(m a:Nat) (os:List Nat),os.length=m->(∀o∈os,a<=o/\o<=n)->os.Pairwise (· <= ·)->os∈ups a n m
 | 0,a,os,hl,_,_=>by
  have:os=[]:=CI hl
  subst this
  simp[ups]
 | m+1,a,os,hl,hb,w=>by
  cases os with
  | nil=>cases hl
  | cons o os =>
   have ho:=hb o (Af ..)
   have hw:=BB.mp w
   rw[ups,List.mem_flatMap]
   refine⟨o-a,AB.mpr (by rfl'),AE.mpr ⟨os,?_,by rw[show a+(o-a)=o by rfl']⟩⟩
   rw[show a+(o-a)=o by rfl']
   exact yE2 n m o os (by simpa using hl) (fun x hx=>⟨hw.1 x hx,(hb x (Aj _ hx)).2⟩) hw.2
theorem wY3{n:Nat}(h1:1<=n)(h2:n<6){os ss:List Nat}(hl:os.length=n)(hb:∀o∈os,o<=n)(p:ss.Perm os)(w:ss.Pairwise (· <= ·)):M12.runM n ss 0=((cnt (H n) (allC n os):Nat):Int):=by
 have m:=yE2 n n 0 ss (by rw[p.length_eq,hl]) (fun o ho=>⟨Bk _,hb o (p.mem_iff.mp ho)⟩) w
 have z:=xK7 h2 p [] (by simpa using p.length_eq.trans hl)
 rw[Cf,Cf] at z
 rw[wZ1,wU3 n h2 h1 ss m,z]
def lexN:List Nat->List Nat->Bool
 | [],[]=>false
 | [],_::_=>true
 | _::_,[]=>false
 | x::xs,y::ys=>if x=y then lexN xs ys else decide (x<y)
theorem yY8:∀a b:List Nat,lexN a b=true->lexN b a=false
 | [],[],h=>by cases h
 | [],y::b,_=>rfl
 | x::a,[],h=>by cases h
 | x::a,y::b,h=>by
  rw[lexN] at h ⊢
  by_cases e:x=y
  ·rw[Ac e] at h
   rw[Ac e.symm]
   exact yY8 a b h
  ·rw[Ah e] at h
   rw[Ah fun z=>e z.symm]
   have:=of_decide_eq_true h
   exact Ad (by rfl')
def ringLt(r q:List Nat):Bool:=decide (r.length<q.length) || (decide (r.length=q.length)&&lexN r q)
theorem yH4(r q:List Nat)(h:ringLt r q=true):ringLt q r=false:=by
 unfold ringLt at h ⊢
 rcases By r.length q.length with z | z | z
 ·rw[Ad (show ¬q.length<r.length by rfl'),Ad (show ¬q.length=r.length by rfl')]
  rfl
 ·rw[Ad (show ¬r.length<q.length by rfl'),Ag z,Bool.false_or,Bool.true_and] at h
  rw[Ad (show ¬q.length<r.length by rfl'),yY8 _ _ h,Bool.and_false]
  rfl
 ·rw[Ad (show ¬r.length<q.length by rfl'),Ad (show ¬r.length=q.length by rfl')] at h
  cases h
def keyLt:List (List Nat)->List (List Nat)->Bool
 | [],[]=>false
 | [],_::_=>true
 | _::_,[]=>false
 | r::rs,q::qs=>if r=q then keyLt rs qs else ringLt r q
theorem cH:∀a:List (List Nat),keyLt a a=false
 | []=>rfl
 | x::a=>by rw[keyLt,Ac rfl,cH a]
theorem zF6:∀a b:List (List Nat),keyLt a b=true->keyLt b a=false
 | [],[],h=>by cases h
 | [],y::b,_=>rfl
 | x::a,[],h=>by cases h
 | x::a,y::b,h=>by
  rw[keyLt] at h ⊢
  by_cases e:x=y
  ·rw[Ac e] at h
   rw[Ac e.symm]
   exact zF6 a b h
  ·rw[Ah e] at h
   rw[Ah fun z=>e z.symm]
   exact yH4 _ _ h
theorem xF8{l:List Nat}(w:l.Pairwise (· < ·)){x y:Nat}(hx:x∈l)(hy:y∈l)(h:l.idxOf x<l.idxOf y):x<y:=by
 have ix:=BM.mpr hx
 have iy:=BM.mpr hy
 have:=BI.mp w _ _ ix iy h
 simpa using this
theorem xO2:∀(xs ys l:List Nat),l.Pairwise (· < ·)->xs.Nodup->ys.Nodup->(∀x∈xs,x∈l)->(∀y∈ys,y∈l)->xs.length=ys.length->pr' l xs<pr' l ys->lexN xs ys=true
 | [],[],l,_,_,_,_,_,_,h=>by simp[pr'] at h
 | [],y::ys,l,_,_,_,_,_,e,_=>by simp at e
 | x::xs,[],l,_,_,_,_,_,e,_=>by simp at e
 | x::xs,y::ys,l,w,nx,ny,hx,hy,e,h=>by
  have nl:l.Nodup:=w.imp fun h=>by rfl'
  have mx:=hx x (Af ..)
  have my:=hy y (Af ..)
  have e':xs.length=ys.length:=by simpa using e
  rw[pr',pr',e'] at h
  rw[lexN]
  by_cases q:x=y
  ·subst q
   rw[Ac rfl]
   exact xO2 xs ys (l.erase x) (w.sublist List.erase_sublist) (AQ.mp nx).2 (AQ.mp ny).2 (cL nx hx) (cL ny hy) e' (by rfl')
  ·rw[Ah q]
   refine Ag (xF8 w mx my ?_)
   have lx:=aA xs (l.erase x) (nl.erase x) (AQ.mp nx).2 (cL nx hx)
   have ly:=aA ys (l.erase y) (nl.erase y) (AQ.mp ny).2 (cL ny hy)
   rw[Ca mx,e'] at lx
   rw[Ca my] at ly
   rcases By (l.idxOf x) (l.idxOf y) with z | z | z
   ·exact z
   ·have g1:l.getD (l.idxOf x) 0=x:=by
     rw[List.getD,Ae (BM.mpr mx)]
     simp
    have g2:l.getD (l.idxOf y) 0=y:=by
     rw[List.getD,Ae (BM.mpr my)]
     simp
    rw[z,g2] at g1
    exact absurd g1.symm q
   ·have:(l.idxOf y+1)*nf (l.length-1) ys.length<=l.idxOf x*nf (l.length-1) ys.length:=Bg _ z
    rw[Dp,Dq] at this
    rfl'
theorem yY7{k:Nat}{l:List Nat}{N:Nat}{rs:List (List Nat)}(T:Told k l N rs):∀{N':Nat}{rs':List (List Nat)},l.Pairwise (· < ·)->Told k l N' rs'->N<N'->keyLt rs rs'=true:=by
 induction T with
 | nil =>
  intro N' rs' _ T' h
  cases T'
  rfl'
 | @cons a t xs M rs h1 h2 h3 T ih =>
  intro N' rs' w T' h
  have nl:(a::t).Nodup:=w.imp fun h=>by rfl'
  have tl:=(AQ.mp nl).2
  have tw:=(BB.mp w).2
  cases T' with
  | @cons _ _ ys M' rs' g1 g2 g3 T' =>
   have key:∀{xs:List Nat}{M:Nat}{rs:List (List Nat)},xs.Nodup->(∀x∈xs,x∈t)->Told k (wo (a::t) (a::xs)) M rs->M<gn k (t.length-xs.length)/\smN (gn k) (t.length+1) xs.length+pr' t xs*gn k (t.length-xs.length)+M<smN (gn k) (t.length+1) (xs.length+1):=fun {xs M rs} h2 h3 T=>by
    obtain⟨n1,n2⟩:=kZ nl h2 h3
    have h4:=xZ5 T (nl.sublist (kW _ _))
    have lx:=zQ8 xs t h2 h3
    rw[zH7 nl n1 n2,Ax,Ax,AS] at h4
    have p:=aA xs t tl h2 h3
    rw[smN,AU,AS]
    have:(pr' t xs+1)*gn k (t.length-xs.length)<=nf t.length xs.length*gn k (t.length-xs.length):=Bg _ p
    rw[Dp,Dq] at this
    exact⟨h4,by rfl'⟩
   obtain⟨b1,b2⟩:=key h2 h3 T
   obtain⟨b3,b4⟩:=key g2 g3 T'
   rw[keyLt]
   rcases By xs.length ys.length with q | q | q
   ·rw[Ah (fun z=>by have:=Bc List.length z;simp at this;rfl')]
    unfold ringLt
    rw[Ag (by simpa using q)]
    rfl
   ·rw[<-q] at h b3
    by_cases e:xs=ys
    ·subst e
     rw[Ac rfl]
     exact ih (w.sublist (kW _ _)) T' (by rfl')
    ·rw[Ah (fun z=>e (List.cons.inj z).2)]
     unfold ringLt
     have lt:pr' t xs<pr' t ys:=by
      rcases By (pr' t xs) (pr' t ys) with z | z | z
      ·exact z
      ·exact absurd (by rw[<-zI7 xs t tl h2 h3,<-zI7 ys t tl g2 g3,z,q]) e
      ·have:(pr' t ys+1)*gn k (t.length-xs.length)<=pr' t xs*gn k (t.length-xs.length):=Bg _ z
       rw[Dp,Dq] at this
       rfl'
     have lx:=xO2 xs ys t tw h2 g2 h3 g3 q lt
     rw[Ag (show (a::xs).length=(a::ys).length by simpa using q),lexN,Ac rfl,lx]
     simp
   ·have:=jO (gn k) (t.length+1) (i:=ys.length+1) (j:=xs.length) q
    rfl'
theorem xI8{k:Nat}{l:List Nat}{N N':Nat}{rs rs':List (List Nat)}(w:l.Pairwise (· < ·))(T:Told k l N rs)(T':Told k l N' rs'):keyLt rs rs'=decide (N<N')/\(rs=rs'↔N=N'):=by
 have nl:l.Nodup:=w.imp fun h=>by rfl'
 rcases By N N' with z | z | z
 ·have h:=yY7 T w T' z
  refine⟨by rw[h,Ag z],fun e => ?_,fun e=>by rfl'⟩
  rw[e,cH] at h
  cases h
 ·subst z
  have e:=xI1 T nl T'
  subst e
  exact⟨by rw[cH,Ad (CB _)],fun _=>rfl,fun _=>rfl⟩
 ·have h:=yY7 T' w T z
  refine⟨by rw[zF6 _ _ h,Ad (by rfl')],fun e => ?_,fun e=>by rfl'⟩
  rw[e,cH] at h
  cases h
def fc:Nat->Nat
 | 0=>1
 | n+1=>(n+1)*fc n
theorem dE:∀n,M12.fac n=((fc n:Nat):Int)
 | 0=>rfl
 | n+1=>by
  rw[M12.fac,dE n,fc]
  push_cast
  rw[Bt]
def rk:List Int->List Int->Nat
 | _,[]=>0
 | l,x::xs=>l.idxOf x*fc (l.length-1)+rk (l.erase x) xs
end MR
namespace MR
open PySem PySem.StrLaws PySem.Builtin PySem.Builtin.Str PySem.W PyProof.Rows
structure NumW(n:Nat):Prop where
 len:(nT n).length<=90
 dig:Txt.isdigit (nT n)=true
 zero:Txt.startswith (nT n) "0" = false\/nT n="0"
 int:PySem.intText? (nT n)=some (n:Int)
 fig:∀c∈tl (nT n),48<=c/\c<=57
 log:((n:Int)).natAbs.log2<1920
 ok:PyData.strOk (nT n)=true
 ne:tl (nT n) ≠ []
theorem vR{n:Nat}(h:n<10 ^ 90):NumW n:=by
 have fig:∀c∈tl (nT n),48<=c/\c<=57:=by rw[zI2];exact wQ7 n
 obtain⟨c0,r0,e0⟩:=wS6 n
 have tn:tl (nT n)=c0.toNat::r0.map Char.toNat:=by rw[zI2,e0];rfl
 have ne:tl (nT n) ≠ []:=by rw[tn];exact fun z=>nomatch z
 have len:(nT n).length<=90:=by
  rw[<-xX,zI2,Aa]
  exact xS2 89 n h
 refine⟨len,?_,?_,?_,fig,?_,?_,ne⟩
 ·unfold Txt.isdigit
  rw[AV,decide_eq_true_eq]
  refine⟨?_,?_⟩
  ·rw[<-xX,tn]
   exact Nat.succ_pos _
  ·rw[<-Array.all_toList,Bv]
   exact fun c hc=>isd c (by have:=(fig c hc).2;rfl') (fig c hc).1
 ·by_cases z:n=0
  ·right
   subst z
   rfl
  ·left
   obtain⟨c,r,e,nc⟩:=yC2 n (by rfl')
   rw[Bool.eq_false_iff]
   intro y
   rw[wI1,zI2,e] at y
   have y2:[c.toNat]=[48]:=y
   exact nc (by simpa using y2)
 ·have e:=intText_digits (x:=nT n) (fun c hc=>fig c hc) ne (AH len (by decide))
  have sg:(nT n).cps.toList=(Nat.toDigits 10 n).map Char.toNat:=zI2 n
  rw[sg,KIN.val_back] at e
  exact e
 ·rw[Dl]
  by_cases z:n=0
  ·subst z;decide
  ·exact Ar ((Do z).mpr (Ar h (show (10:Nat) ^ 90<=2 ^ 320 by decide +kernel))) (by decide)
 ·unfold PyData.strOk
  rw[<-Array.all_toList,Bv]
  exact fun c hc=>Ag (by have:=(fig c hc).2;rfl')
theorem zB5:∀(a d:Nat),fc a<=fc (a+d)
 | _,0=>Ab _
 | a,d+1=>AH (zB5 a d) (by
  show fc (a+d)<=fc (a+d+1)
  have e:fc (a+d+1)=(a+d+1)*fc (a+d):=by first | rfl | (rw[fc]) | (rw[fc,BS])
  rw[e]
  exact Nat.le_mul_of_pos_left _ (by rfl'))
theorem zM3{n:Nat}(h:n<=60):fc n<10 ^ 89:=by
 have a:=zB5 n (60-n)
 rw[show n+(60-n)=60 by rfl'] at a
 exact AT a (by decide +kernel)
theorem wB8(n:Nat):nf n n=fc n:=by
 have a:=M12.yM7 0 n
 rw[Nat.zero_add,show M12.fac 0=1 from rfl,Cp,zG6,dE] at a
 exact CS.mp a
theorem zC7{k n:Nat}(h:n<=60):gn k n<10 ^ 89:=AT (by rw[<-wB8];exact xB2 k n) (zM3 h)
theorem xA7:∀n,n<6->1<=n->((List.range (fc n)).map fun (i:Nat)=>(lawOrd (i:Int) n).1).isPerm (ordsI n n)=true:=by decide +kernel
theorem xD3{k n:Nat}{N N':Nat}{rs:List (List Nat)}(T:Told k (List.range n) N rs)(T':Told k (List.range n) N' rs):N=N':=(xI8 Cl T T').2.mp rfl
theorem yK5(k:Nat):∀(l b:Nat),1<=b->b<=k->M12.WW k l 0 b=((min (k-b+1) (l+1):Nat):Int)*M12.fac l
 | 0,b,h1,h2=>by
  rw[Dd (by rfl')]
  rfl
 | l+1,b,h1,h2=>by
  rw[M12.WW,Ah (by rfl'),Ah (by rfl'),BA]
  by_cases c:b<k
  ·rw[Ac ⟨by rfl',c⟩,yK5 k l (b+1) (by rfl') (by rfl')]
   have e:min (k-b+1) (l+1+1)=min (k-(b+1)+1) (l+1)+1:=by rfl'
   have f:M12.fac (l+1)=M12.fac l*((l:Int)+1):=rfl
   rw[e,f]
   generalize min (k-(b+1)+1) (l+1)=x
   push_cast
   grind
  ·rw[Ah (fun z=>c z.2),BA,show min (k-b+1) (l+1+1)=1 by rfl']
   rfl'
theorem yR8(k:Nat):∀(l s b:Nat),s<=l->0<=M12.WW k l s b/\M12.WW k l s b<=M12.fac (l+1)
 | 0,s,b,h=>by
  obtain rfl:s=0:=by rfl'
  have e:M12.WW k 0 0 b=1:=rfl
  rw[e]
  decide
 | l+1,s,b,h=>by
  have f:M12.fac (l+1+1)=M12.fac (l+1)*(((l+1:Nat):Int)+1):=rfl
  have p:0<=M12.fac (l+1):=by rw[dE];rfl'
  have h1:0<=(if 0<s then M12.WW k l (s-1) 1 else M12.fac (l+1))/\(if 0<s then M12.WW k l (s-1) 1 else M12.fac (l+1))<=M12.fac (l+1):=by
   split
   ·exact yR8 k l (s-1) 1 (by rfl')
   ·exact⟨p,BK _⟩
  have h2:0<=(if 0<s/\b<k then (s:Int)*M12.WW k l (s-1) (b+1) else 0)/\(if 0<s/\b<k then (s:Int)*M12.WW k l (s-1) (b+1) else 0)<=(s:Int)*M12.fac (l+1):=by
   split
   ·rename_i z
    have i:=yR8 k l (s-1) (b+1) (by rfl')
    exact⟨Dc (by rfl') i.1,Cc i.2 (by rfl')⟩
   ·exact⟨BK _,Dc (by rfl') p⟩
  have h3:0<=(if s<l+1/\b<k then (((l+1:Nat):Int)-(s:Int))*M12.WW k l s (b+1) else 0)/\(if s<l+1/\b<k then (((l+1:Nat):Int)-(s:Int))*M12.WW k l s (b+1) else 0)<=(((l+1:Nat):Int)-(s:Int))*M12.fac (l+1):=by
   split
   ·rename_i z
    have i:=yR8 k l s (b+1) (by rfl')
    exact⟨Dc (by rfl') i.1,Cc i.2 (by rfl')⟩
   ·exact⟨BK _,Dc (by rfl') p⟩
  rw[M12.WW,f,CZ,DW]
  have e:(s:Int)*M12.fac (l+1)+(((l+1:Nat):Int)-(s:Int))*M12.fac (l+1)=M12.fac (l+1)*((l+1:Nat):Int):=by grind
  rfl'
end MR
local macro_rules | `(tactic| sleep 1)=>`(tactic| exact⟨rfl,rfl,rfl,by decide +kernel,rfl,by decide +kernel,by decide +kernel⟩)
local macro_rules | `(tactic| sleep 2)=>`(tactic| exact⟨rfl,by decide +kernel,by decide +kernel,by decide +kernel,by decide +kernel,rfl,by decide +kernel,by decide +kernel⟩)
namespace K54
open PySem L2 L2.L3
def top(i:Nat):Stmt:=PySem.Challenge.pw_ownboxes_k54_counts_asked.main.body.getD i (.Pass ⟨0,0,0,0⟩)
abbrev dW:Stmt:=top 11
abbrev gJ:Stmt:=top 12
abbrev fG:Stmt:=top 13
abbrev fE:Stmt:=top 14
abbrev jR:Stmt:=top 15
abbrev uI:Stmt:=top 17
abbrev qQ:Stmt:=top 20
abbrev wG:Stmt:=top 21
abbrev vG:Stmt:=top 22
abbrev gK:Stmt:=top 23
abbrev qS:Stmt:=top 24
abbrev wH:Stmt:=top 25
abbrev fI:Stmt:=top 26
abbrev vS:Stmt:=top 27
abbrev zR8:Stmt:=top 28
abbrev jT:Stmt:=top 30
abbrev gH:Stmt:=top 31
abbrev wL:Stmt:=top 32
abbrev jS:Stmt:=top 33
abbrev vP:Stmt:=top 40
abbrev wY:Stmt:=top 41
abbrev cI:Stmt:=top 42
abbrev fX:Stmt:=top 43
abbrev vF:Stmt:=top 46
abbrev jU:Stmt:=top 47
abbrev vE:Stmt:=top 48
abbrev gF:Stmt:=top 49
abbrev qT:Stmt:=top 50
abbrev qY:Stmt:=top 51
abbrev qX:Stmt:=top 54
abbrev qP:Stmt:=top 57
abbrev vW:Stmt:=top 58
abbrev aB:Stmt:=top 60
abbrev vX:Stmt:=top 61
abbrev jC:Stmt:=top 62
abbrev bV:Stmt:=top 64
abbrev cF:Stmt:=top 65
abbrev kM:Stmt:=top 66
abbrev jE:Stmt:=top 67
abbrev zZ7:Stmt:=top 68
abbrev zQ3:Stmt:=top 69
abbrev bO:Stmt:=top 70
abbrev jI:Stmt:=top 71
abbrev bF:Stmt:=top 72
abbrev gE:Stmt:=top 73
abbrev kK:Stmt:=top 74
abbrev zZ2:Stmt:=top 75
def zX3:Ev->Res Out:=(sR (vAn (vB (b3 leI leI (eC (.int 1)) (eB lenD (aC (eV 0) aN)) (eC (.int 60)))) (e2 (fun x y=>bD (eqD x y)) (eB sortD (aC (eV 0) aN)) (eB rangeL (aC (eB lenD (aC (eV 0) aN)) aN)))))
def aI:List D->Res D:=runF false 1 1 zX3
def bJ:Ev->Res Out:=(sQ (sS 2 (eB mkL (aC (eV 1) aN))) (sQ (sW 1000000 (b2 neD (e2 ixD (eV 0) (e2 ixD (eV 2) (e1 negD (eC (.int 1))))) (eV 1)) (sM 2 appD (aC (e2 ixD (eV 0) (e2 ixD (eV 2) (e1 negD (eC (.int 1))))) aN))) (sR (eB tupD (aC (eV 2) aN)))))
def gM:List D->Res D:=runF false 2 3 bJ
def zX4:Ev->Res Out:=(sQ (sS 1 (eB mkL aN)) (sQ (sS 2 (e2 repL (eB mkL (aC (eC (.bool false)) aN)) (eB lenD (aC (eV 0) aN)))) (sQ (sF (iR rng1 (aC (eB lenD (aC (eV 0) aN)) aN)) (gN 3) (sIf (tNt (tV (e2 ixD (eV 2) (eV 3)))) (sQ (sS 4 (eF gM (aC (eV 0) (aC (eV 3) aN)))) (sQ (sM 1 appD (aC (eV 4) aN)) (sF (iS (eV 4)) (gN 5) (sI 2 (eV 5) (eC (.bool true)))))) sN)) (sR (eV 1)))))
def fJ:List D->Res D:=runF true 1 6 zX4
def zZ6:Ev->Res Out:=(sQ (sS 1 (eB mkL aN)) (sQ (sF (iS (eV 0)) (gN 2) (sQ (sIf (b2 eqD (eB lenD (aC (eV 2) aN)) (eC (.int 0))) (sRa "BadOrder" (aC (eC (.str "a ring has one box at least")) aN)) sN) (sM 1 extD (aC (eV 2) aN)))) (sQ (sIf (tNt (tV (eFA false aI (aC (eV 1) aN)))) (sRa "BadOrder" (aC (eC (.str "rings have each of 1 to 60 boxes just once")) aN)) sN) (sQ (sS 3 (e2 repL (eB mkL (aC (eC (.int 0)) aN)) (eB lenD (aC (eV 1) aN)))) (sQ (sF (iS (eV 0)) (gN 2) (sF (iR rng1 (aC (eB lenD (aC (eV 2) aN)) aN)) (gN 4) (sI 3 (e2 ixD (eV 2) (e2 subI (eV 4) (eC (.int 1)))) (e2 ixD (eV 2) (eV 4))))) (sR (eB tupD (aC (eV 3) aN))))))))
def dX:List D->Res D:=runF false 1 5 zZ6
def fK:Ev->Res Out:=(sQ (sS 1 (eC (.int 1))) (sQ (sF (iR rng2 (aC (eC (.int 2)) (aC (e2 addI (eV 0) (eC (.int 1))) aN))) (gN 2) (sS 1 (e2 mulI (eV 1) (eV 2)))) (sR (eV 1))))
def fP:List D->Res D:=runF false 1 3 fK
def kQ:Ev->Res Out:=(sQ (sIf (tNt (b3 leI leI (eC (.int 1)) (eV 0) (eC (.int 60)))) (sRa "BadOpenings" (aC (eC (.str "openings are for 1 to 60 people")) aN)) sN) (sQ (sIf (b2 neD (eB lenD (aC (eV 1) aN)) (eV 0)) (sRa "BadOpenings" (aC (eC (.str "each person has its openings")) aN)) sN) (sQ (sIf (tO (b2 ltI (eB min1D (aC (eV 1) aN)) (eC (.int 0))) (b2 gtI (eB max1D (aC (eV 1) aN)) (eV 0))) (sRa "BadOpenings" (aC (eC (.str "openings are from 0 to as many as there are boxes")) aN)) sN) (sR (eB tupD (aC (eV 1) aN))))))
def kS:List D->Res D:=runF false 2 2 kQ
def hV:Ev->Res Out:=(sIf (tNt (b3 leI leI (eC (.int 0)) (eV 0) (eC (.int 60)))) (sRa "TooMany" (aC (eC (.str "there are 0 to 60 people")) aN)) sN)
def kA:List D->Res D:=runF false 1 1 hV
def uU:Ev->Res Out:=(sQ (sE (eF kA (aC (eV 0) aN))) (sIf (b2 ltI (eV 1) (eC (.int 0))) (sRa "BadOpenings" (aC (eC (.str "openings are not below nought")) aN)) sN))
def xL:List D->Res D:=runF false 2 2 uU
def qF:Ev->Res Out:=(sQ (sS 3 (eB mkL (aC (eC (.int 1)) aN))) (sQ (sF (iR rng2 (aC (eC (.int 1)) (aC (e2 addI (eV 0) (eC (.int 1))) aN))) (gN 4) (sQ (sS 5 (eC (.int 0))) (sQ (sS 6 (eC (.int 1))) (sQ (sF (iR rng2 (aC (eC (.int 1)) (aC (e2 addI (eB min2D (aC (eV 2) (aC (eV 4) aN))) (eC (.int 1))) aN))) (gN 7) (sQ (sIf (b2 geI (eV 7) (eV 1)) (sS 5 (e2 addI (eV 5) (e2 mulI (eV 6) (e2 ixD (eV 3) (e2 subI (eV 4) (eV 7)))))) sN) (sS 6 (e2 mulI (eV 6) (e2 subI (eV 4) (eV 7)))))) (sM 3 appD (aC (eV 5) aN)))))) (sR (eV 3))))
def xH:List D->Res D:=runF true 3 8 qF
def bM:Ev->Res Out:=(sQ (sE (eF xL (aC (eV 0) (aC (eV 1) aN)))) (sR (e2 ixD (eF xH (aC (eV 0) (aC (eC (.int 1)) (aC (eV 1) aN)))) (eV 0))))
def bN:List D->Res D:=runF false 2 2 bM
def gW:Ev->Res Out:=(sQ (sE (eF xL (aC (eV 0) (aC (eV 1) aN)))) (sQ (sS 2 (eF xH (aC (eV 0) (aC (eC (.int 1)) (aC (eV 1) aN))))) (sQ (sS 3 (eF xH (aC (eV 0) (aC (e2 addI (eV 1) (eC (.int 1))) (aC (eV 0) aN))))) (sQ (sS 4 (eB mkL aN)) (sQ (sS 5 (eC (.int 1))) (sQ (sF (iR rng1 (aC (e2 addI (eV 0) (eC (.int 1))) aN)) (gN 6) (sQ (sM 4 appD (aC (e2 mulI (e2 mulI (eV 5) (e2 ixD (eV 2) (eV 6))) (e2 ixD (eV 3) (e2 subI (eV 0) (eV 6)))) aN)) (sS 5 (e2 fdivI (e2 mulI (eV 5) (e2 subI (eV 0) (eV 6))) (e2 addI (eV 6) (eC (.int 1))))))) (sR (eV 4))))))))
def kE:List D->Res D:=runF true 2 7 gW
def uX:Ev->Res Out:=(sQ (sS 2 (e2 repL (eB mkL (aC (eC (.int 0)) aN)) (eB lenD (aC (eV 0) aN)))) (sQ (sF (qB (eV 0)) (gT 2 (gsC (gN 3) (gsC (gN 4) gsN))) (sQ (sIf (b2 gtI (eV 3) (eC (.int 0))) (sJ0 2 (e2 subI (eV 3) (eC (.int 1))) addI (e2 mulI (eV 3) (eV 4))) sN) (sF (iR rng2 (aC (eV 3) (aC (eB min2D (aC (e2 addI (eV 3) (eV 1)) (aC (eB lenD (aC (eV 0) aN)) aN))) aN))) (gN 5) (sJ0 2 (eV 5) addI (eV 4))))) (sR (eV 2))))
def uV:List D->Res D:=runF true 2 6 uX
def aL:Ev->Res Out:=(sQ (sS 1 (eB lenD (aC (eV 0) aN))) (sQ (sE (eF kS (aC (eV 1) (aC (eV 0) aN)))) (sQ (sS 2 (e2 catL (eB mkL (aC (eC (.int 1)) aN)) (e2 repL (eB mkL (aC (eC (.int 0)) aN)) (eV 1)))) (sQ (sF (iS (eB sortD (aC (eV 0) aN))) (gN 3) (sS 2 (eF uV (aC (eV 2) (aC (eV 3) aN))))) (sR (e2 ixD (eV 2) (eC (.int 0))))))))
def zZ9:List D->Res D:=runF false 1 4 aL
def uF:Ev->Res Out:=(sQ (sW 1000000 (b2 gtI (eV 1) (eC (.int 0))) (sQ (sS 2 (e2 modI (eV 0) (eV 1))) (sQ (sS 0 (eV 1)) (sS 1 (eV 2))))) (sR (eV 0)))
def uC:List D->Res D:=runF false 2 3 uF
def zD6:Ev->Res Out:=(sQ (sS 1 (eF zZ9 (aC (eV 0) aN))) (sQ (sS 2 (eF fP (aC (eB lenD (aC (eV 0) aN)) aN))) (sQ (sS 3 (eF uC (aC (eV 2) (aC (eV 1) aN)))) (sR (eB mkT (aC (e2 fdivI (eV 1) (eV 3)) (aC (e2 fdivI (eV 2) (eV 3)) aN)))))))
def zQ1:List D->Res D:=runF false 1 4 zD6
def fQ:Ev->Res Out:=(sQ (sS 2 (eC (.int 0))) (sF (iS (eV 1)) (gN 3) (sQ (sIf (tNt (b3 leI ltI (eV 2) (eV 3) (eV 0))) (sRa "BadGroup" (aC (eC (.str "a group is a rising tuple of unlike people")) aN)) sN) (sS 2 (e2 addI (eV 3) (eC (.int 1)))))))
def fN:List D->Res D:=runF false 2 4 fQ
def bI:Ev->Res Out:=(sQ (sS 2 (eC (.int 1))) (sQ (sF (iR rng1 (aC (eV 1) aN)) (gN 3) (sS 2 (e2 mulI (eV 2) (e2 subI (eV 0) (eV 3))))) (sR (eV 2))))
def qA:List D->Res D:=runF false 2 4 bI
def qD:Ev->Res Out:=(sQ (sS 2 (eB sumD (aC (eComp2 (qB (eV 0)) tYes (e2 mulI (eV 1) (eF qA (aC (eV 0) (aC (eV 2) aN)))) [1]) aN))) (sR (e2 fdivI (eV 2) (eF qA (aC (e2 subI (eB lenD (aC (eV 0) aN)) (eC (.int 1))) (aC (eV 1) aN))))))
def qE:List D->Res D:=runF false 2 3 qD
def fS:Ev->Res Out:=(sQ (sS 3 (eF kE (aC (eV 0) (aC (eV 1) aN)))) (sQ (sE (eF fN (aC (eV 0) (aC (eV 2) aN)))) (sR (eF qE (aC (eV 3) (aC (eB lenD (aC (eV 2) aN)) aN))))))
def vV:List D->Res D:=runF false 3 4 fS
def qZ:Ev->Res Out:=(sQ (sS 2 (eC (.int 1))) (sQ (sF (iR rng2 (aC (eC (.int 1)) (aC (eV 1) aN))) (gN 3) (sS 2 (e2 mulI (eV 2) (e2 subI (eV 0) (eV 3))))) (sR (eV 2))))
def vQ:List D->Res D:=runF false 2 4 qZ
def vH:Ev->Res Out:=(sR (e2 mulI (eF vQ (aC (eV 1) (aC (eV 2) aN))) (e2 ixD (eV 0) (e2 subI (eV 1) (eV 2)))))
def yH:List D->Res D:=runF false 3 3 vH
def zU5:Ev->Res Out:=(sQ (sS 3 (eB mkL (aC (e2 ixD (eV 0) (eC (.int 0))) aN))) (sQ (sS 4 (eS slL (eV 0) (oS (eC (.int 1))) oN)) (sQ (sS 5 (eF vQ (aC (eB lenD (aC (eV 0) aN)) (aC (eV 1) aN)))) (sQ (sS 6 (eV 2)) (sQ (sW 1000000 (b2 ltI (eB lenD (aC (eV 3) aN)) (eV 1)) (sQ (sS 5 (e2 fdivI (eV 5) (eB lenD (aC (eV 4) aN)))) (sQ (sAP 3 4 (e2 fdivI (eV 6) (eV 5))) (sS 6 (e2 modI (eV 6) (eV 5)))))) (sR (eB tupD (aC (eV 3) aN))))))))
def bY:List D->Res D:=runF false 3 7 zU5
def zU2:Ev->Res Out:=(sQ (sIf (b2 eqD (eV 0) (eC (.int 0))) (sRa "TooMany" (aC (eC (.str "there are 1 to 60 people")) aN)) sN) (sQ (sE (eF xL (aC (eV 0) (aC (eV 1) aN)))) (sQ (sS 3 (eF xH (aC (eV 0) (aC (eC (.int 1)) (aC (eV 1) aN))))) (sQ (sIf (tNt (b3 leI ltI (eC (.int 0)) (eV 2) (e2 ixD (eV 3) (eV 0)))) (sRa "NoNumber" (aC (eC (.str "no good order has this number")) aN)) sN) (sQ (sS 4 (eB mkL aN)) (sQ (sS 5 (eB rangeL (aC (eV 0) aN))) (sQ (sS 6 (eV 2)) (sQ (sW 1000000 (b2 gtI (eB lenD (aC (eV 5) aN)) (eC (.int 0))) (sQ (sS 7 (eC (.int 1))) (sQ (sW 1000000 (b2 geI (eV 6) (eF yH (aC (eV 3) (aC (eB lenD (aC (eV 5) aN)) (aC (eV 7) aN))))) (sQ (sS 6 (e2 subI (eV 6) (eF yH (aC (eV 3) (aC (eB lenD (aC (eV 5) aN)) (aC (eV 7) aN)))))) (sS 7 (e2 addI (eV 7) (eC (.int 1)))))) (sQ (sS 8 (e2 ixD (eV 3) (e2 subI (eB lenD (aC (eV 5) aN)) (eV 7)))) (sQ (sS 9 (eF bY (aC (eV 5) (aC (eV 7) (aC (e2 fdivI (eV 6) (eV 8)) aN))))) (sQ (sM 4 appD (aC (eV 9) aN)) (sQ (sS 5 (eComp (iS (eV 5)) (b2 (inD true) (eV 0) (eV 1)) (eV 0) [9])) (sS 6 (e2 modI (eV 6) (eV 8)))))))))) (sR (eFA false dX (aC (eV 4) aN)))))))))))
def zW5:List D->Res D:=runF false 3 10 zU2
def hJ:Ev->Res Out:=(sR (eM1S joinD (eC (.str " ")) (eComp (iS (eV 0)) tYes (eB strOfD (aC (eV 0) aN)) [])))
def kB:List D->Res D:=runF false 1 1 hJ
def uT:Ev->Res Out:=(sQ (sIf (tO (tNt (tV (eM0S (fun z=>some (.bool (Txt.isdigit z))) (eV 0)))) (tO (b2 gtI (eB lenTD (aC (eV 0) aN)) (eC (.int 90))) (tAn (tV (eM1S stwD (eV 0) (eC (.str "0")))) (b2 neD (eV 0) (eC (.str "0")))))) sX sN) (sR (eB intTD (aC (eV 0) aN))))
def xG:List D->Res D:=runF false 2 2 uT
def vD:Ev->Res Out:=(sR (eB tupD (aC (eComp (iS (eV 0)) tYes (eF xG (aC (eV 0) (aC (eV 1) aN))) [1]) aN)))
def xC:List D->Res D:=runF false 2 2 vD
def bH:Ev->Res Out:=(sQ (sS 1 (eF kB (aC (eV 0) aN))) (sR (e1 (filD "(" ")") (eV 1))))
def jW:List D->Res D:=runF false 1 2 bH
def cU:Ev->Res Out:=(sR (eM1S joinD (eC (.str "")) (eComp (iS (eF fJ (aC (eV 0) aN))) tYes (eF jW (aC (eV 0) aN)) [])))
def kP:List D->Res D:=runF false 1 1 cU
def cR:Ev->Res Out:=(sQ (sS 1 (eComp (iS (eM1S splD (eS slS (eV 0) (oS (eC (.int 1))) (oS (e1 negD (eC (.int 1))))) (eC (.str ")(")))) tYes (eF xC (aC (eM1S splD (eV 0) (eC (.str " "))) (aC (eC (.int 1)) aN))) [])) (sQ (sTryN (sS 2 (eF dX (aC (eV 1) aN)))) (sQ (sIf (b2 neD (eF kP (aC (eV 2) aN)) (eV 0)) sX sN) (sR (eV 2)))))
def kT:List D->Res D:=runF false 1 3 cR
def cX:Ev->Res Out:=(sR (eM1S joinD (eC (.str " of ")) (eComp (iS (eF zQ1 (aC (eV 0) aN))) tYes (eB strOfD (aC (eV 0) aN)) [])))
def cZ:List D->Res D:=runF false 1 1 cX
def gU:Ev->Res Out:=(sR (eB rangeT (aC (eB min2D (aC (eV 0) (aC (e2 addI (eC (.int 60)) (eC (.int 1))) aN))) aN)))
def hZ:List D->Res D:=runF false 1 1 gU
def yU:Ev->Res Out:=(sQ (sIf (b2 eqD (eV 0) (eC (.str "share"))) (sR (eF cZ (aC (eV 1) aN))) sN) (sQ (sIf (tAn (b2 eqD (eV 0) (eC (.str "good"))) (b2 eqD (eB lenD (aC (eV 1) aN)) (eC (.int 2)))) (sR (eB strOfD (aC (eF bN (aC (e2 ixD (eV 1) (eC (.int 0))) (aC (e2 ixD (eV 1) (eC (.int 1))) aN))) aN))) sN) (sQ (sIf (tAn (b2 eqD (eV 0) (eC (.str "goodorder"))) (b2 eqD (eB lenD (aC (eV 1) aN)) (eC (.int 3)))) (sR (eF kP (aC (eF zW5 (aC (e2 ixD (eV 1) (eC (.int 0))) (aC (e2 ixD (eV 1) (eC (.int 1))) (aC (e2 ixD (eV 1) (eC (.int 2))) aN)))) aN))) sN) (sQ (sIf (tAn (b2 eqD (eV 0) (eC (.str "group"))) (b2 eqD (eB lenD (aC (eV 1) aN)) (eC (.int 3)))) (sR (eB strOfD (aC (eF vV (aC (e2 ixD (eV 1) (eC (.int 0))) (aC (e2 ixD (eV 1) (eC (.int 1))) (aC (eF hZ (aC (e2 ixD (eV 1) (eC (.int 2))) aN)) aN)))) aN))) sN) sX))))
def yS:List D->Res D:=runF false 2 2 yU
def zM5:Ev->Res Out:=(sQ (sS 1 (eM1S partD (eV 0) (eC (.str " / ")))) (sQ (sS 2 (eM1S splD (e2 ixD (eV 1) (eC (.int 0))) (eC (.str " ")))) (sQ (sS 3 (eF xC (aC (eS slD (eV 2) (oS (eC (.int 1))) oN) (aC (eC (.int 1)) aN)))) (sQ (sIf (b2 eqD (e2 ixD (eV 1) (eC (.int 1))) (eC (.str ""))) (sR (eF yS (aC (e2 ixD (eV 2) (eC (.int 0))) (aC (eV 3) aN)))) sN) (sR eNo)))))
def zL7:List D->Res D:=runF false 1 4 zM5
def uJ:Ev->Res Out:=(sTryN (sR (eF zL7 (aC (eV 0) aN))))
def xV:List D->Res D:=runF false 1 1 uJ
def aO:Ev->Res Out:=(sR (eM1S joinD (eC (.str "\n")) (eComp (iS (eM1S splD (eV 0) (eC (.str "\n")))) tYes (eF xV (aC (eV 0) aN)) [])))
def dU:List D->Res D:=runF false 1 1 aO
def zU7:Ev->Res Out:=(sQ (sS 2 (eB mkL aN)) (sQ (sF (iR rng1 (aC (eV 1) aN)) (gN 3) (sQ (sM 2 insD (aC (e2 modI (eV 0) (e2 addI (eV 3) (eC (.int 1)))) (aC (eV 3) aN))) (sS 0 (e2 fdivI (eV 0) (e2 addI (eV 3) (eC (.int 1))))))) (sR (eB tupD (aC (eV 2) aN)))))
def cA:List D->Res D:=runF false 2 4 zU7
def uE:List D->Res D:=ringsF
def cP:Ev->Res Out:=(sQ (sS 2 (eB mkL aN)) (sQ (sF (iR rng1 (aC (eV 1) aN)) (gN 3) (sQ (sM 2 appD (aC (e2 modI (eV 0) (e2 addI (eV 1) (eC (.int 1)))) aN)) (sS 0 (e2 fdivI (eV 0) (e2 addI (eV 1) (eC (.int 1))))))) (sR (eB tupD (aC (eV 2) aN)))))
def jA:List D->Res D:=runF false 2 4 cP
def zX2:Ev->Res Out:=(sR (eM1S joinD (eC (.str " ")) (eComp (iS (eV 0)) tYes (eB strOfD (aC (eV 0) aN)) [])))
def yK:List D->Res D:=runF false 1 1 zX2
def zL3:Ev->Res Out:=(sQ (sS 2 (eB mkL (aC (eC (.int 1)) aN))) (sQ (sF (iR rng2 (aC (eC (.int 1)) (aC (e2 addI (eV 0) (eC (.int 1))) aN))) (gN 3) (sQ (sS 4 (eC (.int 0))) (sQ (sS 5 (eC (.int 1))) (sQ (sF (iR rng2 (aC (eC (.int 1)) (aC (e2 addI (eB min2D (aC (eV 1) (aC (eV 3) aN))) (eC (.int 1))) aN))) (gN 6) (sQ (sS 4 (e2 addI (eV 4) (e2 mulI (eV 5) (e2 ixD (eV 2) (e2 subI (eV 3) (eV 6)))))) (sS 5 (e2 mulI (eV 5) (e2 subI (eV 3) (eV 6)))))) (sM 2 appD (aC (eV 4) aN)))))) (sR (e2 ixD (eV 2) (eV 0)))))
def vJ:List D->Res D:=runF false 2 7 zL3
def zC6:Ev->Res Out:=(sQ (sS 1 (eC (.int 1))) (sQ (sF (iR rng2 (aC (eC (.int 2)) (aC (e2 addI (eV 0) (eC (.int 1))) aN))) (gN 2) (sS 1 (e2 mulI (eV 1) (eV 2)))) (sR (eV 1))))
def vT:List D->Res D:=runF false 1 3 zC6
def zT2:Ev->Res Out:=(sQ (sS 2 (eV 0)) (sQ (sS 3 (eV 1)) (sQ (sW 1000000 (b2 gtI (eV 2) (eC (.int 0))) (sQ (sS 4 (e2 modI (eV 3) (eV 2))) (sQ (sS 3 (eV 2)) (sS 2 (eV 4))))) (sR (e2 catS (e2 catS (eB strOfD (aC (e2 fdivI (eV 0) (eV 3)) aN)) (eC (.str " of "))) (eB strOfD (aC (e2 fdivI (eV 1) (eV 3)) aN)))))))
def jH:List D->Res D:=runF false 2 5 zT2
def zR3:Ev->Res Out:=(sQ (sS 1 (eB lenD (aC (eV 0) aN))) (sQ (sIf (b2 eqD (eV 0) (eB tupD (aC (eComp (iS (eV 0)) tYes (e2 ixD (eV 1) (eC (.int 0))) [0]) aN))) (sR (eF jH (aC (eF vJ (aC (eV 1) (aC (e2 ixD (eV 0) (eC (.int 0))) aN))) (aC (eF vT (aC (eV 1) aN)) aN)))) sN) (sQ (sS 2 (eC (.int 0))) (sQ (sF (iR rng1 (aC (eF vT (aC (eV 1) aN)) aN)) (gN 3) (sQ (sS 4 (eF uE (aC (eF cA (aC (eV 3) (aC (eV 1) aN))) aN))) (sS 2 (e2 addI (eV 2) (eB intD (aC (eB allD (aC (eComp (iS (eV 4)) tYes (e2 (fun x y=>bD (leI x y)) (eB lenD (aC (eV 0) aN)) (eB min1D (aC (eComp (iS (eV 0)) tYes (e2 ixD (eV 1) (eV 0)) [1]) aN))) [0]) aN)) aN)))))) (sR (eF jH (aC (eV 2) (aC (eF vT (aC (eV 1) aN)) aN))))))))
def fZ:List D->Res D:=runF false 1 5 zR3
def zA9:Ev->Res Out:=(sQ (sS 0 (eB absD (aC (eV 0) aN))) (sQ (sS 2 (e2 addI (eC (.int 1)) (e2 modI (e2 fdivI (eV 0) (eC (.int 4))) (eC (.int 12))))) (sQ (sIf (tAn (tV (eV 1)) (b2 eqD (e2 modI (e2 fdivI (eV 0) (eC (.int 48))) (eC (.int 8))) (eC (.int 3)))) (sS 2 (e2 addI (eC (.int 1)) (e2 modI (e2 fdivI (eV 0) (eC (.int 4))) (eC (.int 60))))) sN) (sQ (sS 3 (e2 modI (e2 fdivI (eV 0) (eC (.int 384))) (e2 addI (eV 2) (eC (.int 2))))) (sQ (sIf (b2 eqD (e2 modI (eV 0) (eC (.int 4))) (eC (.int 0))) (sQ (sS 2 (e2 subI (eV 2) (e2 modI (e2 fdivI (eV 0) (eC (.int 3000))) (eC (.int 2))))) (sR (eB mkT (aC (e2 catS (eC (.str "good ")) (eF yK (aC (eB mkL (aC (eV 2) (aC (eV 3) aN))) aN))) (aC (eC (.str "good")) (aC (eV 2) (aC (eV 3) (aC (eC (.int 0)) aN)))))))) sN) (sQ (sIf (b2 eqD (e2 modI (eV 0) (eC (.int 4))) (eC (.int 1))) (sQ (sS 3 (eB max2D (aC (eC (.int 1)) (aC (eB min2D (aC (eV 3) (aC (eV 2) aN))) aN)))) (sQ (sS 4 (e2 modI (e2 fdivI (eV 0) (eC (.int 2000))) (eF vJ (aC (eV 2) (aC (eV 3) aN))))) (sR (eB mkT (aC (e2 catS (eC (.str "goodorder ")) (eF yK (aC (eB mkL (aC (eV 2) (aC (eV 3) (aC (eV 4) aN)))) aN))) (aC (eC (.str "goodorder")) (aC (eV 2) (aC (eV 3) (aC (eV 4) aN))))))))) sN) (sQ (sIf (b2 eqD (e2 modI (eV 0) (eC (.int 4))) (eC (.int 2))) (sQ (sS 5 (e2 ixD (eB mkL (aC (eC (.int 0)) (aC (eC (.int 1)) (aC (eV 2) (aC (e2 modI (e2 fdivI (eV 0) (eC (.int 8000))) (e2 addI (eV 2) (eC (.int 1)))) aN))))) (e2 modI (e2 fdivI (eV 0) (eC (.int 2000))) (eC (.int 4))))) (sR (eB mkT (aC (e2 catS (eC (.str "group ")) (eF yK (aC (eB mkL (aC (eV 2) (aC (eV 3) (aC (eV 5) aN)))) aN))) (aC (eC (.str "group")) (aC (eV 2) (aC (eV 3) (aC (eV 5) aN)))))))) sN) (sQ (sS 6 (eB tupD (aC (eComp (iR rng1 (aC (eV 2) aN)) tYes (eB min2D (aC (eV 1) (aC (eV 2) aN))) [3,2]) aN))) (sQ (sIf (b2 ltI (eV 2) (eC (.int 6))) (sS 6 (eF jA (aC (e2 fdivI (eV 0) (eC (.int 2000))) (aC (eV 2) aN)))) sN) (sR (eB mkT (aC (e2 catS (eC (.str "share ")) (eF yK (aC (eV 6) aN))) (aC (eC (.str "share")) (aC (eV 6) (aC (eC (.int 0)) (aC (eC (.int 0)) aN))))))))))))))))
def qO:List D->Res D:=runF false 2 7 zA9
def zV4:Ev->Res Out:=(sQ (sA (eV 0) (gT 5 (gsC (gN 2) (gsC (gN 3) (gsC (gN 4) (gsC (gN 5) (gsC (gN 6) gsN))))))) (sQ (sIf (b2 eqD (eV 3) (eC (.str "good"))) (sR (e2 (fun x y=>bD (eqD x y)) (eV 1) (eB strOfD (aC (eF vJ (aC (eV 4) (aC (eV 5) aN))) aN)))) sN) (sQ (sIf (b2 eqD (eV 3) (eC (.str "goodorder"))) (sQ (sS 7 (eF kT (aC (eV 1) aN))) (sR (vAn (e2 (fun x y=>bD (eqD x y)) (eB lenD (aC (eV 7) aN)) (eV 4)) (e2 (fun x y=>bD (leI x y)) (eB max1D (aC (eComp (iS (eF uE (aC (eV 7) aN))) tYes (eB lenD (aC (eV 0) aN)) []) aN)) (eV 5))))) sN) (sQ (sIf (b2 eqD (eV 3) (eC (.str "share"))) (sR (e2 (fun x y=>bD (eqD x y)) (eV 1) (eF fZ (aC (eV 4) aN)))) sN) (sQ (sIf (b2 neD (eV 1) (eB strOfD (aC (eF vV (aC (eV 4) (aC (eV 5) (aC (eB rangeT (aC (eV 6) aN)) aN)))) aN))) (sR (eC (.bool false))) sN) (sQ (sIf (b2 eqD (eV 6) (eC (.int 0))) (sR (e2 (fun x y=>bD (eqD x y)) (eV 1) (eB strOfD (aC (eF vT (aC (eV 4) aN)) aN)))) sN) (sQ (sIf (b2 eqD (eV 6) (eV 4)) (sR (e2 (fun x y=>bD (eqD x y)) (eV 1) (eB strOfD (aC (eF vJ (aC (eV 4) (aC (eV 5) aN))) aN)))) sN) (sR (vO (e2 (fun x y=>bD (gtI x y)) (eV 6) (eC (.int 1))) (e2 (fun x y=>bD (eqD x y)) (eV 1) (eB strOfD (aC (e2 mulI (eB min2D (aC (eV 5) (aC (eV 4) aN))) (eF vT (aC (e2 subI (eV 4) (eC (.int 1))) aN))) aN))))))))))))
def wS:List D->Res D:=runF false 2 8 zV4
def kJ:List D->Res D:=unF
def xX9:Ev->Res Out:=(sQ (sS 1 (e2 catL (eB mkL (aC (eC (.int 1)) aN)) (eB listD (aC (eV 0) aN)))) (sQ (sS 2 (eComp (iR rng1 (aC (eB lenD (aC (eV 1) aN)) aN)) tYes (eF qO (aC (e2 ixD (eV 1) (eV 0)) (aC (e2 (fun x y=>bD (ltI x y)) (eV 0) (eC (.int 8))) aN))) [1])) (sQ (sS 3 (eB mkL aN)) (sQ (sF (iR rng3 (aC (eC (.int 0)) (aC (eB lenD (aC (eV 2) aN)) (aC (eC (.int 12)) aN)))) (gN 4) (sS 3 (e2 catL (eV 3) (eM1S splD (eF dU (aC (eM1S joinD (eC (.str "\n")) (eComp (iS (eS slL (eV 2) (oS (eV 4)) (oS (e2 addI (eV 4) (eC (.int 12)))))) tYes (e2 ixD (eV 0) (eC (.int 0))) [])) aN)) (eC (.str "\n")))))) (sQ (sIf (tO (b2 neD (eB lenD (aC (eV 3) aN)) (eB lenD (aC (eV 2) aN))) (tNt (tV (eB allD (aC (eComp (iR rng1 (aC (eB lenD (aC (eV 2) aN)) aN)) tYes (eF wS (aC (e2 ixD (eV 1) (eV 0)) (aC (e2 ixD (eV 2) (eV 0)) aN))) [2,3]) aN))))) (sR (eC (.bool false))) sN) (sR (eF kJ (aC (eV 2) (aC (eV 3) aN)))))))))
def xV8:List D->Res D:=runF false 1 5 xX9
structure Txt[CN](K:KFr)(mg:Str->Option Value):Prop where
 g_abs:mg "abs" = none
 g_all:mg "all" = none
 g_enumerate:mg "enumerate" = none
 g_int:mg "int" = none
 g_len:mg "len" = none
 g_list:mg "list" = none
 g_max:mg "max" = none
 g_min:mg "min" = none
 g_range:mg "range" = none
 g_sorted:mg "sorted" = none
 g_str:mg "str" = none
 g_sum:mg "sum" = none
 g_tuple:mg "tuple" = none
 c_MOST_FIGURES:∃u,mg "MOST_FIGURES" = some u/\RelV (.int 90) u
 c_MOST_PEOPLE:∃u,mg "MOST_PEOPLE" = some u/\RelV (.int 60) u
 d_is_order:∃f fd,Has K mg "is_order" dW f fd ["names"]
 d_ring_from:∃f fd,Has K mg "ring_from" gJ f fd ["order","box"]
 d_rings_of:∃f fd,Has K mg "rings_of" fG f fd ["order"]
 d_order_by:∃f fd,Has K mg "order_by" fE f fd ["rings"]
 d_many_orders:∃f fd,Has K mg "many_orders" jR f fd ["people"]
 d_made_openings:∃f fd,Has K mg "made_openings" uI f fd ["people","numbers"]
 d_check_people:∃f fd,Has K mg "check_people" qQ f fd ["people"]
 d_check_people_and_k:∃f fd,Has K mg "check_people_and_k" wG f fd ["people","k"]
 d_many_by_lengths:∃f fd,Has K mg "many_by_lengths" vG f fd ["people","least","most"]
 d_many_good:∃f fd,Has K mg "many_good" gK f fd ["people","k"]
 d_many_finding:∃f fd,Has K mg "many_finding" qS f fd ["people","k"]
 d_many_behind_person:∃f fd,Has K mg "many_behind_person" wH f fd ["many","openings"]
 d_many_all:∃f fd,Has K mg "many_all" fI f fd ["openings"]
 d_greatest_divisor:∃f fd,Has K mg "greatest_divisor" vS f fd ["one","other"]
 d_share:∃f fd,Has K mg "share" zR8 f fd ["openings"]
 d_check_group:∃f fd,Has K mg "check_group" jT f fd ["people","group"]
 d_many_rows:∃f fd,Has K mg "many_rows" gH f fd ["people","size"]
 d_many_with_group:∃f fd,Has K mg "many_with_group" wL f fd ["many","size"]
 d_many_all_of:∃f fd,Has K mg "many_all_of" jS f fd ["people","k","group"]
 d_many_first_rings:∃f fd,Has K mg "many_first_rings" vP f fd ["boxes","length"]
 d_many_with_first_ring:∃f fd,Has K mg "many_with_first_ring" wY f fd ["many","boxes","length"]
 d_ring_at:∃f fd,Has K mg "ring_at" cI f fd ["left","length","place"]
 d_good_at:∃f fd,Has K mg "good_at" fX f fd ["people","k","number"]
 d_numbers_text:∃f fd,Has K mg "numbers_text" vF f fd ["numbers"]
 d_read_number:∃f fd,Has K mg "read_number" jU f fd ["word","row"]
 d_read_numbers:∃f fd,Has K mg "read_numbers" vE f fd ["words","row"]
 d_ring_text:∃f fd,Has K mg "ring_text" gF f fd ["ring"]
 d_order_text:∃f fd,Has K mg "order_text" qT f fd ["order"]
 d_read_order:∃f fd,Has K mg "read_order" qY f fd ["text"]
 d_share_text:∃f fd,Has K mg "share_text" qX f fd ["openings"]
 d_first_people:∃f fd,Has K mg "first_people" qP f fd ["count"]
 d_answer_by_numbers:∃f fd,Has K mg "answer_by_numbers" vW f fd ["word","numbers"]
 d_answer:∃f fd,Has K mg "answer" aB f fd ["row"]
 d_answer_or_refusal:∃f fd,Has K mg "answer_or_refusal" vX f fd ["row"]
 d_answered:∃f fd,Has K mg "answered" jC f fd ["sheet"]
 d_l_order:∃f fd,Has K mg "_law_order" bV f fd ["cell","many"]
 d_l_rings:∃f fd,Has K mg "_law_rings" cF f fd ["order"]
 d_l_openings:∃f fd,Has K mg "_law_openings" kM f fd ["cell","many"]
 d_l_blanks:∃f fd,Has K mg "_law_blanks" jE f fd ["some"]
 d_l_good:∃f fd,Has K mg "_law_good" zZ7 f fd ["people","k"]
 d_l_all:∃f fd,Has K mg "_law_all" zQ3 f fd ["many"]
 d_l_terms:∃f fd,Has K mg "_law_terms" bO f fd ["one","other"]
 d_l_share:∃f fd,Has K mg "_law_share" jI f fd ["openings"]
 d_l_row:∃f fd,Has K mg "_law_row" bF f fd ["cell","great"]
 d_l_right:∃f fd,Has K mg "_law_right" gE f fd ["row","answer_v"]
 d_l_unlike:∃f fd,Has K mg "_law_unlike" kK f fd ["rows","answers"]
 d_law:∃f fd,Has K mg "law" zZ2 f fd ["script"]
 x_BadGroup:mg "BadGroup" = some (.ref (CN.ad "BadGroup"))
 x_BadOpenings:mg "BadOpenings" = some (.ref (CN.ad "BadOpenings"))
 x_BadOrder:mg "BadOrder" = some (.ref (CN.ad "BadOrder"))
 x_NoNumber:mg "NoNumber" = some (.ref (CN.ad "NoNumber"))
 x_TooMany:mg "TooMany" = some (.ref (CN.ad "TooMany"))
 ox_BadGroup:OwnX K "BadGroup"
 ox_BadOpenings:OwnX K "BadOpenings"
 ox_BadOrder:OwnX K "BadOrder"
 ox_NoNumber:OwnX K "NoNumber"
 ox_TooMany:OwnX K "TooMany"
section
variable [CN] {P:Program}{w:World}{K:KFr}{mg:Str->Option Value}{base:Heap}
theorem zP7:zH ["names"] ["names"] (zP dW):=by sleep 1
theorem yH3(T:Txt K mg){f:Addr}{fd:FuncData}(h:Has K mg "is_order" dW f fd ["names"]):FnOk P w K mg base (CXV P w) 1 f fd ["names"] (spX false aI):=by
 refine zC [] h.F zP7 fun cdv A outer s H E hr => ?_
 have nd:=zP7.nd
 have u:=hr.units
 exact (zS (zE (xU5 (xK8 gO gO gP gP zR (zJ zL yW T.g_len Ay (zV (zZ 0) zY)) (cT T.c_MOST_PEOPLE.choose_spec.1 T.c_MOST_PEOPLE.choose_spec.2)) (yO8 (uG (yO u) xY (zJ zS6 yB1 T.g_sorted (by rfl) (zV (zZ 0) zY)) (zW7 T.g_list T.g_range (zV (zJ zL yW T.g_len Ay (zV (zZ 0) zY)) zY)))))))
theorem zU8:zH ["order","box","ring"] ["order","box"] (zP gJ):=by sleep 1
theorem yO2(T:Txt K mg){f:Addr}{fd:FuncData}(h:Has K mg "ring_from" gJ f fd ["order","box"]):FnOk P w K mg base (CXV P w) 1 f fd ["order","box"] (spX false gM):=by
 refine zC [2] h.F zU8 fun cdv A outer s H E hr => ?_
 have nd:=zU8.nd
 have u:=hr.units
 exact (zW (wO 2 nd (yG (zX (zZ 1) zY))) (zW (kC 1000000 (zA (cN u) zR7 (yR yY yT (zZ 0) (yR yY yT (wK 2) (yP9 zR))) (zZ 1)) (zS (jG 2 AZ Ba wE uB (zX (yR yY yT (zZ 0) (yR yY yT (wK 2) (yP9 zR))) zY))) Aw) (zS (zE (yX xR jF T.g_tuple (by rfl) (zV (wK 2) zY))))))
theorem zO3:zH ["order","rings","seen","box","ring","member"] ["order"] (zP fG):=by sleep 1
theorem yG2(T:Txt K mg){f:Addr}{fd:FuncData}(h:Has K mg "rings_of" fG f fd ["order"]):FnOk P w K mg base (CXV P w) 2 f fd ["order"] (spX true fJ):=by
 obtain⟨_,_,h0⟩:=T.d_ring_from
 refine zC [1,2] h.F zO3 fun cdv A outer s H E hr => ?_
 have nd:=zO3.nd
 have u:=hr.units
 exact (zW (wO 1 nd (yG zY)) (zW (wO 2 nd (zM zP2 zJ2 (yG (zX yQ5 zY)) (zJ zL yW T.g_len Ay (zV (zZ 0) zY)))) (zW (xU (wF T.g_range (zV (zJ zL yW T.g_len Ay (zV (zZ 0) zY)) zY)) (yV 3 nd) (zS (yN (fW (aV (yR yY yT (wK 2) (zZ 3)))) (zW (zK 4 nd (zO (yO2 T h0) h0 (hr.mono (by decide)) (zN (om:=[1,2])) (zX (zZ 0) (zX (zZ 3) zY)))) (zW (jG 1 AZ Ba wE uB (zX (zZ 4) zY)) (zS (xU (xF (RE.rd (zZ 4))) (yV 5 nd) (zS (yB9 2 yQ5 (zZ 5))) Aw)))) yZ)) Aw) (zS (zQ2 1)))))
theorem zN2:zH ["rings","boxes","ring","names","place"] ["rings"] (zP fE):=by sleep 1
theorem zO1(T:Txt K mg){f:Addr}{fd:FuncData}(h:Has K mg "order_by" fE f fd ["rings"]):FnOk P w K mg base (CXV P w) 2 f fd ["rings"] (spX false dX):=by
 obtain⟨_,_,h0⟩:=T.d_is_order
 refine zC [1,3] h.F zN2 fun cdv A outer s H E hr => ?_
 have nd:=zN2.nd
 have u:=hr.units
 exact (zW (wO 1 nd (yG zY)) (zW (xU (xF (RE.rd (zZ 0))) (yV 2 nd) (zW (yN (zA (yO u) xY (zJ zL yW T.g_len Ay (zV (zZ 2) zY)) zR) (zS (vI (zN (om:=[1,3])) T.ox_BadOrder T.x_BadOrder (zV zB zY))) yZ) (zS (wP4 1 (zZ 2)))) Aw) (zW (yN (fW (aV (zH4 (yH3 T h0) h0 (hr.mono (by decide)) (zN (om:=[1,3])) (zV (wK 1) zY)))) (zS (vI (zN (om:=[1,3])) T.ox_BadOrder T.x_BadOrder (zV zB zY))) yZ) (zW (wO 3 nd (zM zP2 zJ2 (yG (zX zR zY)) (zJ zL yW T.g_len Ay (zV (wK 1) zY)))) (zW (xU (xF (RE.rd (zZ 0))) (yV 2 nd) (zS (xU (wF T.g_range (zV (zJ zL yW T.g_len Ay (zV (zZ 2) zY)) zY)) (yV 4 nd) (zS (yB9 3 (yR yY yT (zZ 2) (zZ 4)) (yR yY yT (zZ 2) (zM wB wI (zZ 4) zR)))) Aw)) Aw) (zS (zE (yX xR jF T.g_tuple (by rfl) (zV (wK 3) zY)))))))))
theorem bE:zH ["people","many","factor"] ["people"] (zP jR):=by sleep 1
theorem zA7(T:Txt K mg){f:Addr}{fd:FuncData}(h:Has K mg "many_orders" jR f fd ["people"]):FnOk P w K mg base (CXV P w) 1 f fd ["people"] (spX false fP):=by
 refine zC [] h.F bE fun cdv A outer s H E hr => ?_
 have nd:=bE.nd
 have u:=hr.units
 exact (zW (zK 1 nd zR) (zW (xU (uY T.g_range (zV zR (zV (zM yA yM (zZ 0) zR) zY))) (yV 2 nd) (zS (fU 1 nd aD wA (zZ 2))) Aw) (zS (zE (zZ 1)))))
theorem dA:zH ["people","numbers"] ["people","numbers"] (zP uI):=by sleep 1
theorem zL4(T:Txt K mg){f:Addr}{fd:FuncData}(h:Has K mg "made_openings" uI f fd ["people","numbers"]):FnOk P w K mg base (CXV P w) 1 f fd ["people","numbers"] (spX false kS):=by
 refine zC [] h.F dA fun cdv A outer s H E hr => ?_
 have nd:=dA.nd
 have u:=hr.units
 exact (zW (yN (fW (zY2 gO gO gP gP zR (zZ 0) (cT T.c_MOST_PEOPLE.choose_spec.1 T.c_MOST_PEOPLE.choose_spec.2))) (zS (vI zN T.ox_BadOpenings T.x_BadOpenings (zV zB zY))) yZ) (zW (yN (zA (cN u) zR7 (zJ zL yW T.g_len Ay (zV (zZ 1) zY)) (zZ 0)) (zS (vI zN T.ox_BadOpenings T.x_BadOpenings (zV zB zY))) yZ) (zW (yN (RW.rt (rw_or (zA aF zY9 (zJ (yU8 rfl) yD8 T.g_min Bn (zV (zZ 1) zY)) zR) (rw_or1 (zA cG zZ1 (zJ (yW5 rfl) yD2 T.g_max DA (zV (zZ 1) zY)) (zZ 0))))) (zS (vI zN T.ox_BadOpenings T.x_BadOpenings (zV zB zY))) yZ) (zS (zE (yX xR jF T.g_tuple (by rfl) (zV (zZ 1) zY)))))))
theorem cJ:zH ["people"] ["people"] (zP qQ):=by sleep 1
theorem zH2(T:Txt K mg){f:Addr}{fd:FuncData}(h:Has K mg "check_people" qQ f fd ["people"]):FnOk P w K mg base (CXV P w) 1 f fd ["people"] (spX false kA):=by
 refine zC [] h.F cJ fun cdv A outer s H E hr => ?_
 have nd:=cJ.nd
 have u:=hr.units
 exact (zS (yN (fW (zY2 gO gO gP gP zR (zZ 0) (cT T.c_MOST_PEOPLE.choose_spec.1 T.c_MOST_PEOPLE.choose_spec.2))) (zS (vI zN T.ox_TooMany T.x_TooMany (zV zB zY))) yZ))
theorem jJ:zH ["people","k"] ["people","k"] (zP wG):=by sleep 1
theorem vA(T:Txt K mg){f:Addr}{fd:FuncData}(h:Has K mg "check_people_and_k" wG f fd ["people","k"]):FnOk P w K mg base (CXV P w) 2 f fd ["people","k"] (spX false xL):=by
 obtain⟨_,_,h0⟩:=T.d_check_people
 refine zC [] h.F jJ fun cdv A outer s H E hr => ?_
 have nd:=jJ.nd
 have u:=hr.units
 exact (zW (dL (zO (zH2 T h0) h0 (hr.mono (by decide)) zN (zX (zZ 0) zY))) (zS (yN (zA aF zY9 (zZ 1) zR) (zS (vI zN T.ox_BadOpenings T.x_BadOpenings (zV zB zY))) yZ)))
theorem gB:zH ["people","least","most","many","count","total","ways","length"] ["people","least","most"] (zP vG):=by sleep 1
theorem vN(T:Txt K mg){f:Addr}{fd:FuncData}(h:Has K mg "many_by_lengths" vG f fd ["people","least","most"]):FnOk P w K mg base (CXV P w) 1 f fd ["people","least","most"] (spX true xH):=by
 refine zC [3] h.F gB fun cdv A outer s H E hr => ?_
 have nd:=gB.nd
 have u:=hr.units
 exact (zW (wO 3 nd (yG (zX zR zY))) (zW (xU (uY T.g_range (zV zR (zV (zM yA yM (zZ 0) zR) zY))) (yV 4 nd) (zW (zK 5 nd zR) (zW (zK 6 nd zR) (zW (xU (uY T.g_range (zV zR (zV (zM yA yM (zJ (uD rfl) gS T.g_min Bn (zV (zZ 2) (zV (zZ 4) zY))) zR) zY))) (yV 7 nd) (zW (yN (zA xB6 xB1 (zZ 7) (zZ 1)) (zS (fU 5 nd zQ6 yM (zM vC wA (zZ 6) (yR yY yT (wK 3) (zM wB wI (zZ 4) (zZ 7)))))) yZ) (zS (fU 6 nd aD wA (zM wB wI (zZ 4) (zZ 7))))) Aw) (zS (jG 3 AZ Ba wE uB (zX (zZ 5) zY)))))) Aw) (zS (zQ2 3))))
theorem zU6:zH ["people","k"] ["people","k"] (zP gK):=by sleep 1
theorem yK8(T:Txt K mg){f:Addr}{fd:FuncData}(h:Has K mg "many_good" gK f fd ["people","k"]):FnOk P w K mg base (CXV P w) 3 f fd ["people","k"] (spX false bN):=by
 obtain⟨_,_,h0⟩:=T.d_check_people_and_k
 obtain⟨_,_,h1⟩:=T.d_many_by_lengths
 refine zC [] h.F zU6 fun cdv A outer s H E hr => ?_
 have nd:=zU6.nd
 have u:=hr.units
 exact (zW (dL (zO (vA T h0) h0 (hr.mono (by decide)) zN (zX (zZ 0) (zX (zZ 1) zY)))) (zS (zE (yR yY yT (vM (vN T h1) h1 (hr.mono (by decide)) zN (zX (zZ 0) (zX zR (zX (zZ 1) zY)))) (zZ 0)))))
theorem bP:zH ["people","k","finding","missing","told","chosen","count"] ["people","k"] (zP qS):=by sleep 1
theorem zD2(T:Txt K mg){f:Addr}{fd:FuncData}(h:Has K mg "many_finding" qS f fd ["people","k"]):FnOk P w K mg base (CXV P w) 3 f fd ["people","k"] (spX true kE):=by
 obtain⟨_,_,h0⟩:=T.d_check_people_and_k
 obtain⟨_,_,h1⟩:=T.d_many_by_lengths
 refine zC [4] h.F bP fun cdv A outer s H E hr => ?_
 have nd:=bP.nd
 have u:=hr.units
 exact (zW (dL (zO (vA T h0) h0 (hr.mono (by decide)) (zN (om:=[4])) (zX (zZ 0) (zX (zZ 1) zY)))) (zW (zK 2 nd (RE.cl (vM (vN T h1) h1 (hr.mono (by decide)) (zN (om:=[4])) (zX (zZ 0) (zX zR (zX (zZ 1) zY)))))) (zW (zK 3 nd (RE.cl (vM (vN T h1) h1 (hr.mono (by decide)) (zN (om:=[4])) (zX (zZ 0) (zX (zM yA yM (zZ 1) zR) (zX (zZ 0) zY)))))) (zW (wO 4 nd (yG zY)) (zW (zK 5 nd zR) (zW (xU (wF T.g_range (zV (zM yA yM (zZ 0) zR) zY)) (yV 6 nd) (zW (jG 4 AZ Ba wE uB (zX (zM vC wA (zM vC wA (zZ 5) (yR yY yT (zZ 2) (zZ 6))) (yR yY yT (zZ 3) (zM wB wI (zZ 0) (zZ 6)))) zY)) (zS (zK 5 nd (zM yJ yB (zM vC wA (zZ 5) (zM wB wI (zZ 0) (zZ 6))) (zM yA yM (zZ 6) zR))))) Aw) (zS (zQ2 4))))))))
theorem jM:zH ["many","openings","later","places","ways","left"] ["many","openings"] (zP wH):=by sleep 1
theorem aT(T:Txt K mg){f:Addr}{fd:FuncData}(h:Has K mg "many_behind_person" wH f fd ["many","openings"]):FnOk P w K mg base (CXV P w) 1 f fd ["many","openings"] (spX true uV):=by
 refine zC [2] h.F jM fun cdv A outer s H E hr => ?_
 have nd:=jM.nd
 have u:=hr.units
 exact (zW (wO 2 nd (zM zP2 zJ2 (yG (zX zR zY)) (zJ zL yW T.g_len Ay (zV (zZ 0) zY)))) (zW (wS5 (zT9 T.g_enumerate (RE.rd (zZ 0))) (xP4 rfl (jP (yV 3 nd) (jP (yV 4 nd) yB7))) (zW (yN (zA cG zZ1 (zZ 3) zR) (zS (yE3 2 zQ6 yM (zM wB wI (zZ 3) zR) (zM vC wA (zZ 3) (zZ 4)))) yZ) (zS (xU (uY T.g_range (zV (zZ 3) (zV (zJ (uD rfl) gS T.g_min Bn (zV (zM yA yM (zZ 3) (zZ 1)) (zV (zJ zL yW T.g_len Ay (zV (zZ 0) zY)) zY))) zY))) (yV 5 nd) (zS (yE3 2 zQ6 yM (zZ 5) (zZ 4))) Aw))) Aw) (zS (zQ2 2))))
theorem zN4:zH ["openings","people","many","number"] ["openings"] (zP fI):=by sleep 1
theorem yF5(T:Txt K mg){f:Addr}{fd:FuncData}(h:Has K mg "many_all" fI f fd ["openings"]):FnOk P w K mg base (CXV P w) 2 f fd ["openings"] (spX false zZ9):=by
 obtain⟨_,_,h0⟩:=T.d_made_openings
 obtain⟨_,_,h1⟩:=T.d_many_behind_person
 refine zC [] h.F zN4 fun cdv A outer s H E hr => ?_
 have nd:=zN4.nd
 have u:=hr.units
 exact (zW (zK 1 nd (zJ zL yW T.g_len Ay (zV (zZ 0) zY))) (zW (dL (zO (zL4 T h0) h0 (hr.mono (by decide)) zN (zX (zZ 1) (zX (zZ 0) zY)))) (zW (zK 2 nd (RE.cl (zM zB3 yK1 (yG (zX zR zY)) (zM zP2 zJ2 (yG (zX zR zY)) (zZ 1))))) (zW (xU (xF (RE.rd (RE.cl (zJ zS6 yB1 T.g_sorted (by rfl) (zV (zZ 0) zY))))) (yV 3 nd) (zS (zK 2 nd (RE.cl (vM (aT T h1) h1 (hr.mono (by decide)) zN (zX (zZ 2) (zX (zZ 3) zY)))))) Aw) (zS (zE (yR yY yT (zZ 2) zR)))))))
theorem kF:zH ["one","other","rest"] ["one","other"] (zP vS):=by sleep 1
theorem zW3(T:Txt K mg){f:Addr}{fd:FuncData}(h:Has K mg "greatest_divisor" vS f fd ["one","other"]):FnOk P w K mg base (CXV P w) 1 f fd ["one","other"] (spX false uC):=by
 refine zC [] h.F kF fun cdv A outer s H E hr => ?_
 have nd:=kF.nd
 have u:=hr.units
 exact (zW (kC 1000000 (zA cG zZ1 (zZ 1) zR) (zW (zK 2 nd (zM wV wU (zZ 0) (zZ 1))) (zW (zK 0 nd (zZ 1)) (zS (zK 1 nd (zZ 2))))) Aw) (zS (zE (zZ 0))))
theorem yI1:zH ["openings","finding","whole","divisor"] ["openings"] (zP zR8):=by sleep 1
theorem xK9(T:Txt K mg){f:Addr}{fd:FuncData}(h:Has K mg "share" zR8 f fd ["openings"]):FnOk P w K mg base (CXV P w) 3 f fd ["openings"] (spX false zQ1):=by
 obtain⟨_,_,h0⟩:=T.d_many_all
 obtain⟨_,_,h1⟩:=T.d_many_orders
 obtain⟨_,_,h2⟩:=T.d_greatest_divisor
 refine zC [] h.F yI1 fun cdv A outer s H E hr => ?_
 have nd:=yI1.nd
 have u:=hr.units
 exact (zW (zK 1 nd (zO (yF5 T h0) h0 (hr.mono (by decide)) zN (zX (zZ 0) zY))) (zW (zK 2 nd (zO (zA7 T h1) h1 (hr.mono (by decide)) zN (zX (zJ zL yW T.g_len Ay (zV (zZ 0) zY)) zY))) (zW (zK 3 nd (zO (zW3 T h2) h2 (hr.mono (by decide)) zN (zX (zZ 2) (zX (zZ 1) zY)))) (zS (zE (zS9 (zX (zM yJ yB (zZ 1) (zZ 3)) (zX (zM yJ yB (zZ 2) (zZ 3)) zY))))))))
theorem aR:zH ["people","group","least","person"] ["people","group"] (zP jT):=by sleep 1
theorem zC8(T:Txt K mg){f:Addr}{fd:FuncData}(h:Has K mg "check_group" jT f fd ["people","group"]):FnOk P w K mg base (CXV P w) 1 f fd ["people","group"] (spX false fN):=by
 refine zC [] h.F aR fun cdv A outer s H E hr => ?_
 have nd:=aR.nd
 have u:=hr.units
 exact (zW (zK 2 nd zR) (zS (xU (xF (RE.rd (zZ 1))) (yV 3 nd) (zW (yN (fW (zY2 gO aF gP zY9 (zZ 2) (zZ 3) (zZ 0))) (zS (vI zN T.ox_BadGroup T.x_BadGroup (zV zB zY))) yZ) (zS (zK 2 nd (zM yA yM (zZ 3) zR)))) Aw)))
theorem zS4:zH ["people","size","ways","taken"] ["people","size"] (zP gH):=by sleep 1
theorem zU9(T:Txt K mg){f:Addr}{fd:FuncData}(h:Has K mg "many_rows" gH f fd ["people","size"]):FnOk P w K mg base (CXV P w) 1 f fd ["people","size"] (spX false qA):=by
 refine zC [] h.F zS4 fun cdv A outer s H E hr => ?_
 have nd:=zS4.nd
 have u:=hr.units
 exact (zW (zK 2 nd zR) (zW (xU (wF T.g_range (zV (zZ 1) zY)) (yV 3 nd) (zS (fU 2 nd aD wA (zM wB wI (zZ 0) (zZ 3)))) Aw) (zS (zE (zZ 2)))))
theorem gA:zH ["many","size","whole"] ["many","size"] (zP wL):=by sleep 1
theorem zU3(T:Txt K mg){f:Addr}{fd:FuncData}(h:Has K mg "many_with_group" wL f fd ["many","size"]):FnOk P w K mg base (CXV P w) 2 f fd ["many","size"] (spX false qE):=by
 obtain⟨_,_,h0⟩:=T.d_many_rows
 refine zC [] h.F gA fun cdv A outer s H E hr => ?_
 have nd:=gA.nd
 have u:=hr.units
 exact (zW (zK 2 nd (zJ (xU6 rfl) wO7 T.g_sum PyProof.Rows.boot_sum (zV (xD1 (sc0:=zP wL) (N0:=["many","size","whole"]) (fs:=["size"]) (js:=[1]) (by exact⟨rfl,by decide +kernel,by decide +kernel,by decide +kernel,by decide +kernel,by decide +kernel,rfl,by decide +kernel,by decide +kernel⟩) rfl rfl rfl (RIo.c (zT9 T.g_enumerate (RE.rd (zZ 0)))) (fun _ _ _ _=>xJ) (fun _ _ _ _=>(zM vC wA (zZ 1) (zO (zU9 T h0) h0 (hr.mono (by decide)) (fD fun _ _ h=>h) (zX (zZ 0) (zX (zZ 2) zY)))))) zY))) (zS (zE (zM yJ yB (zZ 2) (zO (zU9 T h0) h0 (hr.mono (by decide)) zN (zX (zM wB wI (zJ zL yW T.g_len Ay (zV (zZ 0) zY)) zR) (zX (zZ 1) zY)))))))
theorem aZ:zH ["people","k","group","finding"] ["people","k","group"] (zP jS):=by sleep 1
theorem aS(T:Txt K mg){f:Addr}{fd:FuncData}(h:Has K mg "many_all_of" jS f fd ["people","k","group"]):FnOk P w K mg base (CXV P w) 4 f fd ["people","k","group"] (spX false vV):=by
 obtain⟨_,_,h0⟩:=T.d_many_finding
 obtain⟨_,_,h1⟩:=T.d_check_group
 obtain⟨_,_,h2⟩:=T.d_many_with_group
 refine zC [] h.F aZ fun cdv A outer s H E hr => ?_
 have nd:=aZ.nd
 have u:=hr.units
 exact (zW (zK 3 nd (RE.cl (vM (zD2 T h0) h0 (hr.mono (by decide)) zN (zX (zZ 0) (zX (zZ 1) zY))))) (zW (dL (zO (zC8 T h1) h1 (hr.mono (by decide)) zN (zX (zZ 0) (zX (zZ 2) zY)))) (zS (zE (zO (zU3 T h2) h2 (hr.mono (by decide)) zN (zX (zZ 3) (zX (zJ zL yW T.g_len Ay (zV (zZ 2) zY)) zY)))))))
theorem kG:zH ["boxes","length","ways","taken"] ["boxes","length"] (zP vP):=by sleep 1
theorem kI(T:Txt K mg){f:Addr}{fd:FuncData}(h:Has K mg "many_first_rings" vP f fd ["boxes","length"]):FnOk P w K mg base (CXV P w) 1 f fd ["boxes","length"] (spX false vQ):=by
 refine zC [] h.F kG fun cdv A outer s H E hr => ?_
 have nd:=kG.nd
 have u:=hr.units
 exact (zW (zK 2 nd zR) (zW (xU (uY T.g_range (zV zR (zV (zZ 1) zY))) (yV 3 nd) (zS (fU 2 nd aD wA (zM wB wI (zZ 0) (zZ 3)))) Aw) (zS (zE (zZ 2)))))
theorem qG:zH ["many","boxes","length"] ["many","boxes","length"] (zP wY):=by sleep 1
theorem qI(T:Txt K mg){f:Addr}{fd:FuncData}(h:Has K mg "many_with_first_ring" wY f fd ["many","boxes","length"]):FnOk P w K mg base (CXV P w) 2 f fd ["many","boxes","length"] (spX false yH):=by
 obtain⟨_,_,h0⟩:=T.d_many_first_rings
 refine zC [] h.F qG fun cdv A outer s H E hr => ?_
 have nd:=qG.nd
 have u:=hr.units
 exact (zS (zE (zM vC wA (zO (kI T h0) h0 (hr.mono (by decide)) zN (zX (zZ 1) (zX (zZ 2) zY))) (yR yY yT (zZ 0) (zM wB wI (zZ 1) (zZ 2))))))
theorem zH8:zH ["left","length","place","ring","others","ways","rest"] ["left","length","place"] (zP cI):=by sleep 1
theorem xY1(T:Txt K mg){f:Addr}{fd:FuncData}(h:Has K mg "ring_at" cI f fd ["left","length","place"]):FnOk P w K mg base (CXV P w) 2 f fd ["left","length","place"] (spX false bY):=by
 obtain⟨_,_,h0⟩:=T.d_many_first_rings
 refine zC [3,4] h.F zH8 fun cdv A outer s H E hr => ?_
 have nd:=zH8.nd
 have u:=hr.units
 exact (zW (wO 3 nd (yG (zX (yR yY yT (zZ 0) zR) zY))) (zW (wO 4 nd (yV6 (zZ 0) (dQ zR) yB2)) (zW (zK 5 nd (zO (kI T h0) h0 (hr.mono (by decide)) (zN (om:=[3,4])) (zX (zJ zL yW T.g_len Ay (zV (zZ 0) zY)) (zX (zZ 1) zY)))) (zW (zK 6 nd (zZ 2)) (zW (kC 1000000 (zA aF zY9 (zJ zL yW T.g_len Ay (zV (wK 3) zY)) (zZ 1)) (zW (fU 5 nd xS9 yB (zJ zL yW T.g_len Ay (zV (wK 4) zY))) (zW (xQ3 3 4 (zM yJ yB (zZ 6) (zZ 5))) (zS (zK 6 nd (zM wV wU (zZ 6) (zZ 5)))))) Aw) (zS (zE (yX xR jF T.g_tuple (by rfl) (zV (wK 3) zY)))))))))
theorem zI8:zH ["people","k","number","many","rings","left","rest","length","later","ring"] ["people","k","number"] (zP fX):=by sleep 1
theorem xW9(T:Txt K mg){f:Addr}{fd:FuncData}(h:Has K mg "good_at" fX f fd ["people","k","number"]):FnOk P w K mg base (CXV P w) 3 f fd ["people","k","number"] (spX false zW5):=by
 obtain⟨_,_,h0⟩:=T.d_check_people_and_k
 obtain⟨_,_,h1⟩:=T.d_many_by_lengths
 obtain⟨_,_,h2⟩:=T.d_many_with_first_ring
 obtain⟨_,_,h3⟩:=T.d_ring_at
 obtain⟨_,_,h4⟩:=T.d_order_by
 refine zC [4] h.F zI8 fun cdv A outer s H E hr => ?_
 have nd:=zI8.nd
 have u:=hr.units
 exact (zW (yN (zA (yO u) xY (zZ 0) zR) (zS (vI (zN (om:=[4])) T.ox_TooMany T.x_TooMany (zV zB zY))) yZ) (zW (dL (zO (vA T h0) h0 (hr.mono (by decide)) (zN (om:=[4])) (zX (zZ 0) (zX (zZ 1) zY)))) (zW (zK 3 nd (RE.cl (vM (vN T h1) h1 (hr.mono (by decide)) (zN (om:=[4])) (zX (zZ 0) (zX zR (zX (zZ 1) zY)))))) (zW (yN (fW (zY2 gO aF gP zY9 zR (zZ 2) (yR yY yT (zZ 3) (zZ 0)))) (zS (vI (zN (om:=[4])) T.ox_NoNumber T.x_NoNumber (zV zB zY))) yZ) (zW (wO 4 nd (yG zY)) (zW (zK 5 nd (RE.cl (zW7 T.g_list T.g_range (zV (zZ 0) zY)))) (zW (zK 6 nd (zZ 2)) (zW (kC 1000000 (zA cG zZ1 (zJ zL yW T.g_len Ay (zV (zZ 5) zY)) zR) (zW (zK 7 nd zR) (zW (kC 1000000 (zA xB6 xB1 (zZ 6) (zO (qI T h2) h2 (hr.mono (by decide)) (zN (om:=[4])) (zX (zZ 3) (zX (zJ zL yW T.g_len Ay (zV (zZ 5) zY)) (zX (zZ 7) zY))))) (zW (fU 6 nd wZ6 wI (zO (qI T h2) h2 (hr.mono (by decide)) (zN (om:=[4])) (zX (zZ 3) (zX (zJ zL yW T.g_len Ay (zV (zZ 5) zY)) (zX (zZ 7) zY))))) (zS (fU 7 nd zQ6 yM zR))) Aw) (zW (zK 8 nd (yR yY yT (zZ 3) (zM wB wI (zJ zL yW T.g_len Ay (zV (zZ 5) zY)) (zZ 7)))) (zW (zK 9 nd (zO (xY1 T h3) h3 (hr.mono (by decide)) (zN (om:=[4])) (zX (zZ 5) (zX (zZ 7) (zX (zM yJ yB (zZ 6) (zZ 8)) zY))))) (zW (jG 4 AZ Ba wE uB (zX (zZ 9) zY)) (zW (xZ3 5 nd (sc0:=zP fX) (N0:=["people","k","number","many","rings","left","rest","length","later","ring"]) (fs:=["ring"]) (js:=[9]) (by sleep 2) rfl rfl rfl (RI.c (xF (RE.rd (zZ 5)))) (fun _ _ _ _=>(wU6 (zA yM1 wC5 (zZ 0) (zZ 1)))) (fun _ _ _ _=>(zZ 0))) (zS (zK 6 nd (zM wV wU (zZ 6) (zZ 8)))))))))) Aw) (zS (zE (zH4 (zO1 T h4) h4 (hr.mono (by decide)) (zN (om:=[4])) (zV (wK 4) zY))))))))))))
theorem bQ:zH ["numbers"] ["numbers"] (zP vF):=by sleep 1
theorem zE1(T:Txt K mg){f:Addr}{fd:FuncData}(h:Has K mg "numbers_text" vF f fd ["numbers"]):FnOk P w K mg base (CXV P w) 1 f fd ["numbers"] (spX false kB):=by
 refine zC [] h.F bQ fun cdv A outer s H E hr => ?_
 have nd:=bQ.nd
 have u:=hr.units
 exact (zS (zE (xN BW BX dM dN zB (wP (sc0:=zP vF) (N0:=["numbers"]) (fs:=[]) (js:=[]) (by sleep 2) rfl rfl rfl (RI.c (xF (RE.rd (zZ 0)))) (fun _ _ _ _=>xJ) (fun _ _ _ _=>(yX yI uS T.g_str (by rfl) (zV (zZ 0) zY)))))))
theorem aX:zH ["word","row"] ["word","row"] (zP jU):=by sleep 1
theorem zC4(T:Txt K mg){f:Addr}{fd:FuncData}(h:Has K mg "read_number" jU f fd ["word","row"]):FnOk P w K mg base (CXV P w) 1 f fd ["word","row"] (spX false xG):=by
 refine zC [] h.F aX fun cdv A outer s H E hr => ?_
 have nd:=aX.nd
 have u:=hr.units
 exact (zW (yN (RW.rt (rw_or (fW (aV (xX1 (zZ 0)))) (rw_or (zA cG zZ1 (zJ yJ5 wV5 T.g_len Ay (zV (zZ 0) zY)) (cT T.c_MOST_FIGURES.choose_spec.1 T.c_MOST_FIGURES.choose_spec.2)) (rw_or1 (RW.rt (rw_and (aV (xN PySem.F.slot_str_startswith PySem.F.type_str_startswith yT3 yT6 (zZ 0) zB)) (rw_and1 (zA (cN u) zR7 (zZ 0) zB)))))))) (zS zL9) yZ) (zS (zE (yX yS2 wR4 T.g_int (by rfl) (zV (zZ 0) zY)))))
theorem cE:zH ["words","row"] ["words","row"] (zP vE):=by sleep 1
theorem bZ(T:Txt K mg){f:Addr}{fd:FuncData}(h:Has K mg "read_numbers" vE f fd ["words","row"]):FnOk P w K mg base (CXV P w) 2 f fd ["words","row"] (spX false xC):=by
 obtain⟨_,_,h0⟩:=T.d_read_number
 refine zC [] h.F cE fun cdv A outer s H E hr => ?_
 have nd:=cE.nd
 have u:=hr.units
 exact (zS (zE (yX xR jF T.g_tuple (by rfl) (zV (wP (sc0:=zP vE) (N0:=["words","row"]) (fs:=["row"]) (js:=[1]) (by sleep 2) rfl rfl rfl (RI.c (xF (RE.rd (zZ 0)))) (fun _ _ _ _=>xJ) (fun _ _ _ _=>(zO (zC4 T h0) h0 (hr.mono (by decide)) (fD fun _ _ h=>h) (zX (zZ 0) (zX (zZ 1) zY))))) zY))))
theorem zS1:zH ["ring","boxes"] ["ring"] (zP gF):=by sleep 1
theorem yL8(T:Txt K mg){f:Addr}{fd:FuncData}(h:Has K mg "ring_text" gF f fd ["ring"]):FnOk P w K mg base (CXV P w) 2 f fd ["ring"] (spX false jW):=by
 obtain⟨_,_,h0⟩:=T.d_numbers_text
 refine zC [] h.F zS1 fun cdv A outer s H E hr => ?_
 have nd:=zS1.nd
 have u:=hr.units
 exact (zW (zK 1 nd (zO (zE1 T h0) h0 (hr.mono (by decide)) zN (zX (zZ 0) zY))) (zS (zE (wG3 (zZ 1)))))
theorem zX6:zH ["order"] ["order"] (zP qT):=by sleep 1
theorem zX8(T:Txt K mg){f:Addr}{fd:FuncData}(h:Has K mg "order_text" qT f fd ["order"]):FnOk P w K mg base (CXV P w) 3 f fd ["order"] (spX false kP):=by
 obtain⟨_,_,h0⟩:=T.d_rings_of
 obtain⟨_,_,h1⟩:=T.d_ring_text
 refine zC [] h.F zX6 fun cdv A outer s H E hr => ?_
 have nd:=zX6.nd
 have u:=hr.units
 exact (zS (zE (xN BW BX dM dN zB (wP (sc0:=zP qT) (N0:=["order"]) (fs:=[]) (js:=[]) (by sleep 2) rfl rfl rfl (RI.c (xF (RE.rd (RE.cl (vM (yG2 T h0) h0 (hr.mono (by decide)) zN (zX (zZ 0) zY)))))) (fun _ _ _ _=>xJ) (fun _ _ _ _=>(zO (yL8 T h1) h1 (hr.mono (by decide)) (fD fun _ _ h=>h) (zX (zZ 0) zY)))))))
theorem zX7:zH ["text","rings","order"] ["text"] (zP qY):=by sleep 1
theorem yU9(T:Txt K mg){f:Addr}{fd:FuncData}(h:Has K mg "read_order" qY f fd ["text"]):FnOk P w K mg base (CXV P w) 4 f fd ["text"] (spX false kT):=by
 obtain⟨_,_,h0⟩:=T.d_read_numbers
 obtain⟨_,_,h1⟩:=T.d_order_by
 obtain⟨_,_,h2⟩:=T.d_order_text
 refine zC [] h.F zX7 fun cdv A outer s H E hr => ?_
 have nd:=zX7.nd
 have u:=hr.units
 exact (zW (xZ3 1 nd (sc0:=zP qY) (N0:=["text","rings","order"]) (fs:=[]) (js:=[]) (by sleep 2) rfl rfl rfl (RI.c (xF (RE.rd (RE.cl (xN Cn Co cS cV (xL9 (zZ 0) (dQ zR) (dQ (yP9 zR))) zB))))) (fun _ _ _ _=>xJ) (fun _ _ _ _=>(zO (bZ T h0) h0 (hr.mono (by decide)) (fD fun _ _ h=>h) (zX (RE.cl (xN Cn Co cS cV (zZ 0) zB)) (zX zR zY))))) (zW (yD7 (fun _ _=>(zS (zK 2 nd (zO (zO1 T h1) h1 (hr.mono (by decide)) (fD fun _ _ h=>h) (zX (zZ 1) zY)))))) (zW (yN (zA (cN u) zR7 (zO (zX8 T h2) h2 (hr.mono (by decide)) zN (zX (zZ 2) zY)) (zZ 0)) (zS zL9) yZ) (zS (zE (zZ 2))))))
theorem zW2:zH ["openings"] ["openings"] (zP qX):=by sleep 1
theorem yT7(T:Txt K mg){f:Addr}{fd:FuncData}(h:Has K mg "share_text" qX f fd ["openings"]):FnOk P w K mg base (CXV P w) 4 f fd ["openings"] (spX false cZ):=by
 obtain⟨_,_,h0⟩:=T.d_share
 refine zC [] h.F zW2 fun cdv A outer s H E hr => ?_
 have nd:=zW2.nd
 have u:=hr.units
 exact (zS (zE (xN BW BX dM dN zB (wP (sc0:=zP qX) (N0:=["openings"]) (fs:=[]) (js:=[]) (by sleep 2) rfl rfl rfl (RI.c (xF (RE.rd (zO (xK9 T h0) h0 (hr.mono (by decide)) zN (zX (zZ 0) zY))))) (fun _ _ _ _=>xJ) (fun _ _ _ _=>(yX yI uS T.g_str (by rfl) (zV (zZ 0) zY)))))))
theorem bR:zH ["count"] ["count"] (zP qP):=by sleep 1
theorem zJ7(T:Txt K mg){f:Addr}{fd:FuncData}(h:Has K mg "first_people" qP f fd ["count"]):FnOk P w K mg base (CXV P w) 1 f fd ["count"] (spX false hZ):=by
 refine zC [] h.F bR fun cdv A outer s H E hr => ?_
 have nd:=bR.nd
 have u:=hr.units
 exact (zS (zE (zN1 T.g_tuple T.g_range (zV (zJ (uD rfl) gS T.g_min Bn (zV (zZ 0) (zV (zM yA yM (cT T.c_MOST_PEOPLE.choose_spec.1 T.c_MOST_PEOPLE.choose_spec.2) zR) zY))) zY))))
theorem kR:zH ["word","numbers"] ["word","numbers"] (zP vW):=by sleep 1
theorem aK(T:Txt K mg){f:Addr}{fd:FuncData}(h:Has K mg "answer_by_numbers" vW f fd ["word","numbers"]):FnOk P w K mg base (CXV P w) 5 f fd ["word","numbers"] (spX false yS):=by
 obtain⟨_,_,h0⟩:=T.d_share_text
 obtain⟨_,_,h1⟩:=T.d_many_good
 obtain⟨_,_,h2⟩:=T.d_order_text
 obtain⟨_,_,h3⟩:=T.d_good_at
 obtain⟨_,_,h4⟩:=T.d_many_all_of
 obtain⟨_,_,h5⟩:=T.d_first_people
 refine zC [] h.F kR fun cdv A outer s H E hr => ?_
 have nd:=kR.nd
 have u:=hr.units
 exact (zW (yN (zA (yO u) xY (zZ 0) zB) (zS (zE (zO (yT7 T h0) h0 (hr.mono (by decide)) zN (zX (zZ 1) zY)))) yZ) (zW (yN (RW.rt (rw_and (zA (yO u) xY (zZ 0) zB) (rw_and1 (zA (yO u) xY (zJ zL yW T.g_len Ay (zV (zZ 1) zY)) zR)))) (zS (zE (yX yI uS T.g_str (by rfl) (zV (zO (yK8 T h1) h1 (hr.mono (by decide)) zN (zX (yR yY yT (zZ 1) zR) (zX (yR yY yT (zZ 1) zR) zY))) zY)))) yZ) (zW (yN (RW.rt (rw_and (zA (yO u) xY (zZ 0) zB) (rw_and1 (zA (yO u) xY (zJ zL yW T.g_len Ay (zV (zZ 1) zY)) zR)))) (zS (zE (zO (zX8 T h2) h2 (hr.mono (by decide)) zN (zX (zO (xW9 T h3) h3 (hr.mono (by decide)) zN (zX (yR yY yT (zZ 1) zR) (zX (yR yY yT (zZ 1) zR) (zX (yR yY yT (zZ 1) zR) zY)))) zY)))) yZ) (zW (yN (RW.rt (rw_and (zA (yO u) xY (zZ 0) zB) (rw_and1 (zA (yO u) xY (zJ zL yW T.g_len Ay (zV (zZ 1) zY)) zR)))) (zS (zE (yX yI uS T.g_str (by rfl) (zV (zO (aS T h4) h4 (hr.mono (by decide)) zN (zX (yR yY yT (zZ 1) zR) (zX (yR yY yT (zZ 1) zR) (zX (zO (zJ7 T h5) h5 (hr.mono (by decide)) zN (zX (yR yY yT (zZ 1) zR) zY)) zY)))) zY)))) yZ) (zS zL9)))))
theorem yY1:zH ["row","parts","words","numbers"] ["row"] (zP aB):=by sleep 1
theorem xQ7(T:Txt K mg){f:Addr}{fd:FuncData}(h:Has K mg "answer" aB f fd ["row"]):FnOk P w K mg base (CXV P w) 6 f fd ["row"] (spX false zL7):=by
 obtain⟨_,_,h0⟩:=T.d_read_numbers
 obtain⟨_,_,h1⟩:=T.d_answer_by_numbers
 refine zC [] h.F yY1 fun cdv A outer s H E hr => ?_
 have nd:=yY1.nd
 have u:=hr.units
 exact (zW (zK 1 nd (xN PySem.F.slot_str_partition PySem.F.type_str_partition yJ7 yI7 (zZ 0) zB)) (zW (zK 2 nd (RE.cl (xN Cn Co cS cV (yR yY yT (zZ 1) zR) zB))) (zW (zK 3 nd (zO (bZ T h0) h0 (hr.mono (by decide)) zN (zX (xN2 (zZ 2) (dQ zR) yB2) (zX zR zY)))) (zW (yN (zA (yO u) xY (yR yY yT (zZ 1) zR) zB) (zS (zE (zO (aK T h1) h1 (hr.mono (by decide)) zN (zX (yR yY yT (zZ 2) zR) (zX (zZ 3) zY))))) yZ) (zS (zE wF7))))))
theorem kL:zH ["row"] ["row"] (zP vX):=by sleep 1
theorem zY7(T:Txt K mg){f:Addr}{fd:FuncData}(h:Has K mg "answer_or_refusal" vX f fd ["row"]):FnOk P w K mg base (CXV P w) 7 f fd ["row"] (spX false xV):=by
 obtain⟨_,_,h0⟩:=T.d_answer
 refine zC [] h.F kL fun cdv A outer s H E hr => ?_
 have nd:=kL.nd
 have u:=hr.units
 exact (zS (yD7 (fun _ _=>(zS (zE (zO (xQ7 T h0) h0 (hr.mono (by decide)) (fD fun _ _ h=>h) (zX (zZ 0) zY)))))))
theorem zN7:zH ["sheet"] ["sheet"] (zP jC):=by sleep 1
theorem yH6(T:Txt K mg){f:Addr}{fd:FuncData}(h:Has K mg "answered" jC f fd ["sheet"]):FnOk P w K mg base (CXV P w) 8 f fd ["sheet"] (spX false dU):=by
 obtain⟨_,_,h0⟩:=T.d_answer_or_refusal
 refine zC [] h.F zN7 fun cdv A outer s H E hr => ?_
 have nd:=zN7.nd
 have u:=hr.units
 exact (zS (zE (xN BW BX dM dN zB (wP (sc0:=zP jC) (N0:=["sheet"]) (fs:=[]) (js:=[]) (by sleep 2) rfl rfl rfl (RI.c (xF (RE.rd (RE.cl (xN Cn Co cS cV (zZ 0) zB))))) (fun _ _ _ _=>xJ) (fun _ _ _ _=>(zO (zY7 T h0) h0 (hr.mono (by decide)) (fD fun _ _ h=>h) (zX (zZ 0) zY)))))))
theorem zJ5:zH ["cell","many","names","k"] ["cell","many"] (zP bV):=by sleep 1
theorem xY5(T:Txt K mg){f:Addr}{fd:FuncData}(h:Has K mg "_law_order" bV f fd ["cell","many"]):FnOk P w K mg base (CXV P w) 1 f fd ["cell","many"] (spX false cA):=by
 refine zC [2] h.F zJ5 fun cdv A outer s H E hr => ?_
 have nd:=zJ5.nd
 have u:=hr.units
 exact (zW (wO 2 nd (yG zY)) (zW (xU (wF T.g_range (zV (zZ 1) zY)) (yV 3 nd) (zW (jG 2 PySem.F.slot_list_insert PySem.F.type_list_insert xM1 xP1 (zX (zM wV wU (zZ 0) (zM yA yM (zZ 3) zR)) (zX (zZ 3) zY))) (zS (zK 0 nd (zM yJ yB (zZ 0) (zM yA yM (zZ 3) zR))))) Aw) (zS (zE (yX xR jF T.g_tuple (by rfl) (zV (wK 2) zY))))))
theorem zD3:zH ["order","met","rings","first","ring","box"] ["order"] (zP cF):=by sleep 1
theorem zJ3(T:Txt K mg){f:Addr}{fd:FuncData}(h:Has K mg "_law_rings" cF f fd ["order"]):FnOk P w K mg base (CXV P w) 1 f fd ["order"] (spX true uE):=by
 refine xT2 h.F zD3 rfl rfl fun cdv A outer s H E hr => ?_
 have nd:=zD3.nd
 exact xD (kY (i:=1) nd rfl (Or.inl rfl) xF4) (xD (kY (i:=2) nd rfl (Or.inl rfl) (yO3 xE)) (xD (zH5 Aw rfl (zS3 rfl T.g_range (xO (zX1 zL rfl T.g_len Ay (xO (pv 0) xE)) xE)) (dF (i:=3) nd rfl (Or.inl rfl)) (xD (kY (i:=4) nd rfl (Or.inl rfl) (yO3 xE)) (xD (kY (i:=5) nd rfl (Or.inl rfl) (pv 3)) (xD (yO7 Aw (wI7 (xQ1 (yS4 hr) (pv 5) (pv 1))) (xD (yC8 (yS4 hr) (pv 1) (pv 5) yS3 rfl) (xD (dO (zZ3 BP AZ Ba wE (pv 4) (xO (pv 5) xE))) (qL (kY (i:=5) nd rfl (Or.inl rfl) (jQ bA (pv 0) (pv 5) (fun _ _=>rfl))))))) (qL (yR5 (zQ4 cG (zX1 zL rfl T.g_len Ay (xO (pv 4) xE)) fY (nomark _)) (qL (dO (zZ3 BP AZ Ba wE (pv 2) (xO (pv 4) xE)))) zQ5)))))) (qL (zW9 (pv 2)))))
theorem zW1:zH ["cell","many","found","k"] ["cell","many"] (zP kM):=by sleep 1
theorem yT9(T:Txt K mg){f:Addr}{fd:FuncData}(h:Has K mg "_law_openings" kM f fd ["cell","many"]):FnOk P w K mg base (CXV P w) 1 f fd ["cell","many"] (spX false jA):=by
 refine zC [2] h.F zW1 fun cdv A outer s H E hr => ?_
 have nd:=zW1.nd
 have u:=hr.units
 exact (zW (wO 2 nd (yG zY)) (zW (xU (wF T.g_range (zV (zZ 1) zY)) (yV 3 nd) (zW (jG 2 AZ Ba wE uB (zX (zM wV wU (zZ 0) (zM yA yM (zZ 1) zR)) zY)) (zS (zK 0 nd (zM yJ yB (zZ 0) (zM yA yM (zZ 1) zR))))) Aw) (zS (zE (yX xR jF T.g_tuple (by rfl) (zV (wK 2) zY))))))
theorem zO5:zH ["some"] ["some"] (zP jE):=by sleep 1
theorem gG(T:Txt K mg){f:Addr}{fd:FuncData}(h:Has K mg "_law_blanks" jE f fd ["some"]):FnOk P w K mg base (CXV P w) 1 f fd ["some"] (spX false yK):=by
 refine zC [] h.F zO5 fun cdv A outer s H E hr => ?_
 have nd:=zO5.nd
 have u:=hr.units
 exact (zS (zE (xN BW BX dM dN zB (wP (sc0:=zP jE) (N0:=["some"]) (fs:=[]) (js:=[]) (by sleep 2) rfl rfl rfl (RI.c (xF (RE.rd (zZ 0)))) (fun _ _ _ _=>xJ) (fun _ _ _ _=>(yX yI uS T.g_str (by rfl) (zV (zZ 0) zY)))))))
theorem yX9:zH ["people","k","ways","m","found","step","size"] ["people","k"] (zP zZ7):=by sleep 1
theorem bX(T:Txt K mg){f:Addr}{fd:FuncData}(h:Has K mg "_law_good" zZ7 f fd ["people","k"]):FnOk P w K mg base (CXV P w) 1 f fd ["people","k"] (spX false vJ):=by
 refine zC [2] h.F yX9 fun cdv A outer s H E hr => ?_
 have nd:=yX9.nd
 have u:=hr.units
 exact (zW (wO 2 nd (yG (zX zR zY))) (zW (xU (uY T.g_range (zV zR (zV (zM yA yM (zZ 0) zR) zY))) (yV 3 nd) (zW (zK 4 nd zR) (zW (zK 5 nd zR) (zW (xU (uY T.g_range (zV zR (zV (zM yA yM (zJ (uD rfl) gS T.g_min Bn (zV (zZ 1) (zV (zZ 3) zY))) zR) zY))) (yV 6 nd) (zW (zK 4 nd (zM yA yM (zZ 4) (zM vC wA (zZ 5) (yR yY yT (wK 2) (zM wB wI (zZ 3) (zZ 6)))))) (zS (zK 5 nd (zM vC wA (zZ 5) (zM wB wI (zZ 3) (zZ 6)))))) Aw) (zS (jG 2 AZ Ba wE uB (zX (zZ 4) zY)))))) Aw) (zS (zE (yR yY yT (wK 2) (zZ 0))))))
theorem yP3:zH ["many","found","k"] ["many"] (zP zQ3):=by sleep 1
theorem cQ(T:Txt K mg){f:Addr}{fd:FuncData}(h:Has K mg "_law_all" zQ3 f fd ["many"]):FnOk P w K mg base (CXV P w) 1 f fd ["many"] (spX false vT):=by
 refine zC [] h.F yP3 fun cdv A outer s H E hr => ?_
 have nd:=yP3.nd
 have u:=hr.units
 exact (zW (zK 1 nd zR) (zW (xU (uY T.g_range (zV zR (zV (zM yA yM (zZ 0) zR) zY))) (yV 2 nd) (zS (zK 1 nd (zM vC wA (zZ 1) (zZ 2)))) Aw) (zS (zE (zZ 1)))))
theorem zE8:zH ["one","other","low","high","rest"] ["one","other"] (zP bO):=by sleep 1
theorem zG5(T:Txt K mg){f:Addr}{fd:FuncData}(h:Has K mg "_law_terms" bO f fd ["one","other"]):FnOk P w K mg base (CXV P w) 1 f fd ["one","other"] (spX false jH):=by
 refine zC [] h.F zE8 fun cdv A outer s H E hr => ?_
 have nd:=zE8.nd
 have u:=hr.units
 exact (zW (zK 2 nd (zZ 0)) (zW (zK 3 nd (zZ 1)) (zW (kC 1000000 (zA cG zZ1 (zZ 2) zR) (zW (zK 4 nd (zM wV wU (zZ 3) (zZ 2))) (zW (zK 3 nd (zZ 2)) (zS (zK 2 nd (zZ 4))))) Aw) (zS (zE (zM qN dJ (zM qN dJ (yX yI uS T.g_str (by rfl) (zV (zM yJ yB (zZ 0) (zZ 3)) zY)) zB) (yX yI uS T.g_str (by rfl) (zV (zM yJ yB (zZ 1) (zZ 3)) zY))))))))
theorem zJ1:zH ["openings","many","good","number","rings"] ["openings"] (zP jI):=by sleep 1
theorem xV7(T:Txt K mg){f:Addr}{fd:FuncData}(h:Has K mg "_law_share" jI f fd ["openings"]):FnOk P w K mg base (CXV P w) 2 f fd ["openings"] (spX false fZ):=by
 obtain⟨_,_,h0⟩:=T.d_l_terms
 obtain⟨_,_,h1⟩:=T.d_l_good
 obtain⟨_,_,h2⟩:=T.d_l_all
 obtain⟨_,_,h3⟩:=T.d_l_rings
 obtain⟨_,_,h4⟩:=T.d_l_order
 refine zC [] h.F zJ1 fun cdv A outer s H E hr => ?_
 have nd:=zJ1.nd
 have u:=hr.units
 exact (zW (zK 1 nd (zJ zL yW T.g_len Ay (zV (zZ 0) zY))) (zW (yN (zA (yO u) xY (zZ 0) (yX xR jF T.g_tuple (by rfl) (zV (wP (sc0:=zP jI) (N0:=["openings","many","good","number","rings"]) (fs:=["openings"]) (js:=[0]) (by sleep 2) rfl rfl rfl (RI.c (xF (RE.rd (zZ 0)))) (fun _ _ _ _=>xJ) (fun _ _ _ _=>(yR yY yT (zZ 1) zR))) zY))) (zS (zE (zO (zG5 T h0) h0 (hr.mono (by decide)) zN (zX (zO (bX T h1) h1 (hr.mono (by decide)) zN (zX (zZ 1) (zX (yR yY yT (zZ 0) zR) zY))) (zX (zO (cQ T h2) h2 (hr.mono (by decide)) zN (zX (zZ 1) zY)) zY))))) yZ) (zW (zK 2 nd zR) (zW (xU (wF T.g_range (zV (zO (cQ T h2) h2 (hr.mono (by decide)) zN (zX (zZ 1) zY)) zY)) (yV 3 nd) (zW (zK 4 nd (RE.cl (vM (zJ3 T h3) h3 (hr.mono (by decide)) zN (zX (zO (xY5 T h4) h4 (hr.mono (by decide)) zN (zX (zZ 3) (zX (zZ 1) zY))) zY)))) (zS (zK 2 nd (zM yA yM (zZ 2) (yX xN1 wU4 T.g_int (by rfl) (zV (zJ (yV9 rfl) xL4 T.g_all (by rfl) (zV (wP (sc0:=zP jI) (N0:=["openings","many","good","number","rings"]) (fs:=["openings"]) (js:=[0]) (by sleep 2) rfl rfl rfl (RI.c (xF (RE.rd (zZ 4)))) (fun _ _ _ _=>xJ) (fun _ _ _ _=>(uG gO gP (zJ zL yW T.g_len Ay (zV (zZ 0) zY)) (zJ (yU8 rfl) yD8 T.g_min Bn (zV (wP (sc0:=_) (N0:=_) (fs:=["openings"]) (js:=[1]) (by exact⟨rfl,by decide +kernel,by decide +kernel,by decide +kernel,by repeat' (first | exact List.forall_mem_nil _ | refine List.forall_mem_cons.2 ⟨?_,?_⟩ | (intro h;cases h;done) | exact (fun _=>Or.inl rfl) | exact (fun _=>Or.inr rfl) | exact⟨rfl,rfl⟩),rfl,by repeat' (first | exact List.forall_mem_nil _ | refine List.forall_mem_cons.2 ⟨?_,?_⟩ | (intro h;cases h;done) | exact (fun _=>Or.inl rfl) | exact (fun _=>Or.inr rfl) | exact⟨rfl,rfl⟩),by decide +kernel⟩) rfl rfl rfl (RI.c (xF (RE.rd (zZ 0)))) (fun _ _ _ _=>xJ) (fun _ _ _ _=>(yR yY yT (zZ 1) (zZ 0)))) zY))))) zY)) zY)))))) Aw) (zS (zE (zO (zG5 T h0) h0 (hr.mono (by decide)) zN (zX (zZ 2) (zX (zO (cQ T h2) h2 (hr.mono (by decide)) zN (zX (zZ 1) zY)) zY)))))))))
theorem yL7:zH ["cell","great","many","k","number","some","openings"] ["cell","great"] (zP bF):=by sleep 1
theorem xG4(T:Txt K mg){f:Addr}{fd:FuncData}(h:Has K mg "_law_row" bF f fd ["cell","great"]):FnOk P w K mg base (CXV P w) 2 f fd ["cell","great"] (spX false qO):=by
 obtain⟨_,_,h0⟩:=T.d_l_blanks
 obtain⟨_,_,h1⟩:=T.d_l_good
 obtain⟨_,_,h2⟩:=T.d_l_openings
 refine zC [] h.F yL7 fun cdv A outer s H E hr => ?_
 have nd:=yL7.nd
 have u:=hr.units
 exact (zW (zK 0 nd (zJ xJ2 wO8 T.g_abs (by rfl) (zV (zZ 0) zY))) (zW (zK 2 nd (zM yA yM zR (zM wV wU (zM yJ yB (zZ 0) zR) zR))) (zW (yN (RW.rt (rw_and (aV (zZ 1)) (rw_and1 (zA (yO u) xY (zM wV wU (zM yJ yB (zZ 0) zR) zR) zR)))) (zS (zK 2 nd (zM yA yM zR (zM wV wU (zM yJ yB (zZ 0) zR) zR)))) yZ) (zW (zK 3 nd (zM wV wU (zM yJ yB (zZ 0) zR) (zM yA yM (zZ 2) zR))) (zW (yN (zA (yO u) xY (zM wV wU (zZ 0) zR) zR) (zW (zK 2 nd (zM wB wI (zZ 2) (zM wV wU (zM yJ yB (zZ 0) zR) zR))) (zS (zE (zS9 (zX (zM qN dJ zB (zO (gG T h0) h0 (hr.mono (by decide)) zN (zX (RE.cl (yG (zX (zZ 2) (zX (zZ 3) zY)))) zY))) (zX zB (zX (zZ 2) (zX (zZ 3) (zX zR zY))))))))) yZ) (zW (yN (zA (yO u) xY (zM wV wU (zZ 0) zR) zR) (zW (zK 3 nd (zJ (xQ9 rfl) wW8 T.g_max DA (zV zR (zV (zJ (uD rfl) gS T.g_min Bn (zV (zZ 3) (zV (zZ 2) zY))) zY)))) (zW (zK 4 nd (zM wV wU (zM yJ yB (zZ 0) zR) (zO (bX T h1) h1 (hr.mono (by decide)) zN (zX (zZ 2) (zX (zZ 3) zY))))) (zS (zE (zS9 (zX (zM qN dJ zB (zO (gG T h0) h0 (hr.mono (by decide)) zN (zX (RE.cl (yG (zX (zZ 2) (zX (zZ 3) (zX (zZ 4) zY))))) zY))) (zX zB (zX (zZ 2) (zX (zZ 3) (zX (zZ 4) zY)))))))))) yZ) (zW (yN (zA (yO u) xY (zM wV wU (zZ 0) zR) zR) (zW (zK 5 nd (yR yY yT (yG (zX zR (zX zR (zX (zZ 2) (zX (zM wV wU (zM yJ yB (zZ 0) zR) (zM yA yM (zZ 2) zR)) zY))))) (zM wV wU (zM yJ yB (zZ 0) zR) zR))) (zS (zE (zS9 (zX (zM qN dJ zB (zO (gG T h0) h0 (hr.mono (by decide)) zN (zX (RE.cl (yG (zX (zZ 2) (zX (zZ 3) (zX (zZ 5) zY))))) zY))) (zX zB (zX (zZ 2) (zX (zZ 3) (zX (zZ 5) zY))))))))) yZ) (zW (zK 6 nd (yX xR jF T.g_tuple (by rfl) (zV (wP (sc0:=zP bF) (N0:=["cell","great","many","k","number","some","openings"]) (fs:=["k","many"]) (js:=[3,2]) (by sleep 2) rfl rfl rfl (RI.c (wF T.g_range (zV (zZ 2) zY))) (fun _ _ _ _=>xJ) (fun _ _ _ _=>(zJ (uD rfl) gS T.g_min Bn (zV (zZ 1) (zV (zZ 2) zY))))) zY))) (zW (yN (zA aF zY9 (zZ 2) zR) (zS (zK 6 nd (zO (yT9 T h2) h2 (hr.mono (by decide)) zN (zX (zM yJ yB (zZ 0) zR) (zX (zZ 2) zY))))) yZ) (zS (zE (zS9 (zX (zM qN dJ zB (zO (gG T h0) h0 (hr.mono (by decide)) zN (zX (zZ 6) zY))) (zX zB (zX (zZ 6) (zX zR (zX zR zY)))))))))))))))))
theorem zG8:zH ["row","answer_v","text","word","many","k","more","order"] ["row","answer_v"] (zP gE):=by sleep 1
theorem xY4(T:Txt K mg){f:Addr}{fd:FuncData}(h:Has K mg "_law_right" gE f fd ["row","answer_v"]):FnOk P w K mg base (CXV P w) 5 f fd ["row","answer_v"] (spX false wS):=by
 obtain⟨_,_,h0⟩:=T.d_l_good
 obtain⟨_,_,h1⟩:=T.d_read_order
 obtain⟨_,_,h2⟩:=T.d_l_rings
 obtain⟨_,_,h3⟩:=T.d_l_share
 obtain⟨_,_,h4⟩:=T.d_many_all_of
 obtain⟨_,_,h5⟩:=T.d_l_all
 refine zC [] h.F zG8 fun cdv A outer s H E hr => ?_
 have nd:=zG8.nd
 have u:=hr.units
 exact (zW (wR5 (zZ 0) (xP4 rfl (jP (yV 2 nd) (jP (yV 3 nd) (jP (yV 4 nd) (jP (yV 5 nd) (jP (yV 6 nd) yB7))))))) (zW (yN (zA (yO u) xY (zZ 3) zB) (zS (zE (uG (yO u) xY (zZ 1) (yX yI uS T.g_str (by rfl) (zV (zO (bX T h0) h0 (hr.mono (by decide)) zN (zX (zZ 4) (zX (zZ 5) zY))) zY))))) yZ) (zW (yN (zA (yO u) xY (zZ 3) zB) (zW (zK 7 nd (zO (yU9 T h1) h1 (hr.mono (by decide)) zN (zX (zZ 1) zY))) (zS (zE (xU5 (uG (yO u) xY (zJ zL yW T.g_len Ay (zV (zZ 7) zY)) (zZ 4)) (yO8 (uG gO gP (zJ (yW5 rfl) yD2 T.g_max DA (zV (wP (sc0:=zP gE) (N0:=["row","answer_v","text","word","many","k","more","order"]) (fs:=[]) (js:=[]) (by sleep 2) rfl rfl rfl (RI.c (xF (RE.rd (RE.cl (vM (zJ3 T h2) h2 (hr.mono (by decide)) zN (zX (zZ 7) zY)))))) (fun _ _ _ _=>xJ) (fun _ _ _ _=>(zJ zL yW T.g_len Ay (zV (zZ 0) zY)))) zY)) (zZ 5))))))) yZ) (zW (yN (zA (yO u) xY (zZ 3) zB) (zS (zE (uG (yO u) xY (zZ 1) (zO (xV7 T h3) h3 (hr.mono (by decide)) zN (zX (zZ 4) zY))))) yZ) (zW (yN (zA (cN u) zR7 (zZ 1) (yX yI uS T.g_str (by rfl) (zV (zO (aS T h4) h4 (hr.mono (by decide)) zN (zX (zZ 4) (zX (zZ 5) (zX (zN1 T.g_tuple T.g_range (zV (zZ 6) zY)) zY)))) zY))) (zS (zE yQ5)) yZ) (zW (yN (zA (yO u) xY (zZ 6) zR) (zS (zE (uG (yO u) xY (zZ 1) (yX yI uS T.g_str (by rfl) (zV (zO (cQ T h5) h5 (hr.mono (by decide)) zN (zX (zZ 4) zY)) zY))))) yZ) (zW (yN (zA (yO u) xY (zZ 6) (zZ 4)) (zS (zE (uG (yO u) xY (zZ 1) (yX yI uS T.g_str (by rfl) (zV (zO (bX T h0) h0 (hr.mono (by decide)) zN (zX (zZ 4) (zX (zZ 5) zY))) zY))))) yZ) (zS (zE (wA3 (uG cG zZ1 (zZ 6) zR) (yO8 (uG (yO u) xY (zZ 1) (yX yI uS T.g_str (by rfl) (zV (zM vC wA (zJ (uD rfl) gS T.g_min Bn (zV (zZ 5) (zV (zZ 4) zY))) (zO (cQ T h5) h5 (hr.mono (by decide)) zN (zX (zM wB wI (zZ 4) zR) zY))) zY))))))))))))))
theorem zO4:zH ["rows","answers","met","k","spot"] ["rows","answers"] (zP kK):=by sleep 1
theorem yI3(T:Txt K mg){f:Addr}{fd:FuncData}(h:Has K mg "_law_unlike" kK f fd ["rows","answers"]):FnOk P w K mg base CX0 1 f fd ["rows","answers"] (spF false kJ):=by
 refine wJ1 h.F zO4 rfl rfl fun cdv A outer s H E hr => ?_
 have nd:=zO4.nd
 exact (xD (kY (i:=2) nd rfl (by first | exact Or.inl rfl | exact Or.inr rfl) xK3) (xD (zH5 PassesOwn.never rfl (zS3 rfl T.g_range (xO (zX1 zL rfl T.g_len Ay (xO (pv 0) xE)) xE)) (dF (i:=3) nd rfl (by first | exact Or.inl rfl | exact Or.inr rfl)) (qL (yR5 (zQ4 (yO hr.units) (jQ bA (jQ hU (pv 0) (pv 3) (fun _ _=>rfl)) fY (fun _ _=>rfl)) xR3 (nomark _)) (xD (kY (i:=4) nd rfl (by first | exact Or.inl rfl | exact Or.inr rfl) (xB3 wU1 (yJ3 xO8 (jQ hU (pv 0) (pv 3) (fun _ _=>rfl)) (zC1 fY) (zC1 fY)) (xM2 (xO (jQ hU (pv 1) (pv 3) (fun _ _=>rfl)) xE)))) (xD (yR5 (zQ4 (cN hr.units) (xC6 (yS4 hr) (pv 2) (pv 4) (jQ bA (jQ hU (pv 0) (pv 3) (fun _ _=>rfl)) fY (fun _ _=>rfl)) ⟨rfl,rfl,rfl,rfl⟩) (jQ bA (jQ hU (pv 0) (pv 3) (fun _ _=>rfl)) fY (fun _ _=>rfl)) (nomark _)) (qL (zW9 yS3)) zQ5) (qL (yC8 (yS4 hr) (pv 2) (pv 4) (jQ bA (jQ hU (pv 0) (pv 3) (fun _ _=>rfl)) fY (fun _ _=>rfl)) rfl)))) zQ5))) (qL (zW9 yS3))))
theorem yF4(T:Txt K mg){f:Addr}{fd:FuncData}(h:Has K mg "_law_unlike" kK f fd ["rows","answers"]):FnOk P w K mg base (CXV P w) 1 f fd ["rows","answers"] (spX false kJ):=wI5 (fun _ _=>wQ8) (yI3 T h)
theorem xU7:zH ["script","cells","rows","answers","at"] ["script"] (zP zZ2):=by sleep 1
theorem wM9(T:Txt K mg){f:Addr}{fd:FuncData}(h:Has K mg "law" zZ2 f fd ["script"]):FnOk P w K mg base (CXV P w) 9 f fd ["script"] (spX false xV8):=by
 obtain⟨_,_,h0⟩:=T.d_l_row
 obtain⟨_,_,h1⟩:=T.d_answered
 obtain⟨_,_,h2⟩:=T.d_l_right
 obtain⟨_,_,h3⟩:=T.d_l_unlike
 refine zC [] h.F xU7 fun cdv A outer s H E hr => ?_
 have nd:=xU7.nd
 have u:=hr.units
 exact (zW (zK 1 nd (RE.cl (zM zB3 yK1 (yG (zX zR zY)) (yX yP8 wZ7 T.g_list (by rfl) (zV (zZ 0) zY))))) (zW (zK 2 nd (RE.cl (wP (sc0:=zP zZ2) (N0:=["script","cells","rows","answers","at"]) (fs:=["cells"]) (js:=[1]) (by sleep 2) rfl rfl rfl (RI.c (wF T.g_range (zV (zJ zL yW T.g_len Ay (zV (zZ 1) zY)) zY))) (fun _ _ _ _=>xJ) (fun _ _ _ _=>(zO (xG4 T h0) h0 (hr.mono (by decide)) (fD fun _ _ h=>h) (zX (yR yY yT (zZ 1) (zZ 0)) (zX (uG aF zY9 (zZ 0) zR) zY))))))) (zW (zK 3 nd (RE.cl (yG zY))) (zW (xU (xO3 T.g_range (zV zR (zV (zJ zL yW T.g_len Ay (zV (zZ 2) zY)) (zV zR zY)))) (yV 4 nd) (zS (zK 3 nd (RE.cl (zM zB3 yK1 (zZ 3) (xN Cn Co cS cV (zO (yH6 T h1) h1 (hr.mono (by decide)) zN (zX (xN BW BX dM dN zB (wP (sc0:=zP zZ2) (N0:=["script","cells","rows","answers","at"]) (fs:=[]) (js:=[]) (by sleep 2) rfl rfl rfl (RI.c (xF (RE.rd (RE.cl (yV6 (zZ 2) (dQ (zZ 4)) (dQ (zM yA yM (zZ 4) zR))))))) (fun _ _ _ _=>xJ) (fun _ _ _ _=>(yR yY yT (zZ 0) zR)))) zY)) zB))))) Aw) (zW (yN (RW.rt (rw_or (zA (cN u) zR7 (zJ zL yW T.g_len Ay (zV (zZ 3) zY)) (zJ zL yW T.g_len Ay (zV (zZ 2) zY))) (rw_or1 (fW (aV (zJ (yV9 rfl) xL4 T.g_all (by rfl) (zV (wP (sc0:=zP zZ2) (N0:=["script","cells","rows","answers","at"]) (fs:=["rows","answers"]) (js:=[2,3]) (by sleep 2) rfl rfl rfl (RI.c (wF T.g_range (zV (zJ zL yW T.g_len Ay (zV (zZ 2) zY)) zY))) (fun _ _ _ _=>xJ) (fun _ _ _ _=>(zO (xY4 T h2) h2 (hr.mono (by decide)) (fD fun _ _ h=>h) (zX (yR yY yT (zZ 1) (zZ 0)) (zX (yR yY yT (zZ 2) (zZ 0)) zY))))) zY))))))) (zS (zE yQ5)) yZ) (zS (zE (zO (yF4 T h3) h3 (hr.mono (by decide)) zN (zX (zZ 2) (zX (zZ 3) zY))))))))))
end
end K54
namespace K54
open PySem L2 L2.L3 MR
def evA:=(And.intro (And.intro (And.intro (And.intro (And.intro (And.intro @wH8 (And.intro @xE9 @xD9)) (And.intro @wA2 (And.intro @zA3 @wL8))) (And.intro (And.intro @wJ9 (And.intro @wD3 @wE2)) (And.intro @wD6 (And.intro @wK4 @wO6)))) (And.intro (And.intro (And.intro @wC8 (And.intro @wD7 @zG7)) (And.intro @wK9 (And.intro @wB1 @wF8))) (And.intro (And.intro @wA1 (And.intro @wO1 @yS6)) (And.intro (And.intro @wE5 @wF4) (And.intro @wB4 @wE4))))) (And.intro (And.intro (And.intro (And.intro @wC6 (And.intro @wD2 @wE3)) (And.intro @yS7 (And.intro @eV0 @eVs))) (And.intro (And.intro @wE1 (And.intro @yQ2 @yR3)) (And.intro (And.intro @wD9 @wH5) (And.intro @wC3 @yR1)))) (And.intro (And.intro (And.intro @yQ8 (And.intro @wC7 @wP2)) (And.intro @wH6 (And.intro @wE9 @zG2))) (And.intro (And.intro @wF6 (And.intro @wJ6 @wN5)) (And.intro (And.intro @yR9 @yQ4) (And.intro @wE8 @wB6)))))) (And.intro (And.intro (And.intro (And.intro (And.intro @wB2 (And.intro @wX5 @wB7)) (And.intro @yQ7 (And.intro @wZ8 @xM9))) (And.intro (And.intro @xP3 (And.intro @zJ9 @yZ1)) (And.intro (And.intro @xH8 @wZ9) (And.intro @wD4 @wC2)))) (And.intro (And.intro (And.intro @wV7 (And.intro @yR4 @wL5)) (And.intro @wI9 (And.intro @wP9 @wL1))) (And.intro (And.intro @wL9 (And.intro @wP3 @wM7)) (And.intro (And.intro @wM2 @wG2) (And.intro @wM1 @mkL0))))) (And.intro (And.intro (And.intro (And.intro @mkL1 (And.intro @mkL2 @mkL3)) (And.intro @mkL4 (And.intro @mkT0 @mkT1))) (And.intro (And.intro @mkT2 (And.intro @mkT3 @Res.bind_ok)) (And.intro (And.intro @Res.bind_no @Res.bind_ex) (And.intro @Res.lft_some @Res.lft_none)))) (And.intro (And.intro (And.intro @Bu.{0,0} (And.intro @AR.{0,0} @List.set_cons_zero.{0})) (And.intro @List.set_cons_succ.{0} (And.intro @Ax.{0} @DL.{0}))) (And.intro (And.intro @if_true.{1} (And.intro @if_false.{1} @Cu)) (And.intro (And.intro @ite_true.{1} @ite_false.{1}) (And.intro @Bool.not_true @Bool.not_false)))))))
local macro_rules | `(tactic| simp![$x,*])=>`(tactic| simp -implicitDefEqProofs only[(evA),$x,*])
def rI'(r:List Nat):List Int:=r.map fun (b:Nat)=>(b:Int)
theorem yJ9{n b:Nat}{xs:List Int}(o:Ord n xs)(hn:n<=1000)(hb:b<n):gM [tI xs,.int b]=.ok (tI (rI' (ring n xs b))):=by
 show (bJ [some (tI xs),some (.int b),none]).bind (fin false)=_
 unfold bJ
 simp -implicitDefEqProofs only[(evA)]
 obtain⟨a1,a2,a3,a4⟩:=o.yE hb
 have last:∀i,atI ((List.range (i+1)).map fun j=>PyData.int ((it xs j b:Nat):Int)) (-1)=some (.int ((it xs i b:Nat):Int)):=fun i=>by
  rw[Ch,AK]
  exact xG1 _ _
 have nx:∀i,atI (xs.map PyData.int) ((it xs i b:Nat):Int)=some (.int ((it xs (i+1) b:Nat):Int)):=fun i=>by
  have hi:=o.qJ hb i
  rw[zR6,zK3 (by rw[o.len];exact hi),o.aY hi]
  rfl
 obtain⟨ρ',e,rfl⟩:=yJ6 (t:=b2 neD (e2 ixD (eV 0) (e2 ixD (eV 2) (e1 negD (eC (.int 1))))) (eV 1)) (b:=sM 2 appD (aC (e2 ixD (eV 0) (e2 ixD (eV 2) (e1 negD (eC (.int 1))))) aN))
  (fun i ρ=>ρ=[some (tI xs),some (.int b),some (.list ((List.range (i+1)).map fun j=>PyData.int ((it xs j b:Nat):Int)))]) (per n xs b-1) 1000000 [some (tI xs),some (.int b),some (.list [.int b])] rfl (by
   rintro i ρ hi rfl
   simp![last,nx,zQ7]
   have ne:=a4 (i+1) (by rfl') (by rfl')
   rw[Ad (by rfl')]
   refine⟨rfl,_,?_,rfl⟩
   simp![gC (l:=(List.range (i+1)).map fun j=>PyData.int ((it xs j b:Nat):Int)) (by rw[Aa,Aq];rfl')]
   congr 2
   simp only[Ch,AK,AI,Cj]) (by
   rintro ρ rfl
   simp![last,nx,zQ7]
   rw[show per n xs b-1+1=per n xs b by rfl',a3,Ag rfl]
   rfl) (by rfl')
 rw[e]
 simp -implicitDefEqProofs only[(evA)]
 congr 2
 rw[show per n xs b-1+1=per n xs b by rfl']
 unfold rI' ring
 rw[Av,Av]
 rfl
abbrev ringsD(n:Nat)(xs:List Int)(m:Nat):List (List Int):=(rgs n xs m).map rI'
theorem yF6{n:Nat}{xs:List Int}(o:Ord n xs)(hn:n<=1000):fJ [tI xs]=.ok (rows (ringsD n xs n)):=by
 show (zX4 [some (tI xs),none,none,none,none,none]).bind (fin true)=_
 unfold zX4
 simp![Aa,o.len,aJ _ n hn,uK hn,fO]
 have cnt:∀m,m<=n->(rgs n xs m).length<=m:=by
  intro m
  induction m with
  | zero=>intro _;simp[rgs]
  | succ m ih =>
   intro h
   have:=ih (by rfl')
   rw[rgs]
   split
   ·rfl'
   ·rw[An,Bm];rfl'
 obtain⟨ρ',e,x,y,z,rfl⟩:=uM (g:=gN 3) (b:=sIf (tNt (tV (e2 ixD (eV 2) (eV 3)))) (sQ (sS 4 (eF gM (aC (eV 0) (aC (eV 3) aN)))) (sQ (sM 1 appD (aC (eV 4) aN)) (sF (iS (eV 4)) (gN 5) (sI 2 (eV 5) (eC (.bool true)))))) sN)
  (fun i ρ=>∃x y z,ρ=[some (tI xs),some (rows (ringsD n xs i)),some (.list ((List.range n).map fun c=>.bool (has (rgs n xs i) c))),x,y,z]) ((List.range n).map fun (i:Nat)=>PyData.int (i:Int)) [some (tI xs),some (.list []),some (.list ((List.range n).map fun _=>.bool false)),none,none,none] ⟨none,none,none,rfl⟩ (by
   rintro i d ρ hd ⟨x,y,z,rfl⟩
   obtain⟨hi,rfl⟩:=dH hd
   cases hh:has (rgs n xs i) i with
   | true =>
    refine⟨_,[some (tI xs),some (rows (ringsD n xs i)),some (.list ((List.range n).map fun c=>.bool (has (rgs n xs i) c))),some (.int i),y,z],rfl,?_,some (.int i),y,z,?_⟩
    ·simp![zU1 hi,hh]
    ·unfold ringsD
     rw[rgs,Ac hh]
   | false =>
    have hh':¬has (rgs n xs i) i=true:=by rw[hh];exact AG
    obtain⟨ρ2,e2,x2,rfl⟩:=uM (g:=gN 5) (b:=sI 2 (eV 5) (eC (.bool true)))
     (fun j ρ=>∃x,ρ=[some (tI xs),some (rows (ringsD n xs i ++ [rI' (ring n xs i)])),some (.list ((List.range n).map fun c=>.bool (has (rgs n xs i) c || ((ring n xs i).take j).contains c))),some (.int i),some (tI (rI' (ring n xs i))),x]) ((rI' (ring n xs i)).map PyData.int)
     [some (tI xs),some (rows (ringsD n xs i ++ [rI' (ring n xs i)])),some (.list ((List.range n).map fun c=>.bool (has (rgs n xs i) c))),some (.int i),some (tI (rI' (ring n xs i))),z] ⟨z,by simp⟩ (by
      rintro j d ρ hd ⟨x,rfl⟩
      unfold rI' at hd
      rw[Av,Al] at hd
      obtain⟨m,hm,rfl⟩:=Az.mp hd
      have hmr:m∈ring n xs i:=Bq hm
      have hml:m<n:=o.yS9 hi (xQ.mp hmr)
      refine⟨_,_,rfl,?_,some (.int m),rfl⟩
      simp![Function.comp,zY4 hml]
      congr 6
      refine Bc PyData.list (Bf fun c _ => ?_)
      rw[List.take_succ,hm]
      by_cases ec:c=m
      ·subst ec
       rw[Ac rfl]
       simp
      ·rw[Ah ec]
       simp[ec])
    refine⟨_,_,rfl,?_,some (.int i),some (tI (rI' (ring n xs i))),x2,rfl⟩
    have e5:rows (ringsD n xs i)=.list ((ringsD n xs i).map tI):=rfl
    simp![zU1 hi,hh,yJ9 o hn hi,gC (l:=(ringsD n xs i).map tI) (d:=tI (rI' (ring n xs i))) (by rw[Aa,Aa];have:=cnt i (by rfl');rfl')]
    have e6:(ringsD n xs i).map tI ++ [tI (rI' (ring n xs i))]=(ringsD n xs i ++ [rI' (ring n xs i)]).map tI:=by rw[AK];rfl
    rw[e6,e2]
    congr 2
    have e7:ringsD n xs (i+1)=ringsD n xs i ++ [rI' (ring n xs i)]:=by
     unfold ringsD
     rw[rgs,Ah hh',AK]
     rfl
    rw[e7]
    congr 4
    refine Bc PyData.list (Bf fun c _ => ?_)
    congr 1
    rw[rgs,Ah hh']
    unfold has rI'
    rw[List.any_append,Aa,Aa,CH]
    simp)
 rw[Aa,Aq] at e
 rw[e]
 rfl
structure Opn(n:Nat)(ops:List Int):Prop where
 len:ops.length=n
 bd:∀x∈ops,0<=x/\x<=n
theorem zK6{n:Nat}{ops:List Int}(p:Opn n ops)(h1:1<=n)(h2:n<=60):kS [.int n,tI ops]=.ok (tI ops):=by
 show (kQ [some (.int n),some (tI ops)]).bind (fin false)=_
 unfold kQ
 have hne:ops ≠ []:=fun z=>by have:=p.len;rw[z] at this;simp at this;rfl'
 have a1:=p.bd _ (zK1 hne)
 have a2:=p.bd _ (zM8 hne)
 simp![Aa,p.len,zQ7,wY1 hne,wQ4 hne,Ag (show (1:Int)<=(n:Int) by rfl'),Ag (show (n:Int)<=60 by rfl'),decide_true,Ad (show ¬minL ops<0 by rfl'),Ad (show ¬(n:Int)<maxL ops by rfl')]
theorem yD(l:List Nat):(rI' l).length=l.length:=by unfold rI';simp
theorem xS1(a b:List Nat):rI' (a++b)=rI' a++rI' b:=by unfold rI';simp
theorem yM2:∀l:List Int,lfs (l.map PyData.int)=true
 | []=>rfl
 | a::l=>by rw[AI,lfs,yM2 l];rfl
theorem wL2(l:List Int):lfT false (tI l)=true:=by
 show lf (.tuple (l.map PyData.int))=true
 rw[lf,yM2]
theorem zG4{n:Nat}(h:n<=60):kA [.int n]=.ok .none:=by
 show (hV [some (.int n)]).bind (fin false)=_
 unfold hV
 simp![Ag (show (0:Int)<=(n:Int) by rfl'),Ag (show (n:Int)<=60 by rfl')]
theorem uZ{n:Nat}{k:Int}(h:n<=60)(hk:0<=k):xL [.int n,.int k]=.ok .none:=by
 show (uU [some (.int n),some (.int k)]).bind (fin false)=_
 unfold uU
 simp![zG4 h,Ad (show ¬k<0 by rfl')]
theorem zM6{c j:Nat}(hc:c<=61)(hj:j<=61):Small (M12.ff ((c:Int)-1) j):=⟨367,by decide,M12.zB1 c j hc hj⟩
theorem zP1{l k:Int}{n:Nat}(hn:n<=60):Small (M12.G l k n):=⟨24001,by decide,M12.zJ6 l k n hn⟩
theorem castT{i j:Nat}(h:j<i+1):(i:Int)+1-((j:Int)+1)=((i-j:Nat):Int):=by rfl'
theorem mulT{x:Int}{i j:Nat}(h:j<i+1)(h':i<60):MulOk x ((i:Int)+1-((j:Int)+1)):=MulOk.right (by rfl') (by rfl')
theorem le61{i j:Nat}(h:j<i+1)(h':i<60):i+1<=61/\j<=61/\i-j<=60:=by rfl'
theorem vL{n:Nat}(l:Int){k:Int}(hn:n<=60)(hk:0<=k):xH [.int n,.int l,.int k]=.ok (lI (M12.mbl l k n)):=by
 show (qF [some (.int n),some (.int l),some (.int k),none,none,none,none,none]).bind (fin true)=_
 unfold qF
 simp![aG (m:=(n:Int)) (by rfl') (by rfl'),AW]
 refine vU (fun i ρ=>∃c t w x,ρ=[some (.int n),some (.int l),some (.int k),some (lI (M12.mbl l k i)),c,t,w,x]) ⟨none,none,none,none,rfl⟩ ?_ ?_
 ·rintro i d ρ hd ⟨c,t,w,x,rfl⟩
  obtain⟨hi,rfl⟩:=vK hd
  have hlen:(M12.mbl l k i).length=i+1:=M12.xZ l k i
  have hm:(if (i:Int)+1<k then (i:Int)+1 else k)=min k ((i:Int)+1):=by split <;> rfl'
  have inner:∃y,L3.forM (gN 7) (sQ (sIf (b2 geI (eV 7) (eV 1)) (sS 5 (e2 addI (eV 5) (e2 mulI (eV 6) (e2 ixD (eV 3) (e2 subI (eV 4) (eV 7)))))) sN) (sS 6 (e2 mulI (eV 6) (e2 subI (eV 4) (eV 7))))) ((List.range (min k ((i:Int)+1)).toNat).map fun (j:Nat)=>PyData.int ((j:Int)+1))
    [some (.int n),some (.int l),some (.int k),some (lI (M12.mbl l k i)),some (.int ((i:Int)+1)),some (.int 0),some (.int 1),x]=.ok (.nx [some (.int n),some (.int l),some (.int k),some (lI (M12.mbl l k i)),some (.int ((i:Int)+1)),some (.int (M12.tot l (M12.mbl l k i) (min k ((i:Int)+1)).toNat)),some (.int (M12.ff (((i+1:Nat):Int)-1) (min k ((i:Int)+1)).toNat)),y]):=by
   obtain⟨ρ',e,y,rfl⟩:=uM (g:=gN 7) (b:=sQ (sIf (b2 geI (eV 7) (eV 1)) (sS 5 (e2 addI (eV 5) (e2 mulI (eV 6) (e2 ixD (eV 3) (e2 subI (eV 4) (eV 7)))))) sN) (sS 6 (e2 mulI (eV 6) (e2 subI (eV 4) (eV 7)))))
    (fun j ρ=>∃y,ρ=[some (.int n),some (.int l),some (.int k),some (lI (M12.mbl l k i)),some (.int ((i:Int)+1)),some (.int (M12.tot l (M12.mbl l k i) j)),some (.int (M12.ff (((i+1:Nat):Int)-1) j)),y]) ((List.range (min k ((i:Int)+1)).toNat).map fun (j:Nat)=>PyData.int ((j:Int)+1))
    [some (.int n),some (.int l),some (.int k),some (lI (M12.mbl l k i)),some (.int ((i:Int)+1)),some (.int 0),some (.int 1),x] ⟨x,rfl⟩ (by
     rintro j d ρ hd ⟨y,rfl⟩
     obtain⟨hj,rfl⟩:=vK hd
     have hj1:j<i+1:=by rfl'
     have ii:i<60:=by rfl'
     obtain⟨q1,q2,q3⟩:=le61 hj1 ii
     have hv:=uR (xs:=M12.mbl l k i) (i:=(i:Int)+1-((j:Int)+1)) (j:=i-j) (castT hj1) (by rw[hlen];exact Nat.lt_succ_of_le (CM _ _))
     rw[M12.yL l k i (i-j) (CM _ _)] at hv
     have e2:M12.ff (((i+1:Nat):Int)-1) j*((i:Int)+1-((j:Int)+1))=M12.ff (((i+1:Nat):Int)-1) (j+1):=by
      rw[M12.ff]
      congr 1
      rfl'
     have m1:=xA (i:=M12.ff (((i+1:Nat):Int)-1) j) (j:=M12.G l k (i-j)) (.inr ⟨zM6 q1 q2,zP1 q3⟩)
     have m2:=xA (i:=M12.ff (((i+1:Nat):Int)-1) j) (j:=(i:Int)+1-((j:Int)+1)) (mulT hj1 ii)
     by_cases hl:l<=(j:Int)+1
     ·refine⟨_,_,rfl,?_,some (.int ((j:Int)+1)),rfl⟩
      simp![Ag hl,hv,m1,m2,e2]
      rw[M12.tot,Ac hl,hlen,AS,M12.yL l k i (i-j) (CM _ _)]
     ·refine⟨_,_,rfl,?_,some (.int ((j:Int)+1)),rfl⟩
      simp![Ad hl,m2,e2]
      rw[M12.tot,Ah hl])
   rw[Aa,Aq] at e
   exact⟨y,e⟩
  obtain⟨y,inner⟩:=inner
  refine⟨_,_,rfl,?_,some (.int ((i:Int)+1)),some (.int (M12.tot l (M12.mbl l k i) (min k ((i:Int)+1)).toNat)),some (.int (M12.ff (((i+1:Nat):Int)-1) (min k ((i:Int)+1)).toNat)),y,rfl⟩
  simp![min2D,hm,aG (m:=min k ((i:Int)+1)) (by rfl') (by rfl'),inner,gC (l:=(M12.mbl l k i).map PyData.int) (by rw[Aa];rfl')]
  simp only[M12.mbl,lI,AK,AI,Cj]
 ·rintro ρ ⟨c,t,w,x,rfl⟩
  rw[Aa,Aq]
  simp -implicitDefEqProofs only[(evA)]
theorem yK9{n:Nat}{k:Int}(hn:n<=60)(hk:0<=k):bN [.int n,.int k]=.ok (.int (M12.G 1 k n)):=by
 show (bM [some (.int n),some (.int k)]).bind (fin false)=_
 unfold bM
 have g1:=M12.xZ 1 k n
 have hv:=uR (xs:=M12.mbl 1 k n) (i:=(n:Int)) (j:=n) rfl (by rfl')
 rw[M12.yL 1 k n n (Ab _)] at hv
 simp![uZ hn hk,vL 1 hn hk,hv]
theorem yK4{n m:Nat}(hn:n<=60):M12.bin n m<2 ^ 61:=by
 have h:=M12.yI9 n m
 have h2:(2:Int) ^ n<=2 ^ 60:=by exact_mod_cast Cb (by decide:0<2) hn
 have h3:(2:Int) ^ 60<2 ^ 61:=by decide
 rfl'
theorem yB5{n m:Nat}{j:Int}(hn:n<=60):MulOk (M12.bin n m) j:=by
 have h:=yK4 (m:=m) hn
 have h0:=M12.jD n m
 have h1:(2:Int) ^ 61<2 ^ 64:=by decide
 exact MulOk.left (by rfl') (by rfl')
theorem zI3{n m i:Nat}{l k:Int}(hn:n<=60)(hi:i<=60):Small (M12.bin n m*M12.G l k i):=by
 refine⟨61+24001,by decide,?_⟩
 have h:=yK4 (m:=m) hn
 have h0:=M12.jD n m
 have a:(M12.bin n m).natAbs<2 ^ 61:=by
  have:((M12.bin n m).natAbs:Int)<((2 ^ 61:Nat):Int):=by
   rw[Int.natAbs_of_nonneg h0]
   exact_mod_cast h
  exact_mod_cast this
 rw[Dx,Da]
 exact Nat.mul_lt_mul'' a (M12.zJ6 l k i hi)
def Tl(n:Nat)(k:Int)(i:Nat):List Int:=M12.tells (M12.mbl 1 k n) (M12.mbl (k+1) n n) n i
theorem zF8{n:Nat}{k:Int}(hn:n<=60)(hk:0<=k):kE [.int n,.int k]=.ok (lI (Tl n k (n+1))):=by
 show (gW [some (.int n),some (.int k),none,none,none,none,none]).bind (fin true)=_
 unfold gW
 have g1:=M12.xZ 1 k n
 have g2:=M12.xZ (k+1) n n
 simp![uZ hn hk,vL 1 hn hk,vL (k+1) (k:=(n:Int)) hn (by rfl'),xS4 (n:=n) (by rfl')]
 refine vU (fun i ρ=>∃x,ρ=[some (.int n),some (.int k),some (lI (M12.mbl 1 k n)),some (lI (M12.mbl (k+1) n n)),some (lI (Tl n k i)),some (.int (M12.bin n i)),x]) ⟨none,by rw[M12.jN];rfl⟩ ?_ ?_
 ·rintro i d ρ hd ⟨x,rfl⟩
  obtain⟨hi,rfl⟩:=vK hd
  have hv1:=uR (xs:=M12.mbl 1 k n) (i:=(i:Int)) (j:=i) rfl (by rfl')
  have hv2:=uR (xs:=M12.mbl (k+1) n n) (i:=(n:Int)-(i:Int)) (j:=n-i) (by rfl') (by rfl')
  have r1:=M12.yL 1 k n i (by rfl')
  have r2:=M12.yL (k+1) n n (n-i) (by rfl')
  rw[r1] at hv1
  rw[r2] at hv2
  have m1:=xA (i:=M12.bin n i) (j:=M12.G 1 k i) (yB5 hn)
  have m2:=xA (i:=M12.bin n i*M12.G 1 k i) (j:=M12.G (k+1) n (n-i)) (.inr ⟨zI3 hn (by rfl'),zP1 (by rfl')⟩)
  have m3:=xA (i:=M12.bin n i) (j:=(n:Int)-(i:Int)) (yB5 hn)
  have lt:(Tl n k i).length=i:=M12.wR _ _ _ _
  refine⟨_,_,rfl,?_,some (.int (i:Int)),rfl⟩
  simp![hv1,hv2,m1,m2,m3,fdivO,Ac (show DivOk ((i:Int)+1) from DivOk.small (by rfl') (by rfl')),M12.xI7,gC (l:=(Tl n k i).map PyData.int) (by rw[Aa];rfl')]
  simp only[Tl,M12.tells,lI,AK,AI,Cj,r1,r2]
 ·rintro ρ ⟨x,rfl⟩
  rw[Aa,Aq]
  simp -implicitDefEqProofs only[(evA)]
theorem xE2{l:List Int}{j:Nat}(h:j<l.length):(l.map PyData.int).getD j PyData.none=PyData.int (l.getD j 0):=by
 rw[Ak,Ak,Al,Ae h]
 rfl
theorem wX7{ys:List Int}:sortI ys=rg ys.length↔ys.Perm (rg ys.length):=by
 constructor
 ·intro h
  rw[<-h]
  exact (xM ys).symm
 ·intro h
  exact yG6 ((xM ys).trans h) (cO ys) (wC1 _)
theorem xJ8{ns:List Int}(h:ns.length<=63):sortD [tI ns]=some (lI (sortI ns)):=by
 unfold sortD
 simp only[nsD,seqD,AR,intsOf_map]
 rw[Ac (by rfl')]
theorem yH9{d:D}{ys:List Int}(hd:d=lI ys\/d=tI ys):aI [d]=.ok (.bool (decide (1<=ys.length/\ys.length<=60/\ys.Perm (rg ys.length)))):=by
 show (zX3 [some d]).bind (fin false)=_
 unfold zX3
 have ln:lenD [d]=some (.int (ys.length:Int)):=by
  rcases hd with rfl | rfl
  ·rw[yZ1];simp only[xM9,Bu,Aa]
  ·rw[yZ1];simp only[xP3,Bu,Aa]
 by_cases h1:1<=ys.length
 ·by_cases h2:ys.length<=60
  ·have sr:sortD [d]=some (lI (sortI ys)):=by
    rcases hd with rfl | rfl
    ·exact xE7 (by rfl')
    ·exact xJ8 (by rfl')
   have d1:decide ((1:Int)<=(ys.length:Int))=true:=Ag (by rfl')
   have d2:decide ((ys.length:Int)<=60)=true:=Ag (by rfl')
   have rl:=zE5 (n:=ys.length) (by rfl')
   rw[show ((List.range ys.length).map fun (i:Nat)=>(i:Int))=rg ys.length from rfl] at rl
   simp -implicitDefEqProofs only[yS6,zG2,yQ8,yR1,yS7,yR3,yQ4,yR9,eV0,yQ2,yQ7,zJ9,yR4,zG7,Res.bind_ok,Res.lft_some,ln,d1,d2,sr,rl,wG4,if_true]
   congr 2
   rw[Cg,decide_eq_true_iff,decide_eq_true_iff,wX7]
   exact⟨fun z=>⟨h1,h2,z⟩,fun z=>z.2.2⟩
  ·have d1:decide ((1:Int)<=(ys.length:Int))=true:=Ag (by rfl')
   have d2:decide ((ys.length:Int)<=60)=false:=Ad (by rfl')
   simp -implicitDefEqProofs only[yS6,zG2,yQ8,yR1,yS7,yR3,yQ4,yR9,eV0,yQ2,yQ7,zJ9,yR4,zG7,Res.bind_ok,Res.lft_some,ln,d1,d2,if_true,Cu,if_false]
   congr 2
   symm
   exact Ad fun z=>h2 z.2.1
 ·have d1:decide ((1:Int)<=(ys.length:Int))=false:=Ad (by rfl')
  simp -implicitDefEqProofs only[yS6,zG2,yQ8,yR1,yS7,yR3,yQ4,yR9,eV0,yQ2,yQ7,zJ9,yR4,zG7,Res.bind_ok,Res.lft_some,ln,d1,Cu,if_false]
  congr 2
  symm
  exact Ad fun z=>h1 z.1
theorem wZ4{xs:List Int}{a:Nat}(h:a<xs.length)(v:Int):setD (xs.map PyData.int) (.int (a:Int)) (.int v)=some ((xs.set a v).map PyData.int):=by
 unfold setD
 simp only
 rw[Aa,xZ4 h,Bu,List.map_set]
theorem kH{m j:Nat}(hm:m<60)(hj:j<=m):vQ [.int ((m+1:Nat):Int),.int ((j+1:Nat):Int)]=.ok (.int ((nf m j:Nat):Int)):=by
 show (qZ [some (.int ((m+1:Nat):Int)),some (.int ((j+1:Nat):Int)),none,none]).bind (fin false)=_
 unfold qZ
 have rg:=zZ4 (a:=1) (b:=j+1) (by rfl') (by rfl')
 rw[show ((1:Nat):Int)=1 from rfl,AU] at rg
 simp![rg]
 refine vU (fun i ρ=>∃a,ρ=[some (.int ((m+1:Nat):Int)),some (.int ((j+1:Nat):Int)),some (.int ((nf m i:Nat):Int)),a]) ⟨none,rfl⟩ ?_ ?_
 ·rintro i d ρ hd ⟨a,rfl⟩
  obtain⟨hi,rfl⟩:=vK hd
  have m1:=xA (i:=((nf m i:Nat):Int)) (j:=((m+1:Nat):Int)-((1+i:Nat):Int)) (MulOk.right (by rfl') (by rfl'))
  have e:((nf m i:Nat):Int)*(((m+1:Nat):Int)-((1+i:Nat):Int))=((nf m (i+1):Nat):Int):=by
   rw[yC6 i m (by rfl'),CP,show ((m+1:Nat):Int)-((1+i:Nat):Int)=((m-i:Nat):Int) by rfl']
  refine⟨_,_,rfl,?_,some (.int ((1+i:Nat):Int)),rfl⟩
  simp![m1,e]
 ·rintro ρ ⟨a,rfl⟩
  rw[Aa,Aq]
  simp -implicitDefEqProofs only[(evA)]
theorem xG9{m j:Nat}(hm:m<60)(hj:j<=m):Small ((nf m j:Nat):Int):=by
 rw[<-zG6,show (m:Int)=((m+1:Nat):Int)-1 by rfl']
 exact zM6 (by rfl') (by rfl')
theorem qH{n k m j:Nat}(hn:n<=60)(hm:m<n)(hj:j<=m):yH [lI (M12.mbl 1 (k:Int) n),.int ((m+1:Nat):Int),.int ((j+1:Nat):Int)]=.ok (.int ((nf m j*gn k (m-j):Nat):Int)):=by
 show (vH [some (lI (M12.mbl 1 (k:Int) n)),some (.int ((m+1:Nat):Int)),some (.int ((j+1:Nat):Int))]).bind (fin false)=_
 unfold vH
 have lm:=M12.xZ 1 (k:Int) n
 have at1:=uR (xs:=M12.mbl 1 (k:Int) n) (i:=((m+1:Nat):Int)-((j+1:Nat):Int)) (j:=m-j) (by rfl') (by rfl')
 rw[M12.yL 1 (k:Int) n (m-j) (by rfl'),jB] at at1
 have m1:=xA (i:=((nf m j:Nat):Int)) (j:=((gn k (m-j):Nat):Int)) (.inr ⟨xG9 (by rfl') hj,by rw[<-jB];exact zP1 (by rfl')⟩)
 simp![kH (show m<60 by rfl') hj,at1,m1]
 rw[CP]
theorem yL3:∀(j m:Nat),m<=60->nf m j<=2 ^ (6*j)
 | 0,_,_=>by simp[nf]
 | j+1,m,h=>by
  have:=yL3 j (m-1) (by rfl')
  rw[nf,show 6*(j+1)=6*j+6 by rfl',Da,BS]
  exact DS this (by rfl')
theorem wQ9{m j:Nat}(hm:m<=60)(hj:j<=m):DivOk ((nf m j:Nat):Int):=by
 have p:=zJ8 j m hj
 refine⟨by rfl',?_⟩
 rw[Dl]
 refine Bz ((Do (n:=nf m j) (k:=361) (by rfl')).mpr ?_) (by decide)
 exact AT (yL3 j m hm) (CA (by decide) (by rfl'))
theorem zE4(l:List Nat)(q:Nat):(rI' l).getD q 0=((l.getD q 0:Nat):Int):=by
 unfold rI'
 rw[Ak,Ak,Al]
 cases l[q]? <;> rfl
theorem wC4(l:List Nat)(q:Nat):(rI' l).eraseIdx q=rI' (l.eraseIdx q):=zS5 _ l q
theorem lenDiv{m:Nat}(h:0<m)(h':m<=60):DivOk (m:Int):=DivOk.small (DM.mpr h) (by rfl')
theorem small63{q m:Nat}(h:q<m)(h':m<=60):(q:Int)<2 ^ 63:=by rfl'
theorem xE4{i j t m j':Nat}(hi:i<j)(hj:j<=t)(ht:t<60)(hl:m=t-i)(e:j-i=j'+1):0<m/\m<=60/\j'<=m-1/\i+1<=1000/\j-(i+1)=j'/\t-(i+1)=m-1:=by rfl'
theorem xU3{a j p:Nat}{t:List Nat}(ht:t.length<60)(hj:j<=t.length)(hp:p<nf t.length j):bY [lI (rI' (a::t)),.int ((j+1:Nat):Int),.int (p:Int)]=.ok (tI (rI' (a::pk j t p))):=by
 show (zU5 [some (lI (rI' (a::t))),some (.int ((j+1:Nat):Int)),some (.int (p:Int)),none,none,none,none]).bind (fin false)=_
 unfold zU5
 have at0:atI ((rI' (a::t)).map PyData.int) 0=some (.int (a:Int)):=aM _ _
 have len0:((rI' (a::t)).map PyData.int).length=t.length+1:=by rw[Aa,yD];rfl
 have cut:cutD ((rI' (a::t)).map PyData.int) (some 1) none=(rI' t).map PyData.int:=by
  rw[xK5,show (1:Int)=((1:Nat):Int) from rfl,yN5]
  rfl
 have mf:=kH (m:=t.length) (j:=j) (by rfl') hj
 simp![at0,len0,cut,mf]
 refine wI3 (fun i ρ=>∃(ys l:List Nat) (r:Nat),ys.length=i+1/\l.length=t.length-i/\r<nf (t.length-i) (j-i)/\ys++pk (j-i) l r=a::pk j t p/\ρ=[some (lI (rI' (a::t))),some (.int ((j+1:Nat):Int)),some (.int (p:Int)),some (lI (rI' ys)),some (lI (rI' l)),some (.int ((nf (t.length-i) (j-i):Nat):Int)),some (.int (r:Int))]) j (by rfl')
  ⟨[a],t,p,rfl,rfl,hp,rfl,rfl⟩ ?_ ?_ ?_
 ·rintro i ρ hi ⟨ys,l,r,hy,hl,hr,hu,rfl⟩
  obtain⟨j',hj'⟩:∃j',j-i=j'+1:=⟨j-i-1,(Nat.sub_add_cancel (Nat.sub_pos_of_lt hi)).symm⟩
  obtain⟨lp,l60,jl,i10,hj2,hl2⟩:=xE4 hi hj ht hl hj'
  rw[<-hl,hj'] at hr
  rw[hj'] at hu
  rw[hj',<-hl]
  have hq:=xT8 hr
  have pp:=zJ8 j' (l.length-1) jl
  have ly:((rI' ys).map PyData.int).length=i+1:=by rw[Aa,yD,hy]
  have ll:((rI' l).map PyData.int).length=l.length:=by rw[Aa,yD]
  have dv:fdivO ((nf l.length (j'+1):Nat):Int) ((l.length:Nat):Int)=some ((nf (l.length-1) j':Nat):Int):=by
   unfold fdivO
   rw[Ac (lenDiv lp l60),nf,CP,Int.mul_ediv_cancel_left _ (Int.natCast_ne_zero.mpr (Ds lp))]
  have dr:fdivO (r:Int) ((nf (l.length-1) j':Nat):Int)=some ((r / nf (l.length-1) j':Nat):Int):=by
   unfold fdivO
   rw[Ac (wQ9 (AH (CM _ _) l60) jl)]
   rfl
  have mr:modO (r:Int) ((nf (l.length-1) j':Nat):Int)=some ((r%nf (l.length-1) j':Nat):Int):=by
   unfold modO
   rw[Ac (DM.mpr pp)]
   rfl
  have pv:popV ((rI' l).map PyData.int) (.int ((r / nf (l.length-1) j':Nat):Int))=some (.int ((l.getD (r / nf (l.length-1) j') 0:Nat):Int),(rI' (l.eraseIdx (r / nf (l.length-1) j'))).map PyData.int):=by
   unfold popV
   simp only
   have b1:((r / nf (l.length-1) j':Nat):Int)<((l.length:Nat):Int):=by exact_mod_cast hq
   rw[Ac ⟨Int.natCast_nonneg _,by rw[ll];exact b1,small63 hq l60⟩,AW,xE2 (by rw[yD];exact hq),zE4,zS5,wC4]
  have ap:appD ((rI' ys).map PyData.int) [.int ((l.getD (r / nf (l.length-1) j') 0:Nat):Int)]=some ((rI' (ys ++ [l.getD (r / nf (l.length-1) j') 0])).map PyData.int):=by
   rw[gC (by rw[ly];exact i10),xS1,AK]
   rfl
  refine⟨?_,?_⟩
  ·simp![ly,Ag (show ((i+1:Nat):Int)<((j+1:Nat):Int) from Int.ofNat_lt.mpr (Nat.succ_lt_succ hi))]
  ·refine⟨_,?_,ys ++ [l.getD (r / nf (l.length-1) j') 0],l.eraseIdx (r / nf (l.length-1) j'),r%nf (l.length-1) j',?_,?_,?_,?_,rfl⟩
   ·simp![wN7,ll,dv,dr,pv,ap,mr,hj2,hl2]
   ·rw[An,hy];rfl
   ·rw[List.length_eraseIdx_of_lt hq];exact hl2.symm
   ·rw[hj2,hl2];exact Bp _ pp
   ·rw[hj2,Bh];exact hu
 ·rintro ρ ⟨ys,l,r,hy,hl,hr,hu,rfl⟩
  have ly:((rI' ys).map PyData.int).length=j+1:=by rw[Aa,yD,hy]
  simp![ly,Ad (show ¬((j+1:Nat):Int)<((j+1:Nat):Int) from Int.lt_irrefl _)]
 ·rintro ρ ⟨ys,l,r,hy,hl,hr,hu,rfl⟩
  rw[Nat.sub_self,pk,BC] at hu
  rw[<-hu]
  simp -implicitDefEqProofs only[(evA)]
theorem pw_flat{rs:List (List Nat)}(h:rs.flatten.Nodup){i j:Nat}{r r':List Nat}(hi:rs[i]?=some r)(hj:rs[j]?=some r')(hij:i<j):∀x∈r,x∉r':=by
 obtain⟨li,ei⟩:=Au.mp hi
 obtain⟨lj,ej⟩:=Au.mp hj
 have:=BI.mp (List.pairwise_flatten.mp h).2 i j li lj hij
 rw[ei,ej] at this
 exact fun x hx hx'=>this x hx x hx' rfl
theorem xJ7{r:List Nat}(h:r.Nodup){i j:Nat}(hi:i<r.length)(hj:j<r.length)(e:r.getD i 0=r.getD j 0):i=j:=by
 rw[List.getD,List.getD,Ae hi,Ae hj] at e
 exact (List.getElem_inj h).mp e
theorem xW{ys:List Int}{a b:Nat}{v:Int}(h:a<ys.length):(ys.set a v).getD b 0=if a=b then v else ys.getD b 0:=by
 rw[Ak,List.getElem?_set]
 by_cases e:a=b
 ·subst e
  rw[Ac rfl,Ac rfl,Ac h]
  rfl
 ·rw[Ah e,Ah e,Ak]
def kx(l p:Nat):Nat:=if p=0 then l-1 else p-1
theorem xU1{l p:Nat}(h:p<l):kx l p<l:=by unfold kx;split <;> rfl'
theorem wL7{l p q:Nat}(h:p<l)(h':q<l)(e:kx l p=kx l q):p=q:=by
 unfold kx at e
 split at e <;> split at e <;> rfl'
theorem wW9{l j:Nat}(h:j<l):kx l ((j+1)%l)=j:=by
 unfold kx
 by_cases e:j+1=l
 ·rw[e,Nat.mod_self,Ac rfl]
  rfl'
 ·rw[Cr (by rfl'),Ah (by rfl')]
  rfl'
theorem zN3{n:Nat}{rs:List (List Nat)}(c:Can rs)(p:rs.flatten.Perm (List.range n))(h1:1<=n)(h2:n<=60):∃xs,Ord n xs/\rgs n xs n=rs/\dX [rows (rs.map rI')]=.ok (tI xs):=by
 have nd:rs.flatten.Nodup:=p.nodup_iff.mpr Cq
 have lf:rs.flatten.length=n:=by rw[p.length_eq,Aq]
 have pos:∀r∈rs,0<r.length:=fun r hr=>by
  obtain⟨a,ys,rfl,_⟩:=c.1 r hr
  simp
 have rl:∀r∈rs,r.length<=n:=fun r hr=>by
  have:=(Cm hr).length_le
  rfl'
 have rn:∀r∈rs,∀x∈r,x<n:=fun r hr x hx=>AB.mp (p.mem_iff.mp (BQ.mpr ⟨r,hr,hx⟩))
 have ll:rs.length<=n:=by
  have:∀L:List (List Nat),(∀r∈L,0<r.length)->L.length<=L.flatten.length:=fun L=>by
   induction L with
   | nil=>exact fun _=>Ab _
   | cons r L ih =>
    intro h
    have a:=h r (Af ..)
    have b:=ih fun r hr=>h r (Aj _ hr)
    rw[Ax,Bx,An]
    rfl'
  have:=this rs pos
  rfl'
 have loop:∃ρ',L3.forM (gN 2) (sF (iR rng1 (aC (eB lenD (aC (eV 2) aN)) aN)) (gN 4) (sI 3 (e2 ixD (eV 2) (e2 subI (eV 4) (eC (.int 1)))) (e2 ixD (eV 2) (eV 4)))) ((rs.map rI').map tI) [some (rows (rs.map rI')),some (lI (rI' rs.flatten)),some (tI (rI' (rs.getLast?.getD []))),some (lI (List.replicate n 0)),none]=.ok (.nx ρ') /\
   ∃(ys:List Int) (x y:Option D),ys.length=n/\(∀r∈rs,∀q,q<r.length->ys.getD (r.getD (kx r.length q) 0) 0=((r.getD q 0:Nat):Int))/\ρ'=[some (rows (rs.map rI')),some (lI (rI' rs.flatten)),x,some (lI ys),y]:=by
  obtain⟨ρ',e,ys,x,y,hl,hy,rfl⟩:=uM (g:=gN 2) (b:=sF (iR rng1 (aC (eB lenD (aC (eV 2) aN)) aN)) (gN 4) (sI 3 (e2 ixD (eV 2) (e2 subI (eV 4) (eC (.int 1)))) (e2 ixD (eV 2) (eV 4))))
   (fun i ρ=>∃(ys:List Int) (x y:Option D),ys.length=n/\(∀i',i'<i->∀r,rs[i']?=some r->∀q,q<r.length->ys.getD (r.getD (kx r.length q) 0) 0=((r.getD q 0:Nat):Int))/\ρ=[some (rows (rs.map rI')),some (lI (rI' rs.flatten)),x,some (lI ys),y])
   ((rs.map rI').map tI) [some (rows (rs.map rI')),some (lI (rI' rs.flatten)),some (tI (rI' (rs.getLast?.getD []))),some (lI (List.replicate n 0)),none] ⟨List.replicate n 0,_,_,BL,fun i' h=>absurd h (by rfl'),rfl⟩ (by
    rintro i d ρ hd ⟨ys,x,y,hl,hy,rfl⟩
    rw[Av,Al] at hd
    obtain⟨r,hr,rfl⟩:=Az.mp hd
    have mr:r∈rs:=Bq hr
    have r0:=pos r mr
    have r1:=rl r mr
    have nr:r.Nodup:=nd.sublist (Cm mr)
    have lr:((rI' r).map PyData.int).length=r.length:=by rw[Aa,yD]
    have at':∀q,q<r.length->atI ((rI' r).map PyData.int) (q:Int)=some (.int ((r.getD q 0:Nat):Int)):=fun q hq=>by
     rw[uR rfl (by rw[yD];exact hq),zE4]
    have at1:∀q,q<r.length->atI ((rI' r).map PyData.int) ((q:Int)-1)=some (.int ((r.getD (kx r.length q) 0:Nat):Int)):=fun q hq=>by
     unfold kx
     by_cases z:q=0
     ·subst z
      rw[Ac rfl,show (((0:Nat):Int)-1)=-1 by rfl',yG5 (n:=r.length-1) (by rw[yD];rfl'),zE4]
     ·rw[Ah z,show ((q:Int)-1)=((q-1:Nat):Int) by rfl',uR rfl (by rw[yD];rfl'),zE4]
    obtain⟨ρ2,e2,zs,y2,hl2,hz,hz2,rfl⟩:=uM (g:=gN 4) (b:=sI 3 (e2 ixD (eV 2) (e2 subI (eV 4) (eC (.int 1)))) (e2 ixD (eV 2) (eV 4)))
     (fun q ρ=>∃(zs:List Int) (y:Option D),zs.length=n/\(∀i',i'<i->∀r,rs[i']?=some r->∀q,q<r.length->zs.getD (r.getD (kx r.length q) 0) 0=((r.getD q 0:Nat):Int))/\(∀q',q'<q->q'<r.length->zs.getD (r.getD (kx r.length q') 0) 0=((r.getD q' 0:Nat):Int))/\ρ=[some (rows (rs.map rI')),some (lI (rI' rs.flatten)),some (tI (rI' r)),some (lI zs),y])
     ((List.range r.length).map fun (i:Nat)=>PyData.int (i:Int)) [some (rows (rs.map rI')),some (lI (rI' rs.flatten)),some (tI (rI' r)),some (lI ys),y] ⟨ys,y,hl,hy,fun q' h=>absurd h (by rfl'),rfl⟩ (by
      rintro q d ρ hd ⟨zs,y,hl,hz,hz2,rfl⟩
      obtain⟨hq,rfl⟩:=dH hd
      have kq:=xU1 hq
      have mk:=zY3 kq
      have sd:=wZ4 (xs:=zs) (a:=r.getD (kx r.length q) 0) (by rw[hl];exact rn r mr _ mk) ((r.getD q 0:Nat):Int)
      refine⟨_,_,rfl,?_,zs.set (r.getD (kx r.length q) 0) ((r.getD q 0:Nat):Int),some (.int (q:Int)),by rw[Cy,hl],?_,?_,rfl⟩
      ·simp![at' q hq,at1 q hq,sd]
      ·intro i' hi' r' hr' q' hq'
       have ne:¬r.getD (kx r.length q) 0=r'.getD (kx r'.length q') 0:=fun z=>pw_flat nd hr' hr hi' _ (zY3 (xU1 hq')) (by rw[<-z];exact mk)
       rw[xW (by rw[hl];exact rn r mr _ mk),Ah ne]
       exact hz i' hi' r' hr' q' hq'
      ·intro q' h1 h2
       rw[xW (by rw[hl];exact rn r mr _ mk)]
       by_cases z:q'=q
       ·subst z
        rw[Ac rfl]
       ·have ne:¬r.getD (kx r.length q) 0=r.getD (kx r.length q') 0:=fun w=>z (wL7 hq h2 (xJ7 nr kq (xU1 h2) w)).symm
        rw[Ah ne]
        exact hz2 q' (by rfl') h2)
    refine⟨_,_,rfl,?_,zs,some (tI (rI' r)),y2,hl2,?_,rfl⟩
    ·show sF _ _ _ [some (rows (rs.map rI')),some (lI (rI' rs.flatten)),some (tI (rI' r)),some (lI ys),y]=_
     simp![lr,uK (show r.length<=1000 by rfl')]
     exact e2
    ·rw[Aa,Aq] at hz2
     intro i' hi' r' hr' q' hq'
     by_cases z:i'=i
     ·subst z
      rw[hr] at hr'
      cases hr'
      exact hz2 q' hq' hq'
     ·exact hz i' (by rfl') r' hr' q' hq')
  refine⟨_,e,ys,x,y,hl,fun r hr q hq => ?_,rfl⟩
  obtain⟨i,hi,er⟩:=Db.mp hr
  exact hy i (by rw[Aa,Aa];exact hi) r (by rw[Ae hi,er]) q hq
 obtain⟨ρ',e,ys,x,y,hl,hy,rfl⟩:=loop
 obtain⟨o,er⟩:=wY9 (xs:=ys) c p hl fun r hr j hj=>by
  have:=hy r hr ((j+1)%r.length) (Bp _ (by rfl'))
  rw[wW9 hj] at this
  exact this
 refine⟨ys,o,er,?_⟩
 show (zZ6 [some (rows (rs.map rI')),none,none,none,none]).bind (fin false)=_
 unfold zZ6
 simp -implicitDefEqProofs only[(evA)]
 refine vU (fun i ρ=>ρ=[some (rows (rs.map rI')),some (lI (rI' (rs.take i).flatten)),(if i=0 then none else some (tI (rI' ((rs.take i).getLast?.getD [])))),none,none]) rfl ?_ ?_
 ·rintro i d ρ hd rfl
  rw[Av,Al] at hd
  obtain⟨r,hr,rfl⟩:=Az.mp hd
  have mr:r∈rs:=Bq hr
  have r0:=pos r mr
  have tk:rs.take (i+1)=rs.take i ++ [r]:=by rw[List.take_succ,hr];rfl
  have lr:((rI' r).map PyData.int).length=r.length:=by rw[Aa,yD]
  have lt:(rs.take i).flatten.length+r.length<=n:=by
   have a:(rs.take (i+1)).flatten.length<=rs.flatten.length:=by
    conv=>rhs;rw[<-List.take_append_drop (i+1) rs]
    rw[Ci,An]
    rfl'
   rw[tk,Ci,An,show [r].flatten=r by simp] at a
   rfl'
  have ex:=wN8 (l:=(rI' (rs.take i).flatten).map PyData.int) (k:=(rI' r).map PyData.int) (d:=tI (rI' r)) rfl (by rw[Aa,Aa,yD,yD];rfl')
  refine⟨_,_,rfl,?_,rfl⟩
  show (sQ _ _) [some (rows (rs.map rI')),some (lI (rI' (rs.take i).flatten)),some (tI (rI' r)),none,none]=_
  simp![lr,xB,Ad (show ¬((r.length:Nat):Int)=0 by rfl'),ex]
  rw[Ah (by rfl'),tk,Ci,List.getLast?_append,show [r].flatten=r by simp,xS1,lI,AK]
  rfl
 ·rintro ρ rfl
  rw[Aa,Aa,CH]
  have io:=yH9 (d:=lI (rI' rs.flatten)) (ys:=rI' rs.flatten) (.inl rfl)
  have pr:(rI' rs.flatten).Perm (rg n):=p.map _
  rw[Ag ⟨by rw[yD,lf];exact h1,by rw[yD,lf];exact h2,by rw[yD,lf];exact pr⟩] at io
  have r0:¬rs.length=0:=fun z=>by
   rw[CI z] at lf
   simp at lf
   rfl'
  rw[Ah r0]
  have lb:((rI' rs.flatten).map PyData.int).length=n:=by rw[Aa,yD,lf]
  have rp:repL (.list [.int 0]) (.int ((n:Nat):Int))=some (lI (List.replicate n 0)):=by
   rw[aJ _ _ (by rfl'),lI,BZ]
  simp![io,show lfT false (PyData.bool true)=true by decide,lb,rp]
  rw[e]
  simp -implicitDefEqProofs only[(evA)]
theorem wH7{k m:Nat}(hm:m<=60)(h:0<gn k m):DivOk ((gn k m:Nat):Int):=by
 refine⟨by rfl',?_⟩
 rw[Dl]
 refine Bz ((Do (n:=gn k m) (k:=361) (by rfl')).mpr ?_) (by decide)
 exact AT (AH (xB2 k m) (yL3 m m hm)) (CA (by decide) (by rfl'))
theorem wH4(r:List Nat)(b:Nat):(rI' r).contains (b:Int)=r.contains b:=by
 unfold rI'
 induction r with
 | nil=>rfl
 | cons a r ih =>
  rw[AI,Dk,Dk,ih]
  congr 1
  rw[Cg]
  simp
  rfl'
def gaT:Ev->Res Bool:=b2 geI (eV 6) (eF yH (aC (eV 3) (aC (eB lenD (aC (eV 5) aN)) (aC (eV 7) aN))))
def gaI:Ev->Res Out:=sQ (sS 6 (e2 subI (eV 6) (eF yH (aC (eV 3) (aC (eB lenD (aC (eV 5) aN)) (aC (eV 7) aN)))))) (sS 7 (e2 addI (eV 7) (eC (.int 1))))
def gaB:Ev->Res Out:=(sQ (sS 7 (eC (.int 1))) (sQ (sW 1000000 gaT gaI) (sQ (sS 8 (e2 ixD (eV 3) (e2 subI (eB lenD (aC (eV 5) aN)) (eV 7)))) (sQ (sS 9 (eF bY (aC (eV 5) (aC (eV 7) (aC (e2 fdivI (eV 6) (eV 8)) aN))))) (sQ (sM 4 appD (aC (eV 9) aN)) (sQ (sS 5 (eComp (iS (eV 5)) (b2 (inD true) (eV 0) (eV 1)) (eV 0) [9])) (sS 6 (e2 modI (eV 6) (eV 8)))))))))
theorem xH2{n k N m j:Nat}{t:List Nat}{a:Nat}{u0 u1 u2 u4 u8 u9:Option D}(hn:n<=60)(ht:t.length<n)(hj:j<=t.length)(h1:smN (gn k) (t.length+1) j<=N)(h2:N-smN (gn k) (t.length+1) j<nf t.length j*gn k (t.length-j)) :
  whM gaT gaI 1000000 [u0,u1,u2,some (lI (M12.mbl 1 (k:Int) n)),u4,some (lI (rI' (a::t))),some (.int (N:Int)),some (.int 1),u8,u9]=.ok (.nx [u0,u1,u2,some (lI (M12.mbl 1 (k:Int) n)),u4,some (lI (rI' (a::t))),some (.int ((N-smN (gn k) (t.length+1) j:Nat):Int)),some (.int ((j+1:Nat):Int)),u8,u9]):=by
 have len0:((rI' (a::t)).map PyData.int).length=t.length+1:=by rw[Aa,yD];rfl
 obtain⟨ρ',e,rfl⟩:=yJ6 (t:=gaT) (b:=gaI) (fun i ρ=>ρ=[u0,u1,u2,some (lI (M12.mbl 1 (k:Int) n)),u4,some (lI (rI' (a::t))),some (.int ((N-smN (gn k) (t.length+1) i:Nat):Int)),some (.int ((i+1:Nat):Int)),u8,u9]) j 1000000
  [u0,u1,u2,some (lI (M12.mbl 1 (k:Int) n)),u4,some (lI (rI' (a::t))),some (.int (N:Int)),some (.int 1),u8,u9] rfl (by
   rintro i ρ hi rfl
   have mw:=qH (k:=k) (j:=i) hn ht (by rfl')
   have mo:=jO (gn k) (t.length+1) (i:=i+1) (j:=j) (by rfl')
   have e1:smN (gn k) (t.length+1) (i+1)=smN (gn k) (t.length+1) i+nf t.length i*gn k (t.length-i):=by rw[smN,AU,AS]
   unfold gaT gaI
   refine⟨?_,_,?_,rfl⟩
   ·simp![len0,mw,Ag (show ((nf t.length i*gn k (t.length-i):Nat):Int)<=((N-smN (gn k) (t.length+1) i:Nat):Int) by rfl')]
   ·simp![len0,mw]
    rw[show ((N-smN (gn k) (t.length+1) i:Nat):Int)-((nf t.length i*gn k (t.length-i):Nat):Int)=((N-smN (gn k) (t.length+1) (i+1):Nat):Int) by rfl']
    rfl) (by
   rintro ρ rfl
   have mw:=qH (k:=k) (j:=j) hn ht (by rfl')
   unfold gaT
   simp![len0,mw,Ad (show ¬((nf t.length j*gn k (t.length-j):Nat):Int)<=((N-smN (gn k) (t.length+1) j:Nat):Int) by rfl')]) (by rfl')
 exact e
theorem castS{a b:Nat}(h:b<=a):((a+1:Nat):Int)-((b+1:Nat):Int)=((a-b:Nat):Int):=by rfl'
theorem yF9{n k:Nat}{u0 u1 u2:Option D}(hn:n<=60):∀(m:Nat) (l:List Nat) (N:Nat) (done:List (List Nat)) (fuel:Nat) (u7 u8 u9:Option D),l.length<=m->l.length<fuel->l.Nodup->l.length<=n->N<gn k l.length->done.length+l.length<=n ->
  ∃rs v6 v7 v8 v9,Told k l N rs/\whM (b2 gtI (eB lenD (aC (eV 5) aN)) (eC (.int 0))) gaB fuel [u0,u1,u2,some (lI (M12.mbl 1 (k:Int) n)),some (rows (done.map rI')),some (lI (rI' l)),some (.int (N:Int)),u7,u8,u9]=.ok (.nx [u0,u1,u2,some (lI (M12.mbl 1 (k:Int) n)),some (rows ((done++rs).map rI')),some (lI []),v6,v7,v8,v9])
 | m,[],N,done,0,u7,u8,u9,_,h,_,_,_,_=>absurd h (by simp)
 | m,[],N,done,fuel+1,u7,u8,u9,_,_,_,_,hN,_=>by
  rw[DL,zA8] at hN
  have:N=0:=by rfl'
  subst this
  refine⟨[],some (.int 0),u7,u8,u9,.nil,?_⟩
  rw[whM]
  have t1:b2 gtI (eB lenD (aC (eV 5) aN)) (eC (.int 0)) [u0,u1,u2,some (lI (M12.mbl 1 (k:Int) n)),some (rows (done.map rI')),some (lI (rI' [])),some (.int ((0:Nat):Int)),u7,u8,u9]=.ok false:=by
   have l0:((rI' []).map PyData.int).length=0:=rfl
   simp![l0,Ad (show ¬(0:Int)<((0:Nat):Int) by rfl')]
  rw[t1,Res.bind_ok,BC]
  rfl
 | 0,a::t,N,done,fuel,u7,u8,u9,h,_,_,_,_,_=>absurd h (by simp)
 | m+1,a::t,N,done,0,u7,u8,u9,_,h,_,_,_,_=>absurd h (by simp)
 | m+1,a::t,N,done,fuel+1,u7,u8,u9,hm,hf,nd,hl,hN,hd=>by
  rw[Ax] at hm hf hl hN hd
  obtain⟨j,j1,j2,j3,j4⟩:=xN8 (a:=a) hN
  have len0:((rI' (a::t)).map PyData.int).length=t.length+1:=by rw[Aa,yD];rfl
  have ei:=xH2 (m:=m) (a:=a) (u0:=u0) (u1:=u1) (u2:=u2) (u4:=some (rows (done.map rI'))) (u8:=u8) (u9:=u9) hn hl j1 j3 j4
  generalize hR:N-smN (gn k) (t.length+1) j=R at ei j4
  have gp:0<gn k (t.length-j):=by
   rcases BY (gn k (t.length-j)) with z | z
   ·rw[z] at j4;rfl'
   ·exact z
  have pl:R / gn k (t.length-j)<nf t.length j:=Nat.div_lt_of_lt_mul (by rw[BS];exact j4)
  have tl:=(AQ.mp nd).2
  obtain⟨p1,p2,p3⟩:=xB4 j t _ tl j1 pl
  have pkl:=yM3 j t (R / gn k (t.length-j))
  have ra:=xU3 (a:=a) (t:=t) (Ar hl hn) j1 pl
  generalize hp:pk j t (R / gn k (t.length-j))=ps at p1 p2 p3 pkl ra
  obtain⟨n1,n2⟩:=kZ nd p1 p2
  have wl:(wo (a::t) (a::ps)).length=t.length-j:=by rw[zH7 nd n1 n2,Ax,Ax,pkl];rfl'
  have lm:=M12.xZ 1 (k:Int) n
  have at1:=uR (xs:=M12.mbl 1 (k:Int) n) (i:=((t.length+1:Nat):Int)-((j+1:Nat):Int)) (j:=t.length-j) (castS j1) (by rw[lm];exact Nat.lt_succ_of_le (AH (CM _ _) (BD hl)))
  rw[M12.yL 1 (k:Int) n (t.length-j) (AH (CM _ _) (BD hl)),jB] at at1
  have dr:fdivO (R:Int) ((gn k (t.length-j):Nat):Int)=some ((R / gn k (t.length-j):Nat):Int):=by
   unfold fdivO
   rw[Ac (wH7 (AH (CM _ _) (AH (BD hl) hn)) gp)]
   rfl
  have mr:modO (R:Int) ((gn k (t.length-j):Nat):Int)=some ((R%gn k (t.length-j):Nat):Int):=by
   unfold modO
   rw[Ac (DM.mpr gp)]
   rfl
  have ap:appD ((done.map rI').map tI) [tI (rI' (a::ps))]=some (((done ++ [a::ps]).map rI').map tI):=by
   rw[gC (by rw[Aa,Aa];rfl'),AK,AK]
   rfl
  have cc:∀(x4 x6:Option D),eComp (iS (eV 5)) (b2 (inD true) (eV 0) (eV 1)) (eV 0) [9] [u0,u1,u2,some (lI (M12.mbl 1 (k:Int) n)),x4,some (lI (rI' (a::t))),x6,some (.int ((j+1:Nat):Int)),some (.int ((gn k (t.length-j):Nat):Int)),some (tI (rI' (a::ps)))]=.ok (lI (rI' (wo (a::t) (a::ps)))):=fun x4 x6=>by
   rw[yM6 (fun b:Nat=>PyData.int (b:Int)) (fun b=>!(a::ps).contains b) (fun b:Nat=>PyData.int (b:Int)) (a::t) (by
    simp -implicitDefEqProofs only[(evA)]
    unfold rI'
    rw[Av]
    rfl) (AH (Nat.succ_le_of_lt (Ar hl hn)) (by decide)) (fun b hb=>by
    show b2 (inD true) (eV 0) (eV 1) [some (.int (b:Int)),some (tI (rI' (a::ps)))]=_
    simp![wB9,wH4]) (fun b hb _=>rfl)]
   unfold wo rI' lI
   rw[Av]
   rfl
  have body:gaB [u0,u1,u2,some (lI (M12.mbl 1 (k:Int) n)),some (rows (done.map rI')),some (lI (rI' (a::t))),some (.int (N:Int)),u7,u8,u9]=.ok (.nx [u0,u1,u2,some (lI (M12.mbl 1 (k:Int) n)),some (rows ((done ++ [a::ps]).map rI')),some (lI (rI' (wo (a::t) (a::ps)))),some (.int ((R%gn k (t.length-j):Nat):Int)),some (.int ((j+1:Nat):Int)),some (.int ((gn k (t.length-j):Nat):Int)),some (tI (rI' (a::ps)))]):=by
   unfold gaB
   simp![ei,len0,at1,dr,ra,ap,cc,mr]
  obtain⟨rs,v6,v7,v8,v9,T,e⟩:=yF9 hn m (wo (a::t) (a::ps)) (R%gn k (t.length-j)) (done ++ [a::ps]) fuel (some (.int ((j+1:Nat):Int))) (some (.int ((gn k (t.length-j):Nat):Int))) (some (tI (rI' (a::ps)))) (by rfl') (by rfl') (nd.sublist (kW _ _)) (by rfl') (by rw[wl];exact Bp _ gp) (by rw[An,wl];simp;rfl')
  have T':=Told.cons (k:=k) (a:=a) (t:=t) (xs:=ps) (by rw[pkl];exact j2) p1 p2 T
  have dm:=Nat.div_add_mod R (gn k (t.length-j))
  rw[pkl,p3,show smN (gn k) (t.length+1) j+R / gn k (t.length-j)*gn k (t.length-j)+R%gn k (t.length-j)=N by rw[BS (R / _)];rfl'] at T'
  refine⟨(a::ps)::rs,v6,v7,v8,v9,T',?_⟩
  have t1:b2 gtI (eB lenD (aC (eV 5) aN)) (eC (.int 0)) [u0,u1,u2,some (lI (M12.mbl 1 (k:Int) n)),some (rows (done.map rI')),some (lI (rI' (a::t))),some (.int (N:Int)),u7,u8,u9]=.ok true:=by
   simp![len0,Ag (show (0:Int)<((t.length+1:Nat):Int) from DM.mpr (Nat.succ_pos _))]
  rw[whM,t1,Res.bind_ok,Ac rfl,body,Res.bind_ok]
  simp only
  rw[e,Bh]
  rfl
theorem xY2{n k N:Nat}(h1:1<=n)(h2:n<=60)(hN:N<gn k n):∃xs,Ord n xs/\Told k (List.range n) N (rgs n xs n)/\zW5 [.int (n:Int),.int (k:Int),.int (N:Int)]=.ok (tI xs):=by
 obtain⟨rs,v6,v7,v8,v9,T,e⟩:=yF9 (n:=n) (k:=k) (u0:=some (.int (n:Int))) (u1:=some (.int (k:Int))) (u2:=some (.int (N:Int))) h2 n (List.range n) N [] 1000000 none none none (by simp) (by simp;rfl') Cq (by simp) (by simpa using hN) (by simp)
 have pw:(List.range n).Pairwise (· < ·):=Cl
 obtain⟨xs,o,er,eo⟩:=zN3 (yO4 T pw).1 (yZ5 T Cq) h1 h2
 refine⟨xs,o,by rw[er];exact T,?_⟩
 show (zU2 [some (.int (n:Int)),some (.int (k:Int)),some (.int (N:Int)),none,none,none,none,none,none,none]).bind (fin false)=_
 unfold zU2
 have rl:rangeL [.int (n:Int)]=some (lI (rI' (List.range n))):=zE5 (by rfl')
 have lm:=M12.xZ 1 (k:Int) n
 have at1:=uR (xs:=M12.mbl 1 (k:Int) n) (i:=(n:Int)) (j:=n) rfl (by rfl')
 rw[M12.yL 1 (k:Int) n n (Ab _),jB] at at1
 simp![xB,Ad (show ¬(n:Int)=0 by rfl'),uZ h2 (show 0<=(k:Int) by rfl'),vL 1 h2 (show 0<=(k:Int) by rfl'),at1,Ag (show (0:Int)<=(N:Int) by rfl'),Ag (show (N:Int)<((gn k n:Nat):Int) by rfl'),rl]
 have e':whM (b2 gtI (eB lenD (aC (eV 5) aN)) (eC (.int 0))) gaB 1000000 [some (.int (n:Int)),some (.int (k:Int)),some (.int (N:Int)),some (lI (M12.mbl 1 (k:Int) n)),some (.list []),some (lI (rI' (List.range n))),some (.int (N:Int)),none,none,none]=_:=e
 unfold gaB gaT gaI at e'
 rw[e']
 simp![Cf,eo,wL2]
def numT(b:Nat):Str:=toString (b:Int)
def rT(r:List Nat):Str:=Str.join " " (r.map numT)
def wT(r:List Nat):Str:="("++rT r ++ ")"
def ordT(n:Nat)(xs:List Int):Str:=Str.join "" ((rgs n xs n).map wT)
theorem dD:∀b,b<61->((numT b).length<=2/\Txt.isdigit (numT b)=true/\(Txt.startswith (numT b) "0" = false\/numT b="0")/\PySem.intText? (numT b)=some (b:Int))/\41∉tl (numT b)/\32∉tl (numT b)/\((b:Int).natAbs.log2<1920)/\PyData.strOk (numT b)=true:=by decide +kernel
theorem zD7{sep:Str}{ts:List Str}(hs:sep.length<=2)(hl:ts.length<=60)(ht:∀t∈ts,t.length<=200):JoinOk sep ts=true/\(Str.join sep ts).length<=202*ts.length:=by
 have h1:=Bg 200 hl
 have h2:=Df ts.length hs
 refine⟨?_,?_⟩
 ·unfold JoinOk
  rw[StrLaws.joinFits ht (by rfl')]
  rfl
 ·have a:=Dy sep ts
  have b:=StrLaws.sumLen_le ts ht
  rfl'
theorem gZ{sep:Str}{ts:List Str}(h:JoinOk sep ts=true):joinD sep (.list (ts.map PyData.str))=some (.str (Str.join sep ts)):=by
 unfold joinD
 rw[show lstD (.list (ts.map PyData.str))=some (ts.map PyData.str) from rfl,AR,zI4,AR,Ac h]
theorem fH{z:Str}(h:PyData.strOk z=true):SeqAt.shaped (.str z)=true:=by
 unfold SeqAt.shaped
 rw[PyData.canLay0,PyData.depth,h]
 rfl
theorem zR9{a b:Str}(ha:PyData.strOk a=true)(hb:PyData.strOk b=true):neD (.str a) (.str b)=some (!decide (a=b)):=by
 unfold neD
 rw[Ac ⟨fH ha,fH hb⟩,PyData.eqv]
 by_cases e:a=b <;> simp[e]
theorem yD4{a b:Str}(ha:PyData.strOk a=true)(hb:PyData.strOk b=true):eqD (.str a) (.str b)=some (decide (a=b)):=by
 unfold eqD
 rw[Ac ⟨fH ha,fH hb⟩,PyData.eqv]
 by_cases e:a=b <;> simp[e]
theorem wW5{z:Str}:PyData.strOk z=true ↔ ∀c∈tl z,c<1114112:=by
 unfold PyData.strOk tl
 rw[<-Array.all_toList,Bv]
 exact⟨fun h c hc=>of_decide_eq_true (h c hc),fun h c hc=>Ag (h c hc)⟩
theorem zQ9{a b:Str}(ha:PyData.strOk a=true)(hb:PyData.strOk b=true):PyData.strOk (a++b)=true:=by
 rw[wW5] at ha hb ⊢
 intro c hc
 rw[wQ] at hc
 rcases AX.mp hc with h | h
 ·exact ha c h
 ·exact hb c h
theorem zY1{y:Str}(hy:PyData.strOk y=true):∀ts:List Str,(∀t∈ts,PyData.strOk t=true)->PyData.strOk (Str.join y ts)=true
 | [],_=>(by decide +kernel:PyData.strOk Str.empty=true)
 | [t],h=>h t Af
 | t::u::r,h=>by
  rw[jK]
  exact zQ9 (zQ9 (h t Af) hy) (zY1 hy (u::r) fun x hx=>h x (Aj _ hx))
theorem qW:100000<=sizeLine:=by decide
theorem zF3{r:List Nat}(hr:∀x∈r,x<61)(hl:r.length<=60):(rT r).length<=180:=by
 have a:=Dy " " (r.map numT)
 have b:=StrLaws.sumLen_le (B:=2) (r.map numT) fun y hy=>by
  obtain⟨x,hx,rfl⟩:=AE.mp hy
  exact (dD x (hr x hx)).1.1
 rw[Aa] at a b
 have c:(" ":Str).length=1:=rfl
 unfold rT
 rw[c] at a
 rfl'
theorem xK4{r:List Nat}{d:D}(hd:d=tI (rI' r)\/d=lI (rI' r))(hr:∀x∈r,x<61)(hl:r.length<=60):eComp (iS (eV 0)) tYes (eB strOfD (aC (eV 0) aN)) [] [some d]=.ok (.list ((r.map numT).map PyData.str)):=by
 rw[Av]
 refine yF (fun b:Nat=>PyData.int (b:Int)) (fun b=>PyData.str (numT b)) r (by
  rcases hd with rfl | rfl
  ·simp -implicitDefEqProofs only[(evA)]
   unfold rI'
   rw[Av]
   rfl
  ·simp -implicitDefEqProofs only[(evA)]
   unfold rI'
   rw[Av]
   rfl) (by rfl') fun b hb => ?_
 have h:=dD b (hr b hb)
 show eB strOfD (aC (eV 0) aN) [some (.int (b:Int))]=_
 have e:strOfD [.int (b:Int)]=some (.str (numT b)):=Ac h.2.2.2.1
 simp![e]
theorem xF6{r:List Nat}(hr:∀x∈r,x<61)(hl:r.length<=60):joinD " " (.list ((r.map numT).map PyData.str))=some (.str (rT r)):=by
 refine gZ (zD7 (by decide) (by rw[Aa];exact hl) fun t ht => ?_).1
 obtain⟨x,hx,rfl⟩:=AE.mp ht
 have:=(dD x (hr x hx)).1.1
 rfl'
theorem zF5{r:List Nat}{d:D}(hd:d=tI (rI' r)\/d=lI (rI' r))(hr:∀x∈r,x<61)(hl:r.length<=60):kB [d]=.ok (.str (rT r)):=by
 show (hJ [some d]).bind (fin false)=_
 unfold hJ
 simp![xI,yC,xK4 hd hr hl,xF6 hr hl]
theorem yL1{r:List Nat}(hr:∀x∈r,x<61)(hl:r.length<=60):jW [tI (rI' r)]=.ok (.str (wT r)):=by
 have l:=zF3 hr hl
 have c:("(":Str).length+(rT r).length+(")":Str).length<=sizeLine:=by
  have c1:("(":Str).length=1:=rfl
  have c2:(")":Str).length=1:=rfl
  have:=qW
  rfl'
 have e:filD "(" ")" (.str (rT r))=some (.str (wT r)):=by
  unfold filD
  rw[yC,AR,Ac c]
  rfl
 show (bH [some (tI (rI' r)),none]).bind (fin false)=_
 unfold bH
 simp![zF5 (.inl rfl) hr hl,e]
structure Rs(rs:List (List Nat)):Prop where
 few:rs.length<=60
 ne:rs ≠ []
 ring:∀r∈rs,(∀x∈r,x<61)/\r.length<=60/\r ≠ []
theorem yQ1{n:Nat}{xs:List Int}(o:Ord n xs)(h1:1<=n)(h2:n<=60):Rs (rgs n xs n):=by
 have p:=flatP o
 have c:=yE5 o
 have ne:∀r∈rgs n xs n,r ≠ []:=fun r hr=>by
  obtain⟨a,ys,rfl,_⟩:=c.1 r hr
  exact fun z=>nomatch z
 have lf:(rgs n xs n).flatten.length=n:=by rw[p.length_eq,Aq]
 have few:∀L:List (List Nat),(∀r∈L,r ≠ [])->L.length<=L.flatten.length:=fun L=>by
  induction L with
  | nil=>exact fun _=>Ab _
  | cons r L ih =>
   intro h
   have a:=List.length_pos_iff.mpr (h r Af)
   have b:=ih fun r hr=>h r (Aj _ hr)
   rw[Ax,Bx,An]
   rfl'
 have f:=few _ ne
 refine⟨by rfl',fun z => ?_,fun r hr=>⟨fun x hx => ?_,?_,ne r hr⟩⟩
 ·rw[z] at lf
  have:0=n:=lf
  rfl'
 ·have:=AB.mp (p.mem_iff.mp (BQ.mpr ⟨r,hr,hx⟩))
  rfl'
 ·have:=(Cm hr).length_le
  rfl'
theorem wI2{r:List Nat}(hr:∀x∈r,x<61)(hl:r.length<=60):(wT r).length<=182:=by
 have l:=zF3 hr hl
 have c1:("(":Str).length=1:=rfl
 have c2:(")":Str).length=1:=rfl
 unfold wT
 rw[Bi,Bi,c1,c2]
 rfl'
theorem yL4{rs:List (List Nat)}(q:Rs rs):joinD "" (.list ((rs.map wT).map PyData.str))=some (.str (Str.join "" (rs.map wT)))/\(Str.join "" (rs.map wT)).length<=12120:=by
 have h:=zD7 (sep:="") (ts:=rs.map wT) (by decide) (by rw[Aa];exact q.few) fun t ht=>by
  obtain⟨r,hr,rfl⟩:=AE.mp ht
  have:=wI2 (q.ring r hr).1 (q.ring r hr).2.1
  rfl'
 refine⟨gZ h.1,?_⟩
 have a:=h.2
 have b:=q.few
 rw[Aa] at a
 rfl'
theorem yZ3{n:Nat}{xs:List Int}(q:Rs (rgs n xs n)):PyData.strOk (ordT n xs)=true:=by
 refine zY1 (by decide +kernel) _ fun t ht => ?_
 obtain⟨r,hr,rfl⟩:=AE.mp ht
 refine zQ9 (zQ9 (by decide +kernel) (zY1 (by decide +kernel) _ fun t ht => ?_)) (by decide +kernel)
 obtain⟨x,hx,rfl⟩:=AE.mp ht
 exact (dD x ((q.ring r hr).1 x hx)).2.2.2.2
theorem zX9{n:Nat}{xs:List Int}(o:Ord n xs)(h1:1<=n)(h2:n<=60):kP [tI xs]=.ok (.str (ordT n xs)):=by
 have q:=yQ1 o h1 h2
 have cc:eComp (iS (eF fJ (aC (eV 0) aN))) tYes (eF jW (aC (eV 0) aN)) [] [some (tI xs)]=.ok (.list (((rgs n xs n).map wT).map PyData.str)):=by
  rw[Av]
  refine yF (fun r:List Nat=>tI (rI' r)) (fun r=>PyData.str (wT r)) (rgs n xs n) (by
   simp![yF6 o (show n<=1000 by rfl')]
   unfold ringsD
   rw[Av]
   rfl) (by have:=q.few;rfl') fun r hr => ?_
  show eF jW (aC (eV 0) aN) [some (tI (rI' r))]=_
  simp![yL1 (q.ring r hr).1 (q.ring r hr).2.1]
 show (cU [some (tI xs)]).bind (fin false)=_
 unfold cU
 simp![xI,yC,cc,(yL4 q).1]
 rfl
theorem wJ8{r:List Nat}(hr:∀x∈r,x<61):41∉tl (rT r):=by
 have:∀l:List Nat,(∀x∈l,x<61)->41∉tl (Str.join " " (l.map numT)):=fun l=>by
  induction l with
  | nil=>exact fun _ z=>by cases z
  | cons a l ih =>
   intro h
   have ha:=(dD a (h a Af)).2.1
   cases l with
   | nil=>exact ha
   | cons b l =>
    rw[AI,AI,jK,wQ,wQ]
    intro z
    rcases AX.mp z with z | z
    ·rcases AX.mp z with z | z
     ·exact ha z
     ·exact absurd z (by decide)
    ·exact ih (fun x hx=>h x (Aj _ hx)) z
 exact this r hr
theorem wX1{r:List Nat}(hr:∀x∈r,x<61)(hn:r ≠ []):Txt.split (rT r) " " = r.map numT :=
 dZ (c:=32) (y':=[]) rfl (by decide +kernel) (fun z=>hn (Bw.mp z)) fun p hp=>by
  obtain⟨x,hx,rfl⟩:=AE.mp hp
  exact (dD x (hr x hx)).2.2.1
theorem xE5{rs:List (List Nat)}(q:Rs rs):Txt.split (Str.join ")(" (rs.map rT)) ")(" = rs.map rT :=
 dZ (c:=41) (y':=[40]) rfl (by decide +kernel) (fun z=>q.ne (Bw.mp z)) fun p hp=>by
  obtain⟨r,hr,rfl⟩:=AE.mp hp
  exact wJ8 (q.ring r hr).1
theorem wP7{rs:List (List Nat)}(q:Rs rs):Txt.slice (Str.join "" (rs.map wT)) (some 1) (some (-1))=Str.join ")(" (rs.map rT):=by
 have e:=yX6 (rs.map rT) fun z=>q.ne (Bw.mp z)
 rw[Av] at e
 have e':Str.join "" (rs.map wT)="("++Str.join ")(" (rs.map rT) ++ ")":=e
 rw[e']
 exact xM7 rfl rfl
theorem yZ4{b:Nat}(h:b<61):xG [.str (numT b),.int 1]=.ok (.int (b:Int)):=by
 obtain⟨⟨n1,n2,n3,n4⟩,_,_,_,n5⟩:=dD b h
 have lb:=qW
 have e1:lenTD [.str (numT b)]=some (.int ((numT b).length:Int)):=Ac (by rfl')
 have e2':intTD [.str (numT b)]=some (.int (b:Int)):=by
  show (if (numT b).length<=640 then (PySem.intText? (numT b)).map PyData.int else none)=_
  rw[Ac (by rfl'),n4]
  rfl
 have e3:stwD (numT b) (.str "0")=some (.bool (Txt.startswith (numT b) "0")):=rfl
 show (uT [some (.str (numT b)),some (.int 1)]).bind (fin false)=_
 unfold uT
 rcases n3 with n3 | n3
 ·simp![dR,xI,yC,n2,e1,Ad (show ¬(90:Int)<((numT b).length:Int) by rfl'),e3,n3,e2']
 ·have nn:neD (.str (numT b)) (.str "0")=some false:=by
   rw[<-n3,zR9 n5 n5,Ag rfl]
   rfl
  generalize Txt.startswith (numT b) "0" = v at e3
  cases v
  ·simp![dR,xI,yC,n2,e1,Ad (show ¬(90:Int)<((numT b).length:Int) by rfl'),e3,e2']
  ·simp![dR,xI,yC,n2,e1,Ad (show ¬(90:Int)<((numT b).length:Int) by rfl'),e3,nn,e2']
theorem zH1{r:List Nat}(hr:∀x∈r,x<61)(hl:r.length<=60):xC [.list ((r.map numT).map PyData.str),.int 1]=.ok (tI (rI' r)):=by
 have cc:eComp (iS (eV 0)) tYes (eF xG (aC (eV 0) (aC (eV 1) aN))) [1] [some (.list ((r.map numT).map PyData.str)),some (.int 1)]=.ok (.list (r.map fun b:Nat=>PyData.int (b:Int))):=by
  refine yF (fun b:Nat=>PyData.str (numT b)) (fun b=>PyData.int (b:Int)) r (by
   simp -implicitDefEqProofs only[(evA)]
   rw[Av]
   rfl) (by rfl') fun b hb => ?_
  show eF xG (aC (eV 0) (aC (eV 1) aN)) [some (.str (numT b)),some (.int 1)]=_
  simp![yZ4 (hr b hb)]
 have e:(PyData.tuple (r.map fun b:Nat=>PyData.int (b:Int)))=tI (rI' r):=by
  unfold tI rI'
  rw[Av]
  rfl
 show (vD [some (.list ((r.map numT).map PyData.str)),some (.int 1)]).bind (fin false)=_
 unfold vD
 simp![cc,e]
theorem fR{n:Nat}{xs:List Int}(o:Ord n xs)(h1:1<=n)(h2:n<=60):kT [.str (ordT n xs)]=.ok (tI xs):=by
 have q:=yQ1 o h1 h2
 have lw:=(yL4 q).2
 have lb:=qW
 have lj:=(zD7 (sep:=")(") (ts:=(rgs n xs n).map rT) (by decide) (by rw[Aa];exact q.few) fun t ht=>by
  obtain⟨r,hr,rfl⟩:=AE.mp ht
  have:=zF3 (q.ring r hr).1 (q.ring r hr).2.1
  rfl').2
 have fw:=q.few
 rw[Aa] at lj
 have s1:slS (.str (ordT n xs)) (some 1) (some (-1))=some (.str (Str.join ")(" ((rgs n xs n).map rT))):=by
  unfold slS
  rw[yC,AR,Ac (by unfold ordT;rfl'),<-wP7 q]
  rfl
 have s2:splD (Str.join ")(" ((rgs n xs n).map rT)) (.str ")(")=some (.list (((rgs n xs n).map rT).map PyData.str)):=by
  unfold splD
  rw[yC,AR,Ac ⟨by decide,by rfl'⟩,xE5 q]
 have cc:eComp (iS (eM1S splD (eS slS (eV 0) (oS (eC (.int 1))) (oS (e1 negD (eC (.int 1))))) (eC (.str ")(")))) tYes (eF xC (aC (eM1S splD (eV 0) (eC (.str " "))) (aC (eC (.int 1)) aN))) [] [some (.str (ordT n xs)),none,none]=.ok (rows (ringsD n xs n)):=by
  have er:rows (ringsD n xs n)=.list ((rgs n xs n).map fun r=>tI (rI' r)):=by
   unfold rows ringsD
   rw[Av]
   rfl
  rw[er]
  refine yF (fun r:List Nat=>PyData.str (rT r)) (fun r=>tI (rI' r)) (rgs n xs n) (by
   simp![xI,yC,s1,s2]
   rw[Av]
   rfl) (by rfl') fun r hr => ?_
  have hr1:=(q.ring r hr).1
  have hr2:=(q.ring r hr).2.1
  have l:=zF3 hr1 hr2
  have s3:splD (rT r) (.str " ")=some (.list ((r.map numT).map PyData.str)):=by
   unfold splD
   rw[yC,AR,Ac ⟨by decide,by rfl'⟩,wX1 hr1 (q.ring r hr).2.2]
  show eF xC (aC (eM1S splD (eV 0) (eC (.str " "))) (aC (eC (.int 1)) aN)) [some (.str (rT r))]=_
  simp![xI,yC,s3,zH1 hr1 hr2]
 obtain⟨zs,oz,ez,eo⟩:=zN3 (yE5 o) (flatP o) h1 h2
 rw[wW1 oz o ez] at eo
 have ty:∀(mb:Ev->Res Out) (ρ:Ev),sTryN mb ρ=noEx (mb ρ):=fun _ _=>rfl
 have nx:∀x:Out,noEx (Res.ok x)=.ok x:=fun _=>rfl
 show (cR [some (.str (ordT n xs)),none,none]).bind (fin false)=_
 unfold cR
 simp![cc,ty,nx,eo,zX9 o h1 h2,zR9 (yZ3 q) (yZ3 q),decide_true]
theorem pz:PyData.strOk "" = true/\PyData.strOk "none" = true/\PyData.strOk " / " = true/\PyData.strOk "rings" = true/\PyData.strOk "find" = true/\PyData.strOk "need" = true/\PyData.strOk "help" = true:=by decide +kernel
theorem xF3:∀b,b<61->10∉tl (numT b)/\45∉tl (numT b)/\47∉tl (numT b):=by decide +kernel
theorem fV{c:Nat}{y:Str}(hy:c∉tl y):∀ts:List Str,(∀t∈ts,c∉tl t)->c∉tl (Str.join y ts)
 | [],_=>fun z=>by cases z
 | [t],h=>h t Af
 | t::u::r,h=>by
  rw[jK,wQ,wQ]
  intro z
  rcases AX.mp z with z | z
  ·rcases AX.mp z with z | z
   ·exact h t Af z
   ·exact hy z
  ·exact fV hy (u::r) (fun x hx=>h x (Aj _ hx)) z
theorem wR9{c:Nat}(hc:c=10\/c=45\/c=47){r:List Nat}(hr:∀x∈r,x<61):c∉tl (rT r):=by
 refine fV (by rcases hc with rfl | rfl | rfl <;> decide +kernel) _ fun t ht => ?_
 obtain⟨x,hx,rfl⟩:=AE.mp ht
 have:=xF3 x (hr x hx)
 rcases hc with rfl | rfl | rfl
 ·exact this.1
 ·exact this.2.1
 ·exact this.2.2
theorem xL2{c:Nat}(hc:c=10\/c=45\/c=47){n:Nat}{xs:List Int}(q:Rs (rgs n xs n)):c∉tl (ordT n xs):=by
 have l:∀y∈(["","(",")"]:List Str),c∉tl y:=by
  rcases hc with rfl | rfl | rfl <;> decide +kernel
 refine fV (l _ (by simp)) _ fun t ht => ?_
 obtain⟨r,hr,rfl⟩:=AE.mp ht
 unfold wT
 rw[wQ,wQ]
 intro z
 rcases AX.mp z with z | z
 ·rcases AX.mp z with z | z
  ·exact l "(" (by simp) z
  ·exact wR9 hc (q.ring r hr).1 z
 ·exact l ")" (by simp) z
theorem wS1{n:Nat}{xs:List Int}(q:Rs (rgs n xs n)):(ordT n xs).length<=12120:=(yL4 q).2
theorem strEq{a:Str}(ha:PyData.strOk a=true):eqD (.str a) (.str a)=some true:=by rw[yD4 ha ha,Ag rfl]
theorem strNe{a b:Str}(ha:PyData.strOk a=true)(hb:PyData.strOk b=true)(h:a≠b):eqD (.str a) (.str b)=some false:=by rw[yD4 ha hb,Ad h]
theorem zK2{ts:List Str}(hl:ts.length<=12)(ht:∀t∈ts,t.length<=13000):JoinOk "\n" ts=true/\(Str.join "\n" ts).length+2<=sizeLine:=by
 have c:("\n":Str).length=1:=rfl
 have sl:sizeLine=16777216:=by decide
 have h1:=Bg 13000 hl
 refine⟨?_,?_⟩
 ·unfold JoinOk
  rw[StrLaws.joinFits ht (by rw[c];rfl')]
  rfl
 ·have a:=Dy "\n" ts
  have b:=StrLaws.sumLen_le ts ht
  rw[c] at a
  rfl'
theorem yO5{ts:List Str}(h0:ts ≠ [])(hl:ts.length<=12)(ht:∀t∈ts,t.length<=13000)(hf:∀t∈ts,10∉tl t):splD (Str.join "\n" ts) (.str "\n")=some (.list (ts.map PyData.str)):=by
 unfold splD
 rw[yC,AR,Ac ⟨by decide,(zK2 hl ht).2⟩,dZ (c:=10) (y':=[]) rfl (by decide +kernel) h0 hf]
theorem wK6{n:Nat}{ops:List Int}(q:Opn n ops)(h2:n<=60):∃os:List Nat,ops=rI' os/\os.length=n/\∀x∈os,x<61:=by
 refine⟨ops.map Int.toNat,?_,by rw[Aa,q.len],fun x hx => ?_⟩
 ·unfold rI'
  rw[Av]
  conv=>lhs;rw[<-List.map_id ops]
  refine Bf fun x hx => ?_
  have:=(q.bd x hx).1
  show x=((x.toNat:Nat):Int)
  rfl'
 ·obtain⟨y,hy,rfl⟩:=AE.mp hx
  have:=q.bd y hy
  rfl'
abbrev fL(n:Nat)(v:Nat->Int):D:=.list ((List.range (n+1)).map fun q=>PyData.int (v q))
theorem zZ5{n:Nat}{v u:Nat->Int}(h:∀q,q<=n->v q=u q):fL n v=fL n u :=
 Bc PyData.list (Bf fun q hq=>by rw[h q (by have:=AB.mp hq;rfl')])
theorem yW8(a:Nat->Int)(q:Nat):∀n,M12.sumN (fun p=>if p=q then a p else 0) n=if q<n then a q else 0
 | 0=>by rw[Ah (by rfl')];rfl
 | n+1=>by
  rw[M12.sumN,yW8 a q n]
  by_cases h:q<n
  ·simp[h,show ¬n=q by rfl',show q<n+1 by rfl']
  ·by_cases e:n=q
   ·subst e;simp
   ·simp[h,e,show ¬q<n+1 by rfl']
def Lm(o:Nat)(v:Nat->Int)(i q:Nat):Int:=M12.sumN (fun p=>(if p=q+1 then (p:Int)*v p else 0)+(if M12.inWin o q p then v p else 0)) i
theorem wO2(n o:Nat)(v:Nat->Int)(q:Nat):Lm o v (n+1) q=M12.stepM n o v q:=by
 unfold Lm M12.stepM
 rw[M12.wZ,yW8 (fun p=>(p:Int)*v p) (q+1) (n+1)]
 congr 1
 by_cases h:q+1<=n
 ·rw[Ac (by rfl'),Ac h]
  congr 1
 ·rw[Ah (by rfl'),Ah h]
theorem yU2{n i b:Nat}{x0 x1 x3:Option D}{w:Int}(M:Nat->Int)(hb:b<=n+1)(y:Option D):∃y',L3.forM (gN 5) (sJ0 2 (eV 5) addI (eV 4)) ((List.range (b-i)).map fun (k:Nat)=>PyData.int ((i+k:Nat):Int)) [x0,x1,some (fL n M),x3,some (.int w),y]=.ok (.nx [x0,x1,some (fL n fun q=>M q+(if i<=q/\q<i+(b-i) then w else 0)),x3,some (.int w),y']):=by
 obtain⟨ρ',e,y',rfl⟩:=uM (g:=gN 5) (b:=sJ0 2 (eV 5) addI (eV 4))
  (fun j ρ=>∃y,ρ=[x0,x1,some (fL n fun q=>M q+(if i<=q/\q<i+j then w else 0)),x3,some (.int w),y]) ((List.range (b-i)).map fun (k:Nat)=>PyData.int ((i+k:Nat):Int)) [x0,x1,some (fL n M),x3,some (.int w),y] ⟨y,by rw[zZ5 (n:=n) (v:=fun q=>M q+(if i<=q/\q<i+0 then w else 0)) (u:=M) fun q _=>by rw[Ah (by rfl'),BA]]⟩ (by
   rintro j d ρ hd ⟨y,rfl⟩
   obtain⟨hj,rfl⟩:=vK hd
   have hlt:i+j<n+1:=by rfl'
   have at1:=yD5 (xd:=(List.range (n+1)).map fun q=>PyData.int (M q+(if i<=q/\q<i+j then w else 0))) (j:=i+j) (by rw[Al,AN hlt];rfl)
   refine⟨_,_,rfl,?_,some (.int ((i+j:Nat):Int)),rfl⟩
   simp![at1,zY4 hlt]
   refine Bc (fun z=>Res.ok (Out.nx [x0,x1,some (PyData.list z),x3,some (PyData.int w),some (PyData.int ((i+j:Nat):Int))])) (Bf fun q _ => ?_)
   show _=PyData.int (M q+(if i<=q/\q<i+(j+1) then w else 0))
   by_cases e:q=i+j
   ·subst e
    rw[Ac rfl,Ah (by rfl'),Ac (by rfl')]
    congr 1
    rfl'
   ·rw[Ah e]
    congr 2
    by_cases e2:i<=q/\q<i+j
    ·rw[Ac e2,Ac (by rfl')]
    ·rw[Ah e2,Ah (by rfl')])
 rw[Aa,Aq] at e
 exact⟨y',e⟩
theorem bG{n o:Nat}(hn:n<=60)(ho:o<=60)(v:Nat->Int):uV [fL n v,.int o]=.ok (fL n (M12.stepM n o v)):=by
 show (uX [some (fL n v),some (.int o),none,none,none,none]).bind (fin true)=_
 unfold uX
 have r0:=aJ (.int 0) (n+1) (by rfl')
 rw[fO] at r0
 have le:((List.range (n+1)).map fun q=>PyData.int (v q)).length=n+1:=by simp
 simp![le,r0]
 refine vU (fun i ρ=>∃a b c,ρ=[some (fL n v),some (.int o),some (fL n (Lm o v i)),a,b,c]) ⟨none,none,none,rfl⟩ ?_ ?_
 ·rintro i d ρ hd ⟨a,b,c,rfl⟩
  unfold enumD at hd
  obtain⟨hi,rfl⟩:=vK hd
  rw[le] at hi
  have eg:((List.range (n+1)).map fun q=>PyData.int (v q)).getD i .none=.int (v i):=by
   rw[Ak,Al,AN hi];rfl
  rw[eg]
  have hm:(if ((n+1:Nat):Int)<(i:Int)+(o:Int) then ((n+1:Nat):Int) else (i:Int)+(o:Int))=((min (i+o) (n+1):Nat):Int):=by split <;> rfl'
  have rg:=zZ4 (a:=i) (b:=min (i+o) (n+1)) (by rfl') (by rfl')
  cases i with
  | zero =>
   obtain⟨y',inn⟩:=yU2 (n:=n) (i:=0) (b:=min (0+o) (n+1)) (x0:=some (fL n v)) (x1:=some (.int o)) (x3:=some (.int ((0:Nat):Int))) (w:=v 0) (Lm o v 0) (by rfl') c
   refine⟨_,_,rfl,?_,some (.int ((0:Nat):Int)),some (.int (v 0)),y',rfl⟩
   simp![Ad (show ¬(0:Int)<((0:Nat):Int) by rfl'),le,min2D,hm,rg,inn]
   rw[zZ5 (n:=n) (v:=fun q=>Lm o v 0 q+(if 0<=q/\q<0+(min (0+o) (n+1)-0) then v 0 else 0)) (u:=Lm o v (0+1)) fun q hq => ?_]
   show (0:Int)+(if 0<=q/\q<0+(min (0+o) (n+1)-0) then v 0 else 0)=0+((if 0=q+1 then ((0:Nat):Int)*v 0 else 0)+(if M12.inWin o q 0 then v 0 else 0))
   rw[Ah (show ¬0=q+1 by rfl')]
   unfold M12.inWin
   by_cases e:(0:Nat)<=q/\q<0+(min (0+o) (n+1)-0)
   ·rw[Ac e,Ac (Ag (by rfl'))];rfl'
   ·rw[Ah e,Ah (by rw[decide_eq_true_iff];rfl')];rfl'
  | succ j =>
   have hj:j<n+1:=by rfl'
   have at1:=yD5 (xd:=(List.range (n+1)).map fun q=>PyData.int (Lm o v (j+1) q)) (j:=j) (by rw[Al,AN hj];rfl)
   have m1:=xA (i:=((j+1:Nat):Int)) (j:=v (j+1)) (MulOk.left (by rfl') (by rfl'))
   have sd:=zY4 hj (fun q=>PyData.int (Lm o v (j+1) q)) (.int (Lm o v (j+1) j+((j+1:Nat):Int)*v (j+1)))
   have ef:((List.range (n+1)).map fun c=>if c=j then PyData.int (Lm o v (j+1) j+((j+1:Nat):Int)*v (j+1)) else PyData.int (Lm o v (j+1) c))=(List.range (n+1)).map fun q=>PyData.int (Lm o v (j+1) q+(if j+1=q+1 then ((j+1:Nat):Int)*v (j+1) else 0)):=Bf fun q _=>by
    by_cases e:q=j
    ·subst e;rw[Ac rfl,Ac rfl]
    ·rw[Ah e,Ah (by rfl'),BA]
   rw[ef] at sd
   obtain⟨y',inn⟩:=yU2 (n:=n) (i:=j+1) (b:=min (j+1+o) (n+1)) (x0:=some (fL n v)) (x1:=some (.int o)) (x3:=some (.int ((j+1:Nat):Int))) (w:=v (j+1)) (fun q=>Lm o v (j+1) q+(if j+1=q+1 then ((j+1:Nat):Int)*v (j+1) else 0)) (by rfl') c
   refine⟨_,_,rfl,?_,some (.int ((j+1:Nat):Int)),some (.int (v (j+1))),y',rfl⟩
   simp![Ag (show (0:Int)<((j+1:Nat):Int) by rfl'),show ((j+1:Nat):Int)-1=(j:Int) by rfl',at1,m1,sd,le,min2D,hm,rg,inn]
   rw[zZ5 (n:=n) (v:=fun q=>Lm o v (j+1) q+(if j+1=q+1 then ((j+1:Nat):Int)*v (j+1) else 0)+(if j+1<=q/\q<j+1+(min (j+1+o) (n+1)-(j+1)) then v (j+1) else 0)) (u:=Lm o v (j+1+1)) fun q hq => ?_]
   show Lm o v (j+1) q+(if j+1=q+1 then ((j+1:Nat):Int)*v (j+1) else 0)+(if j+1<=q/\q<j+1+(min (j+1+o) (n+1)-(j+1)) then v (j+1) else 0)=Lm o v (j+1) q+((if j+1=q+1 then ((j+1:Nat):Int)*v (j+1) else 0)+(if M12.inWin o q (j+1) then v (j+1) else 0))
   unfold M12.inWin
   by_cases e:(j+1:Nat)<=q/\q<j+1+(min (j+1+o) (n+1)-(j+1))
   ·rw[Ac e,Ac (Ag (show j+1<=q/\q<j+1+o by rfl'))];rfl'
   ·rw[Ah e,Ah (show ¬decide (j+1<=q/\q<j+1+o)=true by rw[decide_eq_true_iff];rfl')];rfl'
 ·rintro ρ ⟨a,b,c,rfl⟩
  have:(enumD ((List.range (n+1)).map fun q=>PyData.int (v q))).length=n+1:=by unfold enumD;simp
  rw[this]
  simp -implicitDefEqProofs only[(evA)]
  rw[zZ5 fun q _=>wO2 n o v q]
theorem wR3(n:Nat):catL (.list [.int 1]) (.list ((List.range n).map fun _=>PyData.int 0))=(if n+1<=1000 then some (fL n M12.e0) else catL (.list [.int 1]) (.list ((List.range n).map fun _=>PyData.int 0))):=by
 by_cases h:n+1<=1000
 ·rw[Ac h]
  have e:fL n M12.e0=lI ([1]++(List.range n).map fun _=>(0:Int)):=by
   show PyData.list _=PyData.list _
   congr 1
   rw[List.range_succ_eq_map,AI,AK,Av,Av]
   rfl
  rw[e,<-xZ2 (xs:=[1]) (ys:=(List.range n).map fun _=>(0:Int)) (by simp;rfl')]
  congr 1
  simp only[lI,Av,CU]
 ·rw[Ah h]
theorem yF7{n:Nat}{ops:List Int}(q:Opn n ops)(h1:1<=n)(h2:n<=60):zZ9 [tI ops]=.ok (.int (M12.runM n ((sortI ops).map Int.toNat) 0)):=by
 show (aL [some (tI ops),none,none,none]).bind (fin false)=_
 unfold aL
 have r0:=aJ (.int 0) n (by rfl')
 rw[fO] at r0
 have e0:=wR3 n
 rw[Ac (by rfl')] at e0
 have so:sortD [tI ops]=some (lI (sortI ops)):=by
  unfold sortD
  simp only[nsD,seqD,AR,intsOf_map]
  rw[Ac (by rw[q.len];rfl')]
 simp![Aa,q.len,zK6 q h1 h2,r0,e0,so]
 have bd:∀x∈sortI ops,0<=x/\x<=n:=fun x hx=>q.bd x ((xM ops).mem_iff.mp hx)
 refine vU (fun i ρ=>∃a,ρ=[some (tI ops),some (.int n),some (fL n (M12.runM n (((sortI ops).map Int.toNat).take i))),a]) ⟨none,rfl⟩ ?_ ?_
 ·rintro i d ρ hd ⟨a,rfl⟩
  rw[Al] at hd
  obtain⟨x,hx,rfl⟩:=Az.mp hd
  have hb:=bd x (Bq hx)
  have eb:=bG (n:=n) (o:=x.toNat) h2 (by rfl') (M12.runM n (((sortI ops).map Int.toNat).take i))
  rw[show ((x.toNat:Nat):Int)=x by rfl'] at eb
  refine⟨_,_,rfl,?_,some (.int x),rfl⟩
  simp![eb]
  have tk:((sortI ops).map Int.toNat).take (i+1)=((sortI ops).map Int.toNat).take i ++ [x.toNat]:=by
   rw[List.take_succ,Al,hx];rfl
  rw[tk,M12.jL]
 ·rintro ρ ⟨a,rfl⟩
  have a0:=zU1 (show 0<n+1 by rfl') fun k=>PyData.int (M12.runM n ((sortI ops).map Int.toNat) k)
  rw[Aa]
  have tl:((sortI ops).map Int.toNat).take (sortI ops).length=(sortI ops).map Int.toNat:=by
   rw[BH (by rw[Aa];exact Ab _)]
  rw[tl]
  have a0':atI ((List.range (n+1)).map fun k=>PyData.int (M12.runM n ((sortI ops).map Int.toNat) k)) 0=_:=a0
  simp![a0']
theorem zN5{F:Nat->Int}:∀{n:Nat},(∀i,i<n->0<=F i)->0<=M12.sumN F n
 | 0,_=>BK _
 | n+1,h=>by
  rw[M12.sumN]
  have h1:=zN5 (n:=n) fun i hi=>h i (by rfl')
  have h2:=h n (by rfl')
  rfl'
theorem zW8(l:Nat):∀d:Nat,d<=l->0<M12.ff (l:Int) d
 | 0,_=>by rw[M12.ff];decide
 | d+1,h=>by
  rw[M12.ff]
  exact Int.mul_pos (zW8 l d (by rfl')) (by rfl')
theorem yL2{n o:Nat}{u:Nat->Int}(h:∀i,0<=u i)(i:Nat):0<=M12.stepL n o u i:=by
 unfold M12.stepL
 have h1:0<=(if i=0 then (0:Int) else u (i-1)):=by
  split
  ·exact BK _
  ·exact h _
 have h2:0<=M12.sumN (fun l=>if M12.inWin o l i then u l*M12.ff (l:Int) (l-i) else 0) n:=zN5 fun l _=>by
  show 0<=(if M12.inWin o l i then u l*M12.ff (l:Int) (l-i) else 0)
  split
  ·exact Dc (h l) (Int.le_of_lt (zW8 l (l-i) (by rfl')))
  ·exact BK _
 rfl'
theorem zO2(n:Nat):∀(os:List Nat) (i:Nat),0<=M12.runL n os.reverse i
 | [],i=>by
  show 0<=M12.e0 i
  unfold M12.e0
  split <;> decide
 | o::os,i=>by
  rw[CV,M12.zV2]
  exact yL2 (zO2 n os) i
theorem yI6(n:Nat)(os:List Nat)(i:Nat):0<=M12.runL n os i:=by
 have:=zO2 n os.reverse i
 rwa [DJ] at this
theorem xC7{n:Nat}{ops:List Int}(q:Opn n ops):M12.runL n ((sortI ops).reverse.map Int.toNat) 0=M12.runM n ((sortI ops).map Int.toNat) 0:=by
 have h:=M12.yK2 ((sortI ops).map Int.toNat)
 rw[Aa,(xM ops).length_eq,q.len,<-List.map_reverse] at h
 exact h
theorem zB6{n:Nat}(h1:1<=n)(h2:n<=60):fP [.int n]=.ok (.int (M12.fac n)):=by
 show (fK [some (.int n),none,none]).bind (fin false)=_
 unfold fK
 have rg:=zZ4 (a:=2) (b:=n+1) (by rfl') (by rfl')
 rw[show ((2:Nat):Int)=2 from rfl,show ((n+1:Nat):Int)=(n:Int)+1 by rfl'] at rg
 simp![rg]
 refine vU (fun i ρ=>∃a,ρ=[some (.int n),some (.int (M12.fac (i+1))),a]) ⟨none,rfl⟩ ?_ ?_
 ·rintro i d ρ hd ⟨a,rfl⟩
  obtain⟨hi,rfl⟩:=vK hd
  have m1:=xA (i:=M12.fac (i+1)) (j:=((2+i:Nat):Int)) (MulOk.right (by rfl') (by rfl'))
  refine⟨_,_,rfl,?_,some (.int ((2+i:Nat):Int)),rfl⟩
  simp![m1]
  rw[show M12.fac (i+1+1)=M12.fac (i+1)*((2+i:Nat):Int) from Bc (M12.fac (i+1) * ·) (by rfl')]
 ·rintro ρ ⟨a,rfl⟩
  rw[Aa,Aq,show n+1-2+1=n by rfl']
  simp -implicitDefEqProofs only[(evA)]
abbrev dT:Ev->Res Bool:=b2 gtI (eV 1) (eC (.int 0))
abbrev dB:Ev->Res Out:=sQ (sS 2 (e2 modI (eV 0) (eV 1))) (sQ (sS 0 (eV 1)) (sS 1 (eV 2)))
theorem wF5(a b:Nat)(hb:0<b)(r:Option D):dB [some (.int a),some (.int b),r]=.ok (.nx [some (.int b),some (.int ((a%b:Nat):Int)),some (.int ((a%b:Nat):Int))]):=by
 have m:modO (a:Int) (b:Int)=some ((a%b:Nat):Int):=by
  unfold modO
  rw[Ac (by rfl')]
  congr 1
 unfold dB
 simp![m]
theorem zY6(a b:Nat):Nat.gcd a b=Nat.gcd b (a%b):=by
 rw[Nat.gcd_comm a b,Nat.gcd_rec b a,Nat.gcd_comm]
theorem zV9{f a:Nat}{r:Option D}:whM dT dB (f+1) [some (.int a),some (.int ((0:Nat):Int)),r]=.ok (.nx [some (.int ((Nat.gcd a 0:Nat):Int)),some (.int ((0:Nat):Int)),r]):=by
 rw[whM,Nat.gcd_zero_right]
 show (dT [some (.int a),some (.int ((0:Nat):Int)),r]).bind _=_
 unfold dT
 simp![Ad (show ¬(0:Int)<((0:Nat):Int) by rfl')]
theorem yJ1{f a b:Nat}{r:Option D}(hb:0<b):whM dT dB (f+1) [some (.int a),some (.int b),r]=whM dT dB f [some (.int b),some (.int ((a%b:Nat):Int)),some (.int ((a%b:Nat):Int))]:=by
 rw[whM]
 have t:dT [some (.int a),some (.int b),r]=.ok true:=by
  unfold dT
  simp![Ag (show (0:Int)<(b:Int) by rfl')]
 rw[t,Res.bind_ok,Ac rfl,wF5 a b hb,Res.bind_ok]
theorem yI5:∀(k a b fuel:Nat) (r:Option D),b<2 ^ k->2*k<fuel->∃r',whM dT dB fuel [some (.int a),some (.int b),r]=.ok (.nx [some (.int ((Nat.gcd a b:Nat):Int)),some (.int ((0:Nat):Int)),r'])
 | 0,a,b,fuel,r,hb,hf=>by
  obtain rfl:b=0:=by simp at hb;exact hb
  obtain⟨f,rfl⟩:∃f,fuel=f+1:=⟨fuel-1,by rfl'⟩
  exact⟨r,zV9⟩
 | k+1,a,b,fuel,r,hb,hf=>by
  obtain⟨f,rfl⟩:∃f,fuel=f+1+1:=⟨fuel-2,by rfl'⟩
  rcases BY b with z | z
  ·subst z
   exact⟨r,zV9⟩
  ·rw[yJ1 z,zY6 a b]
   rcases BY (a%b) with y | y
   ·rw[y]
    exact⟨_,zV9⟩
   ·rw[yJ1 y,zY6 b (a%b)]
    refine yI5 k _ _ f _ ?_ (by rfl')
    have h1:=Bp a z
    have h2:=Bp b y
    have h3:b%(a%b)+(a%b)<=b:=by
     have:=Nat.mod_add_div b (a%b)
     have hq:1<=b / (a%b):=Nat.div_pos (by rfl') y
     have:(a%b)*1<=(a%b)*(b / (a%b)):=Df _ hq
     rfl'
    rw[Nat.pow_succ] at hb
    rfl'
theorem zW4{a b:Nat}(hb:b<2 ^ 1000):uC [.int a,.int b]=.ok (.int ((Nat.gcd a b:Nat):Int)):=by
 show (uF [some (.int a),some (.int b),none]).bind (fin false)=_
 unfold uF
 obtain⟨r,e⟩:=yI5 1000 a b 1000000 none hb (by decide)
 simp![e]
theorem yB6:∀n:Nat,n<=60->∃W:Nat,M12.fac n=(W:Int)/\0<W/\W<=2 ^ (6*n)
 | 0,_=>⟨1,rfl,by decide,by decide⟩
 | n+1,h=>by
  obtain⟨W,e,h1,h2⟩:=yB6 n (by rfl')
  refine⟨W*(n+1),by rw[M12.fac,e];push_cast;rfl,Nat.mul_pos h1 (by rfl'),?_⟩
  rw[show 6*(n+1)=6*n+6 by rfl',Da]
  exact DS h2 (by rfl')
theorem xZ7{F:Nat->Int}{B:Int}:∀{n:Nat},(∀i,i<n->F i<=B)->M12.sumN F n<=(n:Int)*B
 | 0,_=>by simp[M12.sumN]
 | n+1,h=>by
  rw[M12.sumN]
  have h1:=xZ7 (n:=n) fun i hi=>h i (by rfl')
  have h2:=h n (by rfl')
  rw[show ((n+1:Nat):Int)=(n:Int)+1 by rfl',CJ,Cp]
  rfl'
theorem xI6{n o:Nat}{v:Nat->Int}{B:Int}(hn:n<=60)(hB:0<=B)(h:∀q,q<=n->v q<=B)(q:Nat)(hq:q<=n):M12.stepM n o v q<=128*B:=by
 unfold M12.stepM
 have h1:(if q+1<=n then ((q:Int)+1)*v (q+1) else 0)<=60*B:=by
  split
  ·rename_i hh
   exact DO (Cc (h (q+1) hh) (by rfl')) (Int.mul_le_mul_of_nonneg_right (by rfl') hB)
  ·rfl'
 have h2:M12.sumN (fun p=>if M12.inWin o q p then v p else 0) (n+1)<=((n+1:Nat):Int)*B:=xZ7 fun p hp=>by
  show (if M12.inWin o q p then v p else 0)<=B
  split
  ·exact h p (by rfl')
  ·exact hB
 have h3:((n+1:Nat):Int)*B<=61*B:=Int.mul_le_mul_of_nonneg_right (by rfl') hB
 rfl'
theorem yE9{n:Nat}(hn:n<=60):∀(os:List Nat) (q:Nat),q<=n->M12.runM n os.reverse q<=128 ^ os.length
 | [],q,_=>by
  show M12.e0 q<=1
  unfold M12.e0
  split <;> decide
 | o::os,q,hq=>by
  rw[CV,M12.jL,Ax,Int.pow_succ,Bt]
  exact xI6 hn (Int.pow_nonneg (by decide)) (fun q hq=>yE9 hn os q hq) q hq
theorem xD6{n:Nat}{ops:List Int}(q:Opn n ops)(h2:n<=60):∃F:Nat,M12.runM n ((sortI ops).map Int.toNat) 0=(F:Int)/\F<2 ^ 421:=by
 have p:=yI6 n ((sortI ops).reverse.map Int.toNat) 0
 rw[xC7 q] at p
 have l:=yE9 h2 ((sortI ops).map Int.toNat).reverse 0 (by rfl')
 rw[DJ,List.length_reverse,Aa,(xM ops).length_eq,q.len] at l
 refine⟨(M12.runM n ((sortI ops).map Int.toNat) 0).toNat,by rfl',?_⟩
 have e:(128:Int) ^ n<=2 ^ 420:=by
  have:(128:Nat) ^ n<=2 ^ 420:=by
   rw[show (128:Nat)=2 ^ 7 by decide,<-Nat.pow_mul]
   exact Cb (by decide) (by rfl')
  exact_mod_cast this
 have e2:(2:Int) ^ 420<2 ^ 421:=by decide
 have e3:((2 ^ 421:Nat):Int)=(2:Int) ^ 421:=by push_cast;rfl
 have:((M12.runM n ((sortI ops).map Int.toNat) 0).toNat:Int)<((2 ^ 421:Nat):Int):=by rw[e3];rfl'
 exact_mod_cast this
theorem yZ7{d:Nat}(h:0<d)(h2:d<2 ^ 1000):DivOk (d:Int):=by
 refine⟨by rfl',?_⟩
 rw[Dl]
 exact Bz ((Do (by rfl')).mpr h2) (by decide)
theorem xJ4{n F W:Nat}{ops:List Int}(q:Opn n ops)(h1:1<=n)(h2:n<=60)(hF:M12.runM n ((sortI ops).map Int.toNat) 0=(F:Int))(hF2:F<2 ^ 421)(hW:M12.fac n=(W:Int))(hW1:0<W)(hW2:W<=2 ^ (6*n)):zQ1 [tI ops]=.ok (.tuple [.int ((F / Nat.gcd W F:Nat):Int),.int ((W / Nat.gcd W F:Nat):Int)]):=by
 show (zD6 [some (tI ops),none,none,none]).bind (fin false)=_
 unfold zD6
 have b1:F<2 ^ 1000:=Ar hF2 (Cb (by decide) (by decide))
 have eg:=zW4 (a:=W) (b:=F) b1
 have gp:0<Nat.gcd W F:=Dr _ hW1
 have gl:Nat.gcd W F<2 ^ 1000:=AT (Nat.gcd_le_left _ hW1) (AT hW2 (CA (by decide) (by rfl')))
 have dv:=yZ7 gp gl
 have em:=yF7 q h1 h2
 rw[hF] at em
 have eo:=zB6 h1 h2
 rw[hW] at eo
 simp![em,Aa,q.len,eo,eg,fdivO,Ac dv]
 rfl
def chk(p:Int):Int->List Int->Bool
 | _,[]=>true
 | l,x::xs=>decide (l<=x/\x<p)&&chk p (x+1) xs
theorem yC9{p:Int}:∀(xs:List Int) (l:Int),l<=p->chk p l xs=true->l+(xs.length:Int)<=p
 | [],l,h,_=>by simpa using h
 | x::xs,l,h,c=>by
  rw[chk,AV,decide_eq_true_iff] at c
  have:=yC9 xs (x+1) (by rfl') c.2
  rw[Ax]
  rfl'
def cgB:Ev->Res Out:=(sQ (sIf (tNt (b3 leI ltI (eV 2) (eV 3) (eV 0))) (sRa "BadGroup" (aC (eC (.str "a group is a rising tuple of unlike people")) aN)) sN) (sS 2 (e2 addI (eV 3) (eC (.int 1)))))
theorem xB8{p:Int}{g:Option D}:∀(xs:List Int) (l:Int) (y:Option D),chk p l xs=true->∃l' y',L3.forM (gN 3) cgB (xs.map PyData.int) [some (.int p),g,some (.int l),y]=.ok (.nx [some (.int p),g,some (.int l'),y'])
 | [],l,y,_=>⟨l,y,rfl⟩
 | x::xs,l,y,c=>by
  rw[chk,AV,decide_eq_true_iff] at c
  obtain⟨l',y',e⟩:=xB8 (g:=g) xs (x+1) (some (.int x)) c.2
  refine⟨l',y',?_⟩
  have t:cgB [some (.int p),g,some (.int l),some (.int x)]=.ok (.nx [some (.int p),g,some (.int (x+1)),some (.int x)]):=by
   unfold cgB
   simp![Ag c.1.1,Ag c.1.2]
  show (Res.lft (gN 3 (.int x) [some (.int p),g,some (.int l),y])).bind _=_
  simp![t]
  exact e
theorem yT2:fQ=(sQ (sS 2 (eC (.int 0))) (sF (iS (eV 1)) (gN 3) cgB)):=rfl
theorem zD9{p:Int}{xs:List Int}(h:chk p 0 xs=true):fN [.int p,tI xs]=.ok .none:=by
 show (fQ [some (.int p),some (tI xs),none,none]).bind (fin false)=_
 rw[yT2]
 obtain⟨l',y',e⟩:=xB8 (g:=some (tI xs)) xs 0 none h
 simp![e]
theorem zU4{p:Int}{s:Nat}(h1:0<=p)(h2:p<=1000)(hs:s<=1000):qA [.int p,.int s]=.ok (.int (M12.ff p s)):=by
 show (bI [some (.int p),some (.int s),none,none]).bind (fin false)=_
 unfold bI
 simp![uK hs]
 refine vU (fun i ρ=>∃y,ρ=[some (.int p),some (.int s),some (.int (M12.ff p i)),y]) ⟨none,rfl⟩ ?_ ?_
 ·rintro i d ρ hd ⟨y,rfl⟩
  obtain⟨hi,rfl⟩:=dH hd
  have m1:=xA (i:=M12.ff p i) (j:=p-(i:Int)) (MulOk.right (by rfl') (by rfl'))
  refine⟨_,_,rfl,?_,some (.int (i:Int)),rfl⟩
  simp![m1]
  rfl
 ·rintro ρ ⟨y,rfl⟩
  rw[Aa,Aq]
  simp -implicitDefEqProofs only[(evA)]
theorem xU9{c j:Nat}(hc:c<=60)(hj:j<=60):Small (M12.ff (c:Int) j):=by
 have:=M12.zB1 (c+1) j (by rfl') (by rfl')
 rw[show ((c+1:Nat):Int)-1=(c:Int) by rfl'] at this
 exact⟨367,by decide,this⟩
def gsum(ms:List Int)(s:Nat):Int:=((List.range ms.length).map fun (c:Nat)=>ms.getD c 0*M12.ff (c:Int) s).sum
theorem xC3(ms:List Int):enumD (ms.map PyData.int)=(List.range ms.length).map fun (i:Nat)=>PyData.tuple [.int (i:Int),.int (ms.getD i 0)]:=by
 unfold enumD
 rw[Aa]
 refine Bf fun i hi => ?_
 have hi:=AB.mp hi
 simp only[Ak,Al,Ae hi,Bu,DC]
theorem zT8{n s:Nat}{ms:List Int}(hl:ms.length=n+1)(hn:n<=60)(hs:s<=n)(hm:∀v∈ms,Small v):qE [lI ms,.int s]=.ok (.int (gsum ms s / M12.ff (n:Int) s)):=by
 show (qD [some (lI ms),some (.int s),none]).bind (fin false)=_
 unfold qD
 have cc:eComp2 (qB (eV 0)) tYes (e2 mulI (eV 1) (eF qA (aC (eV 0) (aC (eV 2) aN)))) [1] [some (lI ms),some (.int s),none]=.ok (lI ((List.range ms.length).map fun (c:Nat)=>ms.getD c 0*M12.ff (c:Int) s)):=by
  rw[xX6 (fun i:Nat=>PyData.int (i:Int)) (fun i:Nat=>PyData.int (ms.getD i 0)) (fun i:Nat=>PyData.int (ms.getD i 0*M12.ff (i:Int) s)) (List.range ms.length) (by
   simp![xC3]) (by rw[Aq];rfl') fun i hi=>by
    have hi:=AB.mp hi
    have mm:ms.getD i 0∈ms:=by
     rw[List.getD,Ae hi]
     exact List.getElem_mem hi
    have m1:=xA (i:=ms.getD i 0) (j:=M12.ff (i:Int) s) (.inr ⟨hm _ mm,xU9 (by rfl') (by rfl')⟩)
    show e2 mulI _ _ [some (.int (i:Int)),some (.int (ms.getD i 0)),some (.int s)]=_
    simp![zU4 (p:=(i:Int)) (s:=s) (by rfl') (by rfl') (by rfl'),m1]]
  simp only[lI,Av,CU]
 have hd:DivOk (M12.ff (n:Int) s):=by
  have p0:=zW8 n s hs
  refine⟨p0,?_⟩
  have:=M12.zB1 (n+1) s (by rfl') (by rfl')
  rw[show ((n+1:Nat):Int)-1=(n:Int) by rfl'] at this
  exact Bz ((Do (by rfl')).mpr this) (by decide)
 have hl':(ms.map PyData.int).length=n+1:=by rw[Aa,hl]
 simp![cc,wQ2,hl',show ((n+1:Nat):Int)-1=(n:Int) by rfl',zU4 (p:=(n:Int)) (s:=s) (by rfl') (by rfl') (by rfl'),fdivO,Ac hd]
 rfl
theorem yP5{n:Nat}{k:Int}(hn:n<=60):∀i,i<=n+1->∀v∈Tl n k i,Small v
 | 0,_,v,hv=>nomatch hv
 | i+1,hi,v,hv=>by
  have hv:v∈Tl n k i ++ [M12.bin n i*(M12.mbl 1 k n).getD i 0*(M12.mbl (k+1) n n).getD (n-i) 0]:=hv
  rcases AX.mp hv with hv | hv
  ·exact yP5 hn i (by rfl') v hv
  ·rw[DV] at hv
   rw[hv,M12.yL 1 k n i (by rfl'),M12.yL (k+1) n n (n-i) (by rfl')]
   obtain⟨b1,l1,h1⟩:=zI3 (m:=i) (i:=i) (l:=1) (k:=k) hn (by rfl')
   refine⟨48063,by decide,?_⟩
   have a:=M12.zJ6 (k+1) n (n-i) (by rfl')
   have a1:(M12.bin n i*M12.G 1 k i).natAbs<2 ^ (61+24001):=by
    have h:=yK4 (m:=i) hn
    have h0:=M12.jD n i
    have a:(M12.bin n i).natAbs<2 ^ 61:=by
     have:((M12.bin n i).natAbs:Int)<((2 ^ 61:Nat):Int):=by
      rw[Int.natAbs_of_nonneg h0]
      exact_mod_cast h
     exact_mod_cast this
    rw[Dx,Da]
    exact Nat.mul_lt_mul'' a (M12.zJ6 1 k i (by rfl'))
   rw[Dx,show (48063:Nat)=(61+24001)+24001 by decide,Da]
   exact Nat.mul_lt_mul'' a1 a
theorem zD8{n:Nat}{k:Int}{xs:List Int}(hn:n<=60)(hk:0<=k)(hx:chk (n:Int) 0 xs=true):vV [.int n,.int k,tI xs]=.ok (.int (gsum (Tl n k (n+1)) xs.length / M12.ff (n:Int) xs.length)):=by
 show (fS [some (.int n),some (.int k),some (tI xs),none]).bind (fin false)=_
 unfold fS
 have lx:=yC9 xs 0 (by rfl') hx
 have lt:(Tl n k (n+1)).length=n+1:=M12.wR _ _ _ _
 have hl:(xs.map PyData.int).length=xs.length:=Aa ..
 simp![zF8 hn hk,zD9 hx,hl,zT8 (n:=n) (s:=xs.length) lt hn (by rfl') (yP5 hn (n+1) (Ab _))]
structure NW(W:Str)(ns:List Nat):Prop where
 ok:PyData.strOk W=true
 len:W.length<=20
 f32:32∉tl W
 f10:10∉tl W
 f47:47∉tl W
 num:∀x∈ns,x<10 ^ 90
 few:ns.length<=60
def nrow(W:Str)(ns:List Nat):Str:=Str.join " " (W::ns.map nT)
theorem zE9{n:Nat}(h:n<10 ^ 90){c:Nat}(hc:c<48):c∉tl (nT n):=fun z=>by
 have:=((vR h).fig c z).1
 rfl'
section
variable {W:Str}{ns:List Nat}
theorem zR5(A:NW W ns):(nrow W ns).length<=6000/\10∉tl (nrow W ns)/\47∉tl (nrow W ns):=by
 have f:∀c,c<48->c≠32->c∉tl W->c∉tl (nrow W ns):=fun c h1 h2 h3=>by
  refine fV (fun z=>h2 (DV.mp z)) _ fun t ht => ?_
  rcases AM.mp ht with rfl | ht
  ·exact h3
  ·obtain⟨x,hx,rfl⟩:=AE.mp ht
   exact zE9 (A.num x hx) h1
 refine⟨?_,f 10 (by decide) (by decide) A.f10,f 47 (by decide) (by decide) A.f47⟩
 have j:=yA2 (sep:=" ") (ts:=W::ns.map nT) (B:=90) (n:=61) rfl (by have:=A.few;simp;rfl') (fun t ht=>by
  rcases AM.mp ht with rfl | ht
  ·have:=A.len
   rfl'
  ·obtain⟨x,hx,rfl⟩:=AE.mp ht
   exact (vR (A.num x hx)).len) (by decide)
 have:=j.2
 unfold nrow
 rfl'
theorem xY9(A:NW W ns):Txt.split (nrow W ns) " " = W::ns.map nT :=
 dZ (c:=32) (y':=[]) rfl (by decide +kernel) (fun z=>nomatch z) fun p hp=>by
  rcases AM.mp hp with rfl | hp
  ·exact A.f32
  ·obtain⟨x,hx,rfl⟩:=AE.mp hp
   exact zE9 (A.num x hx) (by decide)
theorem xA9{x:Str}(h:47∉tl x):Txt.partition x " / " = (x,Str.empty,Str.empty):=by
 unfold Txt.partition
 rcases StrLaws.occ_head x " / " 1 (Ab 1) with ⟨h0,_⟩ | ⟨i,r,_,hi,_⟩
 ·rw[h0]
 ·have e:=(yN8 (x:=x) (y:=" / ") (k:=i) (by decide)).mp hi
  have ty:tl (" / ":Str)=[32,47,32]:=rfl
  rw[ty] at e
  have m:47∈((tl x).drop i).take (" / ":Str).length:=by rw[e];simp
  exact absurd (List.mem_of_mem_drop (List.mem_of_mem_take m)) h
theorem zD1{b:Nat}(h:b<10 ^ 90):xG [.str (nT b),.int 1]=.ok (.int (b:Int)):=by
 have B:=vR h
 have lb:=qW
 have l80:=B.len
 have e1:lenTD [.str (nT b)]=some (.int ((nT b).length:Int)):=Ac (by rfl')
 have e2':intTD [.str (nT b)]=some (.int (b:Int)):=by
  show (if (nT b).length<=640 then (PySem.intText? (nT b)).map PyData.int else none)=_
  rw[Ac (by rfl'),B.int]
  rfl
 have e3:stwD (nT b) (.str "0")=some (.bool (Txt.startswith (nT b) "0")):=rfl
 show (uT [some (.str (nT b)),some (.int 1)]).bind (fin false)=_
 unfold uT
 rcases B.zero with n3 | n3
 ·simp![dR,xI,yC,B.dig,e1,Ad (show ¬(90:Int)<((nT b).length:Int) by rfl'),e3,n3,e2']
 ·have nn:neD (.str (nT b)) (.str "0")=some false:=by
   rw[<-n3,zR9 B.ok B.ok,Ag rfl]
   rfl
  have n2:=B.dig
  generalize Txt.startswith (nT b) "0" = v at e3
  cases v
  ·simp![dR,xI,yC,n2,e1,Ad (show ¬(90:Int)<((nT b).length:Int) by rfl'),e3,e2']
  ·simp![dR,xI,yC,n2,e1,Ad (show ¬(90:Int)<((nT b).length:Int) by rfl'),e3,nn,e2']
theorem zL6(A:NW W ns):xC [.list ((ns.map nT).map PyData.str),.int 1]=.ok (tI (rI' ns)):=by
 have cc:eComp (iS (eV 0)) tYes (eF xG (aC (eV 0) (aC (eV 1) aN))) [1] [some (.list ((ns.map nT).map PyData.str)),some (.int 1)]=.ok (.list (ns.map fun b:Nat=>PyData.int (b:Int))):=by
  refine yF (fun b:Nat=>PyData.str (nT b)) (fun b=>PyData.int (b:Int)) ns (by
   simp -implicitDefEqProofs only[(evA)]
   rw[Av]
   rfl) (by have:=A.few;rfl') fun b hb => ?_
  show eF xG (aC (eV 0) (aC (eV 1) aN)) [some (.str (nT b)),some (.int 1)]=_
  simp![zD1 (A.num b hb)]
 have e:(PyData.tuple (ns.map fun b:Nat=>PyData.int (b:Int)))=tI (rI' ns):=by
  unfold tI rI'
  rw[Av]
  rfl
 show (vD [some (.list ((ns.map nT).map PyData.str)),some (.int 1)]).bind (fin false)=_
 unfold vD
 simp![cc,e]
theorem xX2(A:NW W ns){x:Str}(h:yS [.str W,tI (rI' ns)]=.ok (.str x)):xV [.str (nrow W ns)]=.ok (.str x):=by
 have lb:=qW
 obtain⟨r1,r2,r3⟩:=zR5 A
 have ep:partD (nrow W ns) (.str " / ")=some (.tuple [.str (nrow W ns),.str "",.str ""]):=by
  unfold partD
  rw[yC,AR,Ac ⟨by decide,by rfl'⟩,xA9 r3]
  rfl
 have es:splD (nrow W ns) (.str " ")=some (.list (.str W::(ns.map nT).map PyData.str)):=by
  unfold splD
  rw[yC,AR,Ac ⟨by decide,by rfl'⟩,xY9 A]
  rfl
 have ec:cutD (PyData.str W::(ns.map nT).map PyData.str) (some 1) none=(ns.map nT).map PyData.str:=by
  rw[show (1:Int)=((1:Nat):Int) from rfl,yN5]
  rfl
 have a0:∀x y z:D,atI [x,y,z] 0=some x:=fun _ _ _=>rfl
 have a1:∀x y z:D,atI [x,y,z] 1=some y:=fun _ _ _=>rfl
 have ea:zL7 [.str (nrow W ns)]=.ok (.str x):=by
  show (zM5 [some (.str (nrow W ns)),none,none,none]).bind (fin false)=_
  unfold zM5
  simp![xI,yC,ep,a0,es,ec,zL6 A,a1,strEq pz.1,aM,h]
 have ty:∀(mb:Ev->Res Out) (ρ:Ev),sTryN mb ρ=noEx (mb ρ):=fun _ _=>rfl
 have nx:∀x:Out,noEx (Res.ok x)=.ok x:=fun _=>rfl
 show (uJ [some (.str (nrow W ns))]).bind (fin false)=_
 unfold uJ
 simp![ty,ea,nx]
end
theorem pn:PyData.strOk "share" = true/\PyData.strOk "good" = true/\PyData.strOk "goodorder" = true/\PyData.strOk "group" = true:=by decide +kernel
theorem yS1{n k N:Nat}(h1:1<=n)(h2:n<=60)(hN:N<gn k n):∃xs,Ord n xs/\Told k (List.range n) N (rgs n xs n)/\yS [.str "goodorder",tI (rI' [n,k,N])]=.ok (.str (ordT n xs)):=by
 obtain⟨z1,z2,z3,z4⟩:=pn
 obtain⟨xs,o,T,e⟩:=xY2 h1 (show n<=60 by rfl') hN
 refine⟨xs,o,T,?_⟩
 have l3:((rI' [n,k,N]).map PyData.int).length=3:=rfl
 have a0:atI ((rI' [n,k,N]).map PyData.int) 0=some (.int (n:Int)):=rfl
 have a1:atI ((rI' [n,k,N]).map PyData.int) 1=some (.int (k:Int)):=rfl
 have a2:atI ((rI' [n,k,N]).map PyData.int) 2=some (.int (N:Int)):=rfl
 show (yU [some (.str "goodorder"),some (tI (rI' [n,k,N]))]).bind (fin false)=_
 unfold yU
 simp![strNe z3 z1 (by decide +kernel),strNe z3 z2 (by decide +kernel),strEq z3,l3,xB,show ((3:Nat):Int)=3 from rfl,decide_true,a0,a1,a2,e,zX9 o h1 (show n<=60 by rfl')]
theorem xJ6{c n:Nat}(h:c<n):M12.ff (c:Int) n=0:=by
 have:=zA5 c (n-(c+1))
 rw[show c+1+(n-(c+1))=n by rfl'] at this
 exact this
theorem xO5{n k:Nat}:gsum (Tl n (k:Int) (n+1)) n / M12.ff (n:Int) n=((gn k n:Nat):Int):=by
 have lt:(Tl n (k:Int) (n+1)).length=n+1:=M12.wR _ _ _ _
 have last:(Tl n (k:Int) (n+1)).getD n 0=((gn k n:Nat):Int):=by
  unfold Tl
  rw[M12.tells,List.getD,Bo (by rw[M12.wR];exact Ab _),M12.wR,Nat.sub_self]
  show M12.bin n n*(M12.mbl 1 (k:Int) n).getD n 0*(M12.mbl ((k:Int)+1) n n).getD 0 0=_
  rw[M12.yP6,M12.yL _ _ _ _ (Ab _),M12.yL _ _ _ _ (Bk _),jB]
  show 1*((gn k n:Nat):Int)*M12.G ((k:Int)+1) n 0=_
  rw[M12.zT5,Cp,DW]
 have p:=zW8 n n (Ab _)
 unfold gsum
 rw[lt,Ch,AK,List.sum_append,show ((List.range n).map fun (c:Nat)=>(Tl n (k:Int) (n+1)).getD c 0*M12.ff (c:Int) n)=(List.range n).map fun _=>(0:Int) from Bf fun c hc=>by rw[xJ6 (AB.mp hc),BT]]
 have z:((List.range n).map fun _=>(0:Int)).sum=0:=by
  rw[List.map_const']
  induction (List.range n).length with
  | zero=>rfl
  | succ m ih=>rw[Bl,List.sum_cons,ih];rfl
 rw[z,Cz,List.map_singleton,List.sum_singleton,last]
 exact Int.mul_ediv_cancel _ (by rfl')
theorem yX5(p:Int):∀(m a:Nat),(a:Int)+(m:Int)<=p->chk p (a:Int) ((List.range' a m).map fun (i:Nat)=>(i:Int))=true
 | 0,_,_=>rfl
 | m+1,a,h=>by
  rw[List.range'_succ,AI]
  have ih:=yX5 p m (a+1) (by rfl')
  rw[chk]
  have e:(((a+1:Nat):Nat):Int)=(a:Int)+1:=by rfl'
  rw[e] at ih
  rw[AV]
  exact⟨Ag ⟨BK _,by rfl'⟩,ih⟩
theorem xG3(n:Nat)(c:Int):sortI (List.replicate n c)=List.replicate n c:=by
 refine List.eq_replicate_iff.mpr ⟨?_,fun x hx => ?_⟩
 ·rw[(xM _).length_eq,BL]
 ·exact List.eq_of_mem_replicate ((xM _).mem_iff.mp hx)
theorem wV2{n k:Nat}(hk:k<=n):Opn n (rI' (List.replicate n k)):=by
 have e:rI' (List.replicate n k)=List.replicate n (k:Int):=by unfold rI';rw[BZ]
 rw[e]
 exact⟨BL,fun x hx=>by rw[List.eq_of_mem_replicate hx];rfl'⟩
theorem zT7{F G:Nat->Int}:∀n,(∀i,F i<=G i)->M12.sumN F n<=M12.sumN G n
 | 0,_=>BK _
 | n+1,h=>by
  have a:=zT7 n h
  have b:=h n
  show M12.sumN F n+F n<=M12.sumN G n+G n
  rfl'
theorem xS5{n o o':Nat}(ho:o<=o'){v v':Nat->Int}(h:∀q,0<=v q/\v q<=v' q)(q:Nat):0<=M12.stepM n o v q/\M12.stepM n o v q<=M12.stepM n o' v' q:=by
 have z:∀m,M12.sumN (fun _=>(0:Int)) m=0:=fun m=>by
  induction m with
  | zero=>rfl
  | succ m ih =>
   show M12.sumN (fun _=>(0:Int)) m+0=0
   rw[ih]
   rfl
 have s1:0<=M12.sumN (fun p=>if M12.inWin o q p then v p else 0) (n+1):=by
  have m:=zT7 (F:=fun _=>0) (G:=fun p=>if M12.inWin o q p then v p else 0) (n+1) fun p=>by
   show 0<=(if M12.inWin o q p=true then v p else 0)
   split
   ·exact (h p).1
   ·exact BK _
  rw[z (n+1)] at m
  exact m
 have s2:M12.sumN (fun p=>if M12.inWin o q p then v p else 0) (n+1)<=M12.sumN (fun p=>if M12.inWin o' q p then v' p else 0) (n+1):=by
  refine zT7 (n+1) fun p => ?_
  show (if M12.inWin o q p=true then v p else 0)<=(if M12.inWin o' q p=true then v' p else 0)
  by_cases c:M12.inWin o q p=true
  ·have c':M12.inWin o' q p=true:=by
    unfold M12.inWin at c ⊢
    have:=of_decide_eq_true c
    exact Ag ⟨this.1,by rfl'⟩
   rw[Ac c,Ac c']
   exact (h p).2
  ·rw[Ah c]
   have:=h p
   split
   ·rfl'
   ·exact BK _
 have hq:=h (q+1)
 unfold M12.stepM
 generalize M12.sumN (fun p=>if M12.inWin o q p then v p else 0) (n+1)=S at s1 s2 ⊢
 generalize M12.sumN (fun p=>if M12.inWin o' q p then v' p else 0) (n+1)=S' at s2 ⊢
 split
 ·have a:0<=((q:Int)+1)*v (q+1):=Dc (by rfl') hq.1
  have b:((q:Int)+1)*v (q+1)<=((q:Int)+1)*v' (q+1):=Cc hq.2 (by rfl')
  exact⟨by rfl',by rfl'⟩
 ·exact⟨by rfl',by rfl'⟩
theorem yK7(n:Nat):∀os:List Nat,(∀o∈os,o<=n)->∀q,0<=M12.runM n os.reverse q/\M12.runM n os.reverse q<=M12.runM n (List.replicate os.length n) q
 | [],_,q=>by
  refine⟨?_,BK _⟩
  show 0<=M12.e0 q
  unfold M12.e0
  split <;> decide
 | o::os,h,q=>by
  rw[CV,M12.jL,Ax,List.replicate_succ',M12.jL]
  exact xS5 (h o Af) (yK7 n os fun o ho=>h o (Aj _ ho)) q
theorem wY8{n:Nat}{ops:List Int}(q:Opn n ops):M12.runM n ((sortI ops).map Int.toNat) 0<=((gn n n:Nat):Int):=by
 have h:=yK7 n ((sortI ops).map Int.toNat).reverse (fun o ho=>by
  obtain⟨x,hx,rfl⟩:=AE.mp (List.mem_reverse.mp ho)
  have:=q.bd x ((xM _).mem_iff.mp hx)
  rfl') 0
 rw[DJ,List.length_reverse,Aa,(xM _).length_eq,q.len,yY3 n n] at h
 exact h.2
theorem xR9{n:Nat}{os:List Nat}(q:Opn n (rI' os))(h1:1<=n)(h2:n<=60):∃F W:Nat,M12.runM n ((sortI (rI' os)).map Int.toNat) 0=(F:Int)/\M12.fac n=(W:Int)/\0<W/\W<10 ^ 89/\F<10 ^ 89/\yS [.str "share",tI (rI' os)]=.ok (.str (Str.join " of " [nT (F / Nat.gcd W F),nT (W / Nat.gcd W F)])):=by
 obtain⟨z1,z2,z3,z4⟩:=pn
 obtain⟨W,hW,hW1,hW2⟩:=yB6 n (by rfl')
 obtain⟨F,hF,hF2⟩:=xD6 q (show n<=60 by rfl')
 have es:=xJ4 q h1 (show n<=60 by rfl') hF hF2 hW hW1 hW2
 have gs:=zC7 (k:=n) h2
 have hFg:=wY8 q
 rw[hF] at hFg
 have Wl:W<10 ^ 89:=by
  have z:=zM3 h2
  rw[dE] at hW
  rw[<-CS.mp hW]
  exact z
 have t79:(10:Nat) ^ 79<10 ^ 90:=by decide +kernel
 have d1:Nat.gcd W F ∣ F:=Nat.gcd_dvd_right _ _
 have d2:Nat.gcd W F ∣ W:=Nat.gcd_dvd_left _ _
 have la:=CQ F (Nat.gcd W F)
 have lb:=CQ W (Nat.gcd W F)
 have gp:0<Nat.gcd W F:=Dr _ hW1
 refine⟨F,W,hF,hW,hW1,Wl,by rfl',?_⟩
 ·generalize F / Nat.gcd W F=a at es la
  generalize W / Nat.gcd W F=b at es lb
  have na:=vR (show a<10 ^ 90 by rfl')
  have nb:=vR (show b<10 ^ 90 by rfl')
  have so:∀c,c=a\/c=b->strOfD [.int (c:Int)]=some (.str (nT c)):=fun c hc=>by
   rcases hc with rfl | rfl
   ·exact Ac na.log
   ·exact Ac nb.log
  have cc:eComp (iS (eF zQ1 (aC (eV 0) aN))) tYes (eB strOfD (aC (eV 0) aN)) [] [some (tI (rI' os))]=.ok (.list (([a,b].map nT).map PyData.str)):=by
   rw[Av]
   refine yF (fun c:Nat=>PyData.int (c:Int)) (fun c=>PyData.str (nT c)) [a,b] (by
    simp![es]
    rfl) (show 2<=1000 by decide) fun c hc => ?_
   have hc:c=a\/c=b:=by simpa using hc
   show eB strOfD (aC (eV 0) aN) [some (.int (c:Int))]=_
   simp![so c hc]
  have jd:joinD " of " (.list (([a,b].map nT).map PyData.str))=some (.str (Str.join " of " [nT a,nT b])):=by
   refine gZ ?_
   unfold JoinOk
   rw[StrLaws.joinFits (sep:=" of ") (B:=90) (texts:=[a,b].map nT) (fun t ht => ?_) (show 2*90+2*4<=16777216 by decide)]
   ·rfl
   ·obtain⟨c,hc,rfl⟩:=AE.mp ht
    have hc:c=a\/c=b:=by simpa using hc
    rcases hc with rfl | rfl
    ·exact na.len
    ·exact nb.len
  have et:cZ [tI (rI' os)]=.ok (.str (Str.join " of " [nT a,nT b])):=by
   show (cX [some (tI (rI' os))]).bind (fin false)=_
   unfold cX
   simp![xI,yC,cc,jd]
  show (yU [some (.str "share"),some (tI (rI' os))]).bind (fin false)=_
  unfold yU
  simp![strEq z1,et]
theorem xC2{n k:Nat}(h2:n<=60):yS [.str "good",tI (rI' [n,k])]=.ok (.str (nT (gn k n))):=by
 obtain⟨z1,z2,z3,z4⟩:=pn
 have l2:((rI' [n,k]).map PyData.int).length=2:=rfl
 have a0:atI ((rI' [n,k]).map PyData.int) 0=some (.int (n:Int)):=rfl
 have a1:atI ((rI' [n,k]).map PyData.int) 1=some (.int (k:Int)):=rfl
 have e:=yK9 (n:=n) (k:=(k:Int)) (by rfl') (by rfl')
 rw[jB] at e
 have so:strOfD [.int ((gn k n:Nat):Int)]=some (.str (nT (gn k n))):=Ac (vR (Bz (zC7 h2) (by decide +kernel))).log
 show (yU [some (.str "good"),some (tI (rI' [n,k]))]).bind (fin false)=_
 unfold yU
 simp![strNe z2 z1 (by decide +kernel),strEq z2,l2,xB,show ((2:Nat):Int)=2 from rfl,decide_true,a0,a1,e,so]
theorem xV5(c:Int)(n:Nat)(hn:n<=1000):cA [.int c,.int n]=.ok (tI (lawOrd c n).1):=by
 show (zU7 [some (.int c),some (.int n),none,none]).bind (fin false)=_
 unfold zU7
 simp![uK hn]
 obtain⟨ρ',e,x,rfl⟩:=uM (g:=gN 3) (b:=sQ (sM 2 insD (aC (e2 modI (eV 0) (e2 addI (eV 3) (eC (.int 1)))) (aC (eV 3) aN))) (sS 0 (e2 fdivI (eV 0) (e2 addI (eV 3) (eC (.int 1))))))
  (fun i ρ=>∃x,ρ=[some (.int (lawOrd c i).2),some (.int n),some (lI (lawOrd c i).1),x]) ((List.range n).map fun (i:Nat)=>PyData.int (i:Int)) [some (.int c),some (.int n),some (.list []),none] ⟨none,rfl⟩ (by
   rintro i d ρ hd ⟨x,rfl⟩
   obtain⟨hi,rfl⟩:=dH hd
   refine⟨_,_,rfl,?_,some (.int i),rfl⟩
   have hl:(lawOrd c i).1.length=i:=(zE7 c i).len
   have h1:(0:Int)<(i:Int)+1:=by rfl'
   have h2:=Int.emod_nonneg (lawOrd c i).2 (show ((i:Int)+1)≠0 by rfl')
   have h3:=Int.emod_lt_of_pos (lawOrd c i).2 h1
   simp![modO,fdivO,Ac h1,Ac (DivOk.small h1 (by rfl')),wI8 (l:=(lawOrd c i).1.map PyData.int) (d:=.int i) h2 (by rw[Aa,hl];rfl') (by rw[Aa,hl];rfl')]
   simp only[lawOrd,insAt,lI,AK,AI,List.map_take,List.map_drop])
 rw[Aa,Aq] at e
 rw[e]
 rfl
theorem yT8(c:Int){n:Nat}(h2:n<=60):∃ops,Opn n ops/\jA [.int c,.int n]=.ok (tI ops):=by
 have key:∃ops c' x,Opn n ops/\L3.forM (gN 3) (sQ (sM 2 appD (aC (e2 modI (eV 0) (e2 addI (eV 1) (eC (.int 1)))) aN)) (sS 0 (e2 fdivI (eV 0) (e2 addI (eV 1) (eC (.int 1)))))) ((List.range n).map fun (i:Nat)=>PyData.int (i:Int)) [some (.int c),some (.int n),some (.list []),none]=.ok (.nx [some (.int c'),some (.int n),some (lI ops),x]):=by
  obtain⟨ρ',e,c',ops,x,rfl,hl,hb⟩:=uM (g:=gN 3) (b:=sQ (sM 2 appD (aC (e2 modI (eV 0) (e2 addI (eV 1) (eC (.int 1)))) aN)) (sS 0 (e2 fdivI (eV 0) (e2 addI (eV 1) (eC (.int 1))))))
   (fun i ρ=>∃c' ops x,ρ=[some (.int c'),some (.int n),some (lI ops),x]/\ops.length=i/\∀y∈ops,0<=y/\y<=(n:Int)) ((List.range n).map fun (i:Nat)=>PyData.int (i:Int)) [some (.int c),some (.int n),some (.list []),none] ⟨c,[],none,rfl,rfl,fun y h=>nomatch h⟩ (by
    rintro i d ρ hd ⟨c',ops,x,rfl,hl,hb⟩
    obtain⟨hi,rfl⟩:=dH hd
    have h0:(0:Int)<(n:Int)+1:=by rfl'
    have m1:=Int.emod_nonneg c' (show ((n:Int)+1)≠0 by rfl')
    have m2:=Int.emod_lt_of_pos c' h0
    refine⟨_,_,rfl,?_,c' / ((n:Int)+1),ops ++ [c'%((n:Int)+1)],some (.int i),rfl,by rw[An,hl];rfl,fun y hy => ?_⟩
    ·simp![modO,fdivO,Ac h0,Ac (DivOk.small h0 (by rfl')),gC (l:=ops.map PyData.int) (by rw[Aa];rfl')]
     simp only[lI,AK,AI,Cj]
    ·rcases AX.mp hy with hy | hy
     ·exact hb y hy
     ·have:y=c'%((n:Int)+1):=by simpa using hy
      rfl')
  rw[Aa,Aq] at hl
  exact⟨ops,c',x,⟨hl,hb⟩,e⟩
 obtain⟨ops,c',x,hO,e⟩:=key
 refine⟨ops,hO,?_⟩
 show (cP [some (.int c),some (.int n),none,none]).bind (fin false)=_
 unfold cP
 simp![uK (show n<=1000 by rfl'),e]
structure PrA(p:Str×Str):Prop where
 ans:xV [.str p.1]=.ok (.str p.2)
 l1:p.1.length<=13000
 f1:10∉tl p.1
 l2:p.2.length<=13000
 f2:10∉tl p.2
 ok:PyData.strOk p.2=true
section
variable {L:List (Str×Str)}
theorem prs(hg:∀p∈L,PrA p):((∀t∈L.map Prod.fst,t.length<=13000)/\∀t∈L.map Prod.fst,10∉tl t)/\((∀t∈L.map Prod.snd,t.length<=13000)/\∀t∈L.map Prod.snd,10∉tl t):=by
 refine⟨⟨fun t ht => ?_,fun t ht => ?_⟩,⟨fun t ht => ?_,fun t ht => ?_⟩⟩ <;> (obtain⟨p,hp,rfl⟩:=AE.mp ht)
 ·exact (hg p hp).l1
 ·exact (hg p hp).f1
 ·exact (hg p hp).l2
 ·exact (hg p hp).f2
theorem yG3(h0:L ≠ [])(hl:L.length<=12)(hg:∀p∈L,PrA p):dU [.str (Str.join "\n" (L.map Prod.fst))]=.ok (.str (Str.join "\n" (L.map Prod.snd))):=by
 obtain⟨⟨r1,r2⟩,a1,a2⟩:=prs hg
 have s:=yO5 (ts:=L.map Prod.fst) (fun z=>h0 (Bw.mp z)) (by rw[Aa];exact hl) r1 r2
 have j:=gZ (zK2 (ts:=L.map Prod.snd) (by rw[Aa];exact hl) a1).1
 have cc:eComp (iS (eM1S splD (eV 0) (eC (.str "\n")))) tYes (eF xV (aC (eV 0) aN)) [] [some (.str (Str.join "\n" (L.map Prod.fst)))]=.ok (.list ((L.map Prod.snd).map PyData.str)):=by
  rw[Av]
  refine yF (fun p:Str×Str=>PyData.str p.1) (fun p=>PyData.str p.2) L (by
   simp![xI,yC,s]
   rw[Av]
   rfl) (by rfl') fun p hp => ?_
  show eF xV (aC (eV 0) aN) [some (.str p.1)]=_
  simp![(hg p hp).ans]
 show (aO [some (.str (Str.join "\n" (L.map Prod.fst)))]).bind (fin false)=_
 unfold aO
 simp![xI,yC,cc,j]
theorem xI2(h0:L ≠ [])(hl:L.length<=12)(hg:∀p∈L,PrA p):splD (Str.join "\n" (L.map Prod.snd)) (.str "\n")=some (.list ((L.map Prod.snd).map PyData.str)):=by
 obtain⟨_,a1,a2⟩:=prs hg
 exact yO5 (fun z=>h0 (Bw.mp z)) (by rw[Aa];exact hl) a1 a2
end
theorem xQ5{W:Str}{ns:List Nat}(h:ns ≠ []){V:Str}(e:V=W ++ " "):V++Str.join " " (ns.map nT)=nrow W ns:=by
 unfold nrow
 rw[xX7 _ _ (fun z=>h (Bw.mp z)),<-yX8,<-e]
theorem nw{W:Str}(h:PyData.strOk W=true/\W.length<=20/\32∉tl W/\10∉tl W/\47∉tl W){ns:List Nat}(hn:∀x∈ns,x<10 ^ 90)(hl:ns.length<=60):NW W ns:=⟨h.1,h.2.1,h.2.2.1,h.2.2.2.1,h.2.2.2.2,hn,hl⟩
theorem wd:∀W∈(["group","share","goodorder","good"]:List Str),PyData.strOk W=true/\W.length<=20/\32∉tl W/\10∉tl W/\47∉tl W:=by decide +kernel
theorem small80{a:Nat}(h:a<=1000):a<10 ^ 90:=AT h (by decide +kernel)
theorem bB{m:Nat}(h:m<10 ^ 90):(nT m).length<=13000/\10∉tl (nT m)/\PyData.strOk (nT m)=true:=⟨AH (vR h).len (by decide),zE9 h (by decide),(vR h).ok⟩
theorem xN6(k:Nat)(hk:1<=k):∀m,0<gn k m
 | 0=>by rw[zA8];exact Nat.one_pos
 | m+1=>by
  rw[aW]
  have h:=jO (gn k) (m+1) (i:=1) (j:=min k (m+1)) (by rfl')
  have e:smN (gn k) (m+1) 1=0+1*gn k m:=rfl
  have:=xN6 k hk m
  rfl'
theorem bW{n k:Nat}(hn:n<=60):vJ [.int n,.int k]=.ok (.int ((gn k n:Nat):Int)):=by
 rw[<-jB]
 show (zL3 [some (.int n),some (.int (k:Int)),none,none,none,none,none]).bind (fin false)=_
 unfold zL3
 simp![aG (m:=(n:Int)) (by rfl') (by rfl'),AW]
 refine vU (fun i ρ=>∃c t w x,ρ=[some (.int n),some (.int (k:Int)),some (lI (M12.mbl 1 (k:Int) i)),c,t,w,x]) ⟨none,none,none,none,rfl⟩ ?_ ?_
 ·rintro i d ρ hd ⟨c,t,w,x,rfl⟩
  obtain⟨hi,rfl⟩:=vK hd
  have hlen:(M12.mbl 1 (k:Int) i).length=i+1:=M12.xZ 1 (k:Int) i
  have hm:(if (i:Int)+1<(k:Int) then (i:Int)+1 else (k:Int))=min (k:Int) ((i:Int)+1):=by split <;> rfl'
  have inner:∃y,L3.forM (gN 6) (sQ (sS 4 (e2 addI (eV 4) (e2 mulI (eV 5) (e2 ixD (eV 2) (e2 subI (eV 3) (eV 6)))))) (sS 5 (e2 mulI (eV 5) (e2 subI (eV 3) (eV 6))))) ((List.range (min (k:Int) ((i:Int)+1)).toNat).map fun (j:Nat)=>PyData.int ((j:Int)+1))
    [some (.int n),some (.int (k:Int)),some (lI (M12.mbl 1 (k:Int) i)),some (.int ((i:Int)+1)),some (.int 0),some (.int 1),x]=.ok (.nx [some (.int n),some (.int (k:Int)),some (lI (M12.mbl 1 (k:Int) i)),some (.int ((i:Int)+1)),some (.int (M12.tot 1 (M12.mbl 1 (k:Int) i) (min (k:Int) ((i:Int)+1)).toNat)),some (.int (M12.ff (((i+1:Nat):Int)-1) (min (k:Int) ((i:Int)+1)).toNat)),y]):=by
   obtain⟨ρ',e,y,rfl⟩:=uM (g:=gN 6) (b:=sQ (sS 4 (e2 addI (eV 4) (e2 mulI (eV 5) (e2 ixD (eV 2) (e2 subI (eV 3) (eV 6)))))) (sS 5 (e2 mulI (eV 5) (e2 subI (eV 3) (eV 6)))))
    (fun j ρ=>∃y,ρ=[some (.int n),some (.int (k:Int)),some (lI (M12.mbl 1 (k:Int) i)),some (.int ((i:Int)+1)),some (.int (M12.tot 1 (M12.mbl 1 (k:Int) i) j)),some (.int (M12.ff (((i+1:Nat):Int)-1) j)),y]) ((List.range (min (k:Int) ((i:Int)+1)).toNat).map fun (j:Nat)=>PyData.int ((j:Int)+1))
    [some (.int n),some (.int (k:Int)),some (lI (M12.mbl 1 (k:Int) i)),some (.int ((i:Int)+1)),some (.int 0),some (.int 1),x] ⟨x,rfl⟩ (by
     rintro j d ρ hd ⟨y,rfl⟩
     obtain⟨hj,rfl⟩:=vK hd
     have hj1:j<i+1:=by rfl'
     have ii:i<60:=by rfl'
     obtain⟨q1,q2,q3⟩:=le61 hj1 ii
     have hv:=uR (xs:=M12.mbl 1 (k:Int) i) (i:=(i:Int)+1-((j:Int)+1)) (j:=i-j) (castT hj1) (by rw[hlen];exact Nat.lt_succ_of_le (CM _ _))
     rw[M12.yL 1 (k:Int) i (i-j) (CM _ _)] at hv
     have e2:M12.ff (((i+1:Nat):Int)-1) j*((i:Int)+1-((j:Int)+1))=M12.ff (((i+1:Nat):Int)-1) (j+1):=by
      rw[M12.ff]
      congr 1
      rfl'
     have m1:=xA (i:=M12.ff (((i+1:Nat):Int)-1) j) (j:=M12.G 1 (k:Int) (i-j)) (.inr ⟨zM6 q1 q2,zP1 q3⟩)
     have m2:=xA (i:=M12.ff (((i+1:Nat):Int)-1) j) (j:=(i:Int)+1-((j:Int)+1)) (mulT hj1 ii)
     refine⟨_,_,rfl,?_,some (.int ((j:Int)+1)),rfl⟩
     simp![hv,m1,m2,e2]
     rw[M12.tot,Ac (by rfl'),hlen,AS,M12.yL 1 (k:Int) i (i-j) (CM _ _)])
   rw[Aa,Aq] at e
   exact⟨y,e⟩
  obtain⟨y,inner⟩:=inner
  refine⟨_,_,rfl,?_,some (.int ((i:Int)+1)),some (.int (M12.tot 1 (M12.mbl 1 (k:Int) i) (min (k:Int) ((i:Int)+1)).toNat)),some (.int (M12.ff (((i+1:Nat):Int)-1) (min (k:Int) ((i:Int)+1)).toNat)),y,rfl⟩
  simp![min2D,hm,aG (m:=min (k:Int) ((i:Int)+1)) (by rfl') (by rfl'),inner,gC (l:=(M12.mbl 1 (k:Int) i).map PyData.int) (by rw[Aa];rfl')]
  simp only[M12.mbl,lI,AK,AI,Cj]
 ·rintro ρ ⟨c,t,w,x,rfl⟩
  rw[Aa,Aq]
  have hv:=uR (xs:=M12.mbl 1 (k:Int) n) (i:=(n:Int)) (j:=n) rfl (by rw[M12.xZ];exact DB _)
  rw[M12.yL 1 (k:Int) n n (Ab _)] at hv
  simp![hv]
theorem qC{ns:List Nat}{d:D}(hd:d=tI (rI' ns)\/d=lI (rI' ns))(h:∀x∈ns,x<10 ^ 90)(hl:ns.length<=60):yK [d]=.ok (.str (Str.join " " (ns.map nT))):=by
 have cc:eComp (iS (eV 0)) tYes (eB strOfD (aC (eV 0) aN)) [] [some d]=.ok (.list ((ns.map nT).map PyData.str)):=by
  rw[Av]
  refine yF (fun b:Nat=>PyData.int (b:Int)) (fun b=>PyData.str (nT b)) ns (by
   rcases hd with rfl | rfl
   ·simp -implicitDefEqProofs only[(evA)]
    unfold rI'
    rw[Av]
    rfl
   ·simp -implicitDefEqProofs only[(evA)]
    unfold rI'
    rw[Av]
    rfl) (by rfl') fun b hb => ?_
  have e:strOfD [.int (b:Int)]=some (.str (nT b)):=Ac (vR (h b hb)).log
  show eB strOfD (aC (eV 0) aN) [some (.int (b:Int))]=_
  simp![e]
 have jd:=gZ (yA2 (sep:=" ") (ts:=ns.map nT) (B:=90) (n:=60) rfl (by rw[Aa];exact hl) (fun t ht=>by
  obtain⟨x,hx,rfl⟩:=AE.mp ht
  exact (vR (h x hx)).len) (by decide)).1
 show (zX2 [some d]).bind (fin false)=_
 unfold zX2
 simp![xI,yC,cc,jd]
theorem zM9{n:Nat}(h1:1<=n)(h2:n<=60):vT [.int n]=.ok (.int (M12.fac n)):=by
 show (zC6 [some (.int n),none,none]).bind (fin false)=_
 unfold zC6
 have rg:=zZ4 (a:=2) (b:=n+1) (by rfl') (by rfl')
 rw[show ((2:Nat):Int)=2 from rfl,show ((n+1:Nat):Int)=(n:Int)+1 by rfl'] at rg
 simp![rg]
 refine vU (fun i ρ=>∃a,ρ=[some (.int n),some (.int (M12.fac (i+1))),a]) ⟨none,rfl⟩ ?_ ?_
 ·rintro i d ρ hd ⟨a,rfl⟩
  obtain⟨hi,rfl⟩:=vK hd
  have m1:=xA (i:=M12.fac (i+1)) (j:=((2+i:Nat):Int)) (MulOk.right (by rfl') (by rfl'))
  refine⟨_,_,rfl,?_,some (.int ((2+i:Nat):Int)),rfl⟩
  simp![m1]
  rw[show M12.fac (i+1+1)=M12.fac (i+1)*((2+i:Nat):Int) from Bc (M12.fac (i+1) * ·) (by rfl')]
 ·rintro ρ ⟨a,rfl⟩
  rw[Aa,Aq,show n+1-2+1=n by rfl']
  simp -implicitDefEqProofs only[(evA)]
theorem zG3{n:Nat}{xs:List Int}(o:Ord n xs)(hn:n<=400):uE [tI xs]=.ok (.list ((rgs n xs n).map fun r=>lI (rI' r))):=xL8 o hn
abbrev tT:Ev->Res Bool:=b2 gtI (eV 2) (eC (.int 0))
abbrev tB:Ev->Res Out:=sQ (sS 4 (e2 modI (eV 3) (eV 2))) (sQ (sS 3 (eV 2)) (sS 2 (eV 4)))
section
variable {x y:Option D}
theorem wF3(a b:Nat)(hb:0<b)(r:Option D):tB [x,y,some (.int b),some (.int a),r]=.ok (.nx [x,y,some (.int ((a%b:Nat):Int)),some (.int b),some (.int ((a%b:Nat):Int))]):=by
 have m:modO (a:Int) (b:Int)=some ((a%b:Nat):Int):=by
  unfold modO
  rw[Ac (by rfl')]
  congr 1
 unfold tB
 simp![m]
theorem yN9{f a:Nat}{r:Option D}:whM tT tB (f+1) [x,y,some (.int ((0:Nat):Int)),some (.int a),r]=.ok (.nx [x,y,some (.int ((0:Nat):Int)),some (.int ((Nat.gcd a 0:Nat):Int)),r]):=by
 rw[whM,Nat.gcd_zero_right]
 show (tT [x,y,some (.int ((0:Nat):Int)),some (.int a),r]).bind _=_
 unfold tT
 simp![Ad (show ¬(0:Int)<((0:Nat):Int) by rfl')]
theorem xT1{f a b:Nat}{r:Option D}(hb:0<b):whM tT tB (f+1) [x,y,some (.int b),some (.int a),r]=whM tT tB f [x,y,some (.int ((a%b:Nat):Int)),some (.int b),some (.int ((a%b:Nat):Int))]:=by
 rw[whM]
 have t:tT [x,y,some (.int b),some (.int a),r]=.ok true:=by
  unfold tT
  simp![Ag (show (0:Int)<(b:Int) by rfl')]
 rw[t,Res.bind_ok,Ac rfl,wF3 a b hb,Res.bind_ok]
theorem xO7:∀(k a b fuel:Nat) (r:Option D),b<2 ^ k->2*k<fuel->∃r',whM tT tB fuel [x,y,some (.int b),some (.int a),r]=.ok (.nx [x,y,some (.int ((0:Nat):Int)),some (.int ((Nat.gcd a b:Nat):Int)),r'])
 | 0,a,b,fuel,r,hb,hf=>by
  obtain rfl:b=0:=by simp at hb;exact hb
  obtain⟨f,rfl⟩:∃f,fuel=f+1:=⟨fuel-1,by rfl'⟩
  exact⟨r,yN9⟩
 | k+1,a,b,fuel,r,hb,hf=>by
  obtain⟨f,rfl⟩:∃f,fuel=f+1+1:=⟨fuel-2,by rfl'⟩
  rcases BY b with z | z
  ·subst z
   exact⟨r,yN9⟩
  ·rw[xT1 z,zY6 a b]
   rcases BY (a%b) with y | y
   ·rw[y]
    exact⟨_,yN9⟩
   ·rw[xT1 y,zY6 b (a%b)]
    refine xO7 k _ _ f _ ?_ (by rfl')
    have h1:=Bp a z
    have h2:=Bp b y
    have h3:b%(a%b)+(a%b)<=b:=by
     have:=Nat.mod_add_div b (a%b)
     have hq:1<=b / (a%b):=Nat.div_pos (by rfl') y
     have:(a%b)*1<=(a%b)*(b / (a%b)):=Df _ hq
     rfl'
    rw[Nat.pow_succ] at hb
    rfl'
end
def shT(F W:Nat):Str:=Str.join " of " [nT (F / Nat.gcd W F),nT (W / Nat.gcd W F)]
theorem zG1{F W:Nat}(hF:F<10 ^ 89)(hW:0<W)(hW2:W<10 ^ 89):jH [.int F,.int W]=.ok (.str (shT F W)):=by
 have p1:(10:Nat) ^ 89<2 ^ 1000:=by decide +kernel
 have p2:(10:Nat) ^ 89<10 ^ 90:=by decide +kernel
 obtain⟨r,e⟩:=xO7 (x:=some (.int (F:Int))) (y:=some (.int (W:Int))) 1000 W F 1000000 none (by rfl') (by decide)
 have gp:0<Nat.gcd W F:=Dr _ hW
 have gl:Nat.gcd W F<2 ^ 1000:=AT (Nat.gcd_le_left _ hW) (by rfl')
 have dv:=yZ7 gp gl
 have la:=CQ F (Nat.gcd W F)
 have lb:=CQ W (Nat.gcd W F)
 unfold shT
 generalize Nat.gcd W F=g at e dv la lb
 have d1:fdivO (F:Int) (g:Int)=some ((F / g:Nat):Int):=Ac dv
 have d2:fdivO (W:Int) (g:Int)=some ((W / g:Nat):Int):=Ac dv
 have na:=vR (show F / g<10 ^ 90 by rfl')
 have nb:=vR (show W / g<10 ^ 90 by rfl')
 generalize F / g=a at d1 na la
 generalize W / g=b at d2 nb lb
 have s1:strOfD [.int (a:Int)]=some (.str (nT a)):=Ac na.log
 have s2:strOfD [.int (b:Int)]=some (.str (nT b)):=Ac nb.log
 have of4:(" of ":Str).length=4:=rfl
 have l1:=na.len
 have l2:=nb.len
 have lb:=qW
 have c1:catS (.str (nT a)) (.str " of ")=some (.str (nT a ++ " of ")):=Ac (by rfl')
 have c2:catS (.str (nT a ++ " of ")) (.str (nT b))=some (.str (Str.join " of " [nT a,nT b])):=Ac (by rw[Bi];rfl')
 show (zT2 [some (.int (F:Int)),some (.int (W:Int)),none,none,none]).bind (fin false)=_
 unfold zT2
 simp![e,d1,d2,s1,s2,c1,c2]
def alG(os:List Nat)(r:List Nat):Bool:=decide ((r.length:Int)<=minL (r.map fun b=>((os.getD b 0:Nat):Int)))
theorem wY6{n:Nat}{xs:List Int}{os:List Nat}(o:Ord n xs)(h:n<6):(rgs n xs n).all (alG os)=allC n os (code n xs):=by
 have ok:=o.uH n (Ab n)
 unfold allC
 rw[Cg,Bv,Bv]
 constructor
 ·intro H p hp
  have hp:=AB.mp hp
  obtain⟨r,hr,hm⟩:=ok.cover p hp
  obtain⟨b,hb,rfl,_⟩:=ok.each r hr
  have h1:=of_decide_eq_true (H _ hr)
  rw[jX] at h1
  have h2:=yA1 (List.mem_map_of_mem (f:=fun b=>((os.getD b 0:Nat):Int)) hm)
  rw[yM5 o h hp,o.yP2 hb (xQ.mp hm)]
  exact Nat.ble_eq.mpr (by rfl')
 ·intro H r hr
  obtain⟨b,hb,rfl,_⟩:=ok.each r hr
  have lr:=jX n xs b
  have p1:=(o.yE hb).1
  have ne:(ring n xs b).map (fun b=>((os.getD b 0:Nat):Int)) ≠ []:=fun z=>by
   have:=Bc List.length z
   rw[Aa,lr] at this
   simp at this
   rfl'
  obtain⟨c,hc,ec⟩:=AE.mp (zK1 ne)
  have c1:c<n:=by
   obtain⟨j,_,rfl⟩:=xQ.mp hc
   exact o.qJ hb j
  have h1:=Nat.ble_eq.mp (H c (AB.mpr c1))
  rw[yM5 o h c1,o.yP2 hb (xQ.mp hc)] at h1
  unfold alG
  rw[lr,<-ec]
  exact Ag (by rfl')
def shB:Ev->Res Out:=(sQ (sS 4 (eF uE (aC (eF cA (aC (eV 3) (aC (eV 1) aN))) aN))) (sS 2 (e2 addI (eV 2) (eB intD (aC (eB allD (aC (eComp (iS (eV 4)) tYes (e2 (fun x y=>bD (leI x y)) (eB lenD (aC (eV 0) aN)) (eB min1D (aC (eComp (iS (eV 0)) tYes (e2 ixD (eV 1) (eV 0)) [1]) aN))) [0]) aN)) aN)))))
theorem wA5:zR3=(sQ (sS 1 (eB lenD (aC (eV 0) aN))) (sQ (sIf (b2 eqD (eV 0) (eB tupD (aC (eComp (iS (eV 0)) tYes (e2 ixD (eV 1) (eC (.int 0))) [0]) aN))) (sR (eF jH (aC (eF vJ (aC (eV 1) (aC (e2 ixD (eV 0) (eC (.int 0))) aN))) (aC (eF vT (aC (eV 1) aN)) aN)))) sN) (sQ (sS 2 (eC (.int 0))) (sQ (sF (iR rng1 (aC (eF vT (aC (eV 1) aN)) aN)) (gN 3) shB) (sR (eF jH (aC (eV 2) (aC (eF vT (aC (eV 1) aN)) aN)))))))):=rfl
theorem xL7{α:Type}(xs:List α)(g:α->Bool):allD [.list (xs.map fun x=>PyData.bool (g x))]=some (.bool (xs.all g)):=by
 have e:(xs.map fun x=>PyData.bool (g x))=(xs.map g).map PyData.bool:=by rw[Av];rfl
 show (boolsOf _).map _=_
 rw[e,boolsOf_map,Bu,List.all_map]
 rfl
theorem wN1{n i c:Nat}{os:List Nat}{u4:Option D}(ho:os.length=n)(hn:n<6):shB [some (tI (rI' os)),some (.int (n:Int)),some (.int (c:Int)),some (.int (i:Int)),u4]=.ok (.nx [some (tI (rI' os)),some (.int (n:Int)),some (.int ((c+(if allC n os (code n (lawOrd (i:Int) n).1) then 1 else 0):Nat):Int)),some (.int (i:Int)),some (.list ((rgs n (lawOrd (i:Int) n).1 n).map fun r=>lI (rI' r)))]):=by
 have o:=zE7 (i:Int) n
 have eo:=xV5 (i:Int) n (by rfl')
 generalize (lawOrd (i:Int) n).1=xs at o eo
 have er:=zG3 o (show n<=400 by rfl')
 have ok:=o.uH n (Ab n)
 have few:=dP n xs n
 have cc:∀rest:Ev,eComp (iS (eV 4)) tYes (e2 (fun x y=>bD (leI x y)) (eB lenD (aC (eV 0) aN)) (eB min1D (aC (eComp (iS (eV 0)) tYes (e2 ixD (eV 1) (eV 0)) [1]) aN))) [0] [some (tI (rI' os)),some (.int (n:Int)),some (.int (c:Int)),some (.int (i:Int)),some (.list ((rgs n xs n).map fun r=>lI (rI' r)))]=.ok (.list ((rgs n xs n).map fun r=>PyData.bool (alG os r))):=fun _=>by
  refine yF (fun r:List Nat=>lI (rI' r)) (fun r=>PyData.bool (alG os r)) (rgs n xs n) (by simp -implicitDefEqProofs only[(evA)]) (by rfl') fun r hr => ?_
  obtain⟨b,hb,rfl,_⟩:=ok.each r hr
  have lr:=jX n xs b
  have p1:=(o.yE hb).1
  have p2:=(o.yE hb).2.1
  have lt:∀c∈ring n xs b,c<n:=fun c hc=>by
   obtain⟨j,_,rfl⟩:=xQ.mp hc
   exact o.qJ hb j
  generalize ring n xs b=r at lr lt
  have c2:eComp (iS (eV 0)) tYes (e2 ixD (eV 1) (eV 0)) [1] [some (lI (rI' r)),some (tI (rI' os))]=.ok (lI (r.map fun b=>((os.getD b 0:Nat):Int))):=by
   have e:lI (r.map fun b=>((os.getD b 0:Nat):Int))=.list (r.map fun b=>PyData.int ((os.getD b 0:Nat):Int)):=by
    unfold lI
    rw[Av]
    rfl
   rw[e]
   refine yF (fun b:Nat=>PyData.int (b:Int)) (fun b=>PyData.int ((os.getD b 0:Nat):Int)) r (by
    simp -implicitDefEqProofs only[(evA)]
    unfold rI'
    rw[Av]
    rfl) (by rfl') fun b hb => ?_
   have a:atI ((rI' os).map PyData.int) (b:Int)=some (.int ((os.getD b 0:Nat):Int)):=by
    refine qM ?_
    have hb':b<os.length:=by rw[ho];exact lt b hb
    unfold rI'
    rw[Av,Al,Ae hb',List.getD,Ae hb']
    rfl
   show e2 ixD (eV 1) (eV 0) [some (.int (b:Int)),some (tI (rI' os))]=_
   simp![a]
  have ne:r.map (fun b=>((os.getD b 0:Nat):Int)) ≠ []:=fun z=>by
   have:=Bc List.length z
   rw[Aa,lr] at this
   simp at this
   rfl'
  have ll:((rI' r).map PyData.int).length=r.length:=by rw[Aa,yD]
  show e2 (fun x y=>bD (leI x y)) (eB lenD (aC (eV 0) aN)) (eB min1D (aC (eComp (iS (eV 0)) tYes (e2 ixD (eV 1) (eV 0)) [1]) aN)) [some (lI (rI' r)),some (tI (rI' os))]=_
  simp![c2,wW7 ne,ll]
  rfl
 have ii:∀v:Bool,intD [.bool v]=some (.int (((if v then 1 else 0:Nat):Nat):Int)):=fun v=>by cases v <;> rfl
 unfold shB
 simp![eo,er,cc [],xL7,ii,wY6 o (show n<6 by rfl')]
 rw[<-Int.natCast_add]
theorem xW4{n F W:Nat}{os:List Nat}(q:Opn n (rI' os))(h1:1<=n)(h2:n<=60)(hal:n<6\/∃k,os=List.replicate n k)(hF:M12.runM n ((sortI (rI' os)).map Int.toNat) 0=(F:Int))(hW:M12.fac n=(W:Int))(hW1:0<W)(hW2:W<10 ^ 89)(hF2:F<10 ^ 89):fZ [tI (rI' os)]=.ok (.str (shT F W)):=by
 have ho:os.length=n:=by rw[<-yD os];exact q.len
 have ea:=zM9 h1 h2
 rw[hW] at ea
 obtain⟨o,os',rfl⟩:∃o os',os=o::os':=by
  cases os with
  | nil=>simp at ho;rfl'
  | cons o os'=>exact⟨o,os',rfl⟩
 have a0:atI ((rI' (o::os')).map PyData.int) 0=some (.int (o:Int)):=aM ..
 have ll:((rI' (o::os')).map PyData.int).length=n:=by rw[Aa,yD,ho]
 have cc:∀u:Option D,eComp (iS (eV 0)) tYes (e2 ixD (eV 1) (eC (.int 0))) [0] [some (tI (rI' (o::os'))),some (.int (n:Int)),none,none,none]=.ok (lI (List.replicate n (o:Int))):=fun _=>by
  have e:lI (List.replicate n (o:Int))=.list ((o::os').map fun _=>PyData.int (o:Int)):=by
   unfold lI
   rw[BZ,List.map_const',ho]
  rw[e]
  refine yF (fun b:Nat=>PyData.int (b:Int)) (fun _=>PyData.int (o:Int)) (o::os') (by
   simp -implicitDefEqProofs only[(evA)]
   unfold rI'
   rw[Av]
   rfl) (by rfl') fun b hb => ?_
  show e2 ixD (eV 1) (eC (.int 0)) [some (.int (b:Int)),some (tI (rI' (o::os')))]=_
  simp![a0]
 have rr:rI' (List.replicate n o)=List.replicate n (o:Int):=by unfold rI';rw[BZ]
 show (zR3 [some (tI (rI' (o::os'))),none,none,none,none]).bind (fin false)=_
 rw[wA5]
 by_cases al:rI' (o::os')=List.replicate n (o:Int)
 ·rw[al,xG3,BZ,AW,yY3] at hF
  have hF:=CS.mp hF
  subst hF
  simp![ll,cc none,zF4,Ag al,a0,bW (n:=n) (k:=o) h2,ea,zG1 hF2 hW1 hW2]
 ·have hn:n<6:=by
   rcases hal with h | ⟨k,hk⟩
   ·exact h
   ·refine absurd ?_ al
    have:k=o:=by
     have hh:=Bc (fun l=>l.getD 0 0) hk
     rw[show n=(n-1)+1 by rfl',Bl] at hh
     exact hh.symm
    rw[hk,this,rr]
  have wf:W=fc n:=by
   rw[dE] at hW
   exact (CS.mp hW).symm
  have w120:W<=1000:=by
   rw[wf]
   have:=zB5 n (5-n)
   rw[show n+(5-n)=5 by rfl'] at this
   exact AH this (by decide)
  have key:((List.range W).countP fun (j:Nat)=>allC n (o::os') (code n (lawOrd (j:Int) n).1))=F:=by
   have p:=List.isPerm_iff.mp (xA7 n hn h1)
   have e:=p.countP_eq fun xs=>allC n (o::os') (code n xs)
   rw[List.countP_map,xF7 h1 (by rfl')] at e
   have a:=wY3 (n:=n) (os:=o::os') (ss:=(sortI (rI' (o::os'))).map Int.toNat) h1 (by rfl') ho (fun x hx=>by
    have:=q.bd (x:Int) (AE.mpr ⟨x,hx,rfl⟩)
    rfl') (by
    have:=(xM (rI' (o::os'))).map Int.toNat
    have b:(rI' (o::os')).map Int.toNat=o::os':=by
     unfold rI'
     rw[Av,show (Int.toNat∘fun (b:Nat)=>(b:Int))=id from funext fun b=>AW b,List.map_id]
    rw[b] at this
    exact this) (by
    rw[Dw]
    exact (cO _).imp fun h=>by rfl')
   rw[hF] at a
   rw[wf]
   have a:=CS.mp a
   rw[a,<-e]
   rfl
  simp![ll,cc none,zF4,Ad al,ea,uK w120]
  refine vU (fun i ρ=>∃u3 u4,ρ=[some (tI (rI' (o::os'))),some (.int (n:Int)),some (.int (((List.range i).countP fun (j:Nat)=>allC n (o::os') (code n (lawOrd (j:Int) n).1):Nat):Int)),u3,u4]) ⟨none,none,rfl⟩ ?_ ?_
  ·rintro i d ρ hd ⟨u3,u4,rfl⟩
   obtain⟨hi,rfl⟩:=dH hd
   refine⟨_,_,rfl,wN1 ho hn,some (.int (i:Int)),some (.list ((rgs n (lawOrd (i:Int) n).1 n).map fun r=>lI (rI' r))),?_⟩
   rw[Ch,List.countP_append,List.countP_singleton]
  ·rintro ρ ⟨u3,u4,rfl⟩
   rw[Aa,Aq,key]
   simp![ea,zG1 hF2 hW1 hW2]
def dueV(p k s:Nat):Int:=if s=0 then M12.fac p else if 1<=k then M12.WW k (p-1) (s-1) 1 else 0
theorem zK4{p k s:Nat}(hp:1<=p)(hs:s<=p):gsum (Tl p (k:Int) (p+1)) s / M12.ff (p:Int) s=dueV p (min k p) s:=by
 have lt:∀k:Int,(Tl p k (p+1)).length=p+1:=fun k=>M12.wR _ _ _ _
 have e0:Tl p (k:Int) (p+1)=Tl p ((min k p:Nat):Int) (p+1):=by
  unfold Tl
  rw[M12.zN9 p (k:Int) (by rfl'),M12.zN9 p ((min k p:Nat):Int) (by rfl')]
  rw[show min ((min k p:Nat):Int) (p:Int)=min (k:Int) (p:Int) by rfl']
 rw[e0]
 generalize min k p=m
 have tt:gsum (Tl p (m:Int) (p+1)) s=M12.TT (M12.G 1 (m:Int)) (M12.bK m) p s:=by
  unfold gsum
  rw[lt]
  exact M12.wV8 m p s
 rw[tt]
 unfold dueV
 by_cases h0:s=0
 ·subst h0
  rw[Ac rfl,M12.wN2]
  show M12.fac p / 1=_
  rw[Int.ediv_one]
 ·rw[Ah h0]
  obtain⟨l,rfl⟩:∃l,p=l+1:=⟨p-1,by rfl'⟩
  obtain⟨t,rfl⟩:∃t,s=t+1:=⟨s-1,by rfl'⟩
  have fp:=zW8 (l+1) (t+1) hs
  by_cases hm:1<=m
  ·rw[Ac hm,M12.wB5 m l t hm (by rfl'),AU,AU]
   exact Int.mul_ediv_cancel_left _ (by rfl')
  ·rw[Ah hm]
   obtain rfl:m=0:=by rfl'
   rw[M12.wX9 l t]
   exact Int.zero_ediv _
def gv(n k m:Nat):Nat:=(gsum (Tl n (k:Int) (n+1)) m / M12.ff (n:Int) m).toNat
theorem wQ5{n k m:Nat}(h1:1<=n)(hm:m<=n):0<=dueV n k m/\dueV n k m<=M12.fac n:=by
 have p:0<=M12.fac n:=by rw[dE];rfl'
 unfold dueV
 split
 ·exact⟨p,BK _⟩
 ·split
  ·have h:=yR8 k (n-1) (m-1) 1 (by rfl')
   rw[show n-1+1=n by rfl'] at h
   exact h
  ·exact⟨BK _,p⟩
theorem dC{n k m:Nat}(h1:1<=n)(h2:n<=60)(hm:m<=n):gsum (Tl n (k:Int) (n+1)) m / M12.ff (n:Int) m=((gv n k m:Nat):Int)/\gv n k m<10 ^ 89:=by
 have d:=zK4 (k:=k) h1 hm
 have l:=wQ5 (k:=min k n) h1 hm
 have f:=zM3 h2
 rw[dE,<-d] at l
 have l1:=l.1
 unfold gv
 generalize gsum (Tl n (k:Int) (n+1)) m / M12.ff (n:Int) m=v at l l1
 refine⟨by rfl',?_⟩
 have:v.toNat<=fc n:=by rfl'
 exact AT this f
theorem wX2{n k:Nat}(h1:1<=n)(h2:n<=60):((gv n k 0:Nat):Int)=M12.fac n:=by
 rw[<-(dC h1 h2 (Bk n)).1,zK4 h1 (Bk n)]
 rfl
theorem wZ3{n k:Nat}(h1:1<=n)(h2:n<=60):gv n k n=gn k n:=by
 have e:=(dC (k:=k) h1 h2 (Ab n)).1
 rw[xO5] at e
 exact (CS.mp e).symm
theorem wO5{n k:Nat}(h1:1<=n)(h2:n<=60):((gv n k 1:Nat):Int)=((min k n:Nat):Int)*M12.fac (n-1):=by
 rw[<-(dC h1 h2 h1).1,zK4 h1 h1]
 unfold dueV
 rw[Ah (by decide)]
 by_cases c:1<=min k n
 ·rw[Ac c,yK5 _ _ _ (Ab 1) c,show min (min k n-1+1) (n-1+1)=min k n by rfl']
 ·rw[Ah c,show min k n=0 by rfl']
  exact (BU _).symm
theorem cY{n k m:Nat}(h1:1<=n)(h2:n<=60)(hm:m<=n):vV [.int n,.int k,tI (rI' (List.range m))]=.ok (.int ((gv n k m:Nat):Int)):=by
 have ch:chk (n:Int) 0 (rI' (List.range m))=true:=by
  have:=yX5 (n:Int) m 0 (by rfl')
  rw[<-List.range_eq_range'] at this
  exact this
 have eg:=zD8 (n:=n) (k:=(k:Int)) (xs:=rI' (List.range m)) h2 (by rfl') ch
 rw[yD,Aq,(dC h1 h2 hm).1] at eg
 exact eg
theorem zB4{v:Nat}(h:v<10 ^ 89):strOfD [.int (v:Int)]=some (.str (nT v)):=Ac (vR (Bz h (by decide +kernel))).log
theorem xV9{n k m:Nat}(h1:1<=n)(h2:n<=60)(hm:m<=n):yS [.str "group",tI (rI' [n,k,m])]=.ok (.str (nT (gv n k m))):=by
 obtain⟨z1,z2,z3,z4⟩:=pn
 have l3:((rI' [n,k,m]).map PyData.int).length=3:=rfl
 have a0:atI ((rI' [n,k,m]).map PyData.int) 0=some (.int (n:Int)):=rfl
 have a1:atI ((rI' [n,k,m]).map PyData.int) 1=some (.int (k:Int)):=rfl
 have a2:atI ((rI' [n,k,m]).map PyData.int) 2=some (.int (m:Int)):=rfl
 have fp:hZ [.int (m:Int)]=.ok (tI (rI' (List.range m))):=by
  have m2:min2D [.int (m:Int),.int 61]=some (.int (m:Int)):=by
   show some (PyData.int (if (61:Int)<(m:Int) then 61 else (m:Int)))=_
   rw[Ah (by rfl')]
  have rt:rangeT [.int (m:Int)]=some (tI (rI' (List.range m))):=zK8 (by rfl')
  show (gU [some (.int (m:Int))]).bind (fin false)=_
  unfold gU
  simp![show (60:Int)+1=61 from rfl,m2,rt]
 show (yU [some (.str "group"),some (tI (rI' [n,k,m]))]).bind (fin false)=_
 unfold yU
 simp![strNe z4 z1 (by decide +kernel),strNe z4 z2 (by decide +kernel),strNe z4 z3 (by decide +kernel),strEq z4,l3,xB,show ((3:Nat):Int)=3 from rfl,decide_true,a0,a1,a2,fp,cY h1 h2 hm,zB4 (dC h1 h2 hm).2]
def rowD(t w:Str)(a:D)(k m:Int):D:=.tuple [.str t,.str w,a,.int k,.int m]
abbrev rhoR(t w s:Str)(a:D)(k m:Int):Ev:=[some (rowD t w a k m),some (.str s),some (.str t),some (.str w),some a,some (.int k),some (.int m),none]
def rtR:Ev->Res Out:=(sQ (sIf (b2 eqD (eV 3) (eC (.str "good"))) (sR (e2 (fun x y=>bD (eqD x y)) (eV 1) (eB strOfD (aC (eF vJ (aC (eV 4) (aC (eV 5) aN))) aN)))) sN) (sQ (sIf (b2 eqD (eV 3) (eC (.str "goodorder"))) (sQ (sS 7 (eF kT (aC (eV 1) aN))) (sR (vAn (e2 (fun x y=>bD (eqD x y)) (eB lenD (aC (eV 7) aN)) (eV 4)) (e2 (fun x y=>bD (leI x y)) (eB max1D (aC (eComp (iS (eF uE (aC (eV 7) aN))) tYes (eB lenD (aC (eV 0) aN)) []) aN)) (eV 5))))) sN) (sQ (sIf (b2 eqD (eV 3) (eC (.str "share"))) (sR (e2 (fun x y=>bD (eqD x y)) (eV 1) (eF fZ (aC (eV 4) aN)))) sN) (sQ (sIf (b2 neD (eV 1) (eB strOfD (aC (eF vV (aC (eV 4) (aC (eV 5) (aC (eB rangeT (aC (eV 6) aN)) aN)))) aN))) (sR (eC (.bool false))) sN) (sQ (sIf (b2 eqD (eV 6) (eC (.int 0))) (sR (e2 (fun x y=>bD (eqD x y)) (eV 1) (eB strOfD (aC (eF vT (aC (eV 4) aN)) aN)))) sN) (sQ (sIf (b2 eqD (eV 6) (eV 4)) (sR (e2 (fun x y=>bD (eqD x y)) (eV 1) (eB strOfD (aC (eF vJ (aC (eV 4) (aC (eV 5) aN))) aN)))) sN) (sR (vO (e2 (fun x y=>bD (gtI x y)) (eV 6) (eC (.int 1))) (e2 (fun x y=>bD (eqD x y)) (eV 1) (eB strOfD (aC (e2 mulI (eB min2D (aC (eV 5) (aC (eV 4) aN))) (eF vT (aC (e2 subI (eV 4) (eC (.int 1))) aN))) aN)))))))))))
theorem wA6:zV4=sQ (sA (eV 0) (gT 5 (gsC (gN 2) (gsC (gN 3) (gsC (gN 4) (gsC (gN 5) (gsC (gN 6) gsN))))))) rtR:=rfl
theorem aH{t w s:Str}{a:D}{k m:Int}(h:rtR (rhoR t w s a k m)=.ok (.rt (.bool true))):wS [rowD t w a k m,.str s]=.ok (.bool true):=by
 show (zV4 [some (rowD t w a k m),some (.str s),none,none,none,none,none,none]).bind (fin false)=_
 have g:gT 5 (gsC (gN 2) (gsC (gN 3) (gsC (gN 4) (gsC (gN 5) (gsC (gN 6) gsN))))) (rowD t w a k m) [some (rowD t w a k m),some (.str s),none,none,none,none,none,none]=some (rhoR t w s a k m):=rfl
 rw[wA6]
 simp![g,h]
theorem xX3{n k:Nat}{t:Str}{m:Int}(h2:n<=60):wS [rowD t "good" (.int (n:Int)) (k:Int) m,.str (nT (gn k n))]=.ok (.bool true):=by
 obtain⟨z1,z2,z3,z4⟩:=pn
 have g:=zC7 (k:=k) h2
 have ok:=(vR (Bz g (by decide +kernel))).ok
 refine aH ?_
 unfold rtR rhoR
 simp![strEq z2,bW (n:=n) (k:=k) h2,zB4 g,strEq ok]
theorem yG7{n k N:Nat}{t:Str}{xs:List Int}(o:Ord n xs)(h1:1<=n)(h2:n<=60)(hs:∀r∈rgs n xs n,r.length<=k):wS [rowD t "goodorder" (.int (n:Int)) (k:Int) (N:Int),.str (ordT n xs)]=.ok (.bool true):=by
 obtain⟨z1,z2,z3,z4⟩:=pn
 have q:=yQ1 o h1 h2
 have er:=zG3 o (show n<=400 by rfl')
 have few:=dP n xs n
 have cc:∀x0 x1 x2 x3 x4 x5 x6:Option D,eComp (iS (eF uE (aC (eV 7) aN))) tYes (eB lenD (aC (eV 0) aN)) [] [x0,x1,x2,x3,x4,x5,x6,some (tI xs)]=.ok (lI (rI' ((rgs n xs n).map List.length))):=fun x0 x1 x2 x3 x4 x5 x6=>by
  have e:lI (rI' ((rgs n xs n).map List.length))=.list ((rgs n xs n).map fun r=>PyData.int ((r.length:Nat):Int)):=by
   unfold lI rI'
   rw[Av,Av]
   rfl
  rw[e]
  refine yF (fun r:List Nat=>lI (rI' r)) (fun r=>PyData.int ((r.length:Nat):Int)) (rgs n xs n) (by simp![er]) (by rfl') fun r hr => ?_
  have hl:((rI' r).map PyData.int).length=r.length:=by rw[Aa,yD]
  show eB lenD (aC (eV 0) aN) [some (lI (rI' r))]=_
  simp![hl]
 have ne:rI' ((rgs n xs n).map List.length) ≠ []:=fun z=>q.ne (Bw.mp (Bw.mp z))
 have mx:=wU5 ne
 have mk:maxL (rI' ((rgs n xs n).map List.length))<=(k:Int):=by
  have m:=zM8 ne
  generalize maxL (rI' ((rgs n xs n).map List.length))=M at m
  unfold rI' at m
  obtain⟨c,hc,rfl⟩:=AE.mp m
  obtain⟨r,hr,rfl⟩:=AE.mp hc
  have:=hs r hr
  rfl'
 have lx:(xs.map PyData.int).length=n:=by rw[Aa,o.len]
 refine aH ?_
 unfold rtR rhoR
 simp![strNe z3 z2 (by decide +kernel),strEq z3,fR o h1 h2,lx,xB,decide_true,cc,mx,Ag mk]
theorem yF2{t:Str}{a:D}{s:Str}{k m:Int}(h:fZ [a]=.ok (.str s))(ok:PyData.strOk s=true):wS [rowD t "share" a k m,.str s]=.ok (.bool true):=by
 obtain⟨z1,z2,z3,z4⟩:=pn
 refine aH ?_
 unfold rtR rhoR
 simp![strNe z1 z2 (by decide +kernel),strNe z1 z3 (by decide +kernel),strEq z1,h,strEq ok]
theorem yH7{n k m:Nat}{t:Str}(h1:1<=n)(h2:n<=60)(hm:m<=n)(hk:k<=1000):wS [rowD t "group" (.int (n:Int)) (k:Int) (m:Int),.str (nT (gv n k m))]=.ok (.bool true):=by
 obtain⟨z1,z2,z3,z4⟩:=pn
 obtain⟨e,g⟩:=dC (k:=k) h1 h2 hm
 have ok:=(vR (Bz g (by decide +kernel))).ok
 have rt:rangeT [.int (m:Int)]=some (tI (rI' (List.range m))):=zK8 (by rfl')
 have nn:neD (.str (nT (gv n k m))) (.str (nT (gv n k m)))=some false:=by
  rw[zR9 ok ok,Ag rfl]
  rfl
 refine aH ?_
 unfold rtR rhoR
 by_cases c0:m=0
 ·subst c0
  have rt:rangeT [.int 0]=some (tI (rI' (List.range 0))):=rt
  have ea:=zM9 h1 h2
  rw[<-wX2 (k:=k) h1 h2] at ea
  simp![strNe z4 z2 (by decide +kernel),strNe z4 z3 (by decide +kernel),strNe z4 z1 (by decide +kernel),rt,cY h1 h2 hm,zB4 g,nn,xB,show ((0:Nat):Int)=0 from rfl,decide_true,ea,strEq ok]
 ·by_cases cn:m=n
  ·subst cn
   have eg:=bW (n:=m) (k:=k) h2
   rw[<-wZ3 (k:=k) h1 h2] at eg
   simp![strNe z4 z2 (by decide +kernel),strNe z4 z3 (by decide +kernel),strNe z4 z1 (by decide +kernel),rt,cY h1 h2 hm,zB4 g,nn,xB,Ad (show ¬(m:Int)=0 by rfl'),decide_true,eg,strEq ok]
  ·by_cases c1:m=1
   ·subst c1
    have ea:=zM9 (n:=n-1) (by rfl') (by rfl')
    rw[show ((n-1:Nat):Int)=(n:Int)-1 by rfl'] at ea
    have mn:min2D [.int (k:Int),.int (n:Int)]=some (.int ((min k n:Nat):Int)):=by
     refine Bc (fun z:Int=>some (PyData.int z)) (show (if (n:Int)<(k:Int) then (n:Int) else (k:Int))=((min k n:Nat):Int) from ?_)
     by_cases h:(n:Int)<(k:Int)
     ·rw[Ac h];rfl'
     ·rw[Ah h];rfl'
    have mo:=xA (i:=((min k n:Nat):Int)) (j:=M12.fac (n-1)) (MulOk.left (by rfl') (by rfl'))
    rw[<-wO5 h1 h2] at mo
    simp![strNe z4 z2 (by decide +kernel),strNe z4 z3 (by decide +kernel),strNe z4 z1 (by decide +kernel),rt,cY h1 h2 hm,zB4 g,nn,xB,Ad (show ¬((1:Nat):Int)=0 by rfl'),Ad (show ¬((1:Nat):Int)=(n:Int) by rfl'),Ad (show ¬(1:Int)<((1:Nat):Int) by rfl'),mn,ea,mo,strEq ok]
   ·simp![strNe z4 z2 (by decide +kernel),strNe z4 z3 (by decide +kernel),strNe z4 z1 (by decide +kernel),rt,cY h1 h2 hm,zB4 g,nn,xB,Ad (show ¬(m:Int)=0 by rfl'),Ad (show ¬(m:Int)=(n:Int) by rfl'),Ag (show (1:Int)<(m:Int) by rfl')]
structure RowOk(r:D)(t s:Str)(u:Option (Int×Int×Str×Int)):Prop where
 shape:∃w a k m,r=rowD t w a k m
 pr:PrA (t,s)
 right:wS [r,.str s]=.ok (.bool true)
 un:unRow r (.str s)=some u
 told:u=none\/∃(n k N:Nat) (xs:List Int),1<=n/\n<=60/\Ord n xs/\Told k (List.range n) N (rgs n xs n)/\s=ordT n xs/\u=some ((n:Int),(k:Int),s,(N:Int))
theorem zC2{t w s:Str}{a:D}{k m:Int}(hw:PyData.strOk w=true)(h:w ≠ "goodorder"):unRow (rowD t w a k m) (.str s)=some none:=by
 unfold unRow rowD
 show (if PyData.strOk w=true then (if w="goodorder" then _ else some none) else none)=_
 rw[Ac hw,Ah h]
theorem wQ3{t s:Str}{n k m:Int}:unRow (rowD t "goodorder" (.int n) k m) (.str s)=some (some (n,k,s,m)):=by
 unfold unRow rowD
 show (if PyData.strOk "goodorder" = true then (if ("goodorder":Str)="goodorder" then some (some (n,k,s,m)) else some none) else none)=_
 rw[Ac pn.2.2.1,Ac rfl]
theorem zP4{W V:Str}{ns:List Nat}(A:NW W ns)(hne:ns ≠ [])(e:V=W ++ " "):catS (.str V) (.str (Str.join " " (ns.map nT)))=some (.str (nrow W ns)):=by
 have c:=xQ5 (W:=W) (ns:=ns) hne (V:=V) e
 have lg:=(zR5 A).1
 rw[<-c] at lg ⊢
 rw[Bi] at lg
 have:=qW
 exact Ac (by rfl')
theorem yQ6{W:Str}{ns:List Nat}{s:Str}(A:NW W ns)(h:yS [.str W,tI (rI' ns)]=.ok (.str s))(l2:s.length<=13000)(f2:10∉tl s)(ok:PyData.strOk s=true):PrA (nrow W ns,s) :=
 ⟨xX2 A h,AH (zR5 A).1 (by decide),(zR5 A).2.1,l2,f2,ok⟩
theorem xC5{n k:Nat}(h2:n<=60)(hk:k<=1000):RowOk (rowD (nrow "good" [n,k]) "good" (.int (n:Int)) (k:Int) 0) (nrow "good" [n,k]) (nT (gn k n)) none/\catS (.str "good ") (.str (Str.join " " ([n,k].map nT)))=some (.str (nrow "good" [n,k])):=by
 have n3:∀x ∈ [n,k],x<10 ^ 90:=fun x hx=>by
  have:x=n\/x=k:=by simpa using hx
  rcases this with rfl | rfl
  ·exact small80 (by rfl')
  ·exact small80 (by rfl')
 have ng:=nw (wd "good" (by simp)) n3 (by simp)
 have g:gn k n<10 ^ 90:=Bz (zC7 h2) (by decide +kernel)
 exact⟨⟨⟨_,_,_,_,rfl⟩,yQ6 ng (xC2 h2) (bB g).1 (bB g).2.1 (bB g).2.2,xX3 h2,zC2 pn.2.1 (by decide +kernel),.inl rfl⟩,zP4 ng (fun z=>nomatch z) (kO (by decide +kernel))⟩
theorem xN5{n k m:Nat}(h1:1<=n)(h2:n<=60)(hk:k<=1000)(hm:m<=n):RowOk (rowD (nrow "group" [n,k,m]) "group" (.int (n:Int)) (k:Int) (m:Int)) (nrow "group" [n,k,m]) (nT (gv n k m)) none/\catS (.str "group ") (.str (Str.join " " ([n,k,m].map nT)))=some (.str (nrow "group" [n,k,m])):=by
 have n3:∀x ∈ [n,k,m],x<10 ^ 90:=fun x hx=>by
  have:x=n\/x=k\/x=m:=by simpa using hx
  rcases this with rfl | rfl | rfl
  ·exact small80 (by rfl')
  ·exact small80 (by rfl')
  ·exact small80 (by rfl')
 have ng:=nw (wd "group" (by simp)) n3 (by simp)
 have g:gv n k m<10 ^ 90:=Bz (dC h1 h2 hm).2 (by decide +kernel)
 exact⟨⟨⟨_,_,_,_,rfl⟩,yQ6 ng (xV9 h1 h2 hm) (bB g).1 (bB g).2.1 (bB g).2.2,yH7 h1 h2 hm hk,zC2 pn.2.2.2 (by decide +kernel),.inl rfl⟩,zP4 ng (fun z=>nomatch z) (kO (by decide +kernel))⟩
theorem xP2{n k N:Nat}(h1:1<=n)(h2:n<=60)(hk:k<=1000)(hN:N<gn k n):∃s u,RowOk (rowD (nrow "goodorder" [n,k,N]) "goodorder" (.int (n:Int)) (k:Int) (N:Int)) (nrow "goodorder" [n,k,N]) s u/\catS (.str "goodorder ") (.str (Str.join " " ([n,k,N].map nT)))=some (.str (nrow "goodorder" [n,k,N])):=by
 have g:N<10 ^ 90:=Bz (Bz hN (zC7 h2)) (by decide +kernel)
 have n3:∀x ∈ [n,k,N],x<10 ^ 90:=fun x hx=>by
  have:x=n\/x=k\/x=N:=by simpa using hx
  rcases this with rfl | rfl | rfl
  ·exact small80 (by rfl')
  ·exact small80 (by rfl')
  ·exact g
 have ng:=nw (wd "goodorder" (by simp)) n3 (by simp)
 obtain⟨xs,o,T,e⟩:=yS1 h1 h2 hN
 have q:=yQ1 o h1 h2
 have hs:=(yO4 T Cl).2
 exact⟨ordT n xs,_,⟨⟨_,_,_,_,rfl⟩,yQ6 ng e (AH (wS1 q) (by decide)) (xL2 (.inl rfl) q) (yZ3 q),yG7 o h1 h2 hs,wQ3,.inr ⟨n,k,N,xs,h1,h2,o,T,rfl,rfl⟩⟩,zP4 ng (fun z=>nomatch z) (kO (by decide +kernel))⟩
theorem yZ8{n:Nat}{os:List Nat}(q:Opn n (rI' os))(h1:1<=n)(h2:n<=60)(hal:n<6\/∃k,os=List.replicate n k):∃s,RowOk (rowD (nrow "share" os) "share" (tI (rI' os)) 0 0) (nrow "share" os) s none/\catS (.str "share ") (.str (Str.join " " (os.map nT)))=some (.str (nrow "share" os))/\∀x∈os,x<10 ^ 90:=by
 have ho:os.length=n:=by rw[<-yD os];exact q.len
 have n3:∀x∈os,x<10 ^ 90:=fun x hx=>by
  have:=q.bd (x:Int) (AE.mpr ⟨x,hx,rfl⟩)
  exact small80 (by rfl')
 have ng:=nw (wd "share" (by simp)) n3 (by rfl')
 obtain⟨F,W,hF,hW,hW1,hW2,hF2,e⟩:=xR9 q h1 h2
 have es:=xW4 q h1 h2 hal hF hW hW1 hW2 hF2
 have p2:(10:Nat) ^ 89<10 ^ 90:=by decide +kernel
 have la:=CQ F (Nat.gcd W F)
 have lb:=CQ W (Nat.gcd W F)
 have na:=vR (show F / Nat.gcd W F<10 ^ 90 by rfl')
 have nb:=vR (show W / Nat.gcd W F<10 ^ 90 by rfl')
 have e:yS [.str "share",tI (rI' os)]=.ok (.str (shT F W)):=e
 have fa:∀t ∈ [nT (F / Nat.gcd W F),nT (W / Nat.gcd W F)],10∉tl t/\PyData.strOk t=true/\t.length<=90:=fun t ht=>by
  have:t=nT (F / Nat.gcd W F)\/t=nT (W / Nat.gcd W F):=by simpa using ht
  rcases this with rfl | rfl
  ·exact⟨zE9 (by rfl') (by decide),na.ok,na.len⟩
  ·exact⟨zE9 (by rfl') (by decide),nb.ok,nb.len⟩
 have ok:PyData.strOk (shT F W)=true:=zY1 (by decide +kernel) _ fun t ht=>(fa t ht).2.1
 have fr:10∉tl (shT F W):=fV (by decide +kernel) _ fun t ht=>(fa t ht).1
 have ln:(shT F W).length<=13000:=by
  have of4:(" of ":Str).length=4:=rfl
  show (nT (F / Nat.gcd W F) ++ " of "++nT (W / Nat.gcd W F)).length<=13000
  rw[Bi,Bi,of4]
  have:=na.len
  have:=nb.len
  rfl'
 exact⟨shT F W,⟨⟨_,_,_,_,rfl⟩,yQ6 ng e ln fr ok,yF2 es ok,zC2 pn.1 (by decide +kernel),.inl rfl⟩,zP4 ng (fun z=>by rw[z] at ho;simp at ho;rfl') (kO (by decide +kernel)),n3⟩
def rw3:Ev->Res Out:=(sQ (sS 6 (eB tupD (aC (eComp (iR rng1 (aC (eV 2) aN)) tYes (eB min2D (aC (eV 1) (aC (eV 2) aN))) [3,2]) aN))) (sQ (sIf (b2 ltI (eV 2) (eC (.int 6))) (sS 6 (eF jA (aC (e2 fdivI (eV 0) (eC (.int 2000))) (aC (eV 2) aN)))) sN) (sR (eB mkT (aC (e2 catS (eC (.str "share ")) (eF yK (aC (eV 6) aN))) (aC (eC (.str "share")) (aC (eV 6) (aC (eC (.int 0)) (aC (eC (.int 0)) aN)))))))))
def rw0:Ev->Res Out:=(sQ (sS 2 (e2 subI (eV 2) (e2 modI (e2 fdivI (eV 0) (eC (.int 3000))) (eC (.int 2))))) (sR (eB mkT (aC (e2 catS (eC (.str "good ")) (eF yK (aC (eB mkL (aC (eV 2) (aC (eV 3) aN))) aN))) (aC (eC (.str "good")) (aC (eV 2) (aC (eV 3) (aC (eC (.int 0)) aN))))))))
def rw1:Ev->Res Out:=(sQ (sS 3 (eB max2D (aC (eC (.int 1)) (aC (eB min2D (aC (eV 3) (aC (eV 2) aN))) aN)))) (sQ (sS 4 (e2 modI (e2 fdivI (eV 0) (eC (.int 2000))) (eF vJ (aC (eV 2) (aC (eV 3) aN))))) (sR (eB mkT (aC (e2 catS (eC (.str "goodorder ")) (eF yK (aC (eB mkL (aC (eV 2) (aC (eV 3) (aC (eV 4) aN)))) aN))) (aC (eC (.str "goodorder")) (aC (eV 2) (aC (eV 3) (aC (eV 4) aN)))))))))
def rw2:Ev->Res Out:=(sQ (sS 5 (e2 ixD (eB mkL (aC (eC (.int 0)) (aC (eC (.int 1)) (aC (eV 2) (aC (e2 modI (e2 fdivI (eV 0) (eC (.int 8000))) (e2 addI (eV 2) (eC (.int 1)))) aN))))) (e2 modI (e2 fdivI (eV 0) (eC (.int 2000))) (eC (.int 4))))) (sR (eB mkT (aC (e2 catS (eC (.str "group ")) (eF yK (aC (eB mkL (aC (eV 2) (aC (eV 3) (aC (eV 5) aN)))) aN))) (aC (eC (.str "group")) (aC (eV 2) (aC (eV 3) (aC (eV 5) aN))))))))
theorem wF2:zA9=(sQ (sS 0 (eB absD (aC (eV 0) aN))) (sQ (sS 2 (e2 addI (eC (.int 1)) (e2 modI (e2 fdivI (eV 0) (eC (.int 4))) (eC (.int 12))))) (sQ (sIf (tAn (tV (eV 1)) (b2 eqD (e2 modI (e2 fdivI (eV 0) (eC (.int 48))) (eC (.int 8))) (eC (.int 3)))) (sS 2 (e2 addI (eC (.int 1)) (e2 modI (e2 fdivI (eV 0) (eC (.int 4))) (eC (.int 60))))) sN) (sQ (sS 3 (e2 modI (e2 fdivI (eV 0) (eC (.int 384))) (e2 addI (eV 2) (eC (.int 2))))) (sQ (sIf (b2 eqD (e2 modI (eV 0) (eC (.int 4))) (eC (.int 0))) rw0 sN) (sQ (sIf (b2 eqD (e2 modI (eV 0) (eC (.int 4))) (eC (.int 1))) rw1 sN) (sQ (sIf (b2 eqD (e2 modI (eV 0) (eC (.int 4))) (eC (.int 2))) rw2 sN) rw3))))))):=rfl
abbrev rhoW(a n k:Nat)(g:Bool):Ev:=[some (.int (a:Int)),some (.bool g),some (.int (n:Int)),some (.int (k:Int)),none,none,none]
theorem zV8(a b:Nat)(h:1<=b)(h2:b<=100000):fdivO (a:Int) (b:Int)=some ((a / b:Nat):Int):=Ac (DivOk.small (by rfl') (by rfl'))
theorem zZ8(a b:Nat)(h:1<=b):modO (a:Int) (b:Int)=some ((a%b:Nat):Int):=Ac (by rfl')
section
variable {a n k:Nat}{g:Bool}
theorem wH1(h1:1<=n)(h2:n<=60)(hk:k<=100):∃r t s u,rw0 (rhoW a n k g)=.ok (.rt r)/\RowOk r t s u:=by
 have d:=zV8 a 3000 (by decide) (by decide)
 have m:=zZ8 (a / 3000) 2 (by decide)
 have lt:=Bp (a / 3000) (show 0<2 by decide)
 have e:(n:Int)-((a / 3000%2:Nat):Int)=((n-a / 3000%2:Nat):Int):=by rfl'
 obtain⟨R,C⟩:=xC5 (n:=n-a / 3000%2) (k:=k) (by rfl') (by rfl')
 refine⟨_,_,_,_,?_,R⟩
 generalize n-a / 3000%2=b at e C R
 have hb:b<=60:=by rfl'
 have bT:yK [.list [.int (b:Int),.int (k:Int)]]=.ok (.str (Str.join " " ([b,k].map nT))):=qC (ns:=[b,k]) (.inr rfl) (fun x hx=>by
  have:x=b\/x=k:=by simpa using hx
  rcases this with rfl | rfl
  ·exact small80 (by rfl')
  ·exact small80 (by rfl')) (by simp)
 have d:fdivO (a:Int) 3000=some ((a / 3000:Nat):Int):=d
 have m:modO ((a / 3000:Nat):Int) 2=some ((a / 3000%2:Nat):Int):=m
 unfold rw0 rhoW
 simp![d,m,e,bT,C]
 rfl
theorem wP6(h1:1<=n)(h2:n<=60)(hk:k<=100):∃r t s u,rw1 (rhoW a n k g)=.ok (.rt r)/\RowOk r t s u:=by
 obtain⟨c,hc⟩:∃c:Nat,c=max 1 (min k n):=⟨_,rfl⟩
 have mn:min2D [.int (k:Int),.int (n:Int)]=some (.int ((min k n:Nat):Int)):=by
  refine Bc (fun z:Int=>some (PyData.int z)) (show (if (n:Int)<(k:Int) then (n:Int) else (k:Int))=((min k n:Nat):Int) from ?_)
  by_cases h:(n:Int)<(k:Int)
  ·rw[Ac h];rfl'
  ·rw[Ah h];rfl'
 have mx:max2D [.int 1,.int ((min k n:Nat):Int)]=some (.int (c:Int)):=by
  refine Bc (fun z:Int=>some (PyData.int z)) (show (if ((min k n:Nat):Int) > 1 then ((min k n:Nat):Int) else 1)=(c:Int) from ?_)
  by_cases h:((min k n:Nat):Int) > 1
  ·rw[Ac h];rfl'
  ·rw[Ah h];rfl'
 have gp:=xN6 c (by rfl') n
 have hN:=Bp (a / 2000) gp
 have eN:modO ((a / 2000:Nat):Int) ((gn c n:Nat):Int)=some ((a / 2000%gn c n:Nat):Int):=zZ8 _ _ gp
 generalize a / 2000%gn c n=N at hN eN
 obtain⟨s,u,R,C⟩:=xP2 (n:=n) (k:=c) (N:=N) h1 h2 (by rfl') hN
 refine⟨_,_,s,u,?_,R⟩
 have d:fdivO (a:Int) 2000=some ((a / 2000:Nat):Int):=zV8 a 2000 (by decide) (by decide)
 have bT:yK [.list [.int (n:Int),.int (c:Int),.int (N:Int)]]=.ok (.str (Str.join " " ([n,c,N].map nT))):=qC (ns:=[n,c,N]) (.inr rfl) (fun x hx=>by
  have:x=n\/x=c\/x=N:=by simpa using hx
  rcases this with rfl | rfl | rfl
  ·exact small80 (by rfl')
  ·exact small80 (by rfl')
  ·exact Bz (Bz hN (zC7 h2)) (by decide +kernel)) (by simp)
 unfold rw1 rhoW
 simp![mn,mx,d,bW (n:=n) (k:=c) h2,eN,bT,C]
 rfl
theorem wG1(h1:1<=n)(h2:n<=60)(hk:k<=100):∃r t s u,rw2 (rhoW a n k g)=.ok (.rt r)/\RowOk r t s u:=by
 have d8:fdivO (a:Int) 8000=some ((a / 8000:Nat):Int):=zV8 a 8000 (by decide) (by decide)
 have d2:fdivO (a:Int) 2000=some ((a / 2000:Nat):Int):=zV8 a 2000 (by decide) (by decide)
 have m8:modO ((a / 8000:Nat):Int) ((n:Int)+1)=some ((a / 8000%(n+1):Nat):Int):=zZ8 (a / 8000) (n+1) (by rfl')
 have m4:modO ((a / 2000:Nat):Int) 4=some ((a / 2000%4:Nat):Int):=zZ8 (a / 2000) 4 (by decide)
 have l8:=Bp (a / 8000) (show 0<n+1 by rfl')
 have l4:=Bp (a / 2000) (show 0<4 by decide)
 generalize a / 8000%(n+1)=y at m8 l8
 generalize a / 2000%4=z at m4 l4
 obtain⟨m,hm,em⟩:∃m:Nat,m<=n/\atI [PyData.int 0,.int 1,.int (n:Int),.int (y:Int)] (z:Int)=some (.int (m:Int)):=by
  rcases (show z=0\/z=1\/z=2\/z=3 by rfl') with rfl | rfl | rfl | rfl
  ·exact⟨0,by rfl',rfl⟩
  ·exact⟨1,by rfl',rfl⟩
  ·exact⟨n,by rfl',rfl⟩
  ·exact⟨y,by rfl',rfl⟩
 obtain⟨R,C⟩:=xN5 (n:=n) (k:=k) (m:=m) h1 h2 (by rfl') hm
 refine⟨_,_,_,_,?_,R⟩
 have bT:yK [.list [.int (n:Int),.int (k:Int),.int (m:Int)]]=.ok (.str (Str.join " " ([n,k,m].map nT))):=qC (ns:=[n,k,m]) (.inr rfl) (fun x hx=>by
  have:x=n\/x=k\/x=m:=by simpa using hx
  rcases this with rfl | rfl | rfl
  ·exact small80 (by rfl')
  ·exact small80 (by rfl')
  ·exact small80 (by rfl')) (by simp)
 unfold rw2 rhoW
 simp![d8,m8,d2,m4,em,bT,C]
 rfl
theorem wG7(h1:1<=n)(h2:n<=60)(hk:k<=100):∃r t s u,rw3 (rhoW a n k g)=.ok (.rt r)/\RowOk r t s u:=by
 have mn:min2D [.int (k:Int),.int (n:Int)]=some (.int ((min k n:Nat):Int)):=by
  refine Bc (fun z:Int=>some (PyData.int z)) (show (if (n:Int)<(k:Int) then (n:Int) else (k:Int))=((min k n:Nat):Int) from ?_)
  by_cases h:(n:Int)<(k:Int)
  ·rw[Ac h];rfl'
  ·rw[Ah h];rfl'
 have cc:eComp (iR rng1 (aC (eV 2) aN)) tYes (eB min2D (aC (eV 1) (aC (eV 2) aN))) [3,2] (rhoW a n k g)=.ok (lI (rI' (List.replicate n (min k n)))):=by
  have e:lI (rI' (List.replicate n (min k n)))=.list ((List.range n).map fun _=>PyData.int ((min k n:Nat):Int)):=by
   unfold lI rI'
   rw[BZ,BZ,List.map_const',Aq]
  rw[e]
  refine yF (fun i:Nat=>PyData.int (i:Int)) (fun _=>PyData.int ((min k n:Nat):Int)) (List.range n) (by
   unfold rhoW
   simp![uK (show n<=1000 by rfl')]) (by rw[Aq];rfl') fun i _ => ?_
  show eB min2D (aC (eV 1) (aC (eV 2) aN)) [some (.int (i:Int)),some (.int (k:Int)),some (.int (n:Int))]=_
  simp![mn]
 have d:fdivO (a:Int) 2000=some ((a / 2000:Nat):Int):=zV8 a 2000 (by decide) (by decide)
 by_cases c:n<6
 ·obtain⟨ops,q,eo⟩:=yT8 ((a / 2000:Nat):Int) (n:=n) h2
  obtain⟨os,rfl,ol,_⟩:=wK6 q h2
  obtain⟨s,R,C,n3⟩:=yZ8 q h1 h2 (.inl c)
  have bT:yK [tI (rI' os)]=.ok (.str (Str.join " " (os.map nT))):=qC (.inl rfl) n3 (by rfl')
  refine⟨_,_,s,_,?_,R⟩
  unfold rw3
  unfold rhoW at cc ⊢
  simp![cc,Ag (show (n:Int)<6 by rfl'),d,eo,bT,C]
  rfl
 ·have q:=wV2 (n:=n) (k:=min k n) (by rfl')
  obtain⟨s,R,C,n3⟩:=yZ8 q h1 h2 (.inr ⟨_,rfl⟩)
  have bT:yK [tI (rI' (List.replicate n (min k n)))]=.ok (.str (Str.join " " ((List.replicate n (min k n)).map nT))):=qC (.inl rfl) n3 (by rw[BL];rfl')
  refine⟨_,_,s,_,?_,R⟩
  unfold rw3
  unfold rhoW at cc ⊢
  simp![cc,Ad (show ¬(n:Int)<6 by rfl'),bT,C]
  rfl
end
theorem xE1(c:Int)(g:Bool):∃r t s u,qO [.int c,.bool g]=.ok r/\RowOk r t s u:=by
 obtain⟨a,ea⟩:∃a:Nat,(if c<0 then -c else c)=(a:Int):=⟨c.natAbs,by split <;> rfl'⟩
 have ab:absD [.int c]=some (.int (a:Int)):=by
  show some (PyData.int (if c<0 then -c else c))=_
  rw[ea]
 obtain⟨n,n1,n60,en⟩:∃n:Nat,1<=n/\n<=60/\n=if (g&&decide (a / 48%8=3))=true then 1+a / 4%60 else 1+a / 4%12:=⟨_,by split <;> rfl',by split <;> rfl',rfl⟩
 obtain⟨k,ek⟩:∃k:Nat,k=a / 384%(n+2):=⟨_,rfl⟩
 have hk:k<=100:=by
  have:=Bp (a / 384) (show 0<n+2 by rfl')
  rfl'
 have d4:fdivO (a:Int) 4=some ((a / 4:Nat):Int):=zV8 a 4 (by decide) (by decide)
 have d48:fdivO (a:Int) 48=some ((a / 48:Nat):Int):=zV8 a 48 (by decide) (by decide)
 have d384:fdivO (a:Int) 384=some ((a / 384:Nat):Int):=zV8 a 384 (by decide) (by decide)
 have m12:modO ((a / 4:Nat):Int) 12=some ((a / 4%12:Nat):Int):=zZ8 _ 12 (by decide)
 have m60:modO ((a / 4:Nat):Int) 60=some ((a / 4%60:Nat):Int):=zZ8 _ 60 (by decide)
 have m8:modO ((a / 48:Nat):Int) 8=some ((a / 48%8:Nat):Int):=zZ8 _ 8 (by decide)
 have mk:modO ((a / 384:Nat):Int) ((n:Int)+2)=some (k:Int):=by
  rw[ek]
  exact zZ8 (a / 384) (n+2) (by rfl')
 have m4:modO (a:Int) 4=some ((a%4:Nat):Int):=zZ8 a 4 (by decide)
 have l4:=Bp a (show 0<4 by decide)
 have e12:(1:Int)+((a / 4%12:Nat):Int)=((1+a / 4%12:Nat):Int):=by rfl'
 have e60:(1:Int)+((a / 4%60:Nat):Int)=((1+a / 4%60:Nat):Int):=by rfl'
 have head:∀z:Ev->Res Out,(sQ (sS 0 (eB absD (aC (eV 0) aN))) (sQ (sS 2 (e2 addI (eC (.int 1)) (e2 modI (e2 fdivI (eV 0) (eC (.int 4))) (eC (.int 12))))) (sQ (sIf (tAn (tV (eV 1)) (b2 eqD (e2 modI (e2 fdivI (eV 0) (eC (.int 48))) (eC (.int 8))) (eC (.int 3)))) (sS 2 (e2 addI (eC (.int 1)) (e2 modI (e2 fdivI (eV 0) (eC (.int 4))) (eC (.int 60))))) sN) (sQ (sS 3 (e2 modI (e2 fdivI (eV 0) (eC (.int 384))) (e2 addI (eV 2) (eC (.int 2))))) z)))) [some (.int c),some (.bool g),none,none,none,none,none]=z (rhoW a n k g):=fun z=>by
  cases g with
  | false =>
   rw[Bool.false_and,Ah AG] at en
   rw[<-en] at e12
   simp![ab,d4,m12,e12,d384,mk]
  | true =>
   by_cases c3:a / 48%8=3
   ·rw[Ag c3,Bool.true_and,Ac rfl] at en
    rw[<-en] at e60
    simp![ab,d4,m12,d48,m8,xB,Ag (show ((a / 48%8:Nat):Int)=3 by rfl'),m60,e60,d384,mk]
   ·rw[Ad c3,Bool.true_and,Ah AG] at en
    rw[<-en] at e12
    simp![ab,d4,m12,e12,d48,m8,xB,Ad (show ¬((a / 48%8:Nat):Int)=3 by rfl'),d384,mk]
 have fin:∀{r:D},(sQ (sIf (b2 eqD (e2 modI (eV 0) (eC (.int 4))) (eC (.int 0))) rw0 sN) (sQ (sIf (b2 eqD (e2 modI (eV 0) (eC (.int 4))) (eC (.int 1))) rw1 sN) (sQ (sIf (b2 eqD (e2 modI (eV 0) (eC (.int 4))) (eC (.int 2))) rw2 sN) rw3))) (rhoW a n k g)=.ok (.rt r)->qO [.int c,.bool g]=.ok r:=fun {r} h=>by
  show (zA9 [some (.int c),some (.bool g),none,none,none,none,none]).bind (fin false)=_
  rw[wF2,head,h]
  rfl
 have z0:eqD (.int ((a%4:Nat):Int)) (.int 0)=some (decide (a%4=0)):=by
  rw[xB]
  congr 1
  exact decide_eq_decide.mpr (by rfl')
 have z1:eqD (.int ((a%4:Nat):Int)) (.int 1)=some (decide (a%4=1)):=by
  rw[xB]
  congr 1
  exact decide_eq_decide.mpr (by rfl')
 have z2:eqD (.int ((a%4:Nat):Int)) (.int 2)=some (decide (a%4=2)):=by
  rw[xB]
  congr 1
  exact decide_eq_decide.mpr (by rfl')
 by_cases c0:a%4=0
 ·obtain⟨r,t,s,u,e,R⟩:=wH1 (a:=a) (g:=g) n1 n60 hk
  refine⟨r,t,s,u,fin ?_,R⟩
  unfold rhoW at e ⊢
  simp![m4,z0,Ag c0,e]
 ·by_cases c1:a%4=1
  ·obtain⟨r,t,s,u,e,R⟩:=wP6 (a:=a) (g:=g) n1 n60 hk
   refine⟨r,t,s,u,fin ?_,R⟩
   unfold rhoW at e ⊢
   simp![m4,z0,Ad c0,z1,Ag c1,e]
  ·by_cases c2:a%4=2
   ·obtain⟨r,t,s,u,e,R⟩:=wG1 (a:=a) (g:=g) n1 n60 hk
    refine⟨r,t,s,u,fin ?_,R⟩
    unfold rhoW at e ⊢
    simp![m4,z0,Ad c0,z1,Ad c1,z2,Ag c2,e]
   ·obtain⟨r,t,s,u,e,R⟩:=wG7 (a:=a) (g:=g) n1 n60 hk
    refine⟨r,t,s,u,fin ?_,R⟩
    unfold rhoW at e ⊢
    simp![m4,z0,Ad c0,z1,Ad c1,z2,Ad c2,e]
theorem wT5{α:Type}(xs:List α){a b:Nat}(h1:a<=xs.length):cutD xs (some (a:Int)) (some (b:Int))=(xs.drop a).take (b-a):=by
 unfold cutD
 rw[HT.zC3,HT.zC3,Di h1]
 by_cases h:b<=xs.length
 ·rw[Di h]
 ·rw[Dd (by rfl'),BH (by rw[BF];rfl'),BH (by rw[BF];rfl')]
abbrev Q54:=D×Str×Str×Option (Int×Int×Str×Int)
theorem xA1(c:Int)(g:Bool):∃q:Q54,qO [.int c,.bool g]=.ok q.1/\RowOk q.1 q.2.1 q.2.2.1 q.2.2.2:=by
 obtain⟨r,t,s,u,e,R⟩:=xE1 c g
 exact⟨(r,t,s,u),e,R⟩
def rowQ(c:Int)(g:Bool):Q54:=Classical.choose (xA1 c g)
theorem yA4(c:Int)(g:Bool):qO [.int c,.bool g]=.ok (rowQ c g).1/\RowOk (rowQ c g).1 (rowQ c g).2.1 (rowQ c g).2.2.1 (rowQ c g).2.2.2:=Bd (xA1 c g)
def qsL(cs:List Int)(N:Nat):List Q54:=(List.range N).map fun i=>rowQ (cs.getD i 0) (decide (i<8))
def Q54Ok(q:Q54):Prop:=RowOk q.1 q.2.1 q.2.2.1 q.2.2.2
theorem xR1:∀qs:List Q54,(∀q∈qs,Q54Ok q)->unRows (qs.map fun q=>q.1) (qs.map fun q=>PyData.str q.2.2.1)=some (qs.map fun q=>q.2.2.2)
 | [],_=>rfl
 | q::qs,h=>by
  have ih:=xR1 qs fun x hx=>h x (Aj _ hx)
  have e:=(h q Af).un
  show (unRow q.1 (.str q.2.2.1)).bind _=_
  rw[e,AR,ih]
  rfl
theorem xC8{qs:List Q54}(h:∀q∈qs,Q54Ok q):UnCons (qs.map fun q=>q.2.2.2):=by
 intro i j x y s z z' e1 e2
 rw[Al] at e1 e2
 obtain⟨q1,m1,e1⟩:=Az.mp e1
 obtain⟨q2,m2,e2⟩:=Az.mp e2
 have t1:=(h q1 (Bq m1)).told
 have t2:=(h q2 (Bq m2)).told
 rcases t1 with t1 | ⟨n,k,N,xs,a1,a2,o,T,es,eu⟩
 ·rw[t1] at e1
  cases e1
 ·rcases t2 with t2 | ⟨n',k',N',xs',a1',a2',o',T',es',eu'⟩
  ·rw[t2] at e2
   cases e2
  ·rw[e1] at eu
   rw[e2] at eu'
   have eu:=AJ eu
   have eu':=AJ eu'
   have f1:=Bc (fun p=>p.1) eu
   have f2:=Bc (fun p=>p.2.1) eu
   have f3:=Bc (fun p=>p.2.2.1) eu
   have f4:=Bc (fun p=>p.2.2.2) eu
   have g1:=Bc (fun p=>p.1) eu'
   have g2:=Bc (fun p=>p.2.1) eu'
   have g3:=Bc (fun p=>p.2.2.1) eu'
   have g4:=Bc (fun p=>p.2.2.2) eu'
   have f1:x=(n:Int):=f1
   have g1:x=(n':Int):=g1
   have f2:y=(k:Int):=f2
   have g2:y=(k':Int):=g2
   have f3:s=q1.2.2.1:=f3
   have g3:s=q2.2.2.1:=g3
   have f4:z=(N:Int):=f4
   have g4:z'=(N':Int):=g4
   obtain rfl:n=n':=by rfl'
   obtain rfl:k=k':=by rfl'
   have et:ordT n xs=ordT n xs':=by rw[<-es,<-es',<-f3,<-g3]
   have r1:=fR o a1 a2
   rw[et,fR o' a1 a2] at r1
   have r1:tI xs'=tI xs:=Res.ok.inj r1
   have ee:=zF4 xs xs
   rw[Ag rfl] at ee
   have e3:=zF4 xs' xs
   rw[r1,ee] at e3
   have e4:xs'=xs:=of_decide_eq_true (AJ e3).symm
   subst e4
   have:=xD3 T T'
   rfl'
def lwB:Ev->Res Out:=(sS 3 (e2 catL (eV 3) (eM1S splD (eF dU (aC (eM1S joinD (eC (.str "\n")) (eComp (iS (eS slL (eV 2) (oS (eV 4)) (oS (e2 addI (eV 4) (eC (.int 12)))))) tYes (e2 ixD (eV 0) (eC (.int 0))) [])) aN)) (eC (.str "\n")))))
def lwE:Ev->Res Out:=(sQ (sIf (tO (b2 neD (eB lenD (aC (eV 3) aN)) (eB lenD (aC (eV 2) aN))) (tNt (tV (eB allD (aC (eComp (iR rng1 (aC (eB lenD (aC (eV 2) aN)) aN)) tYes (eF wS (aC (e2 ixD (eV 1) (eV 0)) (aC (e2 ixD (eV 2) (eV 0)) aN))) [2,3]) aN))))) (sR (eC (.bool false))) sN) (sR (eF kJ (aC (eV 2) (aC (eV 3) aN)))))
theorem wF9:xX9=(sQ (sS 1 (e2 catL (eB mkL (aC (eC (.int 1)) aN)) (eB listD (aC (eV 0) aN)))) (sQ (sS 2 (eComp (iR rng1 (aC (eB lenD (aC (eV 1) aN)) aN)) tYes (eF qO (aC (e2 ixD (eV 1) (eV 0)) (aC (e2 (fun x y=>bD (ltI x y)) (eV 0) (eC (.int 8))) aN))) [1])) (sQ (sS 3 (eB mkL aN)) (sQ (sF (iR rng3 (aC (eC (.int 0)) (aC (eB lenD (aC (eV 2) aN)) (aC (eC (.int 12)) aN)))) (gN 4) lwB) lwE)))):=rfl
theorem rng12{N:Nat}(h1:1<=N)(h2:N<=64):rng3 [.int 0,.int (N:Int),.int 12]=some ((List.range ((N+11) / 12)).map fun (m:Nat)=>PyData.int (((12*m:Nat)):Int)):=by
 have ok:∀n,n<65->StepOk 0 ((n:Nat):Int) 12:=by decide +kernel
 have u:∀i j k:Int,StepOk i j k->rng3 [.int i,.int j,.int k]=some ((List.range (Builtin.Range.rangeSize i j k).toNat).map fun (m:Nat)=>PyData.int (i+(m:Int)*k)):=fun i j k h=>Ac h
 rw[u 0 (N:Int) 12 (ok N (by rfl'))]
 have e:(Builtin.Range.rangeSize 0 (N:Int) 12).toNat=(N+11) / 12:=by
  unfold Builtin.Range.rangeSize
  rw[Ac (by decide),Ac (by rfl')]
  rfl'
 rw[e]
 refine Bc some (Bf fun m _ => ?_)
 rw[show (0:Int)+(m:Int)*12=((12*m:Nat):Int) by rfl']
theorem wV4{qs:List Q54}{u0 u1:Option D}{i:Nat}(hq:∀q∈qs,Q54Ok q)(hl:qs.length<=64)(hi:12*i<qs.length):lwB [u0,u1,some (.list (qs.map fun q=>q.1)),some (.list ((qs.take (12*i)).map fun q=>PyData.str q.2.2.1)),some (.int ((12*i:Nat):Int))]=.ok (.nx [u0,u1,some (.list (qs.map fun q=>q.1)),some (.list ((qs.take (12*(i+1))).map fun q=>PyData.str q.2.2.1)),some (.int ((12*i:Nat):Int))]):=by
 obtain⟨ch,hch⟩:∃ch,ch=(qs.drop (12*i)).take 12:=⟨_,rfl⟩
 have ct:cutD (qs.map fun q=>q.1) (some ((12*i:Nat):Int)) (some (((12*i:Nat):Int)+12))=ch.map fun q=>q.1:=by
  rw[show ((12*i:Nat):Int)+12=((12*i+12:Nat):Int) by rfl',wT5 _ (by rw[Aa];rfl'),<-List.map_drop,<-List.map_take,hch,show 12*i+12-12*i=12 by rfl']
 have hc:∀q∈ch,Q54Ok q:=fun q h=>by
  rw[hch] at h
  exact hq q (List.mem_of_mem_drop (List.mem_of_mem_take h))
 have cl:ch.length<=12:=by rw[hch,BN];rfl'
 have cne:ch ≠ []:=fun z=>by
  have:=Bc List.length z
  rw[hch,BN,BF] at this
  simp at this
  rfl'
 have e12:qs.take (12*(i+1))=qs.take (12*i)++ch:=by
  rw[hch,show 12*(i+1)=12*i+12 by rfl',List.take_add]
 have cc:eComp (iS (eS slL (eV 2) (oS (eV 4)) (oS (e2 addI (eV 4) (eC (.int 12)))))) tYes (e2 ixD (eV 0) (eC (.int 0))) [] [u0,u1,some (.list (qs.map fun q=>q.1)),some (.list ((qs.take (12*i)).map fun q=>PyData.str q.2.2.1)),some (.int ((12*i:Nat):Int))]=.ok (.list (ch.map fun q=>PyData.str q.2.1)):=by
  refine yF (fun q:Q54=>q.1) (fun q=>PyData.str q.2.1) ch (by simp![ct]) (by rfl') fun q h => ?_
  obtain⟨w,a,k,m,e⟩:=(hc q h).shape
  show e2 ixD (eV 0) (eC (.int 0)) [some q.1]=_
  rw[e]
  unfold rowD
  simp![aM]
 obtain⟨L,hL⟩:∃L:List (Str×Str),L=ch.map fun q=>(q.2.1,q.2.2.1):=⟨_,rfl⟩
 have L0:L ≠ []:=fun z=>cne (Bw.mp (hL▸z))
 have L12:L.length<=12:=by rw[hL,Aa];exact cl
 have hg:∀p∈L,PrA p:=fun p hp=>by
  rw[hL] at hp
  obtain⟨q,h,rfl⟩:=AE.mp hp
  exact (hc q h).pr
 have an:=yG3 L0 L12 hg
 have sp:=xI2 L0 L12 hg
 have jr:=gZ (zK2 (ts:=L.map Prod.fst) (by rw[Aa];exact L12) (prs hg).1.1).1
 have f1:(L.map Prod.fst).map PyData.str=ch.map fun q=>PyData.str q.2.1:=by
  rw[hL,Av,Av]
  rfl
 have f2:(L.map Prod.snd).map PyData.str=ch.map fun q=>PyData.str q.2.2.1:=by
  rw[hL,Av,Av]
  rfl
 rw[f1] at jr
 rw[f2] at sp
 have cat:catL (.list ((qs.take (12*i)).map fun q=>PyData.str q.2.2.1)) (.list (ch.map fun q=>PyData.str q.2.2.1))=some (.list ((qs.take (12*(i+1))).map fun q=>PyData.str q.2.2.1)):=by
  rw[e12,AK]
  have lb:=qW
  exact Ac (by rw[Aa,Aa,BN];rfl')
 generalize Str.join "\n" (L.map Prod.fst)=J at an jr
 generalize Str.join "\n" (L.map Prod.snd)=Z at an sp
 unfold lwB
 simp![cc,xI,yC,jr,an,sp,cat]
theorem law_true(ns:List Int)(h:ns.length<=63):xV8 [.list (ns.map PyData.int)]=.ok (.bool true):=by
 show (xX9 [some (lI ns),none,none,none,none]).bind (fin false)=_
 rw[wF9]
 obtain⟨cs,hcs⟩:∃cs:List Int,cs=[1]++ns:=⟨_,rfl⟩
 obtain⟨N,hN⟩:∃N,N=cs.length:=⟨_,rfl⟩
 have N1:1<=N:=by rw[hN,hcs];simp
 have N64:N<=64:=by rw[hN,hcs];simp;rfl'
 have lc:catL (.list [.int 1]) (lI ns)=some (lI cs):=by
  rw[hcs]
  exact xZ2 (xs:=[1]) (ys:=ns) (by simp;rfl')
 have lcs:(cs.map PyData.int).length=N:=by rw[Aa,hN]
 obtain⟨qs,hqs⟩:∃qs,qs=qsL cs N:=⟨_,rfl⟩
 have ql:qs.length=N:=by rw[hqs];unfold qsL;rw[Aa,Aq]
 have hq:∀q∈qs,Q54Ok q:=fun q hq=>by
  rw[hqs] at hq
  obtain⟨i,_,rfl⟩:=AE.mp hq
  exact (yA4 _ _).2
 have c1:eComp (iR rng1 (aC (eB lenD (aC (eV 1) aN)) aN)) tYes (eF qO (aC (e2 ixD (eV 1) (eV 0)) (aC (e2 (fun x y=>bD (ltI x y)) (eV 0) (eC (.int 8))) aN))) [1] [some (lI ns),some (lI cs),none,none,none]=.ok (.list (qs.map fun q=>q.1)):=by
  rw[hqs]
  unfold qsL
  rw[Av]
  refine yF (fun i:Nat=>PyData.int (i:Int)) (fun i=>(rowQ (cs.getD i 0) (decide (i<8))).1) (List.range N) (by simp![lcs,uK (show N<=1000 by rfl')]) (by rw[Aq];rfl') fun i hi => ?_
  have hi:=AB.mp hi
  have a:=uR (xs:=cs) (i:=(i:Int)) (j:=i) rfl (by rfl')
  have d:decide ((i:Int)<8)=decide (i<8):=decide_eq_decide.mpr (by rfl')
  show eF qO (aC (e2 ixD (eV 1) (eV 0)) (aC (e2 (fun x y=>bD (ltI x y)) (eV 0) (eC (.int 8))) aN)) [some (.int (i:Int)),some (lI cs)]=_
  simp![a,d,(yA4 (cs.getD i 0) (decide (i<8))).1]
 have lq:(qs.map fun q=>q.1).length=N:=by rw[Aa,ql]
 have endE:∀x:Option D,lwE [some (lI ns),some (lI cs),some (.list (qs.map fun q=>q.1)),some (.list (qs.map fun q=>PyData.str q.2.2.1)),x]=.ok (.rt (.bool true)):=fun x=>by
  have la:(qs.map fun q=>PyData.str q.2.2.1).length=N:=by rw[Aa,ql]
  have c2:eComp (iR rng1 (aC (eB lenD (aC (eV 2) aN)) aN)) tYes (eF wS (aC (e2 ixD (eV 1) (eV 0)) (aC (e2 ixD (eV 2) (eV 0)) aN))) [2,3] [some (lI ns),some (lI cs),some (.list (qs.map fun q=>q.1)),some (.list (qs.map fun q=>PyData.str q.2.2.1)),x]=.ok (.list ((List.range N).map fun _=>PyData.bool true)):=by
   refine yF (fun i:Nat=>PyData.int (i:Int)) (fun _=>PyData.bool true) (List.range N) (by simp![lq,uK (show N<=1000 by rfl')]) (by rw[Aq];rfl') fun i hi => ?_
   have hi:=AB.mp hi
   have hi':i<qs.length:=by rfl'
   have a1:atI (qs.map fun q=>q.1) (i:Int)=some (qs[i]'hi').1:=qM (by rw[Al,Ae hi'];rfl)
   have a2:atI (qs.map fun q=>PyData.str q.2.2.1) (i:Int)=some (.str (qs[i]'hi').2.2.1):=qM (by rw[Al,Ae hi'];rfl)
   have r:=(hq _ (List.getElem_mem hi')).right
   generalize qs[i]'hi'=q at a1 a2 r
   show eF wS (aC (e2 ixD (eV 1) (eV 0)) (aC (e2 ixD (eV 2) (eV 0)) aN)) [some (.int (i:Int)),some (.list (qs.map fun q=>q.1)),some (.list (qs.map fun q=>PyData.str q.2.2.1))]=_
   simp![a1,a2,r]
  have al:=xL7 (List.range N) fun _=>true
  have tt:((List.range N).all fun _=>true)=true:=by rw[Bv];exact fun _ _=>rfl
  rw[tt] at al
  have un:kJ [.list (qs.map fun q=>q.1),.list (qs.map fun q=>PyData.str q.2.2.1)]=.ok (.bool true):=wM6 (xR1 qs hq) (by rw[lq];rfl') (xC8 hq)
  unfold lwE
  simp![la,lq,zQ7,decide_true,c2,al,un]
 simp![lc,c1,lq,rng12 N1 N64]
 refine vU (fun i ρ=>∃x,ρ=[some (lI ns),some (lI cs),some (.list (qs.map fun q=>q.1)),some (.list ((qs.take (12*i)).map fun q=>PyData.str q.2.2.1)),x]) ⟨none,rfl⟩ ?_ ?_
 ·rintro i d ρ hd ⟨x,rfl⟩
  rw[Al] at hd
  obtain⟨m,hm,rfl⟩:=Az.mp hd
  obtain⟨h',hm⟩:=Au.mp hm
  rw[List.getElem_range] at hm
  subst hm
  rw[Aq] at h'
  exact⟨_,_,rfl,wV4 hq (by rfl') (by rfl'),_,rfl⟩
 ·rintro ρ ⟨x,rfl⟩
  rw[Aa,Aq,BH (by rfl')]
  simp![endE x]
end K54
set_option hygiene false in
local macro_rules | `(tactic| sleep 11)=>`(tactic| (dsimp only[L2.KOf];refine' ⟨_,_,L2.zH3 KX G ?a ?l ?c ?k ?b⟩; (case a=>k_is); (case l=>k_is); (case c=>k_is); (case k=>k_is); (case b=>intro _ _ _ _ _ _;refine L2.L3.ls1 ?_;exact fun _=>rfl)))
set_option hygiene false in
local macro_rules | `(tactic| sleep 12)=>`(tactic| (dsimp only[L2.KOf];refine' ⟨_,_,L2.zH3 KX G ?a ?l ?c ?k ?b⟩; (case a=>k_is); (case l=>k_is); (case c=>k_is); (case k=>k_is); (case b=>intro _ _ _ _ _ _;refine L2.L3.ls2 ?_;exact fun _ _=>rfl)))
set_option hygiene false in
local macro_rules | `(tactic| sleep 13)=>`(tactic| (dsimp only[L2.KOf];refine' ⟨_,_,L2.zH3 KX G ?a ?l ?c ?k ?b⟩; (case a=>k_is); (case l=>k_is); (case c=>k_is); (case k=>k_is); (case b=>intro _ _ _ _ _ _;refine L2.L3.ls3 ?_;exact fun _ _ _=>rfl)))
def PySem.W.Fast.tw425060810512120955 : Unit := ()
theorem PySem.W.Fast.te425060810512120955 : True := trivial
def PySem.W.Fast.tw2819438835793899946 : PySem.Program := PySem.Challenge.pw_ownboxes_k54_counts_asked
theorem PySem.W.Fast.te2819438835793899946 : PySem.Challenge.pw_ownboxes_k54_counts_asked = PySem.W.Fast.tw2819438835793899946 := rfl
def PySem.W.Fast.tw6816972911940292694 : Unit := ()
def PySem.W.Fast.tw15820034299169081629 : Unit := ()
def PySem.W.Fast.tw9012973364605825850 : Unit := ()
def PySem.W.Fast.tw12469465688607925745 : Unit := ()
def PySem.W.Fast.tw11330393307779591700 : Unit := ()
def PySem.W.Fast.tw4715730374099176713 : Unit := ()
def PySem.W.Fast.tw8468836924505306882 : Unit := ()
def PySem.W.Fast.tw16336479951902164573 : Unit := ()
def PySem.W.Fast.tw12870321555557454509 : Unit := ()
def PySem.W.Fast.tw5008376270860888047 : Unit := ()
def PySem.W.Fast.tw12474326094786525347 : Unit := ()
def PySem.W.Fast.tw2821663806929201110 : Unit := ()
def PySem.W.Fast.tw11314563400162989232 : Unit := ()
def PySem.W.Fast.tw15693762405720784345 : Unit := ()
def PySem.W.Fast.tw4367701443090698445 : Unit := ()
def PySem.W.Fast.tw9717415383141255580 : Unit := ()
def PySem.W.Fast.tw16950419962097418040 : Unit := ()
open PySem PySem.W PyProof.Rows
theorem K54.big_mk{K:KFr}{a_BadGroup a_BadOpenings a_BadOrder a_NoNumber a_TooMany:PySem.Addr}(n_BadGroup:PySem.W.nsIn K PySem.mainGlobals "BadGroup" = some (some (.ref a_BadGroup)))(n_BadOpenings:PySem.W.nsIn K PySem.mainGlobals "BadOpenings" = some (some (.ref a_BadOpenings)))(n_BadOrder:PySem.W.nsIn K PySem.mainGlobals "BadOrder" = some (some (.ref a_BadOrder)))(n_NoNumber:PySem.W.nsIn K PySem.mainGlobals "NoNumber" = some (some (.ref a_NoNumber)))(n_TooMany:PySem.W.nsIn K PySem.mainGlobals "TooMany" = some (some (.ref a_TooMany)))(o_BadOrder:PySem.W.excIn K a_BadOrder L2.L3.bmV "ValueError.__new__" = true)(g1_BadOrder:PySem.W.findIn K (.ref a_BadOrder) "__getattribute__" = some (some (.builtin "BaseException.__getattribute__")))(g2_BadOrder:PySem.W.findIn K (.ref a_BadOrder) "__getattr__" = some none)(g3_BadOrder:PySem.W.findIn K (.ref a_BadOrder) "__class__" = some (some (.builtin "object.__class__")))(g4_BadOrder:PySem.W.kitOne K (.ref a_BadOrder) (.type "BaseException")=some true)(g5_BadOrder:PySem.W.kitOne K (.ref a_BadOrder) (.type "object")=some true)(g6_BadOrder:(PySem.W.clsIn K a_BadOrder).isSome=true)(o_BadOpenings:PySem.W.excIn K a_BadOpenings L2.L3.bmV "ValueError.__new__" = true)(g1_BadOpenings:PySem.W.findIn K (.ref a_BadOpenings) "__getattribute__" = some (some (.builtin "BaseException.__getattribute__")))(g2_BadOpenings:PySem.W.findIn K (.ref a_BadOpenings) "__getattr__" = some none)(g3_BadOpenings:PySem.W.findIn K (.ref a_BadOpenings) "__class__" = some (some (.builtin "object.__class__")))(g4_BadOpenings:PySem.W.kitOne K (.ref a_BadOpenings) (.type "BaseException")=some true)(g5_BadOpenings:PySem.W.kitOne K (.ref a_BadOpenings) (.type "object")=some true)(g6_BadOpenings:(PySem.W.clsIn K a_BadOpenings).isSome=true)(o_TooMany:PySem.W.excIn K a_TooMany L2.L3.bmV "ValueError.__new__" = true)(g1_TooMany:PySem.W.findIn K (.ref a_TooMany) "__getattribute__" = some (some (.builtin "BaseException.__getattribute__")))(g2_TooMany:PySem.W.findIn K (.ref a_TooMany) "__getattr__" = some none)(g3_TooMany:PySem.W.findIn K (.ref a_TooMany) "__class__" = some (some (.builtin "object.__class__")))(g4_TooMany:PySem.W.kitOne K (.ref a_TooMany) (.type "BaseException")=some true)(g5_TooMany:PySem.W.kitOne K (.ref a_TooMany) (.type "object")=some true)(g6_TooMany:(PySem.W.clsIn K a_TooMany).isSome=true)(o_BadGroup:PySem.W.excIn K a_BadGroup L2.L3.bmV "ValueError.__new__" = true)(g1_BadGroup:PySem.W.findIn K (.ref a_BadGroup) "__getattribute__" = some (some (.builtin "BaseException.__getattribute__")))(g2_BadGroup:PySem.W.findIn K (.ref a_BadGroup) "__getattr__" = some none)(g3_BadGroup:PySem.W.findIn K (.ref a_BadGroup) "__class__" = some (some (.builtin "object.__class__")))(g4_BadGroup:PySem.W.kitOne K (.ref a_BadGroup) (.type "BaseException")=some true)(g5_BadGroup:PySem.W.kitOne K (.ref a_BadGroup) (.type "object")=some true)(g6_BadGroup:(PySem.W.clsIn K a_BadGroup).isSome=true)(o_NoNumber:PySem.W.excIn K a_NoNumber L2.L3.bmV "ValueError.__new__" = true)(g1_NoNumber:PySem.W.findIn K (.ref a_NoNumber) "__getattribute__" = some (some (.builtin "BaseException.__getattribute__")))(g2_NoNumber:PySem.W.findIn K (.ref a_NoNumber) "__getattr__" = some none)(g3_NoNumber:PySem.W.findIn K (.ref a_NoNumber) "__class__" = some (some (.builtin "object.__class__")))(g4_NoNumber:PySem.W.kitOne K (.ref a_NoNumber) (.type "BaseException")=some true)(g5_NoNumber:PySem.W.kitOne K (.ref a_NoNumber) (.type "object")=some true)(g6_NoNumber:(PySem.W.clsIn K a_NoNumber).isSome=true):∃a_BadGroup a_BadOpenings a_BadOrder a_NoNumber a_TooMany:PySem.Addr,(PySem.W.nsIn K PySem.mainGlobals "BadGroup" = some (some (.ref a_BadGroup)))/\(PySem.W.nsIn K PySem.mainGlobals "BadOpenings" = some (some (.ref a_BadOpenings)))/\(PySem.W.nsIn K PySem.mainGlobals "BadOrder" = some (some (.ref a_BadOrder)))/\(PySem.W.nsIn K PySem.mainGlobals "NoNumber" = some (some (.ref a_NoNumber)))/\(PySem.W.nsIn K PySem.mainGlobals "TooMany" = some (some (.ref a_TooMany)))/\(PySem.W.excIn K a_BadOrder L2.L3.bmV "ValueError.__new__" = true)/\(PySem.W.findIn K (.ref a_BadOrder) "__getattribute__" = some (some (.builtin "BaseException.__getattribute__")))/\(PySem.W.findIn K (.ref a_BadOrder) "__getattr__" = some none)/\(PySem.W.findIn K (.ref a_BadOrder) "__class__" = some (some (.builtin "object.__class__")))/\(PySem.W.kitOne K (.ref a_BadOrder) (.type "BaseException")=some true)/\(PySem.W.kitOne K (.ref a_BadOrder) (.type "object")=some true)/\((PySem.W.clsIn K a_BadOrder).isSome=true)/\(PySem.W.excIn K a_BadOpenings L2.L3.bmV "ValueError.__new__" = true)/\(PySem.W.findIn K (.ref a_BadOpenings) "__getattribute__" = some (some (.builtin "BaseException.__getattribute__")))/\(PySem.W.findIn K (.ref a_BadOpenings) "__getattr__" = some none)/\(PySem.W.findIn K (.ref a_BadOpenings) "__class__" = some (some (.builtin "object.__class__")))/\(PySem.W.kitOne K (.ref a_BadOpenings) (.type "BaseException")=some true)/\(PySem.W.kitOne K (.ref a_BadOpenings) (.type "object")=some true)/\((PySem.W.clsIn K a_BadOpenings).isSome=true)/\(PySem.W.excIn K a_TooMany L2.L3.bmV "ValueError.__new__" = true)/\(PySem.W.findIn K (.ref a_TooMany) "__getattribute__" = some (some (.builtin "BaseException.__getattribute__")))/\(PySem.W.findIn K (.ref a_TooMany) "__getattr__" = some none)/\(PySem.W.findIn K (.ref a_TooMany) "__class__" = some (some (.builtin "object.__class__")))/\(PySem.W.kitOne K (.ref a_TooMany) (.type "BaseException")=some true)/\(PySem.W.kitOne K (.ref a_TooMany) (.type "object")=some true)/\((PySem.W.clsIn K a_TooMany).isSome=true)/\(PySem.W.excIn K a_BadGroup L2.L3.bmV "ValueError.__new__" = true)/\(PySem.W.findIn K (.ref a_BadGroup) "__getattribute__" = some (some (.builtin "BaseException.__getattribute__")))/\(PySem.W.findIn K (.ref a_BadGroup) "__getattr__" = some none)/\(PySem.W.findIn K (.ref a_BadGroup) "__class__" = some (some (.builtin "object.__class__")))/\(PySem.W.kitOne K (.ref a_BadGroup) (.type "BaseException")=some true)/\(PySem.W.kitOne K (.ref a_BadGroup) (.type "object")=some true)/\((PySem.W.clsIn K a_BadGroup).isSome=true)/\(PySem.W.excIn K a_NoNumber L2.L3.bmV "ValueError.__new__" = true)/\(PySem.W.findIn K (.ref a_NoNumber) "__getattribute__" = some (some (.builtin "BaseException.__getattribute__")))/\(PySem.W.findIn K (.ref a_NoNumber) "__getattr__" = some none)/\(PySem.W.findIn K (.ref a_NoNumber) "__class__" = some (some (.builtin "object.__class__")))/\(PySem.W.kitOne K (.ref a_NoNumber) (.type "BaseException")=some true)/\(PySem.W.kitOne K (.ref a_NoNumber) (.type "object")=some true)/\((PySem.W.clsIn K a_NoNumber).isSome=true):=⟨a_BadGroup,a_BadOpenings,a_BadOrder,a_NoNumber,a_TooMany,n_BadGroup,n_BadOpenings,n_BadOrder,n_NoNumber,n_TooMany,o_BadOrder,g1_BadOrder,g2_BadOrder,g3_BadOrder,g4_BadOrder,g5_BadOrder,g6_BadOrder,o_BadOpenings,g1_BadOpenings,g2_BadOpenings,g3_BadOpenings,g4_BadOpenings,g5_BadOpenings,g6_BadOpenings,o_TooMany,g1_TooMany,g2_TooMany,g3_TooMany,g4_TooMany,g5_TooMany,g6_TooMany,o_BadGroup,g1_BadGroup,g2_BadGroup,g3_BadGroup,g4_BadGroup,g5_BadGroup,g6_BadGroup,o_NoNumber,g1_NoNumber,g2_NoNumber,g3_NoNumber,g4_NoNumber,g5_NoNumber,g6_NoNumber⟩
set_option maxRecDepth 100000 in
set_option maxHeartbeats 0 in
theorem PySem.Challenge.cw_ownboxes_k54_counts_asked_holds : PySem.Challenge.rw_ownboxes_k54_counts_asked.Holds := by
 w_on;o_law;k_head; (case hw=>w_witness2)
 k_fill
 refine L2.L3.xN4 (F:=K54.xV8) (k:=9) (l:=PySem.Challenge.rw_ownboxes_k54_counts_asked) K54.law_true ⟨rfl,by decide,by decide⟩ rfl rfl (fun w h Y=>PySem.W.kIn_of Y) (fun w=>by rfl) ?F
 case F =>
  intro w mg fa h KX G hmg
  letI cn:L2.L3.CN:=L2.L3.cnOf (L2.KOf KX)
  have D_is_order:∃f fd,L2.Has (L2.KOf KX) mg "is_order" K54.dW f fd ["names"]:=by sleep 11
  have D_ring_from:∃f fd,L2.Has (L2.KOf KX) mg "ring_from" K54.gJ f fd ["order","box"]:=by sleep 12
  have D_rings_of:∃f fd,L2.Has (L2.KOf KX) mg "rings_of" K54.fG f fd ["order"]:=by sleep 11
  have D_order_by:∃f fd,L2.Has (L2.KOf KX) mg "order_by" K54.fE f fd ["rings"]:=by sleep 11
  have D_many_orders:∃f fd,L2.Has (L2.KOf KX) mg "many_orders" K54.jR f fd ["people"]:=by sleep 11
  have D_made_openings:∃f fd,L2.Has (L2.KOf KX) mg "made_openings" K54.uI f fd ["people","numbers"]:=by sleep 12
  have D_check_people:∃f fd,L2.Has (L2.KOf KX) mg "check_people" K54.qQ f fd ["people"]:=by sleep 11
  have D_check_people_and_k:∃f fd,L2.Has (L2.KOf KX) mg "check_people_and_k" K54.wG f fd ["people","k"]:=by sleep 12
  have D_many_by_lengths:∃f fd,L2.Has (L2.KOf KX) mg "many_by_lengths" K54.vG f fd ["people","least","most"]:=by sleep 13
  have D_many_good:∃f fd,L2.Has (L2.KOf KX) mg "many_good" K54.gK f fd ["people","k"]:=by sleep 12
  have D_many_finding:∃f fd,L2.Has (L2.KOf KX) mg "many_finding" K54.qS f fd ["people","k"]:=by sleep 12
  have D_many_behind_person:∃f fd,L2.Has (L2.KOf KX) mg "many_behind_person" K54.wH f fd ["many","openings"]:=by sleep 12
  have D_many_all:∃f fd,L2.Has (L2.KOf KX) mg "many_all" K54.fI f fd ["openings"]:=by sleep 11
  have D_greatest_divisor:∃f fd,L2.Has (L2.KOf KX) mg "greatest_divisor" K54.vS f fd ["one","other"]:=by sleep 12
  have D_share:∃f fd,L2.Has (L2.KOf KX) mg "share" K54.zR8 f fd ["openings"]:=by sleep 11
  have D_check_group:∃f fd,L2.Has (L2.KOf KX) mg "check_group" K54.jT f fd ["people","group"]:=by sleep 12
  have D_many_rows:∃f fd,L2.Has (L2.KOf KX) mg "many_rows" K54.gH f fd ["people","size"]:=by sleep 12
  have D_many_with_group:∃f fd,L2.Has (L2.KOf KX) mg "many_with_group" K54.wL f fd ["many","size"]:=by sleep 12
  have D_many_all_of:∃f fd,L2.Has (L2.KOf KX) mg "many_all_of" K54.jS f fd ["people","k","group"]:=by sleep 13
  have D_many_first_rings:∃f fd,L2.Has (L2.KOf KX) mg "many_first_rings" K54.vP f fd ["boxes","length"]:=by sleep 12
  have D_many_with_first_ring:∃f fd,L2.Has (L2.KOf KX) mg "many_with_first_ring" K54.wY f fd ["many","boxes","length"]:=by sleep 13
  have D_ring_at:∃f fd,L2.Has (L2.KOf KX) mg "ring_at" K54.cI f fd ["left","length","place"]:=by sleep 13
  have D_good_at:∃f fd,L2.Has (L2.KOf KX) mg "good_at" K54.fX f fd ["people","k","number"]:=by sleep 13
  have D_numbers_text:∃f fd,L2.Has (L2.KOf KX) mg "numbers_text" K54.vF f fd ["numbers"]:=by sleep 11
  have D_read_number:∃f fd,L2.Has (L2.KOf KX) mg "read_number" K54.jU f fd ["word","row"]:=by sleep 12
  have D_read_numbers:∃f fd,L2.Has (L2.KOf KX) mg "read_numbers" K54.vE f fd ["words","row"]:=by sleep 12
  have D_ring_text:∃f fd,L2.Has (L2.KOf KX) mg "ring_text" K54.gF f fd ["ring"]:=by sleep 11
  have D_order_text:∃f fd,L2.Has (L2.KOf KX) mg "order_text" K54.qT f fd ["order"]:=by sleep 11
  have D_read_order:∃f fd,L2.Has (L2.KOf KX) mg "read_order" K54.qY f fd ["text"]:=by sleep 11
  have D_share_text:∃f fd,L2.Has (L2.KOf KX) mg "share_text" K54.qX f fd ["openings"]:=by sleep 11
  have D_first_people:∃f fd,L2.Has (L2.KOf KX) mg "first_people" K54.qP f fd ["count"]:=by sleep 11
  have D_answer_by_numbers:∃f fd,L2.Has (L2.KOf KX) mg "answer_by_numbers" K54.vW f fd ["word","numbers"]:=by sleep 12
  have D_answer:∃f fd,L2.Has (L2.KOf KX) mg "answer" K54.aB f fd ["row"]:=by sleep 11
  have D_answer_or_refusal:∃f fd,L2.Has (L2.KOf KX) mg "answer_or_refusal" K54.vX f fd ["row"]:=by sleep 11
  have D_answered:∃f fd,L2.Has (L2.KOf KX) mg "answered" K54.jC f fd ["sheet"]:=by sleep 11
  have D_l_order:∃f fd,L2.Has (L2.KOf KX) mg "_law_order" K54.bV f fd ["cell","many"]:=by sleep 12
  have D_l_rings:∃f fd,L2.Has (L2.KOf KX) mg "_law_rings" K54.cF f fd ["order"]:=by sleep 11
  have D_l_openings:∃f fd,L2.Has (L2.KOf KX) mg "_law_openings" K54.kM f fd ["cell","many"]:=by sleep 12
  have D_l_blanks:∃f fd,L2.Has (L2.KOf KX) mg "_law_blanks" K54.jE f fd ["some"]:=by sleep 11
  have D_l_good:∃f fd,L2.Has (L2.KOf KX) mg "_law_good" K54.zZ7 f fd ["people","k"]:=by sleep 12
  have D_l_all:∃f fd,L2.Has (L2.KOf KX) mg "_law_all" K54.zQ3 f fd ["many"]:=by sleep 11
  have D_l_terms:∃f fd,L2.Has (L2.KOf KX) mg "_law_terms" K54.bO f fd ["one","other"]:=by sleep 12
  have D_l_share:∃f fd,L2.Has (L2.KOf KX) mg "_law_share" K54.jI f fd ["openings"]:=by sleep 11
  have D_l_row:∃f fd,L2.Has (L2.KOf KX) mg "_law_row" K54.bF f fd ["cell","great"]:=by sleep 12
  have D_l_right:∃f fd,L2.Has (L2.KOf KX) mg "_law_right" K54.gE f fd ["row","answer_v"]:=by sleep 12
  have D_l_unlike:∃f fd,L2.Has (L2.KOf KX) mg "_law_unlike" K54.kK f fd ["rows","answers"]:=by sleep 12
  have D_law:∃f fd,L2.Has (L2.KOf KX) mg "law" K54.zZ2 f fd ["script"]/\(∀(s:Shared) (u:Value),BindsTo s fd ⟨[u],[]⟩ [("script",u)]):=by
   dsimp only[L2.KOf]
   refine' ⟨_,_,L2.zH3 KX G ?a ?l ?c ?k ?b,?d⟩
   (case a=>k_is); (case l=>k_is); (case c=>k_is); (case k=>k_is)
   (case b=>intro _ _ _ _ _ _;refine L2.L3.ls1 ?_;exact fun _=>rfl)
   (case d=>exact fun s u=>.of_eq rfl)
  have BIG:∃a_BadGroup a_BadOpenings a_BadOrder a_NoNumber a_TooMany:PySem.Addr,(PySem.W.nsIn (L2.KOf KX) PySem.mainGlobals "BadGroup" = some (some (.ref a_BadGroup)))/\(PySem.W.nsIn (L2.KOf KX) PySem.mainGlobals "BadOpenings" = some (some (.ref a_BadOpenings)))/\(PySem.W.nsIn (L2.KOf KX) PySem.mainGlobals "BadOrder" = some (some (.ref a_BadOrder)))/\(PySem.W.nsIn (L2.KOf KX) PySem.mainGlobals "NoNumber" = some (some (.ref a_NoNumber)))/\(PySem.W.nsIn (L2.KOf KX) PySem.mainGlobals "TooMany" = some (some (.ref a_TooMany)))/\(PySem.W.excIn (L2.KOf KX) a_BadOrder L2.L3.bmV "ValueError.__new__" = true)/\(PySem.W.findIn (L2.KOf KX) (.ref a_BadOrder) "__getattribute__" = some (some (.builtin "BaseException.__getattribute__")))/\(PySem.W.findIn (L2.KOf KX) (.ref a_BadOrder) "__getattr__" = some none)/\(PySem.W.findIn (L2.KOf KX) (.ref a_BadOrder) "__class__" = some (some (.builtin "object.__class__")))/\(PySem.W.kitOne (L2.KOf KX) (.ref a_BadOrder) (.type "BaseException")=some true)/\(PySem.W.kitOne (L2.KOf KX) (.ref a_BadOrder) (.type "object")=some true)/\((PySem.W.clsIn (L2.KOf KX) a_BadOrder).isSome=true)/\(PySem.W.excIn (L2.KOf KX) a_BadOpenings L2.L3.bmV "ValueError.__new__" = true)/\(PySem.W.findIn (L2.KOf KX) (.ref a_BadOpenings) "__getattribute__" = some (some (.builtin "BaseException.__getattribute__")))/\(PySem.W.findIn (L2.KOf KX) (.ref a_BadOpenings) "__getattr__" = some none)/\(PySem.W.findIn (L2.KOf KX) (.ref a_BadOpenings) "__class__" = some (some (.builtin "object.__class__")))/\(PySem.W.kitOne (L2.KOf KX) (.ref a_BadOpenings) (.type "BaseException")=some true)/\(PySem.W.kitOne (L2.KOf KX) (.ref a_BadOpenings) (.type "object")=some true)/\((PySem.W.clsIn (L2.KOf KX) a_BadOpenings).isSome=true)/\(PySem.W.excIn (L2.KOf KX) a_TooMany L2.L3.bmV "ValueError.__new__" = true)/\(PySem.W.findIn (L2.KOf KX) (.ref a_TooMany) "__getattribute__" = some (some (.builtin "BaseException.__getattribute__")))/\(PySem.W.findIn (L2.KOf KX) (.ref a_TooMany) "__getattr__" = some none)/\(PySem.W.findIn (L2.KOf KX) (.ref a_TooMany) "__class__" = some (some (.builtin "object.__class__")))/\(PySem.W.kitOne (L2.KOf KX) (.ref a_TooMany) (.type "BaseException")=some true)/\(PySem.W.kitOne (L2.KOf KX) (.ref a_TooMany) (.type "object")=some true)/\((PySem.W.clsIn (L2.KOf KX) a_TooMany).isSome=true)/\(PySem.W.excIn (L2.KOf KX) a_BadGroup L2.L3.bmV "ValueError.__new__" = true)/\(PySem.W.findIn (L2.KOf KX) (.ref a_BadGroup) "__getattribute__" = some (some (.builtin "BaseException.__getattribute__")))/\(PySem.W.findIn (L2.KOf KX) (.ref a_BadGroup) "__getattr__" = some none)/\(PySem.W.findIn (L2.KOf KX) (.ref a_BadGroup) "__class__" = some (some (.builtin "object.__class__")))/\(PySem.W.kitOne (L2.KOf KX) (.ref a_BadGroup) (.type "BaseException")=some true)/\(PySem.W.kitOne (L2.KOf KX) (.ref a_BadGroup) (.type "object")=some true)/\((PySem.W.clsIn (L2.KOf KX) a_BadGroup).isSome=true)/\(PySem.W.excIn (L2.KOf KX) a_NoNumber L2.L3.bmV "ValueError.__new__" = true)/\(PySem.W.findIn (L2.KOf KX) (.ref a_NoNumber) "__getattribute__" = some (some (.builtin "BaseException.__getattribute__")))/\(PySem.W.findIn (L2.KOf KX) (.ref a_NoNumber) "__getattr__" = some none)/\(PySem.W.findIn (L2.KOf KX) (.ref a_NoNumber) "__class__" = some (some (.builtin "object.__class__")))/\(PySem.W.kitOne (L2.KOf KX) (.ref a_NoNumber) (.type "BaseException")=some true)/\(PySem.W.kitOne (L2.KOf KX) (.ref a_NoNumber) (.type "object")=some true)/\((PySem.W.clsIn (L2.KOf KX) a_NoNumber).isSome=true):=by
   dsimp only[L2.KOf]
   refine' K54.big_mk ?q_n_BadGroup ?q_n_BadOpenings ?q_n_BadOrder ?q_n_NoNumber ?q_n_TooMany ?q_o_BadOrder ?q_g1_BadOrder ?q_g2_BadOrder ?q_g3_BadOrder ?q_g4_BadOrder ?q_g5_BadOrder ?q_g6_BadOrder ?q_o_BadOpenings ?q_g1_BadOpenings ?q_g2_BadOpenings ?q_g3_BadOpenings ?q_g4_BadOpenings ?q_g5_BadOpenings ?q_g6_BadOpenings ?q_o_TooMany ?q_g1_TooMany ?q_g2_TooMany ?q_g3_TooMany ?q_g4_TooMany ?q_g5_TooMany ?q_g6_TooMany ?q_o_BadGroup ?q_g1_BadGroup ?q_g2_BadGroup ?q_g3_BadGroup ?q_g4_BadGroup ?q_g5_BadGroup ?q_g6_BadGroup ?q_o_NoNumber ?q_g1_NoNumber ?q_g2_NoNumber ?q_g3_NoNumber ?q_g4_NoNumber ?q_g5_NoNumber ?q_g6_NoNumber
   (case q_n_BadGroup=>k_is)
   (case q_n_BadOpenings=>k_is)
   (case q_n_BadOrder=>k_is)
   (case q_n_NoNumber=>k_is)
   (case q_n_TooMany=>k_is)
   (case q_o_BadOrder=>k_exc)
   (case q_g1_BadOrder=>k_is)
   (case q_g2_BadOrder=>k_is)
   (case q_g3_BadOrder=>k_is)
   (case q_g4_BadOrder=>kit_is)
   (case q_g5_BadOrder=>kit_is)
   (case q_g6_BadOrder=>first | k_is | rfl | decide +kernel)
   (case q_o_BadOpenings=>k_exc)
   (case q_g1_BadOpenings=>k_is)
   (case q_g2_BadOpenings=>k_is)
   (case q_g3_BadOpenings=>k_is)
   (case q_g4_BadOpenings=>kit_is)
   (case q_g5_BadOpenings=>kit_is)
   (case q_g6_BadOpenings=>first | k_is | rfl | decide +kernel)
   (case q_o_TooMany=>k_exc)
   (case q_g1_TooMany=>k_is)
   (case q_g2_TooMany=>k_is)
   (case q_g3_TooMany=>k_is)
   (case q_g4_TooMany=>kit_is)
   (case q_g5_TooMany=>kit_is)
   (case q_g6_TooMany=>first | k_is | rfl | decide +kernel)
   (case q_o_BadGroup=>k_exc)
   (case q_g1_BadGroup=>k_is)
   (case q_g2_BadGroup=>k_is)
   (case q_g3_BadGroup=>k_is)
   (case q_g4_BadGroup=>kit_is)
   (case q_g5_BadGroup=>kit_is)
   (case q_g6_BadGroup=>first | k_is | rfl | decide +kernel)
   (case q_o_NoNumber=>k_exc)
   (case q_g1_NoNumber=>k_is)
   (case q_g2_NoNumber=>k_is)
   (case q_g3_NoNumber=>k_is)
   (case q_g4_NoNumber=>kit_is)
   (case q_g5_NoNumber=>kit_is)
   (case q_g6_NoNumber=>first | k_is | rfl | decide +kernel)
  obtain⟨a_BadGroup,a_BadOpenings,a_BadOrder,a_NoNumber,a_TooMany,n_BadGroup,n_BadOpenings,n_BadOrder,n_NoNumber,n_TooMany,o_BadOrder,g1_BadOrder,g2_BadOrder,g3_BadOrder,g4_BadOrder,g5_BadOrder,g6_BadOrder,o_BadOpenings,g1_BadOpenings,g2_BadOpenings,g3_BadOpenings,g4_BadOpenings,g5_BadOpenings,g6_BadOpenings,o_TooMany,g1_TooMany,g2_TooMany,g3_TooMany,g4_TooMany,g5_TooMany,g6_TooMany,o_BadGroup,g1_BadGroup,g2_BadGroup,g3_BadGroup,g4_BadGroup,g5_BadGroup,g6_BadGroup,o_NoNumber,g1_NoNumber,g2_NoNumber,g3_NoNumber,g4_NoNumber,g5_NoNumber,g6_NoNumber⟩:=BIG
  have e_BadGroup:L2.L3.CN.ad "BadGroup" = a_BadGroup:=L2.L3.zJ4 n_BadGroup
  have e_BadOpenings:L2.L3.CN.ad "BadOpenings" = a_BadOpenings:=L2.L3.zJ4 n_BadOpenings
  have e_BadOrder:L2.L3.CN.ad "BadOrder" = a_BadOrder:=L2.L3.zJ4 n_BadOrder
  have e_NoNumber:L2.L3.CN.ad "NoNumber" = a_NoNumber:=L2.L3.zJ4 n_NoNumber
  have e_TooMany:L2.L3.CN.ad "TooMany" = a_TooMany:=L2.L3.zJ4 n_TooMany
  have k_BadOrder:PySem.ExK (L2.KOf KX) (L2.L3.CN.ad "BadOrder"):=by rw[e_BadOrder];exact⟨g1_BadOrder,g2_BadOrder,g3_BadOrder,L2.L3.uN g4_BadOrder,L2.L3.uN g5_BadOrder,g6_BadOrder⟩
  have k_BadOpenings:PySem.ExK (L2.KOf KX) (L2.L3.CN.ad "BadOpenings"):=by rw[e_BadOpenings];exact⟨g1_BadOpenings,g2_BadOpenings,g3_BadOpenings,L2.L3.uN g4_BadOpenings,L2.L3.uN g5_BadOpenings,g6_BadOpenings⟩
  have k_TooMany:PySem.ExK (L2.KOf KX) (L2.L3.CN.ad "TooMany"):=by rw[e_TooMany];exact⟨g1_TooMany,g2_TooMany,g3_TooMany,L2.L3.uN g4_TooMany,L2.L3.uN g5_TooMany,g6_TooMany⟩
  have k_BadGroup:PySem.ExK (L2.KOf KX) (L2.L3.CN.ad "BadGroup"):=by rw[e_BadGroup];exact⟨g1_BadGroup,g2_BadGroup,g3_BadGroup,L2.L3.uN g4_BadGroup,L2.L3.uN g5_BadGroup,g6_BadGroup⟩
  have k_NoNumber:PySem.ExK (L2.KOf KX) (L2.L3.CN.ad "NoNumber"):=by rw[e_NoNumber];exact⟨g1_NoNumber,g2_NoNumber,g3_NoNumber,L2.L3.uN g4_NoNumber,L2.L3.uN g5_NoNumber,g6_NoNumber⟩
  have T:K54.Txt (L2.KOf KX) mg:=by
   dsimp only[L2.KOf]
   refine' ⟨Be KX G ?z0,Be KX G ?z1,Be KX G ?z2,Be KX G ?z3,Be KX G ?z4,Be KX G ?z5,Be KX G ?z6,Be KX G ?z7,Be KX G ?z8,Be KX G ?z9,Be KX G ?z10,Be KX G ?z11,Be KX G ?z12,⟨_,CD KX G ?y0,?x0⟩,⟨_,CD KX G ?y1,?x1⟩,D_is_order,D_ring_from,D_rings_of,D_order_by,D_many_orders,D_made_openings,D_check_people,D_check_people_and_k,D_many_by_lengths,D_many_good,D_many_finding,D_many_behind_person,D_many_all,D_greatest_divisor,D_share,D_check_group,D_many_rows,D_many_with_group,D_many_all_of,D_many_first_rings,D_many_with_first_ring,D_ring_at,D_good_at,D_numbers_text,D_read_number,D_read_numbers,D_ring_text,D_order_text,D_read_order,D_share_text,D_first_people,D_answer_by_numbers,D_answer,D_answer_or_refusal,D_answered,D_l_order,D_l_rings,D_l_openings,D_l_blanks,D_l_good,D_l_all,D_l_terms,D_l_share,D_l_row,D_l_right,D_l_unlike,(let ⟨f,fd,h,_⟩:=D_law; ⟨f,fd,h⟩),?xa0,?xa1,?xa2,?xa3,?xa4,?xb0,?xb1,?xb2,?xb3,?xb4⟩
   (case z0=>k_is)
   (case z1=>k_is)
   (case z2=>k_is)
   (case z3=>k_is)
   (case z4=>k_is)
   (case z5=>k_is)
   (case z6=>k_is)
   (case z7=>k_is)
   (case z8=>k_is)
   (case z9=>k_is)
   (case z10=>k_is)
   (case z11=>k_is)
   (case z12=>k_is)
   (case y0=>k_is); (case x0=>exact⟨_,rfl⟩)
   (case y1=>k_is); (case x1=>exact⟨_,rfl⟩)
   (case xa0=>rw[e_BadGroup];exact CD KX G n_BadGroup)
   (case xa1=>rw[e_BadOpenings];exact CD KX G n_BadOpenings)
   (case xa2=>rw[e_BadOrder];exact CD KX G n_BadOrder)
   (case xa3=>rw[e_NoNumber];exact CD KX G n_NoNumber)
   (case xa4=>rw[e_TooMany];exact CD KX G n_TooMany)
   (case xb0=>unfold L2.L3.OwnX;rw[e_BadGroup];exact o_BadGroup)
   (case xb1=>unfold L2.L3.OwnX;rw[e_BadOpenings];exact o_BadOpenings)
   (case xb2=>unfold L2.L3.OwnX;rw[e_BadOrder];exact o_BadOrder)
   (case xb3=>unfold L2.L3.OwnX;rw[e_NoNumber];exact o_NoNumber)
   (case xb4=>unfold L2.L3.OwnX;rw[e_TooMany];exact o_TooMany)
  obtain⟨fl,fdl,HL,HB⟩:=D_law
  have e0:=hmg.symm.trans HL.m
  cases e0
  exact⟨fdl,HB,fun base kb nb=>K54.wM9 T HL⟩
