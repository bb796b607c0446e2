import PyProof.Rows.All
import Wide.All
import OpenK.AllK
import Wide.FinOn
import Lean
import PyProof.EqAt
import PyProof.EqKinds
import PyProof.TupleCall
import KE.KIntText
import PyProof.Rows.Range3
import PyProof.ListRange
import PyProof.TupleOfGen
import KE.KRevIter
import PyProof.Draws
import PyProof.EnumMake
import PyProof.CollectIter
import PyProof.RangeFor
import PyProof.ZipIter
import PyProof.InstStoreFacts
import PyProof.StrWalks
import PyProof.StrBlock2
import KE.IntTextText
import PySem.Challenge.RW_ownboxes_k55_rows_refused
set_option compiler.extract_closed false
theorem zY5(_h:True:=by first|exact .inl rfl|exact .inr rfl|assumption):True:=trivial
theorem zB(_h:True:=by decide):True:=trivial
theorem wA8(_h:True:=by first|exact nobehind _ (by decide) (by decide)|rfl):True:=trivial
theorem uZ(_h:True:=by intro _;rfl):True:=trivial
theorem zV(_h:True:=by rfl):True:=trivial
theorem xD3(_h:True:=by intros;rfl):True:=trivial
theorem zB3(_h:True:=by with_unfolding_all rfl):True:=trivial
theorem jY(_h:True:=by first|exact Or.inl rfl|exact Or.inr (Or.inl rfl)|exact Or.inr (Or.inr rfl)):True:=trivial
theorem wA9(_h:True:=by exact fun _ _=>rfl):True:=trivial
theorem xV7(_h:True:=by first|exact nomark _|rfl):True:=trivial
theorem zY6(_h:True:=by first|exact Or.inl rfl|exact Or.inr rfl):True:=trivial
theorem autoK12(_h:True:=by first|exact .inl rfl|exact .inr rfl):True:=trivial
theorem autoK13(_h:True:=by exact PassesOwn.never):True:=trivial
theorem autoK14(_h:True:=by decide+kernel):True:=trivial
def Eu:=jY._auto_1
def Ew:=uZ._auto_1
def Ex:=zB._auto_1
def Ey:=zV._auto_1
def Ez:=zY5._auto_1
local macro_rules| `(tactic|rfl')=>`(tactic|first|lia|omega)
local macro_rules| `(tactic|sleep 3)=>`(tactic|first|exact Or.inl rfl|exact Or.inr rfl)
set_option Elab.async false
set_option linter.all false
set_option maxRecDepth 100000
set_option maxHeartbeats 4000000
noncomputable section
abbrev _root_.A8:=PySem.Value->PySem.Shared->Prop
abbrev _root_.A9:=List (PySem.Addr×PySem.Obj)
abbrev _root_.B9:=PySem.Str->Option PySem.Value
abbrev _root_.C0:=List (List Nat)
abbrev _root_.C1:=List (List Int)
abbrev _root_.C2:=PySem.Addr->Prop
abbrev _root_.C3:=List PySem.Value
abbrev _root_.C4:=List PySem.Str
abbrev _root_.C5:=List Nat
abbrev _root_.C6:=List Int
abbrev _root_.C7:=List PySem.Expr
abbrev _root_.C9:=List PySem.Addr
variable {u doc pm cdv oc:PySem.Value}{h h':PySem.Heap}{its us:List PySem.Value}{P:PySem.Program}{t':Nat}{E Q:PySem.Value->PySem.Shared->Prop}{e tg elt:PySem.Expr}{s:PySem.Shared}{EA:List (PySem.Addr×PySem.Obj)}{pos p' apos cpos p2 tp np px py:PySem.Pos}{op op':PySem.CmpOp}{es ifs:List PySem.Expr}{body:List PySem.Stmt}{hi:Option Int}{fp:List PySem.Addr}{ps N0 ts:List PySem.Str}{sc scope sc0:PySem.Scope}{qual name xt nm W:PySem.Str}{od:Option PySem.Addr}{ys ops:List Int}{Ob O:PySem.Addr->Prop}{js:List Nat}{fr:Bool}{Φ:Option PySem.Addr->PySem.Value->Prop}{oe:PySem.Obj}
def Aa:=@List.length_map
def Ab:=@decide_eq_true
def Ac:=@Nat.le_refl
def Ad:=@decide_eq_false
def Ae:=@if_pos
def Af:=@List.mem_cons_self
def Ag:=@List.getElem?_eq_getElem
def Ah:=@List.mem_append_right
def Ai:=@PySem.wpAny_bind
def Aj:=@List.length_append
def Ak:=@List.mem_cons_of_mem
def Al:=@List.getElem?_map
def Am:=@PySem.Heap.get?_push_of_some
def An:=@if_neg
def Ao:=@PySem.boot_len
def Ap:=@PySem.Str.length_append
def Aq:=@List.length_range
def Ar:=@List.map_map
def As:=@Nat.le_trans
def Au:=@PySem.Heap.lt_size
def Av:=@List.size_toArray
def Aw:=@List.length_cons
def Ax:=@List.getD_eq_getElem?_getD
def Ay:=@List.mem_map
def Az:=@Option.map_eq_some_iff
def AA:=@Nat.lt_of_lt_of_le
def AB:=@List.map_cons
def AC:=@PySem.PassesOwn.leaving
def AD:=@List.getElem?_eq_some_iff
def AE:=@List.mem_append
def AF:=@List.mem_cons
def AG:=@List.mem_append_left
def AH:=@List.mem_range
def AI:=@Option.bind_eq_some_iff
def AJ:=@List.map_append
def AK:=@PySem.wpAny_pure
def AL:=@Bool.and_eq_true
def AM:=@List.append_assoc
def AN:=@Classical.choose_spec
def AO:=@PySem.Heap.get?_push_size
def AQ:=@Option.bind_some
def AR:=@List.mem_of_getElem?
def AS:=@PySem.Heap.get?_update_other
def AT:=@Bool.false_eq_true
def AU:=@List.getElem?_set_ne
def AV:=@List.contains_iff_mem
def AW:=@Nat.ne_of_lt
def AX:=@Int.toNat_natCast
def AY:=@Bool.false_ne_true
def AZ:=@List.getElem?_range
def Ba:=@Option.some.inj
def Bb:=@List.map_congr_left
def Bc:=@PySem.mem_of_lookup
def Bd:=@List.take_of_length_le
def Be:=@PySem.F.slot_list_append
def Bf:=@PySem.F.type_list_append
def Bh:=@Array.getElem?_eq_some_iff
def Bi:=@PySem.F.slot_str_join
def Bj:=@PySem.F.type_str_join
def Bk:=@List.mem_singleton
def Bl:=@Nat.mul_le_mul_right
def Bm:=@List.flatten_cons
def Bn:=@Option.map_some
def Bo:=@Nat.lt_of_le_of_lt
def Bp:=@PySem.Heap.get?_update_self
def Bq:=@Nat.mod_lt
def Bs:=@List.length_drop
def Bt:=@List.all_eq_true
def Bu:=@List.mem_flatten
def Bv:=@Ne.symm
def Bw:=@Nat.pow_le_pow_right
def Bx:=@List.forall_mem_cons
def By:=@congrArg
def Bz:=@List.length_replicate
def BA:=@List.take_append_drop
def BB:=@PySem.F.slot_str_split
def BC:=@PySem.F.type_str_split
def BD:=@List.nodup_cons
def BE:=@Bool.not_false
def BF:=@List.length_take
def BG:=@List.replicate_succ
def BH:=@List.flatten_append
def BJ:=@List.length_pos_iff
def BK:=@Nat.le_of_ble_eq_true
def BL:=@Nat.le_of_lt
def BM:=@PySem.F.plainAttrs_list
def BN:=@List.mem_filterMap
def BO:=@PySem.Obj.data_mapFields
def BP:=@List.append_nil
def BQ:=@Bool.not_true
def BR:=@List.getElem?_set_self
def BS:=@List.lookup_cons
def BU:=@List.take_length
def BV:=@Bool.not_eq_true
def BW:=@Array.length_toList
def BX:=@List.length_singleton
def BY:=@List.mem_filter
def BZ:=@List.contains_cons
def Ca:=@Nat.add_sub_cancel
def Cb:=@Nat.zero_le
def Cc:=@List.getElem?_cons_succ
def Cd:=@List.nodup_range
def Ce:=@PyProof.Rows.callWith_type1
def Cf:=@List.sublist_flatten_of_mem
def Cg:=@PyProof.Rows.slot_tuple_getitem
def Ch:=@List.getElem?_append_left
def Ci:=@List.pairwise_iff_getElem
def Cj:=@List.getElem?_eq_none
def Ck:=@Nat.add_sub_add_right
def Cm:=@List.pairwise_cons
def Cn:=@Int.natCast_nonneg
def Co:=@PySem.StrLaws.join_split
def Cp:=@Nat.toDigits_of_lt_base
def Cq:=@Bool.eq_iff_iff
def Cr:=@List.sum_cons
def Cs:=@List.cons_append
def Cu:=@List.getElem?_append_right
def Cv:=@PySem.F.excBase_ValueError
def Cw:=@List.perm_ext_iff_of_nodup
def Cy:=@List.set_cons_zero
def Cz:=@List.set_cons_succ
def CA:=@Nat.sub_le
def CC:=@PySem.Obj.isFreed_of_fields
def CD:=@PyProof.Rows.boot_min
def CF:=@List.append_eq_append_iff
def CG:=@List.length_set
def CH:=@Int.natCast_mul
def CI:=@Int.le_trans
def CJ:=@Nat.pow_lt_pow_right
def CK:=@List.mem_iff_getElem
def CL:=@Nat.lt_irrefl
def CM:=@List.any_cons
def CO:=@PySem.W.hideAll_get
def CP:=@List.filter_eq_self
def CQ:=@List.map_eq_nil_iff
def CS:=@List.getElem?_replicate
def CT:=@PySem.Heap.size_push
def CU:=@List.drop_length
def CV:=@List.getElem_mem
def CW:=@Nat.mod_eq_of_lt
def CY:=@Int.mul_le_mul_of_nonneg_right
def CZ:=@Int.le_refl
def Da:=@List.drop_append_of_le_length
def Db:=@List.take_append_of_le_length
def Dc:=@List.map_nil
def Dd:=@Nat.eq_zero_or_pos
def De:=@List.drop_eq_nil_of_le
def Df:=@List.pairwise_lt_range
def Dg:=@PySem.StrLaws.join_length_le
def Dh:=@List.nil_append
def Di:=@List.find?_cons
def Dj:=@Array.getElem?_toList
def Dk:=@Function.comp_def
def Dl:=@Nat.lt_trichotomy
def Dm:=@Nat.lt_succ_of_le
def Dn:=@PySem.W.hideAll_none
def Do:=@PySem.Heap.get?_none_of_le
def Dp:=@Bool.and_eq_true_iff
def Dq:=@Nat.pow_add
def Dr:=@List.take_succ
def Ds:=@Nat.succ_mul
def Dt:=@Option.getD_some
def Du:=@Nat.mul_comm
def Dv:=@Array.all_toList
def Dw:=@List.drop_eq_getElem_cons
def Dx:=@List.filterMap_cons
def Dy:=@Nat.mul_le_mul_left
def Dz:=@PyProof.noPylong_of_log2
def DA:=@List.eq_of_mem_replicate
def DB:=@Nat.min_eq_left
def DC:=@List.range_succ
def DD:=@PySem.W.of_hideAll
def DE:=@Nat.lt_of_lt_of_eq
def DF:=@Int.natAbs_natCast
def DG:=@Nat.log2_lt
def DH:=@PySem.W.cellsFrom_some
def DI:=@PySem.Calls.callWith_builtin
def DJ:=@PySem.W.funFrames_hide
def DK:=@List.pairwise_map
def DL:=@Nat.mul_le_mul
def DM:=@Int.natAbs_mul
def DN:=@PySem.StrLaws.sumLen_le
def DO:=@Int.mul_nonneg
def DP:=@List.length_eq_one_iff
def DQ:=@List.count_append
def DR:=@PySem.F.slot_dict_get
def DS:=@PyProof.Rows.boot_max
def DT:=@List.length_filter_le
def DU:=@Nat.lt_succ_self
def DV:=@List.ext_getElem
def DW:=@Nat.not_lt
def DX:=@PySem.Str.empty_append
def DY:=@PySem.StrLaws.joinFits
def DZ:=@List.all_cons
def Ea:=@PySem.Calls.evalArgs_plain
def Eb:=@Classical.not_forall
def Ec:=@List.of_mem_zip
def Ed:=@Int.natCast_pos
def Ee:=@Nat.div_le_self
def Ef:=@Nat.ne_of_gt
def Eg:=@Nat.lt_trans
def Eh:=@PySem.Txt.slice_le
def Ei:=@PySem.Calls.spliced_cons
def Ej:=@PySem.W.callWith_K
def Ek:=@PySem.F.args_str_split_2
def El:=@Int.mul_le_mul
def Em:=@List.filter_append
def En:=@List.getElem?_drop
def Eo:=@List.drop_drop
def Ep:=@List.map_replicate
def Er:=@Sum.inr.inj
def Es:=@List.map_take
def Et:=@List.map_drop
abbrev KFr:=PySem.W.Frag
namespace L2
open PySem PySem.Spec PyProof.Rows
abbrev Key:=Sum Int Str
def keyIs:Key->Value->Bool
 |.inl k,v=>Value.isInt k v
 |.inr x,v=>Value.isStrOf x v
def keyH(w:World):Key->Int
 |.inl k=>hashInt k
 |.inr x=>hashStr w x
theorem wN:∀{k:Key}{v:Value},keyIs k v=true->(∃i t,k=Sum.inl i/\v=Value.int i t)\/(∃x t,k=Sum.inr x/\v=Value.str x t)
 |.inl i,v,h=>by obtain⟨t,e⟩:=Value.isInt_shape (k:=i) (v:=v) h;exact .inl ⟨i,t,rfl,e⟩
 |.inr x,v,h=>by obtain⟨t,e⟩:=Value.isStrOf_shape (x:=x) (v:=v) h;exact .inr ⟨x,t,rfl,e⟩
theorem xH9(i:Int)(t:Tok):keyIs (.inl i) (.int i t)=true:=by simp[keyIs,Value.isInt]
theorem xO8(x:Str)(t:Tok):keyIs (.inr x) (.str x t)=true:=by simp[keyIs,Value.isStrOf]
theorem wD1(a b:Int):decide ((Sum.inl a:Key)=Sum.inl b)=(a==b):=by by_cases e:a=b;subst e;simp;have h:¬(Sum.inl a:Key)=Sum.inl b:=fun q=>e (Sum.inl.inj q);rw[Ad h];exact(beq_eq_false_iff_ne.mpr e).symm
theorem wC7(a b:Str):decide ((Sum.inr a:Key)=Sum.inr b)=decide (a=b):=by by_cases e:a=b;subst e;simp;have h:¬(Sum.inr a:Key)=Sum.inr b:=fun q=>e (Er q);rw[Ad h,Ad e]
theorem wJ9(a:Int)(b:Str):decide ((Sum.inl a:Key)=Sum.inr b)=false:=Ad (fun q=>nomatch q)
theorem wA6(a:Str)(b:Int):decide ((Sum.inr a:Key)=Sum.inl b)=false:=Ad (fun q=>nomatch q)
def mixKind(prog:Program)(w:World):PySem.KeyKind prog w Key where
 is:=keyIs
 hash:=keyH w
 inj:=fun v a b ha hb=>by
  rcases wN ha with⟨i,t,rfl,rfl⟩|⟨x,t,rfl,rfl⟩
  rcases wN hb with⟨j,u,rfl,e⟩|⟨y,u,rfl,e⟩
  injection e with e1 _;rw[e1]
  exact nomatch e
  rcases wN hb with⟨j,u,rfl,e⟩|⟨y,u,rfl,e⟩
  exact nomatch e
  injection e with e1 _;rw[e1]
 byValue:=fun k v h=>by
  rcases wN h with⟨i,t,rfl,rfl⟩|⟨x,t,rfl,rfl⟩<;>rfl
 pyHash:=fun hv h=>by
  rcases wN hv with⟨i,t,rfl,rfl⟩|⟨x,t,rfl,rfl⟩
  exact wpAny_pyHash_int h
  exact wpAny_pyHash_str h
 eqBool:=fun hu hv h=>by
  rcases wN hu with⟨i,t,rfl,rfl⟩|⟨x,t,rfl,rfl⟩
  rcases wN hv with⟨j,u,rfl,rfl⟩|⟨y,u,rfl,rfl⟩
  rw[wD1]at h;exact wpAny_eqBool_int h
  rw[wJ9]at h;exact SeqAt.EqAt.int_str i t y u _ _ _ _ h
  rcases wN hv with⟨j,u,rfl,rfl⟩|⟨y,u,rfl,rfl⟩
  rw[wA6]at h;exact SeqAt.EqAt.str_int x t j u _ _ _ _ h
  rw[wC7]at h;exact wpAny_eqBool_str h
 «strs»:=fun k x t v h=>by
  rcases wN h with⟨i,u,rfl,e⟩|⟨y,u,rfl,e⟩
  exact nomatch e
  injection e with e1 _
  subst e1
  cases v<;>rfl
theorem yE5(prog:Program)(w:World)(i:Int)(t:Tok):(mixKind prog w).is (.inl i) (.int i t)=true:=xH9 i t
theorem yF8(prog:Program)(w:World)(x:Str)(t:Tok):(mixKind prog w).is (.inr x) (.str x t)=true:=xO8 x t
inductive V where
 |non|bl (b:Bool)|int (i:Int)|str (x:Str)|byt (b:Array UInt8)|flt (b:UInt64)|ref (a:Addr)|ty (n:String)
 deriving DecidableEq
abbrev _root_.C8:=List V
variable {vs:C8}{kvs:List (List L2.Key×L2.V)}
def RelV:V->Value->Prop
 |.non,u=>u=Value.none
 |.bl b,u=>u=Value.bool b
 |.int i,u=>∃t,u=Value.int i t
 |.str x,u=>∃t,u=Value.str x t
 |.byt b,u=>∃t,u=Value.bytes b t
 |.flt b,u=>∃t,u=Value.float b t
 |.ref a,u=>u=Value.ref a
 |.ty n,u=>u=Value.type n
abbrev Vals:List V->List Value->Prop:=Paired RelV
theorem Vals.length{xs:C8}{us:C3}(r:Vals xs us):xs.length=us.length:=Paired.length r
theorem Vals.get:∀{xs:C8}{us:C3}{i:Nat}{x:V},Vals xs us->xs[i]?=some x->∃u,us[i]?=some u/\RelV x u
 |_,_,_,_,.nil,e=>by simp at e
 |_,_,0,_,.cons r _,e=>by simp at e;subst e;exact⟨_,rfl,r⟩
 |_,_,i+1,x,.cons _ t,e=>by obtain⟨u,h1,h2⟩:=Vals.get (i:=i) (x:=x) t (by simpa using e);exact⟨u,by simpa using h1,h2⟩
theorem Vals.set{x:V}{u:Value}(r:RelV x u):∀{xs:C8}{us:C3}(i:Nat),Vals xs us->Vals (xs.set i x) (us.set i u)
 |_,_,_,.nil=>.nil
 |_,_,0,.cons _ t=>.cons r t
 |_,_,i+1,.cons q t=>.cons q (Vals.set r i t)
theorem Vals.append:∀{xs ys:C8}{us ws:C3},Vals xs us->Vals ys ws->Vals (xs++ys) (us++ws)
 |_,_,_,_,.nil,s=>s
 |_,_,_,_,.cons r t,s=>.cons r (Vals.append t s)
theorem Vals.take:∀{xs:C8}{us:C3}(n:Nat),Vals xs us->Vals (xs.take n) (us.take n)
 |_,_,0,_=>.nil
 |_,_,_+1,.nil=>.nil
 |_,_,n+1,.cons r t=>.cons r (Vals.take n t)
theorem Vals.drop:∀{xs:C8}{us:C3}(n:Nat),Vals xs us->Vals (xs.drop n) (us.drop n)
 |_,_,0,r=>r
 |_,_,_+1,.nil=>.nil
 |_,_,n+1,.cons _ t=>Vals.drop n t
def RelO:Option V->Option Value->Prop
 |some v,some u=>RelV v u
 |none,none=>True
 |_,_=>False
def KV{κ:Type}:List (κ×V)->List (κ×Value)->Prop:=Paired fun(p:κ×V)(q:κ×Value)=>p.1=q.1/\RelV p.2 q.2
def kV:Key->V
 |.inl i=>.int i
 |.inr x=>.str x
inductive HO where
 |lst (xs:C8)
 |tup (xs:C8)
 |dK (kvs:List (Key×V))|dT (kvs:List (List Key×V))
 |set (S:Int->Bool) (n:Nat)
 |ins (C dx:Addr) (fs:List (Str×V))
 |own (x:Addr)
 |xd (fs:List (Str×V))
 |met (f x:Addr)
 |rng (lo hi:Int)
 |frz (o:Obj) (u:HO)
 |tbl (ps:Array Value)
 |ext (φ:Heap->Prop)
abbrev Hp:=Addr->Option HO
variable {H H' H1 H0:L2.Hp}
def upd(H:Hp)(a:Addr)(o:HO):Hp:=fun b=>if b=a then some o else H b
theorem yU{a:Addr}{o:HO}:upd H a o a=some o:=by unfold upd;rw[Ae rfl]
theorem zJ{a b:Addr}{o:HO}(h:b≠a):upd H a o b=H b:=by unfold upd;rw[An h]
theorem yA5{a:Addr}{o u:HO}:upd (upd H a o) a u=upd H a u:=by funext b;unfold upd;split<;>rfl
theorem vY6{a b:Addr}{o u:HO}(h:H a=some o)(h':H b=some u)(d:o≠u):a≠b:=by intro e;subst e;rw[h]at h';exact d (Ba h')
theorem xE{a b:Addr}{o:HO}(h:H a=some o)(h':H b=none):a≠b:=by intro e;subst e;rw[h]at h';cases h'
def TupAt(h:Heap)(a:Addr)(its:Array Value):Prop:=∃o,h.get? a=some o/\o.cls=.type "tuple"/\(∃n,o.data=.seq its n)/\o.dict=none
theorem TupAt.tup{a:Addr}{its:Array Value}(x:TupAt h a its):IsTup h a its:=by obtain⟨o,e,c,d,_⟩:=x;exact⟨o,e,c,d⟩
theorem TupAt.new(h:Heap)(its:Array Value):TupAt (h.push {cls:=.type "tuple",data:=.seq its}) h.objs.size its:=⟨_,AO _ rfl,rfl,⟨_,rfl⟩,rfl⟩
section
variable (P:Program)(w:World)
def ObjOk(H:Hp)(h:Heap)(a:Addr):HO->Prop
 |.lst xs=>xs.length<=sizeLine/\∃(its:C3)(n:Nat),Vals xs its/\h.get? a=some {cls:=.type "list",data:=.seq its.toArray n}
 |.tup xs=>xs.length<=sizeLine/\∃its:C3,Vals xs its/\TupAt h a its.toArray
 |.dK kvs=>kvs.length<=sizeLine/\(a==sysModules)=false/\∃vs,KV kvs vs/\h.DictOf (mixKind P w) a vs
 |.dT kvs=>kvs.length<=sizeLine/\(a==sysModules)=false/\∃xs:List (List Key×Addr×Value),Paired (fun(p:List Key×V)(q:List Key×Addr×Value)=>p.1=q.1/\H q.2.1=some (.tup (p.1.map kV))/\RelV p.2 q.2.2) kvs xs /\∃o es ep,h.get? a=some o/\o.ExactDict/\o.data=.dict es ep/\es.toList=xs.map (entryOfKey (tupleKind (mixKind P w)))/\(xs.map (·.1)).Nodup
 |.set S n=>h.SetOf (intKind P w) a S n
 |.ins C dx fs=>H dx=some (.own a)/\fs.length<=1000/\dx≠a/\h.get? a=some (PySem.W.instObj C dx) /\∃mA,h.Ns1 dx mA/\(∀f,RelO (fs.lookup f) (mA f))/\PySem.Within mA (fs.map (·.1))
 |.own _=>∃o,h.get? a=some o
 |.xd fs=>∃mA,h.Ns1 a mA/\∀f,RelO (fs.lookup f) (mA f)
 |.rng lo hi=>∃t u v,h.get? a=some {cls:=.type "range",data:=.fields #[.int lo t,.int hi u,.int 1 v]}
 |.frz o u=>h.get? a=some o/\ObjOk H h a u
 |.tbl ps=>h.get? a=some {cls:=.none,data:=.fields ps}
 |.met f x=>h.get? a=some (PySem.W.methodObj (.ref f) (.ref x))
 |.ext φ=>φ h/\(∃o,h.get? a=some o)/\∀h1 h2:Heap,φ h1->(∀o,h1.get? a=some o->h2.get? a=some o)->φ h2
def HOk(H:Hp)(h:Heap):Prop:=∀a o,H a=some o->ObjOk P w H h a o
end
section
variable {P:Program}{w:World}{H H':Hp}{h h':Heap}{a:Addr}{o:HO}
theorem ObjOk.lt(x:ObjOk P w H h a o):a<h.objs.size:=by
 cases o with
 |lst xs=>obtain⟨_,_,_,_,e⟩:=x;exact Au e
 |tup xs=>obtain⟨_,_,_,p⟩:=x;exact p.tup.lt
 |dK kvs=>obtain⟨_,_,_,_,o,_,_,e,_⟩:=x;exact Au e
 |dT kvs=>obtain⟨_,_,_,_,o,_,_,e,_⟩:=x;exact Au e
 |set S n=>obtain⟨o,_,_,_,e,_⟩:=x;exact Au e
 |ins C dx fs=>obtain⟨_,_,_,e,_⟩:=x;exact Au e
 |own y=>obtain⟨_,e⟩:=x;exact Au e
 |xd fs=>obtain⟨_,⟨_,_,_,e,_⟩,_⟩:=x;exact Au e
 |rng lo hi=>obtain⟨_,_,_,e⟩:=x;exact Au e
 |frz ob u=>obtain⟨e,_⟩:=x;exact Au e
 |tbl ps=>exact Au (show h.get? a=some _ from x)
 |met f y=>exact Au (show h.get? a=some _ from x)
 |ext φ=>obtain⟨_,⟨_,e⟩,_⟩:=x;exact Au e
theorem Paired.mapP{α β:Type}{F G:α->β->Prop}:∀{l₁:List α}{l₂:List β},Paired F l₁ l₂->(∀a b,F a b->G a b)->Paired G l₁ l₂
 |_,_,.nil,_=>.nil
 |_,_,.cons r t,f=>.cons (f _ _ r) (Paired.mapP t f)
theorem ObjOk.stay(x:ObjOk P w H h a o)(k:∀b u,(b=a\/H b=some (.own a))->h.get? b=some u->h'.get? b=some u) (ho:∀b,H b=some (.own a)->H' b=some (.own a)) (ht:∀b xs,H b=some (.tup xs)->H' b=some (.tup xs)):ObjOk P w H' h' a o:=by
 induction o with
 |lst xs=>obtain⟨z,its,n,r,e⟩:=x;exact⟨z,its,n,r,k _ _ (.inl rfl) e⟩
 |tup xs=>obtain⟨z,its,r,ob,e,c⟩:=x;exact⟨z,its,r,ob,k _ _ (.inl rfl) e,c⟩
 |dK kvs=>obtain⟨z,y,vs,r,ob,es,ep,e,c⟩:=x;exact⟨z,y,vs,r,ob,es,ep,k _ _ (.inl rfl) e,c⟩
 |dT kvs=>obtain⟨z,y,xs,r,ob,es,ep,e,c⟩:=x;exact⟨z,y,xs,Paired.mapP r fun p q z=>⟨z.1,ht _ _ z.2.1,z.2.2⟩,ob,es,ep,k _ _ (.inl rfl) e,c⟩
 |set S n=>obtain⟨ob,es,ep,t,e,c⟩:=x;exact⟨ob,es,ep,t,k _ _ (.inl rfl) e,c⟩
 |ins C dx fs=>obtain⟨d,z,ne,e,mA,⟨od,es,ep,e2,c⟩,r⟩:=x;exact⟨ho _ d,z,ne,k _ _ (.inl rfl) e,mA,⟨od,es,ep,k _ _ (.inr d) e2,c⟩,r⟩
 |own y=>obtain⟨ob,e⟩:=x;exact⟨ob,k _ _ (.inl rfl) e⟩
 |xd fs=>obtain⟨mA,⟨od,es,ep,e,c⟩,r⟩:=x;exact⟨mA,⟨od,es,ep,k _ _ (.inl rfl) e,c⟩,r⟩
 |rng lo hi=>obtain⟨t,u,v,e⟩:=x;exact⟨t,u,v,k _ _ (.inl rfl) e⟩
 |frz ob u ih=>obtain⟨e,q⟩:=x;exact⟨k _ _ (.inl rfl) e,ih q⟩
 |tbl ps=>have e:h.get? a=some {cls:=.none,data:=.fields ps}:=x;show h'.get? a=some {cls:=.none,data:=.fields ps};exact k a _ (.inl rfl) e
 |met f y=>have e:h.get? a=some (PySem.W.methodObj (.ref f) (.ref y)):=x;show h'.get? a=some (PySem.W.methodObj (.ref f) (.ref y));exact k a _ (.inl rfl) e
 |ext φ=>obtain⟨p,⟨o,e⟩,st⟩:=x;exact⟨st _ _ p fun o q=>k _ _ (.inl rfl) q,⟨o,k _ _ (.inl rfl) e⟩,st⟩
theorem HOk.lt(x:HOk P w H h)(e:H a=some o):a<h.objs.size:=(x a o e).lt
theorem HOk.fresh(x:HOk P w H h)(e:h.objs.size<=a):H a=none:=by
 cases q:H a with
 |none=>rfl
 |some u=>exact absurd (AA (x.lt q) e) (CL _)
theorem HOk.kept(x:HOk P w H h)(k:∀b u,h.get? b=some u->h'.get? b=some u):HOk P w H h':=fun a o e=>(x a o e).stay (fun b u _ q=>k b u q) (fun _ q=>q) fun _ _ q=>q
theorem HOk.laid(x:HOk P w H h)(k:∀b u,h.get? b=some u->h'.get? b=some u)(hp:h.objs.size<=a)(new:ObjOk P w (upd H a o) h' a o):HOk P w (upd H a o) h':=fun b u e=>by have hn:=x.fresh hp;by_cases hb:b=a;subst hb;rw[yU]at e;cases e;exact new;rw[zJ hb]at e;exact(x b u e).stay (fun c v _ q=>k c v q) (fun c q=>by rw[zJ (xE q hn)];exact q) fun c xs q=>by rw[zJ (xE q hn)];exact q
end
def Rd(H:Hp)(a:Addr)(u:HO):Prop:=H a=some u\/∃o,H a=some (.frz o u)
theorem Rd.ok{w:World}{a:Addr}{u:HO}(r:Rd H a u)(x:HOk P w H h):ObjOk P w H h a u:=by rcases r with r|⟨o,r⟩;exact x a u r;obtain⟨_,q⟩:=x a _ r;exact q
def Mut:Option HO->Prop
 |some (.lst _)=>True
 |some (.dK _)=>True
 |some (.dT _)=>True
 |some (.set _ _)=>True
 |some (.ins _ _ _)=>True
 |some (.ext _)=>True
 |_=>False
section
variable {P:Program}{w:World}{H:Hp}{h h':Heap}{x e:Addr}{o':HO}
theorem HOk.write(ok:HOk P w H h)(mu:Mut (H x))(he:e=x\/H e=some (.own x))(k:∀b u,b≠e->h.get? b=some u->h'.get? b=some u)(heo:∃u,h'.get? e=some u) (new:ObjOk P w (upd H x o') h' x o'):HOk P w (upd H x o') h':=fun b u q=>by
 have nown:∀c y,H c=some (.own y)->c≠x:=fun c y r z=>by subst z;rw[r]at mu;exact mu
 have ntup:∀c xs,H c=some (.tup xs)->c≠x:=fun c xs r z=>by subst z;rw[r]at mu;exact mu
 by_cases hb:b=x;subst hb;rw[yU]at q;cases q;exact new;rw[zJ hb]at q;by_cases hbe:b=e;have q':H b=some (.own x):=by rcases he with z|z;exact absurd (hbe.trans z) hb;rw[hbe];exact z
 rw[q]at q';cases q';obtain⟨v,hv⟩:=heo;exact⟨v,by rw[hbe];exact hv⟩;refine(ok b u q).stay (fun c v hc r=>k c v ?_ r) (fun c r=>by rw[zJ (nown c b r)];exact r) fun c xs r=>by rw[zJ (ntup c xs r)];exact r
 rcases hc with rfl|hc;exact hbe;rintro rfl;rcases he with z|z;exact nown c b hc z;rw[hc]at z;cases z;exact hb rfl
end
structure Un(fs ex:C9)(H H':Hp)(h h':Heap):Prop where
 keep:∀b o,h.get? b=some o->H b=none->b∉fs->b∉ex->h'.get? b=some o
 slot:∀b o,h.get? b=some o->H b=none->b∈fs->b∉ex->∃sl,h'.get? b=some {o with slots:=sl}
 free:∀b o,h.get? b=some o->H b=none->b∉ex->H' b=none
 there:∀b o,h.get? b=some o->b∉ex->∃o',h'.get? b=some o'
 tups:∀b xs,H b=some (.tup xs)->H' b=some (.tup xs)
 frzs:∀b o u,H b=some (.frz o u)->H' b=some (.frz o u)
 tbls:∀b ps,H b=some (.tbl ps)->∃more,H' b=some (.tbl (ps++more))
section
variable {fs fs' ex ex':C9}{H H1 H2:Hp}{h h1 h2 h':Heap}{a x e:Addr}{o:HO}
theorem Un.any(u:Un fs ex H H1 h h1){b:Addr}{ob:Obj}(q:h.get? b=some ob)(n:H b=none)(hx:b∉ex):∃sl,h1.get? b=some {ob with slots:=sl}:=by by_cases hb:b∈fs;exact u.slot b ob q n hb hx;exact⟨ob.slots,u.keep b ob q n hb hx⟩
theorem Un.kept(k:∀b u,h.get? b=some u->h'.get? b=some u):Un fs ex H H h h':=⟨fun b ob q _ _ _=>k b ob q,fun b ob q _ _ _=>⟨ob.slots,k b ob q⟩,fun _ _ _ n _=>n,fun b ob q _=>⟨ob,k b ob q⟩,fun _ _ q=>q,fun _ _ _ q=>q,fun _ ps q=>⟨#[],by rw[q];simp⟩⟩
theorem Un.refl:Un fs ex H H h h:=Un.kept fun _ _ q=>q
theorem Un.laid(k:∀b u,h.get? b=some u->h'.get? b=some u)(hp:h.objs.size<=a)(hn:H a=none):Un fs ex H (upd H a o) h h' where
 keep:=fun b u q _ _ _=>k b u q
 slot:=fun b u q _ _ _=>⟨u.slots,k b u q⟩
 free:=fun b u q n _=>by rw[zJ (AW (AA (Au q) hp))];exact n
 there:=fun b u q _=>⟨u,k b u q⟩
 tups:=fun b xs q=>by rw[zJ (xE q hn)];exact q
 frzs:=fun b u xs q=>by rw[zJ (xE q hn)];exact q
 tbls:=fun b ps q=>⟨#[],by rw[zJ (xE q hn),q];simp⟩
theorem Un.write(mu:Mut (H x))(he:e=x\/H e=some (.own x))(k:∀b u,b≠e->h.get? b=some u->h'.get? b=some u)(heo:∃u,h'.get? e=some u):Un fs ex H (upd H x o) h h':=by
 have hx:∀b,H b=none->b≠x:=fun b n z=>by subst z;rw[n]at mu;exact mu
 have hb:∀b,H b=none->b≠e:=fun b n z=>by subst z;rcases he with r|r;exact hx b n r;rw[n]at r;cases r
 have hm:∀b u,H b=some u->¬Mut (some u)->b≠x:=fun b u q nm z=>by subst z;rw[q]at mu;exact nm mu
 refine⟨fun b u q n _ _=>k b u (hb b n) q,fun b u q n _ _=>⟨u.slots,k b u (hb b n) q⟩,fun b u q n _=>by rw[zJ (hx b n)];exact n,fun b u q _=>?_,fun b xs q=>by rw[zJ (hm b _ q fun z=>z)];exact q,fun b u xs q=>by rw[zJ (hm b _ q fun z=>z)];exact q,fun b ps q=>⟨#[],by rw[zJ (hm b _ q fun z=>z),q];simp⟩⟩;by_cases hbe:b=e;subst hbe;exact heo;exact⟨u,k b u hbe q⟩
end
def trk(h:Heap)(H:Hp):C9:=(List.range h.objs.size).filter fun a=>(H a).isSome
def hidT(h:Heap)(H:Hp):Heap:=PySem.W.hideAll h (trk h H)
theorem xM6(h:Heap)(H:Hp):(hidT h H).objs.size=h.objs.size:=PySem.W.hideAll_size _ _
theorem xA9{b:Addr}{o:Obj}(e:h.get? b=some o)(n:H b=none):(hidT h H).get? b=some o:=CO _ e fun hm=>by have q:(H b).isSome=true:=(BY.mp hm).2;rw[n]at q;simp at q
theorem wM9{b:Addr}{o:Obj}(e:(hidT h H).get? b=some o):h.get? b=some o/\H b=none:=by
 have e':h.get? b=some o:=DD (trk h H) e;refine⟨e',?_⟩;cases q:H b with
 |none=>rfl
 |some x=>have hm:b∈trk h H:=BY.mpr ⟨AH.mpr (Au e'),by simp[q]⟩;have z:(hidT h H).get? b=none:=Dn (trk h H) hm;rw[z]at e;cases e
def allNews(g h:Heap)(L:Addr):A9:=(List.range h.objs.size).filterMap fun a=>if a=L\/(g.get? a).isSome=true then none else(h.get? a).map fun o=>(a,o)
def rest(g h:Heap)(L d:Addr):A9:=(allNews g h L).filter fun p=>decide (p.1≠d)
structure Mod(K:KFr)(mg:B9)(base:Heap):Prop where
 kin:K.In base
 glob:base.Ns mainGlobals mg
 blt:∃mb,base.Ns builtinsNs mb/\∀x:Str,x≠"__name__"->mb x=bootBuiltins x
 nolimit:base.NoLimit
structure Cx where
 prog:Program
 w:World
 K:KFr
 mg:B9
 base:Heap
 A:Around
 N:C4
 s₀:Shared
 H₀:Hp
 env:Env
 outer:List Env
 stack:List Env
 ex:C9
 fn:Str->Bool
 calm:Bool
 pn:A9
 xe:A8
def frs(l:List Env):C9:=l.filterMap (·.frame)
abbrev Cx.fs(X:Cx):C9:=frs X.outer
def Vis(sc:Scope)(x:Str):Prop:=sc.names.lookup x=some .local\/sc.names.lookup x=some .cell\/sc.names.lookup x=some .free
def Loc(sc:Scope)(x:Str):Prop:=sc.names.lookup x=some .local\/sc.names.lookup x=some .cell
def Look(env:Env)(h:Heap)(m:B9)(x:Str)(u:Value):Prop:=(env.kindOf x=some .local/\m x=some u)\/((env.kindOf x=some .cell\/env.kindOf x=some .free)/\∃c,env.cells.lookup x=some c/\h.IsCell c (some u))
structure Cx.Ok(X:Cx):Prop where
 mod:Mod X.K X.mg X.base
 kind:X.env.scope.kind=.function
 glob:X.env.globals=mainGlobals
 blt:X.env.builtins=builtinsNs
 above:X.s₀.heap.objs.size<=X.env.locals
 inj:∀x y c,X.env.cells.lookup x=some c->X.env.cells.lookup y=some c->x=y
 has:∀x,(X.env.kindOf x=some .cell\/X.env.kindOf x=some .free)->∃c,X.env.cells.lookup x=some c
 cab:∀x c,X.fn x=true->X.env.cells.lookup x=some c->X.s₀.heap.objs.size<=c
 hd:X.calm=true->X.A.handled=none
 frames:X.A.frames=some X.stack
 stk:X.stack=X.outer\/(X.stack=X.env::X.outer/\X.env.frame=some X.env.locals)
 exf:∀b∈X.ex,b≠X.env.locals/\∀x c,X.env.cells.lookup x=some c->c≠b
 bs:∀b o,X.base.get? b=some o->X.s₀.heap.get? b=some o/\X.H₀ b=none
 bsz:X.base.objs.size<=X.s₀.heap.objs.size
 noex:∀b o,X.base.get? b=some o->b∉X.ex
 exfs:∀b∈X.ex,b∉X.fs
 funs:X.s₀.heap.FunFrames X.base X.outer
 frf:∀b∈X.fs,X.H₀ b=none
structure Inv(X:Cx)(EA:A9)(σ:List (Option V))(H:Hp)(s:Shared):Prop where
 ok:X.Ok
 os:s.os=X.s₀.os
 bare:AllBare s.gens
 base:Un X.fs X.ex X.H₀ H X.s₀.heap s.heap
 loc:∃m,s.heap.Ns X.env.locals m/\∀(i:Nat)(x:Str)(v:V),X.N[i]?=some x->σ[i]?=some (some v)->Vis X.env.scope x->∃u,RelV v u/\Look X.env s.heap m x u
 cell:∀x c,X.env.cells.lookup x=some c->∃v,s.heap.IsCell c v
 free:H X.env.locals=none
 freeC:∀x c,X.env.cells.lookup x=some c->H c=none
 pin:∀p∈X.pn++EA,s.heap.get? p.1=some p.2/\H p.1=none/\p.1≠X.env.locals/\p.1∉X.fs/\∀v,p.2.data≠.cell v
 hok:HOk X.prog X.w H s.heap
 len:σ.length=X.N.length
section
variable {X:Cx}{EA:A9}{σ:List (Option V)}{H H':Hp}{s:Shared}{h':Heap}
theorem Cx.Ok.nofr(ok:X.Ok){b:Addr}{o:Obj}(e:X.base.get? b=some o):b∉X.fs:=fun hb=>by have:=(ok.funs.mem hb).1;rw[e]at this;cases this
theorem Inv.bs(I:Inv X EA σ H s):∀b o,X.base.get? b=some o->s.heap.get? b=some o/\H b=none:=fun b o e=>⟨I.base.keep b o (I.ok.bs b o e).1 (I.ok.bs b o e).2 (I.ok.nofr e) (I.ok.noex b o e),I.base.free b o (I.ok.bs b o e).1 (I.ok.bs b o e).2 (I.ok.noex b o e)⟩
theorem Inv.bk(I:Inv X EA σ H s):∀b o,X.base.get? b=some o->s.heap.get? b=some o:=fun b o e=>(I.bs b o e).1
theorem Inv.mod(I:Inv X EA σ H s):Mod X.K X.mg X.base:=I.ok.mod
theorem Inv.kIn(I:Inv X EA σ H s):X.K.In s.heap:=I.ok.mod.kin.keeps I.bk
theorem Inv.lt(I:Inv X EA σ H s):X.env.locals<s.heap.objs.size:=let ⟨_,hn,_⟩:=I.loc;hn.lt
theorem Inv.sz(I:Inv X EA σ H s):X.s₀.heap.objs.size<=s.heap.objs.size:=As I.ok.above (BL I.lt)
theorem Inv.nofs(I:Inv X EA σ H s){a:Addr}(h:s.heap.objs.size<=a):a∉X.fs:=fun hb=>by obtain⟨_,o,ho,_⟩:=I.ok.funs.mem hb;exact absurd (AA (Au ho) (As I.sz h)) (CL _)
theorem Inv.cne(I:Inv X EA σ H s):∀x c,X.env.cells.lookup x=some c->c≠X.env.locals:=fun x c e z=>by obtain⟨v,o,ho,hd⟩:=I.cell x c e;obtain⟨m,⟨o',es,ep,ho',hd',_⟩,_⟩:=I.loc;rw[z,ho']at ho;cases ho;rw[hd']at hd;cases hd
theorem Inv.funs(I:Inv X EA σ H s):s.heap.FunFrames X.base X.outer:=by
 have all:∀(l:List Env),(∀b∈frs l,b∈X.fs)->X.s₀.heap.FunFrames X.base l->s.heap.FunFrames X.base l:=by
  intro l;induction l with
  |nil=>intro _ _;trivial
  |cons env r ih=>intro hs hl;obtain⟨hk,⟨L,o,hf,hn,ho,hd⟩,hr⟩:=hl;have hL:L∈X.fs:=hs L (by unfold frs;rw[Dx,hf];exact Af);obtain⟨sl,e⟩:=I.base.slot L o ho (I.ok.frf L hL) hL fun z=>I.ok.exfs L z hL;exact⟨hk,⟨L,_,hf,hn,e,hd⟩,ih (fun b hb=>hs b (by unfold frs;rw[Dx,hf];exact Ak _ hb)) hr⟩
 exact all X.outer (fun _ hb=>hb) I.ok.funs
theorem Inv.stack(I:Inv X EA σ H s):s.heap.FunFrames X.base X.stack:=by rcases I.ok.stk with e|⟨e,hf⟩;rw[e];exact I.funs;rw[e];obtain⟨m,hn,_⟩:=I.loc;refine .cons (by rw[I.ok.kind];decide) hf hn ?_ I.funs;exact Do (As I.ok.bsz I.ok.above)
theorem Inv.stkSub(I:Inv X EA σ H s):∀b∈frs X.stack,b∈X.env.locals::X.fs:=fun b hb=>by rcases I.ok.stk with e|⟨e,hf⟩;rw[e]at hb;exact Ak _ hb;rw[e]at hb;unfold frs at hb;rw[Dx,hf]at hb;exact hb
theorem Inv.stkFree(I:Inv X EA σ H s):∀b∈frs X.stack,H b=none:=fun b hb=>by rcases AF.mp (I.stkSub b hb)with e|hb;rw[e];exact I.free;obtain⟨_,o,ho,_⟩:=I.ok.funs.mem hb;exact I.base.free b o ho (I.ok.frf b hb) fun z=>I.ok.exfs b z hb
theorem Inv.step{g':Array GenState}{t':Nat}{d':Drawn}{ch:C9}(I:Inv X EA σ H s) (hch:∀b∈ch,(b∈X.ex\/X.s₀.heap.objs.size<=b)/\b≠X.env.locals/\(∀x c,X.env.cells.lookup x=some c->c≠b)/\∀p∈X.pn++EA,p.1≠b) (keep:∀b o,b≠X.env.locals->b∉X.fs->b∉ch->s.heap.get? b=some o->H b=none->h'.get? b=some o) (slot:∀b o,b≠X.env.locals->b∈X.fs->b∉ch->s.heap.get? b=some o->H b=none->∃sl,h'.get? b=some {o with slots:=sl}) (free:∀b o,b∉ch->s.heap.get? b=some o->H b=none->H' b=none) (there:∀b o,b∉ch->s.heap.get? b=some o->∃o',h'.get? b=some o') (tups:∀b xs,H b=some (.tup xs)->H' b=some (.tup xs)) (frzs:∀b o u,H b=some (.frz o u)->H' b=some (.frz o u)) (tbls:∀b ps,H b=some (.tbl ps)->∃more,H' b=some (.tbl (ps++more))) (ns:∀m,s.heap.Ns X.env.locals m->h'.Ns X.env.locals m) (hok:HOk X.prog X.w H' h') (hg:AllBare g'):Inv X EA σ H' {s with heap:=h',gens:=g',drawn:=d',toks:=t'}:=by
 have neL:∀b o,X.s₀.heap.get? b=some o->b≠X.env.locals:=fun b o e=>AW (AA (Au e) I.ok.above);have neC:∀b o,X.s₀.heap.get? b=some o->b∉X.ex->b∉ch:=fun b o e hx hb=>by rcases (hch b hb).1 with z|z;exact hx z;exact absurd (AA (Au e) z) (CL _)
 have cellK:∀x c,X.env.cells.lookup x=some c->∀v,s.heap.IsCell c v->h'.IsCell c v:=fun x c e v⟨o,ho,hd⟩=>by have nch:c∉ch:=fun z=>(hch c z).2.2.1 x c e rfl;by_cases hc:c∈X.fs;obtain⟨sl,q⟩:=slot c o (I.cne x c e) hc nch ho (I.freeC x c e);exact⟨_,q,hd⟩;exact⟨o,keep c o (I.cne x c e) hc nch ho (I.freeC x c e),hd⟩
 refine⟨I.ok,I.os,hg,⟨fun b o e n hb hx=>?_,fun b o e n hb hx=>?_,fun b o e n hx=>?_,fun b o e hx=>?_,fun b xs e=>tups b xs (I.base.tups b xs e),fun b o xs e=>frzs b o xs (I.base.frzs b o xs e),fun b ps e=>?_⟩,?_,fun x c e=>?_,?_,fun x c e=>?_,fun p hp=>?_,hok,I.len⟩;exact keep b o (neL b o e) hb (neC b o e hx) (I.base.keep b o e n hb hx) (I.base.free b o e n hx);obtain⟨sl,e1⟩:=I.base.slot b o e n hb hx;obtain⟨sl',e2⟩:=slot b _ (neL b o e) hb (neC b o e hx) e1 (I.base.free b o e n hx);exact⟨sl',e2⟩;obtain⟨o',e1⟩:=I.base.there b o e hx;exact free b o' (neC b o e hx) e1 (I.base.free b o e n hx);obtain⟨o',e1⟩:=I.base.there b o e hx;exact there b o' (neC b o e hx) e1;obtain⟨m1,e1⟩:=I.base.tbls b ps e;obtain⟨m2,e2⟩:=tbls b _ e1;exact⟨m1++m2,by rw[e2,Array.append_assoc]⟩;obtain⟨m,hn,hl⟩:=I.loc;refine⟨m,ns m hn,fun i x v e1 e2 e3=>?_⟩;obtain⟨u,r,l⟩:=hl i x v e1 e2 e3;refine⟨u,r,?_⟩;rcases l with l|⟨k,c,e,z⟩;exact .inl l;exact .inr ⟨k,c,e,cellK x c e _ z⟩;obtain⟨v,z⟩:=I.cell x c e;exact⟨v,cellK x c e v z⟩;obtain⟨m,⟨o,_,_,ho,_⟩,_⟩:=I.loc;exact free _ o (fun z=>(hch _ z).2.1 rfl) ho I.free;obtain⟨v,o,ho,hd⟩:=I.cell x c e;exact free c o (fun z=>(hch c z).2.2.1 x c e rfl) ho (I.freeC x c e);obtain⟨e,n,ne,nf,d⟩:=I.pin p hp;have nch:p.1∉ch:=fun z=>(hch p.1 z).2.2.2 p hp rfl
 exact⟨keep p.1 p.2 ne nf nch e n,free p.1 p.2 nch e n,ne,nf,d⟩
theorem Inv.un{t':Nat}(I:Inv X EA σ H s)(u:Un X.fs [] H H' s.heap h')(hok:HOk X.prog X.w H' h'):Inv X EA σ H' {s with heap:=h',toks:=t'}:=by obtain⟨m,⟨o,es,ep,ho,r⟩,_⟩:=id I.loc;obtain⟨sl,hL⟩:=u.any ho I.free (by simp);exact I.step (g':=s.gens) (d':=s.drawn) (ch:=[]) (fun _ z=>nomatch z) (fun b o _ hb _ e n=>u.keep b o e n hb (by simp)) (fun b o _ hb _ e n=>u.slot b o e n hb (by simp)) (fun b o _ e n=>u.free b o e n (by simp)) (fun b o _ e=>u.there b o e (by simp)) u.tups u.frzs u.tbls (fun m' hm=>by obtain⟨o',es',ep',ho',r'⟩:=hm;rw[ho]at ho';cases ho';exact⟨_,es',ep',hL,r'⟩) hok I.bare
theorem Inv.call{g':Array GenState}{t':Nat}{d':Drawn}{ch:C9}(I:Inv X EA σ H s)(u:Un (frs X.stack) ch H H' s.heap h')(hok:HOk X.prog X.w H' h')(hg:AllBare g') (hch:∀b∈ch,(b∈X.ex\/X.s₀.heap.objs.size<=b)/\b≠X.env.locals/\(∀x c,X.env.cells.lookup x=some c->c≠b)/\∀p∈X.pn++EA,p.1≠b):Inv X EA σ H' {s with heap:=h',gens:=g',drawn:=d',toks:=t'}:=by obtain⟨m,⟨o,es,ep,ho,r⟩,_⟩:=id I.loc;obtain⟨sl,hL⟩:=u.any ho I.free fun z=>(hch _ z).2.1 rfl;exact I.step (ch:=ch) hch (fun b o hL hb hc e n=>u.keep b o e n (fun z=>(AF.mp (I.stkSub b z)).elim hL hb) hc) (fun b o _ _ hc e n=>u.any e n hc) (fun b o hc e n=>u.free b o e n hc) (fun b o hc e=>u.there b o e hc) u.tups u.frzs u.tbls (fun m' hm=>by obtain⟨o',es',ep',ho',r'⟩:=hm;rw[ho]at ho';cases ho';exact⟨_,es',ep',hL,r'⟩) hok hg
theorem Inv.turned{t':Nat}{it:Addr}(I:Inv X EA σ H s)(k:∀b o,b≠it->s.heap.get? b=some o->h'.get? b=some o)(hn:H it=none)(hL:it≠X.env.locals) (h1:it∈X.ex\/X.s₀.heap.objs.size<=it) (h2:∀x c,X.env.cells.lookup x=some c->c≠it) (h3:∀p∈X.pn++EA,p.1≠it):Inv X EA σ H {s with heap:=h',toks:=t'}:=by
 have nit:∀b u,H b=some u->b≠it:=fun b u e z=>by rw[z,hn]at e;cases e
 refine I.step (g':=s.gens) (d':=s.drawn) (ch:=[it]) (fun b hb=>?_) (fun b o _ _ hc e _=>k b o (fun z=>hc (by simp[z])) e) (fun b o _ _ hc e _=>⟨o.slots,k b o (fun z=>hc (by simp[z])) e⟩) (fun _ _ _ _ n=>n) (fun b o hc e=>⟨o,k b o (fun z=>hc (by simp[z])) e⟩) (fun _ _ e=>e) (fun _ _ _ e=>e) (fun b ps e=>⟨#[],by rw[e];simp⟩) (fun m hm=>?_) (fun b u e=>?_) I.bare;have e:b=it:=by simpa using hb
 subst e;exact⟨h1,hL,h2,h3⟩;obtain⟨o,es,ep,ho,r⟩:=hm;exact⟨o,es,ep,k _ o (Bv hL) ho,r⟩;refine(I.hok b u e).stay (fun c v hc q=>k c v ?_ q) (fun _ q=>q) fun _ _ q=>q;rcases hc with z|z
 rw[z];exact nit b u e;exact nit c _ z
theorem Inv.tok(I:Inv X EA σ H s)(t:Nat):Inv X EA σ H {s with toks:=t}:=I.un (h':=s.heap) (t':=t) Un.refl I.hok
theorem Inv.kept{t':Nat}(I:Inv X EA σ H s)(k:∀b u,s.heap.get? b=some u->h'.get? b=some u):Inv X EA σ H {s with heap:=h',toks:=t'}:=I.un (Un.kept k) (I.hok.kept k)
theorem Inv.laid{a:Addr}{o:HO}{t':Nat}(I:Inv X EA σ H s)(k:∀b u,s.heap.get? b=some u->h'.get? b=some u)(hp:s.heap.objs.size<=a)(new:ObjOk X.prog X.w (upd H a o) h' a o):Inv X EA σ (upd H a o) {s with heap:=h',toks:=t'}:=I.un (Un.laid k hp (I.hok.fresh hp)) (I.hok.laid k hp new)
theorem Inv.write{x e:Addr}{o:HO}{t':Nat}(I:Inv X EA σ H s)(mu:Mut (H x))(he:e=x\/H e=some (.own x))(k:∀b u,b≠e->s.heap.get? b=some u->h'.get? b=some u)(heo:∃u,h'.get? e=some u) (new:ObjOk X.prog X.w (upd H x o) h' x o):Inv X EA σ (upd H x o) {s with heap:=h',toks:=t'}:=I.un (Un.write mu he k heo) (I.hok.write mu he k heo new)
theorem Inv.kF{pins':A9}(I:Inv X EA σ H s)(h:∀p∈pins',s.heap.get? p.1=some p.2/\H p.1=none/\p.1≠X.env.locals/\p.1∉X.fs/\∀v,p.2.data≠.cell v):Inv X pins' σ H s:=⟨I.ok,I.os,I.bare,I.base,I.loc,I.cell,I.free,I.freeC,fun p hp=>(AE.mp hp).elim (fun z=>I.pin p (AG _ z)) (h p),I.hok,I.len⟩
theorem yH5{N:C4}(hN:N.Nodup){i j:Nat}{x:Str}(a:N[i]?=some x)(b:N[j]?=some x):i=j:=by obtain⟨h1,e1⟩:=AD.mp a;obtain⟨h2,e2⟩:=AD.mp b;exact(List.getElem_inj hN).mp (e1.trans e2.symm)
theorem xH5{M:Model}{A:Around}{i:Nat}{x:Str}{v:V}{Q:Unit->Shared->Prop}(I:Inv X EA σ H s)(hN:X.N.Nodup)(hi:X.N[i]?=some x)(hx:Loc X.env.scope x)(r:RelV v u)(h:∀s',Inv X EA (σ.set i (some v)) H s'->(∃a,Heap.SameBut a s.heap s'.heap/\(a=X.env.locals\/X.env.cells.lookup x=some a))->Q () s')(hf:autoParam (X.fn x=true\/X.env.scope.names.lookup x=some .local) Ez):wpAny M A (storeName X.env x u) Q E s:=by
 obtain⟨m,hn,hl⟩:=id I.loc;have hcls:(X.env.scope.kind==.class ||(X.env.scope.kind==.module&&X.env.locals !=X.env.globals))=false:=by rw[I.ok.kind];rfl
 have hiσ:i<σ.length:=by rw[I.len];exact(AD.mp hi).1
 have cne:=I.cne;have tracked:∀{a:Addr}{h':Heap},(∃o,s.heap.get? a=some o/\H a=none)->Heap.SameBut a s.heap h'->HOk X.prog X.w H h':=fun{a h'}ha hs b ob e=>by
  obtain⟨_,_,hfree⟩:=ha;refine(I.hok b ob e).stay (fun c w' hc q=>(hs.2 c ?_).trans q) (fun _ q=>q) fun _ _ q=>q;rintro rfl;rcases hc with rfl|hc
  rw[hfree]at e;cases e;rw[hfree]at hc;cases hc
 rcases hx with hk|hk;refine wpAny_storeName_local hk hn (fun h' hn' hs=>?_) hcls;obtain⟨oL,_,_,hoL,_⟩:=id hn;refine h _ ⟨I.ok,I.os,I.bare,⟨fun b o e n hb hx=>?_,fun b o e n hb hx=>?_,I.base.free,fun b o e hx=>?_,I.base.tups,I.base.frzs,I.base.tbls⟩,⟨_,hn',fun j y v' e1 e2 e3=>?_⟩,fun y c e=>?_,I.free,I.freeC,fun p hp=>?_,tracked ⟨oL,hoL,I.free⟩ hs,by simpa using I.len⟩ ⟨_,hs,.inl rfl⟩;exact(hs.2 b (AW (AA (Au e) I.ok.above))).trans (I.base.keep b o e n hb hx);obtain⟨sl,e1⟩:=I.base.slot b o e n hb hx;exact⟨sl,(hs.2 b (AW (AA (Au e) I.ok.above))).trans e1⟩;obtain⟨o',e1⟩:=I.base.there b o e hx;exact⟨o',(hs.2 b (AW (AA (Au e) I.ok.above))).trans e1⟩;by_cases hj:j=i;subst hj;rw[hi]at e1;cases e1;rw[BR hiσ]at e2;cases e2;exact⟨u,r,.inl ⟨hk,by simp⟩⟩;rw[AU (Bv hj)]at e2;obtain⟨u',r',q⟩:=hl j y v' e1 e2 e3;refine⟨u',r',?_⟩;rcases q with⟨k,e⟩|⟨k,c,e,z⟩;refine .inl ⟨k,?_⟩;have:y≠x:=fun e=>hj (yH5 hN e1 (e▸hi))
 simp[this,e];exact .inr ⟨k,c,e,z.sameBut hs (cne y c e)⟩;obtain⟨w',z⟩:=I.cell y c e;exact⟨w',z.sameBut hs (cne y c e)⟩;obtain⟨e,n,ne,nf,d⟩:=I.pin p hp;exact⟨(hs.2 p.1 ne).trans e,n,ne,nf,d⟩;have hfn:X.fn x=true:=by rcases hf with z|z;exact z;rw[z]at hk;cases hk
 obtain⟨c,hc⟩:=I.ok.has x (.inl hk);obtain⟨w',z⟩:=I.cell x c hc;refine wpAny_storeName_cell I.ok.kind hk hc z (fun h' hc' hs=>?_);obtain⟨oc,hoc,hocd⟩:=id z;refine h {s with heap:=h'} ⟨I.ok,I.os,I.bare,⟨fun b o e n hb hx=>?_,fun b o e n hb hx=>?_,I.base.free,fun b o e hx=>?_,I.base.tups,I.base.frzs,I.base.tbls⟩,⟨m,hn.sameBut hs (Bv (cne x c hc)),fun j y v' e1 e2 e3=>?_⟩,fun y c' e=>?_,I.free,I.freeC,fun p hp=>?_,tracked ⟨oc,hoc,I.freeC x c hc⟩ hs,by simpa using I.len⟩ ⟨c,hs,.inr hc⟩;exact(hs.2 b (AW (AA (Au e) (I.ok.cab x c hfn hc)))).trans (I.base.keep b o e n hb hx);obtain⟨sl,e1⟩:=I.base.slot b o e n hb hx;exact⟨sl,(hs.2 b (AW (AA (Au e) (I.ok.cab x c hfn hc)))).trans e1⟩;obtain⟨o',e1⟩:=I.base.there b o e hx;exact⟨o',(hs.2 b (AW (AA (Au e) (I.ok.cab x c hfn hc)))).trans e1⟩;by_cases hj:j=i;subst hj;rw[hi]at e1;cases e1;rw[BR hiσ]at e2;cases e2;exact⟨u,r,.inr ⟨.inl hk,c,hc,hc'⟩⟩;rw[AU (Bv hj)]at e2;obtain⟨u',r',q⟩:=hl j y v' e1 e2 e3;refine⟨u',r',?_⟩;rcases q with q|⟨k,c',e,z'⟩;exact .inl q;refine .inr ⟨k,c',e,z'.sameBut hs ?_⟩;rintro rfl;exact hj (yH5 hN e1 (I.ok.inj _ _ _ e hc▸hi));by_cases hcc:c'=c;subst hcc;exact⟨_,hc'⟩;obtain⟨w2,z2⟩:=I.cell y c' e;exact⟨w2,z2.sameBut hs hcc⟩;obtain⟨e,n,ne,nf,d⟩:=I.pin p hp;refine⟨(hs.2 p.1 ?_).trans e,n,ne,nf,d⟩;intro q;rw[q,hoc]at e;have q':oc=p.2:=Ba e;exact d w' (by rw[<-q'];exact hocd)
theorem zV5{M:Model}{A:Around}{i:Nat}{x:Str}{v:V}{Q:Unit->Shared->Prop}(I:Inv X EA σ H s)(hN:X.N.Nodup)(hi:X.N[i]?=some x)(hx:Loc X.env.scope x)(r:RelV v u)(h:∀s',Inv X EA (σ.set i (some v)) H s'->Q () s')(hf:autoParam (X.fn x=true\/X.env.scope.names.lookup x=some .local) Ez):wpAny M A (storeName X.env x u) Q E s:=xH5 I hN hi hx r (fun s' I' _=>h s' I') hf
theorem Inv.call'{s':Shared}{ch:C9}(I:Inv X EA σ H s)(ho:s'.os=s.os)(u:Un (frs X.stack) ch H H' s.heap s'.heap)(hok:HOk X.prog X.w H' s'.heap)(hg:AllBare s'.gens) (hch:∀b∈ch,(b∈X.ex\/X.s₀.heap.objs.size<=b)/\b≠X.env.locals/\(∀x c,X.env.cells.lookup x=some c->c≠b)/\∀p∈X.pn++EA,p.1≠b):Inv X EA σ H' s':=by obtain⟨h',g',d',t',o'⟩:=s';have e:o'=s.os:=ho;subst e;exact I.call (g':=g') (t':=t') (d':=d') u hok hg hch
end
abbrev XK:=Value->Option Addr->Hp->Prop
abbrev St:=List (Option V)
variable {σ:L2.St}
abbrev VK:=V->Hp->Prop
abbrev TE:=St->Hp->VK->Prop
variable {ta te:L2.TE}
abbrev TT:=St->Hp->(Bool->Hp->Prop)->Prop
abbrev TA:=St->Hp->(List V->Hp->Prop)->Prop
structure Ends where
 nx:St->Hp->Prop
 rt:VK
 bk:St->Hp->Prop:=fun _ _=>False
 ct:St->Hp->Prop:=fun _ _=>False
abbrev TS:=Ends->St->Hp->Prop
def EP(X:Cx)(EA:A9)(σ:St)(Q:VK)(u:Value)(s':Shared):Prop:=∃v H',Inv X EA σ H' s'/\RelV v u/\Q v H'
def TP(X:Cx)(EA:A9)(σ:St)(Q:Bool->Hp->Prop)(b:Bool)(s':Shared):Prop:=∃H',Inv X EA σ H' s'/\Q b H'
def AP(X:Cx)(EA:A9)(σ:St)(Q:List V->Hp->Prop)(us:C3)(s':Shared):Prop:=∃vs H',Inv X EA σ H' s'/\Vals vs us/\Q vs H'
def SP(X:Cx)(EA:A9)(D:Ends)(f:Flow)(s':Shared):Prop:=match f with
 |.next=>∃σ' H',Inv X EA σ' H' s'/\D.nx σ' H'
 |.brk=>∃σ' H',Inv X EA σ' H' s'/\D.bk σ' H'
 |.cont=>∃σ' H',Inv X EA σ' H' s'/\D.ct σ' H'
 |.ret u=>∃v σ' H',Inv X EA σ' H' s'/\RelV v u/\D.rt v H'
def PE(X:Cx)(e:Expr)(t:TE):Prop:=∀(EA:A9)(s:Shared)(σ:St)(H:Hp)(Q:VK),Inv X EA σ H s->t σ H Q->wpAny (model X.prog X.w) X.A (eval e X.env) (EP X EA σ Q) X.xe s
def PT(X:Cx)(e:Expr)(t:TT):Prop:=∀(EA:A9)(s:Shared)(σ:St)(H:Hp)(Q:Bool->Hp->Prop),Inv X EA σ H s->t σ H Q->wpAny (model X.prog X.w) X.A (isTrue e X.env (eval e X.env)) (TP X EA σ Q) X.xe s
def PW(X:Cx)(e:Expr)(t:TT):Prop:=∀(whole:Sem Value)(EA:A9)(s:Shared)(σ:St)(H:Hp)(Q:Bool->Hp->Prop),Inv X EA σ H s->t σ H Q->wpAny (model X.prog X.w) X.A (isTrue e X.env whole) (TP X EA σ Q) X.xe s
theorem PW.pt{X:Cx}{t:TT}(h:PW X e t):PT X e t:=h _
def PA(X:Cx)(es:C7)(t:TA):Prop:=∀(pos:Pos)(EA:A9)(s:Shared)(σ:St)(H:Hp)(Q:List V->Hp->Prop),Inv X EA σ H s->t σ H Q->wpAny (model X.prog X.w) X.A (spliced (backTo pos (starEach es X.env))) (AP X EA σ Q) X.xe s
def PS(X:Cx)(st:Stmt)(t:TS):Prop:=∀(EA:A9)(s:Shared)(σ:St)(H:Hp)(D:Ends),Inv X EA σ H s->t D σ H->wpAny (model X.prog X.w) X.A (exec st X.env) (SP X EA D) X.xe s
def PSs(X:Cx)(st:List Stmt)(t:TS):Prop:=∀(EA:A9)(s:Shared)(σ:St)(H:Hp)(D:Ends),Inv X EA σ H s->t D σ H->wpAny (model X.prog X.w) X.A (execs st X.env) (SP X EA D) X.xe s
theorem thn{α:Type}{t:Sem α}{Q Q':α->Shared->Prop}{M:Model}{A:Around}(h:wpAny M A t Q E s)(hQ:∀a s,Q a s->Q' a s):wpAny M A t Q' E s:=wpAny_mono h hQ fun _ _ x=>x
section
variable {X:Cx}
theorem bin{a b:Expr}{tb:TE}(ha:PE X a ta)(hb:PE X b tb){R:V->V->Hp->Prop}(I:Inv X EA σ H s)(h:ta σ H fun x H1=>tb σ H1 fun y H2=>R x y H2){α:Type}{Q:α->Shared->Prop}{f:Value->Value->Sem α}(hf:∀v u s2 x y H2,Inv X EA σ H2 s2->RelV x v->RelV y u->R x y H2->wpAny (model X.prog X.w) X.A (f v u) Q X.xe s2):wpAny (model X.prog X.w) X.A (eval a X.env) (fun v s₁=>wpAny (model X.prog X.w) X.A (eval b X.env) (fun u s₂=>wpAny (model X.prog X.w) X.A (f v u) Q X.xe s₂) X.xe s₁) X.xe s:=by refine thn (ha EA s σ H _ I h) fun v s1⟨x,H1,I1,r1,q1⟩=>?_;refine thn (hb EA s1 σ H1 _ I1 q1) fun u s2⟨y,H2,I2,r2,q2⟩=>?_;exact hf v u s2 x y H2 I2 r1 r2 q2
def tVar(i:Nat):TE:=fun σ H Q=>∃v,σ[i]?=some (some v)/\Q v H
def tC(v:V):TE:=fun _ H Q=>Q v H
theorem qI{i:Nat}{x:Str}(hN:X.N[i]?=some x)(hv:Vis X.env.scope x)(hd:autoParam ((x==("__debug__":Str))=false) Ex)(hcd:autoParam ((x==("__classdict__":Str))=false) Ex):PE X (.Name x pos) (tVar i):=by intro EA s σ H Q I h;obtain⟨v,e,h⟩:=h;obtain⟨m,hn,hl⟩:=I.loc;obtain⟨u,r,l⟩:=hl i x v hN e hv;have fin:EP X EA σ Q u s:=⟨v,H,I,r,h⟩;rcases l with⟨hk,hm⟩|⟨hk,c,hc,hcell⟩;exact wpAny_Name (wpAny_loadName_local I.ok.kind hk hn hm fin) hd;rcases hk with hk|hk;exact wpAny_Name (wpAny_loadName_cell I.ok.kind hk hc hcell fin) hd;exact wpAny_Name (wpAny_loadName_free I.ok.kind hk hc hcell fin hcd) hd
theorem zY4{i j pos}:PE X (.Constant (.int i) j pos) (tC (.int i)):=fun _ _ _ H _ I h=>wpAny_Constant_int ⟨.int i,H,I.tok _,⟨_,rfl⟩,h⟩
theorem wU7{b j pos}:PE X (.Constant (.bool b) j pos) (tC (.bl b)):=fun _ _ _ H _ I h=>Constant_bool ⟨.bl b,H,I,rfl,h⟩
theorem wG7{x j pos}:PE X (.Constant (.str x) j pos) (tC (.str x)):=fun _ _ _ H _ I h=>Calls.Constant_str ⟨.str x,H,I.tok _,⟨_,rfl⟩,h⟩
def Gl(X:Cx)(x:Str):Prop:=X.env.kindOf x=some .globalImplicit
theorem jS{x:Str}(I:Inv X EA σ H s)(hg:Gl X x)(hm:X.mg x=some u)(h:Q u s)(hd:autoParam ((x==("__debug__":Str))=false) Ex):wpAny (model X.prog X.w) X.A (eval (.Name x pos) X.env) Q E s:=Calls.Name_function_global I.ok.kind hg (Calls.loadGlobal_global (by rw[I.ok.glob];exact I.mod.glob.keeps I.bk) hm h) hd
theorem aE{x:Str}(I:Inv X EA σ H s)(hg:Gl X x)(hm:X.mg x=none)(hv:bootBuiltins x=some u)(h:Q u s)(hn:autoParam (x≠"__name__") Ex)(hd:autoParam ((x==("__debug__":Str))=false) Ex):wpAny (model X.prog X.w) X.A (eval (.Name x pos) X.env) Q E s:=by obtain⟨mb,h1,h2⟩:=I.mod.blt;exact Calls.Name_function_global I.ok.kind hg (Calls.loadGlobal_builtin (by rw[I.ok.glob];exact I.mod.glob.keeps I.bk) hm (by rw[I.ok.blt];exact h1.keeps I.bk) ((h2 x hn).trans hv) h) hd
theorem wL8{x:Str}{v:V}(hg:Gl X x)(hm:X.mg x=some u)(r:RelV v u)(hd:autoParam ((x==("__debug__":Str))=false) Ex):PE X (.Name x pos) (tC v):=fun _ _ _ H _ I h=>jS I hg hm ⟨v,H,I,r,h⟩ hd
variable {a b:Expr}{ta tb:TE}{pos:Pos}
def PC(X:Cx)(op:CmpOp)(a b:Expr)(t:TE):Prop:=∀(EA:A9)(s:Shared)(σ:St)(H:Hp)(Q:VK),Inv X EA σ H s->t σ H Q ->wpAny (model X.prog X.w) X.A (eval a X.env) (fun v s₁=>wpAny (model X.prog X.w) X.A (eval b X.env) (fun u s₂=>wpAny (model X.prog X.w) X.A (compareOp op v u) (EP X EA σ Q) X.xe s₂) X.xe s₁) X.xe s
theorem nobehind(b:Expr)(h:op≠.In)(h2:op≠.NotIn):behindInMarks op b=false:=by
 have e1:(op==CmpOp.In)=false:=by cases op<;>first|rfl|exact absurd rfl h
 have e2:(op==CmpOp.NotIn)=false:=by cases op<;>first|rfl|exact absurd rfl h2
 cases b<;>simp[behindInMarks,e1,e2]
def tB(t:TE):TT:=fun σ H Q=>t σ H fun x H1=>∃c,x=.bl c/\Q c H1
theorem wH9{t:TE}(h:PC X op a b t)(h1:autoParam (behindInMarks op b=false) wA8._auto_1):PT X (.Compare a [op] [b] pos) (tB t):=by intro EA s σ H Q I hw;refine wpAny_isTrue_Compare1 (thn (h EA s σ H _ I hw) fun v s1 h1=>thn h1 fun u s2 h2=>thn h2 fun c s3⟨x,H1,I1,r1,q1⟩=>?_) h1;obtain⟨d,rfl,q⟩:=q1;cases r1;exact wpAny_truthy_bool ⟨H1,I1,q⟩
theorem wH6{t:TE}(h:PE X e t)(he:autoParam (∀whole,isTrue e X.env whole=(do let v<-whole;standAt e.pos;holding [v] (truthy v))) Ew):PT X e (tB t):=by intro EA s σ H Q I hw;refine isTrue_plain (thn (h EA s σ H _ I hw) fun v s1⟨x,H1,I1,r1,q1⟩=>?_) (he _);obtain⟨d,rfl,q⟩:=q1;cases r1;exact wpAny_truthy_bool ⟨H1,I1,q⟩
variable {tA tB':TT}{rest:C7}
def tAnd(t u:TT):TT:=fun σ H Q=>t σ H fun c H1=>if c=true then u σ H1 Q else Q false H1
def tOr(t u:TT):TT:=fun σ H Q=>t σ H fun c H1=>if c=true then Q true H1 else u σ H1 Q
def tNot(t:TT):TT:=fun σ H Q=>t σ H fun c H1=>Q (!c) H1
theorem pw_and1(ha:PT X a tA):PW X (.BoolOp .And [a] pos) tA:=by
 intro wh EA s σ H Q I h;refine isTrue_and (thn (ha EA s σ H Q I h) fun c s1 e=>?_);cases c with
 |true=>exact isTrue_and_nil e
 |false=>exact e
theorem pw_or1(ha:PT X a tA):PW X (.BoolOp .Or [a] pos) tA:=by
 intro wh EA s σ H Q I h;refine isTrue_or (thn (ha EA s σ H Q I h) fun c s1 e=>?_);cases c with
 |false=>exact isTrue_or_nil e
 |true=>exact e
theorem pw_and(ha:PT X a tA)(hb:PW X (.BoolOp .And (b::rest) pos) tB'):PW X (.BoolOp .And (a::b::rest) pos) (tAnd tA tB'):=by
 intro wh EA s σ H Q I h;refine isTrue_and (thn (ha EA s σ H _ I h) fun c s1⟨H1,I1,q1⟩=>?_);cases c with
 |true=>exact hb wh EA s1 σ H1 Q I1 q1
 |false=>exact⟨H1,I1,q1⟩
theorem pw_or(ha:PT X a tA)(hb:PW X (.BoolOp .Or (b::rest) pos) tB'):PW X (.BoolOp .Or (a::b::rest) pos) (tOr tA tB'):=by
 intro wh EA s σ H Q I h;refine isTrue_or (thn (ha EA s σ H _ I h) fun c s1⟨H1,I1,q1⟩=>?_);cases c with
 |true=>exact⟨H1,I1,q1⟩
 |false=>exact hb wh EA s1 σ H1 Q I1 q1
theorem wI4(ha:PT X a tA):PT X (.UnaryOp .Not a pos) (tNot tA):=by intro EA s σ H Q I h;exact isTrue_not (ha EA s σ H (fun c H1=>Q (!c) H1) I h)
def tAndV(ta tb:TE):TE:=fun σ H Q=>ta σ H fun x H1=>∃c,x=.bl c/\if c=true then tb σ H1 Q else Q (.bl false) H1
theorem wI1{op}{t:TE}(h:PE X a t):PE X (.BoolOp op [a] pos) t:=fun EA s σ H Q I hw=>BoolOp_one (h EA s σ H Q I hw)
theorem wF8(ha:PE X a ta)(hb:PE X (.BoolOp .And (b::rest) pos) tb):PE X (.BoolOp .And (a::b::rest) pos) (tAndV ta tb):=by
 intro EA s σ H Q I h;refine BoolOp_and (thn (ha EA s σ H _ I h) fun v s1⟨x,H1,I1,r1,q1⟩=>?_);obtain⟨c,rfl,q1⟩:=q1;cases r1;refine wpAny_truthy_bool ?_;cases c with
 |true=>exact hb EA s1 σ H1 Q I1 q1
 |false=>exact⟨.bl false,H1,I1,rfl,q1⟩
def tIf(t:TT)(ta tb:TE):TE:=fun σ H Q=>t σ H fun c H1=>if c=true then ta σ H1 Q else tb σ H1 Q
theorem xC8{c:Expr}(hc:PT X c tA)(ha:PE X a ta)(hb:PE X b tb):PE X (.IfExp c a b pos) (tIf tA ta tb):=by
 intro EA s σ H Q I h;refine wpAny_IfExp (thn (hc EA s σ H _ I h) fun d s1⟨H1,I1,q1⟩=>?_);cases d with
 |true=>exact ha EA s1 σ H1 Q I1 q1
 |false=>exact hb EA s1 σ H1 Q I1 q1
end
def SqL(K:KFr)(H:Hp)(a:Addr)(xs:C8):Prop:=Rd H a (.lst xs) \/ ∃(o:Obj)(its:Array Value)(n:Nat),K.lookup a=some o/\o.cls=.type "list"/\o.dict=none/\o.data=.seq its n/\its.size<=sizeLine/\Vals xs its.toList
def SqT(K:KFr)(H:Hp)(a:Addr)(xs:C8):Prop:=Rd H a (.tup xs) \/ ∃(o:Obj)(its:Array Value)(n:Nat),K.lookup a=some o/\o.cls=.type "tuple"/\o.data=.seq its n/\its.size<=sizeLine/\Vals xs its.toList
def absV:Value->Option V
 |.none=>some .non
 |.bool b=>some (.bl b)
 |.int i _=>some (.int i)
 |.str x _=>some (.str x)
 |.bytes b _=>some (.byt b)
 |.float b _=>some (.flt b)
 |.ref a=>some (.ref a)
 |.type n=>some (.ty n)
 |_=>none
theorem RelV.abs{x:V}(r:RelV x u):absV u=some x:=by
 cases x with
 |non=>cases r;rfl
 |bl _=>cases r;rfl
 |int _=>obtain⟨t,rfl⟩:=r;rfl
 |str _=>obtain⟨t,rfl⟩:=r;rfl
 |byt _=>obtain⟨t,rfl⟩:=r;rfl
 |flt _=>obtain⟨t,rfl⟩:=r;rfl
 |ref _=>cases r;rfl
 |ty _=>cases r;rfl
theorem RelV.inj{x y:V}(r:RelV x u)(q:RelV y u):x=y:=Ba (r.abs.symm.trans q.abs)
theorem Vals.inj:∀{xs ys:C8}{us:C3},Vals xs us->Vals ys us->xs=ys
 |_,_,_,.nil,.nil=>rfl
 |_,_,_,.cons r t,.cons r' t'=>by rw[r.inj r',Vals.inj t t']
section
variable {X:Cx}{EA:A9}{σ:St}{H:Hp}{s:Shared}{a:Addr}{xs ys:C8}
theorem SqL.of{K:KFr}(h:H a=some (.lst xs)):SqL K H a xs:=.inl (.inl h)
theorem Inv.list(I:Inv X EA σ H s)(h:SqL X.K H a xs):∃its:C3,Vals xs its/\PlainL s.heap a its.toArray/\xs.length<=sizeLine:=by rcases h with h|⟨o,its,n,hk,hc,hd,hs,hz,r⟩;obtain⟨z,its,n,r,e⟩:=h.ok I.hok;exact⟨its,r,⟨_,n,e,rfl,rfl,rfl⟩,z⟩;refine⟨its.toList,r,⟨o,n,I.kIn a o hk,hc,hd,by simpa using hs⟩,?_⟩;have e:=r.length;simp only[BW]at e;rfl'
theorem Inv.tuple(I:Inv X EA σ H s)(h:SqT X.K H a xs):∃its:C3,Vals xs its/\IsTup s.heap a its.toArray/\xs.length<=sizeLine:=by rcases h with h|⟨o,its,n,hk,hc,hs,hz,r⟩;obtain⟨z,its,r,p⟩:=h.ok I.hok;exact⟨its,r,p.tup,z⟩;refine⟨its.toList,r,⟨o,I.kIn a o hk,hc,n,by simpa using hs⟩,?_⟩;have e:=r.length;simp only[BW]at e;rfl'
theorem Inv.yK8(I:Inv X EA σ H s)(h:SqL X.K H a xs)(h':SqL X.K H a ys):xs=ys:=by
 obtain⟨its,r,⟨o,n,e,_,_,d⟩,_⟩:=I.list h;obtain⟨its',r',⟨o',n',e',_,_,d'⟩,_⟩:=I.list h';rw[e]at e';cases e';rw[d]at d';injection d' with d1 _;have:its=its':=by simpa using By Array.toList d1
 subst this;exact r.inj r'
theorem Inv.xI6(I:Inv X EA σ H s)(h:SqT X.K H a xs)(h':SqT X.K H a ys):xs=ys:=by
 obtain⟨its,r,⟨o,e,_,n,d⟩,_⟩:=I.tuple h;obtain⟨its',r',⟨o',e',_,n',d'⟩,_⟩:=I.tuple h';rw[e]at e';cases e';rw[d]at d';injection d' with d1 _;have:its=its':=by simpa using By Array.toList d1
 subst this;exact r.inj r'
end
abbrev Cx.wish(X:Cx)(E:A8):Cx:={X with xe:=E}
abbrev Cx.nox(X:Cx):Cx:=X.wish fun _ _=>False
theorem Cx.Ok.wish{X:Cx}(ok:X.Ok)(E:A8):(X.wish E).Ok:=⟨ok.mod,ok.kind,ok.glob,ok.blt,ok.above,ok.inj,ok.has,ok.cab,ok.hd,ok.frames,ok.stk,ok.exf,ok.bs,ok.bsz,ok.noex,ok.exfs,ok.funs,ok.frf⟩
theorem Cx.Ok.unwish{X:Cx}(ok:(X.wish E).Ok):X.Ok:=⟨ok.mod,ok.kind,ok.glob,ok.blt,ok.above,ok.inj,ok.has,ok.cab,ok.hd,ok.frames,ok.stk,ok.exf,ok.bs,ok.bsz,ok.noex,ok.exfs,ok.funs,ok.frf⟩
section
variable {X:Cx}{EA:A9}{σ:St}{H:Hp}{s:Shared}{E:A8}
theorem Inv.wish(I:Inv X EA σ H s)(E:A8):Inv (X.wish E) EA σ H s:=⟨I.ok.wish E,I.os,I.bare,I.base,I.loc,I.cell,I.free,I.freeC,I.pin,I.hok,I.len⟩
theorem Inv.unwish(I:Inv (X.wish E) EA σ H s):Inv X EA σ H s:=⟨I.ok.unwish,I.os,I.bare,I.base,I.loc,I.cell,I.free,I.freeC,I.pin,I.hok,I.len⟩
theorem SP.unwish{D:Ends}{f:Flow}{s':Shared}(h:SP (X.wish E) EA D f s'):SP X EA D f s':=by
 cases f with
 |next=>obtain⟨σ',H',I,q⟩:=h;exact⟨σ',H',I.unwish,q⟩
 |brk=>obtain⟨σ',H',I,q⟩:=h;exact⟨σ',H',I.unwish,q⟩
 |cont=>obtain⟨σ',H',I,q⟩:=h;exact⟨σ',H',I.unwish,q⟩
 |ret u=>obtain⟨v,σ',H',I,r,q⟩:=h;exact⟨v,σ',H',I.unwish,r,q⟩
theorem PSs.nox{st:List Stmt}{t:TS}(h:PSs X.nox st t):PSs X st t:=fun EA s σ H D I hw=>wpAny_mono (h EA s σ H D (I.wish _) hw) (fun _ _ q=>q.unwish) fun _ _ z=>False.elim z
end
section
variable {X:Cx}{st:Stmt}{rest:List Stmt}{t u:TS}{e:Expr}{te:TE}{pos:Pos}
def tNext:TS:=fun D σ H=>D.nx σ H
def tSeq(t u:TS):TS:=fun D σ H=>t {D with nx:=u D} σ H
theorem xZ8:PSs X [] tNext:=fun _ _ σ H _ I h=>wpAny_execs_nil ⟨σ,H,I,h⟩
theorem xD(h1:PS X st t)(h2:PSs X rest u):PSs X (st::rest) (tSeq t u):=by
 intro EA s σ H D I h;refine wpAny_execs_cons (thn (h1 EA s σ H {D with nx:=u D} I h) fun f s1 q=>?_);cases f with
 |next=>obtain⟨σ',H',I',q⟩:=q;exact h2 EA s1 σ' H' D I' q
 |ret v=>exact q
 |brk=>exact q
 |cont=>exact q
theorem qU(h1:PS X st t):PSs X [st] t:=by
 intro EA s σ H D I h;refine wpAny_execs_cons (thn (h1 EA s σ H D I h) fun f s1 q=>?_);cases f with
 |next=>exact wpAny_execs_nil q
 |ret v=>exact q
 |brk=>exact q
 |cont=>exact q
theorem Inv.quiet(I:Inv X EA σ H s):interactive X.env=false:=by simp[interactive,I.ok.kind]
def tDrop(te:TE):TS:=fun D σ H=>te σ H fun _ H1=>D.nx σ H1
theorem jW(he:PE X e te)(hs:autoParam (swapsWith e none pos.line X.env=pure false) Ey):PS X (.Expr e pos) (tDrop te):=by intro EA s σ H D I h;exact wpAny_Expr_any (thn (he EA s σ H _ I h) fun v s1⟨x,H1,I1,r1,q1⟩=>⟨σ,H1,I1,q1⟩) I.quiet hs
def tRet(te:TE):TS:=fun D σ H=>te σ H D.rt
theorem zE3(he:PE X e te):PS X (.Return (some e) pos) (tRet te):=by intro EA s σ H D I h;exact wpAny_Return_some (thn (he EA s σ H _ I h) fun v s1⟨x,H1,I1,r1,q1⟩=>⟨x,σ,H1,I1,r1,q1⟩)
def tIfS(c:TT)(t u:TS):TS:=fun D σ H=>c σ H fun b H1=>if b=true then t D σ H1 else u D σ H1
theorem wT5{c:Expr}{a b:List Stmt}{tc:TT}(hc:PT X c tc)(ha:PSs X a t)(hb:PSs X b u):PS X (.If c a b pos) (tIfS tc t u):=by
 intro EA s σ H D I h;refine wpAny_If (thn (hc EA s σ H _ I h) fun d s1⟨H1,I1,q1⟩=>?_);cases d with
 |true=>exact ha EA s1 σ H1 D I1 q1
 |false=>exact hb EA s1 σ H1 D I1 q1
end
abbrev TG:=V->St->Hp->(St->Hp->Prop)->Prop
variable {g:L2.TG}
abbrev TGs:=List V->St->Hp->(St->Hp->Prop)->Prop
def PG(X:Cx)(target:Expr)(t:TG):Prop:=∀(EA:A9)(s:Shared)(σ:St)(H:Hp)(v:V)(u:Value)(Q:St->Hp->Prop),Inv X EA σ H s->RelV v u->t v σ H Q ->wpAny (model X.prog X.w) X.A (assign target X.env u) (fun _ s'=>∃σ' H',Inv X EA σ' H' s'/\Q σ' H') X.xe s
def PGs(X:Cx)(ts:C7)(t:TGs):Prop:=∀(EA:A9)(s:Shared)(σ:St)(H:Hp)(vs:C8)(us:C3)(Q:St->Hp->Prop),Inv X EA σ H s->Vals vs us->t vs σ H Q ->wpAny (model X.prog X.w) X.A (assignInOrder ((assignEach ts X.env).map (·.2)) us) (fun _ s'=>∃σ' H',Inv X EA σ' H' s'/\Q σ' H') X.xe s
abbrev TSet:=V->V->V->Hp->(Hp->Prop)->Prop
def PSet(X:Cx)(t:TSet):Prop:=∀(EA:A9)(s:Shared)(σ:St)(H:Hp)(o i v:V)(ov iv u:Value)(Q:Hp->Prop),Inv X EA σ H s->RelV o ov->RelV i iv->RelV v u->t o i v H Q ->wpAny (model X.prog X.w) X.A (setItem ov iv u) (fun _ s'=>∃H',Inv X EA σ H' s'/\Q H') X.xe s
abbrev TIp:=V->V->Hp->VK->Prop
def PIp(X:Cx)(op:Operator)(t:TIp):Prop:=∀(EA:A9)(s:Shared)(σ:St)(H:Hp)(x y:V)(v u:Value)(Q:VK),Inv X EA σ H s->RelV x v->RelV y u->t x y H Q ->wpAny (model X.prog X.w) X.A (inplaceOp op v u) (EP X EA σ Q) X.xe s
section
variable {X:Cx}{pos:Pos}
def gName(i:Nat):TG:=fun v σ H Q=>Q (σ.set i (some v)) H
theorem fU{i:Nat}{x:Str}(hN:X.N.Nodup)(hi:X.N[i]?=some x)(hx:Loc X.env.scope x)(hf:autoParam (X.fn x=true\/X.env.scope.names.lookup x=some .local) Ez):PG X (.Name x pos) (gName i):=by intro EA s σ H v u Q I r h;exact wpAny_assign_Name (zV5 I hN hi hx r (fun s' I'=>⟨_,H,I',h⟩) hf)
def gNil:TGs:=fun vs σ H Q=>vs=[]/\Q σ H
def gCons(t:TG)(u:TGs):TGs:=fun vs σ H Q=>∃v r,vs=v::r/\t v σ H fun σ' H'=>u r σ' H' Q
theorem yC9:PGs X [] gNil:=by intro EA s σ H vs us Q I r h;obtain⟨e,h⟩:=h;subst e;cases r;exact assignInOrder_nil ⟨σ,H,I,h⟩
theorem zL9{t:TG}{u:TGs}(h1:PG X e t)(h2:PGs X es u)(hs:autoParam ((assignEach (e::es) X.env).map (·.2)=assign e X.env::(assignEach es X.env).map (·.2)) Ey):PGs X (e::es) (gCons t u):=by
 intro EA s σ H vs us Q I r h;obtain⟨v,vr,e1,h⟩:=h;subst e1;cases r with
 |cons r rr=>rw[hs];refine assignInOrder_cons (thn (h1 EA s σ H _ _ _ I r h) fun _ s1⟨σ1,H1,I1,q1⟩=>?_);exact h2 EA s1 σ1 H1 _ _ Q I1 rr q1
def gTup(K:KFr)(n:Nat)(t:TGs):TG:=fun v σ H Q=>∃a xs,v=.ref a/\SqT K H a xs/\xs.length=n/\t xs σ H Q
theorem xF5{k:Nat}{t:TGs}{n:Nat}(hc:X.calm=true)(h:PGs X es t)(hn:autoParam ((assignEach es X.env).length=n) Ey)(hst:autoParam ((assignEach es X.env).findIdx? (·.1)=none) Ey):PG X (.Tuple es k pos) (gTup X.K n t):=by intro EA s σ H v u Q I r hw;obtain⟨a,xs,e1,hq,hl,hw⟩:=hw;subst e1;cases r;obtain⟨its,rv,ht,hz⟩:=I.tuple hq;refine assign_Tuple_tuple (I.ok.hd hc) ht (by simp[hn,<-hl,rv.length]) hst fun h' hx=>?_;have I1:Inv X EA σ H {s with heap:=h'}:=I.kept (t':=s.toks) fun b o e=>hx b o (AW (Au e)) e;exact h EA _ σ H xs _ Q I1 (by simpa using rv) hw
def gSub(to ti:TE)(t:TSet):TG:=fun v σ H Q=>to σ H fun o H1=>ti σ H1 fun i H2=>t o i v H2 fun H3=>Q σ H3
theorem wG4{o i:Expr}{to ti:TE}{t:TSet}(ho:PE X o to)(hi:PE X i ti)(hs:PSet X t)(ha:∀v,assign (.Subscript o i pos) X.env v=(do
   let ov<-holding [v] (eval o X.env)
   let iv<-holding [v,ov] (eval i X.env)
   standAt pos
   holding [v,ov,iv] (setItem ov iv v)
   release [v,ov,iv] []):=by intro _;rfl):PG X (.Subscript o i pos) (gSub to ti t):=by
 intro EA s σ H v u Q I r h;rw[ha];refine Ai (wpAny_holding (thn (ho EA s σ H _ I h) fun ov s1⟨x,H1,I1,r1,q1⟩=>?_));refine Ai (wpAny_holding (thn (hi EA s1 σ H1 _ I1 q1) fun iv s2⟨y,H2,I2,r2,q2⟩=>?_));refine Ai (wpAny_standAt (Ai (wpAny_holding (thn (hs EA s2 σ H2 x y v ov iv u _ I2 r1 r2 r q2) fun _ s3⟨H3,I3,q3⟩=>?_))));exact wpAny_release ⟨σ,H3,I3,q3⟩
def tAsg(te:TE)(g:TG):TS:=fun D σ H=>te σ H fun x H1=>g x σ H1 D.nx
theorem wA5(he:PE X e te)(hg:PG X tg g)(hs:autoParam (swapsWithSole [tg] e pos.line X.env=pure false) Ey)(hw:autoParam (swappedStores [tg] e X.env=pure none) Ey)(h1:autoParam ((assignEach [tg] X.env).map (·.2)=[assign tg X.env]) Ey):PS X (.Assign [tg] e pos) (tAsg te g):=by intro EA s σ H D I h;refine wpAny_Assign_stores (thn (he EA s σ H _ I h) fun v s1⟨x,H1,I1,r1,q1⟩=>?_) hs hw;rw[h1];exact thn (hg EA s1 σ H1 x v _ I1 r1 q1) fun _ s2 q=>q
theorem kT{i:Nat}{x:Str}{pos':Pos}(hN:X.N.Nodup)(hi:X.N[i]?=some x)(hx:Loc X.env.scope x)(he:PE X e te)(hs:autoParam (swapsWith e (some (.Name x pos')) pos.line X.env=pure false) Ey)(hf:autoParam (X.fn x=true\/X.env.scope.names.lookup x=some .local) Ez):PS X (.Assign [.Name x pos'] e pos) (tAsg te (gName i)):=by intro EA s σ H D I h;refine wpAny_Assign_Name (thn (he EA s σ H _ I h) fun v s1⟨y,H1,I1,r1,q1⟩=>?_) hs;exact zV5 I1 hN hi hx r1 (fun s2 I2=>⟨_,H1,I2,q1⟩) hf
def tAug(i:Nat)(te:TE)(ti:TIp):TS:=fun D σ H=>∃x,σ[i]?=some (some x)/\te σ H fun y H1=>ti x y H1 fun z H2=>D.nx (σ.set i (some z)) H2
theorem wB4{i:Nat}{x:Str}{op:Operator}{ti:TIp}{pos':Pos}(hN:X.N.Nodup)(hi:X.N[i]?=some x)(hx:Loc X.env.scope x)(he:PE X e te)(ho:PIp X op ti)(hf:autoParam (X.fn x=true\/X.env.scope.names.lookup x=some .local) Ez):PS X (.AugAssign (.Name x pos') op e pos) (tAug i te ti):=by
 intro EA s σ H D I h;obtain⟨v,e1,h⟩:=h;obtain⟨m,hn,hl⟩:=I.loc;have vis:Vis X.env.scope x:=by rcases hx with k|k;exact .inl k;exact .inr (.inl k)
 obtain⟨u,r,l⟩:=hl i x v hi e1 vis;refine wpAny_AugAssign_Name ?_;have go:wpAny (model X.prog X.w) X.A (eval e X.env) (fun w s₂=>wpAny (model X.prog X.w) X.A (inplaceOp op u w) (fun r s₃=>wpAny (model X.prog X.w) X.A (storeName X.env x r) (fun _=>SP X EA D .next) X.xe s₃) X.xe s₂) X.xe s:=by refine thn (he EA s σ H _ I h) fun w s1⟨y,H1,I1,r1,q1⟩=>?_;refine thn (ho EA s1 σ H1 v y u w _ I1 r r1 q1) fun z s2⟨zv,H2,I2,r2,q2⟩=>?_;exact zV5 I2 hN hi hx r2 (fun s3 I3=>⟨_,H2,I3,q2⟩) hf
 rcases l with⟨hk,hm⟩|⟨hk,c,hc,hcell⟩;exact wpAny_loadName_local I.ok.kind hk hn hm go;rcases hk with hk|hk;exact wpAny_loadName_cell I.ok.kind hk hc hcell go;rcases hx with k|k;have:X.env.scope.names.lookup x=some .free:=hk;rw[k]at this;cases this;have:X.env.scope.names.lookup x=some .free:=hk;rw[k]at this;cases this
def tAugS(to ti te:TE)(tget:V->V->Hp->VK->Prop)(tip:TIp)(tset:TSet):TS:=fun D σ H=>to σ H fun o H1=>ti σ H1 fun i H2=>tget o i H2 fun x H3=>te σ H3 fun y H4=>tip x y H4 fun z H5=>tset o i z H5 fun H6=>D.nx σ H6
def PGet(X:Cx)(t:V->V->Hp->VK->Prop):Prop:=∀(EA:A9)(s:Shared)(σ:St)(H:Hp)(o i:V)(ov iv:Value)(Q:VK),Inv X EA σ H s->RelV o ov->RelV i iv->t o i H Q ->wpAny (model X.prog X.w) X.A (getItem ov iv) (EP X EA σ Q) X.xe s
theorem wP6{o i:Expr}{to ti:TE}{tget:V->V->Hp->VK->Prop}{tip:TIp}{tset:TSet}{op:Operator}{tpos:Pos}(ho:PE X o to)(hi:PE X i ti)(hg:PGet X tget)(he:PE X e te)(hp:PIp X op tip)(hs:PSet X tset)(ha:autoParam (∀ov iv new,augStore i ov iv new=(do holding [new,ov,iv] (setItem ov iv new);release [new,ov,iv] [];pure .next)) xD3._auto_1):PS X (.AugAssign (.Subscript o i tpos) op e pos) (tAugS to ti te tget tip tset):=by intro EA s σ H D I h;refine wpAny_AugAssign_SubscriptAny (thn (ho EA s σ H _ I h) fun ov s1⟨x1,H1,I1,r1,q1⟩=>?_) ha;refine thn (hi EA s1 σ H1 _ I1 q1) fun iv s2⟨x2,H2,I2,r2,q2⟩=>?_;refine thn (hg EA s2 σ H2 x1 x2 ov iv _ I2 r1 r2 q2) fun old s3⟨x3,H3,I3,r3,q3⟩=>?_;refine thn (he EA s3 σ H3 _ I3 q3) fun v s4⟨x4,H4,I4,r4,q4⟩=>?_;refine thn (hp EA s4 σ H4 x3 x4 old v _ I4 r3 r4 q4) fun new s5⟨x5,H5,I5,r5,q5⟩=>?_;exact thn (hs EA s5 σ H5 x1 x2 x5 ov iv new _ I5 r1 r2 r5 q5) fun _ s6⟨H6,I6,q6⟩=>⟨σ,H6,I6,q6⟩
def tWhile(c:TT)(tb:TS):TS:=fun D σ H=>∃W:Nat->St->Hp->Prop,(∃m,W m σ H)/\∀m σ H,W m σ H ->c σ H fun b H1=>if b=true then ∃N:St->Hp->Prop,(∀σ' H',N σ' H'->∃m',m'<m/\W m' σ' H')/\tb {D with nx:=N,ct:=N,bk:=D.nx} σ H1 else D.nx σ H1
theorem yN5{c:Expr}{tc:TT}{tb:TS}(hp:PassesOwn (model X.prog X.w) X.A X.env X.xe)(hc:PT X c tc)(hb:PSs X body tb):PS X (.While c body [] pos) (tWhile tc tb):=by
 intro EA s σ H D I h;obtain⟨W,⟨m0,w0⟩,turn⟩:=h;refine wpAny_While (codeAny_whileLoop (fun n s'=>∃σ' H',Inv X EA σ' H' s'/\W n σ' H') ?_ m0 ⟨σ,H,I,w0⟩);rintro n s1 ⟨σ1,H1,I1,w1⟩;refine wpAny_passesOwn hp (thn (hc EA s1 σ1 H1 _ I1 (turn n σ1 H1 w1)) fun b s2⟨H2,I2,q2⟩=>?_);cases b with
 |true=>
  obtain⟨N,hN,q2⟩:=q2;rw[Ae rfl];refine wpAny_passesOwn hp (thn (hb EA s2 σ1 H2 _ I2 q2) fun f s3 q3=>?_);cases f with
  |next=>obtain⟨σ3,H3,I3,n3⟩:=q3;obtain⟨m',hm,w3⟩:=hN σ3 H3 n3;exact⟨m',hm,σ3,H3,I3,w3⟩
  |cont=>obtain⟨σ3,H3,I3,n3⟩:=q3;obtain⟨m',hm,w3⟩:=hN σ3 H3 n3;exact⟨m',hm,σ3,H3,I3,w3⟩
  |brk=>exact q3
  |ret v=>exact q3
 |false=>rw[An AY];exact wpAny_execs_nil ⟨σ1,H2,I2,q2⟩
end
structure It where
 go:Nat->Hp->Prop
 yld:Nat->Hp->V->Hp->Prop
 stop:Nat->Hp->Prop
def FpOk(X:Cx)(EA:A9)(H:Hp)(b:Addr):Prop:=H b=none/\b≠X.env.locals/\b∉X.fs/\(b∈X.ex\/X.s₀.heap.objs.size<=b)/\(∀x c,X.env.cells.lookup x=some c->c≠b)/\∀p∈X.pn++EA,p.1≠b
theorem Inv.fpOk{X:Cx}{b:Addr}(I:Inv X EA σ H s)(hb:s.heap.objs.size<=b)(hn:H' b=none):FpOk X EA H' b:=by refine⟨hn,Ef (AA I.lt hb),I.nofs hb,.inr (As I.sz hb),fun x c e z=>?_,fun p hp z=>?_⟩;obtain⟨v,q⟩:=I.cell x c e;exact absurd (AA q.lt (by rw[z];exact hb)) (CL _);exact absurd (AA (Au (I.pin p hp).1) (by rw[z];exact hb)) (CL _)
structure Turn(P:Program)(w:World)(K:KFr)(tg:Expr)(J:It)(fp:C9)(it:Addr)(tn:Nat->Heap->Prop):Prop where
 mem:it∈fp
 obj:∀i h,tn i h->∀b∈fp,∃o,h.get? b=some o/\∀v,o.data≠.cell v
 keep:∀i h h',tn i h->(∀b∈fp,∀o,h.get? b=some o->h'.get? b=some o)->tn i h'
 item:∀(X:Cx),X.prog=P->X.w=w->X.K=K->X.calm=true->∀(i:Nat)(EA:A9)(s:Shared)(σ:St)(H:Hp)(E:A8),Inv X EA σ H s->(∀b∈fp,FpOk X EA H b)->tn i s.heap->J.go i H ->
  wpAny (model P w) X.A (pyNext (.ref it)) (fun r s1=>∃u,r=some u /\
   wpAny (model P w) X.A (letOwnedTupleGo tg (.ref it) u) (fun _ s2=>∃x H',Inv X EA σ H' s2/\RelV x u/\J.yld i H x H'/\tn (i+1) s2.heap/\∀b∈fp,H' b=none) E s1) E s
 done:∀(X:Cx),X.prog=P->X.w=w->X.K=K->X.calm=true->∀(i:Nat)(EA:A9)(s:Shared)(σ:St)(H:Hp)(E:A8),Inv X EA σ H s->(∀b∈fp,FpOk X EA H b)->tn i s.heap->J.stop i H ->
  wpAny (model P w) X.A (pyNext (.ref it)) (fun r s1=>r=none/\Inv X EA σ H s1) E s
 self:∀(A:Around)(i:Nat)(s:Shared)(Q:A8)(E:A8),tn i s.heap->Q (.ref it) s->wpAny (model P w) A (pyIter (.ref it)) Q E s
abbrev TI:=St->Hp->(It->Hp->Prop)->Prop
variable {wi:L2.TI}
def PIE(X:Cx)(EA:A9)(σ:St)(tg:Expr)(R:It->Hp->Prop)(itv:Value)(s2:Shared):Prop:=∃(it:Addr)(fp:C9)(tn:Nat->Heap->Prop)(J:It)(H':Hp),itv=.ref it/\Inv X EA σ H' s2/\Turn X.prog X.w X.K tg J fp it tn/\tn 0 s2.heap/\(∀b∈fp,FpOk X EA H' b)/\R J H'
def PI(X:Cx)(tg iter:Expr)(wi:TI):Prop:=∀(EA:A9)(s:Shared)(σ:St)(H:Hp)(R:It->Hp->Prop),Inv X EA σ H s->wi σ H R ->wpAny (model X.prog X.w) X.A (eval iter X.env) (fun v s1=>wpAny (model X.prog X.w) X.A (pyIter v) (PIE X EA σ tg R) X.xe s1) X.xe s
theorem zC6{M:Model}{A:Around}{it:Addr}{o:Obj}{n:String}{vs:Array Value}{Q:Unit->Shared->Prop}(ho:s.heap.get? it=some o)(hc:o.cls=.type n)(hd:o.data=.fields vs)(hn:["enumerate","zip","dict_itemiterator","dict_reverseitemiterator","odict_iterator","itertools.zip_longest","itertools.pairwise"].contains n=false)(hQ:Q () s):wpAny M A (letOwnedTupleGo tg (.ref it) u) Q E s:=by
 unfold letOwnedTupleGo;cases tg<;>first
  |exact AK hQ
  |(cases u<;>first
    |exact AK hQ
    |(refine Ai (wpAny_load ho ?_);rw[hc,hd];show wpAny M A (if (["enumerate","zip","dict_itemiterator","dict_reverseitemiterator","odict_iterator","itertools.zip_longest","itertools.pairwise"].contains n&&vs[0]?==some (rawInt _))=true then _ else _) Q E s;rw[An (by intro h;rw[hn,Bool.false_and]at h;cases h)];exact AK hQ))
def Itl(K:KFr)(a:Addr):It:=⟨fun i H=>∃xs x,SqL K H a xs/\xs[i]?=some x,fun i H x H'=>H'=H/\∀xs,SqL K H a xs->xs[i]?=some x,fun i H=>∃xs,SqL K H a xs/\xs.length<=i⟩
def Itt(K:KFr)(a:Addr):It:=⟨fun i H=>∃xs x,SqT K H a xs/\xs[i]?=some x,fun i H x H'=>H'=H/\∀xs,SqT K H a xs->xs[i]?=some x,fun i H=>∃xs,SqT K H a xs/\xs.length<=i⟩
def Itr(lo:Int)(n:Nat):It:=⟨fun i _=>i<n,fun i H x H'=>H'=H/\x=.int (lo+i),fun i _=>n<=i⟩
theorem xE7{w:World}{K:KFr}(a it:Addr):Turn P w K tg (Itl K a) [it] it (fun i h=>h.IsListIter it a i) where
 mem:=by simp
 obj:=fun i h st b hb=>by
  have e:b=it:=by simpa using hb
  subst e
  obtain⟨o,e,c,d⟩:=st
  exact⟨o,e,fun v z=>by rw[d]at z;cases z⟩
 keep:=fun i h h' st k=>st.at fun o e=>k it (by simp) o e
 item:=by
  intro X hP hw hK hc i EA s σ H E I hf st hg
  subst hP hw hK
  obtain⟨xs,x,hq,hx⟩:=hg
  obtain⟨its,rv,p,hz⟩:=I.list hq
  obtain⟨u,hu,ru⟩:=rv.get hx
  obtain⟨f0,f1,f2,f3,f4,f5⟩:=hf it (by simp)
  refine wpAny_pyNext_list_item st p.isList (x:=u) (by simpa using hu) fun h' st' sb=>?_
  have I1:Inv X EA σ H {s with heap:=h'}:=I.turned (t':=s.toks) (fun b o hb e=>(sb.2 b hb).trans e) f0 f1 f3 f4 f5
  obtain⟨o,e,c,d⟩:=id st'
  exact⟨u,rfl,zC6 (s:={s with heap:=h'}) e c d (by decide) ⟨x,H,I1,ru,⟨rfl,fun ys hy=>by rw[I.yK8 hy hq];exact hx⟩,st',fun b hb=>(hf b hb).1⟩⟩
 done:=by
  intro X hP hw hK hc i EA s σ H E I hf st hg
  subst hP hw hK
  obtain⟨xs,hq,hx⟩:=hg
  obtain⟨its,rv,p,hz⟩:=I.list hq
  obtain⟨f0,f1,f2,f3,f4,f5⟩:=hf it (by simp)
  have hl:=rv.length
  exact wpAny_pyNext_list_end (I.ok.hd hc) st p.isList (by simp;rfl') fun h' eb=>⟨rfl,I.turned (t':=s.toks) (fun b o hb e=>eb b o hb e) f0 f1 f3 f4 f5⟩
 self:=fun _ _ _ _ _ st h=>wpAny_pyIter_listiter st h
theorem xS6{w:World}{K:KFr}(a it:Addr):Turn P w K tg (Itt K a) [it] it (fun i h=>h.IsTupleIter it a i) where
 mem:=by simp
 obj:=fun i h st b hb=>by
  have e:b=it:=by simpa using hb
  subst e
  obtain⟨o,e,c,d⟩:=st
  exact⟨o,e,fun v z=>by rw[d]at z;cases z⟩
 keep:=fun i h h' st k=>st.at fun o e=>k it (by simp) o e
 item:=by
  intro X hP hw hK hc i EA s σ H E I hf st hg
  subst hP hw hK
  obtain⟨xs,x,hq,hx⟩:=hg
  obtain⟨its,rv,p,hz⟩:=I.tuple hq
  obtain⟨u,hu,ru⟩:=rv.get hx
  obtain⟨f0,f1,f2,f3,f4,f5⟩:=hf it (by simp)
  refine wpAny_pyNext_tuple_item st (show s.heap.IsTuple a its.toArray from p) (x:=u) (by simpa using hu) fun h' st' sb=>?_
  have I1:Inv X EA σ H {s with heap:=h'}:=I.turned (t':=s.toks) (fun b o hb e=>(sb.2 b hb).trans e) f0 f1 f3 f4 f5
  obtain⟨o,e,c,d⟩:=id st'
  exact⟨u,rfl,zC6 (s:={s with heap:=h'}) e c d (by decide) ⟨x,H,I1,ru,⟨rfl,fun ys hy=>by rw[I.xI6 hy hq];exact hx⟩,st',fun b hb=>(hf b hb).1⟩⟩
 done:=by
  intro X hP hw hK hc i EA s σ H E I hf st hg
  subst hP hw hK
  obtain⟨xs,hq,hx⟩:=hg
  obtain⟨its,rv,p,hz⟩:=I.tuple hq
  obtain⟨f0,f1,f2,f3,f4,f5⟩:=hf it (by simp)
  have hl:=rv.length
  exact wpAny_pyNext_tuple_end (I.ok.hd hc) st (show s.heap.IsTuple a its.toArray from p) (by simp;rfl') fun h' eb=>⟨rfl,I.turned (t':=s.toks) (fun b o hb e=>eb b o hb e) f0 f1 f3 f4 f5⟩
 self:=fun _ _ _ _ _ st h=>wpAny_pyIter_tupleiter st h
theorem xT8{w:World}{K:KFr}(it:Addr)(lo:Int)(n:Nat):Turn P w K tg (Itr lo n) [it] it (fun i h=>IsRangeIter h it (lo+(i:Nat)*1) ((n:Int)-(i:Nat)) 1) where
 mem:=by simp
 obj:=fun i h st b hb=>by
  have e:b=it:=by simpa using hb
  subst e
  exact⟨_,st,fun v z=>by
   have z':Data.fields _=Data.cell v:=z
   cases z'⟩
 keep:=fun i h h' st k=>k it (by simp) _ st
 item:=by
  intro X hP hw hK hc i EA s σ H E I hf st hg
  subst hP hw hK
  obtain⟨f0,f1,f2,f3,f4,f5⟩:=hf it (by simp)
  have W:=Walks.range (prog:=X.prog) (w:=X.w) (I.ok.hd hc) it lo 1 n
  refine W.item i s _ _ hg st fun v h' tk hv st' kk=>?_
  obtain⟨t,rfl⟩:=hv
  have I1:Inv X EA σ H {s with heap:=h',toks:=tk}:=I.turned (fun b o hb e=>kk b o (by simpa using hb) e) f0 f1 f3 f4 f5
  refine⟨_,rfl,zC6 (s:={s with heap:=h',toks:=tk}) (n:="range_iterator") st' rfl rfl (by decide) ⟨.int (lo+i),H,I1,⟨t,?_⟩,⟨rfl,rfl⟩,st',fun b hb=>(hf b hb).1⟩⟩
  rw[Int.mul_one]
 done:=by
  intro X hP hw hK hc i EA s σ H E I hf st hg
  subst hP hw hK
  obtain⟨f0,f1,f2,f3,f4,f5⟩:=hf it (by simp)
  exact wpAny_pyNext_range_end (I.ok.hd hc) st (by have:n<=i:=hg;rfl') fun h' eb=>⟨rfl,I.turned (t':=s.toks) (fun b o hb e=>eb b o hb e) f0 f1 f3 f4 f5⟩
 self:=fun _ _ _ _ _ st h=>wpAny_pyIter_rangeiter st h
section
variable {X:Cx}{tg:Expr}
theorem yN2{R:It->Hp->Prop}{lo hi:Int}{t u v:Tok}{tk:Nat}(I:Inv X EA σ H s)(h1:-(2^62)<=lo)(h2:lo<2^62)(h3:-(2^62)<=hi)(h4:hi<2^62)(q:R (Itr lo (hi-lo).toNat) H):wpAny (model X.prog X.w) X.A (pyIter (.ref s.heap.objs.size)) (PIE X EA σ tg R) E {s with heap:=s.heap.push {cls:=.type "range",data:=.fields #[.int lo t,.int hi u,.int 1 v]},toks:=tk}:=by
 refine wpAny_pyIter_range (IsRange.new ..) (small_one h1 h2 h3 h4) ?_;have I1:Inv X EA σ H {s with heap:=s.heap.push {cls:=.type "range",data:=.fields #[.int lo t,.int hi u,.int 1 v]},toks:=tk}:=I.kept fun b o e=>Am _ e;refine⟨(s.heap.push {cls:=.type "range",data:=.fields #[.int lo t,.int hi u,.int 1 v]}).objs.size,[(s.heap.push {cls:=.type "range",data:=.fields #[.int lo t,.int hi u,.int 1 v]}).objs.size],_,_,H,rfl,I1.kept (t':=tk) fun b o e=>Am _ e,xT8 _ lo (hi-lo).toNat,?_,fun b hb=>?_,q⟩;have e1:lo+((0:Nat):Int)*1=lo:=by simp
 have e2:(((hi-lo).toNat:Nat):Int)-((0:Nat):Int)=Builtin.Range.rangeSize lo hi 1:=by rw[rangeSize_one];split<;>rfl'
 show IsRangeIter _ _ (lo+((0:Nat):Int)*1) ((((hi-lo).toNat:Nat):Int)-((0:Nat):Int)) 1;rw[e1,e2];exact AO _ rfl;have e:b=(s.heap.push {cls:=.type "range",data:=.fields #[.int lo t,.int hi u,.int 1 v]}).objs.size:=by simpa using hb
 subst e;exact I1.fpOk (Ac _) (I1.hok.fresh (Ac _))
def iRng1(ta:TA):TI:=fun σ H R=>ta σ H fun vs H1=>∃j:Int,vs=[.int j]/\-(2^62)<=j/\j<2^62/\R (Itr 0 j.toNat) H1
def iRng2(ta:TA):TI:=fun σ H R=>ta σ H fun vs H1=>∃i j:Int,vs=[.int i,.int j]/\(-(2^62)<=i/\i<2^62/\-(2^62)<=j/\j<2^62)/\R (Itr i (j-i).toNat) H1
theorem zQ1{a:Expr}{ta:TA}{p:Pos}(hg:Gl X "range")(hm:X.mg "range"=none)(ha:PA X [a] ta)(hs:autoParam (starEach [a] X.env=[(false,eval a X.env)]) Ey):PI X tg (.Call (.Name "range" p) [a] [] pos) (iRng1 ta):=by
 intro EA s σ H R I h;refine Call_ (aE I hg hm boot_range (Ce (thn (ha pos EA s σ H _ I h) fun us s1⟨vs,H1,I1,r1,q1⟩=>?_) hs rfl));obtain⟨j,e,q1,q2,q⟩:=q1;subst e;cases r1 with
 |cons r rr=>cases rr;obtain⟨t,rfl⟩:=r;exact call_range_1 (yN2 I1 (by rfl') (by rfl') q1 q2 (by simpa using q))
theorem yU3{a b:Expr}{ta:TA}{p:Pos}(hg:Gl X "range")(hm:X.mg "range"=none)(ha:PA X [a,b] ta)(hs:autoParam (starEach [a,b] X.env=[(false,eval a X.env),(false,eval b X.env)]) Ey)(hs2:autoParam (starEach [b] X.env=[(false,eval b X.env)]) Ey):PI X tg (.Call (.Name "range" p) [a,b] [] pos) (iRng2 ta):=by
 intro EA s σ H R I h;refine Call_ (aE I hg hm boot_range (Ce (thn (ha pos EA s σ H _ I h) fun us s1⟨vs,H1,I1,r1,q1⟩=>?_) (by rw[hs,hs2]) (by rw[hs2];rfl)));obtain⟨i,j,e,⟨q1,q2,q3,q4⟩,q⟩:=q1;subst e;cases r1 with
 |cons r rr=>
  cases rr with
  |cons r' rr=>cases rr;obtain⟨t,rfl⟩:=r;obtain⟨t',rfl⟩:=r';exact call_range_2 (yN2 I1 q1 q2 q3 q4 q)
def tFor(wi:TI)(g:TG)(tb:TS):TS:=fun D σ H=>wi σ H fun J H1=>∃W:Nat->Nat->St->Hp->Prop,(∃m,W 0 m σ H1)/\∀i m σ H,W i m σ H ->(J.stop i H/\D.nx σ H)\/(J.go i H/\∃N:St->Hp->Prop,(∀σ' H',N σ' H'->∃m',m'<m/\W (i+1) m' σ' H')/\∀x H',J.yld i H x H'->g x σ H' fun σ2 H2=>tb {D with nx:=N,ct:=N,bk:=D.nx} σ2 H2)
def pinsAt(fp:C9)(h:Heap):A9:=fp.filterMap fun b=>(h.get? b).map fun o=>(b,o)
theorem dH{b:Addr}{o:Obj}(hb:b∈fp)(e:h.get? b=some o):(b,o)∈pinsAt fp h:=BN.mpr ⟨b,hb,by rw[e];rfl⟩
theorem xK8{p:Addr×Obj}(hp:p∈pinsAt fp h):p.1∈fp/\h.get? p.1=some p.2:=by
 obtain⟨b,hb,e⟩:=BN.mp hp;cases q:h.get? b with
 |none=>rw[q]at e;cases e
 |some o=>rw[q]at e;have e':(b,o)=p:=Ba e;subst e';exact⟨hb,q⟩
theorem Inv.pinned(I:Inv X EA σ H s)(hf:∀b∈fp,FpOk X EA H b)(ho:∀b∈fp,∃o,s.heap.get? b=some o/\∀v,o.data≠.cell v):Inv X (EA++pinsAt fp s.heap) σ H s:=I.kF fun p hp=>(AE.mp hp).elim (fun z=>I.pin p (Ah _ z)) fun z=>by obtain⟨hb,e⟩:=xK8 z;obtain⟨f0,f1,f2,_⟩:=hf p.1 hb;obtain⟨o,e',d⟩:=ho p.1 hb;rw[e]at e';cases e';exact⟨e,f0,f1,f2,d⟩
theorem Inv.unpinned{pl:A9}(I:Inv X (EA++pl) σ H s):Inv X EA σ H s:=I.kF fun p hp=>I.pin p (Ah _ (AG _ hp))
theorem zS5{iter:Expr}{tb:TS}(hp:PassesOwn (model X.prog X.w) X.A X.env X.xe)(hc:X.calm=true)(hi:PI X tg iter wi)(hg:PG X tg g)(hb:PSs X body tb)(hs:autoParam (∀x,foldedSetIterable iter X.env x=pure x) Ew):PS X (.For tg iter body [] pos) (tFor wi g tb):=by
 intro EA s σ H D I h;refine wpAny_For (thn (hi EA s σ H _ I h) fun v s1 h1=>thn h1 fun itv s2 h2=>?_) hs;obtain⟨it,fp,tn,J,H2,e,I2,T,st2,f2,W,⟨m0,w0⟩,turn⟩:=h2;subst e;have stat:∀{H':Hp},(∀b∈fp,H' b=none)->∀b∈fp,FpOk X EA H' b:=fun hn b hb=>⟨hn b hb,(f2 b hb).2⟩;refine codeAny_forLoop_any (fun n s'=>∃i σ' H',Inv X EA σ' H' s'/\tn i s'.heap/\(∀b∈fp,H' b=none)/\W i n σ' H') ?_ m0 ⟨0,σ,H2,I2,st2,fun b hb=>(f2 b hb).1,w0⟩;rintro n s3 ⟨i,σ3,H3,I3,st3,fr3,w3⟩;rcases turn i n σ3 H3 w3 with⟨stop,qn⟩|⟨go,N,hN,step⟩
 ·refine wpAny_passesOwn hp (thn (T.done X rfl rfl rfl hc i EA s3 σ3 H3 X.xe I3 (stat fr3) st3 stop) fun r s4⟨hr,I4⟩=>?_)
  subst hr;exact wpAny_execs_nil ⟨σ3,H3,I4,qn⟩
 ·refine wpAny_passesOwn hp (thn (T.item X rfl rfl rfl hc i EA s3 σ3 H3 X.xe I3 (stat fr3) st3 go) fun r s4⟨u,hr,h4⟩=>?_)
  subst hr;refine wpAny_passesOwn hp (thn h4 fun _ s5⟨x,H5,I5,r5,y5,st5,fr5⟩=>?_);have I5':=I5.pinned (stat fr5) (T.obj _ _ st5);refine wpAny_passesOwn hp (thn (hg _ s5 σ3 H5 x u _ I5' r5 (step x H5 y5)) fun _ s6⟨σ6,H6,I6,q6⟩=>?_);refine wpAny_passesOwn hp (thn (hb _ s6 σ6 H6 _ I6 q6) fun f s7 q7=>?_);have again:∀{σ7:St}{H7:Hp},Inv X (EA++pinsAt fp s5.heap) σ7 H7 s7->N σ7 H7->∃m,m<n/\∃i σ' H',Inv X EA σ' H' s7/\tn i s7.heap/\(∀b∈fp,H' b=none)/\W i m σ' H':=fun{σ7 H7}I7 n7=>by obtain⟨m',hm,w7⟩:=hN σ7 H7 n7;refine⟨m',hm,i+1,σ7,H7,I7.unpinned,T.keep _ _ _ st5 fun b hb o e=>(I7.pin (b,o) (Ah _ (Ah _ (dH hb e)))).1,fun b hb=>?_,w7⟩;obtain⟨o,e,d⟩:=T.obj _ _ st5 b hb;exact(I7.pin (b,o) (Ah _ (Ah _ (dH hb e)))).2.1
  cases f with
  |next=>obtain⟨σ7,H7,I7,n7⟩:=q7;exact again I7 n7
  |cont=>obtain⟨σ7,H7,I7,n7⟩:=q7;exact again I7 n7
  |brk=>obtain⟨σ7,H7,I7,q7⟩:=q7;exact⟨σ7,H7,I7.unpinned,q7⟩
  |ret v=>obtain⟨x7,σ7,H7,I7,r7,q7⟩:=q7;exact⟨x7,σ7,H7,I7.unpinned,r7,q7⟩
end
theorem zS3{lo:Int}{n:Nat}{tb:TS}{D:Ends}(Pv:Nat->St->Hp->Prop)(h0:Pv 0 σ H)(hs:∀i σ H,i<n->Pv i σ H->g (.int (lo+i)) σ H fun σ2 H2=>tb {D with nx:=Pv (i+1),ct:=Pv (i+1),bk:=D.nx} σ2 H2)(hd:∀σ H,Pv n σ H->D.nx σ H):∃W:Nat->Nat->St->Hp->Prop,(∃m,W 0 m σ H)/\∀i m σ H,W i m σ H ->((Itr lo n).stop i H/\D.nx σ H)\/((Itr lo n).go i H/\∃N:St->Hp->Prop,(∀σ' H',N σ' H'->∃m',m'<m/\W (i+1) m' σ' H')/\∀x H',(Itr lo n).yld i H x H'->g x σ H' fun σ2 H2=>tb {D with nx:=N,ct:=N,bk:=D.nx} σ2 H2):=by
 refine⟨fun i m σ H=>m=n-i/\i<=n/\Pv i σ H,⟨n,by simp,Cb _,h0⟩,?_⟩;rintro i m σ H ⟨rfl,hi,p⟩;by_cases hlt:i<n;refine .inr ⟨hlt,Pv (i+1),fun σ' H' p'=>⟨n-(i+1),by rfl',rfl,hlt,p'⟩,fun x H' y=>?_⟩;obtain⟨e,y⟩:=y;subst e y;exact hs i σ _ hlt p;have e:i=n:=by rfl'
 subst e;exact .inl ⟨Ac _,hd σ H p⟩
abbrev R2:=V->V->Hp->VK->Prop
variable {r':L2.R2}
def OpR(X:Cx)(f:Value->Value->Sem Value)(r:R2):Prop:=∀(EA:A9)(s:Shared)(σ:St)(H:Hp)(x y:V)(v u:Value)(Q:VK),Inv X EA σ H s->RelV x v->RelV y u->r x y H Q ->wpAny (model X.prog X.w) X.A (f v u) (EP X EA σ Q) X.xe s
def UnR(X:Cx)(f:Value->Sem Value)(r:V->Hp->VK->Prop):Prop:=∀(EA:A9)(s:Shared)(σ:St)(H:Hp)(x:V)(v:Value)(Q:VK),Inv X EA σ H s->RelV x v->r x H Q ->wpAny (model X.prog X.w) X.A (f v) (EP X EA σ Q) X.xe s
def CallR(X:Cx)(f:Value)(r:List V->Hp->VK->Prop):Prop:=∀(EA:A9)(s:Shared)(σ:St)(H:Hp)(xs:C8)(us:C3)(Q:VK),Inv X EA σ H s->Vals xs us->r xs H Q ->wpAny (model X.prog X.w) X.A (call f us) (EP X EA σ Q) X.xe s
def tOp(r:R2)(ta tb:TE):TE:=fun σ H Q=>ta σ H fun x H1=>tb σ H1 fun y H2=>r x y H2 Q
def tUn(r:V->Hp->VK->Prop)(ta:TE):TE:=fun σ H Q=>ta σ H fun x H1=>r x H1 Q
def rI(C:Int->Int->Prop)(g:Int->Int->V):R2:=fun x y H Q=>∃i j,x=.int i/\y=.int j/\C i j/\Q (g i j) H
def rI0(g:Int->Int->V):R2:=fun x y H Q=>∃i j,x=.int i/\y=.int j/\Q (g i j) H
def rU(g:Int->V):V->Hp->VK->Prop:=fun x H Q=>∃i,x=.int i/\Q (g i) H
section
variable {X:Cx}{a b c:Expr}{ta tb tc:TE}{pos:Pos}
theorem binT(ha:PE X a ta)(hb:PE X b tb){R:V->V->Hp->Prop}(I:Inv X EA σ H s)(h:ta σ H fun x H1=>tb σ H1 fun y H2=>R x y H2){Q:A8}{f:Value->Value->Sem Value}(hf:∀v u s2 x y H2,Inv X EA σ H2 s2->RelV x v->RelV y u->R x y H2->wpAny (model X.prog X.w) X.A (f v u) Q X.xe s2):wpAny (model X.prog X.w) X.A (eval a X.env) (fun v s₁=>wpAny (model X.prog X.w) X.A (eval b X.env) (fun u s₂=>wpAny (model X.prog X.w) X.A (f v u) Q X.xe s₂) X.xe s₁) X.xe s:=by refine thn (ha EA s σ H _ I h) fun v s1⟨x,H1,I1,r1,q1⟩=>?_;refine thn (hb EA s1 σ H1 _ I1 q1) fun u s2⟨y,H2,I2,r2,q2⟩=>?_;exact hf v u s2 x y H2 I2 r1 r2 q2
theorem wT3{op:Operator}{r:R2}(ho:OpR X (binaryOp op) r)(ha:PE X a ta)(hb:PE X b tb):PE X (.BinOp a op b pos) (tOp r ta tb):=by intro EA s σ H Q I h;exact wpAny_BinOp (binT ha hb I h fun v u s2 x y H2 I2 rx ry q=>ho EA s2 σ H2 x y v u Q I2 rx ry q)
theorem vX3{op:UnaryOp}{r:V->Hp->VK->Prop}(ho:UnR X (unaryOp op) r)(ha:PE X a ta):PE X (.UnaryOp op a pos) (tUn r ta):=by intro EA s σ H Q I h;exact UnaryOp_ (thn (ha EA s σ H _ I h) fun v s1⟨x,H1,I1,r1,q1⟩=>ho EA s1 σ H1 x v Q I1 r1 q1)
theorem opI{f:Value->Value->Sem Value}{C:Int->Int->Prop}{g:Int->Int->Int}(rule:∀(i j:Int)(t u:Tok)(s:Shared)(Q:A8)(E:A8),C i j->Q (.int (g i j) s.toks) {s with toks:=s.toks+1}->wpAny (model X.prog X.w) X.A (f (.int i t) (.int j u)) Q E s):OpR X f (rI C fun i j=>.int (g i j)):=by intro EA s σ H x y v u Q I rx ry h;obtain⟨i,j,rfl,rfl,hc,q⟩:=h;obtain⟨t,rfl⟩:=rx;obtain⟨t',rfl⟩:=ry;exact rule i j t t' s _ _ hc ⟨.int (g i j),H,I.tok _,⟨_,rfl⟩,q⟩
theorem opI0{f:Value->Value->Sem Value}{g:Int->Int->Int}(rule:∀(i j:Int)(t u:Tok)(s:Shared)(Q:A8)(E:A8),Q (.int (g i j) s.toks) {s with toks:=s.toks+1}->wpAny (model X.prog X.w) X.A (f (.int i t) (.int j u)) Q E s):OpR X f (rI0 fun i j=>.int (g i j)):=by intro EA s σ H x y v u Q I rx ry h;obtain⟨i,j,rfl,rfl,q⟩:=h;obtain⟨t,rfl⟩:=rx;obtain⟨t',rfl⟩:=ry;exact rule i j t t' s _ _ ⟨.int (g i j),H,I.tok _,⟨_,rfl⟩,q⟩
theorem opB0{f:Value->Value->Sem Value}{g:Int->Int->Bool}(rule:∀(i j:Int)(t u:Tok)(s:Shared)(Q:A8)(E:A8),Q (.bool (g i j)) s->wpAny (model X.prog X.w) X.A (f (.int i t) (.int j u)) Q E s):OpR X f (rI0 fun i j=>.bl (g i j)):=by intro EA s σ H x y v u Q I rx ry h;obtain⟨i,j,rfl,rfl,q⟩:=h;obtain⟨t,rfl⟩:=rx;obtain⟨t',rfl⟩:=ry;exact rule i j t t' s _ _ ⟨.bl (g i j),H,I,rfl,q⟩
def CMul(i j:Int):Prop:=(-(2^64)<i/\i<2^64)\/(-(2^64)<j/\j<2^64)
theorem CMul.ok{i j:Int}(h:CMul i j):IntMulOk i j:=by rcases h with⟨h1,h2⟩|⟨h1,h2⟩;exact .of_left (intBits_le_64 h1 h2);exact .of_right (intBits_le_64 h1 h2)
theorem xS:OpR X (binaryOp .Add) (rI0 fun i j=>.int (i+j)):=opI0 fun _ _ _ _ _ _ _ q=>add_int q
theorem vQ:OpR X (binaryOp .Sub) (rI0 fun i j=>.int (i-j)):=opI0 fun _ _ _ _ _ _ _ q=>sub_int q
theorem wH8:OpR X (binaryOp .Mult) (rI CMul fun i j=>.int (i*j)):=opI fun _ _ _ _ _ _ _ hc q=>mul_int q hc.ok
theorem xK:OpR X (binaryOp .Mod) (rI (fun _ j=>0<j) fun i j=>.int (i%j)):=opI fun i j _ _ _ _ _ hc q=>by have h1:(0:Int)<j:=hc;exact mod_int' (by rfl') (by rw[Int.fmod_eq_emod_of_nonneg i (by rfl')];exact q)
theorem zO6:OpR X (inplaceOp .Add) (rI0 fun i j=>.int (i+j)):=opI0 fun _ _ _ _ _ _ _ q=>iadd_int q
theorem wS3:OpR X (inplaceOp .Sub) (rI0 fun i j=>.int (i-j)):=opI0 fun _ _ _ _ _ _ _ q=>isub_int q
theorem unI{f:Value->Sem Value}{g:Int->Int}(rule:∀(i:Int)(t:Tok)(s:Shared)(Q:A8)(E:A8),Q (.int (g i) s.toks) {s with toks:=s.toks+1}->wpAny (model X.prog X.w) X.A (f (.int i t)) Q E s):UnR X f (rU fun i=>.int (g i)):=by intro EA s σ H x v Q I rx h;obtain⟨i,rfl,q⟩:=h;obtain⟨t,rfl⟩:=rx;exact rule i t s _ _ ⟨.int (g i),H,I.tok _,⟨_,rfl⟩,q⟩
theorem wD3:UnR X (unaryOp .USub) (rU fun i=>.int (-i)):=unI fun _ _ _ _ _ q=>neg_int q
theorem wC9{Q:VK}{k k':Bool}(I:Inv X EA σ H s)(q:Q (.bl k) H)(e:k=k'):EP X EA σ Q (.bool k') s:=by subst e;exact⟨.bl k,H,I,rfl,q⟩
theorem zN3:OpR X (compareOp .Lt) (rI0 fun i j=>.bl (decide (i<j))):=opB0 fun _ _ _ _ _ _ _ q=>lt_int q
theorem wJ:OpR X (compareOp .LtE) (rI0 fun i j=>.bl (decide (i<=j))):=opB0 fun _ _ _ _ _ _ _ q=>le_int q
theorem gX:OpR X (compareOp .Gt) (rI0 fun i j=>.bl (decide (j<i))):=opB0 fun _ _ _ _ _ _ _ q=>gt_int q
theorem xQ7:OpR X (compareOp .GtE) (rI0 fun i j=>.bl (decide (j<=i))):=opB0 fun _ _ _ _ _ _ _ q=>ge_int q
theorem xK7:OpR X (compareOp .In) (fun x y H Q=>∃i j,x=.str i/\y=.str j/\Q (.bl (!(Builtin.Str.occurrences j i 0 j.length 1).isEmpty)) H):=by intro EA s σ H x y v u Q I rx ry h;obtain⟨i,j,rfl,rfl,q⟩:=h;obtain⟨t,rfl⟩:=rx;obtain⟨t',rfl⟩:=ry;exact in_str (wC9 I q rfl)
def isObj:HO->Bool
 |.lst _=>true
 |.ins _ _ _=>true
 |_=>false
theorem qR{a:Addr}{o:HO}(I:Inv X EA σ H s)(h:H a=some o)(p:isObj o=true):∃ob,s.heap.get? a=some ob/\ob.cls≠.type "tuple":=by
 cases o with
 |lst xs=>obtain⟨_,its,n,_,e⟩:xs.length<=sizeLine/\∃(its:C3)(n:Nat),Vals xs its/\s.heap.get? a=some {cls:=.type "list",data:=.seq its.toArray n}:=I.hok a _ h;exact⟨_,e,(by show Value.type "list"≠.type "tuple";decide+kernel)⟩
 |ins C dx fs=>have x:=I.hok a _ h;obtain⟨_,_,_,e,_⟩:=x;exact⟨_,e,(by show Value.ref C≠.type "tuple";exact fun z=>by cases z)⟩
 |_=>exact absurd (show false=true from p) AY
theorem nomark(b:Expr)(h:autoParam (op≠.In) Ex)(h2:autoParam (op≠.NotIn) Ex):behindInMarks op b=false:=by
 have e1:(op==CmpOp.In)=false:=by cases op<;>first|rfl|exact absurd rfl h
 have e2:(op==CmpOp.NotIn)=false:=by cases op<;>first|rfl|exact absurd rfl h2
 cases b<;>simp[behindInMarks,e1,e2]
theorem wQ5{r:R2}(ho:OpR X (compareOp op) r)(ha:PE X a ta)(hb:PE X b tb)(hm:behindInMarks op b=false):PE X (.Compare a [op] [b] pos) (tOp r ta tb):=by intro EA s σ H Q I h;exact wpAny_Compare1 (binT ha hb I h fun v u s2 x y H2 I2 rx ry q=>ho EA s2 σ H2 x y v u Q I2 rx ry q) hm
def tTest(t:TE):TT:=fun σ H Q=>t σ H fun x H'=>∃k,x=.bl k/\Q k H'
theorem yA4{r:R2}(ho:OpR X (compareOp op) r)(ha:PE X a ta)(hb:PE X b tb)(hm:behindInMarks op b=false):PT X (.Compare a [op] [b] pos) (tTest (tOp r ta tb)):=by intro EA s σ H Q I h;refine wpAny_isTrue_Compare1 (thn (ha EA s σ H _ I h) fun v s1⟨x,H1,I1,r1,q1⟩=>thn (hb EA s1 σ H1 _ I1 q1) fun u s2⟨y,H2,I2,r2,q2⟩=>thn (ho EA s2 σ H2 x y v u _ I2 r1 r2 q2) fun c s3⟨z,H3,I3,r3,k,e,q3⟩=>?_) hm;subst e;cases r3;exact wpAny_truthy_bool ⟨H3,I3,q3⟩
def tChain(r r':R2)(ta tb tc:TE):TE:=fun σ H Q=>ta σ H fun x H1=>tb σ H1 fun y H2=>r x y H2 fun z H3=>∃k,z=.bl k /\(if k=true then tc σ H3 fun w' H4=>r' y w' H4 Q else Q (.bl false) H3)
theorem xA6{r:R2}(ho:OpR X (compareOp op) r)(ho':OpR X (compareOp op') r')(ha:PE X a ta)(hb:PE X b tb)(hc:PE X c tc)(hm:autoParam (lastMarks [op,op'] [b,c]=false) zB3._auto_1):PE X (.Compare a [op,op'] [b,c] pos) (tChain r r' ta tb tc):=by
 intro EA s σ H Q I h;refine Compare_chain (thn (ha EA s σ H _ I h) fun v s1⟨x,H1,I1,r1,q1⟩=>chain_link (thn (hb EA s1 σ H1 _ I1 q1) fun u s2⟨y,H2,I2,r2,q2⟩=>thn (ho EA s2 σ H2 x y v u _ I2 r1 r2 q2) fun d s3⟨z,H3,I3,r3,k,e,q3⟩=>?_)) hm;subst e;cases r3;refine wpAny_truthy_bool ?_;cases k with
 |false=>exact ite_ff ⟨.bl false,H3,I3,rfl,q3⟩
 |true=>exact ite_tt (chain_last (thn (hc EA s3 σ H3 _ I3 q3) fun w' s4⟨z',H4,I4,r4,q4⟩=>ho' EA s4 σ H4 y z' u w' Q I4 r2 r4 q4))
theorem wX5{r:R2}(ho:OpR X (compareOp op) r)(ho':OpR X (compareOp op') r')(ha:PE X a ta)(hb:PE X b tb)(hc:PE X c tc)(hm:autoParam (lastMarks [op,op'] [b,c]=false) zB3._auto_1):PT X (.Compare a [op,op'] [b,c] pos) (tTest (tChain r r' ta tb tc)):=by
 intro EA s σ H Q I h;refine isTrue_chain (thn (ha EA s σ H _ I h) fun v s1⟨x,H1,I1,r1,q1⟩=>test_link (thn (hb EA s1 σ H1 _ I1 q1) fun u s2⟨y,H2,I2,r2,q2⟩=>thn (ho EA s2 σ H2 x y v u _ I2 r1 r2 q2) fun d s3⟨z,H3,I3,r3,k,e,q3⟩=>?_)) hm;subst e;cases r3;refine wpAny_truthy_bool ?_;cases k with
 |false=>obtain⟨k',e',q'⟩:=q3;cases e';exact ite_ff ⟨H3,I3,q'⟩
 |true=>refine ite_tt (test_last (thn (hc EA s3 σ H3 _ I3 q3) fun w' s4⟨z',H4,I4,r4,q4⟩=>thn (ho' EA s4 σ H4 y z' u w' _ I4 r2 r4 q4) fun d' s5⟨z2,H5,I5,r5,k2,e2,q5⟩=>?_));subst e2;cases r5;exact wpAny_truthy_bool ⟨H5,I5,q5⟩
theorem line63:(sizeLine:Nat)<2^63:=by rw[sizeLine_eq];decide
theorem yP:OpR X (binaryOp .Add) (fun x y H Q=>∃i j,x=.str i/\y=.str j/\i.length+j.length<=sizeLine/\Q (.str (i++j)) H):=by intro EA s σ H x y v u Q I rx ry h;obtain⟨i,j,rfl,rfl,hz,q⟩:=h;obtain⟨t,rfl⟩:=rx;obtain⟨t',rfl⟩:=ry;exact add_str (fun t' tk=>⟨.str (i++j),H,I.tok _,⟨_,rfl⟩,q⟩) hz
theorem vals1{x:V}(r:Vals [x] us):∃u,us=[u]/\RelV x u:=by
 cases r with
 |cons r1 r2=>cases r2;exact⟨_,rfl,r1⟩
theorem vals2{x y:V}(r:Vals [x,y] us):∃u w',us=[u,w']/\RelV x u/\RelV y w':=by
 cases r with
 |cons r1 r2=>
  cases r2 with
  |cons r3 r4=>cases r4;exact⟨_,_,rfl,r1,r3⟩
theorem wZ8:CallR X (.builtin "abs") (fun xs H Q=>∃i,xs=[.int i]/\Q (.int (if i<0 then -i else i)) H):=by intro EA s σ H xs us Q I r h;obtain⟨i,rfl,q⟩:=h;obtain⟨u,rfl,t,rfl⟩:=vals1 r;exact call_abs_int fun u tk=>⟨.int (if i<0 then -i else i),H,I.tok _,⟨_,rfl⟩,q⟩
theorem bH(hc:X.calm=true):CallR X (.builtin "min") (fun xs H Q=>∃i j,xs=[.int i,.int j]/\Q (.int (if j<i then j else i)) H):=by intro EA s σ H xs us Q I r h;obtain⟨i,j,rfl,q⟩:=h;obtain⟨u,w',rfl,⟨t,rfl⟩,⟨t',rfl⟩⟩:=vals2 r;refine min_two_ints (I.ok.hd hc) fun h' tk k=>⟨_,H,I.kept k,?_,q⟩;by_cases hj:j<i;rw[Ae hj,Ae hj];exact⟨_,rfl⟩;rw[An hj,An hj];exact⟨_,rfl⟩
theorem xJ:CallR X (.type "str") (fun xs H Q=>∃i,xs=[.int i]/\i.natAbs.log2<1920/\Q (.str (toString i)) H):=by intro EA s σ H xs us Q I r h;obtain⟨i,rfl,hz,q⟩:=h;obtain⟨u,rfl,t,rfl⟩:=vals1 r;exact PySem.P.str_of_int hz ⟨.str _,H,I.tok _,⟨_,rfl⟩,q⟩
end
structure ObjM(h:Heap)(x dx C:Addr)(mA:B9):Prop where
 obj:h.get? x=some (PySem.W.instObj C dx)
 ns:h.Ns1 dx mA
 ne:dx≠x
section
variable {prog:Program}{w:World}{A:Around}{E:A8}{s:Shared}{K:KFr}{x dx C f:Addr}{mA:B9}{name:Str}{v:Value}
end
section
variable {P:Program}{w:World}{H H':Hp}{h h':Heap}{a C dx:Addr}{fs fs':List (Str×V)}
end
structure Cls(K:KFr)(C:Addr):Prop where
 pg:PySem.W.plainGet K C Str.empty=true
 hd:PySem.W.hasDictIn K C=true
 po:PySem.W.plainOver K C=true
 sa:PySem.W.findIn K (.ref C) "__setattr__"=some (some (.builtin "object.__setattr__"))
structure Con(K:KFr)(C:Addr)(f:Str)(v:V)(u:Value):Prop where
 at_:PySem.W.findIn K (.ref C) f=some (some u)
 rel:RelV v u
 get:PySem.W.specialIn K u "__get__"=some none
 cp:PySem.W.copiedNames.contains f=false
structure Meth(K:KFr)(C:Addr)(m:Str)(f:Addr):Prop where
 at_:PySem.W.findIn K (.ref C) m=some (some (.ref f))
 fn:PySem.W.isFn K (.ref f)=true
 kp:PySem.W.keepIn K (.ref f)=true
section
variable {X:Cx}{EA:A9}{σ:St}{H:Hp}{s:Shared}{a C dx:Addr}{fs:List (Str×V)}{f:Str}{v:V}{A:Around}{E:A8}
end
section
variable {X:Cx}{o e value:Expr}{f:Str}{pos pos' tpos:Pos}{ta tv:TE}
end
section
variable {X:Cx}{EA:A9}{σ:St}{H:Hp}{s:Shared}{A:Around}{E:A8}{Q:A8}{c:Value}{b:Bool}
inductive TyOf(K:KFr)(H:Hp):V->Value->Prop where
 |non:TyOf K H .non (.type "NoneType")
 |bl (x:Bool):TyOf K H (.bl x) (.type "bool")
 |int (i:Int):TyOf K H (.int i) (.type "int")
 |str (x:Str):TyOf K H (.str x) (.type "str")
 |flt (x:UInt64):TyOf K H (.flt x) (.type "float")
 |lst {a:Addr}{xs:C8}(e:H a=some (.lst xs)):TyOf K H (.ref a) (.type "list")
 |frz {a:Addr}{o:Obj}{xs:C8}(e:H a=some (.frz o (.lst xs))):TyOf K H (.ref a) (.type "list")
 |tup {a:Addr}{xs:C8}(e:H a=some (.tup xs)):TyOf K H (.ref a) (.type "tuple")
 |dK {a:Addr}{kvs:List (Key×V)}(e:H a=some (.dK kvs)):TyOf K H (.ref a) (.type "dict")
 |dT {a:Addr}{kvs:List (List Key×V)}(e:H a=some (.dT kvs)):TyOf K H (.ref a) (.type "dict")
 |ins {a C dx:Addr}{fs:List (Str×V)}(e:H a=some (.ins C dx fs)) (cl:Cls K C) (ha:PySem.W.findIn K (.ref C) "__class__"=some (some (.builtin "object.__class__")))
   (hn:PySem.W.specialIn K (.builtin "object.__class__") "__get__"=some (some (.builtin "getset_descriptor.__get__"))) (htk:PySem.W.takesIn K (.builtin "object.__class__")=some true)
   (hm:PySem.W.mroIn K C (.type "object")=some true):TyOf K H (.ref a) (.ref C)
end
structure Room(k:Nat)(A:Around):Prop where
 hd:A.handled=none
 dp:A.depth+3*k+5<recursionLimit
 un:A.units+16*k+200<cLine
theorem Room.mono{j k:Nat}{A:Around}(r:Room k A)(h:j<=k):Room j A:=⟨r.hd,by have:=r.dp;rfl',by have:=r.un;rfl'⟩
theorem Room.deeper{k:Nat}{A:Around}(r:Room (k+1) A)(env:Env):Room k (A.deeper env):=⟨r.hd,by have:=r.dp;show A.depth+1+3*k+5<_;rfl',by have:=r.un;show A.units+3+16*k+200<_;rfl'⟩
theorem xR2{A:Around}{C:Addr}{kw:List (Str×Value)}:(A.under (.builtin "type.__call__" ⟨.ref C::us,kw⟩)).depth=A.depth+1:=by first|rfl|simp[Around.under,Code.weight,Code.isCreation,Code.isGuard,Code.isCaller,Code.frames,Code.isFrame,guardIds]
theorem xQ3{A:Around}{C:Addr}{kw:List (Str×Value)}:(A.under (.builtin "type.__call__" ⟨.ref C::us,kw⟩)).units=A.units+1:=by first|rfl|simp[Around.under,Code.cUnits,Code.frames,Code.isFrame]
theorem Room.make{k:Nat}{A:Around}(r:Room (k+1) A)(C:Addr)(us:C3)(kw:List (Str×Value)):Room k (A.under (.builtin "type.__call__" ⟨.ref C::us,kw⟩)):=⟨r.hd,by have:=r.dp;rw[xR2];rfl',by have:=r.un;rw[xQ3];rfl'⟩
theorem Room.depth{k:Nat}{A:Around}(r:Room k A):A.depth<recursionLimit:=by have:=r.dp;rfl'
theorem Room.units{k:Nat}{A:Around}(r:Room k A):A.units+64<cLine:=by have:=r.un;rfl'
def tNil:TA:=fun _ H Q=>Q [] H
def qS(ta:TE)(tr:TA):TA:=fun σ H Q=>ta σ H fun x H1=>tr σ H1 fun xs H2=>Q (x::xs) H2
section
variable {X:Cx}{e:Expr}{es:C7}{te:TE}{t:TA}{pos:Pos}
theorem xP:PA X [] tNil:=fun _ _ _ _ H Q I h=>Calls.spliced_nil ⟨[],H,I,.nil,h⟩
theorem yF(ha:PE X e te)(hr:PA X es t)(hs:autoParam (starEach (e::es) X.env=(false,eval e X.env)::starEach es X.env) Ey):PA X (e::es) (qS te t):=by intro pos EA s σ H Q I h;rw[hs];show wpAny _ _ (spliced ((false,eval e X.env)::backTo pos (starEach es X.env))) _ _ s;refine Ei (thn (ha EA s σ H _ I h) fun u s1⟨x,H1,I1,r1,q1⟩=>?_);exact thn (hr pos EA s1 σ H1 _ I1 q1) fun us s2⟨xs,H2,I2,r2,q2⟩=>⟨x::xs,H2,I2,.cons r1 r2,q2⟩
def tTup(t:TA):TE:=fun σ H Q=>t σ H fun xs H1=>xs.length<=sizeLine/\∀p,H1 p=none->Q (.ref p) (upd H1 p (.tup xs))
def tLst(t:TA):TE:=fun σ H Q=>t σ H fun xs H1=>xs.length<=sizeLine/\∀p,H1 p=none->Q (.ref p) (upd H1 p (.lst xs))
theorem wF3{x1}(h:PA X es t):PE X (.Tuple es x1 pos) (tTup t):=by intro EA s σ H Q I hq;refine wpAny_Tuple_spliced (thn (h pos EA s σ H _ I hq) fun us s1⟨xs,H1,I1,r,z,q⟩=>⟨by rw[<-r.length];exact z,?_⟩);have hf:H1 s1.heap.objs.size=none:=I1.hok.fresh (Ac _);refine⟨.ref s1.heap.objs.size,upd H1 s1.heap.objs.size (.tup xs),I1.laid (t':=s1.toks) (fun b u e=>Am _ e) (Ac _) ?_,rfl,q _ hf⟩;exact⟨z,us,r,TupAt.new _ _⟩
theorem yP8(h:PA X es t):PE X (.List es pos) (tLst t):=by intro EA s σ H Q I hq;refine wpAny_List_spliced (thn (h pos EA s σ H _ I hq) fun us s1⟨xs,H1,I1,r,z,q⟩=>⟨by rw[<-r.length];exact z,?_⟩);have hf:H1 s1.heap.objs.size=none:=I1.hok.fresh (Ac _);refine⟨.ref s1.heap.objs.size,upd H1 s1.heap.objs.size (.lst xs),I1.laid (t':=s1.toks) (fun b u e=>Am _ e) (Ac _) ?_,rfl,q _ hf⟩;exact⟨z,us,0,r,AO _ rfl⟩
end
abbrev Sp:=List V->Hp->VK->XK->Prop
abbrev CXT:=List Env->Hp->Shared->XK->A8
structure Env0(P:Program)(w:World)(K:KFr)(mg:B9)(base:Heap)(A:Around)(outer:List Env)(s:Shared)(H:Hp):Prop where
 frames:A.frames=some outer
 mod:Mod K mg base
 bs:∀b o,base.get? b=some o->s.heap.get? b=some o/\H b=none
 bsz:base.objs.size<=s.heap.objs.size
 funs:s.heap.FunFrames base outer
 frf:∀b∈frs outer,H b=none
 hok:HOk P w H s.heap
 bare:AllBare s.gens
def CE(outer:List Env)(P:Program)(w:World)(H:Hp)(s:Shared)(Q:VK)(u:Value)(s':Shared):Prop:=∃v H',s'.os=s.os/\AllBare s'.gens/\Un (frs outer) [] H H' s.heap s'.heap/\HOk P w H' s'.heap/\RelV v u/\Q v H'
def CR(CX:CXT)(outer:List Env)(P:Program)(w:World)(H:Hp)(s:Shared)(Q:VK)(E:XK)(r:Result)(s':Shared):Prop:=match r with
 |.ok (.ret u)=>CE outer P w H s Q u s'
 |.ok _=>False
 |.error e=>CX outer H s E e s'
structure FnOk(P:Program)(w:World)(K:KFr)(mg:B9)(base:Heap)(CX:CXT)(k:Nat)(f:Addr)(fd:FuncData)(ps:C4)(sp:Sp):Prop where
 len:∀vs H Q E,sp vs H Q E->vs.length=ps.length
 run:∀(A:Around)(outer:List Env)(s:Shared)(H:Hp)(args:Args)(us:C3)(vs:C8)(Q:VK)(E:XK),Room k A->Env0 P w K mg base A outer s H->BindsTo s fd args (ps.zip us)->Vals vs us->sp vs H Q E ->
  codeAny (model P w) A (.call (.ref f) args) (CR CX outer P w H s Q E) s
theorem Env0.make{w:World}{K:KFr}{mg:B9}{base:Heap}{A:Around}{outer:List Env}(e:Env0 P w K mg base A outer s H)(C:Addr)(us:C3)(kw:List (Str×Value)):Env0 P w K mg base (A.under (.builtin "type.__call__" ⟨.ref C::us,kw⟩)) outer s H:=⟨by first|exact e.frames|(simpa[Around.under,Code.envs,Code.isFrame,pushEnvs]using e.frames),e.mod,e.bs,e.bsz,e.funs,e.frf,e.hok,e.bare⟩
section
variable {X:Cx}{EA:A9}{σ:St}{H:Hp}{s s':Shared}
theorem Inv.env0(I:Inv X EA σ H s):Env0 X.prog X.w X.K X.mg X.base X.A X.stack s H:=⟨I.ok.frames,I.ok.mod,I.bs,As I.ok.bsz I.sz,I.stack,I.stkFree,I.hok,I.bare⟩
theorem Inv.after{Q:VK}(I:Inv X EA σ H s)(h:CE X.stack X.prog X.w H s Q u s'):EP X EA σ Q u s':=by obtain⟨v,H',os,bare,un,hok,r,q⟩:=h;obtain⟨hh,g,d,t,os'⟩:=s';obtain rfl:os'=s.os:=os;exact⟨v,H',I.call (h':=hh) (g':=g) (d':=d) (t':=t) (ch:=[]) un hok bare (fun b z=>absurd z (by simp)),r,q⟩
end
def tCall(sp:Sp)(dvs:C8)(E:XK)(t:TA):TE:=fun σ H Q=>t σ H fun vs H1=>sp (vs++dvs) H1 Q E
def Binds(K:KFr)(fd:FuncData)(ps:C4)(ds:C3):Prop:=∀(s:Shared)(us:C3),K.In s.heap->(us++ds).length=ps.length->BindsTo s fd ⟨us,[]⟩ (ps.zip (us++ds))
theorem Binds.all{K:KFr}{fd:FuncData}(h:∀us:C3,us.length=ps.length->bindArgs fd ⟨us,[]⟩=pure (ps.zip us)):Binds K fd ps []:=fun s us _ hl=>by rw[BP]at hl ⊢;exact .of_eq (h us hl)
def Passes(CX:CXT)(X:Cx)(E:XK):Prop:=∀(EA:A9)(σ:St)(H:Hp)(s:Shared)(e:Value)(s':Shared),Inv X EA σ H s->CX X.stack H s E e s'->X.xe e s'
section
variable {X:Cx}{CX:CXT}{k:Nat}{f C:Addr}{fd:FuncData}{ps:C4}{sp:Sp}{dvs:C8}{ds:C3}{E:XK}{x m:Str}{p pos apos:Pos}{e o:Expr}{es:C7}{ta:TE}{t:TA}
theorem xG9{Q:VK}(F:FnOk X.prog X.w X.K X.mg X.base CX k f fd ps sp)(hr:Room k X.A)(hb:Binds X.K fd ps ds)(hd:Vals dvs ds)(hx:Passes CX X E)(I:Inv X EA σ H s)(r:Vals vs us)(h:sp (vs++dvs) H Q E):wpAny (model X.prog X.w) X.A (call (.ref f) us) (EP X EA σ Q) X.xe s:=by
 have r2:Vals (vs++dvs) (us++ds):=r.append hd;have hl:(us++ds).length=ps.length:=by rw[<-r2.length];exact F.len _ _ _ _ h
 refine wpAny_call (codeAny_mono (F.run X.A X.stack s H ⟨us,[]⟩ (us++ds) (vs++dvs) Q E hr I.env0 (hb s us I.kIn hl) r2 h) fun r s' hq=>?_);cases r with
 |error e=>exact hx EA σ H s e s' I hq
 |ok fl=>
  cases fl with
  |ret u=>exact I.after hq
  |next=>exact False.elim hq
  |brk=>exact False.elim hq
  |cont=>exact False.elim hq
theorem zP7(F:FnOk X.prog X.w X.K X.mg X.base CX k f fd ps sp)(hr:Room k X.A)(hg:Gl X x)(hm:X.mg x=some (.ref f))(hk:PySem.W.keepIn X.K (.ref f)=true)(hb:Binds X.K fd ps ds)(hd:Vals dvs ds)(hx:Passes CX X E)(ha:PA X (e::es) t)(hdb:autoParam ((x==("__debug__":Str))=false) Ex)(he:autoParam (starEach (e::es) X.env=(false,eval e X.env)::starEach es X.env) Ey)(hpl:autoParam ((backTo pos (starEach es X.env)).any (·.1)=false) Ey):PE X (.Call (.Name x p) (e::es) [] pos) (tCall sp dvs E t):=by intro EA s σ H Q I h;refine wpAny_Call_Name_kw (jS I hg hm ?_ hdb);refine Ej (h₀:=X.base) I.ok.mod.kin hk (thn (ha pos EA s σ H _ I h) fun us s1⟨vs,H1,I1,r,q⟩=>⟨I1.kIn,?_⟩) he hpl;exact xG9 F hr hb hd hx I1 r q
theorem wX6(F:FnOk X.prog X.w X.K X.mg X.base CX k f fd ps sp)(hr:Room k X.A)(hg:Gl X x)(hm:X.mg x=some (.ref f))(hk:PySem.W.keepIn X.K (.ref f)=true)(hb:Binds X.K fd ps ds)(hd:Vals dvs ds)(hx:Passes CX X E)(hdb:autoParam ((x==("__debug__":Str))=false) Ex):PE X (.Call (.Name x p) [] [] pos) (tCall sp dvs E tNil):=by intro EA s σ H Q I h;refine wpAny_Call_Name_kw (jS I hg hm ?_ hdb);exact PySem.W.callWith_K0 I.kIn hk (xG9 (us:=[]) F hr hb hd hx I .nil h)
structure Mk(K:KFr)(C f:Addr):Prop where
 makes:PySem.W.makesIn K C=true
 init:PySem.W.findIn K (.ref C) "__init__"=some (some (.ref f))
 fn:PySem.W.isFn K (.ref f)=true
 kp:PySem.W.keepIn K (.ref C)=true
end
section
variable {X:Cx}{CX:CXT}{k:Nat}{f C:Addr}{fd:FuncData}{ps ks:C4}{sp:Sp}{E:XK}{x m:Str}{p pos apos kpos:Pos}{e o:Expr}{es:C7}{kws:List Keyword}{te ta:TE}{t tk:TA}{nm:Option Str}
structure KBinds(K:KFr)(fd:FuncData)(ps ks:C4)(g:List Value->List Value->C3)(gV:List V->List V->C8):Prop where
 to:∀(s:Shared)(us ws:C3),K.In s.heap->(g us ws).length=ps.length->BindsTo s fd ⟨us,ks.zip ws⟩ (ps.zip (g us ws))
 rel:∀{vs:C8}{us:C3}{zs:C8}{ws:C3},Vals vs us->Vals zs ws->Vals (gV vs zs) (g us ws)
variable {g:List Value->List Value->C3}{gV:List V->List V->C8}
end
structure vK(N P:C4)(sc:Scope):Prop where
 kind:sc.kind=.function
 co:sc.isCoroutine=false
 gen:sc.isGenerator=false
 nd:N.Nodup
 pre:N.take P.length=P
 par:∀x∈P,sc.names.lookup x=some .local\/sc.names.lookup x=some .cell
 nofree:∀y∈sc.names,y.2≠.free
theorem yT5{kindOf:Str->Option NameKind}{x:Str}:∀{binds:List (Str×Value)}{m:B9},(∀v,(x,v)∉binds)->bindL kindOf binds m x=m x
 |[],_,_=>rfl
 |(n,v)::r,m,h=>by
  unfold bindL;rw[yT5 fun w hw=>h w (Ak _ hw)];split;have:x≠n:=by rintro rfl;exact h v Af
  simp[this];rfl
theorem yW3{kindOf:Str->Option NameKind}{x:Str}:∀{binds:List (Str×Value)}{m:B9},(∀v,(x,v)∉binds)->bindC kindOf binds m x=m x
 |[],_,_=>rfl
 |(n,v)::r,m,h=>by
  unfold bindC;rw[yW3 fun w hw=>h w (Ak _ hw)];split;rfl;have:x≠n:=by rintro rfl;exact h v Af
  simp[this]
theorem yX7{kindOf:Str->Option NameKind}{x:Str}{v:Value}:∀{P:C4}{vs:C3}{i:Nat}{m:B9},P.Nodup->P[i]?=some x->vs[i]?=some v->kindOf x=some .local ->bindL kindOf (P.zip vs) m x=some v
 |[],_,_,_,_,h,_,_=>by simp at h
 |_::_,[],_,_,_,_,h,_=>by simp at h
 |p::P,w::vs,0,m,nd,h1,h2,hk=>by simp at h1 h2;subst h1;subst h2;show bindL kindOf ((p,w)::P.zip vs) m p=_;unfold bindL;rw[yT5 fun v hv=>(BD.mp nd).1 (Ec hv).1,Ae hk];simp
 |p::P,w::vs,i+1,m,nd,h1,h2,hk=>by show bindL kindOf ((p,w)::P.zip vs) m x=_;unfold bindL;exact yX7 (i:=i) (BD.mp nd).2 (by simpa using h1) (by simpa using h2) hk
theorem yW4{kindOf:Str->Option NameKind}{x:Str}{v:Value}:∀{P:C4}{vs:C3}{i:Nat}{m:B9},P.Nodup->P[i]?=some x->vs[i]?=some v->kindOf x≠some .local ->bindC kindOf (P.zip vs) m x=some v
 |[],_,_,_,_,h,_,_=>by simp at h
 |_::_,[],_,_,_,_,h,_=>by simp at h
 |p::P,w::vs,0,m,nd,h1,h2,hk=>by simp at h1 h2;subst h1;subst h2;show bindC kindOf ((p,w)::P.zip vs) m p=_;unfold bindC;rw[yW3 fun v hv=>(BD.mp nd).1 (Ec hv).1,An hk];simp
 |p::P,w::vs,i+1,m,nd,h1,h2,hk=>by show bindC kindOf ((p,w)::P.zip vs) m x=_;unfold bindC;exact yW4 (i:=i) (BD.mp nd).2 (by simpa using h1) (by simpa using h2) hk
def start(N:C4)(vs:C8):St:=vs.map some++List.replicate (N.length-vs.length) none
def cxOf(CX:CXT)(P:Program)(w:World)(K:KFr)(mg:B9)(base:Heap)(N:C4)(qual:Str)(scope:Scope)(f:Addr)(cd:Value)(A:Around)(outer:List Env)(s:Shared)(H:Hp)(E:XK):Cx where
 prog:=P
 w:=w
 K:=K
 mg:=mg
 base:=base
 A:=A.deeper (envOfC qual scope s.heap.objs.size f cd)
 N:=N
 s₀:=s
 H₀:=H
 env:=envOfC qual scope s.heap.objs.size f cd
 outer:=outer
 stack:=envOfC qual scope s.heap.objs.size f cd::outer
 ex:=[]
 calm:=true
 fn:=fun _=>true
 pn:=[]
 xe:=fun e s'=>wpAny (model P w) (A.deeper (envOfC qual scope s.heap.objs.size f cd)) (leaving (envOfC qual scope s.heap.objs.size f cd) e) (fun _ s''=>CX outer H s E e s'') (fun e' s''=>CX outer H s E e' s'') s'
theorem yJ8{n:Nat}{x:Str}(h:sc.names.lookup x=some .cell):∃c,(cellsFrom n sc.names []).lookup x=some c:=by have q:=DH sc.names n [] (.inl h);exact Option.isSome_iff_exists.mp q
theorem yU8{CX:CXT}{w:World}{K:KFr}{mg:B9}{base:Heap}{N:C4}{f:Addr}{cd:Value}{A:Around}{outer:List Env}{s1:Shared}{E:XK}(S:vK N ps scope)(hd:A.handled=none)(e0:Env0 P w K mg base A outer s H)(hl:vs.length=ps.length)(r:Vals vs us)(x:InCallC s s.heap.objs.size (bindL (envOfC qual scope s.heap.objs.size f cd).kindOf (ps.zip us) fun _=>none) (cellsFrom (s.heap.objs.size+1) scope.names []) (bindC (envOfC qual scope s.heap.objs.size f cd).kindOf (ps.zip us) fun _=>none) s1):Inv (cxOf CX P w K mg base N qual scope f cd A outer s H E) [] (start N vs) H s1:=by
 have hpl:ps.length<=N.length:=by have:=By List.length S.pre;rw[BF]at this;rfl'
 obtain⟨h1,tk,rfl,hk⟩:=x.done;have noA:∀b:Addr,b∉(cxOf CX P w K mg base N qual scope f cd A outer s H E).ex:=fun b z=>absurd (show b∈([]:C9)from z) (by simp);refine⟨⟨e0.mod,S.kind,rfl,rfl,Ac _,fun y z c h1 h2=>?_,fun y hy=>?_,fun y c _ h=>?_,fun _=>hd,Around.frames_deeper e0.frames,.inr ⟨rfl,rfl⟩,fun b z=>absurd z (noA b),e0.bs,e0.bsz,fun b _ _=>noA b,fun b z=>absurd z (noA b),e0.funs,e0.frf⟩,
  rfl,e0.bare,Un.kept hk,⟨_,x.toInCall.ns,fun i y v h1 h2 h3=>?_⟩,fun y c h=>⟨_,x.cell y c h⟩,e0.hok.fresh (Ac _),fun y c h=>?_,fun p hp=>absurd (show p∈([]:A9)from hp) (by simp),e0.hok.kept hk,?_⟩
 exact name_of_addr x.apart (Bc h1) (Bc h2);have hy:scope.names.lookup y=some .cell\/scope.names.lookup y=some .free:=hy;rcases hy with hy|hy;exact yJ8 hy;exact absurd rfl (S.nofree _ (Bc hy));exact BL (x.above y c (Bc h));have hi:i<vs.length:=by unfold start at h2;by_cases hi:i<vs.length;exact hi;rw[Cu (by simpa using hi)]at h2;rw[CS]at h2;split at h2<;>cases h2
 have ha:vs[i]?=some v:=by
  unfold start at h2;rw[Ch (by simpa using hi),Al]at h2;cases e:vs[i]? with
  |none=>rw[e]at h2;cases h2
  |some a=>rw[e]at h2;cases h2;rfl
 obtain⟨u,hu,rv⟩:=r.get ha;have hp:ps[i]?=some y:=by rw[<-S.pre,List.getElem?_take_of_lt (by rfl')];exact h1
 have ndP:ps.Nodup:=by rw[<-S.pre];exact S.nd.sublist (List.take_sublist _ _)
 refine⟨u,rv,?_⟩;rcases S.par y (AR hp)with k|k;exact .inl ⟨k,yX7 ndP hp hu k⟩;obtain⟨c,e⟩:=yJ8 (n:=s.heap.objs.size+1) k;refine .inr ⟨.inl k,c,e,?_⟩;have q:=x.cell y c e;rw[yW4 ndP hp hu (by show scope.names.lookup y≠_;rw[k];decide)]at q;exact q;exact e0.hok.fresh (BL (x.above y c (Bc h)));unfold start;show _=N.length;rw[Aj,Aa,Bz];rfl'
theorem yQ2{CX:CXT}{w:World}{K:KFr}{mg:B9}{base:Heap}{k:Nat}{f:Addr}{params:Arguments}{dV kV ct:Value}{an:Option Addr}{osl:Array (Option Value)}{N ps:C4}{sp:Sp}(lk:K.lookup f=some ⟨oc,od,.func (PySem.W.fnOf name qual params body scope dV kV doc pm an cdv ct),osl⟩)(hcd:PySem.W.codeIn K cdv qual=true)(S:vK N ps scope)(len:∀vs H Q E,sp vs H Q E->vs.length=ps.length)(hbody:∀(A:Around)(outer:List Env)(s:Shared)(H:Hp)(vs:C8)(Q:VK)(E:XK),Room k (A.deeper (envOfC qual scope s.heap.objs.size f cdv))->sp vs H Q E ->∃t,PSs (cxOf CX P w K mg base N qual scope f cdv A outer s H E) body t/\t {nx:=fun _ H'=>Q .non H',rt:=Q} (start N vs) H):FnOk P w K mg base CX (k+1) f (PySem.W.fnOf name qual params body scope dV kV doc pm an cdv ct) ps sp:=by
 refine⟨len,fun A outer s H args us vs Q E hr e0 hb r hsp=>?_⟩;have hl:=len _ _ _ _ hsp;have KX:K.In s.heap:=e0.mod.kin.keeps fun b o e=>(e0.bs b o e).1;have lim:s.heap.NoLimit:=e0.mod.nolimit.keeps fun b o e=>(e0.bs b o e).1;have hkind:∀y∈ps.zip us,scope.names.lookup y.1=some .local\/(scope.names.lookup y.1=some .cell/\((cellsFrom (s.heap.objs.size+1) scope.names []).lookup y.1).isSome=true):=fun⟨n,v⟩hy=>by rcases S.par n (Ec hy).1 with q|q;exact .inl q;exact .inr ⟨q,DH _ _ _ (.inl q)⟩
 refine codeAny_call_function hr.depth (KX _ _ lk) rfl S.co S.gen rfl (PySem.W.codeRec_of KX hcd) (hb _ _ _ _ ?_);refine wpAny_newFunctionEnv_cells S.kind hkind fun env he s1 x=>?_;subst he;refine⟨lim.keeps x.toInCall.keep,codeAny_func ?_⟩;obtain⟨t,ht,hq⟩:=hbody A outer s H vs Q E (hr.deeper _) hsp;have I:Inv (cxOf CX P w K mg base N qual scope f cdv A outer s H E) [] (start N vs) H s1:=yU8 S hr.hd e0 hl r x;refine wpAny_mono (ht [] s1 (start N vs) H _ I hq) (fun fl s' hs=>?_) fun e s' hs=>hs;have fin:∀{σ':St}{H':Hp}{v:V}{u:Value},Inv (cxOf CX P w K mg base N qual scope f cdv A outer s H E) [] σ' H' s'->RelV v u->Q v H'->CE outer P w H s Q u s':=fun{σ' H' v u}J rv q=>⟨v,H',J.os,J.bare,J.base,J.hok,rv,q⟩;cases fl with
 |ret u=>obtain⟨v,σ',H',J,rv,q⟩:=hs;exact fin J rv q
 |next=>obtain⟨σ',H',J,q⟩:=hs;exact fin (v:=V.non) (u:=Value.none) J rfl q
 |brk=>obtain⟨_,_,_,q⟩:=hs;exact False.elim q
 |cont=>obtain⟨_,_,_,q⟩:=hs;exact False.elim q
section
variable {X:Cx}{x:Str}{p pos:Pos}{e:Expr}{es:C7}{t:TA}{id T:String}{r:List V->Hp->VK->Prop}
def tCB(r:List V->Hp->VK->Prop)(t:TA):TE:=fun σ H Q=>t σ H fun vs H1=>r vs H1 Q
theorem zI2(hc:CallR X (.builtin id) r)(hg:Gl X x)(hm:X.mg x=none)(hv:bootBuiltins x=some (.builtin id))(ha:PA X (e::es) t)(hn:autoParam (x≠"__name__") Ex)(hdb:autoParam ((x==("__debug__":Str))=false) Ex)(he:autoParam (starEach (e::es) X.env=(false,eval e X.env)::starEach es X.env) Ey)(hpl:autoParam ((backTo pos (starEach es X.env)).any (·.1)=false) Ey):PE X (.Call (.Name x p) (e::es) [] pos) (tCB r t):=by intro EA s σ H Q I h;refine wpAny_Call_Name_kw (aE I hg hm hv ?_ hn hdb);exact PyProof.Rows.callWith_builtin1 (thn (ha pos EA s σ H _ I h) fun us s1⟨vs,H1,I1,r1,q1⟩=>hc EA s1 σ H1 vs us Q I1 r1 q1) he hpl
theorem dU(hc:CallR X (.type T) r)(hg:Gl X x)(hm:X.mg x=none)(hv:bootBuiltins x=some (.type T))(ha:PA X (e::es) t)(hn:autoParam (x≠"__name__") Ex)(hdb:autoParam ((x==("__debug__":Str))=false) Ex)(he:autoParam (starEach (e::es) X.env=(false,eval e X.env)::starEach es X.env) Ey)(hpl:autoParam ((backTo pos (starEach es X.env)).any (·.1)=false) Ey):PE X (.Call (.Name x p) (e::es) [] pos) (tCB r t):=by intro EA s σ H Q I h;refine wpAny_Call_Name_kw (aE I hg hm hv ?_ hn hdb);exact Ce (thn (ha pos EA s σ H _ I h) fun us s1⟨vs,H1,I1,r1,q1⟩=>hc EA s1 σ H1 vs us Q I1 r1 q1) he hpl
end
end L2
variable {H H' H1 H0:L2.Hp}{ta te:L2.TE}{σ:L2.St}{g:L2.TG}{vs:C8}{wi:L2.TI}{r':L2.R2}{kvs:List (List L2.Key×L2.V)}
namespace HT
open PySem PyProof.Rows
section
open PySem.SeqAt
open PySem.AutoSeq1 (wpAny_loadPart')
open PySem.MeetsSeq PySem.MeetsSeq2 PySem.MeetsSeq3
end
section
variable {prog:Program}{w:World}{A:Around}{E:A8}{s:Shared}
def sIx(n d:Nat):Option Int->Nat
 |none=>d
 |some v=>if v<0 then(v+(n:Int)).toNat else min v.toNat n
theorem wX8(n d:Nat):sIx n d none=d:=rfl
theorem yZ8(n d k:Nat):sIx n d (some (k:Int))=min k n:=by show(if (k:Int)<0 then((k:Int)+(n:Int)).toNat else min (k:Int).toNat n)=min k n;rw[An (by rfl'),AX]
theorem wC4(n d:Nat)(hd:d<=n)(o:Option Int):sIx n d o<=n:=by
 cases o with
 |none=>exact hd
 |some v=>show(if v<0 then(v+(n:Int)).toNat else min v.toNat n)<=n;by_cases hv:v<0;rw[Ae hv];rfl';rw[An hv];exact Nat.min_le_right _ _
theorem yA7(v:Int)(n d:Nat):(if v<0 then max (v+(n:Int)) 0 else min v (n:Int))=((sIx n d (some v):Nat):Int):=by show(if v<0 then max (v+(n:Int)) 0 else min v (n:Int))=(((if v<0 then(v+(n:Int)).toNat else min v.toNat n):Nat):Int);by_cases hv:v<0;simp only[Ae hv];rfl';simp only[An hv];rfl'
theorem xR9(lo hi:Option Int)(n:Nat):Builtin.Slice.sliceAdjust lo hi 1 (n:Int)=(((sIx n 0 lo:Nat):Int),((sIx n n hi:Nat):Int)):=by
 have h1:¬((1:Int)<0):=by rfl'
 unfold Builtin.Slice.sliceAdjust;simp only[h1,if_false];refine Prod.ext ?_ ?_;cases lo with
 |none=>rfl
 |some v=>exact yA7 v n 0
 cases hi with
 |none=>rfl
 |some v=>exact yA7 v n n
theorem xQ1(i j:Nat):Builtin.Slice.slicePlaces (i:Int) (j:Int) 1=j-i:=by
 unfold Builtin.Slice.slicePlaces;have h1:(1:Int)>0:=by rfl'
 simp only[h1,if_true,Int.ediv_one];split<;>rfl'
theorem zG5{v:Value}{o:Option Int}{Q:Option Int->Shared->Prop}(p:IsPart v o)(h:Q o s):wpAny (model prog w) A (Builtin.Slice.slicePartIndex v) Q E s:=by
 cases p with
 |none=>exact slicePart_none h
 |int i t=>exact slicePart_int h
theorem bV{sl:Addr}{vl vu:Value}{lo:Option Int}{n:Nat}{Q:Int×Int×Nat->Shared->Prop}(hs:s.heap.IsSliceOf sl vl vu .none)(pl:IsPart vl lo)(pu:IsPart vu hi)(h:Q (((sIx n 0 lo:Nat):Int),1,sIx n n hi-sIx n 0 lo) s):wpAny (model prog w) A (Builtin.Slice.sliceApplied (.ref sl) (pure (n:Int))) Q E s:=by obtain⟨os,hos,hcs,hds⟩:=id hs;unfold Builtin.Slice.sliceApplied Builtin.Slice.sliceFields;refine Ai (Ai (wpAny_field hos hds (x:=vl) rfl (Ai (wpAny_field hos hds (x:=vu) rfl (Ai (wpAny_field hos hds (x:=.none) rfl (AK ?_)))))));refine Ai (slicePart_none ?_);show wpAny _ _ (if ((1:Int)==0)=true then _ else _) _ _ s;rw[An (by decide)];refine Ai (zG5 pl (Ai (zG5 pu (Ai (AK ?_)))));show wpAny _ _ (match Builtin.Slice.sliceAdjust lo hi 1 (n:Int)with|(lo,hi)=>pure (lo,(1:Int),Builtin.Slice.slicePlaces lo hi 1)) _ _ s;rw[xR9 lo hi n];show wpAny _ _ (pure (((sIx n 0 lo:Nat):Int),(1:Int),Builtin.Slice.slicePlaces ((sIx n 0 lo:Nat):Int) ((sIx n n hi:Nat):Int) 1)) _ _ s;rw[xQ1];exact AK h
theorem wV8(xs:Array Value)(i k:Nat):((List.range k).filterMap fun(m:Nat)=>xs[((i:Int)+(m:Int)*1).toNat]?).toArray=((xs.toList.drop i).take k).toArray:=by
 have e:(fun(m:Nat)=>xs[((i:Int)+(m:Int)*1).toNat]?)=fun m=>xs[i+m]?:=by
  funext m;have:((i:Int)+(m:Int)*1).toNat=i+m:=by rfl'
  rw[this]
 rw[e];have:=pick_run xs i k;rw[List.filterMap_map]at this;have e2:((fun x=>xs[x]?)∘fun x=>i+x)=fun m=>xs[i+m]?:=rfl;rw[e2]at this;rw[this]
theorem zN5{t sl:Addr}{items:Array Value}{vl vu:Value}{lo:Option Int}(ht:IsTup s.heap t items)(hs:s.heap.IsSliceOf sl vl vu .none)(pl:IsPart vl lo)(pu:IsPart vu hi)(hw:¬(sIx items.size 0 lo=0/\sIx items.size items.size hi=items.size))(h:Q (.ref s.heap.objs.size) {s with heap:=s.heap.push {cls:=.type "tuple",data:=.seq ((items.toList.drop (sIx items.size 0 lo)).take (sIx items.size items.size hi-sIx items.size 0 lo)).toArray}})(hsz:items.size<=sizeLine):wpAny (model prog w) A (getItem (.ref t) (.ref sl)) Q E s:=by
 have htake:sizeOk (.seq ((items.toList.drop (sIx items.size 0 lo)).take (sIx items.size items.size hi-sIx items.size 0 lo)).toArray):=by show((items.toList.drop (sIx items.size 0 lo)).take (sIx items.size items.size hi-sIx items.size 0 lo)).toArray.size<=sizeLine;rw[Av,BF,Bs,BW];rfl'
 have hj:sIx items.size items.size hi<=items.size:=wC4 _ _ (Ac _) hi;obtain⟨os,hos,hcs,hds⟩:=id hs;have hTs:s.TypeIs (.ref sl) "slice":=⟨os,hos,hcs⟩;unfold getItem;try with_reducible refine wpAny_holding ?_
 first|refine Ai (AK ?_)|skip
 refine Ai (wpAny_sequenceKey ht.typeIs (by decide) ?_);refine Ai (wpAny_callSpecial?_slot (name:=Str.ofString "__getitem__") ht.typeIs Cg (wpAny_call_entry Cg ht.typeIs entry_tuple_getitem ?_ (args_tuple_getitem _ _)));show wpAny _ _ (Builtin.Tuple.tupleItemsOf (.ref t)>>=_) _ _ s;refine Ai (tupleItemsOf_ ht ?_);refine Ai (wpAny_typeOf hTs ?_);rw[Ae (by decide)];refine Ai (bV hs pl pu ?_);have hno:¬((((sIx items.size 0 lo:Nat):Int)==0&&(1:Int)==1&&(sIx items.size items.size hi-sIx items.size 0 lo)==items.size)=true):=by intro q;rw[AL,AL]at q;have q1:((sIx items.size 0 lo:Nat):Int)=0:=eq_of_beq q.1.1;have q2:sIx items.size items.size hi-sIx items.size 0 lo=items.size:=eq_of_beq q.2;exact hw ⟨by rfl',by rfl'⟩
 show wpAny _ _ (if (((sIx items.size 0 lo:Nat):Int)==0&&(1:Int)==1&&(sIx items.size items.size hi-sIx items.size 0 lo)==items.size)=true then _ else _) _ _ s;rw[An hno,wV8];first
  |exact Ai (m:=Builtin.Tuple.tupleExact _) (wpAny_newObj_type (AK ⟨_,rfl,AK h⟩) htake)
  |exact Ai (m:=Builtin.Tuple.tupleExact _) (wpAny_newObj_type (Ai (AK (AK ⟨_,rfl,AK h⟩))) htake)
  |exact Ai (Ai (m:=Builtin.Tuple.tupleExact _) (wpAny_newObj_type (AK (AK ⟨_,rfl,AK h⟩)) htake))
  |exact Ai (Ai (m:=Builtin.Tuple.tupleExact _) (wpAny_newObj_type (AK ⟨_,rfl,AK h⟩) htake))
end
end HT
namespace L2
open PySem PySem.Spec PyProof.Rows
abbrev TO:=St->Hp->(Option Int->Hp->Prop)->Prop
def PO(X:Cx)(e:Option Expr)(t:TO):Prop:=∀(EA:A9)(s:Shared)(σ:St)(H:Hp)(Q:Option Int->Hp->Prop),Inv X EA σ H s->t σ H Q ->wpAny (model X.prog X.w) X.A (evalPart e X.env) (fun u s'=>∃o H',Inv X EA σ H' s'/\IsPart u o/\Q o H') X.xe s
def tNoPart:TO:=fun _ H Q=>Q none H
def tPart(t:TE):TO:=fun σ H Q=>t σ H fun x H1=>∃i,x=.int i/\Q (some i) H1
theorem dF{ns:C6}:∀{us:C3},Vals (ns.map V.int) us->IntsAre us ns:=by
 induction ns with
 |nil=>intro us r;rw[Dc]at r;cases r;exact .nil
 |cons n ns ih=>
  intro us r;rw[AB]at r;cases r with
  |cons r1 r2=>obtain⟨t,e⟩:=r1;subst e;exact .cons n t (ih r2)
section
variable {X:Cx}{e:Expr}{te:TE}{lo hi:Option Expr}{tl th:TO}{pos p2:Pos}
theorem wO1:PO X none tNoPart:=by intro EA s σ H Q I h;rw[evalPart_none];exact AK ⟨none,H,I,.none,h⟩
theorem wR7(h:PE X e te):PO X (some e) (tPart te):=by intro EA s σ H Q I hw;rw[evalPart_some];refine thn (h EA s σ H _ I hw) fun u s1⟨x,H1,I1,r1,q1⟩=>?_;obtain⟨i,rfl,q⟩:=q1;obtain⟨t,rfl⟩:=r1;exact⟨some i,H1,I1,.int i t,q⟩
def SlR(X:Cx)(r:V->Option Int->Option Int->Hp->VK->Prop):Prop:=∀(EA:A9)(s:Shared)(σ:St)(H:Hp)(x:V)(v vl vu:Value)(lo hi:Option Int)(sl:Addr)(Q:VK),Inv X EA σ H s->RelV x v->s.heap.IsSliceOf sl vl vu .none->IsPart vl lo->IsPart vu hi->r x lo hi H Q ->∃T id,typeLookup (.type T) "__getitem__"=pure (some (.builtin id))/\s.TypeIs v T/\wpAny (model X.prog X.w) X.A (getItem v (.ref sl)) (EP X EA σ Q) X.xe s
theorem SlR.or{r r':V->Option Int->Option Int->Hp->VK->Prop}(h:SlR X r)(h':SlR X r'):SlR X (fun x lo hi H Q=>r x lo hi H Q\/r' x lo hi H Q):=by intro EA s σ H x v vl vu lo hi sl Q I rx hs pl pu q;rcases q with q|q;exact h EA s σ H x v vl vu lo hi sl Q I rx hs pl pu q;exact h' EA s σ H x v vl vu lo hi sl Q I rx hs pl pu q
def tSl(r:V->Option Int->Option Int->Hp->VK->Prop)(te:TE)(tl th:TO):TE:=fun σ H Q=>te σ H fun x H1=>tl σ H1 fun l H2=>th σ H2 fun u H3=>r x l u H3 Q
theorem xB9{r:V->Option Int->Option Int->Hp->VK->Prop}(hr:SlR X r)(he:PE X e te)(hl:PO X lo tl)(hu:PO X hi th):PE X (.Subscript e (.Slice lo hi none p2) pos) (tSl r te tl th):=by intro EA s σ H Q I h;refine Subscript_ (thn (he EA s σ H _ I h) fun v s1⟨x,H1,I1,r1,q1⟩=>?_);refine wpAny_Slice (thn (hl EA s1 σ H1 _ I1 q1) fun vl s2⟨l,H2,I2,pl,q2⟩=>thn (hu EA s2 σ H2 _ I2 q2) fun vu s3⟨u,H3,I3,pu,q3⟩=>?_);rw[evalPart_none];refine AK ?_;have I4:Inv X EA σ H3 {s3 with heap:=s3.heap.push {cls:=.type "slice",data:=.fields #[vl,vu,.none]}}:=I3.kept (t':=s3.toks) fun b ob q=>Am _ q;obtain⟨T,id,hT,ht,hg⟩:=hr EA {s3 with heap:=s3.heap.push {cls:=.type "slice",data:=.fields #[vl,vu,.none]}} σ H3 x v vl vu l u s3.heap.objs.size Q I4 r1 (Heap.IsSliceOf.new ..) pl pu q3;show wpAny (model X.prog X.w) X.A (subscriptTail e (.Slice lo hi none p2) v (.ref s3.heap.objs.size)) (EP X EA σ Q) X.xe {s3 with heap:=s3.heap.push {cls:=.type "slice",data:=.fields #[vl,vu,.none]}};exact tail_any (ops:=[.ref s3.heap.objs.size,v]) ht hT hg (by with_unfolding_all rfl)
def cutV(xs:C8)(lo hi:Option Int):C8:=(xs.drop (HT.sIx xs.length 0 lo)).take (HT.sIx xs.length xs.length hi-HT.sIx xs.length 0 lo)
theorem zL2(xs:C8)(lo hi:Option Int):(cutV xs lo hi).length<=xs.length:=by unfold cutV;rw[BF,Bs];rfl'
def rSlT(K:KFr):V->Option Int->Option Int->Hp->VK->Prop:=fun x lo hi H Q=>∃a xs,x=.ref a/\SqT K H a xs /\¬(HT.sIx xs.length 0 lo=0/\HT.sIx xs.length xs.length hi=xs.length)/\∀p,H p=none->Q (.ref p) (upd H p (.tup (cutV xs lo hi)))
theorem wA1:SlR X (rSlT X.K):=by
 intro EA s σ H x v vl vu lo hi sl Q I rx hs pl pu h;obtain⟨a,xs,rfl,hx,hw,q⟩:=h;cases rx;obtain⟨its,r,ht,hz⟩:=I.tuple hx;have hlen:its.toArray.size=xs.length:=by rw[Av];exact r.length.symm
 refine⟨"tuple",_,Cg.lookup,ht.typeIs,?_⟩;refine HT.zN5 ht hs pl pu (by rw[hlen];exact hw) ?_ (by rw[hlen];exact hz);rw[hlen];refine⟨.ref s.heap.objs.size,_,I.laid (t':=s.toks) (o:=.tup (cutV xs lo hi)) (fun b ob q=>Am _ q) (Ac _) ?_,rfl,q _ (I.hok.fresh (Ac _))⟩;exact⟨As (zL2 xs lo hi) hz,_,(r.drop (HT.sIx xs.length 0 lo)).take (HT.sIx xs.length xs.length hi-HT.sIx xs.length 0 lo),TupAt.new _ _⟩
end
def ixN(n:Nat)(i:Int):Option Nat:=if 0<=i then(if i<n then some i.toNat else none)else if -(n:Int)<=i then some (i+n).toNat else none
def atI{α:Type}(xs:List α)(i:Int):Option α:=(ixN xs.length i).bind fun j=>xs[j]?
theorem xV1{n:Nat}{i:Int}{j:Nat}(h:ixN n i=some j):seqIndex? i n=some j/\j<n/\-(n:Int)<=i/\i<n:=by unfold ixN at h;by_cases h0:0<=i;rw[Ae h0]at h;by_cases h1:i<n;rw[Ae h1]at h;have e:i.toNat=j:=Ba h;exact⟨by rw[seqIndex_of h0 h1,e],by rfl',by rfl',h1⟩;rw[An h1]at h;cases h;rw[An h0]at h;by_cases h1:-(n:Int)<=i;rw[Ae h1]at h;have e:(i+n).toNat=j:=Ba h;exact⟨by rw[seqIndex_neg (by rfl') h1,e],by rfl',h1,by rfl'⟩;rw[An h1]at h;cases h
theorem zN1{α:Type}{xs:List α}{i:Int}{v:α}(h:atI xs i=some v):∃j,seqIndex? i xs.length=some j/\xs[j]?=some v/\j<xs.length/\-(xs.length:Int)<=i/\i<xs.length:=by
 unfold atI at h;cases e:ixN xs.length i with
 |none=>rw[e]at h;cases h
 |some j=>rw[e]at h;obtain⟨h1,h2,h3,h4⟩:=xV1 e;exact⟨j,h1,h,h2,h3,h4⟩
theorem jT{α:Type}{xs:List α}{j:Nat}{v:α}(h:xs[j]?=some v):atI xs (j:Int)=some v:=by
 have hj:j<xs.length:=(AD.mp h).1;have e:ixN xs.length (j:Int)=some j:=by unfold ixN;rw[Ae (by rfl'),Ae (by rfl')];simp
 unfold atI;rw[e];exact h
theorem wV1{α:Type}(xs:List α)(v:α):atI (xs++[v]) (-1)=some v:=by
 have hl:(xs++[v]).length=xs.length+1:=by simp
 have e:ixN (xs++[v]).length (-1)=some xs.length:=by unfold ixN;rw[hl,An (by decide),Ae (by rfl')];congr 1;rfl'
 unfold atI;rw[e];show(xs++[v])[xs.length]?=some v;simp
def PlainIx(b:Expr):Prop:=∀o i,subscripted b false o i=operate [o,i] (getItem o i)
def IxR(X:Cx)(r:R2):Prop:=∀(value slice:Expr)(EA:A9)(s:Shared)(σ:St)(H:Hp)(x y:V)(v u:Value)(Q:VK),Inv X EA σ H s->RelV x v->RelV y u->r x y H Q ->subscripted slice false v u=operate [v,u] (getItem v u)->wpAny (model X.prog X.w) X.A (subscriptTail value slice v u) (EP X EA σ Q) X.xe s
def MtR(X:Cx)(id:String)(r:V->List V->Hp->VK->Prop):Prop:=∀(EA:A9)(s:Shared)(σ:St)(H:Hp)(x:V)(xs:C8)(v:Value)(us:C3)(Q:VK),Inv X EA σ H s->RelV x v->Vals xs us->r x xs H Q ->wpAny (model X.prog X.w) X.A (call (.builtin id) (v::us)) (EP X EA σ Q) X.xe s
section
variable {X:Cx}{a b:Expr}{ta tb:TE}{pos:Pos}
theorem IxR.or{r:R2}(h:IxR X r)(h':IxR X r'):IxR X (fun x y H Q=>r x y H Q\/r' x y H Q):=by intro value slice EA s σ H x y v u Q I rx ry q hs;rcases q with q|q;exact h value slice EA s σ H x y v u Q I rx ry q hs;exact h' value slice EA s σ H x y v u Q I rx ry q hs
theorem wU5{r:R2}(hr:IxR X r)(ha:PE X a ta)(hb:PE X b tb)(hs:PlainIx b):PE X (.Subscript a b pos) (tOp r ta tb):=by intro EA s σ H Q I h;exact Subscript_ (binT ha hb I h fun v u s2 x y H2 I2 rx ry q=>hr a b EA s2 σ H2 x y v u Q I2 rx ry q (hs _ _))
def rIxL(K:KFr):R2:=fun x y H Q=>∃p xs i v,x=.ref p/\y=.int i/\SqL K H p xs/\atI xs i=some v/\Q v H
def rIxT(K:KFr):R2:=fun x y H Q=>∃p xs i v,x=.ref p/\y=.int i/\SqT K H p xs/\atI xs i=some v/\Q v H
def rIxS:R2:=fun x y H Q=>∃z i c,x=.str z/\y=.int i/\z.length<=sizeLine/\atI z.cps.toList i=some c/\Q (.str ⟨#[c]⟩) H
theorem wO5:IxR X (rIxL X.K):=by
 intro value slice EA s σ H x y v u Q I rx ry h hs;obtain⟨p,xs,i,z,rfl,rfl,hq,he,q⟩:=h;cases rx;obtain⟨t,rfl⟩:=ry;obtain⟨its,r,pl,hz⟩:=I.list hq;obtain⟨j,h1,h2,h3,h4,h5⟩:=zN1 he;obtain⟨w,ew,rw'⟩:=r.get h2;have hl:=r.length;have hn:=line63;have fin:EP X EA σ Q w s:=⟨z,H,I,rw',q⟩;by_cases h0:0<=i;have hj:i.toNat=j:=by rw[seqIndex_of h0 h5]at h1;exact Ba h1
 exact item_listR pl.isList h0 (by rfl') (by rw[hj];simpa using ew) fin hs;have hj:(i+(its.toArray.size:Int)).toNat=j:=by rw[seqIndex_neg (by rfl') h4]at h1;rw[Av,<-hl];exact Ba h1
 exact subscriptTail_builtinR (x:=w) pl.isList.typeIs slot_list_getitem.lookup (wpAny_getItem_list_neg (Q:=fun r s'=>r=w/\EP X EA σ Q r s') pl.isList (by rfl') (by rw[Av]<;>rfl') (by rfl') (by rw[hj];simpa using ew) ⟨rfl,fin⟩) hs
theorem xD1:IxR X (rIxT X.K):=by intro value slice EA s σ H x y v u Q I rx ry h hs;obtain⟨p,xs,i,z,rfl,rfl,hq,he,q⟩:=h;cases rx;obtain⟨t,rfl⟩:=ry;obtain⟨its,r,pl,hz⟩:=I.tuple hq;obtain⟨j,h1,h2,h3,h4,h5⟩:=zN1 he;obtain⟨w,ew,rw'⟩:=r.get h2;have hl:=r.length;have hn:=line63;have fin:EP X EA σ Q w s:=⟨z,H,I,rw',q⟩;exact subscriptTail_builtinR (x:=w) pl.typeIs slot_tuple_getitem.lookup (getItem_tuple (j:=j) (Q:=fun r s'=>r=w/\EP X EA σ Q r s') pl (by rfl') (by rfl') (by rw[Av,<-hl];exact h1) (by simpa using ew) ⟨rfl,fin⟩) hs
theorem xN2:IxR X rIxS:=by
 intro value slice EA s σ H x y v u Q I rx ry h hs;obtain⟨z,i,c,rfl,rfl,hz,he,q⟩:=h;obtain⟨t,rfl⟩:=rx;obtain⟨t',rfl⟩:=ry;obtain⟨j,h1,h2,h3,h4,h5⟩:=zN1 he;have hl:z.cps.toList.length=z.length:=by simp[Str.length]
 rw[hl]at h1 h4 h5;have hn:=line63;exact tail_any (typeIs_str s z t) slot_str_getitem.lookup (getItem_str (c:=c) (by have e1:decide (i< -(2^63:Int))=false:=Ad (by rfl');have e2:decide (i≥2^63)=false:=Ad (by rfl');rw[e1,e2,Bool.or_false]) (by rw[h1];simpa using h2) ⟨.str ⟨#[c]⟩,H,I.tok _,⟨_,rfl⟩,q⟩) hs
def rIx(K:KFr):R2:=fun x y H Q=>rIxL K x y H Q\/rIxT K x y H Q\/rIxS x y H Q
theorem zF:IxR X (rIx X.K):=wO5.or (xD1.or xN2)
theorem xT3(its:C3)(n j:Nat)(u:Value):Obj.mapSeq (·.setIfInBounds j u) {cls:=.type "list",data:=.seq its.toArray n}={cls:=.type "list",data:=.seq (its.set j u).toArray n}:=by simp[Obj.mapSeq]
theorem Inv.lst{p:Addr}{xs:C8}(I:Inv X EA σ H s)(h:H p=some (.lst xs)):∃(its:C3)(n:Nat),Vals xs its/\s.heap.get? p=some {cls:=.type "list",data:=.seq its.toArray n}/\xs.length<=sizeLine:=by obtain⟨z,its,n,r,e⟩:=I.hok p _ h;exact⟨its,n,r,e,z⟩
theorem Inv.lstUpd{p:Addr}{xs ys:C8}{its its':C3}{n n':Nat}{f:Obj->Obj}(I:Inv X EA σ H s)(h:H p=some (.lst xs)) (ho:s.heap.get? p=some {cls:=.type "list",data:=.seq its.toArray n}) (hf:f {cls:=.type "list",data:=.seq its.toArray n}={cls:=.type "list",data:=.seq its'.toArray n'}) (r:Vals ys its') (hz:ys.length<=sizeLine) (t:Nat):Inv X EA σ (upd H p (.lst ys)) {s with heap:=s.heap.update p f,toks:=t}:=by
 have e:(s.heap.update p f).get? p=some {cls:=.type "list",data:=.seq its'.toArray n'}:=by rw[Bp f ho (by rw[hf]<;>rfl),hf]
 refine I.write (x:=p) (e:=p) (by rw[h];trivial) (.inl rfl) (fun b u hb q=>(AS _ _ (Bv hb)).trans q) ⟨_,e⟩ ?_;exact⟨hz,its',n',r,e⟩
def rSetL:V->V->V->Hp->(Hp->Prop)->Prop:=fun o i v H Q=>∃p xs k j,o=.ref p/\i=.int k/\H p=some (.lst xs)/\ixN xs.length k=some j/\Q (upd H p (.lst (xs.set j v)))
theorem yL9:PSet X rSetL:=by
 intro EA s σ H o i v ov iv u Q I ro ri rv h;obtain⟨p,xs,k,j,rfl,rfl,hp,hj,q⟩:=h;cases ro;obtain⟨t,rfl⟩:=ri;obtain⟨its,n,r,ho,hz⟩:=I.lst hp;obtain⟨h1,h2,h3,h4⟩:=xV1 hj;have hl:=r.length;have hn:=line63;have I':Inv X EA σ (upd H p (.lst (xs.set j v))) {s with heap:=s.heap.update p (Obj.mapSeq (·.setIfInBounds j u))}:=I.lstUpd hp ho (xT3 its n j u) (r.set rv j) (by rw[CG];exact hz) s.toks;by_cases h0:0<=k;have hk:k.toNat=j:=by rw[seqIndex_of h0 h4]at h1;exact Ba h1
 exact PySem.W.ki_setAt ho h0 (by rfl') (by rw[Av,<-hl];exact h4) (by rw[hk];exact⟨_,I',q⟩);have hk:(k+(its.toArray.size:Int)).toNat=j:=by rw[seqIndex_neg (by rfl') h3]at h1;rw[Av,<-hl];exact Ba h1
 exact PySem.W.ki_setBack ho (by rfl') (by rw[Av,<-hl];exact h3) (by rfl') (by rw[hk];exact⟨_,I',q⟩)
theorem yO9(lo hi:Option Int)(n:Nat):(sliceBounds lo hi none n).1=((HT.sIx n 0 lo:Nat):Int)/\(sliceBounds lo hi none n).2.1=((HT.sIx n n hi:Nat):Int)/\(sliceBounds lo hi none n).2.2=1:=by
 refine⟨?_,?_,rfl⟩;cases lo with
 |none=>simp[sliceBounds,HT.sIx]
 |some i=>simp only[sliceBounds,HT.sIx,Option.getD_none,show(1:Int)>0 by decide,if_true];by_cases h:i<0;simp only[h,if_true]<;>rfl';simp only[h,if_false]<;>rfl'
 cases hi with
 |none=>simp[sliceBounds,HT.sIx]
 |some i=>simp only[sliceBounds,HT.sIx,Option.getD_none,show(1:Int)>0 by decide,if_true];by_cases h:i<0;simp only[h,if_true]<;>rfl';simp only[h,if_false]<;>rfl'
theorem yR2(its:C3)(lo hi:Option Int):slicePick its.toArray lo hi none=((its.drop (HT.sIx its.length 0 lo)).take (HT.sIx its.length its.length hi-HT.sIx its.length 0 lo)).toArray:=by obtain⟨h1,h2,h3⟩:=yO9 lo hi its.toArray.size;unfold slicePick;rw[h1,h2,h3];simp only[sliceRange_one,pick_run,Av]<;>rfl
def rSlL(K:KFr):V->Option Int->Option Int->Hp->VK->Prop:=fun x lo hi H Q=>∃a xs,x=.ref a/\SqL K H a xs/\∀p,H p=none->Q (.ref p) (upd H p (.lst (cutV xs lo hi)))
theorem yB7:SlR X (rSlL X.K):=by intro EA s σ H x v vl vu lo hi sl Q I rx hs pl pu h;obtain⟨a,xs,rfl,hx,q⟩:=h;cases rx;obtain⟨its,r,ht,hz⟩:=I.list hx;have hlen:=r.length;refine⟨"list",_,slot_list_getitem.lookup,ht.isList.typeIs,?_⟩;refine wpAny_getItem_list_slice ht.isList hs pl pu .none (by simp) ?_ (by rw[Av]<;>rfl');rw[yR2,<-hlen];refine⟨.ref s.heap.objs.size,_,I.laid (t':=s.toks) (o:=.lst (cutV xs lo hi)) (fun b ob q=>Am _ q) (Ac _) ?_,rfl,q _ (I.hok.fresh (Ac _))⟩;exact⟨As (zL2 xs lo hi) hz,_,0,(r.drop (HT.sIx xs.length 0 lo)).take (HT.sIx xs.length xs.length hi-HT.sIx xs.length 0 lo),AO _ rfl⟩
def flatV:V->Bool
 |.non=>true
 |.bl _=>true
 |.int _=>true
 |.str _=>true
 |_=>false
def eqV:V->V->Bool
 |.non,.non=>true
 |.bl a,.bl b=>a==b
 |.bl a,.int b=>(if a then 1 else 0)==b
 |.int a,.bl b=>a==(if b then 1 else 0)
 |.int a,.int b=>a==b
 |.str a,.str b=>a==b
 |_,_=>false
theorem wD6{A:Around}{y x:V}{v:Value}(ry:RelV y u)(rx:RelV x v)(fy:flatV y=true)(fx:flatV x=true):SeqAt.EqAt A s u v (eqV y x):=by
 cases y with
 |non=>
  cases ry;cases x with
  |non=>cases rx;exact SeqAt.EqAt.same _
  |bl b=>cases rx;exact SeqAt.EqAt.none_bool b
  |int b=>obtain⟨t,rfl⟩:=rx;exact SeqAt.EqAt.none_int b t
  |str b=>obtain⟨t,rfl⟩:=rx;exact SeqAt.EqAt.none_str b t
  |_=>exact absurd (show false=true from fx) AY
 |bl a=>
  cases ry;cases x with
  |non=>cases rx;exact SeqAt.EqAt.bool_none a
  |bl b=>cases rx;exact SeqAt.EqAt.bool_bool a b
  |int b=>obtain⟨t,rfl⟩:=rx;exact SeqAt.EqAt.bool_int a b t
  |str b=>obtain⟨t,rfl⟩:=rx;exact SeqAt.EqAt.bool_str a b t
  |_=>exact absurd (show false=true from fx) AY
 |int a=>
  obtain⟨t',rfl⟩:=ry;cases x with
  |non=>cases rx;exact SeqAt.EqAt.int_none a t'
  |bl b=>cases rx;exact SeqAt.EqAt.int_bool a t' b
  |int b=>obtain⟨t,rfl⟩:=rx;exact SeqAt.EqAt.int_int a t' b t
  |str b=>obtain⟨t,rfl⟩:=rx;exact SeqAt.EqAt.int_str a t' b t
  |_=>exact absurd (show false=true from fx) AY
 |str a=>
  obtain⟨t',rfl⟩:=ry;cases x with
  |non=>cases rx;exact SeqAt.EqAt.str_none a t'
  |bl b=>cases rx;exact SeqAt.EqAt.str_bool a t' b
  |int b=>obtain⟨t,rfl⟩:=rx;exact SeqAt.EqAt.str_int a t' b t
  |str b=>obtain⟨t,rfl⟩:=rx;exact SeqAt.EqAt.str_str a t' b t
  |_=>exact absurd (show false=true from fx) AY
 |_=>exact absurd (show false=true from fy) AY
def eqU(x:V)(u:Value):Bool:=match u with
 |.none=>eqV .non x
 |.bool b=>eqV (.bl b) x
 |.int i _=>eqV (.int i) x
 |.str z _=>eqV (.str z) x
 |_=>false
theorem xL3{x y:V}(r:RelV y u)(f:flatV y=true):eqU x u=eqV y x:=by
 cases y with
 |non=>cases r;rfl
 |bl b=>cases r;rfl
 |int i=>obtain⟨t,rfl⟩:=r;rfl
 |str z=>obtain⟨t,rfl⟩:=r;rfl
 |_=>exact absurd (show false=true from f) AY
theorem zZ4{x:V}:∀{xs:C8}{us:C3},Vals xs us->xs.all flatV=true->us.any (eqU x)=xs.any fun y=>eqV y x
 |_,_,.nil,_=>rfl
 |y::xs,u::us,.cons r t,f=>by rw[DZ,AL]at f;rw[CM,CM,xL3 r f.1,zZ4 t f.2]
theorem cK{A:Around}{s:Shared}{x:V}{v:Value}(rx:RelV x v)(fx:flatV x=true):∀{xs:C8}{us:C3},Vals xs us->xs.all flatV=true->∀u∈us,SeqAt.EqAt A s u v (eqU x u)
 |_,_,.nil,_=>fun u hu=>by cases hu
 |y::xs,u::us,.cons r t,f=>fun u' hu=>by rw[DZ,AL]at f;rcases AF.mp hu with rfl|hu;rw[xL3 r f.1];exact wD6 r rx f.1 fx;exact cK rx fx t f.2 u' hu
def inV(x:V)(xs:C8):Bool:=xs.any fun y=>eqV y x
def rIn(K:KFr)(neg:Bool):R2:=fun x y H Q=>∃p xs,y=.ref p/\(SqL K H p xs\/SqT K H p xs)/\flatV x=true/\xs.all flatV=true/\Q (.bl (if neg then !inV x xs else inV x xs)) H
theorem yT6:OpR X (compareOp .In) (rIn X.K false):=by intro EA s σ H x y v u Q I rx ry h;obtain⟨p,xs,rfl,hq,fx,fs,q⟩:=h;cases ry;rcases hq with hq|hq;obtain⟨its,r,pl,hz⟩:=I.list hq;refine SeqAt.in_listAt (eqU x) pl.isList (fun w hw=>cK rx fx r fs w (by simpa using hw)) ⟨.bl _,H,I,rfl,?_⟩;rw[show its.toArray.any (eqU x)=its.any (eqU x) by simp,zZ4 r fs];exact q;obtain⟨its,r,pl,hz⟩:=I.tuple hq;refine SeqAt.in_tupleAt (eqU x) pl (fun w hw=>cK rx fx r fs w (by simpa using hw)) ⟨.bl _,H,I,rfl,?_⟩;rw[show its.toArray.any (eqU x)=its.any (eqU x) by simp,zZ4 r fs];exact q
theorem yM6:OpR X (compareOp .NotIn) (rIn X.K true):=by intro EA s σ H x y v u Q I rx ry h;obtain⟨p,xs,rfl,hq,fx,fs,q⟩:=h;cases ry;rcases hq with hq|hq;obtain⟨its,r,pl,hz⟩:=I.list hq;refine SeqAt.notIn_listAt (eqU x) pl.isList (fun w hw=>cK rx fx r fs w (by simpa using hw)) ⟨.bl _,H,I,rfl,?_⟩;rw[show its.toArray.any (eqU x)=its.any (eqU x) by simp,zZ4 r fs];exact q;obtain⟨its,r,pl,hz⟩:=I.tuple hq;refine SeqAt.notIn_tupleAt (eqU x) pl (fun w hw=>cK rx fx r fs w (by simpa using hw)) ⟨.bl _,H,I,rfl,?_⟩;rw[show its.toArray.any (eqU x)=its.any (eqU x) by simp,zZ4 r fs];exact q
theorem zL:CallR X (.builtin "len") (fun xs H Q=>∃p ys,xs=[.ref p]/\(SqL X.K H p ys\/SqT X.K H p ys)/\Q (.int ys.length) H):=by intro EA s σ H xs us Q I r h;obtain⟨p,ys,rfl,hq,q⟩:=h;obtain⟨u,rfl,rx⟩:=vals1 r;cases rx;have hn:=line63;rcases hq with hq|hq;obtain⟨its,r',pl,hz⟩:=I.list hq;have hlen:=r'.length;exact Calls.call_len_list pl.isList (by simp only[Av]<;>rfl') ⟨.int ys.length,H,I.tok _,⟨s.toks+1,by rw[Av,hlen]⟩,q⟩;obtain⟨its,r',pl,hz⟩:=I.tuple hq;have hlen:=r'.length;exact len_tuple pl (by simp only[Av]<;>rfl') ⟨.int ys.length,H,I.tok _,⟨s.toks+1,by rw[Av,hlen]⟩,q⟩
theorem cN:CallR X (.builtin "len") (fun xs H Q=>∃z,xs=[.str z]/\z.length<=sizeLine/\Q (.int z.length) H):=by intro EA s σ H xs us Q I r h;obtain⟨z,rfl,hz,q⟩:=h;obtain⟨u,rfl,t,rfl⟩:=vals1 r;have hn:=line63;exact len_str (by rfl') ⟨.int z.length,H,I.tok _,⟨_,rfl⟩,q⟩
theorem yL1:CallR X (.type "list") (fun xs H Q=>∃p ys,xs=[.ref p]/\(SqL X.K H p ys\/SqT X.K H p ys)/\∀l,H l=none->Q (.ref l) (upd H l (.lst ys))):=by
 intro EA s σ H xs us Q I r h;obtain⟨p,ys,rfl,hq,q⟩:=h;obtain⟨u,rfl,rx⟩:=vals1 r;cases rx;have fin:∀(its:C3),Vals ys its->ys.length<=sizeLine->∀(h':Heap)(c':Nat),(∀b o',s.heap.get? b=some o'->h'.get? b=some o') ->h'.get? s.heap.objs.size=some {cls:=.type "list",dict:=none,data:=.seq its.toArray c',slots:=#[]}->EP X EA σ Q (.ref s.heap.objs.size) {s with heap:=h'}:=fun its r' hz h' c' kp e=>⟨.ref s.heap.objs.size,_,I.laid (t':=s.toks) kp (Ac _) (show ObjOk X.prog X.w _ h' _ (.lst ys)from⟨hz,its,c',r',e⟩),rfl,q _ (I.hok.fresh (Ac _))⟩;rcases hq with hq|hq
 obtain⟨its,r',pl,hz⟩:=I.list hq;have hlen:=r'.length;obtain⟨o,ho,hc,n,hd⟩:=pl.isList;exact call_list_seq p (.inl rfl) ho hc hd (fun h' c' kp e=>fin its r' hz h' c' kp e) (by simp only[Av]<;>rfl');obtain⟨its,r',pl,hz⟩:=I.tuple hq;have hlen:=r'.length;obtain⟨o,ho,hc,n,hd⟩:=pl;exact call_list_seq p (.inr rfl) ho hc hd (fun h' c' kp e=>fin its r' hz h' c' kp e) (by simp only[Av]<;>rfl')
theorem wD:CallR X (.type "tuple") (fun xs H Q=>∃p ys,xs=[.ref p]/\((SqL X.K H p ys/\∀l,H l=none->Q (.ref l) (upd H l (.tup ys)))\/(SqT X.K H p ys/\Q (.ref p) H))):=by intro EA s σ H xs us Q I r h;obtain⟨p,ys,rfl,h⟩:=h;obtain⟨u,rfl,rx⟩:=vals1 r;cases rx;rcases h with⟨hq,q⟩|⟨hq,q⟩;obtain⟨its,r',pl,hz⟩:=I.list hq;have hlen:=r'.length;refine call_tuple_list pl.isList (fun h' kp=>?_) (by simp only[Av]<;>rfl');have I1:Inv X EA σ H {s with heap:=h'}:=I.kept (t':=s.toks) kp;have I2:Inv X EA σ (upd H h'.objs.size (.tup ys)) {s with heap:=h'.push {cls:=.type "tuple",data:=.seq its.toArray}}:=I1.laid (t':=s.toks) (fun b o e=>Am _ e) (Ac _) (show ObjOk X.prog X.w _ _ _ (.tup ys)from⟨hz,its,r',TupAt.new _ _⟩);exact⟨.ref h'.objs.size,_,I2,rfl,q _ (I1.hok.fresh (Ac _))⟩;obtain⟨its,r',pl,hz⟩:=I.tuple hq;exact call_tuple_same pl ⟨.ref p,H,I,rfl,q⟩
def tyV(K:KFr)(T:String)(x:V)(H:Hp):Prop:=match x with
 |.str _=>T="str"
 |.int _=>T="int"
 |.ref p=>(T="list"/\∃xs,SqL K H p xs)\/(T="tuple"/\((∃o,K.lookup p=some o/\o.cls=.type "tuple"/\o.dict=none)\/∃xs,Rd H p (.tup xs))) \/ (T="dict"/\((∃kvs,H p=some (.dK kvs))\/∃kvs,H p=some (.dT kvs)))\/(T="set"/\∃S n,H p=some (.set S n))
 |_=>False
theorem xO3{T:String}{x:V}{v:Value}(I:Inv X EA σ H s)(r:RelV x v)(ty:tyV X.K T x H):s.TypeIs v T/\∀a,v=.ref a->∃ob,s.heap.get? a=some ob/\ob.dict=none:=by
 cases x with
 |str z=>obtain⟨t,rfl⟩:=r;cases (show T="str" from ty);exact⟨typeIs_str s z t,fun _ e=>nomatch e⟩
 |int i=>obtain⟨t,rfl⟩:=r;cases (show T="int" from ty);exact⟨typeIs_int s i t,fun _ e=>nomatch e⟩
 |ref p=>
  cases r;rcases ty with⟨rfl,xs,hq⟩|⟨rfl,⟨o,hk,hc,hd⟩|⟨xs,hq⟩⟩|⟨rfl,hk⟩|⟨rfl,S,n,hk⟩;obtain⟨its,_,pl,_⟩:=I.list hq;refine⟨pl.isList.typeIs,fun a e=>?_⟩;cases e;obtain⟨o,n,e,c,hd,_⟩:=pl;exact⟨o,e,hd⟩;refine⟨⟨o,I.kIn p o hk,hc⟩,fun a e=>?_⟩;cases e;exact⟨o,I.kIn _ o hk,hd⟩;obtain⟨_,its,_,o,e,c,_,hd⟩:=hq.ok I.hok;refine⟨⟨o,e,c⟩,fun a e2=>?_⟩;cases e2;exact⟨o,e,hd⟩;have z:∃o,s.heap.get? p=some o/\o.ExactDict:=by rcases hk with⟨kvs,hk⟩|⟨kvs,hk⟩;obtain⟨_,_,_,_,o,_,_,e,ex,_⟩:=I.hok p _ hk;exact⟨o,e,ex⟩;obtain⟨_,_,_,_,o,_,_,e,ex,_⟩:=I.hok p _ hk;exact⟨o,e,ex⟩
  obtain⟨o,e,ex⟩:=z;refine⟨⟨o,e,ex.1⟩,fun a e2=>?_⟩;cases e2;exact⟨o,e,ex.2.1⟩;obtain⟨o,_,_,_,e,ex,_⟩:=I.hok p _ hk;refine⟨⟨o,e,ex.1⟩,fun a e2=>?_⟩;cases e2;exact⟨o,e,ex.2.1⟩
 |_=>exact False.elim ty
def tBM0(K:KFr)(T:String)(r:V->List V->Hp->VK->Prop)(to:TE):TE:=fun σ H Q=>to σ H fun x H1=>tyV K T x H1/\r x [] H1 Q
def tBM(K:KFr)(T:String)(r:V->List V->Hp->VK->Prop)(to:TE)(t:TA):TE:=fun σ H Q=>to σ H fun x H1=>tyV K T x H1/\t σ H1 fun xs H2=>r x xs H2 Q
variable {o e:Expr}{es:C7}{to:TE}{t:TA}{name:Str}{apos cpos:Pos}{T id:String}{r:V->List V->Hp->VK->Prop}
theorem wF4(pa:PlainAttrs T)(slot:Slot T name id)(hty:typeOf (.builtin id)=pure (.type "method_descriptor"))(hm:MtR X id r)(ho:PE X o to)(hbase:autoParam (attributeBase o name X.env (eval o X.env)=eval o X.env) Ey)(hline:autoParam ((apos.endLine==cpos.line)=true) Ey):PE X (.Call (.Attribute o name apos) [] [] cpos) (tBM0 X.K T r to):=by intro EA s σ H Q I h;refine wpAny_Call_method0_late hbase hline (thn (ho EA s σ H _ I h) fun v s1⟨x,H1,I1,r1,ty,q1⟩=>?_);obtain⟨h1,h2⟩:=xO3 I1 r1 ty;exact⟨T,id,pa,slot,hty,h1,h2,DI rfl (PySem.evalArgs_none (hm EA s1 σ H1 x [] v [] Q I1 r1 .nil q1))⟩
theorem bK(pa:PlainAttrs T)(slot:Slot T name id)(hty:typeOf (.builtin id)=pure (.type "method_descriptor"))(hm:MtR X id r)(ho:PE X o to)(ha:PA X (e::es) t)(hbase:autoParam (attributeBase o name X.env (eval o X.env)=eval o X.env) Ey)(hfew:((backTo cpos (starEach (e::es) X.env)).all (fun x=>!x.1)&&(backToKw cpos (keywordEach [] X.env)).all (fun x=>x.1.isSome) &&decide ((e::es).length+([]:List Keyword).length+(if ([]:List Keyword).isEmpty then 0 else 1)<30))=true:=by rfl)(hline:autoParam ((apos.endLine==cpos.line)=true) Ey)(hs:autoParam (starEach (e::es) X.env=(false,eval e X.env)::starEach es X.env) Ey)(hplain:autoParam ((backTo cpos (starEach es X.env)).any (·.1)=false) Ey):PE X (.Call (.Attribute o name apos) (e::es) [] cpos) (tBM X.K T r to t):=by intro EA s σ H Q I h;refine wpAny_Call_method_late hbase hfew hline rfl (thn (ho EA s σ H _ I h) fun v s1⟨x,H1,I1,r1,ty,q1⟩=>?_);obtain⟨h1,h2⟩:=xO3 I1 r1 ty;refine⟨T,id,pa,slot,hty,h1,h2,?_⟩;have hA:=ha cpos EA s1 σ H1 _ I1 q1;rw[hs]at hA ⊢;refine DI (by show(false ||(backTo cpos (starEach es X.env)).any (·.1))=false;rw[hplain]<;>rfl) (Ea ?_);exact thn hA fun us s2⟨vs,H2,I2,r2,q2⟩=>hm EA s2 σ H2 x vs v us Q I2 r1 r2 q2
end
def MtM(X:Cx)(id:String)(r:V->List V->Hp->VK->Prop):Prop:=∀(EA:A9)(s:Shared)(σ:St)(H:Hp)(x:V)(xs:C8)(v:Value)(us:C3)(Q:VK),Inv X EA σ H s->RelV x v->Vals xs us->r x xs H Q ->wpAny (model X.prog X.w) X.A (call (.builtin id) (v::us)) (EP X EA σ Q) X.xe s
theorem Vals.one:∀{x:V}{us:C3},Vals [x] us->∃u,us=[u]/\RelV x u
 |_,_,.cons r .nil=>⟨_,rfl,r⟩
theorem Vals.two:∀{x y:V}{us:C3},Vals [x,y] us->∃u v,us=[u,v]/\RelV x u/\RelV y v
 |_,_,_,.cons r (.cons q .nil)=>⟨_,_,rfl,r,q⟩
theorem Vals.eraseIdx:∀{xs:C8}{us:C3}(i:Nat),Vals xs us->Vals (xs.eraseIdx i) (us.eraseIdx i)
 |_,_,_,.nil=>.nil
 |_,_,0,.cons _ t=>t
 |_,_,i+1,.cons r t=>.cons r (Vals.eraseIdx i t)
theorem Vals.rep{xs:C8}{us:C3}(h:Vals xs us):∀k:Nat,Vals (List.replicate k xs).flatten (List.replicate k us).flatten
 |0=>.nil
 |k+1=>by rw[BG,BG,Bm,Bm];exact Vals.append h (Vals.rep h k)
theorem yS3{α:Type}:∀(l:List α)(i:Nat),(l.eraseIdx i).length<=l.length
 |[],_=>Ac _
 |_::_,0=>Nat.le_succ _
 |_::r,i+1=>Nat.succ_le_succ (yS3 r i)
theorem yT4(its:C3):∀(k:Nat)(acc:C3),List.foldl (fun x1 x2=>x1++x2) acc.toArray (List.replicate k its.toArray)=(acc++(List.replicate k its).flatten).toArray
 |0,acc=>by simp
 |k+1,acc=>by
  have e:acc.toArray++its.toArray=(acc++its).toArray:=by simp
  have e2:(acc++its)++(List.replicate k its).flatten=acc++(List.replicate (k+1) its).flatten:=by rw[BG,Bm,AM]
  rw[<-e2,<-yT4 its k (acc++its),<-e,BG,List.foldl_cons]
section
variable {X:Cx}{EA:A9}{σ:St}{H:Hp}{s:Shared}{l b:Addr}{xs ys zs:C8}
theorem Inv.lset{its its':C3}{n:Nat}{f:Array Value->Array Value}{t':Nat}(I:Inv X EA σ H s)(hH:H l=some (.lst xs)) (e:s.heap.get? l=some {cls:=.type "list",data:=.seq its.toArray n}) (hf:f its.toArray=its'.toArray) (hv:Vals ys its') (hz:ys.length<=sizeLine):Inv X EA σ (upd H l (.lst ys)) {s with heap:=s.heap.update l (Obj.mapSeq f),toks:=t'}:=by have q:=PySem.IsL.update e f;rw[hf]at q;refine I.write (x:=l) (e:=l) (by rw[hH];exact trivial) (.inl rfl) (fun b' u hb hu=>(AS s.heap (Obj.mapSeq f) (Bv hb)).trans hu) ⟨_,q⟩ ?_;exact⟨hz,its',_,hv,q⟩
theorem Inv.lnew{t':Nat}(I:Inv X EA σ H s)(hv:Vals ys its)(hz:ys.length<=sizeLine):Inv X EA σ (upd H s.heap.objs.size (.lst ys)) {s with heap:=s.heap.push {cls:=.type "list",data:=.seq its.toArray},toks:=t'}:=I.laid (fun _ _ q=>Am _ q) (Ac _) ⟨hz,its,0,hv,AO _ rfl⟩
theorem Inv.fresh(I:Inv X EA σ H s):H s.heap.objs.size=none:=I.hok.fresh (Ac _)
theorem Inv.lstM(I:Inv X EA σ H s)(hH:H l=some (.lst xs)):xs.length<=sizeLine/\∃(its:C3)(n:Nat),Vals xs its/\xs.length=its.length/\s.heap.get? l=some {cls:=.type "list",data:=.seq its.toArray n}:=by obtain⟨z,its,n,r,e⟩:=I.hok l _ hH;exact⟨z,its,n,r,r.length,e⟩
theorem notLongL{n:Nat}(h:n<=sizeLine):Builtin.List.listTooLong n=false:=by unfold Builtin.List.listTooLong;exact Ad (by rfl')
end
section
variable {X:Cx}
def rAppend:V->List V->Hp->VK->Prop:=fun x vs H Q=>∃l xs y,x=.ref l/\vs=[y]/\H l=some (.lst xs)/\xs.length<sizeLine/\Q .non (upd H l (.lst (xs++[y])))
theorem vS:MtM X "list.append" rAppend:=by intro EA s σ H x vs v us Q I rx rv h;obtain⟨l,xs,y,rfl,rfl,hH,hz,q⟩:=h;cases rx;obtain⟨u,rfl,ru⟩:=rv.one;obtain⟨z,its,n,r,hl,e⟩:=I.lstM hH;refine call_meets F.slot_list_append ⟨_,e,rfl⟩ F.entry_list_append (F.args_list_append_2 _ _) (PySem.list_append l its.toArray n u (by rw[Av];rfl')) ⟨e,?_⟩;refine⟨.non,_,I.lset (its':=its++[u]) hH e (by simp) (r.append (.cons ru .nil)) ?_,rfl,q⟩;rw[Aj,BX];rfl'
def rPopAt:V->List V->Hp->VK->Prop:=fun x vs H Q=>∃l xs i k y,x=.ref l/\vs=[.int i]/\H l=some (.lst xs)/\-(2^63)<=i/\i<2^63/\seqIndex? i xs.length=some k/\xs[k]?=some y/\Q y (upd H l (.lst (xs.eraseIdx k)))
theorem yF1:MtM X "list.pop" rPopAt:=by intro EA s σ H x vs v us Q I rx rv h;obtain⟨l,xs,i,k,y,rfl,rfl,hH,h1,h2,hk,hy,q⟩:=h;cases rx;obtain⟨u,rfl,ru⟩:=rv.one;obtain⟨t,rfl⟩:=ru;obtain⟨z,its,n,r,hl,e⟩:=I.lstM hH;obtain⟨w,hw,rw'⟩:=r.get hy;refine call_meets F.slot_list_pop ⟨_,e,rfl⟩ F.entry_list_pop (F.args_list_pop_2 _ _) (MeetsSeq.list_pop_at l its.toArray n i t k w (fitsIndex_both h1 h2) (by rw[Av,<-hl];exact hk) (by rw[<-Dj];exact hw) (by rw[Av];rfl')) ⟨e,?_⟩;refine⟨y,_,I.lset (its':=its.eraseIdx k) hH e ?_ (r.eraseIdx k) ?_,rw',q⟩;show its.toArray.eraseIdxIfInBounds k=(its.eraseIdx k).toArray;rw[List.eraseIdxIfInBounds_toArray];have:=yS3 xs k;rfl'
theorem wS9{α:Type}(xs:List α)(k:Nat):(List.replicate k xs).flatten.length=k*xs.length:=by
 induction k with
 |zero=>simp
 |succ k ih=>rw[BG,Bm,Aj,ih,Ds,Nat.add_comm]
end
section
variable {prog:Program}{w:World}{A:Around}{E:A8}{s:Shared}
end
section
variable {X:Cx}
end
end L2
namespace Att
open PySem PySem.W PySem.Calls PyProof.Rows
theorem zC5{P:Params}:∀(ns:C6)(vs:C3),WellAll P h vs (ns.map WData.int)->IntsAre vs ns:=by
 intro ns;induction ns with
 |nil=>intro vs w;rw[Dc]at w;cases w;exact .nil
 |cons n ns ih=>
  intro vs w;rw[AB]at w;cases w with
  |cons a b=>cases a;exact .cons _ _ (ih _ b)
theorem xE9{l:OpenLaw}{n:Nat}(hn:l.most=some n){P:Params}{args:List WData}{vals:C3}(hpre:l.row.toRowW.claim.pre args=true)(hwl:WellAll P h vals args):∃a vs ns,vals=[Value.ref a]/\args=[WData.list (ns.map WData.int)]/\h.get? a=some {cls:=.type "list",data:=.seq vs.toArray}/\IntsAre vs ns/\ns.length<=n:=by
 have hsh:WShape.hasAll [] args [.list .int]=true:=(pre_splitW hpre).1;have hc:l.pre.holds [] {args:=args}=true:=(pre_splitW hpre).2;obtain⟨d,r,rfl,h1,h2⟩:=hasAllW_cons hsh;obtain rfl:=hasAllW_nil h2;obtain⟨xs,rfl,h3⟩:=hasW_list h1;obtain⟨ns,rfl⟩:=items_int h3;have hlen:ns.length<=n:=by
  unfold OpenLaw.pre at hc;have h4:(WTm.not (.lt (.lit (.int (n:Int))) (.len (.arg 0)))).holds [] {args:=[.list (ns.map .int)]}=true:=by have h4:=(holds_andW hc).1;rw[hn]at h4;exact h4
  have h5:=condW_of h4 (w_not (w_lt w_lit (w_len_list (w_arg rfl))));rw[Aa]at h5;refine Nat.le_of_not_lt fun q=>?_;have q':(n:Int)<((ns.length:Nat):Int):=by rfl'
  first
   |(rw[Ab q']at h5;exact absurd h5 (by decide))
   |(simp at h5;rfl')
 cases hwl with
 |cons w1 w2=>
  cases w2;cases w1 with
  |list ho hall=>exact⟨_,_,ns,rfl,rfl,ho,zC5 ns _ hall,hlen⟩
theorem xO7(l:OpenLaw)(args:List WData):l.row.toRowW.claim.post args (.bool true) args=true:=postW_of (r:=l.row.toRowW) (X:=(true==true)) (show WShape.has [] (.bool true) .bool=true by first|rfl|decide|simp[WShape.has,WShape.arms,WShape.armsAll]) (show(WTm.eq .res (.lit (.bool true))).value [] {args:=args,res:=some (.bool true),after:=args}=some (.bool (true==true))from w_eq_bool (w_res rfl) w_lit) rfl
theorem yD3{l:OpenLaw}{n:Nat}{q:Program}{loose:C4}{XP:(B9)->Heap->Prop}{YP:World->Heap->Prop}{d:DefRec}(hn:l.most=some n)(hdf:d.params.defaults=[])(call:∀(w:World)(s₀ s₁:Shared)(mg mb:B9)(fa:Addr)(o:Obj)(pm cd doc:Value)(a:Addr)(vs:C3)(ns:C6),Ground q loose [] XP w s₀ mg mb s₁.heap->YP w s₁.heap ->s₁.heap.get? fa=some o->o.data=.func (docDef d.name d.params d.body d.scope pm cd doc)->s₁.heap.CodeRec cd d.name->mg d.name=some (.ref fa) ->s₁.heap.get? a=some {cls:=.type "list",data:=.seq vs.toArray}->IntsAre vs ns->ns.length<=n->s₁.gens=#[] ->codeAny (model l.prog w) callerA (.call (.ref fa) ⟨[.ref a],[]⟩) (fun r s'=>r=.ok (.ret (.bool true))/\OldK s₁.heap s'.heap/\s'.os=s₁.os/\AllBare s'.gens) s₁):WalkO q loose XP YP l.row.toRowW d [] (fun f vs=>PySem.call f vs):=by intro w s₀ s₁ mg mb G Y fa o pm cd doc dV kV ho hd hcd hD hmg hg args vals as hpre hlay hrd hwl hlo;obtain rfl:dV=.none:=Dflts.none hD hdf;obtain rfl:kV=.none:=Dflts.noKw hD;obtain⟨a,vs,ns,rfl,rfl,hobj,hints,hlen⟩:=xE9 hn hpre hwl;refine enter_call (codeAny_mono (call w s₀ s₁ mg mb fa o pm cd doc a vs ns G Y ho (fd_plain hd) hcd hmg hobj hints hlen hg) fun r s' hq=>?_);obtain⟨rfl,h2,h3,h4⟩:=hq;exact⟨.inl ⟨.bool true,.bool true,[],rfl,fun _=>rfl,.bool true,xO7 l _,fun _=>⟨List.Pairwise.nil,fun _ hm=>(nomatch hm)⟩⟩,h2,h3,h4⟩
section
variable {prog:Program}{w:World}{A:Around}{E:A8}{s:Shared}{K:Frag}
end
end Att
namespace L2
open PySem PySem.Spec PyProof.Rows
theorem zP1:∀{vs:C3}{ns:C6},IntsAre vs ns->Vals (ns.map V.int) vs
 |_,_,.nil=>.nil
 |_,_,.cons n t h=>.cons ⟨t,rfl⟩ (zP1 h)
def Only(H:Hp):Prop:=∀b,H b=none\/∃o xs,H b=some (.frz o (.lst xs))
theorem wV7{P:Program}{w:World}{K:KFr}{mg mb:B9}{CX:CXT}{k:Nat}{fa a:Addr}{fd:FuncData}{x:Str}{sp:Sp}{s₁:Shared}{vs:C3}{ns:C6}(KX:K.In s₁.heap)(hns:s₁.heap.Ns mainGlobals mg)(hb:s₁.heap.Ns builtinsNs mb)(hbb:∀x:Str,x≠"__name__"->mb x=bootBuiltins x)(hlim:s₁.heap.NoLimit)(hg:s₁.gens=#[])(ha:s₁.heap.get? a=some {cls:=.type "list",data:=.seq vs.toArray})(hi:IntsAre vs ns)(hl:ns.length<=sizeLine)(hr:Room k callerA)(F:∀base:Heap,K.In base->base.Ns mainGlobals mg->FnOk P w K mg base CX k fa fd [x] sp)(hbind:∀(s:Shared)(u:Value),BindsTo s fd ⟨[u],[]⟩ [(x,u)])(hsp:∀H:Hp,Only H->SqL K H a (ns.map V.int)->sp [.ref a] H (fun v _=>v=.bl true) fun _ _ _=>False)(hCX:∀H e s',CX [] H s₁ (fun _ _ _=>False) e s'->False):codeAny (model P w) callerA (.call (.ref fa) ⟨[.ref a],[]⟩) (fun r s'=>r=.ok (.ret (.bool true))/\OldK s₁.heap s'.heap/\s'.os=s₁.os/\AllBare s'.gens) s₁:=by
 have rv:=zP1 hi;have lenV:=hi.length;have core:∀H:Hp,Only H->SqL K H a (ns.map V.int)->HOk P w H s₁.heap->(∀b,H b≠none->b=a)->(H a≠none->K.lookup a=none) ->codeAny (model P w) callerA (.call (.ref fa) ⟨[.ref a],[]⟩) (fun r s'=>r=.ok (.ret (.bool true))/\OldK s₁.heap s'.heap/\s'.os=s₁.os/\AllBare s'.gens) s₁:=by
  intro H hO hS hok hA hK;have base_of:∀{b:Addr}{o:Obj},s₁.heap.get? b=some o->H b=none->(hidT s₁.heap H).get? b=some o:=fun e n=>xA9 e n;have noA:∀{b:Addr}{o:Obj}{es:Array DictEntry}{ep:Nat},s₁.heap.get? b=some o->o.data=.dict es ep->H b=none:=fun{b o es ep}e d=>by
   cases q:H b with
   |none=>rfl
   |some u=>have e':b=a:=hA b (by rw[q];simp);subst e';rw[ha]at e;cases e;have d':Data.seq vs.toArray _=Data.dict es ep:=d;cases d'
  have nsK:∀{b:Addr}{m:B9},s₁.heap.Ns b m->(hidT s₁.heap H).Ns b m:=fun{b m}⟨o,es,ep,e,d,r⟩=>⟨o,es,ep,base_of e (noA e d),d,r⟩;have hKb:K.In (hidT s₁.heap H):=fun b o e=>base_of (KX b o e) (by
   cases q:H b with
   |none=>rfl
   |some u=>have e':b=a:=hA b (by rw[q];simp);subst e';rw[hK (by rw[q];simp)]at e;cases e)
  have hM:Mod K mg (hidT s₁.heap H):=⟨hKb,nsK hns,⟨mb,nsK hb,hbb⟩,let ⟨mc,h1,h2⟩:=hlim; ⟨mc,nsK h1,h2⟩⟩;have e0:Env0 P w K mg (hidT s₁.heap H) callerA [] s₁ H:=⟨rfl,hM,fun b o e=>wM9 e,Nat.le_of_eq (xM6 _ _),trivial,fun b hb=>absurd (show b∈([]:C9)from hb) (by simp),hok,.of_eq hg⟩;refine codeAny_mono ((F _ hKb (nsK hns)).run callerA [] s₁ H ⟨[.ref a],[]⟩ [.ref a] [.ref a] _ _ hr e0 (hbind s₁ (.ref a)) (.cons rfl .nil) (hsp H hO hS)) fun r s' h=>?_;cases r with
  |error e=>exact(hCX H e s' h).elim
  |ok fl=>
   cases fl with
   |next=>exact False.elim h
   |brk=>exact False.elim h
   |cont=>exact False.elim h
   |ret u=>
    obtain⟨v,H',os,bare,un,hok',r',q⟩:=h;have q':v=.bl true:=q;subst q';obtain rfl:u=Value.bool true:=r';refine⟨rfl,OldK.of_keep fun b o e=>?_,os,bare⟩;cases q:H b with
    |none=>exact un.keep b o e q (by intro z;exact absurd (show b∈([]:C9)from z) (by simp)) (by simp)
    |some u=>rcases hO b with z|⟨ob,xs,z⟩;rw[q]at z;cases z;have z2:=un.frzs b ob _ z;obtain⟨e1,_⟩:=hok b _ z;obtain⟨e2,_⟩:=hok' b _ z2;rw[e]at e1;cases e1;exact e2
 cases hk:K.lookup a with
 |some o=>have e:=KX a o hk;rw[ha]at e;cases e;refine core (fun _=>none) (fun _=>.inl rfl) (.inr ⟨_,vs.toArray,_,hk,rfl,rfl,rfl,by rw[Av,lenV];exact hl,by simpa using rv⟩) (fun b u z=>by have z':(none:Option HO)=some u:=z;cases z') (fun b z=>absurd rfl z) fun z=>absurd rfl z
 |none=>refine core (fun b=>if b=a then some (.frz {cls:=.type "list",data:=.seq vs.toArray} (.lst (ns.map V.int)))else none) (fun b=>?_) (.inl (.inr ⟨{cls:=.type "list",data:=.seq vs.toArray},Ae rfl⟩)) (fun b u z=>?_) (fun b z=>?_) fun _=>hk;by_cases hb:b=a;exact .inr ⟨_,_,Ae hb⟩;exact .inl (An hb);by_cases hb:b=a;have z':=(Ae hb).symm.trans z;cases z';subst hb;exact⟨ha,by rw[Aa];exact hl,vs,_,rv,ha⟩;have z':=(An hb).symm.trans z;cases z';by_cases hb:b=a;exact hb;exact absurd (An hb) z
abbrev KOf{K:KFr}(_:K.In h):KFr:=K
theorem wN2{l:PySem.W.OpenLaw}{n k:Nat}{q:Program}{loose:C4}{XP:(B9)->Heap->Prop}{YP:World->Heap->Prop}{d:DefRec}{K:Params->KFr}{CX:World->CXT}{sp:World->Sp}{x:Str}(hn:l.most=some n)(hn2:n<=sizeLine)(hdf:d.params.defaults=[])(hr:Room k callerA)(hY:∀(w:World)(h:Heap),YP w h->(K w.params).In h)(F:∀(w:World)(mg:B9)(fa:Addr)(h:Heap),(K w.params).In h->h.Ns mainGlobals mg->mg d.name=some (.ref fa) ->∃fd:FuncData,(∀(s:Shared)(u:Value),BindsTo s fd ⟨[u],[]⟩ [(x,u)]) /\∀base:Heap,(K w.params).In base->base.Ns mainGlobals mg->FnOk l.prog w (K w.params) mg base (CX w) k fa fd [x] (sp w))(hsp:∀(w:World)(H:Hp)(a:Addr)(ns:C6),ns.length<=n->Only H->SqL (K w.params) H a (ns.map V.int)->sp w [.ref a] H (fun v _=>v=.bl true) fun _ _ _=>False)(hCX:∀(w:World)(H:Hp)(s:Shared)(e:Value)(s':Shared),CX w [] H s (fun _ _ _=>False) e s'->False):PySem.W.WalkO q loose XP YP l.row.toRowW d [] (fun f vs=>PySem.call f vs):=by refine Att.yD3 hn hdf fun w s₀ s₁ mg mb fa o pm cd doc a vs ns G Y ho hd hcd hmg hobj hints hlen hg=>?_;have KX:=hY w _ Y;obtain⟨fd,hb,hF⟩:=F w mg fa _ KX G.T.g hmg;exact wV7 KX G.T.g G.T.b G.T.builtins G.T.nolimit hg hobj hints (As hlen hn2) hr hF hb (fun H hO hS=>hsp w H a ns hlen hO hS) fun H e s'=>hCX w H s₁ e s'
def defArgs(s:Stmt):Arguments:=match s with
 |.FunctionDef _ a _ _ _ _ _ _ _ _=>a
 |_=>{posonlyargs:=[],args:=[],vararg:=none,kwonlyargs:=[],kw_defaults:=[],kwarg:=none,defaults:=[]}
def defBody(s:Stmt):List Stmt:=match s with
 |.FunctionDef _ _ b _ _ _ _ _ _ _=>b
 |_=>[]
def zH(s:Stmt):Scope:=match s with
 |.FunctionDef _ _ _ _ _ _ sc _ _ _=>sc
 |_=>{kind:=.function,names:=[],isGenerator:=false,isCoroutine:=false}
abbrev CX0:CXT:=fun _ _ _ _ _ _=>False
abbrev E0:XK:=fun _ _ _=>False
structure Fun(K:KFr)(x qual:Str)(st:Stmt)(f:Addr)(fd:FuncData):Prop where
 ex:∃(oc:Value)(od:Option Addr)(kV doc pm:Value)(an:Option Addr)(cdv ct:Value)(osl:Array (Option Value)),
  fd=PySem.W.fnOf x qual (defArgs st) (defBody st) (zH st) .none kV doc pm an cdv ct/\K.lookup f=some ⟨oc,od,.func fd,osl⟩/\PySem.W.codeIn K cdv qual=true
 kp:PySem.W.keepIn K (.ref f)=true
section
variable {P:Program}{w:World}{K:KFr}{mg:B9}{base:Heap}
theorem Fun.ok{x:Str}{st:Stmt}{f:Addr}{fd:FuncData}{N:C4}{k:Nat}{sp:Sp}(F:Fun K x qual st f fd)(S:vK N ps (zH st))(len:∀vs H Q E,sp vs H Q E->vs.length=ps.length) (hbody:∀(cdv:Value)(A:Around)(outer:List Env)(s:Shared)(H:Hp)(vs:C8)(Q:VK)(E:XK),Room k (A.deeper (envOfC qual (zH st) s.heap.objs.size f cdv))->sp vs H Q E ->∃t,PSs (cxOf CX0 P w K mg base N qual (zH st) f cdv A outer s H E).nox (defBody st) t/\t {nx:=fun _ H'=>Q .non H',rt:=Q} (start N vs) H):FnOk P w K mg base CX0 (k+1) f fd ps sp:=by obtain⟨oc,od,kV,doc,pm,an,cdv,ct,osl,rfl,lk,hcd⟩:=F.ex;refine yQ2 lk hcd S len fun A outer s H vs Q E hr hsp=>?_;obtain⟨t,h,q⟩:=hbody cdv A outer s H vs Q E hr hsp;exact⟨t,h.nox,q⟩
theorem Fun.binds{x:Str}{st:Stmt}{f:Addr}{fd:FuncData}(F:Fun K x qual st f fd) (h:∀(kV doc pm:Value)(an:Option Addr)(cdv ct:Value)(us:C3),us.length=ps.length->bindArgs (PySem.W.fnOf x qual (defArgs st) (defBody st) (zH st) .none kV doc pm an cdv ct) ⟨us,[]⟩=pure (ps.zip us)):Binds K fd ps []:=by obtain⟨oc,od,kV,doc,pm,an,cdv,ct,osl,rfl,lk,hcd⟩:=F.ex;exact .all (h kV doc pm an cdv ct)
theorem xN1{x:Str}{st:Stmt}{f:Addr}{an:Option Addr}{osl:Array (Option Value)}{kV ct:Value}(l:K.lookup f=some ⟨oc,od,.func (PySem.W.fnOf x qual (defArgs st) (defBody st) (zH st) .none kV doc pm an cdv ct),osl⟩)(c:PySem.W.codeIn K cdv qual=true)(k:PySem.W.keepIn K (.ref f)=true):Fun K x qual st f (PySem.W.fnOf x qual (defArgs st) (defBody st) (zH st) .none kV doc pm an cdv ct):=⟨⟨oc,od,kV,doc,pm,an,cdv,ct,osl,rfl,l,c⟩,k⟩
end
theorem yP1{A:Around}{k:Nat}(hr:Room k A):A.units+1<cLine:=Bo (Nat.add_le_add_left (by decide:1<=64) _) hr.units
theorem small1000{n:Nat}(h:n<=1000):n<sizeLine:=Bo h (by decide)
section
variable {X:Cx}
theorem pv(i:Nat){x:Str}(hN:autoParam (X.N[i]?=some x) Ey)(hv:autoParam (Vis X.env.scope x) Eu)(hd:autoParam ((x==("__debug__":Str))=false) Ex)(hcd:autoParam ((x==("__classdict__":Str))=false) Ex):PE X (.Name x pos) (tVar i):=qI hN hv hd hcd
end
theorem iteF{A B:Prop}(h:B):if false=true then A else B:=by rw[An AY];exact h
theorem iteT{A B:Prop}(h:A):if true=true then A else B:=by rw[Ae rfl];exact h
def Same(H H':Hp):Prop:=∀b o,H b=some o->H' b=some o
theorem Same.refl(H:Hp):Same H H:=fun _ _ h=>h
theorem Same.trans{H2:Hp}(a:Same H H1)(b:Same H1 H2):Same H H2:=fun c o h=>b c o (a c o h)
theorem Same.free(e:Same H H'){l:Addr}(h:H' l=Option.none):H l=Option.none:=by
 cases q:H l with
 |none=>rfl
 |some o=>rw[e l o q]at h;cases h
end L2
set_option maxHeartbeats 2000000
namespace PySem
section
variable {prog:Program}{w:World}{A:Around}{E:A8}{s:Shared}
theorem xU2{x:Value}{Q:List Value->Shared->Prop}(k:codeAny (model prog w) A (.builtin "list.__iadd__" ⟨[.ref s.heap.objs.size,x],[]⟩) (wants (fun v s'=>v=.ref s.heap.objs.size/\∃acc n,s'.heap.get? s.heap.objs.size=some {cls:=.type "list",data:=.seq acc n}/\Q acc.toList s') E) {s with heap:=s.heap.push {cls:=.type "list",data:=.seq #[]}}):wpAny (model prog w) A (collect x) Q E s:=by
 wp_walk
 have h1:=F.entry_proto_collect;have h2:=F.plain_proto_collect;have h3:=F.plain_list_iadd;refine codeAny_builtin h1 ?_;rw[Around.under_plainId h2];wp_walk
 refine⟨plainId_quiet h3 _,codeAny_mono k fun r s' hr=>?_⟩;cases r with
 |error e=>exact hr
 |ok f=>
  cases f with
  |ret v=>obtain⟨rfl,acc,n,g,q⟩:=hr;exact Ai (wpAny_load g (AK q))
  |_=>exact hr.elim
theorem yD7{x:Value}{S:Spec}{Q:List Value->Shared->Prop}(m:MeetsIn prog w (Builtin.List.listExtendWith (.ref s.heap.objs.size) x (.ref s.heap.objs.size)) S)(k:S A (wants (fun v s'=>v=.ref s.heap.objs.size/\∃acc n,s'.heap.get? s.heap.objs.size=some {cls:=.type "list",data:=.seq acc n}/\Q acc.toList s') E) {s with heap:=s.heap.push {cls:=.type "list",data:=.seq #[]}}):wpAny (model prog w) A (collect x) Q E s:=by have z:=F.plain_list_iadd;have y:=m A _ _ k;refine xU2 (codeAny_builtin F.entry_list_iadd ?_);rw[Around.under_plainId z];exact y
theorem wY3{r:Addr}{T:String}(ne:(Value.type T==.type "tuple")=false)(ty:s.TypeIs (.ref r) T)(k:wpAny (model prog w) A.in1.in1 (collect (.ref r)) (fun vs s'=>vs.length<=sizeLine/\Q (.ref s'.heap.objs.size) {s' with heap:=s'.heap.push {cls:=.type "tuple",data:=.seq vs.toArray}}) E s):wpAny (model prog w) A (call (.type "tuple") [.ref r]) Q E s:=by
 refine callType_newIn F.called_tuple (by decide) (F.typeCall_tuple_1 _) (F.newCall_tuple_1 _) (fun o=>F.args_object_init_2 o _) F.entry_tuple_new (S:=fun B R t=>t=s/\B=A.in1/\R=wants (fun obj s₁=>s₁.TypeIs obj "tuple"/\Q obj s₁) E) (.of_wp fun B R t h=>?_) ⟨rfl,rfl,rfl⟩;obtain⟨rfl,rfl,rfl⟩:=h;have a1:=sub_tuple_self;have a2:=init_tuple_lookup;have a3:=madeHere_tuple;have a4:∀(P:Bool->Shared->Prop)(E':A8),P false t->wpAny (model prog w) A.in1.in1 (Builtin.Tuple.tupleIsExact (.ref r)) P E' t:=fun P E' p=>by
  wp_walk using wpAny_typeOf ty
  first|exact p|(simp only[ne];exact p)
 have a5:∀P:List Value->Shared->Prop,(∀vs s',vs.length<=sizeLine/\Q (.ref s'.heap.objs.size) {s' with heap:=s'.heap.push {cls:=.type "tuple",data:=.seq vs.toArray}}->P vs s')->wpAny (model prog w) A.in1.in1 (collect (.ref r)) P E t:=fun P p=>wpAny_mono k p fun _ _ z=>z;wp_walk using wpAny_typeOf ty,a4,a5
 intro vs s' ⟨hz,q⟩;unfold Builtin.Tuple.tupleExact;wp_walk
 exact⟨_,rfl,⟨_,AO _ rfl,rfl⟩,q⟩
theorem xL6{r:Addr}{a b c:Int}{t u v:Tok}{n:Nat}(hh:A.handled=none)(hr:IsRange s.heap r a b c t u v)(sm:Builtin.Range.small a b c=true)(hn:Builtin.Range.rangeSize a b c=n)(hz:n<=1000000)(q:∀(h':Heap)tk vs,(∀b o,s.heap.get? b=some o->h'.get? b=some o)->ItemsOf (fun i v=>∃t,v=.int (a+i*c) t) vs n->Q (.ref h'.objs.size) {s with heap:=h'.push {cls:=.type "tuple",data:=.seq vs},toks:=tk}):wpAny (model prog w) A (call (.type "tuple") [.ref r]) Q E s:=by
 have big:(2:Nat)^24<=sizeLine:=by decide
 refine wY3 (T:="range") (by decide) ⟨_,hr,rfl⟩ (yD7 (S:=fun B R x=>B=A.in1.in1/\x={s with heap:=s.heap.push {cls:=.type "list",data:=.seq #[]}} /\∀h' tk vs e,(∀b o,b≠s.heap.objs.size->x.heap.get? b=some o->h'.get? b=some o)->h'.get? s.heap.objs.size=some {cls:=.type "list",data:=.seq vs e}->ItemsOf (fun i v=>∃t,v=.int (a+i*c) t) vs n->R (.ok (.ret (.ref s.heap.objs.size))) {x with heap:=h',toks:=tk}) (fun B R x y=>?_) ⟨rfl,rfl,fun h' tk vs e keep at_ its=>⟨rfl,vs,e,at_,?_,?_⟩⟩);obtain⟨rfl,rfl,y⟩:=y;exact wpAny_extend_range (A:=A.in1.in1) hh (Am _ hr) sm hn (by rfl') _ _ _ (AO _ rfl) y;have:=its.1;rw[BW];rfl';rw[Array.toArray_toList];exact q h' tk vs (fun b o g=>keep b o (AW (Au g)) (Am _ g)) its
theorem xN8{l:Addr}{its:Array Value}{P:A8}(hh:A.handled=none)(hl:s.heap.IsList l its)(k:∀(I:Addr)(hp:Heap)(St:Nat->Heap->Prop),Walks prog w A I [I,l] [I] its.size (fun i v=>its[i]?=some v) St->St 0 hp->I<hp.objs.size->l<hp.objs.size->(∀b o,s.heap.get? b=some o->b≠I/\hp.get? b=some o)->P (.ref I) {s with heap:=hp}):wpAny (model prog w) A (pyIter (.ref l)) P E s:=by
 have on:∀{b:Addr}{o:Obj},s.heap.get? b=some o->b<s.heap.objs.size:=fun g=>Au g;have ll:l<s.heap.objs.size:=let ⟨_,g,_⟩:=hl;on g
 refine wpAny_pyIter_list hl (k _ _ _ (Walks.list hh _ l (AW ll) its) ⟨⟨_,AO _ rfl,rfl,rfl⟩,hl.at fun _ g=>Am _ g⟩ ?_ ?_ fun b o g=>⟨AW (on g),Am _ g⟩);exact DE (DU _) (CT ..).symm;exact DE (Nat.lt_succ_of_lt ll) (CT ..).symm
theorem yO8{l:Addr}{its:Array Value}{P:A8}(hh:A.handled=none)(hl:s.heap.IsTuple l its)(k:∀(I:Addr)(hp:Heap)(St:Nat->Heap->Prop),Walks prog w A I [I,l] [I] its.size (fun i v=>its[i]?=some v) St->St 0 hp->I<hp.objs.size->l<hp.objs.size->(∀b o,s.heap.get? b=some o->b≠I/\hp.get? b=some o)->P (.ref I) {s with heap:=hp}):wpAny (model prog w) A (pyIter (.ref l)) P E s:=by
 have on:∀{b:Addr}{o:Obj},s.heap.get? b=some o->b<s.heap.objs.size:=fun g=>Au g;have ll:l<s.heap.objs.size:=let ⟨_,g,_⟩:=hl;on g
 refine wpAny_pyIter_tuple hl (k _ _ _ (Walks.tuple hh _ l (AW ll) its) ⟨⟨_,AO _ rfl,rfl,rfl⟩,hl.at fun _ g=>Am _ g⟩ ?_ ?_ fun b o g=>⟨AW (on g),Am _ g⟩);exact DE (DU _) (CT ..).symm;exact DE (Nat.lt_succ_of_lt ll) (CT ..).symm
theorem wS8{l b:Addr}{xs ys:Array Value}{n m:Nat}{o:Obj}(hc:o.cls=.type "tuple")(hd:o.data=.seq ys m)(fit:xs.size+ys.size<=sizeLine):Meets (Builtin.«list.extend» ⟨[.ref l,.ref b],[]⟩) (fun _ R x=>x.heap.get? l=some {cls:=.type "list",data:=.seq xs n}/\x.heap.get? b=some o/\R (.ok (.ret .none)) {x with heap:=x.heap.update l (Obj.mapSeq (·++ys))}):=.of_wp fun prog w A R x⟨hl,hb,k⟩=>by
  have t:x.TypeIs (.ref b) "tuple":=⟨o,hb,hc⟩;have e1:Builtin.List.listTooLong (xs.size+ys.size)=false:=by unfold Builtin.List.listTooLong;simpa using fit
  have e2:(xs++ys).size<=sizeLine+1:=by rw[Array.size_append];rfl'
  have e3:xs.size<=sizeLine:=by rfl'
  wp_walk using wpAny_typeOf t,wpAny_seqItems hl rfl,wpAny_seqItems hb hd,wpAny_updateSeq hl rfl
  exact⟨_,rfl,k⟩
section
variable {it t:Addr}{i:Nat}{its:Array Value}
end
theorem xI7{M:Model}{g bi:Addr}{cl:List (Str×Addr)}{qual:Str}{cd:Value}{outer:Env}{P:Value->Env->Shared->Prop}(nocell:∀y∈scope.names,y.2≠.cell)(kind:scope.kind=.function)(k:∀(D C:Addr)(hp:Heap)(m:B9),s.heap.objs.size<=D->s.heap.objs.size<=C->D≠C->(∀b o,s.heap.get? b=some o->hp.get? b=some o)->hp.get? D=some {cls:=.type "list",data:=.seq #[]}->hp.Ns C m->P (.ref D) (newEnv scope C g cl qual none cd (some outer) bi) {s with heap:=hp}):wpAny M A (newList []) (fun acc x=>wpAny M A (newFunctionEnv scope g cl [] qual none cd (some outer) bi) (fun e y=>P acc e y) E x) E s:=by unfold newList;refine wpAny_newObj_type (wpAny_newFunctionEnv nocell (fun _ z=>nomatch z) (fun hp ns sb=>?_) kind);have z:(s.heap.push {cls:=.type "list",data:=.seq #[]}).objs.size=s.heap.objs.size+1:=CT ..;have up:∀b o,(s.heap.push {cls:=.type "list",data:=.seq #[]}).get? b=some o->hp.get? b=some o:=fun b o q=>sb.extBut b o (AW (Au q)) (Am _ q);exact k _ _ hp _ (Ac _) (by show _<=(s.heap.push _).objs.size;rw[CT];rfl') (by show _≠(s.heap.push _).objs.size;rw[CT];rfl') (fun b o q=>up b o (Am _ q)) (up _ _ (AO _ rfl)) ns
end
end PySem
set_option maxHeartbeats 2000000
namespace PySem
section
variable {prog:Program}{w:World}{A:Around}{E:A8}{s:Shared}
end
end PySem
namespace L2
open PySem PySem.Spec PyProof.Rows
theorem HOk.track{w:World}{a:Addr}{o:HO}(x:HOk P w H h)(hn:H a=none)(new:ObjOk P w (upd H a o) h a o):HOk P w (upd H a o) h:=fun b u e=>by by_cases hb:b=a;subst hb;rw[yU]at e;cases e;exact new;rw[zJ hb]at e;exact(x b u e).stay (fun c v _ q=>q) (fun c q=>by rw[zJ (xE q hn)];exact q) fun c xs q=>by rw[zJ (xE q hn)];exact q
def clos(cells:List (Str×Addr)):List (Str×NameKind)->List (Str×Addr)->List (Str×Addr)
 |[],acc=>acc
 |(n,k)::r,acc=>if k==.free then clos cells r ((n,(cells.lookup n).getD 0)::acc)else clos cells r acc
theorem fZ{env:Env}:∀(names:List (Str×NameKind))(acc:List (Str×Addr)),(∀n,(n,NameKind.free)∈names->∃c,env.cells.lookup n=some c) ->(forIn names acc fun(x:Str×NameKind)(r:List (Str×Addr))=>(do
   let (name,kind):=x
   if kind==.free then do
    let c<-cellOf env name
    pure (ForInStep.yield ((name,c)::r))
   else pure (ForInStep.yield r):Sem (ForInStep (List (Str×Addr)))))=pure (clos env.cells names acc)
 |[],acc,_=>rfl
 |(n,k)::r,acc,h=>by
  rw[List.forIn_cons];by_cases hk:(k==NameKind.free)=true;have ek:k=NameKind.free:=by simpa using hk
  obtain⟨c,hc⟩:=h n (by rw[ek];exact Af);have e1:cellOf env n=pure c:=by unfold cellOf;rw[hc]
  simp only[hk,if_true,e1,pure_bind];rw[fZ r _ fun m hm=>h m (Ak _ hm)];show _=pure (if (k==NameKind.free)=true then clos env.cells r ((n,(env.cells.lookup n).getD 0)::acc)else clos env.cells r acc);rw[Ae hk,hc];rfl;simp only[hk,if_false,pure_bind,AT];rw[fZ r _ fun m hm=>h m (Ak _ hm)];show _=pure (if (k==NameKind.free)=true then clos env.cells r ((n,(env.cells.lookup n).getD 0)::acc)else clos env.cells r acc);rw[An hk]
theorem yS4{env:Env}(h:∀n,(n,NameKind.free)∈scope.names->∃c,env.cells.lookup n=some c):closureFor scope env=pure (clos env.cells scope.names []):=by
 unfold closureFor;have:=fZ (env:=env) scope.names [] h;simp only[]at this ⊢;rw[show(forIn scope.names ([]:List (Str×Addr)) fun(x:Str×NameKind)(r:List (Str×Addr))=>(do
   if x.2==.free then do
    let c<-cellOf env x.1
    pure (ForInStep.yield ((x.1,c)::r))
   else pure (ForInStep.yield r):Sem (ForInStep (List (Str×Addr)))))=pure (clos env.cells scope.names [])from this]
 rfl
theorem zX2{cells:List (Str×Addr)}:∀(names:List (Str×NameKind))(acc:List (Str×Addr)),(∀n,(n,NameKind.free)∈names->∃c,cells.lookup n=some c)->(∀x c,acc.lookup x=some c->cells.lookup x=some c) ->∀x c,(clos cells names acc).lookup x=some c->cells.lookup x=some c
 |[],acc,_,ha,x,c,e=>ha x c e
 |(n,k)::r,acc,h,ha,x,c,e=>by
  unfold clos at e;by_cases hk:(k==NameKind.free)=true;rw[Ae hk]at e;have ek:k=NameKind.free:=by simpa using hk
  obtain⟨d,hd⟩:=h n (by rw[ek];exact Af);refine zX2 r _ (fun m hm=>h m (Ak _ hm)) (fun y z q=>?_) x c e;rw[hd,Dt,BS]at q;by_cases hy:(y==n)=true;simp only[hy]at q;have ey:y=n:=by simpa using hy
  cases q;rw[ey];exact hd;simp only[hy]at q;exact ha y z q;rw[An hk]at e;exact zX2 r _ (fun m hm=>h m (Ak _ hm)) ha x c e
theorem zJ4{cells:List (Str×Addr)}:∀(names:List (Str×NameKind))(acc:List (Str×Addr))(x:Str),(∃c,acc.lookup x=some c)->∃c,(clos cells names acc).lookup x=some c
 |[],acc,x,h=>h
 |(n,k)::r,acc,x,h=>by unfold clos;by_cases hk:(k==NameKind.free)=true;rw[Ae hk];refine zJ4 r _ x ?_;rw[BS];by_cases hy:(x==n)=true;simp only[hy];exact⟨_,rfl⟩;simp only[hy];exact h;rw[An hk];exact zJ4 r _ x h
theorem fW{cells:List (Str×Addr)}:∀(names:List (Str×NameKind))(acc:List (Str×Addr))(x:Str),(x,NameKind.free)∈names->∃c,(clos cells names acc).lookup x=some c
 |(n,k)::r,acc,x,h=>by unfold clos;rcases AF.mp h with e|e;cases e;rw[Ae (by rfl)];refine zJ4 r _ _ ?_;rw[BS];simp only[beq_self_eq_true];exact⟨_,rfl⟩;by_cases hk:(k==NameKind.free)=true;rw[Ae hk];exact fW r _ x e;rw[An hk];exact fW r _ x e
theorem xS2(env:Env):∃f:Str×NameKind->Str×NameKind,(∀sc:Scope,(relabel sc env).names=sc.names.map f)/\∀q,f q=q\/(q.2=.free/\f q=(q.1,.cell)):=by refine⟨_,fun _=>rfl,fun q=>?_⟩;dsimp only;split;rename_i z;exact .inr ⟨eq_of_beq (Dp.mp (Dp.mp z).1).1,rfl⟩;exact .inl rfl
theorem yW5{f:Str×NameKind->Str×NameKind}(hf:∀q,f q=q\/(q.2=.free/\f q=(q.1,.cell)))(x:Str):∀l:List (Str×NameKind),(l.map f).lookup x=l.lookup x\/(l.lookup x=some .free/\(l.map f).lookup x=some .cell)
 |[]=>.inl rfl
 |(n,k)::r=>by
  have ih:=yW5 hf x r;rw[AB];rcases hf (n,k)with e|⟨e1,e⟩;rw[e];cases q:x==n with
  |true=>exact .inl (by rw[BS,BS,q])
  |false=>simpa only[BS,q]using ih
  cases e1;rw[e];cases q:x==n with
  |true=>exact .inr ⟨by rw[BS,q],by rw[BS,q]⟩
  |false=>simpa only[BS,q]using ih
theorem zP2(sc:Scope)(env:Env)(x:Str):(relabel sc env).names.lookup x=sc.names.lookup x\/(sc.names.lookup x=some .free/\(relabel sc env).names.lookup x=some .cell):=by obtain⟨f,e,hf⟩:=xS2 env;rw[e sc];exact yW5 hf x sc.names
theorem gY{env:Env}{x:Str}{k:NameKind}(h:(relabel sc env).names.lookup x=some k):sc.names.lookup x=some k\/(k=.cell/\sc.names.lookup x=some .free):=by rcases zP2 sc env x with e|⟨e1,e2⟩;exact .inl (e.symm.trans h);exact .inr ⟨Ba (h.symm.trans e2),e1⟩
theorem zU8{env:Env}{x:Str}(h:sc.names.lookup x=some .free):(relabel sc env).names.lookup x=some .cell\/(relabel sc env).names.lookup x=some .free:=by rcases zP2 sc env x with e|⟨_,e⟩;exact .inr (e.trans h);exact .inl e
def cxComp(X:Cx)(N:C4)(scope:Scope)(C:Addr)(fp:C9)(s₂:Shared)(H:Hp):Cx where
 prog:=X.prog
 w:=X.w
 K:=X.K
 mg:=X.mg
 base:=X.base
 A:=X.A
 N:=N
 s₀:=s₂
 H₀:=H
 env:=compEnvC scope (clos X.env.cells scope.names []) C X.env
 outer:=X.stack
 stack:=X.stack
 ex:=fp
 fn:=fun _=>false
 calm:=X.calm
 pn:=[]
 xe:=fun _ _=>False
structure CompScope(sc0 scope:Scope)(N0:C4)(xt:Str)(fs:C4)(js:C5):Prop where
 kind:scope.kind=.function
 nocell:∀y∈scope.names,y.2≠.cell
 names:∀y∈scope.names,y.2=.local->scope.names.lookup y.1=some .local
 tgt:scope.names.lookup xt=some .local
 frees:∀y∈scope.names,y.2=.free->sc0.names.lookup y.1=some .cell\/sc0.names.lookup y.1=some .free
 len:js.length=fs.length
 slots:∀p∈fs.zip js,N0[p.2]?=some p.1/\scope.names.lookup p.1=some .free
 nd:(xt::fs).Nodup
theorem yZ9{α β:Type}:∀{fs:List α}{js:List β}{i:Nat}{y:α}{j:β},fs[i]?=some y->js[i]?=some j->(y,j)∈fs.zip js
 |[],_,_,_,_,h,_=>by simp at h
 |_::_,[],_,_,_,_,h=>by simp at h
 |a::fs,b::js,0,y,j,h,h'=>by simp at h h';subst h h';exact Af
 |a::fs,b::js,i+1,y,j,h,h'=>by rw[List.zip_cons_cons];exact Ak _ (yZ9 (i:=i) (by simpa using h) (by simpa using h'))
def compSt(σ:St)(js:C5)(v:Option V):St:=v::js.map fun j=>(σ[j]?).join
section
variable {X:Cx}{EA:A9}{σ:St}{H:Hp}{s₂ s₄:Shared}{sc0 scope:Scope}{N0:C4}{xt:Str}{fs:C4}{js:C5}{fp:C9}
theorem CompScope.cells(S:CompScope sc0 scope N0 xt fs js)(h0:X.env.scope=sc0)(ok:X.Ok):∀n,(n,NameKind.free)∈scope.names->∃c,X.env.cells.lookup n=some c:=fun n hn=>ok.has n (by subst h0;exact S.frees _ hn rfl)
theorem CompScope.sub(S:CompScope sc0 scope N0 xt fs js)(h0:X.env.scope=sc0)(ok:X.Ok):∀x c,(clos X.env.cells scope.names []).lookup x=some c->X.env.cells.lookup x=some c:=zX2 scope.names [] (S.cells h0 ok) fun x c e=>by simp at e
theorem Inv.block(S:CompScope sc0 scope N0 xt fs js)(h0:X.env.scope=sc0)(hN0:X.N=N0)(I:Inv X EA σ H s₂)(hf:∀b∈fp,FpOk X EA H b)(hfo:∀b∈fp,∃o,s₂.heap.get? b=some o) (hos:s₄.os=s₂.os) (hg:AllBare s₄.gens) (hk:∀b o,s₂.heap.get? b=some o->s₄.heap.get? b=some o){C:Addr}(hC:s₂.heap.objs.size<=C){m:B9}(hn:s₄.heap.Ns C m):Inv (cxComp X (xt::fs) scope C fp s₂ H) [] (compSt σ js none) H s₄:=by
 have sub:=S.sub h0 I.ok;have blt:∀b∈fp,b<s₂.heap.objs.size:=fun b hb=>let ⟨o,e⟩:=hfo b hb;Au e
 have ok:(cxComp X (xt::fs) scope C fp s₂ H).Ok:=by
  refine⟨I.ok.mod,S.kind,I.ok.glob,I.ok.blt,hC,fun x y c h1 h2=>I.ok.inj x y c (sub x c h1) (sub y c h2),fun x hx=>?_,fun x c h=>(nomatch h),I.ok.hd,I.ok.frames,.inl rfl,fun b hb=>⟨?_,fun x c h=>(hf b hb).2.2.2.2.1 x c (sub x c h)⟩,I.bs,As I.ok.bsz I.sz,fun b o e hb=>?_,fun b hb hs=>?_,I.stack,I.stkFree⟩;have hx:(relabel scope X.env).names.lookup x=some .cell\/(relabel scope X.env).names.lookup x=some .free:=hx;have hfree:scope.names.lookup x=some .free:=by rcases hx with hx|hx;rcases gY hx with q|⟨_,q⟩;exact absurd rfl (S.nocell _ (Bc q));exact q;rcases gY hx with q|⟨q,_⟩;exact q;cases q
  exact fW scope.names [] x (Bc hfree);exact AW (AA (blt b hb) hC);rcases (hf b hb).2.2.2.1 with z|z;exact I.ok.noex b o e z;exact absurd (AA (Au (I.ok.bs b o e).1) z) (CL _);rcases AF.mp (I.stkSub b hs)with z|z;exact(hf b hb).2.1 z;exact(hf b hb).2.2.1 z
 refine⟨ok,hos,hg,Un.kept hk,⟨m,hn,fun i x v e1 e2 e3=>?_⟩,fun x c e=>?_,I.hok.fresh hC,fun x c e=>I.freeC x c (sub x c e),fun p hp=>absurd (show p∈([]:A9)from hp) (by simp),I.hok.kept hk,?_⟩;cases i with
 |zero=>cases e2
 |succ i=>
  have e1:fs[i]?=some x:=e1;have e2:(js.map fun j=>(σ[j]?).join)[i]?=some (some v):=e2;rw[Al]at e2;cases ej:js[i]? with
  |none=>rw[ej]at e2;cases e2
  |some j=>
   rw[ej]at e2;have e2:(σ[j]?).join=some v:=Ba e2;obtain⟨hN,hfr⟩:=S.slots _ (yZ9 e1 ej);have hN:X.N[j]?=some x:=(by rw[hN0];exact hN);have hk2:X.env.kindOf x=some .cell\/X.env.kindOf x=some .free:=(by subst h0;exact S.frees _ (Bc hfr) rfl);have hs:σ[j]?=some (some v):=by
    cases q:σ[j]? with
    |none=>rw[q]at e2;cases e2
    |some z=>rw[q]at e2;rw[show z=some v from e2]
   obtain⟨m0,hn0,hl⟩:=I.loc;obtain⟨u,r,l⟩:=hl j x v hN hs (by rcases hk2 with z|z;exact .inr (.inl z);exact .inr (.inr z));refine⟨u,r,?_⟩;rcases l with⟨hloc,_⟩|⟨_,c,hc,hcell⟩;rcases hk2 with z|z;rw[z]at hloc;cases hloc;rw[z]at hloc;cases hloc;obtain⟨c',hc'⟩:=fW (cells:=X.env.cells) scope.names [] x (Bc hfr);have:c'=c:=Ba ((sub x c' hc').symm.trans hc);subst this;exact .inr ⟨zU8 hfr,c',hc',hcell.keeps hk⟩
 obtain⟨v,z⟩:=I.cell x c (sub x c e);exact⟨v,z.keeps hk⟩;show(compSt σ js none).length=(xt::fs).length;unfold compSt;rw[Aw,Aa,Aw,S.len]
theorem Inv.unblock{pins':A9}{σ':St}{s':Shared}{h'':Heap}{C D:Addr}{its:C3}{n:Nat}{acc:C8}{N:C4}(I:Inv X EA σ H s₂)(hf:∀b∈fp,FpOk X EA H b) (J:Inv (cxComp X N scope C fp s₂ H) pins' σ' H' s') (hC:s₂.heap.objs.size<=C) (hD:s₂.heap.objs.size<=D) (hDC:D≠C) (hHD:H' D=none) (hd:s'.heap.get? D=some {cls:=.type "list",data:=.seq its.toArray n}) (hv:Vals acc its) (hz:acc.length<=sizeLine) (hsb:Heap.SameBut C s'.heap h''):Inv X EA σ (upd H' D (.lst acc)) {s' with heap:=h''}:=by
 have hd2:h''.get? D=some {cls:=.type "list",data:=.seq its.toArray n}:=(hsb.2 D hDC).trans hd;have keep:∀b o,b<s₂.heap.objs.size->s'.heap.get? b=some o->h''.get? b=some o:=fun b o hb e=>(hsb.2 b (AW (AA hb hC))).trans e;have hHC:H' C=none:=J.free;have ok1:HOk X.prog X.w H' h'':=fun b o e=>(J.hok b o e).stay (fun c v hc q=>(hsb.2 c (by
   rcases hc with z|z;rw[z];exact fun w=>by rw[w,hHC]at e;cases e
   exact fun w=>by rw[w,hHC]at z;cases z)).trans q) (fun _ q=>q) fun _ _ q=>q
 have ok2:HOk X.prog X.w (upd H' D (.lst acc)) h'':=ok1.track hHD ⟨hz,its,n,hv,hd2⟩;have un:Un (frs X.stack) fp H (upd H' D (.lst acc)) s₂.heap h'':=by have u:=J.base;refine⟨fun b o e nb h1 h2=>keep b o (Au e) (u.keep b o e nb h1 h2),fun b o e nb h1 h2=>?_,fun b o e nb h2=>?_,fun b o e h2=>?_,fun b xs e=>?_,fun b o v e=>?_,fun b ps e=>?_⟩;obtain⟨sl,q⟩:=u.slot b o e nb h1 h2;exact⟨sl,keep b _ (Au e) q⟩;rw[zJ (AW (AA (Au e) hD))];exact u.free b o e nb h2;obtain⟨o',q⟩:=u.there b o e h2;exact⟨o',keep b _ (Au e) q⟩;have q:=u.tups b xs e;rw[zJ (xE q hHD)];exact q;have q:=u.frzs b o v e;rw[zJ (xE q hHD)];exact q;obtain⟨more,q⟩:=u.tbls b ps e;exact⟨more,by rw[zJ (xE q hHD)];exact q⟩
 obtain⟨hh,g,d,t,os'⟩:=s';obtain rfl:os'=s₂.os:=J.os;exact Inv.call (s:=s₂) I (h':=h'') (g':=g) (d':=d) (t':=t) (ch:=fp) un ok2 J.bare fun b hb=>⟨(hf b hb).2.2.2.1,(hf b hb).2.1,(hf b hb).2.2.2.2.1,(hf b hb).2.2.2.2.2⟩
end
def tTrue:TT:=fun _ H Q=>Q true H
inductive PTs(X:Cx):List Expr->TT->Prop
 |nil:PTs X [] tTrue
 |one {c:Expr}{t:TT}:PT X c t->PTs X [c] t
theorem Same.new{p:Addr}{o:HO}(h:H p=none):Same H (upd H p o):=fun b u e=>by rw[zJ (xE e h)];exact e
def Small(i:Int):Prop:=∃k,k<=1000000/\i.natAbs<2^k
theorem Small.bits{i:Int}(h:Small i):Builtin.Int.intBits i<=2^20:=by
 obtain⟨k,hk,hi⟩:=h;unfold Builtin.Int.intBits;by_cases h0:(i==0)=true;rw[Ae h0];exact Cb _;rw[An h0];have hn:i.natAbs≠0:=by
  intro z;have:i=0:=by rfl'
  rw[this]at h0;exact h0 rfl
 have:=(DG hn).mpr hi;have e:(2:Nat)^20=1048576:=by decide
 rfl'
section
variable {X:Cx}
theorem yU2(hc:X.calm=true):CallR X (.builtin "sum") (fun xs H Q=>∃(p:Addr)(ns:C6),xs=[.ref p]/\SqL X.K H p (ns.map V.int)/\Q (.int ns.sum) H):=by intro EA s σ H xs us Q I r h;obtain⟨p,ns,rfl,hq,q⟩:=h;obtain⟨u,rfl,ru⟩:=vals1 r;cases ru;obtain⟨its,rv,pl,hz⟩:=I.list hq;have hi:IntsAre its ns:=dF rv;obtain⟨xs,e⟩:=hi.allInts.items;refine sum_intListG (I.ok.hd hc) (by rw[<-e];exact pl.isList) fun h' tk t' hk=>⟨.int ns.sum,H,I.kept hk,⟨t',?_⟩,q⟩;congr 1;rw[preSum_eq,Bd (by simp),<-nums_intItems,<-e];show(numsOf its).sum=ns.sum;rw[hi.numsOf]
end
mutual
inductive DatV(K:KFr)(H:Hp):V->PyData->Prop
 |non:DatV K H .non .none
 |bl (b:Bool):DatV K H (.bl b) (.bool b)
 |int (i:Int):DatV K H (.int i) (.int i)
 |str (x:Str):DatV K H (.str x) (.str x)
 |lst {a:Addr}{xs:C8}{ds:List PyData}:SqL K H a xs->DatAll K H xs ds->DatV K H (.ref a) (.list ds)
 |tup {a:Addr}{xs:C8}{ds:List PyData}:SqT K H a xs->DatAll K H xs ds->DatV K H (.ref a) (.tuple ds)
inductive DatAll(K:KFr)(H:Hp):List V->List PyData->Prop
 |nil:DatAll K H [] []
 |cons {v:V}{d:PyData}{vs:C8}{ds:List PyData}:DatV K H v d->DatAll K H vs ds->DatAll K H (v::vs) (d::ds)
end
section
variable {X:Cx}{EA:A9}{σ:St}{H:Hp}{s:Shared}
mutual
theorem Inv.reads(I:Inv X EA σ H s):∀{v:V}{d:PyData}{u:Value},DatV X.K H v d->RelV v u->∃as,Reads s.heap u d as
 |_,_,_,.non,r=>by cases r;exact⟨_,.none⟩
 |_,_,_,.bl b,r=>by cases r;exact⟨_,.bool b⟩
 |_,_,_,.int i,r=>by obtain⟨t,rfl⟩:=r;exact⟨_,.int i t⟩
 |_,_,_,.str x,r=>by obtain⟨t,rfl⟩:=r;exact⟨_,.str x t⟩
 |_,_,_,.lst hq ha,r=>by cases r;obtain⟨its,rv,⟨o,n,ho,hc,_,hd⟩,_⟩:=I.list hq;obtain⟨as,z⟩:=Inv.readsAll I ha rv;exact⟨_,.list ho hc hd (by simpa using z)⟩
 |_,_,_,.tup hq ha,r=>by cases r;obtain⟨its,rv,⟨o,ho,hc,n,hd⟩,_⟩:=I.tuple hq;obtain⟨as,z⟩:=Inv.readsAll I ha rv;exact⟨_,.tuple ho hc hd (by simpa using z)⟩
theorem Inv.readsAll(I:Inv X EA σ H s):∀{vs:C8}{ds:List PyData}{us:C3},DatAll X.K H vs ds->Vals vs us->∃as,ReadsAll s.heap us ds as
 |_,_,_,.nil,r=>by cases r;exact⟨_,.nil⟩
 |_,_,_,.cons h t,r=>by
  cases r with
  |cons r1 r2=>obtain⟨as,z⟩:=Inv.reads I h r1;obtain⟨bs,z'⟩:=Inv.readsAll I t r2;exact⟨_,.cons z z'⟩
end
end
section
variable {X:Cx}
def rEqD(K:KFr)(neg:Bool):R2:=fun x y H Q=>∃dx dy,DatV K H x dx/\DatV K H y dy/\SeqAt.shaped dx=true/\SeqAt.shaped dy=true/\Q (.bl (if neg then !PyData.eqv dx dy else PyData.eqv dx dy)) H
theorem yT(hu:X.A.units+64<cLine):OpR X (compareOp .Eq) (rEqD X.K false):=by intro EA s σ H x y v u Q I rx ry h;obtain⟨dx,dy,h1,h2,s1,s2,q⟩:=h;obtain⟨as,z1⟩:=I.reads h1 rx;obtain⟨bs,z2⟩:=I.reads h2 ry;exact eq_dataH z1 z2 s1 s2 hu ⟨.bl _,H,I,rfl,q⟩
theorem kP(hu:X.A.units+64<cLine):OpR X (compareOp .NotEq) (rEqD X.K true):=by intro EA s σ H x y v u Q I rx ry h;obtain⟨dx,dy,h1,h2,s1,s2,q⟩:=h;obtain⟨as,z1⟩:=I.reads h1 rx;obtain⟨bs,z2⟩:=I.reads h2 ry;exact ne_dataH z1 z2 s1 s2 hu ⟨.bl _,H,I,rfl,q⟩
end
theorem yD8(ns ms:C6):PyData.eqvAll (ns.map PyData.int) (ms.map PyData.int)=decide (ns=ms):=PySem.W.ked_eqvAll ns ms
theorem zN7(ns:C6):SeqAt.shaped (.list (ns.map PyData.int))=true:=PySem.W.ke_shaped_ints ns
theorem wS6(ns ms:C6):PyData.eqv (.list (ns.map PyData.int)) (.list (ms.map PyData.int))=decide (ns=ms):=by rw[PyData.eqv];exact yD8 ns ms
theorem xM7(x:Value)(kw:List (Str×Value)):Builtin.«sorted» ⟨[x],kw⟩=collect x>>=fun xs=>newList xs>>=fun l=>holding [l] (call (.builtin "list.sort") [l] kw)>>=fun _=>ret l:=rfl
section
variable {X:Cx}
theorem cM:CallR X (.builtin "sorted") (fun xs H Q=>∃(p:Addr)(ns:C6),xs=[.ref p]/\(SqL X.K H p (ns.map V.int)\/SqT X.K H p (ns.map V.int))/\ns.length<64 /\∀(l:Addr)(ms:C6),H l=none->ms.Perm ns->ms.Pairwise (· <= ·)->Q (.ref l) (upd H l (.lst (ms.map V.int)))):=by
 intro EA s σ H xs us Q I r h;obtain⟨p,ns,rfl,hq,h64,q⟩:=h;obtain⟨u,rfl,ru⟩:=vals1 r;cases ru;obtain⟨T,o,its,n,hT,ho,hc,hd,rv,hz⟩:∃T o its n,(T="list"\/T="tuple")/\s.heap.get? p=some o/\o.cls=.type T/\o.data=.seq its n/\Vals (ns.map V.int) its.toList/\(ns.map V.int).length<=sizeLine:=by rcases hq with hq|hq;obtain⟨its,rv,⟨o,n,ho,hc,_,hd⟩,hz⟩:=I.list hq;exact⟨"list",o,its.toArray,n,.inl rfl,ho,hc,hd,by simpa using rv,hz⟩;obtain⟨its,rv,⟨o,ho,hc,n,hd⟩,hz⟩:=I.tuple hq;exact⟨"tuple",o,its.toArray,n,.inr rfl,ho,hc,hd,by simpa using rv,hz⟩
 have hl:=rv.length;have hI:IntsAre its.toList ns:=dF rv;rw[Aa]at hl hz;have fits:its.size<=sizeLine:=by have z:=its.length_toList;rfl'
 refine Calls.call_function_entry kind_sorted plain_sorted entry_sorted (args_sorted1 (.ref p)) ?_;rw[xM7];refine Ai (wpAny_collect_seq p hT ho hc hd (fun h' kp=>Ai (wpAny_newList ?_)) fits);have hoL:(h'.push (seqObj "list" its.toList.toArray 0)).get? h'.objs.size=some (seqObj "list" its.toList.toArray 0):=AO _ rfl;refine Ai (wpAny_holding (wpAny_call_entry slot_list_sort ⟨_,hoL,rfl⟩ entry_list_sort (list_sort_tree hoL hI (by rfl') fun out ns' a1 a2 a3=>⟨_,rfl,?_⟩) (args_list_sort _)));refine AK ⟨_,rfl,?_⟩;have I1:Inv X EA σ H {s with heap:=h'}:=I.kept (t':=s.toks) kp;have hfresh:H h'.objs.size=none:=I1.hok.fresh (Ac _);have ov:Vals (ns'.map V.int) out.toList:=zP1 a1;have hlen:ns'.length=ns.length:=a2.length_eq;refine⟨.ref h'.objs.size,_,I1.laid (t':=s.toks) (o:=.lst (ns'.map V.int)) (fun b ob e=>?_) (Ac _) ?_,rfl,q _ ns' hfresh a2 a3⟩;have hb:=Au e;rw[sortedHeap_old (AW hb) (by rw[size_push'];exact Nat.lt_succ_of_lt hb)];exact Am _ e;obtain⟨e,he⟩:∃e,(sortedHeap (h'.push (seqObj "list" its.toList.toArray 0)) h'.objs.size its.toList out).get? h'.objs.size=some (seqObj "list" out e):=by exact sortedHeap_at hoL
 exact⟨by rw[Aa];rfl',out.toList,e,ov,by simpa using he⟩
theorem xA1{bs:List Bool}(r:Vals (bs.map V.bl) its){i:Nat}{v:Value}(h:its.toArray[i]?=some v):v=.bool (bs.getD i false):=by
 have h2:its[i]?=some v:=by simpa using h
 have hi:i<its.length:=(AD.mp h2).1;have hl:=r.length;rw[Aa]at hl;have e:(bs.map V.bl)[i]?=some (V.bl (bs.getD i false)):=by rw[Al,Ag (by rfl'),Ax,Ag (by rfl')];rfl
 obtain⟨u,hu,ru⟩:=r.get e;rw[h2]at hu;cases hu;exact ru
theorem xQ6(bs:List Bool):(List.range bs.length).map (fun i=>bs.getD i false)=bs:=by refine DV (by simp) fun i h1 h2=>?_;simp[List.getD,h2]
theorem xM4(bs:List Bool):(List.range bs.length).all (fun i=>bs.getD i false)=bs.all id:=by have z:=By (fun l=>List.all l id) (xQ6 bs);simpa[List.all_map,Dk]using z
theorem xK5(hc:X.calm=true):CallR X (.builtin "all") (fun xs H Q=>∃(p:Addr)(bs:List Bool),xs=[.ref p]/\SqL X.K H p (bs.map V.bl)/\Q (.bl (bs.all id)) H):=by intro EA s σ H xs us Q I r h;obtain⟨p,bs,rfl,hq,q⟩:=h;obtain⟨u,rfl,ru⟩:=vals1 r;cases ru;obtain⟨its,rv,pl,hz⟩:=I.list hq;have hl:=rv.length;rw[Aa]at hl;refine call_all_walk (xN8 (A:=X.A.in1) (I.ok.hd hc) pl.isList fun J hp St W st _ _ keep=>⟨_,_,_,_,_,_,fun i=>bs.getD i false,rfl,W,st,?_,fun h' tk hk=>?_⟩);intro i v s' Q' E' hP hQ;rw[xA1 rv hP];exact wpAny_truthy_bool hQ;rw[Av,<-hl,xM4];exact⟨.bl _,H,I.kept fun b o e=>hk b o (by simpa using(keep b o e).1) (keep b o e).2,rfl,q⟩
end
end L2
namespace L2.L3
open PySem PySem.Spec PyProof.Rows
abbrev D:=PyData
abbrev _root_.D0:=List D
variable {ds:D0}
inductive Res(α:Type)where
 |ok (a:α)
 |ex (c:Str)
 |no
abbrev _root_.B8:=List D->Res D
variable {Fo Ft:B8}
namespace Res
def bind{α β:Type}:Res α->(α->Res β)->Res β
 |.ok a,f=>f a
 |.ex c,_=>.ex c
 |.no,_=>.no
def post{α:Type}:Res α->(α->Prop)->(Str->Prop)->Prop
 |.ok a,Q,_=>Q a
 |.ex c,_,E=>E c
 |.no,_,_=>False
theorem zS{α β:Type}{r:Res α}{f:α->Res β}{Q:β->Prop}{E:Str->Prop}(h:(r.bind f).post Q E):r.post (fun a=>(f a).post Q E) E:=by cases r<;>exact h
theorem zP{α:Type}{r:Res α}{Q Q':α->Prop}{E E':Str->Prop}(h:r.post Q E)(hQ:∀a,r=.ok a->Q a->Q' a)(hE:∀c,E c->E' c):r.post Q' E':=by
 cases r with
 |ok a=>exact hQ a rfl h
 |ex c=>exact hE c h
 |no=>exact h
def lft{α:Type}:Option α->Res α
 |some a=>.ok a
 |none=>.no
theorem zG{α:Type}{o:Option α}{Q:α->Prop}{E:Str->Prop}(h:(lft o).post Q E):∃a,o=some a/\Q a:=by
 cases o with
 |none=>exact h.elim
 |some a=>exact⟨a,rfl,h⟩
@[simp]theorem bind_ok{α β:Type}(a:α)(f:α->Res β):(Res.ok a).bind f=f a:=rfl
@[simp]theorem bind_no{α β:Type}(f:α->Res β):(Res.no:Res α).bind f=.no:=rfl
@[simp]theorem bind_ex{α β:Type}(c:Str)(f:α->Res β):(Res.ex c:Res α).bind f=.ex c:=rfl
@[simp]theorem lft_some{α:Type}(a:α):lft (some a)=.ok a:=rfl
@[simp]theorem lft_none{α:Type}:lft (none:Option α)=.no:=rfl
end Res
class CN where
 ad:Str->Addr
instance(priority:=low)cn0:CN:=⟨fun _=>0⟩
variable [CN]
def rowNames:C4:=["BadText@0","BadText@1","BadText@2","BadText@3","BadText@4","BadText@5","BadText@6","BadText@7","BadText@8","BadText@9","BadText@10","BadText@11","BadText@12","BadText@13","BadText@14","BadText@15"]
def rowOf(c:Str):Option Nat:=rowNames.findIdx? (·==c)
def Row(d:Addr)(r:Int):Heap->Prop:=fun h=>∃t,h.Ns1 d (fun y=>if y="row" then some (.int r t)else none)
theorem Row.keeps{d:Addr}{r:Int}(x:Row d r h)(k:∀o,h.get? d=some o->h'.get? d=some o):Row d r h':=by obtain⟨t,od,es,ep,e,c⟩:=x;exact⟨t,od,es,ep,k _ e,c⟩
def excP(a:Addr)(c:Str)(lk:Option Addr):Heap->Prop:=fun h=>∃o,h.get? a=some o/\o.cls=.ref (CN.ad c)/\∀d,lk=some d->o.dict=some d/\∃vs,o.data=.fields vs
def RowR(H:Hp)(O:C2)(c:Str)(lk:Option Addr):Prop:=∀r,rowOf c=some r->∃d,lk=some d/\H d=some (.ext (Row d (r:Int)))/\¬O d
def dkV(kvs:List (Str×Int)):List (Key×V):=kvs.map fun p=>(Sum.inr p.1,V.int p.2)
def dkD(p:Str×Int):D:=.tuple [.str p.1,.int p.2]
mutual
inductive Rep(H:Hp)(O:C2):V->D->Prop
 |non:Rep H O .non .none
 |bl (b:Bool):Rep H O (.bl b) (.bool b)
 |int (i:Int):Rep H O (.int i) (.int i)
 |str (x:Str):Rep H O (.str x) (.str x)
 |lst {a:Addr}{xs:C8}{ds:D0}:Rd H a (.lst xs)->¬O a->Reps H O xs ds->Rep H O (.ref a) (.list ds)
 |tup {a:Addr}{xs:C8}{ds:D0}:Rd H a (.tup xs)->¬O a->Reps H O xs ds->Rep H O (.ref a) (.tuple ds)
 |exc {a:Addr}{c:Str}{lk:Option Addr}:H a=some (.ext (excP a c lk))->RowR H O c lk->¬O a->Rep H O (.ref a) (.dict [(.list [],.str c)])
 |dic {a:Addr}{kvs:List (Str×Int)}:Rd H a (.dK (dkV kvs))->¬O a->Rep H O (.ref a) (.dict [(.tuple [],.list (kvs.map dkD))])
inductive Reps(H:Hp)(O:C2):List V->List D->Prop
 |nil:Reps H O [] []
 |cons {v:V}{d:D}{vs:C8}{ds:D0}:Rep H O v d->Reps H O vs ds->Reps H O (v::vs) (d::ds)
end
theorem zA8{a:Addr}{u:HO}(h:Rd H a u):H a≠none:=by rcases h with h|⟨o,h⟩<;>(rw[h];exact fun z=>nomatch z)
theorem jX{a:Addr}{u:HO}(h:Rd H a u)(k:∀o,H a=some o->H' a=some o):Rd H' a u:=by rcases h with h|⟨o,h⟩;exact .inl (k _ h);exact .inr ⟨o,k _ h⟩
section
variable {H H':Hp}{O O':C2}
mutual
theorem Rep.keep(k:∀b o,H b=some o->¬O b->H' b=some o)(s:∀b,H b≠none->O' b->O b):∀{v:V}{d:D},Rep H O v d->Rep H' O' v d
 |_,_,.non=>.non
 |_,_,.bl b=>.bl b
 |_,_,.int i=>.int i
 |_,_,.str x=>.str x
 |_,_,.lst r n t=>.lst (jX r fun o e=>k _ o e n) (fun z=>n (s _ (zA8 r) z)) (Reps.keep k s t)
 |_,_,.tup r n t=>.tup (jX r fun o e=>k _ o e n) (fun z=>n (s _ (zA8 r) z)) (Reps.keep k s t)
 |_,_,.exc r w n=>.exc (k _ _ r n) (fun r e=>let ⟨d,h1,h2,h3⟩:=w r e; ⟨d,h1,k _ _ h2 h3,fun z=>h3 (s _ (by rw[h2];exact fun z=>nomatch z) z)⟩) (fun z=>n (s _ (by rw[r];exact fun z=>nomatch z) z))
 |_,_,.dic r n=>.dic (jX r fun o e=>k _ o e n) fun z=>n (s _ (zA8 r) z)
theorem Reps.keep(k:∀b o,H b=some o->¬O b->H' b=some o)(s:∀b,H b≠none->O' b->O b):∀{vs:C8}{ds:D0},Reps H O vs ds->Reps H' O' vs ds
 |_,_,.nil=>.nil
 |_,_,.cons h t=>.cons (Rep.keep k s h) (Reps.keep k s t)
end
mutual
theorem Rep.dat{K:KFr}:∀{v:V}{d:D},Rep H O v d->PyData.canLay0 d=true->DatV K H v d
 |_,_,.non,_=>.non
 |_,_,.bl b,_=>.bl b
 |_,_,.int i,_=>.int i
 |_,_,.str x,_=>.str x
 |_,_,.lst r n t,c=>.lst (.inl r) (Reps.dat t c)
 |_,_,.tup r n t,c=>.tup (.inl r) (Reps.dat t c)
 |_,_,.exc r w n,c=>by cases c
 |_,_,.dic r n,c=>by cases c
theorem Reps.dat{K:KFr}:∀{vs:C8}{ds:D0},Reps H O vs ds->PyData.canLayAll0 ds=true->DatAll K H vs ds
 |_,_,.nil,_=>.nil
 |_,_,.cons h t,c=>.cons (Rep.dat h (Dp.mp c).1) (Reps.dat t (Dp.mp c).2)
end
theorem Rep.same{v:V}{d:D}(h:Rep H O v d)(s:Same H H'):Rep H' O v d:=h.keep (fun b o e _=>s b o e) fun _ _ z=>z
theorem Reps.same{v:C8}{d:D0}(h:Reps H O v d)(s:Same H H'):Reps H' O v d:=h.keep (fun b o e _=>s b o e) fun _ _ z=>z
theorem Rep.less{v:V}{d:D}(h:Rep H O v d)(s:∀b,O' b->O b):Rep H O' v d:=h.keep (fun b o e _=>e) fun b _ z=>s b z
theorem Reps.less{v:C8}{d:D0}(h:Reps H O v d)(s:∀b,O' b->O b):Reps H O' v d:=h.keep (fun b o e _=>e) fun b _ z=>s b z
theorem Reps.length:∀{vs:C8}{ds:D0},Reps H O vs ds->vs.length=ds.length
 |_,_,.nil=>rfl
 |_,_,.cons _ t=>By (·+1) (Reps.length t)
theorem Reps.get:∀{vs:C8}{ds:D0}{i:Nat}{d:D},Reps H O vs ds->ds[i]?=some d->∃v,vs[i]?=some v/\Rep H O v d
 |_,_,_,_,.nil,e=>by simp at e
 |_,_,0,_,.cons r _,e=>by simp at e;subst e;exact⟨_,rfl,r⟩
 |_,_,i+1,d,.cons _ t,e=>by obtain⟨u,h1,h2⟩:=Reps.get (i:=i) (d:=d) t (by simpa using e);exact⟨u,by simpa using h1,h2⟩
theorem Reps.of:∀{vs:C8}{ds:D0}{i:Nat}{v:V},Reps H O vs ds->vs[i]?=some v->∃d,ds[i]?=some d/\Rep H O v d
 |_,_,_,_,.nil,e=>by simp at e
 |_,_,0,_,.cons r _,e=>by simp at e;subst e;exact⟨_,rfl,r⟩
 |_,_,i+1,v,.cons _ t,e=>by obtain⟨u,h1,h2⟩:=Reps.of (i:=i) (v:=v) t (by simpa using e);exact⟨u,by simpa using h1,h2⟩
theorem Reps.append:∀{vs ws:C8}{ds es:D0},Reps H O vs ds->Reps H O ws es->Reps H O (vs++ws) (ds++es)
 |_,_,_,_,.nil,s=>s
 |_,_,_,_,.cons r t,s=>.cons r (Reps.append t s)
theorem Reps.one{v:V}{d:D}(h:Rep H O v d):Reps H O [v] [d]:=.cons h .nil
theorem Reps.set{x:V}{u:D}(r:Rep H O x u):∀{vs:C8}{ds:D0}(i:Nat),Reps H O vs ds->Reps H O (vs.set i x) (ds.set i u)
 |_,_,_,.nil=>.nil
 |_,_,0,.cons _ t=>.cons r t
 |_,_,i+1,.cons q t=>.cons q (Reps.set r i t)
theorem Reps.take:∀{vs:C8}{ds:D0}(n:Nat),Reps H O vs ds->Reps H O (vs.take n) (ds.take n)
 |_,_,0,_=>.nil
 |_,_,_+1,.nil=>.nil
 |_,_,n+1,.cons r t=>.cons r (Reps.take n t)
theorem Reps.drop:∀{vs:C8}{ds:D0}(n:Nat),Reps H O vs ds->Reps H O (vs.drop n) (ds.drop n)
 |_,_,0,r=>r
 |_,_,_+1,.nil=>.nil
 |_,_,n+1,.cons _ t=>Reps.drop n t
theorem Reps.erase:∀{vs:C8}{ds:D0}(i:Nat),Reps H O vs ds->Reps H O (vs.eraseIdx i) (ds.eraseIdx i)
 |_,_,_,.nil=>.nil
 |_,_,0,.cons _ t=>t
 |_,_,i+1,.cons r t=>.cons r (Reps.erase i t)
theorem Reps.rep{vs:C8}{ds:D0}(h:Reps H O vs ds):∀k:Nat,Reps H O (List.replicate k vs).flatten (List.replicate k ds).flatten
 |0=>.nil
 |k+1=>by rw[BG,BG,Bm,Bm];exact h.append (Reps.rep h k)
theorem Reps.insert{x:V}{u:D}(r:Rep H O x u)(i:Nat)(h:Reps H O vs ds):Reps H O (vs.take i++x::vs.drop i) (ds.take i++u::ds.drop i):=(h.take i).append (.cons r (h.drop i))
theorem aX:∀(ns:C6),Reps H O (ns.map V.int) (ns.map PyData.int)
 |[]=>.nil
 |n::ns=>.cons (.int n) (aX ns)
theorem Reps.ints:∀{ns:C6}{vs:C8},Reps H O vs (ns.map PyData.int)->vs=ns.map V.int
 |[],_,h=>by cases h;rfl
 |n::ns,_,h=>by
  cases h with
  |cons r t=>cases r;rw[Reps.ints t];rfl
theorem Reps.bools:∀{ns:List Bool}{vs:C8},Reps H O vs (ns.map PyData.bool)->vs=ns.map V.bl
 |[],_,h=>by cases h;rfl
 |n::ns,_,h=>by
  cases h with
  |cons r t=>cases r;rw[Reps.bools t];rfl
end
abbrev Ev:=List (Option D)
abbrev _root_.B0:=Ev->Res (List D)
abbrev _root_.B5:=Ev->Res D
abbrev _root_.B7:=Ev->Res Bool
variable {ρ:L2.L3.Ev}{ms mi:B0}{me ma:B5}{ml mh:L2.L3.Ev->L2.L3.Res (Option Int)}
structure Wd where
 o:C2
 la:Nat->Addr
variable {Oc:L2.L3.Wd}
instance:CoeFun Wd (fun _=>C2):=⟨Wd.o⟩
abbrev Uni(Oc:Wd)(Ob:C2):C2:=fun b=>Oc b\/Ob b
def OwnAt(H:Hp)(Oc:Wd)(Ob:C2)(v:V)(d:D):Prop:=∃a ys ds,v=.ref a/\d=.list ds/\H a=some (.lst ys)/\Ob a/\Reps H (Uni Oc Ob) ys ds
def LentAt(i:Nat)(H:Hp)(Oc:Wd)(Ob:C2)(v:V)(d:D):Prop:=∃ys ds,v=.ref (Oc.la i)/\d=.list ds/\H (Oc.la i)=some (.lst ys)/\Oc (Oc.la i)/\Reps H (Uni Oc Ob) ys ds
structure Rel(Oc:Wd)(Ob:C2)(om ln:C5)(σ:St)(H:Hp)(ρ:Ev):Prop where
 len:σ.length=ρ.length
 val:∀i d,ρ[i]?=some (some d)->i∉om->i∉ln->∃v,σ[i]?=some (some v)/\Rep H (Uni Oc Ob) v d
 own:∀i d,ρ[i]?=some (some d)->i∈om->∃v,σ[i]?=some (some v)/\OwnAt H Oc Ob v d
 lnt:∀i d,ρ[i]?=some (some d)->i∉om->i∈ln->∃v,σ[i]?=some (some v)/\LentAt i H Oc Ob v d
 inj:∀i j di dj a,ρ[i]?=some (some di)->ρ[j]?=some (some dj)->i∈om->j∈om->σ[i]?=some (some (.ref a))->σ[j]?=some (some (.ref a))->i=j
 oh:∀a,Oc a\/Ob a->H a≠none
 ap:∀a,Ob a->¬Oc a
section
variable {Oc:Wd}{Ob:C2}{om ln:C5}{σ:St}{H H':Hp}{ρ:Ev}
theorem Same.ne{b:Addr}(s:Same H H')(h:H b≠none):H' b≠none:=by
 cases e:H b with
 |none=>exact absurd e h
 |some o=>rw[s b o e];exact fun z=>nomatch z
theorem Rel.same(R:Rel Oc Ob om ln σ H ρ)(s:Same H H'):Rel Oc Ob om ln σ H' ρ where
 len:=R.len
 val:=fun i d e h1 h2=>let ⟨v,a,b⟩:=R.val i d e h1 h2; ⟨v,a,b.same s⟩
 own:=fun i d e h1=>let ⟨v,q,a,ys,ds,e1,e2,e3,e4,e5⟩:=R.own i d e h1; ⟨v,q,a,ys,ds,e1,e2,s _ _ e3,e4,e5.same s⟩
 lnt:=fun i d e h1 h2=>let ⟨v,q,ys,ds,e1,e2,e3,e4,e5⟩:=R.lnt i d e h1 h2; ⟨v,q,ys,ds,e1,e2,s _ _ e3,e4,e5.same s⟩
 inj:=R.inj
 oh:=fun a h=>Same.ne s (R.oh a h)
 ap:=R.ap
end
inductive Md where
 |cl
 |rd
 |any
 |new
variable {md mda:L2.L3.Md}
def VA(Oc:Wd)(Ob:C2)(H:Hp)(v:V)(d:D):Prop:=Rep H (Uni Oc Ob) v d\/∃a ys ds,v=.ref a/\d=.list ds/\H a=some (.lst ys)/\Reps H (Uni Oc Ob) ys ds
def VR:Md->Wd->(C2)->Hp->Hp->V->D->Prop
 |.cl,Oc,Ob,_,H',v,d=>Rep H' (Uni Oc Ob) v d
 |.rd,Oc,Ob,_,H',v,d=>Rep H' (Uni Oc Ob) v d\/∃a ys ds,v=.ref a/\d=.list ds/\H' a=some (.lst ys)/\¬Ob a/\Reps H' (Uni Oc Ob) ys ds
 |.any,Oc,Ob,_,H',v,d=>VA Oc Ob H' v d
 |.new,Oc,Ob,H,H',v,d=>∃a ys ds,v=.ref a/\d=.list ds/\H a=none/\H' a=some (.lst ys)/\Reps H' (fun b=>Uni Oc Ob b\/b=a) ys ds
section
variable {Oc:Wd}{Ob:C2}{H H1 H2:Hp}{v:V}{d:D}{md:Md}
theorem VR.same(h:VR md Oc Ob H H1 v d)(s:Same H1 H2):VR md Oc Ob H H2 v d:=by
 cases md with
 |cl=>exact Rep.same h s
 |rd=>rcases h with h|⟨a,ys,ds,e1,e2,e3,e4,e5⟩;exact .inl (Rep.same h s);exact .inr ⟨a,ys,ds,e1,e2,s _ _ e3,e4,e5.same s⟩
 |any=>rcases h with h|⟨a,ys,ds,e1,e2,e3,e5⟩;exact .inl (Rep.same h s);exact .inr ⟨a,ys,ds,e1,e2,s _ _ e3,e5.same s⟩
 |new=>obtain⟨a,ys,ds,e1,e2,e3,e4,e5⟩:=h;exact⟨a,ys,ds,e1,e2,e3,s _ _ e4,e5.same s⟩
theorem VR.from(h:VR md Oc Ob H1 H2 v d)(s:Same H H1):VR md Oc Ob H H2 v d:=by
 cases md with
 |new=>obtain⟨a,ys,ds,e1,e2,e3,e4,e5⟩:=h;exact⟨a,ys,ds,e1,e2,s.free e3,e4,e5⟩
 |_=>exact h
theorem VR.clean(h:VR .new Oc Ob H H1 v d)(oh:∀a,Oc a\/Ob a->H a≠none):VR .cl Oc Ob H H1 v d:=by obtain⟨a,ys,ds,rfl,rfl,e3,e4,e5⟩:=h;exact .lst (.inl e4) (fun z=>oh a z e3) (e5.less fun b z=>.inl z)
theorem VR.va(h:VR md Oc Ob H H1 v d)(oh:∀a,Oc a\/Ob a->H a≠none):VA Oc Ob H1 v d:=by
 cases md with
 |cl=>exact .inl h
 |rd=>rcases h with h|⟨a,ys,ds,e1,e2,e3,e4,e5⟩;exact .inl h;exact .inr ⟨a,ys,ds,e1,e2,e3,e5⟩
 |any=>exact h
 |new=>exact .inl (VR.clean h oh)
theorem VA.dat{K:KFr}(h:VA Oc Ob H v d)(c:PyData.canLay0 d=true):DatV K H v d:=by rcases h with h|⟨a,ys,ds,rfl,rfl,e3,e5⟩;exact h.dat c;exact .lst (SqL.of e3) (e5.dat c)
theorem VA.datS{K:KFr}(h:VA Oc Ob H v d)(c:SeqAt.shaped d=true):DatV K H v d:=h.dat (SeqAt.canLay_of_shaped c)
theorem VA.list(h:VA Oc Ob H v (.list ds)):∃a ys,v=.ref a/\Rd H a (.lst ys)/\Reps H (Uni Oc Ob) ys ds:=by
 rcases h with h|⟨a,ys,ds,rfl,e,e3,e5⟩;cases h with
 |lst r n t=>exact⟨_,_,rfl,r,t⟩
 cases e;exact⟨a,ys,rfl,.inl e3,e5⟩
theorem VA.tuple(h:VA Oc Ob H v (.tuple ds)):∃a ys,v=.ref a/\Rd H a (.tup ys)/\Reps H (Uni Oc Ob) ys ds:=by
 rcases h with h|⟨a,ys,ds,rfl,e,e3,e5⟩;cases h with
 |tup r n t=>exact⟨_,_,rfl,r,t⟩
 cases e
theorem VA.int{i:Int}(h:VA Oc Ob H v (.int i)):v=.int i:=by rcases h with h|⟨a,ys,ds,rfl,e,e3,e5⟩;cases h;rfl;cases e
theorem VA.bool{i:Bool}(h:VA Oc Ob H v (.bool i)):v=.bl i:=by rcases h with h|⟨a,ys,ds,rfl,e,e3,e5⟩;cases h;rfl;cases e
theorem VA.str{x:Str}(h:VA Oc Ob H v (.str x)):v=.str x:=by rcases h with h|⟨a,ys,ds,rfl,e,e3,e5⟩;cases h;rfl;cases e
theorem VA.rep(h:VA Oc Ob H v d):Rep H (fun _=>False) v d:=by
 rcases h with h|⟨a,ys,ds,rfl,rfl,e3,e5⟩;exact h.less fun _ z=>z.elim
 exact .lst (.inl e3) (fun z=>z) (e5.less fun _ z=>z.elim)
end
structure Ct where
 X:Cx
 XE:Str->Hp->Prop
 om:C5
 ln:C5
variable {C:L2.L3.Ct}
def RE(C:Ct)(md:Md)(e:Expr)(m:B5):Prop:=∃t,PE C.X e t/\∀(Oc:Wd)(Ob:C2)(σ:St)(H:Hp)(ρ:Ev)(Q:VK),Rel Oc Ob C.om C.ln σ H ρ ->(m ρ).post (fun d=>∀v H',Same H H'->VR md Oc Ob H H' v d->Q v H') (fun c=>∀H',Same H H'->C.XE c H')->t σ H Q
def RT(C:Ct)(e:Expr)(m:B7):Prop:=∃t,PT C.X e t/\∀(Oc:Wd)(Ob:C2)(σ:St)(H:Hp)(ρ:Ev)(Q:Bool->Hp->Prop),Rel Oc Ob C.om C.ln σ H ρ ->(m ρ).post (fun b=>∀H',Same H H'->Q b H') (fun c=>∀H',Same H H'->C.XE c H')->t σ H Q
def RW(C:Ct)(e:Expr)(m:B7):Prop:=∃t,PW C.X e t/\∀(Oc:Wd)(Ob:C2)(σ:St)(H:Hp)(ρ:Ev)(Q:Bool->Hp->Prop),Rel Oc Ob C.om C.ln σ H ρ ->(m ρ).post (fun b=>∀H',Same H H'->Q b H') (fun c=>∀H',Same H H'->C.XE c H')->t σ H Q
inductive Out where
 |nx (ρ:Ev)
 |rt (d:D)
abbrev _root_.B6:=Ev->Res Out
variable {mb:B6}
def Frm(Ob:C2)(H H':Hp):Prop:=∀b o,H b=some o->¬Ob b->H' b=some o
theorem Same.frm(s:Same H H'):Frm Ob H H':=fun b o e _=>s b o e
def RetOk:Bool->Wd->(C2)->Hp->Hp->V->D->Prop
 |true,Oc,Ob,H,H',v,d=>∃a ys ds,v=.ref a/\d=.list ds/\(H a=none\/Ob a)/\¬Oc a/\H' a=some (.lst ys)/\Reps H' (fun b=>Oc b\/b=a) ys ds
 |false,Oc,_,_,H',v,d=>Rep H' Oc.o v d
def SPost(C:Ct)(fr:Bool)(Oc:Wd)(Ob:C2)(H:Hp)(E:Ends)(r:Res Out):Prop:=r.post (fun o=>match o with
  |.nx ρ'=>∀σ' H' Ob',Rel Oc Ob' C.om C.ln σ' H' ρ'->Frm Ob H H'->(∀b,Ob' b->Ob b\/H b=none)->E.nx σ' H'
  |.rt d=>∀v H',Frm Ob H H'->RetOk fr Oc Ob H H' v d->E.rt v H') (fun c=>∀H',Frm Ob H H'->C.XE c H')
def RS(C:Ct)(fr:Bool)(st:Stmt)(m:B6):Prop:=∃t,PS C.X st t/\∀(Oc:Wd)(Ob:C2)(σ:St)(H:Hp)(ρ:Ev)(E:Ends),Rel Oc Ob C.om C.ln σ H ρ->SPost C fr Oc Ob H E (m ρ)->t E σ H
def RSs(C:Ct)(fr:Bool)(st:List Stmt)(m:B6):Prop:=∃t,PSs C.X st t/\∀(Oc:Wd)(Ob:C2)(σ:St)(H:Hp)(ρ:Ev)(E:Ends),Rel Oc Ob C.om C.ln σ H ρ->SPost C fr Oc Ob H E (m ρ)->t E σ H
section
variable {C:Ct}{fr:Bool}{Oc:Wd}{Ob Ob1 Ob2:C2}{H H1 H2:Hp}{E:Ends}{r:Res Out}
theorem Frm.trans(f:Frm Ob H H1)(s:∀b,Ob1 b->Ob b\/H b=none)(g:Frm Ob1 H1 H2):Frm Ob H H2:=fun b o e n=>g b o (f b o e n) fun z=>(s b z).elim n fun q=>by rw[e]at q;cases q
theorem Frm.none(f:Frm Ob H H1){b:Addr}(h:H1 b=none):Ob b\/H b=none:=by
 by_cases n:Ob b;exact .inl n;cases e:H b with
 |none=>exact .inr rfl
 |some o=>rw[f b o e n]at h;cases h
theorem SPost.step(f:Frm Ob H H1)(s:∀b,Ob1 b->Ob b\/H b=none)(h:SPost C fr Oc Ob H E r):SPost C fr Oc Ob1 H1 E r:=by
 refine Res.zP h (fun o _ q=>?_) fun c q H' g=>q H' (f.trans s g);cases o with
 |nx ρ'=>exact fun σ' H' Ob' R g s'=>q σ' H' Ob' R (f.trans s g) fun b z=>(s' b z).elim (s b) fun z=>f.none z
 |rt d=>
  refine fun v H' g k=>q v H' (f.trans s g) ?_;cases fr with
  |false=>exact k
  |true=>obtain⟨a,ys,ds,e1,e2,e3,e4,e5,e6⟩:=k;refine⟨a,ys,ds,e1,e2,?_,e4,e5,e6⟩;rcases e3 with e3|e3;exact(f.none e3).symm;exact(s a e3).symm
theorem SPost.same(f:Same H H1)(h:SPost C fr Oc Ob H E r):SPost C fr Oc Ob H1 E r:=h.step (Same.frm f) fun b z=>.inl z
end
end L2.L3
variable {C:L2.L3.Ct}{mb:B6}{ds:D0}{ρ:L2.L3.Ev}{Oc:L2.L3.Wd}{ms mi:B0}{md mda:L2.L3.Md}{me ma:B5}{ml mh:L2.L3.Ev->L2.L3.Res (Option Int)}{Fo Ft:B8}
namespace L2.L3
open PySem PySem.Spec PyProof.Rows
variable [CN]
section
variable {C:Ct}{a b c e:Expr}{es:C7}{pos:Pos}{md mda mdb mdc:Md}{ma mb mc:B5}
theorem RE.cl(h:RE C .new e ma):RE C .cl e ma:=by obtain⟨t,p,q⟩:=h;exact⟨t,p,fun Oc Ob σ H ρ Q R h=>q Oc Ob σ H ρ Q R (Res.zP h (fun d _ k v H' s r=>k v H' s (VR.clean r R.oh)) fun _ z=>z)⟩
theorem RE.rd(h:RE C .cl e ma):RE C .rd e ma:=by obtain⟨t,p,q⟩:=h;exact⟨t,p,fun Oc Ob σ H ρ Q R h=>q Oc Ob σ H ρ Q R (Res.zP h (fun d _ k v H' s r=>k v H' s (.inl r)) fun _ z=>z)⟩
def eC(d:D):B5:=fun _=>.ok d
theorem zT{i j}:RE C .cl (.Constant (.int i) j pos) (eC (.int i)):=⟨_,zY4,fun Oc Ob σ H ρ Q R h=>h _ H (Same.refl H) (Rep.int i)⟩
theorem dI{i j}:RE C .cl (.Constant (.bool i) j pos) (eC (.bool i)):=⟨_,wU7,fun Oc Ob σ H ρ Q R h=>h _ H (Same.refl H) (Rep.bl i)⟩
theorem zM{i j}:RE C .cl (.Constant (.str i) j pos) (eC (.str i)):=⟨_,wG7,fun Oc Ob σ H ρ Q R h=>h _ H (Same.refl H) (Rep.str i)⟩
def eV(i:Nat):B5:=fun ρ=>match ρ[i]? with
 |some (some d)=>.ok d
 |_=>.no
theorem uR{i:Nat}{Q:D->Prop}{E:Str->Prop}(h:(eV i ρ).post Q E):∃d,ρ[i]?=some (some d)/\Q d:=by unfold eV at h;split at h;exact⟨_,by assumption,h⟩;exact h.elim
theorem xF{i:Nat}{l:C5}(h:l.contains i=false):i∉l:=by intro z;rw[AV.mpr z]at h;cases h
theorem wS{i:Nat}{l:C5}(h:l.contains i=true):i∈l:=AV.mp h
theorem zZ(i:Nat){x:Str}(hN:autoParam (C.X.N[i]?=some x) Ey)(ho:autoParam (C.om.contains i=false) Ey)(hl:autoParam (C.ln.contains i=false) Ey)(hv:autoParam (Vis C.X.env.scope x) Eu)(hd:autoParam ((x==("__debug__":Str))=false) Ex)(hcd:autoParam ((x==("__classdict__":Str))=false) Ex):RE C .cl (.Name x pos) (eV i):=by refine⟨_,qI hN hv hd hcd,fun Oc Ob σ H ρ Q R h=>?_⟩;obtain⟨d,e,k⟩:=uR h;obtain⟨v,q,r⟩:=R.val i d e (xF ho) (xF hl);exact⟨v,q,k v H (Same.refl H) r⟩
theorem xO(i:Nat){x:Str}(hN:autoParam (C.X.N[i]?=some x) Ey)(ho:autoParam (C.om.contains i=true) Ey)(hv:autoParam (Vis C.X.env.scope x) Eu)(hd:autoParam ((x==("__debug__":Str))=false) Ex)(hcd:autoParam ((x==("__classdict__":Str))=false) Ex):RE C .any (.Name x pos) (eV i):=by refine⟨_,qI hN hv hd hcd,fun Oc Ob σ H ρ Q R h=>?_⟩;obtain⟨d,e,k⟩:=uR h;obtain⟨v,q,a,ys,ds,e1,e2,e3,e4,e5⟩:=R.own i d e (wS ho);exact⟨v,q,k v H (Same.refl H) (.inr ⟨a,ys,ds,e1,e2,e3,e5⟩)⟩
theorem bU{x:Str}{i:Int}(hm:C.X.mg x=some u)(r:RelV (.int i) u)(hg:autoParam (Gl C.X x) Ey)(hd:autoParam ((x==("__debug__":Str))=false) Ex):RE C .cl (.Name x pos) (eC (.int i)):=⟨_,wL8 hg hm r hd,fun Oc Ob σ H ρ Q R h=>h _ H (Same.refl H) (Rep.int i)⟩
def e2(f:D->D->Option D)(m n:B5):B5:=fun ρ=>(m ρ).bind fun x=>(n ρ).bind fun y=>Res.lft (f x y)
def Pr2(r:R2)(md:Md)(f:D->D->Option D):Prop:=∀(Oc:Wd)(Ob:C2)(H:Hp)(x y:V)(dx dy d:D)(Q:VK),(∀a,Oc a\/Ob a->H a≠none)->VA Oc Ob H x dx->VA Oc Ob H y dy->f dx dy=some d->(∀v H',Same H H'->VR md Oc Ob H H' v d->Q v H')->r x y H Q
theorem two{tb:TE}{f:D->D->Option D}{r:R2}(ha:∀(Oc:Wd)(Ob:C2)(σ:St)(H:Hp)(ρ:Ev)(Q:VK),Rel Oc Ob C.om C.ln σ H ρ->(ma ρ).post (fun d=>∀v H',Same H H'->VR mda Oc Ob H H' v d->Q v H') (fun c=>∀H',Same H H'->C.XE c H')->ta σ H Q)(hb:∀(Oc:Wd)(Ob:C2)(σ:St)(H:Hp)(ρ:Ev)(Q:VK),Rel Oc Ob C.om C.ln σ H ρ->(mb ρ).post (fun d=>∀v H',Same H H'->VR mdb Oc Ob H H' v d->Q v H') (fun c=>∀H',Same H H'->C.XE c H')->tb σ H Q)(hp:Pr2 r md f){Oc:Wd}{Ob:C2}{σ:St}{H:Hp}{ρ:Ev}{Q:VK}(R:Rel Oc Ob C.om C.ln σ H ρ)(h:(e2 f ma mb ρ).post (fun d=>∀v H',Same H H'->VR md Oc Ob H H' v d->Q v H') (fun c=>∀H',Same H H'->C.XE c H')):ta σ H fun x H1=>tb σ H1 fun y H2=>r x y H2 Q:=by refine ha Oc Ob σ H ρ _ R (Res.zP (Res.zS h) (fun dx _ q x H1 s1 vx=>?_) fun _ z=>z);refine hb Oc Ob σ H1 ρ _ (R.same s1) (Res.zP (Res.zS q) (fun dy _ q y H2 s2 vy=>?_) fun c z H' s'=>z H' (s1.trans s'));obtain⟨d,e,q⟩:=Res.zG q;have oh2:=((R.same s1).same s2).oh;refine hp Oc Ob H2 x y dx dy d Q oh2 ((vx.same s2).va R.oh) (vy.va (R.same s1).oh) e fun v H' s3 r=>?_;exact q v H' ((s1.trans s2).trans s3) (r.from (s1.trans s2))
theorem zO{op:Operator}{r:R2}{f:D->D->Option D}(ho:OpR C.X (binaryOp op) r)(hp:Pr2 r md f)(ha:RE C mda a ma)(hb:RE C mdb b mb):RE C md (.BinOp a op b pos) (e2 f ma mb):=by obtain⟨ta,pa,qa⟩:=ha;obtain⟨tb,pb,qb⟩:=hb;exact⟨_,wT3 ho pa pb,fun Oc Ob σ H ρ Q R h=>two qa qb hp R h⟩
theorem yZ{r:R2}{f:D->D->Option D}(ho:IxR C.X r)(hp:Pr2 r md f)(ha:RE C mda a ma)(hb:RE C mdb b mb)(hs:autoParam (PlainIx b) wA9._auto_1):RE C md (.Subscript a b pos) (e2 f ma mb):=by obtain⟨ta,pa,qa⟩:=ha;obtain⟨tb,pb,qb⟩:=hb;exact⟨_,wU5 ho pa pb hs,fun Oc Ob σ H ρ Q R h=>two qa qb hp R h⟩
def PrB(r:R2)(f:D->D->Option Bool):Prop:=∀(Oc:Wd)(Ob:C2)(H:Hp)(x y:V)(dx dy:D)(k:Bool)(Q:VK),VA Oc Ob H x dx->VA Oc Ob H y dy->f dx dy=some k->Q (.bl k) H->r x y H Q
def bD(o:Option Bool):Option D:=o.map PyData.bool
theorem PrB.pr{r:R2}{f:D->D->Option Bool}(h:PrB r f):Pr2 r .cl (fun x y=>bD (f x y)):=by
 intro Oc Ob H x y dx dy d Q oh vx vy e k;cases ef:f dx dy with
 |none=>simp only[ef]at e;cases e
 |some b=>simp only[ef]at e;cases e;exact h Oc Ob H x y dx dy b Q vx vy ef (k _ H (Same.refl H) (Rep.bl b))
theorem xA{r:R2}{f:D->D->Option Bool}(ho:OpR C.X (compareOp op) r)(hp:PrB r f)(ha:RE C mda a ma)(hb:RE C mdb b mb)(hm:autoParam (behindInMarks op b=false) xV7._auto_1):RE C .cl (.Compare a [op] [b] pos) (e2 (fun x y=>bD (f x y)) ma mb):=by obtain⟨ta,pa,qa⟩:=ha;obtain⟨tb,pb,qb⟩:=hb;exact⟨_,wQ5 ho pa pb hm,fun Oc Ob σ H ρ Q R h=>two qa qb hp.pr R h⟩
def b2(f:D->D->Option Bool)(m n:B5):B7:=fun ρ=>(m ρ).bind fun x=>(n ρ).bind fun y=>Res.lft (f x y)
theorem wC6{f:D->D->Option Bool}{Q:Bool->Hp->Prop}{E:Str->Prop}(h:(b2 f ma mb ρ).post (fun b=>∀H',Same H H'->Q b H') E):(e2 (fun x y=>bD (f x y)) ma mb ρ).post (fun d=>∀v H',Same H H'->VR .cl Oc Ob H H' v d->∃k,v=.bl k/\Q k H') E:=by
 unfold e2;unfold b2 at h;cases ea:ma ρ with
 |no=>rw[ea]at h;exact h
 |ex c=>rw[ea]at h;exact h
 |ok x=>
  rw[ea]at h;simp only[Res.bind_ok]at h ⊢;cases eb:mb ρ with
  |no=>rw[eb]at h;exact h
  |ex c=>rw[eb]at h;exact h
  |ok y=>rw[eb]at h;simp only[Res.bind_ok]at h ⊢;obtain⟨k,ek,q⟩:=Res.zG h;rw[ek];intro v H' s r;have:v=.bl k:=(by cases r;rfl);exact⟨k,this,q H' s⟩
theorem zD{r:R2}{f:D->D->Option Bool}(ho:OpR C.X (compareOp op) r)(hp:PrB r f)(ha:RE C mda a ma)(hb:RE C mdb b mb)(hm:autoParam (behindInMarks op b=false) xV7._auto_1):RT C (.Compare a [op] [b] pos) (b2 f ma mb):=by obtain⟨ta,pa,qa⟩:=ha;obtain⟨tb,pb,qb⟩:=hb;exact⟨_,yA4 ho pa pb hm,fun Oc Ob σ H ρ Q R h=>two qa qb hp.pr R (wC6 h)⟩
def b3(f g:D->D->Option Bool)(m n o:B5):B7:=fun ρ=>(m ρ).bind fun x=>(n ρ).bind fun y=>(Res.lft (f x y)).bind fun k=>if k then(o ρ).bind fun z=>Res.lft (g y z)else .ok false
theorem chain3{tb tc:TE}{f g:D->D->Option Bool}{r:R2}(ha:∀(Oc:Wd)(Ob:C2)(σ:St)(H:Hp)(ρ:Ev)(Q:VK),Rel Oc Ob C.om C.ln σ H ρ->(ma ρ).post (fun d=>∀v H',Same H H'->VR mda Oc Ob H H' v d->Q v H') (fun c=>∀H',Same H H'->C.XE c H')->ta σ H Q)(hb:∀(Oc:Wd)(Ob:C2)(σ:St)(H:Hp)(ρ:Ev)(Q:VK),Rel Oc Ob C.om C.ln σ H ρ->(mb ρ).post (fun d=>∀v H',Same H H'->VR mdb Oc Ob H H' v d->Q v H') (fun c=>∀H',Same H H'->C.XE c H')->tb σ H Q)(hc:∀(Oc:Wd)(Ob:C2)(σ:St)(H:Hp)(ρ:Ev)(Q:VK),Rel Oc Ob C.om C.ln σ H ρ->(mc ρ).post (fun d=>∀v H',Same H H'->VR mdc Oc Ob H H' v d->Q v H') (fun c=>∀H',Same H H'->C.XE c H')->tc σ H Q)(hp:PrB r f)(hp':PrB r' g){Oc:Wd}{Ob:C2}{σ:St}{H:Hp}{ρ:Ev}{Q:VK}(R:Rel Oc Ob C.om C.ln σ H ρ)(h:(b3 f g ma mb mc ρ).post (fun d=>∀H',Same H H'->Q (.bl d) H') (fun c=>∀H',Same H H'->C.XE c H')):tChain r r' ta tb tc σ H Q:=by
 refine ha Oc Ob σ H ρ _ R (Res.zP (Res.zS h) (fun dx _ q x H1 s1 vx=>?_) fun _ z=>z);refine hb Oc Ob σ H1 ρ _ (R.same s1) (Res.zP (Res.zS q) (fun dy _ q y H2 s2 vy=>?_) fun c z H' s'=>z H' (s1.trans s'));obtain⟨k,e,q⟩:=Res.zG (Res.zS q);have R2:=(R.same s1).same s2;refine hp Oc Ob H2 x y dx dy k _ ((vx.same s2).va R.oh) (vy.va (R.same s1).oh) e ⟨k,rfl,?_⟩;cases k with
 |false=>exact iteF (q H2 (s1.trans s2))
 |true=>refine iteT (hc Oc Ob σ H2 ρ _ R2 (Res.zP (Res.zS q) (fun dz _ q z H3 s3 vz=>?_) fun c z H' s'=>z H' ((s1.trans s2).trans s')));obtain⟨k,e,q⟩:=Res.zG q;exact hp' Oc Ob H3 y z dy dz k _ ((vy.same s3).va (R.same s1).oh) (vz.va R2.oh) e (q H3 ((s1.trans s2).trans s3))
theorem gD{r:R2}{f g:D->D->Option Bool}(ho:OpR C.X (compareOp op) r)(ho':OpR C.X (compareOp op') r')(hp:PrB r f)(hp':PrB r' g)(ha:RE C mda a ma)(hb:RE C mdb b mb)(hc:RE C mdc c mc)(hm:autoParam (lastMarks [op,op'] [b,c]=false) zB3._auto_1):RT C (.Compare a [op,op'] [b,c] pos) (b3 f g ma mb mc):=by obtain⟨ta,pa,qa⟩:=ha;obtain⟨tb,pb,qb⟩:=hb;obtain⟨tc,pc,qc⟩:=hc;exact⟨_,wX5 ho ho' pa pb pc hm,fun Oc Ob σ H ρ Q R h=>chain3 qa qb qc hp hp' R (Res.zP h (fun b _ q H' s=>⟨b,rfl,q H' s⟩) fun _ z=>z)⟩
def vB(m:B7):B5:=fun ρ=>(m ρ).bind fun b=>.ok (.bool b)
theorem yL6{r:R2}{f g:D->D->Option Bool}(ho:OpR C.X (compareOp op) r)(ho':OpR C.X (compareOp op') r')(hp:PrB r f)(hp':PrB r' g)(ha:RE C mda a ma)(hb:RE C mdb b mb)(hc:RE C mdc c mc)(hm:autoParam (lastMarks [op,op'] [b,c]=false) zB3._auto_1):RE C .cl (.Compare a [op,op'] [b,c] pos) (vB (b3 f g ma mb mc)):=by obtain⟨ta,pa,qa⟩:=ha;obtain⟨tb,pb,qb⟩:=hb;obtain⟨tc,pc,qc⟩:=hc;exact⟨_,xA6 ho ho' pa pb pc hm,fun Oc Ob σ H ρ Q R h=>chain3 qa qb qc hp hp' R (Res.zP (Res.zS h) (fun b _ q H' s=>q _ H' s (Rep.bl b)) fun _ z=>z)⟩
variable {ta' tb':B7}{rest:C7}
def isB:D->Option Bool
 |.bool b=>some b
 |_=>none
def tV(m:B5):B7:=fun ρ=>(m ρ).bind fun d=>Res.lft (isB d)
theorem yO5{d:D}{b:Bool}(h:isB d=some b):d=.bool b:=by cases d<;>simp[isB]at h ⊢;exact h
theorem cT(h:RE C md a ma)(he:autoParam (∀whole,isTrue a C.X.env whole=(do let v<-whole;standAt a.pos;holding [v] (truthy v))) Ew):RT C a (tV ma):=by obtain⟨t,p,q⟩:=h;refine⟨_,wH6 p he,fun Oc Ob σ H ρ Q R h=>q Oc Ob σ H ρ _ R (Res.zP (Res.zS h) (fun d _ k v H' s r=>?_) fun _ z=>z)⟩;obtain⟨b,e,k⟩:=Res.zG k;obtain rfl:=yO5 e;exact⟨b,(r.va R.oh).bool,k H' s⟩
def tNt(m:B7):B7:=fun ρ=>(m ρ).bind fun b=>.ok (!b)
theorem qY(h:RT C a ta'):RT C (.UnaryOp .Not a pos) (tNt ta'):=by obtain⟨t,p,q⟩:=h;exact⟨_,wI4 p,fun Oc Ob σ H ρ Q R h=>q Oc Ob σ H ρ _ R (Res.zP (Res.zS h) (fun d _ k=>k) fun _ z=>z)⟩
def tAn(m n:B7):B7:=fun ρ=>(m ρ).bind fun b=>if b then n ρ else .ok false
def tO(m n:B7):B7:=fun ρ=>(m ρ).bind fun b=>if b then .ok true else n ρ
theorem rw_and1(h:RT C a ta'):RW C (.BoolOp .And [a] pos) ta':=by obtain⟨t,p,q⟩:=h;exact⟨_,pw_and1 p,q⟩
theorem rw_or1(h:RT C a ta'):RW C (.BoolOp .Or [a] pos) ta':=by obtain⟨t,p,q⟩:=h;exact⟨_,pw_or1 p,q⟩
theorem rw_and(ha:RT C a ta')(hb:RW C (.BoolOp .And (b::rest) pos) tb'):RW C (.BoolOp .And (a::b::rest) pos) (tAn ta' tb'):=by
 obtain⟨t,p,q⟩:=ha;obtain⟨t',p',q'⟩:=hb;refine⟨_,pw_and p p',fun Oc Ob σ H ρ Q R h=>q Oc Ob σ H ρ _ R (Res.zP (Res.zS h) (fun b _ k H' s=>?_) fun _ z=>z)⟩;cases b with
 |true=>exact iteT (q' Oc Ob σ H' ρ Q (R.same s) (Res.zP k (fun b _ k H2 s2=>k H2 (s.trans s2)) fun c z H2 s2=>z H2 (s.trans s2)))
 |false=>exact iteF (k H' s)
theorem rw_or(ha:RT C a ta')(hb:RW C (.BoolOp .Or (b::rest) pos) tb'):RW C (.BoolOp .Or (a::b::rest) pos) (tO ta' tb'):=by
 obtain⟨t,p,q⟩:=ha;obtain⟨t',p',q'⟩:=hb;refine⟨_,pw_or p p',fun Oc Ob σ H ρ Q R h=>q Oc Ob σ H ρ _ R (Res.zP (Res.zS h) (fun b _ k H' s=>?_) fun _ z=>z)⟩;cases b with
 |false=>exact iteF (q' Oc Ob σ H' ρ Q (R.same s) (Res.zP k (fun b _ k H2 s2=>k H2 (s.trans s2)) fun c z H2 s2=>z H2 (s.trans s2)))
 |true=>exact iteT (k H' s)
theorem RW.rt(h:RW C a ta'):RT C a ta':=by obtain⟨t,p,q⟩:=h;exact⟨_,p.pt,q⟩
theorem fE{op}(h:RE C md a ma):RE C md (.BoolOp op [a] pos) ma:=by obtain⟨t,p,q⟩:=h;exact⟨_,wI1 p,q⟩
def vAn(m n:B5):B5:=fun ρ=>(m ρ).bind fun d=>(Res.lft (isB d)).bind fun b=>if b then n ρ else .ok (.bool false)
theorem qJ(ha:RE C mda a ma)(hb:RE C .cl (.BoolOp .And (b::rest) pos) mb):RE C .cl (.BoolOp .And (a::b::rest) pos) (vAn ma mb):=by
 obtain⟨t,p,q⟩:=ha;obtain⟨t',p',q'⟩:=hb;refine⟨_,wF8 p p',fun Oc Ob σ H ρ Q R h=>q Oc Ob σ H ρ _ R (Res.zP (Res.zS h) (fun d _ k v H' s r=>?_) fun _ z=>z)⟩;obtain⟨b,e,k⟩:=Res.zG (Res.zS k);obtain rfl:=yO5 e;refine⟨b,(r.va R.oh).bool,?_⟩;cases b with
 |true=>exact iteT (q' Oc Ob σ H' ρ Q (R.same s) (Res.zP k (fun b _ k v H2 s2 r=>k v H2 (s.trans s2) r) fun c z H2 s2=>z H2 (s.trans s2)))
 |false=>exact iteF (k _ H' s (Rep.bl false))
def eIf(m:B7)(n o:B5):B5:=fun ρ=>(m ρ).bind fun b=>if b then n ρ else o ρ
theorem wX1(hc:RT C c ta')(ha:RE C md a ma)(hb:RE C md b mb):RE C md (.IfExp c a b pos) (eIf ta' ma mb):=by
 obtain⟨t,p,q⟩:=hc;obtain⟨t1,p1,q1⟩:=ha;obtain⟨t2,p2,q2⟩:=hb;refine⟨_,xC8 p p1 p2,fun Oc Ob σ H ρ Q R h=>q Oc Ob σ H ρ _ R (Res.zP (Res.zS h) (fun b _ k H' s=>?_) fun _ z=>z)⟩;cases b with
 |true=>exact iteT (q1 Oc Ob σ H' ρ Q (R.same s) (Res.zP k (fun b _ k v H2 s2 r=>k v H2 (s.trans s2) (r.from s)) fun c z H2 s2=>z H2 (s.trans s2)))
 |false=>exact iteF (q2 Oc Ob σ H' ρ Q (R.same s) (Res.zP k (fun b _ k v H2 s2 r=>k v H2 (s.trans s2) (r.from s)) fun c z H2 s2=>z H2 (s.trans s2)))
def e1(f:D->Option D)(m:B5):B5:=fun ρ=>(m ρ).bind fun x=>Res.lft (f x)
def negD:D->Option D
 |.int i=>some (.int (-i))
 |_=>none
theorem dS(ha:RE C mda a ma):RE C .cl (.UnaryOp .USub a pos) (e1 negD ma):=by
 obtain⟨t,p,q⟩:=ha;refine⟨_,vX3 wD3 p,fun Oc Ob σ H ρ Q R h=>q Oc Ob σ H ρ _ R (Res.zP (Res.zS h) (fun d _ k v H' s r=>?_) fun _ z=>z)⟩;obtain⟨d',e,k⟩:=Res.zG k;cases d with
 |int i=>cases e;exact⟨i,(r.va R.oh).int,k _ H' s (Rep.int _)⟩
 |_=>cases e
end
inductive VAs(Oc:Wd)(Ob:C2)(H:Hp):List V->List D->Prop
 |nil:VAs Oc Ob H [] []
 |cons {v:V}{d:D}{vs:C8}{ds:D0}:VA Oc Ob H v d->VAs Oc Ob H vs ds->VAs Oc Ob H (v::vs) (d::ds)
section
variable {Oc:Wd}{Ob:C2}{H H':Hp}
theorem VAs.rep:∀{vs:C8}{ds:D0},VAs Oc Ob H vs ds->Reps H (fun _=>False) vs ds
 |_,_,.nil=>.nil
 |_,_,.cons h t=>.cons h.rep (VAs.rep t)
theorem VA.same{v:V}{d:D}(h:VA Oc Ob H v d)(s:Same H H'):VA Oc Ob H' v d:=VR.same (md:=.any) (H:=H) h s
end
def VQ:Bool->Wd->(C2)->Hp->List V->List D->Prop
 |true,Oc,Ob,H,vs,ds=>Reps H (Uni Oc Ob) vs ds
 |false,Oc,Ob,H,vs,ds=>VAs Oc Ob H vs ds
def RArg(C:Ct)(cl:Bool)(es:C7)(m:Ev->Res (D0)):Prop:=∃t,PA C.X es t/\∀(Oc:Wd)(Ob:C2)(σ:St)(H:Hp)(ρ:Ev)(Q:List V->Hp->Prop),Rel Oc Ob C.om C.ln σ H ρ ->(m ρ).post (fun ds=>∀vs H',Same H H'->VQ cl Oc Ob H' vs ds->Q vs H') (fun c=>∀H',Same H H'->C.XE c H')->t σ H Q
section
variable {C:Ct}{a b c e:Expr}{es:C7}{pos p:Pos}{md mda mdb mdc:Md}{ma mb mc:B5}{ms:Ev->Res (D0)}{cl:Bool}
def aN:Ev->Res (D0):=fun _=>.ok []
def aC(m:B5)(n:Ev->Res (D0)):Ev->Res (D0):=fun ρ=>(m ρ).bind fun x=>(n ρ).bind fun xs=>.ok (x::xs)
theorem zY:RArg C cl [] aN:=⟨_,xP,fun Oc Ob σ H ρ Q R h=>h [] H (Same.refl H) (by cases cl;exact VAs.nil;exact Reps.nil)⟩
theorem zX(ha:RE C .cl e ma)(hr:RArg C true es ms)(hs:autoParam (starEach (e::es) C.X.env=(false,eval e C.X.env)::starEach es C.X.env) Ey):RArg C true (e::es) (aC ma ms):=by obtain⟨t,p,q⟩:=ha;obtain⟨t',p',q'⟩:=hr;refine⟨_,yF p p' hs,fun Oc Ob σ H ρ Q R h=>q Oc Ob σ H ρ _ R (Res.zP (Res.zS h) (fun d _ k v H' s r=>?_) fun _ z=>z)⟩;refine q' Oc Ob σ H' ρ _ (R.same s) (Res.zP (Res.zS k) (fun ds _ k vs H2 s2 r2=>?_) fun c z H2 s2=>z H2 (s.trans s2));exact k _ H2 (s.trans s2) (Reps.cons (r.same s2) r2)
theorem zU(ha:RE C md e ma)(hr:RArg C false es ms)(hs:autoParam (starEach (e::es) C.X.env=(false,eval e C.X.env)::starEach es C.X.env) Ey):RArg C false (e::es) (aC ma ms):=by obtain⟨t,p,q⟩:=ha;obtain⟨t',p',q'⟩:=hr;refine⟨_,yF p p' hs,fun Oc Ob σ H ρ Q R h=>q Oc Ob σ H ρ _ R (Res.zP (Res.zS h) (fun d _ k v H' s r=>?_) fun _ z=>z)⟩;refine q' Oc Ob σ H' ρ _ (R.same s) (Res.zP (Res.zS k) (fun ds _ k vs H2 s2 r2=>?_) fun c z H2 s2=>z H2 (s.trans s2));exact k _ H2 (s.trans s2) (VAs.cons ((r.va R.oh).same s2) r2)
def mkL(ds:D0):Option D:=if ds.length<=sizeLine then some (.list ds)else none
def mkT(ds:D0):Option D:=if ds.length<=sizeLine then some (.tuple ds)else none
def eB(f:List D->Option D)(m:Ev->Res (D0)):B5:=fun ρ=>(m ρ).bind fun ds=>Res.lft (f ds)
theorem wB{p:Addr}(s:Same H H1)(hp:H1 p=none)(r:Reps H1 (Uni Oc Ob) vs ds):VR .new Oc Ob H (upd H1 p (.lst vs)) (.ref p) (.list ds):=⟨p,vs,ds,rfl,rfl,s.free hp,yU,r.keep (fun b o e _=>by rw[zJ (xE e hp)];exact e) fun b n z=>z.elim id fun z=>by subst z;exact absurd hp n⟩
theorem cZ{p:Addr}(oh:∀a,Oc a\/Ob a->H1 a≠none)(hp:H1 p=none)(r:Reps H1 (Uni Oc Ob) vs ds):Rep (upd H1 p (.tup vs)) (Uni Oc Ob) (.ref p) (.tuple ds):=.tup (.inl yU) (fun z=>oh p z hp) (r.same (Same.new hp))
theorem yK(h:RArg C true es ms):RE C .new (.List es pos) (eB mkL ms):=by obtain⟨t,p,q⟩:=h;refine⟨_,yP8 p,fun Oc Ob σ H ρ Q R h=>q Oc Ob σ H ρ _ R (Res.zP (Res.zS h) (fun ds _ k vs H' s r=>?_) fun _ z=>z)⟩;obtain⟨d,e,k⟩:=Res.zG k;unfold mkL at e;split at e;rename_i hl;cases e;exact⟨by rw[Reps.length r];exact hl,fun p hp=>k _ _ (s.trans (Same.new hp)) (wB s hp r)⟩;cases e
theorem yL5{x1}(h:RArg C true es ms):RE C .cl (.Tuple es x1 pos) (eB mkT ms):=by obtain⟨t,p,q⟩:=h;refine⟨_,wF3 p,fun Oc Ob σ H ρ Q R h=>q Oc Ob σ H ρ _ R (Res.zP (Res.zS h) (fun ds _ k vs H' s r=>?_) fun _ z=>z)⟩;obtain⟨d,e,k⟩:=Res.zG k;unfold mkT at e;split at e;rename_i hl;cases e;exact⟨by rw[Reps.length r];exact hl,fun p hp=>k _ _ (s.trans (Same.new hp)) (cZ (R.same s).oh hp r)⟩;cases e
def PrC(r:List V->Hp->VK->Prop)(md:Md)(f:List D->Option D):Prop:=∀(Oc:Wd)(Ob:C2)(H:Hp)(vs:C8)(ds:D0)(d:D)(Q:VK),(∀a,Oc a\/Ob a->H a≠none)->VAs Oc Ob H vs ds->f ds=some d->(∀v H',Same H H'->VR md Oc Ob H H' v d->Q v H')->r vs H Q
theorem yW1{t:TA}{r:List V->Hp->VK->Prop}{f:List D->Option D}(q:∀(Oc:Wd)(Ob:C2)(σ:St)(H:Hp)(ρ:Ev)(Q:List V->Hp->Prop),Rel Oc Ob C.om C.ln σ H ρ ->(ms ρ).post (fun ds=>∀vs H',Same H H'->VQ false Oc Ob H' vs ds->Q vs H') (fun c=>∀H',Same H H'->C.XE c H')->t σ H Q)(hp:PrC r md f){Oc:Wd}{Ob:C2}{σ:St}{H:Hp}{ρ:Ev}{Q:VK}(R:Rel Oc Ob C.om C.ln σ H ρ)(h:(eB f ms ρ).post (fun d=>∀v H',Same H H'->VR md Oc Ob H H' v d->Q v H') (fun c=>∀H',Same H H'->C.XE c H')):tCB r t σ H Q:=by refine q Oc Ob σ H ρ _ R (Res.zP (Res.zS h) (fun ds _ k vs H' s r=>?_) fun _ z=>z);obtain⟨d,e,k⟩:=Res.zG k;exact hp Oc Ob H' vs ds d Q (R.same s).oh r e fun v H2 s2 r2=>k v H2 (s.trans s2) (r2.from s)
theorem zK{x:Str}{id:String}{r:List V->Hp->VK->Prop}{f:List D->Option D}(hc:CallR C.X (.builtin id) r)(hp:PrC r md f)(hm:C.X.mg x=none)(hv:bootBuiltins x=some (.builtin id))(ha:RArg C false (e::es) ms)(hg:autoParam (Gl C.X x) Ey)(hn:autoParam (x≠"__name__") Ex)(hdb:autoParam ((x==("__debug__":Str))=false) Ex)(he:autoParam (starEach (e::es) C.X.env=(false,eval e C.X.env)::starEach es C.X.env) Ey)(hpl:autoParam ((backTo pos (starEach es C.X.env)).any (·.1)=false) Ey):RE C md (.Call (.Name x p) (e::es) [] pos) (eB f ms):=by obtain⟨t,pa,q⟩:=ha;exact⟨_,zI2 hc hg hm hv pa hn hdb he hpl,fun Oc Ob σ H ρ Q R h=>yW1 q hp R h⟩
theorem yH{x:Str}{T:String}{r:List V->Hp->VK->Prop}{f:List D->Option D}(hc:CallR C.X (.type T) r)(hp:PrC r md f)(hm:C.X.mg x=none)(hv:bootBuiltins x=some (.type T))(ha:RArg C false (e::es) ms)(hg:autoParam (Gl C.X x) Ey)(hn:autoParam (x≠"__name__") Ex)(hdb:autoParam ((x==("__debug__":Str))=false) Ex)(he:autoParam (starEach (e::es) C.X.env=(false,eval e C.X.env)::starEach es C.X.env) Ey)(hpl:autoParam ((backTo pos (starEach es C.X.env)).any (·.1)=false) Ey):RE C md (.Call (.Name x p) (e::es) [] pos) (eB f ms):=by obtain⟨t,pa,q⟩:=ha;exact⟨_,dU hc hg hm hv pa hn hdb he hpl,fun Oc Ob σ H ρ Q R h=>yW1 q hp R h⟩
def Walks(Oc:Wd)(Ob:C2)(J:It)(H1:Hp)(ds:D0):Prop:=∀(H2:Hp)(Ob2:C2),Frm Ob H1 H2->(∀b,Ob2 b->Ob b\/H1 b=none)->∀i,(∀d,ds[i]?=some d->J.go i H2/\∀x H3,J.yld i H2 x H3->Same H2 H3/\Rep H3 (Uni Oc Ob2) x d)/\(ds.length<=i->J.stop i H2)
def RI(C:Ct)(tg iter:Expr)(m:Ev->Res (D0)):Prop:=∃wi,PI C.X tg iter wi/\∀(Oc:Wd)(Ob:C2)(σ:St)(H:Hp)(ρ:Ev)(R:It->Hp->Prop),Rel Oc Ob C.om C.ln σ H ρ ->(m ρ).post (fun ds=>∀J H1,Same H H1->Walks Oc Ob J H1 ds->R J H1) (fun c=>∀H',Same H H'->C.XE c H')->wi σ H R
def iSeq(K:KFr)(tl:TE):TI:=fun σ H R=>tl σ H fun x H1=>∃a,x=.ref a/\(((∃xs,SqL K H1 a xs)/\R (Itl K a) H1)\/((∃xs,SqT K H1 a xs)/\R (Itt K a) H1))
theorem wK8{X:Cx}{l:Expr}{tl:TE}(hl:PE X l tl):PI X tg l (iSeq X.K tl):=by
 intro EA s σ H R I h;refine thn (hl EA s σ H _ I h) fun v s1⟨x,H1,I1,r1,q1⟩=>?_;obtain⟨a,e,q1⟩:=q1;subst e;cases r1;rcases q1 with⟨⟨xs,hq⟩,q⟩|⟨⟨xs,hq⟩,q⟩
 obtain⟨its,rv,p,hz⟩:=I1.list hq;refine wpAny_pyIter_list p.isList ?_;refine⟨s1.heap.objs.size,[s1.heap.objs.size],_,_,H1,rfl,I1.kept (t':=s1.toks) fun b o e=>Am _ e,xE7 a _,⟨_,AO _ rfl,rfl,rfl⟩,fun b hb=>?_,q⟩;have e:b=s1.heap.objs.size:=by simpa using hb
 subst e;exact I1.fpOk (Ac _) (I1.hok.fresh (Ac _));obtain⟨its,rv,p,hz⟩:=I1.tuple hq;refine wpAny_pyIter_tuple (show s1.heap.IsTuple a its.toArray from p) ?_;refine⟨s1.heap.objs.size,[s1.heap.objs.size],_,_,H1,rfl,I1.kept (t':=s1.toks) fun b o e=>Am _ e,xS6 a _,⟨_,AO _ rfl,rfl,rfl⟩,fun b hb=>?_,q⟩;have e:b=s1.heap.objs.size:=by simpa using hb
 subst e;exact I1.fpOk (Ac _) (I1.hok.fresh (Ac _))
def seqD:D->Option (D0)
 |.list ds=>some ds
 |.tuple ds=>some ds
 |_=>none
def iS(m:B5):Ev->Res (D0):=fun ρ=>(m ρ).bind fun d=>Res.lft (seqD d)
theorem Reps.step{Ob2:C2}{H2:Hp}(r:Reps H1 (Uni Oc Ob) vs ds)(f:Frm Ob H1 H2)(s:∀b,Ob2 b->Ob b\/H1 b=none):Reps H2 (Uni Oc Ob2) vs ds:=r.keep (fun b o e n=>f b o e fun z=>n (.inr z)) fun b n z=>z.elim .inl fun z=>(s b z).elim .inr fun q=>absurd q n
end
theorem zC1{K:KFr}{a:Addr}{ys:C8}(r:Rd H1 a (.lst ys))(n:¬Ob a)(rs:Reps H1 (Uni Oc Ob) ys ds):Walks Oc Ob (Itl K a) H1 ds:=by intro H2 Ob2 f s i;have r2:Rd H2 a (.lst ys):=jX r fun o e=>f a o e n;have rs2:=rs.step f s;refine⟨fun d e=>?_,fun h=>⟨ys,.inl r2,by rw[rs2.length];exact h⟩⟩;obtain⟨v,ev,rv⟩:=rs2.get e;refine⟨⟨ys,v,.inl r2,ev⟩,fun x H3 hy=>?_⟩;obtain⟨rfl,hy⟩:=hy;have:=hy ys (.inl r2);rw[ev]at this;cases this;exact⟨Same.refl _,rv⟩
theorem yD1{K:KFr}{a:Addr}{ys:C8}(r:Rd H1 a (.tup ys))(n:¬Ob a)(rs:Reps H1 (Uni Oc Ob) ys ds):Walks Oc Ob (Itt K a) H1 ds:=by intro H2 Ob2 f s i;have r2:Rd H2 a (.tup ys):=jX r fun o e=>f a o e n;have rs2:=rs.step f s;refine⟨fun d e=>?_,fun h=>⟨ys,.inl r2,by rw[rs2.length];exact h⟩⟩;obtain⟨v,ev,rv⟩:=rs2.get e;refine⟨⟨ys,v,.inl r2,ev⟩,fun x H3 hy=>?_⟩;obtain⟨rfl,hy⟩:=hy;have:=hy ys (.inl r2);rw[ev]at this;cases this;exact⟨Same.refl _,rv⟩
theorem zM9{lo:Int}{n:Nat}(e:ds=(List.range n).map fun(i:Nat)=>PyData.int (lo+(i:Int))):Walks Oc Ob (Itr lo n) H1 ds:=by intro H2 Ob2 f s i;subst e;refine⟨fun d e=>?_,fun h=>by show n<=i;simpa using h⟩;rw[Al]at e;by_cases hi:i<n;rw[AZ hi]at e;cases e;refine⟨hi,fun x H3 hy=>?_⟩;obtain⟨rfl,rfl⟩:=hy;exact⟨Same.refl _,.int _⟩;rw[Cj (by simpa using hi)]at e;cases e
section
variable {C:Ct}{a b c e:Expr}{es:C7}{pos p:Pos}{md mda mdb mdc:Md}{ma mb mc:B5}{ms:Ev->Res (D0)}{cl:Bool}{tg:Expr}
theorem xU(h:RE C .rd e ma):RI C tg e (iS ma):=by
 obtain⟨t,p,q⟩:=h;refine⟨_,wK8 p,fun Oc Ob σ H ρ W R h=>q Oc Ob σ H ρ _ R (Res.zP (Res.zS h) (fun d _ k v H' s r=>?_) fun _ z=>z)⟩;obtain⟨ds,e,k⟩:=Res.zG k;rcases r with r|⟨a,ys,ds',rfl,rfl,e3,e4,e5⟩;cases r with
 |lst r n t=>cases e;exact⟨_,rfl,.inl ⟨⟨_,.inl r⟩,k _ H' s (zC1 r (fun z=>n (.inr z)) t)⟩⟩
 |tup r n t=>cases e;exact⟨_,rfl,.inr ⟨⟨_,.inl r⟩,k _ H' s (yD1 r (fun z=>n (.inr z)) t)⟩⟩
 |_=>cases e
 cases e;exact⟨_,rfl,.inl ⟨⟨_,SqL.of e3⟩,k _ H' s (zC1 (.inl e3) e4 e5)⟩⟩
def rng1:List D->Option (D0)
 |[.int j]=>if -(2^62)<=j/\j<2^62 then some ((List.range j.toNat).map fun(i:Nat)=>PyData.int (i:Int))else none
 |_=>none
def rng2:List D->Option (D0)
 |[.int i,.int j]=>if -(2^62)<=i/\i<2^62/\-(2^62)<=j/\j<2^62 then some ((List.range (j-i).toNat).map fun(k:Nat)=>PyData.int (i+(k:Int)))else none
 |_=>none
def iR(f:List D->Option (D0))(m:Ev->Res (D0)):Ev->Res (D0):=fun ρ=>(m ρ).bind fun ds=>Res.lft (f ds)
theorem VAs.one{d:D}(h:VAs Oc Ob H vs [d]):∃v,vs=[v]/\VA Oc Ob H v d:=by
 cases h with
 |cons a t=>cases t;exact⟨_,rfl,a⟩
theorem VAs.two{d d':D}(h:VAs Oc Ob H vs [d,d']):∃v v',vs=[v,v']/\VA Oc Ob H v d/\VA Oc Ob H v' d':=by
 cases h with
 |cons a t=>obtain⟨v,rfl,q⟩:=VAs.one t;exact⟨_,_,rfl,a,q⟩
theorem kC(hm:C.X.mg "range"=none)(ha:RArg C false [a] ms)(hg:autoParam (Gl C.X "range") Ey)(hs:autoParam (starEach [a] C.X.env=[(false,eval a C.X.env)]) Ey):RI C tg (.Call (.Name "range" p) [a] [] pos) (iR rng1 ms):=by obtain⟨t,pa,q⟩:=ha;refine⟨_,zQ1 hg hm pa hs,fun Oc Ob σ H ρ W R h=>q Oc Ob σ H ρ _ R (Res.zP (Res.zS h) (fun ds _ k vs H' s r=>?_) fun _ z=>z)⟩;obtain⟨xs,e,k⟩:=Res.zG k;unfold rng1 at e;split at e;split at e;rename_i hb;cases e;obtain⟨v,rfl,va⟩:=VAs.one r;obtain rfl:=va.int;exact⟨_,rfl,hb.1,hb.2,k _ H' s (zM9 (by simp))⟩;cases e;cases e
theorem qB(hm:C.X.mg "range"=none)(ha:RArg C false [a,b] ms)(hg:autoParam (Gl C.X "range") Ey)(hs:autoParam (starEach [a,b] C.X.env=[(false,eval a C.X.env),(false,eval b C.X.env)]) Ey)(hs2:autoParam (starEach [b] C.X.env=[(false,eval b C.X.env)]) Ey):RI C tg (.Call (.Name "range" p) [a,b] [] pos) (iR rng2 ms):=by obtain⟨t,pa,q⟩:=ha;refine⟨_,yU3 hg hm pa hs hs2,fun Oc Ob σ H ρ W R h=>q Oc Ob σ H ρ _ R (Res.zP (Res.zS h) (fun ds _ k vs H' s r=>?_) fun _ z=>z)⟩;obtain⟨xs,e,k⟩:=Res.zG k;unfold rng2 at e;split at e;split at e;rename_i hb;cases e;obtain⟨v,v',rfl,va,va'⟩:=VAs.two r;obtain rfl:=va.int;obtain rfl:=va'.int;exact⟨_,_,rfl,hb,k _ H' s (zM9 rfl)⟩;cases e;cases e
end
def cEnv(ρ:Ev)(js:C5)(x:D):Ev:=some x::js.map fun j=>(ρ[j]?).join
def capt(js l:C5):C5:=((List.range js.length).filter fun i=>l.contains (js.getD i 0)).map (·+1)
def noEx{α:Type}:Res α->Res α
 |.ok a=>.ok a
 |_=>.no
theorem wX4{l:C5}{i:Nat}(h:i∈capt js l):∃k,i=k+1/\k<js.length/\js.getD k 0∈l:=by unfold capt at h;obtain⟨k,hk,rfl⟩:=Ay.mp h;obtain⟨h1,h2⟩:=BY.mp hk;exact⟨k,rfl,AH.mp h1,AV.mp h2⟩
theorem yK5{l:C5}{k j:Nat}(h:js[k]?=some j)(hl:j∈l):k+1∈capt js l:=by unfold capt;refine Ay.mpr ⟨k,BY.mpr ⟨AH.mpr ?_,?_⟩,rfl⟩;exact(AD.mp h).1;rw[Ax,h];exact AV.mpr hl
theorem yV8{x d:D}{k:Nat}(h:(cEnv ρ js x)[k+1]?=some (some d)):∃j,js[k]?=some j/\ρ[j]?=some (some d):=by
 unfold cEnv at h;rw[Cc,Al]at h;cases e:js[k]? with
 |none=>rw[e]at h;cases h
 |some j=>
  rw[e]at h;refine⟨j,rfl,?_⟩;have h:(ρ[j]?).join=some d:=Ba h;cases q:ρ[j]? with
  |none=>rw[q]at h;cases h
  |some z=>rw[q]at h;rw[show z=some d from h]
theorem kR{v0:Option V}{v:V}{k j:Nat}(h:js[k]?=some j)(e:σ[j]?=some (some v)):(compSt σ js v0)[k+1]?=some (some v):=by unfold compSt;rw[Cc,Al,h];show some ((σ[j]?).join)=_;rw[e];rfl
def adr:Option (Option V)->Addr
 |some (some (.ref a))=>a
 |_=>0
def cW(Oc:Wd)(Ob:C2)(σ:St)(js:C5):Wd:=⟨Uni Oc Ob,fun i=>adr ((compSt σ js none)[i]?)⟩
theorem Rel.comp{om ln:C5}{x:V}{d:D}(R:Rel Oc Ob om ln σ H ρ)(r:Rep H (Uni Oc Ob) x d):Rel (cW Oc Ob σ js) (fun _=>False) [] (capt js (om++ln)) (compSt σ js (some x)) H (cEnv ρ js d) where
 len:=by unfold compSt cEnv;simp
 val:=fun i d' e _ hl=>by
  cases i with
  |zero=>
   cases e
   exact⟨x,rfl,r.less fun b z=>z.elim id fun z=>z.elim⟩
  |succ k=>
   obtain⟨j,e1,e2⟩:=yV8 e
   have h1:j∉om:=fun z=>hl (yK5 e1 (AG _ z))
   have h2:j∉ln:=fun z=>hl (yK5 e1 (Ah _ z))
   obtain⟨v,q,rv⟩:=R.val j d' e2 h1 h2
   exact⟨v,kR e1 q,rv.less fun b z=>z.elim id fun z=>z.elim⟩
 own:=fun i d' e h=>nomatch h
 lnt:=fun i d' e _ hl=>by
  obtain⟨k,rfl,hk,hj⟩:=wX4 hl
  obtain⟨j,e1,e2⟩:=yV8 e
  rw[Ax,e1,Dt]at hj
  by_cases ho:j∈om
  obtain⟨v,q,a,ys,ds,z1,z2,z3,z4,z5⟩:=R.own j d' e2 ho
  have ea:(cW Oc Ob σ js).la (k+1)=a:=by show adr _=a;rw[kR e1 q,z1];rfl
  exact⟨v,kR e1 q,ys,ds,by rw[ea];exact z1,z2,by rw[ea];exact z3,by rw[ea];exact .inr z4,z5.less fun b z=>z.elim id fun z=>z.elim⟩
  have hl2:j∈ln:=(AE.mp hj).elim (fun z=>absurd z ho) id
  obtain⟨v,q,ys,ds,z1,z2,z3,z4,z5⟩:=R.lnt j d' e2 ho hl2
  have ea:(cW Oc Ob σ js).la (k+1)=Oc.la j:=by show adr _=_;rw[kR e1 q,z1];rfl
  exact⟨v,kR e1 q,ys,ds,by rw[ea];exact z1,z2,by rw[ea];exact z3,by rw[ea];exact .inl z4,z5.less fun b z=>z.elim id fun z=>z.elim⟩
 inj:=fun i j di dj a _ _ h=>nomatch h
 oh:=fun a z=>R.oh a (z.elim id fun z=>z.elim)
 ap:=fun a z=>z.elim
def RTs(C:Ct)(ifs:C7)(m:B7):Prop:=∃t,PTs C.X ifs t/\∀(Oc:Wd)(Ob:C2)(σ:St)(H:Hp)(ρ:Ev)(Q:Bool->Hp->Prop),Rel Oc Ob C.om C.ln σ H ρ ->(m ρ).post (fun b=>∀H',Same H H'->Q b H') (fun c=>∀H',Same H H'->C.XE c H')->t σ H Q
def tYes:B7:=fun _=>.ok true
theorem xN:RTs C [] tYes:=⟨_,.nil,fun Oc Ob σ H ρ Q R h=>h H (Same.refl H)⟩
theorem xY5{c:Expr}{m:B7}(h:RT C c m):RTs C [c] m:=by obtain⟨t,p,q⟩:=h;exact⟨t,.one p,q⟩
def WalksS(Oc:Wd)(Ob:C2)(J:It)(H1:Hp)(ds:D0):Prop:=∀(H2:Hp),Same H1 H2->∀i,(∀d,ds[i]?=some d->J.go i H2/\∀x H3,J.yld i H2 x H3->Same H2 H3/\Rep H3 (Uni Oc Ob) x d)/\(ds.length<=i->J.stop i H2)
def RIc(C:Ct)(tg iter:Expr)(m:Ev->Res (D0)):Prop:=∃wi,PI C.X tg iter wi/\∀(Oc:Wd)(Ob:C2)(σ:St)(H:Hp)(ρ:Ev)(R:It->Hp->Prop),Rel Oc Ob C.om C.ln σ H ρ ->(m ρ).post (fun ds=>∀J H1,Same H H1->WalksS Oc Ob J H1 ds->R J H1) (fun c=>∀H',Same H H'->C.XE c H')->wi σ H R
theorem RI.c{C:Ct}{tg iter:Expr}{m:Ev->Res (D0)}(h:RI C tg iter m):RIc C tg iter m:=by obtain⟨wi,p,q⟩:=h;exact⟨wi,p,fun Oc Ob σ H ρ W R h=>q Oc Ob σ H ρ W R (Res.zP h (fun ds _ k J H1 s w=>k J H1 s fun H2 s2=>w H2 Ob (Same.frm s2) fun b z=>.inl z) fun _ z=>z)⟩
section
variable {C:Ct}{fr:Bool}{e c:Expr}{pos:Pos}{md:Md}{me:B5}{mt:B7}{st:Stmt}{sts rest:List Stmt}{m n:B6}
def sN:B6:=fun ρ=>.ok (.nx ρ)
def sQ(m n:B6):B6:=fun ρ=>(m ρ).bind fun o=>match o with
 |.nx ρ'=>n ρ'
 |.rt d=>.ok (.rt d)
theorem zA:RSs C fr [] sN:=⟨_,xZ8,fun Oc Ob σ H ρ E R h=>h σ H Ob R (Same.frm (Same.refl H)) fun b z=>.inl z⟩
theorem zR(h:RS C fr st m):RSs C fr [st] m:=by obtain⟨t,p,q⟩:=h;exact⟨_,qU p,q⟩
theorem zW(h:RS C fr st m)(hr:RSs C fr rest n):RSs C fr (st::rest) (sQ m n):=by
 obtain⟨t,p,q⟩:=h;obtain⟨t',p',q'⟩:=hr;refine⟨_,xD p p',fun Oc Ob σ H ρ E R h=>q Oc Ob σ H ρ _ R (Res.zP (Res.zS h) (fun o _ k=>?_) fun _ z=>z)⟩;cases o with
 |rt d=>exact k
 |nx ρ'=>exact fun σ' H' Ob' R' f s=>q' Oc Ob' σ' H' ρ' E R' (SPost.step f s k)
def sIf(t:B7)(m n:B6):B6:=fun ρ=>(t ρ).bind fun b=>if b then m ρ else n ρ
theorem yS{x y:List Stmt}(hc:RT C c mt)(hx:RSs C fr x m)(hy:RSs C fr y n):RS C fr (.If c x y pos) (sIf mt m n):=by
 obtain⟨t,p,q⟩:=hc;obtain⟨t1,p1,q1⟩:=hx;obtain⟨t2,p2,q2⟩:=hy;refine⟨_,wT5 p p1 p2,fun Oc Ob σ H ρ E R h=>q Oc Ob σ H ρ _ R (Res.zP (Res.zS h) (fun b _ k H' s=>?_) fun c z H' s=>z H' (Same.frm s))⟩;cases b with
 |true=>exact iteT (q1 Oc Ob σ H' ρ E (R.same s) (SPost.same s k))
 |false=>exact iteF (q2 Oc Ob σ H' ρ E (R.same s) (SPost.same s k))
def sR(m:B5):B6:=fun ρ=>(m ρ).bind fun d=>.ok (.rt d)
theorem zI(he:RE C .cl e me):RS C false (.Return (some e) pos) (sR me):=by obtain⟨t,p,q⟩:=he;refine⟨_,zE3 p,fun Oc Ob σ H ρ E R h=>q Oc Ob σ H ρ _ R (Res.zP (Res.zS h) (fun d _ k v H' s r=>?_) fun c z H' s=>z H' (Same.frm s))⟩;exact k v H' (Same.frm s) (Rep.less r fun b z=>.inl z)
theorem aB(i:Nat){x:Str}(hN:autoParam (C.X.N[i]?=some x) Ey)(ho:autoParam (C.om.contains i=true) Ey)(hv:autoParam (Vis C.X.env.scope x) Eu)(hd:autoParam ((x==("__debug__":Str))=false) Ex)(hcd:autoParam ((x==("__classdict__":Str))=false) Ex):RS C true (.Return (some (.Name x p')) pos) (sR (eV i)):=by refine⟨_,zE3 (qI hN hv hd hcd),fun Oc Ob σ H ρ E R h=>?_⟩;obtain⟨d,e,k⟩:=uR (Res.zS h);obtain⟨v,q,a,ys,ds,e1,e2,e3,e4,e5⟩:=R.own i d e (wS ho);exact⟨v,q,k v H (Same.frm (Same.refl H)) ⟨a,ys,ds,e1,e2,.inr e4,R.ap a e4,e3,e5.less fun b z=>z.elim .inl fun z=>.inr (by subst z;exact e4)⟩⟩
theorem xL{α:Type}{l:List (Option α)}{i j:Nat}{v d:α}(h:(l.set i (some v))[j]?=some (some d)):(j=i/\d=v)\/(j≠i/\l[j]?=some (some d)):=by
 by_cases e:i=j;subst e;rw[List.getElem?_set_self']at h;cases q:l[i]? with
 |none=>rw[q]at h;cases h
 |some z=>rw[q]at h;cases h;exact .inl ⟨rfl,rfl⟩
 rw[AU e]at h;exact .inr ⟨fun z=>e z.symm,h⟩
theorem zD8{α:Type}{l:List (Option α)}{i j:Nat}{v d:α}(h:(l.set i (some v))[j]?=some (some d)):j<l.length:=by have:=(AD.mp h).1;simpa using this
theorem Rel.set{Oc:Wd}{Ob:C2}{om ln:C5}{σ:St}{H:Hp}{ρ:Ev}{i:Nat}{v:V}{d:D}(R:Rel Oc Ob om ln σ H ρ)(ho:i∉om)(hl:i∉ln)(r:Rep H (Uni Oc Ob) v d):Rel Oc Ob om ln (σ.set i (some v)) H (ρ.set i (some d)) where
 len:=by rw[CG,CG];exact R.len
 val:=fun j d' e h1 h2=>by
  have hj:=zD8 e
  rcases xL e with⟨rfl,rfl⟩|⟨ne,e⟩
  exact⟨v,by rw[BR (by rw[R.len];exact hj)],r⟩
  obtain⟨w,q,k⟩:=R.val j d' e h1 h2
  exact⟨w,by rw[AU (fun z=>ne z.symm)];exact q,k⟩
 own:=fun j d' e h1=>by
  rcases xL e with⟨rfl,rfl⟩|⟨ne,e⟩
  exact absurd h1 ho
  obtain⟨w,q,k⟩:=R.own j d' e h1
  exact⟨w,by rw[AU (fun z=>ne z.symm)];exact q,k⟩
 lnt:=fun j d' e h1 h2=>by
  rcases xL e with⟨rfl,rfl⟩|⟨ne,e⟩
  exact absurd h2 hl
  obtain⟨w,q,k⟩:=R.lnt j d' e h1 h2
  exact⟨w,by rw[AU (fun z=>ne z.symm)];exact q,k⟩
 inj:=fun j k dj dk a ej ek hj hk qj qk=>by
  rcases xL ej with⟨rfl,rfl⟩|⟨nj,ej⟩
  exact absurd hj ho
  rcases xL ek with⟨rfl,rfl⟩|⟨nk,ek⟩
  exact absurd hk ho
  rw[AU (fun z=>nj z.symm)]at qj
  rw[AU (fun z=>nk z.symm)]at qk
  exact R.inj j k dj dk a ej ek hj hk qj qk
 oh:=R.oh
 ap:=R.ap
theorem Rel.setO{om ln:C5}{i:Nat}{v:V}{d:D}(R:Rel Oc Ob om ln σ H ρ)(s:Same H H')(ho:i∈om)(r:VR .new Oc Ob H H' v d):∃a,H a=none/\Rel Oc (fun b=>Ob b\/b=a) om ln (σ.set i (some v)) H' (ρ.set i (some d)):=by
 obtain⟨a,ys,ds,rfl,rfl,e3,e4,e5⟩:=r;have up:∀{vs:C8}{es:D0},Reps H (Uni Oc Ob) vs es->Reps H' (Uni Oc fun b=>Ob b\/b=a) vs es:=fun r=>r.keep (fun b o e _=>s b o e) fun b n z=>z.elim .inl fun z=>z.elim .inr fun z=>by subst z;exact absurd e3 n
 have up1:∀{v:V}{e:D},Rep H (Uni Oc Ob) v e->Rep H' (Uni Oc fun b=>Ob b\/b=a) v e:=fun r=>r.keep (fun b o e _=>s b o e) fun b n z=>z.elim .inl fun z=>z.elim .inr fun z=>by subst z;exact absurd e3 n
 refine⟨a,e3,?_,fun j d' e h1 h2=>?_,fun j d' e h1=>?_,fun j d' e h1 h2=>?_,fun j k dj dk b ej ek hj hk qj qk=>?_,fun b z=>?_,fun b z=>?_⟩;rw[CG,CG];exact R.len;rcases xL e with⟨rfl,rfl⟩|⟨ne,e⟩;exact absurd ho h1;obtain⟨w,q,k⟩:=R.val j d' e h1 h2;exact⟨w,by rw[AU (fun z=>ne z.symm)];exact q,up1 k⟩;have hj:=zD8 e;rcases xL e with⟨rfl,rfl⟩|⟨ne,e⟩;refine⟨.ref a,by rw[BR (by rw[R.len];exact hj)],a,ys,ds,rfl,rfl,e4,.inr rfl,e5.less fun b z=>z.elim (fun z=>.inl (.inl z)) fun z=>z.elim (fun z=>.inl (.inr z)) .inr⟩;obtain⟨w,q,b,zs,fs,z1,z2,z3,z4,z5⟩:=R.own j d' e h1;exact⟨w,by rw[AU (fun z=>ne z.symm)];exact q,b,zs,fs,z1,z2,s _ _ z3,.inl z4,up z5⟩;rcases xL e with⟨rfl,rfl⟩|⟨ne,e⟩;exact absurd ho h1;obtain⟨w,q,zs,fs,z1,z2,z3,z4,z5⟩:=R.lnt j d' e h1 h2;exact⟨w,by rw[AU (fun z=>ne z.symm)];exact q,zs,fs,z1,z2,s _ _ z3,z4,up z5⟩;have lj:=zD8 ej;have lk:=zD8 ek;rcases xL ej with⟨rfl,rfl⟩|⟨nj,ej'⟩;rw[BR (by rw[R.len];exact lj)]at qj;cases qj;rcases xL ek with⟨rfl,rfl⟩|⟨nk,ek'⟩;rfl;rw[AU (fun z=>nk z.symm)]at qk;obtain⟨w,q,b,zs,fs,z1,z2,z3,z4,z5⟩:=R.own k dk ek' hk;rw[qk]at q;cases q;cases z1;rw[e3]at z3;cases z3;rw[AU (fun z=>nj z.symm)]at qj;rcases xL ek with⟨rfl,rfl⟩|⟨nk,ek'⟩;rw[BR (by rw[R.len];exact lk)]at qk;cases qk;obtain⟨w,q,b,zs,fs,z1,z2,z3,z4,z5⟩:=R.own j dj ej' hj;rw[qj]at q;cases q;cases z1;rw[e3]at z3;cases z3;rw[AU (fun z=>nk z.symm)]at qk;exact R.inj j k dj dk b ej' ek' hj hk qj qk;rcases z with z|z|rfl;exact Same.ne s (R.oh b (.inl z));exact Same.ne s (R.oh b (.inr z));rw[e4];exact fun z=>nomatch z
 rcases z with z|rfl;exact R.ap b z;exact fun z=>R.oh b (.inl z) e3
def sS(i:Nat)(m:B5):B6:=fun ρ=>(m ρ).bind fun d=>.ok (.nx (ρ.set i (some d)))
theorem zC(i:Nat){x:Str}(nd:C.X.N.Nodup)(he:RE C .cl e me)(hi:autoParam (C.X.N[i]?=some x) Ey)(ho:autoParam (C.om.contains i=false) Ey)(hl:autoParam (C.ln.contains i=false) Ey)(hx:autoParam (Loc C.X.env.scope x) zY6._auto_1)(hs:autoParam (swapsWith e (some (.Name x p')) pos.line C.X.env=pure false) Ey)(hf:autoParam (C.X.fn x=true\/C.X.env.scope.names.lookup x=some .local) autoK12._auto_1):RS C fr (.Assign [.Name x p'] e pos) (sS i me):=by obtain⟨t,p,q⟩:=he;refine⟨_,kT nd hi hx p hs hf,fun Oc Ob σ H ρ E R h=>q Oc Ob σ H ρ _ R (Res.zP (Res.zS h) (fun d _ k v H' s r=>?_) fun c z H' s=>z H' (Same.frm s))⟩;exact k _ H' Ob ((R.same s).set (xF ho) (xF hl) r) (Same.frm s) fun b z=>.inl z
theorem xR(i:Nat){x:Str}(nd:C.X.N.Nodup)(he:RE C .new e me)(hi:autoParam (C.X.N[i]?=some x) Ey)(ho:autoParam (C.om.contains i=true) Ey)(hx:autoParam (Loc C.X.env.scope x) zY6._auto_1)(hs:autoParam (swapsWith e (some (.Name x p')) pos.line C.X.env=pure false) Ey)(hf:autoParam (C.X.fn x=true\/C.X.env.scope.names.lookup x=some .local) autoK12._auto_1):RS C fr (.Assign [.Name x p'] e pos) (sS i me):=by obtain⟨t,p,q⟩:=he;refine⟨_,kT nd hi hx p hs hf,fun Oc Ob σ H ρ E R h=>q Oc Ob σ H ρ _ R (Res.zP (Res.zS h) (fun d _ k v H' s r=>?_) fun c z H' s=>z H' (Same.frm s))⟩;obtain⟨a,ha,R'⟩:=R.setO s (wS ho) r;exact k _ H' _ R' (Same.frm s) fun b z=>z.elim .inl fun z=>.inr (by subst z;exact ha)
theorem fG(i:Nat){x:Str}{op:Operator}{r:R2}{f:D->D->Option D}(nd:C.X.N.Nodup)(hop:OpR C.X (inplaceOp op) r)(hp:Pr2 r .cl f)(he:RE C md e me)(hi:autoParam (C.X.N[i]?=some x) Ey)(ho:autoParam (C.om.contains i=false) Ey)(hl:autoParam (C.ln.contains i=false) Ey)(hx:autoParam (Loc C.X.env.scope x) zY6._auto_1)(hf:autoParam (C.X.fn x=true\/C.X.env.scope.names.lookup x=some .local) autoK12._auto_1):RS C fr (.AugAssign (.Name x p') op e pos) (sS i (e2 f (eV i) me)):=by obtain⟨t,p,q⟩:=he;refine⟨_,wB4 (ti:=r) nd hi hx p hop hf,fun Oc Ob σ H ρ E R h=>?_⟩;obtain⟨d,ed,k⟩:=uR (Res.zS (Res.zS h));obtain⟨v,qv,rv⟩:=R.val i d ed (xF ho) (xF hl);refine⟨v,qv,q Oc Ob σ H ρ _ R (Res.zP (Res.zS k) (fun d' _ k v' H' s r'=>?_) fun c z H' s=>z H' (Same.frm s))⟩;obtain⟨d2,e,k⟩:=Res.zG k;refine hp Oc Ob H' v v' d d' d2 _ (R.same s).oh (.inl (rv.same s)) (r'.va R.oh) e fun w H2 s2 rw'=>?_;exact k _ H2 Ob ((R.same (s.trans s2)).set (xF ho) (xF hl) rw') (Same.frm (s.trans s2)) fun b z=>.inl z
def sE(m:B5):B6:=fun ρ=>(m ρ).bind fun _=>.ok (.nx ρ)
theorem jU(he:RE C md e me)(hs:autoParam (swapsWith e none pos.line C.X.env=pure false) Ey):RS C fr (.Expr e pos) (sE me):=by obtain⟨t,p,q⟩:=he;refine⟨_,jW p hs,fun Oc Ob σ H ρ E R h=>q Oc Ob σ H ρ _ R (Res.zP (Res.zS h) (fun d _ k v H' s r=>?_) fun c z H' s=>z H' (Same.frm s))⟩;exact k σ H' Ob (R.same s) (Same.frm s) fun b z=>.inl z
theorem Rel.write{om ln:C5}{i:Nat}{a:Addr}{ys ys':C8}{d:D}{ds':D0}(R:Rel Oc Ob om ln σ H ρ)(ho:i∈om)(ed:ρ[i]?=some (some d))(es:σ[i]?=some (some (.ref a)))(ha:H a=some (.lst ys))(hb:Ob a) (r:Reps H (Uni Oc Ob) ys' ds'):Rel Oc Ob om ln σ (upd H a (.lst ys')) (ρ.set i (some (.list ds'))):=by
 have kp:∀b o,H b=some o->¬Uni Oc Ob b->upd H a (.lst ys') b=some o:=fun b o e n=>by rw[zJ (fun z=>n (by subst z;exact .inr hb))];exact e
 have up:∀{vs:C8}{es:D0},Reps H (Uni Oc Ob) vs es->Reps (upd H a (.lst ys')) (Uni Oc Ob) vs es:=fun r=>r.keep kp fun b n z=>z;have up1:∀{v:V}{e:D},Rep H (Uni Oc Ob) v e->Rep (upd H a (.lst ys')) (Uni Oc Ob) v e:=fun r=>r.keep kp fun b n z=>z;have li:i<σ.length:=(AD.mp es).1;refine⟨by rw[CG];exact R.len,fun j d' e h1 h2=>?_,fun j d' e h1=>?_,fun j d' e h1 h2=>?_,fun j k dj dk b ej ek hj hk qj qk=>?_,fun b z=>?_,R.ap⟩;rcases xL e with⟨rfl,rfl⟩|⟨ne,e⟩
 exact absurd ho h1;obtain⟨w,q,k⟩:=R.val j d' e h1 h2;exact⟨w,q,up1 k⟩;rcases xL e with⟨rfl,rfl⟩|⟨ne,e⟩;exact⟨.ref a,es,a,ys',ds',rfl,rfl,yU,hb,up r⟩;obtain⟨w,q,b,zs,fs,rfl,z2,z3,z4,z5⟩:=R.own j d' e h1;have nb:b≠a:=fun z=>by subst z;exact ne (R.inj j i d' d b e ed h1 ho q es)
 exact⟨_,q,b,zs,fs,rfl,z2,by rw[zJ nb];exact z3,z4,up z5⟩;rcases xL e with⟨rfl,rfl⟩|⟨ne,e⟩;exact absurd ho h1;obtain⟨w,q,zs,fs,z1,z2,z3,z4,z5⟩:=R.lnt j d' e h1 h2;have nb:Oc.la j≠a:=fun z=>R.ap a hb (z▸z4)
 exact⟨_,q,zs,fs,z1,z2,by rw[zJ nb];exact z3,z4,up z5⟩;have get:∀j dj,(ρ.set i (some (.list ds')))[j]?=some (some dj)->∃d,ρ[j]?=some (some d):=fun j dj e=>by rcases xL e with⟨rfl,rfl⟩|⟨ne,e⟩;exact⟨d,ed⟩;exact⟨dj,e⟩
 obtain⟨d1,e1⟩:=get j dj ej;obtain⟨d2,e2⟩:=get k dk ek;exact R.inj j k d1 d2 b e1 e2 hj hk qj qk;by_cases h:b=a;subst h;rw[yU];exact fun z=>nomatch z
 rw[zJ h];exact R.oh b z
def PrM(r:V->List V->Hp->VK->Prop)(g:List D->List D->Option (D0)):Prop:=∀(O:C2)(H:Hp)(l:Addr)(xs vs:C8)(xd ad ds':D0)(Q:VK),H l=some (.lst xs)->Reps H O xs xd->Reps H O vs ad->g xd ad=some ds'->(∀xs',Reps H O xs' ds'->Q .non (upd H l (.lst xs')))->r (.ref l) vs H Q
def lstD:D->Option (D0)
 |.list ds=>some ds
 |_=>none
def sM(i:Nat)(g:List D->List D->Option (D0))(m:Ev->Res (D0)):B6:=fun ρ=>(eV i ρ).bind fun d=>(Res.lft (lstD d)).bind fun xd=>(m ρ).bind fun ad=>(Res.lft (g xd ad)).bind fun ds=>.ok (.nx (ρ.set i (some (.list ds))))
theorem uJ{d:D}(h:lstD d=some ds):d=.list ds:=by cases d<;>simp[lstD]at h ⊢;exact h
theorem jQ(i:Nat){x:Str}{id:String}{a:Expr}{apos:Pos}{r:V->List V->Hp->VK->Prop}{g:List D->List D->Option (D0)}(slot:Slot "list" name id)(hty:typeOf (.builtin id)=pure (.type "method_descriptor"))(hm:MtR C.X id r)(hp:PrM r g)(ha:RArg C true (a::es) ms)(hN:autoParam (C.X.N[i]?=some x) Ey)(ho:autoParam (C.om.contains i=true) Ey)(hv:autoParam (Vis C.X.env.scope x) Eu)(hd:autoParam ((x==("__debug__":Str))=false) Ex)(hcd:autoParam ((x==("__classdict__":Str))=false) Ex)(hbase:autoParam (attributeBase (.Name x p') name C.X.env (eval (.Name x p') C.X.env)=eval (.Name x p') C.X.env) Ey)(hfew:((backTo cpos (starEach (a::es) C.X.env)).all (fun x=>!x.1)&&(backToKw cpos (keywordEach [] C.X.env)).all (fun x=>x.1.isSome) &&decide ((a::es).length+([]:List Keyword).length+(if ([]:List Keyword).isEmpty then 0 else 1)<30))=true:=by rfl)(hline:autoParam ((apos.endLine==cpos.line)=true) Ey)(hs:autoParam (starEach (a::es) C.X.env=(false,eval a C.X.env)::starEach es C.X.env) Ey)(hplain:autoParam ((backTo cpos (starEach es C.X.env)).any (·.1)=false) Ey)(hsw:autoParam (swapsWith (.Call (.Attribute (.Name x p') name apos) (a::es) [] cpos) none pos.line C.X.env=pure false) Ey):RS C fr (.Expr (.Call (.Attribute (.Name x p') name apos) (a::es) [] cpos) pos) (sM i g ms):=by obtain⟨t,p,q⟩:=ha;refine⟨_,jW (bK BM slot hty hm (qI hN hv hd hcd) p hbase hfew hline hs hplain) hsw,fun Oc Ob σ H ρ E R h=>?_⟩;obtain⟨d,ed,k⟩:=uR (Res.zS h);obtain⟨xd,ex,k⟩:=Res.zG (Res.zS k);obtain rfl:=uJ ex;obtain⟨v,qv,l,ys,ds,rfl,e2,e3,e4,e5⟩:=R.own i _ ed (wS ho);cases e2;refine⟨_,qv,.inl ⟨rfl,_,SqL.of e3⟩,q Oc Ob σ H ρ _ R (Res.zP (Res.zS k) (fun ad _ k vs H' s r'=>?_) fun c z H' s=>z H' (Same.frm s))⟩;obtain⟨ds',eg,k⟩:=Res.zG (Res.zS k);refine hp _ H' l ys vs xd ad ds' _ (s _ _ e3) (e5.same s) r' eg fun xs' rx=>?_;refine k _ _ Ob ((R.same s).write (wS ho) ed qv (s _ _ e3) e4 rx) (fun b o e n=>?_) fun b z=>.inl z;rw[zJ (fun z=>n (by subst z;exact e4))];exact s b o e
end
def RG(C:Ct)(tg:Expr)(g:D->Ev->Option Ev):Prop:=∃t,PG C.X tg t/\∀(Oc:Wd)(Ob:C2)(σ:St)(H:Hp)(ρ ρ':Ev)(v:V)(d:D)(Q:St->Hp->Prop),Rel Oc Ob C.om C.ln σ H ρ->Rep H (Uni Oc Ob) v d->g d ρ=some ρ'->(∀σ',Rel Oc Ob C.om C.ln σ' H ρ'->Q σ' H)->t v σ H Q
def gN(i:Nat):D->Ev->Option Ev:=fun d ρ=>some (ρ.set i (some d))
section
variable {C:Ct}{fr:Bool}{e c:Expr}{es:C7}{pos:Pos}{md:Md}{me:B5}{mt:B7}{st:Stmt}{body sts rest:List Stmt}{m n:B6}{mi:Ev->Res (D0)}{g:D->Ev->Option Ev}
theorem yC(i:Nat){x:Str}(nd:C.X.N.Nodup)(hi:autoParam (C.X.N[i]?=some x) Ey)(ho:autoParam (C.om.contains i=false) Ey)(hl:autoParam (C.ln.contains i=false) Ey)(hx:autoParam (Loc C.X.env.scope x) zY6._auto_1)(hf:autoParam (C.X.fn x=true\/C.X.env.scope.names.lookup x=some .local) autoK12._auto_1):RG C (.Name x pos) (gN i):=by refine⟨_,fU nd hi hx hf,fun Oc Ob σ H ρ ρ' v d Q R r e k=>?_⟩;cases e;exact k _ (R.set (xF ho) (xF hl) r)
def RGs(C:Ct)(ts:C7)(g:List D->Ev->Option Ev):Prop:=∃t,PGs C.X ts t/\∀(Oc:Wd)(Ob:C2)(σ:St)(H:Hp)(ρ ρ':Ev)(vs:C8)(ds:D0)(Q:St->Hp->Prop),Rel Oc Ob C.om C.ln σ H ρ->Reps H (Uni Oc Ob) vs ds->g ds ρ=some ρ'->(∀σ',Rel Oc Ob C.om C.ln σ' H ρ'->Q σ' H)->t vs σ H Q
def gsN:List D->Ev->Option Ev
 |[],ρ=>some ρ
 |_,_=>none
def gsC(g:D->Ev->Option Ev)(h:List D->Ev->Option Ev):List D->Ev->Option Ev
 |d::ds,ρ=>(g d ρ).bind fun ρ1=>h ds ρ1
 |[],_=>none
theorem wS1:RGs C [] gsN:=by
 refine⟨_,yC9,fun Oc Ob σ H ρ ρ' vs ds Q R r e k=>?_⟩;cases r with
 |nil=>cases e;exact⟨rfl,k σ R⟩
 |cons=>cases e
theorem yH8{h:List D->Ev->Option Ev}(h1:RG C e g)(h2:RGs C es h)(hs:autoParam ((assignEach (e::es) C.X.env).map (·.2)=assign e C.X.env::(assignEach es C.X.env).map (·.2)) Ey):RGs C (e::es) (gsC g h):=by
 obtain⟨t,p,q⟩:=h1;obtain⟨t',p',q'⟩:=h2;refine⟨_,zL9 p p' hs,fun Oc Ob σ H ρ ρ' vs ds Q R r e k=>?_⟩;cases r with
 |nil=>cases e
 |cons r rs=>obtain⟨ρ1,e1,e2⟩:=AI.mp e;exact⟨_,_,rfl,q Oc Ob σ H ρ ρ1 _ _ _ R r e1 fun σ' R'=>q' Oc Ob σ' H ρ1 ρ' _ _ Q R' rs e2 k⟩
def gT(n:Nat)(h:List D->Ev->Option Ev):D->Ev->Option Ev
 |.tuple ds,ρ=>if ds.length=n then h ds ρ else none
 |_,_=>none
theorem wE7{k n:Nat}{h:List D->Ev->Option Ev}(hc:C.X.calm=true)(hg:RGs C es h)(hn:autoParam ((assignEach es C.X.env).length=n) Ey)(hst:autoParam ((assignEach es C.X.env).findIdx? (·.1)=none) Ey):RG C (.Tuple es k pos) (gT n h):=by
 obtain⟨t,p,q⟩:=hg;refine⟨_,xF5 hc p hn hst,fun Oc Ob σ H ρ ρ' v d Q R r e k=>?_⟩;cases r with
 |tup rd no rs=>unfold gT at e;simp only at e;split at e;rename_i hl;exact⟨_,_,rfl,.inl rd,by rw[rs.length];exact hl,q Oc Ob σ H ρ ρ' _ _ Q R rs e k⟩;cases e
 |_=>cases e
def forM(g:D->Ev->Option Ev)(b:B6):List D->B6
 |[],ρ=>.ok (.nx ρ)
 |x::xs,ρ=>(Res.lft (g x ρ)).bind fun ρ1=>(b ρ1).bind fun o=>match o with
  |.nx ρ2=>forM g b xs ρ2
  |.rt d=>.ok (.rt d)
def sF(mi:Ev->Res (D0))(g:D->Ev->Option Ev)(b:B6):B6:=fun ρ=>(mi ρ).bind fun ds=>forM g b ds ρ
theorem xG{iter:Expr}(hi:RI C tg iter mi)(hg:RG C tg g)(hb:RSs C fr body m)(hp:autoParam (PassesOwn (model C.X.prog C.X.w) C.X.A C.X.env C.X.xe) autoK13._auto_1)(hc:autoParam (C.X.calm=true) Ey)(hs:autoParam (∀x,foldedSetIterable iter C.X.env x=pure x) Ew):RS C fr (.For tg iter body [] pos) (sF mi g m):=by
 obtain⟨wi,pi,qi⟩:=hi;obtain⟨tg',pg,qg⟩:=hg;obtain⟨tb,pb,qb⟩:=hb;refine⟨_,zS5 hp hc pi pg pb hs,fun Oc Ob σ H ρ E R h=>qi Oc Ob σ H ρ _ R (Res.zP (Res.zS h) (fun ds _ k J H1 s1 wk=>?_) fun c z H' s=>z H' (Same.frm s))⟩;refine⟨fun i mm σ' H'=>mm=ds.length-i/\i<=ds.length/\∃ρi Obi,Rel Oc Obi C.om C.ln σ' H' ρi/\Frm Ob H1 H'/\(∀b,Obi b->Ob b\/H1 b=none)/\SPost C fr Oc Obi H' E (forM g m (ds.drop i) ρi),⟨_,rfl,Cb _,ρ,Ob,R.same s1,Same.frm (Same.refl _),fun b z=>.inl z,SPost.same s1 k⟩,?_⟩;rintro i mm σ2 H2 ⟨rfl,hi,ρi,Obi,R2,f2,sb2,k2⟩;obtain⟨w1,w2⟩:=wk H2 Obi f2 sb2 i;by_cases hlt:i<ds.length;obtain⟨go,yl⟩:=w1 ds[i] (Ag hlt);have ed:ds.drop i=ds[i]::ds.drop (i+1):=Dw hlt;rw[ed,forM]at k2;obtain⟨ρ1,e1,k2⟩:=Res.zG (Res.zS k2);refine .inr ⟨go,fun σ' H'=>∃m',m'<ds.length-i/\(m'=ds.length-(i+1)/\i+1<=ds.length/\∃ρi Obi,Rel Oc Obi C.om C.ln σ' H' ρi/\Frm Ob H1 H'/\(∀b,Obi b->Ob b\/H1 b=none)/\SPost C fr Oc Obi H' E (forM g m (ds.drop (i+1)) ρi)),fun _ _ z=>z,fun x H3 hy=>?_⟩;obtain⟨s3,rx⟩:=yl x H3 hy;refine qg Oc Obi σ2 H3 ρi ρ1 x _ _ (R2.same s3) rx e1 fun σ3 R3=>?_;have k3:=SPost.same s3 (show SPost C fr Oc Obi H2 E _ from k2);refine qb Oc Obi σ3 H3 ρ1 _ R3 (Res.zP (Res.zS k3) (fun o _ k4=>?_) fun _ z=>z);cases o with
 |rt d=>exact k4
 |nx ρ2=>intro σ4 H4 Ob4 R4 f4 sb4;have f3:Frm Ob H1 H3:=fun b o e n=>s3 b o (f2 b o e n);refine⟨_,by rfl',rfl,hlt,ρ2,Ob4,R4,f3.trans sb2 f4,fun b z=>(sb4 b z).elim (sb2 b) fun z=>f3.none z,SPost.step f4 sb4 k4⟩
 have ei:i=ds.length:=by rfl'
 subst ei;rw[CU]at k2;exact .inl ⟨w2 (Ac _),k2 σ2 H2 Obi R2 (Same.frm (Same.refl _)) fun b z=>.inl z⟩
def whM(t:B7)(b:B6):Nat->B6
 |0,_=>.no
 |k+1,ρ=>(t ρ).bind fun c=>if c then(b ρ).bind fun o=>match o with
  |.nx ρ'=>whM t b k ρ'
  |.rt d=>.ok (.rt d)else .ok (.nx ρ)
def sW(fuel:Nat)(t:B7)(b:B6):B6:=fun ρ=>whM t b fuel ρ
theorem cH(fuel:Nat)(hc:RT C c mt)(hb:RSs C fr body m)(hp:autoParam (PassesOwn (model C.X.prog C.X.w) C.X.A C.X.env C.X.xe) autoK13._auto_1):RS C fr (.While c body [] pos) (sW fuel mt m):=by
 obtain⟨t,p,q⟩:=hc;obtain⟨tb,pb,qb⟩:=hb;refine⟨_,yN5 hp p pb,fun Oc Ob σ H ρ E R h=>?_⟩;refine⟨fun mm σ' H'=>∃ρi Obi,Rel Oc Obi C.om C.ln σ' H' ρi/\Frm Ob H H'/\(∀b,Obi b->Ob b\/H b=none)/\SPost C fr Oc Obi H' E (whM mt m mm ρi),⟨fuel,ρ,Ob,R,Same.frm (Same.refl _),fun b z=>.inl z,h⟩,?_⟩;rintro mm σ2 H2 ⟨ρi,Obi,R2,f2,sb2,k2⟩;cases mm with
 |zero=>exact k2.elim
 |succ mm=>
  rw[whM]at k2;refine q Oc Obi σ2 H2 ρi _ R2 (Res.zP (Res.zS k2) (fun b _ k3 H3 s3=>?_) fun c z H' s=>z H' (Same.frm s));cases b with
  |false=>exact iteF (k3 σ2 H3 Obi (R2.same s3) (Same.frm s3) fun b z=>.inl z)
  |true=>
   refine iteT ⟨fun σ' H'=>∃m',m'<mm+1/\∃ρi Obi,Rel Oc Obi C.om C.ln σ' H' ρi/\Frm Ob H H'/\(∀b,Obi b->Ob b\/H b=none)/\SPost C fr Oc Obi H' E (whM mt m m' ρi),fun _ _ z=>z,?_⟩;have k3:=SPost.same s3 (show SPost C fr Oc Obi H2 E _ from k3);refine qb Oc Obi σ2 H3 ρi _ (R2.same s3) (Res.zP (Res.zS k3) (fun o _ k4=>?_) fun _ z=>z);cases o with
   |rt d=>exact k4
   |nx ρ2=>intro σ4 H4 Ob4 R4 f4 sb4;have f3:Frm Ob H H3:=fun b o e n=>s3 b o (f2 b o e n);exact⟨mm,DU _,ρ2,Ob4,R4,f3.trans sb2 f4,fun b z=>(sb4 b z).elim (sb2 b) fun z=>f3.none z,SPost.step f4 sb4 k4⟩
def setD(ds:D0)(i v:D):Option (D0):=match i with
 |.int k=>(ixN ds.length k).map fun j=>ds.set j v
 |_=>none
def sI(i:Nat)(mk me:B5):B6:=fun ρ=>(me ρ).bind fun v=>(eV i ρ).bind fun d=>(Res.lft (lstD d)).bind fun xd=>(mk ρ).bind fun k=>(Res.lft (setD xd k v)).bind fun ds=>.ok (.nx (ρ.set i (some (.list ds))))
theorem yX2(i:Nat){x:Str}{k:Expr}{mk:B5}(he:RE C .cl e me)(hk:RE C md k mk)(hN:autoParam (C.X.N[i]?=some x) Ey)(ho:autoParam (C.om.contains i=true) Ey)(hv:autoParam (Vis C.X.env.scope x) Eu)(hd:autoParam ((x==("__debug__":Str))=false) Ex)(hcd:autoParam ((x==("__classdict__":Str))=false) Ex)(ha:∀v,assign (.Subscript (.Name x p') k p2) C.X.env v=(do
   let ov<-holding [v] (eval (.Name x p') C.X.env)
   let iv<-holding [v,ov] (eval k C.X.env)
   standAt p2
   holding [v,ov,iv] (setItem ov iv v)
   release [v,ov,iv] []):=by intro _;rfl)
  (hs:autoParam (swapsWithSole [.Subscript (.Name x p') k p2] e pos.line C.X.env=pure false) Ey) (hw:autoParam (swappedStores [.Subscript (.Name x p') k p2] e C.X.env=pure none) Ey)
  (h1:autoParam ((assignEach [.Subscript (.Name x p') k p2] C.X.env).map (·.2)=[assign (.Subscript (.Name x p') k p2) C.X.env]) Ey):RS C fr (.Assign [.Subscript (.Name x p') k p2] e pos) (sI i mk me):=by
 obtain⟨t,p,q⟩:=he;obtain⟨t',p',q'⟩:=hk;refine⟨_,wA5 p (wG4 (qI hN hv hd hcd) p' yL9 ha) hs hw h1,fun Oc Ob σ H ρ E R h=>q Oc Ob σ H ρ _ R (Res.zP (Res.zS h) (fun dv _ k v H' s r=>?_) fun c z H' s=>z H' (Same.frm s))⟩;obtain⟨d,ed,k⟩:=uR (Res.zS k);obtain⟨xd,ex,k⟩:=Res.zG (Res.zS k);obtain rfl:=uJ ex;obtain⟨w',qv,l,ys,ds,rfl,e2,e3,e4,e5⟩:=(R.same s).own i _ ed (wS ho);cases e2;refine⟨_,qv,q' Oc Ob σ H' ρ _ (R.same s) (Res.zP (Res.zS k) (fun dk _ k kv H2 s2 rk=>?_) fun c z H2 s2=>z H2 (Same.frm (s.trans s2)))⟩;obtain⟨ds',eg,k⟩:=Res.zG (Res.zS k);unfold setD at eg;split at eg;obtain⟨j,ej,rfl⟩:=Az.mp eg;obtain rfl:=(rk.va (R.same s).oh).int;have hl:=e5.length;refine⟨l,ys,_,j,rfl,rfl,s2 _ _ e3,by rw[hl];exact ej,?_⟩;refine k _ _ Ob ((R.same (s.trans s2)).write (wS ho) ed qv (s2 _ _ e3) e4 (Reps.set (Rep.same r s2) j (e5.same s2))) (fun b o e n=>?_) fun b z=>.inl z;rw[zJ (fun z=>n (by subst z;exact e4))];exact s2 b o (s b o e);cases eg
end
end L2.L3
namespace L2
open PySem PySem.Spec PyProof.Rows
structure Has(K:KFr)(mg:B9)(x:Str)(st:Stmt)(f:Addr)(fd:FuncData)(ps:C4):Prop where
 F:Fun K x x st f fd
 b:Binds K fd ps []
 m:mg x=some (.ref f)
theorem zQ3{K:KFr}{mg:B9}{x:Str}{st:Stmt}{f:Addr}{an:Option Addr}{osl:Array (Option Value)}{kV ct:Value}(X:K.In h)(G:h.Ns mainGlobals mg)(a:PySem.W.nsIn K mainGlobals x=some (some (.ref f)))(l:K.lookup f=some ⟨oc,od,.func (PySem.W.fnOf x x (defArgs st) (defBody st) (zH st) .none kV doc pm an cdv ct),osl⟩)(c:PySem.W.codeIn K cdv x=true)(k:PySem.W.keepIn K (.ref f)=true)(hb:∀(kV doc pm:Value)(an:Option Addr)(cdv ct:Value)(us:C3),us.length=ps.length->bindArgs (PySem.W.fnOf x x (defArgs st) (defBody st) (zH st) .none kV doc pm an cdv ct) ⟨us,[]⟩=pure (ps.zip us)):Has K mg x st f (PySem.W.fnOf x x (defArgs st) (defBody st) (zH st) .none kV doc pm an cdv ct) ps:=
 have F:=xN1 (st:=st) l c k
 ⟨F,F.binds hb,PySem.W.mg_of X G a⟩
end L2
namespace L2.L3
open PySem PySem.Spec PyProof.Rows
variable [CN]
def CallOk:Bool->(C2)->Hp->Hp->V->D->Prop
 |true,O,H,H',v,d=>∃a ys ds,v=.ref a/\d=.list ds/\H a=none/\H' a=some (.lst ys)/\Reps H' (fun b=>O b\/b=a) ys ds
 |false,O,_,H',v,d=>Rep H' O v d
def fin(fr:Bool):Out->Res D
 |.rt d=>.ok d
 |.nx _=>if fr then .no else .ok .none
def runF(fr:Bool)(p n:Nat)(m:B6):B8:=fun ds=>if ds.length=p then(m (ds.map some++List.replicate (n-p) none)).bind (fin fr)else .no
theorem zS8{α:Type}{ds:List α}{k i:Nat}{d:α}(h:(ds.map some++List.replicate k none)[i]?=some (some d)):ds[i]?=some d:=by
 by_cases hi:i<ds.length;rw[Ch (by simpa using hi),Al]at h;cases e:ds[i]? with
 |none=>rw[e]at h;cases h
 |some z=>rw[e]at h;cases h;rfl
 rw[Cu (by simpa using hi),CS]at h;split at h<;>cases h
theorem wY1{α:Type}{ds:List α}{k i:Nat}{d:α}(h:ds[i]?=some d):(ds.map some++List.replicate k none)[i]?=some (some d):=by have hi:=(AD.mp h).1;rw[Ch (by simpa using hi),Al,h];rfl
section
variable {P:Program}{w:World}{K:KFr}{mg:B9}{base:Heap}
end
def mdF(fr:Bool):Md:=if fr then .new else .cl
def eF(F:B8)(m:Ev->Res (D0)):B5:=fun ρ=>(m ρ).bind F
section
variable {C:Ct}{k:Nat}{f:Addr}{fd:FuncData}{ps:C4}{fr:Bool}{F:B8}{x:Str}{p pos:Pos}{e:Expr}{es:C7}{ms:Ev->Res (D0)}{st:Stmt}
end
mutual
def lf:D->Bool
 |.list _=>false
 |.dict _=>false
 |.tuple ds=>lfs ds
 |_=>true
def lfs:List D->Bool
 |[]=>true
 |d::ds=>lf d&&lfs ds
end
mutual
theorem Rep.lf{H:Hp}{U:C2}{B:C2}(hB:∀b,B b->∃ys,H b=some (.lst ys)):∀{v:V}{d:D},Rep H (fun b=>U b/\¬B b) v d->L3.lf d=true->Rep H U v d
 |_,_,.non,_=>.non
 |_,_,.bl b,_=>.bl b
 |_,_,.int i,_=>.int i
 |_,_,.str x,_=>.str x
 |_,_,.lst r n t,h=>by simp[L3.lf]at h
 |_,_,.exc r w n,h=>by simp[L3.lf]at h
 |_,_,.dic r n,h=>by simp[L3.lf]at h
 |_,_,@Rep.tup _ _ _ a _ _ r n t,h=>.tup r (fun z=>by by_cases hb:B a;obtain⟨ys,e⟩:=hB _ hb;rcases r with r|⟨o,r⟩<;>(rw[r]at e;cases e);exact n ⟨z,hb⟩) (Reps.lf hB t (by simpa[L3.lf]using h))
theorem Reps.lf{H:Hp}{U:C2}{B:C2}(hB:∀b,B b->∃ys,H b=some (.lst ys)):∀{vs:C8}{ds:D0},Reps H (fun b=>U b/\¬B b) vs ds->lfs ds=true->Reps H U vs ds
 |_,_,.nil,_=>.nil
 |_,_,.cons r t,h=>by rw[lfs,AL]at h;exact .cons (Rep.lf hB r h.1) (Reps.lf hB t h.2)
end
def lfT:Bool->D->Bool
 |true,.list ds=>lfs ds
 |_,d=>lf d
def eFA(fr:Bool)(F:B8)(m:Ev->Res (D0)):B5:=fun ρ=>(m ρ).bind fun ds=>(F ds).bind fun d=>if lfT fr d then .ok d else .no
theorem VAs.lent{Oc:Wd}{Ob:C2}{H:Hp}:∀{vs:C8}{ds:D0},VAs Oc Ob H vs ds->Reps H (fun b=>Uni Oc Ob b/\¬∃ys,H b=some (.lst ys)) vs ds
 |_,_,.nil=>.nil
 |_,_,.cons h t=>.cons (by
   rcases h with h|⟨a,ys,ds,rfl,rfl,e3,e5⟩;exact h.less fun b z=>z.1
   exact .lst (.inl e3) (fun z=>z.2 ⟨ys,e3⟩) (e5.less fun b z=>z.1)) (VAs.lent t)
def i2(f:Int->Int->Option Int):D->D->Option D
 |.int i,.int j=>(f i j).map PyData.int
 |_,_=>none
theorem xZ2{f:Int->Int->Option Int}{x y d:D}(h:i2 f x y=some d):∃i j k,x=.int i/\y=.int j/\f i j=some k/\d=.int k:=by
 cases x with
 |int i=>
  cases y with
  |int j=>obtain⟨k,e,rfl⟩:=Az.mp (show(f i j).map PyData.int=some d from h);exact⟨i,j,k,rfl,rfl,e,rfl⟩
  |_=>cases h
 |_=>cases h
theorem wY2{C:Int->Int->Prop}{g:Int->Int->Int}{f:Int->Int->Option Int}(hf:∀i j k,f i j=some k->C i j/\k=g i j):Pr2 (rI C fun i j=>.int (g i j)) .cl (i2 f):=by intro Oc Ob H x y dx dy d Q oh vx vy e k;obtain⟨i,j,n,rfl,rfl,ef,rfl⟩:=xZ2 e;obtain⟨hc,rfl⟩:=hf i j n ef;exact⟨i,j,vx.int,vy.int,hc,k _ H (Same.refl H) (Rep.int _)⟩
theorem wU2{g:Int->Int->Int}:Pr2 (rI0 fun i j=>.int (g i j)) .cl (i2 fun i j=>some (g i j)):=by intro Oc Ob H x y dx dy d Q oh vx vy e k;obtain⟨i,j,n,rfl,rfl,ef,rfl⟩:=xZ2 e;cases ef;exact⟨i,j,vx.int,vy.int,k _ H (Same.refl H) (Rep.int _)⟩
abbrev addI:D->D->Option D:=i2 fun i j=>some (i+j)
abbrev subI:D->D->Option D:=i2 fun i j=>some (i-j)
def MulOk(i j:Int):Prop:=CMul i j\/(Small i/\Small j)
open Classical in
def mulO(i j:Int):Option Int:=if MulOk i j then some (i*j)else none
abbrev mulI:D->D->Option D:=i2 mulO
def DivOk(j:Int):Prop:=0<j/\j.natAbs.log2<9000
instance(j:Int):Decidable (DivOk j):=by unfold DivOk;infer_instance
def fdivO(i j:Int):Option Int:=if DivOk j then some (i/j)else none
def modO(i j:Int):Option Int:=if 0<j then some (i%j)else none
abbrev fdivI:D->D->Option D:=i2 fdivO
abbrev modI:D->D->Option D:=i2 modO
section
variable {X:Cx}
theorem jV:OpR X (binaryOp .Mult) (rI MulOk fun i j=>.int (i*j)):=opI fun _ _ _ _ _ _ _ hc q=>mul_int q (hc.elim CMul.ok fun h=>.of_bits h.1.bits h.2.bits)
theorem zW1:OpR X (inplaceOp .Mult) (rI MulOk fun i j=>.int (i*j)):=opI fun _ _ _ _ _ _ _ hc q=>imul_int q (hc.elim CMul.ok fun h=>.of_bits h.1.bits h.2.bits)
theorem yJ:OpR X (binaryOp .FloorDiv) (rI (fun _ j=>DivOk j) fun i j=>.int (i/j)):=opI fun i j _ _ _ _ _ hc q=>by refine floordiv_int (by have:=hc.1;rfl') ?_ (.inl (Dz hc.2));rw[Int.fdiv_eq_ediv_of_nonneg _ (by have:=hc.1;rfl')];exact q
theorem xM3:OpR X (inplaceOp .FloorDiv) (rI (fun _ j=>DivOk j) fun i j=>.int (i/j)):=opI fun i j _ _ _ _ _ hc q=>by refine ifloordiv_int (by have:=hc.1;rfl') ?_ (.inl (Dz hc.2));rw[Int.fdiv_eq_ediv_of_nonneg _ (by have:=hc.1;rfl')];exact q
end
open Classical in
theorem xL1{i j k:Int}(h:mulO i j=some k):MulOk i j/\k=i*j:=by unfold mulO at h;split at h;cases h;exact⟨by assumption,rfl⟩;cases h
theorem vR{i j:Int}(h:MulOk i j):mulO i j=some (i*j):=by unfold mulO;exact Ae h
theorem xT5{i j k:Int}(h:fdivO i j=some k):DivOk j/\k=i/j:=by unfold fdivO at h;split at h;cases h;exact⟨by assumption,rfl⟩;cases h
theorem xG4{i j k:Int}(h:modO i j=some k):0<j/\k=i%j:=by unfold modO at h;split at h;cases h;exact⟨by assumption,rfl⟩;cases h
theorem DivOk.small{j:Int}(h:0<j)(h2:j<1073741824):DivOk j:=by refine⟨h,?_⟩;have h30:j.natAbs.log2<30:=(DG (by rfl')).mpr (by rfl');rfl'
theorem MulOk.left{i j:Int}(h:-(2^64)<i)(h2:i<2^64):MulOk i j:=.inl (.inl ⟨h,h2⟩)
theorem MulOk.right{i j:Int}(h:-(2^64)<j)(h2:j<2^64):MulOk i j:=.inl (.inr ⟨h,h2⟩)
theorem yD:Pr2 (rI0 fun i j=>.int (i+j)) .cl addI:=wU2
theorem vW:Pr2 (rI0 fun i j=>.int (i-j)) .cl subI:=wU2
theorem uV:Pr2 (rI MulOk fun i j=>.int (i*j)) .cl mulI:=wY2 fun _ _ _ h=>xL1 h
theorem yG:Pr2 (rI (fun _ j=>DivOk j) fun i j=>.int (i/j)) .cl fdivI:=wY2 fun _ _ _ h=>xT5 h
theorem xI:Pr2 (rI (fun _ j=>0<j) fun i j=>.int (i%j)) .cl modI:=wY2 fun _ _ _ h=>xG4 h
def c2(f:Int->Int->Bool):D->D->Option Bool
 |.int i,.int j=>some (f i j)
 |_,_=>none
theorem xR8{f:Int->Int->Bool}:PrB (rI0 fun i j=>.bl (f i j)) (c2 f):=by
 intro Oc Ob H x y dx dy b Q vx vy e k;cases dx with
 |int i=>
  cases dy with
  |int j=>cases e;exact⟨_,_,vx.int,vy.int,k⟩
  |_=>cases e
 |_=>cases e
abbrev ltI:D->D->Option Bool:=c2 fun i j=>decide (i<j)
abbrev leI:D->D->Option Bool:=c2 fun i j=>decide (i<=j)
abbrev gtI:D->D->Option Bool:=c2 fun i j=>decide (j<i)
abbrev geI:D->D->Option Bool:=c2 fun i j=>decide (j<=i)
theorem zO5:PrB (rI0 fun i j=>.bl (decide (i<j))) ltI:=xR8
theorem wH:PrB (rI0 fun i j=>.bl (decide (i<=j))) leI:=xR8
theorem fR:PrB (rI0 fun i j=>.bl (decide (j<i))) gtI:=xR8
theorem xS3:PrB (rI0 fun i j=>.bl (decide (j<=i))) geI:=xR8
def eqD(x y:D):Option Bool:=if SeqAt.shaped x=true/\SeqAt.shaped y=true then some (PyData.eqv x y)else none
def neD(x y:D):Option Bool:=if SeqAt.shaped x=true/\SeqAt.shaped y=true then some (!PyData.eqv x y)else none
theorem yN{K:KFr}:PrB (rEqD K false) eqD:=by intro Oc Ob H x y dx dy b Q vx vy e k;unfold eqD at e;split at e;rename_i h;cases e;exact⟨dx,dy,vx.datS h.1,vy.datS h.2,h.1,h.2,k⟩;cases e
theorem fO{K:KFr}:PrB (rEqD K true) neD:=by intro Oc Ob H x y dx dy b Q vx vy e k;unfold neD at e;split at e;rename_i h;cases e;exact⟨dx,dy,vx.datS h.1,vy.datS h.2,h.1,h.2,k⟩;cases e
def flD:D->Bool
 |.none=>true
 |.bool _=>true
 |.int _=>true
 |.str _=>true
 |_=>false
def eqF:D->D->Bool
 |.none,.none=>true
 |.bool a,.bool b=>a==b
 |.bool a,.int b=>(if a then 1 else 0)==b
 |.int a,.bool b=>a==(if b then 1 else 0)
 |.int a,.int b=>a==b
 |.str a,.str b=>a==b
 |_,_=>false
theorem zK4{v:V}{d:D}(h:Rep H O v d)(f:flD d=true):flatV v=true:=by cases h<;>first|rfl|cases f
theorem wM3{O':C2}{v v':V}{d d':D}(h:Rep H O v d)(h':Rep H O' v' d')(f:flD d=true)(f':flD d'=true):eqV v v'=eqF d d':=by cases h<;>cases h'<;>first|rfl|cases f|cases f'
theorem zS2{H:Hp}{O:C2}:∀{vs:C8}{ds:D0},Reps H O vs ds->ds.all flD=true->vs.all flatV=true
 |_,_,.nil,_=>rfl
 |_,_,.cons h t,f=>by rw[DZ,AL]at f ⊢;exact⟨zK4 h f.1,zS2 t f.2⟩
theorem zL8{H:Hp}{O O':C2}{x:V}{dx:D}(hx:Rep H O' x dx)(fx:flD dx=true):∀{vs:C8}{ds:D0},Reps H O vs ds->ds.all flD=true->inV x vs=ds.any fun y=>eqF y dx
 |_,_,.nil,_=>rfl
 |_,_,.cons h t,f=>by rw[DZ,AL]at f;have ih:=zL8 hx fx t f.2;unfold inV at ih ⊢;rw[CM,CM,ih,wM3 h hx f.1 fx]
def inD(neg:Bool)(x y:D):Option Bool:=(seqD y).bind fun ds=>if flD x=true/\ds.all flD=true then some (if neg then !ds.any (fun z=>eqF z x)else ds.any fun z=>eqF z x)else none
theorem wS5{x:V}{d:D}(h:VA Oc Ob H x d)(f:flD d=true):Rep H (Uni Oc Ob) x d:=by rcases h with h|⟨a,ys,ds,rfl,rfl,e3,e5⟩;exact h;cases f
theorem xU3{K:KFr}{neg:Bool}:PrB (rIn K neg) (inD neg):=by
 intro Oc Ob H x y dx dy b Q vx vy e k;unfold inD at e;obtain⟨ds,e1,e⟩:=AI.mp e;split at e;rename_i h;cases e;have rx:=wS5 vx h.1;cases dy with
 |list ds'=>cases e1;obtain⟨a,ys,rfl,rd,rs⟩:=vy.list;refine⟨a,ys,rfl,.inl (.inl rd),zK4 rx h.1,zS2 rs h.2,?_⟩;rw[zL8 rx h.1 rs h.2];exact k
 |tuple ds'=>cases e1;obtain⟨a,ys,rfl,rd,rs⟩:=vy.tuple;refine⟨a,ys,rfl,.inr (.inl rd),zK4 rx h.1,zS2 rs h.2,?_⟩;rw[zL8 rx h.1 rs h.2];exact k
 |_=>cases e1
 cases e
def ixD:D->D->Option D
 |.list ds,.int i=>atI ds i
 |.tuple ds,.int i=>atI ds i
 |_,_=>none
theorem zJ8{i:Int}{d:D}(r:Reps H O vs ds)(h:atI ds i=some d):∃v,atI vs i=some v/\Rep H O v d:=by unfold atI at h ⊢;obtain⟨j,e1,e2⟩:=AI.mp h;obtain⟨v,ev,rv⟩:=r.get e2;refine⟨v,?_,rv⟩;rw[r.length,e1];exact ev
theorem yY{K:KFr}:Pr2 (rIx K) .cl ixD:=by
 intro Oc Ob H x y dx dy d Q oh vx vy e k;cases dx with
 |list ds=>
  cases dy with
  |int i=>obtain⟨a,ys,rfl,rd,rs⟩:=vx.list;obtain⟨v,ev,rv⟩:=zJ8 rs e;exact .inl ⟨a,ys,i,v,rfl,vy.int,.inl rd,ev,k v H (Same.refl H) rv⟩
  |_=>cases e
 |tuple ds=>
  cases dy with
  |int i=>obtain⟨a,ys,rfl,rd,rs⟩:=vx.tuple;obtain⟨v,ev,rv⟩:=zJ8 rs e;exact .inr (.inl ⟨a,ys,i,v,rfl,vy.int,.inl rd,ev,k v H (Same.refl H) rv⟩)
  |_=>cases e
 |_=>cases e
def rCatR:R2:=fun x y H Q=>∃l b xs zs,x=.ref l/\y=.ref b/\Rd H l (.lst xs)/\Rd H b (.lst zs)/\xs.length+zs.length<=sizeLine/\∀p,H p=none->Q (.ref p) (upd H p (.lst (xs++zs)))
theorem Rd.lstM{X:Cx}{l:Addr}{xs:C8}(I:Inv X EA σ H s)(hH:Rd H l (.lst xs)):xs.length<=sizeLine/\∃(its:C3)(n:Nat),Vals xs its/\xs.length=its.length/\s.heap.get? l=some {cls:=.type "list",data:=.seq its.toArray n}:=by obtain⟨z,its,n,r,e⟩:=hH.ok I.hok;exact⟨z,its,n,r,r.length,e⟩
section
variable {X:Cx}
theorem cY:OpR X (binaryOp .Add) rCatR:=by
 intro EA s σ H x y v u Q I rx ry h;obtain⟨l,b,xs,zs,rfl,rfl,hH,hB,hz,q⟩:=h;cases rx;cases ry;obtain⟨z,its,n,r,hl,e⟩:=Rd.lstM I hH;obtain⟨z2,its2,n2,r2,hl2,e2⟩:=Rd.lstM I hB;refine PySem.P.add_list e e2 ?_ (by rw[Av,Av];rfl');have ea:its.toArray++its2.toArray=(its++its2).toArray:=by simp
 rw[ea];exact⟨.ref _,_,I.lnew (t':=s.toks) (r.append r2) (by rw[Aj];rfl'),rfl,q _ I.fresh⟩
def rRepR:R2:=fun x y H Q=>∃l k xs,x=.ref l/\y=.int k/\Rd H l (.lst xs)/\-(2^63)<=k/\k<2^63/\xs.length*k.toNat<=sizeLine /\∀p,H p=none->Q (.ref p) (upd H p (.lst (List.replicate k.toNat xs).flatten))
theorem zZ8:OpR X (binaryOp .Mult) rRepR:=by
 intro EA s σ H x y v u Q I rx ry h;obtain⟨l,k,xs,rfl,rfl,hH,h1,h2,hz,q⟩:=h;cases rx;obtain⟨t,rfl⟩:=ry;obtain⟨z,its,n,r,hl,e⟩:=Rd.lstM I hH;have hlen:its.toArray.size*k.toNat<=sizeLine:=by rw[Av,<-hl];exact hz
 have hcap:¬its.toArray.size*k.toNat>(2^63-1)/8:=by
  have:(sizeLine:Nat)<=(2^63-1)/8:=by decide
  rfl'
 have hfit:¬(!Builtin.List.listFitsIndex k)=true:=by rw[fitsIndex_both h1 h2];exact AY
 have hlong:¬Builtin.List.listTooLong (its.toArray.size*k.toNat)=true:=by rw[notLongL hlen];exact AY
 have hnew:List.foldl (fun x1 x2=>x1++x2) #[] (List.replicate (if its.toArray.isEmpty=true then 0 else k.toNat) its.toArray)=(List.replicate k.toNat its).flatten.toArray:=by
  have f0:∀m:Nat,List.foldl (fun x1 x2=>x1++x2) #[] (List.replicate m its.toArray)=(List.replicate m its).flatten.toArray:=fun m=>by have:=yT4 its m [];rw[Dh]at this;exact this
  rw[f0];cases its with
  |nil=>simp
  |cons a r'=>rw[An (by simp)]
 refine wpAny_binaryOp_repeat_ref (T:="list") (U:="int") (by decide) ⟨_,e,rfl⟩ (fun s'=>typeIs_int s' k t) noFill_list_mul F.fills_int_mul F.slot_int_rmul repeat_list F.slot_int_index.lookup (call_meets F.slot_int_rmul (typeIs_int s k t) F.entry_int_rmul (F.args_int_rmul_2 _ _) (int___rmul___int_list k t l its.toArray n) ⟨e,rfl,⟨_,e,rfl⟩,call_meets F.slot_list_mul ⟨_,e,rfl⟩ F.entry_list_mul (F.args_list_mul_2 _ _) (AutoListH.list___mul___list_int_3 l its.toArray n k t hfit hcap hlong) ⟨e,?_⟩⟩);rw[hnew];exact⟨.ref _,_,I.lnew (t':=s.toks) (r.rep k.toNat) (by rw[wS9,Du];exact hz),rfl,q _ I.fresh⟩
end
def catL:D->D->Option D
 |.list xs,.list ys=>if xs.length+ys.length<=sizeLine then some (.list (xs++ys))else none
 |_,_=>none
theorem aA:Pr2 rCatR .new catL:=by
 intro Oc Ob H x y dx dy d Q oh vx vy e k;cases dx with
 |list xs=>
  cases dy with
  |list ys=>obtain⟨a,vs,rfl,rd,rs⟩:=vx.list;obtain⟨b,ws,rfl,rd',rs'⟩:=vy.list;unfold catL at e;simp only at e;split at e;rename_i hl;cases e;refine⟨a,b,vs,ws,rfl,rfl,rd,rd',by rw[rs.length,rs'.length];exact hl,fun p hp=>k _ _ (Same.new hp) (wB (Same.refl H) hp (rs.append rs'))⟩;cases e
  |_=>cases e
 |_=>cases e
def repL:D->D->Option D
 |.list xs,.int k=>if -(2^63)<=k/\k<2^63/\xs.length*k.toNat<=sizeLine then some (.list (List.replicate k.toNat xs).flatten)else none
 |_,_=>none
theorem zT9:Pr2 rRepR .new repL:=by
 intro Oc Ob H x y dx dy d Q oh vx vy e k;cases dx with
 |list xs=>
  cases dy with
  |int j=>obtain⟨a,vs,rfl,rd,rs⟩:=vx.list;unfold repL at e;simp only at e;split at e;rename_i hl;cases e;refine⟨a,j,vs,rfl,vy.int,rd,hl.1,hl.2.1,by rw[rs.length];exact hl.2.2,fun p hp=>k _ _ (Same.new hp) (wB (Same.refl H) hp (rs.rep _))⟩;cases e
  |_=>cases e
 |_=>cases e
def lenD:List D->Option D
 |[d]=>(seqD d).map fun ds=>.int ds.length
 |_=>none
theorem yX{K:KFr}:PrC (fun xs H Q=>∃p ys,xs=[.ref p]/\(SqL K H p ys\/SqT K H p ys)/\Q (.int ys.length) H) .cl lenD:=by
 intro Oc Ob H vs ds d Q oh va e k;cases ds with
 |nil=>cases e
 |cons x xs=>
  cases xs with
  |cons=>cases e
  |nil=>
   obtain⟨v,rfl,vx⟩:=va.one;obtain⟨es,e1,rfl⟩:=Az.mp e;cases x with
   |list ds'=>cases e1;obtain⟨a,ys,rfl,rd,rs⟩:=vx.list;exact⟨a,ys,rfl,.inl (.inl rd),k _ H (Same.refl H) (by rw[rs.length];exact Rep.int _)⟩
   |tuple ds'=>cases e1;obtain⟨a,ys,rfl,rd,rs⟩:=vx.tuple;exact⟨a,ys,rfl,.inr (.inl rd),k _ H (Same.refl H) (by rw[rs.length];exact Rep.int _)⟩
   |_=>cases e1
def listD:List D->Option D
 |[d]=>(seqD d).map fun ds=>.list ds
 |_=>none
theorem wM1{K:KFr}:PrC (fun xs H Q=>∃p ys,xs=[.ref p]/\(SqL K H p ys\/SqT K H p ys)/\∀l,H l=none->Q (.ref l) (upd H l (.lst ys))) .new listD:=by
 intro Oc Ob H vs ds d Q oh va e k;cases ds with
 |nil=>cases e
 |cons x xs=>
  cases xs with
  |cons=>cases e
  |nil=>
   obtain⟨v,rfl,vx⟩:=va.one;obtain⟨es,e1,rfl⟩:=Az.mp e;cases x with
   |list ds'=>cases e1;obtain⟨a,ys,rfl,rd,rs⟩:=vx.list;exact⟨a,ys,rfl,.inl (.inl rd),fun l hl=>k _ _ (Same.new hl) (wB (Same.refl H) hl rs)⟩
   |tuple ds'=>cases e1;obtain⟨a,ys,rfl,rd,rs⟩:=vx.tuple;exact⟨a,ys,rfl,.inr (.inl rd),fun l hl=>k _ _ (Same.new hl) (wB (Same.refl H) hl rs)⟩
   |_=>cases e1
def tupD:List D->Option D
 |[d]=>(seqD d).map fun ds=>.tuple ds
 |_=>none
theorem bR{K:KFr}:PrC (fun xs H Q=>∃p ys,xs=[.ref p]/\((SqL K H p ys/\∀l,H l=none->Q (.ref l) (upd H l (.tup ys)))\/(SqT K H p ys/\Q (.ref p) H))) .cl tupD:=by
 intro Oc Ob H vs ds d Q oh va e k;cases ds with
 |nil=>cases e
 |cons x xs=>
  cases xs with
  |cons=>cases e
  |nil=>
   obtain⟨v,rfl,vx⟩:=va.one;obtain⟨es,e1,rfl⟩:=Az.mp e;cases x with
   |list ds'=>cases e1;obtain⟨a,ys,rfl,rd,rs⟩:=vx.list;exact⟨a,ys,rfl,.inl ⟨.inl rd,fun l hl=>k _ _ (Same.new hl) (cZ oh hl rs)⟩⟩
   |tuple ds'=>
    cases e1;rcases vx with vx|⟨a,ys,ds,rfl,ez,_⟩;cases vx with
    |tup rd n rs=>exact⟨_,_,rfl,.inr ⟨.inl rd,k _ H (Same.refl H) (.tup rd n rs)⟩⟩
    cases ez
   |_=>cases e1
def intsOf:List D->Option (C6)
 |[]=>some []
 |.int i::ds=>(intsOf ds).map (i:: ·)
 |_::_=>none
@[simp]theorem intsOf_map:∀ns:C6,intsOf (ns.map PyData.int)=some ns
 |[]=>rfl
 |n::ns=>by rw[AB,intsOf,intsOf_map ns];rfl
theorem fJ:∀{ds:D0}{ns:C6},intsOf ds=some ns->ds=ns.map PyData.int
 |[],ns,h=>by cases h;rfl
 |d::ds,ns,h=>by
  cases d with
  |int i=>obtain⟨ms,e,rfl⟩:=Az.mp (show(intsOf ds).map (i:: ·)=some ns from h);rw[fJ e];rfl
  |_=>cases h
def boolsOf:List D->Option (List Bool)
 |[]=>some []
 |.bool i::ds=>(boolsOf ds).map (i:: ·)
 |_::_=>none
@[simp]theorem boolsOf_map:∀ns:List Bool,boolsOf (ns.map PyData.bool)=some ns
 |[]=>rfl
 |n::ns=>by rw[AB,boolsOf,boolsOf_map ns];rfl
theorem zR9:∀{ds:D0}{ns:List Bool},boolsOf ds=some ns->ds=ns.map PyData.bool
 |[],ns,h=>by cases h;rfl
 |d::ds,ns,h=>by
  cases d with
  |bool i=>obtain⟨ms,e,rfl⟩:=Az.mp (show(boolsOf ds).map (i:: ·)=some ns from h);rw[zR9 e];rfl
  |_=>cases h
def nsD(d:D):Option (C6):=(seqD d).bind intsOf
theorem yF6{K:KFr}{x:V}{d:D}{ns:C6}(h:VA Oc Ob H x d)(e:nsD d=some ns):∃p,x=.ref p/\(SqL K H p (ns.map V.int)\/SqT K H p (ns.map V.int)):=by
 obtain⟨ds,e1,e2⟩:=AI.mp e;obtain rfl:=fJ e2;cases d with
 |list ds'=>cases e1;obtain⟨a,ys,rfl,rd,rs⟩:=h.list;rw[rs.ints]at rd;exact⟨a,rfl,.inl (.inl rd)⟩
 |tuple ds'=>cases e1;obtain⟨a,ys,rfl,rd,rs⟩:=h.tuple;rw[rs.ints]at rd;exact⟨a,rfl,.inr (.inl rd)⟩
 |_=>cases e1
def sumD:List D->Option D
 |[.list ds]=>(intsOf ds).map fun ns=>.int ns.sum
 |_=>none
theorem xP8{K:KFr}:PrC (fun xs H Q=>∃(p:Addr)(ns:C6),xs=[.ref p]/\SqL K H p (ns.map V.int)/\Q (.int ns.sum) H) .cl sumD:=by intro Oc Ob H vs ds d Q oh va e k;unfold sumD at e;split at e;obtain⟨ns,e1,rfl⟩:=Az.mp e;obtain⟨v,rfl,vx⟩:=va.one;obtain⟨a,ys,rfl,rd,rs⟩:=vx.list;rw[fJ e1]at rs;rw[rs.ints]at rd;exact⟨a,ns,rfl,.inl rd,k _ H (Same.refl H) (Rep.int _)⟩;cases e
def sortI(ns:C6):C6:=ns.mergeSort (fun a b=>decide (a<=b))
theorem jN(ns:C6):(sortI ns).Perm ns:=List.mergeSort_perm _ _
theorem cB(ns:C6):(sortI ns).Pairwise (· <= ·):=by have:=List.pairwise_mergeSort (le:=fun a b:Int=>decide (a<=b)) (fun a b c h1 h2=>by simp at *;rfl') (fun a b=>by simp;rfl') ns;exact this.imp fun h=>by simpa using h
theorem xP7{as bs:C6}(p:as.Perm bs)(ha:as.Pairwise (· <= ·))(hb:bs.Pairwise (· <= ·)):as=bs:=by
 induction as generalizing bs with
 |nil=>exact(List.nil_perm.mp p).symm
 |cons a as ih=>
  cases bs with
  |nil=>exact absurd p.symm (by intro h;have:=h.length_eq;simp at this)
  |cons b bs=>have h1:a<=b:=(by have:b∈a::as:=p.symm.subset Af;rcases AF.mp this with z|z;rfl';exact(Cm.mp ha).1 b z);have h2:b<=a:=(by have:a∈b::bs:=p.subset Af;rcases AF.mp this with z|z;rfl';exact(Cm.mp hb).1 a z);have e:a=b:=(by rfl');subst e;rw[ih (List.Perm.cons_inv p) (Cm.mp ha).2 (Cm.mp hb).2]
def sortD:List D->Option D
 |[d]=>(nsD d).bind fun ns=>if ns.length<64 then some (.list ((sortI ns).map PyData.int))else none
 |_=>none
theorem zA7{K:KFr}:PrC (fun xs H Q=>∃(p:Addr)(ns:C6),xs=[.ref p]/\(SqL K H p (ns.map V.int)\/SqT K H p (ns.map V.int))/\ns.length<64 /\∀(l:Addr)(ms:C6),H l=none->ms.Perm ns->ms.Pairwise (· <= ·)->Q (.ref l) (upd H l (.lst (ms.map V.int)))) .new sortD:=by intro Oc Ob H vs ds d Q oh va e k;unfold sortD at e;split at e;obtain⟨ns,e1,e⟩:=AI.mp e;split at e;rename_i hl;cases e;obtain⟨v,rfl,vx⟩:=va.one;obtain⟨p,rfl,hq⟩:=yF6 vx e1;refine⟨p,ns,rfl,hq,hl,fun l ms hp h1 h2=>?_⟩;have:ms=sortI ns:=xP7 (h1.trans (jN ns).symm) h2 (cB ns);subst this;exact k _ _ (Same.new hp) (wB (Same.refl H) hp (aX _));cases e;cases e
def allD:List D->Option D
 |[.list ds]=>(boolsOf ds).map fun bs=>.bool (bs.all id)
 |_=>none
theorem wD8{K:KFr}:PrC (fun xs H Q=>∃(p:Addr)(bs:List Bool),xs=[.ref p]/\SqL K H p (bs.map V.bl)/\Q (.bl (bs.all id)) H) .cl allD:=by intro Oc Ob H vs ds d Q oh va e k;unfold allD at e;split at e;obtain⟨ns,e1,rfl⟩:=Az.mp e;obtain⟨v,rfl,vx⟩:=va.one;obtain⟨a,ys,rfl,rd,rs⟩:=vx.list;rw[zR9 e1]at rs;rw[rs.bools]at rd;exact⟨a,ns,rfl,.inl rd,k _ H (Same.refl H) (Rep.bl _)⟩;cases e
def min2D:List D->Option D
 |[.int i,.int j]=>some (.int (if j<i then j else i))
 |_=>none
theorem zP6:PrC (fun xs H Q=>∃i j,xs=[.int i,.int j]/\Q (.int (if j<i then j else i)) H) .cl min2D:=by intro Oc Ob H vs ds d Q oh va e k;unfold min2D at e;split at e;cases e;obtain⟨v,v',rfl,vx,vy⟩:=va.two;obtain rfl:=vx.int;obtain rfl:=vy.int;exact⟨_,_,rfl,k _ H (Same.refl H) (Rep.int _)⟩;cases e
def subTy(t T:String):Bool:=t==T ||(t=="bool"&&T=="int")
structure Kit(K:KFr)(T:String):Prop where
 non:PySem.W.kitOne K (.type "NoneType") (.type T)=some (subTy "NoneType" T)
 bl:PySem.W.kitOne K (.type "bool") (.type T)=some (subTy "bool" T)
 int:PySem.W.kitOne K (.type "int") (.type T)=some (subTy "int" T)
 str:PySem.W.kitOne K (.type "str") (.type T)=some (subTy "str" T)
 lst:PySem.W.kitOne K (.type "list") (.type T)=some (subTy "list" T)
 tup:PySem.W.kitOne K (.type "tuple") (.type T)=some (subTy "tuple" T)
section
variable {X:Cx}
end
theorem yS1{J:Addr}{hp:Heap}(keep:∀b o,s.heap.get? b=some o->b≠J/\hp.get? b=some o)(hk:∀b o,b ∉ [J]->hp.get? b=some o->h'.get? b=some o):∀b o,s.heap.get? b=some o->h'.get? b=some o:=fun b o e=>hk b o (by simpa using(keep b o e).1) (keep b o e).2
theorem bP(xs:Array (Int×Tok)):(intItems xs).size=xs.size:=by simp[intItems]
section
variable {prog:Program}{w:World}{A:Around}{E:A8}{s:Shared}{l:Addr}{xs:Array (Int×Tok)}{Q:A8}
theorem wO7(hh:A.handled=none)(hl:s.heap.IsTuple l (intItems xs))(ne:0<xs.size)(k:∀v h' tk,(intItems xs)[argBest (fun i j=>decide (numAt xs i<numAt xs j)) (xs.size-1)]?=some v->(∀b o,s.heap.get? b=some o->h'.get? b=some o)->Q v {s with heap:=h',toks:=tk}):wpAny (model prog w) A (call (.builtin "min") [.ref l]) Q E s:=call_min_walk (yO8 (A:=A.in1) hh hl fun J hp St W st a b keep=>⟨_,_,_,_,_,_,_,rfl,W,st,by simp[a,b],by rw[bP];exact ne,.ints_lt (numAt xs) (fun _ _=>intItems_at),fun v h' tk at_ hk=>k v h' tk (by rw[bP]at at_;exact at_) (yS1 keep hk)⟩)
theorem wQ2(hh:A.handled=none)(hl:s.heap.IsTuple l (intItems xs))(ne:0<xs.size)(k:∀v h' tk,(intItems xs)[argBest (fun i j=>decide (numAt xs i>numAt xs j)) (xs.size-1)]?=some v->(∀b o,s.heap.get? b=some o->h'.get? b=some o)->Q v {s with heap:=h',toks:=tk}):wpAny (model prog w) A (call (.builtin "max") [.ref l]) Q E s:=call_max_walk (yO8 (A:=A.in1) hh hl fun J hp St W st a b keep=>⟨_,_,_,_,_,_,_,rfl,W,st,by simp[a,b],by rw[bP];exact ne,.ints_gt (numAt xs) (fun _ _=>intItems_at),fun v h' tk at_ hk=>k v h' tk (by rw[bP]at at_;exact at_) (yS1 keep hk)⟩)
end
def minL:List Int->Int
 |[]=>0
 |n::ns=>ns.foldl (fun a b=>if b<a then b else a) n
def maxL:List Int->Int
 |[]=>0
 |n::ns=>ns.foldl (fun a b=>if b>a then b else a) n
theorem aV:∀(ns:C6)(n:Int),(ns.foldl (fun a b=>if b<a then b else a) n=n\/ns.foldl (fun a b=>if b<a then b else a) n∈ns)/\ns.foldl (fun a b=>if b<a then b else a) n<=n/\∀m∈ns,ns.foldl (fun a b=>if b<a then b else a) n<=m
 |[],n=>⟨.inl rfl,CZ _,fun m h=>nomatch h⟩
 |b::ns,n=>by obtain⟨h1,h2,h3⟩:=aV ns (if b<n then b else n);rw[List.foldl_cons];refine⟨?_,?_,fun m hm=>?_⟩;rcases h1 with h1|h1;rw[h1];split;exact .inr Af;exact .inl rfl;exact .inr (Ak _ h1);refine CI h2 ?_;split<;>rfl';rcases AF.mp hm with rfl|hm;refine CI h2 ?_;split<;>rfl';exact h3 m hm
theorem bI:∀(ns:C6)(n:Int),(ns.foldl (fun a b=>if b>a then b else a) n=n\/ns.foldl (fun a b=>if b>a then b else a) n∈ns)/\n<=ns.foldl (fun a b=>if b>a then b else a) n/\∀m∈ns,m<=ns.foldl (fun a b=>if b>a then b else a) n
 |[],n=>⟨.inl rfl,CZ _,fun m h=>nomatch h⟩
 |b::ns,n=>by obtain⟨h1,h2,h3⟩:=bI ns (if b>n then b else n);rw[List.foldl_cons];refine⟨?_,?_,fun m hm=>?_⟩;rcases h1 with h1|h1;rw[h1];split;exact .inr Af;exact .inl rfl;exact .inr (Ak _ h1);refine CI ?_ h2;split<;>rfl';rcases AF.mp hm with rfl|hm;refine CI ?_ h2;split<;>rfl';exact h3 m hm
theorem yL2{ns:C6}(h:ns≠[]):minL ns∈ns:=by
 cases ns with
 |nil=>exact absurd rfl h
 |cons n ns=>rcases (aV ns n).1 with e|e;show List.foldl _ n ns∈_;rw[e];exact Af;exact Ak _ e
theorem yC5{ns:C6}{m:Int}(h:m∈ns):minL ns<=m:=by
 cases ns with
 |nil=>cases h
 |cons n ns=>rcases AF.mp h with rfl|h;exact(aV ns m).2.1;exact(aV ns n).2.2 m h
theorem zK7{ns:C6}(h:ns≠[]):maxL ns∈ns:=by
 cases ns with
 |nil=>exact absurd rfl h
 |cons n ns=>rcases (bI ns n).1 with e|e;show List.foldl _ n ns∈_;rw[e];exact Af;exact Ak _ e
theorem yX4{ns:C6}{m:Int}(h:m∈ns):m<=maxL ns:=by
 cases ns with
 |nil=>cases h
 |cons n ns=>rcases AF.mp h with rfl|h;exact(bI ns m).2.1;exact(bI ns n).2.2 m h
theorem xW6{xs:Array (Int×Tok)}{i:Nat}(h:i<xs.size):numAt xs i∈xs.toList.map (·.1):=by rw[numAt_eq];exact getD_mem (by simpa using h)
theorem yB8{xs:Array (Int×Tok)}{a:Int}(h:a∈xs.toList.map (·.1)):∃i,i<xs.size/\a=numAt xs i:=by obtain⟨i,hi,e⟩:=mem_getD h;exact⟨i,by simpa using hi,by rw[numAt_eq,e]⟩
theorem xC9{xs:Array (Int×Tok)}(h:0<xs.size):numAt xs (argBest (fun i j=>decide (numAt xs i<numAt xs j)) (xs.size-1))=minL (xs.toList.map (·.1)):=by have z:=argBest_lt (numAt xs) (xs.size-1);have m:=xW6 (xs:=xs) (i:=argBest (fun i j=>decide (numAt xs i<numAt xs j)) (xs.size-1)) (by rfl');obtain⟨i,hi,e⟩:=yB8 (yL2 (List.ne_nil_of_mem m));have:=yC5 m;have:=z.2 i (by rfl');rfl'
theorem wZ1{xs:Array (Int×Tok)}(h:0<xs.size):numAt xs (argBest (fun i j=>decide (numAt xs i>numAt xs j)) (xs.size-1))=maxL (xs.toList.map (·.1)):=by have z:=argBest_gt (numAt xs) (xs.size-1);have m:=xW6 (xs:=xs) (i:=argBest (fun i j=>decide (numAt xs i>numAt xs j)) (xs.size-1)) (by rfl');obtain⟨i,hi,e⟩:=yB8 (zK7 (List.ne_nil_of_mem m));have:=yX4 m;have:=z.2 i (by rfl');rfl'
section
variable {X:Cx}
theorem xH3(hc:X.calm=true):CallR X (.builtin "min") (fun xs H Q=>∃(p:Addr)(ns:C6),xs=[.ref p]/\(SqL X.K H p (ns.map V.int)\/SqT X.K H p (ns.map V.int))/\ns≠[]/\Q (.int (minL ns)) H):=by
 intro EA s σ H xs us Q I r h;obtain⟨p,ns,rfl,hq,hne,q⟩:=h;obtain⟨u,rfl,ru⟩:=vals1 r;cases ru;have core:∀(its:C3),Vals (ns.map V.int) its->∃xs:Array (Int×Tok),its.toArray=intItems xs/\ns=xs.toList.map (·.1):=fun its rv=>by have hi:IntsAre its ns:=dF rv;obtain⟨xs,e⟩:=hi.allInts.items;exact⟨xs,e,by rw[<-hi.numsOf,<-nums_intItems,<-e]⟩
 have fin:∀(xs:Array (Int×Tok)),ns=xs.toList.map (·.1)->0<xs.size->∀(v:Value)(h':Heap)(tk:Nat),(intItems xs)[argBest (fun i j=>decide (numAt xs i<numAt xs j)) (xs.size-1)]?=some v->(∀b o,s.heap.get? b=some o->h'.get? b=some o)->EP X EA σ Q v {s with heap:=h',toks:=tk}:=fun xs hns hsz v h' tk hv hk=>by obtain⟨t,rfl⟩:=intItems_at hv;have e:=xC9 hsz;rw[<-hns]at e;exact⟨.int _,H,I.kept hk,⟨t,by rw[e]⟩,q⟩
 have sz:∀xs:Array (Int×Tok),ns=xs.toList.map (·.1)->0<xs.size:=fun xs hns=>by rcases Dd xs.size with z|z;exact absurd (by rw[hns,Array.size_eq_zero_iff.mp z];rfl) hne;exact z
 rcases hq with hq|hq;obtain⟨its,rv,pl,hz⟩:=I.list hq;obtain⟨xs,e,hns⟩:=core its rv;exact min_intList (I.ok.hd hc) (by rw[<-e];exact pl.isList) (sz xs hns) (fin xs hns (sz xs hns));obtain⟨its,rv,pl,hz⟩:=I.tuple hq;obtain⟨xs,e,hns⟩:=core its rv;exact wO7 (I.ok.hd hc) (by rw[<-e];exact pl) (sz xs hns) (fin xs hns (sz xs hns))
theorem zS7(hc:X.calm=true):CallR X (.builtin "max") (fun xs H Q=>∃(p:Addr)(ns:C6),xs=[.ref p]/\(SqL X.K H p (ns.map V.int)\/SqT X.K H p (ns.map V.int))/\ns≠[]/\Q (.int (maxL ns)) H):=by
 intro EA s σ H xs us Q I r h;obtain⟨p,ns,rfl,hq,hne,q⟩:=h;obtain⟨u,rfl,ru⟩:=vals1 r;cases ru;have core:∀(its:C3),Vals (ns.map V.int) its->∃xs:Array (Int×Tok),its.toArray=intItems xs/\ns=xs.toList.map (·.1):=fun its rv=>by have hi:IntsAre its ns:=dF rv;obtain⟨xs,e⟩:=hi.allInts.items;exact⟨xs,e,by rw[<-hi.numsOf,<-nums_intItems,<-e]⟩
 have fin:∀(xs:Array (Int×Tok)),ns=xs.toList.map (·.1)->0<xs.size->∀(v:Value)(h':Heap)(tk:Nat),(intItems xs)[argBest (fun i j=>decide (numAt xs i>numAt xs j)) (xs.size-1)]?=some v->(∀b o,s.heap.get? b=some o->h'.get? b=some o)->EP X EA σ Q v {s with heap:=h',toks:=tk}:=fun xs hns hsz v h' tk hv hk=>by obtain⟨t,rfl⟩:=intItems_at hv;have e:=wZ1 hsz;rw[<-hns]at e;exact⟨.int _,H,I.kept hk,⟨t,by rw[e]⟩,q⟩
 have sz:∀xs:Array (Int×Tok),ns=xs.toList.map (·.1)->0<xs.size:=fun xs hns=>by rcases Dd xs.size with z|z;exact absurd (by rw[hns,Array.size_eq_zero_iff.mp z];rfl) hne;exact z
 rcases hq with hq|hq;obtain⟨its,rv,pl,hz⟩:=I.list hq;obtain⟨xs,e,hns⟩:=core its rv;exact max_intList (I.ok.hd hc) (by rw[<-e];exact pl.isList) (sz xs hns) (fin xs hns (sz xs hns));obtain⟨its,rv,pl,hz⟩:=I.tuple hq;obtain⟨xs,e,hns⟩:=core its rv;exact wQ2 (I.ok.hd hc) (by rw[<-e];exact pl) (sz xs hns) (fin xs hns (sz xs hns))
end
def min1D:List D->Option D
 |[d]=>(nsD d).bind fun ns=>if ns=[]then none else some (.int (minL ns))
 |_=>none
def max1D:List D->Option D
 |[d]=>(nsD d).bind fun ns=>if ns=[]then none else some (.int (maxL ns))
 |_=>none
theorem wS2{K:KFr}:PrC (fun xs H Q=>∃(p:Addr)(ns:C6),xs=[.ref p]/\(SqL K H p (ns.map V.int)\/SqT K H p (ns.map V.int))/\ns≠[]/\Q (.int (minL ns)) H) .cl min1D:=by intro Oc Ob H vs ds d Q oh va e k;unfold min1D at e;split at e;obtain⟨ns,e1,e⟩:=AI.mp e;split at e;cases e;rename_i hl;cases e;obtain⟨v,rfl,vx⟩:=va.one;obtain⟨p,rfl,hq⟩:=yF6 vx e1;exact⟨p,ns,rfl,hq,hl,k _ H (Same.refl H) (Rep.int _)⟩;cases e
theorem yZ3{K:KFr}:PrC (fun xs H Q=>∃(p:Addr)(ns:C6),xs=[.ref p]/\(SqL K H p (ns.map V.int)\/SqT K H p (ns.map V.int))/\ns≠[]/\Q (.int (maxL ns)) H) .cl max1D:=by intro Oc Ob H vs ds d Q oh va e k;unfold max1D at e;split at e;obtain⟨ns,e1,e⟩:=AI.mp e;split at e;cases e;rename_i hl;cases e;obtain⟨v,rfl,vx⟩:=va.one;obtain⟨p,rfl,hq⟩:=yF6 vx e1;exact⟨p,ns,rfl,hq,hl,k _ H (Same.refl H) (Rep.int _)⟩;cases e
theorem dR{α β:Type}{F:α->β->Prop}:∀{as:List α}{bs:List β},as.length=bs.length->(∀(i:Nat)a b,as[i]?=some a->bs[i]?=some b->F a b)->Paired F as bs
 |[],[],_,_=>.nil
 |[],_::_,h,_=>by cases h
 |_::_,[],h,_=>by cases h
 |a::as,b::bs,h,f=>.cons (f 0 a b rfl rfl) (dR (Nat.succ.inj h) fun i x y hx hy=>f (i+1) x y (by simpa using hx) (by simpa using hy))
section
variable {X:Cx}
theorem yW9:CallR X (.type "range") (fun xs H Q=>∃j:Int,xs=[.int j]/\∀p,H p=none->Q (.ref p) (upd H p (.rng 0 j))):=by intro EA s σ H xs us Q I r h;obtain⟨j,rfl,q⟩:=h;obtain⟨u,rfl,t,rfl⟩:=vals1 r;exact call_range_1 ⟨.ref s.heap.objs.size,_,I.laid (t':=s.toks+1+1) (o:=.rng 0 j) (fun b o e=>Am _ e) (Ac _) ⟨_,_,_,AO _ rfl⟩,rfl,q _ (I.hok.fresh (Ac _))⟩
theorem yS7(hc:X.calm=true):CallR X (.type "list") (fun xs H Q=>∃(p:Addr)(j:Int),xs=[.ref p]/\H p=some (.rng 0 j)/\-(2^62)<=j/\j.toNat<=1000000/\∀l,H l=none->Q (.ref l) (upd H l (.lst ((List.range j.toNat).map fun(i:Nat)=>V.int (i:Int))))):=by
 intro EA s σ H xs us Q I r h;obtain⟨p,j,rfl,hp,hs,hj,q⟩:=h;obtain⟨u,rfl,ru⟩:=vals1 r;cases ru;obtain⟨t,u,v,e⟩:=I.hok p _ hp;refine call_list_range (n:=j.toNat) (I.ok.hd hc) e (small_one (by rfl') (by rfl') hs (by rfl')) ?_ (by rfl') fun h' tk acc' c' hk hS hacc=>?_;rw[rangeSize_one];split<;>rfl';have hv:Vals ((List.range j.toNat).map fun(i:Nat)=>V.int (i:Int)) acc'.toList:=by
  obtain⟨h1,h2⟩:=hacc;refine dR ?_ ?_;rw[Aa,Aq,BW,h1];intro i a b ha hb;rw[Al]at ha;have hi:i<j.toNat:=by have:=(AD.mp hb).1;rw[BW,h1]at this;exact this
  rw[AZ hi]at ha;cases ha;obtain⟨t,e⟩:=h2 i b (by simpa using hb);refine⟨t,?_⟩;rw[e];simp
 refine⟨.ref s.heap.objs.size,_,I.laid (t':=tk) (o:=.lst ((List.range j.toNat).map fun(i:Nat)=>V.int (i:Int))) hk (Ac _) ⟨?_,acc'.toList,c',hv,by simpa using hS⟩,rfl,q _ (I.hok.fresh (Ac _))⟩;rw[Aa,Aq];exact BL (Bo hj (by decide))
end
def rangeL:List D->Option D
 |[.int j]=>if -(2^62)<=j/\j.toNat<=1000000 then some (.list ((List.range j.toNat).map fun(i:Nat)=>PyData.int (i:Int)))else none
 |_=>none
theorem yT9(l:C5):Reps H O (l.map fun(i:Nat)=>V.int (i:Int)) (l.map fun(i:Nat)=>PyData.int (i:Int)):=by
 induction l with
 |nil=>exact .nil
 |cons a l ih=>exact .cons (.int _) ih
theorem zP3{a:Expr}{p pos2:Pos}(hl:C.X.mg "list"=none)(hm:C.X.mg "range"=none)(ha:RArg C false [a] ms)(hc:autoParam (C.X.calm=true) Ey)(hgl:autoParam (Gl C.X "list") Ey)(hg:autoParam (Gl C.X "range") Ey)(hs:autoParam (starEach [a] C.X.env=(false,eval a C.X.env)::starEach [] C.X.env) Ey)(hs2:autoParam (starEach [.Call (.Name "range" p2) [a] [] pos2] C.X.env=(false,eval (.Call (.Name "range" p2) [a] [] pos2) C.X.env)::starEach [] C.X.env) Ey)(hpl:autoParam ((backTo pos (starEach [] C.X.env)).any (·.1)=false) Ey)(hpl2:autoParam ((backTo pos2 (starEach [] C.X.env)).any (·.1)=false) Ey):RE C .new (.Call (.Name "list" p) [.Call (.Name "range" p2) [a] [] pos2] [] pos) (eB rangeL ms):=by obtain⟨t,pa,q⟩:=ha;refine⟨_,dU (yS7 hc) hgl hl (by rfl) (yF (dU yW9 hg hm (by rfl) pa (by decide) (by decide) hs hpl2) xP hs2) (by decide) (by decide) hs2 hpl,fun Oc Ob σ H ρ Q R h=>q Oc Ob σ H ρ _ R (Res.zP (Res.zS h) (fun ds _ k vs H1 s1 r=>?_) fun _ z=>z)⟩;obtain⟨d,e,k⟩:=Res.zG k;unfold rangeL at e;split at e;split at e;rename_i hb;cases e;obtain⟨v,rfl,va⟩:=VAs.one r;obtain rfl:=va.int;refine⟨_,rfl,fun p hp=>⟨p,_,rfl,yU,hb.1,hb.2,fun l hl=>?_⟩⟩;exact k _ _ ((s1.trans (Same.new hp)).trans (Same.new hl)) (wB (s1.trans (Same.new hp)) hl (yT9 _));cases e;cases e
section
variable {X:Cx}
def rExtR:V->List V->Hp->VK->Prop:=fun x vs H Q=>∃l b xs zs,x=.ref l/\vs=[.ref b]/\H l=some (.lst xs)/\(Rd H b (.lst zs)\/Rd H b (.tup zs))/\xs.length+zs.length<=sizeLine/\Q .non (upd H l (.lst (xs++zs)))
theorem wL5:MtM X "list.extend" rExtR:=by
 intro EA s σ H x vs v us Q I rx rv h;obtain⟨l,b,xs,zs,rfl,rfl,hH,hB,hz,q⟩:=h;cases rx;obtain⟨u,rfl,ru⟩:=rv.one;cases ru;obtain⟨z,its,n,r,hl,e⟩:=I.lstM hH;have len:(xs++zs).length<=sizeLine:=by rw[Aj];exact hz
 rcases hB with hB|hB;obtain⟨z2,its2,n2,r2,hl2,e2⟩:=Rd.lstM I hB;have hsz:its.toArray.size+its2.toArray.size<=sizeLine:=by rw[Av,Av];rfl'
 have hlong:¬(!its.toArray.isEmpty&&Builtin.List.listTooLong (its.toArray.size+its2.toArray.size))=true:=by rw[notLongL hsz,Bool.and_false];exact AY
 refine call_meets F.slot_list_extend ⟨_,e,rfl⟩ F.entry_list_extend (F.args_list_extend_2 _ _) (AutoSeq1.list_extend_list_list_0 l its.toArray n b its2.toArray n2 hlong (by rw[Av];rfl') (by rfl')) ⟨e,e2,?_⟩;exact⟨.non,_,I.lset (its':=its++its2) hH e (by simp) (r.append r2) len,rfl,q⟩;obtain⟨z2,its2,r2,o,ho,hc,⟨n2,hd⟩,_⟩:=hB.ok I.hok;have hl2:=r2.length;have hsz:its.toArray.size+its2.toArray.size<=sizeLine:=by rw[Av,Av];rfl'
 refine call_meets F.slot_list_extend ⟨_,e,rfl⟩ F.entry_list_extend (F.args_list_extend_2 _ _) (wS8 hc hd hsz) ⟨e,ho,?_⟩;exact⟨.non,_,I.lset (its':=its++its2) hH e (by simp) (r.append r2) len,rfl,q⟩
def insN(n:Nat)(x:Int):Nat:=if x<0 then(x+(n:Int)).toNat else min x.toNat n
def rInsert:V->List V->Hp->VK->Prop:=fun x vs H Q=>∃l xs i y,x=.ref l/\vs=[.int i,y]/\H l=some (.lst xs)/\-(2^63)<=i/\i<2^63/\xs.length<sizeLine/\Q .non (upd H l (.lst (xs.take (insN xs.length i)++y::xs.drop (insN xs.length i))))
theorem yW7:MtM X "list.insert" rInsert:=by intro EA s σ H x vs v us Q I rx rv h;obtain⟨l,xs,i,y,rfl,rfl,hH,h1,h2,hz,q⟩:=h;cases rx;obtain⟨u,w',rfl,⟨t,rfl⟩,ry⟩:=rv.two;obtain⟨z,its,n,r,hl,e⟩:=I.lstM hH;refine call_meets F.slot_list_insert ⟨_,e,rfl⟩ F.entry_list_insert (F.args_list_insert_3 _ _ _) (AutoSeq1.list_insert_list_int_val_1 l its.toArray n i t w' (by rw[fitsIndex_both h1 h2];exact AY) (by rw[Av];rfl')) ⟨e,?_⟩;refine⟨.non,_,I.lset (its':=its.take (insN its.length i)++w'::its.drop (insN its.length i)) hH e ?_ (by rw[hl];exact(r.take _).append (.cons ry (r.drop _))) ?_,rfl,q⟩;show(its.toArray.extract 0 (if i<0 then(i+(its.toArray.size:Int)).toNat else min i.toNat its.toArray.size)).push w'++its.toArray.extract (if i<0 then(i+(its.toArray.size:Int)).toNat else min i.toNat its.toArray.size)=_;rw[PySem.W.kl_ins_eq,Av];rfl;rw[Aj,Aw,BF,Bs];rfl'
end
def appD:List D->List D->Option (D0)
 |xs,[d]=>if xs.length<sizeLine then some (xs++[d])else none
 |_,_=>none
def extD:List D->List D->Option (D0)
 |xs,[d]=>(seqD d).bind fun ys=>if xs.length+ys.length<=sizeLine then some (xs++ys)else none
 |_,_=>none
def insD:List D->List D->Option (D0)
 |xs,[.int i,d]=>if -(2^63)<=i/\i<2^63/\xs.length<sizeLine then some (xs.take (insN xs.length i)++d::xs.drop (insN xs.length i))else none
 |_,_=>none
theorem Reps.one'{d:D}(h:Reps H O vs [d]):∃v,vs=[v]/\Rep H O v d:=by
 cases h with
 |cons a t=>cases t;exact⟨_,rfl,a⟩
theorem Reps.two'{d d':D}(h:Reps H O vs [d,d']):∃v v',vs=[v,v']/\Rep H O v d/\Rep H O v' d':=by
 cases h with
 |cons a t=>obtain⟨v,rfl,q⟩:=Reps.one' t;exact⟨_,_,rfl,a,q⟩
theorem qF:PrM rAppend appD:=by intro O H l xs vs xd ad ds' Q hl rx ra e k;unfold appD at e;split at e;split at e;rename_i h;cases e;obtain⟨v,rfl,rv⟩:=Reps.one' ra;exact⟨l,xs,v,rfl,rfl,hl,by rw[rx.length];exact h,k _ (rx.append (.one rv))⟩;cases e;cases e
theorem yX6:PrM rInsert insD:=by intro O H l xs vs xd ad ds' Q hl rx ra e k;unfold insD at e;split at e;split at e;rename_i h;cases e;obtain⟨v,v',rfl,rv,rv'⟩:=Reps.two' ra;cases rv;refine⟨l,xs,_,v',rfl,rfl,hl,h.1,h.2.1,by rw[rx.length];exact h.2.2,?_⟩;rw[rx.length];exact k _ (Reps.insert rv' _ rx);cases e;cases e
section
variable {i j:Nat}{m n:B6}{t:B7}{me mk:B5}{ms mi:Ev->Res (D0)}{g:D->Ev->Option Ev}{f:List D->List D->Option (D0)}
end
def isL:Value->Bool
 |.type t=>t=="list"
 |_=>false
def noLst(K:KFr):Bool:=K.all fun p=>!isL p.2.cls
theorem yE1{K:KFr}{a:Addr}{o:Obj}(h:K.lookup a=some o):(a,o)∈K:=by
 have h:List.lookup a K=some o:=h;induction K with
 |nil=>cases h
 |cons p r ih=>
  obtain⟨b,u⟩:=p;rw[BS]at h;by_cases e:(a==b)=true;simp only[e]at h;cases h;have:a=b:=by simpa using e
  rw[this];exact Af;simp only[e]at h;exact Ak _ (ih h h)
theorem yQ5{K:KFr}{a:Addr}{xs:C8}(hn:noLst K=true)(h:SqL K H a xs):Rd H a (.lst xs):=by rcases h with h|⟨o,its,n,hk,hc,_⟩;exact h;have:=Bt.mp hn _ (yE1 hk);rw[hc]at this;cases this
end L2.L3
namespace L2.L3
open PySem
section
variable (m n:B6)(t t':B7)(a b c:B5)(xs:Ev->Res (D0))(ρ:Ev)(i j:Nat)(d:D)
theorem zW7:sN ρ=.ok (.nx ρ):=rfl
theorem vM:sQ m n ρ=(m ρ).bind fun o=>match o with|.nx ρ'=>n ρ'|.rt d=>.ok (.rt d):=rfl
theorem wR:sIf t m n ρ=(t ρ).bind fun k=>if k then m ρ else n ρ:=rfl
theorem zE8:sR a ρ=(a ρ).bind fun d=>.ok (.rt d):=rfl
theorem yQ1:sS i a ρ=(a ρ).bind fun d=>.ok (.nx (ρ.set i (some d))):=rfl
theorem xT4:sE a ρ=(a ρ).bind fun _=>.ok (.nx ρ):=rfl
theorem vY4(g:List D->List D->Option (D0)):sM i g xs ρ=(eV i ρ).bind fun d=>(Res.lft (lstD d)).bind fun xd=>(xs ρ).bind fun ad=>(Res.lft (g xd ad)).bind fun ds=>.ok (.nx (ρ.set i (some (.list ds)))):=rfl
theorem wU8:sI i b a ρ=(a ρ).bind fun v=>(eV i ρ).bind fun d=>(Res.lft (lstD d)).bind fun xd=>(b ρ).bind fun k=>(Res.lft (setD xd k v)).bind fun ds=>.ok (.nx (ρ.set i (some (.list ds)))):=rfl
theorem vZ4(g:D->Ev->Option Ev):sF xs g m ρ=(xs ρ).bind fun ds=>forM g m ds ρ:=rfl
theorem vZ1(k:Nat):sW k t m ρ=whM t m k ρ:=rfl
theorem vG:eC d ρ=.ok d:=rfl
theorem eV0(x:D)(r:Ev):eV 0 (some x::r)=.ok x:=rfl
theorem eVs(o:Option D)(r:Ev):eV (i+1) (o::r)=eV i r:=rfl
theorem vZ2(f:D->Option D):e1 f a ρ=(a ρ).bind fun x=>Res.lft (f x):=rfl
theorem zP8(f:D->D->Option D):e2 f a b ρ=(a ρ).bind fun x=>(b ρ).bind fun y=>Res.lft (f x y):=rfl
theorem fK(f:List D->Option D):eB f xs ρ=(xs ρ).bind fun ds=>Res.lft (f ds):=rfl
theorem xR4(f:B8):eF f xs ρ=(xs ρ).bind f:=rfl
theorem wB5(fr:Bool)(f:B8):eFA fr f xs ρ=(xs ρ).bind fun ds=>(f ds).bind fun d=>if lfT fr d then .ok d else .no:=rfl
theorem bB(f:D->D->Option Bool):b2 f a b ρ=(a ρ).bind fun x=>(b ρ).bind fun y=>Res.lft (f x y):=rfl
theorem uW(f g:D->D->Option Bool):b3 f g a b c ρ=(a ρ).bind fun x=>(b ρ).bind fun y=>(Res.lft (f x y)).bind fun k=>if k then(c ρ).bind fun z=>Res.lft (g y z)else .ok false:=rfl
theorem yQ4:vB t ρ=(t ρ).bind fun k=>.ok (.bool k):=rfl
theorem vX9:tV a ρ=(a ρ).bind fun d=>Res.lft (isB d):=rfl
theorem uN:tNt t ρ=(t ρ).bind fun k=>.ok (!k):=rfl
theorem xK4:tAn t t' ρ=(t ρ).bind fun k=>if k then t' ρ else .ok false:=rfl
theorem zD2:tO t t' ρ=(t ρ).bind fun k=>if k then .ok true else t' ρ:=rfl
theorem zZ1:vAn a b ρ=(a ρ).bind fun d=>(Res.lft (isB d)).bind fun k=>if k then b ρ else .ok (.bool false):=rfl
theorem wA7:eIf t a b ρ=(t ρ).bind fun k=>if k then a ρ else b ρ:=rfl
theorem vA:aN ρ=.ok []:=rfl
theorem vJ:aC a xs ρ=(a ρ).bind fun x=>(xs ρ).bind fun r=>.ok (x::r):=rfl
theorem wU9:iS a ρ=(a ρ).bind fun d=>Res.lft (seqD d):=rfl
theorem vZ5(f:List D->Option (D0)):iR f xs ρ=(xs ρ).bind fun ds=>Res.lft (f ds):=rfl
theorem vX2:gN i d ρ=some (ρ.set i (some d)):=rfl
theorem wO3:tYes ρ=.ok true:=rfl
theorem vX1(f:Int->Int->Option Int)(x y:Int):i2 f (.int x) (.int y)=(f x y).map PyData.int:=rfl
theorem uX(f:Int->Int->Bool)(x y:Int):c2 f (.int x) (.int y)=some (f x y):=rfl
theorem wP9(l:D0):lstD (.list l)=some l:=rfl
theorem yH6(l:D0):seqD (.list l)=some l:=rfl
theorem yI7(l:D0):seqD (.tuple l)=some l:=rfl
theorem zF8(k:Bool):isB (.bool k)=some k:=rfl
theorem zZ6:lenD [d]=(seqD d).map fun ds=>.int ds.length:=rfl
theorem xD5:listD [d]=(seqD d).map fun ds=>.list ds:=rfl
theorem wL6:tupD [d]=(seqD d).map fun ds=>.tuple ds:=rfl
theorem xP2(l:D0)(k:Int):ixD (.list l) (.int k)=atI l k:=rfl
theorem vY8(l:D0)(k:Int):ixD (.tuple l) (.int k)=atI l k:=rfl
theorem wO8(k:Int):negD (.int k)=some (.int (-k)):=rfl
theorem yQ3(k:Bool):bD (some k)=some (.bool k):=rfl
end
theorem zD1(fr:Bool)(d:D):fin fr (.rt d)=.ok d:=rfl
theorem wJ6(ρ:Ev):fin false (.nx ρ)=.ok .none:=rfl
theorem uM{g:D->Ev->Option Ev}{b:B6}(P:Nat->Ev->Prop)(ds:D0)(ρ:Ev)(h0:P 0 ρ)(hs:∀(i:Nat)d ρ,ds[i]?=some d->P i ρ->∃ρ1 ρ2,g d ρ=some ρ1/\b ρ1=.ok (.nx ρ2)/\P (i+1) ρ2):∃ρ',forM g b ds ρ=.ok (.nx ρ')/\P ds.length ρ':=by
 induction ds generalizing P ρ with
 |nil=>exact⟨ρ,rfl,h0⟩
 |cons d ds ih=>obtain⟨ρ1,ρ2,e1,e2,p⟩:=hs 0 d ρ rfl h0;obtain⟨ρ',e,p'⟩:=ih (fun i=>P (i+1)) ρ2 p fun i d ρ hd hp=>hs (i+1) d ρ (by simpa using hd) hp;refine⟨ρ',?_,by simpa using p'⟩;rw[forM,e1,Res.lft_some,Res.bind_ok,e2,Res.bind_ok];exact e
theorem yN4{t:B7}{b:B6}(P:Nat->Ev->Prop)(n:Nat):∀(fuel:Nat)(ρ:Ev),P 0 ρ->(∀i ρ,i<n->P i ρ->t ρ=.ok true/\∃ρ2,b ρ=.ok (.nx ρ2)/\P (i+1) ρ2)->(∀ρ,P n ρ->t ρ=.ok false)->n<fuel->∃ρ',whM t b fuel ρ=.ok (.nx ρ')/\P n ρ':=by
 induction n generalizing P with
 |zero=>intro fuel ρ h0 _ he hf;obtain⟨f,rfl⟩:∃f,fuel=f+1:=⟨fuel-1,by rfl'⟩;refine⟨ρ,?_,h0⟩;rw[whM,he ρ h0];rfl
 |succ n ih=>intro fuel ρ h0 hs he hf;obtain⟨f,rfl⟩:∃f,fuel=f+1:=⟨fuel-1,by rfl'⟩;obtain⟨e1,ρ2,e2,p⟩:=hs 0 ρ (Nat.succ_pos _) h0;obtain⟨ρ',e,p'⟩:=ih (fun i=>P (i+1)) f ρ2 p (fun i ρ hi hp=>hs (i+1) ρ (by rfl') hp) he (by rfl');refine⟨ρ',?_,p'⟩;rw[whM,e1,Res.bind_ok,Ae rfl,e2,Res.bind_ok];exact e
abbrev tI(ns:C6):D:=.tuple (ns.map PyData.int)
abbrev lI(ns:C6):D:=.list (ns.map PyData.int)
theorem zZ3{α β:Type}(f:α->β)(xs:List α)(i:Int):atI (xs.map f) i=(atI xs i).map f:=by
 unfold atI;rw[Aa];cases ixN xs.length i with
 |none=>rfl
 |some j=>simp
theorem zV3{xs:C6}{j:Nat}(h:j<xs.length):atI xs (j:Int)=some (xs.getD j 0):=by refine jT ?_;rw[Ax,Ag h];rfl
theorem zD6(h:ds.length<=1000):mkL ds=some (.list ds):=by unfold mkL;exact Ae (BL (small1000 h))
theorem wI2(h:ds.length<=1000):mkT ds=some (.tuple ds):=by unfold mkT;exact Ae (BL (small1000 h))
theorem mkL0:mkL []=some (.list []):=zD6 (by simp)
theorem mkL1(a:D):mkL [a]=some (.list [a]):=zD6 (by simp)
theorem mkL2(a b:D):mkL [a,b]=some (.list [a,b]):=zD6 (by simp)
theorem mkL3(a b c:D):mkL [a,b,c]=some (.list [a,b,c]):=zD6 (by simp)
theorem mkT2(a b:D):mkT [a,b]=some (.tuple [a,b]):=wI2 (by simp)
theorem cP{l:D0}{d:D}(h:l.length<=1000):appD l [d]=some (l++[d]):=Ae (small1000 h)
theorem zG6{l k:D0}{d:D}(hd:seqD d=some k)(h:l.length+k.length<=1000):extD l [d]=some (l++k):=by show(seqD d).bind (fun ys=>if l.length+ys.length<=sizeLine then some (l++ys)else none)=_;rw[hd];exact Ae (BL (small1000 h))
theorem xE6{l:D0}{d:D}{i:Int}(h0:0<=i)(h1:i<=l.length)(h:l.length<=1000):insD l [.int i,d]=some (l.take i.toNat++d::l.drop i.toNat):=by
 unfold insD;simp only;rw[Ae ⟨by rfl',by rfl',small1000 h⟩];have e:insN l.length i=i.toNat:=by unfold insN;rw[An (by rfl')];rfl'
 rw[e]
theorem zA3{r:Res D}(h:ds.length<=1000):(if ds.length<=sizeLine then r else .no)=r:=Ae (BL (small1000 h))
theorem gH{n:Nat}(h:n<=1000):rng1 [.int (n:Int)]=some ((List.range n).map fun(i:Nat)=>PyData.int (i:Int)):=by unfold rng1;simp only;rw[Ae ⟨by rfl',by rfl'⟩,AX]
theorem zZ7{n i:Nat}{d:D}(h:((List.range n).map fun(i:Nat)=>PyData.int (i:Int))[i]?=some d):i<n/\d=.int (i:Int):=by rw[Al]at h;by_cases hi:i<n;rw[AZ hi]at h;cases h;exact⟨hi,rfl⟩;rw[Cj (by simpa using hi)]at h;cases h
theorem dJ(i:Int):SeqAt.shaped (.int i)=true:=rfl
theorem xV3(i j:Int):PyData.eqv (.int i) (.int j)=decide (i=j):=by rw[PyData.eqv];exact Bool.beq_eq_decide_eq i j
theorem yR(i j:Int):eqD (.int i) (.int j)=some (decide (i=j)):=by unfold eqD;rw[Ae ⟨dJ i,dJ j⟩,xV3]
theorem wF(i j:Int):neD (.int i) (.int j)=some (!decide (i=j)):=by unfold neD;rw[Ae ⟨dJ i,dJ j⟩,xV3]
theorem xJ5(ns ms:C6):eqD (lI ns) (lI ms)=some (decide (ns=ms)):=by unfold eqD;rw[Ae ⟨zN7 ns,zN7 ms⟩,wS6]
abbrev rows(rs:C1):D:=.list (rs.map tI)
theorem zB9{n m:Nat}(h:m<n):ixN n (m:Int)=some m:=by unfold ixN;rw[Ae (by rfl'),Ae (by rfl'),AX]
theorem xN6{n m:Nat}(h:m<n)(f:Nat->D)(v:D):((List.range n).map f).set m v=(List.range n).map fun c=>if c=m then v else f c:=by
 apply List.ext_getElem?;intro i;by_cases e:m=i;subst e;rw[BR (by simpa using h),Al,AZ h];simp;rw[AU e,Al,Al];cases q:(List.range n)[i]? with
 |none=>rfl
 |some c=>
  have:c=i:=by have hi:=(AD.mp q).1;rw[AZ (by simpa using hi)]at q;cases q;rfl
  subst this;show some (f c)=some (if c=m then v else f c);rw[An (fun z=>e z.symm)]
theorem zV2{n m:Nat}(h:m<n)(f:Nat->D)(v:D):setD ((List.range n).map f) (.int (m:Int)) v=some ((List.range n).map fun c=>if c=m then v else f c):=by unfold setD;simp only;rw[Aa,Aq,zB9 h,Bn,xN6 h]
theorem cJ(v:D)(n:Nat)(h:n<=1000):repL (.list [v]) (.int (n:Int))=some (.list (List.replicate n v)):=by
 unfold repL;simp only;rw[Ae ⟨by rfl',by rfl',by rw[BX,AX];exact BL (small1000 (by rfl'))⟩,AX];congr 2;induction n with
 |zero=>rfl
 |succ n ih=>rw[BG,Bm,ih (by rfl'),BG];rfl
theorem dP{α:Type}(v:α)(n:Nat):List.replicate n v=(List.range n).map fun _=>v:=by apply List.ext_getElem?;intro i;rw[CS,Al];by_cases h:i<n;rw[Ae h,AZ h];rfl;rw[An h,Cj (by simpa using h)];rfl
theorem zS1{n m:Nat}(h:m<n)(f:Nat->D):atI ((List.range n).map f) (m:Int)=some (f m):=jT (by rw[Al,AZ h];rfl)
theorem zH2{n:Nat}(h:n<=1000):rangeL [.int (n:Int)]=some (lI ((List.range n).map fun(i:Nat)=>(i:Int))):=by unfold rangeL;simp only;rw[Ae ⟨by rfl',by rfl'⟩,AX];congr 2;rw[Ar];rfl
theorem yN3{ns:C6}(h:ns.length<=63):sortD [lI ns]=some (lI (sortI ns)):=by unfold sortD;simp only[nsD,seqD,AQ,intsOf_map];rw[Ae (by rfl')]
theorem xZ3{ns:C6}(h:ns≠[]):min1D [tI ns]=some (.int (minL ns)):=by unfold min1D;simp only[nsD,seqD,AQ,intsOf_map];rw[An h]
theorem wR8{ns:C6}(h:ns≠[]):min1D [lI ns]=some (.int (minL ns)):=by unfold min1D;simp only[nsD,seqD,AQ,intsOf_map];rw[An h]
section
variable (i:Int)(b:Bool)(l:D0)
end
end L2.L3
namespace L2.L3
theorem vO{α:Type}(a:α)(l:List α):atI (a::l) 0=some a:=jT (j:=0) rfl
end L2.L3
namespace HT
open PySem PySem.Spec PyProof.Rows
section
variable {prog:Program}{w:World}{A:Around}{E:A8}{s:Shared}
theorem zN4{t sl:Addr}{items:Array Value}{vl vu:Value}{lo:Option Int}(ht:IsTup s.heap t items)(hs:s.heap.IsSliceOf sl vl vu .none)(pl:IsPart vl lo)(pu:IsPart vu hi)(hw:sIx items.size 0 lo=0/\sIx items.size items.size hi=items.size)(h:Q (.ref t) s):wpAny (model prog w) A (getItem (.ref t) (.ref sl)) Q E s:=by
 obtain⟨os,hos,hcs,hds⟩:=id hs;have hTs:s.TypeIs (.ref sl) "slice":=⟨os,hos,hcs⟩;unfold getItem;try with_reducible refine wpAny_holding ?_
 first|refine Ai (AK ?_)|skip
 refine Ai (wpAny_sequenceKey ht.typeIs (by decide) ?_);refine Ai (wpAny_callSpecial?_slot (name:=Str.ofString "__getitem__") ht.typeIs Cg (wpAny_call_entry Cg ht.typeIs entry_tuple_getitem ?_ (args_tuple_getitem _ _)));show wpAny _ _ (Builtin.Tuple.tupleItemsOf (.ref t)>>=_) _ _ s;refine Ai (tupleItemsOf_ ht ?_);refine Ai (wpAny_typeOf hTs ?_);rw[Ae (by decide)];refine Ai (bV hs pl pu ?_);have hyes:(((sIx items.size 0 lo:Nat):Int)==0&&(1:Int)==1&&(sIx items.size items.size hi-sIx items.size 0 lo)==items.size)=true:=by rw[hw.1,hw.2];simp
 show wpAny _ _ (if (((sIx items.size 0 lo:Nat):Int)==0&&(1:Int)==1&&(sIx items.size items.size hi-sIx items.size 0 lo)==items.size)=true then _ else _) _ _ s;rw[Ae hyes];unfold Builtin.Tuple.tupleIsExact;refine Ai (Ai (wpAny_typeOf ht.typeIs (AK ?_)));rw[Ae (by decide)];refine Ai (wpAny_rule ?_);exact AK ⟨_,rfl,AK h⟩
end
end HT
namespace L2.L3
open PySem PySem.Spec PyProof.Rows
variable [CN]
section
variable {X:Cx}
def rSlTA(K:KFr):V->Option Int->Option Int->Hp->VK->Prop:=fun x lo hi H Q=>∃a xs,x=.ref a/\SqT K H a xs/\HT.sIx xs.length 0 lo=0/\HT.sIx xs.length xs.length hi=xs.length/\Q (.ref a) H
theorem wM8:SlR X (rSlTA X.K):=by
 intro EA s σ H x v vl vu lo hi sl Q I rx hs pl pu h;obtain⟨a,xs,rfl,hx,hw1,hw2,q⟩:=h;cases rx;obtain⟨its,r,ht,hz⟩:=I.tuple hx;have hlen:its.toArray.size=xs.length:=by rw[Av];exact r.length.symm
 refine⟨"tuple",_,Cg.lookup,ht.typeIs,?_⟩;exact HT.zN4 ht hs pl pu (by rw[hlen];exact⟨hw1,hw2⟩) ⟨.ref a,H,I,rfl,q⟩
end
def RO(C:Ct)(e:Option Expr)(m:Ev->Res (Option Int)):Prop:=∃t,PO C.X e t/\∀(Oc:Wd)(Ob:C2)(σ:St)(H:Hp)(ρ:Ev)(Q:Option Int->Hp->Prop),Rel Oc Ob C.om C.ln σ H ρ ->(m ρ).post (fun d=>∀H',Same H H'->Q d H') (fun c=>∀H',Same H H'->C.XE c H')->t σ H Q
def oN:Ev->Res (Option Int):=fun _=>.ok none
def isI:D->Option Int
 |.int i=>some i
 |_=>none
def oS(m:B5):Ev->Res (Option Int):=fun ρ=>(m ρ).bind fun d=>(Res.lft (isI d)).bind fun i=>.ok (some i)
theorem kD:RO C none oN:=⟨_,wO1,fun Oc Ob σ H ρ Q R h=>h H (Same.refl H)⟩
theorem wE(h:RE C md e me):RO C (some e) (oS me):=by
 obtain⟨t,p,q⟩:=h;refine⟨_,wR7 p,fun Oc Ob σ H ρ Q R h=>q Oc Ob σ H ρ _ R (Res.zP (Res.zS h) (fun d _ k v H' s r=>?_) fun _ z=>z)⟩;obtain⟨i,e,k⟩:=Res.zG (Res.zS k);cases d with
 |int j=>cases e;exact⟨i,(r.va R.oh).int,k H' s⟩
 |_=>cases e
def eS(f:D->Option Int->Option Int->Option D)(m:B5)(lo hi:Ev->Res (Option Int)):B5:=fun ρ=>(m ρ).bind fun x=>(lo ρ).bind fun l=>(hi ρ).bind fun u=>Res.lft (f x l u)
def PrS(r:V->Option Int->Option Int->Hp->VK->Prop)(md:Md)(f:D->Option Int->Option Int->Option D):Prop:=∀(Oc:Wd)(Ob:C2)(H:Hp)(x:V)(dx:D)(lo hi:Option Int)(d:D)(Q:VK),(∀a,Oc a\/Ob a->H a≠none)->VA Oc Ob H x dx->f dx lo hi=some d->(∀v H',Same H H'->VR md Oc Ob H H' v d->Q v H')->r x lo hi H Q
theorem zJ6{lo hi:Option Expr}{r:V->Option Int->Option Int->Hp->VK->Prop}{f:D->Option Int->Option Int->Option D}(hr:SlR C.X r)(hp:PrS r md f)(he:RE C mda e me)(hl:RO C lo ml)(hu:RO C hi mh):RE C md (.Subscript e (.Slice lo hi none p2) pos) (eS f me ml mh):=by obtain⟨t,p,q⟩:=he;obtain⟨tl,pl,ql⟩:=hl;obtain⟨th,ph,qh⟩:=hu;refine⟨_,xB9 hr p pl ph,fun Oc Ob σ H ρ Q R h=>q Oc Ob σ H ρ _ R (Res.zP (Res.zS h) (fun d _ k v H1 s1 r=>?_) fun _ z=>z)⟩;refine ql Oc Ob σ H1 ρ _ (R.same s1) (Res.zP (Res.zS k) (fun l _ k H2 s2=>?_) fun c z H' s'=>z H' (s1.trans s'));refine qh Oc Ob σ H2 ρ _ ((R.same s1).same s2) (Res.zP (Res.zS k) (fun u _ k H3 s3=>?_) fun c z H' s'=>z H' ((s1.trans s2).trans s'));obtain⟨d',e,k⟩:=Res.zG k;have R3:=((R.same s1).same s2).same s3;refine hp Oc Ob H3 v d l u d' Q R3.oh ((r.va R.oh).same (s2.trans s3)) e fun w H' s4 rw'=>?_;exact k w H' (((s1.trans s2).trans s3).trans s4) (rw'.from ((s1.trans s2).trans s3))
def cutD{α:Type}(xs:List α)(lo hi:Option Int):List α:=(xs.drop (HT.sIx xs.length 0 lo)).take (HT.sIx xs.length xs.length hi-HT.sIx xs.length 0 lo)
theorem zR3(r:Reps H O vs ds)(lo hi:Option Int):Reps H O (cutV vs lo hi) (cutD ds lo hi):=by unfold cutV cutD;rw[r.length];exact(r.drop _).take _
def slL:D->Option Int->Option Int->Option D
 |.list ds,lo,hi=>some (.list (cutD ds lo hi))
 |_,_,_=>none
def slD:D->Option Int->Option Int->Option D
 |.list ds,lo,hi=>some (.list (cutD ds lo hi))
 |.tuple ds,lo,hi=>some (.tuple (cutD ds lo hi))
 |_,_,_=>none
theorem wN9{K:KFr}:PrS (rSlL K) .new slL:=by
 intro Oc Ob H x dx lo hi d Q oh va e k;cases dx with
 |list ds=>cases e;obtain⟨a,ys,rfl,rd,rs⟩:=va.list;exact⟨a,ys,rfl,.inl rd,fun p hp=>k _ _ (Same.new hp) (wB (Same.refl H) hp (zR3 rs lo hi))⟩
 |_=>cases e
theorem wP7{α:Type}{xs:List α}{lo:Option Int}(h1:HT.sIx xs.length 0 lo=0)(h2:HT.sIx xs.length xs.length hi=xs.length):cutD xs lo hi=xs:=by unfold cutD;rw[h1,h2,List.drop_zero,Nat.sub_zero,BU]
theorem wC1{K:KFr}:PrS (fun x lo hi H Q=>rSlL K x lo hi H Q\/rSlT K x lo hi H Q\/rSlTA K x lo hi H Q) .cl slD:=by
 intro Oc Ob H x dx lo hi d Q oh va e k;cases dx with
 |list ds=>cases e;obtain⟨a,ys,rfl,rd,rs⟩:=va.list;exact .inl ⟨a,ys,rfl,.inl rd,fun p hp=>k _ _ (Same.new hp) (VR.clean (wB (Same.refl H) hp (zR3 rs lo hi)) oh)⟩
 |tuple ds=>
  cases e;rcases va with va|⟨_,_,_,_,ez,_⟩;cases va with
  |@tup a ys _ rd n rs=>by_cases hw:HT.sIx ys.length 0 lo=0/\HT.sIx ys.length ys.length hi=ys.length;refine .inr (.inr ⟨a,ys,rfl,.inl rd,hw.1,hw.2,k _ H (Same.refl H) ?_⟩);rw[wP7 (by rw[<-rs.length];exact hw.1) (by rw[<-rs.length];exact hw.2)];exact .tup rd n rs;exact .inr (.inl ⟨a,ys,rfl,.inl rd,hw,fun p hp=>k _ _ (Same.new hp) (cZ oh hp (zR3 rs lo hi))⟩)
  cases ez
 |_=>cases e
theorem bG{lo hi:Option Expr}(he:RE C mda e me)(hl:RO C lo ml)(hu:RO C hi mh):RE C .new (.Subscript e (.Slice lo hi none p2) pos) (eS slL me ml mh):=zJ6 yB7 wN9 he hl hu
theorem yT1{lo hi:Option Expr}(he:RE C mda e me)(hl:RO C lo ml)(hu:RO C hi mh):RE C .cl (.Subscript e (.Slice lo hi none p2) pos) (eS slD me ml mh):=zJ6 (yB7.or (wA1.or wM8)) wC1 he hl hu
theorem yF4{fr:Bool}(i:Nat){x:Str}{a:Expr}{apos pos:Pos}(ha:RE C md a ma)(hN:autoParam (C.X.N[i]?=some x) Ey)(ho:autoParam (C.om.contains i=true) Ey)(hv:autoParam (Vis C.X.env.scope x) Eu)(hd:autoParam ((x==("__debug__":Str))=false) Ex)(hcd:autoParam ((x==("__classdict__":Str))=false) Ex)(hbase:autoParam (attributeBase (.Name x p') "extend" C.X.env (eval (.Name x p') C.X.env)=eval (.Name x p') C.X.env) Ey)(hfew:((backTo cpos (starEach [a] C.X.env)).all (fun x=>!x.1)&&(backToKw cpos (keywordEach [] C.X.env)).all (fun x=>x.1.isSome) &&decide ([a].length+([]:List Keyword).length+(if ([]:List Keyword).isEmpty then 0 else 1)<30))=true:=by rfl)(hline:autoParam ((apos.endLine==cpos.line)=true) Ey)(hs:autoParam (starEach [a] C.X.env=(false,eval a C.X.env)::starEach [] C.X.env) Ey)(hplain:autoParam ((backTo cpos (starEach [] C.X.env)).any (·.1)=false) Ey)(hsw:autoParam (swapsWith (.Call (.Attribute (.Name x p') "extend" apos) [a] [] cpos) none pos.line C.X.env=pure false) Ey):RS C fr (.Expr (.Call (.Attribute (.Name x p') "extend" apos) [a] [] cpos) pos) (sM i extD (aC ma aN)):=by
 obtain⟨t,p,q⟩:=ha;refine⟨_,jW (bK BM PySem.F.slot_list_extend PySem.F.type_list_extend wL5 (qI hN hv hd hcd) (yF p xP hs) hbase hfew hline hs hplain) hsw,fun Oc Ob σ H ρ E R h=>?_⟩;obtain⟨d,ed,k⟩:=uR (Res.zS h);obtain⟨xd,ex,k⟩:=Res.zG (Res.zS k);obtain rfl:=uJ ex;obtain⟨v,qv,l,ys,ds,rfl,e2,e3,e4,e5⟩:=R.own i _ ed (wS ho);cases e2;refine⟨_,qv,.inl ⟨rfl,_,SqL.of e3⟩,q Oc Ob σ H ρ _ R (Res.zP (Res.zS (Res.zS k)) (fun ad _ k w H' s r'=>?_) fun c z H' s=>z H' (Same.frm s))⟩;obtain⟨ds',eg,k⟩:=Res.zG (Res.zS (show((Res.lft (extD xd [ad])).bind fun ds=>Res.ok (Out.nx (ρ.set i (some (.list ds))))).post _ _ from k));obtain⟨zs,e1,eg⟩:=AI.mp (show(seqD ad).bind (fun ys=>if xd.length+ys.length<=sizeLine then some (xd++ys)else none)=some ds' from eg);split at eg;rename_i hl;cases eg;have va:=r'.va R.oh;have fin:∀(b:Addr)(ws:C8),(Rd H' b (.lst ws)\/Rd H' b (.tup ws))->Reps H' (Uni Oc Ob) ws zs->rExtR (.ref l) [.ref b] H' fun _ H1=>E.nx σ H1:=fun b ws rd rs=>by refine⟨l,b,ys,ws,rfl,rfl,s _ _ e3,rd,by rw[e5.length,rs.length];exact hl,?_⟩;refine k _ _ Ob ((R.same s).write (wS ho) ed qv (s _ _ e3) e4 ((e5.same s).append rs)) (fun b o e n=>?_) fun b z=>.inl z;rw[zJ (fun z=>n (by subst z;exact e4))];exact s b o e
 cases ad with
 |list ds'=>cases e1;obtain⟨b,ws,rfl,rd,rs⟩:=va.list;exact fin b ws (.inl rd) rs
 |tuple ds'=>cases e1;obtain⟨b,ws,rfl,rd,rs⟩:=va.tuple;exact fin b ws (.inr rd) rs
 |_=>cases e1
 cases eg
section
variable (a:B5)(l h:Ev->Res (Option Int))(ρ:Ev)(f:D->Option Int->Option Int->Option D)
theorem vY1:eS f a l h ρ=(a ρ).bind fun x=>(l ρ).bind fun lo=>(h ρ).bind fun u=>Res.lft (f x lo u):=rfl
theorem vX7:oN ρ=.ok none:=rfl
theorem vZ7:oS a ρ=(a ρ).bind fun d=>(Res.lft (isI d)).bind fun i=>.ok (some i):=rfl
theorem wI3(i:Int):isI (.int i)=some i:=rfl
theorem wG3(ds:D0)(lo hi:Option Int):slL (.list ds) lo hi=some (.list (cutD ds lo hi)):=rfl
theorem vZ3(ds:D0)(lo hi:Option Int):slD (.list ds) lo hi=some (.list (cutD ds lo hi)):=rfl
end
theorem wZ6{α β:Type}(g:α->β)(xs:List α)(lo hi:Option Int):cutD (xs.map g) lo hi=(cutD xs lo hi).map g:=by unfold cutD;rw[Aa,Es,Et]
theorem yK9{α:Type}(xs:List α)(k:Nat):cutD xs (some (k:Int)) none=xs.drop k:=by unfold cutD;rw[HT.wX8,HT.yZ8];by_cases h:k<=xs.length;rw[DB h,Bd (by rw[Bs];rfl')];rw[Nat.min_eq_right (by rfl'),De (show xs.length<=k by rfl')];simp
end L2.L3
namespace L2.L3
open PySem
theorem yY3(i:Int):∀ns:C6,(ns.map PyData.int).any (fun z=>eqF z (.int i))=ns.contains i
 |[]=>rfl
 |n::ns=>by rw[AB,CM,yY3 i ns,BZ];congr 1;show(n==i)=(i==n);rw[Cq];simp only[beq_iff_eq];exact eq_comm
theorem zA6:∀ns:C6,(ns.map PyData.int).all flD=true
 |[]=>rfl
 |n::ns=>by rw[AB,DZ,zA6 ns];rfl
theorem xR1(neg:Bool)(i:Int)(ns:C6):inD neg (.int i) (lI ns)=some (if neg then !ns.contains i else ns.contains i):=by unfold inD;show(if flD (.int i)=true/\(ns.map PyData.int).all flD=true then _ else none)=_;rw[Ae ⟨rfl,zA6 ns⟩,yY3]
theorem vY7(neg:Bool)(i:Int)(ns:C6):inD neg (.int i) (tI ns)=some (if neg then !ns.contains i else ns.contains i):=by unfold inD;show(if flD (.int i)=true/\(ns.map PyData.int).all flD=true then _ else none)=_;rw[Ae ⟨rfl,zA6 ns⟩,yY3]
theorem xA5(a b:Bool):eqD (.bool a) (.bool b)=some (a==b):=by unfold eqD;rw[Ae ⟨rfl,rfl⟩,PyData.eqv]
theorem xZ7{ns:C6}(h:ns≠[]):max1D [tI ns]=some (.int (maxL ns)):=by unfold max1D;simp only[nsD,seqD,AQ,intsOf_map];rw[An h]
theorem yB3{ns:C6}(h:ns≠[]):max1D [lI ns]=some (.int (maxL ns)):=by unfold max1D;simp only[nsD,seqD,AQ,intsOf_map];rw[An h]
theorem zK2{a b:Nat}(ha:a<=1000)(hb:b<=1000):rng2 [.int (a:Int),.int (b:Int)]=some ((List.range (b-a)).map fun(i:Nat)=>PyData.int ((a+i:Nat):Int)):=by unfold rng2;simp only;rw[Ae ⟨by rfl',by rfl',by rfl',by rfl'⟩];congr 1;rw[show((b:Int)-(a:Int)).toNat=b-a by rfl'];refine Bb fun i _=>?_;congr 1
theorem uC{n i:Nat}{f:Nat->D}{d:D}(h:((List.range n).map f)[i]?=some d):i<n/\d=f i:=by rw[Al]at h;by_cases hi:i<n;rw[AZ hi]at h;cases h;exact⟨hi,rfl⟩;rw[Cj (by simpa using hi)]at h;cases h
theorem vL{α β:Type}{g:D->Ev->Option Ev}{b:B6}{k:Out->Res α}{k':α->Res β}{R:Res β}(P:Nat->Ev->Prop)(h0:P 0 ρ)(hs:∀(i:Nat)d ρ,ds[i]?=some d->P i ρ->∃ρ1 ρ2,g d ρ=some ρ1/\b ρ1=.ok (.nx ρ2)/\P (i+1) ρ2)(hd:∀ρ',P ds.length ρ'->(k (.nx ρ')).bind k'=R):((forM g b ds ρ).bind k).bind k'=R:=by obtain⟨ρ',e,p⟩:=uM P ds ρ h0 hs;rw[e,Res.bind_ok];exact hd ρ' p
theorem wA2{α β:Type}{t:B7}{b:B6}{fuel:Nat}{k:Out->Res α}{k':α->Res β}{R:Res β}(P:Nat->Ev->Prop)(n:Nat)(hf:n<fuel)(h0:P 0 ρ)(hs:∀i ρ,i<n->P i ρ->t ρ=.ok true/\∃ρ2,b ρ=.ok (.nx ρ2)/\P (i+1) ρ2)(he:∀ρ,P n ρ->t ρ=.ok false)(hd:∀ρ',P n ρ'->(k (.nx ρ')).bind k'=R):((whM t b fuel ρ).bind k).bind k'=R:=by obtain⟨ρ',e,p⟩:=yN4 P n fuel ρ h0 hs he hf;rw[e,Res.bind_ok];exact hd ρ' p
end L2.L3
namespace L2
open PySem PySem.Spec PyProof.Rows
end L2
namespace L2.L3
open PySem PySem.Spec PyProof.Rows
variable [CN]
end L2.L3
namespace L2
open PySem PySem.Spec PyProof.Rows
end L2
namespace L2.L3
open PySem PySem.Spec PyProof.Rows
variable [CN]
end L2.L3
namespace L2.L3
open PySem
theorem zW5{m:Int}(h0:0<=m)(h1:m<=1000):rng2 [.int 1,.int (m+1)]=some ((List.range m.toNat).map fun(i:Nat)=>PyData.int ((i:Int)+1)):=by unfold rng2;simp only;rw[Ae ⟨by rfl',by rfl',by rfl',by rfl'⟩];congr 1;rw[show(m+1-1).toNat=m.toNat by rfl'];refine Bb fun i _=>?_;congr 1;rfl'
theorem xG3{n:Nat}(h:n<=999):rng1 [.int ((n:Int)+1)]=some ((List.range (n+1)).map fun(i:Nat)=>PyData.int (i:Int)):=by have:=gH (n:=n+1) (by rfl');rw[show((n+1:Nat):Int)=(n:Int)+1 by rfl']at this;exact this
theorem qZ{xs:C6}{i:Int}{j:Nat}(e:i=(j:Int))(h:j<xs.length):atI (xs.map PyData.int) i=some (.int (xs.getD j 0)):=by rw[e,zZ3,zV3 h];rfl
theorem yE3{xs:C6}{n:Nat}(h:xs.length=n+1):atI (xs.map PyData.int) (-1)=some (.int (xs.getD n 0)):=by rw[zZ3];unfold atI ixN;rw[h,An (by decide),Ae (by rfl')];show(xs[((-1:Int)+((n+1:Nat):Int)).toNat]?).map _=_;rw[show((-1:Int)+((n+1:Nat):Int)).toNat=n by rfl',Ag (by rfl'),Ax,Ag (by rfl')];rfl
theorem xV6{xs:C6}(h:xs.length+ys.length<=1000):catL (lI xs) (lI ys)=some (lI (xs++ys)):=by unfold catL;simp only;rw[Aa,Aa,Ae (BL (small1000 h))];simp only[lI,AJ]
theorem xZ6(xs:C6):sumD [lI xs]=some (.int xs.sum):=by unfold sumD;simp only[intsOf_map,Bn]
end L2.L3
namespace L2.L3
open PySem
variable [CN]
section
variable {X:Cx}
theorem yH7(hc:X.calm=true):CallR X (.type "tuple") (fun xs H Q=>∃(p:Addr)(j:Int),xs=[.ref p]/\H p=some (.rng 0 j)/\-(2^62)<=j/\j.toNat<=1000000/\∀l,H l=none->Q (.ref l) (upd H l (.tup ((List.range j.toNat).map fun(i:Nat)=>V.int (i:Int))))):=by
 intro EA s σ H xs us Q I r h;obtain⟨p,j,rfl,hp,hs,hj,q⟩:=h;obtain⟨u,rfl,ru⟩:=vals1 r;cases ru;obtain⟨t,u,v,e⟩:=I.hok p _ hp;refine xL6 (n:=j.toNat) (I.ok.hd hc) e (small_one (by rfl') (by rfl') hs (by rfl')) ?_ (by rfl') fun h' tk acc' hk hacc=>?_;rw[rangeSize_one];split<;>rfl';have hv:Vals ((List.range j.toNat).map fun(i:Nat)=>V.int (i:Int)) acc'.toList:=by
  obtain⟨h1,h2⟩:=hacc;refine dR ?_ ?_;rw[Aa,Aq,BW,h1];intro i a b ha hb;rw[Al]at ha;have hi:i<j.toNat:=by have:=(AD.mp hb).1;rw[BW,h1]at this;exact this
  rw[AZ hi]at ha;cases ha;obtain⟨t,e⟩:=h2 i b (by simpa using hb);refine⟨t,?_⟩;rw[e];simp
 have hz:((List.range j.toNat).map fun(i:Nat)=>V.int (i:Int)).length<=sizeLine:=by rw[Aa,Aq];exact BL (Bo hj (by decide))
 have I1:Inv X EA σ H {s with heap:=h',toks:=tk}:=I.kept (t':=tk) hk;have I2:=I1.laid (t':=tk) (a:=h'.objs.size) (o:=.tup ((List.range j.toNat).map fun(i:Nat)=>V.int (i:Int))) (h':=h'.push {cls:=.type "tuple",data:=.seq acc'}) (fun b o e=>Am _ e) (Ac _) ⟨hz,acc'.toList,hv,by simpa using TupAt.new h' acc'⟩;exact⟨.ref h'.objs.size,_,I2,rfl,q _ (I1.hok.fresh (Ac _))⟩
end
def rangeT:List D->Option D
 |[.int j]=>if -(2^62)<=j/\j.toNat<=1000000 then some (.tuple ((List.range j.toNat).map fun(i:Nat)=>PyData.int (i:Int)))else none
 |_=>none
theorem yE6{a:Expr}{p pos2:Pos}(hl:C.X.mg "tuple"=none)(hm:C.X.mg "range"=none)(ha:RArg C false [a] ms)(hc:autoParam (C.X.calm=true) Ey)(hgl:autoParam (Gl C.X "tuple") Ey)(hg:autoParam (Gl C.X "range") Ey)(hs:autoParam (starEach [a] C.X.env=(false,eval a C.X.env)::starEach [] C.X.env) Ey)(hs2:autoParam (starEach [.Call (.Name "range" p2) [a] [] pos2] C.X.env=(false,eval (.Call (.Name "range" p2) [a] [] pos2) C.X.env)::starEach [] C.X.env) Ey)(hpl:autoParam ((backTo pos (starEach [] C.X.env)).any (·.1)=false) Ey)(hpl2:autoParam ((backTo pos2 (starEach [] C.X.env)).any (·.1)=false) Ey):RE C .cl (.Call (.Name "tuple" p) [.Call (.Name "range" p2) [a] [] pos2] [] pos) (eB rangeT ms):=by obtain⟨t,pa,q⟩:=ha;refine⟨_,dU (yH7 hc) hgl hl (by rfl) (yF (dU yW9 hg hm (by rfl) pa (by decide) (by decide) hs hpl2) xP hs2) (by decide) (by decide) hs2 hpl,fun Oc Ob σ H ρ Q R h=>q Oc Ob σ H ρ _ R (Res.zP (Res.zS h) (fun ds _ k vs H1 s1 r=>?_) fun _ z=>z)⟩;obtain⟨d,e,k⟩:=Res.zG k;unfold rangeT at e;split at e;split at e;rename_i hb;cases e;obtain⟨v,rfl,va⟩:=VAs.one r;obtain rfl:=va.int;refine⟨_,rfl,fun p hp=>⟨p,_,rfl,yU,hb.1,hb.2,fun l hl=>?_⟩⟩;exact k _ _ ((s1.trans (Same.new hp)).trans (Same.new hl)) (cZ (R.same (s1.trans (Same.new hp))).oh hl (yT9 _));cases e;cases e
theorem xU8{n:Nat}(h:n<=1000):rangeT [.int (n:Int)]=some (tI ((List.range n).map fun(i:Nat)=>(i:Int))):=by unfold rangeT;simp only;rw[Ae ⟨by rfl',by rfl'⟩];simp only[tI,Ar,Dk,AX]
section
variable {X:Cx}
end
end L2.L3
namespace L2.L3
open PySem PyProof.Rows
variable [CN]
section
variable {X:Cx}
theorem xO1:PGet X (fun x y H Q=>(∃i:Int,y=.int i/\0<=i)/\rIxL X.K x y H Q):=by
 intro EA s σ H x y v u Q I rx ry h;obtain⟨⟨i,hy,h0⟩,p,xs,i',z,rfl,hy',hq,he,q⟩:=h;subst hy;cases hy';cases rx;obtain⟨t,rfl⟩:=ry;obtain⟨its,r,pl,hz⟩:=I.list hq;obtain⟨j,h1,h2,h3,h4,h5⟩:=zN1 he;obtain⟨w,ew,rw'⟩:=r.get h2;have hl:=r.length;have hn:=line63;have fin:EP X EA σ Q w s:=⟨z,H,I,rw',q⟩;have hj:i.toNat=j:=by rw[seqIndex_of h0 h5]at h1;exact Ba h1
 exact wpAny_getItem_list pl.isList h0 (by rfl') (by rw[hj];simpa using ew) fin
end
section
variable {C:Ct}{fr:Bool}{md:Md}{e:Expr}{me:B5}{pos:Pos}
def atP(xd:D0):D->Option D
 |.int j=>if 0<=j then atI xd j else none
 |_=>none
def sJ0(i:Nat)(mk:B5)(f:D->D->Option D)(me:B5):B6:=fun ρ=>(eV i ρ).bind fun d=>(Res.lft (lstD d)).bind fun xd=>(mk ρ).bind fun k=>(Res.lft (atP xd k)).bind fun old=>(me ρ).bind fun v=>(Res.lft (f old v)).bind fun w=>(Res.lft (setD xd k w)).bind fun ds=>.ok (.nx (ρ.set i (some (.list ds))))
theorem xW4(i:Nat){x:Str}{op:Operator}{r:R2}{f:D->D->Option D}{k:Expr}{mk:B5}{mdk:Md}(hop:OpR C.X (inplaceOp op) r)(hp:Pr2 r .cl f)(hk:RE C mdk k mk)(he:RE C md e me)(hN:autoParam (C.X.N[i]?=some x) Ey)(ho:autoParam (C.om.contains i=true) Ey)(hv:autoParam (Vis C.X.env.scope x) Eu)(hd:autoParam ((x==("__debug__":Str))=false) Ex)(hcd:autoParam ((x==("__classdict__":Str))=false) Ex)(ha:autoParam (∀ov iv new,augStore k ov iv new=(do holding [new,ov,iv] (setItem ov iv new);release [new,ov,iv] [];pure .next)) xD3._auto_1):RS C fr (.AugAssign (.Subscript (.Name x p') k p2) op e pos) (sJ0 i mk f me):=by
 obtain⟨t,p,q⟩:=he;obtain⟨t',p',q'⟩:=hk;refine⟨_,wP6 (qI hN hv hd hcd) p' xO1 p (tip:=r) hop yL9 ha,fun Oc Ob σ H ρ E R h=>?_⟩;obtain⟨d,ed,k⟩:=uR (Res.zS h);obtain⟨xd,ex,k⟩:=Res.zG (Res.zS k);obtain rfl:=uJ ex;obtain⟨w',qv,l,ys,ds,rfl,e2,e3,e4,e5⟩:=R.own i _ ed (wS ho);cases e2;refine⟨_,qv,q' Oc Ob σ H ρ _ R (Res.zP (Res.zS k) (fun dk _ k kv H2 s2 rk=>?_) fun c z H2 s2=>z H2 (Same.frm s2))⟩;obtain⟨old,eo,k⟩:=Res.zG (Res.zS k);cases dk with
 |int j=>have eo:(if 0<=j then atI xd j else none)=some old:=eo;split at eo;rename_i h0;obtain rfl:=(rk.va R.oh).int;obtain⟨vo,evo,ro⟩:=zJ8 (e5.same s2) eo;refine⟨⟨j,rfl,h0⟩,l,ys,j,vo,rfl,rfl,.inl (.inl (s2 _ _ e3)),evo,?_⟩;refine q Oc Ob σ H2 ρ _ (R.same s2) (Res.zP (Res.zS k) (fun dv _ k v H3 s3 rv=>?_) fun c z H3 s3=>z H3 (Same.frm (s2.trans s3)));obtain⟨w,ew,k⟩:=Res.zG (Res.zS k);refine hp Oc Ob H3 vo v old dv w _ (R.same (s2.trans s3)).oh (.inl (ro.same s3)) (rv.va (R.same s2).oh) ew fun wv H4 s4 rw'=>?_;obtain⟨ds',eg,k⟩:=Res.zG (Res.zS k);have s5:=(s2.trans s3).trans s4;have eg:(ixN xd.length j).map (fun n=>xd.set n w)=some ds':=eg;obtain⟨n,en,rfl⟩:=Az.mp eg;have hl:=e5.length;refine⟨l,ys,j,n,rfl,rfl,s5 _ _ e3,by rw[hl];exact en,?_⟩;refine k _ _ Ob ((R.same s5).write (wS ho) ed qv (s5 _ _ e3) e4 (Reps.set rw' n (e5.same s5))) (fun b o e n=>?_) fun b z=>.inl z;rw[zJ (fun z=>n (by subst z;exact e4))];exact s5 b o e;cases eo
 |_=>cases eo
theorem wJ2(i:Nat)(mk:B5)(f:D->D->Option D)(me:B5)(ρ:Ev):sJ0 i mk f me ρ=(eV i ρ).bind fun d=>(Res.lft (lstD d)).bind fun xd=>(mk ρ).bind fun k=>(Res.lft (atP xd k)).bind fun old=>(me ρ).bind fun v=>(Res.lft (f old v)).bind fun w=>(Res.lft (setD xd k w)).bind fun ds=>.ok (.nx (ρ.set i (some (.list ds)))):=rfl
theorem xW8{xd:D0}{j:Nat}{d:D}(h:xd[j]?=some d):atP xd (.int (j:Int))=some d:=by show(if 0<=(j:Int)then atI xd (j:Int)else none)=_;rw[Ae (by rfl'),jT h]
end
section
variable {X:Cx}{EA:A9}{σ:St}{H:Hp}{s:Shared}{h':Heap}
theorem turned2{t':Nat}{e it:Addr}(I:Inv X EA σ H s)(k:∀b o,b≠e->b≠it->s.heap.get? b=some o->h'.get? b=some o)(fe:FpOk X EA H e)(fi:FpOk X EA H it):Inv X EA σ H {s with heap:=h',toks:=t'}:=by
 have nit:∀b u,H b=some u->b≠e/\b≠it:=fun b u q=>⟨fun z=>(by rw[z,fe.1]at q;cases q),fun z=>by rw[z,fi.1]at q;cases q⟩;refine I.step (g':=s.gens) (d':=s.drawn) (ch:=[e,it]) (fun b hb=>?_) (fun b o _ _ hc q _=>k b o (fun z=>hc (by simp[z])) (fun z=>hc (by simp[z])) q) (fun b o _ _ hc q _=>⟨o.slots,k b o (fun z=>hc (by simp[z])) (fun z=>hc (by simp[z])) q⟩) (fun _ _ _ _ n=>n) (fun b o hc q=>⟨o,k b o (fun z=>hc (by simp[z])) (fun z=>hc (by simp[z])) q⟩) (fun _ _ q=>q) (fun _ _ _ q=>q) (fun b ps q=>⟨#[],by rw[q];simp⟩) (fun m hm=>?_) (fun b u q=>?_) I.bare;have z:b=e\/b=it:=by simpa using hb
 rcases z with rfl|rfl;obtain⟨f0,f1,f2,f3,f4,f5⟩:=fe;exact⟨f3,f1,f4,f5⟩;obtain⟨f0,f1,f2,f3,f4,f5⟩:=fi;exact⟨f3,f1,f4,f5⟩;obtain⟨o,es,ep,ho,r⟩:=hm;exact⟨o,es,ep,k _ o (Bv fe.2.1) (Bv fi.2.1) ho,r⟩;refine(I.hok b u q).stay (fun c v hc q'=>?_) (fun _ q=>q) fun _ _ q=>q
 have nc:c≠e/\c≠it:=by rcases hc with z|z;rw[z];exact nit b u q;exact nit c _ z
 exact k c v nc.1 nc.2 q'
end
def Ite(K:KFr)(a:Addr):It:=⟨fun i H=>∃xs x,SqL K H a xs/\xs[i]?=some x,fun i H x H'=>∃t y,H t=none/\x=.ref t/\H'=upd H t (.tup [.int (i:Int),y])/\∀xs,SqL K H a xs->xs[i]?=some y,fun i H=>∃xs,SqL K H a xs/\xs.length<=i⟩
theorem xF7{w:World}{K:KFr}{x1:Nat}(a e it:Addr)(hne:e≠it):Turn P w K (.Tuple es x1 tp) (Ite K a) [e,it] e (fun i h=>(∃old,IsEnum h e it i old)/\h.IsListIter it a i) where
 mem:=by simp
 obj:=fun i h st b hb=>by
  obtain⟨⟨old,he⟩,o,ho,hc,hd⟩:=st
  have z:b=e\/b=it:=by simpa using hb
  rcases z with rfl|rfl
  exact⟨_,he,fun v z=>by cases z⟩
  exact⟨o,ho,fun v z=>by rw[hd]at z;cases z⟩
 keep:=fun i h h' st k=>⟨st.1.elim fun old he=>⟨old,k e (by simp) _ he⟩,st.2.at fun o q=>k it (by simp) o q⟩
 item:=by
  intro X hP hw hK hc i EA s σ H E I hf st hg
  subst hP hw hK
  obtain⟨xs,x,hq,hx⟩:=hg
  obtain⟨its,rv,p,hz⟩:=I.list hq
  obtain⟨u,hu,ru⟩:=rv.get hx
  obtain⟨⟨old,he⟩,hit⟩:=st
  have fe:=hf e (by simp)
  have fi:=hf it (by simp)
  refine wpAny_pyNext_enum_item he hit p.isList (x:=u) (by simpa using hu) hne fun h' ho hit' hT hsz hk=>⟨_,rfl,?_⟩
  have hfr:H s.heap.objs.size=none:=I.hok.fresh (Ac _)
  have I1:Inv X EA σ (upd H s.heap.objs.size (.tup [.int (i:Int),x])) {s with heap:=s.heap.push {cls:=.type "tuple",data:=.seq #[.int i s.toks,u]},toks:=s.toks+1}:=
   I.laid (t':=s.toks+1) (fun b o q=>Am _ q) (Ac _) ⟨by show 2<=sizeLine;decide,[.int i s.toks,u],.cons ⟨_,rfl⟩ (.cons ru .nil),TupAt.new _ _⟩
  have lte:e<s.heap.objs.size:=Au he
  have lti:it<s.heap.objs.size:=by obtain⟨_,q,_⟩:=hit;exact Au q
  have fe1:FpOk X EA (upd H s.heap.objs.size (.tup [.int (i:Int),x])) e:=⟨by rw[zJ (AW lte)];exact fe.1,fe.2⟩
  have fi1:FpOk X EA (upd H s.heap.objs.size (.tup [.int (i:Int),x])) it:=⟨by rw[zJ (AW lti)];exact fi.1,fi.2⟩
  have I2:Inv X EA σ (upd H s.heap.objs.size (.tup [.int (i:Int),x])) {s with heap:=h',toks:=s.toks+1}:=by
   refine turned2 (s:={s with heap:=s.heap.push {cls:=.type "tuple",data:=.seq #[.int i s.toks,u]},toks:=s.toks+1}) (h':=h') (t':=s.toks+1) I1 (fun b o b1 b2 q=>?_) fe1 fi1
   by_cases z:b=s.heap.objs.size
   subst z
   have q:(s.heap.push {cls:=.type "tuple",data:=.seq #[.int i s.toks,u]}).get? s.heap.objs.size=some o:=q
   rw[AO _ rfl]at q
   rw[hT];exact q
   have q:(s.heap.push {cls:=.type "tuple",data:=.seq #[.int i s.toks,u]}).get? b=some o:=q
   rw[Heap.get?_push_ne _ _ _ z]at q
   exact hk b o b1 b2 q
  refine wpAny_letOwnedTupleGo_enum ho fun h2 he2 hs2=>?_
  refine⟨.ref s.heap.objs.size,_,turned2 (s:={s with heap:=h',toks:=s.toks+1}) (h':=h2) (t':=s.toks+1) I2 (fun b o b1 b2 q=>(hs2.2 b b1).trans q) fe1 fi1,rfl,⟨_,x,hfr,rfl,rfl,fun ys hy=>by rw[I.yK8 hy hq];exact hx⟩,⟨⟨_,he2⟩,hit'.at fun o q=>(hs2.2 it hne.symm).trans q⟩,fun b hb=>?_⟩
  have z:b=e\/b=it:=by simpa using hb
  rcases z with rfl|rfl
  exact fe1.1
  exact fi1.1
 done:=by
  intro X hP hw hK hc i EA s σ H E I hf st hg
  subst hP hw hK
  obtain⟨xs,hq,hx⟩:=hg
  obtain⟨its,rv,p,hz⟩:=I.list hq
  obtain⟨⟨old,he⟩,hit⟩:=st
  have hl:=rv.length
  exact wpAny_pyNext_enum_end (I.ok.hd hc) he hit p.isList (by simp;rfl') fun h' eb=>⟨rfl,turned2 (t':=s.toks) I (fun b o _ b2 q=>eb b o b2 q) (hf e (by simp)) (hf it (by simp))⟩
 self:=fun _ _ _ _ _ st h=>st.1.elim fun old he=>wpAny_pyIter_enum he h
end L2.L3
namespace PySem
section
variable {prog:Program}{w:World}{A:Around}{E:A8}{s:Shared}
end
end PySem
namespace L2.L3
open PySem PyProof.Rows
variable [CN]
def WalksO(Oc:Wd)(Ob:C2)(J:It)(H1:Hp)(ds:D0):Prop:=∀(H2:Hp)(Ob2:C2),Frm Ob H1 H2->(∀b,Ob2 b->Ob b\/H1 b=none)->(∀a,Oc a\/Ob2 a->H2 a≠none)->∀i,(∀d,ds[i]?=some d->J.go i H2/\∀x H3,J.yld i H2 x H3->Same H2 H3/\Rep H3 (Uni Oc Ob2) x d)/\(ds.length<=i->J.stop i H2)
def RIo(C:Ct)(tg iter:Expr)(m:Ev->Res (D0)):Prop:=∃wi,PI C.X tg iter wi/\∀(Oc:Wd)(Ob:C2)(σ:St)(H:Hp)(ρ:Ev)(R:It->Hp->Prop),Rel Oc Ob C.om C.ln σ H ρ ->(m ρ).post (fun ds=>∀J H1,Same H H1->WalksO Oc Ob J H1 ds->R J H1) (fun c=>∀H',Same H H'->C.XE c H')->wi σ H R
section
variable {C:Ct}{fr:Bool}{body:List Stmt}{m:B6}{mi:Ev->Res (D0)}{g:D->Ev->Option Ev}{pos:Pos}
theorem wN4{iter:Expr}(hi:RIo C tg iter mi)(hg:RG C tg g)(hb:RSs C fr body m)(hp:autoParam (PassesOwn (model C.X.prog C.X.w) C.X.A C.X.env C.X.xe) autoK13._auto_1)(hc:autoParam (C.X.calm=true) Ey)(hs:autoParam (∀x,foldedSetIterable iter C.X.env x=pure x) Ew):RS C fr (.For tg iter body [] pos) (sF mi g m):=by
 obtain⟨wi,pi,qi⟩:=hi;obtain⟨tg',pg,qg⟩:=hg;obtain⟨tb,pb,qb⟩:=hb;refine⟨_,zS5 hp hc pi pg pb hs,fun Oc Ob σ H ρ E R h=>qi Oc Ob σ H ρ _ R (Res.zP (Res.zS h) (fun ds _ k J H1 s1 wk=>?_) fun c z H' s=>z H' (Same.frm s))⟩;refine⟨fun i mm σ' H'=>mm=ds.length-i/\i<=ds.length/\∃ρi Obi,Rel Oc Obi C.om C.ln σ' H' ρi/\Frm Ob H1 H'/\(∀b,Obi b->Ob b\/H1 b=none)/\SPost C fr Oc Obi H' E (forM g m (ds.drop i) ρi),⟨_,rfl,Cb _,ρ,Ob,R.same s1,Same.frm (Same.refl _),fun b z=>.inl z,SPost.same s1 k⟩,?_⟩;rintro i mm σ2 H2 ⟨rfl,hi,ρi,Obi,R2,f2,sb2,k2⟩;obtain⟨w1,w2⟩:=wk H2 Obi f2 sb2 R2.oh i;by_cases hlt:i<ds.length;obtain⟨go,yl⟩:=w1 ds[i] (Ag hlt);have ed:ds.drop i=ds[i]::ds.drop (i+1):=Dw hlt;rw[ed,forM]at k2;obtain⟨ρ1,e1,k2⟩:=Res.zG (Res.zS k2);refine .inr ⟨go,fun σ' H'=>∃m',m'<ds.length-i/\(m'=ds.length-(i+1)/\i+1<=ds.length/\∃ρi Obi,Rel Oc Obi C.om C.ln σ' H' ρi/\Frm Ob H1 H'/\(∀b,Obi b->Ob b\/H1 b=none)/\SPost C fr Oc Obi H' E (forM g m (ds.drop (i+1)) ρi)),fun _ _ z=>z,fun x H3 hy=>?_⟩;obtain⟨s3,rx⟩:=yl x H3 hy;refine qg Oc Obi σ2 H3 ρi ρ1 x _ _ (R2.same s3) rx e1 fun σ3 R3=>?_;have k3:=SPost.same s3 (show SPost C fr Oc Obi H2 E _ from k2);refine qb Oc Obi σ3 H3 ρ1 _ R3 (Res.zP (Res.zS k3) (fun o _ k4=>?_) fun _ z=>z);cases o with
 |rt d=>exact k4
 |nx ρ2=>intro σ4 H4 Ob4 R4 f4 sb4;have f3:Frm Ob H1 H3:=fun b o e n=>s3 b o (f2 b o e n);refine⟨_,by rfl',rfl,hlt,ρ2,Ob4,R4,f3.trans sb2 f4,fun b z=>(sb4 b z).elim (sb2 b) fun z=>f3.none z,SPost.step f4 sb4 k4⟩
 have ei:i=ds.length:=by rfl'
 subst ei;rw[CU]at k2;exact .inl ⟨w2 (Ac _),k2 σ2 H2 Obi R2 (Same.frm (Same.refl _)) fun b z=>.inl z⟩
def enumD(ds:D0):D0:=(List.range ds.length).map fun(i:Nat)=>PyData.tuple [.int (i:Int),ds.getD i .none]
theorem zF4{K:KFr}{a:Addr}{ys:C8}(r:Rd H1 a (.lst ys))(n:¬Ob a)(rs:Reps H1 (Uni Oc Ob) ys ds):WalksO Oc Ob (Ite K a) H1 (enumD ds):=by
 intro H2 Ob2 f s oh i;have r2:Rd H2 a (.lst ys):=jX r fun o e=>f a o e n;have rs2:=rs.step f s;have le:(enumD ds).length=ds.length:=by unfold enumD;simp
 refine⟨fun d e=>?_,fun h=>⟨ys,.inl r2,by rw[rs2.length];rw[le]at h;exact h⟩⟩;unfold enumD at e;rw[Al]at e;obtain⟨j,ej,rfl⟩:=Az.mp e;have hi:i<ds.length:=by have:=(AD.mp ej).1;simpa using this
 rw[AZ hi]at ej;cases ej;have ed:ds[i]?=some (ds.getD i .none):=by rw[Ax,Ag hi];rfl
 obtain⟨v,ev,rv⟩:=rs2.get ed;refine⟨⟨ys,v,.inl r2,ev⟩,fun x H3 hy=>?_⟩;obtain⟨t,y,ht,rfl,rfl,hy⟩:=hy;have:=hy ys (.inl r2);rw[ev]at this;cases this;exact⟨Same.new ht,cZ oh ht (.cons (.int _) (.cons rv .nil))⟩
end
end L2.L3
namespace PySem
section
variable {prog:Program}{w:World}{A:Around}{E:A8}{s:Shared}
end
end PySem
namespace L2.L3
open PySem PySem.Spec PyProof.Rows
variable [CN]
def absD:List D->Option D
 |[.int i]=>some (.int (if i<0 then -i else i))
 |_=>none
theorem zO4{d:D}(r:VAs Oc Ob H vs [d]):∃v,vs=[v]/\VA Oc Ob H v d:=by
 cases r with
 |cons h t=>cases t;exact⟨_,rfl,h⟩
theorem wF7:PrC (fun xs H Q=>∃i,xs=[.int i]/\Q (.int (if i<0 then -i else i)) H) .cl absD:=by intro Oc Ob H vs ds d Q oh r e k;unfold absD at e;split at e;cases e;obtain⟨v,rfl,h⟩:=zO4 r;exact⟨_,by rw[h.int],k _ H (Same.refl H) (Rep.int _)⟩;cases e
def PrMv(r:V->List V->Hp->VK->Prop)(g:List D->List D->Option (D0)):Prop:=∀(O:C2)(H:Hp)(l:Addr)(xs vs:C8)(xd ad ds':D0)(Q:VK),H l=some (.lst xs)->Reps H O xs xd->Reps H O vs ad->g xd ad=some ds'->(∀v xs',Reps H O xs' ds'->Q v (upd H l (.lst xs')))->r (.ref l) vs H Q
theorem wV4{fr:Bool}{pos:Pos}(i:Nat){x:Str}{id:String}{a:Expr}{apos:Pos}{r:V->List V->Hp->VK->Prop}{g:List D->List D->Option (D0)}(slot:Slot "list" name id)(hty:typeOf (.builtin id)=pure (.type "method_descriptor"))(hm:MtR C.X id r)(hp:PrMv r g)(ha:RArg C true (a::es) ms)(hN:autoParam (C.X.N[i]?=some x) Ey)(ho:autoParam (C.om.contains i=true) Ey)(hv:autoParam (Vis C.X.env.scope x) Eu)(hd:autoParam ((x==("__debug__":Str))=false) Ex)(hcd:autoParam ((x==("__classdict__":Str))=false) Ex)(hbase:autoParam (attributeBase (.Name x p') name C.X.env (eval (.Name x p') C.X.env)=eval (.Name x p') C.X.env) Ey)(hfew:((backTo cpos (starEach (a::es) C.X.env)).all (fun x=>!x.1)&&(backToKw cpos (keywordEach [] C.X.env)).all (fun x=>x.1.isSome) &&decide ((a::es).length+([]:List Keyword).length+(if ([]:List Keyword).isEmpty then 0 else 1)<30))=true:=by rfl)(hline:autoParam ((apos.endLine==cpos.line)=true) Ey)(hs:autoParam (starEach (a::es) C.X.env=(false,eval a C.X.env)::starEach es C.X.env) Ey)(hplain:autoParam ((backTo cpos (starEach es C.X.env)).any (·.1)=false) Ey)(hsw:autoParam (swapsWith (.Call (.Attribute (.Name x p') name apos) (a::es) [] cpos) none pos.line C.X.env=pure false) Ey):RS C fr (.Expr (.Call (.Attribute (.Name x p') name apos) (a::es) [] cpos) pos) (sM i g ms):=by obtain⟨t,p,q⟩:=ha;refine⟨_,jW (bK BM slot hty hm (qI hN hv hd hcd) p hbase hfew hline hs hplain) hsw,fun Oc Ob σ H ρ E R h=>?_⟩;obtain⟨d,ed,k⟩:=uR (Res.zS h);obtain⟨xd,ex,k⟩:=Res.zG (Res.zS k);obtain rfl:=uJ ex;obtain⟨v,qv,l,ys,ds,rfl,e2,e3,e4,e5⟩:=R.own i _ ed (wS ho);cases e2;refine⟨_,qv,.inl ⟨rfl,_,SqL.of e3⟩,q Oc Ob σ H ρ _ R (Res.zP (Res.zS k) (fun ad _ k vs H' s r'=>?_) fun c z H' s=>z H' (Same.frm s))⟩;obtain⟨ds',eg,k⟩:=Res.zG (Res.zS k);refine hp _ H' l ys vs xd ad ds' _ (s _ _ e3) (e5.same s) r' eg fun v xs' rx=>?_;refine k _ _ Ob ((R.same s).write (wS ho) ed qv (s _ _ e3) e4 rx) (fun b o e n=>?_) fun b z=>.inl z;rw[zJ (fun z=>n (by subst z;exact e4))];exact s b o e
def popD(xs:D0):List D->Option (D0)
 |[.int i]=>if 0<=i/\i<xs.length/\i<2^63 then some (xs.eraseIdx i.toNat)else none
 |_=>none
theorem wZ7:PrMv rPopAt popD:=by
 intro O H l xs vs xd ad ds' Q hl rx ra e k;unfold popD at e;split at e;split at e;rename_i i h;cases e;obtain⟨v,rfl,rv⟩:=Reps.one' ra;cases rv;have hlen:=rx.length;have hi:i.toNat<xs.length:=by rfl'
 refine⟨l,xs,i,i.toNat,xs[i.toNat],rfl,rfl,hl,by rfl',h.2.2,?_,Ag hi,k _ _ (Reps.erase _ rx)⟩;unfold seqIndex?;simp only[show ¬i<0 by rfl',if_false];rw[Ae (by simp;rfl')];cases e;cases e
section
variable {X:Cx}
end
def Its(lo st:Int)(n:Nat):It:=⟨fun i _=>i<n,fun i H x H'=>H'=H/\x=.int (lo+(i:Int)*st),fun i _=>n<=i⟩
theorem xJ4{w:World}{K:KFr}(it:Addr)(lo st:Int)(n:Nat):Turn P w K tg (Its lo st n) [it] it (fun i h=>IsRangeIter h it (lo+(i:Nat)*st) ((n:Int)-(i:Nat)) st) where
 mem:=by simp
 obj:=fun i h hs b hb=>by
  have e:b=it:=by simpa using hb
  subst e
  exact⟨_,hs,fun v z=>by
   have z':Data.fields _=Data.cell v:=z
   cases z'⟩
 keep:=fun i h h' hs k=>k it (by simp) _ hs
 item:=by
  intro X hP hw hK hc i EA s σ H E I hf hs hg
  subst hP hw hK
  obtain⟨f0,f1,f2,f3,f4,f5⟩:=hf it (by simp)
  have W:=Walks.range (prog:=X.prog) (w:=X.w) (I.ok.hd hc) it lo st n
  refine W.item i s _ _ hg hs fun v h' tk hv hs' kk=>?_
  obtain⟨t,rfl⟩:=hv
  have I1:Inv X EA σ H {s with heap:=h',toks:=tk}:=I.turned (fun b o hb e=>kk b o (by simpa using hb) e) f0 f1 f3 f4 f5
  exact⟨_,rfl,zC6 (s:={s with heap:=h',toks:=tk}) (n:="range_iterator") hs' rfl rfl (by decide) ⟨.int (lo+(i:Int)*st),H,I1,⟨t,rfl⟩,⟨rfl,rfl⟩,hs',fun b hb=>(hf b hb).1⟩⟩
 done:=by
  intro X hP hw hK hc i EA s σ H E I hf hs hg
  subst hP hw hK
  obtain⟨f0,f1,f2,f3,f4,f5⟩:=hf it (by simp)
  exact wpAny_pyNext_range_end (I.ok.hd hc) hs (by have:n<=i:=hg;rfl') fun h' eb=>⟨rfl,I.turned (t':=s.toks) (fun b o hb e=>eb b o hb e) f0 f1 f3 f4 f5⟩
 self:=fun _ _ _ _ _ hs h=>wpAny_pyIter_rangeiter hs h
def StepOk(i j k:Int):Prop:=k≠0/\k.natAbs.log2<9000/\Builtin.Range.small i j k=true/\0<=Builtin.Range.rangeSize i j k
instance(i j k:Int):Decidable (StepOk i j k):=by unfold StepOk;infer_instance
def iRng3(ta:TA):TI:=fun σ H R=>ta σ H fun vs H1=>∃i j k:Int,vs=[.int i,.int j,.int k]/\StepOk i j k/\R (Its i k (Builtin.Range.rangeSize i j k).toNat) H1
theorem xH7{X:Cx}{a b c:Expr}{ta:TA}{p:Pos}(hg:Gl X "range")(hm:X.mg "range"=none)(ha:PA X [a,b,c] ta)(hs:autoParam (starEach [a,b,c] X.env=[(false,eval a X.env),(false,eval b X.env),(false,eval c X.env)]) Ey)(hs2:autoParam (starEach [b,c] X.env=[(false,eval b X.env),(false,eval c X.env)]) Ey):PI X tg (.Call (.Name "range" p) [a,b,c] [] pos) (iRng3 ta):=by
 intro EA s σ H R I h;refine Call_ (aE I hg hm boot_range (Ce (thn (ha pos EA s σ H _ I h) fun us s1⟨vs,H1,I1,r1,q1⟩=>?_) (by rw[hs,hs2]) (by rw[hs2];rfl)));obtain⟨i,j,k,e,ok,q⟩:=q1;subst e;cases r1 with
 |cons r rr=>
  cases rr with
  |cons r' rr=>
   cases rr with
   |cons r'' rr=>
    cases rr;obtain⟨t,rfl⟩:=r;obtain⟨t',rfl⟩:=r';obtain⟨t'',rfl⟩:=r'';refine call_range_3 ok.1 ?_ (.inl (Dz ok.2.1));refine wpAny_pyIter_range (IsRange.new ..) ok.2.2.1 ?_;have I2:Inv X EA σ H1 {s1 with heap:=s1.heap.push {cls:=.type "range",data:=.fields #[.int i t,.int j t',.int k t'']},toks:=s1.toks}:=I1.kept fun b o e=>Am _ e;refine⟨(s1.heap.push {cls:=.type "range",data:=.fields #[.int i t,.int j t',.int k t'']}).objs.size,[(s1.heap.push {cls:=.type "range",data:=.fields #[.int i t,.int j t',.int k t'']}).objs.size],_,_,H1,rfl,I2.kept (t':=s1.toks) fun b o e=>Am _ e,xJ4 _ i k (Builtin.Range.rangeSize i j k).toNat,?_,fun b hb=>?_,q⟩;show IsRangeIter _ _ (i+((0:Nat):Int)*k) ((((Builtin.Range.rangeSize i j k).toNat:Nat):Int)-((0:Nat):Int)) k;have n0:=ok.2.2.2;rw[show i+((0:Nat):Int)*k=i by simp,show(((Builtin.Range.rangeSize i j k).toNat:Nat):Int)-((0:Nat):Int)=Builtin.Range.rangeSize i j k by rfl'];exact AO _ rfl;have e:b=(s1.heap.push {cls:=.type "range",data:=.fields #[.int i t,.int j t',.int k t'']}).objs.size:=by simpa using hb
    subst e;exact I2.fpOk (Ac _) (I2.hok.fresh (Ac _))
def rng3:List D->Option (D0)
 |[.int i,.int j,.int k]=>if StepOk i j k then some ((List.range (Builtin.Range.rangeSize i j k).toNat).map fun(m:Nat)=>PyData.int (i+(m:Int)*k))else none
 |_=>none
theorem xS5{lo st:Int}{n:Nat}:Walks Oc Ob (Its lo st n) H1 ((List.range n).map fun(i:Nat)=>PyData.int (lo+(i:Int)*st)):=by intro H2 Ob2 f s i;refine⟨fun d e=>?_,fun h=>by show n<=i;simpa using h⟩;rw[Al]at e;by_cases hi:i<n;rw[AZ hi]at e;cases e;refine⟨hi,fun x H3 hy=>?_⟩;obtain⟨rfl,rfl⟩:=hy;exact⟨Same.refl _,.int _⟩;rw[Cj (by simpa using hi)]at e;cases e
theorem yV7{a b c:Expr}{p:Pos}(hm:C.X.mg "range"=none)(ha:RArg C false [a,b,c] ms)(hg:autoParam (Gl C.X "range") Ey)(hs:autoParam (starEach [a,b,c] C.X.env=[(false,eval a C.X.env),(false,eval b C.X.env),(false,eval c C.X.env)]) Ey)(hs2:autoParam (starEach [b,c] C.X.env=[(false,eval b C.X.env),(false,eval c C.X.env)]) Ey):RI C tg (.Call (.Name "range" p) [a,b,c] [] pos) (iR rng3 ms):=by
 obtain⟨t,pa,q⟩:=ha;refine⟨_,xH7 hg hm pa hs hs2,fun Oc Ob σ H ρ W R h=>q Oc Ob σ H ρ _ R (Res.zP (Res.zS h) (fun ds _ k vs H' s r=>?_) fun _ z=>z)⟩;obtain⟨xs,e,k⟩:=Res.zG k;unfold rng3 at e;split at e;split at e;rename_i hb;cases e;cases r with
 |cons va r=>obtain⟨v',v'',rfl,va',va''⟩:=VAs.two r;obtain rfl:=va.int;obtain rfl:=va'.int;obtain rfl:=va''.int;exact⟨_,_,_,rfl,hb,k _ H' s xS5⟩
 cases e;cases e
end L2.L3
namespace L2.L3
open PySem PyProof.Rows
variable [CN]
section
variable {X:Cx}
end
end L2.L3
namespace L2
open PySem PyProof.Rows
structure CScope2(sc0 scope:Scope)(N0:C4)(xt yt:Str)(fs:C4)(js:C5):Prop where
 kind:scope.kind=.function
 nocell:∀y∈scope.names,y.2≠.cell
 names:∀y∈scope.names,y.2=.local->scope.names.lookup y.1=some .local
 tgt:scope.names.lookup xt=some .local
 tgt2:scope.names.lookup yt=some .local
 frees:∀y∈scope.names,y.2=.free->sc0.names.lookup y.1=some .cell\/sc0.names.lookup y.1=some .free
 len:js.length=fs.length
 slots:∀p∈fs.zip js,N0[p.2]?=some p.1/\scope.names.lookup p.1=some .free
 nd:(xt::yt::fs).Nodup
def compSt2(σ:St)(js:C5)(v w:Option V):St:=v::w::js.map fun j=>(σ[j]?).join
section
variable {X:Cx}{EA:A9}{σ:St}{H:Hp}{s₂ s₄:Shared}{sc0 scope:Scope}{N0:C4}{xt yt:Str}{fs:C4}{js:C5}{fp:C9}
theorem CScope2.cells(S:CScope2 sc0 scope N0 xt yt fs js)(h0:X.env.scope=sc0)(ok:X.Ok):∀n,(n,NameKind.free)∈scope.names->∃c,X.env.cells.lookup n=some c:=fun n hn=>ok.has n (by subst h0;exact S.frees _ hn rfl)
theorem CScope2.sub(S:CScope2 sc0 scope N0 xt yt fs js)(h0:X.env.scope=sc0)(ok:X.Ok):∀x c,(clos X.env.cells scope.names []).lookup x=some c->X.env.cells.lookup x=some c:=zX2 scope.names [] (S.cells h0 ok) fun x c e=>by simp at e
theorem Inv.block2(S:CScope2 sc0 scope N0 xt yt fs js)(h0:X.env.scope=sc0)(hN0:X.N=N0)(I:Inv X EA σ H s₂)(hf:∀b∈fp,FpOk X EA H b)(hfo:∀b∈fp,∃o,s₂.heap.get? b=some o) (hos:s₄.os=s₂.os) (hg:AllBare s₄.gens) (hk:∀b o,s₂.heap.get? b=some o->s₄.heap.get? b=some o){C:Addr}(hC:s₂.heap.objs.size<=C){m:B9}(hn:s₄.heap.Ns C m):Inv (cxComp X (xt::yt::fs) scope C fp s₂ H) [] (compSt2 σ js none none) H s₄:=by
 have sub:=S.sub h0 I.ok;have blt:∀b∈fp,b<s₂.heap.objs.size:=fun b hb=>let ⟨o,e⟩:=hfo b hb;Au e
 have ok:(cxComp X (xt::yt::fs) scope C fp s₂ H).Ok:=by
  refine⟨I.ok.mod,S.kind,I.ok.glob,I.ok.blt,hC,fun x y c h1 h2=>I.ok.inj x y c (sub x c h1) (sub y c h2),fun x hx=>?_,fun x c h=>(nomatch h),I.ok.hd,I.ok.frames,.inl rfl,fun b hb=>⟨?_,fun x c h=>(hf b hb).2.2.2.2.1 x c (sub x c h)⟩,I.bs,As I.ok.bsz I.sz,fun b o e hb=>?_,fun b hb hs=>?_,I.stack,I.stkFree⟩;have hx:(relabel scope X.env).names.lookup x=some .cell\/(relabel scope X.env).names.lookup x=some .free:=hx;have hfree:scope.names.lookup x=some .free:=by rcases hx with hx|hx;rcases gY hx with q|⟨_,q⟩;exact absurd rfl (S.nocell _ (Bc q));exact q;rcases gY hx with q|⟨q,_⟩;exact q;cases q
  exact fW scope.names [] x (Bc hfree);exact AW (AA (blt b hb) hC);rcases (hf b hb).2.2.2.1 with z|z;exact I.ok.noex b o e z;exact absurd (AA (Au (I.ok.bs b o e).1) z) (CL _);rcases AF.mp (I.stkSub b hs)with z|z;exact(hf b hb).2.1 z;exact(hf b hb).2.2.1 z
 refine⟨ok,hos,hg,Un.kept hk,⟨m,hn,fun i x v e1 e2 e3=>?_⟩,fun x c e=>?_,I.hok.fresh hC,fun x c e=>I.freeC x c (sub x c e),fun p hp=>absurd (show p∈([]:A9)from hp) (by simp),I.hok.kept hk,?_⟩;cases i with
 |zero=>cases e2
 |succ i=>
  cases i with
  |zero=>cases e2
  |succ i=>
  have e1:fs[i]?=some x:=e1;have e2:(js.map fun j=>(σ[j]?).join)[i]?=some (some v):=e2;rw[Al]at e2;cases ej:js[i]? with
  |none=>rw[ej]at e2;cases e2
  |some j=>
   rw[ej]at e2;have e2:(σ[j]?).join=some v:=Ba e2;obtain⟨hN,hfr⟩:=S.slots _ (yZ9 e1 ej);have hN:X.N[j]?=some x:=(by rw[hN0];exact hN);have hk2:X.env.kindOf x=some .cell\/X.env.kindOf x=some .free:=(by subst h0;exact S.frees _ (Bc hfr) rfl);have hs:σ[j]?=some (some v):=by
    cases q:σ[j]? with
    |none=>rw[q]at e2;cases e2
    |some z=>rw[q]at e2;rw[show z=some v from e2]
   obtain⟨m0,hn0,hl⟩:=I.loc;obtain⟨u,r,l⟩:=hl j x v hN hs (by rcases hk2 with z|z;exact .inr (.inl z);exact .inr (.inr z));refine⟨u,r,?_⟩;rcases l with⟨hloc,_⟩|⟨_,c,hc,hcell⟩;rcases hk2 with z|z;rw[z]at hloc;cases hloc;rw[z]at hloc;cases hloc;obtain⟨c',hc'⟩:=fW (cells:=X.env.cells) scope.names [] x (Bc hfr);have:c'=c:=Ba ((sub x c' hc').symm.trans hc);subst this;exact .inr ⟨zU8 hfr,c',hc',hcell.keeps hk⟩
 obtain⟨v,z⟩:=I.cell x c (sub x c e);exact⟨v,z.keeps hk⟩;show(compSt2 σ js none none).length=(xt::yt::fs).length;unfold compSt2;rw[Aw,Aw,Aa,Aw,Aw,S.len]
end
end L2
namespace L2.L3
open PySem PyProof.Rows
variable [CN]
def cEnv2(ρ:Ev)(js:C5)(x y:D):Ev:=some x::some y::js.map fun j=>(ρ[j]?).join
def capt2(js l:C5):C5:=((List.range js.length).filter fun i=>l.contains (js.getD i 0)).map (·+2)
def pr2{α:Type}(d:D)(f:D->D->Res α):Res α:=match d with
 |.tuple [a,b]=>f a b
 |_=>.no
theorem xP9{l:C5}{i:Nat}(h:i∈capt2 js l):∃k,i=k+2/\k<js.length/\js.getD k 0∈l:=by unfold capt2 at h;obtain⟨k,hk,rfl⟩:=Ay.mp h;obtain⟨h1,h2⟩:=BY.mp hk;exact⟨k,rfl,AH.mp h1,AV.mp h2⟩
theorem yV9{l:C5}{k j:Nat}(h:js[k]?=some j)(hl:j∈l):k+2∈capt2 js l:=by unfold capt2;refine Ay.mpr ⟨k,BY.mpr ⟨AH.mpr ?_,?_⟩,rfl⟩;exact(AD.mp h).1;rw[Ax,h];exact AV.mpr hl
theorem zF1{x y d:D}{k:Nat}(h:(cEnv2 ρ js x y)[k+2]?=some (some d)):∃j,js[k]?=some j/\ρ[j]?=some (some d):=by
 unfold cEnv2 at h;rw[Cc,Cc,Al]at h;cases e:js[k]? with
 |none=>rw[e]at h;cases h
 |some j=>
  rw[e]at h;refine⟨j,rfl,?_⟩;have h:(ρ[j]?).join=some d:=Ba h;cases q:ρ[j]? with
  |none=>rw[q]at h;cases h
  |some z=>rw[q]at h;rw[show z=some d from h]
theorem qN{v0 w0:Option V}{v:V}{k j:Nat}(h:js[k]?=some j)(e:σ[j]?=some (some v)):(compSt2 σ js v0 w0)[k+2]?=some (some v):=by unfold compSt2;rw[Cc,Cc,Al,h];show some ((σ[j]?).join)=_;rw[e];rfl
def cW2(Oc:Wd)(Ob:C2)(σ:St)(js:C5):Wd:=⟨Uni Oc Ob,fun i=>adr ((compSt2 σ js none none)[i]?)⟩
theorem Rel.comp2{om ln:C5}{x y:V}{d d2:D}(R:Rel Oc Ob om ln σ H ρ)(r:Rep H (Uni Oc Ob) x d)(r2:Rep H (Uni Oc Ob) y d2):Rel (cW2 Oc Ob σ js) (fun _=>False) [] (capt2 js (om++ln)) (compSt2 σ js (some x) (some y)) H (cEnv2 ρ js d d2) where
 len:=by unfold compSt2 cEnv2;simp
 val:=fun i d' e _ hl=>by
  cases i with
  |zero=>
   cases e
   exact⟨x,rfl,r.less fun b z=>z.elim id fun z=>z.elim⟩
  |succ k=>
   cases k with
   |zero=>
   cases e
   exact⟨y,rfl,r2.less fun b z=>z.elim id fun z=>z.elim⟩
   |succ k=>
   obtain⟨j,e1,e2⟩:=zF1 e
   have h1:j∉om:=fun z=>hl (yV9 e1 (AG _ z))
   have h2:j∉ln:=fun z=>hl (yV9 e1 (Ah _ z))
   obtain⟨v,q,rv⟩:=R.val j d' e2 h1 h2
   exact⟨v,qN e1 q,rv.less fun b z=>z.elim id fun z=>z.elim⟩
 own:=fun i d' e h=>nomatch h
 lnt:=fun i d' e _ hl=>by
  obtain⟨k,rfl,hk,hj⟩:=xP9 hl
  obtain⟨j,e1,e2⟩:=zF1 e
  rw[Ax,e1,Dt]at hj
  by_cases ho:j∈om
  obtain⟨v,q,a,ys,ds,z1,z2,z3,z4,z5⟩:=R.own j d' e2 ho
  have ea:(cW2 Oc Ob σ js).la (k+2)=a:=by show adr _=a;rw[qN e1 q,z1];rfl
  exact⟨v,qN e1 q,ys,ds,by rw[ea];exact z1,z2,by rw[ea];exact z3,by rw[ea];exact .inr z4,z5.less fun b z=>z.elim id fun z=>z.elim⟩
  have hl2:j∈ln:=(AE.mp hj).elim (fun z=>absurd z ho) id
  obtain⟨v,q,ys,ds,z1,z2,z3,z4,z5⟩:=R.lnt j d' e2 ho hl2
  have ea:(cW2 Oc Ob σ js).la (k+2)=Oc.la j:=by show adr _=_;rw[qN e1 q,z1];rfl
  exact⟨v,qN e1 q,ys,ds,by rw[ea];exact z1,z2,by rw[ea];exact z3,by rw[ea];exact .inl z4,z5.less fun b z=>z.elim id fun z=>z.elim⟩
 inj:=fun i j di dj a _ _ h=>nomatch h
 oh:=fun a z=>R.oh a (z.elim id fun z=>z.elim)
 ap:=fun a z=>z.elim
theorem xD9{K:KFr}{x:V}{a b:D}(r:Rep H O x (.tuple [a,b])):∃ta x1 x2,x=.ref ta/\SqT K H ta [x1,x2]/\Rep H O x1 a/\Rep H O x2 b:=by
 cases r with
 |tup r n t=>
  cases t with
  |cons h1 t=>
   cases t with
   |cons h2 t=>cases t;exact⟨_,_,_,rfl,.inl r,h1,h2⟩
theorem RIo.c{iter:Expr}{m:Ev->Res (D0)}(h:RIo C tg iter m):RIc C tg iter m:=by obtain⟨wi,p,q⟩:=h;exact⟨wi,p,fun Oc Ob σ H ρ W R h=>q Oc Ob σ H ρ W R (Res.zP h (fun ds _ k J H1 s w=>k J H1 s fun H2 s2=>w H2 Ob (Same.frm s2) (fun b z=>.inl z) (R.same (s.trans s2)).oh) fun _ z=>z)⟩
section
variable {X:Cx}{EA:A9}{σ:St}{H:Hp}{s:Shared}{h':Heap}
end
structure Apart5(z TI TO i1 i2:Addr):Prop where
 TIz:TI≠z
 TOz:TO≠z
 i1z:i1≠z
 i2z:i2≠z
 TITO:TI≠TO
 TIi1:TI≠i1
 TIi2:TI≠i2
 TOi1:TO≠i1
 TOi2:TO≠i2
 i12:i1≠i2
end L2.L3
namespace L2
open PySem PySem.Spec PyProof.Rows
end L2
namespace L2.L3
open PySem PySem.Spec PyProof.Rows
variable [CN]
end L2.L3
namespace L2.L3
open PySem
variable [CN]
end L2.L3
namespace L2.L3
open PySem PyProof.Rows
variable [CN]
section
variable {X:Cx}
end
end L2.L3
namespace HT
open PySem PyProof.Rows
section
variable {prog:Program}{w:World}{A:Around}{E:A8}{s:Shared}
end
end HT
namespace L2.L3
open PySem PyProof.Rows
variable [CN]
section
variable {X:Cx}
end
end L2.L3
namespace L2.L3
open PySem PySem.Spec PyProof.Rows
variable [CN]
def popV(ys:D0):D->Option (D×D0)
 |.int i=>if 0<=i/\i<ys.length/\i<2^63 then some (ys.getD i.toNat .none,ys.eraseIdx i.toNat)else none
 |_=>none
def sAP(i j:Nat)(me:B5):B6:=fun ρ=>(eV i ρ).bind fun d=>(Res.lft (lstD d)).bind fun xs=>(eV j ρ).bind fun d2=>(Res.lft (lstD d2)).bind fun ys=>(me ρ).bind fun n=>(Res.lft (popV ys n)).bind fun vy=>(Res.lft (appD xs [vy.1])).bind fun zs=>.ok (.nx ((ρ.set j (some (.list vy.2))).set i (some (.list zs))))
theorem wD5(i j:Nat)(me:B5)(ρ:Ev):sAP i j me ρ=(eV i ρ).bind fun d=>(Res.lft (lstD d)).bind fun xs=>(eV j ρ).bind fun d2=>(Res.lft (lstD d2)).bind fun ys=>(me ρ).bind fun n=>(Res.lft (popV ys n)).bind fun vy=>(Res.lft (appD xs [vy.1])).bind fun zs=>.ok (.nx ((ρ.set j (some (.list vy.2))).set i (some (.list zs)))):=rfl
theorem xF4(i j:Nat){x y:Str}{p1 a1 a2 c1 c2:Pos}(he:RE C .cl e me)(hN:autoParam (C.X.N[i]?=some x) Ey)(ho:autoParam (C.om.contains i=true) Ey)(hv:autoParam (Vis C.X.env.scope x) Eu)(hd:autoParam ((x==("__debug__":Str))=false) Ex)(hcd:autoParam ((x==("__classdict__":Str))=false) Ex)(kN:autoParam (C.X.N[j]?=some y) Ey)(ko:autoParam (C.om.contains j=true) Ey)(kv:autoParam (Vis C.X.env.scope y) Eu)(kd:autoParam ((y==("__debug__":Str))=false) Ex)(kcd:autoParam ((y==("__classdict__":Str))=false) Ex)(hij:autoParam (j≠i) Ex)(kbase:autoParam (attributeBase (.Name y p2) "pop" C.X.env (eval (.Name y p2) C.X.env)=eval (.Name y p2) C.X.env) Ey)(kfew:autoParam (((backTo c2 (starEach [e] C.X.env)).all (fun x=>!x.1)&&(backToKw c2 (keywordEach [] C.X.env)).all (fun x=>x.1.isSome)&&decide ([e].length+([]:List Keyword).length+(if ([]:List Keyword).isEmpty then 0 else 1)<30))=true) Ey)(kline:autoParam ((a2.endLine==c2.line)=true) Ey)(ks:autoParam (starEach [e] C.X.env=(false,eval e C.X.env)::starEach [] C.X.env) Ey)(kplain:autoParam ((backTo c2 (starEach [] C.X.env)).any (·.1)=false) Ey)(hbase:autoParam (attributeBase (.Name x p1) "append" C.X.env (eval (.Name x p1) C.X.env)=eval (.Name x p1) C.X.env) Ey)(hfew:autoParam (((backTo c1 (starEach [.Call (.Attribute (.Name y p2) "pop" a2) [e] [] c2] C.X.env)).all (fun x=>!x.1)&&(backToKw c1 (keywordEach [] C.X.env)).all (fun x=>x.1.isSome)&&decide ([Expr.Call (.Attribute (.Name y p2) "pop" a2) [e] [] c2].length+([]:List Keyword).length+(if ([]:List Keyword).isEmpty then 0 else 1)<30))=true) Ey)(hline:autoParam ((a1.endLine==c1.line)=true) Ey)(hs:autoParam (starEach [.Call (.Attribute (.Name y p2) "pop" a2) [e] [] c2] C.X.env=(false,eval (.Call (.Attribute (.Name y p2) "pop" a2) [e] [] c2) C.X.env)::starEach [] C.X.env) Ey)(hplain:autoParam ((backTo c1 (starEach [] C.X.env)).any (·.1)=false) Ey)(hsw:autoParam (swapsWith (.Call (.Attribute (.Name x p1) "append" a1) [.Call (.Attribute (.Name y p2) "pop" a2) [e] [] c2] [] c1) none pos.line C.X.env=pure false) Ey):RS C fr (.Expr (.Call (.Attribute (.Name x p1) "append" a1) [.Call (.Attribute (.Name y p2) "pop" a2) [e] [] c2] [] c1) pos) (sAP i j me):=by
 obtain⟨t,p,q⟩:=he;refine⟨_,jW (bK BM Be Bf vS (qI hN hv hd hcd) (yF (bK BM PySem.F.slot_list_pop PySem.F.type_list_pop yF1 (qI kN kv kd kcd) (yF p xP ks) kbase kfew kline ks kplain) xP hs) hbase hfew hline hs hplain) hsw,fun Oc Ob σ H ρ E R h=>?_⟩;obtain⟨d,ed,k⟩:=uR (Res.zS h);obtain⟨xd,ex,k⟩:=Res.zG (Res.zS k);obtain rfl:=uJ ex;obtain⟨v,qv,l,ys,ds,rfl,e2,e3,e4,e5⟩:=R.own i _ ed (wS ho);cases e2;obtain⟨d2,ed2,k⟩:=uR (Res.zS k);obtain⟨yd,ex2,k⟩:=Res.zG (Res.zS k);obtain rfl:=uJ ex2;obtain⟨v2,qv2,l2,zs,es,rfl,f2,f3,f4,f5⟩:=R.own j _ ed2 (wS ko);cases f2;refine⟨_,qv,.inl ⟨rfl,_,SqL.of e3⟩,_,qv2,.inl ⟨rfl,_,SqL.of f3⟩,q Oc Ob σ H ρ _ R (Res.zP (Res.zS k) (fun n hn k w H' s r=>?_) fun c z H' s=>z H' (Same.frm s))⟩;clear hn;obtain⟨⟨pv,yd'⟩,ep,k⟩:=Res.zG (Res.zS k);obtain⟨xd',ea,k⟩:=Res.zG (Res.zS k);unfold popV at ep;split at ep;rename_i m;split at ep;rename_i hb;cases ep;cases r;have hlen:=f5.length;have hi:m.toNat<zs.length:=by rfl'
 refine⟨l2,zs,m,m.toNat,zs[m.toNat],rfl,rfl,s _ _ f3,by rfl',hb.2.2,?_,Ag hi,?_⟩;unfold seqIndex?;simp only[show ¬m<0 by rfl',if_false];rw[Ae (by simp;rfl')];have f6:=f5.same s;have R1:=(R.same s).write (wS ko) ed2 qv2 (s _ _ f3) f4 (f6.erase m.toNat);have edi:(ρ.set j (some (.list (yd.eraseIdx m.toNat))))[i]?=some (some (.list xd)):=by rw[AU hij];exact ed
 obtain⟨v',qv',l',ys',ds',rfl,g2,g3,g4,g5⟩:=R1.own i _ edi (wS ho);cases g2;have el:l'=l:=by rw[qv]at qv';cases qv';rfl
 subst el;unfold appD at ea;simp only at ea;split at ea;rename_i hz;cases ea;have rv0:Rep H' (Uni Oc Ob) zs[m.toNat] (yd.getD m.toNat .none):=by obtain⟨d',hd',rd'⟩:=f6.of (Ag hi);rw[List.getD,hd'];exact rd'
 have rv:Rep (upd H' l2 (.lst (zs.eraseIdx m.toNat))) (Uni Oc Ob) zs[m.toNat] (yd.getD m.toNat .none):=rv0.keep (fun b o e n=>by rw[zJ (fun z=>n (by subst z;exact .inr f4))];exact e) fun _ _ z=>z;refine⟨l',ys',_,rfl,rfl,g3,by rw[g5.length];exact hz,?_⟩;refine k _ _ Ob (R1.write (wS ho) edi qv' g3 g4 (g5.append (.one rv))) (fun b o e n=>?_) fun b z=>.inl z;rw[zJ (fun z=>n (by subst z;exact g4)),zJ (fun z=>n (by subst z;exact f4))];exact s b o e;cases ea;cases ep;cases ep
section
variable {X:Cx}
theorem zR4{α β:Type}(f:α->β):∀(l:List α)(m:Nat),(l.map f).eraseIdx m=(l.eraseIdx m).map f
 |[],_=>rfl
 |_::_,0=>rfl
 |a::l,m+1=>By (f a:: ·) (zR4 f l m)
end
end L2.L3
namespace HT
open PySem PyProof.Rows
section
open PySem.SeqAt
open PySem.AutoSeq1 (wpAny_loadPart')
open PySem.MeetsSeq PySem.MeetsSeq2 PySem.MeetsSeq3
end
section
variable {prog:Program}{w:World}{A:Around}{E:A8}{s:Shared}
end
end HT
namespace L2.L3
open PySem PySem.Spec PyProof.Rows
variable [CN]
section
variable {X:Cx}
end
end L2.L3
namespace L2.L3
open PySem PyProof.Rows
variable [CN]
section
variable {X:Cx}
end
end L2.L3
namespace L2.L3
universe u
theorem ls0{α:Type u}{P:List α->Prop}(h:P []):∀us:List α,us.length=0->P us:=fun us e=>by rw[List.eq_nil_of_length_eq_zero e];exact h
theorem lsS{α:Type u}{P:List α->Prop}{n:Nat}(h:∀a us,us.length=n->P (a::us)):∀us:List α,us.length=n+1->P us:=fun us e=>by
 cases us with
 |nil=>cases e
 |cons a us=>exact h a us (Nat.succ.inj e)
theorem ls1{α:Type u}{P:List α->Prop}(h:∀a,P [a]):∀us:List α,us.length=1->P us:=lsS fun a=>ls0 (h a)
theorem ls2{α:Type u}{P:List α->Prop}(h:∀a b,P [a,b]):∀us:List α,us.length=2->P us:=lsS fun a=>ls1 (h a)
theorem ls3{α:Type u}{P:List α->Prop}(h:∀a b c,P [a,b,c]):∀us:List α,us.length=3->P us:=lsS fun a=>ls2 (h a)
end L2.L3
namespace L2.L3
open PySem PySem.Spec PyProof.Rows
section
variable {M:Model}{A:Around}{E:A8}{s:Shared}{B:Heap}{L e:Addr}{cls a0 fl:Value}
def KpX(Φ:Option Addr->Value->Prop)(e:Addr)(h:Heap):Prop:=∃oe vs v,h.get? e=some oe/\oe.data=.fields vs/\vs[2]?=some v/\Φ oe.dict v
theorem xA2(f:Array Value->Array Value)(o:Obj):(Obj.mapFields f o).dict=o.dict:=by unfold Obj.mapFields;split<;>rfl
theorem KpX.mono{Ψ:Option Addr->Value->Prop}{e:Addr}(k:KpX Φ e h)(m:∀d v,Φ d v->Ψ d v):KpX Ψ e h:=by obtain⟨o,vs,v,q,d,z,y⟩:=k;exact⟨o,vs,v,q,d,z,m _ _ y⟩
theorem KpX.one{e:Addr}{v:Value}(k:KpX Φ e h)(he:h.get? e=some oe)(he':h'.get? e=some (Obj.mapFields (·.setIfInBounds 1 v) oe)):KpX Φ e h':=by obtain⟨o,vs,v2,q,d,z,y⟩:=k;cases he.symm.trans q;exact⟨_,_,v2,he',BO d _,by rw[Array.getElem?_setIfInBounds_ne (by decide)];exact z,by rw[xA2];exact y⟩
theorem KpX.same{e:Addr}(k:KpX Φ e h)(q:h'.get? e=h.get? e):KpX Φ e h':=by obtain⟨o,vs,v,z,d⟩:=k;exact⟨o,vs,v,q.trans z,d⟩
structure Marks(B:Heap)(l:List Env)(e L:Addr)(oe:Obj)(h g h':Heap):Prop where
 rest:∀b,b∉l.filterMap (·.frame)->g.get? b=h.get? b
 slot:∀b o,h.get? b=some o->∃sl,g.get? b=some {o with slots:=sl}
 told:h'.get? e=some (Obj.mapFields (·.setIfInBounds 1 (.ref g.objs.size)) oe)
 mark:∃o ts,h'.get? g.objs.size=some o/\o.data=.fields ts/\ts[3]?=some (rawInt L)
 else_:∀b o,b≠e->g.get? b=some o->h'.get? b=some o
theorem Marks.noted{l:List Env}{vs:Array Value}{g:Heap}(m:Marks B l e L oe h g h')(hF:h.FunFrames B l)(hB:B.StaysIn h)(hn:B.get? e=none)(he:h.get? e=some oe)(hd:oe.data=.fields vs)(hs:1<vs.size)(h0:vs[0]?=some a0):Heap.NotedW B l e oe.cls a0 (rawInt L) h h'/\(KpX Φ e h->KpX Φ e h'):=by
 have fr:∀b∈l.filterMap (·.frame),B.get? b=none:=fun b z=>(hF.mem z).1;have ne:∀b o,h.get? b=some o->(∀vs,o.data≠.fields vs)->b≠e:=by rintro b o q d rfl;cases he.symm.trans q;exact d vs hd
 have stay:B.StaysIn g:=fun b o q=>by rw[m.rest b fun z=>by rw[fr b z]at q;cases q];exact hB b o q
 have up:∀b o,h.get? b=some o->(∀vs,o.data≠.fields vs)->∃sl,h'.get? b=some {o with slots:=sl}:=fun b o q d=>
  let ⟨sl,y⟩:=m.slot b o q
  ⟨sl,m.else_ b _ (ne b o q d) y⟩
 obtain⟨oT,ts,q1,q2,q3⟩:=m.mark;have eT:g.objs.size≠e:=by
  have nfr:e∉l.filterMap (·.frame):=fun z=>by obtain⟨_,o,ho,nf⟩:=hF.mem z;cases he.symm.trans ho;exact nf vs hd
  exact Ef (Au ((m.rest e nfr).trans he))
 refine⟨⟨fun b o q=>m.else_ b o (by rintro rfl;rw[hn]at q;cases q) (stay b o q),hF.of_keeps fun b o q d=>let ⟨_,y⟩:=up b o q d; ⟨_,y,rfl⟩,?_,up⟩,fun kp=>kp.one he m.told⟩;exact⟨_,_,g.objs.size,oT,ts,m.told,⟨Obj.cls_mapFields _ _,(Array.getElem?_setIfInBounds_ne (by decide)).trans h0⟩,BO hd _,by simp[hs],stay.fresh,eT,q1,q2,q3⟩
theorem entryK{env:Env}{outer:List Env}{vs:Array Value}{head:Value}{hadNext:Bool}{Q:Unit->Shared->Prop}(hA:A.frames=some (env::outer))(hF:s.heap.FunFrames B (env::outer))(hf:env.frame=some L)(he:s.heap.get? e=some oe)(hB:B.StaysIn s.heap)(hn:B.get? e=none)(hd:oe.data=.fields vs)(hsz:1<vs.size)(h0:vs[0]?=some a0){Φ:Option Addr->Value->Prop}(kp:KpX Φ e s.heap)(k:∀g,Heap.NotedW B (env::outer) e oe.cls a0 (rawInt L) s.heap g->KpX Φ e g->Q () {s with heap:=g}):wpAny M A (frameOf env>>=fun a=>entryPlaceOf L hadNext>>=fun pl=>EntryCells.newEntry head a .none (rawInt L) .none pl>>=setField (.ref e) 1) Q E s:=by
 refine Ai (wpAny_frameOf_fun hA hF hf fun g hg=>Ai (wpAny_entryPlaceOf fun pl hpl=>?_));have here:g.get? e=some oe:=(hg.2.1 e fun z=>by obtain⟨_,o,ho,nf⟩:=hF.mem z;cases he.symm.trans ho;exact nf vs hd).trans he;simp only[EntryCells.newEntry,newFields];refine Ai (wpAny_newObj_type (wpAny_setField (Am _ here) hd hsz ?_) (hpl.sizeOk5 _ _ _ _ _));have T:g.objs.size≠e:=Ef (Au here);have i3:∀xs:C3,([head,.ref L,.none,rawInt L,.none]++xs).toArray[3]?=some (rawInt L):=fun xs=>by simp
 have fin:∀ob ts,ob.data=.fields ts->ts[3]?=some (rawInt L)->Q () {s with heap:=(g.push ob).update e (Obj.mapFields (·.setIfInBounds 1 (.ref g.objs.size)))}:=fun ob ts d3 t3=>by obtain⟨n,kk⟩:=Marks.noted (a0:=a0) ⟨hg.2.1,hg.2.2,Bp _ (Am ob here) (CC (BO hd _)),⟨ob,ts,(AS _ _ (Bv T)).trans (AO g (CC d3)),d3,t3⟩,fun b o nb q=>by rw[AS _ _ (Bv nb)];exact Am _ q⟩ hF hB hn he hd hsz h0;exact k _ n (kk kp)
 exact fin _ _ rfl (i3 _)
theorem flightK{l:List Env}{Q:Unit->Shared->Prop}(hB:B.StaysIn s.heap)(hn:B.get? e=none)(hF:s.heap.FunFrames B l)(ht:s.heap.TracedAtW B e cls a0 fl)(kp:KpX Φ e s.heap)(k:∀g,Heap.FlyingW B l e cls a0 g->s.heap.UpToSlots g->KpX Φ e g->Q () {s with heap:=g}):wpAny M A (setFlight (.ref e) none) Q E s:=by
 obtain⟨oe,vs,T,oT,ts,g1,g2,g4,g5,g6,g7,g8,g9,g10⟩:=ht;have sz:=(Bh.mp g10).1;have ot:∀b,b≠T->(s.heap.update T (Obj.mapFields (·.setIfInBounds 3 ((none:Option Addr).elim Value.none fun f=>rawInt f)))).get? b=s.heap.get? b:=fun b hb=>AS _ _ (Bv hb);have nf:∀b o,s.heap.get? b=some o->(∀vs,o.data≠.fields vs)->b≠T:=fun b o q hd w=>by subst w;cases g8.symm.trans q;exact hd ts g9
 unfold setFlight;refine Ai (wpAny_field g1 g4 g5 ?_);have n1:(Value.ref T !=Value.none)=true:=by simp
 simp only[n1,if_true];refine wpAny_setField g8 g9 sz (k _ ⟨fun b o q=>(ot b fun w=>by subst w;rw[g6]at q;cases q).trans (hB b o q),hn,hF.of_keeps fun b o q hd=>⟨o,(ot b (nf b o q hd)).trans q,rfl⟩,?_⟩ (fun b o q hd=>⟨o.slots,(ot b (nf b o q hd)).trans q⟩) (kp.same (ot e (Bv g7))));exact⟨oe,vs,T,_,_,(ot e (Bv g7)).trans g1,g2,g4,g5,g6,g7,Bp _ g8 (CC (BO g9 _)),BO g9 _,by simp[sz]⟩
theorem zX3{env:Env}{outer:List Env}{Q:Unit->Shared->Prop}(hA:A.frames=some (env::outer))(hF:s.heap.FunFrames B (env::outer))(hf:env.frame=some L)(ht:s.heap.TracedAtW B e cls a0 fl)(hB:B.StaysIn s.heap)(hn:B.get? e=none)(kp:KpX Φ e s.heap)(k:∀g,Heap.NotedW B (env::outer) e cls a0 (rawInt L) s.heap g->KpX Φ e g->Q () {s with heap:=g}):wpAny M A (noteFrame (.ref e) env) Q E s:=by
 by_cases z:fl=rawInt L;subst z;exact wpAny_noteFrame_againW hf ht (k s.heap ⟨hB,hF,ht,fun b o q _=>⟨o.slots,q⟩⟩ kp);obtain⟨oe,vs,T,oT,ts,g1,⟨rfl,g3⟩,g4,g5,g6,g7,g8,g9,g10⟩:=ht;have sz:=(Bh.mp g10).1;have n1:(Value.ref T !=Value.none)=true:=by simp
 have n2:(fl==rawInt L)=false:=by simpa using z
 have ot:∀b,b≠T->(s.heap.update T (Obj.mapFields (·.setIfInBounds 3 .none))).get? b=s.heap.get? b:=fun b hb=>AS _ _ (Bv hb);have nf:∀b o,s.heap.get? b=some o->(∀vs,o.data≠.fields vs)->b≠T:=fun b o q hd w=>by subst w;cases g8.symm.trans q;exact hd ts g9
 unfold noteFrame;simp only[hf];refine Ai (wpAny_field g1 g4 g5 ?_);simp only[n1,if_true];refine Ai (wpAny_field g8 g9 g10 ?_);simp only[n2,AT,if_false];refine Ai (wpAny_setField g8 g9 sz (entryK (a0:=a0) (vs:=vs) hA ?_ hf ((ot e g7.symm).trans g1) (fun b o q=>?_) hn g4 (Bh.mp g5).1 g3 (kp.same (ot e g7.symm)) fun g hg kg=>?_));exact hF.of_keeps fun b o q hd=>⟨o,(ot b (nf b o q hd)).trans q,rfl⟩;have:b≠T:=fun w=>by subst w;rw[g6]at q;cases q
 exact(ot b this).trans (hB b o q);exact k g ⟨hg.1,hg.2.1,hg.2.2.1,fun b o q hd=>hg.2.2.2 b o ((ot b (nf b o q hd)).trans q) hd⟩ kg
theorem wZ3{α:Type}{what:String}{env:Env}{Q:α->Shared->Prop}(ht:s.heap.TracedAtW B e cls a0 fl)(kp:KpX Φ e s.heap)(k:∀(g:Heap)(T:Addr)(fl':Value),B.get? T=none->(∀b,b≠T->g.get? b=s.heap.get? b)->(∃o ts,s.heap.get? T=some o/\o.data=.fields ts)->g.TracedAtW B e cls a0 fl'->KpX Φ e g->E (.ref e) {s with heap:=g}):wpAny M A (PySem.passOn what (.ref e) env) Q E s:=by
 obtain⟨oe,vs,T,oT,ts,g1,⟨rfl,g3⟩,g4,g5,g6,g7,g8,g9,g10⟩:=ht;have sz:=(Bh.mp g10).1;have n0:(Value.ref T==Value.none)=false:=by simp
 have n1:(Value.ref T !=Value.none)=true:=by simp
 have fin:wpAny M A (setFlight (.ref e) env.frame>>=fun _=>(throw (.ref e):Sem α)) Q E s:=by unfold setFlight;refine Ai (Ai (wpAny_field g1 g4 g5 ?_));simp only[n1,if_true];refine wpAny_setField g8 g9 sz (wpAny_throw (k _ T (env.frame.elim .none fun f=>rawInt f) g6 (fun b hb=>AS _ _ (Bv hb)) ⟨oT,ts,g8,g9⟩ ?_ (kp.same (AS _ _ g7))));exact⟨oe,vs,T,_,_,(AS _ _ g7).trans g1,⟨rfl,g3⟩,g4,g5,g6,g7,Bp _ g8 (CC (BO g9 _)),BO g9 _,by simp[sz]⟩
 unfold PySem.passOn;refine Ai (wpAny_field g1 g4 g5 ?_);simp only[n0,AT,if_false];exact fin
end
variable [CN]
def Raw(B:Heap)(e:Addr)(cls a0:Value)(h:Heap):Prop:=(∃fl,h.TracedAtW B e cls a0 fl)\/∃oe vs,h.get? e=some oe/\oe.cls=cls/\oe.data=.fields vs/\vs[1]?=some .none/\vs[0]?=some a0
def FlK(cls:Value)(ro:Option Nat)(B h1:Heap)(H:Hp):Option Addr->Value->Prop:=fun od v=>(cls≠.ref (CN.ad "BadText")->v=.none)/\∀r,ro=some r->∃d,od=some d/\Row d (r:Int) B/\H d=none/\h1.get? d=none
structure Fl(stk:List Env)(h1:Heap)(H:Hp)(e:Addr)(cls:Value)(ro:Option Nat)(B:Heap)(a0:Value)(h:Heap):Prop where
 stays:B.StaysIn h
 newB:B.get? e=none
 frm:h.FunFrames B stk
 raw:Raw B e cls a0 h
 kp:KpX (FlK cls ro B h1 H) e h
 cov:∀b o,h.get? b=some o->b∉frs stk->(h1.get? b≠none\/H b≠none)->B.get? b=some o
def ExcAt(X:Cx)(c:Str)(H:Hp)(e:Value)(s:Shared):Prop:=∃(EA:A9)(σ:St)(s1:Shared)(H1:Hp)(a:Addr)(B:Heap)(a0:Value),Inv X EA σ H1 s1/\Inv X EA σ H s/\Un (frs X.stack) [] H1 H s1.heap s.heap/\e=.ref a/\s1.heap.get? a=none/\H a=none/\Fl X.stack s1.heap H a (.ref (CN.ad c)) (rowOf c) B a0 s.heap
def CXV(P:Program)(w:World):CXT:=fun outer H s E e s'=>∃(a:Addr)(cls:Value)(ro:Option Nat)(B:Heap)(a0:Value)(H':Hp),e=.ref a/\s'.os=s.os/\AllBare s'.gens/\Un (frs outer) [] H H' s.heap s'.heap/\HOk P w H' s'.heap/\s.heap.get? a=none/\H' a=none/\Fl outer s.heap H' a cls ro B a0 s'.heap/\E cls ro H'
theorem qR{w:World}{a:Addr}{o:HO}(x:ObjOk P w H h a o):∃u,h.get? a=some u:=by
 cases o with
 |lst xs=>exact⟨_,x.2.choose_spec.choose_spec.2⟩
 |tup xs=>obtain⟨_,its,_,ob,e,_⟩:=x;exact⟨ob,e⟩
 |dK kvs=>obtain⟨_,_,_,_,ob,_,_,e,_⟩:=x;exact⟨ob,e⟩
 |dT kvs=>obtain⟨_,_,_,_,ob,_,_,e,_⟩:=x;exact⟨ob,e⟩
 |set S n=>obtain⟨ob,_,_,_,e,_⟩:=x;exact⟨ob,e⟩
 |ins C dx fs=>obtain⟨_,_,_,e,_⟩:=x;exact⟨_,e⟩
 |own y=>exact x
 |xd fs=>obtain⟨_,⟨ob,_,_,e,_⟩,_⟩:=x;exact⟨ob,e⟩
 |rng lo hi=>obtain⟨_,_,_,e⟩:=x;exact⟨_,e⟩
 |frz ob u=>exact⟨ob,x.1⟩
 |tbl ps=>exact⟨_,x⟩
 |met f y=>exact⟨_,x⟩
 |ext φ=>exact x.2.1
theorem yT3{w:World}{a:Addr}(x:HOk P w H h)(n:H a≠none):∃u,h.get? a=some u:=by
 cases e:H a with
 |none=>exact absurd e n
 |some o=>exact qR (x a o e)
theorem dC{α:Type}{o:Option α}(h:o≠none):∃x,o=some x:=by
 cases o with
 |none=>exact absurd rfl h
 |some x=>exact⟨x,rfl⟩
theorem wI{α:Type}{o:Option α}{x:α}(h:o=some x):o≠none:=by rw[h];exact fun z=>nomatch z
theorem zO7{α:Type}{o:Option α}(h:∀x,o=some x->False):o=none:=by
 cases o with
 |none=>rfl
 |some x=>exact(h x rfl).elim
theorem xJ2{X:Cx}{c:Str}{e:Value}{E:XK}{E2:A8}(x:ExcAt X c H e s)(hst:X.stack=X.env::X.outer)(hfr:X.env.frame=some X.env.locals)(hex:X.ex=[])(hE:E (.ref (CN.ad c)) (rowOf c) H):wpAny (model X.prog X.w) X.A (leaving X.env e) (fun _ s''=>CXV X.prog X.w X.outer X.H₀ X.s₀ E e s'') E2 s:=by
 obtain⟨EA,σ,s1,H1,a,B,a0,I1,I,un,rfl,n1,n2,f⟩:=x;have noex:∀b:Addr,b∉X.ex:=fun b z=>by rw[hex]at z;cases z
 obtain⟨Φ,hP⟩:∃Φ,Φ=FlK (.ref (CN.ad c)) (rowOf c) B s1.heap H:=⟨_,rfl⟩;have fk:KpX Φ a s.heap:=hP▸f.kp;have hfs:frs X.stack=X.env.locals::X.fs:=by rw[hst];show List.filterMap _ _=_;rw[Dx,hfr];rfl
 have hfrm:s.heap.FunFrames B (X.env::X.outer):=by rw[<-hst];exact f.frm
 have hA:X.A.frames=some (X.env::X.outer):=by rw[<-hst];exact I.ok.frames
 have oldL:∀b o,X.s₀.heap.get? b=some o->b≠X.env.locals:=fun b o q z=>by subst z;exact absurd (Au q) (DW.mpr I.ok.above)
 have old1:∀b o,X.s₀.heap.get? b=some o->s1.heap.get? b≠none:=fun b o q=>let ⟨_,e⟩:=I1.base.there b o q (noex b);wI e
 have key:∀h',Heap.LeftW B (X.env::X.outer) a (.ref (CN.ad c)) a0 s.heap h'->KpX Φ a h'->CXV X.prog X.w X.outer X.H₀ X.s₀ E (.ref a) {s with heap:=h'}:=by
  rintro h' ⟨k1,k2,k3,k4⟩ kh;have kp:∀b o,s.heap.get? b=some o->b∉frs X.stack->(s1.heap.get? b≠none\/H b≠none)->h'.get? b=some o:=fun b o q n z=>k1 b o (f.cov b o q n z);have out:∀b,b∉X.fs->b≠X.env.locals->b∉frs X.stack:=fun b n1 n2 z=>by rw[hfs]at z;rcases AF.mp z with z|z;exact n2 z;exact n1 z
  have trk:∀b,H b≠none->b∉frs X.stack:=fun b n z=>n (I.stkFree b z);refine⟨a,_,rowOf c,B,a0,H,rfl,I.os,I.bare,⟨fun b o q n hb hx=>?_,fun b o q n hb hx=>?_,fun b o q n hx=>I.base.free b o q n (noex b),fun b o q hx=>?_,I.base.tups,I.base.frzs,I.base.tbls⟩,fun b o q=>?_,?_,n2,⟨k1,f.newB,k2.2.2,.inl ⟨_,k3.at⟩,KpX.mono (hP▸kh) (fun d v⟨y1,y2⟩=>⟨y1,fun r e=>let ⟨d',z1,z2,z3,z4⟩:=y2 r e; ⟨d',z1,z2,z3,zO7 fun o q=>old1 d' o q z4⟩⟩),fun b o q n z=>?_⟩,hE⟩;exact kp b o (I.base.keep b o q n hb (noex b)) (out b hb (oldL b o q)) (.inl (old1 b o q));obtain⟨sl,e⟩:=I.base.slot b o q n hb (noex b);obtain⟨_,o',e',nf⟩:=f.frm.mem (b:=b) (by show b∈frs X.stack;rw[hfs];exact Ak _ hb);rw[e]at e';cases e';obtain⟨sl',e2⟩:=k4 b _ e nf;exact⟨sl',e2⟩;by_cases hb:b∈frs X.stack;obtain⟨_,o',e',_⟩:=k2.mem (b:=b) (by rw[hst]at hb;exact hb);exact⟨o',e'⟩;obtain⟨o',e'⟩:=I.base.there b o q (noex b);exact⟨o',kp b o' e' hb (.inl (old1 b o q))⟩;refine(I.hok b o q).stay (fun b' u hb' e=>?_) (fun _ z=>z) fun _ _ z=>z;have n:H b'≠none:=by rcases hb' with rfl|hb';exact wI q;exact wI hb'
  exact kp b' u e (trk b' n) (.inr n);cases q:X.s₀.heap.get? a with
  |none=>rfl
  |some o=>exact absurd n1 (old1 a o q)
  have nL:b≠X.env.locals:=by rcases z with z|z;obtain⟨o',q'⟩:=dC z;exact oldL b o' q';intro y;subst y;exact z I.free
  have ns:b∉frs X.stack:=out b n nL;obtain⟨o2,q2⟩:∃o2,s.heap.get? b=some o2:=by rcases z with z|z;obtain⟨o',q'⟩:=dC z;exact I.base.there b o' q' (noex b);exact yT3 I.hok z
  have z':s1.heap.get? b≠none\/H b≠none:=by rcases z with z|z;obtain⟨o',q'⟩:=dC z;exact .inl (old1 b o' q');exact .inr z
  have hB:=f.cov b o2 q2 ns z';have q3:=k1 b o2 hB;have q4:h'.get? b=some o:=q;rw[q3]at q4;cases q4;exact hB
 rcases f.raw with t|⟨oe,vs,he,hc,hd,h1,h0⟩;obtain⟨fl,t⟩:=t;unfold leaving;refine Ai (zX3 hA hfrm hfr t f.stays f.newB fk fun g⟨x1,x2,x3,x4⟩kg=>?_);exact flightK (s:={s with heap:=g}) x1 f.newB x2 x3 kg fun g2 fly ups k2=>key g2 ⟨fly.1,fly.2.2.1,fly.2.2.2,Heap.UpToSlots.trans x4 ups⟩ k2
 rw[<-hc]at key;unfold leaving noteFrame;simp only[hfr];refine Ai (Ai (wpAny_field he hd h1 ?_));rw[An (by decide)];refine entryK hA hfrm hfr he f.stays f.newB hd (Bh.mp h1).1 h0 fk fun g⟨x1,x2,x3,x4⟩kg=>?_;exact flightK (s:={s with heap:=g}) x1 f.newB x2 x3 kg fun g2 fly ups k2=>key g2 ⟨fly.1,fly.2.2.1,fly.2.2.2,Heap.UpToSlots.trans x4 ups⟩ k2
def Br(C:Ct):Prop:=∀(c:Str)(H:Hp)(e:Value)(s:Shared),ExcAt C.X c H e s->C.XE c H->C.X.xe e s
def wX(C:Ct):XK:=fun v ro H=>∃c,v=.ref (CN.ad c)/\ro=rowOf c/\C.XE c H
theorem passX(hb:Br C):Passes (CXV C.X.prog C.X.w) C.X (wX C):=by intro EA σ H s e s' I h;obtain⟨a,cls,ro,B,a0,H',rfl,os,bare,un,hok,n1,n2,f,c,rfl,rfl,z⟩:=h;exact hb c H' _ s' ⟨EA,σ,s,H,a,B,a0,I,I.call' os un hok bare (fun b z=>by cases z),un,rfl,n1,n2,f⟩ z
def spX(fr:Bool)(F:B8):Sp:=fun vs H Q E=>∃(ds:D0)(O:C2),(∀a,O a->H a≠none)/\Reps H O vs ds/\(F ds).post (fun d=>∀v H',Same H H'->CallOk fr O H H' v d->Q v H') (fun c=>∀H',Same H H'->E (.ref (CN.ad c)) (rowOf c) H')
section
variable {P:Program}{w:World}{K:KFr}{mg:B9}{base:Heap}
abbrev bodyX(P:Program)(w:World)(K:KFr)(mg:B9)(base:Heap)(N:C4)(x:Str)(sc:Scope)(f:Addr)(cdv:Value)(A:Around)(outer:List Env)(s:Shared)(H:Hp)(E:XK)(om:C5):Ct:=⟨cxOf (CXV P w) P w K mg base N x sc f cdv A outer s H E,fun c H'=>E (.ref (CN.ad c)) (rowOf c) H',om,[]⟩
theorem zQ{N:C4}{x:Str}{f:Addr}{A:Around}{outer:List Env}{E:XK}{om:C5}:Br (bodyX P w K mg base N x sc f cdv A outer s H E om):=fun c H' e s' x h=>xJ2 x rfl rfl rfl h
theorem wJ1{x:Str}{st:Stmt}{f:Addr}{fd:FuncData}{N:C4}{k:Nat}{m:B6}(om:C5)(F:Fun K x x st f fd)(S:vK N ps (zH st))(hbody:∀(cdv:Value)(A:Around)(outer:List Env)(s:Shared)(H:Hp)(E:XK),Room k (A.deeper (envOfC x (zH st) s.heap.objs.size f cdv))->RSs (bodyX P w K mg base N x (zH st) f cdv A outer s H E om) fr (defBody st) m)(hom:autoParam (om.all (fun i=>decide (ps.length<=i))=true) Ey):FnOk P w K mg base (CXV P w) (k+1) f fd ps (spX fr (runF fr ps.length N.length m)):=by
 have len:∀(vs:C8)(H:Hp)(Q:VK)(E:XK),spX fr (runF fr ps.length N.length m) vs H Q E->vs.length=ps.length:=fun vs H Q E h=>by obtain⟨ds,O,oh,r,k⟩:=h;unfold runF at k;split at k;rename_i hl;rw[r.length];exact hl;exact k.elim
 obtain⟨oc,od,kV,doc,pm,an,cdv,ct,osl,rfl,lk,hcd⟩:=F.ex;refine yQ2 lk hcd S len fun A outer s H vs Q E hr h=>?_;have hvl:=len vs H Q E h;obtain⟨ds,O,oh,r,k⟩:=h;have hl:ds.length=ps.length:=by rw[<-r.length];exact hvl
 unfold runF at k;rw[Ae hl]at k;obtain⟨t,p,q⟩:=hbody cdv A outer s H E hr;refine⟨t,p,q ⟨O,fun _=>0⟩ (fun _=>False) _ H (ds.map some++List.replicate (N.length-ps.length) none) _ ?_ ?_⟩;refine⟨?_,fun i d e _ _=>?_,fun i d e ho=>?_,fun i d e _ hl=>(nomatch hl),fun i j di dj a ei _ ho _ _ _=>?_,fun a z=>oh a (z.elim id fun z=>z.elim),fun a z=>z.elim⟩;unfold start;rw[Aj,Aj,Aa,Aa,Bz,Bz,hvl,hl];obtain⟨v,ev,rv⟩:=r.get (zS8 e);exact⟨v,wY1 ev,rv.less fun b z=>z.elim id fun z=>z.elim⟩;have h1:=(AD.mp (zS8 e)).1;have h2:ps.length<=i:=of_decide_eq_true (Bt.mp hom i ho);rfl';have h1:=(AD.mp (zS8 ei)).1;have h2:ps.length<=i:=of_decide_eq_true (Bt.mp hom i ho);rfl';have same:∀{H':Hp},Frm (fun _=>False) H H'->Same H H':=fun f b o e=>f b o e fun z=>z;refine Res.zP (Res.zS k) (fun o _ k=>?_) fun c z H' f=>z H' (same f);cases o with
 |rt d=>
  intro v H' f rt;refine k v H' (same f) ?_;cases fr with
  |false=>exact rt
  |true=>obtain⟨a,ys,ds,e1,e2,e3,e4,e5,e6⟩:=rt;exact⟨a,ys,ds,e1,e2,e3.elim id fun z=>z.elim,e5,e6⟩
 |nx ρ'=>
  cases fr with
  |true=>exact k.elim
  |false=>exact fun σ' H' Ob' R f s=>k .non H' (same f) Rep.non
end
theorem yP4{k:Nat}{f:Addr}{fd:FuncData}{F:B8}{x:Str}{p:Pos}{st:Stmt}(G:FnOk C.X.prog C.X.w C.X.K C.X.mg C.X.base (CXV C.X.prog C.X.w) k f fd ps (spX fr F))(hh:Has C.X.K C.X.mg x st f fd ps)(hr:Room k C.X.A)(hb:Br C)(ha:RArg C true (e::es) ms)(hg:autoParam (Gl C.X x) Ey)(hdb:autoParam ((x==("__debug__":Str))=false) Ex)(he:autoParam (starEach (e::es) C.X.env=(false,eval e C.X.env)::starEach es C.X.env) Ey)(hpl:autoParam ((backTo pos (starEach es C.X.env)).any (·.1)=false) Ey):RE C (mdF fr) (.Call (.Name x p) (e::es) [] pos) (eF F ms):=by
 obtain⟨t,pa,q⟩:=ha;refine⟨_,zP7 G hr hg hh.m hh.F.kp hh.b .nil (passX hb) pa hdb he hpl,fun Oc Ob σ H ρ Q R h=>?_⟩;refine q Oc Ob σ H ρ _ R (Res.zP (Res.zS h) (fun ds _ k vs H1 s1 r=>?_) fun c z=>z);show spX fr F (vs++[]) H1 Q (wX C);rw[BP];refine⟨ds,Uni Oc Ob,(R.same s1).oh,r,Res.zP k (fun d _ k v H' s2 rv=>?_) fun c z H' s2=>⟨c,rfl,rfl,z H' (s1.trans s2)⟩⟩;refine k v H' (s1.trans s2) ?_;cases fr with
 |false=>exact rv
 |true=>obtain⟨a,ys,ds,e1,e2,e3,e4,e5⟩:=rv;exact⟨a,ys,ds,e1,e2,s1.free e3,e4,e5⟩
theorem xH4{k:Nat}{f:Addr}{fd:FuncData}{F:B8}{x:Str}{p:Pos}{st:Stmt}(G:FnOk C.X.prog C.X.w C.X.K C.X.mg C.X.base (CXV C.X.prog C.X.w) k f fd ps (spX fr F))(hh:Has C.X.K C.X.mg x st f fd ps)(hr:Room k C.X.A)(hb:Br C)(ha:RArg C false (e::es) ms)(hg:autoParam (Gl C.X x) Ey)(hdb:autoParam ((x==("__debug__":Str))=false) Ex)(he:autoParam (starEach (e::es) C.X.env=(false,eval e C.X.env)::starEach es C.X.env) Ey)(hpl:autoParam ((backTo pos (starEach es C.X.env)).any (·.1)=false) Ey):RE C (mdF fr) (.Call (.Name x p) (e::es) [] pos) (eFA fr F ms):=by
 obtain⟨t,pa,q⟩:=ha;refine⟨_,zP7 G hr hg hh.m hh.F.kp hh.b .nil (passX hb) pa hdb he hpl,fun Oc Ob σ H ρ Q R h=>?_⟩;refine q Oc Ob σ H ρ _ R (Res.zP (Res.zS h) (fun ds _ k vs H1 s1 r=>?_) fun c z=>z);show spX fr F (vs++[]) H1 Q (wX C);rw[BP];refine⟨ds,fun b=>Uni Oc Ob b/\¬∃ys,H1 b=some (.lst ys),fun a z=>(R.same s1).oh a z.1,VAs.lent r,Res.zP (Res.zS k) (fun d _ k v H' s2 rv=>?_) fun c z H' s2=>⟨c,rfl,rfl,z H' (s1.trans s2)⟩⟩;have hB:∀b,(∃ys,H1 b=some (.lst ys))->∃ys,H' b=some (.lst ys):=fun b⟨ys,e⟩=>⟨ys,s2 _ _ e⟩;by_cases hl:lfT fr d=true;rw[Ae hl]at k;refine k v H' (s1.trans s2) ?_;cases fr with
 |false=>exact Rep.lf hB rv (by cases d<;>exact hl)
 |true=>obtain⟨a,ys,ds,e1,rfl,e3,e4,e5⟩:=rv;have e5':Reps H' (fun b=>(Uni Oc Ob b\/b=a)/\¬∃ys,H1 b=some (.lst ys)) ys ds:=e5.less fun b z=>z.1.elim (fun q=>.inl ⟨q,z.2⟩) .inr;exact⟨a,ys,ds,e1,rfl,s1.free e3,e4,Reps.lf hB e5' hl⟩
 rw[An hl]at k;exact k.elim
section
variable {C:Ct}{k:Nat}{f:Addr}{fd:FuncData}{ps:C4}{F:B8}{x:Str}{p pos:Pos}{e:Expr}{es:C7}{ms:Ev->Res (D0)}{st:Stmt}
theorem zN(G:FnOk C.X.prog C.X.w C.X.K C.X.mg C.X.base (CXV C.X.prog C.X.w) k f fd ps (spX false F))(hh:Has C.X.K C.X.mg x st f fd ps)(hr:Room k C.X.A)(hb:Br C)(ha:RArg C true (e::es) ms)(hg:autoParam (Gl C.X x) Ey)(hdb:autoParam ((x==("__debug__":Str))=false) Ex)(he:autoParam (starEach (e::es) C.X.env=(false,eval e C.X.env)::starEach es C.X.env) Ey)(hpl:autoParam ((backTo pos (starEach es C.X.env)).any (·.1)=false) Ey):RE C .cl (.Call (.Name x p) (e::es) [] pos) (eF F ms):=yP4 (fr:=false) G hh hr hb ha hg hdb he hpl
theorem xB(G:FnOk C.X.prog C.X.w C.X.K C.X.mg C.X.base (CXV C.X.prog C.X.w) k f fd ps (spX true F))(hh:Has C.X.K C.X.mg x st f fd ps)(hr:Room k C.X.A)(hb:Br C)(ha:RArg C true (e::es) ms)(hg:autoParam (Gl C.X x) Ey)(hdb:autoParam ((x==("__debug__":Str))=false) Ex)(he:autoParam (starEach (e::es) C.X.env=(false,eval e C.X.env)::starEach es C.X.env) Ey)(hpl:autoParam ((backTo pos (starEach es C.X.env)).any (·.1)=false) Ey):RE C .new (.Call (.Name x p) (e::es) [] pos) (eF F ms):=yP4 (fr:=true) G hh hr hb ha hg hdb he hpl
theorem zG8(G:FnOk C.X.prog C.X.w C.X.K C.X.mg C.X.base (CXV C.X.prog C.X.w) k f fd ps (spX false F))(hh:Has C.X.K C.X.mg x st f fd ps)(hr:Room k C.X.A)(hb:Br C)(ha:RArg C false (e::es) ms)(hg:autoParam (Gl C.X x) Ey)(hdb:autoParam ((x==("__debug__":Str))=false) Ex)(he:autoParam (starEach (e::es) C.X.env=(false,eval e C.X.env)::starEach es C.X.env) Ey)(hpl:autoParam ((backTo pos (starEach es C.X.env)).any (·.1)=false) Ey):RE C .cl (.Call (.Name x p) (e::es) [] pos) (eFA false F ms):=xH4 (fr:=false) G hh hr hb ha hg hdb he hpl
end
end L2.L3
namespace L2
open PySem PySem.Spec PyProof.Rows
section
variable {X:Cx}{EA:A9}{σ:St}{H:Hp}{s:Shared}
theorem Inv.track{a:Addr}{o:HO}(I:Inv X EA σ H s)(n:H a=none)(n0:X.s₀.heap.get? a=none)(nL:a≠X.env.locals)(nC:∀x c,X.env.cells.lookup x=some c->c≠a)(nP:∀p∈X.pn++EA,p.1≠a)(new:ObjOk X.prog X.w (upd H a o) s.heap a o):Inv X EA σ (upd H a o) s:=by
 have ne:∀b u,H b=some u->b≠a:=fun b u e z=>by subst z;rw[n]at e;cases e
 have up:∀b u,H b=some u->upd H a o b=some u:=fun b u e=>by rw[zJ (ne b u e)];exact e
 refine⟨I.ok,I.os,I.bare,⟨I.base.keep,I.base.slot,fun b u q z hx=>?_,I.base.there,fun b xs q=>up _ _ (I.base.tups b xs q),fun b u v q=>up _ _ (I.base.frzs b u v q),fun b ps q=>?_⟩,I.loc,I.cell,?_,fun x c e=>?_,fun p hp=>?_,fun b u e=>?_,I.len⟩;have:b≠a:=fun y=>by subst y;rw[n0]at q;cases q
 rw[zJ this];exact I.base.free b u q z hx;obtain⟨more,e⟩:=I.base.tbls b ps q;exact⟨more,up _ _ e⟩;rw[zJ (Bv nL)];exact I.free;rw[zJ (nC x c e)];exact I.freeC x c e;obtain⟨e,m,x1,x2,x3⟩:=I.pin p hp;exact⟨e,by rw[zJ (nP p hp)];exact m,x1,x2,x3⟩;by_cases h:b=a;subst h;rw[yU]at e;cases e;exact new;rw[zJ h]at e;exact(I.hok b u e).stay (fun _ _ _ q=>q) (fun c q=>up _ _ q) fun c xs q=>up _ _ q
end
end L2
namespace L2.L3
open PySem PySem.Spec PyProof.Rows
variable [CN]
abbrev bmV:C3:=[.type "ValueError",.type "Exception",.type "BaseException",.type "object"]
def OwnX(K:KFr)(x:Str):Prop:=PySem.W.excIn K (CN.ad x) bmV "ValueError.__new__"=true
theorem wS7{K:KFr}{A:Addr}{bmB:C3}{nid:String}(X:K.In h)(q:PySem.W.excIn K A bmB nid=true):∃(tl:C3)(N:Addr)(nm qn:Str)(bs:C3)(hd:Bool)(sn:C4)(sb:C3)(ab:Bool)(co:Option Bool)(dd:Option Addr)(k0 k1 k2 k3 k5:Option Value)(mN:B9),h.get? A=some (excClassObj nm qn A N bs tl hd sn sb ab co dd k0 k1 k2 k3 k5 nid)/\h.Ns N mN/\mN "__init__"=none/\OwnTail h bmB tl:=by
 revert q;rw[PySem.W.excIn];split
 case h_2=>exact fun q=>nomatch q
 case h_1 dd cd sl lk=>
  split
  case h_2=>exact fun q=>nomatch q
  case h_1 A' tl j0 j1 j2 j3 nn j5 em es=>intro q;rw[AL,AL,AL,AL,AL]at q;have q6:=q.2;have q5:=q.1.2;have q4:=q.1.1.2;have q3:=q.1.1.1.2;have q2:=eq_of_beq q.1.1.1.1.2;have q1:=eq_of_beq q.1.1.1.1.1;cases cd;cases sl;simp only at em es q3 q5 q6;subst em es q1 q2;simp only[Bool.not_eq_true']at q3;subst q3;exact⟨_,_,_,_,_,_,_,_,_,_,_,_,_,_,_,_,_,X _ _ lk,.of_isNs (PySem.W.isNs_of_in X q5),PySem.W.nsMap_none_of_in X q5 (eq_of_beq q6),PySem.W.tail_of_in X q4⟩
theorem wW5{X:Cx}{c:Str}{e:Addr}{args:C3}(I:Inv X EA σ H s)(hro:rowOf c=none)(m:Heap.MadeExcOf s.heap h' e (.ref (CN.ad c)) args):ExcAt X c H (.ref e) {s with heap:=h'}:=by
 obtain⟨t,he,_,_⟩:=m.there;have I2:Inv X EA σ H {s with heap:=h',toks:=s.toks}:=I.kept m.keeps;have n:H e=none:=by
  cases q:H e with
  |none=>rfl
  |some o=>obtain⟨u,z⟩:=qR (I.hok e o q);rw[m.new]at z;cases z
 refine⟨EA,σ,s,H,e,PySem.W.hideAll h' (e::frs X.stack),.ref t,I,I2,Un.kept m.keeps,rfl,m.new,n,fun b o q=>DD _ q,Dn _ (.head _),DJ I2.stack fun env he a ha=>Ak _ (BN.mpr ⟨env,he,ha⟩),.inr ⟨_,_,he,rfl,rfl,rfl,rfl⟩,⟨_,_,_,he,rfl,rfl,fun _=>rfl,fun r z=>by rw[hro]at z;cases z⟩,fun b o q nb z=>CO _ q fun hb=>?_⟩;rcases AF.mp hb with rfl|hb;rcases z with z|z;exact z m.new;exact z n;exact nb hb
def sRa(c:Str)(m:Ev->Res (D0)):B6:=fun ρ=>(m ρ).bind fun ds=>if ds.length<=sizeLine then .ex c else .no
theorem vZ{x:Str}(hb:Br C)(ho:OwnX C.X.K x)(hm:C.X.mg x=some (.ref (CN.ad x)))(ha:RArg C false (e::es) ms)(hc:autoParam (C.X.calm=true) Ey)(hg:autoParam (Gl C.X x) Ey)(hdb:autoParam ((x==("__debug__":Str))=false) Ex)(he:autoParam (starEach (e::es) C.X.env=(false,eval e C.X.env)::starEach es C.X.env) Ey)(hpl:autoParam ((backTo cpos (starEach es C.X.env)).any (·.1)=false) Ey)(hro:autoParam (rowOf x=none) autoK14._auto_1):RS C fr (.Raise (some (.Call (.Name x np) (e::es) [] cpos)) none pos) (sRa x ms):=by obtain⟨t,pa,q⟩:=ha;refine⟨fun _ σ H=>t σ H fun vs H1=>vs.length<=sizeLine/\C.XE x H1,fun EA s σ H D I h=>?_,fun Oc Ob σ H ρ E R h=>q Oc Ob σ H ρ _ R (Res.zP (Res.zS h) (fun ds _ k vs H' s r=>?_) fun c z H' s=>z H' (Same.frm s))⟩;obtain⟨tl,N,nm,qn,bs,hd,sn,sb,ab,co,dd,k0,k1,k2,k3,k5,mN,hC,hN,hni,T⟩:=wS7 I.mod.kin ho;refine wpAny_Raise_call_subT (C:=CN.ad x) (nm:=nm) (q:=qn) (N:=N) (bs:=bs) (bm:=tl) (hdct:=hd) (sn:=sn) (sub:=sb) (ab:=ab) (col:=co) (dd:=dd) (k0:=k0) (k1:=k1) (k2:=k2) (k3:=k3) (k5:=k5) Cv (mN:=mN) (T.hasType Cv.hasBase) (I.ok.hd hc) (by rw[he];show(false ||(backTo cpos (starEach es C.X.env)).any (·.1))=false;rw[hpl];rfl) hni (jS I hg hm ⟨rfl,?_⟩ hdb);have h2:=pa cpos EA s σ H _ I h;rw[he]at h2 ⊢;refine Ea (wpAny_mono h2 (fun us s2⟨vs,H2,I2,r,hl,z⟩=>?_) fun _ _ y=>y);exact⟨rfl,by rw[<-r.length];exact hl,I2.bk _ _ hC,hN.keeps I2.bk,T.keeps I2.bk,fun h' a m=>hb x H2 _ _ (wW5 I2 hro m) z⟩;by_cases hl:ds.length<=sizeLine;rw[Ae hl]at k;exact⟨by rw[(VAs.rep r).length];exact hl,k H' (Same.frm s)⟩;rw[An hl]at k;exact k.elim
end L2.L3
namespace PySem
section
variable {prog:Program}{w:World}{A:Around}{E:A8}{h:Heap}{g:Array GenState}{d:Drawn}{t:Nat}{os:OsState}{a C:Addr}{o:Obj}{K:KFr}
structure ExK(K:KFr)(C:Addr):Prop where
 ga:PySem.W.findIn K (.ref C) "__getattribute__"=some (some (.builtin "BaseException.__getattribute__"))
 gn:PySem.W.findIn K (.ref C) "__getattr__"=some none
 cl:PySem.W.findIn K (.ref C) "__class__"=some (some (.builtin "object.__class__"))
 sb:PySem.W.subIn K (.ref C) (.type "BaseException")=some true
 so:PySem.W.subIn K (.ref C) (.type "object")=some true
 ci:(PySem.W.clsIn K C).isSome=true
variable {dd:Option Addr}{dt:Data}{sl:Array (Option Value)}{x:Shared}
end
theorem yV4{K:KFr}{M:Model}{A:Around}{Q:Bool->Shared->Prop}{a c x:Addr}{o:Obj}(X:K.In s.heap)(he:s.heap.get? a=some o)(hc:o.cls=.ref c)(hk:PySem.W.kitCls K (.ref c) (.ref x)=some true)(hb:PySem.W.subIn K (.ref x) (.type "BaseException")=some true)(hq:Q true s):wpAny M A (excMatches (.ref a) (.ref x)) Q E s:=by
 obtain⟨hh,g,d,t,os⟩:=s;obtain⟨L1,L2,L3⟩:=PySem.W.kit_cls (M:=M) X hk;have L4:=PySem.W.looks_subIn (M:=M) X hb;have f:=tc_notTuple;unfold excMatches isExcClass
 repeat (first|(with_reducible refine wpAny_loadPart_at he ?_;rw[hc])|(with_reducible refine L1.at ?_)|(with_reducible refine L2.at ?_)|(with_reducible refine L3.at ?_)|(with_reducible refine L4.at ?_)|wp_step)
 exact hq
end PySem
namespace L2.L3
open PySem PySem.Spec PyProof.Rows
variable [CN]
theorem zG1{X:Cx}{s1:Shared}{a:Addr}{cls:Value}{ro:Option Nat}{B:Heap}{a0:Value}(I1:Inv X EA σ H1 s1)(I:Inv X EA σ H s)(un:Un (frs X.stack) [] H1 H s1.heap s.heap)(f:Fl X.stack s1.heap H a cls ro B a0 s.heap)(k1:B.StaysIn h')(k2:h'.FunFrames B X.stack)(k4:s.heap.UpToSlots h'):Inv X EA σ H {s with heap:=h'}/\Un (frs X.stack) [] H1 H s1.heap h'/\∀b o,h'.get? b=some o->b∉frs X.stack->(s1.heap.get? b≠none\/H b≠none)->B.get? b=some o:=by
 have kp:∀b o,s.heap.get? b=some o->b∉frs X.stack->(s1.heap.get? b≠none\/H b≠none)->h'.get? b=some o:=fun b o q n z=>k1 b o (f.cov b o q n z);have un':Un (frs X.stack) [] H1 H s1.heap h':=by refine⟨fun b o q n hb hx=>kp b o (un.keep b o q n hb hx) hb (.inl (wI q)),fun b o q n hb hx=>?_,un.free,fun b o q hx=>?_,un.tups,un.frzs,un.tbls⟩;obtain⟨sl,e⟩:=un.slot b o q n hb hx;obtain⟨_,o',e',nf⟩:=f.frm.mem (b:=b) hb;rw[e]at e';cases e';obtain⟨sl',e2⟩:=k4 b _ e nf;exact⟨sl',e2⟩;by_cases hb:b∈frs X.stack;obtain⟨_,o',e',_⟩:=k2.mem (b:=b) hb;exact⟨o',e'⟩;obtain⟨o',e'⟩:=un.there b o q hx;exact⟨o',kp b o' e' hb (.inl (wI q))⟩
 have hok:HOk X.prog X.w H h':=fun b o q=>by
  refine(I.hok b o q).stay (fun b' u hb' e=>?_) (fun _ z=>z) fun _ _ z=>z;have n:H b'≠none:=by rcases hb' with rfl|hb';exact wI q;exact wI hb'
  exact kp b' u e (fun z=>n (I.stkFree b' z)) (.inr n)
 refine⟨I1.call' (s':={s with heap:=h'}) (I.os.trans I1.os.symm) un' hok I.bare (fun b z=>by cases z),un',fun b o q n z=>?_⟩;obtain⟨o2,q2⟩:∃o2,s.heap.get? b=some o2:=by rcases z with z|z;obtain⟨o',q'⟩:=dC z;exact un.there b o' q' (by simp);exact yT3 I.hok z
 have hB:=f.cov b o2 q2 n z;have q3:=k1 b o2 hB;rw[q]at q3;cases q3;exact hB
theorem yU7{X:Cx}{c:Str}{e:Value}{E2:A8}{Q:Shared->Prop}(x:ExcAt X c H e s)(hst:X.stack=X.env::X.outer)(hfr:X.env.frame=some X.env.locals)(hQ:∀(EA:A9)(σ:St)(s1:Shared)(H1:Hp)(a:Addr)(B:Heap)(a0:Value)(s':Shared),Inv X EA σ H1 s1->Inv X EA σ H s'->Un (frs X.stack) [] H1 H s1.heap s'.heap->e=.ref a->s1.heap.get? a=none->H a=none->Fl X.stack s1.heap H a (.ref (CN.ad c)) (rowOf c) B a0 s'.heap->s'.heap.TracedW B a (.ref (CN.ad c)) a0->Q s'):wpAny (model X.prog X.w) X.A (noteFrame e X.env) (fun _ s₂=>wpAny (model X.prog X.w) X.A (setFlight e none) (fun _ s₃=>Q s₃) E2 s₂) E2 s:=by
 obtain⟨EA,σ,s1,H1,a,B,a0,I1,I,un,rfl,n1,n2,f⟩:=x;have hfrm:s.heap.FunFrames B (X.env::X.outer):=by rw[<-hst];exact f.frm
 have hA:X.A.frames=some (X.env::X.outer):=by rw[<-hst];exact I.ok.frames
 obtain⟨Φ,hP⟩:∃Φ,Φ=FlK (.ref (CN.ad c)) (rowOf c) B s1.heap H:=⟨_,rfl⟩;have fk:KpX Φ a s.heap:=hP▸f.kp;have key:∀h',Heap.NotedW B (X.env::X.outer) a (.ref (CN.ad c)) a0 (rawInt X.env.locals) s.heap h'->KpX Φ a h'->wpAny (model X.prog X.w) X.A (setFlight (.ref a) none) (fun _ s₃=>Q s₃) E2 {s with heap:=h'}:=by rintro h' ⟨k1,k2,k3,k4⟩ kh;rw[<-hst]at k2;refine flightK (s:={s with heap:=h'}) (B:=B) (l:=X.stack) (cls:=.ref (CN.ad c)) (a0:=a0) k1 f.newB k2 k3 kh fun h2 fly ups kh2=>?_;have ups2:s.heap.UpToSlots h2:=Heap.UpToSlots.trans k4 ups;obtain⟨J,un2,cov⟩:=zG1 I1 I un f fly.1 fly.2.2.1 ups2;exact hQ EA σ s1 H1 a B a0 _ I1 J un2 rfl n1 n2 ⟨fly.1,f.newB,fly.2.2.1,.inl ⟨_,fly.2.2.2.at⟩,hP▸kh2,cov⟩ fly.2.2.2
 rcases f.raw with t|⟨oe,vs,he,hc,hd,h1,h0⟩;obtain⟨fl,t⟩:=t;exact zX3 hA hfrm hfr t f.stays f.newB fk key;rw[<-hc]at key;unfold noteFrame;simp only[hfr];refine Ai (wpAny_field he hd h1 ?_);rw[An (by decide)];exact entryK hA hfrm hfr he f.stays f.newB hd (Bh.mp h1).1 h0 fk key
theorem wR9{w:World}{d:Addr}{r:Int}(p:Row d r h):ObjOk P w H h d (.ext (Row d r)):=⟨p,let ⟨_,o,_,_,e,_⟩:=p; ⟨o,e⟩,fun _ _ q k=>q.keeps k⟩
abbrev inTry(X:Cx)(pn:A9)(xe:A8):Cx:={X with pn:=pn,xe:=xe}
abbrev inSuite(X:Cx)(e:Value):Cx:={X with A:=X.A.mark (some e),calm:=false,xe:=fun _ _=>False}
theorem Inv.toTry{X:Cx}(I:Inv X EA σ H s)(xe:A8):Inv (inTry X (X.pn++EA) xe) [] σ H s:=⟨⟨I.ok.mod,I.ok.kind,I.ok.glob,I.ok.blt,I.ok.above,I.ok.inj,I.ok.has,I.ok.cab,I.ok.hd,I.ok.frames,I.ok.stk,I.ok.exf,I.ok.bs,I.ok.bsz,I.ok.noex,I.ok.exfs,I.ok.funs,I.ok.frf⟩,I.os,I.bare,I.base,I.loc,I.cell,I.free,I.freeC,fun p hp=>I.pin p (by simpa using hp),I.hok,I.len⟩
theorem Inv.ofTry{X:Cx}{pins':A9}{xe:A8}(I:Inv (inTry X (X.pn++EA) xe) pins' σ H s):Inv X EA σ H s:=⟨⟨I.ok.mod,I.ok.kind,I.ok.glob,I.ok.blt,I.ok.above,I.ok.inj,I.ok.has,I.ok.cab,I.ok.hd,I.ok.frames,I.ok.stk,I.ok.exf,I.ok.bs,I.ok.bsz,I.ok.noex,I.ok.exfs,I.ok.funs,I.ok.frf⟩,I.os,I.bare,I.base,I.loc,I.cell,I.free,I.freeC,fun p hp=>I.pin p (AG _ hp),I.hok,I.len⟩
theorem Inv.toSuite{X:Cx}(I:Inv X EA σ H s)(e:Value):Inv (inSuite X e) EA σ H s:=⟨⟨I.ok.mod,I.ok.kind,I.ok.glob,I.ok.blt,I.ok.above,I.ok.inj,I.ok.has,I.ok.cab,(fun z=>nomatch z),I.ok.frames,I.ok.stk,I.ok.exf,I.ok.bs,I.ok.bsz,I.ok.noex,I.ok.exfs,I.ok.funs,I.ok.frf⟩,I.os,I.bare,I.base,I.loc,I.cell,I.free,I.freeC,I.pin,I.hok,I.len⟩
theorem Inv.ofSuite{X:Cx}{e:Value}(ok:X.Ok)(I:Inv (inSuite X e) EA σ H s):Inv X EA σ H s:=⟨ok,I.os,I.bare,I.base,I.loc,I.cell,I.free,I.freeC,I.pin,I.hok,I.len⟩
theorem SP.ofTry{X:Cx}{EA pins':A9}{xe:A8}{D:Ends}{f:Flow}{s':Shared}(h:SP (inTry X (X.pn++EA) xe) pins' D f s'):SP X EA D f s':=by
 cases f with
 |next=>obtain⟨σ',H',I,q⟩:=h;exact⟨σ',H',Inv.ofTry I,q⟩
 |brk=>obtain⟨σ',H',I,q⟩:=h;exact⟨σ',H',Inv.ofTry I,q⟩
 |cont=>obtain⟨σ',H',I,q⟩:=h;exact⟨σ',H',Inv.ofTry I,q⟩
 |ret u=>obtain⟨v,σ',H',I,r,q⟩:=h;exact⟨v,σ',H',Inv.ofTry I,r,q⟩
theorem xN5{α:Type}{r:Res α}{Q:α->Prop}{E:Str->Prop}(h:(noEx r).post Q E):r.post Q (fun _=>False):=by
 cases r with
 |ok a=>exact h
 |ex c=>exact h.elim
 |no=>exact h
section
variable {C:Ct}{e:Expr}{x:Str}{p p2 p3 pos:Pos}{md:Md}{me:B5}
end
omit [CN] in
theorem wU(c:Str)(m:Ev->Res (D0))(ρ:Ev):sRa c m ρ=(m ρ).bind fun ds=>if ds.length<=sizeLine then .ex c else .no:=rfl
theorem wT2{K:KFr}{cls:C4}(h:∀c∈cls,PySem.W.kitCls K (.ref (CN.ad c)) u=some true):∀c,cls.contains c=true->PySem.W.kitCls K (.ref (CN.ad c)) u=some true:=fun c hc=>h c (AV.mp hc)
end L2.L3
namespace L2.L3
open PySem PySem.Spec PyProof.Rows
theorem uI{K:KFr}{t c:Value}{v:Bool}(h:PySem.W.kitOne K t c=some v)(n:(t==c)=false):PySem.W.kitCls K t c=some v:=by rw[PySem.W.kitOne,An (by rw[n];decide)]at h;exact h
theorem xY8{K:KFr}{A:Addr}{T:String}{v:Bool}(h:PySem.W.kitOne K (.ref A) (.type T)=some v):PySem.W.subIn K (.ref A) (.type T)=some v:=by have h2:=uI h rfl;rw[PySem.W.kitCls]at h2;split at h2;exact h2;cases h2
def cnOf(K:KFr):CN:=⟨fun x=>match PySem.W.nsIn K mainGlobals (if (rowOf x).isSome then"BadText" else x)with|some (some (.ref a))=>a|_=>0⟩
theorem aU{K:KFr}{x:Str}{a:Addr}(h:PySem.W.nsIn K mainGlobals x=some (some (.ref a)))(hr:autoParam (rowOf x=none) autoK14._auto_1):(cnOf K).ad x=a:=by show(match PySem.W.nsIn K mainGlobals (if (rowOf x).isSome then"BadText" else x)with|some (some (.ref a))=>a|_=>0)=a;rw[hr];show(match PySem.W.nsIn K mainGlobals x with|some (some (.ref a))=>a|_=>0)=a;rw[h]
theorem xE8:rowOf "BadText"=none:=by decide+kernel
theorem xI8{F:B8}{k:Nat}{l:PySem.W.OpenLaw}{q:Program}{loose:C4}{XP:(B9)->Heap->Prop}{YP:World->Heap->Prop}{d:DefRec}{K:Params->KFr}(hT:∀ns:C6,ns.length<=63->F [.list (ns.map PyData.int)]=.ok (.bool true))(hr:Room k callerA)(hn:l.most=some 63)(hdf:d.params.defaults=[])(hY:∀(w:World)(h:Heap),YP w h->(K w.params).In h)(hL:∀w:World,noLst (K w.params)=true)(hF:∀(w:World)(mg:B9)(fa:Addr)(h:Heap),(K w.params).In h->h.Ns mainGlobals mg->mg d.name=some (.ref fa) ->∃fd:FuncData,(∀(s:Shared)(u:Value),BindsTo s fd ⟨[u],[]⟩ [("script",u)])/\∀base:Heap,(K w.params).In base->base.Ns mainGlobals mg->FnOk l.prog w (K w.params) mg base (@CXV (cnOf (K w.params)) l.prog w) k fa fd ["script"] (@spX (cnOf (K w.params)) false F)):PySem.W.WalkO q loose XP YP l.row.toRowW d [] (fun f vs=>PySem.call f vs):=by
 refine L2.wN2 (n:=63) (k:=k) (x:="script") (CX:=fun w=>@CXV (cnOf (K w.params)) l.prog w) (sp:=fun w=>@spX (cnOf (K w.params)) false F) hn (by decide) hdf hr hY hF (fun w H a ns hl hO hS=>?_) fun w H s e s' z=>?_
 letI:=cnOf (K w.params)
 refine⟨[.list (ns.map PyData.int)],fun _=>False,fun a z=>z.elim,.cons (.lst (yQ5 (hL w) hS) (fun z=>z) (aX ns)) .nil,?_⟩;rw[hT ns hl];intro v H' _ r;cases (show Rep H' (fun _=>False) v (.bool true)from r);rfl;obtain⟨_,_,_,_,_,_,_,_,_,_,_,_,_,_,z⟩:=z;exact z
end L2.L3
namespace MR
theorem pigeon:∀(n:Nat)(f:Nat->Nat),(∀i,i<=n->f i<n)->∃i j,i<j/\j<=n/\f i=f j
 |0,f,h=>absurd (h 0 (Ac _)) (by rfl')
 |n+1,f,h=>by
  by_cases c:∃i,i<=n/\f i=f (n+1);obtain⟨i,hi,e⟩:=c;exact⟨i,n+1,by rfl',Ac _,e⟩;have ne:∀i,i<=n->f i≠f (n+1):=fun i hi e=>c ⟨i,hi,e⟩;obtain⟨i,j,h1,h2,e⟩:=pigeon n (fun i=>if f (n+1)<f i then f i-1 else f i) fun i hi=>by have a:=h i (by rfl');have b:=h (n+1) (Ac _);have d:=ne i hi;show(if f (n+1)<f i then f i-1 else f i)<n;split<;>rfl'
  refine⟨i,j,h1,by rfl',?_⟩;have di:=ne i (by rfl');have dj:=ne j h2;have e:(if f (n+1)<f i then f i-1 else f i)=(if f (n+1)<f j then f j-1 else f j):=e;split at e<;>split at e<;>rfl'
structure Ord(n:Nat)(xs:C6):Prop where
 len:xs.length=n
 bd:∀i,i<n->0<=xs.getD i 0/\xs.getD i 0<n
 inj:∀i j,i<n->j<n->xs.getD i 0=xs.getD j 0->i=j
def nxt(xs:C6)(b:Nat):Nat:=(xs.getD b 0).toNat
def it(xs:C6):Nat->Nat->Nat
 |0,b=>b
 |k+1,b=>nxt xs (it xs k b)
section
variable {n:Nat}{xs:C6}
theorem Ord.xJ8(o:Ord n xs){b:Nat}(h:b<n):nxt xs b<n:=by have:=o.bd b h;unfold nxt;rfl'
theorem Ord.gG(o:Ord n xs){b:Nat}(h:b<n):xs.getD b 0=(nxt xs b:Int):=by have:=o.bd b h;unfold nxt;rfl'
theorem Ord.wN3(o:Ord n xs){b c:Nat}(h:b<n)(h':c<n)(e:nxt xs b=nxt xs c):b=c:=o.inj b c h h' (by rw[o.gG h,o.gG h',e])
theorem Ord.qT(o:Ord n xs){b:Nat}(h:b<n):∀k,it xs k b<n
 |0=>h
 |k+1=>o.xJ8 (o.qT h k)
theorem qA(xs:C6)(b:Nat)(j:Nat):∀k,it xs (k+j) b=it xs k (it xs j b)
 |0=>by rw[Nat.zero_add];rfl
 |k+1=>by rw[Nat.add_right_comm];show nxt xs (it xs (k+j) b)=nxt xs (it xs k (it xs j b));rw[qA xs b j k]
theorem Ord.zF2(o:Ord n xs){b c:Nat}(h:b<n)(h':c<n):∀k,it xs k b=it xs k c->b=c
 |0,e=>e
 |k+1,e=>o.zF2 h h' k (o.wN3 (o.qT h k) (o.qT h' k) e)
theorem Ord.back(o:Ord n xs){b:Nat}(h:b<n):∃p,1<=p/\p<=n/\it xs p b=b:=by
 obtain⟨i,j,h1,h2,e⟩:=pigeon n (fun i=>it xs i b) fun i _=>o.qT h i;refine⟨j-i,by rfl',by rfl',?_⟩;have e2:it xs i (it xs (j-i) b)=it xs i b:=by rw[<-qA,show i+(j-i)=j by rfl'];exact e.symm
 exact o.zF2 (o.qT h _) h i e2
def perGo(xs:C6)(b:Nat):Nat->Nat->Nat
 |0,k=>k
 |fuel+1,k=>if it xs k b=b then k else perGo xs b fuel (k+1)
theorem zG4(xs:C6)(b:Nat):∀(fuel k:Nat),(∃p,k<=p/\p<=k+fuel/\it xs p b=b) ->k<=perGo xs b fuel k/\perGo xs b fuel k<=k+fuel/\it xs (perGo xs b fuel k) b=b/\∀i,k<=i->i<perGo xs b fuel k->it xs i b≠b
 |0,k,⟨p,h1,h2,e⟩=>by
  have:p=k:=by rfl'
  subst this;exact⟨Ac _,Ac _,e,fun i a c=>absurd (show i<p from c) (by rfl')⟩
 |fuel+1,k,⟨p,h1,h2,e⟩=>by
  by_cases c:it xs k b=b;rw[perGo,Ae c];exact⟨Ac _,by rfl',c,fun i a d=>absurd d (by rfl')⟩;rw[perGo,An c];have hp:k+1<=p:=by rcases Nat.lt_or_ge k p with q|q;exact q;have:p=k:=(by rfl');subst this;exact absurd e c
  obtain⟨a1,a2,a3,a4⟩:=zG4 xs b fuel (k+1) ⟨p,hp,by rfl',e⟩;refine⟨by rfl',by rfl',a3,fun i hi hl=>?_⟩;by_cases q:i=k;rw[q];exact c;exact a4 i (by rfl') hl
def per(n:Nat)(xs:C6)(b:Nat):Nat:=perGo xs b (n-1) 1
theorem Ord.yA(o:Ord n xs){b:Nat}(h:b<n):1<=per n xs b/\per n xs b<=n/\it xs (per n xs b) b=b/\∀i,1<=i->i<per n xs b->it xs i b≠b:=by obtain⟨p,h1,h2,e⟩:=o.back h;obtain⟨a1,a2,a3,a4⟩:=zG4 xs b (n-1) 1 ⟨p,h1,by rfl',e⟩;exact⟨a1,by unfold per;rfl',a3,a4⟩
theorem Ord.xT1(o:Ord n xs){b:Nat}(h:b<n){i j:Nat}(hij:i<j)(hj:j<per n xs b):it xs i b≠it xs j b:=fun e=>by obtain⟨_,_,_,a4⟩:=o.yA h;refine a4 (j-i) (by rfl') (by rfl') ?_;refine o.zF2 (o.qT h _) h i ?_;rw[<-qA,show i+(j-i)=j by rfl'];exact e.symm
theorem xL2(xs:C6)(b p:Nat)(e:it xs p b=b):∀k,it xs (k*p) b=b
 |0=>by rw[Nat.zero_mul];rfl
 |k+1=>by rw[Ds,qA,e,xL2 xs b p e k]
theorem Ord.wG8(o:Ord n xs){b:Nat}(h:b<n)(k:Nat):it xs k b=it xs (k%per n xs b) b:=by
 obtain⟨a1,_,a3,_⟩:=o.yA h;have e:k=k%per n xs b+(k/per n xs b)*per n xs b:=by rw[Du];exact(Nat.mod_add_div k (per n xs b)).symm
 conv=>lhs;rw[e,qA,xL2 xs b _ a3]
def In(n:Nat)(xs:C6)(b c:Nat):Prop:=∃i,i<per n xs b/\it xs i b=c
theorem Ord.zH8(o:Ord n xs){b:Nat}(h:b<n)(k:Nat):In n xs b (it xs k b):=by obtain⟨a1,_⟩:=o.yA h;exact⟨k%per n xs b,Bq _ (by rfl'),(o.wG8 h k).symm⟩
theorem Ord.wQ1(o:Ord n xs){b:Nat}(h:b<n):In n xs b b:=o.zH8 h 0
theorem Ord.zP9(o:Ord n xs){b c:Nat}(h:b<n)(hc:In n xs b c):c<n:=by obtain⟨i,_,rfl⟩:=hc;exact o.qT h i
theorem Ord.xY2(o:Ord n xs){b c:Nat}(h:b<n)(hc:In n xs b c):In n xs c b:=by
 obtain⟨i,hi,rfl⟩:=hc;obtain⟨a1,_,a3,_⟩:=o.yA h;have e:it xs (per n xs b-i) (it xs i b)=b:=by rw[<-qA,show per n xs b-i+i=per n xs b by rfl'];exact a3
 have:=o.zH8 (o.qT h i) (per n xs b-i);rw[e]at this;exact this
theorem Ord.yO3(o:Ord n xs){b c d:Nat}(h:b<n)(hc:In n xs b c)(hd:In n xs c d):In n xs b d:=by obtain⟨i,_,rfl⟩:=hc;obtain⟨j,_,rfl⟩:=hd;rw[<-qA];exact o.zH8 h _
def ring(n:Nat)(xs:C6)(b:Nat):C5:=(List.range (per n xs b)).map fun i=>it xs i b
theorem xH(n:Nat)(xs:C6)(b:Nat):(ring n xs b).length=per n xs b:=by unfold ring;simp
theorem wQ{b c:Nat}:c∈ring n xs b↔In n xs b c:=by unfold ring In;simp only[Ay,AH]
theorem Ord.zG3(o:Ord n xs){b:Nat}(h:b<n):(ring n xs b).Nodup:=by unfold ring List.Nodup;rw[DK];refine List.Pairwise.imp_of_mem ?_ (Df (n:=per n xs b));intro i j hi hj hlt;exact o.xT1 h hlt (AH.mp hj)
theorem Ord.wZ2(o:Ord n xs){b c:Nat}(h:b<n)(hc:In n xs b c):per n xs c=per n xs b:=by
 have hcl:=o.zP9 h hc;obtain⟨i,hi,rfl⟩:=hc;obtain⟨a1,a2,a3,a4⟩:=o.yA h;obtain⟨b1,b2,b3,b4⟩:=o.yA hcl;have e1:it xs (per n xs b) (it xs i b)=it xs i b:=by rw[<-qA,Nat.add_comm,qA,a3]
 have e2:it xs (per n xs (it xs i b)) b=b:=by refine o.zF2 (o.qT h _) h i ?_;rw[<-qA,Nat.add_comm,qA,b3]
 rcases Dl (per n xs (it xs i b)) (per n xs b)with q|q|q;exact absurd e2 (a4 _ b1 q);exact q;exact absurd e1 (b4 _ a1 q)
def has(rs:C0)(b:Nat):Bool:=rs.any fun r=>r.contains b
def rgs(n:Nat)(xs:C6):Nat->C0
 |0=>[]
 |b+1=>if has (rgs n xs b) b then rgs n xs b else rgs n xs b++[ring n xs b]
theorem dE{rs:C0}{b:Nat}:has rs b=true↔∃r∈rs,b∈r:=by unfold has;simp[List.any_eq_true]
structure Rgs(n:Nat)(xs:C6)(m:Nat)(rs:C0):Prop where
 each:∀r∈rs,∃b,b<m/\r=ring n xs b/\∀c,In n xs b c->b<=c
 cover:∀c,c<m->∃r∈rs,c∈r
 nodup:rs.flatten.Nodup
 rise:rs.Pairwise fun r r'=>∀x∈r.head?,∀y∈r'.head?,x<y
theorem zT6(o:Ord n xs){b:Nat}(h:b<n):(ring n xs b).head?=some b:=by obtain⟨a1,_⟩:=o.yA h;unfold ring;obtain⟨p,hp⟩:∃p,per n xs b=p+1:=⟨per n xs b-1,by rfl'⟩;rw[hp,List.range_succ_eq_map];rfl
theorem Ord.vD(o:Ord n xs):∀m,m<=n->Rgs n xs m (rgs n xs m)
 |0,_=>⟨fun r hr=>by simp[rgs]at hr,fun c hc=>absurd hc (by rfl'),by simp[rgs],by simp[rgs]⟩
 |m+1,h=>by
  have ih:=o.vD m (by rfl');by_cases c:has (rgs n xs m) m=true;rw[rgs,Ae c];refine⟨fun r hr=>?_,fun d hd=>?_,ih.nodup,ih.rise⟩;obtain⟨b,hb,e,hm⟩:=ih.each r hr;exact⟨b,by rfl',e,hm⟩;by_cases q:d=m;rw[q];exact dE.mp c;exact ih.cover d (by rfl');rw[rgs,An c];have hm:m<n:=by rfl'
  have apart:∀d,In n xs m d->¬∃r∈rgs n xs m,d∈r:=fun d hd⟨r,hr,hdr⟩=>by obtain⟨b,hb,rfl,_⟩:=ih.each r hr;have h1:In n xs b d:=wQ.mp hdr;have h2:In n xs b m:=o.yO3 (by rfl') h1 (o.xY2 hm hd);exact c (dE.mpr ⟨_,hr,wQ.mpr h2⟩)
  refine⟨fun r hr=>?_,fun d hd=>?_,?_,?_⟩;rcases AE.mp hr with hr|hr;obtain⟨b,hb,e,hmin⟩:=ih.each r hr;exact⟨b,by rfl',e,hmin⟩;have:r=ring n xs m:=by simpa using hr
  refine⟨m,by rfl',this,fun d hd=>?_⟩;rcases Nat.lt_or_ge d m with q|q;exact absurd (ih.cover d q) (apart d hd);exact q;by_cases q:d=m;rw[q];exact⟨_,Ah _ (by simp),wQ.mpr (o.wQ1 hm)⟩;obtain⟨r,hr,hd⟩:=ih.cover d (by rfl');exact⟨r,AG _ hr,hd⟩;rw[BH,List.nodup_append];refine⟨ih.nodup,by simpa using o.zG3 hm,fun a ha b hb e=>?_⟩;have hb':b∈ring n xs m:=by simpa using hb
  subst e;obtain⟨r,hr,har⟩:=Bu.mp ha;exact apart a (wQ.mp hb') ⟨r,hr,har⟩;rw[List.pairwise_append];refine⟨ih.rise,by simp,fun r hr r' hr' x hx y hy=>?_⟩;have e:r'=ring n xs m:=by simpa using hr'
  obtain⟨b,hb,rfl,_⟩:=ih.each r hr;rw[zT6 o (by rfl')]at hx;rw[e,zT6 o hm]at hy;have hx:x=b:=by simpa using hx.symm
  have hy:y=m:=by simpa using hy.symm
  rfl'
end
end MR
namespace L2
open PySem PySem.Spec PyProof.Rows
section
variable {κ:Type}[DecidableEq κ]
def valV(kvs:List (κ×V))(k:κ):Option V:=(kvs.find? fun kv=>decide (kv.1=k)).map (·.2)
def putK(kvs:List (κ×V))(k:κ)(v:V):List (κ×V):=if (kvs.any fun kv=>decide (kv.1=k))=true then kvs.map (fun kv=>if kv.1=k then(kv.1,v)else kv)else kvs++[(k,v)]
theorem vY{p:κ×V}{r:List (κ×V)}{k:κ}(e:p.1=k):valV (p::r) k=some p.2:=by simp[valV,Di,e]
theorem wC{p:κ×V}{r:List (κ×V)}{k:κ}(e:¬p.1=k):valV (p::r) k=valV r k:=by simp[valV,Di,e]
theorem gI(k:κ):∀kvs:List (κ×V),(kvs.any fun kv=>decide (kv.1=k))=(valV kvs k).isSome
 |[]=>rfl
 |p::r=>by rw[CM];by_cases e:p.1=k;simp only[vY e,Ab e,Bool.true_or,Option.isSome_some];rw[wC e,Ad e,Bool.false_or];exact gI k r
theorem yG6(k j:κ)(y:V):∀kvs:List (κ×V),valV (kvs.map fun kv=>if kv.1=k then(kv.1,y)else kv) j=(valV kvs j).map fun x=>if j=k then y else x
 |[]=>rfl
 |p::r=>by have ih:=yG6 k j y r;rw[AB];by_cases h:p.1=k;rw[Ae h];by_cases e:p.1=j;rw[vY (p:=(p.1,y)) e,vY e,Bn,Ae (e.symm.trans h)];rw[wC (p:=(p.1,y)) e,wC e,ih];rw[An h];by_cases e:p.1=j;rw[vY (p:=p) e,vY e,Bn,An (fun z=>h (e.trans z))];rw[wC (p:=p) e,wC e,ih]
theorem yW8(k j:κ)(y:V):∀kvs:List (κ×V),valV kvs k=none->valV (kvs++[(k,y)]) j=if j=k then some y else valV kvs j
 |[],_=>by by_cases e:k=j;rw[Ae e.symm];exact vY (p:=(k,y)) e;rw[An (fun z=>e z.symm)];exact wC (p:=(k,y)) e
 |p::r,hn=>by
  rw[Cs];have hk:¬p.1=k:=fun z=>by rw[vY z]at hn;cases hn
  rw[wC hk]at hn;have ih:=yW8 k j y r hn;by_cases e:p.1=j;rw[vY e,vY e,An (fun z=>hk (e.trans z))];rw[wC e,wC e,ih]
theorem wZ5(kvs:List (κ×V))(k j:κ)(y:V):valV (putK kvs k y) j=if j=k then some y else valV kvs j:=by
 unfold putK;by_cases a:(kvs.any fun kv=>decide (kv.1=k))=true;rw[Ae a,yG6];rw[gI]at a;by_cases e:j=k;obtain⟨x,hx⟩:=Option.isSome_iff_exists.mp a;rw[Ae e,e,hx,Bn,Ae rfl];rw[An e];cases valV kvs j with
 |none=>rfl
 |some x=>rw[Bn,An e]
 rw[An a];refine yW8 k j y kvs ?_;rw[gI]at a;cases q:valV kvs k with
 |none=>rfl
 |some x=>rw[q]at a;exact(a rfl).elim
theorem zL5(kvs:List (κ×V))(k:κ)(v:V):(putK kvs k v).length<=kvs.length+1:=by unfold putK;split;rw[Aa];rfl';rw[Aj,Aw,List.length_nil];rfl'
theorem wY6{kvs:List (κ×V)}{k:κ}(v:V)(h:valV kvs k=none):putK kvs k v=kvs++[(k,v)]:=by unfold putK;rw[gI,h];exact An (by decide)
theorem RelO.zQ2{o:Option V}{u:Option Value}(r:RelO o u):o.isSome=u.isSome:=by
 cases o with
 |none=>cases u with
  |none=>rfl
  |some _=>exact(show False from r).elim
 |some _=>cases u with
  |none=>exact(show False from r).elim
  |some _=>rfl
theorem RelO.getD{o:Option V}{u:Option Value}{d:V}{d':Value}(r:RelO o u)(rd:RelV d d'):RelV (o.getD d) (u.getD d'):=by
 cases o with
 |none=>cases u with
  |none=>exact rd
  |some _=>exact(show False from r).elim
 |some _=>cases u with
  |none=>exact(show False from r).elim
  |some _=>exact r
theorem KV.val{kvs:List (κ×V)}{vs:List (κ×Value)}(r:KV kvs vs)(k:κ):RelO (valV kvs k) (valueAt vs k):=by
 unfold KV at r;induction r with
 |nil=>exact True.intro
 |@cons p q ps qs h t ih=>
  obtain⟨h1,h2⟩:=h;by_cases e:p.1=k;have e':q.1=k:=h1.symm.trans e;have b:valueAt (q::qs) k=some q.2:=by simp[valueAt,Di,e']
  rw[vY e,b];exact h2;have e':¬q.1=k:=fun z=>e (h1.trans z);have b:valueAt (q::qs) k=valueAt qs k:=by simp[valueAt,Di,e']
  rw[wC e,b];exact ih
theorem KV.any{kvs:List (κ×V)}{vs:List (κ×Value)}(r:KV kvs vs)(k:κ):(kvs.any fun kv=>decide (kv.1=k))=vs.any fun kv=>decide (kv.1=k):=by
 unfold KV at r;induction r with
 |nil=>rfl
 |cons h t ih=>rw[CM,CM,ih,h.1]
theorem KV.repl{kvs:List (κ×V)}{vs:List (κ×Value)}(r:KV kvs vs)(k:κ){y:V}(ry:RelV y u):KV (kvs.map fun kv=>if kv.1=k then(kv.1,y)else kv) (vs.map fun kv=>if kv.1=k then(kv.1,u)else kv):=by
 unfold KV at r ⊢;induction r with
 |nil=>exact .nil
 |@cons p q ps qs h t ih=>rw[AB,AB];refine .cons ?_ ih;obtain⟨h1,h2⟩:=h;by_cases e:p.1=k;rw[Ae e,Ae (h1.symm.trans e)];exact⟨h1,ry⟩;rw[An e,An (fun z=>e (h1.trans z))];exact⟨h1,h2⟩
theorem KV.put{kvs:List (κ×V)}{vs:List (κ×Value)}(r:KV kvs vs)(k:κ){y:V}(ry:RelV y u):KV (putK kvs k y) (stored vs k u):=by unfold putK stored;rw[r.any k];by_cases e:(vs.any fun kv=>decide (kv.1=k))=true;rw[Ae e,Ae e];exact r.repl k ry;rw[An e,An e];exact Paired.snoc r ⟨rfl,ry⟩
theorem KV.length{kvs:List (κ×V)}{vs:List (κ×Value)}(r:KV kvs vs):kvs.length=vs.length:=Paired.length r
end
theorem yQ7{w:World}{k:Key}(r:RelV (kV k) u):(mixKind P w).is k u=true:=by
 cases k with
 |inl i=>obtain⟨t,e⟩:=(show ∃t,u=Value.int i t from r);subst e;exact yE5 P w i t
 |inr x=>obtain⟨t,e⟩:=(show ∃t,u=Value.str x t from r);subst e;exact yF8 P w x t
theorem yX8{P:Program}{w:World}:∀{ks:List Key}{us:C3},Vals (ks.map kV) us->ItemsAre (mixKind P w) ks us
 |[],_,r=>by rw[Dc]at r;cases r;exact .nil
 |k::ks,_,r=>by
  rw[AB]at r;cases r with
  |cons h t=>exact .cons (yQ7 h) (yX8 t)
abbrev KT(H:Hp):List (List Key×V)->List (List Key×Addr×Value)->Prop:=Paired fun p q=>p.1=q.1/\H q.2.1=some (.tup (p.1.map kV))/\RelV p.2 q.2.2
theorem KT.val{xs:List (List Key×Addr×Value)}(r:KT H kvs xs)(k:List Key):RelO (valV kvs k) ((atKey xs k).map (·.2)):=by
 induction r with
 |nil=>exact True.intro
 |@cons p q ps qs h t ih=>
  obtain⟨h1,_,h2⟩:=h;by_cases e:p.1=k;have e':q.1=k:=h1.symm.trans e;have b:atKey (q::qs) k=some q.2:=by simp[atKey,Di,e']
  rw[vY e,b];exact h2;have e':¬q.1=k:=fun z=>e (h1.trans z);have b:atKey (q::qs) k=atKey qs k:=by simp[atKey,Di,e']
  rw[wC e,b];exact ih
theorem KT.repl{xs:List (List Key×Addr×Value)}(r:KT H kvs xs)(k:List Key){y:V}(ry:RelV y u):KT H (kvs.map fun kv=>if kv.1=k then(kv.1,y)else kv) (xs.map (putAt k u)):=by
 induction r with
 |nil=>exact .nil
 |@cons p q ps qs h t ih=>rw[AB,AB];refine .cons ?_ ih;obtain⟨h1,h2,h3⟩:=h;unfold putAt;by_cases e:p.1=k;rw[Ae e,Ae (h1.symm.trans e)];exact⟨h1,h2,ry⟩;rw[An e,An (fun z=>e (h1.trans z))];exact⟨h1,h2,h3⟩
theorem KT.put{xs:List (List Key×Addr×Value)}(r:KT H kvs xs)(k:List Key){b:Addr}{y:V}(hb:H b=some (.tup (k.map kV)))(ry:RelV y u):KT H (putK kvs k y) (storedH xs k b u):=by
 have e:(kvs.any fun kv=>decide (kv.1=k))=(atKey xs k).isSome:=by rw[gI,(r.val k).zQ2,Option.isSome_map]
 unfold putK storedH;rw[e];by_cases q:(atKey xs k).isSome=true;rw[Ae q,Ae q];exact r.repl k ry;rw[An q,An q];exact Paired.snoc r ⟨rfl,hb,ry⟩
theorem KT.keeps{xs:List (List Key×Addr×Value)}(r:KT H kvs xs)(ht:∀b ys,H b=some (.tup ys)->H' b=some (.tup ys)):KT H' kvs xs:=Paired.mapP r fun _ _ z=>⟨z.1,ht _ _ z.2.1,z.2.2⟩
section
variable {P:Program}{w:World}{H:Hp}{h:Heap}{a:Addr}
theorem yQ5{u:HO}(ok:HOk P w H h)(e:Rd H a u):ObjOk P w H h a u:=e.ok ok
theorem yQ9{kvs:List (Key×V)}(ok:HOk P w H h)(e:Rd H a (.dK kvs)):kvs.length<=sizeLine/\(a==sysModules)=false/\∃vs,KV kvs vs/\h.DictOf (mixKind P w) a vs:=
 show ObjOk P w H h a (.dK kvs)from yQ5 ok e
theorem vX5{kvs:List (Key×V)}(ok:HOk P w H h)(e:H a=some (.dK kvs)):kvs.length<=sizeLine/\(a==sysModules)=false/\∃vs,KV kvs vs/\h.DictOf (mixKind P w) a vs:=yQ9 ok (.inl e)
theorem zI4{ks:List Key}(ok:HOk P w H h)(e:H a=some (.tup (ks.map kV))):(tupleKind (mixKind P w)).is h ks a:=by obtain⟨_,its,r,o,h1,h2,⟨n,h3⟩,_⟩:=(show ObjOk P w H h a (.tup (ks.map kV))from ok a _ e);exact⟨o,its.toArray,n,h1,h2,h3,by simpa using yX8 r⟩
theorem yR9(ok:HOk P w H h)(e:Rd H a (.dT kvs)):kvs.length<=sizeLine/\(a==sysModules)=false /\∃xs,KT H kvs xs/\h.DictOfH (tupleKind (mixKind P w)) a xs:=by
 obtain⟨z,y,xs,r,o,es,ep,h1,h2,h3,h4,h5⟩:=(show ObjOk P w H h a (.dT kvs)from yQ5 ok e);refine⟨z,y,xs,r,o,es,ep,h1,h2,h3,h4,fun x hx=>?_,h5⟩;have all:∀{l:List (List Key×V)}{m:List (List Key×Addr×Value)},KT H l m->∀x∈m,(tupleKind (mixKind P w)).is h x.1 x.2.1:=by
  intro l m q;induction q with
  |nil=>intro x hx;exact nomatch hx
  |@cons p q ps qs hq t ih=>intro x hx;rcases AF.mp hx with e|hx;subst e;exact zI4 ok (by rw[<-hq.1];exact hq.2.1);exact ih x hx
 exact all r x hx
theorem vX4(ok:HOk P w H h)(e:H a=some (.dT kvs)):kvs.length<=sizeLine/\(a==sysModules)=false /\∃xs,KT H kvs xs/\h.DictOfH (tupleKind (mixKind P w)) a xs:=yR9 ok (.inl e)
end
def DGet(H:Hp)(a:Addr)(y:V)(r:Option V):Prop:=(∃kvs k,Rd H a (.dK kvs)/\y=kV k/\r=valV kvs k)\/∃kvs k b,Rd H a (.dT kvs)/\y=.ref b/\H b=some (.tup (k.map kV))/\r=valV kvs k
def DPut(H:Hp)(a:Addr)(y v:V)(H':Hp):Prop:=(∃kvs k,H a=some (.dK kvs)/\y=kV k/\kvs.length<sizeLine/\H'=upd H a (.dK (putK kvs k v))) \/ ∃kvs k b,H a=some (.dT kvs)/\y=.ref b/\H b=some (.tup (k.map kV))/\kvs.length<sizeLine/\H'=upd H a (.dT (putK kvs k v))
theorem DGet.k{H:Hp}{a:Addr}{kvs:List (Key×V)}{k:Key}(e:H a=some (.dK kvs)):DGet H a (kV k) (valV kvs k):=.inl ⟨kvs,k,.inl e,rfl,rfl⟩
theorem DPut.k{H:Hp}{a:Addr}{kvs:List (Key×V)}{k:Key}{v:V}(e:H a=some (.dK kvs))(hl:kvs.length<sizeLine):DPut H a (kV k) v (upd H a (.dK (putK kvs k v))):=.inl ⟨kvs,k,e,rfl,hl,rfl⟩
section
variable {X:Cx}{EA:A9}{σ:St}{H:Hp}{s:Shared}{a:Addr}{y v:V}{u r:Value}{o:Option V}{A:Around}{E:A8}
theorem Inv.big(I:Inv X EA σ H s):sysModules<s.heap.objs.size:=by have h:mainGlobals<s.heap.objs.size:=(I.mod.glob.keeps I.bk).lt;exact Eg (by decide) h
theorem wQ3(hu:A.units+1<cLine)(I:Inv X EA σ H s)(g:DGet H a y o)(ry:RelV y u)(h:∀s',Inv X EA σ H s'->Q (.bool (!o.isSome)) s'):wpAny (model X.prog X.w) A (compareOp .NotIn u (.ref a)) Q E s:=by rcases g with⟨kvs,k,e,ey,l⟩|⟨kvs,k,b,e,ey,eb,l⟩;subst ey;obtain⟨z,hd,vs,rel,dd⟩:=yQ9 I.hok e;refine wpAny_notIn_of (yQ7 ry) hd dd.mapOf ?_;rw[<-(rel.val k).zQ2,<-l];exact h _ (I.tok _);subst ey;cases (show u=Value.ref b from ry);obtain⟨z,hd,xs,rel,dd⟩:=yR9 I.hok e;refine wpAny_notIn_heap (tupleKind_room_in1 hu) (zI4 I.hok eb) hd dd ?_;have q:=(rel.val k).zQ2;rw[Option.isSome_map]at q;rw[<-q,<-l];exact h _ (I.tok _)
theorem xV2{t':Nat}{ob:HO}(I:Inv X EA σ H s)(mu:Mut (H a))(hs:Heap.SameBut a s.heap h')(he:∃q,h'.get? a=some q)(new:ObjOk X.prog X.w (upd H a ob) h' a ob):Inv X EA σ (upd H a ob) {s with heap:=h',toks:=t'}:=I.write (x:=a) (e:=a) mu (.inl rfl) (fun b q hb z=>(hs.2 b hb).trans z) he new
theorem wI6{w:World}{kvs:List (Key×V)}{vs:List (Key×Value)}(z:kvs.length<=sizeLine)(hd:(a==sysModules)=false)(rel:KV kvs vs)(dd:h'.DictOf (mixKind P w) a vs):ObjOk P w H' h' a (.dK kvs):=⟨z,hd,vs,rel,dd⟩
theorem xH8{Q:Unit->Shared->Prop}(hu:A.units+1<cLine)(I:Inv X EA σ H s)(g:DPut H a y v H')(ry:RelV y u)(rv:RelV v r)(h:∀s',Inv X EA σ H' s'->Q () s'):wpAny (model X.prog X.w) A (setItem (.ref a) u r) Q E s:=by
 rcases g with⟨kvs,k,e,ey,l,eH⟩|⟨kvs,k,b,e,ey,eb,l,eH⟩;subst ey eH;obtain⟨z,hd,vs,rel,dd⟩:=vX5 I.hok e;have hz:vs.length<=sizeLine:=by rw[<-rel.length];exact z
 have hl:(putK kvs k v).length<=sizeLine:=by have:=zL5 kvs k v;rfl'
 refine wpAny_setItem_pairs (hsz:=hz) (yQ7 ry) dd fun h' dd' hs=>h _ ?_;have he:∃q,h'.get? a=some q:=let ⟨q,_,_,hq,_⟩:=dd'; ⟨q,hq⟩
 exact xV2 I (by rw[e];exact True.intro) hs he (wI6 hl hd (rel.put k rv) dd');subst ey eH;cases (show u=Value.ref b from ry);obtain⟨z,hd,xs,rel,dd⟩:=vX4 I.hok e;have hz:xs.length<=sizeLine:=by rw[<-Paired.length rel];exact z
 have hl:(putK kvs k v).length<=sizeLine:=by have:=zL5 kvs k v;rfl'
 refine wpAny_setItem_heap (hsz:=hz) (tupleKind_room_in1 hu) (zI4 I.hok eb) dd fun h' dd' hs=>h _ ?_;obtain⟨q,es,ep,hq,h2,h3,h4,_,h5⟩:=dd';refine xV2 I (by rw[e];exact True.intro) hs ⟨q,hq⟩ ⟨hl,hd,_,(rel.put k eb rv).keeps fun c ys ec=>?_,q,es,ep,hq,h2,h3,h4,h5⟩;rw[zJ (vY6 ec e (fun z=>nomatch z))];exact ec
end
section
variable {X:Cx}{EA:A9}{σ:St}{H:Hp}{s:Shared}{a:Addr}{kvs:List (Key×V)}{k:Key}{u:Value}{A:Around}{E:A8}
end
def tDNotIn(ty td:TE):TE:=fun σ H Q=>ty σ H fun y H1=>td σ H1 fun x H2=>∃a o,x=.ref a/\DGet H2 a y o/\Q (.bl (!o.isSome)) H2
def sDPut(td ty tv:TE):TS:=fun D σ H=>tv σ H fun v H1=>td σ H1 fun x H2=>ty σ H2 fun y H3=>∃a H4,x=.ref a/\DPut H3 a y v H4/\D.nx σ H4
section
variable {X:Cx}{o i e value:Expr}{pos pos' tpos:Pos}{td ty tv:TE}
theorem xN7(hu:X.A.units+1<cLine)(hi:PE X i ty)(ho:PE X o td):PC X .NotIn i o (tDNotIn ty td):=by intro EA s σ H Q I h;refine thn (hi EA s σ H _ I h) fun iv s1⟨y,H1,I1,ry,q1⟩=>thn (ho EA s1 σ H1 _ I1 q1) fun u s2⟨x,H2,I2,rx,a,ov,ex,g,q2⟩=>?_;subst ex;obtain rfl:u=Value.ref a:=rx;exact wQ3 hu I2 g ry fun s3 I3=>⟨.bl (!ov.isSome),H2,I3,rfl,q2⟩
theorem xW9(hu:X.A.units+1<cLine)(ho:PE X o td)(hi:PE X i ty)(hv:PE X value tv)(hs:swapsWith value (some (.Subscript o i pos')) pos.line X.env=pure false):PS X (.Assign [.Subscript o i pos'] value pos) (sDPut td ty tv):=by intro EA s σ H D I h;refine wpAny_Assign_Subscript (thn (hv EA s σ H _ I h) fun r s1⟨v,H1,I1,rv,q1⟩=>thn (ho EA s1 σ H1 _ I1 q1) fun u s2⟨x,H2,I2,rx,q2⟩=>thn (hi EA s2 σ H2 _ I2 q2) fun iv s3⟨y,H3,I3,ry,a,H4,ex,g,q3⟩=>?_) hs;subst ex;obtain rfl:u=Value.ref a:=rx;exact xH8 hu I3 g ry rv fun s4 I4=>⟨σ,H4,I4,q3⟩
end
theorem wY8{w:World}(h:Heap)(hb:sysModules<h.objs.size):ObjOk P w H (h.push {cls:=.type "dict",data:=.dict #[]}) h.objs.size (.dK []):=⟨Cb _,beq_eq_false_iff_ne.mpr (Bv (AW hb)),[],.nil,Heap.DictOf.new h⟩
def tDNewK:TE:=fun _ H Q=>∀p,H p=none->Q (.ref p) (upd H p (.dK []))
section
variable {X:Cx}{pos:Pos}
theorem yF5:PE X (.Dict [] [] pos) tDNewK:=fun EA s σ H Q I h=>wpAny_Dict_empty ⟨.ref s.heap.objs.size,_,I.laid (a:=s.heap.objs.size) (o:=.dK []) (t':=s.toks) (fun _ _ q=>Am _ q) (Ac _) (wY8 s.heap I.big),rfl,h _ (I.hok.fresh (Ac _))⟩
end
end L2
namespace L2.L3
open PySem PySem.Spec PyProof.Rows MR
variable [CN]
def rgI(r:C5):C6:=r.map fun(b:Nat)=>(b:Int)
def ringsR(n:Nat)(xs:C6)(m:Nat):D0:=(rgs n xs m).map fun r=>lI (rgI r)
open Classical in
def ringsF:B8
 |[.tuple es]=>match intsOf es with
  |some xs=>if Ord xs.length xs/\xs.length<=400 then .ok (.list (ringsR xs.length xs xs.length))else .no
  |none=>.no
 |_=>.no
theorem xE3{n:Nat}{xs:C6}(o:Ord n xs)(hn:n<=400):ringsF [tI xs]=.ok (.list (ringsR n xs n)):=by have e:=o.len;subst e;unfold ringsF;simp only[intsOf_map];exact Ae ⟨o,hn⟩
def mt(l:C5):List (Key×V):=l.map fun(b:Nat)=>(Sum.inl (b:Int),V.bl true)
theorem xN3(l:C5)(b:Nat):(valV (mt l) (Sum.inl (b:Int))).isSome=l.contains b:=by rw[<-gI];unfold mt;rw[List.any_map,Cq,List.any_eq_true,AV];constructor;rintro⟨c,hc,e⟩;have e:(Sum.inl (c:Int):Key)=Sum.inl (b:Int):=of_decide_eq_true e;have e:(c:Int)=(b:Int):=Sum.inl.inj e;rw[<-Int.ofNat_inj.mp e];exact hc;intro h;exact⟨b,h,Ab rfl⟩
theorem wD2{l:C5}{b:Nat}(h:l.contains b=false):putK (mt l) (Sum.inl (b:Int)) (V.bl true)=mt (l++[b]):=by
 have e:valV (mt l) (Sum.inl (b:Int))=none:=by
  have:=xN3 l b;rw[h]at this;cases q:valV (mt l) (Sum.inl (b:Int))with
  |none=>rfl
  |some v=>rw[q]at this;cases this
 rw[wY6 _ e];unfold mt;rw[AJ];rfl
def rLenS(K:KFr):List V->Hp->VK->Prop:=fun xs H Q=>∃p ys,xs=[.ref p]/\(SqL K H p ys\/SqT K H p ys)/\Q (.int ys.length) H
def tRgW(K:KFr):TS:=tWhile (tB (tDNotIn (tVar 5) (tVar 1))) (tSeq (sDPut (tVar 1) (tVar 5) (tC (.bl true))) (tSeq (tDrop (tBM K "list" rAppend (tVar 4) (qS (tVar 5) tNil))) (tAsg (tOp (rIxT K) (tVar 0) (tVar 5)) (gName 5))))
def tRgI(K:KFr):TS:=tIfS (tTest (tOp (rI0 fun i j=>.bl (decide (j<i))) (tCB (rLenS K) (qS (tVar 4) tNil)) (tC (.int 0)))) (tDrop (tBM K "list" rAppend (tVar 2) (qS (tVar 4) tNil))) tNext
def tRg(K:KFr):TS:=tSeq (tAsg tDNewK (gName 1)) (tSeq (tAsg (tLst tNil) (gName 2)) (tSeq (tFor (iRng1 (qS (tCB (rLenS K) (qS (tVar 0) tNil)) tNil)) (gName 3) (tSeq (tAsg (tLst tNil) (gName 4)) (tSeq (tAsg (tVar 3) (gName 5)) (tSeq (tRgW K) (tRgI K))))) (tRet (tVar 2))))
section
variable {n:Nat}{xs:C6}
def metN(n:Nat)(xs:C6)(m k:Nat):C5:=(rgs n xs m).flatten++(List.range k).map fun j=>it xs j m
def stepsN(n:Nat)(xs:C6)(m:Nat):Nat:=if has (rgs n xs m) m then 0 else per n xs m
theorem hasF(rs:C0)(b:Nat):rs.flatten.contains b=has rs b:=by rw[Cq,dE,AV,Bu]
theorem wF9(o:Ord n xs){m k:Nat}(hm:m<n)(hk:k<=stepsN n xs m):(metN n xs m k).contains (it xs k m)=decide (k=stepsN n xs m):=by
 have ok:=o.vD m (by rfl');obtain⟨a1,a2,a3,a4⟩:=o.yA hm;unfold metN;unfold stepsN at hk ⊢;by_cases c:has (rgs n xs m) m=true;rw[Ae c]at hk ⊢;have:k=0:=by rfl'
 subst this;rw[Ab rfl];show(_++[]).contains m=true;rw[BP,hasF,c];rw[An c]at hk ⊢;by_cases e:k=per n xs m;rw[Ab e,e,a3,AV];refine Ah _ (Ay.mpr ⟨0,AH.mpr (by rfl'),rfl⟩);rw[Ad e];rw[<-BV,AV];intro h;rcases AE.mp h with h|h;obtain⟨r,hr,hd⟩:=Bu.mp h;obtain⟨b,hb,rfl,_⟩:=ok.each r hr;have h1:In n xs b (it xs k m):=wQ.mp hd;have h2:In n xs b m:=o.yO3 (by rfl') h1 (o.xY2 hm (o.zH8 hm k));exact c (dE.mpr ⟨_,hr,wQ.mpr h2⟩);obtain⟨j,hj,e2⟩:=Ay.mp h;have hj:=AH.mp hj;exact o.xT1 hm hj (by rfl') e2
theorem xB6(m k:Nat):metN n xs m (k+1)=metN n xs m k++[it xs k m]:=by unfold metN;rw[DC,AJ,AM];rfl
theorem wL7(m:Nat):metN n xs m (stepsN n xs m)=(rgs n xs (m+1)).flatten:=by unfold metN stepsN;rw[rgs];by_cases c:has (rgs n xs m) m=true;rw[Ae c,Ae c];simp;rw[An c,An c,BH];simp[ring]
structure RgAt(O:C2)(H0:Hp)(am ar:Addr)(n:Nat)(xs:C6)(X:C2)(m:Nat)(met:C5)(vs:C8)(H:Hp):Prop where
 same:Same H0 H
 dic:H am=some (.dK (mt met))
 lst:H ar=some (.lst vs)
 reps:Reps H (fun b=>O b\/b=ar\/b=am\/X b) vs (ringsR n xs m)
theorem RgAt.upd{O:C2}{H0:Hp}{am ar g:Addr}{X:C2}{m:Nat}{met:C5}{vs:C8}{H:Hp}{ho:HO}(R:RgAt O H0 am ar n xs X m met vs H)(h0:H0 g=none)(hx:X g)(h1:g≠am)(h2:g≠ar):RgAt O H0 am ar n xs X m met vs (upd H g ho) where
 same:=fun b o e=>by rw[zJ (fun z=>by rw[z,h0]at e;cases e)];exact R.same b o e
 dic:=by rw[zJ (fun z=>h1 z.symm)];exact R.dic
 lst:=by rw[zJ (fun z=>h2 z.symm)];exact R.lst
 reps:=R.reps.keep (fun b o e q=>by rw[zJ (fun z=>q (.inr (.inr (.inr (by rw[z];exact hx)))))];exact e) fun b _ z=>z
theorem RgAt.put{am ar:Addr}{X:C2}{m:Nat}{met met':C5}(R:RgAt O H0 am ar n xs X m met vs H)(h0:H0 am=none)(h1:am≠ar):RgAt O H0 am ar n xs X m met' vs (L2.upd H am (.dK (mt met'))) where
 same:=fun b o e=>by rw[zJ (fun z=>by rw[z,h0]at e;cases e)];exact R.same b o e
 dic:=yU
 lst:=by rw[zJ (fun z=>h1 z.symm)];exact R.lst
 reps:=R.reps.keep (fun b o e q=>by rw[zJ (fun z=>q (.inr (.inr (.inl z))))];exact e) fun b _ z=>z
theorem sz{k:Nat}(h:k<=1000):k<sizeLine:=small1000 h
theorem flatN(o:Ord n xs){m:Nat}(hm:m<=n):(rgs n xs m).flatten.length<=n:=by
 have grow:∀m d,(rgs n xs m).flatten.length<=(rgs n xs (m+d)).flatten.length:=by
  intro m d;induction d with
  |zero=>exact Ac _
  |succ d ih=>refine As ih ?_;rw[<-Nat.add_assoc,rgs];split;exact Ac _;rw[BH,Aj];rfl'
 have k:=o.vD n (Ac n);have p:(rgs n xs n).flatten.Perm (List.range n):=by rw[Cw k.nodup Cd];intro a;rw[AH,Bu];constructor;rintro⟨r,hr,ha⟩;obtain⟨b,hb,rfl,_⟩:=k.each r hr;exact o.zP9 hb (wQ.mp ha);intro h;exact k.cover a h
 have:=grow m (n-m);rw[show m+(n-m)=n by rfl',p.length_eq,Aq]at this;exact this
theorem yY4(o:Ord n xs){m k:Nat}(hm:m<n)(hk:k<=n):(metN n xs m k).length<=2*n:=by have ok:=o.vD m (by rfl');have h1:=flatN o (show m<=n by rfl');unfold metN;rw[Aj,Aa,Aq];rfl'
theorem wZ4(o:Ord n xs)(hn:n<=400){K:KFr}{a0 am ar g:Addr}(h0:Rd H0 a0 (.tup (xs.map V.int)))(hg0:H0 g=none)(hm0:H0 am=none)(d1:g≠am)(d2:g≠ar)(d3:am≠ar){m:Nat}(hm:m<n){E:Ends}(R:RgAt O H0 am ar n xs (fun b=>b=g) m (metN n xs m 0) vs H)(hg:H g=some (.lst []))(k:∀H',RgAt O H0 am ar n xs (fun b=>b=g) m (metN n xs m (stepsN n xs m)) vs H'->H' g=some (.lst ((List.range (stepsN n xs m)).map fun j=>V.int ((it xs j m:Nat):Int)))->E.nx [some (.ref a0),some (.ref am),some (.ref ar),some (.int (m:Int)),some (.ref g),some (.int ((it xs (stepsN n xs m) m:Nat):Int))] H'):tRgW K E [some (.ref a0),some (.ref am),some (.ref ar),some (.int (m:Int)),some (.ref g),some (.int (m:Int))] H:=by
 have sp:stepsN n xs m<=n:=by unfold stepsN;split;rfl';exact(o.yA hm).2.1
 refine⟨fun c σ' H'=>∃k,k<=stepsN n xs m/\c=stepsN n xs m-k/\σ'=[some (.ref a0),some (.ref am),some (.ref ar),some (.int (m:Int)),some (.ref g),some (.int ((it xs k m:Nat):Int))]/\RgAt O H0 am ar n xs (fun b=>b=g) m (metN n xs m k) vs H'/\H' g=some (.lst ((List.range k).map fun j=>V.int ((it xs j m:Nat):Int))),⟨_,0,Cb _,rfl,rfl,R,hg⟩,?_⟩;rintro c σ' H' ⟨j,hj,rfl,rfl,R',hg'⟩;have mi:=wF9 o hm hj;refine⟨_,rfl,_,rfl,am,_,rfl,DGet.k (k:=Sum.inl ((it xs j m:Nat):Int)) R'.dic,_,rfl,?_⟩;show(if _=true then _ else _);rw[xN3,mi];by_cases e:j=stepsN n xs m;rw[Ab e,An (by decide)];subst e;exact k H' R' hg';rw[Ad e,Ae (by decide)];rw[Ad e]at mi;have fl:=yY4 o (k:=j) hm (by rfl');refine⟨fun σ2 H2=>σ2=[some (.ref a0),some (.ref am),some (.ref ar),some (.int (m:Int)),some (.ref g),some (.int ((it xs (j+1) m:Nat):Int))]/\RgAt O H0 am ar n xs (fun b=>b=g) m (metN n xs m (j+1)) vs H2/\H2 g=some (.lst ((List.range (j+1)).map fun j=>V.int ((it xs j m:Nat):Int))),fun σ2 H2⟨e1,e2,e3⟩=>⟨stepsN n xs m-(j+1),by rfl',j+1,by rfl',rfl,e1,e2,e3⟩,?_⟩;refine⟨_,rfl,_,rfl,am,_,rfl,DPut.k (k:=Sum.inl ((it xs j m:Nat):Int)) R'.dic (by unfold mt;rw[Aa];exact small1000 (by rfl')),?_⟩;rw[wD2 mi,<-xB6];have R2:RgAt O H0 am ar n xs (fun b=>b=g) m (metN n xs m (j+1)) vs (L2.upd H' am (.dK (mt (metN n xs m (j+1))))):=R'.put hm0 d3;have g2:(L2.upd H' am (.dK (mt (metN n xs m (j+1))))) g=some (.lst ((List.range j).map fun j=>V.int ((it xs j m:Nat):Int))):=by rw[zJ d1];exact hg'
 refine⟨_,rfl,.inl ⟨rfl,_,SqL.of g2⟩,_,rfl,g,_,_,rfl,rfl,g2,by rw[Aa,Aq];exact small1000 (by rfl'),?_⟩;have R3:=R2.upd (ho:=.lst (((List.range j).map fun j=>V.int ((it xs j m:Nat):Int))++[V.int ((it xs j m:Nat):Int)])) hg0 rfl d1 d2;have hi:=o.qT hm j;have ix:atI (xs.map V.int) ((it xs j m:Nat):Int)=some (V.int ((it xs (j+1) m:Nat):Int)):=by rw[zZ3,zV3 (by rw[o.len];exact hi),o.gG hi];rfl
 refine⟨_,rfl,_,rfl,a0,_,_,_,rfl,rfl,.inl (jX h0 fun o e=>R3.same _ o e),ix,rfl,R3,?_⟩;rw[yU,DC,AJ];rfl
theorem yC6:∀m,(rgs n xs m).length<=m
 |0=>Ac _
 |m+1=>by have:=yC6 m;rw[rgs];split;rfl';rw[Aj,BX];rfl'
theorem wN7(o:Ord n xs)(hn:n<=400){K:KFr}(oh:∀a,O a->H0 a≠none){a0:Addr}(h0:Rd H0 a0 (.tup (xs.map V.int))){E:Ends}(k:∀v H',Same H0 H'->CallOk true O H0 H' v (.list (ringsR n xs n))->E.rt v H'):tRg K E [some (.ref a0),none,none,none,none,none] H0:=by
 intro am ham;refine⟨Cb _,fun ar har=>?_⟩;have d3:am≠ar:=fun z=>by rw[z,yU]at har;cases har
 have har0:H0 ar=none:=by rw[zJ (fun z=>d3 z.symm)]at har;exact har
 have hl:(xs.map V.int).length=n:=by rw[Aa];exact o.len
 have S1:Same H0 (L2.upd (L2.upd H0 am (.dK [])) ar (.lst [])):=fun b ob e=>by rw[zJ (fun z=>by rw[z,har0]at e;cases e),zJ (fun z=>by rw[z,ham]at e;cases e)];exact e
 refine⟨_,rfl,a0,_,rfl,.inr (.inl (jX h0 fun ob e=>S1 _ ob e)),_,rfl,by rfl',by rfl',?_⟩;rw[hl,AX];refine zS3 (fun i σ H=>∃x y z vs,σ=[some (.ref a0),some (.ref am),some (.ref ar),x,y,z]/\RgAt O H0 am ar n xs (fun _=>False) i (rgs n xs i).flatten vs H) ⟨none,none,none,[],rfl,S1,?_,yU,.nil⟩ ?_ ?_;rw[zJ d3,yU];rfl;rintro i σ H hi ⟨x,y,z,vs,rfl,R⟩;rw[Int.zero_add];refine⟨Cb _,fun g hg=>?_⟩;have hg0:H0 g=none:=R.same.free hg;have d1:g≠am:=fun z=>by rw[z,R.dic]at hg;cases hg
 have d2:g≠ar:=fun z=>by rw[z,R.lst]at hg;cases hg
 have R1:RgAt O H0 am ar n xs (fun b=>b=g) i (metN n xs i 0) vs (L2.upd H g (.lst [])):=by
  refine⟨fun b ob e=>?_,?_,?_,?_⟩;rw[zJ (fun z=>by rw[z,hg0]at e;cases e)];exact R.same b ob e;rw[zJ (fun z=>d1 z.symm),R.dic];unfold metN;rw[List.range_zero,Dc,BP];rw[zJ (fun z=>d2 z.symm)];exact R.lst;refine R.reps.keep (fun b ob e _=>by rw[zJ (fun z=>by rw[z,hg]at e;cases e)];exact e) fun b hb q=>?_;rcases q with q|q|q|q
  exact .inl q;exact .inr (.inl q);exact .inr (.inr (.inl q));exact(hb (by rw[q];exact hg)).elim
 refine⟨_,rfl,?_⟩;refine wZ4 o hn h0 hg0 ham d1 d2 d3 hi R1 yU fun H2 R2 hg2=>?_;refine⟨_,rfl,g,_,rfl,.inl (SqL.of hg2),_,_,rfl,rfl,_,rfl,?_⟩;show(if _=true then _ else _);rw[Aa,Aq];have mE:=wL7 (n:=n) (xs:=xs) i;by_cases c:has (rgs n xs i) i=true;have s0:stepsN n xs i=0:=Ae c;have e1:rgs n xs (i+1)=rgs n xs i:=by rw[rgs,Ae c]
 rw[s0,An (by decide)];refine⟨_,_,_,vs,rfl,R2.same,?_,R2.lst,?_⟩;rw[R2.dic,mE];unfold ringsR;rw[e1];exact R2.reps.less fun b q=>by rcases q with q|q|q|q;exact .inl q;exact .inr (.inl q);exact .inr (.inr (.inl q));exact q.elim
 have s0:stepsN n xs i=per n xs i:=An c;have e1:rgs n xs (i+1)=rgs n xs i++[ring n xs i]:=by rw[rgs,An c]
 obtain⟨a1,a2,_⟩:=o.yA hi;rw[Ae (Ab (by rw[s0];rfl'))];have vl:vs.length<=n:=by have:=R2.reps.length;unfold ringsR at this;rw[Aa]at this;have:=yC6 (n:=n) (xs:=xs) i;rfl'
 refine⟨_,rfl,.inl ⟨rfl,_,SqL.of R2.lst⟩,_,rfl,ar,_,_,rfl,rfl,R2.lst,small1000 (by rfl'),?_⟩;refine⟨_,_,_,vs++[.ref g],rfl,fun b ob e=>?_,?_,yU,?_⟩;rw[zJ (fun z=>by rw[z,har0]at e;cases e)];exact R2.same b ob e;rw[zJ d3,R2.dic,mE];unfold ringsR;rw[e1,AJ];refine Reps.append (R2.reps.keep (fun b ob e q=>by rw[zJ (fun z=>q (.inr (.inl z)))];exact e) fun b _ q=>?_) (.cons (.lst (.inl ?_) ?_ (aX (rgI (ring n xs i)))) .nil);rcases q with q|q|q|q;exact .inl q;exact .inr (.inl q);exact .inr (.inr (.inl q));exact q.elim;rw[zJ d2,hg2,s0];unfold rgI ring;rw[Ar,Ar];rfl;intro q;rcases q with q|q|q|q;exact oh g q hg0;exact d2 q;exact d1 q;exact q;rintro σ H ⟨x,y,z,vs,rfl,R⟩;refine⟨_,rfl,k _ H R.same ⟨ar,vs,_,rfl,rfl,har0,R.lst,R.reps.less fun b q=>?_⟩⟩;rcases q with q|q;exact .inl q;exact .inr (.inl q)
end
section
variable {P:Program}{w:World}{K:KFr}{mg:B9}{base:Heap}
end
theorem zH3{Q:D->Prop}{R:Str->Prop}(h:(ringsF ds).post Q R):∃(n:Nat)(xs:C6),ds=[tI xs]/\Ord n xs/\n<=400/\Q (.list (ringsR n xs n)):=by unfold ringsF at h;split at h;split at h;rename_i es xs e;have e':=fJ e;subst e';split at h;rename_i c;exact⟨_,xs,rfl,c.1,c.2,h⟩;exact h.elim;exact h.elim;exact h.elim
section
variable {P:Program}{w:World}{K:KFr}{mg:B9}{base:Heap}
theorem xF2{x:Str}{st:Stmt}{f:Addr}{fd:FuncData}{N:C4}{k:Nat}(F:Fun K x x st f fd)(S:vK N ps (zH st))(hp:ps.length=1)(hN:N.length=6)(hbody:∀(cdv:Value)(A:Around)(outer:List Env)(s:Shared)(H:Hp)(E:XK),Room k (A.deeper (envOfC x (zH st) s.heap.objs.size f cdv))->PSs (bodyX P w K mg base N x (zH st) f cdv A outer s H E []).X (defBody st) (tRg K)):FnOk P w K mg base (CXV P w) (k+1) f fd ps (spX true ringsF):=by
 have len:∀(vs:C8)(H:Hp)(Q:VK)(E:XK),spX true ringsF vs H Q E->vs.length=ps.length:=fun vs H Q E h=>by obtain⟨ds,O,oh,r,k⟩:=h;obtain⟨n,xs,rfl,_⟩:=zH3 k;rw[r.length,hp];rfl
 obtain⟨oc,od,kV,doc,pm,an,cdv,ct,osl,rfl,lk,hcd⟩:=F.ex;refine yQ2 lk hcd S len fun A outer s H vs Q E hr h=>?_;obtain⟨ds,O,oh,r,k⟩:=h;obtain⟨n,xs,rfl,o,hn,k⟩:=zH3 k;refine⟨_,hbody cdv A outer s H E hr,?_⟩;cases r with
 |cons r1 r2=>
  cases r2;cases r1 with
  |tup rd no rs=>have e:=rs.ints;subst e;have st:∀a:Addr,start N [V.ref a]=[some (.ref a),none,none,none,none,none]:=fun a=>(by unfold start;rw[hN];rfl);rw[st];exact wN7 o hn oh rd fun v H' s c=>k v H' s c
end
end L2.L3
namespace L2
open PySem PySem.Spec PyProof.Rows
structure M2(X:Cx)(o:Expr)(m:Str)(apos:Pos)(e f:Expr)(cpos:Pos):Prop where
 base:attributeBase o m X.env (eval o X.env)=eval o X.env
 few:((backTo cpos (starEach [e,f] X.env)).all (fun x=>!x.1)&&(backToKw cpos (keywordEach [] X.env)).all (fun x=>x.1.isSome)
 &&decide (([e,f]:C7).length+([]:List Keyword).length+(if ([]:List Keyword).isEmpty then 0 else 1)<30))=true
 line:(apos.endLine==cpos.line)=true
 trees:backTo cpos (starEach [e,f] X.env)=[(false,eval e X.env),(false,eval f X.env)]
def IsD(H:Hp)(a:Addr):Prop:=(∃kvs,Rd H a (.dK kvs))\/∃kvs,Rd H a (.dT kvs)
theorem wC5{X:Cx}{a:Addr}(I:Inv X EA σ H s)(d:IsD H a):s.TypeIs (.ref a) "dict"/\(∀b,Value.ref a=.ref b->∃ob,s.heap.get? b=some ob/\ob.dict=none)/\(a==sysModules)=false:=by rcases d with⟨kvs,e⟩|⟨kvs,e⟩;obtain⟨_,hd,vs,_,dd⟩:=yQ9 I.hok e;refine⟨dd.typeIs,fun b q=>?_,hd⟩;cases q;obtain⟨ob,_,_,h1,h2,_⟩:=dd;exact⟨ob,h1,h2.2.1⟩;obtain⟨_,hd,xs,_,dd⟩:=yR9 I.hok e;refine⟨dd.typeIs,fun b q=>?_,hd⟩;cases q;obtain⟨ob,_,_,h1,h2,_⟩:=dd;exact⟨ob,h1,h2.2.1⟩
section
variable {X:Cx}{EA:A9}{σ:St}{H:Hp}{s:Shared}{a:Addr}{y d:V}{u r:Value}{o:Option V}{A:Around}{E:A8}
theorem wF5(hu:A.units+1<cLine)(I:Inv X EA σ H s)(g:DGet H a y o)(ry:RelV y u)(rd:RelV d r)(h:∀w' s',Inv X EA σ H s'->RelV (o.getD d) w'->Q w' s'):wpAny (model X.prog X.w) A (call (.builtin "dict.get") [.ref a,u,r]) Q E s:=by rcases g with⟨kvs,k,e,ey,l⟩|⟨kvs,k,b,e,ey,eb,l⟩;subst ey;obtain⟨z,hd,vs,rel,dd⟩:=yQ9 I.hok e;refine call_meetsIn DR dd.typeIs PySem.F.entry_dict_get (PySem.F.args_dict_get_3 _ _ _) (meets_dict_get_default (mixKind X.prog X.w) a (yQ7 ry) hd r) ⟨_,dd.mapOf,h _ _ (I.tok _) ?_⟩;rw[l];exact(rel.val k).getD rd;subst ey;cases (show u=Value.ref b from ry);obtain⟨z,hd,xs,rel,dd⟩:=yR9 I.hok e;refine call_meetsIn DR dd.typeIs PySem.F.entry_dict_get (PySem.F.args_dict_get_3 _ _ _) (meetsH_dict_get_default (tupleKind (mixKind X.prog X.w)) a b hd r) ⟨tupleKind_room_in1 hu,k,xs,zI4 I.hok eb,dd,h _ _ (I.tok _) ?_⟩;rw[l];exact(rel.val k).getD rd
end
def tDGet2(td ty tx:TE):TE:=fun σ H Q=>td σ H fun x H1=>∃a,x=.ref a/\IsD H1 a/\ty σ H1 fun y H2=>tx σ H2 fun z H3=>∃o,DGet H3 a y o/\Q (o.getD z) H3
section
variable {X:Cx}{o e f:Expr}{apos cpos:Pos}{td ty tx:TE}
theorem xD7(hu:X.A.units+1<cLine)(ho:PE X o td)(he:PE X e ty)(hf:PE X f tx)(m:M2 X o "get" apos e f cpos):PE X (.Call (.Attribute o "get" apos) [e,f] [] cpos) (tDGet2 td ty tx):=by intro EA s σ H Q I h;refine wpAny_Call_method m.base m.few m.line PySem.F.plainAttrs_dict DR PySem.F.type_dict_get (thn (ho EA s σ H _ I h) fun u s1⟨x,H1,I1,rx,a,ex,d,q1⟩=>?_);subst ex;obtain rfl:u=Value.ref a:=rx;obtain⟨t1,t2,_⟩:=wC5 I1 d;refine⟨t1,t2,?_⟩;rw[m.trees];refine DI rfl (Ea (Ei (thn (he EA s1 σ H1 _ I1 q1) fun iv s2⟨y,H2,I2,ry,q2⟩=>Ei (thn (hf EA s2 σ H2 _ I2 q2) fun fv s3⟨z,H3,I3,rz,ov,g,q3⟩=>Calls.spliced_nil ?_))));exact wF5 hu I3 g ry rz fun w' s4 I4 rw'=>⟨_,H3,I4,rw',q3⟩
end
end L2
namespace L2.L3
open PySem PySem.Spec PyProof.Rows
variable [CN]
section
omit [CN]
theorem uL{C b:Addr}{o:Obj}(e:(PySem.W.hideAll h [C]).get? b=some o):h.get? b=some o/\b≠C:=⟨DD _ e,fun z=>by rw[z,Dn _ (.head _)]at e;cases e⟩
theorem vN{C b:Addr}{o:Obj}(e:h.get? b=some o)(n:b≠C):(PySem.W.hideAll h [C]).get? b=some o:=CO _ e fun z=>n (by simpa using z)
theorem fD{C b:Addr}(e:h.get? b=none):(PySem.W.hideAll h [C]).get? b=none:=by
 cases q:(PySem.W.hideAll h [C]).get? b with
 |none=>rfl
 |some o=>rw[(uL q).1]at e;cases e
theorem yN8{h g B:Heap}{C:Addr}:∀{l:List Env},h.FunFrames B l->(∀b o,b∈frs l->h.get? b=some o->(∀vs,o.data≠.fields vs)->∃o',g.get? b=some o'/\o'.data=o.data)->g.FunFrames (PySem.W.hideAll B [C]) l
 |[],_,_=>trivial
 |env::l,⟨k,⟨L,o,h1,h2,h3,h4⟩,r⟩,q=>by have ml:L∈frs (env::l):=BN.mpr ⟨env,Af,h1⟩;obtain⟨o',e1,e2⟩:=q L o ml h3 h4;refine⟨k,⟨L,o',h1,fD h2,e1,fun vs=>by rw[e2];exact h4 vs⟩,yN8 r fun b o hb=>q b o ?_⟩;obtain⟨e,he,hf⟩:=BN.mp hb;exact BN.mpr ⟨e,Ak _ he,hf⟩
theorem zB4{g B B':Heap}{e:Addr}{cls a0 fl:Value}(t:h.TracedAtW B e cls a0 fl)(q:∀b o ts,h.get? b=some o->o.data=.fields ts->g.get? b=some o)(k:∀b,B.get? b=none->B'.get? b=none):g.TracedAtW B' e cls a0 fl:=by obtain⟨oe,vs,T,oT,ts,g1,g2,g4,g5,g6,g7,g8,g9,g10⟩:=t;exact⟨oe,vs,T,oT,ts,q _ _ _ g1 g4,g2,g4,g5,k _ g6,g7,q _ _ _ g8 g9,g9,g10⟩
end
theorem wW2{X:Cx}{XE:Str->Hp->Prop}{N:C4}{C D:Addr}{s₂:Shared}{H₂:Hp}{use:Option (Value->Sem Unit)}{Qv:A8}{xe:A8}(hb:∀c H e s,ExcAt X c H e s->XE c H->X.xe e s)(hst:X.stack=X.env::X.outer)(hfr:X.env.frame=some X.env.locals)(I2:Inv X EA σ H₂ s₂)(f2:∀b∈fp,FpOk X EA H₂ b)(hC:s₂.heap.objs.size<=C)(c:Str)(H:Hp)(e:Value)(s:Shared)(x:ExcAt ((cxComp X N scope C fp s₂ H₂).wish xe) c H e s)(z:XE c H):notedBy (model X.prog X.w) X.A (compEnvC scope (clos X.env.cells scope.names []) C X.env) (fun e s'=>compPost (model X.prog X.w) X.A X.xe use Qv (.ref D) C (.error e) s') e s:=by
 obtain⟨pins',σ',s1,H1,a,B,a0,J1,J,un,rfl,n1,n2,f⟩:=x;have un:Un (frs X.stack) [] H1 H s1.heap s.heap:=un;have f:Fl X.stack s1.heap H a (.ref (CN.ad c)) (rowOf c) B a0 s.heap:=f;have c1:H1 C=none:=J1.free;have cc:H C=none:=J.free;have nC:C∉frs X.stack:=fun z=>by rcases AF.mp (I2.stkSub C z)with q|q;exact absurd I2.lt (by rw[<-q];exact DW.mpr hC);exact I2.nofs (a:=C) hC q
 obtain⟨m1,⟨oc1,es1,ep1,q1,_⟩,_⟩:=id J1.loc;obtain⟨m,hn,_⟩:=id J.loc;obtain⟨oc,es,ep,qc,dc,_⟩:=id hn;have q1:s1.heap.get? C=some oc1:=q1;have hn:s.heap.Ns C m:=hn;have qc:s.heap.get? C=some oc:=qc;have aC:a≠C:=fun y=>by subst y;rw[n1]at q1;cases q1
 have fC:∀b o ts,s.heap.get? b=some o->o.data=.fields ts->b≠C:=fun b o ts q d y=>by subst y;rw[qc]at q;cases q;rw[d]at dc;cases dc
 have u1:Un (frs X.stack) fp H₂ H1 s₂.heap s1.heap:=J1.base;have lt:∀b o,s₂.heap.get? b=some o->b≠C:=fun b o q y=>DW.mpr hC (y▸Au q);have tk:∀{K:Hp}(b:Addr),K C=none->K b≠none->b≠C:=fun b h n y=>n (y▸h);have I1:Inv X EA σ H1 {s1 with heap:=PySem.W.hideAll s1.heap [C]}:=by
  refine I2.call' (s':={s1 with heap:=PySem.W.hideAll s1.heap [C]}) (ch:=fp) J1.os ⟨fun b o q n hb hx=>vN (u1.keep b o q n hb hx) (lt b o q),fun b o q n hb hx=>?_,u1.free,fun b o q hx=>?_,u1.tups,u1.frzs,u1.tbls⟩ (fun b o q=>?_) J1.bare fun b hb=>⟨(f2 b hb).2.2.2.1,(f2 b hb).2.1,(f2 b hb).2.2.2.2.1,(f2 b hb).2.2.2.2.2⟩;obtain⟨sl,e⟩:=u1.slot b o q n hb hx;exact⟨sl,vN e (lt b o q)⟩;obtain⟨o',e⟩:=u1.there b o q hx;exact⟨o',vN e (lt b o q)⟩;refine(J1.hok b o q).stay (fun b' u hb' e=>vN e ?_) (fun _ z=>z) fun _ _ z=>z;rcases hb' with rfl|hb'
  exact tk b' c1 (wI q);exact tk b' c1 (wI hb')
 have un':Un (frs X.stack) [] H1 H (PySem.W.hideAll s1.heap [C]) (PySem.W.hideAll s.heap [C]):=by refine⟨fun b o q n hb hx=>vN (un.keep b o (uL q).1 n hb hx) (uL q).2,fun b o q n hb hx=>?_,fun b o q n hx=>un.free b o (uL q).1 n hx,fun b o q hx=>?_,un.tups,un.frzs,un.tbls⟩;obtain⟨sl,e⟩:=un.slot b o (uL q).1 n hb hx;exact⟨sl,vN e (uL q).2⟩;obtain⟨o',e⟩:=un.there b o (uL q).1 hx;exact⟨o',vN e (uL q).2⟩
 have hok:HOk X.prog X.w H (PySem.W.hideAll s.heap [C]):=fun b o q=>by
  refine(J.hok b o q).stay (fun b' u hb' e=>vN e ?_) (fun _ z=>z) fun _ _ z=>z;rcases hb' with rfl|hb'
  exact tk b' cc (wI q);exact tk b' cc (wI hb')
 have I:Inv X EA σ H {s with heap:=PySem.W.hideAll s.heap [C]}:=I1.call' (s':={s with heap:=PySem.W.hideAll s.heap [C]}) (J.os.trans J1.os.symm) un' hok J.bare (fun b z=>by cases z);have frC:∀b,b∈frs X.stack->b≠C:=fun b q y=>nC (y▸q);have hidK:∀{od:Option Addr}{v:Value},FlK (.ref (CN.ad c)) (rowOf c) B s1.heap H od v->FlK (.ref (CN.ad c)) (rowOf c) (PySem.W.hideAll B [C]) (PySem.W.hideAll s1.heap [C]) H od v:=fun⟨y1,y2⟩=>⟨y1,fun r e=>by obtain⟨d,z1,z2,z3,z4⟩:=y2 r e;exact⟨d,z1,z2.keeps (fun o q=>vN q (fun y=>by rw[y,q1]at z4;cases z4)),z3,fD z4⟩⟩;have fl:Fl X.stack (PySem.W.hideAll s1.heap [C]) H a (.ref (CN.ad c)) (rowOf c) (PySem.W.hideAll B [C]) a0 (PySem.W.hideAll s.heap [C]):=by
  refine⟨fun b o q=>vN (f.stays b o (uL q).1) (uL q).2,fD f.newB,yN8 f.frm fun b o hb q d=>⟨o,vN q (frC b hb),rfl⟩,?_,?_,fun b o q nb hh=>?_⟩;rcases f.raw with⟨fl,t⟩|⟨oe,vs,h1,h2,h3,h4⟩;exact .inl ⟨fl,zB4 t (fun b o ts q d=>vN q (fC b o ts q d)) fun b=>fD⟩;exact .inr ⟨oe,vs,vN h1 aC,h2,h3,h4⟩;obtain⟨oe,vs,v,y1,y2⟩:=f.kp.mono fun _ _=>hidK
  exact⟨oe,vs,v,vN y1 aC,y2⟩;obtain⟨q1,q2⟩:=uL q;refine vN (f.cov b o q1 nb (hh.elim (fun hh=>.inl fun y=>hh (fD y)) .inr)) q2
 have hfrm:s.heap.FunFrames B (X.env::X.outer):=by rw[<-hst];exact f.frm
 have hA:X.A.frames=some (X.env::X.outer):=by rw[<-hst];exact I2.ok.frames
 obtain⟨Φ,hP⟩:∃Φ,Φ=FlK (.ref (CN.ad c)) (rowOf c) (PySem.W.hideAll B [C]) (PySem.W.hideAll s1.heap [C]) H:=⟨_,rfl⟩;have fk:KpX Φ a s.heap:=hP▸f.kp.mono fun _ _=>hidK;have key:∀h',Heap.NotedW B (X.env::X.outer) a (.ref (CN.ad c)) a0 (rawInt X.env.locals) s.heap h'->KpX Φ a h'->compPost (model X.prog X.w) X.A X.xe use Qv (.ref D) C (.error (.ref a)) {s with heap:=h'}:=by
  rintro h' ⟨k1,k2,k3,k4⟩ kh;have hn':h'.Ns C m:=Heap.UpToSlots.ns k4 hn;obtain⟨_,_,_,qc',dc',_⟩:=id hn';have fin:∃m,h'.Ns C m/\∀h'',Heap.SameBut C h' h''->∀cenv:Env,cenv.locals=C->wpAny (model X.prog X.w) X.A (PySem.passOn "comprehension.variables-let-go" (.ref a) cenv:Sem Value) (fun _ _=>False) X.xe {s with heap:=h''}:=by refine⟨m,hn',fun h'' sb cenv ec=>?_⟩;have t2:h''.TracedAtW B a (.ref (CN.ad c)) a0 (rawInt X.env.locals):=zB4 k3 (fun b o ts q d=>(sb.2 b fun y=>by subst y;rw[qc']at q;cases q;rw[d]at dc';cases dc').trans q) fun b q=>q;have kh2:KpX Φ a h'':=kh.same (sb.2 a aC);refine wZ3 (s:={s with heap:=h''}) t2 kh2 fun g3 T fl' b1 b2⟨o,ts,b3,b4⟩b5 kh3=>?_;have S3:(PySem.W.hideAll B [C]).StaysIn g3:=fun b u q=>(by obtain⟨y1,y2⟩:=uL q;rw[b2 b fun y=>by rw[y,b1]at y1;cases y1];exact(sb.2 b y2).trans (k1 b u y1));have noT:∀b u,h''.get? b=some u->(∀vs,u.data≠.fields vs)->b≠T:=fun b u q d y=>(by subst y;have b3:h''.get? b=some o:=b3;rw[b3]at q;cases q;exact d ts b4);have F3:g3.FunFrames (PySem.W.hideAll B [C]) X.stack:=(by rw[hst];refine yN8 k2 fun b u hb q d=>⟨u,?_,rfl⟩;have q2:h''.get? b=some u:=(sb.2 b (frC b (by rw[hst];exact hb))).trans q;exact(b2 b (noT b u q2 d)).trans q2);have U3:(PySem.W.hideAll s.heap [C]).UpToSlots g3:=fun b u q d=>(by obtain⟨y1,y2⟩:=uL q;obtain⟨sl,y3⟩:=k4 b u y1 d;have q2:h''.get? b=some {u with slots:=sl}:=(sb.2 b y2).trans y3;exact⟨sl,(b2 b (noT b _ q2 d)).trans q2⟩);obtain⟨K,un3,cov⟩:=zG1 I1 I un' fl S3 F3 U3;exact hb c H _ _ ⟨EA,σ,_,H1,a,PySem.W.hideAll B [C],a0,I1,K,un3,rfl,fD n1,n2,⟨S3,fD f.newB,F3,.inl ⟨fl',zB4 b5 (fun b o ts q d=>q) fun b=>fD⟩,hP▸kh3,cov⟩⟩ z
  cases use<;>exact fin
 show wpAny (model X.prog X.w) X.A (noteFrame (.ref a) X.env) (fun _ s''=>compPost (model X.prog X.w) X.A X.xe use Qv (.ref D) C (.error (.ref a)) s'') (fun e' s''=>compPost (model X.prog X.w) X.A X.xe use Qv (.ref D) C (.error e') s'') s;rcases f.raw with⟨fl,t⟩|⟨oe,vs,he,hc,hd,h1,h0⟩;exact zX3 hA hfrm hfr t f.stays f.newB fk key;rw[<-hc]at key;unfold noteFrame;simp only[hfr];refine Ai (wpAny_field he hd h1 ?_);rw[An (by decide)];exact entryK hA hfrm hfr he f.stays f.newB hd (Bh.mp h1).1 h0 fk key
def BrI(X:Cx)(XE:Str->Hp->Prop)(N:C4)(scope:Scope)(C:Addr)(fp:C9)(s₂:Shared)(H:Hp)(xe:A8):Prop:=∀c H' e s,ExcAt ((cxComp X N scope C fp s₂ H).wish xe) c H' e s->XE c H'->xe e s
def tCompX(X:Cx)(XE:Str->Hp->Prop)(N:C4)(scope:Scope)(wi:TI)(tt:(C:Addr)->(fp:C9)->(s₂:Shared)->(H:Hp)->(xe:A8)->BrI X XE N scope C fp s₂ H xe->TT)(te:(C:Addr)->(fp:C9)->(s₂:Shared)->(H:Hp)->(xe:A8)->BrI X XE N scope C fp s₂ H xe->TE)(js:C5):TE:=fun σ H Q=>wi σ H fun J H1=>∀C fp s₂ H₂ xe br,∃W:Nat->Nat->List V->Hp->Prop,(∃m,W 0 m [] H1)/\∀i m acc H,W i m acc H ->(J.stop i H/\∀p,H p=none->Q (.ref p) (upd H p (.lst acc))) \/ (J.go i H/\∃Nx:List V->Hp->Prop,(∀acc' H',Nx acc' H'->∃m',m'<m/\W (i+1) m' acc' H') /\∀x H',J.yld i H x H'->tt C fp s₂ H₂ xe br (compSt σ js (some x)) H' fun b H2=>if b=true then te C fp s₂ H₂ xe br (compSt σ js (some x)) H2 fun v H3=>acc.length<sizeLine/\Nx (acc++[v]) H3 else Nx acc H2)
def BrO(X:Cx)(XE:Str->Hp->Prop):Prop:=(∀c H,XE c H->False)\/((∀c H e s,ExcAt X c H e s->XE c H->X.xe e s)/\X.stack=X.env::X.outer/\X.env.frame=some X.env.locals)
def CompW(X:Cx)(XE:Str->Hp->Prop)(N:C4)(scope:Scope)(SS:St->Prop)(g:TG)(tt:(C:Addr)->(fp:C9)->(s₂:Shared)->(H:Hp)->(xe:A8)->BrI X XE N scope C fp s₂ H xe->TT)(te:(C:Addr)->(fp:C9)->(s₂:Shared)->(H:Hp)->(xe:A8)->BrI X XE N scope C fp s₂ H xe->TE)(Q:VK)(J:It)(H1:Hp):Prop:=∀C fp s₂ H₂ xe br,∃W:Nat->Nat->List V->Hp->Prop,(∃m,W 0 m [] H1)/\∀i m acc H,W i m acc H ->(J.stop i H/\∀p,H p=none->Q (.ref p) (upd H p (.lst acc))) \/ (J.go i H/\∃Nx:List V->Hp->Prop,(∀acc' H',Nx acc' H'->∃m',m'<m/\W (i+1) m' acc' H') /\∀x H',J.yld i H x H'->∀σ,SS σ->g x σ H' fun σ1 H1=>SS σ1/\tt C fp s₂ H₂ xe br σ1 H1 fun b H2=>if b=true then te C fp s₂ H₂ xe br σ1 H2 fun v H3=>acc.length<sizeLine/\Nx (acc++[v]) H3 else Nx acc H2)
theorem zH4{X:Cx}{iter:Expr}{pos:Pos}{Nn:C4}{XE:Str->Hp->Prop}{SS:St->Prop}{tt:(C:Addr)->(fp:C9)->(s₂:Shared)->(H:Hp)->(xe:A8)->BrI X XE Nn scope C fp s₂ H xe->TT}{te:(C:Addr)->(fp:C9)->(s₂:Shared)->(H:Hp)->(xe:A8)->BrI X XE Nn scope C fp s₂ H xe->TE}(hB:BrO X XE)(hcl:X.Ok->∀n,(n,NameKind.free)∈scope.names->∃c,X.env.cells.lookup n=some c)(hkd:scope.kind=.function)(hnc:∀y∈scope.names,y.2≠.cell)(hnm:∀y∈scope.names,y.2=.local->scope.names.lookup y.1=some .local)(hsub:X.Ok->∀x c,(clos X.env.cells scope.names []).lookup x=some c->X.env.cells.lookup x=some c)(gok:∀C fp s₂ H xe,PG ((cxComp X Nn scope C fp s₂ H).wish xe) tg g)(hc:X.calm=true)(hi:PI X tg iter wi)(ht:∀C fp s₂ H xe br,PTs ((cxComp X Nn scope C fp s₂ H).wish xe) ifs (tt C fp s₂ H xe br))(he:∀C fp s₂ H xe br,PE ((cxComp X Nn scope C fp s₂ H).wish xe) elt (te C fp s₂ H xe br))(hs:∀x,foldedSetIterable iter X.env x=pure x){EA:A9}{cpos:Pos}{s:Shared}{σ σ0:St}{H:Hp}{Q:VK}{R:It->Hp->Prop}{use:Option (Value->Sem Unit)}{Qv:A8}(I:Inv X EA σ H s)(h:wi σ H R)(hR:∀J H1,R J H1->CompW X XE Nn scope SS g tt te Q J H1)(hS0:SS σ0)(hblk:∀{fp:C9}{H2:Hp}{s2 s4:Shared}{C:Addr}{m:B9},Inv X EA σ H2 s2->(∀b∈fp,FpOk X EA H2 b)->(∀b∈fp,∃o,s2.heap.get? b=some o)->s4.os=s2.os->AllBare s4.gens->(∀b o,s2.heap.get? b=some o->s4.heap.get? b=some o)->s2.heap.objs.size<=C->s4.heap.Ns C m->Inv (cxComp X Nn scope C fp s2 H2) [] σ0 H2 s4)(hfin:∀(s':Shared)(C D:Addr)(Ha:Hp)(fl:Flow),(∀h'',Heap.SameBut C s'.heap h''->Inv X EA σ Ha {s' with heap:=h''})->(∃m,s'.heap.Ns C m)->FpOk X EA Ha C->Q (.ref D) Ha->compPost (model X.prog X.w) X.A X.xe use Qv (.ref D) C (.ok fl) s'):wpAny (model X.prog X.w) X.A (comprehension (.ListComp elt [⟨tg,iter,ifs,0⟩] scope pos) scope X.env cpos (newList []) false (eval iter X.env) use) Qv X.xe s:=by
 refine wpAny_comprehension_free (use:=use) rfl hs (yS4 (hcl I.ok)) hkd hnm ?_;refine thn (hi EA s σ H _ I h) fun v s1 h1=>thn h1 fun itv s2 h2=>?_;obtain⟨it,fp,tn,J,H2,e,I2,T,st2,f2,hW⟩:=h2;subst e;have fo:∀b∈fp,∃o,s2.heap.get? b=some o:=fun b hb=>let ⟨o,e,_⟩:=T.obj 0 s2.heap st2 b hb; ⟨o,e⟩
 have blt:∀b∈fp,b<s2.heap.objs.size:=fun b hb=>let ⟨o,e⟩:=fo b hb;Au e
 refine xI7 hnc hkd fun D C h₁ mC hDle hCle hDC old hacc hns₁=>?_;have bC:∀b o,s2.heap.get? b=some o->b≠C:=fun b o q z=>DW.mpr hCle (z▸Au q);have bD:∀b o,s2.heap.get? b=some o->b≠D:=fun b o q z=>DW.mpr hDle (z▸Au q);have br:BrI X XE Nn scope C fp s2 H2 (notedBy (model X.prog X.w) X.A (compEnvC scope (clos X.env.cells scope.names []) C X.env) (fun e s'=>compPost (model X.prog X.w) X.A X.xe use Qv (.ref D) C (.error e) s')):=fun c H e s x z=>by rcases hB with hB|⟨hb,hst,hfr⟩;exact(hB c H z).elim;exact wW2 hb hst hfr I2 f2 hCle c H e s x z
 generalize hxe:(notedBy (model X.prog X.w) X.A (compEnvC scope (clos X.env.cells scope.names []) C X.env) (fun e s'=>compPost (model X.prog X.w) X.A X.xe use Qv (.ref D) C (.error e) s'))=xe at br;have noE:∀(a:Value)(s':Shared),xe a s'->notedBy (model X.prog X.w) X.A (compEnvC scope (clos X.env.cells scope.names []) C X.env) (fun e s'=>compPost (model X.prog X.w) X.A X.xe use Qv (.ref D) C (.error e) s') a s':=fun a s' z=>by rw[hxe];exact z
 obtain⟨W,⟨m0,w0⟩,turn⟩:=hR _ _ hW C fp s2 H2 xe br;have fpk:∀{H':Hp}(ob:Obj),(∀b∈fp,H' b=none)->∀b∈fp,FpOk ((cxComp X Nn scope C fp s2 H2).wish xe) [(D,ob)] H' b:=fun{H'}ob hn b hb=>by
  refine⟨hn b hb,AW (AA (blt b hb) hCle),fun z=>?_,.inl hb,fun x c e=>(f2 b hb).2.2.2.2.1 x c (hsub I2.ok x c e),fun p hp=>?_⟩;rcases AF.mp (I2.stkSub b z)with q|q;exact(f2 b hb).2.1 q;exact(f2 b hb).2.2.1 q;have:p=(D,ob):=by have hp:p∈[]++[(D,ob)]:=hp;simpa using hp
  subst this;exact Ef (AA (blt b hb) hDle)
 have loop:codeAny (model X.prog X.w) X.A (.compLoop (.ListComp elt [⟨tg,iter,ifs,0⟩] scope pos) 0 (.ref it) (.ref D) (compEnvC scope (clos X.env.cells scope.names []) C X.env)) (compPost (model X.prog X.w) X.A X.xe use Qv (.ref D) C) {s2 with heap:=h₁}:=by
  have J0:Inv ((cxComp X Nn scope C fp s2 H2).wish xe) [] σ0 H2 {s2 with heap:=h₁}:=(hblk (s4:={s2 with heap:=h₁}) I2 f2 fo rfl I2.bare old hCle hns₁).wish xe;have H2D:H2 D=none:=I2.hok.fresh hDle;have ofD:D∉frs X.stack:=fun z=>by rcases AF.mp (I2.stkSub D z)with q|q;exact absurd I2.lt (by rw[<-q];exact DW.mpr hDle);exact I2.nofs (a:=D) hDle q
  refine codeAny_loop rfl (fun n s'=>∃(i:Nat)(σ':St)(H':Hp)(acc:C8)(its:C3)(k:Nat),SS σ'/\Inv ((cxComp X Nn scope C fp s2 H2).wish xe) [] σ' H' s'/\tn i s'.heap/\(∀b∈fp,H' b=none)/\H' D=none /\s'.heap.get? D=some {cls:=.type "list",data:=.seq its.toArray k}/\Vals acc its/\acc.length<=sizeLine/\W i n acc H') ?_ m0 ⟨0,_,H2,[],[],0,hS0,J0,T.keep 0 _ _ st2 fun b hb o e=>old b o e,fun b hb=>(f2 b hb).1,H2D,hacc,.nil,Cb _,w0⟩;rintro n s3 ⟨i,σ3,H3,acc,its,k,hS3,I3,st3,fr3,hD3,d3,va,hz,w3⟩;show wpAny _ X.A ((compTurn (.ListComp elt [⟨tg,iter,ifs,0⟩] scope pos) 0 (.ref it) (.ref D) (compEnvC scope (clos X.env.cells scope.names []) C X.env)).onRaise (fun x=>do noteFrame x (compEnvC scope (clos X.env.cells scope.names []) C X.env);theTreesLotGoes x)) _ _ s3;refine wpAny_noted ?_;rw[compTurn_list];refine Ai (wpAny_standAt ?_);have pinD:Inv ((cxComp X Nn scope C fp s2 H2).wish xe) [(D,{cls:=.type "list",data:=.seq its.toArray k})] σ3 H3 s3:=I3.kF fun p hp=>by have:p=(D,{cls:=.type "list",data:=.seq its.toArray k}):=(by simpa using hp);subst this;exact⟨d3,hD3,hDC,ofD,fun v z=>by cases z⟩
  refine Ai ?_;rcases turn i n acc H3 w3 with⟨stop,qn⟩|⟨go,N,hN,step⟩
  ·refine thn (T.done ((cxComp X Nn scope C fp s2 H2).wish xe) rfl rfl rfl hc i _ s3 _ H3 _ pinD (fpk _ fr3) st3 stop) fun r s4⟨hr,I4⟩=>?_
   subst hr;refine AK ?_;obtain⟨m4,hn4,_⟩:=I4.loc;have hHC:H3 C=none:=I4.free;refine hfin s4 C D (upd H3 D (.lst acc)) _ (fun h'' hsb=>I2.unblock f2 I4.unwish hCle hDle hDC hD3 ((I4.pin (D,{cls:=.type "list",data:=.seq its.toArray k}) (Ah _ Af)).1) va hz hsb) ⟨m4,hn4⟩ (I2.fpOk hCle (by rw[zJ (Bv hDC)];exact hHC)) (qn D hD3)
  refine thn (T.item ((cxComp X Nn scope C fp s2 H2).wish xe) rfl rfl rfl hc i _ s3 _ H3 _ pinD (fpk _ fr3) st3 go) fun r s4⟨u,hr,h4⟩=>?_;subst hr;refine Ai (thn h4 fun _ s5⟨x,H5,I5,r5,y5,st5,fr5⟩=>?_);have I5':=I5.pinned (fpk _ fr5) (T.obj _ _ st5);have st6:=step x H5 y5 σ3 hS3;refine Ai (wpAny_mono (gok C fp s2 H2 xe _ s5 σ3 H5 x u _ I5' r5 st6) (fun _ s6⟨σ6,H6,I6,hS6,q6⟩=>?_) noE);have fin:∀{acc':C8}{its':C3}{k':Nat}{H7:Hp}{s7:Shared},Inv ((cxComp X Nn scope C fp s2 H2).wish xe) [] σ6 H7 s7->tn (i+1) s7.heap->(∀b∈fp,H7 b=none)->H7 D=none->s7.heap.get? D=some {cls:=.type "list",data:=.seq its'.toArray k'}->Vals acc' its'->acc'.length<=sizeLine->N acc' H7 ->∃m,m<n/\∃(i:Nat)(σ':St)(H':Hp)(acc:C8)(its:C3)(k:Nat),SS σ'/\Inv ((cxComp X Nn scope C fp s2 H2).wish xe) [] σ' H' s7/\tn i s7.heap/\(∀b∈fp,H' b=none)/\H' D=none /\s7.heap.get? D=some {cls:=.type "list",data:=.seq its.toArray k}/\Vals acc its/\acc.length<=sizeLine/\W i m acc H':=fun{acc' its' k' H7 s7}a1 a2 a3 a4 a5 a6 a7 a8=>by obtain⟨m',hm,w7⟩:=hN _ _ a8;exact⟨m',hm,i+1,_,H7,acc',its',k',hS6,a1,a2,a3,a4,a5,a6,a7,w7⟩
  have rest:∀{H7:Hp}{s7:Shared},Inv ((cxComp X Nn scope C fp s2 H2).wish xe) ([(D,{cls:=.type "list",data:=.seq its.toArray k})]++pinsAt fp s5.heap) σ6 H7 s7 ->tn (i+1) s7.heap/\(∀b∈fp,H7 b=none)/\H7 D=none/\s7.heap.get? D=some {cls:=.type "list",data:=.seq its.toArray k}:=fun{H7 s7}I7=>by refine⟨T.keep _ _ _ st5 fun b hb o e=>(I7.pin (b,o) (Ah _ (Ah _ (dH hb e)))).1,fun b hb=>?_,(I7.pin (D,{cls:=.type "list",data:=.seq its.toArray k}) (Ah _ (AG _ Af))).2.1,(I7.pin (D,{cls:=.type "list",data:=.seq its.toArray k}) (Ah _ (AG _ Af))).1⟩;obtain⟨o,e,d⟩:=T.obj _ _ st5 b hb;exact(I7.pin (b,o) (Ah _ (Ah _ (dH hb e)))).2.1
  have elem:∀{H7:Hp}{s7:Shared},Inv ((cxComp X Nn scope C fp s2 H2).wish xe) ([(D,{cls:=.type "list",data:=.seq its.toArray k})]++pinsAt fp s5.heap) σ6 H7 s7 ->(te C fp s2 H2 xe br σ6 H7 fun v H3=>acc.length<sizeLine/\N (acc++[v]) H3) ->wpAny (model X.prog X.w) X.A (eval elt (compEnvC scope (clos X.env.cells scope.names []) C X.env)) (fun y s8=>wpAny (model X.prog X.w) X.A (call (.builtin "list.append") [.ref D,y]) (fun _ s9=>∃m,m<n/\∃(i:Nat)(σ':St)(H':Hp)(acc:C8)(its:C3)(k:Nat),SS σ'/\Inv ((cxComp X Nn scope C fp s2 H2).wish xe) [] σ' H' s9/\tn i s9.heap/\(∀b∈fp,H' b=none)/\H' D=none /\s9.heap.get? D=some {cls:=.type "list",data:=.seq its.toArray k}/\Vals acc its/\acc.length<=sizeLine/\W i m acc H') xe s8) xe s7:=fun{H7 s7}I7 q7=>by refine thn (he C fp s2 H2 xe br _ s7 _ H7 _ I7 q7) fun y s8⟨v,H8,I8,r8,hl8,n8⟩=>?_;obtain⟨t8,fr8,hD8,d8⟩:=rest I8;have hsz:=va.length;refine call_meets F.slot_list_append ⟨_,d8,rfl⟩ F.entry_list_append (F.args_list_append_2 _ _) (PySem.list_append D its.toArray k y (by rw[Av];rfl')) ⟨d8,?_⟩;have q:=PySem.IsL.update d8 (·.push y);rw[show(its.toArray.push y)=(its++[y]).toArray by simp]at q;have kk:∀b o,b≠D->s8.heap.get? b=some o->(s8.heap.update D (Obj.mapSeq (·.push y))).get? b=some o:=fun b o hb e=>(AS s8.heap _ (Bv hb)).trans e;have I9:Inv ((cxComp X Nn scope C fp s2 H2).wish xe) [] σ6 H8 {s8 with heap:=s8.heap.update D (Obj.mapSeq (·.push y))}:=(by refine Inv.turned (it:=D) (t':=s8.toks) (I8.kF (pins':=[]) fun p hp=>nomatch hp) kk hD8 hDC (.inr hDle) (fun x c e z=>?_) fun p hp=>absurd (show p∈([]:A9)from hp) (by simp);obtain⟨v,o,ho,_⟩:=I2.cell x c (hsub I2.ok x c e);exact bD c o ho z);refine fin I9 (T.keep _ _ _ t8 fun b hb o e=>kk b o (AW (AA (blt b hb) hDle)) e) fr8 hD8 q (va.append (.cons r8 .nil)) ?_ n8;rw[Aj,BX];rfl'
  have htt:=ht C fp s2 H2 xe br;generalize tt C fp s2 H2 xe br=tt' at htt q6;cases htt with
  |nil=>refine Ai (AK ?_);dsimp only[tTrue]at q6;rw[Ae rfl]at q6;refine wpAny_mono (Ai (Ai (thn (elem I6 q6) fun y s8 h8=>Ai (thn h8 fun _ s9 h9=>AK (AK ⟨rfl,h9⟩))))) (fun _ _ z=>z) noE
  |one ht1=>
   refine Ai (wpAny_tests_one (wpAny_mono (ht1 _ s6 _ H6 _ I6 q6) (fun b s7⟨H7,I7,q7⟩=>?_) noE));cases b with
   |false=>rw[An AY]at q7;obtain⟨t8,fr8,hD8,d8⟩:=rest I7;exact AK ⟨rfl,fin (I7.kF (pins':=[]) fun p hp=>nomatch hp) t8 fr8 hD8 d8 va hz q7⟩
   |true=>rw[Ae rfl]at q7;refine wpAny_mono (Ai (Ai (thn (elem I7 q7) fun y s8 h8=>Ai (thn h8 fun _ s9 h9=>AK (AK ⟨rfl,h9⟩))))) (fun _ _ z=>z) noE
 exact codeAny_compStart_list loop (T.self X.A 0 _ _ _ (T.keep 0 _ _ st2 fun b hb o e=>old b o e) loop)
theorem zD3{X:Cx}{iter:Expr}{pos:Pos}{fs:C4}{XE:Str->Hp->Prop}{tt:(C:Addr)->(fp:C9)->(s₂:Shared)->(H:Hp)->(xe:A8)->BrI X XE (xt::fs) scope C fp s₂ H xe->TT}{te:(C:Addr)->(fp:C9)->(s₂:Shared)->(H:Hp)->(xe:A8)->BrI X XE (xt::fs) scope C fp s₂ H xe->TE}(hB:BrO X XE)(S:CompScope sc0 scope N0 xt fs js)(h0:X.env.scope=sc0)(hN0:X.N=N0)(hc:X.calm=true)(hi:PI X (.Name xt px) iter wi)(ht:∀C fp s₂ H xe br,PTs ((cxComp X (xt::fs) scope C fp s₂ H).wish xe) ifs (tt C fp s₂ H xe br))(he:∀C fp s₂ H xe br,PE ((cxComp X (xt::fs) scope C fp s₂ H).wish xe) elt (te C fp s₂ H xe br))(hs:autoParam (∀x,foldedSetIterable iter X.env x=pure x) Ew){EA:A9}{cpos:Pos}{s:Shared}{σ:St}{H:Hp}{Q:VK}{use:Option (Value->Sem Unit)}{Qv:A8}(I:Inv X EA σ H s)(h:tCompX X XE (xt::fs) scope wi tt te js σ H Q)(hfin:∀(s':Shared)(C D:Addr)(Ha:Hp)(fl:Flow),(∀h'',Heap.SameBut C s'.heap h''->Inv X EA σ Ha {s' with heap:=h''})->(∃m,s'.heap.Ns C m)->FpOk X EA Ha C->Q (.ref D) Ha->compPost (model X.prog X.w) X.A X.xe use Qv (.ref D) C (.ok fl) s'):wpAny (model X.prog X.w) X.A (comprehension (.ListComp elt [⟨.Name xt px,iter,ifs,0⟩] scope pos) scope X.env cpos (newList []) false (eval iter X.env) use) Qv X.xe s:=zH4 (SS:=fun σ'=>∃v0,σ'=compSt σ js v0) (g:=gName 0) hB (S.cells h0) S.kind S.nocell S.names (S.sub h0) (fun _ _ _ _ _=>fU S.nd rfl (.inl (lookup_relabel_local S.tgt)) (.inr (lookup_relabel_local S.tgt))) hc hi ht he hs I h (fun J H1 hW C fp s₂ H₂ xe br=>let ⟨W,w0,turn⟩:=hW C fp s₂ H₂ xe br; ⟨W,w0,fun i m acc H w=>(turn i m acc H w).imp id fun⟨go,N,hN,step⟩=>⟨go,N,hN,fun x H' y σ' hσ=>by obtain⟨v0,rfl⟩:=hσ;exact⟨⟨_,rfl⟩,step x H' y⟩⟩⟩) ⟨none,rfl⟩ (fun I2 f2 fo a b c d e=>Inv.block S h0 hN0 I2 f2 fo a b c d e) hfin
theorem yP6{X:Cx}{iter:Expr}{fs:C4}{XE:Str->Hp->Prop}{tt:(C:Addr)->(fp:C9)->(s₂:Shared)->(H:Hp)->(xe:A8)->BrI X XE (xt::fs) scope C fp s₂ H xe->TT}{te:(C:Addr)->(fp:C9)->(s₂:Shared)->(H:Hp)->(xe:A8)->BrI X XE (xt::fs) scope C fp s₂ H xe->TE}(hB:BrO X XE)(S:CompScope sc0 scope N0 xt fs js)(h0:X.env.scope=sc0)(hN0:X.N=N0)(hc:X.calm=true)(hi:PI X (.Name xt px) iter wi)(ht:∀C fp s₂ H xe br,PTs ((cxComp X (xt::fs) scope C fp s₂ H).wish xe) ifs (tt C fp s₂ H xe br))(he:∀C fp s₂ H xe br,PE ((cxComp X (xt::fs) scope C fp s₂ H).wish xe) elt (te C fp s₂ H xe br))(hs:autoParam (∀x,foldedSetIterable iter X.env x=pure x) Ew):PE X (.ListComp elt [⟨.Name xt px,iter,ifs,0⟩] scope pos) (tCompX X XE (xt::fs) scope wi tt te js):=by intro EA s σ H Q I h;rw[eval_ListComp];refine zD3 hB S h0 hN0 hc hi ht he hs (use:=none) (Qv:=EP X EA σ Q) I h fun s' C D Ha fl hI hns hC q=>?_;obtain⟨m,hn⟩:=hns;exact⟨m,hn,fun h' hsb=>⟨.ref D,Ha,hI h' hsb,rfl,q⟩⟩
theorem wX3{X:Cx}{iter:Expr}{spos:Pos}{y:Str}{fs:C4}{i:Nat}{XE:Str->Hp->Prop}{tt:(C:Addr)->(fp:C9)->(s₂:Shared)->(H:Hp)->(xe:A8)->BrI X XE (xt::fs) scope C fp s₂ H xe->TT}{te:(C:Addr)->(fp:C9)->(s₂:Shared)->(H:Hp)->(xe:A8)->BrI X XE (xt::fs) scope C fp s₂ H xe->TE}(hb:∀c H e s,ExcAt X c H e s->XE c H->X.xe e s)(hst:X.stack=X.env::X.outer)(hfr:X.env.frame=some X.env.locals)(S:CompScope sc0 scope N0 xt fs js)(h0:X.env.scope=sc0)(hN0:X.N=N0)(hc:X.calm=true)(hi:PI X (.Name xt px) iter wi)(ht:∀C fp s₂ H xe br,PTs ((cxComp X (xt::fs) scope C fp s₂ H).wish xe) ifs (tt C fp s₂ H xe br))(he:∀C fp s₂ H xe br,PE ((cxComp X (xt::fs) scope C fp s₂ H).wish xe) elt (te C fp s₂ H xe br))(nd:X.N.Nodup)(hy:X.N[i]?=some y)(hl:Loc X.env.scope y)(hsw:swapsWith (.ListComp elt [⟨.Name xt px,iter,ifs,0⟩] scope pos) (some (.Name y py)) spos.line X.env=pure true)(hs:autoParam (∀x,foldedSetIterable iter X.env x=pure x) Ew)(hf:autoParam (X.fn y=true\/X.env.scope.names.lookup y=some .local) Ez):PS X (.Assign [.Name y py] (.ListComp elt [⟨.Name xt px,iter,ifs,0⟩] scope pos) spos) (tAsg (tCompX X XE (xt::fs) scope wi tt te js) (gName i)):=by
 intro EA s σ H E I h;rw[exec_Assign_Name_used _ _ _ _ hsw];refine Ai (wpAny_standAt (Ai ?_));show wpAny _ X.A (do let _<-comprehension (.ListComp elt [⟨.Name xt px,iter,ifs,0⟩] scope pos) scope X.env _ (newList []) false (eval iter X.env) (some (assign (.Name y py) X.env))) _ _ s;refine Ai (thn (zD3 (.inr ⟨hb,hst,hfr⟩) S h0 hN0 hc hi ht he hs (use:=some (assign (.Name y py) X.env)) (Qv:=fun _ s'=>SP X EA E .next s') I h fun s' C D Ha fl hI hns hC q=>?_) fun _ s' hq=>AK (AK hq));show wpAny (model X.prog X.w) X.A (assign (.Name y py) X.env (.ref D)) (fun _ s''=>∃m,s''.heap.Ns C m/\∀h',Heap.SameBut C s''.heap h'->SP X EA E .next {s'' with heap:=h'}) X.xe s';obtain⟨m,oC,es,ep,hgC,hdC,hrC⟩:=hns;have I1:Inv X EA σ Ha s':=hI s'.heap ⟨rfl,fun b _=>rfl⟩;have I2:Inv X (EA++[(C,oC)]) σ Ha s':=I1.kF fun p hp=>by
  rcases AE.mp hp with z|z;exact I1.pin p (Ah _ z);have:p=(C,oC):=by simpa using z
  subst this;exact⟨hgC,hC.1,hC.2.1,hC.2.2.1,fun v z=>by rw[hdC]at z;cases z⟩
 refine wpAny_assign_Name (zV5 I2 nd hy hl (show RelV (.ref D) (.ref D)from rfl) (fun s'' I3=>?_) hf);have hgC':=(I3.pin (C,oC) (Ah _ (Ah _ Af))).1;refine⟨m,⟨oC,es,ep,hgC',hdC,hrC⟩,fun h' hsb=>?_⟩;have I4:Inv X EA (σ.set i (some (.ref D))) Ha s'':=I3.kF fun p hp=>I3.pin p (Ah _ (AG _ hp));exact⟨_,Ha,Inv.turned (it:=C) (t':=s''.toks) I4 (fun b o hb e=>(hsb.2 b hb).trans e) hC.1 hC.2.1 hC.2.2.2.1 hC.2.2.2.2.1 hC.2.2.2.2.2,q⟩
def tComp2X(X:Cx)(XE:Str->Hp->Prop)(N:C4)(scope:Scope)(wi:TI)(tt:(C:Addr)->(fp:C9)->(s₂:Shared)->(H:Hp)->(xe:A8)->BrI X XE N scope C fp s₂ H xe->TT)(te:(C:Addr)->(fp:C9)->(s₂:Shared)->(H:Hp)->(xe:A8)->BrI X XE N scope C fp s₂ H xe->TE)(js:C5):TE:=fun σ H Q=>wi σ H fun J H1=>∀C fp s₂ H₂ xe br,∃W:Nat->Nat->List V->Hp->Prop,(∃m,W 0 m [] H1)/\∀i m acc H,W i m acc H ->(J.stop i H/\∀p,H p=none->Q (.ref p) (upd H p (.lst acc))) \/ (J.go i H/\∃Nx:List V->Hp->Prop,(∀acc' H',Nx acc' H'->∃m',m'<m/\W (i+1) m' acc' H') /\∀x H',J.yld i H x H'->∃ta x1 x2,x=.ref ta/\SqT X.K H' ta [x1,x2]/\tt C fp s₂ H₂ xe br (compSt2 σ js (some x1) (some x2)) H' fun b H2=>if b=true then te C fp s₂ H₂ xe br (compSt2 σ js (some x1) (some x2)) H2 fun v H3=>acc.length<sizeLine/\Nx (acc++[v]) H3 else Nx acc H2)
theorem yD6{X:Cx}{iter:Expr}{pw pos:Pos}{k1:Nat}{yt:Str}{fs:C4}{XE:Str->Hp->Prop}{tt:(C:Addr)->(fp:C9)->(s₂:Shared)->(H:Hp)->(xe:A8)->BrI X XE (xt::yt::fs) scope C fp s₂ H xe->TT}{te:(C:Addr)->(fp:C9)->(s₂:Shared)->(H:Hp)->(xe:A8)->BrI X XE (xt::yt::fs) scope C fp s₂ H xe->TE}(hb:∀c H e s,ExcAt X c H e s->XE c H->X.xe e s)(hst:X.stack=X.env::X.outer)(hfr:X.env.frame=some X.env.locals)(S:CScope2 sc0 scope N0 xt yt fs js)(h0:X.env.scope=sc0)(hN0:X.N=N0)(hc:X.calm=true)(hi:PI X (.Tuple [.Name xt px,.Name yt pw] k1 tp) iter wi)(ht:∀C fp s₂ H xe br,PTs ((cxComp X (xt::yt::fs) scope C fp s₂ H).wish xe) ifs (tt C fp s₂ H xe br))(he:∀C fp s₂ H xe br,PE ((cxComp X (xt::yt::fs) scope C fp s₂ H).wish xe) elt (te C fp s₂ H xe br))(hs:autoParam (∀x,foldedSetIterable iter X.env x=pure x) Ew){EA:A9}{cpos:Pos}{s:Shared}{σ:St}{H:Hp}{Q:VK}{use:Option (Value->Sem Unit)}{Qv:A8}(I:Inv X EA σ H s)(h:tComp2X X XE (xt::yt::fs) scope wi tt te js σ H Q)(hfin:∀(s':Shared)(C D:Addr)(Ha:Hp)(fl:Flow),(∀h'',Heap.SameBut C s'.heap h''->Inv X EA σ Ha {s' with heap:=h''})->(∃m,s'.heap.Ns C m)->FpOk X EA Ha C->Q (.ref D) Ha->compPost (model X.prog X.w) X.A X.xe use Qv (.ref D) C (.ok fl) s'):wpAny (model X.prog X.w) X.A (comprehension (.ListComp elt [⟨.Tuple [.Name xt px,.Name yt pw] k1 tp,iter,ifs,0⟩] scope pos) scope X.env cpos (newList []) false (eval iter X.env) use) Qv X.xe s:=zH4 (SS:=fun σ'=>∃v0 w0,σ'=compSt2 σ js v0 w0) (g:=gTup X.K 2 (gCons (gName 0) (gCons (gName 1) gNil))) (.inr ⟨hb,hst,hfr⟩) (S.cells h0) S.kind S.nocell S.names (S.sub h0) (fun _ _ _ _ _=>xF5 hc (zL9 (fU S.nd rfl (.inl (lookup_relabel_local S.tgt)) (.inr (lookup_relabel_local S.tgt))) (zL9 (fU S.nd rfl (.inl (lookup_relabel_local S.tgt2)) (.inr (lookup_relabel_local S.tgt2))) yC9))) hc hi ht he hs I h (fun J H1 hW C fp s₂ H₂ xe br=>let ⟨W,w0,turn⟩:=hW C fp s₂ H₂ xe br; ⟨W,w0,fun i m acc H w=>(turn i m acc H w).imp id fun⟨go,N,hN,step⟩=>⟨go,N,hN,fun x H' y σ' hσ=>by obtain⟨v0,w0,rfl⟩:=hσ;obtain⟨ta,x1,x2,ex,hx,q6⟩:=step x H' y;exact⟨ta,[x1,x2],ex,hx,rfl,x1,[x2],rfl,x2,[],rfl,rfl,⟨_,_,rfl⟩,q6⟩⟩⟩) ⟨none,none,rfl⟩ (fun I2 f2 fo a b c d e=>Inv.block2 S h0 hN0 I2 f2 fo a b c d e) hfin
theorem xF8{X:Cx}{iter:Expr}{k1:Nat}{yt:Str}{fs:C4}{XE:Str->Hp->Prop}{tt:(C:Addr)->(fp:C9)->(s₂:Shared)->(H:Hp)->(xe:A8)->BrI X XE (xt::yt::fs) scope C fp s₂ H xe->TT}{te:(C:Addr)->(fp:C9)->(s₂:Shared)->(H:Hp)->(xe:A8)->BrI X XE (xt::yt::fs) scope C fp s₂ H xe->TE}(hb:∀c H e s,ExcAt X c H e s->XE c H->X.xe e s)(hst:X.stack=X.env::X.outer)(hfr:X.env.frame=some X.env.locals)(S:CScope2 sc0 scope N0 xt yt fs js)(h0:X.env.scope=sc0)(hN0:X.N=N0)(hc:X.calm=true)(hi:PI X (.Tuple [.Name xt px,.Name yt py] k1 tp) iter wi)(ht:∀C fp s₂ H xe br,PTs ((cxComp X (xt::yt::fs) scope C fp s₂ H).wish xe) ifs (tt C fp s₂ H xe br))(he:∀C fp s₂ H xe br,PE ((cxComp X (xt::yt::fs) scope C fp s₂ H).wish xe) elt (te C fp s₂ H xe br))(hs:autoParam (∀x,foldedSetIterable iter X.env x=pure x) Ew):PE X (.ListComp elt [⟨.Tuple [.Name xt px,.Name yt py] k1 tp,iter,ifs,0⟩] scope pos) (tComp2X X XE (xt::yt::fs) scope wi tt te js):=by intro EA s σ H Q I h;rw[eval_ListComp];refine yD6 hb hst hfr S h0 hN0 hc hi ht he hs (use:=none) (Qv:=EP X EA σ Q) I h fun s' C D Ha fl hI hns hC q=>?_;obtain⟨m,hn⟩:=hns;exact⟨m,hn,fun h' hsb=>⟨.ref D,Ha,hI h' hsb,rfl,q⟩⟩
section
omit [CN]
def compX(t:D->Res Bool)(f:D->Res D):List D->Res (D0)
 |[]=>.ok []
 |x::xs=>(t x).bind fun b=>if b then(f x).bind fun y=>(compX t f xs).bind fun ys=>.ok (y::ys)else compX t f xs
def eCompX(mi:Ev->Res (D0))(mt:B7)(me:B5)(js:C5):B5:=fun ρ=>(mi ρ).bind fun ds=>if ds.length<=sizeLine then(compX (fun x=>mt (cEnv ρ js x)) (fun x=>me (cEnv ρ js x)) ds).bind fun out=>.ok (.list out)else .no
def eComp2X(mi:Ev->Res (D0))(mt:B7)(me:B5)(js:C5):B5:=fun ρ=>(mi ρ).bind fun ds=>if ds.length<=sizeLine then(compX (fun d=>pr2 d fun x y=>mt (cEnv2 ρ js x y)) (fun d=>pr2 d fun x y=>me (cEnv2 ρ js x y)) ds).bind fun out=>.ok (.list out)else .no
theorem xC6{α:Type}{d:D}{f:D->D->Res α}{Q:α->Prop}{E:Str->Prop}(h:(pr2 d f).post Q E):∃a b,d=.tuple [a,b]:=by unfold pr2 at h;split at h;exact⟨_,_,rfl⟩;exact h.elim
theorem zQ4{α β γ:Type}(r:Res α)(f:α->Res β)(g:β->Res γ):(r.bind f).bind g=r.bind fun a=>(f a).bind g:=by cases r<;>rfl
end
abbrev cCX(C:Ct)(N:C4)(scope:Scope)(A:Addr)(fp:C9)(s₂:Shared)(H:Hp)(xe:A8)(js:C5):Ct:=⟨(cxComp C.X N scope A fp s₂ H).wish xe,C.XE,[],capt js (C.om++C.ln)⟩
abbrev cC2X(C:Ct)(N:C4)(scope:Scope)(A:Addr)(fp:C9)(s₂:Shared)(H:Hp)(xe:A8)(js:C5):Ct:=⟨(cxComp C.X N scope A fp s₂ H).wish xe,C.XE,[],capt2 js (C.om++C.ln)⟩
def wantX(C:Ct)(Oc:Wd)(Ob:C2)(H:Hp)(Q:VK)(T:D->Res Bool)(F:D->Res D)(ds done:D0)(i:Nat):Prop:=((compX T F (ds.drop i)).bind fun rest=>Res.ok (PyData.list (done++rest))).post (fun d=>∀v H',Same H H'->VR .new Oc Ob H H' v d->Q v H') (fun c=>∀H',Same H H'->C.XE c H')
theorem zI5{Q:VK}{T:D->Res Bool}{F:D->Res D}{done:D0}{i:Nat}(h:wantX C Oc Ob H Q T F ds done i)(hlt:i<ds.length):(T ds[i]).post (fun b=>if b=true then(F ds[i]).post (fun y=>wantX C Oc Ob H Q T F ds (done++[y]) (i+1)) (fun c=>∀H',Same H H'->C.XE c H')else wantX C Oc Ob H Q T F ds done (i+1)) (fun c=>∀H',Same H H'->C.XE c H'):=by
 unfold wantX at h;rw[Dw hlt,compX,zQ4]at h;refine Res.zP (Res.zS h) (fun b _ k=>?_) fun _ z=>z;cases b with
 |false=>exact iteF k
 |true=>
  refine iteT ?_;have k:(((F ds[i]).bind fun y=>(compX T F (ds.drop (i+1))).bind fun ys=>Res.ok (y::ys)).bind fun rest=>Res.ok (PyData.list (done++rest))).post _ _:=k;rw[zQ4]at k;refine Res.zP (Res.zS k) (fun y _ k=>?_) fun _ z=>z;rw[zQ4]at k;unfold wantX;cases e:compX T F (ds.drop (i+1))with
  |no=>rw[e]at k;exact k
  |ex c=>rw[e]at k;exact k
  |ok ys=>rw[e]at k;have k:∀v H',Same H H'->VR .new Oc Ob H H' v (.list (done++y::ys))->Q v H':=k;show ∀v H',Same H H'->VR .new Oc Ob H H' v (.list (done++[y]++ys))->Q v H';rw[AM];exact k
section
variable {C:Ct}{elt:Expr}{ifs:C7}{scope:Scope}{N:C4}{js:C5}{mi:Ev->Res (D0)}{mt:B7}{me:B5}{wi:TI}
theorem zY7(qi:∀(Oc:Wd)(Ob:C2)(σ:St)(H:Hp)(ρ:Ev)(R:It->Hp->Prop),Rel Oc Ob C.om C.ln σ H ρ->(mi ρ).post (fun ds=>∀J H1,Same H H1->WalksS Oc Ob J H1 ds->R J H1) (fun c=>∀H',Same H H'->C.XE c H')->wi σ H R)(ht:∀A fp s₂ H xe,Br (cCX C N scope A fp s₂ H xe js)->RTs (cCX C N scope A fp s₂ H xe js) ifs mt)(he:∀A fp s₂ H xe,Br (cCX C N scope A fp s₂ H xe js)->RE (cCX C N scope A fp s₂ H xe js) .cl elt me){Oc:Wd}{Ob:C2}{σ:St}{H:Hp}{ρ:Ev}{Q:VK}(R:Rel Oc Ob C.om C.ln σ H ρ)(h:(eCompX mi mt me js ρ).post (fun d=>∀v H',Same H H'->VR .new Oc Ob H H' v d->Q v H') (fun c=>∀H',Same H H'->C.XE c H')):tCompX C.X C.XE N scope wi (fun A fp s H xe br=>Classical.choose (ht A fp s H xe br)) (fun A fp s H xe br=>Classical.choose (he A fp s H xe br)) js σ H Q:=by
 refine qi Oc Ob σ H ρ _ R (Res.zP (Res.zS h) (fun ds _ k J H1 s1 wk=>?_) fun _ z=>z);intro A fp s₂ H₂ xe br;have qt:=(AN (ht A fp s₂ H₂ xe br)).2;have qe:=(AN (he A fp s₂ H₂ xe br)).2;have k:(if ds.length<=sizeLine then(compX (fun x=>mt (cEnv ρ js x)) (fun x=>me (cEnv ρ js x)) ds).bind fun out=>Res.ok (PyData.list out)else .no).post (fun d=>∀v H',Same H H'->VR .new Oc Ob H H' v d->Q v H') (fun c=>∀H',Same H H'->C.XE c H'):=k;by_cases hlen:ds.length<=sizeLine
 ·rw[Ae hlen]at k
  refine⟨fun i m acc H2=>m=ds.length-i/\i<=ds.length/\Same H1 H2/\∃done,Reps H2 (Uni Oc Ob) acc done/\acc.length<=i/\wantX C Oc Ob H Q (fun x=>mt (cEnv ρ js x)) (fun x=>me (cEnv ρ js x)) ds done i,⟨_,rfl,Cb _,Same.refl _,[],.nil,Ac _,k⟩,?_⟩;rintro i m acc H2 ⟨rfl,hi,s2,done,ra,la,w⟩;obtain⟨w1,w2⟩:=wk H2 s2 i;have R2:=(R.same s1).same s2;by_cases hlt:i<ds.length
  ·obtain⟨go,yl⟩:=w1 ds[i] (Ag hlt)
   refine .inr ⟨go,fun acc' H3=>Same H1 H3/\∃done,Reps H3 (Uni Oc Ob) acc' done/\acc'.length<=i+1/\wantX C Oc Ob H Q (fun x=>mt (cEnv ρ js x)) (fun x=>me (cEnv ρ js x)) ds done (i+1),fun acc' H' z=>⟨_,by rfl',rfl,hlt,z⟩,fun x H3 hy=>?_⟩;obtain⟨s3,rx⟩:=yl x H3 hy;have R3:=(R2.same s3).comp (js:=js) rx;refine qt _ _ _ H3 _ _ R3 (Res.zP (zI5 w hlt) (fun b _ k H4 s4=>?_) fun c z H' s'=>z H' (((s1.trans s2).trans s3).trans s'));cases b with
   |false=>exact iteF ⟨(s2.trans s3).trans s4,done,ra.same (s3.trans s4),by rfl',k⟩
   |true=>refine iteT (qe _ _ _ H4 _ _ (R3.same s4) (Res.zP k (fun y _ k v H5 s5 rv=>?_) fun c z H' s'=>z H' ((((s1.trans s2).trans s3).trans s4).trans s')));have rv':Rep H5 (Uni Oc Ob) v y:=Rep.less rv fun b z=>.inl z;exact⟨by rfl',((s2.trans s3).trans s4).trans s5,done++[y],(ra.same ((s3.trans s4).trans s5)).append (.one rv'),by rw[Aj,BX];rfl',k⟩
  ·have ei:i=ds.length:=by rfl'
   subst ei;refine .inl ⟨w2 (Ac _),fun p hp=>?_⟩;unfold wantX at w;rw[CU]at w;have w:∀v H',Same H H'->VR .new Oc Ob H H' v (.list (done++[]))->Q v H':=w;rw[BP]at w;exact w _ _ ((s1.trans s2).trans (Same.new hp)) (wB (s1.trans s2) hp ra)
 rw[An hlen]at k;exact k.elim
theorem yD5(qi:∀(Oc:Wd)(Ob:C2)(σ:St)(H:Hp)(ρ:Ev)(R:It->Hp->Prop),Rel Oc Ob C.om C.ln σ H ρ->(mi ρ).post (fun ds=>∀J H1,Same H H1->WalksS Oc Ob J H1 ds->R J H1) (fun c=>∀H',Same H H'->C.XE c H')->wi σ H R)(ht:∀A fp s₂ H xe,Br (cC2X C N scope A fp s₂ H xe js)->RTs (cC2X C N scope A fp s₂ H xe js) ifs mt)(he:∀A fp s₂ H xe,Br (cC2X C N scope A fp s₂ H xe js)->RE (cC2X C N scope A fp s₂ H xe js) .cl elt me){Oc:Wd}{Ob:C2}{σ:St}{H:Hp}{ρ:Ev}{Q:VK}(R:Rel Oc Ob C.om C.ln σ H ρ)(h:(eComp2X mi mt me js ρ).post (fun d=>∀v H',Same H H'->VR .new Oc Ob H H' v d->Q v H') (fun c=>∀H',Same H H'->C.XE c H')):tComp2X C.X C.XE N scope wi (fun A fp s H xe br=>Classical.choose (ht A fp s H xe br)) (fun A fp s H xe br=>Classical.choose (he A fp s H xe br)) js σ H Q:=by
 refine qi Oc Ob σ H ρ _ R (Res.zP (Res.zS h) (fun ds _ k J H1 s1 wk=>?_) fun _ z=>z);intro A fp s₂ H₂ xe br;have qt:=(AN (ht A fp s₂ H₂ xe br)).2;have qe:=(AN (he A fp s₂ H₂ xe br)).2;generalize hT:(fun d=>pr2 d fun x y=>mt (cEnv2 ρ js x y))=T;generalize hF:(fun d=>pr2 d fun x y=>me (cEnv2 ρ js x y))=F;have k:(if ds.length<=sizeLine then(compX T F ds).bind fun out=>Res.ok (PyData.list out)else .no).post (fun d=>∀v H',Same H H'->VR .new Oc Ob H H' v d->Q v H') (fun c=>∀H',Same H H'->C.XE c H'):=by rw[<-hT,<-hF];exact k
 by_cases hlen:ds.length<=sizeLine
 ·rw[Ae hlen]at k
  refine⟨fun i m acc H2=>m=ds.length-i/\i<=ds.length/\Same H1 H2/\∃done,Reps H2 (Uni Oc Ob) acc done/\acc.length<=i/\wantX C Oc Ob H Q T F ds done i,⟨_,rfl,Cb _,Same.refl _,[],.nil,Ac _,k⟩,?_⟩;rintro i m acc H2 ⟨rfl,hi,s2,done,ra,la,w⟩;obtain⟨w1,w2⟩:=wk H2 s2 i;have R2:=(R.same s1).same s2;by_cases hlt:i<ds.length
  ·obtain⟨go,yl⟩:=w1 ds[i] (Ag hlt)
   refine .inr ⟨go,fun acc' H3=>Same H1 H3/\∃done,Reps H3 (Uni Oc Ob) acc' done/\acc'.length<=i+1/\wantX C Oc Ob H Q T F ds done (i+1),fun acc' H' z=>⟨_,by rfl',rfl,hlt,z⟩,fun x H3 hy=>?_⟩;obtain⟨s3,rx⟩:=yl x H3 hy;have st:=zI5 w hlt;have two:∃da db,ds[i]=.tuple [da,db]:=(by have e:T ds[i]=pr2 ds[i] fun x y=>mt (cEnv2 ρ js x y):=(by rw[<-hT]);rw[e]at st;exact xC6 st);obtain⟨da,db,ed⟩:=two;rw[ed]at rx st;obtain⟨ta,x1,x2,rfl,hsq,rx1,rx2⟩:=xD9 (K:=C.X.K) rx;have R3:=(R2.same s3).comp2 (js:=js) rx1 rx2;refine⟨ta,x1,x2,rfl,hsq,?_⟩;have eT:T (.tuple [da,db])=mt (cEnv2 ρ js da db):=(by rw[<-hT];rfl);have eF:F (.tuple [da,db])=me (cEnv2 ρ js da db):=(by rw[<-hF];rfl);rw[eT,eF]at st;refine qt _ _ _ H3 _ _ R3 (Res.zP st (fun b _ k H4 s4=>?_) fun c z H' s'=>z H' (((s1.trans s2).trans s3).trans s'));cases b with
   |false=>exact iteF ⟨(s2.trans s3).trans s4,done,ra.same (s3.trans s4),by rfl',k⟩
   |true=>refine iteT (qe _ _ _ H4 _ _ (R3.same s4) (Res.zP k (fun y _ k v H5 s5 rv=>?_) fun c z H' s'=>z H' ((((s1.trans s2).trans s3).trans s4).trans s')));have rv':Rep H5 (Uni Oc Ob) v y:=Rep.less rv fun b z=>.inl z;exact⟨by rfl',((s2.trans s3).trans s4).trans s5,done++[y],(ra.same ((s3.trans s4).trans s5)).append (.one rv'),by rw[Aj,BX];rfl',k⟩
  ·have ei:i=ds.length:=by rfl'
   subst ei;refine .inl ⟨w2 (Ac _),fun p hp=>?_⟩;unfold wantX at w;rw[CU]at w;have w:∀v H',Same H H'->VR .new Oc Ob H H' v (.list (done++[]))->Q v H':=w;rw[BP]at w;exact w _ _ ((s1.trans s2).trans (Same.new hp)) (wB (s1.trans s2) hp ra)
 rw[An hlen]at k;exact k.elim
end
theorem wY{iter:Expr}{fs:C4}{mt:B7}(hb:Br C)(S:CompScope sc0 scope N0 xt fs js)(h0:C.X.env.scope=sc0)(hN0:C.X.N=N0)(hc:C.X.calm=true)(hi:RIc C (.Name xt px) iter mi)(ht:∀A fp s₂ H xe,Br (cCX C (xt::fs) scope A fp s₂ H xe js)->RTs (cCX C (xt::fs) scope A fp s₂ H xe js) ifs mt)(he:∀A fp s₂ H xe,Br (cCX C (xt::fs) scope A fp s₂ H xe js)->RE (cCX C (xt::fs) scope A fp s₂ H xe js) .cl elt me)(hs:autoParam (∀x,foldedSetIterable iter C.X.env x=pure x) Ew)(hst:autoParam (C.X.stack=C.X.env::C.X.outer) Ey)(hfr:autoParam (C.X.env.frame=some C.X.env.locals) Ey):RE C .new (.ListComp elt [⟨.Name xt px,iter,ifs,0⟩] scope pos) (eCompX mi mt me js):=by obtain⟨wi,pi,qi⟩:=hi;refine⟨_,yP6 (XE:=C.XE) (tt:=fun A fp s H xe br=>Classical.choose (ht A fp s H xe br)) (te:=fun A fp s H xe br=>Classical.choose (he A fp s H xe br)) (.inr ⟨hb,hst,hfr⟩) S h0 hN0 hc pi (fun A fp s H xe br=>(AN (ht A fp s H xe br)).1) (fun A fp s H xe br=>(AN (he A fp s H xe br)).1) hs,fun Oc Ob σ H ρ Q R h=>zY7 qi ht he R h⟩
def Ct.no(C:Ct):Ct:=⟨C.X,fun _ _=>False,C.om,C.ln⟩
def eCompN(mi:Ev->Res (D0))(mt:B7)(me:B5)(js:C5):B5:=fun ρ=>noEx (eCompX mi mt me js ρ)
theorem wW6{iter:Expr}{fs:C4}{mt:B7}(S:CompScope sc0 scope N0 xt fs js)(h0:C.X.env.scope=sc0)(hN0:C.X.N=N0)(hc:C.X.calm=true)(hi:RIc C.no (.Name xt px) iter mi)(ht:∀A fp s₂ H xe,Br (cCX C.no (xt::fs) scope A fp s₂ H xe js)->RTs (cCX C.no (xt::fs) scope A fp s₂ H xe js) ifs mt)(he:∀A fp s₂ H xe,Br (cCX C.no (xt::fs) scope A fp s₂ H xe js)->RE (cCX C.no (xt::fs) scope A fp s₂ H xe js) .cl elt me)(hs:autoParam (∀x,foldedSetIterable iter C.X.env x=pure x) Ew):RE C .new (.ListComp elt [⟨.Name xt px,iter,ifs,0⟩] scope pos) (eCompN mi mt me js):=by
 obtain⟨wi,pi,qi⟩:=hi;refine⟨_,yP6 (X:=C.X) (XE:=C.no.XE) (tt:=fun A fp s H xe br=>Classical.choose (ht A fp s H xe br)) (te:=fun A fp s H xe br=>Classical.choose (he A fp s H xe br)) (.inl fun _ _ z=>z) S h0 hN0 hc pi (fun A fp s H xe br=>(AN (ht A fp s H xe br)).1) (fun A fp s H xe br=>(AN (he A fp s H xe br)).1) hs,fun Oc Ob σ H ρ Q R h=>zY7 (C:=C.no) qi ht he R ?_⟩;unfold eCompN at h;cases e:eCompX mi mt me js ρ with
 |ok d=>rw[e]at h;exact h
 |no=>rw[e]at h;exact h.elim
 |ex c=>rw[e]at h;exact h.elim
theorem zW8(i:Nat){iter:Expr}{spos:Pos}{y:Str}{fs:C4}{mt:B7}(nd:C.X.N.Nodup)(hb:Br C)(S:CompScope sc0 scope N0 xt fs js)(h0:C.X.env.scope=sc0)(hN0:C.X.N=N0)(hc:C.X.calm=true)(hi:RIc C (.Name xt px) iter mi)(ht:∀A fp s₂ H xe,Br (cCX C (xt::fs) scope A fp s₂ H xe js)->RTs (cCX C (xt::fs) scope A fp s₂ H xe js) ifs mt)(he:∀A fp s₂ H xe,Br (cCX C (xt::fs) scope A fp s₂ H xe js)->RE (cCX C (xt::fs) scope A fp s₂ H xe js) .cl elt me)(hy:autoParam (C.X.N[i]?=some y) Ey)(ho:autoParam (C.om.contains i=false) Ey)(hln:autoParam (C.ln.contains i=false) Ey)(hl:autoParam (Loc C.X.env.scope y) zY6._auto_1)(hsw:autoParam (swapsWith (.ListComp elt [⟨.Name xt px,iter,ifs,0⟩] scope pos) (some (.Name y py)) spos.line C.X.env=pure true) Ey)(hs:autoParam (∀x,foldedSetIterable iter C.X.env x=pure x) Ew)(hf:autoParam (C.X.fn y=true\/C.X.env.scope.names.lookup y=some .local) autoK12._auto_1)(hst:autoParam (C.X.stack=C.X.env::C.X.outer) Ey)(hfr:autoParam (C.X.env.frame=some C.X.env.locals) Ey):RS C fr (.Assign [.Name y py] (.ListComp elt [⟨.Name xt px,iter,ifs,0⟩] scope pos) spos) (sS i (eCompX mi mt me js)):=by obtain⟨wi,pi,qi⟩:=hi;refine⟨_,wX3 (XE:=C.XE) (tt:=fun A fp s H xe br=>Classical.choose (ht A fp s H xe br)) (te:=fun A fp s H xe br=>Classical.choose (he A fp s H xe br)) hb hst hfr S h0 hN0 hc pi (fun A fp s H xe br=>(AN (ht A fp s H xe br)).1) (fun A fp s H xe br=>(AN (he A fp s H xe br)).1) nd hy hl hsw hs hf,fun Oc Ob σ H ρ E R h=>?_⟩;refine zY7 qi ht he R (Res.zP (Res.zS h) (fun d _ k v H' s r=>?_) fun c z H' s=>z H' (Same.frm s));exact k _ H' Ob ((R.same s).set (xF ho) (xF hln) (VR.clean r R.oh)) (Same.frm s) fun b z=>.inl z
theorem xJ7{iter:Expr}{k1:Nat}{yt:Str}{fs:C4}{mt:B7}(hb:Br C)(S:CScope2 sc0 scope N0 xt yt fs js)(h0:C.X.env.scope=sc0)(hN0:C.X.N=N0)(hc:C.X.calm=true)(hi:RIc C (.Tuple [.Name xt px,.Name yt py] k1 tp) iter mi)(ht:∀A fp s₂ H xe,Br (cC2X C (xt::yt::fs) scope A fp s₂ H xe js)->RTs (cC2X C (xt::yt::fs) scope A fp s₂ H xe js) ifs mt)(he:∀A fp s₂ H xe,Br (cC2X C (xt::yt::fs) scope A fp s₂ H xe js)->RE (cC2X C (xt::yt::fs) scope A fp s₂ H xe js) .cl elt me)(hs:autoParam (∀x,foldedSetIterable iter C.X.env x=pure x) Ew)(hst:autoParam (C.X.stack=C.X.env::C.X.outer) Ey)(hfr:autoParam (C.X.env.frame=some C.X.env.locals) Ey):RE C .new (.ListComp elt [⟨.Tuple [.Name xt px,.Name yt py] k1 tp,iter,ifs,0⟩] scope pos) (eComp2X mi mt me js):=by obtain⟨wi,pi,qi⟩:=hi;refine⟨_,xF8 (XE:=C.XE) (tt:=fun A fp s H xe br=>Classical.choose (ht A fp s H xe br)) (te:=fun A fp s H xe br=>Classical.choose (he A fp s H xe br)) hb hst hfr S h0 hN0 hc pi (fun A fp s H xe br=>(AN (ht A fp s H xe br)).1) (fun A fp s H xe br=>(AN (he A fp s H xe br)).1) hs,fun Oc Ob σ H ρ Q R h=>yD5 qi ht he R h⟩
section
variable {X:Cx}
theorem yX9:∀{ts:C4}{us:C3},Vals (ts.map V.str) us->∃l:List (Str×Tok),us=strValues l/\l.map (·.1)=ts
 |[],us,h=>by cases h;exact⟨[],rfl,rfl⟩
 |z::ts,us,h=>by
  cases h with
  |cons r rs=>obtain⟨t,rfl⟩:=r;obtain⟨l,rfl,e⟩:=yX9 rs;exact⟨(z,t)::l,rfl,by rw[AB,e]⟩
theorem yW2:∀l:List (Str×Tok),Vals ((l.map (·.1)).map V.str) (strValues l)
 |[]=>.nil
 |(z,t)::l=>.cons ⟨t,rfl⟩ (yW2 l)
def rDig:V->List V->Hp->VK->Prop:=fun x vs H Q=>∃z,x=.str z/\vs=[]/\Q (.bl (Txt.isdigit z)) H
theorem xT6:MtR X "str.isdigit" rDig:=by rintro EA s σ H x vs v us Q I rx rv ⟨z,rfl,rfl,q⟩;obtain⟨t,rfl⟩:=rx;cases rv;exact SC.isdigit ⟨.bl _,H,I,rfl,q⟩
def rStw:V->List V->Hp->VK->Prop:=fun x vs H Q=>∃z y,x=.str z/\vs=[.str y]/\Q (.bl (Txt.startswith z y)) H
theorem yS9:MtR X "str.startswith" rStw:=by rintro EA s σ H x vs v us Q I rx rv ⟨z,y,rfl,rfl,q⟩;obtain⟨t,rfl⟩:=rx;obtain⟨u,rfl,t2,rfl⟩:=vals1 rv;exact SC.startswith ⟨.bl _,H,I,rfl,q⟩
def rJoin(K:KFr):V->List V->Hp->VK->Prop:=fun x vs H Q=>∃z p ts,x=.str z/\vs=[.ref p]/\SqL K H p (ts.map V.str)/\JoinOk z ts=true/\Q (.str (Txt.join z ts)) H
theorem uU:MtR X "str.join" (rJoin X.K):=by rintro EA s σ H x vs v us Q I rx rv ⟨z,p,ts,rfl,rfl,hq,ok,q⟩;obtain⟨t,rfl⟩:=rx;obtain⟨u,rfl,ru⟩:=vals1 rv;cases ru;obtain⟨its,r,pl,_⟩:=I.list hq;obtain⟨l,rfl,el⟩:=yX9 r;exact SC.join pl.isList el ok fun t' k=>⟨.str _,H,I.tok _,⟨_,rfl⟩,q⟩
def rSpl:V->List V->Hp->VK->Prop:=fun x vs H Q=>∃z y,x=.str z/\vs=[.str y]/\1<=y.length/\z.length+2<=sizeLine/\∀p,H p=none->Q (.ref p) (upd H p (.lst ((Txt.split z y).map V.str)))
theorem qH:MtR X "str.split" rSpl:=by
 rintro EA s σ H x vs v us Q I rx rv ⟨z,y,rfl,rfl,hy,hz,q⟩;obtain⟨t,rfl⟩:=rx;obtain⟨u,rfl,t2,rfl⟩:=vals1 rv;have y0:(y.length==0)=false:=by rw[beq_eq_false_iff_ne];rfl'
 have few:=split_le z y;have fin:∀(l:List (Str×Tok))(k:Nat),l.map (·.1)=Txt.split z y->EP X EA σ Q (.ref s.heap.objs.size) {s with heap:=s.heap.push {cls:=.type "list",data:=.seq (strValues l).toArray},toks:=k}:=fun l k e=>by have V0:=yW2 l;rw[e]at V0;exact⟨.ref _,_,I.lnew (t':=k) V0 (by rw[Aa];rfl'),rfl,q _ I.fresh⟩
 have one:∀k,Txt.split z y=[z]->EP X EA σ Q (.ref s.heap.objs.size) {s with heap:=s.heap.push {cls:=.type "list",data:=.seq [Value.str z t].toArray},toks:=k}:=fun k e=>fin [(z,t)] k (by rw[e];rfl);by_cases c1:(decide (z.length<y.length) ||decide (Builtin.Str.strKind z<Builtin.Str.strKind y))=true;have e:Txt.split z y=[z]:=by unfold Txt.split;rw[Ae c1]
 exact call_meets F.slot_str_split (typeIs_str s z t) F.entry_str_split (Ek _ _) (meets_str_split_cannot_occur z y t t2 c1) (one s.toks e);have c1':=BV _▸c1;by_cases c2:(Builtin.Str.occurrences z y 0 z.length (z.length+1)).isEmpty=true;have e:Txt.split z y=[z]:=by unfold Txt.split;rw[An c1,Ae c2]
 exact call_meets F.slot_str_split (typeIs_str s z t) F.entry_str_split (Ek _ _) (meets_str_split_not_found z y t t2 (by simpa using c1) y0 c2) (one s.toks e);have e:Txt.split z y=Builtin.Str.partsBetween z (Builtin.Str.occurrences z y 0 z.length (z.length+1)) y.length:=by unfold Txt.split;rw[An c1,An c2]
 rw[e]at few;refine call_meets F.slot_str_split (typeIs_str s z t) F.entry_str_split (Ek _ _) (meets_str_split_sep z y t t2 (by simpa using c1) y0 (by simpa using c2) (by rfl') (by rfl')) ?_;have key:=fin (numbered s.toks (Txt.split z y)) (s.toks+(Builtin.Str.partsBetween z (Builtin.Str.occurrences z y 0 z.length (z.length+1)) y.length).length) (numbered_texts _ _);rw[e,<-strsFrom_eq]at key;exact key
end
def strD:D->Option Str
 |.str z=>some z
 |_=>none
theorem vU{x:D}{z:Str}(h:strD x=some z):x=.str z:=by
 cases x with
 |str y=>cases h;rfl
 |_=>cases h
theorem yV(z:Str):strD (.str z)=some z:=rfl
def strsOf:List D->Option (C4)
 |[]=>some []
 |x::xs=>(strD x).bind fun z=>(strsOf xs).bind fun zs=>some (z::zs)
theorem zG7:∀zs:C4,strsOf (zs.map PyData.str)=some zs
 |[]=>rfl
 |z::zs=>by show(strD (.str z)).bind _=_;rw[yV,AQ,zG7 zs];rfl
theorem zL3:∀{ds:D0}{zs:C4},strsOf ds=some zs->ds=zs.map PyData.str
 |[],zs,h=>by cases h;rfl
 |x::xs,zs,h=>by obtain⟨z,e1,h⟩:=AI.mp h;obtain⟨ys,e2,h⟩:=AI.mp h;cases h;rw[vU e1,zL3 e2];rfl
theorem yV2{H:Hp}{O:C2}:∀{zs:C4}{vs:C8},Reps H O vs (zs.map PyData.str)->vs=zs.map V.str
 |[],vs,h=>by cases h;rfl
 |z::zs,vs,h=>by
  cases h with
  |cons r rs=>cases r;rw[yV2 rs];rfl
theorem yT8{H:Hp}{O:C2}:∀zs:C4,Reps H O (zs.map V.str) (zs.map PyData.str)
 |[]=>.nil
 |z::zs=>.cons (.str z) (yT8 zs)
def eM0S(f:Str->Option D)(mo:B5):B5:=fun ρ=>(mo ρ).bind fun x=>(Res.lft (strD x)).bind fun z=>Res.lft (f z)
theorem zY1(f:Str->Option D)(mo:B5)(ρ:Ev):eM0S f mo ρ=(mo ρ).bind fun x=>(Res.lft (strD x)).bind fun z=>Res.lft (f z):=rfl
theorem xS8{o:Expr}{mo:B5}(ho:RE C md o mo)(hbase:autoParam (attributeBase o "isdigit" C.X.env (eval o C.X.env)=eval o C.X.env) Ey)(hline:autoParam ((apos.endLine==cpos.line)=true) Ey):RE C .cl (.Call (.Attribute o "isdigit" apos) [] [] cpos) (eM0S (fun z=>some (.bool (Txt.isdigit z))) mo):=by obtain⟨to,po,qo⟩:=ho;refine⟨_,wF4 PySem.F.plainAttrs_str PySem.F.slot_str_isdigit PySem.F.type_str_isdigit xT6 po hbase hline,fun Oc Ob σ H ρ Q R h=>?_⟩;refine qo Oc Ob σ H ρ _ R (Res.zP (Res.zS h) (fun dx _ k x H1 s1 vx=>?_) fun _ z=>z);obtain⟨z,ez,k1⟩:=Res.zG (Res.zS k);obtain rfl:=vU ez;obtain⟨d,ed,k2⟩:=Res.zG k1;cases ed;obtain rfl:=(vx.va R.oh).str;exact⟨rfl,z,rfl,rfl,k2 _ H1 s1 (Rep.bl _)⟩
def eM1S(f:Str->D->Option D)(mo ma:B5):B5:=fun ρ=>(mo ρ).bind fun x=>(Res.lft (strD x)).bind fun z=>(ma ρ).bind fun y=>Res.lft (f z y)
theorem yQ(f:Str->D->Option D)(mo ma:B5)(ρ:Ev):eM1S f mo ma ρ=(mo ρ).bind fun x=>(Res.lft (strD x)).bind fun z=>(ma ρ).bind fun y=>Res.lft (f z y):=rfl
def Pr1S(r:V->List V->Hp->VK->Prop)(md:Md)(f:Str->D->Option D):Prop:=∀(Oc:Wd)(Ob:C2)(H:Hp)(z:Str)(y:V)(dy d:D)(Q:VK),(∀a,Oc a\/Ob a->H a≠none)->VA Oc Ob H y dy->f z dy=some d->(∀v H',Same H H'->VR md Oc Ob H H' v d->Q v H')->r (.str z) [y] H Q
theorem yI{o a:Expr}{id:String}{apos:Pos}{mdr:Md}{mo:B5}{r:V->List V->Hp->VK->Prop}{f:Str->D->Option D}(slot:Slot "str" name id)(hty:typeOf (.builtin id)=pure (.type "method_descriptor"))(hm:MtR C.X id r)(hp:Pr1S r mdr f)(ho:RE C md o mo)(ha:RE C mda a ma)(hbase:autoParam (attributeBase o name C.X.env (eval o C.X.env)=eval o C.X.env) Ey)(hfew:((backTo cpos (starEach [a] C.X.env)).all (fun x=>!x.1)&&(backToKw cpos (keywordEach [] C.X.env)).all (fun x=>x.1.isSome) &&decide ([a].length+([]:List Keyword).length+(if ([]:List Keyword).isEmpty then 0 else 1)<30))=true:=by rfl)(hline:autoParam ((apos.endLine==cpos.line)=true) Ey)(hs:autoParam (starEach [a] C.X.env=(false,eval a C.X.env)::starEach [] C.X.env) Ey)(hplain:autoParam ((backTo cpos (starEach [] C.X.env)).any (·.1)=false) Ey):RE C mdr (.Call (.Attribute o name apos) [a] [] cpos) (eM1S f mo ma):=by obtain⟨to,po,qo⟩:=ho;obtain⟨ta,pa,qa⟩:=ha;refine⟨_,bK PySem.F.plainAttrs_str slot hty hm po (yF pa xP hs) hbase hfew hline hs hplain,fun Oc Ob σ H ρ Q R h=>?_⟩;refine qo Oc Ob σ H ρ _ R (Res.zP (Res.zS h) (fun dx _ k x H1 s1 vx=>?_) fun _ z=>z);obtain⟨z,ez,k⟩:=Res.zG (Res.zS k);obtain rfl:=vU ez;obtain rfl:=(vx.va R.oh).str;refine⟨rfl,qa Oc Ob σ H1 ρ _ (R.same s1) (Res.zP (Res.zS k) (fun dy _ k y H2 s2 vy=>?_) fun c z H' s'=>z H' (s1.trans s'))⟩;obtain⟨d,ed,k⟩:=Res.zG k;exact hp Oc Ob H2 z y dy d Q ((R.same s1).same s2).oh (vy.va (R.same s1).oh) ed fun v H' s3 rv=>k v H' ((s1.trans s2).trans s3) (rv.from (s1.trans s2))
def stwD(z:Str)(y:D):Option D:=(strD y).map fun u=>.bool (Txt.startswith z u)
theorem yR3:Pr1S rStw .cl stwD:=by intro Oc Ob H z y dy d Q oh vy e k;obtain⟨u,e1,rfl⟩:=Az.mp e;obtain rfl:=vU e1;obtain rfl:=vy.str;exact⟨z,u,rfl,rfl,k _ H (Same.refl H) (Rep.bl _)⟩
def splD(z:Str)(y:D):Option D:=(strD y).bind fun u=>if 1<=u.length/\z.length+2<=sizeLine then some (.list ((Txt.split z u).map PyData.str))else none
theorem qQ:Pr1S rSpl .new splD:=by intro Oc Ob H z y dy d Q oh vy e k;obtain⟨u,e1,e0⟩:=AI.mp e;obtain rfl:=vU e1;obtain rfl:=vy.str;split at e0;rename_i h;cases e0;exact⟨z,u,rfl,rfl,h.1,h.2,fun p hp=>k _ _ (Same.new hp) (wB (Same.refl H) hp (yT8 _))⟩;cases e0
def joinD(z:Str)(y:D):Option D:=(lstD y).bind fun ds=>(strsOf ds).bind fun ts=>if JoinOk z ts=true then some (.str (Str.join z ts))else none
theorem uT{K:KFr}:Pr1S (rJoin K) .cl joinD:=by intro Oc Ob H z y dy d Q oh vy e k;obtain⟨ds,e1,e3⟩:=AI.mp e;obtain⟨ts,e2,e0⟩:=AI.mp e3;obtain rfl:=uJ e1;obtain rfl:=zL3 e2;obtain⟨a,ys,rfl,rd,rs⟩:=vy.list;obtain rfl:=yV2 rs;split at e0;rename_i h;cases e0;refine⟨z,a,ts,rfl,rfl,.inl rd,h,?_⟩;rw[show Txt.join z ts=Str.join z ts from StrLaws.glued_eq_join z ts];exact k _ H (Same.refl H) (Rep.str _);cases e0
def catS:D->D->Option D:=fun x y=>(strD x).bind fun a=>(strD y).bind fun b=>if a.length+b.length<=sizeLine then some (.str (a++b))else none
theorem yB:Pr2 (fun x y H Q=>∃i j,x=.str i/\y=.str j/\i.length+j.length<=sizeLine/\Q (.str (i++j)) H) .cl catS:=by intro Oc Ob H x y dx dy d Q oh vx vy e k;obtain⟨a,e1,e3⟩:=AI.mp e;obtain⟨b,e2,e0⟩:=AI.mp e3;obtain rfl:=vU e1;obtain rfl:=vU e2;split at e0;rename_i h;cases e0;exact⟨a,b,vx.str,vy.str,h,k _ H (Same.refl H) (Rep.str _)⟩;cases e0
def strOfD:List D->Option D
 |[.int i]=>if i.natAbs.log2<1920 then some (.str (toString i))else none
 |_=>none
theorem kY:PrC (fun xs H Q=>∃i,xs=[.int i]/\i.natAbs.log2<1920/\Q (.str (toString i)) H) .cl strOfD:=by intro Oc Ob H vs ds d Q oh r e k;unfold strOfD at e;split at e;split at e;rename_i h;cases e;obtain⟨v,rfl,hv⟩:=zO4 r;exact⟨_,by rw[hv.int],h,k _ H (Same.refl H) (Rep.str _)⟩;cases e;cases e
theorem zV9{X:Cx}:CallR X (.type "int") (fun xs H Q=>∃z n,xs=[.str z]/\PySem.intText? z=some n/\z.length<=640/\Q (.int n) H):=by rintro EA s σ H xs us Q I r ⟨z,n,rfl,e,hl,q⟩;obtain⟨u,rfl,t,rfl⟩:=vals1 r;exact PySem.W.KIN.call_text e hl ⟨.int n,H,I.tok _,⟨_,rfl⟩,q⟩
def intTD:List D->Option D
 |[.str z]=>if z.length<=640 then(PySem.intText? z).map PyData.int else none
 |_=>none
theorem xZ9:PrC (fun xs H Q=>∃z n,xs=[.str z]/\PySem.intText? z=some n/\z.length<=640/\Q (.int n) H) .cl intTD:=by intro Oc Ob H vs ds d Q oh r e k;unfold intTD at e;split at e;split at e;rename_i h;obtain⟨n,en,rfl⟩:=Az.mp e;obtain⟨v,rfl,hv⟩:=zO4 r;exact⟨_,n,by rw[hv.str],en,h,k _ H (Same.refl H) (Rep.int _)⟩;cases e;cases e
def lenTD:List D->Option D
 |[.str z]=>if z.length<=sizeLine then some (.int z.length)else none
 |_=>none
theorem yY1:PrC (fun xs H Q=>∃z,xs=[.str z]/\z.length<=sizeLine/\Q (.int z.length) H) .cl lenTD:=by intro Oc Ob H vs ds d Q oh r e k;unfold lenTD at e;split at e;split at e;rename_i h;cases e;obtain⟨v,rfl,hv⟩:=zO4 r;exact⟨_,by rw[hv.str],h,k _ H (Same.refl H) (Rep.int _)⟩;cases e;cases e
section
variable {X:Cx}
def rSlS:V->Option Int->Option Int->Hp->VK->Prop:=fun x lo hi H Q=>∃z,x=.str z/\z.length<=sizeLine/\Q (.str (Txt.slice z lo hi)) H
theorem yC2{v:Value}{o:Option Int}(h:IsPart v o):∃l:Option (Int×Tok),v=partValue l/\l.map (·.1)=o:=by cases h;exact⟨none,rfl,rfl⟩;rename_i i t;exact⟨some (i,t),rfl,rfl⟩
theorem wG5:SlR X rSlS:=by rintro EA s σ H x v vl vu lo hi sl Q I rx hs pl pu ⟨z,rfl,hz,q⟩;obtain⟨t,rfl⟩:=rx;obtain⟨l,rfl,rfl⟩:=yC2 pl;obtain⟨u,rfl,rfl⟩:=yC2 pu;refine⟨"str",_,F.slot_str_getitem.lookup,typeIs_str _ _ _,wpAny_getItem_str_slice (l:=l) (u:=u) (st:=none) hs rfl (post_val_or_str ⟨As (Eh z _ _) hz,fun t' k=>?_⟩)⟩;exact⟨.str _,H,I.tok _,⟨_,rfl⟩,q⟩
end
def slS(x:D)(lo hi:Option Int):Option D:=(strD x).bind fun z=>if z.length<=sizeLine then some (.str (Txt.slice z lo hi))else none
theorem wB6:PrS rSlS .cl slS:=by intro Oc Ob H x dx lo hi d Q oh va e k;obtain⟨z,e1,e0⟩:=AI.mp e;obtain rfl:=vU e1;split at e0;rename_i h;cases e0;exact⟨z,va.str,h,k _ H (Same.refl H) (Rep.str _)⟩;cases e0
theorem fF{lo hi:Option Expr}(he:RE C mda e me)(hl:RO C lo ml)(hu:RO C hi mh):RE C .cl (.Subscript e (.Slice lo hi none p2) pos) (eS slS me ml mh):=zJ6 wG5 wB6 he hl hu
def tFil(a b:Str)(te:TE):TE:=fun σ H Q=>te σ H fun x H1=>∃z,x=.str z/\a.length+z.length+b.length<=sizeLine/\Q (.str (a++z++b)) H1
theorem wH2{X:Cx}{a b:Str}{j1 j2:Nat}{p1 p3:Pos}(he:PE X e te)(ha:a.length<=sizeLine):PE X (.JoinedStr [.Constant (.str a) j1 p1,.FormattedValue e (-1) none p2,.Constant (.str b) j2 p3] pos) (tFil a b te):=by
 intro EA s σ H Q I h;refine wpAny_JoinedStr ?_;show wpAny _ _ (eval (.Constant (.str a) j1 p1) X.env) _ _ _;refine Calls.Constant_str ⟨a,_,rfl,by rw[DX];exact ha,?_⟩;show wpAny _ _ (eval (.FormattedValue e (-1) none p2) X.env) _ _ _;refine wpAny_FormattedValue_plain (thn (he EA _ σ H _ (I.tok _) h) fun v s1⟨x,H1,I1,r1,z,ez,hz,q⟩=>?_);subst ez;obtain⟨t,rfl⟩:=r1;have la:(Str.empty++a++z).length<=sizeLine:=by rw[DX,Ap];rfl'
 have lb:(Str.empty++a++z++b).length<=sizeLine:=by rw[DX,Ap,Ap];rfl'
 have go:∀(s2:Shared),Inv X EA σ H1 s2->Joins (model X.prog X.w) X.A X.xe [eval (.Constant (.str b) j2 p3) X.env] (Str.empty++a++z) (fun out s₁=>out.length<=sizeLine/\EP X EA σ Q (.str out s₁.toks) {s₁ with toks:=s₁.toks+1}) s2:=fun s2 I2=>by show wpAny _ _ (eval (.Constant (.str b) j2 p3) X.env) _ _ _;refine Calls.Constant_str ⟨b,_,rfl,lb,?_⟩;show(Str.empty++a++z++b).length<=sizeLine/\EP X EA σ Q (.str (Str.empty++a++z++b) _) _;refine⟨lb,?_⟩;rw[DX];exact⟨.str _,H1,(I2.tok _).tok _,⟨_,rfl⟩,q⟩
 exact wpAny_formatField_str ⟨z,_,rfl,la,go _ I1⟩ ⟨z,_,rfl,la,go _ (I1.tok _)⟩ (by rfl')
def filD(a b:Str)(x:D):Option D:=(strD x).bind fun z=>if a.length+z.length+b.length<=sizeLine then some (.str (a++z++b))else none
theorem wE1{a b:Str}{j1 j2:Nat}{p1 p3:Pos}(he:RE C md e me)(ha:autoParam (a.length<=sizeLine) Ex):RE C .cl (.JoinedStr [.Constant (.str a) j1 p1,.FormattedValue e (-1) none p2,.Constant (.str b) j2 p3] pos) (e1 (filD a b) me):=by obtain⟨te,pe,qe⟩:=he;refine⟨_,wH2 pe ha,fun Oc Ob σ H ρ Q R h=>?_⟩;refine qe Oc Ob σ H ρ _ R (Res.zP (Res.zS h) (fun dx _ k x H1 s1 vx=>?_) fun _ z=>z);obtain⟨d,ed,k1⟩:=Res.zG k;obtain⟨z,e1,e0⟩:=AI.mp ed;obtain rfl:=vU e1;split at e0;rename_i hl;cases e0;exact⟨z,(vx.va R.oh).str,hl,k1 _ H1 s1 (Rep.str _)⟩;cases e0
section
variable {X:Cx}
def ptV(z y:Str):C8:=[.str (Txt.partition z y).1,.str (Txt.partition z y).2.1,.str (Txt.partition z y).2.2]
def rPart:V->List V->Hp->VK->Prop:=fun x vs H Q=>∃z y,x=.str z/\vs=[.str y]/\1<=y.length/\z.length<=sizeLine/\∀p,H p=none->Q (.ref p) (upd H p (.tup (ptV z y)))
theorem Inv.tnew{ys:C8}{t':Nat}(I:Inv X EA σ H s)(hv:Vals ys its)(hz:ys.length<=sizeLine):Inv X EA σ (upd H s.heap.objs.size (.tup ys)) {s with heap:=s.heap.push {cls:=.type "tuple",data:=.seq its.toArray},toks:=t'}:=I.laid (fun _ _ q=>Am _ q) (Ac _) ⟨hz,its,hv,_,AO _ rfl,rfl,⟨_,rfl⟩,rfl⟩
theorem yI8:MtR X "str.partition" rPart:=by
 rintro EA s σ H x vs v us Q I rx rv ⟨z,y,rfl,rfl,hy,hz,q⟩;obtain⟨t,rfl⟩:=rx;obtain⟨u,rfl,t2,rfl⟩:=vals1 rv;have y0:(y.length==0)=false:=by rw[beq_eq_false_iff_ne];rfl'
 have fin:∀(a b c:Tok)(k:Nat),EP X EA σ Q (.ref s.heap.objs.size) {s with heap:=s.heap.push {cls:=.type "tuple",data:=.seq [Value.str (Txt.partition z y).1 a,.str (Txt.partition z y).2.1 b,.str (Txt.partition z y).2.2 c].toArray},toks:=k}:=fun a b c k=>⟨.ref _,_,Inv.tnew (ys:=ptV z y) I (.cons ⟨a,rfl⟩ (.cons ⟨b,rfl⟩ (.cons ⟨c,rfl⟩ .nil))) (by show 3<=sizeLine;decide),rfl,q _ I.fresh⟩;refine call_meets F.slot_str_partition (typeIs_str s z t) F.entry_str_partition (F.args_str_partition_2 _ _) (meets_str_partition z y t t2 y0 hz) ?_;unfold Txt.partition at fin;generalize Builtin.Str.occurrences z y 0 z.length 1=l at fin ⊢;cases l with
 |cons i r=>exact fin _ _ _ _
 |nil=>exact fin _ _ _ _
end
def partD(z:Str)(y:D):Option D:=(strD y).bind fun u=>if 1<=u.length/\z.length<=sizeLine then some (.tuple [.str (Txt.partition z u).1,.str (Txt.partition z u).2.1,.str (Txt.partition z u).2.2])else none
theorem yH2:Pr1S rPart .cl partD:=by intro Oc Ob H z y dy d Q oh vy e k;obtain⟨u,e1,e0⟩:=AI.mp e;obtain rfl:=vU e1;obtain rfl:=vy.str;split at e0;rename_i h;cases e0;exact⟨z,u,rfl,rfl,h.1,h.2,fun p hp=>k _ _ (Same.new hp) (cZ oh hp (.cons (.str _) (.cons (.str _) (.cons (.str _) .nil))))⟩;cases e0
def catZ(acc:Str)(zs:C4):Str:=zs.foldl (fun a b=>a++b) acc
abbrev TJ:=St->Hp->(List Str->Hp->Prop)->Prop
def PJs(X:Cx)(n:Nat)(es:C7)(t:TJ):Prop:=∀(EA:A9)(s:Shared)(σ:St)(H:Hp)(acc:Str)(K:Str->Hp->Prop),Inv X EA σ H s->acc.length<=n*1000000->t σ H (fun zs H'=>K (catZ acc zs) H') ->Joins (model X.prog X.w) X.A X.xe (evalEach es X.env) acc (fun out s₁=>out.length<=sizeLine/\∃H',Inv X EA σ H' s₁/\K out H') s
theorem line16:16*1000000<=sizeLine:=by decide
section
variable {X:Cx}{n:Nat}{es:C7}{t:TJ}
theorem xH6(hn:n<=16):PJs X n [] (fun _ H Q=>Q [] H):=by intro EA s σ H acc K I hl h;have:=line16;have:=Bl 1000000 hn;exact⟨by rfl',H,I,h⟩
theorem zX6{a:Str}{j:Nat}{p:Pos}(ha:a.length<=1000)(hn:n+1<=16)(h:PJs X (n+1) es t):PJs X n (.Constant (.str a) j p::es) (fun σ H Q=>t σ H fun zs H'=>Q (a::zs) H'):=by intro EA s σ H acc K I hl hk;have:=line16;have:=Bl 1000000 hn;show wpAny _ _ (eval (.Constant (.str a) j p) X.env) _ _ _;refine Calls.Constant_str ⟨a,_,rfl,by rw[Ap];rfl',?_⟩;exact h EA _ σ H (acc++a) K (I.tok _) (by rw[Ap];rfl') hk
theorem xM8{p:Pos}(he:PE X e te)(hn:n+1<=16)(h:PJs X (n+1) es t):PJs X n (.FormattedValue e (-1) none p::es) (fun σ H Q=>te σ H fun x H1=>∃i,x=.int i/\i.natAbs.log2<1920/\(toString i:Str).length<=1000000/\t σ H1 fun zs H'=>Q ((toString i:Str)::zs) H'):=by intro EA s σ H acc K I hl hk;have:=line16;have:=Bl 1000000 hn;show wpAny _ _ (eval (.FormattedValue e (-1) none p) X.env) _ _ _;refine wpAny_FormattedValue_plain (thn (he EA _ σ H _ I hk) fun v s1⟨x,H1,I1,r1,i,ei,hd,hz,q⟩=>?_);subst ei;obtain⟨u,rfl⟩:=r1;refine wpAny_formatField_int hd ⟨_,_,rfl,by rw[Ap];rfl',?_⟩;exact h EA _ σ H1 (acc++(toString i:Str)) K (I1.tok _) (by rw[Ap];rfl') q
theorem yU4{v1 v2:Expr}(h:PJs X 0 (v1::v2::es) t):PE X (.JoinedStr (v1::v2::es) pos) (fun σ H Q=>t σ H fun zs H'=>Q (.str (catZ Str.empty zs)) H'):=by
 intro EA s σ H Q I hk;refine wpAny_JoinedStr ?_;have key:=h EA s σ H Str.empty (fun out H'=>Q (.str out) H') I (Cb _) hk;have mono:∀(parts:List (Sem Value))(acc:Str)(Q1 Q2:Str->Shared->Prop)(s:Shared),(∀o s,Q1 o s->Q2 o s)->Joins (model X.prog X.w) X.A X.xe parts acc Q1 s->Joins (model X.prog X.w) X.A X.xe parts acc Q2 s:=fun parts=>by
  induction parts with
  |nil=>exact fun acc Q1 Q2 s h k=>h _ _ k
  |cons p ps ih=>exact fun acc Q1 Q2 s h k=>wpAny_mono k (fun v s1⟨y,u,e,l,j⟩=>⟨y,u,e,l,ih _ _ _ _ h j⟩) fun _ _ z=>z
 refine mono _ _ _ _ _ (fun o s1⟨l,H',I',k⟩=>⟨l,.str o,H',I'.tok _,⟨_,rfl⟩,k⟩) key
end
def fI:D->Option Str
 |.int i=>if i.natAbs.log2<1920/\(toString i:Str).length<=1000000 then some (toString i)else none
 |_=>none
section
variable {C:Ct}{n:Nat}{es:C7}{ms:Ev->Res (C4)}
end
end L2.L3
namespace L2
open PySem PySem.Spec PyProof.Rows
structure ExLie(h:Heap)(C N:Addr)(bm:C3)(newId:String)(ob:Obj):Prop where
 obj:h.get? C=some ob
 is:∃(nm q:Str)(bs:C3)(hdct:Bool)(sn:C4)(sub:C3)(ab:Bool)(col:Option Bool)(dd:Option Addr)(k0 k1 k2 k3 k5:Option Value),ob=excClassObj nm q C N bs bm hdct sn sub ab col dd k0 k1 k2 k3 k5 newId
def IniBack(e:Value)(Q:A8)(E:A8):Result->Shared->Prop
 |.ok (.ret v),s=>v=.none/\Q e s
 |.ok _,_=>False
 |.error x,s=>E x s
theorem xA7(h:Heap)(cls:Value)(us:C3):∃g e,g=(h.push {cls:=.type "tuple",data:=.seq us.toArray}).push {cls:=cls,data:=.fields #[.ref h.objs.size,.none,.none,.none,.bool false,.none]}/\e=h.objs.size+1/\Heap.MadeExcOf h g e cls us:=⟨_,_,rfl,rfl,⟨fun b o z=>by heap_get,Do (by rfl'),h.objs.size,by heap_get,Do (Ac _),by heap_get⟩⟩
section
variable {prog:Program}{w:World}{A:Around}{E:A8}{s:Shared}{C N fI:Addr}{bm bmB:C3}{ob oI:Obj}{B newId initId:String}{us:C3}{K:KFr}
theorem yJ6(F:ExcBaseFacts B newId initId bmB)(T:OwnTail s.heap bmB bm)(L:ExLie s.heap C N bm newId ob)(X:K.In s.heap)(hi:PySem.W.findIn K (.ref C) "__init__"=some (some (.ref fI)))(hf:s.heap.get? fI=some oI)(hc:oI.cls=.type "function")(hz:us.length<=sizeLine)(k:∀g e,Heap.MadeExcOf s.heap g e (.ref C) us->codeAny (model prog w) (A.under (.builtin "type.__call__" ⟨.ref C::us,[]⟩)) (.call (.ref fI) ⟨.ref e::us,[]⟩) (IniBack (.ref e) Q E) {s with heap:=g}):wpAny (model prog w) A (call (.ref C) us) Q E s:=by
 obtain⟨hC,nm,q,bs,hdct,sn,sub,ab,col,dd,k0,k1,k2,k3,k5,rfl⟩:=L;obtain⟨h,gs,d,t,os⟩:=s;have look:=tc_lookup;have bind:=tc_bind (.ref C);have ty:Shared.TypeIs ⟨h,gs,d,t,os⟩ (.ref C) "type":=⟨_,hC,rfl⟩;refine wpAny_call (codeAny_of_tree ?_);show wpAny (model prog w) _ (callAny (.ref C) ⟨us,[]⟩) _ _ _;wp_walk using wpAny_loadPart_at hC
 obtain⟨g,e,hg,ev,md⟩:=xA7 h (.ref C) us;obtain⟨t0,he,_,_⟩:=md.there;have own:(Value.ref C::bm).contains (.ref C)=true:=by rw[BZ,beq_self_eq_true,Bool.true_or]
 have fn:∀t',Shared.TypeIs ⟨g,gs,d,t',os⟩ (.ref fI) "function":=fun _=>⟨oI,md.keeps _ _ hf,hc⟩;refine⟨rfl,codeAny_call_builtin_at (Code.quiet_builtin _ (by decide+kernel)) entry_typeCall (wpAny_check_type_call_sub hC ?_)⟩;wp_walk using wpAny_loadPart_at hC,wpAny_madeBy_exc hC
 refine codeAny_call_builtin_code (Code.quiet_builtin _ F.quiet) (wpAny_check_new_subT F T hC (codeAny_exc_new_subT F T hC ?_ hz));subst hg ev;have sub:∀{A':Around}{Q':Bool->Shared->Prop}{E':A8},Q' true _->wpAny (model prog w) A' (isSubtype (.ref C) (.ref C)) Q' E' ⟨_,gs,d,t,os⟩:=fun z=>wpAny_isSubtype_exc (md.keeps _ _ hC) (by rw[own];exact z);have ini:=PySem.W.looks_findIn (M:=model prog w) (X.keeps md.keeps) hi;show wpAny _ _ (_>>=_) _ _ _;unfold isInstance;wp_walk using wpAny_loadPart_at he,sub,wpAny_typeOf (fn t),wpAny_holding
 refine sub ?_;have go:=k _ _ md;wp_walk using wpAny_loadPart_at he,ini.at,wpAny_typeOf (fn t),wpAny_holding
 unfold bindSpecial;wp_walk using wpAny_typeOf (fn t)
 refine codeAny_mono go fun r s' z=>?_
 match r,z with
 |.ok (.ret _),⟨rfl,z⟩=>wp_walk;exact z
 |.error _,z=>exact z
theorem xB7{env:Env}{x:Sem Value}{Q:Flow->Shared->Prop}(hb:bm.contains (.type "BaseException")=true)(hh:A.handled=none)(k:wpAny (model prog w) A x (fun v s'=>∃e oe vs ob,v=.ref e/\ExLie s'.heap C N bm newId ob/\s'.heap.get? e=some oe/\oe.cls=.ref C/\oe.data=.fields vs/\vs[1]?=some .none/\E (.ref e) s') E s):wpAny (model prog w) A (raiseStmt env (some x) none) Q E s:=by
 unfold raiseStmt;refine Ai (wpAny_mono k (fun v s' z=>?_) fun _ _ z=>z);obtain⟨e,⟨cl,od,da,sl⟩,vs,ob,rfl,⟨hC,nm,q,bs,hdct,sn,sub,ab,col,dd,k0,k1,k2,k3,k5,rfl⟩,he,z1,z2,z3,z⟩:=z;cases z1;cases z2;have base:(Value.ref C::bm).contains (.type "BaseException")=true:=by rw[BZ,hb,Bool.or_true]
 have isE:∀{Q':Bool->Shared->Prop}{E':A8},Q' true s'->wpAny (model prog w) A (isSubtype (.ref C) (.type "BaseException")) Q' E' s':=fun y=>wpAny_isSubtype_exc hC (by rw[base];exact y);wp_walk using wpAny_loadPart_at he,wpAny_loadPart_at hC,isE,wpAny_field he rfl z3,wpAny_raiseNew_none hh
 exact z
end
end L2
namespace L2.L3
open PySem PySem.Spec PyProof.Rows
variable [CN]
section
omit [CN]
def iniP(e C:Addr):Heap->Prop:=fun h=>∃(t:Addr),h.get? e=some {cls:=.ref C,dict:=none,data:=.fields #[.ref t,.none,.none,.none,.bool false,.none]}
theorem zB8{w:World}{e C:Addr}(p:iniP e C h):ObjOk P w H h e (.ext (iniP e C)):=⟨p,let ⟨_,q⟩:=p; ⟨_,q⟩,fun _ _⟨t,q⟩k=>⟨t,k _ q⟩⟩
def iniE(e C d:Addr):Heap->Prop:=fun h=>∃(t:Addr),h.get? e=some {cls:=.ref C,dict:=some d,data:=.fields #[.ref t,.none,.none,.none,.bool false,.none]}
theorem xB4{w:World}{e C d:Addr}(p:iniE e C d h):ObjOk P w H h e (.ext (iniE e C d)):=⟨p,let ⟨_,q⟩:=p; ⟨_,q⟩,fun _ _⟨t,q⟩k=>⟨t,k _ q⟩⟩
end
def ExIn(K:KFr)(C:Addr)(bmB:C3)(newId:String):Prop:=∃(N:Addr)(bm:C3)(nm q:Str)(bs:C3)(hdct:Bool)(sn:C4)(sub:C3)(ab:Bool)(col:Option Bool)(dd:Option Addr)(k0 k1 k2 k3 k5:Option Value),K.lookup C=some (excClassObj nm q C N bs bm hdct sn sub ab col dd k0 k1 k2 k3 k5 newId)/\PySem.W.tailIn K bmB bm=true
theorem ExIn.lie{K:KFr}{C:Addr}{bmB:C3}{newId:String}(x:ExIn K C bmB newId)(X:K.In h):∃N bm ob,ExLie h C N bm newId ob/\OwnTail h bmB bm:=by obtain⟨N,bm,nm,q,bs,hdct,sn,sub,ab,col,dd,k0,k1,k2,k3,k5,lk,tl⟩:=x;exact⟨N,bm,_,⟨X _ _ lk,nm,q,bs,hdct,sn,sub,ab,col,dd,k0,k1,k2,k3,k5,rfl⟩,PySem.W.tail_of_in X tl⟩
theorem _root_.L2.ExLie.keeps{C N:Addr}{bm:C3}{newId:String}{ob:Obj}(L:ExLie h C N bm newId ob)(k:∀b o,h.get? b=some o->h'.get? b=some o):ExLie h' C N bm newId ob:=⟨k _ _ L.obj,L.is⟩
structure BaseIni(K:KFr)(CB:Addr):Prop where
 get:PySem.W.specialIn K (.ref CB) "__getattribute__"=some (some (.builtin "type.__getattribute__"))
 reads:PySem.W.readsIn K CB (.type "type")=true
 find:PySem.W.findCls K (.ref CB) (.type "type") "__init__"=some (.val (.builtin "ValueError.__init__"))
def tBI(K:KFr)(t:TA):TE:=fun σ H Q=>t σ H fun vs H1=>∃e C m,vs=[.ref e,.str m]/\ExIn K C bmV "ValueError.__new__"/\H1 e=some (.ext (iniP e C))/\Q .non H1
theorem zN9{X:Cx}{x:Str}{CB:Addr}{t:TA}{pl:Sem Bool}(hg:Gl X x)(hm:X.mg x=some (.ref CB))(hb:BaseIni X.K CB)(ha:PA X (e::es) t)(hdb:autoParam ((x==("__debug__":Str))=false) Ex)(hst:autoParam (starEach (e::es) X.env=(false,eval e X.env)::starEach es X.env) Ey)(hpl:autoParam ((backTo pos (starEach es X.env)).any (·.1)=false) Ey)(ht:eval (.Call (.Attribute (.Name x np) "__init__" apos) (e::es) [] pos) X.env=(do
   let ov<-eval (.Name x np) X.env
   standAt apos.atName
   let (f,first)<-holding [ov] (getMethod ov "__init__" pl)
   callWith pos f first (backTo pos (starEach (e::es) X.env)) (backToKw pos (keywordEach [] X.env))):=by rfl):
  PE X (.Call (.Attribute (.Name x np) "__init__" apos) (e::es) [] pos) (tBI X.K t):=by
 intro EA s σ H Q I h;refine PySem.W.methodCall_KW (pl:=pl) (jS I hg hm ?_ hdb) ht;refine PySem.W.method_cls I.kIn hb.get (PySem.W.cls_value I.kIn hb.reads hb.find rfl ?_);have I0:=I.tok (s.toks+1);refine PyProof.Rows.callWith_builtin1 (thn (ha pos EA _ σ H _ I0 h) fun us s1⟨vs,H1,I1,r1,e,C,m,ev,hc,hH,q⟩=>?_) hst hpl;subst ev;cases r1 with
 |cons ra r1=>cases r1 with
  |cons rb r1=>cases r1 with
   |nil=>
    obtain rfl:=ra;obtain⟨tk,rfl⟩:=rb;obtain⟨N,tl,_,⟨hC,nm,qn,bs,hd,sn,sb,ab,co,dd,k0,k1,k2,k3,k5,rfl⟩,T⟩:=hc.lie I1.kIn;obtain⟨⟨t0,he⟩,_,_⟩:=I1.hok e _ hH;obtain⟨hh,g,d,t1,os⟩:=s1;refine wpAny_call (codeAny_call_builtin Cv.init.plain Cv.initEntry (wpAny_check_init_subT Cv T hC he rfl ?_));wp_walk
    have up:upd H1 e (.ext (iniP e C))=H1:=funext fun b=>(by by_cases hb:b=e;subst hb;rw[yU,hH];rw[zJ hb]);have new:((hh.push {cls:=.type "tuple",data:=.seq #[Value.str m tk]}).update e (Obj.mapFields fun x=>x.setIfInBounds 0 (.ref hh.objs.size))).get? e=some {cls:=.ref C,dict:=none,data:=.fields #[.ref hh.objs.size,.none,.none,.none,.bool false,.none]}:=Bp _ (Am _ he) rfl;have I2:=Inv.write (x:=e) (e:=e) (o:=.ext (iniP e C)) (t':=t1) (h':=(hh.push {cls:=.type "tuple",data:=.seq #[Value.str m tk]}).update e (Obj.mapFields fun x=>x.setIfInBounds 0 (.ref hh.objs.size))) I1 (by rw[hH];exact trivial) (.inl rfl) (fun b u nb hb=>by rw[AS _ _ (Bv nb)];exact Am _ hb) ⟨_,new⟩ (zB8 ⟨_,new⟩);rw[up]at I2;exact⟨.non,H1,I2,rfl,q⟩
def spIni(C:Addr):Sp:=fun vs H Q _=>∃e r,vs=[.ref e,.int r]/\(0<=r/\r<16)/\H e=some (.ext (iniP e C))/\∀d,H d=none->Q .non (upd (upd H e (.ext (iniE e C d))) d (.ext (Row d r)))
theorem bO{n:Nat}(h:n<128):((n:Int)).natAbs.log2<1920/\(toString (n:Int):Str).length<=1000000:=by
 have:∀n,n<128->(((n:Nat):Int)).natAbs.log2<1920/\(toString ((n:Nat):Int):Str).length<=1000000:=by decide+kernel
 exact this n h
theorem xX1{X:Cx}{s':Shared}{c:Str}{e C d:Addr}{r:Int}{args:C3}{o:HO}(I:Inv X EA σ H s)(hA:CN.ad c=C)(hro:∀n,rowOf c=some n->(n:Int)=r)(m:Heap.MadeExcOf s.heap h' e (.ref C) args)(nd:upd H e o d=none)(eH:H'=upd (upd H e (.ext (iniE e C d))) d (.ext (Row d r)))(os:s'.os=s.os)(bare:AllBare s'.gens)(un:Un (frs X.stack) [] (upd H e o) H' h' s'.heap)(hok:HOk X.prog X.w H' s'.heap):ExcAt X c H (.ref e) s':=by
 subst eH hA;have de:d≠e:=fun z=>by rw[z,yU]at nd;cases nd
 have nd2:H d=none:=by rw[zJ de]at nd;exact nd
 have nd3:h'.get? d=none:=zO7 fun ob q=>by have z:=un.free d ob q nd (by simp);rw[yU]at z;cases z
 have nd4:s.heap.get? d=none:=zO7 fun ob q=>by rw[m.keeps d ob q]at nd3;cases nd3
 have n:H e=none:=by
  cases q:H e with
  |none=>rfl
  |some o=>obtain⟨u,z⟩:=qR (I.hok e o q);rw[m.new]at z;cases z
 have ne:∀b ob,s.heap.get? b=some ob->b≠e:=fun b ob q z=>by subst z;rw[m.new]at q;cases q
 have neH:∀b u,H b=some u->b≠e:=fun b u q z=>by subst z;rw[n]at q;cases q
 have neD:∀b u,H b=some u->b≠d:=fun b u q z=>by subst z;rw[nd2]at q;cases q
 obtain⟨⟨t0,he⟩,_,_⟩:=hok e _ ((zJ (Bv de)).trans yU);obtain⟨row,_,_⟩:=hok d _ yU;have hok2:HOk X.prog X.w H s'.heap:=fun b u q=>by
  have q':upd (upd H e (.ext (iniE e (CN.ad c) d))) d (.ext (Row d r)) b=some u:=by rw[zJ (neD b u q),zJ (neH b u q)];exact q
  refine(hok b u q').stay (fun _ _ _ z=>z) (fun b' z=>?_) fun b' xs z=>?_;by_cases hd:b'=d;subst hd;rw[yU]at z;cases z;rw[zJ hd]at z;by_cases hb:b'=e;subst hb;rw[yU]at z;cases z;rw[zJ hb]at z;exact z;by_cases hd:b'=d;subst hd;rw[yU]at z;cases z;rw[zJ hd]at z;by_cases hb:b'=e;subst hb;rw[yU]at z;cases z;rw[zJ hb]at z;exact z
 have up:∀{o':HO}b,b≠e->upd H e o' b=H b:=fun b hb=>zJ hb;have un2:Un (frs X.stack) [] H H s.heap s'.heap:=by refine⟨fun b ob q z hb hx=>?_,fun b ob q z hb hx=>?_,fun b ob q z hx=>z,fun b ob q hx=>?_,fun _ _ z=>z,fun _ _ _ z=>z,fun b ps z=>⟨#[],by simpa using z⟩⟩;exact un.keep b ob (m.keeps b ob q) (by rw[up b (ne b ob q)];exact z) hb hx;exact un.slot b ob (m.keeps b ob q) (by rw[up b (ne b ob q)];exact z) hb hx;exact un.there b ob (m.keeps b ob q) hx
 have I6:=I.call' (s':=s') os un2 hok2 bare (fun b z=>by cases z);have nfr:d∉e::frs X.stack:=fun z=>by rcases AF.mp z with z|z;exact de z;obtain⟨_,ob,q,_⟩:=(DJ (as:=frs X.stack) I.stack fun env he a ha=>BN.mpr ⟨env,he,ha⟩).mem (b:=d) z;rw[nd4]at q;cases q
 refine⟨EA,σ,s,H,e,PySem.W.hideAll s'.heap (e::frs X.stack),.ref t0,I,I6,un2,rfl,m.new,n,fun b o q=>DD _ q,Dn _ (.head _),DJ I6.stack fun env he a ha=>Ak _ (BN.mpr ⟨env,he,ha⟩),.inr ⟨_,_,he,rfl,rfl,rfl,rfl⟩,⟨_,_,_,he,rfl,rfl,fun _=>rfl,fun n hn=>⟨d,rfl,(hro n hn).symm▸row.keeps fun ob q=>CO _ q nfr,nd2,nd4⟩⟩,fun b o q nb z=>CO _ q fun hb=>?_⟩;rcases AF.mp hb with rfl|hb;rcases z with z|z;exact z m.new;exact z n;exact nb hb
def sRaI(nm:Int->Str)(m:Ev->Res (D0)):B6:=fun ρ=>(m ρ).bind fun ds=>match ds with
 |[.int r]=>if 0<=r/\r<16 then .ex (nm r)else .no
 |_=>.no
def tRaI(nm:Int->Str)(XE:Str->Hp->Prop)(t:TA):TS:=fun _ σ H=>t σ H fun vs H1=>∃r,vs=[.int r]/\(0<=r/\r<16)/\XE (nm r) H1
theorem xO2{x:Str}{t:TA}{fI:Addr}{fd:FuncData}{k:Nat}(nm:Int->Str)(hn:∀r:Int,0<=r/\r<16->CN.ad (nm r)=CN.ad x/\∀n,rowOf (nm r)=some n->(n:Int)=r)(hb:Br C)(ho:ExIn C.X.K (CN.ad x) bmV "ValueError.__new__")(hi:PySem.W.findIn C.X.K (.ref (CN.ad x)) "__init__"=some (some (.ref fI)))(hf:PySem.W.isFn C.X.K (.ref fI)=true)(hk:PySem.W.keepIn C.X.K (.ref (CN.ad x))=true)(hm:C.X.mg x=some (.ref (CN.ad x)))(F:FnOk C.X.prog C.X.w C.X.K C.X.mg C.X.base CX0 k fI fd ["self","row"] (spIni (CN.ad x)))(hbd:Binds C.X.K fd ["self","row"] [])(hr:Room (k+1) C.X.A)(pa:PA C.X [e] t)(hex:autoParam (C.X.ex=[]) Ey)(hc:autoParam (C.X.calm=true) Ey)(hg:autoParam (Gl C.X x) Ey)(hdb:autoParam ((x==("__debug__":Str))=false) Ex)(he:autoParam (starEach [e] C.X.env=(false,eval e C.X.env)::starEach [] C.X.env) Ey)(hpl:autoParam ((backTo cpos (starEach [] C.X.env)).any (·.1)=false) Ey):PS C.X (.Raise (some (.Call (.Name x np) [e] [] cpos)) none pos) (tRaI nm C.XE t):=by
 intro EA s σ H D I h;obtain⟨N,bm,ob,L,T⟩:=ho.lie I.mod.kin;have ty:=beq_iff_eq.mp hf;obtain⟨oI,lk,fc⟩:=Az.mp (show(C.X.K.lookup fI).map (·.cls)=some (.type "function")from ty);rw[arm_exec_Raise];refine Ai (wpAny_standAt (xB7 (C:=CN.ad x) (N:=N) (bm:=bm) (newId:="ValueError.__new__") (T.hasType Cv.hasBase) (I.ok.hd hc) ?_));refine Ai (wpAny_mono (Q:=fun v s'=>∃e oe vs ob,v=.ref e/\ExLie s'.heap (CN.ad x) N bm "ValueError.__new__" ob/\s'.heap.get? e=some oe/\oe.cls=.ref (CN.ad x)/\oe.data=.fields vs/\vs[1]?=some .none/\C.X.xe (.ref e) s') ?_ (fun v s' z=>Ai (wpAny_standAt (AK z))) fun _ _ z=>z);refine wpAny_Call_Name_kw (jS I hg hm ?_ hdb);refine Ej (h₀:=C.X.base) I.ok.mod.kin hk (thn (pa cpos EA s σ H _ I h) fun us s2⟨vs,H2,I2,r,rr,ev,hb1,z⟩=>⟨I2.kIn,?_⟩) he hpl;subst ev;cases r with
 |cons ra r=>cases r with
  |nil=>
   obtain⟨tk,rfl⟩:=ra;refine yJ6 Cv (T.keeps I2.bk) (L.keeps I2.bk) I2.kIn hi (I2.kIn _ _ lk) fc (by show 1<=sizeLine;decide) fun h' a m=>?_;obtain⟨t0,he0,_,_⟩:=m.there;have n:H2 a=none:=by
    cases q:H2 a with
    |none=>rfl
    |some o=>obtain⟨u,z⟩:=qR (I2.hok a o q);rw[m.new]at z;cases z
   have gone:∀b ob,s2.heap.get? b=some ob->b≠a:=fun b ob q z=>(by subst z;rw[m.new]at q;cases q);have I3:Inv C.X EA σ H2 {s2 with heap:=h',toks:=s2.toks}:=I2.kept m.keeps;have I4:Inv C.X EA σ (upd H2 a (.ext (iniP a (CN.ad x)))) {s2 with heap:=h',toks:=s2.toks}:=by
    refine I3.track n ?_ ?_ (fun y z q=>?_) (fun p hp=>?_) (zB8 ⟨t0,he0⟩);cases q:C.X.s₀.heap.get? a with
    |none=>rfl
    |some o=>obtain⟨o',q'⟩:=I2.base.there a o q (by rw[hex];simp);rw[m.new]at q';cases q'
    obtain⟨mm,⟨o,_,_,q,_⟩,_⟩:=I2.loc;exact Bv (gone _ o q);obtain⟨v,o,q',_⟩:=I2.cell y z q;exact gone _ o q';exact gone _ _ (I2.pin p hp).1
   have r2:Vals [V.ref a,V.int rr] [Value.ref a,Value.int rr tk]:=.cons rfl (.cons ⟨tk,rfl⟩ .nil);refine codeAny_mono (F.run _ C.X.stack _ _ ⟨[Value.ref a,Value.int rr tk],[]⟩ [Value.ref a,Value.int rr tk] _ (fun v H'=>v=.non/\∃d,upd H2 a (.ext (iniP a (CN.ad x))) d=none/\H'=upd (upd (upd H2 a (.ext (iniP a (CN.ad x)))) a (.ext (iniE a (CN.ad x) d))) d (.ext (Row d rr))) E0 (hr.make (CN.ad x) [Value.int rr tk] []) (I4.env0.make (CN.ad x) [Value.int rr tk] []) (hbd _ [Value.ref a,Value.int rr tk] I4.kIn rfl) r2 ⟨a,rr,rfl,hb1,yU,fun d z=>⟨rfl,d,z,rfl⟩⟩) fun res s' hq'=>?_;cases res with
   |error ee=>exact hq'.elim
   |ok fl=>
    cases fl with
    |ret u=>obtain⟨v,H',os',bare,un,hok,rv,rfl,d,nd,eH⟩:=hq';rw[yA5]at eH;have ex:=xX1 I2 (hn rr hb1).1 (hn rr hb1).2 m nd eH os' bare un hok;have da:a≠d:=fun z=>(by rw[<-z,yU]at nd;cases nd);obtain⟨⟨t1,he1⟩,_,_⟩:=hok a _ (by rw[eH];exact(zJ da).trans yU);obtain⟨_,_,_,_,_,_,_,_,I6,_⟩:=id ex;exact⟨rv,a,_,_,ob,rfl,L.keeps I6.bk,he1,rfl,rfl,rfl,hb _ H2 _ _ ex z⟩
    |next=>exact hq'.elim
    |brk=>exact hq'.elim
    |cont=>exact hq'.elim
theorem aW{x:Str}{fI:Addr}{fd:FuncData}{k:Nat}(nm:Int->Str)(hn:∀r:Int,0<=r/\r<16->CN.ad (nm r)=CN.ad x/\∀n,rowOf (nm r)=some n->(n:Int)=r)(hb:Br C)(ho:ExIn C.X.K (CN.ad x) bmV "ValueError.__new__")(hi:PySem.W.findIn C.X.K (.ref (CN.ad x)) "__init__"=some (some (.ref fI)))(hf:PySem.W.isFn C.X.K (.ref fI)=true)(hk:PySem.W.keepIn C.X.K (.ref (CN.ad x))=true)(hm:C.X.mg x=some (.ref (CN.ad x)))(F:FnOk C.X.prog C.X.w C.X.K C.X.mg C.X.base CX0 k fI fd ["self","row"] (spIni (CN.ad x)))(hbd:Binds C.X.K fd ["self","row"] [])(hr:Room (k+1) C.X.A)(ha:RArg C false [e] ms)(hex:autoParam (C.X.ex=[]) Ey)(hc:autoParam (C.X.calm=true) Ey)(hg:autoParam (Gl C.X x) Ey)(hdb:autoParam ((x==("__debug__":Str))=false) Ex)(he:autoParam (starEach [e] C.X.env=(false,eval e C.X.env)::starEach [] C.X.env) Ey)(hpl:autoParam ((backTo cpos (starEach [] C.X.env)).any (·.1)=false) Ey):RS C fr (.Raise (some (.Call (.Name x np) [e] [] cpos)) none pos) (sRaI nm ms):=by
 obtain⟨t,pa,q⟩:=ha;refine⟨_,xO2 nm hn hb ho hi hf hk hm F hbd hr pa hex hc hg hdb he hpl,fun Oc Ob σ H ρ E R h=>q Oc Ob σ H ρ _ R (Res.zP (Res.zS h) (fun ds _ k vs H' s r=>?_) fun c z H' s=>z H' (Same.frm s))⟩
 match ds,k,r with
 |[.int i],k,r=>
  cases r with
  |cons r0 r=>cases r with
   |nil=>by_cases c:0<=i/\i<16;have k:Res.post (if 0<=i/\i<16 then(Res.ex (nm i):Res Out)else .no) _ _:=k;rw[Ae c]at k;exact⟨i,by rw[r0.int],c,k H' (Same.frm s)⟩;have k:Res.post (if 0<=i/\i<16 then(Res.ex (nm i):Res Out)else .no) _ _:=k;rw[An c]at k;exact k.elim
 |[],k,r=>exact k.elim
end L2.L3
namespace L2.L3
open PySem PySem.Spec PyProof.Rows
theorem yS5:entryFor table "proto.unchain"=some Builtin.«proto.unchain»:=entryFor_of_tree (by kernel_rfl)
section
variable {prog:Program}{w:World}{A:Around}{E:A8}{s:Shared}
abbrev KpN(e:Addr)(h:Heap):Prop:=KpX (fun _ v=>v=.none) e h
theorem yD4{α:Type}{Q:α->Shared->Prop}{a h0:Addr}{vs:Array Value}(hh:A.handled=some (.ref h0))(ne:h0≠a)(kp:KpN h0 s.heap)(he:s.heap.get? a=some oe)(hd:oe.data=.fields vs)(hs:2<vs.size)(hE:E (.ref a) {s with heap:=s.heap.update a (Obj.mapFields (·.setIfInBounds 2 (.ref h0)))}):wpAny (model prog w) A (raiseNew (.ref a):Sem α) Q E s:=by
 obtain⟨oh,us,v0,q1,q2,q3,rfl⟩:=kp;unfold raiseNew;refine Ai (wpAny_handled ?_);rw[hh];have nb:(Value.ref h0 !=Value.ref a)=true:=by simpa using ne
 simp only[nb,if_true];refine Ai (wpAny_holding (runValue_entry yS5 ?_));unfold Builtin.«proto.unchain»;refine Ai (wpAny_field q1 q2 q3 ?_);rw[Ae (by decide)];refine Ai (AK (AK ⟨.none,rfl,?_⟩));refine Ai ?_;show wpAny _ _ (setField (.ref a) 2 (.ref h0)) _ _ _;exact wpAny_setField he hd hs (wpAny_throw hE)
def fromF(t h0:Addr):Array Value:=#[.ref t,.none,.ref h0,.none,.bool true,.none]
theorem xS4{env:Env}{C N h0:Addr}{bm:C3}{newId:String}{x c:Sem Value}{Q:Flow->Shared->Prop}(hb:bm.contains (.type "BaseException")=true)(hh:A.handled=some (.ref h0))(k:wpAny (model prog w) A x (fun v s'=>∃e od t ob,v=.ref e/\ExLie s'.heap C N bm newId ob/\s'.heap.get? e=some {cls:=.ref C,dict:=od,data:=.fields #[.ref t,.none,.none,.none,.bool false,.none]}/\h0≠e/\e≠C/\KpN h0 s'.heap /\wpAny (model prog w) A c (fun cv s₂=>cv=.none/\s₂=s') E s'/\∀g,g.get? e=some {cls:=.ref C,dict:=od,data:=.fields (fromF t h0)}->(∀b,b≠e->g.get? b=s'.heap.get? b)->E (.ref e) {s' with heap:=g}) E s):wpAny (model prog w) A (raiseStmt env (some x) (some c)) Q E s:=by
 unfold raiseStmt;refine Ai (wpAny_mono k (fun v s' z=>?_) fun _ _ z=>z);obtain⟨e,od,t,ob,rfl,⟨hC,nm,q,bs,hdct,sn,sub,ab,col,dd,k0,k1,k2,k3,k5,rfl⟩,he,n1,n2,kp,kc,z⟩:=z;have base:(Value.ref C::bm).contains (.type "BaseException")=true:=by rw[BZ,hb,Bool.or_true]
 have isE:∀{Q':Bool->Shared->Prop}{E':A8},Q' true s'->wpAny (model prog w) A (isSubtype (.ref C) (.type "BaseException")) Q' E' s':=fun y=>wpAny_isSubtype_exc hC (by rw[base];exact y);refine Ai (wpAny_holding (wpAny_mono kc (fun cv s₂ y=>?_) fun _ _ y=>y));obtain⟨rfl,rfl⟩:=y;have f3:(s₂.heap.update e (Obj.mapFields (·.setIfInBounds 3 .none))).get? e=some {cls:=.ref C,dict:=od,data:=.fields #[.ref t,.none,.none,.none,.bool false,.none]}:=Bp _ he rfl;have f4:((s₂.heap.update e (Obj.mapFields (·.setIfInBounds 3 .none))).update e (Obj.mapFields (·.setIfInBounds 4 (.bool true)))).get? e=some {cls:=.ref C,dict:=od,data:=.fields #[.ref t,.none,.none,.none,.bool true,.none]}:=Bp _ f3 rfl;have ot:∀b,b≠e->((s₂.heap.update e (Obj.mapFields (·.setIfInBounds 3 .none))).update e (Obj.mapFields (·.setIfInBounds 4 (.bool true)))).get? b=s₂.heap.get? b:=fun b y=>by rw[AS _ _ (Bv y),AS _ _ (Bv y)]
 have c4:=(ot C (Bv n2)).trans hC;wp_walk using wpAny_loadPart_at he,wpAny_loadPart_at hC,isE,wpAny_loadPart_at f4,wpAny_loadPart_at c4
 exact yD4 hh n1 (kp.same (ot h0 n1)) f4 rfl (show 2<6 by decide) (z _ (Bp _ f4 rfl) fun b y=>(AS _ _ (Bv y)).trans (ot b y))
end
end L2.L3
namespace L2
open PySem PySem.Spec PyProof.Rows L2.L3
def RunM(P:Program)(w:World)(K:KFr)(mg:B9)(base:Heap)(k:Nat)(f:Addr)(fd:FuncData)(ps:C4)(sp:Sp):Prop:=∀(A:Around)(m:Value)(outer:List Env)(s:Shared)(H:Hp)(args:Args)(us:C3)(vs:C8)(Q:VK)(E:XK),Room k A->Env0 P w K mg base A outer s H->BindsTo s fd args (ps.zip us)->Vals vs us->sp vs H Q E ->codeAny (model P w) (A.mark (some m)) (.call (.ref f) args) (CR CX0 outer P w H s Q E) s
theorem wG1{w:World}{K:KFr}{mg:B9}{base:Heap}{k:Nat}{f:Addr}{params:Arguments}{dV kV ct:Value}{an:Option Addr}{osl:Array (Option Value)}{N ps:C4}{sp:Sp}(lk:K.lookup f=some ⟨oc,od,.func (PySem.W.fnOf name qual params body scope dV kV doc pm an cdv ct),osl⟩)(hcd:PySem.W.codeIn K cdv qual=true)(S:vK N ps scope)(len:∀vs H Q E,sp vs H Q E->vs.length=ps.length)(hbody:∀(m:Value)(A:Around)(outer:List Env)(s:Shared)(H:Hp)(vs:C8)(Q:VK)(E:XK),sp vs H Q E ->∃t,PSs (inSuite (cxOf CX0 P w K mg base N qual scope f cdv A outer s H E) m) body t/\t {nx:=fun _ H'=>Q .non H',rt:=Q} (start N vs) H):RunM P w K mg base (k+1) f (PySem.W.fnOf name qual params body scope dV kV doc pm an cdv ct) ps sp:=by
 intro A m outer s H args us vs Q E hr e0 hb r hsp;have hl:=len _ _ _ _ hsp;have KX:K.In s.heap:=e0.mod.kin.keeps fun b o e=>(e0.bs b o e).1;have lim:s.heap.NoLimit:=e0.mod.nolimit.keeps fun b o e=>(e0.bs b o e).1;have hkind:∀y∈ps.zip us,scope.names.lookup y.1=some .local\/(scope.names.lookup y.1=some .cell/\((cellsFrom (s.heap.objs.size+1) scope.names []).lookup y.1).isSome=true):=fun⟨n,v⟩hy=>by rcases S.par n (Ec hy).1 with q|q;exact .inl q;exact .inr ⟨q,DH _ _ _ (.inl q)⟩
 refine codeAny_call_function (A:=A.mark (some m)) hr.depth (KX _ _ lk) rfl S.co S.gen rfl (PySem.W.codeRec_of KX hcd) (hb _ _ _ _ ?_);refine wpAny_newFunctionEnv_cells S.kind hkind fun env he s1 x=>?_;subst he;refine⟨lim.keeps x.toInCall.keep,codeAny_func ?_⟩;obtain⟨t,ht,hq⟩:=hbody m A outer s H vs Q E hsp;have I:Inv (cxOf CX0 P w K mg base N qual scope f cdv A outer s H E) [] (start N vs) H s1:=yU8 S hr.hd e0 hl r x;have I2:=Inv.toSuite I m;refine wpAny_mono (ht [] s1 (start N vs) H _ I2 hq) (fun fl s' hs=>?_) fun e s' hs=>hs.elim;have fin:∀{σ':St}{H':Hp}{v:V}{u:Value},Inv (inSuite (cxOf CX0 P w K mg base N qual scope f cdv A outer s H E) m) [] σ' H' s'->RelV v u->Q v H'->CE outer P w H s Q u s':=fun{σ' H' v u}J rv q=>⟨v,H',J.os,J.bare,J.base,J.hok,rv,q⟩;cases fl with
 |ret u=>obtain⟨v,σ',H',J,rv,q⟩:=hs;exact fin J rv q
 |next=>obtain⟨σ',H',J,q⟩:=hs;exact fin (v:=V.non) (u:=Value.none) J rfl q
 |brk=>obtain⟨_,_,_,q⟩:=hs;exact False.elim q
 |cont=>obtain⟨_,_,_,q⟩:=hs;exact False.elim q
theorem Fun.okM{w:World}{K:KFr}{mg:B9}{base:Heap}{x:Str}{st:Stmt}{f:Addr}{fd:FuncData}{N:C4}{k:Nat}{sp:Sp}(F:Fun K x qual st f fd)(S:vK N ps (zH st))(len:∀vs H Q E,sp vs H Q E->vs.length=ps.length) (hbody:∀(m cdv:Value)(A:Around)(outer:List Env)(s:Shared)(H:Hp)(vs:C8)(Q:VK)(E:XK),sp vs H Q E ->∃t,PSs (inSuite (cxOf CX0 P w K mg base N qual (zH st) f cdv A outer s H E) m) (defBody st) t/\t {nx:=fun _ H'=>Q .non H',rt:=Q} (start N vs) H):RunM P w K mg base (k+1) f fd ps sp:=by obtain⟨oc,od,kV,doc,pm,an,cdv,ct,osl,rfl,lk,hcd⟩:=F.ex;exact wG1 lk hcd S len fun m A outer s H vs Q E hsp=>hbody m cdv A outer s H vs Q E hsp
end L2
namespace L2.L3
open PySem PySem.Spec PyProof.Rows
section
variable {M:Model}{A:Around}{E:A8}{s:Shared}{B:Heap}{e:Addr}{cls a0 fl:Value}
theorem flyK{l:List Env}{fr:Option Addr}{Q:Unit->Shared->Prop}(hB:B.StaysIn s.heap)(hF:s.heap.FunFrames B l)(ht:s.heap.TracedAtW B e cls a0 fl)(kp:KpX Φ e s.heap)(k:∀g fl',B.StaysIn g->g.FunFrames B l->g.TracedAtW B e cls a0 fl'->s.heap.UpToSlots g->KpX Φ e g->Q () {s with heap:=g}):wpAny M A (do
   if (<-field (.ref e) 1)==.none then unsupported "frame.own-activation:exception-without-traceback"
   setFlight (.ref e) fr) Q E s:=by
 obtain⟨oe,vs,T,oT,ts,g1,g2,g4,g5,g6,g7,g8,g9,g10⟩:=ht;have sz:=(Bh.mp g10).1;have ot:∀b,b≠T->(s.heap.update T (Obj.mapFields (·.setIfInBounds 3 (fr.elim Value.none fun f=>rawInt f)))).get? b=s.heap.get? b:=fun b hb=>AS _ _ (Bv hb);have nf:∀b o,s.heap.get? b=some o->(∀vs,o.data≠.fields vs)->b≠T:=fun b o q hd w=>by subst w;cases g8.symm.trans q;exact hd ts g9
 have n0:(Value.ref T==Value.none)=false:=by simp
 have n1:(Value.ref T !=Value.none)=true:=by simp
 refine Ai (wpAny_field g1 g4 g5 ?_);simp only[n0,AT,if_false];unfold setFlight;refine Ai (wpAny_field g1 g4 g5 ?_);simp only[n1,if_true];refine wpAny_setField g8 g9 sz (k _ (fr.elim .none fun f=>rawInt f) (fun b o q=>(ot b fun w=>by subst w;rw[g6]at q;cases q).trans (hB b o q)) (hF.of_keeps fun b o q hd=>⟨o,(ot b (nf b o q hd)).trans q,rfl⟩) ?_ (fun b o q hd=>⟨o.slots,(ot b (nf b o q hd)).trans q⟩) (kp.same (ot e (Bv g7))));exact⟨oe,vs,T,_,_,(ot e (Bv g7)).trans g1,g2,g4,g5,g6,g7,Bp _ g8 (CC (BO g9 _)),BO g9 _,by simp[sz]⟩
end
variable [CN]
theorem xA4{X:Cx}{c:Str}{a:Addr}{A':Around}(hA':A'.frames=X.A.frames)(x:ExcAt X c H (.ref a) s)(hst:X.stack=X.env::X.outer)(hfr:X.env.frame=some X.env.locals)(hb:∀s',ExcAt X c H (.ref a) s'->X.xe (.ref a) s'):notedBy (model X.prog X.w) A' X.env (cameBackBy (model X.prog X.w) X.A X.env X.xe) (.ref a) s:=by
 obtain⟨EA,σ,s1,H1,a',B,a0,I1,I,un,ea,n1,n2,f⟩:=x;cases ea;have hfrm:s.heap.FunFrames B (X.env::X.outer):=by rw[<-hst];exact f.frm
 have hA:A'.frames=some (X.env::X.outer):=by rw[hA',<-hst];exact I.ok.frames
 obtain⟨Φ,hP⟩:∃Φ,Φ=FlK (.ref (CN.ad c)) (rowOf c) B s1.heap H:=⟨_,rfl⟩;have fk:KpX Φ a s.heap:=hP▸f.kp;have key:∀h',Heap.NotedW B (X.env::X.outer) a (.ref (CN.ad c)) a0 (rawInt X.env.locals) s.heap h'->KpX Φ a h'->cameBackBy (model X.prog X.w) X.A X.env X.xe (.ref a) {s with heap:=h'}:=by rintro h' ⟨k1,k2,k3,k4⟩ kh;rw[<-hst]at k2;unfold cameBackBy;refine flyK (s:={s with heap:=h'}) (B:=B) (l:=X.stack) k1 k2 k3 kh fun h2 fl' g1 g2 g3 g4 g5=>?_;have ups2:s.heap.UpToSlots h2:=Heap.UpToSlots.trans k4 g4;obtain⟨J,un2,cov⟩:=zG1 I1 I un f g1 g2 ups2;exact hb _ ⟨EA,σ,s1,H1,a,B,a0,I1,J,un2,rfl,n1,n2,⟨g1,f.newB,g2,.inl ⟨fl',g3⟩,hP▸g5,cov⟩⟩
 show wpAny (model X.prog X.w) A' (noteFrame (.ref a) X.env) (fun _ s''=>cameBackBy (model X.prog X.w) X.A X.env X.xe (.ref a) s'') _ s;rcases f.raw with⟨fl,t⟩|⟨oe,vs,he,hc,hd,h1,h0⟩;exact zX3 hA hfrm hfr t f.stays f.newB fk key;rw[<-hc]at key;unfold noteFrame;simp only[hfr];refine Ai (wpAny_field he hd h1 ?_);rw[An (by decide)];exact entryK hA hfrm hfr he f.stays f.newB hd (Bh.mp h1).1 h0 fk key
theorem wL4{X:Cx}{a:Addr}{g:Heap}{us:Array Value}{o1:Obj}{u1:Array Value}(hnm:CN.ad nm=CN.ad "BadText")(x:ExcAt X nm H (.ref a) s)(h1:s.heap.get? a=some o1)(d1:o1.data=.fields u1)(hg:g.get? a=some oe)(hc:oe.cls=.ref (CN.ad "BadText"))(hd:oe.data=.fields us)(z1:us[1]?=some .none){v v2:Value}(z0:us[0]?=some v)(z2:us[2]?=some v2)(zd:oe.dict=o1.dict)(ot:∀b,b≠a->g.get? b=s.heap.get? b):ExcAt X nm H (.ref a) {s with heap:=g}:=by
 obtain⟨EA,σ,s1,H1,a',B,a0,I1,I,un,ea,n1,n2,f⟩:=x;cases ea;have ne1:∀b o,s1.heap.get? b=some o->b≠a:=fun b o q y=>by subst y;rw[n1]at q;cases q
 have neH:∀b,H b≠none->b≠a:=fun b q y=>q (y▸n2);have nF:∀b o,s.heap.get? b=some o->(∀vs,o.data≠.fields vs)->b≠a:=fun b o q d y=>by subst y;cases h1.symm.trans q;exact d _ d1
 have un2:Un (frs X.stack) [] H1 H s1.heap g:=by refine⟨fun b o q n hb hx=>(ot b (ne1 b o q)).trans (un.keep b o q n hb hx),fun b o q n hb hx=>?_,un.free,fun b o q hx=>?_,un.tups,un.frzs,un.tbls⟩;obtain⟨sl,y⟩:=un.slot b o q n hb hx;exact⟨sl,(ot b (ne1 b o q)).trans y⟩;obtain⟨o',y⟩:=un.there b o q hx;exact⟨o',(ot b (ne1 b o q)).trans y⟩
 have hok:HOk X.prog X.w H g:=fun b o q=>by
  refine(I.hok b o q).stay (fun b' u hb' y=>(ot b' ?_).trans y) (fun _ z=>z) fun _ _ z=>z;rcases hb' with rfl|hb'
  exact neH _ (wI q);exact neH _ (wI hb')
 have kd:∀r,rowOf nm=some r->∃d,oe.dict=some d/\Row d (r:Int) B/\H d=none/\s1.heap.get? d=none:=fun r e=>by obtain⟨o,vs,v',e1,_,_,_,y⟩:=f.kp;cases h1.symm.trans e1;rw[zd];exact y r e
 have J:=I1.call' (s':={s with heap:=g}) (I.os.trans I1.os.symm) un2 hok I.bare (fun b z=>by cases z);refine⟨EA,σ,s1,H1,a,B,v,I1,J,un2,rfl,n1,n2,⟨fun b o q=>(ot b fun y=>by subst y;rw[f.newB]at q;cases q).trans (f.stays b o q),f.newB,f.frm.of_keeps fun b o q d=>⟨o,(ot b (nF b o q d)).trans q,rfl⟩,.inr ⟨oe,us,hg,by rw[hc,hnm],hd,z1,z0⟩,⟨oe,us,v2,hg,hd,z2,fun p=>absurd (by rw[hnm]) p,kd⟩,fun b o q nb z=>?_⟩⟩;have nb':b≠a:=by rcases z with z|z;obtain⟨o',q'⟩:=dC z;exact ne1 b o' q';exact neH b z
 exact f.cov b o ((ot b nb').symm.trans q) nb z
def sTryR(caught:C4)(nm:Str)(mb:B6):B6:=fun ρ=>match mb ρ with
 |.ok o=>.ok o
 |.no=>.no
 |.ex c=>if caught.contains c then .ex nm else .no
theorem wP8{x:Str}{hpos yp ip jp rp:Pos}{j j2:Nat}{fI:Addr}{fd:FuncData}{k:Nat}(caught:C4)(nm:Str)(hnm:CN.ad nm=CN.ad "BadText")(hrn:∀n,rowOf nm=some n->(n:Int)=1)(hbody:∀(pn:A9)(xe:A8)(XE:Str->Hp->Prop),Br ⟨inTry C.X pn xe,XE,C.om,C.ln⟩->RSs ⟨inTry C.X pn xe,XE,C.om,C.ln⟩ fr body mb)(hcx:∀c,caught.contains c=true->PySem.W.kitCls C.X.K (.ref (CN.ad c)) (.ref (CN.ad x))=some true)(hcb:PySem.W.subIn C.X.K (.ref (CN.ad x)) (.type "BaseException")=some true)(hm:C.X.mg x=some (.ref (CN.ad x)))(hne:∀c,caught.contains c=true->Value.ref (CN.ad c)≠.ref (CN.ad "BadText"))(hb:Br C)(ho:ExIn C.X.K (CN.ad "BadText") bmV "ValueError.__new__")(hi:PySem.W.findIn C.X.K (.ref (CN.ad "BadText")) "__init__"=some (some (.ref fI)))(hk:PySem.W.keepIn C.X.K (.ref (CN.ad "BadText"))=true)(hf:PySem.W.isFn C.X.K (.ref fI)=true)(hmy:C.X.mg "BadText"=some (.ref (CN.ad "BadText")))(F:RunM C.X.prog C.X.w C.X.K C.X.mg C.X.base k fI fd ["self","row"] (spIni (CN.ad "BadText")))(hbd:Binds C.X.K fd ["self","row"] [])(hr:Room (k+1) C.X.A)(hst:autoParam (C.X.stack=C.X.env::C.X.outer) Ey)(hfr:autoParam (C.X.env.frame=some C.X.env.locals) Ey)(hex:autoParam (C.X.ex=[]) Ey)(hg:autoParam (Gl C.X x) Ey)(hdb:autoParam ((x==("__debug__":Str))=false) Ex)(hgy:autoParam (Gl C.X "BadText") Ey)(he:autoParam (starEach [.Constant (.int 1) j ip] C.X.env=(false,eval (.Constant (.int 1) j ip) C.X.env)::starEach [] C.X.env) Ey)(hpl:autoParam ((backTo cpos (starEach [] C.X.env)).any (·.1)=false) Ey):RS C fr (.Try body [.ExceptHandler (some (.Name x np)) none [.Raise (some (.Call (.Name "BadText" yp) [.Constant (.int 1) j ip] [] cpos)) (some (.Constant .none j2 jp)) rp] hpos] [] [] pos) (sTryR caught nm mb):=by
 refine⟨fun D σ H=>∀EA s,Inv C.X EA σ H s->wpAny (model C.X.prog C.X.w) C.X.A (exec (.Try body [.ExceptHandler (some (.Name x np)) none [.Raise (some (.Call (.Name "BadText" yp) [.Constant (.int 1) j ip] [] cpos)) (some (.Constant .none j2 jp)) rp] hpos] [] [] pos) C.X.env) (SP C.X EA D) C.X.xe s,fun EA s σ H D I h=>h EA s I,fun Oc Ob σ H ρ E R hp EA s I=>?_⟩;refine wpAny_Try_except ?_;generalize hxe:(fun(e:Value)(s₁:Shared)=>wpAny (model C.X.prog C.X.w) C.X.A (noteFrame e C.X.env) (fun _ s₂=>wpAny (model C.X.prog C.X.w) C.X.A (setFlight e none) (fun _ s₃=>wpAny (model C.X.prog C.X.w) C.X.A (handleBy e C.X.env [.ExceptHandler (some (.Name x np)) none [.Raise (some (.Call (.Name "BadText" yp) [.Constant (.int 1) j ip] [] cpos)) (some (.Constant .none j2 jp)) rp] hpos]) (SP C.X EA E) C.X.xe s₃) C.X.xe s₂) C.X.xe s₁)=xe';have br:Br ⟨inTry C.X (C.X.pn++EA) xe',fun c H'=>caught.contains c=true/\C.XE nm H',C.om,C.ln⟩:=by
  intro c H' e s' xx ⟨hc,hsp⟩;subst hxe;refine yU7 (X:=inTry C.X (C.X.pn++EA) _) xx hst hfr fun pins' σ' s1 H1 a B a0 s3 J1 J un ea n1 n2 fl tr=>?_;subst ea;have K3:Inv C.X EA σ' H' s3:=Inv.ofTry J;have Km:=Inv.toSuite K3 (.ref a);refine wpAny_handleBy_cons (codeAny_handlers_test ?_) (by intro q;cases q);refine jS (X:=inSuite C.X (.ref a)) Km hg hm ?_ hdb;obtain⟨oe,_,_,_,_,he0,⟨hcl,_⟩,_⟩:=id tr;refine yV4 K3.kIn he0 hcl (hcx c hc) hcb ?_;refine codeAny_handlers_suite ?_;refine flightK (B:=B) (l:=C.X.stack) (cls:=.ref (CN.ad c)) (a0:=a0) (Φ:=fun _ v=>v=.none) fl.stays fl.newB fl.frm tr.at (fl.kp.mono fun d v y=>y.1 (hne c hc)) fun h4 fly ups k4=>?_;obtain⟨I4,_,_⟩:=zG1 J1 J un fl fly.1 fly.2.2.1 ups;have K4:Inv C.X EA σ' H' {s3 with heap:=h4}:=Inv.ofTry I4;have L1:Inv C.X EA σ' H1 s1:=Inv.ofTry J1;obtain⟨oa,vs,v0,qa,da,za,ez⟩:=k4;subst ez;have hn1:∀b o,s1.heap.get? b=some o->b≠a:=fun b o q z=>by subst z;rw[n1]at q;cases q
  have K5:Inv C.X ((a,oa)::EA) σ' H' {s3 with heap:=h4}:=K4.kF fun p hp=>by rcases AF.mp hp with rfl|hp;refine⟨qa,n2,?_,fun hb'=>?_,fun v=>by rw[da];exact fun z=>nomatch z⟩;obtain⟨m,⟨o,_,_,q,_⟩,_⟩:=L1.loc;exact Bv (hn1 _ o q);obtain⟨_,o,q,_⟩:=L1.ok.funs.mem hb';obtain⟨o',q'⟩:=L1.base.there _ o q (by rw[hex];simp);rw[n1]at q';cases q';exact K4.pin p (Ah _ hp)
  have Km5:=Inv.toSuite K5 (.ref a);refine wpAny_execs_cons ?_;obtain⟨N,bm,ob,L,T⟩:=ho.lie I.mod.kin;have ty:=beq_iff_eq.mp hf;obtain⟨oI,lk,fc⟩:=Az.mp (show(C.X.K.lookup fI).map (·.cls)=some (.type "function")from ty);rw[arm_exec_Raise];refine Ai (wpAny_standAt (xS4 (A:=C.X.A.mark (some (.ref a))) (C:=CN.ad "BadText") (N:=N) (bm:=bm) (newId:="ValueError.__new__") (h0:=a) (T.hasType Cv.hasBase) rfl ?_));refine Ai (wpAny_mono ?_ (fun v s' z=>Ai (wpAny_standAt (AK z))) fun _ _ z=>z);refine wpAny_Call_Name_kw (jS (X:=inSuite C.X (.ref a)) Km5 hgy hmy ?_ (by decide));have pa:PA (inSuite C.X (.ref a)) [.Constant (.int 1) j ip] (qS (tC (.int 1)) tNil):=yF zY4 xP he;have h2:=pa cpos ((a,oa)::EA) _ σ' H' (fun vs H1=>vs=[.int 1]/\H1=H') Km5 ⟨rfl,rfl⟩;refine Ej (h₀:=C.X.base) I.ok.mod.kin hk (wpAny_mono h2 (fun us s2⟨vs',H2,I2,r,ev,eH2⟩=>⟨I2.kIn,?_⟩) fun _ _ y=>y.elim) he hpl;subst ev eH2;cases r with
  |cons ra r=>cases r with
   |nil=>
    obtain⟨tk,rfl⟩:=ra;have J2:Inv C.X ((a,oa)::EA) σ' H2 s2:=Inv.ofSuite K4.ok I2;have qa2:s2.heap.get? a=some oa:=(J2.pin (a,oa) (Ah _ Af)).1;refine yJ6 Cv (T.keeps J2.bk) (L.keeps J2.bk) J2.kIn hi (J2.kIn _ _ lk) fc (by show 1<=sizeLine;decide) fun h' a2 m=>?_;obtain⟨t0,he1,_,_⟩:=m.there;have gone:∀b ob,s2.heap.get? b=some ob->b≠a2:=fun b ob q z=>(by subst z;rw[m.new]at q;cases q);have n:H2 a2=none:=by
     cases q:H2 a2 with
     |none=>rfl
     |some o=>obtain⟨u,z⟩:=qR (J2.hok a2 o q);rw[m.new]at z;cases z
    have I3:Inv C.X ((a,oa)::EA) σ' H2 {s2 with heap:=h',toks:=s2.toks}:=J2.kept m.keeps;have I5:Inv C.X ((a,oa)::EA) σ' (upd H2 a2 (.ext (iniP a2 (CN.ad "BadText")))) {s2 with heap:=h',toks:=s2.toks}:=by
     refine I3.track n ?_ ?_ (fun y z q=>?_) (fun p hp=>?_) (zB8 ⟨t0,he1⟩);cases q:C.X.s₀.heap.get? a2 with
     |none=>rfl
     |some o=>obtain⟨o',q'⟩:=J2.base.there a2 o q (by rw[hex];simp);rw[m.new]at q';cases q'
     obtain⟨mm,⟨o,_,_,q,_⟩,_⟩:=J2.loc;exact Bv (gone _ o q);obtain⟨v,o,q',_⟩:=J2.cell y z q;exact gone _ o q';exact gone _ _ (J2.pin p hp).1
    have r2:Vals [V.ref a2,V.int 1] [Value.ref a2,Value.int 1 tk]:=.cons rfl (.cons ⟨tk,rfl⟩ .nil);refine codeAny_mono (F _ (.ref a) C.X.stack _ _ ⟨[Value.ref a2,Value.int 1 tk],[]⟩ [Value.ref a2,Value.int 1 tk] _ (fun v H'=>v=.non/\∃d,upd H2 a2 (.ext (iniP a2 (CN.ad "BadText"))) d=none/\H'=upd (upd (upd H2 a2 (.ext (iniP a2 (CN.ad "BadText")))) a2 (.ext (iniE a2 (CN.ad "BadText") d))) d (.ext (Row d 1))) E0 (hr.make (CN.ad "BadText") [Value.int 1 tk] []) (I5.env0.make (CN.ad "BadText") [Value.int 1 tk] []) (hbd _ [Value.ref a2,Value.int 1 tk] I5.kIn rfl) r2 ⟨a2,1,rfl,by decide,yU,fun d z=>⟨rfl,d,z,rfl⟩⟩) fun res s' hq'=>?_;cases res with
    |error ee=>exact hq'.elim
    |ok fl=>
     cases fl with
     |ret u=>obtain⟨v,H'',os',bare,un',hok,rv,rfl,d,nd,eH⟩:=hq';rw[yA5]at eH;have ex:=xX1 J2 hnm hrn m nd eH os' bare un' hok;have da2:a2≠d:=fun z=>(by rw[<-z,yU]at nd;cases nd);obtain⟨⟨t1,he2⟩,_,_⟩:=hok a2 _ (by rw[eH];exact(zJ da2).trans yU);have I6:Inv C.X ((a,oa)::EA) σ' H'' s':=I5.call' (s':=s') os' un' hok bare (fun b z=>by cases z);have qa3:s'.heap.get? a=some oa:=(I6.pin (a,oa) (Ah _ Af)).1;refine⟨rv,a2,some d,t1,ob,rfl,L.keeps I6.bk,he2,gone a oa qa2,Bv (gone _ _ (J2.bk _ _ L.obj)),⟨oa,vs,_,qa3,da,za,rfl⟩,Ai (wpAny_Constant_none (Ai (wpAny_standAt (AK ⟨rfl,rfl⟩)))),fun g g1 g2=>?_⟩;have ex2:=wL4 hnm ex he2 rfl g1 rfl rfl rfl rfl rfl rfl g2;exact xA4 (X:=C.X) rfl ex2 hst hfr fun s'' ex3=>hb nm H2 _ _ ex3 hsp
     |next=>exact hq'.elim
     |brk=>exact hq'.elim
     |cont=>exact hq'.elim
 obtain⟨tb,pb,qb⟩:=hbody _ _ _ br;refine wpAny_mono (pb [] s σ H E (Inv.toTry I _) (qb Oc Ob σ H ρ E R ?_)) (fun f s₁ hs=>?_) fun e s₁ z=>z;unfold sTryR at hp;cases em:mb ρ with
 |ok o=>rw[em]at hp;exact hp
 |no=>rw[em]at hp;exact hp
 |ex c=>rw[em]at hp;intro H' f1;by_cases hc:caught.contains c=true;simp only[hc,if_true]at hp;exact⟨hc,hp H' f1⟩;simp only[hc]at hp;exact hp.elim
 ·cases f with
  |next=>exact wpAny_execs_nil (SP.ofTry hs)
  |brk=>exact SP.ofTry (f:=.brk) hs
  |cont=>exact SP.ofTry (f:=.cont) hs
  |ret u=>exact SP.ofTry (f:=.ret u) hs
end L2.L3
namespace L2.L3
open PySem PySem.Spec PyProof.Rows
variable [CN]
def sTry0(caught:C4)(mb ms:B6):B6:=fun ρ=>match mb ρ with
 |.ok o=>.ok o
 |.no=>.no
 |.ex c=>if caught.contains c then noEx (ms (List.replicate ρ.length none))else .no
theorem wV3{cs:C4}{ms:B6}{o:Out}(h:mb ρ=.ok o):sTry0 cs mb ms ρ=.ok o:=by unfold sTry0;rw[h]
theorem wW9{cs:C4}{ms:B6}{c:Str}(h:mb ρ=.ex c)(hc:cs.contains c=true):sTry0 cs mb ms ρ=noEx (ms (List.replicate ρ.length none)):=by unfold sTry0;rw[h];exact Ae hc
theorem xD8{cs:C4}{o:Out}(h:mb ρ=.ok o):sTryR cs nm mb ρ=.ok o:=by unfold sTryR;rw[h]
theorem xB1{cs:C4}{c:Str}(h:mb ρ=.ex c)(hc:cs.contains c=true):sTryR cs nm mb ρ=.ex nm:=by unfold sTryR;rw[h];exact Ae hc
theorem wP1{x:Str}{hpos:Pos}{suite:List Stmt}{b₀:Stmt}{ms:B6}(caught:C4)(hbody:∀(pn:A9)(xe:A8)(XE:Str->Hp->Prop),Br ⟨inTry C.X pn xe,XE,C.om,C.ln⟩->RSs ⟨inTry C.X pn xe,XE,C.om,C.ln⟩ fr body mb)(hsuite:∀e:Value,RSs ⟨inSuite C.X e,fun _ _=>False,C.om,C.ln⟩ fr (b₀::suite) ms)(hcx:∀c,caught.contains c=true->PySem.W.kitCls C.X.K (.ref (CN.ad c)) (.ref (CN.ad x))=some true)(hcb:PySem.W.subIn C.X.K (.ref (CN.ad x)) (.type "BaseException")=some true)(hm:C.X.mg x=some (.ref (CN.ad x)))(hst:autoParam (C.X.stack=C.X.env::C.X.outer) Ey)(hfr:autoParam (C.X.env.frame=some C.X.env.locals) Ey)(hg:autoParam (Gl C.X x) Ey)(hdb:autoParam ((x==("__debug__":Str))=false) Ex):RS C fr (.Try body [.ExceptHandler (some (.Name x np)) none (b₀::suite) hpos] [] [] pos) (sTry0 caught mb ms):=by
 refine⟨fun D σ H=>∀EA s,Inv C.X EA σ H s->wpAny (model C.X.prog C.X.w) C.X.A (exec (.Try body [.ExceptHandler (some (.Name x np)) none (b₀::suite) hpos] [] [] pos) C.X.env) (SP C.X EA D) C.X.xe s,fun EA s σ H D I h=>h EA s I,fun Oc Ob σ H ρ E R hp EA s I=>?_⟩;refine wpAny_Try_except ?_;generalize hxe:(fun(e:Value)(s₁:Shared)=>wpAny (model C.X.prog C.X.w) C.X.A (noteFrame e C.X.env) (fun _ s₂=>wpAny (model C.X.prog C.X.w) C.X.A (setFlight e none) (fun _ s₃=>wpAny (model C.X.prog C.X.w) C.X.A (handleBy e C.X.env [.ExceptHandler (some (.Name x np)) none (b₀::suite) hpos]) (SP C.X EA E) C.X.xe s₃) C.X.xe s₂) C.X.xe s₁)=xe';have hln:σ.length=ρ.length:=R.len;have br:Br ⟨inTry C.X (C.X.pn++EA) xe',fun c H'=>Frm Ob H H'/\caught.contains c=true/\SPost C fr Oc (fun _=>False) H' E (noEx (ms (List.replicate ρ.length none))),C.om,C.ln⟩:=by
  intro c H' e s' xx ⟨f1,hc,hsp⟩;subst hxe;refine yU7 (X:=inTry C.X (C.X.pn++EA) _) xx hst hfr fun pins' σ' s1 H1 a B a0 s3 J1 J un ea n1 n2 fl tr=>?_;subst ea;have K3:Inv C.X EA σ' H' s3:=Inv.ofTry J;have Km:=Inv.toSuite K3 (.ref a);refine wpAny_handleBy_cons (codeAny_handlers_test ?_) (by intro q;cases q);refine jS (X:=inSuite C.X (.ref a)) Km hg hm ?_ hdb;obtain⟨oe,_,_,_,_,he,⟨hcl,_⟩,_⟩:=id tr;refine yV4 K3.kIn he hcl (hcx c hc) hcb ?_;refine codeAny_handlers_suite ?_;refine lands_againW (base:=B) (l:=C.X.stack) (cls:=.ref (CN.ad c)) (a0:=a0) ⟨fl.stays,fl.newB,fl.frm,tr⟩ fun h4 fly ups=>?_;obtain⟨I4,_,_⟩:=zG1 J1 J un fl fly.1 fly.2.2.1 ups;have K4:Inv C.X EA σ' H' {s3 with heap:=h4}:=Inv.ofTry I4;obtain⟨ts,ps,qs⟩:=hsuite (.ref a);have hOc:∀b,Oc b->H' b≠none:=fun b z=>by obtain⟨o,q⟩:=dC (R.oh b (.inl z));exact wI (f1 b o q fun y=>R.ap b y z)
  have R5:Rel Oc (fun _=>False) C.om C.ln σ' H' (List.replicate ρ.length none):=by have no:∀(i:Nat)(d:D),(List.replicate ρ.length (none:Option D))[i]?=some (some d)->False:=fun i d e=>(by rw[CS]at e;split at e<;>cases e);have hls:σ'.length=ρ.length:=(by rw[K3.len,<-I.len,hln]);exact⟨by rw[Bz,hls],fun i d e h1 h2=>(no i d e).elim,fun i d e h1=>(no i d e).elim,fun i d e h1 h2=>(no i d e).elim,fun i k di dk b ei ek hi hk' _ _=>(no i di ei).elim,fun b z=>hOc b (z.elim id fun z=>z.elim),fun b z=>z.elim⟩
  refine wpAny_mono (ps EA _ _ _ E (Inv.toSuite K4 (.ref a)) (qs Oc (fun _=>False) _ _ _ _ R5 ?_)) (fun f s6 h6=>?_) fun _ _ z=>z.elim;exact Res.zP (xN5 hsp) (fun o _ k=>by cases o<;>exact k) fun _ z=>z.elim
  ·cases f with
   |next=>obtain⟨σ6,H6,I6,q6⟩:=h6;exact⟨_,_,Inv.ofSuite K3.ok I6,q6⟩
   |brk=>obtain⟨σ6,H6,I6,q6⟩:=h6;exact⟨_,_,Inv.ofSuite K3.ok I6,q6⟩
   |cont=>obtain⟨σ6,H6,I6,q6⟩:=h6;exact⟨_,_,Inv.ofSuite K3.ok I6,q6⟩
   |ret u=>obtain⟨v,σ6,H6,I6,r6,q6⟩:=h6;exact⟨v,_,_,Inv.ofSuite K3.ok I6,r6,q6⟩
 obtain⟨tb,pb,qb⟩:=hbody _ _ _ br;refine wpAny_mono (pb [] s σ H E (Inv.toTry I _) (qb Oc Ob σ H ρ E R ?_)) (fun f s₁ hs=>?_) fun e s₁ z=>z;unfold sTry0 at hp;cases em:mb ρ with
 |ok o=>rw[em]at hp;exact hp
 |no=>rw[em]at hp;exact hp
 |ex c=>rw[em]at hp;intro H' f1;by_cases hc:caught.contains c=true;simp only[hc,if_true]at hp;exact⟨f1,hc,SPost.step f1 (fun b z=>z.elim) hp⟩;simp only[hc]at hp;exact hp.elim
 ·cases f with
  |next=>exact wpAny_execs_nil (SP.ofTry hs)
  |brk=>exact SP.ofTry (f:=.brk) hs
  |cont=>exact SP.ofTry (f:=.cont) hs
  |ret u=>exact SP.ofTry (f:=.ret u) hs
end L2.L3
namespace L2.L3
open PySem PySem.Spec PyProof.Rows
def underV:List Value->Bool
 |.ref _::r=>underV r
 |.type n::r=>(.type n::r)==[.type "ValueError",.type "Exception",.type "BaseException",.type "object"]
 |_=>false
theorem zM7(self:Value):∀(l:C3),underV l=true->refuseLoop self "__setattr__" l=pure ()/\l.contains (.type "object")=true/\l.isEmpty=false
 |[],e=>by cases e
 |v::r,e=>by
  cases v with
  |ref c=>obtain⟨a,b,_⟩:=zM7 self r e;exact⟨(refuseLoop_ref _ _ _ _).trans a,by rw[BZ,b,Bool.or_true],rfl⟩
  |type n=>have z:=eq_of_beq (show((Value.type n::r)==[.type "ValueError",.type "Exception",.type "BaseException",.type "object"])=true from e);rw[z];exact⟨PySem.F.store_ValueError.passes self,by decide,rfl⟩
  |_=>cases e
structure RowCls(K:KFr)(C:Addr):Prop where
 sa:PySem.W.findIn K (.ref C) "__setattr__"=some (some (.builtin "object.__setattr__"))
 ov:(PySem.W.clsIn K C).any (fun cd=>underV cd.mro&&cd.hasDict)=true
 nr:PySem.W.findIn K (.ref C) "row"=some none
theorem wL3{X:Cx}{A:Around}{e C:Addr}{v:Value}{r:Int}{tv:Tok}{Q:Unit->Shared->Prop}(ev:v=.int r tv)(I:Inv X EA σ H s)(hH:H e=some (.ext (iniP e C)))(f:RowCls X.K C)(h:∀s' d,H d=none->Inv X EA σ (upd (upd H e (.ext (iniE e C d))) d (.ext (Row d r))) s'->Q () s'):wpAny (model X.prog X.w) A (setAttr (.ref e) "row" v) Q E s:=by
 obtain⟨⟨t0,he⟩,_,_⟩:=I.hok e _ hH;obtain⟨cd,hc,ho⟩:=PySem.W.any_some f.ov;rw[AL]at ho;obtain⟨u1,u2,u3⟩:=zM7 (.ref e) _ ho.1;have J:PySem.W.InstAt s.heap e {cls:=.ref C,dict:=none,data:=.fields #[.ref t0,.none,.none,.none,.bool false,.none]} C none:=⟨he,rfl,rfl,trivial⟩;have ty:=J.type (M:=model X.prog X.w);have cl:=PySem.W.looks_clsIn (M:=model X.prog X.w) I.kIn hc;have mr:PySem.W.Looks (model X.prog X.w) s.heap (mroOf (.ref C)) cd.mro:=cl.andThen .now;have no:=PySem.W.looks_findIn (M:=model X.prog X.w) I.kIn f.nr;have inst:PySem.W.Looks (model X.prog X.w) s.heap (isInstance (.ref e) (.type "object")) true:=ty.andThen (PySem.W.looks_mroIn I.kIn (by unfold PySem.W.mroIn;rw[hc,AQ,u3];exact By some u2));have pas:PySem.W.Looks (model X.prog X.w) s.heap (Builtin.ObjectAttr.refuseIfOverridden (.ref e) "__setattr__") ():=by rw[refuse_eq];exact ty.andThen (mr.andThen (.of_pure u1))
 obtain⟨hh,g,d,tk,os⟩:=s;refine PySem.W.set_plain I.kIn J f.sa (codeAny_call_builtin PySem.F.store_object.slot.plain PySem.F.store_object.entry ?_);refine PySem.W.check_slot (M:=model X.prog X.w) (s:=⟨hh,g,d,tk+1,os⟩) (i:="object.__setattr__") (owner:="object") (n:="__setattr__") (self:=.ref e) (rest:=[.str "row" tk,v]) (kw:=[]) PySem.F.store_object.kind PySem.F.store_object.split inst (PySem.F.store_object.args _ _ _) ?_;rw[PySem.W.osa_eq];refine Ai (pas.at (Ai (ty.at (Ai (no.at (Ai (AK ?_)))))));refine Ai (AK (Ai (Ai (wpAny_loadPart he (Ai (cl.at ?_))))));rw[ho.2];have pushed:(hh.push {cls:=.type "dict",data:=.dict #[]}).get? e=some {cls:=.ref C,dict:=none,data:=.fields #[.ref t0,.none,.none,.none,.bool false,.none]}:=by heap_get
 have far:e≠hh.objs.size:=AW (Au he);obtain⟨g1,hg1⟩:∃g1,g1=(hh.push {cls:=.type "dict",data:=.dict #[]}).update e fun o=>{o with dict:=some hh.objs.size}:=⟨_,rfl⟩;have new:g1.get? e=some {cls:=.ref C,dict:=some hh.objs.size,data:=.fields #[.ref t0,.none,.none,.none,.bool false,.none]}:=by rw[hg1];exact Bp _ pushed rfl
 have keep:∀b,b≠e->g1.get? b=(hh.push {cls:=.type "dict",data:=.dict #[]}).get? b:=fun b z=>by rw[hg1];exact AS _ _ (Bv z)
 have bare:g1.Ns1 hh.objs.size fun _=>none:=Heap.Ns1.of_empty ⟨_,#[],_,(keep _ (Bv far)).trans (AO hh rfl),rfl,fun y z=>(Array.not_mem_empty y z).elim,fun _=>rfl⟩;have store:∀{A':Around}{Q':Unit->Shared->Prop}{E':A8}{t':Nat},(∀h' t'',h'.Ns1 hh.objs.size (fun y=>if y="row" then some v else none)/\Heap.SameBut hh.objs.size g1 h'->Q' () ⟨h',g,d,t'',os⟩)->wpAny (model X.prog X.w) A' (nsSet hh.objs.size "row" v) Q' E' ⟨g1,g,d,t',os⟩:=fun z=>wpAny_nsSet1 bare fun h' n sb=>z h' _ ⟨n,sb⟩;refine Ai (wpAny_alloc' (Ai (wpAny_update' pushed (AK ?_))));show wpAny _ _ (Builtin.ObjectAttr.storeInDict hh.objs.size (.str "row" tk) "row" v) _ _ ⟨_,g,d,tk+1,os⟩;rw[<-hg1];refine Ai (AK (Ai (store fun h' t'⟨n,sb⟩=>?_)));obtain⟨od,es,ep,q1,q2,q3⟩:=n.count (PySem.Within.cons "row" v PySem.Within.nil);refine Ai (wpAny_lookBehind q1 (q2▸pastItsLine_dict (As q3 (by decide))) (AK ?_));have told:h'.get? e=some {cls:=.ref C,dict:=some hh.objs.size,data:=.fields #[.ref t0,.none,.none,.none,.bool false,.none]}:=(sb.2 e far).trans new;have J2:Inv X EA σ (upd H e (.ext (iniE e C hh.objs.size))) ⟨h',g,d,t',os⟩:=Inv.write (x:=e) (e:=e) (o:=.ext (iniE e C hh.objs.size)) (h':=h') (t':=t') I (by rw[hH];exact trivial) (.inl rfl) (fun b u nb hb=>by rw[sb.2 b (AW (Au hb)),keep b nb];exact Am _ hb) ⟨_,told⟩ (xB4 ⟨_,told⟩);have nd:H hh.objs.size=none:=zO7 fun o q=>by obtain⟨u,z⟩:=qR (I.hok _ o q);exact absurd (Au z) (CL _)
 have nd2:upd H e (.ext (iniE e C hh.objs.size)) hh.objs.size=none:=by rw[zJ (Bv far)];exact nd
 have gone:∀b ob,hh.get? b=some ob->b≠hh.objs.size:=fun b ob z=>AW (Au z);refine h _ _ nd (J2.track nd2 (Do (As I.ok.above (BL I.lt))) ?_ (fun y z q=>?_) (fun p hp=>?_) (wR9 ⟨tv,ev▸n⟩));obtain⟨mm,⟨o,_,_,q,_⟩,_⟩:=I.loc;exact Bv (gone _ o q);obtain⟨v,o,q',_⟩:=I.cell y z q;exact gone _ o q';exact gone _ _ (I.pin p hp).1
def sRow(K:KFr)(ta tv:TE):TS:=fun D σ H=>tv σ H fun y H1=>ta σ H1 fun x H2=>∃e C r,x=.ref e/\y=.int r/\H2 e=some (.ext (iniP e C))/\RowCls K C/\∀d,H2 d=none->D.nx σ (upd (upd H2 e (.ext (iniE e C d))) d (.ext (Row d r)))
theorem xN9{X:Cx}{o value:Expr}{pos':Pos}{tv:TE}(ha:PE X o ta)(hv:PE X value tv)(hs:swapsWith value (some (.Attribute o "row" pos')) pos.line X.env=pure false):PS X (.Assign [.Attribute o "row" pos'] value pos) (sRow X.K ta tv):=by intro EA s σ H D I h;refine plainObj_wpAny_Assign_Attribute (thn (hv EA s σ H _ I h) fun u s1⟨y,H1,I1,ry,q⟩=>thn (ha EA s1 σ H1 _ I1 q) fun ov s2⟨x,H2,I2,rx,e,C,r,ex,ey,ea,c,q2⟩=>?_) hs;subst ex ey;obtain⟨tk,rfl⟩:=ry;obtain rfl:ov=Value.ref e:=rx;exact wL3 rfl I2 ea c fun s3 d nd I3=>⟨σ,_,I3,q2 d nd⟩
end L2.L3
namespace L2.L3
open PySem PySem.Spec PyProof.Rows
variable [CN]
def ixSD:D->D->Option D
 |.str z,.int i=>if z.length<=sizeLine then(atI z.cps.toList i).map fun c=>.str ⟨#[c]⟩else none
 |_,_=>none
theorem wG2:Pr2 rIxS .cl ixSD:=by
 intro Oc Ob H x y dx dy d Q oh vx vy e k;cases dx with
 |str z=>
  cases dy with
  |int i=>unfold ixSD at e;by_cases h:z.length<=sizeLine;simp only[h,if_true]at e;obtain⟨c,e1,rfl⟩:=Az.mp e;exact⟨z,i,c,vx.str,vy.int,h,e1,k _ H (Same.refl H) (Rep.str _)⟩;simp only[h]at e;cases e
  |_=>cases e
 |_=>cases e
def inSD:D->D->Option Bool
 |.str i,.str j=>some (!(Builtin.Str.occurrences j i 0 j.length 1).isEmpty)
 |_,_=>none
theorem wI9:PrB (fun x y H Q=>∃i j,x=.str i/\y=.str j/\Q (.bl (!(Builtin.Str.occurrences j i 0 j.length 1).isEmpty)) H) inSD:=by
 intro Oc Ob H x y dx dy b Q vx vy e k;cases dx with
 |str i=>
  cases dy with
  |str j=>cases e;exact⟨i,j,vx.str,vy.str,k⟩
  |_=>cases e
 |_=>cases e
def FewT(z:Str)(n:Int):Prop:=0<=n/\n<=1000/\z.length<=1000
instance(z:Str)(n:Int):Decidable (FewT z n):=by unfold FewT;infer_instance
theorem FewT.ok{z:Str}{n:Int}(h:FewT z n):PySem.MulOk z n:=by
 obtain⟨h1,h2,h3⟩:=h;refine⟨by simp;rfl',fun h4 _=>?_,fun h4 _=>?_⟩;have:(z.length:Int)*n<=1000*1000:=El (by rfl') h2 h1 (by rfl');have:=Int.le_ediv_of_mul_le (a:=(z.length:Int)) (b:=2^63-1) (c:=n) (by rfl') (by rfl');rfl';have:z.length*n.toNat<=1000*1000:=DL h3 (by rfl');have l:1000*1000<=sizeLine:=by decide
 exact Ad (DW.mpr (As this l))
def repSD:D->D->Option D
 |.str z,.int i=>if FewT z i then some (.str (Txt.mul z i))else none
 |_,_=>none
theorem xX9{X:Cx}:OpR X (binaryOp .Mult) (fun x y H Q=>∃z i,x=.str z/\y=.int i/\FewT z i/\Q (.str (Txt.mul z i)) H):=by rintro EA s σ H x y v u Q I rx ry ⟨z,i,rfl,rfl,ok,q⟩;obtain⟨t,rfl⟩:=rx;obtain⟨t',rfl⟩:=ry;exact SB.mul ok.ok fun t2 k=>⟨.str _,H,I.tok k,⟨t2,rfl⟩,q⟩
theorem xX2:Pr2 (fun x y H Q=>∃z i,x=.str z/\y=.int i/\FewT z i/\Q (.str (Txt.mul z i)) H) .cl repSD:=by
 intro Oc Ob H x y dx dy d Q oh vx vy e k;cases dx with
 |str z=>
  cases dy with
  |int i=>unfold repSD at e;by_cases h:FewT z i;simp only[h,if_true]at e;cases e;exact⟨z,i,vx.str,vy.int,h,k _ H (Same.refl H) (Rep.str _)⟩;simp only[h]at e;cases e
  |_=>cases e
 |_=>cases e
def ItS(z:Str):It:=⟨fun i _=>∃c,z.cps[i]?=some c,fun i H x H'=>H'=H/\∃c,z.cps[i]?=some c/\x=.str ⟨#[c]⟩,fun i _=>z.cps[i]?=none⟩
theorem xC4{w:World}{K:KFr}(z:Str)(t:Tok)(it:Addr):Turn P w K tg (ItS z) [it] it (fun i h=>h.IsStrIter it "str_ascii_iterator" z t i) where
 mem:=by simp
 obj:=fun i h st b hb=>by
  have e:b=it:=by simpa using hb
  subst e
  obtain⟨o,e,c,d⟩:=st
  exact⟨o,e,fun v z=>by rw[d]at z;cases z⟩
 keep:=fun i h h' st k=>let ⟨o,e,r⟩:=st; ⟨o,k it (by simp) o e,r⟩
 item:=by
  intro X hP hw hK hc i EA s σ H E I hf st ⟨c,hg⟩
  subst hP hw hK
  obtain⟨f0,f1,f2,f3,f4,f5⟩:=hf it (by simp)
  refine wpAny_pyNext_ascii_item st hg fun h' st' sb=>?_
  have I1:Inv X EA σ H {s with heap:=h',toks:=s.toks+1}:=I.turned (fun b o hb e=>(sb.2 b hb).trans e) f0 f1 f3 f4 f5
  obtain⟨o,e,c',d⟩:=id st'
  exact⟨_,rfl,zC6 (s:={s with heap:=h',toks:=s.toks+1}) e c' d (by decide) ⟨.str ⟨#[c]⟩,H,I1,⟨_,rfl⟩,⟨rfl,c,hg,rfl⟩,st',fun b hb=>(hf b hb).1⟩⟩
 done:=by
  intro X hP hw hK hc i EA s σ H E I hf st hg
  subst hP hw hK
  obtain⟨f0,f1,f2,f3,f4,f5⟩:=hf it (by simp)
  exact wpAny_pyNext_ascii_end (I.ok.hd hc) st hg fun h' eb=>⟨rfl,I.turned (t':=s.toks) (fun b o hb e=>eb b o hb e) f0 f1 f3 f4 f5⟩
 self:=fun _ _ _ _ _ st h=>wpAny_pyIter_striter_ascii st h
def signsD:D->Option (D0)
 |.str z=>if z.cps.all (·<128)=true then some (z.cps.toList.map fun c=>.str ⟨#[c]⟩)else none
 |_=>none
def iSt(m:B5):Ev->Res (D0):=fun ρ=>(m ρ).bind fun d=>Res.lft (signsD d)
theorem wE6(h:RE C md e ma):RI C tg e (iSt ma):=by
 obtain⟨t,p,q⟩:=h;refine⟨fun σ H R=>t σ H fun x H1=>∃z,x=.str z/\z.cps.all (·<128)=true/\R (ItS z) H1,fun EA s σ H R I h=>?_,fun Oc Ob σ H ρ W R h=>q Oc Ob σ H ρ _ R (Res.zP (Res.zS h) (fun d _ k v H' s r=>?_) fun _ z=>z)⟩;refine thn (p EA s σ H _ I h) fun v s1⟨x,H1,I1,r1,z,ex,ha,q1⟩=>?_;subst ex;obtain⟨tk,rfl⟩:=r1;refine wpAny_pyIter_ascii ha ?_;refine⟨s1.heap.objs.size,[s1.heap.objs.size],_,_,H1,rfl,I1.kept (t':=s1.toks) fun b o e=>Am _ e,xC4 z tk _,⟨_,AO _ rfl,rfl,rfl⟩,fun b hb=>?_,q1⟩;have e:b=s1.heap.objs.size:=by simpa using hb
 subst e;exact I1.fpOk (Ac _) (I1.hok.fresh (Ac _));obtain⟨ds,e,k⟩:=Res.zG k;cases d with
 |str z=>
  unfold signsD at e;by_cases ha:z.cps.all (·<128)=true;simp only[ha,if_true]at e;cases e;refine⟨z,(r.va R.oh).str,ha,k _ H' s ?_⟩;intro H2 Ob2 f s i;refine⟨fun d e=>?_,fun h=>?_⟩;rw[Al]at e;obtain⟨c,e1,rfl⟩:=Az.mp e;have e1:z.cps[i]?=some c:=by rw[<-Dj];exact e1
  refine⟨⟨c,e1⟩,fun x H3 hy=>?_⟩;obtain⟨rfl,c',e2,rfl⟩:=hy;rw[e1]at e2;cases e2;exact⟨Same.refl _,.str _⟩;show z.cps[i]?=none;rw[<-Dj];exact Cj (by simpa using h);simp only[ha]at e;cases e
 |_=>cases e
section
variable {X:Cx}{CX:CXT}{k:Nat}{f:Addr}{fd:FuncData}{ps:C4}{sp:Sp}{dvs:C8}{ds:C3}{E:XK}{x:Str}{p pos:Pos}{e:Expr}{es:C7}{t:TA}
end
theorem yE4{K:KFr}{a:Addr}(h1:(PySem.W.clsIn K a).isSome=true)(h2:PySem.W.typeIn K (.ref a)=some (.type "type"))(h3:PySem.W.subIn K (.ref a) (.ref a)=some true):PySem.W.kitCls K (.ref a) (.ref a)=some true:=by rw[PySem.W.kitCls,Ae (by rw[h1,h2];decide+kernel)];exact h3
end L2.L3
namespace L2.L3
open PySem PySem.Spec PyProof.Rows
theorem yD9{K:KFr}{B:Addr}{nid:String}(q:PySem.W.excIn K B bmV nid=true):PySem.W.tailIn K bmV (.ref B::bmV)=true:=by
 have base:PySem.W.tailIn K bmV bmV=true:=by unfold PySem.W.tailIn;rw[beq_self_eq_true,Bool.true_or]
 unfold PySem.W.tailIn;rw[PySem.W.excIn]at q;refine Bool.or_eq_true_iff.mpr (.inr ?_);split at q
 case h_2=>cases q
 case h_1 lk=>
  split at q
  case h_2=>cases q
  case h_1=>rw[AL,AL]at q;simp only[lk];rw[q.1.2,q.2,base];rfl
theorem wN5{K:KFr}{C B N:Addr}{q:Str}{bs:C3}{hdct:Bool}{sn:C4}{sub:C3}{ab:Bool}{col:Option Bool}{dd:Option Addr}{k0 k1 k2 k3 k5:Option Value}(h:K.lookup C=some (excClassObj nm q C N bs (.ref B::bmV) hdct sn sub ab col dd k0 k1 k2 k3 k5 "ValueError.__new__"))(hb:PySem.W.excIn K B bmV "ValueError.__new__"=true):ExIn K C bmV "ValueError.__new__":=⟨N,_,nm,q,bs,hdct,sn,sub,ab,col,dd,k0,k1,k2,k3,k5,h,yD9 hb⟩
theorem xK2{K:KFr}{C:Addr}{cd:ClassData}(sa:PySem.W.findIn K (.ref C) "__setattr__"=some (some (.builtin "object.__setattr__")))(hc:PySem.W.clsIn K C=some cd)(ho:(underV cd.mro&&cd.hasDict)=true)(nr:PySem.W.findIn K (.ref C) "row"=some none):RowCls K C:=⟨sa,by rw[hc];exact ho,nr⟩
def BtFi(K:KFr)(C:Addr)(st:Stmt):Prop:=∃fI fd,PySem.W.findIn K (.ref C) "__init__"=some (some (.ref fI))/\PySem.W.isFn K (.ref fI)=true/\Fun K "__init__" "BadText.__init__" st fI fd/\Binds K fd ["self","row"] []
theorem wP3{K:KFr}{C f:Addr}{st:Stmt}{an:Option Addr}{osl:Array (Option Value)}{kV ct:Value}(hi:PySem.W.findIn K (.ref C) "__init__"=some (some (.ref f)))(hf:PySem.W.isFn K (.ref f)=true)(l:K.lookup f=some ⟨oc,od,.func (PySem.W.fnOf "__init__" "BadText.__init__" (defArgs st) (defBody st) (zH st) .none kV doc pm an cdv ct),osl⟩)(c:PySem.W.codeIn K cdv "BadText.__init__"=true)(k:PySem.W.keepIn K (.ref f)=true)(hb:∀(kV doc pm:Value)(an:Option Addr)(cdv ct:Value)(us:C3),us.length=2->bindArgs (PySem.W.fnOf "__init__" "BadText.__init__" (defArgs st) (defBody st) (zH st) .none kV doc pm an cdv ct) ⟨us,[]⟩=pure ((["self","row"]:C4).zip us)):BtFi K C st:=
 have F:=xN1 (st:=st) l c k
 ⟨f,_,hi,hf,F,F.binds hb⟩
structure NmK(K:KFr)(x:Str)(a:Addr):Prop where
 n:PySem.W.nsIn K mainGlobals x=some (some (.ref a))
structure Ex6(K:KFr)(a:Addr):Prop where
 g1:PySem.W.findIn K (.ref a) "__getattribute__"=some (some (.builtin "BaseException.__getattribute__"))
 g2:PySem.W.findIn K (.ref a) "__getattr__"=some none
 g3:PySem.W.findIn K (.ref a) "__class__"=some (some (.builtin "object.__class__"))
 g4:PySem.W.kitOne K (.ref a) (.type "BaseException")=some true
 g5:PySem.W.kitOne K (.ref a) (.type "object")=some true
 g6:(PySem.W.clsIn K a).isSome=true
theorem wK6[CN]{x:Str}(h:(Value.ref (CN.ad x)==u)=false):∀c:Str,([x]:C4).contains c=true->Value.ref (CN.ad c)≠u:=fun c hc z=>by rw[Bk.mp (AV.mp hc)]at z;rw[z,beq_self_eq_true]at h;cases h
section
abbrev dicD(kvs:List (Str×Int)):D:=.dict [(.tuple [],.list (kvs.map dkD))]
def dicL:D->Option (D0)
 |.dict [(.tuple [],.list es)]=>some es
 |_=>none
theorem xJ3{d:D}{es:D0}(h:dicL d=some es):d=.dict [(.tuple [],.list es)]:=by unfold dicL at h;split at h;cases h;rfl;cases h
def lookD:List D->Str->Option Int
 |.tuple [.str x,.int v]::es,k=>if x=k then some v else lookD es k
 |_,_=>none
def gtD(es:D0):D->D->Option D
 |.str k,.int d=>some (.int ((lookD es k).getD d))
 |_,_=>none
theorem xC2{es:D0}{y z d:D}(h:gtD es y z=some d):∃k i,y=.str k/\z=.int i/\d=.int ((lookD es k).getD i):=by unfold gtD at h;split at h;cases h;exact⟨_,_,rfl,rfl,rfl⟩;cases h
theorem zX1(k:Str):∀kvs:List (Str×Int),valV (dkV kvs) (Sum.inr k)=(lookD (kvs.map dkD) k).map V.int
 |[]=>rfl
 |(x,v)::kvs=>by show valV ((Sum.inr x,V.int v)::dkV kvs) (Sum.inr k)=(if x=k then some v else lookD (kvs.map dkD) k).map V.int;by_cases e:x=k;rw[vY (by rw[e]),Ae e];rfl;rw[wC (fun z=>e (Er z)),An e,zX1 k kvs]
variable [CN]
theorem VA.dic{Oc:Wd}{Ob:C2}{H:Hp}{v:V}{es:D0}(h:VA Oc Ob H v (.dict [(.tuple [],.list es)])):∃a kvs,v=.ref a/\Rd H a (.dK (dkV kvs))/\es=kvs.map dkD:=by
 rcases h with h|⟨a,ys,ds,rfl,e,e3,e5⟩;cases h with
 |dic r n=>exact⟨_,_,rfl,r,rfl⟩
 cases e
def eGt(mo me mf:B5):B5:=fun ρ=>(mo ρ).bind fun x=>(Res.lft (dicL x)).bind fun es=>(me ρ).bind fun y=>(mf ρ).bind fun z=>Res.lft (gtD es y z)
omit [CN] in
theorem wJ3(mo me mf:B5)(ρ:Ev):eGt mo me mf ρ=(mo ρ).bind fun x=>(Res.lft (dicL x)).bind fun es=>(me ρ).bind fun y=>(mf ρ).bind fun z=>Res.lft (gtD es y z):=rfl
theorem wH3{o f:Expr}{mdo mde mdf:Md}{mo mf:B5}(hu:C.X.A.units+1<cLine)(ho:RE C mdo o mo)(he:RE C mde e me)(hf:RE C mdf f mf)(m:M2 C.X o "get" apos e f cpos):RE C .cl (.Call (.Attribute o "get" apos) [e,f] [] cpos) (eGt mo me mf):=by
 obtain⟨t1,p1,q1⟩:=ho;obtain⟨t2,p2,q2⟩:=he;obtain⟨t3,p3,q3⟩:=hf;refine⟨_,xD7 hu p1 p2 p3 m,fun Oc Ob σ H ρ Q R h=>?_⟩;refine q1 Oc Ob σ H ρ _ R (Res.zP (Res.zS h) (fun dx _ q x H1 s1 vx=>?_) fun _ z=>z);obtain⟨es,e1,q⟩:=Res.zG (Res.zS q);obtain rfl:=xJ3 e1;obtain⟨a,kvs,rfl,rd,rfl⟩:=(vx.va R.oh).dic;refine⟨a,rfl,.inl ⟨_,rd⟩,q2 Oc Ob σ H1 ρ _ (R.same s1) (Res.zP (Res.zS q) (fun dy _ q y H2 s2 vy=>?_) fun c z H' s'=>z H' (s1.trans s'))⟩;refine q3 Oc Ob σ H2 ρ _ ((R.same s1).same s2) (Res.zP (Res.zS q) (fun dz _ q z H3 s3 vz=>?_) fun c z H' s'=>z H' ((s1.trans s2).trans s'));obtain⟨d,e,q⟩:=Res.zG q;have vy:=vy.va (R.same s1).oh;have vz:=vz.va ((R.same s1).same s2).oh;obtain⟨k,i,rfl,rfl,rfl⟩:=xC2 e;obtain rfl:=vy.str;obtain rfl:=vz.int;refine⟨_,.inl ⟨_,Sum.inr k,jX rd fun o e=>s3 _ _ (s2 _ _ e),rfl,rfl⟩,?_⟩;rw[zX1];have:((lookD (kvs.map dkD) k).map V.int).getD (V.int i)=V.int ((lookD (kvs.map dkD) k).getD i):=by cases lookD (kvs.map dkD) k<;>rfl
 rw[this];exact q _ H3 ((s1.trans s2).trans s3) (Rep.int _)
end
section
def fcN:Nat->Nat
 |0=>1
 |n+1=>fcN n*(n+1)
def putS(kvs:List (Str×Int))(k:Str)(v:Int):List (Str×Int):=if (kvs.any fun p=>decide (p.1=k))=true then kvs.map (fun p=>if p.1=k then(p.1,v)else p)else kvs++[(k,v)]
theorem xY9(kvs:List (Str×Int))(k:Str)(v:Int):dkV (putS kvs k v)=putK (dkV kvs) (Sum.inr k) (.int v):=by
 have e:((dkV kvs).any fun kv=>decide (kv.1=Sum.inr k))=kvs.any fun p=>decide (p.1=k):=by unfold dkV;rw[List.any_map];congr 1;funext p;show decide ((Sum.inr p.1:Key)=Sum.inr k)=decide (p.1=k);by_cases c:p.1=k;rw[Ab c,Ab (By Sum.inr c)];rw[Ad c,Ad fun z=>c (Er z)]
 unfold putS putK;rw[e];split;unfold dkV;rw[Ar,Ar];refine Bb fun p _=>?_;show(Sum.inr (if p.1=k then(p.1,v)else p).1,V.int (if p.1=k then(p.1,v)else p).2)=if (Sum.inr p.1:Key)=Sum.inr k then(Sum.inr p.1,V.int v)else(Sum.inr p.1,V.int p.2);by_cases c:p.1=k;rw[Ae c,Ae (By Sum.inr c)];rw[An c,An fun z=>c (Er z)];unfold dkV;rw[AJ];rfl
theorem wV5(kvs:List (Str×Int))(k j:Str)(v:Int):lookD ((putS kvs k v).map dkD) j=if j=k then some v else lookD (kvs.map dkD) j:=by
 have h:=wZ5 (dkV kvs) (Sum.inr k:Key) (Sum.inr j) (.int v);rw[<-xY9,zX1,zX1]at h;have inj:∀a b:Option Int,a.map V.int=b.map V.int->a=b:=fun a b z=>by cases a<;>cases b;rfl;cases z;cases z;injection z with z;injection z with z;rw[z]
 refine inj _ _ (h.trans ?_);by_cases c:j=k;rw[Ae c,Ae (By Sum.inr c)];rfl;rw[An c,An fun z=>c (Er z)]
def knI(f:Nat->Nat->Str)(m:Nat)(kvs:List (Str×Int)):Nat->List (Str×Int)
 |0=>kvs
 |j+1=>putS (knI f m kvs j) (f m j) (m:Int)
def knO(f:Nat->Nat->Str):Nat->List (Str×Int)
 |0=>[]
 |m+1=>knI f (m+1) (knO f m) (fcN (m+1))
theorem xB3(kvs:List (Str×Int))(k:Str)(v:Int):(putS kvs k v).length<=kvs.length+1:=by unfold putS;split;rw[Aa];rfl';rw[Aj];exact Ac _
theorem yZ2(f:Nat->Nat->Str)(m:Nat)(kvs:List (Str×Int)):∀j,(knI f m kvs j).length<=kvs.length+j
 |0=>Ac _
 |j+1=>As (xB3 ..) (by have:=yZ2 f m kvs j;rfl')
theorem yK3{m:Nat}(h:m<=5):fcN m<=120:=by
 have:∀m,m<6->fcN m<=120:=by decide
 exact this m (by rfl')
theorem xZ4(f:Nat->Nat->Str):∀{m:Nat},m<=5->(knO f m).length<=120*m
 |0,_=>Ac _
 |m+1,h=>by have a:=yZ2 f (m+1) (knO f m) (fcN (m+1));have b:=xZ4 f (m:=m) (by rfl');have c:=yK3 h;show(knI f (m+1) (knO f m) (fcN (m+1))).length<=_;rfl'
theorem xW5{f g:Nat->Nat->Str}{m:Nat}{kvs:List (Str×Int)}:∀{j:Nat},(∀i,i<j->f m i=g m i)->knI f m kvs j=knI g m kvs j
 |0,_=>rfl
 |j+1,h=>by show putS (knI f m kvs j) (f m j) m=putS (knI g m kvs j) (g m j) m;rw[xW5 fun i hi=>h i (by rfl'),h j (by rfl')]
theorem xX7{f g:Nat->Nat->Str}:∀{k:Nat},(∀m i,m<k->i<fcN (m+1)->f (m+1) i=g (m+1) i)->knO f k=knO g k
 |0,_=>rfl
 |k+1,h=>by show knI f (k+1) (knO f k) _=knI g (k+1) (knO g k) _;rw[xX7 fun m i hm hi=>h m i (by rfl') hi,xW5 fun i hi=>h k i (by rfl') hi]
def KnOk(Fo Ft:B8)(f:Nat->Nat->Str):Prop:=∀m i:Nat,m<5->i<fcN (m+1)->∃d,Fo [.int (i:Int),.int ((m+1:Nat):Int)]=.ok d/\Ft [d]=.ok (.str (f (m+1) i))
open Classical in
def knF(Fo Ft:B8):B8
 |[]=>if h:∃f,KnOk Fo Ft f then .ok (dicD (knO (Classical.choose h) 5))else .no
 |_=>.no
theorem wB3{f:Nat->Nat->Str}(h:KnOk Fo Ft f):knF Fo Ft []=.ok (dicD (knO f 5)):=by
 have hx:∃f,KnOk Fo Ft f:=⟨f,h⟩;have e:knO (Classical.choose hx) 5=knO f 5:=xX7 fun m i hm hi=>by obtain⟨d,a,b⟩:=h m i hm hi;obtain⟨d',a',b'⟩:=AN hx m i hm hi;rw[a]at a';cases a';rw[b]at b';injection b' with b';injection b' with b';exact b'.symm
 unfold knF;rw[dif_pos hx,e]
theorem xF9{Q:D->Prop}{R:Str->Prop}(h:(knF Fo Ft ds).post Q R):ds=[]/\∃f,KnOk Fo Ft f/\Q (dicD (knO f 5)):=by unfold knF at h;split at h;split at h;rename_i c;exact⟨rfl,_,AN c,h⟩;exact h.elim;exact h.elim
variable [CN]
def tKnI(Fo Ft:B8):TS:=sDPut (tVar 0) (tCall (spX false Ft) [] E0 (qS (tCall (spX false Fo) [] E0 (qS (tVar 3) (qS (tVar 2) tNil))) tNil)) (tVar 2)
def tKn(Fo Ft:B8):TS:=tSeq (tAsg tDNewK (gName 0)) (tSeq (tAsg (tC (.int 1)) (gName 1)) (tSeq (tFor (iRng2 (qS (tC (.int 1)) (qS (tC (.int 6)) tNil))) (gName 2) (tSeq (tAsg (tOp (rI CMul fun i j=>.int (i*j)) (tVar 1) (tVar 2)) (gName 1)) (tFor (iRng1 (qS (tVar 1) tNil)) (gName 3) (tKnI Fo Ft)))) (tRet (tVar 0))))
structure KnAt(H0:Hp)(am:Addr)(kvs:List (Str×Int))(H:Hp):Prop where
 same:Same H0 H
 dic:H am=some (.dK (dkV kvs))
theorem wB2{f:Nat->Nat->Str}(K:KnOk Fo Ft f){am:Addr}(h0:H0 am=none){m i:Nat}(hm:m<5)(hi:i<fcN (m+1)){kvs:List (Str×Int)}(hl:kvs.length<=900)(A:KnAt H0 am kvs H){E:Ends}{u1:V}(k:∀H',KnAt H0 am (putS kvs (f (m+1) i) ((m+1:Nat):Int)) H'->E.nx [some (.ref am),some u1,some (.int ((m+1:Nat):Int)),some (.int (i:Int))] H'):tKnI Fo Ft E [some (.ref am),some u1,some (.int ((m+1:Nat):Int)),some (.int (i:Int))] H:=by obtain⟨d,e1,e2⟩:=K m i hm hi;refine⟨_,rfl,_,rfl,_,rfl,_,rfl,[.int (i:Int),.int ((m+1:Nat):Int)],fun _=>False,fun _ z=>z.elim,.cons (.int _) (.cons (.int _) .nil),?_⟩;rw[e1];intro v H1 s1 c1;refine⟨[d],fun _=>False,fun _ z=>z.elim,.cons c1 .nil,?_⟩;rw[e2];intro v2 H2 s2 c2;cases c2;have dm:=s2 _ _ (s1 _ _ A.dic);refine⟨am,_,rfl,DPut.k (k:=Sum.inr (f (m+1) i)) dm (by have:(900:Nat)<sizeLine:=(by decide);show(dkV kvs).length<_;unfold dkV;rw[Aa];rfl'),?_⟩;rw[<-xY9];refine k _ ⟨fun b o e=>?_,yU⟩;rw[zJ (fun z=>by rw[z,h0]at e;cases e)];exact s2 _ _ (s1 _ _ (A.same _ _ e))
theorem wL9{f:Nat->Nat->Str}(K:KnOk Fo Ft f){E:Ends}(k:∀H' am,H0 am=none->KnAt H0 am (knO f 5) H'->E.rt (.ref am) H'):tKn Fo Ft E [none,none,none,none] H0:=by
 intro am h0;refine⟨1,6,rfl,by decide,?_⟩;show ∃W,_;refine zS3 (n:=5) (fun m σ H=>∃x y,σ=[some (.ref am),some (.int ((fcN m:Nat):Int)),x,y]/\KnAt H0 am (knO f m) H) ⟨none,none,rfl,Same.new h0,yU⟩ ?_ ?_;rintro m σ H hm ⟨x,y,rfl,A⟩;have em:(1:Int)+(m:Int)=((m+1:Nat):Int):=by rfl'
 rw[em];have fl:=yK3 (show m+1<=5 by rfl');have fm:=yK3 (show m<=5 by rfl');have ew:((fcN m:Nat):Int)*((m+1:Nat):Int)=((fcN (m+1):Nat):Int):=by show _=((fcN m*(m+1):Nat):Int);rw[CH]
 refine⟨_,rfl,_,rfl,_,_,rfl,rfl,.inl ⟨by rfl',by rfl'⟩,?_⟩;show(tFor (iRng1 (qS (tVar 1) tNil)) (gName 3) (tKnI Fo Ft)) _ [some (.ref am),some (.int (((fcN m:Nat):Int)*((m+1:Nat):Int))),some (.int ((m+1:Nat):Int)),y] H;rw[ew];refine⟨_,rfl,_,rfl,by rfl',by rfl',?_⟩;rw[AX];refine zS3 (n:=fcN (m+1)) (fun i σ H=>∃y,σ=[some (.ref am),some (.int ((fcN (m+1):Nat):Int)),some (.int ((m+1:Nat):Int)),y]/\KnAt H0 am (knI f (m+1) (knO f m) i) H) ⟨_,rfl,A⟩ ?_ ?_;rintro i σ H hi ⟨y,rfl,A⟩;rw[Int.zero_add];refine wB2 K h0 hm hi ?_ A fun H' A'=>⟨_,rfl,A'⟩;have a:=yZ2 f (m+1) (knO f m) i;have b:=xZ4 f (show m<=5 by rfl');rfl';rintro σ H ⟨y,rfl,A⟩;exact⟨_,_,rfl,A⟩;rintro σ H ⟨x,y,rfl,A⟩;exact⟨_,rfl,k H am h0 A⟩
end
section
variable [CN]{P:Program}{w:World}{K:KFr}{mg:B9}{base:Heap}
theorem vX6{x:Str}{st:Stmt}{f:Addr}{fd:FuncData}{N:C4}{k:Nat}(Fo Ft:B8)(F:Fun K x x st f fd)(S:vK N ps (zH st))(hp:ps.length=0)(hN:N.length=4)(hbody:∀(cdv:Value)(A:Around)(outer:List Env)(s:Shared)(H:Hp)(E:XK),Room k (A.deeper (envOfC x (zH st) s.heap.objs.size f cdv))->PSs (bodyX P w K mg base N x (zH st) f cdv A outer s H E []).X (defBody st) (tKn Fo Ft)):FnOk P w K mg base (CXV P w) (k+1) f fd ps (spX false (knF Fo Ft)):=by
 have len:∀(vs:C8)(H:Hp)(Q:VK)(E:XK),spX false (knF Fo Ft) vs H Q E->vs.length=ps.length:=fun vs H Q E h=>by obtain⟨ds,O,oh,r,k⟩:=h;obtain⟨rfl,_⟩:=xF9 k;rw[r.length,hp];rfl
 obtain⟨oc,od,kV,doc,pm,an,cdv,ct,osl,rfl,lk,hcd⟩:=F.ex;refine yQ2 lk hcd S len fun A outer s H vs Q E hr h=>?_;obtain⟨ds,O,oh,r,k⟩:=h;obtain⟨rfl,g,G,k⟩:=xF9 k;refine⟨_,hbody cdv A outer s H E hr,?_⟩;cases r;have st:start N []=[none,none,none,none]:=by unfold start;rw[hN];rfl
 rw[st];exact wL9 G fun H' am h0 A=>k _ H' A.same (.dic (.inl A.dic) fun z=>oh am z h0)
theorem passE{X:Cx}:Passes (CXV X.prog X.w) X E0:=fun EA σ H s e s' I h=>by obtain⟨_,_,_,_,_,_,_,_,_,_,_,_,_,_,z⟩:=h;exact z.elim
end
section
variable [CN]
def eF0(F:B8):B5:=fun _=>F []
omit [CN] in
theorem wJ4(F:B8)(ρ:Ev):eF0 F ρ=F []:=rfl
theorem xL5{k:Nat}{f:Addr}{fd:FuncData}{F:B8}{x:Str}{p:Pos}{st:Stmt}(G:FnOk C.X.prog C.X.w C.X.K C.X.mg C.X.base (CXV C.X.prog C.X.w) k f fd ps (spX false F))(hh:Has C.X.K C.X.mg x st f fd ps)(hr:Room k C.X.A)(hb:Br C)(hg:autoParam (Gl C.X x) Ey)(hdb:autoParam ((x==("__debug__":Str))=false) Ex):RE C .cl (.Call (.Name x p) [] [] pos) (eF0 F):=by refine⟨_,wX6 G hr hg hh.m hh.F.kp hh.b .nil (passX hb) hdb,fun Oc Ob σ H ρ Q R h=>?_⟩;show spX false F ([]++[]) H Q (wX C);exact⟨[],Uni Oc Ob,R.oh,.nil,Res.zP h (fun d _ k v H' s2 rv=>k v H' s2 rv) fun c z H' s2=>⟨c,rfl,rfl,z H' s2⟩⟩
end
end L2.L3
namespace L2.L3
open PySem PySem.Spec PyProof.Rows
variable [CN]
def iEnumL(K:KFr)(t:TA):TI:=fun σ H R=>t σ H fun vs H1=>∃a,vs=[.ref a]/\(∃xs,SqL K H1 a xs)/\R (Ite K a) H1
omit [CN] in
theorem wY7{X:Cx}{l:Expr}{ta:TA}{x1:Nat}{p:Pos}(hg:Gl X "enumerate")(hm:X.mg "enumerate"=none)(ha:PA X [l] ta)(hs:autoParam (starEach [l] X.env=[(false,eval l X.env)]) Ey):PI X (.Tuple es x1 tp) (.Call (.Name "enumerate" p) [l] [] pos) (iEnumL X.K ta):=by
 intro EA s σ H R I h;refine Call_ (aE I hg hm boot_enumerate (Ce (thn (ha pos EA s σ H _ I h) fun us s1⟨vs,H1,I1,r1,a,e,⟨xs,hq⟩,q⟩=>?_) hs rfl));subst e;obtain⟨u,rfl,ru⟩:=vals1 r1;cases ru;obtain⟨its,rv,pl,hz⟩:=I1.list hq;refine call_enumerate_list pl.isList fun h' he hit hsz hk=>?_;refine wpAny_pyIter_enum he ?_;refine⟨s1.heap.objs.size+1,[s1.heap.objs.size+1,s1.heap.objs.size],_,_,H1,rfl,I1.kept (t':=s1.toks) hk,xF7 a (s1.heap.objs.size+1) s1.heap.objs.size (Nat.succ_ne_self _),⟨⟨_,he⟩,hit⟩,fun b hb=>?_,q⟩;have z:b=s1.heap.objs.size+1\/b=s1.heap.objs.size:=by simpa using hb
 rcases z with rfl|rfl;exact I1.fpOk (by rfl') (I1.hok.fresh (by rfl'));exact I1.fpOk (Ac _) (I1.hok.fresh (Ac _))
def zZ9(m:B5):Ev->Res (D0):=fun ρ=>(m ρ).bind fun d=>(Res.lft (lstD d)).bind fun ds=>.ok (enumD ds)
omit [CN] in
theorem xT2(m:B5)(ρ:Ev):zZ9 m ρ=(m ρ).bind fun d=>(Res.lft (lstD d)).bind fun ds=>.ok (enumD ds):=rfl
theorem yM1{x1:Nat}{p:Pos}(hm:C.X.mg "enumerate"=none)(h:RE C .rd e ma)(hg:autoParam (Gl C.X "enumerate") Ey)(hs:autoParam (starEach [e] C.X.env=[(false,eval e C.X.env)]) Ey)(hs2:autoParam (starEach [e] C.X.env=(false,eval e C.X.env)::starEach [] C.X.env) Ey):RIo C (.Tuple es x1 tp) (.Call (.Name "enumerate" p) [e] [] pos) (zZ9 ma):=by
 obtain⟨t,pe,q⟩:=h;refine⟨_,wY7 hg hm (yF pe xP hs2) hs,fun Oc Ob σ H ρ W R h=>q Oc Ob σ H ρ _ R (Res.zP (Res.zS h) (fun d _ k v H' s r=>?_) fun _ z=>z)⟩;obtain⟨ds,e,k⟩:=Res.zG (Res.zS k);rcases r with r|⟨a,ys,ds',rfl,rfl,e3,e4,e5⟩;cases r with
 |lst r n t=>cases e;exact⟨_,rfl,⟨_,.inl r⟩,k _ H' s (zF4 r (fun z=>n (.inr z)) t)⟩
 |_=>cases e
 cases e;exact⟨_,rfl,⟨_,SqL.of e3⟩,k _ H' s (zF4 (.inl e3) e4 e5)⟩
end L2.L3
namespace MR
def rg(n:Nat):C6:=(List.range n).map fun(i:Nat)=>(i:Int)
theorem xK9(n:Nat):(rg n).length=n:=by unfold rg;simp
theorem xG2{n:Nat}{a:Int}:a∈rg n↔0<=a/\a<n:=by unfold rg;simp only[Ay,AH];constructor;rintro⟨i,hi,rfl⟩;rfl';intro h;exact⟨a.toNat,by rfl',by rfl'⟩
theorem wT1(n:Nat):(rg n).Pairwise (· < ·):=by unfold rg;rw[DK];exact List.Pairwise.imp (fun h=>by rfl') (Df (n:=n))
theorem yN1(n:Nat):(rg n).Nodup:=(wT1 n).imp fun h=>by rfl'
theorem vY5(n:Nat):(rg n).Pairwise (· <= ·):=(wT1 n).imp fun h=>by rfl'
theorem zN8{a b:C6}(p:a.Perm b)(ha:a.Pairwise (· <= ·))(hb:b.Pairwise (· <= ·)):a=b:=p.eq_of_pairwise (fun x y _ _ h1 h2=>by rfl') ha hb
theorem xU6{xs:C6}(h:xs.Nodup){i j:Nat}(hi:i<xs.length)(hj:j<xs.length)(e:xs.getD i 0=xs.getD j 0):i=j:=by rw[Ax,Ag hi,Ax,Ag hj]at e;have e:xs[i]=xs[j]:=e;rcases Dl i j with q|q|q;exact absurd e (Ci.mp h i j hi hj q);exact q;exact absurd e.symm (Ci.mp h j i hj hi q)
theorem getD_mem{xs:C6}{i:Nat}(h:i<xs.length):xs.getD i 0∈xs:=by rw[List.getD,Ag h];exact CV h
theorem zM1{n:Nat}{xs:C6}(p:xs.Perm (rg n)):Ord n xs:=by
 have hl:xs.length=n:=by rw[p.length_eq,xK9]
 have nd:xs.Nodup:=p.nodup_iff.mpr (yN1 n);exact⟨hl,fun i hi=>xG2.mp (p.mem_iff.mp (getD_mem (by rfl'))),fun i j hi hj e=>xU6 nd (by rfl') (by rfl') e⟩
theorem onto{n:Nat}{f:Nat->Nat}(h:∀i,i<n->f i<n)(hi:∀i j,i<n->j<n->f i=f j->i=j){c:Nat}(hc:c<n):∃i,i<n/\f i=c:=by
 refine Classical.byContradiction fun no=>?_;obtain⟨i,j,h1,h2,e⟩:=pigeon n (fun i=>if i=n then c else f i) fun i hi'=>by show(if i=n then c else f i)<n;split;exact hc;exact h i (by rfl')
 have e:(if i=n then c else f i)=(if j=n then c else f j):=e;rw[An (show i≠n by rfl')]at e;by_cases q:j=n;rw[Ae q]at e;exact no ⟨i,by rfl',e⟩;rw[An q]at e;have:=hi i j (by rfl') (by rfl') e;rfl'
def insAt(xs:C6)(i:Nat)(v:Int):C6:=xs.take i++v::xs.drop i
theorem xU5(xs:C6)(i:Nat)(v:Int):(insAt xs i v).Perm (v::xs):=by
 unfold insAt;have:=List.perm_middle (a:=v) (l₁:=xs.take i) (l₂:=xs.drop i)
 rwa [BA]at this
def lawOrd(cell:Int):Nat->List Int×Int
 |0=>([],cell)
 |k+1=>(insAt (lawOrd cell k).1 ((lawOrd cell k).2%((k:Int)+1)).toNat k,(lawOrd cell k).2/((k:Int)+1))
theorem wL1(n:Nat):rg (n+1)=rg n++[(n:Int)]:=by unfold rg;rw[DC,AJ];rfl
theorem zN6(cell:Int):∀k,(lawOrd cell k).1.Perm (rg k)
 |0=>List.Perm.refl _
 |k+1=>by rw[wL1];refine(xU5 _ _ _).trans ?_;refine((zN6 cell k).cons _).trans ?_;exact(List.perm_append_singleton _ _).symm
theorem hZ(cell:Int)(n:Nat):Ord n (lawOrd cell n).1:=zM1 (zN6 cell n)
def ofN(n:Nat)(f:Nat->Nat):C6:=(List.range n).map fun(b:Nat)=>((f b:Nat):Int)
theorem xR7(n:Nat)(f:Nat->Nat):(ofN n f).length=n:=by unfold ofN;simp
theorem wK1{n:Nat}{f:Nat->Nat}{b:Nat}(h:b<n):(ofN n f).getD b 0=(f b:Int):=by unfold ofN;simp[List.getD,h]
theorem wN6{n:Nat}{f:Nat->Nat}(h:∀b,b<n->f b<n)(i:∀b c,b<n->c<n->f b=f c->b=c):Ord n (ofN n f):=by
 refine zM1 ?_;have nd:(ofN n f).Nodup:=by unfold ofN;rw[List.nodup_iff_pairwise_ne,DK];refine List.Pairwise.imp_of_mem ?_ (Cd (n:=n));intro a b ha hb ne e;exact ne (i a b (AH.mp ha) (AH.mp hb) (by rfl'))
 rw[Cw nd (yN1 n)];intro a;rw[xG2];unfold ofN;rw[Ay];constructor;rintro⟨b,hb,rfl⟩;have:=h b (AH.mp hb);rfl';rintro⟨h1,h2⟩;obtain⟨b,hb,e⟩:=onto (n:=n) (f:=f) h i (c:=a.toNat) (by rfl');exact⟨b,AH.mpr hb,by rfl'⟩
end MR
namespace M12
def ff(n:Int):Nat->Int
 |0=>1
 |j+1=>ff n j*(n-j)
def tot(least:Int)(many:C6):Nat->Int
 |0=>0
 |j+1=>if least<=(j:Int)+1 then tot least many j+ff ((many.length:Int)-1) j*many.getD (many.length-(j+1)) 0 else tot least many j
def mbl(least most:Int):Nat->C6
 |0=>[1]
 |n+1=>mbl least most n++[tot least (mbl least most n) (min most ((n:Int)+1)).toNat]
theorem xV(least most:Int):∀n,(mbl least most n).length=n+1
 |0=>rfl
 |n+1=>by rw[mbl,Aj,xV least most n];rfl
theorem xY3(least most:Int):∀(n i:Nat),i<=n->(mbl least most n).getD i 0=(mbl least most i).getD i 0
 |0,i,h=>by
  have:i=0:=by rfl'
  subst this;rfl
 |n+1,i,h=>by by_cases e:i=n+1;subst e;rfl;have l:=xV least most n;rw[mbl,Ax,Ch (by rfl'),<-Ax];exact xY3 least most n i (by rfl')
def G(least most:Int)(n:Nat):Int:=(mbl least most n).getD n 0
theorem wM(least most:Int)(n i:Nat)(h:i<=n):(mbl least most n).getD i 0=G least most i:=xY3 least most n i h
def totG(least:Int)(A:Nat->Int)(c:Nat):Nat->Int
 |0=>0
 |j+1=>if least<=(j:Int)+1 then totG least A c j+ff ((c:Int)-1) j*A (c-(j+1))else totG least A c j
theorem xH2(least most:Int)(n:Nat):∀j,tot least (mbl least most n) j=totG least (G least most) (n+1) j
 |0=>rfl
 |j+1=>by have l:=xV least most n;have e:(mbl least most n).getD (n+1-(j+1)) 0=G least most (n+1-(j+1)):=wM least most n _ (by rfl');rw[tot,totG,xH2 least most n j,l,e]
theorem zF9(least most:Int):G least most 0=1:=rfl
theorem zR5(least most:Int)(n:Nat):G least most (n+1)=totG least (G least most) (n+1) (min most ((n:Int)+1)).toNat:=by have l:=xV least most n;rw[<-xH2];unfold G;rw[mbl,Ax,Cu (by rfl'),l];simp
theorem yM5(n:Int):∀j,ff (n+1) (j+1)=(n+1)*ff n j
 |0=>by simp[ff]
 |j+1=>by
  rw[ff,yM5 n j,ff];have:n+1-((j+1:Nat):Int)=n-(j:Int):=by rfl'
  rw[this,Int.mul_assoc]
def lines(a:Int)(m:Int):Nat->Int
 |0=>a
 |j+1=>lines a m j*(m-((j:Int)+1))
def ways(k:Int)(found:C6)(m:Nat):Int:=if k<(m:Int)then(m:Int)*found.getD (m-1) 0-lines (found.getD (m-1-k.toNat) 0) m k.toNat else(m:Int)*found.getD (m-1) 0
def B:Int:=2^400
end M12
namespace M12
theorem yZ5(c:Nat)(hc:c<=61):∀j,j<=61->(ff ((c:Int)-1) j).natAbs<=2^(6*j)
 |0,_=>by simp[ff]
 |j+1,h=>by rw[ff,DM,Nat.mul_add,Dq];have e:(2:Nat)^(6*1)=64:=rfl;exact DL (yZ5 c hc j (by rfl')) (by rw[e];rfl')
theorem yH9(least:Int)(A:Nat->Int)(c b:Nat)(hc:c<=61)(hA:∀i,i<c->(A i).natAbs<=2^b):∀j,j<=c->(totG least A c j).natAbs<=j*2^(366+b)
 |0,_=>by simp[totG]
 |j+1,h=>by
  have ih:=yH9 least A c b hc hA j (by rfl');have m:(ff ((c:Int)-1) j*A (c-(j+1))).natAbs<=2^(366+b):=by rw[DM,Dq];refine DL (As (yZ5 c hc j (by rfl')) (Bw (by decide) (by rfl'))) (hA _ (by rfl'))
  rw[totG];split;rw[Ds];exact As (Int.natAbs_add_le _ _) (Nat.add_le_add ih m);rw[Ds];exact As ih (Nat.le_add_right _ _)
theorem xQ5(least most:Int):∀n,n<=60->∀i,i<=n->(G least most i).natAbs<=2^(400*i)
 |0,_,i,h=>by
  have:i=0:=by rfl'
  subst this;rw[zF9];decide
 |n+1,hn,i,h=>by
  by_cases e:i<=n;exact xQ5 least most n (by rfl') i e;have:i=n+1:=by rfl'
  subst this;rw[zR5];have q:=yH9 least (G least most) (n+1) (400*n) (by rfl') (fun i hi=>As (xQ5 least most n (by rfl') i (by rfl')) (Bw (by decide) (by rfl'))) (min most ((n:Int)+1)).toNat (by rfl');refine As q ?_;have e1:(min most ((n:Int)+1)).toNat<=2^6:=by have:(2:Nat)^6=64:=rfl;rfl'
  refine As (Bl _ e1) ?_;rw[<-Dq];exact Bw (by decide) (by rfl')
theorem zA5(c j:Nat)(hc:c<=61)(hj:j<=61):(ff ((c:Int)-1) j).natAbs<2^367:=Bo (yZ5 c hc j hj) (CJ (by decide) (by rfl'))
theorem zF6(least most:Int)(n:Nat)(hn:n<=60):(G least most n).natAbs<2^24001:=Bo (xQ5 least most n hn n (Ac _)) (CJ (by decide) (by rfl'))
end M12
namespace M12
def sumN(F:Nat->Int):Nat->Int
 |0=>0
 |n+1=>sumN F n+F n
theorem yG1(F G:Nat->Int):∀n,sumN (fun i=>F i+G i) n=sumN F n+sumN G n
 |0=>rfl
 |n+1=>by rw[sumN,sumN,sumN,yG1 F G n];rfl'
def bin:Nat->Nat->Int
 |_,0=>1
 |0,_+1=>0
 |n+1,m+1=>bin n m+bin n (m+1)
theorem cL(n:Nat):bin n 0=1:=by cases n<;>rfl
theorem zY8:∀(n m:Nat),bin n (m+1)*((m:Int)+1)=bin n m*((n:Int)-m)
 |0,0=>by simp[bin]
 |0,m+1=>by simp[bin]
 |n+1,0=>by
  have h:=zY8 n 0;rw[cL]at h ⊢;rw[bin,cL];have:((n+1:Nat):Int)=(n:Int)+1:=by rfl'
  rw[this];simp at h ⊢;rfl'
 |n+1,m+1=>by have h1:=zY8 n m;have h2:=zY8 n (m+1);show(bin n (m+1)+bin n (m+2))*(((m+1:Nat):Int)+1)=(bin n m+bin n (m+1))*(((n+1:Nat):Int)-((m+1:Nat):Int));rw[show((m+1:Nat):Int)=(m:Int)+1 by rfl']at h2 ⊢;rw[show((n+1:Nat):Int)=(n:Int)+1 by rfl'];rw[show(n:Int)+1-((m:Int)+1)=(n:Int)-m by rfl',Int.add_mul,Int.add_mul,h2,<-h1];rw[Int.mul_add (bin n (m+1)) ((m:Int)+1) 1,show(n:Int)-((m:Int)+1)=((n:Int)-m)-1 by rfl',Int.mul_sub];rfl'
def fac:Nat->Int
 |0=>1
 |n+1=>fac n*((n:Int)+1)
end M12
namespace M12
theorem wW7(n m:Nat):(bin n m*((n:Int)-m))/((m:Int)+1)=bin n (m+1):=by rw[<-zY8,Int.mul_ediv_cancel _ (by rfl')]
def tells(g b:C6)(n:Nat):Nat->C6
 |0=>[]
 |m+1=>tells g b n m++[bin n m*g.getD m 0*b.getD (n-m) 0]
theorem gR(g b:C6)(n:Nat):∀m,(tells g b n m).length=m
 |0=>rfl
 |m+1=>by rw[tells,Aj,gR g b n m];rfl
theorem jJ:∀(n m:Nat),0<=bin n m
 |n,0=>by rw[cL];decide
 |0,m+1=>by show(0:Int)<=0;decide
 |n+1,m+1=>by have h1:=jJ n m;have h2:=jJ n (m+1);rw[bin];rfl'
theorem yH3:∀(n m:Nat),bin n m<=2^n
 |n,0=>by rw[cL];have:(0:Int)<2^n:=Int.pow_pos (by decide);rfl'
 |0,m+1=>by show(0:Int)<=1;decide
 |n+1,m+1=>by have h1:=yH3 n m;have h2:=yH3 n (m+1);rw[bin,Int.pow_succ];rfl'
end M12
namespace M12
def inWin(o q p:Nat):Bool:=decide (p<=q/\q<p+o)
def stepM(n o:Nat)(v:Nat->Int)(q:Nat):Int:=(if q+1<=n then((q:Int)+1)*v (q+1)else 0)+sumN (fun p=>if inWin o q p then v p else 0) (n+1)
def pair(n:Nat)(u v:Nat->Int):Int:=sumN (fun p=>fac p*u p*v p) (n+1)
def e0(i:Nat):Int:=if i=0 then 1 else 0
def runM(n:Nat)(os:C5):Nat->Int:=os.foldl (fun v o=>stepM n o v) e0
theorem zQ6(n:Nat)(os:C5)(o:Nat):runM n (os++[o])=stepM n o (runM n os):=by unfold runM;rw[List.foldl_append];rfl
end M12
namespace MR
section
variable {n:Nat}{xs:C6}
theorem wC2(o:Ord n ys){c q:Nat}(hc:c<n)(hq:1<=q)(e:it ys q c=c)(ne:∀i,1<=i->i<q->it ys i c≠c):per n ys c=q:=by obtain⟨p1,p2,p3,p4⟩:=o.yA hc;rcases Dl (per n ys c) q with h|h|h;exact absurd p3 (ne _ p1 h);exact h;exact absurd e (p4 q hq h)
theorem flatP(o:Ord n xs):(rgs n xs n).flatten.Perm (List.range n):=by have k:=o.vD n (Ac n);rw[Cw k.nodup Cd];intro a;rw[AH,Bu];constructor;rintro⟨r,hr,ha⟩;obtain⟨b,hb,rfl,_⟩:=k.each r hr;exact o.zP9 hb (wQ.mp ha);intro h;exact k.cover a h
def lc:Nat->Nat
 |0=>1
 |n+1=>(n+1)*lc n
def fN(k l:Nat):Nat:=(l-1)/k
def ND(n k:Nat)(xs:C6):Nat:=((rgs n xs n).map fun r=>fN k r.length).sum
def wt(n k l:Nat):Nat:=fN k l*(lc n/l)
def pr(k:Nat)(r:C5):List (Nat×Nat):=(List.range (fN k r.length)).map fun m=>(r.getD 0 0,r.getD ((m+1)*k) 0)
theorem gA{b i:Nat}(h:i<per n xs b):(ring n xs b).getD i 0=it xs i b:=by unfold ring;simp[List.getD,h]
theorem yI1{k l m:Nat}(hk:1<=k)(h:m<fN k l):(m+1)*k<l:=by unfold fN at h;have:(m+1)*k<=l-1:=(Nat.le_div_iff_mul_le (by rfl')).mp h;have:1*k<=(m+1)*k:=Bl k (by rfl');rfl'
def told(n k:Nat)(xs:C6):List (Nat×Nat):=(rgs n xs n).flatMap (pr k)
def Vp(n:Nat)(q:Nat×Nat):Prop:=q.1<n/\q.2<n/\q.1≠q.2
theorem xV5(o:Ord n xs){k:Nat}(hk:1<=k):∀q∈told n k xs,Vp n q:=fun q hq=>by have ok:=o.vD n (Ac n);unfold told at hq;obtain⟨r,hr,hq⟩:=List.mem_flatMap.mp hq;obtain⟨b,hb,rfl,_⟩:=ok.each r hr;unfold pr at hq;obtain⟨m,hm,rfl⟩:=Ay.mp hq;have hm:=AH.mp hm;rw[xH]at hm;have lt:=yI1 hk hm;have p1:=(o.yA hb).1;have:1*k<=(m+1)*k:=Bl k (by rfl');refine⟨?_,?_,?_⟩;show(ring n xs b).getD 0 0<n;rw[gA (by rfl')];exact o.qT hb 0;show(ring n xs b).getD ((m+1)*k) 0<n;rw[gA lt];exact o.qT hb _;show(ring n xs b).getD 0 0≠(ring n xs b).getD ((m+1)*k) 0;rw[gA (by rfl'),gA lt];exact o.xT1 hb (by rfl') lt
end
def nf:Nat->Nat->Nat
 |_,0=>1
 |m,j+1=>m*nf (m-1) j
theorem zC3:∀(j m:Nat),j<=m->0<nf m j
 |0,_,_=>Nat.one_pos
 |j+1,m,h=>Nat.mul_pos (by rfl') (zC3 j (m-1) (by rfl'))
theorem yB5:∀(j m:Nat),j<=m->nf m (j+1)=nf m j*(m-j)
 |0,m,_=>by simp[nf]
 |j+1,m,h=>by show m*nf (m-1) (j+1)=m*nf (m-1) j*(m-(j+1));rw[yB5 j (m-1) (by rfl'),Nat.mul_assoc,show m-1-j=m-(j+1) by rfl']
def pk:Nat->List Nat->Nat->C5
 |0,_,_=>[]
 |j+1,l,r=>l.getD (r/nf (l.length-1) j) 0::pk j (l.eraseIdx (r/nf (l.length-1) j)) (r%nf (l.length-1) j)
def pr':List Nat->List Nat->Nat
 |_,[]=>0
 |l,x::xs=>l.idxOf x*nf (l.length-1) xs.length+pr' (l.erase x) xs
theorem yP5:∀(j:Nat)(l:C5)(r:Nat),(pk j l r).length=j
 |0,_,_=>rfl
 |j+1,l,r=>by rw[pk,Aw,yP5 j]
theorem xI1{j m r:Nat}(h:r<nf m (j+1)):r/nf (m-1) j<m:=Nat.div_lt_of_lt_mul (by rw[nf,Du]at h;exact h)
theorem yB9:∀(l:C5)(j:Nat),l.Nodup->j<l.length->l.idxOf (l.getD j 0)=j/\l.erase (l.getD j 0)=l.eraseIdx j
 |a::l,0,_,_=>by simp
 |a::l,j+1,nd,h=>by
  have h':j<l.length:=by simpa using h
  have nd':=BD.mp nd;obtain⟨e1,e2⟩:=yB9 l j nd'.2 h';have m:l.getD j 0∈l:=by simp[List.getD,h']
  have ne:¬a=l.getD j 0:=fun e=>nd'.1 (by rw[e];exact m);have g:(a::l).getD (j+1) 0=l.getD j 0:=rfl;rw[g];constructor;rw[List.idxOf_cons,show(a==l.getD j 0)=false by simpa using ne];show _+1=_;rw[e1];rw[List.erase_cons,An (by simpa using ne),e2];rfl
theorem uE{l:C5}{j:Nat}(h:j<l.length):l.getD j 0∈l:=by simp[List.getD,h]
theorem wV9:∀(j:Nat)(l:C5)(r:Nat),l.Nodup->j<=l.length->r<nf l.length j->(pk j l r).Nodup/\(∀x∈pk j l r,x∈l)/\pr' l (pk j l r)=r
 |0,l,r,_,_,hr=>by simp[nf]at hr;subst hr;exact⟨List.nodup_nil,fun x hx=>(nomatch hx),rfl⟩
 |j+1,l,r,nd,hj,hr=>by
  have hd:=xI1 hr;obtain⟨e1,e2⟩:=yB9 l _ nd hd;have hl:(l.eraseIdx (r/nf (l.length-1) j)).length=l.length-1:=List.length_eraseIdx_of_lt hd;have p:=zC3 j (l.length-1) (by rfl');obtain⟨h1,h2,h3⟩:=wV9 j (l.eraseIdx (r/nf (l.length-1) j)) (r%nf (l.length-1) j) (nd.eraseIdx _) (by rfl') (by rw[hl];exact Bq _ p);have sub:∀x∈l.eraseIdx (r/nf (l.length-1) j),x∈l:=fun x hx=>(List.eraseIdx_sublist l _).subset hx;rw[pk];refine⟨BD.mpr ⟨fun z=>?_,h1⟩,fun x hx=>?_,?_⟩;have:=h2 _ z;rw[<-e2]at this;exact nd.not_mem_erase this;rcases AF.mp hx with rfl|hx
  exact uE hd;exact sub x (h2 x hx);rw[pr',e1,e2,h3,yP5,Du];exact Nat.div_add_mod r _
theorem wB9{x:Nat}{xs l:C5}(nd:(x::xs).Nodup)(h:∀y∈x::xs,y∈l):∀y∈xs,y∈l.erase x:=fun y hy=>(List.mem_erase_of_ne (fun(e:y=x)=>(BD.mp nd).1 (by rw[<-e];exact hy))).mpr (h y (Ak _ hy))
def smN(A:Nat->Nat)(c:Nat):Nat->Nat
 |0=>0
 |j+1=>smN A c j+nf (c-1) j*A (c-(j+1))
theorem yL8(A:Nat->Nat)(c:Nat){i:Nat}:∀{j},i<=j->smN A c i<=smN A c j
 |0,h=>by
  have:i=0:=by rfl'
  subst this;exact Ac _
 |j+1,h=>by by_cases e:i=j+1;subst e;exact Ac _;have:=yL8 A c (i:=i) (j:=j) (by rfl');rw[smN];rfl'
theorem yO6(A:Nat->Nat)(c N:Nat):∀J,N<smN A c J->∃j,j<J/\smN A c j<=N/\N<smN A c (j+1)
 |0,h=>by simp[smN]at h
 |J+1,h=>by by_cases q:N<smN A c J;obtain⟨j,h1,h2,h3⟩:=yO6 A c N J q;exact⟨j,by rfl',h2,h3⟩;exact⟨J,by rfl',by rfl',h⟩
theorem xY6:∀j,M12.ff 0 (j+1)=0
 |0=>by simp[M12.ff]
 |j+1=>by rw[M12.ff,xY6 j,Int.zero_mul]
theorem zG2:∀(j m:Nat),M12.ff (m:Int) j=((nf m j:Nat):Int)
 |0,m=>rfl
 |j+1,0=>by rw[nf,Nat.zero_mul];exact xY6 j
 |j+1,m+1=>by rw[nf,Ca,CH,<-zG2 j m];exact M12.yM5 (m:Int) j
theorem yY6{A:Nat->Int}{B:Nat->Nat}{c:Nat}(h:∀i,i<c+1->A i=(B i:Int)):∀j,M12.totG 1 A (c+1) j=((smN B (c+1) j:Nat):Int)
 |0=>rfl
 |j+1=>by
  have e1:(((c+1:Nat):Int)-1)=(c:Int):=by rfl'
  have e2:((smN B (c+1) (j+1):Nat):Int)=((smN B (c+1) j:Nat):Int)+((nf c j:Nat):Int)*((B (c+1-(j+1)):Nat):Int):=by rw[smN,Ca,<-CH,<-Int.natCast_add]
  rw[M12.totG,Ae (by rfl'),yY6 h j,e2,e1,<-zG2,h _ (by rfl')]
def gn(k m:Nat):Nat:=(M12.G 1 (k:Int) m).toNat
theorem uA(k m:Nat):M12.G 1 (k:Int) m=((gn k m:Nat):Int):=by
 have nn:∀m,∀i,i<=m->0<=M12.G 1 (k:Int) i:=fun m=>by
  induction m with
  |zero=>intro i hi;have:i=0:=(by rfl');subst this;rw[M12.zF9];rfl'
  |succ m ih=>intro i hi;by_cases e:i=m+1;subst e;rw[M12.zR5,yY6 (B:=fun i=>(M12.G 1 (k:Int) i).toNat) fun i hi=>(Int.toNat_of_nonneg (ih i (by rfl'))).symm];exact Cn _;exact ih i (by rfl')
 exact(Int.toNat_of_nonneg (nn m m (Ac _))).symm
theorem xX3(k:Nat):gn k 0=1:=rfl
theorem yB2(k m:Nat):gn k (m+1)=smN (gn k) (m+1) (min k (m+1)):=by have h:=uA k (m+1);rw[M12.zR5,yY6 fun i _=>uA k i,show(min (k:Int) ((m:Int)+1)).toNat=min k (m+1) by rfl']at h;exact_mod_cast h.symm
def wo(l r:C5):C5:=l.filter fun b=>!r.contains b
theorem zH1(l r:C5):(wo l r).Sublist l:=List.filter_sublist
theorem wF6{l r:C5}{x:Nat}:x∈wo l r↔x∈l/\x∉r:=by unfold wo;simp
theorem yZ4:∀(l r:C5),l.Nodup->r.Nodup->(∀x∈r,x∈l)->(r++wo l r).Perm l
 |l,[],_,_,_=>by have:wo l []=l:=CP.mpr fun a _=>rfl;rw[this];exact List.Perm.refl _
 |l,x::r,nl,nd,h=>by
  have nd':=BD.mp nd;have mx:=h x (Af ..);have ih:=yZ4 (l.erase x) r (nl.erase x) nd'.2 (wB9 nd h);have e:wo l (x::r)=wo (l.erase x) r:=by unfold wo;rw[nl.erase_eq_filter,List.filter_filter];refine List.filter_congr fun b _=>?_;rw[BZ];cases h1:(b==x)<;>cases h2:r.contains b<;>simp_all
  rw[e];exact(ih.cons x).trans (List.perm_cons_erase mx).symm
theorem wC3{l r:C5}(nl:l.Nodup)(nr:r.Nodup)(h:∀x∈r,x∈l):(wo l r).length=l.length-r.length:=by have:=(yZ4 l r nl nr h).length_eq;rw[Aj]at this;rfl'
inductive Told(k:Nat):List Nat->Nat->List (C5)->Prop
 |nil:Told k [] 0 []
 |cons {a:Nat}{t xs:C5}{M:Nat}{rs:C0}:xs.length<k->xs.Nodup->(∀x∈xs,x∈t)->Told k (wo (a::t) (a::xs)) M rs ->
  Told k (a::t) (smN (gn k) (t.length+1) xs.length+pr' t xs*gn k (t.length-xs.length)+M) ((a::xs)::rs)
theorem zI7{a:Nat}{t xs:C5}(nl:(a::t).Nodup)(nd:xs.Nodup)(h:∀x∈xs,x∈t):(a::xs).Nodup/\∀x∈a::xs,x∈a::t:=⟨BD.mpr ⟨fun z=>(BD.mp nl).1 (h a z),nd⟩,fun x hx=>by rcases AF.mp hx with rfl|hx;exact Af ..;exact Ak _ (h x hx)⟩
theorem yW6{k:Nat}{l:C5}{N:Nat}{rs:C0}(T:Told k l N rs):l.Nodup->rs.flatten.Perm l:=by
 induction T with
 |nil=>exact fun _=>List.Perm.refl _
 |cons h1 h2 h3 T ih=>intro nl;obtain⟨n1,n2⟩:=zI7 nl h2 h3;have:=ih (nl.sublist (zH1 _ _));rw[Bm];exact(this.append_left _).trans (yZ4 _ _ nl n1 n2)
def Can(rs:C0):Prop:=(∀r∈rs,∃a xs,r=a::xs/\∀x∈xs,a<x)/\rs.Pairwise fun r r'=>∀x∈r.head?,∀y∈r',x<y
theorem xC3{k:Nat}{l:C5}{N:Nat}{rs:C0}(T:Told k l N rs):l.Pairwise (· < ·)->Can rs/\∀r∈rs,r.length<=k:=by
 induction T with
 |nil=>exact fun _=>⟨⟨fun r hr=>(nomatch hr),List.Pairwise.nil⟩,fun r hr=>(nomatch hr)⟩
 |@cons a t xs M rs h1 h2 h3 T ih=>
  intro nl;have nn:(a::t).Nodup:=nl.imp fun h=>by rfl'
  have lt:∀{x},x∈t->a<x:=fun{x}hx=>List.rel_of_pairwise_cons nl hx;obtain⟨⟨c1,c2⟩,c3⟩:=ih (nl.sublist (zH1 _ _));have p:=yW6 T (nn.sublist (zH1 _ _));refine⟨⟨fun r hr=>?_,Cm.mpr ⟨fun r hr x hx y hy=>?_,c2⟩⟩,fun r hr=>?_⟩;rcases AF.mp hr with rfl|hr
  exact⟨a,xs,rfl,fun x hx=>lt (h3 x hx)⟩;exact c1 r hr;have hx:x=a:=by simpa using hx.symm
  subst hx;have my:y∈rs.flatten:=Bu.mpr ⟨r,hr,hy⟩;obtain⟨m1,m2⟩:=wF6.mp (p.mem_iff.mp my);rcases AF.mp m1 with rfl|m1;exact absurd (Af ..) m2;exact lt m1;rcases AF.mp hr with rfl|hr;exact h1;exact c3 r hr
theorem xK3{k:Nat}{a:Nat}{t:C5}{N:Nat}(h:N<gn k (t.length+1)):∃j,j<=t.length/\j<k/\smN (gn k) (t.length+1) j<=N/\N-smN (gn k) (t.length+1) j<nf t.length j*gn k (t.length-j):=by rw[yB2]at h;obtain⟨j,h1,h2,h3⟩:=yO6 _ _ _ _ h;rw[smN,Ca,Ck]at h3;exact⟨j,by rfl',by rfl',h2,by rfl'⟩
theorem wR6{n:Nat}{xs:C6}{rs:C0}(c:Can rs)(p:rs.flatten.Perm (List.range n))(hl:xs.length=n)(hx:∀r∈rs,∀j,j<r.length->xs.getD (r.getD j 0) 0=((r.getD ((j+1)%r.length) 0:Nat):Int)):Ord n xs/\rgs n xs n=rs:=by
 have nd:rs.flatten.Nodup:=p.nodup_iff.mpr Cd;have mem:∀b,b<n↔∃r∈rs,b∈r:=fun b=>by rw[<-AH,<-p.mem_iff,Bu]
 have ndr:∀r∈rs,r.Nodup:=fun r hr=>nd.sublist (Cf hr);have posn:∀(r:C5)(b:Nat),b∈r->∃j,j<r.length/\r.getD j 0=b:=fun r b h=>by obtain⟨j,hj,e⟩:=CK.mp h;exact⟨j,hj,by rw[List.getD,Ag hj];exact e⟩
 have gm:∀(r:C5)j,j<r.length->r.getD j 0∈r:=fun r j h=>uE h;have apart:∀r∈rs,∀r'∈rs,∀b,b∈r->b∈r'->r=r':=fun r hr r' hr' b hb hb'=>by have pw:=(List.pairwise_flatten.mp nd).2;obtain⟨i,hi,e⟩:=CK.mp hr;obtain⟨j,hj,e'⟩:=CK.mp hr';rcases Dl i j with q|q|q;have:=Ci.mp pw i j hi hj q;rw[e,e']at this;exact absurd rfl (this b hb b hb');subst q;rw[<-e,<-e'];have:=Ci.mp pw j i hj hi q;rw[e,e']at this;exact absurd rfl (this b hb' b hb)
 have inj:∀r:C5,r.Nodup->∀i j,i<r.length->j<r.length->r.getD i 0=r.getD j 0->i=j:=fun r h i j hi hj e=>by rw[List.getD,List.getD,Ag hi,Ag hj]at e;exact(List.getElem_inj h).mp e
 have nx:∀r∈rs,∀j,j<r.length->nxt xs (r.getD j 0)=r.getD ((j+1)%r.length) 0:=fun r hr j hj=>by unfold nxt;rw[hx r hr j hj];exact AX _
 have o:Ord n xs:=by
  have e:xs=ofN n (nxt xs):=by refine DV (by rw[xR7,hl]) fun i h1 h2=>?_;have g1:xs[i]=xs.getD i 0:=(by rw[List.getD,Ag h1];rfl);have g2:(ofN n (nxt xs))[i]=(ofN n (nxt xs)).getD i 0:=(by rw[List.getD,Ag h2];rfl);rw[g1,g2,wK1 (by rfl')];obtain⟨r,hr,hb⟩:=(mem i).mp (by rfl');obtain⟨j,hj,rfl⟩:=posn r i hb;rw[nx r hr j hj,hx r hr j hj]
  rw[e];refine wN6 (fun b hb=>?_) fun b b' hb hb' e=>?_;obtain⟨r,hr,hb⟩:=(mem b).mp hb;obtain⟨j,hj,rfl⟩:=posn r b hb;rw[nx r hr j hj];exact(mem _).mpr ⟨r,hr,gm r _ (Bq _ (by rfl'))⟩;obtain⟨r,hr,hb⟩:=(mem b).mp hb;obtain⟨j,hj,rfl⟩:=posn r b hb;obtain⟨r',hr',hb'⟩:=(mem b').mp hb';obtain⟨j',hj',rfl⟩:=posn r' b' hb';rw[nx r hr j hj,nx r' hr' j' hj']at e;have m1:=Bq (j+1) (show r.length>0 by rfl');have m2:=Bq (j'+1) (show r'.length>0 by rfl');have er:=apart r hr r' hr' _ (gm r _ m1) (by rw[e];exact gm r' _ m2);subst er;have:=inj r (ndr r hr) _ _ m1 m2 e;have:j=j':=by by_cases a1:j+1=r.length;rw[a1,Nat.mod_self]at this;by_cases a2:j'+1=r.length;rfl';rw[CW (by rfl')]at this;rfl';rw[CW (show j+1<r.length by rfl')]at this;by_cases a2:j'+1=r.length;rw[a2,Nat.mod_self]at this;rfl';rw[CW (by rfl')]at this;rfl'
  rw[this]
 refine⟨o,?_⟩;have walk:∀r∈rs,∀i,0<r.length->it xs i (r.getD 0 0)=r.getD (i%r.length) 0:=fun r hr i h=>by
  induction i with
  |zero=>rw[Nat.zero_mod];rfl
  |succ i ih=>show nxt xs (it xs i _)=_;rw[ih,nx r hr _ (Bq _ h),Nat.mod_add_mod]
 have pr:∀r∈rs,0<r.length->per n xs (r.getD 0 0)=r.length:=fun r hr h=>by refine wC2 o ((mem _).mpr ⟨r,hr,gm r 0 h⟩) h (by rw[walk r hr _ h,Nat.mod_self]) fun i h1 h2 e=>?_;rw[walk r hr i h,CW h2]at e;have:=inj r (ndr r hr) _ _ h2 h e;rfl'
 have rg:∀r∈rs,0<r.length->ring n xs (r.getD 0 0)=r:=fun r hr h=>by unfold ring;rw[pr r hr h];refine DV (by simp) fun i h1 h2=>?_;rw[List.getElem_map,List.getElem_range,walk r hr i h,CW h2,List.getD,Ag h2];rfl
 have pos:∀r∈rs,0<r.length:=fun r hr=>by obtain⟨a,ys,rfl,_⟩:=c.1 r hr;simp
 have main:∀m,m<=n->rgs n xs m=rs.filter fun r=>decide (r.getD 0 0<m):=fun m=>by
  induction m with
  |zero=>intro _;show[]=_;exact(List.filter_eq_nil_iff.mpr fun r _=>by simp).symm
  |succ m ih=>
   intro hm;have ih:=ih (by rfl');rw[rgs,ih];by_cases q:has (rs.filter fun r=>decide (r.getD 0 0<m)) m=true;rw[Ae q];obtain⟨r,hr,hb⟩:=dE.mp q;obtain⟨hr,hd⟩:=BY.mp hr;have hd:=of_decide_eq_true hd;refine List.filter_congr fun r' hr'=>?_;have:¬r'.getD 0 0=m:=fun e=>(by have:=apart r hr r' hr' m hb (by rw[<-e];exact gm r' 0 (pos r' hr'));subst this;rfl');by_cases a:r'.getD 0 0<m;rw[Ab a,Ab (by rfl')];rw[Ad a,Ad (by rfl')];rw[An q];obtain⟨r,hr,hb⟩:=(mem m).mp (by rfl');have e0:r.getD 0 0=m:=by obtain⟨a,ys,e,h⟩:=c.1 r hr;rcases AF.mp (e▸hb)with z|z;rw[e,z];rfl;have:=h m z;refine absurd (dE.mpr ⟨r,BY.mpr ⟨hr,Ab ?_⟩,hb⟩) q;rw[e];exact this
   obtain⟨A,B,rfl⟩:=List.append_of_mem hr;have pw:=List.pairwise_append.mp c.2;have head:∀r':C5,0<r'.length->r'.getD 0 0∈r'.head?:=fun r' h=>by
    cases r' with
    |nil=>simp at h
    |cons x _=>rfl
   have hA:∀r'∈A,r'.getD 0 0<m:=fun r' h'=>(by have hr':r'∈A++r::B:=AG _ h';exact pw.2.2 r' h' r (Af ..) _ (head r' (pos r' hr')) m hb);have hB:∀r'∈B,m<r'.getD 0 0:=fun r' h'=>(by have hr':r'∈A++r::B:=Ah _ (Ak _ h');exact List.rel_of_pairwise_cons pw.2.1 h' m (by rw[<-e0];exact head r (pos r hr)) _ (gm r' 0 (pos r' hr')));have fA:∀m',m<=m'->A.filter (fun r=>decide (r.getD 0 0<m'))=A:=fun m' h=>CP.mpr fun r' h'=>Ab (by have:=hA r' h';rfl');have fB:∀m',m'<=m+1->B.filter (fun r=>decide (r.getD 0 0<m'))=[]:=fun m' h=>List.filter_eq_nil_iff.mpr fun r' h'=>(by have:=hB r' h';rw[Ad (by rfl')];exact AY);rw[Em,Em,fA m (Ac _),fA (m+1) (by rfl'),List.filter_cons_of_neg (by rw[e0];simp),fB m (by rfl'),BP,List.filter_cons_of_pos (by rw[e0];simp),fB (m+1) (Ac _),<-e0,rg r hr (pos r hr)]
 rw[main n (Ac _)];exact CP.mpr fun r hr=>Ab ((mem _).mpr ⟨r,hr,gm r 0 (pos r hr)⟩)
theorem xX5:∀(i m:Nat),i<=m->nf m i*nf (m-i) (m-i)=nf m m
 |0,m,_=>by simp[nf]
 |i+1,0,h=>absurd h (by rfl')
 |i+1,m+1,h=>by rw[nf,nf,Ca,Ck,Nat.mul_assoc,xX5 i m (by rfl')]
theorem xP3(k:Nat):∀m,gn k m<=nf m m:=fun m=>by
 induction m using Nat.strongRecOn with
 |ind m ih=>
  cases m with
  |zero=>exact Ac _
  |succ m=>
   have b:∀j,j<=m+1->smN (gn k) (m+1) j<=j*nf m m:=fun j=>by
    induction j with
    |zero=>exact fun _=>Cb _
    |succ j ihj=>intro h;have h1:=ihj (by rfl');have h2:nf m j*gn k (m-j)<=nf m m:=(by rw[<-xX5 j m (by rfl')];exact Dy _ (ih (m-j) (by rfl')));rw[smN,Ca,Ck,Nat.add_mul,Nat.one_mul];rfl'
   rw[yB2];refine As (b _ (by rfl')) ?_;rw[nf,Ca];exact Bl _ (by rfl')
inductive Chain:List Nat->List (C5)->Prop
 |nil:Chain [] []
 |cons {a:Nat}{t xs:C5}{rs:C0}:xs.Nodup->(∀x∈xs,x∈t)->Chain (wo (a::t) (a::xs)) rs->Chain (a::t) ((a::xs)::rs)
theorem wK3{n:Nat}{xs:C6}(o:Ord n xs):Can (rgs n xs n):=by
 have k:=o.vD n (Ac n);have hd:∀r∈rgs n xs n,∃b,b<n/\r=ring n xs b/\r.head?=some b/\∀c∈r,b<=c:=fun r hr=>by obtain⟨b,hb,rfl,h⟩:=k.each r hr;exact⟨b,hb,rfl,zT6 o hb,fun c hc=>h c (wQ.mp hc)⟩
 refine⟨fun r hr=>?_,?_⟩;obtain⟨b,hb,e,h1,h2⟩:=hd r hr;have nd:r.Nodup:=by rw[e];exact o.zG3 hb
 cases r with
 |nil=>cases h1
 |cons a ys=>
  have:a=b:=by simpa using h1
  subst this;refine⟨a,ys,rfl,fun x hx=>?_⟩;have:=h2 x (Ak _ hx);have ne:a≠x:=fun z=>(BD.mp nd).1 (z▸hx);rfl'
 have all:∀L:C0,(∀r∈L,r∈rgs n xs n)->L.Pairwise (fun r r'=>∀x∈r.head?,∀y∈r'.head?,x<y)->L.Pairwise (fun r r'=>∀x∈r.head?,∀y∈r',x<y):=fun L=>by
  induction L with
  |nil=>exact fun _ _=>List.Pairwise.nil
  |cons r L ih=>intro hL w;have w':=Cm.mp w;refine Cm.mpr ⟨fun r' hr' x hx y hy=>?_,ih (fun r hr=>hL r (Ak _ hr)) w'.2⟩;obtain⟨b,_,_,h1,h2⟩:=hd r' (hL r' (Ak _ hr'));have:=w'.1 r' hr' x hx b (by rw[h1];rfl);have:=h2 y hy;rfl'
 exact all _ (fun r hr=>hr) k.rise
end MR
namespace MR
open PySem PySem.StrLaws PySem.Builtin PySem.Builtin.Str
def tl(x:Str):C5:=x.cps.toList
theorem yM(x:Str):(tl x).length=x.length:=by unfold tl Str.length;simp
theorem zE(a b:Str):tl (a++b)=tl a++tl b:=by unfold tl;rw[Str.cps_append];simp
theorem kZ{a b:Str}(h:tl a=tl b):a=b:=by apply Str.ext';have:a.cps.toList.toArray=b.cps.toList.toArray:=By _ h;simpa using this
theorem yQ6(l:C5):tl ⟨l.toArray⟩=l:=by unfold tl;simp
theorem vT(y p q:Str)(r:C4):Str.join y (p::q::r)=p++y++Str.join y (q::r):=rfl
theorem yM4{x y:Str}{k:Nat}(h1:1<=y.length):At x y x.length k↔((tl x).drop k).take y.length=tl y:=by unfold At;rw[subAt_eq,beq_iff_eq];constructor;exact fun h=>h.2;intro h;refine⟨?_,h⟩;have l:=By List.length h;rw[yM,BF,Bs,yM]at l;rfl'
theorem zE4(x:Str)(a b:Nat):tl (strSub x a b)=((tl x).drop a).take (b-a):=strSub_toList x a b
theorem xQ2{x y:Str}{c:Nat}{y':C5}(hy:tl y=c::y'):∀(ps:C4)(a f:Nat)(cuts:C5),ps≠[]->(∀p∈ps,c∉tl p)->(tl x).drop a=tl (Str.join y ps)->a<=x.length->ChainG x y x.length a cuts f->(∀k,f<=k->¬At x y x.length k)->partsFrom x y.length a cuts=ps:=by
 have y1:1<=y.length:=by rw[<-yM,hy];simp
 have fst:∀k,At x y x.length k->(tl x)[k]?=some c:=fun k h=>by have e:=(yM4 y1).mp h;rw[hy]at e;have:=By (fun l=>l[0]?) e;simp only[List.getElem?_cons_zero]at this;rw[List.getElem?_take_of_lt (by rfl'),En]at this;simpa using this
 intro ps;induction ps with
 |nil=>intro a f cuts h;exact absurd rfl h
 |cons p ps ih=>
  intro a f cuts _ hc hd ha hG hn;have pc:=hc p Af;cases ps with
  |nil=>
   have hd:(tl x).drop a=tl p:=hd;have no:∀k,a<=k->¬At x y x.length k:=fun k hk h=>(by have e:=fst k h;have e2:(tl p)[k-a]?=some c:=(by rw[<-hd,En,show a+(k-a)=k by rfl'];exact e);exact pc (AR e2));cases cuts with
   |cons d r=>exact absurd hG.2.1 (no d hG.1)
   |nil=>show[strSub x a x.length]=[p];rw[show strSub x a x.length=p from kZ (by rw[zE4,hd,Bd];rw[<-hd,Bs,yM];exact Ac _)]
  |cons q r=>
   rw[vT,zE,zE]at hd;have len:=By List.length hd;rw[Bs,Aj,Aj,yM,yM,yM]at len;have here:At x y x.length (a+p.length):=(by refine(yM4 y1).mpr ?_;rw[<-Eo,hd,AM,Da (by rw[yM];exact Ac _),<-yM p,CU,Dh,<-yM y,Db (Ac _),BU]);have early:∀k,a<=k->k<a+p.length->¬At x y x.length k:=fun k hk hl h=>(by have e:=fst k h;have e2:(tl p)[k-a]?=some c:=(by have e3:((tl x).drop a)[k-a]?=some c:=(by rw[En,show a+(k-a)=k by rfl'];exact e);rw[hd,AM,Ch (by rw[yM];rfl')]at e3;exact e3);exact pc (AR e2));cases cuts with
   |nil=>have ef:f=a:=hG;exact absurd here (hn _ (by rfl'))
   |cons d r'=>obtain⟨g1,g2,g3,g4⟩:=hG;have ed:d=a+p.length:=(by by_cases l1:d<a+p.length;exact absurd g2 (early d g1 l1);by_cases l2:a+p.length<d;exact absurd here (g3 _ (by rfl') l2);rfl');subst ed;show strSub x a (a+p.length)::partsFrom x y.length (a+p.length+y.length) r'=p::q::r;have e1:strSub x a (a+p.length)=p:=kZ (by rw[zE4,hd,show a+p.length-a=p.length by rfl',AM,<-yM p,Db (Ac _),BU]);rw[e1,ih (a+p.length+y.length) f r' (fun z=>nomatch z) (fun z hz=>hc z (Ak _ hz)) ?_ (by rfl') g4 hn];rw[show a+p.length+y.length=a+(p.length+y.length) by rfl',<-Eo,hd,<-zE,Da (by rw[yM,Ap];exact Ac _),show p.length+y.length=(tl (p++y)).length by rw[yM,Ap],CU,Dh]
theorem yJ4(x:Str):1<=Builtin.Str.strKind x:=by unfold Builtin.Str.strKind;split;exact Ac _;split<;>decide
theorem hU{y:Str}{c:Nat}{y':C5}(hy:tl y=c::y')(hk:Builtin.Str.strKind y=1)(h0:ps≠[])(hc:∀p∈ps,c∉tl p):Txt.split (Str.join y ps) y=ps:=by
 have y1:1<=y.length:=by rw[<-yM,hy];simp
 obtain⟨f,hG,hn⟩:=occ_tight (Str.join y ps) y y1;have key:=xQ2 hy ps 0 f _ h0 hc rfl (Cb _) hG hn;have whole:occurrences (Str.join y ps) y 0 (Str.join y ps).length ((Str.join y ps).length+1)=[]->[Str.join y ps]=ps:=fun e=>by rw[e]at key;have key:[strSub (Str.join y ps) 0 (Str.join y ps).length]=ps:=key;rw[sub_whole]at key;exact key
 unfold Txt.split;split;rename_i h;refine whole ?_;rw[Bool.or_eq_true,decide_eq_true_eq,decide_eq_true_eq]at h;rcases h with h|h;cases e:occurrences (Str.join y ps) y 0 (Str.join y ps).length ((Str.join y ps).length+1)with
 |nil=>rfl
 |cons d r=>rw[e]at hG;have:=hG.2.1.1;rfl'
 have:=yJ4 (Str.join y ps);rfl';split;rename_i h;exact whole (List.isEmpty_iff.mp h);rw[partsBetween_eq];exact key
theorem xM5{a b w:Str}(ha:a.length=1)(hb:b.length=1):Txt.slice (a++w++b) (some 1) (some (-1))=w:=by
 have l:(a++w++b).length=w.length+2:=by rw[Ap,Ap];rfl'
 have e:Txt.slice (a++w++b) (some 1) (some (-1))=sliceText (a++w++b) (some 1) (some (-1)):=rfl;rw[e,sliceText_neg_hi _ _ (by decide) (by rfl'),show(-1:Int)+((a++w++b).length:Int)=((w.length+1:Nat):Int) by rfl'];have e2:=sliceText_nat (a++w++b) (a:=1) (b:=w.length+1) (by rfl') (by rfl');refine Eq.trans e2 (kZ ?_);rw[yQ6];show((tl (a++w++b)).drop 1).take (w.length+1-1)=tl w;rw[zE,zE,AM,Da (by rw[yM];rfl'),show(tl a).drop 1=[]from De (by rw[yM];rfl'),Dh,show w.length+1-1=(tl w).length by rw[yM];rfl',Db (Ac _),BU]
theorem yU5:∀(ws:C4),ws≠[]->Str.join "" (ws.map fun w=>"("++w++")")="("++Str.join ")(" ws++")"
 |[],h=>absurd rfl h
 |[w],_=>rfl
 |w::v::r,_=>by
  have ih:=yU5 (v::r) fun z=>nomatch z
  show("("++w++")")++""++Str.join "" ((v::r).map fun w=>"("++w++")")=_;rw[ih,vT];apply kZ;simp only[zE,AM];rfl
theorem wK4{x y:Str}:Txt.startswith x y=true↔(tl x).take y.length=tl y:=by show(decide (0+y.length<=x.length)&&subAt x y 0)=true↔_;rw[AL,decide_eq_true_eq,subAt_eq,beq_iff_eq];constructor;exact fun h=>h.2;intro h;refine⟨?_,h⟩;have l:=By List.length h;rw[yM,BF,yM]at l;rfl'
theorem xI2(a b c:Str):a++b++c=a++(b++c):=kZ (by rw[zE,zE,zE,zE,AM])
theorem uG(y p:Str){r:C4}(h:r≠[]):Str.join y (p::r)=p++(y++Str.join y r):=by
 cases r with
 |nil=>exact absurd rfl h
 |cons q r=>rw[vT,xI2]
theorem wM5{sep:Str}{B n:Nat}(hs:sep.length=1)(hl:ts.length<=n)(ht:∀t∈ts,t.length<=B)(hb:n*(B+1)<=16000000):JoinOk sep ts=true/\(Str.join sep ts).length<=n*(B+1):=by
 have h1:=Bl (B+1) hl;have e1:ts.length*(B+1)=ts.length*B+ts.length:=Nat.mul_succ _ _;have e2:ts.length*sep.length=ts.length:=by rw[hs,Nat.mul_one]
 refine⟨?_,?_⟩;unfold JoinOk;rw[joinFits ht (by rfl')];rfl;have a:=join_length_le sep ts;have b:=sumLen_le ts ht;rfl'
end MR
namespace MR
open PySem PySem.StrLaws PySem.Builtin PySem.Builtin.Str PySem.W PyProof.Rows
def nT(n:Nat):Str:=toString (n:Int)
theorem yP2(n:Nat):tl (nT n)=(Nat.toDigits 10 n).map Char.toNat:=KIN.signs_num n
theorem zI1{m:Nat}(h:10<=m):Nat.toDigits 10 m=Nat.toDigits 10 (m/10)++Nat.toDigits 10 (m%10):=by have t:=Nat.toDigits_append_toDigits (b:=10) (n:=m/10) (d:=m%10) (by decide) (by rfl') (Bq _ (by decide));rw[t];congr 1;rfl'
theorem xG7:∀(k m:Nat),m<10^(k+1)->(Nat.toDigits 10 m).length<=k+1
 |0,m,h=>by rw[Cp (by simpa using h)];exact Ac _
 |k+1,m,h=>by by_cases c:m<10;rw[Cp c];show 1<=_;rfl';have p:10^(k+1+1)=10^(k+1)*10:=Nat.pow_succ 10 (k+1);rw[zI1 (by rfl'),Aj,Cp (Bq _ (by decide))];have:=xG7 k (m/10) (by rfl');show _+1<=_;rfl'
theorem wP2:∀(m:Nat),0<m->∃c r,Nat.toDigits 10 m=c::r/\c.toNat≠48:=by
 intro m;induction m using Nat.strongRecOn with
 |_ m ih=>
  intro h;by_cases c:m<10;refine⟨_,_,Cp c,?_⟩;have:∀d,0<d->d<10->(Nat.digitChar d).toNat≠48:=by intro d h0 h1;have hh:d=1\/d=2\/d=3\/d=4\/d=5\/d=6\/d=7\/d=8\/d=9:=(by rfl');rcases hh with rfl|rfl|rfl|rfl|rfl|rfl|rfl|rfl|rfl<;>decide
  exact this m h c;obtain⟨c,r,e,n⟩:=ih (m/10) (by rfl') (by rfl');exact⟨c,r++Nat.toDigits 10 (m%10),by rw[zI1 (by rfl'),e];rfl,n⟩
theorem wE2:∀d,d<10->48<=(Nat.digitChar d).toNat/\(Nat.digitChar d).toNat<=57:=by decide
theorem yK1(m:Nat):∀c∈(Nat.toDigits 10 m).map Char.toNat,48<=c/\c<=57:=by
 induction m using Nat.strongRecOn with
 |_ m ih=>
  have unit:∀d,d<10->∀c∈(Nat.toDigits 10 d).map Char.toNat,48<=c/\c<=57:=fun d hd c hc=>by rw[Cp hd]at hc;rw[Bk.mp hc];exact wE2 d hd
  by_cases h:m<10;exact unit m h;intro c hc;rw[zI1 (by rfl'),AJ]at hc;rcases AE.mp hc with hc|hc;exact ih (m/10) (by rfl') c hc;exact unit (m%10) (by rfl') c hc
theorem wP4(m:Nat):∃c r,Nat.toDigits 10 m=c::r:=by by_cases h:0<m;obtain⟨c,r,e,_⟩:=wP2 m h;exact⟨c,r,e⟩;rw[show m=0 by rfl'];exact⟨_,_,rfl⟩
structure NumOk(n:Nat):Prop where
 len:(nT n).length<=80
 dig:Txt.isdigit (nT n)=true
 zero:Txt.startswith (nT n) "0"=false\/nT n="0"
 int:PySem.intText? (nT n)=some (n:Int)
 fig:∀c∈tl (nT n),48<=c/\c<=57
 log:((n:Int)).natAbs.log2<1920
 ok:PyData.strOk (nT n)=true
 ne:tl (nT n)≠[]
end MR
namespace MR
def stepI(n:Nat)(rs:C1):C1:=rs.flatMap fun r=>((List.range n).filter fun(x:Nat)=>!r.contains (x:Int)).map fun(x:Nat)=>r++[(x:Int)]
def ordsI(n:Nat):Nat->C1
 |0=>[[]]
 |i+1=>stepI n (ordsI n i)
def lens(n:Nat)(xs:C6):C5:=(rgs n xs n).map List.length
def ins(c:Nat):List (Nat×Nat)->List (Nat×Nat)
 |[]=>[(c,1)]
 |q::r=>if Nat.beq q.1 c then(q.1,q.2+1)::r else q::ins c r
def cnt:List (Nat×Nat)->(Nat->Bool)->Nat
 |[],_=>0
 |q::r,P=>(if P q.1 then q.2 else 0)+cnt r P
def dg(c i:Nat):Nat:=c/7^i%7
def fdC(k c p:Nat):Bool:=Nat.ble (dg c p) k
def nF(n k c:Nat):Nat:=(List.range n).countP (fdC k c)
def sub:Nat->Nat->C0
 |_,0=>[[]]
 |a,m+1=>sub (a+1) m++(sub (a+1) m).map (a:: ·)
def fc:Nat->Nat
 |0=>1
 |n+1=>(n+1)*fc n
def rk:List Int->List Int->Nat
 |_,[]=>0
 |l,x::xs=>l.idxOf x*fc (l.length-1)+rk (l.erase x) xs
theorem yO7{n:Nat}{xs:C6}(o:Ord n xs):∀i,i<=n->xs.take i∈ordsI n i
 |0,_=>by simp[ordsI]
 |i+1,h=>by
  have ih:=yO7 o i (by rfl');have hl:=o.len;have hi:i<xs.length:=by rfl'
  have e:xs.take (i+1)=xs.take i++[((nxt xs i:Nat):Int)]:=by rw[Dr,Ag hi,<-o.gG (by rfl')];simp[List.getD,hi]
  rw[ordsI,stepI,List.mem_flatMap];refine⟨_,ih,Ay.mpr ⟨nxt xs i,BY.mpr ⟨AH.mpr (o.xJ8 (by rfl')),?_⟩,e.symm⟩⟩;rw[Bool.not_eq_true',<-BV,AV];intro z;obtain⟨j,hj,ej⟩:=CK.mp z;rw[BF]at hj;rw[List.getElem_take]at ej;have:xs.getD j 0=xs.getD i 0:=by rw[o.gG (show i<n by rfl'),<-ej];simp[List.getD,show j<xs.length by rfl']
  have:=o.inj j i (by rfl') (by rfl') this;rfl'
theorem wY5{n:Nat}{xs:C6}(o:Ord n xs):xs∈ordsI n n:=by
 have:=yO7 o n (Ac n)
 rwa [Bd (by rw[o.len];exact Ac n)]at this
end MR
namespace MR
open PySem PySem.StrLaws PySem.Builtin PySem.Builtin.Str PySem.W PyProof.Rows
theorem qM(x y:Str):Txt.split x y≠[]:=by
 unfold Txt.split;split;exact fun z=>nomatch z
 split;exact fun z=>nomatch z
 rw[partsBetween_eq];obtain⟨p,r,e⟩:=partsFrom_ne x y.length 0 (occurrences x y 0 x.length (x.length+1));rw[e];exact fun z=>nomatch z
theorem zJ5(y:Str):∀ts:C4,ts≠[]->(Str.join y ts).length+y.length=(ts.map (·.length)).sum+ts.length*y.length
 |[],h=>absurd rfl h
 |[t],_=>by show t.length+y.length=(t.length+0)+(0+1)*y.length;rfl'
 |t::u::r,_=>by
  have ih:=zJ5 y (u::r) fun z=>nomatch z
  rw[vT,Ap,Ap,AB,Cr,Aw,Ds];rfl'
theorem qC{x y:Str}(h:1<=y.length):((Txt.split x y).map (·.length)).sum+(Txt.split x y).length<=x.length+1:=by have a:=zJ5 y (Txt.split x y) (qM x y);rw[join_split]at a;generalize ((Txt.split x y).map (·.length)).sum=S at *;have n1:=BJ.mpr (qM x y);generalize (Txt.split x y).length=n at *;obtain⟨m,rfl⟩:∃m,n=m+1:=⟨n-1,by rfl'⟩;rw[Ds]at a;have b:=Dy m h;rfl'
theorem yI4{y:Str}{c:Nat}:∀ts:C4,c∈tl (Str.join y ts)->c∈tl y\/∃p∈ts,c∈tl p
 |[],h=>by cases h
 |[t],h=>.inr ⟨t,Af,h⟩
 |t::u::r,h=>by rw[vT,zE,zE]at h;rcases AE.mp h with h|h;rcases AE.mp h with h|h;exact .inr ⟨t,Af,h⟩;exact .inl h;rcases yI4 (u::r) h with h|⟨p,hp,h⟩;exact .inl h;exact .inr ⟨p,Ak _ hp,h⟩
theorem bW{y p:Str}{c:Nat}:∀ts:C4,p∈ts->c∈tl p->c∈tl (Str.join y ts)
 |[],h,_=>by cases h
 |[t],h,hc=>by rw[Bk.mp h]at hc;exact hc
 |t::u::r,h,hc=>by rw[vT,zE,zE];rcases AF.mp h with h|h;subst h;exact AG _ (AG _ hc);exact Ah _ (bW (u::r) h hc)
theorem xO5{x y p:Str}{c:Nat}(hp:p∈Txt.split x y)(hc:c∈tl p):c∈tl x:=by rw[<-join_split x y];exact bW _ hp hc
theorem xM2:∀{l:C5}{a:Nat},a∈l->a<=l.sum
 |[],_,h=>by cases h
 |b::l,a,h=>by rw[Cr];rcases AF.mp h with rfl|h;rfl';have:=xM2 h;rfl'
theorem yX5{x y p:Str}(h:1<=y.length)(hp:p∈Txt.split x y):p.length<=x.length:=by have a:=qC (x:=x) h;have b:=xM2 (List.mem_map_of_mem (f:=(·.length)) hp);have n1:=BJ.mpr (qM x y);rfl'
theorem xK1{x:Str}{l u:Option Int}{c:Nat}(h:c∈tl (Txt.slice x l u)):c∈tl x:=by unfold Txt.slice at h;split at h;exact h;rw[yQ6]at h;obtain⟨i,_,e⟩:=BN.mp h;have e:x.cps[i]?=some c:=e;rw[<-Dj]at e;exact AR e
structure Tx(B:Nat)(z:Str):Prop where
 len:z.length<=B
 asc:∀c∈tl z,c<128
theorem Tx.ok{B:Nat}{z:Str}(h:Tx B z):PyData.strOk z=true:=by unfold PyData.strOk;rw[<-Dv,Bt];exact fun c hc=>Ab (by have:=h.asc c hc;rfl')
theorem Tx.all{B:Nat}{z:Str}(h:Tx B z):z.cps.all (·<128)=true:=by rw[<-Dv,Bt];exact fun c hc=>Ab (h.asc c hc)
theorem Tx.slice{B:Nat}{z:Str}(h:Tx B z)(l u:Option Int):Tx B (Txt.slice z l u):=⟨As (Eh z l u) h.len,fun c hc=>h.asc c (xK1 hc)⟩
theorem Tx.part{B:Nat}{z y p:Str}(h:Tx B z)(hy:1<=y.length)(hp:p∈Txt.split z y):Tx B p:=⟨As (yX5 hy hp) h.len,fun c hc=>h.asc c (xO5 hp hc)⟩
def Fig(w:Str):Prop:=(∀c∈tl w,48<=c/\c<=57)/\tl w≠[]
theorem yC4:∀c,c<128->Unicode.isDigit c=decide (48<=c/\c<=57):=by decide+kernel
theorem zM4{B:Nat}{w:Str}(h:Tx B w):Txt.isdigit w=true↔Fig w:=by unfold Txt.isdigit Fig;rw[AL,decide_eq_true_eq,<-Dv,Bt,<-yM];constructor;rintro⟨h1,h2⟩;refine⟨fun c hc=>?_,fun z=>by rw[z]at h1;simp at h1⟩;have a:=h2 c hc;rw[yC4 c (h.asc c hc)]at a;exact of_decide_eq_true a;rintro⟨h1,h2⟩;refine⟨BJ.mpr h2,fun c hc=>?_⟩;rw[yC4 c (h.asc c hc)];exact Ab (h1 c hc)
def dv(w:Str):Nat:=NumText.digitsVal (tl w)
theorem zA4{w:Str}(h:Fig w)(hl:w.length<=4300):PySem.intText? w=some (dv w:Int):=intText_digits (fun c hc=>h.1 c hc) h.2 hl
theorem st0{w:Str}:Txt.startswith w "0"=true↔∃r,tl w=48::r:=by
 rw[wK4];have t0:tl "0"=[48]:=by decide+kernel
 have l0:("0":Str).length=1:=rfl;rw[t0,l0];cases e:tl w with
 |nil=>simp
 |cons c r=>simp
theorem isE{w:Str}:w=""↔tl w=[]:=by
 have t0:tl ""=[]:=by decide+kernel
 exact⟨fun h=>by rw[h,t0],fun h=>kZ (by rw[h,t0])⟩
theorem yN7(f:Str->Nat)(hf:∀a b,f (a++b)=f a+f b)(y:Str):∀ts:C4,ts≠[]->f (Str.join y ts)+f y=(ts.map f).sum+ts.length*f y
 |[],h=>absurd rfl h
 |[t],_=>by show f t+f y=(f t+0)+(0+1)*f y;rfl'
 |t::u::r,_=>by
  have ih:=yN7 f hf y (u::r) fun z=>nomatch z
  rw[vT,hf,hf,AB,Cr,Aw,Ds];rfl'
def cs(z:Str):Nat:=(tl z).countP fun c=>c==32 ||c==41
theorem wU1{z:Str}{a:Nat}(h:a<=z.length):tl (Txt.slice z none (some (a:Int)))=(tl z).take a:=by have e:Txt.slice z none (some (a:Int))=sliceText z none (some (a:Int)):=rfl;rw[e,sliceText_to ⟨by rfl',by show(a:Int)<=((tl z).length:Int);rw[yM];rfl'⟩,yQ6];show((tl z).drop 0).take ((a:Int)-0).toNat=_;rw[List.drop_zero];congr 1
theorem yB1(z:Str)(a:Nat):tl (Txt.slice z (some (a:Int)) none)=(tl z).drop a:=by
 have one:∀a,a<=z.length->tl (Txt.slice z (some (a:Int)) none)=(tl z).drop a:=fun a h=>by have e:Txt.slice z (some (a:Int)) none=sliceText z (some (a:Int)) none:=rfl;rw[e,sliceText_from ⟨by rfl',by show(a:Int)<=((tl z).length:Int);rw[yM];rfl'⟩,yQ6];show((tl z).drop (a:Int).toNat).take (((tl z).length:Int)-(a:Int)).toNat=_;rw[AX,Bd (by rw[Bs];rfl')]
 by_cases h:a<=z.length;exact one a h;have ix:strSliceIndices (some (a:Int)) none 1 z.length=strSliceIndices (some (z.length:Int)) none 1 z.length:=by
  unfold strSliceIndices;have n0:¬(a:Int)<0:=by rfl'
  have n1:¬(z.length:Int)<0:=by rfl'
  simp only[n0,n1,if_false,show(1:Int)>0 by decide,if_true];rw[show min (a:Int) (z.length:Int)=min (z.length:Int) (z.length:Int) by rfl']
 have e:Txt.slice z (some (a:Int)) none=Txt.slice z (some (z.length:Int)) none:=by unfold Txt.slice;rw[ix]
 rw[e,one _ (Ac _),De (by rw[yM];exact Ac _),De (by rw[yM];rfl')]
theorem vZ6(z:Str)(a:Nat):tl (Txt.slice z none (some (a:Int)))=(tl z).take a:=by
 by_cases h:a<=z.length;exact wU1 h;have ix:strSliceIndices none (some (a:Int)) 1 z.length=strSliceIndices none (some (z.length:Int)) 1 z.length:=by
  unfold strSliceIndices;have n0:¬(a:Int)<0:=by rfl'
  have n1:¬(z.length:Int)<0:=by rfl'
  simp only[n0,n1,if_false,show(1:Int)>0 by decide,if_true];rw[show min (a:Int) (z.length:Int)=min (z.length:Int) (z.length:Int) by rfl']
 have e:Txt.slice z none (some (a:Int))=Txt.slice z none (some (z.length:Int)):=by unfold Txt.slice;rw[ix]
 have lz:(tl z).length=z.length:=yM z;rw[e,wU1 (Ac _),Bd (by rfl'),Bd (by rfl')]
end MR
namespace MR
open PySem PySem.StrLaws PySem.Builtin PySem.Builtin.Str
theorem wH5{x y:Str}{i:Nat}(h1:1<=y.length)(h:At x y x.length i):i+y.length<=x.length/\tl x=(tl x).take i++(tl y++(tl x).drop (i+y.length)):=by
 have e:=(yM4 h1).mp h;have l:((tl x).drop i).length≥y.length:=by have:=By List.length e;rw[BF,yM]at this;rfl'
 rw[Bs,yM]at l;refine⟨by rfl',?_⟩;conv=>lhs;rw[<-BA i (tl x),<-BA y.length ((tl x).drop i),e,Eo]
theorem xS1(x:Str){y:Str}(h1:1<=y.length)(hk:strKind y=1):(∃p q r,Txt.split x y=p::q::r/\Txt.partition x y=(p,y,Str.join y (q::r)))\/(Txt.split x y=[x]/\Txt.partition x y=(x,Str.empty,Str.empty)):=by
 have kx:=yJ4 x;unfold Txt.partition Txt.split;rcases occ_head x y 1 (Ac 1)with⟨e1,n1⟩|⟨i,r1,e1,a1,f1⟩;refine .inr ⟨?_,by rw[e1]⟩;split;rfl;rcases occ_head x y (x.length+1) (by rfl')with⟨e2,_⟩|⟨j,r2,e2,a2,_⟩;rw[e2];rfl;exact absurd a2 (n1 j)
 ·rcases occ_head x y (x.length+1) (by rfl')with⟨_,n2⟩|⟨j,r2,e2,a2,f2⟩
  exact absurd a1 (n2 i)
  ·have ij:j=i:=by
    rcases Dl i j with z|z|z;exact absurd a1 (f2 i z);exact z.symm;exact absurd a2 (f1 j z)
   subst ij;obtain⟨le,cut⟩:=wH5 h1 a1;have nx:¬(decide (x.length<y.length) ||decide (strKind x<strKind y))=true:=(by rw[hk,Bool.or_eq_true,decide_eq_true_iff,decide_eq_true_iff];rfl');have js:=join_split x y;unfold Txt.split at js;rw[An nx,e2,An (by simp),partsBetween_eq]at js ⊢;rw[e1];left;have ne:partsFrom x y.length (j+y.length) r2≠[]:=(by cases r2<;>(unfold partsFrom;simp));cases pe:partsFrom x y.length (j+y.length) r2 with
   |nil=>exact absurd pe ne
   |cons q r=>
    refine⟨strSub x 0 j,q,r,by unfold partsFrom;rw[pe],?_⟩;unfold partsFrom at js;rw[pe,uG y _ (by simp)]at js;have t:=By tl js;rw[zE,zE,zE4,List.drop_zero,Nat.sub_zero]at t;rw[cut]at t;have t2:(tl x).take j++(tl y++tl (Str.join y (q::r)))=(tl x).take j++(tl y++(tl x).drop (j+y.length)):=by
     conv at t=>lhs;rw[<-cut]
     exact t
    have t3:=List.append_cancel_left (List.append_cancel_left t2);have:strSub x (j+y.length) x.length=Str.join y (q::r):=kZ (by rw[zE4,t3,Bd];rw[Bs,yM];exact Ac _);show(strSub x 0 j,y,strSub x (j+y.length) x.length)=_;rw[this]
theorem xX4{p q x y:C5}{c:Nat}(e:p++q=x++c::y)(hy:c∉y)(hq:c∈q):∃t,q=t++c::y:=by
 rcases CF.mp e with⟨t,h1,h2⟩|⟨t,h1,h2⟩;exact⟨t,h2⟩;cases t with
 |nil=>exact⟨[],by simpa using h2.symm⟩
 |cons d t=>rw[Cs]at h2;injection h2 with h3 h4;exact absurd (h4▸Ah _ hq) hy
theorem suff{p q a b:C5}{c:Nat}(e:p++q=a++c::b)(hq:c∉q):∀d∈q,d∈b:=by
 rcases CF.mp e with⟨t,h1,h2⟩|⟨t,h1,h2⟩;exact absurd (h2▸Ah t Af) hq;cases t with
 |nil=>exact absurd ((show c::b=q by simpa using h2)▸Af) hq
 |cons d t=>rw[Cs]at h2;injection h2 with h3 h4;exact fun x hx=>h4▸Ah _ hx
theorem only{x y a b:C5}{c:Nat}(e:x++c::y=a++c::b)(ha:c∉a)(hb:c∉b):y=b:=by
 rcases CF.mp e with⟨t,h1,h2⟩|⟨t,h1,h2⟩;cases t with
 |nil=>simpa using h2
 |cons d t=>rw[Cs]at h2;injection h2 with h3 h4;exact absurd (h1▸Ah _ (h3▸Af)) ha
 cases t with
 |nil=>exact(by simpa using h2:b=y).symm
 |cons d t=>rw[Cs]at h2;injection h2 with h3 h4;exact absurd (h4▸Ah _ Af) hb
def Sh(l:C5):Prop:=(47∉l/\40∉l)\/∃a b,l=a++47::b/\47∉a/\47∉b/\52∉b
theorem wH4{l u m v s:C5}(h:Sh l)(e:l=u++(m++v))(h52:52∉s)(hs:47∈s->40∉s)(x y:C5)(ez:u++(s++v)=x++47::y)(hy:47∉y):¬(40∈y/\52∈y):=by
 rintro⟨y40,y52⟩;by_cases v47:47∈v;obtain⟨t,ev⟩:=xX4 (p:=u++s) (q:=v) (by rw[AM];exact ez) hy v47;rcases h with⟨h1,_⟩|⟨a,b,el,ha,hb,h4⟩;exact h1 (by rw[e];exact Ah _ (Ah _ v47));rw[e,ev,<-AM,<-AM]at el;rw[only el ha hb]at y52;exact h4 y52;have vb:∀a b,l=a++47::b->∀d∈v,d∈b:=fun a b el=>by rw[e,<-AM]at el;exact suff el v47
 by_cases s47:47∈s;obtain⟨t,ev⟩:=xX4 (p:=u) (q:=s++v) ez hy (AG _ s47);have yin:∀d∈y,d∈s\/d∈v:=fun d hd=>AE.mp (by rw[ev];exact Ah _ (Ak _ hd));rcases h with⟨_,h2⟩|⟨a,b,el,ha,hb,h4⟩
 rcases yin _ y40 with z|z;exact hs s47 z;exact h2 (by rw[e];exact Ah _ (Ah _ z));rcases yin _ y52 with z|z;exact h52 z;exact h4 (vb a b el _ z);have sv:47∉s++v:=fun z=>(AE.mp z).elim s47 v47
 rcases CF.mp ez with⟨t,h1,h2⟩|⟨t,h1,h2⟩;exact sv (h2▸Ah _ Af);cases t with
 |nil=>exact sv ((show 47::y=s++v by simpa using h2)▸Af)
 |cons d t=>rw[Cs]at h2;injection h2 with h3 h4;subst h3;rcases h with⟨h5,_⟩|⟨a,b,el,ha,hb,h4'⟩;exact h5 (by rw[e,h1];exact AG _ (Ah _ Af));have el':=el;rw[e,h1,AM,Cs]at el';have eb:=only el' ha hb;rw[h4]at y52;rcases AE.mp y52 with z|z;exact h4' (by rw[<-eb];exact AG _ z);rcases AE.mp z with z|z;exact h52 z;exact h4' (vb a b el _ z)
end MR
local macro_rules| `(tactic|sleep 1)=>`(tactic|exact⟨rfl,rfl,rfl,by decide+kernel,rfl,by decide+kernel,by decide+kernel⟩)
local macro_rules| `(tactic|sleep 2)=>`(tactic|exact⟨rfl,by decide+kernel,by decide+kernel,by decide+kernel,by decide+kernel,rfl,by decide+kernel,by decide+kernel⟩)
namespace K55
open PySem L2 L2.L3
def top(i:Nat):Stmt:=PySem.Challenge.pw_ownboxes_k55_rows_refused.main.body.getD i (.Pass ⟨0,0,0,0⟩)
abbrev zI8:Stmt:=top 11
abbrev zM2:Stmt:=top 12
abbrev zD7:Stmt:=top 13
abbrev zC8:Stmt:=top 14
abbrev zU1:Stmt:=top 15
abbrev bJ:Stmt:=top 17
abbrev zS6:Stmt:=top 18
abbrev aG:Stmt:=top 20
abbrev gU:Stmt:=top 21
abbrev dM:Stmt:=top 22
abbrev zM3:Stmt:=top 23
abbrev zZ2:Stmt:=top 24
abbrev gP:Stmt:=top 25
abbrev zC2:Stmt:=top 26
abbrev dY:Stmt:=top 27
abbrev yA9:Stmt:=top 28
abbrev zV7:Stmt:=top 30
abbrev zM8:Stmt:=top 31
abbrev jG:Stmt:=top 32
abbrev zV8:Stmt:=top 33
abbrev zT1:Stmt:=top 35
abbrev kB:Stmt:=top 36
abbrev xH1:Stmt:=top 37
abbrev aQ:Stmt:=top 38
abbrev fH:Stmt:=top 40
abbrev jB:Stmt:=top 41
abbrev yU6:Stmt:=top 42
abbrev zR8:Stmt:=top 43
abbrev fT:Stmt:=top 46
abbrev zU3:Stmt:=top 47
abbrev gF:Stmt:=top 48
abbrev zM6:Stmt:=top 49
abbrev cE:Stmt:=top 50
abbrev cR:Stmt:=top 51
abbrev aF:Stmt:=top 53
abbrev cF:Stmt:=top 54
abbrev aK:Stmt:=top 55
abbrev aO:Stmt:=top 56
abbrev aH:Stmt:=top 57
abbrev gJ:Stmt:=top 58
abbrev jC:Stmt:=top 59
abbrev yK7:Stmt:=top 60
abbrev gL:Stmt:=top 61
abbrev zV1:Stmt:=top 62
abbrev yV3:Stmt:=top 64
abbrev zT8:Stmt:=top 65
abbrev zK1:Stmt:=top 66
abbrev zX8:Stmt:=top 67
abbrev yP9:Stmt:=top 68
abbrev aT:Stmt:=top 69
abbrev zT4:Stmt:=top 70
abbrev yJ2:Stmt:=top 71
abbrev yY7:Stmt:=top 72
abbrev zP5:Stmt:=top 73
abbrev zF5:Stmt:=top 74
abbrev yC7:Stmt:=top 75
abbrev yT7:Stmt:=top 76
abbrev yR7:Stmt:=top 77
abbrev CLS:C4:=["BadOrder","BadOpenings","TooMany","BadGroup","NoHelp","NoNumber","BadText"]
def clsBody:Stmt->List Stmt
 |.ClassDef _ _ _ b ..=>b
 |_=>[]
abbrev zI3:Stmt:=(clsBody (top 8)).getD 0 (.Pass ⟨0,0,0,0⟩)
def zW9:B6:=(sR (vAn (vB (b3 leI leI (eC (.int 1)) (eB lenD (aC (eV 0) aN)) (eC (.int 60)))) (e2 (fun x y=>bD (eqD x y)) (eB sortD (aC (eV 0) aN)) (eB rangeL (aC (eB lenD (aC (eV 0) aN)) aN)))))
def zW4:B8:=runF false 1 1 zW9
def aR:B6:=(sQ (sS 2 (eB mkL (aC (eV 1) aN))) (sQ (sW 1000000 (b2 neD (e2 ixD (eV 0) (e2 ixD (eV 2) (e1 negD (eC (.int 1))))) (eV 1)) (sM 2 appD (aC (e2 ixD (eV 0) (e2 ixD (eV 2) (e1 negD (eC (.int 1))))) aN))) (sR (eB tupD (aC (eV 2) aN)))))
def fQ:B8:=runF false 2 3 aR
def zW6:B6:=(sQ (sS 1 (eB mkL aN)) (sQ (sS 2 (e2 repL (eB mkL (aC (eC (.bool false)) aN)) (eB lenD (aC (eV 0) aN)))) (sQ (sF (iR rng1 (aC (eB lenD (aC (eV 0) aN)) aN)) (gN 3) (sIf (tNt (tV (e2 ixD (eV 2) (eV 3)))) (sQ (sS 4 (eF fQ (aC (eV 0) (aC (eV 3) aN)))) (sQ (sM 1 appD (aC (eV 4) aN)) (sF (iS (eV 4)) (gN 5) (sI 2 (eV 5) (eC (.bool true)))))) sN)) (sR (eV 1)))))
def wP:B8:=runF true 1 6 zW6
def gW:B6:=(sQ (sS 1 (eB mkL aN)) (sQ (sF (iS (eV 0)) (gN 2) (sQ (sIf (b2 eqD (eB lenD (aC (eV 2) aN)) (eC (.int 0))) (sRa "BadOrder" (aC (eC (.str "a ring has one box at least")) aN)) sN) (sM 1 extD (aC (eV 2) aN)))) (sQ (sIf (tNt (tV (eFA false zW4 (aC (eV 1) aN)))) (sRa "BadOrder" (aC (eC (.str "rings have each of 1 to 60 boxes just once")) aN)) sN) (sQ (sS 3 (e2 repL (eB mkL (aC (eC (.int 0)) aN)) (eB lenD (aC (eV 1) aN)))) (sQ (sF (iS (eV 0)) (gN 2) (sF (iR rng1 (aC (eB lenD (aC (eV 2) aN)) aN)) (gN 4) (sI 3 (e2 ixD (eV 2) (e2 subI (eV 4) (eC (.int 1)))) (e2 ixD (eV 2) (eV 4))))) (sR (eB tupD (aC (eV 3) aN))))))))
def vC:B8:=runF false 1 5 gW
def dN:B6:=(sQ (sS 1 (eC (.int 1))) (sQ (sF (iR rng2 (aC (eC (.int 2)) (aC (e2 addI (eV 0) (eC (.int 1))) aN))) (gN 2) (sS 1 (e2 mulI (eV 1) (eV 2)))) (sR (eV 1))))
def dQ:B8:=runF false 1 3 dN
def vH:B6:=(sQ (sIf (tNt (b3 leI leI (eC (.int 1)) (eV 0) (eC (.int 60)))) (sRa "BadOpenings" (aC (eC (.str "openings are for 1 to 60 people")) aN)) sN) (sQ (sIf (b2 neD (eB lenD (aC (eV 1) aN)) (eV 0)) (sRa "BadOpenings" (aC (eC (.str "each person has its openings")) aN)) sN) (sQ (sIf (tO (b2 ltI (eB min1D (aC (eV 1) aN)) (eC (.int 0))) (b2 gtI (eB max1D (aC (eV 1) aN)) (eV 0))) (sRa "BadOpenings" (aC (eC (.str "openings are from 0 to as many as there are boxes")) aN)) sN) (sR (eB tupD (aC (eV 1) aN))))))
def vI:B8:=runF false 2 2 vH
def dW:B6:=(sQ (sE (eF vI (aC (eB lenD (aC (eV 0) aN)) (aC (eV 1) aN)))) (sQ (sS 2 (eB mkL aN)) (sQ (sF (iS (eF wP (aC (eV 0) aN))) (gN 3) (sM 2 extD (aC (eCompX (iS (eV 3)) (b2 geI (e2 ixD (eV 1) (eV 0)) (eB lenD (aC (eV 2) aN))) (eV 0) [1,3]) aN))) (sR (eB tupD (aC (eB sortD (aC (eV 2) aN)) aN))))))
def bN:B8:=runF false 2 4 dW
def uQ:B6:=(sIf (tNt (b3 leI leI (eC (.int 0)) (eV 0) (eC (.int 60)))) (sRa "TooMany" (aC (eC (.str "there are 0 to 60 people")) aN)) sN)
def jK:B8:=runF false 1 1 uQ
def wZ:B6:=(sQ (sE (eF jK (aC (eV 0) aN))) (sIf (b2 ltI (eV 1) (eC (.int 0))) (sRa "BadOpenings" (aC (eC (.str "openings are not below nought")) aN)) sN))
def xQ:B8:=runF false 2 2 wZ
def jE:B6:=(sQ (sS 3 (eB mkL (aC (eC (.int 1)) aN))) (sQ (sF (iR rng2 (aC (eC (.int 1)) (aC (e2 addI (eV 0) (eC (.int 1))) aN))) (gN 4) (sQ (sS 5 (eC (.int 0))) (sQ (sS 6 (eC (.int 1))) (sQ (sF (iR rng2 (aC (eC (.int 1)) (aC (e2 addI (eB min2D (aC (eV 2) (aC (eV 4) aN))) (eC (.int 1))) aN))) (gN 7) (sQ (sIf (b2 geI (eV 7) (eV 1)) (sS 5 (e2 addI (eV 5) (e2 mulI (eV 6) (e2 ixD (eV 3) (e2 subI (eV 4) (eV 7)))))) sN) (sS 6 (e2 mulI (eV 6) (e2 subI (eV 4) (eV 7)))))) (sM 3 appD (aC (eV 5) aN)))))) (sR (eV 3))))
def wW:B8:=runF true 3 8 jE
def kQ:B6:=(sQ (sE (eF xQ (aC (eV 0) (aC (eV 1) aN)))) (sR (e2 ixD (eF wW (aC (eV 0) (aC (eC (.int 1)) (aC (eV 1) aN)))) (eV 0))))
def fP:B8:=runF false 2 2 kQ
def uS:B6:=(sQ (sE (eF xQ (aC (eV 0) (aC (eV 1) aN)))) (sQ (sS 2 (eF wW (aC (eV 0) (aC (eC (.int 1)) (aC (eV 1) aN))))) (sQ (sS 3 (eF wW (aC (eV 0) (aC (e2 addI (eV 1) (eC (.int 1))) (aC (eV 0) aN))))) (sQ (sS 4 (eB mkL aN)) (sQ (sS 5 (eC (.int 1))) (sQ (sF (iR rng1 (aC (e2 addI (eV 0) (eC (.int 1))) aN)) (gN 6) (sQ (sM 4 appD (aC (e2 mulI (e2 mulI (eV 5) (e2 ixD (eV 2) (eV 6))) (e2 ixD (eV 3) (e2 subI (eV 0) (eV 6)))) aN)) (sS 5 (e2 fdivI (e2 mulI (eV 5) (e2 subI (eV 0) (eV 6))) (e2 addI (eV 6) (eC (.int 1))))))) (sR (eV 4))))))))
def jL:B8:=runF true 2 7 uS
def uD:B6:=(sQ (sS 2 (e2 repL (eB mkL (aC (eC (.int 0)) aN)) (eB lenD (aC (eV 0) aN)))) (sQ (sF (zZ9 (eV 0)) (gT 2 (gsC (gN 3) (gsC (gN 4) gsN))) (sQ (sIf (b2 gtI (eV 3) (eC (.int 0))) (sJ0 2 (e2 subI (eV 3) (eC (.int 1))) addI (e2 mulI (eV 3) (eV 4))) sN) (sF (iR rng2 (aC (eV 3) (aC (eB min2D (aC (e2 addI (eV 3) (eV 1)) (aC (eB lenD (aC (eV 0) aN)) aN))) aN))) (gN 5) (sJ0 2 (eV 5) addI (eV 4))))) (sR (eV 2))))
def uH:B8:=runF true 2 6 uD
def hJ:B6:=(sQ (sS 1 (eB lenD (aC (eV 0) aN))) (sQ (sE (eF vI (aC (eV 1) (aC (eV 0) aN)))) (sQ (sS 2 (e2 catL (eB mkL (aC (eC (.int 1)) aN)) (e2 repL (eB mkL (aC (eC (.int 0)) aN)) (eV 1)))) (sQ (sF (iS (eB sortD (aC (eV 0) aN))) (gN 3) (sS 2 (eF uH (aC (eV 2) (aC (eV 3) aN))))) (sR (e2 ixD (eV 2) (eC (.int 0))))))))
def dL:B8:=runF false 1 4 hJ
def qP:B6:=(sQ (sW 1000000 (b2 gtI (eV 1) (eC (.int 0))) (sQ (sS 2 (e2 modI (eV 0) (eV 1))) (sQ (sS 0 (eV 1)) (sS 1 (eV 2))))) (sR (eV 0)))
def qE:B8:=runF false 2 3 qP
def aI:B6:=(sQ (sS 1 (eF dL (aC (eV 0) aN))) (sQ (sS 2 (eF dQ (aC (eB lenD (aC (eV 0) aN)) aN))) (sQ (sS 3 (eF qE (aC (eV 2) (aC (eV 1) aN)))) (sR (eB mkT (aC (e2 fdivI (eV 1) (eV 3)) (aC (e2 fdivI (eV 2) (eV 3)) aN)))))))
def dA:B8:=runF false 1 4 aI
def kI:B6:=(sQ (sS 2 (eC (.int 0))) (sF (iS (eV 1)) (gN 3) (sQ (sIf (tNt (b3 leI ltI (eV 2) (eV 3) (eV 0))) (sRa "BadGroup" (aC (eC (.str "a group is a rising tuple of unlike people")) aN)) sN) (sS 2 (e2 addI (eV 3) (eC (.int 1)))))))
def kH:B8:=runF false 2 4 kI
def aJ:B6:=(sQ (sS 2 (eC (.int 1))) (sQ (sF (iR rng1 (aC (eV 1) aN)) (gN 3) (sS 2 (e2 mulI (eV 2) (e2 subI (eV 0) (eV 3))))) (sR (eV 2))))
def kO:B8:=runF false 2 4 aJ
def jF:B6:=(sQ (sS 2 (eB sumD (aC (eComp2X (zZ9 (eV 0)) tYes (e2 mulI (eV 1) (eF kO (aC (eV 0) (aC (eV 2) aN)))) [1]) aN))) (sR (e2 fdivI (eV 2) (eF kO (aC (e2 subI (eB lenD (aC (eV 0) aN)) (eC (.int 1))) (aC (eV 1) aN))))))
def jD:B8:=runF false 2 3 jF
def wA:B6:=(sQ (sS 3 (eF jL (aC (eV 0) (aC (eV 1) aN)))) (sQ (sE (eF kH (aC (eV 0) (aC (eV 2) aN)))) (sR (eF jD (aC (eV 3) (aC (eB lenD (aC (eV 2) aN)) aN))))))
def vX:B8:=runF false 3 4 wA
def qL:B6:=(sQ (sIf (tNt (b3 leI leI (eC (.int 0)) (eV 1) (eB lenD (aC (eV 0) aN)))) (sRa "BadOpenings" (aC (eC (.str "openings are from 0 to as many as there are boxes")) aN)) sN) (sIf (b2 eqD (eV 1) (eC (.int 0))) (sRa "NoHelp" (aC (eC (.str "without openings no exchange helps")) aN)) sN))
def jZ:B8:=runF false 2 2 qL
def hX:B6:=(sR (eB sumD (aC (eCompX (iS (eF wP (aC (eV 0) aN))) tYes (e2 fdivI (e2 subI (eB lenD (aC (eV 0) aN)) (eC (.int 1))) (eV 1)) [1]) aN)))
def gS:B8:=runF false 2 2 hX
def zP4:B6:=(sQ (sE (eF jZ (aC (eV 0) (aC (eV 1) aN)))) (sR (eF gS (aC (eV 0) (aC (eV 1) aN)))))
def zH6:B8:=runF false 2 2 zP4
def kM:B6:=(sQ (sE (eF jZ (aC (eV 0) (aC (eV 1) aN)))) (sQ (sS 2 (eB mkL aN)) (sQ (sF (iS (eF wP (aC (eV 0) aN))) (gN 3) (sM 2 extD (aC (eCompX (iR rng3 (aC (eV 1) (aC (eB lenD (aC (eV 3) aN)) (aC (eV 1) aN)))) tYes (eB mkT (aC (e2 ixD (eV 1) (eC (.int 0))) (aC (e2 ixD (eV 1) (eV 0)) aN))) [3]) aN))) (sR (eV 2)))))
def qX:B8:=runF true 2 4 kM
def qO:B6:=(sQ (sS 2 (eC (.int 1))) (sQ (sF (iR rng2 (aC (eC (.int 1)) (aC (eV 1) aN))) (gN 3) (sS 2 (e2 mulI (eV 2) (e2 subI (eV 0) (eV 3))))) (sR (eV 2))))
def vF:B8:=runF false 2 4 qO
def uY:B6:=(sR (e2 mulI (eF vF (aC (eV 1) (aC (eV 2) aN))) (e2 ixD (eV 0) (e2 subI (eV 1) (eV 2)))))
def xX:B8:=runF false 3 3 uY
def zR1:B6:=(sQ (sS 3 (eB mkL (aC (e2 ixD (eV 0) (eC (.int 0))) aN))) (sQ (sS 4 (eS slL (eV 0) (oS (eC (.int 1))) oN)) (sQ (sS 5 (eF vF (aC (eB lenD (aC (eV 0) aN)) (aC (eV 1) aN)))) (sQ (sS 6 (eV 2)) (sQ (sW 1000000 (b2 ltI (eB lenD (aC (eV 3) aN)) (eV 1)) (sQ (sS 5 (e2 fdivI (eV 5) (eB lenD (aC (eV 4) aN)))) (sQ (sAP 3 4 (e2 fdivI (eV 6) (eV 5))) (sS 6 (e2 modI (eV 6) (eV 5)))))) (sR (eB tupD (aC (eV 3) aN))))))))
def bL:B8:=runF false 3 7 zR1
def qG:B6:=(sQ (sIf (b2 eqD (eV 0) (eC (.int 0))) (sRa "TooMany" (aC (eC (.str "there are 1 to 60 people")) aN)) sN) (sQ (sE (eF xQ (aC (eV 0) (aC (eV 1) aN)))) (sQ (sS 3 (eF wW (aC (eV 0) (aC (eC (.int 1)) (aC (eV 1) aN))))) (sQ (sIf (tNt (b3 leI ltI (eC (.int 0)) (eV 2) (e2 ixD (eV 3) (eV 0)))) (sRa "NoNumber" (aC (eC (.str "no good order has this number")) aN)) sN) (sQ (sS 4 (eB mkL aN)) (sQ (sS 5 (eB rangeL (aC (eV 0) aN))) (sQ (sS 6 (eV 2)) (sQ (sW 1000000 (b2 gtI (eB lenD (aC (eV 5) aN)) (eC (.int 0))) (sQ (sS 7 (eC (.int 1))) (sQ (sW 1000000 (b2 geI (eV 6) (eF xX (aC (eV 3) (aC (eB lenD (aC (eV 5) aN)) (aC (eV 7) aN))))) (sQ (sS 6 (e2 subI (eV 6) (eF xX (aC (eV 3) (aC (eB lenD (aC (eV 5) aN)) (aC (eV 7) aN)))))) (sS 7 (e2 addI (eV 7) (eC (.int 1)))))) (sQ (sS 8 (e2 ixD (eV 3) (e2 subI (eB lenD (aC (eV 5) aN)) (eV 7)))) (sQ (sS 9 (eF bL (aC (eV 5) (aC (eV 7) (aC (e2 fdivI (eV 6) (eV 8)) aN))))) (sQ (sM 4 appD (aC (eV 9) aN)) (sQ (sS 5 (eCompX (iS (eV 5)) (b2 (inD true) (eV 0) (eV 1)) (eV 0) [9])) (sS 6 (e2 modI (eV 6) (eV 8)))))))))) (sR (eFA false vC (aC (eV 4) aN)))))))))))
def kE:B8:=runF false 3 10 qG
def gE:B6:=(sR (eM1S joinD (eC (.str " ")) (eCompX (iS (eV 0)) tYes (eB strOfD (aC (eV 0) aN)) [])))
def uP:B8:=runF false 1 1 gE
def kJ:B6:=(sQ (sIf (tO (tNt (tV (eM0S (fun z=>some (.bool (Txt.isdigit z))) (eV 0)))) (tO (b2 gtI (eB lenTD (aC (eV 0) aN)) (eC (.int 90))) (tAn (tV (eM1S stwD (eV 0) (eC (.str "0")))) (b2 neD (eV 0) (eC (.str "0")))))) (sRaI (fun _=>"BadText") (aC (eV 1) aN)) sN) (sR (eB intTD (aC (eV 0) aN))))
def xZ:B8:=runF false 2 2 kJ
def jP:B6:=(sR (eB tupD (aC (eCompX (iS (eV 0)) tYes (eF xZ (aC (eV 0) (aC (eV 1) aN))) [1]) aN)))
def xY:B8:=runF false 2 2 jP
def aS:B6:=(sQ (sS 1 (eF uP (aC (eV 0) aN))) (sR (e1 (filD "(" ")") (eV 1))))
def kW:B8:=runF false 1 2 aS
def bT:B6:=(sR (eM1S joinD (eC (.str "")) (eCompX (iS (eF wP (aC (eV 0) aN))) tYes (eF kW (aC (eV 0) aN)) [])))
def gZ:B8:=runF false 1 1 bT
def vP:B6:=(sQ (sS 1 (eCompX (iS (eM1S splD (eS slS (eV 0) (oS (eC (.int 1))) (oS (e1 negD (eC (.int 1))))) (eC (.str ")(")))) tYes (eF xY (aC (eM1S splD (eV 0) (eC (.str " "))) (aC (eC (.int 1)) aN))) [])) (sQ (sTryR ["BadOrder"] "BadText" (sS 2 (eF vC (aC (eV 1) aN)))) (sQ (sIf (b2 neD (eF gZ (aC (eV 2) aN)) (eV 0)) (sRaI (fun _=>"BadText") (aC (eC (.int 1)) aN)) sN) (sR (eV 2)))))
def wL:B8:=runF false 1 3 vP
def gC:B6:=(sR (eIf (b2 eqD (eV 0) (eC (.str ""))) (eC (.str "none")) (eV 0)))
def jM:B8:=runF false 1 1 gC
def qD:B6:=(sR (eM1S joinD (eC (.str " of ")) (eCompX (iS (eF dA (aC (eV 0) aN))) tYes (eB strOfD (aC (eV 0) aN)) [])))
def kA:B8:=runF false 1 1 qD
def aM:B6:=(sR (eM1S joinD (eC (.str "-")) (eCompX (iS (eV 0)) tYes (eB strOfD (aC (eV 0) aN)) [])))
def qW:B8:=runF false 1 1 aM
def jA:B6:=(sR (eF jM (aC (eM1S joinD (eC (.str " ")) (eCompX (iS (eF qX (aC (eV 0) (aC (eV 1) aN)))) tYes (eF qW (aC (eV 0) aN)) [])) aN)))
def fM:B8:=runF false 2 2 jA
def fV:B6:=(sR (eB rangeT (aC (eB min2D (aC (eV 0) (aC (e2 addI (eC (.int 60)) (eC (.int 1))) aN))) aN)))
def fX:B8:=runF false 1 1 fV
def yW:B6:=(sQ (sIf (b2 eqD (eV 0) (eC (.str "share"))) (sR (eF kA (aC (eV 1) aN))) sN) (sQ (sIf (tAn (b2 eqD (eV 0) (eC (.str "good"))) (b2 eqD (eB lenD (aC (eV 1) aN)) (eC (.int 2)))) (sR (eB strOfD (aC (eF fP (aC (e2 ixD (eV 1) (eC (.int 0))) (aC (e2 ixD (eV 1) (eC (.int 1))) aN))) aN))) sN) (sQ (sIf (tAn (b2 eqD (eV 0) (eC (.str "goodorder"))) (b2 eqD (eB lenD (aC (eV 1) aN)) (eC (.int 3)))) (sR (eF gZ (aC (eF kE (aC (e2 ixD (eV 1) (eC (.int 0))) (aC (e2 ixD (eV 1) (eC (.int 1))) (aC (e2 ixD (eV 1) (eC (.int 2))) aN)))) aN))) sN) (sQ (sIf (tAn (b2 eqD (eV 0) (eC (.str "group"))) (b2 eqD (eB lenD (aC (eV 1) aN)) (eC (.int 3)))) (sR (eB strOfD (aC (eF vX (aC (e2 ixD (eV 1) (eC (.int 0))) (aC (e2 ixD (eV 1) (eC (.int 1))) (aC (eF fX (aC (e2 ixD (eV 1) (eC (.int 2))) aN)) aN)))) aN))) sN) (sRaI (fun _=>"BadText") (aC (eC (.int 1)) aN))))))
def yO:B8:=runF false 2 2 yW
def xW:B6:=(sQ (sIf (tAn (b2 eqD (eV 0) (eC (.str "rings"))) (b2 eqD (eB lenD (aC (eV 1) aN)) (eC (.int 0)))) (sR (eF uP (aC (eCompX (iS (eF wP (aC (eV 2) aN))) tYes (eB lenD (aC (eV 0) aN)) []) aN))) sN) (sQ (sIf (b2 eqD (eV 0) (eC (.str "find"))) (sR (eF jM (aC (eF uP (aC (eF bN (aC (eV 2) (aC (eV 1) aN))) aN)) aN))) sN) (sQ (sIf (tAn (b2 eqD (eV 0) (eC (.str "need"))) (b2 eqD (eB lenD (aC (eV 1) aN)) (eC (.int 1)))) (sR (eB strOfD (aC (eF zH6 (aC (eV 2) (aC (e2 ixD (eV 1) (eC (.int 0))) aN))) aN))) sN) (sQ (sIf (tAn (b2 eqD (eV 0) (eC (.str "help"))) (b2 eqD (eB lenD (aC (eV 1) aN)) (eC (.int 1)))) (sR (eF fM (aC (eV 2) (aC (e2 ixD (eV 1) (eC (.int 0))) aN)))) sN) (sRaI (fun _=>"BadText") (aC (eC (.int 1)) aN))))))
def yE:B8:=runF false 3 3 xW
def kG:B6:=(sQ (sS 1 (eM1S partD (eV 0) (eC (.str " / ")))) (sQ (sS 2 (eM1S splD (e2 ixD (eV 1) (eC (.int 0))) (eC (.str " ")))) (sQ (sS 3 (eF xY (aC (eS slD (eV 2) (oS (eC (.int 1))) oN) (aC (eC (.int 1)) aN)))) (sQ (sIf (b2 eqD (e2 ixD (eV 1) (eC (.int 1))) (eC (.str ""))) (sR (eF yO (aC (e2 ixD (eV 2) (eC (.int 0))) (aC (eV 3) aN)))) sN) (sR (eF yE (aC (e2 ixD (eV 2) (eC (.int 0))) (aC (eV 3) (aC (eF wL (aC (e2 ixD (eV 1) (eC (.int 2))) aN)) aN)))))))))
def uF:B8:=runF false 1 4 kG
def wV:B6:=(sTry0 CLS (sR (eF uF (aC (eV 0) aN))) (sR (eC (.str "refused"))))
def xM:B8:=runF false 1 1 wV
def zV6:B6:=(sR (eM1S joinD (eC (.str "\n")) (eCompX (iS (eM1S splD (eV 0) (eC (.str "\n")))) tYes (eF xM (aC (eV 0) aN)) [])))
def vV:B8:=runF false 1 1 zV6
def zR2:B6:=(sQ (sS 2 (eB mkL aN)) (sQ (sF (iR rng1 (aC (eV 1) aN)) (gN 3) (sQ (sM 2 insD (aC (e2 modI (eV 0) (e2 addI (eV 3) (eC (.int 1)))) (aC (eV 3) aN))) (sS 0 (e2 fdivI (eV 0) (e2 addI (eV 3) (eC (.int 1))))))) (sR (eB tupD (aC (eV 2) aN)))))
def dX:B8:=runF false 2 4 zR2
def bE:B8:=ringsF
def zK3:B6:=(sR (eM1S joinD (eC (.str "")) (eCompX (iS (eF bE (aC (eV 0) aN))) tYes (e2 catS (e2 catS (eC (.str "(")) (eM1S joinD (eC (.str " ")) (eCompN (iS (eV 0)) tYes (eB strOfD (aC (eV 0) aN)) []))) (eC (.str ")"))) [])))
def cC:B8:=runF false 1 1 zK3
def zW2:B6:=(sR (eM1S joinD (eC (.str " ")) (eCompX (iS (eV 0)) tYes (eB strOfD (aC (eV 0) aN)) [])))
def wO:B8:=runF false 1 1 zW2
def zK6:B6:=(sQ (sS 2 (eB mkL (aC (eC (.int 1)) aN))) (sQ (sF (iR rng2 (aC (eC (.int 1)) (aC (e2 addI (eV 0) (eC (.int 1))) aN))) (gN 3) (sQ (sS 4 (eC (.int 0))) (sQ (sS 5 (eC (.int 1))) (sQ (sF (iR rng2 (aC (eC (.int 1)) (aC (e2 addI (eB min2D (aC (eV 1) (aC (eV 3) aN))) (eC (.int 1))) aN))) (gN 6) (sQ (sS 4 (e2 addI (eV 4) (e2 mulI (eV 5) (e2 ixD (eV 2) (e2 subI (eV 3) (eV 6)))))) (sS 5 (e2 mulI (eV 5) (e2 subI (eV 3) (eV 6)))))) (sM 2 appD (aC (eV 4) aN)))))) (sR (e2 ixD (eV 2) (eV 0)))))
def zK8:B8:=runF false 2 7 zK6
def aP:B6:=(sQ (sIf (tO (b2 eqD (eV 0) (eC (.str ""))) (tO (b2 gtI (eB lenTD (aC (eV 0) aN)) (eC (.int 90))) (tAn (b2 eqD (e2 ixSD (eV 0) (eC (.int 0))) (eC (.str "0"))) (b2 neD (eV 0) (eC (.str "0")))))) (sR (e1 negD (eC (.int 1)))) sN) (sQ (sIf (tNt (tV (eB allD (aC (eCompX (iSt (eV 0)) tYes (e2 (fun x y=>bD (inSD x y)) (eV 0) (eC (.str "0123456789"))) []) aN)))) (sR (e1 negD (eC (.int 1)))) sN) (sR (eB intTD (aC (eV 0) aN)))))
def kS:B8:=runF false 1 1 aP
def zR6:B8:=knF dX cC
def zK5:B6:=(sQ (sIf (b2 eqD (eV 0) (eC (.str "rings"))) (sR (vAn (e2 (fun x y=>bD (eqD x y)) (eV 1) (eB mkL aN)) (e2 (fun x y=>bD (gtI x y)) (eV 2) (eC (.int 0))))) sN) (sQ (sIf (b2 eqD (eV 0) (eC (.str "find"))) (sR (vAn (e2 (fun x y=>bD (gtI x y)) (eV 2) (eC (.int 0))) (vAn (e2 (fun x y=>bD (eqD x y)) (eB lenD (aC (eV 1) aN)) (eV 2)) (e2 (fun x y=>bD (leI x y)) (eB max1D (aC (eV 1) aN)) (eV 2))))) sN) (sQ (sIf (b2 (inD false) (eV 0) (eB mkT (aC (eC (.str "need")) (aC (eC (.str "help")) aN)))) (sR (vAn (e2 (fun x y=>bD (gtI x y)) (eV 2) (eC (.int 0))) (vAn (e2 (fun x y=>bD (eqD x y)) (eB lenD (aC (eV 1) aN)) (eC (.int 1))) (vB (b3 leI leI (eC (.int 1)) (e2 ixD (eV 1) (eC (.int 0))) (eV 2)))))) sN) (sQ (sIf (b2 neD (eV 2) (e1 negD (eC (.int 1)))) (sR (eC (.bool false))) sN) (sQ (sIf (b2 eqD (eV 0) (eC (.str "good"))) (sR (vAn (e2 (fun x y=>bD (eqD x y)) (eB lenD (aC (eV 1) aN)) (eC (.int 2))) (e2 (fun x y=>bD (leI x y)) (e2 ixD (eV 1) (eC (.int 0))) (eC (.int 60))))) sN) (sQ (sIf (b2 eqD (eV 0) (eC (.str "share"))) (sR (vAn (e2 (fun x y=>bD (leI x y)) (eC (.int 1)) (eB lenD (aC (eV 1) aN))) (e2 (fun x y=>bD (leI x y)) (eB max1D (aC (eV 1) aN)) (eB lenD (aC (eV 1) aN))))) sN) (sQ (sIf (b2 eqD (eV 0) (eC (.str "group"))) (sR (vAn (e2 (fun x y=>bD (eqD x y)) (eB lenD (aC (eV 1) aN)) (eC (.int 3))) (vAn (e2 (fun x y=>bD (leI x y)) (e2 ixD (eV 1) (eC (.int 0))) (eC (.int 60))) (e2 (fun x y=>bD (leI x y)) (e2 ixD (eV 1) (eC (.int 2))) (e2 ixD (eV 1) (eC (.int 0))))))) sN) (sQ (sIf (tO (b2 neD (eV 0) (eC (.str "goodorder"))) (tO (b2 neD (eB lenD (aC (eV 1) aN)) (eC (.int 3))) (tNt (b3 leI leI (eC (.int 1)) (e2 ixD (eV 1) (eC (.int 0))) (eC (.int 60)))))) (sR (eC (.bool false))) sN) (sR (e2 (fun x y=>bD (ltI x y)) (e2 ixD (eV 1) (eC (.int 2))) (eF zK8 (aC (e2 ixD (eV 1) (eC (.int 0))) (aC (e2 ixD (eV 1) (eC (.int 1))) aN)))))))))))))
def bZ:B8:=runF false 3 3 zK5
def gB:B6:=(sQ (sS 2 (eM1S splD (eV 0) (eC (.str " / ")))) (sQ (sS 3 (eM1S splD (e2 ixD (eV 2) (eC (.int 0))) (eC (.str " ")))) (sQ (sS 4 (eCompX (iS (eS slD (eV 3) (oS (eC (.int 1))) oN)) tYes (eF kS (aC (eV 0) aN)) [])) (sQ (sIf (tO (b2 gtI (eB lenD (aC (eV 2) aN)) (eC (.int 2))) (b2 (inD false) (e1 negD (eC (.int 1))) (eV 4))) (sR (eC (.bool false))) sN) (sQ (sS 5 (e1 negD (eC (.int 1)))) (sQ (sIf (b2 eqD (eB lenD (aC (eV 2) aN)) (eC (.int 2))) (sS 5 (eGt (eV 1) (e2 ixD (eV 2) (eC (.int 1))) (eC (.int 0)))) sN) (sR (eF bZ (aC (e2 ixD (eV 3) (eC (.int 0))) (aC (eV 4) (aC (eV 5) aN)))))))))))
def qV:B8:=runF false 2 6 gB
def bX:B6:=(sQ (sS 1 (e2 addI (eC (.int 1)) (e2 modI (e2 fdivI (eV 0) (eC (.int 8))) (eC (.int 4))))) (sQ (sS 2 (eB mkL (aC (eV 1) (aC (e2 addI (eC (.int 1)) (e2 modI (e2 fdivI (eV 0) (eC (.int 32))) (eV 1))) (aC (e2 modI (e2 fdivI (eV 0) (eC (.int 128))) (eC (.int 3))) aN))))) (sQ (sS 3 (e2 catS (eC (.str " / ")) (eF cC (aC (eF dX (aC (e2 fdivI (eV 0) (eC (.int 512))) (aC (eV 1) aN))) aN)))) (sQ (sS 4 (e2 catL (eB mkL (aC (e2 modI (e2 fdivI (eV 0) (eC (.int 32))) (e2 addI (eV 1) (eC (.int 1)))) aN)) (e2 repL (eB mkL (aC (eV 1) aN)) (e2 subI (eV 1) (eC (.int 1)))))) (sQ (sS 5 (eB mkL (aC (e2 catS (eC (.str "rings")) (eV 3)) (aC (e2 catS (e2 catS (eC (.str "find ")) (eF wO (aC (eV 4) aN))) (eV 3)) (aC (e2 catS (e2 catS (eC (.str "need ")) (eB strOfD (aC (e2 ixD (eV 2) (eC (.int 1))) aN))) (eV 3)) aN))))) (sQ (sS 5 (e2 catL (eV 5) (eB mkL (aC (e2 catS (e2 catS (eC (.str "help ")) (eB strOfD (aC (e2 ixD (eV 2) (eC (.int 1))) aN))) (eV 3)) (aC (e2 catS (eC (.str "share ")) (eF wO (aC (eV 4) aN))) aN))))) (sQ (sS 5 (e2 catL (eV 5) (eB mkL (aC (e2 catS (eC (.str "good ")) (eF wO (aC (eS slL (eV 2) oN (oS (eC (.int 2)))) aN))) (aC (e2 catS (eC (.str "goodorder ")) (eF wO (aC (eV 2) aN))) aN))))) (sQ (sM 5 appD (aC (e2 catS (eC (.str "group ")) (eF wO (aC (eB mkL (aC (eV 1) (aC (e2 ixD (eV 2) (eC (.int 1))) (aC (e2 modI (e2 fdivI (eV 0) (eC (.int 128))) (e2 addI (eV 1) (eC (.int 1)))) aN)))) aN))) aN)) (sR (e2 ixD (eV 5) (e2 modI (eV 0) (eC (.int 8)))))))))))))
def cQ:B8:=runF false 1 6 bX
def zV4:B6:=(sQ (sS 2 (e2 modI (e2 fdivI (eV 1) (eC (.int 4))) (e2 addI (eB lenTD (aC (eV 0) aN)) (eC (.int 1))))) (sQ (sS 3 (e2 ixD (eB mkL (aC (eC (.str " ")) (aC (eC (.str "/")) (aC (eC (.str "(")) (aC (eC (.str ")")) (aC (eC (.str "0")) (aC (eC (.str "1")) (aC (eC (.str "5")) (aC (eC (.str "-")) (aC (eC (.str "a")) (aC (eC (.str "+")) (aC (eC (.str "_")) (aC (eC (.str "9")) (aC (eC (.str " / ")) (aC (eC (.str ")(")) aN))))))))))))))) (e2 modI (e2 fdivI (eV 1) (eC (.int 300))) (eC (.int 14))))) (sQ (sIf (b2 eqD (e2 modI (eV 1) (eC (.int 4))) (eC (.int 1))) (sR (e2 catS (e2 catS (eS slS (eV 0) oN (oS (eV 2))) (eV 3)) (eS slS (eV 0) (oS (eV 2)) oN))) sN) (sQ (sIf (b2 eqD (e2 modI (eV 1) (eC (.int 4))) (eC (.int 2))) (sR (e2 catS (e2 catS (eS slS (eV 0) oN (oS (eV 2))) (eV 3)) (eS slS (eV 0) (oS (e2 addI (eV 2) (eC (.int 1)))) oN))) sN) (sQ (sS 4 (eM1S splD (eV 0) (eC (.str " ")))) (sQ (sS 5 (e2 modI (e2 fdivI (eV 1) (eC (.int 4))) (eB lenD (aC (eV 4) aN)))) (sQ (sS 6 (eB mkL (aC (eC (.str "good")) (aC (eC (.str "rings")) (aC (eC (.str "finds")) (aC (eC (.str "60")) (aC (eC (.str "61")) (aC (eC (.str "0")) (aC (eC (.str "-1")) (aC (eC (.str "01")) (aC (eC (.str "")) (aC (e2 catS (eC (.str "1")) (e2 repSD (eC (.str "0")) (eC (.int 89)))) (aC (e2 catS (eC (.str "1")) (e2 repSD (eC (.str "0")) (eC (.int 90)))) (aC (eC (.str "(0)")) aN)))))))))))))) (sQ (sI 4 (eV 5) (e2 ixD (eV 6) (e2 modI (e2 fdivI (eV 1) (eC (.int 300))) (eC (.int 12))))) (sQ (sIf (b2 eqD (e2 modI (e2 fdivI (eV 1) (eC (.int 4000))) (eC (.int 3))) (eC (.int 1))) (sM 4 popD (aC (eV 5) aN)) sN) (sQ (sIf (b2 eqD (e2 modI (e2 fdivI (eV 1) (eC (.int 4000))) (eC (.int 3))) (eC (.int 2))) (sM 4 insD (aC (eV 5) (aC (e2 ixD (eV 4) (eV 5)) aN))) sN) (sR (eM1S joinD (eC (.str " ")) (eV 4)))))))))))))
def zW3:B8:=runF false 2 7 zV4
def yZ1:B6:=(sQ (sS 0 (eB absD (aC (eV 0) aN))) (sQ (sIf (b2 eqD (e2 modI (e2 fdivI (eV 0) (eC (.int 5))) (eC (.int 16))) (eC (.int 7))) (sR (eC (.str ""))) sN) (sQ (sS 1 (eF cQ (aC (e2 fdivI (eV 0) (eC (.int 4))) aN))) (sQ (sIf (b2 eqD (e2 modI (eV 0) (eC (.int 4))) (eC (.int 0))) (sR (eV 1)) sN) (sR (eF zW3 (aC (eV 1) (aC (e2 addI (e2 fdivI (e2 fdivI (eV 0) (eC (.int 4))) (eC (.int 8192))) (e2 modI (eV 0) (eC (.int 4)))) aN))))))))
def cV:B8:=runF false 1 2 yZ1
def zT3:B6:=(sQ (sS 2 (eM1S splD (eF vV (aC (eM1S joinD (eC (.str "\n")) (eV 0)) aN)) (eC (.str "\n")))) (sQ (sIf (b2 neD (eB lenD (aC (eV 2) aN)) (eB lenD (aC (eV 0) aN))) (sR (eC (.bool false))) sN) (sQ (sF (iR rng1 (aC (eB lenD (aC (eV 0) aN)) aN)) (gN 3) (sIf (tO (b2 eqD (e2 (fun x y=>bD (eqD x y)) (e2 ixD (eV 2) (eV 3)) (eC (.str "refused"))) (eF qV (aC (e2 ixD (eV 0) (eV 3)) (aC (eV 1) aN)))) (b2 neD (eF vV (aC (e2 ixD (eV 0) (eV 3)) aN)) (e2 ixD (eV 2) (eV 3)))) (sR (eC (.bool false))) sN)) (sR (eC (.bool true))))))
def bQ:B8:=runF false 2 4 zT3
def xT7:B6:=(sQ (sS 1 (eF0 zR6)) (sQ (sS 2 (eCompX (iS (e2 catL (eB mkL (aC (eC (.int 4)) aN)) (eB listD (aC (eV 0) aN)))) tYes (eF cV (aC (eV 0) aN)) [])) (sQ (sF (iR rng3 (aC (eC (.int 0)) (aC (eB lenD (aC (eV 2) aN)) (aC (eC (.int 12)) aN)))) (gN 3) (sIf (tO (tNt (tV (eF bQ (aC (eS slL (eV 2) (oS (eV 3)) (oS (e2 addI (eV 3) (eC (.int 12))))) (aC (eV 1) aN))))) (tNt (tV (eF bQ (aC (e2 catL (eS slL (eV 2) (oS (eV 3)) (oS (e2 addI (eV 3) (eC (.int 12))))) (eB mkL (aC (eC (.str "")) aN))) (aC (eV 1) aN)))))) (sR (eC (.bool false))) sN)) (sR (vAn (e2 (fun x y=>bD (eqD x y)) (eF vV (aC (eC (.str "")) aN)) (eC (.str "refused"))) (e2 (fun x y=>bD (eqD x y)) (eF vV (aC (e2 catS (eC (.str "\n")) (e2 ixD (eV 2) (eC (.int 0)))) aN)) (e2 catS (eC (.str "refused\n")) (eF vV (aC (e2 ixD (eV 2) (eC (.int 0))) aN)))))))))
def xQ8:B8:=runF false 1 4 xT7
structure Txt[CN](K:KFr)(mg:B9):Prop where
 g_abs:mg "abs"=none
 g_all:mg "all"=none
 g_enumerate:mg "enumerate"=none
 g_int:mg "int"=none
 g_len:mg "len"=none
 g_list:mg "list"=none
 g_max:mg "max"=none
 g_min:mg "min"=none
 g_range:mg "range"=none
 g_sorted:mg "sorted"=none
 g_str:mg "str"=none
 g_sum:mg "sum"=none
 g_tuple:mg "tuple"=none
 c_MOST_FIGURES:∃u,mg "MOST_FIGURES"=some u/\RelV (.int 90) u
 c_MOST_PEOPLE:∃u,mg "MOST_PEOPLE"=some u/\RelV (.int 60) u
 d_is_order:∃f fd,Has K mg "is_order" zI8 f fd ["names"]
 d_ring_from:∃f fd,Has K mg "ring_from" zM2 f fd ["order","box"]
 d_rings_of:∃f fd,Has K mg "rings_of" zD7 f fd ["order"]
 d_order_by:∃f fd,Has K mg "order_by" zC8 f fd ["rings"]
 d_many_orders:∃f fd,Has K mg "many_orders" zU1 f fd ["people"]
 d_made_openings:∃f fd,Has K mg "made_openings" bJ f fd ["people","numbers"]
 d_finders:∃f fd,Has K mg "finders" zS6 f fd ["order","openings"]
 d_check_people:∃f fd,Has K mg "check_people" aG f fd ["people"]
 d_check_people_and_k:∃f fd,Has K mg "check_people_and_k" gU f fd ["people","k"]
 d_many_by_lengths:∃f fd,Has K mg "many_by_lengths" dM f fd ["people","least","most"]
 d_many_good:∃f fd,Has K mg "many_good" zM3 f fd ["people","k"]
 d_many_finding:∃f fd,Has K mg "many_finding" zZ2 f fd ["people","k"]
 d_many_behind_person:∃f fd,Has K mg "many_behind_person" gP f fd ["many","openings"]
 d_many_all:∃f fd,Has K mg "many_all" zC2 f fd ["openings"]
 d_greatest_divisor:∃f fd,Has K mg "greatest_divisor" dY f fd ["one","other"]
 d_share:∃f fd,Has K mg "share" yA9 f fd ["openings"]
 d_check_group:∃f fd,Has K mg "check_group" zV7 f fd ["people","group"]
 d_many_rows:∃f fd,Has K mg "many_rows" zM8 f fd ["people","size"]
 d_many_with_group:∃f fd,Has K mg "many_with_group" jG f fd ["many","size"]
 d_many_all_of:∃f fd,Has K mg "many_all_of" zV8 f fd ["people","k","group"]
 d_check_help:∃f fd,Has K mg "check_help" zT1 f fd ["order","k"]
 d_need_of_rings:∃f fd,Has K mg "need_of_rings" kB f fd ["order","k"]
 d_need:∃f fd,Has K mg "need" xH1 f fd ["order","k"]
 d_exchanges:∃f fd,Has K mg "exchanges" aQ f fd ["order","k"]
 d_many_first_rings:∃f fd,Has K mg "many_first_rings" fH f fd ["boxes","length"]
 d_many_with_first_ring:∃f fd,Has K mg "many_with_first_ring" jB f fd ["many","boxes","length"]
 d_ring_at:∃f fd,Has K mg "ring_at" yU6 f fd ["left","length","place"]
 d_good_at:∃f fd,Has K mg "good_at" zR8 f fd ["people","k","number"]
 d_numbers_text:∃f fd,Has K mg "numbers_text" fT f fd ["numbers"]
 d_read_number:∃f fd,Has K mg "read_number" zU3 f fd ["word","row"]
 d_read_numbers:∃f fd,Has K mg "read_numbers" gF f fd ["words","row"]
 d_ring_text:∃f fd,Has K mg "ring_text" zM6 f fd ["ring"]
 d_order_text:∃f fd,Has K mg "order_text" cE f fd ["order"]
 d_read_order:∃f fd,Has K mg "read_order" cR f fd ["text"]
 d_text_or_none:∃f fd,Has K mg "text_or_none" aF f fd ["text"]
 d_share_text:∃f fd,Has K mg "share_text" cF f fd ["openings"]
 d_pair_text:∃f fd,Has K mg "pair_text" aK f fd ["pair"]
 d_help_text:∃f fd,Has K mg "help_text" aO f fd ["order","k"]
 d_first_people:∃f fd,Has K mg "first_people" aH f fd ["count"]
 d_answer_by_numbers:∃f fd,Has K mg "answer_by_numbers" gJ f fd ["word","numbers"]
 d_answer_by_order:∃f fd,Has K mg "answer_by_order" jC f fd ["word","numbers","order"]
 d_answer:∃f fd,Has K mg "answer" yK7 f fd ["row"]
 d_answer_or_refusal:∃f fd,Has K mg "answer_or_refusal" gL f fd ["row"]
 d_answered:∃f fd,Has K mg "answered" zV1 f fd ["sheet"]
 d_l_order:∃f fd,Has K mg "_law_order" yV3 f fd ["cell","many"]
 d_l_rings:∃f fd,Has K mg "_law_rings" zT8 f fd ["order"]
 d_l_text:∃f fd,Has K mg "_law_text" zK1 f fd ["order"]
 d_l_blanks:∃f fd,Has K mg "_law_blanks" zX8 f fd ["some"]
 d_l_good:∃f fd,Has K mg "_law_good" yP9 f fd ["people","k"]
 d_l_figures:∃f fd,Has K mg "_law_figures" aT f fd ["word"]
 d_l_known:∃f fd,Has K mg "_law_known" zT4 f fd []
 d_l_fits:∃f fd,Has K mg "_law_fits" yJ2 f fd ["word","numbers","boxes"]
 d_l_let:∃f fd,Has K mg "_law_let" yY7 f fd ["row","known"]
 d_l_good_row:∃f fd,Has K mg "_law_good_row" zP5 f fd ["cell"]
 d_l_spoilt:∃f fd,Has K mg "_law_spoilt" zF5 f fd ["row","cell"]
 d_l_row:∃f fd,Has K mg "_law_row" yC7 f fd ["cell"]
 d_l_sheet:∃f fd,Has K mg "_law_sheet" yT7 f fd ["rows","known"]
 d_law:∃f fd,Has K mg "law" yR7 f fd ["script"]
 x_BadGroup:mg "BadGroup"=some (.ref (CN.ad "BadGroup"))
 x_BadOpenings:mg "BadOpenings"=some (.ref (CN.ad "BadOpenings"))
 x_BadOrder:mg "BadOrder"=some (.ref (CN.ad "BadOrder"))
 x_BadText:mg "BadText"=some (.ref (CN.ad "BadText"))
 x_BoxError:mg "BoxError"=some (.ref (CN.ad "BoxError"))
 x_NoHelp:mg "NoHelp"=some (.ref (CN.ad "NoHelp"))
 x_NoNumber:mg "NoNumber"=some (.ref (CN.ad "NoNumber"))
 x_TooMany:mg "TooMany"=some (.ref (CN.ad "TooMany"))
 ox_BadGroup:OwnX K "BadGroup"
 ox_BadOpenings:OwnX K "BadOpenings"
 ox_BadOrder:OwnX K "BadOrder"
 ox_NoHelp:OwnX K "NoHelp"
 ox_NoNumber:OwnX K "NoNumber"
 ox_TooMany:OwnX K "TooMany"
 tx_BadOrder:∀c:Str,(["BadOrder"]:C4).contains c=true->PySem.W.kitCls K (.ref (CN.ad c)) (.ref (CN.ad "BadOrder"))=some true
 tb_BadOrder:PySem.W.subIn K (.ref (CN.ad "BadOrder")) (.type "BaseException")=some true
 tx_BoxError:∀c:Str,CLS.contains c=true->PySem.W.kitCls K (.ref (CN.ad c)) (.ref (CN.ad "BoxError"))=some true
 tb_BoxError:PySem.W.subIn K (.ref (CN.ad "BoxError")) (.type "BaseException")=some true
 bt_ex:ExIn K (CN.ad "BadText") bmV "ValueError.__new__"
 bt_fi:BtFi K (CN.ad "BadText") zI3
 bt_kp:PySem.W.keepIn K (.ref (CN.ad "BadText"))=true
 bt_bi:BaseIni K (CN.ad "BoxError")
 bt_rc:RowCls K (CN.ad "BadText")
 ne_BadOrder:∀c:Str,(["BadOrder"]:C4).contains c=true->PySem.Value.ref (CN.ad c)≠.ref (CN.ad "BadText")
section
variable [CN]{P:Program}{w:World}{K:KFr}{mg:B9}{base:Heap}
theorem hn0:∀r:Int,0<=r/\r<16->CN.ad "BadText"=CN.ad "BadText"/\∀n,rowOf "BadText"=some n->(n:Int)=r:=fun r h=>⟨rfl,fun n e=>by rw[xE8]at e;cases e⟩
theorem xM9:vK ["self","row"] ["self","row"] (zH zI3):=by sleep 1
theorem rm{j k:Nat}{A:Around}(h:Room k A)(l:autoParam (j<=k) Ex):Room j A:=h.mono l
def Od(P:Program)(w:World)(K:KFr)(mg:B9)(base:Heap)(n:Str)(st:Stmt)(ps:C4)(d:Nat)(fr:Bool)(F:B8):Prop:=∀{f:Addr}{fd:FuncData},Has K mg n st f fd ps->FnOk P w K mg base (CXV P w) d f fd ps (spX fr F)
theorem fnY{x:Str}{st:Stmt}{f:Addr}{fd:FuncData}{k:Nat}{m:B6}(om:C5)(N:C4)(F:Fun K x x st f fd)(S:vK N ps (zH st))(hbody:N.Nodup->∀(cdv:Value)(A:Around)(outer:List Env)(s:Shared)(H:Hp)(E:XK),Room k (A.deeper (PyProof.Rows.envOfC x (zH st) s.heap.objs.size f cdv))->(A.deeper (PyProof.Rows.envOfC x (zH st) s.heap.objs.size f cdv)).units+64<cLine->RSs (bodyX P w K mg base N x (zH st) f cdv A outer s H E om) fr (defBody st) m)(hom:autoParam (om.all (fun i=>decide (ps.length<=i))=true) Ey):FnOk P w K mg base (CXV P w) (k+1) f fd ps (spX fr (runF fr ps.length N.length m)):=wJ1 om F S (fun a b c d e g hr=>hbody S.nd a b c d e g hr hr.units) hom
theorem zB2(T:Txt K mg){f:Addr}{fd:FuncData}(F:Fun K "__init__" "BadText.__init__" zI3 f fd):FnOk P w K mg base CX0 2 f fd ["self","row"] (spIni (CN.ad "BadText")):=by refine F.ok xM9 (fun vs H Q E⟨e,r,ev,_⟩=>by subst ev;rfl) fun cdv A outer s H vs Q E hr⟨e,r,ev,hr1,hH,q⟩=>?_;subst ev;refine⟨_,xD (jW (zN9 rfl T.x_BoxError T.bt_bi (yF (pv 0) (yF (yU4 (zX6 (by decide) (by decide) (xM8 (pv 1) (by decide) (zX6 (by decide) (by decide) (xH6 (by decide)))))) xP)))) (qU (xN9 (pv 0) (pv 1) rfl)),?_⟩;obtain⟨n,rfl⟩:∃n:Nat,r=(n:Int):=⟨r.toNat,by rfl'⟩;exact⟨_,rfl,⟨_,rfl,_,rfl,(bO (n:=n) (by rfl')).1,(bO (n:=n) (by rfl')).2,e,_,_,rfl,T.bt_ex,hH,⟨_,rfl,_,rfl,e,_,_,rfl,rfl,hH,T.bt_rc,fun d nd=>q d nd⟩⟩⟩
theorem zO3(T:Txt K mg){f:Addr}{fd:FuncData}(F:Fun K "__init__" "BadText.__init__" zI3 f fd):RunM P w K mg base 2 f fd ["self","row"] (spIni (CN.ad "BadText")):=by refine F.okM xM9 (fun vs H Q E⟨e,r,ev,_⟩=>by subst ev;rfl) fun m cdv A outer s H vs Q E⟨e,r,ev,hr1,hH,q⟩=>?_;subst ev;refine⟨_,xD (jW (zN9 rfl T.x_BoxError T.bt_bi (yF (pv 0) (yF (yU4 (zX6 (by decide) (by decide) (xM8 (pv 1) (by decide) (zX6 (by decide) (by decide) (xH6 (by decide)))))) xP)))) (qU (xN9 (pv 0) (pv 1) rfl)),?_⟩;obtain⟨n,rfl⟩:∃n:Nat,r=(n:Int):=⟨r.toNat,by rfl'⟩;exact⟨_,rfl,⟨_,rfl,_,rfl,(bO (n:=n) (by rfl')).1,(bO (n:=n) (by rfl')).2,e,_,_,rfl,T.bt_ex,hH,⟨_,rfl,_,rfl,e,_,_,rfl,rfl,hH,T.bt_rc,fun d nd=>q d nd⟩⟩⟩
theorem yE8(T:Txt K mg):Od P w K mg base "is_order" zI8 ["names"] 1 false zW4:=fun h=>fnY [] ["names"] h.F (by sleep 1) fun nd _ _ _ _ _ _ hr u=>(zR (zI (qJ (yL6 wJ wJ wH wH zT (zK zL yX T.g_len Ao (zU (zZ 0) zY)) (bU T.c_MOST_PEOPLE.choose_spec.1 T.c_MOST_PEOPLE.choose_spec.2)) (fE (xA (yT u) yN (zK cM zA7 T.g_sorted (by rfl) (zU (zZ 0) zY)) (zP3 T.g_list T.g_range (zU (zK zL yX T.g_len Ao (zU (zZ 0) zY)) zY)))))))
theorem yG4(T:Txt K mg):Od P w K mg base "ring_from" zM2 ["order","box"] 1 false fQ:=fun h=>fnY [2] ["order","box","ring"] h.F (by sleep 1) fun nd _ _ _ _ _ _ hr u=>(zW (xR 2 nd (yK (zX (zZ 1) zY))) (zW (cH 1000000 (zD (kP u) fO (yZ zF yY (zZ 0) (yZ zF yY (xO 2) (dS zT))) (zZ 1)) (zR (jQ 2 Be Bf vS qF (zX (yZ zF yY (zZ 0) (yZ zF yY (xO 2) (dS zT))) zY))) AC) (zR (zI (yH wD bR T.g_tuple (by rfl) (zU (xO 2) zY))))))
theorem kL(T:Txt K mg):Od P w K mg base "rings_of" zD7 ["order"] 2 true wP:=by intro f fd h;obtain⟨_,_,h0⟩:=T.d_ring_from;exact fnY [1,2] ["order","rings","seen","box","ring","member"] h.F (by sleep 1) fun nd _ _ _ _ _ _ hr u=>(zW (xR 1 nd (yK zY)) (zW (xR 2 nd (zO zZ8 zT9 (yK (zX dI zY)) (zK zL yX T.g_len Ao (zU (zZ 0) zY)))) (zW (xG (kC T.g_range (zU (zK zL yX T.g_len Ao (zU (zZ 0) zY)) zY)) (yC 3 nd) (zR (yS (qY (cT (yZ zF yY (xO 2) (zZ 3)))) (zW (zC 4 nd (zN (yG4 T h0) h0 (rm hr) (zQ (om:=[1,2])) (zX (zZ 0) (zX (zZ 3) zY)))) (zW (jQ 1 Be Bf vS qF (zX (zZ 4) zY)) (zR (xG (xU (RE.rd (zZ 4))) (yC 5 nd) (zR (yX2 2 dI (zZ 5))) AC)))) zA)) AC) (zR (aB 1)))))
theorem zM5(T:Txt K mg):Od P w K mg base "order_by" zC8 ["rings"] 2 false vC:=by intro f fd h;obtain⟨_,_,h0⟩:=T.d_is_order;exact fnY [1,3] ["rings","boxes","ring","names","place"] h.F (by sleep 1) fun nd _ _ _ _ _ _ hr u=>(zW (xR 1 nd (yK zY)) (zW (xG (xU (RE.rd (zZ 0))) (yC 2 nd) (zW (yS (zD (yT u) yN (zK zL yX T.g_len Ao (zU (zZ 2) zY)) zT) (zR (vZ (zQ (om:=[1,3])) T.ox_BadOrder T.x_BadOrder (zU zM zY))) zA) (zR (yF4 1 (zZ 2)))) AC) (zW (yS (qY (cT (zG8 (yE8 T h0) h0 (rm hr) (zQ (om:=[1,3])) (zU (xO 1) zY)))) (zR (vZ (zQ (om:=[1,3])) T.ox_BadOrder T.x_BadOrder (zU zM zY))) zA) (zW (xR 3 nd (zO zZ8 zT9 (yK (zX zT zY)) (zK zL yX T.g_len Ao (zU (xO 1) zY)))) (zW (xG (xU (RE.rd (zZ 0))) (yC 2 nd) (zR (xG (kC T.g_range (zU (zK zL yX T.g_len Ao (zU (zZ 2) zY)) zY)) (yC 4 nd) (zR (yX2 3 (yZ zF yY (zZ 2) (zZ 4)) (yZ zF yY (zZ 2) (zO vQ vW (zZ 4) zT)))) AC)) AC) (zR (zI (yH wD bR T.g_tuple (by rfl) (zU (xO 3) zY)))))))))
theorem zA1(T:Txt K mg):Od P w K mg base "many_orders" zU1 ["people"] 1 false dQ:=fun h=>fnY [] ["people","many","factor"] h.F (by sleep 1) fun nd _ _ _ _ _ _ hr u=>(zW (zC 1 nd zT) (zW (xG (qB T.g_range (zU zT (zU (zO xS yD (zZ 0) zT) zY))) (yC 2 nd) (zR (fG 1 nd zW1 uV (zZ 2))) AC) (zR (zI (zZ 1)))))
theorem cO(T:Txt K mg):Od P w K mg base "made_openings" bJ ["people","numbers"] 1 false vI:=fun h=>fnY [] ["people","numbers"] h.F (by sleep 1) fun nd _ _ _ _ _ _ hr u=>(zW (yS (qY (gD wJ wJ wH wH zT (zZ 0) (bU T.c_MOST_PEOPLE.choose_spec.1 T.c_MOST_PEOPLE.choose_spec.2))) (zR (vZ zQ T.ox_BadOpenings T.x_BadOpenings (zU zM zY))) zA) (zW (yS (zD (kP u) fO (zK zL yX T.g_len Ao (zU (zZ 1) zY)) (zZ 0)) (zR (vZ zQ T.ox_BadOpenings T.x_BadOpenings (zU zM zY))) zA) (zW (yS (RW.rt (rw_or (zD zN3 zO5 (zK (xH3 rfl) wS2 T.g_min CD (zU (zZ 1) zY)) zT) (rw_or1 (zD gX fR (zK (zS7 rfl) yZ3 T.g_max DS (zU (zZ 1) zY)) (zZ 0))))) (zR (vZ zQ T.ox_BadOpenings T.x_BadOpenings (zU zM zY))) zA) (zR (zI (yH wD bR T.g_tuple (by rfl) (zU (zZ 1) zY)))))))
theorem xP5(T:Txt K mg):Od P w K mg base "finders" zS6 ["order","openings"] 3 false bN:=by intro f fd h;obtain⟨_,_,h0⟩:=T.d_made_openings;obtain⟨_,_,h1⟩:=T.d_rings_of;exact fnY [2] ["order","openings","found","ring"] h.F (by sleep 1) fun nd _ _ _ _ _ _ hr u=>(zW (jU (zN (cO T h0) h0 (rm hr) (zQ (om:=[2])) (zX (zK zL yX T.g_len Ao (zU (zZ 0) zY)) (zX (zZ 1) zY)))) (zW (xR 2 nd (yK zY)) (zW (xG (xU (RE.rd (RE.cl (xB (kL T h1) h1 (rm hr) (zQ (om:=[2])) (zX (zZ 0) zY))))) (yC 3 nd) (zR (yF4 2 (wY (sc0:=zH zS6) (N0:=["order","openings","found","ring"]) (fs:=["openings","ring"]) (js:=[1,3]) (zQ (om:=[2])) (by sleep 2) rfl rfl rfl (RI.c (xU (RE.rd (zZ 3)))) (fun _ _ _ _ _ bi=>(xY5 (zD xQ7 xS3 (yZ zF yY (zZ 1) (zZ 0)) (zK zL yX T.g_len Ao (zU (zZ 2) zY))))) (fun _ _ _ _ _ bi=>(zZ 0))))) AC) (zR (zI (yH wD bR T.g_tuple (by rfl) (zU (zK cM zA7 T.g_sorted (by rfl) (zU (xO 2) zY)) zY)))))))
theorem zC4(T:Txt K mg):Od P w K mg base "check_people" aG ["people"] 1 false jK:=fun h=>fnY [] ["people"] h.F (by sleep 1) fun nd _ _ _ _ _ _ hr u=>(zR (yS (qY (gD wJ wJ wH wH zT (zZ 0) (bU T.c_MOST_PEOPLE.choose_spec.1 T.c_MOST_PEOPLE.choose_spec.2))) (zR (vZ zQ T.ox_TooMany T.x_TooMany (zU zM zY))) zA))
theorem uO(T:Txt K mg):Od P w K mg base "check_people_and_k" gU ["people","k"] 2 false xQ:=by intro f fd h;obtain⟨_,_,h0⟩:=T.d_check_people;exact fnY [] ["people","k"] h.F (by sleep 1) fun nd _ _ _ _ _ _ hr u=>(zW (jU (zN (zC4 T h0) h0 (rm hr) zQ (zX (zZ 0) zY))) (zR (yS (zD zN3 zO5 (zZ 1) zT) (zR (vZ zQ T.ox_BadOpenings T.x_BadOpenings (zU zM zY))) zA)))
theorem vE(T:Txt K mg):Od P w K mg base "many_by_lengths" dM ["people","least","most"] 1 true wW:=fun h=>fnY [3] ["people","least","most","many","count","total","ways","length"] h.F (by sleep 1) fun nd _ _ _ _ _ _ hr u=>(zW (xR 3 nd (yK (zX zT zY))) (zW (xG (qB T.g_range (zU zT (zU (zO xS yD (zZ 0) zT) zY))) (yC 4 nd) (zW (zC 5 nd zT) (zW (zC 6 nd zT) (zW (xG (qB T.g_range (zU zT (zU (zO xS yD (zK (bH rfl) zP6 T.g_min CD (zU (zZ 2) (zU (zZ 4) zY))) zT) zY))) (yC 7 nd) (zW (yS (zD xQ7 xS3 (zZ 7) (zZ 1)) (zR (fG 5 nd zO6 yD (zO jV uV (zZ 6) (yZ zF yY (xO 3) (zO vQ vW (zZ 4) (zZ 7)))))) zA) (zR (fG 6 nd zW1 uV (zO vQ vW (zZ 4) (zZ 7))))) AC) (zR (jQ 3 Be Bf vS qF (zX (zZ 5) zY)))))) AC) (zR (aB 3))))
theorem yG5(T:Txt K mg):Od P w K mg base "many_good" zM3 ["people","k"] 3 false fP:=by intro f fd h;obtain⟨_,_,h0⟩:=T.d_check_people_and_k;obtain⟨_,_,h1⟩:=T.d_many_by_lengths;exact fnY [] ["people","k"] h.F (by sleep 1) fun nd _ _ _ _ _ _ hr u=>(zW (jU (zN (uO T h0) h0 (rm hr) zQ (zX (zZ 0) (zX (zZ 1) zY)))) (zR (zI (yZ zF yY (xB (vE T h1) h1 (rm hr) zQ (zX (zZ 0) (zX zT (zX (zZ 1) zY)))) (zZ 0)))))
theorem zE1(T:Txt K mg):Od P w K mg base "many_finding" zZ2 ["people","k"] 3 true jL:=by intro f fd h;obtain⟨_,_,h0⟩:=T.d_check_people_and_k;obtain⟨_,_,h1⟩:=T.d_many_by_lengths;exact fnY [4] ["people","k","finding","missing","told","chosen","count"] h.F (by sleep 1) fun nd _ _ _ _ _ _ hr u=>(zW (jU (zN (uO T h0) h0 (rm hr) (zQ (om:=[4])) (zX (zZ 0) (zX (zZ 1) zY)))) (zW (zC 2 nd (RE.cl (xB (vE T h1) h1 (rm hr) (zQ (om:=[4])) (zX (zZ 0) (zX zT (zX (zZ 1) zY)))))) (zW (zC 3 nd (RE.cl (xB (vE T h1) h1 (rm hr) (zQ (om:=[4])) (zX (zZ 0) (zX (zO xS yD (zZ 1) zT) (zX (zZ 0) zY)))))) (zW (xR 4 nd (yK zY)) (zW (zC 5 nd zT) (zW (xG (kC T.g_range (zU (zO xS yD (zZ 0) zT) zY)) (yC 6 nd) (zW (jQ 4 Be Bf vS qF (zX (zO jV uV (zO jV uV (zZ 5) (yZ zF yY (zZ 2) (zZ 6))) (yZ zF yY (zZ 3) (zO vQ vW (zZ 0) (zZ 6)))) zY)) (zR (zC 5 nd (zO yJ yG (zO jV uV (zZ 5) (zO vQ vW (zZ 0) (zZ 6))) (zO xS yD (zZ 6) zT))))) AC) (zR (aB 4))))))))
theorem zY2(T:Txt K mg):Od P w K mg base "many_behind_person" gP ["many","openings"] 1 true uH:=fun h=>fnY [2] ["many","openings","later","places","ways","left"] h.F (by sleep 1) fun nd _ _ _ _ _ _ hr u=>(zW (xR 2 nd (zO zZ8 zT9 (yK (zX zT zY)) (zK zL yX T.g_len Ao (zU (zZ 0) zY)))) (zW (wN4 (yM1 T.g_enumerate (RE.rd (zZ 0))) (wE7 rfl (yH8 (yC 3 nd) (yH8 (yC 4 nd) wS1))) (zW (yS (zD gX fR (zZ 3) zT) (zR (xW4 2 zO6 yD (zO vQ vW (zZ 3) zT) (zO jV uV (zZ 3) (zZ 4)))) zA) (zR (xG (qB T.g_range (zU (zZ 3) (zU (zK (bH rfl) zP6 T.g_min CD (zU (zO xS yD (zZ 3) (zZ 1)) (zU (zK zL yX T.g_len Ao (zU (zZ 0) zY)) zY))) zY))) (yC 5 nd) (zR (xW4 2 zO6 yD (zZ 5) (zZ 4))) AC))) AC) (zR (aB 2))))
theorem yE2(T:Txt K mg):Od P w K mg base "many_all" zC2 ["openings"] 2 false dL:=by intro f fd h;obtain⟨_,_,h0⟩:=T.d_made_openings;obtain⟨_,_,h1⟩:=T.d_many_behind_person;exact fnY [] ["openings","people","many","number"] h.F (by sleep 1) fun nd _ _ _ _ _ _ hr u=>(zW (zC 1 nd (zK zL yX T.g_len Ao (zU (zZ 0) zY))) (zW (jU (zN (cO T h0) h0 (rm hr) zQ (zX (zZ 1) (zX (zZ 0) zY)))) (zW (zC 2 nd (RE.cl (zO cY aA (yK (zX zT zY)) (zO zZ8 zT9 (yK (zX zT zY)) (zZ 1))))) (zW (xG (xU (RE.rd (RE.cl (zK cM zA7 T.g_sorted (by rfl) (zU (zZ 0) zY))))) (yC 3 nd) (zR (zC 2 nd (RE.cl (xB (zY2 T h1) h1 (rm hr) zQ (zX (zZ 2) (zX (zZ 3) zY)))))) AC) (zR (zI (yZ zF yY (zZ 2) zT)))))))
theorem zU7(T:Txt K mg):Od P w K mg base "greatest_divisor" dY ["one","other"] 1 false qE:=fun h=>fnY [] ["one","other","rest"] h.F (by sleep 1) fun nd _ _ _ _ _ _ hr u=>(zW (cH 1000000 (zD gX fR (zZ 1) zT) (zW (zC 2 nd (zO xK xI (zZ 0) (zZ 1))) (zW (zC 0 nd (zZ 1)) (zR (zC 1 nd (zZ 2))))) AC) (zR (zI (zZ 0))))
theorem wW8(T:Txt K mg):Od P w K mg base "share" yA9 ["openings"] 3 false dA:=by intro f fd h;obtain⟨_,_,h0⟩:=T.d_many_all;obtain⟨_,_,h1⟩:=T.d_many_orders;obtain⟨_,_,h2⟩:=T.d_greatest_divisor;exact fnY [] ["openings","finding","whole","divisor"] h.F (by sleep 1) fun nd _ _ _ _ _ _ hr u=>(zW (zC 1 nd (zN (yE2 T h0) h0 (rm hr) zQ (zX (zZ 0) zY))) (zW (zC 2 nd (zN (zA1 T h1) h1 (rm hr) zQ (zX (zK zL yX T.g_len Ao (zU (zZ 0) zY)) zY))) (zW (zC 3 nd (zN (zU7 T h2) h2 (rm hr) zQ (zX (zZ 2) (zX (zZ 1) zY)))) (zR (zI (yL5 (zX (zO yJ yG (zZ 1) (zZ 3)) (zX (zO yJ yG (zZ 2) (zZ 3)) zY))))))))
theorem zA9(T:Txt K mg):Od P w K mg base "check_group" zV7 ["people","group"] 1 false kH:=fun h=>fnY [] ["people","group","least","person"] h.F (by sleep 1) fun nd _ _ _ _ _ _ hr u=>(zW (zC 2 nd zT) (zR (xG (xU (RE.rd (zZ 1))) (yC 3 nd) (zW (yS (qY (gD wJ zN3 wH zO5 (zZ 2) (zZ 3) (zZ 0))) (zR (vZ zQ T.ox_BadGroup T.x_BadGroup (zU zM zY))) zA) (zR (zC 2 nd (zO xS yD (zZ 3) zT)))) AC)))
theorem zQ8(T:Txt K mg):Od P w K mg base "many_rows" zM8 ["people","size"] 1 false kO:=fun h=>fnY [] ["people","size","ways","taken"] h.F (by sleep 1) fun nd _ _ _ _ _ _ hr u=>(zW (zC 2 nd zT) (zW (xG (kC T.g_range (zU (zZ 1) zY)) (yC 3 nd) (zR (fG 2 nd zW1 uV (zO vQ vW (zZ 0) (zZ 3)))) AC) (zR (zI (zZ 2)))))
theorem zQ5(T:Txt K mg):Od P w K mg base "many_with_group" jG ["many","size"] 2 false jD:=by intro f fd h;obtain⟨_,_,h0⟩:=T.d_many_rows;exact fnY [] ["many","size","whole"] h.F (by sleep 1) fun nd _ _ _ _ _ _ hr u=>(zW (zC 2 nd (zK (yU2 rfl) xP8 T.g_sum PyProof.Rows.boot_sum (zU (xJ7 (sc0:=zH jG) (N0:=["many","size","whole"]) (fs:=["size"]) (js:=[1]) zQ (by exact⟨rfl,by decide+kernel,by decide+kernel,by decide+kernel,by decide+kernel,by decide+kernel,rfl,by decide+kernel,by decide+kernel⟩) rfl rfl rfl (RIo.c (yM1 T.g_enumerate (RE.rd (zZ 0)))) (fun _ _ _ _ _ bi=>xN) (fun _ _ _ _ _ bi=>(zO jV uV (zZ 1) (zN (zQ8 T h0) h0 (rm hr) bi (zX (zZ 0) (zX (zZ 2) zY)))))) zY))) (zR (zI (zO yJ yG (zZ 2) (zN (zQ8 T h0) h0 (rm hr) zQ (zX (zO vQ vW (zK zL yX T.g_len Ao (zU (zZ 0) zY)) zT) (zX (zZ 1) zY)))))))
theorem yX1(T:Txt K mg):Od P w K mg base "many_all_of" zV8 ["people","k","group"] 4 false vX:=by intro f fd h;obtain⟨_,_,h0⟩:=T.d_many_finding;obtain⟨_,_,h1⟩:=T.d_check_group;obtain⟨_,_,h2⟩:=T.d_many_with_group;exact fnY [] ["people","k","group","finding"] h.F (by sleep 1) fun nd _ _ _ _ _ _ hr u=>(zW (zC 3 nd (RE.cl (xB (zE1 T h0) h0 (rm hr) zQ (zX (zZ 0) (zX (zZ 1) zY))))) (zW (jU (zN (zA9 T h1) h1 (rm hr) zQ (zX (zZ 0) (zX (zZ 2) zY)))) (zR (zI (zN (zQ5 T h2) h2 (rm hr) zQ (zX (zZ 3) (zX (zK zL yX T.g_len Ao (zU (zZ 2) zY)) zY)))))))
theorem zU2(T:Txt K mg):Od P w K mg base "check_help" zT1 ["order","k"] 1 false jZ:=fun h=>fnY [] ["order","k"] h.F (by sleep 1) fun nd _ _ _ _ _ _ hr u=>(zW (yS (qY (gD wJ wJ wH wH zT (zZ 1) (zK zL yX T.g_len Ao (zU (zZ 0) zY)))) (zR (vZ zQ T.ox_BadOpenings T.x_BadOpenings (zU zM zY))) zA) (zR (yS (zD (yT u) yN (zZ 1) zT) (zR (vZ zQ T.ox_NoHelp T.x_NoHelp (zU zM zY))) zA)))
theorem zJ1(T:Txt K mg):Od P w K mg base "need_of_rings" kB ["order","k"] 3 false gS:=by intro f fd h;obtain⟨_,_,h0⟩:=T.d_rings_of;exact fnY [] ["order","k"] h.F (by sleep 1) fun nd _ _ _ _ _ _ hr u=>(zR (zI (zK (yU2 rfl) xP8 T.g_sum PyProof.Rows.boot_sum (zU (wY (sc0:=zH kB) (N0:=["order","k"]) (fs:=["k"]) (js:=[1]) zQ (by sleep 2) rfl rfl rfl (RI.c (xU (RE.rd (RE.cl (xB (kL T h0) h0 (rm hr) zQ (zX (zZ 0) zY)))))) (fun _ _ _ _ _ bi=>xN) (fun _ _ _ _ _ bi=>(zO yJ yG (zO vQ vW (zK zL yX T.g_len Ao (zU (zZ 0) zY)) zT) (zZ 1)))) zY))))
theorem wP5(T:Txt K mg):Od P w K mg base "need" xH1 ["order","k"] 4 false zH6:=by intro f fd h;obtain⟨_,_,h0⟩:=T.d_check_help;obtain⟨_,_,h1⟩:=T.d_need_of_rings;exact fnY [] ["order","k"] h.F (by sleep 1) fun nd _ _ _ _ _ _ hr u=>(zW (jU (zN (zU2 T h0) h0 (rm hr) zQ (zX (zZ 0) (zX (zZ 1) zY)))) (zR (zI (zN (zJ1 T h1) h1 (rm hr) zQ (zX (zZ 0) (zX (zZ 1) zY))))))
theorem yH4(T:Txt K mg):Od P w K mg base "exchanges" aQ ["order","k"] 3 true qX:=by intro f fd h;obtain⟨_,_,h0⟩:=T.d_check_help;obtain⟨_,_,h1⟩:=T.d_rings_of;exact fnY [2] ["order","k","pairs","ring"] h.F (by sleep 1) fun nd _ _ _ _ _ _ hr u=>(zW (jU (zN (zU2 T h0) h0 (rm hr) (zQ (om:=[2])) (zX (zZ 0) (zX (zZ 1) zY)))) (zW (xR 2 nd (yK zY)) (zW (xG (xU (RE.rd (RE.cl (xB (kL T h1) h1 (rm hr) (zQ (om:=[2])) (zX (zZ 0) zY))))) (yC 3 nd) (zR (yF4 2 (wY (sc0:=zH aQ) (N0:=["order","k","pairs","ring"]) (fs:=["ring"]) (js:=[3]) (zQ (om:=[2])) (by sleep 2) rfl rfl rfl (RI.c (yV7 T.g_range (zU (zZ 1) (zU (zK zL yX T.g_len Ao (zU (zZ 3) zY)) (zU (zZ 1) zY))))) (fun _ _ _ _ _ bi=>xN) (fun _ _ _ _ _ bi=>(yL5 (zX (yZ zF yY (zZ 1) zT) (zX (yZ zF yY (zZ 1) (zZ 0)) zY))))))) AC) (zR (aB 2)))))
theorem gM(T:Txt K mg):Od P w K mg base "many_first_rings" fH ["boxes","length"] 1 false vF:=fun h=>fnY [] ["boxes","length","ways","taken"] h.F (by sleep 1) fun nd _ _ _ _ _ _ hr u=>(zW (zC 2 nd zT) (zW (xG (qB T.g_range (zU zT (zU (zZ 1) zY))) (yC 3 nd) (zR (fG 2 nd zW1 uV (zO vQ vW (zZ 0) (zZ 3)))) AC) (zR (zI (zZ 2)))))
theorem jI(T:Txt K mg):Od P w K mg base "many_with_first_ring" jB ["many","boxes","length"] 2 false xX:=by intro f fd h;obtain⟨_,_,h0⟩:=T.d_many_first_rings;exact fnY [] ["many","boxes","length"] h.F (by sleep 1) fun nd _ _ _ _ _ _ hr u=>(zR (zI (zO jV uV (zN (gM T h0) h0 (rm hr) zQ (zX (zZ 1) (zX (zZ 2) zY))) (yZ zF yY (zZ 0) (zO vQ vW (zZ 1) (zZ 2))))))
theorem xU9(T:Txt K mg):Od P w K mg base "ring_at" yU6 ["left","length","place"] 2 false bL:=by intro f fd h;obtain⟨_,_,h0⟩:=T.d_many_first_rings;exact fnY [3,4] ["left","length","place","ring","others","ways","rest"] h.F (by sleep 1) fun nd _ _ _ _ _ _ hr u=>(zW (xR 3 nd (yK (zX (yZ zF yY (zZ 0) zT) zY))) (zW (xR 4 nd (bG (zZ 0) (wE zT) kD)) (zW (zC 5 nd (zN (gM T h0) h0 (rm hr) (zQ (om:=[3,4])) (zX (zK zL yX T.g_len Ao (zU (zZ 0) zY)) (zX (zZ 1) zY)))) (zW (zC 6 nd (zZ 2)) (zW (cH 1000000 (zD zN3 zO5 (zK zL yX T.g_len Ao (zU (xO 3) zY)) (zZ 1)) (zW (fG 5 nd xM3 yG (zK zL yX T.g_len Ao (zU (xO 4) zY))) (zW (xF4 3 4 (zO yJ yG (zZ 6) (zZ 5))) (zR (zC 6 nd (zO xK xI (zZ 6) (zZ 5)))))) AC) (zR (zI (yH wD bR T.g_tuple (by rfl) (zU (xO 3) zY)))))))))
theorem xV9(T:Txt K mg):Od P w K mg base "good_at" zR8 ["people","k","number"] 3 false kE:=by intro f fd h;obtain⟨_,_,h0⟩:=T.d_check_people_and_k;obtain⟨_,_,h1⟩:=T.d_many_by_lengths;obtain⟨_,_,h2⟩:=T.d_many_with_first_ring;obtain⟨_,_,h3⟩:=T.d_ring_at;obtain⟨_,_,h4⟩:=T.d_order_by;exact fnY [4] ["people","k","number","many","rings","left","rest","length","later","ring"] h.F (by sleep 1) fun nd _ _ _ _ _ _ hr u=>(zW (yS (zD (yT u) yN (zZ 0) zT) (zR (vZ (zQ (om:=[4])) T.ox_TooMany T.x_TooMany (zU zM zY))) zA) (zW (jU (zN (uO T h0) h0 (rm hr) (zQ (om:=[4])) (zX (zZ 0) (zX (zZ 1) zY)))) (zW (zC 3 nd (RE.cl (xB (vE T h1) h1 (rm hr) (zQ (om:=[4])) (zX (zZ 0) (zX zT (zX (zZ 1) zY)))))) (zW (yS (qY (gD wJ zN3 wH zO5 zT (zZ 2) (yZ zF yY (zZ 3) (zZ 0)))) (zR (vZ (zQ (om:=[4])) T.ox_NoNumber T.x_NoNumber (zU zM zY))) zA) (zW (xR 4 nd (yK zY)) (zW (zC 5 nd (RE.cl (zP3 T.g_list T.g_range (zU (zZ 0) zY)))) (zW (zC 6 nd (zZ 2)) (zW (cH 1000000 (zD gX fR (zK zL yX T.g_len Ao (zU (zZ 5) zY)) zT) (zW (zC 7 nd zT) (zW (cH 1000000 (zD xQ7 xS3 (zZ 6) (zN (jI T h2) h2 (rm hr) (zQ (om:=[4])) (zX (zZ 3) (zX (zK zL yX T.g_len Ao (zU (zZ 5) zY)) (zX (zZ 7) zY))))) (zW (fG 6 nd wS3 vW (zN (jI T h2) h2 (rm hr) (zQ (om:=[4])) (zX (zZ 3) (zX (zK zL yX T.g_len Ao (zU (zZ 5) zY)) (zX (zZ 7) zY))))) (zR (fG 7 nd zO6 yD zT))) AC) (zW (zC 8 nd (yZ zF yY (zZ 3) (zO vQ vW (zK zL yX T.g_len Ao (zU (zZ 5) zY)) (zZ 7)))) (zW (zC 9 nd (zN (xU9 T h3) h3 (rm hr) (zQ (om:=[4])) (zX (zZ 5) (zX (zZ 7) (zX (zO yJ yG (zZ 6) (zZ 8)) zY))))) (zW (jQ 4 Be Bf vS qF (zX (zZ 9) zY)) (zW (zW8 5 nd (sc0:=zH zR8) (N0:=["people","k","number","many","rings","left","rest","length","later","ring"]) (fs:=["ring"]) (js:=[9]) (zQ (om:=[4])) (by sleep 2) rfl rfl rfl (RI.c (xU (RE.rd (zZ 5)))) (fun _ _ _ _ _ bi=>(xY5 (zD yM6 xU3 (zZ 0) (zZ 1)))) (fun _ _ _ _ _ bi=>(zZ 0))) (zR (zC 6 nd (zO xK xI (zZ 6) (zZ 8)))))))))) AC) (zR (zI (zG8 (zM5 T h4) h4 (rm hr) (zQ (om:=[4])) (zU (xO 4) zY))))))))))))
theorem gQ(T:Txt K mg):Od P w K mg base "numbers_text" fT ["numbers"] 1 false uP:=fun h=>fnY [] ["numbers"] h.F (by sleep 1) fun nd _ _ _ _ _ _ hr u=>(zR (zI (yI Bi Bj uU uT zM (wY (sc0:=zH fT) (N0:=["numbers"]) (fs:=[]) (js:=[]) zQ (by sleep 2) rfl rfl rfl (RI.c (xU (RE.rd (zZ 0)))) (fun _ _ _ _ _ bi=>xN) (fun _ _ _ _ _ bi=>(yH xJ kY T.g_str (by rfl) (zU (zZ 0) zY)))))))
theorem yZ7(T:Txt K mg):Od P w K mg base "read_number" zU3 ["word","row"] 4 false xZ:=by intro f fd h;obtain⟨fI,fdI,hfi,hfn,FI,BI⟩:=T.bt_fi;have GI:FnOk P w K mg base CX0 2 fI fdI ["self","row"] (spIni (CN.ad "BadText")):=zB2 T FI;have GM:RunM P w K mg base 2 fI fdI ["self","row"] (spIni (CN.ad "BadText")):=zO3 T FI;exact fnY [] ["word","row"] h.F (by sleep 1) fun nd _ _ _ _ _ _ hr u=>(zW (yS (RW.rt (rw_or (qY (cT (xS8 (zZ 0)))) (rw_or (zD gX fR (zK cN yY1 T.g_len Ao (zU (zZ 0) zY)) (bU T.c_MOST_FIGURES.choose_spec.1 T.c_MOST_FIGURES.choose_spec.2)) (rw_or1 (RW.rt (rw_and (cT (yI PySem.F.slot_str_startswith PySem.F.type_str_startswith yS9 yR3 (zZ 0) zM)) (rw_and1 (zD (kP u) fO (zZ 0) zM)))))))) (zR (aW (fun _=>"BadText") hn0 zQ T.bt_ex hfi hfn T.bt_kp T.x_BadText GI BI (rm hr) (zU (zZ 1) zY))) zA) (zR (zI (yH zV9 xZ9 T.g_int (by rfl) (zU (zZ 0) zY)))))
theorem bA(T:Txt K mg):Od P w K mg base "read_numbers" gF ["words","row"] 5 false xY:=by intro f fd h;obtain⟨_,_,h0⟩:=T.d_read_number;exact fnY [] ["words","row"] h.F (by sleep 1) fun nd _ _ _ _ _ _ hr u=>(zR (zI (yH wD bR T.g_tuple (by rfl) (zU (wY (sc0:=zH gF) (N0:=["words","row"]) (fs:=["row"]) (js:=[1]) zQ (by sleep 2) rfl rfl rfl (RI.c (xU (RE.rd (zZ 0)))) (fun _ _ _ _ _ bi=>xN) (fun _ _ _ _ _ bi=>(zN (yZ7 T h0) h0 (rm hr) bi (zX (zZ 0) (zX (zZ 1) zY))))) zY))))
theorem yL3(T:Txt K mg):Od P w K mg base "ring_text" zM6 ["ring"] 2 false kW:=by intro f fd h;obtain⟨_,_,h0⟩:=T.d_numbers_text;exact fnY [] ["ring","boxes"] h.F (by sleep 1) fun nd _ _ _ _ _ _ hr u=>(zW (zC 1 nd (zN (gQ T h0) h0 (rm hr) zQ (zX (zZ 0) zY))) (zR (zI (wE1 (zZ 1)))))
theorem zU5(T:Txt K mg):Od P w K mg base "order_text" cE ["order"] 3 false gZ:=by intro f fd h;obtain⟨_,_,h0⟩:=T.d_rings_of;obtain⟨_,_,h1⟩:=T.d_ring_text;exact fnY [] ["order"] h.F (by sleep 1) fun nd _ _ _ _ _ _ hr u=>(zR (zI (yI Bi Bj uU uT zM (wY (sc0:=zH cE) (N0:=["order"]) (fs:=[]) (js:=[]) zQ (by sleep 2) rfl rfl rfl (RI.c (xU (RE.rd (RE.cl (xB (kL T h0) h0 (rm hr) zQ (zX (zZ 0) zY)))))) (fun _ _ _ _ _ bi=>xN) (fun _ _ _ _ _ bi=>(zN (yL3 T h1) h1 (rm hr) bi (zX (zZ 0) zY)))))))
theorem yS8(T:Txt K mg):Od P w K mg base "read_order" cR ["text"] 6 false wL:=by intro f fd h;obtain⟨fI,fdI,hfi,hfn,FI,BI⟩:=T.bt_fi;have GI:FnOk P w K mg base CX0 2 fI fdI ["self","row"] (spIni (CN.ad "BadText")):=zB2 T FI;have GM:RunM P w K mg base 2 fI fdI ["self","row"] (spIni (CN.ad "BadText")):=zO3 T FI;obtain⟨_,_,h0⟩:=T.d_read_numbers;obtain⟨_,_,h1⟩:=T.d_order_by;obtain⟨_,_,h2⟩:=T.d_order_text;exact fnY [] ["text","rings","order"] h.F (by sleep 1) fun nd _ _ _ _ _ _ hr u=>(zW (zW8 1 nd (sc0:=zH cR) (N0:=["text","rings","order"]) (fs:=[]) (js:=[]) zQ (by sleep 2) rfl rfl rfl (RI.c (xU (RE.rd (RE.cl (yI BB BC qH qQ (fF (zZ 0) (wE zT) (wE (dS zT))) zM))))) (fun _ _ _ _ _ bi=>xN) (fun _ _ _ _ _ bi=>(zN (bA T h0) h0 (rm hr) bi (zX (RE.cl (yI BB BC qH qQ (zZ 0) zM)) (zX zT zY))))) (zW (wP8 ["BadOrder"] "BadText" rfl (hn0 1 (by decide)).2 (fun _ _ _ zQ=>(zR (zC 2 nd (zN (zM5 T h1) h1 (rm hr) zQ (zX (zZ 1) zY))))) T.tx_BadOrder T.tb_BadOrder T.x_BadOrder T.ne_BadOrder zQ T.bt_ex hfi T.bt_kp hfn T.x_BadText GM BI (rm hr)) (zW (yS (zD (kP u) fO (zN (zU5 T h2) h2 (rm hr) zQ (zX (zZ 2) zY)) (zZ 0)) (zR (aW (fun _=>"BadText") hn0 zQ T.bt_ex hfi hfn T.bt_kp T.x_BadText GI BI (rm hr) (zU zT zY))) zA) (zR (zI (zZ 2))))))
theorem bF(T:Txt K mg):Od P w K mg base "text_or_none" aF ["text"] 1 false jM:=fun h=>fnY [] ["text"] h.F (by sleep 1) fun nd _ _ _ _ _ _ hr u=>(zR (zI (wX1 (zD (yT u) yN (zZ 0) zM) zM (zZ 0))))
theorem yR5(T:Txt K mg):Od P w K mg base "share_text" cF ["openings"] 4 false kA:=by intro f fd h;obtain⟨_,_,h0⟩:=T.d_share;exact fnY [] ["openings"] h.F (by sleep 1) fun nd _ _ _ _ _ _ hr u=>(zR (zI (yI Bi Bj uU uT zM (wY (sc0:=zH cF) (N0:=["openings"]) (fs:=[]) (js:=[]) zQ (by sleep 2) rfl rfl rfl (RI.c (xU (RE.rd (zN (wW8 T h0) h0 (rm hr) zQ (zX (zZ 0) zY))))) (fun _ _ _ _ _ bi=>xN) (fun _ _ _ _ _ bi=>(yH xJ kY T.g_str (by rfl) (zU (zZ 0) zY)))))))
theorem yM2(T:Txt K mg):Od P w K mg base "pair_text" aK ["pair"] 1 false qW:=fun h=>fnY [] ["pair"] h.F (by sleep 1) fun nd _ _ _ _ _ _ hr u=>(zR (zI (yI Bi Bj uU uT zM (wY (sc0:=zH aK) (N0:=["pair"]) (fs:=[]) (js:=[]) zQ (by sleep 2) rfl rfl rfl (RI.c (xU (RE.rd (zZ 0)))) (fun _ _ _ _ _ bi=>xN) (fun _ _ _ _ _ bi=>(yH xJ kY T.g_str (by rfl) (zU (zZ 0) zY)))))))
theorem yG9(T:Txt K mg):Od P w K mg base "help_text" aO ["order","k"] 4 false fM:=by intro f fd h;obtain⟨_,_,h0⟩:=T.d_text_or_none;obtain⟨_,_,h1⟩:=T.d_exchanges;obtain⟨_,_,h2⟩:=T.d_pair_text;exact fnY [] ["order","k"] h.F (by sleep 1) fun nd _ _ _ _ _ _ hr u=>(zR (zI (zN (bF T h0) h0 (rm hr) zQ (zX (yI Bi Bj uU uT zM (wY (sc0:=zH aO) (N0:=["order","k"]) (fs:=[]) (js:=[]) zQ (by sleep 2) rfl rfl rfl (RI.c (xU (RE.rd (RE.cl (xB (yH4 T h1) h1 (rm hr) zQ (zX (zZ 0) (zX (zZ 1) zY))))))) (fun _ _ _ _ _ bi=>xN) (fun _ _ _ _ _ bi=>(zN (yM2 T h2) h2 (rm hr) bi (zX (zZ 0) zY))))) zY))))
theorem zF3(T:Txt K mg):Od P w K mg base "first_people" aH ["count"] 1 false fX:=fun h=>fnY [] ["count"] h.F (by sleep 1) fun nd _ _ _ _ _ _ hr u=>(zR (zI (yE6 T.g_tuple T.g_range (zU (zK (bH rfl) zP6 T.g_min CD (zU (zZ 0) (zU (zO xS yD (bU T.c_MOST_PEOPLE.choose_spec.1 T.c_MOST_PEOPLE.choose_spec.2) zT) zY))) zY))))
theorem zY9(T:Txt K mg):Od P w K mg base "answer_by_numbers" gJ ["word","numbers"] 5 false yO:=by intro f fd h;obtain⟨fI,fdI,hfi,hfn,FI,BI⟩:=T.bt_fi;have GI:FnOk P w K mg base CX0 2 fI fdI ["self","row"] (spIni (CN.ad "BadText")):=zB2 T FI;have GM:RunM P w K mg base 2 fI fdI ["self","row"] (spIni (CN.ad "BadText")):=zO3 T FI;obtain⟨_,_,h0⟩:=T.d_share_text;obtain⟨_,_,h1⟩:=T.d_many_good;obtain⟨_,_,h2⟩:=T.d_order_text;obtain⟨_,_,h3⟩:=T.d_good_at;obtain⟨_,_,h4⟩:=T.d_many_all_of;obtain⟨_,_,h5⟩:=T.d_first_people;exact fnY [] ["word","numbers"] h.F (by sleep 1) fun nd _ _ _ _ _ _ hr u=>(zW (yS (zD (yT u) yN (zZ 0) zM) (zR (zI (zN (yR5 T h0) h0 (rm hr) zQ (zX (zZ 1) zY)))) zA) (zW (yS (RW.rt (rw_and (zD (yT u) yN (zZ 0) zM) (rw_and1 (zD (yT u) yN (zK zL yX T.g_len Ao (zU (zZ 1) zY)) zT)))) (zR (zI (yH xJ kY T.g_str (by rfl) (zU (zN (yG5 T h1) h1 (rm hr) zQ (zX (yZ zF yY (zZ 1) zT) (zX (yZ zF yY (zZ 1) zT) zY))) zY)))) zA) (zW (yS (RW.rt (rw_and (zD (yT u) yN (zZ 0) zM) (rw_and1 (zD (yT u) yN (zK zL yX T.g_len Ao (zU (zZ 1) zY)) zT)))) (zR (zI (zN (zU5 T h2) h2 (rm hr) zQ (zX (zN (xV9 T h3) h3 (rm hr) zQ (zX (yZ zF yY (zZ 1) zT) (zX (yZ zF yY (zZ 1) zT) (zX (yZ zF yY (zZ 1) zT) zY)))) zY)))) zA) (zW (yS (RW.rt (rw_and (zD (yT u) yN (zZ 0) zM) (rw_and1 (zD (yT u) yN (zK zL yX T.g_len Ao (zU (zZ 1) zY)) zT)))) (zR (zI (yH xJ kY T.g_str (by rfl) (zU (zN (yX1 T h4) h4 (rm hr) zQ (zX (yZ zF yY (zZ 1) zT) (zX (yZ zF yY (zZ 1) zT) (zX (zN (zF3 T h5) h5 (rm hr) zQ (zX (yZ zF yY (zZ 1) zT) zY)) zY)))) zY)))) zA) (zR (aW (fun _=>"BadText") hn0 zQ T.bt_ex hfi hfn T.bt_kp T.x_BadText GI BI (rm hr) (zU zT zY)))))))
theorem zQ9(T:Txt K mg):Od P w K mg base "answer_by_order" jC ["word","numbers","order"] 5 false yE:=by intro f fd h;obtain⟨fI,fdI,hfi,hfn,FI,BI⟩:=T.bt_fi;have GI:FnOk P w K mg base CX0 2 fI fdI ["self","row"] (spIni (CN.ad "BadText")):=zB2 T FI;have GM:RunM P w K mg base 2 fI fdI ["self","row"] (spIni (CN.ad "BadText")):=zO3 T FI;obtain⟨_,_,h0⟩:=T.d_numbers_text;obtain⟨_,_,h1⟩:=T.d_rings_of;obtain⟨_,_,h2⟩:=T.d_text_or_none;obtain⟨_,_,h3⟩:=T.d_finders;obtain⟨_,_,h4⟩:=T.d_need;obtain⟨_,_,h5⟩:=T.d_help_text;exact fnY [] ["word","numbers","order"] h.F (by sleep 1) fun nd _ _ _ _ _ _ hr u=>(zW (yS (RW.rt (rw_and (zD (yT u) yN (zZ 0) zM) (rw_and1 (zD (yT u) yN (zK zL yX T.g_len Ao (zU (zZ 1) zY)) zT)))) (zR (zI (zN (gQ T h0) h0 (rm hr) zQ (zX (RE.cl (wY (sc0:=zH jC) (N0:=["word","numbers","order"]) (fs:=[]) (js:=[]) zQ (by sleep 2) rfl rfl rfl (RI.c (xU (RE.rd (RE.cl (xB (kL T h1) h1 (rm hr) zQ (zX (zZ 2) zY)))))) (fun _ _ _ _ _ bi=>xN) (fun _ _ _ _ _ bi=>(zK zL yX T.g_len Ao (zU (zZ 0) zY))))) zY)))) zA) (zW (yS (zD (yT u) yN (zZ 0) zM) (zR (zI (zN (bF T h2) h2 (rm hr) zQ (zX (zN (gQ T h0) h0 (rm hr) zQ (zX (zN (xP5 T h3) h3 (rm hr) zQ (zX (zZ 2) (zX (zZ 1) zY))) zY)) zY)))) zA) (zW (yS (RW.rt (rw_and (zD (yT u) yN (zZ 0) zM) (rw_and1 (zD (yT u) yN (zK zL yX T.g_len Ao (zU (zZ 1) zY)) zT)))) (zR (zI (yH xJ kY T.g_str (by rfl) (zU (zN (wP5 T h4) h4 (rm hr) zQ (zX (zZ 2) (zX (yZ zF yY (zZ 1) zT) zY))) zY)))) zA) (zW (yS (RW.rt (rw_and (zD (yT u) yN (zZ 0) zM) (rw_and1 (zD (yT u) yN (zK zL yX T.g_len Ao (zU (zZ 1) zY)) zT)))) (zR (zI (zN (yG9 T h5) h5 (rm hr) zQ (zX (zZ 2) (zX (yZ zF yY (zZ 1) zT) zY))))) zA) (zR (aW (fun _=>"BadText") hn0 zQ T.bt_ex hfi hfn T.bt_kp T.x_BadText GI BI (rm hr) (zU zT zY)))))))
theorem xL4(T:Txt K mg):Od P w K mg base "answer" yK7 ["row"] 7 false uF:=by intro f fd h;obtain⟨_,_,h0⟩:=T.d_read_numbers;obtain⟨_,_,h1⟩:=T.d_answer_by_numbers;obtain⟨_,_,h2⟩:=T.d_answer_by_order;obtain⟨_,_,h3⟩:=T.d_read_order;exact fnY [] ["row","parts","words","numbers"] h.F (by sleep 1) fun nd _ _ _ _ _ _ hr u=>(zW (zC 1 nd (yI PySem.F.slot_str_partition PySem.F.type_str_partition yI8 yH2 (zZ 0) zM)) (zW (zC 2 nd (RE.cl (yI BB BC qH qQ (yZ zF yY (zZ 1) zT) zM))) (zW (zC 3 nd (zN (bA T h0) h0 (rm hr) zQ (zX (yT1 (zZ 2) (wE zT) kD) (zX zT zY)))) (zW (yS (zD (yT u) yN (yZ zF yY (zZ 1) zT) zM) (zR (zI (zN (zY9 T h1) h1 (rm hr) zQ (zX (yZ zF yY (zZ 2) zT) (zX (zZ 3) zY))))) zA) (zR (zI (zN (zQ9 T h2) h2 (rm hr) zQ (zX (yZ zF yY (zZ 2) zT) (zX (zZ 3) (zX (zN (yS8 T h3) h3 (rm hr) zQ (zX (yZ zF yY (zZ 1) zT) zY)) zY))))))))))
theorem zX5(T:Txt K mg):Od P w K mg base "answer_or_refusal" gL ["row"] 8 false xM:=by intro f fd h;obtain⟨_,_,h0⟩:=T.d_answer;exact fnY [] ["row"] h.F (by sleep 1) fun nd _ _ _ _ _ _ hr u=>(zR (wP1 CLS (fun _ _ _ zQ=>(zR (zI (zN (xL4 T h0) h0 (rm hr) zQ (zX (zZ 0) zY))))) (fun _=>(zR (zI zM))) T.tx_BoxError T.tb_BoxError T.x_BoxError))
theorem kU(T:Txt K mg):Od P w K mg base "answered" zV1 ["sheet"] 9 false vV:=by intro f fd h;obtain⟨_,_,h0⟩:=T.d_answer_or_refusal;exact fnY [] ["sheet"] h.F (by sleep 1) fun nd _ _ _ _ _ _ hr u=>(zR (zI (yI Bi Bj uU uT zM (wY (sc0:=zH zV1) (N0:=["sheet"]) (fs:=[]) (js:=[]) zQ (by sleep 2) rfl rfl rfl (RI.c (xU (RE.rd (RE.cl (yI BB BC qH qQ (zZ 0) zM))))) (fun _ _ _ _ _ bi=>xN) (fun _ _ _ _ _ bi=>(zN (zX5 T h0) h0 (rm hr) bi (zX (zZ 0) zY)))))))
theorem zH9(T:Txt K mg):Od P w K mg base "_law_order" yV3 ["cell","many"] 1 false dX:=fun h=>fnY [2] ["cell","many","names","k"] h.F (by sleep 1) fun nd _ _ _ _ _ _ hr u=>(zW (xR 2 nd (yK zY)) (zW (xG (kC T.g_range (zU (zZ 1) zY)) (yC 3 nd) (zW (jQ 2 PySem.F.slot_list_insert PySem.F.type_list_insert yW7 yX6 (zX (zO xK xI (zZ 0) (zO xS yD (zZ 3) zT)) (zX (zZ 3) zY))) (zR (zC 0 nd (zO yJ yG (zZ 0) (zO xS yD (zZ 3) zT))))) AC) (zR (zI (yH wD bR T.g_tuple (by rfl) (zU (xO 2) zY))))))
theorem zE7:vK ["order","met","rings","first","ring","box"] ["order"] (zH zT8):=by sleep 1
theorem xS7(T:Txt K mg):Od P w K mg base "_law_rings" zT8 ["order"] 1 true bE:=by intro f fd h;refine xF2 h.F zE7 rfl rfl fun cdv A outer s H E hr=>?_;have nd:=zE7.nd;exact xD (kT (i:=1) nd rfl (Or.inl rfl) yF5) (xD (kT (i:=2) nd rfl (Or.inl rfl) (yP8 xP)) (xD (zS5 AC rfl (zQ1 rfl T.g_range (yF (zI2 zL rfl T.g_len Ao (yF (pv 0) xP)) xP)) (fU (i:=3) nd rfl (Or.inl rfl)) (xD (kT (i:=4) nd rfl (Or.inl rfl) (yP8 xP)) (xD (kT (i:=5) nd rfl (Or.inl rfl) (pv 3)) (xD (yN5 AC (wH9 (xN7 (yP1 hr) (pv 5) (pv 1))) (xD (xW9 (yP1 hr) (pv 1) (pv 5) wU7 rfl) (xD (jW (bK BM Be Bf vS (pv 4) (yF (pv 5) xP))) (qU (kT (i:=5) nd rfl (Or.inl rfl) (wU5 xD1 (pv 0) (pv 5) (fun _ _=>rfl))))))) (qU (wT5 (yA4 gX (zI2 zL rfl T.g_len Ao (yF (pv 4) xP)) zY4 (nomark _)) (qU (jW (bK BM Be Bf vS (pv 2) (yF (pv 4) xP)))) xZ8)))))) (qU (zE3 (pv 2)))))
theorem yV5(T:Txt K mg):Od P w K mg base "_law_text" zK1 ["order"] 2 false cC:=by intro f fd h;obtain⟨_,_,h0⟩:=T.d_l_rings;exact fnY [] ["order"] h.F (by sleep 1) fun nd _ _ _ _ _ _ hr u=>(zR (zI (yI Bi Bj uU uT zM (wY (sc0:=zH zK1) (N0:=["order"]) (fs:=[]) (js:=[]) zQ (by sleep 2) rfl rfl rfl (RI.c (xU (RE.rd (RE.cl (xB (xS7 T h0) h0 (rm hr) zQ (zX (zZ 0) zY)))))) (fun _ _ _ _ _ bi=>xN) (fun _ _ _ _ _ bi=>(zO yP yB (zO yP yB zM (yI Bi Bj uU uT zM (wW6 (sc0:=_) (N0:=_) (fs:=[]) (js:=[]) (by exact⟨rfl,by decide+kernel,by decide+kernel,by decide+kernel,by repeat' (first|exact List.forall_mem_nil _|refine Bx.2 ⟨?_,?_⟩|(intro h;cases h;done)|exact(fun _=>Or.inl rfl)|exact(fun _=>Or.inr rfl)|exact⟨rfl,rfl⟩),rfl,by repeat' (first|exact List.forall_mem_nil _|refine Bx.2 ⟨?_,?_⟩|(intro h;cases h;done)|exact(fun _=>Or.inl rfl)|exact(fun _=>Or.inr rfl)|exact⟨rfl,rfl⟩),by decide+kernel⟩) rfl rfl rfl (RI.c (xU (RE.rd (zZ 0)))) (fun _ _ _ _ _ bi=>xN) (fun _ _ _ _ _ bi=>(yH xJ kY T.g_str (by rfl) (zU (zZ 0) zY)))))) zM))))))
theorem kX(T:Txt K mg):Od P w K mg base "_law_blanks" zX8 ["some"] 1 false wO:=fun h=>fnY [] ["some"] h.F (by sleep 1) fun nd _ _ _ _ _ _ hr u=>(zR (zI (yI Bi Bj uU uT zM (wY (sc0:=zH zX8) (N0:=["some"]) (fs:=[]) (js:=[]) zQ (by sleep 2) rfl rfl rfl (RI.c (xU (RE.rd (zZ 0)))) (fun _ _ _ _ _ bi=>xN) (fun _ _ _ _ _ bi=>(yH xJ kY T.g_str (by rfl) (zU (zZ 0) zY)))))))
theorem xM1(T:Txt K mg):Od P w K mg base "_law_good" yP9 ["people","k"] 1 false zK8:=fun h=>fnY [2] ["people","k","ways","m","found","step","size"] h.F (by sleep 1) fun nd _ _ _ _ _ _ hr u=>(zW (xR 2 nd (yK (zX zT zY))) (zW (xG (qB T.g_range (zU zT (zU (zO xS yD (zZ 0) zT) zY))) (yC 3 nd) (zW (zC 4 nd zT) (zW (zC 5 nd zT) (zW (xG (qB T.g_range (zU zT (zU (zO xS yD (zK (bH rfl) zP6 T.g_min CD (zU (zZ 1) (zU (zZ 3) zY))) zT) zY))) (yC 6 nd) (zW (zC 4 nd (zO xS yD (zZ 4) (zO jV uV (zZ 5) (yZ zF yY (xO 2) (zO vQ vW (zZ 3) (zZ 6)))))) (zR (zC 5 nd (zO jV uV (zZ 5) (zO vQ vW (zZ 3) (zZ 6)))))) AC) (zR (jQ 2 Be Bf vS qF (zX (zZ 4) zY)))))) AC) (zR (zI (yZ zF yY (xO 2) (zZ 0))))))
theorem yN6(T:Txt K mg):Od P w K mg base "_law_figures" aT ["word"] 1 false kS:=fun h=>fnY [] ["word"] h.F (by sleep 1) fun nd _ _ _ _ _ _ hr u=>(zW (yS (RW.rt (rw_or (zD (yT u) yN (zZ 0) zM) (rw_or (zD gX fR (zK cN yY1 T.g_len Ao (zU (zZ 0) zY)) zT) (rw_or1 (RW.rt (rw_and (zD (yT u) yN (yZ xN2 wG2 (zZ 0) zT) zM) (rw_and1 (zD (kP u) fO (zZ 0) zM)))))))) (zR (zI (dS zT))) zA) (zW (yS (qY (cT (zK (xK5 rfl) wD8 T.g_all (by rfl) (zU (wY (sc0:=zH aT) (N0:=["word"]) (fs:=[]) (js:=[]) zQ (by sleep 2) rfl rfl rfl (RI.c (wE6 (zZ 0))) (fun _ _ _ _ _ bi=>xN) (fun _ _ _ _ _ bi=>(xA xK7 wI9 (zZ 0) zM))) zY)))) (zR (zI (dS zT))) zA) (zR (zI (yH zV9 xZ9 T.g_int (by rfl) (zU (zZ 0) zY))))))
theorem zE6:vK ["known","ways","many","number"] [] (zH zT4):=by sleep 1
theorem xT9(T:Txt K mg):Od P w K mg base "_law_known" zT4 [] 3 false zR6:=by intro f fd h;obtain⟨_,_,h0⟩:=T.d_l_order;obtain⟨_,_,h1⟩:=T.d_l_text;refine(vX6 dX cC) h.F zE6 rfl rfl fun cdv A outer s H E hr=>?_;have nd:=zE6.nd;exact(xD (kT (i:=0) nd rfl (by sleep 3) yF5) (xD (kT (i:=1) nd rfl (by sleep 3) zY4) (xD (zS5 AC rfl (yU3 rfl T.g_range (yF zY4 (yF zY4 xP))) (fU (i:=2) nd rfl (by sleep 3)) (xD (kT (i:=1) nd rfl (by sleep 3) (wT3 wH8 (pv 1) (pv 2))) (qU (zS5 AC rfl (zQ1 rfl T.g_range (yF (pv 1) xP)) (fU (i:=3) nd rfl (by sleep 3)) (qU (xW9 (yP1 hr) (pv 0) (zP7 (yV5 T h1) (rm hr) rfl h1.m h1.F.kp h1.b .nil passE (yF (zP7 (zH9 T h0) (rm hr) rfl h0.m h0.F.kp h0.b .nil passE (yF (pv 3) (yF (pv 2) xP))) xP)) (pv 2) rfl)))))) (qU (zE3 (pv 0))))))
theorem xN4(T:Txt K mg):Od P w K mg base "_law_fits" yJ2 ["word","numbers","boxes"] 2 false bZ:=by intro f fd h;obtain⟨_,_,h0⟩:=T.d_l_good;exact fnY [] ["word","numbers","boxes"] h.F (by sleep 1) fun nd _ _ _ _ _ _ hr u=>(zW (yS (zD (yT u) yN (zZ 0) zM) (zR (zI (qJ (xA (yT u) yN (zZ 1) (yK zY)) (fE (xA gX fR (zZ 2) zT))))) zA) (zW (yS (zD (yT u) yN (zZ 0) zM) (zR (zI (qJ (xA gX fR (zZ 2) zT) (qJ (xA (yT u) yN (zK zL yX T.g_len Ao (zU (zZ 1) zY)) (zZ 2)) (fE (xA wJ wH (zK (zS7 rfl) yZ3 T.g_max DS (zU (zZ 1) zY)) (zZ 2))))))) zA) (zW (yS (zD yT6 xU3 (zZ 0) (yL5 (zX zM (zX zM zY)))) (zR (zI (qJ (xA gX fR (zZ 2) zT) (qJ (xA (yT u) yN (zK zL yX T.g_len Ao (zU (zZ 1) zY)) zT) (fE (yL6 wJ wJ wH wH zT (yZ zF yY (zZ 1) zT) (zZ 2))))))) zA) (zW (yS (zD (kP u) fO (zZ 2) (dS zT)) (zR (zI dI)) zA) (zW (yS (zD (yT u) yN (zZ 0) zM) (zR (zI (qJ (xA (yT u) yN (zK zL yX T.g_len Ao (zU (zZ 1) zY)) zT) (fE (xA wJ wH (yZ zF yY (zZ 1) zT) zT))))) zA) (zW (yS (zD (yT u) yN (zZ 0) zM) (zR (zI (qJ (xA wJ wH zT (zK zL yX T.g_len Ao (zU (zZ 1) zY))) (fE (xA wJ wH (zK (zS7 rfl) yZ3 T.g_max DS (zU (zZ 1) zY)) (zK zL yX T.g_len Ao (zU (zZ 1) zY))))))) zA) (zW (yS (zD (yT u) yN (zZ 0) zM) (zR (zI (qJ (xA (yT u) yN (zK zL yX T.g_len Ao (zU (zZ 1) zY)) zT) (qJ (xA wJ wH (yZ zF yY (zZ 1) zT) zT) (fE (xA wJ wH (yZ zF yY (zZ 1) zT) (yZ zF yY (zZ 1) zT))))))) zA) (zW (yS (RW.rt (rw_or (zD (kP u) fO (zZ 0) zM) (rw_or (zD (kP u) fO (zK zL yX T.g_len Ao (zU (zZ 1) zY)) zT) (rw_or1 (qY (gD wJ wJ wH wH zT (yZ zF yY (zZ 1) zT) zT)))))) (zR (zI dI)) zA) (zR (zI (xA zN3 zO5 (yZ zF yY (zZ 1) zT) (zN (xM1 T h0) h0 (rm hr) zQ (zX (yZ zF yY (zZ 1) zT) (zX (yZ zF yY (zZ 1) zT) zY))))))))))))))
theorem wW3(T:Txt K mg):Od P w K mg base "_law_let" yY7 ["row","known"] 3 false qV:=by intro f fd h;obtain⟨_,_,h0⟩:=T.d_l_figures;obtain⟨_,_,h1⟩:=T.d_l_fits;exact fnY [] ["row","known","parts","words","numbers","boxes"] h.F (by sleep 1) fun nd _ _ _ _ _ _ hr u=>(zW (zC 2 nd (RE.cl (yI BB BC qH qQ (zZ 0) zM))) (zW (zC 3 nd (RE.cl (yI BB BC qH qQ (yZ zF yY (zZ 2) zT) zM))) (zW (zW8 4 nd (sc0:=zH yY7) (N0:=["row","known","parts","words","numbers","boxes"]) (fs:=[]) (js:=[]) zQ (by sleep 2) rfl rfl rfl (RI.c (xU (RE.rd (yT1 (zZ 3) (wE zT) kD)))) (fun _ _ _ _ _ bi=>xN) (fun _ _ _ _ _ bi=>(zN (yN6 T h0) h0 (rm hr) bi (zX (zZ 0) zY)))) (zW (yS (RW.rt (rw_or (zD gX fR (zK zL yX T.g_len Ao (zU (zZ 2) zY)) zT) (rw_or1 (zD yT6 xU3 (dS zT) (zZ 4))))) (zR (zI dI)) zA) (zW (zC 5 nd (dS zT)) (zW (yS (zD (yT u) yN (zK zL yX T.g_len Ao (zU (zZ 2) zY)) zT) (zR (zC 5 nd (wH3 (yP1 hr) (zZ 1) (yZ zF yY (zZ 2) zT) zT ⟨rfl,rfl,rfl,rfl⟩))) zA) (zR (zI (zN (xN4 T h1) h1 (rm hr) zQ (zX (yZ zF yY (zZ 3) zT) (zX (zZ 4) (zX (zZ 5) zY))))))))))))
theorem yR6(T:Txt K mg):Od P w K mg base "_law_good_row" zP5 ["cell"] 3 false cQ:=by intro f fd h;obtain⟨_,_,h0⟩:=T.d_l_text;obtain⟨_,_,h1⟩:=T.d_l_order;obtain⟨_,_,h2⟩:=T.d_l_blanks;exact fnY [5] ["cell","many","numbers","text","openings","some"] h.F (by sleep 1) fun nd _ _ _ _ _ _ hr u=>(zW (zC 1 nd (zO xS yD zT (zO xK xI (zO yJ yG (zZ 0) zT) zT))) (zW (zC 2 nd (RE.cl (yK (zX (zZ 1) (zX (zO xS yD zT (zO xK xI (zO yJ yG (zZ 0) zT) (zZ 1))) (zX (zO xK xI (zO yJ yG (zZ 0) zT) zT) zY)))))) (zW (zC 3 nd (zO yP yB zM (zN (yV5 T h0) h0 (rm hr) (zQ (om:=[5])) (zX (zN (zH9 T h1) h1 (rm hr) (zQ (om:=[5])) (zX (zO yJ yG (zZ 0) zT) (zX (zZ 1) zY))) zY)))) (zW (zC 4 nd (RE.cl (zO cY aA (yK (zX (zO xK xI (zO yJ yG (zZ 0) zT) (zO xS yD (zZ 1) zT)) zY)) (zO zZ8 zT9 (yK (zX (zZ 1) zY)) (zO vQ vW (zZ 1) zT))))) (zW (xR 5 nd (yK (zX (zO yP yB zM (zZ 3)) (zX (zO yP yB (zO yP yB zM (zN (kX T h2) h2 (rm hr) (zQ (om:=[5])) (zX (zZ 4) zY))) (zZ 3)) (zX (zO yP yB (zO yP yB zM (yH xJ kY T.g_str (by rfl) (zU (yZ zF yY (zZ 2) zT) zY))) (zZ 3)) zY))))) (zW (xR 5 nd (zO cY aA (xO 5) (yK (zX (zO yP yB (zO yP yB zM (yH xJ kY T.g_str (by rfl) (zU (yZ zF yY (zZ 2) zT) zY))) (zZ 3)) (zX (zO yP yB zM (zN (kX T h2) h2 (rm hr) (zQ (om:=[5])) (zX (zZ 4) zY))) zY))))) (zW (xR 5 nd (zO cY aA (xO 5) (yK (zX (zO yP yB zM (zN (kX T h2) h2 (rm hr) (zQ (om:=[5])) (zX (RE.cl (bG (zZ 2) kD (wE zT))) zY))) (zX (zO yP yB zM (zN (kX T h2) h2 (rm hr) (zQ (om:=[5])) (zX (zZ 2) zY))) zY))))) (zW (jQ 5 Be Bf vS qF (zX (zO yP yB zM (zN (kX T h2) h2 (rm hr) (zQ (om:=[5])) (zX (RE.cl (yK (zX (zZ 1) (zX (yZ zF yY (zZ 2) zT) (zX (zO xK xI (zO yJ yG (zZ 0) zT) (zO xS yD (zZ 1) zT)) zY))))) zY))) zY)) (zR (zI (yZ zF yY (xO 5) (zO xK xI (zZ 0) zT))))))))))))
theorem yF9(T:Txt K mg):Od P w K mg base "_law_spoilt" zF5 ["row","cell"] 1 false zW3:=fun h=>fnY [4] ["row","cell","at","sign","words","place","more"] h.F (by sleep 1) fun nd _ _ _ _ _ _ hr u=>(zW (zC 2 nd (zO xK xI (zO yJ yG (zZ 1) zT) (zO xS yD (zK cN yY1 T.g_len Ao (zU (zZ 0) zY)) zT))) (zW (zC 3 nd (yZ zF yY (yK (zX zM (zX zM (zX zM (zX zM (zX zM (zX zM (zX zM (zX zM (zX zM (zX zM (zX zM (zX zM (zX zM (zX zM zY))))))))))))))) (zO xK xI (zO yJ yG (zZ 1) zT) zT))) (zW (yS (zD (yT u) yN (zO xK xI (zZ 1) zT) zT) (zR (zI (zO yP yB (zO yP yB (fF (zZ 0) kD (wE (zZ 2))) (zZ 3)) (fF (zZ 0) (wE (zZ 2)) kD)))) zA) (zW (yS (zD (yT u) yN (zO xK xI (zZ 1) zT) zT) (zR (zI (zO yP yB (zO yP yB (fF (zZ 0) kD (wE (zZ 2))) (zZ 3)) (fF (zZ 0) (wE (zO xS yD (zZ 2) zT)) kD)))) zA) (zW (xR 4 nd (yI BB BC qH qQ (zZ 0) zM)) (zW (zC 5 nd (zO xK xI (zO yJ yG (zZ 1) zT) (zK zL yX T.g_len Ao (zU (xO 4) zY)))) (zW (zC 6 nd (RE.cl (yK (zX zM (zX zM (zX zM (zX zM (zX zM (zX zM (zX zM (zX zM (zX zM (zX (zO yP yB zM (zO xX9 xX2 zM zT)) (zX (zO yP yB zM (zO xX9 xX2 zM zT)) (zX zM zY))))))))))))))) (zW (yX2 4 (yZ zF yY (zZ 6) (zO xK xI (zO yJ yG (zZ 1) zT) zT)) (zZ 5)) (zW (yS (zD (yT u) yN (zO xK xI (zO yJ yG (zZ 1) zT) zT) zT) (zR (wV4 4 PySem.F.slot_list_pop PySem.F.type_list_pop yF1 wZ7 (zX (zZ 5) zY))) zA) (zW (yS (zD (yT u) yN (zO xK xI (zO yJ yG (zZ 1) zT) zT) zT) (zR (jQ 4 PySem.F.slot_list_insert PySem.F.type_list_insert yW7 yX6 (zX (zZ 5) (zX (yZ zF yY (xO 4) (zZ 5)) zY)))) zA) (zR (zI (yI Bi Bj uU uT zM (xO 4))))))))))))))
theorem wV6(T:Txt K mg):Od P w K mg base "_law_row" yC7 ["cell"] 4 false cV:=by intro f fd h;obtain⟨_,_,h0⟩:=T.d_l_good_row;obtain⟨_,_,h1⟩:=T.d_l_spoilt;exact fnY [] ["cell","row"] h.F (by sleep 1) fun nd _ _ _ _ _ _ hr u=>(zW (zC 0 nd (zK wZ8 wF7 T.g_abs (by rfl) (zU (zZ 0) zY))) (zW (yS (zD (yT u) yN (zO xK xI (zO yJ yG (zZ 0) zT) zT) zT) (zR (zI zM)) zA) (zW (zC 1 nd (zN (yR6 T h0) h0 (rm hr) zQ (zX (zO yJ yG (zZ 0) zT) zY))) (zW (yS (zD (yT u) yN (zO xK xI (zZ 0) zT) zT) (zR (zI (zZ 1))) zA) (zR (zI (zN (yF9 T h1) h1 (rm hr) zQ (zX (zZ 1) (zX (zO xS yD (zO yJ yG (zO yJ yG (zZ 0) zT) zT) (zO xK xI (zZ 0) zT)) zY)))))))))
theorem zD5(T:Txt K mg):Od P w K mg base "_law_sheet" yT7 ["rows","known"] 10 false bQ:=by intro f fd h;obtain⟨_,_,h0⟩:=T.d_answered;obtain⟨_,_,h1⟩:=T.d_l_let;exact fnY [] ["rows","known","answers","k"] h.F (by sleep 1) fun nd _ _ _ _ _ _ hr u=>(zW (zC 2 nd (RE.cl (yI BB BC qH qQ (zN (kU T h0) h0 (rm hr) zQ (zX (yI Bi Bj uU uT zM (zZ 0)) zY)) zM))) (zW (yS (zD (kP u) fO (zK zL yX T.g_len Ao (zU (zZ 2) zY)) (zK zL yX T.g_len Ao (zU (zZ 0) zY))) (zR (zI dI)) zA) (zW (xG (kC T.g_range (zU (zK zL yX T.g_len Ao (zU (zZ 0) zY)) zY)) (yC 3 nd) (zR (yS (RW.rt (rw_or (zD (yT u) yN (xA (yT u) yN (yZ zF yY (zZ 2) (zZ 3)) zM) (zN (wW3 T h1) h1 (rm hr) zQ (zX (yZ zF yY (zZ 0) (zZ 3)) (zX (zZ 1) zY)))) (rw_or1 (zD (kP u) fO (zN (kU T h0) h0 (rm hr) zQ (zX (yZ zF yY (zZ 0) (zZ 3)) zY)) (yZ zF yY (zZ 2) (zZ 3)))))) (zR (zI dI)) zA)) AC) (zR (zI dI)))))
theorem wB8(T:Txt K mg):Od P w K mg base "law" yR7 ["script"] 11 false xQ8:=by intro f fd h;obtain⟨_,_,h0⟩:=T.d_l_known;obtain⟨_,_,h1⟩:=T.d_l_row;obtain⟨_,_,h2⟩:=T.d_l_sheet;obtain⟨_,_,h3⟩:=T.d_answered;exact fnY [] ["script","known","rows","at"] h.F (by sleep 1) fun nd _ _ _ _ _ _ hr u=>(zW (zC 1 nd (xL5 (xT9 T h0) h0 (rm hr) zQ)) (zW (zW8 2 nd (sc0:=zH yR7) (N0:=["script","known","rows","at"]) (fs:=[]) (js:=[]) zQ (by sleep 2) rfl rfl rfl (RI.c (xU (RE.rd (RE.cl (zO cY aA (yK (zX zT zY)) (yH yL1 wM1 T.g_list (by rfl) (zU (zZ 0) zY))))))) (fun _ _ _ _ _ bi=>xN) (fun _ _ _ _ _ bi=>(zN (wV6 T h1) h1 (rm hr) bi (zX (zZ 0) zY)))) (zW (xG (yV7 T.g_range (zU zT (zU (zK zL yX T.g_len Ao (zU (zZ 2) zY)) (zU zT zY)))) (yC 3 nd) (zR (yS (RW.rt (rw_or (qY (cT (zN (zD5 T h2) h2 (rm hr) zQ (zX (RE.cl (bG (zZ 2) (wE (zZ 3)) (wE (zO xS yD (zZ 3) zT)))) (zX (zZ 1) zY))))) (rw_or1 (qY (cT (zN (zD5 T h2) h2 (rm hr) zQ (zX (RE.cl (zO cY aA (bG (zZ 2) (wE (zZ 3)) (wE (zO xS yD (zZ 3) zT))) (yK (zX zM zY)))) (zX (zZ 1) zY)))))))) (zR (zI dI)) zA)) AC) (zR (zI (qJ (xA (yT u) yN (zN (kU T h3) h3 (rm hr) zQ (zX zM zY)) zM) (fE (xA (yT u) yN (zN (kU T h3) h3 (rm hr) zQ (zX (zO yP yB zM (yZ zF yY (zZ 2) zT)) zY)) (zO yP yB zM (zN (kU T h3) h3 (rm hr) zQ (zX (yZ zF yY (zZ 2) zT) zY)))))))))))
end
end K55
namespace K55
open PySem L2 L2.L3 MR
def evA:=(And.intro (And.intro (And.intro (And.intro (And.intro (And.intro @xT2 @wJ2) (And.intro @vY1 @vX7)) (And.intro (And.intro @vZ7 @wI3) (And.intro @wG3 (And.intro @vZ3 @zD1)))) (And.intro (And.intro (And.intro @wJ6 @zW7) (And.intro @vM (And.intro @wR @zE8))) (And.intro (And.intro @yQ1 @xT4) (And.intro @vY4 (And.intro @wU8 @vZ4))))) (And.intro (And.intro (And.intro (And.intro @vZ1 @vG) (And.intro @eV0 (And.intro @eVs @vZ2))) (And.intro (And.intro @zP8 @fK) (And.intro @xR4 (And.intro @wB5 @bB)))) (And.intro (And.intro (And.intro @uW @yQ4) (And.intro @vX9 (And.intro @uN @xK4))) (And.intro (And.intro @zD2 @zZ1) (And.intro @wA7 (And.intro @vA @vJ)))))) (And.intro (And.intro (And.intro (And.intro (And.intro @wU9 @vZ5) (And.intro @vX2 (And.intro @wO3 @vX1))) (And.intro (And.intro @uX @wP9) (And.intro @yH6 (And.intro @yI7 @zF8)))) (And.intro (And.intro (And.intro @zZ6 @xD5) (And.intro @wL6 (And.intro @xP2 @vY8))) (And.intro (And.intro @wO8 @yQ3) (And.intro @mkL0 (And.intro @mkL1 @mkL2))))) (And.intro (And.intro (And.intro (And.intro @mkL3 @mkT2) (And.intro @Res.bind_ok (And.intro @Res.bind_no @Res.bind_ex))) (And.intro (And.intro @Res.lft_some @Res.lft_none) (And.intro @Bn.{0,0} (And.intro @AQ.{0,0} @Cy.{0})))) (And.intro (And.intro (And.intro @Cz.{0} @Aw.{0}) (And.intro @List.length_nil.{0} (And.intro @if_true.{1} @if_false.{1}))) (And.intro (And.intro @AT @ite_true.{1}) (And.intro @ite_false.{1} (And.intro @BQ @BE)))))))
local macro_rules| `(tactic|simp![$x,*])=>`(tactic|simp -implicitDefEqProofs only[(evA),$x,*])
theorem zL7{α:Type}{t:D->Res Bool}{f:D->Res D}(A:α->D)(p:α->Bool)(q:α->D):∀xs:List α,(∀x∈xs,t (A x)=.ok (p x))->(∀x∈xs,p x=true->f (A x)=.ok (q x))->compX t f (xs.map A)=.ok ((xs.filter p).map q)
 |[],_,_=>rfl
 |x::xs,ht,hf=>by have ih:=zL7 A p q xs (fun y hy=>ht y (Ak _ hy)) fun y hy=>hf y (Ak _ hy);rw[AB,compX,ht x Af,Res.bind_ok,ih,List.filter_cons];cases e:p x;rfl;rw[Ae rfl,Ae rfl,hf x Af e];rfl
theorem zT5{t:B7}{α:Type}(A:α->D)(p:α->Bool)(q:α->D)(xs:List α)(h:mi ρ=.ok (xs.map A))(hl:xs.length<=1000)(ht:∀x∈xs,t (cEnv ρ js (A x))=.ok (p x))(hf:∀x∈xs,p x=true->me (cEnv ρ js (A x))=.ok (q x)):eCompX mi t me js ρ=.ok (.list ((xs.filter p).map q)):=by unfold eCompX;rw[h,Res.bind_ok,zA3 (by rw[Aa];exact hl),zL7 (t:=fun x=>t (cEnv ρ js x)) (f:=fun x=>me (cEnv ρ js x)) A p q xs ht hf];rfl
theorem xT{α:Type}(A q:α->D)(xs:List α)(h:mi ρ=.ok (xs.map A))(hl:xs.length<=1000)(hf:∀x∈xs,me (cEnv ρ js (A x))=.ok (q x)):eCompX mi tYes me js ρ=.ok (.list (xs.map q)):=by rw[zT5 A (fun _=>true) q xs h hl (fun _ _=>rfl) (fun x hx _=>hf x hx),CP.mpr fun _ _=>rfl]
theorem xR6{α:Type}(A B q:α->D)(xs:List α)(h:mi ρ=.ok (xs.map fun x=>PyData.tuple [A x,B x]))(hl:xs.length<=1000)(hf:∀x∈xs,me (cEnv2 ρ js (A x) (B x))=.ok (q x)):eComp2X mi tYes me js ρ=.ok (.list (xs.map q)):=by unfold eComp2X;rw[h,Res.bind_ok,zA3 (by rw[Aa];exact hl),zL7 (t:=fun d=>pr2 d fun x y=>tYes (cEnv2 ρ js x y)) (f:=fun d=>pr2 d fun x y=>me (cEnv2 ρ js x y)) (fun x=>PyData.tuple [A x,B x]) (fun _=>true) q xs (fun _ _=>rfl) (fun x hx _=>hf x hx),CP.mpr fun _ _=>rfl];rfl
def rI'(r:C5):C6:=r.map fun(b:Nat)=>(b:Int)
theorem yK4{n b:Nat}{xs:C6}(o:Ord n xs)(hn:n<=1000)(hb:b<n):fQ [tI xs,.int b]=.ok (tI (rI' (ring n xs b))):=by
 show(aR [some (tI xs),some (.int b),none]).bind (fin false)=_;unfold aR;simp -implicitDefEqProofs only[(evA)];obtain⟨a1,a2,a3,a4⟩:=o.yA hb;have last:∀i,atI ((List.range (i+1)).map fun j=>PyData.int ((it xs j b:Nat):Int)) (-1)=some (.int ((it xs i b:Nat):Int)):=fun i=>by rw[DC,AJ];exact wV1 _ _
 have nx:∀i,atI (xs.map PyData.int) ((it xs i b:Nat):Int)=some (.int ((it xs (i+1) b:Nat):Int)):=fun i=>by have hi:=o.qT hb i;rw[zZ3,zV3 (by rw[o.len];exact hi),o.gG hi];rfl
 obtain⟨ρ',e,rfl⟩:=yN4 (t:=b2 neD (e2 ixD (eV 0) (e2 ixD (eV 2) (e1 negD (eC (.int 1))))) (eV 1)) (b:=sM 2 appD (aC (e2 ixD (eV 0) (e2 ixD (eV 2) (e1 negD (eC (.int 1))))) aN)) (fun i ρ=>ρ=[some (tI xs),some (.int b),some (.list ((List.range (i+1)).map fun j=>PyData.int ((it xs j b:Nat):Int)))]) (per n xs b-1) 1000000 [some (tI xs),some (.int b),some (.list [.int b])] rfl (by
   rintro i ρ hi rfl;simp![last,nx,wF];have ne:=a4 (i+1) (by rfl') (by rfl');rw[Ad (by rfl')];refine⟨rfl,_,?_,rfl⟩;simp![cP (l:=(List.range (i+1)).map fun j=>PyData.int ((it xs j b:Nat):Int)) (by rw[Aa,Aq];rfl')];congr 2;simp only[DC,AJ,AB,Dc]) (by
   rintro ρ rfl;simp![last,nx,wF];rw[show per n xs b-1+1=per n xs b by rfl',a3,Ab rfl];rfl) (by rfl')
 rw[e];simp -implicitDefEqProofs only[(evA)];congr 2;rw[show per n xs b-1+1=per n xs b by rfl'];unfold rI' ring;rw[Ar,Ar];rfl
abbrev ringsD(n:Nat)(xs:C6)(m:Nat):C1:=(rgs n xs m).map rI'
theorem kK{n:Nat}{xs:C6}(o:Ord n xs)(hn:n<=1000):wP [tI xs]=.ok (rows (ringsD n xs n)):=by
 show(zW6 [some (tI xs),none,none,none,none,none]).bind (fin true)=_;unfold zW6;simp![Aa,o.len,cJ _ n hn,gH hn,dP];have cnt:∀m,m<=n->(rgs n xs m).length<=m:=by
  intro m;induction m with
  |zero=>intro _;simp[rgs]
  |succ m ih=>intro h;have:=ih (by rfl');rw[rgs];split;rfl';rw[Aj,BX];rfl'
 obtain⟨ρ',e,x,y,z,rfl⟩:=uM (g:=gN 3) (b:=sIf (tNt (tV (e2 ixD (eV 2) (eV 3)))) (sQ (sS 4 (eF fQ (aC (eV 0) (aC (eV 3) aN)))) (sQ (sM 1 appD (aC (eV 4) aN)) (sF (iS (eV 4)) (gN 5) (sI 2 (eV 5) (eC (.bool true)))))) sN) (fun i ρ=>∃x y z,ρ=[some (tI xs),some (rows (ringsD n xs i)),some (.list ((List.range n).map fun c=>.bool (has (rgs n xs i) c))),x,y,z]) ((List.range n).map fun(i:Nat)=>PyData.int (i:Int)) [some (tI xs),some (.list []),some (.list ((List.range n).map fun _=>.bool false)),none,none,none] ⟨none,none,none,rfl⟩ (by
   rintro i d ρ hd ⟨x,y,z,rfl⟩;obtain⟨hi,rfl⟩:=zZ7 hd;cases hh:has (rgs n xs i) i with
   |true=>refine⟨_,[some (tI xs),some (rows (ringsD n xs i)),some (.list ((List.range n).map fun c=>.bool (has (rgs n xs i) c))),some (.int i),y,z],rfl,?_,some (.int i),y,z,?_⟩;simp![zS1 hi,hh];unfold ringsD;rw[rgs,Ae hh]
   |false=>have hh':¬has (rgs n xs i) i=true:=(by rw[hh];exact AY);obtain⟨ρ2,e2,x2,rfl⟩:=uM (g:=gN 5) (b:=sI 2 (eV 5) (eC (.bool true))) (fun j ρ=>∃x,ρ=[some (tI xs),some (rows (ringsD n xs i++[rI' (ring n xs i)])),some (.list ((List.range n).map fun c=>.bool (has (rgs n xs i) c ||((ring n xs i).take j).contains c))),some (.int i),some (tI (rI' (ring n xs i))),x]) ((rI' (ring n xs i)).map PyData.int) [some (tI xs),some (rows (ringsD n xs i++[rI' (ring n xs i)])),some (.list ((List.range n).map fun c=>.bool (has (rgs n xs i) c))),some (.int i),some (tI (rI' (ring n xs i))),z] ⟨z,by simp⟩ (by rintro j d ρ hd ⟨x,rfl⟩;unfold rI' at hd;rw[Ar,Al]at hd;obtain⟨m,hm,rfl⟩:=Az.mp hd;have hmr:m∈ring n xs i:=AR hm;have hml:m<n:=o.zP9 hi (wQ.mp hmr);refine⟨_,_,rfl,?_,some (.int m),rfl⟩;simp![Function.comp,zV2 hml];congr 6;refine By PyData.list (Bb fun c _=>?_);rw[Dr,hm];by_cases ec:c=m;subst ec;rw[Ae rfl];simp;rw[An ec];simp[ec]);refine⟨_,_,rfl,?_,some (.int i),some (tI (rI' (ring n xs i))),x2,rfl⟩;have e5:rows (ringsD n xs i)=.list ((ringsD n xs i).map tI):=rfl;simp![zS1 hi,hh,yK4 o hn hi,cP (l:=(ringsD n xs i).map tI) (d:=tI (rI' (ring n xs i))) (by rw[Aa,Aa];have:=cnt i (by rfl');rfl')];have e6:(ringsD n xs i).map tI++[tI (rI' (ring n xs i))]=(ringsD n xs i++[rI' (ring n xs i)]).map tI:=(by rw[AJ];rfl);rw[e6,e2];congr 2;have e7:ringsD n xs (i+1)=ringsD n xs i++[rI' (ring n xs i)]:=(by unfold ringsD;rw[rgs,An hh',AJ];rfl);rw[e7];congr 4;refine By PyData.list (Bb fun c _=>?_);congr 1;rw[rgs,An hh'];unfold has rI';rw[List.any_append,Aa,Aa,BU];simp)
 rw[Aa,Aq]at e;rw[e];rfl
theorem zJ9{n:Nat}{xs:C6}:∀m,(rgs n xs m).length<=m
 |0=>Ac _
 |m+1=>by have:=zJ9 (n:=n) (xs:=xs) m;rw[rgs];split;rfl';rw[Aj];simp;rfl'
structure Opn(n:Nat)(ops:C6):Prop where
 len:ops.length=n
 bd:∀x∈ops,0<=x/\x<=n
theorem bS{n:Nat}(p:Opn n ops)(h1:1<=n)(h2:n<=60):vI [.int n,tI ops]=.ok (tI ops):=by
 show(vH [some (.int n),some (tI ops)]).bind (fin false)=_;unfold vH;have hne:ops≠[]:=fun z=>by have:=p.len;rw[z]at this;simp at this;rfl'
 have a1:=p.bd _ (yL2 hne);have a2:=p.bd _ (zK7 hne);simp![Aa,p.len,wF,xZ3 hne,xZ7 hne,Ab (show(1:Int)<=(n:Int) by rfl'),Ab (show(n:Int)<=60 by rfl'),decide_true,Ad (show ¬minL ops<0 by rfl'),Ad (show ¬(n:Int)<maxL ops by rfl')]
def BadO(p:Int)(ys:C6):Prop:=¬(1<=p/\p<=60/\(ys.length:Int)=p/\∀y∈ys,0<=y/\y<=p)
theorem cD{d:D}(hd:d=lI ys\/d=tI ys){p:Int}(h:BadO p ys):vI [.int p,d]=.ex "BadOpenings":=by
 show(vH [some (.int p),some d]).bind (fin false)=_;unfold vH;have ln:lenD [d]=some (.int (ys.length:Int)):=by rcases hd with rfl|rfl;rw[zZ6];simp only[yH6,Bn,Aa];rw[zZ6];simp only[yI7,Bn,Aa]
 have z1:(if ([PyData.str "openings are for 1 to 60 people"]:D0).length<=sizeLine then(Res.ex "BadOpenings":Res Out)else .no)=.ex "BadOpenings":=Ae (by decide);have z2:(if ([PyData.str "each person has its openings"]:D0).length<=sizeLine then(Res.ex "BadOpenings":Res Out)else .no)=.ex "BadOpenings":=Ae (by decide);have z3:(if ([PyData.str "openings are from 0 to as many as there are boxes"]:D0).length<=sizeLine then(Res.ex "BadOpenings":Res Out)else .no)=.ex "BadOpenings":=Ae (by decide);by_cases p1:1<=p;by_cases p2:p<=60;by_cases p3:(ys.length:Int)=p;have hne:ys≠[]:=fun z=>by rw[z]at p3;simp at p3;rfl'
 have mn:min1D [d]=some (.int (minL ys)):=by rcases hd with rfl|rfl;exact wR8 hne;exact xZ3 hne
 have mx:max1D [d]=some (.int (maxL ys)):=by rcases hd with rfl|rfl;exact yB3 hne;exact xZ7 hne
 have hex:minL ys<0\/p<maxL ys:=by by_cases c1:minL ys<0;exact .inl c1;by_cases c2:p<maxL ys;exact .inr c2;refine absurd ⟨p1,p2,p3,fun y hy=>?_⟩ h;have:=yC5 hy;have:=yX4 hy;rfl'
 rcases hex with c|c;simp -implicitDefEqProofs only[vM,wR,uN,zD2,uW,bB,vG,fK,vJ,vA,eV0,eVs,uX,zW7,wU,Res.bind_ok,Res.bind_ex,Res.lft_some,ln,mn,mx,wF,Ab p1,Ab p2,Ab p3,Ab c,if_true,if_false,BQ,BE,AT,z3];by_cases c1:minL ys<0;simp -implicitDefEqProofs only[vM,wR,uN,zD2,uW,bB,vG,fK,vJ,vA,eV0,eVs,uX,zW7,wU,Res.bind_ok,Res.bind_ex,Res.lft_some,ln,mn,mx,wF,Ab p1,Ab p2,Ab p3,Ab c1,if_true,if_false,BQ,BE,AT,z3];simp -implicitDefEqProofs only[vM,wR,uN,zD2,uW,bB,vG,fK,vJ,vA,eV0,eVs,uX,zW7,wU,Res.bind_ok,Res.bind_ex,Res.lft_some,ln,mn,mx,wF,Ab p1,Ab p2,Ab p3,Ad c1,Ab c,if_true,if_false,BQ,BE,AT,z3];simp -implicitDefEqProofs only[vM,wR,uN,zD2,uW,bB,vG,fK,vJ,vA,eV0,eVs,uX,zW7,wU,Res.bind_ok,Res.bind_ex,Res.lft_some,ln,wF,Ab p1,Ab p2,Ad p3,if_true,if_false,BQ,BE,AT,z2];simp -implicitDefEqProofs only[vM,wR,uN,uW,vG,fK,vJ,vA,eV0,eVs,uX,wU,Res.bind_ok,Res.bind_ex,Res.lft_some,Ab p1,Ad p2,if_true,if_false,BQ,BE,AT,z1];simp -implicitDefEqProofs only[vM,wR,uN,uW,vG,fK,vJ,vA,eV0,eVs,uX,wU,Res.bind_ok,Res.bind_ex,Res.lft_some,Ad p1,if_true,if_false,BQ,BE,AT,z1]
theorem Opn.at{n:Nat}(q:Opn n ops){p:Nat}(h:p<n):0<=ops.getD p 0/\ops.getD p 0<=n:=q.bd _ (MR.getD_mem (by rw[q.len];exact h))
theorem wQ9{n:Nat}(q:Opn n ops){p:Nat}(h:p<n):atI (ops.map PyData.int) (p:Int)=some (.int ((ops.getD p 0).toNat:Int)):=by have:=q.at h;rw[zZ3,zV3 (by rw[q.len];exact h),Bn];congr 2;rfl'
def fd(n:Nat)(xs ops:C6)(p:Nat):Bool:=decide (per n xs p<=(ops.getD p 0).toNat)
def FN(n:Nat)(xs ops:C6):C6:=rI' ((List.range n).filter (fd n xs ops))
theorem zQ7{n:Nat}{xs:C6}(o:Ord n xs):(rgs n xs n).flatten.Perm (List.range n):=by have k:=o.vD n (Ac n);rw[Cw k.nodup Cd];intro a;rw[AH,Bu];constructor;rintro⟨r,hr,ha⟩;obtain⟨b,hb,rfl,_⟩:=k.each r hr;exact o.zP9 hb (wQ.mp ha);intro h;exact k.cover a h
theorem zL6{n:Nat}{xs:C6}(o:Ord n xs):(rgs n xs n).flatten.length=n:=by rw[(zQ7 o).length_eq,Aq]
theorem yL(l:C5):(rI' l).length=l.length:=by unfold rI';simp
theorem xI9(a b:C5):rI' (a++b)=rI' a++rI' b:=by unfold rI';simp
theorem xG6(n:Nat)(xs ops:C6):(FN n xs ops).Pairwise (· <= ·):=by unfold FN rI';rw[DK];exact((Df (n:=n)).filter _).imp fun h=>by rfl'
theorem wQ6{n:Nat}{xs:C6}(o:Ord n xs):sortI (rI' ((rgs n xs n).flatten.filter (fd n xs ops)))=FN n xs ops:=zN8 ((jN _).trans (((zQ7 o).filter _).map _)) (cB _) (xG6 n xs ops)
abbrev fBody:B6:=sM 2 extD (aC (eCompX (iS (eV 3)) (b2 geI (e2 ixD (eV 1) (eV 0)) (eB lenD (aC (eV 2) aN))) (eV 0) [1,3]) aN)
theorem xA8{n b:Nat}{xs l:C6}{od:D}(o:Ord n xs)(q:Opn n ops)(ho:od=tI ops\/od=lI ops)(hb:b<n)(hl:l.length+((ring n xs b).filter (fd n xs ops)).length<=1000)(hn:n<=1000):fBody [some (tI xs),some od,some (lI l),some (tI (rI' (ring n xs b)))]=.ok (.nx [some (tI xs),some od,some (lI (l++rI' ((ring n xs b).filter (fd n xs ops)))),some (tI (rI' (ring n xs b)))]):=by
 have pb:=(o.yA hb).2.1;have c1:eCompX (iS (eV 3)) (b2 geI (e2 ixD (eV 1) (eV 0)) (eB lenD (aC (eV 2) aN))) (eV 0) [1,3] [some (tI xs),some od,some (lI l),some (tI (rI' (ring n xs b)))]=.ok (lI (rI' ((ring n xs b).filter (fd n xs ops)))):=by
  have:=zT5 (mi:=iS (eV 3)) (t:=b2 geI (e2 ixD (eV 1) (eV 0)) (eB lenD (aC (eV 2) aN))) (me:=eV 0) (js:=[1,3]) (ρ:=[some (tI xs),some od,some (lI l),some (tI (rI' (ring n xs b)))]) (fun c:Nat=>PyData.int (c:Int)) (fd n xs ops) (fun c:Nat=>PyData.int (c:Int)) (ring n xs b) (by
    simp -implicitDefEqProofs only[(evA)];unfold rI';rw[Ar];rfl) (by rw[xH];rfl') (fun c hc=>by
    have hcn:=o.zP9 hb (wQ.mp hc);have ep:=o.wZ2 hb (wQ.mp hc);have ea:=wQ9 q hcn;have el:(rI' (ring n xs b)).length=per n xs c:=(by rw[yL,xH,ep]);show b2 geI _ _ [some (.int (c:Int)),some od,some (tI (rI' (ring n xs b)))]=_;rcases ho with rfl|rfl;simp![ea,Aa,el];unfold fd;congr 1;rw[Cq,decide_eq_true_iff,decide_eq_true_iff];rfl';simp![ea,Aa,el];unfold fd;congr 1;rw[Cq,decide_eq_true_iff,decide_eq_true_iff];rfl') fun c _ _=>rfl
  rw[this];unfold rI';simp only[lI,Ar,Dk]
 have e1:=zG6 (l:=l.map PyData.int) (k:=(rI' ((ring n xs b).filter (fd n xs ops))).map PyData.int) (d:=lI (rI' ((ring n xs b).filter (fd n xs ops)))) rfl (by rw[Aa,Aa,yL];exact hl);simp![c1,e1];simp only[lI,AJ]
theorem fLoop{n:Nat}{xs:C6}{od:D}(o:Ord n xs)(q:Opn n ops)(ho:od=tI ops\/od=lI ops)(hn:n<=1000):∃y,L3.forM (gN 3) fBody ((ringsD n xs n).map tI) [some (tI xs),some od,some (.list []),none]=.ok (.nx [some (tI xs),some od,some (lI (rI' ((rgs n xs n).flatten.filter (fd n xs ops)))),y]):=by have k:=o.vD n (Ac n);obtain⟨ρ',e,y,rfl⟩:=uM (g:=gN 3) (b:=fBody) (fun i ρ=>∃y,ρ=[some (tI xs),some od,some (lI (rI' (((rgs n xs n).take i).flatten.filter (fd n xs ops)))),y]) ((ringsD n xs n).map tI) [some (tI xs),some od,some (.list []),none] ⟨none,rfl⟩ (by rintro i d ρ hd ⟨y,rfl⟩;unfold ringsD at hd;rw[Ar,Al]at hd;obtain⟨r,hr,rfl⟩:=Az.mp hd;obtain⟨b,hb,rfl,_⟩:=k.each r (AR hr);have tk:(rgs n xs n).take (i+1)=(rgs n xs n).take i++[ring n xs b]:=(by rw[Dr,hr];rfl);have e1:((rgs n xs n).take (i+1)).flatten.filter (fd n xs ops)=((rgs n xs n).take i).flatten.filter (fd n xs ops)++(ring n xs b).filter (fd n xs ops):=(by rw[tk,BH,Em];simp);have ln:(((rgs n xs n).take (i+1)).flatten.filter (fd n xs ops)).length<=n:=(by refine As (DT _ _) ?_;have h:=By (fun z=>(List.flatten z).length) (BA (i+1) (rgs n xs n));simp only[BH,Aj,zL6 o]at h;rfl');rw[e1,Aj]at ln;refine⟨_,_,rfl,xA8 o q ho hb (by rw[yL];rfl') hn,some (tI (rI' (ring n xs b))),?_⟩;rw[e1,xI9]);rw[Aa,Aa,BU]at e;exact⟨y,e⟩
theorem xV8{n:Nat}{xs:C6}(o:Ord n xs)(q:Opn n ops)(h1:1<=n)(h2:n<=60):bN [tI xs,tI ops]=.ok (tI (FN n xs ops)):=by
 show(dW [some (tI xs),some (tI ops),none,none]).bind (fin false)=_;unfold dW;obtain⟨y,fl⟩:=fLoop o q (.inl rfl) (show n<=1000 by rfl');simp![Aa,o.len,bS q h1 h2,kK o (show n<=1000 by rfl'),fl];have ln:(rI' ((rgs n xs n).flatten.filter (fd n xs ops))).length<=63:=by rw[yL];have:=DT (fd n xs ops) (rgs n xs n).flatten;rw[zL6 o]at this;rfl'
 simp![yN3 ln,wQ6 o]
theorem yJ9:∀l:C6,lfs (l.map PyData.int)=true
 |[]=>rfl
 |a::l=>by rw[AB,lfs,yJ9 l];rfl
theorem wK5(l:C6):lfT false (tI l)=true:=by show lf (.tuple (l.map PyData.int))=true;rw[lf,yJ9]
theorem zC7{n:Nat}(h:n<=60):jK [.int n]=.ok .none:=by show(uQ [some (.int n)]).bind (fin false)=_;unfold uQ;simp![Ab (show(0:Int)<=(n:Int) by rfl'),Ab (show(n:Int)<=60 by rfl')]
theorem wG{n:Nat}{k:Int}(h:n<=60)(hk:0<=k):xQ [.int n,.int k]=.ok .none:=by show(wZ [some (.int n),some (.int k)]).bind (fin false)=_;unfold wZ;simp![zC7 h,Ad (show ¬k<0 by rfl')]
theorem zH7{p:Int}(h:¬(0<=p/\p<=60)):jK [.int p]=.ex "TooMany":=by show(uQ [some (.int p)]).bind (fin false)=_;unfold uQ;have z1:(if ([PyData.str "there are 0 to 60 people"]:D0).length<=sizeLine then(Res.ex "TooMany":Res Out)else .no)=.ex "TooMany":=Ae (by decide);by_cases p1:0<=p;have p2:¬p<=60:=fun z=>h ⟨p1,z⟩;simp -implicitDefEqProofs only[wR,uN,uW,vG,vJ,vA,eV0,eVs,uX,wU,Res.bind_ok,Res.bind_ex,Res.lft_some,Ab p1,Ad p2,if_true,if_false,BQ,BE,AT,z1];simp -implicitDefEqProofs only[wR,uN,uW,vG,vJ,vA,eV0,eVs,uX,wU,Res.bind_ok,Res.bind_ex,Res.lft_some,Ad p1,if_true,if_false,BQ,BE,AT,z1]
theorem cA{p k:Int}(h:¬(0<=p/\p<=60)):xQ [.int p,.int k]=.ex "TooMany":=by show(wZ [some (.int p),some (.int k)]).bind (fin false)=_;unfold wZ;simp![zH7 h]
theorem zJ3{c j:Nat}(hc:c<=61)(hj:j<=61):Small (M12.ff ((c:Int)-1) j):=⟨367,by decide,M12.zA5 c j hc hj⟩
theorem zO9{l k:Int}{n:Nat}(hn:n<=60):Small (M12.G l k n):=⟨24001,by decide,M12.zF6 l k n hn⟩
theorem castT{i j:Nat}(h:j<i+1):(i:Int)+1-((j:Int)+1)=((i-j:Nat):Int):=by rfl'
theorem mulT{x:Int}{i j:Nat}(h:j<i+1)(h':i<60):MulOk x ((i:Int)+1-((j:Int)+1)):=MulOk.right (by rfl') (by rfl')
theorem le61{i j:Nat}(h:j<i+1)(h':i<60):i+1<=61/\j<=61/\i-j<=60:=by rfl'
theorem wK{n:Nat}(l:Int){k:Int}(hn:n<=60)(hk:0<=k):wW [.int n,.int l,.int k]=.ok (lI (M12.mbl l k n)):=by
 show(jE [some (.int n),some (.int l),some (.int k),none,none,none,none,none]).bind (fin true)=_;unfold jE;simp![zW5 (m:=(n:Int)) (by rfl') (by rfl'),AX];refine vL (fun i ρ=>∃c t w x,ρ=[some (.int n),some (.int l),some (.int k),some (lI (M12.mbl l k i)),c,t,w,x]) ⟨none,none,none,none,rfl⟩ ?_ ?_;rintro i d ρ hd ⟨c,t,w,x,rfl⟩;obtain⟨hi,rfl⟩:=uC hd;have hlen:(M12.mbl l k i).length=i+1:=M12.xV l k i;have hm:(if (i:Int)+1<k then(i:Int)+1 else k)=min k ((i:Int)+1):=by split<;>rfl'
 have inner:∃y,L3.forM (gN 7) (sQ (sIf (b2 geI (eV 7) (eV 1)) (sS 5 (e2 addI (eV 5) (e2 mulI (eV 6) (e2 ixD (eV 3) (e2 subI (eV 4) (eV 7)))))) sN) (sS 6 (e2 mulI (eV 6) (e2 subI (eV 4) (eV 7))))) ((List.range (min k ((i:Int)+1)).toNat).map fun(j:Nat)=>PyData.int ((j:Int)+1)) [some (.int n),some (.int l),some (.int k),some (lI (M12.mbl l k i)),some (.int ((i:Int)+1)),some (.int 0),some (.int 1),x]=.ok (.nx [some (.int n),some (.int l),some (.int k),some (lI (M12.mbl l k i)),some (.int ((i:Int)+1)),some (.int (M12.tot l (M12.mbl l k i) (min k ((i:Int)+1)).toNat)),some (.int (M12.ff (((i+1:Nat):Int)-1) (min k ((i:Int)+1)).toNat)),y]):=by obtain⟨ρ',e,y,rfl⟩:=uM (g:=gN 7) (b:=sQ (sIf (b2 geI (eV 7) (eV 1)) (sS 5 (e2 addI (eV 5) (e2 mulI (eV 6) (e2 ixD (eV 3) (e2 subI (eV 4) (eV 7)))))) sN) (sS 6 (e2 mulI (eV 6) (e2 subI (eV 4) (eV 7))))) (fun j ρ=>∃y,ρ=[some (.int n),some (.int l),some (.int k),some (lI (M12.mbl l k i)),some (.int ((i:Int)+1)),some (.int (M12.tot l (M12.mbl l k i) j)),some (.int (M12.ff (((i+1:Nat):Int)-1) j)),y]) ((List.range (min k ((i:Int)+1)).toNat).map fun(j:Nat)=>PyData.int ((j:Int)+1)) [some (.int n),some (.int l),some (.int k),some (lI (M12.mbl l k i)),some (.int ((i:Int)+1)),some (.int 0),some (.int 1),x] ⟨x,rfl⟩ (by rintro j d ρ hd ⟨y,rfl⟩;obtain⟨hj,rfl⟩:=uC hd;have hj1:j<i+1:=(by rfl');have ii:i<60:=(by rfl');obtain⟨q1,q2,q3⟩:=le61 hj1 ii;have hv:=qZ (xs:=M12.mbl l k i) (i:=(i:Int)+1-((j:Int)+1)) (j:=i-j) (castT hj1) (by rw[hlen];exact Dm (CA _ _));rw[M12.wM l k i (i-j) (CA _ _)]at hv;have e2:M12.ff (((i+1:Nat):Int)-1) j*((i:Int)+1-((j:Int)+1))=M12.ff (((i+1:Nat):Int)-1) (j+1):=(by rw[M12.ff];congr 1;rfl');have m1:=vR (i:=M12.ff (((i+1:Nat):Int)-1) j) (j:=M12.G l k (i-j)) (.inr ⟨zJ3 q1 q2,zO9 q3⟩);have m2:=vR (i:=M12.ff (((i+1:Nat):Int)-1) j) (j:=(i:Int)+1-((j:Int)+1)) (mulT hj1 ii);by_cases hl:l<=(j:Int)+1;refine⟨_,_,rfl,?_,some (.int ((j:Int)+1)),rfl⟩;simp![Ab hl,hv,m1,m2,e2];rw[M12.tot,Ae hl,hlen,Ck,M12.wM l k i (i-j) (CA _ _)];refine⟨_,_,rfl,?_,some (.int ((j:Int)+1)),rfl⟩;simp![Ad hl,m2,e2];rw[M12.tot,An hl]);rw[Aa,Aq]at e;exact⟨y,e⟩
 obtain⟨y,inner⟩:=inner;refine⟨_,_,rfl,?_,some (.int ((i:Int)+1)),some (.int (M12.tot l (M12.mbl l k i) (min k ((i:Int)+1)).toNat)),some (.int (M12.ff (((i+1:Nat):Int)-1) (min k ((i:Int)+1)).toNat)),y,rfl⟩;simp![min2D,hm,zW5 (m:=min k ((i:Int)+1)) (by rfl') (by rfl'),inner,cP (l:=(M12.mbl l k i).map PyData.int) (by rw[Aa];rfl')];simp only[M12.mbl,lI,AJ,AB,Dc];rintro ρ ⟨c,t,w,x,rfl⟩;rw[Aa,Aq];simp -implicitDefEqProofs only[(evA)]
theorem yM7{n:Nat}{k:Int}(hn:n<=60)(hk:0<=k):fP [.int n,.int k]=.ok (.int (M12.G 1 k n)):=by show(kQ [some (.int n),some (.int k)]).bind (fin false)=_;unfold kQ;have g1:=M12.xV 1 k n;have hv:=qZ (xs:=M12.mbl 1 k n) (i:=(n:Int)) (j:=n) rfl (by rfl');rw[M12.wM 1 k n n (Ac _)]at hv;simp![wG hn hk,wK 1 hn hk,hv]
theorem zE2{n m:Nat}(hn:n<=60):M12.bin n m<2^61:=by
 have h:=M12.yH3 n m;have h2:(2:Int)^n<=2^60:=by exact_mod_cast Bw (by decide:0<2) hn
 have h3:(2:Int)^60<2^61:=by decide
 rfl'
theorem xX6{n m:Nat}{j:Int}(hn:n<=60):MulOk (M12.bin n m) j:=by
 have h:=zE2 (m:=m) hn;have h0:=M12.jJ n m;have h1:(2:Int)^61<2^64:=by decide
 exact MulOk.left (by rfl') (by rfl')
theorem zB1{n m i:Nat}{l k:Int}(hn:n<=60)(hi:i<=60):Small (M12.bin n m*M12.G l k i):=by
 refine⟨61+24001,by decide,?_⟩;have h:=zE2 (m:=m) hn;have h0:=M12.jJ n m;have a:(M12.bin n m).natAbs<2^61:=by
  have:((M12.bin n m).natAbs:Int)<((2^61:Nat):Int):=by rw[Int.natAbs_of_nonneg h0];exact_mod_cast h
  exact_mod_cast this
 rw[DM,Dq];exact Nat.mul_lt_mul'' a (M12.zF6 l k i hi)
def Tl(n:Nat)(k:Int)(i:Nat):C6:=M12.tells (M12.mbl 1 k n) (M12.mbl (k+1) n n) n i
theorem aY{n:Nat}{k:Int}(hn:n<=60)(hk:0<=k):jL [.int n,.int k]=.ok (lI (Tl n k (n+1))):=by show(uS [some (.int n),some (.int k),none,none,none,none,none]).bind (fin true)=_;unfold uS;have g1:=M12.xV 1 k n;have g2:=M12.xV (k+1) n n;simp![wG hn hk,wK 1 hn hk,wK (k+1) (k:=(n:Int)) hn (by rfl'),xG3 (n:=n) (by rfl')];refine vL (fun i ρ=>∃x,ρ=[some (.int n),some (.int k),some (lI (M12.mbl 1 k n)),some (lI (M12.mbl (k+1) n n)),some (lI (Tl n k i)),some (.int (M12.bin n i)),x]) ⟨none,by rw[M12.cL];rfl⟩ ?_ ?_;rintro i d ρ hd ⟨x,rfl⟩;obtain⟨hi,rfl⟩:=uC hd;have hv1:=qZ (xs:=M12.mbl 1 k n) (i:=(i:Int)) (j:=i) rfl (by rfl');have hv2:=qZ (xs:=M12.mbl (k+1) n n) (i:=(n:Int)-(i:Int)) (j:=n-i) (by rfl') (by rfl');have r1:=M12.wM 1 k n i (by rfl');have r2:=M12.wM (k+1) n n (n-i) (by rfl');rw[r1]at hv1;rw[r2]at hv2;have m1:=vR (i:=M12.bin n i) (j:=M12.G 1 k i) (xX6 hn);have m2:=vR (i:=M12.bin n i*M12.G 1 k i) (j:=M12.G (k+1) n (n-i)) (.inr ⟨zB1 hn (by rfl'),zO9 (by rfl')⟩);have m3:=vR (i:=M12.bin n i) (j:=(n:Int)-(i:Int)) (xX6 hn);have lt:(Tl n k i).length=i:=M12.gR _ _ _ _;refine⟨_,_,rfl,?_,some (.int (i:Int)),rfl⟩;simp![hv1,hv2,m1,m2,m3,fdivO,Ae (show DivOk ((i:Int)+1)from DivOk.small (by rfl') (by rfl')),M12.wW7,cP (l:=(Tl n k i).map PyData.int) (by rw[Aa];rfl')];simp only[Tl,M12.tells,lI,AJ,AB,Dc,r1,r2];rintro ρ ⟨x,rfl⟩;rw[Aa,Aq];simp -implicitDefEqProofs only[(evA)]
theorem wZ9{l:C6}{j:Nat}(h:j<l.length):(l.map PyData.int).getD j PyData.none=PyData.int (l.getD j 0):=by rw[Ax,Ax,Al,Ag h];rfl
theorem wR1:sortI ys=rg ys.length↔ys.Perm (rg ys.length):=by constructor;intro h;rw[<-h];exact(jN ys).symm;intro h;exact zN8 ((jN ys).trans h) (cB ys) (vY5 _)
theorem xA3{ns:C6}(h:ns.length<=63):sortD [tI ns]=some (lI (sortI ns)):=by unfold sortD;simp only[nsD,seqD,AQ,intsOf_map];rw[Ae (by rfl')]
theorem zL4{d:D}(hd:d=lI ys\/d=tI ys):zW4 [d]=.ok (.bool (decide (1<=ys.length/\ys.length<=60/\ys.Perm (rg ys.length)))):=by
 show(zW9 [some d]).bind (fin false)=_;unfold zW9;have ln:lenD [d]=some (.int (ys.length:Int)):=by rcases hd with rfl|rfl;rw[zZ6];simp only[yH6,Bn,Aa];rw[zZ6];simp only[yI7,Bn,Aa]
 by_cases h1:1<=ys.length;by_cases h2:ys.length<=60;have sr:sortD [d]=some (lI (sortI ys)):=by rcases hd with rfl|rfl;exact yN3 (by rfl');exact xA3 (by rfl')
 have d1:decide ((1:Int)<=(ys.length:Int))=true:=Ab (by rfl');have d2:decide ((ys.length:Int)<=60)=true:=Ab (by rfl');have rl:=zH2 (n:=ys.length) (by rfl');rw[show((List.range ys.length).map fun(i:Nat)=>(i:Int))=rg ys.length from rfl]at rl;simp -implicitDefEqProofs only[zE8,zZ1,yQ4,uW,vG,fK,vJ,vA,eV0,zP8,uX,zF8,yQ3,zD1,Res.bind_ok,Res.lft_some,ln,d1,d2,sr,rl,xJ5,if_true];congr 2;rw[Cq,decide_eq_true_iff,decide_eq_true_iff,wR1];exact⟨fun z=>⟨h1,h2,z⟩,fun z=>z.2.2⟩;have d1:decide ((1:Int)<=(ys.length:Int))=true:=Ab (by rfl');have d2:decide ((ys.length:Int)<=60)=false:=Ad (by rfl');simp -implicitDefEqProofs only[zE8,zZ1,yQ4,uW,vG,fK,vJ,vA,eV0,zP8,uX,zF8,yQ3,zD1,Res.bind_ok,Res.lft_some,ln,d1,d2,if_true,AT,if_false];congr 2
 symm
 exact Ad fun z=>h2 z.2.1;have d1:decide ((1:Int)<=(ys.length:Int))=false:=Ad (by rfl');simp -implicitDefEqProofs only[zE8,zZ1,yQ4,uW,vG,fK,vJ,vA,eV0,zP8,uX,zF8,yQ3,zD1,Res.bind_ok,Res.lft_some,ln,d1,AT,if_false];congr 2
 symm
 exact Ad fun z=>h1 z.1
theorem wQ8{xs:C6}{a:Nat}(h:a<xs.length)(v:Int):setD (xs.map PyData.int) (.int (a:Int)) (.int v)=some ((xs.set a v).map PyData.int):=by unfold setD;simp only;rw[Aa,zB9 h,Bn,List.map_set]
theorem gK{m j:Nat}(hm:m<60)(hj:j<=m):vF [.int ((m+1:Nat):Int),.int ((j+1:Nat):Int)]=.ok (.int ((nf m j:Nat):Int)):=by
 show(qO [some (.int ((m+1:Nat):Int)),some (.int ((j+1:Nat):Int)),none,none]).bind (fin false)=_;unfold qO;have rg:=zK2 (a:=1) (b:=j+1) (by rfl') (by rfl');rw[show((1:Nat):Int)=1 from rfl,Ca]at rg;simp![rg];refine vL (fun i ρ=>∃a,ρ=[some (.int ((m+1:Nat):Int)),some (.int ((j+1:Nat):Int)),some (.int ((nf m i:Nat):Int)),a]) ⟨none,rfl⟩ ?_ ?_;rintro i d ρ hd ⟨a,rfl⟩;obtain⟨hi,rfl⟩:=uC hd;have m1:=vR (i:=((nf m i:Nat):Int)) (j:=((m+1:Nat):Int)-((1+i:Nat):Int)) (MulOk.right (by rfl') (by rfl'));have e:((nf m i:Nat):Int)*(((m+1:Nat):Int)-((1+i:Nat):Int))=((nf m (i+1):Nat):Int):=by rw[yB5 i m (by rfl'),CH,show((m+1:Nat):Int)-((1+i:Nat):Int)=((m-i:Nat):Int) by rfl']
 refine⟨_,_,rfl,?_,some (.int ((1+i:Nat):Int)),rfl⟩;simp![m1,e];rintro ρ ⟨a,rfl⟩;rw[Aa,Aq];simp -implicitDefEqProofs only[(evA)]
theorem xD4{m j:Nat}(hm:m<60)(hj:j<=m):Small ((nf m j:Nat):Int):=by rw[<-zG2,show(m:Int)=((m+1:Nat):Int)-1 by rfl'];exact zJ3 (by rfl') (by rfl')
theorem jH{n k m j:Nat}(hn:n<=60)(hm:m<n)(hj:j<=m):xX [lI (M12.mbl 1 (k:Int) n),.int ((m+1:Nat):Int),.int ((j+1:Nat):Int)]=.ok (.int ((nf m j*gn k (m-j):Nat):Int)):=by show(uY [some (lI (M12.mbl 1 (k:Int) n)),some (.int ((m+1:Nat):Int)),some (.int ((j+1:Nat):Int))]).bind (fin false)=_;unfold uY;have lm:=M12.xV 1 (k:Int) n;have at1:=qZ (xs:=M12.mbl 1 (k:Int) n) (i:=((m+1:Nat):Int)-((j+1:Nat):Int)) (j:=m-j) (by rfl') (by rfl');rw[M12.wM 1 (k:Int) n (m-j) (by rfl'),uA]at at1;have m1:=vR (i:=((nf m j:Nat):Int)) (j:=((gn k (m-j):Nat):Int)) (.inr ⟨xD4 (by rfl') hj,by rw[<-uA];exact zO9 (by rfl')⟩);simp![gK (show m<60 by rfl') hj,at1,m1];rw[CH]
theorem aD:∀(j m:Nat),m<=60->nf m j<=2^(6*j)
 |0,_,_=>by simp[nf]
 |j+1,m,h=>by have:=aD j (m-1) (by rfl');rw[nf,show 6*(j+1)=6*j+6 by rfl',Dq,Du];exact DL this (by rfl')
theorem wE5{m j:Nat}(hm:m<=60)(hj:j<=m):DivOk ((nf m j:Nat):Int):=by have p:=zC3 j m hj;refine⟨by rfl',?_⟩;rw[DF];refine Eg ((DG (n:=nf m j) (k:=361) (by rfl')).mpr ?_) (by decide);exact Bo (aD j m hm) (CJ (by decide) (by rfl'))
theorem zI9(l:C5)(q:Nat):(rI' l).getD q 0=((l.getD q 0:Nat):Int):=by unfold rI';rw[Ax,Ax,Al];cases l[q]?<;>rfl
theorem vZ9(l:C5)(q:Nat):(rI' l).eraseIdx q=rI' (l.eraseIdx q):=zR4 _ l q
theorem lenDiv{m:Nat}(h:0<m)(h':m<=60):DivOk (m:Int):=DivOk.small (Ed.mpr h) (by rfl')
theorem small63{q m:Nat}(h:q<m)(h':m<=60):(q:Int)<2^63:=by rfl'
theorem wY4{i j t m j':Nat}(hi:i<j)(hj:j<=t)(ht:t<60)(hl:m=t-i)(e:j-i=j'+1):0<m/\m<=60/\j'<=m-1/\i+1<=1000/\j-(i+1)=j'/\t-(i+1)=m-1:=by rfl'
theorem xU7{a j p:Nat}{t:C5}(ht:t.length<60)(hj:j<=t.length)(hp:p<nf t.length j):bL [lI (rI' (a::t)),.int ((j+1:Nat):Int),.int (p:Int)]=.ok (tI (rI' (a::pk j t p))):=by
 show(zR1 [some (lI (rI' (a::t))),some (.int ((j+1:Nat):Int)),some (.int (p:Int)),none,none,none,none]).bind (fin false)=_;unfold zR1;have at0:atI ((rI' (a::t)).map PyData.int) 0=some (.int (a:Int)):=vO _ _;have len0:((rI' (a::t)).map PyData.int).length=t.length+1:=by rw[Aa,yL];rfl
 have cut:cutD ((rI' (a::t)).map PyData.int) (some 1) none=(rI' t).map PyData.int:=by rw[wZ6,show(1:Int)=((1:Nat):Int)from rfl,yK9];rfl
 have mf:=gK (m:=t.length) (j:=j) (by rfl') hj;simp![at0,len0,cut,mf];refine wA2 (fun i ρ=>∃(ys l:C5)(r:Nat),ys.length=i+1/\l.length=t.length-i/\r<nf (t.length-i) (j-i)/\ys++pk (j-i) l r=a::pk j t p/\ρ=[some (lI (rI' (a::t))),some (.int ((j+1:Nat):Int)),some (.int (p:Int)),some (lI (rI' ys)),some (lI (rI' l)),some (.int ((nf (t.length-i) (j-i):Nat):Int)),some (.int (r:Int))]) j (by rfl') ⟨[a],t,p,rfl,rfl,hp,rfl,rfl⟩ ?_ ?_ ?_;rintro i ρ hi ⟨ys,l,r,hy,hl,hr,hu,rfl⟩;obtain⟨j',hj'⟩:∃j',j-i=j'+1:=⟨j-i-1,(Nat.sub_add_cancel (Nat.sub_pos_of_lt hi)).symm⟩;obtain⟨lp,l60,jl,i10,hj2,hl2⟩:=wY4 hi hj ht hl hj';rw[<-hl,hj']at hr;rw[hj']at hu;rw[hj',<-hl];have hq:=xI1 hr;have pp:=zC3 j' (l.length-1) jl;have ly:((rI' ys).map PyData.int).length=i+1:=by rw[Aa,yL,hy]
 have ll:((rI' l).map PyData.int).length=l.length:=by rw[Aa,yL]
 have dv:fdivO ((nf l.length (j'+1):Nat):Int) ((l.length:Nat):Int)=some ((nf (l.length-1) j':Nat):Int):=by unfold fdivO;rw[Ae (lenDiv lp l60),nf,CH,Int.mul_ediv_cancel_left _ (Int.natCast_ne_zero.mpr (Ef lp))]
 have dr:fdivO (r:Int) ((nf (l.length-1) j':Nat):Int)=some ((r/nf (l.length-1) j':Nat):Int):=by unfold fdivO;rw[Ae (wE5 (As (CA _ _) l60) jl)];rfl
 have mr:modO (r:Int) ((nf (l.length-1) j':Nat):Int)=some ((r%nf (l.length-1) j':Nat):Int):=by unfold modO;rw[Ae (Ed.mpr pp)];rfl
 have pv:popV ((rI' l).map PyData.int) (.int ((r/nf (l.length-1) j':Nat):Int))=some (.int ((l.getD (r/nf (l.length-1) j') 0:Nat):Int),(rI' (l.eraseIdx (r/nf (l.length-1) j'))).map PyData.int):=by
  unfold popV;simp only;have b1:((r/nf (l.length-1) j':Nat):Int)<((l.length:Nat):Int):=by exact_mod_cast hq
  rw[Ae ⟨Cn _,by rw[ll];exact b1,small63 hq l60⟩,AX,wZ9 (by rw[yL];exact hq),zI9,zR4,vZ9]
 have ap:appD ((rI' ys).map PyData.int) [.int ((l.getD (r/nf (l.length-1) j') 0:Nat):Int)]=some ((rI' (ys++[l.getD (r/nf (l.length-1) j') 0])).map PyData.int):=by rw[cP (by rw[ly];exact i10),xI9,AJ];rfl
 refine⟨?_,?_⟩;simp![ly,Ab (show((i+1:Nat):Int)<((j+1:Nat):Int)from Int.ofNat_lt.mpr (Nat.succ_lt_succ hi))];refine⟨_,?_,ys++[l.getD (r/nf (l.length-1) j') 0],l.eraseIdx (r/nf (l.length-1) j'),r%nf (l.length-1) j',?_,?_,?_,?_,rfl⟩;simp![wD5,ll,dv,dr,pv,ap,mr,hj2,hl2];rw[Aj,hy];rfl;rw[List.length_eraseIdx_of_lt hq];exact hl2.symm;rw[hj2,hl2];exact Bq _ pp;rw[hj2,AM];exact hu;rintro ρ ⟨ys,l,r,hy,hl,hr,hu,rfl⟩;have ly:((rI' ys).map PyData.int).length=j+1:=by rw[Aa,yL,hy]
 simp![ly,Ad (show ¬((j+1:Nat):Int)<((j+1:Nat):Int)from Int.lt_irrefl _)];rintro ρ ⟨ys,l,r,hy,hl,hr,hu,rfl⟩;rw[Nat.sub_self,pk,BP]at hu;rw[<-hu];simp -implicitDefEqProofs only[(evA)]
structure NumP(n:Nat):Prop where
 len:(nT n).length<=400
 fig:∀c∈tl (nT n),48<=c/\c<=57
 log:((n:Int)).natAbs.log2<1920
 ok:PyData.strOk (nT n)=true
theorem jO{n:Nat}(h:n<10^400):NumP n:=by
 have fig:∀c∈tl (nT n),48<=c/\c<=57:=by rw[yP2];exact yK1 n
 refine⟨?_,fig,?_,?_⟩;rw[<-yM,yP2,Aa];exact xG7 399 n h;rw[DF];by_cases z:n=0;subst z;decide;exact AA ((DG z).mpr (AA h (show(10:Nat)^400<=2^1400 by decide+kernel))) (by decide);unfold PyData.strOk;rw[<-Dv,Bt];exact fun c hc=>Ab (by have:=(fig c hc).2;rfl')
theorem wE8{v:Nat}(h:v<10^400):strOfD [.int (v:Int)]=some (.str (nT v)):=Ae (jO h).log
theorem wJ8{k n:Nat}(h:n<=60):gn k n<10^400:=Bo (As (xP3 k n) (aD n n h)) (Bo (Bw (by decide) (show 6*n<=360 by rfl')) (by decide+kernel))
def Sq(d:D)(r:C6):Prop:=d=tI r\/d=lI r
structure Sqs(ds:D0)(R:C1):Prop where
 len:ds.length=R.length
 each:∀(i:Nat)(d:D),ds[i]?=some d->∃r,R[i]?=some r/\Sq d r
theorem xC5{g:D->Ev->Option Ev}{b:B6}{c:Str}(P:Nat->Ev->Prop)(ds:D0)(ρ:Ev)(j:Nat)(dj:D)(hj:ds[j]?=some dj)(h0:P 0 ρ)(hs:∀(i:Nat)d ρ,i<j->ds[i]?=some d->P i ρ->∃ρ1 ρ2,g d ρ=some ρ1/\b ρ1=.ok (.nx ρ2)/\P (i+1) ρ2)(hr:∀ρ,P j ρ->∃ρ1,g dj ρ=some ρ1/\b ρ1=.ex c):L3.forM g b ds ρ=.ex c:=by
 induction ds generalizing P ρ j with
 |nil=>simp at hj
 |cons d ds ih=>
  cases j with
  |zero=>simp at hj;subst hj;obtain⟨ρ1,e1,e2⟩:=hr ρ h0;rw[L3.forM,e1,Res.lft_some,Res.bind_ok,e2,Res.bind_ex]
  |succ j=>obtain⟨ρ1,ρ2,e1,e2,p⟩:=hs 0 d ρ (Nat.succ_pos _) rfl h0;rw[L3.forM,e1,Res.lft_some,Res.bind_ok,e2,Res.bind_ok];exact ih (fun i=>P (i+1)) ρ2 j (by simpa using hj) p (fun i d ρ hi hd hp=>hs (i+1) d ρ (by rfl') (by simpa using hd) hp) hr
abbrev obB:B6:=sQ (sIf (b2 eqD (eB lenD (aC (eV 2) aN)) (eC (.int 0))) (sRa "BadOrder" (aC (eC (.str "a ring has one box at least")) aN)) sN) (sM 1 extD (aC (eV 2) aN))
theorem yA8{R:C1}(q:Sqs ds R)(hl:R.flatten.length<=1000){i:Nat}{d:D}{x:Option D}(hd:ds[i]?=some d)(hne:∀r,R[i]?=some r->r≠[]):obB [some (.list ds),some (lI (R.take i).flatten),some d,x,none]=.ok (.nx [some (.list ds),some (lI (R.take (i+1)).flatten),some d,x,none]):=by
 obtain⟨r,hr,sq⟩:=q.each i d hd;have ne:=hne r hr;have r0:0<r.length:=by cases r with
  |nil=>exact absurd rfl ne
  |cons _ _=>simp
 have tk:R.take (i+1)=R.take i++[r]:=by rw[Dr,hr];rfl
 have lt:(R.take i).flatten.length+r.length<=1000:=by
  have a:(R.take (i+1)).flatten.length<=R.flatten.length:=by
   conv=>rhs;rw[<-BA (i+1) R]
   rw[BH,Aj];rfl'
  rw[tk,BH,Aj,show[r].flatten=r by simp]at a;rfl'
 have lr:(r.map PyData.int).length=r.length:=by rw[Aa]
 have e2:(R.take (i+1)).flatten=(R.take i).flatten++r:=by rw[tk,BH,show[r].flatten=r by simp]
 rcases sq with rfl|rfl
 ·have ex:=zG6 (l:=(R.take i).flatten.map PyData.int) (k:=r.map PyData.int) (d:=tI r) rfl (by rw[Aa,Aa];exact lt)
  simp![lr,yR,Ad (show ¬((r.length:Nat):Int)=0 by rfl'),ex];rw[e2];simp only[lI,AJ];try rfl
 ·have ex:=zG6 (l:=(R.take i).flatten.map PyData.int) (k:=r.map PyData.int) (d:=lI r) rfl (by rw[Aa,Aa];exact lt)
  simp![lr,yR,Ad (show ¬((r.length:Nat):Int)=0 by rfl'),ex];rw[e2];simp only[lI,AJ];try rfl
theorem yE7{R:C1}(q:Sqs ds R)(hl:R.flatten.length<=1000)(h:[]∈R\/¬(1<=R.flatten.length/\R.flatten.length<=60/\R.flatten.Perm (rg R.flatten.length))):vC [.list ds]=.ex "BadOrder":=by
 show(gW [some (.list ds),none,none,none,none]).bind (fin false)=_;unfold gW;have m0:∀(i:Nat)(d:D)(ρ:Ev),(∃x,ρ=[some (.list ds),some (lI (R.take i).flatten),x,none,none])->ds[i]?=some d->(∀r,R[i]?=some r->r≠[])->∃ρ1 ρ2,gN 2 d ρ=some ρ1/\obB ρ1=.ok (.nx ρ2)/\∃x,ρ2=[some (.list ds),some (lI (R.take (i+1)).flatten),x,none,none]:=by rintro i d ρ ⟨x,rfl⟩ hd hne;exact⟨_,_,rfl,yA8 q hl hd hne,some d,rfl⟩
 by_cases he:[]∈R;obtain⟨j,hj,ej⟩:∃j:Nat,R[j]?=some []/\∀i:Nat,i<j->R[i]?≠some []:=by
  have:∀(L:C1),[]∈L->∃j:Nat,L[j]?=some []/\∀i:Nat,i<j->L[i]?≠some []:=by
   intro L;induction L with
   |nil=>exact fun h=>nomatch h
   |cons a L ih=>
    intro h;by_cases z:a=[];exact⟨0,by rw[z];rfl,fun i hi=>absurd hi (by rfl')⟩;rcases AF.mp h with w|w;exact absurd w.symm z;obtain⟨j,h1,h2⟩:=ih w;refine⟨j+1,by simpa using h1,fun i hi=>?_⟩;cases i with
    |zero=>simpa using z
    |succ i=>simpa using h2 i (by rfl')
  exact this R he
 have hjl:j<R.length:=(AD.mp hj).1;have hjd:j<ds.length:=by rw[q.len];exact hjl
 obtain⟨r,hr,sq⟩:=q.each j ds[j] (Ag hjd);rw[hj]at hr;cases hr;have fx:L3.forM (gN 2) obB ds [some (.list ds),some (lI (R.take 0).flatten),none,none,none]=.ex "BadOrder":=by
  refine xC5 (c:="BadOrder") (fun i ρ=>∃x,ρ=[some (.list ds),some (lI (R.take i).flatten),x,none,none]) ds _ j ds[j] (Ag hjd) ⟨none,rfl⟩ (fun i d ρ hi hd hp=>m0 i d ρ hp hd fun r hr z=>ej i hi (by rw[hr,z])) ?_;rintro ρ ⟨x,rfl⟩;refine⟨_,rfl,?_⟩;have sl:(1:Nat)<=sizeLine:=by decide
  rcases sq with e|e;show obB [some (.list ds),some (lI (R.take j).flatten),some ds[j],none,none]=_;rw[e];have:(([]:C6).map PyData.int).length=0:=rfl;simp![this,yR,wU,show decide (((0:Nat):Int)=0)=true by decide,sl];show obB [some (.list ds),some (lI (R.take j).flatten),some ds[j],none,none]=_;rw[e];have:(([]:C6).map PyData.int).length=0:=rfl;simp![this,yR,wU,show decide (((0:Nat):Int)=0)=true by decide,sl]
 have fx':L3.forM (gN 2) obB ds [some (.list ds),some (.list []),none,none,none]=.ex "BadOrder":=fx;simp![fx'];have hb:¬(1<=R.flatten.length/\R.flatten.length<=60/\R.flatten.Perm (rg R.flatten.length)):=h.resolve_left he;simp -implicitDefEqProofs only[(evA)];refine vL (fun i ρ=>∃x,ρ=[some (.list ds),some (lI (R.take i).flatten),x,none,none]) ⟨none,rfl⟩ (fun i d ρ hd hp=>m0 i d ρ hp hd fun r hr z=>he (by rw[<-z];exact AR hr)) ?_;rintro ρ ⟨x,rfl⟩;rw[q.len,BU];have io:=zL4 (d:=lI R.flatten) (ys:=R.flatten) (.inl rfl);rw[Ad hb]at io;have sl:(1:Nat)<=sizeLine:=by decide
 simp![io,show lfT false (PyData.bool false)=true by decide,wU,sl]
theorem pw_flat{rs:C0}(h:rs.flatten.Nodup){i j:Nat}{r r':C5}(hi:rs[i]?=some r)(hj:rs[j]?=some r')(hij:i<j):∀x∈r,x∉r':=by obtain⟨li,ei⟩:=AD.mp hi;obtain⟨lj,ej⟩:=AD.mp hj;have:=Ci.mp (List.pairwise_flatten.mp h).2 i j li lj hij;rw[ei,ej]at this;exact fun x hx hx'=>this x hx x hx' rfl
theorem yL7{r:C5}(h:r.Nodup){i j:Nat}(hi:i<r.length)(hj:j<r.length)(e:r.getD i 0=r.getD j 0):i=j:=by rw[List.getD,List.getD,Ag hi,Ag hj]at e;exact(List.getElem_inj h).mp e
theorem xL{a b:Nat}{v:Int}(h:a<ys.length):(ys.set a v).getD b 0=if a=b then v else ys.getD b 0:=by rw[Ax,List.getElem?_set];by_cases e:a=b;subst e;rw[Ae rfl,Ae rfl,Ae h];rfl;rw[An e,An e,Ax]
def kx(l p:Nat):Nat:=if p=0 then l-1 else p-1
theorem yP3{l p:Nat}(h:p<l):kx l p<l:=by unfold kx;split<;>rfl'
theorem wA3{l p q:Nat}(h:p<l)(h':q<l)(e:kx l p=kx l q):p=q:=by unfold kx at e;split at e<;>split at e<;>rfl'
abbrev obI:B6:=sI 3 (e2 ixD (eV 2) (e2 subI (eV 4) (eC (.int 1)))) (e2 ixD (eV 2) (eV 4))
theorem wN8{n:Nat}{d0 d1 d:D}{rs:C0}{r:C5}{i:Nat}{y:Option D}(nd:rs.flatten.Nodup)(rn:∀r∈rs,∀x∈r,x<n)(h1000:r.length<=1000)(hr:rs[i]?=some r)(sq:Sq d (rI' r))(hl:ys.length=n)(hy:∀i',i'<i->∀r,rs[i']?=some r->∀q,q<r.length->ys.getD (r.getD (kx r.length q) 0) 0=((r.getD q 0:Nat):Int)):∃(zs:C6)(y2:Option D),zs.length=n/\(∀i',i'<i+1->∀r,rs[i']?=some r->∀q,q<r.length->zs.getD (r.getD (kx r.length q) 0) 0=((r.getD q 0:Nat):Int))/\sF (iR rng1 (aC (eB lenD (aC (eV 2) aN)) aN)) (gN 4) obI [some d0,some d1,some d,some (lI ys),y]=.ok (.nx [some d0,some d1,some d,some (lI zs),y2]):=by
 have mr:r∈rs:=AR hr;have nr:r.Nodup:=nd.sublist (Cf mr);have lr:((rI' r).map PyData.int).length=r.length:=by rw[Aa,yL]
 have at':∀q,q<r.length->atI ((rI' r).map PyData.int) (q:Int)=some (.int ((r.getD q 0:Nat):Int)):=fun q hq=>by rw[qZ rfl (by rw[yL];exact hq),zI9]
 have at1:∀q,q<r.length->atI ((rI' r).map PyData.int) ((q:Int)-1)=some (.int ((r.getD (kx r.length q) 0:Nat):Int)):=fun q hq=>by unfold kx;by_cases z:q=0;subst z;rw[Ae rfl,show(((0:Nat):Int)-1)=-1 by rfl',yE3 (n:=r.length-1) (by rw[yL];rfl'),zI9];rw[An z,show((q:Int)-1)=((q-1:Nat):Int) by rfl',qZ rfl (by rw[yL];rfl'),zI9]
 obtain⟨ρ2,e2,zs,y2,hl2,hz,hz2,rfl⟩:=uM (g:=gN 4) (b:=obI) (fun q ρ=>∃(zs:C6)(y:Option D),zs.length=n/\(∀i',i'<i->∀r,rs[i']?=some r->∀q,q<r.length->zs.getD (r.getD (kx r.length q) 0) 0=((r.getD q 0:Nat):Int))/\(∀q',q'<q->q'<r.length->zs.getD (r.getD (kx r.length q') 0) 0=((r.getD q' 0:Nat):Int))/\ρ=[some d0,some d1,some d,some (lI zs),y]) ((List.range r.length).map fun(i:Nat)=>PyData.int (i:Int)) [some d0,some d1,some d,some (lI ys),y] ⟨ys,y,hl,hy,fun q' h=>absurd h (by rfl'),rfl⟩ (by
   rintro q e ρ hd ⟨zs,y,hl,hz,hz2,rfl⟩;obtain⟨hq,rfl⟩:=zZ7 hd;have kq:=yP3 hq;have mk:=uE kq;have sd:=wQ8 (xs:=zs) (a:=r.getD (kx r.length q) 0) (by rw[hl];exact rn r mr _ mk) ((r.getD q 0:Nat):Int);refine⟨_,_,rfl,?_,zs.set (r.getD (kx r.length q) 0) ((r.getD q 0:Nat):Int),some (.int (q:Int)),by rw[CG,hl],?_,?_,rfl⟩;rcases sq with rfl|rfl;simp![at' q hq,at1 q hq,sd];simp![at' q hq,at1 q hq,sd];intro i' hi' r' hr' q' hq';have ne:¬r.getD (kx r.length q) 0=r'.getD (kx r'.length q') 0:=fun z=>pw_flat nd hr' hr hi' _ (uE (yP3 hq')) (by rw[<-z];exact mk)
   rw[xL (by rw[hl];exact rn r mr _ mk),An ne];exact hz i' hi' r' hr' q' hq';intro q' h1 h2;rw[xL (by rw[hl];exact rn r mr _ mk)];by_cases z:q'=q;subst z;rw[Ae rfl];have ne:¬r.getD (kx r.length q) 0=r.getD (kx r.length q') 0:=fun w=>z (wA3 hq h2 (yL7 nr kq (yP3 h2) w)).symm;rw[An ne];exact hz2 q' (by rfl') h2)
 rw[Aa,Aq]at hz2;refine⟨zs,y2,hl2,fun i' hi' r' hr' q' hq'=>?_,?_⟩;by_cases z:i'=i;subst z;rw[hr]at hr';cases hr';exact hz2 q' hq' hq';exact hz i' (by rfl') r' hr' q' hq';rcases sq with rfl|rfl;simp![lr,gH h1000];exact e2;simp![lr,gH h1000];exact e2
theorem yY4(L:C0)(h:∀r∈L,0<r.length):L.length<=L.flatten.length:=by
 induction L with
 |nil=>exact Ac _
 |cons r L ih=>have a:=h r (Af ..);have b:=ih fun r hr=>h r (Ak _ hr);rw[Aw,Bm,Aj];rfl'
theorem zT2{n:Nat}{rs:C0}(q:Sqs ds (rs.map rI'))(p:rs.flatten.Perm (List.range n))(h1:1<=n)(h2:n<=60)(pos:∀r∈rs,0<r.length):∃ys:C6,ys.length=n/\(∀r∈rs,∀q,q<r.length->ys.getD (r.getD (kx r.length q) 0) 0=((r.getD q 0:Nat):Int))/\vC [.list ds]=.ok (tI ys):=by
 have nd:rs.flatten.Nodup:=p.nodup_iff.mpr Cd;have lf:rs.flatten.length=n:=by rw[p.length_eq,Aq]
 have rl:∀r∈rs,r.length<=n:=fun r hr=>by have:=(Cf hr).length_le;rfl'
 have rn:∀r∈rs,∀x∈r,x<n:=fun r hr x hx=>AH.mp (p.mem_iff.mp (Bu.mpr ⟨r,hr,hx⟩));have ef:(rs.map rI').flatten=rI' rs.flatten:=by unfold rI';rw[List.map_flatten]
 have lfl:(rs.map rI').flatten.length=n:=by rw[ef,yL,lf]
 have x0:Option D:=none;obtain⟨ρ1,e1,x,rfl⟩:=uM (g:=gN 2) (b:=obB) (fun i ρ=>∃x,ρ=[some (.list ds),some (lI ((rs.map rI').take i).flatten),x,none,none]) ds [some (.list ds),some (.list []),none,none,none] ⟨none,rfl⟩ (by rintro i d ρ hd ⟨x,rfl⟩;refine⟨_,_,rfl,yA8 q (by rfl') hd (fun r hr z=>?_),some d,rfl⟩;rw[Al]at hr;obtain⟨r',hr',rfl⟩:=Az.mp hr;have:=pos r' (AR hr');have z':=By List.length z;rw[yL]at z';simp at z';rw[z']at this;simp at this);rw[q.len,BU,ef]at e1;obtain⟨ρ2,e2,ys,x2,y2,hl,hy,rfl⟩:=uM (g:=gN 2) (b:=sF (iR rng1 (aC (eB lenD (aC (eV 2) aN)) aN)) (gN 4) obI) (fun i ρ=>∃(ys:C6)(x y:Option D),ys.length=n/\(∀i',i'<i->∀r,rs[i']?=some r->∀q,q<r.length->ys.getD (r.getD (kx r.length q) 0) 0=((r.getD q 0:Nat):Int))/\ρ=[some (.list ds),some (lI (rI' rs.flatten)),x,some (lI ys),y]) ds [some (.list ds),some (lI (rI' rs.flatten)),x,some (lI (List.replicate n 0)),none] ⟨List.replicate n 0,_,_,Bz,fun i' h=>absurd h (by rfl'),rfl⟩ (by rintro i d ρ hd ⟨ys,x,y,hl,hy,rfl⟩;obtain⟨r',hr',sq⟩:=q.each i d hd;rw[Al]at hr';obtain⟨r,hr,rfl⟩:=Az.mp hr';obtain⟨zs,y2,hl2,hz,e⟩:=wN8 (d0:=.list ds) (d1:=lI (rI' rs.flatten)) (y:=y) nd rn (by have:=rl r (AR hr);rfl') hr sq hl hy;exact⟨_,_,rfl,e,zs,some d,y2,hl2,hz,rfl⟩);refine⟨ys,hl,fun r hr q' hq=>?_,?_⟩;obtain⟨i,hi,er⟩:=CK.mp hr;exact hy i (by rw[q.len,Aa];exact hi) r (by rw[Ag hi,er]) q' hq;show(gW [some (.list ds),none,none,none,none]).bind (fin false)=_;unfold gW;have io:=zL4 (d:=lI (rI' rs.flatten)) (ys:=rI' rs.flatten) (.inl rfl);have pr:(rI' rs.flatten).Perm (rg n):=p.map _;rw[Ab ⟨by rw[yL,lf];exact h1,by rw[yL,lf];exact h2,by rw[yL,lf];exact pr⟩]at io;have lb:((rI' rs.flatten).map PyData.int).length=n:=by rw[Aa,yL,lf]
 have rp:repL (.list [.int 0]) (.int ((n:Nat):Int))=some (lI (List.replicate n 0)):=by rw[cJ _ _ (by rfl'),lI,Ep]
 simp![e1,io,show lfT false (PyData.bool true)=true by decide,lb,rp];rw[e2];simp -implicitDefEqProofs only[(evA)]
theorem wR5{l j:Nat}(h:j<l):kx l ((j+1)%l)=j:=by unfold kx;by_cases e:j+1=l;rw[e,Nat.mod_self,Ae rfl];rfl';rw[CW (by rfl'),An (by rfl')];rfl'
theorem xO4(rs:C0)(k:List Nat->D)(hk:∀r,Sq (k r) (rI' r)):Sqs (rs.map k) (rs.map rI'):=by refine⟨by rw[Aa,Aa],fun i d h=>?_⟩;rw[Al]at h;obtain⟨r,hr,rfl⟩:=Az.mp h;exact⟨rI' r,by rw[Al,hr];rfl,hk r⟩
theorem yD2{n:Nat}{rs:C0}(c:Can rs)(p:rs.flatten.Perm (List.range n))(h1:1<=n)(h2:n<=60):∃xs,Ord n xs/\rgs n xs n=rs/\vC [rows (rs.map rI')]=.ok (tI xs):=by
 have pos:∀r∈rs,0<r.length:=fun r hr=>by obtain⟨a,ys,rfl,_⟩:=c.1 r hr;simp
 obtain⟨ys,hl,hy,e⟩:=zT2 (xO4 rs (fun r=>tI (rI' r)) fun r=>.inl rfl) p h1 h2 pos;obtain⟨o,er⟩:=wR6 (xs:=ys) c p hl fun r hr j hj=>by have:=hy r hr ((j+1)%r.length) (Bq _ (by rfl'));rw[wR5 hj]at this;exact this
 refine⟨ys,o,er,?_⟩;rw[<-e,rows,Ar];rfl
theorem wB7{k m:Nat}(hm:m<=60)(h:0<gn k m):DivOk ((gn k m:Nat):Int):=by refine⟨by rfl',?_⟩;rw[DF];refine Eg ((DG (n:=gn k m) (k:=361) (by rfl')).mpr ?_) (by decide);exact Bo (As (xP3 k m) (aD m m hm)) (CJ (by decide) (by rfl'))
theorem wH1(r:C5)(b:Nat):(rI' r).contains (b:Int)=r.contains b:=by
 unfold rI';induction r with
 |nil=>rfl
 |cons a r ih=>rw[AB,BZ,BZ,ih];congr 1;rw[Cq];simp;rfl'
def gaT:B7:=b2 geI (eV 6) (eF xX (aC (eV 3) (aC (eB lenD (aC (eV 5) aN)) (aC (eV 7) aN))))
def gaI:B6:=sQ (sS 6 (e2 subI (eV 6) (eF xX (aC (eV 3) (aC (eB lenD (aC (eV 5) aN)) (aC (eV 7) aN)))))) (sS 7 (e2 addI (eV 7) (eC (.int 1))))
def gaB:B6:=(sQ (sS 7 (eC (.int 1))) (sQ (sW 1000000 gaT gaI) (sQ (sS 8 (e2 ixD (eV 3) (e2 subI (eB lenD (aC (eV 5) aN)) (eV 7)))) (sQ (sS 9 (eF bL (aC (eV 5) (aC (eV 7) (aC (e2 fdivI (eV 6) (eV 8)) aN))))) (sQ (sM 4 appD (aC (eV 9) aN)) (sQ (sS 5 (eCompX (iS (eV 5)) (b2 (inD true) (eV 0) (eV 1)) (eV 0) [9])) (sS 6 (e2 modI (eV 6) (eV 8)))))))))
theorem xC7{n k N m j:Nat}{t:C5}{a:Nat}{u0 u1 u2 u4 u8 u9:Option D}(hn:n<=60)(ht:t.length<n)(hj:j<=t.length)(h1:smN (gn k) (t.length+1) j<=N)(h2:N-smN (gn k) (t.length+1) j<nf t.length j*gn k (t.length-j)):whM gaT gaI 1000000 [u0,u1,u2,some (lI (M12.mbl 1 (k:Int) n)),u4,some (lI (rI' (a::t))),some (.int (N:Int)),some (.int 1),u8,u9]=.ok (.nx [u0,u1,u2,some (lI (M12.mbl 1 (k:Int) n)),u4,some (lI (rI' (a::t))),some (.int ((N-smN (gn k) (t.length+1) j:Nat):Int)),some (.int ((j+1:Nat):Int)),u8,u9]):=by
 have len0:((rI' (a::t)).map PyData.int).length=t.length+1:=by rw[Aa,yL];rfl
 obtain⟨ρ',e,rfl⟩:=yN4 (t:=gaT) (b:=gaI) (fun i ρ=>ρ=[u0,u1,u2,some (lI (M12.mbl 1 (k:Int) n)),u4,some (lI (rI' (a::t))),some (.int ((N-smN (gn k) (t.length+1) i:Nat):Int)),some (.int ((i+1:Nat):Int)),u8,u9]) j 1000000 [u0,u1,u2,some (lI (M12.mbl 1 (k:Int) n)),u4,some (lI (rI' (a::t))),some (.int (N:Int)),some (.int 1),u8,u9] rfl (by
   rintro i ρ hi rfl;have mw:=jH (k:=k) (j:=i) hn ht (by rfl');have mo:=yL8 (gn k) (t.length+1) (i:=i+1) (j:=j) (by rfl');have e1:smN (gn k) (t.length+1) (i+1)=smN (gn k) (t.length+1) i+nf t.length i*gn k (t.length-i):=(by rw[smN,Ca,Ck]);unfold gaT gaI;refine⟨?_,_,?_,rfl⟩;simp![len0,mw,Ab (show((nf t.length i*gn k (t.length-i):Nat):Int)<=((N-smN (gn k) (t.length+1) i:Nat):Int) by rfl')];simp![len0,mw];rw[show((N-smN (gn k) (t.length+1) i:Nat):Int)-((nf t.length i*gn k (t.length-i):Nat):Int)=((N-smN (gn k) (t.length+1) (i+1):Nat):Int) by rfl'];rfl) (by
   rintro ρ rfl;have mw:=jH (k:=k) (j:=j) hn ht (by rfl');unfold gaT;simp![len0,mw,Ad (show ¬((nf t.length j*gn k (t.length-j):Nat):Int)<=((N-smN (gn k) (t.length+1) j:Nat):Int) by rfl')]) (by rfl')
 exact e
theorem castS{a b:Nat}(h:b<=a):((a+1:Nat):Int)-((b+1:Nat):Int)=((a-b:Nat):Int):=by rfl'
theorem xW3{n k:Nat}{u0 u1 u2:Option D}(hn:n<=60):∀(m:Nat)(l:C5)(N:Nat)(done:C0)(fuel:Nat)(u7 u8 u9:Option D),l.length<=m->l.length<fuel->l.Nodup->l.length<=n->N<gn k l.length->done.length+l.length<=n ->∃rs v6 v7 v8 v9,Told k l N rs/\whM (b2 gtI (eB lenD (aC (eV 5) aN)) (eC (.int 0))) gaB fuel [u0,u1,u2,some (lI (M12.mbl 1 (k:Int) n)),some (rows (done.map rI')),some (lI (rI' l)),some (.int (N:Int)),u7,u8,u9]=.ok (.nx [u0,u1,u2,some (lI (M12.mbl 1 (k:Int) n)),some (rows ((done++rs).map rI')),some (lI []),v6,v7,v8,v9])
 |m,[],N,done,0,u7,u8,u9,_,h,_,_,_,_=>absurd h (by simp)
 |m,[],N,done,fuel+1,u7,u8,u9,_,_,_,_,hN,_=>by
  rw[List.length_nil,xX3]at hN;have:N=0:=by rfl'
  subst this;refine⟨[],some (.int 0),u7,u8,u9,.nil,?_⟩;rw[whM];have t1:b2 gtI (eB lenD (aC (eV 5) aN)) (eC (.int 0)) [u0,u1,u2,some (lI (M12.mbl 1 (k:Int) n)),some (rows (done.map rI')),some (lI (rI' [])),some (.int ((0:Nat):Int)),u7,u8,u9]=.ok false:=by have l0:((rI' []).map PyData.int).length=0:=rfl;simp![l0,Ad (show ¬(0:Int)<((0:Nat):Int) by rfl')]
  rw[t1,Res.bind_ok,BP];rfl
 |0,a::t,N,done,fuel,u7,u8,u9,h,_,_,_,_,_=>absurd h (by simp)
 |m+1,a::t,N,done,0,u7,u8,u9,_,h,_,_,_,_=>absurd h (by simp)
 |m+1,a::t,N,done,fuel+1,u7,u8,u9,hm,hf,nd,hl,hN,hd=>by
  rw[Aw]at hm hf hl hN hd;obtain⟨j,j1,j2,j3,j4⟩:=xK3 (a:=a) hN;have len0:((rI' (a::t)).map PyData.int).length=t.length+1:=by rw[Aa,yL];rfl
  have ei:=xC7 (m:=m) (a:=a) (u0:=u0) (u1:=u1) (u2:=u2) (u4:=some (rows (done.map rI'))) (u8:=u8) (u9:=u9) hn hl j1 j3 j4;generalize hR:N-smN (gn k) (t.length+1) j=R at ei j4;have gp:0<gn k (t.length-j):=by rcases Dd (gn k (t.length-j))with z|z;rw[z]at j4;rfl';exact z
  have pl:R/gn k (t.length-j)<nf t.length j:=Nat.div_lt_of_lt_mul (by rw[Du];exact j4);have tl:=(BD.mp nd).2;obtain⟨p1,p2,p3⟩:=wV9 j t _ tl j1 pl;have pkl:=yP5 j t (R/gn k (t.length-j));have ra:=xU7 (a:=a) (t:=t) (AA hl hn) j1 pl;generalize hp:pk j t (R/gn k (t.length-j))=ps at p1 p2 p3 pkl ra;obtain⟨n1,n2⟩:=zI7 nd p1 p2;have wl:(wo (a::t) (a::ps)).length=t.length-j:=by rw[wC3 nd n1 n2,Aw,Aw,pkl];rfl'
  have lm:=M12.xV 1 (k:Int) n;have at1:=qZ (xs:=M12.mbl 1 (k:Int) n) (i:=((t.length+1:Nat):Int)-((j+1:Nat):Int)) (j:=t.length-j) (castS j1) (by rw[lm];exact Dm (As (CA _ _) (BL hl)));rw[M12.wM 1 (k:Int) n (t.length-j) (As (CA _ _) (BL hl)),uA]at at1;have dr:fdivO (R:Int) ((gn k (t.length-j):Nat):Int)=some ((R/gn k (t.length-j):Nat):Int):=by unfold fdivO;rw[Ae (wB7 (As (CA _ _) (As (BL hl) hn)) gp)];rfl
  have mr:modO (R:Int) ((gn k (t.length-j):Nat):Int)=some ((R%gn k (t.length-j):Nat):Int):=by unfold modO;rw[Ae (Ed.mpr gp)];rfl
  have ap:appD ((done.map rI').map tI) [tI (rI' (a::ps))]=some (((done++[a::ps]).map rI').map tI):=by rw[cP (by rw[Aa,Aa];rfl'),AJ,AJ];rfl
  have cc:∀(x4 x6:Option D),eCompX (iS (eV 5)) (b2 (inD true) (eV 0) (eV 1)) (eV 0) [9] [u0,u1,u2,some (lI (M12.mbl 1 (k:Int) n)),x4,some (lI (rI' (a::t))),x6,some (.int ((j+1:Nat):Int)),some (.int ((gn k (t.length-j):Nat):Int)),some (tI (rI' (a::ps)))]=.ok (lI (rI' (wo (a::t) (a::ps)))):=fun x4 x6=>by
   rw[zT5 (fun b:Nat=>PyData.int (b:Int)) (fun b=>!(a::ps).contains b) (fun b:Nat=>PyData.int (b:Int)) (a::t) (by
    simp -implicitDefEqProofs only[(evA)];unfold rI';rw[Ar];rfl) (As (Nat.succ_le_of_lt (AA hl hn)) (by decide)) (fun b hb=>by
    show b2 (inD true) (eV 0) (eV 1) [some (.int (b:Int)),some (tI (rI' (a::ps)))]=_;simp![vY7,wH1]) (fun b hb _=>rfl)]
   unfold wo rI' lI;rw[Ar];rfl
  have body:gaB [u0,u1,u2,some (lI (M12.mbl 1 (k:Int) n)),some (rows (done.map rI')),some (lI (rI' (a::t))),some (.int (N:Int)),u7,u8,u9]=.ok (.nx [u0,u1,u2,some (lI (M12.mbl 1 (k:Int) n)),some (rows ((done++[a::ps]).map rI')),some (lI (rI' (wo (a::t) (a::ps)))),some (.int ((R%gn k (t.length-j):Nat):Int)),some (.int ((j+1:Nat):Int)),some (.int ((gn k (t.length-j):Nat):Int)),some (tI (rI' (a::ps)))]):=by unfold gaB;simp![ei,len0,at1,dr,ra,ap,cc,mr]
  obtain⟨rs,v6,v7,v8,v9,T,e⟩:=xW3 hn m (wo (a::t) (a::ps)) (R%gn k (t.length-j)) (done++[a::ps]) fuel (some (.int ((j+1:Nat):Int))) (some (.int ((gn k (t.length-j):Nat):Int))) (some (tI (rI' (a::ps)))) (by rfl') (by rfl') (nd.sublist (zH1 _ _)) (by rfl') (by rw[wl];exact Bq _ gp) (by rw[Aj,wl];simp;rfl');have T':=Told.cons (k:=k) (a:=a) (t:=t) (xs:=ps) (by rw[pkl];exact j2) p1 p2 T;have dm:=Nat.div_add_mod R (gn k (t.length-j));rw[pkl,p3,show smN (gn k) (t.length+1) j+R/gn k (t.length-j)*gn k (t.length-j)+R%gn k (t.length-j)=N by rw[Du (R/_)];rfl']at T';refine⟨(a::ps)::rs,v6,v7,v8,v9,T',?_⟩;have t1:b2 gtI (eB lenD (aC (eV 5) aN)) (eC (.int 0)) [u0,u1,u2,some (lI (M12.mbl 1 (k:Int) n)),some (rows (done.map rI')),some (lI (rI' (a::t))),some (.int (N:Int)),u7,u8,u9]=.ok true:=by simp![len0,Ab (show(0:Int)<((t.length+1:Nat):Int)from Ed.mpr (Nat.succ_pos _))]
  rw[whM,t1,Res.bind_ok,Ae rfl,body,Res.bind_ok];simp only;rw[e,AM];rfl
theorem xP6{n k N:Nat}(h1:1<=n)(h2:n<=60)(hN:N<gn k n):∃xs,Ord n xs/\Told k (List.range n) N (rgs n xs n)/\kE [.int (n:Int),.int (k:Int),.int (N:Int)]=.ok (tI xs):=by obtain⟨rs,v6,v7,v8,v9,T,e⟩:=xW3 (n:=n) (k:=k) (u0:=some (.int (n:Int))) (u1:=some (.int (k:Int))) (u2:=some (.int (N:Int))) h2 n (List.range n) N [] 1000000 none none none (by simp) (by simp;rfl') Cd (by simp) (by simpa using hN) (by simp);have pw:(List.range n).Pairwise (· < ·):=Df;obtain⟨xs,o,er,eo⟩:=yD2 (xC3 T pw).1 (yW6 T Cd) h1 h2;refine⟨xs,o,by rw[er];exact T,?_⟩;show(qG [some (.int (n:Int)),some (.int (k:Int)),some (.int (N:Int)),none,none,none,none,none,none,none]).bind (fin false)=_;unfold qG;have rl:rangeL [.int (n:Int)]=some (lI (rI' (List.range n))):=zH2 (by rfl');have lm:=M12.xV 1 (k:Int) n;have at1:=qZ (xs:=M12.mbl 1 (k:Int) n) (i:=(n:Int)) (j:=n) rfl (by rfl');rw[M12.wM 1 (k:Int) n n (Ac _),uA]at at1;simp![yR,Ad (show ¬(n:Int)=0 by rfl'),wG h2 (show 0<=(k:Int) by rfl'),wK 1 h2 (show 0<=(k:Int) by rfl'),at1,Ab (show(0:Int)<=(N:Int) by rfl'),Ab (show(N:Int)<((gn k n:Nat):Int) by rfl'),rl];have e':whM (b2 gtI (eB lenD (aC (eV 5) aN)) (eC (.int 0))) gaB 1000000 [some (.int (n:Int)),some (.int (k:Int)),some (.int (N:Int)),some (lI (M12.mbl 1 (k:Int) n)),some (.list []),some (lI (rI' (List.range n))),some (.int (N:Int)),none,none,none]=_:=e;unfold gaB gaT gaI at e';rw[e'];simp![Dh,eo,wK5]
def numT(b:Nat):Str:=toString (b:Int)
def rT(r:C5):Str:=Str.join " " (r.map numT)
def wT(r:C5):Str:="("++rT r++")"
def ordT(n:Nat)(xs:C6):Str:=Str.join "" ((rgs n xs n).map wT)
theorem uK:∀b,b<61->((numT b).length<=2/\Txt.isdigit (numT b)=true/\(Txt.startswith (numT b) "0"=false\/numT b="0")/\PySem.intText? (numT b)=some (b:Int))/\41∉tl (numT b)/\32∉tl (numT b)/\((b:Int).natAbs.log2<1920)/\PyData.strOk (numT b)=true:=by decide+kernel
theorem zN2{sep:Str}(hs:sep.length<=2)(hl:ts.length<=60)(ht:∀t∈ts,t.length<=200):JoinOk sep ts=true/\(Str.join sep ts).length<=202*ts.length:=by have h1:=Bl 200 hl;have h2:=Dy ts.length hs;refine⟨?_,?_⟩;unfold JoinOk;rw[DY ht (by rfl')];rfl;have a:=Dg sep ts;have b:=DN ts ht;rfl'
theorem uB{sep:Str}(h:JoinOk sep ts=true):joinD sep (.list (ts.map PyData.str))=some (.str (Str.join sep ts)):=by unfold joinD;rw[show lstD (.list (ts.map PyData.str))=some (ts.map PyData.str)from rfl,AQ,zG7,AQ,Ae h]
theorem dG{z:Str}(h:PyData.strOk z=true):SeqAt.shaped (.str z)=true:=by unfold SeqAt.shaped;rw[PyData.canLay0,PyData.depth,h];rfl
theorem dD{a b:Str}(ha:PyData.strOk a=true)(hb:PyData.strOk b=true):neD (.str a) (.str b)=some (!decide (a=b)):=by unfold neD;rw[Ae ⟨dG ha,dG hb⟩,PyData.eqv];by_cases e:a=b<;>simp[e]
theorem cU{a b:Str}(ha:PyData.strOk a=true)(hb:PyData.strOk b=true):eqD (.str a) (.str b)=some (decide (a=b)):=by unfold eqD;rw[Ae ⟨dG ha,dG hb⟩,PyData.eqv];by_cases e:a=b<;>simp[e]
theorem xW1{z:Str}:PyData.strOk z=true↔∀c∈tl z,c<1114112:=by unfold PyData.strOk tl;rw[<-Dv,Bt];exact⟨fun h c hc=>of_decide_eq_true (h c hc),fun h c hc=>Ab (h c hc)⟩
theorem jR{a b:Str}(ha:PyData.strOk a=true)(hb:PyData.strOk b=true):PyData.strOk (a++b)=true:=by rw[xW1]at ha hb ⊢;intro c hc;rw[zE]at hc;rcases AE.mp hc with h|h;exact ha c h;exact hb c h
theorem cI{y:Str}(hy:PyData.strOk y=true):∀ts:C4,(∀t∈ts,PyData.strOk t=true)->PyData.strOk (Str.join y ts)=true
 |[],_=>(by decide+kernel:PyData.strOk Str.empty=true)
 |[t],h=>h t Af
 |t::u::r,h=>by rw[vT];exact jR (jR (h t Af) hy) (cI hy (u::r) fun x hx=>h x (Ak _ hx))
theorem xC:100000<=sizeLine:=by decide
theorem zS4{r:C5}(hr:∀x∈r,x<61)(hl:r.length<=60):(rT r).length<=180:=by
 have a:=Dg " " (r.map numT);have b:=DN (B:=2) (r.map numT) fun y hy=>by obtain⟨x,hx,rfl⟩:=Ay.mp hy;exact(uK x (hr x hx)).1.1
 rw[Aa]at a b;have c:(" ":Str).length=1:=rfl;unfold rT;rw[c]at a;rfl'
theorem zJ7{r:C5}{d:D}(hd:d=tI (rI' r)\/d=lI (rI' r))(hr:∀x∈r,x<61)(hl:r.length<=60):eCompX (iS (eV 0)) tYes (eB strOfD (aC (eV 0) aN)) [] [some d]=.ok (.list ((r.map numT).map PyData.str)):=by rw[Ar];refine xT (fun b:Nat=>PyData.int (b:Int)) (fun b=>PyData.str (numT b)) r (by rcases hd with rfl|rfl;simp -implicitDefEqProofs only[(evA)];unfold rI';rw[Ar];rfl;simp -implicitDefEqProofs only[(evA)];unfold rI';rw[Ar];rfl) (by rfl') fun b hb=>?_;have h:=uK b (hr b hb);show eB strOfD (aC (eV 0) aN) [some (.int (b:Int))]=_;have e:strOfD [.int (b:Int)]=some (.str (numT b)):=Ae h.2.2.2.1;simp![e]
theorem yM9{r:C5}(hr:∀x∈r,x<61)(hl:r.length<=60):joinD " " (.list ((r.map numT).map PyData.str))=some (.str (rT r)):=by refine uB (zN2 (by decide) (by rw[Aa];exact hl) fun t ht=>?_).1;obtain⟨x,hx,rfl⟩:=Ay.mp ht;have:=(uK x (hr x hx)).1.1;rfl'
theorem gO{r:C5}{d:D}(hd:d=tI (rI' r)\/d=lI (rI' r))(hr:∀x∈r,x<61)(hl:r.length<=60):uP [d]=.ok (.str (rT r)):=by show(gE [some d]).bind (fin false)=_;unfold gE;simp![yQ,yV,zJ7 hd hr hl,yM9 hr hl]
theorem yJ7{r:C5}(hr:∀x∈r,x<61)(hl:r.length<=60):kW [tI (rI' r)]=.ok (.str (wT r)):=by
 have l:=zS4 hr hl;have c:("(":Str).length+(rT r).length+(")":Str).length<=sizeLine:=by have c1:("(":Str).length=1:=rfl;have c2:(")":Str).length=1:=rfl;have:=xC;rfl'
 have e:filD "(" ")" (.str (rT r))=some (.str (wT r)):=by unfold filD;rw[yV,AQ,Ae c];rfl
 show(aS [some (tI (rI' r)),none]).bind (fin false)=_;unfold aS;simp![gO (.inl rfl) hr hl,e]
structure Rs(rs:C0):Prop where
 few:rs.length<=60
 ne:rs≠[]
 ring:∀r∈rs,(∀x∈r,x<61)/\r.length<=60/\r≠[]
theorem aZ{n:Nat}{xs:C6}(o:Ord n xs)(h1:1<=n)(h2:n<=60):Rs (rgs n xs n):=by
 have p:=flatP o;have c:=wK3 o;have ne:∀r∈rgs n xs n,r≠[]:=fun r hr=>by obtain⟨a,ys,rfl,_⟩:=c.1 r hr;exact fun z=>nomatch z
 have lf:(rgs n xs n).flatten.length=n:=by rw[p.length_eq,Aq]
 have few:∀L:C0,(∀r∈L,r≠[])->L.length<=L.flatten.length:=fun L=>by
  induction L with
  |nil=>exact fun _=>Ac _
  |cons r L ih=>intro h;have a:=BJ.mpr (h r Af);have b:=ih fun r hr=>h r (Ak _ hr);rw[Aw,Bm,Aj];rfl'
 have f:=few _ ne;refine⟨by rfl',fun z=>?_,fun r hr=>⟨fun x hx=>?_,?_,ne r hr⟩⟩;rw[z]at lf;have:0=n:=lf;rfl';have:=AH.mp (p.mem_iff.mp (Bu.mpr ⟨r,hr,hx⟩));rfl';have:=(Cf hr).length_le;rfl'
theorem wD9{r:C5}(hr:∀x∈r,x<61)(hl:r.length<=60):(wT r).length<=182:=by have l:=zS4 hr hl;have c1:("(":Str).length=1:=rfl;have c2:(")":Str).length=1:=rfl;unfold wT;rw[Ap,Ap,c1,c2];rfl'
theorem yI6{rs:C0}(q:Rs rs):joinD "" (.list ((rs.map wT).map PyData.str))=some (.str (Str.join "" (rs.map wT)))/\(Str.join "" (rs.map wT)).length<=12120:=by
 have h:=zN2 (sep:="") (ts:=rs.map wT) (by decide) (by rw[Aa];exact q.few) fun t ht=>by obtain⟨r,hr,rfl⟩:=Ay.mp ht;have:=wD9 (q.ring r hr).1 (q.ring r hr).2.1;rfl'
 refine⟨uB h.1,?_⟩;have a:=h.2;have b:=q.few;rw[Aa]at a;rfl'
theorem yA3{n:Nat}{xs:C6}(q:Rs (rgs n xs n)):PyData.strOk (ordT n xs)=true:=by refine cI (by decide+kernel) _ fun t ht=>?_;obtain⟨r,hr,rfl⟩:=Ay.mp ht;refine jR (jR (by decide+kernel) (cI (by decide+kernel) _ fun t ht=>?_)) (by decide+kernel);obtain⟨x,hx,rfl⟩:=Ay.mp ht;exact(uK x ((q.ring r hr).1 x hx)).2.2.2.2
theorem dO{n:Nat}{xs:C6}(o:Ord n xs)(h1:1<=n)(h2:n<=60):gZ [tI xs]=.ok (.str (ordT n xs)):=by
 have q:=aZ o h1 h2;have cc:eCompX (iS (eF wP (aC (eV 0) aN))) tYes (eF kW (aC (eV 0) aN)) [] [some (tI xs)]=.ok (.list (((rgs n xs n).map wT).map PyData.str)):=by rw[Ar];refine xT (fun r:C5=>tI (rI' r)) (fun r=>PyData.str (wT r)) (rgs n xs n) (by simp![kK o (show n<=1000 by rfl')];unfold ringsD;rw[Ar];rfl) (by have:=q.few;rfl') fun r hr=>?_;show eF kW (aC (eV 0) aN) [some (tI (rI' r))]=_;simp![yJ7 (q.ring r hr).1 (q.ring r hr).2.1]
 show(bT [some (tI xs)]).bind (fin false)=_;unfold bT;simp![yQ,yV,cc,(yI6 q).1];rfl
theorem wI5{r:C5}(hr:∀x∈r,x<61):41∉tl (rT r):=by
 have:∀l:C5,(∀x∈l,x<61)->41∉tl (Str.join " " (l.map numT)):=fun l=>by
  induction l with
  |nil=>exact fun _ z=>by cases z
  |cons a l ih=>
   intro h;have ha:=(uK a (h a Af)).2.1;cases l with
   |nil=>exact ha
   |cons b l=>rw[AB,AB,vT,zE,zE];intro z;rcases AE.mp z with z|z;rcases AE.mp z with z|z;exact ha z;exact absurd z (by decide);exact ih (fun x hx=>h x (Ak _ hx)) z
 exact this r hr
theorem wM4{r:C5}(hr:∀x∈r,x<61)(hn:r≠[]):Txt.split (rT r) " "=r.map numT:=hU (c:=32) (y':=[]) rfl (by decide+kernel) (fun z=>hn (CQ.mp z)) fun p hp=>by obtain⟨x,hx,rfl⟩:=Ay.mp hp;exact(uK x (hr x hx)).2.2.1
theorem xD6{rs:C0}(q:Rs rs):Txt.split (Str.join ")(" (rs.map rT)) ")("=rs.map rT:=hU (c:=41) (y':=[40]) rfl (by decide+kernel) (fun z=>q.ne (CQ.mp z)) fun p hp=>by obtain⟨r,hr,rfl⟩:=Ay.mp hp;exact wI5 (q.ring r hr).1
theorem wE4{rs:C0}(q:Rs rs):Txt.slice (Str.join "" (rs.map wT)) (some 1) (some (-1))=Str.join ")(" (rs.map rT):=by have e:=yU5 (rs.map rT) fun z=>q.ne (CQ.mp z);rw[Ar]at e;have e':Str.join "" (rs.map wT)="("++Str.join ")(" (rs.map rT)++")":=e;rw[e'];exact xM5 rfl rfl
theorem yK6{α:Type}{f:D->Res D}{c:Str}(A:α->D):∀xs:List α,(∀x∈xs,(∃d,f (A x)=.ok d)\/f (A x)=.ex c)->(∃x∈xs,f (A x)=.ex c)->compX (fun _=>.ok true) f (xs.map A)=.ex c
 |[],_,he=>by obtain⟨x,hx,_⟩:=he;cases hx
 |x::xs,h,he=>by rw[AB,compX,Res.bind_ok,Ae rfl];rcases h x Af with⟨d,e⟩|e;obtain⟨y,hy,ey⟩:=he;rcases AF.mp hy with rfl|hy;rw[e]at ey;cases ey;rw[e,Res.bind_ok,yK6 A xs (fun y hy=>h y (Ak _ hy)) ⟨y,hy,ey⟩];rfl;rw[e];rfl
theorem yV6{α:Type}{c:Str}(A:α->D)(xs:List α)(h:mi ρ=.ok (xs.map A))(hl:xs.length<=1000)(hf:∀x∈xs,(∃d,me (cEnv ρ js (A x))=.ok d)\/me (cEnv ρ js (A x))=.ex c)(he:∃x∈xs,me (cEnv ρ js (A x))=.ex c):eCompX mi tYes me js ρ=.ex c:=by unfold eCompX;rw[h,Res.bind_ok,zA3 (by rw[Aa];exact hl)];rw[show(compX (fun x=>tYes (cEnv ρ js x)) (fun x=>me (cEnv ρ js x)) (xs.map A))=.ex c from yK6 A xs hf he];rfl
abbrev BT:Str:="BadText"
theorem raR{m:Ev->Res (D0)}{r:Int}(h0:0<=r/\r<16)(h:m ρ=.ok [.int r]):sRaI (fun _=>"BadText") m ρ=.ex ((fun _=>"BadText") r):=by unfold sRaI;rw[h,Res.bind_ok];exact Ae h0
theorem ra1{m:Ev->Res (D0)}(h:m ρ=.ok [.int 1]):sRaI (fun _=>"BadText") m ρ=.ex BT:=raR (by decide) h
def Wd(w:Str):Prop:=Fig w/\w.length<=90/\(Txt.startswith w "0"=true->w="0")
theorem wR4{B:Nat}{w:Str}(h:Tx B w){r:Int}(h0:0<=r/\r<16)(hB:autoParam (B<=20000) Ex):(Wd w/\xZ [.str w,.int r]=.ok (.int (dv w:Int)))\/(¬Wd w/\xZ [.str w,.int r]=.ex ((fun _=>"BadText") r)):=by
 have lb:=xC;have l:=h.len;have e1:lenTD [.str w]=some (.int (w.length:Int)):=Ae (by rfl');have e3:stwD w (.str "0")=some (.bool (Txt.startswith w "0")):=rfl;have e4:=dD h.ok (show PyData.strOk "0"=true by decide+kernel);have ra:sRaI (fun _=>"BadText") (aC (eV 1) aN) [some (.str w),some (.int r)]=.ex ((fun _=>"BadText") r):=raR h0 rfl;show(Wd w/\(kJ [some (.str w),some (.int r)]).bind (fin false)=_)\/(¬Wd w/\(kJ [some (.str w),some (.int r)]).bind (fin false)=_);unfold kJ;cases hd:Txt.isdigit w with
 |false=>refine .inr ⟨fun z=>?_,?_⟩;rw[(zM4 h).mpr z.1]at hd;cases hd;simp![zY1,yV,hd,ra]
 |true=>
  have fg:=(zM4 h).mp hd;by_cases h9:w.length<=90;have e5:intTD [.str w]=some (.int (dv w:Int)):=by show(if w.length<=640 then(PySem.intText? w).map PyData.int else none)=_;rw[Ae (by rfl'),zA4 fg (by rfl')];rfl
  have d9:decide ((90:Int)<(w.length:Int))=false:=Ad (by rfl');cases hs:Txt.startswith w "0" with
  |false=>refine .inl ⟨⟨fg,h9,fun z=>by rw[z]at hs;cases hs⟩,?_⟩;simp![zY1,yQ,yV,hd,e1,d9,e3,hs,e5]
  |true=>by_cases h0:w="0";refine .inl ⟨⟨fg,h9,fun _=>h0⟩,?_⟩;rw[Ab h0]at e4;simp![zY1,yQ,yV,hd,e1,d9,e3,hs,e4,e5];refine .inr ⟨fun z=>h0 (z.2.2 hs),?_⟩;rw[Ad h0]at e4;simp![zY1,yQ,yV,hd,e1,d9,e3,hs,e4,ra]
  have d9:decide ((90:Int)<(w.length:Int))=true:=Ab (by rfl');refine .inr ⟨fun z=>h9 z.2.1,?_⟩;simp![zY1,yQ,yV,hd,e1,d9,ra]
theorem yO2{w:Str}(h:Tx 400 w):(Wd w/\xZ [.str w,.int 1]=.ok (.int (dv w:Int)))\/(¬Wd w/\xZ [.str w,.int 1]=.ex BT):=wR4 h (by decide)
theorem cX{ws:C4}(h:∀w∈ws,Tx 400 w)(hl:ws.length<=1000):((∀w∈ws,Wd w)/\xY [.list (ws.map PyData.str),.int 1]=.ok (tI (rI' (ws.map dv))))\/((¬∀w∈ws,Wd w)/\xY [.list (ws.map PyData.str),.int 1]=.ex BT):=by
 show(_/\(jP [some (.list (ws.map PyData.str)),some (.int 1)]).bind (fin false)=_)\/(_/\(jP [some (.list (ws.map PyData.str)),some (.int 1)]).bind (fin false)=_);unfold jP;have st:∀w:Str,eF xZ (aC (eV 0) (aC (eV 1) aN)) (cEnv [some (.list (ws.map PyData.str)),some (.int 1)] [1] (.str w))=xZ [.str w,.int 1]:=fun w=>by show eF xZ (aC (eV 0) (aC (eV 1) aN)) [some (.str w),some (.int 1)]=_;simp -implicitDefEqProofs only[(evA)]
 have hi:iS (eV 0) [some (.list (ws.map PyData.str)),some (.int 1)]=.ok (ws.map PyData.str):=by simp -implicitDefEqProofs only[(evA)]
 by_cases q:∀w∈ws,Wd w;refine .inl ⟨q,?_⟩;have cc:=xT (me:=eF xZ (aC (eV 0) (aC (eV 1) aN))) (js:=[1]) PyData.str (fun w=>PyData.int (dv w:Int)) ws hi hl fun w hw=>by rw[st];rcases yO2 (h w hw)with⟨_,e⟩|⟨n,_⟩;exact e;exact absurd (q w hw) n
 have e:PyData.tuple (ws.map fun w=>PyData.int (dv w:Int))=tI (rI' (ws.map dv)):=by unfold tI rI';rw[Ar,Ar];rfl
 simp![cc,e];refine .inr ⟨q,?_⟩;have cc:=yV6 (me:=eF xZ (aC (eV 0) (aC (eV 1) aN))) (js:=[1]) (c:=BT) PyData.str ws hi hl (fun w hw=>by
  rw[st];rcases yO2 (h w hw)with⟨_,e⟩|⟨n,e⟩;exact .inl ⟨_,e⟩;exact .inr e) (by
  simp only[Eb]at q;obtain⟨w,hw,n⟩:=q;refine⟨w,hw,?_⟩;rw[st];rcases yO2 (h w hw)with⟨y,_⟩|⟨_,e⟩;exact absurd y n;exact e)
 simp![cc]
def pts(z:Str):C4:=Txt.split (Txt.slice z (some 1) (some (-1))) ")("
def wds(p:Str):C4:=Txt.split p " "
def rd(z:Str):C0:=(pts z).map fun p=>(wds p).map dv
def Nm(z:Str):Prop:=∀p∈pts z,∀w∈wds p,Wd w
theorem yP7{z p:Str}{B:Nat}(h:Tx B z)(hp:p∈pts z):Tx B p:=(h.slice _ _).part (by decide) hp
theorem yG3{p w:Str}{B:Nat}(h:Tx B p)(hw:w∈wds p):Tx B w:=h.part (by decide) hw
theorem wT7{z:Str}(h:Tx 400 z):(pts z).length<=401:=by have a:=qC (x:=Txt.slice z (some 1) (some (-1))) (y:=")(") (by decide);have b:=(h.slice (some 1) (some (-1))).len;unfold pts;rfl'
theorem zB7{p:Str}(h:Tx 400 p):(wds p).length<=401:=by have a:=qC (x:=p) (y:=" ") (by decide);have b:=h.len;unfold wds;rfl'
theorem yG8{α:Type}(f:Str->List α):∀(ps:C4),(∀p∈ps,(f p).length<=p.length+1)->(ps.map f).flatten.length<=(ps.map (·.length)).sum+ps.length
 |[],_=>Ac _
 |p::ps,h=>by have a:=h p Af;have b:=yG8 f ps fun q hq=>h q (Ak _ hq);rw[AB,Bm,Aj,AB,Cr,Aw];rfl'
theorem wT8{α:Type}{z:Str}(h:Tx 400 z)(f:Str->α):((pts z).map fun p=>(wds p).map f).flatten.length<=401:=by
 have a:=qC (x:=Txt.slice z (some 1) (some (-1))) (y:=")(") (by decide);have b:=(h.slice (some 1) (some (-1))).len;have c:=yG8 (fun p=>(wds p).map f) (pts z) fun p hp=>by have d:=qC (x:=p) (y:=" ") (by decide);rw[Aa];unfold wds;rfl'
 unfold pts at c ⊢;rfl'
theorem wE9{z:Str}(h:Tx 400 z):slS (.str z) (some 1) (some (-1))=some (.str (Txt.slice z (some 1) (some (-1)))):=by have lb:=xC;unfold slS;rw[yV,AQ,Ae (by have:=h.len;rfl')]
theorem wJ7{z:Str}(h:Tx 400 z):splD (Txt.slice z (some 1) (some (-1))) (.str ")(")=some (.list ((pts z).map PyData.str)):=by have lb:=xC;unfold splD;rw[yV,AQ,Ae ⟨by decide,by have:=(h.slice (some 1) (some (-1))).len;rfl'⟩];rfl
theorem vY9{z:Str}(h:Tx 400 z)(ρ:Ev)(h0:eV 0 ρ=.ok (.str z)):eM1S splD (eS slS (eV 0) (oS (eC (.int 1))) (oS (e1 negD (eC (.int 1))))) (eC (.str ")(")) ρ=.ok (.list ((pts z).map PyData.str)):=by simp![yQ,h0,yV,wE9 h,wJ7 h]
theorem vZ8{p:Str}(h:Tx 400 p):splD p (.str " ")=some (.list ((wds p).map PyData.str)):=by have lb:=xC;unfold splD;rw[yV,AQ,Ae ⟨by decide,by have:=h.len;rfl'⟩];rfl
theorem wI7(p:Str):wds p≠[]:=qM _ _
def RF(rs:C0)(ys:C6):Prop:=∀r∈rs,∀q,q<r.length->ys.getD (r.getD (kx r.length q) 0) 0=((r.getD q 0:Nat):Int)
theorem wH7{l j:Nat}(h:j<l):∃q,q<l/\kx l q=j:=by by_cases z:j+1=l;exact⟨0,by rfl',by unfold kx;rw[Ae rfl];rfl'⟩;exact⟨j+1,by rfl',by unfold kx;rw[An (by rfl')];rfl'⟩
theorem yQ8{n:Nat}{rs:C0}(p:rs.flatten.Perm (List.range n)){i:Nat}(hi:i<n):∃(a:Nat)(r:C5)(q:Nat),rs[a]?=some r/\q<r.length/\r.getD (kx r.length q) 0=i:=by obtain⟨r,hr,hm⟩:=Bu.mp (p.mem_iff.mpr (AH.mpr hi));obtain⟨j,hj,ej⟩:=List.getElem_of_mem hm;obtain⟨a,ha,ea⟩:=List.getElem_of_mem hr;obtain⟨q,hq,eq⟩:=wH7 hj;exact⟨a,r,q,by rw[Ag ha,ea],hq,by rw[eq,List.getD,Ag hj,Dt,ej]⟩
theorem xE4{n:Nat}{rs:C0}(p:rs.flatten.Perm (List.range n))(hl:ys.length=n)(f:RF rs ys):Ord n ys:=by
 have nd:rs.flatten.Nodup:=p.nodup_iff.mpr Cd;refine⟨hl,fun i hi=>?_,fun i j hi hj e=>?_⟩;obtain⟨a,r,q,ha,hq,rfl⟩:=yQ8 p hi;have mr:=AR ha;rw[f r mr q hq];have:=AH.mp (p.mem_iff.mp (Bu.mpr ⟨r,mr,uE hq⟩));rfl';obtain⟨a,r,q,ha,hq,rfl⟩:=yQ8 p hi;obtain⟨a',r',q',ha',hq',rfl⟩:=yQ8 p hj;rw[f r (AR ha) q hq,f r' (AR ha') q' hq']at e;have e:r.getD q 0=r'.getD q' 0:=by rfl'
 have eaa:a=a':=by by_cases l1:a<a';exact absurd (e▸uE hq':r.getD q 0∈r') (pw_flat nd ha ha' l1 _ (uE hq));by_cases l2:a'<a;exact absurd (e▸uE hq:r'.getD q' 0∈r) (pw_flat nd ha' ha l2 _ (uE hq'));rfl'
 subst eaa;rw[ha]at ha';cases ha';have nr:r.Nodup:=nd.sublist (Cf (AR ha));rw[yL7 nr hq hq' e]
theorem wL2{n:Nat}{rs:C0}{xs:C6}(p:rs.flatten.Perm (List.range n))(hx:xs.length=n)(hy:ys.length=n)(f:RF rs xs)(g:RF rs ys):xs=ys:=by refine DV (by rw[hx,hy]) fun i hi hi'=>?_;obtain⟨a,r,q,ha,hq,e⟩:=yQ8 p (show i<n by rfl');have e1:=f r (AR ha) q hq;have e2:=g r (AR ha) q hq;rw[e]at e1 e2;rw[<-e2,List.getD,List.getD,Ag hi,Ag hi']at e1;exact e1
theorem wD4{n:Nat}{xs:C6}(o:Ord n xs):RF (rgs n xs n) xs:=by
 intro r hr q hq;obtain⟨b,hb,rfl,_⟩:=(o.vD n (Ac n)).each r hr;obtain⟨p1,p2,p3,p4⟩:=o.yA hb;have g:∀i,i<per n xs b->(ring n xs b).getD i 0=it xs i b:=fun i hi=>by unfold ring;rw[List.getD,Al,AZ hi];rfl
 rw[xH]at hq ⊢;have hk:=yP3 hq;rw[g q hq,g _ hk];have hi:=o.qT hb (kx (per n xs b) q);rw[o.gG hi];have:nxt xs (it xs (kx (per n xs b) q) b)=it xs q b:=by show it xs (kx (per n xs b) q+1) b=_;unfold kx;by_cases z:q=0;subst z;rw[Ae rfl,show per n xs b-1+1=per n xs b by rfl',p3];rfl;rw[An z,show q-1+1=q by rfl']
 rw[this]
theorem wM7{rs:C0}{n:Nat}:(rs.map rI').flatten.Perm (rg n)↔rs.flatten.Perm (List.range n):=by
 have e:(rs.map rI').flatten=rI' rs.flatten:=by unfold rI';rw[List.map_flatten]
 rw[e];constructor;intro h;have h2:=h.map Int.toNat;unfold rI' rg at h2;rw[Ar,Ar]at h2;have i1:(Int.toNat∘fun b:Nat=>(b:Int))=id:=funext fun b=>AX b;rw[i1,List.map_id,List.map_id]at h2;exact h2;exact fun h=>h.map _
theorem xL9{z:Str}(h:Tx 400 z):(∃(n:Nat)(ys:C6),Nm z/\(rd z).flatten.Perm (List.range n)/\1<=n/\n<=60/\ys.length=n/\RF (rd z) ys/\wL [.str z]=if ordT n ys=z then .ok (tI ys)else .ex BT) \/ ((¬Nm z\/¬∃n,n<=60/\(rd z).flatten.Perm (List.range n))/\wL [.str z]=.ex BT):=by
 have st:∀p:Str,Tx 400 p->eF xY (aC (eM1S splD (eV 0) (eC (.str " "))) (aC (eC (.int 1)) aN)) (cEnv [some (.str z),none,none] [] (.str p))=xY [.list ((wds p).map PyData.str),.int 1]:=fun p hp=>by show eF xY (aC (eM1S splD (eV 0) (eC (.str " "))) (aC (eC (.int 1)) aN)) [some (.str p)]=_;simp![yQ,yV,vZ8 hp]
 have hi:iS (eM1S splD (eS slS (eV 0) (oS (eC (.int 1))) (oS (e1 negD (eC (.int 1))))) (eC (.str ")("))) [some (.str z),none,none]=.ok ((pts z).map PyData.str):=by rw[wU9,vY9 h _ rfl];rfl
 have few:=wT7 h;by_cases nm:Nm z;have cc:=xT (me:=eF xY (aC (eM1S splD (eV 0) (eC (.str " "))) (aC (eC (.int 1)) aN))) (js:=[]) PyData.str (fun p=>tI (rI' ((wds p).map dv))) (pts z) hi (by rfl') fun p hp=>by have tp:=yP7 h hp;rw[st p tp];rcases cX (fun w hw=>yG3 tp hw) (by have:=zB7 tp;rfl')with⟨_,e⟩|⟨n,_⟩;exact e;exact absurd (nm p hp) n
 have ec:(pts z).map (fun p=>tI (rI' ((wds p).map dv)))=(rd z).map fun r=>tI (rI' r):=by unfold rd;rw[Ar];rfl
 rw[ec]at cc;have sq:=xO4 (rd z) (fun r=>tI (rI' r)) fun r=>.inl rfl;have fl:((rd z).map rI').flatten.length<=1000:=by rw[show((rd z).map rI').flatten=rI' (rd z).flatten by unfold rI';rw[List.map_flatten],yL];have:=wT8 h dv;exact As this (by decide)
 have pos:∀r∈rd z,0<r.length:=fun r hr=>by obtain⟨p,_,rfl⟩:=Ay.mp hr;rw[Aa];exact BJ.mpr (wI7 p)
 by_cases pm:∃n,n<=60/\(rd z).flatten.Perm (List.range n);obtain⟨n,h2,p⟩:=pm;have h1:1<=n:=by
  have a:=yY4 (rd z) pos;have b:0<(rd z).length:=by unfold rd;rw[Aa];exact BJ.mpr (qM _ _)
  rw[p.length_eq,Aq]at a;rfl'
 obtain⟨ys,hl,hy,eo⟩:=zT2 sq p h1 h2 pos;have o:=xE4 p hl hy;refine .inl ⟨n,ys,nm,p,h1,h2,hl,hy,?_⟩;have q:=aZ o h1 h2;have ne:=dD (yA3 q) h.ok;have tr:sTryR ["BadOrder"] BT (sS 2 (eF vC (aC (eV 1) aN))) [some (.str z),some (.list ((rd z).map fun r=>tI (rI' r))),none]=.ok (.nx [some (.str z),some (.list ((rd z).map fun r=>tI (rI' r))),some (tI ys)]):=by refine xD8 ?_;simp![eo]
 show(vP [some (.str z),none,none]).bind (fin false)=_;unfold vP;by_cases e:ordT n ys=z;rw[Ab e]at ne;rw[Ae e];simp![cc,tr,dO o h1 h2,ne];rw[Ad e]at ne;rw[An e];have ra:sRaI (fun _=>"BadText") (aC (eC (.int 1)) aN) [some (.str z),some (.list ((rd z).map fun r=>tI (rI' r))),some (tI ys)]=.ex BT:=ra1 rfl;simp![cc,tr,dO o h1 h2,ne,ra];refine .inr ⟨.inr pm,?_⟩;have eo:=yE7 sq fl (.inr fun⟨a,b,c⟩=>pm ⟨_,b,wM7.mp c⟩);have tr:sTryR ["BadOrder"] BT (sS 2 (eF vC (aC (eV 1) aN))) [some (.str z),some (.list ((rd z).map fun r=>tI (rI' r))),none]=.ex BT:=by refine xB1 (c:="BadOrder") ?_ (by decide);simp![eo]
 show(vP [some (.str z),none,none]).bind (fin false)=_;unfold vP;simp![cc,tr];refine .inr ⟨.inl nm,?_⟩;have cc:=yV6 (me:=eF xY (aC (eM1S splD (eV 0) (eC (.str " "))) (aC (eC (.int 1)) aN))) (js:=[]) (c:=BT) PyData.str (pts z) hi (by rfl') (fun p hp=>by
  have tp:=yP7 h hp;rw[st p tp];rcases cX (fun w hw=>yG3 tp hw) (by have:=zB7 tp;rfl')with⟨_,e⟩|⟨_,e⟩;exact .inl ⟨_,e⟩;exact .inr e) (by
  unfold Nm at nm;simp only[Eb]at nm;obtain⟨p,hp,w,hw,n⟩:=nm;have tp:=yP7 h hp;refine⟨p,hp,?_⟩;rw[st p tp];rcases cX (fun w hw=>yG3 tp hw) (by have:=zB7 tp;rfl')with⟨y,_⟩|⟨_,e⟩;exact absurd (y w hw) n;exact e)
 show(vP [some (.str z),none,none]).bind (fin false)=_;unfold vP;simp![cc]
theorem xG1{b:Nat}(h:b<61):Wd (numT b)/\dv (numT b)=b:=by
 obtain⟨⟨n1,n2,n3,n4⟩,_⟩:=uK b h;have fg:Fig (numT b):=by
  have:∀b,b<61->((tl (numT b)).all fun c=>decide (48<=c/\c<=57))=true/\tl (numT b)≠[]:=by decide+kernel
  obtain⟨a,c⟩:=this b h;exact⟨fun x hx=>of_decide_eq_true (Bt.mp a x hx),c⟩
 refine⟨⟨fg,by rfl',fun z=>n3.elim (fun y=>by rw[y]at z;cases z) id⟩,?_⟩;have e:=zA4 fg (by rfl');rw[n4]at e;have:=Ba e;rfl'
theorem xW7{n:Nat}{xs:C6}(q:Rs (rgs n xs n)):pts (ordT n xs)=(rgs n xs n).map rT:=by unfold pts ordT;rw[wE4 q,xD6 q]
theorem wT4{rs:C0}(q:Rs rs){r:C5}(hr:r∈rs):wds (rT r)=r.map numT:=wM4 (q.ring r hr).1 (q.ring r hr).2.2
theorem wG6{n:Nat}{xs:C6}(q:Rs (rgs n xs n)):rd (ordT n xs)=rgs n xs n/\Nm (ordT n xs):=by
 refine⟨?_,fun p hp w hw=>?_⟩;unfold rd;rw[xW7 q,Ar];have:∀r∈rgs n xs n,((fun p=>(wds p).map dv)∘rT) r=id r:=fun r hr=>by show(wds (rT r)).map dv=r;rw[wT4 q hr,Ar];have:∀b∈r,(dv∘numT) b=id b:=fun b hb=>(xG1 ((q.ring r hr).1 b hb)).2;rw[Bb this,List.map_id]
 rw[Bb this,List.map_id];rw[xW7 q]at hp;obtain⟨r,hr,rfl⟩:=Ay.mp hp;rw[wT4 q hr]at hw;obtain⟨b,hb,rfl⟩:=Ay.mp hw;exact(xG1 ((q.ring r hr).1 b hb)).1
theorem yX3{n:Nat}{xs:C6}(o:Ord n xs)(h1:1<=n)(h2:n<=60)(h:Tx 400 (ordT n xs)):wL [.str (ordT n xs)]=.ok (tI xs):=by
 have q:=aZ o h1 h2;obtain⟨er,nm⟩:=wG6 q;rcases xL9 h with⟨m,ys,_,p,_,_,hl,f,e⟩|⟨n1,_⟩;have pm:=flatP o;rw[er]at p f;have:m=n:=by have a:=p.length_eq;rw[pm.length_eq,Aq,Aq]at a;exact a.symm
 subst this;have:=wL2 p o.len hl (wD4 o) f;subst this;rw[e,Ae rfl];rcases n1 with n1|n1;exact absurd nm n1;exact absurd ⟨n,h2,by rw[er];exact flatP o⟩ n1
theorem xJ9{z:Str}(h:Tx 400 z)(ng:∀n xs,Ord n xs->1<=n->n<=60->ordT n xs≠z):wL [.str z]=.ex BT:=by rcases xL9 h with⟨m,ys,_,p,h1,h2,hl,f,e⟩|⟨_,e⟩;rw[e,An (ng m ys (xE4 p hl f) h1 h2)];exact e
theorem yB4{n:Nat}{xs:C6}(hl:xs.length=n){k:Int}(h1:1<=k)(h2:k<=n):jZ [tI xs,.int k]=.ok .none:=by
 show(qL [some (tI xs),some (.int k)]).bind (fin false)=_;unfold qL;have hl':(xs.map PyData.int).length=n:=by rw[Aa,hl]
 simp![hl',Ab (show 0<=k by rfl'),Ab h2,yR,Ad (show ¬k=0 by rfl')]
theorem yB6(f:List Nat->Nat):∀L:C0,(L.map fun r=>((f r:Nat):Int)).sum=(((L.map f).sum:Nat):Int)
 |[]=>rfl
 |r::L=>by rw[AB,Cr,yB6 f L,AB,Cr,Int.natCast_add]
theorem zJ2{n k:Nat}{xs:C6}(o:Ord n xs)(hn:n<=60)(h1:1<=k)(h2:k<=60):gS [tI xs,.int (k:Int)]=.ok (.int ((ND n k xs:Nat):Int)):=by
 show(hX [some (tI xs),some (.int (k:Int))]).bind (fin false)=_;unfold hX;have lr:=zJ9 (n:=n) (xs:=xs) n;have cc:eCompX (iS (eF wP (aC (eV 0) aN))) tYes (e2 fdivI (e2 subI (eB lenD (aC (eV 0) aN)) (eC (.int 1))) (eV 1)) [1] [some (tI xs),some (.int (k:Int))]=.ok (lI ((rgs n xs n).map fun r=>((fN k r.length:Nat):Int))):=by
  rw[xT (fun r:C5=>tI (rI' r)) (fun r=>PyData.int ((fN k r.length:Nat):Int)) (rgs n xs n) (by
   simp![kK o (show n<=1000 by rfl')];rw[Ar];rfl) (by rfl') fun r hr=>by
   obtain⟨b,hb,rfl,_⟩:=(o.vD n (Ac n)).each r hr;have p1:=(o.yA hb).1;have hl:((rI' (ring n xs b)).map PyData.int).length=per n xs b:=(by rw[Aa,yL,xH]);have dv:(((per n xs b:Nat):Int)-1)/(k:Int)=((fN k (ring n xs b).length:Nat):Int):=(by rw[xH,show((per n xs b:Nat):Int)-1=((per n xs b-1:Nat):Int) by rfl'];rfl);show e2 fdivI _ _ [some (tI (rI' (ring n xs b))),some (.int (k:Int))]=_;simp![hl,fdivO,Ae (DivOk.small (show(0:Int)<(k:Int) by rfl') (by rfl')),dv]]
  rw[lI,Ar];rfl
 simp![cc,xZ6];rw[yB6 (fun r=>fN k r.length)];rfl
theorem wQ4{n k:Nat}{xs:C6}(o:Ord n xs)(hn:n<=60)(h1:1<=k)(h2:k<=n):zH6 [tI xs,.int (k:Int)]=.ok (.int ((ND n k xs:Nat):Int)):=by show(zP4 [some (tI xs),some (.int (k:Int))]).bind (fin false)=_;unfold zP4;simp![yB4 o.len (k:=(k:Int)) (by rfl') (by rfl'),zJ2 o hn h1 (show k<=60 by rfl')]
abbrev pL(q:Nat×Nat):C6:=[((q.1:Nat):Int),((q.2:Nat):Int)]
theorem xI5:∀k:Nat,k<61->∀l:Nat,l<61->1<=k->StepOk (k:Int) (l:Int) (k:Int)/\Builtin.Range.rangeSize (k:Int) (l:Int) (k:Int)=((fN k l:Nat):Int):=by decide+kernel
theorem xI4{k l:Nat}(h1:1<=k)(h2:k<=60)(h3:l<=60):rng3 [.int (k:Int),.int (l:Int),.int (k:Int)]=some ((List.range (fN k l)).map fun(m:Nat)=>PyData.int (((m+1)*k:Nat):Int)):=by obtain⟨ok,sz⟩:=xI5 k (Dm h2) l (Dm h3) h1;unfold rng3;simp only;rw[Ae ok,sz,AX];congr 1;refine Bb fun m _=>?_;congr 1;rw[Nat.add_mul,Nat.one_mul,Int.natCast_add,CH,Int.add_comm]
theorem yO1{n k:Nat}{xs:C6}(o:Ord n xs):∀j,(((rgs n xs n).take j).flatMap (pr k)).length<=n:=fun j=>by
 have a:∀L:C0,(L.flatMap (pr k)).length<=L.flatten.length:=fun L=>by
  induction L with
  |nil=>exact Ac _
  |cons r L ih=>rw[List.flatMap_cons,Aj,Bm,Aj];have:(pr k r).length<=r.length:=(by unfold pr;rw[Aa,Aq];exact As (Ee ..) (CA ..));rfl'
 have b:=a ((rgs n xs n).take j);have c:((rgs n xs n).take j).flatten.length<=(rgs n xs n).flatten.length:=by
  conv=>rhs;rw[<-BA j (rgs n xs n)]
  rw[BH,Aj];rfl'
 rw[(flatP o).length_eq,Aq]at c;rfl'
theorem yF2{n k:Nat}{xs:C6}(o:Ord n xs)(hn:n<=60)(h1:1<=k)(h2:k<=n):qX [tI xs,.int (k:Int)]=.ok (rows ((told n k xs).map pL)):=by
 show(kM [some (tI xs),some (.int (k:Int)),none,none]).bind (fin true)=_;unfold kM;have er:=kK o (show n<=1000 by rfl');have lr:=zJ9 (n:=n) (xs:=xs) n;simp![yB4 o.len (k:=(k:Int)) (by rfl') (by rfl'),er];refine vL (fun i ρ=>∃y,ρ=[some (tI xs),some (.int (k:Int)),some (rows ((((rgs n xs n).take i).flatMap (pr k)).map pL)),y]) ⟨none,rfl⟩ ?_ ?_;rintro i d ρ hd ⟨y,rfl⟩;rw[Ar,Al]at hd;obtain⟨r,hr,rfl⟩:=Az.mp hd;obtain⟨b,hb,rfl,_⟩:=(o.vD n (Ac n)).each r (AR hr);obtain⟨p1,p2,_,_⟩:=o.yA hb;have e1:(rgs n xs n).take (i+1)=(rgs n xs n).take i++[ring n xs b]:=by rw[Dr,hr];rfl
 have few:=yO1 (k:=k) o (i+1);rw[e1,List.flatMap_append,Aj]at few;have hl:((rI' (ring n xs b)).map PyData.int).length=per n xs b:=by rw[Aa,yL,xH]
 have at':∀q,q<per n xs b->atI ((rI' (ring n xs b)).map PyData.int) (q:Int)=some (.int (((ring n xs b).getD q 0:Nat):Int)):=fun q hq=>by refine jT ?_;unfold rI';rw[Ar,Al,List.getD,Ag (by rw[xH];exact hq)];rfl
 have cc:eCompX (iR rng3 (aC (eV 1) (aC (eB lenD (aC (eV 3) aN)) (aC (eV 1) aN)))) tYes (eB mkT (aC (e2 ixD (eV 1) (eC (.int 0))) (aC (e2 ixD (eV 1) (eV 0)) aN))) [3] [some (tI xs),some (.int (k:Int)),some (rows ((((rgs n xs n).take i).flatMap (pr k)).map pL)),some (tI (rI' (ring n xs b)))]=.ok (rows ((pr k (ring n xs b)).map pL)):=by rw[xT (fun m:Nat=>PyData.int (((m+1)*k:Nat):Int)) (fun m:Nat=>tI (pL ((ring n xs b).getD 0 0,(ring n xs b).getD ((m+1)*k) 0))) (List.range (fN k (per n xs b))) (by simp![hl,xI4 h1 (show k<=60 by rfl') (show per n xs b<=60 by rfl')]) (by rw[Aq];have:fN k (per n xs b)<=per n xs b:=As (Ee ..) (CA ..);rfl') (fun m hm=>by have lt:=yI1 h1 (AH.mp hm);have z0:=at' 0 (by rfl');have z1:=at' ((m+1)*k) lt;have z0':atI ((rI' (ring n xs b)).map PyData.int) 0=some (.int (((ring n xs b).getD 0 0:Nat):Int)):=z0;show eB mkT (aC (e2 ixD (eV 1) (eC (.int 0))) (aC (e2 ixD (eV 1) (eV 0)) aN)) [some (.int (((m+1)*k:Nat):Int)),some (tI (rI' (ring n xs b)))]=_;simp![z0',z1];rfl)];unfold pr;rw[xH,rows,Ar,Ar];rfl
 refine⟨_,_,rfl,?_,some (tI (rI' (ring n xs b))),rfl⟩;show sM 2 extD _ [some (tI xs),some (.int (k:Int)),some (rows ((((rgs n xs n).take i).flatMap (pr k)).map pL)),some (tI (rI' (ring n xs b)))]=_;have ex:=zG6 (l:=((((rgs n xs n).take i).flatMap (pr k)).map pL).map tI) (k:=((pr k (ring n xs b)).map pL).map tI) (d:=rows ((pr k (ring n xs b)).map pL)) rfl (by
  rw[Aa,Aa,Aa,Aa];have z:([ring n xs b].flatMap (pr k)).length=(pr k (ring n xs b)).length:=by simp
  rfl')
 simp![cc,ex];rw[e1,List.flatMap_append,AJ,rows,AJ];simp;rintro ρ ⟨y,rfl⟩;rw[Aa,Aa,BU];simp -implicitDefEqProofs only[(evA)];rfl
theorem flatN{n:Nat}{xs:C6}(o:Ord n xs){m:Nat}(hm:n<=n):(rgs n xs n).flatten.length<=n:=by have:=(flatP o).length_eq;rw[Aq]at this;rfl'
theorem wK2{n k:Nat}{xs:C6}(o:Ord n xs)(h0:1<=n)(h1:1<=k):k*ND n k xs<=n-1:=by
 have key:∀L:C0,(∀r∈L,1<=r.length)->k*(L.map fun r=>fN k r.length).sum+L.length<=L.flatten.length:=by
  intro L;induction L with
  |nil=>intro _;simp
  |cons r L ih=>intro h;have a:=ih fun r hr=>h r (Ak _ hr);have b:=h r (Af ..);have c:k*fN k r.length<=r.length-1:=Nat.mul_div_le _ _;rw[AB,Cr,Bm,Aj,Aw,Nat.mul_add];rfl'
 have ok:=o.vD n (Ac n);have q:=key (rgs n xs n) fun r hr=>by obtain⟨b,hb,rfl,_⟩:=ok.each r hr;rw[xH];exact(o.yA hb).1
 have fl:=flatN (m:=n) o (Ac n);obtain⟨r,hr,_⟩:=ok.cover 0 (by rfl');have lp:=List.length_pos_of_mem hr;unfold ND;rfl'
theorem xF6{n k:Nat}{xs:C6}(o:Ord n xs)(hk:1<=k):∀q∈told n k xs,q.1<q.2:=fun q hq=>by have ne:=(xV5 o hk q hq).2.2;have ok:=o.vD n (Ac n);unfold told at hq;obtain⟨r,hr,hq⟩:=List.mem_flatMap.mp hq;obtain⟨b,hb,rfl,mn⟩:=ok.each r hr;unfold pr at hq;obtain⟨m,hm,rfl⟩:=Ay.mp hq;have hm:=AH.mp hm;rw[xH]at hm;have lt:=yI1 hk hm;have p1:=(o.yA hb).1;have e1:(ring n xs b).getD 0 0=b:=gA (by rfl');have e2:(ring n xs b).getD ((m+1)*k) 0=it xs ((m+1)*k) b:=gA lt;have le:=mn _ (o.zH8 hb ((m+1)*k));have ne':(ring n xs b).getD 0 0≠(ring n xs b).getD ((m+1)*k) 0:=ne;show(ring n xs b).getD 0 0<(ring n xs b).getD ((m+1)*k) 0;rfl'
abbrev fL(n:Nat)(v:Nat->Int):D:=.list ((List.range (n+1)).map fun q=>PyData.int (v q))
theorem zX9{n:Nat}{v u:Nat->Int}(h:∀q,q<=n->v q=u q):fL n v=fL n u:=By PyData.list (Bb fun q hq=>by rw[h q (by have:=AH.mp hq;rfl')])
theorem yS2(a:Nat->Int)(q:Nat):∀n,M12.sumN (fun p=>if p=q then a p else 0) n=if q<n then a q else 0
 |0=>by rw[An (by rfl')];rfl
 |n+1=>by rw[M12.sumN,yS2 a q n];by_cases h:q<n;simp[h,show ¬n=q by rfl',show q<n+1 by rfl'];by_cases e:n=q;subst e;simp;simp[h,e,show ¬q<n+1 by rfl']
def Lm(o:Nat)(v:Nat->Int)(i q:Nat):Int:=M12.sumN (fun p=>(if p=q+1 then(p:Int)*v p else 0)+(if M12.inWin o q p then v p else 0)) i
theorem wG9(n o:Nat)(v:Nat->Int)(q:Nat):Lm o v (n+1) q=M12.stepM n o v q:=by unfold Lm M12.stepM;rw[M12.yG1,yS2 (fun p=>(p:Int)*v p) (q+1) (n+1)];congr 1;by_cases h:q+1<=n;rw[Ae (by rfl'),Ae h];congr 1;rw[An (by rfl'),An h]
theorem yT2{n i b:Nat}{x0 x1 x3:Option D}{w:Int}(M:Nat->Int)(hb:b<=n+1)(y:Option D):∃y',L3.forM (gN 5) (sJ0 2 (eV 5) addI (eV 4)) ((List.range (b-i)).map fun(k:Nat)=>PyData.int ((i+k:Nat):Int)) [x0,x1,some (fL n M),x3,some (.int w),y]=.ok (.nx [x0,x1,some (fL n fun q=>M q+(if i<=q/\q<i+(b-i)then w else 0)),x3,some (.int w),y']):=by obtain⟨ρ',e,y',rfl⟩:=uM (g:=gN 5) (b:=sJ0 2 (eV 5) addI (eV 4)) (fun j ρ=>∃y,ρ=[x0,x1,some (fL n fun q=>M q+(if i<=q/\q<i+j then w else 0)),x3,some (.int w),y]) ((List.range (b-i)).map fun(k:Nat)=>PyData.int ((i+k:Nat):Int)) [x0,x1,some (fL n M),x3,some (.int w),y] ⟨y,by rw[zX9 (n:=n) (v:=fun q=>M q+(if i<=q/\q<i+0 then w else 0)) (u:=M) fun q _=>by rw[An (by rfl'),Int.add_zero]]⟩ (by rintro j d ρ hd ⟨y,rfl⟩;obtain⟨hj,rfl⟩:=uC hd;have hlt:i+j<n+1:=(by rfl');have at1:=xW8 (xd:=(List.range (n+1)).map fun q=>PyData.int (M q+(if i<=q/\q<i+j then w else 0))) (j:=i+j) (by rw[Al,AZ hlt];rfl);refine⟨_,_,rfl,?_,some (.int ((i+j:Nat):Int)),rfl⟩;simp![at1,zV2 hlt];refine By (fun z=>Res.ok (Out.nx [x0,x1,some (PyData.list z),x3,some (PyData.int w),some (PyData.int ((i+j:Nat):Int))])) (Bb fun q _=>?_);show _=PyData.int (M q+(if i<=q/\q<i+(j+1)then w else 0));by_cases e:q=i+j;subst e;rw[Ae rfl,An (by rfl'),Ae (by rfl')];congr 1;rfl';rw[An e];congr 2;by_cases e2:i<=q/\q<i+j;rw[Ae e2,Ae (by rfl')];rw[An e2,An (by rfl')]);rw[Aa,Aq]at e;exact⟨y',e⟩
theorem zZ5{n o:Nat}(hn:n<=60)(ho:o<=60)(v:Nat->Int):uH [fL n v,.int o]=.ok (fL n (M12.stepM n o v)):=by
 show(uD [some (fL n v),some (.int o),none,none,none,none]).bind (fin true)=_;unfold uD;have r0:=cJ (.int 0) (n+1) (by rfl');rw[dP]at r0;have le:((List.range (n+1)).map fun q=>PyData.int (v q)).length=n+1:=by simp
 simp![le,r0];refine vL (fun i ρ=>∃a b c,ρ=[some (fL n v),some (.int o),some (fL n (Lm o v i)),a,b,c]) ⟨none,none,none,rfl⟩ ?_ ?_;rintro i d ρ hd ⟨a,b,c,rfl⟩;unfold enumD at hd;obtain⟨hi,rfl⟩:=uC hd;rw[le]at hi;have eg:((List.range (n+1)).map fun q=>PyData.int (v q)).getD i .none=.int (v i):=by rw[Ax,Al,AZ hi];rfl
 rw[eg];have hm:(if ((n+1:Nat):Int)<(i:Int)+(o:Int)then((n+1:Nat):Int)else(i:Int)+(o:Int))=((min (i+o) (n+1):Nat):Int):=by split<;>rfl'
 have rg:=zK2 (a:=i) (b:=min (i+o) (n+1)) (by rfl') (by rfl');cases i with
 |zero=>obtain⟨y',inn⟩:=yT2 (n:=n) (i:=0) (b:=min (0+o) (n+1)) (x0:=some (fL n v)) (x1:=some (.int o)) (x3:=some (.int ((0:Nat):Int))) (w:=v 0) (Lm o v 0) (by rfl') c;refine⟨_,_,rfl,?_,some (.int ((0:Nat):Int)),some (.int (v 0)),y',rfl⟩;simp![Ad (show ¬(0:Int)<((0:Nat):Int) by rfl'),le,min2D,hm,rg,inn];rw[zX9 (n:=n) (v:=fun q=>Lm o v 0 q+(if 0<=q/\q<0+(min (0+o) (n+1)-0)then v 0 else 0)) (u:=Lm o v (0+1)) fun q hq=>?_];show(0:Int)+(if 0<=q/\q<0+(min (0+o) (n+1)-0)then v 0 else 0)=0+((if 0=q+1 then((0:Nat):Int)*v 0 else 0)+(if M12.inWin o q 0 then v 0 else 0));rw[An (show ¬0=q+1 by rfl')];unfold M12.inWin;by_cases e:(0:Nat)<=q/\q<0+(min (0+o) (n+1)-0);rw[Ae e,Ae (Ab (by rfl'))];rfl';rw[An e,An (by rw[decide_eq_true_iff];rfl')];rfl'
 |succ j=>
  have hj:j<n+1:=by rfl'
  have at1:=xW8 (xd:=(List.range (n+1)).map fun q=>PyData.int (Lm o v (j+1) q)) (j:=j) (by rw[Al,AZ hj];rfl);have m1:=vR (i:=((j+1:Nat):Int)) (j:=v (j+1)) (MulOk.left (by rfl') (by rfl'));have sd:=zV2 hj (fun q=>PyData.int (Lm o v (j+1) q)) (.int (Lm o v (j+1) j+((j+1:Nat):Int)*v (j+1)));have ef:((List.range (n+1)).map fun c=>if c=j then PyData.int (Lm o v (j+1) j+((j+1:Nat):Int)*v (j+1))else PyData.int (Lm o v (j+1) c))=(List.range (n+1)).map fun q=>PyData.int (Lm o v (j+1) q+(if j+1=q+1 then((j+1:Nat):Int)*v (j+1)else 0)):=Bb fun q _=>by by_cases e:q=j;subst e;rw[Ae rfl,Ae rfl];rw[An e,An (by rfl'),Int.add_zero]
  rw[ef]at sd;obtain⟨y',inn⟩:=yT2 (n:=n) (i:=j+1) (b:=min (j+1+o) (n+1)) (x0:=some (fL n v)) (x1:=some (.int o)) (x3:=some (.int ((j+1:Nat):Int))) (w:=v (j+1)) (fun q=>Lm o v (j+1) q+(if j+1=q+1 then((j+1:Nat):Int)*v (j+1)else 0)) (by rfl') c;refine⟨_,_,rfl,?_,some (.int ((j+1:Nat):Int)),some (.int (v (j+1))),y',rfl⟩;simp![Ab (show(0:Int)<((j+1:Nat):Int) by rfl'),show((j+1:Nat):Int)-1=(j:Int) by rfl',at1,m1,sd,le,min2D,hm,rg,inn];rw[zX9 (n:=n) (v:=fun q=>Lm o v (j+1) q+(if j+1=q+1 then((j+1:Nat):Int)*v (j+1)else 0)+(if j+1<=q/\q<j+1+(min (j+1+o) (n+1)-(j+1))then v (j+1)else 0)) (u:=Lm o v (j+1+1)) fun q hq=>?_];show Lm o v (j+1) q+(if j+1=q+1 then((j+1:Nat):Int)*v (j+1)else 0)+(if j+1<=q/\q<j+1+(min (j+1+o) (n+1)-(j+1))then v (j+1)else 0)=Lm o v (j+1) q+((if j+1=q+1 then((j+1:Nat):Int)*v (j+1)else 0)+(if M12.inWin o q (j+1)then v (j+1)else 0));unfold M12.inWin;by_cases e:(j+1:Nat)<=q/\q<j+1+(min (j+1+o) (n+1)-(j+1));rw[Ae e,Ae (Ab (show j+1<=q/\q<j+1+o by rfl'))];rfl';rw[An e,An (show ¬decide (j+1<=q/\q<j+1+o)=true by rw[decide_eq_true_iff];rfl')];rfl'
 rintro ρ ⟨a,b,c,rfl⟩;have:(enumD ((List.range (n+1)).map fun q=>PyData.int (v q))).length=n+1:=by unfold enumD;simp
 rw[this];simp -implicitDefEqProofs only[(evA)];rw[zX9 fun q _=>wG9 n o v q]
theorem wN1(n:Nat):catL (.list [.int 1]) (.list ((List.range n).map fun _=>PyData.int 0))=(if n+1<=1000 then some (fL n M12.e0)else catL (.list [.int 1]) (.list ((List.range n).map fun _=>PyData.int 0))):=by
 by_cases h:n+1<=1000;rw[Ae h];have e:fL n M12.e0=lI ([1]++(List.range n).map fun _=>(0:Int)):=by show PyData.list _=PyData.list _;congr 1;rw[List.range_succ_eq_map,AB,AJ,Ar,Ar];rfl
 rw[e,<-xV6 (xs:=[1]) (ys:=(List.range n).map fun _=>(0:Int)) (by simp;rfl')];congr 1;simp only[lI,Ar,Dk];rw[An h]
theorem yE9{n:Nat}(q:Opn n ops)(h1:1<=n)(h2:n<=60):dL [tI ops]=.ok (.int (M12.runM n ((sortI ops).map Int.toNat) 0)):=by
 show(hJ [some (tI ops),none,none,none]).bind (fin false)=_;unfold hJ;have r0:=cJ (.int 0) n (by rfl');rw[dP]at r0;have e0:=wN1 n;rw[Ae (by rfl')]at e0;have so:sortD [tI ops]=some (lI (sortI ops)):=by unfold sortD;simp only[nsD,seqD,AQ,intsOf_map];rw[Ae (by rw[q.len];rfl')]
 simp![Aa,q.len,bS q h1 h2,r0,e0,so];have bd:∀x∈sortI ops,0<=x/\x<=n:=fun x hx=>q.bd x ((jN ops).mem_iff.mp hx);refine vL (fun i ρ=>∃a,ρ=[some (tI ops),some (.int n),some (fL n (M12.runM n (((sortI ops).map Int.toNat).take i))),a]) ⟨none,rfl⟩ ?_ ?_;rintro i d ρ hd ⟨a,rfl⟩;rw[Al]at hd;obtain⟨x,hx,rfl⟩:=Az.mp hd;have hb:=bd x (AR hx);have eb:=zZ5 (n:=n) (o:=x.toNat) h2 (by rfl') (M12.runM n (((sortI ops).map Int.toNat).take i));rw[show((x.toNat:Nat):Int)=x by rfl']at eb;refine⟨_,_,rfl,?_,some (.int x),rfl⟩;simp![eb];have tk:((sortI ops).map Int.toNat).take (i+1)=((sortI ops).map Int.toNat).take i++[x.toNat]:=by rw[Dr,Al,hx];rfl
 rw[tk,M12.zQ6];rintro ρ ⟨a,rfl⟩;have a0:=zS1 (show 0<n+1 by rfl') fun k=>PyData.int (M12.runM n ((sortI ops).map Int.toNat) k);rw[Aa];have tl:((sortI ops).map Int.toNat).take (sortI ops).length=(sortI ops).map Int.toNat:=by rw[Bd (by rw[Aa];exact Ac _)]
 rw[tl];have a0':atI ((List.range (n+1)).map fun k=>PyData.int (M12.runM n ((sortI ops).map Int.toNat) k)) 0=_:=a0;simp![a0']
theorem zL1{F:Nat->Int}:∀{n:Nat},(∀i,i<n->0<=F i)->0<=M12.sumN F n
 |0,_=>CZ _
 |n+1,h=>by rw[M12.sumN];have h1:=zL1 (n:=n) fun i hi=>h i (by rfl');have h2:=h n (by rfl');rfl'
theorem yH1(l:Nat):∀d:Nat,d<=l->0<M12.ff (l:Int) d
 |0,_=>by rw[M12.ff];decide
 |d+1,h=>by rw[M12.ff];exact Int.mul_pos (yH1 l d (by rfl')) (by rfl')
theorem yY2{n:Nat}(h1:1<=n)(h2:n<=60):dQ [.int n]=.ok (.int (M12.fac n)):=by show(dN [some (.int n),none,none]).bind (fin false)=_;unfold dN;have rg:=zK2 (a:=2) (b:=n+1) (by rfl') (by rfl');rw[show((2:Nat):Int)=2 from rfl,show((n+1:Nat):Int)=(n:Int)+1 by rfl']at rg;simp![rg];refine vL (fun i ρ=>∃a,ρ=[some (.int n),some (.int (M12.fac (i+1))),a]) ⟨none,rfl⟩ ?_ ?_;rintro i d ρ hd ⟨a,rfl⟩;obtain⟨hi,rfl⟩:=uC hd;have m1:=vR (i:=M12.fac (i+1)) (j:=((2+i:Nat):Int)) (MulOk.right (by rfl') (by rfl'));refine⟨_,_,rfl,?_,some (.int ((2+i:Nat):Int)),rfl⟩;simp![m1];rw[show M12.fac (i+1+1)=M12.fac (i+1)*((2+i:Nat):Int)from By (M12.fac (i+1) * ·) (by rfl')];rintro ρ ⟨a,rfl⟩;rw[Aa,Aq,show n+1-2+1=n by rfl'];simp -implicitDefEqProofs only[(evA)]
abbrev dT:B7:=b2 gtI (eV 1) (eC (.int 0))
abbrev dB:B6:=sQ (sS 2 (e2 modI (eV 0) (eV 1))) (sQ (sS 0 (eV 1)) (sS 1 (eV 2)))
theorem vX8(a b:Nat)(hb:0<b)(r:Option D):dB [some (.int a),some (.int b),r]=.ok (.nx [some (.int b),some (.int ((a%b:Nat):Int)),some (.int ((a%b:Nat):Int))]):=by
 have m:modO (a:Int) (b:Int)=some ((a%b:Nat):Int):=by unfold modO;rw[Ae (by rfl')];congr 1
 unfold dB;simp![m]
theorem yJ3(a b:Nat):Nat.gcd a b=Nat.gcd b (a%b):=by rw[Nat.gcd_comm a b,Nat.gcd_rec b a,Nat.gcd_comm]
theorem zT7{f a:Nat}{r:Option D}:whM dT dB (f+1) [some (.int a),some (.int ((0:Nat):Int)),r]=.ok (.nx [some (.int ((Nat.gcd a 0:Nat):Int)),some (.int ((0:Nat):Int)),r]):=by rw[whM,Nat.gcd_zero_right];show(dT [some (.int a),some (.int ((0:Nat):Int)),r]).bind _=_;unfold dT;simp![Ad (show ¬(0:Int)<((0:Nat):Int) by rfl')]
theorem yM3{f a b:Nat}{r:Option D}(hb:0<b):whM dT dB (f+1) [some (.int a),some (.int b),r]=whM dT dB f [some (.int b),some (.int ((a%b:Nat):Int)),some (.int ((a%b:Nat):Int))]:=by
 rw[whM];have t:dT [some (.int a),some (.int b),r]=.ok true:=by unfold dT;simp![Ab (show(0:Int)<(b:Int) by rfl')]
 rw[t,Res.bind_ok,Ae rfl,vX8 a b hb,Res.bind_ok]
theorem yJ5:∀(k a b fuel:Nat)(r:Option D),b<2^k->2*k<fuel->∃r',whM dT dB fuel [some (.int a),some (.int b),r]=.ok (.nx [some (.int ((Nat.gcd a b:Nat):Int)),some (.int ((0:Nat):Int)),r'])
 |0,a,b,fuel,r,hb,hf=>by
  obtain rfl:b=0:=by simp at hb;exact hb
  obtain⟨f,rfl⟩:∃f,fuel=f+1:=⟨fuel-1,by rfl'⟩;exact⟨r,zT7⟩
 |k+1,a,b,fuel,r,hb,hf=>by
  obtain⟨f,rfl⟩:∃f,fuel=f+1+1:=⟨fuel-2,by rfl'⟩;rcases Dd b with z|z;subst z;exact⟨r,zT7⟩;rw[yM3 z,yJ3 a b];rcases Dd (a%b)with y|y;rw[y];exact⟨_,zT7⟩;rw[yM3 y,yJ3 b (a%b)];refine yJ5 k _ _ f _ ?_ (by rfl');have h1:=Bq a z;have h2:=Bq b y;have h3:b%(a%b)+(a%b)<=b:=by have:=Nat.mod_add_div b (a%b);have hq:1<=b/(a%b):=Nat.div_pos (by rfl') y;have:(a%b)*1<=(a%b)*(b/(a%b)):=Dy _ hq;rfl'
  rw[Nat.pow_succ]at hb;rfl'
theorem zU6{a b:Nat}(hb:b<2^1000):qE [.int a,.int b]=.ok (.int ((Nat.gcd a b:Nat):Int)):=by show(qP [some (.int a),some (.int b),none]).bind (fin false)=_;unfold qP;obtain⟨r,e⟩:=yJ5 1000 a b 1000000 none hb (by decide);simp![e]
theorem xZ5:∀n:Nat,n<=60->∃W:Nat,M12.fac n=(W:Int)/\0<W/\W<=2^(6*n)
 |0,_=>⟨1,rfl,by decide,by decide⟩
 |n+1,h=>by obtain⟨W,e,h1,h2⟩:=xZ5 n (by rfl');refine⟨W*(n+1),by rw[M12.fac,e];push_cast;rfl,Nat.mul_pos h1 (by rfl'),?_⟩;rw[show 6*(n+1)=6*n+6 by rfl',Dq];exact DL h2 (by rfl')
theorem xX8{F:Nat->Int}{B:Int}:∀{n:Nat},(∀i,i<n->F i<=B)->M12.sumN F n<=(n:Int)*B
 |0,_=>by simp[M12.sumN]
 |n+1,h=>by rw[M12.sumN];have h1:=xX8 (n:=n) fun i hi=>h i (by rfl');have h2:=h n (by rfl');rw[show((n+1:Nat):Int)=(n:Int)+1 by rfl',Int.add_mul,Int.one_mul];rfl'
theorem xB8{n o:Nat}{v:Nat->Int}{B:Int}(hn:n<=60)(hB:0<=B)(h:∀q,q<=n->v q<=B)(q:Nat)(hq:q<=n):M12.stepM n o v q<=128*B:=by
 unfold M12.stepM;have h1:(if q+1<=n then((q:Int)+1)*v (q+1)else 0)<=60*B:=by split;rename_i hh;exact CI (Int.mul_le_mul_of_nonneg_left (h (q+1) hh) (by rfl')) (CY (by rfl') hB);rfl'
 have h2:M12.sumN (fun p=>if M12.inWin o q p then v p else 0) (n+1)<=((n+1:Nat):Int)*B:=xX8 fun p hp=>by show(if M12.inWin o q p then v p else 0)<=B;split;exact h p (by rfl');exact hB
 have h3:((n+1:Nat):Int)*B<=61*B:=CY (by rfl') hB;rfl'
theorem yA1{n:Nat}(hn:n<=60):∀(os:C5)(q:Nat),q<=n->M12.runM n os.reverse q<=128^os.length
 |[],q,_=>by show M12.e0 q<=1;unfold M12.e0;split<;>decide
 |o::os,q,hq=>by rw[List.reverse_cons,M12.zQ6,Aw,Int.pow_succ,Int.mul_comm];exact xB8 hn (Int.pow_nonneg (by decide)) (fun q hq=>yA1 hn os q hq) q hq
theorem yC8(n:Nat):∀(os:C5)(q:Nat),0<=M12.runM n os.reverse q
 |[],q=>by show 0<=M12.e0 q;unfold M12.e0;split<;>decide
 |o::os,q=>by
  have ih:=yC8 n os;rw[List.reverse_cons,M12.zQ6];unfold M12.stepM;have h2:0<=M12.sumN (fun p=>if M12.inWin o q p then M12.runM n os.reverse p else 0) (n+1):=zL1 fun p _=>by show 0<=(if M12.inWin o q p then M12.runM n os.reverse p else 0);split;exact ih p;exact CZ _
  have h1:0<=(if q+1<=n then((q:Int)+1)*M12.runM n os.reverse (q+1)else 0):=by split;exact DO (by rfl') (ih _);exact CZ _
  rfl'
theorem xB2{n:Nat}(q:Opn n ops)(h2:n<=60):∃F:Nat,M12.runM n ((sortI ops).map Int.toNat) 0=(F:Int)/\F<2^421:=by
 have p:=yC8 n ((sortI ops).map Int.toNat).reverse 0;rw[List.reverse_reverse]at p;have l:=yA1 h2 ((sortI ops).map Int.toNat).reverse 0 (by rfl');rw[List.reverse_reverse,List.length_reverse,Aa,(jN ops).length_eq,q.len]at l;refine⟨(M12.runM n ((sortI ops).map Int.toNat) 0).toNat,by rfl',?_⟩;have e:(128:Int)^n<=2^420:=by
  have:(128:Nat)^n<=2^420:=by rw[show(128:Nat)=2^7 by decide,<-Nat.pow_mul];exact Bw (by decide) (by rfl')
  exact_mod_cast this
 have e2:(2:Int)^420<2^421:=by decide
 have e3:((2^421:Nat):Int)=(2:Int)^421:=by push_cast;rfl
 have:((M12.runM n ((sortI ops).map Int.toNat) 0).toNat:Int)<((2^421:Nat):Int):=by rw[e3];rfl'
 exact_mod_cast this
theorem xO9{d:Nat}(h:0<d)(h2:d<2^1000):DivOk (d:Int):=by refine⟨by rfl',?_⟩;rw[DF];exact Eg ((DG (by rfl')).mpr h2) (by decide)
theorem wV2{n F W:Nat}(q:Opn n ops)(h1:1<=n)(h2:n<=60)(hF:M12.runM n ((sortI ops).map Int.toNat) 0=(F:Int))(hF2:F<2^421)(hW:M12.fac n=(W:Int))(hW1:0<W)(hW2:W<=2^(6*n)):dA [tI ops]=.ok (.tuple [.int ((F/Nat.gcd W F:Nat):Int),.int ((W/Nat.gcd W F:Nat):Int)]):=by show(aI [some (tI ops),none,none,none]).bind (fin false)=_;unfold aI;have b1:F<2^1000:=AA hF2 (Bw (by decide) (by decide));have eg:=zU6 (a:=W) (b:=F) b1;have gp:0<Nat.gcd W F:=Nat.gcd_pos_of_pos_left _ hW1;have gl:Nat.gcd W F<2^1000:=Bo (Nat.gcd_le_left _ hW1) (Bo hW2 (CJ (by decide) (by rfl')));have dv:=xO9 gp gl;have em:=yE9 q h1 h2;rw[hF]at em;have eo:=yY2 h1 h2;rw[hW]at eo;simp![em,Aa,q.len,eo,eg,fdivO,Ae dv];rfl
def chk(p:Int):Int->List Int->Bool
 |_,[]=>true
 |l,x::xs=>decide (l<=x/\x<p)&&chk p (x+1) xs
theorem xW2{p:Int}:∀(xs:C6)(l:Int),l<=p->chk p l xs=true->l+(xs.length:Int)<=p
 |[],l,h,_=>by simpa using h
 |x::xs,l,h,c=>by rw[chk,AL,decide_eq_true_iff]at c;have:=xW2 xs (x+1) (by rfl') c.2;rw[Aw];rfl'
def cgB:B6:=(sQ (sIf (tNt (b3 leI ltI (eV 2) (eV 3) (eV 0))) (sRa "BadGroup" (aC (eC (.str "a group is a rising tuple of unlike people")) aN)) sN) (sS 2 (e2 addI (eV 3) (eC (.int 1)))))
theorem wU4{p:Int}{g:Option D}:∀(xs:C6)(l:Int)(y:Option D),chk p l xs=true->∃l' y',L3.forM (gN 3) cgB (xs.map PyData.int) [some (.int p),g,some (.int l),y]=.ok (.nx [some (.int p),g,some (.int l'),y'])
 |[],l,y,_=>⟨l,y,rfl⟩
 |x::xs,l,y,c=>by
  rw[chk,AL,decide_eq_true_iff]at c;obtain⟨l',y',e⟩:=wU4 (g:=g) xs (x+1) (some (.int x)) c.2;refine⟨l',y',?_⟩;have t:cgB [some (.int p),g,some (.int l),some (.int x)]=.ok (.nx [some (.int p),g,some (.int (x+1)),some (.int x)]):=by unfold cgB;simp![Ab c.1.1,Ab c.1.2]
  show(Res.lft (gN 3 (.int x) [some (.int p),g,some (.int l),y])).bind _=_;simp![t];exact e
theorem wU3{p:Int}{g:Option D}:∀(xs:C6)(l:Int)(y:Option D),chk p l xs=false->L3.forM (gN 3) cgB (xs.map PyData.int) [some (.int p),g,some (.int l),y]=.ex "BadGroup"
 |[],l,y,c=>by cases c
 |x::xs,l,y,c=>by
  have z1:(if ([PyData.str "a group is a rising tuple of unlike people"]:D0).length<=sizeLine then(Res.ex "BadGroup":Res Out)else .no)=.ex "BadGroup":=Ae (by decide);show(Res.lft (gN 3 (.int x) [some (.int p),g,some (.int l),y])).bind _=_;by_cases h1:l<=x;by_cases h2:x<p;rw[chk,Ab ⟨h1,h2⟩,Bool.true_and]at c;have e:=wU3 (g:=g) xs (x+1) (some (.int x)) c;have t:cgB [some (.int p),g,some (.int l),some (.int x)]=.ok (.nx [some (.int p),g,some (.int (x+1)),some (.int x)]):=by unfold cgB;simp![Ab h1,Ab h2]
  simp![t];exact e;have t:cgB [some (.int p),g,some (.int l),some (.int x)]=.ex "BadGroup":=by unfold cgB;simp -implicitDefEqProofs only[vM,wR,uN,uW,vG,vJ,vA,eV0,eVs,uX,wU,Res.bind_ok,Res.bind_ex,Res.lft_some,Ab h1,Ad h2,if_true,if_false,BQ,BE,AT,z1]
  simp![t];have t:cgB [some (.int p),g,some (.int l),some (.int x)]=.ex "BadGroup":=by unfold cgB;simp -implicitDefEqProofs only[vM,wR,uN,uW,vG,vJ,vA,eV0,eVs,uX,wU,Res.bind_ok,Res.bind_ex,Res.lft_some,Ad h1,if_true,if_false,BQ,BE,AT,z1]
  simp![t]
theorem zU4:kI=(sQ (sS 2 (eC (.int 0))) (sF (iS (eV 1)) (gN 3) cgB)):=rfl
theorem zB6{p:Int}{xs:C6}(h:chk p 0 xs=true):kH [.int p,tI xs]=.ok .none:=by show(kI [some (.int p),some (tI xs),none,none]).bind (fin false)=_;rw[zU4];obtain⟨l',y',e⟩:=wU4 (g:=some (tI xs)) xs 0 none h;simp![e]
theorem zA2{p:Int}{xs:C6}(h:chk p 0 xs=false):kH [.int p,tI xs]=.ex "BadGroup":=by show(kI [some (.int p),some (tI xs),none,none]).bind (fin false)=_;rw[zU4];simp![wU3 (g:=some (tI xs)) xs 0 none h]
theorem zS9{p:Int}{s:Nat}(h1:0<=p)(h2:p<=1000)(hs:s<=1000):kO [.int p,.int s]=.ok (.int (M12.ff p s)):=by show(aJ [some (.int p),some (.int s),none,none]).bind (fin false)=_;unfold aJ;simp![gH hs];refine vL (fun i ρ=>∃y,ρ=[some (.int p),some (.int s),some (.int (M12.ff p i)),y]) ⟨none,rfl⟩ ?_ ?_;rintro i d ρ hd ⟨y,rfl⟩;obtain⟨hi,rfl⟩:=zZ7 hd;have m1:=vR (i:=M12.ff p i) (j:=p-(i:Int)) (MulOk.right (by rfl') (by rfl'));refine⟨_,_,rfl,?_,some (.int (i:Int)),rfl⟩;simp![m1];rfl;rintro ρ ⟨y,rfl⟩;rw[Aa,Aq];simp -implicitDefEqProofs only[(evA)]
theorem xG8{c j:Nat}(hc:c<=60)(hj:j<=60):Small (M12.ff (c:Int) j):=by have:=M12.zA5 (c+1) j (by rfl') (by rfl');rw[show((c+1:Nat):Int)-1=(c:Int) by rfl']at this;exact⟨367,by decide,this⟩
def gsum(ms:C6)(s:Nat):Int:=((List.range ms.length).map fun(c:Nat)=>ms.getD c 0*M12.ff (c:Int) s).sum
theorem xC1(ms:C6):enumD (ms.map PyData.int)=(List.range ms.length).map fun(i:Nat)=>PyData.tuple [.int (i:Int),.int (ms.getD i 0)]:=by unfold enumD;rw[Aa];refine Bb fun i hi=>?_;have hi:=AH.mp hi;simp only[Ax,Al,Ag hi,Bn,Dt]
theorem zR7{n s:Nat}{ms:C6}(hl:ms.length=n+1)(hn:n<=60)(hs:s<=n)(hm:∀v∈ms,Small v):jD [lI ms,.int s]=.ok (.int (gsum ms s/M12.ff (n:Int) s)):=by
 show(jF [some (lI ms),some (.int s),none]).bind (fin false)=_;unfold jF;have cc:eComp2X (zZ9 (eV 0)) tYes (e2 mulI (eV 1) (eF kO (aC (eV 0) (aC (eV 2) aN)))) [1] [some (lI ms),some (.int s),none]=.ok (lI ((List.range ms.length).map fun(c:Nat)=>ms.getD c 0*M12.ff (c:Int) s)):=by rw[xR6 (fun i:Nat=>PyData.int (i:Int)) (fun i:Nat=>PyData.int (ms.getD i 0)) (fun i:Nat=>PyData.int (ms.getD i 0*M12.ff (i:Int) s)) (List.range ms.length) (by simp![xC1]) (by rw[Aq];rfl') fun i hi=>by have hi:=AH.mp hi;have mm:ms.getD i 0∈ms:=(by rw[List.getD,Ag hi];exact CV hi);have m1:=vR (i:=ms.getD i 0) (j:=M12.ff (i:Int) s) (.inr ⟨hm _ mm,xG8 (by rfl') (by rfl')⟩);show e2 mulI _ _ [some (.int (i:Int)),some (.int (ms.getD i 0)),some (.int s)]=_;simp![zS9 (p:=(i:Int)) (s:=s) (by rfl') (by rfl') (by rfl'),m1]];simp only[lI,Ar,Dk]
 have hd:DivOk (M12.ff (n:Int) s):=by have p0:=yH1 n s hs;refine⟨p0,?_⟩;have:=M12.zA5 (n+1) s (by rfl') (by rfl');rw[show((n+1:Nat):Int)-1=(n:Int) by rfl']at this;exact Eg ((DG (by rfl')).mpr this) (by decide)
 have hl':(ms.map PyData.int).length=n+1:=by rw[Aa,hl]
 simp![cc,xZ6,hl',show((n+1:Nat):Int)-1=(n:Int) by rfl',zS9 (p:=(n:Int)) (s:=s) (by rfl') (by rfl') (by rfl'),fdivO,Ae hd];rfl
theorem yI2{n:Nat}{k:Int}(hn:n<=60):∀i,i<=n+1->∀v∈Tl n k i,Small v
 |0,_,v,hv=>nomatch hv
 |i+1,hi,v,hv=>by
  have hv:v∈Tl n k i++[M12.bin n i*(M12.mbl 1 k n).getD i 0*(M12.mbl (k+1) n n).getD (n-i) 0]:=hv;rcases AE.mp hv with hv|hv;exact yI2 hn i (by rfl') v hv;rw[Bk]at hv;rw[hv,M12.wM 1 k n i (by rfl'),M12.wM (k+1) n n (n-i) (by rfl')];obtain⟨b1,l1,h1⟩:=zB1 (m:=i) (i:=i) (l:=1) (k:=k) hn (by rfl');refine⟨48063,by decide,?_⟩;have a:=M12.zF6 (k+1) n (n-i) (by rfl');have a1:(M12.bin n i*M12.G 1 k i).natAbs<2^(61+24001):=by have h:=zE2 (m:=i) hn;have h0:=M12.jJ n i;have a:(M12.bin n i).natAbs<2^61:=(by have:((M12.bin n i).natAbs:Int)<((2^61:Nat):Int):=(by rw[Int.natAbs_of_nonneg h0];exact_mod_cast h);exact_mod_cast this);rw[DM,Dq];exact Nat.mul_lt_mul'' a (M12.zF6 1 k i (by rfl'))
  rw[DM,show(48063:Nat)=(61+24001)+24001 by decide,Dq];exact Nat.mul_lt_mul'' a1 a
theorem yY5{n:Nat}{k:Int}{xs:C6}(hn:n<=60)(hk:0<=k)(hx:chk (n:Int) 0 xs=true):vX [.int n,.int k,tI xs]=.ok (.int (gsum (Tl n k (n+1)) xs.length/M12.ff (n:Int) xs.length)):=by show(wA [some (.int n),some (.int k),some (tI xs),none]).bind (fin false)=_;unfold wA;have lx:=xW2 xs 0 (by rfl') hx;have lt:(Tl n k (n+1)).length=n+1:=M12.gR _ _ _ _;have hl:(xs.map PyData.int).length=xs.length:=Aa ..;simp![aY hn hk,zB6 hx,hl,zR7 (n:=n) (s:=xs.length) lt hn (by rfl') (yI2 hn (n+1) (Ac _))]
theorem pz:PyData.strOk ""=true/\PyData.strOk "none"=true/\PyData.strOk " / "=true/\PyData.strOk "rings"=true/\PyData.strOk "find"=true/\PyData.strOk "need"=true/\PyData.strOk "help"=true:=by decide+kernel
theorem zX7:∀b,b<61->10∉tl (numT b)/\45∉tl (numT b)/\47∉tl (numT b):=by decide+kernel
theorem qK{c:Nat}{y:Str}(hy:c∉tl y):∀ts:C4,(∀t∈ts,c∉tl t)->c∉tl (Str.join y ts)
 |[],_=>fun z=>by cases z
 |[t],h=>h t Af
 |t::u::r,h=>by rw[vT,zE,zE];intro z;rcases AE.mp z with z|z;rcases AE.mp z with z|z;exact h t Af z;exact hy z;exact qK hy (u::r) (fun x hx=>h x (Ak _ hx)) z
theorem yY9{c:Nat}(hc:c=10\/c=45\/c=47){r:C5}(hr:∀x∈r,x<61):c∉tl (rT r):=by
 refine qK (by rcases hc with rfl|rfl|rfl<;>decide+kernel) _ fun t ht=>?_;obtain⟨x,hx,rfl⟩:=Ay.mp ht;have:=zX7 x (hr x hx);rcases hc with rfl|rfl|rfl
 exact this.1;exact this.2.1;exact this.2.2
theorem zU9{c:Nat}(hc:c=10\/c=45\/c=47){n:Nat}{xs:C6}(q:Rs (rgs n xs n)):c∉tl (ordT n xs):=by
 have l:∀y∈(["","(",")"]:C4),c∉tl y:=by rcases hc with rfl|rfl|rfl<;>decide+kernel
 refine qK (l _ (by simp)) _ fun t ht=>?_;obtain⟨r,hr,rfl⟩:=Ay.mp ht;unfold wT;rw[zE,zE];intro z;rcases AE.mp z with z|z
 rcases AE.mp z with z|z;exact l "(" (by simp) z;exact yY9 hc (q.ring r hr).1 z;exact l ")" (by simp) z
theorem wS4{n:Nat}{xs:C6}(q:Rs (rgs n xs n)):(ordT n xs).length<=12120:=(yI6 q).2
theorem strEq{a:Str}(ha:PyData.strOk a=true):eqD (.str a) (.str a)=some true:=by rw[cU ha ha,Ab rfl]
theorem strNe{a b:Str}(ha:PyData.strOk a=true)(hb:PyData.strOk b=true)(h:a≠b):eqD (.str a) (.str b)=some false:=by rw[cU ha hb,Ad h]
structure Ask(w n:Nat)(xs:C6)(os:C5)(k:Nat):Prop where
 w4:w<4
 ord:Ord n xs
 n1:1<=n
 n60:n<=60
 opn:Opn n (rI' os)
 ol:os.length=n
 oo:∀x∈os,x<61
 k1:1<=k
 kn:k<=n
def hN(w:Nat)(os:C5)(k:Nat):C5:=if w=0 then[]else if w=1 then os else[k]
def hW(w:Nat):Str:=if w=0 then"rings" else if w=1 then"find" else if w=2 then"need" else"help"
section
variable {w n k:Nat}{xs:C6}{os:C5}
theorem Ask.rs(A:Ask w n xs os k):Rs (rgs n xs n):=aZ A.ord A.n1 A.n60
end
def tON(s:Str):Str:=if s="" then"none" else s
def pT(q:Nat×Nat):Str:=Str.join "-" [numT q.1,numT q.2]
def hpT(L:List (Nat×Nat)):Str:=Str.join " " (L.map pT)
def lens(n:Nat)(xs:C6):C5:=(rgs n xs n).map List.length
def fl(n:Nat)(xs:C6)(os:C5):C5:=(List.range n).filter (fd n xs (rI' os))
def ansT(w n:Nat)(xs:C6)(os:C5)(k:Nat):Str:=if w=0 then rT (lens n xs)else if w=1 then tON (rT (fl n xs os))else if w=2 then numT (ND n k xs)else tON (hpT (told n k xs))
theorem xJ1{s:Str}(h:PyData.strOk s=true):jM [.str s]=.ok (.str (tON s)):=by show(gC [some (.str s)]).bind (fin false)=_;unfold gC tON;by_cases e:s="";rw[Ae e,e];simp![strEq pz.1];rw[An e];simp![strNe h pz.1 e]
theorem xE2{s:Str}(h:PyData.strOk s=true)(l:s.length<=500)(f:10∉tl s):(tON s).length<=500/\10∉tl (tON s)/\PyData.strOk (tON s)=true:=by unfold tON;split;exact⟨by decide,by decide+kernel,pz.2.1⟩;exact⟨l,f,h⟩
theorem xU4{r:C5}(hr:∀x∈r,x<61):PyData.strOk (rT r)=true:=by refine cI (by decide+kernel) _ fun t ht=>?_;obtain⟨x,hx,rfl⟩:=Ay.mp ht;exact(uK x (hr x hx)).2.2.2.2
theorem vY3{q:Nat×Nat}(h1:q.1<61)(h2:q.2<61):(pT q).length<=5/\PyData.strOk (pT q)=true/\45∈tl (pT q)/\32∉tl (pT q)/\10∉tl (pT q):=by
 have a:=uK q.1 h1;have b:=uK q.2 h2;have e:pT q=numT q.1++"-"++numT q.2:=rfl;have m:("-":Str).length=1:=rfl;have tm:tl ("-":Str)=[45]:=rfl;have f:∀c,c∉tl (numT q.1)->c∉tl (numT q.2)->c≠45->c∉tl (pT q):=fun c c1 c2 c3 z=>by rw[e,zE,zE,tm]at z;rcases AE.mp z with z|z;rcases AE.mp z with z|z;exact c1 z;exact c3 (Bk.mp z);exact c2 z
 refine⟨?_,?_,?_,f 32 a.2.2.1 b.2.2.1 (by decide),f 10 (zX7 q.1 h1).1 (zX7 q.2 h2).1 (by decide)⟩;rw[e,Ap,Ap,m];have:=a.1.1;have:=b.1.1;rfl';rw[e];exact jR (jR a.2.2.2.2 (by decide+kernel)) b.2.2.2.2;rw[e,zE,zE,tm];simp
section
variable {w n k:Nat}{xs:C6}{os:C5}
theorem Ask.told(A:Ask w n xs os k):(told n k xs).length<=60/\∀q∈told n k xs,q.1<q.2/\q.2<n/\q.1<61/\q.2<61:=by have h:=yO1 (k:=k) A.ord (rgs n xs n).length;rw[BU]at h;refine⟨As h A.n60,fun q hq=>?_⟩;have a:=xF6 A.ord A.k1 q hq;have b:=xV5 A.ord A.k1 q hq;have:=A.n60;exact⟨a,b.2.1,by have:=b.1;rfl',by have:=b.2.1;rfl'⟩
theorem wU6(A:Ask w n xs os k):joinD " " (.list (((MR.told n k xs).map pT).map PyData.str))=some (.str (hpT (MR.told n k xs)))/\(hpT (MR.told n k xs)).length<=500/\PyData.strOk (hpT (MR.told n k xs))=true/\10∉tl (hpT (MR.told n k xs)):=by
 obtain⟨h1,h2⟩:=A.told;have each:∀t∈(MR.told n k xs).map pT,t.length<=5/\PyData.strOk t=true/\10∉tl t:=fun t ht=>by obtain⟨q,hq,rfl⟩:=Ay.mp ht;obtain⟨_,_,b1,b2⟩:=h2 q hq;have:=vY3 b1 b2;exact⟨this.1,this.2.1,this.2.2.2.2⟩
 refine⟨uB (zN2 (by decide) (by rw[Aa];exact h1) fun t ht=>As (each t ht).1 (by decide)).1,?_,cI (by decide+kernel) _ fun t ht=>(each t ht).2.1,qK (by decide+kernel) _ fun t ht=>(each t ht).2.2⟩;have a:=Dg " " ((MR.told n k xs).map pT);have b:=DN (B:=5) ((MR.told n k xs).map pT) fun t ht=>(each t ht).1;have c:(" ":Str).length=1:=rfl;rw[Aa]at a b;rw[c]at a;unfold hpT;rfl'
theorem Ask.lens(A:Ask w n xs os k):(∀x∈lens n xs,x<61)/\(lens n xs).length<=60:=by refine⟨fun x hx=>?_,by unfold K55.lens;rw[Aa];exact A.rs.few⟩;obtain⟨r,hr,rfl⟩:=Ay.mp hx;have:=(A.rs.ring r hr).2.1;rfl'
theorem Ask.fl(A:Ask w n xs os k):(∀x∈fl n xs os,x<61)/\(fl n xs os).length<=60:=by have:=A.n60;refine⟨fun x hx=>?_,?_⟩;have:=AH.mp (BY.mp hx).1;rfl';have:=DT (fd n xs (rI' os)) (List.range n);rw[Aq]at this;unfold K55.fl;rfl'
theorem Ask.nd(A:Ask w n xs os k):ND n k xs<61:=by have:=wK2 A.ord A.n1 A.k1;have h:=Nat.le_mul_of_pos_left (ND n k xs) A.k1;have:=A.n60;rfl'
theorem wB1(A:Ask w n xs os k):(ansT w n xs os k).length<=500/\10∉tl (ansT w n xs os k)/\PyData.strOk (ansT w n xs os k)=true:=by unfold ansT;split;exact⟨As (zS4 A.lens.1 A.lens.2) (by decide),yY9 (.inl rfl) A.lens.1,xU4 A.lens.1⟩;split;exact xE2 (xU4 A.fl.1) (As (zS4 A.fl.1 A.fl.2) (by decide)) (yY9 (.inl rfl) A.fl.1);split;have h:=uK _ A.nd;exact⟨As h.1.1 (by decide),(zX7 _ A.nd).1,h.2.2.2.2⟩;obtain⟨_,h1,h2,h3⟩:=wU6 A;exact xE2 h2 h1 h3
theorem yN9{q:Nat×Nat}(h1:q.1<61)(h2:q.2<61):qW [tI (pL q)]=.ok (.str (pT q)):=by
 have hr:∀x∈[q.1,q.2],x<61:=fun x hx=>by rcases AF.mp hx with rfl|hx;exact h1;rw[Bk.mp hx];exact h2
 have cc:=zJ7 (d:=tI (pL q)) (r:=[q.1,q.2]) (.inl rfl) hr (by simp);have ej:joinD "-" (.list (([q.1,q.2].map numT).map PyData.str))=some (.str (pT q)):=uB (zN2 (by decide) (by simp) fun t ht=>by obtain⟨x,hx,rfl⟩:=Ay.mp ht;have:=(uK x (hr x hx)).1.1;rfl').1;show(aM [some (tI (pL q))]).bind (fin false)=_;unfold aM;simp![yQ,yV,cc,ej]
theorem yM8(A:Ask w n xs os k):fM [tI xs,.int (k:Int)]=.ok (.str (tON (hpT (MR.told n k xs)))):=by
 obtain⟨h1,h2⟩:=A.told;obtain⟨hj,hl,hs,_⟩:=wU6 A;have cc:eCompX (iS (eF qX (aC (eV 0) (aC (eV 1) aN)))) tYes (eF qW (aC (eV 0) aN)) [] [some (tI xs),some (.int (k:Int))]=.ok (.list (((MR.told n k xs).map pT).map PyData.str)):=by rw[Ar];refine xT (fun q:Nat×Nat=>tI (pL q)) (fun q=>PyData.str (pT q)) (MR.told n k xs) (by simp![yF2 A.ord A.n60 A.k1 A.kn];rw[Ar];rfl) (by rfl') fun q hq=>?_;show eF qW (aC (eV 0) aN) [some (tI (pL q))]=_;simp![yN9 (h2 q hq).2.2.1 (h2 q hq).2.2.2]
 show(jA [some (tI xs),some (.int (k:Int))]).bind (fin false)=_;unfold jA;simp![yQ,yV,cc,hj,xJ1 hs]
theorem wY9(A:Ask w n xs os k){f:List Nat->D}(hf:∀r,f r=tI (rI' r)\/f r=lI (rI' r))(h:mi ρ=.ok ((rgs n xs n).map f)):eCompX mi tYes (eB lenD (aC (eV 0) aN)) [] ρ=.ok (lI (rI' (lens n xs))):=by
 have e:lI (rI' (lens n xs))=.list ((rgs n xs n).map fun r=>PyData.int ((r.length:Nat):Int)):=by unfold lI rI' lens;rw[Ar,Ar];rfl
 rw[e];refine xT f (fun r=>PyData.int ((r.length:Nat):Int)) (rgs n xs n) h (by have:=A.rs.few;rfl') fun r hr=>?_;have hl:((rI' r).map PyData.int).length=r.length:=by rw[Aa,yL]
 show eB lenD (aC (eV 0) aN) [some (f r)]=_;rcases hf r with z|z;rw[z];simp![hl];rw[z];simp![hl]
theorem wK9(A:Ask w n xs os k):yE [.str (hW w),tI (rI' (hN w os k)),tI xs]=.ok (.str (ansT w n xs os k)):=by
 obtain⟨z1,z2,z3,z4,z5,z6,z7⟩:=pz;have lt:∀r:C5,((rI' r).map PyData.int).length=r.length:=fun r=>by rw[Aa,yL]
 have ew:hW w="rings"\/hW w="find"\/hW w="need"\/hW w="help":=by rcases (show w=0\/w=1\/w=2\/w=3 by have:=A.w4;rfl')with rfl|rfl|rfl|rfl;exact .inl rfl;exact .inr (.inl rfl);exact .inr (.inr (.inl rfl));exact .inr (.inr (.inr rfl))
 show(xW [some (.str (hW w)),some (tI (rI' (hN w os k))),some (tI xs)]).bind (fin false)=_;unfold xW;rcases (show w=0\/w=1\/w=2\/w=3 by have:=A.w4;rfl')with rfl|rfl|rfl|rfl;have er:=kK A.ord (show n<=1000 by have:=A.n60;rfl');have cc:=wY9 A (mi:=iS (eF wP (aC (eV 2) aN))) (f:=fun r=>tI (rI' r)) (ρ:=[some (.str "rings"),some (tI (rI' [])),some (tI xs)]) (fun r=>.inl rfl) (by simp![er];unfold ringsD;rw[Ar];rfl);have l0:((rI' ([]:C5)).map PyData.int).length=0:=rfl;show(sQ _ _ [some (.str "rings"),some (tI (rI' [])),some (tI xs)]).bind (fin false)=.ok (.str (rT (lens n xs)));simp![strEq z4,l0,yR,show((0:Nat):Int)=0 from rfl,decide_true,cc,gO (.inr rfl) A.lens.1 A.lens.2];have ef:=xV8 A.ord A.opn A.n1 A.n60;have eF':tI (FN n xs (rI' os))=tI (rI' (fl n xs os)):=rfl;rw[eF']at ef;show(sQ _ _ [some (.str "find"),some (tI (rI' os)),some (tI xs)]).bind (fin false)=.ok (.str (tON (rT (fl n xs os))));simp![strNe z5 z4 (by decide+kernel),strEq z5,ef,gO (.inl rfl) A.fl.1 A.fl.2,xJ1 (xU4 A.fl.1)];have en:=wQ4 A.ord A.n60 A.k1 A.kn;have es:strOfD [.int ((ND n k xs:Nat):Int)]=some (.str (numT (ND n k xs))):=Ae (uK _ A.nd).2.2.2.1;have a0:atI ((rI' [k]).map PyData.int) 0=some (.int (k:Int)):=rfl;have l1:((rI' [k]).map PyData.int).length=1:=rfl;show(sQ _ _ [some (.str "need"),some (tI (rI' [k])),some (tI xs)]).bind (fin false)=.ok (.str (numT (ND n k xs)));simp![strNe z6 z4 (by decide+kernel),strNe z6 z5 (by decide+kernel),strEq z6,l1,yR,show((1:Nat):Int)=1 from rfl,decide_true,a0,en,es];have eh:=yM8 A;have a0:atI ((rI' [k]).map PyData.int) 0=some (.int (k:Int)):=rfl;have l1:((rI' [k]).map PyData.int).length=1:=rfl;show(sQ _ _ [some (.str "help"),some (tI (rI' [k])),some (tI xs)]).bind (fin false)=.ok (.str (tON (hpT (MR.told n k xs))));simp![strNe z7 z4 (by decide+kernel),strNe z7 z5 (by decide+kernel),strNe z7 z6 (by decide+kernel),strEq z7,l1,yR,show((1:Nat):Int)=1 from rfl,decide_true,a0,eh]
end
theorem pn:PyData.strOk "share"=true/\PyData.strOk "good"=true/\PyData.strOk "goodorder"=true/\PyData.strOk "group"=true:=by decide+kernel
theorem yS6{n k N:Nat}(h1:1<=n)(h2:n<=60)(hN:N<gn k n):∃xs,Ord n xs/\yO [.str "goodorder",tI (rI' [n,k,N])]=.ok (.str (ordT n xs)):=by obtain⟨z1,z2,z3,z4⟩:=pn;obtain⟨xs,o,T,e⟩:=xP6 h1 (show n<=60 by rfl') hN;refine⟨xs,o,?_⟩;have l3:((rI' [n,k,N]).map PyData.int).length=3:=rfl;have a0:atI ((rI' [n,k,N]).map PyData.int) 0=some (.int (n:Int)):=rfl;have a1:atI ((rI' [n,k,N]).map PyData.int) 1=some (.int (k:Int)):=rfl;have a2:atI ((rI' [n,k,N]).map PyData.int) 2=some (.int (N:Int)):=rfl;show(yW [some (.str "goodorder"),some (tI (rI' [n,k,N]))]).bind (fin false)=_;unfold yW;simp![strNe z3 z1 (by decide+kernel),strNe z3 z2 (by decide+kernel),strEq z3,l3,yR,show((3:Nat):Int)=3 from rfl,decide_true,a0,a1,a2,e,dO o h1 (show n<=60 by rfl')]
theorem yV1(p:Int):∀(m a:Nat),(a:Int)+(m:Int)<=p->chk p (a:Int) ((List.range' a m).map fun(i:Nat)=>(i:Int))=true
 |0,_,_=>rfl
 |m+1,a,h=>by
  rw[List.range'_succ,AB];have ih:=yV1 p m (a+1) (by rfl');rw[chk];have e:(((a+1:Nat):Nat):Int)=(a:Int)+1:=by rfl'
  rw[e]at ih;rw[AL];exact⟨Ab ⟨CZ _,by rfl'⟩,ih⟩
theorem wX2{n k:Nat}(h2:n<=60):yO [.str "good",tI (rI' [n,k])]=.ok (.str (nT (gn k n))):=by obtain⟨z1,z2,z3,z4⟩:=pn;have l2:((rI' [n,k]).map PyData.int).length=2:=rfl;have a0:atI ((rI' [n,k]).map PyData.int) 0=some (.int (n:Int)):=rfl;have a1:atI ((rI' [n,k]).map PyData.int) 1=some (.int (k:Int)):=rfl;have e:=yM7 (n:=n) (k:=(k:Int)) (by rfl') (by rfl');rw[uA]at e;have so:strOfD [.int ((gn k n:Nat):Int)]=some (.str (nT (gn k n))):=wE8 (wJ8 h2);show(yW [some (.str "good"),some (tI (rI' [n,k]))]).bind (fin false)=_;unfold yW;simp![strNe z2 z1 (by decide+kernel),strEq z2,l2,yR,show((2:Nat):Int)=2 from rfl,decide_true,a0,a1,e,so]
theorem xJ6{n:Nat}{os:C5}(q:Opn n (rI' os))(h1:1<=n)(h2:n<=60):∃a b:Nat,a<10^400/\b<10^400/\yO [.str "share",tI (rI' os)]=.ok (.str (Str.join " of " [nT a,nT b])):=by
 obtain⟨z1,z2,z3,z4⟩:=pn;obtain⟨W,hW,hW1,hW2⟩:=xZ5 n (by rfl');obtain⟨F,hF,hF2⟩:=xB2 q (show n<=60 by rfl');have es:=wV2 q h1 (show n<=60 by rfl') hF hF2 hW hW1 hW2;have la:=Ee F (Nat.gcd W F);have lb:=Ee W (Nat.gcd W F);have p1:(2:Nat)^421<10^400:=by decide+kernel
 have p2:(2:Nat)^(6*n)<=2^421:=Bw (by decide) (by rfl');refine⟨F/Nat.gcd W F,W/Nat.gcd W F,by rfl',by rfl',?_⟩;generalize F/Nat.gcd W F=a at es la;generalize W/Nat.gcd W F=b at es lb;have na:=jO (show a<10^400 by rfl');have nb:=jO (show b<10^400 by rfl');have so:∀c,c=a\/c=b->strOfD [.int (c:Int)]=some (.str (nT c)):=fun c hc=>by rcases hc with rfl|rfl;exact Ae na.log;exact Ae nb.log
 have cc:eCompX (iS (eF dA (aC (eV 0) aN))) tYes (eB strOfD (aC (eV 0) aN)) [] [some (tI (rI' os))]=.ok (.list (([a,b].map nT).map PyData.str)):=by
  rw[Ar];refine xT (fun c:Nat=>PyData.int (c:Int)) (fun c=>PyData.str (nT c)) [a,b] (by simp![es];rfl) (show 2<=1000 by decide) fun c hc=>?_;have hc:c=a\/c=b:=by simpa using hc
  show eB strOfD (aC (eV 0) aN) [some (.int (c:Int))]=_;simp![so c hc]
 have jd:joinD " of " (.list (([a,b].map nT).map PyData.str))=some (.str (Str.join " of " [nT a,nT b])):=by
  refine uB ?_;unfold JoinOk;rw[DY (sep:=" of ") (B:=400) (texts:=[a,b].map nT) (fun t ht=>?_) (show 2*400+2*4<=16777216 by decide)];rfl;obtain⟨c,hc,rfl⟩:=Ay.mp ht;have hc:c=a\/c=b:=by simpa using hc
  rcases hc with rfl|rfl;exact na.len;exact nb.len
 have et:kA [tI (rI' os)]=.ok (.str (Str.join " of " [nT a,nT b])):=by show(qD [some (tI (rI' os))]).bind (fin false)=_;unfold qD;simp![yQ,yV,cc,jd]
 show(yW [some (.str "share"),some (tI (rI' os))]).bind (fin false)=_;unfold yW;simp![strEq z1,et]
theorem xD2{l:Int}{A B:Nat->Int}{c:Nat}(h:∀i,i<c+1->0<=A i/\A i<=B i):∀j,0<=M12.totG l A (c+1) j/\M12.totG l A (c+1) j<=M12.totG 1 B (c+1) j
 |0=>⟨CZ _,CZ _⟩
 |j+1=>by
  obtain⟨a,b⟩:=xD2 (l:=l) h j;obtain⟨p,q⟩:=h (c+1-(j+1)) (by rfl');have f:(((c+1:Nat):Int)-1)=(c:Int):=by rfl'
  have n0:0<=M12.ff (((c+1:Nat):Int)-1) j:=by rw[f,zG2];exact Cn _
  have x:=DO n0 p;have y:=Int.mul_le_mul_of_nonneg_left q n0;rw[M12.totG,M12.totG,Ae (show(1:Int)<=(j:Int)+1 by rfl')];split;rfl';rfl'
theorem wE3(l:Int)(k:Nat):∀m n,n<=m->0<=M12.G l (k:Int) n/\M12.G l (k:Int) n<=((gn k n:Nat):Int)
 |m,0,_=>⟨by rw[M12.zF9];decide,by rw[M12.zF9,xX3];decide⟩
 |m+1,n+1,h=>by rw[M12.zR5,<-uA,M12.zR5];exact xD2 (fun i hi=>by rw[uA];exact wE3 l k m i (by rfl')) _
theorem wT6{k n:Nat}(h:n<=60):gn k n<=2^360:=As (As (xP3 k n) (aD n n h)) (Bw (by decide) (by rfl'))
theorem yI3{g b:C6}{n:Nat}:∀m,∀v∈M12.tells g b n m,∃c,c<m/\v=M12.bin n c*g.getD c 0*b.getD (n-c) 0
 |0,v,h=>nomatch h
 |m+1,v,h=>by rw[M12.tells]at h;rcases AE.mp h with h|h;obtain⟨c,hc,e⟩:=yI3 m v h;exact⟨c,by rfl',e⟩;exact⟨m,by rfl',Bk.mp h⟩
theorem vY2{n k:Nat}(hn:n<=60):∀v∈Tl n (k:Int) (n+1),0<=v/\v<=2^781:=fun v hv=>by
 obtain⟨c,hc,rfl⟩:=yI3 (n+1) v hv;rw[M12.wM 1 (k:Int) n c (by rfl'),M12.wM ((k:Int)+1) n n (n-c) (by rfl'),uA];have a:=M12.jJ n c;have b:=zE2 (n:=n) (m:=c) hn;obtain⟨p,q⟩:=wE3 ((k:Int)+1) n (n-c) (n-c) (Ac _);have q2:=wT6 (k:=n) (n:=n-c) (by rfl');have g2:=wT6 (k:=k) (n:=c) (by rfl');have q3:M12.G ((k:Int)+1) (n:Int) (n-c)<=2^360:=CI q (by exact_mod_cast q2);have g3:((gn k c:Nat):Int)<=2^360:=by exact_mod_cast g2
 have x:=El (Int.le_of_lt b) g3 (Cn _) (by decide);have y:=El x q3 p (by decide);exact⟨DO (DO a (Cn _)) p,CI y (by decide+kernel)⟩
theorem yA6{α:Type}{f:α->Int}{B:Int}:∀l:List α,(∀x∈l,0<=f x/\f x<=B)->0<=(l.map f).sum/\(l.map f).sum<=(l.length:Int)*B
 |[],_=>⟨CZ _,by simp⟩
 |x::l,h=>by obtain⟨a,b⟩:=yA6 l fun y hy=>h y (Ak _ hy);have c:=h x Af;rw[AB,Cr,Aw,Int.natCast_succ,Int.add_mul,Int.one_mul];rfl'
theorem xR3{n k c:Nat}(h2:n<=60)(hc:c<=n):∃v:Nat,v<10^400/\vX [.int (n:Int),.int (k:Int),tI (rI' (List.range c))]=.ok (.int (v:Int)):=by
 have ch:chk (n:Int) 0 (rI' (List.range c))=true:=by have:=yV1 (n:Int) c 0 (by rfl');rw[<-List.range_eq_range']at this;exact this
 have eg:=yY5 (n:=n) (k:=(k:Int)) (xs:=rI' (List.range c)) h2 (by rfl') ch;rw[yL,Aq]at eg;have ml:(Tl n (k:Int) (n+1)).length=n+1:=M12.gR _ _ _ _;have s:=yA6 (B:=2^1141) (f:=fun(j:Nat)=>(Tl n (k:Int) (n+1)).getD j 0*M12.ff (j:Int) c) (List.range (Tl n (k:Int) (n+1)).length) fun j hj=>by
  have hj:=AH.mp hj;have m:(Tl n (k:Int) (n+1)).getD j 0∈Tl n (k:Int) (n+1):=by rw[List.getD,Ag hj];exact CV hj
  obtain⟨a,b⟩:=vY2 h2 _ m;have f:=aD c j (by rfl');have f2:((nf j c:Nat):Int)<=2^360:=by exact_mod_cast As f (Bw (by decide) (show 6*c<=360 by rfl'))
  show 0<=(Tl n (k:Int) (n+1)).getD j 0*M12.ff (j:Int) c/\(Tl n (k:Int) (n+1)).getD j 0*M12.ff (j:Int) c<=_;rw[zG2];exact⟨DO a (Cn _),CI (El b f2 (Cn _) (by decide)) (by decide+kernel)⟩
 rw[Aq,ml]at s;have s:0<=gsum (Tl n (k:Int) (n+1)) c/\gsum (Tl n (k:Int) (n+1)) c<=((n+1:Nat):Int)*2^1141:=by unfold gsum;rw[ml]at *;exact s
 have fp:=yH1 n c hc;have q0:=Int.ediv_nonneg s.1 (Int.le_of_lt fp);have q1:=Int.ediv_le_self (M12.ff (n:Int) c) s.1;have b1:((n+1:Nat):Int)*2^1141<=61*2^1141:=CY (by rfl') (by decide);have b2:(61:Int)*2^1141<((10^400:Nat):Int):=by decide+kernel
 generalize gsum (Tl n (k:Int) (n+1)) c/M12.ff (n:Int) c=x at q0 q1 eg;obtain⟨v,rfl⟩:=Int.eq_ofNat_of_zero_le q0;exact⟨v,by rfl',eg⟩
theorem xI3{n k:Nat}(hn:n<=60):zK8 [.int n,.int k]=.ok (.int ((gn k n:Nat):Int)):=by
 rw[<-uA];show(zK6 [some (.int n),some (.int (k:Int)),none,none,none,none,none]).bind (fin false)=_;unfold zK6;simp![zW5 (m:=(n:Int)) (by rfl') (by rfl'),AX];refine vL (fun i ρ=>∃c t w x,ρ=[some (.int n),some (.int (k:Int)),some (lI (M12.mbl 1 (k:Int) i)),c,t,w,x]) ⟨none,none,none,none,rfl⟩ ?_ ?_;rintro i d ρ hd ⟨c,t,w,x,rfl⟩;obtain⟨hi,rfl⟩:=uC hd;have hlen:(M12.mbl 1 (k:Int) i).length=i+1:=M12.xV 1 (k:Int) i;have hm:(if (i:Int)+1<(k:Int)then(i:Int)+1 else(k:Int))=min (k:Int) ((i:Int)+1):=by split<;>rfl'
 have inner:∃y,L3.forM (gN 6) (sQ (sS 4 (e2 addI (eV 4) (e2 mulI (eV 5) (e2 ixD (eV 2) (e2 subI (eV 3) (eV 6)))))) (sS 5 (e2 mulI (eV 5) (e2 subI (eV 3) (eV 6))))) ((List.range (min (k:Int) ((i:Int)+1)).toNat).map fun(j:Nat)=>PyData.int ((j:Int)+1)) [some (.int n),some (.int (k:Int)),some (lI (M12.mbl 1 (k:Int) i)),some (.int ((i:Int)+1)),some (.int 0),some (.int 1),x]=.ok (.nx [some (.int n),some (.int (k:Int)),some (lI (M12.mbl 1 (k:Int) i)),some (.int ((i:Int)+1)),some (.int (M12.tot 1 (M12.mbl 1 (k:Int) i) (min (k:Int) ((i:Int)+1)).toNat)),some (.int (M12.ff (((i+1:Nat):Int)-1) (min (k:Int) ((i:Int)+1)).toNat)),y]):=by obtain⟨ρ',e,y,rfl⟩:=uM (g:=gN 6) (b:=sQ (sS 4 (e2 addI (eV 4) (e2 mulI (eV 5) (e2 ixD (eV 2) (e2 subI (eV 3) (eV 6)))))) (sS 5 (e2 mulI (eV 5) (e2 subI (eV 3) (eV 6))))) (fun j ρ=>∃y,ρ=[some (.int n),some (.int (k:Int)),some (lI (M12.mbl 1 (k:Int) i)),some (.int ((i:Int)+1)),some (.int (M12.tot 1 (M12.mbl 1 (k:Int) i) j)),some (.int (M12.ff (((i+1:Nat):Int)-1) j)),y]) ((List.range (min (k:Int) ((i:Int)+1)).toNat).map fun(j:Nat)=>PyData.int ((j:Int)+1)) [some (.int n),some (.int (k:Int)),some (lI (M12.mbl 1 (k:Int) i)),some (.int ((i:Int)+1)),some (.int 0),some (.int 1),x] ⟨x,rfl⟩ (by rintro j d ρ hd ⟨y,rfl⟩;obtain⟨hj,rfl⟩:=uC hd;have hj1:j<i+1:=(by rfl');have ii:i<60:=(by rfl');obtain⟨q1,q2,q3⟩:=le61 hj1 ii;have hv:=qZ (xs:=M12.mbl 1 (k:Int) i) (i:=(i:Int)+1-((j:Int)+1)) (j:=i-j) (castT hj1) (by rw[hlen];exact Dm (CA _ _));rw[M12.wM 1 (k:Int) i (i-j) (CA _ _)]at hv;have e2:M12.ff (((i+1:Nat):Int)-1) j*((i:Int)+1-((j:Int)+1))=M12.ff (((i+1:Nat):Int)-1) (j+1):=(by rw[M12.ff];congr 1;rfl');have m1:=vR (i:=M12.ff (((i+1:Nat):Int)-1) j) (j:=M12.G 1 (k:Int) (i-j)) (.inr ⟨zJ3 q1 q2,zO9 q3⟩);have m2:=vR (i:=M12.ff (((i+1:Nat):Int)-1) j) (j:=(i:Int)+1-((j:Int)+1)) (mulT hj1 ii);refine⟨_,_,rfl,?_,some (.int ((j:Int)+1)),rfl⟩;simp![hv,m1,m2,e2];rw[M12.tot,Ae (by rfl'),hlen,Ck,M12.wM 1 (k:Int) i (i-j) (CA _ _)]);rw[Aa,Aq]at e;exact⟨y,e⟩
 obtain⟨y,inner⟩:=inner;refine⟨_,_,rfl,?_,some (.int ((i:Int)+1)),some (.int (M12.tot 1 (M12.mbl 1 (k:Int) i) (min (k:Int) ((i:Int)+1)).toNat)),some (.int (M12.ff (((i+1:Nat):Int)-1) (min (k:Int) ((i:Int)+1)).toNat)),y,rfl⟩;simp![min2D,hm,zW5 (m:=min (k:Int) ((i:Int)+1)) (by rfl') (by rfl'),inner,cP (l:=(M12.mbl 1 (k:Int) i).map PyData.int) (by rw[Aa];rfl')];simp only[M12.mbl,lI,AJ,AB,Dc];rintro ρ ⟨c,t,w,x,rfl⟩;rw[Aa,Aq];have hv:=qZ (xs:=M12.mbl 1 (k:Int) n) (i:=(n:Int)) (j:=n) rfl (by rw[M12.xV];exact DU _);rw[M12.wM 1 (k:Int) n n (Ac _)]at hv;simp![hv]
theorem fS{ns:C5}{d:D}(hd:d=tI (rI' ns)\/d=lI (rI' ns))(h:∀x∈ns,x<10^400)(hl:ns.length<=60):wO [d]=.ok (.str (Str.join " " (ns.map nT))):=by
 have cc:eCompX (iS (eV 0)) tYes (eB strOfD (aC (eV 0) aN)) [] [some d]=.ok (.list ((ns.map nT).map PyData.str)):=by rw[Ar];refine xT (fun b:Nat=>PyData.int (b:Int)) (fun b=>PyData.str (nT b)) ns (by rcases hd with rfl|rfl;simp -implicitDefEqProofs only[(evA)];unfold rI';rw[Ar];rfl;simp -implicitDefEqProofs only[(evA)];unfold rI';rw[Ar];rfl) (by rfl') fun b hb=>?_;have e:strOfD [.int (b:Int)]=some (.str (nT b)):=Ae (jO (h b hb)).log;show eB strOfD (aC (eV 0) aN) [some (.int (b:Int))]=_;simp![e]
 have jd:=uB (wM5 (sep:=" ") (ts:=ns.map nT) (B:=400) (n:=60) rfl (by rw[Aa];exact hl) (fun t ht=>by obtain⟨x,hx,rfl⟩:=Ay.mp ht;exact(jO (h x hx)).len) (by decide)).1;show(zW2 [some d]).bind (fin false)=_;unfold zW2;simp![yQ,yV,cc,jd]
theorem zG9(c:Int)(n:Nat)(hn:n<=1000):dX [.int c,.int n]=.ok (tI (lawOrd c n).1):=by show(zR2 [some (.int c),some (.int n),none,none]).bind (fin false)=_;unfold zR2;simp![gH hn];obtain⟨ρ',e,x,rfl⟩:=uM (g:=gN 3) (b:=sQ (sM 2 insD (aC (e2 modI (eV 0) (e2 addI (eV 3) (eC (.int 1)))) (aC (eV 3) aN))) (sS 0 (e2 fdivI (eV 0) (e2 addI (eV 3) (eC (.int 1)))))) (fun i ρ=>∃x,ρ=[some (.int (lawOrd c i).2),some (.int n),some (lI (lawOrd c i).1),x]) ((List.range n).map fun(i:Nat)=>PyData.int (i:Int)) [some (.int c),some (.int n),some (.list []),none] ⟨none,rfl⟩ (by rintro i d ρ hd ⟨x,rfl⟩;obtain⟨hi,rfl⟩:=zZ7 hd;refine⟨_,_,rfl,?_,some (.int i),rfl⟩;have hl:(lawOrd c i).1.length=i:=(hZ c i).len;have h1:(0:Int)<(i:Int)+1:=(by rfl');have h2:=Int.emod_nonneg (lawOrd c i).2 (show((i:Int)+1)≠0 by rfl');have h3:=Int.emod_lt_of_pos (lawOrd c i).2 h1;simp![modO,fdivO,Ae h1,Ae (DivOk.small h1 (by rfl')),xE6 (l:=(lawOrd c i).1.map PyData.int) (d:=.int i) h2 (by rw[Aa,hl];rfl') (by rw[Aa,hl];rfl')];simp only[lawOrd,insAt,lI,AJ,AB,Es,Et]);rw[Aa,Aq]at e;rw[e];rfl
theorem xU1{n:Nat}{xs:C6}(o:Ord n xs)(hn:n<=400):bE [tI xs]=.ok (.list ((rgs n xs n).map fun r=>lI (rI' r))):=xE3 o hn
theorem yU9{n:Nat}{xs:C6}(o:Ord n xs)(h1:1<=n)(h2:n<=60):cC [tI xs]=.ok (.str (ordT n xs)):=by
 have q:=aZ o h1 h2;have cc:eCompX (iS (eF bE (aC (eV 0) aN))) tYes (e2 catS (e2 catS (eC (.str "(")) (eM1S joinD (eC (.str " ")) (eCompN (iS (eV 0)) tYes (eB strOfD (aC (eV 0) aN)) []))) (eC (.str ")"))) [] [some (tI xs)]=.ok (.list (((rgs n xs n).map wT).map PyData.str)):=by
  rw[Ar];refine xT (fun r:C5=>lI (rI' r)) (fun r=>PyData.str (wT r)) (rgs n xs n) (by simp![xU1 o (show n<=400 by rfl')]) (by have:=q.few;rfl') fun r hr=>?_;have hr1:=(q.ring r hr).1;have hr2:=(q.ring r hr).2.1;have l:=zS4 hr1 hr2;have c1:("(":Str).length=1:=rfl;have c2:(")":Str).length=1:=rfl;have lb:=xC;have e1:catS (.str "(") (.str (rT r))=some (.str ("("++rT r)):=Ae (by rfl');have e2':catS (.str ("("++rT r)) (.str ")")=some (.str (wT r)):=Ae (by rw[Ap];rfl');show e2 catS (e2 catS (eC (.str "(")) (eM1S joinD (eC (.str " ")) (eCompN (iS (eV 0)) tYes (eB strOfD (aC (eV 0) aN)) []))) (eC (.str ")")) [some (lI (rI' r))]=_;have nc:eCompN (iS (eV 0)) tYes (eB strOfD (aC (eV 0) aN)) [] [some (lI (rI' r))]=.ok (.list ((r.map numT).map PyData.str)):=by unfold eCompN;rw[zJ7 (.inr rfl) hr1 hr2];rfl
  simp![yQ,yV,nc,yM9 hr1 hr2,e1,e2']
 show(zK3 [some (tI xs)]).bind (fin false)=_;unfold zK3;simp![yQ,yV,cc,(yI6 q).1];rfl
theorem wX9{n m:Nat}{xs:C6}(o:Ord n xs)(p:Ord m ys)(h1:1<=n)(h2:n<=60)(h3:1<=m)(h4:m<=60)(h:Tx 400 (ordT n xs))(e:ordT n xs=ordT m ys):n=m:=by have a:=yX3 o h1 h2 h;rw[e]at h a;rw[yX3 p h3 h4 h]at a;injection a with a;injection a with a;have:=By List.length a;rw[Aa,Aa,o.len,p.len]at this;exact this.symm
open Classical in
theorem yO4(f:Nat->Nat->Str)(m:Nat)(kvs:List (Str×Int))(z:Str):∀j,lookD ((knI f m kvs j).map dkD) z=if ∃i,i<j/\f m i=z then some (m:Int)else lookD (kvs.map dkD) z
 |0=>by rw[An fun⟨i,h,_⟩=>absurd h (by rfl')];rfl
 |j+1=>by
  show lookD ((putS (knI f m kvs j) (f m j) (m:Int)).map dkD) z=_;rw[wV5,yO4 f m kvs z j];by_cases c:z=f m j;rw[Ae c,Ae ⟨j,by rfl',c.symm⟩];rw[An c];by_cases d:∃i,i<j/\f m i=z;obtain⟨i,hi,e⟩:=d;rw[Ae ⟨i,hi,e⟩,Ae ⟨i,by rfl',e⟩];have nd:¬∃i,i<j+1/\f m i=z:=by rintro⟨i,hi,e⟩;by_cases k:i=j;rw[k]at e;exact c e.symm;exact d ⟨i,by rfl',e⟩
  rw[An d,An nd]
def kf(m i:Nat):Str:=ordT m (lawOrd (i:Int) m).1
def kn:List (Str×Int):=knO kf 5
theorem xQ4:zR6 []=.ok (dicD kn):=wB3 fun m i hm hi=>⟨_,zG9 (i:Int) (m+1) (by rfl'),yU9 (hZ (i:Int) (m+1)) (by rfl') (by rfl')⟩
theorem wO2:∀n,n<6->1<=n->((List.range (fc n)).map fun(i:Nat)=>(lawOrd (i:Int) n).1).isPerm (ordsI n n)=true:=by decide+kernel
theorem wK7:∀n,n<6->fcN n=fc n:=by decide
theorem xF1{n:Nat}{xs:C6}(o:Ord n xs)(h1:1<=n)(h2:n<=5):∃i,i<fcN n/\kf n i=ordT n xs:=by have p:=List.isPerm_iff.mp (wO2 n (by rfl') h1);obtain⟨i,hi,e⟩:=Ay.mp (p.mem_iff.mpr (wY5 o));refine⟨i,by rw[wK7 n (by rfl')];exact AH.mp hi,?_⟩;unfold kf;rw[e]
theorem zI6{z:Str}(h:Tx 400 z):(∀n xs,Ord n xs->1<=n->n<=5->ordT n xs=z->lookD (kn.map dkD) z=some (n:Int))/\((∀n xs,Ord n xs->1<=n->n<=5->ordT n xs≠z)->lookD (kn.map dkD) z=none):=by
 have step:∀M,lookD ((knO kf (M+1)).map dkD) z=_:=fun M=>yO4 kf (M+1) (knO kf M) z (fcN (M+1));constructor;intro n xs o h1 h2 e;have main:∀M,n<=M->M<=5->lookD ((knO kf M).map dkD) z=some (n:Int):=fun M=>by
  induction M with
  |zero=>exact fun a _=>absurd a (by rfl')
  |succ M ih=>intro a b;rw[step M];by_cases c:n=M+1;subst c;obtain⟨i,hi,q⟩:=xF1 o h1 b;rw[Ae ⟨i,hi,q.trans e⟩];rw[An,ih (by rfl') (by rfl')];rintro⟨i,hi,q⟩;rw[<-e]at h q;exact c (wX9 o (hZ (i:Int) (M+1)) h1 (by rfl') (by rfl') (by rfl') h q.symm)
 exact main 5 h2 (Ac _);intro g;have main:∀M,M<=5->lookD ((knO kf M).map dkD) z=none:=fun M=>by
  induction M with
  |zero=>exact fun _=>rfl
  |succ M ih=>intro b;rw[step M,An,ih (by rfl')];rintro⟨i,hi,q⟩;exact g (M+1) _ (hZ (i:Int) (M+1)) (by rfl') b q
 exact main 5 (Ac _)
open Classical in
def ln(w:Str):Int:=if Wd w then(dv w:Int)else -1
theorem wX7{α:Type}(xs:List α)(f:α->Bool):allD [.list (xs.map fun x=>PyData.bool (f x))]=some (.bool (xs.all f)):=by
 have e:(xs.map fun x=>PyData.bool (f x))=(xs.map f).map PyData.bool:=by rw[Ar];rfl
 show(boolsOf _).map _=_;rw[e,boolsOf_map];show some (PyData.bool ((xs.map f).all id))=_;rw[List.all_map];rfl
theorem wF2(c:Nat):inSD (.str ⟨#[c]⟩) (.str "0123456789")=some (decide (48<=c/\c<=57)):=by
 show some (!(Builtin.Str.occurrences "0123456789" ⟨#[c]⟩ 0 ("0123456789":Str).length 1).isEmpty)=_;rw[PySem.StrLaws.found_one];have e:("0123456789":Str).cps.toList=List.range' 48 10:=by decide+kernel
 rw[e];congr 1;rw[Cq,decide_eq_true_iff,decide_eq_true_iff,List.mem_range'_1];rfl'
theorem wI8{c:Nat}(h:c<128):PyData.strOk ⟨#[c]⟩=true:=by
 rw[xW1];intro x hx;have:x=c:=by have hx:x∈[c]:=hx;exact Bk.mp hx
 rfl'
theorem yG2{c d:Nat}{s:Str}(hs:tl s=[d]):((⟨#[c]⟩:Str)=s)↔c=d:=by
 constructor;intro h;have e:tl ⟨#[c]⟩=[d]:=by rw[h,hs]
 have e:[c]=[d]:=e;simpa using e;rintro rfl;exact kZ (by rw[hs];rfl)
theorem xB5{w:Str}{c:Nat}{r:C5}(hl:w.length<=1000)(e:tl w=c::r):ixSD (.str w) (.int 0)=some (.str ⟨#[c]⟩):=by have lb:=xC;show(if w.length<=sizeLine then(atI (tl w) 0).map fun c=>PyData.str ⟨#[c]⟩else none)=_;rw[Ae (by rfl'),e,vO];rfl
theorem t0:tl "0"=[48]:=by decide+kernel
theorem t1:tl "("=[40]:=by decide+kernel
theorem t2:tl ")"=[41]:=by decide+kernel
theorem yI9{w:Str}(h:Tx 400 w):kS [.str w]=.ok (.int (ln w)):=by
 have lb:=xC;have l:=h.len;have e1:lenTD [.str w]=some (.int (w.length:Int)):=Ae (by rfl');have e4:=cU h.ok (show PyData.strOk ""=true by decide+kernel);have no:¬Wd w->ln w=-1:=fun n=>An n;show(aP [some (.str w)]).bind (fin false)=_;unfold aP;cases et:tl w with
 |nil=>rw[Ab (isE.mpr et)]at e4;rw[no fun z=>z.1.2 et];simp![e4]
 |cons c r=>
  rw[Ad fun z=>by rw[isE.mp z]at et;cases et]at e4;have cl:c<128:=h.asc c (by rw[et];exact Af);by_cases h2:w.length<=90;have d2:decide ((90:Int)<(w.length:Int))=false:=Ad (by rfl');have e5:=xB5 (by rfl') et;have e6:=cU (wI8 cl) (show PyData.strOk "0"=true by decide+kernel);have cc:eCompX (iSt (eV 0)) tYes (e2 (fun x y=>bD (inSD x y)) (eV 0) (eC (.str "0123456789"))) [] [some (.str w)]=.ok (.list ((tl w).map fun c=>PyData.bool (decide (48<=c/\c<=57)))):=by refine xT (fun c=>PyData.str ⟨#[c]⟩) (fun c=>PyData.bool (decide (48<=c/\c<=57))) (tl w) ?_ (by rw[yM];rfl') fun c _=>?_;show((eV 0 [some (.str w)]).bind fun d=>Res.lft (signsD d))=_;simp -implicitDefEqProofs only[(evA)];show Res.lft (if w.cps.all (·<128)=true then some (w.cps.toList.map fun c=>PyData.str ⟨#[c]⟩)else none)=_;rw[Ae h.all];rfl;show e2 (fun x y=>bD (inSD x y)) (eV 0) (eC (.str "0123456789")) [some (.str ⟨#[c]⟩)]=_;simp![wF2]
  have al:=wX7 (tl w) fun c=>decide (48<=c/\c<=57);have fi:((tl w).all fun c=>decide (48<=c/\c<=57))=true↔Fig w:=by rw[Bt];exact⟨fun z=>⟨fun c hc=>of_decide_eq_true (z c hc),by rw[et];exact fun z=>nomatch z⟩,fun z c hc=>Ab (z.1 c hc)⟩
  by_cases hz:Txt.startswith w "0"=true->w="0";have tst:(tO (b2 eqD (eV 0) (eC (.str ""))) (tO (b2 gtI (eB lenTD (aC (eV 0) aN)) (eC (.int 90))) (tAn (b2 eqD (e2 ixSD (eV 0) (eC (.int 0))) (eC (.str "0"))) (b2 neD (eV 0) (eC (.str "0")))))) [some (.str w)]=.ok false:=by by_cases c0:c=48;have s0:Txt.startswith w "0"=true:=st0.mpr ⟨r,by rw[et,c0]⟩;have d1:=dD h.ok (show PyData.strOk "0"=true by decide+kernel);rw[Ab (hz s0)]at d1;rw[Ab ((yG2 t0).mpr c0)]at e6;simp![e4,e1,d2,e5,e6,d1];rw[Ad fun z=>c0 ((yG2 t0).mp z)]at e6;simp![e4,e1,d2,e5,e6]
  cases hf:((tl w).all fun c=>decide (48<=c/\c<=57))with
  |false=>rw[no fun z=>by rw[fi.mpr z.1]at hf;cases hf];rw[hf]at al;rw[vM,wR,tst];simp![cc,al]
  |true=>
   have fg:=fi.mp hf;have e7:intTD [.str w]=some (.int (dv w:Int)):=by show(if w.length<=640 then(PySem.intText? w).map PyData.int else none)=_;rw[Ae (by rfl'),zA4 fg (by rfl')];rfl
   rw[show ln w=(dv w:Int)from Ae ⟨fg,h2,hz⟩];rw[hf]at al;rw[vM,wR,tst];simp![cc,al,e7]
  rw[no fun z=>hz z.2.2];have hz:Txt.startswith w "0"=true/\¬w="0":=by simp only[Classical.not_imp]at hz;exact hz
  obtain⟨r',er⟩:=st0.mp hz.1;rw[et]at er;have c0:c=48:=by cases er;rfl
  have d1:=dD h.ok (show PyData.strOk "0"=true by decide+kernel);rw[Ad hz.2]at d1;rw[Ab ((yG2 t0).mpr c0)]at e6;simp![e4,e1,d2,e5,e6,d1];have d2:decide ((90:Int)<(w.length:Int))=true:=Ab (by rfl');rw[no fun z=>h2 z.2.1];simp![e4,e1,d2]
def Fit(W:Str)(ns:C5)(b:Int):Prop:=if W="rings" then ns=[]/\0<b else if W="find" then 0<b/\(ns.length:Int)=b/\∀x∈ns,(x:Int)<=b else if W="need"\/W="help" then 0<b/\∃x,ns=[x]/\1<=x/\(x:Int)<=b else b=-1/\if W="good" then ∃n k,ns=[n,k]/\n<=60 else if W="share" then ns≠[]/\∀x∈ns,(x:Int)<=(ns.length:Int)else if W="group" then ∃n k c,ns=[n,k,c]/\n<=60/\c<=n else W="goodorder"/\∃n k N,ns=[n,k,N]/\1<=n/\n<=60/\N<gn k n
theorem wO6:inD false (.str W) (.tuple [.str "need",.str "help"])=some (decide (W="need") ||decide (W="help")):=by
 have e:∀a:Str,eqF (.str a) (.str W)=decide (W=a):=fun a=>by by_cases c:W=a;subst c;rw[Ab rfl];simp[eqF];rw[Ad c];have:¬a=W:=fun z=>c z.symm;simp[eqF,this]
 rw[<-e,<-e];show(if flD (.str W)=true/\([PyData.str "need",.str "help"]).all flD=true then some (eqF (.str "need") (.str W) ||(eqF (.str "help") (.str W) ||false))else none)=_;rw[Ae ⟨rfl,rfl⟩,Bool.or_false]
theorem yI5{ns:C5}:rI' ns=[]↔ns=[]:=by constructor;intro z;have:=By List.length z;rw[yL]at this;exact List.length_eq_zero_iff.mp this;rintro rfl;rfl
theorem wF1{ns:C5}{b:Int}(h:ns≠[]):maxL (rI' ns)<=b↔∀x∈ns,(x:Int)<=b:=by constructor;intro z x hx;exact CI (yX4 (Ay.mpr ⟨x,hx,rfl⟩)) z;intro z;have m:=zK7 (fun z=>h (yI5.mp z));generalize maxL (rI' ns)=y at m;obtain⟨x,hx,e⟩:=Ay.mp m;rw[<-e];exact z x hx
theorem zY3(ns:C5):((rI' ns).map PyData.int).length=ns.length:=by rw[Aa,yL]
theorem len2{α:Type}:∀{l:List α},l.length=2->∃a b,l=[a,b]
 |[a,b],_=>⟨a,b,rfl⟩
theorem len3{α:Type}:∀{l:List α},l.length=3->∃a b c,l=[a,b,c]
 |[a,b,c],_=>⟨a,b,c,rfl⟩
theorem wok:PyData.strOk "rings"=true/\PyData.strOk "find"=true/\PyData.strOk "good"=true/\PyData.strOk "share"=true/\PyData.strOk "group"=true/\PyData.strOk "goodorder"=true/\PyData.strOk "need"=true/\PyData.strOk "help"=true:=by decide+kernel
theorem skip{t:B7}{a b:B6}(h:t ρ=.ok false):sQ (sIf t a sN) b ρ=b ρ:=by rw[vM,wR,h];rfl
theorem stS{i:Nat}{e:B5}{b:B6}{d:D}(h:e ρ=.ok d):sQ (sS i e) b ρ=b (ρ.set i (some d)):=by rw[vM,yQ1,h];rfl
theorem tak{t:B7}{e:B5}{b:B6}{d:D}(h:t ρ=.ok true)(he:e ρ=.ok d):(sQ (sIf t (sR e) sN) b ρ).bind (fin false)=.ok d:=by rw[vM,wR,h];show((sR e ρ).bind _).bind _=_;rw[zE8,he];rfl
def Tel(e:B5)(ρ:Ev)(P:Prop):Prop:=∃v:Bool,(v=true↔P)/\e ρ=.ok (.bool v)
theorem Tel.of{e:B5}{P:Prop}[Decidable P](h:e ρ=.ok (.bool (decide P))):Tel e ρ P:=⟨_,decide_eq_true_iff,h⟩
theorem Tel.cg{e:B5}{P Q:Prop}(h:Tel e ρ P)(g:P↔Q):Tel e ρ Q:=by obtain⟨v,a,b⟩:=h;exact⟨v,a.trans g,b⟩
theorem Tel.an{a b:B5}{P Q:Prop}(h:Tel a ρ P)(k:P->Tel b ρ Q):Tel (vAn a b) ρ (P/\Q):=by
 obtain⟨v,hv,ea⟩:=h;cases v with
 |false=>exact⟨false,⟨(fun z=>nomatch z),fun z=>hv.mpr z.1⟩,by rw[zZ1,ea];rfl⟩
 |true=>obtain⟨q,hq,eb⟩:=k (hv.mp rfl);exact⟨q,⟨fun z=>⟨hv.mp rfl,hq.mp z⟩,fun z=>hq.mpr z.2⟩,by rw[zZ1,ea];exact eb⟩
theorem Tel.tak{t:B7}{e:B5}{b:B6}{ρ:Ev}{P:Prop}(k:Tel e ρ P)(h:t ρ=.ok true):∃v:Bool,(v=true↔P)/\(sQ (sIf t (sR e) sN) b ρ).bind (fin false)=.ok (.bool v):=by obtain⟨v,hv,ea⟩:=k;exact⟨v,hv,K55.tak h ea⟩
theorem tW{w:Str}{r:Ev}(hW:PyData.strOk W=true)(hw:PyData.strOk w=true):b2 eqD (eV 0) (eC (.str w)) (some (.str W)::r)=.ok (decide (W=w)):=by show Res.lft (eqD (.str W) (.str w))=_;rw[cU hW hw];rfl
theorem tF{w:Str}{r:Ev}(hW:Tx 400 W)(hw:PyData.strOk w=true)(c:¬W=w):b2 eqD (eV 0) (eC (.str w)) (some (.str W)::r)=.ok false:=by rw[tW hW.ok hw,Ad c]
theorem tT{w:Str}{r:Ev}(hW:Tx 400 W)(hw:PyData.strOk w=true)(c:W=w):b2 eqD (eV 0) (eC (.str w)) (some (.str W)::r)=.ok true:=by rw[tW hW.ok hw,Ab c]
theorem tA{w:Str}{ns:C5}{r:Ev}(hW:Tx 400 W)(hw:PyData.strOk w=true)(z:Int)(m:Nat)(hz:(m:Int)=z)(c:¬(W=w/\ns.length=m)):tAn (b2 eqD (eV 0) (eC (.str w))) (b2 eqD (eB lenD (aC (eV 1) aN)) (eC (.int z))) (some (.str W)::some (tI (rI' ns))::r)=.ok false:=by rw[xK4,tW hW.ok hw];by_cases d:W=w;rw[Ab d];show Res.lft (eqD (.int (((rI' ns).map PyData.int).length:Int)) (.int z))=_;rw[zY3,yR,Ad fun z=>c ⟨d,by rfl'⟩];rfl;rw[Ad d];rfl
theorem lnT{W:Option D}{ns:C5}{r:Ev}{e:B5}{z:Int}(h:e (W::some (lI (rI' ns))::r)=.ok (.int z)):Tel (e2 (fun x y=>bD (eqD x y)) (eB lenD (aC (eV 1) aN)) e) (W::some (lI (rI' ns))::r) ((ns.length:Int)=z):=Tel.of (by show(e (W::some (lI (rI' ns))::r)).bind (fun y=>Res.lft (bD (eqD (.int (((rI' ns).map PyData.int).length:Int)) y)))=_;rw[h,Res.bind_ok,zY3,yR];rfl)
theorem mxT{W:Option D}{ns:C5}{r:Ev}{e:B5}{z:Int}(hn:ns≠[])(h:e (W::some (lI (rI' ns))::r)=.ok (.int z)):Tel (e2 (fun x y=>bD (leI x y)) (eB max1D (aC (eV 1) aN)) e) (W::some (lI (rI' ns))::r) (∀x∈ns,(x:Int)<=z):=(Tel.of (P:=maxL (rI' ns)<=z) (by show(Res.lft (max1D [lI (rI' ns)])).bind (fun x=>(e (W::some (lI (rI' ns))::r)).bind (fun y=>Res.lft (bD (leI x y))))=_;rw[h,yB3 (fun z=>hn (yI5.mp z))];rfl)).cg (wF1 hn)
theorem zX4(hW:Tx 400 W){ns:C5}(hl:ns.length<=60){b:Int}:∃v:Bool,(v=true↔Fit W ns b)/\bZ [.str W,lI (rI' ns),.int b]=.ok (.bool v):=by
 obtain⟨w1,w2,w3,w4,w5,w6,w7,w8⟩:=wok;have q7:=wO6 (W:=W);have b0:Tel (e2 (fun x y=>bD (gtI x y)) (eV 2) (eC (.int 0))) [some (.str W),some (lI (rI' ns)),some (.int b)] (0<b):=Tel.of rfl;show ∃v:Bool,_/\(zK5 [some (.str W),some (lI (rI' ns)),some (.int b)]).bind (fin false)=_;unfold zK5 Fit;by_cases c1:W="rings";rw[Ae c1];refine(Tel.an (Tel.of ?_) fun _=>b0).tak (tT hW w1 c1);show Res.lft (bD (eqD (lI (rI' ns)) (.list [])))=_;rw[show eqD (lI (rI' ns)) (.list [])=some (decide (rI' ns=[]))from xJ5 _ [],decide_eq_decide.mpr yI5];rfl;rw[An c1,skip (tF hW w1 c1)];by_cases c2:W="find";rw[Ae c2];exact(b0.an fun p=>(lnT rfl).an fun q=>mxT (fun z=>by rw[z]at q;simp at q;rfl') rfl).tak (tT hW w2 c2);rw[An c2,skip (tF hW w2 c2)];have d3:b2 (inD false) (eV 0) (eB mkT (aC (eC (.str "need")) (aC (eC (.str "help")) aN))) [some (.str W),some (lI (rI' ns)),some (.int b)]=.ok (decide (W="need"\/W="help")):=by rw[Bool.decide_or];simp![q7]
 by_cases c3:W="need"\/W="help";rw[Ae c3];rw[Ab c3]at d3;refine(b0.an fun _=>((lnT rfl).an fun q=>?_).cg ⟨And.right,fun z=>⟨by obtain⟨x,rfl,_⟩:=z;rfl,z⟩⟩).tak d3;obtain⟨x,rfl⟩:=DP.mp (show ns.length=1 by rfl');have a0:atI ((rI' [x]).map PyData.int) 0=some (.int (x:Int)):=rfl;refine Tel.cg (P:=(1:Int)<=(x:Int)/\(x:Int)<=b) (Tel.of ?_) ⟨fun z=>⟨x,rfl,by rfl',z.2⟩,fun⟨y,e,z⟩=>by cases e;rfl'⟩;rw[Bool.decide_and];by_cases x1:(1:Int)<=(x:Int);simp![a0,Ab x1,Bool.true_and];simp![a0,Ad x1,Bool.false_and];rw[An c3];rw[Ad c3]at d3;rw[skip d3];by_cases cb:b=-1;have up:∀{X:Prop}{R:Bool->Prop},(∃v:Bool,(v=true↔X)/\R v)->∃v:Bool,(v=true↔b=-1/\X)/\R v:=fun⟨v,h,r⟩=>⟨v,h.trans ⟨fun z=>⟨cb,z⟩,And.right⟩,r⟩;have no:∀{X:Prop}{t:B7}{r:B6}{ρ:Ev},¬X->t ρ=.ok true->∃v:Bool,(v=true↔X)/\(sQ (sIf t (sR (eC (.bool false))) sN) r ρ).bind (fin false)=.ok (.bool v):=fun h e=>⟨false,⟨(fun z=>nomatch z),fun z=>absurd z h⟩,tak e rfl⟩;rw[skip (show b2 neD (eV 2) (e1 negD (eC (.int 1))) [some (.str W),some (lI (rI' ns)),some (.int b)]=.ok false by simp![wF,Ab cb])];refine up ?_;by_cases c4:W="good";rw[Ae c4];refine(((lnT rfl).an fun q=>?_).cg ⟨And.right,fun z=>⟨by obtain⟨x,y,rfl,_⟩:=z;rfl,z⟩⟩).tak (tT hW w3 c4);obtain⟨x,y,rfl⟩:=len2 (show ns.length=2 by rfl');exact Tel.cg (P:=(x:Int)<=60) (Tel.of rfl) ⟨fun z=>⟨x,y,rfl,by rfl'⟩,fun⟨_,_,e,z⟩=>by cases e;rfl'⟩;rw[An c4,skip (tF hW w3 c4)];by_cases c5:W="share";rw[Ae c5];refine(Tel.an (Tel.cg (P:=(1:Int)<=(((rI' ns).map PyData.int).length:Nat)) (Tel.of rfl) ?_) fun z=>mxT z (by rw[<-zY3 ns];rfl)).tak (tT hW w4 c5);rw[zY3,<-BJ];rfl';rw[An c5,skip (tF hW w4 c5)];by_cases c6:W="group";rw[Ae c6];refine(((lnT rfl).an fun q=>?_).cg ⟨And.right,fun z=>⟨by obtain⟨x,y,t,rfl,_⟩:=z;rfl,z⟩⟩).tak (tT hW w5 c6);obtain⟨x,y,t,rfl⟩:=len3 (show ns.length=3 by rfl');exact Tel.cg (P:=(x:Int)<=60/\(t:Int)<=(x:Int)) (Tel.an (Tel.of rfl) fun _=>Tel.of rfl) ⟨fun z=>⟨x,y,t,rfl,by rfl'⟩,fun⟨_,_,_,e,z⟩=>by cases e;rfl'⟩;rw[An c6,skip (tF hW w5 c6)];have q6:=dD hW.ok w6;by_cases c7:W="goodorder";rw[Ab c7]at q6;by_cases bl:ns.length=3;obtain⟨x,y,t,rfl⟩:=len3 bl;have a0:atI ((rI' [x,y,t]).map PyData.int) 0=some (.int (x:Int)):=rfl;have l1:((rI' [x,y,t]).map PyData.int).length=3:=rfl;have i3:((3:Nat):Int)=3:=rfl;by_cases x1:(1:Int)<=(x:Int);by_cases x6:(x:Int)<=60;have eg:=xI3 (n:=x) (k:=y) (by rfl');rw[skip (by simp![q6,l1,wF,i3,decide_true,a0,Ab x1,Ab x6])];refine⟨decide ((t:Int)<((gn y x:Nat):Int)),?_,?_⟩;rw[decide_eq_true_iff];exact⟨fun z=>⟨c7,x,y,t,rfl,by rfl',by rfl',by rfl'⟩,fun⟨_,n,k,c,e,_,_,z⟩=>by cases e;rfl'⟩;simp![a0,show atI ((rI' [x,y,t]).map PyData.int) 1=some (.int (y:Int))from rfl,show atI ((rI' [x,y,t]).map PyData.int) 2=some (.int (t:Int))from rfl,eg];exact no (fun⟨_,n,k,c,e,_,z,_⟩=>by cases e;rfl') (by simp![q6,l1,wF,i3,decide_true,a0,Ab x1,Ad x6]);exact no (fun⟨_,n,k,c,e,z,_⟩=>by cases e;rfl') (by simp![q6,l1,wF,i3,decide_true,a0,Ad x1]);exact no (fun⟨_,n,k,c,e,_⟩=>bl (by rw[e];rfl)) (by simp![q6,zY3 ns,wF,Ad (show ¬((ns.length:Nat):Int)=3 by rfl')]);rw[Ad c7]at q6;exact no (fun z=>c7 z.1) (by simp![q6]);exact⟨false,⟨(fun z=>nomatch z),fun z=>absurd z.1 cb⟩,tak (by simp![wF,Ad cb]) rfl⟩
theorem zH5{p k N:Int}(h:¬(1<=p/\p<=60)):kE [.int p,.int k,.int N]=.ex "TooMany":=by show(qG [some (.int p),some (.int k),some (.int N),none,none,none,none,none,none,none]).bind (fin false)=_;unfold qG;by_cases z:p=0;have z1:(if ([PyData.str "there are 1 to 60 people"]:D0).length<=sizeLine then(Res.ex "TooMany":Res Out)else .no)=.ex "TooMany":=Ae (by decide);simp -implicitDefEqProofs only[vM,wR,bB,vG,eV0,yR,Ab z,Res.lft_some,Res.bind_ok,Res.bind_ex,if_true,wU,vJ,vA,z1];simp![yR,Ad z,cA (k:=k) (show ¬(0<=p/\p<=60)from fun w=>h ⟨by rfl',w.2⟩)]
theorem yR4{n k:Nat}{N:Int}(h1:1<=n)(h2:n<=60)(hN:¬(0<=N/\N<((gn k n:Nat):Int))):kE [.int (n:Int),.int (k:Int),.int N]=.ex "NoNumber":=by show(qG [some (.int (n:Int)),some (.int (k:Int)),some (.int N),none,none,none,none,none,none,none]).bind (fin false)=_;unfold qG;have lm:=M12.xV 1 (k:Int) n;have at1:=qZ (xs:=M12.mbl 1 (k:Int) n) (i:=(n:Int)) (j:=n) rfl (by rfl');rw[M12.wM 1 (k:Int) n n (Ac _),uA]at at1;have z1:(if ([PyData.str "no good order has this number"]:D0).length<=sizeLine then(Res.ex "NoNumber":Res Out)else .no)=.ex "NoNumber":=Ae (by decide);have pre:=Ad (show ¬(n:Int)=0 by rfl');have c1:=wG h2 (show 0<=(k:Int) by rfl');have c2:=wK 1 h2 (show 0<=(k:Int) by rfl');by_cases p1:0<=N;have p2:¬N<((gn k n:Nat):Int):=fun z=>hN ⟨p1,z⟩;simp -implicitDefEqProofs only[zW7,vM,xT4,yQ1,xR4,wR,uN,uW,bB,zP8,xP2,vG,vJ,vA,eV0,eVs,uX,wU,Res.bind_ok,Res.bind_ex,Res.lft_some,Cy,Cz,yR,pre,c1,c2,at1,Ab p1,Ad p2,if_true,if_false,BQ,BE,AT,z1];simp -implicitDefEqProofs only[zW7,vM,xT4,yQ1,xR4,wR,uN,uW,bB,zP8,xP2,vG,vJ,vA,eV0,eVs,uX,wU,Res.bind_ok,Res.bind_ex,Res.lft_some,Cy,Cz,yR,pre,c1,c2,at1,Ad p1,if_true,if_false,BQ,BE,AT,z1]
structure OkT(s:Str):Prop where
 len:s.length<=13000
 nl:10∉tl s
 ok:PyData.strOk s=true
 ne:s≠"refused"
theorem xL8:tl "refused"=[114,101,102,117,115,101,100]:=by decide+kernel
theorem yK2{s:Str}{c:Nat}(h:c∈tl s)(hc:c<100):s≠"refused":=fun z=>by rw[z,xL8]at h;simp only[AF,List.not_mem_nil,or_false]at h;rfl'
theorem wM6{s:Str}(h:114∉tl s):s≠"refused":=fun z=>h (by rw[z,xL8];exact Af)
theorem wR2(m:Nat):∃c,c∈tl (nT m)/\c<100:=by obtain⟨c,r,e⟩:=wP4 m;have f:=yK1 m c.toNat (by rw[e];exact Af);exact⟨c.toNat,by rw[yP2,e];exact Af,by rfl'⟩
theorem zE9{m:Nat}(h:m<10^400):OkT (nT m):=by obtain⟨c,h1,h2⟩:=wR2 m;exact⟨As (jO h).len (by decide),fun z=>absurd ((jO h).fig 10 z).1 (by decide),(jO h).ok,yK2 h1 h2⟩
theorem wQ7{n:Nat}{xs:C6}(o:Ord n xs)(h1:1<=n)(h2:n<=60):OkT (ordT n xs):=by
 have q:=aZ o h1 h2;refine⟨As (wS4 q) (by decide),zU9 (.inl rfl) q,yA3 q,?_⟩;have ne:(rgs n xs n)≠[]:=fun z=>by have:=zL6 o;rw[z]at this;simp at this;rfl'
 obtain⟨r,rs,e⟩:=List.exists_cons_of_ne_nil ne;refine yK2 (c:=40) (bW _ (Ay.mpr ⟨r,by rw[e];exact Af,rfl⟩) ?_) (by decide);unfold wT;rw[zE,zE];exact AG _ (AG _ (by decide+kernel))
theorem wW4{os:C5}(h:BadO (os.length:Int) (rI' os))(hl:os.length<=1000):kA [tI (rI' os)]=.ex "BadOpenings":=by
 have ll:=zY3 os;have em:=cD (d:=tI (rI' os)) (ys:=rI' os) (.inr rfl) h;have ea:dL [tI (rI' os)]=.ex "BadOpenings":=by show(hJ [some (tI (rI' os)),none,none,none]).bind (fin false)=_;unfold hJ;simp![ll,em]
 have es:dA [tI (rI' os)]=.ex "BadOpenings":=by show(aI [some (tI (rI' os)),none,none,none]).bind (fin false)=_;unfold aI;simp![ea]
 have cc:eCompX (iS (eF dA (aC (eV 0) aN))) tYes (eB strOfD (aC (eV 0) aN)) [] [some (tI (rI' os))]=.ex "BadOpenings":=by unfold eCompX;simp![es]
 show(qD [some (tI (rI' os))]).bind (fin false)=_;unfold qD;simp![yQ,yV,cc]
theorem yF7{c:Nat}:fX [.int (c:Int)]=.ok (tI (rI' (List.range (min c 61)))):=by
 have m2:min2D [.int (c:Int),.int 61]=some (.int ((min c 61:Nat):Int)):=by show some (PyData.int (if (61:Int)<(c:Int)then 61 else(c:Int)))=_;by_cases z:61<c;rw[Ae (by rfl'),Nat.min_eq_right (by rfl')];rfl;rw[An (by rfl'),DB (by rfl')]
 have rt:rangeT [.int ((min c 61:Nat):Int)]=some (tI (rI' (List.range (min c 61)))):=xU8 (by rfl');show(fV [some (.int (c:Int))]).bind (fin false)=_;unfold fV;simp![show(60:Int)+1=61 from rfl,m2,rt]
theorem xE5{p:Nat}:∀(m a:Nat),a<=p->p<a+m->chk (p:Int) (a:Int) ((List.range' a m).map fun(i:Nat)=>(i:Int))=false
 |0,a,h,h2=>by rfl'
 |m+1,a,h,h2=>by rw[List.range'_succ,AB];by_cases c:a<p;have:=xE5 (p:=p) m (a+1) (by rfl') (by rfl');show(decide ((a:Int)<=(a:Int)/\(a:Int)<(p:Int))&&chk (p:Int) ((a:Int)+1) _)=false;rw[show((a:Int)+1)=((a+1:Nat):Int) by rfl',this,Bool.and_false];show(decide ((a:Int)<=(a:Int)/\(a:Int)<(p:Int))&&chk (p:Int) ((a:Int)+1) _)=false;rw[Ad (by rfl'),Bool.false_and]
theorem wC8{a b:Nat}(ha:a<10^400)(hb:b<10^400):OkT (Str.join " of " [nT a,nT b]):=by have la:=(jO ha).len;have lb:=(jO hb).len;have oa:=(jO ha).ok;have ob:=(jO hb).ok;have fa:=(zE9 ha).nl;have fb:=(zE9 hb).nl;have e:Str.join " of " [nT a,nT b]=nT a++" of "++nT b:=rfl;have l4:(" of ":Str).length=4:=rfl;rw[e];refine⟨by rw[Ap,Ap,l4];rfl',fun z=>?_,jR (jR oa (by decide+kernel)) ob,yK2 (c:=32) ?_ (by decide)⟩;rw[zE,zE,AE,AE]at z;rcases z with(z|z)|z;exact fa z;exact absurd z (by decide+kernel);exact fb z;rw[zE,zE];exact AG _ (Ah _ (by decide+kernel))
def Cx(c:Str):Prop:=CLS.contains c=true
theorem wR3(hW:Tx 400 W){ns:C5}(hl:ns.length<=60):(Fit W ns (-1)/\∃s,OkT s/\yO [.str W,tI (rI' ns)]=.ok (.str s))\/(¬Fit W ns (-1)/\∃c,Cx c/\yO [.str W,tI (rI' ns)]=.ex c):=by
 obtain⟨w1,w2,w3,w4,w5,w6,w7,w8⟩:=wok;have ra:∀ρ,sRaI (fun _=>"BadText") (aC (eC (.int 1)) aN) ρ=.ex BT:=fun ρ=>ra1 rfl;have un:yO [.str W,tI (rI' ns)]=(yW [some (.str W),some (tI (rI' ns))]).bind (fin false):=rfl;by_cases c1:W="share";subst c1;have hf:Fit "share" ns (-1)↔(ns≠[]/\∀x∈ns,(x:Int)<=(ns.length:Int)):=by unfold Fit;rw[An (by decide+kernel),An (by decide+kernel),An (by decide+kernel),An (by decide+kernel),Ae rfl];exact⟨fun z=>z.2,fun z=>⟨rfl,z⟩⟩
 rw[hf];by_cases c:ns≠[]/\∀x∈ns,(x:Int)<=(ns.length:Int);have q:Opn ns.length (rI' ns):=⟨yL ns,fun y hy=>by obtain⟨x,hx,rfl⟩:=Ay.mp hy;exact⟨by rfl',c.2 x hx⟩⟩;obtain⟨a,b,ha,hb,e⟩:=xJ6 q (BJ.mpr c.1) hl;exact .inl ⟨c,_,wC8 ha hb,e⟩;have bo:BadO (ns.length:Int) (rI' ns):=fun z=>c ⟨fun e=>by rw[e]at z;exact absurd z.1 (by decide),fun x hx=>(z.2.2.2 _ (Ay.mpr ⟨x,hx,rfl⟩)).2⟩;refine .inr ⟨c,"BadOpenings",rfl,?_⟩;rw[un];unfold yW;simp![strEq w4,wW4 bo (by rfl')];have t1:=tF (r:=[some (tI (rI' ns))]) hW w4 c1;by_cases c2:W="good"/\ns.length=2;obtain⟨rfl,l2⟩:=c2;obtain⟨n,k,rfl⟩:=len2 l2;have hf:Fit "good" [n,k] (-1)↔n<=60:=by unfold Fit;rw[An (by decide+kernel),An (by decide+kernel),An (by decide+kernel),Ae rfl];exact⟨fun⟨_,a,b,e,z⟩=>by cases e;exact z,fun z=>⟨rfl,n,k,rfl,z⟩⟩
 rw[hf];by_cases c:n<=60;exact .inl ⟨c,_,zE9 (wJ8 c),wX2 c⟩;have e1:=cA (p:=(n:Int)) (k:=(k:Int)) (by rfl');have e2:fP [.int (n:Int),.int (k:Int)]=.ex "TooMany":=by show(kQ [some (.int (n:Int)),some (.int (k:Int))]).bind (fin false)=_;unfold kQ;simp![e1]
 have l2:((rI' [n,k]).map PyData.int).length=2:=rfl;have a0:atI ((rI' [n,k]).map PyData.int) 0=some (.int (n:Int)):=rfl;have a1:atI ((rI' [n,k]).map PyData.int) 1=some (.int (k:Int)):=rfl;refine .inr ⟨c,"TooMany",rfl,?_⟩;rw[un];unfold yW;rw[skip t1];simp![strEq w3,l2,yR,show((2:Nat):Int)=2 from rfl,decide_true,a0,a1,e2];have t2:=tA (r:=[]) hW w3 2 2 rfl c2;by_cases c3:W="goodorder"/\ns.length=3;obtain⟨rfl,l3⟩:=c3;obtain⟨n,k,N,rfl⟩:=len3 l3;have hf:Fit "goodorder" [n,k,N] (-1)↔(1<=n/\n<=60/\N<gn k n):=by unfold Fit;rw[An (by decide+kernel),An (by decide+kernel),An (by decide+kernel),An (by decide+kernel),An (by decide+kernel),An (by decide+kernel)];exact⟨fun⟨_,_,a,b,d,e,z⟩=>by cases e;exact z,fun z=>⟨rfl,rfl,n,k,N,rfl,z⟩⟩
 rw[hf];have l3:((rI' [n,k,N]).map PyData.int).length=3:=rfl;have a0:atI ((rI' [n,k,N]).map PyData.int) 0=some (.int (n:Int)):=rfl;have a1:atI ((rI' [n,k,N]).map PyData.int) 1=some (.int (k:Int)):=rfl;have a2:atI ((rI' [n,k,N]).map PyData.int) 2=some (.int (N:Int)):=rfl;have bad:∀c,kE [.int (n:Int),.int (k:Int),.int (N:Int)]=.ex c->yO [.str "goodorder",tI (rI' [n,k,N])]=.ex c:=fun c e=>by rw[un];unfold yW;rw[skip t1,skip t2];simp![strEq w6,l3,yR,show((3:Nat):Int)=3 from rfl,decide_true,a0,a1,a2,e]
 by_cases n1:1<=n/\n<=60;by_cases d:N<gn k n;obtain⟨xs,o,e⟩:=yS6 n1.1 n1.2 d;exact .inl ⟨⟨n1.1,n1.2,d⟩,_,wQ7 o n1.1 n1.2,e⟩;exact .inr ⟨fun z=>d z.2.2,"NoNumber",rfl,bad _ (yR4 n1.1 n1.2 (by rfl'))⟩;exact .inr ⟨fun z=>n1 ⟨z.1,z.2.1⟩,"TooMany",rfl,bad _ (zH5 (by rfl'))⟩;have t3:=tA (r:=[]) hW w6 3 3 rfl c3;by_cases c4:W="group"/\ns.length=3;obtain⟨rfl,l3⟩:=c4;obtain⟨n,k,m,rfl⟩:=len3 l3;have hf:Fit "group" [n,k,m] (-1)↔(n<=60/\m<=n):=by unfold Fit;rw[An (by decide+kernel),An (by decide+kernel),An (by decide+kernel),An (by decide+kernel),An (by decide+kernel),Ae rfl];exact⟨fun⟨_,a,b,d,e,z⟩=>by cases e;exact z,fun z=>⟨rfl,n,k,m,rfl,z⟩⟩
 rw[hf];have l3:((rI' [n,k,m]).map PyData.int).length=3:=rfl;have a0:atI ((rI' [n,k,m]).map PyData.int) 0=some (.int (n:Int)):=rfl;have a1:atI ((rI' [n,k,m]).map PyData.int) 1=some (.int (k:Int)):=rfl;have a2:atI ((rI' [n,k,m]).map PyData.int) 2=some (.int (m:Int)):=rfl;have go:∀c,vX [.int (n:Int),.int (k:Int),tI (rI' (List.range (min m 61)))]=.ex c->yO [.str "group",tI (rI' [n,k,m])]=.ex c:=fun c e=>by rw[un];unfold yW;rw[skip t1,skip t2,skip t3];simp![strEq w5,l3,yR,show((3:Nat):Int)=3 from rfl,decide_true,a0,a1,a2,yF7,e]
 by_cases n6:n<=60;by_cases d:m<=n;obtain⟨v,hv,e⟩:=xR3 (k:=k) n6 d;have mm:min m 61=m:=DB (by rfl');refine .inl ⟨⟨n6,d⟩,_,zE9 hv,?_⟩;have so:strOfD [.int (v:Int)]=some (.str (nT v)):=Ae (jO hv).log;rw[<-mm]at e;rw[un];unfold yW;rw[skip t1,skip t2,skip t3];simp![strEq w5,l3,yR,show((3:Nat):Int)=3 from rfl,decide_true,a0,a1,a2,yF7,e,so];refine .inr ⟨fun z=>d z.2,"BadGroup",rfl,?_⟩;have ck:=xE5 (p:=n) (min m 61) 0 (by rfl') (by rfl');rw[<-List.range_eq_range']at ck;have ce:=zA2 (p:=(n:Int)) (xs:=rI' (List.range (min m 61))) ck;have fi:=aY (n:=n) (k:=(k:Int)) n6 (by rfl');have e:vX [.int (n:Int),.int (k:Int),tI (rI' (List.range (min m 61)))]=.ex "BadGroup":=by show(wA [some (.int (n:Int)),some (.int (k:Int)),some (tI (rI' (List.range (min m 61)))),none]).bind (fin false)=_;unfold wA;simp![fi,ce]
 exact go _ e;refine .inr ⟨fun z=>n6 z.1,"TooMany",rfl,?_⟩;have e1:=cA (p:=(n:Int)) (k:=(k:Int)) (by rfl');have e2:jL [.int (n:Int),.int (k:Int)]=.ex "TooMany":=by show(uS [some (.int (n:Int)),some (.int (k:Int)),none,none,none,none,none]).bind (fin true)=_;unfold uS;simp![e1]
 have e:vX [.int (n:Int),.int (k:Int),tI (rI' (List.range (min m 61)))]=.ex "TooMany":=by show(wA [some (.int (n:Int)),some (.int (k:Int)),some (tI (rI' (List.range (min m 61)))),none]).bind (fin false)=_;unfold wA;simp![e2]
 exact go _ e;have t4:=tA (r:=[]) hW w5 3 3 rfl c4;refine .inr ⟨fun z=>?_,BT,rfl,?_⟩;unfold Fit at z;split at z;rfl';split at z;rfl';split at z;rfl';obtain⟨_,z⟩:=z;split at z;rename_i e;obtain⟨n,k,q,_⟩:=z;exact c2 ⟨e,by rw[q];rfl⟩;split at z;rename_i e;obtain⟨n,k,m,q,_⟩:=z;exact c4 ⟨e,by rw[q];rfl⟩;obtain⟨e,n,k,m,q,_⟩:=z;exact c3 ⟨e,by rw[q];rfl⟩;rw[un];unfold yW;rw[skip t1,skip t2,skip t3,skip t4,ra];rfl
theorem num114:∀b,b<61->114∉tl (numT b):=by decide+kernel
theorem rT114{r:C5}(hr:∀x∈r,x<61):114∉tl (rT r):=qK (by decide+kernel) _ fun t ht=>by obtain⟨x,hx,rfl⟩:=Ay.mp ht;exact num114 x (hr x hx)
theorem tON114{s:Str}(h:114∉tl s):114∉tl (tON s):=by unfold tON;split;decide+kernel;exact h
theorem Ask.okT{w n k:Nat}{xs:C6}{os:C5}(A:Ask w n xs os k):OkT (ansT w n xs os k):=by
 obtain⟨a,b,c⟩:=wB1 A;refine⟨by rfl',b,c,wM6 ?_⟩;unfold ansT;split;exact rT114 A.lens.1;split;exact tON114 (rT114 A.fl.1);split;exact num114 _ A.nd;refine tON114 (qK (by decide+kernel) _ fun t ht=>?_);obtain⟨q,hq,rfl⟩:=Ay.mp ht;have h:=A.told.2 q hq;refine qK (by decide+kernel) _ fun t ht=>?_;simp only[AF,List.not_mem_nil,or_false]at ht;rcases ht with rfl|rfl
 exact num114 _ h.2.2.1;exact num114 _ h.2.2.2
theorem yG7{w n:Nat}{xs:C6}(o:Ord n xs)(h1:1<=n)(h2:n<=60)(hw:w<4){k:Nat}(k1:1<=k)(kn:k<=n):Ask w n xs (List.replicate n 0) k:=⟨hw,o,h1,h2,⟨by rw[yL,Bz],fun y hy=>by obtain⟨x,hx,rfl⟩:=Ay.mp hy;rw[DA hx];rfl'⟩,Bz,fun x hx=>by rw[DA hx];decide,k1,kn⟩
theorem xQ9{n:Nat}{xs:C6}(o:Ord n xs)(h:BadO (n:Int) ys):bN [tI xs,tI ys]=.ex "BadOpenings":=by
 have hl:(xs.map PyData.int).length=n:=by rw[Aa,o.len]
 have em:=cD (d:=tI ys) (ys:=ys) (.inr rfl) h;show(dW [some (tI xs),some (tI ys),none,none]).bind (fin false)=_;unfold dW;simp![hl,em]
theorem xZ1{n:Nat}{xs:C6}(o:Ord n xs){k:Nat}(h:¬(1<=k/\k<=n)):∃c,Cx c/\jZ [tI xs,.int (k:Int)]=.ex c:=by
 have hl:(xs.map PyData.int).length=n:=by rw[Aa,o.len]
 have k0:(0:Int)<=(k:Int):=by rfl'
 show ∃c,_/\(qL [some (tI xs),some (.int (k:Int))]).bind (fin false)=_;unfold qL;by_cases c:(k:Int)<=(n:Int);have e0:(k:Int)=0:=by rfl'
 refine⟨"NoHelp",rfl,?_⟩;simp![hl,Ab k0,Ab c,yR,Ab e0,wU,Ae (show 0+1<=sizeLine by decide)];refine⟨"BadOpenings",rfl,?_⟩;simp![hl,Ab k0,Ad c,wU,Ae (show 0+1<=sizeLine by decide)]
theorem yR8{n k:Nat}{xs:C6}{os:C5}{w:Nat}(A:Ask w n xs os k){V:Str}{r:C5}(e1:hW w=V)(e2:hN w os k=r):∃s,OkT s/\yE [.str V,tI (rI' r),tI xs]=.ok (.str s):=by subst e1;subst e2;exact⟨_,A.okT,wK9 A⟩
theorem wO4(hW:Tx 400 W){ns:C5}(hl:ns.length<=60){n:Nat}{xs:C6}(o:Ord n xs)(h1:1<=n)(h2:n<=60):(Fit W ns (n:Int)/\∃s,OkT s/\yE [.str W,tI (rI' ns),tI xs]=.ok (.str s))\/(¬Fit W ns (n:Int)/\∃c,Cx c/\yE [.str W,tI (rI' ns),tI xs]=.ex c):=by
 obtain⟨w1,w2,w3,w4,w5,w6,w7,w8⟩:=wok;have n0:(0:Int)<(n:Int):=by rfl'
 have ra:∀ρ,sRaI (fun _=>"BadText") (aC (eC (.int 1)) aN) ρ=.ex BT:=fun ρ=>ra1 rfl;have un:yE [.str W,tI (rI' ns),tI xs]=(xW [some (.str W),some (tI (rI' ns)),some (tI xs)]).bind (fin false):=rfl;by_cases c1:W="rings"/\ns=[];obtain⟨rfl,rfl⟩:=c1;have A:=yG7 o h1 h2 (show 0<4 by decide) (Ac 1) h1;refine .inl ⟨?_,yR8 A rfl rfl⟩;unfold Fit;rw[Ae rfl];exact⟨rfl,n0⟩;have t1:=tA (r:=[some (tI xs)]) hW w1 0 0 rfl (fun z=>c1 ⟨z.1,List.length_eq_zero_iff.mp z.2⟩);by_cases c2:W="find";subst c2;have hf:Fit "find" ns (n:Int)↔¬BadO (n:Int) (rI' ns):=by unfold Fit BadO;rw[An (by decide+kernel),Ae rfl,Classical.not_not,yL];refine⟨fun z=>⟨by rfl',by rfl',z.2.1,fun y hy=>?_⟩,fun z=>⟨n0,z.2.2.1,fun x hx=>(z.2.2.2 _ (Ay.mpr ⟨x,hx,rfl⟩)).2⟩⟩;obtain⟨x,hx,rfl⟩:=Ay.mp hy;exact⟨by rfl',z.2.2 x hx⟩
 rw[hf];by_cases c:BadO (n:Int) (rI' ns);refine .inr ⟨fun z=>z c,"BadOpenings",rfl,?_⟩;rw[un];unfold xW;rw[skip t1];simp![strEq w2,xQ9 o c];have z:=Classical.not_not.mp c;rw[yL]at z;have A:Ask 1 n xs ns 1:=⟨by decide,o,h1,h2,⟨by rw[yL];rfl',fun y hy=>z.2.2.2 y hy⟩,by rfl',fun x hx=>by have:=(z.2.2.2 _ (Ay.mpr ⟨x,hx,rfl⟩)).2;rfl',Ac 1,h1⟩;exact .inl ⟨c,yR8 A rfl rfl⟩;have t2:=tF (r:=[some (tI (rI' ns)),some (tI xs)]) hW w2 c2;have two:∀V:Str,(V="need"\/V="help")->∀x:Nat,Fit V [x] (n:Int)↔(1<=x/\x<=n):=fun V hV x=>by unfold Fit;rw[An (by rcases hV with rfl|rfl<;>decide+kernel),An (by rcases hV with rfl|rfl<;>decide+kernel),Ae hV];exact⟨fun⟨_,y,e,z⟩=>by cases e;rfl',fun z=>⟨n0,x,rfl,by rfl',by rfl'⟩⟩
 by_cases c3:W="need"/\ns.length=1;obtain⟨rfl,l1⟩:=c3;obtain⟨x,rfl⟩:=DP.mp l1;rw[two _ (.inl rfl)];by_cases c:1<=x/\x<=n;have A:=yG7 o h1 h2 (show 2<4 by decide) c.1 c.2;exact .inl ⟨c,yR8 A rfl rfl⟩;obtain⟨q,hq,e⟩:=xZ1 o c;have e2:zH6 [tI xs,.int (x:Int)]=.ex q:=by show(zP4 [some (tI xs),some (.int (x:Int))]).bind (fin false)=_;unfold zP4;simp![e]
 have a0:atI ((rI' [x]).map PyData.int) 0=some (.int (x:Int)):=rfl;have l1:((rI' [x]).map PyData.int).length=1:=rfl;refine .inr ⟨c,q,hq,?_⟩;rw[un];unfold xW;rw[skip t1,skip t2];simp![strEq w7,l1,yR,show((1:Nat):Int)=1 from rfl,decide_true,a0,e2];have t3:=tA (r:=[some (tI xs)]) hW w7 1 1 rfl c3;by_cases c4:W="help"/\ns.length=1;obtain⟨rfl,l1⟩:=c4;obtain⟨x,rfl⟩:=DP.mp l1;rw[two _ (.inr rfl)];by_cases c:1<=x/\x<=n;have A:=yG7 o h1 h2 (show 3<4 by decide) c.1 c.2;exact .inl ⟨c,yR8 A rfl rfl⟩;obtain⟨q,hq,e⟩:=xZ1 o c;have e2:qX [tI xs,.int (x:Int)]=.ex q:=by show(kM [some (tI xs),some (.int (x:Int)),none,none]).bind (fin true)=_;unfold kM;simp![e]
 have cc:eCompX (iS (eF qX (aC (eV 0) (aC (eV 1) aN)))) tYes (eF qW (aC (eV 0) aN)) [] [some (tI xs),some (.int (x:Int))]=.ex q:=by unfold eCompX;simp![e2]
 have e3:fM [tI xs,.int (x:Int)]=.ex q:=by show(jA [some (tI xs),some (.int (x:Int))]).bind (fin false)=_;unfold jA;simp![yQ,yV,cc]
 have a0:atI ((rI' [x]).map PyData.int) 0=some (.int (x:Int)):=rfl;have l1:((rI' [x]).map PyData.int).length=1:=rfl;refine .inr ⟨c,q,hq,?_⟩;rw[un];unfold xW;rw[skip t1,skip t2,skip t3];simp![strEq w8,l1,yR,show((1:Nat):Int)=1 from rfl,decide_true,a0,e3];have t4:=tA (r:=[some (tI xs)]) hW w8 1 1 rfl c4;refine .inr ⟨fun z=>?_,BT,rfl,?_⟩;unfold Fit at z;by_cases r1:W="rings";rw[Ae r1]at z;exact c1 ⟨r1,z.1⟩;rw[An r1,An c2]at z;by_cases r3:W="need"\/W="help";rw[Ae r3]at z;obtain⟨_,x,e,_⟩:=z;rw[e]at c3 c4;exact r3.elim (fun y=>c3 ⟨y,rfl⟩) fun y=>c4 ⟨y,rfl⟩;rw[An r3]at z;rfl';rw[un];unfold xW;rw[skip t1,skip t2,skip t3,skip t4,ra];rfl
theorem xG5{x y:Str}{c:Nat}(h:(tl y).count c=1):(Txt.split x y).length<=(tl x).count c+1:=by have a:=yN7 (fun z=>(tl z).count c) (fun a b=>by rw[zE,DQ]) y (Txt.split x y) (qM x y);rw[Co]at a;simp only[h,Nat.mul_one]at a;rfl'
structure Rr(z:Str):Prop where
 tx:Tx 400 z
 nl:10∉tl z
 sp:(tl z).count 32<=50
 nf:∀a b,tl z=a++47::b->47∉b->¬(40∈b/\52∈b)
theorem xS9{ws:C4}:(ws.map ln).contains (-1)=true↔¬∀w∈ws,Wd w:=by rw[AV,Ay];constructor;rintro⟨w,hw,e⟩ z;rw[ln,Ae (z w hw)]at e;rfl';intro z;simp only[Eb]at z;obtain⟨w,hw,n⟩:=z;exact⟨w,hw,An n⟩
theorem xL7{ws:C4}(h:∀w∈ws,Wd w):ws.map ln=rI' (ws.map dv):=by unfold rI';rw[Ar];exact Bb fun w hw=>Ae (h w hw)
section
variable {z p W:Str}{ws:C4}
theorem zK9(hw:∀w∈ws,Tx 400 w)(hl:ws.length<=1000)(he:iS (eS slD (eV 3) (oS (eC (.int 1))) oN) ρ=.ok (ws.map PyData.str)):eCompX (iS (eS slD (eV 3) (oS (eC (.int 1))) oN)) tYes (eF kS (aC (eV 0) aN)) [] ρ=.ok (lI (ws.map ln)):=by
 have:lI (ws.map ln)=.list (ws.map fun w=>PyData.int (ln w)):=by rw[lI,Ar];rfl
 rw[this];refine xT PyData.str (fun w=>PyData.int (ln w)) ws he hl fun w h=>?_;show eF kS (aC (eV 0) aN) [some (.str w)]=_;simp![yI9 (hw w h)]
theorem cut1:cutD (PyData.str W::ws.map PyData.str) (some 1) none=ws.map PyData.str:=by rw[show(1:Int)=((1:Nat):Int)from rfl,yK9];rfl
theorem zO8(hp:Tx 400 p)(ew:Txt.split p " "=W::ws):splD p (.str " ")=some (.list (.str W::ws.map PyData.str)):=by have lb:=xC;have l:=hp.len;unfold splD;rw[yV,AQ,Ae ⟨by decide,by rfl'⟩,ew];rfl
theorem xP4(hz:Tx 400 z)(es:Txt.split z " / "=ps):splD z (.str " / ")=some (.list (ps.map PyData.str)):=by have lb:=xC;have l:=hz.len;unfold splD;rw[yV,AQ,Ae ⟨by decide,by rfl'⟩,es]
theorem bY(hz:Tx 400 z)(es:Txt.split z " / "=p::ps)(ew:Txt.split p " "=W::ws):Tx 400 p/\Tx 400 W/\(∀w∈ws,Tx 400 w)/\ws.length<=400:=by have hp:Tx 400 p:=hz.part (y:=" / ") (by decide) (by rw[es];exact Af);have hw:∀w∈W::ws,Tx 400 w:=fun w h=>hp.part (y:=" ") (by decide) (by rw[ew];exact h);have l:=qC (x:=p) (y:=" ") (by decide);rw[ew,Aw]at l;have:=hp.len;exact⟨hp,hw W Af,fun w h=>hw w (Ak _ h),by rfl'⟩
theorem yY8(hz:Tx 400 z)(es:Txt.split z " / "=p::ps)(ew:Txt.split p " "=W::ws)(h:2<(p::ps).length\/¬∀w∈ws,Wd w):qV [.str z,dicD kn]=.ok (.bool false):=by obtain⟨hp,hW,hws,wl⟩:=bY hz es ew;have e1:=xP4 hz es;have e2:=zO8 hp ew;rw[AB]at e1;have cc:=zK9 (ρ:=[some (.str z),some (dicD kn),some (.list (.str p::ps.map PyData.str)),some (.list (.str W::ws.map PyData.str)),none,none]) hws (by rfl') (by simp![cut1]);have lp:(ps.map PyData.str).length=ps.length:=Aa ..;rw[Aw]at h;have ii:=xR1 false (-1) (ws.map ln);show(gB [some (.str z),some (dicD kn),none,none,none,none]).bind (fin false)=_;unfold gB;by_cases c:2<ps.length+1;simp![yQ,yV,e1,vO,e2,cc,lp,Ab (show(2:Int)<((ps.length+1:Nat):Int) by rfl')];rw[xS9.mpr (h.resolve_left c)]at ii;simp![yQ,yV,e1,vO,e2,cc,lp,Ad (show ¬(2:Int)<((ps.length+1:Nat):Int) by rfl'),show -(1:Int)=-1 from rfl,ii]
theorem xY4{v:Bool}(hz:Tx 400 z)(es:Txt.split z " / "=[p])(ew:Txt.split p " "=W::ws)(h:∀w∈ws,Wd w)(ef:bZ [.str W,lI (rI' (ws.map dv)),.int (-1)]=.ok (.bool v)):qV [.str z,dicD kn]=.ok (.bool v):=by
 obtain⟨hp,hW,hws,wl⟩:=bY hz es ew;have e1:=xP4 hz es;have e2:=zO8 hp ew;have e1:splD z (.str " / ")=some (.list [.str p]):=e1;have cc:=zK9 (ρ:=[some (.str z),some (dicD kn),some (.list [.str p]),some (.list (.str W::ws.map PyData.str)),none,none]) hws (by rfl') (by simp![cut1]);have ii:=xR1 false (-1) (ws.map ln);have nn:(ws.map ln).contains (-1)=false:=by rw[<-BV];exact fun z=>xS9.mp z h
 rw[nn]at ii;rw[xL7 h]at cc ii;show(gB [some (.str z),some (dicD kn),none,none,none,none]).bind (fin false)=_;unfold gB;simp![yQ,yV,e1,vO,e2,cc,show decide ((2:Int)<((0+1:Nat):Int))=false from rfl,show -(1:Int)=-1 from rfl,ii,yR,show decide (((0+1:Nat):Int)=2)=false from rfl,ef]
theorem yA2{v:Bool}{q:Str}(hz:Tx 400 z)(es:Txt.split z " / "=[p,q])(ew:Txt.split p " "=W::ws)(h:∀w∈ws,Wd w)(ef:bZ [.str W,lI (rI' (ws.map dv)),.int ((lookD (kn.map dkD) q).getD 0)]=.ok (.bool v)):qV [.str z,dicD kn]=.ok (.bool v):=by
 obtain⟨hp,hW,hws,wl⟩:=bY hz es ew;have e1:=xP4 hz es;have e2:=zO8 hp ew;have e1:splD z (.str " / ")=some (.list [.str p,.str q]):=e1;have cc:=zK9 (ρ:=[some (.str z),some (dicD kn),some (.list [.str p,.str q]),some (.list (.str W::ws.map PyData.str)),none,none]) hws (by rfl') (by simp![cut1]);have ii:=xR1 false (-1) (ws.map ln);have nn:(ws.map ln).contains (-1)=false:=by rw[<-BV];exact fun z=>xS9.mp z h
 rw[nn]at ii;rw[xL7 h]at cc ii;have a1:atI [PyData.str p,.str q] 1=some (.str q):=rfl;have dl:dicL (dicD kn)=some (kn.map dkD):=rfl;have gd:gtD (kn.map dkD) (.str q) (.int 0)=some (.int ((lookD (kn.map dkD) q).getD 0)):=rfl;show(gB [some (.str z),some (dicD kn),none,none,none,none]).bind (fin false)=_;unfold gB;simp![yQ,yV,e1,vO,e2,cc,show decide ((2:Int)<((0+1+1:Nat):Int))=false from rfl,show -(1:Int)=-1 from rfl,ii,yR,show decide (((0+1+1:Nat):Int)=2)=true from rfl,wJ3,dl,a1,gd,ef]
theorem xR5{m q:Str}(hz:Tx 400 z)(ep:Txt.partition z " / "=(p,m,q)):partD z (.str " / ")=some (.tuple [.str p,.str m,.str q]):=by have lb:=xC;have l:=hz.len;unfold partD;rw[yV,AQ,Ae ⟨by decide,by rfl'⟩,ep]
theorem xY7{m q:Str}(hz:Tx 400 z)(ep:Txt.partition z " / "=(p,m,q))(hp:Tx 400 p)(ew:Txt.split p " "=W::ws)(hws:∀w∈ws,Tx 400 w)(wl:ws.length<=400)(h:¬∀w∈ws,Wd w):uF [.str z]=.ex BT:=by
 have e1:=xR5 hz ep;have e2:=zO8 hp ew;have a0:∀x y z:D,atI [x,y,z] 0=some x:=fun _ _ _=>rfl;rcases cX hws (by rfl')with⟨y,_⟩|⟨_,e⟩
 exact absurd y h;show(kG [some (.str z),none,none,none]).bind (fin false)=_;unfold kG;simp![yQ,yV,e1,a0,e2,cut1,e]
theorem xY1{r:Res D}{q:Str}(hz:Tx 400 z)(ep:Txt.partition z " / "=(p,Str.empty,q))(hp:Tx 400 p)(ew:Txt.split p " "=W::ws)(hws:∀w∈ws,Tx 400 w)(wl:ws.length<=400)(h:∀w∈ws,Wd w)(er:yO [.str W,tI (rI' (ws.map dv))]=r):uF [.str z]=r:=by
 have e1:=xR5 hz ep;have e2:=zO8 hp ew;have a0:∀x y z:D,atI [x,y,z] 0=some x:=fun _ _ _=>rfl;have a1:∀x y z:D,atI [x,y,z] 1=some y:=fun _ _ _=>rfl;have ee:eqD (.str Str.empty) (.str "")=some true:=strEq pz.1;rcases cX hws (by rfl')with⟨_,e⟩|⟨y,_⟩
 show(kG [some (.str z),none,none,none]).bind (fin false)=_;unfold kG;simp![yQ,yV,e1,a0,e2,cut1,e,a1,ee,vO,er];cases r<;>rfl;exact absurd h y
theorem zO2{r s:Res D}{q:Str}(hz:Tx 400 z)(ep:Txt.partition z " / "=(p,(" / ":Str),q))(hp:Tx 400 p)(ew:Txt.split p " "=W::ws)(hws:∀w∈ws,Tx 400 w)(wl:ws.length<=400)(h:∀w∈ws,Wd w)(eo:wL [.str q]=s)(er:(s.bind fun d=>yE [.str W,tI (rI' (ws.map dv)),d])=r):uF [.str z]=r:=by
 have e1:=xR5 hz ep;have e2:=zO8 hp ew;have a0:∀x y z:D,atI [x,y,z] 0=some x:=fun _ _ _=>rfl;have a1:∀x y z:D,atI [x,y,z] 1=some y:=fun _ _ _=>rfl;have a2:∀x y z:D,atI [x,y,z] 2=some z:=fun _ _ _=>rfl;rcases cX hws (by rfl')with⟨_,e⟩|⟨y,_⟩
 show(kG [some (.str z),none,none,none]).bind (fin false)=_;unfold kG;subst er;cases s with
 |no=>simp![yQ,yV,e1,a0,e2,cut1,e,a1,strNe pz.2.2.1 pz.1 (by decide+kernel),vO,a2,eo]
 |ex c=>simp![yQ,yV,e1,a0,e2,cut1,e,a1,strNe pz.2.2.1 pz.1 (by decide+kernel),vO,a2,eo]
 |ok d=>simp![yQ,yV,e1,a0,e2,cut1,e,a1,strNe pz.2.2.1 pz.1 (by decide+kernel),vO,a2,eo];generalize yE [.str W,tI (rI' (ws.map dv)),d]=u;cases u<;>rfl
 exact absurd h y
end
theorem wM2{n:Nat}{xs:C6}(o:Ord n xs)(h5:5<=n):40∈tl (ordT n xs)/\52∈tl (ordT n xs):=by have m:4∈(rgs n xs n).flatten:=(zQ7 o).mem_iff.mpr (AH.mpr (by rfl'));obtain⟨r,hr,h4⟩:=Bu.mp m;have w:∀c,c∈tl (wT r)->c∈tl (ordT n xs):=fun c hc=>bW _ (Ay.mpr ⟨r,hr,rfl⟩) hc;refine⟨w _ ?_,w _ ?_⟩;unfold wT;rw[zE,zE];exact AG _ (AG _ (by decide+kernel));unfold wT;rw[zE,zE];exact AG _ (Ah _ (bW _ (Ay.mpr ⟨4,h4,rfl⟩) (by decide+kernel)))
theorem wW1{ns:C5}:¬Fit W ns 0:=fun z=>by unfold Fit at z;split at z;rfl';split at z;rfl';split at z;rfl';rfl'
theorem slash:tl " / "=[32,47,32]:=by decide+kernel
theorem wT9{z:Str}(h:Rr z):∃v:Bool,qV [.str z,dicD kn]=.ok (.bool v)/\((v=true/\∃s,OkT s/\uF [.str z]=.ok (.str s))\/(v=false/\∃c,Cx c/\uF [.str z]=.ex c)):=by
 have key:∀{p:Str}{ps:C4},Txt.split z " / "=p::ps->∃W ws,Txt.split p " "=W::ws/\ws.length<=60:=fun{p ps}es=>by
  cases ew:Txt.split p " " with
  |nil=>exact absurd ew (qM _ _)
  |cons W ws=>
   refine⟨W,ws,rfl,?_⟩;have a:=xG5 (x:=p) (y:=" ") (c:=32) (by decide+kernel);have b:(tl p).count 32<=(tl z).count 32:=by
    have j:=Co z " / ";rw[es]at j;cases ps with
    |nil=>rw[<-j];exact Ac _
    |cons q r=>rw[uG _ _ (by simp)]at j;rw[<-j,zE,DQ];rfl'
   rw[ew,Aw]at a;have:=h.sp;rfl'
 rcases xS1 z (y:=" / ") (by decide) (by decide+kernel)with⟨p,q,r,es,ep⟩|⟨es,ep⟩;obtain⟨W,ws,ew,wl⟩:=key es;obtain⟨hp,hW,hws,wl4⟩:=bY h.tx es ew;have ln:(ws.map dv).length<=60:=by rw[Aa];exact wl
 by_cases al:∀w∈ws,Wd w;have tj:Tx 400 (Str.join " / " (q::r)):=by have j:=Co z " / ";rw[es,uG _ _ (by simp)]at j;have l:=h.tx.len;rw[<-j,Ap,Ap]at l;exact⟨by rfl',fun c hc=>h.tx.asc c (by rw[<-j,zE,zE];exact Ah _ (Ah _ hc))⟩
 cases r with
 |nil=>
  have tq:Tx 400 q:=tj;have ep:Txt.partition z " / "=(p,(" / ":Str),q):=ep;by_cases c:∃n xs,Ord n xs/\1<=n/\n<=60/\ordT n xs=q;obtain⟨n,xs,o,h1,h2,e⟩:=c;have n5:n<=5:=by refine Nat.le_of_not_lt fun n6=>?_;have hz:=Co z " / ";rw[es]at hz;have hz:p++(" / "++q)=z:=(by rw[<-hz,uG _ _ (by simp)];rfl);have f47:=zU9 (c:=47) (.inr (.inr rfl)) (aZ o h1 h2);obtain⟨m1,m2⟩:=wM2 o (by rfl');rw[e]at f47 m1 m2;refine h.nf (tl p++[32]) (32::tl q) ?_ ?_ ⟨Ak _ m1,Ak _ m2⟩;rw[<-hz,zE,zE,slash,AM];rfl;exact fun y=>(AF.mp y).elim (fun y=>absurd y (by decide)) f47
  have lk:=(zI6 tq).1 n xs o h1 n5 e;have er:wL [.str q]=.ok (tI xs):=by rw[<-e]at tq⊢;exact yX3 o h1 h2 tq
  obtain⟨v,hv,ef⟩:=zX4 (b:=(n:Int)) hW ln;have el:qV [.str z,dicD kn]=.ok (.bool v):=yA2 h.tx es ew al (by rw[lk];exact ef);refine⟨v,el,?_⟩;rcases wO4 hW ln o h1 h2 with⟨ft,s,hs,ea⟩|⟨nf,c,hc,ea⟩;exact .inl ⟨hv.mpr ft,s,hs,zO2 h.tx ep hp ew hws wl4 al er ea⟩;exact .inr ⟨by rw[<-BV];exact fun y=>nf (hv.mp y),c,hc,zO2 h.tx ep hp ew hws wl4 al er ea⟩;have ng:∀n xs,Ord n xs->1<=n->n<=60->ordT n xs≠q:=fun n xs o h1 h2 e=>c ⟨n,xs,o,h1,h2,e⟩
  have lk:=(zI6 tq).2 fun n xs o h1 h5=>ng n xs o h1 (by rfl');obtain⟨v,hv,ef⟩:=zX4 (b:=0) hW ln;have v0:v=false:=by rw[<-BV];exact fun y=>wW1 (hv.mp y)
  have el:qV [.str z,dicD kn]=.ok (.bool v):=yA2 h.tx es ew al (by rw[lk];exact ef);exact⟨v,el,.inr ⟨v0,BT,rfl,zO2 h.tx ep hp ew hws wl4 al (xJ9 tq ng) rfl⟩⟩
 |cons q2 r=>refine⟨false,yY8 h.tx es ew (.inl (by simp only[Aw];rfl')),.inr ⟨rfl,BT,rfl,zO2 h.tx ep hp ew hws wl4 al (xJ9 tj fun n xs o h1 h2 e=>?_) rfl⟩⟩;have f47:=zU9 (c:=47) (.inr (.inr rfl)) (aZ o h1 h2);rw[e,uG _ _ (by simp),zE,zE,slash]at f47;exact f47 (Ah _ (AG _ (by decide)))
 exact⟨false,yY8 h.tx es ew (.inr al),.inr ⟨rfl,BT,rfl,xY7 h.tx ep hp ew hws wl4 al⟩⟩;obtain⟨W,ws,ew,wl⟩:=key es;obtain⟨hp,hW,hws,wl4⟩:=bY h.tx es ew;have ln:(ws.map dv).length<=60:=by rw[Aa];exact wl
 by_cases al:∀w∈ws,Wd w;obtain⟨v,hv,ef⟩:=zX4 (b:=-1) hW ln;refine⟨v,xY4 h.tx es ew al ef,?_⟩;rcases wR3 hW ln with⟨ft,s,hs,ea⟩|⟨nf,c,hc,ea⟩;exact .inl ⟨hv.mpr ft,s,hs,xY1 h.tx ep hp ew hws wl4 al ea⟩;exact .inr ⟨by rw[<-BV];exact fun y=>nf (hv.mp y),c,hc,xY1 h.tx ep hp ew hws wl4 al ea⟩;exact⟨false,yY8 h.tx es ew (.inr al),.inr ⟨rfl,BT,rfl,xY7 h.tx ep hp ew hws wl4 al⟩⟩
theorem zB5{z:Str}(h:Rr z):∃(v:Bool)(s:Str),qV [.str z,dicD kn]=.ok (.bool v)/\xM [.str z]=.ok (.str s)/\s.length<=13000/\10∉tl s/\PyData.strOk s=true/\decide (s="refused")=!v:=by
 obtain⟨v,el,hv⟩:=wT9 h;rcases hv with⟨rfl,s,hs,ea⟩|⟨rfl,c,hc,ea⟩;refine⟨true,s,el,?_,hs.len,hs.nl,hs.ok,by rw[Ad hs.ne];rfl⟩;have e:(sR (eF uF (aC (eV 0) aN))) [some (.str z)]=.ok (.rt (.str s)):=by simp![ea]
 show(wV [some (.str z)]).bind (fin false)=_;unfold wV;rw[wV3 e];rfl;refine⟨false,"refused",el,?_,by decide,by decide+kernel,by decide+kernel,by rw[Ab rfl];rfl⟩;have e:(sR (eF uF (aC (eV 0) aN))) [some (.str z)]=.ex c:=by simp![ea]
 show(wV [some (.str z)]).bind (fin false)=_;unfold wV;rw[wW9 e hc];rfl
theorem yZ6(hl:ts.length<=13)(ht:∀t∈ts,t.length<=13000):JoinOk "\n" ts=true/\(Str.join "\n" ts).length+2<=sizeLine:=by
 have c:("\n":Str).length=1:=rfl;have sl:sizeLine=16777216:=by decide
 have h1:=Bl 13000 hl;refine⟨?_,?_⟩;unfold JoinOk;rw[DY ht (by rw[c];rfl')];rfl;have a:=Dg "\n" ts;have b:=DN ts ht;rw[c]at a;rfl'
theorem xV4(h0:ts≠[])(hl:ts.length<=13)(ht:∀t∈ts,t.length<=13000)(hf:∀t∈ts,10∉tl t):splD (Str.join "\n" ts) (.str "\n")=some (.list (ts.map PyData.str)):=by unfold splD;rw[yV,AQ,Ae ⟨by decide,(yZ6 hl ht).2⟩,hU (c:=10) (y':=[]) rfl (by decide+kernel) h0 hf]
open Classical in
def an(z:Str):Str:=if h:Rr z then Classical.choose (AN (zB5 h))else""
open Classical in
def lt(z:Str):Bool:=if h:Rr z then Classical.choose (zB5 h)else false
theorem bM{z:Str}(h:Rr z):qV [.str z,dicD kn]=.ok (.bool (lt z))/\xM [.str z]=.ok (.str (an z))/\(an z).length<=13000/\10∉tl (an z)/\PyData.strOk (an z)=true/\decide (an z="refused")=!lt z:=by unfold an lt;rw[dif_pos h,dif_pos h];exact AN (AN (zB5 h))
section
variable {zs:C4}
theorem aL(h0:zs≠[])(hl:zs.length<=13)(hz:∀z∈zs,Rr z):vV [.str (Str.join "\n" zs)]=.ok (.str (Str.join "\n" (zs.map an))):=by
 have s:=xV4 h0 hl (fun z h=>As (hz z h).tx.len (by decide)) fun z h=>(hz z h).nl;have j:=uB (yZ6 (ts:=zs.map an) (by rw[Aa];exact hl) fun t ht=>by obtain⟨z,h,rfl⟩:=Ay.mp ht;exact(bM (hz z h)).2.2.1).1;have cc:eCompX (iS (eM1S splD (eV 0) (eC (.str "\n")))) tYes (eF xM (aC (eV 0) aN)) [] [some (.str (Str.join "\n" zs))]=.ok (.list ((zs.map an).map PyData.str)):=by rw[Ar];refine xT PyData.str (fun z=>PyData.str (an z)) zs (by simp![yQ,yV,s]) (by rfl') fun z h=>?_;show eF xM (aC (eV 0) aN) [some (.str z)]=_;simp![(bM (hz z h)).2.1]
 show(zV6 [some (.str (Str.join "\n" zs))]).bind (fin false)=_;unfold zV6;simp![yQ,yV,cc,j]
theorem xP1{z:Str}(h:Rr z):vV [.str z]=.ok (.str (an z)):=aL (zs:=[z]) (by simp) (BK rfl) fun x hx=>by rw[Bk.mp hx];exact h
theorem zC9(h0:zs≠[])(hl:zs.length<=13)(hz:∀z∈zs,Rr z):bQ [.list (zs.map PyData.str),dicD kn]=.ok (.bool true):=by
 have j:=uB (yZ6 hl fun z h=>As (hz z h).tx.len (by decide)).1;have ea:=aL h0 hl hz;have sp:=xV4 (ts:=zs.map an) (fun z=>h0 (CQ.mp z)) (by rw[Aa];exact hl) (fun t ht=>by
  obtain⟨z,h,rfl⟩:=Ay.mp ht;exact(bM (hz z h)).2.2.1) fun t ht=>by
  obtain⟨z,h,rfl⟩:=Ay.mp ht;exact(bM (hz z h)).2.2.2.1
 generalize Str.join "\n" (zs.map an)=A at ea sp;generalize Str.join "\n" zs=J at j ea;have l1:(zs.map PyData.str).length=zs.length:=Aa ..;have l2:((zs.map an).map PyData.str).length=zs.length:=by rw[Aa,Aa]
 show(zT3 [some (.list (zs.map PyData.str)),some (dicD kn),none,none]).bind (fin false)=_;unfold zT3;simp![yQ,yV,j,ea,sp,l1,l2,wF,decide_true,gH (show zs.length<=1000 by rfl')];refine vL (fun _ ρ=>∃x,ρ=[some (.list (zs.map PyData.str)),some (dicD kn),some (.list ((zs.map an).map PyData.str)),x]) ⟨none,rfl⟩ ?_ ?_;rintro i d ρ hd ⟨x,rfl⟩;obtain⟨hi,rfl⟩:=zZ7 hd;have a1:atI (zs.map PyData.str) (i:Int)=some (.str zs[i]):=jT (by rw[Al,Ag hi];rfl);have a2:atI ((zs.map an).map PyData.str) (i:Int)=some (.str (an zs[i])):=jT (by rw[Al,Al,Ag hi];rfl);have R:=hz _ (CV hi);generalize zs[i]=z at a1 a2 R;obtain⟨el,_,_,_,ok,v⟩:=bM R;have q1:=cU ok (show PyData.strOk "refused"=true by decide+kernel);rw[v]at q1;have q2:=xA5 (!lt z) (lt z);have q3:((!lt z)==lt z)=false:=by cases lt z<;>rfl
 rw[q3]at q2;have q4:=dD ok ok;rw[Ab rfl]at q4;refine⟨_,[some (.list (zs.map PyData.str)),some (dicD kn),some (.list ((zs.map an).map PyData.str)),some (.int (i:Int))],rfl,?_,_,rfl⟩;simp![a1,a2,q1,el,q2,xP1 R,q4];rintro ρ ⟨x,rfl⟩;simp -implicitDefEqProofs only[(evA)]
end
theorem cG:Rr "":=⟨⟨by decide,by decide+kernel⟩,by decide+kernel,by decide+kernel,fun a b e=>by
 have:tl ""=[]:=by decide+kernel
 rw[this]at e;have:=By List.length e;simp at this⟩
theorem xK6:an ""="refused":=by
 obtain⟨el,_,_,_,_,v⟩:=bM cG;have e0:(Str.join " / " [("":Str)])="":=rfl;have es:Txt.split "" " / "=[("":Str)]:=by rw[<-e0];exact hU (c:=32) (y':=[47,32]) slash (by decide+kernel) (by simp) fun p hp=>by rw[Bk.mp hp];decide+kernel
 have ew:Txt.split "" " "=("":Str)::[]:=by rw[<-show(Str.join " " [("":Str)])="" from rfl];exact hU (c:=32) (y':=[]) (by decide+kernel) (by decide+kernel) (by simp) fun p hp=>by rw[Bk.mp hp];decide+kernel
 obtain⟨w,hw,ef⟩:=zX4 (W:="") (ns:=[]) (b:=-1) cG.tx (by decide);have w0:w=false:=by rw[<-BV];intro y;have y:=hw.mp y;unfold Fit at y;rw[An (by decide+kernel),An (by decide+kernel),An (by decide+kernel),An (by decide+kernel),An (by decide+kernel),An (by decide+kernel)]at y;exact absurd y.2.1 (by decide+kernel)
 have e2:=xY4 (v:=w) cG.tx es ew (fun w h=>nomatch h) ef;rw[el,w0]at e2;injection e2 with e2;injection e2 with e2;rw[e2]at v;exact of_decide_eq_true v
structure Gd(z:Str):Prop where
 len:z.length<=40
 pl:∀c∈tl z,32<=c/\c<128
 sh:Sh (tl z)
structure Gs(s:C5):Prop where
 n52:52∉s
 sl:47∈s->40∉s
 len:s.length<=190
 pl:∀c∈s,32<=c/\c<128
 sp:s.count 32<=5
theorem dZ{z y:Str}(g:Gd z){u m v s:C5}(e:tl z=u++(m++v))(e':tl y=u++(s++v))(hs:Gs s):Rr y:=by
 have l:=g.len;have ls:=hs.len;rw[<-yM,e,Aj,Aj]at l;have ly:y.length=u.length+(s.length+v.length):=by rw[<-yM,e',Aj,Aj]
 have pl:∀c∈tl y,32<=c/\c<128:=fun c hc=>by rw[e']at hc;rcases AE.mp hc with hc|hc;exact g.pl c (by rw[e];exact AG _ hc);rcases AE.mp hc with hc|hc;exact hs.pl c hc;exact g.pl c (by rw[e];exact Ah _ (Ah _ hc))
 refine⟨⟨by rfl',fun c hc=>(pl c hc).2⟩,fun h=>absurd (pl 10 h).1 (by decide),?_,fun x w ex hw=>wH4 g.sh e hs.n52 hs.sl x w (by rw[<-e'];exact ex) hw⟩;have a:=List.count_le_length (a:=32) (l:=u);have b:=List.count_le_length (a:=32) (l:=v);have c:=hs.sp;rw[e',DQ,DQ];rfl'
theorem zE5:Gs []:=⟨by simp,by simp,by simp,by simp,by simp⟩
theorem Gd.rr{z:Str}(g:Gd z):Rr z:=dZ (u:=tl z) (m:=[]) (v:=[]) (s:=[]) g (by simp) (by simp) zE5
def gsB(s:C5):Bool:=!s.contains 52&&((!s.contains 47 || !s.contains 40)&&(decide (s.length<=190)&&(s.all (fun c=>decide (32<=c)&&decide (c<128))&&decide (s.count 32<=5))))
theorem yF3{s:C5}(h:gsB s=true):Gs s:=by unfold gsB at h;simp only[AL,Bool.or_eq_true,Bool.not_eq_true',decide_eq_true_iff,Bt,<-BV,AV]at h;obtain⟨h1,h2,h3,h4,h5⟩:=h;exact⟨h1,fun a=>h2.resolve_left (fun z=>z a),h3,h4,h5⟩
def Pl(x:Str):Prop:=∀c∈tl x,32<=c/\c<128/\c≠47/\c≠40
def plB(x:Str):Bool:=(tl x).all fun c=>decide (32<=c)&&(decide (c<128)&&(decide (c≠47)&&decide (c≠40)))
theorem yL4{x:Str}(h:plB x=true):Pl x:=fun c hc=>by have:=Bt.mp h c hc;simp only[AL,decide_eq_true_iff]at this;exact this
theorem Pl.app{a b:Str}(ha:Pl a)(hb:Pl b):Pl (a++b):=fun c hc=>by rw[zE]at hc;rcases AE.mp hc with h|h;exact ha c h;exact hb c h
theorem xF3(m:Nat):Pl (nT m):=fun c hc=>by rw[yP2]at hc;have:=yK1 m c hc;rfl'
theorem zD4(ns:C5):Pl (Str.join " " (ns.map nT)):=fun c hc=>by rcases yI4 _ hc with hc|⟨p,hp,hc⟩;exact yL4 (x:=" ") (by decide+kernel) c hc;obtain⟨x,_,rfl⟩:=Ay.mp hp;exact xF3 x c hc
theorem xO6:∀x,x<10->(nT x).length=1:=by decide+kernel
theorem zO1{ns:C5}(h0:ns≠[])(h:∀x∈ns,x<10)(hl:ns.length<=4):(Str.join " " (ns.map nT)).length<=7:=by
 have a:=zJ5 " " (ns.map nT) (fun z=>h0 (CQ.mp z));have b:((ns.map nT).map (·.length)).sum=ns.length:=by
  rw[Ar];clear h0 hl a;induction ns with
  |nil=>rfl
  |cons x l ih=>rw[AB,Cr,ih fun y hy=>h y (Ak _ hy),Aw];have:=xO6 x (h x Af);show(nT x).length+_=_;rfl'
 have c:(" ":Str).length=1:=rfl;rw[b,Aa,c]at a;rfl'
theorem zF7{x:Str}(p:Pl x)(hl:x.length<=40):Gd x:=⟨hl,fun c hc=>⟨(p c hc).1,(p c hc).2.1⟩,.inl ⟨fun h=>(p 47 h).2.2.1 rfl,fun h=>(p 40 h).2.2.2 rfl⟩⟩
def tB(t:Str):Bool:=decide (t.length<=16)&&(tl t).all fun c=>decide (32<=c)&&(decide (c<128)&&(decide (c≠47)&&decide (c≠52)))
theorem wA4:∀m,m<5->1<=m->∀i,i<fcN m->tB (ordT m (lawOrd (i:Int) m).1)=true:=by decide+kernel
theorem zD9{x t:Str}(p:Pl x)(hl:x.length<=20)(ht:tB t=true):Gd (x++(" / "++t)):=by
 unfold tB at ht;rw[AL,decide_eq_true_iff,Bt]at ht;obtain⟨l,q⟩:=ht;have q:∀c∈tl t,32<=c/\c<128/\c≠47/\c≠52:=fun c hc=>by have:=q c hc;simp only[AL,decide_eq_true_iff]at this;exact this
 have l3:(" / ":Str).length=3:=rfl;refine⟨by rw[Ap,Ap,l3];rfl',fun c hc=>?_,.inr ⟨tl x++[32],32::tl t,by rw[zE,zE,slash,AM];rfl,fun h=>?_,fun h=>?_,fun h=>?_⟩⟩;rw[zE,zE,slash]at hc;rcases AE.mp hc with hc|hc;exact⟨(p c hc).1,(p c hc).2.1⟩;rcases AE.mp hc with hc|hc;simp only[AF,List.not_mem_nil,or_false]at hc;rfl';exact⟨(q c hc).1,(q c hc).2.1⟩;rcases AE.mp h with h|h;exact(p 47 h).2.2.1 rfl;simp at h;rcases AF.mp h with h|h;rfl';exact(q 47 h).2.2.1 rfl;rcases AF.mp h with h|h;rfl';exact(q 52 h).2.2.2 rfl
theorem modN(a b:Nat)(h:0<b):modO (a:Int) (b:Int)=some ((a%b:Nat):Int):=by unfold modO;rw[Ae (by rfl')];rfl
theorem divN(a b:Nat)(h:0<b)(h2:b<1073741824):fdivO (a:Int) (b:Int)=some ((a/b:Nat):Int):=by unfold fdivO;rw[Ae (DivOk.small (by rfl') (by rfl'))];rfl
theorem cS{a b:Str}(h:a.length+b.length<=2000):catS (.str a) (.str b)=some (.str (a++b)):=by have lb:=xC;exact Ae (by rfl')
theorem yR1(c:Nat):∃z,Gd z/\cQ [.int (c:Int)]=.ok (.str z):=by
 have lb:=xC;have d8:fdivO (c:Int) 8=some ((c/8:Nat):Int):=divN c 8 (by decide) (by decide);have m4:modO ((c/8:Nat):Int) 4=some ((c/8%4:Nat):Int):=modN (c/8) 4 (by decide);obtain⟨m,hm⟩:∃m,1+c/8%4=m:=⟨_,rfl⟩;have m1:1<=m:=by rfl'
 have m4':m<=4:=by rfl'
 have em:(1:Int)+((c/8%4:Nat):Int)=(m:Int):=by rfl'
 have d32:fdivO (c:Int) 32=some ((c/32:Nat):Int):=divN c 32 (by decide) (by decide);have mm:=modN (c/32) m m1;have km:=Bq (c/32) m1;obtain⟨k,hk⟩:∃k,1+c/32%m=k:=⟨_,rfl⟩;have ek:(1:Int)+((c/32%m:Nat):Int)=(k:Int):=by rfl'
 have d128:fdivO (c:Int) 128=some ((c/128:Nat):Int):=divN c 128 (by decide) (by decide);have m3:modO ((c/128:Nat):Int) 3=some ((c/128%3:Nat):Int):=modN (c/128) 3 (by decide);have x3:=Bq (c/128) (show 0<3 by decide);have e1:(m:Int)+1=((m+1:Nat):Int):=by rfl'
 have mo:=modN (c/32) (m+1) (by rfl');have om:=Bq (c/32) (show 0<m+1 by rfl');have mg:=modN (c/128) (m+1) (by rfl');have gm:=Bq (c/128) (show 0<m+1 by rfl');have es:(m:Int)-1=((m-1:Nat):Int):=by rfl'
 have d512:fdivO (c:Int) 512=some ((c/512:Nat):Int):=divN c 512 (by decide) (by decide);have m8:modO (c:Int) 8=some ((c%8:Nat):Int):=modN c 8 (by decide);have w8:=Bq c (show 0<8 by decide);generalize c/128%3=x at x3 m3;generalize c/32%(m+1)=o at mo om;generalize c/128%(m+1)=g at mg gm;generalize c%8=w at m8 w8;have eo:=zG9 ((c/512:Nat):Int) m (by rfl');have oo:=hZ ((c/512:Nat):Int) m;have et:=yU9 oo m1 (by rfl');obtain⟨i,hi,ei⟩:=xF1 oo m1 (by rfl');have tb:=wA4 m (by rfl') m1 i hi;unfold kf at ei;rw[ei]at tb;generalize (lawOrd ((c/512:Nat):Int) m).1=xs at eo et tb;generalize ordT m xs=t at et tb;have tl16:t.length<=16:=by unfold tB at tb;rw[AL,decide_eq_true_iff]at tb;exact tb.1
 have c0:=cS (a:=" / ") (b:=t) (by have:(" / ":Str).length=3:=rfl;rfl');have rp:repL (.list [.int (m:Int)]) (.int ((m-1:Nat):Int))=some (lI (List.replicate (m-1) (m:Int))):=by rw[cJ _ _ (by rfl'),lI,Ep]
 obtain⟨os,hos⟩:∃os,os=o::List.replicate (m-1) m:=⟨_,rfl⟩;have co:catL (.list [.int (o:Int)]) (lI (List.replicate (m-1) (m:Int)))=some (lI (rI' os)):=by
  have e:lI (rI' os)=.list ([PyData.int (o:Int)]++(List.replicate (m-1) (m:Int)).map PyData.int):=by rw[hos];unfold rI' lI;rw[AB,Ep];rfl
  rw[e];exact Ae (by rw[Aa,Bz];have:[PyData.int (o:Int)].length=1:=rfl;rfl')
 have ol:os.length=m:=by rw[hos,Aw,Bz];rfl'
 have o9:∀y∈os,y<10:=fun y hy=>by rw[hos]at hy;rcases AF.mp hy with rfl|hy;rfl';rw[DA hy];rfl'
 have bg:∀y:Nat,y<10->y<10^400:=fun y hy=>AA hy (by decide+kernel);have o0:os≠[]:=by rw[hos];simp
 have b1:=fS (ns:=os) (.inr rfl) (fun y hy=>bg y (o9 y hy)) (by rfl');have s2:∀y∈[m,k],y<10:=fun y hy=>by simp at hy;rfl'
 have s3:∀y∈[m,k,x],y<10:=fun y hy=>by simp at hy;rfl'
 have s4:∀y∈[m,k,g],y<10:=fun y hy=>by simp at hy;rfl'
 have b2:wO [.list [.int (m:Int),.int (k:Int)]]=_:=fS (ns:=[m,k]) (.inr rfl) (fun y hy=>bg y (s2 y hy)) (BK rfl);have b3:wO [.list [.int (m:Int),.int (k:Int),.int (x:Int)]]=_:=fS (ns:=[m,k,x]) (.inr rfl) (fun y hy=>bg y (s3 y hy)) (BK rfl);have b4:wO [.list [.int (m:Int),.int (k:Int),.int (g:Int)]]=_:=fS (ns:=[m,k,g]) (.inr rfl) (fun y hy=>bg y (s4 y hy)) (BK rfl);have l1:=zO1 o0 o9 (by rfl');have l2:=zO1 (by simp) s2 (BK rfl);have l3:=zO1 (by simp) s3 (BK rfl);have l4:=zO1 (by simp) s4 (BK rfl);have p1:=zD4 os;have p2:=zD4 [m,k];have p3:=zD4 [m,k,x];have p4:=zD4 [m,k,g];have so:strOfD [.int (k:Int)]=some (.str (nT k)):=wE8 (AA (show k<10 by rfl') (by decide+kernel));have lk:=xO6 k (by rfl');have pk:=xF3 k;generalize Str.join " " (os.map nT)=B1 at b1 l1 p1;generalize Str.join " " ([m,k].map nT)=B2 at b2 l2 p2;generalize Str.join " " ([m,k,x].map nT)=B3 at b3 l3 p3;generalize Str.join " " ([m,k,g].map nT)=B4 at b4 l4 p4;generalize nT k=K at so lk pk;have n3:(" / ":Str).length=3:=rfl;have n5:("rings":Str).length=5/\("find ":Str).length=5/\("need ":Str).length=5/\("help ":Str).length=5/\("share ":Str).length=6/\("good ":Str).length=5/\("goodorder ":Str).length=10/\("group ":Str).length=6:=by decide+kernel
 obtain⟨i1,i2,i3,i4,i5,i6,i7,i8⟩:=n5;have q1:=cS (a:="rings") (b:=" / "++t) (by rw[Ap];rfl');have q2:=cS (a:="find ") (b:=B1) (by rfl');have q2':=cS (a:="find "++B1) (b:=" / "++t) (by rw[Ap,Ap];rfl');have q3:=cS (a:="need ") (b:=K) (by rfl');have q3':=cS (a:="need "++K) (b:=" / "++t) (by rw[Ap,Ap];rfl');have q4:=cS (a:="help ") (b:=K) (by rfl');have q4':=cS (a:="help "++K) (b:=" / "++t) (by rw[Ap,Ap];rfl');have q5:=cS (a:="share ") (b:=B1) (by rfl');have q6:=cS (a:="good ") (b:=B2) (by rfl');have q7:=cS (a:="goodorder ") (b:=B3) (by rfl');have q8:=cS (a:="group ") (b:=B4) (by rfl');have a1:atI [PyData.int (m:Int),.int (k:Int),.int (x:Int)] 1=some (.int (k:Int)):=rfl;have sl:cutD [PyData.int (m:Int),.int (k:Int),.int (x:Int)] none (some 2)=[.int (m:Int),.int (k:Int)]:=rfl;have ct:∀a b c d e:D,catL (.list [a,b,c]) (.list [d,e])=some (.list [a,b,c,d,e]):=fun _ _ _ _ _=>rfl;have ct2:∀a b c d e f g:D,catL (.list [a,b,c,d,e]) (.list [f,g])=some (.list [a,b,c,d,e,f,g]):=fun _ _ _ _ _ _ _=>rfl;have ap:∀a b c d e f g h:D,appD [a,b,c,d,e,f,g] [h]=some [a,b,c,d,e,f,g,h]:=fun _ _ _ _ _ _ _ _=>rfl;have hd:∀{h y:Str},plB h=true->Pl y->Pl (h++y):=fun a b=>(yL4 a).app b;obtain⟨z,gz,iz⟩:∃z,Gd z/\atI [PyData.str ("rings"++(" / "++t)),.str ("find "++B1++(" / "++t)),.str ("need "++K++(" / "++t)),.str ("help "++K++(" / "++t)),.str ("share "++B1),.str ("good "++B2),.str ("goodorder "++B3),.str ("group "++B4)] (w:Int)=some (.str z):=by
  match w,w8 with
  |0,_=>exact⟨_,zD9 (yL4 (by decide+kernel)) (by rfl') tb,rfl⟩
  |1,_=>exact⟨_,zD9 (hd (by decide+kernel) p1) (by rw[Ap];rfl') tb,rfl⟩
  |2,_=>exact⟨_,zD9 (hd (by decide+kernel) pk) (by rw[Ap];rfl') tb,rfl⟩
  |3,_=>exact⟨_,zD9 (hd (by decide+kernel) pk) (by rw[Ap];rfl') tb,rfl⟩
  |4,_=>exact⟨_,zF7 (hd (by decide+kernel) p1) (by rw[Ap];rfl'),rfl⟩
  |5,_=>exact⟨_,zF7 (hd (by decide+kernel) p2) (by rw[Ap];rfl'),rfl⟩
  |6,_=>exact⟨_,zF7 (hd (by decide+kernel) p3) (by rw[Ap];rfl'),rfl⟩
  |7,_=>exact⟨_,zF7 (hd (by decide+kernel) p4) (by rw[Ap];rfl'),rfl⟩
 refine⟨z,gz,?_⟩;show(bX [some (.int (c:Int)),none,none,none,none,none]).bind (fin false)=_;unfold bX;simp![d8,m4,em,d32,mm,ek,d128,m3,d512,eo,et,c0,e1,mo,es,rp,co,b1,q1,q2,q2',a1,so,q3,q3',q4,q4',q5,ct,sl,b2,q6,b3,q7,ct2,mg,b4,q8,ap,m8,iz]
def pre(A:C4):C5:=A.flatMap fun a=>tl a++[32]
def post(B:C4):C5:=B.flatMap fun b=>32::tl b
theorem fY:∀(A B:C4)(w:Str),tl (Str.join " " (A++w::B))=pre A++(tl w++post B)
 |[],[],w=>by show tl w=[]++(tl w++[]);simp
 |[],b::B,w=>by have ih:=fY [] B b;show tl (Str.join " " (w::b::B))=_;rw[uG _ _ (by simp),zE,zE,show tl " "=[32] by decide+kernel];rw[Dh]at ih;rw[ih];rfl
 |a::A,B,w=>by have ih:=fY A B w;show tl (Str.join " " (a::(A++w::B)))=_;rw[uG _ _ (by simp),zE,zE,show tl " "=[32] by decide+kernel,ih];show _=((tl a++[32])++pre A)++_;simp only[AM]
theorem yU1{α:Type}:∀(A B:List α)(s:α),(A++s::B).eraseIdx A.length=A++B
 |[],B,s=>rfl
 |a::A,B,s=>by show a::(A++s::B).eraseIdx A.length=_;rw[yU1 A B s];rfl
theorem jOk(h:∀t∈ts,t.length<=1000)(hl:ts.length<=1000):joinD " " (.list (ts.map PyData.str))=some (.str (Str.join " " ts)):=by refine uB ?_;unfold JoinOk;have h1:=Bl 1000 hl;have c:(" ":Str).length=1:=rfl;rw[DY h (by rw[c];rfl')];rfl
theorem setS{v:Str}{k:Nat}(h:k<ts.length):setD (ts.map PyData.str) (.int (k:Int)) (.str v)=some ((ts.set k v).map PyData.str):=by unfold setD;simp only;rw[Aa,zB9 h,Bn,List.map_set]
def S14:C4:=[" ","/","(",")","0","1","5","-","a","+","_","9"," / ",")("]
def z89:Str:=Txt.mul "0" 89
def z90:Str:=Txt.mul "0" 90
def M12:C4:=["good","rings","finds","60","61","0","-1","01","","1"++z89,"1"++z90,"(0)"]
theorem wJ5:∀s∈S14,gsB (tl s)=true:=by decide+kernel
theorem wD7:∀s∈M12,gsB (tl s)=true/\gsB (tl s++32::tl s)=true:=by decide+kernel
theorem mkL14(a b c d e f g h i j k l m n:D):mkL [a,b,c,d,e,f,g,h,i,j,k,l,m,n]=some (.list [a,b,c,d,e,f,g,h,i,j,k,l,m,n]):=Ae (show 14<=sizeLine by decide)
theorem mkL12(a b c d e f g h i j k l:D):mkL [a,b,c,d,e,f,g,h,i,j,k,l]=some (.list [a,b,c,d,e,f,g,h,i,j,k,l]):=Ae (show 12<=sizeLine by decide)
theorem yC3{i:Nat}(h:i<ts.length):atI (ts.map PyData.str) (i:Int)=some (.str ts[i]):=jT (by rw[Al,Ag h];rfl)
theorem stI{i:Nat}{k v:B5}{b:B6}{xs ys:D0}{kd vd:D}(hv:v ρ=.ok vd)(hx:eV i ρ=.ok (.list xs))(hk:k ρ=.ok kd)(h:setD xs kd vd=some ys):sQ (sI i k v) b ρ=b (ρ.set i (some (.list ys))):=by rw[vM,wU8,hv,Res.bind_ok,hx,Res.bind_ok,show Res.lft (lstD (.list xs))=.ok xs from rfl,Res.bind_ok,hk,Res.bind_ok,h];rfl
theorem yC1{z:Str}(g:Gd z)(c:Nat):∃y,Rr y/\zW3 [.str z,.int (c:Int)]=.ok (.str y):=by
 have lb:=xC;have lz:=g.len;have hz:Tx 40 z:=⟨lz,fun x hx=>(g.pl x hx).2⟩;have d4:fdivO (c:Int) 4=some ((c/4:Nat):Int):=divN c 4 (by decide) (by decide);have lT:lenTD [.str z]=some (.int (z.length:Int)):=Ae (by rfl');have e1:(z.length:Int)+1=((z.length+1:Nat):Int):=by rfl'
 have mp:=modN (c/4) (z.length+1) (by rfl');have pl:=Bq (c/4) (show 0<z.length+1 by rfl');generalize c/4%(z.length+1)=p at mp pl;have d300:fdivO (c:Int) 300=some ((c/300:Nat):Int):=divN c 300 (by decide) (by decide);have m14:modO ((c/300:Nat):Int) 14=some ((c/300%14:Nat):Int):=modN (c/300) 14 (by decide);have w14:c/300%14<S14.length:=Bq _ (by decide);have is:atI [PyData.str " ",.str "/",.str "(",.str ")",.str "0",.str "1",.str "5",.str "-",.str "a",.str "+",.str "_",.str "9",.str " / ",.str ")("] ((c/300%14:Nat):Int)=some (.str S14[c/300%14]):=yC3 w14;have gs:=yF3 (wJ5 _ (CV w14));generalize S14[c/300%14]=sg at is gs;have lsg:=gs.len;rw[yM]at lsg;have m4:modO (c:Int) 4=some ((c%4:Nat):Int):=modN c 4 (by decide);have s1:slS (.str z) none (some (p:Int))=some (.str (Txt.slice z none (some (p:Int)))):=by unfold slS;rw[yV,AQ,Ae (by rfl')]
 have s2:slS (.str z) (some (p:Int)) none=some (.str (Txt.slice z (some (p:Int)) none)):=by unfold slS;rw[yV,AQ,Ae (by rfl')]
 have s3:slS (.str z) (some ((p:Int)+1)) none=some (.str (Txt.slice z (some ((p+1:Nat):Int)) none)):=by unfold slS;rw[yV,AQ,Ae (by rfl')];rfl
 have tp:=vZ6 z p;have tq:=yB1 z p;have tq1:=yB1 z (p+1);have lf:=Eh z none (some (p:Int));have lf2:=Eh z (some (p:Int)) none;have lf3:=Eh z (some ((p+1:Nat):Int)) none;generalize Txt.slice z none (some (p:Int))=f at s1 tp lf;generalize Txt.slice z (some (p:Int)) none=r1 at s2 tq lf2;generalize Txt.slice z (some ((p+1:Nat):Int)) none=r2 at s3 tq1 lf3;have lfs:(f++sg).length=f.length+sg.length:=Ap ..;have b1:=cS (a:=f) (b:=sg) (by rfl');have b2:=cS (a:=f++sg) (b:=r1) (by rfl');have b3:=cS (a:=f++sg) (b:=r2) (by rfl');show ∃y,_/\(zV4 [some (.str z),some (.int (c:Int)),none,none,none,none,none]).bind (fin false)=_;unfold zV4;rw[stS (d:=.int (p:Int)) (by simp![d4,lT,e1,mp]),stS (d:=.str sg) (by simp![mkL14,d300,m14,is])];simp only[Cz,Cy];have te:∀(i:Int)(b:Bool)(r:Ev),decide (((c%4:Nat):Int)=i)=b->L2.L3.b2 eqD (e2 modI (eV 1) (eC (.int 4))) (eC (.int i)) (some (.str z)::some (.int (c:Int))::r)=.ok b:=fun i b r h=>by simp![m4,yR,h]
 by_cases c1:((c%4:Nat):Int)=1;exact⟨f++sg++r1,dZ g (u:=(tl z).take p) (m:=[]) (v:=(tl z).drop p) (s:=tl sg) (by simp) (by rw[zE,zE,tp,tq,AM]) gs,tak (te 1 _ _ (Ab c1)) (by simp![s1,s2,b1,b2])⟩;rw[skip (te 1 _ _ (Ad c1))];by_cases c2:((c%4:Nat):Int)=2;exact⟨f++sg++r2,dZ g (u:=(tl z).take p) (m:=((tl z).drop p).take 1) (v:=(tl z).drop (p+1)) (s:=tl sg) (by rw[<-Eo,BA,BA]) (by rw[zE,zE,tp,tq1,AM]) gs,tak (te 2 _ _ (Ab c2)) (by simp![s1,s3,b1,b3])⟩;rw[skip (te 2 _ _ (Ad c2))];have js:=Co z " ";have wl:=qC (x:=z) (y:=" ") (by decide);have w0:=BJ.mpr (qM z " ");have wt:∀t∈Txt.split z " ",t.length<=40:=fun t ht=>As (yX5 (by decide) ht) lz;have sp:splD z (.str " ")=some (.list ((Txt.split z " ").map PyData.str)):=by unfold splD;rw[yV,AQ,Ae ⟨by decide,by rfl'⟩]
 generalize Txt.split z " "=ws at js wl w0 wt sp;have lw:(ws.map PyData.str).length=ws.length:=Aa ..;have mq:=modN (c/4) ws.length w0;have ql:=Bq (c/4) w0;generalize c/4%ws.length=q at mq ql;have r89:repSD (.str "0") (.int 89)=some (.str z89):=by show(if FewT "0" 89 then some (PyData.str (Txt.mul "0" 89))else none)=_;exact Ae ⟨by decide,by decide,by decide+kernel⟩
 have r90:repSD (.str "0") (.int 90)=some (.str z90):=by show(if FewT "0" 90 then some (PyData.str (Txt.mul "0" 90))else none)=_;exact Ae ⟨by decide,by decide,by decide+kernel⟩
 have c89:catS (.str "1") (.str z89)=some (.str ("1"++z89)):=cS (by decide+kernel);have c90:catS (.str "1") (.str z90)=some (.str ("1"++z90)):=cS (by decide+kernel);have m12:modO ((c/300:Nat):Int) 12=some ((c/300%12:Nat):Int):=modN (c/300) 12 (by decide);have w12:c/300%12<M12.length:=Bq _ (by decide);have im:=yC3 w12;obtain⟨ga,gb⟩:=wD7 _ (CV w12);generalize M12[c/300%12]=s at im ga gb;have ga:=yF3 ga;have gb:=yF3 gb;have ls:=ga.len;rw[yM]at ls;have st:=setS (ts:=ws) (v:=s) ql;have d40:fdivO (c:Int) 4000=some ((c/4000:Nat):Int):=divN c 4000 (by decide) (by decide);have m3:modO ((c/4000:Nat):Int) 3=some ((c/4000%3:Nat):Int):=modN (c/4000) 3 (by decide);have t3:=Bq (c/4000) (show 0<3 by decide);generalize c/4000%3=k at m3 t3;obtain⟨A,w,B,eA,ew⟩:∃A w B,A.length=q/\ws=A++w::B:=⟨ws.take q,ws[q],ws.drop (q+1),by rw[BF];rfl',by rw[List.getElem_cons_drop,BA]⟩;have eset:ws.set q s=A++s::B:=by rw[ew,<-eA,List.set_append_right _ _ (Ac _),Nat.sub_self];rfl
 rw[eset]at st;have tz:tl z=pre A++(tl w++post B):=by rw[<-js,ew,fY]
 have mem:∀t,t∈A\/t=s\/t∈B->t.length<=1000:=fun t ht=>by rcases ht with h|rfl|h;exact As (wt t (by rw[ew];exact AG _ h)) (by decide);rfl';exact As (wt t (by rw[ew];exact Ah _ (Ak _ h))) (by decide)
 have lAB:A.length+(B.length+1)=ws.length:=by rw[ew,Aj,Aw]
 rw[stS (d:=.list (ws.map PyData.str)) (by simp![yQ,yV,sp]),stS (d:=.int (q:Int)) (by simp![d4,lw,mq]),stS (d:=.list (M12.map PyData.str)) (by simp![r89,r90,c89,c90,mkL12];rfl)];simp only[Cz,Cy];rw[stI (vd:=.str s) (by simp![d300,m12,im]) rfl rfl st];simp only[Cz,Cy]
 match k,t3 with
 |0,_=>have j:=jOk (ts:=A++s::B) (fun t ht=>mem t (by simp at ht;exact ht)) (by rw[Aj,Aw];rfl');refine⟨_,dZ g tz (fY A B s) ga,?_⟩;simp![d40,m3,yR,yQ,yV,show decide (((0:Nat):Int)=1)=false from rfl,show decide (((0:Nat):Int)=2)=false from rfl,j]
 |1,_=>
  have pp:popD ((A++s::B).map PyData.str) [.int (q:Int)]=some ((A++B).map PyData.str):=by
   show(if 0<=(q:Int)/\(q:Int)<(((A++s::B).map PyData.str).length:Nat)/\(q:Int)<2^63 then some (((A++s::B).map PyData.str).eraseIdx (q:Int).toNat)else none)=_;have l2:((A++s::B).map PyData.str).length=ws.length:=by rw[Aa,Aj,Aw];rfl'
   rw[l2,Ae ⟨by rfl',by rfl',by rfl'⟩,AX,<-eA,show A.length=(A.map PyData.str).length from(Aa ..).symm,AJ,AB,yU1,AJ]
  have j:=jOk (ts:=A++B) (fun t ht=>mem t (by simp at ht;exact ht.elim .inl fun h=>.inr (.inr h))) (by rw[Aj];rfl');refine⟨Str.join " " (A++B),?_,?_⟩;cases B with
  |cons b B=>exact dZ g (u:=pre A) (m:=tl w++[32]) (v:=tl b++post B) (s:=[]) (by rw[tz,AM];rfl) (fY A B b) zE5
  |nil=>rw[BP];rcases List.eq_nil_or_concat A with rfl|⟨A',a,rfl⟩;exact dZ g (u:=[]) (m:=tl z) (v:=[]) (s:=[]) (by simp) (by show tl ""=_;decide+kernel) zE5;refine dZ g (u:=pre A'++tl a) (m:=32::tl w) (v:=[]) (s:=[]) ?_ ?_ zE5;rw[tz];unfold pre post;simp;rw[List.concat_eq_append,fY A' [] a];unfold post;simp
  simp![d40,m3,yR,yQ,yV,show decide (((1:Nat):Int)=1)=true from rfl,pp,show decide (((1:Nat):Int)=2)=false from rfl,j]
 |2,_=>
  have at':atI ((A++s::B).map PyData.str) (q:Int)=some (.str s):=jT (by rw[Al,<-eA,Cu (Ac _),Nat.sub_self];rfl);have l2:((A++s::B).map PyData.str).length=ws.length:=by rw[Aa,Aj,Aw];rfl'
  have ii:=xE6 (l:=(A++s::B).map PyData.str) (d:=.str s) (i:=(q:Int)) (by rfl') (by rw[l2];rfl') (by rw[l2];rfl');rw[AX,<-Es,<-Et,<-eA,List.take_left,List.drop_left,<-AB (f:=PyData.str),<-AJ,eA]at ii;have j:=jOk (ts:=A++s::s::B) (fun t ht=>mem t (by simp at ht;exact ht)) (by rw[Aj,Aw,Aw];rfl');refine⟨_,dZ g (s:=tl s++32::tl s) tz (by rw[fY A (s::B) s,AM];rfl) gb,?_⟩;simp![d40,m3,yR,yQ,yV,show decide (((2:Nat):Int)=1)=false from rfl,show decide (((2:Nat):Int)=2)=true from rfl,at',ii,j]
theorem yJ1(v:Int):∃z,Rr z/\cV [.int v]=.ok (.str z):=by
 have av:absD [.int v]=some (.int ((v.natAbs:Nat):Int)):=by
  have q:(if v<0 then -v else v)=((v.natAbs:Nat):Int):=by split<;>rfl'
  show some (PyData.int (if v<0 then -v else v))=_;rw[q]
 generalize v.natAbs=c at av;have d5:fdivO (c:Int) 5=some ((c/5:Nat):Int):=divN c 5 (by decide) (by decide);have m16:modO ((c/5:Nat):Int) 16=some ((c/5%16:Nat):Int):=modN (c/5) 16 (by decide);have d4:fdivO (c:Int) 4=some ((c/4:Nat):Int):=divN c 4 (by decide) (by decide);have d8:fdivO ((c/4:Nat):Int) 8192=some ((c/4/8192:Nat):Int):=divN (c/4) 8192 (by decide) (by decide);have m4:modO (c:Int) 4=some ((c%4:Nat):Int):=modN c 4 (by decide);have ea:((c/4/8192:Nat):Int)+((c%4:Nat):Int)=((c/4/8192+c%4:Nat):Int):=by rfl'
 obtain⟨z,g,eg⟩:=yR1 (c/4);obtain⟨y,hy,es⟩:=yC1 g (c/4/8192+c%4);show ∃z,_/\(yZ1 [some (.int v),none]).bind (fin false)=_;unfold yZ1;by_cases c7:c/5%16=7;refine⟨"",cG,?_⟩;simp![av,d5,m16,yR,Ab (show((c/5%16:Nat):Int)=7 by rfl')];have n7:=Ad (show ¬((c/5%16:Nat):Int)=7 by rfl');by_cases c0:c%4=0;refine⟨z,g.rr,?_⟩;simp![av,d5,m16,yR,n7,d4,eg,m4,Ab (show((c%4:Nat):Int)=0 by rfl')];refine⟨y,hy,?_⟩;simp![av,d5,m16,yR,n7,d4,eg,m4,Ad (show ¬((c%4:Nat):Int)=0 by rfl'),d8,ea,es]
def rwZ(v:Int):Str:=Classical.choose (yJ1 v)
theorem xE1(v:Int):Rr (rwZ v)/\cV [.int v]=.ok (.str (rwZ v)):=AN (yJ1 v)
theorem wO9{α:Type}(xs:List α){a b:Nat}(h1:a<=xs.length):cutD xs (some (a:Int)) (some (b:Int))=(xs.drop a).take (b-a):=by unfold cutD;rw[HT.yZ8,HT.yZ8,DB h1];by_cases h:b<=xs.length;rw[DB h];rw[Nat.min_eq_right (by rfl'),Bd (by rw[Bs];rfl'),Bd (by rw[Bs];rfl')]
theorem rng12{N:Nat}(h1:1<=N)(h2:N<=64):rng3 [.int 0,.int (N:Int),.int 12]=some ((List.range ((N+11)/12)).map fun(m:Nat)=>PyData.int (((12*m:Nat)):Int)):=by
 have ok:∀n,n<65->StepOk 0 ((n:Nat):Int) 12:=by decide+kernel
 have u:∀i j k:Int,StepOk i j k->rng3 [.int i,.int j,.int k]=some ((List.range (Builtin.Range.rangeSize i j k).toNat).map fun(m:Nat)=>PyData.int (i+(m:Int)*k)):=fun i j k h=>Ae h;rw[u 0 (N:Int) 12 (ok N (by rfl'))];have e:(Builtin.Range.rangeSize 0 (N:Int) 12).toNat=(N+11)/12:=by unfold Builtin.Range.rangeSize;rw[Ae (by decide),Ae (by rfl')];rfl'
 rw[e];refine By some (Bb fun m _=>?_);rw[show(0:Int)+(m:Int)*12=((12*m:Nat):Int) by rfl']
theorem law_true(ns:C6)(h:ns.length<=63):xQ8 [.list (ns.map PyData.int)]=.ok (.bool true):=by
 have lb:=xC;have lc:catL (.list [.int 4]) (lI ns)=some (lI (4::ns)):=xV6 (xs:=[4]) (ys:=ns) (by simp;rfl');obtain⟨z0,r,ezs⟩:∃z0 r,(4::ns).map rwZ=z0::r:=⟨_,_,AB⟩;obtain⟨zs,hzs⟩:∃zs,zs=z0::r:=⟨_,rfl⟩;rw[<-hzs]at ezs;have hz:∀z∈zs,Rr z:=fun z q=>by rw[<-ezs]at q;obtain⟨v,_,rfl⟩:=Ay.mp q;exact(xE1 v).1
 have lz:zs.length=ns.length+1:=by rw[<-ezs,Aa,Aw]
 have cc:eCompX (iS (e2 catL (eB mkL (aC (eC (.int 4)) aN)) (eB listD (aC (eV 0) aN)))) tYes (eF cV (aC (eV 0) aN)) [] [some (lI ns),some (dicD kn),none,none]=.ok (.list (zs.map PyData.str)):=by rw[<-ezs,Ar];refine xT PyData.int (fun v=>PyData.str (rwZ v)) (4::ns) (by simp![lc]) (by rw[Aw];rfl') fun v _=>?_;show eF cV (aC (eV 0) aN) [some (.int v)]=_;simp![(xE1 v).2]
 have ll:(zs.map PyData.str).length=zs.length:=Aa ..;have a0:atI (zs.map PyData.str) 0=some (.str z0):=by rw[hzs,AB];exact vO ..
 have R0:=hz z0 (by rw[hzs];exact Af);have l0:=R0.tx.len;have la:=(bM R0).2.2.1;have oa:=(bM R0).2.2.2.2.1;have n1:("\n":Str).length=1:=rfl;have n8:("refused\n":Str).length=8:=by decide+kernel
 have e0:=xP1 cG;rw[xK6]at e0;have c0:catS (.str "\n") (.str z0)=some (.str ("\n"++z0)):=cS (by rfl');have e1:vV [.str ("\n"++z0)]=.ok (.str ("refused\n"++an z0)):=by
  have e:=aL (zs:=[("":Str),z0]) (by simp) (BK rfl) fun z q=>by rcases AF.mp q with rfl|q;exact cG;rw[Bk.mp q];exact R0
  have j1:Str.join "\n" [("":Str),z0]="\n"++z0:=kZ (by show tl (""++"\n"++z0)=_;rw[zE,zE,zE];rfl);have j2:Str.join "\n" ([("":Str),z0].map an)="refused\n"++an z0:=by show an ""++"\n"++an z0=_;rw[xK6,show("refused":Str)++"\n"="refused\n" from kZ (by decide+kernel)]
  rw[j1,j2]at e;exact e
 have c1:catS (.str "refused\n") (.str (an z0))=some (.str ("refused\n"++an z0)):=Ae (by rfl');have q0:=strEq (show PyData.strOk "refused"=true by decide+kernel);have q1:=strEq (jR (show PyData.strOk "refused\n"=true by decide+kernel) oa);show(xT7 [some (lI ns),none,none,none]).bind (fin false)=_;unfold xT7;simp![wJ4,xQ4,cc,ll,rng12 (show 1<=zs.length by rfl') (show zs.length<=64 by rfl')];refine vL (fun _ ρ=>∃x,ρ=[some (lI ns),some (dicD kn),some (.list (zs.map PyData.str)),x]) ⟨none,rfl⟩ ?_ ?_;rintro i d ρ hd ⟨x,rfl⟩;rw[Al]at hd;obtain⟨m,hm,rfl⟩:=Az.mp hd;obtain⟨h',hm⟩:=AD.mp hm;rw[List.getElem_range]at hm;subst hm;rw[Aq]at h';obtain⟨ch,hch⟩:∃ch,ch=(zs.drop (12*i)).take 12:=⟨_,rfl⟩;have ct:cutD (zs.map PyData.str) (some ((12*i:Nat):Int)) (some (((12*i:Nat):Int)+12))=ch.map PyData.str:=by rw[show((12*i:Nat):Int)+12=((12*i+12:Nat):Int) by rfl',wO9 _ (by rw[Aa];rfl'),<-Et,<-Es,hch,show 12*i+12-12*i=12 by rfl']
 have hc:∀q∈ch,Rr q:=fun q h=>by rw[hch]at h;exact hz q (List.mem_of_mem_drop (List.mem_of_mem_take h))
 have cl:ch.length<=12:=by rw[hch,BF];rfl'
 have cne:ch≠[]:=fun z=>by have:=By List.length z;rw[hch,BF,Bs]at this;simp at this;rfl'
 have s1:=zC9 cne (by rfl') hc;have s2:=zC9 (zs:=ch++[("":Str)]) (by simp) (by rw[Aj];show _+1<=13;rfl') fun q hq=>by rcases AE.mp hq with hq|hq;exact hc q hq;rw[Bk.mp hq];exact cG
 have cat:catL (.list (ch.map PyData.str)) (.list [.str ""])=some (.list ((ch++[("":Str)]).map PyData.str)):=by rw[AJ];exact Ae (by rw[Aa];show _+1<=_;rfl')
 refine⟨_,[some (lI ns),some (dicD kn),some (.list (zs.map PyData.str)),some (.int ((12*i:Nat):Int))],rfl,?_,_,rfl⟩;simp![ct,s1,cat,s2];rintro ρ ⟨x,rfl⟩;simp![e0,q0,a0,c0,e1,xP1 R0,c1,q1]
end K55
namespace K55
open PySem PySem.W L2 L2.L3
structure Kt(K:Frag)(R0 R1 R2 R3 R4 R5 R6:Addr)(u:Value)(b0 b1 b2 b3 b4 b5 b6:Bool):Prop where
 z:kitOne K (.type "NoneType") u=some false
 t0:kitOne K (.ref R0) u=some b0
 t1:kitOne K (.ref R1) u=some b1
 t2:kitOne K (.ref R2) u=some b2
 t3:kitOne K (.ref R3) u=some b3
 t4:kitOne K (.ref R4) u=some b4
 t5:kitOne K (.ref R5) u=some b5
 t6:kitOne K (.ref R6) u=some b6
structure Bg(K:Frag)(A0 A1 A2 A3 A4 A5 A6 A7:Addr):Prop where
 n0:NmK K "BadGroup" A0
 n1:NmK K "BadOpenings" A1
 n2:NmK K "BadOrder" A2
 n3:NmK K "BadText" A3
 n4:NmK K "BoxError" A4
 n5:NmK K "NoHelp" A5
 n6:NmK K "NoNumber" A6
 n7:NmK K "TooMany" A7
 o0:excIn K A2 bmV "ValueError.__new__"=true
 g0:Ex6 K A2
 o1:excIn K A1 bmV "ValueError.__new__"=true
 g1:Ex6 K A1
 o2:excIn K A7 bmV "ValueError.__new__"=true
 g2:Ex6 K A7
 o3:excIn K A0 bmV "ValueError.__new__"=true
 g3:Ex6 K A0
 o4:excIn K A5 bmV "ValueError.__new__"=true
 g4:Ex6 K A5
 o5:excIn K A6 bmV "ValueError.__new__"=true
 g5:Ex6 K A6
 g6:Ex6 K A3
 b0:kitOne K (.ref A2) (.type "BaseException")=some true
 m0:typeIn K (.ref A2)=some (.type "type")
 s0:subIn K (.ref A2) (.ref A2)=some true
 b1:kitOne K (.ref A4) (.type "BaseException")=some true
 c1_0:kitOne K (.ref A2) (.ref A4)=some true
 d1_0:(Value.ref A2==Value.ref A4)=false
 c1_1:kitOne K (.ref A1) (.ref A4)=some true
 d1_1:(Value.ref A1==Value.ref A4)=false
 c1_2:kitOne K (.ref A7) (.ref A4)=some true
 d1_2:(Value.ref A7==Value.ref A4)=false
 c1_3:kitOne K (.ref A0) (.ref A4)=some true
 d1_3:(Value.ref A0==Value.ref A4)=false
 c1_4:kitOne K (.ref A5) (.ref A4)=some true
 d1_4:(Value.ref A5==Value.ref A4)=false
 c1_5:kitOne K (.ref A6) (.ref A4)=some true
 d1_5:(Value.ref A6==Value.ref A4)=false
 c1_6:kitOne K (.ref A3) (.ref A4)=some true
 d1_6:(Value.ref A3==Value.ref A4)=false
 xe:ExIn K A3 bmV "ValueError.__new__"
 xr:RowCls K A3
 xf:BtFi K A3 zI3
 xk:keepIn K (.ref A3)=true
 xb:BaseIni K A4
 xn0:(Value.ref A2==Value.ref A3)=false
theorem big{K:Frag}{A0 A1 A2 A3 A4 A5 A6 A7:Addr}(h:Bg K A0 A1 A2 A3 A4 A5 A6 A7):∃A0 A1 A2 A3 A4 A5 A6 A7,Bg K A0 A1 A2 A3 A4 A5 A6 A7:=⟨_,_,_,_,_,_,_,_,h⟩
end K55
def PySem.W.Fast.tw13672158639028883900 : Unit := ()
theorem PySem.W.Fast.te13672158639028883900 : True := trivial
def PySem.W.Fast.tw13922629351841303580 : PySem.Program := PySem.Challenge.pw_ownboxes_k55_rows_refused
theorem PySem.W.Fast.te13922629351841303580 : PySem.Challenge.pw_ownboxes_k55_rows_refused = PySem.W.Fast.tw13922629351841303580 := rfl
namespace PySem.W.Fast
def tw8506021254099874053:=()
def tw16297606328820108848:=()
def tw13230433096024008613:=()
def tw2213774842885831745:=()
def tw5343641276422950278:=()
def tw4981715378892856531:=()
def tw6030640689700247710:=()
def tw1155842733837587311:=()
def tw366817438904862062:=()
def tw9760681120017058914:=()
def tw17380855003503283053:=()
def tw12895336412916500571:=()
def tw13818065888854089430:=()
def tw9846987229288791538:=()
def tw2776179800164769271:=()
def tw14852999809703508546:=()
def tw9496703677728561456:=()
def tw7435203672599632356:=()
def tw2981835893521168118:=()
def tw13483991524222939098:=()
def tw17656923779026185255:=()
def tw15902997062986657640:=()
def tw4945835652426401796:=()
def tw13469960399556680279:=()
def tw12250520873796461338:=()
def tw3771666416956971336:=()
def tw14770769981046602195:=()
def tw10305491641649706232:=()
def tw11229087558118458775:=()
def tw10986619096448989038:=()
def tw9355727597193529756:=()
def tw11842381640308046517:=()
def tw13627408862081425210:=()
def tw1740149200617033608:=()
def tw17833558632562679612:=()
def tw12185405345576535458:=()
def tw1569644881338654285:=()
def tw5410215386796152830:=()
def tw12865625730706614713:=()
def tw16266893383978890615:=()
def tw15233001983695563431:=()
def tw17792532649850319579:=()
def tw17950078505842744392:=()
def tw17745119922252026121:=()
def tw12025057013290987965:=()
def tw15738501954285745145:=()
def tw9879588606132440270:=()
def tw16103348679866796472:=()
def tw17516319179602997897:=()
def tw4675209801272398915:=()
def tw13406695869444058064:=()
def tw266386523637557790:=()
def tw10504252630432684860:=()
def tw5393502720121283953:=()
def tw13852505305677219224:=()
def tw15528534688590614942:=()
def tw2914055964332999251:=()
def tw6522283731914659997:=()
def tw12115805418993037125:=()
def tw15743208500800472118:=()
def tw1055525690272505770:=()
def tw2482351891885605481:=()
def tw9477533281323806604:=()
def tw13808731429950806631:=()
def tw17576765585262487207:=()
def tw2143680958128340167:=()
def tw4414635230632981557:=()
def tw2085109082805101302:=()
def tw14801781475505546212:=()
def tw4378778361598181272:=()
def tw12741786628221314462:=()
end PySem.W.Fast
open PySem PySem.W PyProof.Rows L2 L2.L3
set_option hygiene false in
local macro_rules| `(tactic|sleep 10)=>`(tactic|(refine' ⟨_,_,zQ3 KX G ?a ?l ?c ?k ?b⟩; (case a|l|c|k=>k_is); (case b=>intro _ _ _ _ _ _;refine ls0 ?_;exact rfl)))
set_option hygiene false in
local macro_rules| `(tactic|sleep 11)=>`(tactic|(refine' ⟨_,_,zQ3 KX G ?a ?l ?c ?k ?b⟩; (case a|l|c|k=>k_is); (case b=>intro _ _ _ _ _ _;refine ls1 ?_;exact fun _=>rfl)))
set_option hygiene false in
local macro_rules| `(tactic|sleep 12)=>`(tactic|(refine' ⟨_,_,zQ3 KX G ?a ?l ?c ?k ?b⟩; (case a|l|c|k=>k_is); (case b=>intro _ _ _ _ _ _;refine ls2 ?_;exact fun _ _=>rfl)))
set_option hygiene false in
local macro_rules| `(tactic|sleep 13)=>`(tactic|(refine' ⟨_,_,zQ3 KX G ?a ?l ?c ?k ?b⟩; (case a|l|c|k=>k_is); (case b=>intro _ _ _ _ _ _;refine ls3 ?_;exact fun _ _ _=>rfl)))
set_option hygiene false in
local macro_rules| `(tactic|sleep 20)=>`(tactic|exact mg_none_of KX G (by k_is))
set_option hygiene false in
local macro_rules| `(tactic|sleep 21)=>`(tactic|(refine' ⟨_,mg_of KX G ?y,?x⟩; (case y=>k_is); (case x=>exact⟨_,rfl⟩)))
set_option maxRecDepth 100000 in
set_option maxHeartbeats 0 in
theorem PySem.Challenge.cw_ownboxes_k55_rows_refused_holds : PySem.Challenge.rw_ownboxes_k55_rows_refused.Holds := by
 w_on;o_law;k_head; (case hw=>w_witness2)
 k_fill
 refine xI8 (F:=K55.xQ8) (k:=11) (l:=PySem.Challenge.rw_ownboxes_k55_rows_refused) K55.law_true ⟨rfl,by decide,by decide⟩ rfl rfl (fun w h Y=>kIn_of Y) (fun w=>by rfl) ?F
 case F=>
  intro w mg fa h KX G hmg
  letI cn:CN:=cnOf (KOf KX)
  have D:∃f fd,Has (KOf KX) mg "law" K55.yR7 f fd ["script"]/\(∀(s:Shared)(u:Value),BindsTo s fd ⟨[u],[]⟩ [("script",u)]):=by
   dsimp only[KOf];refine' ⟨_,_,zQ3 KX G ?a ?l ?c ?k ?b,fun s u=>.of_eq rfl⟩
   (case a|l|c|k=>k_is)
   (case b=>intro _ _ _ _ _ _;refine ls1 ?_;exact fun _=>rfl)
  have BIG:∃A0 A1 A2 A3 A4 A5 A6 A7,K55.Bg (KOf KX) A0 A1 A2 A3 A4 A5 A6 A7:=by
   dsimp only[KOf];refine' K55.big ⟨⟨?n0⟩,⟨?n1⟩,⟨?n2⟩,⟨?n3⟩,⟨?n4⟩,⟨?n5⟩,⟨?n6⟩,⟨?n7⟩,?o0,⟨?g0a,?g0b,?g0c,?g0d,?g0e,?g0f⟩,?o1,⟨?g1a,?g1b,?g1c,?g1d,?g1e,?g1f⟩,?o2,⟨?g2a,?g2b,?g2c,?g2d,?g2e,?g2f⟩,?o3,⟨?g3a,?g3b,?g3c,?g3d,?g3e,?g3f⟩,?o4,⟨?g4a,?g4b,?g4c,?g4d,?g4e,?g4f⟩,?o5,⟨?g5a,?g5b,?g5c,?g5d,?g5e,?g5f⟩,⟨?g6a,?g6b,?g6c,?g6d,?g6e,?g6f⟩,?b0,?m0,?s0,?b1,?c1_0,?d1_0,?c1_1,?d1_1,?c1_2,?d1_2,?c1_3,?d1_3,?c1_4,?d1_4,?c1_5,?d1_5,?c1_6,?d1_6,wN5 ?e0 ?e1,xK2 ?e2 ?e3 ?e4 ?e5,wP3 ?e6 ?e7 ?e8 ?e9 ?ea ?eb,?ec,⟨?ed,?ee,?ef⟩,?en0⟩
   (case n0|n1|n2|n3|n4|n5|n6|n7=>k_is)
   (case o0=>k_exc)
   (case g0a|g0b|g0c=>k_is)
   (case g0d|g0e=>kit_is)
   (case g0f=>first|k_is|rfl|decide+kernel)
   (case o1=>k_exc)
   (case g1a|g1b|g1c=>k_is)
   (case g1d|g1e=>kit_is)
   (case g1f=>first|k_is|rfl|decide+kernel)
   (case o2=>k_exc)
   (case g2a|g2b|g2c=>k_is)
   (case g2d|g2e=>kit_is)
   (case g2f=>first|k_is|rfl|decide+kernel)
   (case o3=>k_exc)
   (case g3a|g3b|g3c=>k_is)
   (case g3d|g3e=>kit_is)
   (case g3f=>first|k_is|rfl|decide+kernel)
   (case o4=>k_exc)
   (case g4a|g4b|g4c=>k_is)
   (case g4d|g4e=>kit_is)
   (case g4f=>first|k_is|rfl|decide+kernel)
   (case o5=>k_exc)
   (case g5a|g5b|g5c=>k_is)
   (case g5d|g5e=>kit_is)
   (case g5f=>first|k_is|rfl|decide+kernel)
   (case g6a|g6b|g6c=>k_is)
   (case g6d|g6e=>kit_is)
   (case g6f=>first|k_is|rfl|decide+kernel)
   (case b0=>kit_is)
   (case m0|s0=>k_is)
   (case b1|c1_0=>kit_is)
   (case d1_0=>decide)
   (case c1_1=>kit_is)
   (case d1_1=>decide)
   (case c1_2=>kit_is)
   (case d1_2=>decide)
   (case c1_3=>kit_is)
   (case d1_3=>decide)
   (case c1_4=>kit_is)
   (case d1_4=>decide)
   (case c1_5=>kit_is)
   (case d1_5=>decide)
   (case c1_6=>kit_is)
   (case d1_6=>decide)
   (case e0=>k_is)
   (case e1=>k_exc)
   (case e2|e3=>k_is)
   (case e4=>rfl)
   (case e5|e6|e7|e8|e9|ea=>k_is)
   (case eb=>intro _ _ _ _ _ _;refine ls2 ?_;exact fun _ _=>rfl)
   (case ec|ed|ee|ef=>k_is)
   (case en0=>decide)
  obtain⟨A0,A1,A2,A3,A4,A5,A6,A7,Z⟩:=BIG;have e:CN.ad "BadGroup"=A0:=aU Z.n0.n;subst e;have e:CN.ad "BadOpenings"=A1:=aU Z.n1.n;subst e;have e:CN.ad "BadOrder"=A2:=aU Z.n2.n;subst e;have e:CN.ad "BadText"=A3:=aU Z.n3.n;subst e;have e:CN.ad "BoxError"=A4:=aU Z.n4.n;subst e;have e:CN.ad "NoHelp"=A5:=aU Z.n5.n;subst e;have e:CN.ad "NoNumber"=A6:=aU Z.n6.n;subst e;have e:CN.ad "TooMany"=A7:=aU Z.n7.n;subst e;have T:K55.Txt (KOf KX) mg:=by dsimp only[KOf];exact⟨by sleep 20,by sleep 20,by sleep 20,by sleep 20,by sleep 20,by sleep 20,by sleep 20,by sleep 20,by sleep 20,by sleep 20,by sleep 20,by sleep 20,by sleep 20,by sleep 21,by sleep 21,by sleep 11,by sleep 12,by sleep 11,by sleep 11,by sleep 11,by sleep 12,by sleep 12,by sleep 11,by sleep 12,by sleep 13,by sleep 12,by sleep 12,by sleep 12,by sleep 11,by sleep 12,by sleep 11,by sleep 12,by sleep 12,by sleep 12,by sleep 13,by sleep 12,by sleep 12,by sleep 12,by sleep 12,by sleep 12,by sleep 13,by sleep 13,by sleep 13,by sleep 11,by sleep 12,by sleep 12,by sleep 11,by sleep 11,by sleep 11,by sleep 11,by sleep 11,by sleep 11,by sleep 12,by sleep 11,by sleep 12,by sleep 13,by sleep 11,by sleep 11,by sleep 11,by sleep 12,by sleep 11,by sleep 11,by sleep 11,by sleep 12,by sleep 11,by sleep 10,by sleep 13,by sleep 12,by sleep 11,by sleep 12,by sleep 11,by sleep 12,let ⟨f,fd,h,_⟩:=D; ⟨f,fd,h⟩,mg_of KX G Z.n0.n,mg_of KX G Z.n1.n,mg_of KX G Z.n2.n,mg_of KX G Z.n3.n,mg_of KX G Z.n4.n,mg_of KX G Z.n5.n,mg_of KX G Z.n6.n,mg_of KX G Z.n7.n,Z.o3,Z.o1,Z.o0,Z.o4,Z.o5,Z.o2,wT2 (Bx.2 ⟨yE4 Z.g0.g6 Z.m0 Z.s0,(fun _ h=>nomatch h)⟩),xY8 Z.b0,wT2 (Bx.2 ⟨uI Z.c1_0 Z.d1_0,Bx.2 ⟨uI Z.c1_1 Z.d1_1,Bx.2 ⟨uI Z.c1_2 Z.d1_2,Bx.2 ⟨uI Z.c1_3 Z.d1_3,Bx.2 ⟨uI Z.c1_4 Z.d1_4,Bx.2 ⟨uI Z.c1_5 Z.d1_5,Bx.2 ⟨uI Z.c1_6 Z.d1_6,(fun _ h=>nomatch h)⟩⟩⟩⟩⟩⟩⟩),xY8 Z.b1,Z.xe,Z.xf,Z.xk,Z.xb,Z.xr,wK6 Z.xn0⟩
  obtain⟨fl,fdl,HL,HB⟩:=D;have e0:=hmg.symm.trans HL.m;cases e0;exact⟨fdl,HB,fun base kb nb=>K55.wB8 T HL⟩
