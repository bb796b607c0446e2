import PyProof.Rows.All
import Wide.All
import OpenK.AllK
import Wide.FinOn
import Lean
import PyProof.EqAt
import PyProof.EqKinds
import PyProof.TupleCall
import KE.KIntText
import PyProof.Rows.Range3
import PyProof.ListRange
import PyProof.TupleOfGen
import KE.KRevIter
import PyProof.Draws
import PyProof.EnumMake
import PyProof.CollectIter
import PyProof.RangeFor
import PyProof.ZipIter
import PyProof.InstStoreFacts
import PyProof.StrWalks
import PyProof.StrBlock2
import KE.IntTextText
import PySem.Challenge.RW_ownboxes_k51_the_first_bad_row
set_option compiler.extract_closed false
theorem dA(_h:True:=by first | exact .inl rfl | exact .inr rfl | assumption):True:=trivial
theorem zH(_h:True:=by decide):True:=trivial
theorem wT(_h:True:=by intro _;rfl):True:=trivial
theorem zY(_h:True:=by rfl):True:=trivial
theorem yH8(_h:True:=by with_unfolding_all rfl):True:=trivial
theorem aJ(_h:True:=by first | exact Or.inl rfl | exact Or.inr (Or.inl rfl) | exact Or.inr (Or.inr rfl)):True:=trivial
theorem xL5(_h:True:=by exact fun _ _=>rfl):True:=trivial
theorem yU6(_h:True:=by first | exact nomark _ | rfl):True:=trivial
theorem zZ4(_h:True:=by first | exact Or.inl rfl | exact Or.inr rfl):True:=trivial
theorem autoK12(_h:True:=by first | exact .inl rfl | exact .inr rfl):True:=trivial
theorem autoK13(_h:True:=by exact PassesOwn.never):True:=trivial
theorem autoK14(_h:True:=by decide +kernel):True:=trivial
def DF:=dA._auto_1
def DG:=wT._auto_1
def DH:=zH._auto_1
def DI:=zY._auto_1
local macro_rules | `(tactic| rfl')=>`(tactic| first | lia | omega)
local macro_rules | `(tactic| sleep 3)=>`(tactic| first | exact Or.inl rfl | exact Or.inr rfl)
set_option Elab.async false
set_option linter.all false
set_option maxRecDepth 100000
set_option maxHeartbeats 4000000
noncomputable section
def Aa:=@decide_eq_true
def Ab:=@PySem.wpAny_bind
def Ac:=@List.length_map
def Ad:=@decide_eq_false
def Ae:=@List.mem_cons_self
def Af:=@List.length_append
def Ag:=@PySem.Str.length_append
def Ah:=@List.mem_append_right
def Ai:=@List.mem_cons_of_mem
def Aj:=@List.getElem?_eq_getElem
def Ak:=@if_pos
def Al:=@Nat.le_refl
def Am:=@PySem.Heap.lt_size
def An:=@PySem.Heap.get?_push_of_some
def Ao:=@PySem.wpAny_pure
def Ap:=@Bool.false_ne_true
def Aq:=@List.length_cons
def Ar:=@Nat.lt_of_lt_of_le
def As:=@List.length_drop
def Au:=@List.getElem?_eq_some_iff
def Av:=@PySem.boot_len
def Aw:=@List.mem_cons
def Ax:=@if_neg
def Ay:=@Bool.and_eq_true
def Az:=@Option.bind_some
def AA:=@List.getElem?_map
def AB:=@List.mem_append
def AC:=@List.size_toArray
def AD:=@List.mem_range
def AE:=@PySem.Heap.get?_update_other
def AF:=@Bool.false_eq_true
def AG:=@List.getElem?_set_ne
def AH:=@PySem.Heap.get?_push_size
def AI:=@List.map_cons
def AJ:=@Nat.le_trans
def AK:=@Option.map_eq_some_iff
def AL:=@Nat.ne_of_lt
def AM:=@Nat.zero_le
def AN:=@Option.bind_eq_some_iff
def AO:=@List.append_assoc
def AQ:=@List.length_range
def AR:=@List.mem_map
def AS:=@List.all_eq_true
def AT:=@List.contains_iff_mem
def AU:=@Classical.choose_spec
def AV:=@List.take_of_length_le
def AW:=@List.mem_append_left
def AX:=@Ne.symm
def AY:=@Array.getElem?_eq_some_iff
def AZ:=@congrArg
def Ba:=@Option.some.inj
def Bb:=@List.mem_of_getElem?
def Bc:=@PySem.mem_of_lookup
def Bd:=@List.map_map
def Be:=@List.getD_eq_getElem?_getD
def Bf:=@PySem.Heap.get?_update_self
def Bh:=@List.map_append
def Bi:=@List.length_pos_iff
def Bj:=@PySem.PassesOwn.leaving
def Bk:=@List.getElem?_range
def Bl:=@List.drop_eq_getElem_cons
def Bm:=@PySem.W.kia_one
def Bn:=@List.length_take
def Bo:=@Int.toNat_natCast
def Bp:=@PySem.Obj.data_mapFields
def Bq:=@PySem.F.slot_list_append
def Bs:=@PySem.F.type_list_append
def Bt:=@List.length_singleton
def Bu:=@List.append_nil
def Bv:=@Bool.true_and
def Bw:=@List.forall_mem_cons
def Bx:=@List.getElem?_set_self
def By:=@List.getElem?_eq_none
def Bz:=@List.mem_filterMap
def BA:=@Bool.not_false
def BB:=@Nat.mul_le_mul_right
def BC:=@List.mem_filter
def BD:=@List.lookup_cons
def BE:=@List.drop_eq_nil_of_le
def BF:=@List.getElem?_append_left
def BG:=@List.drop_sublist
def BH:=@List.mem_singleton
def BJ:=@List.getElem?_cons_succ
def BK:=@Bool.not_true
def BL:=@Bool.false_and
def BM:=@List.getElem?_append_right
def BN:=@Option.map_some
def BO:=@PyProof.Rows.slot_tuple_getitem
def BP:=@PySem.Obj.isFreed_of_fields
def BQ:=@List.drop_length
def BR:=@List.contains_cons
def BS:=@Bool.not_eq_true
def BU:=@Nat.le_of_lt
def BV:=@List.drop_drop
def BW:=@List.drop_append_of_le_length
def BX:=@PySem.F.plainAttrs_list
def BY:=@List.length_set
def BZ:=@PyProof.Rows.boot_isinstance
def Ca:=@List.length_nil
def Cb:=@PyProof.Rows.callWith_type1
def Cc:=@Nat.not_lt
def Cd:=@PySem.F.excBase_ValueError
def Ce:=@List.mem_of_mem_drop
def Cf:=@List.count_append
def Cg:=@Nat.lt_irrefl
def Ch:=@PySem.W.hideAll_get
def Ci:=@List.map_congr_left
def Cj:=@List.drop_zero
def Ck:=@List.take_length
def Cm:=@Nat.min_eq_right
def Cn:=@List.take_append_of_le_length
def Co:=@Nat.ne_of_gt
def Cp:=@Nat.add_zero
def Cq:=@PySem.F.plainAttrs_str
def Cr:=@PySem.F.slot_str_split
def Cs:=@PySem.F.type_str_split
def Cu:=@List.countP_append
def Cv:=@List.nodup_cons
def Cw:=@Nat.min_eq_left
def Cy:=@List.sum_cons
def Cz:=@PySem.F.slot_str_startswith
def CA:=@PySem.F.type_str_startswith
def CC:=@PySem.W.hideAll_none
def CD:=@PySem.Heap.get?_none_of_le
def CF:=@PySem.F.args_list_append_2
def CG:=@PySem.Heap.size_push
def CH:=@Bool.and_eq_true_iff
def CI:=@List.drop_left
def CJ:=@Nat.pow_le_pow_right
def CK:=@Nat.lt_succ_self
def CL:=@List.sublist_append_right
def CM:=@List.filterMap_cons
def CO:=@PySem.F.entry_list_append
def CP:=@List.getElem?_take_of_lt
def CQ:=@List.range_succ
def CS:=@PySem.W.of_hideAll
def CT:=@PySem.W.callWith_K
def CU:=@PySem.F.slot_list_append
def CV:=@Nat.lt_of_le_of_lt
def CW:=@List.getElem?_drop
def CY:=@List.findIdx?_eq_some_iff_getElem
def CZ:=@PySem.W.cellsFrom_some
def Da:=@PySem.list_append
def Db:=@Nat.sub_zero
def Dc:=@PySem.W.funFrames_hide
def Dd:=@Bool.and_false
def De:=@List.takeWhile_sublist
def Df:=@List.length_replicate
def Dg:=@PyProof.Rows.boot_min
def Dh:=@PySem.F.slot_str_join
def Di:=@PySem.F.type_str_join
def Dj:=@List.take_append_drop
def Dk:=@List.countP_eq_length
def Dl:=@PySem.IsL.update
def Dm:=@Nat.mod_eq_of_lt
def Dn:=@Nat.mod_lt
def Do:=@List.getElem_mem
def Dp:=@Nat.succ_ne_zero
def Dq:=@List.all_cons
def Dr:=@List.any_cons
def Ds:=@PySem.W.looks_findIn
def Dt:=@List.mem_of_mem_take
def Dv:=@List.range_eq_range'
def Dw:=@List.of_mem_zip
def Dx:=@Bool.eq_iff_iff
def Dy:=@Array.length_toList
def Dz:=@Nat.mul_le_mul_left
def DA:=@PySem.Txt.slice_le
def DB:=@Nat.succ_mul
def DC:=@Nat.eq_zero_or_pos
def DD:=@PySem.Code.quiet_builtin
def DE:=@PySem.F.args_str_split_2
abbrev KFr:=PySem.W.Frag
namespace L2
open PySem PySem.Spec PyProof.Rows
abbrev Key:=Sum Int Str
def keyIs:Key->Value->Bool
 | .inl k,v=>Value.isInt k v
 | .inr x,v=>Value.isStrOf x v
def keyH(w:World):Key->Int
 | .inl k=>hashInt k
 | .inr x=>hashStr w x
theorem wZ:∀{k:Key}{v:Value},keyIs k v=true->(∃i t,k=Sum.inl i/\v=Value.int i t)\/(∃x t,k=Sum.inr x/\v=Value.str x t)
 | .inl i,v,h=>by
  obtain⟨t,e⟩:=Value.isInt_shape (k:=i) (v:=v) h
  exact .inl ⟨i,t,rfl,e⟩
 | .inr x,v,h=>by
  obtain⟨t,e⟩:=Value.isStrOf_shape (x:=x) (v:=v) h
  exact .inr ⟨x,t,rfl,e⟩
theorem xO1(a b:Int):decide ((Sum.inl a:Key)=Sum.inl b)=(a == b):=by
 by_cases e:a=b
 ·subst e;simp
 ·have h:¬(Sum.inl a:Key)=Sum.inl b:=fun q=>e (Sum.inl.inj q)
  rw[Ad h]
  exact (beq_eq_false_iff_ne.mpr e).symm
theorem xS9(a b:Str):decide ((Sum.inr a:Key)=Sum.inr b)=decide (a=b):=by
 by_cases e:a=b
 ·subst e;simp
 ·have h:¬(Sum.inr a:Key)=Sum.inr b:=fun q=>e (Sum.inr.inj q)
  rw[Ad h,Ad e]
theorem xR7(a:Int)(b:Str):decide ((Sum.inl a:Key)=Sum.inr b)=false:=Ad (fun q=>nomatch q)
theorem xR5(a:Str)(b:Int):decide ((Sum.inr a:Key)=Sum.inl b)=false:=Ad (fun q=>nomatch q)
def mixKind(prog:Program)(w:World):PySem.KeyKind prog w Key where
 is:=keyIs
 hash:=keyH w
 inj:=fun v a b ha hb=>by
  rcases wZ ha with ⟨i,t,rfl,rfl⟩ | ⟨x,t,rfl,rfl⟩
  ·rcases wZ hb with ⟨j,u,rfl,e⟩ | ⟨y,u,rfl,e⟩
   ·injection e with e1 _;rw[e1]
   ·exact nomatch e
  ·rcases wZ hb with ⟨j,u,rfl,e⟩ | ⟨y,u,rfl,e⟩
   ·exact nomatch e
   ·injection e with e1 _;rw[e1]
 byValue:=fun k v h=>by
  rcases wZ h with ⟨i,t,rfl,rfl⟩ | ⟨x,t,rfl,rfl⟩ <;> rfl
 pyHash:=fun hv h=>by
  rcases wZ hv with ⟨i,t,rfl,rfl⟩ | ⟨x,t,rfl,rfl⟩
  ·exact wpAny_pyHash_int h
  ·exact wpAny_pyHash_str h
 eqBool:=fun hu hv h=>by
  rcases wZ hu with ⟨i,t,rfl,rfl⟩ | ⟨x,t,rfl,rfl⟩
  ·rcases wZ hv with ⟨j,u,rfl,rfl⟩ | ⟨y,u,rfl,rfl⟩
   ·rw[xO1] at h;exact wpAny_eqBool_int h
   ·rw[xR7] at h;exact SeqAt.EqAt.int_str i t y u _ _ _ _ h
  ·rcases wZ hv with ⟨j,u,rfl,rfl⟩ | ⟨y,u,rfl,rfl⟩
   ·rw[xR5] at h;exact SeqAt.EqAt.str_int x t j u _ _ _ _ h
   ·rw[xS9] at h;exact wpAny_eqBool_str h
 «strs»:=fun k x t v h=>by
  rcases wZ h with ⟨i,u,rfl,e⟩ | ⟨y,u,rfl,e⟩
  ·exact nomatch e
  ·injection e with e1 _
   subst e1
   cases v <;> rfl
inductive V where
 | non | bl (b:Bool) | int (i:Int) | str (x:Str) | byt (b:Array UInt8) | flt (b:UInt64) | ref (a:Addr) | ty (n:String)
 deriving DecidableEq
def RelV:V->Value->Prop
 | .non,u=>u=Value.none
 | .bl b,u=>u=Value.bool b
 | .int i,u=>∃t,u=Value.int i t
 | .str x,u=>∃t,u=Value.str x t
 | .byt b,u=>∃t,u=Value.bytes b t
 | .flt b,u=>∃t,u=Value.float b t
 | .ref a,u=>u=Value.ref a
 | .ty n,u=>u=Value.type n
abbrev Vals:List V->List Value->Prop:=Paired RelV
theorem Vals.length{xs:List V}{us:List Value}(r:Vals xs us):xs.length=us.length:=Paired.length r
theorem Vals.get:∀{xs:List V}{us:List Value}{i:Nat}{x:V},Vals xs us->xs[i]?=some x->∃u,us[i]?=some u/\RelV x u
 | _,_,_,_,.nil,e=>by simp at e
 | _,_,0,_,.cons r _,e=>by simp at e;subst e;exact⟨_,rfl,r⟩
 | _,_,i+1,x,.cons _ t,e=>by
  obtain⟨u,h1,h2⟩:=Vals.get (i:=i) (x:=x) t (by simpa using e)
  exact⟨u,by simpa using h1,h2⟩
theorem Vals.set{x:V}{u:Value}(r:RelV x u):∀{xs:List V}{us:List Value}(i:Nat),Vals xs us->Vals (xs.set i x) (us.set i u)
 | _,_,_,.nil=>.nil
 | _,_,0,.cons _ t=>.cons r t
 | _,_,i+1,.cons q t=>.cons q (Vals.set r i t)
theorem Vals.append:∀{xs ys:List V}{us ws:List Value},Vals xs us->Vals ys ws->Vals (xs++ys) (us++ws)
 | _,_,_,_,.nil,s=>s
 | _,_,_,_,.cons r t,s=>.cons r (Vals.append t s)
theorem Vals.take:∀{xs:List V}{us:List Value}(n:Nat),Vals xs us->Vals (xs.take n) (us.take n)
 | _,_,0,_=>.nil
 | _,_,_+1,.nil=>.nil
 | _,_,n+1,.cons r t=>.cons r (Vals.take n t)
theorem Vals.drop:∀{xs:List V}{us:List Value}(n:Nat),Vals xs us->Vals (xs.drop n) (us.drop n)
 | _,_,0,r=>r
 | _,_,_+1,.nil=>.nil
 | _,_,n+1,.cons _ t=>Vals.drop n t
def RelO:Option V->Option Value->Prop
 | some v,some u=>RelV v u
 | none,none=>True
 | _,_=>False
def KV{κ:Type}:List (κ×V)->List (κ×Value)->Prop:=Paired fun (p:κ×V) (q:κ×Value)=>p.1=q.1/\RelV p.2 q.2
def kV:Key->V
 | .inl i=>.int i
 | .inr x=>.str x
inductive HO where
 | lst (xs:List V)
 | tup (xs:List V)
 | dK (kvs:List (Key×V)) | dT (kvs:List (List Key×V))
 | set (S:Int->Bool) (n:Nat)
 | ins (C dx:Addr) (fs:List (Str×V))
 | own (x:Addr)
 | xd (fs:List (Str×V))
 | met (f x:Addr)
 | rng (lo hi:Int)
 | frz (o:Obj) (u:HO)
 | tbl (ps:Array Value)
 | ext (φ:Heap->Prop)
abbrev Hp:=Addr->Option HO
def upd(H:Hp)(a:Addr)(o:HO):Hp:=fun b=>if b=a then some o else H b
theorem zO{H:Hp}{a:Addr}{o:HO}:upd H a o a=some o:=by unfold upd;rw[Ak rfl]
theorem zM{H:Hp}{a b:Addr}{o:HO}(h:b≠a):upd H a o b=H b:=by unfold upd;rw[Ax h]
theorem yX1{H:Hp}{a:Addr}{o u:HO}:upd (upd H a o) a u=upd H a u:=by
 funext b;unfold upd;split <;> rfl
theorem xK{H:Hp}{a b:Addr}{o:HO}(h:H a=some o)(h':H b=none):a≠b:=by
 intro e;subst e;rw[h] at h';cases h'
def TupAt(h:Heap)(a:Addr)(its:Array Value):Prop:=∃o,h.get? a=some o/\o.cls=.type "tuple"/\(∃n,o.data=.seq its n)/\o.dict=none
theorem TupAt.tup{h:Heap}{a:Addr}{its:Array Value}(x:TupAt h a its):IsTup h a its:=by
 obtain⟨o,e,c,d,_⟩:=x
 exact⟨o,e,c,d⟩
theorem TupAt.new(h:Heap)(its:Array Value):TupAt (h.push { cls:=.type "tuple",data:=.seq its }) h.objs.size its:=⟨_,AH _ rfl,rfl,⟨_,rfl⟩,rfl⟩
section
variable (P:Program) (w:World)
def ObjOk(H:Hp)(h:Heap)(a:Addr):HO->Prop
 | .lst xs=>xs.length<=sizeLine/\∃(its:List Value) (n:Nat),Vals xs its/\h.get? a=some { cls:=.type "list",data:=.seq its.toArray n }
 | .tup xs=>xs.length<=sizeLine/\∃its:List Value,Vals xs its/\TupAt h a its.toArray
 | .dK kvs=>kvs.length<=sizeLine/\(a == sysModules)=false/\∃vs,KV kvs vs/\h.DictOf (mixKind P w) a vs
 | .dT kvs=>kvs.length<=sizeLine/\(a == sysModules)=false/\∃xs:List (List Key×Addr×Value),
   Paired (fun (p:List Key×V) (q:List Key×Addr×Value)=>p.1=q.1/\H q.2.1=some (.tup (p.1.map kV))/\RelV p.2 q.2.2) kvs xs /\
   ∃o es ep,h.get? a=some o/\o.ExactDict/\o.data=.dict es ep/\es.toList=xs.map (entryOfKey (tupleKind (mixKind P w)))/\(xs.map (·.1)).Nodup
 | .set S n=>h.SetOf (intKind P w) a S n
 | .ins C dx fs=>H dx=some (.own a)/\fs.length<=1000/\dx≠a/\h.get? a=some (PySem.W.instObj C dx) /\
   ∃mA,h.Ns1 dx mA/\(∀f,RelO (fs.lookup f) (mA f))/\PySem.Within mA (fs.map (·.1))
 | .own _=>∃o,h.get? a=some o
 | .xd fs=>∃mA,h.Ns1 a mA/\∀f,RelO (fs.lookup f) (mA f)
 | .rng lo hi=>∃t u v,h.get? a=some { cls:=.type "range",data:=.fields #[.int lo t,.int hi u,.int 1 v] }
 | .frz o u=>h.get? a=some o/\ObjOk H h a u
 | .tbl ps=>h.get? a=some { cls:=.none,data:=.fields ps }
 | .met f x=>h.get? a=some (PySem.W.methodObj (.ref f) (.ref x))
 | .ext φ=>φ h/\(∃o,h.get? a=some o)/\∀h1 h2:Heap,φ h1->(∀o,h1.get? a=some o->h2.get? a=some o)->φ h2
def HOk(H:Hp)(h:Heap):Prop:=∀a o,H a=some o->ObjOk P w H h a o
end
section
variable {P:Program}{w:World}{H H':Hp}{h h':Heap}{a:Addr}{o:HO}
theorem ObjOk.lt(x:ObjOk P w H h a o):a<h.objs.size:=by
 cases o with
 | lst xs=>obtain⟨_,_,_,_,e⟩:=x;exact Am e
 | tup xs=>obtain⟨_,_,_,p⟩:=x;exact p.tup.lt
 | dK kvs=>obtain⟨_,_,_,_,o,_,_,e,_⟩:=x;exact Am e
 | dT kvs=>obtain⟨_,_,_,_,o,_,_,e,_⟩:=x;exact Am e
 | set S n=>obtain⟨o,_,_,_,e,_⟩:=x;exact Am e
 | ins C dx fs=>obtain⟨_,_,_,e,_⟩:=x;exact Am e
 | own y=>obtain⟨_,e⟩:=x;exact Am e
 | xd fs=>obtain⟨_,⟨_,_,_,e,_⟩,_⟩:=x;exact Am e
 | rng lo hi=>obtain⟨_,_,_,e⟩:=x;exact Am e
 | frz ob u=>obtain⟨e,_⟩:=x;exact Am e
 | tbl ps=>exact Am (show h.get? a=some _ from x)
 | met f y=>exact Am (show h.get? a=some _ from x)
 | ext φ=>obtain⟨_,⟨_,e⟩,_⟩:=x;exact Am e
theorem Paired.mapP{α β:Type}{F G:α->β->Prop}:∀{l₁:List α}{l₂:List β},Paired F l₁ l₂->(∀a b,F a b->G a b)->Paired G l₁ l₂
 | _,_,.nil,_=>.nil
 | _,_,.cons r t,f=>.cons (f _ _ r) (Paired.mapP t f)
theorem ObjOk.stay(x:ObjOk P w H h a o)(k:∀b u,(b=a\/H b=some (.own a))->h.get? b=some u->h'.get? b=some u)
  (ho:∀b,H b=some (.own a)->H' b=some (.own a)) (ht:∀b xs,H b=some (.tup xs)->H' b=some (.tup xs)):ObjOk P w H' h' a o:=by
 induction o with
 | lst xs=>obtain⟨z,its,n,r,e⟩:=x;exact⟨z,its,n,r,k _ _ (.inl rfl) e⟩
 | tup xs=>obtain⟨z,its,r,ob,e,c⟩:=x;exact⟨z,its,r,ob,k _ _ (.inl rfl) e,c⟩
 | dK kvs=>obtain⟨z,y,vs,r,ob,es,ep,e,c⟩:=x;exact⟨z,y,vs,r,ob,es,ep,k _ _ (.inl rfl) e,c⟩
 | dT kvs =>
  obtain⟨z,y,xs,r,ob,es,ep,e,c⟩:=x
  exact⟨z,y,xs,Paired.mapP r fun p q z=>⟨z.1,ht _ _ z.2.1,z.2.2⟩,ob,es,ep,k _ _ (.inl rfl) e,c⟩
 | set S n=>obtain⟨ob,es,ep,t,e,c⟩:=x;exact⟨ob,es,ep,t,k _ _ (.inl rfl) e,c⟩
 | ins C dx fs =>
  obtain⟨d,z,ne,e,mA,⟨od,es,ep,e2,c⟩,r⟩:=x
  exact⟨ho _ d,z,ne,k _ _ (.inl rfl) e,mA,⟨od,es,ep,k _ _ (.inr d) e2,c⟩,r⟩
 | own y=>obtain⟨ob,e⟩:=x;exact⟨ob,k _ _ (.inl rfl) e⟩
 | xd fs=>obtain⟨mA,⟨od,es,ep,e,c⟩,r⟩:=x;exact⟨mA,⟨od,es,ep,k _ _ (.inl rfl) e,c⟩,r⟩
 | rng lo hi=>obtain⟨t,u,v,e⟩:=x;exact⟨t,u,v,k _ _ (.inl rfl) e⟩
 | frz ob u ih=>obtain⟨e,q⟩:=x;exact⟨k _ _ (.inl rfl) e,ih q⟩
 | tbl ps =>
  have e:h.get? a=some { cls:=.none,data:=.fields ps }:=x
  show h'.get? a=some { cls:=.none,data:=.fields ps }
  exact k a _ (.inl rfl) e
 | met f y =>
  have e:h.get? a=some (PySem.W.methodObj (.ref f) (.ref y)):=x
  show h'.get? a=some (PySem.W.methodObj (.ref f) (.ref y))
  exact k a _ (.inl rfl) e
 | ext φ=>obtain⟨p,⟨o,e⟩,st⟩:=x;exact⟨st _ _ p fun o q=>k _ _ (.inl rfl) q,⟨o,k _ _ (.inl rfl) e⟩,st⟩
theorem HOk.lt(x:HOk P w H h)(e:H a=some o):a<h.objs.size:=(x a o e).lt
theorem HOk.fresh(x:HOk P w H h)(e:h.objs.size<=a):H a=none:=by
 cases q:H a with
 | none=>rfl
 | some u=>exact absurd (Ar (x.lt q) e) (Cg _)
theorem HOk.kept(x:HOk P w H h)(k:∀b u,h.get? b=some u->h'.get? b=some u):HOk P w H h':=fun a o e =>
 (x a o e).stay (fun b u _ q=>k b u q) (fun _ q=>q) fun _ _ q=>q
theorem HOk.laid(x:HOk P w H h)(k:∀b u,h.get? b=some u->h'.get? b=some u)(hp:h.objs.size<=a)(new:ObjOk P w (upd H a o) h' a o):HOk P w (upd H a o) h':=fun b u e=>by
 have hn:=x.fresh hp
 by_cases hb:b=a
 ·subst hb;rw[zO] at e;cases e;exact new
 ·rw[zM hb] at e
  exact (x b u e).stay (fun c v _ q=>k c v q) (fun c q=>by rw[zM (xK q hn)];exact q) fun c xs q=>by rw[zM (xK q hn)];exact q
end
def Rd(H:Hp)(a:Addr)(u:HO):Prop:=H a=some u\/∃o,H a=some (.frz o u)
theorem Rd.ok{P:Program}{w:World}{H:Hp}{h:Heap}{a:Addr}{u:HO}(r:Rd H a u)(x:HOk P w H h):ObjOk P w H h a u:=by
 rcases r with r | ⟨o,r⟩
 ·exact x a u r
 ·obtain⟨_,q⟩:=x a _ r
  exact q
def Mut:Option HO->Prop
 | some (.lst _)=>True
 | some (.dK _)=>True
 | some (.dT _)=>True
 | some (.set _ _)=>True
 | some (.ins _ _ _)=>True
 | some (.ext _)=>True
 | _=>False
section
variable {P:Program}{w:World}{H:Hp}{h h':Heap}{x e:Addr}{o':HO}
theorem HOk.write(ok:HOk P w H h)(mu:Mut (H x))(he:e=x\/H e=some (.own x))(k:∀b u,b≠e->h.get? b=some u->h'.get? b=some u)(heo:∃u,h'.get? e=some u)
  (new:ObjOk P w (upd H x o') h' x o'):HOk P w (upd H x o') h':=fun b u q=>by
 have nown:∀c y,H c=some (.own y)->c≠x:=fun c y r z=>by subst z;rw[r] at mu;exact mu
 have ntup:∀c xs,H c=some (.tup xs)->c≠x:=fun c xs r z=>by subst z;rw[r] at mu;exact mu
 by_cases hb:b=x
 ·subst hb;rw[zO] at q;cases q;exact new
 ·rw[zM hb] at q
  by_cases hbe:b=e
  ·have q':H b=some (.own x):=by
    rcases he with z | z
    ·exact absurd (hbe.trans z) hb
    ·rw[hbe];exact z
   rw[q] at q';cases q'
   obtain⟨v,hv⟩:=heo
   exact⟨v,by rw[hbe];exact hv⟩
  ·refine (ok b u q).stay (fun c v hc r=>k c v ?_ r) (fun c r=>by rw[zM (nown c b r)];exact r) fun c xs r=>by rw[zM (ntup c xs r)];exact r
   rcases hc with rfl | hc
   ·exact hbe
   ·rintro rfl
    rcases he with z | z
    ·exact nown c b hc z
    ·rw[hc] at z;cases z;exact hb rfl
end
structure Un(fs ex:List Addr)(H H':Hp)(h h':Heap):Prop where
 keep:∀b o,h.get? b=some o->H b=none->b∉fs->b∉ex->h'.get? b=some o
 slot:∀b o,h.get? b=some o->H b=none->b∈fs->b∉ex->∃sl,h'.get? b=some { o with slots:=sl }
 free:∀b o,h.get? b=some o->H b=none->b∉ex->H' b=none
 there:∀b o,h.get? b=some o->b∉ex->∃o',h'.get? b=some o'
 tups:∀b xs,H b=some (.tup xs)->H' b=some (.tup xs)
 frzs:∀b o u,H b=some (.frz o u)->H' b=some (.frz o u)
 tbls:∀b ps,H b=some (.tbl ps)->∃more,H' b=some (.tbl (ps++more))
section
variable {fs fs' ex ex':List Addr}{H H1 H2:Hp}{h h1 h2 h':Heap}{a x e:Addr}{o:HO}
theorem Un.any(u:Un fs ex H H1 h h1){b:Addr}{ob:Obj}(q:h.get? b=some ob)(n:H b=none)(hx:b∉ex):∃sl,h1.get? b=some { ob with slots:=sl }:=by
 by_cases hb:b∈fs
 ·exact u.slot b ob q n hb hx
 ·exact⟨ob.slots,u.keep b ob q n hb hx⟩
theorem Un.kept(k:∀b u,h.get? b=some u->h'.get? b=some u):Un fs ex H H h h' :=
 ⟨fun b ob q _ _ _=>k b ob q,fun b ob q _ _ _=>⟨ob.slots,k b ob q⟩,fun _ _ _ n _=>n,fun b ob q _=>⟨ob,k b ob q⟩,fun _ _ q=>q,fun _ _ _ q=>q,fun _ ps q=>⟨#[],by rw[q];simp⟩⟩
theorem Un.refl:Un fs ex H H h h:=Un.kept fun _ _ q=>q
theorem Un.laid(k:∀b u,h.get? b=some u->h'.get? b=some u)(hp:h.objs.size<=a)(hn:H a=none):Un fs ex H (upd H a o) h h' where
 keep:=fun b u q _ _ _=>k b u q
 slot:=fun b u q _ _ _=>⟨u.slots,k b u q⟩
 free:=fun b u q n _=>by rw[zM (AL (Ar (Am q) hp))];exact n
 there:=fun b u q _=>⟨u,k b u q⟩
 tups:=fun b xs q=>by rw[zM (xK q hn)];exact q
 frzs:=fun b u xs q=>by rw[zM (xK q hn)];exact q
 tbls:=fun b ps q=>⟨#[],by rw[zM (xK q hn),q];simp⟩
theorem Un.write(mu:Mut (H x))(he:e=x\/H e=some (.own x))(k:∀b u,b≠e->h.get? b=some u->h'.get? b=some u)(heo:∃u,h'.get? e=some u):Un fs ex H (upd H x o) h h':=by
 have hx:∀b,H b=none->b≠x:=fun b n z=>by subst z;rw[n] at mu;exact mu
 have hb:∀b,H b=none->b≠e:=fun b n z=>by
  subst z
  rcases he with r | r
  ·exact hx b n r
  ·rw[n] at r;cases r
 have hm:∀b u,H b=some u->¬Mut (some u)->b≠x:=fun b u q nm z=>by subst z;rw[q] at mu;exact nm mu
 refine⟨fun b u q n _ _=>k b u (hb b n) q,fun b u q n _ _=>⟨u.slots,k b u (hb b n) q⟩,fun b u q n _=>by rw[zM (hx b n)];exact n,fun b u q _ => ?_,
  fun b xs q=>by rw[zM (hm b _ q fun z=>z)];exact q,fun b u xs q=>by rw[zM (hm b _ q fun z=>z)];exact q,fun b ps q=>⟨#[],by rw[zM (hm b _ q fun z=>z),q];simp⟩⟩
 by_cases hbe:b=e
 ·subst hbe;exact heo
 ·exact⟨u,k b u hbe q⟩
end
def trk(h:Heap)(H:Hp):List Addr:=(List.range h.objs.size).filter fun a=>(H a).isSome
def hidT(h:Heap)(H:Hp):Heap:=PySem.W.hideAll h (trk h H)
theorem yM8(h:Heap)(H:Hp):(hidT h H).objs.size=h.objs.size:=PySem.W.hideAll_size _ _
theorem yG6{h:Heap}{H:Hp}{b:Addr}{o:Obj}(e:h.get? b=some o)(n:H b=none):(hidT h H).get? b=some o :=
 Ch _ e fun hm=>by
  have q:(H b).isSome=true:=(BC.mp hm).2
  rw[n] at q;simp at q
theorem xU5{h:Heap}{H:Hp}{b:Addr}{o:Obj}(e:(hidT h H).get? b=some o):h.get? b=some o/\H b=none:=by
 have e':h.get? b=some o:=CS (trk h H) e
 refine⟨e',?_⟩
 cases q:H b with
 | none=>rfl
 | some x =>
  have hm:b∈trk h H:=BC.mpr ⟨AD.mpr (Am e'),by simp[q]⟩
  have z:(hidT h H).get? b=none:=CC (trk h H) hm
  rw[z] at e;cases e
def allNews(g h:Heap)(L:Addr):List (Addr×Obj):=(List.range h.objs.size).filterMap fun a=>if a=L\/(g.get? a).isSome=true then none else (h.get? a).map fun o=>(a,o)
def rest(g h:Heap)(L d:Addr):List (Addr×Obj):=(allNews g h L).filter fun p=>decide (p.1≠d)
structure Mod(K:KFr)(mg:Str->Option Value)(base:Heap):Prop where
 kin:K.In base
 glob:base.Ns mainGlobals mg
 blt:∃mb,base.Ns builtinsNs mb/\∀x:Str,x ≠ "__name__"->mb x=bootBuiltins x
 nolimit:base.NoLimit
structure Cx where
 prog:Program
 w:World
 K:KFr
 mg:Str->Option Value
 base:Heap
 A:Around
 N:List Str
 s₀:Shared
 H₀:Hp
 env:Env
 outer:List Env
 stack:List Env
 ex:List Addr
 fn:Str->Bool
 calm:Bool
 pn:List (Addr×Obj)
 xe:Value->Shared->Prop
def frs(l:List Env):List Addr:=l.filterMap (·.frame)
abbrev Cx.fs(X:Cx):List Addr:=frs X.outer
def Vis(sc:Scope)(x:Str):Prop:=sc.names.lookup x=some .local \/ sc.names.lookup x=some .cell\/sc.names.lookup x=some .free
def Loc(sc:Scope)(x:Str):Prop:=sc.names.lookup x=some .local \/ sc.names.lookup x=some .cell
def Look(env:Env)(h:Heap)(m:Str->Option Value)(x:Str)(u:Value):Prop :=
 (env.kindOf x=some .local/\m x=some u)\/((env.kindOf x=some .cell\/env.kindOf x=some .free)/\∃c,env.cells.lookup x=some c/\h.IsCell c (some u))
structure Cx.Ok(X:Cx):Prop where
 mod:Mod X.K X.mg X.base
 kind:X.env.scope.kind=.function
 glob:X.env.globals=mainGlobals
 blt:X.env.builtins=builtinsNs
 above:X.s₀.heap.objs.size<=X.env.locals
 inj:∀x y c,X.env.cells.lookup x=some c->X.env.cells.lookup y=some c->x=y
 has:∀x,(X.env.kindOf x=some .cell\/X.env.kindOf x=some .free)->∃c,X.env.cells.lookup x=some c
 cab:∀x c,X.fn x=true->X.env.cells.lookup x=some c->X.s₀.heap.objs.size<=c
 hd:X.calm=true->X.A.handled=none
 frames:X.A.frames=some X.stack
 stk:X.stack=X.outer\/(X.stack=X.env::X.outer/\X.env.frame=some X.env.locals)
 exf:∀b∈X.ex,b≠X.env.locals/\∀x c,X.env.cells.lookup x=some c->c≠b
 bs:∀b o,X.base.get? b=some o->X.s₀.heap.get? b=some o/\X.H₀ b=none
 bsz:X.base.objs.size<=X.s₀.heap.objs.size
 noex:∀b o,X.base.get? b=some o->b∉X.ex
 exfs:∀b∈X.ex,b∉X.fs
 funs:X.s₀.heap.FunFrames X.base X.outer
 frf:∀b∈X.fs,X.H₀ b=none
structure Inv(X:Cx)(DJ:List (Addr×Obj))(σ:List (Option V))(H:Hp)(s:Shared):Prop where
 ok:X.Ok
 os:s.os=X.s₀.os
 bare:AllBare s.gens
 base:Un X.fs X.ex X.H₀ H X.s₀.heap s.heap
 loc:∃m,s.heap.Ns X.env.locals m/\∀(i:Nat) (x:Str) (v:V),X.N[i]?=some x->σ[i]?=some (some v)->Vis X.env.scope x->∃u,RelV v u/\Look X.env s.heap m x u
 cell:∀x c,X.env.cells.lookup x=some c->∃v,s.heap.IsCell c v
 free:H X.env.locals=none
 freeC:∀x c,X.env.cells.lookup x=some c->H c=none
 pin:∀p∈X.pn++DJ,s.heap.get? p.1=some p.2/\H p.1=none/\p.1≠X.env.locals/\p.1∉X.fs/\∀v,p.2.data ≠ .cell v
 hok:HOk X.prog X.w H s.heap
 len:σ.length=X.N.length
section
variable {X:Cx}{DJ:List (Addr×Obj)}{σ:List (Option V)}{H H':Hp}{s:Shared}{h':Heap}
theorem Cx.Ok.nofr(ok:X.Ok){b:Addr}{o:Obj}(e:X.base.get? b=some o):b∉X.fs:=fun hb=>by
 have:=(ok.funs.mem hb).1
 rw[e] at this;cases this
theorem Inv.bs(I:Inv X DJ σ H s):∀b o,X.base.get? b=some o->s.heap.get? b=some o/\H b=none:=fun b o e =>
 ⟨I.base.keep b o (I.ok.bs b o e).1 (I.ok.bs b o e).2 (I.ok.nofr e) (I.ok.noex b o e),I.base.free b o (I.ok.bs b o e).1 (I.ok.bs b o e).2 (I.ok.noex b o e)⟩
theorem Inv.bk(I:Inv X DJ σ H s):∀b o,X.base.get? b=some o->s.heap.get? b=some o:=fun b o e=>(I.bs b o e).1
theorem Inv.mod(I:Inv X DJ σ H s):Mod X.K X.mg X.base:=I.ok.mod
theorem Inv.kIn(I:Inv X DJ σ H s):X.K.In s.heap:=I.ok.mod.kin.keeps I.bk
theorem Inv.lt(I:Inv X DJ σ H s):X.env.locals<s.heap.objs.size:=let ⟨_,hn,_⟩:=I.loc;hn.lt
theorem Inv.sz(I:Inv X DJ σ H s):X.s₀.heap.objs.size<=s.heap.objs.size:=AJ I.ok.above (BU I.lt)
theorem Inv.nofs(I:Inv X DJ σ H s){a:Addr}(h:s.heap.objs.size<=a):a∉X.fs:=fun hb=>by
 obtain⟨_,o,ho,_⟩:=I.ok.funs.mem hb
 exact absurd (Ar (Am ho) (AJ I.sz h)) (Cg _)
theorem Inv.cne(I:Inv X DJ σ H s):∀x c,X.env.cells.lookup x=some c->c≠X.env.locals:=fun x c e z=>by
 obtain⟨v,o,ho,hd⟩:=I.cell x c e
 obtain⟨m,⟨o',es,ep,ho',hd',_⟩,_⟩:=I.loc
 rw[z,ho'] at ho;cases ho;rw[hd'] at hd;cases hd
theorem Inv.funs(I:Inv X DJ σ H s):s.heap.FunFrames X.base X.outer:=by
 have all:∀(l:List Env),(∀b∈frs l,b∈X.fs)->X.s₀.heap.FunFrames X.base l->s.heap.FunFrames X.base l:=by
  intro l
  induction l with
  | nil=>intro _ _;trivial
  | cons env r ih =>
   intro hs hl
   obtain⟨hk,⟨L,o,hf,hn,ho,hd⟩,hr⟩:=hl
   have hL:L∈X.fs:=hs L (by unfold frs;rw[CM,hf];exact Ae)
   obtain⟨sl,e⟩:=I.base.slot L o ho (I.ok.frf L hL) hL fun z=>I.ok.exfs L z hL
   exact⟨hk,⟨L,_,hf,hn,e,hd⟩,ih (fun b hb=>hs b (by unfold frs;rw[CM,hf];exact Ai _ hb)) hr⟩
 exact all X.outer (fun _ hb=>hb) I.ok.funs
theorem Inv.stack(I:Inv X DJ σ H s):s.heap.FunFrames X.base X.stack:=by
 rcases I.ok.stk with e | ⟨e,hf⟩
 ·rw[e];exact I.funs
 ·rw[e]
  obtain⟨m,hn,_⟩:=I.loc
  refine .cons (by rw[I.ok.kind];decide) hf hn ?_ I.funs
  exact CD (AJ I.ok.bsz I.ok.above)
theorem Inv.stkSub(I:Inv X DJ σ H s):∀b∈frs X.stack,b∈X.env.locals::X.fs:=fun b hb=>by
 rcases I.ok.stk with e | ⟨e,hf⟩
 ·rw[e] at hb;exact Ai _ hb
 ·rw[e] at hb
  unfold frs at hb
  rw[CM,hf] at hb
  exact hb
theorem Inv.stkFree(I:Inv X DJ σ H s):∀b∈frs X.stack,H b=none:=fun b hb=>by
 rcases Aw.mp (I.stkSub b hb) with e | hb
 ·rw[e];exact I.free
 ·obtain⟨_,o,ho,_⟩:=I.ok.funs.mem hb
  exact I.base.free b o ho (I.ok.frf b hb) fun z=>I.ok.exfs b z hb
theorem Inv.step{g':Array GenState}{t':Nat}{d':Drawn}{ch:List Addr}(I:Inv X DJ σ H s)
  (hch:∀b∈ch,(b∈X.ex\/X.s₀.heap.objs.size<=b)/\b≠X.env.locals/\(∀x c,X.env.cells.lookup x=some c->c≠b)/\∀p∈X.pn++DJ,p.1≠b)
  (keep:∀b o,b≠X.env.locals->b∉X.fs->b∉ch->s.heap.get? b=some o->H b=none->h'.get? b=some o)
  (slot:∀b o,b≠X.env.locals->b∈X.fs->b∉ch->s.heap.get? b=some o->H b=none->∃sl,h'.get? b=some { o with slots:=sl }) (free:∀b o,b∉ch->s.heap.get? b=some o->H b=none->H' b=none)
  (there:∀b o,b∉ch->s.heap.get? b=some o->∃o',h'.get? b=some o')
  (tups:∀b xs,H b=some (.tup xs)->H' b=some (.tup xs)) (frzs:∀b o u,H b=some (.frz o u)->H' b=some (.frz o u)) (tbls:∀b ps,H b=some (.tbl ps)->∃more,H' b=some (.tbl (ps++more)))
  (ns:∀m,s.heap.Ns X.env.locals m->h'.Ns X.env.locals m) (hok:HOk X.prog X.w H' h') (hg:AllBare g') :
  Inv X DJ σ H' { s with heap:=h',gens:=g',drawn:=d',toks:=t' }:=by
 have neL:∀b o,X.s₀.heap.get? b=some o->b≠X.env.locals:=fun b o e=>AL (Ar (Am e) I.ok.above)
 have neC:∀b o,X.s₀.heap.get? b=some o->b∉X.ex->b∉ch:=fun b o e hx hb=>by
  rcases (hch b hb).1 with z | z
  ·exact hx z
  ·exact absurd (Ar (Am e) z) (Cg _)
 have cellK:∀x c,X.env.cells.lookup x=some c->∀v,s.heap.IsCell c v->h'.IsCell c v:=fun x c e v ⟨o,ho,hd⟩=>by
  have nch:c∉ch:=fun z=>(hch c z).2.2.1 x c e rfl
  by_cases hc:c∈X.fs
  ·obtain⟨sl,q⟩:=slot c o (I.cne x c e) hc nch ho (I.freeC x c e)
   exact⟨_,q,hd⟩
  ·exact⟨o,keep c o (I.cne x c e) hc nch ho (I.freeC x c e),hd⟩
 refine⟨I.ok,I.os,hg,⟨fun b o e n hb hx => ?_,fun b o e n hb hx => ?_,fun b o e n hx => ?_,fun b o e hx => ?_,fun b xs e=>tups b xs (I.base.tups b xs e),fun b o xs e=>frzs b o xs (I.base.frzs b o xs e),fun b ps e => ?_⟩,?_,fun x c e => ?_,?_,fun x c e => ?_,fun p hp => ?_,hok,I.len⟩
 ·exact keep b o (neL b o e) hb (neC b o e hx) (I.base.keep b o e n hb hx) (I.base.free b o e n hx)
 ·obtain⟨sl,e1⟩:=I.base.slot b o e n hb hx
  obtain⟨sl',e2⟩:=slot b _ (neL b o e) hb (neC b o e hx) e1 (I.base.free b o e n hx)
  exact⟨sl',e2⟩
 ·obtain⟨o',e1⟩:=I.base.there b o e hx
  exact free b o' (neC b o e hx) e1 (I.base.free b o e n hx)
 ·obtain⟨o',e1⟩:=I.base.there b o e hx
  exact there b o' (neC b o e hx) e1
 ·obtain⟨m1,e1⟩:=I.base.tbls b ps e
  obtain⟨m2,e2⟩:=tbls b _ e1
  exact⟨m1++m2,by rw[e2,Array.append_assoc]⟩
 ·obtain⟨m,hn,hl⟩:=I.loc
  refine⟨m,ns m hn,fun i x v e1 e2 e3 => ?_⟩
  obtain⟨u,r,l⟩:=hl i x v e1 e2 e3
  refine⟨u,r,?_⟩
  rcases l with l | ⟨k,c,e,z⟩
  ·exact .inl l
  ·exact .inr ⟨k,c,e,cellK x c e _ z⟩
 ·obtain⟨v,z⟩:=I.cell x c e
  exact⟨v,cellK x c e v z⟩
 ·obtain⟨m,⟨o,_,_,ho,_⟩,_⟩:=I.loc
  exact free _ o (fun z=>(hch _ z).2.1 rfl) ho I.free
 ·obtain⟨v,o,ho,hd⟩:=I.cell x c e
  exact free c o (fun z=>(hch c z).2.2.1 x c e rfl) ho (I.freeC x c e)
 ·obtain⟨e,n,ne,nf,d⟩:=I.pin p hp
  have nch:p.1∉ch:=fun z=>(hch p.1 z).2.2.2 p hp rfl
  exact⟨keep p.1 p.2 ne nf nch e n,free p.1 p.2 nch e n,ne,nf,d⟩
theorem Inv.un{t':Nat}(I:Inv X DJ σ H s)(u:Un X.fs [] H H' s.heap h')(hok:HOk X.prog X.w H' h'):Inv X DJ σ H' { s with heap:=h',toks:=t' }:=by
 obtain⟨m,⟨o,es,ep,ho,r⟩,_⟩:=id I.loc
 obtain⟨sl,hL⟩:=u.any ho I.free (by simp)
 exact I.step (g':=s.gens) (d':=s.drawn) (ch:=[]) (fun _ z=>nomatch z) (fun b o _ hb _ e n=>u.keep b o e n hb (by simp)) (fun b o _ hb _ e n=>u.slot b o e n hb (by simp)) (fun b o _ e n=>u.free b o e n (by simp)) (fun b o _ e=>u.there b o e (by simp)) u.tups u.frzs u.tbls (fun m' hm=>by
  obtain⟨o',es',ep',ho',r'⟩:=hm
  rw[ho] at ho';cases ho'
  exact⟨_,es',ep',hL,r'⟩) hok I.bare
theorem Inv.call{g':Array GenState}{t':Nat}{d':Drawn}{ch:List Addr}(I:Inv X DJ σ H s)(u:Un (frs X.stack) ch H H' s.heap h')(hok:HOk X.prog X.w H' h')(hg:AllBare g')
  (hch:∀b∈ch,(b∈X.ex\/X.s₀.heap.objs.size<=b)/\b≠X.env.locals/\(∀x c,X.env.cells.lookup x=some c->c≠b)/\∀p∈X.pn++DJ,p.1≠b) :
  Inv X DJ σ H' { s with heap:=h',gens:=g',drawn:=d',toks:=t' }:=by
 obtain⟨m,⟨o,es,ep,ho,r⟩,_⟩:=id I.loc
 obtain⟨sl,hL⟩:=u.any ho I.free fun z=>(hch _ z).2.1 rfl
 exact I.step (ch:=ch) hch (fun b o hL hb hc e n=>u.keep b o e n (fun z=>(Aw.mp (I.stkSub b z)).elim hL hb) hc) (fun b o _ _ hc e n=>u.any e n hc) (fun b o hc e n=>u.free b o e n hc) (fun b o hc e=>u.there b o e hc) u.tups u.frzs u.tbls (fun m' hm=>by
  obtain⟨o',es',ep',ho',r'⟩:=hm
  rw[ho] at ho';cases ho'
  exact⟨_,es',ep',hL,r'⟩) hok hg
theorem Inv.turned{t':Nat}{it:Addr}(I:Inv X DJ σ H s)(k:∀b o,b≠it->s.heap.get? b=some o->h'.get? b=some o)(hn:H it=none)(hL:it≠X.env.locals)
  (h1:it∈X.ex\/X.s₀.heap.objs.size<=it) (h2:∀x c,X.env.cells.lookup x=some c->c≠it) (h3:∀p∈X.pn++DJ,p.1≠it):Inv X DJ σ H { s with heap:=h',toks:=t' }:=by
 have nit:∀b u,H b=some u->b≠it:=fun b u e z=>by rw[z,hn] at e;cases e
 refine I.step (g':=s.gens) (d':=s.drawn) (ch:=[it]) (fun b hb => ?_) (fun b o _ _ hc e _=>k b o (fun z=>hc (by simp[z])) e) (fun b o _ _ hc e _=>⟨o.slots,k b o (fun z=>hc (by simp[z])) e⟩) (fun _ _ _ _ n=>n)
  (fun b o hc e=>⟨o,k b o (fun z=>hc (by simp[z])) e⟩) (fun _ _ e=>e) (fun _ _ _ e=>e) (fun b ps e=>⟨#[],by rw[e];simp⟩) (fun m hm => ?_) (fun b u e => ?_) I.bare
 ·have e:b=it:=by simpa using hb
  subst e
  exact⟨h1,hL,h2,h3⟩
 ·obtain⟨o,es,ep,ho,r⟩:=hm
  exact⟨o,es,ep,k _ o (AX hL) ho,r⟩
 ·refine (I.hok b u e).stay (fun c v hc q=>k c v ?_ q) (fun _ q=>q) fun _ _ q=>q
  rcases hc with z | z
  ·rw[z];exact nit b u e
  ·exact nit c _ z
theorem Inv.tok(I:Inv X DJ σ H s)(t:Nat):Inv X DJ σ H { s with toks:=t }:=I.un (h':=s.heap) (t':=t) Un.refl I.hok
theorem Inv.kept{t':Nat}(I:Inv X DJ σ H s)(k:∀b u,s.heap.get? b=some u->h'.get? b=some u):Inv X DJ σ H { s with heap:=h',toks:=t' }:=I.un (Un.kept k) (I.hok.kept k)
theorem Inv.laid{a:Addr}{o:HO}{t':Nat}(I:Inv X DJ σ H s)(k:∀b u,s.heap.get? b=some u->h'.get? b=some u)(hp:s.heap.objs.size<=a)(new:ObjOk X.prog X.w (upd H a o) h' a o) :
  Inv X DJ σ (upd H a o) { s with heap:=h',toks:=t' }:=I.un (Un.laid k hp (I.hok.fresh hp)) (I.hok.laid k hp new)
theorem Inv.write{x e:Addr}{o:HO}{t':Nat}(I:Inv X DJ σ H s)(mu:Mut (H x))(he:e=x\/H e=some (.own x))(k:∀b u,b≠e->s.heap.get? b=some u->h'.get? b=some u)(heo:∃u,h'.get? e=some u)
  (new:ObjOk X.prog X.w (upd H x o) h' x o):Inv X DJ σ (upd H x o) { s with heap:=h',toks:=t' }:=I.un (Un.write mu he k heo) (I.hok.write mu he k heo new)
theorem Inv.xE{pins':List (Addr×Obj)}(I:Inv X DJ σ H s)(h:∀p∈pins',s.heap.get? p.1=some p.2/\H p.1=none/\p.1≠X.env.locals/\p.1∉X.fs/\∀v,p.2.data ≠ .cell v):Inv X pins' σ H s :=
 ⟨I.ok,I.os,I.bare,I.base,I.loc,I.cell,I.free,I.freeC,fun p hp=>(AB.mp hp).elim (fun z=>I.pin p (AW _ z)) (h p),I.hok,I.len⟩
theorem zY8{N:List Str}(hN:N.Nodup){i j:Nat}{x:Str}(a:N[i]?=some x)(b:N[j]?=some x):i=j:=by
 obtain⟨h1,e1⟩:=Au.mp a
 obtain⟨h2,e2⟩:=Au.mp b
 exact (List.getElem_inj hN).mp (e1.trans e2.symm)
theorem yJ6{M:Model}{A:Around}{E:Value->Shared->Prop}{i:Nat}{x:Str}{v:V}{u:Value}{Q:Unit->Shared->Prop}(I:Inv X DJ σ H s)(hN:X.N.Nodup)(hi:X.N[i]?=some x)(hx:Loc X.env.scope x)(r:RelV v u)
  (h:∀s',Inv X DJ (σ.set i (some v)) H s'->(∃a,Heap.SameBut a s.heap s'.heap/\(a=X.env.locals\/X.env.cells.lookup x=some a))->Q () s') (hf:autoParam (X.fn x=true\/X.env.scope.names.lookup x=some .local) DF):wpAny M A (storeName X.env x u) Q E s:=by
 obtain⟨m,hn,hl⟩:=id I.loc
 have hcls:(X.env.scope.kind == .class || (X.env.scope.kind == .module&&X.env.locals != X.env.globals))=false:=by rw[I.ok.kind];rfl
 have hiσ:i<σ.length:=by rw[I.len];exact (Au.mp hi).1
 have cne:=I.cne
 have tracked:∀{a:Addr}{h':Heap},(∃o,s.heap.get? a=some o/\H a=none)->Heap.SameBut a s.heap h'->HOk X.prog X.w H h':=fun {a h'} ha hs b ob e=>by
  obtain⟨_,_,hfree⟩:=ha
  refine (I.hok b ob e).stay (fun c w' hc q=>(hs.2 c ?_).trans q) (fun _ q=>q) fun _ _ q=>q
  rintro rfl
  rcases hc with rfl | hc
  ·rw[hfree] at e;cases e
  ·rw[hfree] at hc;cases hc
 rcases hx with hk | hk
 ·refine wpAny_storeName_local hk hn (fun h' hn' hs => ?_) hcls
  obtain⟨oL,_,_,hoL,_⟩:=id hn
  refine h _ ⟨I.ok,I.os,I.bare,⟨fun b o e n hb hx => ?_,fun b o e n hb hx => ?_,I.base.free,fun b o e hx => ?_,I.base.tups,I.base.frzs,I.base.tbls⟩,⟨_,hn',fun j y v' e1 e2 e3 => ?_⟩,fun y c e => ?_,I.free,I.freeC,fun p hp => ?_,tracked ⟨oL,hoL,I.free⟩ hs,by simpa using I.len⟩ ⟨_,hs,.inl rfl⟩
  ·exact (hs.2 b (AL (Ar (Am e) I.ok.above))).trans (I.base.keep b o e n hb hx)
  ·obtain⟨sl,e1⟩:=I.base.slot b o e n hb hx
   exact⟨sl,(hs.2 b (AL (Ar (Am e) I.ok.above))).trans e1⟩
  ·obtain⟨o',e1⟩:=I.base.there b o e hx
   exact⟨o',(hs.2 b (AL (Ar (Am e) I.ok.above))).trans e1⟩
  ·by_cases hj:j=i
   ·subst hj
    rw[hi] at e1;cases e1
    rw[Bx hiσ] at e2
    cases e2
    exact⟨u,r,.inl ⟨hk,by simp⟩⟩
   ·rw[AG (AX hj)] at e2
    obtain⟨u',r',q⟩:=hl j y v' e1 e2 e3
    refine⟨u',r',?_⟩
    rcases q with ⟨k,e⟩ | ⟨k,c,e,z⟩
    ·refine .inl ⟨k,?_⟩
     have:y≠x:=fun e=>hj (zY8 hN e1 (e▸hi))
     simp[this,e]
    ·exact .inr ⟨k,c,e,z.sameBut hs (cne y c e)⟩
  ·obtain⟨w',z⟩:=I.cell y c e
   exact⟨w',z.sameBut hs (cne y c e)⟩
  ·obtain⟨e,n,ne,nf,d⟩:=I.pin p hp
   exact⟨(hs.2 p.1 ne).trans e,n,ne,nf,d⟩
 ·have hfn:X.fn x=true:=by
   rcases hf with z | z
   ·exact z
   ·rw[z] at hk;cases hk
  obtain⟨c,hc⟩:=I.ok.has x (.inl hk)
  obtain⟨w',z⟩:=I.cell x c hc
  refine wpAny_storeName_cell I.ok.kind hk hc z (fun h' hc' hs => ?_)
  obtain⟨oc,hoc,hocd⟩:=id z
  refine h { s with heap:=h' } ⟨I.ok,I.os,I.bare,⟨fun b o e n hb hx => ?_,fun b o e n hb hx => ?_,I.base.free,fun b o e hx => ?_,I.base.tups,I.base.frzs,I.base.tbls⟩,⟨m,hn.sameBut hs (AX (cne x c hc)),fun j y v' e1 e2 e3 => ?_⟩,fun y c' e => ?_,I.free,I.freeC,fun p hp => ?_,tracked ⟨oc,hoc,I.freeC x c hc⟩ hs,by simpa using I.len⟩ ⟨c,hs,.inr hc⟩
  ·exact (hs.2 b (AL (Ar (Am e) (I.ok.cab x c hfn hc)))).trans (I.base.keep b o e n hb hx)
  ·obtain⟨sl,e1⟩:=I.base.slot b o e n hb hx
   exact⟨sl,(hs.2 b (AL (Ar (Am e) (I.ok.cab x c hfn hc)))).trans e1⟩
  ·obtain⟨o',e1⟩:=I.base.there b o e hx
   exact⟨o',(hs.2 b (AL (Ar (Am e) (I.ok.cab x c hfn hc)))).trans e1⟩
  ·by_cases hj:j=i
   ·subst hj
    rw[hi] at e1;cases e1
    rw[Bx hiσ] at e2
    cases e2
    exact⟨u,r,.inr ⟨.inl hk,c,hc,hc'⟩⟩
   ·rw[AG (AX hj)] at e2
    obtain⟨u',r',q⟩:=hl j y v' e1 e2 e3
    refine⟨u',r',?_⟩
    rcases q with q | ⟨k,c',e,z'⟩
    ·exact .inl q
    ·refine .inr ⟨k,c',e,z'.sameBut hs ?_⟩
     rintro rfl
     exact hj (zY8 hN e1 (I.ok.inj _ _ _ e hc▸hi))
  ·by_cases hcc:c'=c
   ·subst hcc;exact⟨_,hc'⟩
   ·obtain⟨w2,z2⟩:=I.cell y c' e
    exact⟨w2,z2.sameBut hs hcc⟩
  ·obtain⟨e,n,ne,nf,d⟩:=I.pin p hp
   refine⟨(hs.2 p.1 ?_).trans e,n,ne,nf,d⟩
   intro q
   rw[q,hoc] at e
   have q':oc=p.2:=Ba e
   exact d w' (by rw[<-q'];exact hocd)
theorem qJ{M:Model}{A:Around}{E:Value->Shared->Prop}{i:Nat}{x:Str}{v:V}{u:Value}{Q:Unit->Shared->Prop}(I:Inv X DJ σ H s)(hN:X.N.Nodup)(hi:X.N[i]?=some x)(hx:Loc X.env.scope x)(r:RelV v u)
  (h:∀s',Inv X DJ (σ.set i (some v)) H s'->Q () s') (hf:autoParam (X.fn x=true\/X.env.scope.names.lookup x=some .local) DF):wpAny M A (storeName X.env x u) Q E s :=
 yJ6 I hN hi hx r (fun s' I' _=>h s' I') hf
theorem Inv.call'{s':Shared}{ch:List Addr}(I:Inv X DJ σ H s)(ho:s'.os=s.os)(u:Un (frs X.stack) ch H H' s.heap s'.heap)(hok:HOk X.prog X.w H' s'.heap)(hg:AllBare s'.gens)
  (hch:∀b∈ch,(b∈X.ex\/X.s₀.heap.objs.size<=b)/\b≠X.env.locals/\(∀x c,X.env.cells.lookup x=some c->c≠b)/\∀p∈X.pn++DJ,p.1≠b):Inv X DJ σ H' s':=by
 obtain⟨h',g',d',t',o'⟩:=s'
 have e:o'=s.os:=ho
 subst e
 exact I.call (g':=g') (t':=t') (d':=d') u hok hg hch
end
abbrev XK:=Value->Option Addr->Hp->Prop
abbrev St:=List (Option V)
abbrev VK:=V->Hp->Prop
abbrev TE:=St->Hp->VK->Prop
abbrev TT:=St->Hp->(Bool->Hp->Prop)->Prop
abbrev TA:=St->Hp->(List V->Hp->Prop)->Prop
structure Ends where
 nx:St->Hp->Prop
 rt:VK
 bk:St->Hp->Prop:=fun _ _=>False
 ct:St->Hp->Prop:=fun _ _=>False
abbrev TS:=Ends->St->Hp->Prop
def EP(X:Cx)(DJ:List (Addr×Obj))(σ:St)(Q:VK)(u:Value)(s':Shared):Prop:=∃v H',Inv X DJ σ H' s'/\RelV v u/\Q v H'
def TP(X:Cx)(DJ:List (Addr×Obj))(σ:St)(Q:Bool->Hp->Prop)(b:Bool)(s':Shared):Prop:=∃H',Inv X DJ σ H' s'/\Q b H'
def AP(X:Cx)(DJ:List (Addr×Obj))(σ:St)(Q:List V->Hp->Prop)(us:List Value)(s':Shared):Prop:=∃vs H',Inv X DJ σ H' s'/\Vals vs us/\Q vs H'
def SP(X:Cx)(DJ:List (Addr×Obj))(D:Ends)(f:Flow)(s':Shared):Prop :=
 match f with
 | .next=>∃σ' H',Inv X DJ σ' H' s'/\D.nx σ' H'
 | .brk=>∃σ' H',Inv X DJ σ' H' s'/\D.bk σ' H'
 | .cont=>∃σ' H',Inv X DJ σ' H' s'/\D.ct σ' H'
 | .ret u=>∃v σ' H',Inv X DJ σ' H' s'/\RelV v u/\D.rt v H'
def PE(X:Cx)(e:Expr)(t:TE):Prop :=
 ∀(DJ:List (Addr×Obj)) (s:Shared) (σ:St) (H:Hp) (Q:VK),Inv X DJ σ H s->t σ H Q->wpAny (model X.prog X.w) X.A (eval e X.env) (EP X DJ σ Q) X.xe s
def PT(X:Cx)(e:Expr)(t:TT):Prop :=
 ∀(DJ:List (Addr×Obj)) (s:Shared) (σ:St) (H:Hp) (Q:Bool->Hp->Prop),Inv X DJ σ H s->t σ H Q->wpAny (model X.prog X.w) X.A (isTrue e X.env (eval e X.env)) (TP X DJ σ Q) X.xe s
def PW(X:Cx)(e:Expr)(t:TT):Prop :=
 ∀(whole:Sem Value) (DJ:List (Addr×Obj)) (s:Shared) (σ:St) (H:Hp) (Q:Bool->Hp->Prop),Inv X DJ σ H s->t σ H Q->wpAny (model X.prog X.w) X.A (isTrue e X.env whole) (TP X DJ σ Q) X.xe s
theorem PW.pt{X:Cx}{e:Expr}{t:TT}(h:PW X e t):PT X e t:=h _
def PA(X:Cx)(es:List Expr)(t:TA):Prop :=
 ∀(pos:Pos) (DJ:List (Addr×Obj)) (s:Shared) (σ:St) (H:Hp) (Q:List V->Hp->Prop),Inv X DJ σ H s->t σ H Q->wpAny (model X.prog X.w) X.A (spliced (backTo pos (starEach es X.env))) (AP X DJ σ Q) X.xe s
def PS(X:Cx)(st:Stmt)(t:TS):Prop :=
 ∀(DJ:List (Addr×Obj)) (s:Shared) (σ:St) (H:Hp) (D:Ends),Inv X DJ σ H s->t D σ H->wpAny (model X.prog X.w) X.A (exec st X.env) (SP X DJ D) X.xe s
def PSs(X:Cx)(st:List Stmt)(t:TS):Prop :=
 ∀(DJ:List (Addr×Obj)) (s:Shared) (σ:St) (H:Hp) (D:Ends),Inv X DJ σ H s->t D σ H->wpAny (model X.prog X.w) X.A (execs st X.env) (SP X DJ D) X.xe s
theorem thn{α:Type}{t:Sem α}{Q Q':α->Shared->Prop}{M:Model}{A:Around}{E:Value->Shared->Prop}{s:Shared}(h:wpAny M A t Q E s)(hQ:∀a s,Q a s->Q' a s):wpAny M A t Q' E s:=wpAny_mono h hQ fun _ _ x=>x
section
variable {X:Cx}
theorem bin{a b:Expr}{ta tb:TE}(ha:PE X a ta)(hb:PE X b tb){DJ:List (Addr×Obj)}{s:Shared}{σ:St}{H:Hp}{R:V->V->Hp->Prop}(I:Inv X DJ σ H s)(h:ta σ H fun x H1=>tb σ H1 fun y H2=>R x y H2)
  {α:Type}{Q:α->Shared->Prop}{f:Value->Value->Sem α}
  (hf:∀v u s2 x y H2,Inv X DJ σ H2 s2->RelV x v->RelV y u->R x y H2->wpAny (model X.prog X.w) X.A (f v u) Q X.xe s2) :
  wpAny (model X.prog X.w) X.A (eval a X.env) (fun v s₁=>wpAny (model X.prog X.w) X.A (eval b X.env) (fun u s₂=>wpAny (model X.prog X.w) X.A (f v u) Q X.xe s₂) X.xe s₁) X.xe s:=by
 refine thn (ha DJ s σ H _ I h) fun v s1 ⟨x,H1,I1,r1,q1⟩ => ?_
 refine thn (hb DJ s1 σ H1 _ I1 q1) fun u s2 ⟨y,H2,I2,r2,q2⟩ => ?_
 exact hf v u s2 x y H2 I2 r1 r2 q2
def tVar(i:Nat):TE:=fun σ H Q=>∃v,σ[i]?=some (some v)/\Q v H
def tC(v:V):TE:=fun _ H Q=>Q v H
theorem bB{i:Nat}{x:Str}{pos:Pos}(hN:X.N[i]?=some x)(hv:Vis X.env.scope x)(hd:autoParam ((x == ("__debug__":Str))=false) DH)(hcd:autoParam ((x == ("__classdict__":Str))=false) DH):PE X (.Name x pos) (tVar i):=by
 intro DJ s σ H Q I h
 obtain⟨v,e,h⟩:=h
 obtain⟨m,hn,hl⟩:=I.loc
 obtain⟨u,r,l⟩:=hl i x v hN e hv
 have fin:EP X DJ σ Q u s:=⟨v,H,I,r,h⟩
 rcases l with ⟨hk,hm⟩ | ⟨hk,c,hc,hcell⟩
 ·exact wpAny_Name (wpAny_loadName_local I.ok.kind hk hn hm fin) hd
 ·rcases hk with hk | hk
  ·exact wpAny_Name (wpAny_loadName_cell I.ok.kind hk hc hcell fin) hd
  ·exact wpAny_Name (wpAny_loadName_free I.ok.kind hk hc hcell fin hcd) hd
theorem xX{i j pos}:PE X (.Constant (.int i) j pos) (tC (.int i)):=fun _ _ _ H _ I h=>wpAny_Constant_int ⟨.int i,H,I.tok _,⟨_,rfl⟩,h⟩
theorem yA5{b j pos}:PE X (.Constant (.bool b) j pos) (tC (.bl b)):=fun _ _ _ H _ I h=>Constant_bool ⟨.bl b,H,I,rfl,h⟩
theorem aY{j pos}:PE X (.Constant .none j pos) (tC .non):=fun _ _ _ H _ I h=>Constant_none ⟨.non,H,I,rfl,h⟩
theorem gM{x j pos}:PE X (.Constant (.str x) j pos) (tC (.str x)):=fun _ _ _ H _ I h=>Calls.Constant_str ⟨.str x,H,I.tok _,⟨_,rfl⟩,h⟩
def Gl(X:Cx)(x:Str):Prop:=X.env.kindOf x=some .globalImplicit
theorem uU{E:Value->Shared->Prop}{DJ:List (Addr×Obj)}{s:Shared}{σ:St}{H:Hp}{x:Str}{u:Value}{pos:Pos}{Q:Value->Shared->Prop}(I:Inv X DJ σ H s)(hg:Gl X x)(hm:X.mg x=some u)(h:Q u s)
  (hd:autoParam ((x == ("__debug__":Str))=false) DH):wpAny (model X.prog X.w) X.A (eval (.Name x pos) X.env) Q E s :=
 Calls.Name_function_global I.ok.kind hg (Calls.loadGlobal_global (by rw[I.ok.glob];exact I.mod.glob.keeps I.bk) hm h) hd
theorem dL{E:Value->Shared->Prop}{DJ:List (Addr×Obj)}{s:Shared}{σ:St}{H:Hp}{x:Str}{u:Value}{pos:Pos}{Q:Value->Shared->Prop}(I:Inv X DJ σ H s)(hg:Gl X x)(hm:X.mg x=none)(hv:bootBuiltins x=some u)(h:Q u s)
  (hn:autoParam (x ≠ "__name__") DH) (hd:autoParam ((x == ("__debug__":Str))=false) DH):wpAny (model X.prog X.w) X.A (eval (.Name x pos) X.env) Q E s:=by
 obtain⟨mb,h1,h2⟩:=I.mod.blt
 exact Calls.Name_function_global I.ok.kind hg (Calls.loadGlobal_builtin (by rw[I.ok.glob];exact I.mod.glob.keeps I.bk) hm (by rw[I.ok.blt];exact h1.keeps I.bk) ((h2 x hn).trans hv) h) hd
theorem zO4{x:Str}{v:V}{u:Value}{pos:Pos}(hg:Gl X x)(hm:X.mg x=some u)(r:RelV v u)(hd:autoParam ((x == ("__debug__":Str))=false) DH):PE X (.Name x pos) (tC v) :=
 fun _ _ _ H _ I h=>uU I hg hm ⟨v,H,I,r,h⟩ hd
theorem yW7{x:Str}{v:V}{u:Value}{pos:Pos}(hg:Gl X x)(hm:X.mg x=none)(hv:bootBuiltins x=some u)(r:RelV v u)(hn:autoParam (x ≠ "__name__") DH)(hd:autoParam ((x == ("__debug__":Str))=false) DH):PE X (.Name x pos) (tC v) :=
 fun _ _ _ H _ I h=>dL I hg hm hv ⟨v,H,I,r,h⟩ hn hd
variable {a b:Expr}{ta tb:TE}{pos:Pos}
def tB(t:TE):TT:=fun σ H Q=>t σ H fun x H1=>∃c,x=.bl c/\Q c H1
theorem zB5{e:Expr}{t:TE}(h:PE X e t)(he:autoParam (∀whole,isTrue e X.env whole=(do let v <-whole;standAt e.pos;holding [v] (truthy v))) DG):PT X e (tB t):=by
 intro DJ s σ H Q I hw
 refine isTrue_plain (thn (h DJ s σ H _ I hw) fun v s1 ⟨x,H1,I1,r1,q1⟩ => ?_) (he _)
 obtain⟨d,rfl,q⟩:=q1
 cases r1
 exact wpAny_truthy_bool ⟨H1,I1,q⟩
variable {tA tB':TT}{rest:List Expr}
def tAnd(t u:TT):TT:=fun σ H Q=>t σ H fun c H1=>if c=true then u σ H1 Q else Q false H1
def tOr(t u:TT):TT:=fun σ H Q=>t σ H fun c H1=>if c=true then Q true H1 else u σ H1 Q
def tNot(t:TT):TT:=fun σ H Q=>t σ H fun c H1=>Q (!c) H1
theorem pw_and1(ha:PT X a tA):PW X (.BoolOp .And [a] pos) tA:=by
 intro wh DJ s σ H Q I h
 refine isTrue_and (thn (ha DJ s σ H Q I h) fun c s1 e => ?_)
 cases c with
 | true=>exact isTrue_and_nil e
 | false=>exact e
theorem pw_or1(ha:PT X a tA):PW X (.BoolOp .Or [a] pos) tA:=by
 intro wh DJ s σ H Q I h
 refine isTrue_or (thn (ha DJ s σ H Q I h) fun c s1 e => ?_)
 cases c with
 | false=>exact isTrue_or_nil e
 | true=>exact e
theorem pw_and(ha:PT X a tA)(hb:PW X (.BoolOp .And (b::rest) pos) tB'):PW X (.BoolOp .And (a::b::rest) pos) (tAnd tA tB'):=by
 intro wh DJ s σ H Q I h
 refine isTrue_and (thn (ha DJ s σ H _ I h) fun c s1 ⟨H1,I1,q1⟩ => ?_)
 cases c with
 | true=>exact hb wh DJ s1 σ H1 Q I1 q1
 | false=>exact⟨H1,I1,q1⟩
theorem pw_or(ha:PT X a tA)(hb:PW X (.BoolOp .Or (b::rest) pos) tB'):PW X (.BoolOp .Or (a::b::rest) pos) (tOr tA tB'):=by
 intro wh DJ s σ H Q I h
 refine isTrue_or (thn (ha DJ s σ H _ I h) fun c s1 ⟨H1,I1,q1⟩ => ?_)
 cases c with
 | true=>exact⟨H1,I1,q1⟩
 | false=>exact hb wh DJ s1 σ H1 Q I1 q1
theorem yJ9(ha:PT X a tA):PT X (.UnaryOp .Not a pos) (tNot tA):=by
 intro DJ s σ H Q I h
 exact isTrue_not (ha DJ s σ H (fun c H1=>Q (!c) H1) I h)
def tAndV(ta tb:TE):TE:=fun σ H Q=>ta σ H fun x H1=>∃c,x=.bl c/\if c=true then tb σ H1 Q else Q (.bl false) H1
def tNotV(ta:TE):TE:=fun σ H Q=>ta σ H fun x H1=>∃c,x=.bl c/\Q (.bl (!c)) H1
theorem xO5{op}{t:TE}(h:PE X a t):PE X (.BoolOp op [a] pos) t:=fun DJ s σ H Q I hw=>BoolOp_one (h DJ s σ H Q I hw)
theorem xL4(ha:PE X a ta)(hb:PE X (.BoolOp .And (b::rest) pos) tb):PE X (.BoolOp .And (a::b::rest) pos) (tAndV ta tb):=by
 intro DJ s σ H Q I h
 refine BoolOp_and (thn (ha DJ s σ H _ I h) fun v s1 ⟨x,H1,I1,r1,q1⟩ => ?_)
 obtain⟨c,rfl,q1⟩:=q1
 cases r1
 refine wpAny_truthy_bool ?_
 cases c with
 | true=>exact hb DJ s1 σ H1 Q I1 q1
 | false=>exact⟨.bl false,H1,I1,rfl,q1⟩
theorem xM9(ha:PE X a ta):PE X (.UnaryOp .Not a pos) (tNotV ta):=by
 intro DJ s σ H Q I h
 refine UnaryOp_ (thn (ha DJ s σ H _ I h) fun v s1 ⟨x,H1,I1,r1,q1⟩ => ?_)
 obtain⟨c,rfl,q1⟩:=q1
 cases r1
 exact not_of (wpAny_truthy_bool ⟨.bl (!c),H1,I1,rfl,q1⟩)
end
def SqL(K:KFr)(H:Hp)(a:Addr)(xs:List V):Prop :=
 Rd H a (.lst xs) \/
  ∃(o:Obj) (its:Array Value) (n:Nat),K.lookup a=some o/\o.cls=.type "list"/\o.dict=none/\o.data=.seq its n/\its.size<=sizeLine/\Vals xs its.toList
def SqT(K:KFr)(H:Hp)(a:Addr)(xs:List V):Prop :=
 Rd H a (.tup xs) \/
  ∃(o:Obj) (its:Array Value) (n:Nat),K.lookup a=some o/\o.cls=.type "tuple"/\o.data=.seq its n/\its.size<=sizeLine/\Vals xs its.toList
def absV:Value->Option V
 | .none=>some .non
 | .bool b=>some (.bl b)
 | .int i _=>some (.int i)
 | .str x _=>some (.str x)
 | .bytes b _=>some (.byt b)
 | .float b _=>some (.flt b)
 | .ref a=>some (.ref a)
 | .type n=>some (.ty n)
 | _=>none
theorem RelV.abs{x:V}{u:Value}(r:RelV x u):absV u=some x:=by
 cases x with
 | non=>cases r;rfl
 | bl _=>cases r;rfl
 | int _=>obtain⟨t,rfl⟩:=r;rfl
 | str _=>obtain⟨t,rfl⟩:=r;rfl
 | byt _=>obtain⟨t,rfl⟩:=r;rfl
 | flt _=>obtain⟨t,rfl⟩:=r;rfl
 | ref _=>cases r;rfl
 | ty _=>cases r;rfl
theorem RelV.inj{x y:V}{u:Value}(r:RelV x u)(q:RelV y u):x=y:=Ba (r.abs.symm.trans q.abs)
theorem Vals.inj:∀{xs ys:List V}{us:List Value},Vals xs us->Vals ys us->xs=ys
 | _,_,_,.nil,.nil=>rfl
 | _,_,_,.cons r t,.cons r' t'=>by rw[r.inj r',Vals.inj t t']
section
variable {X:Cx}{DJ:List (Addr×Obj)}{σ:St}{H:Hp}{s:Shared}{a:Addr}{xs ys:List V}
theorem SqL.of{K:KFr}(h:H a=some (.lst xs)):SqL K H a xs:=.inl (.inl h)
theorem Inv.list(I:Inv X DJ σ H s)(h:SqL X.K H a xs):∃its:List Value,Vals xs its/\PlainL s.heap a its.toArray/\xs.length<=sizeLine:=by
 rcases h with h | ⟨o,its,n,hk,hc,hd,hs,hz,r⟩
 ·obtain⟨z,its,n,r,e⟩:=h.ok I.hok
  exact⟨its,r,⟨_,n,e,rfl,rfl,rfl⟩,z⟩
 ·refine⟨its.toList,r,⟨o,n,I.kIn a o hk,hc,hd,by simpa using hs⟩,?_⟩
  have e:=r.length
  simp only[Dy] at e
  rfl'
theorem Inv.tuple(I:Inv X DJ σ H s)(h:SqT X.K H a xs):∃its:List Value,Vals xs its/\IsTup s.heap a its.toArray/\xs.length<=sizeLine:=by
 rcases h with h | ⟨o,its,n,hk,hc,hs,hz,r⟩
 ·obtain⟨z,its,r,p⟩:=h.ok I.hok
  exact⟨its,r,p.tup,z⟩
 ·refine⟨its.toList,r,⟨o,I.kIn a o hk,hc,n,by simpa using hs⟩,?_⟩
  have e:=r.length
  simp only[Dy] at e
  rfl'
theorem Inv.zF8(I:Inv X DJ σ H s)(h:SqL X.K H a xs)(h':SqL X.K H a ys):xs=ys:=by
 obtain⟨its,r,⟨o,n,e,_,_,d⟩,_⟩:=I.list h
 obtain⟨its',r',⟨o',n',e',_,_,d'⟩,_⟩:=I.list h'
 rw[e] at e';cases e'
 rw[d] at d'
 injection d' with d1 _
 have:its=its':=by simpa using AZ Array.toList d1
 subst this
 exact r.inj r'
theorem Inv.zK3(I:Inv X DJ σ H s)(h:SqT X.K H a xs)(h':SqT X.K H a ys):xs=ys:=by
 obtain⟨its,r,⟨o,e,_,n,d⟩,_⟩:=I.tuple h
 obtain⟨its',r',⟨o',e',_,n',d'⟩,_⟩:=I.tuple h'
 rw[e] at e';cases e'
 rw[d] at d'
 injection d' with d1 _
 have:its=its':=by simpa using AZ Array.toList d1
 subst this
 exact r.inj r'
end
abbrev Cx.wish(X:Cx)(E:Value->Shared->Prop):Cx:={ X with xe:=E }
abbrev Cx.nox(X:Cx):Cx:=X.wish fun _ _=>False
theorem Cx.Ok.wish{X:Cx}(ok:X.Ok)(E:Value->Shared->Prop):(X.wish E).Ok :=
 ⟨ok.mod,ok.kind,ok.glob,ok.blt,ok.above,ok.inj,ok.has,ok.cab,ok.hd,ok.frames,ok.stk,ok.exf,ok.bs,ok.bsz,ok.noex,ok.exfs,ok.funs,ok.frf⟩
theorem Cx.Ok.unwish{X:Cx}{E:Value->Shared->Prop}(ok:(X.wish E).Ok):X.Ok :=
 ⟨ok.mod,ok.kind,ok.glob,ok.blt,ok.above,ok.inj,ok.has,ok.cab,ok.hd,ok.frames,ok.stk,ok.exf,ok.bs,ok.bsz,ok.noex,ok.exfs,ok.funs,ok.frf⟩
section
variable {X:Cx}{DJ:List (Addr×Obj)}{σ:St}{H:Hp}{s:Shared}{E:Value->Shared->Prop}
theorem Inv.wish(I:Inv X DJ σ H s)(E:Value->Shared->Prop):Inv (X.wish E) DJ σ H s:=⟨I.ok.wish E,I.os,I.bare,I.base,I.loc,I.cell,I.free,I.freeC,I.pin,I.hok,I.len⟩
theorem Inv.unwish(I:Inv (X.wish E) DJ σ H s):Inv X DJ σ H s:=⟨I.ok.unwish,I.os,I.bare,I.base,I.loc,I.cell,I.free,I.freeC,I.pin,I.hok,I.len⟩
theorem SP.unwish{D:Ends}{f:Flow}{s':Shared}(h:SP (X.wish E) DJ D f s'):SP X DJ D f s':=by
 cases f with
 | next=>obtain⟨σ',H',I,q⟩:=h;exact⟨σ',H',I.unwish,q⟩
 | brk=>obtain⟨σ',H',I,q⟩:=h;exact⟨σ',H',I.unwish,q⟩
 | cont=>obtain⟨σ',H',I,q⟩:=h;exact⟨σ',H',I.unwish,q⟩
 | ret u=>obtain⟨v,σ',H',I,r,q⟩:=h;exact⟨v,σ',H',I.unwish,r,q⟩
theorem PSs.nox{st:List Stmt}{t:TS}(h:PSs X.nox st t):PSs X st t:=fun DJ s σ H D I hw =>
 wpAny_mono (h DJ s σ H D (I.wish _) hw) (fun _ _ q=>q.unwish) fun _ _ z=>False.elim z
end
section
variable {X:Cx}{st:Stmt}{rest:List Stmt}{t u:TS}{e:Expr}{te:TE}{pos:Pos}
def tNext:TS:=fun D σ H=>D.nx σ H
def tSeq(t u:TS):TS:=fun D σ H=>t { D with nx:=u D } σ H
theorem kI:PSs X [] tNext:=fun _ _ σ H _ I h=>wpAny_execs_nil ⟨σ,H,I,h⟩
theorem yU(h1:PS X st t)(h2:PSs X rest u):PSs X (st::rest) (tSeq t u):=by
 intro DJ s σ H D I h
 refine wpAny_execs_cons (thn (h1 DJ s σ H { D with nx:=u D } I h) fun f s1 q => ?_)
 cases f with
 | next =>
  obtain⟨σ',H',I',q⟩:=q
  exact h2 DJ s1 σ' H' D I' q
 | ret v=>exact q
 | brk=>exact q
 | cont=>exact q
theorem xO(h1:PS X st t):PSs X [st] t:=by
 intro DJ s σ H D I h
 refine wpAny_execs_cons (thn (h1 DJ s σ H D I h) fun f s1 q => ?_)
 cases f with
 | next=>exact wpAny_execs_nil q
 | ret v=>exact q
 | brk=>exact q
 | cont=>exact q
theorem Inv.quiet{DJ:List (Addr×Obj)}{σ:St}{H:Hp}{s:Shared}(I:Inv X DJ σ H s):interactive X.env=false:=by simp[interactive,I.ok.kind]
def tDrop(te:TE):TS:=fun D σ H=>te σ H fun _ H1=>D.nx σ H1
theorem kG(he:PE X e te)(hs:autoParam (swapsWith e none pos.line X.env=pure false) DI):PS X (.Expr e pos) (tDrop te):=by
 intro DJ s σ H D I h
 exact wpAny_Expr_any (thn (he DJ s σ H _ I h) fun v s1 ⟨x,H1,I1,r1,q1⟩=>⟨σ,H1,I1,q1⟩) I.quiet hs
def tRet(te:TE):TS:=fun D σ H=>te σ H D.rt
theorem qV(he:PE X e te):PS X (.Return (some e) pos) (tRet te):=by
 intro DJ s σ H D I h
 exact wpAny_Return_some (thn (he DJ s σ H _ I h) fun v s1 ⟨x,H1,I1,r1,q1⟩=>⟨x,σ,H1,I1,r1,q1⟩)
def tIfS(c:TT)(t u:TS):TS:=fun D σ H=>c σ H fun b H1=>if b=true then t D σ H1 else u D σ H1
theorem zZ3{c:Expr}{a b:List Stmt}{tc:TT}(hc:PT X c tc)(ha:PSs X a t)(hb:PSs X b u):PS X (.If c a b pos) (tIfS tc t u):=by
 intro DJ s σ H D I h
 refine wpAny_If (thn (hc DJ s σ H _ I h) fun d s1 ⟨H1,I1,q1⟩ => ?_)
 cases d with
 | true=>exact ha DJ s1 σ H1 D I1 q1
 | false=>exact hb DJ s1 σ H1 D I1 q1
def tNever:TS:=fun _ _ _=>False
end
abbrev TG:=V->St->Hp->(St->Hp->Prop)->Prop
abbrev TGs:=List V->St->Hp->(St->Hp->Prop)->Prop
def PG(X:Cx)(target:Expr)(t:TG):Prop :=
 ∀(DJ:List (Addr×Obj)) (s:Shared) (σ:St) (H:Hp) (v:V) (u:Value) (Q:St->Hp->Prop),Inv X DJ σ H s->RelV v u->t v σ H Q ->
  wpAny (model X.prog X.w) X.A (assign target X.env u) (fun _ s'=>∃σ' H',Inv X DJ σ' H' s'/\Q σ' H') X.xe s
def PGs(X:Cx)(ts:List Expr)(t:TGs):Prop :=
 ∀(DJ:List (Addr×Obj)) (s:Shared) (σ:St) (H:Hp) (vs:List V) (us:List Value) (Q:St->Hp->Prop),Inv X DJ σ H s->Vals vs us->t vs σ H Q ->
  wpAny (model X.prog X.w) X.A (assignInOrder ((assignEach ts X.env).map (·.2)) us) (fun _ s'=>∃σ' H',Inv X DJ σ' H' s'/\Q σ' H') X.xe s
abbrev TSet:=V->V->V->Hp->(Hp->Prop)->Prop
def PSet(X:Cx)(t:TSet):Prop :=
 ∀(DJ:List (Addr×Obj)) (s:Shared) (σ:St) (H:Hp) (o i v:V) (ov iv u:Value) (Q:Hp->Prop),Inv X DJ σ H s->RelV o ov->RelV i iv->RelV v u->t o i v H Q ->
  wpAny (model X.prog X.w) X.A (setItem ov iv u) (fun _ s'=>∃H',Inv X DJ σ H' s'/\Q H') X.xe s
section
variable {X:Cx}{pos:Pos}
def gName(i:Nat):TG:=fun v σ H Q=>Q (σ.set i (some v)) H
theorem kM{i:Nat}{x:Str}(hN:X.N.Nodup)(hi:X.N[i]?=some x)(hx:Loc X.env.scope x)(hf:autoParam (X.fn x=true\/X.env.scope.names.lookup x=some .local) DF):PG X (.Name x pos) (gName i):=by
 intro DJ s σ H v u Q I r h
 exact wpAny_assign_Name (qJ I hN hi hx r (fun s' I'=>⟨_,H,I',h⟩) hf)
def gNil:TGs:=fun vs σ H Q=>vs=[]/\Q σ H
def gCons(t:TG)(u:TGs):TGs:=fun vs σ H Q=>∃v r,vs=v::r/\t v σ H fun σ' H'=>u r σ' H' Q
theorem yY6:PGs X [] gNil:=by
 intro DJ s σ H vs us Q I r h
 obtain⟨e,h⟩:=h
 subst e
 cases r
 exact assignInOrder_nil ⟨σ,H,I,h⟩
theorem zY9{e:Expr}{es:List Expr}{t:TG}{u:TGs}(h1:PG X e t)(h2:PGs X es u)
  (hs:autoParam ((assignEach (e::es) X.env).map (·.2)=assign e X.env::(assignEach es X.env).map (·.2)) DI):PGs X (e::es) (gCons t u):=by
 intro DJ s σ H vs us Q I r h
 obtain⟨v,vr,e1,h⟩:=h
 subst e1
 cases r with
 | cons r rr =>
  rw[hs]
  refine assignInOrder_cons (thn (h1 DJ s σ H _ _ _ I r h) fun _ s1 ⟨σ1,H1,I1,q1⟩ => ?_)
  exact h2 DJ s1 σ1 H1 _ _ Q I1 rr q1
def gTup(K:KFr)(n:Nat)(t:TGs):TG:=fun v σ H Q=>∃a xs,v=.ref a/\SqT K H a xs/\xs.length=n/\t xs σ H Q
theorem yM2{es:List Expr}{k:Nat}{t:TGs}{n:Nat}(hc:X.calm=true)(h:PGs X es t)
  (hn:autoParam ((assignEach es X.env).length=n) DI) (hst:autoParam ((assignEach es X.env).findIdx? (·.1)=none) DI):PG X (.Tuple es k pos) (gTup X.K n t):=by
 intro DJ s σ H v u Q I r hw
 obtain⟨a,xs,e1,hq,hl,hw⟩:=hw
 subst e1
 cases r
 obtain⟨its,rv,ht,hz⟩:=I.tuple hq
 refine assign_Tuple_tuple (I.ok.hd hc) ht (by simp[hn,<-hl,rv.length]) hst fun h' hx => ?_
 have I1:Inv X DJ σ H { s with heap:=h' }:=I.kept (t':=s.toks) fun b o e=>hx b o (AL (Am e)) e
 exact h DJ _ σ H xs _ Q I1 (by simpa using rv) hw
def gSub(to ti:TE)(t:TSet):TG:=fun v σ H Q=>to σ H fun o H1=>ti σ H1 fun i H2=>t o i v H2 fun H3=>Q σ H3
theorem xM4{o i:Expr}{to ti:TE}{t:TSet}(ho:PE X o to)(hi:PE X i ti)(hs:PSet X t)
  (ha:∀v,assign (.Subscript o i pos) X.env v=(do
   let ov <-holding [v] (eval o X.env)
   let iv <-holding [v,ov] (eval i X.env)
   standAt pos
   holding [v,ov,iv] (setItem ov iv v)
   release [v,ov,iv] []):=by intro _;rfl):PG X (.Subscript o i pos) (gSub to ti t):=by
 intro DJ s σ H v u Q I r h
 rw[ha]
 refine Ab (wpAny_holding (thn (ho DJ s σ H _ I h) fun ov s1 ⟨x,H1,I1,r1,q1⟩ => ?_))
 refine Ab (wpAny_holding (thn (hi DJ s1 σ H1 _ I1 q1) fun iv s2 ⟨y,H2,I2,r2,q2⟩ => ?_))
 refine Ab (wpAny_standAt (Ab (wpAny_holding (thn (hs DJ s2 σ H2 x y v ov iv u _ I2 r1 r2 r q2) fun _ s3 ⟨H3,I3,q3⟩ => ?_))))
 exact wpAny_release ⟨σ,H3,I3,q3⟩
def tAsg(te:TE)(g:TG):TS:=fun D σ H=>te σ H fun x H1=>g x σ H1 D.nx
theorem yH5{tg e:Expr}{te:TE}{g:TG}(he:PE X e te)(hg:PG X tg g)(hs:autoParam (swapsWithSole [tg] e pos.line X.env=pure false) DI)(hw:autoParam (swappedStores [tg] e X.env=pure none) DI)
  (h1:autoParam ((assignEach [tg] X.env).map (·.2)=[assign tg X.env]) DI):PS X (.Assign [tg] e pos) (tAsg te g):=by
 intro DJ s σ H D I h
 refine wpAny_Assign_stores (thn (he DJ s σ H _ I h) fun v s1 ⟨x,H1,I1,r1,q1⟩ => ?_) hs hw
 rw[h1]
 exact thn (hg DJ s1 σ H1 x v _ I1 r1 q1) fun _ s2 q=>q
theorem xS{i:Nat}{x:Str}{e:Expr}{te:TE}{pos':Pos}(hN:X.N.Nodup)(hi:X.N[i]?=some x)(hx:Loc X.env.scope x)(he:PE X e te)(hs:autoParam (swapsWith e (some (.Name x pos')) pos.line X.env=pure false) DI)(hf:autoParam (X.fn x=true\/X.env.scope.names.lookup x=some .local) DF) :
  PS X (.Assign [.Name x pos'] e pos) (tAsg te (gName i)):=by
 intro DJ s σ H D I h
 refine wpAny_Assign_Name (thn (he DJ s σ H _ I h) fun v s1 ⟨y,H1,I1,r1,q1⟩ => ?_) hs
 exact qJ I1 hN hi hx r1 (fun s2 I2=>⟨_,H1,I2,q1⟩) hf
def tWhile(c:TT)(tb:TS):TS:=fun D σ H=>∃W:Nat->St->Hp->Prop,(∃m,W m σ H)/\∀m σ H,W m σ H ->
 c σ H fun b H1=>if b=true then ∃N:St->Hp->Prop,(∀σ' H',N σ' H'->∃m',m'<m/\W m' σ' H')/\tb { D with nx:=N,ct:=N,bk:=D.nx } σ H1 else D.nx σ H1
theorem kA{c:Expr}{body:List Stmt}{tc:TT}{tb:TS}(hp:PassesOwn (model X.prog X.w) X.A X.env X.xe)(hc:PT X c tc)(hb:PSs X body tb):PS X (.While c body [] pos) (tWhile tc tb):=by
 intro DJ s σ H D I h
 obtain⟨W,⟨m0,w0⟩,turn⟩:=h
 refine wpAny_While (codeAny_whileLoop (fun n s'=>∃σ' H',Inv X DJ σ' H' s'/\W n σ' H') ?_ m0 ⟨σ,H,I,w0⟩)
 rintro n s1 ⟨σ1,H1,I1,w1⟩
 refine wpAny_passesOwn hp (thn (hc DJ s1 σ1 H1 _ I1 (turn n σ1 H1 w1)) fun b s2 ⟨H2,I2,q2⟩ => ?_)
 cases b with
 | true =>
  obtain⟨N,hN,q2⟩:=q2
  rw[Ak rfl]
  refine wpAny_passesOwn hp (thn (hb DJ s2 σ1 H2 _ I2 q2) fun f s3 q3 => ?_)
  cases f with
  | next =>
   obtain⟨σ3,H3,I3,n3⟩:=q3
   obtain⟨m',hm,w3⟩:=hN σ3 H3 n3
   exact⟨m',hm,σ3,H3,I3,w3⟩
  | cont =>
   obtain⟨σ3,H3,I3,n3⟩:=q3
   obtain⟨m',hm,w3⟩:=hN σ3 H3 n3
   exact⟨m',hm,σ3,H3,I3,w3⟩
  | brk=>exact q3
  | ret v=>exact q3
 | false =>
  rw[Ax Ap]
  exact wpAny_execs_nil ⟨σ1,H2,I2,q2⟩
end
structure It where
 go:Nat->Hp->Prop
 yld:Nat->Hp->V->Hp->Prop
 stop:Nat->Hp->Prop
def FpOk(X:Cx)(DJ:List (Addr×Obj))(H:Hp)(b:Addr):Prop :=
 H b=none/\b≠X.env.locals/\b∉X.fs/\(b∈X.ex\/X.s₀.heap.objs.size<=b)/\(∀x c,X.env.cells.lookup x=some c->c≠b)/\∀p∈X.pn++DJ,p.1≠b
theorem Inv.fpOk{X:Cx}{DJ:List (Addr×Obj)}{σ:St}{H H':Hp}{s:Shared}{b:Addr}(I:Inv X DJ σ H s)(hb:s.heap.objs.size<=b)(hn:H' b=none):FpOk X DJ H' b:=by
 refine⟨hn,Co (Ar I.lt hb),I.nofs hb,.inr (AJ I.sz hb),fun x c e z => ?_,fun p hp z => ?_⟩
 ·obtain⟨v,q⟩:=I.cell x c e
  exact absurd (Ar q.lt (by rw[z];exact hb)) (Cg _)
 ·exact absurd (Ar (Am (I.pin p hp).1) (by rw[z];exact hb)) (Cg _)
structure Turn(P:Program)(w:World)(K:KFr)(tg:Expr)(J:It)(fp:List Addr)(it:Addr)(tn:Nat->Heap->Prop):Prop where
 mem:it∈fp
 obj:∀i h,tn i h->∀b∈fp,∃o,h.get? b=some o/\∀v,o.data ≠ .cell v
 keep:∀i h h',tn i h->(∀b∈fp,∀o,h.get? b=some o->h'.get? b=some o)->tn i h'
 item:∀(X:Cx),X.prog=P->X.w=w->X.K=K->X.calm=true->∀(i:Nat) (DJ:List (Addr×Obj)) (s:Shared) (σ:St) (H:Hp) (E:Value->Shared->Prop),Inv X DJ σ H s->(∀b∈fp,FpOk X DJ H b)->tn i s.heap->J.go i H ->
  wpAny (model P w) X.A (pyNext (.ref it)) (fun r s1=>∃u,r=some u /\
   wpAny (model P w) X.A (letOwnedTupleGo tg (.ref it) u) (fun _ s2=>∃x H',Inv X DJ σ H' s2/\RelV x u/\J.yld i H x H'/\tn (i+1) s2.heap/\∀b∈fp,H' b=none) E s1) E s
 done:∀(X:Cx),X.prog=P->X.w=w->X.K=K->X.calm=true->∀(i:Nat) (DJ:List (Addr×Obj)) (s:Shared) (σ:St) (H:Hp) (E:Value->Shared->Prop),Inv X DJ σ H s->(∀b∈fp,FpOk X DJ H b)->tn i s.heap->J.stop i H ->
  wpAny (model P w) X.A (pyNext (.ref it)) (fun r s1=>r=none/\Inv X DJ σ H s1) E s
 self:∀(A:Around) (i:Nat) (s:Shared) (Q:Value->Shared->Prop) (E:Value->Shared->Prop),tn i s.heap->Q (.ref it) s->wpAny (model P w) A (pyIter (.ref it)) Q E s
abbrev TI:=St->Hp->(It->Hp->Prop)->Prop
def PIE(X:Cx)(DJ:List (Addr×Obj))(σ:St)(tg:Expr)(R:It->Hp->Prop)(itv:Value)(s2:Shared):Prop :=
 ∃(it:Addr) (fp:List Addr) (tn:Nat->Heap->Prop) (J:It) (H':Hp),itv=.ref it/\Inv X DJ σ H' s2/\Turn X.prog X.w X.K tg J fp it tn/\tn 0 s2.heap/\(∀b∈fp,FpOk X DJ H' b)/\R J H'
def PI(X:Cx)(tg iter:Expr)(wi:TI):Prop :=
 ∀(DJ:List (Addr×Obj)) (s:Shared) (σ:St) (H:Hp) (R:It->Hp->Prop),Inv X DJ σ H s->wi σ H R ->
  wpAny (model X.prog X.w) X.A (eval iter X.env) (fun v s1=>wpAny (model X.prog X.w) X.A (pyIter v) (PIE X DJ σ tg R) X.xe s1) X.xe s
theorem yT7{M:Model}{A:Around}{E:Value->Shared->Prop}{s:Shared}{tg:Expr}{it:Addr}{u:Value}{o:Obj}{n:String}{vs:Array Value}{Q:Unit->Shared->Prop}(ho:s.heap.get? it=some o)(hc:o.cls=.type n)(hd:o.data=.fields vs)
  (hn:["enumerate","zip","dict_itemiterator","dict_reverseitemiterator","odict_iterator","itertools.zip_longest","itertools.pairwise"].contains n=false) (hQ:Q () s):wpAny M A (letOwnedTupleGo tg (.ref it) u) Q E s:=by
 unfold letOwnedTupleGo
 cases tg <;> first
  | exact Ao hQ
  | (cases u <;> first
    | exact Ao hQ
    | (refine Ab (wpAny_load ho ?_)
       rw[hc,hd]
       show wpAny M A (if (["enumerate","zip","dict_itemiterator","dict_reverseitemiterator","odict_iterator","itertools.zip_longest","itertools.pairwise"].contains n&&vs[0]? == some (rawInt _))=true then _ else _) Q E s
       rw[Ax (by intro h;rw[hn,BL] at h;cases h)]
       exact Ao hQ))
def Itl(K:KFr)(a:Addr):It :=
 ⟨fun i H=>∃xs x,SqL K H a xs/\xs[i]?=some x,fun i H x H'=>H'=H/\∀xs,SqL K H a xs->xs[i]?=some x,fun i H=>∃xs,SqL K H a xs/\xs.length<=i⟩
def Itt(K:KFr)(a:Addr):It :=
 ⟨fun i H=>∃xs x,SqT K H a xs/\xs[i]?=some x,fun i H x H'=>H'=H/\∀xs,SqT K H a xs->xs[i]?=some x,fun i H=>∃xs,SqT K H a xs/\xs.length<=i⟩
def Itr(lo:Int)(n:Nat):It:=⟨fun i _=>i<n,fun i H x H'=>H'=H/\x=.int (lo+i),fun i _=>n<=i⟩
theorem zK7{P:Program}{w:World}{K:KFr}{tg:Expr}(a it:Addr):Turn P w K tg (Itl K a) [it] it (fun i h=>h.IsListIter it a i) where
 mem:=by simp
 obj:=fun i h st b hb=>by
  have e:b=it:=by simpa using hb
  subst e
  obtain⟨o,e,c,d⟩:=st
  exact⟨o,e,fun v z=>by rw[d] at z;cases z⟩
 keep:=fun i h h' st k=>st.at fun o e=>k it (by simp) o e
 item:=by
  intro X hP hw hK hc i DJ s σ H E I hf st hg
  subst hP hw hK
  obtain⟨xs,x,hq,hx⟩:=hg
  obtain⟨its,rv,p,hz⟩:=I.list hq
  obtain⟨u,hu,ru⟩:=rv.get hx
  obtain⟨f0,f1,f2,f3,f4,f5⟩:=hf it (by simp)
  refine wpAny_pyNext_list_item st p.isList (x:=u) (by simpa using hu) fun h' st' sb => ?_
  have I1:Inv X DJ σ H { s with heap:=h' }:=I.turned (t':=s.toks) (fun b o hb e=>(sb.2 b hb).trans e) f0 f1 f3 f4 f5
  obtain⟨o,e,c,d⟩:=id st'
  exact⟨u,rfl,yT7 (s:={ s with heap:=h' }) e c d (by decide) ⟨x,H,I1,ru,⟨rfl,fun ys hy=>by rw[I.zF8 hy hq];exact hx⟩,st',fun b hb=>(hf b hb).1⟩⟩
 done:=by
  intro X hP hw hK hc i DJ s σ H E I hf st hg
  subst hP hw hK
  obtain⟨xs,hq,hx⟩:=hg
  obtain⟨its,rv,p,hz⟩:=I.list hq
  obtain⟨f0,f1,f2,f3,f4,f5⟩:=hf it (by simp)
  have hl:=rv.length
  exact wpAny_pyNext_list_end (I.ok.hd hc) st p.isList (by simp;rfl') fun h' eb=>⟨rfl,I.turned (t':=s.toks) (fun b o hb e=>eb b o hb e) f0 f1 f3 f4 f5⟩
 self:=fun _ _ _ _ _ st h=>wpAny_pyIter_listiter st h
theorem yU9{P:Program}{w:World}{K:KFr}{tg:Expr}(a it:Addr):Turn P w K tg (Itt K a) [it] it (fun i h=>h.IsTupleIter it a i) where
 mem:=by simp
 obj:=fun i h st b hb=>by
  have e:b=it:=by simpa using hb
  subst e
  obtain⟨o,e,c,d⟩:=st
  exact⟨o,e,fun v z=>by rw[d] at z;cases z⟩
 keep:=fun i h h' st k=>st.at fun o e=>k it (by simp) o e
 item:=by
  intro X hP hw hK hc i DJ s σ H E I hf st hg
  subst hP hw hK
  obtain⟨xs,x,hq,hx⟩:=hg
  obtain⟨its,rv,p,hz⟩:=I.tuple hq
  obtain⟨u,hu,ru⟩:=rv.get hx
  obtain⟨f0,f1,f2,f3,f4,f5⟩:=hf it (by simp)
  refine wpAny_pyNext_tuple_item st (show s.heap.IsTuple a its.toArray from p) (x:=u) (by simpa using hu) fun h' st' sb => ?_
  have I1:Inv X DJ σ H { s with heap:=h' }:=I.turned (t':=s.toks) (fun b o hb e=>(sb.2 b hb).trans e) f0 f1 f3 f4 f5
  obtain⟨o,e,c,d⟩:=id st'
  exact⟨u,rfl,yT7 (s:={ s with heap:=h' }) e c d (by decide) ⟨x,H,I1,ru,⟨rfl,fun ys hy=>by rw[I.zK3 hy hq];exact hx⟩,st',fun b hb=>(hf b hb).1⟩⟩
 done:=by
  intro X hP hw hK hc i DJ s σ H E I hf st hg
  subst hP hw hK
  obtain⟨xs,hq,hx⟩:=hg
  obtain⟨its,rv,p,hz⟩:=I.tuple hq
  obtain⟨f0,f1,f2,f3,f4,f5⟩:=hf it (by simp)
  have hl:=rv.length
  exact wpAny_pyNext_tuple_end (I.ok.hd hc) st (show s.heap.IsTuple a its.toArray from p) (by simp;rfl') fun h' eb=>⟨rfl,I.turned (t':=s.toks) (fun b o hb e=>eb b o hb e) f0 f1 f3 f4 f5⟩
 self:=fun _ _ _ _ _ st h=>wpAny_pyIter_tupleiter st h
theorem yQ2{P:Program}{w:World}{K:KFr}{tg:Expr}(it:Addr)(lo:Int)(n:Nat):Turn P w K tg (Itr lo n) [it] it (fun i h=>IsRangeIter h it (lo+(i:Nat)*1) ((n:Int)-(i:Nat)) 1) where
 mem:=by simp
 obj:=fun i h st b hb=>by
  have e:b=it:=by simpa using hb
  subst e
  exact⟨_,st,fun v z=>by
   have z':Data.fields _=Data.cell v:=z
   cases z'⟩
 keep:=fun i h h' st k=>k it (by simp) _ st
 item:=by
  intro X hP hw hK hc i DJ s σ H E I hf st hg
  subst hP hw hK
  obtain⟨f0,f1,f2,f3,f4,f5⟩:=hf it (by simp)
  have W:=Walks.range (prog:=X.prog) (w:=X.w) (I.ok.hd hc) it lo 1 n
  refine W.item i s _ _ hg st fun v h' tk hv st' kk => ?_
  obtain⟨t,rfl⟩:=hv
  have I1:Inv X DJ σ H { s with heap:=h',toks:=tk }:=I.turned (fun b o hb e=>kk b o (by simpa using hb) e) f0 f1 f3 f4 f5
  refine⟨_,rfl,yT7 (s:={ s with heap:=h',toks:=tk }) (n:="range_iterator") st' rfl rfl (by decide) ⟨.int (lo+i),H,I1,⟨t,?_⟩,⟨rfl,rfl⟩,st',fun b hb=>(hf b hb).1⟩⟩
  rw[Int.mul_one]
 done:=by
  intro X hP hw hK hc i DJ s σ H E I hf st hg
  subst hP hw hK
  obtain⟨f0,f1,f2,f3,f4,f5⟩:=hf it (by simp)
  exact wpAny_pyNext_range_end (I.ok.hd hc) st (by have:n<=i:=hg;rfl') fun h' eb=>⟨rfl,I.turned (t':=s.toks) (fun b o hb e=>eb b o hb e) f0 f1 f3 f4 f5⟩
 self:=fun _ _ _ _ _ st h=>wpAny_pyIter_rangeiter st h
section
variable {X:Cx}{tg:Expr}
def iList(K:KFr)(tl:TE):TI:=fun σ H R=>tl σ H fun x H1=>∃a,x=.ref a/\(∃xs,SqL K H1 a xs)/\R (Itl K a) H1
theorem yW3{l:Expr}{tl:TE}(hl:PE X l tl):PI X tg l (iList X.K tl):=by
 intro DJ s σ H R I h
 refine thn (hl DJ s σ H _ I h) fun v s1 ⟨x,H1,I1,r1,q1⟩ => ?_
 obtain⟨a,e,⟨xs,hq⟩,q⟩:=q1
 subst e
 cases r1
 obtain⟨its,rv,p,hz⟩:=I1.list hq
 refine wpAny_pyIter_list p.isList ?_
 refine⟨s1.heap.objs.size,[s1.heap.objs.size],_,_,H1,rfl,I1.kept (t':=s1.toks) fun b o e=>An _ e,zK7 a _,⟨_,AH _ rfl,rfl,rfl⟩,fun b hb => ?_,q⟩
 have e:b=s1.heap.objs.size:=by simpa using hb
 subst e
 exact I1.fpOk (Al _) (I1.hok.fresh (Al _))
theorem zF9{DJ:List (Addr×Obj)}{σ:St}{H:Hp}{s:Shared}{R:It->Hp->Prop}{E:Value->Shared->Prop}{lo hi:Int}{t u v:Tok}{tk:Nat}(I:Inv X DJ σ H s)(h1:-(2 ^ 62)<=lo)(h2:lo<2 ^ 62)(h3:-(2 ^ 62)<=hi)(h4:hi<2 ^ 62)
  (q:R (Itr lo (hi-lo).toNat) H):wpAny (model X.prog X.w) X.A (pyIter (.ref s.heap.objs.size)) (PIE X DJ σ tg R) E { s with heap:=s.heap.push { cls:=.type "range",data:=.fields #[.int lo t,.int hi u,.int 1 v] },toks:=tk }:=by
 refine wpAny_pyIter_range (IsRange.new ..) (small_one h1 h2 h3 h4) ?_
 have I1:Inv X DJ σ H { s with heap:=s.heap.push { cls:=.type "range",data:=.fields #[.int lo t,.int hi u,.int 1 v] },toks:=tk }:=I.kept fun b o e=>An _ e
 refine⟨(s.heap.push { cls:=.type "range",data:=.fields #[.int lo t,.int hi u,.int 1 v] }).objs.size,[(s.heap.push { cls:=.type "range",data:=.fields #[.int lo t,.int hi u,.int 1 v] }).objs.size],_,_,H,rfl,
  I1.kept (t':=tk) fun b o e=>An _ e,yQ2 _ lo (hi-lo).toNat,?_,fun b hb => ?_,q⟩
 ·have e1:lo+((0:Nat):Int)*1=lo:=by simp
  have e2:(((hi-lo).toNat:Nat):Int)-((0:Nat):Int)=Builtin.Range.rangeSize lo hi 1:=by rw[rangeSize_one];split <;> rfl'
  show IsRangeIter _ _ (lo+((0:Nat):Int)*1) ((((hi-lo).toNat:Nat):Int)-((0:Nat):Int)) 1
  rw[e1,e2]
  exact AH _ rfl
 ·have e:b=(s.heap.push { cls:=.type "range",data:=.fields #[.int lo t,.int hi u,.int 1 v] }).objs.size:=by simpa using hb
  subst e
  exact I1.fpOk (Al _) (I1.hok.fresh (Al _))
def iRng1(ta:TA):TI:=fun σ H R=>ta σ H fun vs H1=>∃j:Int,vs=[.int j]/\-(2 ^ 62)<=j/\j<2 ^ 62/\R (Itr 0 j.toNat) H1
def iRng2(ta:TA):TI:=fun σ H R=>ta σ H fun vs H1=>∃i j:Int,vs=[.int i,.int j]/\(-(2 ^ 62)<=i/\i<2 ^ 62/\-(2 ^ 62)<=j/\j<2 ^ 62)/\R (Itr i (j-i).toNat) H1
theorem fR{a:Expr}{ta:TA}{p pos:Pos}(hg:Gl X "range")(hm:X.mg "range" = none)(ha:PA X [a] ta)(hs:autoParam (starEach [a] X.env=[(false,eval a X.env)]) DI):PI X tg (.Call (.Name "range" p) [a] [] pos) (iRng1 ta):=by
 intro DJ s σ H R I h
 refine Call_ (dL I hg hm boot_range (Cb (thn (ha pos DJ s σ H _ I h) fun us s1 ⟨vs,H1,I1,r1,q1⟩ => ?_) hs rfl))
 obtain⟨j,e,q1,q2,q⟩:=q1
 subst e
 cases r1 with
 | cons r rr =>
  cases rr
  obtain⟨t,rfl⟩:=r
  exact call_range_1 (zF9 I1 (by rfl') (by rfl') q1 q2 (by simpa using q))
theorem yQ9{a b:Expr}{ta:TA}{p pos:Pos}(hg:Gl X "range")(hm:X.mg "range" = none)(ha:PA X [a,b] ta)(hs:autoParam (starEach [a,b] X.env=[(false,eval a X.env),(false,eval b X.env)]) DI)(hs2:autoParam (starEach [b] X.env=[(false,eval b X.env)]) DI) :
  PI X tg (.Call (.Name "range" p) [a,b] [] pos) (iRng2 ta):=by
 intro DJ s σ H R I h
 refine Call_ (dL I hg hm boot_range (Cb (thn (ha pos DJ s σ H _ I h) fun us s1 ⟨vs,H1,I1,r1,q1⟩ => ?_) (by rw[hs,hs2]) (by rw[hs2];rfl)))
 obtain⟨i,j,e,⟨q1,q2,q3,q4⟩,q⟩:=q1
 subst e
 cases r1 with
 | cons r rr =>
  cases rr with
  | cons r' rr =>
   cases rr
   obtain⟨t,rfl⟩:=r
   obtain⟨t',rfl⟩:=r'
   exact call_range_2 (zF9 I1 q1 q2 q3 q4 q)
def tFor(wi:TI)(g:TG)(tb:TS):TS:=fun D σ H=>wi σ H fun J H1=>∃W:Nat->Nat->St->Hp->Prop,(∃m,W 0 m σ H1)/\∀i m σ H,W i m σ H ->
 (J.stop i H/\D.nx σ H)\/(J.go i H/\∃N:St->Hp->Prop,(∀σ' H',N σ' H'->∃m',m'<m/\W (i+1) m' σ' H')/\∀x H',J.yld i H x H'->g x σ H' fun σ2 H2=>tb { D with nx:=N,ct:=N,bk:=D.nx } σ2 H2)
def pinsAt(fp:List Addr)(h:Heap):List (Addr×Obj):=fp.filterMap fun b=>(h.get? b).map fun o=>(b,o)
theorem vX{fp:List Addr}{h:Heap}{b:Addr}{o:Obj}(hb:b∈fp)(e:h.get? b=some o):(b,o)∈pinsAt fp h:=Bz.mpr ⟨b,hb,by rw[e];rfl⟩
theorem yN5{fp:List Addr}{h:Heap}{p:Addr×Obj}(hp:p∈pinsAt fp h):p.1∈fp/\h.get? p.1=some p.2:=by
 obtain⟨b,hb,e⟩:=Bz.mp hp
 cases q:h.get? b with
 | none=>rw[q] at e;cases e
 | some o =>
  rw[q] at e
  have e':(b,o)=p:=Ba e
  subst e'
  exact⟨hb,q⟩
theorem Inv.pinned{DJ:List (Addr×Obj)}{σ:St}{H:Hp}{s:Shared}{fp:List Addr}(I:Inv X DJ σ H s)(hf:∀b∈fp,FpOk X DJ H b)(ho:∀b∈fp,∃o,s.heap.get? b=some o/\∀v,o.data ≠ .cell v):Inv X (DJ++pinsAt fp s.heap) σ H s :=
 I.xE fun p hp=>(AB.mp hp).elim (fun z=>I.pin p (Ah _ z)) fun z=>by
  obtain⟨hb,e⟩:=yN5 z
  obtain⟨f0,f1,f2,_⟩:=hf p.1 hb
  obtain⟨o,e',d⟩:=ho p.1 hb
  rw[e] at e';cases e'
  exact⟨e,f0,f1,f2,d⟩
theorem Inv.unpinned{DJ pl:List (Addr×Obj)}{σ:St}{H:Hp}{s:Shared}(I:Inv X (DJ++pl) σ H s):Inv X DJ σ H s:=I.xE fun p hp=>I.pin p (Ah _ (AW _ hp))
theorem zE2{iter:Expr}{body:List Stmt}{wi:TI}{g:TG}{tb:TS}{pos:Pos}(hp:PassesOwn (model X.prog X.w) X.A X.env X.xe)(hc:X.calm=true)(hi:PI X tg iter wi)(hg:PG X tg g)(hb:PSs X body tb)
  (hs:autoParam (∀x,foldedSetIterable iter X.env x=pure x) DG):PS X (.For tg iter body [] pos) (tFor wi g tb):=by
 intro DJ s σ H D I h
 refine wpAny_For (thn (hi DJ s σ H _ I h) fun v s1 h1=>thn h1 fun itv s2 h2 => ?_) hs
 obtain⟨it,fp,tn,J,H2,e,I2,T,st2,f2,W,⟨m0,w0⟩,turn⟩:=h2
 subst e
 have stat:∀{H':Hp},(∀b∈fp,H' b=none)->∀b∈fp,FpOk X DJ H' b:=fun hn b hb=>⟨hn b hb,(f2 b hb).2⟩
 refine codeAny_forLoop_any (fun n s'=>∃i σ' H',Inv X DJ σ' H' s'/\tn i s'.heap/\(∀b∈fp,H' b=none)/\W i n σ' H') ?_ m0 ⟨0,σ,H2,I2,st2,fun b hb=>(f2 b hb).1,w0⟩
 rintro n s3 ⟨i,σ3,H3,I3,st3,fr3,w3⟩
 rcases turn i n σ3 H3 w3 with ⟨stop,qn⟩ | ⟨go,N,hN,step⟩
 ·refine wpAny_passesOwn hp (thn (T.done X rfl rfl rfl hc i DJ s3 σ3 H3 X.xe I3 (stat fr3) st3 stop) fun r s4 ⟨hr,I4⟩ => ?_)
  subst hr
  exact wpAny_execs_nil ⟨σ3,H3,I4,qn⟩
 ·refine wpAny_passesOwn hp (thn (T.item X rfl rfl rfl hc i DJ s3 σ3 H3 X.xe I3 (stat fr3) st3 go) fun r s4 ⟨u,hr,h4⟩ => ?_)
  subst hr
  refine wpAny_passesOwn hp (thn h4 fun _ s5 ⟨x,H5,I5,r5,y5,st5,fr5⟩ => ?_)
  have I5':=I5.pinned (stat fr5) (T.obj _ _ st5)
  refine wpAny_passesOwn hp (thn (hg _ s5 σ3 H5 x u _ I5' r5 (step x H5 y5)) fun _ s6 ⟨σ6,H6,I6,q6⟩ => ?_)
  refine wpAny_passesOwn hp (thn (hb _ s6 σ6 H6 _ I6 q6) fun f s7 q7 => ?_)
  have again:∀{σ7:St}{H7:Hp},Inv X (DJ++pinsAt fp s5.heap) σ7 H7 s7->N σ7 H7->∃m,m<n/\∃i σ' H',Inv X DJ σ' H' s7/\tn i s7.heap/\(∀b∈fp,H' b=none)/\W i m σ' H':=fun {σ7 H7} I7 n7=>by
   obtain⟨m',hm,w7⟩:=hN σ7 H7 n7
   refine⟨m',hm,i+1,σ7,H7,I7.unpinned,T.keep _ _ _ st5 fun b hb o e=>(I7.pin (b,o) (Ah _ (Ah _ (vX hb e)))).1,fun b hb => ?_,w7⟩
   obtain⟨o,e,d⟩:=T.obj _ _ st5 b hb
   exact (I7.pin (b,o) (Ah _ (Ah _ (vX hb e)))).2.1
  cases f with
  | next=>obtain⟨σ7,H7,I7,n7⟩:=q7;exact again I7 n7
  | cont=>obtain⟨σ7,H7,I7,n7⟩:=q7;exact again I7 n7
  | brk=>obtain⟨σ7,H7,I7,q7⟩:=q7;exact⟨σ7,H7,I7.unpinned,q7⟩
  | ret v=>obtain⟨x7,σ7,H7,I7,r7,q7⟩:=q7;exact⟨x7,σ7,H7,I7.unpinned,r7,q7⟩
end
theorem yP6{lo:Int}{n:Nat}{g:TG}{tb:TS}{D:Ends}{σ:St}{H:Hp}(Pv:Nat->St->Hp->Prop)(h0:Pv 0 σ H)
  (hs:∀i σ H,i<n->Pv i σ H->g (.int (lo+i)) σ H fun σ2 H2=>tb { D with nx:=Pv (i+1),ct:=Pv (i+1),bk:=D.nx } σ2 H2) (hd:∀σ H,Pv n σ H->D.nx σ H) :
  ∃W:Nat->Nat->St->Hp->Prop,(∃m,W 0 m σ H)/\∀i m σ H,W i m σ H ->
   ((Itr lo n).stop i H/\D.nx σ H)\/((Itr lo n).go i H/\∃N:St->Hp->Prop,(∀σ' H',N σ' H'->∃m',m'<m/\W (i+1) m' σ' H')/\∀x H',(Itr lo n).yld i H x H'->g x σ H' fun σ2 H2=>tb { D with nx:=N,ct:=N,bk:=D.nx } σ2 H2):=by
 refine⟨fun i m σ H=>m=n-i/\i<=n/\Pv i σ H,⟨n,by simp,AM _,h0⟩,?_⟩
 rintro i m σ H ⟨rfl,hi,p⟩
 by_cases hlt:i<n
 ·refine .inr ⟨hlt,Pv (i+1),fun σ' H' p'=>⟨n-(i+1),by rfl',rfl,hlt,p'⟩,fun x H' y => ?_⟩
  obtain⟨e,y⟩:=y
  subst e y
  exact hs i σ _ hlt p
 ·have e:i=n:=by rfl'
  subst e
  exact .inl ⟨Al _,hd σ H p⟩
abbrev R2:=V->V->Hp->VK->Prop
def OpR(X:Cx)(f:Value->Value->Sem Value)(r:R2):Prop :=
 ∀(DJ:List (Addr×Obj)) (s:Shared) (σ:St) (H:Hp) (x y:V) (v u:Value) (Q:VK),Inv X DJ σ H s->RelV x v->RelV y u->r x y H Q ->
  wpAny (model X.prog X.w) X.A (f v u) (EP X DJ σ Q) X.xe s
def UnR(X:Cx)(f:Value->Sem Value)(r:V->Hp->VK->Prop):Prop :=
 ∀(DJ:List (Addr×Obj)) (s:Shared) (σ:St) (H:Hp) (x:V) (v:Value) (Q:VK),Inv X DJ σ H s->RelV x v->r x H Q ->
  wpAny (model X.prog X.w) X.A (f v) (EP X DJ σ Q) X.xe s
def CallR(X:Cx)(f:Value)(r:List V->Hp->VK->Prop):Prop :=
 ∀(DJ:List (Addr×Obj)) (s:Shared) (σ:St) (H:Hp) (xs:List V) (us:List Value) (Q:VK),Inv X DJ σ H s->Vals xs us->r xs H Q ->
  wpAny (model X.prog X.w) X.A (call f us) (EP X DJ σ Q) X.xe s
def tOp(r:R2)(ta tb:TE):TE:=fun σ H Q=>ta σ H fun x H1=>tb σ H1 fun y H2=>r x y H2 Q
def tUn(r:V->Hp->VK->Prop)(ta:TE):TE:=fun σ H Q=>ta σ H fun x H1=>r x H1 Q
def rI(C:Int->Int->Prop)(g:Int->Int->V):R2:=fun x y H Q=>∃i j,x=.int i/\y=.int j/\C i j/\Q (g i j) H
def rI0(g:Int->Int->V):R2:=fun x y H Q=>∃i j,x=.int i/\y=.int j/\Q (g i j) H
def rU(g:Int->V):V->Hp->VK->Prop:=fun x H Q=>∃i,x=.int i/\Q (g i) H
section
variable {X:Cx}{a b c:Expr}{ta tb tc:TE}{pos:Pos}
theorem binT(ha:PE X a ta)(hb:PE X b tb){DJ:List (Addr×Obj)}{s:Shared}{σ:St}{H:Hp}{R:V->V->Hp->Prop}(I:Inv X DJ σ H s)
  (h:ta σ H fun x H1=>tb σ H1 fun y H2=>R x y H2){Q:Value->Shared->Prop}{f:Value->Value->Sem Value}
  (hf:∀v u s2 x y H2,Inv X DJ σ H2 s2->RelV x v->RelV y u->R x y H2->wpAny (model X.prog X.w) X.A (f v u) Q X.xe s2) :
  wpAny (model X.prog X.w) X.A (eval a X.env) (fun v s₁=>wpAny (model X.prog X.w) X.A (eval b X.env) (fun u s₂=>wpAny (model X.prog X.w) X.A (f v u) Q X.xe s₂) X.xe s₁) X.xe s:=by
 refine thn (ha DJ s σ H _ I h) fun v s1 ⟨x,H1,I1,r1,q1⟩ => ?_
 refine thn (hb DJ s1 σ H1 _ I1 q1) fun u s2 ⟨y,H2,I2,r2,q2⟩ => ?_
 exact hf v u s2 x y H2 I2 r1 r2 q2
theorem uH{op:Operator}{r:R2}(ho:OpR X (binaryOp op) r)(ha:PE X a ta)(hb:PE X b tb):PE X (.BinOp a op b pos) (tOp r ta tb):=by
 intro DJ s σ H Q I h
 exact wpAny_BinOp (binT ha hb I h fun v u s2 x y H2 I2 rx ry q=>ho DJ s2 σ H2 x y v u Q I2 rx ry q)
theorem yS7{op:UnaryOp}{r:V->Hp->VK->Prop}(ho:UnR X (unaryOp op) r)(ha:PE X a ta):PE X (.UnaryOp op a pos) (tUn r ta):=by
 intro DJ s σ H Q I h
 exact UnaryOp_ (thn (ha DJ s σ H _ I h) fun v s1 ⟨x,H1,I1,r1,q1⟩=>ho DJ s1 σ H1 x v Q I1 r1 q1)
theorem opI{f:Value->Value->Sem Value}{C:Int->Int->Prop}{g:Int->Int->Int}
  (rule:∀(i j:Int) (t u:Tok) (s:Shared) (Q:Value->Shared->Prop) (E:Value->Shared->Prop),C i j->Q (.int (g i j) s.toks) { s with toks:=s.toks+1 }->wpAny (model X.prog X.w) X.A (f (.int i t) (.int j u)) Q E s) :
  OpR X f (rI C fun i j=>.int (g i j)):=by
 intro DJ s σ H x y v u Q I rx ry h
 obtain⟨i,j,rfl,rfl,hc,q⟩:=h
 obtain⟨t,rfl⟩:=rx
 obtain⟨t',rfl⟩:=ry
 exact rule i j t t' s _ _ hc ⟨.int (g i j),H,I.tok _,⟨_,rfl⟩,q⟩
theorem opI0{f:Value->Value->Sem Value}{g:Int->Int->Int}
  (rule:∀(i j:Int) (t u:Tok) (s:Shared) (Q:Value->Shared->Prop) (E:Value->Shared->Prop),Q (.int (g i j) s.toks) { s with toks:=s.toks+1 }->wpAny (model X.prog X.w) X.A (f (.int i t) (.int j u)) Q E s) :
  OpR X f (rI0 fun i j=>.int (g i j)):=by
 intro DJ s σ H x y v u Q I rx ry h
 obtain⟨i,j,rfl,rfl,q⟩:=h
 obtain⟨t,rfl⟩:=rx
 obtain⟨t',rfl⟩:=ry
 exact rule i j t t' s _ _ ⟨.int (g i j),H,I.tok _,⟨_,rfl⟩,q⟩
theorem opB0{f:Value->Value->Sem Value}{g:Int->Int->Bool}
  (rule:∀(i j:Int) (t u:Tok) (s:Shared) (Q:Value->Shared->Prop) (E:Value->Shared->Prop),Q (.bool (g i j)) s->wpAny (model X.prog X.w) X.A (f (.int i t) (.int j u)) Q E s) :
  OpR X f (rI0 fun i j=>.bl (g i j)):=by
 intro DJ s σ H x y v u Q I rx ry h
 obtain⟨i,j,rfl,rfl,q⟩:=h
 obtain⟨t,rfl⟩:=rx
 obtain⟨t',rfl⟩:=ry
 exact rule i j t t' s _ _ ⟨.bl (g i j),H,I,rfl,q⟩
def CMul(i j:Int):Prop:=(-(2 ^ 64)<i/\i<2 ^ 64)\/(-(2 ^ 64)<j/\j<2 ^ 64)
theorem CMul.ok{i j:Int}(h:CMul i j):IntMulOk i j:=by
 rcases h with ⟨h1,h2⟩ | ⟨h1,h2⟩
 ·exact .of_left (intBits_le_64 h1 h2)
 ·exact .of_right (intBits_le_64 h1 h2)
theorem yJ:OpR X (binaryOp .Add) (rI0 fun i j=>.int (i+j)):=opI0 fun _ _ _ _ _ _ _ q=>add_int q
theorem gH:OpR X (binaryOp .Sub) (rI0 fun i j=>.int (i-j)):=opI0 fun _ _ _ _ _ _ _ q=>sub_int q
theorem qU:OpR X (binaryOp .Mod) (rI (fun _ j=>0<j) fun i j=>.int (i%j)):=opI fun i j _ _ _ _ _ hc q=>by
 have h1:(0:Int)<j:=hc
 exact mod_int' (by rfl') (by rw[Int.fmod_eq_emod_of_nonneg i (by rfl')];exact q)
theorem unI{f:Value->Sem Value}{g:Int->Int}
  (rule:∀(i:Int) (t:Tok) (s:Shared) (Q:Value->Shared->Prop) (E:Value->Shared->Prop),Q (.int (g i) s.toks) { s with toks:=s.toks+1 }->wpAny (model X.prog X.w) X.A (f (.int i t)) Q E s) :
  UnR X f (rU fun i=>.int (g i)):=by
 intro DJ s σ H x v Q I rx h
 obtain⟨i,rfl,q⟩:=h
 obtain⟨t,rfl⟩:=rx
 exact rule i t s _ _ ⟨.int (g i),H,I.tok _,⟨_,rfl⟩,q⟩
theorem zF3:UnR X (unaryOp .USub) (rU fun i=>.int (-i)):=unI fun _ _ _ _ _ q=>neg_int q
theorem zB1{DJ:List (Addr×Obj)}{σ:St}{H:Hp}{s:Shared}{Q:VK}{k k':Bool}(I:Inv X DJ σ H s)(q:Q (.bl k) H)(e:k=k'):EP X DJ σ Q (.bool k') s:=by
 subst e
 exact⟨.bl k,H,I,rfl,q⟩
theorem fU:OpR X (compareOp .Lt) (rI0 fun i j=>.bl (decide (i<j))):=opB0 fun _ _ _ _ _ _ _ q=>lt_int q
theorem yQ4:OpR X (compareOp .LtE) (rI0 fun i j=>.bl (decide (i<=j))):=opB0 fun _ _ _ _ _ _ _ q=>le_int q
theorem kR:OpR X (compareOp .Gt) (rI0 fun i j=>.bl (decide (j<i))):=opB0 fun _ _ _ _ _ _ _ q=>gt_int q
theorem xK4:OpR X (compareOp .GtE) (rI0 fun i j=>.bl (decide (j<=i))):=opB0 fun _ _ _ _ _ _ _ q=>ge_int q
theorem yI9:OpR X (compareOp .In) (fun x y H Q=>∃i j,x=.str i/\y=.str j/\Q (.bl (!(Builtin.Str.occurrences j i 0 j.length 1).isEmpty)) H):=by
 intro DJ s σ H x y v u Q I rx ry h
 obtain⟨i,j,rfl,rfl,q⟩:=h
 obtain⟨t,rfl⟩:=rx
 obtain⟨t',rfl⟩:=ry
 exact in_str (zB1 I q rfl)
theorem aO:OpR X (compareOp .Is) (fun x y H Q=>y=.non/\Q (.bl (decide (x=.non))) H):=by
 intro DJ s σ H x y v u Q I rx ry h
 obtain⟨rfl,q⟩:=h
 cases ry
 refine is_none_gen (zB1 I q ?_)
 cases x <;> first
  | (cases rx;rfl)
  | (obtain⟨t,rfl⟩:=rx;rfl)
theorem zN1:OpR X (compareOp .IsNot) (fun x y H Q=>y=.non/\Q (.bl (!decide (x=.non))) H):=by
 intro DJ s σ H x y v u Q I rx ry h
 obtain⟨rfl,q⟩:=h
 cases ry
 refine isnot_none_gen (zB1 I q ?_)
 cases x <;> first
  | (cases rx;rfl)
  | (obtain⟨t,rfl⟩:=rx;rfl)
def isObj:HO->Bool
 | .lst _=>true
 | .ins _ _ _=>true
 | _=>false
theorem uZ{DJ:List (Addr×Obj)}{s:Shared}{σ:St}{H:Hp}{a:Addr}{o:HO}(I:Inv X DJ σ H s)(h:H a=some o)(p:isObj o=true):∃ob,s.heap.get? a=some ob/\ob.cls ≠ .type "tuple":=by
 cases o with
 | lst xs =>
  obtain⟨_,its,n,_,e⟩:xs.length<=sizeLine/\∃(its:List Value) (n:Nat),Vals xs its/\s.heap.get? a=some { cls:=.type "list",data:=.seq its.toArray n }:=I.hok a _ h
  exact⟨_,e,(by show Value.type "list" ≠ .type "tuple";decide +kernel)⟩
 | ins C dx fs =>
  have x:=I.hok a _ h
  obtain⟨_,_,_,e,_⟩:=x
  exact⟨_,e,(by show Value.ref C ≠ .type "tuple";exact fun z=>by cases z)⟩
 | _=>exact absurd (show false=true from p) Ap
theorem nomark(b:Expr){op:CmpOp}(h:autoParam (op ≠ .In) DH)(h2:autoParam (op ≠ .NotIn) DH):behindInMarks op b=false:=by
 have e1:(op == CmpOp.In)=false:=by cases op <;> first | rfl | exact absurd rfl h
 have e2:(op == CmpOp.NotIn)=false:=by cases op <;> first | rfl | exact absurd rfl h2
 cases b <;> simp[behindInMarks,e1,e2]
theorem xY5{op:CmpOp}{r:R2}(ho:OpR X (compareOp op) r)(ha:PE X a ta)(hb:PE X b tb)(hm:behindInMarks op b=false):PE X (.Compare a [op] [b] pos) (tOp r ta tb):=by
 intro DJ s σ H Q I h
 exact wpAny_Compare1 (binT ha hb I h fun v u s2 x y H2 I2 rx ry q=>ho DJ s2 σ H2 x y v u Q I2 rx ry q) hm
def tTest(t:TE):TT:=fun σ H Q=>t σ H fun x H'=>∃k,x=.bl k/\Q k H'
theorem uR{op:CmpOp}{r:R2}(ho:OpR X (compareOp op) r)(ha:PE X a ta)(hb:PE X b tb)(hm:behindInMarks op b=false):PT X (.Compare a [op] [b] pos) (tTest (tOp r ta tb)):=by
 intro DJ s σ H Q I h
 refine wpAny_isTrue_Compare1 (thn (ha DJ s σ H _ I h) fun v s1 ⟨x,H1,I1,r1,q1⟩=>thn (hb DJ s1 σ H1 _ I1 q1) fun u s2 ⟨y,H2,I2,r2,q2⟩ =>
  thn (ho DJ s2 σ H2 x y v u _ I2 r1 r2 q2) fun c s3 ⟨z,H3,I3,r3,k,e,q3⟩ => ?_) hm
 subst e
 cases r3
 exact wpAny_truthy_bool ⟨H3,I3,q3⟩
def tChain(r r':R2)(ta tb tc:TE):TE:=fun σ H Q=>ta σ H fun x H1=>tb σ H1 fun y H2=>r x y H2 fun z H3=>∃k,z=.bl k /\
 (if k=true then tc σ H3 fun w' H4=>r' y w' H4 Q else Q (.bl false) H3)
theorem yE8{op op':CmpOp}{r r':R2}(ho:OpR X (compareOp op) r)(ho':OpR X (compareOp op') r')(ha:PE X a ta)(hb:PE X b tb)(hc:PE X c tc)
  (hm:autoParam (lastMarks [op,op'] [b,c]=false) yH8._auto_1):PT X (.Compare a [op,op'] [b,c] pos) (tTest (tChain r r' ta tb tc)):=by
 intro DJ s σ H Q I h
 refine isTrue_chain (thn (ha DJ s σ H _ I h) fun v s1 ⟨x,H1,I1,r1,q1⟩=>test_link (thn (hb DJ s1 σ H1 _ I1 q1) fun u s2 ⟨y,H2,I2,r2,q2⟩ =>
  thn (ho DJ s2 σ H2 x y v u _ I2 r1 r2 q2) fun d s3 ⟨z,H3,I3,r3,k,e,q3⟩ => ?_)) hm
 subst e
 cases r3
 refine wpAny_truthy_bool ?_
 cases k with
 | false =>
  obtain⟨k',e',q'⟩:=q3
  cases e'
  exact ite_ff ⟨H3,I3,q'⟩
 | true =>
  refine ite_tt (test_last (thn (hc DJ s3 σ H3 _ I3 q3) fun w' s4 ⟨z',H4,I4,r4,q4⟩=>thn (ho' DJ s4 σ H4 y z' u w' _ I4 r2 r4 q4) fun d' s5 ⟨z2,H5,I5,r5,k2,e2,q5⟩ => ?_))
  subst e2
  cases r5
  exact wpAny_truthy_bool ⟨H5,I5,q5⟩
theorem line63:(sizeLine:Nat)<2 ^ 63:=by rw[sizeLine_eq];decide
theorem yP:OpR X (binaryOp .Add) (fun x y H Q=>∃i j,x=.str i/\y=.str j/\i.length+j.length<=sizeLine/\Q (.str (i++j)) H):=by
 intro DJ s σ H x y v u Q I rx ry h
 obtain⟨i,j,rfl,rfl,hz,q⟩:=h
 obtain⟨t,rfl⟩:=rx
 obtain⟨t',rfl⟩:=ry
 exact add_str (fun t' tk=>⟨.str (i++j),H,I.tok _,⟨_,rfl⟩,q⟩) hz
theorem vals1{x:V}{us:List Value}(r:Vals [x] us):∃u,us=[u]/\RelV x u:=by
 cases r with
 | cons r1 r2=>cases r2;exact⟨_,rfl,r1⟩
theorem vals2{x y:V}{us:List Value}(r:Vals [x,y] us):∃u w',us=[u,w']/\RelV x u/\RelV y w':=by
 cases r with
 | cons r1 r2 =>
  cases r2 with
  | cons r3 r4=>cases r4;exact⟨_,_,rfl,r1,r3⟩
theorem zH4:CallR X (.builtin "abs") (fun xs H Q=>∃i,xs=[.int i]/\Q (.int (if i<0 then -i else i)) H):=by
 intro DJ s σ H xs us Q I r h
 obtain⟨i,rfl,q⟩:=h
 obtain⟨u,rfl,t,rfl⟩:=vals1 r
 exact call_abs_int fun u tk=>⟨.int (if i<0 then -i else i),H,I.tok _,⟨_,rfl⟩,q⟩
theorem zN4(hc:X.calm=true):CallR X (.builtin "min") (fun xs H Q=>∃i j,xs=[.int i,.int j]/\Q (.int (if j<i then j else i)) H):=by
 intro DJ s σ H xs us Q I r h
 obtain⟨i,j,rfl,q⟩:=h
 obtain⟨u,w',rfl,⟨t,rfl⟩,⟨t',rfl⟩⟩:=vals2 r
 refine min_two_ints (I.ok.hd hc) fun h' tk k=>⟨_,H,I.kept k,?_,q⟩
 by_cases hj:j<i
 ·rw[Ak hj,Ak hj];exact⟨_,rfl⟩
 ·rw[Ax hj,Ax hj];exact⟨_,rfl⟩
theorem yP4:CallR X (.type "int") (fun xs H Q=>(∃i,xs=[.int i]/\Q (.int i) H)\/∃k,xs=[.bl k]/\Q (.int (if k then 1 else 0)) H):=by
 intro DJ s σ H xs us Q I r h
 rcases h with ⟨i,rfl,q⟩ | ⟨k,rfl,q⟩
 ·obtain⟨u,rfl,t,rfl⟩:=vals1 r
  exact call_int_int ⟨.int i,H,I,⟨_,rfl⟩,q⟩
 ·obtain⟨u,rfl,r1⟩:=vals1 r
  cases r1
  exact call_int_bool ⟨.int (if k then 1 else 0),H,I.tok _,⟨_,rfl⟩,q⟩
theorem qQ:CallR X (.type "str") (fun xs H Q=>∃i,xs=[.int i]/\i.natAbs.log2<1920/\Q (.str (toString i)) H):=by
 intro DJ s σ H xs us Q I r h
 obtain⟨i,rfl,hz,q⟩:=h
 obtain⟨u,rfl,t,rfl⟩:=vals1 r
 exact PySem.P.str_of_int hz ⟨.str _,H,I.tok _,⟨_,rfl⟩,q⟩
end
structure ObjM(h:Heap)(x dx C:Addr)(mA:Str->Option Value):Prop where
 obj:h.get? x=some (PySem.W.instObj C dx)
 ns:h.Ns1 dx mA
 ne:dx≠x
theorem yK2{h:Heap}{dx:Addr}{mA:Str->Option Value}(n:h.Ns1 dx mA):∃od,h.get? dx=some od/\∀name,PySem.W.lookIn name od=some (mA name):=by
 obtain⟨o,es,ep,ho,hd,hk,_,hm⟩:=n
 refine⟨o,ho,fun name => ?_⟩
 have e:=hm name
 unfold nsFind findBy at e
 rw[<-Array.find?_toList] at e
 unfold PySem.W.lookIn
 rw[hd]
 dsimp only
 split
 ·rename_i y q
  rw[q] at e
  exact AZ some e
 ·rename_i q
  rw[q] at e
  have a:es.toList.any (·.refKey)=false:=by
   rw[List.any_eq_false]
   intro y hy
   obtain⟨z,t,hkey⟩:=hk y (Array.mem_toList_iff.mp hy)
   simp[DictEntry.refKey,hkey]
  have a':¬es.toList.any (·.refKey)=true:=by rw[a];exact Ap
  rw[Ax a']
  exact AZ some e
theorem ObjM.look{h:Heap}{x dx C:Addr}{mA:Str->Option Value}(I:ObjM h x dx C mA):∃od,PySem.W.InstAt h x (PySem.W.instObj C dx) C (some od)/\∀name,PySem.W.lookIn name od=some (mA name) :=
 let ⟨od,ho,hl⟩:=yK2 I.ns
 ⟨od,⟨I.obj,rfl,rfl,ho⟩,hl⟩
section
variable {prog:Program}{w:World}{A:Around}{E:Value->Shared->Prop}{s:Shared}{K:KFr}{x dx C f:Addr}{mA:Str->Option Value}{name:Str}{v:Value}
end
section
variable {P:Program}{w:World}{H H':Hp}{h h':Heap}{a C dx:Addr}{fs fs':List (Str×V)}
theorem xU6(hok:HOk P w H h)(e:H a=some (.ins C dx fs)):∃mA,ObjM h a dx C mA/\(∀f,RelO (fs.lookup f) (mA f))/\PySem.Within mA (fs.map (·.1))/\fs.length<=1000/\H dx=some (.own a):=by
 obtain⟨d,z,ne,ob,mA,n,r,q⟩:=(show ObjOk P w H h a (.ins C dx fs) from hok a _ e)
 exact⟨mA,⟨ob,n,ne⟩,r,q,z,d⟩
end
structure Cls(K:KFr)(C:Addr):Prop where
 pg:PySem.W.plainGet K C Str.empty=true
 hd:PySem.W.hasDictIn K C=true
 po:PySem.W.plainOver K C=true
 sa:PySem.W.findIn K (.ref C) "__setattr__" = some (some (.builtin "object.__setattr__"))
theorem Cls.get{K:KFr}{C:Addr}(c:Cls K C)(f:Str):PySem.W.plainGet K C f=true:=c.pg
structure Con(K:KFr)(C:Addr)(f:Str)(v:V)(u:Value):Prop where
 at_:PySem.W.findIn K (.ref C) f=some (some u)
 rel:RelV v u
 get:PySem.W.specialIn K u "__get__" = some none
 cp:PySem.W.copiedNames.contains f=false
structure Meth(K:KFr)(C:Addr)(m:Str)(f:Addr):Prop where
 at_:PySem.W.findIn K (.ref C) m=some (some (.ref f))
 fn:PySem.W.isFn K (.ref f)=true
 kp:PySem.W.keepIn K (.ref f)=true
section
variable {X:Cx}{DJ:List (Addr×Obj)}{σ:St}{H:Hp}{s:Shared}{a C dx:Addr}{fs:List (Str×V)}{f:Str}{v:V}{A:Around}{E:Value->Shared->Prop}
end
section
variable {X:Cx}{o e value:Expr}{f:Str}{pos pos' tpos:Pos}{ta tv:TE}
def rAdd:V->V->Hp->VK->Prop:=fun x y H Q=>∃i j,x=.int i/\y=.int j/\Q (.int (i+j)) H
def rSub:V->V->Hp->VK->Prop:=fun x y H Q=>∃i j,x=.int i/\y=.int j/\Q (.int (i-j)) H
end
section
variable {X:Cx}{DJ:List (Addr×Obj)}{σ:St}{H:Hp}{s:Shared}{A:Around}{E:Value->Shared->Prop}{Q:Value->Shared->Prop}{c:Value}{b:Bool}
inductive TyOf(K:KFr)(H:Hp):V->Value->Prop where
 | non:TyOf K H .non (.type "NoneType")
 | bl (x:Bool):TyOf K H (.bl x) (.type "bool")
 | int (i:Int):TyOf K H (.int i) (.type "int")
 | str (x:Str):TyOf K H (.str x) (.type "str")
 | flt (x:UInt64):TyOf K H (.flt x) (.type "float")
 | lst {a:Addr}{xs:List V}(e:H a=some (.lst xs)):TyOf K H (.ref a) (.type "list")
 | frz {a:Addr}{o:Obj}{xs:List V}(e:H a=some (.frz o (.lst xs))):TyOf K H (.ref a) (.type "list")
 | tup {a:Addr}{xs:List V}(e:H a=some (.tup xs)):TyOf K H (.ref a) (.type "tuple")
 | dK {a:Addr}{kvs:List (Key×V)}(e:H a=some (.dK kvs)):TyOf K H (.ref a) (.type "dict")
 | dT {a:Addr}{kvs:List (List Key×V)}(e:H a=some (.dT kvs)):TyOf K H (.ref a) (.type "dict")
 | ins {a C dx:Addr}{fs:List (Str×V)}(e:H a=some (.ins C dx fs)) (cl:Cls K C) (ha:PySem.W.findIn K (.ref C) "__class__" = some (some (.builtin "object.__class__")))
   (hn:PySem.W.specialIn K (.builtin "object.__class__") "__get__" = some (some (.builtin "getset_descriptor.__get__"))) (htk:PySem.W.takesIn K (.builtin "object.__class__")=some true)
   (hm:PySem.W.mroIn K C (.type "object")=some true):TyOf K H (.ref a) (.ref C)
theorem yH4{x:V}{u t:Value}(I:Inv X DJ σ H s)(rx:RelV x u)(ty:TyOf X.K H x t)(e:PySem.W.kitOne X.K t c=some b)(h:∀tk,Q (.bool b) { s with toks:=tk }) :
  wpAny (model X.prog X.w) A (call (.builtin "isinstance") [u,c]) Q E s:=by
 cases ty with
 | non=>cases (show u=Value.none from rx);exact Bm PySem.W.kitx_none I.kIn True.intro e (fun z=>nomatch z) h
 | bl y=>cases (show u=Value.bool y from rx);exact Bm PySem.W.kitx_bool I.kIn True.intro e (fun z=>nomatch z) h
 | int i=>obtain⟨t,q⟩:=(show ∃t,u=Value.int i t from rx);cases q;exact Bm PySem.W.kitx_int I.kIn True.intro e (fun z=>nomatch z) h
 | str y=>obtain⟨t,q⟩:=(show ∃t,u=Value.str y t from rx);cases q;exact Bm PySem.W.kitx_str I.kIn True.intro e (fun z=>nomatch z) h
 | flt y=>obtain⟨t,q⟩:=(show ∃t,u=Value.float y t from rx);cases q;exact Bm PySem.W.kitx_float I.kIn True.intro e (fun z=>nomatch z) h
 | @lst a xs ea =>
  cases (show u=Value.ref a from rx)
  obtain⟨_,_,n,_,h1⟩:=(show ObjOk X.prog X.w H s.heap a (.lst xs) from I.hok a _ ea)
  exact Bm PySem.W.kitx_list I.kIn ⟨_,h1,rfl⟩ e (fun z=>nomatch z) h
 | @frz a ob xs ea =>
  cases (show u=Value.ref a from rx)
  obtain⟨_,_,_,n,_,h1⟩:=(show ObjOk X.prog X.w H s.heap a (.frz ob (.lst xs)) from I.hok a _ ea)
  exact Bm PySem.W.kitx_list I.kIn ⟨_,h1,rfl⟩ e (fun z=>nomatch z) h
 | @tup a xs ea =>
  cases (show u=Value.ref a from rx)
  obtain⟨_,_,_,p⟩:=(show ObjOk X.prog X.w H s.heap a (.tup xs) from I.hok a _ ea)
  obtain⟨o,h1,h2,_⟩:=p
  exact Bm PySem.W.kitx_tuple I.kIn ⟨o,h1,h2⟩ e (fun z=>nomatch z) h
 | @dK a kvs ea =>
  cases (show u=Value.ref a from rx)
  obtain⟨_,_,vs,_,p⟩:=(show ObjOk X.prog X.w H s.heap a (.dK kvs) from I.hok a _ ea)
  obtain⟨o,es,ep,h1,h2,_⟩:=p
  exact Bm PySem.W.kitx_dict I.kIn ⟨o,h1,h2.1⟩ e (fun z=>nomatch z) h
 | @dT a kvs ea =>
  cases (show u=Value.ref a from rx)
  obtain⟨_,_,xs,_,o,es,ep,h1,h2,_⟩:=(show ObjOk X.prog X.w H s.heap a (.dT kvs) from I.hok a _ ea)
  exact Bm PySem.W.kitx_dict I.kIn ⟨o,h1,h2.1⟩ e (fun z=>nomatch z) h
 | @ins a C dx fs ea cl ha hn htk hm =>
  cases (show u=Value.ref a from rx)
  obtain⟨mA,O,_⟩:=xU6 I.hok ea
  obtain⟨od,J,_⟩:=O.look
  exact Bm (PySem.W.kitx_own (cl.get _) cl.hd ha hn htk hm) I.kIn J e (fun z=>nomatch z) h
end
structure Room(k:Nat)(A:Around):Prop where
 hd:A.handled=none
 dp:A.depth+3*k+5<recursionLimit
 un:A.units+16*k+200<cLine
theorem Room.mono{j k:Nat}{A:Around}(r:Room k A)(h:j<=k):Room j A:=⟨r.hd,by have:=r.dp;rfl',by have:=r.un;rfl'⟩
theorem Room.deeper{k:Nat}{A:Around}(r:Room (k+1) A)(env:Env):Room k (A.deeper env) :=
 ⟨r.hd,by have:=r.dp;show A.depth+1+3*k+5<_;rfl',by have:=r.un;show A.units+3+16*k+200<_;rfl'⟩
theorem yR9{A:Around}{C:Addr}{us:List Value}{kw:List (Str×Value)}:(A.under (.builtin "type.__call__" ⟨.ref C::us,kw⟩)).depth=A.depth+1:=by
 first | rfl | simp[Around.under,Code.weight,Code.isCreation,Code.isGuard,Code.isCaller,Code.frames,Code.isFrame,guardIds]
theorem yR6{A:Around}{C:Addr}{us:List Value}{kw:List (Str×Value)}:(A.under (.builtin "type.__call__" ⟨.ref C::us,kw⟩)).units=A.units+1:=by
 first | rfl | simp[Around.under,Code.cUnits,Code.frames,Code.isFrame]
theorem Room.make{k:Nat}{A:Around}(r:Room (k+1) A)(C:Addr)(us:List Value)(kw:List (Str×Value)):Room k (A.under (.builtin "type.__call__" ⟨.ref C::us,kw⟩)) :=
 ⟨r.hd,by have:=r.dp;rw[yR9];rfl',by have:=r.un;rw[yR6];rfl'⟩
theorem Room.depth{k:Nat}{A:Around}(r:Room k A):A.depth<recursionLimit:=by have:=r.dp;rfl'
theorem Room.units{k:Nat}{A:Around}(r:Room k A):A.units+64<cLine:=by have:=r.un;rfl'
def tNil:TA:=fun _ H Q=>Q [] H
def zF(ta:TE)(tr:TA):TA:=fun σ H Q=>ta σ H fun x H1=>tr σ H1 fun xs H2=>Q (x::xs) H2
section
variable {X:Cx}{e:Expr}{es:List Expr}{te:TE}{t:TA}{pos:Pos}
theorem zA:PA X [] tNil:=fun _ _ _ _ H Q I h=>Calls.spliced_nil ⟨[],H,I,.nil,h⟩
theorem zP(ha:PE X e te)(hr:PA X es t)(hs:autoParam (starEach (e::es) X.env=(false,eval e X.env)::starEach es X.env) DI):PA X (e::es) (zF te t):=by
 intro pos DJ s σ H Q I h
 rw[hs]
 show wpAny _ _ (spliced ((false,eval e X.env)::backTo pos (starEach es X.env))) _ _ s
 refine Calls.spliced_cons (thn (ha DJ s σ H _ I h) fun u s1 ⟨x,H1,I1,r1,q1⟩ => ?_)
 exact thn (hr pos DJ s1 σ H1 _ I1 q1) fun us s2 ⟨xs,H2,I2,r2,q2⟩=>⟨x::xs,H2,I2,.cons r1 r2,q2⟩
def tTup(t:TA):TE:=fun σ H Q=>t σ H fun xs H1=>xs.length<=sizeLine/\∀p,H1 p=none->Q (.ref p) (upd H1 p (.tup xs))
def tLst(t:TA):TE:=fun σ H Q=>t σ H fun xs H1=>xs.length<=sizeLine/\∀p,H1 p=none->Q (.ref p) (upd H1 p (.lst xs))
theorem gX{x1}(h:PA X es t):PE X (.Tuple es x1 pos) (tTup t):=by
 intro DJ s σ H Q I hq
 refine wpAny_Tuple_spliced (thn (h pos DJ s σ H _ I hq) fun us s1 ⟨xs,H1,I1,r,z,q⟩=>⟨by rw[<-r.length];exact z,?_⟩)
 have hf:H1 s1.heap.objs.size=none:=I1.hok.fresh (Al _)
 refine⟨.ref s1.heap.objs.size,upd H1 s1.heap.objs.size (.tup xs),I1.laid (t':=s1.toks) (fun b u e=>An _ e) (Al _) ?_,rfl,q _ hf⟩
 exact⟨z,us,r,TupAt.new _ _⟩
theorem qY(h:PA X es t):PE X (.List es pos) (tLst t):=by
 intro DJ s σ H Q I hq
 refine wpAny_List_spliced (thn (h pos DJ s σ H _ I hq) fun us s1 ⟨xs,H1,I1,r,z,q⟩=>⟨by rw[<-r.length];exact z,?_⟩)
 have hf:H1 s1.heap.objs.size=none:=I1.hok.fresh (Al _)
 refine⟨.ref s1.heap.objs.size,upd H1 s1.heap.objs.size (.lst xs),I1.laid (t':=s1.toks) (fun b u e=>An _ e) (Al _) ?_,rfl,q _ hf⟩
 exact⟨z,us,0,r,AH _ rfl⟩
end
abbrev Sp:=List V->Hp->VK->XK->Prop
abbrev CXT:=List Env->Hp->Shared->XK->Value->Shared->Prop
structure Env0(P:Program)(w:World)(K:KFr)(mg:Str->Option Value)(base:Heap)(A:Around)(outer:List Env)(s:Shared)(H:Hp):Prop where
 frames:A.frames=some outer
 mod:Mod K mg base
 bs:∀b o,base.get? b=some o->s.heap.get? b=some o/\H b=none
 bsz:base.objs.size<=s.heap.objs.size
 funs:s.heap.FunFrames base outer
 frf:∀b∈frs outer,H b=none
 hok:HOk P w H s.heap
 bare:AllBare s.gens
def CE(outer:List Env)(P:Program)(w:World)(H:Hp)(s:Shared)(Q:VK)(u:Value)(s':Shared):Prop :=
 ∃v H',s'.os=s.os/\AllBare s'.gens/\Un (frs outer) [] H H' s.heap s'.heap/\HOk P w H' s'.heap/\RelV v u/\Q v H'
def CR(CX:CXT)(outer:List Env)(P:Program)(w:World)(H:Hp)(s:Shared)(Q:VK)(E:XK)(r:Result)(s':Shared):Prop :=
 match r with
 | .ok (.ret u)=>CE outer P w H s Q u s'
 | .ok _=>False
 | .error e=>CX outer H s E e s'
structure FnOk(P:Program)(w:World)(K:KFr)(mg:Str->Option Value)(base:Heap)(CX:CXT)(k:Nat)(f:Addr)(fd:FuncData)(ps:List Str)(sp:Sp):Prop where
 len:∀vs H Q E,sp vs H Q E->vs.length=ps.length
 run:∀(A:Around) (outer:List Env) (s:Shared) (H:Hp) (args:Args) (us:List Value) (vs:List V) (Q:VK) (E:XK),Room k A->Env0 P w K mg base A outer s H->BindsTo s fd args (ps.zip us)->Vals vs us->sp vs H Q E ->
  codeAny (model P w) A (.call (.ref f) args) (CR CX outer P w H s Q E) s
theorem FnOk.imp{P:Program}{w:World}{K:KFr}{mg:Str->Option Value}{base:Heap}{CX:CXT}{k:Nat}{f:Addr}{fd:FuncData}{ps:List Str}{sp sp':Sp}(F:FnOk P w K mg base CX k f fd ps sp)
  (h:∀vs H Q E,sp' vs H Q E->sp vs H Q E):FnOk P w K mg base CX k f fd ps sp' :=
 ⟨fun vs H Q E q=>F.len vs H Q E (h _ _ _ _ q),fun A outer s H args us vs Q E hr he hb hv hs=>F.run A outer s H args us vs Q E hr he hb hv (h _ _ _ _ hs)⟩
theorem Env0.make{P:Program}{w:World}{K:KFr}{mg:Str->Option Value}{base:Heap}{A:Around}{outer:List Env}{s:Shared}{H:Hp}(e:Env0 P w K mg base A outer s H)(C:Addr)(us:List Value)(kw:List (Str×Value)) :
  Env0 P w K mg base (A.under (.builtin "type.__call__" ⟨.ref C::us,kw⟩)) outer s H:=⟨by first | exact e.frames | (simpa [Around.under,Code.envs,Code.isFrame,pushEnvs] using e.frames),e.mod,e.bs,e.bsz,e.funs,e.frf,e.hok,e.bare⟩
section
variable {X:Cx}{DJ:List (Addr×Obj)}{σ:St}{H:Hp}{s s':Shared}
theorem Inv.env0(I:Inv X DJ σ H s):Env0 X.prog X.w X.K X.mg X.base X.A X.stack s H :=
 ⟨I.ok.frames,I.ok.mod,I.bs,AJ I.ok.bsz I.sz,I.stack,I.stkFree,I.hok,I.bare⟩
theorem Inv.after{Q:VK}{u:Value}(I:Inv X DJ σ H s)(h:CE X.stack X.prog X.w H s Q u s'):EP X DJ σ Q u s':=by
 obtain⟨v,H',os,bare,un,hok,r,q⟩:=h
 obtain⟨hh,g,d,t,os'⟩:=s'
 obtain rfl:os'=s.os:=os
 exact⟨v,H',I.call (h':=hh) (g':=g) (d':=d) (t':=t) (ch:=[]) un hok bare (fun b z=>absurd z (by simp)),r,q⟩
end
def tCall(sp:Sp)(dvs:List V)(E:XK)(t:TA):TE:=fun σ H Q=>t σ H fun vs H1=>sp (vs++dvs) H1 Q E
def Binds(K:KFr)(fd:FuncData)(ps:List Str)(ds:List Value):Prop :=
 ∀(s:Shared) (us:List Value),K.In s.heap->(us++ds).length=ps.length->BindsTo s fd ⟨us,[]⟩ (ps.zip (us++ds))
theorem Binds.all{K:KFr}{fd:FuncData}{ps:List Str}(h:∀us:List Value,us.length=ps.length->bindArgs fd ⟨us,[]⟩=pure (ps.zip us)):Binds K fd ps []:=fun s us _ hl=>by
 rw[Bu] at hl ⊢
 exact .of_eq (h us hl)
def Passes(CX:CXT)(X:Cx)(E:XK):Prop:=∀(DJ:List (Addr×Obj)) (σ:St) (H:Hp) (s:Shared) (e:Value) (s':Shared),Inv X DJ σ H s->CX X.stack H s E e s'->X.xe e s'
section
variable {X:Cx}{CX:CXT}{k:Nat}{f C:Addr}{fd:FuncData}{ps:List Str}{sp:Sp}{dvs:List V}{ds:List Value}{E:XK}{x m:Str}{p pos apos:Pos}{e o:Expr}{es:List Expr}{ta:TE}{t:TA}
theorem xN5{DJ:List (Addr×Obj)}{σ:St}{H:Hp}{s:Shared}{Q:VK}{us:List Value}{vs:List V}(F:FnOk X.prog X.w X.K X.mg X.base CX k f fd ps sp)(hr:Room k X.A)(hb:Binds X.K fd ps ds)(hd:Vals dvs ds)(hx:Passes CX X E)
  (I:Inv X DJ σ H s) (r:Vals vs us) (h:sp (vs++dvs) H Q E):wpAny (model X.prog X.w) X.A (call (.ref f) us) (EP X DJ σ Q) X.xe s:=by
 have r2:Vals (vs++dvs) (us++ds):=r.append hd
 have hl:(us++ds).length=ps.length:=by rw[<-r2.length];exact F.len _ _ _ _ h
 refine wpAny_call (codeAny_mono (F.run X.A X.stack s H ⟨us,[]⟩ (us++ds) (vs++dvs) Q E hr I.env0 (hb s us I.kIn hl) r2 h) fun r s' hq => ?_)
 cases r with
 | error e=>exact hx DJ σ H s e s' I hq
 | ok fl =>
  cases fl with
  | ret u=>exact I.after hq
  | next=>exact False.elim hq
  | brk=>exact False.elim hq
  | cont=>exact False.elim hq
theorem uS(F:FnOk X.prog X.w X.K X.mg X.base CX k f fd ps sp)(hr:Room k X.A)(hg:Gl X x)(hm:X.mg x=some (.ref f))(hk:PySem.W.keepIn X.K (.ref f)=true)(hb:Binds X.K fd ps ds)(hd:Vals dvs ds)(hx:Passes CX X E)
  (ha:PA X (e::es) t) (hdb:autoParam ((x == ("__debug__":Str))=false) DH) (he:autoParam (starEach (e::es) X.env=(false,eval e X.env)::starEach es X.env) DI) (hpl:autoParam ((backTo pos (starEach es X.env)).any (·.1)=false) DI) :
  PE X (.Call (.Name x p) (e::es) [] pos) (tCall sp dvs E t):=by
 intro DJ s σ H Q I h
 refine wpAny_Call_Name_kw (uU I hg hm ?_ hdb)
 refine CT (h₀:=X.base) I.ok.mod.kin hk (thn (ha pos DJ s σ H _ I h) fun us s1 ⟨vs,H1,I1,r,q⟩=>⟨I1.kIn,?_⟩) he hpl
 exact xN5 F hr hb hd hx I1 r q
structure Mk(K:KFr)(C f:Addr):Prop where
 makes:PySem.W.makesIn K C=true
 init:PySem.W.findIn K (.ref C) "__init__" = some (some (.ref f))
 fn:PySem.W.isFn K (.ref f)=true
 kp:PySem.W.keepIn K (.ref C)=true
end
section
variable {X:Cx}{CX:CXT}{k:Nat}{f C:Addr}{fd:FuncData}{ps ks:List Str}{sp:Sp}{E:XK}{x m:Str}{p pos apos kpos:Pos}{e o:Expr}{es:List Expr}{kws:List Keyword}{te ta:TE}{t tk:TA}{nm:Option Str}
structure KBinds(K:KFr)(fd:FuncData)(ps ks:List Str)(g:List Value->List Value->List Value)(gV:List V->List V->List V):Prop where
 to:∀(s:Shared) (us ws:List Value),K.In s.heap->(g us ws).length=ps.length->BindsTo s fd ⟨us,ks.zip ws⟩ (ps.zip (g us ws))
 rel:∀{vs:List V}{us:List Value}{zs:List V}{ws:List Value},Vals vs us->Vals zs ws->Vals (gV vs zs) (g us ws)
variable {g:List Value->List Value->List Value}{gV:List V->List V->List V}
end
structure yX(N P:List Str)(sc:Scope):Prop where
 kind:sc.kind=.function
 co:sc.isCoroutine=false
 gen:sc.isGenerator=false
 nd:N.Nodup
 pre:N.take P.length=P
 par:∀x∈P,sc.names.lookup x=some .local \/ sc.names.lookup x=some .cell
 nofree:∀y∈sc.names,y.2 ≠ .free
theorem zM1{kindOf:Str->Option NameKind}{x:Str}:∀{binds:List (Str×Value)}{m:Str->Option Value},(∀v,(x,v)∉binds)->bindL kindOf binds m x=m x
 | [],_,_=>rfl
 | (n,v)::r,m,h=>by
  unfold bindL
  rw[zM1 fun w hw=>h w (Ai _ hw)]
  split
  ·have:x≠n:=by rintro rfl;exact h v Ae
   simp[this]
  ·rfl
theorem zN2{kindOf:Str->Option NameKind}{x:Str}:∀{binds:List (Str×Value)}{m:Str->Option Value},(∀v,(x,v)∉binds)->bindC kindOf binds m x=m x
 | [],_,_=>rfl
 | (n,v)::r,m,h=>by
  unfold bindC
  rw[zN2 fun w hw=>h w (Ai _ hw)]
  split
  ·rfl
  ·have:x≠n:=by rintro rfl;exact h v Ae
   simp[this]
theorem zK1{kindOf:Str->Option NameKind}{x:Str}{v:Value}:∀{P:List Str}{vs:List Value}{i:Nat}{m:Str->Option Value},P.Nodup->P[i]?=some x->vs[i]?=some v->kindOf x=some .local ->
  bindL kindOf (P.zip vs) m x=some v
 | [],_,_,_,_,h,_,_=>by simp at h
 | _::_,[],_,_,_,_,h,_=>by simp at h
 | p::P,w::vs,0,m,nd,h1,h2,hk=>by
  simp at h1 h2;subst h1;subst h2
  show bindL kindOf ((p,w)::P.zip vs) m p=_
  unfold bindL
  rw[zM1 fun v hv=>(Cv.mp nd).1 (Dw hv).1,Ak hk]
  simp
 | p::P,w::vs,i+1,m,nd,h1,h2,hk=>by
  show bindL kindOf ((p,w)::P.zip vs) m x=_
  unfold bindL
  exact zK1 (i:=i) (Cv.mp nd).2 (by simpa using h1) (by simpa using h2) hk
theorem zN5{kindOf:Str->Option NameKind}{x:Str}{v:Value}:∀{P:List Str}{vs:List Value}{i:Nat}{m:Str->Option Value},P.Nodup->P[i]?=some x->vs[i]?=some v->kindOf x≠some .local ->
  bindC kindOf (P.zip vs) m x=some v
 | [],_,_,_,_,h,_,_=>by simp at h
 | _::_,[],_,_,_,_,h,_=>by simp at h
 | p::P,w::vs,0,m,nd,h1,h2,hk=>by
  simp at h1 h2;subst h1;subst h2
  show bindC kindOf ((p,w)::P.zip vs) m p=_
  unfold bindC
  rw[zN2 fun v hv=>(Cv.mp nd).1 (Dw hv).1,Ax hk]
  simp
 | p::P,w::vs,i+1,m,nd,h1,h2,hk=>by
  show bindC kindOf ((p,w)::P.zip vs) m x=_
  unfold bindC
  exact zN5 (i:=i) (Cv.mp nd).2 (by simpa using h1) (by simpa using h2) hk
def start(N:List Str)(vs:List V):St:=vs.map some++List.replicate (N.length-vs.length) none
def cxOf(CX:CXT)(P:Program)(w:World)(K:KFr)(mg:Str->Option Value)(base:Heap)(N:List Str)(qual:Str)(scope:Scope)(f:Addr)(cd:Value)(A:Around)(outer:List Env)(s:Shared)(H:Hp)(E:XK):Cx where
 prog:=P
 w:=w
 K:=K
 mg:=mg
 base:=base
 A:=A.deeper (envOfC qual scope s.heap.objs.size f cd)
 N:=N
 s₀:=s
 H₀:=H
 env:=envOfC qual scope s.heap.objs.size f cd
 outer:=outer
 stack:=envOfC qual scope s.heap.objs.size f cd::outer
 ex:=[]
 calm:=true
 fn:=fun _=>true
 pn:=[]
 xe:=fun e s'=>wpAny (model P w) (A.deeper (envOfC qual scope s.heap.objs.size f cd)) (leaving (envOfC qual scope s.heap.objs.size f cd) e) (fun _ s''=>CX outer H s E e s'') (fun e' s''=>CX outer H s E e' s'') s'
theorem zG2{sc:Scope}{n:Nat}{x:Str}(h:sc.names.lookup x=some .cell):∃c,(cellsFrom n sc.names []).lookup x=some c:=by
 have q:=CZ sc.names n [] (.inl h)
 exact Option.isSome_iff_exists.mp q
theorem zM2{CX:CXT}{P:Program}{w:World}{K:KFr}{mg:Str->Option Value}{base:Heap}{N ps:List Str}{qual:Str}{scope:Scope}{f:Addr}{cd:Value}{A:Around}{outer:List Env}{s s1:Shared}{H:Hp}{E:XK}{us:List Value}{vs:List V}
  (S:yX N ps scope) (hd:A.handled=none) (e0:Env0 P w K mg base A outer s H) (hl:vs.length=ps.length) (r:Vals vs us)
  (x:InCallC s s.heap.objs.size (bindL (envOfC qual scope s.heap.objs.size f cd).kindOf (ps.zip us) fun _=>none) (cellsFrom (s.heap.objs.size+1) scope.names []) (bindC (envOfC qual scope s.heap.objs.size f cd).kindOf (ps.zip us) fun _=>none) s1) :
  Inv (cxOf CX P w K mg base N qual scope f cd A outer s H E) [] (start N vs) H s1:=by
 have hpl:ps.length<=N.length:=by have:=AZ List.length S.pre;rw[Bn] at this;rfl'
 obtain⟨h1,tk,rfl,hk⟩:=x.done
 have noA:∀b:Addr,b∉(cxOf CX P w K mg base N qual scope f cd A outer s H E).ex:=fun b z=>absurd (show b∈([]:List Addr) from z) (by simp)
 refine⟨⟨e0.mod,S.kind,rfl,rfl,Al _,fun y z c h1 h2 => ?_,fun y hy => ?_,fun y c _ h => ?_,fun _=>hd,Around.frames_deeper e0.frames,.inr ⟨rfl,rfl⟩,fun b z=>absurd z (noA b),e0.bs,e0.bsz,fun b _ _=>noA b,fun b z=>absurd z (noA b),e0.funs,e0.frf⟩,
  rfl,e0.bare,Un.kept hk,⟨_,x.toInCall.ns,fun i y v h1 h2 h3 => ?_⟩,fun y c h=>⟨_,x.cell y c h⟩,e0.hok.fresh (Al _),fun y c h => ?_,fun p hp=>absurd (show p∈([]:List (Addr×Obj)) from hp) (by simp),e0.hok.kept hk,?_⟩
 ·exact name_of_addr x.apart (Bc h1) (Bc h2)
 ·have hy:scope.names.lookup y=some .cell\/scope.names.lookup y=some .free:=hy
  rcases hy with hy | hy
  ·exact zG2 hy
  ·exact absurd rfl (S.nofree _ (Bc hy))
 ·exact BU (x.above y c (Bc h))
 ·have hi:i<vs.length:=by
   unfold start at h2
   by_cases hi:i<vs.length
   ·exact hi
   ·rw[BM (by simpa using hi)] at h2
    rw[List.getElem?_replicate] at h2
    split at h2 <;> cases h2
  have ha:vs[i]?=some v:=by
   unfold start at h2
   rw[BF (by simpa using hi),AA] at h2
   cases e:vs[i]? with
   | none=>rw[e] at h2;cases h2
   | some a=>rw[e] at h2;cases h2;rfl
  obtain⟨u,hu,rv⟩:=r.get ha
  have hp:ps[i]?=some y:=by
   rw[<-S.pre,CP (by rfl')];exact h1
  have ndP:ps.Nodup:=by rw[<-S.pre];exact S.nd.sublist (List.take_sublist _ _)
  refine⟨u,rv,?_⟩
  rcases S.par y (Bb hp) with k | k
  ·exact .inl ⟨k,zK1 ndP hp hu k⟩
  ·obtain⟨c,e⟩:=zG2 (n:=s.heap.objs.size+1) k
   refine .inr ⟨.inl k,c,e,?_⟩
   have q:=x.cell y c e
   rw[zN5 ndP hp hu (by show scope.names.lookup y≠_;rw[k];decide)] at q
   exact q
 ·exact e0.hok.fresh (BU (x.above y c (Bc h)))
 ·unfold start
  show _=N.length
  rw[Af,Ac,Df]
  rfl'
theorem yT4{CX:CXT}{P:Program}{w:World}{K:KFr}{mg:Str->Option Value}{base:Heap}{k:Nat}{f:Addr}{name qual:Str}{params:Arguments}{body:List Stmt}{scope:Scope}{dV kV doc pm cdv ct oc:Value}{an od:Option Addr}
  {osl:Array (Option Value)}{N ps:List Str}{sp:Sp}(lk:K.lookup f=some ⟨oc,od,.func (PySem.W.fnOf name qual params body scope dV kV doc pm an cdv ct),osl⟩) (hcd:PySem.W.codeIn K cdv qual=true) (S:yX N ps scope)
  (len:∀vs H Q E,sp vs H Q E->vs.length=ps.length)
  (hbody:∀(A:Around) (outer:List Env) (s:Shared) (H:Hp) (vs:List V) (Q:VK) (E:XK),Room k (A.deeper (envOfC qual scope s.heap.objs.size f cdv))->sp vs H Q E ->
   ∃t,PSs (cxOf CX P w K mg base N qual scope f cdv A outer s H E) body t/\t { nx:=fun _ H'=>Q .non H',rt:=Q } (start N vs) H) :
  FnOk P w K mg base CX (k+1) f (PySem.W.fnOf name qual params body scope dV kV doc pm an cdv ct) ps sp:=by
 refine⟨len,fun A outer s H args us vs Q E hr e0 hb r hsp => ?_⟩
 have hl:=len _ _ _ _ hsp
 have KX:K.In s.heap:=e0.mod.kin.keeps fun b o e=>(e0.bs b o e).1
 have lim:s.heap.NoLimit:=e0.mod.nolimit.keeps fun b o e=>(e0.bs b o e).1
 have hkind:∀y∈ps.zip us,scope.names.lookup y.1=some .local \/ (scope.names.lookup y.1=some .cell/\((cellsFrom (s.heap.objs.size+1) scope.names []).lookup y.1).isSome=true):=fun ⟨n,v⟩ hy=>by
  rcases S.par n (Dw hy).1 with q | q
  ·exact .inl q
  ·exact .inr ⟨q,CZ _ _ _ (.inl q)⟩
 refine codeAny_call_function hr.depth (KX _ _ lk) rfl S.co S.gen rfl (PySem.W.codeRec_of KX hcd) (hb _ _ _ _ ?_)
 refine wpAny_newFunctionEnv_cells S.kind hkind fun env he s1 x => ?_
 subst he
 refine⟨lim.keeps x.toInCall.keep,codeAny_func ?_⟩
 obtain⟨t,ht,hq⟩:=hbody A outer s H vs Q E (hr.deeper _) hsp
 have I:Inv (cxOf CX P w K mg base N qual scope f cdv A outer s H E) [] (start N vs) H s1:=zM2 S hr.hd e0 hl r x
 refine wpAny_mono (ht [] s1 (start N vs) H _ I hq) (fun fl s' hs => ?_) fun e s' hs=>hs
 have fin:∀{σ':St}{H':Hp}{v:V}{u:Value},Inv (cxOf CX P w K mg base N qual scope f cdv A outer s H E) [] σ' H' s'->RelV v u->Q v H'->CE outer P w H s Q u s' :=
  fun {σ' H' v u} J rv q=>⟨v,H',J.os,J.bare,J.base,J.hok,rv,q⟩
 cases fl with
 | ret u =>
  obtain⟨v,σ',H',J,rv,q⟩:=hs
  exact fin J rv q
 | next =>
  obtain⟨σ',H',J,q⟩:=hs
  exact fin (v:=V.non) (u:=Value.none) J rfl q
 | brk =>
  obtain⟨_,_,_,q⟩:=hs
  exact False.elim q
 | cont =>
  obtain⟨_,_,_,q⟩:=hs
  exact False.elim q
section
variable {X:Cx}{x:Str}{p pos:Pos}{e:Expr}{es:List Expr}{t:TA}{id T:String}{r:List V->Hp->VK->Prop}
def tCB(r:List V->Hp->VK->Prop)(t:TA):TE:=fun σ H Q=>t σ H fun vs H1=>r vs H1 Q
theorem vL(hc:CallR X (.builtin id) r)(hg:Gl X x)(hm:X.mg x=none)(hv:bootBuiltins x=some (.builtin id))(ha:PA X (e::es) t)(hn:autoParam (x ≠ "__name__") DH)(hdb:autoParam ((x == ("__debug__":Str))=false) DH)
  (he:autoParam (starEach (e::es) X.env=(false,eval e X.env)::starEach es X.env) DI) (hpl:autoParam ((backTo pos (starEach es X.env)).any (·.1)=false) DI):PE X (.Call (.Name x p) (e::es) [] pos) (tCB r t):=by
 intro DJ s σ H Q I h
 refine wpAny_Call_Name_kw (dL I hg hm hv ?_ hn hdb)
 exact PyProof.Rows.callWith_builtin1 (thn (ha pos DJ s σ H _ I h) fun us s1 ⟨vs,H1,I1,r1,q1⟩=>hc DJ s1 σ H1 vs us Q I1 r1 q1) he hpl
theorem jI(hc:CallR X (.type T) r)(hg:Gl X x)(hm:X.mg x=none)(hv:bootBuiltins x=some (.type T))(ha:PA X (e::es) t)(hn:autoParam (x ≠ "__name__") DH)(hdb:autoParam ((x == ("__debug__":Str))=false) DH)
  (he:autoParam (starEach (e::es) X.env=(false,eval e X.env)::starEach es X.env) DI) (hpl:autoParam ((backTo pos (starEach es X.env)).any (·.1)=false) DI):PE X (.Call (.Name x p) (e::es) [] pos) (tCB r t):=by
 intro DJ s σ H Q I h
 refine wpAny_Call_Name_kw (dL I hg hm hv ?_ hn hdb)
 exact Cb (thn (ha pos DJ s σ H _ I h) fun us s1 ⟨vs,H1,I1,r1,q1⟩=>hc DJ s1 σ H1 vs us Q I1 r1 q1) he hpl
end
end L2
namespace HT
open PySem PyProof.Rows
section
open PySem.SeqAt
open PySem.AutoSeq1 (wpAny_loadPart')
open PySem.MeetsSeq PySem.MeetsSeq2 PySem.MeetsSeq3
end
section
variable {prog:Program}{w:World}{A:Around}{E:Value->Shared->Prop}{s:Shared}
def sIx(n d:Nat):Option Int->Nat
 | none=>d
 | some v=>if v<0 then (v+(n:Int)).toNat else min v.toNat n
theorem zC4(n d:Nat):sIx n d none=d:=rfl
theorem zZ1(n d k:Nat):sIx n d (some (k:Int))=min k n:=by
 show (if (k:Int)<0 then ((k:Int)+(n:Int)).toNat else min (k:Int).toNat n)=min k n
 rw[Ax (by rfl'),Bo]
theorem xM3(n d:Nat)(hd:d<=n)(o:Option Int):sIx n d o<=n:=by
 cases o with
 | none=>exact hd
 | some v =>
  show (if v<0 then (v+(n:Int)).toNat else min v.toNat n)<=n
  by_cases hv:v<0
  ·rw[Ak hv];rfl'
  ·rw[Ax hv];exact Nat.min_le_right _ _
theorem yX8(v:Int)(n d:Nat):(if v<0 then max (v+(n:Int)) 0 else min v (n:Int))=((sIx n d (some v):Nat):Int):=by
 show (if v<0 then max (v+(n:Int)) 0 else min v (n:Int))=(((if v<0 then (v+(n:Int)).toNat else min v.toNat n):Nat):Int)
 by_cases hv:v<0
 ·simp only[Ak hv];rfl'
 ·simp only[Ax hv];rfl'
theorem yT6(lo hi:Option Int)(n:Nat):Builtin.Slice.sliceAdjust lo hi 1 (n:Int)=(((sIx n 0 lo:Nat):Int),((sIx n n hi:Nat):Int)):=by
 have h1:¬((1:Int)<0):=by rfl'
 unfold Builtin.Slice.sliceAdjust
 simp only[h1,if_false]
 refine Prod.ext ?_ ?_
 ·cases lo with
  | none=>rfl
  | some v=>exact yX8 v n 0
 ·cases hi with
  | none=>rfl
  | some v=>exact yX8 v n n
theorem yS2(i j:Nat):Builtin.Slice.slicePlaces (i:Int) (j:Int) 1=j-i:=by
 unfold Builtin.Slice.slicePlaces
 have h1:(1:Int) > 0:=by rfl'
 simp only[h1,if_true,Int.ediv_one]
 split <;> rfl'
theorem zU4{v:Value}{o:Option Int}{Q:Option Int->Shared->Prop}(p:IsPart v o)(h:Q o s):wpAny (model prog w) A (Builtin.Slice.slicePartIndex v) Q E s:=by
 cases p with
 | none=>exact slicePart_none h
 | int i t=>exact slicePart_int h
theorem gU{sl:Addr}{vl vu:Value}{lo hi:Option Int}{n:Nat}{Q:Int×Int×Nat->Shared->Prop}(hs:s.heap.IsSliceOf sl vl vu .none)(pl:IsPart vl lo)(pu:IsPart vu hi)
  (h:Q (((sIx n 0 lo:Nat):Int),1,sIx n n hi-sIx n 0 lo) s):wpAny (model prog w) A (Builtin.Slice.sliceApplied (.ref sl) (pure (n:Int))) Q E s:=by
 obtain⟨os,hos,hcs,hds⟩:=id hs
 unfold Builtin.Slice.sliceApplied Builtin.Slice.sliceFields
 refine Ab (Ab (wpAny_field hos hds (x:=vl) rfl (Ab (wpAny_field hos hds (x:=vu) rfl (Ab (wpAny_field hos hds (x:=.none) rfl (Ao ?_)))))))
 refine Ab (slicePart_none ?_)
 show wpAny _ _ (if ((1:Int) == 0)=true then _ else _) _ _ s
 rw[Ax (by decide)]
 refine Ab (zU4 pl (Ab (zU4 pu (Ab (Ao ?_)))))
 show wpAny _ _ (match Builtin.Slice.sliceAdjust lo hi 1 (n:Int) with | (lo,hi)=>pure (lo,(1:Int),Builtin.Slice.slicePlaces lo hi 1)) _ _ s
 rw[yT6 lo hi n]
 show wpAny _ _ (pure (((sIx n 0 lo:Nat):Int),(1:Int),Builtin.Slice.slicePlaces ((sIx n 0 lo:Nat):Int) ((sIx n n hi:Nat):Int) 1)) _ _ s
 rw[yS2]
 exact Ao h
theorem yE3(xs:Array Value)(i k:Nat):((List.range k).filterMap fun (m:Nat)=>xs[((i:Int)+(m:Int)*1).toNat]?).toArray=((xs.toList.drop i).take k).toArray:=by
 have e:(fun (m:Nat)=>xs[((i:Int)+(m:Int)*1).toNat]?)=fun m=>xs[i+m]?:=by
  funext m
  have:((i:Int)+(m:Int)*1).toNat=i+m:=by rfl'
  rw[this]
 rw[e]
 have:=pick_run xs i k
 rw[List.filterMap_map] at this
 have e2:((fun x=>xs[x]?)∘fun x=>i+x)=fun m=>xs[i+m]?:=rfl
 rw[e2] at this
 rw[this]
theorem zZ5{t sl:Addr}{items:Array Value}{vl vu:Value}{lo hi:Option Int}{Q:Value->Shared->Prop}(ht:IsTup s.heap t items)(hs:s.heap.IsSliceOf sl vl vu .none)(pl:IsPart vl lo)(pu:IsPart vu hi)
  (hw:¬(sIx items.size 0 lo=0/\sIx items.size items.size hi=items.size))
  (h:Q (.ref s.heap.objs.size) { s with heap:=s.heap.push { cls:=.type "tuple",data:=.seq ((items.toList.drop (sIx items.size 0 lo)).take (sIx items.size items.size hi-sIx items.size 0 lo)).toArray } })
  (hsz:items.size<=sizeLine):wpAny (model prog w) A (getItem (.ref t) (.ref sl)) Q E s:=by
 have htake:sizeOk (.seq ((items.toList.drop (sIx items.size 0 lo)).take (sIx items.size items.size hi-sIx items.size 0 lo)).toArray):=by
  show ((items.toList.drop (sIx items.size 0 lo)).take (sIx items.size items.size hi-sIx items.size 0 lo)).toArray.size<=sizeLine
  rw[AC,Bn,As,Dy]
  rfl'
 have hj:sIx items.size items.size hi<=items.size:=xM3 _ _ (Al _) hi
 obtain⟨os,hos,hcs,hds⟩:=id hs
 have hTs:s.TypeIs (.ref sl) "slice":=⟨os,hos,hcs⟩
 unfold getItem
 try with_reducible refine wpAny_holding ?_
 first | refine Ab (Ao ?_) | skip
 refine Ab (wpAny_sequenceKey ht.typeIs (by decide) ?_)
 refine Ab (wpAny_callSpecial?_slot (name:=Str.ofString "__getitem__") ht.typeIs BO
  (wpAny_call_entry BO ht.typeIs entry_tuple_getitem ?_ (args_tuple_getitem _ _)))
 show wpAny _ _ (Builtin.Tuple.tupleItemsOf (.ref t) >>= _) _ _ s
 refine Ab (tupleItemsOf_ ht ?_)
 refine Ab (wpAny_typeOf hTs ?_)
 rw[Ak (by decide)]
 refine Ab (gU hs pl pu ?_)
 have hno:¬((((sIx items.size 0 lo:Nat):Int) == 0&&(1:Int) == 1&&(sIx items.size items.size hi-sIx items.size 0 lo) == items.size)=true):=by
  intro q
  rw[Ay,Ay] at q
  have q1:((sIx items.size 0 lo:Nat):Int)=0:=eq_of_beq q.1.1
  have q2:sIx items.size items.size hi-sIx items.size 0 lo=items.size:=eq_of_beq q.2
  exact hw ⟨by rfl',by rfl'⟩
 show wpAny _ _ (if (((sIx items.size 0 lo:Nat):Int) == 0&&(1:Int) == 1&&(sIx items.size items.size hi-sIx items.size 0 lo) == items.size)=true then _ else _) _ _ s
 rw[Ax hno,yE3]
 first
  | exact Ab (m:=Builtin.Tuple.tupleExact _) (wpAny_newObj_type (Ao ⟨_,rfl,Ao h⟩) htake)
  | exact Ab (m:=Builtin.Tuple.tupleExact _) (wpAny_newObj_type (Ab (Ao (Ao ⟨_,rfl,Ao h⟩))) htake)
  | exact Ab (Ab (m:=Builtin.Tuple.tupleExact _) (wpAny_newObj_type (Ao (Ao ⟨_,rfl,Ao h⟩)) htake))
  | exact Ab (Ab (m:=Builtin.Tuple.tupleExact _) (wpAny_newObj_type (Ao ⟨_,rfl,Ao h⟩) htake))
end
end HT
namespace L2
open PySem PySem.Spec PyProof.Rows
abbrev TO:=St->Hp->(Option Int->Hp->Prop)->Prop
def PO(X:Cx)(e:Option Expr)(t:TO):Prop :=
 ∀(DJ:List (Addr×Obj)) (s:Shared) (σ:St) (H:Hp) (Q:Option Int->Hp->Prop),Inv X DJ σ H s->t σ H Q ->
  wpAny (model X.prog X.w) X.A (evalPart e X.env) (fun u s'=>∃o H',Inv X DJ σ H' s'/\IsPart u o/\Q o H') X.xe s
def tNoPart:TO:=fun _ H Q=>Q none H
def tPart(t:TE):TO:=fun σ H Q=>t σ H fun x H1=>∃i,x=.int i/\Q (some i) H1
theorem zU2{ns:List Int}:∀{us:List Value},Vals (ns.map V.int) us->IntsAre us ns:=by
 induction ns with
 | nil=>intro us r;rw[List.map_nil] at r;cases r;exact .nil
 | cons n ns ih =>
  intro us r
  rw[AI] at r
  cases r with
  | cons r1 r2 =>
   obtain⟨t,e⟩:=r1
   subst e
   exact .cons n t (ih r2)
section
variable {X:Cx}{e:Expr}{te:TE}{lo hi:Option Expr}{tl th:TO}{pos p2:Pos}
theorem xW7:PO X none tNoPart:=by
 intro DJ s σ H Q I h
 rw[evalPart_none]
 exact Ao ⟨none,H,I,.none,h⟩
theorem xS3(h:PE X e te):PO X (some e) (tPart te):=by
 intro DJ s σ H Q I hw
 rw[evalPart_some]
 refine thn (h DJ s σ H _ I hw) fun u s1 ⟨x,H1,I1,r1,q1⟩ => ?_
 obtain⟨i,rfl,q⟩:=q1
 obtain⟨t,rfl⟩:=r1
 exact⟨some i,H1,I1,.int i t,q⟩
def SlR(X:Cx)(r:V->Option Int->Option Int->Hp->VK->Prop):Prop :=
 ∀(DJ:List (Addr×Obj)) (s:Shared) (σ:St) (H:Hp) (x:V) (v vl vu:Value) (lo hi:Option Int) (sl:Addr) (Q:VK),Inv X DJ σ H s->RelV x v->s.heap.IsSliceOf sl vl vu .none->IsPart vl lo->IsPart vu hi->r x lo hi H Q ->
  ∃T id,typeLookup (.type T) "__getitem__" = pure (some (.builtin id))/\s.TypeIs v T/\wpAny (model X.prog X.w) X.A (getItem v (.ref sl)) (EP X DJ σ Q) X.xe s
theorem SlR.or{r r':V->Option Int->Option Int->Hp->VK->Prop}(h:SlR X r)(h':SlR X r'):SlR X (fun x lo hi H Q=>r x lo hi H Q\/r' x lo hi H Q):=by
 intro DJ s σ H x v vl vu lo hi sl Q I rx hs pl pu q
 rcases q with q | q
 ·exact h DJ s σ H x v vl vu lo hi sl Q I rx hs pl pu q
 ·exact h' DJ s σ H x v vl vu lo hi sl Q I rx hs pl pu q
def tSl(r:V->Option Int->Option Int->Hp->VK->Prop)(te:TE)(tl th:TO):TE:=fun σ H Q=>te σ H fun x H1=>tl σ H1 fun l H2=>th σ H2 fun u H3=>r x l u H3 Q
theorem yF6{r:V->Option Int->Option Int->Hp->VK->Prop}(hr:SlR X r)(he:PE X e te)(hl:PO X lo tl)(hu:PO X hi th):PE X (.Subscript e (.Slice lo hi none p2) pos) (tSl r te tl th):=by
 intro DJ s σ H Q I h
 refine Subscript_ (thn (he DJ s σ H _ I h) fun v s1 ⟨x,H1,I1,r1,q1⟩ => ?_)
 refine wpAny_Slice (thn (hl DJ s1 σ H1 _ I1 q1) fun vl s2 ⟨l,H2,I2,pl,q2⟩=>thn (hu DJ s2 σ H2 _ I2 q2) fun vu s3 ⟨u,H3,I3,pu,q3⟩ => ?_)
 rw[evalPart_none]
 refine Ao ?_
 have I4:Inv X DJ σ H3 { s3 with heap:=s3.heap.push { cls:=.type "slice",data:=.fields #[vl,vu,.none] } }:=I3.kept (t':=s3.toks) fun b ob q=>An _ q
 obtain⟨T,id,hT,ht,hg⟩:=hr DJ { s3 with heap:=s3.heap.push { cls:=.type "slice",data:=.fields #[vl,vu,.none] } } σ H3 x v vl vu l u s3.heap.objs.size Q I4 r1 (Heap.IsSliceOf.new ..) pl pu q3
 show wpAny (model X.prog X.w) X.A (subscriptTail e (.Slice lo hi none p2) v (.ref s3.heap.objs.size)) (EP X DJ σ Q) X.xe { s3 with heap:=s3.heap.push { cls:=.type "slice",data:=.fields #[vl,vu,.none] } }
 exact tail_any (ops:=[.ref s3.heap.objs.size,v]) ht hT hg (by with_unfolding_all rfl)
def cutV(xs:List V)(lo hi:Option Int):List V:=(xs.drop (HT.sIx xs.length 0 lo)).take (HT.sIx xs.length xs.length hi-HT.sIx xs.length 0 lo)
theorem zY5(xs:List V)(lo hi:Option Int):(cutV xs lo hi).length<=xs.length:=by
 unfold cutV
 rw[Bn,As]
 rfl'
def rSlT(K:KFr):V->Option Int->Option Int->Hp->VK->Prop:=fun x lo hi H Q=>∃a xs,x=.ref a/\SqT K H a xs /\
 ¬(HT.sIx xs.length 0 lo=0/\HT.sIx xs.length xs.length hi=xs.length)/\∀p,H p=none->Q (.ref p) (upd H p (.tup (cutV xs lo hi)))
theorem xQ6:SlR X (rSlT X.K):=by
 intro DJ s σ H x v vl vu lo hi sl Q I rx hs pl pu h
 obtain⟨a,xs,rfl,hx,hw,q⟩:=h
 cases rx
 obtain⟨its,r,ht,hz⟩:=I.tuple hx
 have hlen:its.toArray.size=xs.length:=by rw[AC];exact r.length.symm
 refine⟨"tuple",_,BO.lookup,ht.typeIs,?_⟩
 refine HT.zZ5 ht hs pl pu (by rw[hlen];exact hw) ?_ (by rw[hlen];exact hz)
 rw[hlen]
 refine⟨.ref s.heap.objs.size,_,I.laid (t':=s.toks) (o:=.tup (cutV xs lo hi)) (fun b ob q=>An _ q) (Al _) ?_,rfl,q _ (I.hok.fresh (Al _))⟩
 exact⟨AJ (zY5 xs lo hi) hz,_,(r.drop (HT.sIx xs.length 0 lo)).take (HT.sIx xs.length xs.length hi-HT.sIx xs.length 0 lo),TupAt.new _ _⟩
end
def ixN(n:Nat)(i:Int):Option Nat:=if 0<=i then (if i<n then some i.toNat else none) else if -(n:Int)<=i then some (i+n).toNat else none
def atI{α:Type}(xs:List α)(i:Int):Option α:=(ixN xs.length i).bind fun j=>xs[j]?
theorem yY5{n:Nat}{i:Int}{j:Nat}(h:ixN n i=some j):seqIndex? i n=some j/\j<n/\-(n:Int)<=i/\i<n:=by
 unfold ixN at h
 by_cases h0:0<=i
 ·rw[Ak h0] at h
  by_cases h1:i<n
  ·rw[Ak h1] at h
   have e:i.toNat=j:=Ba h
   exact⟨by rw[seqIndex_of h0 h1,e],by rfl',by rfl',h1⟩
  ·rw[Ax h1] at h;cases h
 ·rw[Ax h0] at h
  by_cases h1:-(n:Int)<=i
  ·rw[Ak h1] at h
   have e:(i+n).toNat=j:=Ba h
   exact⟨by rw[seqIndex_neg (by rfl') h1,e],by rfl',h1,by rfl'⟩
  ·rw[Ax h1] at h;cases h
theorem zQ1{α:Type}{xs:List α}{i:Int}{v:α}(h:atI xs i=some v):∃j,seqIndex? i xs.length=some j/\xs[j]?=some v/\j<xs.length/\-(xs.length:Int)<=i/\i<xs.length:=by
 unfold atI at h
 cases e:ixN xs.length i with
 | none=>rw[e] at h;cases h
 | some j =>
  rw[e] at h
  obtain⟨h1,h2,h3,h4⟩:=yY5 e
  exact⟨j,h1,h,h2,h3,h4⟩
theorem yX2{α:Type}{xs:List α}{j:Nat}{v:α}(h:xs[j]?=some v):atI xs (j:Int)=some v:=by
 have hj:j<xs.length:=(Au.mp h).1
 have e:ixN xs.length (j:Int)=some j:=by
  unfold ixN
  rw[Ak (by rfl'),Ak (by rfl')];simp
 unfold atI;rw[e];exact h
theorem zH8{α:Type}(xs:List α)(v:α):atI (xs ++ [v]) (-1)=some v:=by
 have hl:(xs ++ [v]).length=xs.length+1:=by simp
 have e:ixN (xs ++ [v]).length (-1)=some xs.length:=by
  unfold ixN
  rw[hl,Ax (by decide),Ak (by rfl')]
  congr 1
  rfl'
 unfold atI
 rw[e]
 show (xs ++ [v])[xs.length]?=some v
 simp
def PlainIx(b:Expr):Prop:=∀o i,subscripted b false o i=operate [o,i] (getItem o i)
def IxR(X:Cx)(r:R2):Prop :=
 ∀(value slice:Expr) (DJ:List (Addr×Obj)) (s:Shared) (σ:St) (H:Hp) (x y:V) (v u:Value) (Q:VK),Inv X DJ σ H s->RelV x v->RelV y u->r x y H Q ->
  subscripted slice false v u=operate [v,u] (getItem v u)->wpAny (model X.prog X.w) X.A (subscriptTail value slice v u) (EP X DJ σ Q) X.xe s
def MtR(X:Cx)(id:String)(r:V->List V->Hp->VK->Prop):Prop :=
 ∀(DJ:List (Addr×Obj)) (s:Shared) (σ:St) (H:Hp) (x:V) (xs:List V) (v:Value) (us:List Value) (Q:VK),Inv X DJ σ H s->RelV x v->Vals xs us->r x xs H Q ->
  wpAny (model X.prog X.w) X.A (call (.builtin id) (v::us)) (EP X DJ σ Q) X.xe s
section
variable {X:Cx}{a b:Expr}{ta tb:TE}{pos:Pos}
theorem IxR.or{r r':R2}(h:IxR X r)(h':IxR X r'):IxR X (fun x y H Q=>r x y H Q\/r' x y H Q):=by
 intro value slice DJ s σ H x y v u Q I rx ry q hs
 rcases q with q | q
 ·exact h value slice DJ s σ H x y v u Q I rx ry q hs
 ·exact h' value slice DJ s σ H x y v u Q I rx ry q hs
theorem vE{r:R2}(hr:IxR X r)(ha:PE X a ta)(hb:PE X b tb)(hs:PlainIx b):PE X (.Subscript a b pos) (tOp r ta tb):=by
 intro DJ s σ H Q I h
 exact Subscript_ (binT ha hb I h fun v u s2 x y H2 I2 rx ry q=>hr a b DJ s2 σ H2 x y v u Q I2 rx ry q (hs _ _))
def rIxL(K:KFr):R2:=fun x y H Q=>∃p xs i v,x=.ref p/\y=.int i/\SqL K H p xs/\atI xs i=some v/\Q v H
def rIxT(K:KFr):R2:=fun x y H Q=>∃p xs i v,x=.ref p/\y=.int i/\SqT K H p xs/\atI xs i=some v/\Q v H
def rIxS:R2:=fun x y H Q=>∃z i c,x=.str z/\y=.int i/\z.length<=sizeLine/\atI z.cps.toList i=some c/\Q (.str ⟨#[c]⟩) H
theorem dU:IxR X (rIxL X.K):=by
 intro value slice DJ s σ H x y v u Q I rx ry h hs
 obtain⟨p,xs,i,z,rfl,rfl,hq,he,q⟩:=h
 cases rx
 obtain⟨t,rfl⟩:=ry
 obtain⟨its,r,pl,hz⟩:=I.list hq
 obtain⟨j,h1,h2,h3,h4,h5⟩:=zQ1 he
 obtain⟨w,ew,rw'⟩:=r.get h2
 have hl:=r.length
 have hn:=line63
 have fin:EP X DJ σ Q w s:=⟨z,H,I,rw',q⟩
 by_cases h0:0<=i
 ·have hj:i.toNat=j:=by
   rw[seqIndex_of h0 h5] at h1
   exact Ba h1
  exact item_listR pl.isList h0 (by rfl') (by rw[hj];simpa using ew) fin hs
 ·have hj:(i+(its.toArray.size:Int)).toNat=j:=by
   rw[seqIndex_neg (by rfl') h4] at h1
   rw[AC,<-hl]
   exact Ba h1
  exact subscriptTail_builtinR (x:=w) pl.isList.typeIs slot_list_getitem.lookup
   (wpAny_getItem_list_neg (Q:=fun r s'=>r=w/\EP X DJ σ Q r s') pl.isList (by rfl') (by rw[AC] <;> rfl') (by rfl') (by rw[hj];simpa using ew) ⟨rfl,fin⟩) hs
theorem uM:IxR X (rIxT X.K):=by
 intro value slice DJ s σ H x y v u Q I rx ry h hs
 obtain⟨p,xs,i,z,rfl,rfl,hq,he,q⟩:=h
 cases rx
 obtain⟨t,rfl⟩:=ry
 obtain⟨its,r,pl,hz⟩:=I.tuple hq
 obtain⟨j,h1,h2,h3,h4,h5⟩:=zQ1 he
 obtain⟨w,ew,rw'⟩:=r.get h2
 have hl:=r.length
 have hn:=line63
 have fin:EP X DJ σ Q w s:=⟨z,H,I,rw',q⟩
 exact subscriptTail_builtinR (x:=w) pl.typeIs slot_tuple_getitem.lookup
  (getItem_tuple (j:=j) (Q:=fun r s'=>r=w/\EP X DJ σ Q r s') pl (by rfl') (by rfl') (by rw[AC,<-hl];exact h1) (by simpa using ew) ⟨rfl,fin⟩) hs
theorem zS2:IxR X rIxS:=by
 intro value slice DJ s σ H x y v u Q I rx ry h hs
 obtain⟨z,i,c,rfl,rfl,hz,he,q⟩:=h
 obtain⟨t,rfl⟩:=rx
 obtain⟨t',rfl⟩:=ry
 obtain⟨j,h1,h2,h3,h4,h5⟩:=zQ1 he
 have hl:z.cps.toList.length=z.length:=by simp[Str.length]
 rw[hl] at h1 h4 h5
 have hn:=line63
 exact tail_any (typeIs_str s z t) slot_str_getitem.lookup (getItem_str (c:=c) (by
  have e1:decide (i < -(2 ^ 63:Int))=false:=Ad (by rfl')
  have e2:decide (i ≥ 2 ^ 63)=false:=Ad (by rfl')
  rw[e1,e2,Bool.or_false]) (by rw[h1];simpa using h2) ⟨.str ⟨#[c]⟩,H,I.tok _,⟨_,rfl⟩,q⟩) hs
def rIx(K:KFr):R2:=fun x y H Q=>rIxL K x y H Q\/rIxT K x y H Q\/rIxS x y H Q
theorem yA:IxR X (rIx X.K):=dU.or (uM.or zS2)
theorem yR1(its:List Value)(n j:Nat)(u:Value):Obj.mapSeq (·.setIfInBounds j u) { cls:=.type "list",data:=.seq its.toArray n }={ cls:=.type "list",data:=.seq (its.set j u).toArray n }:=by
 simp[Obj.mapSeq]
theorem Inv.lst{DJ:List (Addr×Obj)}{σ:St}{H:Hp}{s:Shared}{p:Addr}{xs:List V}(I:Inv X DJ σ H s)(h:H p=some (.lst xs)) :
  ∃(its:List Value) (n:Nat),Vals xs its/\s.heap.get? p=some { cls:=.type "list",data:=.seq its.toArray n }/\xs.length<=sizeLine:=by
 obtain⟨z,its,n,r,e⟩:=I.hok p _ h
 exact⟨its,n,r,e,z⟩
theorem Inv.lstUpd{DJ:List (Addr×Obj)}{σ:St}{H:Hp}{s:Shared}{p:Addr}{xs ys:List V}{its its':List Value}{n n':Nat}{f:Obj->Obj}(I:Inv X DJ σ H s)(h:H p=some (.lst xs))
  (ho:s.heap.get? p=some { cls:=.type "list",data:=.seq its.toArray n }) (hf:f { cls:=.type "list",data:=.seq its.toArray n }={ cls:=.type "list",data:=.seq its'.toArray n' }) (r:Vals ys its') (hz:ys.length<=sizeLine) (t:Nat) :
  Inv X DJ σ (upd H p (.lst ys)) { s with heap:=s.heap.update p f,toks:=t }:=by
 have e:(s.heap.update p f).get? p=some { cls:=.type "list",data:=.seq its'.toArray n' }:=by
  rw[Bf f ho (by rw[hf] <;> rfl),hf]
 refine I.write (x:=p) (e:=p) (by rw[h];trivial) (.inl rfl) (fun b u hb q=>(AE _ _ (AX hb)).trans q) ⟨_,e⟩ ?_
 exact⟨hz,its',n',r,e⟩
def rSetL:V->V->V->Hp->(Hp->Prop)->Prop:=fun o i v H Q=>∃p xs k j,o=.ref p/\i=.int k/\H p=some (.lst xs)/\ixN xs.length k=some j/\Q (upd H p (.lst (xs.set j v)))
theorem yE6:PSet X rSetL:=by
 intro DJ s σ H o i v ov iv u Q I ro ri rv h
 obtain⟨p,xs,k,j,rfl,rfl,hp,hj,q⟩:=h
 cases ro
 obtain⟨t,rfl⟩:=ri
 obtain⟨its,n,r,ho,hz⟩:=I.lst hp
 obtain⟨h1,h2,h3,h4⟩:=yY5 hj
 have hl:=r.length
 have hn:=line63
 have I':Inv X DJ σ (upd H p (.lst (xs.set j v))) { s with heap:=s.heap.update p (Obj.mapSeq (·.setIfInBounds j u)) } :=
  I.lstUpd hp ho (yR1 its n j u) (r.set rv j) (by rw[BY];exact hz) s.toks
 by_cases h0:0<=k
 ·have hk:k.toNat=j:=by
   rw[seqIndex_of h0 h4] at h1
   exact Ba h1
  exact PySem.W.ki_setAt ho h0 (by rfl') (by rw[AC,<-hl];exact h4) (by rw[hk];exact⟨_,I',q⟩)
 ·have hk:(k+(its.toArray.size:Int)).toNat=j:=by
   rw[seqIndex_neg (by rfl') h3] at h1
   rw[AC,<-hl]
   exact Ba h1
  exact PySem.W.ki_setBack ho (by rfl') (by rw[AC,<-hl];exact h3) (by rfl') (by rw[hk];exact⟨_,I',q⟩)
theorem zD2(lo hi:Option Int)(n:Nat):(sliceBounds lo hi none n).1=((HT.sIx n 0 lo:Nat):Int)/\(sliceBounds lo hi none n).2.1=((HT.sIx n n hi:Nat):Int)/\(sliceBounds lo hi none n).2.2=1:=by
 refine⟨?_,?_,rfl⟩
 ·cases lo with
  | none=>simp[sliceBounds,HT.sIx]
  | some i =>
   simp only[sliceBounds,HT.sIx,Option.getD_none,show (1:Int) > 0 by decide,if_true]
   by_cases h:i<0
   ·simp only[h,if_true] <;> rfl'
   ·simp only[h,if_false] <;> rfl'
 ·cases hi with
  | none=>simp[sliceBounds,HT.sIx]
  | some i =>
   simp only[sliceBounds,HT.sIx,Option.getD_none,show (1:Int) > 0 by decide,if_true]
   by_cases h:i<0
   ·simp only[h,if_true] <;> rfl'
   ·simp only[h,if_false] <;> rfl'
theorem zJ3(its:List Value)(lo hi:Option Int):slicePick its.toArray lo hi none=((its.drop (HT.sIx its.length 0 lo)).take (HT.sIx its.length its.length hi-HT.sIx its.length 0 lo)).toArray:=by
 obtain⟨h1,h2,h3⟩:=zD2 lo hi its.toArray.size
 unfold slicePick
 rw[h1,h2,h3]
 simp only[sliceRange_one,pick_run,AC] <;> rfl
def rSlL(K:KFr):V->Option Int->Option Int->Hp->VK->Prop:=fun x lo hi H Q=>∃a xs,x=.ref a/\SqL K H a xs/\∀p,H p=none->Q (.ref p) (upd H p (.lst (cutV xs lo hi)))
theorem yZ4:SlR X (rSlL X.K):=by
 intro DJ s σ H x v vl vu lo hi sl Q I rx hs pl pu h
 obtain⟨a,xs,rfl,hx,q⟩:=h
 cases rx
 obtain⟨its,r,ht,hz⟩:=I.list hx
 have hlen:=r.length
 refine⟨"list",_,slot_list_getitem.lookup,ht.isList.typeIs,?_⟩
 refine wpAny_getItem_list_slice ht.isList hs pl pu .none (by simp) ?_ (by rw[AC] <;> rfl')
 rw[zJ3,<-hlen]
 refine⟨.ref s.heap.objs.size,_,I.laid (t':=s.toks) (o:=.lst (cutV xs lo hi)) (fun b ob q=>An _ q) (Al _) ?_,rfl,q _ (I.hok.fresh (Al _))⟩
 exact⟨AJ (zY5 xs lo hi) hz,_,0,(r.drop (HT.sIx xs.length 0 lo)).take (HT.sIx xs.length xs.length hi-HT.sIx xs.length 0 lo),AH _ rfl⟩
def flatV:V->Bool
 | .non=>true
 | .bl _=>true
 | .int _=>true
 | .str _=>true
 | _=>false
def eqV:V->V->Bool
 | .non,.non=>true
 | .bl a,.bl b=>a == b
 | .bl a,.int b=>(if a then 1 else 0) == b
 | .int a,.bl b=>a == (if b then 1 else 0)
 | .int a,.int b=>a == b
 | .str a,.str b=>a == b
 | _,_=>false
theorem xO6{A:Around}{s:Shared}{y x:V}{u v:Value}(ry:RelV y u)(rx:RelV x v)(fy:flatV y=true)(fx:flatV x=true):SeqAt.EqAt A s u v (eqV y x):=by
 cases y with
 | non =>
  cases ry
  cases x with
  | non=>cases rx;exact SeqAt.EqAt.same _
  | bl b=>cases rx;exact SeqAt.EqAt.none_bool b
  | int b=>obtain⟨t,rfl⟩:=rx;exact SeqAt.EqAt.none_int b t
  | str b=>obtain⟨t,rfl⟩:=rx;exact SeqAt.EqAt.none_str b t
  | _=>exact absurd (show false=true from fx) Ap
 | bl a =>
  cases ry
  cases x with
  | non=>cases rx;exact SeqAt.EqAt.bool_none a
  | bl b=>cases rx;exact SeqAt.EqAt.bool_bool a b
  | int b=>obtain⟨t,rfl⟩:=rx;exact SeqAt.EqAt.bool_int a b t
  | str b=>obtain⟨t,rfl⟩:=rx;exact SeqAt.EqAt.bool_str a b t
  | _=>exact absurd (show false=true from fx) Ap
 | int a =>
  obtain⟨t',rfl⟩:=ry
  cases x with
  | non=>cases rx;exact SeqAt.EqAt.int_none a t'
  | bl b=>cases rx;exact SeqAt.EqAt.int_bool a t' b
  | int b=>obtain⟨t,rfl⟩:=rx;exact SeqAt.EqAt.int_int a t' b t
  | str b=>obtain⟨t,rfl⟩:=rx;exact SeqAt.EqAt.int_str a t' b t
  | _=>exact absurd (show false=true from fx) Ap
 | str a =>
  obtain⟨t',rfl⟩:=ry
  cases x with
  | non=>cases rx;exact SeqAt.EqAt.str_none a t'
  | bl b=>cases rx;exact SeqAt.EqAt.str_bool a t' b
  | int b=>obtain⟨t,rfl⟩:=rx;exact SeqAt.EqAt.str_int a t' b t
  | str b=>obtain⟨t,rfl⟩:=rx;exact SeqAt.EqAt.str_str a t' b t
  | _=>exact absurd (show false=true from fx) Ap
 | _=>exact absurd (show false=true from fy) Ap
def eqU(x:V)(u:Value):Bool:=match u with
 | .none=>eqV .non x
 | .bool b=>eqV (.bl b) x
 | .int i _=>eqV (.int i) x
 | .str z _=>eqV (.str z) x
 | _=>false
theorem yK5{x y:V}{u:Value}(r:RelV y u)(f:flatV y=true):eqU x u=eqV y x:=by
 cases y with
 | non=>cases r;rfl
 | bl b=>cases r;rfl
 | int i=>obtain⟨t,rfl⟩:=r;rfl
 | str z=>obtain⟨t,rfl⟩:=r;rfl
 | _=>exact absurd (show false=true from f) Ap
theorem dC{x:V}:∀{xs:List V}{us:List Value},Vals xs us->xs.all flatV=true->us.any (eqU x)=xs.any fun y=>eqV y x
 | _,_,.nil,_=>rfl
 | y::xs,u::us,.cons r t,f=>by
  rw[Dq,Ay] at f
  rw[Dr,Dr,yK5 r f.1,dC t f.2]
theorem gS{A:Around}{s:Shared}{x:V}{v:Value}(rx:RelV x v)(fx:flatV x=true):∀{xs:List V}{us:List Value},Vals xs us->xs.all flatV=true->∀u∈us,SeqAt.EqAt A s u v (eqU x u)
 | _,_,.nil,_=>fun u hu=>by cases hu
 | y::xs,u::us,.cons r t,f=>fun u' hu=>by
  rw[Dq,Ay] at f
  rcases Aw.mp hu with rfl | hu
  ·rw[yK5 r f.1];exact xO6 r rx f.1 fx
  ·exact gS rx fx t f.2 u' hu
def inV(x:V)(xs:List V):Bool:=xs.any fun y=>eqV y x
def rIn(K:KFr)(neg:Bool):R2:=fun x y H Q=>∃p xs,y=.ref p/\(SqL K H p xs\/SqT K H p xs)/\flatV x=true/\xs.all flatV=true/\Q (.bl (if neg then !inV x xs else inV x xs)) H
theorem jR:OpR X (compareOp .In) (rIn X.K false):=by
 intro DJ s σ H x y v u Q I rx ry h
 obtain⟨p,xs,rfl,hq,fx,fs,q⟩:=h
 cases ry
 rcases hq with hq | hq
 ·obtain⟨its,r,pl,hz⟩:=I.list hq
  refine SeqAt.in_listAt (eqU x) pl.isList (fun w hw=>gS rx fx r fs w (by simpa using hw)) ⟨.bl _,H,I,rfl,?_⟩
  rw[show its.toArray.any (eqU x)=its.any (eqU x) by simp,dC r fs]
  exact q
 ·obtain⟨its,r,pl,hz⟩:=I.tuple hq
  refine SeqAt.in_tupleAt (eqU x) pl (fun w hw=>gS rx fx r fs w (by simpa using hw)) ⟨.bl _,H,I,rfl,?_⟩
  rw[show its.toArray.any (eqU x)=its.any (eqU x) by simp,dC r fs]
  exact q
theorem bI:OpR X (compareOp .NotIn) (rIn X.K true):=by
 intro DJ s σ H x y v u Q I rx ry h
 obtain⟨p,xs,rfl,hq,fx,fs,q⟩:=h
 cases ry
 rcases hq with hq | hq
 ·obtain⟨its,r,pl,hz⟩:=I.list hq
  refine SeqAt.notIn_listAt (eqU x) pl.isList (fun w hw=>gS rx fx r fs w (by simpa using hw)) ⟨.bl _,H,I,rfl,?_⟩
  rw[show its.toArray.any (eqU x)=its.any (eqU x) by simp,dC r fs]
  exact q
 ·obtain⟨its,r,pl,hz⟩:=I.tuple hq
  refine SeqAt.notIn_tupleAt (eqU x) pl (fun w hw=>gS rx fx r fs w (by simpa using hw)) ⟨.bl _,H,I,rfl,?_⟩
  rw[show its.toArray.any (eqU x)=its.any (eqU x) by simp,dC r fs]
  exact q
theorem zI:CallR X (.builtin "len") (fun xs H Q=>∃p ys,xs=[.ref p]/\(SqL X.K H p ys\/SqT X.K H p ys)/\Q (.int ys.length) H):=by
 intro DJ s σ H xs us Q I r h
 obtain⟨p,ys,rfl,hq,q⟩:=h
 obtain⟨u,rfl,rx⟩:=vals1 r
 cases rx
 have hn:=line63
 rcases hq with hq | hq
 ·obtain⟨its,r',pl,hz⟩:=I.list hq
  have hlen:=r'.length
  exact Calls.call_len_list pl.isList (by simp only[AC] <;> rfl') ⟨.int ys.length,H,I.tok _,⟨s.toks+1,by rw[AC,hlen]⟩,q⟩
 ·obtain⟨its,r',pl,hz⟩:=I.tuple hq
  have hlen:=r'.length
  exact len_tuple pl (by simp only[AC] <;> rfl') ⟨.int ys.length,H,I.tok _,⟨s.toks+1,by rw[AC,hlen]⟩,q⟩
theorem wU:CallR X (.builtin "len") (fun xs H Q=>∃z,xs=[.str z]/\z.length<=sizeLine/\Q (.int z.length) H):=by
 intro DJ s σ H xs us Q I r h
 obtain⟨z,rfl,hz,q⟩:=h
 obtain⟨u,rfl,t,rfl⟩:=vals1 r
 have hn:=line63
 exact len_str (by rfl') ⟨.int z.length,H,I.tok _,⟨_,rfl⟩,q⟩
theorem yF:CallR X (.type "tuple") (fun xs H Q=>∃p ys,xs=[.ref p]/\((SqL X.K H p ys/\∀l,H l=none->Q (.ref l) (upd H l (.tup ys)))\/(SqT X.K H p ys/\Q (.ref p) H))):=by
 intro DJ s σ H xs us Q I r h
 obtain⟨p,ys,rfl,h⟩:=h
 obtain⟨u,rfl,rx⟩:=vals1 r
 cases rx
 rcases h with ⟨hq,q⟩ | ⟨hq,q⟩
 ·obtain⟨its,r',pl,hz⟩:=I.list hq
  have hlen:=r'.length
  refine call_tuple_list pl.isList (fun h' kp => ?_) (by simp only[AC] <;> rfl')
  have I1:Inv X DJ σ H { s with heap:=h' }:=I.kept (t':=s.toks) kp
  have I2:Inv X DJ σ (upd H h'.objs.size (.tup ys)) { s with heap:=h'.push { cls:=.type "tuple",data:=.seq its.toArray } } :=
   I1.laid (t':=s.toks) (fun b o e=>An _ e) (Al _) (show ObjOk X.prog X.w _ _ _ (.tup ys) from ⟨hz,its,r',TupAt.new _ _⟩)
  exact⟨.ref h'.objs.size,_,I2,rfl,q _ (I1.hok.fresh (Al _))⟩
 ·obtain⟨its,r',pl,hz⟩:=I.tuple hq
  exact call_tuple_same pl ⟨.ref p,H,I,rfl,q⟩
def tyV(K:KFr)(T:String)(x:V)(H:Hp):Prop:=match x with
 | .str _=>T="str"
 | .int _=>T="int"
 | .ref p=>(T="list"/\∃xs,SqL K H p xs)\/(T="tuple"/\((∃o,K.lookup p=some o/\o.cls=.type "tuple"/\o.dict=none)\/∃xs,Rd H p (.tup xs))) \/
   (T="dict"/\((∃kvs,H p=some (.dK kvs))\/∃kvs,H p=some (.dT kvs)))\/(T="set"/\∃S n,H p=some (.set S n))
 | _=>False
theorem yJ4{DJ:List (Addr×Obj)}{σ:St}{H:Hp}{s:Shared}{T:String}{x:V}{v:Value}(I:Inv X DJ σ H s)(r:RelV x v)(ty:tyV X.K T x H) :
  s.TypeIs v T/\∀a,v=.ref a->∃ob,s.heap.get? a=some ob/\ob.dict=none:=by
 cases x with
 | str z =>
  obtain⟨t,rfl⟩:=r
  cases (show T="str" from ty)
  exact⟨typeIs_str s z t,fun _ e=>nomatch e⟩
 | int i =>
  obtain⟨t,rfl⟩:=r
  cases (show T="int" from ty)
  exact⟨typeIs_int s i t,fun _ e=>nomatch e⟩
 | ref p =>
  cases r
  rcases ty with ⟨rfl,xs,hq⟩ | ⟨rfl,⟨o,hk,hc,hd⟩ | ⟨xs,hq⟩⟩ | ⟨rfl,hk⟩ | ⟨rfl,S,n,hk⟩
  ·obtain⟨its,_,pl,_⟩:=I.list hq
   refine⟨pl.isList.typeIs,fun a e => ?_⟩
   cases e
   obtain⟨o,n,e,c,hd,_⟩:=pl
   exact⟨o,e,hd⟩
  ·refine⟨⟨o,I.kIn p o hk,hc⟩,fun a e => ?_⟩
   cases e
   exact⟨o,I.kIn _ o hk,hd⟩
  ·obtain⟨_,its,_,o,e,c,_,hd⟩:=hq.ok I.hok
   refine⟨⟨o,e,c⟩,fun a e2 => ?_⟩
   cases e2
   exact⟨o,e,hd⟩
  ·have z:∃o,s.heap.get? p=some o/\o.ExactDict:=by
    rcases hk with ⟨kvs,hk⟩ | ⟨kvs,hk⟩
    ·obtain⟨_,_,_,_,o,_,_,e,ex,_⟩:=I.hok p _ hk
     exact⟨o,e,ex⟩
    ·obtain⟨_,_,_,_,o,_,_,e,ex,_⟩:=I.hok p _ hk
     exact⟨o,e,ex⟩
   obtain⟨o,e,ex⟩:=z
   refine⟨⟨o,e,ex.1⟩,fun a e2 => ?_⟩
   cases e2
   exact⟨o,e,ex.2.1⟩
  ·obtain⟨o,_,_,_,e,ex,_⟩:=I.hok p _ hk
   refine⟨⟨o,e,ex.1⟩,fun a e2 => ?_⟩
   cases e2
   exact⟨o,e,ex.2.1⟩
 | _=>exact False.elim ty
def tBM0(K:KFr)(T:String)(r:V->List V->Hp->VK->Prop)(to:TE):TE:=fun σ H Q=>to σ H fun x H1=>tyV K T x H1/\r x [] H1 Q
def tBM(K:KFr)(T:String)(r:V->List V->Hp->VK->Prop)(to:TE)(t:TA):TE:=fun σ H Q=>to σ H fun x H1=>tyV K T x H1/\t σ H1 fun xs H2=>r x xs H2 Q
variable {o e:Expr}{es:List Expr}{to:TE}{t:TA}{name:Str}{apos cpos:Pos}{T id:String}{r:V->List V->Hp->VK->Prop}
theorem yL8(pa:PlainAttrs T)(slot:Slot T name id)(hty:typeOf (.builtin id)=pure (.type "method_descriptor"))(hm:MtR X id r)(ho:PE X o to)
  (hbase:autoParam (attributeBase o name X.env (eval o X.env)=eval o X.env) DI) (hline:autoParam ((apos.endLine == cpos.line)=true) DI):PE X (.Call (.Attribute o name apos) [] [] cpos) (tBM0 X.K T r to):=by
 intro DJ s σ H Q I h
 refine wpAny_Call_method0_late hbase hline (thn (ho DJ s σ H _ I h) fun v s1 ⟨x,H1,I1,r1,ty,q1⟩ => ?_)
 obtain⟨h1,h2⟩:=yJ4 I1 r1 ty
 exact⟨T,id,pa,slot,hty,h1,h2,Calls.callWith_builtin rfl (PySem.evalArgs_none (hm DJ s1 σ H1 x [] v [] Q I1 r1 .nil q1))⟩
theorem cQ(pa:PlainAttrs T)(slot:Slot T name id)(hty:typeOf (.builtin id)=pure (.type "method_descriptor"))(hm:MtR X id r)(ho:PE X o to)(ha:PA X (e::es) t)
  (hbase:autoParam (attributeBase o name X.env (eval o X.env)=eval o X.env) DI)
  (hfew:((backTo cpos (starEach (e::es) X.env)).all (fun x=>!x.1)&&(backToKw cpos (keywordEach [] X.env)).all (fun x=>x.1.isSome)
  &&decide ((e::es).length+([]:List Keyword).length+(if ([]:List Keyword).isEmpty then 0 else 1)<30))=true:=by rfl)
  (hline:autoParam ((apos.endLine == cpos.line)=true) DI) (hs:autoParam (starEach (e::es) X.env=(false,eval e X.env)::starEach es X.env) DI) (hplain:autoParam ((backTo cpos (starEach es X.env)).any (·.1)=false) DI) :
  PE X (.Call (.Attribute o name apos) (e::es) [] cpos) (tBM X.K T r to t):=by
 intro DJ s σ H Q I h
 refine wpAny_Call_method_late hbase hfew hline rfl (thn (ho DJ s σ H _ I h) fun v s1 ⟨x,H1,I1,r1,ty,q1⟩ => ?_)
 obtain⟨h1,h2⟩:=yJ4 I1 r1 ty
 refine⟨T,id,pa,slot,hty,h1,h2,?_⟩
 have hA:=ha cpos DJ s1 σ H1 _ I1 q1
 rw[hs] at hA ⊢
 refine Calls.callWith_builtin (by show (false || (backTo cpos (starEach es X.env)).any (·.1))=false;rw[hplain] <;> rfl) (Calls.evalArgs_plain ?_)
 exact thn hA fun us s2 ⟨vs,H2,I2,r2,q2⟩=>hm DJ s2 σ H2 x vs v us Q I2 r1 r2 q2
end
def MtM(X:Cx)(id:String)(r:V->List V->Hp->VK->Prop):Prop :=
 ∀(DJ:List (Addr×Obj)) (s:Shared) (σ:St) (H:Hp) (x:V) (xs:List V) (v:Value) (us:List Value) (Q:VK),Inv X DJ σ H s->RelV x v->Vals xs us->r x xs H Q ->
  wpAny (model X.prog X.w) X.A (call (.builtin id) (v::us)) (EP X DJ σ Q) X.xe s
theorem Vals.one:∀{x:V}{us:List Value},Vals [x] us->∃u,us=[u]/\RelV x u
 | _,_,.cons r .nil=>⟨_,rfl,r⟩
theorem Vals.zero:∀{us:List Value},Vals [] us->us=[]
 | _,.nil=>rfl
theorem Vals.dropLast{xs:List V}{us:List Value}(h:Vals xs us):Vals xs.dropLast us.dropLast:=by
 induction h with
 | nil=>exact .nil
 | cons r t ih =>
  cases t with
  | nil=>exact .nil
  | cons q t'=>exact .cons r ih
theorem Vals.rep{xs:List V}{us:List Value}(h:Vals xs us):∀k:Nat,Vals (List.replicate k xs).flatten (List.replicate k us).flatten
 | 0=>.nil
 | k+1=>by
  rw[List.replicate_succ,List.replicate_succ,List.flatten_cons,List.flatten_cons]
  exact Vals.append h (Vals.rep h k)
theorem yS8{α:Type}(l:List α):l.eraseIdx (l.length-1)=l.dropLast:=by
 induction l with
 | nil=>rfl
 | cons a r ih =>
  cases r with
  | nil=>rfl
  | cons b r =>
   have e:(a::b::r).length-1=((b::r).length-1)+1:=by
    have h1:(a::b::r).length=r.length+2:=rfl
    have h2:(b::r).length=r.length+1:=rfl
    rfl'
   rw[e,List.eraseIdx_cons_succ,ih]
   all_goals rfl
section
variable {X:Cx}{DJ:List (Addr×Obj)}{σ:St}{H:Hp}{s:Shared}{l b:Addr}{xs ys zs:List V}
theorem Inv.lset{its its':List Value}{n:Nat}{f:Array Value->Array Value}{t':Nat}(I:Inv X DJ σ H s)(hH:H l=some (.lst xs))
  (e:s.heap.get? l=some { cls:=.type "list",data:=.seq its.toArray n }) (hf:f its.toArray=its'.toArray) (hv:Vals ys its') (hz:ys.length<=sizeLine) :
  Inv X DJ σ (upd H l (.lst ys)) { s with heap:=s.heap.update l (Obj.mapSeq f),toks:=t' }:=by
 have q:=Dl e f
 rw[hf] at q
 refine I.write (x:=l) (e:=l) (by rw[hH];exact trivial) (.inl rfl) (fun b' u hb hu=>(AE s.heap (Obj.mapSeq f) (AX hb)).trans hu) ⟨_,q⟩ ?_
 exact⟨hz,its',_,hv,q⟩
theorem Inv.lnew{its:List Value}{t':Nat}(I:Inv X DJ σ H s)(hv:Vals ys its)(hz:ys.length<=sizeLine) :
  Inv X DJ σ (upd H s.heap.objs.size (.lst ys)) { s with heap:=s.heap.push { cls:=.type "list",data:=.seq its.toArray },toks:=t' } :=
 I.laid (fun _ _ q=>An _ q) (Al _) ⟨hz,its,0,hv,AH _ rfl⟩
theorem Inv.fresh(I:Inv X DJ σ H s):H s.heap.objs.size=none:=I.hok.fresh (Al _)
theorem Inv.lstM(I:Inv X DJ σ H s)(hH:H l=some (.lst xs)):xs.length<=sizeLine/\∃(its:List Value) (n:Nat),Vals xs its/\xs.length=its.length/\s.heap.get? l=some { cls:=.type "list",data:=.seq its.toArray n }:=by
 obtain⟨z,its,n,r,e⟩:=I.hok l _ hH
 exact⟨z,its,n,r,r.length,e⟩
end
section
variable {X:Cx}
def rAppend:V->List V->Hp->VK->Prop:=fun x vs H Q=>∃l xs y,x=.ref l/\vs=[y]/\H l=some (.lst xs)/\xs.length<sizeLine/\Q .non (upd H l (.lst (xs ++ [y])))
theorem vN:MtM X "list.append" rAppend:=by
 intro DJ s σ H x vs v us Q I rx rv h
 obtain⟨l,xs,y,rfl,rfl,hH,hz,q⟩:=h
 cases rx
 obtain⟨u,rfl,ru⟩:=rv.one
 obtain⟨z,its,n,r,hl,e⟩:=I.lstM hH
 refine call_meets CU ⟨_,e,rfl⟩ CO (CF _ _) (Da l its.toArray n u (by rw[AC];rfl')) ⟨e,?_⟩
 refine⟨.non,_,I.lset (its':=its ++ [u]) hH e (by simp) (r.append (.cons ru .nil)) ?_,rfl,q⟩
 rw[Af,Bt]
 rfl'
def rPop:V->List V->Hp->VK->Prop:=fun x vs H Q=>∃l xs y,x=.ref l/\vs=[]/\H l=some (.lst xs)/\xs[xs.length-1]?=some y/\Q y (upd H l (.lst xs.dropLast))
theorem xP2:MtM X "list.pop" rPop:=by
 intro DJ s σ H x vs v us Q I rx rv h
 obtain⟨l,xs,y,rfl,rfl,hH,hy,q⟩:=h
 cases rx
 have hus:=rv.zero
 subst hus
 obtain⟨z,its,n,r,hl,e⟩:=I.lstM hH
 obtain⟨u,hu,ru⟩:=r.get hy
 have hy':its.toArray[its.toArray.size-1]?=some u:=by
  show its.toArray[its.length-1]?=some u
  rw[<-Array.getElem?_toList,<-hl]
  exact hu
 refine call_meets F.slot_list_pop ⟨_,e,rfl⟩ F.entry_list_pop (F.args_list_pop_1 _) (MeetsSeq.list_pop_last l its.toArray n u hy' (by rw[AC];rfl')) ⟨e,?_⟩
 refine⟨y,_,I.lset (its':=its.dropLast) hH e ?_ r.dropLast ?_,ru,q⟩
 ·show its.toArray.eraseIdxIfInBounds (its.toArray.size-1)=its.dropLast.toArray
  rw[AC,List.eraseIdxIfInBounds_toArray,yS8]
 ·rw[List.length_dropLast]
  rfl'
end
section
variable {prog:Program}{w:World}{A:Around}{E:Value->Shared->Prop}{s:Shared}
end
section
variable {X:Cx}
end
end L2
namespace Att
open PySem PySem.W PySem.Calls PyProof.Rows
theorem zS1{P:Params}{h:Heap}:∀(ns:List Int) (vs:List Value),WellAll P h vs (ns.map WData.int)->IntsAre vs ns:=by
 intro ns
 induction ns with
 | nil =>
  intro vs w
  rw[List.map_nil] at w
  cases w
  exact .nil
 | cons n ns ih =>
  intro vs w
  rw[AI] at w
  cases w with
  | cons a b =>
   cases a
   exact .cons _ _ (ih _ b)
theorem yI1{l:OpenLaw}{n:Nat}(hn:l.most=some n){P:Params}{h:Heap}{args:List WData}{vals:List Value}
  (hpre:l.row.toRowW.claim.pre args=true) (hwl:WellAll P h vals args) :
  ∃a vs ns,vals=[Value.ref a]/\args=[WData.list (ns.map WData.int)]/\h.get? a=some { cls:=.type "list",data:=.seq vs.toArray }/\IntsAre vs ns/\ns.length<=n:=by
 have hsh:WShape.hasAll [] args [.list .int]=true:=(pre_splitW hpre).1
 have hc:l.pre.holds [] { args:=args }=true:=(pre_splitW hpre).2
 obtain⟨d,r,rfl,h1,h2⟩:=hasAllW_cons hsh
 obtain rfl:=hasAllW_nil h2
 obtain⟨xs,rfl,h3⟩:=hasW_list h1
 obtain⟨ns,rfl⟩:=items_int h3
 have hlen:ns.length<=n:=by
  unfold OpenLaw.pre at hc
  have h4:(WTm.not (.lt (.lit (.int (n:Int))) (.len (.arg 0)))).holds [] { args:=[.list (ns.map .int)] }=true:=by
   have h4:=(holds_andW hc).1
   rw[hn] at h4
   exact h4
  have h5:=condW_of h4 (w_not (w_lt w_lit (w_len_list (w_arg rfl))))
  rw[Ac] at h5
  refine Nat.le_of_not_lt fun q => ?_
  have q':(n:Int)<((ns.length:Nat):Int):=by rfl'
  first
   | (rw[Aa q'] at h5;exact absurd h5 (by decide))
   | (simp at h5;rfl')
 cases hwl with
 | cons w1 w2 =>
  cases w2
  cases w1 with
  | list ho hall=>exact⟨_,_,ns,rfl,rfl,ho,zS1 ns _ hall,hlen⟩
theorem yI4(l:OpenLaw)(args:List WData):l.row.toRowW.claim.post args (.bool true) args=true :=
 postW_of (r:=l.row.toRowW) (X:=(true == true))
  (show WShape.has [] (.bool true) .bool=true by first | rfl | decide | simp[WShape.has,WShape.arms,WShape.armsAll])
  (show (WTm.eq .res (.lit (.bool true))).value [] { args:=args,res:=some (.bool true),after:=args }=some (.bool (true == true)) from w_eq_bool (w_res rfl) w_lit) rfl
theorem zB8{l:OpenLaw}{n:Nat}{q:Program}{loose:List Str}{XP:(Str->Option Value)->Heap->Prop}{YP:World->Heap->Prop}{d:DefRec}
  (hn:l.most=some n) (hdf:d.params.defaults=[])
  (call:∀(w:World) (s₀ s₁:Shared) (mg mb:Str->Option Value) (fa:Addr) (o:Obj) (pm cd doc:Value) (a:Addr) (vs:List Value) (ns:List Int),
   Ground q loose [] XP w s₀ mg mb s₁.heap->YP w s₁.heap ->
   s₁.heap.get? fa=some o->o.data=.func (docDef d.name d.params d.body d.scope pm cd doc)->s₁.heap.CodeRec cd d.name->mg d.name=some (.ref fa) ->
   s₁.heap.get? a=some { cls:=.type "list",data:=.seq vs.toArray }->IntsAre vs ns->ns.length<=n->s₁.gens=#[] ->
   codeAny (model l.prog w) callerA (.call (.ref fa) ⟨[.ref a],[]⟩) (fun r s'=>r=.ok (.ret (.bool true))/\OldK s₁.heap s'.heap/\s'.os=s₁.os/\AllBare s'.gens) s₁) :
  WalkO q loose XP YP l.row.toRowW d [] (fun f vs=>PySem.call f vs):=by
 intro w s₀ s₁ mg mb G Y fa o pm cd doc dV kV ho hd hcd hD hmg hg args vals as hpre hlay hrd hwl hlo
 obtain rfl:dV=.none:=Dflts.none hD hdf
 obtain rfl:kV=.none:=Dflts.noKw hD
 obtain⟨a,vs,ns,rfl,rfl,hobj,hints,hlen⟩:=yI1 hn hpre hwl
 refine enter_call (codeAny_mono (call w s₀ s₁ mg mb fa o pm cd doc a vs ns G Y ho (fd_plain hd) hcd hmg hobj hints hlen hg) fun r s' hq => ?_)
 obtain⟨rfl,h2,h3,h4⟩:=hq
 exact⟨.inl ⟨.bool true,.bool true,[],rfl,fun _=>rfl,.bool true,yI4 l _,fun _=>⟨List.Pairwise.nil,fun _ hm=>(nomatch hm)⟩⟩,h2,h3,h4⟩
section
variable {prog:Program}{w:World}{A:Around}{E:Value->Shared->Prop}{s:Shared}{K:Frag}
end
end Att
namespace L2
open PySem PySem.Spec PyProof.Rows
theorem zL1:∀{vs:List Value}{ns:List Int},IntsAre vs ns->Vals (ns.map V.int) vs
 | _,_,.nil=>.nil
 | _,_,.cons n t h=>.cons ⟨t,rfl⟩ (zL1 h)
def Only(H:Hp):Prop:=∀b,H b=none\/∃o xs,H b=some (.frz o (.lst xs))
theorem yA1{P:Program}{w:World}{K:KFr}{mg mb:Str->Option Value}{CX:CXT}{k:Nat}{fa a:Addr}{fd:FuncData}{x:Str}{sp:Sp}{s₁:Shared}{vs:List Value}{ns:List Int}
  (KX:K.In s₁.heap) (hns:s₁.heap.Ns mainGlobals mg) (hb:s₁.heap.Ns builtinsNs mb) (hbb:∀x:Str,x ≠ "__name__"->mb x=bootBuiltins x) (hlim:s₁.heap.NoLimit) (hg:s₁.gens=#[])
  (ha:s₁.heap.get? a=some { cls:=.type "list",data:=.seq vs.toArray }) (hi:IntsAre vs ns) (hl:ns.length<=sizeLine) (hr:Room k callerA)
  (F:∀base:Heap,K.In base->base.Ns mainGlobals mg->FnOk P w K mg base CX k fa fd [x] sp) (hbind:∀(s:Shared) (u:Value),BindsTo s fd ⟨[u],[]⟩ [(x,u)])
  (hsp:∀H:Hp,Only H->SqL K H a (ns.map V.int)->sp [.ref a] H (fun v _=>v=.bl true) fun _ _ _=>False)
  (hCX:∀H e s',CX [] H s₁ (fun _ _ _=>False) e s'->False) :
  codeAny (model P w) callerA (.call (.ref fa) ⟨[.ref a],[]⟩) (fun r s'=>r=.ok (.ret (.bool true))/\OldK s₁.heap s'.heap/\s'.os=s₁.os/\AllBare s'.gens) s₁:=by
 have rv:=zL1 hi
 have lenV:=hi.length
 have core:∀H:Hp,Only H->SqL K H a (ns.map V.int)->HOk P w H s₁.heap->(∀b,H b≠none->b=a)->(H a≠none->K.lookup a=none) ->
   codeAny (model P w) callerA (.call (.ref fa) ⟨[.ref a],[]⟩) (fun r s'=>r=.ok (.ret (.bool true))/\OldK s₁.heap s'.heap/\s'.os=s₁.os/\AllBare s'.gens) s₁:=by
  intro H hO hS hok hA hK
  have base_of:∀{b:Addr}{o:Obj},s₁.heap.get? b=some o->H b=none->(hidT s₁.heap H).get? b=some o:=fun e n=>yG6 e n
  have noA:∀{b:Addr}{o:Obj}{es:Array DictEntry}{ep:Nat},s₁.heap.get? b=some o->o.data=.dict es ep->H b=none:=fun {b o es ep} e d=>by
   cases q:H b with
   | none=>rfl
   | some u =>
    have e':b=a:=hA b (by rw[q];simp)
    subst e'
    rw[ha] at e;cases e
    have d':Data.seq vs.toArray _=Data.dict es ep:=d
    cases d'
  have nsK:∀{b:Addr}{m:Str->Option Value},s₁.heap.Ns b m->(hidT s₁.heap H).Ns b m:=fun {b m} ⟨o,es,ep,e,d,r⟩=>⟨o,es,ep,base_of e (noA e d),d,r⟩
  have hKb:K.In (hidT s₁.heap H):=fun b o e=>base_of (KX b o e) (by
   cases q:H b with
   | none=>rfl
   | some u =>
    have e':b=a:=hA b (by rw[q];simp)
    subst e'
    rw[hK (by rw[q];simp)] at e;cases e)
  have hM:Mod K mg (hidT s₁.heap H):=⟨hKb,nsK hns,⟨mb,nsK hb,hbb⟩,let ⟨mc,h1,h2⟩:=hlim; ⟨mc,nsK h1,h2⟩⟩
  have e0:Env0 P w K mg (hidT s₁.heap H) callerA [] s₁ H:=⟨rfl,hM,fun b o e=>xU5 e,Nat.le_of_eq (yM8 _ _),trivial,fun b hb=>absurd (show b∈([]:List Addr) from hb) (by simp),hok,.of_eq hg⟩
  refine codeAny_mono ((F _ hKb (nsK hns)).run callerA [] s₁ H ⟨[.ref a],[]⟩ [.ref a] [.ref a] _ _ hr e0 (hbind s₁ (.ref a)) (.cons rfl .nil) (hsp H hO hS)) fun r s' h => ?_
  cases r with
  | error e=>exact (hCX H e s' h).elim
  | ok fl =>
   cases fl with
   | next=>exact False.elim h
   | brk=>exact False.elim h
   | cont=>exact False.elim h
   | ret u =>
    obtain⟨v,H',os,bare,un,hok',r',q⟩:=h
    have q':v=.bl true:=q
    subst q'
    obtain rfl:u=Value.bool true:=r'
    refine⟨rfl,OldK.of_keep fun b o e => ?_,os,bare⟩
    cases q:H b with
    | none=>exact un.keep b o e q (by intro z;exact absurd (show b∈([]:List Addr) from z) (by simp)) (by simp)
    | some u =>
     rcases hO b with z | ⟨ob,xs,z⟩
     ·rw[q] at z;cases z
     ·have z2:=un.frzs b ob _ z
      obtain⟨e1,_⟩:=hok b _ z
      obtain⟨e2,_⟩:=hok' b _ z2
      rw[e] at e1;cases e1
      exact e2
 cases hk:K.lookup a with
 | some o =>
  have e:=KX a o hk
  rw[ha] at e
  cases e
  refine core (fun _=>none) (fun _=>.inl rfl) (.inr ⟨_,vs.toArray,_,hk,rfl,rfl,rfl,by rw[AC,lenV];exact hl,by simpa using rv⟩) (fun b u z=>by have z':(none:Option HO)=some u:=z;cases z') (fun b z=>absurd rfl z) fun z=>absurd rfl z
 | none =>
  refine core (fun b=>if b=a then some (.frz { cls:=.type "list",data:=.seq vs.toArray } (.lst (ns.map V.int))) else none) (fun b => ?_) (.inl (.inr ⟨{ cls:=.type "list",data:=.seq vs.toArray },Ak rfl⟩)) (fun b u z => ?_) (fun b z => ?_) fun _=>hk
  ·by_cases hb:b=a
   ·exact .inr ⟨_,_,Ak hb⟩
   ·exact .inl (Ax hb)
  ·by_cases hb:b=a
   ·have z':=(Ak hb).symm.trans z
    cases z'
    subst hb
    exact⟨ha,by rw[Ac];exact hl,vs,_,rv,ha⟩
   ·have z':=(Ax hb).symm.trans z
    cases z'
  ·by_cases hb:b=a
   ·exact hb
   ·exact absurd (Ax hb) z
abbrev KOf{K:KFr}{h:Heap}(_:K.In h):KFr:=K
theorem xV8{l:PySem.W.OpenLaw}{n k:Nat}{q:Program}{loose:List Str}{XP:(Str->Option Value)->Heap->Prop}{YP:World->Heap->Prop}{d:DefRec}{K:Params->KFr}{CX:World->CXT}{sp:World->Sp}{x:Str}
  (hn:l.most=some n) (hn2:n<=sizeLine) (hdf:d.params.defaults=[]) (hr:Room k callerA)
  (hY:∀(w:World) (h:Heap),YP w h->(K w.params).In h)
  (F:∀(w:World) (mg:Str->Option Value) (fa:Addr) (h:Heap),(K w.params).In h->h.Ns mainGlobals mg->mg d.name=some (.ref fa) ->
   ∃fd:FuncData,(∀(s:Shared) (u:Value),BindsTo s fd ⟨[u],[]⟩ [(x,u)]) /\
    ∀base:Heap,(K w.params).In base->base.Ns mainGlobals mg->FnOk l.prog w (K w.params) mg base (CX w) k fa fd [x] (sp w))
  (hsp:∀(w:World) (H:Hp) (a:Addr) (ns:List Int),ns.length<=n->Only H->SqL (K w.params) H a (ns.map V.int)->sp w [.ref a] H (fun v _=>v=.bl true) fun _ _ _=>False)
  (hCX:∀(w:World) (H:Hp) (s:Shared) (e:Value) (s':Shared),CX w [] H s (fun _ _ _=>False) e s'->False) :
  PySem.W.WalkO q loose XP YP l.row.toRowW d [] (fun f vs=>PySem.call f vs):=by
 refine Att.zB8 hn hdf fun w s₀ s₁ mg mb fa o pm cd doc a vs ns G Y ho hd hcd hmg hobj hints hlen hg => ?_
 have KX:=hY w _ Y
 obtain⟨fd,hb,hF⟩:=F w mg fa _ KX G.T.g hmg
 exact yA1 KX G.T.g G.T.b G.T.builtins G.T.nolimit hg hobj hints (AJ hlen hn2) hr hF hb (fun H hO hS=>hsp w H a ns hlen hO hS) fun H e s'=>hCX w H s₁ e s'
def defArgs(s:Stmt):Arguments:=match s with
 | .FunctionDef _ a _ _ _ _ _ _ _ _=>a
 | _=>{ posonlyargs:=[],args:=[],vararg:=none,kwonlyargs:=[],kw_defaults:=[],kwarg:=none,defaults:=[] }
def defBody(s:Stmt):List Stmt:=match s with
 | .FunctionDef _ _ b _ _ _ _ _ _ _=>b
 | _=>[]
def zR(s:Stmt):Scope:=match s with
 | .FunctionDef _ _ _ _ _ _ sc _ _ _=>sc
 | _=>{ kind:=.function,names:=[],isGenerator:=false,isCoroutine:=false }
abbrev CX0:CXT:=fun _ _ _ _ _ _=>False
abbrev E0:XK:=fun _ _ _=>False
theorem pass0{X:Cx}:Passes CX0 X E0:=fun _ _ _ _ _ _ _ h=>h.elim
structure Fun(K:KFr)(x qual:Str)(st:Stmt)(f:Addr)(fd:FuncData):Prop where
 ex:∃(oc:Value) (od:Option Addr) (kV doc pm:Value) (an:Option Addr) (cdv ct:Value) (osl:Array (Option Value)),
  fd=PySem.W.fnOf x qual (defArgs st) (defBody st) (zR st) .none kV doc pm an cdv ct/\K.lookup f=some ⟨oc,od,.func fd,osl⟩/\PySem.W.codeIn K cdv qual=true
 kp:PySem.W.keepIn K (.ref f)=true
section
variable {P:Program}{w:World}{K:KFr}{mg:Str->Option Value}{base:Heap}
theorem Fun.ok{x qual:Str}{st:Stmt}{f:Addr}{fd:FuncData}{N ps:List Str}{k:Nat}{sp:Sp}(F:Fun K x qual st f fd)(S:yX N ps (zR st))(len:∀vs H Q E,sp vs H Q E->vs.length=ps.length)
  (hbody:∀(cdv:Value) (A:Around) (outer:List Env) (s:Shared) (H:Hp) (vs:List V) (Q:VK) (E:XK),Room k (A.deeper (envOfC qual (zR st) s.heap.objs.size f cdv))->sp vs H Q E ->
   ∃t,PSs (cxOf CX0 P w K mg base N qual (zR st) f cdv A outer s H E).nox (defBody st) t/\t { nx:=fun _ H'=>Q .non H',rt:=Q } (start N vs) H):FnOk P w K mg base CX0 (k+1) f fd ps sp:=by
 obtain⟨oc,od,kV,doc,pm,an,cdv,ct,osl,rfl,lk,hcd⟩:=F.ex
 refine yT4 lk hcd S len fun A outer s H vs Q E hr hsp => ?_
 obtain⟨t,h,q⟩:=hbody cdv A outer s H vs Q E hr hsp
 exact⟨t,h.nox,q⟩
theorem Fun.binds{x qual:Str}{st:Stmt}{f:Addr}{fd:FuncData}{ps:List Str}(F:Fun K x qual st f fd)
  (h:∀(kV doc pm:Value) (an:Option Addr) (cdv ct:Value) (us:List Value),us.length=ps.length->bindArgs (PySem.W.fnOf x qual (defArgs st) (defBody st) (zR st) .none kV doc pm an cdv ct) ⟨us,[]⟩=pure (ps.zip us)):Binds K fd ps []:=by
 obtain⟨oc,od,kV,doc,pm,an,cdv,ct,osl,rfl,lk,hcd⟩:=F.ex
 exact .all (h kV doc pm an cdv ct)
theorem yP3{x qual:Str}{st:Stmt}{f:Addr}{oc:Value}{od an:Option Addr}{osl:Array (Option Value)}{kV doc pm cdv ct:Value}(l:K.lookup f=some ⟨oc,od,.func (PySem.W.fnOf x qual (defArgs st) (defBody st) (zR st) .none kV doc pm an cdv ct),osl⟩)
  (c:PySem.W.codeIn K cdv qual=true) (k:PySem.W.keepIn K (.ref f)=true):Fun K x qual st f (PySem.W.fnOf x qual (defArgs st) (defBody st) (zR st) .none kV doc pm an cdv ct):=⟨⟨oc,od,kV,doc,pm,an,cdv,ct,osl,rfl,l,c⟩,k⟩
end
theorem small1000{n:Nat}(h:n<=1000):n<sizeLine:=CV h (by decide)
section
variable {X:Cx}
theorem pv(i:Nat){x:Str}{pos:Pos}(hN:autoParam (X.N[i]?=some x) DI)(hv:autoParam (Vis X.env.scope x) aJ._auto_1)(hd:autoParam ((x == ("__debug__":Str))=false) DH)
  (hcd:autoParam ((x == ("__classdict__":Str))=false) DH):PE X (.Name x pos) (tVar i):=bB hN hv hd hcd
end
theorem iteF{A B:Prop}(h:B):if false=true then A else B:=by
 rw[Ax Ap]
 exact h
theorem iteT{A B:Prop}(h:A):if true=true then A else B:=by
 rw[Ak rfl]
 exact h
def Same(H H':Hp):Prop:=∀b o,H b=some o->H' b=some o
theorem Same.refl(H:Hp):Same H H:=fun _ _ h=>h
theorem Same.trans{H H1 H2:Hp}(a:Same H H1)(b:Same H1 H2):Same H H2:=fun c o h=>b c o (a c o h)
theorem Same.free{H H':Hp}(e:Same H H'){l:Addr}(h:H' l=Option.none):H l=Option.none:=by
 cases q:H l with
 | none=>rfl
 | some o =>
  rw[e l o q] at h
  cases h
end L2
set_option maxHeartbeats 2000000
namespace PySem
section
variable {prog:Program}{w:World}{A:Around}{E:Value->Shared->Prop}{s:Shared}
theorem zD7{l:Addr}{its:Array Value}{P:Value->Shared->Prop}(hh:A.handled=none)(hl:s.heap.IsTuple l its)
  (k:∀(I:Addr) (hp:Heap) (St:Nat->Heap->Prop),Walks prog w A I [I,l] [I] its.size (fun i v=>its[i]?=some v) St->St 0 hp->I<hp.objs.size->l<hp.objs.size->(∀b o,s.heap.get? b=some o->b≠I/\hp.get? b=some o)->P (.ref I) { s with heap:=hp }) :
  wpAny (model prog w) A (pyIter (.ref l)) P E s:=by
 have on:∀{b:Addr}{o:Obj},s.heap.get? b=some o->b<s.heap.objs.size:=fun g=>Am g
 have ll:l<s.heap.objs.size:=let ⟨_,g,_⟩:=hl;on g
 refine wpAny_pyIter_tuple hl (k _ _ _ (Walks.tuple hh _ l (AL ll) its) ⟨⟨_,AH _ rfl,rfl,rfl⟩,hl.at fun _ g=>An _ g⟩ ?_ ?_ fun b o g=>⟨AL (on g),An _ g⟩)
 ·exact Nat.lt_of_lt_of_eq (CK _) (CG ..).symm
 ·exact Nat.lt_of_lt_of_eq (Nat.lt_succ_of_lt ll) (CG ..).symm
theorem zE5{it:Addr}{P:Value->Shared->Prop}(ty:s.TypeIs (.ref it) "tuple_iterator")
  (k:wpAny (model prog w) A.in1 (Builtin.«tuple_iterator.__next__» ⟨[.ref it],[]⟩) (fun f x=>∃v,f=.done (.ret v)/\P v x) E s):wpAny (model prog w) A (Builtin.SmallTypes.nextOf (.ref it)) P E s:=by
 have sl:=F.slot_tuple_iterator_next
 have en:=F.entry_tuple_iterator_next
 have ok:=F.args_tuple_iterator_next_1 (.ref it)
 have c:wpAny (model prog w) A (call (.builtin "tuple_iterator.__next__") [.ref it]) P E s:=wpAny_call_entry sl ty en k ok
 unfold Builtin.SmallTypes.nextOf
 exact Ab (wpAny_callSpecial?_slot ty sl (wpAny_mono c (fun v x z=>Ao z) fun _ _ z=>z))
section
variable {it t:Addr}{i:Nat}{its:Array Value}
theorem yF4{v:Value}{P:Value->Shared->Prop}(hI:s.heap.IsTupleIter it t i)(hT:s.heap.IsTuple t its)(at_:its[i]?=some v)
  (k:∀h',h'.IsTupleIter it t (i+1)->Heap.SameBut it s.heap h'->P v { s with heap:=h' }):wpAny (model prog w) A (Builtin.SmallTypes.nextOf (.ref it)) P E s:=by
 refine zE5 hI.typeIs ?_
 obtain⟨o,a1,a2,a3⟩:=hI
 obtain⟨ot,b1,b2,n,b3⟩:=hT
 have f0:∀(P:Value->Shared->Prop) (E':Value->Shared->Prop),P (.ref t) s->wpAny (model prog w) A.in1 (field (.ref it) 0) P E' s:=fun P E' p=>wpAny_field a1 a3 rfl p
 have f1:∀(P:Value->Shared->Prop) (E':Value->Shared->Prop),P (.int i 0) s->wpAny (model prog w) A.in1 (field (.ref it) 1) P E' s:=fun P E' p=>wpAny_field a1 a3 rfl p
 have at':its[(i:Int).toNat]?=some v:=at_
 wp_walk using f0,f1,wpAny_seqItems b1 b3,wpAny_setField a1 a3
 rw[at']
 refine Ab (wpAny_setField a1 a3 (by simp) (Ao ⟨v,rfl,k _ ⟨_,Bf _ a1 ?_,?_,?_⟩ (Heap.SameBut.update ..)⟩))
 ·exact BP (Bp a3 _)
 ·rw[Obj.cls_mapFields,a2]
 ·rw[Bp a3];rfl
theorem yY2{P:Value->Shared->Prop}(hA:A.handled=none)(hI:s.heap.IsTupleIter it t i)(hT:s.heap.IsTuple t its)(at_:its[i]?=none)
  (k:∀h' e,Heap.ExtBut it s.heap h'->(∃o,h'.get? e=some o/\o.cls=.type "StopIteration")->E (.ref e) { s with heap:=h' }):wpAny (model prog w) A (Builtin.SmallTypes.nextOf (.ref it)) P E s:=by
 refine zE5 hI.typeIs ?_
 obtain⟨o,a1,a2,a3⟩:=hI
 obtain⟨ot,b1,b2,n,b3⟩:=hT
 have f0:∀(P:Value->Shared->Prop) (E':Value->Shared->Prop),P (.ref t) s->wpAny (model prog w) A.in1 (field (.ref it) 0) P E' s:=fun P E' p=>wpAny_field a1 a3 rfl p
 have f1:∀(P:Value->Shared->Prop) (E':Value->Shared->Prop),P (.int i 0) s->wpAny (model prog w) A.in1 (field (.ref it) 1) P E' s:=fun P E' p=>wpAny_field a1 a3 rfl p
 have at':its[(i:Int).toNat]?=none:=at_
 have hA':A.in1.handled=none:=hA
 wp_walk using f0,f1,wpAny_seqItems b1 b3,wpAny_setField a1 a3,wpAny_raiseNew_none hA'
 rw[at']
 refine Ab (wpAny_rule (Ab (wpAny_setField a1 a3 (by simp) ?_)))
 unfold Builtin.SmallTypes.stopIteration
 wp_walk using wpAny_raiseNew_none hA'
 exact k _ _ (((Heap.SameBut.update ..).extBut.push _).push _) ⟨_,AH _ rfl,rfl⟩
end
theorem bG{M:Model}{scope:Scope}{g bi:Addr}{cl:List (Str×Addr)}{qual:Str}{cd:Value}{outer:Env}{P:Value->Env->Shared->Prop}(nocell:∀y∈scope.names,y.2 ≠ .cell)(kind:scope.kind=.function)
  (k:∀(D C:Addr) (hp:Heap) (m:Str->Option Value),s.heap.objs.size<=D->s.heap.objs.size<=C->D≠C->(∀b o,s.heap.get? b=some o->hp.get? b=some o)->hp.get? D=some { cls:=.type "list",data:=.seq #[] }->hp.Ns C m->P (.ref D) (newEnv scope C g cl qual none cd (some outer) bi) { s with heap:=hp }) :
  wpAny M A (newList []) (fun acc x=>wpAny M A (newFunctionEnv scope g cl [] qual none cd (some outer) bi) (fun e y=>P acc e y) E x) E s:=by
 unfold newList
 refine wpAny_newObj_type (wpAny_newFunctionEnv nocell (fun _ z=>nomatch z) (fun hp ns sb => ?_) kind)
 have z:(s.heap.push { cls:=.type "list",data:=.seq #[] }).objs.size=s.heap.objs.size+1:=CG ..
 have up:∀b o,(s.heap.push { cls:=.type "list",data:=.seq #[] }).get? b=some o->hp.get? b=some o:=fun b o q=>sb.extBut b o (AL (Am q)) (An _ q)
 exact k _ _ hp _ (Al _) (by show _<=(s.heap.push _).objs.size;rw[CG];rfl') (by show _≠(s.heap.push _).objs.size;rw[CG];rfl') (fun b o q=>up b o (An _ q)) (up _ _ (AH _ rfl)) ns
theorem xS7{x:Value}{oI:Obj}{Q:Value->Shared->Prop}(alive:oI.isFreed=false)(it:∀(B:Around) (P E':Value->Shared->Prop),P (.ref s.heap.objs.size) { s with heap:=s.heap.push oI }->wpAny (model prog w) B (pyIter x) P E' s)
  (k:∀h',IsEnum h' (s.heap.objs.size+1) s.heap.objs.size 0 .none->h'.get? s.heap.objs.size=some oI->(∀b o,s.heap.get? b=some o->h'.get? b=some o)->Q (.ref (s.heap.objs.size+1)) { s with heap:=h' }):wpAny (model prog w) A (call (.type "enumerate") [x]) Q E s:=by
 refine callType_newIn F.called_enumerate (by decide) (F.typeCall_enumerate_1 _) (F.newCall_enumerate_1 _) (fun o=>F.args_object_init_2 o _) F.entry_enumerate_new
  (S:=fun B R t=>t=s/\B=A.in1/\R=wants (fun v y=>y.TypeIs v "enumerate"/\Q v y) E) (.of_wp fun B R t h => ?_) ⟨rfl,rfl,rfl⟩
 obtain⟨rfl,rfl,rfl⟩:=h
 have u:=sub_enumerate
 have sz:(t.heap.push oI).objs.size=t.heap.objs.size+1:=CG ..
 have fin:∀v:Value,v=.ref (t.heap.push oI).objs.size->Q v { t with heap:=(t.heap.push oI).push { cls:=.type "enumerate",data:=.fields #[.none,.bool false,.ref t.heap.objs.size,rawInt 0,.none,.none] } }:=fun v e=>by
  subst e
  rw[sz]
  exact k _ (by rw[<-sz];exact AH _ rfl) (An _ (AH _ alive)) fun b o g=>An _ (An _ g)
 wp_walk
 refine wpAny_stack_any (fun st=>Ao ?_)
 split
 ·generalize (_ == Value.type "enumerate")=b
  cases b
  all_goals
   wp_walk using it A.in1.in1
   exact⟨_,rfl,⟨_,AH _ rfl,rfl⟩,fin _ rfl⟩
 ·wp_walk using it A.in1.in1
  exact⟨_,rfl,⟨_,AH _ rfl,rfl⟩,fin _ rfl⟩
end
end PySem
set_option maxHeartbeats 2000000
namespace PySem
section
variable {prog:Program}{w:World}{A:Around}{E:Value->Shared->Prop}{s:Shared}
end
end PySem
namespace L2
open PySem PySem.Spec PyProof.Rows
theorem HOk.track{P:Program}{w:World}{H:Hp}{h:Heap}{a:Addr}{o:HO}(x:HOk P w H h)(hn:H a=none)(new:ObjOk P w (upd H a o) h a o):HOk P w (upd H a o) h:=fun b u e=>by
 by_cases hb:b=a
 ·subst hb;rw[zO] at e;cases e;exact new
 ·rw[zM hb] at e
  exact (x b u e).stay (fun c v _ q=>q) (fun c q=>by rw[zM (xK q hn)];exact q) fun c xs q=>by rw[zM (xK q hn)];exact q
def clos(cells:List (Str×Addr)):List (Str×NameKind)->List (Str×Addr)->List (Str×Addr)
 | [],acc=>acc
 | (n,k)::r,acc=>if k == .free then clos cells r ((n,(cells.lookup n).getD 0)::acc) else clos cells r acc
theorem qN{env:Env}:∀(names:List (Str×NameKind)) (acc:List (Str×Addr)),(∀n,(n,NameKind.free)∈names->∃c,env.cells.lookup n=some c) ->
  (forIn names acc fun (x:Str×NameKind) (r:List (Str×Addr))=>(do
   let (name,kind):=x
   if kind == .free then do
    let c <-cellOf env name
    pure (ForInStep.yield ((name,c)::r))
   else pure (ForInStep.yield r):Sem (ForInStep (List (Str×Addr)))))=pure (clos env.cells names acc)
 | [],acc,_=>rfl
 | (n,k)::r,acc,h=>by
  rw[List.forIn_cons]
  by_cases hk:(k == NameKind.free)=true
  ·have ek:k=NameKind.free:=by simpa using hk
   obtain⟨c,hc⟩:=h n (by rw[ek];exact Ae)
   have e1:cellOf env n=pure c:=by unfold cellOf;rw[hc]
   simp only[hk,if_true,e1,pure_bind]
   rw[qN r _ fun m hm=>h m (Ai _ hm)]
   show _=pure (if (k == NameKind.free)=true then clos env.cells r ((n,(env.cells.lookup n).getD 0)::acc) else clos env.cells r acc)
   rw[Ak hk,hc]
   rfl
  ·simp only[hk,if_false,pure_bind,AF]
   rw[qN r _ fun m hm=>h m (Ai _ hm)]
   show _=pure (if (k == NameKind.free)=true then clos env.cells r ((n,(env.cells.lookup n).getD 0)::acc) else clos env.cells r acc)
   rw[Ax hk]
theorem jD{scope:Scope}{env:Env}(h:∀n,(n,NameKind.free)∈scope.names->∃c,env.cells.lookup n=some c):closureFor scope env=pure (clos env.cells scope.names []):=by
 unfold closureFor
 have:=qN (env:=env) scope.names [] h
 simp only[] at this ⊢
 rw[show (forIn scope.names ([]:List (Str×Addr)) fun (x:Str×NameKind) (r:List (Str×Addr))=>(do
   if x.2 == .free then do
    let c <-cellOf env x.1
    pure (ForInStep.yield ((x.1,c)::r))
   else pure (ForInStep.yield r):Sem (ForInStep (List (Str×Addr)))))=pure (clos env.cells scope.names []) from this]
 rfl
theorem cV{cells:List (Str×Addr)}:∀(names:List (Str×NameKind)) (acc:List (Str×Addr)),(∀n,(n,NameKind.free)∈names->∃c,cells.lookup n=some c)->(∀x c,acc.lookup x=some c->cells.lookup x=some c) ->
  ∀x c,(clos cells names acc).lookup x=some c->cells.lookup x=some c
 | [],acc,_,ha,x,c,e=>ha x c e
 | (n,k)::r,acc,h,ha,x,c,e=>by
  unfold clos at e
  by_cases hk:(k == NameKind.free)=true
  ·rw[Ak hk] at e
   have ek:k=NameKind.free:=by simpa using hk
   obtain⟨d,hd⟩:=h n (by rw[ek];exact Ae)
   refine cV r _ (fun m hm=>h m (Ai _ hm)) (fun y z q => ?_) x c e
   rw[hd,Option.getD_some,BD] at q
   by_cases hy:(y == n)=true
   ·simp only[hy] at q
    have ey:y=n:=by simpa using hy
    cases q
    rw[ey];exact hd
   ·simp only[hy] at q
    exact ha y z q
  ·rw[Ax hk] at e
   exact cV r _ (fun m hm=>h m (Ai _ hm)) ha x c e
theorem zX4{cells:List (Str×Addr)}:∀(names:List (Str×NameKind)) (acc:List (Str×Addr)) (x:Str),(∃c,acc.lookup x=some c)->∃c,(clos cells names acc).lookup x=some c
 | [],acc,x,h=>h
 | (n,k)::r,acc,x,h=>by
  unfold clos
  by_cases hk:(k == NameKind.free)=true
  ·rw[Ak hk]
   refine zX4 r _ x ?_
   rw[BD]
   by_cases hy:(x == n)=true
   ·simp only[hy];exact⟨_,rfl⟩
   ·simp only[hy];exact h
  ·rw[Ax hk];exact zX4 r _ x h
theorem qF{cells:List (Str×Addr)}:∀(names:List (Str×NameKind)) (acc:List (Str×Addr)) (x:Str),(x,NameKind.free)∈names->∃c,(clos cells names acc).lookup x=some c
 | (n,k)::r,acc,x,h=>by
  unfold clos
  rcases Aw.mp h with e | e
  ·cases e
   rw[Ak (by rfl)]
   refine zX4 r _ _ ?_
   rw[BD]
   simp only[beq_self_eq_true]
   exact⟨_,rfl⟩
  ·by_cases hk:(k == NameKind.free)=true
   ·rw[Ak hk];exact qF r _ x e
   ·rw[Ax hk];exact qF r _ x e
theorem yS6(env:Env):∃f:Str×NameKind->Str×NameKind,(∀sc:Scope,(relabel sc env).names=sc.names.map f)/\∀q,f q=q\/(q.2=.free/\f q=(q.1,.cell)):=by
 refine⟨_,fun _=>rfl,fun q => ?_⟩
 dsimp only
 split
 ·rename_i z
  exact .inr ⟨eq_of_beq (CH.mp (CH.mp z).1).1,rfl⟩
 ·exact .inl rfl
theorem zN3{f:Str×NameKind->Str×NameKind}(hf:∀q,f q=q\/(q.2=.free/\f q=(q.1,.cell)))(x:Str):∀l:List (Str×NameKind),(l.map f).lookup x=l.lookup x\/(l.lookup x=some .free/\(l.map f).lookup x=some .cell)
 | []=>.inl rfl
 | (n,k)::r=>by
  have ih:=zN3 hf x r
  rw[AI]
  rcases hf (n,k) with e | ⟨e1,e⟩
  ·rw[e]
   cases q:x == n with
   | true=>exact .inl (by rw[BD,BD,q])
   | false=>simpa only[BD,q] using ih
  ·cases e1
   rw[e]
   cases q:x == n with
   | true=>exact .inr ⟨by rw[BD,q],by rw[BD,q]⟩
   | false=>simpa only[BD,q] using ih
theorem bU(sc:Scope)(env:Env)(x:Str):(relabel sc env).names.lookup x=sc.names.lookup x\/(sc.names.lookup x=some .free/\(relabel sc env).names.lookup x=some .cell):=by
 obtain⟨f,e,hf⟩:=yS6 env
 rw[e sc]
 exact zN3 hf x sc.names
theorem qZ{sc:Scope}{env:Env}{x:Str}{k:NameKind}(h:(relabel sc env).names.lookup x=some k):sc.names.lookup x=some k\/(k=.cell/\sc.names.lookup x=some .free):=by
 rcases bU sc env x with e | ⟨e1,e2⟩
 ·exact .inl (e.symm.trans h)
 ·exact .inr ⟨Ba (h.symm.trans e2),e1⟩
theorem bM{sc:Scope}{env:Env}{x:Str}(h:sc.names.lookup x=some .free):(relabel sc env).names.lookup x=some .cell\/(relabel sc env).names.lookup x=some .free:=by
 rcases bU sc env x with e | ⟨_,e⟩
 ·exact .inr (e.trans h)
 ·exact .inl e
def cxComp(X:Cx)(N:List Str)(scope:Scope)(C:Addr)(fp:List Addr)(s₂:Shared)(H:Hp):Cx where
 prog:=X.prog
 w:=X.w
 K:=X.K
 mg:=X.mg
 base:=X.base
 A:=X.A
 N:=N
 s₀:=s₂
 H₀:=H
 env:=compEnvC scope (clos X.env.cells scope.names []) C X.env
 outer:=X.stack
 stack:=X.stack
 ex:=fp
 fn:=fun _=>false
 calm:=X.calm
 pn:=[]
 xe:=fun _ _=>False
structure CompScope(sc0 scope:Scope)(N0:List Str)(xt:Str)(fs:List Str)(js:List Nat):Prop where
 kind:scope.kind=.function
 nocell:∀y∈scope.names,y.2 ≠ .cell
 names:∀y∈scope.names,y.2=.local->scope.names.lookup y.1=some .local
 tgt:scope.names.lookup xt=some .local
 frees:∀y∈scope.names,y.2=.free->sc0.names.lookup y.1=some .cell\/sc0.names.lookup y.1=some .free
 len:js.length=fs.length
 slots:∀p∈fs.zip js,N0[p.2]?=some p.1/\scope.names.lookup p.1=some .free
 nd:(xt::fs).Nodup
theorem zO1{α β:Type}:∀{fs:List α}{js:List β}{i:Nat}{y:α}{j:β},fs[i]?=some y->js[i]?=some j->(y,j)∈fs.zip js
 | [],_,_,_,_,h,_=>by simp at h
 | _::_,[],_,_,_,_,h=>by simp at h
 | a::fs,b::js,0,y,j,h,h'=>by
  simp at h h'
  subst h h'
  exact Ae
 | a::fs,b::js,i+1,y,j,h,h'=>by
  rw[List.zip_cons_cons]
  exact Ai _ (zO1 (i:=i) (by simpa using h) (by simpa using h'))
def compSt(σ:St)(js:List Nat)(v:Option V):St:=v::js.map fun j=>(σ[j]?).join
section
variable {X:Cx}{DJ:List (Addr×Obj)}{σ:St}{H:Hp}{s₂ s₄:Shared}{sc0 scope:Scope}{N0:List Str}{xt:Str}{fs:List Str}{js:List Nat}{fp:List Addr}
theorem CompScope.cells(S:CompScope sc0 scope N0 xt fs js)(h0:X.env.scope=sc0)(ok:X.Ok):∀n,(n,NameKind.free)∈scope.names->∃c,X.env.cells.lookup n=some c:=fun n hn=>ok.has n (by subst h0;exact S.frees _ hn rfl)
theorem CompScope.sub(S:CompScope sc0 scope N0 xt fs js)(h0:X.env.scope=sc0)(ok:X.Ok):∀x c,(clos X.env.cells scope.names []).lookup x=some c->X.env.cells.lookup x=some c :=
 cV scope.names [] (S.cells h0 ok) fun x c e=>by simp at e
theorem Inv.block(S:CompScope sc0 scope N0 xt fs js)(h0:X.env.scope=sc0)(hN0:X.N=N0)(I:Inv X DJ σ H s₂)(hf:∀b∈fp,FpOk X DJ H b)(hfo:∀b∈fp,∃o,s₂.heap.get? b=some o)
  (hos:s₄.os=s₂.os) (hg:AllBare s₄.gens) (hk:∀b o,s₂.heap.get? b=some o->s₄.heap.get? b=some o){C:Addr}(hC:s₂.heap.objs.size<=C){m:Str->Option Value}(hn:s₄.heap.Ns C m) :
  Inv (cxComp X (xt::fs) scope C fp s₂ H) [] (compSt σ js none) H s₄:=by
 have sub:=S.sub h0 I.ok
 have blt:∀b∈fp,b<s₂.heap.objs.size:=fun b hb=>let ⟨o,e⟩:=hfo b hb;Am e
 have ok:(cxComp X (xt::fs) scope C fp s₂ H).Ok:=by
  refine⟨I.ok.mod,S.kind,I.ok.glob,I.ok.blt,hC,fun x y c h1 h2=>I.ok.inj x y c (sub x c h1) (sub y c h2),fun x hx => ?_,fun x c h=>(nomatch h),I.ok.hd,I.ok.frames,.inl rfl,fun b hb=>⟨?_,fun x c h=>(hf b hb).2.2.2.2.1 x c (sub x c h)⟩,I.bs,AJ I.ok.bsz I.sz,fun b o e hb => ?_,fun b hb hs => ?_,I.stack,I.stkFree⟩
  ·have hx:(relabel scope X.env).names.lookup x=some .cell\/(relabel scope X.env).names.lookup x=some .free:=hx
   have hfree:scope.names.lookup x=some .free:=by
    rcases hx with hx | hx
    ·rcases qZ hx with q | ⟨_,q⟩
     ·exact absurd rfl (S.nocell _ (Bc q))
     ·exact q
    ·rcases qZ hx with q | ⟨q,_⟩
     ·exact q
     ·cases q
   exact qF scope.names [] x (Bc hfree)
  ·exact AL (Ar (blt b hb) hC)
  ·rcases (hf b hb).2.2.2.1 with z | z
   ·exact I.ok.noex b o e z
   ·exact absurd (Ar (Am (I.ok.bs b o e).1) z) (Cg _)
  ·rcases Aw.mp (I.stkSub b hs) with z | z
   ·exact (hf b hb).2.1 z
   ·exact (hf b hb).2.2.1 z
 refine⟨ok,hos,hg,Un.kept hk,⟨m,hn,fun i x v e1 e2 e3 => ?_⟩,fun x c e => ?_,I.hok.fresh hC,fun x c e=>I.freeC x c (sub x c e),fun p hp=>absurd (show p∈([]:List (Addr×Obj)) from hp) (by simp),I.hok.kept hk,?_⟩
 ·cases i with
  | zero=>cases e2
  | succ i =>
   have e1:fs[i]?=some x:=e1
   have e2:(js.map fun j=>(σ[j]?).join)[i]?=some (some v):=e2
   rw[AA] at e2
   cases ej:js[i]? with
   | none=>rw[ej] at e2;cases e2
   | some j =>
    rw[ej] at e2
    have e2:(σ[j]?).join=some v:=Ba e2
    obtain⟨hN,hfr⟩:=S.slots _ (zO1 e1 ej)
    have hN:X.N[j]?=some x:=by rw[hN0];exact hN
    have hk2:X.env.kindOf x=some .cell\/X.env.kindOf x=some .free:=by subst h0;exact S.frees _ (Bc hfr) rfl
    have hs:σ[j]?=some (some v):=by
     cases q:σ[j]? with
     | none=>rw[q] at e2;cases e2
     | some z=>rw[q] at e2;rw[show z=some v from e2]
    obtain⟨m0,hn0,hl⟩:=I.loc
    obtain⟨u,r,l⟩:=hl j x v hN hs (by rcases hk2 with z | z;exact .inr (.inl z);exact .inr (.inr z))
    refine⟨u,r,?_⟩
    rcases l with ⟨hloc,_⟩ | ⟨_,c,hc,hcell⟩
    ·rcases hk2 with z | z
     ·rw[z] at hloc;cases hloc
     ·rw[z] at hloc;cases hloc
    ·obtain⟨c',hc'⟩:=qF (cells:=X.env.cells) scope.names [] x (Bc hfr)
     have:c'=c:=Ba ((sub x c' hc').symm.trans hc)
     subst this
     exact .inr ⟨bM hfr,c',hc',hcell.keeps hk⟩
 ·obtain⟨v,z⟩:=I.cell x c (sub x c e)
  exact⟨v,z.keeps hk⟩
 ·show (compSt σ js none).length=(xt::fs).length
  unfold compSt
  rw[Aq,Ac,Aq,S.len]
theorem Inv.unblock{pins':List (Addr×Obj)}{σ':St}{H':Hp}{s':Shared}{h'':Heap}{C D:Addr}{its:List Value}{n:Nat}{acc:List V}{N:List Str}(I:Inv X DJ σ H s₂)(hf:∀b∈fp,FpOk X DJ H b)
  (J:Inv (cxComp X N scope C fp s₂ H) pins' σ' H' s') (hC:s₂.heap.objs.size<=C) (hD:s₂.heap.objs.size<=D) (hDC:D≠C) (hHD:H' D=none)
  (hd:s'.heap.get? D=some { cls:=.type "list",data:=.seq its.toArray n }) (hv:Vals acc its) (hz:acc.length<=sizeLine) (hsb:Heap.SameBut C s'.heap h'') :
  Inv X DJ σ (upd H' D (.lst acc)) { s' with heap:=h'' }:=by
 have hd2:h''.get? D=some { cls:=.type "list",data:=.seq its.toArray n }:=(hsb.2 D hDC).trans hd
 have keep:∀b o,b<s₂.heap.objs.size->s'.heap.get? b=some o->h''.get? b=some o:=fun b o hb e=>(hsb.2 b (AL (Ar hb hC))).trans e
 have hHC:H' C=none:=J.free
 have ok1:HOk X.prog X.w H' h'':=fun b o e=>(J.hok b o e).stay (fun c v hc q=>(hsb.2 c (by
   rcases hc with z | z
   ·rw[z];exact fun w=>by rw[w,hHC] at e;cases e
   ·exact fun w=>by rw[w,hHC] at z;cases z)).trans q) (fun _ q=>q) fun _ _ q=>q
 have ok2:HOk X.prog X.w (upd H' D (.lst acc)) h'':=ok1.track hHD ⟨hz,its,n,hv,hd2⟩
 have un:Un (frs X.stack) fp H (upd H' D (.lst acc)) s₂.heap h'':=by
  have u:=J.base
  refine⟨fun b o e nb h1 h2=>keep b o (Am e) (u.keep b o e nb h1 h2),fun b o e nb h1 h2 => ?_,fun b o e nb h2 => ?_,fun b o e h2 => ?_,fun b xs e => ?_,fun b o v e => ?_,fun b ps e => ?_⟩
  ·obtain⟨sl,q⟩:=u.slot b o e nb h1 h2
   exact⟨sl,keep b _ (Am e) q⟩
  ·rw[zM (AL (Ar (Am e) hD))]
   exact u.free b o e nb h2
  ·obtain⟨o',q⟩:=u.there b o e h2
   exact⟨o',keep b _ (Am e) q⟩
  ·have q:=u.tups b xs e
   rw[zM (xK q hHD)];exact q
  ·have q:=u.frzs b o v e
   rw[zM (xK q hHD)];exact q
  ·obtain⟨more,q⟩:=u.tbls b ps e
   exact⟨more,by rw[zM (xK q hHD)];exact q⟩
 obtain⟨hh,g,d,t,os'⟩:=s'
 obtain rfl:os'=s₂.os:=J.os
 exact Inv.call (s:=s₂) I (h':=h'') (g':=g) (d':=d) (t':=t) (ch:=fp) un ok2 J.bare fun b hb=>⟨(hf b hb).2.2.2.1,(hf b hb).2.1,(hf b hb).2.2.2.2.1,(hf b hb).2.2.2.2.2⟩
end
def tTrue:TT:=fun _ H Q=>Q true H
inductive PTs(X:Cx):List Expr->TT->Prop
 | nil:PTs X [] tTrue
 | one {c:Expr}{t:TT}:PT X c t->PTs X [c] t
def tComp(wi:TI)(tt:Addr->List Addr->Shared->Hp->TT)(te:Addr->List Addr->Shared->Hp->TE)(js:List Nat):TE:=fun σ H Q=>wi σ H fun J H1=>∀C fp s₂ H₂,∃W:Nat->Nat->List V->Hp->Prop,(∃m,W 0 m [] H1)/\∀i m acc H,W i m acc H ->
 (J.stop i H/\∀p,H p=none->Q (.ref p) (upd H p (.lst acc))) \/
 (J.go i H/\∃N:List V->Hp->Prop,(∀acc' H',N acc' H'->∃m',m'<m/\W (i+1) m' acc' H') /\
  ∀x H',J.yld i H x H'->tt C fp s₂ H₂ (compSt σ js (some x)) H' fun b H2=>if b=true then te C fp s₂ H₂ (compSt σ js (some x)) H2 fun v H3=>acc.length<sizeLine/\N (acc ++ [v]) H3 else N acc H2)
theorem zN6{X:Cx}{elt iter:Expr}{ifs:List Expr}{sc0 scope:Scope}{N0:List Str}{px pos:Pos}{xt:Str}{fs:List Str}{js:List Nat}{wi:TI}{tt:Addr->List Addr->Shared->Hp->TT}{te:Addr->List Addr->Shared->Hp->TE}(S:CompScope sc0 scope N0 xt fs js)(h0:X.env.scope=sc0)(hN0:X.N=N0)(hc:X.calm=true)
  (hi:PI X (.Name xt px) iter wi) (ht:∀C fp s₂ H,PTs (cxComp X (xt::fs) scope C fp s₂ H) ifs (tt C fp s₂ H)) (he:∀C fp s₂ H,PE (cxComp X (xt::fs) scope C fp s₂ H) elt (te C fp s₂ H))
  (hs:autoParam (∀x,foldedSetIterable iter X.env x=pure x) DG)
  {DJ:List (Addr×Obj)}{cpos:Pos}{s:Shared}{σ:St}{H:Hp}{Q:VK}{use:Option (Value->Sem Unit)}{Qv:Value->Shared->Prop}(I:Inv X DJ σ H s) (h:tComp wi tt te js σ H Q)
  (hfin:∀(s':Shared) (C D:Addr) (Ha:Hp) (fl:Flow),(∀h'',Heap.SameBut C s'.heap h''->Inv X DJ σ Ha { s' with heap:=h'' })->(∃m,s'.heap.Ns C m)->FpOk X DJ Ha C->Q (.ref D) Ha->compPost (model X.prog X.w) X.A X.xe use Qv (.ref D) C (.ok fl) s') :
  wpAny (model X.prog X.w) X.A (comprehension (.ListComp elt [⟨.Name xt px,iter,ifs,0⟩] scope pos) scope X.env cpos (newList []) false (eval iter X.env) use) Qv X.xe s:=by
 refine wpAny_comprehension_free (use:=use) rfl hs (jD (S.cells h0 I.ok)) S.kind S.names ?_
 refine thn (hi DJ s σ H _ I h) fun v s1 h1=>thn h1 fun itv s2 h2 => ?_
 obtain⟨it,fp,tn,J,H2,e,I2,T,st2,f2,hW⟩:=h2
 subst e
 have fo:∀b∈fp,∃o,s2.heap.get? b=some o:=fun b hb=>let ⟨o,e,_⟩:=T.obj 0 s2.heap st2 b hb; ⟨o,e⟩
 have blt:∀b∈fp,b<s2.heap.objs.size:=fun b hb=>let ⟨o,e⟩:=fo b hb;Am e
 refine bG S.nocell S.kind fun D C h₁ mC hDle hCle hDC old hacc hns₁ => ?_
 have bC:∀b o,s2.heap.get? b=some o->b≠C:=fun b o q z=>Cc.mpr hCle (z▸Am q)
 have bD:∀b o,s2.heap.get? b=some o->b≠D:=fun b o q z=>Cc.mpr hDle (z▸Am q)
 obtain⟨W,⟨m0,w0⟩,turn⟩:=hW C fp s2 H2
 have fpk:∀{H':Hp}(ob:Obj),(∀b∈fp,H' b=none)->∀b∈fp,FpOk (cxComp X (xt::fs) scope C fp s2 H2) [(D,ob)] H' b:=fun {H'} ob hn b hb=>by
  refine⟨hn b hb,AL (Ar (blt b hb) hCle),fun z => ?_,.inl hb,fun x c e=>(f2 b hb).2.2.2.2.1 x c (S.sub h0 I2.ok x c e),fun p hp => ?_⟩
  ·rcases Aw.mp (I2.stkSub b z) with q | q
   ·exact (f2 b hb).2.1 q
   ·exact (f2 b hb).2.2.1 q
  ·have:p=(D,ob):=by
    have hp:p ∈ [] ++ [(D,ob)]:=hp
    simpa using hp
   subst this
   exact Co (Ar (blt b hb) hDle)
 have loop:codeAny (model X.prog X.w) X.A (.compLoop (.ListComp elt [⟨.Name xt px,iter,ifs,0⟩] scope pos) 0 (.ref it) (.ref D) (compEnvC scope (clos X.env.cells scope.names []) C X.env))
    (compPost (model X.prog X.w) X.A X.xe use Qv (.ref D) C) { s2 with heap:=h₁ }:=by
  have J0:Inv (cxComp X (xt::fs) scope C fp s2 H2) [] (compSt σ js none) H2 { s2 with heap:=h₁ } :=
   Inv.block (s₂:=s2) (s₄:={ s2 with heap:=h₁ }) S h0 hN0 I2 f2 fo rfl I2.bare old hCle hns₁
  have H2D:H2 D=none:=I2.hok.fresh hDle
  have ofD:D∉frs X.stack:=fun z=>by
   rcases Aw.mp (I2.stkSub D z) with q | q
   ·exact absurd I2.lt (by rw[<-q];exact Cc.mpr hDle)
   ·exact I2.nofs (a:=D) hDle q
  refine codeAny_loop rfl (fun n s'=>∃(i:Nat) (σ':St) (H':Hp) (acc:List V) (its:List Value) (k:Nat),(∃v0,σ'=compSt σ js v0)/\Inv (cxComp X (xt::fs) scope C fp s2 H2) [] σ' H' s'/\tn i s'.heap/\(∀b∈fp,H' b=none)/\H' D=none /\
    s'.heap.get? D=some { cls:=.type "list",data:=.seq its.toArray k }/\Vals acc its/\acc.length<=sizeLine/\W i n acc H') ?_ m0
   ⟨0,_,H2,[],[],0,⟨none,rfl⟩,J0,T.keep 0 _ _ st2 fun b hb o e=>old b o e,fun b hb=>(f2 b hb).1,H2D,hacc,.nil,AM _,w0⟩
  rintro n s3 ⟨i,σ3,H3,acc,its,k,⟨v0,rfl⟩,I3,st3,fr3,hD3,d3,va,hz,w3⟩
  show wpAny _ X.A ((compTurn (.ListComp elt [⟨.Name xt px,iter,ifs,0⟩] scope pos) 0 (.ref it) (.ref D) (compEnvC scope (clos X.env.cells scope.names []) C X.env)).onRaise (fun x=>do noteFrame x (compEnvC scope (clos X.env.cells scope.names []) C X.env);theTreesLotGoes x)) _ _ s3
  refine wpAny_noted ?_
  rw[compTurn_list]
  refine Ab (wpAny_standAt ?_)
  have pinD:Inv (cxComp X (xt::fs) scope C fp s2 H2) [(D,{ cls:=.type "list",data:=.seq its.toArray k })] (compSt σ js v0) H3 s3:=I3.xE fun p hp=>by
   have:p=(D,{ cls:=.type "list",data:=.seq its.toArray k }):=by simpa using hp
   subst this
   exact⟨d3,hD3,hDC,ofD,fun v z=>by cases z⟩
  refine Ab ?_
  rcases turn i n acc H3 w3 with ⟨stop,qn⟩ | ⟨go,N,hN,step⟩
  ·refine thn (T.done (cxComp X (xt::fs) scope C fp s2 H2) rfl rfl rfl hc i _ s3 _ H3 _ pinD (fpk _ fr3) st3 stop) fun r s4 ⟨hr,I4⟩ => ?_
   subst hr
   refine Ao ?_
   obtain⟨m4,hn4,_⟩:=I4.loc
   have hHC:H3 C=none:=I4.free
   refine hfin s4 C D (upd H3 D (.lst acc)) _ (fun h'' hsb=>I2.unblock f2 I4 hCle hDle hDC hD3 ((I4.pin (D,{ cls:=.type "list",data:=.seq its.toArray k }) (Ah _ Ae)).1) va hz hsb) ⟨m4,hn4⟩ (I2.fpOk hCle (by rw[zM (AX hDC)];exact hHC)) (qn D hD3)
  ·refine thn (T.item (cxComp X (xt::fs) scope C fp s2 H2) rfl rfl rfl hc i _ s3 _ H3 _ pinD (fpk _ fr3) st3 go) fun r s4 ⟨u,hr,h4⟩ => ?_
   subst hr
   refine Ab (thn h4 fun _ s5 ⟨x,H5,I5,r5,y5,st5,fr5⟩ => ?_)
   have I5':=I5.pinned (fpk _ fr5) (T.obj _ _ st5)
   have gok:PG (cxComp X (xt::fs) scope C fp s2 H2) (.Name xt px) (gName 0):=kM S.nd rfl (.inl (lookup_relabel_local S.tgt)) (.inr (lookup_relabel_local S.tgt))
   have noE:∀(a:Value) (s':Shared),(cxComp X (xt::fs) scope C fp s2 H2).xe a s'->notedBy (model X.prog X.w) X.A (compEnvC scope (clos X.env.cells scope.names []) C X.env) (fun e s'=>compPost (model X.prog X.w) X.A X.xe use Qv (.ref D) C (.error e) s') a s':=fun _ _ z=>False.elim z
   refine Ab (wpAny_mono (gok _ s5 (compSt σ js v0) H5 x u (fun σ' H'=>σ'=compSt σ js (some x)/\H'=H5) I5' r5 ⟨rfl,rfl⟩) (fun _ s6 ⟨σ6,H6,I6,e6,e6'⟩ => ?_) noE)
   subst e6 e6'
   have fin:∀{acc':List V}{its':List Value}{k':Nat}{H7:Hp}{s7:Shared},Inv (cxComp X (xt::fs) scope C fp s2 H2) [] (compSt σ js (some x)) H7 s7->tn (i+1) s7.heap->(∀b∈fp,H7 b=none)->H7 D=none->s7.heap.get? D=some { cls:=.type "list",data:=.seq its'.toArray k' }->Vals acc' its'->acc'.length<=sizeLine->N acc' H7 ->
     ∃m,m<n/\∃(i:Nat) (σ':St) (H':Hp) (acc:List V) (its:List Value) (k:Nat),(∃v0,σ'=compSt σ js v0)/\Inv (cxComp X (xt::fs) scope C fp s2 H2) [] σ' H' s7/\tn i s7.heap/\(∀b∈fp,H' b=none)/\H' D=none /\
      s7.heap.get? D=some { cls:=.type "list",data:=.seq its.toArray k }/\Vals acc its/\acc.length<=sizeLine/\W i m acc H':=fun {acc' its' k' H7 s7} a1 a2 a3 a4 a5 a6 a7 a8=>by
    obtain⟨m',hm,w7⟩:=hN _ _ a8
    exact⟨m',hm,i+1,_,H7,acc',its',k',⟨_,rfl⟩,a1,a2,a3,a4,a5,a6,a7,w7⟩
   have rest:∀{H7:Hp}{s7:Shared},Inv (cxComp X (xt::fs) scope C fp s2 H2) ([(D,{ cls:=.type "list",data:=.seq its.toArray k })]++pinsAt fp s5.heap) (compSt σ js (some x)) H7 s7 ->
     tn (i+1) s7.heap/\(∀b∈fp,H7 b=none)/\H7 D=none/\s7.heap.get? D=some { cls:=.type "list",data:=.seq its.toArray k }:=fun {H7 s7} I7=>by
    refine⟨T.keep _ _ _ st5 fun b hb o e=>(I7.pin (b,o) (Ah _ (Ah _ (vX hb e)))).1,fun b hb => ?_,(I7.pin (D,{ cls:=.type "list",data:=.seq its.toArray k }) (Ah _ (AW _ Ae))).2.1,(I7.pin (D,{ cls:=.type "list",data:=.seq its.toArray k }) (Ah _ (AW _ Ae))).1⟩
    obtain⟨o,e,d⟩:=T.obj _ _ st5 b hb
    exact (I7.pin (b,o) (Ah _ (Ah _ (vX hb e)))).2.1
   have elem:∀{H7:Hp}{s7:Shared},Inv (cxComp X (xt::fs) scope C fp s2 H2) ([(D,{ cls:=.type "list",data:=.seq its.toArray k })]++pinsAt fp s5.heap) (compSt σ js (some x)) H7 s7 ->
     (te C fp s2 H2 (compSt σ js (some x)) H7 fun v H3=>acc.length<sizeLine/\N (acc ++ [v]) H3) ->
     wpAny (model X.prog X.w) X.A (eval elt (compEnvC scope (clos X.env.cells scope.names []) C X.env)) (fun y s8=>wpAny (model X.prog X.w) X.A (call (.builtin "list.append") [.ref D,y]) (fun _ s9=>∃m,m<n/\∃(i:Nat) (σ':St) (H':Hp) (acc:List V) (its:List Value) (k:Nat),(∃v0,σ'=compSt σ js v0)/\Inv (cxComp X (xt::fs) scope C fp s2 H2) [] σ' H' s9/\tn i s9.heap/\(∀b∈fp,H' b=none)/\H' D=none /\
      s9.heap.get? D=some { cls:=.type "list",data:=.seq its.toArray k }/\Vals acc its/\acc.length<=sizeLine/\W i m acc H')
      (fun _ _=>False) s8) (fun _ _=>False) s7:=fun {H7 s7} I7 q7=>by
    refine thn (he C fp s2 H2 _ s7 _ H7 _ I7 q7) fun y s8 ⟨v,H8,I8,r8,hl8,n8⟩ => ?_
    obtain⟨t8,fr8,hD8,d8⟩:=rest I8
    have hsz:=va.length
    refine call_meets CU ⟨_,d8,rfl⟩ CO (CF _ _) (Da D its.toArray k y (by rw[AC];rfl')) ⟨d8,?_⟩
    have q:=Dl d8 (·.push y)
    rw[show (its.toArray.push y)=(its ++ [y]).toArray by simp] at q
    have kk:∀b o,b≠D->s8.heap.get? b=some o->(s8.heap.update D (Obj.mapSeq (·.push y))).get? b=some o:=fun b o hb e=>(AE s8.heap _ (AX hb)).trans e
    have I9:Inv (cxComp X (xt::fs) scope C fp s2 H2) [] (compSt σ js (some x)) H8 { s8 with heap:=s8.heap.update D (Obj.mapSeq (·.push y)) }:=by
     refine Inv.turned (it:=D) (t':=s8.toks) (I8.xE (pins':=[]) fun p hp=>nomatch hp) kk hD8 hDC (.inr hDle) (fun x c e z => ?_) fun p hp=>absurd (show p∈([]:List (Addr×Obj)) from hp) (by simp)
     obtain⟨v,o,ho,_⟩:=I2.cell x c (S.sub h0 I2.ok x c e)
     exact bD c o ho z
    refine fin I9 (T.keep _ _ _ t8 fun b hb o e=>kk b o (AL (Ar (blt b hb) hDle)) e) fr8 hD8 q (va.append (.cons r8 .nil)) ?_ n8
    rw[Af,Bt]
    rfl'
   have q6:=step x H6 y5
   have htt:=ht C fp s2 H2
   generalize tt C fp s2 H2=tt' at htt q6
   cases htt with
   | nil =>
    refine Ab (Ao ?_)
    dsimp only[tTrue] at q6
    rw[Ak rfl] at q6
    refine wpAny_mono (Ab (Ab (thn (elem I6 q6) fun y s8 h8=>Ab (thn h8 fun _ s9 h9=>Ao (Ao ⟨rfl,h9⟩))))) (fun _ _ z=>z) fun _ _ z=>False.elim z
   | one ht1 =>
    refine Ab (wpAny_tests_one (wpAny_mono (ht1 _ s6 _ H6 _ I6 q6) (fun b s7 ⟨H7,I7,q7⟩ => ?_) noE))
    cases b with
    | false =>
     rw[Ax Ap] at q7
     obtain⟨t8,fr8,hD8,d8⟩:=rest I7
     exact Ao ⟨rfl,fin (I7.xE (pins':=[]) fun p hp=>nomatch hp) t8 fr8 hD8 d8 va hz q7⟩
    | true =>
     rw[Ak rfl] at q7
     refine wpAny_mono (Ab (Ab (thn (elem I7 q7) fun y s8 h8=>Ab (thn h8 fun _ s9 h9=>Ao (Ao ⟨rfl,h9⟩))))) (fun _ _ z=>z) fun _ _ z=>False.elim z
 exact codeAny_compStart_list loop (T.self X.A 0 _ _ _ (T.keep 0 _ _ st2 fun b hb o e=>old b o e) loop)
theorem zP7{X:Cx}{elt iter:Expr}{ifs:List Expr}{sc0 scope:Scope}{N0:List Str}{px pos:Pos}{xt:Str}{fs:List Str}{js:List Nat}{wi:TI}{tt:Addr->List Addr->Shared->Hp->TT}{te:Addr->List Addr->Shared->Hp->TE}(S:CompScope sc0 scope N0 xt fs js)(h0:X.env.scope=sc0)(hN0:X.N=N0)(hc:X.calm=true)
  (hi:PI X (.Name xt px) iter wi) (ht:∀C fp s₂ H,PTs (cxComp X (xt::fs) scope C fp s₂ H) ifs (tt C fp s₂ H)) (he:∀C fp s₂ H,PE (cxComp X (xt::fs) scope C fp s₂ H) elt (te C fp s₂ H))
  (hs:autoParam (∀x,foldedSetIterable iter X.env x=pure x) DG) :
  PE X (.ListComp elt [⟨.Name xt px,iter,ifs,0⟩] scope pos) (tComp wi tt te js):=by
 intro DJ s σ H Q I h
 rw[eval_ListComp]
 refine zN6 S h0 hN0 hc hi ht he hs (use:=none) (Qv:=EP X DJ σ Q) I h fun s' C D Ha fl hI hns hC q => ?_
 obtain⟨m,hn⟩:=hns
 exact⟨m,hn,fun h' hsb=>⟨.ref D,Ha,hI h' hsb,rfl,q⟩⟩
theorem zU9{lo:Int}{n:Nat}{tt:TT}{te:TE}{js:List Nat}{σ:St}{H:Hp}{Q:VK}(Pv:Nat->List V->Hp->Prop)(h0:Pv 0 [] H)
  (hs:∀i acc H,i<n->Pv i acc H->tt (compSt σ js (some (.int (lo+i)))) H fun b H2=>if b=true then te (compSt σ js (some (.int (lo+i)))) H2 fun v H3=>acc.length<sizeLine/\Pv (i+1) (acc ++ [v]) H3 else Pv (i+1) acc H2)
  (hd:∀acc H,Pv n acc H->∀p,H p=none->Q (.ref p) (upd H p (.lst acc))) :
  ∃W:Nat->Nat->List V->Hp->Prop,(∃m,W 0 m [] H)/\∀i m acc H,W i m acc H ->
   ((Itr lo n).stop i H/\∀p,H p=none->Q (.ref p) (upd H p (.lst acc))) \/
   ((Itr lo n).go i H/\∃N:List V->Hp->Prop,(∀acc' H',N acc' H'->∃m',m'<m/\W (i+1) m' acc' H') /\
    ∀x H',(Itr lo n).yld i H x H'->tt (compSt σ js (some x)) H' fun b H2=>if b=true then te (compSt σ js (some x)) H2 fun v H3=>acc.length<sizeLine/\N (acc ++ [v]) H3 else N acc H2):=by
 refine⟨fun i m acc H=>m=n-i/\i<=n/\Pv i acc H,⟨n,by simp,AM _,h0⟩,?_⟩
 rintro i m acc H ⟨rfl,hi,p⟩
 by_cases hlt:i<n
 ·refine .inr ⟨hlt,Pv (i+1),fun acc' H' p'=>⟨n-(i+1),by rfl',rfl,hlt,p'⟩,fun x H' y => ?_⟩
  obtain⟨e,y⟩:=y
  subst e y
  exact hs i acc _ hlt p
 ·have e:i=n:=by rfl'
  subst e
  exact .inl ⟨Al _,hd acc H p⟩
theorem yP1{K:KFr}{a:Addr}{xs:List V}{tt:TT}{te:TE}{js:List Nat}{σ:St}{H:Hp}{Q:VK}(Pv:Nat->List V->Hp->Prop)(h0:Pv 0 [] H)(hl:∀i acc H,i<=xs.length->Pv i acc H->SqL K H a xs)
  (hs:∀i x acc H,xs[i]?=some x->Pv i acc H->tt (compSt σ js (some x)) H fun b H2=>if b=true then te (compSt σ js (some x)) H2 fun v H3=>acc.length<sizeLine/\Pv (i+1) (acc ++ [v]) H3 else Pv (i+1) acc H2)
  (hd:∀acc H,Pv xs.length acc H->∀p,H p=none->Q (.ref p) (upd H p (.lst acc))) :
  ∃W:Nat->Nat->List V->Hp->Prop,(∃m,W 0 m [] H)/\∀i m acc H,W i m acc H ->
   ((Itl K a).stop i H/\∀p,H p=none->Q (.ref p) (upd H p (.lst acc))) \/
   ((Itl K a).go i H/\∃N:List V->Hp->Prop,(∀acc' H',N acc' H'->∃m',m'<m/\W (i+1) m' acc' H') /\
    ∀x H',(Itl K a).yld i H x H'->tt (compSt σ js (some x)) H' fun b H2=>if b=true then te (compSt σ js (some x)) H2 fun v H3=>acc.length<sizeLine/\N (acc ++ [v]) H3 else N acc H2):=by
 refine⟨fun i m acc H=>m=xs.length-i/\i<=xs.length/\Pv i acc H,⟨xs.length,by simp,AM _,h0⟩,?_⟩
 rintro i m acc H ⟨rfl,hi,p⟩
 have q:=hl i acc H hi p
 by_cases hlt:i<xs.length
 ·refine .inr ⟨⟨xs,xs[i],q,by simp[hlt]⟩,Pv (i+1),fun acc' H' p'=>⟨xs.length-(i+1),by rfl',rfl,hlt,p'⟩,fun x H' y => ?_⟩
  obtain⟨e,y⟩:=y
  subst e
  exact hs i x acc _ (y xs q) p
 ·have e:i=xs.length:=by rfl'
  subst e
  exact .inl ⟨⟨xs,q,Al _⟩,hd acc H p⟩
theorem Same.new{H:Hp}{p:Addr}{o:HO}(h:H p=none):Same H (upd H p o):=fun b u e=>by rw[zM (xK e h)];exact e
def Small(i:Int):Prop:=∃k,k<=1000000/\i.natAbs<2 ^ k
theorem Small.bits{i:Int}(h:Small i):Builtin.Int.intBits i<=2 ^ 20:=by
 obtain⟨k,hk,hi⟩:=h
 unfold Builtin.Int.intBits
 by_cases h0:(i == 0)=true
 ·rw[Ak h0];exact AM _
 ·rw[Ax h0]
  have hn:i.natAbs≠0:=by
   intro z
   have:i=0:=by rfl'
   rw[this] at h0
   exact h0 rfl
  have:=(Nat.log2_lt hn).mpr hi
  have e:(2:Nat) ^ 20=1048576:=by decide
  rfl'
section
variable {X:Cx}
def clsV:V->Option Value
 | .ty n=>some (.type n)
 | .ref a=>some (.ref a)
 | _=>none
theorem zG4{c:V}{u cv:Value}(r:RelV c u)(e:clsV c=some cv):u=cv:=by
 cases c with
 | ty n=>cases e;exact r
 | ref a=>cases e;exact r
 | non=>cases e
 | bl _=>cases e
 | int _=>cases e
 | str _=>cases e
 | byt _=>cases e
 | flt _=>cases e
end
mutual
inductive DatV(K:KFr)(H:Hp):V->PyData->Prop
 | non:DatV K H .non .none
 | bl (b:Bool):DatV K H (.bl b) (.bool b)
 | int (i:Int):DatV K H (.int i) (.int i)
 | str (x:Str):DatV K H (.str x) (.str x)
 | lst {a:Addr}{xs:List V}{ds:List PyData}:SqL K H a xs->DatAll K H xs ds->DatV K H (.ref a) (.list ds)
 | tup {a:Addr}{xs:List V}{ds:List PyData}:SqT K H a xs->DatAll K H xs ds->DatV K H (.ref a) (.tuple ds)
inductive DatAll(K:KFr)(H:Hp):List V->List PyData->Prop
 | nil:DatAll K H [] []
 | cons {v:V}{d:PyData}{vs:List V}{ds:List PyData}:DatV K H v d->DatAll K H vs ds->DatAll K H (v::vs) (d::ds)
end
section
variable {X:Cx}{DJ:List (Addr×Obj)}{σ:St}{H:Hp}{s:Shared}
mutual
theorem Inv.reads(I:Inv X DJ σ H s):∀{v:V}{d:PyData}{u:Value},DatV X.K H v d->RelV v u->∃as,Reads s.heap u d as
 | _,_,_,.non,r=>by cases r;exact⟨_,.none⟩
 | _,_,_,.bl b,r=>by cases r;exact⟨_,.bool b⟩
 | _,_,_,.int i,r=>by obtain⟨t,rfl⟩:=r;exact⟨_,.int i t⟩
 | _,_,_,.str x,r=>by obtain⟨t,rfl⟩:=r;exact⟨_,.str x t⟩
 | _,_,_,.lst hq ha,r=>by
  cases r
  obtain⟨its,rv,⟨o,n,ho,hc,_,hd⟩,_⟩:=I.list hq
  obtain⟨as,z⟩:=Inv.readsAll I ha rv
  exact⟨_,.list ho hc hd (by simpa using z)⟩
 | _,_,_,.tup hq ha,r=>by
  cases r
  obtain⟨its,rv,⟨o,ho,hc,n,hd⟩,_⟩:=I.tuple hq
  obtain⟨as,z⟩:=Inv.readsAll I ha rv
  exact⟨_,.tuple ho hc hd (by simpa using z)⟩
theorem Inv.readsAll(I:Inv X DJ σ H s):∀{vs:List V}{ds:List PyData}{us:List Value},DatAll X.K H vs ds->Vals vs us->∃as,ReadsAll s.heap us ds as
 | _,_,_,.nil,r=>by cases r;exact⟨_,.nil⟩
 | _,_,_,.cons h t,r=>by
  cases r with
  | cons r1 r2 =>
   obtain⟨as,z⟩:=Inv.reads I h r1
   obtain⟨bs,z'⟩:=Inv.readsAll I t r2
   exact⟨_,.cons z z'⟩
end
end
section
variable {X:Cx}
def rEqD(K:KFr)(neg:Bool):R2:=fun x y H Q=>∃dx dy,DatV K H x dx/\DatV K H y dy/\SeqAt.shaped dx=true/\SeqAt.shaped dy=true/\Q (.bl (if neg then !PyData.eqv dx dy else PyData.eqv dx dy)) H
theorem xM(hu:X.A.units+64<cLine):OpR X (compareOp .Eq) (rEqD X.K false):=by
 intro DJ s σ H x y v u Q I rx ry h
 obtain⟨dx,dy,h1,h2,s1,s2,q⟩:=h
 obtain⟨as,z1⟩:=I.reads h1 rx
 obtain⟨bs,z2⟩:=I.reads h2 ry
 exact eq_dataH z1 z2 s1 s2 hu ⟨.bl _,H,I,rfl,q⟩
theorem vS(hu:X.A.units+64<cLine):OpR X (compareOp .NotEq) (rEqD X.K true):=by
 intro DJ s σ H x y v u Q I rx ry h
 obtain⟨dx,dy,h1,h2,s1,s2,q⟩:=h
 obtain⟨as,z1⟩:=I.reads h1 rx
 obtain⟨bs,z2⟩:=I.reads h2 ry
 exact ne_dataH z1 z2 s1 s2 hu ⟨.bl _,H,I,rfl,q⟩
end
end L2
namespace L2.L3
open PySem PySem.Spec PyProof.Rows
abbrev D:=PyData
inductive Res(α:Type) where
 | ok (a:α)
 | ex (c:Str)
 | no
namespace Res
def bind{α β:Type}:Res α->(α->Res β)->Res β
 | .ok a,f=>f a
 | .ex c,_=>.ex c
 | .no,_=>.no
def post{α:Type}:Res α->(α->Prop)->(Str->Prop)->Prop
 | .ok a,Q,_=>Q a
 | .ex c,_,E=>E c
 | .no,_,_=>False
theorem zU{α β:Type}{r:Res α}{f:α->Res β}{Q:β->Prop}{E:Str->Prop}(h:(r.bind f).post Q E):r.post (fun a=>(f a).post Q E) E:=by
 cases r <;> exact h
theorem zT{α:Type}{r:Res α}{Q Q':α->Prop}{E E':Str->Prop}(h:r.post Q E)(hQ:∀a,r=.ok a->Q a->Q' a)(hE:∀c,E c->E' c):r.post Q' E':=by
 cases r with
 | ok a=>exact hQ a rfl h
 | ex c=>exact hE c h
 | no=>exact h
def lft{α:Type}:Option α->Res α
 | some a=>.ok a
 | none=>.no
theorem yV{α:Type}{o:Option α}{Q:α->Prop}{E:Str->Prop}(h:(lft o).post Q E):∃a,o=some a/\Q a:=by
 cases o with
 | none=>exact h.elim
 | some a=>exact⟨a,rfl,h⟩
@[simp] theorem bind_ok {α β:Type}(a:α) (f:α->Res β):(Res.ok a).bind f=f a:=rfl
@[simp] theorem bind_no {α β:Type}(f:α->Res β):(Res.no:Res α).bind f=.no:=rfl
@[simp] theorem bind_ex {α β:Type}(c:Str) (f:α->Res β):(Res.ex c:Res α).bind f=.ex c:=rfl
@[simp] theorem lft_some {α:Type}(a:α):lft (some a)=.ok a:=rfl
@[simp] theorem lft_none {α:Type}:lft (none:Option α)=.no:=rfl
end Res
class CN where
 ad:Str->Addr
instance (priority:=low) cn0:CN:=⟨fun _=>0⟩
abbrev excD(c:Str):D:=.dict [(.list [],.str c)]
variable [CN]
def rowNames:List Str:=["BadText@0","BadText@1","BadText@2","BadText@3","BadText@4","BadText@5","BadText@6","BadText@7","BadText@8","BadText@9","BadText@10","BadText@11","BadText@12","BadText@13","BadText@14","BadText@15"]
def rowName(n:Nat):Str:=rowNames.getD n ""
def rowOf(c:Str):Option Nat:=rowNames.findIdx? (· == c)
def Row(d:Addr)(r:Int):Heap->Prop:=fun h=>∃t,h.Ns1 d (fun y=>if y="row" then some (.int r t) else none)
theorem Row.keeps{d:Addr}{r:Int}{h h':Heap}(x:Row d r h)(k:∀o,h.get? d=some o->h'.get? d=some o):Row d r h':=by
 obtain⟨t,od,es,ep,e,c⟩:=x
 exact⟨t,od,es,ep,k _ e,c⟩
def excP(a:Addr)(c:Str)(lk:Option Addr):Heap->Prop:=fun h=>∃o,h.get? a=some o/\o.cls=.ref (CN.ad c)/\∀d,lk=some d->o.dict=some d/\∃vs,o.data=.fields vs
def RowR(H:Hp)(O:Addr->Prop)(c:Str)(lk:Option Addr):Prop:=∀r,rowOf c=some r->∃d,lk=some d/\H d=some (.ext (Row d (r:Int)))/\¬O d
mutual
inductive Rep(H:Hp)(O:Addr->Prop):V->D->Prop
 | non:Rep H O .non .none
 | bl (b:Bool):Rep H O (.bl b) (.bool b)
 | int (i:Int):Rep H O (.int i) (.int i)
 | str (x:Str):Rep H O (.str x) (.str x)
 | lst {a:Addr}{xs:List V}{ds:List D}:Rd H a (.lst xs)->¬O a->Reps H O xs ds->Rep H O (.ref a) (.list ds)
 | tup {a:Addr}{xs:List V}{ds:List D}:Rd H a (.tup xs)->¬O a->Reps H O xs ds->Rep H O (.ref a) (.tuple ds)
 | exc {a:Addr}{c:Str}{lk:Option Addr}:H a=some (.ext (excP a c lk))->RowR H O c lk->¬O a->Rep H O (.ref a) (.dict [(.list [],.str c)])
inductive Reps(H:Hp)(O:Addr->Prop):List V->List D->Prop
 | nil:Reps H O [] []
 | cons {v:V}{d:D}{vs:List V}{ds:List D}:Rep H O v d->Reps H O vs ds->Reps H O (v::vs) (d::ds)
end
theorem zA7{H:Hp}{a:Addr}{u:HO}(h:Rd H a u):H a≠none:=by
 rcases h with h | ⟨o,h⟩ <;> (rw[h];exact fun z=>nomatch z)
theorem vF{H H':Hp}{a:Addr}{u:HO}(h:Rd H a u)(k:∀o,H a=some o->H' a=some o):Rd H' a u:=by
 rcases h with h | ⟨o,h⟩
 ·exact .inl (k _ h)
 ·exact .inr ⟨o,k _ h⟩
section
variable {H H':Hp}{O O':Addr->Prop}
mutual
theorem Rep.keep(k:∀b o,H b=some o->¬O b->H' b=some o)(s:∀b,H b≠none->O' b->O b):∀{v:V}{d:D},Rep H O v d->Rep H' O' v d
 | _,_,.non=>.non
 | _,_,.bl b=>.bl b
 | _,_,.int i=>.int i
 | _,_,.str x=>.str x
 | _,_,.lst r n t=>.lst (vF r fun o e=>k _ o e n) (fun z=>n (s _ (zA7 r) z)) (Reps.keep k s t)
 | _,_,.tup r n t=>.tup (vF r fun o e=>k _ o e n) (fun z=>n (s _ (zA7 r) z)) (Reps.keep k s t)
 | _,_,.exc r w n=>.exc (k _ _ r n) (fun r e=>let ⟨d,h1,h2,h3⟩:=w r e; ⟨d,h1,k _ _ h2 h3,fun z=>h3 (s _ (by rw[h2];exact fun z=>nomatch z) z)⟩) (fun z=>n (s _ (by rw[r];exact fun z=>nomatch z) z))
theorem Reps.keep(k:∀b o,H b=some o->¬O b->H' b=some o)(s:∀b,H b≠none->O' b->O b):∀{vs:List V}{ds:List D},Reps H O vs ds->Reps H' O' vs ds
 | _,_,.nil=>.nil
 | _,_,.cons h t=>.cons (Rep.keep k s h) (Reps.keep k s t)
end
mutual
theorem Rep.dat{K:KFr}:∀{v:V}{d:D},Rep H O v d->PyData.canLay0 d=true->DatV K H v d
 | _,_,.non,_=>.non
 | _,_,.bl b,_=>.bl b
 | _,_,.int i,_=>.int i
 | _,_,.str x,_=>.str x
 | _,_,.lst r n t,c=>.lst (.inl r) (Reps.dat t c)
 | _,_,.tup r n t,c=>.tup (.inl r) (Reps.dat t c)
 | _,_,.exc r w n,c=>by cases c
theorem Reps.dat{K:KFr}:∀{vs:List V}{ds:List D},Reps H O vs ds->PyData.canLayAll0 ds=true->DatAll K H vs ds
 | _,_,.nil,_=>.nil
 | _,_,.cons h t,c=>.cons (Rep.dat h (CH.mp c).1) (Reps.dat t (CH.mp c).2)
end
theorem Rep.same{v:V}{d:D}(h:Rep H O v d)(s:Same H H'):Rep H' O v d:=h.keep (fun b o e _=>s b o e) fun _ _ z=>z
theorem Reps.same{v:List V}{d:List D}(h:Reps H O v d)(s:Same H H'):Reps H' O v d:=h.keep (fun b o e _=>s b o e) fun _ _ z=>z
theorem Rep.less{v:V}{d:D}(h:Rep H O v d)(s:∀b,O' b->O b):Rep H O' v d:=h.keep (fun b o e _=>e) fun b _ z=>s b z
theorem Reps.less{v:List V}{d:List D}(h:Reps H O v d)(s:∀b,O' b->O b):Reps H O' v d:=h.keep (fun b o e _=>e) fun b _ z=>s b z
theorem Reps.length:∀{vs:List V}{ds:List D},Reps H O vs ds->vs.length=ds.length
 | _,_,.nil=>rfl
 | _,_,.cons _ t=>AZ (·+1) (Reps.length t)
theorem Reps.get:∀{vs:List V}{ds:List D}{i:Nat}{d:D},Reps H O vs ds->ds[i]?=some d->∃v,vs[i]?=some v/\Rep H O v d
 | _,_,_,_,.nil,e=>by simp at e
 | _,_,0,_,.cons r _,e=>by simp at e;subst e;exact⟨_,rfl,r⟩
 | _,_,i+1,d,.cons _ t,e=>by
  obtain⟨u,h1,h2⟩:=Reps.get (i:=i) (d:=d) t (by simpa using e)
  exact⟨u,by simpa using h1,h2⟩
theorem Reps.append:∀{vs ws:List V}{ds es:List D},Reps H O vs ds->Reps H O ws es->Reps H O (vs++ws) (ds++es)
 | _,_,_,_,.nil,s=>s
 | _,_,_,_,.cons r t,s=>.cons r (Reps.append t s)
theorem Reps.one{v:V}{d:D}(h:Rep H O v d):Reps H O [v] [d]:=.cons h .nil
theorem Reps.take:∀{vs:List V}{ds:List D}(n:Nat),Reps H O vs ds->Reps H O (vs.take n) (ds.take n)
 | _,_,0,_=>.nil
 | _,_,_+1,.nil=>.nil
 | _,_,n+1,.cons r t=>.cons r (Reps.take n t)
theorem Reps.drop:∀{vs:List V}{ds:List D}(n:Nat),Reps H O vs ds->Reps H O (vs.drop n) (ds.drop n)
 | _,_,0,r=>r
 | _,_,_+1,.nil=>.nil
 | _,_,n+1,.cons _ t=>Reps.drop n t
theorem cB:∀(ns:List Int),Reps H O (ns.map V.int) (ns.map PyData.int)
 | []=>.nil
 | n::ns=>.cons (.int n) (cB ns)
theorem Reps.ints:∀{ns:List Int}{vs:List V},Reps H O vs (ns.map PyData.int)->vs=ns.map V.int
 | [],_,h=>by cases h;rfl
 | n::ns,_,h=>by
  cases h with
  | cons r t=>cases r;rw[Reps.ints t];rfl
end
abbrev Ev:=List (Option D)
structure Wd where
 o:Addr->Prop
 la:Nat->Addr
instance:CoeFun Wd (fun _=>Addr->Prop):=⟨Wd.o⟩
abbrev Uni(Oc:Wd)(Ob:Addr->Prop):Addr->Prop:=fun b=>Oc b\/Ob b
def OwnAt(H:Hp)(Oc:Wd)(Ob:Addr->Prop)(v:V)(d:D):Prop:=∃a ys ds,v=.ref a/\d=.list ds/\H a=some (.lst ys)/\Ob a/\Reps H (Uni Oc Ob) ys ds
def LentAt(i:Nat)(H:Hp)(Oc:Wd)(Ob:Addr->Prop)(v:V)(d:D):Prop:=∃ys ds,v=.ref (Oc.la i)/\d=.list ds/\H (Oc.la i)=some (.lst ys)/\Oc (Oc.la i)/\Reps H (Uni Oc Ob) ys ds
structure Rel(Oc:Wd)(Ob:Addr->Prop)(om ln:List Nat)(σ:St)(H:Hp)(ρ:Ev):Prop where
 len:σ.length=ρ.length
 val:∀i d,ρ[i]?=some (some d)->i∉om->i∉ln->∃v,σ[i]?=some (some v)/\Rep H (Uni Oc Ob) v d
 own:∀i d,ρ[i]?=some (some d)->i∈om->∃v,σ[i]?=some (some v)/\OwnAt H Oc Ob v d
 lnt:∀i d,ρ[i]?=some (some d)->i∉om->i∈ln->∃v,σ[i]?=some (some v)/\LentAt i H Oc Ob v d
 inj:∀i j di dj a,ρ[i]?=some (some di)->ρ[j]?=some (some dj)->i∈om->j∈om->σ[i]?=some (some (.ref a))->σ[j]?=some (some (.ref a))->i=j
 oh:∀a,Oc a\/Ob a->H a≠none
 ap:∀a,Ob a->¬Oc a
section
variable {Oc:Wd}{Ob:Addr->Prop}{om ln:List Nat}{σ:St}{H H':Hp}{ρ:Ev}
theorem Same.ne{b:Addr}(s:Same H H')(h:H b≠none):H' b≠none:=by
 cases e:H b with
 | none=>exact absurd e h
 | some o=>rw[s b o e];exact fun z=>nomatch z
theorem Rel.same(R:Rel Oc Ob om ln σ H ρ)(s:Same H H'):Rel Oc Ob om ln σ H' ρ where
 len:=R.len
 val:=fun i d e h1 h2=>let ⟨v,a,b⟩:=R.val i d e h1 h2; ⟨v,a,b.same s⟩
 own:=fun i d e h1=>let ⟨v,q,a,ys,ds,e1,e2,e3,e4,e5⟩:=R.own i d e h1; ⟨v,q,a,ys,ds,e1,e2,s _ _ e3,e4,e5.same s⟩
 lnt:=fun i d e h1 h2=>let ⟨v,q,ys,ds,e1,e2,e3,e4,e5⟩:=R.lnt i d e h1 h2; ⟨v,q,ys,ds,e1,e2,s _ _ e3,e4,e5.same s⟩
 inj:=R.inj
 oh:=fun a h=>Same.ne s (R.oh a h)
 ap:=R.ap
end
inductive Md where
 | cl
 | rd
 | any
 | new
def VA(Oc:Wd)(Ob:Addr->Prop)(H:Hp)(v:V)(d:D):Prop :=
 Rep H (Uni Oc Ob) v d\/∃a ys ds,v=.ref a/\d=.list ds/\H a=some (.lst ys)/\Reps H (Uni Oc Ob) ys ds
def VR:Md->Wd->(Addr->Prop)->Hp->Hp->V->D->Prop
 | .cl,Oc,Ob,_,H',v,d=>Rep H' (Uni Oc Ob) v d
 | .rd,Oc,Ob,_,H',v,d=>Rep H' (Uni Oc Ob) v d\/∃a ys ds,v=.ref a/\d=.list ds/\H' a=some (.lst ys)/\¬Ob a/\Reps H' (Uni Oc Ob) ys ds
 | .any,Oc,Ob,_,H',v,d=>VA Oc Ob H' v d
 | .new,Oc,Ob,H,H',v,d=>∃a ys ds,v=.ref a/\d=.list ds/\H a=none/\H' a=some (.lst ys)/\Reps H' (fun b=>Uni Oc Ob b\/b=a) ys ds
section
variable {Oc:Wd}{Ob:Addr->Prop}{H H1 H2:Hp}{v:V}{d:D}{md:Md}
theorem VR.same(h:VR md Oc Ob H H1 v d)(s:Same H1 H2):VR md Oc Ob H H2 v d:=by
 cases md with
 | cl=>exact Rep.same h s
 | rd =>
  rcases h with h | ⟨a,ys,ds,e1,e2,e3,e4,e5⟩
  ·exact .inl (Rep.same h s)
  ·exact .inr ⟨a,ys,ds,e1,e2,s _ _ e3,e4,e5.same s⟩
 | any =>
  rcases h with h | ⟨a,ys,ds,e1,e2,e3,e5⟩
  ·exact .inl (Rep.same h s)
  ·exact .inr ⟨a,ys,ds,e1,e2,s _ _ e3,e5.same s⟩
 | new =>
  obtain⟨a,ys,ds,e1,e2,e3,e4,e5⟩:=h
  exact⟨a,ys,ds,e1,e2,e3,s _ _ e4,e5.same s⟩
theorem VR.from(h:VR md Oc Ob H1 H2 v d)(s:Same H H1):VR md Oc Ob H H2 v d:=by
 cases md with
 | new =>
  obtain⟨a,ys,ds,e1,e2,e3,e4,e5⟩:=h
  exact⟨a,ys,ds,e1,e2,s.free e3,e4,e5⟩
 | _=>exact h
theorem VR.clean(h:VR .new Oc Ob H H1 v d)(oh:∀a,Oc a\/Ob a->H a≠none):VR .cl Oc Ob H H1 v d:=by
 obtain⟨a,ys,ds,rfl,rfl,e3,e4,e5⟩:=h
 exact .lst (.inl e4) (fun z=>oh a z e3) (e5.less fun b z=>.inl z)
theorem VR.va(h:VR md Oc Ob H H1 v d)(oh:∀a,Oc a\/Ob a->H a≠none):VA Oc Ob H1 v d:=by
 cases md with
 | cl=>exact .inl h
 | rd =>
  rcases h with h | ⟨a,ys,ds,e1,e2,e3,e4,e5⟩
  ·exact .inl h
  ·exact .inr ⟨a,ys,ds,e1,e2,e3,e5⟩
 | any=>exact h
 | new=>exact .inl (VR.clean h oh)
theorem VA.dat{K:KFr}(h:VA Oc Ob H v d)(c:PyData.canLay0 d=true):DatV K H v d:=by
 rcases h with h | ⟨a,ys,ds,rfl,rfl,e3,e5⟩
 ·exact h.dat c
 ·exact .lst (SqL.of e3) (e5.dat c)
theorem VA.datS{K:KFr}(h:VA Oc Ob H v d)(c:SeqAt.shaped d=true):DatV K H v d:=h.dat (SeqAt.canLay_of_shaped c)
theorem VA.list{ds:List D}(h:VA Oc Ob H v (.list ds)):∃a ys,v=.ref a/\Rd H a (.lst ys)/\Reps H (Uni Oc Ob) ys ds:=by
 rcases h with h | ⟨a,ys,ds,rfl,e,e3,e5⟩
 ·cases h with
  | lst r n t=>exact⟨_,_,rfl,r,t⟩
 ·cases e
  exact⟨a,ys,rfl,.inl e3,e5⟩
theorem VA.tuple{ds:List D}(h:VA Oc Ob H v (.tuple ds)):∃a ys,v=.ref a/\Rd H a (.tup ys)/\Reps H (Uni Oc Ob) ys ds:=by
 rcases h with h | ⟨a,ys,ds,rfl,e,e3,e5⟩
 ·cases h with
  | tup r n t=>exact⟨_,_,rfl,r,t⟩
 ·cases e
theorem VA.int{i:Int}(h:VA Oc Ob H v (.int i)):v=.int i:=by
 rcases h with h | ⟨a,ys,ds,rfl,e,e3,e5⟩
 ·cases h;rfl
 ·cases e
theorem VA.bool{i:Bool}(h:VA Oc Ob H v (.bool i)):v=.bl i:=by
 rcases h with h | ⟨a,ys,ds,rfl,e,e3,e5⟩
 ·cases h;rfl
 ·cases e
theorem VA.none(h:VA Oc Ob H v .none):v=.non:=by
 rcases h with h | ⟨a,ys,ds,rfl,e,e3,e5⟩
 ·cases h;rfl
 ·cases e
theorem VA.str{x:Str}(h:VA Oc Ob H v (.str x)):v=.str x:=by
 rcases h with h | ⟨a,ys,ds,rfl,e,e3,e5⟩
 ·cases h;rfl
 ·cases e
theorem VA.rep(h:VA Oc Ob H v d):Rep H (fun _=>False) v d:=by
 rcases h with h | ⟨a,ys,ds,rfl,rfl,e3,e5⟩
 ·exact h.less fun _ z=>z.elim
 ·exact .lst (.inl e3) (fun z=>z) (e5.less fun _ z=>z.elim)
end
structure Ct where
 X:Cx
 XE:Str->Hp->Prop
 om:List Nat
 ln:List Nat
def RE(C:Ct)(md:Md)(e:Expr)(m:Ev->Res D):Prop :=
 ∃t,PE C.X e t/\∀(Oc:Wd) (Ob:Addr->Prop) (σ:St) (H:Hp) (ρ:Ev) (Q:VK),Rel Oc Ob C.om C.ln σ H ρ ->
  (m ρ).post (fun d=>∀v H',Same H H'->VR md Oc Ob H H' v d->Q v H') (fun c=>∀H',Same H H'->C.XE c H')->t σ H Q
def RT(C:Ct)(e:Expr)(m:Ev->Res Bool):Prop :=
 ∃t,PT C.X e t/\∀(Oc:Wd) (Ob:Addr->Prop) (σ:St) (H:Hp) (ρ:Ev) (Q:Bool->Hp->Prop),Rel Oc Ob C.om C.ln σ H ρ ->
  (m ρ).post (fun b=>∀H',Same H H'->Q b H') (fun c=>∀H',Same H H'->C.XE c H')->t σ H Q
def RW(C:Ct)(e:Expr)(m:Ev->Res Bool):Prop :=
 ∃t,PW C.X e t/\∀(Oc:Wd) (Ob:Addr->Prop) (σ:St) (H:Hp) (ρ:Ev) (Q:Bool->Hp->Prop),Rel Oc Ob C.om C.ln σ H ρ ->
  (m ρ).post (fun b=>∀H',Same H H'->Q b H') (fun c=>∀H',Same H H'->C.XE c H')->t σ H Q
inductive Out where
 | nx (ρ:Ev)
 | rt (d:D)
def Frm(Ob:Addr->Prop)(H H':Hp):Prop:=∀b o,H b=some o->¬Ob b->H' b=some o
theorem Same.frm{Ob:Addr->Prop}{H H':Hp}(s:Same H H'):Frm Ob H H':=fun b o e _=>s b o e
def RetOk:Bool->Wd->(Addr->Prop)->Hp->Hp->V->D->Prop
 | true,Oc,Ob,H,H',v,d=>∃a ys ds,v=.ref a/\d=.list ds/\(H a=none\/Ob a)/\¬Oc a/\H' a=some (.lst ys)/\Reps H' (fun b=>Oc b\/b=a) ys ds
 | false,Oc,_,_,H',v,d=>Rep H' Oc.o v d
def SPost(C:Ct)(fr:Bool)(Oc:Wd)(Ob:Addr->Prop)(H:Hp)(E:Ends)(r:Res Out):Prop :=
 r.post (fun o=>match o with
  | .nx ρ'=>∀σ' H' Ob',Rel Oc Ob' C.om C.ln σ' H' ρ'->Frm Ob H H'->(∀b,Ob' b->Ob b\/H b=none)->E.nx σ' H'
  | .rt d=>∀v H',Frm Ob H H'->RetOk fr Oc Ob H H' v d->E.rt v H') (fun c=>∀H',Frm Ob H H'->C.XE c H')
def RS(C:Ct)(fr:Bool)(st:Stmt)(m:Ev->Res Out):Prop :=
 ∃t,PS C.X st t/\∀(Oc:Wd) (Ob:Addr->Prop) (σ:St) (H:Hp) (ρ:Ev) (E:Ends),Rel Oc Ob C.om C.ln σ H ρ->SPost C fr Oc Ob H E (m ρ)->t E σ H
def RSs(C:Ct)(fr:Bool)(st:List Stmt)(m:Ev->Res Out):Prop :=
 ∃t,PSs C.X st t/\∀(Oc:Wd) (Ob:Addr->Prop) (σ:St) (H:Hp) (ρ:Ev) (E:Ends),Rel Oc Ob C.om C.ln σ H ρ->SPost C fr Oc Ob H E (m ρ)->t E σ H
section
variable {C:Ct}{fr:Bool}{Oc:Wd}{Ob Ob1 Ob2:Addr->Prop}{H H1 H2:Hp}{E:Ends}{r:Res Out}
theorem Frm.trans(f:Frm Ob H H1)(s:∀b,Ob1 b->Ob b\/H b=none)(g:Frm Ob1 H1 H2):Frm Ob H H2:=fun b o e n =>
 g b o (f b o e n) fun z=>(s b z).elim n fun q=>by rw[e] at q;cases q
theorem Frm.none(f:Frm Ob H H1){b:Addr}(h:H1 b=none):Ob b\/H b=none:=by
 by_cases n:Ob b
 ·exact .inl n
 ·cases e:H b with
  | none=>exact .inr rfl
  | some o=>rw[f b o e n] at h;cases h
theorem SPost.step(f:Frm Ob H H1)(s:∀b,Ob1 b->Ob b\/H b=none)(h:SPost C fr Oc Ob H E r):SPost C fr Oc Ob1 H1 E r:=by
 refine Res.zT h (fun o _ q => ?_) fun c q H' g=>q H' (f.trans s g)
 cases o with
 | nx ρ'=>exact fun σ' H' Ob' R g s'=>q σ' H' Ob' R (f.trans s g) fun b z=>(s' b z).elim (s b) fun z=>f.none z
 | rt d =>
  refine fun v H' g k=>q v H' (f.trans s g) ?_
  cases fr with
  | false=>exact k
  | true =>
   obtain⟨a,ys,ds,e1,e2,e3,e4,e5,e6⟩:=k
   refine⟨a,ys,ds,e1,e2,?_,e4,e5,e6⟩
   rcases e3 with e3 | e3
   ·exact (f.none e3).symm
   ·exact (s a e3).symm
theorem SPost.same(f:Same H H1)(h:SPost C fr Oc Ob H E r):SPost C fr Oc Ob H1 E r:=h.step (Same.frm f) fun b z=>.inl z
end
end L2.L3
namespace L2.L3
open PySem PySem.Spec PyProof.Rows
variable [CN]
section
variable {C:Ct}{a b c e:Expr}{es:List Expr}{pos:Pos}{md mda mdb mdc:Md}{ma mb mc:Ev->Res D}
theorem RE.cl(h:RE C .new e ma):RE C .cl e ma:=by
 obtain⟨t,p,q⟩:=h
 exact⟨t,p,fun Oc Ob σ H ρ Q R h=>q Oc Ob σ H ρ Q R (Res.zT h (fun d _ k v H' s r=>k v H' s (VR.clean r R.oh)) fun _ z=>z)⟩
theorem RE.rd(h:RE C .cl e ma):RE C .rd e ma:=by
 obtain⟨t,p,q⟩:=h
 exact⟨t,p,fun Oc Ob σ H ρ Q R h=>q Oc Ob σ H ρ Q R (Res.zT h (fun d _ k v H' s r=>k v H' s (.inl r)) fun _ z=>z)⟩
def eC(d:D):Ev->Res D:=fun _=>.ok d
theorem zN{i j}:RE C .cl (.Constant (.int i) j pos) (eC (.int i)):=⟨_,xX,fun Oc Ob σ H ρ Q R h=>h _ H (Same.refl H) (Rep.int i)⟩
theorem jU{i j}:RE C .cl (.Constant (.bool i) j pos) (eC (.bool i)):=⟨_,yA5,fun Oc Ob σ H ρ Q R h=>h _ H (Same.refl H) (Rep.bl i)⟩
theorem xN{j}:RE C .cl (.Constant .none j pos) (eC .none):=⟨_,aY,fun Oc Ob σ H ρ Q R h=>h _ H (Same.refl H) Rep.non⟩
theorem zC{i j}:RE C .cl (.Constant (.str i) j pos) (eC (.str i)):=⟨_,gM,fun Oc Ob σ H ρ Q R h=>h _ H (Same.refl H) (Rep.str i)⟩
def eV(i:Nat):Ev->Res D:=fun ρ=>match ρ[i]? with
 | some (some d)=>.ok d
 | _=>.no
theorem aH{i:Nat}{ρ:Ev}{Q:D->Prop}{E:Str->Prop}(h:(eV i ρ).post Q E):∃d,ρ[i]?=some (some d)/\Q d:=by
 unfold eV at h
 split at h
 ·exact⟨_,by assumption,h⟩
 ·exact h.elim
theorem xL{i:Nat}{l:List Nat}(h:l.contains i=false):i∉l:=by
 intro z
 rw[AT.mpr z] at h
 cases h
theorem bL{i:Nat}{l:List Nat}(h:l.contains i=true):i∈l:=AT.mp h
theorem zZ(i:Nat){x:Str}(hN:autoParam (C.X.N[i]?=some x) DI)(ho:autoParam (C.om.contains i=false) DI)(hl:autoParam (C.ln.contains i=false) DI)(hv:autoParam (Vis C.X.env.scope x) aJ._auto_1)(hd:autoParam ((x == ("__debug__":Str))=false) DH)
  (hcd:autoParam ((x == ("__classdict__":Str))=false) DH):RE C .cl (.Name x pos) (eV i):=by
 refine⟨_,bB hN hv hd hcd,fun Oc Ob σ H ρ Q R h => ?_⟩
 obtain⟨d,e,k⟩:=aH h
 obtain⟨v,q,r⟩:=R.val i d e (xL ho) (xL hl)
 exact⟨v,q,k v H (Same.refl H) r⟩
theorem jJ(i:Nat){x:Str}(hN:autoParam (C.X.N[i]?=some x) DI)(ho:autoParam (C.om.contains i=true) DI)(hv:autoParam (Vis C.X.env.scope x) aJ._auto_1)(hd:autoParam ((x == ("__debug__":Str))=false) DH)
  (hcd:autoParam ((x == ("__classdict__":Str))=false) DH):RE C .any (.Name x pos) (eV i):=by
 refine⟨_,bB hN hv hd hcd,fun Oc Ob σ H ρ Q R h => ?_⟩
 obtain⟨d,e,k⟩:=aH h
 obtain⟨v,q,a,ys,ds,e1,e2,e3,e4,e5⟩:=R.own i d e (bL ho)
 exact⟨v,q,k v H (Same.refl H) (.inr ⟨a,ys,ds,e1,e2,e3,e5⟩)⟩
theorem zV1{x:Str}{i:Int}{u:Value}(hm:C.X.mg x=some u)(r:RelV (.int i) u)(hg:autoParam (Gl C.X x) DI)(hd:autoParam ((x == ("__debug__":Str))=false) DH):RE C .cl (.Name x pos) (eC (.int i)) :=
 ⟨_,zO4 hg hm r hd,fun Oc Ob σ H ρ Q R h=>h _ H (Same.refl H) (Rep.int i)⟩
def e2(f:D->D->Option D)(m n:Ev->Res D):Ev->Res D:=fun ρ=>(m ρ).bind fun x=>(n ρ).bind fun y=>Res.lft (f x y)
def Pr2(r:R2)(md:Md)(f:D->D->Option D):Prop :=
 ∀(Oc:Wd) (Ob:Addr->Prop) (H:Hp) (x y:V) (dx dy d:D) (Q:VK),(∀a,Oc a\/Ob a->H a≠none)->VA Oc Ob H x dx->VA Oc Ob H y dy->f dx dy=some d->(∀v H',Same H H'->VR md Oc Ob H H' v d->Q v H')->r x y H Q
theorem two{ta tb:TE}{f:D->D->Option D}{r:R2}(ha:∀(Oc:Wd) (Ob:Addr->Prop) (σ:St) (H:Hp) (ρ:Ev) (Q:VK),Rel Oc Ob C.om C.ln σ H ρ->(ma ρ).post (fun d=>∀v H',Same H H'->VR mda Oc Ob H H' v d->Q v H') (fun c=>∀H',Same H H'->C.XE c H')->ta σ H Q)
  (hb:∀(Oc:Wd) (Ob:Addr->Prop) (σ:St) (H:Hp) (ρ:Ev) (Q:VK),Rel Oc Ob C.om C.ln σ H ρ->(mb ρ).post (fun d=>∀v H',Same H H'->VR mdb Oc Ob H H' v d->Q v H') (fun c=>∀H',Same H H'->C.XE c H')->tb σ H Q) (hp:Pr2 r md f)
  {Oc:Wd}{Ob:Addr->Prop}{σ:St}{H:Hp}{ρ:Ev}{Q:VK}(R:Rel Oc Ob C.om C.ln σ H ρ) (h:(e2 f ma mb ρ).post (fun d=>∀v H',Same H H'->VR md Oc Ob H H' v d->Q v H') (fun c=>∀H',Same H H'->C.XE c H')) :
  ta σ H fun x H1=>tb σ H1 fun y H2=>r x y H2 Q:=by
 refine ha Oc Ob σ H ρ _ R (Res.zT (Res.zU h) (fun dx _ q x H1 s1 vx => ?_) fun _ z=>z)
 refine hb Oc Ob σ H1 ρ _ (R.same s1) (Res.zT (Res.zU q) (fun dy _ q y H2 s2 vy => ?_) fun c z H' s'=>z H' (s1.trans s'))
 obtain⟨d,e,q⟩:=Res.yV q
 have oh2:=((R.same s1).same s2).oh
 refine hp Oc Ob H2 x y dx dy d Q oh2 ((vx.same s2).va R.oh) (vy.va (R.same s1).oh) e fun v H' s3 r => ?_
 exact q v H' ((s1.trans s2).trans s3) (r.from (s1.trans s2))
theorem zL{op:Operator}{r:R2}{f:D->D->Option D}(ho:OpR C.X (binaryOp op) r)(hp:Pr2 r md f)(ha:RE C mda a ma)(hb:RE C mdb b mb):RE C md (.BinOp a op b pos) (e2 f ma mb):=by
 obtain⟨ta,pa,qa⟩:=ha
 obtain⟨tb,pb,qb⟩:=hb
 exact⟨_,uH ho pa pb,fun Oc Ob σ H ρ Q R h=>two qa qb hp R h⟩
theorem xT{r:R2}{f:D->D->Option D}(ho:IxR C.X r)(hp:Pr2 r md f)(ha:RE C mda a ma)(hb:RE C mdb b mb)(hs:autoParam (PlainIx b) xL5._auto_1):RE C md (.Subscript a b pos) (e2 f ma mb):=by
 obtain⟨ta,pa,qa⟩:=ha
 obtain⟨tb,pb,qb⟩:=hb
 exact⟨_,vE ho pa pb hs,fun Oc Ob σ H ρ Q R h=>two qa qb hp R h⟩
def PrB(r:R2)(f:D->D->Option Bool):Prop :=
 ∀(Oc:Wd) (Ob:Addr->Prop) (H:Hp) (x y:V) (dx dy:D) (k:Bool) (Q:VK),VA Oc Ob H x dx->VA Oc Ob H y dy->f dx dy=some k->Q (.bl k) H->r x y H Q
def bD(o:Option Bool):Option D:=o.map PyData.bool
theorem PrB.pr{r:R2}{f:D->D->Option Bool}(h:PrB r f):Pr2 r .cl (fun x y=>bD (f x y)):=by
 intro Oc Ob H x y dx dy d Q oh vx vy e k
 cases ef:f dx dy with
 | none=>simp only[ef] at e;cases e
 | some b =>
  simp only[ef] at e
  cases e
  exact h Oc Ob H x y dx dy b Q vx vy ef (k _ H (Same.refl H) (Rep.bl b))
theorem zR7{op:CmpOp}{r:R2}{f:D->D->Option Bool}(ho:OpR C.X (compareOp op) r)(hp:PrB r f)(ha:RE C mda a ma)(hb:RE C mdb b mb)(hm:autoParam (behindInMarks op b=false) yU6._auto_1):RE C .cl (.Compare a [op] [b] pos) (e2 (fun x y=>bD (f x y)) ma mb):=by
 obtain⟨ta,pa,qa⟩:=ha
 obtain⟨tb,pb,qb⟩:=hb
 exact⟨_,xY5 ho pa pb hm,fun Oc Ob σ H ρ Q R h=>two qa qb hp.pr R h⟩
def b2(f:D->D->Option Bool)(m n:Ev->Res D):Ev->Res Bool:=fun ρ=>(m ρ).bind fun x=>(n ρ).bind fun y=>Res.lft (f x y)
theorem xM1{f:D->D->Option Bool}{ρ:Ev}{Q:Bool->Hp->Prop}{H:Hp}{E:Str->Prop}{Oc:Wd}{Ob:Addr->Prop}(h:(b2 f ma mb ρ).post (fun b=>∀H',Same H H'->Q b H') E) :
  (e2 (fun x y=>bD (f x y)) ma mb ρ).post (fun d=>∀v H',Same H H'->VR .cl Oc Ob H H' v d->∃k,v=.bl k/\Q k H') E:=by
 unfold e2
 unfold b2 at h
 cases ea:ma ρ with
 | no=>rw[ea] at h;exact h
 | ex c=>rw[ea] at h;exact h
 | ok x =>
  rw[ea] at h
  simp only[Res.bind_ok] at h ⊢
  cases eb:mb ρ with
  | no=>rw[eb] at h;exact h
  | ex c=>rw[eb] at h;exact h
  | ok y =>
   rw[eb] at h
   simp only[Res.bind_ok] at h ⊢
   obtain⟨k,ek,q⟩:=Res.yV h
   rw[ek]
   intro v H' s r
   have:v=.bl k:=by cases r;rfl
   exact⟨k,this,q H' s⟩
theorem zG{op:CmpOp}{r:R2}{f:D->D->Option Bool}(ho:OpR C.X (compareOp op) r)(hp:PrB r f)(ha:RE C mda a ma)(hb:RE C mdb b mb)(hm:autoParam (behindInMarks op b=false) yU6._auto_1):RT C (.Compare a [op] [b] pos) (b2 f ma mb):=by
 obtain⟨ta,pa,qa⟩:=ha
 obtain⟨tb,pb,qb⟩:=hb
 exact⟨_,uR ho pa pb hm,fun Oc Ob σ H ρ Q R h=>two qa qb hp.pr R (xM1 h)⟩
def b3(f g:D->D->Option Bool)(m n o:Ev->Res D):Ev->Res Bool:=fun ρ=>(m ρ).bind fun x=>(n ρ).bind fun y=>(Res.lft (f x y)).bind fun k=>if k then (o ρ).bind fun z=>Res.lft (g y z) else .ok false
theorem chain3{ta tb tc:TE}{f g:D->D->Option Bool}{r r':R2}(ha:∀(Oc:Wd) (Ob:Addr->Prop) (σ:St) (H:Hp) (ρ:Ev) (Q:VK),Rel Oc Ob C.om C.ln σ H ρ->(ma ρ).post (fun d=>∀v H',Same H H'->VR mda Oc Ob H H' v d->Q v H') (fun c=>∀H',Same H H'->C.XE c H')->ta σ H Q)
  (hb:∀(Oc:Wd) (Ob:Addr->Prop) (σ:St) (H:Hp) (ρ:Ev) (Q:VK),Rel Oc Ob C.om C.ln σ H ρ->(mb ρ).post (fun d=>∀v H',Same H H'->VR mdb Oc Ob H H' v d->Q v H') (fun c=>∀H',Same H H'->C.XE c H')->tb σ H Q)
  (hc:∀(Oc:Wd) (Ob:Addr->Prop) (σ:St) (H:Hp) (ρ:Ev) (Q:VK),Rel Oc Ob C.om C.ln σ H ρ->(mc ρ).post (fun d=>∀v H',Same H H'->VR mdc Oc Ob H H' v d->Q v H') (fun c=>∀H',Same H H'->C.XE c H')->tc σ H Q) (hp:PrB r f) (hp':PrB r' g)
  {Oc:Wd}{Ob:Addr->Prop}{σ:St}{H:Hp}{ρ:Ev}{Q:VK}(R:Rel Oc Ob C.om C.ln σ H ρ) (h:(b3 f g ma mb mc ρ).post (fun d=>∀H',Same H H'->Q (.bl d) H') (fun c=>∀H',Same H H'->C.XE c H')) :
  tChain r r' ta tb tc σ H Q:=by
 refine ha Oc Ob σ H ρ _ R (Res.zT (Res.zU h) (fun dx _ q x H1 s1 vx => ?_) fun _ z=>z)
 refine hb Oc Ob σ H1 ρ _ (R.same s1) (Res.zT (Res.zU q) (fun dy _ q y H2 s2 vy => ?_) fun c z H' s'=>z H' (s1.trans s'))
 obtain⟨k,e,q⟩:=Res.yV (Res.zU q)
 have R2:=(R.same s1).same s2
 refine hp Oc Ob H2 x y dx dy k _ ((vx.same s2).va R.oh) (vy.va (R.same s1).oh) e ⟨k,rfl,?_⟩
 cases k with
 | false=>exact iteF (q H2 (s1.trans s2))
 | true =>
  refine iteT (hc Oc Ob σ H2 ρ _ R2 (Res.zT (Res.zU q) (fun dz _ q z H3 s3 vz => ?_) fun c z H' s'=>z H' ((s1.trans s2).trans s')))
  obtain⟨k,e,q⟩:=Res.yV q
  exact hp' Oc Ob H3 y z dy dz k _ ((vy.same s3).va (R.same s1).oh) (vz.va R2.oh) e (q H3 ((s1.trans s2).trans s3))
theorem zF4{op op':CmpOp}{r r':R2}{f g:D->D->Option Bool}(ho:OpR C.X (compareOp op) r)(ho':OpR C.X (compareOp op') r')(hp:PrB r f)(hp':PrB r' g)(ha:RE C mda a ma)(hb:RE C mdb b mb)(hc:RE C mdc c mc)
  (hm:autoParam (lastMarks [op,op'] [b,c]=false) yH8._auto_1):RT C (.Compare a [op,op'] [b,c] pos) (b3 f g ma mb mc):=by
 obtain⟨ta,pa,qa⟩:=ha
 obtain⟨tb,pb,qb⟩:=hb
 obtain⟨tc,pc,qc⟩:=hc
 exact⟨_,yE8 ho ho' pa pb pc hm,fun Oc Ob σ H ρ Q R h=>chain3 qa qb qc hp hp' R (Res.zT h (fun b _ q H' s=>⟨b,rfl,q H' s⟩) fun _ z=>z)⟩
variable {ta' tb':Ev->Res Bool}{rest:List Expr}
def isB:D->Option Bool
 | .bool b=>some b
 | _=>none
def tV(m:Ev->Res D):Ev->Res Bool:=fun ρ=>(m ρ).bind fun d=>Res.lft (isB d)
theorem zX3{d:D}{b:Bool}(h:isB d=some b):d=.bool b:=by
 cases d <;> simp[isB] at h ⊢
 exact h
theorem vZ(h:RE C md a ma)(he:autoParam (∀whole,isTrue a C.X.env whole=(do let v <-whole;standAt a.pos;holding [v] (truthy v))) DG):RT C a (tV ma):=by
 obtain⟨t,p,q⟩:=h
 refine⟨_,zB5 p he,fun Oc Ob σ H ρ Q R h=>q Oc Ob σ H ρ _ R (Res.zT (Res.zU h) (fun d _ k v H' s r => ?_) fun _ z=>z)⟩
 obtain⟨b,e,k⟩:=Res.yV k
 obtain rfl:=zX3 e
 exact⟨b,(r.va R.oh).bool,k H' s⟩
def tNt(m:Ev->Res Bool):Ev->Res Bool:=fun ρ=>(m ρ).bind fun b=>.ok (!b)
theorem vT(h:RT C a ta'):RT C (.UnaryOp .Not a pos) (tNt ta'):=by
 obtain⟨t,p,q⟩:=h
 exact⟨_,yJ9 p,fun Oc Ob σ H ρ Q R h=>q Oc Ob σ H ρ _ R (Res.zT (Res.zU h) (fun d _ k=>k) fun _ z=>z)⟩
def tAn(m n:Ev->Res Bool):Ev->Res Bool:=fun ρ=>(m ρ).bind fun b=>if b then n ρ else .ok false
def tO(m n:Ev->Res Bool):Ev->Res Bool:=fun ρ=>(m ρ).bind fun b=>if b then .ok true else n ρ
theorem rw_and1(h:RT C a ta'):RW C (.BoolOp .And [a] pos) ta':=by
 obtain⟨t,p,q⟩:=h
 exact⟨_,pw_and1 p,q⟩
theorem rw_or1(h:RT C a ta'):RW C (.BoolOp .Or [a] pos) ta':=by
 obtain⟨t,p,q⟩:=h
 exact⟨_,pw_or1 p,q⟩
theorem rw_and(ha:RT C a ta')(hb:RW C (.BoolOp .And (b::rest) pos) tb'):RW C (.BoolOp .And (a::b::rest) pos) (tAn ta' tb'):=by
 obtain⟨t,p,q⟩:=ha
 obtain⟨t',p',q'⟩:=hb
 refine⟨_,pw_and p p',fun Oc Ob σ H ρ Q R h=>q Oc Ob σ H ρ _ R (Res.zT (Res.zU h) (fun b _ k H' s => ?_) fun _ z=>z)⟩
 cases b with
 | true=>exact iteT (q' Oc Ob σ H' ρ Q (R.same s) (Res.zT k (fun b _ k H2 s2=>k H2 (s.trans s2)) fun c z H2 s2=>z H2 (s.trans s2)))
 | false=>exact iteF (k H' s)
theorem rw_or(ha:RT C a ta')(hb:RW C (.BoolOp .Or (b::rest) pos) tb'):RW C (.BoolOp .Or (a::b::rest) pos) (tO ta' tb'):=by
 obtain⟨t,p,q⟩:=ha
 obtain⟨t',p',q'⟩:=hb
 refine⟨_,pw_or p p',fun Oc Ob σ H ρ Q R h=>q Oc Ob σ H ρ _ R (Res.zT (Res.zU h) (fun b _ k H' s => ?_) fun _ z=>z)⟩
 cases b with
 | false=>exact iteF (q' Oc Ob σ H' ρ Q (R.same s) (Res.zT k (fun b _ k H2 s2=>k H2 (s.trans s2)) fun c z H2 s2=>z H2 (s.trans s2)))
 | true=>exact iteT (k H' s)
theorem RW.rt(h:RW C a ta'):RT C a ta':=by
 obtain⟨t,p,q⟩:=h
 exact⟨_,p.pt,q⟩
theorem zS6{op}(h:RE C md a ma):RE C md (.BoolOp op [a] pos) ma:=by
 obtain⟨t,p,q⟩:=h
 exact⟨_,xO5 p,q⟩
def vAn(m n:Ev->Res D):Ev->Res D:=fun ρ=>(m ρ).bind fun d=>(Res.lft (isB d)).bind fun b=>if b then n ρ else .ok (.bool false)
def vNt(m:Ev->Res D):Ev->Res D:=fun ρ=>(m ρ).bind fun d=>(Res.lft (isB d)).bind fun b=>.ok (.bool (!b))
theorem zS8(ha:RE C mda a ma)(hb:RE C .cl (.BoolOp .And (b::rest) pos) mb):RE C .cl (.BoolOp .And (a::b::rest) pos) (vAn ma mb):=by
 obtain⟨t,p,q⟩:=ha
 obtain⟨t',p',q'⟩:=hb
 refine⟨_,xL4 p p',fun Oc Ob σ H ρ Q R h=>q Oc Ob σ H ρ _ R (Res.zT (Res.zU h) (fun d _ k v H' s r => ?_) fun _ z=>z)⟩
 obtain⟨b,e,k⟩:=Res.yV (Res.zU k)
 obtain rfl:=zX3 e
 refine⟨b,(r.va R.oh).bool,?_⟩
 cases b with
 | true=>exact iteT (q' Oc Ob σ H' ρ Q (R.same s) (Res.zT k (fun b _ k v H2 s2 r=>k v H2 (s.trans s2) r) fun c z H2 s2=>z H2 (s.trans s2)))
 | false=>exact iteF (k _ H' s (Rep.bl false))
theorem yN4(ha:RE C mda a ma):RE C .cl (.UnaryOp .Not a pos) (vNt ma):=by
 obtain⟨t,p,q⟩:=ha
 refine⟨_,xM9 p,fun Oc Ob σ H ρ Q R h=>q Oc Ob σ H ρ _ R (Res.zT (Res.zU h) (fun d _ k v H' s r => ?_) fun _ z=>z)⟩
 obtain⟨b,e,k⟩:=Res.yV (Res.zU k)
 obtain rfl:=zX3 e
 exact⟨b,(r.va R.oh).bool,k _ H' s (Rep.bl _)⟩
def e1(f:D->Option D)(m:Ev->Res D):Ev->Res D:=fun ρ=>(m ρ).bind fun x=>Res.lft (f x)
def negD:D->Option D
 | .int i=>some (.int (-i))
 | _=>none
theorem xR1(ha:RE C mda a ma):RE C .cl (.UnaryOp .USub a pos) (e1 negD ma):=by
 obtain⟨t,p,q⟩:=ha
 refine⟨_,yS7 zF3 p,fun Oc Ob σ H ρ Q R h=>q Oc Ob σ H ρ _ R (Res.zT (Res.zU h) (fun d _ k v H' s r => ?_) fun _ z=>z)⟩
 obtain⟨d',e,k⟩:=Res.yV k
 cases d with
 | int i =>
  cases e
  exact⟨i,(r.va R.oh).int,k _ H' s (Rep.int _)⟩
 | _=>cases e
end
inductive VAs(Oc:Wd)(Ob:Addr->Prop)(H:Hp):List V->List D->Prop
 | nil:VAs Oc Ob H [] []
 | cons {v:V}{d:D}{vs:List V}{ds:List D}:VA Oc Ob H v d->VAs Oc Ob H vs ds->VAs Oc Ob H (v::vs) (d::ds)
section
variable {Oc:Wd}{Ob:Addr->Prop}{H H':Hp}
theorem VAs.rep:∀{vs:List V}{ds:List D},VAs Oc Ob H vs ds->Reps H (fun _=>False) vs ds
 | _,_,.nil=>.nil
 | _,_,.cons h t=>.cons h.rep (VAs.rep t)
theorem VA.same{v:V}{d:D}(h:VA Oc Ob H v d)(s:Same H H'):VA Oc Ob H' v d:=VR.same (md:=.any) (H:=H) h s
end
def VQ:Bool->Wd->(Addr->Prop)->Hp->List V->List D->Prop
 | true,Oc,Ob,H,vs,ds=>Reps H (Uni Oc Ob) vs ds
 | false,Oc,Ob,H,vs,ds=>VAs Oc Ob H vs ds
def RArg(C:Ct)(cl:Bool)(es:List Expr)(m:Ev->Res (List D)):Prop :=
 ∃t,PA C.X es t/\∀(Oc:Wd) (Ob:Addr->Prop) (σ:St) (H:Hp) (ρ:Ev) (Q:List V->Hp->Prop),Rel Oc Ob C.om C.ln σ H ρ ->
  (m ρ).post (fun ds=>∀vs H',Same H H'->VQ cl Oc Ob H' vs ds->Q vs H') (fun c=>∀H',Same H H'->C.XE c H')->t σ H Q
section
variable {C:Ct}{a b c e:Expr}{es:List Expr}{pos p:Pos}{md mda mdb mdc:Md}{ma mb mc:Ev->Res D}{ms:Ev->Res (List D)}{cl:Bool}
def aN:Ev->Res (List D):=fun _=>.ok []
def aC(m:Ev->Res D)(n:Ev->Res (List D)):Ev->Res (List D):=fun ρ=>(m ρ).bind fun x=>(n ρ).bind fun xs=>.ok (x::xs)
theorem zW:RArg C cl [] aN:=⟨_,zA,fun Oc Ob σ H ρ Q R h=>h [] H (Same.refl H) (by cases cl;exact VAs.nil;exact Reps.nil)⟩
theorem zX(ha:RE C .cl e ma)(hr:RArg C true es ms)(hs:autoParam (starEach (e::es) C.X.env=(false,eval e C.X.env)::starEach es C.X.env) DI):RArg C true (e::es) (aC ma ms):=by
 obtain⟨t,p,q⟩:=ha
 obtain⟨t',p',q'⟩:=hr
 refine⟨_,zP p p' hs,fun Oc Ob σ H ρ Q R h=>q Oc Ob σ H ρ _ R (Res.zT (Res.zU h) (fun d _ k v H' s r => ?_) fun _ z=>z)⟩
 refine q' Oc Ob σ H' ρ _ (R.same s) (Res.zT (Res.zU k) (fun ds _ k vs H2 s2 r2 => ?_) fun c z H2 s2=>z H2 (s.trans s2))
 exact k _ H2 (s.trans s2) (Reps.cons (r.same s2) r2)
theorem zS(ha:RE C md e ma)(hr:RArg C false es ms)(hs:autoParam (starEach (e::es) C.X.env=(false,eval e C.X.env)::starEach es C.X.env) DI):RArg C false (e::es) (aC ma ms):=by
 obtain⟨t,p,q⟩:=ha
 obtain⟨t',p',q'⟩:=hr
 refine⟨_,zP p p' hs,fun Oc Ob σ H ρ Q R h=>q Oc Ob σ H ρ _ R (Res.zT (Res.zU h) (fun d _ k v H' s r => ?_) fun _ z=>z)⟩
 refine q' Oc Ob σ H' ρ _ (R.same s) (Res.zT (Res.zU k) (fun ds _ k vs H2 s2 r2 => ?_) fun c z H2 s2=>z H2 (s.trans s2))
 exact k _ H2 (s.trans s2) (VAs.cons ((r.va R.oh).same s2) r2)
def mkL(ds:List D):Option D:=if ds.length<=sizeLine then some (.list ds) else none
def mkT(ds:List D):Option D:=if ds.length<=sizeLine then some (.tuple ds) else none
def eB(f:List D->Option D)(m:Ev->Res (List D)):Ev->Res D:=fun ρ=>(m ρ).bind fun ds=>Res.lft (f ds)
theorem vA{Oc:Wd}{Ob:Addr->Prop}{H H1:Hp}{p:Addr}{vs:List V}{ds:List D}(s:Same H H1)(hp:H1 p=none)(r:Reps H1 (Uni Oc Ob) vs ds):VR .new Oc Ob H (upd H1 p (.lst vs)) (.ref p) (.list ds) :=
 ⟨p,vs,ds,rfl,rfl,s.free hp,zO,r.keep (fun b o e _=>by rw[zM (xK e hp)];exact e) fun b n z=>z.elim id fun z=>by subst z;exact absurd hp n⟩
theorem dN{Oc:Wd}{Ob:Addr->Prop}{H1:Hp}{p:Addr}{vs:List V}{ds:List D}(oh:∀a,Oc a\/Ob a->H1 a≠none)(hp:H1 p=none)(r:Reps H1 (Uni Oc Ob) vs ds):Rep (upd H1 p (.tup vs)) (Uni Oc Ob) (.ref p) (.tuple ds) :=
 .tup (.inl zO) (fun z=>oh p z hp) (r.same (Same.new hp))
theorem xY(h:RArg C true es ms):RE C .new (.List es pos) (eB mkL ms):=by
 obtain⟨t,p,q⟩:=h
 refine⟨_,qY p,fun Oc Ob σ H ρ Q R h=>q Oc Ob σ H ρ _ R (Res.zT (Res.zU h) (fun ds _ k vs H' s r => ?_) fun _ z=>z)⟩
 obtain⟨d,e,k⟩:=Res.yV k
 unfold mkL at e
 split at e
 ·rename_i hl
  cases e
  exact⟨by rw[Reps.length r];exact hl,fun p hp=>k _ _ (s.trans (Same.new hp)) (vA s hp r)⟩
 ·cases e
theorem wS{x1}(h:RArg C true es ms):RE C .cl (.Tuple es x1 pos) (eB mkT ms):=by
 obtain⟨t,p,q⟩:=h
 refine⟨_,gX p,fun Oc Ob σ H ρ Q R h=>q Oc Ob σ H ρ _ R (Res.zT (Res.zU h) (fun ds _ k vs H' s r => ?_) fun _ z=>z)⟩
 obtain⟨d,e,k⟩:=Res.yV k
 unfold mkT at e
 split at e
 ·rename_i hl
  cases e
  exact⟨by rw[Reps.length r];exact hl,fun p hp=>k _ _ (s.trans (Same.new hp)) (dN (R.same s).oh hp r)⟩
 ·cases e
def PrC(r:List V->Hp->VK->Prop)(md:Md)(f:List D->Option D):Prop :=
 ∀(Oc:Wd) (Ob:Addr->Prop) (H:Hp) (vs:List V) (ds:List D) (d:D) (Q:VK),(∀a,Oc a\/Ob a->H a≠none)->VAs Oc Ob H vs ds->f ds=some d->(∀v H',Same H H'->VR md Oc Ob H H' v d->Q v H')->r vs H Q
theorem zK6{t:TA}{r:List V->Hp->VK->Prop}{f:List D->Option D}(q:∀(Oc:Wd) (Ob:Addr->Prop) (σ:St) (H:Hp) (ρ:Ev) (Q:List V->Hp->Prop),Rel Oc Ob C.om C.ln σ H ρ ->
  (ms ρ).post (fun ds=>∀vs H',Same H H'->VQ false Oc Ob H' vs ds->Q vs H') (fun c=>∀H',Same H H'->C.XE c H')->t σ H Q)(hp:PrC r md f)
  {Oc:Wd}{Ob:Addr->Prop}{σ:St}{H:Hp}{ρ:Ev}{Q:VK}(R:Rel Oc Ob C.om C.ln σ H ρ) (h:(eB f ms ρ).post (fun d=>∀v H',Same H H'->VR md Oc Ob H H' v d->Q v H') (fun c=>∀H',Same H H'->C.XE c H')):tCB r t σ H Q:=by
 refine q Oc Ob σ H ρ _ R (Res.zT (Res.zU h) (fun ds _ k vs H' s r => ?_) fun _ z=>z)
 obtain⟨d,e,k⟩:=Res.yV k
 exact hp Oc Ob H' vs ds d Q (R.same s).oh r e fun v H2 s2 r2=>k v H2 (s.trans s2) (r2.from s)
theorem zE{x:Str}{id:String}{r:List V->Hp->VK->Prop}{f:List D->Option D}(hc:CallR C.X (.builtin id) r)(hp:PrC r md f)(hm:C.X.mg x=none)(hv:bootBuiltins x=some (.builtin id))(ha:RArg C false (e::es) ms)(hg:autoParam (Gl C.X x) DI)(hn:autoParam (x ≠ "__name__") DH)(hdb:autoParam ((x == ("__debug__":Str))=false) DH)
  (he:autoParam (starEach (e::es) C.X.env=(false,eval e C.X.env)::starEach es C.X.env) DI) (hpl:autoParam ((backTo pos (starEach es C.X.env)).any (·.1)=false) DI):RE C md (.Call (.Name x p) (e::es) [] pos) (eB f ms):=by
 obtain⟨t,pa,q⟩:=ha
 exact⟨_,vL hc hg hm hv pa hn hdb he hpl,fun Oc Ob σ H ρ Q R h=>zK6 q hp R h⟩
theorem xQ{x:Str}{T:String}{r:List V->Hp->VK->Prop}{f:List D->Option D}(hc:CallR C.X (.type T) r)(hp:PrC r md f)(hm:C.X.mg x=none)(hv:bootBuiltins x=some (.type T))(ha:RArg C false (e::es) ms)(hg:autoParam (Gl C.X x) DI)(hn:autoParam (x ≠ "__name__") DH)(hdb:autoParam ((x == ("__debug__":Str))=false) DH)
  (he:autoParam (starEach (e::es) C.X.env=(false,eval e C.X.env)::starEach es C.X.env) DI) (hpl:autoParam ((backTo pos (starEach es C.X.env)).any (·.1)=false) DI):RE C md (.Call (.Name x p) (e::es) [] pos) (eB f ms):=by
 obtain⟨t,pa,q⟩:=ha
 exact⟨_,jI hc hg hm hv pa hn hdb he hpl,fun Oc Ob σ H ρ Q R h=>zK6 q hp R h⟩
def Walks(Oc:Wd)(Ob:Addr->Prop)(J:It)(H1:Hp)(ds:List D):Prop :=
 ∀(H2:Hp) (Ob2:Addr->Prop),Frm Ob H1 H2->(∀b,Ob2 b->Ob b\/H1 b=none)->∀i,(∀d,ds[i]?=some d->J.go i H2/\∀x H3,J.yld i H2 x H3->Same H2 H3/\Rep H3 (Uni Oc Ob2) x d)/\(ds.length<=i->J.stop i H2)
def RI(C:Ct)(tg iter:Expr)(m:Ev->Res (List D)):Prop :=
 ∃wi,PI C.X tg iter wi/\∀(Oc:Wd) (Ob:Addr->Prop) (σ:St) (H:Hp) (ρ:Ev) (R:It->Hp->Prop),Rel Oc Ob C.om C.ln σ H ρ ->
  (m ρ).post (fun ds=>∀J H1,Same H H1->Walks Oc Ob J H1 ds->R J H1) (fun c=>∀H',Same H H'->C.XE c H')->wi σ H R
def iSeq(K:KFr)(tl:TE):TI:=fun σ H R=>tl σ H fun x H1=>∃a,x=.ref a/\(((∃xs,SqL K H1 a xs)/\R (Itl K a) H1)\/((∃xs,SqT K H1 a xs)/\R (Itt K a) H1))
theorem xR9{X:Cx}{tg l:Expr}{tl:TE}(hl:PE X l tl):PI X tg l (iSeq X.K tl):=by
 intro DJ s σ H R I h
 refine thn (hl DJ s σ H _ I h) fun v s1 ⟨x,H1,I1,r1,q1⟩ => ?_
 obtain⟨a,e,q1⟩:=q1
 subst e
 cases r1
 rcases q1 with ⟨⟨xs,hq⟩,q⟩ | ⟨⟨xs,hq⟩,q⟩
 ·obtain⟨its,rv,p,hz⟩:=I1.list hq
  refine wpAny_pyIter_list p.isList ?_
  refine⟨s1.heap.objs.size,[s1.heap.objs.size],_,_,H1,rfl,I1.kept (t':=s1.toks) fun b o e=>An _ e,zK7 a _,⟨_,AH _ rfl,rfl,rfl⟩,fun b hb => ?_,q⟩
  have e:b=s1.heap.objs.size:=by simpa using hb
  subst e
  exact I1.fpOk (Al _) (I1.hok.fresh (Al _))
 ·obtain⟨its,rv,p,hz⟩:=I1.tuple hq
  refine wpAny_pyIter_tuple (show s1.heap.IsTuple a its.toArray from p) ?_
  refine⟨s1.heap.objs.size,[s1.heap.objs.size],_,_,H1,rfl,I1.kept (t':=s1.toks) fun b o e=>An _ e,yU9 a _,⟨_,AH _ rfl,rfl,rfl⟩,fun b hb => ?_,q⟩
  have e:b=s1.heap.objs.size:=by simpa using hb
  subst e
  exact I1.fpOk (Al _) (I1.hok.fresh (Al _))
def seqD:D->Option (List D)
 | .list ds=>some ds
 | .tuple ds=>some ds
 | _=>none
def iS(m:Ev->Res D):Ev->Res (List D):=fun ρ=>(m ρ).bind fun d=>Res.lft (seqD d)
theorem Reps.step{Oc:Wd}{Ob Ob2:Addr->Prop}{H1 H2:Hp}{vs:List V}{ds:List D}(r:Reps H1 (Uni Oc Ob) vs ds)(f:Frm Ob H1 H2)(s:∀b,Ob2 b->Ob b\/H1 b=none):Reps H2 (Uni Oc Ob2) vs ds :=
 r.keep (fun b o e n=>f b o e fun z=>n (.inr z)) fun b n z=>z.elim .inl fun z=>(s b z).elim .inr fun q=>absurd q n
end
theorem zT8{K:KFr}{Oc:Wd}{Ob:Addr->Prop}{H1:Hp}{a:Addr}{ys:List V}{ds:List D}(r:Rd H1 a (.lst ys))(n:¬Ob a)(rs:Reps H1 (Uni Oc Ob) ys ds):Walks Oc Ob (Itl K a) H1 ds:=by
 intro H2 Ob2 f s i
 have r2:Rd H2 a (.lst ys):=vF r fun o e=>f a o e n
 have rs2:=rs.step f s
 refine⟨fun d e => ?_,fun h=>⟨ys,.inl r2,by rw[rs2.length];exact h⟩⟩
 obtain⟨v,ev,rv⟩:=rs2.get e
 refine⟨⟨ys,v,.inl r2,ev⟩,fun x H3 hy => ?_⟩
 obtain⟨rfl,hy⟩:=hy
 have:=hy ys (.inl r2)
 rw[ev] at this
 cases this
 exact⟨Same.refl _,rv⟩
theorem zB9{K:KFr}{Oc:Wd}{Ob:Addr->Prop}{H1:Hp}{a:Addr}{ys:List V}{ds:List D}(r:Rd H1 a (.tup ys))(n:¬Ob a)(rs:Reps H1 (Uni Oc Ob) ys ds):Walks Oc Ob (Itt K a) H1 ds:=by
 intro H2 Ob2 f s i
 have r2:Rd H2 a (.tup ys):=vF r fun o e=>f a o e n
 have rs2:=rs.step f s
 refine⟨fun d e => ?_,fun h=>⟨ys,.inl r2,by rw[rs2.length];exact h⟩⟩
 obtain⟨v,ev,rv⟩:=rs2.get e
 refine⟨⟨ys,v,.inl r2,ev⟩,fun x H3 hy => ?_⟩
 obtain⟨rfl,hy⟩:=hy
 have:=hy ys (.inl r2)
 rw[ev] at this
 cases this
 exact⟨Same.refl _,rv⟩
theorem zY7{Oc:Wd}{Ob:Addr->Prop}{H1:Hp}{lo:Int}{n:Nat}{ds:List D}(e:ds=(List.range n).map fun (i:Nat)=>PyData.int (lo+(i:Int))):Walks Oc Ob (Itr lo n) H1 ds:=by
 intro H2 Ob2 f s i
 subst e
 refine⟨fun d e => ?_,fun h=>by show n<=i;simpa using h⟩
 rw[AA] at e
 by_cases hi:i<n
 ·rw[Bk hi] at e
  cases e
  refine⟨hi,fun x H3 hy => ?_⟩
  obtain⟨rfl,rfl⟩:=hy
  exact⟨Same.refl _,.int _⟩
 ·rw[By (by simpa using hi)] at e
  cases e
section
variable {C:Ct}{a b c e:Expr}{es:List Expr}{pos p:Pos}{md mda mdb mdc:Md}{ma mb mc:Ev->Res D}{ms:Ev->Res (List D)}{cl:Bool}{tg:Expr}
theorem jO(h:RE C .rd e ma):RI C tg e (iS ma):=by
 obtain⟨t,p,q⟩:=h
 refine⟨_,xR9 p,fun Oc Ob σ H ρ W R h=>q Oc Ob σ H ρ _ R (Res.zT (Res.zU h) (fun d _ k v H' s r => ?_) fun _ z=>z)⟩
 obtain⟨ds,e,k⟩:=Res.yV k
 rcases r with r | ⟨a,ys,ds',rfl,rfl,e3,e4,e5⟩
 ·cases r with
  | lst r n t=>cases e;exact⟨_,rfl,.inl ⟨⟨_,.inl r⟩,k _ H' s (zT8 r (fun z=>n (.inr z)) t)⟩⟩
  | tup r n t=>cases e;exact⟨_,rfl,.inr ⟨⟨_,.inl r⟩,k _ H' s (zB9 r (fun z=>n (.inr z)) t)⟩⟩
  | _=>cases e
 ·cases e
  exact⟨_,rfl,.inl ⟨⟨_,SqL.of e3⟩,k _ H' s (zT8 (.inl e3) e4 e5)⟩⟩
def rng1:List D->Option (List D)
 | [.int j]=>if -(2 ^ 62)<=j/\j<2 ^ 62 then some ((List.range j.toNat).map fun (i:Nat)=>PyData.int (i:Int)) else none
 | _=>none
def rng2:List D->Option (List D)
 | [.int i,.int j]=>if -(2 ^ 62)<=i/\i<2 ^ 62/\-(2 ^ 62)<=j/\j<2 ^ 62 then some ((List.range (j-i).toNat).map fun (k:Nat)=>PyData.int (i+(k:Int))) else none
 | _=>none
def iR(f:List D->Option (List D))(m:Ev->Res (List D)):Ev->Res (List D):=fun ρ=>(m ρ).bind fun ds=>Res.lft (f ds)
theorem VAs.one{Oc:Wd}{Ob:Addr->Prop}{H:Hp}{vs:List V}{d:D}(h:VAs Oc Ob H vs [d]):∃v,vs=[v]/\VA Oc Ob H v d:=by
 cases h with
 | cons a t=>cases t;exact⟨_,rfl,a⟩
theorem VAs.two{Oc:Wd}{Ob:Addr->Prop}{H:Hp}{vs:List V}{d d':D}(h:VAs Oc Ob H vs [d,d']):∃v v',vs=[v,v']/\VA Oc Ob H v d/\VA Oc Ob H v' d':=by
 cases h with
 | cons a t =>
  obtain⟨v,rfl,q⟩:=VAs.one t
  exact⟨_,_,rfl,a,q⟩
theorem gC(hm:C.X.mg "range" = none)(ha:RArg C false [a] ms)(hg:autoParam (Gl C.X "range") DI)(hs:autoParam (starEach [a] C.X.env=[(false,eval a C.X.env)]) DI):RI C tg (.Call (.Name "range" p) [a] [] pos) (iR rng1 ms):=by
 obtain⟨t,pa,q⟩:=ha
 refine⟨_,fR hg hm pa hs,fun Oc Ob σ H ρ W R h=>q Oc Ob σ H ρ _ R (Res.zT (Res.zU h) (fun ds _ k vs H' s r => ?_) fun _ z=>z)⟩
 obtain⟨xs,e,k⟩:=Res.yV k
 unfold rng1 at e
 split at e
 ·split at e
  ·rename_i hb
   cases e
   obtain⟨v,rfl,va⟩:=VAs.one r
   obtain rfl:=va.int
   exact⟨_,rfl,hb.1,hb.2,k _ H' s (zY7 (by simp))⟩
  ·cases e
 ·cases e
theorem yH6(hm:C.X.mg "range" = none)(ha:RArg C false [a,b] ms)(hg:autoParam (Gl C.X "range") DI)(hs:autoParam (starEach [a,b] C.X.env=[(false,eval a C.X.env),(false,eval b C.X.env)]) DI)(hs2:autoParam (starEach [b] C.X.env=[(false,eval b C.X.env)]) DI):RI C tg (.Call (.Name "range" p) [a,b] [] pos) (iR rng2 ms):=by
 obtain⟨t,pa,q⟩:=ha
 refine⟨_,yQ9 hg hm pa hs hs2,fun Oc Ob σ H ρ W R h=>q Oc Ob σ H ρ _ R (Res.zT (Res.zU h) (fun ds _ k vs H' s r => ?_) fun _ z=>z)⟩
 obtain⟨xs,e,k⟩:=Res.yV k
 unfold rng2 at e
 split at e
 ·split at e
  ·rename_i hb
   cases e
   obtain⟨v,v',rfl,va,va'⟩:=VAs.two r
   obtain rfl:=va.int
   obtain rfl:=va'.int
   exact⟨_,_,rfl,hb,k _ H' s (zY7 rfl)⟩
  ·cases e
 ·cases e
end
def cEnv(ρ:Ev)(js:List Nat)(x:D):Ev:=some x::js.map fun j=>(ρ[j]?).join
def capt(js l:List Nat):List Nat:=((List.range js.length).filter fun i=>l.contains (js.getD i 0)).map (·+1)
def noEx{α:Type}:Res α->Res α
 | .ok a=>.ok a
 | _=>.no
theorem yV9{α:Type}{r:Res α}{a:α}(h:noEx r=.ok a):r=.ok a:=by
 cases r with
 | ok b=>exact h
 | ex c=>cases h
 | no=>cases h
def compM(t:D->Res Bool)(f:D->Res D):List D->Res (List D)
 | []=>.ok []
 | x::xs=>(noEx (t x)).bind fun b=>if b then (noEx (f x)).bind fun y=>(compM t f xs).bind fun ys=>.ok (y::ys) else compM t f xs
def eComp(mi:Ev->Res (List D))(mt:Ev->Res Bool)(me:Ev->Res D)(js:List Nat):Ev->Res D:=fun ρ=>(mi ρ).bind fun ds=>if ds.length<=sizeLine then (compM (fun x=>mt (cEnv ρ js x)) (fun x=>me (cEnv ρ js x)) ds).bind fun out=>.ok (.list out) else .no
theorem yE4{js l:List Nat}{i:Nat}(h:i∈capt js l):∃k,i=k+1/\k<js.length/\js.getD k 0∈l:=by
 unfold capt at h
 obtain⟨k,hk,rfl⟩:=AR.mp h
 obtain⟨h1,h2⟩:=BC.mp hk
 exact⟨k,rfl,AD.mp h1,AT.mp h2⟩
theorem zH6{js l:List Nat}{k j:Nat}(h:js[k]?=some j)(hl:j∈l):k+1∈capt js l:=by
 unfold capt
 refine AR.mpr ⟨k,BC.mpr ⟨AD.mpr ?_,?_⟩,rfl⟩
 ·exact (Au.mp h).1
 ·rw[Be,h]
  exact AT.mpr hl
theorem zM8{ρ:Ev}{js:List Nat}{x d:D}{k:Nat}(h:(cEnv ρ js x)[k+1]?=some (some d)):∃j,js[k]?=some j/\ρ[j]?=some (some d):=by
 unfold cEnv at h
 rw[BJ,AA] at h
 cases e:js[k]? with
 | none=>rw[e] at h;cases h
 | some j =>
  rw[e] at h
  refine⟨j,rfl,?_⟩
  have h:(ρ[j]?).join=some d:=Ba h
  cases q:ρ[j]? with
  | none=>rw[q] at h;cases h
  | some z=>rw[q] at h;rw[show z=some d from h]
theorem uJ{σ:St}{js:List Nat}{v0:Option V}{v:V}{k j:Nat}(h:js[k]?=some j)(e:σ[j]?=some (some v)):(compSt σ js v0)[k+1]?=some (some v):=by
 unfold compSt
 rw[BJ,AA,h]
 show some ((σ[j]?).join)=_
 rw[e]
 rfl
def adr:Option (Option V)->Addr
 | some (some (.ref a))=>a
 | _=>0
def cW(Oc:Wd)(Ob:Addr->Prop)(σ:St)(js:List Nat):Wd:=⟨Uni Oc Ob,fun i=>adr ((compSt σ js none)[i]?)⟩
theorem Rel.comp{Oc:Wd}{Ob:Addr->Prop}{om ln:List Nat}{σ:St}{H:Hp}{ρ:Ev}{js:List Nat}{x:V}{d:D}(R:Rel Oc Ob om ln σ H ρ)(r:Rep H (Uni Oc Ob) x d):Rel (cW Oc Ob σ js) (fun _=>False) [] (capt js (om++ln)) (compSt σ js (some x)) H (cEnv ρ js d) where
 len:=by unfold compSt cEnv;simp
 val:=fun i d' e _ hl=>by
  cases i with
  | zero =>
   cases e
   exact⟨x,rfl,r.less fun b z=>z.elim id fun z=>z.elim⟩
  | succ k =>
   obtain⟨j,e1,e2⟩:=zM8 e
   have h1:j∉om:=fun z=>hl (zH6 e1 (AW _ z))
   have h2:j∉ln:=fun z=>hl (zH6 e1 (Ah _ z))
   obtain⟨v,q,rv⟩:=R.val j d' e2 h1 h2
   exact⟨v,uJ e1 q,rv.less fun b z=>z.elim id fun z=>z.elim⟩
 own:=fun i d' e h=>nomatch h
 lnt:=fun i d' e _ hl=>by
  obtain⟨k,rfl,hk,hj⟩:=yE4 hl
  obtain⟨j,e1,e2⟩:=zM8 e
  rw[Be,e1,Option.getD_some] at hj
  by_cases ho:j∈om
  ·obtain⟨v,q,a,ys,ds,z1,z2,z3,z4,z5⟩:=R.own j d' e2 ho
   have ea:(cW Oc Ob σ js).la (k+1)=a:=by show adr _=a;rw[uJ e1 q,z1];rfl
   exact⟨v,uJ e1 q,ys,ds,by rw[ea];exact z1,z2,by rw[ea];exact z3,by rw[ea];exact .inr z4,z5.less fun b z=>z.elim id fun z=>z.elim⟩
  ·have hl2:j∈ln:=(AB.mp hj).elim (fun z=>absurd z ho) id
   obtain⟨v,q,ys,ds,z1,z2,z3,z4,z5⟩:=R.lnt j d' e2 ho hl2
   have ea:(cW Oc Ob σ js).la (k+1)=Oc.la j:=by show adr _=_;rw[uJ e1 q,z1];rfl
   exact⟨v,uJ e1 q,ys,ds,by rw[ea];exact z1,z2,by rw[ea];exact z3,by rw[ea];exact .inl z4,z5.less fun b z=>z.elim id fun z=>z.elim⟩
 inj:=fun i j di dj a _ _ h=>nomatch h
 oh:=fun a z=>R.oh a (z.elim id fun z=>z.elim)
 ap:=fun a z=>z.elim
abbrev cC(C:Ct)(N:List Str)(scope:Scope)(A:Addr)(fp:List Addr)(s₂:Shared)(H:Hp)(js:List Nat):Ct:=⟨cxComp C.X N scope A fp s₂ H,fun _ _=>False,[],capt js (C.om++C.ln)⟩
def RTs(C:Ct)(ifs:List Expr)(m:Ev->Res Bool):Prop:=∃t,PTs C.X ifs t/\∀(Oc:Wd) (Ob:Addr->Prop) (σ:St) (H:Hp) (ρ:Ev) (Q:Bool->Hp->Prop),Rel Oc Ob C.om C.ln σ H ρ ->
  (m ρ).post (fun b=>∀H',Same H H'->Q b H') (fun c=>∀H',Same H H'->C.XE c H')->t σ H Q
def tYes:Ev->Res Bool:=fun _=>.ok true
theorem qK{C:Ct}:RTs C [] tYes:=⟨_,.nil,fun Oc Ob σ H ρ Q R h=>h H (Same.refl H)⟩
def WalksS(Oc:Wd)(Ob:Addr->Prop)(J:It)(H1:Hp)(ds:List D):Prop :=
 ∀(H2:Hp),Same H1 H2->∀i,(∀d,ds[i]?=some d->J.go i H2/\∀x H3,J.yld i H2 x H3->Same H2 H3/\Rep H3 (Uni Oc Ob) x d)/\(ds.length<=i->J.stop i H2)
def RIc(C:Ct)(tg iter:Expr)(m:Ev->Res (List D)):Prop :=
 ∃wi,PI C.X tg iter wi/\∀(Oc:Wd) (Ob:Addr->Prop) (σ:St) (H:Hp) (ρ:Ev) (R:It->Hp->Prop),Rel Oc Ob C.om C.ln σ H ρ ->
  (m ρ).post (fun ds=>∀J H1,Same H H1->WalksS Oc Ob J H1 ds->R J H1) (fun c=>∀H',Same H H'->C.XE c H')->wi σ H R
theorem RI.c{C:Ct}{tg iter:Expr}{m:Ev->Res (List D)}(h:RI C tg iter m):RIc C tg iter m:=by
 obtain⟨wi,p,q⟩:=h
 exact⟨wi,p,fun Oc Ob σ H ρ W R h=>q Oc Ob σ H ρ W R (Res.zT h (fun ds _ k J H1 s w=>k J H1 s fun H2 s2=>w H2 Ob (Same.frm s2) fun b z=>.inl z) fun _ z=>z)⟩
theorem yK6{C:Ct}{elt:Expr}{ifs:List Expr}{scope:Scope}{N:List Str}{js:List Nat}{mi:Ev->Res (List D)}{mt:Ev->Res Bool}{me:Ev->Res D}{wi:TI}
  (qi:∀(Oc:Wd) (Ob:Addr->Prop) (σ:St) (H:Hp) (ρ:Ev) (R:It->Hp->Prop),Rel Oc Ob C.om C.ln σ H ρ->(mi ρ).post (fun ds=>∀J H1,Same H H1->WalksS Oc Ob J H1 ds->R J H1) (fun c=>∀H',Same H H'->C.XE c H')->wi σ H R)
  (ht:∀A fp s₂ H,RTs (cC C N scope A fp s₂ H js) ifs mt) (he:∀A fp s₂ H,RE (cC C N scope A fp s₂ H js) .cl elt me)
  {Oc:Wd}{Ob:Addr->Prop}{σ:St}{H:Hp}{ρ:Ev}{Q:VK}(R:Rel Oc Ob C.om C.ln σ H ρ) (h:(eComp mi mt me js ρ).post (fun d=>∀v H',Same H H'->VR .new Oc Ob H H' v d->Q v H') (fun c=>∀H',Same H H'->C.XE c H')) :
  tComp wi (fun A fp s H=>Classical.choose (ht A fp s H)) (fun A fp s H=>Classical.choose (he A fp s H)) js σ H Q:=by
 refine qi Oc Ob σ H ρ _ R (Res.zT (Res.zU h) (fun ds _ k J H1 s1 wk => ?_) fun _ z=>z)
 intro A fp s₂ H₂
 have qt:=(AU (ht A fp s₂ H₂)).2
 have qe:=(AU (he A fp s₂ H₂)).2
 have k:(if ds.length<=sizeLine then (compM (fun x=>mt (cEnv ρ js x)) (fun x=>me (cEnv ρ js x)) ds).bind fun out=>Res.ok (PyData.list out) else .no).post (fun d=>∀v H',Same H H'->VR .new Oc Ob H H' v d->Q v H') (fun c=>∀H',Same H H'->C.XE c H'):=k
 by_cases hlen:ds.length<=sizeLine
 ·rw[Ak hlen] at k
  generalize hT:(fun x=>mt (cEnv ρ js x))=T at k
  generalize hF:(fun x=>me (cEnv ρ js x))=F at k
  cases ec:compM T F ds with
  | no=>rw[ec] at k;exact k.elim
  | ex c =>
   exfalso
   have nex:∀xs c,compM T F xs ≠ .ex c:=by
    intro xs
    induction xs with
    | nil=>intro c z;cases z
    | cons x xs ih =>
     intro c z
     rw[compM] at z
     cases e1:noEx (T x) with
     | no=>rw[e1] at z;cases z
     | ex c'=>cases hx:T x <;> rw[hx] at e1 <;> cases e1
     | ok b =>
      rw[e1,Res.bind_ok] at z
      cases b with
      | false=>exact ih c z
      | true =>
       simp only[if_true] at z
       cases e2:noEx (F x) with
       | no=>rw[e2] at z;cases z
       | ex c'=>cases hx:F x <;> rw[hx] at e2 <;> cases e2
       | ok y =>
        rw[e2,Res.bind_ok] at z
        cases e3:compM T F xs with
        | no=>rw[e3] at z;cases z
        | ex c'=>exact ih c' e3
        | ok ys=>rw[e3] at z;cases z
   exact nex ds c ec
  | ok out =>
   rw[ec,Res.bind_ok] at k
   refine⟨fun i m acc H=>m=ds.length-i/\i<=ds.length/\Same H1 H/\∃done rest,Reps H (Uni Oc Ob) acc done/\acc.length<=i/\compM T F (ds.drop i)=.ok rest/\done++rest=out,⟨_,rfl,AM _,Same.refl _,[],out,.nil,Al _,ec,rfl⟩,?_⟩
   rintro i m acc H2 ⟨rfl,hi,s2,done,rest,ra,la,er,eo⟩
   obtain⟨w1,w2⟩:=wk H2 s2 i
   have R2:=(R.same s1).same s2
   by_cases hlt:i<ds.length
   ·obtain⟨go,yl⟩:=w1 ds[i] (Aj hlt)
    have ed:ds.drop i=ds[i]::ds.drop (i+1):=Bl hlt
    rw[ed,compM] at er
    have nxt:∀(acc':List V) (H3:Hp) (done' rest':List D),Same H2 H3->Reps H3 (Uni Oc Ob) acc' done'->acc'.length<=i+1->compM T F (ds.drop (i+1))=.ok rest'->done'++rest'=out ->
      ∃m',m'<ds.length-i/\(m'=ds.length-(i+1)/\i+1<=ds.length/\Same H1 H3/\∃done rest,Reps H3 (Uni Oc Ob) acc' done/\acc'.length<=i+1/\compM T F (ds.drop (i+1))=.ok rest/\done++rest=out) :=
     fun acc' H3 done' rest' s3 r3 l3 c3 o3=>⟨_,by rfl',rfl,hlt,s2.trans s3,done',rest',r3,l3,c3,o3⟩
    refine .inr ⟨go,fun acc' H'=>∃m',m'<ds.length-i/\(m'=ds.length-(i+1)/\i+1<=ds.length/\Same H1 H'/\∃done rest,Reps H' (Uni Oc Ob) acc' done/\acc'.length<=i+1/\compM T F (ds.drop (i+1))=.ok rest/\done++rest=out),fun acc' H' z=>z,fun x H3 hy => ?_⟩
    obtain⟨s3,rx⟩:=yl x H3 hy
    have R3:=(R2.same s3).comp (js:=js) rx
    cases e1:noEx (T ds[i]) with
    | no=>rw[e1] at er;cases er
    | ex c=>rw[e1] at er;cases er
    | ok b =>
     rw[e1,Res.bind_ok] at er
     have t1:mt (cEnv ρ js ds[i])=.ok b:=by
      have t1:=yV9 e1
      rw[<-hT] at t1
      exact t1
     refine qt _ _ _ H3 _ _ R3 ?_
     show (mt (cEnv ρ js ds[i])).post _ _
     rw[t1]
     intro H4 s4
     cases b with
     | false=>exact iteF (nxt acc H4 done rest (s3.trans s4) (ra.same (s3.trans s4)) (by rfl') er eo)
     | true =>
      refine iteT ?_
      simp only[if_true] at er
      cases e2:noEx (F ds[i]) with
      | no=>rw[e2] at er;cases er
      | ex c=>rw[e2] at er;cases er
      | ok y =>
       rw[e2,Res.bind_ok] at er
       have t2:me (cEnv ρ js ds[i])=.ok y:=by
        have t2:=yV9 e2
        rw[<-hF] at t2
        exact t2
       refine qe _ _ _ H4 _ _ (R3.same s4) ?_
       show (me (cEnv ρ js ds[i])).post _ _
       rw[t2]
       intro v H5 s5 rv
       refine⟨by rfl',?_⟩
       obtain⟨ys,e3⟩:∃ys,compM T F (ds.drop (i+1))=.ok ys:=by
        cases e3:compM T F (ds.drop (i+1)) with
        | no=>rw[e3] at er;cases er
        | ex c=>rw[e3] at er;cases er
        | ok ys=>exact⟨ys,rfl⟩
       rw[e3,Res.bind_ok] at er
       cases er
       have rv':Rep H5 (Uni Oc Ob) v y:=Rep.less rv fun b z=>.inl z
       refine nxt (acc ++ [v]) H5 (done ++ [y]) ys ((s3.trans s4).trans s5) ((ra.same ((s3.trans s4).trans s5)).append (.one rv')) (by rw[Af,Bt];rfl') e3 ?_
       rw[AO]
       exact eo
   ·have ei:i=ds.length:=by rfl'
    subst ei
    refine .inl ⟨w2 (Al _),fun p hp => ?_⟩
    rw[BQ] at er
    cases er
    rw[Bu] at eo
    subst eo
    exact k _ _ ((s1.trans s2).trans (Same.new hp)) (vA (s1.trans s2) hp ra)
 ·rw[Ax hlen] at k
  exact k.elim
theorem aD{C:Ct}{elt iter:Expr}{ifs:List Expr}{sc0 scope:Scope}{N0:List Str}{px pos:Pos}{xt:Str}{fs:List Str}{js:List Nat}{mi:Ev->Res (List D)}{mt:Ev->Res Bool}{me:Ev->Res D}(S:CompScope sc0 scope N0 xt fs js)(h0:C.X.env.scope=sc0)(hN0:C.X.N=N0)(hc:C.X.calm=true)
  (hi:RIc C (.Name xt px) iter mi) (ht:∀A fp s₂ H,RTs (cC C (xt::fs) scope A fp s₂ H js) ifs mt) (he:∀A fp s₂ H,RE (cC C (xt::fs) scope A fp s₂ H js) .cl elt me)
  (hs:autoParam (∀x,foldedSetIterable iter C.X.env x=pure x) DG) :
  RE C .new (.ListComp elt [⟨.Name xt px,iter,ifs,0⟩] scope pos) (eComp mi mt me js):=by
 obtain⟨wi,pi,qi⟩:=hi
 refine⟨_,zP7 (tt:=fun A fp s H=>Classical.choose (ht A fp s H)) (te:=fun A fp s H=>Classical.choose (he A fp s H)) S h0 hN0 hc pi (fun A fp s H=>(AU (ht A fp s H)).1) (fun A fp s H=>(AU (he A fp s H)).1) hs,fun Oc Ob σ H ρ Q R h=>yK6 qi ht he R h⟩
section
variable {C:Ct}{fr:Bool}{e c:Expr}{pos:Pos}{md:Md}{me:Ev->Res D}{mt:Ev->Res Bool}{st:Stmt}{sts rest:List Stmt}{m n:Ev->Res Out}
def sN:Ev->Res Out:=fun ρ=>.ok (.nx ρ)
def sQ(m n:Ev->Res Out):Ev->Res Out:=fun ρ=>(m ρ).bind fun o=>match o with
 | .nx ρ'=>n ρ'
 | .rt d=>.ok (.rt d)
theorem zB:RSs C fr [] sN:=⟨_,kI,fun Oc Ob σ H ρ E R h=>h σ H Ob R (Same.frm (Same.refl H)) fun b z=>.inl z⟩
theorem zQ(h:RS C fr st m):RSs C fr [st] m:=by
 obtain⟨t,p,q⟩:=h
 exact⟨_,xO p,q⟩
theorem zV(h:RS C fr st m)(hr:RSs C fr rest n):RSs C fr (st::rest) (sQ m n):=by
 obtain⟨t,p,q⟩:=h
 obtain⟨t',p',q'⟩:=hr
 refine⟨_,yU p p',fun Oc Ob σ H ρ E R h=>q Oc Ob σ H ρ _ R (Res.zT (Res.zU h) (fun o _ k => ?_) fun _ z=>z)⟩
 cases o with
 | rt d=>exact k
 | nx ρ'=>exact fun σ' H' Ob' R' f s=>q' Oc Ob' σ' H' ρ' E R' (SPost.step f s k)
def sIf(t:Ev->Res Bool)(m n:Ev->Res Out):Ev->Res Out:=fun ρ=>(t ρ).bind fun b=>if b then m ρ else n ρ
theorem yO{x y:List Stmt}(hc:RT C c mt)(hx:RSs C fr x m)(hy:RSs C fr y n):RS C fr (.If c x y pos) (sIf mt m n):=by
 obtain⟨t,p,q⟩:=hc
 obtain⟨t1,p1,q1⟩:=hx
 obtain⟨t2,p2,q2⟩:=hy
 refine⟨_,zZ3 p p1 p2,fun Oc Ob σ H ρ E R h=>q Oc Ob σ H ρ _ R (Res.zT (Res.zU h) (fun b _ k H' s => ?_) fun c z H' s=>z H' (Same.frm s))⟩
 cases b with
 | true=>exact iteT (q1 Oc Ob σ H' ρ E (R.same s) (SPost.same s k))
 | false=>exact iteF (q2 Oc Ob σ H' ρ E (R.same s) (SPost.same s k))
def sR(m:Ev->Res D):Ev->Res Out:=fun ρ=>(m ρ).bind fun d=>.ok (.rt d)
theorem yW(he:RE C .cl e me):RS C false (.Return (some e) pos) (sR me):=by
 obtain⟨t,p,q⟩:=he
 refine⟨_,qV p,fun Oc Ob σ H ρ E R h=>q Oc Ob σ H ρ _ R (Res.zT (Res.zU h) (fun d _ k v H' s r => ?_) fun c z H' s=>z H' (Same.frm s))⟩
 exact k v H' (Same.frm s) (Rep.less r fun b z=>.inl z)
theorem kE(he:RE C .new e me):RS C true (.Return (some e) pos) (sR me):=by
 obtain⟨t,p,q⟩:=he
 refine⟨_,qV p,fun Oc Ob σ H ρ E R h=>q Oc Ob σ H ρ _ R (Res.zT (Res.zU h) (fun d _ k v H' s r => ?_) fun c z H' s=>z H' (Same.frm s))⟩
 obtain⟨a,ys,ds,e1,e2,e3,e4,e5⟩:=r
 exact k v H' (Same.frm s) ⟨a,ys,ds,e1,e2,.inl e3,fun z=>R.oh a (.inl z) e3,e4,e5.less fun b z=>z.elim (fun z=>.inl (.inl z)) .inr⟩
theorem xX7(i:Nat){x:Str}{p':Pos}(hN:autoParam (C.X.N[i]?=some x) DI)(ho:autoParam (C.om.contains i=true) DI)(hv:autoParam (Vis C.X.env.scope x) aJ._auto_1)(hd:autoParam ((x == ("__debug__":Str))=false) DH)
  (hcd:autoParam ((x == ("__classdict__":Str))=false) DH):RS C true (.Return (some (.Name x p')) pos) (sR (eV i)):=by
 refine⟨_,qV (bB hN hv hd hcd),fun Oc Ob σ H ρ E R h => ?_⟩
 obtain⟨d,e,k⟩:=aH (Res.zU h)
 obtain⟨v,q,a,ys,ds,e1,e2,e3,e4,e5⟩:=R.own i d e (bL ho)
 exact⟨v,q,k v H (Same.frm (Same.refl H)) ⟨a,ys,ds,e1,e2,.inr e4,R.ap a e4,e3,e5.less fun b z=>z.elim .inl fun z=>.inr (by subst z;exact e4)⟩⟩
theorem xA{α:Type}{l:List (Option α)}{i j:Nat}{v d:α}(h:(l.set i (some v))[j]?=some (some d)):(j=i/\d=v)\/(j≠i/\l[j]?=some (some d)):=by
 by_cases e:i=j
 ·subst e
  rw[List.getElem?_set_self'] at h
  cases q:l[i]? with
  | none=>rw[q] at h;cases h
  | some z=>rw[q] at h;cases h;exact .inl ⟨rfl,rfl⟩
 ·rw[AG e] at h
  exact .inr ⟨fun z=>e z.symm,h⟩
theorem zS7{α:Type}{l:List (Option α)}{i j:Nat}{v d:α}(h:(l.set i (some v))[j]?=some (some d)):j<l.length:=by
 have:=(Au.mp h).1
 simpa using this
theorem Rel.set{Oc:Wd}{Ob:Addr->Prop}{om ln:List Nat}{σ:St}{H:Hp}{ρ:Ev}{i:Nat}{v:V}{d:D}(R:Rel Oc Ob om ln σ H ρ)(ho:i∉om)(hl:i∉ln)(r:Rep H (Uni Oc Ob) v d):Rel Oc Ob om ln (σ.set i (some v)) H (ρ.set i (some d)) where
 len:=by rw[BY,BY];exact R.len
 val:=fun j d' e h1 h2=>by
  have hj:=zS7 e
  rcases xA e with ⟨rfl,rfl⟩ | ⟨ne,e⟩
  ·exact⟨v,by rw[Bx (by rw[R.len];exact hj)],r⟩
  ·obtain⟨w,q,k⟩:=R.val j d' e h1 h2
   exact⟨w,by rw[AG (fun z=>ne z.symm)];exact q,k⟩
 own:=fun j d' e h1=>by
  rcases xA e with ⟨rfl,rfl⟩ | ⟨ne,e⟩
  ·exact absurd h1 ho
  ·obtain⟨w,q,k⟩:=R.own j d' e h1
   exact⟨w,by rw[AG (fun z=>ne z.symm)];exact q,k⟩
 lnt:=fun j d' e h1 h2=>by
  rcases xA e with ⟨rfl,rfl⟩ | ⟨ne,e⟩
  ·exact absurd h2 hl
  ·obtain⟨w,q,k⟩:=R.lnt j d' e h1 h2
   exact⟨w,by rw[AG (fun z=>ne z.symm)];exact q,k⟩
 inj:=fun j k dj dk a ej ek hj hk qj qk=>by
  rcases xA ej with ⟨rfl,rfl⟩ | ⟨nj,ej⟩
  ·exact absurd hj ho
  ·rcases xA ek with ⟨rfl,rfl⟩ | ⟨nk,ek⟩
   ·exact absurd hk ho
   ·rw[AG (fun z=>nj z.symm)] at qj
    rw[AG (fun z=>nk z.symm)] at qk
    exact R.inj j k dj dk a ej ek hj hk qj qk
 oh:=R.oh
 ap:=R.ap
theorem Rel.setO{Oc:Wd}{Ob:Addr->Prop}{om ln:List Nat}{σ:St}{H H':Hp}{ρ:Ev}{i:Nat}{v:V}{d:D}(R:Rel Oc Ob om ln σ H ρ)(s:Same H H')(ho:i∈om)(r:VR .new Oc Ob H H' v d):∃a,H a=none/\Rel Oc (fun b=>Ob b\/b=a) om ln (σ.set i (some v)) H' (ρ.set i (some d)):=by
 obtain⟨a,ys,ds,rfl,rfl,e3,e4,e5⟩:=r
 have up:∀{vs:List V}{es:List D},Reps H (Uni Oc Ob) vs es->Reps H' (Uni Oc fun b=>Ob b\/b=a) vs es:=fun r=>r.keep (fun b o e _=>s b o e) fun b n z=>z.elim .inl fun z=>z.elim .inr fun z=>by subst z;exact absurd e3 n
 have up1:∀{v:V}{e:D},Rep H (Uni Oc Ob) v e->Rep H' (Uni Oc fun b=>Ob b\/b=a) v e:=fun r=>r.keep (fun b o e _=>s b o e) fun b n z=>z.elim .inl fun z=>z.elim .inr fun z=>by subst z;exact absurd e3 n
 refine⟨a,e3,?_,fun j d' e h1 h2 => ?_,fun j d' e h1 => ?_,fun j d' e h1 h2 => ?_,fun j k dj dk b ej ek hj hk qj qk => ?_,fun b z => ?_,fun b z => ?_⟩
 ·rw[BY,BY];exact R.len
 ·rcases xA e with ⟨rfl,rfl⟩ | ⟨ne,e⟩
  ·exact absurd ho h1
  ·obtain⟨w,q,k⟩:=R.val j d' e h1 h2
   exact⟨w,by rw[AG (fun z=>ne z.symm)];exact q,up1 k⟩
 ·have hj:=zS7 e
  rcases xA e with ⟨rfl,rfl⟩ | ⟨ne,e⟩
  ·refine⟨.ref a,by rw[Bx (by rw[R.len];exact hj)],a,ys,ds,rfl,rfl,e4,.inr rfl,e5.less fun b z=>z.elim (fun z=>.inl (.inl z)) fun z=>z.elim (fun z=>.inl (.inr z)) .inr⟩
  ·obtain⟨w,q,b,zs,fs,z1,z2,z3,z4,z5⟩:=R.own j d' e h1
   exact⟨w,by rw[AG (fun z=>ne z.symm)];exact q,b,zs,fs,z1,z2,s _ _ z3,.inl z4,up z5⟩
 ·rcases xA e with ⟨rfl,rfl⟩ | ⟨ne,e⟩
  ·exact absurd ho h1
  ·obtain⟨w,q,zs,fs,z1,z2,z3,z4,z5⟩:=R.lnt j d' e h1 h2
   exact⟨w,by rw[AG (fun z=>ne z.symm)];exact q,zs,fs,z1,z2,s _ _ z3,z4,up z5⟩
 ·have lj:=zS7 ej
  have lk:=zS7 ek
  rcases xA ej with ⟨rfl,rfl⟩ | ⟨nj,ej'⟩
  ·rw[Bx (by rw[R.len];exact lj)] at qj
   cases qj
   rcases xA ek with ⟨rfl,rfl⟩ | ⟨nk,ek'⟩
   ·rfl
   ·rw[AG (fun z=>nk z.symm)] at qk
    obtain⟨w,q,b,zs,fs,z1,z2,z3,z4,z5⟩:=R.own k dk ek' hk
    rw[qk] at q
    cases q
    cases z1
    rw[e3] at z3
    cases z3
  ·rw[AG (fun z=>nj z.symm)] at qj
   rcases xA ek with ⟨rfl,rfl⟩ | ⟨nk,ek'⟩
   ·rw[Bx (by rw[R.len];exact lk)] at qk
    cases qk
    obtain⟨w,q,b,zs,fs,z1,z2,z3,z4,z5⟩:=R.own j dj ej' hj
    rw[qj] at q
    cases q
    cases z1
    rw[e3] at z3
    cases z3
   ·rw[AG (fun z=>nk z.symm)] at qk
    exact R.inj j k dj dk b ej' ek' hj hk qj qk
 ·rcases z with z | z | rfl
  ·exact Same.ne s (R.oh b (.inl z))
  ·exact Same.ne s (R.oh b (.inr z))
  ·rw[e4];exact fun z=>nomatch z
 ·rcases z with z | rfl
  ·exact R.ap b z
  ·exact fun z=>R.oh b (.inl z) e3
def sS(i:Nat)(m:Ev->Res D):Ev->Res Out:=fun ρ=>(m ρ).bind fun d=>.ok (.nx (ρ.set i (some d)))
theorem yT(i:Nat){x:Str}{p':Pos}(nd:C.X.N.Nodup)(he:RE C .cl e me)(hi:autoParam (C.X.N[i]?=some x) DI)(ho:autoParam (C.om.contains i=false) DI)(hl:autoParam (C.ln.contains i=false) DI)(hx:autoParam (Loc C.X.env.scope x) zZ4._auto_1)
  (hs:autoParam (swapsWith e (some (.Name x p')) pos.line C.X.env=pure false) DI) (hf:autoParam (C.X.fn x=true\/C.X.env.scope.names.lookup x=some .local) autoK12._auto_1):RS C fr (.Assign [.Name x p'] e pos) (sS i me):=by
 obtain⟨t,p,q⟩:=he
 refine⟨_,xS nd hi hx p hs hf,fun Oc Ob σ H ρ E R h=>q Oc Ob σ H ρ _ R (Res.zT (Res.zU h) (fun d _ k v H' s r => ?_) fun c z H' s=>z H' (Same.frm s))⟩
 exact k _ H' Ob ((R.same s).set (xL ho) (xL hl) r) (Same.frm s) fun b z=>.inl z
theorem fD(i:Nat){x:Str}{p':Pos}(nd:C.X.N.Nodup)(he:RE C .new e me)(hi:autoParam (C.X.N[i]?=some x) DI)(ho:autoParam (C.om.contains i=true) DI)(hx:autoParam (Loc C.X.env.scope x) zZ4._auto_1)
  (hs:autoParam (swapsWith e (some (.Name x p')) pos.line C.X.env=pure false) DI) (hf:autoParam (C.X.fn x=true\/C.X.env.scope.names.lookup x=some .local) autoK12._auto_1):RS C fr (.Assign [.Name x p'] e pos) (sS i me):=by
 obtain⟨t,p,q⟩:=he
 refine⟨_,xS nd hi hx p hs hf,fun Oc Ob σ H ρ E R h=>q Oc Ob σ H ρ _ R (Res.zT (Res.zU h) (fun d _ k v H' s r => ?_) fun c z H' s=>z H' (Same.frm s))⟩
 obtain⟨a,ha,R'⟩:=R.setO s (bL ho) r
 exact k _ H' _ R' (Same.frm s) fun b z=>z.elim .inl fun z=>.inr (by subst z;exact ha)
theorem Rel.write{Oc:Wd}{Ob:Addr->Prop}{om ln:List Nat}{σ:St}{H:Hp}{ρ:Ev}{i:Nat}{a:Addr}{ys ys':List V}{d:D}{ds':List D}(R:Rel Oc Ob om ln σ H ρ)(ho:i∈om)(ed:ρ[i]?=some (some d))(es:σ[i]?=some (some (.ref a)))(ha:H a=some (.lst ys))(hb:Ob a)
  (r:Reps H (Uni Oc Ob) ys' ds'):Rel Oc Ob om ln σ (upd H a (.lst ys')) (ρ.set i (some (.list ds'))):=by
 have kp:∀b o,H b=some o->¬Uni Oc Ob b->upd H a (.lst ys') b=some o:=fun b o e n=>by
  rw[zM (fun z=>n (by subst z;exact .inr hb))];exact e
 have up:∀{vs:List V}{es:List D},Reps H (Uni Oc Ob) vs es->Reps (upd H a (.lst ys')) (Uni Oc Ob) vs es:=fun r=>r.keep kp fun b n z=>z
 have up1:∀{v:V}{e:D},Rep H (Uni Oc Ob) v e->Rep (upd H a (.lst ys')) (Uni Oc Ob) v e:=fun r=>r.keep kp fun b n z=>z
 have li:i<σ.length:=(Au.mp es).1
 refine⟨by rw[BY];exact R.len,fun j d' e h1 h2 => ?_,fun j d' e h1 => ?_,fun j d' e h1 h2 => ?_,fun j k dj dk b ej ek hj hk qj qk => ?_,fun b z => ?_,R.ap⟩
 ·rcases xA e with ⟨rfl,rfl⟩ | ⟨ne,e⟩
  ·exact absurd ho h1
  ·obtain⟨w,q,k⟩:=R.val j d' e h1 h2
   exact⟨w,q,up1 k⟩
 ·rcases xA e with ⟨rfl,rfl⟩ | ⟨ne,e⟩
  ·exact⟨.ref a,es,a,ys',ds',rfl,rfl,zO,hb,up r⟩
  ·obtain⟨w,q,b,zs,fs,rfl,z2,z3,z4,z5⟩:=R.own j d' e h1
   have nb:b≠a:=fun z=>by subst z;exact ne (R.inj j i d' d b e ed h1 ho q es)
   exact⟨_,q,b,zs,fs,rfl,z2,by rw[zM nb];exact z3,z4,up z5⟩
 ·rcases xA e with ⟨rfl,rfl⟩ | ⟨ne,e⟩
  ·exact absurd ho h1
  ·obtain⟨w,q,zs,fs,z1,z2,z3,z4,z5⟩:=R.lnt j d' e h1 h2
   have nb:Oc.la j≠a:=fun z=>R.ap a hb (z▸z4)
   exact⟨_,q,zs,fs,z1,z2,by rw[zM nb];exact z3,z4,up z5⟩
 ·have get:∀j dj,(ρ.set i (some (.list ds')))[j]?=some (some dj)->∃d,ρ[j]?=some (some d):=fun j dj e=>by
   rcases xA e with ⟨rfl,rfl⟩ | ⟨ne,e⟩
   ·exact⟨d,ed⟩
   ·exact⟨dj,e⟩
  obtain⟨d1,e1⟩:=get j dj ej
  obtain⟨d2,e2⟩:=get k dk ek
  exact R.inj j k d1 d2 b e1 e2 hj hk qj qk
 ·by_cases h:b=a
  ·subst h;rw[zO];exact fun z=>nomatch z
  ·rw[zM h];exact R.oh b z
def PrM(r:V->List V->Hp->VK->Prop)(g:List D->List D->Option (List D)):Prop :=
 ∀(O:Addr->Prop) (H:Hp) (l:Addr) (xs vs:List V) (xd ad ds':List D) (Q:VK),H l=some (.lst xs)->Reps H O xs xd->Reps H O vs ad->g xd ad=some ds'->(∀xs',Reps H O xs' ds'->Q .non (upd H l (.lst xs')))->r (.ref l) vs H Q
def lstD:D->Option (List D)
 | .list ds=>some ds
 | _=>none
def sM(i:Nat)(g:List D->List D->Option (List D))(m:Ev->Res (List D)):Ev->Res Out:=fun ρ=>(eV i ρ).bind fun d=>(Res.lft (lstD d)).bind fun xd=>(m ρ).bind fun ad=>(Res.lft (g xd ad)).bind fun ds=>.ok (.nx (ρ.set i (some (.list ds))))
theorem zM5{d:D}{ds:List D}(h:lstD d=some ds):d=.list ds:=by
 cases d <;> simp[lstD] at h ⊢
 exact h
theorem dY(i:Nat){x name:Str}{id:String}{a:Expr}{es:List Expr}{ms:Ev->Res (List D)}{p' apos cpos:Pos}{r:V->List V->Hp->VK->Prop}{g:List D->List D->Option (List D)}(slot:Slot "list" name id)(hty:typeOf (.builtin id)=pure (.type "method_descriptor"))(hm:MtR C.X id r)(hp:PrM r g)(ha:RArg C true (a::es) ms)
  (hN:autoParam (C.X.N[i]?=some x) DI) (ho:autoParam (C.om.contains i=true) DI) (hv:autoParam (Vis C.X.env.scope x) aJ._auto_1) (hd:autoParam ((x == ("__debug__":Str))=false) DH) (hcd:autoParam ((x == ("__classdict__":Str))=false) DH)
  (hbase:autoParam (attributeBase (.Name x p') name C.X.env (eval (.Name x p') C.X.env)=eval (.Name x p') C.X.env) DI)
  (hfew:((backTo cpos (starEach (a::es) C.X.env)).all (fun x=>!x.1)&&(backToKw cpos (keywordEach [] C.X.env)).all (fun x=>x.1.isSome)
  &&decide ((a::es).length+([]:List Keyword).length+(if ([]:List Keyword).isEmpty then 0 else 1)<30))=true:=by rfl)
  (hline:autoParam ((apos.endLine == cpos.line)=true) DI) (hs:autoParam (starEach (a::es) C.X.env=(false,eval a C.X.env)::starEach es C.X.env) DI) (hplain:autoParam ((backTo cpos (starEach es C.X.env)).any (·.1)=false) DI)
  (hsw:autoParam (swapsWith (.Call (.Attribute (.Name x p') name apos) (a::es) [] cpos) none pos.line C.X.env=pure false) DI) :
  RS C fr (.Expr (.Call (.Attribute (.Name x p') name apos) (a::es) [] cpos) pos) (sM i g ms):=by
 obtain⟨t,p,q⟩:=ha
 refine⟨_,kG (cQ BX slot hty hm (bB hN hv hd hcd) p hbase hfew hline hs hplain) hsw,fun Oc Ob σ H ρ E R h => ?_⟩
 obtain⟨d,ed,k⟩:=aH (Res.zU h)
 obtain⟨xd,ex,k⟩:=Res.yV (Res.zU k)
 obtain rfl:=zM5 ex
 obtain⟨v,qv,l,ys,ds,rfl,e2,e3,e4,e5⟩:=R.own i _ ed (bL ho)
 cases e2
 refine⟨_,qv,.inl ⟨rfl,_,SqL.of e3⟩,q Oc Ob σ H ρ _ R (Res.zT (Res.zU k) (fun ad _ k vs H' s r' => ?_) fun c z H' s=>z H' (Same.frm s))⟩
 obtain⟨ds',eg,k⟩:=Res.yV (Res.zU k)
 refine hp _ H' l ys vs xd ad ds' _ (s _ _ e3) (e5.same s) r' eg fun xs' rx => ?_
 refine k _ _ Ob ((R.same s).write (bL ho) ed qv (s _ _ e3) e4 rx) (fun b o e n => ?_) fun b z=>.inl z
 rw[zM (fun z=>n (by subst z;exact e4))]
 exact s b o e
end
def RG(C:Ct)(tg:Expr)(g:D->Ev->Option Ev):Prop :=
 ∃t,PG C.X tg t/\∀(Oc:Wd) (Ob:Addr->Prop) (σ:St) (H:Hp) (ρ ρ':Ev) (v:V) (d:D) (Q:St->Hp->Prop),Rel Oc Ob C.om C.ln σ H ρ->Rep H (Uni Oc Ob) v d->g d ρ=some ρ'->(∀σ',Rel Oc Ob C.om C.ln σ' H ρ'->Q σ' H)->t v σ H Q
def gN(i:Nat):D->Ev->Option Ev:=fun d ρ=>some (ρ.set i (some d))
section
variable {C:Ct}{fr:Bool}{e c:Expr}{es:List Expr}{pos:Pos}{md:Md}{me:Ev->Res D}{mt:Ev->Res Bool}{st:Stmt}{body sts rest:List Stmt}{m n:Ev->Res Out}{mi:Ev->Res (List D)}{g:D->Ev->Option Ev}
theorem yK(i:Nat){x:Str}(nd:C.X.N.Nodup)(hi:autoParam (C.X.N[i]?=some x) DI)(ho:autoParam (C.om.contains i=false) DI)(hl:autoParam (C.ln.contains i=false) DI)(hx:autoParam (Loc C.X.env.scope x) zZ4._auto_1)
  (hf:autoParam (C.X.fn x=true\/C.X.env.scope.names.lookup x=some .local) autoK12._auto_1):RG C (.Name x pos) (gN i):=by
 refine⟨_,kM nd hi hx hf,fun Oc Ob σ H ρ ρ' v d Q R r e k => ?_⟩
 cases e
 exact k _ (R.set (xL ho) (xL hl) r)
def RGs(C:Ct)(ts:List Expr)(g:List D->Ev->Option Ev):Prop :=
 ∃t,PGs C.X ts t/\∀(Oc:Wd) (Ob:Addr->Prop) (σ:St) (H:Hp) (ρ ρ':Ev) (vs:List V) (ds:List D) (Q:St->Hp->Prop),Rel Oc Ob C.om C.ln σ H ρ->Reps H (Uni Oc Ob) vs ds->g ds ρ=some ρ'->(∀σ',Rel Oc Ob C.om C.ln σ' H ρ'->Q σ' H)->t vs σ H Q
def gsN:List D->Ev->Option Ev
 | [],ρ=>some ρ
 | _,_=>none
def gsC(g:D->Ev->Option Ev)(h:List D->Ev->Option Ev):List D->Ev->Option Ev
 | d::ds,ρ=>(g d ρ).bind fun ρ1=>h ds ρ1
 | [],_=>none
theorem uC:RGs C [] gsN:=by
 refine⟨_,yY6,fun Oc Ob σ H ρ ρ' vs ds Q R r e k => ?_⟩
 cases r with
 | nil=>cases e;exact⟨rfl,k σ R⟩
 | cons=>cases e
theorem xV{h:List D->Ev->Option Ev}(h1:RG C e g)(h2:RGs C es h)(hs:autoParam ((assignEach (e::es) C.X.env).map (·.2)=assign e C.X.env::(assignEach es C.X.env).map (·.2)) DI):RGs C (e::es) (gsC g h):=by
 obtain⟨t,p,q⟩:=h1
 obtain⟨t',p',q'⟩:=h2
 refine⟨_,zY9 p p' hs,fun Oc Ob σ H ρ ρ' vs ds Q R r e k => ?_⟩
 cases r with
 | nil=>cases e
 | cons r rs =>
  obtain⟨ρ1,e1,e2⟩:=AN.mp e
  exact⟨_,_,rfl,q Oc Ob σ H ρ ρ1 _ _ _ R r e1 fun σ' R'=>q' Oc Ob σ' H ρ1 ρ' _ _ Q R' rs e2 k⟩
def gT(n:Nat)(h:List D->Ev->Option Ev):D->Ev->Option Ev
 | .tuple ds,ρ=>if ds.length=n then h ds ρ else none
 | _,_=>none
theorem jG{k n:Nat}{h:List D->Ev->Option Ev}(hc:C.X.calm=true)(hg:RGs C es h)(hn:autoParam ((assignEach es C.X.env).length=n) DI)(hst:autoParam ((assignEach es C.X.env).findIdx? (·.1)=none) DI):RG C (.Tuple es k pos) (gT n h):=by
 obtain⟨t,p,q⟩:=hg
 refine⟨_,yM2 hc p hn hst,fun Oc Ob σ H ρ ρ' v d Q R r e k => ?_⟩
 cases r with
 | tup rd no rs =>
  unfold gT at e
  simp only at e
  split at e
  ·rename_i hl
   exact⟨_,_,rfl,.inl rd,by rw[rs.length];exact hl,q Oc Ob σ H ρ ρ' _ _ Q R rs e k⟩
  ·cases e
 | _=>cases e
theorem xM5{tg:Expr}(he:RE C .cl e me)(hg:RG C tg g)(hs:autoParam (swapsWithSole [tg] e pos.line C.X.env=pure false) DI)(hw:autoParam (swappedStores [tg] e C.X.env=pure none) DI)
  (h1:autoParam ((assignEach [tg] C.X.env).map (·.2)=[assign tg C.X.env]) DI):RS C fr (.Assign [tg] e pos) (fun ρ=>(me ρ).bind fun d=>(Res.lft (g d ρ)).bind fun ρ'=>.ok (.nx ρ')):=by
 obtain⟨t,p,q⟩:=he
 obtain⟨t',p',q'⟩:=hg
 refine⟨_,yH5 p p' hs hw h1,fun Oc Ob σ H ρ E R h=>q Oc Ob σ H ρ _ R (Res.zT (Res.zU h) (fun d _ k v H' s r => ?_) fun c z H' s=>z H' (Same.frm s))⟩
 obtain⟨ρ',e,k⟩:=Res.yV (Res.zU k)
 exact q' Oc Ob σ H' ρ ρ' v d _ (R.same s) r e fun σ' R'=>k σ' H' Ob R' (Same.frm s) fun b z=>.inl z
def forM(g:D->Ev->Option Ev)(b:Ev->Res Out):List D->Ev->Res Out
 | [],ρ=>.ok (.nx ρ)
 | x::xs,ρ=>(Res.lft (g x ρ)).bind fun ρ1=>(b ρ1).bind fun o=>match o with
  | .nx ρ2=>forM g b xs ρ2
  | .rt d=>.ok (.rt d)
def sF(mi:Ev->Res (List D))(g:D->Ev->Option Ev)(b:Ev->Res Out):Ev->Res Out:=fun ρ=>(mi ρ).bind fun ds=>forM g b ds ρ
theorem jK{tg iter:Expr}(hi:RI C tg iter mi)(hg:RG C tg g)(hb:RSs C fr body m)(hp:autoParam (PassesOwn (model C.X.prog C.X.w) C.X.A C.X.env C.X.xe) autoK13._auto_1)(hc:autoParam (C.X.calm=true) DI)
  (hs:autoParam (∀x,foldedSetIterable iter C.X.env x=pure x) DG):RS C fr (.For tg iter body [] pos) (sF mi g m):=by
 obtain⟨wi,pi,qi⟩:=hi
 obtain⟨tg',pg,qg⟩:=hg
 obtain⟨tb,pb,qb⟩:=hb
 refine⟨_,zE2 hp hc pi pg pb hs,fun Oc Ob σ H ρ E R h=>qi Oc Ob σ H ρ _ R (Res.zT (Res.zU h) (fun ds _ k J H1 s1 wk => ?_) fun c z H' s=>z H' (Same.frm s))⟩
 refine⟨fun i mm σ' H'=>mm=ds.length-i/\i<=ds.length/\∃ρi Obi,Rel Oc Obi C.om C.ln σ' H' ρi/\Frm Ob H1 H'/\(∀b,Obi b->Ob b\/H1 b=none)/\SPost C fr Oc Obi H' E (forM g m (ds.drop i) ρi),
  ⟨_,rfl,AM _,ρ,Ob,R.same s1,Same.frm (Same.refl _),fun b z=>.inl z,SPost.same s1 k⟩,?_⟩
 rintro i mm σ2 H2 ⟨rfl,hi,ρi,Obi,R2,f2,sb2,k2⟩
 obtain⟨w1,w2⟩:=wk H2 Obi f2 sb2 i
 by_cases hlt:i<ds.length
 ·obtain⟨go,yl⟩:=w1 ds[i] (Aj hlt)
  have ed:ds.drop i=ds[i]::ds.drop (i+1):=Bl hlt
  rw[ed,forM] at k2
  obtain⟨ρ1,e1,k2⟩:=Res.yV (Res.zU k2)
  refine .inr ⟨go,fun σ' H'=>∃m',m'<ds.length-i/\(m'=ds.length-(i+1)/\i+1<=ds.length/\∃ρi Obi,Rel Oc Obi C.om C.ln σ' H' ρi/\Frm Ob H1 H'/\(∀b,Obi b->Ob b\/H1 b=none)/\SPost C fr Oc Obi H' E (forM g m (ds.drop (i+1)) ρi)),fun _ _ z=>z,fun x H3 hy => ?_⟩
  obtain⟨s3,rx⟩:=yl x H3 hy
  refine qg Oc Obi σ2 H3 ρi ρ1 x _ _ (R2.same s3) rx e1 fun σ3 R3 => ?_
  have k3:=SPost.same s3 (show SPost C fr Oc Obi H2 E _ from k2)
  refine qb Oc Obi σ3 H3 ρ1 _ R3 (Res.zT (Res.zU k3) (fun o _ k4 => ?_) fun _ z=>z)
  cases o with
  | rt d=>exact k4
  | nx ρ2 =>
   intro σ4 H4 Ob4 R4 f4 sb4
   have f3:Frm Ob H1 H3:=fun b o e n=>s3 b o (f2 b o e n)
   refine⟨_,by rfl',rfl,hlt,ρ2,Ob4,R4,f3.trans sb2 f4,fun b z=>(sb4 b z).elim (sb2 b) fun z=>f3.none z,SPost.step f4 sb4 k4⟩
 ·have ei:i=ds.length:=by rfl'
  subst ei
  rw[BQ] at k2
  exact .inl ⟨w2 (Al _),k2 σ2 H2 Obi R2 (Same.frm (Same.refl _)) fun b z=>.inl z⟩
def whM(t:Ev->Res Bool)(b:Ev->Res Out):Nat->Ev->Res Out
 | 0,_=>.no
 | k+1,ρ=>(t ρ).bind fun c=>if c then (b ρ).bind fun o=>match o with
  | .nx ρ'=>whM t b k ρ'
  | .rt d=>.ok (.rt d) else .ok (.nx ρ)
def sW(fuel:Nat)(t:Ev->Res Bool)(b:Ev->Res Out):Ev->Res Out:=fun ρ=>whM t b fuel ρ
theorem yE2(fuel:Nat)(hc:RT C c mt)(hb:RSs C fr body m)(hp:autoParam (PassesOwn (model C.X.prog C.X.w) C.X.A C.X.env C.X.xe) autoK13._auto_1):RS C fr (.While c body [] pos) (sW fuel mt m):=by
 obtain⟨t,p,q⟩:=hc
 obtain⟨tb,pb,qb⟩:=hb
 refine⟨_,kA hp p pb,fun Oc Ob σ H ρ E R h => ?_⟩
 refine⟨fun mm σ' H'=>∃ρi Obi,Rel Oc Obi C.om C.ln σ' H' ρi/\Frm Ob H H'/\(∀b,Obi b->Ob b\/H b=none)/\SPost C fr Oc Obi H' E (whM mt m mm ρi),⟨fuel,ρ,Ob,R,Same.frm (Same.refl _),fun b z=>.inl z,h⟩,?_⟩
 rintro mm σ2 H2 ⟨ρi,Obi,R2,f2,sb2,k2⟩
 cases mm with
 | zero=>exact k2.elim
 | succ mm =>
  rw[whM] at k2
  refine q Oc Obi σ2 H2 ρi _ R2 (Res.zT (Res.zU k2) (fun b _ k3 H3 s3 => ?_) fun c z H' s=>z H' (Same.frm s))
  cases b with
  | false=>exact iteF (k3 σ2 H3 Obi (R2.same s3) (Same.frm s3) fun b z=>.inl z)
  | true =>
   refine iteT ⟨fun σ' H'=>∃m',m'<mm+1/\∃ρi Obi,Rel Oc Obi C.om C.ln σ' H' ρi/\Frm Ob H H'/\(∀b,Obi b->Ob b\/H b=none)/\SPost C fr Oc Obi H' E (whM mt m m' ρi),fun _ _ z=>z,?_⟩
   have k3:=SPost.same s3 (show SPost C fr Oc Obi H2 E _ from k3)
   refine qb Oc Obi σ2 H3 ρi _ (R2.same s3) (Res.zT (Res.zU k3) (fun o _ k4 => ?_) fun _ z=>z)
   cases o with
   | rt d=>exact k4
   | nx ρ2 =>
    intro σ4 H4 Ob4 R4 f4 sb4
    have f3:Frm Ob H H3:=fun b o e n=>s3 b o (f2 b o e n)
    exact⟨mm,CK _,ρ2,Ob4,R4,f3.trans sb2 f4,fun b z=>(sb4 b z).elim (sb2 b) fun z=>f3.none z,SPost.step f4 sb4 k4⟩
theorem hR{α:Type}{l:List (Option α)}{i j:Nat}{d:α}(h:(l.set i none)[j]?=some (some d)):j≠i/\l[j]?=some (some d):=by
 by_cases e:i=j
 ·subst e
  rw[List.getElem?_set_self'] at h
  cases q:l[i]? with
  | none=>rw[q] at h;cases h
  | some z=>rw[q] at h;cases h
 ·rw[AG e] at h
  exact⟨fun z=>e z.symm,h⟩
end
end L2.L3
namespace L2
open PySem PySem.Spec PyProof.Rows
structure Has(K:KFr)(mg:Str->Option Value)(x:Str)(st:Stmt)(f:Addr)(fd:FuncData)(ps:List Str):Prop where
 F:Fun K x x st f fd
 b:Binds K fd ps []
 m:mg x=some (.ref f)
theorem bH{K:KFr}{h:Heap}{mg:Str->Option Value}{x:Str}{st:Stmt}{f:Addr}{oc:Value}{od an:Option Addr}{osl:Array (Option Value)}{kV doc pm cdv ct:Value}{ps:List Str}(X:K.In h)(G:h.Ns mainGlobals mg)
  (a:PySem.W.nsIn K mainGlobals x=some (some (.ref f))) (l:K.lookup f=some ⟨oc,od,.func (PySem.W.fnOf x x (defArgs st) (defBody st) (zR st) .none kV doc pm an cdv ct),osl⟩)
  (c:PySem.W.codeIn K cdv x=true) (k:PySem.W.keepIn K (.ref f)=true)
  (hb:∀(kV doc pm:Value) (an:Option Addr) (cdv ct:Value) (us:List Value),us.length=ps.length->bindArgs (PySem.W.fnOf x x (defArgs st) (defBody st) (zR st) .none kV doc pm an cdv ct) ⟨us,[]⟩=pure (ps.zip us)) :
  Has K mg x st f (PySem.W.fnOf x x (defArgs st) (defBody st) (zR st) .none kV doc pm an cdv ct) ps :=
 have F:=yP3 (st:=st) l c k
 ⟨F,F.binds hb,PySem.W.mg_of X G a⟩
end L2
namespace L2.L3
open PySem PySem.Spec PyProof.Rows
variable [CN]
def CallOk:Bool->(Addr->Prop)->Hp->Hp->V->D->Prop
 | true,O,H,H',v,d=>∃a ys ds,v=.ref a/\d=.list ds/\H a=none/\H' a=some (.lst ys)/\Reps H' (fun b=>O b\/b=a) ys ds
 | false,O,_,H',v,d=>Rep H' O v d
def spF(fr:Bool)(F:List D->Res D):Sp:=fun vs H Q _=>∃(ds:List D) (O:Addr->Prop),(∀a,O a->H a≠none)/\Reps H O vs ds/\(F ds).post (fun d=>∀v H',Same H H'->CallOk fr O H H' v d->Q v H') (fun _=>False)
def fin(fr:Bool):Out->Res D
 | .rt d=>.ok d
 | .nx _=>if fr then .no else .ok .none
def runF(fr:Bool)(p n:Nat)(m:Ev->Res Out):List D->Res D:=fun ds=>if ds.length=p then (m (ds.map some++List.replicate (n-p) none)).bind (fin fr) else .no
theorem bJ{α:Type}{ds:List α}{k i:Nat}{d:α}(h:(ds.map some++List.replicate k none)[i]?=some (some d)):ds[i]?=some d:=by
 by_cases hi:i<ds.length
 ·rw[BF (by simpa using hi),AA] at h
  cases e:ds[i]? with
  | none=>rw[e] at h;cases h
  | some z=>rw[e] at h;cases h;rfl
 ·rw[BM (by simpa using hi),List.getElem?_replicate] at h
  split at h <;> cases h
theorem yB2{α:Type}{ds:List α}{k i:Nat}{d:α}(h:ds[i]?=some d):(ds.map some++List.replicate k none)[i]?=some (some d):=by
 have hi:=(Au.mp h).1
 rw[BF (by simpa using hi),AA,h]
 rfl
section
variable {P:Program}{w:World}{K:KFr}{mg:Str->Option Value}{base:Heap}
end
def mdF(fr:Bool):Md:=if fr then .new else .cl
def eF(F:List D->Res D)(m:Ev->Res (List D)):Ev->Res D:=fun ρ=>(m ρ).bind F
section
variable {C:Ct}{k:Nat}{f:Addr}{fd:FuncData}{ps:List Str}{fr:Bool}{F:List D->Res D}{x:Str}{p pos:Pos}{e:Expr}{es:List Expr}{ms:Ev->Res (List D)}{st:Stmt}
end
mutual
def lf:D->Bool
 | .list _=>false
 | .dict _=>false
 | .tuple ds=>lfs ds
 | _=>true
def lfs:List D->Bool
 | []=>true
 | d::ds=>lf d&&lfs ds
end
mutual
theorem Rep.lf{H:Hp}{U:Addr->Prop}{B:Addr->Prop}(hB:∀b,B b->∃ys,H b=some (.lst ys)):∀{v:V}{d:D},Rep H (fun b=>U b/\¬B b) v d->L3.lf d=true->Rep H U v d
 | _,_,.non,_=>.non
 | _,_,.bl b,_=>.bl b
 | _,_,.int i,_=>.int i
 | _,_,.str x,_=>.str x
 | _,_,.lst r n t,h=>by simp[L3.lf] at h
 | _,_,.exc r w n,h=>by simp[L3.lf] at h
 | _,_,@Rep.tup _ _ _ a _ _ r n t,h=>.tup r (fun z=>by
   by_cases hb:B a
   ·obtain⟨ys,e⟩:=hB _ hb
    rcases r with r | ⟨o,r⟩ <;> (rw[r] at e;cases e)
   ·exact n ⟨z,hb⟩) (Reps.lf hB t (by simpa [L3.lf] using h))
theorem Reps.lf{H:Hp}{U:Addr->Prop}{B:Addr->Prop}(hB:∀b,B b->∃ys,H b=some (.lst ys)):∀{vs:List V}{ds:List D},Reps H (fun b=>U b/\¬B b) vs ds->lfs ds=true->Reps H U vs ds
 | _,_,.nil,_=>.nil
 | _,_,.cons r t,h=>by
  rw[lfs,Ay] at h
  exact .cons (Rep.lf hB r h.1) (Reps.lf hB t h.2)
end
def i2(f:Int->Int->Option Int):D->D->Option D
 | .int i,.int j=>(f i j).map PyData.int
 | _,_=>none
theorem yZ3{f:Int->Int->Option Int}{x y d:D}(h:i2 f x y=some d):∃i j k,x=.int i/\y=.int j/\f i j=some k/\d=.int k:=by
 cases x with
 | int i =>
  cases y with
  | int j =>
   obtain⟨k,e,rfl⟩:=AK.mp (show (f i j).map PyData.int=some d from h)
   exact⟨i,j,k,rfl,rfl,e,rfl⟩
  | _=>cases h
 | _=>cases h
theorem yB7{C:Int->Int->Prop}{g:Int->Int->Int}{f:Int->Int->Option Int}(hf:∀i j k,f i j=some k->C i j/\k=g i j):Pr2 (rI C fun i j=>.int (g i j)) .cl (i2 f):=by
 intro Oc Ob H x y dx dy d Q oh vx vy e k
 obtain⟨i,j,n,rfl,rfl,ef,rfl⟩:=yZ3 e
 obtain⟨hc,rfl⟩:=hf i j n ef
 exact⟨i,j,vx.int,vy.int,hc,k _ H (Same.refl H) (Rep.int _)⟩
theorem xZ1{g:Int->Int->Int}:Pr2 (rI0 fun i j=>.int (g i j)) .cl (i2 fun i j=>some (g i j)):=by
 intro Oc Ob H x y dx dy d Q oh vx vy e k
 obtain⟨i,j,n,rfl,rfl,ef,rfl⟩:=yZ3 e
 cases ef
 exact⟨i,j,vx.int,vy.int,k _ H (Same.refl H) (Rep.int _)⟩
abbrev addI:D->D->Option D:=i2 fun i j=>some (i+j)
abbrev subI:D->D->Option D:=i2 fun i j=>some (i-j)
def MulOk(i j:Int):Prop:=CMul i j\/(Small i/\Small j)
open Classical in
def mulO(i j:Int):Option Int:=if MulOk i j then some (i*j) else none
abbrev mulI:D->D->Option D:=i2 mulO
def DivOk(j:Int):Prop:=0<j/\j.natAbs.log2<9000
instance (j:Int):Decidable (DivOk j):=by unfold DivOk;infer_instance
def fdivO(i j:Int):Option Int:=if DivOk j then some (i / j) else none
def modO(i j:Int):Option Int:=if 0<j then some (i%j) else none
abbrev fdivI:D->D->Option D:=i2 fdivO
abbrev modI:D->D->Option D:=i2 modO
section
variable {X:Cx}
theorem xW5:OpR X (binaryOp .Mult) (rI MulOk fun i j=>.int (i*j)):=opI fun _ _ _ _ _ _ _ hc q=>mul_int q (hc.elim CMul.ok fun h=>.of_bits h.1.bits h.2.bits)
theorem vC:OpR X (binaryOp .FloorDiv) (rI (fun _ j=>DivOk j) fun i j=>.int (i / j)):=opI fun i j _ _ _ _ _ hc q=>by
 refine floordiv_int (by have:=hc.1;rfl') ?_ (.inl (PyProof.noPylong_of_log2 hc.2))
 rw[Int.fdiv_eq_ediv_of_nonneg _ (by have:=hc.1;rfl')]
 exact q
end
open Classical in
theorem yJ8{i j k:Int}(h:mulO i j=some k):MulOk i j/\k=i*j:=by
 unfold mulO at h
 split at h
 ·cases h;exact⟨by assumption,rfl⟩
 ·cases h
theorem xX9{i j:Int}(h:MulOk i j):mulO i j=some (i*j):=by
 unfold mulO
 exact Ak h
theorem yQ6{i j k:Int}(h:fdivO i j=some k):DivOk j/\k=i / j:=by
 unfold fdivO at h
 split at h
 ·cases h;exact⟨by assumption,rfl⟩
 ·cases h
theorem yM1{i j k:Int}(h:modO i j=some k):0<j/\k=i%j:=by
 unfold modO at h
 split at h
 ·cases h;exact⟨by assumption,rfl⟩
 ·cases h
theorem DivOk.small{j:Int}(h:0<j)(h2:j<1073741824):DivOk j:=by
 refine⟨h,?_⟩
 have h30:j.natAbs.log2<30:=(Nat.log2_lt (by rfl')).mpr (by rfl')
 rfl'
theorem MulOk.right{i j:Int}(h:-(2 ^ 64)<j)(h2:j<2 ^ 64):MulOk i j:=.inl (.inr ⟨h,h2⟩)
theorem yH:Pr2 (rI0 fun i j=>.int (i+j)) .cl addI:=xZ1
theorem aS:Pr2 (rI0 fun i j=>.int (i-j)) .cl subI:=xZ1
theorem xL1:Pr2 (rI MulOk fun i j=>.int (i*j)) .cl mulI:=yB7 fun _ _ _ h=>yJ8 h
theorem qH:Pr2 (rI (fun _ j=>DivOk j) fun i j=>.int (i / j)) .cl fdivI:=yB7 fun _ _ _ h=>yQ6 h
theorem gK:Pr2 (rI (fun _ j=>0<j) fun i j=>.int (i%j)) .cl modI:=yB7 fun _ _ _ h=>yM1 h
def c2(f:Int->Int->Bool):D->D->Option Bool
 | .int i,.int j=>some (f i j)
 | _,_=>none
theorem yR7{f:Int->Int->Bool}:PrB (rI0 fun i j=>.bl (f i j)) (c2 f):=by
 intro Oc Ob H x y dx dy b Q vx vy e k
 cases dx with
 | int i =>
  cases dy with
  | int j =>
   cases e
   exact⟨_,_,vx.int,vy.int,k⟩
  | _=>cases e
 | _=>cases e
abbrev ltI:D->D->Option Bool:=c2 fun i j=>decide (i<j)
abbrev leI:D->D->Option Bool:=c2 fun i j=>decide (i<=j)
abbrev gtI:D->D->Option Bool:=c2 fun i j=>decide (j<i)
abbrev geI:D->D->Option Bool:=c2 fun i j=>decide (j<=i)
theorem fQ:PrB (rI0 fun i j=>.bl (decide (i<j))) ltI:=yR7
theorem yR4:PrB (rI0 fun i j=>.bl (decide (i<=j))) leI:=yR7
theorem gE:PrB (rI0 fun i j=>.bl (decide (j<i))) gtI:=yR7
theorem xL9:PrB (rI0 fun i j=>.bl (decide (j<=i))) geI:=yR7
def eqD(x y:D):Option Bool:=if SeqAt.shaped x=true/\SeqAt.shaped y=true then some (PyData.eqv x y) else none
def neD(x y:D):Option Bool:=if SeqAt.shaped x=true/\SeqAt.shaped y=true then some (!PyData.eqv x y) else none
theorem vY{K:KFr}:PrB (rEqD K false) eqD:=by
 intro Oc Ob H x y dx dy b Q vx vy e k
 unfold eqD at e
 split at e
 ·rename_i h
  cases e
  exact⟨dx,dy,vx.datS h.1,vy.datS h.2,h.1,h.2,k⟩
 ·cases e
theorem uF{K:KFr}:PrB (rEqD K true) neD:=by
 intro Oc Ob H x y dx dy b Q vx vy e k
 unfold neD at e
 split at e
 ·rename_i h
  cases e
  exact⟨dx,dy,vx.datS h.1,vy.datS h.2,h.1,h.2,k⟩
 ·cases e
def isND(neg:Bool):D->D->Option Bool
 | .none,.none=>some (!neg)
 | _,.none=>some neg
 | _,_=>none
theorem yK9{Oc:Wd}{Ob:Addr->Prop}{H:Hp}{x:V}{d:D}(h:VA Oc Ob H x d):decide (x=.non)=(match d with | .none=>true | _=>false):=by
 rcases h with h | ⟨a,ys,ds,rfl,rfl,e3,e5⟩
 ·cases h <;> rfl
 ·rfl
theorem zV7:PrB (fun x y H Q=>y=.non/\Q (.bl (decide (x=.non))) H) (isND false):=by
 intro Oc Ob H x y dx dy b Q vx vy e k
 cases dy with
 | none =>
  refine⟨vy.none,?_⟩
  rw[yK9 vx]
  cases dx <;> (simp only[isND] at e;cases e;exact k)
 | _=>cases dx <;> cases e
theorem zW1:PrB (fun x y H Q=>y=.non/\Q (.bl (!decide (x=.non))) H) (isND true):=by
 intro Oc Ob H x y dx dy b Q vx vy e k
 cases dy with
 | none =>
  refine⟨vy.none,?_⟩
  rw[yK9 vx]
  cases dx <;> (simp only[isND] at e;cases e;exact k)
 | _=>cases dx <;> cases e
def flD:D->Bool
 | .none=>true
 | .bool _=>true
 | .int _=>true
 | .str _=>true
 | _=>false
def eqF:D->D->Bool
 | .none,.none=>true
 | .bool a,.bool b=>a == b
 | .bool a,.int b=>(if a then 1 else 0) == b
 | .int a,.bool b=>a == (if b then 1 else 0)
 | .int a,.int b=>a == b
 | .str a,.str b=>a == b
 | _,_=>false
theorem zX2{H:Hp}{O:Addr->Prop}{v:V}{d:D}(h:Rep H O v d)(f:flD d=true):flatV v=true:=by
 cases h <;> first | rfl | cases f
theorem xY8{H:Hp}{O O':Addr->Prop}{v v':V}{d d':D}(h:Rep H O v d)(h':Rep H O' v' d')(f:flD d=true)(f':flD d'=true):eqV v v'=eqF d d':=by
 cases h <;> cases h' <;> first | rfl | cases f | cases f'
theorem bX{H:Hp}{O:Addr->Prop}:∀{vs:List V}{ds:List D},Reps H O vs ds->ds.all flD=true->vs.all flatV=true
 | _,_,.nil,_=>rfl
 | _,_,.cons h t,f=>by
  rw[Dq,Ay] at f ⊢
  exact⟨zX2 h f.1,bX t f.2⟩
theorem zX5{H:Hp}{O O':Addr->Prop}{x:V}{dx:D}(hx:Rep H O' x dx)(fx:flD dx=true):∀{vs:List V}{ds:List D},Reps H O vs ds->ds.all flD=true->inV x vs=ds.any fun y=>eqF y dx
 | _,_,.nil,_=>rfl
 | _,_,.cons h t,f=>by
  rw[Dq,Ay] at f
  have ih:=zX5 hx fx t f.2
  unfold inV at ih ⊢
  rw[Dr,Dr,ih,xY8 h hx f.1 fx]
def inD(neg:Bool)(x y:D):Option Bool:=(seqD y).bind fun ds=>if flD x=true/\ds.all flD=true then some (if neg then !ds.any (fun z=>eqF z x) else ds.any fun z=>eqF z x) else none
theorem xU2{Oc:Wd}{Ob:Addr->Prop}{H:Hp}{x:V}{d:D}(h:VA Oc Ob H x d)(f:flD d=true):Rep H (Uni Oc Ob) x d:=by
 rcases h with h | ⟨a,ys,ds,rfl,rfl,e3,e5⟩
 ·exact h
 ·cases f
theorem zT6{K:KFr}{neg:Bool}:PrB (rIn K neg) (inD neg):=by
 intro Oc Ob H x y dx dy b Q vx vy e k
 unfold inD at e
 obtain⟨ds,e1,e⟩:=AN.mp e
 split at e
 ·rename_i h
  cases e
  have rx:=xU2 vx h.1
  cases dy with
  | list ds' =>
   cases e1
   obtain⟨a,ys,rfl,rd,rs⟩:=vy.list
   refine⟨a,ys,rfl,.inl (.inl rd),zX2 rx h.1,bX rs h.2,?_⟩
   rw[zX5 rx h.1 rs h.2]
   exact k
  | tuple ds' =>
   cases e1
   obtain⟨a,ys,rfl,rd,rs⟩:=vy.tuple
   refine⟨a,ys,rfl,.inr (.inl rd),zX2 rx h.1,bX rs h.2,?_⟩
   rw[zX5 rx h.1 rs h.2]
   exact k
  | _=>cases e1
 ·cases e
def ixD:D->D->Option D
 | .list ds,.int i=>atI ds i
 | .tuple ds,.int i=>atI ds i
 | _,_=>none
theorem zC1{H:Hp}{O:Addr->Prop}{vs:List V}{ds:List D}{i:Int}{d:D}(r:Reps H O vs ds)(h:atI ds i=some d):∃v,atI vs i=some v/\Rep H O v d:=by
 unfold atI at h ⊢
 obtain⟨j,e1,e2⟩:=AN.mp h
 obtain⟨v,ev,rv⟩:=r.get e2
 refine⟨v,?_,rv⟩
 rw[r.length,e1]
 exact ev
theorem xG{K:KFr}:Pr2 (rIx K) .cl ixD:=by
 intro Oc Ob H x y dx dy d Q oh vx vy e k
 cases dx with
 | list ds =>
  cases dy with
  | int i =>
   obtain⟨a,ys,rfl,rd,rs⟩:=vx.list
   obtain⟨v,ev,rv⟩:=zC1 rs e
   exact .inl ⟨a,ys,i,v,rfl,vy.int,.inl rd,ev,k v H (Same.refl H) rv⟩
  | _=>cases e
 | tuple ds =>
  cases dy with
  | int i =>
   obtain⟨a,ys,rfl,rd,rs⟩:=vx.tuple
   obtain⟨v,ev,rv⟩:=zC1 rs e
   exact .inr (.inl ⟨a,ys,i,v,rfl,vy.int,.inl rd,ev,k v H (Same.refl H) rv⟩)
  | _=>cases e
 | _=>cases e
def rCatR:R2:=fun x y H Q=>∃l b xs zs,x=.ref l/\y=.ref b/\Rd H l (.lst xs)/\Rd H b (.lst zs)/\xs.length+zs.length<=sizeLine/\∀p,H p=none->Q (.ref p) (upd H p (.lst (xs++zs)))
theorem Rd.lstM{X:Cx}{DJ:List (Addr×Obj)}{σ:St}{H:Hp}{s:Shared}{l:Addr}{xs:List V}(I:Inv X DJ σ H s)(hH:Rd H l (.lst xs)):xs.length<=sizeLine/\∃(its:List Value) (n:Nat),Vals xs its/\xs.length=its.length/\s.heap.get? l=some { cls:=.type "list",data:=.seq its.toArray n }:=by
 obtain⟨z,its,n,r,e⟩:=hH.ok I.hok
 exact⟨z,its,n,r,r.length,e⟩
section
variable {X:Cx}
theorem xP:OpR X (binaryOp .Add) rCatR:=by
 intro DJ s σ H x y v u Q I rx ry h
 obtain⟨l,b,xs,zs,rfl,rfl,hH,hB,hz,q⟩:=h
 cases rx
 cases ry
 obtain⟨z,its,n,r,hl,e⟩:=Rd.lstM I hH
 obtain⟨z2,its2,n2,r2,hl2,e2⟩:=Rd.lstM I hB
 refine PySem.P.add_list e e2 ?_ (by rw[AC,AC];rfl')
 have ea:its.toArray++its2.toArray=(its++its2).toArray:=by simp
 rw[ea]
 exact⟨.ref _,_,I.lnew (t':=s.toks) (r.append r2) (by rw[Af];rfl'),rfl,q _ I.fresh⟩
end
def catL:D->D->Option D
 | .list xs,.list ys=>if xs.length+ys.length<=sizeLine then some (.list (xs++ys)) else none
 | _,_=>none
theorem wO:Pr2 rCatR .new catL:=by
 intro Oc Ob H x y dx dy d Q oh vx vy e k
 cases dx with
 | list xs =>
  cases dy with
  | list ys =>
   obtain⟨a,vs,rfl,rd,rs⟩:=vx.list
   obtain⟨b,ws,rfl,rd',rs'⟩:=vy.list
   unfold catL at e
   simp only at e
   split at e
   ·rename_i hl
    cases e
    refine⟨a,b,vs,ws,rfl,rfl,rd,rd',by rw[rs.length,rs'.length];exact hl,fun p hp=>k _ _ (Same.new hp) (vA (Same.refl H) hp (rs.append rs'))⟩
   ·cases e
  | _=>cases e
 | _=>cases e
def lenD:List D->Option D
 | [d]=>(seqD d).map fun ds=>.int ds.length
 | _=>none
theorem yE{K:KFr}:PrC (fun xs H Q=>∃p ys,xs=[.ref p]/\(SqL K H p ys\/SqT K H p ys)/\Q (.int ys.length) H) .cl lenD:=by
 intro Oc Ob H vs ds d Q oh va e k
 cases ds with
 | nil=>cases e
 | cons x xs =>
  cases xs with
  | cons=>cases e
  | nil =>
   obtain⟨v,rfl,vx⟩:=va.one
   obtain⟨es,e1,rfl⟩:=AK.mp e
   cases x with
   | list ds' =>
    cases e1
    obtain⟨a,ys,rfl,rd,rs⟩:=vx.list
    exact⟨a,ys,rfl,.inl (.inl rd),k _ H (Same.refl H) (by rw[rs.length];exact Rep.int _)⟩
   | tuple ds' =>
    cases e1
    obtain⟨a,ys,rfl,rd,rs⟩:=vx.tuple
    exact⟨a,ys,rfl,.inr (.inl rd),k _ H (Same.refl H) (by rw[rs.length];exact Rep.int _)⟩
   | _=>cases e1
def tupD:List D->Option D
 | [d]=>(seqD d).map fun ds=>.tuple ds
 | _=>none
theorem gZ{K:KFr}:PrC (fun xs H Q=>∃p ys,xs=[.ref p]/\((SqL K H p ys/\∀l,H l=none->Q (.ref l) (upd H l (.tup ys)))\/(SqT K H p ys/\Q (.ref p) H))) .cl tupD:=by
 intro Oc Ob H vs ds d Q oh va e k
 cases ds with
 | nil=>cases e
 | cons x xs =>
  cases xs with
  | cons=>cases e
  | nil =>
   obtain⟨v,rfl,vx⟩:=va.one
   obtain⟨es,e1,rfl⟩:=AK.mp e
   cases x with
   | list ds' =>
    cases e1
    obtain⟨a,ys,rfl,rd,rs⟩:=vx.list
    exact⟨a,ys,rfl,.inl ⟨.inl rd,fun l hl=>k _ _ (Same.new hl) (dN oh hl rs)⟩⟩
   | tuple ds' =>
    cases e1
    rcases vx with vx | ⟨a,ys,ds,rfl,ez,_⟩
    ·cases vx with
     | tup rd n rs=>exact⟨_,_,rfl,.inr ⟨.inl rd,k _ H (Same.refl H) (.tup rd n rs)⟩⟩
    ·cases ez
   | _=>cases e1
def intsOf:List D->Option (List Int)
 | []=>some []
 | .int i::ds=>(intsOf ds).map (i :: ·)
 | _::_=>none
@[simp] theorem intsOf_map:∀ns:List Int,intsOf (ns.map PyData.int)=some ns
 | []=>rfl
 | n::ns=>by rw[AI,intsOf,intsOf_map ns];rfl
theorem zY2:∀{ds:List D}{ns:List Int},intsOf ds=some ns->ds=ns.map PyData.int
 | [],ns,h=>by cases h;rfl
 | d::ds,ns,h=>by
  cases d with
  | int i =>
   obtain⟨ms,e,rfl⟩:=AK.mp (show (intsOf ds).map (i :: ·)=some ns from h)
   rw[zY2 e];rfl
  | _=>cases h
def nsD(d:D):Option (List Int):=(seqD d).bind intsOf
theorem yK3{K:KFr}{Oc:Wd}{Ob:Addr->Prop}{H:Hp}{x:V}{d:D}{ns:List Int}(h:VA Oc Ob H x d)(e:nsD d=some ns):∃p,x=.ref p/\(SqL K H p (ns.map V.int)\/SqT K H p (ns.map V.int)):=by
 obtain⟨ds,e1,e2⟩:=AN.mp e
 obtain rfl:=zY2 e2
 cases d with
 | list ds' =>
  cases e1
  obtain⟨a,ys,rfl,rd,rs⟩:=h.list
  rw[rs.ints] at rd
  exact⟨a,rfl,.inl (.inl rd)⟩
 | tuple ds' =>
  cases e1
  obtain⟨a,ys,rfl,rd,rs⟩:=h.tuple
  rw[rs.ints] at rd
  exact⟨a,rfl,.inr (.inl rd)⟩
 | _=>cases e1
def min2D:List D->Option D
 | [.int i,.int j]=>some (.int (if j<i then j else i))
 | _=>none
theorem xU3:PrC (fun xs H Q=>∃i j,xs=[.int i,.int j]/\Q (.int (if j<i then j else i)) H) .cl min2D:=by
 intro Oc Ob H vs ds d Q oh va e k
 unfold min2D at e
 split at e
 ·cases e
  obtain⟨v,v',rfl,vx,vy⟩:=va.two
  obtain rfl:=vx.int
  obtain rfl:=vy.int
  exact⟨_,_,rfl,k _ H (Same.refl H) (Rep.int _)⟩
 ·cases e
def tyD:D->String
 | .none=>"NoneType"
 | .bool _=>"bool"
 | .int _=>"int"
 | .str _=>"str"
 | .list _=>"list"
 | .tuple _=>"tuple"
 | .dict _=>"dict"
def subTy(t T:String):Bool:=t == T || (t == "bool"&&T == "int")
structure Kit(K:KFr)(T:String):Prop where
 non:PySem.W.kitOne K (.type "NoneType") (.type T)=some (subTy "NoneType" T)
 bl:PySem.W.kitOne K (.type "bool") (.type T)=some (subTy "bool" T)
 int:PySem.W.kitOne K (.type "int") (.type T)=some (subTy "int" T)
 str:PySem.W.kitOne K (.type "str") (.type T)=some (subTy "str" T)
 lst:PySem.W.kitOne K (.type "list") (.type T)=some (subTy "list" T)
 tup:PySem.W.kitOne K (.type "tuple") (.type T)=some (subTy "tuple" T)
def TyR(K:KFr)(H:Hp)(x:V)(t:Value):Prop:=TyOf K H x t\/∃a xs,x=.ref a/\Rd H a (.tup xs)/\t=.type "tuple"
section
variable {X:Cx}
theorem yO1:CallR X (.builtin "isinstance") (fun vs H Q=>∃x c cv t b,vs=[x,c]/\clsV c=some cv/\TyR X.K H x t/\PySem.W.kitOne X.K t cv=some b/\Q (.bl b) H):=by
 intro DJ s σ H xs us Q I r h
 obtain⟨x,c,cv,t,b,rfl,ec,ty,k,q⟩:=h
 obtain⟨u,w',rfl,ru,rw'⟩:=vals2 r
 obtain rfl:=zG4 rw' ec
 rcases ty with ty | ⟨a,xs,rfl,rd,rfl⟩
 ·exact yH4 I ru ty k fun tk=>⟨.bl b,H,I.tok tk,rfl,q⟩
 ·cases ru
  obtain⟨_,_,_,p⟩:=rd.ok I.hok
  obtain⟨o,h1,h2,_⟩:=p
  exact Bm PySem.W.kitx_tuple I.kIn ⟨o,h1,h2⟩ k (fun z=>nomatch z) fun tk=>⟨.bl b,H,I.tok tk,rfl,q⟩
end
def isiD(T:String):D->Option D
 | .dict _=>none
 | d=>some (.bool (subTy (tyD d) T))
theorem yI6{T:String}{d r:D}(h:isiD T d=some r):(∀k,d ≠ .dict k)/\r=.bool (subTy (tyD d) T):=by
 cases d <;> first | (cases h;done) | (cases h;exact⟨(fun k z=>nomatch z),rfl⟩)
theorem xK5{K:KFr}{Oc:Wd}{Ob:Addr->Prop}{H:Hp}{x:V}{d:D}{T:String}(h:VA Oc Ob H x d)(k:Kit K T)(nd:∀k,d ≠ .dict k):∃t,TyR K H x t/\PySem.W.kitOne K t (.type T)=some (subTy (tyD d) T):=by
 rcases h with h | ⟨a,ys,ds,rfl,rfl,e3,e5⟩
 ·cases h with
  | non=>exact⟨_,.inl .non,k.non⟩
  | bl b=>exact⟨_,.inl (.bl b),k.bl⟩
  | int i=>exact⟨_,.inl (.int i),k.int⟩
  | str x=>exact⟨_,.inl (.str x),k.str⟩
  | lst r n t =>
   rcases r with r | ⟨o,r⟩
   ·exact⟨_,.inl (.lst r),k.lst⟩
   ·exact⟨_,.inl (.frz r),k.lst⟩
  | tup r n t=>exact⟨_,.inr ⟨_,_,rfl,r,rfl⟩,k.tup⟩
  | exc r w n=>exact absurd rfl (nd _)
 ·exact⟨_,.inl (.lst e3),k.lst⟩
theorem yQ8{C:Ct}{e:Expr}{T:String}{x:Str}{p p2 pos:Pos}{md:Md}{me:Ev->Res D}(k:Kit C.X.K T)(hm:C.X.mg "isinstance" = none)(hx:C.X.mg x=none)(hv:bootBuiltins x=some (.type T))(he:RE C md e me)(hg:autoParam (Gl C.X "isinstance") DI)(hgx:autoParam (Gl C.X x) DI)(hn:autoParam (x ≠ "__name__") DH)(hdb:autoParam ((x == ("__debug__":Str))=false) DH)
  (hs1:autoParam (starEach [e,.Name x p2] C.X.env=(false,eval e C.X.env)::starEach [.Name x p2] C.X.env) DI) (hs2:autoParam (starEach [.Name x p2] C.X.env=(false,eval (.Name x p2) C.X.env)::starEach [] C.X.env) DI) (hpl:autoParam ((backTo pos (starEach [.Name x p2] C.X.env)).any (·.1)=false) DI) :
  RE C .cl (.Call (.Name "isinstance" p) [e,.Name x p2] [] pos) (e1 (isiD T) me):=by
 obtain⟨t,pe,q⟩:=he
 refine⟨_,vL yO1 hg hm BZ (zP pe (zP (yW7 (v:=.ty T) hgx hx hv rfl hn hdb) zA hs2) hs1) (by decide) (by decide) hs1 hpl,fun Oc Ob σ H ρ Q R h=>q Oc Ob σ H ρ _ R (Res.zT (Res.zU h) (fun d _ kk v H' s r => ?_) fun _ z=>z)⟩
 obtain⟨dd,ed,kk⟩:=Res.yV kk
 obtain⟨nd,rfl⟩:=yI6 ed
 obtain⟨tt,ty,kt⟩:=xK5 (r.va R.oh) k nd
 exact⟨v,.ty T,.type T,tt,_,rfl,rfl,ty,kt,kk _ H' s (Rep.bl _)⟩
theorem zK9{s:Shared}{J:Addr}{hp h':Heap}(keep:∀b o,s.heap.get? b=some o->b≠J/\hp.get? b=some o)(hk:∀b o,b ∉ [J]->hp.get? b=some o->h'.get? b=some o):∀b o,s.heap.get? b=some o->h'.get? b=some o :=
 fun b o e=>hk b o (by simpa using (keep b o e).1) (keep b o e).2
theorem fW(xs:Array (Int×Tok)):(intItems xs).size=xs.size:=by simp[intItems]
section
variable {prog:Program}{w:World}{A:Around}{E:Value->Shared->Prop}{s:Shared}{l:Addr}{xs:Array (Int×Tok)}{Q:Value->Shared->Prop}
theorem xT9(hh:A.handled=none)(hl:s.heap.IsTuple l (intItems xs))(ne:0<xs.size)
  (k:∀v h' tk,(intItems xs)[argBest (fun i j=>decide (numAt xs i<numAt xs j)) (xs.size-1)]?=some v->(∀b o,s.heap.get? b=some o->h'.get? b=some o)->Q v { s with heap:=h',toks:=tk }):wpAny (model prog w) A (call (.builtin "min") [.ref l]) Q E s :=
 call_min_walk (zD7 (A:=A.in1) hh hl fun J hp St W st a b keep=>⟨_,_,_,_,_,_,_,rfl,W,st,by simp[a,b],by rw[fW];exact ne,.ints_lt (numAt xs) (fun _ _=>intItems_at),fun v h' tk at_ hk=>k v h' tk (by rw[fW] at at_;exact at_) (zK9 keep hk)⟩)
theorem xY7(hh:A.handled=none)(hl:s.heap.IsTuple l (intItems xs))(ne:0<xs.size)
  (k:∀v h' tk,(intItems xs)[argBest (fun i j=>decide (numAt xs i > numAt xs j)) (xs.size-1)]?=some v->(∀b o,s.heap.get? b=some o->h'.get? b=some o)->Q v { s with heap:=h',toks:=tk }):wpAny (model prog w) A (call (.builtin "max") [.ref l]) Q E s :=
 call_max_walk (zD7 (A:=A.in1) hh hl fun J hp St W st a b keep=>⟨_,_,_,_,_,_,_,rfl,W,st,by simp[a,b],by rw[fW];exact ne,.ints_gt (numAt xs) (fun _ _=>intItems_at),fun v h' tk at_ hk=>k v h' tk (by rw[fW] at at_;exact at_) (zK9 keep hk)⟩)
end
def minL:List Int->Int
 | []=>0
 | n::ns=>ns.foldl (fun a b=>if b<a then b else a) n
def maxL:List Int->Int
 | []=>0
 | n::ns=>ns.foldl (fun a b=>if b > a then b else a) n
theorem fY:∀(ns:List Int) (n:Int),(ns.foldl (fun a b=>if b<a then b else a) n=n\/ns.foldl (fun a b=>if b<a then b else a) n∈ns)/\ns.foldl (fun a b=>if b<a then b else a) n<=n/\∀m∈ns,ns.foldl (fun a b=>if b<a then b else a) n<=m
 | [],n=>⟨.inl rfl,Int.le_refl _,fun m h=>nomatch h⟩
 | b::ns,n=>by
  obtain⟨h1,h2,h3⟩:=fY ns (if b<n then b else n)
  rw[List.foldl_cons]
  refine⟨?_,?_,fun m hm => ?_⟩
  ·rcases h1 with h1 | h1
   ·rw[h1]
    split
    ·exact .inr Ae
    ·exact .inl rfl
   ·exact .inr (Ai _ h1)
  ·refine Int.le_trans h2 ?_
   split <;> rfl'
  ·rcases Aw.mp hm with rfl | hm
   ·refine Int.le_trans h2 ?_
    split <;> rfl'
   ·exact h3 m hm
theorem gF:∀(ns:List Int) (n:Int),(ns.foldl (fun a b=>if b > a then b else a) n=n\/ns.foldl (fun a b=>if b > a then b else a) n∈ns)/\n<=ns.foldl (fun a b=>if b > a then b else a) n/\∀m∈ns,m<=ns.foldl (fun a b=>if b > a then b else a) n
 | [],n=>⟨.inl rfl,Int.le_refl _,fun m h=>nomatch h⟩
 | b::ns,n=>by
  obtain⟨h1,h2,h3⟩:=gF ns (if b > n then b else n)
  rw[List.foldl_cons]
  refine⟨?_,?_,fun m hm => ?_⟩
  ·rcases h1 with h1 | h1
   ·rw[h1]
    split
    ·exact .inr Ae
    ·exact .inl rfl
   ·exact .inr (Ai _ h1)
  ·refine Int.le_trans ?_ h2
   split <;> rfl'
  ·rcases Aw.mp hm with rfl | hm
   ·refine Int.le_trans ?_ h2
    split <;> rfl'
   ·exact h3 m hm
theorem zF1{ns:List Int}(h:ns ≠ []):minL ns∈ns:=by
 cases ns with
 | nil=>exact absurd rfl h
 | cons n ns =>
  rcases (fY ns n).1 with e | e
  ·show List.foldl _ n ns∈_
   rw[e];exact Ae
  ·exact Ai _ e
theorem yV5{ns:List Int}{m:Int}(h:m∈ns):minL ns<=m:=by
 cases ns with
 | nil=>cases h
 | cons n ns =>
  rcases Aw.mp h with rfl | h
  ·exact (fY ns m).2.1
  ·exact (fY ns n).2.2 m h
theorem zE9{ns:List Int}(h:ns ≠ []):maxL ns∈ns:=by
 cases ns with
 | nil=>exact absurd rfl h
 | cons n ns =>
  rcases (gF ns n).1 with e | e
  ·show List.foldl _ n ns∈_
   rw[e];exact Ae
  ·exact Ai _ e
theorem yY1{ns:List Int}{m:Int}(h:m∈ns):m<=maxL ns:=by
 cases ns with
 | nil=>cases h
 | cons n ns =>
  rcases Aw.mp h with rfl | h
  ·exact (gF ns m).2.1
  ·exact (gF ns n).2.2 m h
theorem yZ9{xs:Array (Int×Tok)}{i:Nat}(h:i<xs.size):numAt xs i∈xs.toList.map (·.1):=by
 rw[numAt_eq]
 exact getD_mem (by simpa using h)
theorem yZ7{xs:Array (Int×Tok)}{a:Int}(h:a∈xs.toList.map (·.1)):∃i,i<xs.size/\a=numAt xs i:=by
 obtain⟨i,hi,e⟩:=mem_getD h
 exact⟨i,by simpa using hi,by rw[numAt_eq,e]⟩
theorem yE5{xs:Array (Int×Tok)}(h:0<xs.size):numAt xs (argBest (fun i j=>decide (numAt xs i<numAt xs j)) (xs.size-1))=minL (xs.toList.map (·.1)):=by
 have z:=argBest_lt (numAt xs) (xs.size-1)
 have m:=yZ9 (xs:=xs) (i:=argBest (fun i j=>decide (numAt xs i<numAt xs j)) (xs.size-1)) (by rfl')
 obtain⟨i,hi,e⟩:=yZ7 (zF1 (List.ne_nil_of_mem m))
 have:=yV5 m
 have:=z.2 i (by rfl')
 rfl'
theorem yB6{xs:Array (Int×Tok)}(h:0<xs.size):numAt xs (argBest (fun i j=>decide (numAt xs i > numAt xs j)) (xs.size-1))=maxL (xs.toList.map (·.1)):=by
 have z:=argBest_gt (numAt xs) (xs.size-1)
 have m:=yZ9 (xs:=xs) (i:=argBest (fun i j=>decide (numAt xs i > numAt xs j)) (xs.size-1)) (by rfl')
 obtain⟨i,hi,e⟩:=yZ7 (zE9 (List.ne_nil_of_mem m))
 have:=yY1 m
 have:=z.2 i (by rfl')
 rfl'
section
variable {X:Cx}
theorem yL6(hc:X.calm=true):CallR X (.builtin "min") (fun xs H Q=>∃(p:Addr) (ns:List Int),xs=[.ref p]/\(SqL X.K H p (ns.map V.int)\/SqT X.K H p (ns.map V.int))/\ns ≠ []/\Q (.int (minL ns)) H):=by
 intro DJ s σ H xs us Q I r h
 obtain⟨p,ns,rfl,hq,hne,q⟩:=h
 obtain⟨u,rfl,ru⟩:=vals1 r
 cases ru
 have core:∀(its:List Value),Vals (ns.map V.int) its->∃xs:Array (Int×Tok),its.toArray=intItems xs/\ns=xs.toList.map (·.1):=fun its rv=>by
  have hi:IntsAre its ns:=zU2 rv
  obtain⟨xs,e⟩:=hi.allInts.items
  exact⟨xs,e,by rw[<-hi.numsOf,<-nums_intItems,<-e]⟩
 have fin:∀(xs:Array (Int×Tok)),ns=xs.toList.map (·.1)->0<xs.size->∀(v:Value) (h':Heap) (tk:Nat),(intItems xs)[argBest (fun i j=>decide (numAt xs i<numAt xs j)) (xs.size-1)]?=some v->(∀b o,s.heap.get? b=some o->h'.get? b=some o)->EP X DJ σ Q v { s with heap:=h',toks:=tk }:=fun xs hns hsz v h' tk hv hk=>by
  obtain⟨t,rfl⟩:=intItems_at hv
  have e:=yE5 hsz
  rw[<-hns] at e
  exact⟨.int _,H,I.kept hk,⟨t,by rw[e]⟩,q⟩
 have sz:∀xs:Array (Int×Tok),ns=xs.toList.map (·.1)->0<xs.size:=fun xs hns=>by
  rcases DC xs.size with z | z
  ·exact absurd (by rw[hns,Array.size_eq_zero_iff.mp z];rfl) hne
  ·exact z
 rcases hq with hq | hq
 ·obtain⟨its,rv,pl,hz⟩:=I.list hq
  obtain⟨xs,e,hns⟩:=core its rv
  exact min_intList (I.ok.hd hc) (by rw[<-e];exact pl.isList) (sz xs hns) (fin xs hns (sz xs hns))
 ·obtain⟨its,rv,pl,hz⟩:=I.tuple hq
  obtain⟨xs,e,hns⟩:=core its rv
  exact xT9 (I.ok.hd hc) (by rw[<-e];exact pl) (sz xs hns) (fin xs hns (sz xs hns))
theorem yH3(hc:X.calm=true):CallR X (.builtin "max") (fun xs H Q=>∃(p:Addr) (ns:List Int),xs=[.ref p]/\(SqL X.K H p (ns.map V.int)\/SqT X.K H p (ns.map V.int))/\ns ≠ []/\Q (.int (maxL ns)) H):=by
 intro DJ s σ H xs us Q I r h
 obtain⟨p,ns,rfl,hq,hne,q⟩:=h
 obtain⟨u,rfl,ru⟩:=vals1 r
 cases ru
 have core:∀(its:List Value),Vals (ns.map V.int) its->∃xs:Array (Int×Tok),its.toArray=intItems xs/\ns=xs.toList.map (·.1):=fun its rv=>by
  have hi:IntsAre its ns:=zU2 rv
  obtain⟨xs,e⟩:=hi.allInts.items
  exact⟨xs,e,by rw[<-hi.numsOf,<-nums_intItems,<-e]⟩
 have fin:∀(xs:Array (Int×Tok)),ns=xs.toList.map (·.1)->0<xs.size->∀(v:Value) (h':Heap) (tk:Nat),(intItems xs)[argBest (fun i j=>decide (numAt xs i > numAt xs j)) (xs.size-1)]?=some v->(∀b o,s.heap.get? b=some o->h'.get? b=some o)->EP X DJ σ Q v { s with heap:=h',toks:=tk }:=fun xs hns hsz v h' tk hv hk=>by
  obtain⟨t,rfl⟩:=intItems_at hv
  have e:=yB6 hsz
  rw[<-hns] at e
  exact⟨.int _,H,I.kept hk,⟨t,by rw[e]⟩,q⟩
 have sz:∀xs:Array (Int×Tok),ns=xs.toList.map (·.1)->0<xs.size:=fun xs hns=>by
  rcases DC xs.size with z | z
  ·exact absurd (by rw[hns,Array.size_eq_zero_iff.mp z];rfl) hne
  ·exact z
 rcases hq with hq | hq
 ·obtain⟨its,rv,pl,hz⟩:=I.list hq
  obtain⟨xs,e,hns⟩:=core its rv
  exact max_intList (I.ok.hd hc) (by rw[<-e];exact pl.isList) (sz xs hns) (fin xs hns (sz xs hns))
 ·obtain⟨its,rv,pl,hz⟩:=I.tuple hq
  obtain⟨xs,e,hns⟩:=core its rv
  exact xY7 (I.ok.hd hc) (by rw[<-e];exact pl) (sz xs hns) (fin xs hns (sz xs hns))
end
def min1D:List D->Option D
 | [d]=>(nsD d).bind fun ns=>if ns=[] then none else some (.int (minL ns))
 | _=>none
def max1D:List D->Option D
 | [d]=>(nsD d).bind fun ns=>if ns=[] then none else some (.int (maxL ns))
 | _=>none
theorem xS2{K:KFr}:PrC (fun xs H Q=>∃(p:Addr) (ns:List Int),xs=[.ref p]/\(SqL K H p (ns.map V.int)\/SqT K H p (ns.map V.int))/\ns ≠ []/\Q (.int (minL ns)) H) .cl min1D:=by
 intro Oc Ob H vs ds d Q oh va e k
 unfold min1D at e
 split at e
 ·obtain⟨ns,e1,e⟩:=AN.mp e
  split at e
  ·cases e
  ·rename_i hl
   cases e
   obtain⟨v,rfl,vx⟩:=va.one
   obtain⟨p,rfl,hq⟩:=yK3 vx e1
   exact⟨p,ns,rfl,hq,hl,k _ H (Same.refl H) (Rep.int _)⟩
 ·cases e
theorem xV1{K:KFr}:PrC (fun xs H Q=>∃(p:Addr) (ns:List Int),xs=[.ref p]/\(SqL K H p (ns.map V.int)\/SqT K H p (ns.map V.int))/\ns ≠ []/\Q (.int (maxL ns)) H) .cl max1D:=by
 intro Oc Ob H vs ds d Q oh va e k
 unfold max1D at e
 split at e
 ·obtain⟨ns,e1,e⟩:=AN.mp e
  split at e
  ·cases e
  ·rename_i hl
   cases e
   obtain⟨v,rfl,vx⟩:=va.one
   obtain⟨p,rfl,hq⟩:=yK3 vx e1
   exact⟨p,ns,rfl,hq,hl,k _ H (Same.refl H) (Rep.int _)⟩
 ·cases e
section
variable {X:Cx}
end
def appD:List D->List D->Option (List D)
 | xs,[d]=>if xs.length<sizeLine then some (xs ++ [d]) else none
 | _,_=>none
theorem Reps.one'{H:Hp}{O:Addr->Prop}{vs:List V}{d:D}(h:Reps H O vs [d]):∃v,vs=[v]/\Rep H O v d:=by
 cases h with
 | cons a t=>cases t;exact⟨_,rfl,a⟩
theorem jT:PrM rAppend appD:=by
 intro O H l xs vs xd ad ds' Q hl rx ra e k
 unfold appD at e
 split at e
 ·split at e
  ·rename_i h
   cases e
   obtain⟨v,rfl,rv⟩:=Reps.one' ra
   exact⟨l,xs,v,rfl,rfl,hl,by rw[rx.length];exact h,k _ (rx.append (.one rv))⟩
  ·cases e
 ·cases e
section
variable {i j:Nat}{m n:Ev->Res Out}{t:Ev->Res Bool}{me mk:Ev->Res D}{ms mi:Ev->Res (List D)}{g:D->Ev->Option Ev}{f:List D->List D->Option (List D)}
end
def isL:Value->Bool
 | .type t=>t == "list"
 | _=>false
def noLst(K:KFr):Bool:=K.all fun p=>!isL p.2.cls
theorem zA2{K:KFr}{a:Addr}{o:Obj}(h:K.lookup a=some o):(a,o)∈K:=by
 have h:List.lookup a K=some o:=h
 induction K with
 | nil=>cases h
 | cons p r ih =>
  obtain⟨b,u⟩:=p
  rw[BD] at h
  by_cases e:(a == b)=true
  ·simp only[e] at h
   cases h
   have:a=b:=by simpa using e
   rw[this]
   exact Ae
  ·simp only[e] at h
   exact Ai _ (ih h h)
theorem xK9{K:KFr}{H:Hp}{a:Addr}{xs:List V}(hn:noLst K=true)(h:SqL K H a xs):Rd H a (.lst xs):=by
 rcases h with h | ⟨o,its,n,hk,hc,_⟩
 ·exact h
 ·have:=AS.mp hn _ (zA2 hk)
  rw[hc] at this
  cases this
end L2.L3
namespace L2.L3
open PySem
section
variable (m n:Ev->Res Out) (t t':Ev->Res Bool) (a b c:Ev->Res D) (xs:Ev->Res (List D)) (ρ:Ev) (i j:Nat) (d:D)
theorem zU1:sN ρ=.ok (.nx ρ):=rfl
theorem gA:sQ m n ρ=(m ρ).bind fun o=>match o with | .nx ρ'=>n ρ' | .rt d=>.ok (.rt d):=rfl
theorem jF:sIf t m n ρ=(t ρ).bind fun k=>if k then m ρ else n ρ:=rfl
theorem xJ7:sR a ρ=(a ρ).bind fun d=>.ok (.rt d):=rfl
theorem xL8:sS i a ρ=(a ρ).bind fun d=>.ok (.nx (ρ.set i (some d))):=rfl
theorem xH2(g:List D->List D->Option (List D)):sM i g xs ρ=(eV i ρ).bind fun d=>(Res.lft (lstD d)).bind fun xd=>(xs ρ).bind fun ad=>(Res.lft (g xd ad)).bind fun ds=>.ok (.nx (ρ.set i (some (.list ds)))):=rfl
theorem xJ4(g:D->Ev->Option Ev):sF xs g m ρ=(xs ρ).bind fun ds=>forM g m ds ρ:=rfl
theorem xJ1(k:Nat):sW k t m ρ=whM t m k ρ:=rfl
theorem cO:eC d ρ=.ok d:=rfl
theorem eV0(x:D)(r:Ev):eV 0 (some x::r)=.ok x:=rfl
theorem eVs(o:Option D)(r:Ev):eV (i+1) (o::r)=eV i r:=rfl
theorem xH7(f:D->Option D):e1 f a ρ=(a ρ).bind fun x=>Res.lft (f x):=rfl
theorem xK6(f:D->D->Option D):e2 f a b ρ=(a ρ).bind fun x=>(b ρ).bind fun y=>Res.lft (f x y):=rfl
theorem cJ(f:List D->Option D):eB f xs ρ=(xs ρ).bind fun ds=>Res.lft (f ds):=rfl
theorem xH5(f:List D->Res D):eF f xs ρ=(xs ρ).bind f:=rfl
theorem zV8(f:D->D->Option Bool):b2 f a b ρ=(a ρ).bind fun x=>(b ρ).bind fun y=>Res.lft (f x y):=rfl
theorem cZ(f g:D->D->Option Bool):b3 f g a b c ρ=(a ρ).bind fun x=>(b ρ).bind fun y=>(Res.lft (f x y)).bind fun k=>if k then (c ρ).bind fun z=>Res.lft (g y z) else .ok false:=rfl
theorem xI8:tV a ρ=(a ρ).bind fun d=>Res.lft (isB d):=rfl
theorem gY:tNt t ρ=(t ρ).bind fun k=>.ok (!k):=rfl
theorem xN1:tAn t t' ρ=(t ρ).bind fun k=>if k then t' ρ else .ok false:=rfl
theorem zU5:tO t t' ρ=(t ρ).bind fun k=>if k then .ok true else t' ρ:=rfl
theorem xO2:vAn a b ρ=(a ρ).bind fun d=>(Res.lft (isB d)).bind fun k=>if k then b ρ else .ok (.bool false):=rfl
theorem xM7:vNt a ρ=(a ρ).bind fun d=>(Res.lft (isB d)).bind fun k=>.ok (.bool (!k)):=rfl
theorem cF:aN ρ=.ok []:=rfl
theorem cY:aC a xs ρ=(a ρ).bind fun x=>(xs ρ).bind fun r=>.ok (x::r):=rfl
theorem xJ8:iS a ρ=(a ρ).bind fun d=>Res.lft (seqD d):=rfl
theorem xK8(f:List D->Option (List D)):iR f xs ρ=(xs ρ).bind fun ds=>Res.lft (f ds):=rfl
theorem yF3(mi:Ev->Res (List D))(js:List Nat):eComp mi t a js ρ=(mi ρ).bind fun ds=>if ds.length<=sizeLine then (compM (fun x=>t (cEnv ρ js x)) (fun x=>a (cEnv ρ js x)) ds).bind fun out=>.ok (.list out) else .no:=rfl
theorem xJ9(f:Int->Int->Option Int)(x y:Int):i2 f (.int x) (.int y)=(f x y).map PyData.int:=rfl
theorem cT(f:Int->Int->Bool)(x y:Int):c2 f (.int x) (.int y)=some (f x y):=rfl
theorem xU9(l:List D):lstD (.list l)=some l:=rfl
theorem zE8(l:List D):seqD (.list l)=some l:=rfl
theorem zG6(l:List D):seqD (.tuple l)=some l:=rfl
theorem xM8(k:Bool):isB (.bool k)=some k:=rfl
theorem dI:lenD [d]=(seqD d).map fun ds=>.int ds.length:=rfl
theorem xS1:tupD [d]=(seqD d).map fun ds=>.tuple ds:=rfl
theorem xH4(l:List D)(k:Int):ixD (.list l) (.int k)=atI l k:=rfl
theorem xJ2(l:List D)(k:Int):ixD (.tuple l) (.int k)=atI l k:=rfl
theorem xT8(k:Int):negD (.int k)=some (.int (-k)):=rfl
theorem xH3(k:Bool):bD (some k)=some (.bool k):=rfl
end
theorem xP4(fr:Bool)(d:D):fin fr (.rt d)=.ok d:=rfl
theorem yZ1{g:D->Ev->Option Ev}{b:Ev->Res Out}(P:Nat->Ev->Prop)(ds:List D)(ρ:Ev)(h0:P 0 ρ)(hs:∀(i:Nat) d ρ,ds[i]?=some d->P i ρ->∃ρ1 ρ2,g d ρ=some ρ1/\b ρ1=.ok (.nx ρ2)/\P (i+1) ρ2) :
  ∃ρ',forM g b ds ρ=.ok (.nx ρ')/\P ds.length ρ':=by
 induction ds generalizing P ρ with
 | nil=>exact⟨ρ,rfl,h0⟩
 | cons d ds ih =>
  obtain⟨ρ1,ρ2,e1,e2,p⟩:=hs 0 d ρ rfl h0
  obtain⟨ρ',e,p'⟩:=ih (fun i=>P (i+1)) ρ2 p fun i d ρ hd hp=>hs (i+1) d ρ (by simpa using hd) hp
  refine⟨ρ',?_,by simpa using p'⟩
  rw[forM,e1,Res.lft_some,Res.bind_ok,e2,Res.bind_ok]
  exact e
theorem xN6{t:Ev->Res Bool}{b:Ev->Res Out}(P:Nat->Ev->Prop)(n:Nat):∀(fuel:Nat) (ρ:Ev),P 0 ρ->(∀i ρ,i<n->P i ρ->t ρ=.ok true/\∃ρ2,b ρ=.ok (.nx ρ2)/\P (i+1) ρ2)->(∀ρ,P n ρ->t ρ=.ok false)->n<fuel->∃ρ',whM t b fuel ρ=.ok (.nx ρ')/\P n ρ':=by
 induction n generalizing P with
 | zero =>
  intro fuel ρ h0 _ he hf
  obtain⟨f,rfl⟩:∃f,fuel=f+1:=⟨fuel-1,by rfl'⟩
  refine⟨ρ,?_,h0⟩
  rw[whM,he ρ h0]
  rfl
 | succ n ih =>
  intro fuel ρ h0 hs he hf
  obtain⟨f,rfl⟩:∃f,fuel=f+1:=⟨fuel-1,by rfl'⟩
  obtain⟨e1,ρ2,e2,p⟩:=hs 0 ρ (Nat.succ_pos _) h0
  obtain⟨ρ',e,p'⟩:=ih (fun i=>P (i+1)) f ρ2 p (fun i ρ hi hp=>hs (i+1) ρ (by rfl') hp) he (by rfl')
  refine⟨ρ',?_,p'⟩
  rw[whM,e1,Res.bind_ok,Ak rfl,e2,Res.bind_ok]
  exact e
theorem zN8{t:D->Res Bool}{f:D->Res D}{α:Type}(A:α->D)(p:α->Bool)(q:α->D):∀(xs:List α),(∀x∈xs,t (A x)=.ok (p x))->(∀x∈xs,p x=true->f (A x)=.ok (q x))->compM t f (xs.map A)=.ok ((xs.filter p).map q)
 | [],_,_=>rfl
 | x::xs,ht,hf=>by
  have ih:=zN8 A p q xs (fun y hy=>ht y (Ai _ hy)) (fun y hy=>hf y (Ai _ hy))
  rw[AI,compM,ht x Ae]
  cases hp:p x with
  | false=>simp only[noEx,Res.bind_ok,AF,if_false,List.filter_cons,hp];exact ih
  | true =>
   rw[hf x Ae hp,ih]
   simp[noEx,List.filter_cons,hp]
abbrev tI(ns:List Int):D:=.tuple (ns.map PyData.int)
abbrev lI(ns:List Int):D:=.list (ns.map PyData.int)
theorem zO5{α β:Type}(f:α->β)(xs:List α)(i:Int):atI (xs.map f) i=(atI xs i).map f:=by
 unfold atI
 rw[Ac]
 cases ixN xs.length i with
 | none=>rfl
 | some j=>simp
theorem zW7{xs:List Int}{j:Nat}(h:j<xs.length):atI xs (j:Int)=some (xs.getD j 0):=by
 refine yX2 ?_
 rw[Be,Aj h]
 rfl
theorem zR5{ds:List D}(h:ds.length<=1000):mkL ds=some (.list ds):=by
 unfold mkL
 exact Ak (BU (small1000 h))
theorem yO7{ds:List D}(h:ds.length<=1000):mkT ds=some (.tuple ds):=by
 unfold mkT
 exact Ak (BU (small1000 h))
theorem mkL0:mkL []=some (.list []):=zR5 (by simp)
theorem mkL1(a:D):mkL [a]=some (.list [a]):=zR5 (by simp)
theorem mkL2(a b:D):mkL [a,b]=some (.list [a,b]):=zR5 (by simp)
theorem mkL3(a b c:D):mkL [a,b,c]=some (.list [a,b,c]):=zR5 (by simp)
theorem mkT2(a b:D):mkT [a,b]=some (.tuple [a,b]):=yO7 (by simp)
theorem mkT3(a b c:D):mkT [a,b,c]=some (.tuple [a,b,c]):=yO7 (by simp)
theorem aM{l:List D}{d:D}(h:l.length<=1000):appD l [d]=some (l ++ [d]):=Ak (small1000 h)
theorem kJ{ds:List D}{r:Res D}(h:ds.length<=1000):(if ds.length<=sizeLine then r else .no)=r:=Ak (BU (small1000 h))
theorem aA{n:Nat}(h:n<=1000):rng1 [.int (n:Int)]=some ((List.range n).map fun (i:Nat)=>PyData.int (i:Int)):=by
 unfold rng1
 simp only
 rw[Ak ⟨by rfl',by rfl'⟩,Bo]
theorem xU1{n i:Nat}{d:D}(h:((List.range n).map fun (i:Nat)=>PyData.int (i:Int))[i]?=some d):i<n/\d=.int (i:Int):=by
 rw[AA] at h
 by_cases hi:i<n
 ·rw[Bk hi] at h
  cases h
  exact⟨hi,rfl⟩
 ·rw[By (by simpa using hi)] at h
  cases h
theorem kQ(i:Int):SeqAt.shaped (.int i)=true:=rfl
theorem zQ8(i j:Int):PyData.eqv (.int i) (.int j)=decide (i=j):=by
 rw[PyData.eqv]
 exact Bool.beq_eq_decide_eq i j
theorem yN(i j:Int):eqD (.int i) (.int j)=some (decide (i=j)):=by
 unfold eqD
 rw[Ak ⟨kQ i,kQ j⟩,zQ8]
theorem xJ(i j:Int):neD (.int i) (.int j)=some (!decide (i=j)):=by
 unfold neD
 rw[Ak ⟨kQ i,kQ j⟩,zQ8]
abbrev rows(rs:List (List Int)):D:=.list (rs.map tI)
theorem uO{n m:Nat}(h:m<n):ixN n (m:Int)=some m:=by
 unfold ixN
 rw[Ak (by rfl'),Ak (by rfl'),Bo]
theorem yV6{ns:List Int}(h:ns ≠ []):min1D [tI ns]=some (.int (minL ns)):=by
 unfold min1D
 simp only[nsD,seqD,Az,intsOf_map]
 rw[Ax h]
theorem xZ5{ns:List Int}(h:ns ≠ []):min1D [lI ns]=some (.int (minL ns)):=by
 unfold min1D
 simp only[nsD,seqD,Az,intsOf_map]
 rw[Ax h]
section
variable (i:Int) (b:Bool) (l:List D)
theorem xQ1:isiD "int" (.int i)=some (.bool true):=rfl
theorem xP7:isiD "bool" (.int i)=some (.bool false):=rfl
end
theorem yF8{mi:Ev->Res (List D)}{t:Ev->Res Bool}{me:Ev->Res D}{js:List Nat}{ρ:Ev}{α:Type}(A:α->D)(p:α->Bool)(q:α->D)(xs:List α)(h:mi ρ=.ok (xs.map A))(hl:xs.length<=1000)
  (ht:∀x∈xs,t (cEnv ρ js (A x))=.ok (p x)) (hf:∀x∈xs,p x=true->me (cEnv ρ js (A x))=.ok (q x)):eComp mi t me js ρ=.ok (.list ((xs.filter p).map q)):=by
 rw[yF3,h,Res.bind_ok,kJ (by rw[Ac];exact hl),zN8 A p q xs ht hf]
 rfl
theorem fV{mi:Ev->Res (List D)}{me:Ev->Res D}{js:List Nat}{ρ:Ev}{α:Type}(A:α->D)(q:α->D)(xs:List α)(h:mi ρ=.ok (xs.map A))(hl:xs.length<=1000)
  (hf:∀x∈xs,me (cEnv ρ js (A x))=.ok (q x)):eComp mi tYes me js ρ=.ok (.list (xs.map q)):=by
 rw[yF8 A (fun _=>true) q xs h hl (fun _ _=>rfl) (fun x hx _=>hf x hx),List.filter_eq_self.mpr fun _ _=>rfl]
end L2.L3
namespace L2.L3
theorem zD1{α:Type}(a:α)(l:List α):atI (a::l) 0=some a:=yX2 (j:=0) rfl
end L2.L3
namespace HT
open PySem PySem.Spec PyProof.Rows
section
variable {prog:Program}{w:World}{A:Around}{E:Value->Shared->Prop}{s:Shared}
theorem zZ6{t sl:Addr}{items:Array Value}{vl vu:Value}{lo hi:Option Int}{Q:Value->Shared->Prop}(ht:IsTup s.heap t items)(hs:s.heap.IsSliceOf sl vl vu .none)(pl:IsPart vl lo)(pu:IsPart vu hi)
  (hw:sIx items.size 0 lo=0/\sIx items.size items.size hi=items.size) (h:Q (.ref t) s):wpAny (model prog w) A (getItem (.ref t) (.ref sl)) Q E s:=by
 obtain⟨os,hos,hcs,hds⟩:=id hs
 have hTs:s.TypeIs (.ref sl) "slice":=⟨os,hos,hcs⟩
 unfold getItem
 try with_reducible refine wpAny_holding ?_
 first | refine Ab (Ao ?_) | skip
 refine Ab (wpAny_sequenceKey ht.typeIs (by decide) ?_)
 refine Ab (wpAny_callSpecial?_slot (name:=Str.ofString "__getitem__") ht.typeIs BO
  (wpAny_call_entry BO ht.typeIs entry_tuple_getitem ?_ (args_tuple_getitem _ _)))
 show wpAny _ _ (Builtin.Tuple.tupleItemsOf (.ref t) >>= _) _ _ s
 refine Ab (tupleItemsOf_ ht ?_)
 refine Ab (wpAny_typeOf hTs ?_)
 rw[Ak (by decide)]
 refine Ab (gU hs pl pu ?_)
 have hyes:(((sIx items.size 0 lo:Nat):Int) == 0&&(1:Int) == 1&&(sIx items.size items.size hi-sIx items.size 0 lo) == items.size)=true:=by
  rw[hw.1,hw.2]
  simp
 show wpAny _ _ (if (((sIx items.size 0 lo:Nat):Int) == 0&&(1:Int) == 1&&(sIx items.size items.size hi-sIx items.size 0 lo) == items.size)=true then _ else _) _ _ s
 rw[Ak hyes]
 unfold Builtin.Tuple.tupleIsExact
 refine Ab (Ab (wpAny_typeOf ht.typeIs (Ao ?_)))
 rw[Ak (by decide)]
 refine Ab (wpAny_rule ?_)
 exact Ao ⟨_,rfl,Ao h⟩
end
end HT
namespace L2.L3
open PySem PySem.Spec PyProof.Rows
variable [CN]
section
variable {X:Cx}
def rSlTA(K:KFr):V->Option Int->Option Int->Hp->VK->Prop:=fun x lo hi H Q=>∃a xs,x=.ref a/\SqT K H a xs/\HT.sIx xs.length 0 lo=0/\HT.sIx xs.length xs.length hi=xs.length/\Q (.ref a) H
theorem xX1:SlR X (rSlTA X.K):=by
 intro DJ s σ H x v vl vu lo hi sl Q I rx hs pl pu h
 obtain⟨a,xs,rfl,hx,hw1,hw2,q⟩:=h
 cases rx
 obtain⟨its,r,ht,hz⟩:=I.tuple hx
 have hlen:its.toArray.size=xs.length:=by rw[AC];exact r.length.symm
 refine⟨"tuple",_,BO.lookup,ht.typeIs,?_⟩
 exact HT.zZ6 ht hs pl pu (by rw[hlen];exact⟨hw1,hw2⟩) ⟨.ref a,H,I,rfl,q⟩
end
def RO(C:Ct)(e:Option Expr)(m:Ev->Res (Option Int)):Prop :=
 ∃t,PO C.X e t/\∀(Oc:Wd) (Ob:Addr->Prop) (σ:St) (H:Hp) (ρ:Ev) (Q:Option Int->Hp->Prop),Rel Oc Ob C.om C.ln σ H ρ ->
  (m ρ).post (fun d=>∀H',Same H H'->Q d H') (fun c=>∀H',Same H H'->C.XE c H')->t σ H Q
def oN:Ev->Res (Option Int):=fun _=>.ok none
def isI:D->Option Int
 | .int i=>some i
 | _=>none
def oS(m:Ev->Res D):Ev->Res (Option Int):=fun ρ=>(m ρ).bind fun d=>(Res.lft (isI d)).bind fun i=>.ok (some i)
theorem yD{C:Ct}:RO C none oN:=⟨_,xW7,fun Oc Ob σ H ρ Q R h=>h H (Same.refl H)⟩
theorem yR{C:Ct}{e:Expr}{md:Md}{me:Ev->Res D}(h:RE C md e me):RO C (some e) (oS me):=by
 obtain⟨t,p,q⟩:=h
 refine⟨_,xS3 p,fun Oc Ob σ H ρ Q R h=>q Oc Ob σ H ρ _ R (Res.zT (Res.zU h) (fun d _ k v H' s r => ?_) fun _ z=>z)⟩
 obtain⟨i,e,k⟩:=Res.yV (Res.zU k)
 cases d with
 | int j=>cases e;exact⟨i,(r.va R.oh).int,k H' s⟩
 | _=>cases e
def eS(f:D->Option Int->Option Int->Option D)(m:Ev->Res D)(lo hi:Ev->Res (Option Int)):Ev->Res D:=fun ρ=>(m ρ).bind fun x=>(lo ρ).bind fun l=>(hi ρ).bind fun u=>Res.lft (f x l u)
def PrS(r:V->Option Int->Option Int->Hp->VK->Prop)(md:Md)(f:D->Option Int->Option Int->Option D):Prop :=
 ∀(Oc:Wd) (Ob:Addr->Prop) (H:Hp) (x:V) (dx:D) (lo hi:Option Int) (d:D) (Q:VK),(∀a,Oc a\/Ob a->H a≠none)->VA Oc Ob H x dx->f dx lo hi=some d->(∀v H',Same H H'->VR md Oc Ob H H' v d->Q v H')->r x lo hi H Q
theorem zX1{C:Ct}{e:Expr}{lo hi:Option Expr}{md mda:Md}{me:Ev->Res D}{ml mh:Ev->Res (Option Int)}{p2 pos:Pos}{r:V->Option Int->Option Int->Hp->VK->Prop}{f:D->Option Int->Option Int->Option D}(hr:SlR C.X r)(hp:PrS r md f)(he:RE C mda e me)(hl:RO C lo ml)(hu:RO C hi mh) :
  RE C md (.Subscript e (.Slice lo hi none p2) pos) (eS f me ml mh):=by
 obtain⟨t,p,q⟩:=he
 obtain⟨tl,pl,ql⟩:=hl
 obtain⟨th,ph,qh⟩:=hu
 refine⟨_,yF6 hr p pl ph,fun Oc Ob σ H ρ Q R h=>q Oc Ob σ H ρ _ R (Res.zT (Res.zU h) (fun d _ k v H1 s1 r => ?_) fun _ z=>z)⟩
 refine ql Oc Ob σ H1 ρ _ (R.same s1) (Res.zT (Res.zU k) (fun l _ k H2 s2 => ?_) fun c z H' s'=>z H' (s1.trans s'))
 refine qh Oc Ob σ H2 ρ _ ((R.same s1).same s2) (Res.zT (Res.zU k) (fun u _ k H3 s3 => ?_) fun c z H' s'=>z H' ((s1.trans s2).trans s'))
 obtain⟨d',e,k⟩:=Res.yV k
 have R3:=((R.same s1).same s2).same s3
 refine hp Oc Ob H3 v d l u d' Q R3.oh ((r.va R.oh).same (s2.trans s3)) e fun w H' s4 rw' => ?_
 exact k w H' (((s1.trans s2).trans s3).trans s4) (rw'.from ((s1.trans s2).trans s3))
def cutD{α:Type}(xs:List α)(lo hi:Option Int):List α:=(xs.drop (HT.sIx xs.length 0 lo)).take (HT.sIx xs.length xs.length hi-HT.sIx xs.length 0 lo)
theorem aK{H:Hp}{O:Addr->Prop}{vs:List V}{ds:List D}(r:Reps H O vs ds)(lo hi:Option Int):Reps H O (cutV vs lo hi) (cutD ds lo hi):=by
 unfold cutV cutD
 rw[r.length]
 exact (r.drop _).take _
def slL:D->Option Int->Option Int->Option D
 | .list ds,lo,hi=>some (.list (cutD ds lo hi))
 | _,_,_=>none
def slD:D->Option Int->Option Int->Option D
 | .list ds,lo,hi=>some (.list (cutD ds lo hi))
 | .tuple ds,lo,hi=>some (.tuple (cutD ds lo hi))
 | _,_,_=>none
theorem xW4{K:KFr}:PrS (rSlL K) .new slL:=by
 intro Oc Ob H x dx lo hi d Q oh va e k
 cases dx with
 | list ds =>
  cases e
  obtain⟨a,ys,rfl,rd,rs⟩:=va.list
  exact⟨a,ys,rfl,.inl rd,fun p hp=>k _ _ (Same.new hp) (vA (Same.refl H) hp (aK rs lo hi))⟩
 | _=>cases e
theorem xU8{α:Type}{xs:List α}{lo hi:Option Int}(h1:HT.sIx xs.length 0 lo=0)(h2:HT.sIx xs.length xs.length hi=xs.length):cutD xs lo hi=xs:=by
 unfold cutD
 rw[h1,h2,Cj,Db,Ck]
theorem xN9{K:KFr}:PrS (fun x lo hi H Q=>rSlL K x lo hi H Q\/rSlT K x lo hi H Q\/rSlTA K x lo hi H Q) .cl slD:=by
 intro Oc Ob H x dx lo hi d Q oh va e k
 cases dx with
 | list ds =>
  cases e
  obtain⟨a,ys,rfl,rd,rs⟩:=va.list
  exact .inl ⟨a,ys,rfl,.inl rd,fun p hp=>k _ _ (Same.new hp) (VR.clean (vA (Same.refl H) hp (aK rs lo hi)) oh)⟩
 | tuple ds =>
  cases e
  rcases va with va | ⟨_,_,_,_,ez,_⟩
  ·cases va with
   | @tup a ys _ rd n rs =>
    by_cases hw:HT.sIx ys.length 0 lo=0/\HT.sIx ys.length ys.length hi=ys.length
    ·refine .inr (.inr ⟨a,ys,rfl,.inl rd,hw.1,hw.2,k _ H (Same.refl H) ?_⟩)
     rw[xU8 (by rw[<-rs.length];exact hw.1) (by rw[<-rs.length];exact hw.2)]
     exact .tup rd n rs
    ·exact .inr (.inl ⟨a,ys,rfl,.inl rd,hw,fun p hp=>k _ _ (Same.new hp) (dN oh hp (aK rs lo hi))⟩)
  ·cases ez
 | _=>cases e
theorem xC{C:Ct}{e:Expr}{lo hi:Option Expr}{mda:Md}{me:Ev->Res D}{ml mh:Ev->Res (Option Int)}{p2 pos:Pos}(he:RE C mda e me)(hl:RO C lo ml)(hu:RO C hi mh):RE C .new (.Subscript e (.Slice lo hi none p2) pos) (eS slL me ml mh):=zX1 yZ4 xW4 he hl hu
theorem gD{C:Ct}{e:Expr}{lo hi:Option Expr}{mda:Md}{me:Ev->Res D}{ml mh:Ev->Res (Option Int)}{p2 pos:Pos}(he:RE C mda e me)(hl:RO C lo ml)(hu:RO C hi mh):RE C .cl (.Subscript e (.Slice lo hi none p2) pos) (eS slD me ml mh):=zX1 (yZ4.or (xQ6.or xX1)) xN9 he hl hu
section
variable (a:Ev->Res D) (l h:Ev->Res (Option Int)) (ρ:Ev) (f:D->Option Int->Option Int->Option D)
theorem xK2:eS f a l h ρ=(a ρ).bind fun x=>(l ρ).bind fun lo=>(h ρ).bind fun u=>Res.lft (f x lo u):=rfl
theorem xI7:oN ρ=.ok none:=rfl
theorem xJ3:oS a ρ=(a ρ).bind fun d=>(Res.lft (isI d)).bind fun i=>.ok (some i):=rfl
theorem xP6(i:Int):isI (.int i)=some i:=rfl
theorem xO9(ds:List D)(lo hi:Option Int):slL (.list ds) lo hi=some (.list (cutD ds lo hi)):=rfl
theorem xK3(ds:List D)(lo hi:Option Int):slD (.list ds) lo hi=some (.list (cutD ds lo hi)):=rfl
end
theorem cR{α β:Type}(g:α->β)(xs:List α)(lo hi:Option Int):cutD (xs.map g) lo hi=(cutD xs lo hi).map g:=by
 unfold cutD
 rw[Ac,List.map_take,List.map_drop]
theorem yJ7{α:Type}(xs:List α)(k:Nat):cutD xs none (some (k:Int))=xs.take k:=by
 unfold cutD
 rw[HT.zC4,HT.zZ1,Cj,Db]
 by_cases h:k<=xs.length
 ·rw[Cw h]
 ·rw[Cm (by rfl'),Ck,AV (by rfl')]
theorem zX8{α:Type}(xs:List α)(k:Nat):cutD xs (some (k:Int)) none=xs.drop k:=by
 unfold cutD
 rw[HT.zC4,HT.zZ1]
 by_cases h:k<=xs.length
 ·rw[Cw h,AV (by rw[As];rfl')]
 ·rw[Cm (by rfl'),BE (show xs.length<=k by rfl')]
  simp
end L2.L3
namespace L2.L3
open PySem
theorem yU3(i:Int):∀ns:List Int,(ns.map PyData.int).any (fun z=>eqF z (.int i))=ns.contains i
 | []=>rfl
 | n::ns=>by
  rw[AI,Dr,yU3 i ns,BR]
  congr 1
  show (n == i)=(i == n)
  rw[Dx]
  simp only[beq_iff_eq]
  exact eq_comm
theorem zA8:∀ns:List Int,(ns.map PyData.int).all flD=true
 | []=>rfl
 | n::ns=>by rw[AI,Dq,zA8 ns];rfl
theorem wI(neg:Bool)(i:Int)(ns:List Int):inD neg (.int i) (lI ns)=some (if neg then !ns.contains i else ns.contains i):=by
 unfold inD
 show (if flD (.int i)=true/\(ns.map PyData.int).all flD=true then _ else none)=_
 rw[Ak ⟨rfl,zA8 ns⟩,yU3]
theorem yU1{ns:List Int}(h:ns ≠ []):max1D [tI ns]=some (.int (maxL ns)):=by
 unfold max1D
 simp only[nsD,seqD,Az,intsOf_map]
 rw[Ax h]
theorem xY6{ns:List Int}(h:ns ≠ []):max1D [lI ns]=some (.int (maxL ns)):=by
 unfold max1D
 simp only[nsD,seqD,Az,intsOf_map]
 rw[Ax h]
theorem yD2{a b:Nat}(ha:a<=1000)(hb:b<=1000):rng2 [.int (a:Int),.int (b:Int)]=some ((List.range (b-a)).map fun (i:Nat)=>PyData.int ((a+i:Nat):Int)):=by
 unfold rng2
 simp only
 rw[Ak ⟨by rfl',by rfl',by rfl',by rfl'⟩]
 congr 1
 rw[show ((b:Int)-(a:Int)).toNat=b-a by rfl']
 refine Ci fun i _ => ?_
 congr 1
theorem zR8{α β:Type}{g:D->Ev->Option Ev}{b:Ev->Res Out}{ds:List D}{ρ:Ev}{k:Out->Res α}{k':α->Res β}{R:Res β}(P:Nat->Ev->Prop)(h0:P 0 ρ)(hs:∀(i:Nat) d ρ,ds[i]?=some d->P i ρ->∃ρ1 ρ2,g d ρ=some ρ1/\b ρ1=.ok (.nx ρ2)/\P (i+1) ρ2)
  (hd:∀ρ',P ds.length ρ'->(k (.nx ρ')).bind k'=R):((forM g b ds ρ).bind k).bind k'=R:=by
 obtain⟨ρ',e,p⟩:=yZ1 P ds ρ h0 hs
 rw[e,Res.bind_ok]
 exact hd ρ' p
theorem xR6{α β:Type}{t:Ev->Res Bool}{b:Ev->Res Out}{fuel:Nat}{ρ:Ev}{k:Out->Res α}{k':α->Res β}{R:Res β}(P:Nat->Ev->Prop)(n:Nat)(hf:n<fuel)(h0:P 0 ρ)(hs:∀i ρ,i<n->P i ρ->t ρ=.ok true/\∃ρ2,b ρ=.ok (.nx ρ2)/\P (i+1) ρ2)(he:∀ρ,P n ρ->t ρ=.ok false)
  (hd:∀ρ',P n ρ'->(k (.nx ρ')).bind k'=R):((whM t b fuel ρ).bind k).bind k'=R:=by
 obtain⟨ρ',e,p⟩:=xN6 P n fuel ρ h0 hs he hf
 rw[e,Res.bind_ok]
 exact hd ρ' p
end L2.L3
namespace L2
open PySem PySem.Spec PyProof.Rows
theorem zA6{X:Cx}{elt iter:Expr}{ifs:List Expr}{sc0 scope:Scope}{N0:List Str}{px py pos spos:Pos}{xt y:Str}{fs:List Str}{js:List Nat}{i:Nat}{wi:TI}{tt:Addr->List Addr->Shared->Hp->TT}{te:Addr->List Addr->Shared->Hp->TE}(S:CompScope sc0 scope N0 xt fs js)(h0:X.env.scope=sc0)(hN0:X.N=N0)(hc:X.calm=true)
  (hi:PI X (.Name xt px) iter wi) (ht:∀C fp s₂ H,PTs (cxComp X (xt::fs) scope C fp s₂ H) ifs (tt C fp s₂ H)) (he:∀C fp s₂ H,PE (cxComp X (xt::fs) scope C fp s₂ H) elt (te C fp s₂ H))
  (nd:X.N.Nodup) (hy:X.N[i]?=some y) (hl:Loc X.env.scope y) (hsw:swapsWith (.ListComp elt [⟨.Name xt px,iter,ifs,0⟩] scope pos) (some (.Name y py)) spos.line X.env=pure true)
  (hs:autoParam (∀x,foldedSetIterable iter X.env x=pure x) DG) (hf:autoParam (X.fn y=true\/X.env.scope.names.lookup y=some .local) DF) :
  PS X (.Assign [.Name y py] (.ListComp elt [⟨.Name xt px,iter,ifs,0⟩] scope pos) spos) (tAsg (tComp wi tt te js) (gName i)):=by
 intro DJ s σ H E I h
 rw[exec_Assign_Name_used _ _ _ _ hsw]
 refine Ab (wpAny_standAt (Ab ?_))
 show wpAny _ X.A (do let _ <-comprehension (.ListComp elt [⟨.Name xt px,iter,ifs,0⟩] scope pos) scope X.env _ (newList []) false (eval iter X.env) (some (assign (.Name y py) X.env))) _ _ s
 refine Ab (thn (zN6 S h0 hN0 hc hi ht he hs (use:=some (assign (.Name y py) X.env)) (Qv:=fun _ s'=>SP X DJ E .next s') I h fun s' C D Ha fl hI hns hC q => ?_) fun _ s' hq=>Ao (Ao hq))
 show wpAny (model X.prog X.w) X.A (assign (.Name y py) X.env (.ref D)) (fun _ s''=>∃m,s''.heap.Ns C m/\∀h',Heap.SameBut C s''.heap h'->SP X DJ E .next { s'' with heap:=h' }) X.xe s'
 obtain⟨m,oC,es,ep,hgC,hdC,hrC⟩:=hns
 have I1:Inv X DJ σ Ha s':=hI s'.heap ⟨rfl,fun b _=>rfl⟩
 have I2:Inv X (DJ ++ [(C,oC)]) σ Ha s':=I1.xE fun p hp=>by
  rcases AB.mp hp with z | z
  ·exact I1.pin p (Ah _ z)
  ·have:p=(C,oC):=by simpa using z
   subst this
   exact⟨hgC,hC.1,hC.2.1,hC.2.2.1,fun v z=>by rw[hdC] at z;cases z⟩
 refine wpAny_assign_Name (qJ I2 nd hy hl (show RelV (.ref D) (.ref D) from rfl) (fun s'' I3 => ?_) hf)
 have hgC':=(I3.pin (C,oC) (Ah _ (Ah _ Ae))).1
 refine⟨m,⟨oC,es,ep,hgC',hdC,hrC⟩,fun h' hsb => ?_⟩
 have I4:Inv X DJ (σ.set i (some (.ref D))) Ha s'':=I3.xE fun p hp=>I3.pin p (Ah _ (AW _ hp))
 exact⟨_,Ha,Inv.turned (it:=C) (t':=s''.toks) I4 (fun b o hb e=>(hsb.2 b hb).trans e) hC.1 hC.2.1 hC.2.2.2.1 hC.2.2.2.2.1 hC.2.2.2.2.2,q⟩
end L2
namespace L2.L3
open PySem PySem.Spec PyProof.Rows
variable [CN]
end L2.L3
namespace L2
open PySem PySem.Spec PyProof.Rows
end L2
namespace L2.L3
open PySem PySem.Spec PyProof.Rows
variable [CN]
end L2.L3
namespace L2.L3
open PySem
theorem zQ3{xs ys:List Int}(h:xs.length+ys.length<=1000):catL (lI xs) (lI ys)=some (lI (xs++ys)):=by
 unfold catL
 simp only
 rw[Ac,Ac,Ak (BU (small1000 h))]
 simp only[lI,Bh]
end L2.L3
namespace L2.L3
open PySem
variable [CN]
section
variable {X:Cx}
end
end L2.L3
namespace L2.L3
open PySem PyProof.Rows
variable [CN]
section
variable {X:Cx}
end
section
variable {C:Ct}{fr:Bool}{md:Md}{e:Expr}{me:Ev->Res D}{pos:Pos}
end
section
variable {X:Cx}{DJ:List (Addr×Obj)}{σ:St}{H:Hp}{s:Shared}{h':Heap}
theorem turned2{t':Nat}{e it:Addr}(I:Inv X DJ σ H s)(k:∀b o,b≠e->b≠it->s.heap.get? b=some o->h'.get? b=some o)(fe:FpOk X DJ H e)(fi:FpOk X DJ H it):Inv X DJ σ H { s with heap:=h',toks:=t' }:=by
 have nit:∀b u,H b=some u->b≠e/\b≠it:=fun b u q=>⟨fun z=>(by rw[z,fe.1] at q;cases q),fun z=>by rw[z,fi.1] at q;cases q⟩
 refine I.step (g':=s.gens) (d':=s.drawn) (ch:=[e,it]) (fun b hb => ?_) (fun b o _ _ hc q _=>k b o (fun z=>hc (by simp[z])) (fun z=>hc (by simp[z])) q) (fun b o _ _ hc q _=>⟨o.slots,k b o (fun z=>hc (by simp[z])) (fun z=>hc (by simp[z])) q⟩) (fun _ _ _ _ n=>n)
  (fun b o hc q=>⟨o,k b o (fun z=>hc (by simp[z])) (fun z=>hc (by simp[z])) q⟩) (fun _ _ q=>q) (fun _ _ _ q=>q) (fun b ps q=>⟨#[],by rw[q];simp⟩) (fun m hm => ?_) (fun b u q => ?_) I.bare
 ·have z:b=e\/b=it:=by simpa using hb
  rcases z with rfl | rfl
  ·obtain⟨f0,f1,f2,f3,f4,f5⟩:=fe
   exact⟨f3,f1,f4,f5⟩
  ·obtain⟨f0,f1,f2,f3,f4,f5⟩:=fi
   exact⟨f3,f1,f4,f5⟩
 ·obtain⟨o,es,ep,ho,r⟩:=hm
  exact⟨o,es,ep,k _ o (AX fe.2.1) (AX fi.2.1) ho,r⟩
 ·refine (I.hok b u q).stay (fun c v hc q' => ?_) (fun _ q=>q) fun _ _ q=>q
  have nc:c≠e/\c≠it:=by
   rcases hc with z | z
   ·rw[z];exact nit b u q
   ·exact nit c _ z
  exact k c v nc.1 nc.2 q'
end
def Ite(K:KFr)(a:Addr):It :=
 ⟨fun i H=>∃xs x,SqL K H a xs/\xs[i]?=some x,fun i H x H'=>∃t y,H t=none/\x=.ref t/\H'=upd H t (.tup [.int (i:Int),y])/\∀xs,SqL K H a xs->xs[i]?=some y,fun i H=>∃xs,SqL K H a xs/\xs.length<=i⟩
theorem yJ5{P:Program}{w:World}{K:KFr}{es:List Expr}{x1:Nat}{tp:Pos}(a e it:Addr)(hne:e≠it):Turn P w K (.Tuple es x1 tp) (Ite K a) [e,it] e (fun i h=>(∃old,IsEnum h e it i old)/\h.IsListIter it a i) where
 mem:=by simp
 obj:=fun i h st b hb=>by
  obtain⟨⟨old,he⟩,o,ho,hc,hd⟩:=st
  have z:b=e\/b=it:=by simpa using hb
  rcases z with rfl | rfl
  ·exact⟨_,he,fun v z=>by cases z⟩
  ·exact⟨o,ho,fun v z=>by rw[hd] at z;cases z⟩
 keep:=fun i h h' st k=>⟨st.1.elim fun old he=>⟨old,k e (by simp) _ he⟩,st.2.at fun o q=>k it (by simp) o q⟩
 item:=by
  intro X hP hw hK hc i DJ s σ H E I hf st hg
  subst hP hw hK
  obtain⟨xs,x,hq,hx⟩:=hg
  obtain⟨its,rv,p,hz⟩:=I.list hq
  obtain⟨u,hu,ru⟩:=rv.get hx
  obtain⟨⟨old,he⟩,hit⟩:=st
  have fe:=hf e (by simp)
  have fi:=hf it (by simp)
  refine wpAny_pyNext_enum_item he hit p.isList (x:=u) (by simpa using hu) hne fun h' ho hit' hT hsz hk=>⟨_,rfl,?_⟩
  have hfr:H s.heap.objs.size=none:=I.hok.fresh (Al _)
  have I1:Inv X DJ σ (upd H s.heap.objs.size (.tup [.int (i:Int),x])) { s with heap:=s.heap.push { cls:=.type "tuple",data:=.seq #[.int i s.toks,u] },toks:=s.toks+1 } :=
   I.laid (t':=s.toks+1) (fun b o q=>An _ q) (Al _) ⟨by show 2<=sizeLine;decide,[.int i s.toks,u],.cons ⟨_,rfl⟩ (.cons ru .nil),TupAt.new _ _⟩
  have lte:e<s.heap.objs.size:=Am he
  have lti:it<s.heap.objs.size:=by obtain⟨_,q,_⟩:=hit;exact Am q
  have fe1:FpOk X DJ (upd H s.heap.objs.size (.tup [.int (i:Int),x])) e:=⟨by rw[zM (AL lte)];exact fe.1,fe.2⟩
  have fi1:FpOk X DJ (upd H s.heap.objs.size (.tup [.int (i:Int),x])) it:=⟨by rw[zM (AL lti)];exact fi.1,fi.2⟩
  have I2:Inv X DJ σ (upd H s.heap.objs.size (.tup [.int (i:Int),x])) { s with heap:=h',toks:=s.toks+1 }:=by
   refine turned2 (s:={ s with heap:=s.heap.push { cls:=.type "tuple",data:=.seq #[.int i s.toks,u] },toks:=s.toks+1 }) (h':=h') (t':=s.toks+1) I1 (fun b o b1 b2 q => ?_) fe1 fi1
   by_cases z:b=s.heap.objs.size
   ·subst z
    have q:(s.heap.push { cls:=.type "tuple",data:=.seq #[.int i s.toks,u] }).get? s.heap.objs.size=some o:=q
    rw[AH _ rfl] at q
    rw[hT];exact q
   ·have q:(s.heap.push { cls:=.type "tuple",data:=.seq #[.int i s.toks,u] }).get? b=some o:=q
    rw[Heap.get?_push_ne _ _ _ z] at q
    exact hk b o b1 b2 q
  refine wpAny_letOwnedTupleGo_enum ho fun h2 he2 hs2 => ?_
  refine⟨.ref s.heap.objs.size,_,turned2 (s:={ s with heap:=h',toks:=s.toks+1 }) (h':=h2) (t':=s.toks+1) I2 (fun b o b1 b2 q=>(hs2.2 b b1).trans q) fe1 fi1,rfl,⟨_,x,hfr,rfl,rfl,fun ys hy=>by rw[I.zF8 hy hq];exact hx⟩,⟨⟨_,he2⟩,hit'.at fun o q=>(hs2.2 it hne.symm).trans q⟩,fun b hb => ?_⟩
  have z:b=e\/b=it:=by simpa using hb
  rcases z with rfl | rfl
  ·exact fe1.1
  ·exact fi1.1
 done:=by
  intro X hP hw hK hc i DJ s σ H E I hf st hg
  subst hP hw hK
  obtain⟨xs,hq,hx⟩:=hg
  obtain⟨its,rv,p,hz⟩:=I.list hq
  obtain⟨⟨old,he⟩,hit⟩:=st
  have hl:=rv.length
  exact wpAny_pyNext_enum_end (I.ok.hd hc) he hit p.isList (by simp;rfl') fun h' eb=>⟨rfl,turned2 (t':=s.toks) I (fun b o _ b2 q=>eb b o b2 q) (hf e (by simp)) (hf it (by simp))⟩
 self:=fun _ _ _ _ _ st h=>st.1.elim fun old he=>wpAny_pyIter_enum he h
end L2.L3
namespace PySem
section
variable {prog:Program}{w:World}{A:Around}{E:Value->Shared->Prop}{s:Shared}
theorem drawsT(hA:A.handled=none)(it t:Addr)(its:Array Value)(hne:it≠t):Draws prog w A it [it,t] its.size (fun i x=>its[i]?=some x) (fun i h=>h.IsTupleIter it t i/\h.IsTuple t its) where
 live:=fun i h st=>let ⟨o,q,_⟩:=st.1; ⟨o,q⟩
 frame:=fun i h h' st k=>⟨let ⟨o,q,r⟩:=st.1; ⟨o,k it (by simp) o q,r⟩,let ⟨o,q,r⟩:=st.2; ⟨o,k t (by simp) o q,r⟩⟩
 item:=fun i s Q E hi st hQ=>yF4 st.1 st.2 (v:=its[i]) (by simp[hi]) fun h' z sb=>hQ _ h' s.toks (by simp[hi]) ⟨z,let ⟨o,q,r⟩:=st.2; ⟨o,(sb.2 t (AX hne)).trans q,r⟩⟩ sb
 done:=fun s Q E st hE=>yY2 hA st.1 st.2 (by simp) hE
theorem drawsE(hA:A.handled=none)(it t:Addr)(its:Array Value)(n:Nat)(hx:its[n]?=none)(hne:it≠t):Draws prog w A it [it,t] n (fun _ _=>False) (fun j h=>j=n/\h.IsTupleIter it t n/\h.IsTuple t its) where
 live:=fun i h st=>let ⟨o,q,_⟩:=st.2.1; ⟨o,q⟩
 frame:=fun i h h' st k=>⟨st.1,let ⟨o,q,r⟩:=st.2.1; ⟨o,k it (by simp) o q,r⟩,let ⟨o,q,r⟩:=st.2.2; ⟨o,k t (by simp) o q,r⟩⟩
 item:=fun i s Q E hi st hQ=>absurd st.1 (AL hi)
 done:=fun s Q E st hE=>yY2 hA st.2.1 st.2.2 hx hE
end
end PySem
namespace L2.L3
open PySem PyProof.Rows
variable [CN]
def Ith(K:KFr)(a:Addr):It :=
 ⟨fun i H=>∃xs x,SqT K H a xs/\xs[i]?=some x,fun i H x H'=>∃t y,H t=none/\x=.ref t/\H'=upd H t (.tup [.int (i:Int),y])/\∀xs,SqT K H a xs->xs[i]?=some y,fun i H=>∃xs,SqT K H a xs/\xs.length<=i⟩
theorem yT2{P:Program}{w:World}{K:KFr}{es:List Expr}{x1:Nat}{tp:Pos}(a e it:Addr)(hne:e≠it)(hia:it≠a)(hea:e≠a):Turn P w K (.Tuple es x1 tp) (Ith K a) [e,it] e (fun i h=>(∃old,IsEnum h e it i old)/\h.IsTupleIter it a i) where
 mem:=by simp
 obj:=fun i h st b hb=>by
  obtain⟨⟨old,he⟩,o,ho,hc,hd⟩:=st
  have z:b=e\/b=it:=by simpa using hb
  rcases z with rfl | rfl
  ·exact⟨_,he,fun v z=>by cases z⟩
  ·exact⟨o,ho,fun v z=>by rw[hd] at z;cases z⟩
 keep:=fun i h h' st k=>⟨st.1.elim fun old he=>⟨old,k e (by simp) _ he⟩,let ⟨o,q,r⟩:=st.2; ⟨o,k it (by simp) o q,r⟩⟩
 item:=by
  intro X hP hw hK hc i DJ s σ H E I hf st hg
  subst hP hw hK
  obtain⟨xs,x,hq,hx⟩:=hg
  obtain⟨its,rv,p,hz⟩:=I.tuple hq
  obtain⟨u,hu,ru⟩:=rv.get hx
  obtain⟨⟨old,he⟩,hit⟩:=st
  have fe:=hf e (by simp)
  have fi:=hf it (by simp)
  have hlt:i<its.toArray.size:=by
   have:=(Au.mp hu).1
   simpa using this
  refine wpAny_pyNext_enum_itemD (drawsT (show X.A.in1.handled=none from I.ok.hd hc) it a its.toArray hia) he ⟨hit,p⟩ hlt hne (by simp[hne,hea]) fun x' h' tk hP' ho hit' hT hsz hk=>⟨_,rfl,?_⟩
  have ex:x'=u:=by
   have h2:its.toArray[i]?=some u:=by simpa using hu
   have h3:its.toArray[i]?=some x':=hP'
   rw[h2] at h3
   exact (Ba h3).symm
  subst ex
  have hfr:H s.heap.objs.size=none:=I.hok.fresh (Al _)
  have I1:Inv X DJ σ (upd H s.heap.objs.size (.tup [.int (i:Int),x])) { s with heap:=s.heap.push { cls:=.type "tuple",data:=.seq #[.int i tk,x'] },toks:=tk+1 } :=
   I.laid (t':=tk+1) (fun b o q=>An _ q) (Al _) ⟨by show 2<=sizeLine;decide,[.int i tk,x'],.cons ⟨_,rfl⟩ (.cons ru .nil),TupAt.new _ _⟩
  have lte:e<s.heap.objs.size:=Am he
  have lti:it<s.heap.objs.size:=by obtain⟨_,q,_⟩:=hit;exact Am q
  have fe1:FpOk X DJ (upd H s.heap.objs.size (.tup [.int (i:Int),x])) e:=⟨by rw[zM (AL lte)];exact fe.1,fe.2⟩
  have fi1:FpOk X DJ (upd H s.heap.objs.size (.tup [.int (i:Int),x])) it:=⟨by rw[zM (AL lti)];exact fi.1,fi.2⟩
  have I2:Inv X DJ σ (upd H s.heap.objs.size (.tup [.int (i:Int),x])) { s with heap:=h',toks:=tk+1 }:=by
   refine turned2 (s:={ s with heap:=s.heap.push { cls:=.type "tuple",data:=.seq #[.int i tk,x'] },toks:=tk+1 }) (h':=h') (t':=tk+1) I1 (fun b o b1 b2 q => ?_) fe1 fi1
   by_cases z:b=s.heap.objs.size
   ·subst z
    have q:(s.heap.push { cls:=.type "tuple",data:=.seq #[.int i tk,x'] }).get? s.heap.objs.size=some o:=q
    rw[AH _ rfl] at q
    rw[hT];exact q
   ·have q:(s.heap.push { cls:=.type "tuple",data:=.seq #[.int i tk,x'] }).get? b=some o:=q
    rw[Heap.get?_push_ne _ _ _ z] at q
    exact hk b o b1 b2 q
  refine wpAny_letOwnedTupleGo_enum ho fun h2 he2 hs2 => ?_
  refine⟨.ref s.heap.objs.size,_,turned2 (s:={ s with heap:=h',toks:=tk+1 }) (h':=h2) (t':=tk+1) I2 (fun b o b1 b2 q=>(hs2.2 b b1).trans q) fe1 fi1,rfl,⟨_,x,hfr,rfl,rfl,fun ys hy=>by rw[I.zK3 hy hq];exact hx⟩,⟨⟨_,he2⟩,let ⟨o,q,r⟩:=hit'.1; ⟨o,(hs2.2 it hne.symm).trans q,r⟩⟩,fun b hb => ?_⟩
  have z:b=e\/b=it:=by simpa using hb
  rcases z with rfl | rfl
  ·exact fe1.1
  ·exact fi1.1
 done:=by
  intro X hP hw hK hc i DJ s σ H E I hf st hg
  subst hP hw hK
  obtain⟨xs,hq,hx⟩:=hg
  obtain⟨its,rv,p,hz⟩:=I.tuple hq
  obtain⟨⟨old,he⟩,hit⟩:=st
  have hl:=rv.length
  exact wpAny_pyNext_enum_endD (drawsE (show X.A.in1.handled=none from I.ok.hd hc) it a its.toArray i (by simp;rfl') hia) he ⟨rfl,hit,p⟩ fun h' eb=>⟨rfl,turned2 (t':=s.toks) I (fun b o _ b2 q=>eb b o b2 q) (hf e (by simp)) (hf it (by simp))⟩
 self:=fun _ _ _ _ _ st h=>st.1.elim fun old he=>wpAny_pyIter_enum he h
def iEnum(K:KFr)(t:TA):TI:=fun σ H R=>t σ H fun vs H1=>∃a,vs=[.ref a]/\(((∃xs,SqL K H1 a xs)/\R (Ite K a) H1)\/((∃xs,SqT K H1 a xs)/\R (Ith K a) H1))
theorem xZ7{X:Cx}{l:Expr}{ta:TA}{es:List Expr}{x1:Nat}{tp p pos:Pos}(hg:Gl X "enumerate")(hm:X.mg "enumerate" = none)(ha:PA X [l] ta)(hs:autoParam (starEach [l] X.env=[(false,eval l X.env)]) DI):PI X (.Tuple es x1 tp) (.Call (.Name "enumerate" p) [l] [] pos) (iEnum X.K ta):=by
 intro DJ s σ H R I h
 refine Call_ (dL I hg hm boot_enumerate (Cb (thn (ha pos DJ s σ H _ I h) fun us s1 ⟨vs,H1,I1,r1,q1⟩ => ?_) hs rfl))
 obtain⟨a,e,q1⟩:=q1
 subst e
 obtain⟨u,rfl,ru⟩:=vals1 r1
 cases ru
 rcases q1 with ⟨⟨xs,hq⟩,q⟩ | ⟨⟨xs,hq⟩,q⟩
 ·obtain⟨its,rv,pl,hz⟩:=I1.list hq
  refine call_enumerate_list pl.isList fun h' he hit hsz hk => ?_
  refine wpAny_pyIter_enum he ?_
  refine⟨s1.heap.objs.size+1,[s1.heap.objs.size+1,s1.heap.objs.size],_,_,H1,rfl,I1.kept (t':=s1.toks) hk,yJ5 a (s1.heap.objs.size+1) s1.heap.objs.size (Nat.succ_ne_self _),⟨⟨_,he⟩,hit⟩,fun b hb => ?_,q⟩
  have z:b=s1.heap.objs.size+1\/b=s1.heap.objs.size:=by simpa using hb
  rcases z with rfl | rfl
  ·exact I1.fpOk (by rfl') (I1.hok.fresh (by rfl'))
  ·exact I1.fpOk (Al _) (I1.hok.fresh (Al _))
 ·obtain⟨its,rv,pt,hz⟩:=I1.tuple hq
  have lta:a<s1.heap.objs.size:=by obtain⟨o,q,_⟩:=pt;exact Am q
  refine xS7 (oI:={ cls:=.type "tuple_iterator",data:=.fields #[.ref a,.int 0 0] }) rfl (fun B P E' z=>wpAny_pyIter_tuple (show s1.heap.IsTuple a its.toArray from pt) z) fun h' he h0 hk => ?_
  have hit:h'.IsTupleIter s1.heap.objs.size a 0:=⟨_,h0,rfl,rfl⟩
  refine wpAny_pyIter_enum he ?_
  refine⟨s1.heap.objs.size+1,[s1.heap.objs.size+1,s1.heap.objs.size],_,_,H1,rfl,I1.kept (t':=s1.toks) hk,yT2 a (s1.heap.objs.size+1) s1.heap.objs.size (Nat.succ_ne_self _) (Co lta) (Co (Nat.lt_succ_of_lt lta)),⟨⟨_,he⟩,hit⟩,fun b hb => ?_,q⟩
  have z:b=s1.heap.objs.size+1\/b=s1.heap.objs.size:=by simpa using hb
  rcases z with rfl | rfl
  ·exact I1.fpOk (by rfl') (I1.hok.fresh (by rfl'))
  ·exact I1.fpOk (Al _) (I1.hok.fresh (Al _))
def WalksO(Oc:Wd)(Ob:Addr->Prop)(J:It)(H1:Hp)(ds:List D):Prop :=
 ∀(H2:Hp) (Ob2:Addr->Prop),Frm Ob H1 H2->(∀b,Ob2 b->Ob b\/H1 b=none)->(∀a,Oc a\/Ob2 a->H2 a≠none)->∀i,(∀d,ds[i]?=some d->J.go i H2/\∀x H3,J.yld i H2 x H3->Same H2 H3/\Rep H3 (Uni Oc Ob2) x d)/\(ds.length<=i->J.stop i H2)
def RIo(C:Ct)(tg iter:Expr)(m:Ev->Res (List D)):Prop :=
 ∃wi,PI C.X tg iter wi/\∀(Oc:Wd) (Ob:Addr->Prop) (σ:St) (H:Hp) (ρ:Ev) (R:It->Hp->Prop),Rel Oc Ob C.om C.ln σ H ρ ->
  (m ρ).post (fun ds=>∀J H1,Same H H1->WalksO Oc Ob J H1 ds->R J H1) (fun c=>∀H',Same H H'->C.XE c H')->wi σ H R
section
variable {C:Ct}{fr:Bool}{body:List Stmt}{m:Ev->Res Out}{mi:Ev->Res (List D)}{g:D->Ev->Option Ev}{pos:Pos}
theorem xY2{tg iter:Expr}(hi:RIo C tg iter mi)(hg:RG C tg g)(hb:RSs C fr body m)(hp:autoParam (PassesOwn (model C.X.prog C.X.w) C.X.A C.X.env C.X.xe) autoK13._auto_1)(hc:autoParam (C.X.calm=true) DI)
  (hs:autoParam (∀x,foldedSetIterable iter C.X.env x=pure x) DG):RS C fr (.For tg iter body [] pos) (sF mi g m):=by
 obtain⟨wi,pi,qi⟩:=hi
 obtain⟨tg',pg,qg⟩:=hg
 obtain⟨tb,pb,qb⟩:=hb
 refine⟨_,zE2 hp hc pi pg pb hs,fun Oc Ob σ H ρ E R h=>qi Oc Ob σ H ρ _ R (Res.zT (Res.zU h) (fun ds _ k J H1 s1 wk => ?_) fun c z H' s=>z H' (Same.frm s))⟩
 refine⟨fun i mm σ' H'=>mm=ds.length-i/\i<=ds.length/\∃ρi Obi,Rel Oc Obi C.om C.ln σ' H' ρi/\Frm Ob H1 H'/\(∀b,Obi b->Ob b\/H1 b=none)/\SPost C fr Oc Obi H' E (forM g m (ds.drop i) ρi),
  ⟨_,rfl,AM _,ρ,Ob,R.same s1,Same.frm (Same.refl _),fun b z=>.inl z,SPost.same s1 k⟩,?_⟩
 rintro i mm σ2 H2 ⟨rfl,hi,ρi,Obi,R2,f2,sb2,k2⟩
 obtain⟨w1,w2⟩:=wk H2 Obi f2 sb2 R2.oh i
 by_cases hlt:i<ds.length
 ·obtain⟨go,yl⟩:=w1 ds[i] (Aj hlt)
  have ed:ds.drop i=ds[i]::ds.drop (i+1):=Bl hlt
  rw[ed,forM] at k2
  obtain⟨ρ1,e1,k2⟩:=Res.yV (Res.zU k2)
  refine .inr ⟨go,fun σ' H'=>∃m',m'<ds.length-i/\(m'=ds.length-(i+1)/\i+1<=ds.length/\∃ρi Obi,Rel Oc Obi C.om C.ln σ' H' ρi/\Frm Ob H1 H'/\(∀b,Obi b->Ob b\/H1 b=none)/\SPost C fr Oc Obi H' E (forM g m (ds.drop (i+1)) ρi)),fun _ _ z=>z,fun x H3 hy => ?_⟩
  obtain⟨s3,rx⟩:=yl x H3 hy
  refine qg Oc Obi σ2 H3 ρi ρ1 x _ _ (R2.same s3) rx e1 fun σ3 R3 => ?_
  have k3:=SPost.same s3 (show SPost C fr Oc Obi H2 E _ from k2)
  refine qb Oc Obi σ3 H3 ρ1 _ R3 (Res.zT (Res.zU k3) (fun o _ k4 => ?_) fun _ z=>z)
  cases o with
  | rt d=>exact k4
  | nx ρ2 =>
   intro σ4 H4 Ob4 R4 f4 sb4
   have f3:Frm Ob H1 H3:=fun b o e n=>s3 b o (f2 b o e n)
   refine⟨_,by rfl',rfl,hlt,ρ2,Ob4,R4,f3.trans sb2 f4,fun b z=>(sb4 b z).elim (sb2 b) fun z=>f3.none z,SPost.step f4 sb4 k4⟩
 ·have ei:i=ds.length:=by rfl'
  subst ei
  rw[BQ] at k2
  exact .inl ⟨w2 (Al _),k2 σ2 H2 Obi R2 (Same.frm (Same.refl _)) fun b z=>.inl z⟩
def enumD(ds:List D):List D:=(List.range ds.length).map fun (i:Nat)=>PyData.tuple [.int (i:Int),ds.getD i .none]
def wV(m:Ev->Res D):Ev->Res (List D):=fun ρ=>(m ρ).bind fun d=>(Res.lft (seqD d)).bind fun ds=>.ok (enumD ds)
theorem zT4{K:KFr}{Oc:Wd}{Ob:Addr->Prop}{H1:Hp}{a:Addr}{ys:List V}{ds:List D}(r:Rd H1 a (.lst ys))(n:¬Ob a)(rs:Reps H1 (Uni Oc Ob) ys ds):WalksO Oc Ob (Ite K a) H1 (enumD ds):=by
 intro H2 Ob2 f s oh i
 have r2:Rd H2 a (.lst ys):=vF r fun o e=>f a o e n
 have rs2:=rs.step f s
 have le:(enumD ds).length=ds.length:=by unfold enumD;simp
 refine⟨fun d e => ?_,fun h=>⟨ys,.inl r2,by rw[rs2.length];rw[le] at h;exact h⟩⟩
 unfold enumD at e
 rw[AA] at e
 obtain⟨j,ej,rfl⟩:=AK.mp e
 have hi:i<ds.length:=by
  have:=(Au.mp ej).1
  simpa using this
 rw[Bk hi] at ej
 cases ej
 have ed:ds[i]?=some (ds.getD i .none):=by rw[Be,Aj hi];rfl
 obtain⟨v,ev,rv⟩:=rs2.get ed
 refine⟨⟨ys,v,.inl r2,ev⟩,fun x H3 hy => ?_⟩
 obtain⟨t,y,ht,rfl,rfl,hy⟩:=hy
 have:=hy ys (.inl r2)
 rw[ev] at this
 cases this
 exact⟨Same.new ht,dN oh ht (.cons (.int _) (.cons rv .nil))⟩
theorem zA4{K:KFr}{Oc:Wd}{Ob:Addr->Prop}{H1:Hp}{a:Addr}{ys:List V}{ds:List D}(r:Rd H1 a (.tup ys))(n:¬Ob a)(rs:Reps H1 (Uni Oc Ob) ys ds):WalksO Oc Ob (Ith K a) H1 (enumD ds):=by
 intro H2 Ob2 f s oh i
 have r2:Rd H2 a (.tup ys):=vF r fun o e=>f a o e n
 have rs2:=rs.step f s
 have le:(enumD ds).length=ds.length:=by unfold enumD;simp
 refine⟨fun d e => ?_,fun h=>⟨ys,.inl r2,by rw[rs2.length];rw[le] at h;exact h⟩⟩
 unfold enumD at e
 rw[AA] at e
 obtain⟨j,ej,rfl⟩:=AK.mp e
 have hi:i<ds.length:=by
  have:=(Au.mp ej).1
  simpa using this
 rw[Bk hi] at ej
 cases ej
 have ed:ds[i]?=some (ds.getD i .none):=by rw[Be,Aj hi];rfl
 obtain⟨v,ev,rv⟩:=rs2.get ed
 refine⟨⟨ys,v,.inl r2,ev⟩,fun x H3 hy => ?_⟩
 obtain⟨t,y,ht,rfl,rfl,hy⟩:=hy
 have:=hy ys (.inl r2)
 rw[ev] at this
 cases this
 exact⟨Same.new ht,dN oh ht (.cons (.int _) (.cons rv .nil))⟩
theorem gR{e:Expr}{ma:Ev->Res D}{es:List Expr}{x1:Nat}{tp p pos:Pos}(hm:C.X.mg "enumerate" = none)(h:RE C .rd e ma)(hg:autoParam (Gl C.X "enumerate") DI)(hs:autoParam (starEach [e] C.X.env=[(false,eval e C.X.env)]) DI)(hs2:autoParam (starEach [e] C.X.env=(false,eval e C.X.env)::starEach [] C.X.env) DI):RIo C (.Tuple es x1 tp) (.Call (.Name "enumerate" p) [e] [] pos) (wV ma):=by
 obtain⟨t,pe,q⟩:=h
 refine⟨_,xZ7 hg hm (zP pe zA hs2) hs,fun Oc Ob σ H ρ W R h=>q Oc Ob σ H ρ _ R (Res.zT (Res.zU h) (fun d _ k v H' s r => ?_) fun _ z=>z)⟩
 obtain⟨ds,e,k⟩:=Res.yV (Res.zU k)
 rcases r with r | ⟨a,ys,ds',rfl,rfl,e3,e4,e5⟩
 ·cases r with
  | lst r n t=>cases e;exact⟨_,rfl,.inl ⟨⟨_,.inl r⟩,k _ H' s (zT4 r (fun z=>n (.inr z)) t)⟩⟩
  | tup r n t=>cases e;exact⟨_,rfl,.inr ⟨⟨_,.inl r⟩,k _ H' s (zA4 r (fun z=>n (.inr z)) t)⟩⟩
  | _=>cases e
 ·cases e
  exact⟨_,rfl,.inl ⟨⟨_,SqL.of e3⟩,k _ H' s (zT4 (.inl e3) e4 e5)⟩⟩
end
theorem zQ2(m:Ev->Res D)(ρ:Ev):wV m ρ=(m ρ).bind fun d=>(Res.lft (seqD d)).bind fun ds=>.ok (enumD ds):=rfl
end L2.L3
namespace PySem
section
variable {prog:Program}{w:World}{A:Around}{E:Value->Shared->Prop}{s:Shared}
end
end PySem
namespace L2.L3
open PySem PySem.Spec PyProof.Rows
variable [CN]
def sA(me:Ev->Res D)(g:D->Ev->Option Ev):Ev->Res Out:=fun ρ=>(me ρ).bind fun d=>(Res.lft (g d ρ)).bind fun ρ'=>.ok (.nx ρ')
theorem xH6(me:Ev->Res D)(g:D->Ev->Option Ev)(ρ:Ev):sA me g ρ=(me ρ).bind fun d=>(Res.lft (g d ρ)).bind fun ρ'=>.ok (.nx ρ'):=rfl
theorem qC{C:Ct}{fr:Bool}{e tg:Expr}{pos:Pos}{me:Ev->Res D}{g:D->Ev->Option Ev}(he:RE C .cl e me)(hg:RG C tg g)(hs:autoParam (swapsWithSole [tg] e pos.line C.X.env=pure false) DI)(hw:autoParam (swappedStores [tg] e C.X.env=pure none) DI)
  (h1:autoParam ((assignEach [tg] C.X.env).map (·.2)=[assign tg C.X.env]) DI):RS C fr (.Assign [tg] e pos) (sA me g):=xM5 he hg hs hw h1
def absD:List D->Option D
 | [.int i]=>some (.int (if i<0 then -i else i))
 | _=>none
theorem kN{Oc:Wd}{Ob:Addr->Prop}{H:Hp}{vs:List V}{d:D}(r:VAs Oc Ob H vs [d]):∃v,vs=[v]/\VA Oc Ob H v d:=by
 cases r with
 | cons h t=>cases t;exact⟨_,rfl,h⟩
theorem yN8:PrC (fun xs H Q=>∃i,xs=[.int i]/\Q (.int (if i<0 then -i else i)) H) .cl absD:=by
 intro Oc Ob H vs ds d Q oh r e k
 unfold absD at e
 split at e
 ·cases e
  obtain⟨v,rfl,h⟩:=kN r
  exact⟨_,by rw[h.int],k _ H (Same.refl H) (Rep.int _)⟩
 ·cases e
def intD:List D->Option D
 | [.int i]=>some (.int i)
 | [.bool b]=>some (.int (if b then 1 else 0))
 | _=>none
theorem xY1:PrC (fun xs H Q=>(∃i,xs=[.int i]/\Q (.int i) H)\/∃k,xs=[.bl k]/\Q (.int (if k then 1 else 0)) H) .cl intD:=by
 intro Oc Ob H vs ds d Q oh r e k
 unfold intD at e
 split at e
 ·cases e
  obtain⟨v,rfl,h⟩:=kN r
  exact .inl ⟨_,by rw[h.int],k _ H (Same.refl H) (Rep.int _)⟩
 ·cases e
  obtain⟨v,rfl,h⟩:=kN r
  exact .inr ⟨_,by rw[h.bool],k _ H (Same.refl H) (Rep.int _)⟩
 ·cases e
section
variable {X:Cx}
end
def StepOk(i j k:Int):Prop:=k≠0/\k.natAbs.log2<9000/\Builtin.Range.small i j k=true/\0<=Builtin.Range.rangeSize i j k
instance (i j k:Int):Decidable (StepOk i j k):=by unfold StepOk;infer_instance
end L2.L3
namespace L2.L3
open PySem PyProof.Rows
variable [CN]
section
variable {X:Cx}
end
end L2.L3
namespace L2
open PySem PyProof.Rows
structure CScope2(sc0 scope:Scope)(N0:List Str)(xt yt:Str)(fs:List Str)(js:List Nat):Prop where
 kind:scope.kind=.function
 nocell:∀y∈scope.names,y.2 ≠ .cell
 names:∀y∈scope.names,y.2=.local->scope.names.lookup y.1=some .local
 tgt:scope.names.lookup xt=some .local
 tgt2:scope.names.lookup yt=some .local
 frees:∀y∈scope.names,y.2=.free->sc0.names.lookup y.1=some .cell\/sc0.names.lookup y.1=some .free
 len:js.length=fs.length
 slots:∀p∈fs.zip js,N0[p.2]?=some p.1/\scope.names.lookup p.1=some .free
 nd:(xt::yt::fs).Nodup
def compSt2(σ:St)(js:List Nat)(v w:Option V):St:=v::w::js.map fun j=>(σ[j]?).join
section
variable {X:Cx}{DJ:List (Addr×Obj)}{σ:St}{H:Hp}{s₂ s₄:Shared}{sc0 scope:Scope}{N0:List Str}{xt yt:Str}{fs:List Str}{js:List Nat}{fp:List Addr}
theorem CScope2.cells(S:CScope2 sc0 scope N0 xt yt fs js)(h0:X.env.scope=sc0)(ok:X.Ok):∀n,(n,NameKind.free)∈scope.names->∃c,X.env.cells.lookup n=some c:=fun n hn=>ok.has n (by subst h0;exact S.frees _ hn rfl)
theorem CScope2.sub(S:CScope2 sc0 scope N0 xt yt fs js)(h0:X.env.scope=sc0)(ok:X.Ok):∀x c,(clos X.env.cells scope.names []).lookup x=some c->X.env.cells.lookup x=some c :=
 cV scope.names [] (S.cells h0 ok) fun x c e=>by simp at e
theorem Inv.block2(S:CScope2 sc0 scope N0 xt yt fs js)(h0:X.env.scope=sc0)(hN0:X.N=N0)(I:Inv X DJ σ H s₂)(hf:∀b∈fp,FpOk X DJ H b)(hfo:∀b∈fp,∃o,s₂.heap.get? b=some o)
  (hos:s₄.os=s₂.os) (hg:AllBare s₄.gens) (hk:∀b o,s₂.heap.get? b=some o->s₄.heap.get? b=some o){C:Addr}(hC:s₂.heap.objs.size<=C){m:Str->Option Value}(hn:s₄.heap.Ns C m) :
  Inv (cxComp X (xt::yt::fs) scope C fp s₂ H) [] (compSt2 σ js none none) H s₄:=by
 have sub:=S.sub h0 I.ok
 have blt:∀b∈fp,b<s₂.heap.objs.size:=fun b hb=>let ⟨o,e⟩:=hfo b hb;Am e
 have ok:(cxComp X (xt::yt::fs) scope C fp s₂ H).Ok:=by
  refine⟨I.ok.mod,S.kind,I.ok.glob,I.ok.blt,hC,fun x y c h1 h2=>I.ok.inj x y c (sub x c h1) (sub y c h2),fun x hx => ?_,fun x c h=>(nomatch h),I.ok.hd,I.ok.frames,.inl rfl,fun b hb=>⟨?_,fun x c h=>(hf b hb).2.2.2.2.1 x c (sub x c h)⟩,I.bs,AJ I.ok.bsz I.sz,fun b o e hb => ?_,fun b hb hs => ?_,I.stack,I.stkFree⟩
  ·have hx:(relabel scope X.env).names.lookup x=some .cell\/(relabel scope X.env).names.lookup x=some .free:=hx
   have hfree:scope.names.lookup x=some .free:=by
    rcases hx with hx | hx
    ·rcases qZ hx with q | ⟨_,q⟩
     ·exact absurd rfl (S.nocell _ (Bc q))
     ·exact q
    ·rcases qZ hx with q | ⟨q,_⟩
     ·exact q
     ·cases q
   exact qF scope.names [] x (Bc hfree)
  ·exact AL (Ar (blt b hb) hC)
  ·rcases (hf b hb).2.2.2.1 with z | z
   ·exact I.ok.noex b o e z
   ·exact absurd (Ar (Am (I.ok.bs b o e).1) z) (Cg _)
  ·rcases Aw.mp (I.stkSub b hs) with z | z
   ·exact (hf b hb).2.1 z
   ·exact (hf b hb).2.2.1 z
 refine⟨ok,hos,hg,Un.kept hk,⟨m,hn,fun i x v e1 e2 e3 => ?_⟩,fun x c e => ?_,I.hok.fresh hC,fun x c e=>I.freeC x c (sub x c e),fun p hp=>absurd (show p∈([]:List (Addr×Obj)) from hp) (by simp),I.hok.kept hk,?_⟩
 ·cases i with
  | zero=>cases e2
  | succ i =>
   cases i with
   | zero=>cases e2
   | succ i =>
   have e1:fs[i]?=some x:=e1
   have e2:(js.map fun j=>(σ[j]?).join)[i]?=some (some v):=e2
   rw[AA] at e2
   cases ej:js[i]? with
   | none=>rw[ej] at e2;cases e2
   | some j =>
    rw[ej] at e2
    have e2:(σ[j]?).join=some v:=Ba e2
    obtain⟨hN,hfr⟩:=S.slots _ (zO1 e1 ej)
    have hN:X.N[j]?=some x:=by rw[hN0];exact hN
    have hk2:X.env.kindOf x=some .cell\/X.env.kindOf x=some .free:=by subst h0;exact S.frees _ (Bc hfr) rfl
    have hs:σ[j]?=some (some v):=by
     cases q:σ[j]? with
     | none=>rw[q] at e2;cases e2
     | some z=>rw[q] at e2;rw[show z=some v from e2]
    obtain⟨m0,hn0,hl⟩:=I.loc
    obtain⟨u,r,l⟩:=hl j x v hN hs (by rcases hk2 with z | z;exact .inr (.inl z);exact .inr (.inr z))
    refine⟨u,r,?_⟩
    rcases l with ⟨hloc,_⟩ | ⟨_,c,hc,hcell⟩
    ·rcases hk2 with z | z
     ·rw[z] at hloc;cases hloc
     ·rw[z] at hloc;cases hloc
    ·obtain⟨c',hc'⟩:=qF (cells:=X.env.cells) scope.names [] x (Bc hfr)
     have:c'=c:=Ba ((sub x c' hc').symm.trans hc)
     subst this
     exact .inr ⟨bM hfr,c',hc',hcell.keeps hk⟩
 ·obtain⟨v,z⟩:=I.cell x c (sub x c e)
  exact⟨v,z.keeps hk⟩
 ·show (compSt2 σ js none none).length=(xt::yt::fs).length
  unfold compSt2
  rw[Aq,Aq,Ac,Aq,Aq,S.len]
end
end L2
namespace L2.L3
open PySem PyProof.Rows
variable [CN]
def cEnv2(ρ:Ev)(js:List Nat)(x y:D):Ev:=some x::some y::js.map fun j=>(ρ[j]?).join
def capt2(js l:List Nat):List Nat:=((List.range js.length).filter fun i=>l.contains (js.getD i 0)).map (·+2)
def pr2{α:Type}(d:D)(f:D->D->Res α):Res α :=
 match d with
 | .tuple [a,b]=>f a b
 | _=>.no
theorem yL2{js l:List Nat}{i:Nat}(h:i∈capt2 js l):∃k,i=k+2/\k<js.length/\js.getD k 0∈l:=by
 unfold capt2 at h
 obtain⟨k,hk,rfl⟩:=AR.mp h
 obtain⟨h1,h2⟩:=BC.mp hk
 exact⟨k,rfl,AD.mp h1,AT.mp h2⟩
theorem zJ1{js l:List Nat}{k j:Nat}(h:js[k]?=some j)(hl:j∈l):k+2∈capt2 js l:=by
 unfold capt2
 refine AR.mpr ⟨k,BC.mpr ⟨AD.mpr ?_,?_⟩,rfl⟩
 ·exact (Au.mp h).1
 ·rw[Be,h]
  exact AT.mpr hl
theorem zT9{ρ:Ev}{js:List Nat}{x y d:D}{k:Nat}(h:(cEnv2 ρ js x y)[k+2]?=some (some d)):∃j,js[k]?=some j/\ρ[j]?=some (some d):=by
 unfold cEnv2 at h
 rw[BJ,BJ,AA] at h
 cases e:js[k]? with
 | none=>rw[e] at h;cases h
 | some j =>
  rw[e] at h
  refine⟨j,rfl,?_⟩
  have h:(ρ[j]?).join=some d:=Ba h
  cases q:ρ[j]? with
  | none=>rw[q] at h;cases h
  | some z=>rw[q] at h;rw[show z=some d from h]
theorem uX{σ:St}{js:List Nat}{v0 w0:Option V}{v:V}{k j:Nat}(h:js[k]?=some j)(e:σ[j]?=some (some v)):(compSt2 σ js v0 w0)[k+2]?=some (some v):=by
 unfold compSt2
 rw[BJ,BJ,AA,h]
 show some ((σ[j]?).join)=_
 rw[e]
 rfl
def cW2(Oc:Wd)(Ob:Addr->Prop)(σ:St)(js:List Nat):Wd:=⟨Uni Oc Ob,fun i=>adr ((compSt2 σ js none none)[i]?)⟩
theorem Rel.comp2{Oc:Wd}{Ob:Addr->Prop}{om ln:List Nat}{σ:St}{H:Hp}{ρ:Ev}{js:List Nat}{x y:V}{d d2:D}(R:Rel Oc Ob om ln σ H ρ)(r:Rep H (Uni Oc Ob) x d)(r2:Rep H (Uni Oc Ob) y d2):Rel (cW2 Oc Ob σ js) (fun _=>False) [] (capt2 js (om++ln)) (compSt2 σ js (some x) (some y)) H (cEnv2 ρ js d d2) where
 len:=by unfold compSt2 cEnv2;simp
 val:=fun i d' e _ hl=>by
  cases i with
  | zero =>
   cases e
   exact⟨x,rfl,r.less fun b z=>z.elim id fun z=>z.elim⟩
  | succ k =>
   cases k with
   | zero =>
   cases e
   exact⟨y,rfl,r2.less fun b z=>z.elim id fun z=>z.elim⟩
   | succ k =>
   obtain⟨j,e1,e2⟩:=zT9 e
   have h1:j∉om:=fun z=>hl (zJ1 e1 (AW _ z))
   have h2:j∉ln:=fun z=>hl (zJ1 e1 (Ah _ z))
   obtain⟨v,q,rv⟩:=R.val j d' e2 h1 h2
   exact⟨v,uX e1 q,rv.less fun b z=>z.elim id fun z=>z.elim⟩
 own:=fun i d' e h=>nomatch h
 lnt:=fun i d' e _ hl=>by
  obtain⟨k,rfl,hk,hj⟩:=yL2 hl
  obtain⟨j,e1,e2⟩:=zT9 e
  rw[Be,e1,Option.getD_some] at hj
  by_cases ho:j∈om
  ·obtain⟨v,q,a,ys,ds,z1,z2,z3,z4,z5⟩:=R.own j d' e2 ho
   have ea:(cW2 Oc Ob σ js).la (k+2)=a:=by show adr _=a;rw[uX e1 q,z1];rfl
   exact⟨v,uX e1 q,ys,ds,by rw[ea];exact z1,z2,by rw[ea];exact z3,by rw[ea];exact .inr z4,z5.less fun b z=>z.elim id fun z=>z.elim⟩
  ·have hl2:j∈ln:=(AB.mp hj).elim (fun z=>absurd z ho) id
   obtain⟨v,q,ys,ds,z1,z2,z3,z4,z5⟩:=R.lnt j d' e2 ho hl2
   have ea:(cW2 Oc Ob σ js).la (k+2)=Oc.la j:=by show adr _=_;rw[uX e1 q,z1];rfl
   exact⟨v,uX e1 q,ys,ds,by rw[ea];exact z1,z2,by rw[ea];exact z3,by rw[ea];exact .inl z4,z5.less fun b z=>z.elim id fun z=>z.elim⟩
 inj:=fun i j di dj a _ _ h=>nomatch h
 oh:=fun a z=>R.oh a (z.elim id fun z=>z.elim)
 ap:=fun a z=>z.elim
theorem yG9{K:KFr}{H:Hp}{O:Addr->Prop}{x:V}{a b:D}(r:Rep H O x (.tuple [a,b])):∃ta x1 x2,x=.ref ta/\SqT K H ta [x1,x2]/\Rep H O x1 a/\Rep H O x2 b:=by
 cases r with
 | tup r n t =>
  cases t with
  | cons h1 t =>
   cases t with
   | cons h2 t =>
    cases t
    exact⟨_,_,_,rfl,.inl r,h1,h2⟩
theorem RIo.c{C:Ct}{tg iter:Expr}{m:Ev->Res (List D)}(h:RIo C tg iter m):RIc C tg iter m:=by
 obtain⟨wi,p,q⟩:=h
 exact⟨wi,p,fun Oc Ob σ H ρ W R h=>q Oc Ob σ H ρ W R (Res.zT h (fun ds _ k J H1 s w=>k J H1 s fun H2 s2=>w H2 Ob (Same.frm s2) (fun b z=>.inl z) (R.same (s.trans s2)).oh) fun _ z=>z)⟩
section
variable {X:Cx}{DJ:List (Addr×Obj)}{σ:St}{H:Hp}{s:Shared}{h':Heap}
end
structure Apart5(z TI TO i1 i2:Addr):Prop where
 TIz:TI≠z
 TOz:TO≠z
 i1z:i1≠z
 i2z:i2≠z
 TITO:TI≠TO
 TIi1:TI≠i1
 TIi2:TI≠i2
 TOi1:TO≠i1
 TOi2:TO≠i2
 i12:i1≠i2
end L2.L3
namespace L2
open PySem PySem.Spec PyProof.Rows
end L2
namespace L2.L3
open PySem PySem.Spec PyProof.Rows
variable [CN]
end L2.L3
namespace L2.L3
open PySem
variable [CN]
end L2.L3
namespace L2.L3
open PySem PyProof.Rows
variable [CN]
section
variable {X:Cx}
end
end L2.L3
namespace HT
open PySem PyProof.Rows
section
variable {prog:Program}{w:World}{A:Around}{E:Value->Shared->Prop}{s:Shared}
end
end HT
namespace L2.L3
open PySem PyProof.Rows
variable [CN]
section
variable {X:Cx}
end
end L2.L3
namespace L2.L3
open PySem PySem.Spec PyProof.Rows
variable [CN]
section
variable {X:Cx}
end
end L2.L3
namespace HT
open PySem PyProof.Rows
section
open PySem.SeqAt
open PySem.AutoSeq1 (wpAny_loadPart')
open PySem.MeetsSeq PySem.MeetsSeq2 PySem.MeetsSeq3
end
section
variable {prog:Program}{w:World}{A:Around}{E:Value->Shared->Prop}{s:Shared}
end
end HT
namespace L2.L3
open PySem PySem.Spec PyProof.Rows
variable [CN]
section
variable {X:Cx}
end
end L2.L3
namespace L2.L3
open PySem PyProof.Rows
variable [CN]
section
variable {X:Cx}
end
end L2.L3
namespace L2.L3
universe u
theorem ls0{α:Type u}{P:List α->Prop}(h:P []):∀us:List α,us.length=0->P us:=fun us e=>by
 rw[List.eq_nil_of_length_eq_zero e]
 exact h
theorem lsS{α:Type u}{P:List α->Prop}{n:Nat}(h:∀a us,us.length=n->P (a::us)):∀us:List α,us.length=n+1->P us:=fun us e=>by
 cases us with
 | nil=>cases e
 | cons a us=>exact h a us (Nat.succ.inj e)
theorem ls1{α:Type u}{P:List α->Prop}(h:∀a,P [a]):∀us:List α,us.length=1->P us:=lsS fun a=>ls0 (h a)
theorem ls2{α:Type u}{P:List α->Prop}(h:∀a b,P [a,b]):∀us:List α,us.length=2->P us:=lsS fun a=>ls1 (h a)
theorem ls3{α:Type u}{P:List α->Prop}(h:∀a b c,P [a,b,c]):∀us:List α,us.length=3->P us:=lsS fun a=>ls2 (h a)
theorem ls4{α:Type u}{P:List α->Prop}(h:∀a b c d,P [a,b,c,d]):∀us:List α,us.length=4->P us:=lsS fun a=>ls3 (h a)
theorem ls5{α:Type u}{P:List α->Prop}(h:∀a b c d e,P [a,b,c,d,e]):∀us:List α,us.length=5->P us:=lsS fun a=>ls4 (h a)
end L2.L3
namespace L2.L3
open PySem PySem.Spec PyProof.Rows
section
variable {M:Model}{A:Around}{E:Value->Shared->Prop}{s:Shared}{B:Heap}{L e:Addr}{cls a0 fl:Value}
def KpX(Φ:Option Addr->Value->Prop)(e:Addr)(h:Heap):Prop:=∃oe vs v,h.get? e=some oe/\oe.data=.fields vs/\vs[2]?=some v/\Φ oe.dict v
theorem yD4(f:Array Value->Array Value)(o:Obj):(Obj.mapFields f o).dict=o.dict:=by
 unfold Obj.mapFields
 split <;> rfl
theorem KpX.mono{Φ Ψ:Option Addr->Value->Prop}{h:Heap}{e:Addr}(k:KpX Φ e h)(m:∀d v,Φ d v->Ψ d v):KpX Ψ e h:=by
 obtain⟨o,vs,v,q,d,z,y⟩:=k
 exact⟨o,vs,v,q,d,z,m _ _ y⟩
theorem KpX.one{Φ:Option Addr->Value->Prop}{h h':Heap}{e:Addr}{oe:Obj}{v:Value}(k:KpX Φ e h)(he:h.get? e=some oe)(he':h'.get? e=some (Obj.mapFields (·.setIfInBounds 1 v) oe)):KpX Φ e h':=by
 obtain⟨o,vs,v2,q,d,z,y⟩:=k
 cases he.symm.trans q
 exact⟨_,_,v2,he',Bp d _,by rw[Array.getElem?_setIfInBounds_ne (by decide)];exact z,by rw[yD4];exact y⟩
theorem KpX.same{Φ:Option Addr->Value->Prop}{h h':Heap}{e:Addr}(k:KpX Φ e h)(q:h'.get? e=h.get? e):KpX Φ e h':=by
 obtain⟨o,vs,v,z,d⟩:=k
 exact⟨o,vs,v,q.trans z,d⟩
structure Marks(B:Heap)(l:List Env)(e L:Addr)(oe:Obj)(h g h':Heap):Prop where
 rest:∀b,b∉l.filterMap (·.frame)->g.get? b=h.get? b
 slot:∀b o,h.get? b=some o->∃sl,g.get? b=some { o with slots:=sl }
 told:h'.get? e=some (Obj.mapFields (·.setIfInBounds 1 (.ref g.objs.size)) oe)
 mark:∃o ts,h'.get? g.objs.size=some o/\o.data=.fields ts/\ts[3]?=some (rawInt L)
 else_:∀b o,b≠e->g.get? b=some o->h'.get? b=some o
theorem Marks.noted{Φ:Option Addr->Value->Prop}{l:List Env}{oe:Obj}{vs:Array Value}{h g h':Heap}(m:Marks B l e L oe h g h')(hF:h.FunFrames B l)(hB:B.StaysIn h)(hn:B.get? e=none)(he:h.get? e=some oe)(hd:oe.data=.fields vs)(hs:1<vs.size)(h0:vs[0]?=some a0) :
  Heap.NotedW B l e oe.cls a0 (rawInt L) h h'/\(KpX Φ e h->KpX Φ e h'):=by
 have fr:∀b∈l.filterMap (·.frame),B.get? b=none:=fun b z=>(hF.mem z).1
 have ne:∀b o,h.get? b=some o->(∀vs,o.data ≠ .fields vs)->b≠e:=by
  rintro b o q d rfl
  cases he.symm.trans q
  exact d vs hd
 have stay:B.StaysIn g:=fun b o q=>by
  rw[m.rest b fun z=>by rw[fr b z] at q;cases q]
  exact hB b o q
 have up:∀b o,h.get? b=some o->(∀vs,o.data ≠ .fields vs)->∃sl,h'.get? b=some { o with slots:=sl }:=fun b o q d =>
  let ⟨sl,y⟩:=m.slot b o q
  ⟨sl,m.else_ b _ (ne b o q d) y⟩
 obtain⟨oT,ts,q1,q2,q3⟩:=m.mark
 have eT:g.objs.size≠e:=by
  have nfr:e∉l.filterMap (·.frame):=fun z=>by
   obtain⟨_,o,ho,nf⟩:=hF.mem z
   cases he.symm.trans ho
   exact nf vs hd
  exact Co (Am ((m.rest e nfr).trans he))
 refine⟨⟨fun b o q=>m.else_ b o (by rintro rfl;rw[hn] at q;cases q) (stay b o q),hF.of_keeps fun b o q d=>let ⟨_,y⟩:=up b o q d; ⟨_,y,rfl⟩,?_,up⟩,fun kp=>kp.one he m.told⟩
 exact⟨_,_,g.objs.size,oT,ts,m.told,⟨Obj.cls_mapFields _ _,(Array.getElem?_setIfInBounds_ne (by decide)).trans h0⟩,Bp hd _,by simp[hs],stay.fresh,eT,q1,q2,q3⟩
theorem entryK{env:Env}{outer:List Env}{oe:Obj}{vs:Array Value}{head:Value}{hadNext:Bool}{Q:Unit->Shared->Prop}
  (hA:A.frames=some (env::outer)) (hF:s.heap.FunFrames B (env::outer)) (hf:env.frame=some L)
  (he:s.heap.get? e=some oe) (hB:B.StaysIn s.heap) (hn:B.get? e=none) (hd:oe.data=.fields vs) (hsz:1<vs.size) (h0:vs[0]?=some a0){Φ:Option Addr->Value->Prop}(kp:KpX Φ e s.heap)
  (k:∀g,Heap.NotedW B (env::outer) e oe.cls a0 (rawInt L) s.heap g->KpX Φ e g->Q () { s with heap:=g }) :
  wpAny M A (frameOf env >>= fun a=>entryPlaceOf L hadNext >>= fun pl=>EntryCells.newEntry head a .none (rawInt L) .none pl >>= setField (.ref e) 1) Q E s:=by
 refine Ab (wpAny_frameOf_fun hA hF hf fun g hg=>Ab (wpAny_entryPlaceOf fun pl hpl => ?_))
 have here:g.get? e=some oe:=(hg.2.1 e fun z=>by
  obtain⟨_,o,ho,nf⟩:=hF.mem z
  cases he.symm.trans ho
  exact nf vs hd).trans he
 simp only[EntryCells.newEntry,newFields]
 refine Ab (wpAny_newObj_type (wpAny_setField (An _ here) hd hsz ?_) (hpl.sizeOk5 _ _ _ _ _))
 have T:g.objs.size≠e:=Co (Am here)
 have i3:∀xs:List Value,([head,.ref L,.none,rawInt L,.none]++xs).toArray[3]?=some (rawInt L):=fun xs=>by simp
 have fin:∀ob ts,ob.data=.fields ts->ts[3]?=some (rawInt L)->Q () { s with heap:=(g.push ob).update e (Obj.mapFields (·.setIfInBounds 1 (.ref g.objs.size))) }:=fun ob ts d3 t3=>by
  obtain⟨n,kk⟩:=Marks.noted (a0:=a0) ⟨hg.2.1,hg.2.2,Bf _ (An ob here) (BP (Bp hd _)),⟨ob,ts,(AE _ _ (AX T)).trans (AH g (BP d3)),d3,t3⟩,
   fun b o nb q=>by rw[AE _ _ (AX nb)];exact An _ q⟩ hF hB hn he hd hsz h0
  exact k _ n (kk kp)
 exact fin _ _ rfl (i3 _)
theorem flightK{l:List Env}{Q:Unit->Shared->Prop}(hB:B.StaysIn s.heap)(hn:B.get? e=none)(hF:s.heap.FunFrames B l)(ht:s.heap.TracedAtW B e cls a0 fl){Φ:Option Addr->Value->Prop}(kp:KpX Φ e s.heap)
  (k:∀g,Heap.FlyingW B l e cls a0 g->s.heap.UpToSlots g->KpX Φ e g->Q () { s with heap:=g }):wpAny M A (setFlight (.ref e) none) Q E s:=by
 obtain⟨oe,vs,T,oT,ts,g1,g2,g4,g5,g6,g7,g8,g9,g10⟩:=ht
 have sz:=(AY.mp g10).1
 have ot:∀b,b≠T->(s.heap.update T (Obj.mapFields (·.setIfInBounds 3 ((none:Option Addr).elim Value.none fun f=>rawInt f)))).get? b=s.heap.get? b:=fun b hb=>AE _ _ (AX hb)
 have nf:∀b o,s.heap.get? b=some o->(∀vs,o.data ≠ .fields vs)->b≠T:=fun b o q hd w=>by
  subst w
  cases g8.symm.trans q
  exact hd ts g9
 unfold setFlight
 refine Ab (wpAny_field g1 g4 g5 ?_)
 have n1:(Value.ref T != Value.none)=true:=by simp
 simp only[n1,if_true]
 refine wpAny_setField g8 g9 sz (k _ ⟨fun b o q=>(ot b fun w=>by subst w;rw[g6] at q;cases q).trans (hB b o q),hn,hF.of_keeps fun b o q hd=>⟨o,(ot b (nf b o q hd)).trans q,rfl⟩,?_⟩ (fun b o q hd=>⟨o.slots,(ot b (nf b o q hd)).trans q⟩) (kp.same (ot e (AX g7))))
 exact⟨oe,vs,T,_,_,(ot e (AX g7)).trans g1,g2,g4,g5,g6,g7,Bf _ g8 (BP (Bp g9 _)),Bp g9 _,by simp[sz]⟩
theorem gJ{env:Env}{outer:List Env}{Q:Unit->Shared->Prop}(hA:A.frames=some (env::outer))(hF:s.heap.FunFrames B (env::outer))(hf:env.frame=some L)(ht:s.heap.TracedAtW B e cls a0 fl)(hB:B.StaysIn s.heap)(hn:B.get? e=none){Φ:Option Addr->Value->Prop}(kp:KpX Φ e s.heap)
  (k:∀g,Heap.NotedW B (env::outer) e cls a0 (rawInt L) s.heap g->KpX Φ e g->Q () { s with heap:=g }):wpAny M A (noteFrame (.ref e) env) Q E s:=by
 by_cases z:fl=rawInt L
 ·subst z
  exact wpAny_noteFrame_againW hf ht (k s.heap ⟨hB,hF,ht,fun b o q _=>⟨o.slots,q⟩⟩ kp)
 ·obtain⟨oe,vs,T,oT,ts,g1,⟨rfl,g3⟩,g4,g5,g6,g7,g8,g9,g10⟩:=ht
  have sz:=(AY.mp g10).1
  have n1:(Value.ref T != Value.none)=true:=by simp
  have n2:(fl == rawInt L)=false:=by simpa using z
  have ot:∀b,b≠T->(s.heap.update T (Obj.mapFields (·.setIfInBounds 3 .none))).get? b=s.heap.get? b:=fun b hb=>AE _ _ (AX hb)
  have nf:∀b o,s.heap.get? b=some o->(∀vs,o.data ≠ .fields vs)->b≠T:=fun b o q hd w=>by
   subst w
   cases g8.symm.trans q
   exact hd ts g9
  unfold noteFrame
  simp only[hf]
  refine Ab (wpAny_field g1 g4 g5 ?_)
  simp only[n1,if_true]
  refine Ab (wpAny_field g8 g9 g10 ?_)
  simp only[n2,AF,if_false]
  refine Ab (wpAny_setField g8 g9 sz (entryK (a0:=a0) (vs:=vs) hA ?_ hf ((ot e g7.symm).trans g1) (fun b o q => ?_) hn g4 (AY.mp g5).1 g3 (kp.same (ot e g7.symm)) fun g hg kg => ?_))
  ·exact hF.of_keeps fun b o q hd=>⟨o,(ot b (nf b o q hd)).trans q,rfl⟩
  ·have:b≠T:=fun w=>by subst w;rw[g6] at q;cases q
   exact (ot b this).trans (hB b o q)
  ·exact k g ⟨hg.1,hg.2.1,hg.2.2.1,fun b o q hd=>hg.2.2.2 b o ((ot b (nf b o q hd)).trans q) hd⟩ kg
theorem yD9{α:Type}{what:String}{env:Env}{Q:α->Shared->Prop}(ht:s.heap.TracedAtW B e cls a0 fl){Φ:Option Addr->Value->Prop}(kp:KpX Φ e s.heap)
  (k:∀(g:Heap) (T:Addr) (fl':Value),B.get? T=none->(∀b,b≠T->g.get? b=s.heap.get? b)->(∃o ts,s.heap.get? T=some o/\o.data=.fields ts)->g.TracedAtW B e cls a0 fl'->KpX Φ e g->E (.ref e) { s with heap:=g }):wpAny M A (PySem.passOn what (.ref e) env) Q E s:=by
 obtain⟨oe,vs,T,oT,ts,g1,⟨rfl,g3⟩,g4,g5,g6,g7,g8,g9,g10⟩:=ht
 have sz:=(AY.mp g10).1
 have n0:(Value.ref T == Value.none)=false:=by simp
 have n1:(Value.ref T != Value.none)=true:=by simp
 have fin:wpAny M A (setFlight (.ref e) env.frame >>= fun _=>(throw (.ref e):Sem α)) Q E s:=by
  unfold setFlight
  refine Ab (Ab (wpAny_field g1 g4 g5 ?_))
  simp only[n1,if_true]
  refine wpAny_setField g8 g9 sz (wpAny_throw (k _ T (env.frame.elim .none fun f=>rawInt f) g6 (fun b hb=>AE _ _ (AX hb)) ⟨oT,ts,g8,g9⟩ ?_ (kp.same (AE _ _ g7))))
  exact⟨oe,vs,T,_,_,(AE _ _ g7).trans g1,⟨rfl,g3⟩,g4,g5,g6,g7,Bf _ g8 (BP (Bp g9 _)),Bp g9 _,by simp[sz]⟩
 unfold PySem.passOn
 refine Ab (wpAny_field g1 g4 g5 ?_)
 simp only[n0,AF,if_false]
 exact fin
end
variable [CN]
def Raw(B:Heap)(e:Addr)(cls a0:Value)(h:Heap):Prop :=
 (∃fl,h.TracedAtW B e cls a0 fl)\/∃oe vs,h.get? e=some oe/\oe.cls=cls/\oe.data=.fields vs/\vs[1]?=some .none/\vs[0]?=some a0
def FlK(cls:Value)(ro:Option Nat)(B h1:Heap)(H:Hp):Option Addr->Value->Prop:=fun od v =>
 (cls ≠ .ref (CN.ad "BadText")->v=.none)/\∀r,ro=some r->∃d,od=some d/\Row d (r:Int) B/\H d=none/\h1.get? d=none
structure Fl(stk:List Env)(h1:Heap)(H:Hp)(e:Addr)(cls:Value)(ro:Option Nat)(B:Heap)(a0:Value)(h:Heap):Prop where
 stays:B.StaysIn h
 newB:B.get? e=none
 frm:h.FunFrames B stk
 raw:Raw B e cls a0 h
 kp:KpX (FlK cls ro B h1 H) e h
 cov:∀b o,h.get? b=some o->b∉frs stk->(h1.get? b≠none\/H b≠none)->B.get? b=some o
def ExcAt(X:Cx)(c:Str)(H:Hp)(e:Value)(s:Shared):Prop :=
 ∃(DJ:List (Addr×Obj)) (σ:St) (s1:Shared) (H1:Hp) (a:Addr) (B:Heap) (a0:Value),Inv X DJ σ H1 s1/\Inv X DJ σ H s/\Un (frs X.stack) [] H1 H s1.heap s.heap/\e=.ref a/\s1.heap.get? a=none/\H a=none/\Fl X.stack s1.heap H a (.ref (CN.ad c)) (rowOf c) B a0 s.heap
def CXV(P:Program)(w:World):CXT:=fun outer H s E e s' =>
 ∃(a:Addr) (cls:Value) (ro:Option Nat) (B:Heap) (a0:Value) (H':Hp),e=.ref a/\s'.os=s.os/\AllBare s'.gens/\Un (frs outer) [] H H' s.heap s'.heap/\HOk P w H' s'.heap/\s.heap.get? a=none/\H' a=none/\Fl outer s.heap H' a cls ro B a0 s'.heap/\E cls ro H'
theorem uZ{P:Program}{w:World}{H:Hp}{h:Heap}{a:Addr}{o:HO}(x:ObjOk P w H h a o):∃u,h.get? a=some u:=by
 cases o with
 | lst xs=>exact⟨_,x.2.choose_spec.choose_spec.2⟩
 | tup xs=>obtain⟨_,its,_,ob,e,_⟩:=x;exact⟨ob,e⟩
 | dK kvs=>obtain⟨_,_,_,_,ob,_,_,e,_⟩:=x;exact⟨ob,e⟩
 | dT kvs=>obtain⟨_,_,_,_,ob,_,_,e,_⟩:=x;exact⟨ob,e⟩
 | set S n=>obtain⟨ob,_,_,_,e,_⟩:=x;exact⟨ob,e⟩
 | ins C dx fs=>obtain⟨_,_,_,e,_⟩:=x;exact⟨_,e⟩
 | own y=>exact x
 | xd fs=>obtain⟨_,⟨ob,_,_,e,_⟩,_⟩:=x;exact⟨ob,e⟩
 | rng lo hi=>obtain⟨_,_,_,e⟩:=x;exact⟨_,e⟩
 | frz ob u=>exact⟨ob,x.1⟩
 | tbl ps=>exact⟨_,x⟩
 | met f y=>exact⟨_,x⟩
 | ext φ=>exact x.2.1
theorem zN7{P:Program}{w:World}{H:Hp}{h:Heap}{a:Addr}(x:HOk P w H h)(n:H a≠none):∃u,h.get? a=some u:=by
 cases e:H a with
 | none=>exact absurd e n
 | some o=>exact uZ (x a o e)
theorem fB{α:Type}{o:Option α}(h:o≠none):∃x,o=some x:=by
 cases o with
 | none=>exact absurd rfl h
 | some x=>exact⟨x,rfl⟩
theorem wP{α:Type}{o:Option α}{x:α}(h:o=some x):o≠none:=by
 rw[h];exact fun z=>nomatch z
theorem dX{α:Type}{o:Option α}(h:∀x,o=some x->False):o=none:=by
 cases o with
 | none=>rfl
 | some x=>exact (h x rfl).elim
theorem yO4{X:Cx}{c:Str}{H:Hp}{e:Value}{s:Shared}{E:XK}{E2:Value->Shared->Prop}(x:ExcAt X c H e s)(hst:X.stack=X.env::X.outer)(hfr:X.env.frame=some X.env.locals)(hex:X.ex=[])(hE:E (.ref (CN.ad c)) (rowOf c) H) :
  wpAny (model X.prog X.w) X.A (leaving X.env e) (fun _ s''=>CXV X.prog X.w X.outer X.H₀ X.s₀ E e s'') E2 s:=by
 obtain⟨DJ,σ,s1,H1,a,B,a0,I1,I,un,rfl,n1,n2,f⟩:=x
 have noex:∀b:Addr,b∉X.ex:=fun b z=>by rw[hex] at z;cases z
 obtain⟨Φ,hP⟩:∃Φ,Φ=FlK (.ref (CN.ad c)) (rowOf c) B s1.heap H:=⟨_,rfl⟩
 have fk:KpX Φ a s.heap:=hP▸f.kp
 have hfs:frs X.stack=X.env.locals::X.fs:=by
  rw[hst]
  show List.filterMap _ _=_
  rw[CM,hfr]
  rfl
 have hfrm:s.heap.FunFrames B (X.env::X.outer):=by rw[<-hst];exact f.frm
 have hA:X.A.frames=some (X.env::X.outer):=by rw[<-hst];exact I.ok.frames
 have oldL:∀b o,X.s₀.heap.get? b=some o->b≠X.env.locals:=fun b o q z=>by
  subst z
  exact absurd (Am q) (Cc.mpr I.ok.above)
 have old1:∀b o,X.s₀.heap.get? b=some o->s1.heap.get? b≠none:=fun b o q=>let ⟨_,e⟩:=I1.base.there b o q (noex b);wP e
 have key:∀h',Heap.LeftW B (X.env::X.outer) a (.ref (CN.ad c)) a0 s.heap h'->KpX Φ a h'->CXV X.prog X.w X.outer X.H₀ X.s₀ E (.ref a) { s with heap:=h' }:=by
  rintro h' ⟨k1,k2,k3,k4⟩ kh
  have kp:∀b o,s.heap.get? b=some o->b∉frs X.stack->(s1.heap.get? b≠none\/H b≠none)->h'.get? b=some o:=fun b o q n z=>k1 b o (f.cov b o q n z)
  have out:∀b,b∉X.fs->b≠X.env.locals->b∉frs X.stack:=fun b n1 n2 z=>by
   rw[hfs] at z
   rcases Aw.mp z with z | z
   ·exact n2 z
   ·exact n1 z
  have trk:∀b,H b≠none->b∉frs X.stack:=fun b n z=>n (I.stkFree b z)
  refine⟨a,_,rowOf c,B,a0,H,rfl,I.os,I.bare,⟨fun b o q n hb hx => ?_,fun b o q n hb hx => ?_,fun b o q n hx=>I.base.free b o q n (noex b),fun b o q hx => ?_,I.base.tups,I.base.frzs,I.base.tbls⟩,fun b o q => ?_,?_,n2,⟨k1,f.newB,k2.2.2,.inl ⟨_,k3.at⟩,KpX.mono (hP▸kh) (fun d v ⟨y1,y2⟩=>⟨y1,fun r e=>let ⟨d',z1,z2,z3,z4⟩:=y2 r e; ⟨d',z1,z2,z3,dX fun o q=>old1 d' o q z4⟩⟩),fun b o q n z => ?_⟩,hE⟩
  ·exact kp b o (I.base.keep b o q n hb (noex b)) (out b hb (oldL b o q)) (.inl (old1 b o q))
  ·obtain⟨sl,e⟩:=I.base.slot b o q n hb (noex b)
   obtain⟨_,o',e',nf⟩:=f.frm.mem (b:=b) (by show b∈frs X.stack;rw[hfs];exact Ai _ hb)
   rw[e] at e'
   cases e'
   obtain⟨sl',e2⟩:=k4 b _ e nf
   exact⟨sl',e2⟩
  ·by_cases hb:b∈frs X.stack
   ·obtain⟨_,o',e',_⟩:=k2.mem (b:=b) (by rw[hst] at hb;exact hb)
    exact⟨o',e'⟩
   ·obtain⟨o',e'⟩:=I.base.there b o q (noex b)
    exact⟨o',kp b o' e' hb (.inl (old1 b o q))⟩
  ·refine (I.hok b o q).stay (fun b' u hb' e => ?_) (fun _ z=>z) fun _ _ z=>z
   have n:H b'≠none:=by
    rcases hb' with rfl | hb'
    ·exact wP q
    ·exact wP hb'
   exact kp b' u e (trk b' n) (.inr n)
  ·cases q:X.s₀.heap.get? a with
   | none=>rfl
   | some o=>exact absurd n1 (old1 a o q)
  ·have nL:b≠X.env.locals:=by
    rcases z with z | z
    ·obtain⟨o',q'⟩:=fB z
     exact oldL b o' q'
    ·intro y
     subst y
     exact z I.free
   have ns:b∉frs X.stack:=out b n nL
   obtain⟨o2,q2⟩:∃o2,s.heap.get? b=some o2:=by
    rcases z with z | z
    ·obtain⟨o',q'⟩:=fB z
     exact I.base.there b o' q' (noex b)
    ·exact zN7 I.hok z
   have z':s1.heap.get? b≠none\/H b≠none:=by
    rcases z with z | z
    ·obtain⟨o',q'⟩:=fB z
     exact .inl (old1 b o' q')
    ·exact .inr z
   have hB:=f.cov b o2 q2 ns z'
   have q3:=k1 b o2 hB
   have q4:h'.get? b=some o:=q
   rw[q3] at q4
   cases q4
   exact hB
 rcases f.raw with t | ⟨oe,vs,he,hc,hd,h1,h0⟩
 ·obtain⟨fl,t⟩:=t
  unfold leaving
  refine Ab (gJ hA hfrm hfr t f.stays f.newB fk fun g ⟨x1,x2,x3,x4⟩ kg => ?_)
  exact flightK (s:={ s with heap:=g }) x1 f.newB x2 x3 kg fun g2 fly ups k2=>key g2 ⟨fly.1,fly.2.2.1,fly.2.2.2,Heap.UpToSlots.trans x4 ups⟩ k2
 ·rw[<-hc] at key
  unfold leaving noteFrame
  simp only[hfr]
  refine Ab (Ab (wpAny_field he hd h1 ?_))
  rw[Ax (by decide)]
  refine entryK hA hfrm hfr he f.stays f.newB hd (AY.mp h1).1 h0 fk fun g ⟨x1,x2,x3,x4⟩ kg => ?_
  exact flightK (s:={ s with heap:=g }) x1 f.newB x2 x3 kg fun g2 fly ups k2=>key g2 ⟨fly.1,fly.2.2.1,fly.2.2.2,Heap.UpToSlots.trans x4 ups⟩ k2
def Br(C:Ct):Prop:=∀(c:Str) (H:Hp) (e:Value) (s:Shared),ExcAt C.X c H e s->C.XE c H->C.X.xe e s
theorem xK7{C:Ct}(h:∀c H,C.XE c H->False):Br C:=fun c H _ _ _ z=>(h c H z).elim
def wX(C:Ct):XK:=fun v ro H=>∃c,v=.ref (CN.ad c)/\ro=rowOf c/\C.XE c H
theorem passX{C:Ct}(hb:Br C):Passes (CXV C.X.prog C.X.w) C.X (wX C):=by
 intro DJ σ H s e s' I h
 obtain⟨a,cls,ro,B,a0,H',rfl,os,bare,un,hok,n1,n2,f,c,rfl,rfl,z⟩:=h
 exact hb c H' _ s' ⟨DJ,σ,s,H,a,B,a0,I,I.call' os un hok bare (fun b z=>by cases z),un,rfl,n1,n2,f⟩ z
def spX(fr:Bool)(F:List D->Res D):Sp:=fun vs H Q E=>∃(ds:List D) (O:Addr->Prop),(∀a,O a->H a≠none)/\Reps H O vs ds/\(F ds).post (fun d=>∀v H',Same H H'->CallOk fr O H H' v d->Q v H') (fun c=>∀H',Same H H'->E (.ref (CN.ad c)) (rowOf c) H')
section
variable {P:Program}{w:World}{K:KFr}{mg:Str->Option Value}{base:Heap}
abbrev bodyX(P:Program)(w:World)(K:KFr)(mg:Str->Option Value)(base:Heap)(N:List Str)(x:Str)(sc:Scope)(f:Addr)(cdv:Value)(A:Around)(outer:List Env)(s:Shared)(H:Hp)(E:XK)(om:List Nat):Ct :=
 ⟨cxOf (CXV P w) P w K mg base N x sc f cdv A outer s H E,fun c H'=>E (.ref (CN.ad c)) (rowOf c) H',om,[]⟩
theorem zK{N:List Str}{x:Str}{sc:Scope}{f:Addr}{cdv:Value}{A:Around}{outer:List Env}{s:Shared}{H:Hp}{E:XK}{om:List Nat}:Br (bodyX P w K mg base N x sc f cdv A outer s H E om) :=
 fun c H' e s' x h=>yO4 x rfl rfl rfl h
theorem xZ{x:Str}{st:Stmt}{f:Addr}{fd:FuncData}{N ps:List Str}{k:Nat}{m:Ev->Res Out}{fr:Bool}(om:List Nat)(F:Fun K x x st f fd)(S:yX N ps (zR st))
  (hbody:∀(cdv:Value) (A:Around) (outer:List Env) (s:Shared) (H:Hp) (E:XK),Room k (A.deeper (envOfC x (zR st) s.heap.objs.size f cdv))->RSs (bodyX P w K mg base N x (zR st) f cdv A outer s H E om) fr (defBody st) m)
  (hom:autoParam (om.all (fun i=>decide (ps.length<=i))=true) DI) :
  FnOk P w K mg base (CXV P w) (k+1) f fd ps (spX fr (runF fr ps.length N.length m)):=by
 have len:∀(vs:List V) (H:Hp) (Q:VK) (E:XK),spX fr (runF fr ps.length N.length m) vs H Q E->vs.length=ps.length:=fun vs H Q E h=>by
  obtain⟨ds,O,oh,r,k⟩:=h
  unfold runF at k
  split at k
  ·rename_i hl
   rw[r.length];exact hl
  ·exact k.elim
 obtain⟨oc,od,kV,doc,pm,an,cdv,ct,osl,rfl,lk,hcd⟩:=F.ex
 refine yT4 lk hcd S len fun A outer s H vs Q E hr h => ?_
 have hvl:=len vs H Q E h
 obtain⟨ds,O,oh,r,k⟩:=h
 have hl:ds.length=ps.length:=by rw[<-r.length];exact hvl
 unfold runF at k
 rw[Ak hl] at k
 obtain⟨t,p,q⟩:=hbody cdv A outer s H E hr
 refine⟨t,p,q ⟨O,fun _=>0⟩ (fun _=>False) _ H (ds.map some++List.replicate (N.length-ps.length) none) _ ?_ ?_⟩
 ·refine⟨?_,fun i d e _ _ => ?_,fun i d e ho => ?_,fun i d e _ hl=>(nomatch hl),fun i j di dj a ei _ ho _ _ _ => ?_,fun a z=>oh a (z.elim id fun z=>z.elim),fun a z=>z.elim⟩
  ·unfold start
   rw[Af,Af,Ac,Ac,Df,Df,hvl,hl]
  ·obtain⟨v,ev,rv⟩:=r.get (bJ e)
   exact⟨v,yB2 ev,rv.less fun b z=>z.elim id fun z=>z.elim⟩
  ·have h1:=(Au.mp (bJ e)).1
   have h2:ps.length<=i:=of_decide_eq_true (AS.mp hom i ho)
   rfl'
  ·have h1:=(Au.mp (bJ ei)).1
   have h2:ps.length<=i:=of_decide_eq_true (AS.mp hom i ho)
   rfl'
 ·have same:∀{H':Hp},Frm (fun _=>False) H H'->Same H H':=fun f b o e=>f b o e fun z=>z
  refine Res.zT (Res.zU k) (fun o _ k => ?_) fun c z H' f=>z H' (same f)
  cases o with
  | rt d =>
   intro v H' f rt
   refine k v H' (same f) ?_
   cases fr with
   | false=>exact rt
   | true =>
    obtain⟨a,ys,ds,e1,e2,e3,e4,e5,e6⟩:=rt
    exact⟨a,ys,ds,e1,e2,e3.elim id fun z=>z.elim,e5,e6⟩
  | nx ρ' =>
   cases fr with
   | true=>exact k.elim
   | false=>exact fun σ' H' Ob' R f s=>k .non H' (same f) Rep.non
theorem zS4{fr:Bool}{k:Nat}{f:Addr}{fd:FuncData}{ps:List Str}:FnOk P w K mg base (CXV P w) k f fd ps (spX fr fun _=>.no) :=
 ⟨fun _ _ _ _ ⟨_,_,_,_,k⟩=>k.elim,fun _ _ _ _ _ _ _ _ _ _ _ _ _ ⟨_,_,_,_,k⟩=>k.elim⟩
end
theorem zF5{C:Ct}{k:Nat}{f:Addr}{fd:FuncData}{ps:List Str}{fr:Bool}{F:List D->Res D}{x:Str}{p pos:Pos}{e:Expr}{es:List Expr}{ms:Ev->Res (List D)}{st:Stmt}(G:FnOk C.X.prog C.X.w C.X.K C.X.mg C.X.base (CXV C.X.prog C.X.w) k f fd ps (spX fr F))(hh:Has C.X.K C.X.mg x st f fd ps)(hr:Room k C.X.A)
  (hb:Br C) (ha:RArg C true (e::es) ms) (hg:autoParam (Gl C.X x) DI) (hdb:autoParam ((x == ("__debug__":Str))=false) DH) (he:autoParam (starEach (e::es) C.X.env=(false,eval e C.X.env)::starEach es C.X.env) DI) (hpl:autoParam ((backTo pos (starEach es C.X.env)).any (·.1)=false) DI) :
  RE C (mdF fr) (.Call (.Name x p) (e::es) [] pos) (eF F ms):=by
 obtain⟨t,pa,q⟩:=ha
 refine⟨_,uS G hr hg hh.m hh.F.kp hh.b .nil (passX hb) pa hdb he hpl,fun Oc Ob σ H ρ Q R h => ?_⟩
 refine q Oc Ob σ H ρ _ R (Res.zT (Res.zU h) (fun ds _ k vs H1 s1 r => ?_) fun c z=>z)
 show spX fr F (vs ++ []) H1 Q (wX C)
 rw[Bu]
 refine⟨ds,Uni Oc Ob,(R.same s1).oh,r,Res.zT k (fun d _ k v H' s2 rv => ?_) fun c z H' s2=>⟨c,rfl,rfl,z H' (s1.trans s2)⟩⟩
 refine k v H' (s1.trans s2) ?_
 cases fr with
 | false=>exact rv
 | true =>
  obtain⟨a,ys,ds,e1,e2,e3,e4,e5⟩:=rv
  exact⟨a,ys,ds,e1,e2,s1.free e3,e4,e5⟩
section
variable {C:Ct}{k:Nat}{f:Addr}{fd:FuncData}{ps:List Str}{F:List D->Res D}{x:Str}{p pos:Pos}{e:Expr}{es:List Expr}{ms:Ev->Res (List D)}{st:Stmt}
theorem zD(G:FnOk C.X.prog C.X.w C.X.K C.X.mg C.X.base (CXV C.X.prog C.X.w) k f fd ps (spX false F))(hh:Has C.X.K C.X.mg x st f fd ps)(hr:Room k C.X.A)
  (hb:Br C) (ha:RArg C true (e::es) ms) (hg:autoParam (Gl C.X x) DI) (hdb:autoParam ((x == ("__debug__":Str))=false) DH) (he:autoParam (starEach (e::es) C.X.env=(false,eval e C.X.env)::starEach es C.X.env) DI) (hpl:autoParam ((backTo pos (starEach es C.X.env)).any (·.1)=false) DI) :
  RE C .cl (.Call (.Name x p) (e::es) [] pos) (eF F ms):=zF5 (fr:=false) G hh hr hb ha hg hdb he hpl
theorem aU(G:FnOk C.X.prog C.X.w C.X.K C.X.mg C.X.base (CXV C.X.prog C.X.w) k f fd ps (spX true F))(hh:Has C.X.K C.X.mg x st f fd ps)(hr:Room k C.X.A)
  (hb:Br C) (ha:RArg C true (e::es) ms) (hg:autoParam (Gl C.X x) DI) (hdb:autoParam ((x == ("__debug__":Str))=false) DH) (he:autoParam (starEach (e::es) C.X.env=(false,eval e C.X.env)::starEach es C.X.env) DI) (hpl:autoParam ((backTo pos (starEach es C.X.env)).any (·.1)=false) DI) :
  RE C .new (.Call (.Name x p) (e::es) [] pos) (eF F ms):=zF5 (fr:=true) G hh hr hb ha hg hdb he hpl
end
end L2.L3
namespace L2
open PySem PySem.Spec PyProof.Rows
section
variable {X:Cx}{DJ:List (Addr×Obj)}{σ:St}{H:Hp}{s:Shared}
theorem yP2{M:Model}{A:Around}{E:Value->Shared->Prop}{i:Nat}{x:Str}{v:V}{Q:Unit->Shared->Prop}(I:Inv X DJ σ H s)(hN:X.N.Nodup)(hi:X.N[i]?=some x)(hk:X.env.scope.names.lookup x=some .local)(hv:σ[i]?=some (some v))
  (h:∀s',Inv X DJ (σ.set i none) H s'->Q () s'):wpAny M A (unbindName X.env x) Q E s:=by
 obtain⟨m,hn,hl⟩:=id I.loc
 have hcls:(X.env.scope.kind == .class || (X.env.scope.kind == .module&&X.env.locals != X.env.globals))=false:=by rw[I.ok.kind];rfl
 have hiσ:i<σ.length:=by rw[I.len];exact (Au.mp hi).1
 obtain⟨u,r,l⟩:=hl i x v hi hv (.inl hk)
 have mx:m x=some u:=by
  rcases l with ⟨_,e⟩ | ⟨k,_⟩
  ·exact e
  ·have k':X.env.scope.names.lookup x=some .cell\/X.env.scope.names.lookup x=some .free:=k
   rw[hk] at k'
   rcases k' with k' | k' <;> cases k'
 refine wpAny_unbindName_local hk hn mx hcls fun h' u' hn' hs => ?_
 obtain⟨oL,_,_,hoL,_⟩:=id hn
 have old:∀b o,X.s₀.heap.get? b=some o->h'.get? b=s.heap.get? b:=fun b o e=>hs.2 b (AL (Ar (Am e) I.ok.above))
 refine h _ ⟨I.ok,I.os,I.bare,⟨fun b o e n hb hx => ?_,fun b o e n hb hx => ?_,I.base.free,fun b o e hx => ?_,I.base.tups,I.base.frzs,I.base.tbls⟩,⟨_,hn',fun j y v' e1 e2 e3 => ?_⟩,fun y c e => ?_,I.free,I.freeC,fun p hp => ?_,fun b ob e => ?_,by simpa using I.len⟩
 ·exact (old b o e).trans (I.base.keep b o e n hb hx)
 ·obtain⟨sl,e1⟩:=I.base.slot b o e n hb hx
  exact⟨sl,(old b o e).trans e1⟩
 ·obtain⟨o',e1⟩:=I.base.there b o e hx
  exact⟨o',(old b o e).trans e1⟩
 ·by_cases hj:j=i
  ·subst hj
   rw[Bx hiσ] at e2
   cases e2
  ·rw[AG (AX hj)] at e2
   obtain⟨w',r',q⟩:=hl j y v' e1 e2 e3
   refine⟨w',r',?_⟩
   rcases q with ⟨k,e⟩ | ⟨k,c,e,z⟩
   ·refine .inl ⟨k,?_⟩
    have:y≠x:=fun e=>hj (zY8 hN e1 (e▸hi))
    simp[this,e]
   ·exact .inr ⟨k,c,e,z.sameBut hs (I.cne y c e)⟩
 ·obtain⟨w',z⟩:=I.cell y c e
  exact⟨w',z.sameBut hs (I.cne y c e)⟩
 ·obtain⟨e,n,ne,nf,d⟩:=I.pin p hp
  exact⟨(hs.2 p.1 ne).trans e,n,ne,nf,d⟩
 ·refine (I.hok b ob e).stay (fun c w' hc q=>(hs.2 c ?_).trans q) (fun _ q=>q) fun _ _ q=>q
  rintro rfl
  rcases hc with rfl | hc
  ·rw[I.free] at e;cases e
  ·rw[I.free] at hc;cases hc
theorem Inv.track{a:Addr}{o:HO}(I:Inv X DJ σ H s)(n:H a=none)(n0:X.s₀.heap.get? a=none)(nL:a≠X.env.locals)(nC:∀x c,X.env.cells.lookup x=some c->c≠a)(nP:∀p∈X.pn++DJ,p.1≠a)(new:ObjOk X.prog X.w (upd H a o) s.heap a o):Inv X DJ σ (upd H a o) s:=by
 have ne:∀b u,H b=some u->b≠a:=fun b u e z=>by subst z;rw[n] at e;cases e
 have up:∀b u,H b=some u->upd H a o b=some u:=fun b u e=>by rw[zM (ne b u e)];exact e
 refine⟨I.ok,I.os,I.bare,⟨I.base.keep,I.base.slot,fun b u q z hx => ?_,I.base.there,fun b xs q=>up _ _ (I.base.tups b xs q),fun b u v q=>up _ _ (I.base.frzs b u v q),fun b ps q => ?_⟩,I.loc,I.cell,?_,fun x c e => ?_,fun p hp => ?_,fun b u e => ?_,I.len⟩
 ·have:b≠a:=fun y=>by subst y;rw[n0] at q;cases q
  rw[zM this]
  exact I.base.free b u q z hx
 ·obtain⟨more,e⟩:=I.base.tbls b ps q
  exact⟨more,up _ _ e⟩
 ·rw[zM (AX nL)]
  exact I.free
 ·rw[zM (nC x c e)]
  exact I.freeC x c e
 ·obtain⟨e,m,x1,x2,x3⟩:=I.pin p hp
  exact⟨e,by rw[zM (nP p hp)];exact m,x1,x2,x3⟩
 ·by_cases h:b=a
  ·subst h
   rw[zO] at e
   cases e
   exact new
  ·rw[zM h] at e
   exact (I.hok b u e).stay (fun _ _ _ q=>q) (fun c q=>up _ _ q) fun c xs q=>up _ _ q
end
end L2
namespace L2.L3
open PySem PySem.Spec PyProof.Rows
variable [CN]
abbrev bmV:List Value:=[.type "ValueError",.type "Exception",.type "BaseException",.type "object"]
def OwnX(K:KFr)(x:Str):Prop:=PySem.W.excIn K (CN.ad x) bmV "ValueError.__new__" = true
theorem xW1{K:KFr}{h:Heap}{A:Addr}{bmB:List Value}{nid:String}(X:K.In h)(q:PySem.W.excIn K A bmB nid=true) :
  ∃(tl:List Value) (N:Addr) (nm qn:Str) (bs:List Value) (hd:Bool) (sn:List Str) (sb:List Value) (ab:Bool) (co:Option Bool) (dd:Option Addr) (k0 k1 k2 k3 k5:Option Value) (mN:Str->Option Value),
   h.get? A=some (excClassObj nm qn A N bs tl hd sn sb ab co dd k0 k1 k2 k3 k5 nid)/\h.Ns N mN/\mN "__init__" = none/\OwnTail h bmB tl:=by
 revert q
 rw[PySem.W.excIn]
 split
 case h_2=>exact fun q=>nomatch q
 case h_1 dd cd sl lk =>
  split
  case h_2=>exact fun q=>nomatch q
  case h_1 A' tl j0 j1 j2 j3 nn j5 em es =>
   intro q
   rw[Ay,Ay,Ay,Ay,Ay] at q
   have q6:=q.2
   have q5:=q.1.2
   have q4:=q.1.1.2
   have q3:=q.1.1.1.2
   have q2:=eq_of_beq q.1.1.1.1.2
   have q1:=eq_of_beq q.1.1.1.1.1
   cases cd
   cases sl
   simp only at em es q3 q5 q6
   subst em es q1 q2
   simp only[Bool.not_eq_true'] at q3
   subst q3
   exact⟨_,_,_,_,_,_,_,_,_,_,_,_,_,_,_,_,_,X _ _ lk,.of_isNs (PySem.W.isNs_of_in X q5),PySem.W.nsMap_none_of_in X q5 (eq_of_beq q6),PySem.W.tail_of_in X q4⟩
theorem yG8{X:Cx}{DJ:List (Addr×Obj)}{σ:St}{H:Hp}{s:Shared}{c:Str}{h':Heap}{e:Addr}{args:List Value}(I:Inv X DJ σ H s)(hro:rowOf c=none)(m:Heap.MadeExcOf s.heap h' e (.ref (CN.ad c)) args):ExcAt X c H (.ref e) { s with heap:=h' }:=by
 obtain⟨t,he,_,_⟩:=m.there
 have I2:Inv X DJ σ H { s with heap:=h',toks:=s.toks }:=I.kept m.keeps
 have n:H e=none:=by
  cases q:H e with
  | none=>rfl
  | some o =>
   obtain⟨u,z⟩:=uZ (I.hok e o q)
   rw[m.new] at z
   cases z
 refine⟨DJ,σ,s,H,e,PySem.W.hideAll h' (e::frs X.stack),.ref t,I,I2,Un.kept m.keeps,rfl,m.new,n,fun b o q=>CS _ q,CC _ (.head _),Dc I2.stack fun env he a ha=>Ai _ (Bz.mpr ⟨env,he,ha⟩),.inr ⟨_,_,he,rfl,rfl,rfl,rfl⟩,⟨_,_,_,he,rfl,rfl,fun _=>rfl,fun r z=>by rw[hro] at z;cases z⟩,fun b o q nb z=>Ch _ q fun hb => ?_⟩
 rcases Aw.mp hb with rfl | hb
 ·rcases z with z | z
  ·exact z m.new
  ·exact z n
 ·exact nb hb
def sRa(c:Str)(m:Ev->Res (List D)):Ev->Res Out:=fun ρ=>(m ρ).bind fun ds=>if ds.length<=sizeLine then .ex c else .no
theorem vU{C:Ct}{fr:Bool}{x:Str}{np cpos pos:Pos}{e:Expr}{es:List Expr}{ms:Ev->Res (List D)}(hb:Br C)(ho:OwnX C.X.K x)(hm:C.X.mg x=some (.ref (CN.ad x)))(ha:RArg C false (e::es) ms)(hc:autoParam (C.X.calm=true) DI)(hg:autoParam (Gl C.X x) DI)(hdb:autoParam ((x == ("__debug__":Str))=false) DH)
  (he:autoParam (starEach (e::es) C.X.env=(false,eval e C.X.env)::starEach es C.X.env) DI) (hpl:autoParam ((backTo cpos (starEach es C.X.env)).any (·.1)=false) DI) (hro:autoParam (rowOf x=none) autoK14._auto_1) :
  RS C fr (.Raise (some (.Call (.Name x np) (e::es) [] cpos)) none pos) (sRa x ms):=by
 obtain⟨t,pa,q⟩:=ha
 refine⟨fun _ σ H=>t σ H fun vs H1=>vs.length<=sizeLine/\C.XE x H1,fun DJ s σ H D I h => ?_,fun Oc Ob σ H ρ E R h=>q Oc Ob σ H ρ _ R (Res.zT (Res.zU h) (fun ds _ k vs H' s r => ?_) fun c z H' s=>z H' (Same.frm s))⟩
 ·obtain⟨tl,N,nm,qn,bs,hd,sn,sb,ab,co,dd,k0,k1,k2,k3,k5,mN,hC,hN,hni,T⟩:=xW1 I.mod.kin ho
  refine wpAny_Raise_call_subT (C:=CN.ad x) (nm:=nm) (q:=qn) (N:=N) (bs:=bs) (bm:=tl) (hdct:=hd) (sn:=sn) (sub:=sb) (ab:=ab) (col:=co) (dd:=dd) (k0:=k0) (k1:=k1) (k2:=k2) (k3:=k3) (k5:=k5) Cd (mN:=mN) (T.hasType Cd.hasBase) (I.ok.hd hc)
   (by rw[he];show (false || (backTo cpos (starEach es C.X.env)).any (·.1))=false;rw[hpl];rfl) hni (uU I hg hm ⟨rfl,?_⟩ hdb)
  have h2:=pa cpos DJ s σ H _ I h
  rw[he] at h2 ⊢
  refine Calls.evalArgs_plain (wpAny_mono h2 (fun us s2 ⟨vs,H2,I2,r,hl,z⟩ => ?_) fun _ _ y=>y)
  exact⟨rfl,by rw[<-r.length];exact hl,I2.bk _ _ hC,hN.keeps I2.bk,T.keeps I2.bk,fun h' a m=>hb x H2 _ _ (yG8 I2 hro m) z⟩
 ·by_cases hl:ds.length<=sizeLine
  ·rw[Ak hl] at k
   exact⟨by rw[(VAs.rep r).length];exact hl,k H' (Same.frm s)⟩
  ·rw[Ax hl] at k
   exact k.elim
end L2.L3
namespace PySem
section
variable {prog:Program}{w:World}{A:Around}{E:Value->Shared->Prop}{h:Heap}{g:Array GenState}{d:Drawn}{t:Nat}{os:OsState}{a C:Addr}{o:Obj}{K:KFr}
structure ExK(K:KFr)(C:Addr):Prop where
 ga:PySem.W.findIn K (.ref C) "__getattribute__" = some (some (.builtin "BaseException.__getattribute__"))
 gn:PySem.W.findIn K (.ref C) "__getattr__" = some none
 cl:PySem.W.findIn K (.ref C) "__class__" = some (some (.builtin "object.__class__"))
 sb:PySem.W.subIn K (.ref C) (.type "BaseException")=some true
 so:PySem.W.subIn K (.ref C) (.type "object")=some true
 ci:(PySem.W.clsIn K C).isSome=true
theorem kP{M:Model}{nm:Str}{v:Option Value}{P:Option Value->Shared->Prop}(X:K.In h)(e:PySem.W.findIn K (.ref C) nm=some v)(q:P v ⟨h,g,d,t,os⟩):wpAny M A (typeLookup (.ref C) nm) P E ⟨h,g,d,t,os⟩:=(Ds X e).at q
theorem zM6{M:Model}{T:String}{P:Bool->Shared->Prop}{x:Shared}(X:K.In x.heap)(e:PySem.W.subIn K (.ref C) (.type T)=some true)(q:P true x):wpAny M A (isSubtype (.ref C) (.type T)) P E x:=(PySem.W.looks_subIn X e).at q
variable {dd:Option Addr}{dt:Data}{sl:Array (Option Value)}{x:Shared}
theorem xS4{R:Result->Shared->Prop}(X:K.In x.heap)(k:ExK K C)(hx:x.heap.get? a=some ⟨.ref C,dd,dt,sl⟩)(q:R (.ok (.ret (.ref C))) x):codeAny (model prog w) A (.call (.builtin "getset_descriptor.__get__") ⟨[.builtin "object.__class__",.ref a,.ref C],[]⟩) R x:=by
 have ow:=F.owner_object_class
 have s1:∀P:Bool->Shared->Prop,∀B:Around,∀E':Value->Shared->Prop,P true x->wpAny (model prog w) B (isSubtype (.ref C) (.type (".".intercalate ("object.__class__".cutAt '.').dropLast))) P E' x:=fun P B E' z=>by rw[ow];exact zM6 X k.so z
 have ty:x.TypeIs (.builtin "object.__class__") "getset_descriptor":=F.typeOf_object_class
 have ok:=F.args_gs_get (.builtin "object.__class__") (.ref a) (.ref C)
 refine codeAny_call_builtin F.slot_gs_get.plain F.entry_gs_get ?_
 refine F.slot_gs_get.check _ _ _ _ _ _ _ _ ty ok ?_
 repeat' first | assumption | ((with_reducible apply wpAny_loadPart_at hx) <;> try dsimp only) | ((with_reducible apply s1) <;> try dsimp only) | wp_step
 exact⟨DD _ (by decide +kernel),codeAny_builtin F.entry_object_class (by repeat' first | assumption | ((with_reducible apply wpAny_loadPart_at hx) <;> try dsimp only) | wp_step)⟩
theorem xN2{tk:Tok}{P:Fin->Shared->Prop}(X:K.In x.heap)(k:ExK K C)(hx:x.heap.get? a=some ⟨.ref C,dd,dt,sl⟩)(q:P (.done (.ret (.ref C))) x):wpAny (model prog w) A (Builtin.«object.__getattribute__» ⟨[.ref a,.str "__class__" tk],[]⟩) P E x:=by
 have g1:=F.typeOf_object_class
 have g2:=F.slot_gs_get.lookup
 have g3:=F.slot_gs_set.lookup
 have ty:x.TypeIs (.builtin "object.__class__") "getset_descriptor":=g1
 repeat' first | assumption | ((with_reducible apply wpAny_loadPart_at hx) <;> try dsimp only) | ((with_reducible apply kP X k.cl) <;> try dsimp only) | ((with_reducible apply xS4 X k hx) <;> try dsimp only) | wp_step
theorem yV2{nv:Value}{M:Model}{P:Unit->Shared->Prop}(X:K.In x.heap)(k:ExK K C)(hx:x.heap.get? a=some ⟨.ref C,dd,dt,sl⟩)(q:P () x):wpAny M A (checkBuiltinCall "BaseException.__getattribute__" ⟨[.ref a,nv],[]⟩) P E x:=by
 have g1:builtinKind "BaseException.__getattribute__" = some .slot:=by decide +kernel
 have g2:splitId "BaseException.__getattribute__" = some ("BaseException","__getattribute__"):=by decide +kernel
 have g3:=F.args_bexc_ga (.ref a) nv
 unfold checkBuiltinCall isInstance
 simp only[g1,g2]
 repeat' first | assumption | ((with_reducible apply wpAny_loadPart_at hx) <;> try dsimp only) | ((with_reducible apply zM6 X k.sb) <;> try dsimp only) | wp_step
theorem xY3{P:Option Value->Shared->Prop}(X:K.In x.heap)(k:ExK K C)(hx:x.heap.get? a=some ⟨.ref C,dd,dt,sl⟩)(q:P (some (.ref C)) { x with toks:=x.toks+1 }):wpAny (model prog w) A (getAttr? (.ref a) "__class__") P E x:=by
 have g1:=F.attrBase_ValueError.ga.bind (.ref a)
 have g2:(Value.builtin "BaseException.__getattribute__" == Value.builtin "object.__getattribute__")=false:=by decide +kernel
 have g3:(onTheHeap (Value.ref C)&&Value.builtin "BaseException.__getattribute__" == Value.builtin "object.__getattribute__")=false:=by rw[g2,Dd]
 have g4:(false&&onTheHeap (Value.builtin "BaseException.__getattribute__"))=false:=rfl
 obtain⟨h,g,d,t,os⟩:=x
 unfold getAttr? getAttrBy?
 repeat' first | assumption | ((with_reducible apply wpAny_loadPart_at hx) <;> try dsimp only) | ((with_reducible apply kP X k.ga) <;> try dsimp only) | ((with_reducible apply kP X k.gn) <;> try dsimp only) | wp_step
 have X':K.In (Shared.mk h g d (t+1) os).heap:=X
 have hx':(Shared.mk h g d (t+1) os).heap.get? a=some ⟨.ref C,dd,dt,sl⟩:=hx
 refine codeAny_call_builtin F.attrBase_ValueError.ga.plain F.entry_bexc_ga (yV2 X' k hx' (xN2 X' k hx' ?_))
 repeat' first | assumption | ((with_reducible apply hx') <;> try dsimp only) | wp_step
end
theorem zC5{K:KFr}{a C:Addr}(k:ExK K C):PySem.W.KitX K (.ref a) (.ref C) (fun h=>∃o,h.get? a=some o/\o.cls=.ref C) where
 ty:=fun M h _ ⟨o,h1,h2⟩=>h2▸(PySem.W.Looks.ld h1).andThen .now
 it:=fun M h X _=>by
  have z:=k.ci
  unfold PySem.W.clsIn at z
  split at z
  ·rename_i ho
   intro A' Q' E' s' kk q
   unfold isType loadHead
   exact Ab (wpAny_loadPart (kk _ _ (X _ _ ho)) (Ao q))
  ·cases z
 ne:=fun h tp dd its n sl X htp=>beq_eq_false_iff_ne.mpr fun q=>by
  cases q
  have z:=k.ci
  unfold PySem.W.clsIn at z
  split at z
  ·rename_i ho
   cases (X _ _ ho).symm.trans htp
  ·cases z
 ca:=fun {_ _ _ _ _ s} X p q=>by
  obtain⟨⟨c,dd,dt,sl⟩,h1,h2⟩:=p
  cases h2
  exact xY3 X k h1 q
theorem zL2{K:KFr}{M:Model}{A:Around}{E:Value->Shared->Prop}{Q:Bool->Shared->Prop}{s:Shared}{a c x:Addr}{o:Obj}(X:K.In s.heap)(he:s.heap.get? a=some o)(hc:o.cls=.ref c)(hk:PySem.W.kitCls K (.ref c) (.ref x)=some true)
  (hb:PySem.W.subIn K (.ref x) (.type "BaseException")=some true) (hq:Q true s):wpAny M A (excMatches (.ref a) (.ref x)) Q E s:=by
 obtain⟨hh,g,d,t,os⟩:=s
 obtain⟨L1,L2,L3⟩:=PySem.W.kit_cls (M:=M) X hk
 have L4:=PySem.W.looks_subIn (M:=M) X hb
 have f:=tc_notTuple
 unfold excMatches isExcClass
 repeat (first | (with_reducible refine wpAny_loadPart_at he ?_;rw[hc]) | (with_reducible refine L1.at ?_) | (with_reducible refine L2.at ?_) | (with_reducible refine L3.at ?_) | (with_reducible refine L4.at ?_) | wp_step)
 exact hq
end PySem
namespace L2.L3
open PySem PySem.Spec PyProof.Rows
variable [CN]
theorem aE{X:Cx}{DJ:List (Addr×Obj)}{σ:St}{H H1:Hp}{s s1:Shared}{a:Addr}{cls:Value}{ro:Option Nat}{B:Heap}{a0:Value}{h':Heap}(I1:Inv X DJ σ H1 s1)(I:Inv X DJ σ H s)(un:Un (frs X.stack) [] H1 H s1.heap s.heap)(f:Fl X.stack s1.heap H a cls ro B a0 s.heap)
  (k1:B.StaysIn h') (k2:h'.FunFrames B X.stack) (k4:s.heap.UpToSlots h'):Inv X DJ σ H { s with heap:=h' }/\Un (frs X.stack) [] H1 H s1.heap h'/\∀b o,h'.get? b=some o->b∉frs X.stack->(s1.heap.get? b≠none\/H b≠none)->B.get? b=some o:=by
 have kp:∀b o,s.heap.get? b=some o->b∉frs X.stack->(s1.heap.get? b≠none\/H b≠none)->h'.get? b=some o:=fun b o q n z=>k1 b o (f.cov b o q n z)
 have un':Un (frs X.stack) [] H1 H s1.heap h':=by
  refine⟨fun b o q n hb hx=>kp b o (un.keep b o q n hb hx) hb (.inl (wP q)),fun b o q n hb hx => ?_,un.free,fun b o q hx => ?_,un.tups,un.frzs,un.tbls⟩
  ·obtain⟨sl,e⟩:=un.slot b o q n hb hx
   obtain⟨_,o',e',nf⟩:=f.frm.mem (b:=b) hb
   rw[e] at e'
   cases e'
   obtain⟨sl',e2⟩:=k4 b _ e nf
   exact⟨sl',e2⟩
  ·by_cases hb:b∈frs X.stack
   ·obtain⟨_,o',e',_⟩:=k2.mem (b:=b) hb
    exact⟨o',e'⟩
   ·obtain⟨o',e'⟩:=un.there b o q hx
    exact⟨o',kp b o' e' hb (.inl (wP q))⟩
 have hok:HOk X.prog X.w H h':=fun b o q=>by
  refine (I.hok b o q).stay (fun b' u hb' e => ?_) (fun _ z=>z) fun _ _ z=>z
  have n:H b'≠none:=by
   rcases hb' with rfl | hb'
   ·exact wP q
   ·exact wP hb'
  exact kp b' u e (fun z=>n (I.stkFree b' z)) (.inr n)
 refine⟨I1.call' (s':={ s with heap:=h' }) (I.os.trans I1.os.symm) un' hok I.bare (fun b z=>by cases z),un',fun b o q n z => ?_⟩
 obtain⟨o2,q2⟩:∃o2,s.heap.get? b=some o2:=by
  rcases z with z | z
  ·obtain⟨o',q'⟩:=fB z
   exact un.there b o' q' (by simp)
  ·exact zN7 I.hok z
 have hB:=f.cov b o2 q2 n z
 have q3:=k1 b o2 hB
 rw[q] at q3
 cases q3
 exact hB
theorem yK8{X:Cx}{c:Str}{H:Hp}{e:Value}{s:Shared}{E2:Value->Shared->Prop}{Q:Shared->Prop}(x:ExcAt X c H e s)(hst:X.stack=X.env::X.outer)(hfr:X.env.frame=some X.env.locals)
  (hQ:∀(DJ:List (Addr×Obj)) (σ:St) (s1:Shared) (H1:Hp) (a:Addr) (B:Heap) (a0:Value) (s':Shared),Inv X DJ σ H1 s1->Inv X DJ σ H s'->Un (frs X.stack) [] H1 H s1.heap s'.heap->e=.ref a->s1.heap.get? a=none->H a=none->Fl X.stack s1.heap H a (.ref (CN.ad c)) (rowOf c) B a0 s'.heap->s'.heap.TracedW B a (.ref (CN.ad c)) a0->Q s') :
  wpAny (model X.prog X.w) X.A (noteFrame e X.env) (fun _ s₂=>wpAny (model X.prog X.w) X.A (setFlight e none) (fun _ s₃=>Q s₃) E2 s₂) E2 s:=by
 obtain⟨DJ,σ,s1,H1,a,B,a0,I1,I,un,rfl,n1,n2,f⟩:=x
 have hfrm:s.heap.FunFrames B (X.env::X.outer):=by rw[<-hst];exact f.frm
 have hA:X.A.frames=some (X.env::X.outer):=by rw[<-hst];exact I.ok.frames
 obtain⟨Φ,hP⟩:∃Φ,Φ=FlK (.ref (CN.ad c)) (rowOf c) B s1.heap H:=⟨_,rfl⟩
 have fk:KpX Φ a s.heap:=hP▸f.kp
 have key:∀h',Heap.NotedW B (X.env::X.outer) a (.ref (CN.ad c)) a0 (rawInt X.env.locals) s.heap h'->KpX Φ a h'->wpAny (model X.prog X.w) X.A (setFlight (.ref a) none) (fun _ s₃=>Q s₃) E2 { s with heap:=h' }:=by
  rintro h' ⟨k1,k2,k3,k4⟩ kh
  rw[<-hst] at k2
  refine flightK (s:={ s with heap:=h' }) (B:=B) (l:=X.stack) (cls:=.ref (CN.ad c)) (a0:=a0) k1 f.newB k2 k3 kh fun h2 fly ups kh2 => ?_
  have ups2:s.heap.UpToSlots h2:=Heap.UpToSlots.trans k4 ups
  obtain⟨J,un2,cov⟩:=aE I1 I un f fly.1 fly.2.2.1 ups2
  exact hQ DJ σ s1 H1 a B a0 _ I1 J un2 rfl n1 n2 ⟨fly.1,f.newB,fly.2.2.1,.inl ⟨_,fly.2.2.2.at⟩,hP▸kh2,cov⟩ fly.2.2.2
 rcases f.raw with t | ⟨oe,vs,he,hc,hd,h1,h0⟩
 ·obtain⟨fl,t⟩:=t
  exact gJ hA hfrm hfr t f.stays f.newB fk key
 ·rw[<-hc] at key
  unfold noteFrame
  simp only[hfr]
  refine Ab (wpAny_field he hd h1 ?_)
  rw[Ax (by decide)]
  exact entryK hA hfrm hfr he f.stays f.newB hd (AY.mp h1).1 h0 fk key
theorem Inv.trackNew{X:Cx}{DJ:List (Addr×Obj)}{σ:St}{H H1:Hp}{s s1:Shared}{x:Addr}{o:HO}(L1:Inv X DJ σ H1 s1)(n1:s1.heap.get? x=none)(K:Inv X DJ σ H s)(n:H x=none)(hex:X.ex=[])(new:ObjOk X.prog X.w (upd H x o) s.heap x o):Inv X DJ σ (upd H x o) s:=by
 have hne:∀b o,s1.heap.get? b=some o->b≠x:=fun b o q z=>by subst z;rw[n1] at q;cases q
 refine K.track n (dX fun o q => ?_) ?_ (fun y z q => ?_) (fun p hp => ?_) new
 ·obtain⟨o',q'⟩:=L1.base.there x o q (by rw[hex];simp)
  rw[n1] at q'
  cases q'
 ·obtain⟨m,⟨o,_,_,q,_⟩,_⟩:=L1.loc
  exact AX (hne _ o q)
 ·obtain⟨v,o,q',_⟩:=L1.cell y z q
  exact hne _ o q'
 ·exact hne _ _ (L1.pin p hp).1
theorem yU5{P:Program}{w:World}{H:Hp}{h:Heap}{d:Addr}{r:Int}(p:Row d r h):ObjOk P w H h d (.ext (Row d r)) :=
 ⟨p,let ⟨_,o,_,_,e,_⟩:=p; ⟨o,e⟩,fun _ _ q k=>q.keeps k⟩
theorem yH7{X:Cx}{DJ:List (Addr×Obj)}{σ:St}{H H1:Hp}{s s1:Shared}{a:Addr}{c:Str}{B:Heap}{oe:Obj}(L1:Inv X DJ σ H1 s1)(K:Inv X DJ σ H s)(n1:s1.heap.get? a=none)(n2:H a=none)(hex:X.ex=[])(nB:B.get? a=none)(st:B.StaysIn s.heap)
  (kp:KpX (FlK (.ref (CN.ad c)) (rowOf c) B s1.heap H) a s.heap) (he:s.heap.get? a=some oe) (hc:oe.cls=.ref (CN.ad c)) :
  ∃lk H',Inv X DJ σ H' s/\Same H H'/\H' a=some (.ext (excP a c lk))/\∀r,rowOf c=some r->∃d,lk=some d/\H' d=some (.ext (Row d (r:Int)))/\H d=none:=by
 obtain⟨o,vs,v,e1,hdt,_,_,y⟩:=kp
 have eo:oe=o:=Ba (he.symm.trans e1)
 subst eo
 cases er:rowOf c with
 | none =>
  refine⟨none,_,Inv.trackNew (o:=.ext (excP a c none)) L1 n1 K n2 hex ⟨⟨oe,he,hc,fun d z=>nomatch z⟩,⟨oe,he⟩,fun h1 h2 ⟨o,q1,q2⟩ kk=>⟨o,kk o q1,q2⟩⟩,Same.new n2,zO,fun r z=>nomatch z⟩
 | some r =>
  obtain⟨d,z1,z2,z3,z4⟩:=y r er
  have z2':=z2
  obtain⟨_,od,_,_,zd,_⟩:=z2'
  have da:a≠d:=fun q=>by subst q;rw[nB] at zd;cases zd
  have K2:Inv X DJ σ (upd H d (.ext (Row d (r:Int)))) s:=Inv.trackNew L1 z4 K z3 hex (yU5 (z2.keeps fun o q=>st _ _ q))
  have n3:upd H d (.ext (Row d (r:Int))) a=none:=by rw[zM da];exact n2
  refine⟨some d,_,Inv.trackNew (o:=.ext (excP a c (some d))) L1 n1 K2 n3 hex ⟨⟨oe,he,hc,fun d' z=>by cases z;exact⟨z1,_,hdt⟩⟩,⟨oe,he⟩,fun h1 h2 ⟨o,q1,q2⟩ kk=>⟨o,kk o q1,q2⟩⟩,(Same.new z3).trans (Same.new n3),zO,fun r' z => ?_⟩
  cases z
  exact⟨d,rfl,by rw[zM (AX da)];exact zO,z3⟩
abbrev inTry(X:Cx)(pn:List (Addr×Obj))(xe:Value->Shared->Prop):Cx:={ X with pn:=pn,xe:=xe }
abbrev inSuite(X:Cx)(e:Value):Cx:={ X with A:=X.A.mark (some e),calm:=false,xe:=fun _ _=>False }
theorem Inv.toTry{X:Cx}{DJ:List (Addr×Obj)}{σ:St}{H:Hp}{s:Shared}(I:Inv X DJ σ H s)(xe:Value->Shared->Prop):Inv (inTry X (X.pn++DJ) xe) [] σ H s :=
 ⟨⟨I.ok.mod,I.ok.kind,I.ok.glob,I.ok.blt,I.ok.above,I.ok.inj,I.ok.has,I.ok.cab,I.ok.hd,I.ok.frames,I.ok.stk,I.ok.exf,I.ok.bs,I.ok.bsz,I.ok.noex,I.ok.exfs,I.ok.funs,I.ok.frf⟩,I.os,I.bare,I.base,I.loc,I.cell,I.free,I.freeC,fun p hp=>I.pin p (by simpa using hp),I.hok,I.len⟩
theorem Inv.ofTry{X:Cx}{DJ pins':List (Addr×Obj)}{σ:St}{H:Hp}{s:Shared}{xe:Value->Shared->Prop}(I:Inv (inTry X (X.pn++DJ) xe) pins' σ H s):Inv X DJ σ H s :=
 ⟨⟨I.ok.mod,I.ok.kind,I.ok.glob,I.ok.blt,I.ok.above,I.ok.inj,I.ok.has,I.ok.cab,I.ok.hd,I.ok.frames,I.ok.stk,I.ok.exf,I.ok.bs,I.ok.bsz,I.ok.noex,I.ok.exfs,I.ok.funs,I.ok.frf⟩,I.os,I.bare,I.base,I.loc,I.cell,I.free,I.freeC,fun p hp=>I.pin p (AW _ hp),I.hok,I.len⟩
theorem Inv.toSuite{X:Cx}{DJ:List (Addr×Obj)}{σ:St}{H:Hp}{s:Shared}(I:Inv X DJ σ H s)(e:Value):Inv (inSuite X e) DJ σ H s :=
 ⟨⟨I.ok.mod,I.ok.kind,I.ok.glob,I.ok.blt,I.ok.above,I.ok.inj,I.ok.has,I.ok.cab,(fun z=>nomatch z),I.ok.frames,I.ok.stk,I.ok.exf,I.ok.bs,I.ok.bsz,I.ok.noex,I.ok.exfs,I.ok.funs,I.ok.frf⟩,I.os,I.bare,I.base,I.loc,I.cell,I.free,I.freeC,I.pin,I.hok,I.len⟩
theorem Inv.ofSuite{X:Cx}{DJ:List (Addr×Obj)}{σ:St}{H:Hp}{s:Shared}{e:Value}(ok:X.Ok)(I:Inv (inSuite X e) DJ σ H s):Inv X DJ σ H s :=
 ⟨ok,I.os,I.bare,I.base,I.loc,I.cell,I.free,I.freeC,I.pin,I.hok,I.len⟩
theorem SP.ofTry{X:Cx}{DJ pins':List (Addr×Obj)}{xe:Value->Shared->Prop}{D:Ends}{f:Flow}{s':Shared}(h:SP (inTry X (X.pn++DJ) xe) pins' D f s'):SP X DJ D f s':=by
 cases f with
 | next=>obtain⟨σ',H',I,q⟩:=h;exact⟨σ',H',Inv.ofTry I,q⟩
 | brk=>obtain⟨σ',H',I,q⟩:=h;exact⟨σ',H',Inv.ofTry I,q⟩
 | cont=>obtain⟨σ',H',I,q⟩:=h;exact⟨σ',H',Inv.ofTry I,q⟩
 | ret u=>obtain⟨v,σ',H',I,r,q⟩:=h;exact⟨v,σ',H',Inv.ofTry I,r,q⟩
theorem Rel.unset{Oc:Wd}{Ob:Addr->Prop}{om ln:List Nat}{σ:St}{H:Hp}{ρ:Ev}(R:Rel Oc Ob om ln σ H ρ)(j:Nat):Rel Oc Ob om ln (σ.set j none) H (ρ.set j none):=by
 have st:∀i v,i≠j->σ[i]?=some v->(σ.set j none)[i]?=some v:=fun i v n e=>by rw[AG (AX n)];exact e
 refine⟨by rw[BY,BY];exact R.len,fun i d e h1 h2 => ?_,fun i d e h1 => ?_,fun i d e h1 h2 => ?_,fun i k di dk a ei ek hi hk qi qk => ?_,R.oh,R.ap⟩
 ·obtain⟨n,e⟩:=hR e
  obtain⟨v,q,r⟩:=R.val i d e h1 h2
  exact⟨v,st i _ n q,r⟩
 ·obtain⟨n,e⟩:=hR e
  obtain⟨v,q,r⟩:=R.own i d e h1
  exact⟨v,st i _ n q,r⟩
 ·obtain⟨n,e⟩:=hR e
  obtain⟨v,q,r⟩:=R.lnt i d e h1 h2
  exact⟨v,st i _ n q,r⟩
 ·obtain⟨n1,e1⟩:=hR ei
  obtain⟨n2,e2⟩:=hR ek
  rw[AG (AX n1)] at qi
  rw[AG (AX n2)] at qk
  exact R.inj i k di dk a e1 e2 hi hk qi qk
def unn(j:Nat):Out->Res Out
 | .nx ρ=>.ok (.nx (ρ.set j none))
 | .rt d=>.ok (.rt d)
theorem yN7{α:Type}{r:Res α}{Q:α->Prop}{E:Str->Prop}(h:(noEx r).post Q E):r.post Q (fun _=>False):=by
 cases r with
 | ok a=>exact h
 | ex c=>exact h.elim
 | no=>exact h
def isiX(cls sup:List Str):D->Option D
 | .none=>some (.bool false)
 | .dict [(.list [],.str c)]=>if cls.contains c then some (.bool (sup.contains c)) else none
 | _=>none
def IsK(K:KFr)(cls sup:List Str)(u:Value):Prop :=
 PySem.W.kitOne K (.type "NoneType") u=some false/\∀c,cls.contains c=true->ExK K (CN.ad c)/\PySem.W.kitOne K (.ref (CN.ad c)) u=some (sup.contains c)
def TyX(K:KFr)(H:Hp)(x:V)(t:Value):Prop :=
 (x=.non/\t=.type "NoneType")\/∃a c lk,x=.ref a/\H a=some (.ext (excP a c lk))/\t=.ref (CN.ad c)/\ExK K (CN.ad c)
theorem zK2{X:Cx}:CallR X (.builtin "isinstance") (fun vs H Q=>∃x c cv t b,vs=[x,c]/\clsV c=some cv/\TyX X.K H x t/\PySem.W.kitOne X.K t cv=some b/\Q (.bl b) H):=by
 intro DJ s σ H xs us Q I r h
 obtain⟨x,c,cv,t,b,rfl,ec,ty,k,q⟩:=h
 obtain⟨u,w',rfl,ru,rw'⟩:=vals2 r
 obtain rfl:=zG4 rw' ec
 rcases ty with ⟨rfl,rfl⟩ | ⟨a,c',lk',rfl,ha,rfl,ek⟩
 ·cases (show u=Value.none from ru)
  exact Bm PySem.W.kitx_none I.kIn True.intro k (fun z=>nomatch z) fun tk=>⟨.bl b,H,I.tok tk,rfl,q⟩
 ·cases ru
  obtain⟨p,_⟩:=I.hok a _ ha
  exact Bm (zC5 ek) I.kIn (let ⟨o,h1,h2,_⟩:=p; ⟨o,h1,h2⟩) k (fun z=>nomatch z) fun tk=>⟨.bl b,H,I.tok tk,rfl,q⟩
theorem yN2{X:Cx}:CallR X (.builtin "isinstance") (fun vs H Q=>∃x a xs t b,vs=[x,.ref a]/\H a=some (.tup xs)/\TyX X.K H x t/\(∀us,Vals xs us->PySem.W.kitAny X.K t us=some b)/\Q (.bl b) H):=by
 intro DJ s σ H xs us Q I r h
 obtain⟨x,a,ys,t,b,rfl,ha,ty,k,q⟩:=h
 obtain⟨u,w',rfl,ru,rw'⟩:=vals2 r
 cases rw'
 obtain⟨_,its,ri,o,e1,e2,⟨n,e3⟩,_⟩:=I.hok a _ ha
 obtain⟨oc,od,odt,osl⟩:=o
 simp only at e2 e3
 subst e2 e3
 rcases ty with ⟨rfl,rfl⟩ | ⟨a',c',lk',rfl,ha',rfl,ek⟩
 ·cases (show u=Value.none from ru)
  exact PySem.W.kia_tup PySem.W.kitx_none I.kIn True.intro e1 (k its ri) (fun z=>nomatch z) fun tk=>⟨.bl b,H,I.tok tk,rfl,q⟩
 ·cases ru
  obtain⟨p,_⟩:=I.hok a' _ ha'
  exact PySem.W.kia_tup (zC5 ek) I.kIn (let ⟨o,h1,h2,_⟩:=p; ⟨o,h1,h2⟩) e1 (k its ri) (fun z=>nomatch z) fun tk=>⟨.bl b,H,I.tok tk,rfl,q⟩
theorem zH2{K:KFr}{cls sup:List Str}{Oc:Wd}{Ob:Addr->Prop}{H:Hp}{v:V}{d r:D}(h:VA Oc Ob H v d)(e:isiX cls sup d=some r)(hk:∀c,cls.contains c=true->ExK K (CN.ad c)) :
  ∃t,TyX K H v t/\((t=.type "NoneType"/\r=.bool false)\/∃c,cls.contains c=true/\t=.ref (CN.ad c)/\r=.bool (sup.contains c)):=by
 rcases h with h | ⟨a,ys,ds,rfl,rfl,e3,e5⟩
 ·cases h with
  | non=>cases e;exact⟨_,.inl ⟨rfl,rfl⟩,.inl ⟨rfl,rfl⟩⟩
  | @exc a c lk q w n =>
   unfold isiX at e
   by_cases hc:cls.contains c=true
   ·simp only[hc,if_true] at e
    cases e
    exact⟨_,.inr ⟨a,c,lk,rfl,q,rfl,hk c hc⟩,.inr ⟨c,hc,rfl,rfl⟩⟩
   ·simp only[hc] at e
    cases e
  | _=>cases e
 ·cases e
section
variable {C:Ct}{e:Expr}{x:Str}{p p2 p3 pos:Pos}{md:Md}{me:Ev->Res D}
theorem aI(cls sup:List Str)(hk:IsK C.X.K cls sup (.ref (CN.ad x)))(hm:C.X.mg "isinstance" = none)(hx:C.X.mg x=some (.ref (CN.ad x)))(he:RE C md e me)(hg:autoParam (Gl C.X "isinstance") DI)(hgx:autoParam (Gl C.X x) DI)(hdb:autoParam ((x == ("__debug__":Str))=false) DH)
  (hs1:autoParam (starEach [e,.Name x p2] C.X.env=(false,eval e C.X.env)::starEach [.Name x p2] C.X.env) DI) (hs2:autoParam (starEach [.Name x p2] C.X.env=(false,eval (.Name x p2) C.X.env)::starEach [] C.X.env) DI) (hpl:autoParam ((backTo pos (starEach [.Name x p2] C.X.env)).any (·.1)=false) DI) :
  RE C .cl (.Call (.Name "isinstance" p) [e,.Name x p2] [] pos) (e1 (isiX cls sup) me):=by
 obtain⟨t,pe,q⟩:=he
 refine⟨_,vL zK2 hg hm BZ (zP pe (zP (zO4 (v:=.ref (CN.ad x)) hgx hx rfl hdb) zA hs2) hs1) (by decide) (by decide) hs1 hpl,fun Oc Ob σ H ρ Q R h=>q Oc Ob σ H ρ _ R (Res.zT (Res.zU h) (fun d _ kk v H' s r => ?_) fun _ z=>z)⟩
 obtain⟨dd,ed,kk⟩:=Res.yV kk
 obtain⟨tt,ty,hh⟩:=zH2 (r.va R.oh) ed fun c hc=>(hk.2 c hc).1
 rcases hh with ⟨rfl,rfl⟩ | ⟨c,hc,rfl,rfl⟩
 ·exact⟨v,.ref (CN.ad x),.ref (CN.ad x),_,_,rfl,rfl,ty,hk.1,kk _ H' s (Rep.bl _)⟩
 ·exact⟨v,.ref (CN.ad x),.ref (CN.ad x),_,_,rfl,rfl,ty,(hk.2 c hc).2,kk _ H' s (Rep.bl _)⟩
theorem yD5{T:String}(cls sup:List Str)(hk:IsK C.X.K cls sup (.type T))(hm:C.X.mg "isinstance" = none)(hx:C.X.mg x=none)(hv:bootBuiltins x=some (.type T))(he:RE C md e me)(hg:autoParam (Gl C.X "isinstance") DI)(hgx:autoParam (Gl C.X x) DI)(hn:autoParam (x ≠ "__name__") DH)(hdb:autoParam ((x == ("__debug__":Str))=false) DH)
  (hs1:autoParam (starEach [e,.Name x p2] C.X.env=(false,eval e C.X.env)::starEach [.Name x p2] C.X.env) DI) (hs2:autoParam (starEach [.Name x p2] C.X.env=(false,eval (.Name x p2) C.X.env)::starEach [] C.X.env) DI) (hpl:autoParam ((backTo pos (starEach [.Name x p2] C.X.env)).any (·.1)=false) DI) :
  RE C .cl (.Call (.Name "isinstance" p) [e,.Name x p2] [] pos) (e1 (isiX cls sup) me):=by
 obtain⟨t,pe,q⟩:=he
 refine⟨_,vL zK2 hg hm BZ (zP pe (zP (yW7 (v:=.ty T) hgx hx hv rfl hn hdb) zA hs2) hs1) (by decide) (by decide) hs1 hpl,fun Oc Ob σ H ρ Q R h=>q Oc Ob σ H ρ _ R (Res.zT (Res.zU h) (fun d _ kk v H' s r => ?_) fun _ z=>z)⟩
 obtain⟨dd,ed,kk⟩:=Res.yV kk
 obtain⟨tt,ty,hh⟩:=zH2 (r.va R.oh) ed fun c hc=>(hk.2 c hc).1
 rcases hh with ⟨rfl,rfl⟩ | ⟨c,hc,rfl,rfl⟩
 ·exact⟨v,.ty T,.type T,_,_,rfl,rfl,ty,hk.1,kk _ H' s (Rep.bl _)⟩
 ·exact⟨v,.ty T,.type T,_,_,rfl,rfl,ty,(hk.2 c hc).2,kk _ H' s (Rep.bl _)⟩
end
def RN(X:Cx)(es:List Expr)(xs:List Str):Prop:=PA X es (fun σ H Q=>Q (xs.map fun x=>V.ref (CN.ad x)) H)
theorem xL3{X:Cx}:RN X [] []:=zA
theorem aG{X:Cx}{x:Str}{xs:List Str}{es:List Expr}{pos:Pos}(hm:X.mg x=some (.ref (CN.ad x)))(h:RN X es xs)(hg:autoParam (Gl X x) DI)(hdb:autoParam ((x == ("__debug__":Str))=false) DH)
  (hs:autoParam (starEach (.Name x pos::es) X.env=(false,eval (.Name x pos) X.env)::starEach es X.env) DI):RN X (.Name x pos::es) (x::xs) :=
 zP (zO4 (v:=.ref (CN.ad x)) hg hm rfl hdb) h hs
theorem zK4:∀{as:List Addr}{us:List Value},Vals (as.map V.ref) us->us=as.map Value.ref
 | [],_,h=>by cases h;rfl
 | a::as,_,h=>by
  cases h with
  | cons r t=>cases r;rw[zK4 t];rfl
theorem yX7{K:KFr}{t:Value}{c:Str}:∀{xs:List Str},(∀x∈xs,PySem.W.kitOne K t (.ref (CN.ad x))=some ([x].contains c))->PySem.W.kitAny K t (xs.map fun x=>Value.ref (CN.ad x))=some (xs.contains c)
 | [],_=>rfl
 | x::xs,h=>by
  have h1:=h x Ae
  have ih:=yX7 (xs:=xs) fun y hy=>h y (Ai _ hy)
  have g:(x::xs).contains c=((c == x) || xs.contains c):=BR
  have g1:[x].contains c=(c == x):=by rw[BR];cases (c == x) <;> rfl
  rw[g1] at h1
  rw[AI,PySem.W.kitAny,h1,g]
  cases e:(c == x) with
  | true=>rfl
  | false=>exact ih
theorem zG8{K:KFr}{t:Value}:∀{xs:List Str},(∀x∈xs,PySem.W.kitOne K t (.ref (CN.ad x))=some false)->PySem.W.kitAny K t (xs.map fun x=>Value.ref (CN.ad x))=some false
 | [],_=>rfl
 | x::xs,h=>by
  rw[AI,PySem.W.kitAny,h x Ae]
  exact zG8 fun y hy=>h y (Ai _ hy)
theorem yD1{C:Ct}{e:Expr}{es:List Expr}{k1}{p p3 pos:Pos}{md:Md}{me:Ev->Res D}(cls xs:List Str)(hk:∀x∈xs,IsK C.X.K cls [x] (.ref (CN.ad x)))(hm:C.X.mg "isinstance" = none)(hx:RN C.X es xs)(he:RE C md e me)(hl:autoParam (xs.length<=1000) DH)(hne:autoParam (xs ≠ []) DH)(hg:autoParam (Gl C.X "isinstance") DI)
  (hs1:autoParam (starEach [e,.Tuple es k1 p3] C.X.env=(false,eval e C.X.env)::starEach [.Tuple es k1 p3] C.X.env) DI) (hs2:autoParam (starEach [.Tuple es k1 p3] C.X.env=(false,eval (.Tuple es k1 p3) C.X.env)::starEach [] C.X.env) DI) (hpl:autoParam ((backTo pos (starEach [.Tuple es k1 p3] C.X.env)).any (·.1)=false) DI) :
  RE C .cl (.Call (.Name "isinstance" p) [e,.Tuple es k1 p3] [] pos) (e1 (isiX cls xs) me):=by
 obtain⟨t,pe,q⟩:=he
 refine⟨_,vL yN2 hg hm BZ (zP pe (zP (gX hx) zA hs2) hs1) (by decide) (by decide) hs1 hpl,fun Oc Ob σ H ρ Q R h=>q Oc Ob σ H ρ _ R (Res.zT (Res.zU h) (fun d _ kk v H' s r => ?_) fun _ z=>z)⟩
 obtain⟨dd,ed,kk⟩:=Res.yV kk
 obtain⟨x0,hx0⟩:=List.exists_mem_of_ne_nil xs hne
 obtain⟨tt,ty,hh⟩:=zH2 (r.va R.oh) ed fun c hc=>((hk x0 hx0).2 c hc).1
 refine⟨by rw[Ac];exact AJ hl (by decide),fun a ha => ?_⟩
 have ty2:TyX C.X.K (upd H' a (.tup (xs.map fun x=>V.ref (CN.ad x)))) v tt:=by
  rcases ty with ty | ⟨b,c,lk,e1,e2,e3,e4⟩
  ·exact .inl ty
  ·exact .inr ⟨b,c,lk,e1,Same.new ha _ _ e2,e3,e4⟩
 have ev:∀us,Vals (xs.map fun x=>V.ref (CN.ad x)) us->us=xs.map fun x=>Value.ref (CN.ad x):=fun us hv=>by
  have:=zK4 (as:=xs.map CN.ad) (us:=us) (by rw[Bd];exact hv)
  rw[this,Bd];rfl
 rcases hh with ⟨rfl,rfl⟩ | ⟨c,hc,rfl,rfl⟩
 ·exact⟨v,a,_,_,_,rfl,zO,ty2,fun us hv=>by rw[ev us hv];exact zG8 fun x hx=>(hk x hx).1,kk _ _ (s.trans (Same.new ha)) (Rep.bl _)⟩
 ·exact⟨v,a,_,_,_,rfl,zO,ty2,fun us hv=>by rw[ev us hv];exact yX7 fun x hx=>((hk x hx).2 c hc).2,kk _ _ (s.trans (Same.new ha)) (Rep.bl _)⟩
omit [CN] in
theorem wC(c:Str)(m:Ev->Res (List D))(ρ:Ev):sRa c m ρ=(m ρ).bind fun ds=>if ds.length<=sizeLine then .ex c else .no:=rfl
omit [CN] in
theorem jQ(cls sup:List Str)(c:Str):isiX cls sup (excD c)=if cls.contains c then some (.bool (sup.contains c)) else none:=rfl
theorem yA4{K:KFr}{cls:List Str}{u:Value}(h:∀c∈cls,PySem.W.kitCls K (.ref (CN.ad c)) u=some true):∀c,cls.contains c=true->PySem.W.kitCls K (.ref (CN.ad c)) u=some true :=
 fun c hc=>h c (AT.mp hc)
theorem xN7{K:KFr}{cls sup:List Str}{u:Value}(h0:PySem.W.kitOne K (.type "NoneType") u=some false)(h:∀c∈cls,ExK K (CN.ad c)/\PySem.W.kitOne K (.ref (CN.ad c)) u=some (sup.contains c)):IsK K cls sup u :=
 ⟨h0,fun c hc=>h c (AT.mp hc)⟩
end L2.L3
namespace L2.L3
open PySem PySem.Spec PyProof.Rows
theorem fS{K:KFr}{t c:Value}{v:Bool}(h:PySem.W.kitOne K t c=some v)(n:(t == c)=false):PySem.W.kitCls K t c=some v:=by
 rw[PySem.W.kitOne,Ax (by rw[n];decide)] at h
 exact h
theorem aF{K:KFr}{A:Addr}{T:String}{v:Bool}(h:PySem.W.kitOne K (.ref A) (.type T)=some v):PySem.W.subIn K (.ref A) (.type T)=some v:=by
 have h2:=fS h rfl
 rw[PySem.W.kitCls] at h2
 split at h2
 ·exact h2
 ·cases h2
def cnOf(K:KFr):CN:=⟨fun x=>match PySem.W.nsIn K mainGlobals (if (rowOf x).isSome then "BadText" else x) with | some (some (.ref a))=>a | _=>0⟩
theorem cL{K:KFr}{x:Str}{a:Addr}(h:PySem.W.nsIn K mainGlobals x=some (some (.ref a)))(hr:autoParam (rowOf x=none) autoK14._auto_1):(cnOf K).ad x=a:=by
 show (match PySem.W.nsIn K mainGlobals (if (rowOf x).isSome then "BadText" else x) with | some (some (.ref a))=>a | _=>0)=a
 rw[hr]
 show (match PySem.W.nsIn K mainGlobals x with | some (some (.ref a))=>a | _=>0)=a
 rw[h]
theorem cX:∀n,n<16->rowOf (rowName n)=some n:=by decide +kernel
theorem yN1:rowOf "BadText" = none:=by decide +kernel
theorem yO8{K:KFr}{n:Nat}(h:n<16):(cnOf K).ad (rowName n)=(cnOf K).ad "BadText":=by
 show (match PySem.W.nsIn K mainGlobals (if (rowOf (rowName n)).isSome then "BadText" else rowName n) with | some (some (.ref a))=>a | _=>0)=(match PySem.W.nsIn K mainGlobals (if (rowOf "BadText").isSome then "BadText" else "BadText") with | some (some (.ref a))=>a | _=>0)
 rw[cX n h,yN1]
 rfl
theorem yN6{F:List D->Res D}{k:Nat}{l:PySem.W.OpenLaw}{q:Program}{loose:List Str}{XP:(Str->Option Value)->Heap->Prop}{YP:World->Heap->Prop}{d:DefRec}{K:Params->KFr}(hT:∀ns:List Int,ns.length<=63->F [.list (ns.map PyData.int)]=.ok (.bool true))(hr:Room k callerA)(hn:l.most=some 63)(hdf:d.params.defaults=[])
  (hY:∀(w:World) (h:Heap),YP w h->(K w.params).In h) (hL:∀w:World,noLst (K w.params)=true)
  (hF:∀(w:World) (mg:Str->Option Value) (fa:Addr) (h:Heap),(K w.params).In h->h.Ns mainGlobals mg->mg d.name=some (.ref fa) ->
   ∃fd:FuncData,(∀(s:Shared) (u:Value),BindsTo s fd ⟨[u],[]⟩ [("script",u)])/\∀base:Heap,(K w.params).In base->base.Ns mainGlobals mg->FnOk l.prog w (K w.params) mg base (@CXV (cnOf (K w.params)) l.prog w) k fa fd ["script"] (@spX (cnOf (K w.params)) false F)) :
  PySem.W.WalkO q loose XP YP l.row.toRowW d [] (fun f vs=>PySem.call f vs):=by
 refine L2.xV8 (n:=63) (k:=k) (x:="script") (CX:=fun w=>@CXV (cnOf (K w.params)) l.prog w) (sp:=fun w=>@spX (cnOf (K w.params)) false F) hn (by decide) hdf hr hY hF (fun w H a ns hl hO hS => ?_) fun w H s e s' z => ?_
 ·letI:=cnOf (K w.params)
  refine⟨[.list (ns.map PyData.int)],fun _=>False,fun a z=>z.elim,.cons (.lst (xK9 (hL w) hS) (fun z=>z) (cB ns)) .nil,?_⟩
  rw[hT ns hl]
  intro v H' _ r
  cases (show Rep H' (fun _=>False) v (.bool true) from r)
  rfl
 ·obtain⟨_,_,_,_,_,_,_,_,_,_,_,_,_,_,z⟩:=z
  exact z
end L2.L3
namespace MR
theorem pigeon:∀(n:Nat) (f:Nat->Nat),(∀i,i<=n->f i<n)->∃i j,i<j/\j<=n/\f i=f j
 | 0,f,h=>absurd (h 0 (Al _)) (by rfl')
 | n+1,f,h=>by
  by_cases c:∃i,i<=n/\f i=f (n+1)
  ·obtain⟨i,hi,e⟩:=c
   exact⟨i,n+1,by rfl',Al _,e⟩
  ·have ne:∀i,i<=n->f i≠f (n+1):=fun i hi e=>c ⟨i,hi,e⟩
   obtain⟨i,j,h1,h2,e⟩:=pigeon n (fun i=>if f (n+1)<f i then f i-1 else f i) fun i hi=>by
    have a:=h i (by rfl')
    have b:=h (n+1) (Al _)
    have d:=ne i hi
    show (if f (n+1)<f i then f i-1 else f i)<n
    split <;> rfl'
   refine⟨i,j,h1,by rfl',?_⟩
   have di:=ne i (by rfl')
   have dj:=ne j h2
   have e:(if f (n+1)<f i then f i-1 else f i)=(if f (n+1)<f j then f j-1 else f j):=e
   split at e <;> split at e <;> rfl'
structure Ord(n:Nat)(xs:List Int):Prop where
 len:xs.length=n
 bd:∀i,i<n->0<=xs.getD i 0/\xs.getD i 0<n
 inj:∀i j,i<n->j<n->xs.getD i 0=xs.getD j 0->i=j
def nxt(xs:List Int)(b:Nat):Nat:=(xs.getD b 0).toNat
def it(xs:List Int):Nat->Nat->Nat
 | 0,b=>b
 | k+1,b=>nxt xs (it xs k b)
section
variable {n:Nat}{xs:List Int}
theorem Ord.xN8(o:Ord n xs){b:Nat}(h:b<n):nxt xs b<n:=by
 have:=o.bd b h
 unfold nxt;rfl'
theorem Ord.yY9(o:Ord n xs){b:Nat}(h:b<n):xs.getD b 0=(nxt xs b:Int):=by
 have:=o.bd b h
 unfold nxt;rfl'
theorem Ord.xV5(o:Ord n xs){b c:Nat}(h:b<n)(h':c<n)(e:nxt xs b=nxt xs c):b=c :=
 o.inj b c h h' (by rw[o.yY9 h,o.yY9 h',e])
theorem Ord.cP(o:Ord n xs){b:Nat}(h:b<n):∀k,it xs k b<n
 | 0=>h
 | k+1=>o.xN8 (o.cP h k)
theorem zG9(xs:List Int)(b:Nat)(j:Nat):∀k,it xs (k+j) b=it xs k (it xs j b)
 | 0=>by rw[Nat.zero_add];rfl
 | k+1=>by rw[Nat.add_right_comm];show nxt xs (it xs (k+j) b)=nxt xs (it xs k (it xs j b));rw[zG9 xs b j k]
theorem Ord.zG7(o:Ord n xs){b c:Nat}(h:b<n)(h':c<n):∀k,it xs k b=it xs k c->b=c
 | 0,e=>e
 | k+1,e=>o.zG7 h h' k (o.xV5 (o.cP h k) (o.cP h' k) e)
theorem Ord.back(o:Ord n xs){b:Nat}(h:b<n):∃p,1<=p/\p<=n/\it xs p b=b:=by
 obtain⟨i,j,h1,h2,e⟩:=pigeon n (fun i=>it xs i b) fun i _=>o.cP h i
 refine⟨j-i,by rfl',by rfl',?_⟩
 have e2:it xs i (it xs (j-i) b)=it xs i b:=by
  rw[<-zG9,show i+(j-i)=j by rfl']
  exact e.symm
 exact o.zG7 (o.cP h _) h i e2
def perGo(xs:List Int)(b:Nat):Nat->Nat->Nat
 | 0,k=>k
 | fuel+1,k=>if it xs k b=b then k else perGo xs b fuel (k+1)
theorem zR1(xs:List Int)(b:Nat):∀(fuel k:Nat),(∃p,k<=p/\p<=k+fuel/\it xs p b=b) ->
  k<=perGo xs b fuel k/\perGo xs b fuel k<=k+fuel/\it xs (perGo xs b fuel k) b=b/\∀i,k<=i->i<perGo xs b fuel k->it xs i b≠b
 | 0,k,⟨p,h1,h2,e⟩=>by
  have:p=k:=by rfl'
  subst this
  exact⟨Al _,Al _,e,fun i a c=>absurd (show i<p from c) (by rfl')⟩
 | fuel+1,k,⟨p,h1,h2,e⟩=>by
  by_cases c:it xs k b=b
  ·rw[perGo,Ak c]
   exact⟨Al _,by rfl',c,fun i a d=>absurd d (by rfl')⟩
  ·rw[perGo,Ax c]
   have hp:k+1<=p:=by
    rcases Nat.lt_or_ge k p with q | q
    ·exact q
    ·have:p=k:=by rfl'
     subst this
     exact absurd e c
   obtain⟨a1,a2,a3,a4⟩:=zR1 xs b fuel (k+1) ⟨p,hp,by rfl',e⟩
   refine⟨by rfl',by rfl',a3,fun i hi hl => ?_⟩
   by_cases q:i=k
   ·rw[q];exact c
   ·exact a4 i (by rfl') hl
def per(n:Nat)(xs:List Int)(b:Nat):Nat:=perGo xs b (n-1) 1
theorem Ord.yH9(o:Ord n xs){b:Nat}(h:b<n):1<=per n xs b/\per n xs b<=n/\it xs (per n xs b) b=b/\∀i,1<=i->i<per n xs b->it xs i b≠b:=by
 obtain⟨p,h1,h2,e⟩:=o.back h
 obtain⟨a1,a2,a3,a4⟩:=zR1 xs b (n-1) 1 ⟨p,h1,by rfl',e⟩
 exact⟨a1,by unfold per;rfl',a3,a4⟩
theorem Ord.xH1(o:Ord n xs){b:Nat}(h:b<n){i j:Nat}(hij:i<j)(hj:j<per n xs b):it xs i b≠it xs j b:=fun e=>by
 obtain⟨_,_,_,a4⟩:=o.yH9 h
 refine a4 (j-i) (by rfl') (by rfl') ?_
 refine o.zG7 (o.cP h _) h i ?_
 rw[<-zG9,show i+(j-i)=j by rfl']
 exact e.symm
def In(n:Nat)(xs:List Int)(b c:Nat):Prop:=∃i,i<per n xs b/\it xs i b=c
theorem Ord.xI9(o:Ord n xs){b c:Nat}(h:b<n)(hc:In n xs b c):c<n:=by
 obtain⟨i,_,rfl⟩:=hc
 exact o.cP h i
def ring(n:Nat)(xs:List Int)(b:Nat):List Nat:=(List.range (per n xs b)).map fun i=>it xs i b
theorem yG2{b c:Nat}:c∈ring n xs b↔In n xs b c:=by
 unfold ring In
 simp only[AR,AD]
theorem Ord.yU7(o:Ord n xs){b:Nat}(h:b<n):(ring n xs b).Nodup:=by
 unfold ring List.Nodup
 rw[List.pairwise_map]
 refine List.Pairwise.imp_of_mem ?_ (List.pairwise_lt_range (n:=per n xs b))
 intro i j hi hj hlt
 exact o.xH1 h hlt (AD.mp hj)
def has(rs:List (List Nat))(b:Nat):Bool:=rs.any fun r=>r.contains b
structure Rgs(n:Nat)(xs:List Int)(m:Nat)(rs:List (List Nat)):Prop where
 each:∀r∈rs,∃b,b<m/\r=ring n xs b/\∀c,In n xs b c->b<=c
 cover:∀c,c<m->∃r∈rs,c∈r
 nodup:rs.flatten.Nodup
 rise:rs.Pairwise fun r r'=>∀x∈r.head?,∀y∈r'.head?,x<y
end
end MR
namespace L2.L3
open PySem PySem.Spec PyProof.Rows MR
variable [CN]
def pwD(m p:Int):Nat->Int
 | 0=>p
 | i+1=>pwD m p i / m
def Pot(a:Addr)(H H':Hp):Prop:=∀b o,H b=some o->b≠a->H' b=some o
theorem Pot.upd{a:Addr}{H:Hp}{o:HO}:Pot a H (upd H a o):=fun b u e n=>by rw[zM n];exact e
theorem Pot.trans{a:Addr}{H H1 H2:Hp}(h:Pot a H H1)(g:Pot a H1 H2):Pot a H H2:=fun b o e n=>g b o (h b o e n) n
theorem Pot.refl(a:Addr)(H:Hp):Pot a H H:=fun _ _ e _=>e
theorem Pot.new{a b:Addr}{H H1:Hp}{o:HO}(h:Pot a H H1)(hb:H1 b=none):Pot a H (L2.upd H1 b o):=fun c u e n=>by
 rw[zM (fun z=>by rw[z] at e;rw[z] at n;rw[h b u e n] at hb;cases hb)]
 exact h c u e n
def spTake:Sp:=fun vs H Q _=>∃(a:Addr) (p m:Int),vs=[.ref a,.int m]/\H a=some (.lst [.int p])/\DivOk m/\Q (.int (p%m)) (upd H a (.lst [.int (p / m)]))
def tTake(K:KFr):TS:=tSeq (tAsg (tOp (rI (fun _ j=>0<j) fun i j=>.int (i%j)) (tOp (rIxL K) (tVar 0) (tC (.int 0))) (tVar 1)) (gName 2)) (tSeq (tAsg (tOp (rI (fun _ j=>DivOk j) fun i j=>.int (i / j)) (tOp (rIxL K) (tVar 0) (tC (.int 0))) (tVar 1)) (gSub (tVar 0) (tC (.int 0)) rSetL)) (tRet (tVar 2)))
theorem yM7{K:KFr}{a:Addr}{p m:Int}{H:Hp}{E:Ends}(h:H a=some (.lst [.int p]))(hm:DivOk m)(k:E.rt (.int (p%m)) (upd H a (.lst [.int (p / m)]))):tTake K E [some (.ref a),some (.int m),none] H:=by
 refine⟨_,rfl,a,_,0,_,rfl,rfl,SqL.of h,rfl,_,rfl,_,_,rfl,rfl,hm.1,?_⟩
 refine⟨_,rfl,a,_,0,_,rfl,rfl,SqL.of h,rfl,_,rfl,_,_,rfl,rfl,hm,?_⟩
 exact⟨_,rfl,a,_,0,0,rfl,rfl,h,rfl,_,rfl,k⟩
section
variable {P:Program}{w:World}{K:KFr}{mg:Str->Option Value}{base:Heap}
theorem xY9{x:Str}{st:Stmt}{f:Addr}{fd:FuncData}{N ps:List Str}{k:Nat}(F:Fun K x x st f fd)(S:yX N ps (zR st))(hp:ps.length=2)(hN:N.length=3)
  (hbody:∀(cdv:Value) (A:Around) (outer:List Env) (s:Shared) (H:Hp) (E:XK),Room k (A.deeper (envOfC x (zR st) s.heap.objs.size f cdv))->PSs (cxOf CX0 P w K mg base N x (zR st) f cdv A outer s H E).nox (defBody st) (tTake K)) :
  FnOk P w K mg base CX0 (k+1) f fd ps spTake:=by
 refine F.ok S (fun vs H Q E ⟨a,p,m,e,_⟩=>by rw[e,hp];rfl) fun cdv A outer s H vs Q E hr h => ?_
 obtain⟨a,p,m,rfl,ha,hm,q⟩:=h
 refine⟨_,hbody cdv A outer s H E hr,?_⟩
 have st:start N [V.ref a,V.int m]=[some (.ref a),some (.int m),none]:=by
  unfold start
  rw[hN]
  rfl
 rw[st]
 exact yM7 ha hm q
end
def rTup(K:KFr):List V->Hp->VK->Prop:=fun xs H Q=>∃p ys,xs=[.ref p]/\((SqL K H p ys/\∀l,H l=none->Q (.ref l) (upd H l (.tup ys)))\/(SqT K H p ys/\Q (.ref p) H))
def rAdd:R2:=rI0 fun i j=>.int (i+j)
section
variable {P:Program}{w:World}{K:KFr}{mg:Str->Option Value}{base:Heap}
end
def rLnS(K:KFr):List V->Hp->VK->Prop:=fun xs H Q=>∃p ys,xs=[.ref p]/\(SqL K H p ys\/SqT K H p ys)/\Q (.int ys.length) H
section
variable {P:Program}{w:World}{K:KFr}{mg:Str->Option Value}{base:Heap}
end
theorem zA9(x:Int)(ns:List Int):inV (.int x) (ns.map V.int)=ns.contains x:=by
 unfold inV
 rw[List.any_map,List.contains_eq_any_beq]
 refine AZ (fun f=>ns.any f) (funext fun y => ?_)
 show eqV (.int y) (.int x)=(x == y)
 unfold eqV
 rw[Dx]
 simp
 exact eq_comm
theorem zM3(ns:List Int):(ns.map V.int).all flatV=true:=by
 rw[List.all_map]
 exact AS.mpr fun _ _=>rfl
def clN(n:Nat)(bs:List Int):List Int:=((List.range n).filter fun (i:Nat)=>!bs.contains (i:Int)).map fun (i:Nat)=>(i:Int)
theorem yP5:∀(xs l:List Int),xs.Nodup->(∀x∈xs,x∈l)->xs.length<=l.length
 | [],_,_,_=>AM _
 | x::xs,l,nd,h=>by
  have hx:=h x (Ae ..)
  have:=yP5 xs (l.erase x) (Cv.mp nd).2 fun y hy=>(List.mem_erase_of_ne (fun z:y=x=>(Cv.mp nd).1 (by rw[<-z];exact hy))).mpr (h y (Ai _ hy))
  rw[List.length_erase_of_mem hx] at this
  have:=List.length_pos_of_mem hx
  rw[Aq]
  rfl'
theorem xT6(n:Nat)(bs:List Int)(h:bs.length<n):0<(clN n bs).length:=by
 rcases DC (clN n bs).length with z | z
 ·exfalso
  have all:∀i,i<n->(i:Int)∈bs:=fun i hi=>by
   have e:=List.length_eq_zero_iff.mp z
   unfold clN at e
   rw[List.map_eq_nil_iff,List.filter_eq_nil_iff] at e
   have:=e i (AD.mpr hi)
   simpa using this
  have nd:((List.range n).map fun (i:Nat)=>(i:Int)).Nodup:=List.Pairwise.map (fun (i:Nat)=>(i:Int)) (fun a b h e=>h (Int.ofNat.inj e)) List.nodup_range
  have:=yP5 _ bs nd (fun x hx=>by
   obtain⟨i,hi,rfl⟩:=AR.mp hx
   exact all i (AD.mp hi))
  rw[Ac,AQ] at this
  rfl'
 ·exact z
def runG(g:Nat->Int->D×Int):Nat->Int->List D×Int
 | 0,p=>([],p)
 | k+1,p=>((runG g k p).1 ++ [(g k (runG g k p).2).1],(g k (runG g k p).2).2)
def rSub:R2:=rI0 fun i j=>.int (i-j)
def tAppV(K:KFr)(i:Nat)(t:TE):TS:=tDrop (tBM K "list" rAppend (tVar i) (zF t tNil))
theorem evI(x y:Int):V.bl (if false=true then !PyData.eqv (.int x) (.int y) else PyData.eqv (.int x) (.int y))=.bl (decide (x=y)):=by rw[Ax (by decide),zQ8]
theorem yN3{a b:Addr}{u:HO}{H H':Hp}(r:Rd H b u)(po:Pot a H H')(n:b≠a):Rd H' b u:=vF r fun o e=>po b o e n
theorem Pot.none{a b:Addr}{H H':Hp}(po:Pot a H H')(n:b≠a)(h:H' b=none):H b=none:=by
 cases e:H b with
 | none=>rfl
 | some o=>rw[po b o e n] at h;cases h
section
variable {P:Program}{w:World}{K:KFr}{mg:Str->Option Value}{base:Heap}
end
section
variable {P:Program}{w:World}{K:KFr}{mg:Str->Option Value}{base:Heap}{CX:CXT}{k:Nat}{f:Addr}{fd:FuncData}{ps:List Str}
theorem xJ6{sp:Sp}(F:FnOk P w K mg base CX0 k f fd ps sp):FnOk P w K mg base CX k f fd ps sp :=
 ⟨F.len,fun A outer s H args us vs Q E hr he hb hv hs=>codeAny_mono (F.run A outer s H args us vs Q E hr he hb hv hs) fun r s' h=>by
  cases r with
  | ok fl =>
   cases fl with
   | ret u=>exact h
   | _=>exact h
  | error e=>exact h.elim⟩
theorem xN3{F:List D->Res D}{fr:Bool}(no:∀ds c,F ds ≠ .ex c)(G:FnOk P w K mg base CX0 k f fd ps (spF fr F)):FnOk P w K mg base CX k f fd ps (spX fr F) :=
 (xJ6 G).imp fun vs H Q E h=>by
  obtain⟨ds,O,oh,r,q⟩:=h
  refine⟨ds,O,oh,r,?_⟩
  cases e:F ds with
  | ok d=>rw[e] at q;exact q
  | no=>rw[e] at q;exact q
  | ex c=>exact absurd e (no ds c)
end
def frB(n:Nat)(bs:List Int):Nat->Nat->Nat
 | 0,d=>d
 | k+1,d=>if bs.contains (d:Int) then frB n bs k ((d+1)%n) else d
theorem rnd(n d:Nat)(hd:d<n)(b:Nat)(hb:b<n):∃j,j<n/\(d+j)%n=b:=by
 by_cases h:d<=b
 ·exact⟨b-d,by rfl',by rw[show d+(b-d)=b by rfl',Dm hb]⟩
 ·exact⟨n-d+b,by rfl',by rw[show d+(n-d+b)=b+n by rfl',Nat.add_mod_right,Dm hb]⟩
theorem zX9(n:Nat)(bs:List Int):∀(k d:Nat),(∃j,j<k/\bs.contains (((d+j)%n:Nat):Int)=false)->d<n->bs.contains ((frB n bs k d:Nat):Int)=false/\frB n bs k d<n
 | 0,d,h,_=>by obtain⟨j,hj,_⟩:=h;rfl'
 | k+1,d,h,hd=>by
  rw[frB]
  by_cases c:bs.contains (d:Int)=true
  ·rw[Ak c]
   obtain⟨j,hj,e⟩:=h
   have n0:0<n:=by rfl'
   refine zX9 n bs k ((d+1)%n) ?_ (Dn _ n0)
   cases j with
   | zero =>
    rw[Cp,Dm hd,c] at e
    cases e
   | succ j =>
    refine⟨j,by rfl',?_⟩
    rw[Nat.mod_add_mod,show d+1+j=d+(j+1) by rfl']
    exact e
  ·rw[Ax c]
   exact⟨by simpa using c,hd⟩
theorem zH1{n:Nat}{bs:List Int}(h:bs.length<n)(d:Nat)(hd:d<n):∃j,j<n/\bs.contains (((d+j)%n:Nat):Int)=false:=by
 have cp:=xT6 n bs h
 obtain⟨x,this⟩:=List.exists_mem_of_length_pos cp
 unfold clN at this
 obtain⟨b,hb,_⟩:=AR.mp this
 obtain⟨h1,h2⟩:=BC.mp hb
 obtain⟨j,hj,e⟩:=rnd n d hd b (AD.mp h1)
 exact⟨j,hj,by rw[e];simpa using h2⟩
abbrev W2:=List (Nat×Nat)
abbrev wB(ws:W2):List Int:=ws.map fun z=>(z.1:Int)
abbrev wN(p:Nat)(ws:W2):List Int:=(p:Int)::ws.map fun z=>(z.2:Int)
def trH(n p:Nat):Nat->W2->Int->D×Int
 | 0,_,q=>(.none,q)
 | l+1,ws,q =>
  if q%((n:Int)+1)=(n:Int) then (.none,q / ((n:Int)+1))
  else (fun (b:Nat)=>(fun r:List D×Int=>(PyData.tuple [.int (b:Int),.tuple r.1],r.2))
   (runG (fun i q=>if (wN p ws).contains (i:Int) then (.none,q) else trH n p l (ws ++ [(b,i)]) q) n (q / ((n:Int)+1)))) (frB n (wB ws) n (q%((n:Int)+1)).toNat)
def nxH(n p l:Nat)(ws:W2)(b:Nat):Nat->Int->D×Int:=fun i q=>if (wN p ws).contains (i:Int) then (.none,q) else trH n p l (ws ++ [(b,i)]) q
theorem yW9{n p l:Nat}{ws:W2}{q:Int}(h:q%((n:Int)+1)=(n:Int)):trH n p (l+1) ws q=(.none,q / ((n:Int)+1)):=by rw[trH,Ak h]
theorem yL7{n p l b:Nat}{ws:W2}{q:Int}(h:¬q%((n:Int)+1)=(n:Int))(e:frB n (wB ws) n (q%((n:Int)+1)).toNat=b) :
  trH n p (l+1) ws q=(.tuple [.int (b:Int),.tuple (runG (nxH n p l ws b) n (q / ((n:Int)+1))).1],(runG (nxH n p l ws b) n (q / ((n:Int)+1))).2):=by
 subst e
 rw[trH,Ax h]
 rfl
inductive WV(H:Hp):List V->W2->Prop
 | nil:WV H [] []
 | cons {q:Addr}{b m:Nat}{vs:List V}{ws:W2}:Rd H q (.tup [.int (b:Int),.int (m:Int)])->WV H vs ws->WV H (.ref q::vs) ((b,m)::ws)
theorem WV.keep{H H':Hp}:∀{vs:List V}{ws:W2},WV H vs ws->(∀(q:Addr) (o:HO) (xs:List V),Rd H q (.tup xs)->H q=some o->H' q=some o)->WV H' vs ws
 | _,_,.nil,_=>.nil
 | _,_,.cons r t,k=>.cons (vF r fun o e=>k _ o _ r e) (t.keep k)
theorem WV.app{H:Hp}{q:Addr}{b m:Nat}:∀{vs:List V}{ws:W2},WV H vs ws->Rd H q (.tup [.int (b:Int),.int (m:Int)])->WV H (vs ++ [.ref q]) (ws ++ [(b,m)])
 | _,_,.nil,r=>.cons r .nil
 | _,_,.cons r t,r'=>.cons r (t.app r')
theorem WV.len{H:Hp}:∀{vs:List V}{ws:W2},WV H vs ws->vs.length=ws.length
 | _,_,.nil=>rfl
 | _,_,.cons _ t=>AZ (·+1) t.len
theorem WV.get{H:Hp}:∀{vs:List V}{ws:W2}{i:Nat}{x:V},WV H vs ws->vs[i]?=some x->∃q b m,x=.ref q/\ws[i]?=some (b,m)/\Rd H q (.tup [.int (b:Int),.int (m:Int)])
 | _,_,_,_,.nil,e=>by simp at e
 | _,_,0,_,.cons r _,e=>by simp at e;subst e;exact⟨_,_,_,rfl,rfl,r⟩
 | _,_,i+1,_,.cons _ t,e=>by
  obtain⟨q,b,m,h1,h2,h3⟩:=t.get (i:=i) (by simpa using e)
  exact⟨q,b,m,h1,by simpa using h2,h3⟩
theorem xI2{H:Hp}{a q:Addr}{xs ys:List V}(ha:H a=some (.lst xs))(r:Rd H q (.tup ys)):q≠a:=fun z=>by
 rw[z] at r
 rcases r with r | ⟨o,r⟩ <;> (rw[ha] at r;cases r)
theorem WV.pot{H H':Hp}{a:Addr}{xs:List V}{vs:List V}{ws:W2}(h:WV H vs ws)(ha:H a=some (.lst xs))(po:Pot a H H'):WV H' vs ws:=h.keep fun q o ys r e=>po q o e (xI2 ha r)
def spH(k:Nat):Sp:=fun vs H Q _=>∃(O:Addr->Prop) (a aw:Addr) (q:Int) (n p l:Nat) (ws:W2) (wv:List V),(∀x,O x->H x≠none)/\O a/\H a=some (.lst [.int q])/\vs=[.ref a,.int (p:Int),.int (n:Int),.ref aw,.int (l:Int)] /\
 Rd H aw (.lst wv)/\aw≠a/\WV H wv ws/\l<k/\0<n/\n<=100/\ws.length+l<=n /\
 ∀v H',Pot a H H'->H' a=some (.lst [.int (trH n p l ws q).2])->Rep H' O v (trH n p l ws q).1->Q v H'
def tHF(K:KFr)(sp:Sp):TS:=tFor (iRng1 (zF (tVar 2) tNil)) (gName 9) (tSeq (tAsg (tC .non) (gName 10)) (tSeq (tIfS (tTest (tOp (rIn K true) (tVar 9) (tVar 7)))
 (tAsg (tCall sp [] E0 (zF (tVar 0) (zF (tVar 1) (zF (tVar 2) (zF (tOp rCatR (tVar 3) (tLst (zF (tTup (zF (tVar 5) (zF (tVar 9) tNil))) tNil))) (zF (tOp rSub (tVar 4) (tC (.int 1))) tNil)))))) (gName 10)) tNext) (tAppV K 8 (tVar 10))))
def tHE(K:KFr):TS:=tRet (tTup (zF (tVar 5) (zF (tCB (rTup K) (zF (tVar 8) tNil)) tNil)))
def tHC(K:KFr)(j:Int):TE:=tComp (iList K (tVar 3)) (fun _ _ _ _=>tTrue) (fun _ _ _ _=>tOp (rIxT K) (tVar 0) (tC (.int j))) []
def tHN(K:KFr)(sp:Sp):TS:=tSeq (tAsg (tOp rCatR (tLst (zF (tVar 1) tNil)) (tHC K 1)) (gName 7)) (tSeq (tAsg (tLst tNil) (gName 8)) (tSeq (tHF K sp) (tHE K)))
def tHW(K:KFr):TS:=tWhile (tTest (tOp (rIn K false) (tVar 5) (tVar 6))) (tAsg (tOp (rI (fun _ j=>0<j) fun i j=>.int (i%j)) (tOp rAdd (tVar 5) (tC (.int 1))) (tVar 2)) (gName 5))
def tH(K:KFr)(sp:Sp):TS :=
 tSeq (tIfS (tTest (tOp (rEqD K false) (tVar 4) (tC (.int 0)))) (tRet (tC .non)) tNext)
 (tSeq (tAsg (tCall spTake [] E0 (zF (tVar 0) (zF (tOp rAdd (tVar 2) (tC (.int 1))) tNil))) (gName 5))
 (tSeq (tIfS (tTest (tOp (rEqD K false) (tVar 5) (tVar 2))) (tRet (tC .non)) tNext)
 (tSeq (tAsg (tHC K 0) (gName 6)) (tSeq (tHW K) (tHN K sp)))))
theorem seqA{te:TE}{g:TG}{u:TS}{D:Ends}{σ:St}{H:Hp}(h:te σ H fun x H1=>g x σ H1 (u D)):tSeq (tAsg te g) u D σ H:=h
theorem yW4{K:KFr}{σ:St}{H:Hp}{aw:Addr}{wv:List V}{ws:W2}{j:Int}{f:Nat×Nat->Nat}{Q:VK}(h3:σ[3]?=some (some (.ref aw)))(rw':Rd H aw (.lst wv))(W:WV H wv ws)(hl:ws.length<=900)(hf:∀z:Nat×Nat,atI [V.int (z.1:Int),.int (z.2:Int)] j=some (.int (f z:Int)))
  (k:∀p,H p=none->Q (.ref p) (upd H p (.lst ((ws.map fun z=>((f z:Nat):Int)).map V.int)))):tHC K j σ H Q:=by
 have lw:=W.len
 refine⟨_,h3,aw,rfl,⟨wv,.inl rw'⟩,fun C fp s₂ H₂ => ?_⟩
 refine yP1 (K:=K) (a:=aw) (xs:=wv) (tt:=tTrue) (te:=tOp (rIxT K) (tVar 0) (tC (.int j))) (js:=[]) (σ:=σ) (Q:=Q) (fun i acc H'=>H'=H/\acc=((ws.take i).map fun z=>((f z:Nat):Int)).map V.int) ⟨rfl,by simp⟩ (fun i acc H' _ h=>by rw[h.1];exact .inl rw') ?_ ?_
 ·rintro i x acc H' hx ⟨rfl,rfl⟩
  unfold tTrue
  simp only[if_true]
  obtain⟨q,b,m,rfl,e,r⟩:=W.get hx
  have hi:i<wv.length:=(Au.mp hx).1
  refine⟨_,rfl,q,_,j,_,rfl,rfl,.inl r,hf (b,m),by rw[Ac,Ac,Bn];exact small1000 (by rfl'),rfl,?_⟩
  rw[List.take_succ,e,Bh,Bh]
  rfl
 ·rintro acc H' ⟨rfl,rfl⟩ p hp
  rw[lw,Ck]
  exact k p hp
theorem xX4{K:KFr}{O:Addr->Prop}{H0 H:Hp}{a la:Addr}{v1 v2 v3 v4 v6 v7 v9 v10:Option V}{b q:Int}{vs:List V}{ds:List D}{E:Ends}(oh:∀x,O x->H0 x≠none)(po:Pot a H0 H)(ha:H a=some (.lst [.int q]))(fl:H0 la=none)(al:la≠a)(hl:H la=some (.lst vs))(rs:Reps H (fun x=>O x\/x=la) vs ds)
  (k:∀v H',Pot a H0 H'->H' a=some (.lst [.int q])->Rep H' O v (.tuple [.int b,.tuple ds])->E.rt v H'):tHE K E [some (.ref a),v1,v2,v3,v4,some (.int b),v6,v7,some (.ref la),v9,v10] H:=by
 refine⟨_,rfl,_,rfl,la,_,rfl,.inl ⟨SqL.of hl,fun t ht=>⟨by show 2<=sizeLine;decide,fun r hr => ?_⟩⟩⟩
 have ta:t≠a:=fun z=>by rw[z,ha] at ht;cases ht
 have tr:t≠r:=fun z=>by rw[<-z,zO] at hr;cases hr
 have hr1:H r=none:=by rw[zM (fun z=>tr z.symm)] at hr;exact hr
 have ra:r≠a:=fun z=>by rw[z,ha] at hr1;cases hr1
 have po1:=(po.new (o:=.tup vs) ht).new (o:=.tup [.int b,.ref t]) hr
 refine k _ _ po1 ?_ (.tup (.inl zO) (fun z=>oh r z (po.none ra hr1)) (.cons (.int b) (.cons (.tup (xs:=vs) (.inl ?_) (fun z=>oh t z (po.none ta ht)) ?_) .nil)))
 ·rw[zM (fun z=>ra z.symm),zM (fun z=>ta z.symm)]
  exact ha
 ·rw[zM tr]
  exact zO
 ·refine rs.keep (fun x o e _ => ?_) fun x _ z=>.inl z
  have xt:x≠t:=fun z=>by rw[z,ht] at e;cases e
  have xr:x≠r:=fun z=>by rw[z,hr1] at e;cases e
  rw[zM xr,zM xt]
  exact e
theorem xW6{K:KFr}{k n p l b:Nat}{ws:W2}{wv:List V}{q2:Int}{O:Addr->Prop}{H0:Hp}{a aw an la:Addr}{v6:Option V}{E:Ends}(oh:∀x,O x->H0 x≠none)(oa:O a){q0:Int}(ha0:H0 a=some (.lst [.int q0]))(rw':Rd H0 aw (.lst wv))(nw:aw≠a)(W:WV H0 wv ws)(fl:H0 la=none)(al:la≠a)(fan:H0 an=none)(nan:an≠a)(lan:la≠an)(hk:l<k)(n0:0<n)(hn:n<=100)(hb:ws.length+(l+1)<=n)
  (kk:∀v9 v10 vs H,Pot a H0 H->H a=some (.lst [.int (runG (nxH n p l ws b) n q2).2])->H la=some (.lst vs)->Reps H (fun x=>O x\/x=la) vs (runG (nxH n p l ws b) n q2).1 ->
   E.nx [some (.ref a),some (.int (p:Int)),some (.int (n:Int)),some (.ref aw),some (.int ((l+1:Nat):Int)),some (.int (b:Int)),v6,some (.ref an),some (.ref la),v9,v10] H)
  {H:Hp}(po:Pot a H0 H) (ha:H a=some (.lst [.int q2])) (hl:H la=some (.lst [])) (hn7:H an=some (.lst ((wN p ws).map V.int))) :
  tHF K (spH k) E [some (.ref a),some (.int (p:Int)),some (.int (n:Int)),some (.ref aw),some (.int ((l+1:Nat):Int)),some (.int (b:Int)),v6,some (.ref an),some (.ref la),none,none] H:=by
 refine⟨_,rfl,(n:Int),rfl,by rfl',by rfl',?_⟩
 rw[Bo]
 have keepL:∀{H':Hp}{o:HO},Pot a H0 H'->Pot a H0 (upd H' la o):=fun {H' o} h c u e n=>by
  rw[zM (fun z=>by rw[z,fl] at e;cases e)]
  exact h c u e n
 refine yP6 (fun i σ H=>∃v9 v10 vs,σ=[some (.ref a),some (.int (p:Int)),some (.int (n:Int)),some (.ref aw),some (.int ((l+1:Nat):Int)),some (.int (b:Int)),v6,some (.ref an),some (.ref la),v9,v10]/\Pot a H0 H/\H a=some (.lst [.int (runG (nxH n p l ws b) i q2).2])/\H la=some (.lst vs)/\H an=some (.lst ((wN p ws).map V.int))/\vs.length=i/\Reps H (fun x=>O x\/x=la) vs (runG (nxH n p l ws b) i q2).1) ⟨none,none,[],rfl,po,ha,hl,hn7,rfl,.nil⟩ ?_ ?_
 ·clear po ha hl hn7 H
  rintro i σ H hi ⟨v9,v10,vs,rfl,po,ha,hl,hn7,lv,rs⟩
  rw[Int.zero_add]
  have fin:∀{H':Hp}{v:V}{d:D}{q:Int},Pot a H0 H'->H' a=some (.lst [.int q])->H' la=some (.lst vs)->H' an=some (.lst ((wN p ws).map V.int))->Reps H' (fun x=>O x\/x=la) vs (runG (nxH n p l ws b) i q2).1->Rep H' (fun x=>O x\/x=la) v d->nxH n p l ws b i (runG (nxH n p l ws b) i q2).2=(d,q) ->
    ∃v9 v10 vs',[some (V.ref a),some (.int (p:Int)),some (.int (n:Int)),some (.ref aw),some (.int ((l+1:Nat):Int)),some (.int (b:Int)),v6,some (.ref an),some (.ref la),some (.int (i:Int)),some v]=[some (.ref a),some (.int (p:Int)),some (.int (n:Int)),some (.ref aw),some (.int ((l+1:Nat):Int)),some (.int (b:Int)),v6,some (.ref an),some (.ref la),v9,v10]/\Pot a H0 (upd H' la (.lst (vs ++ [v])))/\(upd H' la (.lst (vs ++ [v]))) a=some (.lst [.int (runG (nxH n p l ws b) (i+1) q2).2])/\(upd H' la (.lst (vs ++ [v]))) la=some (.lst vs')/\(upd H' la (.lst (vs ++ [v]))) an=some (.lst ((wN p ws).map V.int))/\vs'.length=i+1/\Reps (upd H' la (.lst (vs ++ [v]))) (fun x=>O x\/x=la) vs' (runG (nxH n p l ws b) (i+1) q2).1:=by
   intro H' v d q po' ha' hl' hn' rs' rv e
   have kp:∀c o,H' c=some o->¬(O c\/c=la)->(upd H' la (.lst (vs ++ [v]))) c=some o:=fun c o e n=>by rw[zM (fun z=>n (.inr z))];exact e
   refine⟨_,_,vs ++ [v],rfl,keepL po',?_,zO,by rw[zM (AX lan)];exact hn',by rw[Af,lv];rfl,?_⟩
   ·rw[zM (fun z=>al z.symm),ha',runG,e]
   ·rw[runG,e]
    exact (rs'.keep kp fun _ _ z=>z).append (.one (rv.keep kp fun _ _ z=>z))
  refine⟨_,rfl,_,rfl,an,_,rfl,.inl (SqL.of hn7),rfl,zM3 _,_,rfl,?_⟩
  rw[zA9]
  simp only[if_true]
  by_cases c:(wN p ws).contains (i:Int)=true
  ·rw[c]
   simp only[BK,AF,if_false]
   refine⟨_,rfl,.inl ⟨rfl,_,SqL.of hl⟩,_,rfl,la,vs,.non,rfl,rfl,hl,by rw[lv];exact small1000 (by rfl'),?_⟩
   exact fin po ha hl hn7 rs .non (by unfold nxH;rw[Ak c])
  ·rw[BS] at c
   rw[c]
   simp only[BA,if_true]
   refine⟨_,rfl,_,rfl,_,rfl,_,rfl,_,rfl,_,rfl,by show 2<=sizeLine;decide,fun t1 h1=>⟨by show 1<=sizeLine;decide,fun t2 h2 => ?_⟩⟩
   have S1:=Same.new (H:=H) (o:=.tup [.int (b:Int),.int (i:Int)]) h1
   have S2:=Same.new (o:=.lst [.ref t1]) h2
   have S12:=S1.trans S2
   have rwH:Rd H aw (.lst wv):=yN3 rw' po nw
   have WH:WV H wv ws:=W.pot ha0 po
   have lw:=WH.len
   refine⟨aw,t2,wv,[.ref t1],rfl,rfl,vF rwH fun o e=>S12 _ o e,.inl zO,by rw[lw];exact BU (small1000 (by show ws.length+1<=1000;rfl')),fun q1 h1'=>⟨_,rfl,_,_,rfl,rfl,?_⟩⟩
   have S3:=Same.new (o:=.lst (wv ++ [.ref t1])) h1'
   have S:=S12.trans S3
   have qa:q1≠a:=fun z=>by rw[z,S12 _ _ ha] at h1';cases h1'
   have W3:WV (upd (upd (upd H t1 (.tup [.int (b:Int),.int (i:Int)])) t2 (.lst [.ref t1])) q1 (.lst (wv ++ [.ref t1]))) (wv ++ [.ref t1]) (ws ++ [(b,i)]):=(WH.keep fun q o ys r e=>S q o e).app (.inl ((S2.trans S3) _ _ zO))
   refine⟨fun x=>O x\/x=la,a,q1,_,n,p,l,ws ++ [(b,i)],wv ++ [.ref t1],?_,.inl oa,S _ _ ha,?_,.inl zO,qa,W3,hk,n0,hn,by rw[Af];simp;rfl',fun v H' po' ha' rv => ?_⟩
   ·intro x hx
    rcases hx with hx | hx
    ·by_cases z:x=a
     ·rw[z,S _ _ ha];exact fun z=>nomatch z
     ·cases e:H0 x with
      | none=>exact absurd e (oh x hx)
      | some o=>rw[S _ _ (po x o e z)];exact fun z=>nomatch z
    ·rw[hx,S _ _ hl];exact fun z=>nomatch z
   ·show [V.ref a,V.int (p:Int),V.int (n:Int),V.ref q1,V.int (((l+1:Nat):Int)-1)]=_
    rw[show ((l+1:Nat):Int)-1=(l:Int) by rfl']
   ·have pH:Pot a H H':=fun c o e n=>po' c o (S c o e) n
    have kp:∀c o,H c=some o->¬(O c\/c=la)->H' c=some o:=fun c o e n=>pH c o e fun z=>n (.inl (by rw[z];exact oa))
    have hl':=pH la _ hl al
    refine⟨_,rfl,.inl ⟨rfl,_,SqL.of hl'⟩,_,rfl,la,vs,v,rfl,rfl,hl',by rw[lv];exact small1000 (by rfl'),?_⟩
    exact fin (po.trans pH) ha' hl' (pH an _ hn7 nan) (rs.keep kp fun _ _ z=>z) rv (by unfold nxH;rw[c,Ax Ap])
 ·rintro σ H ⟨v9,v10,vs,rfl,po,ha,hl,_,_,rs⟩
  exact kk v9 v10 vs H po ha hl rs
theorem xV2{K:KFr}{n:Nat}{bs:List Int}{H:Hp}{ab:Addr}{v0 v1 v3 v4:Option V}{E:Ends}(n0:0<n)(hn:n<=100)(hb:H ab=some (.lst (bs.map V.int))):∀(k d:Nat),d<n->(∃j,j<k/\bs.contains (((d+j)%n:Nat):Int)=false) ->
  E.nx [v0,v1,some (.int (n:Int)),v3,v4,some (.int ((frB n bs k d:Nat):Int)),some (.ref ab),none,none,none,none] H->tHW K E [v0,v1,some (.int (n:Int)),v3,v4,some (.int (d:Int)),some (.ref ab),none,none,none,none] H:=by
 intro k d hd hj kk
 refine⟨fun m σ H'=>∃d',d'<n/\(∃j,j<m/\bs.contains (((d'+j)%n:Nat):Int)=false)/\σ=[v0,v1,some (.int (n:Int)),v3,v4,some (.int ((d':Nat):Int)),some (.ref ab),none,none,none,none]/\H'=H/\frB n bs m d'=frB n bs k d,⟨k,d,hd,hj,rfl,rfl,rfl⟩,?_⟩
 clear hj
 rintro m σ H' ⟨d',hd',⟨j,hj,ej⟩,rfl,rfl,e⟩
 obtain⟨m,rfl⟩:∃m',m=m'+1:=⟨m-1,by rfl'⟩
 refine⟨_,rfl,_,rfl,ab,_,rfl,.inl (SqL.of hb),rfl,zM3 bs,_,rfl,?_⟩
 rw[zA9]
 simp only[AF,if_false]
 rw[frB] at e
 cases c:bs.contains (d':Int) with
 | true =>
  rw[Ak c] at e
  simp only[if_true]
  refine⟨fun σ' H''=>σ'=[v0,v1,some (.int (n:Int)),v3,v4,some (.int (((d'+1)%n:Nat):Int)),some (.ref ab),none,none,none,none]/\H''=H',fun σ' H'' h=>⟨m,by rfl',(d'+1)%n,Dn _ n0,?_,h.1,h.2,e⟩,?_⟩
  ·cases j with
   | zero =>
    rw[Cp,Dm hd',c] at ej
    cases ej
   | succ j =>
    refine⟨j,by rfl',?_⟩
    rw[Nat.mod_add_mod,show d'+1+j=d'+(j+1) by rfl']
    exact ej
  ·refine⟨_,rfl,_,_,rfl,rfl,_,rfl,_,_,rfl,rfl,by rfl',?_,rfl⟩
   show [v0,v1,some (V.int (n:Int)),v3,v4,some (.int (((d':Int)+1)%(n:Int))),some (.ref ab),none,none,none,none]=_
   rw[show ((d':Int)+1)%(n:Int)=(((d'+1)%n:Nat):Int) by rw[Int.natCast_emod];rfl]
 | false =>
  rw[Ax (by rw[c];exact Ap)] at e
  simp only[AF,if_false]
  rw[<-e] at kk
  exact kk
theorem yT8{K:KFr}{k n p l:Nat}{ws:W2}{wv:List V}{q:Int}{O:Addr->Prop}{H:Hp}{a aw:Addr}{E:Ends}(oh:∀x,O x->H x≠none)(oa:O a)(ha:H a=some (.lst [.int q]))(rw':Rd H aw (.lst wv))(nw:aw≠a)(W:WV H wv ws)(hk:l<k+1)(n0:0<n)(hn:n<=100)(hb:ws.length+l<=n)
  (kk:∀v H',Pot a H H'->H' a=some (.lst [.int (trH n p l ws q).2])->Rep H' O v (trH n p l ws q).1->E.rt v H') :
  tH K (spH k) E [some (.ref a),some (.int (p:Int)),some (.int (n:Int)),some (.ref aw),some (.int (l:Int)),none,none,none,none,none,none] H:=by
 refine⟨_,rfl,.int _,.int 0,.int _,.int _,rfl,rfl,_,evI _ _,?_⟩
 cases l with
 | zero =>
  rw[Aa (show ((0:Nat):Int)=0 from rfl)]
  simp only[if_true]
  exact kk _ _ (Pot.refl a H) ha .non
 | succ l =>
  rw[Ad (show ¬((l+1:Nat):Int)=0 by rfl')]
  simp only[AF,if_false]
  refine⟨_,rfl,_,rfl,_,_,rfl,rfl,a,q,_,rfl,ha,DivOk.small (by rfl') (by rfl'),?_⟩
  have q0:=Int.emod_nonneg q (show ((n:Int)+1)≠0 by rfl')
  have q1:=Int.emod_lt_of_pos q (show (0:Int)<(n:Int)+1 by rfl')
  refine⟨_,rfl,_,rfl,.int _,.int _,.int _,.int _,rfl,rfl,_,evI _ _,?_⟩
  by_cases c:q%((n:Int)+1)=(n:Int)
  ·rw[Aa c]
   simp only[if_true]
   rw[yW9 c] at kk
   exact kk _ _ Pot.upd zO .non
  ·rw[Ad c]
   simp only[AF,if_false]
   obtain⟨d,ed⟩:∃d:Nat,q%((n:Int)+1)=(d:Int):=⟨(q%((n:Int)+1)).toNat,by rfl'⟩
   have hd:d<n:=by rfl'
   have po1:Pot a H (upd H a (.lst [.int (q / ((n:Int)+1))])):=Pot.upd
   have ha1:(upd H a (.lst [.int (q / ((n:Int)+1))])) a=some (.lst [.int (q / ((n:Int)+1))]):=zO
   have e:=yL7 (p:=p) (l:=l) (ws:=ws) (b:=frB n (wB ws) n d) c (by rw[ed,Bo])
   rw[e] at kk
   rw[ed]
   clear e
   show tSeq (tAsg (tHC K 0) (gName 6)) (tSeq (tHW K) (tHN K (spH k))) E [some (.ref a),some (.int (p:Int)),some (.int (n:Int)),some (.ref aw),some (.int ((l+1:Nat):Int)),some (.int (d:Int)),none,none,none,none,none] (upd H a (.lst [.int (q / ((n:Int)+1))]))
   generalize hH1:upd H a (.lst [.int (q / ((n:Int)+1))])=H1 at po1 ha1 ⊢
   have rwH:=yN3 rw' po1 nw
   have WH:=W.pot ha po1
   have fre:=zH1 (n:=n) (bs:=wB ws) (by rw[Ac];rfl') d hd
   obtain⟨fr1,fr2⟩:=zX9 n (wB ws) n d fre hd
   generalize hbb:frB n (wB ws) n d=b at kk fr1 fr2
   refine seqA (yW4 (K:=K) (j:=0) (f:=fun z=>z.1) (ws:=ws) rfl rwH WH (by rfl') (fun z=>rfl) fun ab hab => ?_)
   have aba:ab≠a:=fun z=>by rw[z,ha1] at hab;cases hab
   have S2:=Same.new (H:=H1) (o:=.lst ((wB ws).map V.int)) hab
   show tHW K { E with nx:=tHN K (spH k) E } [some (.ref a),some (.int (p:Int)),some (.int (n:Int)),some (.ref aw),some (.int ((l+1:Nat):Int)),some (.int (d:Int)),some (.ref ab),none,none,none,none] (upd H1 ab (.lst ((wB ws).map V.int)))
   refine xV2 (K:=K) (n:=n) (bs:=wB ws) n0 hn zO n d hd fre ?_
   rw[hbb]
   show tHN K (spH k) E [some (.ref a),some (.int (p:Int)),some (.int (n:Int)),some (.ref aw),some (.int ((l+1:Nat):Int)),some (.int (b:Int)),some (.ref ab),none,none,none,none] (upd H1 ab (.lst ((wB ws).map V.int)))
   refine⟨_,rfl,by show 1<=sizeLine;decide,fun t1 h1 => ?_⟩
   have S3:=Same.new (o:=.lst [.int (p:Int)]) h1
   have S23:=S2.trans S3
   show tHC K 1 [some (.ref a),some (.int (p:Int)),some (.int (n:Int)),some (.ref aw),some (.int ((l+1:Nat):Int)),some (.int (b:Int)),some (.ref ab),none,none,none,none] (upd (upd H1 ab (.lst ((wB ws).map V.int))) t1 (.lst [.int (p:Int)])) _
   refine yW4 (K:=K) (j:=1) (f:=fun z=>z.2) (ws:=ws) rfl (vF rwH fun o e=>S23 _ o e) (WH.keep fun q o ys r e=>S23 q o e) (by rfl') (fun z=>rfl) fun t2 h2 => ?_
   have S4:=Same.new (o:=.lst ((ws.map fun z=>((z.2:Nat):Int)).map V.int)) h2
   refine⟨t1,t2,[.int (p:Int)],_,rfl,rfl,.inl (S4 _ _ zO),.inl zO,by rw[Ac,Ac];exact BU (small1000 (by show 1+ws.length<=1000;rfl')),fun an h3 => ?_⟩
   have S5:=Same.new (o:=.lst ([.int (p:Int)]++(ws.map fun z=>((z.2:Nat):Int)).map V.int)) h3
   refine⟨AM _,fun la h4 => ?_⟩
   have S6:=Same.new (o:=.lst []) h4
   have S:=((S23.trans S4).trans S5).trans S6
   have lan:la≠an:=fun z=>by rw[z,zO] at h4;cases h4
   have up:∀{b:Addr},H1 b=none->b≠a->H b=none:=fun {b} h n=>po1.none n h
   have n3:H1 an=none:=by
    cases e:H1 an with
    | none=>rfl
    | some o=>rw[(S23.trans S4) _ _ e] at h3;cases h3
   have n4:H1 la=none:=by
    cases e:H1 la with
    | none=>rfl
    | some o=>rw[((S23.trans S4).trans S5) _ _ e] at h4;cases h4
   have ana:an≠a:=fun z=>by rw[z,ha1] at n3;cases n3
   have laa:la≠a:=fun z=>by rw[z,ha1] at n4;cases n4
   show tHF K (spH k) { E with nx:=tHE K E } [some (.ref a),some (.int (p:Int)),some (.int (n:Int)),some (.ref aw),some (.int ((l+1:Nat):Int)),some (.int (b:Int)),some (.ref ab),some (.ref an),some (.ref la),none,none] _
   refine xW6 (K:=K) (E:={ E with nx:=tHE K E }) (k:=k) (n:=n) (p:=p) (l:=l) (b:=b) (ws:=ws) (wv:=wv) (q2:=q / ((n:Int)+1)) (H0:=H) oh oa ha rw' nw W (up n4 laa) laa (up n3 ana) ana lan (by rfl') n0 hn hb (fun v9 v10 vs H2 po2 ha2 hl2 rs2=>xX4 oh po2 ha2 (up n4 laa) laa hl2 rs2 kk) ?_ (S _ _ ha1) zO (S6 _ _ zO)
   exact fun c o ec nc=>S _ _ (po1 c o ec nc)
section
variable {P:Program}{w:World}{K:KFr}{mg:Str->Option Value}{base:Heap}
theorem yE9{k:Nat}{f:Addr}{fd:FuncData}{ps:List Str}:FnOk P w K mg base CX0 k f fd ps (spH 0) :=
 ⟨fun vs H Q E ⟨_,_,_,_,_,_,_,_,_,_,_,_,_,_,_,_,h,_⟩=>absurd h (Nat.not_lt_zero _),fun A outer s H args us vs Q E _ _ _ _ ⟨_,_,_,_,_,_,_,_,_,_,_,_,_,_,_,_,h,_⟩=>absurd h (Nat.not_lt_zero _)⟩
theorem yA2{x:Str}{st:Stmt}{f:Addr}{fd:FuncData}{N ps:List Str}{j k:Nat}(F:Fun K x x st f fd)(S:yX N ps (zR st))(hp:ps.length=5)(hN:N.length=11)
  (hbody:∀(cdv:Value) (A:Around) (outer:List Env) (s:Shared) (H:Hp) (E:XK),Room j (A.deeper (envOfC x (zR st) s.heap.objs.size f cdv))->PSs (cxOf CX0 P w K mg base N x (zR st) f cdv A outer s H E).nox (defBody st) (tH K (spH k))) :
  FnOk P w K mg base CX0 (j+1) f fd ps (spH (k+1)):=by
 refine F.ok S (fun vs H Q E ⟨O,a,aw,q,n,p,l,ws,wv,_,_,_,e,_⟩=>by rw[e,hp];rfl) fun cdv A outer s H vs Q E hr h => ?_
 obtain⟨O,a,aw,q,n,p,l,ws,wv,oh,oa,ha,rfl,rw',nw,W,hk,n0,hn,hb,kk⟩:=h
 refine⟨_,hbody cdv A outer s H E hr,?_⟩
 have st:start N [V.ref a,.int (p:Int),.int (n:Int),.ref aw,.int (l:Int)]=[some (.ref a),some (.int (p:Int)),some (.int (n:Int)),some (.ref aw),some (.int (l:Int)),none,none,none,none,none,none]:=by
  unfold start
  rw[hN]
  rfl
 rw[st]
 exact yT8 oh oa ha rw' nw W hk n0 hn hb kk
end
def opH(n:Nat)(most cell:Int)(i:Nat):Int:=if pwD ((n:Int)+1) cell i%((n:Int)+1)<most then pwD ((n:Int)+1) cell i%((n:Int)+1) else most
def opsH(n:Nat)(most cell:Int):List Int:=(List.range n).map (opH n most cell)
def nxP(n:Nat)(most cell:Int):Nat->Int->D×Int:=fun i q=>trH n i (opH n most cell i).toNat [] q
def trsH(n:Nat)(most cell:Int):List D:=(runG (nxP n most cell) n (pwD ((n:Int)+1) cell n)).1
def plH(n:Nat)(most cell:Int):D:=.tuple [tI (opsH n most cell),.tuple (trsH n most cell)]
open Classical in
def plHF:List D->Res D
 | [.int cell,.int n,.int most]=>if 1<=n/\n<=6/\0<=most/\most<=n then .ok (plH n.toNat most cell) else .no
 | _=>.no
theorem xZ4{ds:List D}{c:Str}:plHF ds ≠ .ex c:=by
 unfold plHF
 split
 ·split <;> exact fun z=>nomatch z
 ·exact fun z=>nomatch z
theorem yU2{ds:List D}{Q:D->Prop}{R:Str->Prop}(h:(plHF ds).post Q R):∃(cell most:Int) (n:Nat),ds=[.int cell,.int (n:Int),.int most]/\1<=n/\n<=6/\0<=most/\most<=(n:Int)/\Q (plH n most cell):=by
 unfold plHF at h
 split at h
 ·split at h
  ·rename_i cell n most c
   obtain⟨c1,c2,c3,c4⟩:=c
   obtain⟨m,rfl⟩:∃m:Nat,n=(m:Int):=⟨n.toNat,by rfl'⟩
   rw[Bo] at h
   exact⟨cell,most,m,rfl,by rfl',by rfl',c3,c4,h⟩
  ·exact h.elim
 ·exact h.elim
theorem xZ9{cell most:Int}{n:Nat}(h1:1<=n)(h2:n<=6)(h3:0<=most)(h4:most<=(n:Int)):plHF [.int cell,.int (n:Int),.int most]=.ok (plH n most cell):=by
 unfold plHF
 simp only
 rw[Ak ⟨by rfl',by rfl',h3,h4⟩,Bo]
theorem yL5{n:Nat}{most cell:Int}(h3:0<=most)(i:Nat):0<=opH n most cell i/\opH n most cell i<=most:=by
 have h0:=Int.emod_nonneg (pwD ((n:Int)+1) cell i) (show ((n:Int)+1)≠0 by rfl')
 unfold opH
 split <;> rfl'
def rMin:List V->Hp->VK->Prop:=fun xs H Q=>∃i j,xs=[.int i,.int j]/\Q (.int (if j<i then j else i)) H
def tPH1(K:KFr):TE:=tCB (rTup K) (zF (tComp (iRng1 (zF (tVar 1) tNil)) (fun _ _ _ _=>tTrue) (fun _ _ _ _=>tCB rMin (zF (tVar 1) (zF (tCall spTake [] E0 (zF (tVar 2) (zF (tOp rAdd (tVar 3) (tC (.int 1))) tNil))) tNil))) [2,3,1]) tNil)
def tPH2(K:KFr)(k:Nat):TE:=tComp (iRng1 (zF (tVar 1) tNil)) (fun _ _ _ _=>tTrue) (fun _ _ _ _=>tCall (spH k) [] E0 (zF (tVar 1) (zF (tVar 0) (zF (tVar 2) (zF (tLst tNil) (zF (tOp (rIxT K) (tVar 3) (tVar 0)) tNil)))))) [3,1,4]
def tPHE(K:KFr):TS:=tRet (tTup (zF (tVar 4) (zF (tCB (rTup K) (zF (tVar 5) tNil)) tNil)))
def tPH(K:KFr)(k:Nat):TS:=tSeq (tAsg (tLst (zF (tVar 0) tNil)) (gName 3)) (tSeq (tAsg (tPH1 K) (gName 4)) (tSeq (tAsg (tPH2 K k) (gName 5)) (tPHE K)))
theorem yD8{K:KFr}{a:Addr}{cell most:Int}{n:Nat}{v4 v5:Option V}{H:Hp}{Q:VK}(ha:H a=some (.lst [.int cell]))(hn:n<=6)
  (k:∀b H',H b=none->H' b=some (.tup ((opsH n most cell).map V.int))->H' a=some (.lst [.int (pwD ((n:Int)+1) cell n)])->Pot a H H'->Q (.ref b) H'):tPH1 K [some (.int cell),some (.int (n:Int)),some (.int most),some (.ref a),v4,v5] H Q:=by
 refine⟨_,rfl,(n:Int),rfl,by rfl',by rfl',?_⟩
 rw[Bo]
 intro C fp s₂ H₂
 refine zU9 (lo:=0) (n:=n) (tt:=tTrue) (te:=tCB rMin (zF (tVar 1) (zF (tCall spTake [] E0 (zF (tVar 2) (zF (tOp rAdd (tVar 3) (tC (.int 1))) tNil))) tNil))) (js:=[2,3,1]) (σ:=[some (.int cell),some (.int (n:Int)),some (.int most),some (.ref a),v4,v5]) (Q:=fun x H1=>rTup K [x] H1 Q) (fun i acc H1=>acc=((List.range i).map (opH n most cell)).map V.int/\H1 a=some (.lst [.int (pwD ((n:Int)+1) cell i)])/\Pot a H H1) ⟨rfl,ha,Pot.refl a H⟩ ?_ ?_
 ·rintro i acc H1 hi ⟨rfl,h1,po⟩
  unfold tTrue
  simp only[if_true]
  refine⟨_,rfl,_,rfl,_,rfl,_,_,rfl,rfl,a,_,_,rfl,h1,DivOk.small (by rfl') (by rfl'),most,_,rfl,by rw[Ac,Ac,AQ];exact small1000 (by rfl'),?_,zO,po.trans Pot.upd⟩
  rw[CQ,Bh,Bh]
  rfl
 ·rintro acc H1 ⟨rfl,h1,po⟩ l hl
  have al:a≠l:=fun z=>by rw[<-z,h1] at hl;cases hl
  refine⟨l,_,rfl,.inl ⟨SqL.of zO,fun b hb => ?_⟩⟩
  have bl:b≠l:=fun z=>by rw[z,zO] at hb;cases hb
  have ba:b≠a:=fun z=>by rw[z,zM al,h1] at hb;cases hb
  have hb1:H1 b=none:=by rw[zM bl] at hb;exact hb
  refine k b _ (po.none ba hb1) zO ?_ ((po.new hl).new hb)
  rw[zM (fun z=>ba z.symm),zM al]
  exact h1
theorem yD6{K:KFr}{k:Nat}{O:Addr->Prop}{a ao:Addr}{cell most q:Int}{n:Nat}{v5:Option V}{H:Hp}{Q:VK}(oh:∀x,O x->H x≠none)(oa:O a)(ha:H a=some (.lst [.int (pwD ((n:Int)+1) cell n)]))(ho:H ao=some (.tup ((opsH n most cell).map V.int)))(n0:1<=n)(hn:n<=6)(hk:7<=k)(h3:0<=most)(h4:most<=(n:Int))
  (kk:∀vs H' p,H' p=none->Pot a H H'->(∃q',H' a=some (.lst [.int q']))->Reps H' O vs (trsH n most cell)->vs.length=n->Q (.ref p) (upd H' p (.lst vs))):tPH2 K k [some (.int cell),some (.int (n:Int)),some (.int most),some (.ref a),some (.ref ao),v5] H Q:=by
 refine⟨_,rfl,(n:Int),rfl,by rfl',by rfl',?_⟩
 rw[Bo]
 intro C fp s₂ H₂
 refine zU9 (lo:=0) (n:=n) (tt:=tTrue) (te:=tCall (spH k) [] E0 (zF (tVar 1) (zF (tVar 0) (zF (tVar 2) (zF (tLst tNil) (zF (tOp (rIxT K) (tVar 3) (tVar 0)) tNil)))))) (js:=[3,1,4]) (σ:=[some (.int cell),some (.int (n:Int)),some (.int most),some (.ref a),some (.ref ao),v5]) (Q:=Q) (fun i acc H1=>Pot a H H1/\H1 a=some (.lst [.int (runG (nxP n most cell) i (pwD ((n:Int)+1) cell n)).2])/\Reps H1 O acc (runG (nxP n most cell) i (pwD ((n:Int)+1) cell n)).1/\acc.length=i) ⟨Pot.refl a H,ha,.nil,rfl⟩ ?_ ?_
 ·rintro i acc H1 hi ⟨po,h1,rs,la⟩
  unfold tTrue
  simp only[if_true]
  have aoa:ao≠a:=fun z=>by rw[z,ha] at ho;cases ho
  have ho1:=po ao _ ho aoa
  have bo:=yL5 (n:=n) (cell:=cell) h3 i
  have at1:atI ((opsH n most cell).map V.int) (0+(i:Int))=some (.int (opH n most cell i)):=by
   rw[Int.zero_add,zO5,zW7 (by unfold opsH;rw[Ac,AQ];exact hi)]
   unfold opsH
   rw[List.getD,AA,Bk hi]
   rfl
  refine⟨_,rfl,_,rfl,_,rfl,AM _,fun aw hw=>⟨_,rfl,_,rfl,ao,_,_,_,rfl,rfl,.inl (.inl ?_),at1,?_⟩⟩
  ·rw[zM (fun z=>by rw[<-z,ho1] at hw;cases hw)]
   exact ho1
  ·have S:=Same.new (H:=H1) (o:=.lst []) hw
   have wa:aw≠a:=fun z=>by rw[z,h1] at hw;cases hw
   refine⟨O,a,aw,_,n,i,(opH n most cell i).toNat,[],[],fun x hx => ?_,oa,S _ _ h1,?_,.inl zO,wa,.nil,by rfl',by rfl',by rfl',by show 0+_<=n;rfl',fun v H' po' ha' rv=>⟨by rw[la];exact small1000 (by rfl'),?_⟩⟩
   ·by_cases z:x=a
    ·rw[z,S _ _ h1];exact fun z=>nomatch z
    ·cases e:H x with
     | none=>exact absurd e (oh x hx)
     | some o=>rw[S _ _ (po x o e z)];exact fun z=>nomatch z
   ·show [V.ref a,V.int (0+(i:Int)),V.int (n:Int),V.ref aw,V.int (opH n most cell i)]=_
    rw[Int.zero_add,Int.toNat_of_nonneg bo.1]
   ·have p1:Pot a H1 H':=fun c o e n=>po' c o (S c o e) n
    refine⟨po.trans p1,ha',?_,by rw[Af,la];rfl⟩
    rw[runG]
    exact (rs.keep (fun c o e n=>p1 c o e fun z=>n (by rw[z];exact oa)) fun _ _ z=>z).append (.one rv)
 ·rintro acc H1 ⟨po,h1,rs,la⟩ p hp
  exact kk acc H1 p hp po ⟨_,h1⟩ rs la
theorem xX3{K:KFr}{k:Nat}{O:Addr->Prop}{cell most:Int}{n:Nat}{H:Hp}{E:Ends}(oh:∀x,O x->H x≠none)(n0:1<=n)(hn:n<=6)(hk:7<=k)(h3:0<=most)(h4:most<=(n:Int))(kk:∀v H',Same H H'->Rep H' O v (plH n most cell)->E.rt v H') :
  tPH K k E [some (.int cell),some (.int (n:Int)),some (.int most),none,none,none] H:=by
 refine⟨_,rfl,by show 1<=sizeLine;decide,fun a ha => ?_⟩
 have S0:=Same.new (H:=H) (o:=.lst [.int cell]) ha
 show tSeq (tAsg (tPH1 K) (gName 4)) (tSeq (tAsg (tPH2 K k) (gName 5)) (tPHE K)) E [some (.int cell),some (.int (n:Int)),some (.int most),some (.ref a),none,none] (upd H a (.lst [.int cell]))
 refine seqA (yD8 zO hn fun b H1 fb hb h1 po => ?_)
 show tSeq (tAsg (tPH2 K k) (gName 5)) (tPHE K) E [some (.int cell),some (.int (n:Int)),some (.int most),some (.ref a),some (.ref b),none] H1
 have sH:Same H H1:=fun c o e=>po c o (S0 c o e) fun z=>by rw[z,ha] at e;cases e
 refine seqA (yD6 (O:=fun x=>O x\/x=a) (q:=0) (fun x hx => ?_) (.inr rfl) h1 hb n0 hn hk h3 h4 fun vs H2 p hp po2 hq rs lv => ?_)
 ·rcases hx with hx | hx
  ·exact Same.ne sH (oh x hx)
  ·rw[hx,h1];exact fun z=>nomatch z
 ·have sH2:Same H H2:=fun c o e=>po2 c o (sH c o e) fun z=>by rw[z,ha] at e;cases e
  obtain⟨q',hq⟩:=hq
  have ba:b≠a:=fun z=>by rw[z,h1] at hb;cases hb
  have hb2:H2 b=some (.tup ((opsH n most cell).map V.int)):=po2 b _ hb ba
  show tPHE K E [some (.int cell),some (.int (n:Int)),some (.int most),some (.ref a),some (.ref b),some (.ref p)] (upd H2 p (.lst vs))
  have S3:=Same.new (H:=H2) (o:=.lst vs) hp
  refine⟨_,rfl,_,rfl,p,vs,rfl,.inl ⟨SqL.of zO,fun t ht=>⟨by show 2<=sizeLine;decide,fun r hr => ?_⟩⟩⟩
  have S4:=Same.new (o:=.tup vs) ht
  have S5:=Same.new (o:=.tup [.ref b,.ref t]) hr
  have S:=(S3.trans S4).trans S5
  have fb0:H b=none:=S0.free fb
  have ft:H t=none:=sH2.free (S3.free ht)
  have fr:H r=none:=sH2.free ((S3.trans S4).free hr)
  refine kk _ _ (sH2.trans S) (.tup (.inl zO) (fun z=>oh r z fr) (.cons (.tup (.inl (S _ _ hb2)) (fun z=>oh b z fb0) (cB _)) (.cons (.tup (xs:=vs) (.inl (S5 _ _ zO)) (fun z=>oh t z ft) ?_) .nil)))
  exact rs.keep (fun c o e _=>S c o e) fun c _ z=>.inl z
section
variable {P:Program}{w:World}{K:KFr}{mg:Str->Option Value}{base:Heap}
theorem yC5{x:Str}{st:Stmt}{f:Addr}{fd:FuncData}{N ps:List Str}{j k:Nat}(hk:7<=k)(F:Fun K x x st f fd)(S:yX N ps (zR st))(hp:ps.length=3)(hN:N.length=6)
  (hbody:∀(cdv:Value) (A':Around) (outer:List Env) (s:Shared) (H:Hp) (E:XK),Room j (A'.deeper (envOfC x (zR st) s.heap.objs.size f cdv))->PSs (cxOf CX0 P w K mg base N x (zR st) f cdv A' outer s H E).nox (defBody st) (tPH K k)) :
  FnOk P w K mg base CX0 (j+1) f fd ps (spF false plHF):=by
 refine F.ok S (fun vs H Q E ⟨ds,O,oh,r,q⟩ => ?_) fun cdv A' outer s H vs Q E hr h => ?_
 ·obtain⟨cell,most,n,rfl,_⟩:=yU2 q
  rw[r.length,hp]
  rfl
 ·obtain⟨ds,O,oh,r,q⟩:=h
  obtain⟨cell,most,n,rfl,h1,h2,h3,h4,q⟩:=yU2 q
  refine⟨_,hbody cdv A' outer s H E hr,?_⟩
  cases r with
  | cons r1 r2 =>
   cases r1
   cases r2 with
   | cons r2 r3 =>
    cases r2
    cases r3 with
    | cons r3 r4 =>
     cases r3
     cases r4
     have st:start N [V.int cell,V.int (n:Int),V.int most]=[some (.int cell),some (.int (n:Int)),some (.int most),none,none,none]:=by
      unfold start
      rw[hN]
      rfl
     rw[st]
     exact xX3 oh h1 h2 hk h3 h4 q
end
end L2.L3
namespace L2.L3
open PySem PySem.Spec PyProof.Rows
variable [CN]
section
variable {X:Cx}
theorem zL4:∀{ts:List Str}{us:List Value},Vals (ts.map V.str) us->∃l:List (Str×Tok),us=strValues l/\l.map (·.1)=ts
 | [],us,h=>by cases h;exact⟨[],rfl,rfl⟩
 | z::ts,us,h=>by
  cases h with
  | cons r rs =>
   obtain⟨t,rfl⟩:=r
   obtain⟨l,rfl,e⟩:=zL4 rs
   exact⟨(z,t)::l,rfl,by rw[AI,e]⟩
theorem zM9:∀l:List (Str×Tok),Vals ((l.map (·.1)).map V.str) (strValues l)
 | []=>.nil
 | (z,t)::l=>.cons ⟨t,rfl⟩ (zM9 l)
def rDig:V->List V->Hp->VK->Prop:=fun x vs H Q=>∃z,x=.str z/\vs=[]/\Q (.bl (Txt.isdigit z)) H
theorem yQ7:MtR X "str.isdigit" rDig:=by
 rintro DJ s σ H x vs v us Q I rx rv ⟨z,rfl,rfl,q⟩
 obtain⟨t,rfl⟩:=rx
 cases rv
 exact SC.isdigit ⟨.bl _,H,I,rfl,q⟩
def rStw:V->List V->Hp->VK->Prop:=fun x vs H Q=>∃z y,x=.str z/\vs=[.str y]/\Q (.bl (Txt.startswith z y)) H
theorem jE:MtR X "str.startswith" rStw:=by
 rintro DJ s σ H x vs v us Q I rx rv ⟨z,y,rfl,rfl,q⟩
 obtain⟨t,rfl⟩:=rx
 obtain⟨u,rfl,t2,rfl⟩:=vals1 rv
 exact SC.startswith ⟨.bl _,H,I,rfl,q⟩
def rJoin(K:KFr):V->List V->Hp->VK->Prop:=fun x vs H Q=>∃z p ts,x=.str z/\vs=[.ref p]/\SqL K H p (ts.map V.str)/\JoinOk z ts=true/\Q (.str (Txt.join z ts)) H
theorem zP2:MtR X "str.join" (rJoin X.K):=by
 rintro DJ s σ H x vs v us Q I rx rv ⟨z,p,ts,rfl,rfl,hq,ok,q⟩
 obtain⟨t,rfl⟩:=rx
 obtain⟨u,rfl,ru⟩:=vals1 rv
 cases ru
 obtain⟨its,r,pl,_⟩:=I.list hq
 obtain⟨l,rfl,el⟩:=zL4 r
 exact SC.join pl.isList el ok fun t' k=>⟨.str _,H,I.tok _,⟨_,rfl⟩,q⟩
def rSpl:V->List V->Hp->VK->Prop:=fun x vs H Q=>∃z y,x=.str z/\vs=[.str y]/\1<=y.length/\z.length+2<=sizeLine/\∀p,H p=none->Q (.ref p) (upd H p (.lst ((Txt.split z y).map V.str)))
theorem cU:MtR X "str.split" rSpl:=by
 rintro DJ s σ H x vs v us Q I rx rv ⟨z,y,rfl,rfl,hy,hz,q⟩
 obtain⟨t,rfl⟩:=rx
 obtain⟨u,rfl,t2,rfl⟩:=vals1 rv
 have y0:(y.length == 0)=false:=by rw[beq_eq_false_iff_ne];rfl'
 have few:=split_le z y
 have fin:∀(l:List (Str×Tok)) (k:Nat),l.map (·.1)=Txt.split z y->EP X DJ σ Q (.ref s.heap.objs.size) { s with heap:=s.heap.push { cls:=.type "list",data:=.seq (strValues l).toArray },toks:=k }:=fun l k e=>by
  have V0:=zM9 l
  rw[e] at V0
  exact⟨.ref _,_,I.lnew (t':=k) V0 (by rw[Ac];rfl'),rfl,q _ I.fresh⟩
 have one:∀k,Txt.split z y=[z]->EP X DJ σ Q (.ref s.heap.objs.size) { s with heap:=s.heap.push { cls:=.type "list",data:=.seq [Value.str z t].toArray },toks:=k }:=fun k e=>fin [(z,t)] k (by rw[e];rfl)
 by_cases c1:(decide (z.length<y.length) || decide (Builtin.Str.strKind z<Builtin.Str.strKind y))=true
 ·have e:Txt.split z y=[z]:=by unfold Txt.split;rw[Ak c1]
  exact call_meets F.slot_str_split (typeIs_str s z t) F.entry_str_split (DE _ _) (meets_str_split_cannot_occur z y t t2 c1) (one s.toks e)
 ·have c1':=BS _▸c1
  by_cases c2:(Builtin.Str.occurrences z y 0 z.length (z.length+1)).isEmpty=true
  ·have e:Txt.split z y=[z]:=by unfold Txt.split;rw[Ax c1,Ak c2]
   exact call_meets F.slot_str_split (typeIs_str s z t) F.entry_str_split (DE _ _) (meets_str_split_not_found z y t t2 (by simpa using c1) y0 c2) (one s.toks e)
  ·have e:Txt.split z y=Builtin.Str.partsBetween z (Builtin.Str.occurrences z y 0 z.length (z.length+1)) y.length:=by unfold Txt.split;rw[Ax c1,Ax c2]
   rw[e] at few
   refine call_meets F.slot_str_split (typeIs_str s z t) F.entry_str_split (DE _ _) (meets_str_split_sep z y t t2 (by simpa using c1) y0 (by simpa using c2) (by rfl') (by rfl')) ?_
   have key:=fin (numbered s.toks (Txt.split z y)) (s.toks+(Builtin.Str.partsBetween z (Builtin.Str.occurrences z y 0 z.length (z.length+1)) y.length).length) (numbered_texts _ _)
   rw[e,<-strsFrom_eq] at key
   exact key
end
def strD:D->Option Str
 | .str z=>some z
 | _=>none
theorem vP{x:D}{z:Str}(h:strD x=some z):x=.str z:=by
 cases x with
 | str y=>cases h;rfl
 | _=>cases h
theorem yS(z:Str):strD (.str z)=some z:=rfl
def strsOf:List D->Option (List Str)
 | []=>some []
 | x::xs=>(strD x).bind fun z=>(strsOf xs).bind fun zs=>some (z::zs)
theorem zR2:∀zs:List Str,strsOf (zs.map PyData.str)=some zs
 | []=>rfl
 | z::zs=>by
  show (strD (.str z)).bind _=_
  rw[yS,Az,zR2 zs]
  rfl
theorem zY6:∀{ds:List D}{zs:List Str},strsOf ds=some zs->ds=zs.map PyData.str
 | [],zs,h=>by cases h;rfl
 | x::xs,zs,h=>by
  obtain⟨z,e1,h⟩:=AN.mp h
  obtain⟨ys,e2,h⟩:=AN.mp h
  cases h
  rw[vP e1,zY6 e2]
  rfl
theorem zL6{H:Hp}{O:Addr->Prop}:∀{zs:List Str}{vs:List V},Reps H O vs (zs.map PyData.str)->vs=zs.map V.str
 | [],vs,h=>by cases h;rfl
 | z::zs,vs,h=>by
  cases h with
  | cons r rs =>
   cases r
   rw[zL6 rs]
   rfl
theorem zN9{H:Hp}{O:Addr->Prop}:∀zs:List Str,Reps H O (zs.map V.str) (zs.map PyData.str)
 | []=>.nil
 | z::zs=>.cons (.str z) (zN9 zs)
def eM0S(f:Str->Option D)(mo:Ev->Res D):Ev->Res D:=fun ρ=>(mo ρ).bind fun x=>(Res.lft (strD x)).bind fun z=>Res.lft (f z)
theorem dS(f:Str->Option D)(mo:Ev->Res D)(ρ:Ev):eM0S f mo ρ=(mo ρ).bind fun x=>(Res.lft (strD x)).bind fun z=>Res.lft (f z):=rfl
theorem yS9{C:Ct}{o:Expr}{apos cpos:Pos}{md:Md}{mo:Ev->Res D}(ho:RE C md o mo)
  (hbase:autoParam (attributeBase o "isdigit" C.X.env (eval o C.X.env)=eval o C.X.env) DI) (hline:autoParam ((apos.endLine == cpos.line)=true) DI) :
  RE C .cl (.Call (.Attribute o "isdigit" apos) [] [] cpos) (eM0S (fun z=>some (.bool (Txt.isdigit z))) mo):=by
 obtain⟨to,po,qo⟩:=ho
 refine⟨_,yL8 Cq PySem.F.slot_str_isdigit PySem.F.type_str_isdigit yQ7 po hbase hline,fun Oc Ob σ H ρ Q R h => ?_⟩
 refine qo Oc Ob σ H ρ _ R (Res.zT (Res.zU h) (fun dx _ k x H1 s1 vx => ?_) fun _ z=>z)
 obtain⟨z,ez,k1⟩:=Res.yV (Res.zU k)
 obtain rfl:=vP ez
 obtain⟨d,ed,k2⟩:=Res.yV k1
 cases ed
 obtain rfl:=(vx.va R.oh).str
 exact⟨rfl,z,rfl,rfl,k2 _ H1 s1 (Rep.bl _)⟩
def eM1S(f:Str->D->Option D)(mo ma:Ev->Res D):Ev->Res D:=fun ρ=>(mo ρ).bind fun x=>(Res.lft (strD x)).bind fun z=>(ma ρ).bind fun y=>Res.lft (f z y)
theorem yI(f:Str->D->Option D)(mo ma:Ev->Res D)(ρ:Ev):eM1S f mo ma ρ=(mo ρ).bind fun x=>(Res.lft (strD x)).bind fun z=>(ma ρ).bind fun y=>Res.lft (f z y):=rfl
def Pr1S(r:V->List V->Hp->VK->Prop)(md:Md)(f:Str->D->Option D):Prop :=
 ∀(Oc:Wd) (Ob:Addr->Prop) (H:Hp) (z:Str) (y:V) (dy d:D) (Q:VK),(∀a,Oc a\/Ob a->H a≠none)->VA Oc Ob H y dy->f z dy=some d->(∀v H',Same H H'->VR md Oc Ob H H' v d->Q v H')->r (.str z) [y] H Q
theorem vW{C:Ct}{o a:Expr}{name:Str}{id:String}{apos cpos:Pos}{md mda mdr:Md}{mo ma:Ev->Res D}{r:V->List V->Hp->VK->Prop}{f:Str->D->Option D}(slot:Slot "str" name id)(hty:typeOf (.builtin id)=pure (.type "method_descriptor"))(hm:MtR C.X id r)(hp:Pr1S r mdr f)(ho:RE C md o mo)(ha:RE C mda a ma)
  (hbase:autoParam (attributeBase o name C.X.env (eval o C.X.env)=eval o C.X.env) DI)
  (hfew:((backTo cpos (starEach [a] C.X.env)).all (fun x=>!x.1)&&(backToKw cpos (keywordEach [] C.X.env)).all (fun x=>x.1.isSome)
  &&decide ([a].length+([]:List Keyword).length+(if ([]:List Keyword).isEmpty then 0 else 1)<30))=true:=by rfl)
  (hline:autoParam ((apos.endLine == cpos.line)=true) DI) (hs:autoParam (starEach [a] C.X.env=(false,eval a C.X.env)::starEach [] C.X.env) DI) (hplain:autoParam ((backTo cpos (starEach [] C.X.env)).any (·.1)=false) DI) :
  RE C mdr (.Call (.Attribute o name apos) [a] [] cpos) (eM1S f mo ma):=by
 obtain⟨to,po,qo⟩:=ho
 obtain⟨ta,pa,qa⟩:=ha
 refine⟨_,cQ Cq slot hty hm po (zP pa zA hs) hbase hfew hline hs hplain,fun Oc Ob σ H ρ Q R h => ?_⟩
 refine qo Oc Ob σ H ρ _ R (Res.zT (Res.zU h) (fun dx _ k x H1 s1 vx => ?_) fun _ z=>z)
 obtain⟨z,ez,k⟩:=Res.yV (Res.zU k)
 obtain rfl:=vP ez
 obtain rfl:=(vx.va R.oh).str
 refine⟨rfl,qa Oc Ob σ H1 ρ _ (R.same s1) (Res.zT (Res.zU k) (fun dy _ k y H2 s2 vy => ?_) fun c z H' s'=>z H' (s1.trans s'))⟩
 obtain⟨d,ed,k⟩:=Res.yV k
 exact hp Oc Ob H2 z y dy d Q ((R.same s1).same s2).oh (vy.va (R.same s1).oh) ed fun v H' s3 rv=>k v H' ((s1.trans s2).trans s3) (rv.from (s1.trans s2))
def stwD(z:Str)(y:D):Option D:=(strD y).map fun u=>.bool (Txt.startswith z u)
theorem cE:Pr1S rStw .cl stwD:=by
 intro Oc Ob H z y dy d Q oh vy e k
 obtain⟨u,e1,rfl⟩:=AK.mp e
 obtain rfl:=vP e1
 obtain rfl:=vy.str
 exact⟨z,u,rfl,rfl,k _ H (Same.refl H) (Rep.bl _)⟩
def splD(z:Str)(y:D):Option D:=(strD y).bind fun u=>if 1<=u.length/\z.length+2<=sizeLine then some (.list ((Txt.split z u).map PyData.str)) else none
theorem cG:Pr1S rSpl .new splD:=by
 intro Oc Ob H z y dy d Q oh vy e k
 obtain⟨u,e1,e0⟩:=AN.mp e
 obtain rfl:=vP e1
 obtain rfl:=vy.str
 split at e0
 ·rename_i h
  cases e0
  exact⟨z,u,rfl,rfl,h.1,h.2,fun p hp=>k _ _ (Same.new hp) (vA (Same.refl H) hp (zN9 _))⟩
 ·cases e0
def joinD(z:Str)(y:D):Option D:=(lstD y).bind fun ds=>(strsOf ds).bind fun ts=>if JoinOk z ts=true then some (.str (Str.join z ts)) else none
theorem zO9{K:KFr}:Pr1S (rJoin K) .cl joinD:=by
 intro Oc Ob H z y dy d Q oh vy e k
 obtain⟨ds,e1,e3⟩:=AN.mp e
 obtain⟨ts,e2,e0⟩:=AN.mp e3
 obtain rfl:=zM5 e1
 obtain rfl:=zY6 e2
 obtain⟨a,ys,rfl,rd,rs⟩:=vy.list
 obtain rfl:=zL6 rs
 split at e0
 ·rename_i h
  cases e0
  refine⟨z,a,ts,rfl,rfl,.inl rd,h,?_⟩
  rw[show Txt.join z ts=Str.join z ts from StrLaws.glued_eq_join z ts]
  exact k _ H (Same.refl H) (Rep.str _)
 ·cases e0
def catS:D->D->Option D:=fun x y=>(strD x).bind fun a=>(strD y).bind fun b=>if a.length+b.length<=sizeLine then some (.str (a++b)) else none
theorem yC:Pr2 (fun x y H Q=>∃i j,x=.str i/\y=.str j/\i.length+j.length<=sizeLine/\Q (.str (i++j)) H) .cl catS:=by
 intro Oc Ob H x y dx dy d Q oh vx vy e k
 obtain⟨a,e1,e3⟩:=AN.mp e
 obtain⟨b,e2,e0⟩:=AN.mp e3
 obtain rfl:=vP e1
 obtain rfl:=vP e2
 split at e0
 ·rename_i h
  cases e0
  exact⟨a,b,vx.str,vy.str,h,k _ H (Same.refl H) (Rep.str _)⟩
 ·cases e0
def strOfD:List D->Option D
 | [.int i]=>if i.natAbs.log2<1920 then some (.str (toString i)) else none
 | _=>none
theorem zS9:PrC (fun xs H Q=>∃i,xs=[.int i]/\i.natAbs.log2<1920/\Q (.str (toString i)) H) .cl strOfD:=by
 intro Oc Ob H vs ds d Q oh r e k
 unfold strOfD at e
 split at e
 ·split at e
  ·rename_i h
   cases e
   obtain⟨v,rfl,hv⟩:=kN r
   exact⟨_,by rw[hv.int],h,k _ H (Same.refl H) (Rep.str _)⟩
  ·cases e
 ·cases e
theorem cD{X:Cx}:CallR X (.type "int") (fun xs H Q=>∃z n,xs=[.str z]/\PySem.intText? z=some n/\z.length<=640/\Q (.int n) H):=by
 rintro DJ s σ H xs us Q I r ⟨z,n,rfl,e,hl,q⟩
 obtain⟨u,rfl,t,rfl⟩:=vals1 r
 exact PySem.W.KIN.call_text e hl ⟨.int n,H,I.tok _,⟨_,rfl⟩,q⟩
def intTD:List D->Option D
 | [.str z]=>if z.length<=640 then (PySem.intText? z).map PyData.int else none
 | _=>none
theorem yV4:PrC (fun xs H Q=>∃z n,xs=[.str z]/\PySem.intText? z=some n/\z.length<=640/\Q (.int n) H) .cl intTD:=by
 intro Oc Ob H vs ds d Q oh r e k
 unfold intTD at e
 split at e
 ·split at e
  ·rename_i h
   obtain⟨n,en,rfl⟩:=AK.mp e
   obtain⟨v,rfl,hv⟩:=kN r
   exact⟨_,n,by rw[hv.str],en,h,k _ H (Same.refl H) (Rep.int _)⟩
  ·cases e
 ·cases e
def lenTD:List D->Option D
 | [.str z]=>if z.length<=sizeLine then some (.int z.length) else none
 | _=>none
theorem uD:PrC (fun xs H Q=>∃z,xs=[.str z]/\z.length<=sizeLine/\Q (.int z.length) H) .cl lenTD:=by
 intro Oc Ob H vs ds d Q oh r e k
 unfold lenTD at e
 split at e
 ·split at e
  ·rename_i h
   cases e
   obtain⟨v,rfl,hv⟩:=kN r
   exact⟨_,by rw[hv.str],h,k _ H (Same.refl H) (Rep.int _)⟩
  ·cases e
 ·cases e
section
variable {X:Cx}
def rSlS:V->Option Int->Option Int->Hp->VK->Prop:=fun x lo hi H Q=>∃z,x=.str z/\z.length<=sizeLine/\Q (.str (Txt.slice z lo hi)) H
theorem yY3{v:Value}{o:Option Int}(h:IsPart v o):∃l:Option (Int×Tok),v=partValue l/\l.map (·.1)=o:=by
 cases h
 ·exact⟨none,rfl,rfl⟩
 ·rename_i i t
  exact⟨some (i,t),rfl,rfl⟩
theorem xP9:SlR X rSlS:=by
 rintro DJ s σ H x v vl vu lo hi sl Q I rx hs pl pu ⟨z,rfl,hz,q⟩
 obtain⟨t,rfl⟩:=rx
 obtain⟨l,rfl,rfl⟩:=yY3 pl
 obtain⟨u,rfl,rfl⟩:=yY3 pu
 refine⟨"str",_,F.slot_str_getitem.lookup,typeIs_str _ _ _,wpAny_getItem_str_slice (l:=l) (u:=u) (st:=none) hs rfl (post_val_or_str ⟨AJ (DA z _ _) hz,fun t' k => ?_⟩)⟩
 exact⟨.str _,H,I.tok _,⟨_,rfl⟩,q⟩
end
def slS(x:D)(lo hi:Option Int):Option D:=(strD x).bind fun z=>if z.length<=sizeLine then some (.str (Txt.slice z lo hi)) else none
theorem xQ7:PrS rSlS .cl slS:=by
 intro Oc Ob H x dx lo hi d Q oh va e k
 obtain⟨z,e1,e0⟩:=AN.mp e
 obtain rfl:=vP e1
 split at e0
 ·rename_i h
  cases e0
  exact⟨z,va.str,h,k _ H (Same.refl H) (Rep.str _)⟩
 ·cases e0
theorem wR{C:Ct}{e:Expr}{lo hi:Option Expr}{mda:Md}{me:Ev->Res D}{ml mh:Ev->Res (Option Int)}{p2 pos:Pos}(he:RE C mda e me)(hl:RO C lo ml)(hu:RO C hi mh):RE C .cl (.Subscript e (.Slice lo hi none p2) pos) (eS slS me ml mh):=zX1 xP9 xQ7 he hl hu
section
variable {X:Cx}
def ptV(z y:Str):List V:=[.str (Txt.partition z y).1,.str (Txt.partition z y).2.1,.str (Txt.partition z y).2.2]
def rPart:V->List V->Hp->VK->Prop:=fun x vs H Q=>∃z y,x=.str z/\vs=[.str y]/\1<=y.length/\z.length<=sizeLine/\∀p,H p=none->Q (.ref p) (upd H p (.tup (ptV z y)))
theorem Inv.tnew{its:List Value}{ys:List V}{t':Nat}{DJ:List (Addr×Obj)}{σ:St}{H:Hp}{s:Shared}(I:Inv X DJ σ H s)(hv:Vals ys its)(hz:ys.length<=sizeLine) :
  Inv X DJ σ (upd H s.heap.objs.size (.tup ys)) { s with heap:=s.heap.push { cls:=.type "tuple",data:=.seq its.toArray },toks:=t' } :=
 I.laid (fun _ _ q=>An _ q) (Al _) ⟨hz,its,hv,_,AH _ rfl,rfl,⟨_,rfl⟩,rfl⟩
theorem zE6:MtR X "str.partition" rPart:=by
 rintro DJ s σ H x vs v us Q I rx rv ⟨z,y,rfl,rfl,hy,hz,q⟩
 obtain⟨t,rfl⟩:=rx
 obtain⟨u,rfl,t2,rfl⟩:=vals1 rv
 have y0:(y.length == 0)=false:=by rw[beq_eq_false_iff_ne];rfl'
 have fin:∀(a b c:Tok) (k:Nat),EP X DJ σ Q (.ref s.heap.objs.size) { s with heap:=s.heap.push { cls:=.type "tuple",data:=.seq [Value.str (Txt.partition z y).1 a,.str (Txt.partition z y).2.1 b,.str (Txt.partition z y).2.2 c].toArray },toks:=k }:=fun a b c k =>
  ⟨.ref _,_,Inv.tnew (ys:=ptV z y) I (.cons ⟨a,rfl⟩ (.cons ⟨b,rfl⟩ (.cons ⟨c,rfl⟩ .nil))) (by show 3<=sizeLine;decide),rfl,q _ I.fresh⟩
 refine call_meets F.slot_str_partition (typeIs_str s z t) F.entry_str_partition (F.args_str_partition_2 _ _) (meets_str_partition z y t t2 y0 hz) ?_
 unfold Txt.partition at fin
 generalize Builtin.Str.occurrences z y 0 z.length 1=l at fin ⊢
 cases l with
 | cons i r=>exact fin _ _ _ _
 | nil=>exact fin _ _ _ _
end
def catZ(acc:Str)(zs:List Str):Str:=zs.foldl (fun a b=>a++b) acc
abbrev TJ:=St->Hp->(List Str->Hp->Prop)->Prop
def PJs(X:Cx)(n:Nat)(es:List Expr)(t:TJ):Prop :=
 ∀(DJ:List (Addr×Obj)) (s:Shared) (σ:St) (H:Hp) (acc:Str) (K:Str->Hp->Prop),Inv X DJ σ H s->acc.length<=n*1000000->t σ H (fun zs H'=>K (catZ acc zs) H') ->
  Joins (model X.prog X.w) X.A X.xe (evalEach es X.env) acc (fun out s₁=>out.length<=sizeLine/\∃H',Inv X DJ σ H' s₁/\K out H') s
theorem line16:16*1000000<=sizeLine:=by decide
section
variable {X:Cx}{n:Nat}{es:List Expr}{t:TJ}
theorem zD5(hn:n<=16):PJs X n [] (fun _ H Q=>Q [] H):=by
 intro DJ s σ H acc K I hl h
 have:=line16
 have:=BB 1000000 hn
 exact⟨by rfl',H,I,h⟩
theorem hV{a:Str}{j:Nat}{p:Pos}(ha:a.length<=1000)(hn:n+1<=16)(h:PJs X (n+1) es t):PJs X n (.Constant (.str a) j p::es) (fun σ H Q=>t σ H fun zs H'=>Q (a::zs) H'):=by
 intro DJ s σ H acc K I hl hk
 have:=line16
 have:=BB 1000000 hn
 show wpAny _ _ (eval (.Constant (.str a) j p) X.env) _ _ _
 refine Calls.Constant_str ⟨a,_,rfl,by rw[Ag];rfl',?_⟩
 exact h DJ _ σ H (acc++a) K (I.tok _) (by rw[Ag];rfl') hk
theorem zC6{e:Expr}{te:TE}{p:Pos}(he:PE X e te)(hn:n+1<=16)(h:PJs X (n+1) es t):PJs X n (.FormattedValue e (-1) none p::es) (fun σ H Q=>te σ H fun x H1=>∃i,x=.int i/\i.natAbs.log2<1920/\(toString i:Str).length<=1000000/\t σ H1 fun zs H'=>Q ((toString i:Str)::zs) H'):=by
 intro DJ s σ H acc K I hl hk
 have:=line16
 have:=BB 1000000 hn
 show wpAny _ _ (eval (.FormattedValue e (-1) none p) X.env) _ _ _
 refine wpAny_FormattedValue_plain (thn (he DJ _ σ H _ I hk) fun v s1 ⟨x,H1,I1,r1,i,ei,hd,hz,q⟩ => ?_)
 subst ei
 obtain⟨u,rfl⟩:=r1
 refine wpAny_formatField_int hd ⟨_,_,rfl,by rw[Ag];rfl',?_⟩
 exact h DJ _ σ H1 (acc++(toString i:Str)) K (I1.tok _) (by rw[Ag];rfl') q
theorem bN{v1 v2:Expr}{pos:Pos}(h:PJs X 0 (v1::v2::es) t):PE X (.JoinedStr (v1::v2::es) pos) (fun σ H Q=>t σ H fun zs H'=>Q (.str (catZ Str.empty zs)) H'):=by
 intro DJ s σ H Q I hk
 refine wpAny_JoinedStr ?_
 have key:=h DJ s σ H Str.empty (fun out H'=>Q (.str out) H') I (AM _) hk
 have mono:∀(parts:List (Sem Value)) (acc:Str) (Q1 Q2:Str->Shared->Prop) (s:Shared),(∀o s,Q1 o s->Q2 o s)->Joins (model X.prog X.w) X.A X.xe parts acc Q1 s->Joins (model X.prog X.w) X.A X.xe parts acc Q2 s:=fun parts=>by
  induction parts with
  | nil=>exact fun acc Q1 Q2 s h k=>h _ _ k
  | cons p ps ih=>exact fun acc Q1 Q2 s h k=>wpAny_mono k (fun v s1 ⟨y,u,e,l,j⟩=>⟨y,u,e,l,ih _ _ _ _ h j⟩) fun _ _ z=>z
 refine mono _ _ _ _ _ (fun o s1 ⟨l,H',I',k⟩=>⟨l,.str o,H',I'.tok _,⟨_,rfl⟩,k⟩) key
end
def RJ(C:Ct)(n:Nat)(es:List Expr)(ms:Ev->Res (List Str)):Prop :=
 ∃t,PJs C.X n es t/\∀(Oc:Wd) (Ob:Addr->Prop) (σ:St) (H:Hp) (ρ:Ev) (Q:List Str->Hp->Prop),Rel Oc Ob C.om C.ln σ H ρ ->
  (ms ρ).post (fun zs=>∀H',Same H H'->Q zs H') (fun c=>∀H',Same H H'->C.XE c H')->t σ H Q
def jN:Ev->Res (List Str):=fun _=>.ok []
def jC(a:Str)(ms:Ev->Res (List Str)):Ev->Res (List Str):=fun ρ=>(ms ρ).bind fun zs=>.ok (a::zs)
def jS(f:D->Option Str)(m:Ev->Res D)(ms:Ev->Res (List Str)):Ev->Res (List Str):=fun ρ=>(m ρ).bind fun x=>(Res.lft (f x)).bind fun z=>(ms ρ).bind fun zs=>.ok (z::zs)
def fI:D->Option Str
 | .int i=>if i.natAbs.log2<1920/\(toString i:Str).length<=1000000 then some (toString i) else none
 | _=>none
section
variable {C:Ct}{n:Nat}{es:List Expr}{ms:Ev->Res (List Str)}
theorem xQ8(hn:autoParam (n<=16) DH):RJ C n [] jN:=⟨_,zD5 hn,fun Oc Ob σ H ρ Q R h=>h H (Same.refl H)⟩
theorem zH5{a:Str}{j:Nat}{p:Pos}(h:RJ C (n+1) es ms)(ha:autoParam (a.length<=1000) DH)(hn:autoParam (n+1<=16) DH):RJ C n (.Constant (.str a) j p::es) (jC a ms):=by
 obtain⟨t,p,q⟩:=h
 exact⟨_,hV ha hn p,fun Oc Ob σ H ρ Q R h=>q Oc Ob σ H ρ _ R (Res.zT (Res.zU h) (fun zs _ k H' s=>k H' s) fun _ z=>z)⟩
theorem xM2{e:Expr}{md:Md}{m:Ev->Res D}{p:Pos}(he:RE C md e m)(h:RJ C (n+1) es ms)(hn:autoParam (n+1<=16) DH):RJ C n (.FormattedValue e (-1) none p::es) (jS fI m ms):=by
 obtain⟨te,pe,qe⟩:=he
 obtain⟨t,p,q⟩:=h
 refine⟨_,zC6 pe hn p,fun Oc Ob σ H ρ Q R h=>qe Oc Ob σ H ρ _ R (Res.zT (Res.zU h) (fun dx _ k x H1 s1 vx => ?_) fun _ z=>z)⟩
 obtain⟨z,ez,k1⟩:=Res.yV (Res.zU k)
 cases dx with
 | int i =>
  have e0:(if i.natAbs.log2<1920/\(toString i:Str).length<=1000000 then some (toString i:Str) else none)=some z:=ez
  split at e0
  ·rename_i hl
   cases e0
   exact⟨i,(vx.va R.oh).int,hl.1,hl.2,q Oc Ob σ H1 ρ _ (R.same s1) (Res.zT (Res.zU k1) (fun zs _ k2 H' s=>k2 H' (s1.trans s)) fun c z H' s=>z H' (s1.trans s))⟩
  ·cases e0
 | _=>cases ez
def eJ(ms:Ev->Res (List Str)):Ev->Res D:=fun ρ=>(ms ρ).bind fun zs=>.ok (.str (catZ Str.empty zs))
theorem yO6{v1 v2:Expr}{pos:Pos}(h:RJ C 0 (v1::v2::es) ms):RE C .cl (.JoinedStr (v1::v2::es) pos) (eJ ms):=by
 obtain⟨t,p,q⟩:=h
 exact⟨_,bN p,fun Oc Ob σ H ρ Q R h=>q Oc Ob σ H ρ _ R (Res.zT (Res.zU h) (fun zs _ k H' s=>k _ H' s (Rep.str _)) fun _ z=>z)⟩
end
end L2.L3
namespace L2.L3
open PySem PySem.Spec PyProof.Rows MR
variable [CN]
abbrev Fs:=List (Int×List D)
theorem zG1{a b:Str}{x:Res D}(h:x=.ok (.str a))(h':x=.ok (.str b)):a=b:=by
 rw[h] at h';cases h';rfl
open Classical in
mutual
inductive TV(H0 H:Hp):V->D->Prop
 | non:TV H0 H .non .none
 | int (i:Int):TV H0 H (.int i) (.int i)
 | tup {q:Addr}{xs:List V}{ds:List D}:H q=some (.tup xs)->H0 q=none->TVs H0 H xs ds->TV H0 H (.ref q) (.tuple ds)
inductive TVs(H0 H:Hp):List V->List D->Prop
 | nil:TVs H0 H [] []
 | cons {v:V}{d:D}{vs:List V}{ds:List D}:TV H0 H v d->TVs H0 H vs ds->TVs H0 H (v::vs) (d::ds)
end
def TK(H H':Hp):Prop:=∀q xs,H q=some (.tup xs)->H' q=some (.tup xs)
section
variable {H0 H H':Hp}
mutual
theorem TV.keep(k:TK H H'):∀{v:V}{d:D},TV H0 H v d->TV H0 H' v d
 | _,_,.non=>.non
 | _,_,.int i=>.int i
 | _,_,.tup e n t=>.tup (k _ _ e) n (TVs.keep k t)
theorem TVs.keep(k:TK H H'):∀{vs:List V}{ds:List D},TVs H0 H vs ds->TVs H0 H' vs ds
 | _,_,.nil=>.nil
 | _,_,.cons h t=>.cons (TV.keep k h) (TVs.keep k t)
end
mutual
theorem TV.rep{O:Addr->Prop}(oh:∀a,O a->H0 a≠none):∀{v:V}{d:D},TV H0 H v d->Rep H O v d
 | _,_,.non=>.non
 | _,_,.int i=>.int i
 | _,_,.tup e n t=>.tup (.inl e) (fun z=>oh _ z n) (TVs.rep oh t)
theorem TVs.rep{O:Addr->Prop}(oh:∀a,O a->H0 a≠none):∀{vs:List V}{ds:List D},TVs H0 H vs ds->Reps H O vs ds
 | _,_,.nil=>.nil
 | _,_,.cons h t=>.cons (TV.rep oh h) (TVs.rep oh t)
end
theorem TVs.len:∀{vs:List V}{ds:List D},TVs H0 H vs ds->vs.length=ds.length
 | _,_,.nil=>rfl
 | _,_,.cons _ t=>AZ (·+1) (TVs.len t)
theorem TVs.app{v:V}{d:D}(h:TV H0 H v d):∀{vs:List V}{ds:List D},TVs H0 H vs ds->TVs H0 H (vs ++ [v]) (ds ++ [d])
 | _,_,.nil=>.cons h .nil
 | _,_,.cons g t=>.cons g (TVs.app h t)
theorem dB(s:Same H H'):TK H H':=fun q xs e=>s q _ e
theorem zC7{a:Addr}{xs:List V}{o:HO}(h:H a=some (.lst xs)):TK H (upd H a o):=fun q ys e=>by
 rw[zM (fun z=>by rw[z,h] at e;cases e)]
 exact e
theorem TK.trans{H'':Hp}(k:TK H H')(l:TK H' H''):TK H H'':=fun q xs e=>l q xs (k q xs e)
theorem zV3{a:Addr}{o:HO}(s:Same H0 H)(n:H0 a=none):Same H0 (upd H a o):=fun q u e=>by
 rw[zM (fun z=>by rw[z,n] at e;cases e)]
 exact s q u e
theorem aZ{a:Addr}(s:Same H H')(n:H' a=none):H a=none:=by
 cases e:H a with
 | none=>rfl
 | some o=>rw[s a o e] at n;cases n
end
inductive FR(H0:Hp)(b:Addr)(H:Hp):Fs->List V->List Addr->Prop
 | nil:FR H0 b H [] [] []
 | cons {n:Int}{ds:List D}{fs:Fs}{vs:List V}{las:List Addr}{q la:Addr}{ws:List V}:FR H0 b H fs vs las->H q=some (.tup [.int n,.ref la])->H la=some (.lst ws)->H0 la=none->la≠b->la∉las->TVs H0 H ws ds->FR H0 b H ((n,ds)::fs) (vs ++ [.ref q]) (la::las)
section
variable {H0 H H':Hp}{b:Addr}
theorem FR.keep(k:TK H H'):∀{fs:Fs}{vs:List V}{las:List Addr},(∀la∈las,∀ws,H la=some (.lst ws)->H' la=some (.lst ws))->FR H0 b H fs vs las->FR H0 b H' fs vs las
 | _,_,_,_,.nil=>.nil
 | _,_,_,l,.cons t hq hl n nb nl tv=>.cons (t.keep k fun la h=>l la (Ai _ h)) (k _ _ hq) (l _ Ae _ hl) n nb nl (tv.keep k)
theorem FR.len:∀{fs:Fs}{vs:List V}{las:List Addr},FR H0 b H fs vs las->vs.length=fs.length
 | _,_,_,.nil=>rfl
 | _,_,_,.cons t _ _ _ _ _ _=>by rw[Af,t.len];rfl
theorem FR.mem:∀{fs:Fs}{vs:List V}{las:List Addr},FR H0 b H fs vs las->∀la∈las,la≠b/\∃ws,H la=some (.lst ws)
 | _,_,_,.nil,_,h=>nomatch h
 | _,_,_,.cons t _ hl _ nb _ _,la,h=>by
  rcases Aw.mp h with rfl | h
  ·exact⟨nb,_,hl⟩
  ·exact t.mem la h
end
def Stt(H0 H:Hp)(b:Addr)(fs:Fs):Prop:=∃vs las,Same H0 H/\H0 b=none/\H b=some (.lst vs)/\FR H0 b H fs vs las
theorem Stt.same{H0 H H':Hp}{b:Addr}{fs:Fs}(S:Stt H0 H b fs)(s:Same H H'):Stt H0 H' b fs:=by
 obtain⟨vs,las,sm,fb,hb,fr⟩:=S
 exact⟨vs,las,sm.trans s,fb,s _ _ hb,fr.keep (dB s) fun la _ ws e=>s _ _ e⟩
section
variable (K:KFr) (F1 F2:List D->Res D)
end
theorem callX{F:List D->Res D}{vs:List V}{ds:List D}{d:D}{H:Hp}{Q:VK}{E:XK}(e:F ds=.ok d)(r:Reps H (fun _=>False) vs ds)(k:∀v H',Same H H'->Rep H' (fun _=>False) v d->Q v H'):spX false F vs H Q E :=
 ⟨ds,fun _=>False,fun _ z=>z.elim,r,by rw[e];exact fun v H' s c=>k v H' s c⟩
section
variable {K:KFr}{F1 F2:List D->Res D}{r p:Int}{t:D}{H0:Hp}{b:Addr}{z:V}
end
section
variable {P:Program}{w:World}{K:KFr}{mg:Str->Option Value}{base:Heap}
end
end L2.L3
namespace L2.L3
open PySem PySem.Spec PyProof.Rows
variable [CN]
section
omit [CN]
theorem vQ{h:Heap}{C b:Addr}{o:Obj}(e:(PySem.W.hideAll h [C]).get? b=some o):h.get? b=some o/\b≠C :=
 ⟨CS _ e,fun z=>by rw[z,CC _ (.head _)] at e;cases e⟩
theorem wL{h:Heap}{C b:Addr}{o:Obj}(e:h.get? b=some o)(n:b≠C):(PySem.W.hideAll h [C]).get? b=some o :=
 Ch _ e fun z=>n (by simpa using z)
theorem jP{h:Heap}{C b:Addr}(e:h.get? b=none):(PySem.W.hideAll h [C]).get? b=none:=by
 cases q:(PySem.W.hideAll h [C]).get? b with
 | none=>rfl
 | some o=>rw[(vQ q).1] at e;cases e
theorem zD8{h g B:Heap}{C:Addr}:∀{l:List Env},h.FunFrames B l->(∀b o,b∈frs l->h.get? b=some o->(∀vs,o.data ≠ .fields vs)->∃o',g.get? b=some o'/\o'.data=o.data)->g.FunFrames (PySem.W.hideAll B [C]) l
 | [],_,_=>trivial
 | env::l,⟨k,⟨L,o,h1,h2,h3,h4⟩,r⟩,q=>by
  have ml:L∈frs (env::l):=Bz.mpr ⟨env,Ae,h1⟩
  obtain⟨o',e1,e2⟩:=q L o ml h3 h4
  refine⟨k,⟨L,o',h1,jP h2,e1,fun vs=>by rw[e2];exact h4 vs⟩,zD8 r fun b o hb=>q b o ?_⟩
  obtain⟨e,he,hf⟩:=Bz.mp hb
  exact Bz.mpr ⟨e,Ai _ he,hf⟩
theorem zP8{h g B B':Heap}{e:Addr}{cls a0 fl:Value}(t:h.TracedAtW B e cls a0 fl)(q:∀b o ts,h.get? b=some o->o.data=.fields ts->g.get? b=some o)(k:∀b,B.get? b=none->B'.get? b=none):g.TracedAtW B' e cls a0 fl:=by
 obtain⟨oe,vs,T,oT,ts,g1,g2,g4,g5,g6,g7,g8,g9,g10⟩:=t
 exact⟨oe,vs,T,oT,ts,q _ _ _ g1 g4,g2,g4,g5,k _ g6,g7,q _ _ _ g8 g9,g9,g10⟩
end
theorem zD9{X:Cx}{XE:Str->Hp->Prop}{N:List Str}{scope:Scope}{C D:Addr}{fp:List Addr}{s₂:Shared}{H₂:Hp}{DJ:List (Addr×Obj)}{σ:St}{use:Option (Value->Sem Unit)}{Qv:Value->Shared->Prop}{xe:Value->Shared->Prop}
  (hb:∀c H e s,ExcAt X c H e s->XE c H->X.xe e s) (hst:X.stack=X.env::X.outer) (hfr:X.env.frame=some X.env.locals) (I2:Inv X DJ σ H₂ s₂) (f2:∀b∈fp,FpOk X DJ H₂ b) (hC:s₂.heap.objs.size<=C)
  (c:Str) (H:Hp) (e:Value) (s:Shared) (x:ExcAt ((cxComp X N scope C fp s₂ H₂).wish xe) c H e s) (z:XE c H) :
  notedBy (model X.prog X.w) X.A (compEnvC scope (clos X.env.cells scope.names []) C X.env) (fun e s'=>compPost (model X.prog X.w) X.A X.xe use Qv (.ref D) C (.error e) s') e s:=by
 obtain⟨pins',σ',s1,H1,a,B,a0,J1,J,un,rfl,n1,n2,f⟩:=x
 have un:Un (frs X.stack) [] H1 H s1.heap s.heap:=un
 have f:Fl X.stack s1.heap H a (.ref (CN.ad c)) (rowOf c) B a0 s.heap:=f
 have c1:H1 C=none:=J1.free
 have cc:H C=none:=J.free
 have nC:C∉frs X.stack:=fun z=>by
  rcases Aw.mp (I2.stkSub C z) with q | q
  ·exact absurd I2.lt (by rw[<-q];exact Cc.mpr hC)
  ·exact I2.nofs (a:=C) hC q
 obtain⟨m1,⟨oc1,es1,ep1,q1,_⟩,_⟩:=id J1.loc
 obtain⟨m,hn,_⟩:=id J.loc
 obtain⟨oc,es,ep,qc,dc,_⟩:=id hn
 have q1:s1.heap.get? C=some oc1:=q1
 have hn:s.heap.Ns C m:=hn
 have qc:s.heap.get? C=some oc:=qc
 have aC:a≠C:=fun y=>by subst y;rw[n1] at q1;cases q1
 have fC:∀b o ts,s.heap.get? b=some o->o.data=.fields ts->b≠C:=fun b o ts q d y=>by
  subst y
  rw[qc] at q
  cases q
  rw[d] at dc
  cases dc
 have u1:Un (frs X.stack) fp H₂ H1 s₂.heap s1.heap:=J1.base
 have lt:∀b o,s₂.heap.get? b=some o->b≠C:=fun b o q y=>Cc.mpr hC (y▸Am q)
 have tk:∀{K:Hp}(b:Addr),K C=none->K b≠none->b≠C:=fun b h n y=>n (y▸h)
 have I1:Inv X DJ σ H1 { s1 with heap:=PySem.W.hideAll s1.heap [C] }:=by
  refine I2.call' (s':={ s1 with heap:=PySem.W.hideAll s1.heap [C] }) (ch:=fp) J1.os ⟨fun b o q n hb hx=>wL (u1.keep b o q n hb hx) (lt b o q),fun b o q n hb hx => ?_,u1.free,fun b o q hx => ?_,u1.tups,u1.frzs,u1.tbls⟩ (fun b o q => ?_) J1.bare fun b hb=>⟨(f2 b hb).2.2.2.1,(f2 b hb).2.1,(f2 b hb).2.2.2.2.1,(f2 b hb).2.2.2.2.2⟩
  ·obtain⟨sl,e⟩:=u1.slot b o q n hb hx
   exact⟨sl,wL e (lt b o q)⟩
  ·obtain⟨o',e⟩:=u1.there b o q hx
   exact⟨o',wL e (lt b o q)⟩
  ·refine (J1.hok b o q).stay (fun b' u hb' e=>wL e ?_) (fun _ z=>z) fun _ _ z=>z
   rcases hb' with rfl | hb'
   ·exact tk b' c1 (wP q)
   ·exact tk b' c1 (wP hb')
 have un':Un (frs X.stack) [] H1 H (PySem.W.hideAll s1.heap [C]) (PySem.W.hideAll s.heap [C]):=by
  refine⟨fun b o q n hb hx=>wL (un.keep b o (vQ q).1 n hb hx) (vQ q).2,fun b o q n hb hx => ?_,fun b o q n hx=>un.free b o (vQ q).1 n hx,fun b o q hx => ?_,un.tups,un.frzs,un.tbls⟩
  ·obtain⟨sl,e⟩:=un.slot b o (vQ q).1 n hb hx
   exact⟨sl,wL e (vQ q).2⟩
  ·obtain⟨o',e⟩:=un.there b o (vQ q).1 hx
   exact⟨o',wL e (vQ q).2⟩
 have hok:HOk X.prog X.w H (PySem.W.hideAll s.heap [C]):=fun b o q=>by
  refine (J.hok b o q).stay (fun b' u hb' e=>wL e ?_) (fun _ z=>z) fun _ _ z=>z
  rcases hb' with rfl | hb'
  ·exact tk b' cc (wP q)
  ·exact tk b' cc (wP hb')
 have I:Inv X DJ σ H { s with heap:=PySem.W.hideAll s.heap [C] }:=I1.call' (s':={ s with heap:=PySem.W.hideAll s.heap [C] }) (J.os.trans J1.os.symm) un' hok J.bare (fun b z=>by cases z)
 have frC:∀b,b∈frs X.stack->b≠C:=fun b q y=>nC (y▸q)
 have hidK:∀{od:Option Addr}{v:Value},FlK (.ref (CN.ad c)) (rowOf c) B s1.heap H od v->FlK (.ref (CN.ad c)) (rowOf c) (PySem.W.hideAll B [C]) (PySem.W.hideAll s1.heap [C]) H od v:=fun ⟨y1,y2⟩=>⟨y1,fun r e=>by
  obtain⟨d,z1,z2,z3,z4⟩:=y2 r e
  exact⟨d,z1,z2.keeps (fun o q=>wL q (fun y=>by rw[y,q1] at z4;cases z4)),z3,jP z4⟩⟩
 have fl:Fl X.stack (PySem.W.hideAll s1.heap [C]) H a (.ref (CN.ad c)) (rowOf c) (PySem.W.hideAll B [C]) a0 (PySem.W.hideAll s.heap [C]):=by
  refine⟨fun b o q=>wL (f.stays b o (vQ q).1) (vQ q).2,jP f.newB,zD8 f.frm fun b o hb q d=>⟨o,wL q (frC b hb),rfl⟩,?_,?_,fun b o q nb hh => ?_⟩
  ·rcases f.raw with ⟨fl,t⟩ | ⟨oe,vs,h1,h2,h3,h4⟩
   ·exact .inl ⟨fl,zP8 t (fun b o ts q d=>wL q (fC b o ts q d)) fun b=>jP⟩
   ·exact .inr ⟨oe,vs,wL h1 aC,h2,h3,h4⟩
  ·obtain⟨oe,vs,v,y1,y2⟩:=f.kp.mono fun _ _=>hidK
   exact⟨oe,vs,v,wL y1 aC,y2⟩
  ·obtain⟨q1,q2⟩:=vQ q
   refine wL (f.cov b o q1 nb (hh.elim (fun hh=>.inl fun y=>hh (jP y)) .inr)) q2
 have hfrm:s.heap.FunFrames B (X.env::X.outer):=by rw[<-hst];exact f.frm
 have hA:X.A.frames=some (X.env::X.outer):=by rw[<-hst];exact I2.ok.frames
 obtain⟨Φ,hP⟩:∃Φ,Φ=FlK (.ref (CN.ad c)) (rowOf c) (PySem.W.hideAll B [C]) (PySem.W.hideAll s1.heap [C]) H:=⟨_,rfl⟩
 have fk:KpX Φ a s.heap:=hP▸f.kp.mono fun _ _=>hidK
 have key:∀h',Heap.NotedW B (X.env::X.outer) a (.ref (CN.ad c)) a0 (rawInt X.env.locals) s.heap h'->KpX Φ a h'->compPost (model X.prog X.w) X.A X.xe use Qv (.ref D) C (.error (.ref a)) { s with heap:=h' }:=by
  rintro h' ⟨k1,k2,k3,k4⟩ kh
  have hn':h'.Ns C m:=Heap.UpToSlots.ns k4 hn
  obtain⟨_,_,_,qc',dc',_⟩:=id hn'
  have fin:∃m,h'.Ns C m/\∀h'',Heap.SameBut C h' h''->∀cenv:Env,cenv.locals=C->wpAny (model X.prog X.w) X.A (PySem.passOn "comprehension.variables-let-go" (.ref a) cenv:Sem Value) (fun _ _=>False) X.xe { s with heap:=h'' }:=by
   refine⟨m,hn',fun h'' sb cenv ec => ?_⟩
   have t2:h''.TracedAtW B a (.ref (CN.ad c)) a0 (rawInt X.env.locals):=zP8 k3 (fun b o ts q d=>(sb.2 b fun y=>by
    subst y
    rw[qc'] at q
    cases q
    rw[d] at dc'
    cases dc').trans q) fun b q=>q
   have kh2:KpX Φ a h'':=kh.same (sb.2 a aC)
   refine yD9 (s:={ s with heap:=h'' }) t2 kh2 fun g3 T fl' b1 b2 ⟨o,ts,b3,b4⟩ b5 kh3 => ?_
   have S3:(PySem.W.hideAll B [C]).StaysIn g3:=fun b u q=>by
    obtain⟨y1,y2⟩:=vQ q
    rw[b2 b fun y=>by rw[y,b1] at y1;cases y1]
    exact (sb.2 b y2).trans (k1 b u y1)
   have noT:∀b u,h''.get? b=some u->(∀vs,u.data ≠ .fields vs)->b≠T:=fun b u q d y=>by
    subst y
    have b3:h''.get? b=some o:=b3
    rw[b3] at q
    cases q
    exact d ts b4
   have F3:g3.FunFrames (PySem.W.hideAll B [C]) X.stack:=by
    rw[hst]
    refine zD8 k2 fun b u hb q d=>⟨u,?_,rfl⟩
    have q2:h''.get? b=some u:=(sb.2 b (frC b (by rw[hst];exact hb))).trans q
    exact (b2 b (noT b u q2 d)).trans q2
   have U3:(PySem.W.hideAll s.heap [C]).UpToSlots g3:=fun b u q d=>by
    obtain⟨y1,y2⟩:=vQ q
    obtain⟨sl,y3⟩:=k4 b u y1 d
    have q2:h''.get? b=some { u with slots:=sl }:=(sb.2 b y2).trans y3
    exact⟨sl,(b2 b (noT b _ q2 d)).trans q2⟩
   obtain⟨K,un3,cov⟩:=aE I1 I un' fl S3 F3 U3
   exact hb c H _ _ ⟨DJ,σ,_,H1,a,PySem.W.hideAll B [C],a0,I1,K,un3,rfl,jP n1,n2,⟨S3,jP f.newB,F3,.inl ⟨fl',zP8 b5 (fun b o ts q d=>q) fun b=>jP⟩,hP▸kh3,cov⟩⟩ z
  cases use <;> exact fin
 show wpAny (model X.prog X.w) X.A (noteFrame (.ref a) X.env) (fun _ s''=>compPost (model X.prog X.w) X.A X.xe use Qv (.ref D) C (.error (.ref a)) s'') (fun e' s''=>compPost (model X.prog X.w) X.A X.xe use Qv (.ref D) C (.error e') s'') s
 rcases f.raw with ⟨fl,t⟩ | ⟨oe,vs,he,hc,hd,h1,h0⟩
 ·exact gJ hA hfrm hfr t f.stays f.newB fk key
 ·rw[<-hc] at key
  unfold noteFrame
  simp only[hfr]
  refine Ab (wpAny_field he hd h1 ?_)
  rw[Ax (by decide)]
  exact entryK hA hfrm hfr he f.stays f.newB hd (AY.mp h1).1 h0 fk key
def BrI(X:Cx)(XE:Str->Hp->Prop)(N:List Str)(scope:Scope)(C:Addr)(fp:List Addr)(s₂:Shared)(H:Hp)(xe:Value->Shared->Prop):Prop:=∀c H' e s,ExcAt ((cxComp X N scope C fp s₂ H).wish xe) c H' e s->XE c H'->xe e s
def tCompX(X:Cx)(XE:Str->Hp->Prop)(N:List Str)(scope:Scope)(wi:TI)(tt:(C:Addr)->(fp:List Addr)->(s₂:Shared)->(H:Hp)->(xe:Value->Shared->Prop)->BrI X XE N scope C fp s₂ H xe->TT)(te:(C:Addr)->(fp:List Addr)->(s₂:Shared)->(H:Hp)->(xe:Value->Shared->Prop)->BrI X XE N scope C fp s₂ H xe->TE)(js:List Nat):TE:=fun σ H Q=>wi σ H fun J H1=>∀C fp s₂ H₂ xe br,∃W:Nat->Nat->List V->Hp->Prop,(∃m,W 0 m [] H1)/\∀i m acc H,W i m acc H ->
 (J.stop i H/\∀p,H p=none->Q (.ref p) (upd H p (.lst acc))) \/
 (J.go i H/\∃Nx:List V->Hp->Prop,(∀acc' H',Nx acc' H'->∃m',m'<m/\W (i+1) m' acc' H') /\
  ∀x H',J.yld i H x H'->tt C fp s₂ H₂ xe br (compSt σ js (some x)) H' fun b H2=>if b=true then te C fp s₂ H₂ xe br (compSt σ js (some x)) H2 fun v H3=>acc.length<sizeLine/\Nx (acc ++ [v]) H3 else Nx acc H2)
theorem yR5{X:Cx}{elt iter:Expr}{ifs:List Expr}{sc0 scope:Scope}{N0:List Str}{px pos:Pos}{xt:Str}{fs:List Str}{js:List Nat}{wi:TI}{XE:Str->Hp->Prop}{tt:(C:Addr)->(fp:List Addr)->(s₂:Shared)->(H:Hp)->(xe:Value->Shared->Prop)->BrI X XE (xt::fs) scope C fp s₂ H xe->TT}{te:(C:Addr)->(fp:List Addr)->(s₂:Shared)->(H:Hp)->(xe:Value->Shared->Prop)->BrI X XE (xt::fs) scope C fp s₂ H xe->TE}(hb:∀c H e s,ExcAt X c H e s->XE c H->X.xe e s)(hst:X.stack=X.env::X.outer)(hfr:X.env.frame=some X.env.locals)(S:CompScope sc0 scope N0 xt fs js)(h0:X.env.scope=sc0)(hN0:X.N=N0)(hc:X.calm=true)
  (hi:PI X (.Name xt px) iter wi) (ht:∀C fp s₂ H xe br,PTs ((cxComp X (xt::fs) scope C fp s₂ H).wish xe) ifs (tt C fp s₂ H xe br)) (he:∀C fp s₂ H xe br,PE ((cxComp X (xt::fs) scope C fp s₂ H).wish xe) elt (te C fp s₂ H xe br))
  (hs:autoParam (∀x,foldedSetIterable iter X.env x=pure x) DG)
  {DJ:List (Addr×Obj)}{cpos:Pos}{s:Shared}{σ:St}{H:Hp}{Q:VK}{use:Option (Value->Sem Unit)}{Qv:Value->Shared->Prop}(I:Inv X DJ σ H s) (h:tCompX X XE (xt::fs) scope wi tt te js σ H Q)
  (hfin:∀(s':Shared) (C D:Addr) (Ha:Hp) (fl:Flow),(∀h'',Heap.SameBut C s'.heap h''->Inv X DJ σ Ha { s' with heap:=h'' })->(∃m,s'.heap.Ns C m)->FpOk X DJ Ha C->Q (.ref D) Ha->compPost (model X.prog X.w) X.A X.xe use Qv (.ref D) C (.ok fl) s') :
  wpAny (model X.prog X.w) X.A (comprehension (.ListComp elt [⟨.Name xt px,iter,ifs,0⟩] scope pos) scope X.env cpos (newList []) false (eval iter X.env) use) Qv X.xe s:=by
 refine wpAny_comprehension_free (use:=use) rfl hs (jD (S.cells h0 I.ok)) S.kind S.names ?_
 refine thn (hi DJ s σ H _ I h) fun v s1 h1=>thn h1 fun itv s2 h2 => ?_
 obtain⟨it,fp,tn,J,H2,e,I2,T,st2,f2,hW⟩:=h2
 subst e
 have fo:∀b∈fp,∃o,s2.heap.get? b=some o:=fun b hb=>let ⟨o,e,_⟩:=T.obj 0 s2.heap st2 b hb; ⟨o,e⟩
 have blt:∀b∈fp,b<s2.heap.objs.size:=fun b hb=>let ⟨o,e⟩:=fo b hb;Am e
 refine bG S.nocell S.kind fun D C h₁ mC hDle hCle hDC old hacc hns₁ => ?_
 have bC:∀b o,s2.heap.get? b=some o->b≠C:=fun b o q z=>Cc.mpr hCle (z▸Am q)
 have bD:∀b o,s2.heap.get? b=some o->b≠D:=fun b o q z=>Cc.mpr hDle (z▸Am q)
 have br:BrI X XE (xt::fs) scope C fp s2 H2 (notedBy (model X.prog X.w) X.A (compEnvC scope (clos X.env.cells scope.names []) C X.env) (fun e s'=>compPost (model X.prog X.w) X.A X.xe use Qv (.ref D) C (.error e) s')):=fun c H e s x z=>zD9 hb hst hfr I2 f2 hCle c H e s x z
 generalize hxe:(notedBy (model X.prog X.w) X.A (compEnvC scope (clos X.env.cells scope.names []) C X.env) (fun e s'=>compPost (model X.prog X.w) X.A X.xe use Qv (.ref D) C (.error e) s'))=xe at br
 have noE:∀(a:Value) (s':Shared),xe a s'->notedBy (model X.prog X.w) X.A (compEnvC scope (clos X.env.cells scope.names []) C X.env) (fun e s'=>compPost (model X.prog X.w) X.A X.xe use Qv (.ref D) C (.error e) s') a s':=fun a s' z=>by rw[hxe];exact z
 obtain⟨W,⟨m0,w0⟩,turn⟩:=hW C fp s2 H2 xe br
 have fpk:∀{H':Hp}(ob:Obj),(∀b∈fp,H' b=none)->∀b∈fp,FpOk ((cxComp X (xt::fs) scope C fp s2 H2).wish xe) [(D,ob)] H' b:=fun {H'} ob hn b hb=>by
  refine⟨hn b hb,AL (Ar (blt b hb) hCle),fun z => ?_,.inl hb,fun x c e=>(f2 b hb).2.2.2.2.1 x c (S.sub h0 I2.ok x c e),fun p hp => ?_⟩
  ·rcases Aw.mp (I2.stkSub b z) with q | q
   ·exact (f2 b hb).2.1 q
   ·exact (f2 b hb).2.2.1 q
  ·have:p=(D,ob):=by
    have hp:p ∈ [] ++ [(D,ob)]:=hp
    simpa using hp
   subst this
   exact Co (Ar (blt b hb) hDle)
 have loop:codeAny (model X.prog X.w) X.A (.compLoop (.ListComp elt [⟨.Name xt px,iter,ifs,0⟩] scope pos) 0 (.ref it) (.ref D) (compEnvC scope (clos X.env.cells scope.names []) C X.env))
    (compPost (model X.prog X.w) X.A X.xe use Qv (.ref D) C) { s2 with heap:=h₁ }:=by
  have J0:Inv ((cxComp X (xt::fs) scope C fp s2 H2).wish xe) [] (compSt σ js none) H2 { s2 with heap:=h₁ } :=
   (Inv.block (s₂:=s2) (s₄:={ s2 with heap:=h₁ }) S h0 hN0 I2 f2 fo rfl I2.bare old hCle hns₁).wish xe
  have H2D:H2 D=none:=I2.hok.fresh hDle
  have ofD:D∉frs X.stack:=fun z=>by
   rcases Aw.mp (I2.stkSub D z) with q | q
   ·exact absurd I2.lt (by rw[<-q];exact Cc.mpr hDle)
   ·exact I2.nofs (a:=D) hDle q
  refine codeAny_loop rfl (fun n s'=>∃(i:Nat) (σ':St) (H':Hp) (acc:List V) (its:List Value) (k:Nat),(∃v0,σ'=compSt σ js v0)/\Inv ((cxComp X (xt::fs) scope C fp s2 H2).wish xe) [] σ' H' s'/\tn i s'.heap/\(∀b∈fp,H' b=none)/\H' D=none /\
    s'.heap.get? D=some { cls:=.type "list",data:=.seq its.toArray k }/\Vals acc its/\acc.length<=sizeLine/\W i n acc H') ?_ m0
   ⟨0,_,H2,[],[],0,⟨none,rfl⟩,J0,T.keep 0 _ _ st2 fun b hb o e=>old b o e,fun b hb=>(f2 b hb).1,H2D,hacc,.nil,AM _,w0⟩
  rintro n s3 ⟨i,σ3,H3,acc,its,k,⟨v0,rfl⟩,I3,st3,fr3,hD3,d3,va,hz,w3⟩
  show wpAny _ X.A ((compTurn (.ListComp elt [⟨.Name xt px,iter,ifs,0⟩] scope pos) 0 (.ref it) (.ref D) (compEnvC scope (clos X.env.cells scope.names []) C X.env)).onRaise (fun x=>do noteFrame x (compEnvC scope (clos X.env.cells scope.names []) C X.env);theTreesLotGoes x)) _ _ s3
  refine wpAny_noted ?_
  rw[compTurn_list]
  refine Ab (wpAny_standAt ?_)
  have pinD:Inv ((cxComp X (xt::fs) scope C fp s2 H2).wish xe) [(D,{ cls:=.type "list",data:=.seq its.toArray k })] (compSt σ js v0) H3 s3:=I3.xE fun p hp=>by
   have:p=(D,{ cls:=.type "list",data:=.seq its.toArray k }):=by simpa using hp
   subst this
   exact⟨d3,hD3,hDC,ofD,fun v z=>by cases z⟩
  refine Ab ?_
  rcases turn i n acc H3 w3 with ⟨stop,qn⟩ | ⟨go,N,hN,step⟩
  ·refine thn (T.done ((cxComp X (xt::fs) scope C fp s2 H2).wish xe) rfl rfl rfl hc i _ s3 _ H3 _ pinD (fpk _ fr3) st3 stop) fun r s4 ⟨hr,I4⟩ => ?_
   subst hr
   refine Ao ?_
   obtain⟨m4,hn4,_⟩:=I4.loc
   have hHC:H3 C=none:=I4.free
   refine hfin s4 C D (upd H3 D (.lst acc)) _ (fun h'' hsb=>I2.unblock f2 I4.unwish hCle hDle hDC hD3 ((I4.pin (D,{ cls:=.type "list",data:=.seq its.toArray k }) (Ah _ Ae)).1) va hz hsb) ⟨m4,hn4⟩ (I2.fpOk hCle (by rw[zM (AX hDC)];exact hHC)) (qn D hD3)
  ·refine thn (T.item ((cxComp X (xt::fs) scope C fp s2 H2).wish xe) rfl rfl rfl hc i _ s3 _ H3 _ pinD (fpk _ fr3) st3 go) fun r s4 ⟨u,hr,h4⟩ => ?_
   subst hr
   refine Ab (thn h4 fun _ s5 ⟨x,H5,I5,r5,y5,st5,fr5⟩ => ?_)
   have I5':=I5.pinned (fpk _ fr5) (T.obj _ _ st5)
   have gok:PG ((cxComp X (xt::fs) scope C fp s2 H2).wish xe) (.Name xt px) (gName 0):=kM S.nd rfl (.inl (lookup_relabel_local S.tgt)) (.inr (lookup_relabel_local S.tgt))
   refine Ab (wpAny_mono (gok _ s5 (compSt σ js v0) H5 x u (fun σ' H'=>σ'=compSt σ js (some x)/\H'=H5) I5' r5 ⟨rfl,rfl⟩) (fun _ s6 ⟨σ6,H6,I6,e6,e6'⟩ => ?_) noE)
   subst e6 e6'
   have fin:∀{acc':List V}{its':List Value}{k':Nat}{H7:Hp}{s7:Shared},Inv ((cxComp X (xt::fs) scope C fp s2 H2).wish xe) [] (compSt σ js (some x)) H7 s7->tn (i+1) s7.heap->(∀b∈fp,H7 b=none)->H7 D=none->s7.heap.get? D=some { cls:=.type "list",data:=.seq its'.toArray k' }->Vals acc' its'->acc'.length<=sizeLine->N acc' H7 ->
     ∃m,m<n/\∃(i:Nat) (σ':St) (H':Hp) (acc:List V) (its:List Value) (k:Nat),(∃v0,σ'=compSt σ js v0)/\Inv ((cxComp X (xt::fs) scope C fp s2 H2).wish xe) [] σ' H' s7/\tn i s7.heap/\(∀b∈fp,H' b=none)/\H' D=none /\
      s7.heap.get? D=some { cls:=.type "list",data:=.seq its.toArray k }/\Vals acc its/\acc.length<=sizeLine/\W i m acc H':=fun {acc' its' k' H7 s7} a1 a2 a3 a4 a5 a6 a7 a8=>by
    obtain⟨m',hm,w7⟩:=hN _ _ a8
    exact⟨m',hm,i+1,_,H7,acc',its',k',⟨_,rfl⟩,a1,a2,a3,a4,a5,a6,a7,w7⟩
   have rest:∀{H7:Hp}{s7:Shared},Inv ((cxComp X (xt::fs) scope C fp s2 H2).wish xe) ([(D,{ cls:=.type "list",data:=.seq its.toArray k })]++pinsAt fp s5.heap) (compSt σ js (some x)) H7 s7 ->
     tn (i+1) s7.heap/\(∀b∈fp,H7 b=none)/\H7 D=none/\s7.heap.get? D=some { cls:=.type "list",data:=.seq its.toArray k }:=fun {H7 s7} I7=>by
    refine⟨T.keep _ _ _ st5 fun b hb o e=>(I7.pin (b,o) (Ah _ (Ah _ (vX hb e)))).1,fun b hb => ?_,(I7.pin (D,{ cls:=.type "list",data:=.seq its.toArray k }) (Ah _ (AW _ Ae))).2.1,(I7.pin (D,{ cls:=.type "list",data:=.seq its.toArray k }) (Ah _ (AW _ Ae))).1⟩
    obtain⟨o,e,d⟩:=T.obj _ _ st5 b hb
    exact (I7.pin (b,o) (Ah _ (Ah _ (vX hb e)))).2.1
   have elem:∀{H7:Hp}{s7:Shared},Inv ((cxComp X (xt::fs) scope C fp s2 H2).wish xe) ([(D,{ cls:=.type "list",data:=.seq its.toArray k })]++pinsAt fp s5.heap) (compSt σ js (some x)) H7 s7 ->
     (te C fp s2 H2 xe br (compSt σ js (some x)) H7 fun v H3=>acc.length<sizeLine/\N (acc ++ [v]) H3) ->
     wpAny (model X.prog X.w) X.A (eval elt (compEnvC scope (clos X.env.cells scope.names []) C X.env)) (fun y s8=>wpAny (model X.prog X.w) X.A (call (.builtin "list.append") [.ref D,y]) (fun _ s9=>∃m,m<n/\∃(i:Nat) (σ':St) (H':Hp) (acc:List V) (its:List Value) (k:Nat),(∃v0,σ'=compSt σ js v0)/\Inv ((cxComp X (xt::fs) scope C fp s2 H2).wish xe) [] σ' H' s9/\tn i s9.heap/\(∀b∈fp,H' b=none)/\H' D=none /\
      s9.heap.get? D=some { cls:=.type "list",data:=.seq its.toArray k }/\Vals acc its/\acc.length<=sizeLine/\W i m acc H')
      xe s8) xe s7:=fun {H7 s7} I7 q7=>by
    refine thn (he C fp s2 H2 xe br _ s7 _ H7 _ I7 q7) fun y s8 ⟨v,H8,I8,r8,hl8,n8⟩ => ?_
    obtain⟨t8,fr8,hD8,d8⟩:=rest I8
    have hsz:=va.length
    refine call_meets CU ⟨_,d8,rfl⟩ CO (CF _ _) (Da D its.toArray k y (by rw[AC];rfl')) ⟨d8,?_⟩
    have q:=Dl d8 (·.push y)
    rw[show (its.toArray.push y)=(its ++ [y]).toArray by simp] at q
    have kk:∀b o,b≠D->s8.heap.get? b=some o->(s8.heap.update D (Obj.mapSeq (·.push y))).get? b=some o:=fun b o hb e=>(AE s8.heap _ (AX hb)).trans e
    have I9:Inv ((cxComp X (xt::fs) scope C fp s2 H2).wish xe) [] (compSt σ js (some x)) H8 { s8 with heap:=s8.heap.update D (Obj.mapSeq (·.push y)) }:=by
     refine Inv.turned (it:=D) (t':=s8.toks) (I8.xE (pins':=[]) fun p hp=>nomatch hp) kk hD8 hDC (.inr hDle) (fun x c e z => ?_) fun p hp=>absurd (show p∈([]:List (Addr×Obj)) from hp) (by simp)
     obtain⟨v,o,ho,_⟩:=I2.cell x c (S.sub h0 I2.ok x c e)
     exact bD c o ho z
    refine fin I9 (T.keep _ _ _ t8 fun b hb o e=>kk b o (AL (Ar (blt b hb) hDle)) e) fr8 hD8 q (va.append (.cons r8 .nil)) ?_ n8
    rw[Af,Bt]
    rfl'
   have q6:=step x H6 y5
   have htt:=ht C fp s2 H2 xe br
   generalize tt C fp s2 H2 xe br=tt' at htt q6
   cases htt with
   | nil =>
    refine Ab (Ao ?_)
    dsimp only[tTrue] at q6
    rw[Ak rfl] at q6
    refine wpAny_mono (Ab (Ab (thn (elem I6 q6) fun y s8 h8=>Ab (thn h8 fun _ s9 h9=>Ao (Ao ⟨rfl,h9⟩))))) (fun _ _ z=>z) noE
   | one ht1 =>
    refine Ab (wpAny_tests_one (wpAny_mono (ht1 _ s6 _ H6 _ I6 q6) (fun b s7 ⟨H7,I7,q7⟩ => ?_) noE))
    cases b with
    | false =>
     rw[Ax Ap] at q7
     obtain⟨t8,fr8,hD8,d8⟩:=rest I7
     exact Ao ⟨rfl,fin (I7.xE (pins':=[]) fun p hp=>nomatch hp) t8 fr8 hD8 d8 va hz q7⟩
    | true =>
     rw[Ak rfl] at q7
     refine wpAny_mono (Ab (Ab (thn (elem I7 q7) fun y s8 h8=>Ab (thn h8 fun _ s9 h9=>Ao (Ao ⟨rfl,h9⟩))))) (fun _ _ z=>z) noE
 exact codeAny_compStart_list loop (T.self X.A 0 _ _ _ (T.keep 0 _ _ st2 fun b hb o e=>old b o e) loop)
theorem yB4{X:Cx}{elt iter:Expr}{ifs:List Expr}{sc0 scope:Scope}{N0:List Str}{px pos:Pos}{xt:Str}{fs:List Str}{js:List Nat}{wi:TI}{XE:Str->Hp->Prop}{tt:(C:Addr)->(fp:List Addr)->(s₂:Shared)->(H:Hp)->(xe:Value->Shared->Prop)->BrI X XE (xt::fs) scope C fp s₂ H xe->TT}{te:(C:Addr)->(fp:List Addr)->(s₂:Shared)->(H:Hp)->(xe:Value->Shared->Prop)->BrI X XE (xt::fs) scope C fp s₂ H xe->TE}(hb:∀c H e s,ExcAt X c H e s->XE c H->X.xe e s)(hst:X.stack=X.env::X.outer)(hfr:X.env.frame=some X.env.locals)(S:CompScope sc0 scope N0 xt fs js)(h0:X.env.scope=sc0)(hN0:X.N=N0)(hc:X.calm=true)
  (hi:PI X (.Name xt px) iter wi) (ht:∀C fp s₂ H xe br,PTs ((cxComp X (xt::fs) scope C fp s₂ H).wish xe) ifs (tt C fp s₂ H xe br)) (he:∀C fp s₂ H xe br,PE ((cxComp X (xt::fs) scope C fp s₂ H).wish xe) elt (te C fp s₂ H xe br))
  (hs:autoParam (∀x,foldedSetIterable iter X.env x=pure x) DG) :
  PE X (.ListComp elt [⟨.Name xt px,iter,ifs,0⟩] scope pos) (tCompX X XE (xt::fs) scope wi tt te js):=by
 intro DJ s σ H Q I h
 rw[eval_ListComp]
 refine yR5 hb hst hfr S h0 hN0 hc hi ht he hs (use:=none) (Qv:=EP X DJ σ Q) I h fun s' C D Ha fl hI hns hC q => ?_
 obtain⟨m,hn⟩:=hns
 exact⟨m,hn,fun h' hsb=>⟨.ref D,Ha,hI h' hsb,rfl,q⟩⟩
def tComp2X(X:Cx)(XE:Str->Hp->Prop)(N:List Str)(scope:Scope)(wi:TI)(tt:(C:Addr)->(fp:List Addr)->(s₂:Shared)->(H:Hp)->(xe:Value->Shared->Prop)->BrI X XE N scope C fp s₂ H xe->TT)(te:(C:Addr)->(fp:List Addr)->(s₂:Shared)->(H:Hp)->(xe:Value->Shared->Prop)->BrI X XE N scope C fp s₂ H xe->TE)(js:List Nat):TE:=fun σ H Q=>wi σ H fun J H1=>∀C fp s₂ H₂ xe br,∃W:Nat->Nat->List V->Hp->Prop,(∃m,W 0 m [] H1)/\∀i m acc H,W i m acc H ->
 (J.stop i H/\∀p,H p=none->Q (.ref p) (upd H p (.lst acc))) \/
 (J.go i H/\∃Nx:List V->Hp->Prop,(∀acc' H',Nx acc' H'->∃m',m'<m/\W (i+1) m' acc' H') /\
  ∀x H',J.yld i H x H'->∃ta x1 x2,x=.ref ta/\SqT X.K H' ta [x1,x2]/\tt C fp s₂ H₂ xe br (compSt2 σ js (some x1) (some x2)) H' fun b H2=>if b=true then te C fp s₂ H₂ xe br (compSt2 σ js (some x1) (some x2)) H2 fun v H3=>acc.length<sizeLine/\Nx (acc ++ [v]) H3 else Nx acc H2)
theorem zY3{X:Cx}{elt iter:Expr}{ifs:List Expr}{sc0 scope:Scope}{N0:List Str}{px pw tp pos:Pos}{k1:Nat}{xt yt:Str}{fs:List Str}{js:List Nat}{wi:TI}{XE:Str->Hp->Prop}{tt:(C:Addr)->(fp:List Addr)->(s₂:Shared)->(H:Hp)->(xe:Value->Shared->Prop)->BrI X XE (xt::yt::fs) scope C fp s₂ H xe->TT}{te:(C:Addr)->(fp:List Addr)->(s₂:Shared)->(H:Hp)->(xe:Value->Shared->Prop)->BrI X XE (xt::yt::fs) scope C fp s₂ H xe->TE}(hb:∀c H e s,ExcAt X c H e s->XE c H->X.xe e s)(hst:X.stack=X.env::X.outer)(hfr:X.env.frame=some X.env.locals)(S:CScope2 sc0 scope N0 xt yt fs js)(h0:X.env.scope=sc0)(hN0:X.N=N0)(hc:X.calm=true)
  (hi:PI X (.Tuple [.Name xt px,.Name yt pw] k1 tp) iter wi) (ht:∀C fp s₂ H xe br,PTs ((cxComp X (xt::yt::fs) scope C fp s₂ H).wish xe) ifs (tt C fp s₂ H xe br)) (he:∀C fp s₂ H xe br,PE ((cxComp X (xt::yt::fs) scope C fp s₂ H).wish xe) elt (te C fp s₂ H xe br))
  (hs:autoParam (∀x,foldedSetIterable iter X.env x=pure x) DG)
  {DJ:List (Addr×Obj)}{cpos:Pos}{s:Shared}{σ:St}{H:Hp}{Q:VK}{use:Option (Value->Sem Unit)}{Qv:Value->Shared->Prop}(I:Inv X DJ σ H s) (h:tComp2X X XE (xt::yt::fs) scope wi tt te js σ H Q)
  (hfin:∀(s':Shared) (C D:Addr) (Ha:Hp) (fl:Flow),(∀h'',Heap.SameBut C s'.heap h''->Inv X DJ σ Ha { s' with heap:=h'' })->(∃m,s'.heap.Ns C m)->FpOk X DJ Ha C->Q (.ref D) Ha->compPost (model X.prog X.w) X.A X.xe use Qv (.ref D) C (.ok fl) s') :
  wpAny (model X.prog X.w) X.A (comprehension (.ListComp elt [⟨.Tuple [.Name xt px,.Name yt pw] k1 tp,iter,ifs,0⟩] scope pos) scope X.env cpos (newList []) false (eval iter X.env) use) Qv X.xe s:=by
 refine wpAny_comprehension_free (use:=use) rfl hs (jD (S.cells h0 I.ok)) S.kind S.names ?_
 refine thn (hi DJ s σ H _ I h) fun v s1 h1=>thn h1 fun itv s2 h2 => ?_
 obtain⟨it,fp,tn,J,H2,e,I2,T,st2,f2,hW⟩:=h2
 subst e
 have fo:∀b∈fp,∃o,s2.heap.get? b=some o:=fun b hb=>let ⟨o,e,_⟩:=T.obj 0 s2.heap st2 b hb; ⟨o,e⟩
 have blt:∀b∈fp,b<s2.heap.objs.size:=fun b hb=>let ⟨o,e⟩:=fo b hb;Am e
 refine bG S.nocell S.kind fun D C h₁ mC hDle hCle hDC old hacc hns₁ => ?_
 have bC:∀b o,s2.heap.get? b=some o->b≠C:=fun b o q z=>Cc.mpr hCle (z▸Am q)
 have bD:∀b o,s2.heap.get? b=some o->b≠D:=fun b o q z=>Cc.mpr hDle (z▸Am q)
 have br:BrI X XE (xt::yt::fs) scope C fp s2 H2 (notedBy (model X.prog X.w) X.A (compEnvC scope (clos X.env.cells scope.names []) C X.env) (fun e s'=>compPost (model X.prog X.w) X.A X.xe use Qv (.ref D) C (.error e) s')):=fun c H e s x z=>zD9 hb hst hfr I2 f2 hCle c H e s x z
 generalize hxe:(notedBy (model X.prog X.w) X.A (compEnvC scope (clos X.env.cells scope.names []) C X.env) (fun e s'=>compPost (model X.prog X.w) X.A X.xe use Qv (.ref D) C (.error e) s'))=xe at br
 have noE:∀(a:Value) (s':Shared),xe a s'->notedBy (model X.prog X.w) X.A (compEnvC scope (clos X.env.cells scope.names []) C X.env) (fun e s'=>compPost (model X.prog X.w) X.A X.xe use Qv (.ref D) C (.error e) s') a s':=fun a s' z=>by rw[hxe];exact z
 obtain⟨W,⟨m0,w0⟩,turn⟩:=hW C fp s2 H2 xe br
 have fpk:∀{H':Hp}(ob:Obj),(∀b∈fp,H' b=none)->∀b∈fp,FpOk ((cxComp X (xt::yt::fs) scope C fp s2 H2).wish xe) [(D,ob)] H' b:=fun {H'} ob hn b hb=>by
  refine⟨hn b hb,AL (Ar (blt b hb) hCle),fun z => ?_,.inl hb,fun x c e=>(f2 b hb).2.2.2.2.1 x c (S.sub h0 I2.ok x c e),fun p hp => ?_⟩
  ·rcases Aw.mp (I2.stkSub b z) with q | q
   ·exact (f2 b hb).2.1 q
   ·exact (f2 b hb).2.2.1 q
  ·have:p=(D,ob):=by
    have hp:p ∈ [] ++ [(D,ob)]:=hp
    simpa using hp
   subst this
   exact Co (Ar (blt b hb) hDle)
 have loop:codeAny (model X.prog X.w) X.A (.compLoop (.ListComp elt [⟨.Tuple [.Name xt px,.Name yt pw] k1 tp,iter,ifs,0⟩] scope pos) 0 (.ref it) (.ref D) (compEnvC scope (clos X.env.cells scope.names []) C X.env))
    (compPost (model X.prog X.w) X.A X.xe use Qv (.ref D) C) { s2 with heap:=h₁ }:=by
  have J0:Inv ((cxComp X (xt::yt::fs) scope C fp s2 H2).wish xe) [] (compSt2 σ js none none) H2 { s2 with heap:=h₁ } :=
   (Inv.block2 (s₂:=s2) (s₄:={ s2 with heap:=h₁ }) S h0 hN0 I2 f2 fo rfl I2.bare old hCle hns₁).wish xe
  have H2D:H2 D=none:=I2.hok.fresh hDle
  have ofD:D∉frs X.stack:=fun z=>by
   rcases Aw.mp (I2.stkSub D z) with q | q
   ·exact absurd I2.lt (by rw[<-q];exact Cc.mpr hDle)
   ·exact I2.nofs (a:=D) hDle q
  refine codeAny_loop rfl (fun n s'=>∃(i:Nat) (σ':St) (H':Hp) (acc:List V) (its:List Value) (k:Nat),(∃v0 w0,σ'=compSt2 σ js v0 w0)/\Inv ((cxComp X (xt::yt::fs) scope C fp s2 H2).wish xe) [] σ' H' s'/\tn i s'.heap/\(∀b∈fp,H' b=none)/\H' D=none /\
    s'.heap.get? D=some { cls:=.type "list",data:=.seq its.toArray k }/\Vals acc its/\acc.length<=sizeLine/\W i n acc H') ?_ m0
   ⟨0,_,H2,[],[],0,⟨none,none,rfl⟩,J0,T.keep 0 _ _ st2 fun b hb o e=>old b o e,fun b hb=>(f2 b hb).1,H2D,hacc,.nil,AM _,w0⟩
  rintro n s3 ⟨i,σ3,H3,acc,its,k,⟨v0,w0,rfl⟩,I3,st3,fr3,hD3,d3,va,hz,w3⟩
  show wpAny _ X.A ((compTurn (.ListComp elt [⟨.Tuple [.Name xt px,.Name yt pw] k1 tp,iter,ifs,0⟩] scope pos) 0 (.ref it) (.ref D) (compEnvC scope (clos X.env.cells scope.names []) C X.env)).onRaise (fun x=>do noteFrame x (compEnvC scope (clos X.env.cells scope.names []) C X.env);theTreesLotGoes x)) _ _ s3
  refine wpAny_noted ?_
  rw[compTurn_list]
  refine Ab (wpAny_standAt ?_)
  have pinD:Inv ((cxComp X (xt::yt::fs) scope C fp s2 H2).wish xe) [(D,{ cls:=.type "list",data:=.seq its.toArray k })] (compSt2 σ js v0 w0) H3 s3:=I3.xE fun p hp=>by
   have:p=(D,{ cls:=.type "list",data:=.seq its.toArray k }):=by simpa using hp
   subst this
   exact⟨d3,hD3,hDC,ofD,fun v z=>by cases z⟩
  refine Ab ?_
  rcases turn i n acc H3 w3 with ⟨stop,qn⟩ | ⟨go,N,hN,step⟩
  ·refine thn (T.done ((cxComp X (xt::yt::fs) scope C fp s2 H2).wish xe) rfl rfl rfl hc i _ s3 _ H3 _ pinD (fpk _ fr3) st3 stop) fun r s4 ⟨hr,I4⟩ => ?_
   subst hr
   refine Ao ?_
   obtain⟨m4,hn4,_⟩:=I4.loc
   have hHC:H3 C=none:=I4.free
   refine hfin s4 C D (upd H3 D (.lst acc)) _ (fun h'' hsb=>I2.unblock f2 I4.unwish hCle hDle hDC hD3 ((I4.pin (D,{ cls:=.type "list",data:=.seq its.toArray k }) (Ah _ Ae)).1) va hz hsb) ⟨m4,hn4⟩ (I2.fpOk hCle (by rw[zM (AX hDC)];exact hHC)) (qn D hD3)
  ·refine thn (T.item ((cxComp X (xt::yt::fs) scope C fp s2 H2).wish xe) rfl rfl rfl hc i _ s3 _ H3 _ pinD (fpk _ fr3) st3 go) fun r s4 ⟨u,hr,h4⟩ => ?_
   subst hr
   refine Ab (thn h4 fun _ s5 ⟨x,H5,I5,r5,y5,st5,fr5⟩ => ?_)
   have I5':=I5.pinned (fpk _ fr5) (T.obj _ _ st5)
   obtain⟨ta,x1,x2,ex,hx,q6⟩:=step x H5 y5
   have g0:PG ((cxComp X (xt::yt::fs) scope C fp s2 H2).wish xe) (.Name xt px) (gName 0):=kM S.nd rfl (.inl (lookup_relabel_local S.tgt)) (.inr (lookup_relabel_local S.tgt))
   have g1:PG ((cxComp X (xt::yt::fs) scope C fp s2 H2).wish xe) (.Name yt pw) (gName 1):=kM S.nd rfl (.inl (lookup_relabel_local S.tgt2)) (.inr (lookup_relabel_local S.tgt2))
   have gok:PG ((cxComp X (xt::yt::fs) scope C fp s2 H2).wish xe) (.Tuple [.Name xt px,.Name yt pw] k1 tp) (gTup X.K 2 (gCons (gName 0) (gCons (gName 1) gNil))):=yM2 hc (zY9 g0 (zY9 g1 yY6))
   refine Ab (wpAny_mono (gok _ s5 (compSt2 σ js v0 w0) H5 x u (fun σ' H'=>σ'=compSt2 σ js (some x1) (some x2)/\H'=H5) I5' r5 ⟨ta,[x1,x2],ex,hx,rfl,x1,[x2],rfl,x2,[],rfl,rfl,rfl,rfl⟩) (fun _ s6 ⟨σ6,H6,I6,e6,e6'⟩ => ?_) noE)
   subst e6 e6'
   have fin:∀{acc':List V}{its':List Value}{k':Nat}{H7:Hp}{s7:Shared},Inv ((cxComp X (xt::yt::fs) scope C fp s2 H2).wish xe) [] (compSt2 σ js (some x1) (some x2)) H7 s7->tn (i+1) s7.heap->(∀b∈fp,H7 b=none)->H7 D=none->s7.heap.get? D=some { cls:=.type "list",data:=.seq its'.toArray k' }->Vals acc' its'->acc'.length<=sizeLine->N acc' H7 ->
     ∃m,m<n/\∃(i:Nat) (σ':St) (H':Hp) (acc:List V) (its:List Value) (k:Nat),(∃v0 w0,σ'=compSt2 σ js v0 w0)/\Inv ((cxComp X (xt::yt::fs) scope C fp s2 H2).wish xe) [] σ' H' s7/\tn i s7.heap/\(∀b∈fp,H' b=none)/\H' D=none /\
      s7.heap.get? D=some { cls:=.type "list",data:=.seq its.toArray k }/\Vals acc its/\acc.length<=sizeLine/\W i m acc H':=fun {acc' its' k' H7 s7} a1 a2 a3 a4 a5 a6 a7 a8=>by
    obtain⟨m',hm,w7⟩:=hN _ _ a8
    exact⟨m',hm,i+1,_,H7,acc',its',k',⟨_,_,rfl⟩,a1,a2,a3,a4,a5,a6,a7,w7⟩
   have rest:∀{H7:Hp}{s7:Shared},Inv ((cxComp X (xt::yt::fs) scope C fp s2 H2).wish xe) ([(D,{ cls:=.type "list",data:=.seq its.toArray k })]++pinsAt fp s5.heap) (compSt2 σ js (some x1) (some x2)) H7 s7 ->
     tn (i+1) s7.heap/\(∀b∈fp,H7 b=none)/\H7 D=none/\s7.heap.get? D=some { cls:=.type "list",data:=.seq its.toArray k }:=fun {H7 s7} I7=>by
    refine⟨T.keep _ _ _ st5 fun b hb o e=>(I7.pin (b,o) (Ah _ (Ah _ (vX hb e)))).1,fun b hb => ?_,(I7.pin (D,{ cls:=.type "list",data:=.seq its.toArray k }) (Ah _ (AW _ Ae))).2.1,(I7.pin (D,{ cls:=.type "list",data:=.seq its.toArray k }) (Ah _ (AW _ Ae))).1⟩
    obtain⟨o,e,d⟩:=T.obj _ _ st5 b hb
    exact (I7.pin (b,o) (Ah _ (Ah _ (vX hb e)))).2.1
   have elem:∀{H7:Hp}{s7:Shared},Inv ((cxComp X (xt::yt::fs) scope C fp s2 H2).wish xe) ([(D,{ cls:=.type "list",data:=.seq its.toArray k })]++pinsAt fp s5.heap) (compSt2 σ js (some x1) (some x2)) H7 s7 ->
     (te C fp s2 H2 xe br (compSt2 σ js (some x1) (some x2)) H7 fun v H3=>acc.length<sizeLine/\N (acc ++ [v]) H3) ->
     wpAny (model X.prog X.w) X.A (eval elt (compEnvC scope (clos X.env.cells scope.names []) C X.env)) (fun y s8=>wpAny (model X.prog X.w) X.A (call (.builtin "list.append") [.ref D,y]) (fun _ s9=>∃m,m<n/\∃(i:Nat) (σ':St) (H':Hp) (acc:List V) (its:List Value) (k:Nat),(∃v0 w0,σ'=compSt2 σ js v0 w0)/\Inv ((cxComp X (xt::yt::fs) scope C fp s2 H2).wish xe) [] σ' H' s9/\tn i s9.heap/\(∀b∈fp,H' b=none)/\H' D=none /\
      s9.heap.get? D=some { cls:=.type "list",data:=.seq its.toArray k }/\Vals acc its/\acc.length<=sizeLine/\W i m acc H')
      xe s8) xe s7:=fun {H7 s7} I7 q7=>by
    refine thn (he C fp s2 H2 xe br _ s7 _ H7 _ I7 q7) fun y s8 ⟨v,H8,I8,r8,hl8,n8⟩ => ?_
    obtain⟨t8,fr8,hD8,d8⟩:=rest I8
    have hsz:=va.length
    refine call_meets CU ⟨_,d8,rfl⟩ CO (CF _ _) (Da D its.toArray k y (by rw[AC];rfl')) ⟨d8,?_⟩
    have q:=Dl d8 (·.push y)
    rw[show (its.toArray.push y)=(its ++ [y]).toArray by simp] at q
    have kk:∀b o,b≠D->s8.heap.get? b=some o->(s8.heap.update D (Obj.mapSeq (·.push y))).get? b=some o:=fun b o hb e=>(AE s8.heap _ (AX hb)).trans e
    have I9:Inv ((cxComp X (xt::yt::fs) scope C fp s2 H2).wish xe) [] (compSt2 σ js (some x1) (some x2)) H8 { s8 with heap:=s8.heap.update D (Obj.mapSeq (·.push y)) }:=by
     refine Inv.turned (it:=D) (t':=s8.toks) (I8.xE (pins':=[]) fun p hp=>nomatch hp) kk hD8 hDC (.inr hDle) (fun x c e z => ?_) fun p hp=>absurd (show p∈([]:List (Addr×Obj)) from hp) (by simp)
     obtain⟨v,o,ho,_⟩:=I2.cell x c (S.sub h0 I2.ok x c e)
     exact bD c o ho z
    refine fin I9 (T.keep _ _ _ t8 fun b hb o e=>kk b o (AL (Ar (blt b hb) hDle)) e) fr8 hD8 q (va.append (.cons r8 .nil)) ?_ n8
    rw[Af,Bt]
    rfl'
   have htt:=ht C fp s2 H2 xe br
   generalize tt C fp s2 H2 xe br=tt' at htt q6
   cases htt with
   | nil =>
    refine Ab (Ao ?_)
    dsimp only[tTrue] at q6
    rw[Ak rfl] at q6
    refine wpAny_mono (Ab (Ab (thn (elem I6 q6) fun y s8 h8=>Ab (thn h8 fun _ s9 h9=>Ao (Ao ⟨rfl,h9⟩))))) (fun _ _ z=>z) noE
   | one ht1 =>
    refine Ab (wpAny_tests_one (wpAny_mono (ht1 _ s6 _ H6 _ I6 q6) (fun b s7 ⟨H7,I7,q7⟩ => ?_) noE))
    cases b with
    | false =>
     rw[Ax Ap] at q7
     obtain⟨t8,fr8,hD8,d8⟩:=rest I7
     exact Ao ⟨rfl,fin (I7.xE (pins':=[]) fun p hp=>nomatch hp) t8 fr8 hD8 d8 va hz q7⟩
    | true =>
     rw[Ak rfl] at q7
     refine wpAny_mono (Ab (Ab (thn (elem I7 q7) fun y s8 h8=>Ab (thn h8 fun _ s9 h9=>Ao (Ao ⟨rfl,h9⟩))))) (fun _ _ z=>z) noE
 exact codeAny_compStart_list loop (T.self X.A 0 _ _ _ (T.keep 0 _ _ st2 fun b hb o e=>old b o e) loop)
theorem yO3{X:Cx}{elt iter:Expr}{ifs:List Expr}{sc0 scope:Scope}{N0:List Str}{px py tp pos:Pos}{k1:Nat}{xt yt:Str}{fs:List Str}{js:List Nat}{wi:TI}{XE:Str->Hp->Prop}{tt:(C:Addr)->(fp:List Addr)->(s₂:Shared)->(H:Hp)->(xe:Value->Shared->Prop)->BrI X XE (xt::yt::fs) scope C fp s₂ H xe->TT}{te:(C:Addr)->(fp:List Addr)->(s₂:Shared)->(H:Hp)->(xe:Value->Shared->Prop)->BrI X XE (xt::yt::fs) scope C fp s₂ H xe->TE}(hb:∀c H e s,ExcAt X c H e s->XE c H->X.xe e s)(hst:X.stack=X.env::X.outer)(hfr:X.env.frame=some X.env.locals)(S:CScope2 sc0 scope N0 xt yt fs js)(h0:X.env.scope=sc0)(hN0:X.N=N0)(hc:X.calm=true)
  (hi:PI X (.Tuple [.Name xt px,.Name yt py] k1 tp) iter wi) (ht:∀C fp s₂ H xe br,PTs ((cxComp X (xt::yt::fs) scope C fp s₂ H).wish xe) ifs (tt C fp s₂ H xe br)) (he:∀C fp s₂ H xe br,PE ((cxComp X (xt::yt::fs) scope C fp s₂ H).wish xe) elt (te C fp s₂ H xe br))
  (hs:autoParam (∀x,foldedSetIterable iter X.env x=pure x) DG) :
  PE X (.ListComp elt [⟨.Tuple [.Name xt px,.Name yt py] k1 tp,iter,ifs,0⟩] scope pos) (tComp2X X XE (xt::yt::fs) scope wi tt te js):=by
 intro DJ s σ H Q I h
 rw[eval_ListComp]
 refine zY3 hb hst hfr S h0 hN0 hc hi ht he hs (use:=none) (Qv:=EP X DJ σ Q) I h fun s' C D Ha fl hI hns hC q => ?_
 obtain⟨m,hn⟩:=hns
 exact⟨m,hn,fun h' hsb=>⟨.ref D,Ha,hI h' hsb,rfl,q⟩⟩
theorem yL1{X:Cx}{elt iter:Expr}{ifs:List Expr}{sc0 scope:Scope}{N0:List Str}{px pw tp py pos spos:Pos}{k1:Nat}{xt yt y:Str}{fs:List Str}{js:List Nat}{i:Nat}{wi:TI}{XE:Str->Hp->Prop}{tt:(C:Addr)->(fp:List Addr)->(s₂:Shared)->(H:Hp)->(xe:Value->Shared->Prop)->BrI X XE (xt::yt::fs) scope C fp s₂ H xe->TT}{te:(C:Addr)->(fp:List Addr)->(s₂:Shared)->(H:Hp)->(xe:Value->Shared->Prop)->BrI X XE (xt::yt::fs) scope C fp s₂ H xe->TE}(hb:∀c H e s,ExcAt X c H e s->XE c H->X.xe e s)(hst:X.stack=X.env::X.outer)(hfr:X.env.frame=some X.env.locals)(S:CScope2 sc0 scope N0 xt yt fs js)(h0:X.env.scope=sc0)(hN0:X.N=N0)(hc:X.calm=true)
  (hi:PI X (.Tuple [.Name xt px,.Name yt pw] k1 tp) iter wi) (ht:∀C fp s₂ H xe br,PTs ((cxComp X (xt::yt::fs) scope C fp s₂ H).wish xe) ifs (tt C fp s₂ H xe br)) (he:∀C fp s₂ H xe br,PE ((cxComp X (xt::yt::fs) scope C fp s₂ H).wish xe) elt (te C fp s₂ H xe br))
  (nd:X.N.Nodup) (hy:X.N[i]?=some y) (hl:Loc X.env.scope y) (hsw:swapsWith (.ListComp elt [⟨.Tuple [.Name xt px,.Name yt pw] k1 tp,iter,ifs,0⟩] scope pos) (some (.Name y py)) spos.line X.env=pure true)
  (hs:autoParam (∀x,foldedSetIterable iter X.env x=pure x) DG) (hf:autoParam (X.fn y=true\/X.env.scope.names.lookup y=some .local) DF) :
  PS X (.Assign [.Name y py] (.ListComp elt [⟨.Tuple [.Name xt px,.Name yt pw] k1 tp,iter,ifs,0⟩] scope pos) spos) (tAsg (tComp2X X XE (xt::yt::fs) scope wi tt te js) (gName i)):=by
 intro DJ s σ H E I h
 rw[exec_Assign_Name_used _ _ _ _ hsw]
 refine Ab (wpAny_standAt (Ab ?_))
 show wpAny _ X.A (do let _ <-comprehension (.ListComp elt [⟨.Tuple [.Name xt px,.Name yt pw] k1 tp,iter,ifs,0⟩] scope pos) scope X.env _ (newList []) false (eval iter X.env) (some (assign (.Name y py) X.env))) _ _ s
 refine Ab (thn (zY3 hb hst hfr S h0 hN0 hc hi ht he hs (use:=some (assign (.Name y py) X.env)) (Qv:=fun _ s'=>SP X DJ E .next s') I h fun s' C D Ha fl hI hns hC q => ?_) fun _ s' hq=>Ao (Ao hq))
 show wpAny (model X.prog X.w) X.A (assign (.Name y py) X.env (.ref D)) (fun _ s''=>∃m,s''.heap.Ns C m/\∀h',Heap.SameBut C s''.heap h'->SP X DJ E .next { s'' with heap:=h' }) X.xe s'
 obtain⟨m,oC,es,ep,hgC,hdC,hrC⟩:=hns
 have I1:Inv X DJ σ Ha s':=hI s'.heap ⟨rfl,fun b _=>rfl⟩
 have I2:Inv X (DJ ++ [(C,oC)]) σ Ha s':=I1.xE fun p hp=>by
  rcases AB.mp hp with z | z
  ·exact I1.pin p (Ah _ z)
  ·have:p=(C,oC):=by simpa using z
   subst this
   exact⟨hgC,hC.1,hC.2.1,hC.2.2.1,fun v z=>by rw[hdC] at z;cases z⟩
 refine wpAny_assign_Name (qJ I2 nd hy hl (show RelV (.ref D) (.ref D) from rfl) (fun s'' I3 => ?_) hf)
 have hgC':=(I3.pin (C,oC) (Ah _ (Ah _ Ae))).1
 refine⟨m,⟨oC,es,ep,hgC',hdC,hrC⟩,fun h' hsb => ?_⟩
 have I4:Inv X DJ (σ.set i (some (.ref D))) Ha s'':=I3.xE fun p hp=>I3.pin p (Ah _ (AW _ hp))
 exact⟨_,Ha,Inv.turned (it:=C) (t':=s''.toks) I4 (fun b o hb e=>(hsb.2 b hb).trans e) hC.1 hC.2.1 hC.2.2.2.1 hC.2.2.2.2.1 hC.2.2.2.2.2,q⟩
section
omit [CN]
def compX(t:D->Res Bool)(f:D->Res D):List D->Res (List D)
 | []=>.ok []
 | x::xs=>(t x).bind fun b=>if b then (f x).bind fun y=>(compX t f xs).bind fun ys=>.ok (y::ys) else compX t f xs
def eCompX(mi:Ev->Res (List D))(mt:Ev->Res Bool)(me:Ev->Res D)(js:List Nat):Ev->Res D:=fun ρ=>(mi ρ).bind fun ds=>if ds.length<=sizeLine then (compX (fun x=>mt (cEnv ρ js x)) (fun x=>me (cEnv ρ js x)) ds).bind fun out=>.ok (.list out) else .no
def eComp2X(mi:Ev->Res (List D))(mt:Ev->Res Bool)(me:Ev->Res D)(js:List Nat):Ev->Res D:=fun ρ=>(mi ρ).bind fun ds=>if ds.length<=sizeLine then (compX (fun d=>pr2 d fun x y=>mt (cEnv2 ρ js x y)) (fun d=>pr2 d fun x y=>me (cEnv2 ρ js x y)) ds).bind fun out=>.ok (.list out) else .no
theorem yC2{α:Type}{d:D}{f:D->D->Res α}{Q:α->Prop}{E:Str->Prop}(h:(pr2 d f).post Q E):∃a b,d=.tuple [a,b]:=by
 unfold pr2 at h
 split at h
 ·exact⟨_,_,rfl⟩
 ·exact h.elim
theorem aP{α β γ:Type}(r:Res α)(f:α->Res β)(g:β->Res γ):(r.bind f).bind g=r.bind fun a=>(f a).bind g:=by cases r <;> rfl
end
abbrev cCX(C:Ct)(N:List Str)(scope:Scope)(A:Addr)(fp:List Addr)(s₂:Shared)(H:Hp)(xe:Value->Shared->Prop)(js:List Nat):Ct:=⟨(cxComp C.X N scope A fp s₂ H).wish xe,C.XE,[],capt js (C.om++C.ln)⟩
abbrev cC2X(C:Ct)(N:List Str)(scope:Scope)(A:Addr)(fp:List Addr)(s₂:Shared)(H:Hp)(xe:Value->Shared->Prop)(js:List Nat):Ct:=⟨(cxComp C.X N scope A fp s₂ H).wish xe,C.XE,[],capt2 js (C.om++C.ln)⟩
def wantX(C:Ct)(Oc:Wd)(Ob:Addr->Prop)(H:Hp)(Q:VK)(T:D->Res Bool)(F:D->Res D)(ds done:List D)(i:Nat):Prop :=
 ((compX T F (ds.drop i)).bind fun rest=>Res.ok (PyData.list (done++rest))).post (fun d=>∀v H',Same H H'->VR .new Oc Ob H H' v d->Q v H') (fun c=>∀H',Same H H'->C.XE c H')
theorem zT1{C:Ct}{Oc:Wd}{Ob:Addr->Prop}{H:Hp}{Q:VK}{T:D->Res Bool}{F:D->Res D}{ds done:List D}{i:Nat}(h:wantX C Oc Ob H Q T F ds done i)(hlt:i<ds.length) :
  (T ds[i]).post (fun b=>if b=true then (F ds[i]).post (fun y=>wantX C Oc Ob H Q T F ds (done ++ [y]) (i+1)) (fun c=>∀H',Same H H'->C.XE c H') else wantX C Oc Ob H Q T F ds done (i+1)) (fun c=>∀H',Same H H'->C.XE c H'):=by
 unfold wantX at h
 rw[Bl hlt,compX,aP] at h
 refine Res.zT (Res.zU h) (fun b _ k => ?_) fun _ z=>z
 cases b with
 | false=>exact iteF k
 | true =>
  refine iteT ?_
  have k:(((F ds[i]).bind fun y=>(compX T F (ds.drop (i+1))).bind fun ys=>Res.ok (y::ys)).bind fun rest=>Res.ok (PyData.list (done++rest))).post _ _:=k
  rw[aP] at k
  refine Res.zT (Res.zU k) (fun y _ k => ?_) fun _ z=>z
  rw[aP] at k
  unfold wantX
  cases e:compX T F (ds.drop (i+1)) with
  | no=>rw[e] at k;exact k
  | ex c=>rw[e] at k;exact k
  | ok ys =>
   rw[e] at k
   have k:∀v H',Same H H'->VR .new Oc Ob H H' v (.list (done++y::ys))->Q v H':=k
   show ∀v H',Same H H'->VR .new Oc Ob H H' v (.list (done ++ [y]++ys))->Q v H'
   rw[AO]
   exact k
section
variable {C:Ct}{elt:Expr}{ifs:List Expr}{scope:Scope}{N:List Str}{js:List Nat}{mi:Ev->Res (List D)}{mt:Ev->Res Bool}{me:Ev->Res D}{wi:TI}
theorem yQ3
  (qi:∀(Oc:Wd) (Ob:Addr->Prop) (σ:St) (H:Hp) (ρ:Ev) (R:It->Hp->Prop),Rel Oc Ob C.om C.ln σ H ρ->(mi ρ).post (fun ds=>∀J H1,Same H H1->WalksS Oc Ob J H1 ds->R J H1) (fun c=>∀H',Same H H'->C.XE c H')->wi σ H R)
  (ht:∀A fp s₂ H xe,Br (cCX C N scope A fp s₂ H xe js)->RTs (cCX C N scope A fp s₂ H xe js) ifs mt) (he:∀A fp s₂ H xe,Br (cCX C N scope A fp s₂ H xe js)->RE (cCX C N scope A fp s₂ H xe js) .cl elt me)
  {Oc:Wd}{Ob:Addr->Prop}{σ:St}{H:Hp}{ρ:Ev}{Q:VK}(R:Rel Oc Ob C.om C.ln σ H ρ) (h:(eCompX mi mt me js ρ).post (fun d=>∀v H',Same H H'->VR .new Oc Ob H H' v d->Q v H') (fun c=>∀H',Same H H'->C.XE c H')) :
  tCompX C.X C.XE N scope wi (fun A fp s H xe br=>Classical.choose (ht A fp s H xe br)) (fun A fp s H xe br=>Classical.choose (he A fp s H xe br)) js σ H Q:=by
 refine qi Oc Ob σ H ρ _ R (Res.zT (Res.zU h) (fun ds _ k J H1 s1 wk => ?_) fun _ z=>z)
 intro A fp s₂ H₂ xe br
 have qt:=(AU (ht A fp s₂ H₂ xe br)).2
 have qe:=(AU (he A fp s₂ H₂ xe br)).2
 have k:(if ds.length<=sizeLine then (compX (fun x=>mt (cEnv ρ js x)) (fun x=>me (cEnv ρ js x)) ds).bind fun out=>Res.ok (PyData.list out) else .no).post (fun d=>∀v H',Same H H'->VR .new Oc Ob H H' v d->Q v H') (fun c=>∀H',Same H H'->C.XE c H'):=k
 by_cases hlen:ds.length<=sizeLine
 ·rw[Ak hlen] at k
  refine⟨fun i m acc H2=>m=ds.length-i/\i<=ds.length/\Same H1 H2/\∃done,Reps H2 (Uni Oc Ob) acc done/\acc.length<=i/\wantX C Oc Ob H Q (fun x=>mt (cEnv ρ js x)) (fun x=>me (cEnv ρ js x)) ds done i,⟨_,rfl,AM _,Same.refl _,[],.nil,Al _,k⟩,?_⟩
  rintro i m acc H2 ⟨rfl,hi,s2,done,ra,la,w⟩
  obtain⟨w1,w2⟩:=wk H2 s2 i
  have R2:=(R.same s1).same s2
  by_cases hlt:i<ds.length
  ·obtain⟨go,yl⟩:=w1 ds[i] (Aj hlt)
   refine .inr ⟨go,fun acc' H3=>Same H1 H3/\∃done,Reps H3 (Uni Oc Ob) acc' done/\acc'.length<=i+1/\wantX C Oc Ob H Q (fun x=>mt (cEnv ρ js x)) (fun x=>me (cEnv ρ js x)) ds done (i+1),fun acc' H' z=>⟨_,by rfl',rfl,hlt,z⟩,fun x H3 hy => ?_⟩
   obtain⟨s3,rx⟩:=yl x H3 hy
   have R3:=(R2.same s3).comp (js:=js) rx
   refine qt _ _ _ H3 _ _ R3 (Res.zT (zT1 w hlt) (fun b _ k H4 s4 => ?_) fun c z H' s'=>z H' (((s1.trans s2).trans s3).trans s'))
   cases b with
   | false=>exact iteF ⟨(s2.trans s3).trans s4,done,ra.same (s3.trans s4),by rfl',k⟩
   | true =>
    refine iteT (qe _ _ _ H4 _ _ (R3.same s4) (Res.zT k (fun y _ k v H5 s5 rv => ?_) fun c z H' s'=>z H' ((((s1.trans s2).trans s3).trans s4).trans s')))
    have rv':Rep H5 (Uni Oc Ob) v y:=Rep.less rv fun b z=>.inl z
    exact⟨by rfl',((s2.trans s3).trans s4).trans s5,done ++ [y],(ra.same ((s3.trans s4).trans s5)).append (.one rv'),by rw[Af,Bt];rfl',k⟩
  ·have ei:i=ds.length:=by rfl'
   subst ei
   refine .inl ⟨w2 (Al _),fun p hp => ?_⟩
   unfold wantX at w
   rw[BQ] at w
   have w:∀v H',Same H H'->VR .new Oc Ob H H' v (.list (done ++ []))->Q v H':=w
   rw[Bu] at w
   exact w _ _ ((s1.trans s2).trans (Same.new hp)) (vA (s1.trans s2) hp ra)
 ·rw[Ax hlen] at k
  exact k.elim
theorem zY1
  (qi:∀(Oc:Wd) (Ob:Addr->Prop) (σ:St) (H:Hp) (ρ:Ev) (R:It->Hp->Prop),Rel Oc Ob C.om C.ln σ H ρ->(mi ρ).post (fun ds=>∀J H1,Same H H1->WalksS Oc Ob J H1 ds->R J H1) (fun c=>∀H',Same H H'->C.XE c H')->wi σ H R)
  (ht:∀A fp s₂ H xe,Br (cC2X C N scope A fp s₂ H xe js)->RTs (cC2X C N scope A fp s₂ H xe js) ifs mt) (he:∀A fp s₂ H xe,Br (cC2X C N scope A fp s₂ H xe js)->RE (cC2X C N scope A fp s₂ H xe js) .cl elt me)
  {Oc:Wd}{Ob:Addr->Prop}{σ:St}{H:Hp}{ρ:Ev}{Q:VK}(R:Rel Oc Ob C.om C.ln σ H ρ) (h:(eComp2X mi mt me js ρ).post (fun d=>∀v H',Same H H'->VR .new Oc Ob H H' v d->Q v H') (fun c=>∀H',Same H H'->C.XE c H')) :
  tComp2X C.X C.XE N scope wi (fun A fp s H xe br=>Classical.choose (ht A fp s H xe br)) (fun A fp s H xe br=>Classical.choose (he A fp s H xe br)) js σ H Q:=by
 refine qi Oc Ob σ H ρ _ R (Res.zT (Res.zU h) (fun ds _ k J H1 s1 wk => ?_) fun _ z=>z)
 intro A fp s₂ H₂ xe br
 have qt:=(AU (ht A fp s₂ H₂ xe br)).2
 have qe:=(AU (he A fp s₂ H₂ xe br)).2
 generalize hT:(fun d=>pr2 d fun x y=>mt (cEnv2 ρ js x y))=T
 generalize hF:(fun d=>pr2 d fun x y=>me (cEnv2 ρ js x y))=F
 have k:(if ds.length<=sizeLine then (compX T F ds).bind fun out=>Res.ok (PyData.list out) else .no).post (fun d=>∀v H',Same H H'->VR .new Oc Ob H H' v d->Q v H') (fun c=>∀H',Same H H'->C.XE c H'):=by rw[<-hT,<-hF];exact k
 by_cases hlen:ds.length<=sizeLine
 ·rw[Ak hlen] at k
  refine⟨fun i m acc H2=>m=ds.length-i/\i<=ds.length/\Same H1 H2/\∃done,Reps H2 (Uni Oc Ob) acc done/\acc.length<=i/\wantX C Oc Ob H Q T F ds done i,⟨_,rfl,AM _,Same.refl _,[],.nil,Al _,k⟩,?_⟩
  rintro i m acc H2 ⟨rfl,hi,s2,done,ra,la,w⟩
  obtain⟨w1,w2⟩:=wk H2 s2 i
  have R2:=(R.same s1).same s2
  by_cases hlt:i<ds.length
  ·obtain⟨go,yl⟩:=w1 ds[i] (Aj hlt)
   refine .inr ⟨go,fun acc' H3=>Same H1 H3/\∃done,Reps H3 (Uni Oc Ob) acc' done/\acc'.length<=i+1/\wantX C Oc Ob H Q T F ds done (i+1),fun acc' H' z=>⟨_,by rfl',rfl,hlt,z⟩,fun x H3 hy => ?_⟩
   obtain⟨s3,rx⟩:=yl x H3 hy
   have st:=zT1 w hlt
   have two:∃da db,ds[i]=.tuple [da,db]:=by
    have e:T ds[i]=pr2 ds[i] fun x y=>mt (cEnv2 ρ js x y):=by rw[<-hT]
    rw[e] at st
    exact yC2 st
   obtain⟨da,db,ed⟩:=two
   rw[ed] at rx st
   obtain⟨ta,x1,x2,rfl,hsq,rx1,rx2⟩:=yG9 (K:=C.X.K) rx
   have R3:=(R2.same s3).comp2 (js:=js) rx1 rx2
   refine⟨ta,x1,x2,rfl,hsq,?_⟩
   have eT:T (.tuple [da,db])=mt (cEnv2 ρ js da db):=by rw[<-hT];rfl
   have eF:F (.tuple [da,db])=me (cEnv2 ρ js da db):=by rw[<-hF];rfl
   rw[eT,eF] at st
   refine qt _ _ _ H3 _ _ R3 (Res.zT st (fun b _ k H4 s4 => ?_) fun c z H' s'=>z H' (((s1.trans s2).trans s3).trans s'))
   cases b with
   | false=>exact iteF ⟨(s2.trans s3).trans s4,done,ra.same (s3.trans s4),by rfl',k⟩
   | true =>
    refine iteT (qe _ _ _ H4 _ _ (R3.same s4) (Res.zT k (fun y _ k v H5 s5 rv => ?_) fun c z H' s'=>z H' ((((s1.trans s2).trans s3).trans s4).trans s')))
    have rv':Rep H5 (Uni Oc Ob) v y:=Rep.less rv fun b z=>.inl z
    exact⟨by rfl',((s2.trans s3).trans s4).trans s5,done ++ [y],(ra.same ((s3.trans s4).trans s5)).append (.one rv'),by rw[Af,Bt];rfl',k⟩
  ·have ei:i=ds.length:=by rfl'
   subst ei
   refine .inl ⟨w2 (Al _),fun p hp => ?_⟩
   unfold wantX at w
   rw[BQ] at w
   have w:∀v H',Same H H'->VR .new Oc Ob H H' v (.list (done ++ []))->Q v H':=w
   rw[Bu] at w
   exact w _ _ ((s1.trans s2).trans (Same.new hp)) (vA (s1.trans s2) hp ra)
 ·rw[Ax hlen] at k
  exact k.elim
end
theorem yG3{C:Ct}{elt iter:Expr}{ifs:List Expr}{sc0 scope:Scope}{N0:List Str}{px pos:Pos}{xt:Str}{fs:List Str}{js:List Nat}{mi:Ev->Res (List D)}{mt:Ev->Res Bool}{me:Ev->Res D}(hb:Br C)(S:CompScope sc0 scope N0 xt fs js)(h0:C.X.env.scope=sc0)(hN0:C.X.N=N0)(hc:C.X.calm=true)
  (hi:RIc C (.Name xt px) iter mi) (ht:∀A fp s₂ H xe,Br (cCX C (xt::fs) scope A fp s₂ H xe js)->RTs (cCX C (xt::fs) scope A fp s₂ H xe js) ifs mt) (he:∀A fp s₂ H xe,Br (cCX C (xt::fs) scope A fp s₂ H xe js)->RE (cCX C (xt::fs) scope A fp s₂ H xe js) .cl elt me)
  (hs:autoParam (∀x,foldedSetIterable iter C.X.env x=pure x) DG) (hst:autoParam (C.X.stack=C.X.env::C.X.outer) DI) (hfr:autoParam (C.X.env.frame=some C.X.env.locals) DI) :
  RE C .new (.ListComp elt [⟨.Name xt px,iter,ifs,0⟩] scope pos) (eCompX mi mt me js):=by
 obtain⟨wi,pi,qi⟩:=hi
 refine⟨_,yB4 (XE:=C.XE) (tt:=fun A fp s H xe br=>Classical.choose (ht A fp s H xe br)) (te:=fun A fp s H xe br=>Classical.choose (he A fp s H xe br)) hb hst hfr S h0 hN0 hc pi (fun A fp s H xe br=>(AU (ht A fp s H xe br)).1) (fun A fp s H xe br=>(AU (he A fp s H xe br)).1) hs,fun Oc Ob σ H ρ Q R h=>yQ3 qi ht he R h⟩
theorem yI8{C:Ct}{elt iter:Expr}{ifs:List Expr}{sc0 scope:Scope}{N0:List Str}{px py tp pos:Pos}{k1:Nat}{xt yt:Str}{fs:List Str}{js:List Nat}{mi:Ev->Res (List D)}{mt:Ev->Res Bool}{me:Ev->Res D}(hb:Br C)(S:CScope2 sc0 scope N0 xt yt fs js)(h0:C.X.env.scope=sc0)(hN0:C.X.N=N0)(hc:C.X.calm=true)
  (hi:RIc C (.Tuple [.Name xt px,.Name yt py] k1 tp) iter mi) (ht:∀A fp s₂ H xe,Br (cC2X C (xt::yt::fs) scope A fp s₂ H xe js)->RTs (cC2X C (xt::yt::fs) scope A fp s₂ H xe js) ifs mt) (he:∀A fp s₂ H xe,Br (cC2X C (xt::yt::fs) scope A fp s₂ H xe js)->RE (cC2X C (xt::yt::fs) scope A fp s₂ H xe js) .cl elt me)
  (hs:autoParam (∀x,foldedSetIterable iter C.X.env x=pure x) DG) (hst:autoParam (C.X.stack=C.X.env::C.X.outer) DI) (hfr:autoParam (C.X.env.frame=some C.X.env.locals) DI) :
  RE C .new (.ListComp elt [⟨.Tuple [.Name xt px,.Name yt py] k1 tp,iter,ifs,0⟩] scope pos) (eComp2X mi mt me js):=by
 obtain⟨wi,pi,qi⟩:=hi
 refine⟨_,yO3 (XE:=C.XE) (tt:=fun A fp s H xe br=>Classical.choose (ht A fp s H xe br)) (te:=fun A fp s H xe br=>Classical.choose (he A fp s H xe br)) hb hst hfr S h0 hN0 hc pi (fun A fp s H xe br=>(AU (ht A fp s H xe br)).1) (fun A fp s H xe br=>(AU (he A fp s H xe br)).1) hs,fun Oc Ob σ H ρ Q R h=>zY1 qi ht he R h⟩
theorem yI3{C:Ct}{fr:Bool}(i:Nat){elt iter:Expr}{ifs:List Expr}{sc0 scope:Scope}{N0:List Str}{px pw tp py pos spos:Pos}{k1:Nat}{xt yt y:Str}{fs:List Str}{js:List Nat}{mi:Ev->Res (List D)}{mt:Ev->Res Bool}{me:Ev->Res D}(nd:C.X.N.Nodup)(hb:Br C)(S:CScope2 sc0 scope N0 xt yt fs js)(h0:C.X.env.scope=sc0)(hN0:C.X.N=N0)(hc:C.X.calm=true)
  (hi:RIc C (.Tuple [.Name xt px,.Name yt pw] k1 tp) iter mi) (ht:∀A fp s₂ H xe,Br (cC2X C (xt::yt::fs) scope A fp s₂ H xe js)->RTs (cC2X C (xt::yt::fs) scope A fp s₂ H xe js) ifs mt) (he:∀A fp s₂ H xe,Br (cC2X C (xt::yt::fs) scope A fp s₂ H xe js)->RE (cC2X C (xt::yt::fs) scope A fp s₂ H xe js) .cl elt me)
  (hy:autoParam (C.X.N[i]?=some y) DI) (ho:autoParam (C.om.contains i=false) DI) (hln:autoParam (C.ln.contains i=false) DI) (hl:autoParam (Loc C.X.env.scope y) zZ4._auto_1)
  (hsw:autoParam (swapsWith (.ListComp elt [⟨.Tuple [.Name xt px,.Name yt pw] k1 tp,iter,ifs,0⟩] scope pos) (some (.Name y py)) spos.line C.X.env=pure true) DI) (hs:autoParam (∀x,foldedSetIterable iter C.X.env x=pure x) DG) (hf:autoParam (C.X.fn y=true\/C.X.env.scope.names.lookup y=some .local) autoK12._auto_1) (hst:autoParam (C.X.stack=C.X.env::C.X.outer) DI) (hfr:autoParam (C.X.env.frame=some C.X.env.locals) DI) :
  RS C fr (.Assign [.Name y py] (.ListComp elt [⟨.Tuple [.Name xt px,.Name yt pw] k1 tp,iter,ifs,0⟩] scope pos) spos) (sS i (eComp2X mi mt me js)):=by
 obtain⟨wi,pi,qi⟩:=hi
 refine⟨_,yL1 (XE:=C.XE) (tt:=fun A fp s H xe br=>Classical.choose (ht A fp s H xe br)) (te:=fun A fp s H xe br=>Classical.choose (he A fp s H xe br)) hb hst hfr S h0 hN0 hc pi (fun A fp s H xe br=>(AU (ht A fp s H xe br)).1) (fun A fp s H xe br=>(AU (he A fp s H xe br)).1) nd hy hl hsw hs hf,fun Oc Ob σ H ρ E R h => ?_⟩
 refine zY1 qi ht he R (Res.zT (Res.zU h) (fun d _ k v H' s r => ?_) fun c z H' s=>z H' (Same.frm s))
 exact k _ H' Ob ((R.same s).set (xL ho) (xL hln) (VR.clean r R.oh)) (Same.frm s) fun b z=>.inl z
end L2.L3
namespace L2
open PySem PySem.Spec PyProof.Rows
structure ExLie(h:Heap)(C N:Addr)(bm:List Value)(newId:String)(ob:Obj):Prop where
 obj:h.get? C=some ob
 is:∃(nm q:Str) (bs:List Value) (hdct:Bool) (sn:List Str) (sub:List Value) (ab:Bool) (col:Option Bool) (dd:Option Addr) (k0 k1 k2 k3 k5:Option Value),ob=excClassObj nm q C N bs bm hdct sn sub ab col dd k0 k1 k2 k3 k5 newId
def IniBack(e:Value)(Q:Value->Shared->Prop)(E:Value->Shared->Prop):Result->Shared->Prop
 | .ok (.ret v),s=>v=.none/\Q e s
 | .ok _,_=>False
 | .error x,s=>E x s
theorem yE7(h:Heap)(cls:Value)(us:List Value):∃g e,g=(h.push { cls:=.type "tuple",data:=.seq us.toArray }).push { cls:=cls,data:=.fields #[.ref h.objs.size,.none,.none,.none,.bool false,.none] }/\e=h.objs.size+1/\Heap.MadeExcOf h g e cls us :=
 ⟨_,_,rfl,rfl,⟨fun b o z=>by heap_get,CD (by rfl'),h.objs.size,by heap_get,CD (Al _),by heap_get⟩⟩
section
variable {prog:Program}{w:World}{A:Around}{E:Value->Shared->Prop}{s:Shared}{C N fI:Addr}{bm bmB:List Value}{ob oI:Obj}{B newId initId:String}{us:List Value}{K:KFr}
theorem zD6(F:ExcBaseFacts B newId initId bmB)(T:OwnTail s.heap bmB bm)(L:ExLie s.heap C N bm newId ob)(X:K.In s.heap)(hi:PySem.W.findIn K (.ref C) "__init__" = some (some (.ref fI)))(hf:s.heap.get? fI=some oI)(hc:oI.cls=.type "function")(hz:us.length<=sizeLine){Q:Value->Shared->Prop}
  (k:∀g e,Heap.MadeExcOf s.heap g e (.ref C) us->codeAny (model prog w) (A.under (.builtin "type.__call__" ⟨.ref C::us,[]⟩)) (.call (.ref fI) ⟨.ref e::us,[]⟩) (IniBack (.ref e) Q E) { s with heap:=g }) :
  wpAny (model prog w) A (call (.ref C) us) Q E s:=by
 obtain⟨hC,nm,q,bs,hdct,sn,sub,ab,col,dd,k0,k1,k2,k3,k5,rfl⟩:=L
 obtain⟨h,gs,d,t,os⟩:=s
 have look:=tc_lookup
 have bind:=tc_bind (.ref C)
 have ty:Shared.TypeIs ⟨h,gs,d,t,os⟩ (.ref C) "type":=⟨_,hC,rfl⟩
 refine wpAny_call (codeAny_of_tree ?_)
 show wpAny (model prog w) _ (callAny (.ref C) ⟨us,[]⟩) _ _ _
 wp_walk using wpAny_loadPart_at hC
 obtain⟨g,e,hg,ev,md⟩:=yE7 h (.ref C) us
 obtain⟨t0,he,_,_⟩:=md.there
 have own:(Value.ref C::bm).contains (.ref C)=true:=by rw[BR,beq_self_eq_true,Bool.true_or]
 have fn:∀t',Shared.TypeIs ⟨g,gs,d,t',os⟩ (.ref fI) "function":=fun _=>⟨oI,md.keeps _ _ hf,hc⟩
 refine⟨rfl,codeAny_call_builtin_at (DD _ (by decide +kernel)) entry_typeCall (wpAny_check_type_call_sub hC ?_)⟩
 wp_walk using wpAny_loadPart_at hC,wpAny_madeBy_exc hC
 refine codeAny_call_builtin_code (DD _ F.quiet) (wpAny_check_new_subT F T hC (codeAny_exc_new_subT F T hC ?_ hz))
 subst hg ev
 have sub:∀{A':Around}{Q':Bool->Shared->Prop}{E':Value->Shared->Prop},Q' true _->wpAny (model prog w) A' (isSubtype (.ref C) (.ref C)) Q' E' ⟨_,gs,d,t,os⟩:=fun z=>wpAny_isSubtype_exc (md.keeps _ _ hC) (by rw[own];exact z)
 have ini:=Ds (M:=model prog w) (X.keeps md.keeps) hi
 show wpAny _ _ (_ >>= _) _ _ _
 unfold isInstance
 wp_walk using wpAny_loadPart_at he,sub,wpAny_typeOf (fn t),wpAny_holding
 refine sub ?_
 have go:=k _ _ md
 wp_walk using wpAny_loadPart_at he,ini.at,wpAny_typeOf (fn t),wpAny_holding
 unfold bindSpecial
 wp_walk using wpAny_typeOf (fn t)
 refine codeAny_mono go fun r s' z => ?_
 match r,z with
 | .ok (.ret _),⟨rfl,z⟩=>wp_walk;exact z
 | .error _,z=>exact z
theorem yC4{env:Env}{x:Sem Value}{Q:Flow->Shared->Prop}(hb:bm.contains (.type "BaseException")=true)(hh:A.handled=none)
  (k:wpAny (model prog w) A x (fun v s'=>∃e oe vs ob,v=.ref e/\ExLie s'.heap C N bm newId ob/\s'.heap.get? e=some oe/\oe.cls=.ref C/\oe.data=.fields vs/\vs[1]?=some .none/\E (.ref e) s') E s) :
  wpAny (model prog w) A (raiseStmt env (some x) none) Q E s:=by
 unfold raiseStmt
 refine Ab (wpAny_mono k (fun v s' z => ?_) fun _ _ z=>z)
 obtain⟨e,⟨cl,od,da,sl⟩,vs,ob,rfl,⟨hC,nm,q,bs,hdct,sn,sub,ab,col,dd,k0,k1,k2,k3,k5,rfl⟩,he,z1,z2,z3,z⟩:=z
 cases z1
 cases z2
 have base:(Value.ref C::bm).contains (.type "BaseException")=true:=by rw[BR,hb,Bool.or_true]
 have isE:∀{Q':Bool->Shared->Prop}{E':Value->Shared->Prop},Q' true s'->wpAny (model prog w) A (isSubtype (.ref C) (.type "BaseException")) Q' E' s':=fun y=>wpAny_isSubtype_exc hC (by rw[base];exact y)
 wp_walk using wpAny_loadPart_at he,wpAny_loadPart_at hC,isE,wpAny_field he rfl z3,wpAny_raiseNew_none hh
 exact z
end
end L2
namespace L2.L3
open PySem PySem.Spec PyProof.Rows
variable [CN]
section
omit [CN]
def iniP(e C:Addr):Heap->Prop:=fun h=>∃(t:Addr),h.get? e=some { cls:=.ref C,dict:=none,data:=.fields #[.ref t,.none,.none,.none,.bool false,.none] }
theorem zP9{P:Program}{w:World}{H:Hp}{h:Heap}{e C:Addr}(p:iniP e C h):ObjOk P w H h e (.ext (iniP e C)) :=
 ⟨p,let ⟨_,q⟩:=p; ⟨_,q⟩,fun _ _ ⟨t,q⟩ k=>⟨t,k _ q⟩⟩
def iniE(e C d:Addr):Heap->Prop:=fun h=>∃(t:Addr),h.get? e=some { cls:=.ref C,dict:=some d,data:=.fields #[.ref t,.none,.none,.none,.bool false,.none] }
theorem yB5{P:Program}{w:World}{H:Hp}{h:Heap}{e C d:Addr}(p:iniE e C d h):ObjOk P w H h e (.ext (iniE e C d)) :=
 ⟨p,let ⟨_,q⟩:=p; ⟨_,q⟩,fun _ _ ⟨t,q⟩ k=>⟨t,k _ q⟩⟩
end
def ExIn(K:KFr)(C:Addr)(bmB:List Value)(newId:String):Prop :=
 ∃(N:Addr) (bm:List Value) (nm q:Str) (bs:List Value) (hdct:Bool) (sn:List Str) (sub:List Value) (ab:Bool) (col:Option Bool) (dd:Option Addr) (k0 k1 k2 k3 k5:Option Value),
  K.lookup C=some (excClassObj nm q C N bs bm hdct sn sub ab col dd k0 k1 k2 k3 k5 newId)/\PySem.W.tailIn K bmB bm=true
theorem ExIn.lie{K:KFr}{C:Addr}{bmB:List Value}{newId:String}(x:ExIn K C bmB newId){h:Heap}(X:K.In h):∃N bm ob,ExLie h C N bm newId ob/\OwnTail h bmB bm:=by
 obtain⟨N,bm,nm,q,bs,hdct,sn,sub,ab,col,dd,k0,k1,k2,k3,k5,lk,tl⟩:=x
 exact⟨N,bm,_,⟨X _ _ lk,nm,q,bs,hdct,sn,sub,ab,col,dd,k0,k1,k2,k3,k5,rfl⟩,PySem.W.tail_of_in X tl⟩
theorem _root_.L2.ExLie.keeps{h h':Heap}{C N:Addr}{bm:List Value}{newId:String}{ob:Obj}(L:ExLie h C N bm newId ob)(k:∀b o,h.get? b=some o->h'.get? b=some o):ExLie h' C N bm newId ob:=⟨k _ _ L.obj,L.is⟩
structure BaseIni(K:KFr)(CB:Addr):Prop where
 get:PySem.W.specialIn K (.ref CB) "__getattribute__" = some (some (.builtin "type.__getattribute__"))
 reads:PySem.W.readsIn K CB (.type "type")=true
 find:PySem.W.findCls K (.ref CB) (.type "type") "__init__" = some (.val (.builtin "ValueError.__init__"))
def tBI(K:KFr)(t:TA):TE:=fun σ H Q=>t σ H fun vs H1=>∃e C m,vs=[.ref e,.str m]/\ExIn K C bmV "ValueError.__new__"/\H1 e=some (.ext (iniP e C))/\Q .non H1
theorem zZ7{X:Cx}{x:Str}{CB:Addr}{np apos pos:Pos}{e:Expr}{es:List Expr}{t:TA}{pl:Sem Bool}(hg:Gl X x)(hm:X.mg x=some (.ref CB))(hb:BaseIni X.K CB)(ha:PA X (e::es) t)(hdb:autoParam ((x == ("__debug__":Str))=false) DH)
  (hst:autoParam (starEach (e::es) X.env=(false,eval e X.env)::starEach es X.env) DI) (hpl:autoParam ((backTo pos (starEach es X.env)).any (·.1)=false) DI)
  (ht:eval (.Call (.Attribute (.Name x np) "__init__" apos) (e::es) [] pos) X.env=(do
   let ov <-eval (.Name x np) X.env
   standAt apos.atName
   let (f,first) <-holding [ov] (getMethod ov "__init__" pl)
   callWith pos f first (backTo pos (starEach (e::es) X.env)) (backToKw pos (keywordEach [] X.env))):=by rfl) :
  PE X (.Call (.Attribute (.Name x np) "__init__" apos) (e::es) [] pos) (tBI X.K t):=by
 intro DJ s σ H Q I h
 refine PySem.W.methodCall_KW (pl:=pl) (uU I hg hm ?_ hdb) ht
 refine PySem.W.method_cls I.kIn hb.get (PySem.W.cls_value I.kIn hb.reads hb.find rfl ?_)
 have I0:=I.tok (s.toks+1)
 refine PyProof.Rows.callWith_builtin1 (thn (ha pos DJ _ σ H _ I0 h) fun us s1 ⟨vs,H1,I1,r1,e,C,m,ev,hc,hH,q⟩ => ?_) hst hpl
 subst ev
 cases r1 with
 | cons ra r1=>cases r1 with
  | cons rb r1=>cases r1 with
   | nil =>
    obtain rfl:=ra
    obtain⟨tk,rfl⟩:=rb
    obtain⟨N,tl,_,⟨hC,nm,qn,bs,hd,sn,sb,ab,co,dd,k0,k1,k2,k3,k5,rfl⟩,T⟩:=hc.lie I1.kIn
    obtain⟨⟨t0,he⟩,_,_⟩:=I1.hok e _ hH
    obtain⟨hh,g,d,t1,os⟩:=s1
    refine wpAny_call (codeAny_call_builtin Cd.init.plain Cd.initEntry (wpAny_check_init_subT Cd T hC he rfl ?_))
    wp_walk
    have up:upd H1 e (.ext (iniP e C))=H1:=funext fun b=>by
     by_cases hb:b=e
     ·subst hb;rw[zO,hH]
     ·rw[zM hb]
    have new:((hh.push { cls:=.type "tuple",data:=.seq #[Value.str m tk] }).update e (Obj.mapFields fun x=>x.setIfInBounds 0 (.ref hh.objs.size))).get? e=some { cls:=.ref C,dict:=none,data:=.fields #[.ref hh.objs.size,.none,.none,.none,.bool false,.none] } :=
     Bf _ (An _ he) rfl
    have I2:=Inv.write (x:=e) (e:=e) (o:=.ext (iniP e C)) (t':=t1) (h':=(hh.push { cls:=.type "tuple",data:=.seq #[Value.str m tk] }).update e (Obj.mapFields fun x=>x.setIfInBounds 0 (.ref hh.objs.size))) I1 (by rw[hH];exact trivial) (.inl rfl)
     (fun b u nb hb=>by rw[AE _ _ (AX nb)];exact An _ hb) ⟨_,new⟩ (zP9 ⟨_,new⟩)
    rw[up] at I2
    exact⟨.non,H1,I2,rfl,q⟩
def spIni(C:Addr):Sp:=fun vs H Q _=>∃e r,vs=[.ref e,.int r]/\(0<=r/\r<16)/\H e=some (.ext (iniP e C))/\∀d,H d=none->Q .non (upd (upd H e (.ext (iniE e C d))) d (.ext (Row d r)))
theorem fT{n:Nat}(h:n<128):((n:Int)).natAbs.log2<1920/\(toString (n:Int):Str).length<=1000000:=by
 have:∀n,n<128->(((n:Nat):Int)).natAbs.log2<1920/\(toString ((n:Nat):Int):Str).length<=1000000:=by decide +kernel
 exact this n h
theorem yW8{X:Cx}{DJ:List (Addr×Obj)}{σ:St}{H H':Hp}{s s':Shared}{c:Str}{h':Heap}{e C d:Addr}{r:Int}{args:List Value}{o:HO}(I:Inv X DJ σ H s)(hA:CN.ad c=C)(hro:∀n,rowOf c=some n->(n:Int)=r)(m:Heap.MadeExcOf s.heap h' e (.ref C) args)(nd:upd H e o d=none)(eH:H'=upd (upd H e (.ext (iniE e C d))) d (.ext (Row d r)))
  (os:s'.os=s.os) (bare:AllBare s'.gens) (un:Un (frs X.stack) [] (upd H e o) H' h' s'.heap) (hok:HOk X.prog X.w H' s'.heap):ExcAt X c H (.ref e) s':=by
 subst eH hA
 have de:d≠e:=fun z=>by rw[z,zO] at nd;cases nd
 have nd2:H d=none:=by rw[zM de] at nd;exact nd
 have nd3:h'.get? d=none:=dX fun ob q=>by
  have z:=un.free d ob q nd (by simp)
  rw[zO] at z
  cases z
 have nd4:s.heap.get? d=none:=dX fun ob q=>by rw[m.keeps d ob q] at nd3;cases nd3
 have n:H e=none:=by
  cases q:H e with
  | none=>rfl
  | some o =>
   obtain⟨u,z⟩:=uZ (I.hok e o q)
   rw[m.new] at z
   cases z
 have ne:∀b ob,s.heap.get? b=some ob->b≠e:=fun b ob q z=>by subst z;rw[m.new] at q;cases q
 have neH:∀b u,H b=some u->b≠e:=fun b u q z=>by subst z;rw[n] at q;cases q
 have neD:∀b u,H b=some u->b≠d:=fun b u q z=>by subst z;rw[nd2] at q;cases q
 obtain⟨⟨t0,he⟩,_,_⟩:=hok e _ ((zM (AX de)).trans zO)
 obtain⟨row,_,_⟩:=hok d _ zO
 have hok2:HOk X.prog X.w H s'.heap:=fun b u q=>by
  have q':upd (upd H e (.ext (iniE e (CN.ad c) d))) d (.ext (Row d r)) b=some u:=by rw[zM (neD b u q),zM (neH b u q)];exact q
  refine (hok b u q').stay (fun _ _ _ z=>z) (fun b' z => ?_) fun b' xs z => ?_
  ·by_cases hd:b'=d
   ·subst hd;rw[zO] at z;cases z
   ·rw[zM hd] at z
    by_cases hb:b'=e
    ·subst hb;rw[zO] at z;cases z
    ·rw[zM hb] at z;exact z
  ·by_cases hd:b'=d
   ·subst hd;rw[zO] at z;cases z
   ·rw[zM hd] at z
    by_cases hb:b'=e
    ·subst hb;rw[zO] at z;cases z
    ·rw[zM hb] at z;exact z
 have up:∀{o':HO} b,b≠e->upd H e o' b=H b:=fun b hb=>zM hb
 have un2:Un (frs X.stack) [] H H s.heap s'.heap:=by
  refine⟨fun b ob q z hb hx => ?_,fun b ob q z hb hx => ?_,fun b ob q z hx=>z,fun b ob q hx => ?_,fun _ _ z=>z,fun _ _ _ z=>z,fun b ps z=>⟨#[],by simpa using z⟩⟩
  ·exact un.keep b ob (m.keeps b ob q) (by rw[up b (ne b ob q)];exact z) hb hx
  ·exact un.slot b ob (m.keeps b ob q) (by rw[up b (ne b ob q)];exact z) hb hx
  ·exact un.there b ob (m.keeps b ob q) hx
 have I6:=I.call' (s':=s') os un2 hok2 bare (fun b z=>by cases z)
 have nfr:d∉e::frs X.stack:=fun z=>by
  rcases Aw.mp z with z | z
  ·exact de z
  ·obtain⟨_,ob,q,_⟩:=(Dc (as:=frs X.stack) I.stack fun env he a ha=>Bz.mpr ⟨env,he,ha⟩).mem (b:=d) z
   rw[nd4] at q
   cases q
 refine⟨DJ,σ,s,H,e,PySem.W.hideAll s'.heap (e::frs X.stack),.ref t0,I,I6,un2,rfl,m.new,n,fun b o q=>CS _ q,CC _ (.head _),Dc I6.stack fun env he a ha=>Ai _ (Bz.mpr ⟨env,he,ha⟩),.inr ⟨_,_,he,rfl,rfl,rfl,rfl⟩,⟨_,_,_,he,rfl,rfl,fun _=>rfl,fun n hn=>⟨d,rfl,(hro n hn).symm▸row.keeps fun ob q=>Ch _ q nfr,nd2,nd4⟩⟩,fun b o q nb z=>Ch _ q fun hb => ?_⟩
 rcases Aw.mp hb with rfl | hb
 ·rcases z with z | z
  ·exact z m.new
  ·exact z n
 ·exact nb hb
def sRaI(nm:Int->Str)(m:Ev->Res (List D)):Ev->Res Out:=fun ρ=>(m ρ).bind fun ds=>match ds with
 | [.int r]=>if 0<=r/\r<16 then .ex (nm r) else .no
 | _=>.no
def tRaI(nm:Int->Str)(XE:Str->Hp->Prop)(t:TA):TS:=fun _ σ H=>t σ H fun vs H1=>∃r,vs=[.int r]/\(0<=r/\r<16)/\XE (nm r) H1
theorem zM4{C:Ct}{x:Str}{np cpos pos:Pos}{e:Expr}{t:TA}{fI:Addr}{fd:FuncData}{k:Nat}(nm:Int->Str)(hn:∀r:Int,0<=r/\r<16->CN.ad (nm r)=CN.ad x/\∀n,rowOf (nm r)=some n->(n:Int)=r)(hb:Br C)(ho:ExIn C.X.K (CN.ad x) bmV "ValueError.__new__")(hi:PySem.W.findIn C.X.K (.ref (CN.ad x)) "__init__" = some (some (.ref fI)))(hf:PySem.W.isFn C.X.K (.ref fI)=true)(hk:PySem.W.keepIn C.X.K (.ref (CN.ad x))=true)(hm:C.X.mg x=some (.ref (CN.ad x)))
  (F:FnOk C.X.prog C.X.w C.X.K C.X.mg C.X.base CX0 k fI fd ["self","row"] (spIni (CN.ad x))) (hbd:Binds C.X.K fd ["self","row"] []) (hr:Room (k+1) C.X.A)
  (pa:PA C.X [e] t) (hex:autoParam (C.X.ex=[]) DI) (hc:autoParam (C.X.calm=true) DI) (hg:autoParam (Gl C.X x) DI) (hdb:autoParam ((x == ("__debug__":Str))=false) DH)
  (he:autoParam (starEach [e] C.X.env=(false,eval e C.X.env)::starEach [] C.X.env) DI) (hpl:autoParam ((backTo cpos (starEach [] C.X.env)).any (·.1)=false) DI) :
  PS C.X (.Raise (some (.Call (.Name x np) [e] [] cpos)) none pos) (tRaI nm C.XE t):=by
 intro DJ s σ H D I h
 obtain⟨N,bm,ob,L,T⟩:=ho.lie I.mod.kin
 have ty:=beq_iff_eq.mp hf
 obtain⟨oI,lk,fc⟩:=AK.mp (show (C.X.K.lookup fI).map (·.cls)=some (.type "function") from ty)
 rw[arm_exec_Raise]
 refine Ab (wpAny_standAt (yC4 (C:=CN.ad x) (N:=N) (bm:=bm) (newId:="ValueError.__new__") (T.hasType Cd.hasBase) (I.ok.hd hc) ?_))
 refine Ab (wpAny_mono (Q:=fun v s'=>∃e oe vs ob,v=.ref e/\ExLie s'.heap (CN.ad x) N bm "ValueError.__new__" ob/\s'.heap.get? e=some oe/\oe.cls=.ref (CN.ad x)/\oe.data=.fields vs/\vs[1]?=some .none/\C.X.xe (.ref e) s') ?_ (fun v s' z=>Ab (wpAny_standAt (Ao z))) fun _ _ z=>z)
 refine wpAny_Call_Name_kw (uU I hg hm ?_ hdb)
 refine CT (h₀:=C.X.base) I.ok.mod.kin hk (thn (pa cpos DJ s σ H _ I h) fun us s2 ⟨vs,H2,I2,r,rr,ev,hb1,z⟩=>⟨I2.kIn,?_⟩) he hpl
 subst ev
 cases r with
 | cons ra r=>cases r with
  | nil =>
   obtain⟨tk,rfl⟩:=ra
   refine zD6 Cd (T.keeps I2.bk) (L.keeps I2.bk) I2.kIn hi (I2.kIn _ _ lk) fc (by show 1<=sizeLine;decide) fun h' a m => ?_
   obtain⟨t0,he0,_,_⟩:=m.there
   have n:H2 a=none:=by
    cases q:H2 a with
    | none=>rfl
    | some o =>
     obtain⟨u,z⟩:=uZ (I2.hok a o q)
     rw[m.new] at z
     cases z
   have gone:∀b ob,s2.heap.get? b=some ob->b≠a:=fun b ob q z=>by subst z;rw[m.new] at q;cases q
   have I3:Inv C.X DJ σ H2 { s2 with heap:=h',toks:=s2.toks }:=I2.kept m.keeps
   have I4:Inv C.X DJ σ (upd H2 a (.ext (iniP a (CN.ad x)))) { s2 with heap:=h',toks:=s2.toks }:=by
    refine I3.track n ?_ ?_ (fun y z q => ?_) (fun p hp => ?_) (zP9 ⟨t0,he0⟩)
    ·cases q:C.X.s₀.heap.get? a with
     | none=>rfl
     | some o =>
      obtain⟨o',q'⟩:=I2.base.there a o q (by rw[hex];simp)
      rw[m.new] at q'
      cases q'
    ·obtain⟨mm,⟨o,_,_,q,_⟩,_⟩:=I2.loc
     exact AX (gone _ o q)
    ·obtain⟨v,o,q',_⟩:=I2.cell y z q
     exact gone _ o q'
    ·exact gone _ _ (I2.pin p hp).1
   have r2:Vals [V.ref a,V.int rr] [Value.ref a,Value.int rr tk]:=.cons rfl (.cons ⟨tk,rfl⟩ .nil)
   refine codeAny_mono (F.run _ C.X.stack _ _ ⟨[Value.ref a,Value.int rr tk],[]⟩ [Value.ref a,Value.int rr tk] _ (fun v H'=>v=.non/\∃d,upd H2 a (.ext (iniP a (CN.ad x))) d=none/\H'=upd (upd (upd H2 a (.ext (iniP a (CN.ad x)))) a (.ext (iniE a (CN.ad x) d))) d (.ext (Row d rr))) E0 (hr.make (CN.ad x) [Value.int rr tk] []) (I4.env0.make (CN.ad x) [Value.int rr tk] []) (hbd _ [Value.ref a,Value.int rr tk] I4.kIn rfl) r2 ⟨a,rr,rfl,hb1,zO,fun d z=>⟨rfl,d,z,rfl⟩⟩) fun res s' hq' => ?_
   cases res with
   | error ee=>exact hq'.elim
   | ok fl =>
    cases fl with
    | ret u =>
     obtain⟨v,H',os',bare,un,hok,rv,rfl,d,nd,eH⟩:=hq'
     rw[yX1] at eH
     have ex:=yW8 I2 (hn rr hb1).1 (hn rr hb1).2 m nd eH os' bare un hok
     have da:a≠d:=fun z=>by rw[<-z,zO] at nd;cases nd
     obtain⟨⟨t1,he1⟩,_,_⟩:=hok a _ (by rw[eH];exact (zM da).trans zO)
     obtain⟨_,_,_,_,_,_,_,_,I6,_⟩:=id ex
     exact⟨rv,a,_,_,ob,rfl,L.keeps I6.bk,he1,rfl,rfl,rfl,hb _ H2 _ _ ex z⟩
    | next=>exact hq'.elim
    | brk=>exact hq'.elim
    | cont=>exact hq'.elim
theorem gB{C:Ct}{fr:Bool}{x:Str}{np cpos pos:Pos}{e:Expr}{ms:Ev->Res (List D)}{fI:Addr}{fd:FuncData}{k:Nat}(nm:Int->Str)(hn:∀r:Int,0<=r/\r<16->CN.ad (nm r)=CN.ad x/\∀n,rowOf (nm r)=some n->(n:Int)=r)(hb:Br C)(ho:ExIn C.X.K (CN.ad x) bmV "ValueError.__new__")(hi:PySem.W.findIn C.X.K (.ref (CN.ad x)) "__init__" = some (some (.ref fI)))(hf:PySem.W.isFn C.X.K (.ref fI)=true)(hk:PySem.W.keepIn C.X.K (.ref (CN.ad x))=true)(hm:C.X.mg x=some (.ref (CN.ad x)))
  (F:FnOk C.X.prog C.X.w C.X.K C.X.mg C.X.base CX0 k fI fd ["self","row"] (spIni (CN.ad x))) (hbd:Binds C.X.K fd ["self","row"] []) (hr:Room (k+1) C.X.A)
  (ha:RArg C false [e] ms) (hex:autoParam (C.X.ex=[]) DI) (hc:autoParam (C.X.calm=true) DI) (hg:autoParam (Gl C.X x) DI) (hdb:autoParam ((x == ("__debug__":Str))=false) DH)
  (he:autoParam (starEach [e] C.X.env=(false,eval e C.X.env)::starEach [] C.X.env) DI) (hpl:autoParam ((backTo cpos (starEach [] C.X.env)).any (·.1)=false) DI) :
  RS C fr (.Raise (some (.Call (.Name x np) [e] [] cpos)) none pos) (sRaI nm ms):=by
 obtain⟨t,pa,q⟩:=ha
 refine⟨_,zM4 nm hn hb ho hi hf hk hm F hbd hr pa hex hc hg hdb he hpl,fun Oc Ob σ H ρ E R h=>q Oc Ob σ H ρ _ R (Res.zT (Res.zU h) (fun ds _ k vs H' s r => ?_) fun c z H' s=>z H' (Same.frm s))⟩
 match ds,k,r with
 | [.int i],k,r =>
  cases r with
  | cons r0 r=>cases r with
   | nil =>
    by_cases c:0<=i/\i<16
    ·have k:Res.post (if 0<=i/\i<16 then (Res.ex (nm i):Res Out) else .no) _ _:=k
     rw[Ak c] at k
     exact⟨i,by rw[r0.int],c,k H' (Same.frm s)⟩
    ·have k:Res.post (if 0<=i/\i<16 then (Res.ex (nm i):Res Out) else .no) _ _:=k
     rw[Ax c] at k
     exact k.elim
 | [],k,r=>exact k.elim
end L2.L3
namespace L2.L3
open PySem PySem.Spec PyProof.Rows
theorem zJ4:entryFor table "proto.unchain" = some Builtin.«proto.unchain»:=entryFor_of_tree (by kernel_rfl)
section
variable {prog:Program}{w:World}{A:Around}{E:Value->Shared->Prop}{s:Shared}
abbrev KpN(e:Addr)(h:Heap):Prop:=KpX (fun _ v=>v=.none) e h
theorem zA1{α:Type}{Q:α->Shared->Prop}{a h0:Addr}{oe:Obj}{vs:Array Value}(hh:A.handled=some (.ref h0))(ne:h0≠a)(kp:KpN h0 s.heap)(he:s.heap.get? a=some oe)(hd:oe.data=.fields vs)(hs:2<vs.size)
  (hE:E (.ref a) { s with heap:=s.heap.update a (Obj.mapFields (·.setIfInBounds 2 (.ref h0))) }):wpAny (model prog w) A (raiseNew (.ref a):Sem α) Q E s:=by
 obtain⟨oh,us,v0,q1,q2,q3,rfl⟩:=kp
 unfold raiseNew
 refine Ab (wpAny_handled ?_)
 rw[hh]
 have nb:(Value.ref h0 != Value.ref a)=true:=by simpa using ne
 simp only[nb,if_true]
 refine Ab (wpAny_holding (runValue_entry zJ4 ?_))
 unfold Builtin.«proto.unchain»
 refine Ab (wpAny_field q1 q2 q3 ?_)
 rw[Ak (by decide)]
 refine Ab (Ao (Ao ⟨.none,rfl,?_⟩))
 refine Ab ?_
 show wpAny _ _ (setField (.ref a) 2 (.ref h0)) _ _ _
 exact wpAny_setField he hd hs (wpAny_throw hE)
def fromF(t h0:Addr):Array Value:=#[.ref t,.none,.ref h0,.none,.bool true,.none]
theorem yS1{env:Env}{C N h0:Addr}{bm:List Value}{newId:String}{x c:Sem Value}{Q:Flow->Shared->Prop}(hb:bm.contains (.type "BaseException")=true)(hh:A.handled=some (.ref h0))
  (k:wpAny (model prog w) A x (fun v s'=>∃e od t ob,v=.ref e/\ExLie s'.heap C N bm newId ob/\s'.heap.get? e=some { cls:=.ref C,dict:=od,data:=.fields #[.ref t,.none,.none,.none,.bool false,.none] }/\h0≠e/\e≠C/\KpN h0 s'.heap /\
   wpAny (model prog w) A c (fun cv s₂=>cv=.none/\s₂=s') E s'/\∀g,g.get? e=some { cls:=.ref C,dict:=od,data:=.fields (fromF t h0) }->(∀b,b≠e->g.get? b=s'.heap.get? b)->E (.ref e) { s' with heap:=g }) E s) :
  wpAny (model prog w) A (raiseStmt env (some x) (some c)) Q E s:=by
 unfold raiseStmt
 refine Ab (wpAny_mono k (fun v s' z => ?_) fun _ _ z=>z)
 obtain⟨e,od,t,ob,rfl,⟨hC,nm,q,bs,hdct,sn,sub,ab,col,dd,k0,k1,k2,k3,k5,rfl⟩,he,n1,n2,kp,kc,z⟩:=z
 have base:(Value.ref C::bm).contains (.type "BaseException")=true:=by rw[BR,hb,Bool.or_true]
 have isE:∀{Q':Bool->Shared->Prop}{E':Value->Shared->Prop},Q' true s'->wpAny (model prog w) A (isSubtype (.ref C) (.type "BaseException")) Q' E' s':=fun y=>wpAny_isSubtype_exc hC (by rw[base];exact y)
 refine Ab (wpAny_holding (wpAny_mono kc (fun cv s₂ y => ?_) fun _ _ y=>y))
 obtain⟨rfl,rfl⟩:=y
 have f3:(s₂.heap.update e (Obj.mapFields (·.setIfInBounds 3 .none))).get? e=some { cls:=.ref C,dict:=od,data:=.fields #[.ref t,.none,.none,.none,.bool false,.none] }:=Bf _ he rfl
 have f4:((s₂.heap.update e (Obj.mapFields (·.setIfInBounds 3 .none))).update e (Obj.mapFields (·.setIfInBounds 4 (.bool true)))).get? e=some { cls:=.ref C,dict:=od,data:=.fields #[.ref t,.none,.none,.none,.bool true,.none] }:=Bf _ f3 rfl
 have ot:∀b,b≠e->((s₂.heap.update e (Obj.mapFields (·.setIfInBounds 3 .none))).update e (Obj.mapFields (·.setIfInBounds 4 (.bool true)))).get? b=s₂.heap.get? b:=fun b y=>by
  rw[AE _ _ (AX y),AE _ _ (AX y)]
 have c4:=(ot C (AX n2)).trans hC
 wp_walk using wpAny_loadPart_at he,wpAny_loadPart_at hC,isE,wpAny_loadPart_at f4,wpAny_loadPart_at c4
 exact zA1 hh n1 (kp.same (ot h0 n1)) f4 rfl (show 2<6 by decide) (z _ (Bf _ f4 rfl) fun b y=>(AE _ _ (AX y)).trans (ot b y))
end
end L2.L3
namespace L2
open PySem PySem.Spec PyProof.Rows L2.L3
def RunM(P:Program)(w:World)(K:KFr)(mg:Str->Option Value)(base:Heap)(k:Nat)(f:Addr)(fd:FuncData)(ps:List Str)(sp:Sp):Prop :=
 ∀(A:Around) (m:Value) (outer:List Env) (s:Shared) (H:Hp) (args:Args) (us:List Value) (vs:List V) (Q:VK) (E:XK),Room k A->Env0 P w K mg base A outer s H->BindsTo s fd args (ps.zip us)->Vals vs us->sp vs H Q E ->
  codeAny (model P w) (A.mark (some m)) (.call (.ref f) args) (CR CX0 outer P w H s Q E) s
theorem xP3{P:Program}{w:World}{K:KFr}{mg:Str->Option Value}{base:Heap}{k:Nat}{f:Addr}{name qual:Str}{params:Arguments}{body:List Stmt}{scope:Scope}{dV kV doc pm cdv ct oc:Value}{an od:Option Addr}
  {osl:Array (Option Value)}{N ps:List Str}{sp:Sp}(lk:K.lookup f=some ⟨oc,od,.func (PySem.W.fnOf name qual params body scope dV kV doc pm an cdv ct),osl⟩) (hcd:PySem.W.codeIn K cdv qual=true) (S:yX N ps scope)
  (len:∀vs H Q E,sp vs H Q E->vs.length=ps.length)
  (hbody:∀(m:Value) (A:Around) (outer:List Env) (s:Shared) (H:Hp) (vs:List V) (Q:VK) (E:XK),sp vs H Q E ->
   ∃t,PSs (inSuite (cxOf CX0 P w K mg base N qual scope f cdv A outer s H E) m) body t/\t { nx:=fun _ H'=>Q .non H',rt:=Q } (start N vs) H) :
  RunM P w K mg base (k+1) f (PySem.W.fnOf name qual params body scope dV kV doc pm an cdv ct) ps sp:=by
 intro A m outer s H args us vs Q E hr e0 hb r hsp
 have hl:=len _ _ _ _ hsp
 have KX:K.In s.heap:=e0.mod.kin.keeps fun b o e=>(e0.bs b o e).1
 have lim:s.heap.NoLimit:=e0.mod.nolimit.keeps fun b o e=>(e0.bs b o e).1
 have hkind:∀y∈ps.zip us,scope.names.lookup y.1=some .local \/ (scope.names.lookup y.1=some .cell/\((cellsFrom (s.heap.objs.size+1) scope.names []).lookup y.1).isSome=true):=fun ⟨n,v⟩ hy=>by
  rcases S.par n (Dw hy).1 with q | q
  ·exact .inl q
  ·exact .inr ⟨q,CZ _ _ _ (.inl q)⟩
 refine codeAny_call_function (A:=A.mark (some m)) hr.depth (KX _ _ lk) rfl S.co S.gen rfl (PySem.W.codeRec_of KX hcd) (hb _ _ _ _ ?_)
 refine wpAny_newFunctionEnv_cells S.kind hkind fun env he s1 x => ?_
 subst he
 refine⟨lim.keeps x.toInCall.keep,codeAny_func ?_⟩
 obtain⟨t,ht,hq⟩:=hbody m A outer s H vs Q E hsp
 have I:Inv (cxOf CX0 P w K mg base N qual scope f cdv A outer s H E) [] (start N vs) H s1:=zM2 S hr.hd e0 hl r x
 have I2:=Inv.toSuite I m
 refine wpAny_mono (ht [] s1 (start N vs) H _ I2 hq) (fun fl s' hs => ?_) fun e s' hs=>hs.elim
 have fin:∀{σ':St}{H':Hp}{v:V}{u:Value},Inv (inSuite (cxOf CX0 P w K mg base N qual scope f cdv A outer s H E) m) [] σ' H' s'->RelV v u->Q v H'->CE outer P w H s Q u s' :=
  fun {σ' H' v u} J rv q=>⟨v,H',J.os,J.bare,J.base,J.hok,rv,q⟩
 cases fl with
 | ret u =>
  obtain⟨v,σ',H',J,rv,q⟩:=hs
  exact fin J rv q
 | next =>
  obtain⟨σ',H',J,q⟩:=hs
  exact fin (v:=V.non) (u:=Value.none) J rfl q
 | brk =>
  obtain⟨_,_,_,q⟩:=hs
  exact False.elim q
 | cont =>
  obtain⟨_,_,_,q⟩:=hs
  exact False.elim q
theorem Fun.okM{P:Program}{w:World}{K:KFr}{mg:Str->Option Value}{base:Heap}{x qual:Str}{st:Stmt}{f:Addr}{fd:FuncData}{N ps:List Str}{k:Nat}{sp:Sp}(F:Fun K x qual st f fd)(S:yX N ps (zR st))(len:∀vs H Q E,sp vs H Q E->vs.length=ps.length)
  (hbody:∀(m cdv:Value) (A:Around) (outer:List Env) (s:Shared) (H:Hp) (vs:List V) (Q:VK) (E:XK),sp vs H Q E ->
   ∃t,PSs (inSuite (cxOf CX0 P w K mg base N qual (zR st) f cdv A outer s H E) m) (defBody st) t/\t { nx:=fun _ H'=>Q .non H',rt:=Q } (start N vs) H):RunM P w K mg base (k+1) f fd ps sp:=by
 obtain⟨oc,od,kV,doc,pm,an,cdv,ct,osl,rfl,lk,hcd⟩:=F.ex
 exact xP3 lk hcd S len fun m A outer s H vs Q E hsp=>hbody m cdv A outer s H vs Q E hsp
end L2
namespace L2.L3
open PySem PySem.Spec PyProof.Rows
section
variable {M:Model}{A:Around}{E:Value->Shared->Prop}{s:Shared}{B:Heap}{e:Addr}{cls a0 fl:Value}
theorem flyK{l:List Env}{fr:Option Addr}{Q:Unit->Shared->Prop}(hB:B.StaysIn s.heap)(hF:s.heap.FunFrames B l)(ht:s.heap.TracedAtW B e cls a0 fl){Φ:Option Addr->Value->Prop}(kp:KpX Φ e s.heap)
  (k:∀g fl',B.StaysIn g->g.FunFrames B l->g.TracedAtW B e cls a0 fl'->s.heap.UpToSlots g->KpX Φ e g->Q () { s with heap:=g }) :
  wpAny M A (do
   if (<-field (.ref e) 1) == .none then unsupported "frame.own-activation:exception-without-traceback"
   setFlight (.ref e) fr) Q E s:=by
 obtain⟨oe,vs,T,oT,ts,g1,g2,g4,g5,g6,g7,g8,g9,g10⟩:=ht
 have sz:=(AY.mp g10).1
 have ot:∀b,b≠T->(s.heap.update T (Obj.mapFields (·.setIfInBounds 3 (fr.elim Value.none fun f=>rawInt f)))).get? b=s.heap.get? b:=fun b hb=>AE _ _ (AX hb)
 have nf:∀b o,s.heap.get? b=some o->(∀vs,o.data ≠ .fields vs)->b≠T:=fun b o q hd w=>by
  subst w
  cases g8.symm.trans q
  exact hd ts g9
 have n0:(Value.ref T == Value.none)=false:=by simp
 have n1:(Value.ref T != Value.none)=true:=by simp
 refine Ab (wpAny_field g1 g4 g5 ?_)
 simp only[n0,AF,if_false]
 unfold setFlight
 refine Ab (wpAny_field g1 g4 g5 ?_)
 simp only[n1,if_true]
 refine wpAny_setField g8 g9 sz (k _ (fr.elim .none fun f=>rawInt f) (fun b o q=>(ot b fun w=>by subst w;rw[g6] at q;cases q).trans (hB b o q)) (hF.of_keeps fun b o q hd=>⟨o,(ot b (nf b o q hd)).trans q,rfl⟩) ?_ (fun b o q hd=>⟨o.slots,(ot b (nf b o q hd)).trans q⟩) (kp.same (ot e (AX g7))))
 exact⟨oe,vs,T,_,_,(ot e (AX g7)).trans g1,g2,g4,g5,g6,g7,Bf _ g8 (BP (Bp g9 _)),Bp g9 _,by simp[sz]⟩
end
variable [CN]
theorem yG5{X:Cx}{c:Str}{H:Hp}{a:Addr}{s:Shared}{A':Around}(hA':A'.frames=X.A.frames)(x:ExcAt X c H (.ref a) s)(hst:X.stack=X.env::X.outer)(hfr:X.env.frame=some X.env.locals)
  (hb:∀s',ExcAt X c H (.ref a) s'->X.xe (.ref a) s'):notedBy (model X.prog X.w) A' X.env (cameBackBy (model X.prog X.w) X.A X.env X.xe) (.ref a) s:=by
 obtain⟨DJ,σ,s1,H1,a',B,a0,I1,I,un,ea,n1,n2,f⟩:=x
 cases ea
 have hfrm:s.heap.FunFrames B (X.env::X.outer):=by rw[<-hst];exact f.frm
 have hA:A'.frames=some (X.env::X.outer):=by rw[hA',<-hst];exact I.ok.frames
 obtain⟨Φ,hP⟩:∃Φ,Φ=FlK (.ref (CN.ad c)) (rowOf c) B s1.heap H:=⟨_,rfl⟩
 have fk:KpX Φ a s.heap:=hP▸f.kp
 have key:∀h',Heap.NotedW B (X.env::X.outer) a (.ref (CN.ad c)) a0 (rawInt X.env.locals) s.heap h'->KpX Φ a h'->cameBackBy (model X.prog X.w) X.A X.env X.xe (.ref a) { s with heap:=h' }:=by
  rintro h' ⟨k1,k2,k3,k4⟩ kh
  rw[<-hst] at k2
  unfold cameBackBy
  refine flyK (s:={ s with heap:=h' }) (B:=B) (l:=X.stack) k1 k2 k3 kh fun h2 fl' g1 g2 g3 g4 g5 => ?_
  have ups2:s.heap.UpToSlots h2:=Heap.UpToSlots.trans k4 g4
  obtain⟨J,un2,cov⟩:=aE I1 I un f g1 g2 ups2
  exact hb _ ⟨DJ,σ,s1,H1,a,B,a0,I1,J,un2,rfl,n1,n2,⟨g1,f.newB,g2,.inl ⟨fl',g3⟩,hP▸g5,cov⟩⟩
 show wpAny (model X.prog X.w) A' (noteFrame (.ref a) X.env) (fun _ s''=>cameBackBy (model X.prog X.w) X.A X.env X.xe (.ref a) s'') _ s
 rcases f.raw with ⟨fl,t⟩ | ⟨oe,vs,he,hc,hd,h1,h0⟩
 ·exact gJ hA hfrm hfr t f.stays f.newB fk key
 ·rw[<-hc] at key
  unfold noteFrame
  simp only[hfr]
  refine Ab (wpAny_field he hd h1 ?_)
  rw[Ax (by decide)]
  exact entryK hA hfrm hfr he f.stays f.newB hd (AY.mp h1).1 h0 fk key
theorem xW9{X:Cx}{nm:Str}{H:Hp}{a:Addr}{s:Shared}{g:Heap}{oe:Obj}{us:Array Value}{o1:Obj}{u1:Array Value}(hnm:CN.ad nm=CN.ad "BadText")(x:ExcAt X nm H (.ref a) s)(h1:s.heap.get? a=some o1)(d1:o1.data=.fields u1)
  (hg:g.get? a=some oe) (hc:oe.cls=.ref (CN.ad "BadText")) (hd:oe.data=.fields us) (z1:us[1]?=some .none){v v2:Value}(z0:us[0]?=some v) (z2:us[2]?=some v2) (zd:oe.dict=o1.dict) (ot:∀b,b≠a->g.get? b=s.heap.get? b):ExcAt X nm H (.ref a) { s with heap:=g }:=by
 obtain⟨DJ,σ,s1,H1,a',B,a0,I1,I,un,ea,n1,n2,f⟩:=x
 cases ea
 have ne1:∀b o,s1.heap.get? b=some o->b≠a:=fun b o q y=>by subst y;rw[n1] at q;cases q
 have neH:∀b,H b≠none->b≠a:=fun b q y=>q (y▸n2)
 have nF:∀b o,s.heap.get? b=some o->(∀vs,o.data ≠ .fields vs)->b≠a:=fun b o q d y=>by
  subst y
  cases h1.symm.trans q
  exact d _ d1
 have un2:Un (frs X.stack) [] H1 H s1.heap g:=by
  refine⟨fun b o q n hb hx=>(ot b (ne1 b o q)).trans (un.keep b o q n hb hx),fun b o q n hb hx => ?_,un.free,fun b o q hx => ?_,un.tups,un.frzs,un.tbls⟩
  ·obtain⟨sl,y⟩:=un.slot b o q n hb hx
   exact⟨sl,(ot b (ne1 b o q)).trans y⟩
  ·obtain⟨o',y⟩:=un.there b o q hx
   exact⟨o',(ot b (ne1 b o q)).trans y⟩
 have hok:HOk X.prog X.w H g:=fun b o q=>by
  refine (I.hok b o q).stay (fun b' u hb' y=>(ot b' ?_).trans y) (fun _ z=>z) fun _ _ z=>z
  rcases hb' with rfl | hb'
  ·exact neH _ (wP q)
  ·exact neH _ (wP hb')
 have kd:∀r,rowOf nm=some r->∃d,oe.dict=some d/\Row d (r:Int) B/\H d=none/\s1.heap.get? d=none:=fun r e=>by
  obtain⟨o,vs,v',e1,_,_,_,y⟩:=f.kp
  cases h1.symm.trans e1
  rw[zd]
  exact y r e
 have J:=I1.call' (s':={ s with heap:=g }) (I.os.trans I1.os.symm) un2 hok I.bare (fun b z=>by cases z)
 refine⟨DJ,σ,s1,H1,a,B,v,I1,J,un2,rfl,n1,n2,⟨fun b o q=>(ot b fun y=>by subst y;rw[f.newB] at q;cases q).trans (f.stays b o q),f.newB,f.frm.of_keeps fun b o q d=>⟨o,(ot b (nF b o q d)).trans q,rfl⟩,.inr ⟨oe,us,hg,by rw[hc,hnm],hd,z1,z0⟩,⟨oe,us,v2,hg,hd,z2,fun p=>absurd (by rw[hnm]) p,kd⟩,fun b o q nb z => ?_⟩⟩
 have nb':b≠a:=by
  rcases z with z | z
  ·obtain⟨o',q'⟩:=fB z
   exact ne1 b o' q'
  ·exact neH b z
 exact f.cov b o ((ot b nb').symm.trans q) nb z
def sTryR(caught:List Str)(nm:Str)(mb:Ev->Res Out):Ev->Res Out:=fun ρ=>match mb ρ with
 | .ok o=>.ok o
 | .no=>.no
 | .ex c=>if caught.contains c then .ex nm else .no
theorem xX8{C:Ct}{fr:Bool}{x:Str}{np hpos pos yp cpos ip jp rp:Pos}{j j2:Nat}{body:List Stmt}{mb:Ev->Res Out}{fI:Addr}{fd:FuncData}{k:Nat}(caught:List Str)(nm:Str)(hnm:CN.ad nm=CN.ad "BadText")(hrn:∀n,rowOf nm=some n->(n:Int)=1)
  (hbody:∀(pn:List (Addr×Obj)) (xe:Value->Shared->Prop) (XE:Str->Hp->Prop),Br ⟨inTry C.X pn xe,XE,C.om,C.ln⟩->RSs ⟨inTry C.X pn xe,XE,C.om,C.ln⟩ fr body mb)
  (hcx:∀c,caught.contains c=true->PySem.W.kitCls C.X.K (.ref (CN.ad c)) (.ref (CN.ad x))=some true) (hcb:PySem.W.subIn C.X.K (.ref (CN.ad x)) (.type "BaseException")=some true) (hm:C.X.mg x=some (.ref (CN.ad x)))
  (hne:∀c,caught.contains c=true->Value.ref (CN.ad c) ≠ .ref (CN.ad "BadText")) (hb:Br C)
  (ho:ExIn C.X.K (CN.ad "BadText") bmV "ValueError.__new__") (hi:PySem.W.findIn C.X.K (.ref (CN.ad "BadText")) "__init__" = some (some (.ref fI))) (hk:PySem.W.keepIn C.X.K (.ref (CN.ad "BadText"))=true) (hf:PySem.W.isFn C.X.K (.ref fI)=true) (hmy:C.X.mg "BadText" = some (.ref (CN.ad "BadText")))
  (F:RunM C.X.prog C.X.w C.X.K C.X.mg C.X.base k fI fd ["self","row"] (spIni (CN.ad "BadText"))) (hbd:Binds C.X.K fd ["self","row"] []) (hr:Room (k+1) C.X.A)
  (hst:autoParam (C.X.stack=C.X.env::C.X.outer) DI) (hfr:autoParam (C.X.env.frame=some C.X.env.locals) DI) (hex:autoParam (C.X.ex=[]) DI) (hg:autoParam (Gl C.X x) DI) (hdb:autoParam ((x == ("__debug__":Str))=false) DH) (hgy:autoParam (Gl C.X "BadText") DI)
  (he:autoParam (starEach [.Constant (.int 1) j ip] C.X.env=(false,eval (.Constant (.int 1) j ip) C.X.env)::starEach [] C.X.env) DI) (hpl:autoParam ((backTo cpos (starEach [] C.X.env)).any (·.1)=false) DI) :
  RS C fr (.Try body [.ExceptHandler (some (.Name x np)) none [.Raise (some (.Call (.Name "BadText" yp) [.Constant (.int 1) j ip] [] cpos)) (some (.Constant .none j2 jp)) rp] hpos] [] [] pos) (sTryR caught nm mb):=by
 refine⟨fun D σ H=>∀DJ s,Inv C.X DJ σ H s->wpAny (model C.X.prog C.X.w) C.X.A (exec (.Try body [.ExceptHandler (some (.Name x np)) none [.Raise (some (.Call (.Name "BadText" yp) [.Constant (.int 1) j ip] [] cpos)) (some (.Constant .none j2 jp)) rp] hpos] [] [] pos) C.X.env) (SP C.X DJ D) C.X.xe s,fun DJ s σ H D I h=>h DJ s I,fun Oc Ob σ H ρ E R hp DJ s I => ?_⟩
 refine wpAny_Try_except ?_
 generalize hxe:(fun (e:Value) (s₁:Shared)=>wpAny (model C.X.prog C.X.w) C.X.A (noteFrame e C.X.env) (fun _ s₂=>wpAny (model C.X.prog C.X.w) C.X.A (setFlight e none) (fun _ s₃=>wpAny (model C.X.prog C.X.w) C.X.A (handleBy e C.X.env [.ExceptHandler (some (.Name x np)) none [.Raise (some (.Call (.Name "BadText" yp) [.Constant (.int 1) j ip] [] cpos)) (some (.Constant .none j2 jp)) rp] hpos]) (SP C.X DJ E) C.X.xe s₃) C.X.xe s₂) C.X.xe s₁)=xe'
 have br:Br ⟨inTry C.X (C.X.pn++DJ) xe',fun c H'=>caught.contains c=true/\C.XE nm H',C.om,C.ln⟩:=by
  intro c H' e s' xx ⟨hc,hsp⟩
  subst hxe
  refine yK8 (X:=inTry C.X (C.X.pn++DJ) _) xx hst hfr fun pins' σ' s1 H1 a B a0 s3 J1 J un ea n1 n2 fl tr => ?_
  subst ea
  have K3:Inv C.X DJ σ' H' s3:=Inv.ofTry J
  have Km:=Inv.toSuite K3 (.ref a)
  refine wpAny_handleBy_cons (codeAny_handlers_test ?_) (by intro q;cases q)
  refine uU (X:=inSuite C.X (.ref a)) Km hg hm ?_ hdb
  obtain⟨oe,_,_,_,_,he0,⟨hcl,_⟩,_⟩:=id tr
  refine zL2 K3.kIn he0 hcl (hcx c hc) hcb ?_
  refine codeAny_handlers_suite ?_
  refine flightK (B:=B) (l:=C.X.stack) (cls:=.ref (CN.ad c)) (a0:=a0) (Φ:=fun _ v=>v=.none) fl.stays fl.newB fl.frm tr.at (fl.kp.mono fun d v y=>y.1 (hne c hc)) fun h4 fly ups k4 => ?_
  obtain⟨I4,_,_⟩:=aE J1 J un fl fly.1 fly.2.2.1 ups
  have K4:Inv C.X DJ σ' H' { s3 with heap:=h4 }:=Inv.ofTry I4
  have L1:Inv C.X DJ σ' H1 s1:=Inv.ofTry J1
  obtain⟨oa,vs,v0,qa,da,za,ez⟩:=k4
  subst ez
  have hn1:∀b o,s1.heap.get? b=some o->b≠a:=fun b o q z=>by subst z;rw[n1] at q;cases q
  have K5:Inv C.X ((a,oa)::DJ) σ' H' { s3 with heap:=h4 }:=K4.xE fun p hp=>by
   rcases Aw.mp hp with rfl | hp
   ·refine⟨qa,n2,?_,fun hb' => ?_,fun v=>by rw[da];exact fun z=>nomatch z⟩
    ·obtain⟨m,⟨o,_,_,q,_⟩,_⟩:=L1.loc
     exact AX (hn1 _ o q)
    ·obtain⟨_,o,q,_⟩:=L1.ok.funs.mem hb'
     obtain⟨o',q'⟩:=L1.base.there _ o q (by rw[hex];simp)
     rw[n1] at q'
     cases q'
   ·exact K4.pin p (Ah _ hp)
  have Km5:=Inv.toSuite K5 (.ref a)
  refine wpAny_execs_cons ?_
  obtain⟨N,bm,ob,L,T⟩:=ho.lie I.mod.kin
  have ty:=beq_iff_eq.mp hf
  obtain⟨oI,lk,fc⟩:=AK.mp (show (C.X.K.lookup fI).map (·.cls)=some (.type "function") from ty)
  rw[arm_exec_Raise]
  refine Ab (wpAny_standAt (yS1 (A:=C.X.A.mark (some (.ref a))) (C:=CN.ad "BadText") (N:=N) (bm:=bm) (newId:="ValueError.__new__") (h0:=a) (T.hasType Cd.hasBase) rfl ?_))
  refine Ab (wpAny_mono ?_ (fun v s' z=>Ab (wpAny_standAt (Ao z))) fun _ _ z=>z)
  refine wpAny_Call_Name_kw (uU (X:=inSuite C.X (.ref a)) Km5 hgy hmy ?_ (by decide))
  have pa:PA (inSuite C.X (.ref a)) [.Constant (.int 1) j ip] (zF (tC (.int 1)) tNil):=zP xX zA he
  have h2:=pa cpos ((a,oa)::DJ) _ σ' H' (fun vs H1=>vs=[.int 1]/\H1=H') Km5 ⟨rfl,rfl⟩
  refine CT (h₀:=C.X.base) I.ok.mod.kin hk (wpAny_mono h2 (fun us s2 ⟨vs',H2,I2,r,ev,eH2⟩=>⟨I2.kIn,?_⟩) fun _ _ y=>y.elim) he hpl
  subst ev eH2
  cases r with
  | cons ra r=>cases r with
   | nil =>
    obtain⟨tk,rfl⟩:=ra
    have J2:Inv C.X ((a,oa)::DJ) σ' H2 s2:=Inv.ofSuite K4.ok I2
    have qa2:s2.heap.get? a=some oa:=(J2.pin (a,oa) (Ah _ Ae)).1
    refine zD6 Cd (T.keeps J2.bk) (L.keeps J2.bk) J2.kIn hi (J2.kIn _ _ lk) fc (by show 1<=sizeLine;decide) fun h' a2 m => ?_
    obtain⟨t0,he1,_,_⟩:=m.there
    have gone:∀b ob,s2.heap.get? b=some ob->b≠a2:=fun b ob q z=>by subst z;rw[m.new] at q;cases q
    have n:H2 a2=none:=by
     cases q:H2 a2 with
     | none=>rfl
     | some o =>
      obtain⟨u,z⟩:=uZ (J2.hok a2 o q)
      rw[m.new] at z
      cases z
    have I3:Inv C.X ((a,oa)::DJ) σ' H2 { s2 with heap:=h',toks:=s2.toks }:=J2.kept m.keeps
    have I5:Inv C.X ((a,oa)::DJ) σ' (upd H2 a2 (.ext (iniP a2 (CN.ad "BadText")))) { s2 with heap:=h',toks:=s2.toks }:=by
     refine I3.track n ?_ ?_ (fun y z q => ?_) (fun p hp => ?_) (zP9 ⟨t0,he1⟩)
     ·cases q:C.X.s₀.heap.get? a2 with
      | none=>rfl
      | some o =>
       obtain⟨o',q'⟩:=J2.base.there a2 o q (by rw[hex];simp)
       rw[m.new] at q'
       cases q'
     ·obtain⟨mm,⟨o,_,_,q,_⟩,_⟩:=J2.loc
      exact AX (gone _ o q)
     ·obtain⟨v,o,q',_⟩:=J2.cell y z q
      exact gone _ o q'
     ·exact gone _ _ (J2.pin p hp).1
    have r2:Vals [V.ref a2,V.int 1] [Value.ref a2,Value.int 1 tk]:=.cons rfl (.cons ⟨tk,rfl⟩ .nil)
    refine codeAny_mono (F _ (.ref a) C.X.stack _ _ ⟨[Value.ref a2,Value.int 1 tk],[]⟩ [Value.ref a2,Value.int 1 tk] _ (fun v H'=>v=.non/\∃d,upd H2 a2 (.ext (iniP a2 (CN.ad "BadText"))) d=none/\H'=upd (upd (upd H2 a2 (.ext (iniP a2 (CN.ad "BadText")))) a2 (.ext (iniE a2 (CN.ad "BadText") d))) d (.ext (Row d 1))) E0 (hr.make (CN.ad "BadText") [Value.int 1 tk] []) (I5.env0.make (CN.ad "BadText") [Value.int 1 tk] []) (hbd _ [Value.ref a2,Value.int 1 tk] I5.kIn rfl) r2 ⟨a2,1,rfl,by decide,zO,fun d z=>⟨rfl,d,z,rfl⟩⟩) fun res s' hq' => ?_
    cases res with
    | error ee=>exact hq'.elim
    | ok fl =>
     cases fl with
     | ret u =>
      obtain⟨v,H'',os',bare,un',hok,rv,rfl,d,nd,eH⟩:=hq'
      rw[yX1] at eH
      have ex:=yW8 J2 hnm hrn m nd eH os' bare un' hok
      have da2:a2≠d:=fun z=>by rw[<-z,zO] at nd;cases nd
      obtain⟨⟨t1,he2⟩,_,_⟩:=hok a2 _ (by rw[eH];exact (zM da2).trans zO)
      have I6:Inv C.X ((a,oa)::DJ) σ' H'' s':=I5.call' (s':=s') os' un' hok bare (fun b z=>by cases z)
      have qa3:s'.heap.get? a=some oa:=(I6.pin (a,oa) (Ah _ Ae)).1
      refine⟨rv,a2,some d,t1,ob,rfl,L.keeps I6.bk,he2,gone a oa qa2,AX (gone _ _ (J2.bk _ _ L.obj)),⟨oa,vs,_,qa3,da,za,rfl⟩,Ab (wpAny_Constant_none (Ab (wpAny_standAt (Ao ⟨rfl,rfl⟩)))),fun g g1 g2 => ?_⟩
      have ex2:=xW9 hnm ex he2 rfl g1 rfl rfl rfl rfl rfl rfl g2
      exact yG5 (X:=C.X) rfl ex2 hst hfr fun s'' ex3=>hb nm H2 _ _ ex3 hsp
     | next=>exact hq'.elim
     | brk=>exact hq'.elim
     | cont=>exact hq'.elim
 obtain⟨tb,pb,qb⟩:=hbody _ _ _ br
 refine wpAny_mono (pb [] s σ H E (Inv.toTry I _) (qb Oc Ob σ H ρ E R ?_)) (fun f s₁ hs => ?_) fun e s₁ z=>z
 ·unfold sTryR at hp
  cases em:mb ρ with
  | ok o=>rw[em] at hp;exact hp
  | no=>rw[em] at hp;exact hp
  | ex c =>
   rw[em] at hp
   intro H' f1
   by_cases hc:caught.contains c=true
   ·simp only[hc,if_true] at hp
    exact⟨hc,hp H' f1⟩
   ·simp only[hc] at hp
    exact hp.elim
 ·cases f with
  | next=>exact wpAny_execs_nil (SP.ofTry hs)
  | brk=>exact SP.ofTry (f:=.brk) hs
  | cont=>exact SP.ofTry (f:=.cont) hs
  | ret u=>exact SP.ofTry (f:=.ret u) hs
end L2.L3
namespace L2.L3
open PySem PySem.Spec PyProof.Rows
variable [CN]
theorem yF5{cs:List Str}{nm:Str}{mb:Ev->Res Out}{ρ:Ev}{o:Out}(h:mb ρ=.ok o):sTryR cs nm mb ρ=.ok o:=by unfold sTryR;rw[h]
theorem yF2{cs:List Str}{nm:Str}{mb:Ev->Res Out}{ρ:Ev}{c:Str}(h:mb ρ=.ex c)(hc:cs.contains c=true):sTryR cs nm mb ρ=.ex nm:=by
 unfold sTryR
 rw[h]
 exact Ak hc
end L2.L3
namespace L2.L3
open PySem PySem.Spec PyProof.Rows
def underV:List Value->Bool
 | .ref _::r=>underV r
 | .type n::r=>(.type n::r) == [.type "ValueError",.type "Exception",.type "BaseException",.type "object"]
 | _=>false
theorem zY4(self:Value):∀(l:List Value),underV l=true->refuseLoop self "__setattr__" l=pure ()/\l.contains (.type "object")=true/\l.isEmpty=false
 | [],e=>by cases e
 | v::r,e=>by
  cases v with
  | ref c =>
   obtain⟨a,b,_⟩:=zY4 self r e
   exact⟨(refuseLoop_ref _ _ _ _).trans a,by rw[BR,b,Bool.or_true],rfl⟩
  | type n =>
   have z:=eq_of_beq (show ((Value.type n::r) == [.type "ValueError",.type "Exception",.type "BaseException",.type "object"])=true from e)
   rw[z]
   exact⟨PySem.F.store_ValueError.passes self,by decide,rfl⟩
  | _=>cases e
structure RowCls(K:KFr)(C:Addr):Prop where
 sa:PySem.W.findIn K (.ref C) "__setattr__" = some (some (.builtin "object.__setattr__"))
 ov:(PySem.W.clsIn K C).any (fun cd=>underV cd.mro&&cd.hasDict)=true
 nr:PySem.W.findIn K (.ref C) "row" = some none
theorem xX5{X:Cx}{DJ:List (Addr×Obj)}{σ:St}{H:Hp}{s:Shared}{A:Around}{E:Value->Shared->Prop}{e C:Addr}{v:Value}{r:Int}{tv:Tok}{Q:Unit->Shared->Prop}(ev:v=.int r tv)(I:Inv X DJ σ H s)(hH:H e=some (.ext (iniP e C)))(f:RowCls X.K C)
  (h:∀s' d,H d=none->Inv X DJ σ (upd (upd H e (.ext (iniE e C d))) d (.ext (Row d r))) s'->Q () s'):wpAny (model X.prog X.w) A (setAttr (.ref e) "row" v) Q E s:=by
 obtain⟨⟨t0,he⟩,_,_⟩:=I.hok e _ hH
 obtain⟨cd,hc,ho⟩:=PySem.W.any_some f.ov
 rw[Ay] at ho
 obtain⟨u1,u2,u3⟩:=zY4 (.ref e) _ ho.1
 have J:PySem.W.InstAt s.heap e { cls:=.ref C,dict:=none,data:=.fields #[.ref t0,.none,.none,.none,.bool false,.none] } C none:=⟨he,rfl,rfl,trivial⟩
 have ty:=J.type (M:=model X.prog X.w)
 have cl:=PySem.W.looks_clsIn (M:=model X.prog X.w) I.kIn hc
 have mr:PySem.W.Looks (model X.prog X.w) s.heap (mroOf (.ref C)) cd.mro:=cl.andThen .now
 have no:=Ds (M:=model X.prog X.w) I.kIn f.nr
 have inst:PySem.W.Looks (model X.prog X.w) s.heap (isInstance (.ref e) (.type "object")) true:=ty.andThen (PySem.W.looks_mroIn I.kIn (by unfold PySem.W.mroIn;rw[hc,Az,u3];exact AZ some u2))
 have pas:PySem.W.Looks (model X.prog X.w) s.heap (Builtin.ObjectAttr.refuseIfOverridden (.ref e) "__setattr__") ():=by
  rw[refuse_eq]
  exact ty.andThen (mr.andThen (.of_pure u1))
 obtain⟨hh,g,d,tk,os⟩:=s
 refine PySem.W.set_plain I.kIn J f.sa (codeAny_call_builtin PySem.F.store_object.slot.plain PySem.F.store_object.entry ?_)
 refine PySem.W.check_slot (M:=model X.prog X.w) (s:=⟨hh,g,d,tk+1,os⟩) (i:="object.__setattr__") (owner:="object") (n:="__setattr__") (self:=.ref e) (rest:=[.str "row" tk,v]) (kw:=[]) PySem.F.store_object.kind PySem.F.store_object.split inst (PySem.F.store_object.args _ _ _) ?_
 rw[PySem.W.osa_eq]
 refine Ab (pas.at (Ab (ty.at (Ab (no.at (Ab (Ao ?_)))))))
 refine Ab (Ao (Ab (Ab (wpAny_loadPart he (Ab (cl.at ?_))))))
 rw[ho.2]
 have pushed:(hh.push { cls:=.type "dict",data:=.dict #[] }).get? e=some { cls:=.ref C,dict:=none,data:=.fields #[.ref t0,.none,.none,.none,.bool false,.none] }:=by heap_get
 have far:e≠hh.objs.size:=AL (Am he)
 obtain⟨g1,hg1⟩:∃g1,g1=(hh.push { cls:=.type "dict",data:=.dict #[] }).update e fun o=>{ o with dict:=some hh.objs.size }:=⟨_,rfl⟩
 have new:g1.get? e=some { cls:=.ref C,dict:=some hh.objs.size,data:=.fields #[.ref t0,.none,.none,.none,.bool false,.none] }:=by rw[hg1];exact Bf _ pushed rfl
 have keep:∀b,b≠e->g1.get? b=(hh.push { cls:=.type "dict",data:=.dict #[] }).get? b:=fun b z=>by rw[hg1];exact AE _ _ (AX z)
 have bare:g1.Ns1 hh.objs.size fun _=>none:=Heap.Ns1.of_empty ⟨_,#[],_,(keep _ (AX far)).trans (AH hh rfl),rfl,fun y z=>(Array.not_mem_empty y z).elim,fun _=>rfl⟩
 have store:∀{A':Around}{Q':Unit->Shared->Prop}{E':Value->Shared->Prop}{t':Nat},(∀h' t'',h'.Ns1 hh.objs.size (fun y=>if y="row" then some v else none)/\Heap.SameBut hh.objs.size g1 h'->Q' () ⟨h',g,d,t'',os⟩)->wpAny (model X.prog X.w) A' (nsSet hh.objs.size "row" v) Q' E' ⟨g1,g,d,t',os⟩ :=
  fun z=>wpAny_nsSet1 bare fun h' n sb=>z h' _ ⟨n,sb⟩
 refine Ab (wpAny_alloc' (Ab (wpAny_update' pushed (Ao ?_))))
 show wpAny _ _ (Builtin.ObjectAttr.storeInDict hh.objs.size (.str "row" tk) "row" v) _ _ ⟨_,g,d,tk+1,os⟩
 rw[<-hg1]
 refine Ab (Ao (Ab (store fun h' t' ⟨n,sb⟩ => ?_)))
 obtain⟨od,es,ep,q1,q2,q3⟩:=n.count (PySem.Within.cons "row" v PySem.Within.nil)
 refine Ab (wpAny_lookBehind q1 (q2▸pastItsLine_dict (AJ q3 (by decide))) (Ao ?_))
 have told:h'.get? e=some { cls:=.ref C,dict:=some hh.objs.size,data:=.fields #[.ref t0,.none,.none,.none,.bool false,.none] }:=(sb.2 e far).trans new
 have J2:Inv X DJ σ (upd H e (.ext (iniE e C hh.objs.size))) ⟨h',g,d,t',os⟩:=Inv.write (x:=e) (e:=e) (o:=.ext (iniE e C hh.objs.size)) (h':=h') (t':=t') I (by rw[hH];exact trivial) (.inl rfl) (fun b u nb hb=>by
  rw[sb.2 b (AL (Am hb)),keep b nb]
  exact An _ hb) ⟨_,told⟩ (yB5 ⟨_,told⟩)
 have nd:H hh.objs.size=none:=dX fun o q=>by
  obtain⟨u,z⟩:=uZ (I.hok _ o q)
  exact absurd (Am z) (Cg _)
 have nd2:upd H e (.ext (iniE e C hh.objs.size)) hh.objs.size=none:=by rw[zM (AX far)];exact nd
 have gone:∀b ob,hh.get? b=some ob->b≠hh.objs.size:=fun b ob z=>AL (Am z)
 refine h _ _ nd (J2.track nd2 (CD (AJ I.ok.above (BU I.lt))) ?_ (fun y z q => ?_) (fun p hp => ?_) (yU5 ⟨tv,ev▸n⟩))
 ·obtain⟨mm,⟨o,_,_,q,_⟩,_⟩:=I.loc
  exact AX (gone _ o q)
 ·obtain⟨v,o,q',_⟩:=I.cell y z q
  exact gone _ o q'
 ·exact gone _ _ (I.pin p hp).1
def sRow(K:KFr)(ta tv:TE):TS:=fun D σ H=>tv σ H fun y H1=>ta σ H1 fun x H2=>∃e C r,x=.ref e/\y=.int r/\H2 e=some (.ext (iniP e C))/\RowCls K C/\∀d,H2 d=none->D.nx σ (upd (upd H2 e (.ext (iniE e C d))) d (.ext (Row d r)))
theorem yL3{X:Cx}{o value:Expr}{pos pos':Pos}{ta tv:TE}(ha:PE X o ta)(hv:PE X value tv)(hs:swapsWith value (some (.Attribute o "row" pos')) pos.line X.env=pure false):PS X (.Assign [.Attribute o "row" pos'] value pos) (sRow X.K ta tv):=by
 intro DJ s σ H D I h
 refine plainObj_wpAny_Assign_Attribute (thn (hv DJ s σ H _ I h) fun u s1 ⟨y,H1,I1,ry,q⟩=>thn (ha DJ s1 σ H1 _ I1 q) fun ov s2 ⟨x,H2,I2,rx,e,C,r,ex,ey,ea,c,q2⟩ => ?_) hs
 subst ex ey
 obtain⟨tk,rfl⟩:=ry
 obtain rfl:ov=Value.ref e:=rx
 exact xX5 rfl I2 ea c fun s3 d nd I3=>⟨σ,_,I3,q2 d nd⟩
end L2.L3
namespace PySem
open PySem.Spec PyProof.Rows
section
variable {prog:Program}{w:World}{A:Around}{E:Value->Shared->Prop}{a C d:Addr}{K:KFr}{vs:Array Value}{sl:Array (Option Value)}{x:Shared}{r:Int}
theorem yU8{tk:Tok}{P:Fin->Shared->Prop}(X:K.In x.heap)(k:ExK K C)(f:L2.L3.RowCls K C)(hx:x.heap.get? a=some ⟨.ref C,some d,.fields vs,sl⟩)(hr:L2.L3.Row d r x.heap)(q:∀t,P (.done (.ret (.int r t))) x):wpAny (model prog w) A (Builtin.«object.__getattribute__» ⟨[.ref a,.str "row" tk],[]⟩) P E x:=by
 obtain⟨t0,n⟩:=hr
 obtain⟨cd,hc,ho⟩:=PySem.W.any_some f.ov
 rw[Ay] at ho
 have cl:=PySem.W.looks_clsIn (M:=model prog w) X hc
 have g1:∀{P:Option Value->Shared->Prop}{E':Value->Shared->Prop}{A':Around},P (some (.int r t0)) x->wpAny (model prog w) A' (nsGet d "row") P E' x:=fun z=>wpAny_nsGet n.ns z
 have g2:∀{P:Option Addr->Shared->Prop}{E':Value->Shared->Prop}{A':Around},P (some d) x->wpAny (model prog w) A' (instanceDict a false) P E' x:=fun z=>by
  unfold instanceDict
  refine Ab (wpAny_loadPart_at hx ?_)
  refine Ab (cl.at ?_)
  rw[ho.2]
  exact Ao z
 repeat' first | assumption | ((with_reducible apply wpAny_loadPart_at hx) <;> try dsimp only) | ((with_reducible apply kP X f.nr) <;> try dsimp only) | ((with_reducible apply g2) <;> try dsimp only) | ((with_reducible apply g1) <;> try dsimp only) | wp_step
 exact q t0
theorem zD3{P:Value->Shared->Prop}(X:K.In x.heap)(k:ExK K C)(f:L2.L3.RowCls K C)(hx:x.heap.get? a=some ⟨.ref C,some d,.fields vs,sl⟩)(hr:L2.L3.Row d r x.heap)(q:∀t,P (.int r t) { x with toks:=x.toks+1 }):wpAny (model prog w) A (getAttr (.ref a) "row" true) P E x:=by
 have g1:=F.attrBase_ValueError.ga.bind (.ref a)
 have g2:(Value.builtin "BaseException.__getattribute__" == Value.builtin "object.__getattribute__")=false:=by decide +kernel
 have g3:(onTheHeap (Value.ref C)&&Value.builtin "BaseException.__getattribute__" == Value.builtin "object.__getattribute__")=false:=by rw[g2,Dd]
 have g4:(true&&onTheHeap (Value.builtin "BaseException.__getattribute__"))=false:=rfl
 obtain⟨h,g,d,t,os⟩:=x
 unfold getAttr
 repeat' first | assumption | ((with_reducible apply wpAny_loadPart_at hx) <;> try dsimp only) | ((with_reducible apply kP X k.ga) <;> try dsimp only) | ((with_reducible apply kP X k.gn) <;> try dsimp only) | wp_step
 have X':K.In (Shared.mk h g d (t+1) os).heap:=X
 refine codeAny_call_builtin F.attrBase_ValueError.ga.plain F.entry_bexc_ga (yV2 X' k hx (yU8 X' k f hx hr fun tk => ?_))
 repeat' first | assumption | wp_step
 exact q tk
end
end PySem
namespace L2.L3
open PySem PySem.Spec PyProof.Rows
variable [CN]
def rowD:D->Option D
 | .dict [(.list [],.str c)]=>(rowOf c).map fun (r:Nat)=>PyData.int (r:Int)
 | _=>none
theorem yH1(c:Str):rowD (excD c)=(rowOf c).map fun (r:Nat)=>PyData.int (r:Int):=rfl
theorem yI2{C:Ct}{e:Expr}{pos:Pos}{md:Md}{me:Ev->Res D}(hk:ExK C.X.K (CN.ad "BadText"))(hr:∀n,n<16->CN.ad (rowName n)=CN.ad "BadText")(f:RowCls C.X.K (CN.ad "BadText"))(he:RE C md e me)(hb:autoParam (attributeBase e "row" C.X.env (eval e C.X.env)=eval e C.X.env) DI) :
  RE C .cl (.Attribute e "row" pos) (e1 rowD me):=by
 obtain⟨t,pe,q⟩:=he
 refine⟨fun σ H Q=>t σ H fun v H1=>∃a c lk d,∃r:Nat,v=.ref a/\H1 a=some (.ext (excP a c lk))/\lk=some d/\H1 d=some (.ext (Row d (r:Int)))/\rowOf c=some r/\Q (.int r) H1,fun DJ s σ H Q I h => ?_,fun Oc Ob σ H ρ Q R h=>q Oc Ob σ H ρ _ R (Res.zT (Res.zU h) (fun dd _ kk v H' s r => ?_) fun _ z=>z)⟩
 ·refine Attribute_any_ (thn (pe DJ s σ H _ I h) fun u s1 ⟨v,H1,I1,rv,a,c,lk,d,r,ev,ha,el,hd,hc,qq⟩ => ?_) (by rw[arm_eval_Attribute,hb])
  subst ev el
  cases rv
  obtain⟨⟨o,p1,p2,p3⟩,_,_⟩:=I1.hok a _ ha
  obtain⟨z1,vs,z2⟩:=p3 d rfl
  obtain⟨row,_,_⟩:=I1.hok d _ hd
  obtain⟨oc,od,odt,osl⟩:=o
  simp only at p2 z1 z2
  have hlt:r<16:=by
   obtain⟨z,_⟩:=CY.mp hc
   exact z
  have hcn:c=rowName r:=by
   obtain⟨z,y,_⟩:=CY.mp hc
   have y2:=eq_of_beq y
   rw[<-y2]
   unfold rowName
   rw[Be,Aj z]
   rfl
  rw[hcn,hr r hlt] at p2
  subst p2 z1 z2
  exact zD3 I1.kIn hk f p1 row fun tk=>⟨.int r,H1,I1.tok _,⟨tk,rfl⟩,qq⟩
 ·obtain⟨d2,ed,kk⟩:=Res.yV kk
  rcases r.va R.oh with h | ⟨a,ys,ds,rfl,rfl,e3,e5⟩
  ·cases h with
   | @exc a c lk q1 w n =>
    rw[yH1] at ed
    obtain⟨r,er,rfl⟩:=AK.mp ed
    obtain⟨d,w1,w2,w3⟩:=w r er
    exact⟨a,c,lk,d,r,rfl,q1,w1,w2,er,kk _ H' s (Rep.int _)⟩
   | _=>cases ed
  ·cases ed
def ixSD:D->D->Option D
 | .str z,.int i=>if z.length<=sizeLine then (atI z.cps.toList i).map fun c=>.str ⟨#[c]⟩ else none
 | _,_=>none
theorem zH9:Pr2 rIxS .cl ixSD:=by
 intro Oc Ob H x y dx dy d Q oh vx vy e k
 cases dx with
 | str z =>
  cases dy with
  | int i =>
   unfold ixSD at e
   by_cases h:z.length<=sizeLine
   ·simp only[h,if_true] at e
    obtain⟨c,e1,rfl⟩:=AK.mp e
    exact⟨z,i,c,vx.str,vy.int,h,e1,k _ H (Same.refl H) (Rep.str _)⟩
   ·simp only[h] at e
    cases e
  | _=>cases e
 | _=>cases e
def inSD:D->D->Option Bool
 | .str i,.str j=>some (!(Builtin.Str.occurrences j i 0 j.length 1).isEmpty)
 | _,_=>none
theorem xQ2:PrB (fun x y H Q=>∃i j,x=.str i/\y=.str j/\Q (.bl (!(Builtin.Str.occurrences j i 0 j.length 1).isEmpty)) H) inSD:=by
 intro Oc Ob H x y dx dy b Q vx vy e k
 cases dx with
 | str i =>
  cases dy with
  | str j =>
   cases e
   exact⟨i,j,vx.str,vy.str,k⟩
  | _=>cases e
 | _=>cases e
def FewT(z:Str)(n:Int):Prop:=0<=n/\n<=1000/\z.length<=1000
instance (z:Str) (n:Int):Decidable (FewT z n):=by unfold FewT;infer_instance
section
variable {X:Cx}{CX:CXT}{k:Nat}{f:Addr}{fd:FuncData}{ps:List Str}{sp:Sp}{dvs:List V}{ds:List Value}{E:XK}{x:Str}{p pos:Pos}{e:Expr}{es:List Expr}{t:TA}
theorem yC1{DJ:List (Addr×Obj)}{σ:St}{H:Hp}{s:Shared}{Q:VK}{us:List Value}{vs:List V}(F:FnOk X.prog X.w X.K X.mg X.base CX k f fd ps sp)(hr:Room k X.A)(hb:Binds X.K fd ps ds)(hd:Vals dvs ds)(hx:∀e s',CX X.stack H s E e s'->X.xe e s')
  (I:Inv X DJ σ H s) (r:Vals vs us) (h:sp (vs++dvs) H Q E):wpAny (model X.prog X.w) X.A (call (.ref f) us) (EP X DJ σ Q) X.xe s:=by
 have r2:Vals (vs++dvs) (us++ds):=r.append hd
 have hl:(us++ds).length=ps.length:=by rw[<-r2.length];exact F.len _ _ _ _ h
 refine wpAny_call (codeAny_mono (F.run X.A X.stack s H ⟨us,[]⟩ (us++ds) (vs++dvs) Q E hr I.env0 (hb s us I.kIn hl) r2 h) fun r s' hq => ?_)
 cases r with
 | error e=>exact hx e s' hq
 | ok fl =>
  cases fl with
  | ret u=>exact I.after hq
  | next=>exact False.elim hq
  | brk=>exact False.elim hq
  | cont=>exact False.elim hq
theorem yO2(σ0:St)(F:FnOk X.prog X.w X.K X.mg X.base CX k f fd ps sp)(hr:Room k X.A)(hg:Gl X x)(hm:X.mg x=some (.ref f))(hk:PySem.W.keepIn X.K (.ref f)=true)(hb:Binds X.K fd ps ds)(hd:Vals dvs ds)(hx:∀DJ H s e s',Inv X DJ σ0 H s->CX X.stack H s E e s'->X.xe e s')
  (ha:PA X (e::es) t) (hdb:autoParam ((x == ("__debug__":Str))=false) DH) (he:autoParam (starEach (e::es) X.env=(false,eval e X.env)::starEach es X.env) DI) (hpl:autoParam ((backTo pos (starEach es X.env)).any (·.1)=false) DI) :
  PE X (.Call (.Name x p) (e::es) [] pos) (fun σ H Q=>σ=σ0/\tCall sp dvs E t σ H Q):=by
 rintro DJ s σ H Q I ⟨rfl,h⟩
 refine wpAny_Call_Name_kw (uU I hg hm ?_ hdb)
 refine CT (h₀:=X.base) I.ok.mod.kin hk (thn (ha pos DJ s σ H _ I h) fun us s1 ⟨vs,H1,I1,r,q⟩=>⟨I1.kIn,?_⟩) he hpl
 exact yC1 F hr hb hd (fun e s' z=>hx _ _ _ e s' I1 z) I1 r q
end
theorem zA3{X:Cx}{c:Str}{H:Hp}{s:Shared}{E2:Value->Shared->Prop}{Q:Shared->Prop}{DJ:List (Addr×Obj)}{σ:St}{s1:Shared}{H1:Hp}{a:Addr}{B:Heap}{a0:Value}(I1:Inv X DJ σ H1 s1)(I:Inv X DJ σ H s)(un:Un (frs X.stack) [] H1 H s1.heap s.heap)(n1:s1.heap.get? a=none)(n2:H a=none)(f:Fl X.stack s1.heap H a (.ref (CN.ad c)) (rowOf c) B a0 s.heap)(hst:X.stack=X.env::X.outer)(hfr:X.env.frame=some X.env.locals)
  (hQ:∀(s':Shared),Inv X DJ σ H s'->Un (frs X.stack) [] H1 H s1.heap s'.heap->Fl X.stack s1.heap H a (.ref (CN.ad c)) (rowOf c) B a0 s'.heap->s'.heap.TracedW B a (.ref (CN.ad c)) a0->Q s') :
  wpAny (model X.prog X.w) X.A (noteFrame (.ref a) X.env) (fun _ s₂=>wpAny (model X.prog X.w) X.A (setFlight (.ref a) none) (fun _ s₃=>Q s₃) E2 s₂) E2 s:=by
 have hfrm:s.heap.FunFrames B (X.env::X.outer):=by rw[<-hst];exact f.frm
 have hA:X.A.frames=some (X.env::X.outer):=by rw[<-hst];exact I.ok.frames
 obtain⟨Φ,hP⟩:∃Φ,Φ=FlK (.ref (CN.ad c)) (rowOf c) B s1.heap H:=⟨_,rfl⟩
 have fk:KpX Φ a s.heap:=hP▸f.kp
 have key:∀h',Heap.NotedW B (X.env::X.outer) a (.ref (CN.ad c)) a0 (rawInt X.env.locals) s.heap h'->KpX Φ a h'->wpAny (model X.prog X.w) X.A (setFlight (.ref a) none) (fun _ s₃=>Q s₃) E2 { s with heap:=h' }:=by
  rintro h' ⟨k1,k2,k3,k4⟩ kh
  rw[<-hst] at k2
  refine flightK (s:={ s with heap:=h' }) (B:=B) (l:=X.stack) (cls:=.ref (CN.ad c)) (a0:=a0) k1 f.newB k2 k3 kh fun h2 fly ups kh2 => ?_
  have ups2:s.heap.UpToSlots h2:=Heap.UpToSlots.trans k4 ups
  obtain⟨J,un2,cov⟩:=aE I1 I un f fly.1 fly.2.2.1 ups2
  exact hQ _ J un2 ⟨fly.1,f.newB,fly.2.2.1,.inl ⟨_,fly.2.2.2.at⟩,hP▸kh2,cov⟩ fly.2.2.2
 rcases f.raw with t | ⟨oe,vs,he,hc,hd,h1,h0⟩
 ·obtain⟨fl,t⟩:=t
  exact gJ hA hfrm hfr t f.stays f.newB fk key
 ·rw[<-hc] at key
  unfold noteFrame
  simp only[hfr]
  refine Ab (wpAny_field he hd h1 ?_)
  rw[Ax (by decide)]
  exact entryK hA hfrm hfr he f.stays f.newB hd (AY.mp h1).1 h0 fk key
theorem zB7{K:KFr}{a:Addr}(h1:(PySem.W.clsIn K a).isSome=true)(h2:PySem.W.typeIn K (.ref a)=some (.type "type"))(h3:PySem.W.subIn K (.ref a) (.ref a)=some true):PySem.W.kitCls K (.ref a) (.ref a)=some true:=by
 rw[PySem.W.kitCls,Ak (by rw[h1,h2];decide +kernel)]
 exact h3
def sTryA(j i:Nat)(caught:List Str)(F:List D->Res D)(ma:Ev->Res (List D))(ms:Ev->Res Out):Ev->Res Out:=fun ρ=>match ma ρ with
 | .ok ds=>match F ds with
  | .ok d=>.ok (.nx (ρ.set i (some d)))
  | .ex c=>if caught.contains c then (noEx (ms (ρ.set j (some (excD c))))).bind (unn j) else .no
  | .no=>.no
 | .ex _=>.no
 | .no=>.no
omit [CN] in
theorem yB9{j i:Nat}{cs:List Str}{F:List D->Res D}{ma:Ev->Res (List D)}{ms:Ev->Res Out}{ρ:Ev}{ds:List D}{d:D}(h:ma ρ=.ok ds)(e:F ds=.ok d):sTryA j i cs F ma ms ρ=.ok (.nx (ρ.set i (some d))):=by
 unfold sTryA
 simp only[h,e]
omit [CN] in
theorem zI3{j i:Nat}{cs:List Str}{F:List D->Res D}{ma:Ev->Res (List D)}{ms:Ev->Res Out}{ρ:Ev}{ds:List D}{c:Str}(h:ma ρ=.ok ds)(e:F ds=.ex c)(hc:cs.contains c=true):sTryA j i cs F ma ms ρ=(noEx (ms (ρ.set j (some (excD c))))).bind (unn j):=by
 unfold sTryA
 simp only[h,e]
 rw[Ak hc]
theorem xT5{C:Ct}{fr:Bool}{x y z n:Str}{np hpos tpos p pos zp epos:Pos}{suite:List Stmt}{b₀:Stmt}{ms:Ev->Res Out}{ma:Ev->Res (List D)}{k:Nat}{f:Addr}{fd:FuncData}{ps:List Str}{F:List D->Res D}{e:Expr}{es:List Expr}{st:Stmt}(j i:Nat)(caught:List Str)(nd:C.X.N.Nodup)
  (G:FnOk C.X.prog C.X.w C.X.K C.X.mg C.X.base (CXV C.X.prog C.X.w) k f fd ps (spX false F)) (hh:Has C.X.K C.X.mg y st f fd ps) (hr:Room k C.X.A)
  (ha:∀(pn:List (Addr×Obj)) (xe:Value->Shared->Prop),RArg ⟨inTry C.X pn xe,fun _ _=>False,C.om,C.ln⟩ true (e::es) ma)
  (hsuite:∀e:Value,RSs ⟨inSuite C.X e,fun _ _=>False,C.om,C.ln⟩ fr (b₀::suite) ms)
  (hcx:∀c,caught.contains c=true->PySem.W.kitCls C.X.K (.ref (CN.ad c)) (.ref (CN.ad x))=some true) (hcb:PySem.W.subIn C.X.K (.ref (CN.ad x)) (.type "BaseException")=some true) (hm:C.X.mg x=some (.ref (CN.ad x)))
  (hst:autoParam (C.X.stack=C.X.env::C.X.outer) DI) (hfr:autoParam (C.X.env.frame=some C.X.env.locals) DI) (hex:autoParam (C.X.ex=[]) DI) (hj:autoParam (C.X.N[j]?=some n) DI) (oj:autoParam (C.om.contains j=false) DI) (lj:autoParam (C.ln.contains j=false) DI) (hk:autoParam (C.X.env.scope.names.lookup n=some .local) DI)
  (hi:autoParam (C.X.N[i]?=some z) DI) (oi:autoParam (C.om.contains i=false) DI) (li:autoParam (C.ln.contains i=false) DI) (hz:autoParam (C.X.env.scope.names.lookup z=some .local) DI)
  (hg:autoParam (Gl C.X x) DI) (hdb:autoParam ((x == ("__debug__":Str))=false) DH)
  (hgy:autoParam (Gl C.X y) DI) (hdby:autoParam ((y == ("__debug__":Str))=false) DH) (he:autoParam (starEach (e::es) C.X.env=(false,eval e C.X.env)::starEach es C.X.env) DI) (hpl:autoParam ((backTo pos (starEach es C.X.env)).any (·.1)=false) DI) (hs:autoParam (swapsWith (.Call (.Name y p) (e::es) [] pos) (some (.Name z zp)) epos.line C.X.env=pure false) DI) :
  RS C fr (.Try [.Assign [.Name z zp] (.Call (.Name y p) (e::es) [] pos) epos] [.ExceptHandler (some (.Name x np)) (some n) (b₀::suite) hpos] [] [] tpos) (sTryA j i caught F ma ms):=by
 refine⟨fun D σ H=>∀DJ s,Inv C.X DJ σ H s->wpAny (model C.X.prog C.X.w) C.X.A (exec (.Try [.Assign [.Name z zp] (.Call (.Name y p) (e::es) [] pos) epos] [.ExceptHandler (some (.Name x np)) (some n) (b₀::suite) hpos] [] [] tpos) C.X.env) (SP C.X DJ D) C.X.xe s,fun DJ s σ H D I h=>h DJ s I,fun Oc Ob σ H ρ E R hp DJ s I => ?_⟩
 refine wpAny_Try_except ?_
 generalize hxe:(fun (e:Value) (s₁:Shared)=>wpAny (model C.X.prog C.X.w) C.X.A (noteFrame e C.X.env) (fun _ s₂=>wpAny (model C.X.prog C.X.w) C.X.A (setFlight e none) (fun _ s₃=>wpAny (model C.X.prog C.X.w) C.X.A (handleBy e C.X.env [.ExceptHandler (some (.Name x np)) (some n) (b₀::suite) hpos]) (SP C.X DJ E) C.X.xe s₃) C.X.xe s₂) C.X.xe s₁)=xe'
 obtain⟨t,pa,q⟩:=ha (C.X.pn++DJ) xe'
 have hx:∀pins' H0 s0 e0 s0',Inv (inTry C.X (C.X.pn++DJ) xe') pins' σ H0 s0->CXV C.X.prog C.X.w C.X.stack H0 s0 (fun v ro H'=>∃c,v=.ref (CN.ad c)/\ro=rowOf c/\Same H H'/\caught.contains c=true/\SPost C fr Oc Ob H' E ((noEx (ms (ρ.set j (some (excD c))))).bind (unn j))) e0 s0'->xe' e0 s0':=by
  rintro pins' H0 s0 e0 s0' I0 ⟨a,cls,ro,B,a0,H',rfl,os,bare,un,hok,n1,n2,fl0,c,rfl,rfl,sm,hc,hsp⟩
  subst hxe
  have I2:=I0.call' os un hok bare (fun b z=>by cases z)
  refine zA3 (X:=inTry C.X (C.X.pn++DJ) _) I0 I2 un n1 n2 fl0 hst hfr fun s3 J un fl tr => ?_
  have K3:Inv C.X DJ σ H' s3:=Inv.ofTry J
  have Km:=Inv.toSuite K3 (.ref a)
  refine wpAny_handleBy_cons (codeAny_handlers_test ?_) (by intro q;cases q)
  refine uU (X:=inSuite C.X (.ref a)) Km hg hm ?_ hdb
  obtain⟨oe,_,_,_,_,he',⟨hcl,_⟩,_⟩:=id tr
  refine zL2 K3.kIn he' hcl (hcx c hc) hcb ?_
  refine codeAny_handlers_suite_as ?_
  refine flightK (B:=B) (l:=C.X.stack) (cls:=.ref (CN.ad c)) (a0:=a0) fl.stays fl.newB fl.frm tr.at fl.kp fun h4 fly ups k4 => ?_
  obtain⟨I4,_,_⟩:=aE I0 J un fl fly.1 fly.2.2.1 ups
  have K4:Inv C.X DJ σ H' { s3 with heap:=h4 }:=Inv.ofTry I4
  have L1:Inv C.X DJ σ H0 s0:=Inv.ofTry I0
  obtain⟨oe4,_,_,_,_,he4,⟨hcl4,_⟩,_⟩:=id fly.2.2.2
  obtain⟨lk,H4,T4,sm4,ha4,hr4⟩:=yH7 (c:=c) L1 K4 n1 n2 hex fl.newB fly.1 k4 he4 hcl4
  refine qJ (X:=inSuite C.X (.ref a)) (v:=.ref a) (Inv.toSuite T4 (.ref a)) nd hj (.inl hk) rfl (fun s5 I5 => ?_) (.inr hk)
  obtain⟨ts,ps',qs⟩:=hsuite (.ref a)
  have hU:∀b,Uni Oc Ob b->H' b≠none:=fun b z=>Same.ne sm (R.oh b z)
  have R5:Rel Oc Ob C.om C.ln (σ.set j (some (.ref a))) H4 (ρ.set j (some (excD c))) :=
   ((R.same sm).same sm4).set (xL oj) (xL lj) (.exc ha4 (fun r e=>let ⟨d,z1,z2,z3⟩:=hr4 r e; ⟨d,z1,z2,fun z=>hU d z z3⟩) fun z=>hU a z n2)
  have sp5:=SPost.same sm4 hsp
  refine wpAny_mono (ps' DJ s5 _ _ { nx:=fun σ6 H6=>E.nx (σ6.set j none) H6,rt:=E.rt,bk:=fun σ6 H6=>E.bk (σ6.set j none) H6,ct:=fun σ6 H6=>E.ct (σ6.set j none) H6 } I5 (qs Oc Ob _ _ _ _ R5 ?_)) (fun f s6 h6 => ?_) fun _ _ z=>z.elim
  ·refine Res.zT (yN7 (Res.zU sp5)) (fun o _ k => ?_) fun _ z=>z.elim
   cases o with
   | nx ρ'=>exact fun σ6 H6 Ob6 R6 f6 s6=>k (σ6.set j none) H6 Ob6 (R6.unset j) f6 s6
   | rt d=>exact k
  ·have go:∀{σ6:St}{H6:Hp},Inv (inSuite C.X (.ref a)) DJ σ6 H6 s6->(∀s8,Inv C.X DJ (σ6.set j none) H6 s8->SP C.X DJ E f s8)->wpAny (model C.X.prog C.X.w) C.X.A (do bindName C.X.env n .none;unbindBehindTheSuite C.X.env n hpos) (fun _ s₃=>SP C.X DJ E f s₃) C.X.xe s6:=fun {σ6 H6} I6 kk=>by
    have I6':=Inv.ofSuite K3.ok I6
    refine Ab (wpAny_bindName (qJ (v:=.non) I6' nd hj (.inl hk) rfl (fun s7 I7 => ?_) (.inr hk)))
    have hlt:j<σ6.length:=by rw[I6'.len];exact (Au.mp hj).1
    unfold unbindBehindTheSuite
    refine wpAny_onRaise (yP2 I7 nd hj hk (Bx hlt) fun s8 I8 => ?_)
    rw[List.set_set] at I8
    exact kk s8 I8
   cases f with
   | next=>obtain⟨σ6,H6,I6,q6⟩:=h6;exact go I6 fun s8 I8=>⟨_,_,I8,q6⟩
   | brk=>obtain⟨σ6,H6,I6,q6⟩:=h6;exact go I6 fun s8 I8=>⟨_,_,I8,q6⟩
   | cont=>obtain⟨σ6,H6,I6,q6⟩:=h6;exact go I6 fun s8 I8=>⟨_,_,I8,q6⟩
   | ret u=>obtain⟨v,σ6,H6,I6,r6,q6⟩:=h6;exact go I6 fun s8 I8=>⟨v,_,_,I8,r6,q6⟩
 have pc:=yO2 (X:=inTry C.X (C.X.pn++DJ) xe') (pos:=pos) (p:=p) σ G hr hgy hh.m hh.F.kp hh.b .nil hx pa hdby he hpl
 have pb:=xO (xS (X:=inTry C.X (C.X.pn++DJ) xe') (pos:=epos) (pos':=zp) nd hi (.inl hz) pc hs (.inr hz))
 refine wpAny_mono (pb [] s σ H E (Inv.toTry I _) ⟨rfl,?_⟩) (fun f s₁ hs => ?_) fun e s₁ z=>z
 ·refine q Oc Ob σ H ρ _ R ?_
  unfold sTryA at hp
  cases em:ma ρ with
  | ex c=>rw[em] at hp;exact hp.elim
  | no=>rw[em] at hp;exact hp.elim
  | ok ds =>
   rw[em] at hp
   intro vs H1 s1 r
   show spX false F (vs ++ []) H1 _ _
   rw[Bu]
   refine⟨ds,Uni Oc Ob,(R.same s1).oh,r,?_⟩
   cases ef:F ds with
   | no=>simp only[ef] at hp;exact hp.elim
   | ok d =>
    simp only[ef] at hp
    exact fun v H' s2 rv=>hp _ H' Ob ((R.same (s1.trans s2)).set (xL oi) (xL li) rv) (Same.frm (s1.trans s2)) fun b z=>.inl z
   | ex c =>
    simp only[ef] at hp
    intro H' s2
    by_cases hc:caught.contains c=true
    ·rw[Ak hc] at hp
     exact⟨c,rfl,rfl,s1.trans s2,hc,SPost.step (Same.frm (s1.trans s2)) (fun b z=>.inl z) hp⟩
    ·rw[Ax hc] at hp
     exact hp.elim
 ·cases f with
  | next=>exact wpAny_execs_nil (SP.ofTry hs)
  | brk=>exact SP.ofTry (f:=.brk) hs
  | cont=>exact SP.ofTry (f:=.cont) hs
  | ret u=>exact SP.ofTry (f:=.ret u) hs
end L2.L3
namespace L2.L3
open PySem PySem.Spec PyProof.Rows
theorem zB6{K:KFr}{B:Addr}{nid:String}(q:PySem.W.excIn K B bmV nid=true):PySem.W.tailIn K bmV (.ref B::bmV)=true:=by
 have base:PySem.W.tailIn K bmV bmV=true:=by
  unfold PySem.W.tailIn
  rw[beq_self_eq_true,Bool.true_or]
 unfold PySem.W.tailIn
 rw[PySem.W.excIn] at q
 refine Bool.or_eq_true_iff.mpr (.inr ?_)
 split at q
 case h_2=>cases q
 case h_1 lk =>
  split at q
  case h_2=>cases q
  case h_1 =>
   rw[Ay,Ay] at q
   simp only[lk]
   rw[q.1.2,q.2,base]
   rfl
theorem xV3{K:KFr}{C B N:Addr}{nm q:Str}{bs:List Value}{hdct:Bool}{sn:List Str}{sub:List Value}{ab:Bool}{col:Option Bool}{dd:Option Addr}{k0 k1 k2 k3 k5:Option Value}
  (h:K.lookup C=some (excClassObj nm q C N bs (.ref B::bmV) hdct sn sub ab col dd k0 k1 k2 k3 k5 "ValueError.__new__")) (hb:PySem.W.excIn K B bmV "ValueError.__new__" = true):ExIn K C bmV "ValueError.__new__" :=
 ⟨N,_,nm,q,bs,hdct,sn,sub,ab,col,dd,k0,k1,k2,k3,k5,h,zB6 hb⟩
theorem yJ1{K:KFr}{C:Addr}{cd:ClassData}(sa:PySem.W.findIn K (.ref C) "__setattr__" = some (some (.builtin "object.__setattr__")))(hc:PySem.W.clsIn K C=some cd)(ho:(underV cd.mro&&cd.hasDict)=true)(nr:PySem.W.findIn K (.ref C) "row" = some none):RowCls K C :=
 ⟨sa,by rw[hc];exact ho,nr⟩
def BtFi(K:KFr)(C:Addr)(st:Stmt):Prop:=∃fI fd,PySem.W.findIn K (.ref C) "__init__" = some (some (.ref fI))/\PySem.W.isFn K (.ref fI)=true/\Fun K "__init__" "BadText.__init__" st fI fd/\Binds K fd ["self","row"] []
theorem xV7{K:KFr}{C f:Addr}{st:Stmt}{oc:Value}{od an:Option Addr}{osl:Array (Option Value)}{kV doc pm cdv ct:Value}(hi:PySem.W.findIn K (.ref C) "__init__" = some (some (.ref f)))(hf:PySem.W.isFn K (.ref f)=true)
  (l:K.lookup f=some ⟨oc,od,.func (PySem.W.fnOf "__init__" "BadText.__init__" (defArgs st) (defBody st) (zR st) .none kV doc pm an cdv ct),osl⟩) (c:PySem.W.codeIn K cdv "BadText.__init__" = true) (k:PySem.W.keepIn K (.ref f)=true)
  (hb:∀(kV doc pm:Value) (an:Option Addr) (cdv ct:Value) (us:List Value),us.length=2->bindArgs (PySem.W.fnOf "__init__" "BadText.__init__" (defArgs st) (defBody st) (zR st) .none kV doc pm an cdv ct) ⟨us,[]⟩=pure ((["self","row"]:List Str).zip us)):BtFi K C st :=
 have F:=yP3 (st:=st) l c k
 ⟨f,_,hi,hf,F,F.binds hb⟩
end L2.L3
namespace L2.L3
open PySem PySem.Spec PyProof.Rows MR
variable [CN]
namespace X
def Run(F1 F2:List D->Res D)(nm:Int->Str)(r p:Int)(o:Res D):Nat->Option D->Str->Fs->Prop
 | 0,_,_,_=>False
 | m+1,none,s,fs=>(s.length<=sizeLine/\fs.length<=60000)/\((Txt.startswith s "-" = true/\((∃s1,F2 [.str s,.str "-",.int r]=.ok (.str s1)/\Run F1 F2 nm r p o m (some .none) s1 fs)\/∃c,F2 [.str s,.str "-",.int r]=.ex c/\o=.ex c)) \/
   (Txt.startswith s "-" = false/\((∃n,F1 [.str (Txt.partition s "(").1,.int r]=.ok (.int n)/\Run F1 F2 nm r p o m none (Txt.partition s "(").2.2 ((n,[])::fs))\/∃c,F1 [.str (Txt.partition s "(").1,.int r]=.ex c/\o=.ex c)))
 | _+1,some d,s,[]=>PyData.strOk s=true/\((s=""/\o=.ok d)\/(s ≠ ""/\(0<=r/\r<16)/\o=.ex (nm r)))
 | m+1,some d,s,(n,ds)::fs=>ds.length<=900/\(((ds.length:Int)=p-1/\((∃s1,F2 [.str s,.str ")",.int r]=.ok (.str s1)/\Run F1 F2 nm r p o m (some (.tuple [.int n,.tuple (ds ++ [d])])) s1 fs)\/∃c,F2 [.str s,.str ")",.int r]=.ex c/\o=.ex c)) \/
   (¬(ds.length:Int)=p-1/\((∃s1,F2 [.str s,.str " ",.int r]=.ok (.str s1)/\Run F1 F2 nm r p o m none s1 ((n,ds ++ [d])::fs))\/∃c,F2 [.str s,.str " ",.int r]=.ex c/\o=.ex c)))
theorem kO{F1 F2:List D->Res D}{nm:Int->Str}{r p:Int}{o o':Res D}:∀(m m':Nat) (q:Option D) (s:Str) (fs:Fs),Run F1 F2 nm r p o m q s fs->Run F1 F2 nm r p o' m' q s fs->o=o'
 | 0,_,_,_,_,h,_=>h.elim
 | _+1,0,_,_,_,_,h=>h.elim
 | m+1,m'+1,none,s,fs,h,h'=>by
  rcases h.2 with ⟨c,k⟩ | ⟨c,k⟩ <;> rcases h'.2 with ⟨c',k'⟩ | ⟨c',k'⟩
  ·rcases k with ⟨s1,e,k⟩ | ⟨x,e,k⟩ <;> rcases k' with ⟨s1',e',k'⟩ | ⟨x',e',k'⟩
   ·cases zG1 e e'
    exact kO m m' _ _ _ k k'
   ·rw[e] at e';cases e'
   ·rw[e] at e';cases e'
   ·rw[e] at e';cases e';rw[k,k']
  ·rw[c] at c';cases c'
  ·rw[c] at c';cases c'
  ·rcases k with ⟨n,e,k⟩ | ⟨x,e,k⟩ <;> rcases k' with ⟨n',e',k'⟩ | ⟨x',e',k'⟩
   ·rw[e] at e'
    cases e'
    exact kO m m' _ _ _ k k'
   ·rw[e] at e';cases e'
   ·rw[e] at e';cases e'
   ·rw[e] at e';cases e';rw[k,k']
 | m+1,m'+1,some d,s,[],h,h'=>by
  rcases h.2 with ⟨c,k⟩ | ⟨c,_,k⟩ <;> rcases h'.2 with ⟨c',k'⟩ | ⟨c',_,k'⟩
  ·rw[k,k']
  ·exact absurd c c'
  ·exact absurd c' c
  ·rw[k,k']
 | m+1,m'+1,some d,s,(n,ds)::fs,h,h'=>by
  rcases h.2 with ⟨c,k⟩ | ⟨c,k⟩ <;> rcases h'.2 with ⟨c',k'⟩ | ⟨c',k'⟩
  ·rcases k with ⟨s1,e,k⟩ | ⟨x,e,k⟩ <;> rcases k' with ⟨s1',e',k'⟩ | ⟨x',e',k'⟩
   ·cases zG1 e e'
    exact kO m m' _ _ _ k k'
   ·rw[e] at e';cases e'
   ·rw[e] at e';cases e'
   ·rw[e] at e';cases e';rw[k,k']
  ·exact absurd c c'
  ·exact absurd c' c
  ·rcases k with ⟨s1,e,k⟩ | ⟨x,e,k⟩ <;> rcases k' with ⟨s1',e',k'⟩ | ⟨x',e',k'⟩
   ·cases zG1 e e'
    exact kO m m' _ _ _ k k'
   ·rw[e] at e';cases e'
   ·rw[e] at e';cases e'
   ·rw[e] at e';cases e';rw[k,k']
open Classical in
def rtF(F1 F2:List D->Res D)(nm:Int->Str):List D->Res D
 | [.str z,.int p,.int r]=>if h:∃o m,Run F1 F2 nm r p o m none z [] then h.choose else .no
 | _=>.no
theorem xQ5{F1 F2:List D->Res D}{nm:Int->Str}{r p:Int}{o:Res D}{m:Nat}{z:Str}(h:Run F1 F2 nm r p o m none z []):rtF F1 F2 nm [.str z,.int p,.int r]=o:=by
 have hx:∃o m,Run F1 F2 nm r p o m none z []:=⟨o,m,h⟩
 unfold rtF
 simp only
 rw[dif_pos hx]
 obtain⟨m',h'⟩:=hx.choose_spec
 exact kO m' m _ _ _ h' h
theorem yL4{F1 F2:List D->Res D}{nm:Int->Str}{ds:List D}{Q:D->Prop}{R:Str->Prop}(h:(rtF F1 F2 nm ds).post Q R):∃z p r o m,ds=[.str z,.int p,.int r]/\Run F1 F2 nm r p o m none z []/\o.post Q R:=by
 unfold rtF at h
 split at h
 ·split at h
  ·rename_i hx
   obtain⟨m,hm⟩:=hx.choose_spec
   exact⟨_,_,_,_,m,rfl,hm,h⟩
  ·exact h.elim
 ·exact h.elim
def wE(XE:Str->Hp->Prop):XK:=fun v ro H=>∃c,v=.ref (CN.ad c)/\ro=rowOf c/\XE c H
theorem smallB{n:Nat}(h:n<=60000):n<sizeLine:=CV h (by decide)
section
variable (K:KFr) (F1 F2:List D->Res D) (nm:Int->Str) (XE:Str->Hp->Prop)
def tBs(sg:Str):TS:=tAsg (tCall (spX false F2) [] (wE XE) (zF (tVar 4) (zF (tC (.str sg)) (zF (tVar 2) tNil)))) (gName 4)
def tDn:TS:=tWhile (tNot (tB (tBM K "str" rStw (tVar 4) (zF (tC (.str "-")) tNil)))) (tSeq (tAsg (tBM K "str" rPart (tVar 4) (zF (tC (.str "(")) tNil)) (gName 5))
 (tSeq (tDrop (tBM K "list" rAppend (tVar 3) (zF (tTup (zF (tCall (spX false F1) [] (wE XE) (zF (tOp (rIxT K) (tVar 5) (tC (.int 0))) (zF (tVar 2) tNil))) (zF (tLst tNil) tNil))) tNil))) (tAsg (tOp (rIxT K) (tVar 5) (tC (.int 2))) (gName 4))))
def tTop:TE:=tOp (rIxT K) (tOp (rIxL K) (tVar 3) (tUn (rU fun i=>.int (-i)) (tC (.int 1)))) (tC (.int 1))
def tUpW:TS:=tWhile (tAnd (tTest (tOp (rI0 fun i j=>.bl (decide (j<i))) (tCB (rLnS K) (zF (tVar 3) tNil)) (tC (.int 0)))) (tTest (tOp (rEqD K false) (tCB (rLnS K) (zF (tTop K) tNil)) (tOp rSub (tVar 1) (tC (.int 1))))))
 (tSeq (tBs F2 XE ")") (tSeq (tAsg (tBM0 K "list" rPop (tVar 3)) (gName 7)) (tAsg (tTup (zF (tOp (rIxT K) (tVar 7) (tC (.int 0))) (zF (tCB (rTup K) (zF (tOp rCatR (tOp (rIxT K) (tVar 7) (tC (.int 1))) (tLst (zF (tVar 6) tNil))) tNil)) tNil))) (gName 6))))
def tEn:TS:=tSeq (tIfS (tTest (tOp (rEqD K false) (tCB (rLnS K) (zF (tVar 3) tNil)) (tC (.int 0)))) (tSeq (tIfS (tTest (tOp (rEqD K true) (tVar 4) (tC (.str "")))) (tRaI nm XE (zF (tVar 2) tNil)) tNext) (tRet (tVar 6))) tNext)
 (tSeq (tBs F2 XE " ") (tDrop (tBM K "list" rAppend (tTop K) (zF (tVar 6) tNil))))
def tRt:TS:=tSeq (tAsg (tLst tNil) (gName 3)) (tSeq (tAsg (tVar 0) (gName 4)) (tWhile (tB (tC (.bl true))) (tSeq (tDn K F1 XE) (tSeq (tBs F2 XE "-") (tSeq (tAsg (tC .non) (gName 6)) (tSeq (tUpW K F2 XE) (tEn K F2 nm XE)))))))
end
theorem callE{F:List D->Res D}{vs:List V}{ds:List D}{c:Str}{H:Hp}{Q:VK}{XE:Str->Hp->Prop}(e:F ds=.ex c)(r:Reps H (fun _=>False) vs ds)(k:∀H',Same H H'->XE c H'):spX false F vs H Q (wE XE) :=
 ⟨ds,fun _=>False,fun _ z=>z.elim,r,by rw[e];exact fun H' s=>⟨c,rfl,rfl,k H' s⟩⟩
theorem callX{F:List D->Res D}{vs:List V}{ds:List D}{d:D}{H:Hp}{Q:VK}{E:XK}(e:F ds=.ok d)(r:Reps H (fun _=>False) vs ds)(k:∀v H',Same H H'->Rep H' (fun _=>False) v d->Q v H'):spX false F vs H Q E :=
 ⟨ds,fun _=>False,fun _ z=>z.elim,r,by rw[e];exact fun v H' s c=>k v H' s c⟩
section
variable {K:KFr}{F1 F2:List D->Res D}{nm:Int->Str}{XE:Str->Hp->Prop}{r p:Int}{o:Res D}{H0:Hp}{b:Addr}{z:V}
theorem zP1{sg s s1:Str}{v0 v1 v3 v5 v6 v7:Option V}{H:Hp}{E:Ends}(e:F2 [.str s,.str sg,.int r]=.ok (.str s1))(k:∀H',Same H H'->E.nx [v0,v1,some (.int r),v3,some (.str s1),v5,v6,v7] H') :
  tBs F2 XE sg E [v0,v1,some (.int r),v3,some (.str s),v5,v6,v7] H:=by
 refine⟨_,rfl,_,rfl,?_⟩
 refine callX (ds:=[.str s,.str sg,.int r]) e (.cons (.str _) (.cons (.str _) (.cons (.int _) .nil))) fun v H' sm rv => ?_
 cases rv
 exact k H' sm
theorem zQ7{sg s:Str}{c:Str}{v0 v1 v3 v5 v6 v7:Option V}{H:Hp}{E:Ends}(e:F2 [.str s,.str sg,.int r]=.ex c)(k:∀H',Same H H'->XE c H') :
  tBs F2 XE sg E [v0,v1,some (.int r),v3,some (.str s),v5,v6,v7] H:=by
 refine⟨_,rfl,_,rfl,?_⟩
 exact callE (ds:=[.str s,.str sg,.int r]) e (.cons (.str _) (.cons (.str _) (.cons (.int _) .nil))) k
theorem xZ8{m:Nat}{s:Str}{fs:Fs}{v5 v6 v7:Option V}{H:Hp}{E:Ends}(S:Stt H0 H b fs)(R:Run F1 F2 nm r p o m none s fs)(ke:∀c,o=.ex c->∀H',Same H0 H'->XE c H')
  (kk:∀m' s fs v5 H,m'<=m->Run F1 F2 nm r p o m' none s fs->Txt.startswith s "-" = true->Stt H0 H b fs->E.nx [some z,some (.int p),some (.int r),some (.ref b),some (.str s),v5,v6,v7] H) :
  tDn K F1 XE E [some z,some (.int p),some (.int r),some (.ref b),some (.str s),v5,v6,v7] H:=by
 refine⟨fun m' σ H=>m'<=m/\∃s fs v5,σ=[some z,some (.int p),some (.int r),some (.ref b),some (.str s),v5,v6,v7]/\Stt H0 H b fs/\Run F1 F2 nm r p o m' none s fs,⟨m,Al _,s,fs,v5,rfl,S,R⟩,?_⟩
 clear S R
 rintro m' σ H ⟨hm,s,fs,v5,rfl,S,R⟩
 cases m' with
 | zero=>exact R.elim
 | succ m' =>
  obtain⟨⟨hs,hf⟩,R⟩:=R
  refine⟨_,rfl,rfl,s,"-",rfl,rfl,_,rfl,?_⟩
  rcases R with ⟨h,R⟩ | ⟨h,⟨n,e1,R⟩ | ⟨c,e1,R⟩⟩
  ·rw[h]
   simp only[BK,AF,if_false]
   exact kk (m'+1) s fs v5 H hm ⟨⟨hs,hf⟩,.inl ⟨h,R⟩⟩ h S
  rotate_left
  ·rw[h]
   simp only[BA,if_true]
   refine⟨fun _ _=>False,fun σ' H' z=>z.elim,?_⟩
   obtain⟨vs,las,sm,fb,hb,fr⟩:=S
   refine⟨_,rfl,rfl,s,"(",rfl,rfl,by decide,hs,fun q hq => ?_⟩
   have s1:=Same.new (H:=H) (o:=.tup (ptV s "(")) hq
   refine⟨_,rfl,.inl ⟨rfl,_,SqL.of (s1 _ _ hb)⟩,?_⟩
   refine⟨_,rfl,q,_,0,_,rfl,rfl,.inl (.inl zO),rfl,_,rfl,?_⟩
   exact callE (ds:=[.str (Txt.partition s "(").1,.int r]) e1 (.cons (.str _) (.cons (.int _) .nil)) fun H2 s2=>ke c R H2 ((sm.trans s1).trans s2)
  ·rw[h]
   simp only[BA,if_true]
   refine⟨fun σ' H'=>∃v5,σ'=[some z,some (.int p),some (.int r),some (.ref b),some (.str (Txt.partition s "(").2.2),v5,v6,v7]/\Stt H0 H' b ((n,[])::fs),fun σ' H' ⟨v5,e,S'⟩=>⟨m',by rfl',by rfl',_,_,v5,e,S',R⟩,?_⟩
   obtain⟨vs,las,sm,fb,hb,fr⟩:=S
   refine⟨_,rfl,rfl,s,"(",rfl,rfl,by decide,hs,fun q hq => ?_⟩
   have s1:=Same.new (H:=H) (o:=.tup (ptV s "(")) hq
   refine⟨_,rfl,.inl ⟨rfl,_,SqL.of (s1 _ _ hb)⟩,?_⟩
   refine⟨_,rfl,q,_,0,_,rfl,rfl,.inl (.inl zO),rfl,_,rfl,?_⟩
   refine callX (ds:=[.str (Txt.partition s "(").1,.int r]) e1 (.cons (.str _) (.cons (.int _) .nil)) fun v H2 s2 rv => ?_
   cases rv
   refine⟨AM _,fun la hla=>⟨by show 2<=sizeLine;decide,fun q2 hq2 => ?_⟩⟩
   have s3:=Same.new (o:=.lst []) hla
   have s4:=Same.new (o:=.tup [.int n,.ref la]) hq2
   have s12:=s1.trans s2
   have s14:=(s12.trans s3).trans s4
   have hb4:=s14 _ _ hb
   refine⟨b,vs,_,rfl,rfl,hb4,by rw[fr.len];exact smallB (by rfl'),?_⟩
   have qb:q≠b:=fun y=>by rw[y,hb] at hq;cases hq
   have hq5:(upd (upd (upd H2 la (.lst [])) q2 (.tup [.int n,.ref la])) b (.lst (vs ++ [.ref q2]))) q=some (.tup (ptV s "(")):=by
    rw[zM qb]
    exact ((s2.trans s3).trans s4) _ _ zO
   refine⟨_,rfl,q,_,2,_,rfl,rfl,.inl (.inl hq5),rfl,_,rfl,vs ++ [.ref q2],la::las,zV3 (sm.trans s14) fb,fb,zO,?_⟩
   have lab:la≠b:=fun y=>by rw[y,s12 _ _ hb] at hla;cases hla
   have q2b:q2≠b:=fun y=>by rw[y,(s12.trans s3) _ _ hb] at hq2;cases hq2
   refine .cons (fr.keep ((dB s14).trans (zC7 hb4)) fun l hl ws e => ?_) ?_ (ws:=[]) ?_ (aZ (sm.trans s12) hla) lab (fun y => ?_) .nil
   ·rw[zM (fr.mem l hl).1]
    exact s14 _ _ e
   ·rw[zM q2b]
    exact zO
   ·rw[zM lab]
    exact s4 _ _ zO
   ·obtain⟨_,ws,e⟩:=fr.mem la y
    rw[s12 _ _ e] at hla
    cases hla
theorem xY4{m:Nat}{s:Str}{fs:Fs}{d:D}{v:V}{v5 v7:Option V}{H:Hp}{E:Ends}(S:Stt H0 H b fs)(T:TV H0 H v d)(R:Run F1 F2 nm r p o m (some d) s fs)(ke:∀c,o=.ex c->∀H',Same H0 H'->XE c H')
  (kk:∀m' s fs d v v7 H,m'<=m->Run F1 F2 nm r p o m' (some d) s fs->(∀n ds fs',fs=(n,ds)::fs'->¬(ds.length:Int)=p-1)->TV H0 H v d->Stt H0 H b fs->E.nx [some z,some (.int p),some (.int r),some (.ref b),some (.str s),v5,some v,v7] H) :
  tUpW K F2 XE E [some z,some (.int p),some (.int r),some (.ref b),some (.str s),v5,some v,v7] H:=by
 refine⟨fun m' σ H=>m'<=m/\∃s fs d v v7,σ=[some z,some (.int p),some (.int r),some (.ref b),some (.str s),v5,some v,v7]/\Stt H0 H b fs/\TV H0 H v d/\Run F1 F2 nm r p o m' (some d) s fs,⟨m,Al _,s,fs,d,v,v7,rfl,S,T,R⟩,?_⟩
 clear S T R
 rintro m' σ H ⟨hm,s,fs,d,v,v7,rfl,S,T,R⟩
 cases m' with
 | zero=>exact R.elim
 | succ m' =>
  obtain⟨vs,las,sm,fb,hb,fr⟩:=id S
  refine⟨_,rfl,b,vs,rfl,.inl (SqL.of hb),_,0,rfl,rfl,_,rfl,?_⟩
  cases fr with
  | nil =>
   rw[Ad (show ¬(0:Int)<(([]:List V).length:Int) from fun y=>by cases y)]
   simp only[AF,if_false]
   exact kk (m'+1) s [] d v v7 H hm R (fun _ _ _ y=>nomatch y) T S
  | @cons n ds fs vs las q la ws fr hq hl n0 nb nl tv =>
   rw[Aa (show (0:Int)<((vs ++ [V.ref q]).length:Int) by rw[Af,Bt];rfl')]
   simp only[if_true]
   refine⟨_,rfl,1,rfl,b,_,-1,.ref q,rfl,rfl,SqL.of hb,zH8 _ _,q,_,1,.ref la,rfl,rfl,.inl (.inl hq),rfl,la,ws,rfl,.inl (SqL.of hl),_,rfl,_,1,rfl,rfl,.int _,.int _,.int _,.int _,rfl,rfl,_,evI _ _,?_⟩
   obtain⟨few,R⟩:=R
   rw[tv.len]
   rcases R with ⟨c,⟨s1,e,R⟩ | ⟨x,e,R⟩⟩ | ⟨c,R⟩
   rotate_left
   ·rw[Aa c]
    simp only[if_true]
    exact⟨fun _ _=>False,fun σ' H' z=>z.elim,zQ7 e fun H1 s1'=>ke x R H1 (sm.trans s1')⟩
   rotate_left
   ·rw[Aa c]
    simp only[if_true]
    refine⟨fun σ' H'=>∃v v7,σ'=[some z,some (.int p),some (.int r),some (.ref b),some (.str s1),v5,some v,v7]/\Stt H0 H' b fs/\TV H0 H' v (.tuple [.int n,.tuple (ds ++ [d])]),fun σ' H' ⟨v,v7,e,S',T'⟩=>⟨m',by rfl',by rfl',s1,fs,_,v,v7,e,S',T',R⟩,?_⟩
    refine zP1 e fun H1 s1' => ?_
    have hb1:=s1' _ _ hb
    refine⟨_,rfl,.inl ⟨rfl,_,SqL.of hb1⟩,b,_,.ref q,rfl,rfl,hb1,by rw[Af,BM (by simp)];simp,?_⟩
    rw[List.dropLast_concat]
    have lab:la≠b:=nb
    have qb:q≠b:=fun y=>by rw[y,hb] at hq;cases hq
    have hq2:(upd H1 b (.lst vs)) q=some (.tup [.int n,.ref la]):=by rw[zM qb];exact s1' _ _ hq
    have hl2:(upd H1 b (.lst vs)) la=some (.lst ws):=by rw[zM lab];exact s1' _ _ hl
    have hb2:(upd H1 b (.lst vs)) b=some (.lst vs):=zO
    have sm2:Same H0 (upd H1 b (.lst vs)):=zV3 (sm.trans s1') fb
    have tk2:TK H (upd H1 b (.lst vs)):=(dB s1').trans (zC7 hb1)
    have ls2:∀l∈las,∀us,H l=some (.lst us)->(upd H1 b (.lst vs)) l=some (.lst us):=fun l hl us e=>by
     rw[zM (fr.mem l hl).1]
     exact s1' _ _ e
    generalize upd H1 b (.lst vs)=H2 at hq2 hl2 hb2 sm2 tk2 ls2 ⊢
    refine⟨_,rfl,q,_,0,_,rfl,rfl,.inl (.inl hq2),rfl,_,rfl,q,_,1,_,rfl,rfl,.inl (.inl hq2),rfl,_,rfl,by show 1<=sizeLine;decide,fun l1 h1 => ?_⟩
    have s3:=Same.new (o:=.lst [v]) h1
    refine⟨la,l1,ws,[v],rfl,rfl,.inl (s3 _ _ hl2),.inl zO,by rw[tv.len];exact BU (small1000 (by show ds.length+1<=1000;rfl')),fun l2 h2 => ?_⟩
    have s4:=Same.new (o:=.lst (ws ++ [v])) h2
    refine⟨l2,_,rfl,.inl ⟨SqL.of zO,fun t3 h3=>⟨by show 2<=sizeLine;decide,fun t4 h4 => ?_⟩⟩⟩
    have s5:=Same.new (o:=.tup (ws ++ [v])) h3
    have s6:=Same.new (o:=.tup [.int n,.ref t3]) h4
    have s34:=s3.trans s4
    have s35:=s34.trans s5
    have s36:=s35.trans s6
    have tk6:=tk2.trans (dB s36)
    refine⟨.ref t4,_,rfl,⟨vs,las,sm2.trans s36,fb,s36 _ _ hb2,fr.keep tk6 fun l hl us e=>s36 _ _ (ls2 l hl us e)⟩,?_⟩
    exact .tup zO (aZ (sm2.trans s35) h4) (.cons (.int n) (.cons (.tup (s6 _ _ zO) (aZ (sm2.trans s34) h3) ((tv.keep tk6).app (T.keep tk6))) .nil))
   ·rw[Ad c]
    simp only[AF,if_false]
    exact kk (m'+1) s ((n,ds)::fs) d v v7 H hm (show _/\_ from ⟨few,.inr ⟨c,R⟩⟩) (fun n' ds' fs' y=>by cases y;exact c) T S
theorem xU7{m:Nat}{s:Str}{fs:Fs}{d:D}{v:V}{v5 v7:Option V}{H:Hp}{E:Ends}(S:Stt H0 H b fs)(T:TV H0 H v d)(R:Run F1 F2 nm r p o m (some d) s fs)(C:∀n ds fs',fs=(n,ds)::fs'->¬(ds.length:Int)=p-1)(ke:∀c,o=.ex c->∀H',Same H0 H'->XE c H')
  (kr:∀t,o=.ok t->∀v H,Same H0 H->TV H0 H v t->E.rt v H) (kn:∀m' s fs H,m'<m->Run F1 F2 nm r p o m' none s fs->Stt H0 H b fs->E.nx [some z,some (.int p),some (.int r),some (.ref b),some (.str s),v5,some v,v7] H) :
  tEn K F2 nm XE E [some z,some (.int p),some (.int r),some (.ref b),some (.str s),v5,some v,v7] H:=by
 cases m with
 | zero=>exact R.elim
 | succ m =>
  obtain⟨vs,las,sm,fb,hb,fr⟩:=id S
  refine⟨_,rfl,b,vs,rfl,.inl (SqL.of hb),.int _,.int 0,.int _,.int _,rfl,rfl,_,evI _ _,?_⟩
  cases fr with
  | nil =>
   obtain⟨sk,R⟩:=R
   rw[Aa (show (([]:List V).length:Int)=0 from rfl)]
   simp only[if_true]
   have sh:∀z:Str,PyData.strOk z=true->SeqAt.shaped (.str z)=true:=fun z hz=>by
    unfold SeqAt.shaped
    rw[PyData.canLay0,PyData.depth,hz]
    rfl
   rcases R with ⟨rfl,ro⟩ | ⟨ns,hr,ro⟩
   ·refine⟨_,rfl,.str "",.str "",.str _,.str _,by decide +kernel,by decide +kernel,false,rfl,?_⟩
    simp only[AF,if_false]
    exact⟨_,rfl,kr _ ro v H sm T⟩
   ·refine⟨_,rfl,.str s,.str "",.str _,.str _,sh s sk,by decide +kernel,true,?_,?_⟩
    ·rw[PyData.eqv]
     simp[ns]
    ·simp only[if_true]
     exact⟨_,rfl,_,rfl,hr,ke _ ro H sm⟩
  | @cons n ds fs vs las q la ws fr hq hl n0 nb nl tv =>
   rw[Ad (show ¬((vs ++ [V.ref q]).length:Int)=0 by rw[Af,Bt];rfl')]
   simp only[AF,if_false]
   obtain⟨few,R⟩:=R
   rcases R with ⟨c,R⟩ | ⟨c,⟨s1,e,R⟩ | ⟨x,e,R⟩⟩
   ·exact absurd c (C n ds fs rfl)
   rotate_left
   ·exact zQ7 e fun H1 s1'=>ke x R H1 (sm.trans s1')
   ·refine zP1 e fun H1 s1' => ?_
    have hb1:=s1' _ _ hb
    have hq1:=s1' _ _ hq
    have hl1:=s1' _ _ hl
    refine⟨_,rfl,1,rfl,b,_,-1,.ref q,rfl,rfl,SqL.of hb1,zH8 _ _,q,_,1,.ref la,rfl,rfl,.inl (.inl hq1),rfl,.inl ⟨rfl,_,SqL.of hl1⟩,_,rfl,la,ws,v,rfl,rfl,hl1,by rw[tv.len];exact small1000 (by rfl'),?_⟩
    have tk:TK H (upd H1 la (.lst (ws ++ [v]))):=(dB s1').trans (zC7 hl1)
    refine kn m s1 _ _ (CK _) R ⟨vs ++ [.ref q],la::las,zV3 (sm.trans s1') n0,fb,by rw[zM (AX nb)];exact hb1,.cons (fr.keep tk fun l hl' us e => ?_) (tk _ _ hq) zO n0 nb nl ((tv.keep tk).app (T.keep tk))⟩
    rw[zM (fun y=>by subst y;exact nl hl')]
    exact s1' _ _ e
theorem xU4{m:Nat}{s:Str}{H:Hp}{E:Ends}(R:Run F1 F2 nm r p o m none s [])(ke:∀c,o=.ex c->∀H',Same H H'->XE c H')(kr:∀t,o=.ok t->∀v H',Same H H'->TV H H' v t->E.rt v H') :
  tRt K F1 F2 nm XE E [some (.str s),some (.int p),some (.int r),none,none,none,none,none] H:=by
 refine⟨AM _,fun b hb=>⟨_,rfl,?_⟩⟩
 refine⟨fun m σ H'=>∃s' fs v5 v6 v7,σ=[some (.str s),some (.int p),some (.int r),some (.ref b),some (.str s'),v5,v6,v7]/\Stt H H' b fs/\Run F1 F2 nm r p o m none s' fs,⟨m,s,[],none,none,none,rfl,⟨[],[],Same.new hb,hb,zO,.nil⟩,R⟩,?_⟩
 clear R
 rintro m σ H' ⟨s',fs,v5,v6,v7,rfl,S,R⟩
 refine⟨true,rfl,?_⟩
 simp only[if_true]
 refine⟨fun σ' H''=>∃m',m'<m/\∃s' fs v5 v6 v7,σ'=[some (.str s),some (.int p),some (.int r),some (.ref b),some (.str s'),v5,v6,v7]/\Stt H H'' b fs/\Run F1 F2 nm r p o m' none s' fs,fun σ' H'' h=>h,?_⟩
 refine xZ8 S R ke fun m1 s1 fs1 v5 H1 hm1 R1 c S1 => ?_
 cases m1 with
 | zero=>exact R1.elim
 | succ m1 =>
  rcases R1.2 with ⟨_,⟨s2,e,R2⟩ | ⟨x,e,R2⟩⟩ | ⟨c',_⟩
  rotate_left
  ·obtain⟨_,_,sm1,_⟩:=S1
   exact zQ7 e fun H2 sm2=>ke x R2 H2 (sm1.trans sm2)
  rotate_left
  ·refine zP1 e fun H2 sm2 => ?_
   show tSeq (tUpW K F2 XE) (tEn K F2 nm XE) _ [some (.str s),some (.int p),some (.int r),some (.ref b),some (.str s2),v5,some .non,v7] H2
   refine xY4 (S1.same sm2) .non R2 ke fun m3 s3 fs3 d v v7 H3 hm3 R3 C T S3 => ?_
   refine xU7 S3 T R3 C ke (fun t et v H'' sm tv=>kr t et v H'' sm tv) fun m4 s4 fs4 H4 hm4 R4 S4=>⟨m4,by rfl',s4,fs4,_,_,_,rfl,S4,R4⟩
  ·rw[c] at c'
   cases c'
end
section
variable {P:Program}{w:World}{K:KFr}{mg:Str->Option Value}{base:Heap}
theorem xI1{x:Str}{st:Stmt}{f:Addr}{fd:FuncData}{N ps:List Str}{k:Nat}(F1 F2:List D->Res D)(nm:Int->Str)(F:Fun K x x st f fd)(S:yX N ps (zR st))(hp:ps.length=3)(hN:N.length=8)
  (hbody:∀(cdv:Value) (A:Around) (outer:List Env) (s:Shared) (H:Hp) (E:XK),Room k (A.deeper (envOfC x (zR st) s.heap.objs.size f cdv))->PSs (bodyX P w K mg base N x (zR st) f cdv A outer s H E []).X (defBody st) (tRt K F1 F2 nm (bodyX P w K mg base N x (zR st) f cdv A outer s H E []).XE)) :
  FnOk P w K mg base (CXV P w) (k+1) f fd ps (spX false (rtF F1 F2 nm)):=by
 have len:∀(vs:List V) (H:Hp) (Q:VK) (E:XK),spX false (rtF F1 F2 nm) vs H Q E->vs.length=ps.length:=fun vs H Q E h=>by
  obtain⟨ds,O,oh,r,k⟩:=h
  obtain⟨z,p,r',t,m,rfl,_⟩:=yL4 k
  rw[r.length,hp]
  rfl
 obtain⟨oc,od,kV,doc,pm,an,cdv,ct,osl,rfl,lk,hcd⟩:=F.ex
 refine yT4 lk hcd S len fun A outer s H vs Q E hr h => ?_
 obtain⟨ds,O,oh,r,k⟩:=h
 obtain⟨z,p,r',o,m,rfl,R,k⟩:=yL4 k
 refine⟨_,hbody cdv A outer s H E hr,?_⟩
 cases r with
 | cons r1 r =>
  cases r with
  | cons r2 r =>
   cases r with
   | cons r3 r =>
    cases r
    cases r1
    cases r2
    cases r3
    have st:start N [V.str z,.int p,.int r']=[some (.str z),some (.int p),some (.int r'),none,none,none,none,none]:=by
     unfold start
     rw[hN]
     rfl
    rw[st]
    refine xU4 R (fun c eo H' s => ?_) fun t eo v H' s c => ?_
    ·subst eo
     exact k H' s
    ·subst eo
     exact k v H' s (c.rep oh)
end
end X
end L2.L3
namespace PySem
end PySem
namespace L2.L3
open PySem PySem.Spec PyProof.Rows
variable [CN]
end L2.L3
namespace L2.L3
open PySem
end L2.L3
namespace L2.L3
open PySem PySem.Spec PyProof.Rows
structure Nm(K:KFr)(x:Str)(a:Addr):Prop where
 n:PySem.W.nsIn K mainGlobals x=some (some (.ref a))
structure Ex6(K:KFr)(a:Addr):Prop where
 g1:PySem.W.findIn K (.ref a) "__getattribute__" = some (some (.builtin "BaseException.__getattribute__"))
 g2:PySem.W.findIn K (.ref a) "__getattr__" = some none
 g3:PySem.W.findIn K (.ref a) "__class__" = some (some (.builtin "object.__class__"))
 g4:PySem.W.kitOne K (.ref a) (.type "BaseException")=some true
 g5:PySem.W.kitOne K (.ref a) (.type "object")=some true
 g6:(PySem.W.clsIn K a).isSome=true
theorem Ex6.ok{K:KFr}{a:Addr}(h:Ex6 K a):ExK K a:=⟨h.g1,h.g2,h.g3,aF h.g4,aF h.g5,h.g6⟩
theorem xT2{K:KFr}{l:List Str}(h:autoParam ((l.all fun c=>(List.range 16).any fun n=>rowName n == c)=true) autoK14._auto_1):∀c∈l,(cnOf K).ad c=(cnOf K).ad "BadText":=fun c hc=>by
 obtain⟨n,hn,e⟩:=List.any_eq_true.mp (AS.mp h c hc)
 rw[<-eq_of_beq e]
 exact yO8 (AD.mp hn)
theorem xM6[CN]{x:Str}{u:Value}(h:(Value.ref (CN.ad x) == u)=false):∀c:Str,([x]:List Str).contains c=true->Value.ref (CN.ad c)≠u:=fun c hc z=>by
 rw[BH.mp (AT.mp hc)] at z
 rw[z,beq_self_eq_true] at h
 cases h
end L2.L3
namespace MR
theorem getD_mem{xs:List Int}{i:Nat}(h:i<xs.length):xs.getD i 0∈xs:=by
 rw[List.getD,Aj h]
 exact Do h
end MR
namespace M12
def ff(n:Int):Nat->Int
 | 0=>1
 | j+1=>ff n j*(n-j)
def tot(least:Int)(many:List Int):Nat->Int
 | 0=>0
 | j+1=>if least<=(j:Int)+1 then tot least many j+ff ((many.length:Int)-1) j*many.getD (many.length-(j+1)) 0 else tot least many j
def mbl(least most:Int):Nat->List Int
 | 0=>[1]
 | n+1=>mbl least most n ++ [tot least (mbl least most n) (min most ((n:Int)+1)).toNat]
def G(least most:Int)(n:Nat):Int:=(mbl least most n).getD n 0
def B:Int:=2 ^ 400
end M12
namespace M12
end M12
namespace M12
def bin:Nat->Nat->Int
 | _,0=>1
 | 0,_+1=>0
 | n+1,m+1=>bin n m+bin n (m+1)
end M12
namespace M12
end M12
namespace M12
def e0(i:Nat):Int:=if i=0 then 1 else 0
end M12
namespace MR
section
variable {n:Nat}{xs:List Int}
theorem part(o:Ord n xs){a:Nat}(ha:a<n):(ring n xs a++(List.range n).filter fun c=>!(ring n xs a).contains c).Perm (List.range n):=by
 have nd:=o.yU7 ha
 rw[List.perm_ext_iff_of_nodup ?_ List.nodup_range]
 ·intro c
  rw[AB,BC,AD]
  constructor
  ·rintro (h | h)
   ·exact o.xI9 ha (yG2.mp h)
   ·exact h.1
  ·intro h
   cases e:(ring n xs a).contains c with
   | true=>exact .inl (AT.mp e)
   | false=>exact .inr ⟨h,rfl⟩
 ·rw[List.nodup_append]
  refine⟨nd,List.nodup_range.filter _,fun x hx y hy e => ?_⟩
  subst e
  have:=(BC.mp hy).2
  rw[AT.mpr hx] at this
  cases this
end
def nf:Nat->Nat->Nat
 | _,0=>1
 | m,j+1=>m*nf (m-1) j
def pr':List Nat->List Nat->Nat
 | _,[]=>0
 | l,x::xs=>l.idxOf x*nf (l.length-1) xs.length+pr' (l.erase x) xs
def smN(A:Nat->Nat)(c:Nat):Nat->Nat
 | 0=>0
 | j+1=>smN A c j+nf (c-1) j*A (c-(j+1))
def gn(k m:Nat):Nat:=(M12.G 1 (k:Int) m).toNat
def wo(l r:List Nat):List Nat:=l.filter fun b=>!r.contains b
inductive Told(k:Nat):List Nat->Nat->List (List Nat)->Prop
 | nil:Told k [] 0 []
 | cons {a:Nat}{t xs:List Nat}{M:Nat}{rs:List (List Nat)}:xs.length<k->xs.Nodup->(∀x∈xs,x∈t)->Told k (wo (a::t) (a::xs)) M rs ->
  Told k (a::t) (smN (gn k) (t.length+1) xs.length+pr' t xs*gn k (t.length-xs.length)+M) ((a::xs)::rs)
inductive Chain:List Nat->List (List Nat)->Prop
 | nil:Chain [] []
 | cons {a:Nat}{t xs:List Nat}{rs:List (List Nat)}:xs.Nodup->(∀x∈xs,x∈t)->Chain (wo (a::t) (a::xs)) rs->Chain (a::t) ((a::xs)::rs)
end MR
namespace MR
open PySem PySem.StrLaws PySem.Builtin PySem.Builtin.Str
def tl(x:Str):List Nat:=x.cps.toList
theorem yY(x:Str):(tl x).length=x.length:=by unfold tl Str.length;simp
theorem zJ(a b:Str):tl (a++b)=tl a++tl b:=by unfold tl;rw[Str.cps_append];simp
theorem yB{a b:Str}(h:tl a=tl b):a=b:=by
 apply Str.ext'
 have:a.cps.toList.toArray=b.cps.toList.toArray:=AZ _ h
 simpa using this
theorem uT(l:List Nat):tl ⟨l.toArray⟩=l:=by unfold tl;simp
theorem vO(y p q:Str)(r:List Str):Str.join y (p::q::r)=p++y++Str.join y (q::r):=rfl
theorem aX{x y:Str}{k:Nat}(h1:1<=y.length):At x y x.length k↔((tl x).drop k).take y.length=tl y:=by
 unfold At
 rw[subAt_eq,beq_iff_eq]
 constructor
 ·exact fun h=>h.2
 ·intro h
  refine⟨?_,h⟩
  have l:=AZ List.length h
  rw[yY,Bn,As,yY] at l
  rfl'
theorem zR4(x:Str)(a b:Nat):tl (strSub x a b)=((tl x).drop a).take (b-a):=strSub_toList x a b
theorem yS4{x y:Str}{c:Nat}{y':List Nat}(hy:tl y=c::y'):∀(ps:List Str) (a f:Nat) (cuts:List Nat),ps ≠ []->(∀p∈ps,c∉tl p)->(tl x).drop a=tl (Str.join y ps)->a<=x.length->ChainG x y x.length a cuts f->(∀k,f<=k->¬At x y x.length k)->partsFrom x y.length a cuts=ps:=by
 have y1:1<=y.length:=by rw[<-yY,hy];simp
 have fst:∀k,At x y x.length k->(tl x)[k]?=some c:=fun k h=>by
  have e:=(aX y1).mp h
  rw[hy] at e
  have:=AZ (fun l=>l[0]?) e
  simp only[List.getElem?_cons_zero] at this
  rw[CP (by rfl'),CW] at this
  simpa using this
 intro ps
 induction ps with
 | nil=>intro a f cuts h;exact absurd rfl h
 | cons p ps ih =>
  intro a f cuts _ hc hd ha hG hn
  have pc:=hc p Ae
  cases ps with
  | nil =>
   have hd:(tl x).drop a=tl p:=hd
   have no:∀k,a<=k->¬At x y x.length k:=fun k hk h=>by
    have e:=fst k h
    have e2:(tl p)[k-a]?=some c:=by
     rw[<-hd,CW,show a+(k-a)=k by rfl']
     exact e
    exact pc (Bb e2)
   cases cuts with
   | cons d r=>exact absurd hG.2.1 (no d hG.1)
   | nil =>
    show [strSub x a x.length]=[p]
    rw[show strSub x a x.length=p from yB (by rw[zR4,hd,AV];rw[<-hd,As,yY];exact Al _)]
  | cons q r =>
   rw[vO,zJ,zJ] at hd
   have len:=AZ List.length hd
   rw[As,Af,Af,yY,yY,yY] at len
   have here:At x y x.length (a+p.length):=by
    refine (aX y1).mpr ?_
    rw[<-BV,hd,AO,BW (by rw[yY];exact Al _),<-yY p,BQ,List.nil_append,<-yY y,Cn (Al _),Ck]
   have early:∀k,a<=k->k<a+p.length->¬At x y x.length k:=fun k hk hl h=>by
    have e:=fst k h
    have e2:(tl p)[k-a]?=some c:=by
     have e3:((tl x).drop a)[k-a]?=some c:=by rw[CW,show a+(k-a)=k by rfl'];exact e
     rw[hd,AO,BF (by rw[yY];rfl')] at e3
     exact e3
    exact pc (Bb e2)
   cases cuts with
   | nil =>
    have ef:f=a:=hG
    exact absurd here (hn _ (by rfl'))
   | cons d r' =>
    obtain⟨g1,g2,g3,g4⟩:=hG
    have ed:d=a+p.length:=by
     by_cases l1:d<a+p.length
     ·exact absurd g2 (early d g1 l1)
     ·by_cases l2:a+p.length<d
      ·exact absurd here (g3 _ (by rfl') l2)
      ·rfl'
    subst ed
    show strSub x a (a+p.length)::partsFrom x y.length (a+p.length+y.length) r'=p::q::r
    have e1:strSub x a (a+p.length)=p:=yB (by
     rw[zR4,hd,show a+p.length-a=p.length by rfl',AO,<-yY p,Cn (Al _),Ck])
    rw[e1,ih (a+p.length+y.length) f r' (fun z=>nomatch z) (fun z hz=>hc z (Ai _ hz)) ?_ (by rfl') g4 hn]
    rw[show a+p.length+y.length=a+(p.length+y.length) by rfl',<-BV,hd,<-zJ,BW (by rw[yY,Ag];exact Al _),show p.length+y.length=(tl (p++y)).length by rw[yY,Ag],BQ,List.nil_append]
theorem yF9(x:Str):1<=Builtin.Str.strKind x:=by
 unfold Builtin.Str.strKind
 split
 ·exact Al _
 ·split <;> decide
theorem zT7{y:Str}{c:Nat}{y':List Nat}(hy:tl y=c::y')(hk:Builtin.Str.strKind y=1){ps:List Str}(h0:ps ≠ [])(hc:∀p∈ps,c∉tl p):Txt.split (Str.join y ps) y=ps:=by
 have y1:1<=y.length:=by rw[<-yY,hy];simp
 obtain⟨f,hG,hn⟩:=occ_tight (Str.join y ps) y y1
 have key:=yS4 hy ps 0 f _ h0 hc rfl (AM _) hG hn
 have whole:occurrences (Str.join y ps) y 0 (Str.join y ps).length ((Str.join y ps).length+1)=[]->[Str.join y ps]=ps:=fun e=>by
  rw[e] at key
  have key:[strSub (Str.join y ps) 0 (Str.join y ps).length]=ps:=key
  rw[sub_whole] at key
  exact key
 unfold Txt.split
 split
 ·rename_i h
  refine whole ?_
  rw[Bool.or_eq_true,decide_eq_true_eq,decide_eq_true_eq] at h
  rcases h with h | h
  ·cases e:occurrences (Str.join y ps) y 0 (Str.join y ps).length ((Str.join y ps).length+1) with
   | nil=>rfl
   | cons d r =>
    rw[e] at hG
    have:=hG.2.1.1
    rfl'
  ·have:=yF9 (Str.join y ps)
   rfl'
 ·split
  ·rename_i h
   exact whole (List.isEmpty_iff.mp h)
  ·rw[partsBetween_eq]
   exact key
theorem bW{x y:Str}:Txt.startswith x y=true↔(tl x).take y.length=tl y:=by
 show (decide (0+y.length<=x.length)&&subAt x y 0)=true↔_
 rw[Ay,decide_eq_true_eq,subAt_eq,beq_iff_eq]
 constructor
 ·exact fun h=>h.2
 ·intro h
  refine⟨?_,h⟩
  have l:=AZ List.length h
  rw[yY,Bn,yY] at l
  rfl'
theorem yO5(a s:Str):Txt.startswith (a++s) a=true:=by
 rw[bW,zJ,<-yY a,Cn (Al _),Ck]
theorem yD3{a s y:Str}{c:Nat}(hy:tl y=[c])(ha:tl a ≠ [])(hc:c∉tl a):Txt.startswith (a++s) y=false:=by
 rw[Bool.eq_false_iff]
 intro h
 rw[bW,<-yY y,hy,zJ] at h
 cases e:tl a with
 | nil=>exact ha e
 | cons d r =>
  rw[e] at h hc
  have:d=c:=by simpa using h
  exact hc (this▸Ae)
theorem zE4{a y s:Str}{c:Nat}(hy:tl y=[c])(hc:c∉tl a):(Txt.partition (a++(y++s)) y).1=a/\(Txt.partition (a++(y++s)) y).2.2=s:=by
 have ly:y.length=1:=by rw[<-yY,hy];rfl
 have la:=yY a
 have tx:tl (a++(y++s))=tl a++c::tl s:=by rw[zJ,zJ,hy];rfl
 have lx:(a++(y++s)).length=a.length+(1+s.length):=by rw[Ag,Ag,ly]
 have here:At (a++(y++s)) y (a++(y++s)).length a.length:=by
  refine (aX (by rfl')).mpr ?_
  rw[tx,<-la,CI,ly,hy]
  rfl
 have early:∀k,k<a.length->¬At (a++(y++s)) y (a++(y++s)).length k:=fun k hk h=>by
  have e:=(aX (by rfl')).mp h
  rw[tx,ly,hy,BW (by rfl')] at e
  have:(tl a).drop k ≠ []:=fun z=>by have:=AZ List.length z;rw[As] at this;simp at this;rfl'
  cases e2:(tl a).drop k with
  | nil=>exact this e2
  | cons d r =>
   rw[e2] at e
   have e3:d=c:=by simpa using e
   exact hc (e3▸Ce (e2▸Ae:d∈(tl a).drop k))
 unfold Txt.partition
 rcases occ_head (a++(y++s)) y 1 (Al 1) with ⟨_,hn⟩ | ⟨i,r,h0,hi,hn⟩
 ·exact absurd here (hn _)
 ·have ei:i=a.length:=by
   by_cases l1:i<a.length
   ·exact absurd hi (early i l1)
   ·by_cases l2:a.length<i
    ·exact absurd here (hn _ l2)
    ·rfl'
  subst ei
  rw[h0]
  refine⟨yB ?_,yB ?_⟩
  ·show tl (strSub (a++(y++s)) 0 a.length)=tl a
   rw[zR4,tx,Cj,Db,<-la,List.take_left]
  ·show tl (strSub (a++(y++s)) (a.length+y.length) (a++(y++s)).length)=tl s
   rw[zR4,tx,ly,lx,show tl a++c::tl s=(tl a ++ [c])++tl s by simp,show a.length+1=(tl a ++ [c]).length by simp[la],CI,AV (by rw[yY,Af,la];simp;rfl')]
theorem yT1(a s:Str):Txt.slice (a++s) (some (a.length:Int)) none=s:=by
 have e:Txt.slice (a++s) (some (a.length:Int)) none=sliceText (a++s) (some (a.length:Int)) none:=rfl
 have l1:=yY (a++s)
 rw[Ag] at l1
 rw[e,sliceText_from ⟨by rfl',by show (a.length:Int)<=((tl (a++s)).length:Int);rfl'⟩]
 refine yB ?_
 rw[uT]
 show ((tl (a++s)).drop (a.length:Int).toNat).take (((tl (a++s)).length:Int)-(a.length:Int)).toNat=tl s
 rw[Bo,l1,zJ,<-yY a,CI,AV]
 rw[yY]
 rfl'
theorem xH(a b c:Str):a++b++c=a++(b++c):=yB (by rw[zJ,zJ,zJ,zJ,AO])
theorem wJ(y p:Str){r:List Str}(h:r ≠ []):Str.join y (p::r)=p++(y++Str.join y r):=by
 cases r with
 | nil=>exact absurd rfl h
 | cons q r=>rw[vO,xH]
theorem yU4{sep:Str}{ts:List Str}{B n:Nat}(hs:sep.length=1)(hl:ts.length<=n)(ht:∀t∈ts,t.length<=B)(hb:n*(B+1)<=16000000):JoinOk sep ts=true/\(Str.join sep ts).length<=n*(B+1):=by
 have h1:=BB (B+1) hl
 have e1:ts.length*(B+1)=ts.length*B+ts.length:=Nat.mul_succ _ _
 have e2:ts.length*sep.length=ts.length:=by rw[hs,Nat.mul_one]
 refine⟨?_,?_⟩
 ·unfold JoinOk
  rw[joinFits ht (by rfl')]
  rfl
 ·have a:=join_length_le sep ts
  have b:=sumLen_le ts ht
  rfl'
end MR
namespace MR
open PySem PySem.StrLaws PySem.Builtin PySem.Builtin.Str PySem.W PyProof.Rows
def nT(n:Nat):Str:=toString (n:Int)
structure NumOk(n:Nat):Prop where
 len:(nT n).length<=80
 dig:Txt.isdigit (nT n)=true
 zero:Txt.startswith (nT n) "0" = false\/nT n="0"
 int:PySem.intText? (nT n)=some (n:Int)
 fig:∀c∈tl (nT n),48<=c/\c<=57
 log:((n:Int)).natAbs.log2<1920
 ok:PyData.strOk (nT n)=true
 ne:tl (nT n) ≠ []
theorem gI(x y:Str):Txt.split x y ≠ []:=by
 unfold Txt.split
 split
 ·exact fun z=>nomatch z
 ·split
  ·exact fun z=>nomatch z
  ·rw[partsBetween_eq]
   obtain⟨p,r,e⟩:=partsFrom_ne x y.length 0 (occurrences x y 0 x.length (x.length+1))
   rw[e]
   exact fun z=>nomatch z
theorem cK(y:Str):∀ts:List Str,ts ≠ []->(Str.join y ts).length+y.length=(ts.map (·.length)).sum+ts.length*y.length
 | [],h=>absurd rfl h
 | [t],_=>by
  show t.length+y.length=(t.length+0)+(0+1)*y.length
  rfl'
 | t::u::r,_=>by
  have ih:=cK y (u::r) fun z=>nomatch z
  rw[vO,Ag,Ag,AI,Cy,Aq,DB]
  rfl'
theorem bO{x y:Str}(h:1<=y.length):((Txt.split x y).map (·.length)).sum+(Txt.split x y).length<=x.length+1:=by
 have a:=cK y (Txt.split x y) (gI x y)
 rw[join_split] at a
 generalize ((Txt.split x y).map (·.length)).sum=S at *
 have n1:=Bi.mpr (gI x y)
 generalize (Txt.split x y).length=n at *
 obtain⟨m,rfl⟩:∃m,n=m+1:=⟨n-1,by rfl'⟩
 rw[DB] at a
 have b:=Dz m h
 rfl'
theorem zE7{y:Str}{c:Nat}:∀ts:List Str,c∈tl (Str.join y ts)->c∈tl y\/∃p∈ts,c∈tl p
 | [],h=>by cases h
 | [t],h=>.inr ⟨t,Ae,h⟩
 | t::u::r,h=>by
  rw[vO,zJ,zJ] at h
  rcases AB.mp h with h | h
  ·rcases AB.mp h with h | h
   ·exact .inr ⟨t,Ae,h⟩
   ·exact .inl h
  ·rcases zE7 (u::r) h with h | ⟨p,hp,h⟩
   ·exact .inl h
   ·exact .inr ⟨p,Ai _ hp,h⟩
theorem zI5:∀{l:List Nat}{a:Nat},a∈l->a<=l.sum
 | [],_,h=>by cases h
 | b::l,a,h=>by
  rw[Cy]
  rcases Aw.mp h with rfl | h
  ·rfl'
  ·have:=zI5 h
   rfl'
theorem yN9{x y p:Str}(h:1<=y.length)(hp:p∈Txt.split x y):p.length<=x.length:=by
 have a:=bO (x:=x) h
 have b:=zI5 (List.mem_map_of_mem (f:=(·.length)) hp)
 have n1:=Bi.mpr (gI x y)
 rfl'
theorem yM9{x:Str}{l u:Option Int}{c:Nat}(h:c∈tl (Txt.slice x l u)):c∈tl x:=by
 unfold Txt.slice at h
 split at h
 ·exact h
 ·rw[uT] at h
  obtain⟨i,_,e⟩:=Bz.mp h
  have e:x.cps[i]?=some c:=e
  rw[<-Array.getElem?_toList] at e
  exact Bb e
structure Tx(B:Nat)(z:Str):Prop where
 len:z.length<=B
 asc:∀c∈tl z,c<128
theorem Tx.mono{B B':Nat}{z:Str}(h:Tx B z)(l:B<=B'):Tx B' z:=⟨AJ h.len l,h.asc⟩
theorem Tx.ok{B:Nat}{z:Str}(h:Tx B z):PyData.strOk z=true:=by
 unfold PyData.strOk
 rw[<-Array.all_toList,AS]
 exact fun c hc=>Aa (by have:=h.asc c hc;rfl')
theorem Tx.slice{B:Nat}{z:Str}(h:Tx B z)(l u:Option Int):Tx B (Txt.slice z l u):=⟨AJ (DA z l u) h.len,fun c hc=>h.asc c (yM9 hc)⟩
def Fig(w:Str):Prop:=(∀c∈tl w,48<=c/\c<=57)/\tl w ≠ []
theorem yX6:∀c,c<128->Unicode.isDigit c=decide (48<=c/\c<=57):=by decide +kernel
theorem zZ8{B:Nat}{w:Str}(h:Tx B w):Txt.isdigit w=true↔Fig w:=by
 unfold Txt.isdigit Fig
 rw[Ay,decide_eq_true_eq,<-Array.all_toList,AS,<-yY]
 constructor
 ·rintro ⟨h1,h2⟩
  refine⟨fun c hc => ?_,fun z=>by rw[z] at h1;simp at h1⟩
  have a:=h2 c hc
  rw[yX6 c (h.asc c hc)] at a
  exact of_decide_eq_true a
 ·rintro ⟨h1,h2⟩
  refine⟨Bi.mpr h2,fun c hc => ?_⟩
  rw[yX6 c (h.asc c hc)]
  exact Aa (h1 c hc)
def dv(w:Str):Nat:=NumText.digitsVal (tl w)
theorem yW2{w:Str}(h:Fig w)(hl:w.length<=4300):PySem.intText? w=some (dv w:Int):=intText_digits (fun c hc=>h.1 c hc) h.2 hl
theorem st0{w:Str}:Txt.startswith w "0" = true ↔ ∃r,tl w=48::r:=by
 rw[bW]
 have t0:tl "0" = [48]:=by decide +kernel
 have l0:("0":Str).length=1:=rfl
 rw[t0,l0]
 cases e:tl w with
 | nil=>simp
 | cons c r=>simp
theorem is0{w:Str}:w="0"↔tl w=[48]:=by
 have t0:tl "0" = [48]:=by decide +kernel
 exact⟨fun h=>by rw[h,t0],fun h=>yB (by rw[h,t0])⟩
theorem isE{w:Str}:w=""↔tl w=[]:=by
 have t0:tl "" = []:=by decide +kernel
 exact⟨fun h=>by rw[h,t0],fun h=>yB (by rw[h,t0])⟩
theorem kD(f:Str->Nat)(hf:∀a b,f (a++b)=f a+f b)(y:Str):∀ts:List Str,ts ≠ []->f (Str.join y ts)+f y=(ts.map f).sum+ts.length*f y
 | [],h=>absurd rfl h
 | [t],_=>by
  show f t+f y=(f t+0)+(0+1)*f y
  rfl'
 | t::u::r,_=>by
  have ih:=kD f hf y (u::r) fun z=>nomatch z
  rw[vO,hf,hf,AI,Cy,Aq,DB]
  rfl'
def cs(z:Str):Nat:=(tl z).countP fun c=>c == 32 || c == 41
theorem xZ2{z:Str}{a:Nat}(h:a<=z.length):tl (Txt.slice z none (some (a:Int)))=(tl z).take a:=by
 have e:Txt.slice z none (some (a:Int))=sliceText z none (some (a:Int)):=rfl
 rw[e,sliceText_to ⟨by rfl',by show (a:Int)<=((tl z).length:Int);rw[yY];rfl'⟩,uT]
 show ((tl z).drop 0).take ((a:Int)-0).toNat=_
 rw[Cj]
 congr 1
theorem yW5(z:Str)(a:Nat):tl (Txt.slice z (some (a:Int)) none)=(tl z).drop a:=by
 have one:∀a,a<=z.length->tl (Txt.slice z (some (a:Int)) none)=(tl z).drop a:=fun a h=>by
  have e:Txt.slice z (some (a:Int)) none=sliceText z (some (a:Int)) none:=rfl
  rw[e,sliceText_from ⟨by rfl',by show (a:Int)<=((tl z).length:Int);rw[yY];rfl'⟩,uT]
  show ((tl z).drop (a:Int).toNat).take (((tl z).length:Int)-(a:Int)).toNat=_
  rw[Bo,AV (by rw[As];rfl')]
 by_cases h:a<=z.length
 ·exact one a h
 ·have ix:strSliceIndices (some (a:Int)) none 1 z.length=strSliceIndices (some (z.length:Int)) none 1 z.length:=by
   unfold strSliceIndices
   have n0:¬(a:Int)<0:=by rfl'
   have n1:¬(z.length:Int)<0:=by rfl'
   simp only[n0,n1,if_false,show (1:Int) > 0 by decide,if_true]
   rw[show min (a:Int) (z.length:Int)=min (z.length:Int) (z.length:Int) by rfl']
  have e:Txt.slice z (some (a:Int)) none=Txt.slice z (some (z.length:Int)) none:=by
   unfold Txt.slice
   rw[ix]
  rw[e,one _ (Al _),BE (by rw[yY];exact Al _),BE (by rw[yY];rfl')]
theorem yJ3(z:Str){a b:Nat}(h:a<=b):tl (Txt.slice z (some (a:Int)) (some (b:Int)))=((tl z).drop a).take (b-a):=by
 have ix:∀a b:Nat,strSliceIndices (some (a:Int)) (some (b:Int)) 1 z.length=strSliceIndices (some ((min a z.length:Nat):Int)) (some ((min b z.length:Nat):Int)) 1 z.length:=fun a b=>by
  unfold strSliceIndices
  have n0:¬(a:Int)<0:=by rfl'
  have n1:¬(b:Int)<0:=by rfl'
  have n2:¬((min a z.length:Nat):Int)<0:=by rfl'
  have n3:¬((min b z.length:Nat):Int)<0:=by rfl'
  simp only[n0,n1,n2,n3,if_false,show (1:Int) > 0 by decide,if_true]
  rw[show min ((min a z.length:Nat):Int) (z.length:Int)=min (a:Int) (z.length:Int) by rfl',show min ((min b z.length:Nat):Int) (z.length:Int)=min (b:Int) (z.length:Int) by rfl']
 have e:Txt.slice z (some (a:Int)) (some (b:Int))=sliceText z (some ((min a z.length:Nat):Int)) (some ((min b z.length:Nat):Int)):=by
  show Txt.slice z (some (a:Int)) (some (b:Int))=Txt.slice z (some ((min a z.length:Nat):Int)) (some ((min b z.length:Nat):Int))
  unfold Txt.slice
  rw[ix]
 have lz:(tl z).length=z.length:=yY z
 rw[e,sliceText_plain ⟨by rfl',by rfl',by show _<=((tl z).length:Int);rfl'⟩,uT]
 show ((tl z).drop ((min a z.length:Nat):Int).toNat).take (((min b z.length:Nat):Int)-((min a z.length:Nat):Int)).toNat=_
 rw[Bo]
 by_cases c:a<=z.length
 ·rw[Cw c]
  by_cases c2:b<=z.length
  ·rw[Cw c2]
   congr 1
   rfl'
  ·rw[Cm (by rfl'),AV (by rw[As];rfl'),AV (by rw[As];rfl')]
 ·rw[Cm (show z.length<=a by rfl'),BE (by rfl'),BE (by rfl'),List.take_nil,List.take_nil]
theorem yA8(z:Str)(a:Nat):tl (Txt.slice z none (some (a:Int)))=(tl z).take a:=by
 by_cases h:a<=z.length
 ·exact xZ2 h
 ·have ix:strSliceIndices none (some (a:Int)) 1 z.length=strSliceIndices none (some (z.length:Int)) 1 z.length:=by
   unfold strSliceIndices
   have n0:¬(a:Int)<0:=by rfl'
   have n1:¬(z.length:Int)<0:=by rfl'
   simp only[n0,n1,if_false,show (1:Int) > 0 by decide,if_true]
   rw[show min (a:Int) (z.length:Int)=min (z.length:Int) (z.length:Int) by rfl']
  have e:Txt.slice z none (some (a:Int))=Txt.slice z none (some (z.length:Int)):=by
   unfold Txt.slice
   rw[ix]
  have lz:(tl z).length=z.length:=yY z
  rw[e,xZ2 (Al _),AV (by rfl'),AV (by rfl')]
end MR
local macro_rules | `(tactic| sleep 1)=>`(tactic| exact⟨rfl,rfl,rfl,by decide +kernel,rfl,by decide +kernel,by decide +kernel⟩)
local macro_rules | `(tactic| sleep 2)=>`(tactic| exact⟨rfl,by decide +kernel,by decide +kernel,by decide +kernel,by decide +kernel,rfl,by decide +kernel,by decide +kernel⟩)
namespace K51
open PySem L2 L2.L3
def top(i:Nat):Stmt:=PySem.Challenge.pw_ownboxes_k51_the_first_bad_row.main.body.getD i (.Pass ⟨0,0,0,0⟩)
abbrev qX:Stmt:=top 10
abbrev vM:Stmt:=top 13
abbrev qA:Stmt:=top 14
abbrev jV:Stmt:=top 15
abbrev kS:Stmt:=top 18
abbrev uQ:Stmt:=top 19
abbrev qO:Stmt:=top 20
abbrev kY:Stmt:=top 21
abbrev jZ:Stmt:=top 22
abbrev kW:Stmt:=top 23
abbrev qB:Stmt:=top 24
abbrev fM:Stmt:=top 26
abbrev bF:Stmt:=top 27
abbrev zP6:Stmt:=top 28
abbrev cA:Stmt:=top 29
abbrev qM:Stmt:=top 30
abbrev qL:Stmt:=top 31
abbrev vJ:Stmt:=top 32
abbrev uE:Stmt:=top 33
abbrev kU:Stmt:=top 34
abbrev jX:Stmt:=top 35
abbrev qS:Stmt:=top 36
abbrev wQ:Stmt:=top 37
abbrev zQ6:Stmt:=top 38
abbrev zO3:Stmt:=top 39
abbrev fK:Stmt:=top 40
abbrev bT:Stmt:=top 41
abbrev zI1:Stmt:=top 42
abbrev CLS:List Str:=["BadOpenings","BadPlan","BadText@1","BadText@2","BadText@3","BadText@4","BadText@5","BadText@6","BadText@7","BadText@8"]
abbrev ROWN:List Str:=["BadText@1","BadText@2","BadText@3","BadText@4","BadText@5","BadText@6","BadText@7","BadText@8"]
abbrev NMR:Int->Str:=fun r=>rowName r.toNat
def clsBody:Stmt->List Stmt
 | .ClassDef _ _ _ b ..=>b
 | _=>[]
abbrev zS5:Stmt:=(clsBody (top 7)).getD 0 (.Pass ⟨0,0,0,0⟩)
def wA:Ev->Res Out:=(sQ (sIf (tNt (b3 leI leI (eC (.int 1)) (eV 0) (eC (.int 60)))) (sRa "BadOpenings" (aC (eC (.str "openings are for 1 to 60 people")) aN)) sN) (sQ (sIf (b2 neD (eB lenD (aC (eV 1) aN)) (eV 0)) (sRa "BadOpenings" (aC (eC (.str "each person has its openings")) aN)) sN) (sQ (sIf (tO (b2 ltI (eB min1D (aC (eV 1) aN)) (eC (.int 0))) (b2 gtI (eB max1D (aC (eV 1) aN)) (eV 0))) (sRa "BadOpenings" (aC (eC (.str "openings are from 0 to as many as there are boxes")) aN)) sN) (sR (eB tupD (aC (eV 1) aN))))))
def vD:List D->Res D:=runF false 2 2 wA
def xF:Ev->Res Out:=(sQ (sIf (b2 gtI (eB lenD (aC (eV 0) aN)) (eC (.int 6))) (sRa "BadOpenings" (aC (eC (.str "plans are for 1 to 6 people")) aN)) sN) (sR (eF vD (aC (eB lenD (aC (eV 0) aN)) (aC (eV 0) aN)))))
def yG:List D->Res D:=runF false 1 1 xF
def uK(Fself:List D->Res D):Ev->Res Out:=(sQ (sIf (b2 (isND false) (eV 0) (eC .none)) (sR (eC .none)) sN) (sQ (sS 5 (e2 ixD (eV 0) (eC (.int 0)))) (sQ (sS 6 (e2 ixD (eV 0) (eC (.int 1)))) (sQ (sIf (b2 eqD (eV 2) (eC (.int 0))) (sRa "BadPlan" (aC (eC (.str "a way down a tree has more boxes than there are openings")) aN)) sN) (sQ (sIf (tNt (b3 leI ltI (eC (.int 0)) (eV 5) (eV 1))) (sRa "BadPlan" (aC (eC (.str "a tree has a box that is not there")) aN)) sN) (sQ (sIf (b2 (inD false) (eV 5) (eV 3)) (sRa "BadPlan" (aC (eC (.str "a way down a tree has a box twice")) aN)) sN) (sQ (sIf (b2 neD (eB lenD (aC (eV 6) aN)) (eV 1)) (sRa "BadPlan" (aC (eC (.str "each box of a tree has a next tree for each person")) aN)) sN) (sQ (sS 7 (eB mkL aN)) (sQ (sF (wV (eV 6)) (gT 2 (gsC (gN 8) (gsC (gN 9) gsN))) (sQ (sIf (tAn (b2 (isND true) (eV 9) (eC .none)) (b2 (inD false) (eV 8) (eV 4))) (sRa "BadPlan" (aC (eC (.str "a tree goes on by the own name, or by a name found before")) aN)) sN) (sM 7 appD (aC (eF Fself (aC (eV 9) (aC (eV 1) (aC (e2 subI (eV 2) (eC (.int 1))) (aC (e2 catL (eV 3) (eB mkL (aC (eV 5) aN))) (aC (e2 catL (eV 4) (eB mkL (aC (eV 8) aN))) aN)))))) aN)))) (sR (eB mkT (aC (eV 5) (aC (eB tupD (aC (eV 7) aN)) aN)))))))))))))
def wW:Nat->List D->Res D
 | 0=>fun _=>.no
 | n+1=>runF false 5 10 (uK (wW n))
def vV:List D->Res D:=wW 14
def fJ:Ev->Res Out:=(sQ (sS 2 (eF yG (aC (eV 0) aN))) (sQ (sS 3 (eB lenD (aC (eV 2) aN))) (sQ (sIf (b2 neD (eB lenD (aC (eV 1) aN)) (eV 3)) (sRa "BadPlan" (aC (eC (.str "a plan has a tree for each person")) aN)) sN) (sR (eB tupD (aC (eComp2X (wV (eV 1)) tYes (eF vV (aC (eV 1) (aC (eV 2) (aC (e2 ixD (eV 3) (eV 0)) (aC (eB mkL aN) (aC (eB mkL (aC (eV 0) aN)) aN)))))) [3,2]) aN))))))
def fL:List D->Res D:=runF false 2 4 fJ
def uG:Ev->Res Out:=(sQ (sIf (tO (tNt (tV (eM0S (fun z=>some (.bool (Txt.isdigit z))) (eV 0)))) (tO (b2 gtI (eB lenTD (aC (eV 0) aN)) (eC (.int 90))) (tAn (tV (eM1S stwD (eV 0) (eC (.str "0")))) (b2 neD (eV 0) (eC (.str "0")))))) (sRaI NMR (aC (eV 1) aN)) sN) (sR (eB intTD (aC (eV 0) aN))))
def yZ:List D->Res D:=runF false 2 2 uG
def uP:Ev->Res Out:=(sR (eB tupD (aC (eCompX (iS (eV 0)) tYes (eF yZ (aC (eV 0) (aC (eV 1) aN))) [1]) aN)))
def uV:List D->Res D:=runF false 2 2 uP
def qW:Ev->Res Out:=(sQ (sS 1 (eM1S splD (eV 0) (eC (.str " ")))) (sQ (sIf (b2 neD (e2 ixD (eV 1) (eC (.int 0))) (eC (.str "openings"))) (sRaI NMR (aC (eC (.int 1)) aN)) sN) (sQ (sS 2 (eF uV (aC (eS slD (eV 1) (oS (eC (.int 1))) oN) (aC (eC (.int 1)) aN)))) (sTryR ["BadOpenings"] (NMR 1) (sR (eF yG (aC (eV 2) aN)))))))
def wH:List D->Res D:=runF false 1 3 qW
def vI:Ev->Res Out:=(sQ (sIf (tNt (tV (eM1S stwD (eV 0) (eV 1)))) (sRaI NMR (aC (eV 2) aN)) sN) (sR (eS slS (eV 0) (oS (eB lenTD (aC (eV 1) aN))) oN)))
def yQ:List D->Res D:=runF false 3 3 vI
def jW:List D->Res D:=X.rtF yZ yQ NMR
def kT:Ev->Res Out:=(sQ (sS 3 (e2 addI (eV 1) (eC (.int 2)))) (sR (eF jW (aC (eF yQ (aC (eV 0) (aC (eJ (jC "person " (jS fI (eV 1) (jC " " jN)))) (aC (eV 3) aN)))) (aC (eV 2) (aC (eV 3) aN))))))
def wK:List D->Res D:=runF false 3 4 kT
def fN:Ev->Res Out:=(sQ (sS 1 (eM1S splD (eV 0) (eC (.str "\n")))) (sQ (sS 2 (eF wH (aC (e2 ixD (eV 1) (eC (.int 0))) aN))) (sQ (sS 3 (eB lenD (aC (eV 2) aN))) (sQ (sS 4 (eComp2X (wV (eS slD (eV 1) (oS (eC (.int 1))) (oS (e2 addI (eV 3) (eC (.int 1)))))) tYes (eF wK (aC (eV 1) (aC (eV 0) (aC (eV 2) aN)))) [3])) (sQ (sIf (b2 neD (eB lenD (aC (eV 1) aN)) (e2 addI (eV 3) (eC (.int 1)))) (sRaI NMR (aC (e2 addI (eB min2D (aC (eB lenD (aC (eV 1) aN)) (aC (e2 addI (eV 3) (eC (.int 1))) aN))) (eC (.int 1))) aN)) sN) (sR (eB mkT (aC (eV 2) (aC (eF fL (aC (eV 2) (aC (eV 4) aN))) aN)))))))))
def wY:List D->Res D:=runF false 1 5 fN
def fP:Ev->Res Out:=(sQ (sIf (b2 ltI (eV 1) (eB lenD (aC (eV 0) aN))) (sR (e2 ixD (eV 0) (eV 1))) sN) (sR (eC (.int 0))))
def jY:List D->Res D:=runF false 2 2 fP
def aW:Ev->Res Out:=(sR (vAn (e1 (isiD "int") (eV 0)) (vNt (e1 (isiD "bool") (eV 0)))))
def aV:List D->Res D:=runF false 1 1 aW
def zP3:Ev->Res Out:=(sQ (sS 1 (eC (.int 0))) (sQ (sF (iS (eV 0)) (gN 2) (sS 1 (e2 addI (e2 mulI (eV 1) (eC (.int 1000))) (eV 2)))) (sR (eV 1))))
def zQ5:List D->Res D:=runF false 1 3 zP3
def gW:List D->Res D:=plHF
def vH(Fself:List D->Res D):Ev->Res Out:=(sQ (sIf (b2 (isND false) (eV 0) (eC .none)) (sR (eC (.str "-"))) sN) (sR (e2 catS (e2 catS (e2 catS (eB strOfD (aC (e2 ixD (eV 0) (eC (.int 0))) aN)) (eC (.str "("))) (eM1S joinD (eC (.str " ")) (eComp (iS (e2 ixD (eV 0) (eC (.int 1)))) tYes (eF Fself (aC (eV 0) aN)) []))) (eC (.str ")")))))
def xD:Nat->List D->Res D
 | 0=>fun _=>.no
 | n+1=>runF false 1 1 (vH (xD n))
def jA:List D->Res D:=xD 14
def jB:Ev->Res Out:=(sQ (sS 2 (eB mkL (aC (e2 catS (eC (.str "openings ")) (eM1S joinD (eC (.str " ")) (eComp (iS (eV 0)) tYes (eB strOfD (aC (eV 0) aN)) []))) aN))) (sQ (sF (iR rng1 (aC (eB lenD (aC (eV 1) aN)) aN)) (gN 3) (sM 2 appD (aC (e2 catS (e2 catS (e2 catS (eC (.str "person ")) (eB strOfD (aC (eV 3) aN))) (eC (.str " "))) (eF jA (aC (e2 ixD (eV 1) (eV 3)) aN))) aN))) (sR (eV 2))))
def kZ:List D->Res D:=runF true 2 4 jB
def kX:Ev->Res Out:=(sQ (sS 2 (eV 1)) (sQ (sW 1000000 (tAn (b2 ltI (eV 2) (eB lenTD (aC (eV 0) aN))) (b2 inSD (e2 ixSD (eV 0) (eV 2)) (eC (.str "0123456789")))) (sS 2 (e2 addI (eV 2) (eC (.int 1))))) (sQ (sIf (tO (b2 eqD (eV 2) (eV 1)) (tAn (b2 eqD (e2 ixSD (eV 0) (eV 1)) (eC (.str "0"))) (b2 gtI (eV 2) (e2 addI (eV 1) (eC (.int 1)))))) (sR (eB mkT (aC (e1 negD (eC (.int 1))) (aC (eV 1) aN)))) sN) (sR (eB mkT (aC (eB intTD (aC (eS slS (eV 0) (oS (eV 1)) (oS (eV 2))) aN)) (aC (eV 2) aN)))))))
def xU:List D->Res D:=runF false 2 3 kX
def yL(Fself:List D->Res D):Ev->Res Out:=(sQ (sA (eF Fself (aC (eV 0) (aC (e2 addI (eV 1) (eC (.int 1))) (aC (eV 2) aN)))) (gT 2 (gsC (gN 6) (gsC (gN 1) gsN)))) (sQ (sIf (tO (b2 eqD (eV 6) (eC (.str "none"))) (b2 neD (eS slS (eV 0) (oS (eV 1)) (oS (e2 addI (eV 1) (eC (.int 1))))) (e2 ixD (eB mkL (aC (eC (.str " ")) (aC (eC (.str ")")) aN))) (eB intD (aC (e2 (fun x y=>bD (eqD x y)) (eV 5) (e2 subI (eV 2) (eC (.int 1)))) aN))))) (sR (eB mkT (aC (eC (.str "none")) (aC (eC (.int 0)) aN)))) sN) (sM 4 appD (aC (eV 6) aN))))
def fH(Fself:List D->Res D):Ev->Res Out:=(sQ (sIf (b2 eqD (eS slS (eV 0) (oS (eV 1)) (oS (e2 addI (eV 1) (eC (.int 1))))) (eC (.str "-"))) (sR (eB mkT (aC (eC .none) (aC (e2 addI (eV 1) (eC (.int 1))) aN)))) sN) (sQ (sA (eF xU (aC (eV 0) (aC (eV 1) aN))) (gT 2 (gsC (gN 3) (gsC (gN 1) gsN)))) (sQ (sIf (tO (b2 ltI (eV 3) (eC (.int 0))) (b2 neD (eS slS (eV 0) (oS (eV 1)) (oS (e2 addI (eV 1) (eC (.int 1))))) (eC (.str "(")))) (sR (eB mkT (aC (eC (.str "none")) (aC (eC (.int 0)) aN)))) sN) (sQ (sS 4 (eB mkL aN)) (sQ (sF (iR rng1 (aC (eV 2) aN)) (gN 5) (yL Fself)) (sR (eB mkT (aC (eB mkT (aC (eV 3) (aC (eB tupD (aC (eV 4) aN)) aN))) (aC (e2 addI (eV 1) (eC (.int 1))) aN)))))))))
def yM:Nat->List D->Res D
 | 0=>fun _=>.no
 | n+1=>runF false 3 7 (fH (yM n))
def vG:List D->Res D:=yM 24
def xR:Ev->Res Out:=(sQ (sA (eF xU (aC (eV 3) (aC (eC (.int 0)) aN))) (gT 2 (gsC (gN 4) (gsC (gN 5) gsN)))) (sQ (sIf (tO (b2 ltI (eV 4) (eC (.int 0))) (tO (b2 neD (eV 5) (eB lenTD (aC (eV 3) aN))) (b2 gtI (eV 4) (e2 subI (eB lenD (aC (eV 1) aN)) (eC (.int 1)))))) (sR (eC .none)) sN) (sM 2 appD (aC (eV 4) aN))))
def qP:Ev->Res Out:=(sQ (sS 1 (eM1S splD (eV 0) (eC (.str " ")))) (sQ (sIf (tO (b2 neD (e2 ixD (eV 1) (eC (.int 0))) (eC (.str "openings"))) (tO (b2 ltI (eB lenD (aC (eV 1) aN)) (eC (.int 2))) (b2 gtI (eB lenD (aC (eV 1) aN)) (eC (.int 7))))) (sR (eC .none)) sN) (sQ (sS 2 (eB mkL aN)) (sQ (sF (iS (eS slD (eV 1) (oS (eC (.int 1))) oN)) (gN 3) xR) (sR (eB tupD (aC (eV 2) aN)))))))
def wF:List D->Res D:=runF false 1 6 qP
def wM(Fself:List D->Res D):Ev->Res Out:=(sQ (sIf (tAn (b2 (inD false) (eV 8) (eV 7)) (b2 (isND true) (e2 ixD (eV 6) (eV 8)) (eC .none))) (sR (eC (.bool false))) sN) (sQ (sS 9 (e2 catL (eV 3) (eB mkL (aC (eB mkT (aC (eV 5) (aC (eV 8) aN))) aN)))) (sIf (tAn (b2 (inD true) (eV 8) (eV 7)) (tNt (tV (eF Fself (aC (e2 ixD (eV 6) (eV 8)) (aC (eV 1) (aC (eV 2) (aC (eV 9) (aC (e2 subI (eV 4) (eC (.int 1))) aN))))))))) (sR (eC (.bool false))) sN)))
def qD(Fself:List D->Res D):Ev->Res Out:=(sQ (sIf (b2 (isND false) (eV 0) (eC .none)) (sR (eC (.bool true))) sN) (sQ (sA (eV 0) (gT 2 (gsC (gN 5) (gsC (gN 6) gsN)))) (sQ (sIf (tO (b2 eqD (eV 4) (eC (.int 0))) (tO (b2 geI (eV 5) (eV 2)) (b2 (inD false) (eV 5) (eComp (iS (eV 3)) tYes (e2 ixD (eV 0) (eC (.int 0))) [])))) (sR (eC (.bool false))) sN) (sQ (sS 7 (e2 catL (eB mkL (aC (eV 1) aN)) (eComp (iS (eV 3)) tYes (e2 ixD (eV 0) (eC (.int 1))) []))) (sQ (sF (iR rng1 (aC (eV 2) aN)) (gN 8) (wM Fself)) (sR (eC (.bool true))))))))
def xI:Nat->List D->Res D
 | 0=>fun _=>.no
 | n+1=>runF false 5 10 (qD (xI n))
def qG:List D->Res D:=xI 14
def xW:Ev->Res Out:=(sQ (sS 4 (e2 catS (e2 catS (eC (.str "person ")) (eB strOfD (aC (e2 subI (eV 3) (eC (.int 1))) aN))) (eC (.str " ")))) (sQ (sA (eF vG (aC (e2 ixD (eV 0) (eV 3)) (aC (eB lenTD (aC (eV 4) aN)) (aC (eB lenD (aC (eV 1) aN)) aN)))) (gT 2 (gsC (gN 5) (gsC (gN 6) gsN)))) (sQ (sIf (tO (b2 gtI (eV 3) (eB lenD (aC (eV 1) aN))) (tO (b2 neD (eS slS (e2 ixD (eV 0) (eV 3)) oN (oS (eB lenTD (aC (eV 4) aN)))) (eV 4)) (tO (b2 eqD (eV 5) (eC (.str "none"))) (b2 neD (eV 6) (eB lenTD (aC (e2 ixD (eV 0) (eV 3)) aN)))))) (sR (eB mkT (aC (e2 addI (eV 3) (eC (.int 1))) (aC (eC .none) (aC (eC .none) aN))))) sN) (sM 2 appD (aC (eV 5) aN)))))
def jM:Ev->Res Out:=(sIf (tNt (tV (eF qG (aC (e2 ixD (eV 2) (eV 7)) (aC (eV 7) (aC (eB lenD (aC (eV 2) aN)) (aC (eB mkL aN) (aC (e2 ixD (eV 1) (eV 7)) aN)))))))) (sR (eB mkT (aC (eC (.int 0)) (aC (eV 1) (aC (eC .none) aN))))) sN)
def zP5:Ev->Res Out:=(sQ (sS 1 (eF wF (aC (e2 ixD (eV 0) (eC (.int 0))) aN))) (sQ (sIf (b2 (isND false) (eV 1) (eC .none)) (sR (eB mkT (aC (eC (.int 1)) (aC (eC .none) (aC (eC .none) aN))))) sN) (sQ (sS 2 (eB mkL aN)) (sQ (sF (iR rng2 (aC (eC (.int 1)) (aC (eB lenD (aC (eV 0) aN)) aN))) (gN 3) xW) (sQ (sIf (b2 ltI (eB lenD (aC (eV 2) aN)) (eB lenD (aC (eV 1) aN))) (sR (eB mkT (aC (e2 addI (eB lenD (aC (eV 0) aN)) (eC (.int 1))) (aC (eC .none) (aC (eC .none) aN))))) sN) (sQ (sF (iR rng1 (aC (eB lenD (aC (eV 2) aN)) aN)) (gN 7) jM) (sR (eB mkT (aC (eC (.int 0)) (aC (eV 1) (aC (eB tupD (aC (eV 2) aN)) aN)))))))))))
def kL:List D->Res D:=runF false 1 8 zP5
def zO6:Ev->Res Out:=(sQ (sS 1 (eC (.str "|openings|openings 2|openings 1 1|openings 0 0 0|openings 7 1 1 1 1 1 1|openings 1 1 1 1 1 1"))) (sQ (sS 1 (e2 catS (eV 1) (eC (.str "|openings 1  1|openings 01|openings -1|openings +1|Openings 1|openings 1 ")))) (sQ (sS 1 (e2 catS (eV 1) (eC (.str "|person 0 -|person 1 -|person 0|person  0 -|person 0 --|person 0 - ")))) (sQ (sS 1 (e2 catS (eV 1) (eC (.str "|person 0 0(-|person 0 0(-))|person 0 0 (-)|person 0 (-)|person 0 00(-)")))) (sQ (sS 1 (e2 catS (eV 1) (eC (.str "|person 0 0()|person 0 0(- -)|person 0 0(- - -)|person 0 0(-  -)")))) (sQ (sS 1 (e2 catS (eV 1) (eC (.str "|person 00 -|person -1 -|person 0 x|Person 0 -|person 0 0[-]")))) (sQ (sS 1 (e2 catS (eV 1) (eC (.str "|person 0 1(- 0(- -))|person 0 0(0(-))|person 0 9(-)|#| ")))) (sQ (sS 1 (e2 catS (eV 1) (eC (.str "|person 0 0(1(- -) -)")))) (sQ (sS 2 (eM1S splD (eV 1) (eC (.str "|")))) (sR (e2 ixD (eV 2) (e2 modI (eV 0) (eB lenD (aC (eV 2) aN))))))))))))))
def kK:List D->Res D:=runF false 1 3 zO6
def fO:Ev->Res Out:=(sQ (sS 2 (e2 modI (eV 1) (eC (.int 8)))) (sQ (sS 3 (e2 modI (e2 fdivI (eV 1) (eC (.int 8))) (eB lenD (aC (eV 0) aN)))) (sQ (sS 4 (e2 ixD (eV 0) (eV 3))) (sQ (sS 5 (e2 modI (e2 fdivI (eV 1) (eC (.int 64))) (e2 addI (eB lenTD (aC (eV 4) aN)) (eC (.int 1))))) (sQ (sS 6 (e2 ixSD (eC (.str "0123()- x9")) (e2 modI (e2 fdivI (eV 1) (eC (.int 6400))) (eC (.int 10))))) (sQ (sIf (tAn (b2 eqD (eV 2) (eC (.int 0))) (b2 gtI (eB lenD (aC (eV 0) aN)) (eC (.int 1)))) (sR (e2 catL (eS slL (eV 0) oN (oS (eV 3))) (eS slL (eV 0) (oS (e2 addI (eV 3) (eC (.int 1)))) oN))) sN) (sQ (sIf (b2 eqD (eV 2) (eC (.int 1))) (sR (e2 catL (e2 catL (eS slL (eV 0) oN (oS (eV 3))) (eB mkL (aC (eV 4) aN))) (eS slL (eV 0) (oS (eV 3)) oN))) sN) (sQ (sIf (b2 eqD (eV 2) (eC (.int 2))) (sR (e2 catL (e2 catL (eS slL (eV 0) oN (oS (eV 3))) (eB mkL (aC (eF kK (aC (e2 fdivI (eV 1) (eC (.int 64))) aN)) aN))) (eS slL (eV 0) (oS (e2 addI (eV 3) (eC (.int 1)))) oN))) sN) (sQ (sIf (b2 eqD (eV 2) (eC (.int 3))) (sR (e2 catL (e2 catL (eS slL (eV 0) oN (oS (e2 addI (eV 3) (eC (.int 1))))) (eB mkL (aC (eF kK (aC (e2 fdivI (eV 1) (eC (.int 64))) aN)) aN))) (eS slL (eV 0) (oS (e2 addI (eV 3) (eC (.int 1)))) oN))) sN) (sQ (sIf (b2 eqD (eV 2) (eC (.int 4))) (sR (e2 catL (eS slL (eV 0) (oS (eV 3)) oN) (eS slL (eV 0) oN (oS (eV 3))))) sN) (sQ (sS 7 (eS slS (eV 4) oN (oS (eV 5)))) (sQ (sS 8 (eB mkL (aC (e2 catS (e2 catS (eV 7) (eV 6)) (eS slS (eV 4) (oS (eV 5)) oN)) (aC (e2 catS (eV 7) (eS slS (eV 4) (oS (e2 addI (eV 5) (eC (.int 1)))) oN)) (aC (e2 catS (e2 catS (eV 7) (eV 6)) (eS slS (eV 4) (oS (e2 addI (eV 5) (eC (.int 1)))) oN)) aN))))) (sR (e2 catL (e2 catL (eS slL (eV 0) oN (oS (eV 3))) (eB mkL (aC (e2 ixD (eV 8) (e2 modI (eV 2) (eC (.int 3)))) aN))) (eS slL (eV 0) (oS (e2 addI (eV 3) (eC (.int 1)))) oN)))))))))))))))
def uI:List D->Res D:=runF true 2 9 fO
def bZ:Ev->Res Out:=(sQ (sS 1 (eC .none)) (sQ (sS 2 (eC .none)) (sQ (sTryA 3 2 CLS wY (aC (eM1S joinD (eC (.str "\n")) (eV 0)) aN) (sS 1 (eV 3))) (sQ (sA (eF kL (aC (eV 0) aN)) (gT 3 (gsC (gN 4) (gsC (gN 5) (gsC (gN 6) gsN))))) (sQ (sIf (tAn (b2 eqD (eV 4) (eC (.int 0))) (b2 (isND true) (eV 6) (eC .none))) (sR (vAn (e2 (fun x y=>bD ((isND false) x y)) (eV 1) (eC .none)) (e2 (fun x y=>bD (eqD x y)) (eV 2) (eB mkT (aC (eV 5) (aC (eV 6) aN)))))) sN) (sQ (sIf (tO (tNt (tV (e1 (isiX CLS CLS) (eV 1)))) (tV (e1 (isiX CLS ["BadBox","BadOpenings","BadOrder","NoPerson"]) (eV 1)))) (sR (eC (.bool false))) sN) (sQ (sIf (b2 eqD (eV 4) (eC (.int 0))) (sR (vAn (e1 (isiX CLS ["BadPlan"]) (eV 1)) (vNt (e1 (isiX CLS ROWN) (eV 1))))) sN) (sQ (sIf (tO (tNt (tV (e1 (isiX CLS ROWN) (eV 1)))) (tV (e1 (isiX CLS ["BadPlan"]) (eV 1)))) (sR (eC (.bool false))) sN) (sR (vAn (eF aV (aC (e1 rowD (eV 1)) aN)) (e2 (fun x y=>bD (eqD x y)) (e1 rowD (eV 1)) (eV 4))))))))))))
def wG:List D->Res D:=runF false 1 7 bZ
def yZ2:Ev->Res Out:=(sQ (sS 6 (eF uI (aC (eV 4) (aC (e2 fdivI (eB absD (aC (eV 5) aN)) (eC (.int 4))) aN)))) (sIf (tO (tNt (tV (eF wG (aC (eV 6) aN)))) (tNt (tV (eF wG (aC (eF uI (aC (eV 6) (aC (e2 addI (e2 fdivI (eB absD (aC (eV 5) aN)) (eC (.int 11))) (eC (.int 5))) aN))) aN))))) (sR (eC (.bool false))) sN))
def yS3:Ev->Res Out:=(sQ (sS 1 (e2 addI (eC (.int 1)) (e2 modI (eF jY (aC (eV 0) (aC (eC (.int 0)) aN))) (eC (.int 4))))) (sQ (sA (eF gW (aC (eF zQ5 (aC (eV 0) aN)) (aC (eV 1) (aC (eV 1) aN)))) (gT 2 (gsC (gN 2) (gsC (gN 3) gsN)))) (sQ (sS 4 (eF kZ (aC (eV 2) (aC (eV 3) aN)))) (sQ (sIf (tO (tNt (tV (eF wG (aC (eV 4) aN)))) (tO (tNt (tV (eF wG (aC (e2 catL (eV 4) (eB mkL (aC (eC (.str "")) aN))) aN)))) (tNt (tV (eF wG (aC (eB mkL (aC (eC (.str "")) aN)) aN)))))) (sR (eC (.bool false))) sN) (sQ (sF (iS (eS slD (eV 0) oN (oS (eC (.int 30))))) (gN 5) yZ2) (sR (eC (.bool true))))))))
def yR2:List D->Res D:=runF false 1 7 yS3
structure Txt[CN](K:KFr)(mg:Str->Option Value):Prop where
 g_ValueError:mg "ValueError" = none
 g_abs:mg "abs" = none
 g_bool:mg "bool" = none
 g_enumerate:mg "enumerate" = none
 g_int:mg "int" = none
 g_isinstance:mg "isinstance" = none
 g_len:mg "len" = none
 g_max:mg "max" = none
 g_min:mg "min" = none
 g_range:mg "range" = none
 g_str:mg "str" = none
 g_tuple:mg "tuple" = none
 c_MOST_FIGURES:∃u,mg "MOST_FIGURES" = some u/\RelV (.int 90) u
 c_MOST_IN_A_PLAN:∃u,mg "MOST_IN_A_PLAN" = some u/\RelV (.int 6) u
 c_MOST_PEOPLE:∃u,mg "MOST_PEOPLE" = some u/\RelV (.int 60) u
 k_bool:Kit K "bool"
 k_int:Kit K "int"
 d_made_openings:∃f fd,Has K mg "made_openings" qX f fd ["people","numbers"]
 d_openings_of_a_plan:∃f fd,Has K mg "openings_of_a_plan" vM f fd ["openings"]
 d_made_tree:∃f fd,Has K mg "made_tree" qA f fd ["tree","people","left","boxes","names"]
 d_made_plan:∃f fd,Has K mg "made_plan" jV f fd ["openings","trees"]
 d_read_number:∃f fd,Has K mg "read_number" kS f fd ["word","row"]
 d_read_numbers:∃f fd,Has K mg "read_numbers" uQ f fd ["words","row"]
 d_read_openings:∃f fd,Has K mg "read_openings" qO f fd ["text"]
 d_behind_sign:∃f fd,Has K mg "behind_sign" kY f fd ["text","sign","row"]
 d_read_tree:∃f fd,Has K mg "read_tree" jZ f fd ["text","people","row"]
 d_read_person:∃f fd,Has K mg "read_person" kW f fd ["text","person","people"]
 d_read_plan:∃f fd,Has K mg "read_plan" qB f fd ["text"]
 d_l_cell_at:∃f fd,Has K mg "_law_cell_at" fM f fd ["script","k"]
 d_l_whole:∃f fd,Has K mg "_law_whole" bF f fd ["found"]
 d_l_all:∃f fd,Has K mg "_law_all" zP6 f fd ["script"]
 d_l_taken:∃f fd,Has K mg "_law_taken" cA f fd ["digits","most"]
 d_l_tree:∃f fd,Has K mg "_law_tree" qM f fd ["digits","person","people","way","left"]
 d_l_plan:∃f fd,Has K mg "_law_plan" qL f fd ["cell","people","most"]
 d_l_tree_text:∃f fd,Has K mg "_law_tree_text" vJ f fd ["tree"]
 d_l_plan_rows:∃f fd,Has K mg "_law_plan_rows" uE f fd ["openings","plan"]
 d_l_number_at:∃f fd,Has K mg "_law_number_at" kU f fd ["text","at"]
 d_l_tree_at:∃f fd,Has K mg "_law_tree_at" jX f fd ["text","at","people"]
 d_l_openings_of:∃f fd,Has K mg "_law_openings_of" qS f fd ["row"]
 d_l_plan_right:∃f fd,Has K mg "_law_plan_right" wQ f fd ["tree","person","people","way","left"]
 d_l_due:∃f fd,Has K mg "_law_due" zQ6 f fd ["rows"]
 d_l_odd:∃f fd,Has K mg "_law_odd" zO3 f fd ["cell"]
 d_l_changed:∃f fd,Has K mg "_law_changed" fK f fd ["rows","cell"]
 d_l_right:∃f fd,Has K mg "_law_right" bT f fd ["rows"]
 d_law:∃f fd,Has K mg "law" zI1 f fd ["script"]
 x_BadBox:mg "BadBox" = some (.ref (CN.ad "BadBox"))
 x_BadOpenings:mg "BadOpenings" = some (.ref (CN.ad "BadOpenings"))
 x_BadOrder:mg "BadOrder" = some (.ref (CN.ad "BadOrder"))
 x_BadPlan:mg "BadPlan" = some (.ref (CN.ad "BadPlan"))
 x_BadText:mg "BadText" = some (.ref (CN.ad "BadText"))
 x_BoxError:mg "BoxError" = some (.ref (CN.ad "BoxError"))
 x_NoPerson:mg "NoPerson" = some (.ref (CN.ad "NoPerson"))
 ox_BadOpenings:OwnX K "BadOpenings"
 ox_BadPlan:OwnX K "BadPlan"
 kx_BadBox:IsK K CLS ["BadBox"] (.ref (CN.ad "BadBox"))
 kx_BadOpenings:IsK K CLS ["BadOpenings"] (.ref (CN.ad "BadOpenings"))
 kx_BadOrder:IsK K CLS ["BadOrder"] (.ref (CN.ad "BadOrder"))
 kx_BadPlan:IsK K CLS ["BadPlan"] (.ref (CN.ad "BadPlan"))
 kx_BadText:IsK K CLS ROWN (.ref (CN.ad "BadText"))
 kx_NoPerson:IsK K CLS ["NoPerson"] (.ref (CN.ad "NoPerson"))
 kv_ValueError:IsK K CLS CLS (.type "ValueError")
 tx_BadOpenings:∀c:Str,(["BadOpenings"]:List Str).contains c=true->PySem.W.kitCls K (.ref (CN.ad c)) (.ref (CN.ad "BadOpenings"))=some true
 tb_BadOpenings:PySem.W.subIn K (.ref (CN.ad "BadOpenings")) (.type "BaseException")=some true
 tx_BoxError:∀c:Str,CLS.contains c=true->PySem.W.kitCls K (.ref (CN.ad c)) (.ref (CN.ad "BoxError"))=some true
 tb_BoxError:PySem.W.subIn K (.ref (CN.ad "BoxError")) (.type "BaseException")=some true
 bt_ex:ExIn K (CN.ad "BadText") bmV "ValueError.__new__"
 bt_fi:BtFi K (CN.ad "BadText") zS5
 bt_kp:PySem.W.keepIn K (.ref (CN.ad "BadText"))=true
 bt_bi:BaseIni K (CN.ad "BoxError")
 bt_rc:RowCls K (CN.ad "BadText")
 ne_BadOpenings:∀c:Str,(["BadOpenings"]:List Str).contains c=true->PySem.Value.ref (CN.ad c) ≠ .ref (CN.ad "BadText")
 rx:∀n,n<16->CN.ad (rowName n)=CN.ad "BadText"
 ek_BadText:PySem.ExK K (CN.ad "BadText")
section
variable [CN] {P:Program}{w:World}{K:KFr}{mg:Str->Option Value}{base:Heap}
theorem hnR(T:Txt K mg):∀r:Int,0<=r/\r<16->CN.ad (NMR r)=CN.ad "BadText"/\∀n,rowOf (NMR r)=some n->(n:Int)=r:=fun r h=>⟨T.rx _ (by rfl'),fun n e=>by rw[cX _ (by rfl')] at e;cases e;rfl'⟩
theorem yK4:yX ["self","row"] ["self","row"] (zR zS5):=by sleep 1
theorem bV(T:Txt K mg){f:Addr}{fd:FuncData}(F:Fun K "__init__" "BadText.__init__" zS5 f fd):FnOk P w K mg base CX0 2 f fd ["self","row"] (spIni (CN.ad "BadText")):=by
 refine F.ok yK4 (fun vs H Q E ⟨e,r,ev,_⟩=>by subst ev;rfl) fun cdv A outer s H vs Q E hr ⟨e,r,ev,hr1,hH,q⟩ => ?_
 subst ev
 refine⟨_,yU (kG (zZ7 rfl T.x_BoxError T.bt_bi (zP (pv 0) (zP (bN (hV (by decide) (by decide) (zC6 (pv 1) (by decide) (hV (by decide) (by decide) (zD5 (by decide)))))) zA)))) (xO (yL3 (pv 0) (pv 1) rfl)),?_⟩
 obtain⟨n,rfl⟩:∃n:Nat,r=(n:Int):=⟨r.toNat,by rfl'⟩
 exact⟨_,rfl,⟨_,rfl,_,rfl,(fT (n:=n) (by rfl')).1,(fT (n:=n) (by rfl')).2,e,_,_,rfl,T.bt_ex,hH,⟨_,rfl,_,rfl,e,_,_,rfl,rfl,hH,T.bt_rc,fun d nd=>q d nd⟩⟩⟩
theorem fG(T:Txt K mg){f:Addr}{fd:FuncData}(F:Fun K "__init__" "BadText.__init__" zS5 f fd):RunM P w K mg base 2 f fd ["self","row"] (spIni (CN.ad "BadText")):=by
 refine F.okM yK4 (fun vs H Q E ⟨e,r,ev,_⟩=>by subst ev;rfl) fun m cdv A outer s H vs Q E ⟨e,r,ev,hr1,hH,q⟩ => ?_
 subst ev
 refine⟨_,yU (kG (zZ7 rfl T.x_BoxError T.bt_bi (zP (pv 0) (zP (bN (hV (by decide) (by decide) (zC6 (pv 1) (by decide) (hV (by decide) (by decide) (zD5 (by decide)))))) zA)))) (xO (yL3 (pv 0) (pv 1) rfl)),?_⟩
 obtain⟨n,rfl⟩:∃n:Nat,r=(n:Int):=⟨r.toNat,by rfl'⟩
 exact⟨_,rfl,⟨_,rfl,_,rfl,(fT (n:=n) (by rfl')).1,(fT (n:=n) (by rfl')).2,e,_,_,rfl,T.bt_ex,hH,⟨_,rfl,_,rfl,e,_,_,rfl,rfl,hH,T.bt_rc,fun d nd=>q d nd⟩⟩⟩
theorem hX:yX ["people","numbers"] ["people","numbers"] (zR qX):=by sleep 1
theorem zW8(T:Txt K mg){f:Addr}{fd:FuncData}(h:Has K mg "made_openings" qX f fd ["people","numbers"]):FnOk P w K mg base (CXV P w) 1 f fd ["people","numbers"] (spX false vD):=by
 refine xZ [] h.F hX fun cdv A outer s H E hr => ?_
 have nd:=hX.nd
 have u:=hr.units
 exact (zV (yO (vT (zF4 yQ4 yQ4 yR4 yR4 zN (zZ 0) (zV1 T.c_MOST_PEOPLE.choose_spec.1 T.c_MOST_PEOPLE.choose_spec.2))) (zQ (vU zK T.ox_BadOpenings T.x_BadOpenings (zS zC zW))) zB) (zV (yO (zG (vS u) uF (zE zI yE T.g_len Av (zS (zZ 1) zW)) (zZ 0)) (zQ (vU zK T.ox_BadOpenings T.x_BadOpenings (zS zC zW))) zB) (zV (yO (RW.rt (rw_or (zG fU fQ (zE (yL6 rfl) xS2 T.g_min Dg (zS (zZ 1) zW)) zN) (rw_or1 (zG kR gE (zE (yH3 rfl) xV1 T.g_max PyProof.Rows.boot_max (zS (zZ 1) zW)) (zZ 0))))) (zQ (vU zK T.ox_BadOpenings T.x_BadOpenings (zS zC zW))) zB) (zQ (yW (xQ yF gZ T.g_tuple (by rfl) (zS (zZ 1) zW)))))))
theorem uB:yX ["openings"] ["openings"] (zR vM):=by sleep 1
theorem uA(T:Txt K mg){f:Addr}{fd:FuncData}(h:Has K mg "openings_of_a_plan" vM f fd ["openings"]):FnOk P w K mg base (CXV P w) 2 f fd ["openings"] (spX false yG):=by
 obtain⟨_,_,h0⟩:=T.d_made_openings
 refine xZ [] h.F uB fun cdv A outer s H E hr => ?_
 have nd:=uB.nd
 have u:=hr.units
 exact (zV (yO (zG kR gE (zE zI yE T.g_len Av (zS (zZ 0) zW)) (zV1 T.c_MOST_IN_A_PLAN.choose_spec.1 T.c_MOST_IN_A_PLAN.choose_spec.2)) (zQ (vU zK T.ox_BadOpenings T.x_BadOpenings (zS zC zW))) zB) (zQ (yW (zD (zW8 T h0) h0 (hr.mono (by decide)) zK (zX (zE zI yE T.g_len Av (zS (zZ 0) zW)) (zX (zZ 0) zW))))))
theorem bQ:yX ["tree","people","left","boxes","names","box","nexts","told","name","coming"] ["tree","people","left","boxes","names"] (zR qA):=by sleep 1
theorem zJ5(T:Txt K mg){f:Addr}{fd:FuncData}(h:Has K mg "made_tree" qA f fd ["tree","people","left","boxes","names"]):∀n,FnOk P w K mg base (CXV P w) (1+n) f fd ["tree","people","left","boxes","names"] (spX false (wW n)):=by
 intro n
 induction n with
 | zero=>exact zS4
 | succ n G_made_tree =>
 have h0:=h
 refine xZ [7] h.F bQ fun cdv A outer s H E hr => ?_
 have nd:=bQ.nd
 have u:=hr.units
 exact (zV (yO (zG aO zV7 (zZ 0) xN) (zQ (yW xN)) zB) (zV (yT 5 nd (xT yA xG (zZ 0) zN)) (zV (yT 6 nd (xT yA xG (zZ 0) zN)) (zV (yO (zG (xM u) vY (zZ 2) zN) (zQ (vU (zK (om:=[7])) T.ox_BadPlan T.x_BadPlan (zS zC zW))) zB) (zV (yO (vT (zF4 yQ4 fU yR4 fQ zN (zZ 5) (zZ 1))) (zQ (vU (zK (om:=[7])) T.ox_BadPlan T.x_BadPlan (zS zC zW))) zB) (zV (yO (zG jR zT6 (zZ 5) (zZ 3)) (zQ (vU (zK (om:=[7])) T.ox_BadPlan T.x_BadPlan (zS zC zW))) zB) (zV (yO (zG (vS u) uF (zE zI yE T.g_len Av (zS (zZ 6) zW)) (zZ 1)) (zQ (vU (zK (om:=[7])) T.ox_BadPlan T.x_BadPlan (zS zC zW))) zB) (zV (fD 7 nd (xY zW)) (zV (xY2 (gR T.g_enumerate (RE.rd (zZ 6))) (jG rfl (xV (yK 8 nd) (xV (yK 9 nd) uC))) (zV (yO (RW.rt (rw_and (zG zN1 zW1 (zZ 9) xN) (rw_and1 (zG jR zT6 (zZ 8) (zZ 4))))) (zQ (vU (zK (om:=[7])) T.ox_BadPlan T.x_BadPlan (zS zC zW))) zB) (zQ (dY 7 Bq Bs vN jT (zX (zD G_made_tree h0 hr (zK (om:=[7])) (zX (zZ 9) (zX (zZ 1) (zX (zL gH aS (zZ 2) zN) (zX (RE.cl (zL xP wO (zZ 3) (xY (zX (zZ 5) zW)))) (zX (RE.cl (zL xP wO (zZ 4) (xY (zX (zZ 8) zW)))) zW)))))) zW)))) Bj) (zQ (yW (wS (zX (zZ 5) (zX (xQ yF gZ T.g_tuple (by rfl) (zS (jJ 7) zW)) zW))))))))))))))
theorem zB2(T:Txt K mg){f:Addr}{fd:FuncData}(h:Has K mg "made_tree" qA f fd ["tree","people","left","boxes","names"]):FnOk P w K mg base (CXV P w) 15 f fd ["tree","people","left","boxes","names"] (spX false vV):=zJ5 T h 14
theorem aQ:yX ["openings","trees","numbers","people"] ["openings","trees"] (zR jV):=by sleep 1
theorem zH3(T:Txt K mg){f:Addr}{fd:FuncData}(h:Has K mg "made_plan" jV f fd ["openings","trees"]):FnOk P w K mg base (CXV P w) 16 f fd ["openings","trees"] (spX false fL):=by
 obtain⟨_,_,h0⟩:=T.d_openings_of_a_plan
 obtain⟨_,_,h1⟩:=T.d_made_tree
 refine xZ [] h.F aQ fun cdv A outer s H E hr => ?_
 have nd:=aQ.nd
 have u:=hr.units
 exact (zV (yT 2 nd (zD (uA T h0) h0 (hr.mono (by decide)) zK (zX (zZ 0) zW))) (zV (yT 3 nd (zE zI yE T.g_len Av (zS (zZ 2) zW))) (zV (yO (zG (vS u) uF (zE zI yE T.g_len Av (zS (zZ 1) zW)) (zZ 3)) (zQ (vU zK T.ox_BadPlan T.x_BadPlan (zS zC zW))) zB) (zQ (yW (xQ yF gZ T.g_tuple (by rfl) (zS (yI8 (sc0:=zR jV) (N0:=["openings","trees","numbers","people"]) (fs:=["people","numbers"]) (js:=[3,2]) zK (by exact⟨rfl,by decide +kernel,by decide +kernel,by decide +kernel,by decide +kernel,by decide +kernel,rfl,by decide +kernel,by decide +kernel⟩) rfl rfl rfl (RIo.c (gR T.g_enumerate (RE.rd (zZ 1)))) (fun _ _ _ _ _ bi=>qK) (fun _ _ _ _ _ bi=>(zD (zB2 T h1) h1 (hr.mono (by decide)) bi (zX (zZ 1) (zX (zZ 2) (zX (xT yA xG (zZ 3) (zZ 0)) (zX (RE.cl (xY zW)) (zX (RE.cl (xY (zX (zZ 0) zW))) zW)))))))) zW)))))))
theorem dH:yX ["word","row"] ["word","row"] (zR kS):=by sleep 1
theorem dO(T:Txt K mg){f:Addr}{fd:FuncData}(h:Has K mg "read_number" kS f fd ["word","row"]):FnOk P w K mg base (CXV P w) 4 f fd ["word","row"] (spX false yZ):=by
 obtain⟨fI,fdI,hfi,hfn,FI,BI⟩:=T.bt_fi
 have GI:FnOk P w K mg base CX0 2 fI fdI ["self","row"] (spIni (CN.ad "BadText")):=bV T FI
 have GM:RunM P w K mg base 2 fI fdI ["self","row"] (spIni (CN.ad "BadText")):=fG T FI
 refine xZ [] h.F dH fun cdv A outer s H E hr => ?_
 have nd:=dH.nd
 have u:=hr.units
 exact (zV (yO (RW.rt (rw_or (vT (vZ (yS9 (zZ 0)))) (rw_or (zG kR gE (zE wU uD T.g_len Av (zS (zZ 0) zW)) (zV1 T.c_MOST_FIGURES.choose_spec.1 T.c_MOST_FIGURES.choose_spec.2)) (rw_or1 (RW.rt (rw_and (vZ (vW Cz CA jE cE (zZ 0) zC)) (rw_and1 (zG (vS u) uF (zZ 0) zC)))))))) (zQ (gB NMR (hnR T) zK T.bt_ex hfi hfn T.bt_kp T.x_BadText GI BI (hr.mono (by decide)) (zS (zZ 1) zW))) zB) (zQ (yW (xQ cD yV4 T.g_int (by rfl) (zS (zZ 0) zW)))))
theorem fZ:yX ["words","row"] ["words","row"] (zR uQ):=by sleep 1
theorem zU7(T:Txt K mg){f:Addr}{fd:FuncData}(h:Has K mg "read_numbers" uQ f fd ["words","row"]):FnOk P w K mg base (CXV P w) 5 f fd ["words","row"] (spX false uV):=by
 obtain⟨_,_,h0⟩:=T.d_read_number
 refine xZ [] h.F fZ fun cdv A outer s H E hr => ?_
 have nd:=fZ.nd
 have u:=hr.units
 exact (zQ (yW (xQ yF gZ T.g_tuple (by rfl) (zS (yG3 (sc0:=zR uQ) (N0:=["words","row"]) (fs:=["row"]) (js:=[1]) zK (by sleep 2) rfl rfl rfl (RI.c (jO (RE.rd (zZ 0)))) (fun _ _ _ _ _ bi=>qK) (fun _ _ _ _ _ bi=>(zD (dO T h0) h0 (hr.mono (by decide)) bi (zX (zZ 0) (zX (zZ 1) zW))))) zW))))
theorem gL:yX ["text","words","numbers"] ["text"] (zR qO):=by sleep 1
theorem zW9(T:Txt K mg){f:Addr}{fd:FuncData}(h:Has K mg "read_openings" qO f fd ["text"]):FnOk P w K mg base (CXV P w) 6 f fd ["text"] (spX false wH):=by
 obtain⟨fI,fdI,hfi,hfn,FI,BI⟩:=T.bt_fi
 have GI:FnOk P w K mg base CX0 2 fI fdI ["self","row"] (spIni (CN.ad "BadText")):=bV T FI
 have GM:RunM P w K mg base 2 fI fdI ["self","row"] (spIni (CN.ad "BadText")):=fG T FI
 obtain⟨_,_,h0⟩:=T.d_read_numbers
 obtain⟨_,_,h1⟩:=T.d_openings_of_a_plan
 refine xZ [] h.F gL fun cdv A outer s H E hr => ?_
 have nd:=gL.nd
 have u:=hr.units
 exact (zV (yT 1 nd (RE.cl (vW Cr Cs cU cG (zZ 0) zC))) (zV (yO (zG (vS u) uF (xT yA xG (zZ 1) zN) zC) (zQ (gB NMR (hnR T) zK T.bt_ex hfi hfn T.bt_kp T.x_BadText GI BI (hr.mono (by decide)) (zS zN zW))) zB) (zV (yT 2 nd (zD (zU7 T h0) h0 (hr.mono (by decide)) zK (zX (gD (zZ 1) (yR zN) yD) (zX zN zW)))) (zQ (xX8 ["BadOpenings"] (NMR 1) (hnR T 1 (by decide)).1 (hnR T 1 (by decide)).2 (fun _ _ _ zK=>(zQ (yW (zD (uA T h1) h1 (hr.mono (by decide)) zK (zX (zZ 2) zW))))) T.tx_BadOpenings T.tb_BadOpenings T.x_BadOpenings T.ne_BadOpenings zK T.bt_ex hfi T.bt_kp hfn T.x_BadText GM BI (hr.mono (by decide)))))))
theorem fF:yX ["text","sign","row"] ["text","sign","row"] (zR kY):=by sleep 1
theorem uW(T:Txt K mg){f:Addr}{fd:FuncData}(h:Has K mg "behind_sign" kY f fd ["text","sign","row"]):FnOk P w K mg base (CXV P w) 4 f fd ["text","sign","row"] (spX false yQ):=by
 obtain⟨fI,fdI,hfi,hfn,FI,BI⟩:=T.bt_fi
 have GI:FnOk P w K mg base CX0 2 fI fdI ["self","row"] (spIni (CN.ad "BadText")):=bV T FI
 have GM:RunM P w K mg base 2 fI fdI ["self","row"] (spIni (CN.ad "BadText")):=fG T FI
 refine xZ [] h.F fF fun cdv A outer s H E hr => ?_
 have nd:=fF.nd
 have u:=hr.units
 exact (zV (yO (vT (vZ (vW Cz CA jE cE (zZ 0) (zZ 1)))) (zQ (gB NMR (hnR T) zK T.bt_ex hfi hfn T.bt_kp T.x_BadText GI BI (hr.mono (by decide)) (zS (zZ 2) zW))) zB) (zQ (yW (wR (zZ 0) (yR (zE wU uD T.g_len Av (zS (zZ 1) zW))) yD))))
theorem bE:yX ["text","people","row","begun","rest","parts","tree","around"] ["text","people","row"] (zR jZ):=by sleep 1
theorem zI6(T:Txt K mg){f:Addr}{fd:FuncData}(h:Has K mg "read_tree" jZ f fd ["text","people","row"]):FnOk P w K mg base (CXV P w) 5 f fd ["text","people","row"] (spX false jW):=by
 obtain⟨fI,fdI,hfi,hfn,FI,BI⟩:=T.bt_fi
 have GI:FnOk P w K mg base CX0 2 fI fdI ["self","row"] (spIni (CN.ad "BadText")):=bV T FI
 have GM:RunM P w K mg base 2 fI fdI ["self","row"] (spIni (CN.ad "BadText")):=fG T FI
 obtain⟨_,_,h0⟩:=T.d_read_number
 obtain⟨_,_,h1⟩:=T.d_behind_sign
 refine (X.xI1 yZ yQ NMR) h.F bE rfl rfl fun cdv A outer s H E hr => ?_
 have nd:=bE.nd
 exact (yU (xS (i:=3) nd rfl (by sleep 3) (qY zA)) (yU (xS (i:=4) nd rfl (by sleep 3) (pv 0)) (xO (kA Bj (zB5 yA5) (yU (kA Bj (yJ9 (zB5 (cQ Cq Cz CA jE (pv 4) (zP gM zA)))) (yU (xS (i:=5) nd rfl (by sleep 3) (cQ Cq PySem.F.slot_str_partition PySem.F.type_str_partition zE6 (pv 4) (zP gM zA))) (yU (kG (cQ BX Bq Bs vN (pv 3) (zP (gX (zP (uS (dO T h0) (hr.mono (by decide)) rfl h0.m h0.F.kp h0.b .nil (passX zK) (zP (vE uM (pv 5) xX (fun _ _=>rfl)) (zP (pv 2) zA))) (zP (qY zA) zA))) zA))) (xO (xS (i:=4) nd rfl (by sleep 3) (vE uM (pv 5) xX (fun _ _=>rfl))))))) (yU (xS (i:=4) nd rfl (by sleep 3) (uS (uW T h1) (hr.mono (by decide)) rfl h1.m h1.F.kp h1.b .nil (passX zK) (zP (pv 4) (zP gM (zP (pv 2) zA))))) (yU (xS (i:=6) nd rfl (by sleep 3) aY) (yU (kA Bj (PW.pt (pw_and (uR kR (vL zI rfl T.g_len Av (zP (pv 3) zA)) xX (nomark _)) (pw_and1 (uR (xM hr.units) (vL zI rfl T.g_len Av (zP (vE uM (vE dU (pv 3) (yS7 zF3 xX) (fun _ _=>rfl)) xX (fun _ _=>rfl)) zA)) (uH gH (pv 1) xX) (nomark _))))) (yU (xS (i:=4) nd rfl (by sleep 3) (uS (uW T h1) (hr.mono (by decide)) rfl h1.m h1.F.kp h1.b .nil (passX zK) (zP (pv 4) (zP gM (zP (pv 2) zA))))) (yU (xS (i:=7) nd rfl (by sleep 3) (yL8 BX PySem.F.slot_list_pop PySem.F.type_list_pop xP2 (pv 3))) (xO (xS (i:=6) nd rfl (by sleep 3) (gX (zP (vE uM (pv 7) xX (fun _ _=>rfl)) (zP (jI yF rfl T.g_tuple (by rfl) (zP (uH xP (vE uM (pv 7) xX (fun _ _=>rfl)) (qY (zP (pv 6) zA))) zA)) zA)))))))) (yU (zZ3 (uR (xM hr.units) (vL zI rfl T.g_len Av (zP (pv 3) zA)) xX (nomark _)) (yU (zZ3 (uR (vS hr.units) (pv 4) gM (nomark _)) (xO (zM4 (C:=bodyX P w K mg base ["text","people","row","begun","rest","parts","tree","around"] "read_tree" (zR jZ) f cdv A outer s H E []) NMR (hnR T) zK T.bt_ex hfi hfn T.bt_kp T.x_BadText GI BI (hr.mono (by decide)) (zP (pv 2) zA))) kI) (xO (qV (pv 6)))) kI) (yU (xS (i:=4) nd rfl (by sleep 3) (uS (uW T h1) (hr.mono (by decide)) rfl h1.m h1.F.kp h1.b .nil (passX zK) (zP (pv 4) (zP gM (zP (pv 2) zA))))) (xO (kG (cQ BX Bq Bs vN (vE uM (vE dU (pv 3) (yS7 zF3 xX) (fun _ _=>rfl)) xX (fun _ _=>rfl)) (zP (pv 6) zA))))))))))))))
theorem dE:yX ["text","person","people","row"] ["text","person","people"] (zR kW):=by sleep 1
theorem zO2(T:Txt K mg){f:Addr}{fd:FuncData}(h:Has K mg "read_person" kW f fd ["text","person","people"]):FnOk P w K mg base (CXV P w) 6 f fd ["text","person","people"] (spX false wK):=by
 obtain⟨_,_,h0⟩:=T.d_read_tree
 obtain⟨_,_,h1⟩:=T.d_behind_sign
 refine xZ [] h.F dE fun cdv A outer s H E hr => ?_
 have nd:=dE.nd
 have u:=hr.units
 exact (zV (yT 3 nd (zL yJ yH (zZ 1) zN)) (zQ (yW (zD (zI6 T h0) h0 (hr.mono (by decide)) zK (zX (zD (uW T h1) h1 (hr.mono (by decide)) zK (zX (zZ 0) (zX (yO6 (zH5 (xM2 (zZ 1) (zH5 xQ8)))) (zX (zZ 3) zW)))) (zX (zZ 2) (zX (zZ 3) zW)))))))
theorem bS:yX ["text","rows","openings","people","trees"] ["text"] (zR qB):=by sleep 1
theorem zG5(T:Txt K mg){f:Addr}{fd:FuncData}(h:Has K mg "read_plan" qB f fd ["text"]):FnOk P w K mg base (CXV P w) 17 f fd ["text"] (spX false wY):=by
 obtain⟨fI,fdI,hfi,hfn,FI,BI⟩:=T.bt_fi
 have GI:FnOk P w K mg base CX0 2 fI fdI ["self","row"] (spIni (CN.ad "BadText")):=bV T FI
 have GM:RunM P w K mg base 2 fI fdI ["self","row"] (spIni (CN.ad "BadText")):=fG T FI
 obtain⟨_,_,h0⟩:=T.d_read_openings
 obtain⟨_,_,h1⟩:=T.d_read_person
 obtain⟨_,_,h2⟩:=T.d_made_plan
 refine xZ [] h.F bS fun cdv A outer s H E hr => ?_
 have nd:=bS.nd
 have u:=hr.units
 exact (zV (yT 1 nd (RE.cl (vW Cr Cs cU cG (zZ 0) zC))) (zV (yT 2 nd (zD (zW9 T h0) h0 (hr.mono (by decide)) zK (zX (xT yA xG (zZ 1) zN) zW))) (zV (yT 3 nd (zE zI yE T.g_len Av (zS (zZ 2) zW))) (zV (yI3 4 nd (sc0:=zR qB) (N0:=["text","rows","openings","people","trees"]) (fs:=["people"]) (js:=[3]) zK (by exact⟨rfl,by decide +kernel,by decide +kernel,by decide +kernel,by decide +kernel,by decide +kernel,rfl,by decide +kernel,by decide +kernel⟩) rfl rfl rfl (RIo.c (gR T.g_enumerate (RE.rd (gD (zZ 1) (yR zN) (yR (zL yJ yH (zZ 3) zN)))))) (fun _ _ _ _ _ bi=>qK) (fun _ _ _ _ _ bi=>(zD (zO2 T h1) h1 (hr.mono (by decide)) bi (zX (zZ 1) (zX (zZ 0) (zX (zZ 2) zW)))))) (zV (yO (zG (vS u) uF (zE zI yE T.g_len Av (zS (zZ 1) zW)) (zL yJ yH (zZ 3) zN)) (zQ (gB NMR (hnR T) zK T.bt_ex hfi hfn T.bt_kp T.x_BadText GI BI (hr.mono (by decide)) (zS (zL yJ yH (zE (zN4 rfl) xU3 T.g_min Dg (zS (zE zI yE T.g_len Av (zS (zZ 1) zW)) (zS (zL yJ yH (zZ 3) zN) zW))) zN) zW))) zB) (zQ (yW (wS (zX (zZ 2) (zX (zD (zH3 T h2) h2 (hr.mono (by decide)) zK (zX (zZ 2) (zX (zZ 4) zW))) zW))))))))))
theorem bP:yX ["script","k"] ["script","k"] (zR fM):=by sleep 1
theorem zF2(T:Txt K mg){f:Addr}{fd:FuncData}(h:Has K mg "_law_cell_at" fM f fd ["script","k"]):FnOk P w K mg base (CXV P w) 1 f fd ["script","k"] (spX false jY):=by
 refine xZ [] h.F bP fun cdv A outer s H E hr => ?_
 have nd:=bP.nd
 have u:=hr.units
 exact (zV (yO (zG fU fQ (zZ 1) (zE zI yE T.g_len Av (zS (zZ 0) zW))) (zQ (yW (xT yA xG (zZ 0) (zZ 1)))) zB) (zQ (yW zN)))
theorem zU6:yX ["found"] ["found"] (zR bF):=by sleep 1
theorem yT3(T:Txt K mg){f:Addr}{fd:FuncData}(h:Has K mg "_law_whole" bF f fd ["found"]):FnOk P w K mg base (CXV P w) 1 f fd ["found"] (spX false aV):=by
 refine xZ [] h.F zU6 fun cdv A outer s H E hr => ?_
 have nd:=zU6.nd
 have u:=hr.units
 exact (zQ (yW (zS8 (yQ8 T.k_int T.g_isinstance T.g_int (by decide +kernel) (zZ 0)) (zS6 (yN4 (yQ8 T.k_bool T.g_isinstance T.g_bool (by decide +kernel) (zZ 0)))))))
theorem zB4:yX ["script","total","cell"] ["script"] (zR zP6):=by sleep 1
theorem yE1(T:Txt K mg){f:Addr}{fd:FuncData}(h:Has K mg "_law_all" zP6 f fd ["script"]):FnOk P w K mg base (CXV P w) 1 f fd ["script"] (spX false zQ5):=by
 refine xZ [] h.F zB4 fun cdv A outer s H E hr => ?_
 have nd:=zB4.nd
 have u:=hr.units
 exact (zV (yT 1 nd zN) (zV (jK (jO (RE.rd (zZ 0))) (yK 2 nd) (zQ (yT 1 nd (zL yJ yH (zL xW5 xL1 (zZ 1) zN) (zZ 2)))) Bj) (zQ (yW (zZ 1)))))
theorem zV9:yX ["digits","most","found"] ["digits","most"] (zR cA):=by sleep 1
theorem zZ9(T:Txt K mg){f:Addr}{fd:FuncData}(h:Has K mg "_law_taken" cA f fd ["digits","most"]):FnOk P w K mg base CX0 1 f fd ["digits","most"] spTake:=by
 refine xY9 h.F zV9 rfl rfl fun cdv A outer s H E hr => ?_
 have nd:=zV9.nd
 exact (yU (xS (i:=2) nd rfl (by sleep 3) (uH qU (vE dU (pv 0) xX (fun _ _=>rfl)) (pv 1))) (yU (yH5 (uH vC (vE dU (pv 0) xX (fun _ _=>rfl)) (pv 1)) (xM4 (pv 0) xX yE6)) (xO (qV (pv 2)))))
theorem zK8:yX ["digits","person","people","way","left","drawn","boxes","names","nexts","name","tree"] ["digits","person","people","way","left"] (zR qM):=by sleep 1
theorem yS5(T:Txt K mg){f:Addr}{fd:FuncData}(h:Has K mg "_law_tree" qM f fd ["digits","person","people","way","left"]):∀n,FnOk P w K mg base CX0 (2+n) f fd ["digits","person","people","way","left"] (spH n):=by
 intro n
 induction n with
 | zero=>exact yE9
 | succ n G_l_tree =>
 have h0:=h
 obtain⟨_,_,h1⟩:=T.d_l_taken
 refine yA2 h.F zK8 rfl rfl fun cdv A outer s H E hr => ?_
 have nd:=zK8.nd
 exact (yU (zZ3 (uR (xM hr.units) (pv 4) xX (nomark _)) (xO (qV aY)) kI) (yU (xS (i:=5) nd rfl (by sleep 3) (uS (zZ9 T h1) (hr.mono (AJ (by decide) (Nat.le_add_right _ _))) rfl h1.m h1.F.kp h1.b .nil pass0 (zP (pv 0) (zP (uH yJ (pv 2) xX) zA)))) (yU (zZ3 (uR (xM hr.units) (pv 5) (pv 2) (nomark _)) (xO (qV aY)) kI) (yU (zA6 (i:=6) (sc0:=zR qM) (N0:=["digits","person","people","way","left","drawn","boxes","names","nexts","name","tree"]) (fs:=[]) (js:=[]) (by sleep 2) rfl rfl rfl (yW3 (pv 3)) (fun _ _ _ _=>.nil) (fun _ _ _ _=>(vE uM (pv 0) xX (fun _ _=>rfl))) nd rfl (by sleep 3) rfl (by intro _;rfl) (by first | exact .inl rfl | exact .inr rfl)) (yU (kA PassesOwn.never (uR jR (pv 5) (pv 6) rfl) (xO (xS (i:=5) nd rfl (by sleep 3) (uH qU (uH yJ (pv 5) xX) (pv 2))))) (yU (xS (i:=7) nd rfl (by sleep 3) (uH xP (qY (zP (pv 1) zA)) (zP7 (sc0:=zR qM) (N0:=["digits","person","people","way","left","drawn","boxes","names","nexts","name","tree"]) (fs:=[]) (js:=[]) (by sleep 2) rfl rfl rfl (yW3 (pv 3)) (fun _ _ _ _=>.nil) (fun _ _ _ _=>(vE uM (pv 0) xX (fun _ _=>rfl)))))) (yU (xS (i:=8) nd rfl (by sleep 3) (qY zA)) (yU (zE2 PassesOwn.never rfl (fR rfl T.g_range (zP (pv 2) zA)) (kM (i:=9) nd rfl (by sleep 3)) (yU (xS (i:=10) nd rfl (by sleep 3) aY) (yU (zZ3 (uR bI (pv 9) (pv 7) rfl) (xO (xS (i:=10) nd rfl (by sleep 3) (uS G_l_tree hr rfl h0.m h0.F.kp h0.b .nil pass0 (zP (pv 0) (zP (pv 1) (zP (pv 2) (zP (uH xP (pv 3) (qY (zP (gX (zP (pv 5) (zP (pv 9) zA))) zA))) (zP (uH gH (pv 4) xX) zA)))))))) kI) (xO (kG (cQ BX Bq Bs vN (pv 8) (zP (pv 10) zA))))))) (xO (qV (gX (zP (pv 5) (zP (jI yF rfl T.g_tuple (by rfl) (zP (pv 8) zA)) zA)))))))))))))
theorem yQ5(T:Txt K mg){f:Addr}{fd:FuncData}(h:Has K mg "_law_tree" qM f fd ["digits","person","people","way","left"]):FnOk P w K mg base CX0 16 f fd ["digits","person","people","way","left"] (spH 14):=yS5 T h 14
theorem zL7:yX ["cell","people","most","digits","openings","trees"] ["cell","people","most"] (zR qL):=by sleep 1
theorem yR3(T:Txt K mg){f:Addr}{fd:FuncData}(h:Has K mg "_law_plan" qL f fd ["cell","people","most"]):FnOk P w K mg base CX0 17 f fd ["cell","people","most"] (spF false gW):=by
 obtain⟨_,_,h0⟩:=T.d_l_taken
 obtain⟨_,_,h1⟩:=T.d_l_tree
 refine (yC5 (k:=14) (by decide)) h.F zL7 rfl rfl fun cdv A outer s H E hr => ?_
 have nd:=zL7.nd
 exact (yU (xS (i:=3) nd rfl (by sleep 3) (qY (zP (pv 0) zA))) (yU (xS (i:=4) nd rfl (by sleep 3) (jI yF rfl T.g_tuple (by rfl) (zP (zP7 (sc0:=zR qL) (N0:=["cell","people","most","digits","openings","trees"]) (fs:=["most","digits","people"]) (js:=[2,3,1]) (by sleep 2) rfl rfl rfl (fR rfl T.g_range (zP (pv 1) zA)) (fun _ _ _ _=>.nil) (fun _ _ _ _=>(vL (zN4 rfl) rfl T.g_min Dg (zP (pv 1) (zP (uS (zZ9 T h0) (hr.mono (by decide)) rfl h0.m h0.F.kp h0.b .nil pass0 (zP (pv 2) (zP (uH yJ (pv 3) xX) zA))) zA))))) zA))) (yU (zA6 (i:=5) (sc0:=zR qL) (N0:=["cell","people","most","digits","openings","trees"]) (fs:=["digits","people","openings"]) (js:=[3,1,4]) (by sleep 2) rfl rfl rfl (fR rfl T.g_range (zP (pv 1) zA)) (fun _ _ _ _=>.nil) (fun _ _ _ _=>(uS (yQ5 T h1) (hr.mono (by decide)) rfl h1.m h1.F.kp h1.b .nil pass0 (zP (pv 1) (zP (pv 0) (zP (pv 2) (zP (qY zA) (zP (vE uM (pv 3) (pv 0) (fun _ _=>rfl)) zA))))))) nd rfl (by sleep 3) rfl (by intro _;rfl) (by first | exact .inl rfl | exact .inr rfl)) (xO (qV (gX (zP (pv 4) (zP (jI yF rfl T.g_tuple (by rfl) (zP (pv 5) zA)) zA))))))))
theorem yL9(T:Txt K mg){f:Addr}{fd:FuncData}(h:Has K mg "_law_plan" qL f fd ["cell","people","most"]):FnOk P w K mg base (CXV P w) 17 f fd ["cell","people","most"] (spX false gW):=xN3 (fun _ _=>xZ4) (yR3 T h)
theorem dR:yX ["tree"] ["tree"] (zR vJ):=by sleep 1
theorem zT2(T:Txt K mg){f:Addr}{fd:FuncData}(h:Has K mg "_law_tree_text" vJ f fd ["tree"]):∀n,FnOk P w K mg base (CXV P w) (1+n) f fd ["tree"] (spX false (xD n)):=by
 intro n
 induction n with
 | zero=>exact zS4
 | succ n G_l_tree_text =>
 have h0:=h
 refine xZ [] h.F dR fun cdv A outer s H E hr => ?_
 have nd:=dR.nd
 have u:=hr.units
 exact (zV (yO (zG aO zV7 (zZ 0) xN) (zQ (yW zC)) zB) (zQ (yW (zL yP yC (zL yP yC (zL yP yC (xQ qQ zS9 T.g_str (by rfl) (zS (xT yA xG (zZ 0) zN) zW)) zC) (vW Dh Di zP2 zO9 zC (aD (sc0:=zR vJ) (N0:=["tree"]) (fs:=[]) (js:=[]) (by sleep 2) rfl rfl rfl (RI.c (jO (RE.rd (xT yA xG (zZ 0) zN)))) (fun _ _ _ _=>qK) (fun _ _ _ _=>(zD G_l_tree_text h0 hr (xK7 fun _ _ h=>h) (zX (zZ 0) zW)))))) zC))))
theorem zQ9(T:Txt K mg){f:Addr}{fd:FuncData}(h:Has K mg "_law_tree_text" vJ f fd ["tree"]):FnOk P w K mg base (CXV P w) 15 f fd ["tree"] (spX false jA):=zT2 T h 14
theorem dM:yX ["openings","plan","rows","person"] ["openings","plan"] (zR uE):=by sleep 1
theorem zQ4(T:Txt K mg){f:Addr}{fd:FuncData}(h:Has K mg "_law_plan_rows" uE f fd ["openings","plan"]):FnOk P w K mg base (CXV P w) 16 f fd ["openings","plan"] (spX true kZ):=by
 obtain⟨_,_,h0⟩:=T.d_l_tree_text
 refine xZ [2] h.F dM fun cdv A outer s H E hr => ?_
 have nd:=dM.nd
 have u:=hr.units
 exact (zV (fD 2 nd (xY (zX (zL yP yC zC (vW Dh Di zP2 zO9 zC (aD (sc0:=zR uE) (N0:=["openings","plan","rows","person"]) (fs:=[]) (js:=[]) (by sleep 2) rfl rfl rfl (RI.c (jO (RE.rd (zZ 0)))) (fun _ _ _ _=>qK) (fun _ _ _ _=>(xQ qQ zS9 T.g_str (by rfl) (zS (zZ 0) zW)))))) zW))) (zV (jK (gC T.g_range (zS (zE zI yE T.g_len Av (zS (zZ 1) zW)) zW)) (yK 3 nd) (zQ (dY 2 Bq Bs vN jT (zX (zL yP yC (zL yP yC (zL yP yC zC (xQ qQ zS9 T.g_str (by rfl) (zS (zZ 3) zW))) zC) (zD (zQ9 T h0) h0 (hr.mono (by decide)) (zK (om:=[2])) (zX (xT yA xG (zZ 1) (zZ 3)) zW))) zW))) Bj) (zQ (xX7 2))))
theorem dZ:yX ["text","at","end"] ["text","at"] (zR kU):=by sleep 1
theorem fA(T:Txt K mg){f:Addr}{fd:FuncData}(h:Has K mg "_law_number_at" kU f fd ["text","at"]):FnOk P w K mg base (CXV P w) 1 f fd ["text","at"] (spX false xU):=by
 refine xZ [] h.F dZ fun cdv A outer s H E hr => ?_
 have nd:=dZ.nd
 have u:=hr.units
 exact (zV (yT 2 nd (zZ 1)) (zV (yE2 1000000 (RW.rt (rw_and (zG fU fQ (zZ 2) (zE wU uD T.g_len Av (zS (zZ 0) zW))) (rw_and1 (zG yI9 xQ2 (xT zS2 zH9 (zZ 0) (zZ 2)) zC)))) (zQ (yT 2 nd (zL yJ yH (zZ 2) zN))) Bj) (zV (yO (RW.rt (rw_or (zG (xM u) vY (zZ 2) (zZ 1)) (rw_or1 (RW.rt (rw_and (zG (xM u) vY (xT zS2 zH9 (zZ 0) (zZ 1)) zC) (rw_and1 (zG kR gE (zZ 2) (zL yJ yH (zZ 1) zN)))))))) (zQ (yW (wS (zX (xR1 zN) (zX (zZ 1) zW))))) zB) (zQ (yW (wS (zX (xQ cD yV4 T.g_int (by rfl) (zS (wR (zZ 0) (yR (zZ 1)) (yR (zZ 2))) zW)) (zX (zZ 2) zW))))))))
theorem bY:yX ["text","at","people","box","nexts","k","part"] ["text","at","people"] (zR jX):=by sleep 1
theorem zJ2(T:Txt K mg){f:Addr}{fd:FuncData}(h:Has K mg "_law_tree_at" jX f fd ["text","at","people"]):∀n,FnOk P w K mg base (CXV P w) (2+n) f fd ["text","at","people"] (spX false (yM n)):=by
 intro n
 induction n with
 | zero=>exact zS4
 | succ n G_l_tree_at =>
 have h0:=h
 obtain⟨_,_,h1⟩:=T.d_l_number_at
 refine xZ [4] h.F bY fun cdv A outer s H E hr => ?_
 have nd:=bY.nd
 have u:=hr.units
 exact (zV (yO (zG (xM u) vY (wR (zZ 0) (yR (zZ 1)) (yR (zL yJ yH (zZ 1) zN))) zC) (zQ (yW (wS (zX xN (zX (zL yJ yH (zZ 1) zN) zW))))) zB) (zV (qC (zD (fA T h1) h1 (hr.mono (AJ (by decide) (Nat.le_add_right _ _))) (zK (om:=[4])) (zX (zZ 0) (zX (zZ 1) zW))) (jG rfl (xV (yK 3 nd) (xV (yK 1 nd) uC)))) (zV (yO (RW.rt (rw_or (zG fU fQ (zZ 3) zN) (rw_or1 (zG (vS u) uF (wR (zZ 0) (yR (zZ 1)) (yR (zL yJ yH (zZ 1) zN))) zC)))) (zQ (yW (wS (zX zC (zX zN zW))))) zB) (zV (fD 4 nd (xY zW)) (zV (jK (gC T.g_range (zS (zZ 2) zW)) (yK 5 nd) (zV (qC (zD G_l_tree_at h0 hr (zK (om:=[4])) (zX (zZ 0) (zX (zL yJ yH (zZ 1) zN) (zX (zZ 2) zW)))) (jG rfl (xV (yK 6 nd) (xV (yK 1 nd) uC)))) (zV (yO (RW.rt (rw_or (zG (xM u) vY (zZ 6) zC) (rw_or1 (zG (vS u) uF (wR (zZ 0) (yR (zZ 1)) (yR (zL yJ yH (zZ 1) zN))) (xT yA xG (xY (zX zC (zX zC zW))) (xQ yP4 xY1 T.g_int (by rfl) (zS (zR7 (xM u) vY (zZ 5) (zL gH aS (zZ 2) zN)) zW))))))) (zQ (yW (wS (zX zC (zX zN zW))))) zB) (zQ (dY 4 Bq Bs vN jT (zX (zZ 6) zW))))) Bj) (zQ (yW (wS (zX (wS (zX (zZ 3) (zX (xQ yF gZ T.g_tuple (by rfl) (zS (jJ 4) zW)) zW))) (zX (zL yJ yH (zZ 1) zN) zW))))))))))
theorem zF7(T:Txt K mg){f:Addr}{fd:FuncData}(h:Has K mg "_law_tree_at" jX f fd ["text","at","people"]):FnOk P w K mg base (CXV P w) 26 f fd ["text","at","people"] (spX false vG):=zJ2 T h 24
theorem kC:yX ["row","words","numbers","word","number","end"] ["row"] (zR qS):=by sleep 1
theorem zW4(T:Txt K mg){f:Addr}{fd:FuncData}(h:Has K mg "_law_openings_of" qS f fd ["row"]):FnOk P w K mg base (CXV P w) 2 f fd ["row"] (spX false wF):=by
 obtain⟨_,_,h0⟩:=T.d_l_number_at
 refine xZ [2] h.F kC fun cdv A outer s H E hr => ?_
 have nd:=kC.nd
 have u:=hr.units
 exact (zV (yT 1 nd (RE.cl (vW Cr Cs cU cG (zZ 0) zC))) (zV (yO (RW.rt (rw_or (zG (vS u) uF (xT yA xG (zZ 1) zN) zC) (rw_or (zG fU fQ (zE zI yE T.g_len Av (zS (zZ 1) zW)) zN) (rw_or1 (zG kR gE (zE zI yE T.g_len Av (zS (zZ 1) zW)) zN))))) (zQ (yW xN)) zB) (zV (fD 2 nd (xY zW)) (zV (jK (jO (RE.rd (gD (zZ 1) (yR zN) yD))) (yK 3 nd) (zV (qC (zD (fA T h0) h0 (hr.mono (by decide)) (zK (om:=[2])) (zX (zZ 3) (zX zN zW))) (jG rfl (xV (yK 4 nd) (xV (yK 5 nd) uC)))) (zV (yO (RW.rt (rw_or (zG fU fQ (zZ 4) zN) (rw_or (zG (vS u) uF (zZ 5) (zE wU uD T.g_len Av (zS (zZ 3) zW))) (rw_or1 (zG kR gE (zZ 4) (zL gH aS (zE zI yE T.g_len Av (zS (zZ 1) zW)) zN)))))) (zQ (yW xN)) zB) (zQ (dY 2 Bq Bs vN jT (zX (zZ 4) zW))))) Bj) (zQ (yW (xQ yF gZ T.g_tuple (by rfl) (zS (jJ 2) zW))))))))
theorem fX:yX ["tree","person","people","way","left","box","nexts","names","name","ahead"] ["tree","person","people","way","left"] (zR wQ):=by sleep 1
theorem zW6(T:Txt K mg){f:Addr}{fd:FuncData}(h:Has K mg "_law_plan_right" wQ f fd ["tree","person","people","way","left"]):∀n,FnOk P w K mg base (CXV P w) (1+n) f fd ["tree","person","people","way","left"] (spX false (xI n)):=by
 intro n
 induction n with
 | zero=>exact zS4
 | succ n G_l_plan_right =>
 have h0:=h
 refine xZ [] h.F fX fun cdv A outer s H E hr => ?_
 have nd:=fX.nd
 have u:=hr.units
 exact (zV (yO (zG aO zV7 (zZ 0) xN) (zQ (yW jU)) zB) (zV (qC (zZ 0) (jG rfl (xV (yK 5 nd) (xV (yK 6 nd) uC)))) (zV (yO (RW.rt (rw_or (zG (xM u) vY (zZ 4) zN) (rw_or (zG xK4 xL9 (zZ 5) (zZ 2)) (rw_or1 (zG jR zT6 (zZ 5) (aD (sc0:=zR wQ) (N0:=["tree","person","people","way","left","box","nexts","names","name","ahead"]) (fs:=[]) (js:=[]) (by sleep 2) rfl rfl rfl (RI.c (jO (RE.rd (zZ 3)))) (fun _ _ _ _=>qK) (fun _ _ _ _=>(xT yA xG (zZ 0) zN)))))))) (zQ (yW jU)) zB) (zV (yT 7 nd (RE.cl (zL xP wO (xY (zX (zZ 1) zW)) (aD (sc0:=zR wQ) (N0:=["tree","person","people","way","left","box","nexts","names","name","ahead"]) (fs:=[]) (js:=[]) (by sleep 2) rfl rfl rfl (RI.c (jO (RE.rd (zZ 3)))) (fun _ _ _ _=>qK) (fun _ _ _ _=>(xT yA xG (zZ 0) zN)))))) (zV (jK (gC T.g_range (zS (zZ 2) zW)) (yK 8 nd) (zV (yO (RW.rt (rw_and (zG jR zT6 (zZ 8) (zZ 7)) (rw_and1 (zG zN1 zW1 (xT yA xG (zZ 6) (zZ 8)) xN)))) (zQ (yW jU)) zB) (zV (yT 9 nd (RE.cl (zL xP wO (zZ 3) (xY (zX (wS (zX (zZ 5) (zX (zZ 8) zW))) zW))))) (zQ (yO (RW.rt (rw_and (zG bI zT6 (zZ 8) (zZ 7)) (rw_and1 (vT (vZ (zD G_l_plan_right h0 hr zK (zX (xT yA xG (zZ 6) (zZ 8)) (zX (zZ 1) (zX (zZ 2) (zX (zZ 9) (zX (zL gH aS (zZ 4) zN) zW))))))))))) (zQ (yW jU)) zB)))) Bj) (zQ (yW jU)))))))
theorem zR3(T:Txt K mg){f:Addr}{fd:FuncData}(h:Has K mg "_law_plan_right" wQ f fd ["tree","person","people","way","left"]):FnOk P w K mg base (CXV P w) 15 f fd ["tree","person","people","way","left"] (spX false qG):=zW6 T h 14
theorem zC2:yX ["rows","openings","trees","k","head","tree","end","person"] ["rows"] (zR zQ6):=by sleep 1
theorem yG7(T:Txt K mg){f:Addr}{fd:FuncData}(h:Has K mg "_law_due" zQ6 f fd ["rows"]):FnOk P w K mg base (CXV P w) 27 f fd ["rows"] (spX false kL):=by
 obtain⟨_,_,h0⟩:=T.d_l_openings_of
 obtain⟨_,_,h1⟩:=T.d_l_tree_at
 obtain⟨_,_,h2⟩:=T.d_l_plan_right
 refine xZ [2] h.F zC2 fun cdv A outer s H E hr => ?_
 have nd:=zC2.nd
 have u:=hr.units
 exact (zV (yT 1 nd (zD (zW4 T h0) h0 (hr.mono (by decide)) (zK (om:=[2])) (zX (xT yA xG (zZ 0) zN) zW))) (zV (yO (zG aO zV7 (zZ 1) xN) (zQ (yW (wS (zX zN (zX xN (zX xN zW)))))) zB) (zV (fD 2 nd (xY zW)) (zV (jK (yH6 T.g_range (zS zN (zS (zE zI yE T.g_len Av (zS (zZ 0) zW)) zW))) (yK 3 nd) (zV (yT 4 nd (zL yP yC (zL yP yC zC (xQ qQ zS9 T.g_str (by rfl) (zS (zL gH aS (zZ 3) zN) zW))) zC)) (zV (qC (zD (zF7 T h1) h1 (hr.mono (by decide)) (zK (om:=[2])) (zX (xT yA xG (zZ 0) (zZ 3)) (zX (zE wU uD T.g_len Av (zS (zZ 4) zW)) (zX (zE zI yE T.g_len Av (zS (zZ 1) zW)) zW)))) (jG rfl (xV (yK 5 nd) (xV (yK 6 nd) uC)))) (zV (yO (RW.rt (rw_or (zG kR gE (zZ 3) (zE zI yE T.g_len Av (zS (zZ 1) zW))) (rw_or (zG (vS u) uF (wR (xT yA xG (zZ 0) (zZ 3)) yD (yR (zE wU uD T.g_len Av (zS (zZ 4) zW)))) (zZ 4)) (rw_or (zG (xM u) vY (zZ 5) zC) (rw_or1 (zG (vS u) uF (zZ 6) (zE wU uD T.g_len Av (zS (xT yA xG (zZ 0) (zZ 3)) zW)))))))) (zQ (yW (wS (zX (zL yJ yH (zZ 3) zN) (zX xN (zX xN zW)))))) zB) (zQ (dY 2 Bq Bs vN jT (zX (zZ 5) zW)))))) Bj) (zV (yO (zG fU fQ (zE zI yE T.g_len Av (zS (jJ 2) zW)) (zE zI yE T.g_len Av (zS (zZ 1) zW))) (zQ (yW (wS (zX (zL yJ yH (zE zI yE T.g_len Av (zS (zZ 0) zW)) zN) (zX xN (zX xN zW)))))) zB) (zV (jK (gC T.g_range (zS (zE zI yE T.g_len Av (zS (jJ 2) zW)) zW)) (yK 7 nd) (zQ (yO (vT (vZ (zD (zR3 T h2) h2 (hr.mono (by decide)) (zK (om:=[2])) (zX (xT yA xG (jJ 2) (zZ 7)) (zX (zZ 7) (zX (zE zI yE T.g_len Av (zS (jJ 2) zW)) (zX (RE.cl (xY zW)) (zX (xT yA xG (zZ 1) (zZ 7)) zW)))))))) (zQ (yW (wS (zX zN (zX (zZ 1) (zX xN zW)))))) zB)) Bj) (zQ (yW (wS (zX zN (zX (zZ 1) (zX (xQ yF gZ T.g_tuple (by rfl) (zS (jJ 2) zW)) zW))))))))))))
theorem zE1:yX ["cell","some","odd"] ["cell"] (zR zO3):=by sleep 1
theorem zB3(T:Txt K mg){f:Addr}{fd:FuncData}(h:Has K mg "_law_odd" zO3 f fd ["cell"]):FnOk P w K mg base (CXV P w) 1 f fd ["cell"] (spX false kK):=by
 refine xZ [] h.F zE1 fun cdv A outer s H E hr => ?_
 have nd:=zE1.nd
 have u:=hr.units
 exact (zV (yT 1 nd zC) (zV (yT 1 nd (zL yP yC (zZ 1) zC)) (zV (yT 1 nd (zL yP yC (zZ 1) zC)) (zV (yT 1 nd (zL yP yC (zZ 1) zC)) (zV (yT 1 nd (zL yP yC (zZ 1) zC)) (zV (yT 1 nd (zL yP yC (zZ 1) zC)) (zV (yT 1 nd (zL yP yC (zZ 1) zC)) (zV (yT 1 nd (zL yP yC (zZ 1) zC)) (zV (yT 2 nd (RE.cl (vW Cr Cs cU cG (zZ 1) zC))) (zQ (yW (xT yA xG (zZ 2) (zL qU gK (zZ 0) (zE zI yE T.g_len Av (zS (zZ 2) zW)))))))))))))))
theorem aR:yX ["rows","cell","way","at","row","place","sign","front","changed"] ["rows","cell"] (zR fK):=by sleep 1
theorem bK(T:Txt K mg){f:Addr}{fd:FuncData}(h:Has K mg "_law_changed" fK f fd ["rows","cell"]):FnOk P w K mg base (CXV P w) 2 f fd ["rows","cell"] (spX true uI):=by
 obtain⟨_,_,h0⟩:=T.d_l_odd
 refine xZ [] h.F aR fun cdv A outer s H E hr => ?_
 have nd:=aR.nd
 have u:=hr.units
 exact (zV (yT 2 nd (zL qU gK (zZ 1) zN)) (zV (yT 3 nd (zL qU gK (zL vC qH (zZ 1) zN) (zE zI yE T.g_len Av (zS (zZ 0) zW)))) (zV (yT 4 nd (xT yA xG (zZ 0) (zZ 3))) (zV (yT 5 nd (zL qU gK (zL vC qH (zZ 1) zN) (zL yJ yH (zE wU uD T.g_len Av (zS (zZ 4) zW)) zN))) (zV (yT 6 nd (xT zS2 zH9 zC (zL qU gK (zL vC qH (zZ 1) zN) zN))) (zV (yO (RW.rt (rw_and (zG (xM u) vY (zZ 2) zN) (rw_and1 (zG kR gE (zE zI yE T.g_len Av (zS (zZ 0) zW)) zN)))) (zQ (kE (zL xP wO (xC (zZ 0) yD (yR (zZ 3))) (xC (zZ 0) (yR (zL yJ yH (zZ 3) zN)) yD)))) zB) (zV (yO (zG (xM u) vY (zZ 2) zN) (zQ (kE (zL xP wO (zL xP wO (xC (zZ 0) yD (yR (zZ 3))) (xY (zX (zZ 4) zW))) (xC (zZ 0) (yR (zZ 3)) yD)))) zB) (zV (yO (zG (xM u) vY (zZ 2) zN) (zQ (kE (zL xP wO (zL xP wO (xC (zZ 0) yD (yR (zZ 3))) (xY (zX (zD (zB3 T h0) h0 (hr.mono (by decide)) zK (zX (zL vC qH (zZ 1) zN) zW)) zW))) (xC (zZ 0) (yR (zL yJ yH (zZ 3) zN)) yD)))) zB) (zV (yO (zG (xM u) vY (zZ 2) zN) (zQ (kE (zL xP wO (zL xP wO (xC (zZ 0) yD (yR (zL yJ yH (zZ 3) zN))) (xY (zX (zD (zB3 T h0) h0 (hr.mono (by decide)) zK (zX (zL vC qH (zZ 1) zN) zW)) zW))) (xC (zZ 0) (yR (zL yJ yH (zZ 3) zN)) yD)))) zB) (zV (yO (zG (xM u) vY (zZ 2) zN) (zQ (kE (zL xP wO (xC (zZ 0) (yR (zZ 3)) yD) (xC (zZ 0) yD (yR (zZ 3)))))) zB) (zV (yT 7 nd (wR (zZ 4) yD (yR (zZ 5)))) (zV (yT 8 nd (RE.cl (xY (zX (zL yP yC (zL yP yC (zZ 7) (zZ 6)) (wR (zZ 4) (yR (zZ 5)) yD)) (zX (zL yP yC (zZ 7) (wR (zZ 4) (yR (zL yJ yH (zZ 5) zN)) yD)) (zX (zL yP yC (zL yP yC (zZ 7) (zZ 6)) (wR (zZ 4) (yR (zL yJ yH (zZ 5) zN)) yD)) zW)))))) (zQ (kE (zL xP wO (zL xP wO (xC (zZ 0) yD (yR (zZ 3))) (xY (zX (xT yA xG (zZ 8) (zL qU gK (zZ 2) zN)) zW))) (xC (zZ 0) (yR (zL yJ yH (zZ 3) zN)) yD))))))))))))))))
theorem zT3:yX ["rows","error","found","e","row","openings","plan"] ["rows"] (zR bT):=by sleep 1
theorem qR(T:Txt K mg){f:Addr}{fd:FuncData}(h:Has K mg "_law_right" bT f fd ["rows"]):FnOk P w K mg base (CXV P w) 28 f fd ["rows"] (spX false wG):=by
 obtain⟨_,_,h0⟩:=T.d_read_plan
 obtain⟨_,_,h1⟩:=T.d_l_due
 obtain⟨_,_,h2⟩:=T.d_l_whole
 refine xZ [] h.F zT3 fun cdv A outer s H E hr => ?_
 have nd:=zT3.nd
 have u:=hr.units
 exact (zV (yT 1 nd xN) (zV (yT 2 nd xN) (zV (xT5 3 2 CLS nd (zG5 T h0) h0 (hr.mono (by decide)) (fun _ _=>(zX (vW Dh Di zP2 zO9 zC (zZ 0)) zW)) (fun _=>(zQ (yT 1 nd (zZ 3)))) T.tx_BoxError T.tb_BoxError T.x_BoxError) (zV (qC (zD (yG7 T h1) h1 (hr.mono (by decide)) zK (zX (zZ 0) zW)) (jG rfl (xV (yK 4 nd) (xV (yK 5 nd) (xV (yK 6 nd) uC))))) (zV (yO (RW.rt (rw_and (zG (xM u) vY (zZ 4) zN) (rw_and1 (zG zN1 zW1 (zZ 6) xN)))) (zQ (yW (zS8 (zR7 aO zV7 (zZ 1) xN) (zS6 (zR7 (xM u) vY (zZ 2) (wS (zX (zZ 5) (zX (zZ 6) zW)))))))) zB) (zV (yO (RW.rt (rw_or (vT (vZ (yD5 CLS CLS T.kv_ValueError T.g_isinstance T.g_ValueError PyProof.Rows.Boot.«ValueError» (zZ 1)))) (rw_or1 (vZ (yD1 CLS ["BadBox","BadOpenings","BadOrder","NoPerson"] (Bw.2 ⟨T.kx_BadBox,(Bw.2 ⟨T.kx_BadOpenings,(Bw.2 ⟨T.kx_BadOrder,(Bw.2 ⟨T.kx_NoPerson,(fun _ h=>nomatch h)⟩)⟩)⟩)⟩) T.g_isinstance (aG T.x_BadBox (aG T.x_BadOpenings (aG T.x_BadOrder (aG T.x_NoPerson xL3)))) (zZ 1)))))) (zQ (yW jU)) zB) (zV (yO (zG (xM u) vY (zZ 4) zN) (zQ (yW (zS8 (aI CLS ["BadPlan"] T.kx_BadPlan T.g_isinstance T.x_BadPlan (zZ 1)) (zS6 (yN4 (aI CLS ROWN T.kx_BadText T.g_isinstance T.x_BadText (zZ 1))))))) zB) (zV (yO (RW.rt (rw_or (vT (vZ (aI CLS ROWN T.kx_BadText T.g_isinstance T.x_BadText (zZ 1)))) (rw_or1 (vZ (aI CLS ["BadPlan"] T.kx_BadPlan T.g_isinstance T.x_BadPlan (zZ 1)))))) (zQ (yW jU)) zB) (zQ (yW (zS8 (zD (yT3 T h2) h2 (hr.mono (by decide)) zK (zX (yI2 T.ek_BadText T.rx T.bt_rc (zZ 1)) zW)) (zS6 (zR7 (xM u) vY (yI2 T.ek_BadText T.rx T.bt_rc (zZ 1)) (zZ 4))))))))))))))
theorem yI7:yX ["script","people","openings","plan","rows","cell","once"] ["script"] (zR zI1):=by sleep 1
theorem xN4(T:Txt K mg){f:Addr}{fd:FuncData}(h:Has K mg "law" zI1 f fd ["script"]):FnOk P w K mg base (CXV P w) 29 f fd ["script"] (spX false yR2):=by
 obtain⟨_,_,h0⟩:=T.d_l_cell_at
 obtain⟨_,_,h1⟩:=T.d_l_plan
 obtain⟨_,_,h2⟩:=T.d_l_all
 obtain⟨_,_,h3⟩:=T.d_l_plan_rows
 obtain⟨_,_,h4⟩:=T.d_l_right
 obtain⟨_,_,h5⟩:=T.d_l_changed
 refine xZ [] h.F yI7 fun cdv A outer s H E hr => ?_
 have nd:=yI7.nd
 have u:=hr.units
 exact (zV (yT 1 nd (zL yJ yH zN (zL qU gK (zD (zF2 T h0) h0 (hr.mono (by decide)) zK (zX (zZ 0) (zX zN zW))) zN))) (zV (qC (zD (yL9 T h1) h1 (hr.mono (by decide)) zK (zX (zD (yE1 T h2) h2 (hr.mono (by decide)) zK (zX (zZ 0) zW)) (zX (zZ 1) (zX (zZ 1) zW)))) (jG rfl (xV (yK 2 nd) (xV (yK 3 nd) uC)))) (zV (yT 4 nd (RE.cl (aU (zQ4 T h3) h3 (hr.mono (by decide)) zK (zX (zZ 2) (zX (zZ 3) zW))))) (zV (yO (RW.rt (rw_or (vT (vZ (zD (qR T h4) h4 (hr.mono (by decide)) zK (zX (zZ 4) zW)))) (rw_or (vT (vZ (zD (qR T h4) h4 (hr.mono (by decide)) zK (zX (RE.cl (zL xP wO (zZ 4) (xY (zX zC zW)))) zW)))) (rw_or1 (vT (vZ (zD (qR T h4) h4 (hr.mono (by decide)) zK (zX (RE.cl (xY (zX zC zW))) zW)))))))) (zQ (yW jU)) zB) (zV (jK (jO (RE.rd (gD (zZ 0) yD (yR zN)))) (yK 5 nd) (zV (yT 6 nd (RE.cl (aU (bK T h5) h5 (hr.mono (by decide)) zK (zX (zZ 4) (zX (zL vC qH (zE zH4 yN8 T.g_abs (by rfl) (zS (zZ 5) zW)) zN) zW))))) (zQ (yO (RW.rt (rw_or (vT (vZ (zD (qR T h4) h4 (hr.mono (by decide)) zK (zX (zZ 6) zW)))) (rw_or1 (vT (vZ (zD (qR T h4) h4 (hr.mono (by decide)) zK (zX (RE.cl (aU (bK T h5) h5 (hr.mono (by decide)) zK (zX (zZ 6) (zX (zL yJ yH (zL vC qH (zE zH4 yN8 T.g_abs (by rfl) (zS (zZ 5) zW)) zN) zN) zW)))) zW))))))) (zQ (yW jU)) zB))) Bj) (zQ (yW jU)))))))
end
end K51
namespace K51
open PySem L2 L2.L3 MR
def evA:=(And.intro (And.intro (And.intro (And.intro (And.intro (And.intro @xH6 @zQ2) (And.intro @xK2 @xI7)) (And.intro (And.intro @xJ3 @xP6) (And.intro @xO9 (And.intro @xK3 @xP4)))) (And.intro (And.intro (And.intro @zU1 @gA) (And.intro @jF @xJ7)) (And.intro (And.intro @xL8 @xH2) (And.intro @xJ4 (And.intro @xJ1 @cO))))) (And.intro (And.intro (And.intro (And.intro @eV0 @eVs) (And.intro @xH7 @xK6)) (And.intro (And.intro @cJ @xH5) (And.intro @zV8 (And.intro @cZ @xI8)))) (And.intro (And.intro (And.intro @gY @xN1) (And.intro @zU5 (And.intro @xO2 @xM7))) (And.intro (And.intro @cF @cY) (And.intro @xJ8 (And.intro @xK8 @xJ9)))))) (And.intro (And.intro (And.intro (And.intro (And.intro @cT @xU9) (And.intro @zE8 @zG6)) (And.intro (And.intro @xM8 @dI) (And.intro @xS1 (And.intro @xH4 @xJ2)))) (And.intro (And.intro (And.intro @xT8 @xH3) (And.intro @xQ1 @xP7)) (And.intro (And.intro @mkL0 @mkL1) (And.intro @mkL2 (And.intro @mkL3 @mkT2))))) (And.intro (And.intro (And.intro (And.intro @mkT3 @Res.bind_ok) (And.intro @Res.bind_no @Res.bind_ex)) (And.intro (And.intro @Res.lft_some @Res.lft_none) (And.intro @BN.{0,0} (And.intro @Az.{0,0} @List.set_cons_zero.{0})))) (And.intro (And.intro (And.intro @List.set_cons_succ.{0} @Aq.{0}) (And.intro @Ca.{0} (And.intro @if_true.{1} @if_false.{1}))) (And.intro (And.intro @AF @ite_true.{1}) (And.intro @ite_false.{1} (And.intro @BK @BA)))))))
local macro_rules | `(tactic| simp![$x,*])=>`(tactic| simp -implicitDefEqProofs only[(evA),$x,*])
def rI'(r:List Nat):List Int:=r.map fun (b:Nat)=>(b:Int)
structure Opn(n:Nat)(ops:List Int):Prop where
 len:ops.length=n
 bd:∀x∈ops,0<=x/\x<=n
theorem zV2{n:Nat}{ops:List Int}(p:Opn n ops)(h1:1<=n)(h2:n<=60):vD [.int n,tI ops]=.ok (tI ops):=by
 show (wA [some (.int n),some (tI ops)]).bind (fin false)=_
 unfold wA
 have hne:ops ≠ []:=fun z=>by have:=p.len;rw[z] at this;simp at this;rfl'
 have a1:=p.bd _ (zF1 hne)
 have a2:=p.bd _ (zE9 hne)
 simp![Ac,p.len,xJ,yV6 hne,yU1 hne,Aa (show (1:Int)<=(n:Int) by rfl'),Aa (show (n:Int)<=60 by rfl'),decide_true,Ad (show ¬minL ops<0 by rfl'),Ad (show ¬(n:Int)<maxL ops by rfl')]
def BadO(p:Int)(ys:List Int):Prop:=¬(1<=p/\p<=60/\(ys.length:Int)=p/\∀y∈ys,0<=y/\y<=p)
theorem zW5{d:D}{ys:List Int}(hd:d=lI ys\/d=tI ys){p:Int}(h:BadO p ys):vD [.int p,d]=.ex "BadOpenings":=by
 show (wA [some (.int p),some d]).bind (fin false)=_
 unfold wA
 have ln:lenD [d]=some (.int (ys.length:Int)):=by
  rcases hd with rfl | rfl
  ·rw[dI];simp only[zE8,BN,Ac]
  ·rw[dI];simp only[zG6,BN,Ac]
 have z1:(if ([PyData.str "openings are for 1 to 60 people"]:List D).length<=sizeLine then (Res.ex "BadOpenings":Res Out) else .no)=.ex "BadOpenings":=Ak (by decide)
 have z2:(if ([PyData.str "each person has its openings"]:List D).length<=sizeLine then (Res.ex "BadOpenings":Res Out) else .no)=.ex "BadOpenings":=Ak (by decide)
 have z3:(if ([PyData.str "openings are from 0 to as many as there are boxes"]:List D).length<=sizeLine then (Res.ex "BadOpenings":Res Out) else .no)=.ex "BadOpenings":=Ak (by decide)
 by_cases p1:1<=p
 ·by_cases p2:p<=60
  ·by_cases p3:(ys.length:Int)=p
   ·have hne:ys ≠ []:=fun z=>by rw[z] at p3;simp at p3;rfl'
    have mn:min1D [d]=some (.int (minL ys)):=by
     rcases hd with rfl | rfl
     ·exact xZ5 hne
     ·exact yV6 hne
    have mx:max1D [d]=some (.int (maxL ys)):=by
     rcases hd with rfl | rfl
     ·exact xY6 hne
     ·exact yU1 hne
    have hex:minL ys<0\/p<maxL ys:=by
     by_cases c1:minL ys<0
     ·exact .inl c1
     ·by_cases c2:p<maxL ys
      ·exact .inr c2
      ·refine absurd ⟨p1,p2,p3,fun y hy => ?_⟩ h
       have:=yV5 hy
       have:=yY1 hy
       rfl'
    rcases hex with c | c
    ·simp -implicitDefEqProofs only[gA,jF,gY,zU5,cZ,zV8,cO,cJ,cY,cF,eV0,eVs,cT,zU1,wC,Res.bind_ok,Res.bind_ex,Res.lft_some,ln,mn,mx,xJ,Aa p1,Aa p2,Aa p3,Aa c,if_true,if_false,BK,BA,AF,z3]
    ·by_cases c1:minL ys<0
     ·simp -implicitDefEqProofs only[gA,jF,gY,zU5,cZ,zV8,cO,cJ,cY,cF,eV0,eVs,cT,zU1,wC,Res.bind_ok,Res.bind_ex,Res.lft_some,ln,mn,mx,xJ,Aa p1,Aa p2,Aa p3,Aa c1,if_true,if_false,BK,BA,AF,z3]
     ·simp -implicitDefEqProofs only[gA,jF,gY,zU5,cZ,zV8,cO,cJ,cY,cF,eV0,eVs,cT,zU1,wC,Res.bind_ok,Res.bind_ex,Res.lft_some,ln,mn,mx,xJ,Aa p1,Aa p2,Aa p3,Ad c1,Aa c,if_true,if_false,BK,BA,AF,z3]
   ·simp -implicitDefEqProofs only[gA,jF,gY,zU5,cZ,zV8,cO,cJ,cY,cF,eV0,eVs,cT,zU1,wC,Res.bind_ok,Res.bind_ex,Res.lft_some,ln,xJ,Aa p1,Aa p2,Ad p3,if_true,if_false,BK,BA,AF,z2]
  ·simp -implicitDefEqProofs only[gA,jF,gY,cZ,cO,cJ,cY,cF,eV0,eVs,cT,wC,Res.bind_ok,Res.bind_ex,Res.lft_some,Aa p1,Ad p2,if_true,if_false,BK,BA,AF,z1]
 ·simp -implicitDefEqProofs only[gA,jF,gY,cZ,cO,cJ,cY,cF,eV0,eVs,cT,wC,Res.bind_ok,Res.bind_ex,Res.lft_some,Ad p1,if_true,if_false,BK,BA,AF,z1]
theorem Opn.at{n:Nat}{ops:List Int}(q:Opn n ops){p:Nat}(h:p<n):0<=ops.getD p 0/\ops.getD p 0<=n:=q.bd _ (MR.getD_mem (by rw[q.len];exact h))
theorem yX3{n:Nat}{ops:List Int}(q:Opn n ops){p:Nat}(h:p<n):atI (ops.map PyData.int) (p:Int)=some (.int ((ops.getD p 0).toNat:Int)):=by
 have:=q.at h
 rw[zO5,zW7 (by rw[q.len];exact h),BN]
 congr 2
 rfl'
theorem xR3{n i:Nat}(f:Nat->D)(h:i<n):atI ((List.range n).map f) (i:Int)=some (f i):=by
 unfold atI
 rw[Ac,AQ,uO h,Az,AA,Bk h]
 rfl
theorem yY7(n:Nat)(f:Nat->D):enumD ((List.range n).map f)=(List.range n).map fun (i:Nat)=>PyData.tuple [.int (i:Int),f i]:=by
 unfold enumD
 rw[Ac,AQ]
 refine Ci fun i hi => ?_
 rw[List.getD,AA,Bk (AD.mp hi)]
 rfl
theorem dD{n:Nat}{ops:List Int}(q:Opn n ops)(h1:1<=n)(h2:n<=6):yG [tI ops]=.ok (tI ops):=by
 show (xF [some (tI ops)]).bind (fin false)=_
 unfold xF
 simp![Ac,q.len,Ad (show ¬(6:Int)<(n:Int) by rfl'),zV2 q h1 (show n<=60 by rfl')]
inductive TreeOk(n:Nat):Nat->List Int->List Int->D->Prop
 | none {l:Nat}{bs ns:List Int}:TreeOk n l bs ns .none
 | node {l:Nat}{bs ns:List Int}(b:Nat) (f:Nat->D):b<n->bs.contains (b:Int)=false->(∀i,i<n->ns.contains (i:Int)=true->f i=.none)->(∀i,i<n->TreeOk n l (bs ++ [(b:Int)]) (ns ++ [(i:Int)]) (f i))->TreeOk n (l+1) bs ns (.tuple [.int (b:Int),.tuple ((List.range n).map f)])
theorem zZ2{α:Type}(f:α->D)(m:Nat):∀xs:List α,(∀x∈xs,(f x).canLay0=true/\(f x).depth<=m/\lf (f x)=true)->PyData.canLayAll0 (xs.map f)=true/\PyData.depthAll (xs.map f)<=m/\lfs (xs.map f)=true
 | [],_=>⟨rfl,AM _,rfl⟩
 | x::xs,h=>by
  obtain⟨h1,h2,h3⟩:=h x (Ae ..)
  obtain⟨g1,g2,g3⟩:=zZ2 f m xs fun y hy=>h y (Ai _ hy)
  rw[AI,PyData.canLayAll0,PyData.depthAll,lfs,h1,g1,h3,g3]
  exact⟨rfl,Nat.max_le.mpr ⟨h2,g2⟩,rfl⟩
structure PlanOk(n:Nat)(ops:List Int)(t:Nat->D):Prop where
 tree:∀p,p<n->TreeOk n (ops.getD p 0).toNat [] [(p:Int)] (t p)
theorem zV4(g:Nat->Int->D×Int)(p:Int):∀k,(runG g k p).1=(List.range k).map fun i=>(g i (runG g i p).2).1
 | 0=>rfl
 | k+1=>by
  rw[runG,zV4 g p k,CQ,Bh]
  rfl
theorem xO8(ws:W2)(b i:Nat):wB (ws ++ [(b,i)])=wB ws ++ [(b:Int)]:=by rw[wB,Bh];rfl
theorem xQ4(p:Nat)(ws:W2)(b i:Nat):wN p (ws ++ [(b,i)])=wN p ws ++ [(i:Int)]:=by rw[wN,Bh];rfl
theorem yP8{n p:Nat}(n0:0<n):∀(l:Nat) (ws:W2) (q:Int),ws.length+l<=n->TreeOk n l (wB ws) (wN p ws) (trH n p l ws q).1
 | 0,ws,q,_=>.none
 | l+1,ws,q,h=>by
  by_cases c:q%((n:Int)+1)=(n:Int)
  ·rw[yW9 c]
   exact .none
  ·have q0:=Int.emod_nonneg q (show ((n:Int)+1)≠0 by rfl')
   have q1:=Int.emod_lt_of_pos q (show (0:Int)<(n:Int)+1 by rfl')
   have hd:(q%((n:Int)+1)).toNat<n:=by rfl'
   obtain⟨f1,f2⟩:=zX9 n (wB ws) n _ (zH1 (n:=n) (bs:=wB ws) (by rw[Ac];rfl') _ hd) hd
   rw[yL7 c rfl,zV4]
   generalize frB n (wB ws) n (q%((n:Int)+1)).toNat=b at f1 f2
   refine .node b _ f2 f1 (fun i hi c => ?_) fun i hi => ?_
   ·unfold nxH
    rw[Ak c]
   ·by_cases c:(wN p ws).contains (i:Int)=true
    ·have e:∀z:Int,(nxH n p l ws b i z).1=.none:=fun z=>by unfold nxH;rw[Ak c]
     rw[e]
     exact .none
    ·have e:∀z:Int,nxH n p l ws b i z=trH n p l (ws ++ [(b,i)]) z:=fun z=>by unfold nxH;rw[Ax c]
     rw[e,<-xO8,<-xQ4]
     exact yP8 n0 l _ _ (by rw[Af];simp;rfl')
theorem yP7{n:Nat}(cell most:Int)(h1:1<=n)(h2:n<=6)(m0:0<=most)(m1:most<=(n:Int)):∃(ops:List Int) (t:Nat->D),Opn n ops/\PlanOk n ops t/\(∀x∈ops,x<=most)/\gW [.int cell,.int (n:Int),.int most]=.ok (.tuple [tI ops,.tuple ((List.range n).map t)]):=by
 have e:gW [.int cell,.int (n:Int),.int most]=.ok (plH n most cell):=xZ9 h1 h2 m0 m1
 have b:=fun i=>yL5 (n:=n) (most:=most) (cell:=cell) m0 i
 have g:∀i,i<n->(opsH n most cell).getD i 0=opH n most cell i:=fun i hi=>by
  unfold opsH
  rw[List.getD,AA,Bk hi]
  rfl
 refine⟨opsH n most cell,fun i=>(nxP n most cell i (runG (nxP n most cell) i (pwD ((n:Int)+1) cell n)).2).1,⟨by unfold opsH;simp,fun o ho => ?_⟩,⟨fun p hp => ?_⟩,fun o ho => ?_,?_⟩
 ·unfold opsH at ho
  obtain⟨i,_,rfl⟩:=AR.mp ho
  have:=b i
  exact⟨this.1,by rfl'⟩
 ·rw[g p hp]
  exact yP8 (p:=p) (by rfl') _ [] _ (by have:=b p;show 0+_<=n;rfl')
 ·unfold opsH at ho
  obtain⟨i,_,rfl⟩:=AR.mp ho
  exact (b i).2
 ·rw[e]
  unfold plH trsH
  rw[zV4]
def numT(b:Nat):Str:=toString (b:Int)
def rT(r:List Nat):Str:=Str.join " " (r.map numT)
theorem vK:∀b,b<61->((numT b).length<=2/\Txt.isdigit (numT b)=true/\(Txt.startswith (numT b) "0" = false\/numT b="0")/\PySem.intText? (numT b)=some (b:Int))/\41∉tl (numT b)/\32∉tl (numT b)/\((b:Int).natAbs.log2<1920)/\PyData.strOk (numT b)=true/\45∉tl (numT b)/\40∉tl (numT b)/\tl (numT b) ≠ []/\10∉tl (numT b):=by decide +kernel
theorem xS8{sep:Str}{ts:List Str}(hs:sep.length<=2)(hl:ts.length<=60)(ht:∀t∈ts,t.length<=200):JoinOk sep ts=true/\(Str.join sep ts).length<=202*ts.length:=by
 have h1:=BB 200 hl
 have h2:=Dz ts.length hs
 refine⟨?_,?_⟩
 ·unfold JoinOk
  rw[StrLaws.joinFits ht (by rfl')]
  rfl
 ·have a:=StrLaws.join_length_le sep ts
  have b:=StrLaws.sumLen_le ts ht
  rfl'
theorem zW3{sep:Str}{ts:List Str}(h:JoinOk sep ts=true):joinD sep (.list (ts.map PyData.str))=some (.str (Str.join sep ts)):=by
 unfold joinD
 rw[show lstD (.list (ts.map PyData.str))=some (ts.map PyData.str) from rfl,Az,zR2,Az,Ak h]
theorem qT{z:Str}(h:PyData.strOk z=true):SeqAt.shaped (.str z)=true:=by
 unfold SeqAt.shaped
 rw[PyData.canLay0,PyData.depth,h]
 rfl
theorem kH{a b:Str}(ha:PyData.strOk a=true)(hb:PyData.strOk b=true):neD (.str a) (.str b)=some (!decide (a=b)):=by
 unfold neD
 rw[Ak ⟨qT ha,qT hb⟩,PyData.eqv]
 by_cases e:a=b <;> simp[e]
theorem aB{a b:Str}(ha:PyData.strOk a=true)(hb:PyData.strOk b=true):eqD (.str a) (.str b)=some (decide (a=b)):=by
 unfold eqD
 rw[Ak ⟨qT ha,qT hb⟩,PyData.eqv]
 by_cases e:a=b <;> simp[e]
theorem yW1{z:Str}:PyData.strOk z=true ↔ ∀c∈tl z,c<1114112:=by
 unfold PyData.strOk tl
 rw[<-Array.all_toList,AS]
 exact⟨fun h c hc=>of_decide_eq_true (h c hc),fun h c hc=>Aa (h c hc)⟩
theorem vR{a b:Str}(ha:PyData.strOk a=true)(hb:PyData.strOk b=true):PyData.strOk (a++b)=true:=by
 rw[yW1] at ha hb ⊢
 intro c hc
 rw[zJ] at hc
 rcases AB.mp hc with h | h
 ·exact ha c h
 ·exact hb c h
theorem zV5{y:Str}(hy:PyData.strOk y=true):∀ts:List Str,(∀t∈ts,PyData.strOk t=true)->PyData.strOk (Str.join y ts)=true
 | [],_=>(by decide +kernel:PyData.strOk Str.empty=true)
 | [t],h=>h t Ae
 | t::u::r,h=>by
  rw[vO]
  exact vR (vR (h t Ae) hy) (zV5 hy (u::r) fun x hx=>h x (Ai _ hx))
theorem xB:100000<=sizeLine:=by decide
theorem xQ3{r:List Nat}(hr:∀x∈r,x<61)(hl:r.length<=60):(rT r).length<=180:=by
 have a:=StrLaws.join_length_le " " (r.map numT)
 have b:=StrLaws.sumLen_le (B:=2) (r.map numT) fun y hy=>by
  obtain⟨x,hx,rfl⟩:=AR.mp hy
  exact (vK x (hr x hx)).1.1
 rw[Ac] at a b
 have c:(" ":Str).length=1:=rfl
 unfold rT
 rw[c] at a
 rfl'
theorem yF7{r:List Nat}(hr:∀x∈r,x<61)(hl:r.length<=60):joinD " " (.list ((r.map numT).map PyData.str))=some (.str (rT r)):=by
 refine zW3 (xS8 (by decide) (by rw[Ac];exact hl) fun t ht => ?_).1
 obtain⟨x,hx,rfl⟩:=AR.mp ht
 have:=(vK x (hr x hx)).1.1
 rfl'
theorem zI7{α:Type}{f:D->Res D}(A q:α->D):∀xs:List α,(∀x∈xs,f (A x)=.ok (q x))->compX (fun _=>.ok true) f (xs.map A)=.ok (xs.map q)
 | [],_=>rfl
 | x::xs,h=>by
  rw[AI,compX,Res.bind_ok,Ak rfl,h x Ae,Res.bind_ok,zI7 A q xs fun y hy=>h y (Ai _ hy)]
  rfl
theorem zI9{α:Type}{f:D->Res D}{c:Str}(A:α->D):∀xs:List α,(∀x∈xs,(∃d,f (A x)=.ok d)\/f (A x)=.ex c)->(∃x∈xs,f (A x)=.ex c)->compX (fun _=>.ok true) f (xs.map A)=.ex c
 | [],_,he=>by
  obtain⟨x,hx,_⟩:=he
  cases hx
 | x::xs,h,he=>by
  rw[AI,compX,Res.bind_ok,Ak rfl]
  rcases h x Ae with ⟨d,e⟩ | e
  ·obtain⟨y,hy,ey⟩:=he
   rcases Aw.mp hy with rfl | hy
   ·rw[e] at ey
    cases ey
   ·rw[e,Res.bind_ok,zI9 A xs (fun y hy=>h y (Ai _ hy)) ⟨y,hy,ey⟩]
    rfl
  ·rw[e]
   rfl
theorem yO9{mi:Ev->Res (List D)}{me:Ev->Res D}{js:List Nat}{ρ:Ev}{α:Type}(A q:α->D)(xs:List α)(h:mi ρ=.ok (xs.map A))(hl:xs.length<=1000)(hf:∀x∈xs,me (cEnv ρ js (A x))=.ok (q x)):eCompX mi tYes me js ρ=.ok (.list (xs.map q)):=by
 unfold eCompX
 rw[h,Res.bind_ok,kJ (by rw[Ac];exact hl)]
 rw[show (compX (fun x=>tYes (cEnv ρ js x)) (fun x=>me (cEnv ρ js x)) (xs.map A))=.ok (xs.map q) from zI7 A q xs hf]
 rfl
theorem yJ2{mi:Ev->Res (List D)}{me:Ev->Res D}{js:List Nat}{ρ:Ev}{α:Type}{c:Str}(A:α->D)(xs:List α)(h:mi ρ=.ok (xs.map A))(hl:xs.length<=1000)(hf:∀x∈xs,(∃d,me (cEnv ρ js (A x))=.ok d)\/me (cEnv ρ js (A x))=.ex c)(he:∃x∈xs,me (cEnv ρ js (A x))=.ex c):eCompX mi tYes me js ρ=.ex c:=by
 unfold eCompX
 rw[h,Res.bind_ok,kJ (by rw[Ac];exact hl)]
 rw[show (compX (fun x=>tYes (cEnv ρ js x)) (fun x=>me (cEnv ρ js x)) (xs.map A))=.ex c from zI9 A xs hf he]
 rfl
abbrev BT:Str:=NMR 1
theorem raR{m:Ev->Res (List D)}{ρ:Ev}{r:Int}(h0:0<=r/\r<16)(h:m ρ=.ok [.int r]):sRaI NMR m ρ=.ex (NMR r):=by
 unfold sRaI
 rw[h,Res.bind_ok]
 exact Ak h0
theorem ra1{m:Ev->Res (List D)}{ρ:Ev}(h:m ρ=.ok [.int 1]):sRaI NMR m ρ=.ex BT:=raR (by decide) h
def Wd(w:Str):Prop:=Fig w/\w.length<=90/\(Txt.startswith w "0" = true->w="0")
theorem kF{B:Nat}{w:Str}(h:Tx B w){r:Int}(h0:0<=r/\r<16)(hB:autoParam (B<=20000) DH):(Wd w/\yZ [.str w,.int r]=.ok (.int (dv w:Int)))\/(¬Wd w/\yZ [.str w,.int r]=.ex (NMR r)):=by
 have lb:=xB
 have l:=h.len
 have e1:lenTD [.str w]=some (.int (w.length:Int)):=Ak (by rfl')
 have e3:stwD w (.str "0")=some (.bool (Txt.startswith w "0")):=rfl
 have e4:=kH h.ok (show PyData.strOk "0" = true by decide +kernel)
 have ra:sRaI NMR (aC (eV 1) aN) [some (.str w),some (.int r)]=.ex (NMR r):=raR h0 rfl
 show (Wd w/\(uG [some (.str w),some (.int r)]).bind (fin false)=_)\/(¬Wd w/\(uG [some (.str w),some (.int r)]).bind (fin false)=_)
 unfold uG
 cases hd:Txt.isdigit w with
 | false =>
  refine .inr ⟨fun z => ?_,?_⟩
  ·rw[(zZ8 h).mpr z.1] at hd
   cases hd
  ·simp![dS,yS,hd,ra]
 | true =>
  have fg:=(zZ8 h).mp hd
  by_cases h9:w.length<=90
  ·have e5:intTD [.str w]=some (.int (dv w:Int)):=by
    show (if w.length<=640 then (PySem.intText? w).map PyData.int else none)=_
    rw[Ak (by rfl'),yW2 fg (by rfl')]
    rfl
   have d9:decide ((90:Int)<(w.length:Int))=false:=Ad (by rfl')
   cases hs:Txt.startswith w "0" with
   | false =>
    refine .inl ⟨⟨fg,h9,fun z=>by rw[z] at hs;cases hs⟩,?_⟩
    simp![dS,yI,yS,hd,e1,d9,e3,hs,e5]
   | true =>
    by_cases h0:w="0"
    ·refine .inl ⟨⟨fg,h9,fun _=>h0⟩,?_⟩
     rw[Aa h0] at e4
     simp![dS,yI,yS,hd,e1,d9,e3,hs,e4,e5]
    ·refine .inr ⟨fun z=>h0 (z.2.2 hs),?_⟩
     rw[Ad h0] at e4
     simp![dS,yI,yS,hd,e1,d9,e3,hs,e4,ra]
  ·have d9:decide ((90:Int)<(w.length:Int))=true:=Aa (by rfl')
   refine .inr ⟨fun z=>h9 z.2.1,?_⟩
   simp![dS,yI,yS,hd,e1,d9,ra]
theorem zC3{w:Str}(h:Tx 1000 w):(Wd w/\yZ [.str w,.int 1]=.ok (.int (dv w:Int)))\/(¬Wd w/\yZ [.str w,.int 1]=.ex BT):=kF h (by decide)
theorem xW8{ws:List Str}(h:∀w∈ws,Tx 1000 w)(hl:ws.length<=1000):((∀w∈ws,Wd w)/\uV [.list (ws.map PyData.str),.int 1]=.ok (tI (rI' (ws.map dv))))\/((¬∀w∈ws,Wd w)/\uV [.list (ws.map PyData.str),.int 1]=.ex BT):=by
 show (_/\(uP [some (.list (ws.map PyData.str)),some (.int 1)]).bind (fin false)=_)\/(_/\(uP [some (.list (ws.map PyData.str)),some (.int 1)]).bind (fin false)=_)
 unfold uP
 have st:∀w:Str,eF yZ (aC (eV 0) (aC (eV 1) aN)) (cEnv [some (.list (ws.map PyData.str)),some (.int 1)] [1] (.str w))=yZ [.str w,.int 1]:=fun w=>by
  show eF yZ (aC (eV 0) (aC (eV 1) aN)) [some (.str w),some (.int 1)]=_
  simp -implicitDefEqProofs only[(evA)]
 have hi:iS (eV 0) [some (.list (ws.map PyData.str)),some (.int 1)]=.ok (ws.map PyData.str):=by simp -implicitDefEqProofs only[(evA)]
 by_cases q:∀w∈ws,Wd w
 ·refine .inl ⟨q,?_⟩
  have cc:=yO9 (me:=eF yZ (aC (eV 0) (aC (eV 1) aN))) (js:=[1]) PyData.str (fun w=>PyData.int (dv w:Int)) ws hi hl fun w hw=>by
   rw[st]
   rcases zC3 (h w hw) with ⟨_,e⟩ | ⟨n,_⟩
   ·exact e
   ·exact absurd (q w hw) n
  have e:PyData.tuple (ws.map fun w=>PyData.int (dv w:Int))=tI (rI' (ws.map dv)):=by
   unfold tI rI'
   rw[Bd,Bd]
   rfl
  simp![cc,e]
 ·refine .inr ⟨q,?_⟩
  have cc:=yJ2 (me:=eF yZ (aC (eV 0) (aC (eV 1) aN))) (js:=[1]) (c:=BT) PyData.str ws hi hl (fun w hw=>by
   rw[st]
   rcases zC3 (h w hw) with ⟨_,e⟩ | ⟨n,e⟩
   ·exact .inl ⟨_,e⟩
   ·exact .inr e) (by
   simp only[Classical.not_forall] at q
   obtain⟨w,hw,n⟩:=q
   refine⟨w,hw,?_⟩
   rw[st]
   rcases zC3 (h w hw) with ⟨y,_⟩ | ⟨_,e⟩
   ·exact absurd y n
   ·exact e)
  simp![cc]
theorem zL3{α:Type}{t:D->Res Bool}{f:D->Res D}(A q:α->D):∀xs:List α,(∀x∈xs,t (A x)=.ok true)->(∀x∈xs,f (A x)=.ok (q x))->compX t f (xs.map A)=.ok (xs.map q)
 | [],_,_=>rfl
 | x::xs,ht,h=>by
  rw[AI,compX,ht x Ae,Res.bind_ok,Ak rfl,h x Ae,Res.bind_ok,zL3 A q xs (fun y hy=>ht y (Ai _ hy)) fun y hy=>h y (Ai _ hy)]
  rfl
theorem zM7{α:Type}{t:D->Res Bool}{f:D->Res D}{c:Str}(A:α->D):∀xs:List α,(∀x∈xs,t (A x)=.ok true)->(∀x∈xs,(∃d,f (A x)=.ok d)\/f (A x)=.ex c)->(∃x∈xs,f (A x)=.ex c)->compX t f (xs.map A)=.ex c
 | [],_,_,he=>by
  obtain⟨x,hx,_⟩:=he
  cases hx
 | x::xs,ht,h,he=>by
  rw[AI,compX,ht x Ae,Res.bind_ok,Ak rfl]
  rcases h x Ae with ⟨d,e⟩ | e
  ·obtain⟨y,hy,ey⟩:=he
   rcases Aw.mp hy with rfl | hy
   ·rw[e] at ey
    cases ey
   ·rw[e,Res.bind_ok,zM7 A xs (fun y hy=>ht y (Ai _ hy)) (fun y hy=>h y (Ai _ hy)) ⟨y,hy,ey⟩]
    rfl
  ·rw[e]
   rfl
theorem yR8{mi:Ev->Res (List D)}{me:Ev->Res D}{js:List Nat}{ρ:Ev}{α:Type}(A B q:α->D)(xs:List α)(h:mi ρ=.ok (xs.map fun x=>PyData.tuple [A x,B x]))(hl:xs.length<=1000)(hf:∀x∈xs,me (cEnv2 ρ js (A x) (B x))=.ok (q x)):eComp2X mi tYes me js ρ=.ok (.list (xs.map q)):=by
 unfold eComp2X
 rw[h,Res.bind_ok,kJ (by rw[Ac];exact hl)]
 rw[show (compX (fun d=>pr2 d fun x y=>tYes (cEnv2 ρ js x y)) (fun d=>pr2 d fun x y=>me (cEnv2 ρ js x y)) (xs.map fun x=>PyData.tuple [A x,B x]))=.ok (xs.map q) from zL3 (fun x=>PyData.tuple [A x,B x]) q xs (fun _ _=>rfl) hf]
 rfl
theorem yT9{mi:Ev->Res (List D)}{me:Ev->Res D}{js:List Nat}{ρ:Ev}{α:Type}{c:Str}(A B:α->D)(xs:List α)(h:mi ρ=.ok (xs.map fun x=>PyData.tuple [A x,B x]))(hl:xs.length<=1000)(hf:∀x∈xs,(∃d,me (cEnv2 ρ js (A x) (B x))=.ok d)\/me (cEnv2 ρ js (A x) (B x))=.ex c)(he:∃x∈xs,me (cEnv2 ρ js (A x) (B x))=.ex c):eComp2X mi tYes me js ρ=.ex c:=by
 unfold eComp2X
 rw[h,Res.bind_ok,kJ (by rw[Ac];exact hl)]
 rw[show (compX (fun d=>pr2 d fun x y=>tYes (cEnv2 ρ js x y)) (fun d=>pr2 d fun x y=>me (cEnv2 ρ js x y)) (xs.map fun x=>PyData.tuple [A x,B x]))=.ex c from zM7 (fun x=>PyData.tuple [A x,B x]) xs (fun _ _=>rfl) hf he]
 rfl
theorem yC3{g:D->Ev->Option Ev}{b:Ev->Res Out}{c:Str}(P:Nat->Ev->Prop)(ds:List D)(ρ:Ev)(j:Nat)(dj:D)(hj:ds[j]?=some dj)(h0:P 0 ρ)(hs:∀(i:Nat) d ρ,i<j->ds[i]?=some d->P i ρ->∃ρ1 ρ2,g d ρ=some ρ1/\b ρ1=.ok (.nx ρ2)/\P (i+1) ρ2)
  (hr:∀ρ,P j ρ->∃ρ1,g dj ρ=some ρ1/\b ρ1=.ex c):L3.forM g b ds ρ=.ex c:=by
 induction ds generalizing P ρ j with
 | nil=>simp at hj
 | cons d ds ih =>
  cases j with
  | zero =>
   simp at hj
   subst hj
   obtain⟨ρ1,e1,e2⟩:=hr ρ h0
   rw[L3.forM,e1,Res.lft_some,Res.bind_ok,e2,Res.bind_ex]
  | succ j =>
   obtain⟨ρ1,ρ2,e1,e2,p⟩:=hs 0 d ρ (Nat.succ_pos _) rfl h0
   rw[L3.forM,e1,Res.lft_some,Res.bind_ok,e2,Res.bind_ok]
   exact ih (fun i=>P (i+1)) ρ2 j (by simpa using hj) p (fun i d ρ hi hd hp=>hs (i+1) d ρ (by rfl') (by simpa using hd) hp) hr
inductive GT:D->Prop
 | none:GT .none
 | node (b:Int) (ks:List D):ks.length<=7->(∀d∈ks,GT d)->GT (.tuple [.int b,.tuple ks])
def isNo:D->Bool
 | .none=>true
 | _=>false
def isT(n:Nat):Nat->Nat->List Int->List Int->D->Bool
 | 0,_,_,_,_=>true
 | k+1,l,bs,ns,d=>match d with
  | .tuple [.int b,.tuple ks]=>decide (l≠0)&&(decide (0<=b/\b<(n:Int))&&(!bs.contains b&&(decide (ks.length=n)&&(List.range n).all fun i=>if ns.contains (i:Int) then isNo (ks.getD i .none) else isT n k (l-1) (bs ++ [b]) (ns ++ [(i:Int)]) (ks.getD i .none))))
  | _=>true
theorem zV6(n k l:Nat)(bs ns:List Int):isT n k l bs ns .none=true:=by cases k <;> rfl
theorem zE3(n k l:Nat)(bs ns:List Int)(b:Int)(ks:List D):isT n (k+1) l bs ns (.tuple [.int b,.tuple ks])=(decide (l≠0)&&(decide (0<=b/\b<(n:Int))&&(!bs.contains b&&(decide (ks.length=n)&&(List.range n).all fun i=>if ns.contains (i:Int) then isNo (ks.getD i .none) else isT n k (l-1) (bs ++ [b]) (ns ++ [(i:Int)]) (ks.getD i .none))))):=rfl
theorem bR(p:Nat->Bool):∀n:Nat,(List.range n).all p=false->∃j,j<n/\p j=false/\∀i,i<j->p i=true
 | 0,h=>by cases h
 | n+1,h=>by
  rw[CQ,List.all_append] at h
  cases c:(List.range n).all p with
  | false =>
   obtain⟨j,a,b,d⟩:=bR p n c
   exact⟨j,by rfl',b,d⟩
  | true =>
   rw[c] at h
   have hp:p n=false:=by simpa using h
   exact⟨n,CK n,hp,fun i hi=>AS.mp c i (AD.mpr hi)⟩
theorem yA6(ks:List D):ks=(List.range ks.length).map fun i=>ks.getD i .none:=by
 refine List.ext_getElem? fun i => ?_
 rw[AA]
 by_cases h:i<ks.length
 ·rw[Bk h,BN,List.getD,Aj h]
  rfl
 ·rw[By (by rfl'),By (by simp;rfl')]
  rfl
theorem zK5{ks:List D}{i:Nat}(h:i<ks.length):ks.getD i .none∈ks:=by
 rw[List.getD,Aj h]
 exact Do h
theorem xT4{d:D}(h:isNo d=true):d=.none:=by cases d <;> first | rfl | cases h
theorem dJ(d:D):isND true d .none=some (!isNo d):=by cases d <;> rfl
abbrev mtB(Fself:List D->Res D):Ev->Res Out:=(sQ (sIf (tAn (b2 (isND true) (eV 9) (eC .none)) (b2 (inD false) (eV 8) (eV 4))) (sRa "BadPlan" (aC (eC (.str "a tree goes on by the own name, or by a name found before")) aN)) sN) (sM 7 appD (aC (eF Fself (aC (eV 9) (aC (eV 1) (aC (e2 subI (eV 2) (eC (.int 1))) (aC (e2 catL (eV 3) (eB mkL (aC (eV 5) aN))) (aC (e2 catL (eV 4) (eB mkL (aC (eV 8) aN))) aN)))))) aN)))
theorem raS:(if 0+1<=sizeLine then (Res.ex "BadPlan":Res Out) else .no)=.ex "BadPlan":=Ak (by decide)
theorem yI5{n:Nat}(hn:n<=7):∀(k:Nat) (d:D) (l:Nat) (bs ns:List Int),GT d->l<k->bs.length+l<=100->ns.length+l<=100->wW k [d,.int (n:Int),.int (l:Int),lI bs,lI ns]=if isT n k l bs ns d then .ok d else .ex "BadPlan"
 | 0,d,l,bs,ns,_,h,_,_=>by rfl'
 | k+1,d,l,bs,ns,T,hk,h1,h2=>by
  cases T with
  | none =>
   rw[zV6,Ak rfl]
   show (uK (wW k) [some .none,some (.int (n:Int)),some (.int (l:Int)),some (lI bs),some (lI ns),none,none,none,none,none]).bind (fin false)=_
   unfold uK
   have i0:isND false .none .none=some true:=rfl
   simp![i0]
  | @node b ks hl7 hks =>
   show (uK (wW k) [some (.tuple [.int b,.tuple ks]),some (.int (n:Int)),some (.int (l:Int)),some (lI bs),some (lI ns),none,none,none,none,none]).bind (fin false)=_
   unfold uK
   have i0:isND false (.tuple [.int b,.tuple ks]) .none=some false:=rfl
   have a0:atI [PyData.int b,.tuple ks] 0=some (.int b):=rfl
   have a1:atI [PyData.int b,.tuple ks] 1=some (.tuple ks):=rfl
   rw[zE3]
   by_cases c1:l=0
   ·rw[Ad (show ¬(l≠0) from fun z=>z c1),BL,Ax Ap]
    simp![i0,a0,a1,yN,Aa (show (l:Int)=0 by rfl'),wC,raS]
   rw[Aa (show l≠0 from c1),Bv]
   by_cases c2:0<=b
   ·by_cases c3:b<(n:Int)
    ·rw[Aa (show 0<=b/\b<(n:Int) from ⟨c2,c3⟩),Bv]
     cases c4:bs.contains b with
     | true =>
      rw[BK,BL,Ax Ap]
      simp![i0,a0,a1,yN,Ad (show ¬(l:Int)=0 by rfl'),Aa c2,Aa c3,wI,c4,wC,raS]
     | false =>
      rw[BA,Bv]
      by_cases c5:ks.length=n
      ·rw[Aa c5,Bv]
       have kr:=yA6 ks
       rw[c5] at kr
       obtain⟨f,hf⟩:∃f:Nat->D,f=fun i=>ks.getD i .none:=⟨_,rfl⟩
       have gTT:∀i,i<n->GT (f i):=fun i hi=>by rw[hf];exact hks _ (zK5 (by rfl'))
       have gf:∀i,ks.getD i .none=f i:=fun i=>by rw[hf]
       rw[<-hf] at kr
       simp only[gf]
       rw[kr]
       have hl:((List.range n).map f).length=n:=by rw[Ac,AQ]
       have cb:catL (lI bs) (.list [.int b])=some (lI (bs ++ [b])):=zQ3 (xs:=bs) (ys:=[b]) (by simp;rfl')
       have sb:(l:Int)-1=((l-1:Nat):Int):=by rfl'
       have nn:∀i,catL (lI ns) (.list [.int ((i:Nat):Int)])=some (lI (ns ++ [(i:Int)])):=fun i=>zQ3 (xs:=ns) (ys:=[(i:Int)]) (by simp;rfl')
       have e1:∀i,i<n->wW k [f i,.int (n:Int),.int ((l-1:Nat):Int),lI (bs ++ [b]),lI (ns ++ [(i:Int)])]=if isT n k (l-1) (bs ++ [b]) (ns ++ [(i:Int)]) (f i) then .ok (f i) else .ex "BadPlan":=fun i hi=>yI5 hn k (f i) (l-1) _ _ (gTT i hi) (by rfl') (by simp;rfl') (by simp;rfl')
       have i0':isND false (.tuple [.int b,.tuple ((List.range n).map f)]) .none=some false:=rfl
       have a0':atI [PyData.int b,.tuple ((List.range n).map f)] 0=some (.int b):=rfl
       have a1':atI [PyData.int b,.tuple ((List.range n).map f)] 1=some (.tuple ((List.range n).map f)):=rfl
       have good:∀i,i<n->(if ns.contains (i:Int) then isNo (f i) else isT n k (l-1) (bs ++ [b]) (ns ++ [(i:Int)]) (f i))=true->mtB (wW k) [some (.tuple [.int b,.tuple ((List.range n).map f)]),some (.int (n:Int)),some (.int (l:Int)),some (lI bs),some (lI ns),some (.int b),some (.tuple ((List.range n).map f)),some (.list ((List.range i).map f)),some (.int (i:Int)),some (f i)]=.ok (.nx [some (.tuple [.int b,.tuple ((List.range n).map f)]),some (.int (n:Int)),some (.int (l:Int)),some (lI bs),some (lI ns),some (.int b),some (.tuple ((List.range n).map f)),some (.list ((List.range (i+1)).map f)),some (.int (i:Int)),some (f i)]):=by
        intro i hi g
        have ap:=aM (l:=(List.range i).map f) (d:=f i) (by rw[Ac,AQ];rfl')
        have rs:(List.range i).map f ++ [f i]=(List.range (i+1)).map f:=by rw[CQ,Bh];rfl
        rw[rs] at ap
        have ei:=e1 i hi
        unfold mtB
        cases c:ns.contains (i:Int) with
        | true =>
         rw[c,Ak rfl] at g
         have fi:=xT4 g
         rw[fi,zV6,Ak rfl,<-fi] at ei
         have i1:=dJ (f i)
         rw[g] at i1
         simp![i1,cb,nn,sb,ei,ap]
        | false =>
         rw[c,Ax Ap] at g
         rw[g,Ak rfl] at ei
         have i1:=dJ (f i)
         cases t:isNo (f i) with
         | true =>
          rw[t] at i1
          simp![i1,wI,c,cb,nn,sb,ei,ap]
         | false =>
          rw[t] at i1
          simp![i1,wI,c,cb,nn,sb,ei,ap]
       have gt2:∀(i:Nat) (x y z:Option D),gT 2 (gsC (gN 8) (gsC (gN 9) gsN)) (.tuple [.int (i:Int),f i]) [some (.tuple [.int b,.tuple ((List.range n).map f)]),some (.int (n:Int)),some (.int (l:Int)),some (lI bs),some (lI ns),some (.int b),some (.tuple ((List.range n).map f)),z,x,y]=some [some (.tuple [.int b,.tuple ((List.range n).map f)]),some (.int (n:Int)),some (.int (l:Int)),some (lI bs),some (lI ns),some (.int b),some (.tuple ((List.range n).map f)),z,some (.int (i:Int)),some (f i)]:=fun _ _ _ _=>rfl
       have st:∀(i:Nat) (d:D) (ρ:Ev),((List.range n).map fun (i:Nat)=>PyData.tuple [.int (i:Int),f i])[i]?=some d->(∃x y,ρ=[some (.tuple [.int b,.tuple ((List.range n).map f)]),some (.int (n:Int)),some (.int (l:Int)),some (lI bs),some (lI ns),some (.int b),some (.tuple ((List.range n).map f)),some (.list ((List.range i).map f)),x,y])->i<n/\L3.gT 2 (gsC (gN 8) (gsC (gN 9) gsN)) d ρ=some [some (.tuple [.int b,.tuple ((List.range n).map f)]),some (.int (n:Int)),some (.int (l:Int)),some (lI bs),some (lI ns),some (.int b),some (.tuple ((List.range n).map f)),some (.list ((List.range i).map f)),some (.int (i:Int)),some (f i)]:=by
        rintro i d ρ hd ⟨x,y,rfl⟩
        rw[AA] at hd
        obtain⟨j,ej,rfl⟩:=AK.mp hd
        have hi:i<n:=by simpa using (Au.mp ej).1
        rw[Bk hi] at ej
        cases ej
        exact⟨hi,gt2 i x y _⟩
       simp![i0',a0',a1',yN,Ad (show ¬(l:Int)=0 by rfl'),Aa c2,Aa c3,wI,c4,hl,xJ,decide_true,yY7]
       cases all:(List.range n).all fun i=>if ns.contains (i:Int) then isNo (f i) else isT n k (l-1) (bs ++ [b]) (ns ++ [(i:Int)]) (f i) with
       | true =>
        rw[Ak rfl]
        refine zR8 (fun i ρ=>∃x y,ρ=[some (.tuple [.int b,.tuple ((List.range n).map f)]),some (.int (n:Int)),some (.int (l:Int)),some (lI bs),some (lI ns),some (.int b),some (.tuple ((List.range n).map f)),some (.list ((List.range i).map f)),x,y]) ⟨none,none,rfl⟩ ?_ ?_
        ·intro i d ρ hd hp
         obtain⟨hi,eg⟩:=st i d ρ hd hp
         exact⟨_,_,eg,good i hi (AS.mp all i (AD.mpr hi)),_,_,rfl⟩
        ·rintro ρ ⟨x,y,rfl⟩
         rw[Ac,AQ]
         simp -implicitDefEqProofs only[(evA)]
       | false =>
        rw[Ax Ap]
        obtain⟨j,hj,bj,bef⟩:=bR _ n all
        have ex:=yC3 (g:=L3.gT 2 (gsC (gN 8) (gsC (gN 9) gsN))) (b:=mtB (wW k)) (c:="BadPlan") (fun i ρ=>∃x y,ρ=[some (.tuple [.int b,.tuple ((List.range n).map f)]),some (.int (n:Int)),some (.int (l:Int)),some (lI bs),some (lI ns),some (.int b),some (.tuple ((List.range n).map f)),some (.list ((List.range i).map f)),x,y]) ((List.range n).map fun (i:Nat)=>PyData.tuple [.int (i:Int),f i]) [some (.tuple [.int b,.tuple ((List.range n).map f)]),some (.int (n:Int)),some (.int (l:Int)),some (lI bs),some (lI ns),some (.int b),some (.tuple ((List.range n).map f)),some (.list []),none,none] j (.tuple [.int (j:Int),f j]) (by rw[AA,Bk hj];rfl) ⟨none,none,rfl⟩
         (fun i d ρ hij hd hp=>by
          obtain⟨hi,eg⟩:=st i d ρ hd hp
          exact⟨_,_,eg,good i hi (bef i hij),_,_,rfl⟩)
         (by
          rintro ρ ⟨x,y,rfl⟩
          refine⟨_,gt2 j x y _,?_⟩
          unfold mtB
          have ei:=e1 j hj
          have i1:=dJ (f j)
          cases c:ns.contains (j:Int) with
          | true =>
           rw[c,Ak rfl] at bj
           rw[bj] at i1
           simp![i1,wI,c,wC,raS]
          | false =>
           rw[c,Ax Ap] at bj
           rw[bj,Ax Ap] at ei
           cases t:isNo (f j) with
           | true =>
            rw[t] at i1
            simp![i1,wI,c,cb,nn,sb,ei]
           | false =>
            rw[t] at i1
            simp![i1,wI,c,cb,nn,sb,ei])
        rw[ex]
        rfl
      ·rw[Ad c5,BL,Ax Ap]
       simp![i0,a0,a1,yN,Ad (show ¬(l:Int)=0 by rfl'),Aa c2,Aa c3,wI,c4,xJ,Ad (show ¬((ks.length:Nat):Int)=(n:Int) by rfl'),wC,raS]
    ·rw[Ad (show ¬(0<=b/\b<(n:Int)) from fun z=>c3 z.2),BL,Ax Ap]
     simp![i0,a0,a1,yN,Ad (show ¬(l:Int)=0 by rfl'),Aa c2,Ad c3,wC,raS]
   ·rw[Ad (show ¬(0<=b/\b<(n:Int)) from fun z=>c2 z.1),BL,Ax Ap]
    simp![i0,a0,a1,yN,Ad (show ¬(l:Int)=0 by rfl'),Ad c2,wC,raS]
def gO(os:List Int):Bool:=decide (1<=os.length)&&(decide (os.length<=6)&&os.all fun x=>decide (0<=x)&&decide (x<=(os.length:Int)))
theorem fE{os:List Int}(h:gO os=true):1<=os.length/\os.length<=6/\Opn os.length os:=by
 unfold gO at h
 rw[Ay,Ay,decide_eq_true_eq,decide_eq_true_eq,AS] at h
 refine⟨h.1,h.2.1,rfl,fun x hx => ?_⟩
 have:=h.2.2 x hx
 rw[Ay,decide_eq_true_eq,decide_eq_true_eq] at this
 exact this
theorem xL7{os:List Int}{n:Nat}(q:Opn n os)(h1:1<=n)(h2:n<=6):gO os=true:=by
 have e:=q.len
 subst e
 unfold gO
 rw[Aa h1,Aa h2,Bv,Bv,AS]
 intro x hx
 have:=q.bd x hx
 rw[Aa this.1,Aa this.2]
 rfl
theorem xR2{os:List Int}(h:gO os=false)(h6:os.length<=6):BadO (os.length:Int) os:=by
 rintro ⟨a,_,_,d⟩
 have:gO os=true:=xL7 ⟨rfl,d⟩ (by rfl') h6
 rw[h] at this
 cases this
theorem bA(os:List Int):yG [tI os]=if gO os=true then .ok (tI os) else .ex "BadOpenings":=by
 cases g:gO os with
 | true =>
  obtain⟨h1,h2,q⟩:=fE g
  rw[Ak rfl]
  exact dD q h1 h2
 | false =>
  rw[Ax Ap]
  show (xF [some (tI os)]).bind (fin false)=_
  unfold xF
  by_cases c:6<os.length
  ·have z:(if 0+1<=sizeLine then (Res.ex "BadOpenings":Res Out) else .no)=.ex "BadOpenings":=Ak (by decide)
   simp![Ac,Aa (show (6:Int)<(os.length:Int) by rfl'),wC,z]
  ·simp![Ac,Ad (show ¬(6:Int)<(os.length:Int) by rfl'),zW5 (.inr rfl) (xR2 g (by rfl'))]
def gP(os:List Int)(ts:List D):Bool:=decide (ts.length=os.length)&&(List.range os.length).all fun p=>isT os.length 14 (os.getD p 0).toNat [] [(p:Int)] (ts.getD p .none)
theorem yC6{os:List Int}{ts:List D}{d:D}(hd:d=.list ts\/d=.tuple ts)(hg:gO os=true->∀t∈ts,GT t):fL [tI os,d]=if gO os=true then (if gP os ts=true then .ok (.tuple ts) else .ex "BadPlan") else .ex "BadOpenings":=by
 show (fJ [some (tI os),some d,none,none]).bind (fin false)=_
 unfold fJ
 have e:=bA os
 cases g:gO os with
 | false =>
  rw[g,Ax Ap] at e
  rw[Ax Ap]
  simp![e]
 | true =>
  rw[g,Ak rfl] at e
  rw[Ak rfl]
  obtain⟨h1,h2,q⟩:=fE g
  have hg:=hg g
  have ln:lenD [d]=some (.int (ts.length:Int)):=by
   rcases hd with rfl | rfl
   ·rw[dI];simp only[zE8,BN]
   ·rw[dI];simp only[zG6,BN]
  unfold gP
  by_cases c:ts.length=os.length
  ·rw[Aa c,Bv]
   have kr:=yA6 ts
   rw[c] at kr
   have en:wV (eV 1) [some (tI os),some d,some (tI os),some (.int (os.length:Int))]=.ok ((List.range os.length).map fun (i:Nat)=>PyData.tuple [.int (i:Int),ts.getD i .none]):=by
    have e:=yY7 os.length fun i=>ts.getD i .none
    rw[<-kr] at e
    rcases hd with rfl | rfl
    ·simp![e]
    ·simp![e]
   have cc:eComp2X (wV (eV 1)) tYes (eF vV (aC (eV 1) (aC (eV 2) (aC (e2 ixD (eV 3) (eV 0)) (aC (eB mkL aN) (aC (eB mkL (aC (eV 0) aN)) aN)))))) [3,2] [some (tI os),some d,some (tI os),some (.int (os.length:Int))]=if ((List.range os.length).all fun p=>isT os.length 14 (os.getD p 0).toNat [] [(p:Int)] (ts.getD p .none))=true then .ok (.list ts) else .ex "BadPlan":=by
    have st:∀q∈List.range os.length,eF vV (aC (eV 1) (aC (eV 2) (aC (e2 ixD (eV 3) (eV 0)) (aC (eB mkL aN) (aC (eB mkL (aC (eV 0) aN)) aN))))) (cEnv2 [some (tI os),some d,some (tI os),some (.int (os.length:Int))] [3,2] (.int (q:Int)) (ts.getD q .none))=if isT os.length 14 (os.getD q 0).toNat [] [(q:Int)] (ts.getD q .none)=true then .ok (ts.getD q .none) else .ex "BadPlan":=by
     intro p hp
     have hp:=AD.mp hp
     have b:=q.at hp
     have a:=yX3 q hp
     have m:=yI5 (show os.length<=7 by rfl') 14 (ts.getD p .none) (os.getD p 0).toNat [] [(p:Int)] (hg _ (zK5 (by rfl'))) (by rfl') (by show 0+_<=100;rfl') (by show 1+_<=100;rfl')
     have m':vV [ts.getD p .none,.int (os.length:Int),.int ((os.getD p 0).toNat:Int),.list [],.list [.int (p:Int)]]=_:=m
     show eF vV _ [some (.int (p:Int)),some (ts.getD p .none),some (.int (os.length:Int)),some (tI os)]=_
     simp![a,m']
    by_cases al:((List.range os.length).all fun p=>isT os.length 14 (os.getD p 0).toNat [] [(p:Int)] (ts.getD p .none))=true
    ·rw[Ak al]
     have:=yR8 (me:=eF vV (aC (eV 1) (aC (eV 2) (aC (e2 ixD (eV 3) (eV 0)) (aC (eB mkL aN) (aC (eB mkL (aC (eV 0) aN)) aN)))))) (js:=[3,2]) (fun i:Nat=>PyData.int (i:Int)) (fun i=>ts.getD i .none) (fun i=>ts.getD i .none) (List.range os.length) en (by rw[AQ];rfl') fun p hp=>by
      rw[st p hp,Ak (AS.mp al p hp)]
     rw[this,<-kr]
    ·rw[Ax al]
     refine yT9 (fun i:Nat=>PyData.int (i:Int)) (fun i=>ts.getD i .none) (List.range os.length) en (by rw[AQ];rfl') (fun p hp => ?_) ?_
     ·rw[st p hp]
      split
      ·exact .inl ⟨_,rfl⟩
      ·exact .inr rfl
     ·obtain⟨j,hj,bj,_⟩:=bR (fun p=>isT os.length 14 (os.getD p 0).toNat [] [(p:Int)] (ts.getD p .none)) os.length (by simpa using al)
      refine⟨j,AD.mpr hj,?_⟩
      rw[st j (AD.mpr hj),bj,Ax Ap]
   split at cc
   ·rename_i h
    rw[Ak h]
    simp![e,Ac,ln,c,xJ,decide_true,cc]
   ·rename_i h
    rw[Ax h]
    simp![e,Ac,ln,c,xJ,decide_true,cc]
  ·rw[Ad c,BL,Ax Ap]
   simp![e,Ac,ln,xJ,Ad (show ¬((ts.length:Nat):Int)=(os.length:Int) by rfl'),wC,raS]
def ttx:Nat->D->Str
 | k+1,.tuple [.int b,.tuple ts]=>toString b ++ "("++Str.join " " (ts.map (ttx k)) ++ ")"
 | _,_=>"-"
theorem hJ(l:Nat):ttx l .none="-":=by cases l <;> rfl
theorem cN(l b:Nat)(ts:List D):ttx (l+1) (.tuple [.int (b:Int),.tuple ts])=numT b ++ "("++Str.join " " (ts.map (ttx l)) ++ ")":=rfl
theorem zP4{n:Nat}(hn:n<=6){l:Nat}{bs ns:List Int}{d:D}(T:TreeOk n l bs ns d):l<=6->5*(ttx l d).length+11<=16*6 ^ l/\PyData.strOk (ttx l d)=true/\10∉tl (ttx l d):=by
 induction T with
 | none =>
  intro _
  rw[hJ]
  refine⟨?_,by decide +kernel,by decide⟩
  have:0<6 ^ (‹Nat›:Nat):=Nat.pow_pos (by decide)
  have e:("-":Str).length=1:=rfl
  rw[e]
  rfl'
 | @node l bs ns b f hb _ _ _ ih =>
  intro hl
  have nb:=vK b (by rfl')
  rw[cN]
  have c1:("(":Str).length=1:=rfl
  have c2:(")":Str).length=1:=rfl
  have six:(6:Nat) ^ (l+1)=6*6 ^ l:=Nat.pow_succ'
  have small:6 ^ l<=6 ^ 6:=CJ (by decide) (by rfl')
  have e6:(6:Nat) ^ 6=46656:=by decide
  have each:∀t∈((List.range n).map f).map (ttx l),(5*t.length+11<=16*6 ^ l)/\PyData.strOk t=true/\10∉tl t:=fun t ht=>by
   rw[Bd] at ht
   obtain⟨i,hi,rfl⟩:=AR.mp ht
   exact ih i (AD.mp hi) (by rfl')
  obtain⟨B,hB⟩:∃B,B=(16*6 ^ l-11) / 5:=⟨_,rfl⟩
  have j:=yU4 (sep:=" ") (ts:=((List.range n).map f).map (ttx l)) (B:=B) (n:=6) rfl (by simp;exact hn) (fun t ht=>by have:=(each t ht).1;rfl') (by rfl')
  refine⟨?_,?_,?_⟩
  ·rw[Ag,Ag,Ag,c1,c2,six]
   have:=nb.1.1
   have:=j.2
   have:0<6 ^ l:=Nat.pow_pos (by decide)
   rfl'
  ·exact vR (vR (vR nb.2.2.2.2.1 (by decide +kernel)) (zV5 (by decide +kernel) _ fun t ht=>(each t ht).2.1)) (by decide +kernel)
  ·have jn:∀ts:List Str,(∀t∈ts,10∉tl t)->10∉tl (Str.join " " ts):=fun ts=>by
    induction ts with
    | nil=>exact fun _ z=>by cases z
    | cons a r ih2 =>
     intro h
     cases r with
     | nil=>exact h a Ae
     | cons b r =>
      rw[vO,zJ,zJ]
      intro z
      rcases AB.mp z with z | z
      ·rcases AB.mp z with z | z
       ·exact h a Ae z
       ·exact absurd z (by decide)
      ·exact ih2 (fun x hx=>h x (Ai _ hx)) z
   intro z
   rw[zJ,zJ,zJ] at z
   rcases AB.mp z with z | z
   ·rcases AB.mp z with z | z
    ·rcases AB.mp z with z | z
     ·exact nb.2.2.2.2.2.2.2.2 z
     ·exact absurd z (by decide)
    ·exact jn _ (fun t ht=>(each t ht).2.2) z
   ·exact absurd z (by decide)
theorem yK7{n:Nat}(hn:n<=6){l:Nat}{bs ns:List Int}{d:D}(T:TreeOk n l bs ns d)(hl:l<=6):(ttx l d).length<=150000:=by
 have h:=(zP4 hn T hl).1
 have small:6 ^ l<=6 ^ 6:=CJ (by decide) hl
 have e6:(6:Nat) ^ 6=46656:=by decide
 rfl'
theorem xT1{n:Nat}(hn:n<=6){l:Nat}{bs:List Int}{ns:Nat->List Int}{f:Nat->D}(T:∀i,i<n->TreeOk n l bs (ns i) (f i))(hl:l<=5):JoinOk " " (((List.range n).map f).map (ttx l))=true/\(Str.join " " (((List.range n).map f).map (ttx l))).length<=150000:=by
 have small:6 ^ l<=6 ^ 5:=CJ (by decide) hl
 have e6:(6:Nat) ^ 5=7776:=by decide
 have j:=yU4 (sep:=" ") (ts:=((List.range n).map f).map (ttx l)) (B:=24900) (n:=6) rfl (by simp;exact hn) (fun t ht=>by
  rw[Bd] at ht
  obtain⟨i,hi,rfl⟩:=AR.mp ht
  have:=(zP4 hn (T i (AD.mp hi)) (by rfl')).1
  show (ttx l (f i)).length<=24900
  rfl') (by decide)
 exact⟨j.1,by have:=j.2;rfl'⟩
theorem kB:1000000<=sizeLine:=by decide
theorem xI4{n:Nat}(hn:n<=6){l:Nat}{bs ns:List Int}{d:D}(T:TreeOk n l bs ns d):∀k,l<k->l<=6->xD k [d]=.ok (.str (ttx l d)):=by
 induction T with
 | @none l bs ns =>
  intro k hk _
  obtain⟨k,rfl⟩:∃j,k=j+1:=⟨k-1,by rfl'⟩
  have i0:isND false .none .none=some true:=rfl
  rw[hJ]
  show (vH (xD k) [some .none]).bind (fin false)=_
  unfold vH
  simp![i0]
 | @node l bs ns b f hb nb hf Tk ih =>
  intro k hk hl
  obtain⟨k,rfl⟩:∃j,k=j+1:=⟨k-1,by rfl'⟩
  have i0:isND false (.tuple [.int (b:Int),.tuple ((List.range n).map f)]) .none=some false:=rfl
  have a0:atI [PyData.int (b:Int),.tuple ((List.range n).map f)] 0=some (.int (b:Int)):=rfl
  have a1:atI [PyData.int (b:Int),.tuple ((List.range n).map f)] 1=some (.tuple ((List.range n).map f)):=rfl
  obtain⟨j1,j2⟩:=xT1 hn Tk (by rfl')
  have jd:=zW3 j1
  have nk:=vK b (by rfl')
  have so:strOfD [.int (b:Int)]=some (.str (numT b)):=Ak nk.2.2.2.1
  have bl:=kB
  have c1:("(":Str).length=1:=rfl
  have c2:(")":Str).length=1:=rfl
  have n2:=nk.1.1
  rw[cN]
  have cc:eComp (iS (e2 ixD (eV 0) (eC (.int 1)))) tYes (eF (xD k) (aC (eV 0) aN)) [] [some (.tuple [.int (b:Int),.tuple ((List.range n).map f)])]=.ok (.list ((((List.range n).map f).map (ttx l)).map PyData.str)):=by
   rw[Bd,Bd]
   refine fV f (fun i=>PyData.str (ttx l (f i))) (List.range n) (by simp![a1]) (by rw[AQ];rfl') fun i hi => ?_
   have e:=ih i (AD.mp hi) k (by rfl') (by rfl')
   show eF (xD k) (aC (eV 0) aN) [some (f i)]=_
   simp![e]
  have k1:catS (.str (numT b)) (.str "(")=some (.str (numT b ++ "(")):=Ak (by rfl')
  have k2:catS (.str (numT b ++ "(")) (.str (Str.join " " (((List.range n).map f).map (ttx l))))=some (.str (numT b ++ "("++Str.join " " (((List.range n).map f).map (ttx l)))):=Ak (by rw[Ag];rfl')
  have k3:catS (.str (numT b ++ "("++Str.join " " (((List.range n).map f).map (ttx l)))) (.str ")")=some (.str (numT b ++ "("++Str.join " " (((List.range n).map f).map (ttx l)) ++ ")")):=Ak (by rw[Ag,Ag];rfl')
  show (vH (xD k) [some (.tuple [.int (b:Int),.tuple ((List.range n).map f)])]).bind (fin false)=_
  unfold vH
  simp![i0,a0,so,k1,yI,yS,cc,jd,k2,k3]
theorem uN{a s:Str}{w:Int}(h:(a++s).length<=1000000):yQ [.str (a++s),.str a,.int w]=.ok (.str s):=by
 have bl:=kB
 have la:a.length<=(a++s).length:=by rw[Ag];rfl'
 have e1:stwD (a++s) (.str a)=some (.bool true):=by
  unfold stwD
  rw[yS,BN,yO5]
 have e2':lenTD [.str a]=some (.int (a.length:Int)):=Ak (by rfl')
 have e3:slS (.str (a++s)) (some (a.length:Int)) none=some (.str s):=by
  unfold slS
  rw[yS,Az,Ak (by rfl'),yT1]
 show (vI [some (.str (a++s)),some (.str a),some (.int w)]).bind (fin false)=_
 unfold vI
 simp![yI,yS,e1,e2',e3]
inductive TW(p:Nat):Nat->D->Str->Prop
 | none {k:Nat}:TW p k .none "-"
 | node {k:Nat}(w:Str) (ds:List D) (ss:List Str):Wd w->ds.length=p->ss.length=p->(∀(i:Nat) (d:D) (s:Str),ds[i]?=some d->ss[i]?=some s->TW p k d s)->TW p (k+1) (.tuple [.int (dv w:Int),.tuple ds]) (w++("("++(Str.join " " ss ++ ")")))
theorem TW.mono{p k k':Nat}{d:D}{s:Str}(T:TW p k d s):k<=k'->TW p k' d s:=by
 induction T generalizing k' with
 | none=>exact fun _=>.none
 | @node k w ds ss hw h1 h2 _ ih =>
  intro h
  obtain⟨j,rfl⟩:∃j,k'=j+1:=⟨k'-1,by rfl'⟩
  exact .node w ds ss hw h1 h2 fun i d s a b=>ih i d s a b (by rfl')
abbrev NF:Int->Str:=NMR
theorem yC8{s sg:Str}(h:Txt.startswith s sg=true):∃s1,s=sg++s1:=by
 rw[bW] at h
 refine⟨⟨((tl s).drop sg.length).toArray⟩,yB ?_⟩
 show tl s=tl (sg ++ ⟨((tl s).drop sg.length).toArray⟩)
 rw[zJ,uT ((tl s).drop sg.length),<-h,Dj]
theorem gG{s:Str}(sg:Str)(hs:s.length<=1000000){r:Int}(h0:0<=r/\r<16):(∃s1,s=sg++s1/\yQ [.str s,.str sg,.int r]=.ok (.str s1))\/(Txt.startswith s sg=false/\yQ [.str s,.str sg,.int r]=.ex (NF r)):=by
 cases h:Txt.startswith s sg with
 | true =>
  obtain⟨s1,rfl⟩:=yC8 h
  exact .inl ⟨s1,rfl,uN hs⟩
 | false =>
  refine .inr ⟨rfl,?_⟩
  have e1:stwD s (.str sg)=some (.bool false):=by
   unfold stwD
   rw[yS,BN,h]
  have ra:sRaI NF (aC (eV 2) aN) [some (.str s),some (.str sg),some (.int r)]=.ex (NF r):=raR h0 rfl
  show (vI [some (.str s),some (.str sg),some (.int r)]).bind (fin false)=_
  unfold vI
  simp![yI,yS,e1,ra]
theorem zL5{c:Nat}:∀{l:List Nat},c∈l->∃a b,l=a++c::b/\c∉a
 | x::l,h=>by
  by_cases e:c=x
  ·exact⟨[],l,by rw[e];rfl,fun z=>by cases z⟩
  ·obtain⟨a,b,h1,h2⟩:=zL5 ((Aw.mp h).resolve_left e)
   exact⟨x::a,b,by rw[h1];rfl,fun z=>(Aw.mp z).elim e h2⟩
theorem zC9(s:Str):(∃a b,s=a++("("++b)/\(Txt.partition s "(").1=a/\(Txt.partition s "(").2.2=b)\/((Txt.partition s "(").1=s/\(Txt.partition s "(").2.2=""):=by
 by_cases h:40∈tl s
 ·obtain⟨a,b,e,na⟩:=zL5 h
  refine .inl ⟨⟨a.toArray⟩,⟨b.toArray⟩,?_⟩
  have es:s=⟨a.toArray⟩++("(" ++ ⟨b.toArray⟩):=yB (by show tl s=_;rw[zJ,zJ,uT a,uT b,e];rfl)
  have pa:=zE4 (a:=⟨a.toArray⟩) (y:="(") (s:=⟨b.toArray⟩) (c:=40) rfl (by rw[uT];exact na)
  rw[<-es] at pa
  exact⟨es,pa⟩
 ·refine .inr ?_
  unfold Txt.partition
  rcases PySem.StrLaws.occ_head s "(" 1 (Al 1) with ⟨e,_⟩ | ⟨i,r,e,hi,_⟩
  ·rw[e]
   exact⟨rfl,rfl⟩
  ·have a:=(aX (by decide)).mp hi
   have:(40:Nat)∈((tl s).drop i).take ("(":Str).length:=by rw[a];decide
   exact absurd (Ce (Dt this)) h
theorem xP5:Tx 20000 "":=⟨by decide,fun c hc=>by
 have t:tl "" = []:=by decide +kernel
 rw[t] at hc
 cases hc⟩
def Oc(r:Int)(o:Res D):Prop:=o=.ex (NF r)\/∃t,o=.ok t
def FOk(p:Nat)(fs:Fs):Prop:=∀f∈fs,f.2.length<=p-1
theorem uL{B:Nat}{a b:Str}(h:Tx B (a++b)):Tx (B-a.length) b:=by
 have l:=h.len
 rw[Ag] at l
 exact⟨by rfl',fun c hc=>h.asc c (by rw[zJ];exact Ah _ hc)⟩
theorem yH2{B:Nat}{a b:Str}(h:Tx B (a++b)):Tx B a:=by
 have l:=h.len
 rw[Ag] at l
 exact⟨by rfl',fun c hc=>h.asc c (by rw[zJ];exact AW _ hc)⟩
section
variable {p:Nat}{r:Int}
theorem yM3(p1:1<=p)(p6:p<=6)(h0:0<=r/\r<16):∀(fs:Fs) (s:Str) (d:D),(∀s' fs',s'.length<s.length->Tx 20000 s'->FOk p fs'->fs'.length+s'.length<=40000->∃o m,X.Run yZ yQ NF r (p:Int) o m none s' fs'/\Oc r o)->Tx 20000 s->FOk p fs->fs.length+s.length<=40000 ->
  ∃o m,X.Run yZ yQ NF r (p:Int) o m (some d) s fs/\Oc r o
 | [],s,d,_,ts,_,_=>by
  by_cases e:s=""
  ·exact⟨.ok d,1,⟨ts.ok,.inl ⟨e,rfl⟩⟩,.inr ⟨d,rfl⟩⟩
  ·exact⟨.ex (NF r),1,⟨ts.ok,.inr ⟨e,h0,rfl⟩⟩,.inl rfl⟩
 | (n,ds)::fs,s,d,IH,ts,fo,l=>by
  have dl:=fo (n,ds) Ae
  have dl:ds.length<=p-1:=dl
  have ls:=ts.len
  rw[Aq] at l
  by_cases c:(ds.length:Int)=(p:Int)-1
  ·rcases gG ")" (show s.length<=1000000 by rfl') h0 with ⟨s1,rfl,e⟩ | ⟨_,e⟩
   ·have t1:=uL ts
    have c1:(")":Str).length=1:=rfl
    have la:(")"++s1:Str).length=1+s1.length:=by rw[Ag,c1]
    obtain⟨o,m,R,ho⟩:=yM3 p1 p6 h0 fs s1 (.tuple [.int n,.tuple (ds ++ [d])]) (fun s' fs' h=>IH s' fs' (by rfl')) (t1.mono (by rfl')) (fun f hf=>fo f (Ai _ hf)) (by rfl')
    exact⟨o,m+1,⟨by rfl',.inl ⟨c,.inl ⟨s1,e,R⟩⟩⟩,ho⟩
   ·exact⟨.ex (NF r),1,⟨by rfl',.inl ⟨c,.inr ⟨_,e,rfl⟩⟩⟩,.inl rfl⟩
  ·rcases gG " " (show s.length<=1000000 by rfl') h0 with ⟨s1,rfl,e⟩ | ⟨_,e⟩
   ·have t1:=uL ts
    have c1:(" ":Str).length=1:=rfl
    have la:(" "++s1:Str).length=1+s1.length:=by rw[Ag,c1]
    obtain⟨o,m,R,ho⟩:=IH s1 ((n,ds ++ [d])::fs) (by rfl') (t1.mono (by rfl')) (fun f hf=>by
     rcases Aw.mp hf with rfl | hf
     ·show (ds ++ [d]).length<=p-1
      rw[Af]
      have:[d].length=1:=rfl
      rfl'
     ·exact fo f (Ai _ hf)) (by rw[Aq];rfl')
    exact⟨o,m+1,⟨by rfl',.inr ⟨c,.inl ⟨s1,e,R⟩⟩⟩,ho⟩
   ·exact⟨.ex (NF r),1,⟨by rfl',.inr ⟨c,.inr ⟨_,e,rfl⟩⟩⟩,.inl rfl⟩
theorem yV1(p1:1<=p)(p6:p<=6)(h0:0<=r/\r<16):∀(L:Nat) (s:Str) (fs:Fs),s.length<L->Tx 20000 s->FOk p fs->fs.length+s.length<=40000->∃o m,X.Run yZ yQ NF r (p:Int) o m none s fs/\Oc r o
 | 0,s,fs,h,_,_,_=>by rfl'
 | L+1,s,fs,h,ts,fo,l=>by
  have bl:=kB
  have ls:=ts.len
  have IH:=yV1 p1 p6 h0 L
  cases st:Txt.startswith s "-" with
  | true =>
   rcases gG "-" (show s.length<=1000000 by rfl') h0 with ⟨s1,rfl,e⟩ | ⟨z,_⟩
   ·have t1:=uL ts
    have c1:("-":Str).length=1:=rfl
    have la:("-"++s1:Str).length=1+s1.length:=by rw[Ag,c1]
    obtain⟨o,m,R,ho⟩:=yM3 p1 p6 h0 fs s1 .none (fun s' fs' h=>IH s' fs' (by rfl')) (t1.mono (by rfl')) fo (by rfl')
    exact⟨o,m+1,⟨⟨by rfl',by rfl'⟩,.inl ⟨st,.inl ⟨s1,e,R⟩⟩⟩,ho⟩
   ·rw[st] at z
    cases z
  | false =>
   have push:∀(n:Int) (b:Str),b.length<s.length->Tx 20000 b->∃o m,X.Run yZ yQ NF r (p:Int) o m none b ((n,[])::fs)/\Oc r o:=fun n b lb tb=>IH b ((n,[])::fs) (by rfl') tb (fun f hf=>by
    rcases Aw.mp hf with rfl | hf
    ·exact AM _
    ·exact fo f hf) (by rw[Aq];rfl')
   rcases zC9 s with ⟨a,b,es,e1,e2⟩ | ⟨e1,e2⟩
   ·have c1:("(":Str).length=1:=rfl
    have la:s.length=a.length+(1+b.length):=by rw[es,Ag,Ag,c1]
    have ta:Tx 20000 a:=yH2 (b:="("++b) (by rw[<-es];exact ts)
    have tb:Tx 20000 b:=(uL (a:="(") (uL (a:=a) (b:="("++b) (by rw[<-es];exact ts))).mono (by rfl')
    rcases kF ta h0 with ⟨_,e⟩ | ⟨_,e⟩
    ·obtain⟨o,m,R,ho⟩:=push (dv a) b (by rfl') tb
     exact⟨o,m+1,⟨⟨by rfl',by rfl'⟩,.inr ⟨st,.inl ⟨_,by rw[e1];exact e,by rw[e2];exact R⟩⟩⟩,ho⟩
    ·exact⟨.ex (NF r),1,⟨⟨by rfl',by rfl'⟩,.inr ⟨st,.inr ⟨_,by rw[e1];exact e,rfl⟩⟩⟩,.inl rfl⟩
   ·rcases kF ts h0 with ⟨wd,e⟩ | ⟨_,e⟩
    ·have ne:0<s.length:=by
      rw[<-yY]
      exact Bi.mpr wd.1.2
     obtain⟨o,m,R,ho⟩:=push (dv s) "" ne xP5
     exact⟨o,m+1,⟨⟨by rfl',by rfl'⟩,.inr ⟨st,.inl ⟨_,by rw[e1];exact e,by rw[e2];exact R⟩⟩⟩,ho⟩
    ·exact⟨.ex (NF r),1,⟨⟨by rfl',by rfl'⟩,.inr ⟨st,.inr ⟨_,by rw[e1];exact e,rfl⟩⟩⟩,.inl rfl⟩
def csp:List Str->Str
 | []=>""
 | s::ss=>s++(" "++csp ss)
theorem zJ8(s:Str):""++s=s:=Str.empty_append s
theorem zR6(s:Str):s ++ "" = s:=Str.append_empty s
theorem yX5:∀(ss:List Str) (s:Str),csp (ss ++ [s])=csp ss++(s ++ " ")
 | [],s=>by
  show s++(" " ++ "")=""++(s ++ " ")
  rw[zR6,zJ8]
 | a::ss,s=>by
  show a++(" "++csp (ss ++ [s]))=(a++(" "++csp ss))++(s ++ " ")
  rw[yX5 ss s,xH,xH]
theorem zI4:∀(ss:List Str) (s:Str),Str.join " " (ss ++ [s])=csp ss++s
 | [],s=>(zJ8 s).symm
 | a::ss,s=>by
  rw[List.cons_append,wJ _ _ (by simp),zI4 ss s]
  show _=(a++(" "++csp ss))++s
  rw[xH,xH]
inductive FT(p:Nat):Nat->Fs->Str->Prop
 | nil {k:Nat}:FT p k [] ""
 | cons {k:Nat}{fs:Fs}{pre:Str}(w:Str) (ds:List D) (ss:List Str):FT p k fs pre->Wd w->ds.length=ss.length->(∀(i:Nat) (d:D) (s:Str),ds[i]?=some d->ss[i]?=some s->TW p k d s)->FT p k (((dv w:Int),ds)::fs) (pre++(w++("("++csp ss)))
theorem FT.mono{k k':Nat}{fs:Fs}{pre:Str}(T:FT p k fs pre)(h:k<=k'):FT p k' fs pre:=by
 induction T with
 | nil=>exact .nil
 | cons w ds ss _ hw hl h3 ih=>exact .cons w ds ss ih hw hl fun i d s a b=>(h3 i d s a b).mono h
theorem yZ6{k:Nat}{ds:List D}{ss:List Str}{d:D}{s:Str}(hl:ds.length=ss.length)(h:∀(i:Nat) (d:D) (s:Str),ds[i]?=some d->ss[i]?=some s->TW p k d s)(T:TW p k d s):∀(i:Nat) (d':D) (s':Str),(ds ++ [d])[i]?=some d'->(ss ++ [s])[i]?=some s'->TW p k d' s':=fun i d' s' a b=>by
 by_cases c:i<ds.length
 ·rw[BF c] at a
  rw[BF (by rfl')] at b
  exact h i d' s' a b
 ·rw[BM (by rfl')] at a
  rw[BM (by rfl'),<-hl] at b
  cases j:i-ds.length with
  | zero =>
   rw[j] at a b
   simp at a b
   subst a b
   exact T
  | succ j' =>
   rw[j] at a
   simp at a
theorem jL(p1:1<=p)(h0:0<=r/\r<16){t:D}:∀(m:Nat) (q:Option D) (s:Str) (fs:Fs) (pre:Str) (k:Nat),X.Run yZ yQ NF r (p:Int) (.ok t) m q s fs->Tx 20000 s->FT p k fs pre ->
  match q with
  | none=>∃k',TW p k' t (pre++s)
  | some d=>∀sd,TW p k d sd->∃k',TW p k' t (pre++(sd++s))
 | 0,_,_,_,_,_,R,_,_=>R.elim
 | m+1,none,s,fs,pre,k,R,ts,T=>by
  have ls:=ts.len
  rcases R.2 with ⟨st,⟨s1,e,R1⟩ | ⟨c,_,e⟩⟩ | ⟨st,⟨n,e,R1⟩ | ⟨c,_,e⟩⟩
  ·rcases gG "-" (show s.length<=1000000 by rfl') h0 with ⟨s2,rfl,e2⟩ | ⟨z,_⟩
   ·rw[e2] at e
    cases e
    exact jL p1 h0 m (some .none) s1 fs pre k R1 ((uL ts).mono (by rfl')) T "-" .none
   ·rw[st] at z
    cases z
  ·cases e
  ·rcases zC9 s with ⟨a,b,es,e1,e2⟩ | ⟨e1,e2⟩
   ·have ta:Tx 20000 a:=yH2 (b:="("++b) (by rw[<-es];exact ts)
    have tb:Tx 20000 b:=(uL (a:="(") (uL (a:=a) (b:="("++b) (by rw[<-es];exact ts))).mono (by rfl')
    rw[e1] at e
    rw[e2] at R1
    rcases kF ta h0 with ⟨wd,e'⟩ | ⟨_,e'⟩
    ·rw[e'] at e
     cases e
     obtain⟨k',h⟩:=jL p1 h0 m none b _ _ k R1 tb (.cons a [] [] T wd rfl fun i d s a=>by simp at a)
     refine⟨k',?_⟩
     have eq:(pre++(a++("("++csp [])))++b=pre++s:=by
      rw[es]
      show (pre++(a++("(" ++ "")))++b=_
      rw[zR6,xH,xH]
     rw[<-eq]
     exact h
    ·rw[e'] at e
     cases e
   ·rw[e1] at e
    rw[e2] at R1
    exfalso
    cases m with
    | zero=>exact R1
    | succ m =>
     have s0:Txt.startswith "" "-" = false:=by decide +kernel
     have p0:(Txt.partition "" "(").1="":=by decide +kernel
     rcases R1.2 with ⟨st',_⟩ | ⟨_,⟨n',e',_⟩ | ⟨c,_,e'⟩⟩
     ·rw[s0] at st'
      cases st'
     ·rw[p0] at e'
      rcases kF xP5 h0 with ⟨wd,_⟩ | ⟨_,e2'⟩
      ·exact wd.1.2 (by decide +kernel)
      ·rw[e2'] at e'
       cases e'
     ·cases e'
  ·cases e
 | m+1,some d,s,[],pre,k,R,ts,T=>by
  intro sd Td
  rcases R.2 with ⟨rfl,e⟩ | ⟨_,_,e⟩
  ·cases e
   cases T
   refine⟨k,?_⟩
   rw[zR6,zJ8]
   exact Td
  ·cases e
 | m+1,some d,s,(n,ds)::fs,pre,k,R,ts,T=>by
  intro sd Td
  have ls:=ts.len
  cases T with
  | cons w ds ss T hw hl hk =>
   rename_i pre0
   rcases R.2 with ⟨c,⟨s1,e,R1⟩ | ⟨x,_,e⟩⟩ | ⟨c,⟨s1,e,R1⟩ | ⟨x,_,e⟩⟩
   ·rcases gG ")" (show s.length<=1000000 by rfl') h0 with ⟨s2,rfl,e2⟩ | ⟨_,e2⟩
    ·rw[e2] at e
     cases e
     have node:TW p (k+1) (.tuple [.int (dv w:Int),.tuple (ds ++ [d])]) (w++("("++(Str.join " " (ss ++ [sd]) ++ ")"))):=.node w _ _ hw (by rw[Af];have:[d].length=1:=rfl;rfl') (by rw[Af,<-hl];have:[sd].length=1:=rfl;rfl') (yZ6 hl hk Td)
     obtain⟨k',h⟩:=jL p1 h0 m (some _) s1 fs pre0 (k+1) R1 ((uL ts).mono (by rfl')) (T.mono (by rfl')) _ node
     refine⟨k',?_⟩
     have eq:pre0++((w++("("++(Str.join " " (ss ++ [sd]) ++ ")")))++s1)=(pre0++(w++("("++csp ss)))++(sd++(")"++s1)):=by
      rw[zI4]
      simp only[xH]
     rw[<-eq]
     exact h
    ·rw[e2] at e
     cases e
   ·cases e
   ·rcases gG " " (show s.length<=1000000 by rfl') h0 with ⟨s2,rfl,e2⟩ | ⟨_,e2⟩
    ·rw[e2] at e
     cases e
     obtain⟨k',h⟩:=jL p1 h0 m none s1 _ _ k R1 ((uL ts).mono (by rfl')) (.cons w (ds ++ [d]) (ss ++ [sd]) T hw (by rw[Af,Af,hl];rfl) (yZ6 hl hk Td))
     refine⟨k',?_⟩
     have eq:(pre0++(w++("("++csp (ss ++ [sd]))))++s1=(pre0++(w++("("++csp ss)))++(sd++(" "++s1)):=by
      rw[yX5]
      simp only[xH]
     rw[<-eq]
     exact h
    ·rw[e2] at e
     cases e
   ·cases e
theorem xS5{w s:Str}(h:Wd w):(Txt.partition (w++("("++s)) "(").1=w/\(Txt.partition (w++("("++s)) "(").2.2=s/\Txt.startswith (w++("("++s)) "-" = false:=by
 have n40:40∉tl w:=fun z=>by have:=h.1.1 40 z;rfl'
 have n45:45∉tl w:=fun z=>by have:=h.1.1 45 z;rfl'
 obtain⟨a,b⟩:=zE4 (a:=w) (y:="(") (s:=s) (c:=40) rfl n40
 exact⟨a,b,yD3 (c:=45) rfl h.1.2 n45⟩
theorem xT3{w:Str}(h:Wd w){r:Int}(h0:0<=r/\r<16):yZ [.str w,.int r]=.ok (.int (dv w:Int)):=by
 have tx:Tx 20000 w:=⟨by have:=h.2.1;rfl',fun c hc=>by have:=h.1.1 c hc;rfl'⟩
 rcases kF tx h0 with ⟨_,e⟩ | ⟨n,_⟩
 ·exact e
 ·exact absurd h n
theorem yC9(p1:1<=p)(p6:p<=6)(h0:0<=r/\r<16){R:Res D}{k:Nat}{d:D}{sd:Str}(T:TW p k d sd):∀(s:Str) (fs:Fs) (m:Nat),(sd++s).length<=1000000->fs.length+k<=60000->X.Run yZ yQ NF r (p:Int) R m (some d) s fs->∃m',X.Run yZ yQ NF r (p:Int) R m' none (sd++s) fs:=by
 have bl:=kB
 induction T with
 | none =>
  intro s fs m hs hf h
  exact⟨m+1,⟨by rfl',by rfl'⟩,.inl ⟨yO5 _ _,.inl ⟨s,uN hs,h⟩⟩⟩
 | @node k w ds ss hw hd hss hk ih =>
  intro s fs m hs hf h
  have kids:∀(j i:Nat),i+(j+1)=p->(Str.join " " (ss.drop i)++(")"++s)).length<=1000000->∃m',X.Run yZ yQ NF r (p:Int) R m' none (Str.join " " (ss.drop i)++(")"++s)) (((dv w:Int),ds.take i)::fs):=by
   intro j
   induction j with
   | zero =>
    intro i hi hlen
    obtain⟨di,edi⟩:∃x,ds[i]?=some x:=⟨_,Aj (by rfl')⟩
    obtain⟨si,esi⟩:∃x,ss[i]?=some x:=⟨_,Aj (by rfl')⟩
    have es:ss.drop i=[si]:=by
     have g:=(Au.mp esi)
     rw[Bl g.1,g.2,BE (by rfl')]
    have e:Str.join " " (ss.drop i)=si:=by rw[es];rfl
    rw[e] at hlen ⊢
    have hlen2:(")"++s:Str).length<=1000000:=by rw[Ag] at hlen;rfl'
    refine ih i di si edi esi (")"++s) _ (m+1) hlen (by rw[Aq];rfl') ⟨by rw[Bn];rfl',.inl ⟨by rw[Bn];rfl',.inl ⟨s,uN hlen2,?_⟩⟩⟩
    have e2:ds.take i ++ [di]=ds:=by
     have t:ds.take (i+1)=ds.take i ++ [di]:=by rw[List.take_succ,edi];rfl
     rw[<-t,AV (by rfl')]
    rw[e2]
    exact h
   | succ j ihj =>
    intro i hi hlen
    obtain⟨di,edi⟩:∃x,ds[i]?=some x:=⟨_,Aj (by rfl')⟩
    obtain⟨si,esi⟩:∃x,ss[i]?=some x:=⟨_,Aj (by rfl')⟩
    have es:ss.drop i=si::ss.drop (i+1):=by
     have g:=(Au.mp esi)
     rw[Bl g.1,g.2]
    have ne:ss.drop (i+1) ≠ []:=fun z=>by
     have:=AZ List.length z
     rw[As,Ca] at this
     rfl'
    have e:Str.join " " (ss.drop i)++(")"++s)=si++(" "++(Str.join " " (ss.drop (i+1))++(")"++s))):=by
     rw[es,wJ _ _ ne,xH,xH]
    rw[e] at hlen ⊢
    have hlen2:(" "++(Str.join " " (ss.drop (i+1))++(")"++s)):Str).length<=1000000:=by rw[Ag] at hlen;rfl'
    have hlen3:(Str.join " " (ss.drop (i+1))++(")"++s):Str).length<=1000000:=by rw[Ag] at hlen2;rfl'
    obtain⟨m',h'⟩:=ihj (i+1) (by rfl') hlen3
    have e2:ds.take i ++ [di]=ds.take (i+1):=by rw[List.take_succ,edi];rfl
    refine ih i di si edi esi _ _ (m'+1) hlen (by rw[Aq];rfl') ⟨by rw[Bn];rfl',.inr ⟨by rw[Bn];rfl',.inl ⟨_,uN hlen2,?_⟩⟩⟩
    rw[e2]
    exact h'
  have e:(w++("("++(Str.join " " ss ++ ")")))++s=w++("("++(Str.join " " (ss.drop 0)++(")"++s))):=by
   rw[Cj]
   simp only[xH]
  rw[e] at hs ⊢
  have hs2:("("++(Str.join " " (ss.drop 0)++(")"++s)):Str).length<=1000000:=by rw[Ag] at hs;rfl'
  have hs3:(Str.join " " (ss.drop 0)++(")"++s):Str).length<=1000000:=by rw[Ag] at hs2;rfl'
  obtain⟨m',h'⟩:=kids (p-1) 0 (by rfl') hs3
  obtain⟨q1,q2,q3⟩:=xS5 (s:=Str.join " " (ss.drop 0)++(")"++s)) hw
  refine⟨m'+1,⟨by rfl',by rfl'⟩,.inr ⟨q3,.inl ⟨(dv w:Int),by rw[q1];exact xT3 hw h0,?_⟩⟩⟩
  rw[q2]
  exact h'
theorem xO3(p1:1<=p)(p6:p<=6)(h0:0<=r/\r<16){s:Str}(ts:Tx 20000 s):(∃d k,TW p k d s/\jW [.str s,.int (p:Int),.int r]=.ok d)\/((∀d k,k<=60000->¬TW p k d s)/\jW [.str s,.int (p:Int),.int r]=.ex (NF r)):=by
 have ls:=ts.len
 obtain⟨o,m,R,ho⟩:=yV1 p1 p6 h0 (s.length+1) s [] (CK _) ts (fun f hf=>by cases hf) (by show 0+_<=_;rfl')
 have e:=X.xQ5 R
 rcases ho with rfl | ⟨t,rfl⟩
 ·refine .inr ⟨fun d k hk T => ?_,e⟩
  obtain⟨m',R'⟩:=yC9 (r:=r) (R:=.ok d) p1 p6 h0 T "" [] 1 (by rw[zR6];rfl') (by show 0+k<=60000;rfl') ⟨by decide +kernel,.inl ⟨rfl,rfl⟩⟩
  rw[zR6] at R'
  have:=X.kO _ _ _ _ _ R R'
  cases this
 ·obtain⟨k,T⟩:=jL p1 h0 m none s [] "" 0 R ts .nil
  rw[zJ8] at T
  exact .inl ⟨t,k,T,e⟩
end
def opN(ops:List Int):List Nat:=ops.map Int.toNat
theorem xX6{n:Nat}{ops:List Int}(q:Opn n ops):rI' (opN ops)=ops:=by
 unfold rI' opN
 rw[Bd]
 have:∀x∈ops,((fun (b:Nat)=>(b:Int))∘Int.toNat) x=x:=fun x hx=>by
  have:=(q.bd x hx).1
  show ((x.toNat:Nat):Int)=x
  rfl'
 rw[Ci this,List.map_id']
theorem zU8{n:Nat}{ops:List Int}(q:Opn n ops)(hn:n<=6):∀x∈opN ops,x<61:=fun x hx=>by
 obtain⟨y,hy,rfl⟩:=AR.mp hx
 have:=(q.bd y hy).2
 rfl'
theorem dF{n:Nat}{ops:List Int}(q:Opn n ops):(opN ops).length=n:=by unfold opN;rw[Ac,q.len]
def opT(ops:List Int):Str:="openings "++rT (opN ops)
def pT(p:Nat)(x:Str):Str:="person "++numT p ++ " "++x
def lv(ops:List Int)(p:Nat):Nat:=(ops.getD p 0).toNat
def prw(n:Nat)(ops:List Int)(t:Nat->D):List Str:=opT ops::(List.range n).map fun p=>pT p (ttx (lv ops p) (t p))
section
variable {n:Nat}{ops:List Int}{t:Nat->D}
theorem zJ7(q:Opn n ops)(hn:n<=6){p:Nat}(hp:p<n):lv ops p<=6:=by
 have:=q.at hp
 unfold lv
 rfl'
theorem zA5(q:Opn n ops)(hn:n<=6):(opT ops).length<=200/\(rT (opN ops)).length<=180:=by
 have h:=xQ3 (zU8 q hn) (by rw[dF q];rfl')
 have c:("openings ":Str).length=9:=rfl
 unfold opT
 rw[Ag]
 exact⟨by rfl',h⟩
theorem xW2:(prw n ops t).length=n+1:=by unfold prw;simp
theorem xL6{r:List Nat}(hr:∀x∈r,x<61):PyData.strOk (rT r)=true/\10∉tl (rT r):=by
 refine⟨zV5 (by decide +kernel) _ fun t ht => ?_,?_⟩
 ·obtain⟨x,hx,rfl⟩:=AR.mp ht
  exact (vK x (hr x hx)).2.2.2.2.1
 ·have:∀l:List Nat,(∀x∈l,x<61)->10∉tl (Str.join " " (l.map numT)):=fun l=>by
   induction l with
   | nil=>exact fun _ z=>by cases z
   | cons a l ih =>
    intro h
    have ha:=(vK a (h a Ae)).2.2.2.2.2.2.2.2
    cases l with
    | nil=>exact ha
    | cons b l =>
     rw[AI,AI,vO,zJ,zJ]
     intro z
     rcases AB.mp z with z | z
     ·rcases AB.mp z with z | z
      ·exact ha z
      ·exact absurd z (by decide)
     ·exact ih (fun x hx=>h x (Ai _ hx)) z
  exact this r hr
theorem xR8(P:PlanOk n ops t)(q:Opn n ops)(hn:n<=6):∀x∈prw n ops t,PyData.strOk x=true/\10∉tl x:=fun x hx=>by
 rcases Aw.mp hx with rfl | hx
 ·have h:=xL6 (zU8 q hn)
  refine⟨vR (by decide +kernel) h.1,fun z => ?_⟩
  unfold opT at z
  rw[zJ] at z
  rcases AB.mp z with z | z
  ·exact absurd z (by decide +kernel)
  ·exact h.2 z
 ·obtain⟨p,hp,rfl⟩:=AR.mp hx
  have hp:=AD.mp hp
  have h:=zP4 hn (P.tree p hp) (zJ7 q hn hp)
  have nk:=vK p (by rfl')
  refine⟨vR (vR (vR (by decide +kernel) nk.2.2.2.2.1) (by decide +kernel)) h.2.1,fun z => ?_⟩
  unfold pT at z
  rw[zJ,zJ,zJ] at z
  rcases AB.mp z with z | z
  ·rcases AB.mp z with z | z
   ·rcases AB.mp z with z | z
    ·exact absurd z (by decide +kernel)
    ·exact nk.2.2.2.2.2.2.2.2 z
   ·exact absurd z (by decide)
  ·exact h.2.2 z
theorem yB3(i:Nat):(opT ops::(List.range i).map fun p=>pT p (ttx (lv ops p) (t p))).map PyData.str ++ [PyData.str (pT i (ttx (lv ops i) (t i)))]=(opT ops::(List.range (i+1)).map fun p=>pT p (ttx (lv ops p) (t p))).map PyData.str:=by
 rw[CQ,Bh,AI,AI,Bh]
 rfl
theorem zO8(P:PlanOk n ops t)(q:Opn n ops)(hn:n<=6):kZ [tI ops,.tuple ((List.range n).map t)]=.ok (.list ((prw n ops t).map PyData.str)):=by
 show (jB [some (tI ops),some (.tuple ((List.range n).map t)),none,none]).bind (fin true)=_
 have bl:=kB
 have e0:=xX6 q
 have lr:=(zA5 q hn).2
 have c9:("openings ":Str).length=9:=rfl
 have c7:("person ":Str).length=7:=rfl
 have c1:(" ":Str).length=1:=rfl
 have cc:eComp (iS (eV 0)) tYes (eB strOfD (aC (eV 0) aN)) [] [some (tI ops),some (.tuple ((List.range n).map t)),none,none]=.ok (.list (((opN ops).map numT).map PyData.str)):=by
  rw[Bd]
  refine fV (fun b:Nat=>PyData.int (b:Int)) (fun b=>PyData.str (numT b)) (opN ops) (by
   have e1:ops.map PyData.int=(opN ops).map fun b:Nat=>PyData.int (b:Int):=by
    conv=>lhs;rw[<-e0]
    unfold rI'
    rw[Bd]
    rfl
   simp![e1]) (by rw[dF q];rfl') fun b hb => ?_
  have h:=vK b (zU8 q hn b hb)
  show eB strOfD (aC (eV 0) aN) [some (.int (b:Int))]=_
  have e:strOfD [.int (b:Int)]=some (.str (numT b)):=Ak h.2.2.2.1
  simp![e]
 have nj:=yF7 (r:=opN ops) (zU8 q hn) (by rw[dF q];rfl')
 have ct:catS (.str "openings ") (.str (rT (opN ops)))=some (.str (opT ops)):=Ak (by rfl')
 have hl:((List.range n).map t).length=n:=by rw[Ac,AQ]
 unfold jB
 simp![yI,yS,cc,nj,ct,hl,aA (show n<=1000 by rfl')]
 refine zR8 (fun i ρ=>∃x,ρ=[some (tI ops),some (.tuple ((List.range n).map t)),some (.list ((opT ops::(List.range i).map fun p=>pT p (ttx (lv ops p) (t p))).map PyData.str)),x]) ⟨none,rfl⟩ ?_ ?_
 ·rintro i d ρ hd ⟨x,rfl⟩
  obtain⟨hi,rfl⟩:=xU1 hd
  have nk:=vK i (by rfl')
  have so:strOfD [.int (i:Int)]=some (.str (numT i)):=Ak nk.2.2.2.1
  have tx:=yK7 hn (P.tree i hi) (zJ7 q hn hi)
  have tx:(ttx (lv ops i) (t i)).length<=150000:=tx
  have e1:jA [t i]=.ok (.str (ttx (lv ops i) (t i))):=xI4 hn (P.tree i hi) 14 (by have:=zJ7 q hn hi;unfold lv at this;rfl') (zJ7 q hn hi)
  have n2:=nk.1.1
  have k1:catS (.str "person ") (.str (numT i))=some (.str ("person "++numT i)):=Ak (by rfl')
  have k2:catS (.str ("person "++numT i)) (.str " ")=some (.str ("person "++numT i ++ " ")):=Ak (by rw[Ag];rfl')
  have k3:catS (.str ("person "++numT i ++ " ")) (.str (ttx (lv ops i) (t i)))=some (.str (pT i (ttx (lv ops i) (t i)))):=Ak (by rw[Ag,Ag];rfl')
  have at2:=xR3 t hi
  have ap:appD ((opT ops::(List.range i).map fun p=>pT p (ttx (lv ops p) (t p))).map PyData.str) [.str (pT i (ttx (lv ops i) (t i)))]=some ((opT ops::(List.range (i+1)).map fun p=>pT p (ttx (lv ops p) (t p))).map PyData.str):=by
   rw[<-yB3]
   exact aM (by simp;rfl')
  refine⟨_,[some (tI ops),some (.tuple ((List.range n).map t)),some (.list ((opT ops::(List.range (i+1)).map fun p=>pT p (ttx (lv ops p) (t p))).map PyData.str)),some (.int (i:Int))],rfl,?_,_,rfl⟩
  simp![so,k1,k2,at2,e1,k3,ap]
 ·rintro ρ ⟨x,rfl⟩
  rw[Ac,AQ]
  simp -implicitDefEqProofs only[(evA)]
  rfl
end
theorem zC8(ns:List Int)(k:Nat):jY [lI ns,.int k]=.ok (.int (ns.getD k 0)):=by
 show (fP [some (lI ns),some (.int k)]).bind (fin false)=_
 unfold fP
 simp![Ac,zO5]
 by_cases h:k<ns.length
 ·rw[Aa (by rfl')]
  simp![zW7 h]
 ·rw[Ad (by rfl')]
  simp![Be,By (Nat.le_of_not_lt h),Option.getD_none]
theorem yB1(ns:List Int):∃c:Int,zQ5 [lI ns]=.ok (.int c):=by
 show ∃c:Int,(zP3 [some (lI ns),none,none]).bind (fin false)=_
 unfold zP3
 simp -implicitDefEqProofs only[(evA)]
 obtain⟨ρ',e,t,x,rfl⟩:=yZ1 (g:=gN 2) (b:=sS 1 (e2 addI (e2 mulI (eV 1) (eC (.int 1000))) (eV 2)))
  (fun i ρ=>∃t x,ρ=[some (lI ns),some (.int t),x]) (ns.map PyData.int) [some (lI ns),some (.int 0),none] ⟨0,none,rfl⟩ (by
   rintro i d ρ hd ⟨t,x,rfl⟩
   obtain⟨v,_,rfl⟩:=AR.mp (Bb hd)
   refine⟨_,_,rfl,?_,t*1000+v,some (.int v),rfl⟩
   simp![xX9 (MulOk.right (i:=t) (j:=1000) (by decide) (by decide))])
 exact⟨t,by rw[e];rfl⟩
theorem xK1{p k:Nat}(hp:p<=7){d:D}{s:Str}(T:TW p k d s):GT d:=by
 induction T with
 | none=>exact .none
 | @node k w ds ss _ h1 h2 _ ih =>
  refine .node _ _ (by rfl') fun d hd => ?_
  obtain⟨i,hi,ei⟩:=List.getElem_of_mem hd
  exact ih i d (ss[i]'(by rfl')) (by rw[Aj hi,ei]) (Aj _)
def dig(c:Nat):Bool:=decide (48<=c/\c<=57)
def nm(l:List Nat):Option (Nat×List Nat):=if l.takeWhile dig=[]\/((l.takeWhile dig).head?=some 48/\1<(l.takeWhile dig).length) then none else some (NumText.digitsVal (l.takeWhile dig),l.drop (l.takeWhile dig).length)
def tk(f:List Nat->Option (D×List Nat)):Nat->List Nat->Option (List D×List Nat)
 | 0,_=>none
 | j+1,l=>match f l with
  | none=>none
  | some (_,[])=>none
  | some (d,c::r)=>if c=(if j=0 then 41 else 32) then (if j=0 then some ([d],r) else (tk f j r).map fun q=>(d::q.1,q.2)) else none
def ta(n:Nat):Nat->List Nat->Option (D×List Nat)
 | 0,_=>none
 | k+1,l=>if l.head?=some 45 then some (.none,l.drop 1) else match nm l with
  | none=>none
  | some (b,r)=>if r.head?=some 40 then (tk (ta n k) n (r.drop 1)).map fun q=>(.tuple [.int (b:Int),.tuple q.1],q.2) else none
def cd(z:Str):Nat:=(tl z).countP dig
structure Rw(C:Nat)(z:Str):Prop extends Tx 1000 z where
 nl:10∉tl z
 co:(tl z).count 40<=C
 cd:(tl z).countP dig<=C
theorem yV7{c:Nat}:inSD (.str ⟨#[c]⟩) (.str "0123456789")=some (dig c):=by
 show some (!(Builtin.Str.occurrences "0123456789" ⟨#[c]⟩ 0 ("0123456789":Str).length 1).isEmpty)=_
 rw[PySem.StrLaws.found_one]
 have e:("0123456789":Str).cps.toList=[48,49,50,51,52,53,54,55,56,57]:=by decide +kernel
 rw[e]
 unfold dig
 congr 1
 rw[Dx,decide_eq_true_iff,decide_eq_true_iff]
 simp only[Aw,List.not_mem_nil,or_false]
 rfl'
theorem xO4{c:Nat}(h:c<128):PyData.strOk ⟨#[c]⟩=true:=by
 rw[yW1]
 intro x hx
 have hx:x ∈ [c]:=hx
 have:=BH.mp hx
 rfl'
theorem yP9{c d:Nat}{s:Str}(hs:tl s=[d]):((⟨#[c]⟩:Str)=s)↔c=d:=by
 constructor
 ·intro h
  have e:tl ⟨#[c]⟩=[d]:=by rw[h,hs]
  have e:[c]=[d]:=e
  simpa using e
 ·rintro rfl
  exact yB (by rw[hs];rfl)
theorem zJ9{z:Str}{i c:Nat}{r:List Nat}(hl:z.length<=1000)(e:(tl z).drop i=c::r):ixSD (.str z) (.int (i:Int))=some (.str ⟨#[c]⟩):=by
 have lb:=xB
 have hi:i<(tl z).length:=by
  have:=AZ List.length e
  rw[As,Aq] at this
  rfl'
 have g:(tl z)[i]?=some c:=by
  have:=AZ List.head? e
  rw[List.head?_drop] at this
  exact this
 show (if z.length<=sizeLine then (atI (tl z) (i:Int)).map fun c=>PyData.str ⟨#[c]⟩ else none)=_
 have:atI (tl z) (i:Int)=some c:=by
  unfold atI
  rw[uO hi,Az,g]
 rw[Ak (by rfl'),this]
 rfl
theorem cH(l:List Nat):l=l.takeWhile dig++l.drop (l.takeWhile dig).length/\(∀c∈l.takeWhile dig,dig c=true)/\((l.drop (l.takeWhile dig).length).head?.all fun c=>!dig c)=true:=by
 induction l with
 | nil=>exact⟨rfl,fun c hc=>(nomatch hc),rfl⟩
 | cons a l ih =>
  by_cases h:dig a=true
  ·rw[List.takeWhile_cons_of_pos h]
   refine⟨?_,fun c hc => ?_,?_⟩
   ·rw[Aq,List.drop_succ_cons,List.cons_append,<-ih.1]
   ·rcases Aw.mp hc with rfl | hc
    ·exact h
    ·exact ih.2.1 c hc
   ·rw[Aq,List.drop_succ_cons]
    exact ih.2.2
  ·rw[List.takeWhile_cons_of_neg h]
   refine⟨rfl,fun c hc=>(nomatch hc),?_⟩
   show (!dig a)=true
   rw[BS] at h
   rw[h]
   rfl
theorem yM4{l:List Nat}{a c:Nat}{r:List Nat}(e:l.drop a=c::r):l.drop (a+1)=r:=by
 rw[<-BV,e]
 rfl
theorem xX2{l:List Nat}{i:Nat}(h:i<(l.takeWhile dig).length):∃c r,l.drop i=c::r/\dig c=true:=by
 obtain⟨e,a,_⟩:=cH l
 generalize l.takeWhile dig=w at h e a
 have g:l.drop i=w[i]::(w.drop (i+1)++l.drop w.length):=by
  have:=AZ (List.drop i) e
  rw[BW (by rfl'),Bl h] at this
  exact this
 exact⟨_,_,g,a _ (Do h)⟩
theorem xP1{z:Str}{i:Nat}:tl (Txt.slice z (some (i:Int)) (some ((i:Int)+1)))=((tl z).drop i).take 1:=by
 have:=yJ3 z (show i<=i+1 by rfl')
 rw[show (((i+1:Nat)):Int)=(i:Int)+1 by rfl'] at this
 rw[this,show i+1-i=1 by rfl']
theorem qE{z:Str}(h:Rw 90 z)(a:Nat):xU [.str z,.int (a:Int)]=match nm ((tl z).drop a) with
  | some (b,r)=>.ok (.tuple [.int (b:Int),.int ((z.length-r.length:Nat):Int)])
  | none=>.ok (.tuple [.int (-1),.int (a:Int)]):=by
 have lb:=xB
 have lz:=h.len
 have tz:(tl z).length=z.length:=yY z
 have e1:lenTD [.str z]=some (.int (z.length:Int)):=Ak (by rfl')
 obtain⟨s1,s2,s3⟩:=cH ((tl z).drop a)
 have dt:=fun i (hi:i<(((tl z).drop a).takeWhile dig).length)=>xX2 hi
 have fw:(((tl z).drop a).takeWhile dig).length<=90:=by
  have c:(((tl z).drop a).takeWhile dig).countP dig=(((tl z).drop a).takeWhile dig).length:=Dk.mpr s2
  have d:(((tl z).drop a).takeWhile dig).countP dig<=(tl z).countP dig:=((De _).trans (BG _ _)).countP_le
  have:=h.cd
  rfl'
 unfold nm
 generalize hw:((tl z).drop a).takeWhile dig=w at s1 s2 s3 dt fw
 have la:a+w.length<=z.length\/w=[]:=by
  by_cases e:w=[]
  ·exact .inr e
  ·have:=AZ List.length s1
   rw[Af,As,As,As] at this
   have:=Bi.mpr e
   rfl'
 show (kX [some (.str z),some (.int (a:Int)),none]).bind (fin false)=_
 unfold kX
 simp![e1]
 refine xR6 (fun i ρ=>ρ=[some (.str z),some (.int (a:Int)),some (.int ((a+i:Nat):Int))]) w.length (by rfl') rfl ?_ ?_ ?_
 ·rintro i ρ hi rfl
  obtain⟨c,r,e,d⟩:=dt i hi
  rw[BV] at e
  have ix:=zJ9 lz e
  have lt:decide (((a+i:Nat):Int)<(z.length:Int))=true:=Aa (by
   have:=AZ List.length e
   rw[As,Aq] at this
   rfl')
  have fo:=yV7 (c:=c)
  rw[d] at fo
  refine⟨?_,_,rfl,?_⟩
  ·simp![e1,lt,ix,fo]
  ·rw[show ((a+(i+1):Nat):Int)=((a+i:Nat):Int)+1 by rfl']
   rfl
 ·rintro ρ rfl
  cases er:(tl z).drop (a+w.length) with
  | nil =>
   have lt:decide (((a+w.length:Nat):Int)<(z.length:Int))=false:=Ad (by
    have:=AZ List.length er
    rw[As] at this
    have:(tl z).length-(a+w.length)=0:=this
    rfl')
   simp![e1,lt]
  | cons c r =>
   have ix:=zJ9 lz er
   have lt:decide (((a+w.length:Nat):Int)<(z.length:Int))=true:=Aa (by
    have:=AZ List.length er
    rw[As,Aq] at this
    rfl')
   have d:dig c=false:=by
    rw[BV,er] at s3
    have s3:(!dig c)=true:=s3
    cases q:dig c with
    | false=>rfl
    | true =>
     rw[q] at s3
     cases s3
   have fo:=yV7 (c:=c)
   rw[d] at fo
   simp![e1,lt,ix,fo]
 ·rintro ρ rfl
  obtain⟨m,hm⟩:∃m,w.length=m:=⟨_,rfl⟩
  rw[hm]
  rw[hm] at s1 la fw
  cases w with
  | nil =>
   rw[Ak (.inl rfl)]
   have ea:decide (((a+m:Nat):Int)=(a:Int))=true:=Aa (by have:0=m:=hm;rfl')
   simp![yN,ea]
  | cons c w =>
   have hd:(tl z).drop a=c::(w++((tl z).drop a).drop m):=s1
   have ix:=zJ9 lz hd
   have cl:c<128:=h.asc c (Ce (by rw[hd];exact Ae))
   have e6:=aB (xO4 cl) (show PyData.strOk "0" = true by decide +kernel)
   have t0:tl "0" = [48]:=by decide +kernel
   have ne:decide (((a+m:Nat):Int)=(a:Int))=false:=Ad (by rw[Aq] at hm;rfl')
   have gt:decide ((a:Int)+1<((a+m:Nat):Int))=decide (1<m):=decide_eq_decide.mpr (by rw[Aq] at hm;rfl')
   have la:a+m<=z.length:=la.resolve_right fun z=>nomatch z
   obtain⟨u,sl,it⟩:∃u,slS (.str z) (some (a:Int)) (some ((a+m:Nat):Int))=some (.str u)/\intTD [.str u]=some (.int (NumText.digitsVal (c::w):Int)):=by
    have sl:slS (.str z) (some (a:Int)) (some ((a+m:Nat):Int))=some (.str (Txt.slice z (some (a:Int)) (some ((a+m:Nat):Int)))):=by
     unfold slS
     rw[yS,Az,Ak (by rfl')]
    have ts:tl (Txt.slice z (some (a:Int)) (some ((a+m:Nat):Int)))=c::w:=by
     rw[yJ3 z (by rfl'),show a+m-a=m by rfl',s1]
     rw[<-hm]
     exact List.take_left
    have fg:Fig (Txt.slice z (some (a:Int)) (some ((a+m:Nat):Int))):=by
     unfold Fig
     rw[ts]
     exact⟨fun x hx=>of_decide_eq_true (s2 x hx),fun z=>nomatch z⟩
    generalize Txt.slice z (some (a:Int)) (some ((a+m:Nat):Int))=u at sl ts fg
    have lu:u.length<=90:=by rw[<-yY,ts,hm];exact fw
    have it:intTD [.str u]=some (.int (NumText.digitsVal (c::w):Int)):=by
     show (if u.length<=640 then (PySem.intText? u).map PyData.int else none)=_
     rw[Ak (by rfl'),yW2 fg (by rfl')]
     unfold dv
     rw[ts]
     rfl
    exact⟨u,sl,it⟩
   have el:((z.length-((tl z).drop a |>.drop m).length:Nat):Int)=((a+m:Nat):Int):=by
    rw[As,As]
    rfl'
   by_cases c0:c=48
   ·rw[Aa ((yP9 t0).mpr c0)] at e6
    by_cases l1:1<m
    ·rw[Ak (.inr ⟨by rw[c0];rfl,l1⟩)]
     rw[Aa l1] at gt
     simp![yN,ne,ix,e6,gt]
    ·rw[Ax fun z=>z.elim (fun z=>nomatch z) fun z=>l1 z.2]
     rw[Ad l1] at gt
     show _=Res.ok (PyData.tuple [.int (NumText.digitsVal (c::w):Int),.int ((z.length-((tl z).drop a |>.drop m).length:Nat):Int)])
     rw[el]
     simp![yN,ne,ix,e6,gt,sl,it]
   ·rw[Ad fun z=>c0 ((yP9 t0).mp z)] at e6
    rw[Ax fun z=>z.elim (fun z=>nomatch z) fun z=>c0 (by simpa using z.1)]
    show _=Res.ok (PyData.tuple [.int (NumText.digitsVal (c::w):Int),.int ((z.length-((tl z).drop a |>.drop m).length:Nat):Int)])
    rw[el]
    simp![yN,ne,ix,e6,gt,sl,it]
theorem zX7{n k:Nat}{d:D}{s:Str}(T:TW n k d s):d.canLay0=true/\d.depth<=2*k/\lf d=true:=by
 induction T with
 | none=>exact⟨rfl,AM _,rfl⟩
 | @node k w ds ss _ l1 l2 _ ih =>
  obtain⟨h1,h2,h3⟩:=zZ2 id (2*k) ds fun d hd=>by
   obtain⟨i,hi,rfl⟩:=List.getElem_of_mem hd
   exact ih i _ (ss[i]'(by rfl')) (Aj hi) (Aj _)
  rw[List.map_id] at h1 h2 h3
  refine⟨?_,?_,?_⟩
  ·rw[PyData.canLay0,PyData.canLayAll0,PyData.canLay0,PyData.canLayAll0,PyData.canLay0,h1]
   rfl
  ·rw[PyData.depth,PyData.depthAll,PyData.depthAll,PyData.depth,PyData.depth,PyData.depthAll]
   have:max 0 (max (PyData.depthAll ds+1) 0)<=2*k+1:=Nat.max_le.mpr ⟨AM _,Nat.max_le.mpr ⟨by rfl',AM _⟩⟩
   rfl'
  ·show (true&&(lfs ds&&true))=true
   rw[h3]
   rfl
theorem t40:tl "(" = [40]:=by decide +kernel
theorem t41:tl ")" = [41]:=by decide +kernel
theorem t32:tl " " = [32]:=by decide +kernel
theorem t45:tl "-" = [45]:=by decide +kernel
theorem uY{l:List Nat}{c:Nat}(h:l.head?=some c):l=c::l.drop 1:=by
 cases l with
 | nil=>cases h
 | cons a l =>
  cases h
  rfl
section
variable {n:Nat}
def FS(n k:Nat)(f:List Nat->Option (D×List Nat)):Prop:=∀l d r,l.countP dig<=90->f l=some (d,r)->∃sd:Str,l=tl sd++r/\TW n k d sd
theorem zF6{k:Nat}{f:List Nat->Option (D×List Nat)}(hf:FS n k f):∀(j:Nat) (l:List Nat) (ds:List D) (r:List Nat),l.countP dig<=90->tk f (j+1) l=some (ds,r)->∃ss:List Str,ds.length=j+1/\ss.length=j+1/\l=tl (Str.join " " ss ++ ")")++r/\∀(i:Nat) (d:D) (s:Str),ds[i]?=some d->ss[i]?=some s->TW n k d s
 | j,l,ds,r,hl,h=>by
  rw[tk] at h
  cases e:f l with
  | none =>
   rw[e] at h
   cases h
  | some q =>
   obtain⟨d,r1⟩:=q
   rw[e] at h
   cases r1 with
   | nil=>cases h
   | cons c r1 =>
    obtain⟨sd,el,T⟩:=hf l d _ hl e
    simp only at h
    by_cases hc:c=(if j=0 then 41 else 32)
    ·rw[Ak hc] at h
     cases j with
     | zero =>
      rw[Ak rfl] at h hc
      cases h
      refine⟨[sd],rfl,rfl,?_,fun i d' s' a b => ?_⟩
      ·show l=tl (sd ++ ")")++r
       rw[zJ,t41,el,hc,AO]
       rfl
      ·cases i with
       | zero =>
        cases a
        cases b
        exact T
       | succ i=>cases a
     | succ j =>
      rw[Ax (Dp j)] at h hc
      obtain⟨q,eq,e2⟩:=AK.mp h
      obtain⟨ds',r'⟩:=q
      cases e2
      have hr:r1.countP dig<=90:=by
       rw[el,Cu,List.countP_cons] at hl
       rfl'
      obtain⟨ss,h1,h2,h3,h4⟩:=zF6 hf j r1 ds' _ hr eq
      refine⟨sd::ss,by rw[Aq,h1],by rw[Aq,h2],?_,fun i d' s' a b => ?_⟩
      ·rw[wJ _ _ (by intro z;rw[z] at h2;cases h2),zJ,zJ,zJ,t32,el,hc,h3,zJ]
       simp only[AO]
       rfl
      ·cases i with
       | zero =>
        cases a
        cases b
        exact T
       | succ i=>exact h4 i d' s' a b
    ·rw[Ax hc] at h
     cases h
theorem yA3{w:List Nat}(h1:∀c∈w,dig c=true)(h2:¬(w=[]\/(w.head?=some 48/\1<w.length)))(h3:w.length<=90):Wd ⟨w.toArray⟩:=by
 have tw:tl ⟨w.toArray⟩=w:=uT w
 refine⟨⟨fun c hc => ?_,?_⟩,by rw[<-yY,tw];exact h3,fun z => ?_⟩
 ·rw[tw] at hc
  exact of_decide_eq_true (h1 c hc)
 ·rw[tw]
  exact fun z=>h2 (.inl z)
 ·obtain⟨r,er⟩:=st0.mp z
  rw[is0,tw]
  rw[tw] at er
  rw[er] at h2 ⊢
  cases r with
  | nil=>rfl
  | cons a r=>exact absurd (.inr ⟨rfl,by simp⟩) h2
theorem cI:∀k,FS (n+1) k (ta (n+1) k)
 | 0=>fun l d r _ h=>by cases h
 | k+1=>fun l d r hl h=>by
  rw[ta] at h
  by_cases h45:l.head?=some 45
  ·rw[Ak h45] at h
   cases h
   exact⟨"-",by rw[t45];exact uY h45,.none⟩
  ·rw[Ax h45] at h
   unfold nm at h
   obtain⟨s1,s2,_⟩:=cH l
   have cw:(l.takeWhile dig).length<=90:=by
    have c:(l.takeWhile dig).countP dig=(l.takeWhile dig).length:=Dk.mpr s2
    have d:(l.takeWhile dig).countP dig<=l.countP dig:=(De _).countP_le
    rfl'
   generalize l.takeWhile dig=w at h s1 s2 cw
   by_cases hw:w=[]\/(w.head?=some 48/\1<w.length)
   ·rw[Ak hw] at h
    cases h
   ·rw[Ax hw] at h
    simp only at h
    split at h
    ·rename_i h40
     obtain⟨q,eq,e2⟩:=AK.mp h
     obtain⟨ds,r'⟩:=q
     cases e2
     have e40:=uY h40
     have hc:((l.drop w.length).drop 1).countP dig<=90:=AJ ((BG _ _).trans (BG _ _)).countP_le hl
     obtain⟨ss,h1,h2,h3,h4⟩:=zF6 (cI k) n _ ds _ hc eq
     refine⟨(⟨w.toArray⟩:Str)++("("++(Str.join " " ss ++ ")")),?_,?_⟩
     ·rw[zJ,zJ,uT,t40,AO,AO,<-h3]
      rw[show [40]++(l.drop w.length).drop 1=l.drop w.length from e40.symm]
      exact s1
     ·have T:=TW.node (p:=n+1) (k:=k) ⟨w.toArray⟩ ds ss (yA3 s2 hw cw) h1 h2 h4
      have ev:dv ⟨w.toArray⟩=NumText.digitsVal w:=by unfold dv;rw[uT]
      rw[ev] at T
      exact T
    ·cases h
theorem yZ8{f:List Nat->Option (D×List Nat)}:∀(j:Nat) (ds:List D) (ss:List Str) (r:List Nat),ds.length=j+1->ss.length=j+1->(∀(i:Nat) (d:D) (s:Str) (r:List Nat),ds[i]?=some d->ss[i]?=some s->f (tl s++r)=some (d,r))->tk f (j+1) (tl (Str.join " " ss ++ ")")++r)=some (ds,r)
 | 0,ds,ss,r,h1,h2,h=>by
  match ds,ss,h1,h2 with
  | [d],[s],_,_ =>
   have e:=h 0 d s ([41]++r) rfl rfl
   show tk f 1 (tl (s ++ ")")++r)=_
   rw[zJ,t41,AO,tk,e]
   rfl
 | j+1,ds,ss,r,h1,h2,h=>by
  match ds,ss,h1,h2 with
  | d::ds,s::ss,h1,h2 =>
   rw[Aq] at h1 h2
   have ne:ss ≠ []:=fun z=>by rw[z] at h2;simp at h2
   have ih:=yZ8 j ds ss r (by rfl') (by rfl') fun i d s r a b=>h (i+1) d s r a b
   have e:=h 0 d s ([32]++(tl (Str.join " " ss ++ ")")++r)) rfl rfl
   have es:tl (Str.join " " (s::ss) ++ ")")++r=tl s++([32]++(tl (Str.join " " ss ++ ")")++r)):=by
    rw[wJ _ _ ne]
    simp only[zJ,t32,t41,AO]
   rw[es,tk,e]
   show (if 32=(if j+1=0 then 41 else 32) then _ else _)=_
   rw[Ax (Dp j),Ak rfl,Ax (Dp j)]
   show (tk f (j+1) (tl (Str.join " " ss ++ ")")++r)).map _=_
   rw[ih]
   rfl
theorem xS6{k:Nat}{d:D}{s:Str}(T:TW (n+1) k d s):∀(K:Nat) (r:List Nat),(tl s).count 40<K->ta (n+1) K (tl s++r)=some (d,r):=by
 induction T with
 | none =>
  intro K r hK
  obtain⟨K,rfl⟩:∃j,K=j+1:=⟨K-1,by rfl'⟩
  rw[ta,t45]
  rfl
 | @node k w ds ss hw h1 h2 _ ih =>
  intro K r hK
  obtain⟨K,rfl⟩:∃j,K=j+1:=⟨K-1,by rfl'⟩
  have es:tl (w++("("++(Str.join " " ss ++ ")")))++r=tl w++40::(tl (Str.join " " ss ++ ")")++r):=by
   rw[zJ,zJ,t40]
   simp only[AO]
   rfl
  have cj:(tl (Str.join " " ss)).count 40<K:=by
   rw[zJ,zJ,zJ,t40,Cf,Cf,Cf] at hK
   have:([40]:List Nat).count 40=1:=rfl
   rfl'
  have dw:∀c∈tl w,dig c=true:=fun c hc=>Aa (hw.1.1 c hc)
  have tw:(tl w++40::(tl (Str.join " " ss ++ ")")++r)).takeWhile dig=tl w:=by
   rw[List.takeWhile_append_of_pos dw,List.takeWhile_cons_of_neg (by decide),Bu]
  have h45:¬(tl w++40::(tl (Str.join " " ss ++ ")")++r)).head?=some 45:=fun z=>by
   cases e:tl w with
   | nil=>exact hw.1.2 e
   | cons c u =>
    rw[e] at z
    have:c=45:=by simpa using z
    have:=hw.1.1 c (by rw[e];exact Ae)
    rfl'
  have hn:¬(tl w=[]\/((tl w).head?=some 48/\1<(tl w).length)):=fun z=>z.elim hw.1.2 fun z=>by
   have e:=uY z.1
   have:=is0.mp (hw.2.2 (st0.mpr ⟨_,e⟩))
   rw[this] at z
   have:=z.2
   simp at this
  rw[es,ta,Ax h45]
  unfold nm
  rw[tw,Ax hn,CI]
  have hh:(40::(tl (Str.join " " ss ++ ")")++r)).head?=some 40:=rfl
  show (if (40::(tl (Str.join " " ss ++ ")")++r)).head?=some 40 then _ else _)=_
  rw[Ak hh]
  have tc:=yZ8 (f:=ta (n+1) K) n ds ss r h1 h2 fun i d s r a b=>ih i d s a b K r (by
   have m:=Bb b
   have:=kD (fun z=>(tl z).count 40) (fun a b=>by show (tl (a++b)).count 40=_;rw[zJ,Cf]) " " ss (fun z=>by rw[z] at m;cases m)
   have l:=zI5 (List.mem_map_of_mem (f:=fun z=>(tl z).count 40) m)
   have t:(tl " ").count 40=0:=by rw[t32];rfl
   simp only[t,Nat.mul_zero,Cp] at this
   rfl')
  show ((tk (ta (n+1) K) (n+1) (tl (Str.join " " ss ++ ")")++r)).map fun q=>((.tuple [.int (NumText.digitsVal (tl w):Int),.tuple q.1]:D),q.2))=_
  rw[tc]
  rfl
end
theorem sl1{z:Str}(h:Tx 1000 z)(a:Nat):∃u,slS (.str z) (some (a:Int)) (some ((a:Int)+1))=some (.str u)/\PyData.strOk u=true/\∀(c:Nat) (s:Str),tl s=[c]->(u=s↔((tl z).drop a).head?=some c):=by
 have lb:=xB
 have lz:=h.len
 refine⟨Txt.slice z (some (a:Int)) (some ((a:Int)+1)),?_,(h.slice _ _).ok,fun c s hs => ?_⟩
 ·unfold slS
  rw[yS,Az,Ak (by rfl')]
 ·have e:=xP1 (z:=z) (i:=a)
  constructor
  ·intro q
   rw[q,hs] at e
   cases l:(tl z).drop a with
   | nil =>
    rw[l] at e
    cases e
   | cons x r =>
    rw[l] at e
    have:[c]=[x]:=e
    cases this
    rfl
  ·intro q
   have q:=uY q
   rw[q] at e
   exact yB (e.trans hs.symm)
theorem yZ5{d:D}(h1:d.canLay0=true)(h2:d.depth<=64)(h3:d=.none\/∃ds,d=.tuple ds):eqD d (.str "none")=some false:=by
 unfold eqD
 rw[Ak ⟨by unfold SeqAt.shaped;rw[h1,Aa h2];rfl,qT (by decide +kernel)⟩]
 rcases h3 with rfl | ⟨ds,rfl⟩ <;> rfl
theorem yX9{n k:Nat}{d:D}{s:Str}(T:TW n k d s):d=.none\/∃ds,d=.tuple ds:=by
 cases T with
 | none=>exact .inl rfl
 | node=>exact .inr ⟨_,rfl⟩
def noT:D:=.tuple [.str "none",.int 0]
theorem xJ5{f:List Nat->Option (D×List Nat)}{l:List Nat}{j:Nat}(e:f l=none):tk f (j+1) l=none:=by rw[tk,e]
theorem xL2{f:List Nat->Option (D×List Nat)}{l:List Nat}{j:Nat}{d:D}(e:f l=some (d,[])):tk f (j+1) l=none:=by rw[tk,e]
theorem xV9{f:List Nat->Option (D×List Nat)}{l r:List Nat}{j c:Nat}{d:D}(e:f l=some (d,c::r)):tk f (j+1) l=if c=(if j=0 then 41 else 32) then (if j=0 then some ([d],r) else (tk f j r).map fun q=>(d::q.1,q.2)) else none:=by rw[tk,e]
section
variable {z:Str}(h:Rw 90 z){n K:Nat}(hn:n<=6) (hK:K<=24)
include h hn hK
theorem yY4(IH:∀a,((tl z).drop a).count 40<K->yM K [.str z,.int (a:Int),.int ((n+1:Nat):Int)]=match ta (n+1) K ((tl z).drop a) with
  | some (d,r)=>.ok (.tuple [d,.int ((z.length-r.length:Nat):Int)])
  | none=>.ok noT)(b:Option D):∀(j i A:Nat) (acc:List D) (x y:Option D),i+(j+1)=n+1->((tl z).drop (A+1)).count 40<K->acc.length=i ->
  (∃ds r A' x' y',tk (ta (n+1) K) (j+1) ((tl z).drop (A+1))=some (ds,r)/\A'+1+r.length=z.length/\L3.forM (gN 5) (yL (yM K)) ((List.range' i (j+1)).map fun i:Nat=>PyData.int (i:Int)) [some (.str z),some (.int (A:Int)),some (.int ((n+1:Nat):Int)),b,some (.list acc),x,y]=.ok (.nx [some (.str z),some (.int (A':Int)),some (.int ((n+1:Nat):Int)),b,some (.list (acc++ds)),x',y'])) \/
  (tk (ta (n+1) K) (j+1) ((tl z).drop (A+1))=none/\L3.forM (gN 5) (yL (yM K)) ((List.range' i (j+1)).map fun i:Nat=>PyData.int (i:Int)) [some (.str z),some (.int (A:Int)),some (.int ((n+1:Nat):Int)),b,some (.list acc),x,y]=.ok (.rt noT))
 | j,i,A,acc,x,y,hi,hc,ha=>by
  have rt:=IH (A+1) hc
  have rt:yM K [.str z,.int ((A:Int)+1),.int ((n+1:Nat):Int)]=match ta (n+1) K ((tl z).drop (A+1)) with
   | some (d,r)=>.ok (.tuple [d,.int ((z.length-r.length:Nat):Int)])
   | none=>.ok noT:=rt
  have tz:(tl z).length=z.length:=yY z
  have g1:∀v w:D,gT 2 (gsC (gN 6) (gsC (gN 1) gsN)) (.tuple [v,w]) [some (.str z),some (.int (A:Int)),some (.int ((n+1:Nat):Int)),b,some (.list acc),some (.int (i:Int)),y]=some [some (.str z),some w,some (.int ((n+1:Nat):Int)),b,some (.list acc),some (.int (i:Int)),some v]:=fun _ _=>rfl
  have mr:(List.range' i (j+1)).map (fun i:Nat=>PyData.int (i:Int))=PyData.int (i:Int)::(List.range' (i+1) j).map fun i:Nat=>PyData.int (i:Int):=by
   rw[List.range'_succ]
   rfl
  have stop:yL (yM K) [some (.str z),some (.int (A:Int)),some (.int ((n+1:Nat):Int)),b,some (.list acc),some (.int (i:Int)),y]=.ok (.rt noT)->L3.forM (gN 5) (yL (yM K)) ((List.range' i (j+1)).map fun i:Nat=>PyData.int (i:Int)) [some (.str z),some (.int (A:Int)),some (.int ((n+1:Nat):Int)),b,some (.list acc),x,y]=.ok (.rt noT):=fun e=>by
   rw[mr]
   show ((yL (yM K) [some (.str z),some (.int (A:Int)),some (.int ((n+1:Nat):Int)),b,some (.list acc),some (.int (i:Int)),y]).bind _)=_
   rw[e]
   rfl
  cases e:ta (n+1) K ((tl z).drop (A+1)) with
  | none =>
   rw[e] at rt
   refine .inr ⟨xJ5 e,stop ?_⟩
   have en:eqD (.str "none") (.str "none")=some true:=by rw[aB (by decide +kernel) (by decide +kernel),Aa rfl]
   have g2:=g1 (.str "none") (.int 0)
   unfold yL noT at *
   simp![rt,g2,en]
  | some q =>
   obtain⟨d,rr⟩:=q
   rw[e] at rt
   obtain⟨sd,es,T⟩:=cI K _ d rr (AJ (BG _ _).countP_le h.cd) e
   obtain⟨c1,c2,_⟩:=zX7 T
   have en:=yZ5 c1 (by rfl') (yX9 T)
   have lr:rr.length<=z.length:=by
    have:=AZ List.length es
    rw[As,Af] at this
    rfl'
   obtain⟨P,hP⟩:∃P,z.length-rr.length=P:=⟨_,rfl⟩
   have dP:(tl z).drop P=rr:=by
    have:(tl z).drop (A+1+(tl sd).length)=rr:=by
     rw[<-BV,es,CI]
    have lA:=AZ List.length es
    rw[As,Af] at lA
    by_cases q:rr=[]
    ·rw[q] at hP ⊢
     exact BE (by have:z.length-0=P:=hP;rfl')
    ·have:=Bi.mpr q
     rw[show P=A+1+(tl sd).length by rfl']
     assumption
   have rP:yM K [.str z,.int ((A:Int)+1),.int ((n+1:Nat):Int)]=.ok (.tuple [d,.int ((z.length-rr.length:Nat):Int)]):=rt
   rw[hP] at rP
   clear rt
   obtain⟨u,su,ou,iu⟩:=sl1 h.toTx P
   have g2:=g1 d (.int (P:Int))
   have eqi:decide ((i:Int)=((n+1:Nat):Int)-1)=decide (j=0):=decide_eq_decide.mpr (by rfl')
   obtain⟨sp,c,hsp,hc',ix⟩:∃(sp:Str) (c:Nat),tl sp=[c]/\c=(if j=0 then 41 else 32)/\PyData.strOk sp=true/\atI [PyData.str " ",PyData.str ")"] (if decide (j=0)=true then 1 else 0)=some (.str sp):=by
    by_cases j0:j=0
    ·exact⟨")",41,t41,by rw[Ak j0],by decide +kernel,by rw[Aa j0];rfl⟩
    ·exact⟨" ",32,t32,by rw[Ax j0],by decide +kernel,by rw[Ad j0];rfl⟩
   have ne:=kH ou ix.1
   have ne2:decide (u=sp)=decide (rr.head?=some c):=decide_eq_decide.mpr (by rw[iu c sp hsp,dP])
   rw[ne2] at ne
   have m2:mkL [PyData.str " ",PyData.str ")"]=some (.list [.str " ",.str ")"]):=rfl
   have ii:intD [.bool (decide (j=0))]=some (.int (if decide (j=0)=true then 1 else 0)):=rfl
   cases rr with
   | nil =>
    have ne:neD (.str u) (.str sp)=some true:=ne
    refine .inr ⟨xL2 e,stop ?_⟩
    unfold yL noT
    simp![rP,g2,en,su,m2,yN,eqi,ii,ix.2,ne]
   | cons c' r =>
    have hd:decide ((c'::r).head?=some c)=decide (c'=c):=decide_eq_decide.mpr (by simp)
    rw[hd,hc'] at ne
    rw[xV9 e]
    by_cases q:c'=(if j=0 then 41 else 32)
    ·rw[Ak q]
     rw[Aa q] at ne
     have ap:=aM (l:=acc) (d:=d) (by rfl')
     have go:yL (yM K) [some (.str z),some (.int (A:Int)),some (.int ((n+1:Nat):Int)),b,some (.list acc),some (.int (i:Int)),y]=.ok (.nx [some (.str z),some (.int (P:Int)),some (.int ((n+1:Nat):Int)),b,some (.list (acc ++ [d])),some (.int (i:Int)),some d]):=by
      unfold yL
      simp![rP,g2,en,su,m2,yN,eqi,ii,ix.2,ne,ap]
     have step:L3.forM (gN 5) (yL (yM K)) ((List.range' i (j+1)).map fun i:Nat=>PyData.int (i:Int)) [some (.str z),some (.int (A:Int)),some (.int ((n+1:Nat):Int)),b,some (.list acc),x,y]=L3.forM (gN 5) (yL (yM K)) ((List.range' (i+1) j).map fun i:Nat=>PyData.int (i:Int)) [some (.str z),some (.int (P:Int)),some (.int ((n+1:Nat):Int)),b,some (.list (acc ++ [d])),some (.int (i:Int)),some d]:=by
      rw[mr]
      show ((yL (yM K) [some (.str z),some (.int (A:Int)),some (.int ((n+1:Nat):Int)),b,some (.list acc),some (.int (i:Int)),y]).bind _)=_
      rw[go]
      rfl
     rw[step]
     have lP:P+1+r.length=z.length:=by
      rw[Aq] at hP lr
      rfl'
     cases j with
     | zero =>
      rw[Ak rfl]
      exact .inl ⟨[d],r,P,_,_,rfl,lP,rfl⟩
     | succ j =>
      rw[Ax (Dp j)]
      have dr:(tl z).drop (P+1)=r:=yM4 dP
      have cr:r.count 40<K:=by
       have:=AZ (List.count 40) es
       rw[Cf,List.count_cons] at this
       rfl'
      rcases yY4 IH b j (i+1) P (acc ++ [d]) (some (.int (i:Int))) (some d) (by rfl') (by rw[dr];exact cr) (by rw[Af,ha];rfl) with ⟨ds,r',A',x',y',e1,e2,e3⟩ | ⟨e1,e3⟩
      ·rw[dr] at e1
       refine .inl ⟨d::ds,r',A',x',y',by rw[e1];rfl,e2,?_⟩
       rw[e3,AO]
       rfl
      ·rw[dr] at e1
       exact .inr ⟨by rw[e1];rfl,e3⟩
    ·rw[Ax q]
     rw[Ad q] at ne
     refine .inr ⟨rfl,stop ?_⟩
     unfold yL noT
     simp![rP,g2,en,su,m2,yN,eqi,ii,ix.2,ne]
end
theorem xZ6{n k:Nat}{l:List Nat}(h:l.head?=some 45):ta n (k+1) l=some (.none,l.drop 1):=by rw[ta,Ak h]
theorem xI6{n k:Nat}{l:List Nat}(h:¬l.head?=some 45)(e:nm l=none):ta n (k+1) l=none:=by rw[ta,Ax h,e]
theorem xT7{n k b:Nat}{l r:List Nat}(h:¬l.head?=some 45)(e:nm l=some (b,r)):ta n (k+1) l=if r.head?=some 40 then (tk (ta n k) n (r.drop 1)).map fun q=>(.tuple [.int (b:Int),.tuple q.1],q.2) else none:=by rw[ta,Ax h,e]
theorem yX4{l r:List Nat}{b:Nat}(e:nm l=some (b,r)):∃m,r=l.drop m/\0<m/\m<=l.length:=by
 unfold nm at e
 split at e
 ·cases e
 ·rename_i q
  cases e
  refine⟨_,rfl,?_,(De _).length_le⟩
  exact Bi.mpr fun z=>q (.inl z)
theorem yA9{z:Str}(h:Rw 90 z){n:Nat}(hn:n<=6):∀K,K<=24->∀a,((tl z).drop a).count 40<K->yM K [.str z,.int (a:Int),.int ((n+1:Nat):Int)]=match ta (n+1) K ((tl z).drop a) with
  | some (d,r)=>.ok (.tuple [d,.int ((z.length-r.length:Nat):Int)])
  | none=>.ok noT
 | 0,_,a,hc=>by rfl'
 | K+1,hK,a,hc=>by
  have tz:(tl z).length=z.length:=yY z
  obtain⟨u,su,ou,iu⟩:=sl1 h.toTx a
  have q1:=aB ou (show PyData.strOk "-" = true by decide +kernel)
  rw[decide_eq_decide.mpr (iu 45 "-" t45)] at q1
  show (fH (yM K) [some (.str z),some (.int (a:Int)),some (.int ((n+1:Nat):Int)),none,none,none,none]).bind (fin false)=_
  unfold fH
  by_cases h45:((tl z).drop a).head?=some 45
  ·rw[xZ6 h45]
   rw[Aa h45] at q1
   have la:a<z.length:=by
    have:=AZ List.length (uY h45)
    rw[As,Aq] at this
    rfl'
   have el:((z.length-(((tl z).drop a).drop 1).length:Nat):Int)=(a:Int)+1:=by
    rw[As,As]
    rfl'
   show _=Res.ok (PyData.tuple [.none,.int ((z.length-(((tl z).drop a).drop 1).length:Nat):Int)])
   rw[el]
   simp![su,q1]
  ·rw[Ad h45] at q1
   have na:=qE h a
   have g1:∀v w:D,gT 2 (gsC (gN 3) (gsC (gN 1) gsN)) (.tuple [v,w]) [some (.str z),some (.int (a:Int)),some (.int ((n+1:Nat):Int)),none,none,none,none]=some [some (.str z),some w,some (.int ((n+1:Nat):Int)),some v,none,none,none]:=fun _ _=>rfl
   cases e:nm ((tl z).drop a) with
   | none =>
    rw[xI6 h45 e]
    rw[e] at na
    have na:xU [.str z,.int (a:Int)]=.ok (.tuple [.int (-1),.int (a:Int)]):=na
    have g2:=g1 (.int (-1)) (.int (a:Int))
    have d0:decide ((-1:Int)<0)=true:=by decide
    show _=Res.ok noT
    unfold noT
    simp![su,q1,na,g2,d0]
   | some q =>
    obtain⟨b,r⟩:=q
    rw[xT7 h45 e]
    rw[e] at na
    obtain⟨m,er,m0,ml⟩:=yX4 e
    rw[As] at ml
    have lr:r.length=z.length-(a+m):=by rw[er,As,As];rfl'
    have na:xU [.str z,.int (a:Int)]=.ok (.tuple [.int (b:Int),.int ((z.length-r.length:Nat):Int)]):=na
    rw[show z.length-r.length=a+m by rfl'] at na
    have dP:(tl z).drop (a+m)=r:=by rw[er,BV]
    have g2:=g1 (.int (b:Int)) (.int ((a+m:Nat):Int))
    have d0:decide ((b:Int)<0)=false:=Ad (by rfl')
    obtain⟨u2,su2,ou2,iu2⟩:=sl1 h.toTx (a+m)
    have q2:=kH ou2 (show PyData.strOk "(" = true by decide +kernel)
    have i40:=iu2 40 "(" t40
    rw[dP] at i40
    rw[decide_eq_decide.mpr i40] at q2
    by_cases h40:r.head?=some 40
    ·rw[Ak h40]
     rw[Aa h40] at q2
     have e40:=uY h40
     have dQ:(tl z).drop (a+m+1)=r.drop 1:=by rw[<-BV,dP]
     have cq:((tl z).drop (a+m+1)).count 40<K:=by
      have c1:r.count 40<=((tl z).drop a).count 40:=by rw[er];exact (BG _ _).count_le _
      have c2:r.count 40=(r.drop 1).count 40+1:=by
       have:=AZ (List.count 40) e40
       rw[List.count_cons_self] at this
       exact this
      rw[dQ]
      rfl'
     have rn:rng1 [.int ((n+1:Nat):Int)]=some ((List.range' 0 (n+1)).map fun i:Nat=>PyData.int (i:Int)):=by
      rw[aA (show n+1<=1000 by rfl'),Dv]
     have m0':mkL []=some (.list []):=rfl
     rcases yY4 h hn (show K<=24 by rfl') (yA9 h hn K (by rfl')) (some (.int (b:Int))) n 0 (a+m) [] none none (by rfl') cq rfl with ⟨ds,r',A',x',y',e1,e2,e3⟩ | ⟨e1,e3⟩
     ·rw[dQ] at e1
      rw[e1]
      have el:((z.length-r'.length:Nat):Int)=(A':Int)+1:=by rfl'
      show _=Res.ok (PyData.tuple [.tuple [.int (b:Int),.tuple ds],.int ((z.length-r'.length:Nat):Int)])
      rw[el]
      simp![su,q1,na,g2,d0,su2,q2,rn,e3,List.nil_append]
     ·rw[dQ] at e1
      rw[e1]
      show _=Res.ok noT
      simp![su,q1,na,g2,d0,su2,q2,rn,e3]
    ·rw[Ax h40]
     rw[Ad h40] at q2
     show _=Res.ok noT
     unfold noT
     simp![su,q1,na,g2,d0,su2,q2]
theorem cM{α:Type}{g:D->Ev->Option Ev}{b:Ev->Res Out}(A:α->D)(M Q:α->Prop)(S:List α->Ev->Prop)(v:List α->α->D)(N:Nat)(h1:∀pre x ρ,pre.length<N->M x->S pre ρ->Q x->∃ρ1 ρ2,g (A x) ρ=some ρ1/\b ρ1=.ok (.nx ρ2)/\S (pre ++ [x]) ρ2)(h2:∀pre x ρ,pre.length<N->M x->S pre ρ->¬Q x->∃ρ1,g (A x) ρ=some ρ1/\b ρ1=.ok (.rt (v pre x))) :
  ∀(xs pre:List α) (ρ:Ev),pre.length+xs.length<=N->(∀x∈xs,M x)->S pre ρ->(∃ρ',(∀x∈xs,Q x)/\L3.forM g b (xs.map A) ρ=.ok (.nx ρ')/\S (pre++xs) ρ')\/∃a x c,xs=a++x::c/\(∀y∈a,Q y)/\¬Q x/\L3.forM g b (xs.map A) ρ=.ok (.rt (v (pre++a) x))
 | [],pre,ρ,_,_,s=>.inl ⟨ρ,fun _ h=>(nomatch h),rfl,by rw[Bu];exact s⟩
 | x::xs,pre,ρ,hN,m,s=>by
  rw[Aq] at hN
  have mx:=m x Ae
  rcases Classical.em (Q x) with q | q
  ·obtain⟨ρ1,ρ2,e1,e2,s2⟩:=h1 pre x ρ (by rfl') mx s q
   have st:L3.forM g b ((x::xs).map A) ρ=L3.forM g b (xs.map A) ρ2:=by
    rw[AI,L3.forM,e1]
    show ((b ρ1).bind _)=_
    rw[e2]
    rfl
   rw[st]
   rcases cM A M Q S v N h1 h2 xs (pre ++ [x]) ρ2 (by rw[Af];have:[x].length=1:=rfl;rfl') (fun y hy=>m y (Ai _ hy)) s2 with ⟨ρ',a1,a2,a3⟩ | ⟨a,y,c,e,a1,a2,a3⟩
   ·refine .inl ⟨ρ',fun y hy => ?_,a2,?_⟩
    ·rcases Aw.mp hy with rfl | hy
     ·exact q
     ·exact a1 y hy
    ·rw[AO] at a3
     exact a3
   ·refine .inr ⟨x::a,y,c,by rw[e];rfl,fun y hy => ?_,a2,?_⟩
    ·rcases Aw.mp hy with rfl | hy
     ·exact q
     ·exact a1 y hy
    ·rw[a3,AO]
     rfl
  ·obtain⟨ρ1,e1,e2⟩:=h2 pre x ρ (by rfl') mx s q
   refine .inr ⟨[],x,xs,rfl,fun _ h=>(nomatch h),q,?_⟩
   rw[AI,L3.forM,e1]
   show ((b ρ1).bind _)=_
   rw[e2,Bu]
   rfl
open Classical in
def opR(z:Str):Option (List Int):=match Txt.split z " " with
 | []=>none
 | x::ws=>if x="openings"/\(∀w∈ws,Wd w)/\gO (rI' (ws.map dv))=true then some (rI' (ws.map dv)) else none
theorem gQ{z x:Str}{ws:List Str}(e:Txt.split z " " = x::ws){P:Prop}[Decidable P](h:P↔x="openings"/\(∀w∈ws,Wd w)/\gO (rI' (ws.map dv))=true):opR z=if P then some (rI' (ws.map dv)) else none:=by
 unfold opR
 rw[e]
 simp only
 by_cases p:P
 ·rw[Ak p,Ak (h.mp p)]
 ·rw[Ax p,Ax fun z=>p (h.mpr z)]
theorem Rw.sub{C:Nat}{z y:Str}(h:Rw C z)(l:y.length<=z.length)(s:(tl y).Sublist (tl z)):Rw C y :=
 ⟨⟨AJ l h.len,fun c hc=>h.asc c (s.subset hc)⟩,fun z=>h.nl (s.subset z),AJ (s.count_le _) h.co,AJ s.countP_le h.cd⟩
theorem zD4{y:Str}:∀(ts:List Str) (p:Str),p∈ts->(tl p).Sublist (tl (Str.join y ts))
 | t::ts,p,h=>by
  cases ts with
  | nil =>
   rw[BH.mp h]
   exact List.Sublist.refl _
  | cons u ts =>
   rw[wJ _ _ (by simp),zJ,zJ]
   rcases Aw.mp h with rfl | h
   ·exact List.sublist_append_left _ _
   ·exact ((zD4 (u::ts) p h).trans (CL _ _)).trans (CL _ _)
theorem Rw.word{C:Nat}{z w:Str}(h:Rw C z)(hw:w∈Txt.split z " "):Rw C w:=by
 refine h.sub (yN9 (by decide) hw) ?_
 have:=zD4 (y:=" ") _ w hw
 rw[PySem.StrLaws.join_split] at this
 exact this
theorem yV3{w:Str}(h:Rw 90 w):(Wd w/\nm (tl w)=some (dv w,[]))\/(¬Wd w/\∀b,nm (tl w)≠some (b,[])):=by
 obtain⟨s1,s2,s3⟩:=cH (tl w)
 by_cases d:Wd w
 ·refine .inl ⟨d,?_⟩
  have e:(tl w).takeWhile dig=tl w:=by
   have:=List.takeWhile_append_of_pos (p:=dig) (l₁:=tl w) (l₂:=[]) fun c hc=>Aa (d.1.1 c hc)
   simpa using this
  have hn:¬(tl w=[]\/((tl w).head?=some 48/\1<(tl w).length)):=fun z=>z.elim d.1.2 fun z=>by
   have e:=uY z.1
   have:=is0.mp (d.2.2 (st0.mpr ⟨_,e⟩))
   rw[this] at z
   have:=z.2
   simp at this
  unfold nm dv
  rw[e,Ax hn,BQ]
 ·refine .inr ⟨d,fun b e=>d ?_⟩
  unfold nm at e
  split at e
  ·cases e
  ·rename_i q
   have e2:(tl w).drop ((tl w).takeWhile dig).length=[]:=by
    injection e with e
    injection e with _ e
   have e3:(tl w).takeWhile dig=tl w:=by
    rw[e2,Bu] at s1
    exact s1.symm
   rw[e3] at q s2
   have cd:=h.cd
   rw[Dk.mpr s2] at cd
   have:=yA3 s2 q cd
   have tw:(⟨(tl w).toArray⟩:Str)=w:=yB (uT _)
   rw[tw] at this
   exact this
theorem zX6{z:Str}(h:Rw 90 z):wF [.str z]=match opR z with
  | some os=>.ok (tI os)
  | none=>.ok .none:=by
 have lb:=xB
 have lz:=h.len
 have sp:splD z (.str " ")=some (.list ((Txt.split z " ").map PyData.str)):=by
  unfold splD
  rw[yS,Az,Ak ⟨by decide,by rfl'⟩]
 have wn:=bO (x:=z) (y:=" ") (by decide)
 have wr:∀w∈Txt.split z " ",Rw 90 w:=fun w hw=>h.word hw
 show (qP [some (.str z),none,none,none,none,none]).bind (fin false)=_
 unfold qP
 cases es:Txt.split z " " with
 | nil=>exact absurd es (gI _ _)
 | cons x ws =>
  rw[es] at sp wn wr
  rw[AI] at sp
  have lw:(PyData.str x::ws.map PyData.str).length=ws.length+1:=by rw[Aq,Ac]
  have wl:ws.length<=1000:=by
   rw[Aq] at wn
   rfl'
  have a0:atI (PyData.str x::ws.map PyData.str) 0=some (.str x):=zD1 _ _
  have ne:=kH (wr x Ae).ok (show PyData.strOk "openings" = true by decide +kernel)
  by_cases cx:x="openings"
  ·rw[Aa cx] at ne
   by_cases c1:1<=ws.length
   ·have d1:decide (((ws.length+1:Nat):Int)<2)=false:=Ad (by rfl')
    by_cases c2:ws.length<=6
    ·have d2:decide ((7:Int)<((ws.length+1:Nat):Int))=false:=Ad (by rfl')
     have sl:slD (.list (PyData.str x::ws.map PyData.str)) (some 1) none=some (.list (ws.map PyData.str)):=by
      show some (PyData.list (cutD (PyData.str x::ws.map PyData.str) (some ((1:Nat):Int)) none))=_
      rw[zX8]
      rfl
     have run:=cM (g:=gN 3) (b:=xR) PyData.str (fun w=>Rw 90 w) (fun w=>Wd w/\dv w<=ws.length) (fun pre ρ=>∃a b c,ρ=[some (.str z),some (.list (PyData.str x::ws.map PyData.str)),some (lI (rI' (pre.map dv))),a,b,c]) (fun _ _=>.none) 6
      (by
       rintro pre w ρ lp hw ⟨a,b,c,rfl⟩ ⟨q1,q2⟩
       have na:=qE hw 0
       rw[Cj] at na
       rcases yV3 hw with ⟨_,e⟩ | ⟨n,_⟩
       ·rw[e] at na
        have na:xU [.str w,.int 0]=.ok (.tuple [.int (dv w:Int),.int (w.length:Int)]):=na
        have lw':lenTD [.str w]=some (.int (w.length:Int)):=Ak (by have:=hw.len;rfl')
        have g2:gT 2 (gsC (gN 4) (gsC (gN 5) gsN)) (.tuple [.int (dv w:Int),.int (w.length:Int)]) [some (.str z),some (.list (PyData.str x::ws.map PyData.str)),some (lI (rI' (pre.map dv))),some (.str w),b,c]=some [some (.str z),some (.list (PyData.str x::ws.map PyData.str)),some (lI (rI' (pre.map dv))),some (.str w),some (.int (dv w:Int)),some (.int (w.length:Int))]:=rfl
        have k0:decide ((dv w:Int)<0)=false:=Ad (by rfl')
        have k1:decide (((ws.length+1:Nat):Int)-1<(dv w:Int))=false:=Ad (by rfl')
        have ap:=aM (l:=(rI' (pre.map dv)).map PyData.int) (d:=.int (dv w:Int)) (by rw[Ac];unfold rI';rw[Ac,Ac];rfl')
        have er:(rI' (pre.map dv)).map PyData.int ++ [.int (dv w:Int)]=(rI' ((pre ++ [w]).map dv)).map PyData.int:=by
         unfold rI'
         simp
        rw[er] at ap
        refine⟨_,[some (.str z),some (.list (PyData.str x::ws.map PyData.str)),some (lI (rI' ((pre ++ [w]).map dv))),some (.str w),some (.int (dv w:Int)),some (.int (w.length:Int))],rfl,?_,_,_,_,rfl⟩
        unfold xR
        simp![na,g2,k0,lw',xJ,decide_true,lw,k1,ap]
       ·exact absurd q1 n)
      (by
       rintro pre w ρ lp hw ⟨a,b,c,rfl⟩ q
       refine⟨_,rfl,?_⟩
       have na:=qE hw 0
       rw[Cj] at na
       have lw':lenTD [.str w]=some (.int (w.length:Int)):=Ak (by have:=hw.len;rfl')
       have g2:∀v u:D,gT 2 (gsC (gN 4) (gsC (gN 5) gsN)) (.tuple [v,u]) [some (.str z),some (.list (PyData.str x::ws.map PyData.str)),some (lI (rI' (pre.map dv))),some (.str w),b,c]=some [some (.str z),some (.list (PyData.str x::ws.map PyData.str)),some (lI (rI' (pre.map dv))),some (.str w),some v,some u]:=fun _ _=>rfl
       show xR [some (.str z),some (.list (PyData.str x::ws.map PyData.str)),some (lI (rI' (pre.map dv))),some (.str w),b,c]=_
       unfold xR
       rcases yV3 hw with ⟨d,e⟩ | ⟨_,n⟩
       ·rw[e] at na
        have na:xU [.str w,.int 0]=.ok (.tuple [.int (dv w:Int),.int (w.length:Int)]):=na
        have k0:decide ((dv w:Int)<0)=false:=Ad (by rfl')
        have k1:decide (((ws.length+1:Nat):Int)-1<(dv w:Int))=true:=Aa (by
         have:¬dv w<=ws.length:=fun z=>q ⟨d,z⟩
         rfl')
        simp![na,g2,k0,lw',xJ,decide_true,lw,k1]
       ·cases e:nm (tl w) with
        | none =>
         rw[e] at na
         have na:xU [.str w,.int 0]=.ok (.tuple [.int (-1),.int 0]):=na
         have k0:decide ((-1:Int)<0)=true:=by decide
         simp![na,g2,k0]
        | some y =>
         obtain⟨y,r⟩:=y
         rw[e] at na
         have na:xU [.str w,.int 0]=.ok (.tuple [.int (y:Int),.int ((w.length-r.length:Nat):Int)]):=na
         have k0:decide ((y:Int)<0)=false:=Ad (by rfl')
         have k1:decide (((w.length-r.length:Nat):Int)=(w.length:Int))=false:=Ad (by
          have r0:0<r.length:=Bi.mpr fun z=>n y (by rw[e,z])
          obtain⟨m,em,m0,ml⟩:=yX4 e
          rw[yY] at ml
          rfl')
         simp![na,g2,k0,lw',xJ,k1]) ws [] [some (.str z),some (.list (PyData.str x::ws.map PyData.str)),some (lI []),none,none,none] (by show 0+_<=6;rfl') (fun w hw=>wr w (Ai _ hw)) ⟨_,_,_,rfl⟩
     have iff:(∀w∈ws,Wd w/\dv w<=ws.length)↔x="openings"/\(∀w∈ws,Wd w)/\gO (rI' (ws.map dv))=true:=by
      have len:(rI' (ws.map dv)).length=ws.length:=by unfold rI';rw[Ac,Ac]
      unfold gO
      rw[len,Aa c1,Aa c2,Bv,Bv,AS]
      constructor
      ·refine fun a=>⟨cx,fun w hw=>(a w hw).1,fun y hy => ?_⟩
       unfold rI' at hy
       rw[Bd] at hy
       obtain⟨w,hw,rfl⟩:=AR.mp hy
       have:=(a w hw).2
       show (decide (0<=(dv w:Int))&&decide ((dv w:Int)<=(ws.length:Int)))=true
       rw[Aa (by rfl'),Aa (by rfl')]
       rfl
      ·refine fun a w hw=>⟨a.2.1 w hw,?_⟩
       have:=a.2.2 (dv w:Int) (by unfold rI';rw[Bd];exact AR.mpr ⟨w,hw,rfl⟩)
       rw[Ay,decide_eq_true_iff,decide_eq_true_iff] at this
       rfl'
     open Classical in rw[gQ es iff]
     have m0:mkL []=some (.list []):=rfl
     rcases run with ⟨ρ',a1,a2,a,b,c,rfl⟩ | ⟨a,y,c,ey,_,nq,a3⟩
     ·rw[Ak a1]
      have a2:L3.forM (gN 3) xR (ws.map PyData.str) [some (.str z),some (.list (PyData.str x::ws.map PyData.str)),some (.list []),none,none,none]=.ok (.nx [some (.str z),some (.list (PyData.str x::ws.map PyData.str)),some (lI (rI' (ws.map dv))),a,b,c]):=a2
      simp![yI,yS,sp,a0,ne,lw,d1,d2,sl,a2]
     ·rw[Ax fun q=>nq (q y (by rw[ey];simp))]
      have a3:L3.forM (gN 3) xR (ws.map PyData.str) [some (.str z),some (.list (PyData.str x::ws.map PyData.str)),some (.list []),none,none,none]=.ok (.rt .none):=a3
      simp![yI,yS,sp,a0,ne,lw,d1,d2,sl,a3]
    ·have d2:decide ((7:Int)<((ws.length+1:Nat):Int))=true:=Aa (by rfl')
     rw[gQ es (P:=False) ⟨False.elim,fun a=>by
      have b:=a.2.2
      unfold gO at b
      rw[Ay,Ay,decide_eq_true_iff,decide_eq_true_iff] at b
      have:=b.2.1
      unfold rI' at this
      rw[Ac,Ac] at this
      exact c2 this⟩]
     simp![yI,yS,sp,a0,ne,lw,d1,d2]
   ·have d1:decide (((ws.length+1:Nat):Int)<2)=true:=Aa (by rfl')
    rw[gQ es (P:=False) ⟨False.elim,fun a=>by
     have b:=a.2.2
     unfold gO at b
     rw[Ay,decide_eq_true_iff] at b
     have:=b.1
     unfold rI' at this
     rw[Ac,Ac] at this
     exact c1 this⟩]
    simp![yI,yS,sp,a0,ne,lw,d1]
  ·rw[Ad cx] at ne
   rw[gQ es (P:=False) ⟨False.elim,fun a=>cx a.1⟩]
   simp![yI,yS,sp,a0,ne]
theorem xQ9{p k:Nat}{d:D}{s:Str}(T:TW p k d s):(d=.none/\s="-")\/∃(k':Nat) (w:Str) (ds:List D) (ss:List Str),k=k'+1/\d=.tuple [.int (dv w:Int),.tuple ds]/\s=w++("("++(Str.join " " ss ++ ")"))/\Wd w/\ds.length=p/\ss.length=p/\∀(i:Nat) (d:D) (s:Str),ds[i]?=some d->ss[i]?=some s->TW p k' d s:=by
 cases T with
 | none=>exact .inl ⟨rfl,rfl⟩
 | node w ds ss h1 h2 h3 h4=>exact .inr ⟨_,w,ds,ss,rfl,rfl,rfl,h1,h2,h3,h4⟩
def wD(ws:W2):D:=.list (ws.map fun z=>.tuple [.int (z.1:Int),.int (z.2:Int)])
theorem xZ3{n p:Nat}(hn:n<=7):∀(k:Nat) (d:D) (l:Nat) (ws:W2),(∃K s,TW n K d s)->l<k->ws.length+l<=100->xI k [d,.int (p:Int),.int (n:Int),wD ws,.int (l:Int)]=.ok (.bool (isT n k l (wB ws) (wN p ws) d))
 | 0,_,_,_,_,h,_=>by rfl'
 | k+1,d,l,ws,⟨K,s,T⟩,hk,hw=>by
  show (qD (xI k) [some d,some (.int (p:Int)),some (.int (n:Int)),some (wD ws),some (.int (l:Int)),none,none,none,none,none]).bind (fin false)=_
  unfold qD
  rcases xQ9 T with ⟨rfl,_⟩ | ⟨K',w,ks,ss,rfl,rfl,_,_,lk,ls,hks⟩
  ·have i0:isND false .none .none=some true:=rfl
   rw[zV6]
   simp![i0]
  ·have b0:(0:Int)<=(dv w:Int):=by rfl'
   generalize (dv w:Int)=b at b0
   have i0:isND false (.tuple [.int b,.tuple ks]) .none=some false:=rfl
   have g2:gT 2 (gsC (gN 5) (gsC (gN 6) gsN)) (.tuple [.int b,.tuple ks]) [some (.tuple [.int b,.tuple ks]),some (.int (p:Int)),some (.int (n:Int)),some (wD ws),some (.int (l:Int)),none,none,none,none,none]=some [some (.tuple [.int b,.tuple ks]),some (.int (p:Int)),some (.int (n:Int)),some (wD ws),some (.int (l:Int)),some (.int b),some (.tuple ks),none,none,none]:=rfl
   have c1:∀f,eComp (iS (eV 3)) tYes (e2 ixD (eV 0) (eC (.int 0))) [] [some (.tuple [.int b,.tuple ks]),some (.int (p:Int)),some (.int (n:Int)),some (wD ws),some (.int (l:Int)),some (.int b),some (.tuple ks),f,none,none]=.ok (lI (wB ws)):=fun f=>by
    rw[fV (fun z:Nat×Nat=>PyData.tuple [.int (z.1:Int),.int (z.2:Int)]) (fun z=>PyData.int (z.1:Int)) ws (by unfold wD;simp -implicitDefEqProofs only[(evA)]) (by rfl') (fun z _=>rfl)]
    unfold lI wB
    rw[Bd]
    rfl
   have c2:∀f,eComp (iS (eV 3)) tYes (e2 ixD (eV 0) (eC (.int 1))) [] [some (.tuple [.int b,.tuple ks]),some (.int (p:Int)),some (.int (n:Int)),some (wD ws),some (.int (l:Int)),some (.int b),some (.tuple ks),f,none,none]=.ok (lI (ws.map fun z=>(z.2:Int))):=fun f=>by
    rw[fV (fun z:Nat×Nat=>PyData.tuple [.int (z.1:Int),.int (z.2:Int)]) (fun z=>PyData.int (z.2:Int)) ws (by unfold wD;simp -implicitDefEqProofs only[(evA)]) (by rfl') (fun z _=>rfl)]
    unfold lI
    rw[Bd]
    rfl
   have nn:catL (.list [.int (p:Int)]) (lI (ws.map fun z=>(z.2:Int)))=some (lI (wN p ws)):=zQ3 (xs:=[(p:Int)]) (by rw[Ac];have:[(p:Int)].length=1:=rfl;rfl')
   rw[zE3]
   by_cases l0:l=0
   ·subst l0
    simp![i0,g2,yN,Aa (show ((0:Nat):Int)=0 from rfl),Ad (show ¬(0≠0) from fun z=>z rfl),BL]
   ·by_cases c3:b<(n:Int)
    ·have gb:geI (.int b) (.int (n:Int))=some false:=by
      show some (decide (b ≥ (n:Int)))=_
      rw[Ad (by rfl')]
     cases c4:(wB ws).contains b with
     | true =>
      rw[BK,BL,Dd,Dd]
      have ib:inD false (.int b) (lI (wB ws))=some true:=by rw[wI,c4];rfl
      simp![i0,g2,yN,Ad (show ¬((l:Nat):Int)=0 by rfl'),gb,c1,ib]
     | false =>
      have ib:inD false (.int b) (lI (wB ws))=some false:=by rw[wI,c4];rfl
      rw[Aa l0,Aa (show 0<=b/\b<(n:Int) from ⟨b0,c3⟩),Aa lk,BA,Bv,Bv,Bv,Bv]
      have kid:∀i,i<n->∃K s,TW n K (ks.getD i .none) s:=fun i hi=>by
       have g:ks[i]?=some (ks.getD i .none):=by rw[List.getD,Aj (show i<ks.length by rfl')];rfl
       exact⟨K',ss[i]'(by rfl'),hks i _ _ g (Aj _)⟩
      obtain⟨bn,rfl⟩:∃j:Nat,b=(j:Int):=⟨b.toNat,by rfl'⟩
      have ih:∀i,i<n->xI k [ks.getD i .none,.int (p:Int),.int (n:Int),wD (ws ++ [(bn,i)]),.int ((l:Int)-1)]=.ok (.bool (isT n k (l-1) (wB ws ++ [(bn:Int)]) (wN p ws ++ [(i:Int)]) (ks.getD i .none))):=fun i hi=>by
       have:=xZ3 (p:=p) hn k (ks.getD i .none) (l-1) (ws ++ [(bn,i)]) (kid i hi) (by rfl') (by rw[Af];have:[(bn,i)].length=1:=rfl;rfl')
       rw[show ((l-1:Nat):Int)=(l:Int)-1 by rfl'] at this
       rw[this]
       unfold wB wN
       rw[Bh,Bh]
       rfl
      have at':∀i,i<n->atI ks (i:Int)=some (ks.getD i .none):=fun i hi=>by
       unfold atI
       rw[uO (show i<ks.length by rfl'),Az,List.getD,Aj (show i<ks.length by rfl')]
       rfl
      have ah:∀i:Nat,catL (wD ws) (.list [.tuple [.int (bn:Int),.int (i:Int)]])=some (wD (ws ++ [(bn,i)])):=fun i=>by
       unfold wD
       show (if _ then _ else _)=_
       rw[Ak (by rw[Ac];have:[PyData.tuple [.int (bn:Int),.int (i:Int)]].length=1:=rfl;have:=xB;rfl'),Bh]
       rfl
      have run:=cM (g:=gN 8) (b:=wM (xI k)) (fun i:Nat=>PyData.int (i:Int)) (fun i=>i<n) (fun i=>(if (wN p ws).contains (i:Int) then isNo (ks.getD i .none) else isT n k (l-1) (wB ws ++ [(bn:Int)]) (wN p ws ++ [(i:Int)]) (ks.getD i .none))=true) (fun _ ρ=>∃x y,ρ=[some (.tuple [.int (bn:Int),.tuple ks]),some (.int (p:Int)),some (.int (n:Int)),some (wD ws),some (.int (l:Int)),some (.int (bn:Int)),some (.tuple ks),some (lI (wN p ws)),x,y]) (fun _ _=>.bool false) n
       (by
        rintro pre i ρ _ hi ⟨x,y,rfl⟩ q
        refine⟨_,[some (.tuple [.int (bn:Int),.tuple ks]),some (.int (p:Int)),some (.int (n:Int)),some (wD ws),some (.int (l:Int)),some (.int (bn:Int)),some (.tuple ks),some (lI (wN p ws)),some (.int (i:Int)),some (wD (ws ++ [(bn,i)]))],rfl,?_,_,_,rfl⟩
        have hx:=at' i hi
        have e1:=dJ (ks.getD i .none)
        have e2:=ih i hi
        unfold wM
        cases c:(wN p ws).contains (i:Int) with
        | true =>
         rw[c,Ak rfl] at q
         have j1:inD false (.int (i:Int)) (lI (wN p ws))=some true:=by rw[wI,c];rfl
         have j2:inD true (.int (i:Int)) (lI (wN p ws))=some false:=by rw[wI,c];rfl
         rw[q] at e1
         simp![j1,j2,hx,e1,ah]
        | false =>
         rw[c,Ax Ap] at q
         have j1:inD false (.int (i:Int)) (lI (wN p ws))=some false:=by rw[wI,c];rfl
         have j2:inD true (.int (i:Int)) (lI (wN p ws))=some true:=by rw[wI,c];rfl
         rw[q] at e2
         simp![j1,j2,hx,ah,e2])
       (by
        rintro pre i ρ _ hi ⟨x,y,rfl⟩ q
        refine⟨_,rfl,?_⟩
        have hx:=at' i hi
        have e1:=dJ (ks.getD i .none)
        have e2:=ih i hi
        show wM (xI k) [some (.tuple [.int (bn:Int),.tuple ks]),some (.int (p:Int)),some (.int (n:Int)),some (wD ws),some (.int (l:Int)),some (.int (bn:Int)),some (.tuple ks),some (lI (wN p ws)),some (.int (i:Int)),y]=_
        unfold wM
        cases c:(wN p ws).contains (i:Int) with
        | true =>
         rw[c,Ak rfl,BS] at q
         have j1:inD false (.int (i:Int)) (lI (wN p ws))=some true:=by rw[wI,c];rfl
         rw[q] at e1
         simp![j1,hx,e1]
        | false =>
         rw[c,Ax Ap,BS] at q
         have j1:inD false (.int (i:Int)) (lI (wN p ws))=some false:=by rw[wI,c];rfl
         have j2:inD true (.int (i:Int)) (lI (wN p ws))=some true:=by rw[wI,c];rfl
         rw[q] at e2
         simp![j1,j2,hx,ah,e2]) (List.range n) [] [some (.tuple [.int (bn:Int),.tuple ks]),some (.int (p:Int)),some (.int (n:Int)),some (wD ws),some (.int (l:Int)),some (.int (bn:Int)),some (.tuple ks),some (lI (wN p ws)),none,none] (by show 0+_<=n;rw[AQ];rfl') (fun i hi=>AD.mp hi) ⟨_,_,rfl⟩
      have rn:rng1 [.int (n:Int)]=some ((List.range n).map fun i:Nat=>PyData.int (i:Int)):=aA (by rfl')
      rcases run with ⟨ρ',a1,a2,x,y,rfl⟩ | ⟨a,i,c,ei,_,nq,a3⟩
      ·rw[AS.mpr a1]
       simp![i0,g2,yN,Ad (show ¬((l:Nat):Int)=0 by rfl'),gb,c1,ib,c2,nn,rn,a2]
      ·have al:((List.range n).all fun i=>if (wN p ws).contains (i:Int) then isNo (ks.getD i .none) else isT n k (l-1) (wB ws ++ [(bn:Int)]) (wN p ws ++ [(i:Int)]) (ks.getD i .none))=false:=by
        rw[<-BS,AS]
        exact fun z=>nq (z i (by rw[ei];simp))
       rw[al]
       simp![i0,g2,yN,Ad (show ¬((l:Nat):Int)=0 by rfl'),gb,c1,ib,c2,nn,rn,a3]
    ·have gb:geI (.int b) (.int (n:Int))=some true:=by
      show some (decide (b ≥ (n:Int)))=_
      rw[Aa (by rfl')]
     rw[Ad (show ¬(0<=b/\b<(n:Int)) from fun z=>c3 z.2),BL,Dd]
     simp![i0,g2,yN,Ad (show ¬((l:Nat):Int)=0 by rfl'),gb]
theorem Rw.up{C C':Nat}{z:Str}(h:Rw C z)(l:C<=C'):Rw C' z:=⟨h.toTx,h.nl,AJ h.co l,AJ h.cd l⟩
def hdT(j:Nat):Str:="person "++numT j ++ " "
def pg(n j:Nat)(z:Str):Option D:=if (tl z).take (hdT j).length=tl (hdT j) then (match ta n 24 ((tl z).drop (hdT j).length) with
 | some (d,[])=>some d
 | _=>none) else none
def rdI(n:Nat)(Z:Nat->Str):Nat->Nat->Sum Nat (List D)
 | 0,_=>.inr []
 | m+1,j=>match pg n j (Z j) with
  | none=>.inl (j+2)
  | some d=>match rdI n Z m (j+1) with
   | .inl r=>.inl r
   | .inr ds=>.inr (d::ds)
theorem xV6{j:Nat}(h:j<61):(hdT j).length<=10/\PyData.strOk (hdT j)=true:=by
 have nk:=vK j h
 have n2:=nk.1.1
 have c7:("person ":Str).length=7:=rfl
 have c1:(" ":Str).length=1:=rfl
 unfold hdT
 exact⟨by rw[Ag,Ag];rfl',vR (vR (by decide +kernel) nk.2.2.2.2.1) (by decide +kernel)⟩
def bad3(r:Nat):D:=.tuple [.int (r:Int),.none,.none]
section
variable {zs:List Str}(hz:∀z∈zs,Rw 20 z) (hl:zs.length<=9){os:List Int}{n:Nat}(ho:os.length=n+1) (hn:n<=5)
include hz hl ho hn
theorem yF1{j:Nat}(hj:j+1<zs.length)(hjn:j<=n+1){acc:List D}(ha:acc.length=j)(x y u v w:Option D) :
  xW [some (.list (zs.map PyData.str)),some (tI os),some (.list acc),some (.int ((j+1:Nat):Int)),y,u,v,w]=match (if j<n+1 then pg (n+1) j (zs.getD (j+1) "") else none) with
  | some d=>.ok (.nx [some (.list (zs.map PyData.str)),some (tI os),some (.list (acc ++ [d])),some (.int ((j+1:Nat):Int)),some (.str (hdT j)),some d,some (.int ((zs.getD (j+1) "").length:Int)),w])
  | none=>.ok (.rt (bad3 (j+2))):=by
 have lb:=xB
 have gz:zs[j+1]?=some (zs.getD (j+1) ""):=by
  rw[List.getD,Aj hj]
  rfl
 have rz:=hz _ (Bb gz)
 generalize zs.getD (j+1) "" = z at gz rz
 have rz9:Rw 90 z:=rz.up (by decide)
 have lz:=rz.len
 obtain⟨hd1,hd2⟩:=xV6 (j:=j) (by rfl')
 have nk:=vK j (by rfl')
 have so:strOfD [.int (j:Int)]=some (.str (numT j)):=Ak nk.2.2.2.1
 have n2:=nk.1.1
 have c7:("person ":Str).length=7:=rfl
 have c1:(" ":Str).length=1:=rfl
 have k1:catS (.str "person ") (.str (numT j))=some (.str ("person "++numT j)):=Ak (by rfl')
 have k2:catS (.str ("person "++numT j)) (.str " ")=some (.str (hdT j)):=Ak (by rw[Ag];rfl')
 have sj:((j+1:Nat):Int)-1=(j:Int):=by rfl'
 have ix:atI (zs.map PyData.str) ((j+1:Nat):Int)=some (.str z):=by
  unfold atI
  rw[uO (by rw[Ac];exact hj),Az,AA,gz]
  rfl
 have lh:lenTD [.str (hdT j)]=some (.int ((hdT j).length:Int)):=Ak (by rfl')
 have lzT:lenTD [.str z]=some (.int (z.length:Int)):=Ak (by rfl')
 have lo:(os.map PyData.int).length=n+1:=by rw[Ac,ho]
 have tr:=yA9 rz9 (show n<=6 by rfl') 24 (Al _) (hdT j).length (CV (AJ ((BG _ _).count_le _) rz.co) (by decide))
 have tr:vG [.str z,.int ((hdT j).length:Int),.int ((n+1:Nat):Int)]=_:=tr
 have g2:∀a b:D,gT 2 (gsC (gN 5) (gsC (gN 6) gsN)) (.tuple [a,b]) [some (.list (zs.map PyData.str)),some (tI os),some (.list acc),some (.int ((j+1:Nat):Int)),some (.str (hdT j)),u,v,w]=some [some (.list (zs.map PyData.str)),some (tI os),some (.list acc),some (.int ((j+1:Nat):Int)),some (.str (hdT j)),some a,some b,w]:=fun _ _=>rfl
 have sl:slS (.str z) none (some ((hdT j).length:Int))=some (.str (Txt.slice z none (some ((hdT j).length:Int)))):=by
  unfold slS
  rw[yS,Az,Ak (by rfl')]
 have ne:=kH (rz.toTx.slice none (some ((hdT j).length:Int))).ok hd2
 have ts:=yA8 z (hdT j).length
 have iff:Txt.slice z none (some ((hdT j).length:Int))=hdT j↔(tl z).take (hdT j).length=tl (hdT j):=⟨fun q=>by rw[<-ts,q],fun q=>yB (ts.trans q)⟩
 rw[decide_eq_decide.mpr iff] at ne
 have out:((j+1:Nat):Int)+1=((j+2:Nat):Int):=by rfl'
 have nd:eqD (.str "none") (.str "none")=some true:=by rw[aB (by decide +kernel) (by decide +kernel),Aa rfl]
 by_cases jn:j<n+1
 ·rw[Ak jn]
  have gt:decide (((n+1:Nat):Int)<((j+1:Nat):Int))=false:=Ad (by rfl')
  unfold pg
  cases e:ta (n+1) 24 ((tl z).drop (hdT j).length) with
  | none =>
   rw[e] at tr
   have tr:vG [.str z,.int ((hdT j).length:Int),.int ((n+1:Nat):Int)]=.ok (.tuple [.str "none",.int 0]):=tr
   have no:(if (tl z).take (hdT j).length=tl (hdT j) then (match (none:Option (D×List Nat)) with
    | some (d,[])=>some d
    | _=>none) else none)=none:=by split <;> rfl
   rw[no]
   unfold xW bad3
   by_cases q:(tl z).take (hdT j).length=tl (hdT j)
   ·rw[Aa q] at ne
    simp![sj,so,k1,k2,ix,lh,lo,tr,g2,gt,sl,ne,nd,out]
   ·rw[Ad q] at ne
    simp![sj,so,k1,k2,ix,lh,lo,tr,g2,gt,sl,ne,out]
  | some q0 =>
   obtain⟨d,r⟩:=q0
   rw[e] at tr
   have tr:vG [.str z,.int ((hdT j).length:Int),.int ((n+1:Nat):Int)]=.ok (.tuple [d,.int ((z.length-r.length:Nat):Int)]):=tr
   obtain⟨sd,es,T⟩:=cI 24 _ d r (AJ (BG _ _).countP_le rz9.cd) e
   obtain⟨c1',c2',_⟩:=zX7 T
   have en:=yZ5 c1' (by rfl') (yX9 T)
   unfold xW
   by_cases q:(tl z).take (hdT j).length=tl (hdT j)
   ·rw[Ak q]
    rw[Aa q] at ne
    cases r with
    | nil =>
     have ap:=aM (l:=acc) (d:=d) (by rfl')
     have ez:neD (.int ((z.length-([]:List Nat).length:Nat):Int)) (.int (z.length:Int))=some false:=by
      rw[xJ,Aa (by rw[Ca];rfl)]
      rfl
     have z0:((z.length-([]:List Nat).length:Nat):Int)=(z.length:Int):=rfl
     rw[z0] at tr ez
     simp![sj,so,k1,k2,ix,lh,lo,tr,g2,gt,sl,ne,en,lzT,ez,ap]
    | cons c r =>
     have lr:(c::r).length<=z.length:=by
      have:=AZ List.length es
      rw[As,Af,yY] at this
      rfl'
     have ez:neD (.int ((z.length-(c::r).length:Nat):Int)) (.int (z.length:Int))=some true:=by
      rw[xJ,Ad (by rw[Aq] at lr ⊢;rfl')]
      rfl
     unfold bad3
     generalize ((z.length-(c::r).length:Nat):Int)=zl at tr ez
     simp![sj,so,k1,k2,ix,lh,lo,tr,g2,gt,sl,ne,en,lzT,ez,out]
   ·rw[Ax q]
    rw[Ad q] at ne
    unfold bad3
    generalize ((z.length-r.length:Nat):Int)=zl at tr
    simp![sj,so,k1,k2,ix,lh,lo,tr,g2,gt,sl,ne,out]
 ·rw[Ax jn]
  have gt:decide (((n+1:Nat):Int)<((j+1:Nat):Int))=true:=Aa (by rfl')
  obtain⟨a,b',eab⟩:∃a b:D,vG [.str z,.int ((hdT j).length:Int),.int ((n+1:Nat):Int)]=.ok (.tuple [a,b]):=by
   rw[tr]
   cases ta (n+1) 24 ((tl z).drop (hdT j).length) with
   | none=>exact⟨_,_,rfl⟩
   | some q=>exact⟨_,_,rfl⟩
  unfold xW bad3
  simp![sj,so,k1,k2,ix,lh,lo,eab,g2,gt,out]
include hz hl ho hn
theorem zI2:∀(cnt j:Nat) (acc:List D) (x y u v w:Option D),j+cnt+1=zs.length->j<=n+1->acc.length=j ->
  (∃ds x' y' u' v',rdI (n+1) (fun j=>zs.getD (j+1) "") (min (n+1-j) cnt) j=.inr ds/\cnt<=n+1-j/\L3.forM (gN 3) xW ((List.range' (j+1) cnt).map fun i:Nat=>PyData.int (i:Int)) [some (.list (zs.map PyData.str)),some (tI os),some (.list acc),x,y,u,v,w]=.ok (.nx [some (.list (zs.map PyData.str)),some (tI os),some (.list (acc++ds)),x',y',u',v',w])) \/
  ∃r,((rdI (n+1) (fun j=>zs.getD (j+1) "") (min (n+1-j) cnt) j=.inl r)\/(∃ds,rdI (n+1) (fun j=>zs.getD (j+1) "") (min (n+1-j) cnt) j=.inr ds/\n+1-j<cnt/\r=n+3))/\L3.forM (gN 3) xW ((List.range' (j+1) cnt).map fun i:Nat=>PyData.int (i:Int)) [some (.list (zs.map PyData.str)),some (tI os),some (.list acc),x,y,u,v,w]=.ok (.rt (bad3 r))
 | 0,j,acc,x,y,u,v,w,_,_,_=>.inl ⟨[],x,y,u,v,by rw[Nat.min_zero,rdI],AM _,by rw[Bu];rfl⟩
 | cnt+1,j,acc,x,y,u,v,w,hj,hjn,ha=>by
  have st:=yF1 hz hl ho hn (j:=j) (by rfl') hjn ha x y u v w
  have mr:(List.range' (j+1) (cnt+1)).map (fun i:Nat=>PyData.int (i:Int))=PyData.int ((j+1:Nat):Int)::(List.range' (j+1+1) cnt).map fun i:Nat=>PyData.int (i:Int):=by
   rw[List.range'_succ]
   rfl
  have fs:L3.forM (gN 3) xW ((List.range' (j+1) (cnt+1)).map fun i:Nat=>PyData.int (i:Int)) [some (.list (zs.map PyData.str)),some (tI os),some (.list acc),x,y,u,v,w]=(xW [some (.list (zs.map PyData.str)),some (tI os),some (.list acc),some (.int ((j+1:Nat):Int)),y,u,v,w]).bind fun o=>match o with
   | .nx ρ2=>L3.forM (gN 3) xW ((List.range' (j+1+1) cnt).map fun i:Nat=>PyData.int (i:Int)) ρ2
   | .rt d=>.ok (.rt d):=by
   rw[mr]
   rfl
  by_cases jn:j<n+1
  ·rw[Ak jn] at st
   have em:min (n+1-j) (cnt+1)=min (n+1-(j+1)) cnt+1:=by rfl'
   rw[em,rdI]
   cases e:pg (n+1) j (zs.getD (j+1) "") with
   | none =>
    rw[e] at st
    refine .inr ⟨j+2,.inl rfl,?_⟩
    rw[fs,st]
    rfl
   | some d =>
    rw[e] at st
    have fs2:L3.forM (gN 3) xW ((List.range' (j+1) (cnt+1)).map fun i:Nat=>PyData.int (i:Int)) [some (.list (zs.map PyData.str)),some (tI os),some (.list acc),x,y,u,v,w]=L3.forM (gN 3) xW ((List.range' (j+1+1) cnt).map fun i:Nat=>PyData.int (i:Int)) [some (.list (zs.map PyData.str)),some (tI os),some (.list (acc ++ [d])),some (.int ((j+1:Nat):Int)),some (.str (hdT j)),some d,some (.int ((zs.getD (j+1) "").length:Int)),w]:=by
     rw[fs,st]
     rfl
    rw[fs2]
    simp only
    rcases zI2 cnt (j+1) (acc ++ [d]) (some (.int ((j+1:Nat):Int))) (some (.str (hdT j))) (some d) (some (.int ((zs.getD (j+1) "").length:Int))) w (by rfl') (by rfl') (by rw[Af,ha];rfl) with ⟨ds,x',y',u',v',e1,e2,e3⟩ | ⟨r,e1 | ⟨ds,e1,e2,rfl⟩,e3⟩
    ·refine .inl ⟨d::ds,x',y',u',v',by rw[e1],by rfl',?_⟩
     rw[e3,AO]
     rfl
    ·exact .inr ⟨r,.inl (by rw[e1]),e3⟩
    ·exact .inr ⟨_,.inr ⟨d::ds,by rw[e1],by rfl',rfl⟩,e3⟩
  ·rw[Ax jn] at st
   have em:min (n+1-j) (cnt+1)=0:=by rfl'
   rw[em,rdI]
   refine .inr ⟨n+3,.inr ⟨[],rfl,by rfl',rfl⟩,?_⟩
   rw[fs,st,show j+2=n+3 by rfl']
   rfl
end
theorem yA7{n j:Nat}{z:Str}(h:Rw 20 z){d:D}(e:pg (n+1) j z=some d):∃s,z=hdT j++s/\TW (n+1) 24 d s:=by
 unfold pg at e
 split at e
 ·rename_i q
  cases e2:ta (n+1) 24 ((tl z).drop (hdT j).length) with
  | none =>
   rw[e2] at e
   cases e
  | some y =>
   obtain⟨d',r⟩:=y
   rw[e2] at e
   cases r with
   | cons c r=>cases e
   | nil =>
    cases e
    obtain⟨sd,es,T⟩:=cI 24 _ _ _ (AJ (BG _ _).countP_le (AJ h.cd (by decide))) e2
    refine⟨sd,yB ?_,T⟩
    rw[zJ,<-q]
    rw[Bu] at es
    rw[<-es,Dj]
 ·cases e
theorem zS3{n:Nat}{Z:Nat->Str}(hZ:∀j,Rw 20 (Z j)):∀(m j:Nat) (ds:List D),rdI (n+1) Z m j=.inr ds->ds.length=m/\∀d∈ds,∃s,TW (n+1) 24 d s
 | 0,j,ds,h=>by
  rw[rdI] at h
  cases h
  exact⟨rfl,fun _ h=>nomatch h⟩
 | m+1,j,ds,h=>by
  rw[rdI] at h
  cases e:pg (n+1) j (Z j) with
  | none =>
   rw[e] at h
   cases h
  | some d =>
   rw[e] at h
   simp only at h
   cases e2:rdI (n+1) Z m (j+1) with
   | inl r =>
    rw[e2] at h
    cases h
   | inr ds' =>
    rw[e2] at h
    cases h
    obtain⟨i1,i2⟩:=zS3 hZ m (j+1) ds' e2
    obtain⟨s,_,T⟩:=yA7 (hZ j) e
    refine⟨by rw[Aq,i1],fun y hy => ?_⟩
    rcases Aw.mp hy with rfl | hy
    ·exact⟨s,T⟩
    ·exact i2 y hy
inductive Du:Type
 | bad (r:Nat)
 | plan (os:List Int)
 | ok (os:List Int) (ds:List D)
def duR(zs:List Str):Du:=match opR (zs.getD 0 "") with
 | none=>.bad 1
 | some os=>match rdI os.length (fun j=>zs.getD (j+1) "") (min os.length (zs.length-1)) 0 with
  | .inl r=>.bad r
  | .inr ds=>if zs.length=os.length+1 then (if gP os ds=true then .ok os ds else .plan os) else .bad (min zs.length (os.length+1)+1)
def duD:Du->D
 | .bad r=>bad3 r
 | .plan os=>.tuple [.int 0,tI os,.none]
 | .ok os ds=>.tuple [.int 0,tI os,.tuple ds]
theorem zJ6{zs:List Str}(e:opR (zs.getD 0 "")=none):duR zs=.bad 1:=by
 unfold duR
 simp only[e]
theorem zT5{zs:List Str}{os:List Int}{r:Nat}(e:opR (zs.getD 0 "")=some os)(e1:rdI os.length (fun j=>zs.getD (j+1) "") (min os.length (zs.length-1)) 0=.inl r):duR zs=.bad r:=by
 unfold duR
 simp only[e,e1]
theorem zU3{zs:List Str}{os:List Int}{ds:List D}(e:opR (zs.getD 0 "")=some os)(e1:rdI os.length (fun j=>zs.getD (j+1) "") (min os.length (zs.length-1)) 0=.inr ds):duR zs=if zs.length=os.length+1 then (if gP os ds=true then .ok os ds else .plan os) else .bad (min zs.length (os.length+1)+1):=by
 unfold duR
 simp only[e,e1]
theorem aT{z:Str}{os:List Int}(e:opR z=some os):gO os=true:=by
 unfold opR at e
 split at e
 ·cases e
 ·split at e
  ·rename_i q
   cases e
   exact q.2.2
  ·cases e
theorem yG4{zs:List Str}(hz:∀z∈zs,Rw 20 z)(h0:zs ≠ [])(hl:zs.length<=9):kL [.list (zs.map PyData.str)]=.ok (duD (duR zs)):=by
 have n0:=Bi.mpr h0
 have rz:∀j,Rw 20 (zs.getD j ""):=fun j=>by
  by_cases q:j<zs.length
  ·have g:zs[j]?=some (zs.getD j ""):=by rw[List.getD,Aj q];rfl
   exact hz _ (Bb g)
  ·have g:zs.getD j "" = "":=by rw[List.getD,By (by rfl')];rfl
   rw[g]
   exact⟨⟨by decide,by decide +kernel⟩,by decide +kernel,by decide +kernel,by decide +kernel⟩
 have a0:atI (zs.map PyData.str) 0=some (.str (zs.getD 0 "")):=by
  show atI (zs.map PyData.str) ((0:Nat):Int)=_
  unfold atI
  rw[uO (by rw[Ac];exact n0),Az,AA,List.getD,Aj n0]
  rfl
 have op:=zX6 ((rz 0).up (show 20<=90 by decide))
 show (zP5 [some (.list (zs.map PyData.str)),none,none,none,none,none,none,none]).bind (fin false)=_
 unfold zP5
 cases eo:opR (zs.getD 0 "") with
 | none =>
  rw[zJ6 eo]
  rw[eo] at op
  have op:wF [.str (zs.getD 0 "")]=.ok .none:=op
  have i0:isND false .none .none=some true:=rfl
  generalize zs.getD 0 "" = z at a0 op
  unfold duD bad3
  simp![a0,op,i0]
  rfl
 | some os =>
  rw[eo] at op
  have op:wF [.str (zs.getD 0 "")]=.ok (tI os):=op
  obtain⟨o1,o6,oq⟩:=fE (aT eo)
  obtain⟨n,en⟩:∃n,os.length=n+1:=⟨os.length-1,by rfl'⟩
  have i0:isND false (tI os) .none=some false:=rfl
  have eo':=eo
  have ll:(zs.map PyData.str).length=zs.length:=Ac ..
  have lo:(os.map PyData.int).length=n+1:=by rw[Ac,en]
  have rn:rng2 [.int 1,.int (zs.length:Int)]=some ((List.range' 1 (zs.length-1)).map fun i:Nat=>PyData.int (i:Int)):=by
   have:=yD2 (a:=1) (b:=zs.length) (by decide) (by rfl')
   rw[show ((1:Nat):Int)=1 from rfl] at this
   rw[this,Dv,List.range'_eq_map_range,List.range'_eq_map_range,Bd,Bd]
   refine AZ some (Ci fun i _ => ?_)
   show PyData.int ((1+(0+i):Nat):Int)=PyData.int ((1+i:Nat):Int)
   rw[Nat.zero_add]
  have oks:=zS3 (n:=n) (Z:=fun j=>zs.getD (j+1) "") fun j=>rz (j+1)
  have m0:mkL []=some (.list []):=rfl
  have dl:=fun r=>zT5 (r:=r) eo
  have dr:=fun ds=>zU3 (ds:=ds) eo
  rw[en] at dl dr
  rcases zI2 hz hl en (show n<=5 by rfl') (zs.length-1) 0 [] none none none none none (by rfl') (by rfl') rfl with ⟨ds,x',y',u',v',e1,e2,e3⟩ | ⟨r,e1 | ⟨ds,e1,e2,rfl⟩,e3⟩
  ·have e3:L3.forM (gN 3) xW ((List.range' 1 (zs.length-1)).map fun i:Nat=>PyData.int (i:Int)) [some (.list (zs.map PyData.str)),some (tI os),some (.list []),none,none,none,none,none]=.ok (.nx [some (.list (zs.map PyData.str)),some (tI os),some (.list ds),x',y',u',v',none]):=e3
   rw[Db] at e1 e2
   rw[dr ds e1]
   obtain⟨ld,hd⟩:=oks _ _ _ e1
   rw[Cm e2] at ld
   by_cases c:zs.length=n+1+1
   ·rw[Ak c]
    have ld:ds.length=n+1:=by rfl'
    have lt:decide (((n+1:Nat):Int)<((n+1:Nat):Int))=false:=Ad (by rfl')
    have pf:∀i,i<n+1->atI ds (i:Int)=some (ds.getD i .none)/\atI (os.map PyData.int) (i:Int)=some (.int ((os.getD i 0).toNat:Int))/\qG [ds.getD i .none,.int (i:Int),.int ((n+1:Nat):Int),.list [],.int ((os.getD i 0).toNat:Int)]=.ok (.bool (isT (n+1) 14 (os.getD i 0).toNat [] [(i:Int)] (ds.getD i .none))):=fun i hi=>by
     have g:ds[i]?=some (ds.getD i .none):=by rw[List.getD,Aj (show i<ds.length by rfl')];rfl
     obtain⟨s,T⟩:=hd _ (Bb g)
     have oq':Opn (n+1) os:=⟨en,fun y hy=>by have:=oq.bd y hy;rfl'⟩
     have b:=oq'.at hi
     refine⟨?_,yX3 oq' hi,xZ3 (p:=i) (show n+1<=7 by rfl') 14 (ds.getD i .none) (os.getD i 0).toNat [] ⟨24,s,T⟩ (by rfl') (by show 0+_<=100;rfl')⟩
     unfold atI
     rw[uO (show i<ds.length by rfl'),Az,g]
    have run:=cM (g:=gN 7) (b:=jM) (fun i:Nat=>PyData.int (i:Int)) (fun i=>i<n+1) (fun i=>isT (n+1) 14 (os.getD i 0).toNat [] [(i:Int)] (ds.getD i .none)=true) (fun _ ρ=>∃x,ρ=[some (.list (zs.map PyData.str)),some (tI os),some (.list ds),x',y',u',v',x]) (fun _ _=>.tuple [.int 0,tI os,.none]) (n+1)
     (by
      rintro pre i ρ _ hi ⟨x,rfl⟩ q
      refine⟨_,[some (.list (zs.map PyData.str)),some (tI os),some (.list ds),x',y',u',v',some (.int (i:Int))],rfl,?_,_,rfl⟩
      obtain⟨a1,a2,pr⟩:=pf i hi
      rw[q] at pr
      unfold jM
      simp![a1,ld,a2,pr])
     (by
      rintro pre i ρ _ hi ⟨x,rfl⟩ q
      refine⟨_,rfl,?_⟩
      rw[BS] at q
      obtain⟨a1,a2,pr⟩:=pf i hi
      rw[q] at pr
      show jM [some (.list (zs.map PyData.str)),some (tI os),some (.list ds),x',y',u',v',some (.int (i:Int))]=_
      unfold jM
      simp![a1,ld,a2,pr]) (List.range (n+1)) [] [some (.list (zs.map PyData.str)),some (tI os),some (.list ds),x',y',u',v',none] (by show 0+_<=n+1;rw[AQ];rfl') (fun i hi=>AD.mp hi) ⟨_,rfl⟩
    have rn2:rng1 [.int ((n+1:Nat):Int)]=some ((List.range (n+1)).map fun i:Nat=>PyData.int (i:Int)):=aA (by rfl')
    rcases run with ⟨ρ',a1,a2,x,rfl⟩ | ⟨a,i,c',ei,_,nq,a3⟩
    ·have gp:gP os ds=true:=by
      unfold gP
      rw[en,ld,Aa rfl,Bv,AS]
      exact a1
     rw[Ak gp]
     unfold duD
     simp![a0,op,i0,ll,rn,e3,ld,lo,lt,rn2,a2]
    ·have gp:¬gP os ds=true:=fun z=>by
      unfold gP at z
      rw[en,ld,Aa rfl,Bv,AS] at z
      exact nq (z i (by rw[ei];simp))
     rw[Ax gp]
     unfold duD
     simp![a0,op,i0,ll,rn,e3,ld,lo,lt,rn2,a3]
   ·rw[Ax c]
    have lt:decide ((ds.length:Int)<((n+1:Nat):Int))=true:=Aa (by rfl')
    have eb:((min zs.length (n+1+1)+1:Nat):Int)=(zs.length:Int)+1:=by rfl'
    show _=Res.ok (PyData.tuple [.int ((min zs.length (n+1+1)+1:Nat):Int),.none,.none])
    rw[eb]
    simp![a0,op,i0,ll,rn,e3,lo,lt]
  ·rw[Db] at e1
   rw[dl r e1]
   have e3:L3.forM (gN 3) xW ((List.range' 1 (zs.length-1)).map fun i:Nat=>PyData.int (i:Int)) [some (.list (zs.map PyData.str)),some (tI os),some (.list []),none,none,none,none,none]=.ok (.rt (bad3 r)):=e3
   show _=Res.ok (bad3 r)
   simp![a0,op,i0,ll,rn,e3]
  ·rw[Db] at e1 e2
   rw[dr ds e1,Ax (by rfl'),show min zs.length (n+1+1)+1=n+3 by rfl']
   have e3:L3.forM (gN 3) xW ((List.range' 1 (zs.length-1)).map fun i:Nat=>PyData.int (i:Int)) [some (.list (zs.map PyData.str)),some (tI os),some (.list []),none,none,none,none,none]=.ok (.rt (bad3 (n+3))):=e3
   show _=Res.ok (bad3 (n+3))
   simp![a0,op,i0,ll,rn,e3]
theorem zW2{z:Str}(h:Rw 20 z):wH [.str z]=match opR z with
  | some os=>.ok (tI os)
  | none=>.ex BT:=by
 have lb:=xB
 have lz:=h.len
 have sp:splD z (.str " ")=some (.list ((Txt.split z " ").map PyData.str)):=by
  unfold splD
  rw[yS,Az,Ak ⟨by decide,by rfl'⟩]
 have wn:=bO (x:=z) (y:=" ") (by decide)
 have wr:∀w∈Txt.split z " ",Rw 20 w:=fun w hw=>h.word hw
 show (qW [some (.str z),none,none]).bind (fin false)=_
 unfold qW
 cases es:Txt.split z " " with
 | nil=>exact absurd es (gI _ _)
 | cons x ws =>
  rw[es] at sp wn wr
  rw[AI] at sp
  have wl:ws.length<=1000:=by
   rw[Aq] at wn
   rfl'
  have a0:atI (PyData.str x::ws.map PyData.str) 0=some (.str x):=zD1 _ _
  have ne:=kH (wr x Ae).ok (show PyData.strOk "openings" = true by decide +kernel)
  by_cases cx:x="openings"
  ·rw[Aa cx] at ne
   have sl:slD (.list (PyData.str x::ws.map PyData.str)) (some 1) none=some (.list (ws.map PyData.str)):=by
    show some (PyData.list (cutD (PyData.str x::ws.map PyData.str) (some ((1:Nat):Int)) none))=_
    rw[zX8]
    rfl
   rcases xW8 (fun w hw=>(wr w (Ai _ hw)).toTx) wl with ⟨al,e⟩ | ⟨na,e⟩
   ·rw[gQ es (P:=gO (rI' (ws.map dv))=true) ⟨fun q=>⟨cx,al,q⟩,fun q=>q.2.2⟩]
    have ao:=bA (rI' (ws.map dv))
    by_cases g:gO (rI' (ws.map dv))=true
    ·rw[Ak g] at ao ⊢
     have tr:sTryR ["BadOpenings"] (NMR 1) (sR (eF yG (aC (eV 2) aN))) [some (.str z),some (.list (PyData.str x::ws.map PyData.str)),some (tI (rI' (ws.map dv)))]=.ok (.rt (tI (rI' (ws.map dv)))):=by
      refine yF5 ?_
      simp![ao]
     simp![yI,yS,sp,a0,ne,sl,e,tr]
    ·rw[Ax g] at ao ⊢
     have tr:sTryR ["BadOpenings"] (NMR 1) (sR (eF yG (aC (eV 2) aN))) [some (.str z),some (.list (PyData.str x::ws.map PyData.str)),some (tI (rI' (ws.map dv)))]=.ex BT:=by
      refine yF2 (c:="BadOpenings") ?_ (by decide)
      simp![ao]
     simp![yI,yS,sp,a0,ne,sl,e,tr]
   ·rw[gQ es (P:=False) ⟨False.elim,fun q=>na q.2.1⟩]
    simp![yI,yS,sp,a0,ne,sl,e]
  ·rw[Ad cx] at ne
   rw[gQ es (P:=False) ⟨False.elim,fun a=>cx a.1⟩]
   have ra:sRaI NMR (aC (eC (.int 1)) aN) [some (.str z),some (.list (PyData.str x::ws.map PyData.str)),none]=.ex BT:=ra1 rfl
   simp![yI,yS,sp,a0,ne,ra]
theorem zR9{z:Str}(h:Rw 20 z){n j:Nat}(hn:n<=5)(hj:j<6):wK [.str z,.int (j:Int),.int ((n+1:Nat):Int)]=match pg (n+1) j z with
  | some d=>.ok d
  | none=>.ex (NMR ((j:Int)+2)):=by
 have lz:=h.len
 have nk:=vK j (by rfl')
 have n2:=nk.1.1
 have f1:fI (.int (j:Int))=some (numT j):=Ak ⟨nk.2.2.2.1,by show (numT j).length<=1000000;rfl'⟩
 have jj:eJ (jC "person " (jS fI (eV 1) (jC " " jN))) [some (.str z),some (.int (j:Int)),some (.int ((n+1:Nat):Int)),some (.int ((j:Int)+2))]=.ok (.str (hdT j)):=by
  unfold eJ jS jC jN
  simp![f1]
  show Res.ok (PyData.str (Str.empty ++ "person "++numT j ++ " "))=_
  rw[Str.empty_append]
  rfl
 show (kT [some (.str z),some (.int (j:Int)),some (.int ((n+1:Nat):Int)),none]).bind (fin false)=_
 unfold kT
 rcases gG (s:=z) (hdT j) (by rfl') (r:=(j:Int)+2) (by rfl') with ⟨s,rfl,e⟩ | ⟨ns,e⟩
 ·have e:yQ [.str (hdT j++s),.str (hdT j),.int ((j:Int)+2)]=.ok (.str s):=e
  have rs:Rw 20 s:=h.sub (by rw[Ag];rfl') (by rw[zJ];exact CL _ _)
  have pgs:pg (n+1) j (hdT j++s)=match ta (n+1) 24 (tl s) with
    | some (d,[])=>some d
    | _=>none:=by
   unfold pg
   have q:(tl (hdT j++s)).take (hdT j).length=tl (hdT j):=by
    rw[zJ,<-yY (hdT j),List.take_left]
   have q2:(tl (hdT j++s)).drop (hdT j).length=tl s:=by
    rw[zJ,<-yY (hdT j),CI]
   rw[Ak q,q2]
   all_goals rfl
  rcases xO3 (p:=n+1) (r:=(j:Int)+2) (by rfl') (by rfl') (by rfl') (rs.toTx.mono (show 1000<=20000 by decide)) with ⟨d,k,T,et⟩ | ⟨nt,et⟩
  ·have tc:=xS6 T 24 [] (CV rs.co (by decide))
   rw[Bu] at tc
   rw[pgs,tc]
   simp![jj,e,et]
  ·have pn:pg (n+1) j (hdT j++s)=none:=by
    cases q:pg (n+1) j (hdT j++s) with
    | none=>rfl
    | some d =>
     obtain⟨s',es,T⟩:=yA7 h q
     have:s'=s:=yB (by
      have:=AZ tl es
      rw[zJ,zJ] at this
      exact (List.append_cancel_left this).symm)
     rw[this] at T
     exact absurd T (nt d 24 (by decide))
   rw[pn]
   simp![jj,e,et]
 ·have pn:pg (n+1) j z=none:=by
   unfold pg
   refine Ax fun q => ?_
   rw[bW.mpr q] at ns
   cases ns
  rw[pn]
  simp![jj,e]
theorem yY8{n:Nat}{Z:Nat->Str}:∀(m j r:Nat),rdI n Z m j=.inl r->j+2<=r/\r<=j+m+1
 | 0,j,r,h=>by
  rw[rdI] at h
  cases h
 | m+1,j,r,h=>by
  rw[rdI] at h
  cases e:pg n j (Z j) with
  | none =>
   rw[e] at h
   cases h
   rfl'
  | some d =>
   rw[e] at h
   simp only at h
   cases e2:rdI n Z m (j+1) with
   | inl r' =>
    rw[e2] at h
    cases h
    have:=yY8 m (j+1) r e2
    rfl'
   | inr ds =>
    rw[e2] at h
    cases h
theorem xO7{zs:List Str}{r:Nat}(h0:zs ≠ [])(e:duR zs=.bad r):1<=r/\r<=8:=by
 have n0:=Bi.mpr h0
 cases eo:opR (zs.getD 0 "") with
 | none =>
  rw[zJ6 eo] at e
  cases e
  decide
 | some os =>
  obtain⟨o1,o6,_⟩:=fE (aT eo)
  cases e1:rdI os.length (fun j=>zs.getD (j+1) "") (min os.length (zs.length-1)) 0 with
  | inl r' =>
   rw[zT5 eo e1] at e
   cases e
   have:=yY8 _ _ _ e1
   rfl'
  | inr ds =>
   rw[zU3 eo e1] at e
   split at e
   ·split at e <;> cases e
   ·cases e
    rfl'
theorem zH7{n:Nat}{Z:Nat->Str}{t:D->Res Bool}{f:D->Res D}(ht:∀i:Nat,t (.tuple [.int (i:Int),.str (Z i)])=.ok true):∀(m j:Nat),(∀i,j<=i->i<j+m->f (.tuple [.int (i:Int),.str (Z i)])=match pg n i (Z i) with
  | some d=>.ok d
  | none=>.ex (NMR ((i:Int)+2)))->compX t f ((List.range' j m).map fun i:Nat=>PyData.tuple [.int (i:Int),.str (Z i)])=match rdI n Z m j with
  | .inl r=>.ex (NMR (r:Int))
  | .inr ds=>.ok ds
 | 0,j,_=>by
  rw[rdI]
  rfl
 | m+1,j,hf=>by
  have h0:=hf j (Al _) (by rfl')
  rw[List.range'_succ,AI,compX,ht,Res.bind_ok,Ak rfl,h0,rdI]
  cases e:pg n j (Z j) with
  | none =>
   show Res.ex (NMR ((j:Int)+2))=Res.ex (NMR ((j+2:Nat):Int))
   rw[show ((j+2:Nat):Int)=(j:Int)+2 by rfl']
  | some d =>
   have ih:=zH7 ht m (j+1) fun i a b=>hf i (by rfl') (by rfl')
   show ((Res.ok d:Res D).bind _)=_
   rw[Res.bind_ok,ih]
   simp only
   cases rdI n Z m (j+1) with
   | inl r=>rfl
   | inr ds=>rfl
theorem jH{α:Type}(f:α->Nat)(a b:Nat):∀l:List α,(∀x∈l,a<=f x/\f x<=b)->l.length*a<=(l.map f).sum/\(l.map f).sum<=l.length*b
 | [],_=>⟨by simp,by simp⟩
 | x::l,h=>by
  have p:=h x Ae
  have q:=jH f a b l fun y hy=>h y (Ai _ hy)
  rw[AI,Cy,Aq,DB,DB]
  rfl'
theorem xI5{α:Type}(xs:List α)(m:Nat)(h:1<=xs.length):cutD xs (some 1) (some ((m:Int)+1))=(xs.drop 1).take m:=by
 show cutD xs (some ((1:Nat):Int)) (some ((m+1:Nat):Int))=_
 unfold cutD
 rw[HT.zZ1,HT.zZ1,Cw h]
 by_cases q:m+1<=xs.length
 ·rw[Cw q]
  rfl
 ·rw[Cm (by rfl'),AV (by rw[As];rfl'),AV (by rw[As];rfl')]
theorem zI8{zs:List Str}(hz:∀z∈zs,Rw 20 z)(h0:zs ≠ [])(hl:zs.length<=9):wY [.str (Str.join "\n" zs)]=match duR zs with
  | .bad r=>.ex (NMR (r:Int))
  | .plan _=>.ex "BadPlan"
  | .ok os ds=>.ok (.tuple [tI os,.tuple ds]):=by
 have bl:=xB
 have n0:=Bi.mpr h0
 have rz:∀j,Rw 20 (zs.getD j ""):=fun j=>by
  by_cases q:j<zs.length
  ·have g:zs[j]?=some (zs.getD j ""):=by rw[List.getD,Aj q];rfl
   exact hz _ (Bb g)
  ·have g:zs.getD j "" = "":=by rw[List.getD,By (by rfl')];rfl
   rw[g]
   exact⟨⟨by decide,by decide +kernel⟩,by decide +kernel,by decide +kernel,by decide +kernel⟩
 have lj:(Str.join "\n" zs).length<=20000:=by
  have a:=cK "\n" zs h0
  have c1:("\n":Str).length=1:=rfl
  rw[c1] at a
  have b:=jH (α:=Str) (·.length) 0 1000 zs fun z hz'=>⟨AM _,(hz z hz').len⟩
  have:=BB 1000 hl
  rfl'
 have sp:splD (Str.join "\n" zs) (.str "\n")=some (.list (zs.map PyData.str)):=by
  unfold splD
  rw[yS,Az,Ak ⟨by decide,by rfl'⟩]
  have:Txt.split (Str.join "\n" zs) "\n" = zs:=zT7 (c:=10) (y':=[]) rfl (by decide +kernel) h0 fun p hp=>(hz p hp).nl
  rw[this]
 have a0:atI (zs.map PyData.str) 0=some (.str (zs.getD 0 "")):=by
  show atI (zs.map PyData.str) ((0:Nat):Int)=_
  unfold atI
  rw[uO (by rw[Ac];exact n0),Az,AA,List.getD,Aj n0]
  rfl
 have op:=zW2 (rz 0)
 show (fN [some (.str (Str.join "\n" zs)),none,none,none,none]).bind (fin false)=_
 unfold fN
 generalize Str.join "\n" zs=X at sp
 cases eo:opR (zs.getD 0 "") with
 | none =>
  rw[zJ6 eo]
  rw[eo] at op
  have op:wH [.str (zs.getD 0 "")]=.ex BT:=op
  show _=Res.ex BT
  simp![yI,yS,sp,a0,op]
 | some os =>
  rw[eo] at op
  have op:wH [.str (zs.getD 0 "")]=.ok (tI os):=op
  obtain⟨o1,o6,oq⟩:=fE (aT eo)
  obtain⟨n,en⟩:∃n,os.length=n+1:=⟨os.length-1,by rfl'⟩
  have lo:(os.map PyData.int).length=n+1:=by rw[Ac,en]
  have ll:(zs.map PyData.str).length=zs.length:=Ac ..
  have sl:slD (.list (zs.map PyData.str)) (some 1) (some (((n+1:Nat):Int)+1))=some (.list (((zs.drop 1).take (n+1)).map PyData.str)):=by
   show some (PyData.list (cutD (zs.map PyData.str) (some 1) (some (((n+1:Nat):Int)+1))))=_
   rw[cR,xI5 _ _ n0]
  have lt:((zs.drop 1).take (n+1)).length=min (n+1) (zs.length-1):=by rw[Bn,As]
  have en':enumD (((zs.drop 1).take (n+1)).map PyData.str)=(List.range' 0 (min (n+1) (zs.length-1))).map fun i:Nat=>PyData.tuple [.int (i:Int),.str (zs.getD (i+1) "")]:=by
   unfold enumD
   rw[Ac,lt,<-Dv]
   refine Ci fun i hi => ?_
   have hi:=AD.mp hi
   rw[List.getD,AA,CP (by rfl'),CW,List.getD,Nat.add_comm 1 i,Aj (show i+1<zs.length by rfl')]
   rfl
  have cc:eComp2X (wV (eS slD (eV 1) (oS (eC (.int 1))) (oS (e2 addI (eV 3) (eC (.int 1)))))) tYes (eF wK (aC (eV 1) (aC (eV 0) (aC (eV 2) aN)))) [3] [some (.str X),some (.list (zs.map PyData.str)),some (tI os),some (.int ((n+1:Nat):Int)),none]=match rdI (n+1) (fun j=>zs.getD (j+1) "") (min (n+1) (zs.length-1)) 0 with
    | .inl r=>.ex (NMR (r:Int))
    | .inr ds=>.ok (.list ds):=by
   have mi:wV (eS slD (eV 1) (oS (eC (.int 1))) (oS (e2 addI (eV 3) (eC (.int 1))))) [some (.str X),some (.list (zs.map PyData.str)),some (tI os),some (.int ((n+1:Nat):Int)),none]=.ok ((List.range' 0 (min (n+1) (zs.length-1))).map fun i:Nat=>PyData.tuple [.int (i:Int),.str (zs.getD (i+1) "")]):=by
    simp![sl,en']
   unfold eComp2X
   rw[mi,Res.bind_ok,kJ (by rw[Ac,List.length_range'];rfl')]
   have cr:=zH7 (n:=n+1) (Z:=fun j=>zs.getD (j+1) "") (t:=fun d=>pr2 d fun x y=>tYes (cEnv2 [some (.str X),some (.list (zs.map PyData.str)),some (tI os),some (.int ((n+1:Nat):Int)),none] [3] x y)) (f:=fun d=>pr2 d fun x y=>eF wK (aC (eV 1) (aC (eV 0) (aC (eV 2) aN))) (cEnv2 [some (.str X),some (.list (zs.map PyData.str)),some (tI os),some (.int ((n+1:Nat):Int)),none] [3] x y)) (fun _=>rfl) (min (n+1) (zs.length-1)) 0 (fun i _ hi=>by
    show eF wK (aC (eV 1) (aC (eV 0) (aC (eV 2) aN))) [some (.int (i:Int)),some (.str (zs.getD (i+1) "")),some (.int ((n+1:Nat):Int))]=_
    have e:=zR9 (rz (i+1)) (n:=n) (j:=i) (by rfl') (by rfl')
    generalize zs.getD (i+1) "" = z at e
    simp -implicitDefEqProofs only[(evA)]
    exact e)
   rw[cr]
   cases rdI (n+1) (fun j=>zs.getD (j+1) "") (min (n+1) (zs.length-1)) 0 with
   | inl r=>rfl
   | inr ds=>rfl
  have dl:=fun r=>zT5 (r:=r) eo
  have dr:=fun ds=>zU3 (ds:=ds) eo
  rw[en] at dl dr
  have oks:=zS3 (n:=n) (Z:=fun j=>zs.getD (j+1) "") fun j=>rz (j+1)
  generalize zs.getD 0 "" = z at a0 op
  cases e1:rdI (n+1) (fun j=>zs.getD (j+1) "") (min (n+1) (zs.length-1)) 0 with
  | inl r =>
   rw[dl r e1]
   rw[e1] at cc
   show _=Res.ex (NMR (r:Int))
   simp![yI,yS,sp,a0,op,lo,cc]
  | inr ds =>
   rw[dr ds e1]
   rw[e1] at cc
   obtain⟨ld,hd⟩:=oks _ _ _ e1
   by_cases c:zs.length=n+1+1
   ·rw[Ak c]
    have nq:neD (.int (zs.length:Int)) (.int (((n+1:Nat):Int)+1))=some false:=by
     rw[xJ,Aa (by rfl')]
     rfl
    have mp:=yC6 (os:=os) (ts:=ds) (d:=.list ds) (.inl rfl) fun _ t ht=>by
     obtain⟨s,T⟩:=hd t ht
     exact xK1 (by rfl') T
    rw[Ak (aT eo)] at mp
    by_cases gp:gP os ds=true
    ·rw[Ak gp] at mp ⊢
     show _=Res.ok (PyData.tuple [tI os,.tuple ds])
     simp![yI,yS,sp,a0,op,lo,cc,ll,nq,mp]
    ·rw[Ax gp] at mp ⊢
     show _=Res.ex "BadPlan"
     simp![yI,yS,sp,a0,op,lo,cc,ll,nq,mp]
   ·rw[Ax c]
    have nq:neD (.int (zs.length:Int)) (.int (((n+1:Nat):Int)+1))=some true:=by
     rw[xJ,Ad (by rfl')]
     rfl
    have mn:min2D [.int (zs.length:Int),.int (((n+1:Nat):Int)+1)]=some (.int ((min zs.length (n+1+1):Nat):Int)):=by
     show some (PyData.int (if ((n+1:Nat):Int)+1<(zs.length:Int) then ((n+1:Nat):Int)+1 else (zs.length:Int)))=_
     congr 2
     split <;> rfl'
    have ra:sRaI NMR (aC (e2 addI (eB min2D (aC (eB lenD (aC (eV 1) aN)) (aC (e2 addI (eV 3) (eC (.int 1))) aN))) (eC (.int 1))) aN) [some (.str X),some (.list (zs.map PyData.str)),some (tI os),some (.int ((n+1:Nat):Int)),some (.list ds)]=.ex (NMR ((min zs.length (n+1+1)+1:Nat):Int)):=raR (by rfl') (by
     rw[show ((min zs.length (n+1+1)+1:Nat):Int)=((min zs.length (n+1+1):Nat):Int)+1 by rfl']
     simp![ll,mn])
    show _=Res.ex (NMR ((min zs.length (n+1+1)+1:Nat):Int))
    simp![yI,yS,sp,a0,op,lo,cc,ll,nq,ra]
theorem yQ1(i:Int):aV [.int i]=.ok (.bool true):=by
 show (aW [some (.int i)]).bind (fin false)=_
 unfold aW
 simp -implicitDefEqProofs only[(evA)]
theorem jOk{sep:Str}{ts:List Str}(hs:sep.length<=2)(h:∀t∈ts,t.length<=1000)(hl:ts.length<=1000):joinD sep (.list (ts.map PyData.str))=some (.str (Str.join sep ts)):=by
 refine zW3 ?_
 unfold JoinOk
 have h1:=BB 1000 hl
 have h2:=Dz ts.length hs
 rw[StrLaws.joinFits h (by rfl')]
 rfl
theorem xV4:∀r:Nat,r<9->1<=r->CLS.contains (NMR (r:Int))=true/\ROWN.contains (NMR (r:Int))=true/\(["BadBox","BadOpenings","BadOrder","NoPerson"]:List Str).contains (NMR (r:Int))=false/\(["BadPlan"]:List Str).contains (NMR (r:Int))=false:=by decide +kernel
theorem xI3{zs:List Str}(hz:∀z∈zs,Rw 20 z){os:List Int}{ds:List D}(e:duR zs=.ok os ds):∀d∈ds,∃n s,TW (n+1) 24 d s:=by
 have rz:∀j,Rw 20 (zs.getD j ""):=fun j=>by
  by_cases q:j<zs.length
  ·have g:zs[j]?=some (zs.getD j ""):=by rw[List.getD,Aj q];rfl
   exact hz _ (Bb g)
  ·have g:zs.getD j "" = "":=by rw[List.getD,By (by rfl')];rfl
   rw[g]
   exact⟨⟨by decide,by decide +kernel⟩,by decide +kernel,by decide +kernel,by decide +kernel⟩
 cases eo:opR (zs.getD 0 "") with
 | none =>
  rw[zJ6 eo] at e
  cases e
 | some os' =>
  obtain⟨o1,o6,_⟩:=fE (aT eo)
  obtain⟨n,en⟩:∃n,os'.length=n+1:=⟨os'.length-1,by rfl'⟩
  cases e1:rdI os'.length (fun j=>zs.getD (j+1) "") (min os'.length (zs.length-1)) 0 with
  | inl r' =>
   rw[zT5 eo e1] at e
   cases e
  | inr ds' =>
   rw[zU3 eo e1] at e
   rw[en] at e1
   have oks:=zS3 (n:=n) (Z:=fun j=>zs.getD (j+1) "") (fun j=>rz (j+1)) _ _ _ e1
   split at e
   ·split at e
    ·cases e
     exact fun d hd=>⟨n,oks.2 d hd⟩
    ·cases e
   ·cases e
theorem yD7{os:List Int}{ds:List D}(h:∀d∈ds,∃n s,TW (n+1) 24 d s):eqD (.tuple [tI os,.tuple ds]) (.tuple [tI os,.tuple ds])=some true:=by
 obtain⟨h1,h2,_⟩:=zZ2 id 48 ds fun d hd=>by
  obtain⟨n,s,T⟩:=h d hd
  exact zX7 T
 rw[List.map_id] at h1 h2
 obtain⟨g1,g2,_⟩:=zZ2 PyData.int 48 os fun i _=>⟨rfl,AM _,rfl⟩
 have st:SeqAt.shaped (.tuple [tI os,.tuple ds])=true:=by
  unfold SeqAt.shaped tI
  have dd:PyData.depth (.tuple [.tuple (os.map PyData.int),.tuple ds])<=64:=by
   rw[PyData.depth,PyData.depthAll,PyData.depthAll,PyData.depth,PyData.depth,PyData.depthAll]
   have:max (PyData.depthAll (os.map PyData.int)+1) (max (PyData.depthAll ds+1) 0)<=49:=Nat.max_le.mpr ⟨by rfl',Nat.max_le.mpr ⟨by rfl',AM _⟩⟩
   rfl'
  rw[Aa dd,PyData.canLay0,PyData.canLayAll0,PyData.canLay0,PyData.canLayAll0,PyData.canLay0,h1,g1]
  rfl
 unfold eqD
 rw[Ak ⟨st,st⟩,SeqAt.eqv_refl _ (SeqAt.canLay_of_shaped st)]
theorem yT5{zs:List Str}(hz:∀z∈zs,Rw 20 z)(h0:zs ≠ [])(hl:zs.length<=9):wG [.list (zs.map PyData.str)]=.ok (.bool true):=by
 have jd:=jOk (sep:="\n") (by decide) (fun z h=>(hz z h).len) (show zs.length<=1000 by rfl')
 have rp:=zI8 hz h0 hl
 have du:=yG4 hz h0 hl
 have i0:isND false .none .none=some true:=rfl
 have i1:isND true .none .none=some false:=rfl
 have ma:aC (eM1S joinD (eC (.str "\n")) (eV 0)) aN [some (.list (zs.map PyData.str)),some .none,some .none,none,none,none,none]=.ok [.str (Str.join "\n" zs)]:=by simp![yI,yS,jd]
 show (bZ [some (.list (zs.map PyData.str)),none,none,none,none,none,none]).bind (fin false)=_
 unfold bZ
 cases e:duR zs with
 | ok os ds =>
  rw[e] at rp du
  have rp:wY [.str (Str.join "\n" zs)]=.ok (.tuple [tI os,.tuple ds]):=rp
  have du:kL [.list (zs.map PyData.str)]=.ok (.tuple [.int 0,tI os,.tuple ds]):=du
  have tr:sTryA 3 2 CLS wY (aC (eM1S joinD (eC (.str "\n")) (eV 0)) aN) (sS 1 (eV 3)) [some (.list (zs.map PyData.str)),some .none,some .none,none,none,none,none]=.ok (.nx [some (.list (zs.map PyData.str)),some .none,some (.tuple [tI os,.tuple ds]),none,none,none,none]):=yB9 ma rp
  have g3:gT 3 (gsC (gN 4) (gsC (gN 5) (gsC (gN 6) gsN))) (.tuple [.int 0,tI os,.tuple ds]) [some (.list (zs.map PyData.str)),some .none,some (.tuple [tI os,.tuple ds]),none,none,none,none]=some [some (.list (zs.map PyData.str)),some .none,some (.tuple [tI os,.tuple ds]),none,some (.int 0),some (tI os),some (.tuple ds)]:=rfl
  have i2:isND true (.tuple ds) .none=some true:=rfl
  have q:=yD7 (os:=os) (xI3 hz e)
  simp![tr,du,g3,yN,decide_true,i2,i0,q]
 | plan os =>
  rw[e] at rp du
  have rp:wY [.str (Str.join "\n" zs)]=.ex "BadPlan":=rp
  have du:kL [.list (zs.map PyData.str)]=.ok (.tuple [.int 0,tI os,.none]):=du
  have tr:sTryA 3 2 CLS wY (aC (eM1S joinD (eC (.str "\n")) (eV 0)) aN) (sS 1 (eV 3)) [some (.list (zs.map PyData.str)),some .none,some .none,none,none,none,none]=.ok (.nx [some (.list (zs.map PyData.str)),some (excD "BadPlan"),some .none,none,none,none,none]):=by
   rw[zI3 (c:="BadPlan") ma rp (by decide +kernel)]
   rfl
  have g3:gT 3 (gsC (gN 4) (gsC (gN 5) (gsC (gN 6) gsN))) (.tuple [.int 0,tI os,.none]) [some (.list (zs.map PyData.str)),some (excD "BadPlan"),some .none,none,none,none,none]=some [some (.list (zs.map PyData.str)),some (excD "BadPlan"),some .none,none,some (.int 0),some (tI os),some .none]:=rfl
  have x1:isiX CLS CLS (excD "BadPlan")=some (.bool true):=by rw[jQ,Ak (by decide +kernel)];rfl
  have x2:isiX CLS ["BadBox","BadOpenings","BadOrder","NoPerson"] (excD "BadPlan")=some (.bool false):=by rw[jQ,Ak (by decide +kernel)];rfl
  have x3:isiX CLS ["BadPlan"] (excD "BadPlan")=some (.bool true):=by rw[jQ,Ak (by decide +kernel)];rfl
  have x4:isiX CLS ROWN (excD "BadPlan")=some (.bool false):=by rw[jQ,Ak (by decide +kernel)];rfl
  simp![tr,du,g3,yN,decide_true,i1,x1,x2,x3,x4]
 | bad r =>
  obtain⟨r1,r8⟩:=xO7 h0 e
  obtain⟨c1,c2,c3,c4⟩:=xV4 r (by rfl') r1
  rw[e] at rp du
  have rp:wY [.str (Str.join "\n" zs)]=.ex (NMR (r:Int)):=rp
  have du:kL [.list (zs.map PyData.str)]=.ok (.tuple [.int (r:Int),.none,.none]):=du
  have x5:rowD (excD (NMR (r:Int)))=some (.int (r:Int)):=by
   rw[yH1,show rowOf (NMR (r:Int))=some r from cX r (by rfl')]
   rfl
  generalize NMR (r:Int)=c at c1 c2 c3 c4 rp x5
  have tr:sTryA 3 2 CLS wY (aC (eM1S joinD (eC (.str "\n")) (eV 0)) aN) (sS 1 (eV 3)) [some (.list (zs.map PyData.str)),some .none,some .none,none,none,none,none]=.ok (.nx [some (.list (zs.map PyData.str)),some (excD c),some .none,none,none,none,none]):=by
   rw[zI3 (c:=c) ma rp c1]
   rfl
  have g3:gT 3 (gsC (gN 4) (gsC (gN 5) (gsC (gN 6) gsN))) (.tuple [.int (r:Int),.none,.none]) [some (.list (zs.map PyData.str)),some (excD c),some .none,none,none,none,none]=some [some (.list (zs.map PyData.str)),some (excD c),some .none,none,some (.int (r:Int)),some .none,some .none]:=rfl
  have x1:isiX CLS CLS (excD c)=some (.bool true):=by rw[jQ,Ak c1,c1]
  have x2:isiX CLS ["BadBox","BadOpenings","BadOrder","NoPerson"] (excD c)=some (.bool false):=by rw[jQ,Ak c1,c3]
  have x3:isiX CLS ["BadPlan"] (excD c)=some (.bool false):=by rw[jQ,Ak c1,c4]
  have x4:isiX CLS ROWN (excD c)=some (.bool true):=by rw[jQ,Ak c1,c2]
  have d0:decide ((r:Int)=0)=false:=Ad (by rfl')
  simp![tr,du,g3,yN,d0,decide_true,x1,x2,x3,x4,x5,yQ1]
def sm0:Str:="|openings|openings 2|openings 1 1|openings 0 0 0|openings 7 1 1 1 1 1 1|openings 1 1 1 1 1 1"
def sm1:Str:="|openings 1  1|openings 01|openings -1|openings +1|Openings 1|openings 1 "
def sm2:Str:="|person 0 -|person 1 -|person 0|person  0 -|person 0 --|person 0 - "
def sm3:Str:="|person 0 0(-|person 0 0(-))|person 0 0 (-)|person 0 (-)|person 0 00(-)"
def sm4:Str:="|person 0 0()|person 0 0(- -)|person 0 0(- - -)|person 0 0(-  -)"
def sm5:Str:="|person 00 -|person -1 -|person 0 x|Person 0 -|person 0 0[-]"
def sm6:Str:="|person 0 1(- 0(- -))|person 0 0(0(-))|person 0 9(-)|#| "
def sm7:Str:="|person 0 0(1(- -) -)"
def g0:List Str:=["","openings","openings 2","openings 1 1","openings 0 0 0","openings 7 1 1 1 1 1 1","openings 1 1 1 1 1 1"]
def g1:List Str:=["openings 1  1","openings 01","openings -1","openings +1","Openings 1","openings 1 "]
def g2:List Str:=["person 0 -","person 1 -","person 0","person  0 -","person 0 --","person 0 - "]
def g3:List Str:=["person 0 0(-","person 0 0(-))","person 0 0 (-)","person 0 (-)","person 0 00(-)"]
def g4:List Str:=["person 0 0()","person 0 0(- -)","person 0 0(- - -)","person 0 0(-  -)"]
def g5:List Str:=["person 00 -","person -1 -","person 0 x","Person 0 -","person 0 0[-]"]
def g6:List Str:=["person 0 1(- 0(- -))","person 0 0(0(-))","person 0 9(-)","#"," "]
def g7:List Str:=["person 0 0(1(- -) -)"]
def odds:List Str:=(((((((g0++g1)++g2)++g3)++g4)++g5)++g6)++g7)
theorem vB{y:Str}:∀(A B:List Str),A ≠ []->B ≠ []->Str.join y (A++B)=Str.join y A++(y++Str.join y B)
 | [],_,h,_=>absurd rfl h
 | [a],B,_,h=>by
  show Str.join y (a::B)=a++_
  rw[wJ _ _ h]
 | a::b::A,B,_,h=>by
  show Str.join y (a::(b::A++B))=_
  rw[wJ _ _ (by simp),wJ _ _ (by simp),vB (b::A) B (by simp) h]
  simp only[xH]
theorem xH8:sm0=Str.join "|" g0:=yB (by decide +kernel)
theorem xG5:sm1="|"++Str.join "|" g1:=yB (by decide +kernel)
theorem xG1:sm2="|"++Str.join "|" g2:=yB (by decide +kernel)
theorem xG7:sm3="|"++Str.join "|" g3:=yB (by decide +kernel)
theorem xH9:sm4="|"++Str.join "|" g4:=yB (by decide +kernel)
theorem xG6:sm5="|"++Str.join "|" g5:=yB (by decide +kernel)
theorem xG2:sm6="|"++Str.join "|" g6:=yB (by decide +kernel)
theorem xG3:sm7="|"++Str.join "|" g7:=yB (by decide +kernel)
theorem zL9:(((((((sm0++sm1)++sm2)++sm3)++sm4)++sm5)++sm6)++sm7)=Str.join "|" odds:=by
 unfold odds
 rw[vB _ g7 (by decide) (by decide),vB _ g6 (by decide) (by decide),vB _ g5 (by decide) (by decide),vB _ g4 (by decide) (by decide),vB _ g3 (by decide) (by decide),vB _ g2 (by decide) (by decide),vB _ g1 (by decide) (by decide),xH8,xG5,xG1,xG7,xH9,xG6,xG2,xG3]
structure Rx(B C:Nat)(z:Str):Prop extends Rw C z where
 ln:z.length<=B
def rxB(z:Str):Bool:=decide (z.length<=100)&&(((tl z).all fun c=>decide (c<128)&&decide (c≠10))&&(decide ((tl z).count 40<=18)&&decide ((tl z).countP dig<=18)))
theorem yM6{z:Str}(h:rxB z=true):Rx 100 18 z:=by
 unfold rxB at h
 rw[Ay,Ay,Ay,decide_eq_true_iff,decide_eq_true_iff,decide_eq_true_iff,AS] at h
 obtain⟨h1,h2,h3,h4⟩:=h
 have q:∀c∈tl z,c<128/\c≠10:=fun c hc=>by
  have:=h2 c hc
  rw[Ay,decide_eq_true_iff,decide_eq_true_iff] at this
  exact this
 exact⟨⟨⟨by rfl',fun c hc=>(q c hc).1⟩,fun z=>(q 10 z).2 rfl,h3,h4⟩,h1⟩
theorem xW3:∀z∈odds,rxB z=true:=by decide +kernel
theorem yC7:∀z∈odds,124∉tl z:=by decide +kernel
theorem cS{a b:Str}(h:a.length+b.length<=2000):catS (.str a) (.str b)=some (.str (a++b)):=by
 have lb:=xB
 exact Ak (by rfl')
theorem xG4:sm0.length<=150/\sm1.length<=150/\sm2.length<=150/\sm3.length<=150/\sm4.length<=150/\sm5.length<=150/\sm6.length<=150/\sm7.length<=150:=by decide +kernel
theorem yB8(c:Int):∃z∈odds,kK [.int c]=.ok (.str z):=by
 have lb:=xB
 obtain⟨l0,l1,l2,l3,l4,l5,l6,l7⟩:=xG4
 have c1:=cS (a:=sm0) (b:=sm1) (by rfl')
 have c2:=cS (a:=(sm0++sm1)) (b:=sm2) (by simp only[Ag];rfl')
 have c3:=cS (a:=((sm0++sm1)++sm2)) (b:=sm3) (by simp only[Ag];rfl')
 have c4:=cS (a:=(((sm0++sm1)++sm2)++sm3)) (b:=sm4) (by simp only[Ag];rfl')
 have c5:=cS (a:=((((sm0++sm1)++sm2)++sm3)++sm4)) (b:=sm5) (by simp only[Ag];rfl')
 have c6:=cS (a:=(((((sm0++sm1)++sm2)++sm3)++sm4)++sm5)) (b:=sm6) (by simp only[Ag];rfl')
 have c7:=cS (a:=((((((sm0++sm1)++sm2)++sm3)++sm4)++sm5)++sm6)) (b:=sm7) (by simp only[Ag];rfl')
 have sp:splD (Str.join "|" odds) (.str "|")=some (.list (odds.map PyData.str)):=by
  unfold splD
  rw[yS,Az,Ak ⟨by decide,by rw[<-zL9];simp only[Ag];rfl'⟩]
  have sj:Txt.split (Str.join "|" odds) "|" = odds:=zT7 (c:=124) (y':=[]) rfl (by decide +kernel) (by decide) yC7
  rw[sj]
 have lo:(odds.map PyData.str).length=39:=rfl
 obtain⟨j,hj,ej⟩:∃j:Nat,j<39/\c%39=(j:Int):=⟨(c%39).toNat,by rfl',by rfl'⟩
 have mo:modO c 39=some (j:Int):=by
  unfold modO
  rw[Ak (by decide),ej]
 have g:odds[j]?=some (odds.getD j ""):=by
  rw[List.getD,Aj (show j<odds.length from hj)]
  rfl
 have ix:atI (odds.map PyData.str) (j:Int)=some (.str (odds.getD j "")):=by
  unfold atI
  rw[uO (show j<(odds.map PyData.str).length from hj),Az,AA,g]
  rfl
 refine⟨_,Bb g,?_⟩
 generalize odds.getD j "" = z at ix
 have i39:((39:Nat):Int)=39:=rfl
 rw[zL9] at c7
 show (zO6 [some (.int c),none,none]).bind (fin false)=_
 have ub:zO6=(sQ (sS 1 (eC (.str sm0))) (sQ (sS 1 (e2 catS (eV 1) (eC (.str sm1)))) (sQ (sS 1 (e2 catS (eV 1) (eC (.str sm2)))) (sQ (sS 1 (e2 catS (eV 1) (eC (.str sm3)))) (sQ (sS 1 (e2 catS (eV 1) (eC (.str sm4)))) (sQ (sS 1 (e2 catS (eV 1) (eC (.str sm5)))) (sQ (sS 1 (e2 catS (eV 1) (eC (.str sm6)))) (sQ (sS 1 (e2 catS (eV 1) (eC (.str sm7)))) (sQ (sS 2 (eM1S splD (eV 1) (eC (.str "|")))) (sR (e2 ixD (eV 2) (e2 modI (eV 0) (eB lenD (aC (eV 2) aN)))))))))))))):=rfl
 rw[ub]
 simp![yI,yS,c1,c2,c3,c4,c5,c6,c7,sp,lo,i39,mo,ix]
theorem modN(a b:Nat)(h:0<b):modO (a:Int) (b:Int)=some ((a%b:Nat):Int):=by
 unfold modO
 rw[Ak (by rfl')]
 rfl
theorem divN(a b:Nat)(h:0<b)(h2:b<1073741824):fdivO (a:Int) (b:Int)=some ((a / b:Nat):Int):=by
 unfold fdivO
 rw[Ak (DivOk.small (by rfl') (by rfl'))]
 rfl
theorem Rx.up{B C B' C':Nat}{z:Str}(h:Rx B C z)(h1:B<=B')(h2:C<=C'):Rx B' C' z:=⟨h.toRw.up h2,AJ h.ln h1⟩
theorem yV8{l:List Nat}{p q:Nat}(h:p<=q):(l.take p++l.drop q).Sublist l:=by
 have a:(l.drop q).Sublist (l.drop p):=by
  rw[show q=p+(q-p) by rfl',<-BV]
  exact BG _ _
 have b:=(List.Sublist.refl (l.take p)).append a
 rw[Dj] at b
 exact b
theorem yM5{B C:Nat}{z y:Str}{c p q:Nat}(h:Rx B C z)(hB:B+1<=1000)(hc:c<128)(hc':c≠10)(hpq:p<=q)(e:tl y=(tl z).take p++([c]++(tl z).drop q)):Rx (B+1) (C+1) y:=by
 have s:=yV8 (l:=tl z) hpq
 have mem:∀x∈tl y,x=c\/x∈tl z:=fun x hx=>by
  rw[e] at hx
  rcases AB.mp hx with hx | hx
  ·exact .inr (Dt hx)
  ·rcases AB.mp hx with hx | hx
   ·exact .inl (BH.mp hx)
   ·exact .inr (Ce hx)
 have ly:y.length<=B+1:=by
  have l:=s.length_le
  have lz:=h.ln
  rw[Af,yY] at l
  rw[<-yY,e,Af,Af]
  have:[c].length=1:=rfl
  rfl'
 have ct:∀P:Nat->Bool,(tl y).countP P<=(tl z).countP P+1:=fun P=>by
  have l:=s.countP_le (p:=P)
  rw[Cu] at l
  rw[e,Cu,Cu]
  have:[c].countP P<=1:=List.countP_le_length
  rfl'
 refine⟨⟨⟨by rfl',fun x hx => ?_⟩,fun x => ?_,?_,?_⟩,ly⟩
 ·rcases mem x hx with rfl | hx
  ·exact hc
  ·exact h.asc x hx
 ·rcases mem 10 x with e | e
  ·exact hc' e.symm
  ·exact h.nl e
 ·have:=ct (· == 40)
  have:=h.co
  unfold List.count at *
  rfl'
 ·have:=ct dig
  have:=h.cd
  rfl'
theorem xP8{B C:Nat}{z y:Str}{p q:Nat}(h:Rx B C z)(hpq:p<=q)(e:tl y=(tl z).take p++(tl z).drop q):Rx B C y:=by
 have s:=yV8 (l:=tl z) hpq
 rw[<-e] at s
 have l:=s.length_le
 rw[yY,yY] at l
 exact⟨h.toRw.sub l s,AJ l h.ln⟩
theorem slT(zs:List Str)(a:Nat):slL (.list (zs.map PyData.str)) none (some (a:Int))=some (.list ((zs.take a).map PyData.str)):=by
 show some (PyData.list (cutD (zs.map PyData.str) none (some (a:Int))))=_
 rw[cR,yJ7]
theorem slF(zs:List Str)(a:Nat):slL (.list (zs.map PyData.str)) (some (a:Int)) none=some (.list ((zs.drop a).map PyData.str)):=by
 show some (PyData.list (cutD (zs.map PyData.str) (some (a:Int)) none))=_
 rw[cR,zX8]
theorem ctL{a b:List Str}(h:a.length+b.length<=1000):catL (.list (a.map PyData.str)) (.list (b.map PyData.str))=some (.list ((a++b).map PyData.str)):=by
 have lb:=xB
 show (if _ then _ else _)=_
 rw[Ak (by rw[Ac,Ac];rfl'),Bh]
theorem ct1{a:List Str}{y:Str}(h:a.length<=900):catL (.list (a.map PyData.str)) (.list [.str y])=some (.list ((a ++ [y]).map PyData.str)):=ctL (b:=[y]) (by have:[y].length=1:=rfl;rfl')
def chT:Ev->Res Out:=(sQ (sIf (tAn (b2 eqD (eV 2) (eC (.int 0))) (b2 gtI (eB lenD (aC (eV 0) aN)) (eC (.int 1)))) (sR (e2 catL (eS slL (eV 0) oN (oS (eV 3))) (eS slL (eV 0) (oS (e2 addI (eV 3) (eC (.int 1)))) oN))) sN) (sQ (sIf (b2 eqD (eV 2) (eC (.int 1))) (sR (e2 catL (e2 catL (eS slL (eV 0) oN (oS (eV 3))) (eB mkL (aC (eV 4) aN))) (eS slL (eV 0) (oS (eV 3)) oN))) sN) (sQ (sIf (b2 eqD (eV 2) (eC (.int 2))) (sR (e2 catL (e2 catL (eS slL (eV 0) oN (oS (eV 3))) (eB mkL (aC (eF kK (aC (e2 fdivI (eV 1) (eC (.int 64))) aN)) aN))) (eS slL (eV 0) (oS (e2 addI (eV 3) (eC (.int 1)))) oN))) sN) (sQ (sIf (b2 eqD (eV 2) (eC (.int 3))) (sR (e2 catL (e2 catL (eS slL (eV 0) oN (oS (e2 addI (eV 3) (eC (.int 1))))) (eB mkL (aC (eF kK (aC (e2 fdivI (eV 1) (eC (.int 64))) aN)) aN))) (eS slL (eV 0) (oS (e2 addI (eV 3) (eC (.int 1)))) oN))) sN) (sQ (sIf (b2 eqD (eV 2) (eC (.int 4))) (sR (e2 catL (eS slL (eV 0) (oS (eV 3)) oN) (eS slL (eV 0) oN (oS (eV 3))))) sN) (sQ (sS 7 (eS slS (eV 4) oN (oS (eV 5)))) (sQ (sS 8 (eB mkL (aC (e2 catS (e2 catS (eV 7) (eV 6)) (eS slS (eV 4) (oS (eV 5)) oN)) (aC (e2 catS (eV 7) (eS slS (eV 4) (oS (e2 addI (eV 5) (eC (.int 1)))) oN)) (aC (e2 catS (e2 catS (eV 7) (eV 6)) (eS slS (eV 4) (oS (e2 addI (eV 5) (eC (.int 1)))) oN)) aN))))) (sR (e2 catL (e2 catL (eS slL (eV 0) oN (oS (eV 3))) (eB mkL (aC (e2 ixD (eV 8) (e2 modI (eV 2) (eC (.int 3)))) aN))) (eS slL (eV 0) (oS (e2 addI (eV 3) (eC (.int 1)))) oN))))))))))
def RL(B C m:Nat)(zs:List Str):Prop:=zs ≠ []/\zs.length<=m/\∀z∈zs,Rx B C z
theorem aL{B C m:Nat}{zs:List Str}(h:RL B C m zs)(hm:m<=8)(hB:B+1<=1000)(hB':100<=B)(hC:18<=C)(c:Nat):∃ys,RL (B+1) (C+1) (m+1) ys/\uI [.list (zs.map PyData.str),.int (c:Int)]=.ok (.list (ys.map PyData.str)):=by
 obtain⟨h0,hl,hz⟩:=h
 have lb:=xB
 have n0:=Bi.mpr h0
 have ll:(zs.map PyData.str).length=zs.length:=Ac ..
 have hu:∀z∈zs,Rx (B+1) (C+1) z:=fun z q=>(hz z q).up (by rfl') (by rfl')
 have ut:∀a,∀z∈zs.take a,Rx (B+1) (C+1) z:=fun a z q=>hu z (Dt q)
 have uf:∀a,∀z∈zs.drop a,Rx (B+1) (C+1) z:=fun a z q=>hu z (Ce q)
 obtain⟨a,ha⟩:∃a,c / 8%zs.length=a:=⟨_,rfl⟩
 have la:a<zs.length:=by rw[<-ha];exact Dn _ n0
 have g:zs[a]?=some (zs.getD a ""):=by rw[List.getD,Aj la];rfl
 have rr:=hz _ (Bb g)
 have ix:atI (zs.map PyData.str) (a:Int)=some (.str (zs.getD a "")):=by
  unfold atI
  rw[uO (by rw[ll];exact la),Az,AA,g]
  rfl
 generalize zs.getD a "" = row at g rr ix
 have lr:=rr.len
 have lT:lenTD [.str row]=some (.int (row.length:Int)):=Ak (by rfl')
 obtain⟨w,hw⟩:∃w,c%8=w:=⟨_,rfl⟩
 have w8:w<8:=by rw[<-hw];exact Dn _ (by decide)
 obtain⟨p,hp⟩:∃p,c / 64%(row.length+1)=p:=⟨_,rfl⟩
 have pl:p<=row.length:=by have:=Dn (c / 64) (show 0<row.length+1 by rfl');rfl'
 obtain⟨s,hs⟩:∃s,c / 6400%10=s:=⟨_,rfl⟩
 have s10:s<10:=by rw[<-hs];exact Dn _ (by decide)
 have tS:tl "0123()- x9" = [48,49,50,51,40,41,45,32,120,57]:=by decide +kernel
 obtain⟨sg,sc,hsc⟩:∃sg:Nat,ixSD (.str "0123()- x9") (.int (s:Int))=some (.str ⟨#[sg]⟩)/\sg<128/\sg≠10:=by
  have hs':s<(tl "0123()- x9").length:=by rw[tS];exact s10
  have all:∀x∈tl "0123()- x9",x<128/\x≠10:=by decide +kernel
  refine⟨(tl "0123()- x9")[s],?_,all _ (Do hs')⟩
  refine zJ9 (by decide) (r:=(tl "0123()- x9").drop (s+1)) ?_
  exact Bl hs'
 have m8:=modN c 8 (by decide)
 have d8:=divN c 8 (by decide) (by decide)
 have mm:=modN (c / 8) zs.length n0
 have d64:=divN c 64 (by decide) (by decide)
 have mp:=modN (c / 64) (row.length+1) (by rfl')
 have d6:=divN c 6400 (by decide) (by decide)
 have m10:=modN (c / 6400) 10 (by decide)
 rw[hw] at m8
 rw[ha] at mm
 rw[hp] at mp
 rw[hs] at m10
 have m8:modO (c:Int) 8=some (w:Int):=m8
 have d8:fdivO (c:Int) 8=some ((c / 8:Nat):Int):=d8
 have d64:fdivO (c:Int) 64=some ((c / 64:Nat):Int):=d64
 have d6:fdivO (c:Int) 6400=some ((c / 6400:Nat):Int):=d6
 have m10:modO ((c / 6400:Nat):Int) 10=some (s:Int):=m10
 have e1:(row.length:Int)+1=((row.length+1:Nat):Int):=by rfl'
 have main:∃ys,RL (B+1) (C+1) (m+1) ys/\chT [some (.list (zs.map PyData.str)),some (.int (c:Int)),some (.int (w:Int)),some (.int (a:Int)),some (.str row),some (.int (p:Int)),some (.str ⟨#[sg]⟩),none,none]=.ok (.rt (.list (ys.map PyData.str))):=by
  obtain⟨o,ho,eo⟩:=yB8 ((c / 64:Nat):Int)
  have ro:Rx (B+1) (C+1) o:=(yM6 (xW3 o ho)).up (by rfl') (by rfl')
  have ru:Rx (B+1) (C+1) row:=rr.up (by rfl') (by rfl')
  have tt:=slT zs a
  have tt1:slL (.list (zs.map PyData.str)) none (some ((a:Int)+1))=some (.list ((zs.take (a+1)).map PyData.str)):=slT zs (a+1)
  have tf:=slF zs a
  have tf1:slL (.list (zs.map PyData.str)) (some ((a:Int)+1)) none=some (.list ((zs.drop (a+1)).map PyData.str)):=slF zs (a+1)
  have lt1:(zs.take a).length=a:=by rw[Bn];rfl'
  have lt2:(zs.take (a+1)).length=a+1:=by rw[Bn];rfl'
  have ld1:(zs.drop a).length=zs.length-a:=As ..
  have ld2:(zs.drop (a+1)).length=zs.length-(a+1):=As ..
  have dk:∀k:Nat,decide ((w:Int)=(k:Int))=decide (w=k):=fun k=>decide_eq_decide.mpr (by rfl')
  have k0:decide ((w:Int)=0)=decide (w=0):=dk 0
  have k1:decide ((w:Int)=1)=decide (w=1):=dk 1
  have k2:decide ((w:Int)=2)=decide (w=2):=dk 2
  have k3:decide ((w:Int)=3)=decide (w=3):=dk 3
  have k4:decide ((w:Int)=4)=decide (w=4):=dk 4
  have mid:∀(x:List Str) (y:Str) (z:List Str),(∀q∈x,Rx (B+1) (C+1) q)->Rx (B+1) (C+1) y->(∀q∈z,Rx (B+1) (C+1) q)->x.length+z.length<=m->RL (B+1) (C+1) (m+1) ((x ++ [y])++z):=fun x y z a1 a2 a3 a4=>by
   refine⟨by simp,by rw[Af,Af];have:[y].length=1:=rfl;rfl',fun q hq => ?_⟩
   rcases AB.mp hq with hq | hq
   ·rcases AB.mp hq with hq | hq
    ·exact a1 q hq
    ·rw[BH.mp hq]
     exact a2
   ·exact a3 q hq
  unfold chT
  by_cases c0:w=0/\1<zs.length
  ·have gt:decide ((1:Int)<(zs.length:Int))=true:=Aa (by rfl')
   have ca:=ctL (a:=zs.take a) (b:=zs.drop (a+1)) (by rfl')
   rw[Aa c0.1] at k0
   refine⟨zs.take a++zs.drop (a+1),⟨fun z => ?_,by rw[Af];rfl',fun q hq => ?_⟩,?_⟩
   ·have:=AZ List.length z
    rw[Af,lt1,ld2,Ca] at this
    rfl'
   ·rcases AB.mp hq with hq | hq
    ·exact ut _ q hq
    ·exact uf _ q hq
   ·simp![yN,k0,ll,gt,tt,tf1,ca]
  ·have nt:(tAn (b2 eqD (eV 2) (eC (.int 0))) (b2 gtI (eB lenD (aC (eV 0) aN)) (eC (.int 1)))) [some (.list (zs.map PyData.str)),some (.int (c:Int)),some (.int (w:Int)),some (.int (a:Int)),some (.str row),some (.int (p:Int)),some (.str ⟨#[sg]⟩),none,none]=.ok false:=by
    by_cases w0:w=0
    ·have gt:decide ((1:Int)<(zs.length:Int))=false:=Ad (by rfl')
     rw[Aa w0] at k0
     simp![yN,k0,ll,gt]
    ·rw[Ad w0] at k0
     simp![yN,k0]
   rw[gA,jF,nt]
   by_cases c1:w=1
   ·rw[Aa c1] at k1
    have ca:=ct1 (a:=zs.take a) (y:=row) (by rfl')
    have cb:=ctL (a:=zs.take a ++ [row]) (b:=zs.drop a) (by rw[Af];have:[row].length=1:=rfl;rfl')
    refine⟨_,mid (zs.take a) row (zs.drop a) (ut a) ru (uf a) (by rfl'),?_⟩
    simp![yN,k1,tt,tf,ca,cb]
   ·rw[Ad c1] at k1
    by_cases c2:w=2
    ·rw[Aa c2] at k2
     have ca:=ct1 (a:=zs.take a) (y:=o) (by rfl')
     have cb:=ctL (a:=zs.take a ++ [o]) (b:=zs.drop (a+1)) (by rw[Af];have:[o].length=1:=rfl;rfl')
     refine⟨_,mid (zs.take a) o (zs.drop (a+1)) (ut a) ro (uf _) (by rfl'),?_⟩
     simp![yN,k1,k2,tt,tf1,d64,eo,ca,cb]
    ·rw[Ad c2] at k2
     by_cases c3:w=3
     ·rw[Aa c3] at k3
      have ca:=ct1 (a:=zs.take (a+1)) (y:=o) (by rfl')
      have cb:=ctL (a:=zs.take (a+1) ++ [o]) (b:=zs.drop (a+1)) (by rw[Af];have:[o].length=1:=rfl;rfl')
      refine⟨_,mid (zs.take (a+1)) o (zs.drop (a+1)) (ut _) ro (uf _) (by rfl'),?_⟩
      simp![yN,k1,k2,k3,tt1,tf1,d64,eo,ca,cb]
     ·rw[Ad c3] at k3
      by_cases c4:w=4
      ·rw[Aa c4] at k4
       have ca:=ctL (a:=zs.drop a) (b:=zs.take a) (by rfl')
       refine⟨zs.drop a++zs.take a,⟨fun z => ?_,by rw[Af];rfl',fun q hq => ?_⟩,?_⟩
       ·have:=AZ List.length z
        rw[Af,lt1,ld1,Ca] at this
        rfl'
       ·rcases AB.mp hq with hq | hq
        ·exact uf _ q hq
        ·exact ut _ q hq
       ·simp![yN,k1,k2,k3,k4,tt,tf,ca]
      ·rw[Ad c4] at k4
       have tp:=yA8 row p
       have tq:=yW5 row p
       have tq1:=yW5 row (p+1)
       have s1:slS (.str row) none (some (p:Int))=some (.str (Txt.slice row none (some (p:Int)))):=by
        unfold slS
        rw[yS,Az,Ak (by rfl')]
       have s2:slS (.str row) (some (p:Int)) none=some (.str (Txt.slice row (some (p:Int)) none)):=by
        unfold slS
        rw[yS,Az,Ak (by rfl')]
       have s3:slS (.str row) (some ((p:Int)+1)) none=some (.str (Txt.slice row (some ((p+1:Nat):Int)) none)):=by
        unfold slS
        rw[yS,Az,Ak (by rfl')]
        rfl
       have lf:=DA row none (some (p:Int))
       have lf2:=DA row (some (p:Int)) none
       have lf3:=DA row (some ((p+1:Nat):Int)) none
       generalize Txt.slice row none (some (p:Int))=f at s1 tp lf
       generalize Txt.slice row (some (p:Int)) none=r1 at s2 tq lf2
       generalize Txt.slice row (some ((p+1:Nat):Int)) none=r2 at s3 tq1 lf3
       have l1:(⟨#[sg]⟩:Str).length=1:=rfl
       have lrB:=rr.ln
       have lfs:(f ++ ⟨#[sg]⟩:Str).length=f.length+1:=by rw[Ag,l1]
       have b1:=cS (a:=f) (b:=⟨#[sg]⟩) (by rfl')
       have b2:=cS (a:=f ++ ⟨#[sg]⟩) (b:=r1) (by rfl')
       have b3:=cS (a:=f) (b:=r2) (by rfl')
       have b4:=cS (a:=f ++ ⟨#[sg]⟩) (b:=r2) (by rfl')
       have tsg:tl ⟨#[sg]⟩=[sg]:=rfl
       have y0:Rx (B+1) (C+1) (f ++ ⟨#[sg]⟩++r1):=yM5 rr hB hsc.1 hsc.2 (Al p) (by rw[zJ,zJ,tp,tq,tsg,AO])
       have y1:Rx (B+1) (C+1) (f++r2):=(xP8 rr (show p<=p+1 by rfl') (by rw[zJ,tp,tq1])).up (by rfl') (by rfl')
       have y2:Rx (B+1) (C+1) (f ++ ⟨#[sg]⟩++r2):=yM5 rr hB hsc.1 hsc.2 (show p<=p+1 by rfl') (by rw[zJ,zJ,tp,tq1,tsg,AO])
       have m3:modO (w:Int) 3=some ((w%3:Nat):Int):=modN w 3 (by decide)
       obtain⟨y,ry,iy⟩:∃y,Rx (B+1) (C+1) y/\atI [PyData.str (f ++ ⟨#[sg]⟩++r1),PyData.str (f++r2),PyData.str (f ++ ⟨#[sg]⟩++r2)] ((w%3:Nat):Int)=some (.str y):=by
        have:=Dn w (show 0<3 by decide)
        generalize w%3=v at this
        match v,this with
        | 0,_=>exact⟨_,y0,rfl⟩
        | 1,_=>exact⟨_,y1,rfl⟩
        | 2,_=>exact⟨_,y2,rfl⟩
       have ca:=ct1 (a:=zs.take a) (y:=y) (by rfl')
       have cb:=ctL (a:=zs.take a ++ [y]) (b:=zs.drop (a+1)) (by rw[Af];have:[y].length=1:=rfl;rfl')
       refine⟨_,mid (zs.take a) y (zs.drop (a+1)) (ut a) ry (uf _) (by rfl'),?_⟩
       simp![yN,k1,k2,k3,k4,s1,s2,s3,b1,b2,b3,b4,m3,iy,tt,tf1,ca,cb]
 obtain⟨ys,hy,e⟩:=main
 refine⟨ys,hy,?_⟩
 have ub:fO=(sQ (sS 2 (e2 modI (eV 1) (eC (.int 8)))) (sQ (sS 3 (e2 modI (e2 fdivI (eV 1) (eC (.int 8))) (eB lenD (aC (eV 0) aN)))) (sQ (sS 4 (e2 ixD (eV 0) (eV 3))) (sQ (sS 5 (e2 modI (e2 fdivI (eV 1) (eC (.int 64))) (e2 addI (eB lenTD (aC (eV 4) aN)) (eC (.int 1))))) (sQ (sS 6 (e2 ixSD (eC (.str "0123()- x9")) (e2 modI (e2 fdivI (eV 1) (eC (.int 6400))) (eC (.int 10))))) chT))))):=rfl
 show (fO [some (.list (zs.map PyData.str)),some (.int (c:Int)),none,none,none,none,none,none,none]).bind (fin true)=_
 rw[ub]
 simp![m8,d8,ll,mm,ix,d64,lT,e1,mp,d6,m10,sc,e]
structure OutN(n:Nat)(ns:List Int)(js:List Nat):Prop where
 eq:ns=js.map fun (j:Nat)=>(j:Int)
 nd:js.Nodup
 lt:∀j∈js,j<n
theorem OutN.has{n:Nat}{ns:List Int}{js:List Nat}(O:OutN n ns js)(i:Nat):ns.contains (i:Int)=js.contains i:=by
 rw[O.eq,Dx,AT,AT]
 exact⟨fun h=>by obtain⟨j,hj,e⟩:=AR.mp h;rw[<-Int.ofNat_inj.mp e];exact hj,fun h=>AR.mpr ⟨i,h,rfl⟩⟩
theorem OutN.more{n i:Nat}{ns:List Int}{js:List Nat}(O:OutN n ns js)(hi:i<n)(h:js.contains i=false):OutN n (ns ++ [(i:Int)]) (js ++ [i]) :=
 ⟨by rw[O.eq,Bh];rfl,List.nodup_append.mpr ⟨O.nd,by simp,fun x hx y hy e=>by
  simp at hy
  have:js.contains i=true:=AT.mpr (by rw[<-hy,<-e];exact hx)
  rw[this] at h
  cases h⟩,fun j hj=>by
  rcases AB.mp hj with z | z
  ·exact O.lt j z
  ·simp at z
   rw[z]
   exact hi⟩
theorem yG1{n:Nat}{ms:List Nat}(nd:ms.Nodup)(h:∀m∈ms,m<n):((List.range n).filter fun m=>!ms.contains m).length+ms.length=n:=by
 have p:(((List.range n).filter fun m=>!ms.contains m)++ms).Perm (List.range n):=by
  refine (List.perm_ext_iff_of_nodup (List.nodup_append.mpr ⟨List.nodup_range.sublist List.filter_sublist,nd,fun x hx y hy e => ?_⟩) List.nodup_range).mpr fun x => ?_
  ·have:=(BC.mp hx).2
   rw[e] at this
   simp at this
   exact this hy
  ·rw[AB,BC,AD]
   constructor
   ·rintro (z | z)
    ·exact z.1
    ·exact h x z
   ·intro hx
    by_cases z:x∈ms
    ·exact .inr z
    ·exact .inl ⟨hx,by simpa using z⟩
 have:=p.length_eq
 rw[Af,AQ] at this
 exact this
theorem yK1(S:Nat->Bool)(c:Nat):∀l:List Nat,(l.map fun m=>if S m=true then c else 0).sum=(l.filter S).length*c
 | []=>by simp
 | x::l=>by
  rw[AI,Cy,yK1 S c l,List.filter_cons]
  by_cases h:S x=true
  ·rw[Ak h,Ak h,Aq,Nat.add_mul,Nat.one_mul,Nat.add_comm]
  ·rw[Ax h,Ax h,Nat.zero_add]
def gg:Nat->Nat
 | 0=>1
 | k+1=>1+(k+1)*gg k
theorem yW6{f g:Nat->Nat}:∀l:List Nat,(∀i∈l,f i<=g i)->(l.map f).sum<=(l.map g).sum
 | [],_=>Al _
 | x::l,h=>by
  have a:=h x Ae
  have b:=yW6 l fun i hi=>h i (Ai _ hi)
  rw[AI,AI,Cy,Cy]
  rfl'
theorem zL8{n:Nat}(f:Str->Nat)(hf:∀a b,f (a++b)=f a+f b)(f1:f "-" = 0)(f2:f " " = 0)(f3:f ")" = 0)(f4:∀b,b<n->f (numT b)+f "("<=1){l:Nat}{bs ns:List Int}{d:D}(T:TreeOk n l bs ns d):∀js,OutN n ns js->f (ttx l d)<=gg (n-js.length):=by
 induction T with
 | none=>exact fun js _=>by rw[hJ,f1];exact AM _
 | @node l bs ns b h hb nb hh _ ih =>
  intro js O
  have fl:=yG1 O.nd O.lt
  have kn:((List.range n).map h).map (ttx l) ≠ []:=fun z=>by
   have:=AZ List.length z
   rw[Ac,Ac,AQ,Ca] at this
   rfl'
  have jn:=kD f hf " " (((List.range n).map h).map (ttx l)) kn
  rw[f2,Nat.mul_zero,Cp,Cp,Bd,Bd] at jn
  have le:((List.range n).map fun i=>f (ttx l (h i))).sum<=((List.range n).map fun i=>if (!js.contains i)=true then gg (n-js.length-1) else 0).sum:=yW6 _ fun i hi=>by
   have hi:=AD.mp hi
   by_cases c:js.contains i=true
   ·rw[hh i hi (by rw[O.has];exact c),hJ,f1]
    exact AM _
   ·rw[BS] at c
    rw[c,Ak (show (!false)=true from rfl)]
    have:=ih i hi (js ++ [i]) (O.more hi c)
    rw[Af,show n-(js.length + [i].length)=n-js.length-1 by simp;rfl'] at this
    exact this
  rw[yK1 (fun i=>!js.contains i)] at le
  have e:((List.range n).filter fun i=>!js.contains i).length=n-js.length:=by rfl'
  rw[e] at le
  rw[cN,hf,hf,hf,f3,Cp]
  have jn':f (Str.join " " (((List.range n).map h).map (ttx l)))=((List.range n).map fun i=>f (ttx l (h i))).sum:=by
   rw[Bd]
   exact jn
  rw[jn']
  have:=f4 b hb
  cases q:n-js.length with
  | zero =>
   rw[q,Nat.zero_mul] at le
   show _<=1
   rfl'
  | succ k =>
   rw[q,Nat.add_sub_cancel] at le
   show _<=1+(k+1)*gg k
   rfl'
theorem num5:∀b,b<5->(numT b).length=1/\(tl (numT b)).countP dig=1/\(tl (numT b)).count 40=0/\((tl (numT b)).all fun c=>decide (c<128))=true:=by decide +kernel
theorem qI{a b:Str}(ha:∀c∈tl a,c<128)(hb:∀c∈tl b,c<128):∀c∈tl (a++b),c<128:=fun c hc=>by
 rw[zJ] at hc
 rcases AB.mp hc with h | h
 ·exact ha c h
 ·exact hb c h
theorem zO7{b:Nat}(h:b<5):∀c∈tl (numT b),c<128:=fun c hc=>of_decide_eq_true (AS.mp (num5 b h).2.2.2 c hc)
theorem zG3{y:Str}(hy:∀c∈tl y,c<128){ts:List Str}(h:∀t∈ts,∀c∈tl t,c<128):∀c∈tl (Str.join y ts),c<128:=fun c hc=>by
 rcases zE7 _ hc with hc | ⟨p,hp,hc⟩
 ·exact hy c hc
 ·exact h p hp c hc
theorem ttx4{n:Nat}(hn:n<=4){l:Nat}{bs ns:List Int}{d:D}(T:TreeOk n l bs ns d):(ttx l d).length+2<=3*4 ^ l/\∀c∈tl (ttx l d),c<128:=by
 induction T with
 | @none l =>
  rw[hJ]
  have:1<=4 ^ l:=Nat.one_le_pow _ _ (by decide)
  have c1:("-":Str).length=1:=rfl
  exact⟨by rfl',by decide +kernel⟩
 | @node l bs ns b h hb nb hh _ ih =>
  have kn:((List.range n).map h).map (ttx l) ≠ []:=fun z=>by
   have:=AZ List.length z
   rw[Ac,Ac,AQ,Ca] at this
   rfl'
  have jl:=cK " " (((List.range n).map h).map (ttx l)) kn
  have c1:(" ":Str).length=1:=rfl
  have c2:("(":Str).length=1:=rfl
  have c3:(")":Str).length=1:=rfl
  have X:1<=4 ^ l:=Nat.one_le_pow _ _ (by decide)
  have sm:=jH (α:=Str) (·.length) 0 (3*4 ^ l-2) (((List.range n).map h).map (ttx l)) fun t ht=>by
   rw[Bd] at ht
   obtain⟨i,hi,rfl⟩:=AR.mp ht
   have:=(ih i (AD.mp hi)).1
   exact⟨AM _,by show (ttx l (h i)).length<=_;rfl'⟩
  have ln:(((List.range n).map h).map (ttx l)).length=n:=by rw[Ac,Ac,AQ]
  rw[ln] at jl sm
  rw[c1] at jl
  have nl:=(num5 b (by rfl')).1
  have mx:n*(3*4 ^ l-2)<=4*(3*4 ^ l-2):=BB _ hn
  rw[cN]
  refine⟨?_,qI (qI (qI (zO7 (by rfl')) (by decide +kernel)) (zG3 (by decide +kernel) fun t ht => ?_)) (by decide +kernel)⟩
  ·rw[Ag,Ag,Ag,nl,c2,c3,Nat.pow_succ]
   rfl'
  ·rw[Bd] at ht
   obtain⟨i,hi,rfl⟩:=AR.mp ht
   exact (ih i (AD.mp hi)).2
theorem dG(a b:Str):(tl (a++b)).countP dig=(tl a).countP dig+(tl b).countP dig:=by rw[zJ,Cu]
theorem dW(a b:Str):(tl (a++b)).count 40=(tl a).count 40+(tl b).count 40:=by rw[zJ,Cf]
theorem xR4{n:Nat}{ops:List Int}{t:Nat->D}(P:PlanOk n ops t)(q:Opn n ops)(h1:1<=n)(hn:n<=4):RL 800 18 5 (prw n ops t):=by
 have ok:=xR8 P q (show n<=6 by rfl')
 refine⟨by unfold prw;simp,by rw[xW2];rfl',fun z hz => ?_⟩
 have nl:=(ok z hz).2
 unfold prw at hz
 rcases Aw.mp hz with rfl | hz
 ·have lo:=(zA5 q (show n<=6 by rfl')).1
  have o5:∀x∈opN ops,x<5:=fun x hx=>by
   unfold opN at hx
   obtain⟨y,hy,rfl⟩:=AR.mp hx
   have:=q.bd y hy
   rfl'
  have ne:(opN ops).map numT ≠ []:=fun z=>by
   have e:=AZ List.length z
   rw[Ac,dF q,Ca] at e
   rfl'
  have jd:=kD (fun z=>(tl z).countP dig) dG " " ((opN ops).map numT) ne
  have jo:=kD (fun z=>(tl z).count 40) dW " " ((opN ops).map numT) ne
  have z1:(tl " ").countP dig=0:=by decide +kernel
  have z2:(tl " ").count 40=0:=by decide +kernel
  have z3:(tl "openings ").countP dig=0:=by decide +kernel
  have z4:(tl "openings ").count 40=0:=by decide +kernel
  simp only[z1,Nat.mul_zero,Cp] at jd
  simp only[z2,Nat.mul_zero,Cp] at jo
  have sd:=jH (fun z:Str=>(tl z).countP dig) 0 1 ((opN ops).map numT) fun w hw=>by
   obtain⟨x,hx,rfl⟩:=AR.mp hw
   exact⟨AM _,by show (tl (numT x)).countP dig<=1;rw[(num5 x (o5 x hx)).2.1];exact Al _⟩
  have so:=jH (fun z:Str=>(tl z).count 40) 0 0 ((opN ops).map numT) fun w hw=>by
   obtain⟨x,hx,rfl⟩:=AR.mp hw
   exact⟨AM _,by show (tl (numT x)).count 40<=0;rw[(num5 x (o5 x hx)).2.2.1];exact Al _⟩
  rw[Ac,dF q] at sd so
  refine⟨⟨⟨by rfl',?_⟩,nl,?_,?_⟩,by rfl'⟩
  ·exact qI (by decide +kernel) (zG3 (by decide +kernel) fun w hw=>by
    obtain⟨x,hx,rfl⟩:=AR.mp hw
    exact zO7 (o5 x hx))
  ·show (tl ("openings "++Str.join " " ((opN ops).map numT))).count 40<=18
   rw[dW,z4]
   rfl'
  ·show (tl ("openings "++Str.join " " ((opN ops).map numT))).countP dig<=18
   rw[dG,z3]
   rfl'
 ·obtain⟨p,hp,rfl⟩:=AR.mp hz
  have hp:=AD.mp hp
  have T:=P.tree p hp
  have b:=q.at hp
  have lv4:(ops.getD p 0).toNat<=4:=by rfl'
  have e4:=ttx4 hn T
  have pw:4 ^ (ops.getD p 0).toNat<=4 ^ 4:=CJ (by decide) lv4
  have lt:(ttx (ops.getD p 0).toNat (t p)).length<=766:=by
   have:(4:Nat) ^ 4=256:=rfl
   rfl'
  have O:OutN n [(p:Int)] [p]:=⟨rfl,by simp,fun j hj=>by rw[BH.mp hj];exact hp⟩
  have g3:gg (n - [p].length)<=16:=by
   have:∀k,k<4->gg k<=16:=by decide
   exact this _ (by have:[p].length=1:=rfl;rfl')
  have md:=zL8 (fun z=>(tl z).countP dig) dG (by decide +kernel) (by decide +kernel) (by decide +kernel) (fun b hb=>by
   show (tl (numT b)).countP dig+(tl "(").countP dig<=1
   rw[(num5 b (by rfl')).2.1,show (tl "(").countP dig=0 by decide +kernel]
   exact Al _) T [p] O
  have mo:=zL8 (fun z=>(tl z).count 40) dW (by decide +kernel) (by decide +kernel) (by decide +kernel) (fun b hb=>by
   show (tl (numT b)).count 40+(tl "(").count 40<=1
   rw[(num5 b (by rfl')).2.2.1,show (tl "(").count 40=1 by decide +kernel]
   exact Al _) T [p] O
  have md:(tl (ttx (ops.getD p 0).toNat (t p))).countP dig<=gg (n - [p].length):=md
  have mo:(tl (ttx (ops.getD p 0).toNat (t p))).count 40<=gg (n - [p].length):=mo
  have n5:=num5 p (by rfl')
  have c7:("person ":Str).length=7:=rfl
  have c1:(" ":Str).length=1:=rfl
  show Rx 800 18 ("person "++numT p ++ " "++ttx (ops.getD p 0).toNat (t p))
  have len:("person "++numT p ++ " "++ttx (ops.getD p 0).toNat (t p)).length<=800:=by
   rw[Ag,Ag,Ag,n5.1,c7,c1]
   rfl'
  refine⟨⟨⟨by rfl',qI (qI (qI (by decide +kernel) (zO7 (by rfl'))) (by decide +kernel)) e4.2⟩,nl,?_,?_⟩,len⟩
  ·rw[dW,dW,dW,n5.2.2.1,show (tl "person ").count 40=0 by decide +kernel,show (tl " ").count 40=0 by decide +kernel]
   rfl'
  ·rw[dG,dG,dG,n5.2.1,show (tl "person ").countP dig=0 by decide +kernel,show (tl " ").countP dig=0 by decide +kernel]
   rfl'
theorem right{B C m:Nat}{zs:List Str}(h:RL B C m zs)(hm:m<=9)(hC:C<=20):wG [.list (zs.map PyData.str)]=.ok (.bool true):=yT5 (fun z hz=>(h.2.2 z hz).toRw.up hC) h.1 (AJ h.2.1 hm)
theorem law_true(ns:List Int)(h:ns.length<=63):yR2 [.list (ns.map PyData.int)]=.ok (.bool true):=by
 obtain⟨cell,ec⟩:=yB1 ns
 have e0:jY [lI ns,.int 0]=.ok (.int (ns.getD 0 0)):=zC8 ns 0
 generalize ns.getD 0 0=v at e0
 obtain⟨n,n1,n4,en⟩:∃n:Nat,1<=n/\n<=4/\1+v%4=(n:Int):=⟨(1+v%4).toNat,by rfl',by rfl',by rfl'⟩
 have m4:modO v 4=some (v%4):=Ak (by decide)
 obtain⟨ops,t,q,P,_,ep⟩:=yP7 cell (n:Int) n1 (show n<=6 by rfl') (by rfl') (by rfl')
 have gt:gT 2 (gsC (gN 2) (gsC (gN 3) gsN)) (.tuple [tI ops,.tuple ((List.range n).map t)]) [some (lI ns),some (.int (n:Int)),none,none,none,none,none]=some [some (lI ns),some (.int (n:Int)),some (tI ops),some (.tuple ((List.range n).map t)),none,none,none]:=rfl
 have pr:=zO8 P q (show n<=6 by rfl')
 have rl:=xR4 P q n1 n4
 generalize prw n ops t=zs at pr rl
 have emp:Rx 800 18 "":=(yM6 (by decide +kernel)).up (by decide) (by decide)
 have rl1:RL 800 18 6 (zs ++ [("":Str)]):=⟨by simp,by rw[Af];have:=rl.2.1;have:[("":Str)].length=1:=rfl;rfl',fun z hz=>by
  rcases AB.mp hz with hz | hz
  ·exact rl.2.2 z hz
  ·rw[BH.mp hz]
   exact emp⟩
 have rl2:RL 800 18 1 [("":Str)]:=⟨by simp,Al _,fun z hz=>by rw[BH.mp hz];exact emp⟩
 have r0:=right rl (by decide) (by decide)
 have r1:=right rl1 (by decide) (by decide)
 have r2:=right rl2 (by decide) (by decide)
 have r2:wG [.list [.str ""]]=.ok (.bool true):=r2
 have ca:=ct1 (a:=zs) (y:="") (by have:=rl.2.1;rfl')
 have cu:cutD (ns.map PyData.int) none (some 30)=(ns.take 30).map PyData.int:=by
  rw[cR,show (30:Int)=((30:Nat):Int) from rfl,yJ7]
 show (yS3 [some (lI ns),none,none,none,none,none,none]).bind (fin false)=_
 unfold yS3
 simp![e0,m4,en,ec,ep,gt,pr,r0,ca,r1,r2,cu]
 refine zR8 (fun _ ρ=>∃x y,ρ=[some (lI ns),some (.int (n:Int)),some (tI ops),some (.tuple ((List.range n).map t)),some (.list (zs.map PyData.str)),x,y]) ⟨none,none,rfl⟩ ?_ ?_
 ·rintro i d ρ hd ⟨x,y,rfl⟩
  rw[AA] at hd
  obtain⟨v,_,rfl⟩:=AK.mp hd
  have av:absD [.int v]=some (.int ((v.natAbs:Nat):Int)):=by
   have q:(if v<0 then -v else v)=((v.natAbs:Nat):Int):=by split <;> rfl'
   show some (PyData.int (if v<0 then -v else v))=_
   rw[q]
  have d4:fdivO ((v.natAbs:Nat):Int) 4=some ((v.natAbs / 4:Nat):Int):=divN v.natAbs 4 (by decide) (by decide)
  have d11:fdivO ((v.natAbs:Nat):Int) 11=some ((v.natAbs / 11:Nat):Int):=divN v.natAbs 11 (by decide) (by decide)
  obtain⟨ys,hy,ey⟩:=aL rl (by decide) (by decide) (by decide) (by decide) (v.natAbs / 4)
  obtain⟨us,hu,eu⟩:=aL hy (by decide) (by decide) (by decide) (by decide) (v.natAbs / 11+5)
  have eu:uI [.list (ys.map PyData.str),.int (((v.natAbs / 11:Nat):Int)+5)]=.ok (.list (us.map PyData.str)):=eu
  have q1:=right hy (by decide) (by decide)
  have q2:=right hu (by decide) (by decide)
  refine⟨_,[some (lI ns),some (.int (n:Int)),some (tI ops),some (.tuple ((List.range n).map t)),some (.list (zs.map PyData.str)),some (.int v),some (.list (ys.map PyData.str))],rfl,?_,_,_,rfl⟩
  unfold yZ2
  simp![av,d4,ey,q1,d11,eu,q2]
 ·rintro ρ ⟨x,y,rfl⟩
  simp -implicitDefEqProofs only[(evA)]
end K51
namespace K51
open PySem PySem.W L2 L2.L3
structure Kt(K:Frag)(R0 R1 R2:Addr)(u:Value)(b0 b1 b2:Bool):Prop where
 z:kitOne K (.type "NoneType") u=some false
 t0:kitOne K (.ref R0) u=some b0
 t1:kitOne K (.ref R1) u=some b1
 t2:kitOne K (.ref R2) u=some b2
structure Bg(K:Frag)(A0 A1 A2 A3 A4 A5 A6:Addr):Prop where
 n0:Nm K "BadBox" A0
 n1:Nm K "BadOpenings" A1
 n2:Nm K "BadOrder" A2
 n3:Nm K "BadPlan" A3
 n4:Nm K "BadText" A4
 n5:Nm K "BoxError" A5
 n6:Nm K "NoPerson" A6
 o0:excIn K A1 bmV "ValueError.__new__" = true
 g0:Ex6 K A1
 o1:excIn K A3 bmV "ValueError.__new__" = true
 g1:Ex6 K A3
 g2:Ex6 K A4
 q0:Kt K A1 A3 A4 (.ref A0) false false false
 q1:Kt K A1 A3 A4 (.ref A1) true false false
 q2:Kt K A1 A3 A4 (.ref A2) false false false
 q3:Kt K A1 A3 A4 (.ref A3) false true false
 q4:Kt K A1 A3 A4 (.ref A4) false false true
 q5:Kt K A1 A3 A4 (.ref A6) false false false
 q6:Kt K A1 A3 A4 (.type "ValueError") true true true
 b0:kitOne K (.ref A1) (.type "BaseException")=some true
 m0:typeIn K (.ref A1)=some (.type "type")
 s0:subIn K (.ref A1) (.ref A1)=some true
 b1:kitOne K (.ref A5) (.type "BaseException")=some true
 c1_0:kitOne K (.ref A1) (.ref A5)=some true
 d1_0:(Value.ref A1 == Value.ref A5)=false
 c1_1:kitOne K (.ref A3) (.ref A5)=some true
 d1_1:(Value.ref A3 == Value.ref A5)=false
 c1_2:kitOne K (.ref A4) (.ref A5)=some true
 d1_2:(Value.ref A4 == Value.ref A5)=false
 xe:ExIn K A4 bmV "ValueError.__new__"
 xr:RowCls K A4
 xf:BtFi K A4 zS5
 xk:keepIn K (.ref A4)=true
 xb:BaseIni K A5
 xn0:(Value.ref A1 == Value.ref A4)=false
theorem big{K:Frag}{A0 A1 A2 A3 A4 A5 A6:Addr}(h:Bg K A0 A1 A2 A3 A4 A5 A6):∃A0 A1 A2 A3 A4 A5 A6,Bg K A0 A1 A2 A3 A4 A5 A6:=⟨_,_,_,_,_,_,_,h⟩
theorem isK[CN]{K:Frag}(k0:ExK K (CN.ad "BadOpenings"))(k1:ExK K (CN.ad "BadPlan"))(k2:ExK K (CN.ad "BadText"))(r:∀c∈ROWN,CN.ad c=CN.ad "BadText"){u:Value}{S:List Str}{b0 b1 b2:Bool}(q:Kt K (CN.ad "BadOpenings") (CN.ad "BadPlan") (CN.ad "BadText") u b0 b1 b2)(e0:autoParam (b0=S.contains "BadOpenings") DH)(e1:autoParam (b1=S.contains "BadPlan") DH)(eR:autoParam (∀c∈ROWN,b2=S.contains c) DH):IsK K CLS S u:=xN7 q.z (Bw.2 ⟨⟨k0,q.t0.trans (AZ some e0)⟩,Bw.2 ⟨⟨k1,q.t1.trans (AZ some e1)⟩,fun c hc=>⟨r c hc▸k2,r c hc▸q.t2.trans (AZ some (eR c hc))⟩⟩⟩)
end K51
def PySem.W.Fast.tw12083550929136655536 : Unit := ()
theorem PySem.W.Fast.te12083550929136655536 : True := trivial
def PySem.W.Fast.tw7316219152665647878 : PySem.Program := PySem.Challenge.pw_ownboxes_k51_the_first_bad_row
theorem PySem.W.Fast.te7316219152665647878 : PySem.Challenge.pw_ownboxes_k51_the_first_bad_row = PySem.W.Fast.tw7316219152665647878 := rfl
def PySem.W.Fast.tw982697300035157916 : Unit := ()
def PySem.W.Fast.tw6324859747018251093 : Unit := ()
def PySem.W.Fast.tw10625834796719167738 : Unit := ()
def PySem.W.Fast.tw7282142735642184802 : Unit := ()
def PySem.W.Fast.tw6904278254502123899 : Unit := ()
def PySem.W.Fast.tw7784979406271761491 : Unit := ()
def PySem.W.Fast.tw9729040368815641779 : Unit := ()
def PySem.W.Fast.tw11485004653424802970 : Unit := ()
def PySem.W.Fast.tw4410142429082632083 : Unit := ()
def PySem.W.Fast.tw167210143560574462 : Unit := ()
def PySem.W.Fast.tw13592225568289158716 : Unit := ()
open PySem PySem.W PyProof.Rows L2 L2.L3
set_option hygiene false in
local macro_rules | `(tactic| sleep 11)=>`(tactic| (refine' ⟨_,_,bH KX G ?a ?l ?c ?k ?b⟩; (case a|l|c|k=>k_is); (case b=>intro _ _ _ _ _ _;refine ls1 ?_;exact fun _=>rfl)))
set_option hygiene false in
local macro_rules | `(tactic| sleep 12)=>`(tactic| (refine' ⟨_,_,bH KX G ?a ?l ?c ?k ?b⟩; (case a|l|c|k=>k_is); (case b=>intro _ _ _ _ _ _;refine ls2 ?_;exact fun _ _=>rfl)))
set_option hygiene false in
local macro_rules | `(tactic| sleep 13)=>`(tactic| (refine' ⟨_,_,bH KX G ?a ?l ?c ?k ?b⟩; (case a|l|c|k=>k_is); (case b=>intro _ _ _ _ _ _;refine ls3 ?_;exact fun _ _ _=>rfl)))
set_option hygiene false in
local macro_rules | `(tactic| sleep 15)=>`(tactic| (refine' ⟨_,_,bH KX G ?a ?l ?c ?k ?b⟩; (case a|l|c|k=>k_is); (case b=>intro _ _ _ _ _ _;refine ls5 ?_;exact fun _ _ _ _ _=>rfl)))
set_option hygiene false in
local macro_rules | `(tactic| sleep 20)=>`(tactic| exact mg_none_of KX G (by k_is))
set_option hygiene false in
local macro_rules | `(tactic| sleep 21)=>`(tactic| (refine' ⟨_,mg_of KX G ?y,?x⟩; (case y=>k_is); (case x=>exact⟨_,rfl⟩)))
set_option maxRecDepth 100000 in
set_option maxHeartbeats 0 in
theorem PySem.Challenge.cw_ownboxes_k51_the_first_bad_row_holds : PySem.Challenge.rw_ownboxes_k51_the_first_bad_row.Holds := by
 w_on;o_law;k_head; (case hw=>w_witness2)
 k_fill
 refine yN6 (F:=K51.yR2) (k:=29) (l:=PySem.Challenge.rw_ownboxes_k51_the_first_bad_row) K51.law_true ⟨rfl,by decide,by decide⟩ rfl rfl (fun w h Y=>kIn_of Y) (fun w=>by rfl) ?F
 case F =>
  intro w mg fa h KX G hmg
  letI cn:CN:=cnOf (KOf KX)
  have D:∃f fd,Has (KOf KX) mg "law" K51.zI1 f fd ["script"]/\(∀(s:Shared) (u:Value),BindsTo s fd ⟨[u],[]⟩ [("script",u)]):=by
   dsimp only[KOf]
   refine' ⟨_,_,bH KX G ?a ?l ?c ?k ?b,fun s u=>.of_eq rfl⟩
   (case a|l|c|k=>k_is)
   (case b=>intro _ _ _ _ _ _;refine ls1 ?_;exact fun _=>rfl)
  have BIG:∃A0 A1 A2 A3 A4 A5 A6,K51.Bg (KOf KX) A0 A1 A2 A3 A4 A5 A6:=by
   dsimp only[KOf]
   refine' K51.big ⟨⟨?n0⟩,⟨?n1⟩,⟨?n2⟩,⟨?n3⟩,⟨?n4⟩,⟨?n5⟩,⟨?n6⟩,?o0,⟨?g0a,?g0b,?g0c,?g0d,?g0e,?g0f⟩,?o1,⟨?g1a,?g1b,?g1c,?g1d,?g1e,?g1f⟩,⟨?g2a,?g2b,?g2c,?g2d,?g2e,?g2f⟩,⟨?q0z,?q0a,?q0b,?q0c⟩,⟨?q1z,?q1a,?q1b,?q1c⟩,⟨?q2z,?q2a,?q2b,?q2c⟩,⟨?q3z,?q3a,?q3b,?q3c⟩,⟨?q4z,?q4a,?q4b,?q4c⟩,⟨?q5z,?q5a,?q5b,?q5c⟩,⟨?q6z,?q6a,?q6b,?q6c⟩,?b0,?m0,?s0,?b1,?c1_0,?d1_0,?c1_1,?d1_1,?c1_2,?d1_2,xV3 ?e0 ?e1,yJ1 ?e2 ?e3 ?e4 ?e5,xV7 ?e6 ?e7 ?e8 ?e9 ?ea ?eb,?ec,⟨?ed,?ee,?ef⟩,?en0⟩
   (case n0|n1|n2|n3|n4|n5|n6=>k_is)
   (case o0=>k_exc)
   (case g0a|g0b|g0c=>k_is)
   (case g0d|g0e=>kit_is)
   (case g0f=>first | k_is | rfl | decide +kernel)
   (case o1=>k_exc)
   (case g1a|g1b|g1c=>k_is)
   (case g1d|g1e=>kit_is)
   (case g1f=>first | k_is | rfl | decide +kernel)
   (case g2a|g2b|g2c=>k_is)
   (case g2d|g2e=>kit_is)
   (case g2f=>first | k_is | rfl | decide +kernel)
   (case q0z|q0a|q0b|q0c|q1z|q1a|q1b|q1c|q2z|q2a|q2b|q2c|q3z|q3a|q3b|q3c|q4z|q4a|q4b|q4c|q5z|q5a|q5b|q5c|q6z|q6a|q6b|q6c|b0=>kit_is)
   (case m0|s0=>k_is)
   (case b1|c1_0=>kit_is)
   (case d1_0=>decide)
   (case c1_1=>kit_is)
   (case d1_1=>decide)
   (case c1_2=>kit_is)
   (case d1_2=>decide)
   (case e0=>k_is)
   (case e1=>k_exc)
   (case e2|e3=>k_is)
   (case e4=>rfl)
   (case e5|e6|e7|e8|e9|ea=>k_is)
   (case eb=>intro _ _ _ _ _ _;refine ls2 ?_;exact fun _ _=>rfl)
   (case ec|ed|ee|ef=>k_is)
   (case en0=>decide)
  obtain⟨A0,A1,A2,A3,A4,A5,A6,Z⟩:=BIG
  have e:CN.ad "BadBox" = A0:=cL Z.n0.n
  subst e
  have e:CN.ad "BadOpenings" = A1:=cL Z.n1.n
  subst e
  have e:CN.ad "BadOrder" = A2:=cL Z.n2.n
  subst e
  have e:CN.ad "BadPlan" = A3:=cL Z.n3.n
  subst e
  have e:CN.ad "BadText" = A4:=cL Z.n4.n
  subst e
  have e:CN.ad "BoxError" = A5:=cL Z.n5.n
  subst e
  have e:CN.ad "NoPerson" = A6:=cL Z.n6.n
  subst e
  have r:∀c∈K51.ROWN,CN.ad c=CN.ad "BadText":=xT2
  have T:K51.Txt (KOf KX) mg:=by
   dsimp only[KOf]
   exact⟨by sleep 20,by sleep 20,by sleep 20,by sleep 20,by sleep 20,by sleep 20,by sleep 20,by sleep 20,by sleep 20,by sleep 20,by sleep 20,by sleep 20,by sleep 21,by sleep 21,by sleep 21,by constructor <;> first | kit_is | rfl,by constructor <;> first | kit_is | rfl,by sleep 12,by sleep 11,by sleep 15,by sleep 12,by sleep 12,by sleep 12,by sleep 11,by sleep 13,by sleep 13,by sleep 13,by sleep 11,by sleep 12,by sleep 11,by sleep 11,by sleep 12,by sleep 15,by sleep 13,by sleep 11,by sleep 12,by sleep 12,by sleep 13,by sleep 11,by sleep 15,by sleep 11,by sleep 11,by sleep 12,by sleep 11,let ⟨f,fd,h,_⟩:=D; ⟨f,fd,h⟩,mg_of KX G Z.n0.n,mg_of KX G Z.n1.n,mg_of KX G Z.n2.n,mg_of KX G Z.n3.n,mg_of KX G Z.n4.n,mg_of KX G Z.n5.n,mg_of KX G Z.n6.n,Z.o0,Z.o1,K51.isK Z.g0.ok Z.g1.ok Z.g2.ok r Z.q0,K51.isK Z.g0.ok Z.g1.ok Z.g2.ok r Z.q1,K51.isK Z.g0.ok Z.g1.ok Z.g2.ok r Z.q2,K51.isK Z.g0.ok Z.g1.ok Z.g2.ok r Z.q3,K51.isK Z.g0.ok Z.g1.ok Z.g2.ok r Z.q4,K51.isK Z.g0.ok Z.g1.ok Z.g2.ok r Z.q5,K51.isK Z.g0.ok Z.g1.ok Z.g2.ok r Z.q6,yA4 (Bw.2 ⟨zB7 Z.g0.g6 Z.m0 Z.s0,(fun _ h=>nomatch h)⟩),aF Z.b0,yA4 (Bw.2 ⟨fS Z.c1_0 Z.d1_0,Bw.2 ⟨fS Z.c1_1 Z.d1_1,fun c hc=>r c hc▸fS Z.c1_2 Z.d1_2⟩⟩),aF Z.b1,Z.xe,Z.xf,Z.xk,Z.xb,Z.xr,xM6 Z.xn0,fun n h=>yO8 h,Z.g2.ok⟩
  obtain⟨fl,fdl,HL,HB⟩:=D
  have e0:=hmg.symm.trans HL.m
  cases e0
  exact⟨fdl,HB,fun base kb nb=>K51.xN4 T HL⟩
