import PyProof.Rows.All
import Wide.All
import OpenK.AllK
import Wide.FinOn
import Lean
import PyProof.EqAt
import PyProof.EqKinds
import PyProof.TupleCall
import KE.KIntText
import PyProof.Rows.Range3
import PyProof.ListRange
import PyProof.TupleOfGen
import KE.KRevIter
import PyProof.Draws
import PyProof.EnumMake
import PyProof.CollectIter
import PyProof.RangeFor
import PyProof.ZipIter
import PyProof.InstStoreFacts
import PyProof.StrWalks
import PyProof.StrBlock2
import KE.IntTextText
import PySem.Challenge.RW_ownboxes_k52_whole_written_is_read
set_option compiler.extract_closed false
theorem fH(_h:True:=by first | exact .inl rfl | exact .inr rfl | assumption):True:=trivial
theorem zI(_h:True:=by decide):True:=trivial
theorem xP(_h:True:=by intro _;rfl):True:=trivial
theorem zY(_h:True:=by rfl):True:=trivial
theorem zM1(_h:True:=by with_unfolding_all rfl):True:=trivial
theorem fG(_h:True:=by first | exact Or.inl rfl | exact Or.inr (Or.inl rfl) | exact Or.inr (Or.inr rfl)):True:=trivial
theorem xB1(_h:True:=by exact fun _ _=>rfl):True:=trivial
theorem yN5(_h:True:=by first | exact nomark _ | rfl):True:=trivial
theorem cD(_h:True:=by first | exact Or.inl rfl | exact Or.inr rfl):True:=trivial
theorem autoK12(_h:True:=by first | exact .inl rfl | exact .inr rfl):True:=trivial
theorem autoK13(_h:True:=by exact PassesOwn.never):True:=trivial
theorem autoK14(_h:True:=by decide +kernel):True:=trivial
def Dv:=fG._auto_1
def Dw:=fH._auto_1
def Dx:=xP._auto_1
def Dy:=zI._auto_1
def Dz:=zY._auto_1
local macro_rules | `(tactic| rfl')=>`(tactic| first | lia | omega)
local macro_rules | `(tactic| sleep 3)=>`(tactic| first | exact Or.inl rfl | exact Or.inr rfl)
set_option Elab.async false
set_option linter.all false
set_option maxRecDepth 100000
set_option maxHeartbeats 4000000
noncomputable section
def Aa:=@List.length_map
def Ab:=@PySem.wpAny_bind
def Ac:=@List.mem_cons_self
def Ad:=@List.mem_append_right
def Ae:=@List.mem_cons_of_mem
def Af:=@PySem.Str.length_append
def Ag:=@decide_eq_true
def Ah:=@List.getElem?_eq_getElem
def Ai:=@Nat.le_refl
def Aj:=@List.getElem?_eq_some_iff
def Ak:=@List.getElem?_map
def Al:=@PySem.Heap.get?_push_of_some
def Am:=@if_pos
def An:=@decide_eq_false
def Ao:=@PySem.Heap.lt_size
def Ap:=@Bool.false_ne_true
def Aq:=@List.length_append
def Ar:=@PySem.wpAny_pure
def As:=@List.size_toArray
def Au:=@List.length_range
def Av:=@Option.map_eq_some_iff
def Aw:=@List.mem_cons
def Ax:=@Nat.lt_of_lt_of_le
def Ay:=@List.getElem?_range
def Az:=@PySem.Heap.get?_push_size
def AA:=@List.mem_range
def AB:=@Bool.false_eq_true
def AC:=@PySem.Heap.get?_update_other
def AD:=@Option.bind_eq_some_iff
def AE:=@List.mem_append
def AF:=@List.map_cons
def AG:=@if_neg
def AH:=@Bool.and_eq_true
def AI:=@Option.bind_some
def AJ:=@List.mem_map
def AK:=@PySem.boot_len
def AL:=@Nat.ne_of_lt
def AM:=@List.mem_append_left
def AN:=@Classical.choose_spec
def AO:=@List.getD_eq_getElem?_getD
def AQ:=@List.length_cons
def AR:=@List.map_map
def AS:=@List.mem_of_getElem?
def AT:=@List.map_append
def AU:=@List.getElem?_set_ne
def AV:=@PySem.PassesOwn.leaving
def AW:=@List.all_eq_true
def AX:=@Option.some.inj
def AY:=@PySem.Heap.get?_update_self
def AZ:=@PySem.mem_of_lookup
def Ba:=@Nat.le_trans
def Bb:=@Nat.zero_le
def Bc:=@Array.getElem?_eq_some_iff
def Bd:=@Ne.symm
def Be:=@Int.toNat_natCast
def Bf:=@List.length_singleton
def Bg:=@PySem.F.slot_list_append
def Bh:=@PySem.F.type_list_append
def Bi:=@List.contains_iff_mem
def Bj:=@List.length_pos_iff
def Bk:=@PySem.Obj.data_mapFields
def Bl:=@List.mem_singleton
def Bm:=@PySem.W.mg_none_of
def Bn:=@Option.map_some
def Bo:=@List.length_take
def Bp:=@List.drop_eq_getElem_cons
def Bq:=@List.replicate_succ
def Bs:=@List.getElem?_eq_none
def Bt:=@List.flatten_cons
def Bu:=@List.mem_filterMap
def Bv:=@Bool.not_false
def Bw:=@Nat.le_of_lt
def Bx:=@List.getElem?_set_self
def By:=@List.lookup_cons
def Bz:=@List.take_length
def BA:=@PySem.Str.empty_append
def BB:=@List.getElem?_append_left
def BC:=@List.map_congr_left
def BD:=@List.append_assoc
def BE:=@Bool.true_and
def BF:=@List.length_drop
def BG:=@List.getElem?_cons_succ
def BH:=@PySem.F.plainAttrs_list
def BJ:=@PyProof.Rows.callWith_type1
def BK:=@List.getElem?_append_right
def BL:=@Array.length_toList
def BM:=@List.range_succ
def BN:=@PyProof.Rows.slot_tuple_getitem
def BO:=@List.length_replicate
def BP:=@PySem.Obj.isFreed_of_fields
def BQ:=@congrArg
def BR:=@List.drop_length
def BS:=@Bool.not_true
def BU:=@Nat.mul_le_mul_right
def BV:=@List.drop_append_of_le_length
def BW:=@List.take_append_of_le_length
def BX:=@List.getElem?_replicate
def BY:=@List.map_eq_nil_iff
def BZ:=@List.take_of_length_le
def Ca:=@List.sublist_flatten_of_mem
def Cb:=@PySem.W.mg_of
def Cc:=@List.sum_cons
def Cd:=@Nat.not_lt
def Ce:=@List.pairwise_cons
def Cf:=@PySem.F.excBase_ValueError
def Cg:=@List.mem_filter
def Ch:=@List.append_nil
def Ci:=@List.nodup_cons
def Cj:=@List.length_set
def Ck:=@Nat.ne_of_gt
def Cl:=@List.forall_mem_cons
def Cm:=@Nat.lt_irrefl
def Cn:=@PySem.W.hideAll_get
def Co:=@Bool.false_and
def Cp:=@PySem.Heap.size_push
def Cq:=@List.mem_flatten
def Cr:=@List.contains_cons
def Cs:=@PySem.F.plainAttrs_str
def Cu:=@PySem.F.slot_str_split
def Cv:=@PySem.F.type_str_split
def Cw:=@PyProof.Rows.boot_min
def Cy:=@PySem.F.slot_str_join
def Cz:=@PySem.F.type_str_join
def CA:=@PySem.F.slot_str_startswith
def CC:=@PySem.F.type_str_startswith
def CD:=@PySem.W.hideAll_none
def CF:=@PySem.Heap.get?_none_of_le
def CG:=@PySem.F.args_list_append_2
def CH:=@Bool.and_eq_true_iff
def CI:=@List.take_succ
def CJ:=@Nat.succ_mul
def CK:=@Nat.lt_succ_self
def CL:=@List.pairwise_iff_getElem
def CM:=@List.filterMap_cons
def CO:=@PySem.F.entry_list_append
def CP:=@List.flatten_append
def CQ:=@Int.emod_nonneg
def CS:=@PySem.W.of_hideAll
def CT:=@PySem.F.slot_list_append
def CU:=@Int.emod_lt_of_pos
def CV:=@PySem.W.cellsFrom_some
def CW:=@PySem.list_append
def CY:=@List.ext_getElem?
def CZ:=@List.drop_eq_nil_of_le
def Da:=@PySem.W.funFrames_hide
def Db:=@List.take_append_drop
def Dc:=@PySem.IsL.update
def Dd:=@Option.getD_some
def De:=@List.nodup_range
def Df:=@Nat.mod_eq_of_lt
def Dg:=@List.getElem_mem
def Dh:=@List.all_cons
def Dj:=@List.any_cons
def Dk:=@List.map_id
def Dl:=@Nat.pow_le_pow_right
def Dm:=@List.of_mem_zip
def Dn:=@List.nil_append
def Do:=@List.getElem_of_mem
def Dp:=@PySem.Calls.spliced_cons
def Dq:=@PySem.W.callWith_K
def Dr:=@Nat.lt_of_le_of_lt
def Ds:=@Nat.eq_zero_or_pos
def Dt:=@PySem.F.args_str_split_2
def Du:=@List.getElem?_drop
abbrev KFr:=PySem.W.Frag
namespace L2
open PySem PySem.Spec PyProof.Rows
abbrev Key:=Sum Int Str
def keyIs:Key->Value->Bool
 | .inl k,v=>Value.isInt k v
 | .inr x,v=>Value.isStrOf x v
def keyH(w:World):Key->Int
 | .inl k=>hashInt k
 | .inr x=>hashStr w x
theorem xG:∀{k:Key}{v:Value},keyIs k v=true->(∃i t,k=Sum.inl i/\v=Value.int i t)\/(∃x t,k=Sum.inr x/\v=Value.str x t)
 | .inl i,v,h=>by
  obtain⟨t,e⟩:=Value.isInt_shape (k:=i) (v:=v) h
  exact .inl ⟨i,t,rfl,e⟩
 | .inr x,v,h=>by
  obtain⟨t,e⟩:=Value.isStrOf_shape (x:=x) (v:=v) h
  exact .inr ⟨x,t,rfl,e⟩
theorem xC9(a b:Int):decide ((Sum.inl a:Key)=Sum.inl b)=(a == b):=by
 by_cases e:a=b
 ·subst e;simp
 ·have h:¬(Sum.inl a:Key)=Sum.inl b:=fun q=>e (Sum.inl.inj q)
  rw[An h]
  exact (beq_eq_false_iff_ne.mpr e).symm
theorem xC2(a b:Str):decide ((Sum.inr a:Key)=Sum.inr b)=decide (a=b):=by
 by_cases e:a=b
 ·subst e;simp
 ·have h:¬(Sum.inr a:Key)=Sum.inr b:=fun q=>e (Sum.inr.inj q)
  rw[An h,An e]
theorem xH4(a:Int)(b:Str):decide ((Sum.inl a:Key)=Sum.inr b)=false:=An (fun q=>nomatch q)
theorem xF9(a:Str)(b:Int):decide ((Sum.inr a:Key)=Sum.inl b)=false:=An (fun q=>nomatch q)
def mixKind(prog:Program)(w:World):PySem.KeyKind prog w Key where
 is:=keyIs
 hash:=keyH w
 inj:=fun v a b ha hb=>by
  rcases xG ha with ⟨i,t,rfl,rfl⟩ | ⟨x,t,rfl,rfl⟩
  ·rcases xG hb with ⟨j,u,rfl,e⟩ | ⟨y,u,rfl,e⟩
   ·injection e with e1 _;rw[e1]
   ·exact nomatch e
  ·rcases xG hb with ⟨j,u,rfl,e⟩ | ⟨y,u,rfl,e⟩
   ·exact nomatch e
   ·injection e with e1 _;rw[e1]
 byValue:=fun k v h=>by
  rcases xG h with ⟨i,t,rfl,rfl⟩ | ⟨x,t,rfl,rfl⟩ <;> rfl
 pyHash:=fun hv h=>by
  rcases xG hv with ⟨i,t,rfl,rfl⟩ | ⟨x,t,rfl,rfl⟩
  ·exact wpAny_pyHash_int h
  ·exact wpAny_pyHash_str h
 eqBool:=fun hu hv h=>by
  rcases xG hu with ⟨i,t,rfl,rfl⟩ | ⟨x,t,rfl,rfl⟩
  ·rcases xG hv with ⟨j,u,rfl,rfl⟩ | ⟨y,u,rfl,rfl⟩
   ·rw[xC9] at h;exact wpAny_eqBool_int h
   ·rw[xH4] at h;exact SeqAt.EqAt.int_str i t y u _ _ _ _ h
  ·rcases xG hv with ⟨j,u,rfl,rfl⟩ | ⟨y,u,rfl,rfl⟩
   ·rw[xF9] at h;exact SeqAt.EqAt.str_int x t j u _ _ _ _ h
   ·rw[xC2] at h;exact wpAny_eqBool_str h
 «strs»:=fun k x t v h=>by
  rcases xG h with ⟨i,u,rfl,e⟩ | ⟨y,u,rfl,e⟩
  ·exact nomatch e
  ·injection e with e1 _
   subst e1
   cases v <;> rfl
inductive V where
 | non | bl (b:Bool) | int (i:Int) | str (x:Str) | byt (b:Array UInt8) | flt (b:UInt64) | ref (a:Addr) | ty (n:String)
 deriving DecidableEq
def RelV:V->Value->Prop
 | .non,u=>u=Value.none
 | .bl b,u=>u=Value.bool b
 | .int i,u=>∃t,u=Value.int i t
 | .str x,u=>∃t,u=Value.str x t
 | .byt b,u=>∃t,u=Value.bytes b t
 | .flt b,u=>∃t,u=Value.float b t
 | .ref a,u=>u=Value.ref a
 | .ty n,u=>u=Value.type n
abbrev Vals:List V->List Value->Prop:=Paired RelV
theorem Vals.length{xs:List V}{us:List Value}(r:Vals xs us):xs.length=us.length:=Paired.length r
theorem Vals.get:∀{xs:List V}{us:List Value}{i:Nat}{x:V},Vals xs us->xs[i]?=some x->∃u,us[i]?=some u/\RelV x u
 | _,_,_,_,.nil,e=>by simp at e
 | _,_,0,_,.cons r _,e=>by simp at e;subst e;exact⟨_,rfl,r⟩
 | _,_,i+1,x,.cons _ t,e=>by
  obtain⟨u,h1,h2⟩:=Vals.get (i:=i) (x:=x) t (by simpa using e)
  exact⟨u,by simpa using h1,h2⟩
theorem Vals.set{x:V}{u:Value}(r:RelV x u):∀{xs:List V}{us:List Value}(i:Nat),Vals xs us->Vals (xs.set i x) (us.set i u)
 | _,_,_,.nil=>.nil
 | _,_,0,.cons _ t=>.cons r t
 | _,_,i+1,.cons q t=>.cons q (Vals.set r i t)
theorem Vals.append:∀{xs ys:List V}{us ws:List Value},Vals xs us->Vals ys ws->Vals (xs++ys) (us++ws)
 | _,_,_,_,.nil,s=>s
 | _,_,_,_,.cons r t,s=>.cons r (Vals.append t s)
theorem Vals.take:∀{xs:List V}{us:List Value}(n:Nat),Vals xs us->Vals (xs.take n) (us.take n)
 | _,_,0,_=>.nil
 | _,_,_+1,.nil=>.nil
 | _,_,n+1,.cons r t=>.cons r (Vals.take n t)
theorem Vals.drop:∀{xs:List V}{us:List Value}(n:Nat),Vals xs us->Vals (xs.drop n) (us.drop n)
 | _,_,0,r=>r
 | _,_,_+1,.nil=>.nil
 | _,_,n+1,.cons _ t=>Vals.drop n t
def RelO:Option V->Option Value->Prop
 | some v,some u=>RelV v u
 | none,none=>True
 | _,_=>False
def KV{κ:Type}:List (κ×V)->List (κ×Value)->Prop:=Paired fun (p:κ×V) (q:κ×Value)=>p.1=q.1/\RelV p.2 q.2
def kV:Key->V
 | .inl i=>.int i
 | .inr x=>.str x
inductive HO where
 | lst (xs:List V)
 | tup (xs:List V)
 | dK (kvs:List (Key×V)) | dT (kvs:List (List Key×V))
 | set (S:Int->Bool) (n:Nat)
 | ins (C dx:Addr) (fs:List (Str×V))
 | own (x:Addr)
 | xd (fs:List (Str×V))
 | met (f x:Addr)
 | rng (lo hi:Int)
 | frz (o:Obj) (u:HO)
 | tbl (ps:Array Value)
 | ext (φ:Heap->Prop)
abbrev Hp:=Addr->Option HO
def upd(H:Hp)(a:Addr)(o:HO):Hp:=fun b=>if b=a then some o else H b
theorem zN{H:Hp}{a:Addr}{o:HO}:upd H a o a=some o:=by unfold upd;rw[Am rfl]
theorem zO{H:Hp}{a b:Addr}{o:HO}(h:b≠a):upd H a o b=H b:=by unfold upd;rw[AG h]
theorem yS8{H:Hp}{a:Addr}{o u:HO}:upd (upd H a o) a u=upd H a u:=by
 funext b;unfold upd;split <;> rfl
theorem xU{H:Hp}{a b:Addr}{o:HO}(h:H a=some o)(h':H b=none):a≠b:=by
 intro e;subst e;rw[h] at h';cases h'
def TupAt(h:Heap)(a:Addr)(its:Array Value):Prop:=∃o,h.get? a=some o/\o.cls=.type "tuple"/\(∃n,o.data=.seq its n)/\o.dict=none
theorem TupAt.tup{h:Heap}{a:Addr}{its:Array Value}(x:TupAt h a its):IsTup h a its:=by
 obtain⟨o,e,c,d,_⟩:=x
 exact⟨o,e,c,d⟩
theorem TupAt.new(h:Heap)(its:Array Value):TupAt (h.push { cls:=.type "tuple",data:=.seq its }) h.objs.size its:=⟨_,Az _ rfl,rfl,⟨_,rfl⟩,rfl⟩
section
variable (P:Program) (w:World)
def ObjOk(H:Hp)(h:Heap)(a:Addr):HO->Prop
 | .lst xs=>xs.length<=sizeLine/\∃(its:List Value) (n:Nat),Vals xs its/\h.get? a=some { cls:=.type "list",data:=.seq its.toArray n }
 | .tup xs=>xs.length<=sizeLine/\∃its:List Value,Vals xs its/\TupAt h a its.toArray
 | .dK kvs=>kvs.length<=sizeLine/\(a == sysModules)=false/\∃vs,KV kvs vs/\h.DictOf (mixKind P w) a vs
 | .dT kvs=>kvs.length<=sizeLine/\(a == sysModules)=false/\∃xs:List (List Key×Addr×Value),
   Paired (fun (p:List Key×V) (q:List Key×Addr×Value)=>p.1=q.1/\H q.2.1=some (.tup (p.1.map kV))/\RelV p.2 q.2.2) kvs xs /\
   ∃o es ep,h.get? a=some o/\o.ExactDict/\o.data=.dict es ep/\es.toList=xs.map (entryOfKey (tupleKind (mixKind P w)))/\(xs.map (·.1)).Nodup
 | .set S n=>h.SetOf (intKind P w) a S n
 | .ins C dx fs=>H dx=some (.own a)/\fs.length<=1000/\dx≠a/\h.get? a=some (PySem.W.instObj C dx) /\
   ∃mA,h.Ns1 dx mA/\(∀f,RelO (fs.lookup f) (mA f))/\PySem.Within mA (fs.map (·.1))
 | .own _=>∃o,h.get? a=some o
 | .xd fs=>∃mA,h.Ns1 a mA/\∀f,RelO (fs.lookup f) (mA f)
 | .rng lo hi=>∃t u v,h.get? a=some { cls:=.type "range",data:=.fields #[.int lo t,.int hi u,.int 1 v] }
 | .frz o u=>h.get? a=some o/\ObjOk H h a u
 | .tbl ps=>h.get? a=some { cls:=.none,data:=.fields ps }
 | .met f x=>h.get? a=some (PySem.W.methodObj (.ref f) (.ref x))
 | .ext φ=>φ h/\(∃o,h.get? a=some o)/\∀h1 h2:Heap,φ h1->(∀o,h1.get? a=some o->h2.get? a=some o)->φ h2
def HOk(H:Hp)(h:Heap):Prop:=∀a o,H a=some o->ObjOk P w H h a o
end
section
variable {P:Program}{w:World}{H H':Hp}{h h':Heap}{a:Addr}{o:HO}
theorem ObjOk.lt(x:ObjOk P w H h a o):a<h.objs.size:=by
 cases o with
 | lst xs=>obtain⟨_,_,_,_,e⟩:=x;exact Ao e
 | tup xs=>obtain⟨_,_,_,p⟩:=x;exact p.tup.lt
 | dK kvs=>obtain⟨_,_,_,_,o,_,_,e,_⟩:=x;exact Ao e
 | dT kvs=>obtain⟨_,_,_,_,o,_,_,e,_⟩:=x;exact Ao e
 | set S n=>obtain⟨o,_,_,_,e,_⟩:=x;exact Ao e
 | ins C dx fs=>obtain⟨_,_,_,e,_⟩:=x;exact Ao e
 | own y=>obtain⟨_,e⟩:=x;exact Ao e
 | xd fs=>obtain⟨_,⟨_,_,_,e,_⟩,_⟩:=x;exact Ao e
 | rng lo hi=>obtain⟨_,_,_,e⟩:=x;exact Ao e
 | frz ob u=>obtain⟨e,_⟩:=x;exact Ao e
 | tbl ps=>exact Ao (show h.get? a=some _ from x)
 | met f y=>exact Ao (show h.get? a=some _ from x)
 | ext φ=>obtain⟨_,⟨_,e⟩,_⟩:=x;exact Ao e
theorem Paired.mapP{α β:Type}{F G:α->β->Prop}:∀{l₁:List α}{l₂:List β},Paired F l₁ l₂->(∀a b,F a b->G a b)->Paired G l₁ l₂
 | _,_,.nil,_=>.nil
 | _,_,.cons r t,f=>.cons (f _ _ r) (Paired.mapP t f)
theorem ObjOk.stay(x:ObjOk P w H h a o)(k:∀b u,(b=a\/H b=some (.own a))->h.get? b=some u->h'.get? b=some u)
  (ho:∀b,H b=some (.own a)->H' b=some (.own a)) (ht:∀b xs,H b=some (.tup xs)->H' b=some (.tup xs)):ObjOk P w H' h' a o:=by
 induction o with
 | lst xs=>obtain⟨z,its,n,r,e⟩:=x;exact⟨z,its,n,r,k _ _ (.inl rfl) e⟩
 | tup xs=>obtain⟨z,its,r,ob,e,c⟩:=x;exact⟨z,its,r,ob,k _ _ (.inl rfl) e,c⟩
 | dK kvs=>obtain⟨z,y,vs,r,ob,es,ep,e,c⟩:=x;exact⟨z,y,vs,r,ob,es,ep,k _ _ (.inl rfl) e,c⟩
 | dT kvs =>
  obtain⟨z,y,xs,r,ob,es,ep,e,c⟩:=x
  exact⟨z,y,xs,Paired.mapP r fun p q z=>⟨z.1,ht _ _ z.2.1,z.2.2⟩,ob,es,ep,k _ _ (.inl rfl) e,c⟩
 | set S n=>obtain⟨ob,es,ep,t,e,c⟩:=x;exact⟨ob,es,ep,t,k _ _ (.inl rfl) e,c⟩
 | ins C dx fs =>
  obtain⟨d,z,ne,e,mA,⟨od,es,ep,e2,c⟩,r⟩:=x
  exact⟨ho _ d,z,ne,k _ _ (.inl rfl) e,mA,⟨od,es,ep,k _ _ (.inr d) e2,c⟩,r⟩
 | own y=>obtain⟨ob,e⟩:=x;exact⟨ob,k _ _ (.inl rfl) e⟩
 | xd fs=>obtain⟨mA,⟨od,es,ep,e,c⟩,r⟩:=x;exact⟨mA,⟨od,es,ep,k _ _ (.inl rfl) e,c⟩,r⟩
 | rng lo hi=>obtain⟨t,u,v,e⟩:=x;exact⟨t,u,v,k _ _ (.inl rfl) e⟩
 | frz ob u ih=>obtain⟨e,q⟩:=x;exact⟨k _ _ (.inl rfl) e,ih q⟩
 | tbl ps =>
  have e:h.get? a=some { cls:=.none,data:=.fields ps }:=x
  show h'.get? a=some { cls:=.none,data:=.fields ps }
  exact k a _ (.inl rfl) e
 | met f y =>
  have e:h.get? a=some (PySem.W.methodObj (.ref f) (.ref y)):=x
  show h'.get? a=some (PySem.W.methodObj (.ref f) (.ref y))
  exact k a _ (.inl rfl) e
 | ext φ=>obtain⟨p,⟨o,e⟩,st⟩:=x;exact⟨st _ _ p fun o q=>k _ _ (.inl rfl) q,⟨o,k _ _ (.inl rfl) e⟩,st⟩
theorem HOk.lt(x:HOk P w H h)(e:H a=some o):a<h.objs.size:=(x a o e).lt
theorem HOk.fresh(x:HOk P w H h)(e:h.objs.size<=a):H a=none:=by
 cases q:H a with
 | none=>rfl
 | some u=>exact absurd (Ax (x.lt q) e) (Cm _)
theorem HOk.kept(x:HOk P w H h)(k:∀b u,h.get? b=some u->h'.get? b=some u):HOk P w H h':=fun a o e =>
 (x a o e).stay (fun b u _ q=>k b u q) (fun _ q=>q) fun _ _ q=>q
theorem HOk.laid(x:HOk P w H h)(k:∀b u,h.get? b=some u->h'.get? b=some u)(hp:h.objs.size<=a)(new:ObjOk P w (upd H a o) h' a o):HOk P w (upd H a o) h':=fun b u e=>by
 have hn:=x.fresh hp
 by_cases hb:b=a
 ·subst hb;rw[zN] at e;cases e;exact new
 ·rw[zO hb] at e
  exact (x b u e).stay (fun c v _ q=>k c v q) (fun c q=>by rw[zO (xU q hn)];exact q) fun c xs q=>by rw[zO (xU q hn)];exact q
end
def Rd(H:Hp)(a:Addr)(u:HO):Prop:=H a=some u\/∃o,H a=some (.frz o u)
theorem Rd.ok{P:Program}{w:World}{H:Hp}{h:Heap}{a:Addr}{u:HO}(r:Rd H a u)(x:HOk P w H h):ObjOk P w H h a u:=by
 rcases r with r | ⟨o,r⟩
 ·exact x a u r
 ·obtain⟨_,q⟩:=x a _ r
  exact q
def Mut:Option HO->Prop
 | some (.lst _)=>True
 | some (.dK _)=>True
 | some (.dT _)=>True
 | some (.set _ _)=>True
 | some (.ins _ _ _)=>True
 | some (.ext _)=>True
 | _=>False
section
variable {P:Program}{w:World}{H:Hp}{h h':Heap}{x e:Addr}{o':HO}
theorem HOk.write(ok:HOk P w H h)(mu:Mut (H x))(he:e=x\/H e=some (.own x))(k:∀b u,b≠e->h.get? b=some u->h'.get? b=some u)(heo:∃u,h'.get? e=some u)
  (new:ObjOk P w (upd H x o') h' x o'):HOk P w (upd H x o') h':=fun b u q=>by
 have nown:∀c y,H c=some (.own y)->c≠x:=fun c y r z=>by subst z;rw[r] at mu;exact mu
 have ntup:∀c xs,H c=some (.tup xs)->c≠x:=fun c xs r z=>by subst z;rw[r] at mu;exact mu
 by_cases hb:b=x
 ·subst hb;rw[zN] at q;cases q;exact new
 ·rw[zO hb] at q
  by_cases hbe:b=e
  ·have q':H b=some (.own x):=by
    rcases he with z | z
    ·exact absurd (hbe.trans z) hb
    ·rw[hbe];exact z
   rw[q] at q';cases q'
   obtain⟨v,hv⟩:=heo
   exact⟨v,by rw[hbe];exact hv⟩
  ·refine (ok b u q).stay (fun c v hc r=>k c v ?_ r) (fun c r=>by rw[zO (nown c b r)];exact r) fun c xs r=>by rw[zO (ntup c xs r)];exact r
   rcases hc with rfl | hc
   ·exact hbe
   ·rintro rfl
    rcases he with z | z
    ·exact nown c b hc z
    ·rw[hc] at z;cases z;exact hb rfl
end
structure Un(fs ex:List Addr)(H H':Hp)(h h':Heap):Prop where
 keep:∀b o,h.get? b=some o->H b=none->b∉fs->b∉ex->h'.get? b=some o
 slot:∀b o,h.get? b=some o->H b=none->b∈fs->b∉ex->∃sl,h'.get? b=some { o with slots:=sl }
 free:∀b o,h.get? b=some o->H b=none->b∉ex->H' b=none
 there:∀b o,h.get? b=some o->b∉ex->∃o',h'.get? b=some o'
 tups:∀b xs,H b=some (.tup xs)->H' b=some (.tup xs)
 frzs:∀b o u,H b=some (.frz o u)->H' b=some (.frz o u)
 tbls:∀b ps,H b=some (.tbl ps)->∃more,H' b=some (.tbl (ps++more))
section
variable {fs fs' ex ex':List Addr}{H H1 H2:Hp}{h h1 h2 h':Heap}{a x e:Addr}{o:HO}
theorem Un.any(u:Un fs ex H H1 h h1){b:Addr}{ob:Obj}(q:h.get? b=some ob)(n:H b=none)(hx:b∉ex):∃sl,h1.get? b=some { ob with slots:=sl }:=by
 by_cases hb:b∈fs
 ·exact u.slot b ob q n hb hx
 ·exact⟨ob.slots,u.keep b ob q n hb hx⟩
theorem Un.kept(k:∀b u,h.get? b=some u->h'.get? b=some u):Un fs ex H H h h' :=
 ⟨fun b ob q _ _ _=>k b ob q,fun b ob q _ _ _=>⟨ob.slots,k b ob q⟩,fun _ _ _ n _=>n,fun b ob q _=>⟨ob,k b ob q⟩,fun _ _ q=>q,fun _ _ _ q=>q,fun _ ps q=>⟨#[],by rw[q];simp⟩⟩
theorem Un.refl:Un fs ex H H h h:=Un.kept fun _ _ q=>q
theorem Un.laid(k:∀b u,h.get? b=some u->h'.get? b=some u)(hp:h.objs.size<=a)(hn:H a=none):Un fs ex H (upd H a o) h h' where
 keep:=fun b u q _ _ _=>k b u q
 slot:=fun b u q _ _ _=>⟨u.slots,k b u q⟩
 free:=fun b u q n _=>by rw[zO (AL (Ax (Ao q) hp))];exact n
 there:=fun b u q _=>⟨u,k b u q⟩
 tups:=fun b xs q=>by rw[zO (xU q hn)];exact q
 frzs:=fun b u xs q=>by rw[zO (xU q hn)];exact q
 tbls:=fun b ps q=>⟨#[],by rw[zO (xU q hn),q];simp⟩
theorem Un.write(mu:Mut (H x))(he:e=x\/H e=some (.own x))(k:∀b u,b≠e->h.get? b=some u->h'.get? b=some u)(heo:∃u,h'.get? e=some u):Un fs ex H (upd H x o) h h':=by
 have hx:∀b,H b=none->b≠x:=fun b n z=>by subst z;rw[n] at mu;exact mu
 have hb:∀b,H b=none->b≠e:=fun b n z=>by
  subst z
  rcases he with r | r
  ·exact hx b n r
  ·rw[n] at r;cases r
 have hm:∀b u,H b=some u->¬Mut (some u)->b≠x:=fun b u q nm z=>by subst z;rw[q] at mu;exact nm mu
 refine⟨fun b u q n _ _=>k b u (hb b n) q,fun b u q n _ _=>⟨u.slots,k b u (hb b n) q⟩,fun b u q n _=>by rw[zO (hx b n)];exact n,fun b u q _ => ?_,
  fun b xs q=>by rw[zO (hm b _ q fun z=>z)];exact q,fun b u xs q=>by rw[zO (hm b _ q fun z=>z)];exact q,fun b ps q=>⟨#[],by rw[zO (hm b _ q fun z=>z),q];simp⟩⟩
 by_cases hbe:b=e
 ·subst hbe;exact heo
 ·exact⟨u,k b u hbe q⟩
end
def trk(h:Heap)(H:Hp):List Addr:=(List.range h.objs.size).filter fun a=>(H a).isSome
def hidT(h:Heap)(H:Hp):Heap:=PySem.W.hideAll h (trk h H)
theorem yE4(h:Heap)(H:Hp):(hidT h H).objs.size=h.objs.size:=PySem.W.hideAll_size _ _
theorem xW4{h:Heap}{H:Hp}{b:Addr}{o:Obj}(e:h.get? b=some o)(n:H b=none):(hidT h H).get? b=some o :=
 Cn _ e fun hm=>by
  have q:(H b).isSome=true:=(Cg.mp hm).2
  rw[n] at q;simp at q
theorem xO3{h:Heap}{H:Hp}{b:Addr}{o:Obj}(e:(hidT h H).get? b=some o):h.get? b=some o/\H b=none:=by
 have e':h.get? b=some o:=CS (trk h H) e
 refine⟨e',?_⟩
 cases q:H b with
 | none=>rfl
 | some x =>
  have hm:b∈trk h H:=Cg.mpr ⟨AA.mpr (Ao e'),by simp[q]⟩
  have z:(hidT h H).get? b=none:=CD (trk h H) hm
  rw[z] at e;cases e
def allNews(g h:Heap)(L:Addr):List (Addr×Obj):=(List.range h.objs.size).filterMap fun a=>if a=L\/(g.get? a).isSome=true then none else (h.get? a).map fun o=>(a,o)
def rest(g h:Heap)(L d:Addr):List (Addr×Obj):=(allNews g h L).filter fun p=>decide (p.1≠d)
structure Mod(K:KFr)(mg:Str->Option Value)(base:Heap):Prop where
 kin:K.In base
 glob:base.Ns mainGlobals mg
 blt:∃mb,base.Ns builtinsNs mb/\∀x:Str,x ≠ "__name__"->mb x=bootBuiltins x
 nolimit:base.NoLimit
structure Cx where
 prog:Program
 w:World
 K:KFr
 mg:Str->Option Value
 base:Heap
 A:Around
 N:List Str
 s₀:Shared
 H₀:Hp
 env:Env
 outer:List Env
 stack:List Env
 ex:List Addr
 fn:Str->Bool
 calm:Bool
 pn:List (Addr×Obj)
 xe:Value->Shared->Prop
def frs(l:List Env):List Addr:=l.filterMap (·.frame)
abbrev Cx.fs(X:Cx):List Addr:=frs X.outer
def Vis(sc:Scope)(x:Str):Prop:=sc.names.lookup x=some .local \/ sc.names.lookup x=some .cell\/sc.names.lookup x=some .free
def Loc(sc:Scope)(x:Str):Prop:=sc.names.lookup x=some .local \/ sc.names.lookup x=some .cell
def Look(env:Env)(h:Heap)(m:Str->Option Value)(x:Str)(u:Value):Prop :=
 (env.kindOf x=some .local/\m x=some u)\/((env.kindOf x=some .cell\/env.kindOf x=some .free)/\∃c,env.cells.lookup x=some c/\h.IsCell c (some u))
structure Cx.Ok(X:Cx):Prop where
 mod:Mod X.K X.mg X.base
 kind:X.env.scope.kind=.function
 glob:X.env.globals=mainGlobals
 blt:X.env.builtins=builtinsNs
 above:X.s₀.heap.objs.size<=X.env.locals
 inj:∀x y c,X.env.cells.lookup x=some c->X.env.cells.lookup y=some c->x=y
 has:∀x,(X.env.kindOf x=some .cell\/X.env.kindOf x=some .free)->∃c,X.env.cells.lookup x=some c
 cab:∀x c,X.fn x=true->X.env.cells.lookup x=some c->X.s₀.heap.objs.size<=c
 hd:X.calm=true->X.A.handled=none
 frames:X.A.frames=some X.stack
 stk:X.stack=X.outer\/(X.stack=X.env::X.outer/\X.env.frame=some X.env.locals)
 exf:∀b∈X.ex,b≠X.env.locals/\∀x c,X.env.cells.lookup x=some c->c≠b
 bs:∀b o,X.base.get? b=some o->X.s₀.heap.get? b=some o/\X.H₀ b=none
 bsz:X.base.objs.size<=X.s₀.heap.objs.size
 noex:∀b o,X.base.get? b=some o->b∉X.ex
 exfs:∀b∈X.ex,b∉X.fs
 funs:X.s₀.heap.FunFrames X.base X.outer
 frf:∀b∈X.fs,X.H₀ b=none
structure Inv(X:Cx)(DA:List (Addr×Obj))(σ:List (Option V))(H:Hp)(s:Shared):Prop where
 ok:X.Ok
 os:s.os=X.s₀.os
 bare:AllBare s.gens
 base:Un X.fs X.ex X.H₀ H X.s₀.heap s.heap
 loc:∃m,s.heap.Ns X.env.locals m/\∀(i:Nat) (x:Str) (v:V),X.N[i]?=some x->σ[i]?=some (some v)->Vis X.env.scope x->∃u,RelV v u/\Look X.env s.heap m x u
 cell:∀x c,X.env.cells.lookup x=some c->∃v,s.heap.IsCell c v
 free:H X.env.locals=none
 freeC:∀x c,X.env.cells.lookup x=some c->H c=none
 pin:∀p∈X.pn++DA,s.heap.get? p.1=some p.2/\H p.1=none/\p.1≠X.env.locals/\p.1∉X.fs/\∀v,p.2.data ≠ .cell v
 hok:HOk X.prog X.w H s.heap
 len:σ.length=X.N.length
section
variable {X:Cx}{DA:List (Addr×Obj)}{σ:List (Option V)}{H H':Hp}{s:Shared}{h':Heap}
theorem Cx.Ok.nofr(ok:X.Ok){b:Addr}{o:Obj}(e:X.base.get? b=some o):b∉X.fs:=fun hb=>by
 have:=(ok.funs.mem hb).1
 rw[e] at this;cases this
theorem Inv.bs(I:Inv X DA σ H s):∀b o,X.base.get? b=some o->s.heap.get? b=some o/\H b=none:=fun b o e =>
 ⟨I.base.keep b o (I.ok.bs b o e).1 (I.ok.bs b o e).2 (I.ok.nofr e) (I.ok.noex b o e),I.base.free b o (I.ok.bs b o e).1 (I.ok.bs b o e).2 (I.ok.noex b o e)⟩
theorem Inv.bk(I:Inv X DA σ H s):∀b o,X.base.get? b=some o->s.heap.get? b=some o:=fun b o e=>(I.bs b o e).1
theorem Inv.mod(I:Inv X DA σ H s):Mod X.K X.mg X.base:=I.ok.mod
theorem Inv.kIn(I:Inv X DA σ H s):X.K.In s.heap:=I.ok.mod.kin.keeps I.bk
theorem Inv.lt(I:Inv X DA σ H s):X.env.locals<s.heap.objs.size:=let ⟨_,hn,_⟩:=I.loc;hn.lt
theorem Inv.sz(I:Inv X DA σ H s):X.s₀.heap.objs.size<=s.heap.objs.size:=Ba I.ok.above (Bw I.lt)
theorem Inv.nofs(I:Inv X DA σ H s){a:Addr}(h:s.heap.objs.size<=a):a∉X.fs:=fun hb=>by
 obtain⟨_,o,ho,_⟩:=I.ok.funs.mem hb
 exact absurd (Ax (Ao ho) (Ba I.sz h)) (Cm _)
theorem Inv.cne(I:Inv X DA σ H s):∀x c,X.env.cells.lookup x=some c->c≠X.env.locals:=fun x c e z=>by
 obtain⟨v,o,ho,hd⟩:=I.cell x c e
 obtain⟨m,⟨o',es,ep,ho',hd',_⟩,_⟩:=I.loc
 rw[z,ho'] at ho;cases ho;rw[hd'] at hd;cases hd
theorem Inv.funs(I:Inv X DA σ H s):s.heap.FunFrames X.base X.outer:=by
 have all:∀(l:List Env),(∀b∈frs l,b∈X.fs)->X.s₀.heap.FunFrames X.base l->s.heap.FunFrames X.base l:=by
  intro l
  induction l with
  | nil=>intro _ _;trivial
  | cons env r ih =>
   intro hs hl
   obtain⟨hk,⟨L,o,hf,hn,ho,hd⟩,hr⟩:=hl
   have hL:L∈X.fs:=hs L (by unfold frs;rw[CM,hf];exact Ac)
   obtain⟨sl,e⟩:=I.base.slot L o ho (I.ok.frf L hL) hL fun z=>I.ok.exfs L z hL
   exact⟨hk,⟨L,_,hf,hn,e,hd⟩,ih (fun b hb=>hs b (by unfold frs;rw[CM,hf];exact Ae _ hb)) hr⟩
 exact all X.outer (fun _ hb=>hb) I.ok.funs
theorem Inv.stack(I:Inv X DA σ H s):s.heap.FunFrames X.base X.stack:=by
 rcases I.ok.stk with e | ⟨e,hf⟩
 ·rw[e];exact I.funs
 ·rw[e]
  obtain⟨m,hn,_⟩:=I.loc
  refine .cons (by rw[I.ok.kind];decide) hf hn ?_ I.funs
  exact CF (Ba I.ok.bsz I.ok.above)
theorem Inv.stkSub(I:Inv X DA σ H s):∀b∈frs X.stack,b∈X.env.locals::X.fs:=fun b hb=>by
 rcases I.ok.stk with e | ⟨e,hf⟩
 ·rw[e] at hb;exact Ae _ hb
 ·rw[e] at hb
  unfold frs at hb
  rw[CM,hf] at hb
  exact hb
theorem Inv.stkFree(I:Inv X DA σ H s):∀b∈frs X.stack,H b=none:=fun b hb=>by
 rcases Aw.mp (I.stkSub b hb) with e | hb
 ·rw[e];exact I.free
 ·obtain⟨_,o,ho,_⟩:=I.ok.funs.mem hb
  exact I.base.free b o ho (I.ok.frf b hb) fun z=>I.ok.exfs b z hb
theorem Inv.step{g':Array GenState}{t':Nat}{d':Drawn}{ch:List Addr}(I:Inv X DA σ H s)
  (hch:∀b∈ch,(b∈X.ex\/X.s₀.heap.objs.size<=b)/\b≠X.env.locals/\(∀x c,X.env.cells.lookup x=some c->c≠b)/\∀p∈X.pn++DA,p.1≠b)
  (keep:∀b o,b≠X.env.locals->b∉X.fs->b∉ch->s.heap.get? b=some o->H b=none->h'.get? b=some o)
  (slot:∀b o,b≠X.env.locals->b∈X.fs->b∉ch->s.heap.get? b=some o->H b=none->∃sl,h'.get? b=some { o with slots:=sl }) (free:∀b o,b∉ch->s.heap.get? b=some o->H b=none->H' b=none)
  (there:∀b o,b∉ch->s.heap.get? b=some o->∃o',h'.get? b=some o')
  (tups:∀b xs,H b=some (.tup xs)->H' b=some (.tup xs)) (frzs:∀b o u,H b=some (.frz o u)->H' b=some (.frz o u)) (tbls:∀b ps,H b=some (.tbl ps)->∃more,H' b=some (.tbl (ps++more)))
  (ns:∀m,s.heap.Ns X.env.locals m->h'.Ns X.env.locals m) (hok:HOk X.prog X.w H' h') (hg:AllBare g') :
  Inv X DA σ H' { s with heap:=h',gens:=g',drawn:=d',toks:=t' }:=by
 have neL:∀b o,X.s₀.heap.get? b=some o->b≠X.env.locals:=fun b o e=>AL (Ax (Ao e) I.ok.above)
 have neC:∀b o,X.s₀.heap.get? b=some o->b∉X.ex->b∉ch:=fun b o e hx hb=>by
  rcases (hch b hb).1 with z | z
  ·exact hx z
  ·exact absurd (Ax (Ao e) z) (Cm _)
 have cellK:∀x c,X.env.cells.lookup x=some c->∀v,s.heap.IsCell c v->h'.IsCell c v:=fun x c e v ⟨o,ho,hd⟩=>by
  have nch:c∉ch:=fun z=>(hch c z).2.2.1 x c e rfl
  by_cases hc:c∈X.fs
  ·obtain⟨sl,q⟩:=slot c o (I.cne x c e) hc nch ho (I.freeC x c e)
   exact⟨_,q,hd⟩
  ·exact⟨o,keep c o (I.cne x c e) hc nch ho (I.freeC x c e),hd⟩
 refine⟨I.ok,I.os,hg,⟨fun b o e n hb hx => ?_,fun b o e n hb hx => ?_,fun b o e n hx => ?_,fun b o e hx => ?_,fun b xs e=>tups b xs (I.base.tups b xs e),fun b o xs e=>frzs b o xs (I.base.frzs b o xs e),fun b ps e => ?_⟩,?_,fun x c e => ?_,?_,fun x c e => ?_,fun p hp => ?_,hok,I.len⟩
 ·exact keep b o (neL b o e) hb (neC b o e hx) (I.base.keep b o e n hb hx) (I.base.free b o e n hx)
 ·obtain⟨sl,e1⟩:=I.base.slot b o e n hb hx
  obtain⟨sl',e2⟩:=slot b _ (neL b o e) hb (neC b o e hx) e1 (I.base.free b o e n hx)
  exact⟨sl',e2⟩
 ·obtain⟨o',e1⟩:=I.base.there b o e hx
  exact free b o' (neC b o e hx) e1 (I.base.free b o e n hx)
 ·obtain⟨o',e1⟩:=I.base.there b o e hx
  exact there b o' (neC b o e hx) e1
 ·obtain⟨m1,e1⟩:=I.base.tbls b ps e
  obtain⟨m2,e2⟩:=tbls b _ e1
  exact⟨m1++m2,by rw[e2,Array.append_assoc]⟩
 ·obtain⟨m,hn,hl⟩:=I.loc
  refine⟨m,ns m hn,fun i x v e1 e2 e3 => ?_⟩
  obtain⟨u,r,l⟩:=hl i x v e1 e2 e3
  refine⟨u,r,?_⟩
  rcases l with l | ⟨k,c,e,z⟩
  ·exact .inl l
  ·exact .inr ⟨k,c,e,cellK x c e _ z⟩
 ·obtain⟨v,z⟩:=I.cell x c e
  exact⟨v,cellK x c e v z⟩
 ·obtain⟨m,⟨o,_,_,ho,_⟩,_⟩:=I.loc
  exact free _ o (fun z=>(hch _ z).2.1 rfl) ho I.free
 ·obtain⟨v,o,ho,hd⟩:=I.cell x c e
  exact free c o (fun z=>(hch c z).2.2.1 x c e rfl) ho (I.freeC x c e)
 ·obtain⟨e,n,ne,nf,d⟩:=I.pin p hp
  have nch:p.1∉ch:=fun z=>(hch p.1 z).2.2.2 p hp rfl
  exact⟨keep p.1 p.2 ne nf nch e n,free p.1 p.2 nch e n,ne,nf,d⟩
theorem Inv.un{t':Nat}(I:Inv X DA σ H s)(u:Un X.fs [] H H' s.heap h')(hok:HOk X.prog X.w H' h'):Inv X DA σ H' { s with heap:=h',toks:=t' }:=by
 obtain⟨m,⟨o,es,ep,ho,r⟩,_⟩:=id I.loc
 obtain⟨sl,hL⟩:=u.any ho I.free (by simp)
 exact I.step (g':=s.gens) (d':=s.drawn) (ch:=[]) (fun _ z=>nomatch z) (fun b o _ hb _ e n=>u.keep b o e n hb (by simp)) (fun b o _ hb _ e n=>u.slot b o e n hb (by simp)) (fun b o _ e n=>u.free b o e n (by simp)) (fun b o _ e=>u.there b o e (by simp)) u.tups u.frzs u.tbls (fun m' hm=>by
  obtain⟨o',es',ep',ho',r'⟩:=hm
  rw[ho] at ho';cases ho'
  exact⟨_,es',ep',hL,r'⟩) hok I.bare
theorem Inv.call{g':Array GenState}{t':Nat}{d':Drawn}{ch:List Addr}(I:Inv X DA σ H s)(u:Un (frs X.stack) ch H H' s.heap h')(hok:HOk X.prog X.w H' h')(hg:AllBare g')
  (hch:∀b∈ch,(b∈X.ex\/X.s₀.heap.objs.size<=b)/\b≠X.env.locals/\(∀x c,X.env.cells.lookup x=some c->c≠b)/\∀p∈X.pn++DA,p.1≠b) :
  Inv X DA σ H' { s with heap:=h',gens:=g',drawn:=d',toks:=t' }:=by
 obtain⟨m,⟨o,es,ep,ho,r⟩,_⟩:=id I.loc
 obtain⟨sl,hL⟩:=u.any ho I.free fun z=>(hch _ z).2.1 rfl
 exact I.step (ch:=ch) hch (fun b o hL hb hc e n=>u.keep b o e n (fun z=>(Aw.mp (I.stkSub b z)).elim hL hb) hc) (fun b o _ _ hc e n=>u.any e n hc) (fun b o hc e n=>u.free b o e n hc) (fun b o hc e=>u.there b o e hc) u.tups u.frzs u.tbls (fun m' hm=>by
  obtain⟨o',es',ep',ho',r'⟩:=hm
  rw[ho] at ho';cases ho'
  exact⟨_,es',ep',hL,r'⟩) hok hg
theorem Inv.turned{t':Nat}{it:Addr}(I:Inv X DA σ H s)(k:∀b o,b≠it->s.heap.get? b=some o->h'.get? b=some o)(hn:H it=none)(hL:it≠X.env.locals)
  (h1:it∈X.ex\/X.s₀.heap.objs.size<=it) (h2:∀x c,X.env.cells.lookup x=some c->c≠it) (h3:∀p∈X.pn++DA,p.1≠it):Inv X DA σ H { s with heap:=h',toks:=t' }:=by
 have nit:∀b u,H b=some u->b≠it:=fun b u e z=>by rw[z,hn] at e;cases e
 refine I.step (g':=s.gens) (d':=s.drawn) (ch:=[it]) (fun b hb => ?_) (fun b o _ _ hc e _=>k b o (fun z=>hc (by simp[z])) e) (fun b o _ _ hc e _=>⟨o.slots,k b o (fun z=>hc (by simp[z])) e⟩) (fun _ _ _ _ n=>n)
  (fun b o hc e=>⟨o,k b o (fun z=>hc (by simp[z])) e⟩) (fun _ _ e=>e) (fun _ _ _ e=>e) (fun b ps e=>⟨#[],by rw[e];simp⟩) (fun m hm => ?_) (fun b u e => ?_) I.bare
 ·have e:b=it:=by simpa using hb
  subst e
  exact⟨h1,hL,h2,h3⟩
 ·obtain⟨o,es,ep,ho,r⟩:=hm
  exact⟨o,es,ep,k _ o (Bd hL) ho,r⟩
 ·refine (I.hok b u e).stay (fun c v hc q=>k c v ?_ q) (fun _ q=>q) fun _ _ q=>q
  rcases hc with z | z
  ·rw[z];exact nit b u e
  ·exact nit c _ z
theorem Inv.tok(I:Inv X DA σ H s)(t:Nat):Inv X DA σ H { s with toks:=t }:=I.un (h':=s.heap) (t':=t) Un.refl I.hok
theorem Inv.kept{t':Nat}(I:Inv X DA σ H s)(k:∀b u,s.heap.get? b=some u->h'.get? b=some u):Inv X DA σ H { s with heap:=h',toks:=t' }:=I.un (Un.kept k) (I.hok.kept k)
theorem Inv.laid{a:Addr}{o:HO}{t':Nat}(I:Inv X DA σ H s)(k:∀b u,s.heap.get? b=some u->h'.get? b=some u)(hp:s.heap.objs.size<=a)(new:ObjOk X.prog X.w (upd H a o) h' a o) :
  Inv X DA σ (upd H a o) { s with heap:=h',toks:=t' }:=I.un (Un.laid k hp (I.hok.fresh hp)) (I.hok.laid k hp new)
theorem Inv.write{x e:Addr}{o:HO}{t':Nat}(I:Inv X DA σ H s)(mu:Mut (H x))(he:e=x\/H e=some (.own x))(k:∀b u,b≠e->s.heap.get? b=some u->h'.get? b=some u)(heo:∃u,h'.get? e=some u)
  (new:ObjOk X.prog X.w (upd H x o) h' x o):Inv X DA σ (upd H x o) { s with heap:=h',toks:=t' }:=I.un (Un.write mu he k heo) (I.hok.write mu he k heo new)
theorem Inv.xZ{pins':List (Addr×Obj)}(I:Inv X DA σ H s)(h:∀p∈pins',s.heap.get? p.1=some p.2/\H p.1=none/\p.1≠X.env.locals/\p.1∉X.fs/\∀v,p.2.data ≠ .cell v):Inv X pins' σ H s :=
 ⟨I.ok,I.os,I.bare,I.base,I.loc,I.cell,I.free,I.freeC,fun p hp=>(AE.mp hp).elim (fun z=>I.pin p (AM _ z)) (h p),I.hok,I.len⟩
theorem zC1{N:List Str}(hN:N.Nodup){i j:Nat}{x:Str}(a:N[i]?=some x)(b:N[j]?=some x):i=j:=by
 obtain⟨h1,e1⟩:=Aj.mp a
 obtain⟨h2,e2⟩:=Aj.mp b
 exact (List.getElem_inj hN).mp (e1.trans e2.symm)
theorem yC5{M:Model}{A:Around}{E:Value->Shared->Prop}{i:Nat}{x:Str}{v:V}{u:Value}{Q:Unit->Shared->Prop}(I:Inv X DA σ H s)(hN:X.N.Nodup)(hi:X.N[i]?=some x)(hx:Loc X.env.scope x)(r:RelV v u)
  (h:∀s',Inv X DA (σ.set i (some v)) H s'->(∃a,Heap.SameBut a s.heap s'.heap/\(a=X.env.locals\/X.env.cells.lookup x=some a))->Q () s') (hf:autoParam (X.fn x=true\/X.env.scope.names.lookup x=some .local) Dw):wpAny M A (storeName X.env x u) Q E s:=by
 obtain⟨m,hn,hl⟩:=id I.loc
 have hcls:(X.env.scope.kind == .class || (X.env.scope.kind == .module&&X.env.locals != X.env.globals))=false:=by rw[I.ok.kind];rfl
 have hiσ:i<σ.length:=by rw[I.len];exact (Aj.mp hi).1
 have cne:=I.cne
 have tracked:∀{a:Addr}{h':Heap},(∃o,s.heap.get? a=some o/\H a=none)->Heap.SameBut a s.heap h'->HOk X.prog X.w H h':=fun {a h'} ha hs b ob e=>by
  obtain⟨_,_,hfree⟩:=ha
  refine (I.hok b ob e).stay (fun c w' hc q=>(hs.2 c ?_).trans q) (fun _ q=>q) fun _ _ q=>q
  rintro rfl
  rcases hc with rfl | hc
  ·rw[hfree] at e;cases e
  ·rw[hfree] at hc;cases hc
 rcases hx with hk | hk
 ·refine wpAny_storeName_local hk hn (fun h' hn' hs => ?_) hcls
  obtain⟨oL,_,_,hoL,_⟩:=id hn
  refine h _ ⟨I.ok,I.os,I.bare,⟨fun b o e n hb hx => ?_,fun b o e n hb hx => ?_,I.base.free,fun b o e hx => ?_,I.base.tups,I.base.frzs,I.base.tbls⟩,⟨_,hn',fun j y v' e1 e2 e3 => ?_⟩,fun y c e => ?_,I.free,I.freeC,fun p hp => ?_,tracked ⟨oL,hoL,I.free⟩ hs,by simpa using I.len⟩ ⟨_,hs,.inl rfl⟩
  ·exact (hs.2 b (AL (Ax (Ao e) I.ok.above))).trans (I.base.keep b o e n hb hx)
  ·obtain⟨sl,e1⟩:=I.base.slot b o e n hb hx
   exact⟨sl,(hs.2 b (AL (Ax (Ao e) I.ok.above))).trans e1⟩
  ·obtain⟨o',e1⟩:=I.base.there b o e hx
   exact⟨o',(hs.2 b (AL (Ax (Ao e) I.ok.above))).trans e1⟩
  ·by_cases hj:j=i
   ·subst hj
    rw[hi] at e1;cases e1
    rw[Bx hiσ] at e2
    cases e2
    exact⟨u,r,.inl ⟨hk,by simp⟩⟩
   ·rw[AU (Bd hj)] at e2
    obtain⟨u',r',q⟩:=hl j y v' e1 e2 e3
    refine⟨u',r',?_⟩
    rcases q with ⟨k,e⟩ | ⟨k,c,e,z⟩
    ·refine .inl ⟨k,?_⟩
     have:y≠x:=fun e=>hj (zC1 hN e1 (e▸hi))
     simp[this,e]
    ·exact .inr ⟨k,c,e,z.sameBut hs (cne y c e)⟩
  ·obtain⟨w',z⟩:=I.cell y c e
   exact⟨w',z.sameBut hs (cne y c e)⟩
  ·obtain⟨e,n,ne,nf,d⟩:=I.pin p hp
   exact⟨(hs.2 p.1 ne).trans e,n,ne,nf,d⟩
 ·have hfn:X.fn x=true:=by
   rcases hf with z | z
   ·exact z
   ·rw[z] at hk;cases hk
  obtain⟨c,hc⟩:=I.ok.has x (.inl hk)
  obtain⟨w',z⟩:=I.cell x c hc
  refine wpAny_storeName_cell I.ok.kind hk hc z (fun h' hc' hs => ?_)
  obtain⟨oc,hoc,hocd⟩:=id z
  refine h { s with heap:=h' } ⟨I.ok,I.os,I.bare,⟨fun b o e n hb hx => ?_,fun b o e n hb hx => ?_,I.base.free,fun b o e hx => ?_,I.base.tups,I.base.frzs,I.base.tbls⟩,⟨m,hn.sameBut hs (Bd (cne x c hc)),fun j y v' e1 e2 e3 => ?_⟩,fun y c' e => ?_,I.free,I.freeC,fun p hp => ?_,tracked ⟨oc,hoc,I.freeC x c hc⟩ hs,by simpa using I.len⟩ ⟨c,hs,.inr hc⟩
  ·exact (hs.2 b (AL (Ax (Ao e) (I.ok.cab x c hfn hc)))).trans (I.base.keep b o e n hb hx)
  ·obtain⟨sl,e1⟩:=I.base.slot b o e n hb hx
   exact⟨sl,(hs.2 b (AL (Ax (Ao e) (I.ok.cab x c hfn hc)))).trans e1⟩
  ·obtain⟨o',e1⟩:=I.base.there b o e hx
   exact⟨o',(hs.2 b (AL (Ax (Ao e) (I.ok.cab x c hfn hc)))).trans e1⟩
  ·by_cases hj:j=i
   ·subst hj
    rw[hi] at e1;cases e1
    rw[Bx hiσ] at e2
    cases e2
    exact⟨u,r,.inr ⟨.inl hk,c,hc,hc'⟩⟩
   ·rw[AU (Bd hj)] at e2
    obtain⟨u',r',q⟩:=hl j y v' e1 e2 e3
    refine⟨u',r',?_⟩
    rcases q with q | ⟨k,c',e,z'⟩
    ·exact .inl q
    ·refine .inr ⟨k,c',e,z'.sameBut hs ?_⟩
     rintro rfl
     exact hj (zC1 hN e1 (I.ok.inj _ _ _ e hc▸hi))
  ·by_cases hcc:c'=c
   ·subst hcc;exact⟨_,hc'⟩
   ·obtain⟨w2,z2⟩:=I.cell y c' e
    exact⟨w2,z2.sameBut hs hcc⟩
  ·obtain⟨e,n,ne,nf,d⟩:=I.pin p hp
   refine⟨(hs.2 p.1 ?_).trans e,n,ne,nf,d⟩
   intro q
   rw[q,hoc] at e
   have q':oc=p.2:=AX e
   exact d w' (by rw[<-q'];exact hocd)
theorem fV{M:Model}{A:Around}{E:Value->Shared->Prop}{i:Nat}{x:Str}{v:V}{u:Value}{Q:Unit->Shared->Prop}(I:Inv X DA σ H s)(hN:X.N.Nodup)(hi:X.N[i]?=some x)(hx:Loc X.env.scope x)(r:RelV v u)
  (h:∀s',Inv X DA (σ.set i (some v)) H s'->Q () s') (hf:autoParam (X.fn x=true\/X.env.scope.names.lookup x=some .local) Dw):wpAny M A (storeName X.env x u) Q E s :=
 yC5 I hN hi hx r (fun s' I' _=>h s' I') hf
theorem Inv.call'{s':Shared}{ch:List Addr}(I:Inv X DA σ H s)(ho:s'.os=s.os)(u:Un (frs X.stack) ch H H' s.heap s'.heap)(hok:HOk X.prog X.w H' s'.heap)(hg:AllBare s'.gens)
  (hch:∀b∈ch,(b∈X.ex\/X.s₀.heap.objs.size<=b)/\b≠X.env.locals/\(∀x c,X.env.cells.lookup x=some c->c≠b)/\∀p∈X.pn++DA,p.1≠b):Inv X DA σ H' s':=by
 obtain⟨h',g',d',t',o'⟩:=s'
 have e:o'=s.os:=ho
 subst e
 exact I.call (g':=g') (t':=t') (d':=d') u hok hg hch
end
abbrev XK:=Value->Option Addr->Hp->Prop
abbrev St:=List (Option V)
abbrev VK:=V->Hp->Prop
abbrev TE:=St->Hp->VK->Prop
abbrev TT:=St->Hp->(Bool->Hp->Prop)->Prop
abbrev TA:=St->Hp->(List V->Hp->Prop)->Prop
structure Ends where
 nx:St->Hp->Prop
 rt:VK
 bk:St->Hp->Prop:=fun _ _=>False
 ct:St->Hp->Prop:=fun _ _=>False
abbrev TS:=Ends->St->Hp->Prop
def EP(X:Cx)(DA:List (Addr×Obj))(σ:St)(Q:VK)(u:Value)(s':Shared):Prop:=∃v H',Inv X DA σ H' s'/\RelV v u/\Q v H'
def TP(X:Cx)(DA:List (Addr×Obj))(σ:St)(Q:Bool->Hp->Prop)(b:Bool)(s':Shared):Prop:=∃H',Inv X DA σ H' s'/\Q b H'
def AP(X:Cx)(DA:List (Addr×Obj))(σ:St)(Q:List V->Hp->Prop)(us:List Value)(s':Shared):Prop:=∃vs H',Inv X DA σ H' s'/\Vals vs us/\Q vs H'
def SP(X:Cx)(DA:List (Addr×Obj))(D:Ends)(f:Flow)(s':Shared):Prop :=
 match f with
 | .next=>∃σ' H',Inv X DA σ' H' s'/\D.nx σ' H'
 | .brk=>∃σ' H',Inv X DA σ' H' s'/\D.bk σ' H'
 | .cont=>∃σ' H',Inv X DA σ' H' s'/\D.ct σ' H'
 | .ret u=>∃v σ' H',Inv X DA σ' H' s'/\RelV v u/\D.rt v H'
def PE(X:Cx)(e:Expr)(t:TE):Prop :=
 ∀(DA:List (Addr×Obj)) (s:Shared) (σ:St) (H:Hp) (Q:VK),Inv X DA σ H s->t σ H Q->wpAny (model X.prog X.w) X.A (eval e X.env) (EP X DA σ Q) X.xe s
def PT(X:Cx)(e:Expr)(t:TT):Prop :=
 ∀(DA:List (Addr×Obj)) (s:Shared) (σ:St) (H:Hp) (Q:Bool->Hp->Prop),Inv X DA σ H s->t σ H Q->wpAny (model X.prog X.w) X.A (isTrue e X.env (eval e X.env)) (TP X DA σ Q) X.xe s
def PW(X:Cx)(e:Expr)(t:TT):Prop :=
 ∀(whole:Sem Value) (DA:List (Addr×Obj)) (s:Shared) (σ:St) (H:Hp) (Q:Bool->Hp->Prop),Inv X DA σ H s->t σ H Q->wpAny (model X.prog X.w) X.A (isTrue e X.env whole) (TP X DA σ Q) X.xe s
theorem PW.pt{X:Cx}{e:Expr}{t:TT}(h:PW X e t):PT X e t:=h _
def PA(X:Cx)(es:List Expr)(t:TA):Prop :=
 ∀(pos:Pos) (DA:List (Addr×Obj)) (s:Shared) (σ:St) (H:Hp) (Q:List V->Hp->Prop),Inv X DA σ H s->t σ H Q->wpAny (model X.prog X.w) X.A (spliced (backTo pos (starEach es X.env))) (AP X DA σ Q) X.xe s
def PS(X:Cx)(st:Stmt)(t:TS):Prop :=
 ∀(DA:List (Addr×Obj)) (s:Shared) (σ:St) (H:Hp) (D:Ends),Inv X DA σ H s->t D σ H->wpAny (model X.prog X.w) X.A (exec st X.env) (SP X DA D) X.xe s
def PSs(X:Cx)(st:List Stmt)(t:TS):Prop :=
 ∀(DA:List (Addr×Obj)) (s:Shared) (σ:St) (H:Hp) (D:Ends),Inv X DA σ H s->t D σ H->wpAny (model X.prog X.w) X.A (execs st X.env) (SP X DA D) X.xe s
theorem thn{α:Type}{t:Sem α}{Q Q':α->Shared->Prop}{M:Model}{A:Around}{E:Value->Shared->Prop}{s:Shared}(h:wpAny M A t Q E s)(hQ:∀a s,Q a s->Q' a s):wpAny M A t Q' E s:=wpAny_mono h hQ fun _ _ x=>x
section
variable {X:Cx}
theorem bin{a b:Expr}{ta tb:TE}(ha:PE X a ta)(hb:PE X b tb){DA:List (Addr×Obj)}{s:Shared}{σ:St}{H:Hp}{R:V->V->Hp->Prop}(I:Inv X DA σ H s)(h:ta σ H fun x H1=>tb σ H1 fun y H2=>R x y H2)
  {α:Type}{Q:α->Shared->Prop}{f:Value->Value->Sem α}
  (hf:∀v u s2 x y H2,Inv X DA σ H2 s2->RelV x v->RelV y u->R x y H2->wpAny (model X.prog X.w) X.A (f v u) Q X.xe s2) :
  wpAny (model X.prog X.w) X.A (eval a X.env) (fun v s₁=>wpAny (model X.prog X.w) X.A (eval b X.env) (fun u s₂=>wpAny (model X.prog X.w) X.A (f v u) Q X.xe s₂) X.xe s₁) X.xe s:=by
 refine thn (ha DA s σ H _ I h) fun v s1 ⟨x,H1,I1,r1,q1⟩ => ?_
 refine thn (hb DA s1 σ H1 _ I1 q1) fun u s2 ⟨y,H2,I2,r2,q2⟩ => ?_
 exact hf v u s2 x y H2 I2 r1 r2 q2
def tVar(i:Nat):TE:=fun σ H Q=>∃v,σ[i]?=some (some v)/\Q v H
def tC(v:V):TE:=fun _ H Q=>Q v H
theorem fU{i:Nat}{x:Str}{pos:Pos}(hN:X.N[i]?=some x)(hv:Vis X.env.scope x)(hd:autoParam ((x == ("__debug__":Str))=false) Dy)(hcd:autoParam ((x == ("__classdict__":Str))=false) Dy):PE X (.Name x pos) (tVar i):=by
 intro DA s σ H Q I h
 obtain⟨v,e,h⟩:=h
 obtain⟨m,hn,hl⟩:=I.loc
 obtain⟨u,r,l⟩:=hl i x v hN e hv
 have fin:EP X DA σ Q u s:=⟨v,H,I,r,h⟩
 rcases l with ⟨hk,hm⟩ | ⟨hk,c,hc,hcell⟩
 ·exact wpAny_Name (wpAny_loadName_local I.ok.kind hk hn hm fin) hd
 ·rcases hk with hk | hk
  ·exact wpAny_Name (wpAny_loadName_cell I.ok.kind hk hc hcell fin) hd
  ·exact wpAny_Name (wpAny_loadName_free I.ok.kind hk hc hcell fin hcd) hd
theorem yG{i j pos}:PE X (.Constant (.int i) j pos) (tC (.int i)):=fun _ _ _ H _ I h=>wpAny_Constant_int ⟨.int i,H,I.tok _,⟨_,rfl⟩,h⟩
theorem xR2{b j pos}:PE X (.Constant (.bool b) j pos) (tC (.bl b)):=fun _ _ _ H _ I h=>Constant_bool ⟨.bl b,H,I,rfl,h⟩
theorem aH{j pos}:PE X (.Constant .none j pos) (tC .non):=fun _ _ _ H _ I h=>Constant_none ⟨.non,H,I,rfl,h⟩
theorem gA{x j pos}:PE X (.Constant (.str x) j pos) (tC (.str x)):=fun _ _ _ H _ I h=>Calls.Constant_str ⟨.str x,H,I.tok _,⟨_,rfl⟩,h⟩
def Gl(X:Cx)(x:Str):Prop:=X.env.kindOf x=some .globalImplicit
theorem vI{E:Value->Shared->Prop}{DA:List (Addr×Obj)}{s:Shared}{σ:St}{H:Hp}{x:Str}{u:Value}{pos:Pos}{Q:Value->Shared->Prop}(I:Inv X DA σ H s)(hg:Gl X x)(hm:X.mg x=some u)(h:Q u s)
  (hd:autoParam ((x == ("__debug__":Str))=false) Dy):wpAny (model X.prog X.w) X.A (eval (.Name x pos) X.env) Q E s :=
 Calls.Name_function_global I.ok.kind hg (Calls.loadGlobal_global (by rw[I.ok.glob];exact I.mod.glob.keeps I.bk) hm h) hd
theorem cG{E:Value->Shared->Prop}{DA:List (Addr×Obj)}{s:Shared}{σ:St}{H:Hp}{x:Str}{u:Value}{pos:Pos}{Q:Value->Shared->Prop}(I:Inv X DA σ H s)(hg:Gl X x)(hm:X.mg x=none)(hv:bootBuiltins x=some u)(h:Q u s)
  (hn:autoParam (x ≠ "__name__") Dy) (hd:autoParam ((x == ("__debug__":Str))=false) Dy):wpAny (model X.prog X.w) X.A (eval (.Name x pos) X.env) Q E s:=by
 obtain⟨mb,h1,h2⟩:=I.mod.blt
 exact Calls.Name_function_global I.ok.kind hg (Calls.loadGlobal_builtin (by rw[I.ok.glob];exact I.mod.glob.keeps I.bk) hm (by rw[I.ok.blt];exact h1.keeps I.bk) ((h2 x hn).trans hv) h) hd
theorem xK8{x:Str}{v:V}{u:Value}{pos:Pos}(hg:Gl X x)(hm:X.mg x=some u)(r:RelV v u)(hd:autoParam ((x == ("__debug__":Str))=false) Dy):PE X (.Name x pos) (tC v) :=
 fun _ _ _ H _ I h=>vI I hg hm ⟨v,H,I,r,h⟩ hd
variable {a b:Expr}{ta tb:TE}{pos:Pos}
def tB(t:TE):TT:=fun σ H Q=>t σ H fun x H1=>∃c,x=.bl c/\Q c H1
theorem yY3{e:Expr}{t:TE}(h:PE X e t)(he:autoParam (∀whole,isTrue e X.env whole=(do let v <-whole;standAt e.pos;holding [v] (truthy v))) Dx):PT X e (tB t):=by
 intro DA s σ H Q I hw
 refine isTrue_plain (thn (h DA s σ H _ I hw) fun v s1 ⟨x,H1,I1,r1,q1⟩ => ?_) (he _)
 obtain⟨d,rfl,q⟩:=q1
 cases r1
 exact wpAny_truthy_bool ⟨H1,I1,q⟩
variable {tA tB':TT}{rest:List Expr}
def tAnd(t u:TT):TT:=fun σ H Q=>t σ H fun c H1=>if c=true then u σ H1 Q else Q false H1
def tOr(t u:TT):TT:=fun σ H Q=>t σ H fun c H1=>if c=true then Q true H1 else u σ H1 Q
def tNot(t:TT):TT:=fun σ H Q=>t σ H fun c H1=>Q (!c) H1
theorem pw_and1(ha:PT X a tA):PW X (.BoolOp .And [a] pos) tA:=by
 intro wh DA s σ H Q I h
 refine isTrue_and (thn (ha DA s σ H Q I h) fun c s1 e => ?_)
 cases c with
 | true=>exact isTrue_and_nil e
 | false=>exact e
theorem pw_or1(ha:PT X a tA):PW X (.BoolOp .Or [a] pos) tA:=by
 intro wh DA s σ H Q I h
 refine isTrue_or (thn (ha DA s σ H Q I h) fun c s1 e => ?_)
 cases c with
 | false=>exact isTrue_or_nil e
 | true=>exact e
theorem pw_and(ha:PT X a tA)(hb:PW X (.BoolOp .And (b::rest) pos) tB'):PW X (.BoolOp .And (a::b::rest) pos) (tAnd tA tB'):=by
 intro wh DA s σ H Q I h
 refine isTrue_and (thn (ha DA s σ H _ I h) fun c s1 ⟨H1,I1,q1⟩ => ?_)
 cases c with
 | true=>exact hb wh DA s1 σ H1 Q I1 q1
 | false=>exact⟨H1,I1,q1⟩
theorem pw_or(ha:PT X a tA)(hb:PW X (.BoolOp .Or (b::rest) pos) tB'):PW X (.BoolOp .Or (a::b::rest) pos) (tOr tA tB'):=by
 intro wh DA s σ H Q I h
 refine isTrue_or (thn (ha DA s σ H _ I h) fun c s1 ⟨H1,I1,q1⟩ => ?_)
 cases c with
 | true=>exact⟨H1,I1,q1⟩
 | false=>exact hb wh DA s1 σ H1 Q I1 q1
theorem yF7(ha:PT X a tA):PT X (.UnaryOp .Not a pos) (tNot tA):=by
 intro DA s σ H Q I h
 exact isTrue_not (ha DA s σ H (fun c H1=>Q (!c) H1) I h)
def tAndV(ta tb:TE):TE:=fun σ H Q=>ta σ H fun x H1=>∃c,x=.bl c/\if c=true then tb σ H1 Q else Q (.bl false) H1
def tOrV(ta tb:TE):TE:=fun σ H Q=>ta σ H fun x H1=>∃c,x=.bl c/\if c=true then Q (.bl true) H1 else tb σ H1 Q
theorem xD3{op}{t:TE}(h:PE X a t):PE X (.BoolOp op [a] pos) t:=fun DA s σ H Q I hw=>BoolOp_one (h DA s σ H Q I hw)
theorem xC8(ha:PE X a ta)(hb:PE X (.BoolOp .And (b::rest) pos) tb):PE X (.BoolOp .And (a::b::rest) pos) (tAndV ta tb):=by
 intro DA s σ H Q I h
 refine BoolOp_and (thn (ha DA s σ H _ I h) fun v s1 ⟨x,H1,I1,r1,q1⟩ => ?_)
 obtain⟨c,rfl,q1⟩:=q1
 cases r1
 refine wpAny_truthy_bool ?_
 cases c with
 | true=>exact hb DA s1 σ H1 Q I1 q1
 | false=>exact⟨.bl false,H1,I1,rfl,q1⟩
theorem xA6(ha:PE X a ta)(hb:PE X (.BoolOp .Or (b::rest) pos) tb):PE X (.BoolOp .Or (a::b::rest) pos) (tOrV ta tb):=by
 intro DA s σ H Q I h
 refine BoolOp_or (thn (ha DA s σ H _ I h) fun v s1 ⟨x,H1,I1,r1,q1⟩ => ?_)
 obtain⟨c,rfl,q1⟩:=q1
 cases r1
 refine wpAny_truthy_bool ?_
 cases c with
 | false=>exact hb DA s1 σ H1 Q I1 q1
 | true=>exact⟨.bl true,H1,I1,rfl,q1⟩
end
def SqL(K:KFr)(H:Hp)(a:Addr)(xs:List V):Prop :=
 Rd H a (.lst xs) \/
  ∃(o:Obj) (its:Array Value) (n:Nat),K.lookup a=some o/\o.cls=.type "list"/\o.dict=none/\o.data=.seq its n/\its.size<=sizeLine/\Vals xs its.toList
def SqT(K:KFr)(H:Hp)(a:Addr)(xs:List V):Prop :=
 Rd H a (.tup xs) \/
  ∃(o:Obj) (its:Array Value) (n:Nat),K.lookup a=some o/\o.cls=.type "tuple"/\o.data=.seq its n/\its.size<=sizeLine/\Vals xs its.toList
def absV:Value->Option V
 | .none=>some .non
 | .bool b=>some (.bl b)
 | .int i _=>some (.int i)
 | .str x _=>some (.str x)
 | .bytes b _=>some (.byt b)
 | .float b _=>some (.flt b)
 | .ref a=>some (.ref a)
 | .type n=>some (.ty n)
 | _=>none
theorem RelV.abs{x:V}{u:Value}(r:RelV x u):absV u=some x:=by
 cases x with
 | non=>cases r;rfl
 | bl _=>cases r;rfl
 | int _=>obtain⟨t,rfl⟩:=r;rfl
 | str _=>obtain⟨t,rfl⟩:=r;rfl
 | byt _=>obtain⟨t,rfl⟩:=r;rfl
 | flt _=>obtain⟨t,rfl⟩:=r;rfl
 | ref _=>cases r;rfl
 | ty _=>cases r;rfl
theorem RelV.inj{x y:V}{u:Value}(r:RelV x u)(q:RelV y u):x=y:=AX (r.abs.symm.trans q.abs)
theorem Vals.inj:∀{xs ys:List V}{us:List Value},Vals xs us->Vals ys us->xs=ys
 | _,_,_,.nil,.nil=>rfl
 | _,_,_,.cons r t,.cons r' t'=>by rw[r.inj r',Vals.inj t t']
section
variable {X:Cx}{DA:List (Addr×Obj)}{σ:St}{H:Hp}{s:Shared}{a:Addr}{xs ys:List V}
theorem SqL.of{K:KFr}(h:H a=some (.lst xs)):SqL K H a xs:=.inl (.inl h)
theorem Inv.list(I:Inv X DA σ H s)(h:SqL X.K H a xs):∃its:List Value,Vals xs its/\PlainL s.heap a its.toArray/\xs.length<=sizeLine:=by
 rcases h with h | ⟨o,its,n,hk,hc,hd,hs,hz,r⟩
 ·obtain⟨z,its,n,r,e⟩:=h.ok I.hok
  exact⟨its,r,⟨_,n,e,rfl,rfl,rfl⟩,z⟩
 ·refine⟨its.toList,r,⟨o,n,I.kIn a o hk,hc,hd,by simpa using hs⟩,?_⟩
  have e:=r.length
  simp only[BL] at e
  rfl'
theorem Inv.tuple(I:Inv X DA σ H s)(h:SqT X.K H a xs):∃its:List Value,Vals xs its/\IsTup s.heap a its.toArray/\xs.length<=sizeLine:=by
 rcases h with h | ⟨o,its,n,hk,hc,hs,hz,r⟩
 ·obtain⟨z,its,r,p⟩:=h.ok I.hok
  exact⟨its,r,p.tup,z⟩
 ·refine⟨its.toList,r,⟨o,I.kIn a o hk,hc,n,by simpa using hs⟩,?_⟩
  have e:=r.length
  simp only[BL] at e
  rfl'
theorem Inv.yX4(I:Inv X DA σ H s)(h:SqL X.K H a xs)(h':SqL X.K H a ys):xs=ys:=by
 obtain⟨its,r,⟨o,n,e,_,_,d⟩,_⟩:=I.list h
 obtain⟨its',r',⟨o',n',e',_,_,d'⟩,_⟩:=I.list h'
 rw[e] at e';cases e'
 rw[d] at d'
 injection d' with d1 _
 have:its=its':=by simpa using BQ Array.toList d1
 subst this
 exact r.inj r'
theorem Inv.zI4(I:Inv X DA σ H s)(h:SqT X.K H a xs)(h':SqT X.K H a ys):xs=ys:=by
 obtain⟨its,r,⟨o,e,_,n,d⟩,_⟩:=I.tuple h
 obtain⟨its',r',⟨o',e',_,n',d'⟩,_⟩:=I.tuple h'
 rw[e] at e';cases e'
 rw[d] at d'
 injection d' with d1 _
 have:its=its':=by simpa using BQ Array.toList d1
 subst this
 exact r.inj r'
end
abbrev Cx.wish(X:Cx)(E:Value->Shared->Prop):Cx:={ X with xe:=E }
abbrev Cx.nox(X:Cx):Cx:=X.wish fun _ _=>False
theorem Cx.Ok.wish{X:Cx}(ok:X.Ok)(E:Value->Shared->Prop):(X.wish E).Ok :=
 ⟨ok.mod,ok.kind,ok.glob,ok.blt,ok.above,ok.inj,ok.has,ok.cab,ok.hd,ok.frames,ok.stk,ok.exf,ok.bs,ok.bsz,ok.noex,ok.exfs,ok.funs,ok.frf⟩
theorem Cx.Ok.unwish{X:Cx}{E:Value->Shared->Prop}(ok:(X.wish E).Ok):X.Ok :=
 ⟨ok.mod,ok.kind,ok.glob,ok.blt,ok.above,ok.inj,ok.has,ok.cab,ok.hd,ok.frames,ok.stk,ok.exf,ok.bs,ok.bsz,ok.noex,ok.exfs,ok.funs,ok.frf⟩
section
variable {X:Cx}{DA:List (Addr×Obj)}{σ:St}{H:Hp}{s:Shared}{E:Value->Shared->Prop}
theorem Inv.wish(I:Inv X DA σ H s)(E:Value->Shared->Prop):Inv (X.wish E) DA σ H s:=⟨I.ok.wish E,I.os,I.bare,I.base,I.loc,I.cell,I.free,I.freeC,I.pin,I.hok,I.len⟩
theorem Inv.unwish(I:Inv (X.wish E) DA σ H s):Inv X DA σ H s:=⟨I.ok.unwish,I.os,I.bare,I.base,I.loc,I.cell,I.free,I.freeC,I.pin,I.hok,I.len⟩
theorem SP.unwish{D:Ends}{f:Flow}{s':Shared}(h:SP (X.wish E) DA D f s'):SP X DA D f s':=by
 cases f with
 | next=>obtain⟨σ',H',I,q⟩:=h;exact⟨σ',H',I.unwish,q⟩
 | brk=>obtain⟨σ',H',I,q⟩:=h;exact⟨σ',H',I.unwish,q⟩
 | cont=>obtain⟨σ',H',I,q⟩:=h;exact⟨σ',H',I.unwish,q⟩
 | ret u=>obtain⟨v,σ',H',I,r,q⟩:=h;exact⟨v,σ',H',I.unwish,r,q⟩
theorem PSs.nox{st:List Stmt}{t:TS}(h:PSs X.nox st t):PSs X st t:=fun DA s σ H D I hw =>
 wpAny_mono (h DA s σ H D (I.wish _) hw) (fun _ _ q=>q.unwish) fun _ _ z=>False.elim z
end
section
variable {X:Cx}{st:Stmt}{rest:List Stmt}{t u:TS}{e:Expr}{te:TE}{pos:Pos}
def tNext:TS:=fun D σ H=>D.nx σ H
def tSeq(t u:TS):TS:=fun D σ H=>t { D with nx:=u D } σ H
theorem gI:PSs X [] tNext:=fun _ _ σ H _ I h=>wpAny_execs_nil ⟨σ,H,I,h⟩
theorem zA(h1:PS X st t)(h2:PSs X rest u):PSs X (st::rest) (tSeq t u):=by
 intro DA s σ H D I h
 refine wpAny_execs_cons (thn (h1 DA s σ H { D with nx:=u D } I h) fun f s1 q => ?_)
 cases f with
 | next =>
  obtain⟨σ',H',I',q⟩:=q
  exact h2 DA s1 σ' H' D I' q
 | ret v=>exact q
 | brk=>exact q
 | cont=>exact q
theorem xT(h1:PS X st t):PSs X [st] t:=by
 intro DA s σ H D I h
 refine wpAny_execs_cons (thn (h1 DA s σ H D I h) fun f s1 q => ?_)
 cases f with
 | next=>exact wpAny_execs_nil q
 | ret v=>exact q
 | brk=>exact q
 | cont=>exact q
theorem Inv.quiet{DA:List (Addr×Obj)}{σ:St}{H:Hp}{s:Shared}(I:Inv X DA σ H s):interactive X.env=false:=by simp[interactive,I.ok.kind]
def tDrop(te:TE):TS:=fun D σ H=>te σ H fun _ H1=>D.nx σ H1
theorem qA(he:PE X e te)(hs:autoParam (swapsWith e none pos.line X.env=pure false) Dz):PS X (.Expr e pos) (tDrop te):=by
 intro DA s σ H D I h
 exact wpAny_Expr_any (thn (he DA s σ H _ I h) fun v s1 ⟨x,H1,I1,r1,q1⟩=>⟨σ,H1,I1,q1⟩) I.quiet hs
def tRet(te:TE):TS:=fun D σ H=>te σ H D.rt
theorem kB(he:PE X e te):PS X (.Return (some e) pos) (tRet te):=by
 intro DA s σ H D I h
 exact wpAny_Return_some (thn (he DA s σ H _ I h) fun v s1 ⟨x,H1,I1,r1,q1⟩=>⟨x,σ,H1,I1,r1,q1⟩)
def tIfS(c:TT)(t u:TS):TS:=fun D σ H=>c σ H fun b H1=>if b=true then t D σ H1 else u D σ H1
theorem zW2{c:Expr}{a b:List Stmt}{tc:TT}(hc:PT X c tc)(ha:PSs X a t)(hb:PSs X b u):PS X (.If c a b pos) (tIfS tc t u):=by
 intro DA s σ H D I h
 refine wpAny_If (thn (hc DA s σ H _ I h) fun d s1 ⟨H1,I1,q1⟩ => ?_)
 cases d with
 | true=>exact ha DA s1 σ H1 D I1 q1
 | false=>exact hb DA s1 σ H1 D I1 q1
def tNever:TS:=fun _ _ _=>False
end
abbrev TG:=V->St->Hp->(St->Hp->Prop)->Prop
abbrev TGs:=List V->St->Hp->(St->Hp->Prop)->Prop
def PG(X:Cx)(target:Expr)(t:TG):Prop :=
 ∀(DA:List (Addr×Obj)) (s:Shared) (σ:St) (H:Hp) (v:V) (u:Value) (Q:St->Hp->Prop),Inv X DA σ H s->RelV v u->t v σ H Q ->
  wpAny (model X.prog X.w) X.A (assign target X.env u) (fun _ s'=>∃σ' H',Inv X DA σ' H' s'/\Q σ' H') X.xe s
def PGs(X:Cx)(ts:List Expr)(t:TGs):Prop :=
 ∀(DA:List (Addr×Obj)) (s:Shared) (σ:St) (H:Hp) (vs:List V) (us:List Value) (Q:St->Hp->Prop),Inv X DA σ H s->Vals vs us->t vs σ H Q ->
  wpAny (model X.prog X.w) X.A (assignInOrder ((assignEach ts X.env).map (·.2)) us) (fun _ s'=>∃σ' H',Inv X DA σ' H' s'/\Q σ' H') X.xe s
abbrev TSet:=V->V->V->Hp->(Hp->Prop)->Prop
def PSet(X:Cx)(t:TSet):Prop :=
 ∀(DA:List (Addr×Obj)) (s:Shared) (σ:St) (H:Hp) (o i v:V) (ov iv u:Value) (Q:Hp->Prop),Inv X DA σ H s->RelV o ov->RelV i iv->RelV v u->t o i v H Q ->
  wpAny (model X.prog X.w) X.A (setItem ov iv u) (fun _ s'=>∃H',Inv X DA σ H' s'/\Q H') X.xe s
section
variable {X:Cx}{pos:Pos}
def gName(i:Nat):TG:=fun v σ H Q=>Q (σ.set i (some v)) H
theorem gK{i:Nat}{x:Str}(hN:X.N.Nodup)(hi:X.N[i]?=some x)(hx:Loc X.env.scope x)(hf:autoParam (X.fn x=true\/X.env.scope.names.lookup x=some .local) Dw):PG X (.Name x pos) (gName i):=by
 intro DA s σ H v u Q I r h
 exact wpAny_assign_Name (fV I hN hi hx r (fun s' I'=>⟨_,H,I',h⟩) hf)
def gNil:TGs:=fun vs σ H Q=>vs=[]/\Q σ H
def gCons(t:TG)(u:TGs):TGs:=fun vs σ H Q=>∃v r,vs=v::r/\t v σ H fun σ' H'=>u r σ' H' Q
theorem yS2:PGs X [] gNil:=by
 intro DA s σ H vs us Q I r h
 obtain⟨e,h⟩:=h
 subst e
 cases r
 exact assignInOrder_nil ⟨σ,H,I,h⟩
theorem zS5{e:Expr}{es:List Expr}{t:TG}{u:TGs}(h1:PG X e t)(h2:PGs X es u)
  (hs:autoParam ((assignEach (e::es) X.env).map (·.2)=assign e X.env::(assignEach es X.env).map (·.2)) Dz):PGs X (e::es) (gCons t u):=by
 intro DA s σ H vs us Q I r h
 obtain⟨v,vr,e1,h⟩:=h
 subst e1
 cases r with
 | cons r rr =>
  rw[hs]
  refine assignInOrder_cons (thn (h1 DA s σ H _ _ _ I r h) fun _ s1 ⟨σ1,H1,I1,q1⟩ => ?_)
  exact h2 DA s1 σ1 H1 _ _ Q I1 rr q1
def gTup(K:KFr)(n:Nat)(t:TGs):TG:=fun v σ H Q=>∃a xs,v=.ref a/\SqT K H a xs/\xs.length=n/\t xs σ H Q
theorem yG4{es:List Expr}{k:Nat}{t:TGs}{n:Nat}(hc:X.calm=true)(h:PGs X es t)
  (hn:autoParam ((assignEach es X.env).length=n) Dz) (hst:autoParam ((assignEach es X.env).findIdx? (·.1)=none) Dz):PG X (.Tuple es k pos) (gTup X.K n t):=by
 intro DA s σ H v u Q I r hw
 obtain⟨a,xs,e1,hq,hl,hw⟩:=hw
 subst e1
 cases r
 obtain⟨its,rv,ht,hz⟩:=I.tuple hq
 refine assign_Tuple_tuple (I.ok.hd hc) ht (by simp[hn,<-hl,rv.length]) hst fun h' hx => ?_
 have I1:Inv X DA σ H { s with heap:=h' }:=I.kept (t':=s.toks) fun b o e=>hx b o (AL (Ao e)) e
 exact h DA _ σ H xs _ Q I1 (by simpa using rv) hw
def gSub(to ti:TE)(t:TSet):TG:=fun v σ H Q=>to σ H fun o H1=>ti σ H1 fun i H2=>t o i v H2 fun H3=>Q σ H3
theorem yB8{o i:Expr}{to ti:TE}{t:TSet}(ho:PE X o to)(hi:PE X i ti)(hs:PSet X t)
  (ha:∀v,assign (.Subscript o i pos) X.env v=(do
   let ov <-holding [v] (eval o X.env)
   let iv <-holding [v,ov] (eval i X.env)
   standAt pos
   holding [v,ov,iv] (setItem ov iv v)
   release [v,ov,iv] []):=by intro _;rfl):PG X (.Subscript o i pos) (gSub to ti t):=by
 intro DA s σ H v u Q I r h
 rw[ha]
 refine Ab (wpAny_holding (thn (ho DA s σ H _ I h) fun ov s1 ⟨x,H1,I1,r1,q1⟩ => ?_))
 refine Ab (wpAny_holding (thn (hi DA s1 σ H1 _ I1 q1) fun iv s2 ⟨y,H2,I2,r2,q2⟩ => ?_))
 refine Ab (wpAny_standAt (Ab (wpAny_holding (thn (hs DA s2 σ H2 x y v ov iv u _ I2 r1 r2 r q2) fun _ s3 ⟨H3,I3,q3⟩ => ?_))))
 exact wpAny_release ⟨σ,H3,I3,q3⟩
def tAsg(te:TE)(g:TG):TS:=fun D σ H=>te σ H fun x H1=>g x σ H1 D.nx
theorem zB4{tg e:Expr}{te:TE}{g:TG}(he:PE X e te)(hg:PG X tg g)(hs:autoParam (swapsWithSole [tg] e pos.line X.env=pure false) Dz)(hw:autoParam (swappedStores [tg] e X.env=pure none) Dz)
  (h1:autoParam ((assignEach [tg] X.env).map (·.2)=[assign tg X.env]) Dz):PS X (.Assign [tg] e pos) (tAsg te g):=by
 intro DA s σ H D I h
 refine wpAny_Assign_stores (thn (he DA s σ H _ I h) fun v s1 ⟨x,H1,I1,r1,q1⟩ => ?_) hs hw
 rw[h1]
 exact thn (hg DA s1 σ H1 x v _ I1 r1 q1) fun _ s2 q=>q
theorem xW{i:Nat}{x:Str}{e:Expr}{te:TE}{pos':Pos}(hN:X.N.Nodup)(hi:X.N[i]?=some x)(hx:Loc X.env.scope x)(he:PE X e te)(hs:autoParam (swapsWith e (some (.Name x pos')) pos.line X.env=pure false) Dz)(hf:autoParam (X.fn x=true\/X.env.scope.names.lookup x=some .local) Dw) :
  PS X (.Assign [.Name x pos'] e pos) (tAsg te (gName i)):=by
 intro DA s σ H D I h
 refine wpAny_Assign_Name (thn (he DA s σ H _ I h) fun v s1 ⟨y,H1,I1,r1,q1⟩ => ?_) hs
 exact fV I1 hN hi hx r1 (fun s2 I2=>⟨_,H1,I2,q1⟩) hf
def tWhile(c:TT)(tb:TS):TS:=fun D σ H=>∃W:Nat->St->Hp->Prop,(∃m,W m σ H)/\∀m σ H,W m σ H ->
 c σ H fun b H1=>if b=true then ∃N:St->Hp->Prop,(∀σ' H',N σ' H'->∃m',m'<m/\W m' σ' H')/\tb { D with nx:=N,ct:=N,bk:=D.nx } σ H1 else D.nx σ H1
theorem gE{c:Expr}{body:List Stmt}{tc:TT}{tb:TS}(hp:PassesOwn (model X.prog X.w) X.A X.env X.xe)(hc:PT X c tc)(hb:PSs X body tb):PS X (.While c body [] pos) (tWhile tc tb):=by
 intro DA s σ H D I h
 obtain⟨W,⟨m0,w0⟩,turn⟩:=h
 refine wpAny_While (codeAny_whileLoop (fun n s'=>∃σ' H',Inv X DA σ' H' s'/\W n σ' H') ?_ m0 ⟨σ,H,I,w0⟩)
 rintro n s1 ⟨σ1,H1,I1,w1⟩
 refine wpAny_passesOwn hp (thn (hc DA s1 σ1 H1 _ I1 (turn n σ1 H1 w1)) fun b s2 ⟨H2,I2,q2⟩ => ?_)
 cases b with
 | true =>
  obtain⟨N,hN,q2⟩:=q2
  rw[Am rfl]
  refine wpAny_passesOwn hp (thn (hb DA s2 σ1 H2 _ I2 q2) fun f s3 q3 => ?_)
  cases f with
  | next =>
   obtain⟨σ3,H3,I3,n3⟩:=q3
   obtain⟨m',hm,w3⟩:=hN σ3 H3 n3
   exact⟨m',hm,σ3,H3,I3,w3⟩
  | cont =>
   obtain⟨σ3,H3,I3,n3⟩:=q3
   obtain⟨m',hm,w3⟩:=hN σ3 H3 n3
   exact⟨m',hm,σ3,H3,I3,w3⟩
  | brk=>exact q3
  | ret v=>exact q3
 | false =>
  rw[AG Ap]
  exact wpAny_execs_nil ⟨σ1,H2,I2,q2⟩
end
structure It where
 go:Nat->Hp->Prop
 yld:Nat->Hp->V->Hp->Prop
 stop:Nat->Hp->Prop
def FpOk(X:Cx)(DA:List (Addr×Obj))(H:Hp)(b:Addr):Prop :=
 H b=none/\b≠X.env.locals/\b∉X.fs/\(b∈X.ex\/X.s₀.heap.objs.size<=b)/\(∀x c,X.env.cells.lookup x=some c->c≠b)/\∀p∈X.pn++DA,p.1≠b
theorem Inv.fpOk{X:Cx}{DA:List (Addr×Obj)}{σ:St}{H H':Hp}{s:Shared}{b:Addr}(I:Inv X DA σ H s)(hb:s.heap.objs.size<=b)(hn:H' b=none):FpOk X DA H' b:=by
 refine⟨hn,Ck (Ax I.lt hb),I.nofs hb,.inr (Ba I.sz hb),fun x c e z => ?_,fun p hp z => ?_⟩
 ·obtain⟨v,q⟩:=I.cell x c e
  exact absurd (Ax q.lt (by rw[z];exact hb)) (Cm _)
 ·exact absurd (Ax (Ao (I.pin p hp).1) (by rw[z];exact hb)) (Cm _)
structure Turn(P:Program)(w:World)(K:KFr)(tg:Expr)(J:It)(fp:List Addr)(it:Addr)(tn:Nat->Heap->Prop):Prop where
 mem:it∈fp
 obj:∀i h,tn i h->∀b∈fp,∃o,h.get? b=some o/\∀v,o.data ≠ .cell v
 keep:∀i h h',tn i h->(∀b∈fp,∀o,h.get? b=some o->h'.get? b=some o)->tn i h'
 item:∀(X:Cx),X.prog=P->X.w=w->X.K=K->X.calm=true->∀(i:Nat) (DA:List (Addr×Obj)) (s:Shared) (σ:St) (H:Hp) (E:Value->Shared->Prop),Inv X DA σ H s->(∀b∈fp,FpOk X DA H b)->tn i s.heap->J.go i H ->
  wpAny (model P w) X.A (pyNext (.ref it)) (fun r s1=>∃u,r=some u /\
   wpAny (model P w) X.A (letOwnedTupleGo tg (.ref it) u) (fun _ s2=>∃x H',Inv X DA σ H' s2/\RelV x u/\J.yld i H x H'/\tn (i+1) s2.heap/\∀b∈fp,H' b=none) E s1) E s
 done:∀(X:Cx),X.prog=P->X.w=w->X.K=K->X.calm=true->∀(i:Nat) (DA:List (Addr×Obj)) (s:Shared) (σ:St) (H:Hp) (E:Value->Shared->Prop),Inv X DA σ H s->(∀b∈fp,FpOk X DA H b)->tn i s.heap->J.stop i H ->
  wpAny (model P w) X.A (pyNext (.ref it)) (fun r s1=>r=none/\Inv X DA σ H s1) E s
 self:∀(A:Around) (i:Nat) (s:Shared) (Q:Value->Shared->Prop) (E:Value->Shared->Prop),tn i s.heap->Q (.ref it) s->wpAny (model P w) A (pyIter (.ref it)) Q E s
abbrev TI:=St->Hp->(It->Hp->Prop)->Prop
def PIE(X:Cx)(DA:List (Addr×Obj))(σ:St)(tg:Expr)(R:It->Hp->Prop)(itv:Value)(s2:Shared):Prop :=
 ∃(it:Addr) (fp:List Addr) (tn:Nat->Heap->Prop) (J:It) (H':Hp),itv=.ref it/\Inv X DA σ H' s2/\Turn X.prog X.w X.K tg J fp it tn/\tn 0 s2.heap/\(∀b∈fp,FpOk X DA H' b)/\R J H'
def PI(X:Cx)(tg iter:Expr)(wi:TI):Prop :=
 ∀(DA:List (Addr×Obj)) (s:Shared) (σ:St) (H:Hp) (R:It->Hp->Prop),Inv X DA σ H s->wi σ H R ->
  wpAny (model X.prog X.w) X.A (eval iter X.env) (fun v s1=>wpAny (model X.prog X.w) X.A (pyIter v) (PIE X DA σ tg R) X.xe s1) X.xe s
theorem yI1{M:Model}{A:Around}{E:Value->Shared->Prop}{s:Shared}{tg:Expr}{it:Addr}{u:Value}{o:Obj}{n:String}{vs:Array Value}{Q:Unit->Shared->Prop}(ho:s.heap.get? it=some o)(hc:o.cls=.type n)(hd:o.data=.fields vs)
  (hn:["enumerate","zip","dict_itemiterator","dict_reverseitemiterator","odict_iterator","itertools.zip_longest","itertools.pairwise"].contains n=false) (hQ:Q () s):wpAny M A (letOwnedTupleGo tg (.ref it) u) Q E s:=by
 unfold letOwnedTupleGo
 cases tg <;> first
  | exact Ar hQ
  | (cases u <;> first
    | exact Ar hQ
    | (refine Ab (wpAny_load ho ?_)
       rw[hc,hd]
       show wpAny M A (if (["enumerate","zip","dict_itemiterator","dict_reverseitemiterator","odict_iterator","itertools.zip_longest","itertools.pairwise"].contains n&&vs[0]? == some (rawInt _))=true then _ else _) Q E s
       rw[AG (by intro h;rw[hn,Co] at h;cases h)]
       exact Ar hQ))
def Itl(K:KFr)(a:Addr):It :=
 ⟨fun i H=>∃xs x,SqL K H a xs/\xs[i]?=some x,fun i H x H'=>H'=H/\∀xs,SqL K H a xs->xs[i]?=some x,fun i H=>∃xs,SqL K H a xs/\xs.length<=i⟩
def Itt(K:KFr)(a:Addr):It :=
 ⟨fun i H=>∃xs x,SqT K H a xs/\xs[i]?=some x,fun i H x H'=>H'=H/\∀xs,SqT K H a xs->xs[i]?=some x,fun i H=>∃xs,SqT K H a xs/\xs.length<=i⟩
def Itr(lo:Int)(n:Nat):It:=⟨fun i _=>i<n,fun i H x H'=>H'=H/\x=.int (lo+i),fun i _=>n<=i⟩
theorem zH5{P:Program}{w:World}{K:KFr}{tg:Expr}(a it:Addr):Turn P w K tg (Itl K a) [it] it (fun i h=>h.IsListIter it a i) where
 mem:=by simp
 obj:=fun i h st b hb=>by
  have e:b=it:=by simpa using hb
  subst e
  obtain⟨o,e,c,d⟩:=st
  exact⟨o,e,fun v z=>by rw[d] at z;cases z⟩
 keep:=fun i h h' st k=>st.at fun o e=>k it (by simp) o e
 item:=by
  intro X hP hw hK hc i DA s σ H E I hf st hg
  subst hP hw hK
  obtain⟨xs,x,hq,hx⟩:=hg
  obtain⟨its,rv,p,hz⟩:=I.list hq
  obtain⟨u,hu,ru⟩:=rv.get hx
  obtain⟨f0,f1,f2,f3,f4,f5⟩:=hf it (by simp)
  refine wpAny_pyNext_list_item st p.isList (x:=u) (by simpa using hu) fun h' st' sb => ?_
  have I1:Inv X DA σ H { s with heap:=h' }:=I.turned (t':=s.toks) (fun b o hb e=>(sb.2 b hb).trans e) f0 f1 f3 f4 f5
  obtain⟨o,e,c,d⟩:=id st'
  exact⟨u,rfl,yI1 (s:={ s with heap:=h' }) e c d (by decide) ⟨x,H,I1,ru,⟨rfl,fun ys hy=>by rw[I.yX4 hy hq];exact hx⟩,st',fun b hb=>(hf b hb).1⟩⟩
 done:=by
  intro X hP hw hK hc i DA s σ H E I hf st hg
  subst hP hw hK
  obtain⟨xs,hq,hx⟩:=hg
  obtain⟨its,rv,p,hz⟩:=I.list hq
  obtain⟨f0,f1,f2,f3,f4,f5⟩:=hf it (by simp)
  have hl:=rv.length
  exact wpAny_pyNext_list_end (I.ok.hd hc) st p.isList (by simp;rfl') fun h' eb=>⟨rfl,I.turned (t':=s.toks) (fun b o hb e=>eb b o hb e) f0 f1 f3 f4 f5⟩
 self:=fun _ _ _ _ _ st h=>wpAny_pyIter_listiter st h
theorem yK3{P:Program}{w:World}{K:KFr}{tg:Expr}(a it:Addr):Turn P w K tg (Itt K a) [it] it (fun i h=>h.IsTupleIter it a i) where
 mem:=by simp
 obj:=fun i h st b hb=>by
  have e:b=it:=by simpa using hb
  subst e
  obtain⟨o,e,c,d⟩:=st
  exact⟨o,e,fun v z=>by rw[d] at z;cases z⟩
 keep:=fun i h h' st k=>st.at fun o e=>k it (by simp) o e
 item:=by
  intro X hP hw hK hc i DA s σ H E I hf st hg
  subst hP hw hK
  obtain⟨xs,x,hq,hx⟩:=hg
  obtain⟨its,rv,p,hz⟩:=I.tuple hq
  obtain⟨u,hu,ru⟩:=rv.get hx
  obtain⟨f0,f1,f2,f3,f4,f5⟩:=hf it (by simp)
  refine wpAny_pyNext_tuple_item st (show s.heap.IsTuple a its.toArray from p) (x:=u) (by simpa using hu) fun h' st' sb => ?_
  have I1:Inv X DA σ H { s with heap:=h' }:=I.turned (t':=s.toks) (fun b o hb e=>(sb.2 b hb).trans e) f0 f1 f3 f4 f5
  obtain⟨o,e,c,d⟩:=id st'
  exact⟨u,rfl,yI1 (s:={ s with heap:=h' }) e c d (by decide) ⟨x,H,I1,ru,⟨rfl,fun ys hy=>by rw[I.zI4 hy hq];exact hx⟩,st',fun b hb=>(hf b hb).1⟩⟩
 done:=by
  intro X hP hw hK hc i DA s σ H E I hf st hg
  subst hP hw hK
  obtain⟨xs,hq,hx⟩:=hg
  obtain⟨its,rv,p,hz⟩:=I.tuple hq
  obtain⟨f0,f1,f2,f3,f4,f5⟩:=hf it (by simp)
  have hl:=rv.length
  exact wpAny_pyNext_tuple_end (I.ok.hd hc) st (show s.heap.IsTuple a its.toArray from p) (by simp;rfl') fun h' eb=>⟨rfl,I.turned (t':=s.toks) (fun b o hb e=>eb b o hb e) f0 f1 f3 f4 f5⟩
 self:=fun _ _ _ _ _ st h=>wpAny_pyIter_tupleiter st h
theorem yK7{P:Program}{w:World}{K:KFr}{tg:Expr}(it:Addr)(lo:Int)(n:Nat):Turn P w K tg (Itr lo n) [it] it (fun i h=>IsRangeIter h it (lo+(i:Nat)*1) ((n:Int)-(i:Nat)) 1) where
 mem:=by simp
 obj:=fun i h st b hb=>by
  have e:b=it:=by simpa using hb
  subst e
  exact⟨_,st,fun v z=>by
   have z':Data.fields _=Data.cell v:=z
   cases z'⟩
 keep:=fun i h h' st k=>k it (by simp) _ st
 item:=by
  intro X hP hw hK hc i DA s σ H E I hf st hg
  subst hP hw hK
  obtain⟨f0,f1,f2,f3,f4,f5⟩:=hf it (by simp)
  have W:=Walks.range (prog:=X.prog) (w:=X.w) (I.ok.hd hc) it lo 1 n
  refine W.item i s _ _ hg st fun v h' tk hv st' kk => ?_
  obtain⟨t,rfl⟩:=hv
  have I1:Inv X DA σ H { s with heap:=h',toks:=tk }:=I.turned (fun b o hb e=>kk b o (by simpa using hb) e) f0 f1 f3 f4 f5
  refine⟨_,rfl,yI1 (s:={ s with heap:=h',toks:=tk }) (n:="range_iterator") st' rfl rfl (by decide) ⟨.int (lo+i),H,I1,⟨t,?_⟩,⟨rfl,rfl⟩,st',fun b hb=>(hf b hb).1⟩⟩
  rw[Int.mul_one]
 done:=by
  intro X hP hw hK hc i DA s σ H E I hf st hg
  subst hP hw hK
  obtain⟨f0,f1,f2,f3,f4,f5⟩:=hf it (by simp)
  exact wpAny_pyNext_range_end (I.ok.hd hc) st (by have:n<=i:=hg;rfl') fun h' eb=>⟨rfl,I.turned (t':=s.toks) (fun b o hb e=>eb b o hb e) f0 f1 f3 f4 f5⟩
 self:=fun _ _ _ _ _ st h=>wpAny_pyIter_rangeiter st h
section
variable {X:Cx}{tg:Expr}
def iList(K:KFr)(tl:TE):TI:=fun σ H R=>tl σ H fun x H1=>∃a,x=.ref a/\(∃xs,SqL K H1 a xs)/\R (Itl K a) H1
theorem yO1{l:Expr}{tl:TE}(hl:PE X l tl):PI X tg l (iList X.K tl):=by
 intro DA s σ H R I h
 refine thn (hl DA s σ H _ I h) fun v s1 ⟨x,H1,I1,r1,q1⟩ => ?_
 obtain⟨a,e,⟨xs,hq⟩,q⟩:=q1
 subst e
 cases r1
 obtain⟨its,rv,p,hz⟩:=I1.list hq
 refine wpAny_pyIter_list p.isList ?_
 refine⟨s1.heap.objs.size,[s1.heap.objs.size],_,_,H1,rfl,I1.kept (t':=s1.toks) fun b o e=>Al _ e,zH5 a _,⟨_,Az _ rfl,rfl,rfl⟩,fun b hb => ?_,q⟩
 have e:b=s1.heap.objs.size:=by simpa using hb
 subst e
 exact I1.fpOk (Ai _) (I1.hok.fresh (Ai _))
theorem xW5{DA:List (Addr×Obj)}{σ:St}{H:Hp}{s:Shared}{R:It->Hp->Prop}{E:Value->Shared->Prop}{lo hi:Int}{t u v:Tok}{tk:Nat}(I:Inv X DA σ H s)(h1:-(2 ^ 62)<=lo)(h2:lo<2 ^ 62)(h3:-(2 ^ 62)<=hi)(h4:hi<2 ^ 62)
  (q:R (Itr lo (hi-lo).toNat) H):wpAny (model X.prog X.w) X.A (pyIter (.ref s.heap.objs.size)) (PIE X DA σ tg R) E { s with heap:=s.heap.push { cls:=.type "range",data:=.fields #[.int lo t,.int hi u,.int 1 v] },toks:=tk }:=by
 refine wpAny_pyIter_range (IsRange.new ..) (small_one h1 h2 h3 h4) ?_
 have I1:Inv X DA σ H { s with heap:=s.heap.push { cls:=.type "range",data:=.fields #[.int lo t,.int hi u,.int 1 v] },toks:=tk }:=I.kept fun b o e=>Al _ e
 refine⟨(s.heap.push { cls:=.type "range",data:=.fields #[.int lo t,.int hi u,.int 1 v] }).objs.size,[(s.heap.push { cls:=.type "range",data:=.fields #[.int lo t,.int hi u,.int 1 v] }).objs.size],_,_,H,rfl,
  I1.kept (t':=tk) fun b o e=>Al _ e,yK7 _ lo (hi-lo).toNat,?_,fun b hb => ?_,q⟩
 ·have e1:lo+((0:Nat):Int)*1=lo:=by simp
  have e2:(((hi-lo).toNat:Nat):Int)-((0:Nat):Int)=Builtin.Range.rangeSize lo hi 1:=by rw[rangeSize_one];split <;> rfl'
  show IsRangeIter _ _ (lo+((0:Nat):Int)*1) ((((hi-lo).toNat:Nat):Int)-((0:Nat):Int)) 1
  rw[e1,e2]
  exact Az _ rfl
 ·have e:b=(s.heap.push { cls:=.type "range",data:=.fields #[.int lo t,.int hi u,.int 1 v] }).objs.size:=by simpa using hb
  subst e
  exact I1.fpOk (Ai _) (I1.hok.fresh (Ai _))
def iRng1(ta:TA):TI:=fun σ H R=>ta σ H fun vs H1=>∃j:Int,vs=[.int j]/\-(2 ^ 62)<=j/\j<2 ^ 62/\R (Itr 0 j.toNat) H1
theorem dN{a:Expr}{ta:TA}{p pos:Pos}(hg:Gl X "range")(hm:X.mg "range" = none)(ha:PA X [a] ta)(hs:autoParam (starEach [a] X.env=[(false,eval a X.env)]) Dz):PI X tg (.Call (.Name "range" p) [a] [] pos) (iRng1 ta):=by
 intro DA s σ H R I h
 refine Call_ (cG I hg hm boot_range (BJ (thn (ha pos DA s σ H _ I h) fun us s1 ⟨vs,H1,I1,r1,q1⟩ => ?_) hs rfl))
 obtain⟨j,e,q1,q2,q⟩:=q1
 subst e
 cases r1 with
 | cons r rr =>
  cases rr
  obtain⟨t,rfl⟩:=r
  exact call_range_1 (xW5 I1 (by rfl') (by rfl') q1 q2 (by simpa using q))
def tFor(wi:TI)(g:TG)(tb:TS):TS:=fun D σ H=>wi σ H fun J H1=>∃W:Nat->Nat->St->Hp->Prop,(∃m,W 0 m σ H1)/\∀i m σ H,W i m σ H ->
 (J.stop i H/\D.nx σ H)\/(J.go i H/\∃N:St->Hp->Prop,(∀σ' H',N σ' H'->∃m',m'<m/\W (i+1) m' σ' H')/\∀x H',J.yld i H x H'->g x σ H' fun σ2 H2=>tb { D with nx:=N,ct:=N,bk:=D.nx } σ2 H2)
def pinsAt(fp:List Addr)(h:Heap):List (Addr×Obj):=fp.filterMap fun b=>(h.get? b).map fun o=>(b,o)
theorem wH{fp:List Addr}{h:Heap}{b:Addr}{o:Obj}(hb:b∈fp)(e:h.get? b=some o):(b,o)∈pinsAt fp h:=Bu.mpr ⟨b,hb,by rw[e];rfl⟩
theorem yC1{fp:List Addr}{h:Heap}{p:Addr×Obj}(hp:p∈pinsAt fp h):p.1∈fp/\h.get? p.1=some p.2:=by
 obtain⟨b,hb,e⟩:=Bu.mp hp
 cases q:h.get? b with
 | none=>rw[q] at e;cases e
 | some o =>
  rw[q] at e
  have e':(b,o)=p:=AX e
  subst e'
  exact⟨hb,q⟩
theorem Inv.pinned{DA:List (Addr×Obj)}{σ:St}{H:Hp}{s:Shared}{fp:List Addr}(I:Inv X DA σ H s)(hf:∀b∈fp,FpOk X DA H b)(ho:∀b∈fp,∃o,s.heap.get? b=some o/\∀v,o.data ≠ .cell v):Inv X (DA++pinsAt fp s.heap) σ H s :=
 I.xZ fun p hp=>(AE.mp hp).elim (fun z=>I.pin p (Ad _ z)) fun z=>by
  obtain⟨hb,e⟩:=yC1 z
  obtain⟨f0,f1,f2,_⟩:=hf p.1 hb
  obtain⟨o,e',d⟩:=ho p.1 hb
  rw[e] at e';cases e'
  exact⟨e,f0,f1,f2,d⟩
theorem Inv.unpinned{DA pl:List (Addr×Obj)}{σ:St}{H:Hp}{s:Shared}(I:Inv X (DA++pl) σ H s):Inv X DA σ H s:=I.xZ fun p hp=>I.pin p (Ad _ (AM _ hp))
theorem yV2{iter:Expr}{body:List Stmt}{wi:TI}{g:TG}{tb:TS}{pos:Pos}(hp:PassesOwn (model X.prog X.w) X.A X.env X.xe)(hc:X.calm=true)(hi:PI X tg iter wi)(hg:PG X tg g)(hb:PSs X body tb)
  (hs:autoParam (∀x,foldedSetIterable iter X.env x=pure x) Dx):PS X (.For tg iter body [] pos) (tFor wi g tb):=by
 intro DA s σ H D I h
 refine wpAny_For (thn (hi DA s σ H _ I h) fun v s1 h1=>thn h1 fun itv s2 h2 => ?_) hs
 obtain⟨it,fp,tn,J,H2,e,I2,T,st2,f2,W,⟨m0,w0⟩,turn⟩:=h2
 subst e
 have stat:∀{H':Hp},(∀b∈fp,H' b=none)->∀b∈fp,FpOk X DA H' b:=fun hn b hb=>⟨hn b hb,(f2 b hb).2⟩
 refine codeAny_forLoop_any (fun n s'=>∃i σ' H',Inv X DA σ' H' s'/\tn i s'.heap/\(∀b∈fp,H' b=none)/\W i n σ' H') ?_ m0 ⟨0,σ,H2,I2,st2,fun b hb=>(f2 b hb).1,w0⟩
 rintro n s3 ⟨i,σ3,H3,I3,st3,fr3,w3⟩
 rcases turn i n σ3 H3 w3 with ⟨stop,qn⟩ | ⟨go,N,hN,step⟩
 ·refine wpAny_passesOwn hp (thn (T.done X rfl rfl rfl hc i DA s3 σ3 H3 X.xe I3 (stat fr3) st3 stop) fun r s4 ⟨hr,I4⟩ => ?_)
  subst hr
  exact wpAny_execs_nil ⟨σ3,H3,I4,qn⟩
 ·refine wpAny_passesOwn hp (thn (T.item X rfl rfl rfl hc i DA s3 σ3 H3 X.xe I3 (stat fr3) st3 go) fun r s4 ⟨u,hr,h4⟩ => ?_)
  subst hr
  refine wpAny_passesOwn hp (thn h4 fun _ s5 ⟨x,H5,I5,r5,y5,st5,fr5⟩ => ?_)
  have I5':=I5.pinned (stat fr5) (T.obj _ _ st5)
  refine wpAny_passesOwn hp (thn (hg _ s5 σ3 H5 x u _ I5' r5 (step x H5 y5)) fun _ s6 ⟨σ6,H6,I6,q6⟩ => ?_)
  refine wpAny_passesOwn hp (thn (hb _ s6 σ6 H6 _ I6 q6) fun f s7 q7 => ?_)
  have again:∀{σ7:St}{H7:Hp},Inv X (DA++pinsAt fp s5.heap) σ7 H7 s7->N σ7 H7->∃m,m<n/\∃i σ' H',Inv X DA σ' H' s7/\tn i s7.heap/\(∀b∈fp,H' b=none)/\W i m σ' H':=fun {σ7 H7} I7 n7=>by
   obtain⟨m',hm,w7⟩:=hN σ7 H7 n7
   refine⟨m',hm,i+1,σ7,H7,I7.unpinned,T.keep _ _ _ st5 fun b hb o e=>(I7.pin (b,o) (Ad _ (Ad _ (wH hb e)))).1,fun b hb => ?_,w7⟩
   obtain⟨o,e,d⟩:=T.obj _ _ st5 b hb
   exact (I7.pin (b,o) (Ad _ (Ad _ (wH hb e)))).2.1
  cases f with
  | next=>obtain⟨σ7,H7,I7,n7⟩:=q7;exact again I7 n7
  | cont=>obtain⟨σ7,H7,I7,n7⟩:=q7;exact again I7 n7
  | brk=>obtain⟨σ7,H7,I7,q7⟩:=q7;exact⟨σ7,H7,I7.unpinned,q7⟩
  | ret v=>obtain⟨x7,σ7,H7,I7,r7,q7⟩:=q7;exact⟨x7,σ7,H7,I7.unpinned,r7,q7⟩
end
theorem xZ7{lo:Int}{n:Nat}{g:TG}{tb:TS}{D:Ends}{σ:St}{H:Hp}(Pv:Nat->St->Hp->Prop)(h0:Pv 0 σ H)
  (hs:∀i σ H,i<n->Pv i σ H->g (.int (lo+i)) σ H fun σ2 H2=>tb { D with nx:=Pv (i+1),ct:=Pv (i+1),bk:=D.nx } σ2 H2) (hd:∀σ H,Pv n σ H->D.nx σ H) :
  ∃W:Nat->Nat->St->Hp->Prop,(∃m,W 0 m σ H)/\∀i m σ H,W i m σ H ->
   ((Itr lo n).stop i H/\D.nx σ H)\/((Itr lo n).go i H/\∃N:St->Hp->Prop,(∀σ' H',N σ' H'->∃m',m'<m/\W (i+1) m' σ' H')/\∀x H',(Itr lo n).yld i H x H'->g x σ H' fun σ2 H2=>tb { D with nx:=N,ct:=N,bk:=D.nx } σ2 H2):=by
 refine⟨fun i m σ H=>m=n-i/\i<=n/\Pv i σ H,⟨n,by simp,Bb _,h0⟩,?_⟩
 rintro i m σ H ⟨rfl,hi,p⟩
 by_cases hlt:i<n
 ·refine .inr ⟨hlt,Pv (i+1),fun σ' H' p'=>⟨n-(i+1),by rfl',rfl,hlt,p'⟩,fun x H' y => ?_⟩
  obtain⟨e,y⟩:=y
  subst e y
  exact hs i σ _ hlt p
 ·have e:i=n:=by rfl'
  subst e
  exact .inl ⟨Ai _,hd σ H p⟩
abbrev R2:=V->V->Hp->VK->Prop
def OpR(X:Cx)(f:Value->Value->Sem Value)(r:R2):Prop :=
 ∀(DA:List (Addr×Obj)) (s:Shared) (σ:St) (H:Hp) (x y:V) (v u:Value) (Q:VK),Inv X DA σ H s->RelV x v->RelV y u->r x y H Q ->
  wpAny (model X.prog X.w) X.A (f v u) (EP X DA σ Q) X.xe s
def UnR(X:Cx)(f:Value->Sem Value)(r:V->Hp->VK->Prop):Prop :=
 ∀(DA:List (Addr×Obj)) (s:Shared) (σ:St) (H:Hp) (x:V) (v:Value) (Q:VK),Inv X DA σ H s->RelV x v->r x H Q ->
  wpAny (model X.prog X.w) X.A (f v) (EP X DA σ Q) X.xe s
def CallR(X:Cx)(f:Value)(r:List V->Hp->VK->Prop):Prop :=
 ∀(DA:List (Addr×Obj)) (s:Shared) (σ:St) (H:Hp) (xs:List V) (us:List Value) (Q:VK),Inv X DA σ H s->Vals xs us->r xs H Q ->
  wpAny (model X.prog X.w) X.A (call f us) (EP X DA σ Q) X.xe s
def tOp(r:R2)(ta tb:TE):TE:=fun σ H Q=>ta σ H fun x H1=>tb σ H1 fun y H2=>r x y H2 Q
def tUn(r:V->Hp->VK->Prop)(ta:TE):TE:=fun σ H Q=>ta σ H fun x H1=>r x H1 Q
def rI(C:Int->Int->Prop)(g:Int->Int->V):R2:=fun x y H Q=>∃i j,x=.int i/\y=.int j/\C i j/\Q (g i j) H
def rI0(g:Int->Int->V):R2:=fun x y H Q=>∃i j,x=.int i/\y=.int j/\Q (g i j) H
def rU(g:Int->V):V->Hp->VK->Prop:=fun x H Q=>∃i,x=.int i/\Q (g i) H
section
variable {X:Cx}{a b c:Expr}{ta tb tc:TE}{pos:Pos}
theorem binT(ha:PE X a ta)(hb:PE X b tb){DA:List (Addr×Obj)}{s:Shared}{σ:St}{H:Hp}{R:V->V->Hp->Prop}(I:Inv X DA σ H s)
  (h:ta σ H fun x H1=>tb σ H1 fun y H2=>R x y H2){Q:Value->Shared->Prop}{f:Value->Value->Sem Value}
  (hf:∀v u s2 x y H2,Inv X DA σ H2 s2->RelV x v->RelV y u->R x y H2->wpAny (model X.prog X.w) X.A (f v u) Q X.xe s2) :
  wpAny (model X.prog X.w) X.A (eval a X.env) (fun v s₁=>wpAny (model X.prog X.w) X.A (eval b X.env) (fun u s₂=>wpAny (model X.prog X.w) X.A (f v u) Q X.xe s₂) X.xe s₁) X.xe s:=by
 refine thn (ha DA s σ H _ I h) fun v s1 ⟨x,H1,I1,r1,q1⟩ => ?_
 refine thn (hb DA s1 σ H1 _ I1 q1) fun u s2 ⟨y,H2,I2,r2,q2⟩ => ?_
 exact hf v u s2 x y H2 I2 r1 r2 q2
theorem qR{op:Operator}{r:R2}(ho:OpR X (binaryOp op) r)(ha:PE X a ta)(hb:PE X b tb):PE X (.BinOp a op b pos) (tOp r ta tb):=by
 intro DA s σ H Q I h
 exact wpAny_BinOp (binT ha hb I h fun v u s2 x y H2 I2 rx ry q=>ho DA s2 σ H2 x y v u Q I2 rx ry q)
theorem yJ8{op:UnaryOp}{r:V->Hp->VK->Prop}(ho:UnR X (unaryOp op) r)(ha:PE X a ta):PE X (.UnaryOp op a pos) (tUn r ta):=by
 intro DA s σ H Q I h
 exact UnaryOp_ (thn (ha DA s σ H _ I h) fun v s1 ⟨x,H1,I1,r1,q1⟩=>ho DA s1 σ H1 x v Q I1 r1 q1)
theorem opI{f:Value->Value->Sem Value}{C:Int->Int->Prop}{g:Int->Int->Int}
  (rule:∀(i j:Int) (t u:Tok) (s:Shared) (Q:Value->Shared->Prop) (E:Value->Shared->Prop),C i j->Q (.int (g i j) s.toks) { s with toks:=s.toks+1 }->wpAny (model X.prog X.w) X.A (f (.int i t) (.int j u)) Q E s) :
  OpR X f (rI C fun i j=>.int (g i j)):=by
 intro DA s σ H x y v u Q I rx ry h
 obtain⟨i,j,rfl,rfl,hc,q⟩:=h
 obtain⟨t,rfl⟩:=rx
 obtain⟨t',rfl⟩:=ry
 exact rule i j t t' s _ _ hc ⟨.int (g i j),H,I.tok _,⟨_,rfl⟩,q⟩
theorem opI0{f:Value->Value->Sem Value}{g:Int->Int->Int}
  (rule:∀(i j:Int) (t u:Tok) (s:Shared) (Q:Value->Shared->Prop) (E:Value->Shared->Prop),Q (.int (g i j) s.toks) { s with toks:=s.toks+1 }->wpAny (model X.prog X.w) X.A (f (.int i t) (.int j u)) Q E s) :
  OpR X f (rI0 fun i j=>.int (g i j)):=by
 intro DA s σ H x y v u Q I rx ry h
 obtain⟨i,j,rfl,rfl,q⟩:=h
 obtain⟨t,rfl⟩:=rx
 obtain⟨t',rfl⟩:=ry
 exact rule i j t t' s _ _ ⟨.int (g i j),H,I.tok _,⟨_,rfl⟩,q⟩
theorem opB0{f:Value->Value->Sem Value}{g:Int->Int->Bool}
  (rule:∀(i j:Int) (t u:Tok) (s:Shared) (Q:Value->Shared->Prop) (E:Value->Shared->Prop),Q (.bool (g i j)) s->wpAny (model X.prog X.w) X.A (f (.int i t) (.int j u)) Q E s) :
  OpR X f (rI0 fun i j=>.bl (g i j)):=by
 intro DA s σ H x y v u Q I rx ry h
 obtain⟨i,j,rfl,rfl,q⟩:=h
 obtain⟨t,rfl⟩:=rx
 obtain⟨t',rfl⟩:=ry
 exact rule i j t t' s _ _ ⟨.bl (g i j),H,I,rfl,q⟩
def CMul(i j:Int):Prop:=(-(2 ^ 64)<i/\i<2 ^ 64)\/(-(2 ^ 64)<j/\j<2 ^ 64)
theorem CMul.ok{i j:Int}(h:CMul i j):IntMulOk i j:=by
 rcases h with ⟨h1,h2⟩ | ⟨h1,h2⟩
 ·exact .of_left (intBits_le_64 h1 h2)
 ·exact .of_right (intBits_le_64 h1 h2)
theorem wY:OpR X (binaryOp .Add) (rI0 fun i j=>.int (i+j)):=opI0 fun _ _ _ _ _ _ _ q=>add_int q
theorem zN9:OpR X (binaryOp .Sub) (rI0 fun i j=>.int (i-j)):=opI0 fun _ _ _ _ _ _ _ q=>sub_int q
theorem uC:OpR X (binaryOp .Mod) (rI (fun _ j=>0<j) fun i j=>.int (i%j)):=opI fun i j _ _ _ _ _ hc q=>by
 have h1:(0:Int)<j:=hc
 exact mod_int' (by rfl') (by rw[Int.fmod_eq_emod_of_nonneg i (by rfl')];exact q)
theorem unI{f:Value->Sem Value}{g:Int->Int}
  (rule:∀(i:Int) (t:Tok) (s:Shared) (Q:Value->Shared->Prop) (E:Value->Shared->Prop),Q (.int (g i) s.toks) { s with toks:=s.toks+1 }->wpAny (model X.prog X.w) X.A (f (.int i t)) Q E s) :
  UnR X f (rU fun i=>.int (g i)):=by
 intro DA s σ H x v Q I rx h
 obtain⟨i,rfl,q⟩:=h
 obtain⟨t,rfl⟩:=rx
 exact rule i t s _ _ ⟨.int (g i),H,I.tok _,⟨_,rfl⟩,q⟩
theorem zB9:UnR X (unaryOp .USub) (rU fun i=>.int (-i)):=unI fun _ _ _ _ _ q=>neg_int q
theorem yC4{DA:List (Addr×Obj)}{σ:St}{H:Hp}{s:Shared}{Q:VK}{k k':Bool}(I:Inv X DA σ H s)(q:Q (.bl k) H)(e:k=k'):EP X DA σ Q (.bool k') s:=by
 subst e
 exact⟨.bl k,H,I,rfl,q⟩
theorem yJ7:OpR X (compareOp .Lt) (rI0 fun i j=>.bl (decide (i<j))):=opB0 fun _ _ _ _ _ _ _ q=>lt_int q
theorem zQ8:OpR X (compareOp .LtE) (rI0 fun i j=>.bl (decide (i<=j))):=opB0 fun _ _ _ _ _ _ _ q=>le_int q
theorem zN8:OpR X (compareOp .Gt) (rI0 fun i j=>.bl (decide (j<i))):=opB0 fun _ _ _ _ _ _ _ q=>gt_int q
theorem yY7:OpR X (compareOp .Is) (fun x y H Q=>y=.non/\Q (.bl (decide (x=.non))) H):=by
 intro DA s σ H x y v u Q I rx ry h
 obtain⟨rfl,q⟩:=h
 cases ry
 refine is_none_gen (yC4 I q ?_)
 cases x <;> first
  | (cases rx;rfl)
  | (obtain⟨t,rfl⟩:=rx;rfl)
theorem zL1:OpR X (compareOp .IsNot) (fun x y H Q=>y=.non/\Q (.bl (!decide (x=.non))) H):=by
 intro DA s σ H x y v u Q I rx ry h
 obtain⟨rfl,q⟩:=h
 cases ry
 refine isnot_none_gen (yC4 I q ?_)
 cases x <;> first
  | (cases rx;rfl)
  | (obtain⟨t,rfl⟩:=rx;rfl)
def isObj:HO->Bool
 | .lst _=>true
 | .ins _ _ _=>true
 | _=>false
theorem uQ{DA:List (Addr×Obj)}{s:Shared}{σ:St}{H:Hp}{a:Addr}{o:HO}(I:Inv X DA σ H s)(h:H a=some o)(p:isObj o=true):∃ob,s.heap.get? a=some ob/\ob.cls ≠ .type "tuple":=by
 cases o with
 | lst xs =>
  obtain⟨_,its,n,_,e⟩:xs.length<=sizeLine/\∃(its:List Value) (n:Nat),Vals xs its/\s.heap.get? a=some { cls:=.type "list",data:=.seq its.toArray n }:=I.hok a _ h
  exact⟨_,e,(by show Value.type "list" ≠ .type "tuple";decide +kernel)⟩
 | ins C dx fs =>
  have x:=I.hok a _ h
  obtain⟨_,_,_,e,_⟩:=x
  exact⟨_,e,(by show Value.ref C ≠ .type "tuple";exact fun z=>by cases z)⟩
 | _=>exact absurd (show false=true from p) Ap
theorem nomark(b:Expr){op:CmpOp}(h:autoParam (op ≠ .In) Dy)(h2:autoParam (op ≠ .NotIn) Dy):behindInMarks op b=false:=by
 have e1:(op == CmpOp.In)=false:=by cases op <;> first | rfl | exact absurd rfl h
 have e2:(op == CmpOp.NotIn)=false:=by cases op <;> first | rfl | exact absurd rfl h2
 cases b <;> simp[behindInMarks,e1,e2]
theorem xQ9{op:CmpOp}{r:R2}(ho:OpR X (compareOp op) r)(ha:PE X a ta)(hb:PE X b tb)(hm:behindInMarks op b=false):PE X (.Compare a [op] [b] pos) (tOp r ta tb):=by
 intro DA s σ H Q I h
 exact wpAny_Compare1 (binT ha hb I h fun v u s2 x y H2 I2 rx ry q=>ho DA s2 σ H2 x y v u Q I2 rx ry q) hm
def tTest(t:TE):TT:=fun σ H Q=>t σ H fun x H'=>∃k,x=.bl k/\Q k H'
theorem uK{op:CmpOp}{r:R2}(ho:OpR X (compareOp op) r)(ha:PE X a ta)(hb:PE X b tb)(hm:behindInMarks op b=false):PT X (.Compare a [op] [b] pos) (tTest (tOp r ta tb)):=by
 intro DA s σ H Q I h
 refine wpAny_isTrue_Compare1 (thn (ha DA s σ H _ I h) fun v s1 ⟨x,H1,I1,r1,q1⟩=>thn (hb DA s1 σ H1 _ I1 q1) fun u s2 ⟨y,H2,I2,r2,q2⟩ =>
  thn (ho DA s2 σ H2 x y v u _ I2 r1 r2 q2) fun c s3 ⟨z,H3,I3,r3,k,e,q3⟩ => ?_) hm
 subst e
 cases r3
 exact wpAny_truthy_bool ⟨H3,I3,q3⟩
def tChain(r r':R2)(ta tb tc:TE):TE:=fun σ H Q=>ta σ H fun x H1=>tb σ H1 fun y H2=>r x y H2 fun z H3=>∃k,z=.bl k /\
 (if k=true then tc σ H3 fun w' H4=>r' y w' H4 Q else Q (.bl false) H3)
theorem xT6{op op':CmpOp}{r r':R2}(ho:OpR X (compareOp op) r)(ho':OpR X (compareOp op') r')(ha:PE X a ta)(hb:PE X b tb)(hc:PE X c tc)
  (hm:autoParam (lastMarks [op,op'] [b,c]=false) zM1._auto_1):PE X (.Compare a [op,op'] [b,c] pos) (tChain r r' ta tb tc):=by
 intro DA s σ H Q I h
 refine Compare_chain (thn (ha DA s σ H _ I h) fun v s1 ⟨x,H1,I1,r1,q1⟩=>chain_link (thn (hb DA s1 σ H1 _ I1 q1) fun u s2 ⟨y,H2,I2,r2,q2⟩ =>
  thn (ho DA s2 σ H2 x y v u _ I2 r1 r2 q2) fun d s3 ⟨z,H3,I3,r3,k,e,q3⟩ => ?_)) hm
 subst e
 cases r3
 refine wpAny_truthy_bool ?_
 cases k with
 | false=>exact ite_ff ⟨.bl false,H3,I3,rfl,q3⟩
 | true=>exact ite_tt (chain_last (thn (hc DA s3 σ H3 _ I3 q3) fun w' s4 ⟨z',H4,I4,r4,q4⟩=>ho' DA s4 σ H4 y z' u w' Q I4 r2 r4 q4))
theorem xU5{op op':CmpOp}{r r':R2}(ho:OpR X (compareOp op) r)(ho':OpR X (compareOp op') r')(ha:PE X a ta)(hb:PE X b tb)(hc:PE X c tc)
  (hm:autoParam (lastMarks [op,op'] [b,c]=false) zM1._auto_1):PT X (.Compare a [op,op'] [b,c] pos) (tTest (tChain r r' ta tb tc)):=by
 intro DA s σ H Q I h
 refine isTrue_chain (thn (ha DA s σ H _ I h) fun v s1 ⟨x,H1,I1,r1,q1⟩=>test_link (thn (hb DA s1 σ H1 _ I1 q1) fun u s2 ⟨y,H2,I2,r2,q2⟩ =>
  thn (ho DA s2 σ H2 x y v u _ I2 r1 r2 q2) fun d s3 ⟨z,H3,I3,r3,k,e,q3⟩ => ?_)) hm
 subst e
 cases r3
 refine wpAny_truthy_bool ?_
 cases k with
 | false =>
  obtain⟨k',e',q'⟩:=q3
  cases e'
  exact ite_ff ⟨H3,I3,q'⟩
 | true =>
  refine ite_tt (test_last (thn (hc DA s3 σ H3 _ I3 q3) fun w' s4 ⟨z',H4,I4,r4,q4⟩=>thn (ho' DA s4 σ H4 y z' u w' _ I4 r2 r4 q4) fun d' s5 ⟨z2,H5,I5,r5,k2,e2,q5⟩ => ?_))
  subst e2
  cases r5
  exact wpAny_truthy_bool ⟨H5,I5,q5⟩
theorem line63:(sizeLine:Nat)<2 ^ 63:=by rw[sizeLine_eq];decide
theorem jP:OpR X (binaryOp .Add) (fun x y H Q=>∃i j,x=.str i/\y=.str j/\i.length+j.length<=sizeLine/\Q (.str (i++j)) H):=by
 intro DA s σ H x y v u Q I rx ry h
 obtain⟨i,j,rfl,rfl,hz,q⟩:=h
 obtain⟨t,rfl⟩:=rx
 obtain⟨t',rfl⟩:=ry
 exact add_str (fun t' tk=>⟨.str (i++j),H,I.tok _,⟨_,rfl⟩,q⟩) hz
theorem vals1{x:V}{us:List Value}(r:Vals [x] us):∃u,us=[u]/\RelV x u:=by
 cases r with
 | cons r1 r2=>cases r2;exact⟨_,rfl,r1⟩
theorem vals2{x y:V}{us:List Value}(r:Vals [x,y] us):∃u w',us=[u,w']/\RelV x u/\RelV y w':=by
 cases r with
 | cons r1 r2 =>
  cases r2 with
  | cons r3 r4=>cases r4;exact⟨_,_,rfl,r1,r3⟩
theorem aS(hc:X.calm=true):CallR X (.builtin "min") (fun xs H Q=>∃i j,xs=[.int i,.int j]/\Q (.int (if j<i then j else i)) H):=by
 intro DA s σ H xs us Q I r h
 obtain⟨i,j,rfl,q⟩:=h
 obtain⟨u,w',rfl,⟨t,rfl⟩,⟨t',rfl⟩⟩:=vals2 r
 refine min_two_ints (I.ok.hd hc) fun h' tk k=>⟨_,H,I.kept k,?_,q⟩
 by_cases hj:j<i
 ·rw[Am hj,Am hj];exact⟨_,rfl⟩
 ·rw[AG hj,AG hj];exact⟨_,rfl⟩
theorem yW7:CallR X (.type "str") (fun xs H Q=>∃i,xs=[.int i]/\i.natAbs.log2<1920/\Q (.str (toString i)) H):=by
 intro DA s σ H xs us Q I r h
 obtain⟨i,rfl,hz,q⟩:=h
 obtain⟨u,rfl,t,rfl⟩:=vals1 r
 exact PySem.P.str_of_int hz ⟨.str _,H,I.tok _,⟨_,rfl⟩,q⟩
end
structure ObjM(h:Heap)(x dx C:Addr)(mA:Str->Option Value):Prop where
 obj:h.get? x=some (PySem.W.instObj C dx)
 ns:h.Ns1 dx mA
 ne:dx≠x
section
variable {prog:Program}{w:World}{A:Around}{E:Value->Shared->Prop}{s:Shared}{K:KFr}{x dx C f:Addr}{mA:Str->Option Value}{name:Str}{v:Value}
end
section
variable {P:Program}{w:World}{H H':Hp}{h h':Heap}{a C dx:Addr}{fs fs':List (Str×V)}
end
structure Cls(K:KFr)(C:Addr):Prop where
 pg:PySem.W.plainGet K C Str.empty=true
 hd:PySem.W.hasDictIn K C=true
 po:PySem.W.plainOver K C=true
 sa:PySem.W.findIn K (.ref C) "__setattr__" = some (some (.builtin "object.__setattr__"))
structure Con(K:KFr)(C:Addr)(f:Str)(v:V)(u:Value):Prop where
 at_:PySem.W.findIn K (.ref C) f=some (some u)
 rel:RelV v u
 get:PySem.W.specialIn K u "__get__" = some none
 cp:PySem.W.copiedNames.contains f=false
structure Meth(K:KFr)(C:Addr)(m:Str)(f:Addr):Prop where
 at_:PySem.W.findIn K (.ref C) m=some (some (.ref f))
 fn:PySem.W.isFn K (.ref f)=true
 kp:PySem.W.keepIn K (.ref f)=true
section
variable {X:Cx}{DA:List (Addr×Obj)}{σ:St}{H:Hp}{s:Shared}{a C dx:Addr}{fs:List (Str×V)}{f:Str}{v:V}{A:Around}{E:Value->Shared->Prop}
end
section
variable {X:Cx}{o e value:Expr}{f:Str}{pos pos' tpos:Pos}{ta tv:TE}
def rAdd:V->V->Hp->VK->Prop:=fun x y H Q=>∃i j,x=.int i/\y=.int j/\Q (.int (i+j)) H
def rSub:V->V->Hp->VK->Prop:=fun x y H Q=>∃i j,x=.int i/\y=.int j/\Q (.int (i-j)) H
end
section
variable {X:Cx}{DA:List (Addr×Obj)}{σ:St}{H:Hp}{s:Shared}{A:Around}{E:Value->Shared->Prop}{Q:Value->Shared->Prop}{c:Value}{b:Bool}
inductive TyOf(K:KFr)(H:Hp):V->Value->Prop where
 | non:TyOf K H .non (.type "NoneType")
 | bl (x:Bool):TyOf K H (.bl x) (.type "bool")
 | int (i:Int):TyOf K H (.int i) (.type "int")
 | str (x:Str):TyOf K H (.str x) (.type "str")
 | flt (x:UInt64):TyOf K H (.flt x) (.type "float")
 | lst {a:Addr}{xs:List V}(e:H a=some (.lst xs)):TyOf K H (.ref a) (.type "list")
 | frz {a:Addr}{o:Obj}{xs:List V}(e:H a=some (.frz o (.lst xs))):TyOf K H (.ref a) (.type "list")
 | tup {a:Addr}{xs:List V}(e:H a=some (.tup xs)):TyOf K H (.ref a) (.type "tuple")
 | dK {a:Addr}{kvs:List (Key×V)}(e:H a=some (.dK kvs)):TyOf K H (.ref a) (.type "dict")
 | dT {a:Addr}{kvs:List (List Key×V)}(e:H a=some (.dT kvs)):TyOf K H (.ref a) (.type "dict")
 | ins {a C dx:Addr}{fs:List (Str×V)}(e:H a=some (.ins C dx fs)) (cl:Cls K C) (ha:PySem.W.findIn K (.ref C) "__class__" = some (some (.builtin "object.__class__")))
   (hn:PySem.W.specialIn K (.builtin "object.__class__") "__get__" = some (some (.builtin "getset_descriptor.__get__"))) (htk:PySem.W.takesIn K (.builtin "object.__class__")=some true)
   (hm:PySem.W.mroIn K C (.type "object")=some true):TyOf K H (.ref a) (.ref C)
end
structure Room(k:Nat)(A:Around):Prop where
 hd:A.handled=none
 dp:A.depth+3*k+5<recursionLimit
 un:A.units+16*k+200<cLine
theorem Room.mono{j k:Nat}{A:Around}(r:Room k A)(h:j<=k):Room j A:=⟨r.hd,by have:=r.dp;rfl',by have:=r.un;rfl'⟩
theorem Room.deeper{k:Nat}{A:Around}(r:Room (k+1) A)(env:Env):Room k (A.deeper env) :=
 ⟨r.hd,by have:=r.dp;show A.depth+1+3*k+5<_;rfl',by have:=r.un;show A.units+3+16*k+200<_;rfl'⟩
theorem yN9{A:Around}{C:Addr}{us:List Value}{kw:List (Str×Value)}:(A.under (.builtin "type.__call__" ⟨.ref C::us,kw⟩)).depth=A.depth+1:=by
 first | rfl | simp[Around.under,Code.weight,Code.isCreation,Code.isGuard,Code.isCaller,Code.frames,Code.isFrame,guardIds]
theorem yI2{A:Around}{C:Addr}{us:List Value}{kw:List (Str×Value)}:(A.under (.builtin "type.__call__" ⟨.ref C::us,kw⟩)).units=A.units+1:=by
 first | rfl | simp[Around.under,Code.cUnits,Code.frames,Code.isFrame]
theorem Room.make{k:Nat}{A:Around}(r:Room (k+1) A)(C:Addr)(us:List Value)(kw:List (Str×Value)):Room k (A.under (.builtin "type.__call__" ⟨.ref C::us,kw⟩)) :=
 ⟨r.hd,by have:=r.dp;rw[yN9];rfl',by have:=r.un;rw[yI2];rfl'⟩
theorem Room.depth{k:Nat}{A:Around}(r:Room k A):A.depth<recursionLimit:=by have:=r.dp;rfl'
theorem Room.units{k:Nat}{A:Around}(r:Room k A):A.units+64<cLine:=by have:=r.un;rfl'
def tNil:TA:=fun _ H Q=>Q [] H
def zH(ta:TE)(tr:TA):TA:=fun σ H Q=>ta σ H fun x H1=>tr σ H1 fun xs H2=>Q (x::xs) H2
section
variable {X:Cx}{e:Expr}{es:List Expr}{te:TE}{t:TA}{pos:Pos}
theorem zD:PA X [] tNil:=fun _ _ _ _ H Q I h=>Calls.spliced_nil ⟨[],H,I,.nil,h⟩
theorem zM(ha:PE X e te)(hr:PA X es t)(hs:autoParam (starEach (e::es) X.env=(false,eval e X.env)::starEach es X.env) Dz):PA X (e::es) (zH te t):=by
 intro pos DA s σ H Q I h
 rw[hs]
 show wpAny _ _ (spliced ((false,eval e X.env)::backTo pos (starEach es X.env))) _ _ s
 refine Dp (thn (ha DA s σ H _ I h) fun u s1 ⟨x,H1,I1,r1,q1⟩ => ?_)
 exact thn (hr pos DA s1 σ H1 _ I1 q1) fun us s2 ⟨xs,H2,I2,r2,q2⟩=>⟨x::xs,H2,I2,.cons r1 r2,q2⟩
def tTup(t:TA):TE:=fun σ H Q=>t σ H fun xs H1=>xs.length<=sizeLine/\∀p,H1 p=none->Q (.ref p) (upd H1 p (.tup xs))
def tLst(t:TA):TE:=fun σ H Q=>t σ H fun xs H1=>xs.length<=sizeLine/\∀p,H1 p=none->Q (.ref p) (upd H1 p (.lst xs))
theorem cZ{x1}(h:PA X es t):PE X (.Tuple es x1 pos) (tTup t):=by
 intro DA s σ H Q I hq
 refine wpAny_Tuple_spliced (thn (h pos DA s σ H _ I hq) fun us s1 ⟨xs,H1,I1,r,z,q⟩=>⟨by rw[<-r.length];exact z,?_⟩)
 have hf:H1 s1.heap.objs.size=none:=I1.hok.fresh (Ai _)
 refine⟨.ref s1.heap.objs.size,upd H1 s1.heap.objs.size (.tup xs),I1.laid (t':=s1.toks) (fun b u e=>Al _ e) (Ai _) ?_,rfl,q _ hf⟩
 exact⟨z,us,r,TupAt.new _ _⟩
theorem jW(h:PA X es t):PE X (.List es pos) (tLst t):=by
 intro DA s σ H Q I hq
 refine wpAny_List_spliced (thn (h pos DA s σ H _ I hq) fun us s1 ⟨xs,H1,I1,r,z,q⟩=>⟨by rw[<-r.length];exact z,?_⟩)
 have hf:H1 s1.heap.objs.size=none:=I1.hok.fresh (Ai _)
 refine⟨.ref s1.heap.objs.size,upd H1 s1.heap.objs.size (.lst xs),I1.laid (t':=s1.toks) (fun b u e=>Al _ e) (Ai _) ?_,rfl,q _ hf⟩
 exact⟨z,us,0,r,Az _ rfl⟩
end
abbrev Sp:=List V->Hp->VK->XK->Prop
abbrev CXT:=List Env->Hp->Shared->XK->Value->Shared->Prop
structure Env0(P:Program)(w:World)(K:KFr)(mg:Str->Option Value)(base:Heap)(A:Around)(outer:List Env)(s:Shared)(H:Hp):Prop where
 frames:A.frames=some outer
 mod:Mod K mg base
 bs:∀b o,base.get? b=some o->s.heap.get? b=some o/\H b=none
 bsz:base.objs.size<=s.heap.objs.size
 funs:s.heap.FunFrames base outer
 frf:∀b∈frs outer,H b=none
 hok:HOk P w H s.heap
 bare:AllBare s.gens
def CE(outer:List Env)(P:Program)(w:World)(H:Hp)(s:Shared)(Q:VK)(u:Value)(s':Shared):Prop :=
 ∃v H',s'.os=s.os/\AllBare s'.gens/\Un (frs outer) [] H H' s.heap s'.heap/\HOk P w H' s'.heap/\RelV v u/\Q v H'
def CR(CX:CXT)(outer:List Env)(P:Program)(w:World)(H:Hp)(s:Shared)(Q:VK)(E:XK)(r:Result)(s':Shared):Prop :=
 match r with
 | .ok (.ret u)=>CE outer P w H s Q u s'
 | .ok _=>False
 | .error e=>CX outer H s E e s'
structure FnOk(P:Program)(w:World)(K:KFr)(mg:Str->Option Value)(base:Heap)(CX:CXT)(k:Nat)(f:Addr)(fd:FuncData)(ps:List Str)(sp:Sp):Prop where
 len:∀vs H Q E,sp vs H Q E->vs.length=ps.length
 run:∀(A:Around) (outer:List Env) (s:Shared) (H:Hp) (args:Args) (us:List Value) (vs:List V) (Q:VK) (E:XK),Room k A->Env0 P w K mg base A outer s H->BindsTo s fd args (ps.zip us)->Vals vs us->sp vs H Q E ->
  codeAny (model P w) A (.call (.ref f) args) (CR CX outer P w H s Q E) s
theorem FnOk.imp{P:Program}{w:World}{K:KFr}{mg:Str->Option Value}{base:Heap}{CX:CXT}{k:Nat}{f:Addr}{fd:FuncData}{ps:List Str}{sp sp':Sp}(F:FnOk P w K mg base CX k f fd ps sp)
  (h:∀vs H Q E,sp' vs H Q E->sp vs H Q E):FnOk P w K mg base CX k f fd ps sp' :=
 ⟨fun vs H Q E q=>F.len vs H Q E (h _ _ _ _ q),fun A outer s H args us vs Q E hr he hb hv hs=>F.run A outer s H args us vs Q E hr he hb hv (h _ _ _ _ hs)⟩
theorem Env0.make{P:Program}{w:World}{K:KFr}{mg:Str->Option Value}{base:Heap}{A:Around}{outer:List Env}{s:Shared}{H:Hp}(e:Env0 P w K mg base A outer s H)(C:Addr)(us:List Value)(kw:List (Str×Value)) :
  Env0 P w K mg base (A.under (.builtin "type.__call__" ⟨.ref C::us,kw⟩)) outer s H:=⟨by first | exact e.frames | (simpa [Around.under,Code.envs,Code.isFrame,pushEnvs] using e.frames),e.mod,e.bs,e.bsz,e.funs,e.frf,e.hok,e.bare⟩
section
variable {X:Cx}{DA:List (Addr×Obj)}{σ:St}{H:Hp}{s s':Shared}
theorem Inv.env0(I:Inv X DA σ H s):Env0 X.prog X.w X.K X.mg X.base X.A X.stack s H :=
 ⟨I.ok.frames,I.ok.mod,I.bs,Ba I.ok.bsz I.sz,I.stack,I.stkFree,I.hok,I.bare⟩
theorem Inv.after{Q:VK}{u:Value}(I:Inv X DA σ H s)(h:CE X.stack X.prog X.w H s Q u s'):EP X DA σ Q u s':=by
 obtain⟨v,H',os,bare,un,hok,r,q⟩:=h
 obtain⟨hh,g,d,t,os'⟩:=s'
 obtain rfl:os'=s.os:=os
 exact⟨v,H',I.call (h':=hh) (g':=g) (d':=d) (t':=t) (ch:=[]) un hok bare (fun b z=>absurd z (by simp)),r,q⟩
end
def tCall(sp:Sp)(dvs:List V)(E:XK)(t:TA):TE:=fun σ H Q=>t σ H fun vs H1=>sp (vs++dvs) H1 Q E
def Binds(K:KFr)(fd:FuncData)(ps:List Str)(ds:List Value):Prop :=
 ∀(s:Shared) (us:List Value),K.In s.heap->(us++ds).length=ps.length->BindsTo s fd ⟨us,[]⟩ (ps.zip (us++ds))
theorem Binds.all{K:KFr}{fd:FuncData}{ps:List Str}(h:∀us:List Value,us.length=ps.length->bindArgs fd ⟨us,[]⟩=pure (ps.zip us)):Binds K fd ps []:=fun s us _ hl=>by
 rw[Ch] at hl ⊢
 exact .of_eq (h us hl)
def Passes(CX:CXT)(X:Cx)(E:XK):Prop:=∀(DA:List (Addr×Obj)) (σ:St) (H:Hp) (s:Shared) (e:Value) (s':Shared),Inv X DA σ H s->CX X.stack H s E e s'->X.xe e s'
section
variable {X:Cx}{CX:CXT}{k:Nat}{f C:Addr}{fd:FuncData}{ps:List Str}{sp:Sp}{dvs:List V}{ds:List Value}{E:XK}{x m:Str}{p pos apos:Pos}{e o:Expr}{es:List Expr}{ta:TE}{t:TA}
theorem xH8{DA:List (Addr×Obj)}{σ:St}{H:Hp}{s:Shared}{Q:VK}{us:List Value}{vs:List V}(F:FnOk X.prog X.w X.K X.mg X.base CX k f fd ps sp)(hr:Room k X.A)(hb:Binds X.K fd ps ds)(hd:Vals dvs ds)(hx:Passes CX X E)
  (I:Inv X DA σ H s) (r:Vals vs us) (h:sp (vs++dvs) H Q E):wpAny (model X.prog X.w) X.A (call (.ref f) us) (EP X DA σ Q) X.xe s:=by
 have r2:Vals (vs++dvs) (us++ds):=r.append hd
 have hl:(us++ds).length=ps.length:=by rw[<-r2.length];exact F.len _ _ _ _ h
 refine wpAny_call (codeAny_mono (F.run X.A X.stack s H ⟨us,[]⟩ (us++ds) (vs++dvs) Q E hr I.env0 (hb s us I.kIn hl) r2 h) fun r s' hq => ?_)
 cases r with
 | error e=>exact hx DA σ H s e s' I hq
 | ok fl =>
  cases fl with
  | ret u=>exact I.after hq
  | next=>exact False.elim hq
  | brk=>exact False.elim hq
  | cont=>exact False.elim hq
theorem vL(F:FnOk X.prog X.w X.K X.mg X.base CX k f fd ps sp)(hr:Room k X.A)(hg:Gl X x)(hm:X.mg x=some (.ref f))(hk:PySem.W.keepIn X.K (.ref f)=true)(hb:Binds X.K fd ps ds)(hd:Vals dvs ds)(hx:Passes CX X E)
  (ha:PA X (e::es) t) (hdb:autoParam ((x == ("__debug__":Str))=false) Dy) (he:autoParam (starEach (e::es) X.env=(false,eval e X.env)::starEach es X.env) Dz) (hpl:autoParam ((backTo pos (starEach es X.env)).any (·.1)=false) Dz) :
  PE X (.Call (.Name x p) (e::es) [] pos) (tCall sp dvs E t):=by
 intro DA s σ H Q I h
 refine wpAny_Call_Name_kw (vI I hg hm ?_ hdb)
 refine Dq (h₀:=X.base) I.ok.mod.kin hk (thn (ha pos DA s σ H _ I h) fun us s1 ⟨vs,H1,I1,r,q⟩=>⟨I1.kIn,?_⟩) he hpl
 exact xH8 F hr hb hd hx I1 r q
structure Mk(K:KFr)(C f:Addr):Prop where
 makes:PySem.W.makesIn K C=true
 init:PySem.W.findIn K (.ref C) "__init__" = some (some (.ref f))
 fn:PySem.W.isFn K (.ref f)=true
 kp:PySem.W.keepIn K (.ref C)=true
end
section
variable {X:Cx}{CX:CXT}{k:Nat}{f C:Addr}{fd:FuncData}{ps ks:List Str}{sp:Sp}{E:XK}{x m:Str}{p pos apos kpos:Pos}{e o:Expr}{es:List Expr}{kws:List Keyword}{te ta:TE}{t tk:TA}{nm:Option Str}
structure KBinds(K:KFr)(fd:FuncData)(ps ks:List Str)(g:List Value->List Value->List Value)(gV:List V->List V->List V):Prop where
 to:∀(s:Shared) (us ws:List Value),K.In s.heap->(g us ws).length=ps.length->BindsTo s fd ⟨us,ks.zip ws⟩ (ps.zip (g us ws))
 rel:∀{vs:List V}{us:List Value}{zs:List V}{ws:List Value},Vals vs us->Vals zs ws->Vals (gV vs zs) (g us ws)
variable {g:List Value->List Value->List Value}{gV:List V->List V->List V}
end
structure zJ(N P:List Str)(sc:Scope):Prop where
 kind:sc.kind=.function
 co:sc.isCoroutine=false
 gen:sc.isGenerator=false
 nd:N.Nodup
 pre:N.take P.length=P
 par:∀x∈P,sc.names.lookup x=some .local \/ sc.names.lookup x=some .cell
 nofree:∀y∈sc.names,y.2 ≠ .free
theorem zG1{kindOf:Str->Option NameKind}{x:Str}:∀{binds:List (Str×Value)}{m:Str->Option Value},(∀v,(x,v)∉binds)->bindL kindOf binds m x=m x
 | [],_,_=>rfl
 | (n,v)::r,m,h=>by
  unfold bindL
  rw[zG1 fun w hw=>h w (Ae _ hw)]
  split
  ·have:x≠n:=by rintro rfl;exact h v Ac
   simp[this]
  ·rfl
theorem zI8{kindOf:Str->Option NameKind}{x:Str}:∀{binds:List (Str×Value)}{m:Str->Option Value},(∀v,(x,v)∉binds)->bindC kindOf binds m x=m x
 | [],_,_=>rfl
 | (n,v)::r,m,h=>by
  unfold bindC
  rw[zI8 fun w hw=>h w (Ae _ hw)]
  split
  ·rfl
  ·have:x≠n:=by rintro rfl;exact h v Ac
   simp[this]
theorem zF1{kindOf:Str->Option NameKind}{x:Str}{v:Value}:∀{P:List Str}{vs:List Value}{i:Nat}{m:Str->Option Value},P.Nodup->P[i]?=some x->vs[i]?=some v->kindOf x=some .local ->
  bindL kindOf (P.zip vs) m x=some v
 | [],_,_,_,_,h,_,_=>by simp at h
 | _::_,[],_,_,_,_,h,_=>by simp at h
 | p::P,w::vs,0,m,nd,h1,h2,hk=>by
  simp at h1 h2;subst h1;subst h2
  show bindL kindOf ((p,w)::P.zip vs) m p=_
  unfold bindL
  rw[zG1 fun v hv=>(Ci.mp nd).1 (Dm hv).1,Am hk]
  simp
 | p::P,w::vs,i+1,m,nd,h1,h2,hk=>by
  show bindL kindOf ((p,w)::P.zip vs) m x=_
  unfold bindL
  exact zF1 (i:=i) (Ci.mp nd).2 (by simpa using h1) (by simpa using h2) hk
theorem zF2{kindOf:Str->Option NameKind}{x:Str}{v:Value}:∀{P:List Str}{vs:List Value}{i:Nat}{m:Str->Option Value},P.Nodup->P[i]?=some x->vs[i]?=some v->kindOf x≠some .local ->
  bindC kindOf (P.zip vs) m x=some v
 | [],_,_,_,_,h,_,_=>by simp at h
 | _::_,[],_,_,_,_,h,_=>by simp at h
 | p::P,w::vs,0,m,nd,h1,h2,hk=>by
  simp at h1 h2;subst h1;subst h2
  show bindC kindOf ((p,w)::P.zip vs) m p=_
  unfold bindC
  rw[zI8 fun v hv=>(Ci.mp nd).1 (Dm hv).1,AG hk]
  simp
 | p::P,w::vs,i+1,m,nd,h1,h2,hk=>by
  show bindC kindOf ((p,w)::P.zip vs) m x=_
  unfold bindC
  exact zF2 (i:=i) (Ci.mp nd).2 (by simpa using h1) (by simpa using h2) hk
def start(N:List Str)(vs:List V):St:=vs.map some++List.replicate (N.length-vs.length) none
def cxOf(CX:CXT)(P:Program)(w:World)(K:KFr)(mg:Str->Option Value)(base:Heap)(N:List Str)(qual:Str)(scope:Scope)(f:Addr)(cd:Value)(A:Around)(outer:List Env)(s:Shared)(H:Hp)(E:XK):Cx where
 prog:=P
 w:=w
 K:=K
 mg:=mg
 base:=base
 A:=A.deeper (envOfC qual scope s.heap.objs.size f cd)
 N:=N
 s₀:=s
 H₀:=H
 env:=envOfC qual scope s.heap.objs.size f cd
 outer:=outer
 stack:=envOfC qual scope s.heap.objs.size f cd::outer
 ex:=[]
 calm:=true
 fn:=fun _=>true
 pn:=[]
 xe:=fun e s'=>wpAny (model P w) (A.deeper (envOfC qual scope s.heap.objs.size f cd)) (leaving (envOfC qual scope s.heap.objs.size f cd) e) (fun _ s''=>CX outer H s E e s'') (fun e' s''=>CX outer H s E e' s'') s'
theorem yW2{sc:Scope}{n:Nat}{x:Str}(h:sc.names.lookup x=some .cell):∃c,(cellsFrom n sc.names []).lookup x=some c:=by
 have q:=CV sc.names n [] (.inl h)
 exact Option.isSome_iff_exists.mp q
theorem zH6{CX:CXT}{P:Program}{w:World}{K:KFr}{mg:Str->Option Value}{base:Heap}{N ps:List Str}{qual:Str}{scope:Scope}{f:Addr}{cd:Value}{A:Around}{outer:List Env}{s s1:Shared}{H:Hp}{E:XK}{us:List Value}{vs:List V}
  (S:zJ N ps scope) (hd:A.handled=none) (e0:Env0 P w K mg base A outer s H) (hl:vs.length=ps.length) (r:Vals vs us)
  (x:InCallC s s.heap.objs.size (bindL (envOfC qual scope s.heap.objs.size f cd).kindOf (ps.zip us) fun _=>none) (cellsFrom (s.heap.objs.size+1) scope.names []) (bindC (envOfC qual scope s.heap.objs.size f cd).kindOf (ps.zip us) fun _=>none) s1) :
  Inv (cxOf CX P w K mg base N qual scope f cd A outer s H E) [] (start N vs) H s1:=by
 have hpl:ps.length<=N.length:=by have:=BQ List.length S.pre;rw[Bo] at this;rfl'
 obtain⟨h1,tk,rfl,hk⟩:=x.done
 have noA:∀b:Addr,b∉(cxOf CX P w K mg base N qual scope f cd A outer s H E).ex:=fun b z=>absurd (show b∈([]:List Addr) from z) (by simp)
 refine⟨⟨e0.mod,S.kind,rfl,rfl,Ai _,fun y z c h1 h2 => ?_,fun y hy => ?_,fun y c _ h => ?_,fun _=>hd,Around.frames_deeper e0.frames,.inr ⟨rfl,rfl⟩,fun b z=>absurd z (noA b),e0.bs,e0.bsz,fun b _ _=>noA b,fun b z=>absurd z (noA b),e0.funs,e0.frf⟩,
  rfl,e0.bare,Un.kept hk,⟨_,x.toInCall.ns,fun i y v h1 h2 h3 => ?_⟩,fun y c h=>⟨_,x.cell y c h⟩,e0.hok.fresh (Ai _),fun y c h => ?_,fun p hp=>absurd (show p∈([]:List (Addr×Obj)) from hp) (by simp),e0.hok.kept hk,?_⟩
 ·exact name_of_addr x.apart (AZ h1) (AZ h2)
 ·have hy:scope.names.lookup y=some .cell\/scope.names.lookup y=some .free:=hy
  rcases hy with hy | hy
  ·exact yW2 hy
  ·exact absurd rfl (S.nofree _ (AZ hy))
 ·exact Bw (x.above y c (AZ h))
 ·have hi:i<vs.length:=by
   unfold start at h2
   by_cases hi:i<vs.length
   ·exact hi
   ·rw[BK (by simpa using hi)] at h2
    rw[BX] at h2
    split at h2 <;> cases h2
  have ha:vs[i]?=some v:=by
   unfold start at h2
   rw[BB (by simpa using hi),Ak] at h2
   cases e:vs[i]? with
   | none=>rw[e] at h2;cases h2
   | some a=>rw[e] at h2;cases h2;rfl
  obtain⟨u,hu,rv⟩:=r.get ha
  have hp:ps[i]?=some y:=by
   rw[<-S.pre,List.getElem?_take_of_lt (by rfl')];exact h1
  have ndP:ps.Nodup:=by rw[<-S.pre];exact S.nd.sublist (List.take_sublist _ _)
  refine⟨u,rv,?_⟩
  rcases S.par y (AS hp) with k | k
  ·exact .inl ⟨k,zF1 ndP hp hu k⟩
  ·obtain⟨c,e⟩:=yW2 (n:=s.heap.objs.size+1) k
   refine .inr ⟨.inl k,c,e,?_⟩
   have q:=x.cell y c e
   rw[zF2 ndP hp hu (by show scope.names.lookup y≠_;rw[k];decide)] at q
   exact q
 ·exact e0.hok.fresh (Bw (x.above y c (AZ h)))
 ·unfold start
  show _=N.length
  rw[Aq,Aa,BO]
  rfl'
theorem yM3{CX:CXT}{P:Program}{w:World}{K:KFr}{mg:Str->Option Value}{base:Heap}{k:Nat}{f:Addr}{name qual:Str}{params:Arguments}{body:List Stmt}{scope:Scope}{dV kV doc pm cdv ct oc:Value}{an od:Option Addr}
  {osl:Array (Option Value)}{N ps:List Str}{sp:Sp}(lk:K.lookup f=some ⟨oc,od,.func (PySem.W.fnOf name qual params body scope dV kV doc pm an cdv ct),osl⟩) (hcd:PySem.W.codeIn K cdv qual=true) (S:zJ N ps scope)
  (len:∀vs H Q E,sp vs H Q E->vs.length=ps.length)
  (hbody:∀(A:Around) (outer:List Env) (s:Shared) (H:Hp) (vs:List V) (Q:VK) (E:XK),Room k (A.deeper (envOfC qual scope s.heap.objs.size f cdv))->sp vs H Q E ->
   ∃t,PSs (cxOf CX P w K mg base N qual scope f cdv A outer s H E) body t/\t { nx:=fun _ H'=>Q .non H',rt:=Q } (start N vs) H) :
  FnOk P w K mg base CX (k+1) f (PySem.W.fnOf name qual params body scope dV kV doc pm an cdv ct) ps sp:=by
 refine⟨len,fun A outer s H args us vs Q E hr e0 hb r hsp => ?_⟩
 have hl:=len _ _ _ _ hsp
 have KX:K.In s.heap:=e0.mod.kin.keeps fun b o e=>(e0.bs b o e).1
 have lim:s.heap.NoLimit:=e0.mod.nolimit.keeps fun b o e=>(e0.bs b o e).1
 have hkind:∀y∈ps.zip us,scope.names.lookup y.1=some .local \/ (scope.names.lookup y.1=some .cell/\((cellsFrom (s.heap.objs.size+1) scope.names []).lookup y.1).isSome=true):=fun ⟨n,v⟩ hy=>by
  rcases S.par n (Dm hy).1 with q | q
  ·exact .inl q
  ·exact .inr ⟨q,CV _ _ _ (.inl q)⟩
 refine codeAny_call_function hr.depth (KX _ _ lk) rfl S.co S.gen rfl (PySem.W.codeRec_of KX hcd) (hb _ _ _ _ ?_)
 refine wpAny_newFunctionEnv_cells S.kind hkind fun env he s1 x => ?_
 subst he
 refine⟨lim.keeps x.toInCall.keep,codeAny_func ?_⟩
 obtain⟨t,ht,hq⟩:=hbody A outer s H vs Q E (hr.deeper _) hsp
 have I:Inv (cxOf CX P w K mg base N qual scope f cdv A outer s H E) [] (start N vs) H s1:=zH6 S hr.hd e0 hl r x
 refine wpAny_mono (ht [] s1 (start N vs) H _ I hq) (fun fl s' hs => ?_) fun e s' hs=>hs
 have fin:∀{σ':St}{H':Hp}{v:V}{u:Value},Inv (cxOf CX P w K mg base N qual scope f cdv A outer s H E) [] σ' H' s'->RelV v u->Q v H'->CE outer P w H s Q u s' :=
  fun {σ' H' v u} J rv q=>⟨v,H',J.os,J.bare,J.base,J.hok,rv,q⟩
 cases fl with
 | ret u =>
  obtain⟨v,σ',H',J,rv,q⟩:=hs
  exact fin J rv q
 | next =>
  obtain⟨σ',H',J,q⟩:=hs
  exact fin (v:=V.non) (u:=Value.none) J rfl q
 | brk =>
  obtain⟨_,_,_,q⟩:=hs
  exact False.elim q
 | cont =>
  obtain⟨_,_,_,q⟩:=hs
  exact False.elim q
section
variable {X:Cx}{x:Str}{p pos:Pos}{e:Expr}{es:List Expr}{t:TA}{id T:String}{r:List V->Hp->VK->Prop}
def tCB(r:List V->Hp->VK->Prop)(t:TA):TE:=fun σ H Q=>t σ H fun vs H1=>r vs H1 Q
theorem gH(hc:CallR X (.builtin id) r)(hg:Gl X x)(hm:X.mg x=none)(hv:bootBuiltins x=some (.builtin id))(ha:PA X (e::es) t)(hn:autoParam (x ≠ "__name__") Dy)(hdb:autoParam ((x == ("__debug__":Str))=false) Dy)
  (he:autoParam (starEach (e::es) X.env=(false,eval e X.env)::starEach es X.env) Dz) (hpl:autoParam ((backTo pos (starEach es X.env)).any (·.1)=false) Dz):PE X (.Call (.Name x p) (e::es) [] pos) (tCB r t):=by
 intro DA s σ H Q I h
 refine wpAny_Call_Name_kw (cG I hg hm hv ?_ hn hdb)
 exact PyProof.Rows.callWith_builtin1 (thn (ha pos DA s σ H _ I h) fun us s1 ⟨vs,H1,I1,r1,q1⟩=>hc DA s1 σ H1 vs us Q I1 r1 q1) he hpl
theorem uO(hc:CallR X (.type T) r)(hg:Gl X x)(hm:X.mg x=none)(hv:bootBuiltins x=some (.type T))(ha:PA X (e::es) t)(hn:autoParam (x ≠ "__name__") Dy)(hdb:autoParam ((x == ("__debug__":Str))=false) Dy)
  (he:autoParam (starEach (e::es) X.env=(false,eval e X.env)::starEach es X.env) Dz) (hpl:autoParam ((backTo pos (starEach es X.env)).any (·.1)=false) Dz):PE X (.Call (.Name x p) (e::es) [] pos) (tCB r t):=by
 intro DA s σ H Q I h
 refine wpAny_Call_Name_kw (cG I hg hm hv ?_ hn hdb)
 exact BJ (thn (ha pos DA s σ H _ I h) fun us s1 ⟨vs,H1,I1,r1,q1⟩=>hc DA s1 σ H1 vs us Q I1 r1 q1) he hpl
end
end L2
namespace HT
open PySem PyProof.Rows
section
open PySem.SeqAt
open PySem.AutoSeq1 (wpAny_loadPart')
open PySem.MeetsSeq PySem.MeetsSeq2 PySem.MeetsSeq3
end
section
variable {prog:Program}{w:World}{A:Around}{E:Value->Shared->Prop}{s:Shared}
def sIx(n d:Nat):Option Int->Nat
 | none=>d
 | some v=>if v<0 then (v+(n:Int)).toNat else min v.toNat n
theorem zA4(n d:Nat):sIx n d none=d:=rfl
theorem yR7(n d k:Nat):sIx n d (some (k:Int))=min k n:=by
 show (if (k:Int)<0 then ((k:Int)+(n:Int)).toNat else min (k:Int).toNat n)=min k n
 rw[AG (by rfl'),Be]
theorem xF8(n d:Nat)(hd:d<=n)(o:Option Int):sIx n d o<=n:=by
 cases o with
 | none=>exact hd
 | some v =>
  show (if v<0 then (v+(n:Int)).toNat else min v.toNat n)<=n
  by_cases hv:v<0
  ·rw[Am hv];rfl'
  ·rw[AG hv];exact Nat.min_le_right _ _
theorem yQ9(v:Int)(n d:Nat):(if v<0 then max (v+(n:Int)) 0 else min v (n:Int))=((sIx n d (some v):Nat):Int):=by
 show (if v<0 then max (v+(n:Int)) 0 else min v (n:Int))=(((if v<0 then (v+(n:Int)).toNat else min v.toNat n):Nat):Int)
 by_cases hv:v<0
 ·simp only[Am hv];rfl'
 ·simp only[AG hv];rfl'
theorem yL9(lo hi:Option Int)(n:Nat):Builtin.Slice.sliceAdjust lo hi 1 (n:Int)=(((sIx n 0 lo:Nat):Int),((sIx n n hi:Nat):Int)):=by
 have h1:¬((1:Int)<0):=by rfl'
 unfold Builtin.Slice.sliceAdjust
 simp only[h1,if_false]
 refine Prod.ext ?_ ?_
 ·cases lo with
  | none=>rfl
  | some v=>exact yQ9 v n 0
 ·cases hi with
  | none=>rfl
  | some v=>exact yQ9 v n n
theorem yL6(i j:Nat):Builtin.Slice.slicePlaces (i:Int) (j:Int) 1=j-i:=by
 unfold Builtin.Slice.slicePlaces
 have h1:(1:Int) > 0:=by rfl'
 simp only[h1,if_true,Int.ediv_one]
 split <;> rfl'
theorem zN6{v:Value}{o:Option Int}{Q:Option Int->Shared->Prop}(p:IsPart v o)(h:Q o s):wpAny (model prog w) A (Builtin.Slice.slicePartIndex v) Q E s:=by
 cases p with
 | none=>exact slicePart_none h
 | int i t=>exact slicePart_int h
theorem gB{sl:Addr}{vl vu:Value}{lo hi:Option Int}{n:Nat}{Q:Int×Int×Nat->Shared->Prop}(hs:s.heap.IsSliceOf sl vl vu .none)(pl:IsPart vl lo)(pu:IsPart vu hi)
  (h:Q (((sIx n 0 lo:Nat):Int),1,sIx n n hi-sIx n 0 lo) s):wpAny (model prog w) A (Builtin.Slice.sliceApplied (.ref sl) (pure (n:Int))) Q E s:=by
 obtain⟨os,hos,hcs,hds⟩:=id hs
 unfold Builtin.Slice.sliceApplied Builtin.Slice.sliceFields
 refine Ab (Ab (wpAny_field hos hds (x:=vl) rfl (Ab (wpAny_field hos hds (x:=vu) rfl (Ab (wpAny_field hos hds (x:=.none) rfl (Ar ?_)))))))
 refine Ab (slicePart_none ?_)
 show wpAny _ _ (if ((1:Int) == 0)=true then _ else _) _ _ s
 rw[AG (by decide)]
 refine Ab (zN6 pl (Ab (zN6 pu (Ab (Ar ?_)))))
 show wpAny _ _ (match Builtin.Slice.sliceAdjust lo hi 1 (n:Int) with | (lo,hi)=>pure (lo,(1:Int),Builtin.Slice.slicePlaces lo hi 1)) _ _ s
 rw[yL9 lo hi n]
 show wpAny _ _ (pure (((sIx n 0 lo:Nat):Int),(1:Int),Builtin.Slice.slicePlaces ((sIx n 0 lo:Nat):Int) ((sIx n n hi:Nat):Int) 1)) _ _ s
 rw[yL6]
 exact Ar h
theorem xV2(xs:Array Value)(i k:Nat):((List.range k).filterMap fun (m:Nat)=>xs[((i:Int)+(m:Int)*1).toNat]?).toArray=((xs.toList.drop i).take k).toArray:=by
 have e:(fun (m:Nat)=>xs[((i:Int)+(m:Int)*1).toNat]?)=fun m=>xs[i+m]?:=by
  funext m
  have:((i:Int)+(m:Int)*1).toNat=i+m:=by rfl'
  rw[this]
 rw[e]
 have:=pick_run xs i k
 rw[List.filterMap_map] at this
 have e2:((fun x=>xs[x]?)∘fun x=>i+x)=fun m=>xs[i+m]?:=rfl
 rw[e2] at this
 rw[this]
theorem zV1{t sl:Addr}{items:Array Value}{vl vu:Value}{lo hi:Option Int}{Q:Value->Shared->Prop}(ht:IsTup s.heap t items)(hs:s.heap.IsSliceOf sl vl vu .none)(pl:IsPart vl lo)(pu:IsPart vu hi)
  (hw:¬(sIx items.size 0 lo=0/\sIx items.size items.size hi=items.size))
  (h:Q (.ref s.heap.objs.size) { s with heap:=s.heap.push { cls:=.type "tuple",data:=.seq ((items.toList.drop (sIx items.size 0 lo)).take (sIx items.size items.size hi-sIx items.size 0 lo)).toArray } })
  (hsz:items.size<=sizeLine):wpAny (model prog w) A (getItem (.ref t) (.ref sl)) Q E s:=by
 have htake:sizeOk (.seq ((items.toList.drop (sIx items.size 0 lo)).take (sIx items.size items.size hi-sIx items.size 0 lo)).toArray):=by
  show ((items.toList.drop (sIx items.size 0 lo)).take (sIx items.size items.size hi-sIx items.size 0 lo)).toArray.size<=sizeLine
  rw[As,Bo,BF,BL]
  rfl'
 have hj:sIx items.size items.size hi<=items.size:=xF8 _ _ (Ai _) hi
 obtain⟨os,hos,hcs,hds⟩:=id hs
 have hTs:s.TypeIs (.ref sl) "slice":=⟨os,hos,hcs⟩
 unfold getItem
 try with_reducible refine wpAny_holding ?_
 first | refine Ab (Ar ?_) | skip
 refine Ab (wpAny_sequenceKey ht.typeIs (by decide) ?_)
 refine Ab (wpAny_callSpecial?_slot (name:=Str.ofString "__getitem__") ht.typeIs BN
  (wpAny_call_entry BN ht.typeIs entry_tuple_getitem ?_ (args_tuple_getitem _ _)))
 show wpAny _ _ (Builtin.Tuple.tupleItemsOf (.ref t) >>= _) _ _ s
 refine Ab (tupleItemsOf_ ht ?_)
 refine Ab (wpAny_typeOf hTs ?_)
 rw[Am (by decide)]
 refine Ab (gB hs pl pu ?_)
 have hno:¬((((sIx items.size 0 lo:Nat):Int) == 0&&(1:Int) == 1&&(sIx items.size items.size hi-sIx items.size 0 lo) == items.size)=true):=by
  intro q
  rw[AH,AH] at q
  have q1:((sIx items.size 0 lo:Nat):Int)=0:=eq_of_beq q.1.1
  have q2:sIx items.size items.size hi-sIx items.size 0 lo=items.size:=eq_of_beq q.2
  exact hw ⟨by rfl',by rfl'⟩
 show wpAny _ _ (if (((sIx items.size 0 lo:Nat):Int) == 0&&(1:Int) == 1&&(sIx items.size items.size hi-sIx items.size 0 lo) == items.size)=true then _ else _) _ _ s
 rw[AG hno,xV2]
 first
  | exact Ab (m:=Builtin.Tuple.tupleExact _) (wpAny_newObj_type (Ar ⟨_,rfl,Ar h⟩) htake)
  | exact Ab (m:=Builtin.Tuple.tupleExact _) (wpAny_newObj_type (Ab (Ar (Ar ⟨_,rfl,Ar h⟩))) htake)
  | exact Ab (Ab (m:=Builtin.Tuple.tupleExact _) (wpAny_newObj_type (Ar (Ar ⟨_,rfl,Ar h⟩)) htake))
  | exact Ab (Ab (m:=Builtin.Tuple.tupleExact _) (wpAny_newObj_type (Ar ⟨_,rfl,Ar h⟩) htake))
end
end HT
namespace L2
open PySem PySem.Spec PyProof.Rows
abbrev TO:=St->Hp->(Option Int->Hp->Prop)->Prop
def PO(X:Cx)(e:Option Expr)(t:TO):Prop :=
 ∀(DA:List (Addr×Obj)) (s:Shared) (σ:St) (H:Hp) (Q:Option Int->Hp->Prop),Inv X DA σ H s->t σ H Q ->
  wpAny (model X.prog X.w) X.A (evalPart e X.env) (fun u s'=>∃o H',Inv X DA σ H' s'/\IsPart u o/\Q o H') X.xe s
def tNoPart:TO:=fun _ H Q=>Q none H
def tPart(t:TE):TO:=fun σ H Q=>t σ H fun x H1=>∃i,x=.int i/\Q (some i) H1
theorem bN{ns:List Int}:∀{us:List Value},Vals (ns.map V.int) us->IntsAre us ns:=by
 induction ns with
 | nil=>intro us r;rw[List.map_nil] at r;cases r;exact .nil
 | cons n ns ih =>
  intro us r
  rw[AF] at r
  cases r with
  | cons r1 r2 =>
   obtain⟨t,e⟩:=r1
   subst e
   exact .cons n t (ih r2)
section
variable {X:Cx}{e:Expr}{te:TE}{lo hi:Option Expr}{tl th:TO}{pos p2:Pos}
theorem xJ8:PO X none tNoPart:=by
 intro DA s σ H Q I h
 rw[evalPart_none]
 exact Ar ⟨none,H,I,.none,h⟩
theorem xP2(h:PE X e te):PO X (some e) (tPart te):=by
 intro DA s σ H Q I hw
 rw[evalPart_some]
 refine thn (h DA s σ H _ I hw) fun u s1 ⟨x,H1,I1,r1,q1⟩ => ?_
 obtain⟨i,rfl,q⟩:=q1
 obtain⟨t,rfl⟩:=r1
 exact⟨some i,H1,I1,.int i t,q⟩
def SlR(X:Cx)(r:V->Option Int->Option Int->Hp->VK->Prop):Prop :=
 ∀(DA:List (Addr×Obj)) (s:Shared) (σ:St) (H:Hp) (x:V) (v vl vu:Value) (lo hi:Option Int) (sl:Addr) (Q:VK),Inv X DA σ H s->RelV x v->s.heap.IsSliceOf sl vl vu .none->IsPart vl lo->IsPart vu hi->r x lo hi H Q ->
  ∃T id,typeLookup (.type T) "__getitem__" = pure (some (.builtin id))/\s.TypeIs v T/\wpAny (model X.prog X.w) X.A (getItem v (.ref sl)) (EP X DA σ Q) X.xe s
theorem SlR.or{r r':V->Option Int->Option Int->Hp->VK->Prop}(h:SlR X r)(h':SlR X r'):SlR X (fun x lo hi H Q=>r x lo hi H Q\/r' x lo hi H Q):=by
 intro DA s σ H x v vl vu lo hi sl Q I rx hs pl pu q
 rcases q with q | q
 ·exact h DA s σ H x v vl vu lo hi sl Q I rx hs pl pu q
 ·exact h' DA s σ H x v vl vu lo hi sl Q I rx hs pl pu q
def tSl(r:V->Option Int->Option Int->Hp->VK->Prop)(te:TE)(tl th:TO):TE:=fun σ H Q=>te σ H fun x H1=>tl σ H1 fun l H2=>th σ H2 fun u H3=>r x l u H3 Q
theorem xT7{r:V->Option Int->Option Int->Hp->VK->Prop}(hr:SlR X r)(he:PE X e te)(hl:PO X lo tl)(hu:PO X hi th):PE X (.Subscript e (.Slice lo hi none p2) pos) (tSl r te tl th):=by
 intro DA s σ H Q I h
 refine Subscript_ (thn (he DA s σ H _ I h) fun v s1 ⟨x,H1,I1,r1,q1⟩ => ?_)
 refine wpAny_Slice (thn (hl DA s1 σ H1 _ I1 q1) fun vl s2 ⟨l,H2,I2,pl,q2⟩=>thn (hu DA s2 σ H2 _ I2 q2) fun vu s3 ⟨u,H3,I3,pu,q3⟩ => ?_)
 rw[evalPart_none]
 refine Ar ?_
 have I4:Inv X DA σ H3 { s3 with heap:=s3.heap.push { cls:=.type "slice",data:=.fields #[vl,vu,.none] } }:=I3.kept (t':=s3.toks) fun b ob q=>Al _ q
 obtain⟨T,id,hT,ht,hg⟩:=hr DA { s3 with heap:=s3.heap.push { cls:=.type "slice",data:=.fields #[vl,vu,.none] } } σ H3 x v vl vu l u s3.heap.objs.size Q I4 r1 (Heap.IsSliceOf.new ..) pl pu q3
 show wpAny (model X.prog X.w) X.A (subscriptTail e (.Slice lo hi none p2) v (.ref s3.heap.objs.size)) (EP X DA σ Q) X.xe { s3 with heap:=s3.heap.push { cls:=.type "slice",data:=.fields #[vl,vu,.none] } }
 exact tail_any (ops:=[.ref s3.heap.objs.size,v]) ht hT hg (by with_unfolding_all rfl)
def cutV(xs:List V)(lo hi:Option Int):List V:=(xs.drop (HT.sIx xs.length 0 lo)).take (HT.sIx xs.length xs.length hi-HT.sIx xs.length 0 lo)
theorem zV4(xs:List V)(lo hi:Option Int):(cutV xs lo hi).length<=xs.length:=by
 unfold cutV
 rw[Bo,BF]
 rfl'
def rSlT(K:KFr):V->Option Int->Option Int->Hp->VK->Prop:=fun x lo hi H Q=>∃a xs,x=.ref a/\SqT K H a xs /\
 ¬(HT.sIx xs.length 0 lo=0/\HT.sIx xs.length xs.length hi=xs.length)/\∀p,H p=none->Q (.ref p) (upd H p (.tup (cutV xs lo hi)))
theorem xG2:SlR X (rSlT X.K):=by
 intro DA s σ H x v vl vu lo hi sl Q I rx hs pl pu h
 obtain⟨a,xs,rfl,hx,hw,q⟩:=h
 cases rx
 obtain⟨its,r,ht,hz⟩:=I.tuple hx
 have hlen:its.toArray.size=xs.length:=by rw[As];exact r.length.symm
 refine⟨"tuple",_,BN.lookup,ht.typeIs,?_⟩
 refine HT.zV1 ht hs pl pu (by rw[hlen];exact hw) ?_ (by rw[hlen];exact hz)
 rw[hlen]
 refine⟨.ref s.heap.objs.size,_,I.laid (t':=s.toks) (o:=.tup (cutV xs lo hi)) (fun b ob q=>Al _ q) (Ai _) ?_,rfl,q _ (I.hok.fresh (Ai _))⟩
 exact⟨Ba (zV4 xs lo hi) hz,_,(r.drop (HT.sIx xs.length 0 lo)).take (HT.sIx xs.length xs.length hi-HT.sIx xs.length 0 lo),TupAt.new _ _⟩
end
def ixN(n:Nat)(i:Int):Option Nat:=if 0<=i then (if i<n then some i.toNat else none) else if -(n:Int)<=i then some (i+n).toNat else none
def atI{α:Type}(xs:List α)(i:Int):Option α:=(ixN xs.length i).bind fun j=>xs[j]?
theorem yP8{n:Nat}{i:Int}{j:Nat}(h:ixN n i=some j):seqIndex? i n=some j/\j<n/\-(n:Int)<=i/\i<n:=by
 unfold ixN at h
 by_cases h0:0<=i
 ·rw[Am h0] at h
  by_cases h1:i<n
  ·rw[Am h1] at h
   have e:i.toNat=j:=AX h
   exact⟨by rw[seqIndex_of h0 h1,e],by rfl',by rfl',h1⟩
  ·rw[AG h1] at h;cases h
 ·rw[AG h0] at h
  by_cases h1:-(n:Int)<=i
  ·rw[Am h1] at h
   have e:(i+n).toNat=j:=AX h
   exact⟨by rw[seqIndex_neg (by rfl') h1,e],by rfl',h1,by rfl'⟩
  ·rw[AG h1] at h;cases h
theorem zM7{α:Type}{xs:List α}{i:Int}{v:α}(h:atI xs i=some v):∃j,seqIndex? i xs.length=some j/\xs[j]?=some v/\j<xs.length/\-(xs.length:Int)<=i/\i<xs.length:=by
 unfold atI at h
 cases e:ixN xs.length i with
 | none=>rw[e] at h;cases h
 | some j =>
  rw[e] at h
  obtain⟨h1,h2,h3,h4⟩:=yP8 e
  exact⟨j,h1,h,h2,h3,h4⟩
theorem zK2{α:Type}{xs:List α}{j:Nat}{v:α}(h:xs[j]?=some v):atI xs (j:Int)=some v:=by
 have hj:j<xs.length:=(Aj.mp h).1
 have e:ixN xs.length (j:Int)=some j:=by
  unfold ixN
  rw[Am (by rfl'),Am (by rfl')];simp
 unfold atI;rw[e];exact h
theorem zS1{α:Type}(xs:List α)(v:α):atI (xs ++ [v]) (-1)=some v:=by
 have hl:(xs ++ [v]).length=xs.length+1:=by simp
 have e:ixN (xs ++ [v]).length (-1)=some xs.length:=by
  unfold ixN
  rw[hl,AG (by decide),Am (by rfl')]
  congr 1
  rfl'
 unfold atI
 rw[e]
 show (xs ++ [v])[xs.length]?=some v
 simp
def PlainIx(b:Expr):Prop:=∀o i,subscripted b false o i=operate [o,i] (getItem o i)
def IxR(X:Cx)(r:R2):Prop :=
 ∀(value slice:Expr) (DA:List (Addr×Obj)) (s:Shared) (σ:St) (H:Hp) (x y:V) (v u:Value) (Q:VK),Inv X DA σ H s->RelV x v->RelV y u->r x y H Q ->
  subscripted slice false v u=operate [v,u] (getItem v u)->wpAny (model X.prog X.w) X.A (subscriptTail value slice v u) (EP X DA σ Q) X.xe s
def MtR(X:Cx)(id:String)(r:V->List V->Hp->VK->Prop):Prop :=
 ∀(DA:List (Addr×Obj)) (s:Shared) (σ:St) (H:Hp) (x:V) (xs:List V) (v:Value) (us:List Value) (Q:VK),Inv X DA σ H s->RelV x v->Vals xs us->r x xs H Q ->
  wpAny (model X.prog X.w) X.A (call (.builtin id) (v::us)) (EP X DA σ Q) X.xe s
section
variable {X:Cx}{a b:Expr}{ta tb:TE}{pos:Pos}
theorem IxR.or{r r':R2}(h:IxR X r)(h':IxR X r'):IxR X (fun x y H Q=>r x y H Q\/r' x y H Q):=by
 intro value slice DA s σ H x y v u Q I rx ry q hs
 rcases q with q | q
 ·exact h value slice DA s σ H x y v u Q I rx ry q hs
 ·exact h' value slice DA s σ H x y v u Q I rx ry q hs
theorem vC{r:R2}(hr:IxR X r)(ha:PE X a ta)(hb:PE X b tb)(hs:PlainIx b):PE X (.Subscript a b pos) (tOp r ta tb):=by
 intro DA s σ H Q I h
 exact Subscript_ (binT ha hb I h fun v u s2 x y H2 I2 rx ry q=>hr a b DA s2 σ H2 x y v u Q I2 rx ry q (hs _ _))
def rIxL(K:KFr):R2:=fun x y H Q=>∃p xs i v,x=.ref p/\y=.int i/\SqL K H p xs/\atI xs i=some v/\Q v H
def rIxT(K:KFr):R2:=fun x y H Q=>∃p xs i v,x=.ref p/\y=.int i/\SqT K H p xs/\atI xs i=some v/\Q v H
def rIxS:R2:=fun x y H Q=>∃z i c,x=.str z/\y=.int i/\z.length<=sizeLine/\atI z.cps.toList i=some c/\Q (.str ⟨#[c]⟩) H
theorem cP:IxR X (rIxL X.K):=by
 intro value slice DA s σ H x y v u Q I rx ry h hs
 obtain⟨p,xs,i,z,rfl,rfl,hq,he,q⟩:=h
 cases rx
 obtain⟨t,rfl⟩:=ry
 obtain⟨its,r,pl,hz⟩:=I.list hq
 obtain⟨j,h1,h2,h3,h4,h5⟩:=zM7 he
 obtain⟨w,ew,rw'⟩:=r.get h2
 have hl:=r.length
 have hn:=line63
 have fin:EP X DA σ Q w s:=⟨z,H,I,rw',q⟩
 by_cases h0:0<=i
 ·have hj:i.toNat=j:=by
   rw[seqIndex_of h0 h5] at h1
   exact AX h1
  exact item_listR pl.isList h0 (by rfl') (by rw[hj];simpa using ew) fin hs
 ·have hj:(i+(its.toArray.size:Int)).toNat=j:=by
   rw[seqIndex_neg (by rfl') h4] at h1
   rw[As,<-hl]
   exact AX h1
  exact subscriptTail_builtinR (x:=w) pl.isList.typeIs slot_list_getitem.lookup
   (wpAny_getItem_list_neg (Q:=fun r s'=>r=w/\EP X DA σ Q r s') pl.isList (by rfl') (by rw[As] <;> rfl') (by rfl') (by rw[hj];simpa using ew) ⟨rfl,fin⟩) hs
theorem qW:IxR X (rIxT X.K):=by
 intro value slice DA s σ H x y v u Q I rx ry h hs
 obtain⟨p,xs,i,z,rfl,rfl,hq,he,q⟩:=h
 cases rx
 obtain⟨t,rfl⟩:=ry
 obtain⟨its,r,pl,hz⟩:=I.tuple hq
 obtain⟨j,h1,h2,h3,h4,h5⟩:=zM7 he
 obtain⟨w,ew,rw'⟩:=r.get h2
 have hl:=r.length
 have hn:=line63
 have fin:EP X DA σ Q w s:=⟨z,H,I,rw',q⟩
 exact subscriptTail_builtinR (x:=w) pl.typeIs slot_tuple_getitem.lookup
  (getItem_tuple (j:=j) (Q:=fun r s'=>r=w/\EP X DA σ Q r s') pl (by rfl') (by rfl') (by rw[As,<-hl];exact h1) (by simpa using ew) ⟨rfl,fin⟩) hs
theorem yE1:IxR X rIxS:=by
 intro value slice DA s σ H x y v u Q I rx ry h hs
 obtain⟨z,i,c,rfl,rfl,hz,he,q⟩:=h
 obtain⟨t,rfl⟩:=rx
 obtain⟨t',rfl⟩:=ry
 obtain⟨j,h1,h2,h3,h4,h5⟩:=zM7 he
 have hl:z.cps.toList.length=z.length:=by simp[Str.length]
 rw[hl] at h1 h4 h5
 have hn:=line63
 exact tail_any (typeIs_str s z t) slot_str_getitem.lookup (getItem_str (c:=c) (by
  have e1:decide (i < -(2 ^ 63:Int))=false:=An (by rfl')
  have e2:decide (i ≥ 2 ^ 63)=false:=An (by rfl')
  rw[e1,e2,Bool.or_false]) (by rw[h1];simpa using h2) ⟨.str ⟨#[c]⟩,H,I.tok _,⟨_,rfl⟩,q⟩) hs
def rIx(K:KFr):R2:=fun x y H Q=>rIxL K x y H Q\/rIxT K x y H Q\/rIxS x y H Q
theorem yL:IxR X (rIx X.K):=cP.or (qW.or yE1)
theorem yL3(its:List Value)(n j:Nat)(u:Value):Obj.mapSeq (·.setIfInBounds j u) { cls:=.type "list",data:=.seq its.toArray n }={ cls:=.type "list",data:=.seq (its.set j u).toArray n }:=by
 simp[Obj.mapSeq]
theorem Inv.lst{DA:List (Addr×Obj)}{σ:St}{H:Hp}{s:Shared}{p:Addr}{xs:List V}(I:Inv X DA σ H s)(h:H p=some (.lst xs)) :
  ∃(its:List Value) (n:Nat),Vals xs its/\s.heap.get? p=some { cls:=.type "list",data:=.seq its.toArray n }/\xs.length<=sizeLine:=by
 obtain⟨z,its,n,r,e⟩:=I.hok p _ h
 exact⟨its,n,r,e,z⟩
theorem Inv.lstUpd{DA:List (Addr×Obj)}{σ:St}{H:Hp}{s:Shared}{p:Addr}{xs ys:List V}{its its':List Value}{n n':Nat}{f:Obj->Obj}(I:Inv X DA σ H s)(h:H p=some (.lst xs))
  (ho:s.heap.get? p=some { cls:=.type "list",data:=.seq its.toArray n }) (hf:f { cls:=.type "list",data:=.seq its.toArray n }={ cls:=.type "list",data:=.seq its'.toArray n' }) (r:Vals ys its') (hz:ys.length<=sizeLine) (t:Nat) :
  Inv X DA σ (upd H p (.lst ys)) { s with heap:=s.heap.update p f,toks:=t }:=by
 have e:(s.heap.update p f).get? p=some { cls:=.type "list",data:=.seq its'.toArray n' }:=by
  rw[AY f ho (by rw[hf] <;> rfl),hf]
 refine I.write (x:=p) (e:=p) (by rw[h];trivial) (.inl rfl) (fun b u hb q=>(AC _ _ (Bd hb)).trans q) ⟨_,e⟩ ?_
 exact⟨hz,its',n',r,e⟩
def rSetL:V->V->V->Hp->(Hp->Prop)->Prop:=fun o i v H Q=>∃p xs k j,o=.ref p/\i=.int k/\H p=some (.lst xs)/\ixN xs.length k=some j/\Q (upd H p (.lst (xs.set j v)))
theorem zA1:PSet X rSetL:=by
 intro DA s σ H o i v ov iv u Q I ro ri rv h
 obtain⟨p,xs,k,j,rfl,rfl,hp,hj,q⟩:=h
 cases ro
 obtain⟨t,rfl⟩:=ri
 obtain⟨its,n,r,ho,hz⟩:=I.lst hp
 obtain⟨h1,h2,h3,h4⟩:=yP8 hj
 have hl:=r.length
 have hn:=line63
 have I':Inv X DA σ (upd H p (.lst (xs.set j v))) { s with heap:=s.heap.update p (Obj.mapSeq (·.setIfInBounds j u)) } :=
  I.lstUpd hp ho (yL3 its n j u) (r.set rv j) (by rw[Cj];exact hz) s.toks
 by_cases h0:0<=k
 ·have hk:k.toNat=j:=by
   rw[seqIndex_of h0 h4] at h1
   exact AX h1
  exact PySem.W.ki_setAt ho h0 (by rfl') (by rw[As,<-hl];exact h4) (by rw[hk];exact⟨_,I',q⟩)
 ·have hk:(k+(its.toArray.size:Int)).toNat=j:=by
   rw[seqIndex_neg (by rfl') h3] at h1
   rw[As,<-hl]
   exact AX h1
  exact PySem.W.ki_setBack ho (by rfl') (by rw[As,<-hl];exact h3) (by rfl') (by rw[hk];exact⟨_,I',q⟩)
theorem zC2(lo hi:Option Int)(n:Nat):(sliceBounds lo hi none n).1=((HT.sIx n 0 lo:Nat):Int)/\(sliceBounds lo hi none n).2.1=((HT.sIx n n hi:Nat):Int)/\(sliceBounds lo hi none n).2.2=1:=by
 refine⟨?_,?_,rfl⟩
 ·cases lo with
  | none=>simp[sliceBounds,HT.sIx]
  | some i =>
   simp only[sliceBounds,HT.sIx,Option.getD_none,show (1:Int) > 0 by decide,if_true]
   by_cases h:i<0
   ·simp only[h,if_true] <;> rfl'
   ·simp only[h,if_false] <;> rfl'
 ·cases hi with
  | none=>simp[sliceBounds,HT.sIx]
  | some i =>
   simp only[sliceBounds,HT.sIx,Option.getD_none,show (1:Int) > 0 by decide,if_true]
   by_cases h:i<0
   ·simp only[h,if_true] <;> rfl'
   ·simp only[h,if_false] <;> rfl'
theorem zE5(its:List Value)(lo hi:Option Int):slicePick its.toArray lo hi none=((its.drop (HT.sIx its.length 0 lo)).take (HT.sIx its.length its.length hi-HT.sIx its.length 0 lo)).toArray:=by
 obtain⟨h1,h2,h3⟩:=zC2 lo hi its.toArray.size
 unfold slicePick
 rw[h1,h2,h3]
 simp only[sliceRange_one,pick_run,As] <;> rfl
def rSlL(K:KFr):V->Option Int->Option Int->Hp->VK->Prop:=fun x lo hi H Q=>∃a xs,x=.ref a/\SqL K H a xs/\∀p,H p=none->Q (.ref p) (upd H p (.lst (cutV xs lo hi)))
theorem xQ7:SlR X (rSlL X.K):=by
 intro DA s σ H x v vl vu lo hi sl Q I rx hs pl pu h
 obtain⟨a,xs,rfl,hx,q⟩:=h
 cases rx
 obtain⟨its,r,ht,hz⟩:=I.list hx
 have hlen:=r.length
 refine⟨"list",_,slot_list_getitem.lookup,ht.isList.typeIs,?_⟩
 refine wpAny_getItem_list_slice ht.isList hs pl pu .none (by simp) ?_ (by rw[As] <;> rfl')
 rw[zE5,<-hlen]
 refine⟨.ref s.heap.objs.size,_,I.laid (t':=s.toks) (o:=.lst (cutV xs lo hi)) (fun b ob q=>Al _ q) (Ai _) ?_,rfl,q _ (I.hok.fresh (Ai _))⟩
 exact⟨Ba (zV4 xs lo hi) hz,_,0,(r.drop (HT.sIx xs.length 0 lo)).take (HT.sIx xs.length xs.length hi-HT.sIx xs.length 0 lo),Az _ rfl⟩
def flatV:V->Bool
 | .non=>true
 | .bl _=>true
 | .int _=>true
 | .str _=>true
 | _=>false
def eqV:V->V->Bool
 | .non,.non=>true
 | .bl a,.bl b=>a == b
 | .bl a,.int b=>(if a then 1 else 0) == b
 | .int a,.bl b=>a == (if b then 1 else 0)
 | .int a,.int b=>a == b
 | .str a,.str b=>a == b
 | _,_=>false
theorem xG4{A:Around}{s:Shared}{y x:V}{u v:Value}(ry:RelV y u)(rx:RelV x v)(fy:flatV y=true)(fx:flatV x=true):SeqAt.EqAt A s u v (eqV y x):=by
 cases y with
 | non =>
  cases ry
  cases x with
  | non=>cases rx;exact SeqAt.EqAt.same _
  | bl b=>cases rx;exact SeqAt.EqAt.none_bool b
  | int b=>obtain⟨t,rfl⟩:=rx;exact SeqAt.EqAt.none_int b t
  | str b=>obtain⟨t,rfl⟩:=rx;exact SeqAt.EqAt.none_str b t
  | _=>exact absurd (show false=true from fx) Ap
 | bl a =>
  cases ry
  cases x with
  | non=>cases rx;exact SeqAt.EqAt.bool_none a
  | bl b=>cases rx;exact SeqAt.EqAt.bool_bool a b
  | int b=>obtain⟨t,rfl⟩:=rx;exact SeqAt.EqAt.bool_int a b t
  | str b=>obtain⟨t,rfl⟩:=rx;exact SeqAt.EqAt.bool_str a b t
  | _=>exact absurd (show false=true from fx) Ap
 | int a =>
  obtain⟨t',rfl⟩:=ry
  cases x with
  | non=>cases rx;exact SeqAt.EqAt.int_none a t'
  | bl b=>cases rx;exact SeqAt.EqAt.int_bool a t' b
  | int b=>obtain⟨t,rfl⟩:=rx;exact SeqAt.EqAt.int_int a t' b t
  | str b=>obtain⟨t,rfl⟩:=rx;exact SeqAt.EqAt.int_str a t' b t
  | _=>exact absurd (show false=true from fx) Ap
 | str a =>
  obtain⟨t',rfl⟩:=ry
  cases x with
  | non=>cases rx;exact SeqAt.EqAt.str_none a t'
  | bl b=>cases rx;exact SeqAt.EqAt.str_bool a t' b
  | int b=>obtain⟨t,rfl⟩:=rx;exact SeqAt.EqAt.str_int a t' b t
  | str b=>obtain⟨t,rfl⟩:=rx;exact SeqAt.EqAt.str_str a t' b t
  | _=>exact absurd (show false=true from fx) Ap
 | _=>exact absurd (show false=true from fy) Ap
def eqU(x:V)(u:Value):Bool:=match u with
 | .none=>eqV .non x
 | .bool b=>eqV (.bl b) x
 | .int i _=>eqV (.int i) x
 | .str z _=>eqV (.str z) x
 | _=>false
theorem yA2{x y:V}{u:Value}(r:RelV y u)(f:flatV y=true):eqU x u=eqV y x:=by
 cases y with
 | non=>cases r;rfl
 | bl b=>cases r;rfl
 | int i=>obtain⟨t,rfl⟩:=r;rfl
 | str z=>obtain⟨t,rfl⟩:=r;rfl
 | _=>exact absurd (show false=true from f) Ap
theorem cX{x:V}:∀{xs:List V}{us:List Value},Vals xs us->xs.all flatV=true->us.any (eqU x)=xs.any fun y=>eqV y x
 | _,_,.nil,_=>rfl
 | y::xs,u::us,.cons r t,f=>by
  rw[Dh,AH] at f
  rw[Dj,Dj,yA2 r f.1,cX t f.2]
theorem fK{A:Around}{s:Shared}{x:V}{v:Value}(rx:RelV x v)(fx:flatV x=true):∀{xs:List V}{us:List Value},Vals xs us->xs.all flatV=true->∀u∈us,SeqAt.EqAt A s u v (eqU x u)
 | _,_,.nil,_=>fun u hu=>by cases hu
 | y::xs,u::us,.cons r t,f=>fun u' hu=>by
  rw[Dh,AH] at f
  rcases Aw.mp hu with rfl | hu
  ·rw[yA2 r f.1];exact xG4 r rx f.1 fx
  ·exact fK rx fx t f.2 u' hu
def inV(x:V)(xs:List V):Bool:=xs.any fun y=>eqV y x
def rIn(K:KFr)(neg:Bool):R2:=fun x y H Q=>∃p xs,y=.ref p/\(SqL K H p xs\/SqT K H p xs)/\flatV x=true/\xs.all flatV=true/\Q (.bl (if neg then !inV x xs else inV x xs)) H
theorem dS:OpR X (compareOp .In) (rIn X.K false):=by
 intro DA s σ H x y v u Q I rx ry h
 obtain⟨p,xs,rfl,hq,fx,fs,q⟩:=h
 cases ry
 rcases hq with hq | hq
 ·obtain⟨its,r,pl,hz⟩:=I.list hq
  refine SeqAt.in_listAt (eqU x) pl.isList (fun w hw=>fK rx fx r fs w (by simpa using hw)) ⟨.bl _,H,I,rfl,?_⟩
  rw[show its.toArray.any (eqU x)=its.any (eqU x) by simp,cX r fs]
  exact q
 ·obtain⟨its,r,pl,hz⟩:=I.tuple hq
  refine SeqAt.in_tupleAt (eqU x) pl (fun w hw=>fK rx fx r fs w (by simpa using hw)) ⟨.bl _,H,I,rfl,?_⟩
  rw[show its.toArray.any (eqU x)=its.any (eqU x) by simp,cX r fs]
  exact q
theorem zC5:OpR X (compareOp .NotIn) (rIn X.K true):=by
 intro DA s σ H x y v u Q I rx ry h
 obtain⟨p,xs,rfl,hq,fx,fs,q⟩:=h
 cases ry
 rcases hq with hq | hq
 ·obtain⟨its,r,pl,hz⟩:=I.list hq
  refine SeqAt.notIn_listAt (eqU x) pl.isList (fun w hw=>fK rx fx r fs w (by simpa using hw)) ⟨.bl _,H,I,rfl,?_⟩
  rw[show its.toArray.any (eqU x)=its.any (eqU x) by simp,cX r fs]
  exact q
 ·obtain⟨its,r,pl,hz⟩:=I.tuple hq
  refine SeqAt.notIn_tupleAt (eqU x) pl (fun w hw=>fK rx fx r fs w (by simpa using hw)) ⟨.bl _,H,I,rfl,?_⟩
  rw[show its.toArray.any (eqU x)=its.any (eqU x) by simp,cX r fs]
  exact q
theorem zG:CallR X (.builtin "len") (fun xs H Q=>∃p ys,xs=[.ref p]/\(SqL X.K H p ys\/SqT X.K H p ys)/\Q (.int ys.length) H):=by
 intro DA s σ H xs us Q I r h
 obtain⟨p,ys,rfl,hq,q⟩:=h
 obtain⟨u,rfl,rx⟩:=vals1 r
 cases rx
 have hn:=line63
 rcases hq with hq | hq
 ·obtain⟨its,r',pl,hz⟩:=I.list hq
  have hlen:=r'.length
  exact Calls.call_len_list pl.isList (by simp only[As] <;> rfl') ⟨.int ys.length,H,I.tok _,⟨s.toks+1,by rw[As,hlen]⟩,q⟩
 ·obtain⟨its,r',pl,hz⟩:=I.tuple hq
  have hlen:=r'.length
  exact len_tuple pl (by simp only[As] <;> rfl') ⟨.int ys.length,H,I.tok _,⟨s.toks+1,by rw[As,hlen]⟩,q⟩
theorem jK:CallR X (.builtin "len") (fun xs H Q=>∃z,xs=[.str z]/\z.length<=sizeLine/\Q (.int z.length) H):=by
 intro DA s σ H xs us Q I r h
 obtain⟨z,rfl,hz,q⟩:=h
 obtain⟨u,rfl,t,rfl⟩:=vals1 r
 have hn:=line63
 exact len_str (by rfl') ⟨.int z.length,H,I.tok _,⟨_,rfl⟩,q⟩
theorem yN:CallR X (.type "tuple") (fun xs H Q=>∃p ys,xs=[.ref p]/\((SqL X.K H p ys/\∀l,H l=none->Q (.ref l) (upd H l (.tup ys)))\/(SqT X.K H p ys/\Q (.ref p) H))):=by
 intro DA s σ H xs us Q I r h
 obtain⟨p,ys,rfl,h⟩:=h
 obtain⟨u,rfl,rx⟩:=vals1 r
 cases rx
 rcases h with ⟨hq,q⟩ | ⟨hq,q⟩
 ·obtain⟨its,r',pl,hz⟩:=I.list hq
  have hlen:=r'.length
  refine call_tuple_list pl.isList (fun h' kp => ?_) (by simp only[As] <;> rfl')
  have I1:Inv X DA σ H { s with heap:=h' }:=I.kept (t':=s.toks) kp
  have I2:Inv X DA σ (upd H h'.objs.size (.tup ys)) { s with heap:=h'.push { cls:=.type "tuple",data:=.seq its.toArray } } :=
   I1.laid (t':=s.toks) (fun b o e=>Al _ e) (Ai _) (show ObjOk X.prog X.w _ _ _ (.tup ys) from ⟨hz,its,r',TupAt.new _ _⟩)
  exact⟨.ref h'.objs.size,_,I2,rfl,q _ (I1.hok.fresh (Ai _))⟩
 ·obtain⟨its,r',pl,hz⟩:=I.tuple hq
  exact call_tuple_same pl ⟨.ref p,H,I,rfl,q⟩
def tyV(K:KFr)(T:String)(x:V)(H:Hp):Prop:=match x with
 | .str _=>T="str"
 | .int _=>T="int"
 | .ref p=>(T="list"/\∃xs,SqL K H p xs)\/(T="tuple"/\((∃o,K.lookup p=some o/\o.cls=.type "tuple"/\o.dict=none)\/∃xs,Rd H p (.tup xs))) \/
   (T="dict"/\((∃kvs,H p=some (.dK kvs))\/∃kvs,H p=some (.dT kvs)))\/(T="set"/\∃S n,H p=some (.set S n))
 | _=>False
theorem yH5{DA:List (Addr×Obj)}{σ:St}{H:Hp}{s:Shared}{T:String}{x:V}{v:Value}(I:Inv X DA σ H s)(r:RelV x v)(ty:tyV X.K T x H) :
  s.TypeIs v T/\∀a,v=.ref a->∃ob,s.heap.get? a=some ob/\ob.dict=none:=by
 cases x with
 | str z =>
  obtain⟨t,rfl⟩:=r
  cases (show T="str" from ty)
  exact⟨typeIs_str s z t,fun _ e=>nomatch e⟩
 | int i =>
  obtain⟨t,rfl⟩:=r
  cases (show T="int" from ty)
  exact⟨typeIs_int s i t,fun _ e=>nomatch e⟩
 | ref p =>
  cases r
  rcases ty with ⟨rfl,xs,hq⟩ | ⟨rfl,⟨o,hk,hc,hd⟩ | ⟨xs,hq⟩⟩ | ⟨rfl,hk⟩ | ⟨rfl,S,n,hk⟩
  ·obtain⟨its,_,pl,_⟩:=I.list hq
   refine⟨pl.isList.typeIs,fun a e => ?_⟩
   cases e
   obtain⟨o,n,e,c,hd,_⟩:=pl
   exact⟨o,e,hd⟩
  ·refine⟨⟨o,I.kIn p o hk,hc⟩,fun a e => ?_⟩
   cases e
   exact⟨o,I.kIn _ o hk,hd⟩
  ·obtain⟨_,its,_,o,e,c,_,hd⟩:=hq.ok I.hok
   refine⟨⟨o,e,c⟩,fun a e2 => ?_⟩
   cases e2
   exact⟨o,e,hd⟩
  ·have z:∃o,s.heap.get? p=some o/\o.ExactDict:=by
    rcases hk with ⟨kvs,hk⟩ | ⟨kvs,hk⟩
    ·obtain⟨_,_,_,_,o,_,_,e,ex,_⟩:=I.hok p _ hk
     exact⟨o,e,ex⟩
    ·obtain⟨_,_,_,_,o,_,_,e,ex,_⟩:=I.hok p _ hk
     exact⟨o,e,ex⟩
   obtain⟨o,e,ex⟩:=z
   refine⟨⟨o,e,ex.1⟩,fun a e2 => ?_⟩
   cases e2
   exact⟨o,e,ex.2.1⟩
  ·obtain⟨o,_,_,_,e,ex,_⟩:=I.hok p _ hk
   refine⟨⟨o,e,ex.1⟩,fun a e2 => ?_⟩
   cases e2
   exact⟨o,e,ex.2.1⟩
 | _=>exact False.elim ty
def tBM0(K:KFr)(T:String)(r:V->List V->Hp->VK->Prop)(to:TE):TE:=fun σ H Q=>to σ H fun x H1=>tyV K T x H1/\r x [] H1 Q
def tBM(K:KFr)(T:String)(r:V->List V->Hp->VK->Prop)(to:TE)(t:TA):TE:=fun σ H Q=>to σ H fun x H1=>tyV K T x H1/\t σ H1 fun xs H2=>r x xs H2 Q
variable {o e:Expr}{es:List Expr}{to:TE}{t:TA}{name:Str}{apos cpos:Pos}{T id:String}{r:V->List V->Hp->VK->Prop}
theorem yH4(pa:PlainAttrs T)(slot:Slot T name id)(hty:typeOf (.builtin id)=pure (.type "method_descriptor"))(hm:MtR X id r)(ho:PE X o to)
  (hbase:autoParam (attributeBase o name X.env (eval o X.env)=eval o X.env) Dz) (hline:autoParam ((apos.endLine == cpos.line)=true) Dz):PE X (.Call (.Attribute o name apos) [] [] cpos) (tBM0 X.K T r to):=by
 intro DA s σ H Q I h
 refine wpAny_Call_method0_late hbase hline (thn (ho DA s σ H _ I h) fun v s1 ⟨x,H1,I1,r1,ty,q1⟩ => ?_)
 obtain⟨h1,h2⟩:=yH5 I1 r1 ty
 exact⟨T,id,pa,slot,hty,h1,h2,Calls.callWith_builtin rfl (PySem.evalArgs_none (hm DA s1 σ H1 x [] v [] Q I1 r1 .nil q1))⟩
theorem dW(pa:PlainAttrs T)(slot:Slot T name id)(hty:typeOf (.builtin id)=pure (.type "method_descriptor"))(hm:MtR X id r)(ho:PE X o to)(ha:PA X (e::es) t)
  (hbase:autoParam (attributeBase o name X.env (eval o X.env)=eval o X.env) Dz)
  (hfew:((backTo cpos (starEach (e::es) X.env)).all (fun x=>!x.1)&&(backToKw cpos (keywordEach [] X.env)).all (fun x=>x.1.isSome)
  &&decide ((e::es).length+([]:List Keyword).length+(if ([]:List Keyword).isEmpty then 0 else 1)<30))=true:=by rfl)
  (hline:autoParam ((apos.endLine == cpos.line)=true) Dz) (hs:autoParam (starEach (e::es) X.env=(false,eval e X.env)::starEach es X.env) Dz) (hplain:autoParam ((backTo cpos (starEach es X.env)).any (·.1)=false) Dz) :
  PE X (.Call (.Attribute o name apos) (e::es) [] cpos) (tBM X.K T r to t):=by
 intro DA s σ H Q I h
 refine wpAny_Call_method_late hbase hfew hline rfl (thn (ho DA s σ H _ I h) fun v s1 ⟨x,H1,I1,r1,ty,q1⟩ => ?_)
 obtain⟨h1,h2⟩:=yH5 I1 r1 ty
 refine⟨T,id,pa,slot,hty,h1,h2,?_⟩
 have hA:=ha cpos DA s1 σ H1 _ I1 q1
 rw[hs] at hA ⊢
 refine Calls.callWith_builtin (by show (false || (backTo cpos (starEach es X.env)).any (·.1))=false;rw[hplain] <;> rfl) (Calls.evalArgs_plain ?_)
 exact thn hA fun us s2 ⟨vs,H2,I2,r2,q2⟩=>hm DA s2 σ H2 x vs v us Q I2 r1 r2 q2
end
def MtM(X:Cx)(id:String)(r:V->List V->Hp->VK->Prop):Prop :=
 ∀(DA:List (Addr×Obj)) (s:Shared) (σ:St) (H:Hp) (x:V) (xs:List V) (v:Value) (us:List Value) (Q:VK),Inv X DA σ H s->RelV x v->Vals xs us->r x xs H Q ->
  wpAny (model X.prog X.w) X.A (call (.builtin id) (v::us)) (EP X DA σ Q) X.xe s
theorem Vals.one:∀{x:V}{us:List Value},Vals [x] us->∃u,us=[u]/\RelV x u
 | _,_,.cons r .nil=>⟨_,rfl,r⟩
theorem Vals.two:∀{x y:V}{us:List Value},Vals [x,y] us->∃u v,us=[u,v]/\RelV x u/\RelV y v
 | _,_,_,.cons r (.cons q .nil)=>⟨_,_,rfl,r,q⟩
theorem Vals.zero:∀{us:List Value},Vals [] us->us=[]
 | _,.nil=>rfl
theorem Vals.dropLast{xs:List V}{us:List Value}(h:Vals xs us):Vals xs.dropLast us.dropLast:=by
 induction h with
 | nil=>exact .nil
 | cons r t ih =>
  cases t with
  | nil=>exact .nil
  | cons q t'=>exact .cons r ih
theorem Vals.rep{xs:List V}{us:List Value}(h:Vals xs us):∀k:Nat,Vals (List.replicate k xs).flatten (List.replicate k us).flatten
 | 0=>.nil
 | k+1=>by
  rw[Bq,Bq,Bt,Bt]
  exact Vals.append h (Vals.rep h k)
theorem yL5{α:Type}(l:List α):l.eraseIdx (l.length-1)=l.dropLast:=by
 induction l with
 | nil=>rfl
 | cons a r ih =>
  cases r with
  | nil=>rfl
  | cons b r =>
   have e:(a::b::r).length-1=((b::r).length-1)+1:=by
    have h1:(a::b::r).length=r.length+2:=rfl
    have h2:(b::r).length=r.length+1:=rfl
    rfl'
   rw[e,List.eraseIdx_cons_succ,ih]
   all_goals rfl
theorem zJ6(its:List Value):∀(k:Nat) (acc:List Value),
  List.foldl (fun x1 x2=>x1++x2) acc.toArray (List.replicate k its.toArray)=(acc++(List.replicate k its).flatten).toArray
 | 0,acc=>by simp
 | k+1,acc=>by
  have e:acc.toArray++its.toArray=(acc++its).toArray:=by simp
  have e2:(acc++its)++(List.replicate k its).flatten=acc++(List.replicate (k+1) its).flatten:=by
   rw[Bq,Bt,BD]
  rw[<-e2,<-zJ6 its k (acc++its),<-e,Bq,List.foldl_cons]
section
variable {X:Cx}{DA:List (Addr×Obj)}{σ:St}{H:Hp}{s:Shared}{l b:Addr}{xs ys zs:List V}
theorem Inv.lset{its its':List Value}{n:Nat}{f:Array Value->Array Value}{t':Nat}(I:Inv X DA σ H s)(hH:H l=some (.lst xs))
  (e:s.heap.get? l=some { cls:=.type "list",data:=.seq its.toArray n }) (hf:f its.toArray=its'.toArray) (hv:Vals ys its') (hz:ys.length<=sizeLine) :
  Inv X DA σ (upd H l (.lst ys)) { s with heap:=s.heap.update l (Obj.mapSeq f),toks:=t' }:=by
 have q:=Dc e f
 rw[hf] at q
 refine I.write (x:=l) (e:=l) (by rw[hH];exact trivial) (.inl rfl) (fun b' u hb hu=>(AC s.heap (Obj.mapSeq f) (Bd hb)).trans hu) ⟨_,q⟩ ?_
 exact⟨hz,its',_,hv,q⟩
theorem Inv.lnew{its:List Value}{t':Nat}(I:Inv X DA σ H s)(hv:Vals ys its)(hz:ys.length<=sizeLine) :
  Inv X DA σ (upd H s.heap.objs.size (.lst ys)) { s with heap:=s.heap.push { cls:=.type "list",data:=.seq its.toArray },toks:=t' } :=
 I.laid (fun _ _ q=>Al _ q) (Ai _) ⟨hz,its,0,hv,Az _ rfl⟩
theorem Inv.fresh(I:Inv X DA σ H s):H s.heap.objs.size=none:=I.hok.fresh (Ai _)
theorem Inv.lstM(I:Inv X DA σ H s)(hH:H l=some (.lst xs)):xs.length<=sizeLine/\∃(its:List Value) (n:Nat),Vals xs its/\xs.length=its.length/\s.heap.get? l=some { cls:=.type "list",data:=.seq its.toArray n }:=by
 obtain⟨z,its,n,r,e⟩:=I.hok l _ hH
 exact⟨z,its,n,r,r.length,e⟩
theorem notLongL{n:Nat}(h:n<=sizeLine):Builtin.List.listTooLong n=false:=by
 unfold Builtin.List.listTooLong
 exact An (by rfl')
end
section
variable {X:Cx}
def rAppend:V->List V->Hp->VK->Prop:=fun x vs H Q=>∃l xs y,x=.ref l/\vs=[y]/\H l=some (.lst xs)/\xs.length<sizeLine/\Q .non (upd H l (.lst (xs ++ [y])))
theorem wG:MtM X "list.append" rAppend:=by
 intro DA s σ H x vs v us Q I rx rv h
 obtain⟨l,xs,y,rfl,rfl,hH,hz,q⟩:=h
 cases rx
 obtain⟨u,rfl,ru⟩:=rv.one
 obtain⟨z,its,n,r,hl,e⟩:=I.lstM hH
 refine call_meets CT ⟨_,e,rfl⟩ CO (CG _ _) (CW l its.toArray n u (by rw[As];rfl')) ⟨e,?_⟩
 refine⟨.non,_,I.lset (its':=its ++ [u]) hH e (by simp) (r.append (.cons ru .nil)) ?_,rfl,q⟩
 rw[Aq,Bf]
 rfl'
def rPop:V->List V->Hp->VK->Prop:=fun x vs H Q=>∃l xs y,x=.ref l/\vs=[]/\H l=some (.lst xs)/\xs[xs.length-1]?=some y/\Q y (upd H l (.lst xs.dropLast))
theorem xI8:MtM X "list.pop" rPop:=by
 intro DA s σ H x vs v us Q I rx rv h
 obtain⟨l,xs,y,rfl,rfl,hH,hy,q⟩:=h
 cases rx
 have hus:=rv.zero
 subst hus
 obtain⟨z,its,n,r,hl,e⟩:=I.lstM hH
 obtain⟨u,hu,ru⟩:=r.get hy
 have hy':its.toArray[its.toArray.size-1]?=some u:=by
  show its.toArray[its.length-1]?=some u
  rw[<-Array.getElem?_toList,<-hl]
  exact hu
 refine call_meets F.slot_list_pop ⟨_,e,rfl⟩ F.entry_list_pop (F.args_list_pop_1 _) (MeetsSeq.list_pop_last l its.toArray n u hy' (by rw[As];rfl')) ⟨e,?_⟩
 refine⟨y,_,I.lset (its':=its.dropLast) hH e ?_ r.dropLast ?_,ru,q⟩
 ·show its.toArray.eraseIdxIfInBounds (its.toArray.size-1)=its.dropLast.toArray
  rw[As,List.eraseIdxIfInBounds_toArray,yL5]
 ·rw[List.length_dropLast]
  rfl'
theorem xL7{α:Type}(xs:List α)(k:Nat):(List.replicate k xs).flatten.length=k*xs.length:=by
 induction k with
 | zero=>simp
 | succ k ih=>rw[Bq,Bt,Aq,ih,CJ,Nat.add_comm]
end
section
variable {prog:Program}{w:World}{A:Around}{E:Value->Shared->Prop}{s:Shared}
end
section
variable {X:Cx}
end
end L2
namespace Att
open PySem PySem.W PySem.Calls PyProof.Rows
theorem zQ3{P:Params}{h:Heap}:∀(ns:List Int) (vs:List Value),WellAll P h vs (ns.map WData.int)->IntsAre vs ns:=by
 intro ns
 induction ns with
 | nil =>
  intro vs w
  rw[List.map_nil] at w
  cases w
  exact .nil
 | cons n ns ih =>
  intro vs w
  rw[AF] at w
  cases w with
  | cons a b =>
   cases a
   exact .cons _ _ (ih _ b)
theorem yB2{l:OpenLaw}{n:Nat}(hn:l.most=some n){P:Params}{h:Heap}{args:List WData}{vals:List Value}
  (hpre:l.row.toRowW.claim.pre args=true) (hwl:WellAll P h vals args) :
  ∃a vs ns,vals=[Value.ref a]/\args=[WData.list (ns.map WData.int)]/\h.get? a=some { cls:=.type "list",data:=.seq vs.toArray }/\IntsAre vs ns/\ns.length<=n:=by
 have hsh:WShape.hasAll [] args [.list .int]=true:=(pre_splitW hpre).1
 have hc:l.pre.holds [] { args:=args }=true:=(pre_splitW hpre).2
 obtain⟨d,r,rfl,h1,h2⟩:=hasAllW_cons hsh
 obtain rfl:=hasAllW_nil h2
 obtain⟨xs,rfl,h3⟩:=hasW_list h1
 obtain⟨ns,rfl⟩:=items_int h3
 have hlen:ns.length<=n:=by
  unfold OpenLaw.pre at hc
  have h4:(WTm.not (.lt (.lit (.int (n:Int))) (.len (.arg 0)))).holds [] { args:=[.list (ns.map .int)] }=true:=by
   have h4:=(holds_andW hc).1
   rw[hn] at h4
   exact h4
  have h5:=condW_of h4 (w_not (w_lt w_lit (w_len_list (w_arg rfl))))
  rw[Aa] at h5
  refine Nat.le_of_not_lt fun q => ?_
  have q':(n:Int)<((ns.length:Nat):Int):=by rfl'
  first
   | (rw[Ag q'] at h5;exact absurd h5 (by decide))
   | (simp at h5;rfl')
 cases hwl with
 | cons w1 w2 =>
  cases w2
  cases w1 with
  | list ho hall=>exact⟨_,_,ns,rfl,rfl,ho,zQ3 ns _ hall,hlen⟩
theorem yF3(l:OpenLaw)(args:List WData):l.row.toRowW.claim.post args (.bool true) args=true :=
 postW_of (r:=l.row.toRowW) (X:=(true == true))
  (show WShape.has [] (.bool true) .bool=true by first | rfl | decide | simp[WShape.has,WShape.arms,WShape.armsAll])
  (show (WTm.eq .res (.lit (.bool true))).value [] { args:=args,res:=some (.bool true),after:=args }=some (.bool (true == true)) from w_eq_bool (w_res rfl) w_lit) rfl
theorem yT1{l:OpenLaw}{n:Nat}{q:Program}{loose:List Str}{XP:(Str->Option Value)->Heap->Prop}{YP:World->Heap->Prop}{d:DefRec}
  (hn:l.most=some n) (hdf:d.params.defaults=[])
  (call:∀(w:World) (s₀ s₁:Shared) (mg mb:Str->Option Value) (fa:Addr) (o:Obj) (pm cd doc:Value) (a:Addr) (vs:List Value) (ns:List Int),
   Ground q loose [] XP w s₀ mg mb s₁.heap->YP w s₁.heap ->
   s₁.heap.get? fa=some o->o.data=.func (docDef d.name d.params d.body d.scope pm cd doc)->s₁.heap.CodeRec cd d.name->mg d.name=some (.ref fa) ->
   s₁.heap.get? a=some { cls:=.type "list",data:=.seq vs.toArray }->IntsAre vs ns->ns.length<=n->s₁.gens=#[] ->
   codeAny (model l.prog w) callerA (.call (.ref fa) ⟨[.ref a],[]⟩) (fun r s'=>r=.ok (.ret (.bool true))/\OldK s₁.heap s'.heap/\s'.os=s₁.os/\AllBare s'.gens) s₁) :
  WalkO q loose XP YP l.row.toRowW d [] (fun f vs=>PySem.call f vs):=by
 intro w s₀ s₁ mg mb G Y fa o pm cd doc dV kV ho hd hcd hD hmg hg args vals as hpre hlay hrd hwl hlo
 obtain rfl:dV=.none:=Dflts.none hD hdf
 obtain rfl:kV=.none:=Dflts.noKw hD
 obtain⟨a,vs,ns,rfl,rfl,hobj,hints,hlen⟩:=yB2 hn hpre hwl
 refine enter_call (codeAny_mono (call w s₀ s₁ mg mb fa o pm cd doc a vs ns G Y ho (fd_plain hd) hcd hmg hobj hints hlen hg) fun r s' hq => ?_)
 obtain⟨rfl,h2,h3,h4⟩:=hq
 exact⟨.inl ⟨.bool true,.bool true,[],rfl,fun _=>rfl,.bool true,yF3 l _,fun _=>⟨List.Pairwise.nil,fun _ hm=>(nomatch hm)⟩⟩,h2,h3,h4⟩
section
variable {prog:Program}{w:World}{A:Around}{E:Value->Shared->Prop}{s:Shared}{K:Frag}
end
end Att
namespace L2
open PySem PySem.Spec PyProof.Rows
theorem zZ8:∀{vs:List Value}{ns:List Int},IntsAre vs ns->Vals (ns.map V.int) vs
 | _,_,.nil=>.nil
 | _,_,.cons n t h=>.cons ⟨t,rfl⟩ (zZ8 h)
def Only(H:Hp):Prop:=∀b,H b=none\/∃o xs,H b=some (.frz o (.lst xs))
theorem xU2{P:Program}{w:World}{K:KFr}{mg mb:Str->Option Value}{CX:CXT}{k:Nat}{fa a:Addr}{fd:FuncData}{x:Str}{sp:Sp}{s₁:Shared}{vs:List Value}{ns:List Int}
  (KX:K.In s₁.heap) (hns:s₁.heap.Ns mainGlobals mg) (hb:s₁.heap.Ns builtinsNs mb) (hbb:∀x:Str,x ≠ "__name__"->mb x=bootBuiltins x) (hlim:s₁.heap.NoLimit) (hg:s₁.gens=#[])
  (ha:s₁.heap.get? a=some { cls:=.type "list",data:=.seq vs.toArray }) (hi:IntsAre vs ns) (hl:ns.length<=sizeLine) (hr:Room k callerA)
  (F:∀base:Heap,K.In base->base.Ns mainGlobals mg->FnOk P w K mg base CX k fa fd [x] sp) (hbind:∀(s:Shared) (u:Value),BindsTo s fd ⟨[u],[]⟩ [(x,u)])
  (hsp:∀H:Hp,Only H->SqL K H a (ns.map V.int)->sp [.ref a] H (fun v _=>v=.bl true) fun _ _ _=>False)
  (hCX:∀H e s',CX [] H s₁ (fun _ _ _=>False) e s'->False) :
  codeAny (model P w) callerA (.call (.ref fa) ⟨[.ref a],[]⟩) (fun r s'=>r=.ok (.ret (.bool true))/\OldK s₁.heap s'.heap/\s'.os=s₁.os/\AllBare s'.gens) s₁:=by
 have rv:=zZ8 hi
 have lenV:=hi.length
 have core:∀H:Hp,Only H->SqL K H a (ns.map V.int)->HOk P w H s₁.heap->(∀b,H b≠none->b=a)->(H a≠none->K.lookup a=none) ->
   codeAny (model P w) callerA (.call (.ref fa) ⟨[.ref a],[]⟩) (fun r s'=>r=.ok (.ret (.bool true))/\OldK s₁.heap s'.heap/\s'.os=s₁.os/\AllBare s'.gens) s₁:=by
  intro H hO hS hok hA hK
  have base_of:∀{b:Addr}{o:Obj},s₁.heap.get? b=some o->H b=none->(hidT s₁.heap H).get? b=some o:=fun e n=>xW4 e n
  have noA:∀{b:Addr}{o:Obj}{es:Array DictEntry}{ep:Nat},s₁.heap.get? b=some o->o.data=.dict es ep->H b=none:=fun {b o es ep} e d=>by
   cases q:H b with
   | none=>rfl
   | some u =>
    have e':b=a:=hA b (by rw[q];simp)
    subst e'
    rw[ha] at e;cases e
    have d':Data.seq vs.toArray _=Data.dict es ep:=d
    cases d'
  have nsK:∀{b:Addr}{m:Str->Option Value},s₁.heap.Ns b m->(hidT s₁.heap H).Ns b m:=fun {b m} ⟨o,es,ep,e,d,r⟩=>⟨o,es,ep,base_of e (noA e d),d,r⟩
  have hKb:K.In (hidT s₁.heap H):=fun b o e=>base_of (KX b o e) (by
   cases q:H b with
   | none=>rfl
   | some u =>
    have e':b=a:=hA b (by rw[q];simp)
    subst e'
    rw[hK (by rw[q];simp)] at e;cases e)
  have hM:Mod K mg (hidT s₁.heap H):=⟨hKb,nsK hns,⟨mb,nsK hb,hbb⟩,let ⟨mc,h1,h2⟩:=hlim; ⟨mc,nsK h1,h2⟩⟩
  have e0:Env0 P w K mg (hidT s₁.heap H) callerA [] s₁ H:=⟨rfl,hM,fun b o e=>xO3 e,Nat.le_of_eq (yE4 _ _),trivial,fun b hb=>absurd (show b∈([]:List Addr) from hb) (by simp),hok,.of_eq hg⟩
  refine codeAny_mono ((F _ hKb (nsK hns)).run callerA [] s₁ H ⟨[.ref a],[]⟩ [.ref a] [.ref a] _ _ hr e0 (hbind s₁ (.ref a)) (.cons rfl .nil) (hsp H hO hS)) fun r s' h => ?_
  cases r with
  | error e=>exact (hCX H e s' h).elim
  | ok fl =>
   cases fl with
   | next=>exact False.elim h
   | brk=>exact False.elim h
   | cont=>exact False.elim h
   | ret u =>
    obtain⟨v,H',os,bare,un,hok',r',q⟩:=h
    have q':v=.bl true:=q
    subst q'
    obtain rfl:u=Value.bool true:=r'
    refine⟨rfl,OldK.of_keep fun b o e => ?_,os,bare⟩
    cases q:H b with
    | none=>exact un.keep b o e q (by intro z;exact absurd (show b∈([]:List Addr) from z) (by simp)) (by simp)
    | some u =>
     rcases hO b with z | ⟨ob,xs,z⟩
     ·rw[q] at z;cases z
     ·have z2:=un.frzs b ob _ z
      obtain⟨e1,_⟩:=hok b _ z
      obtain⟨e2,_⟩:=hok' b _ z2
      rw[e] at e1;cases e1
      exact e2
 cases hk:K.lookup a with
 | some o =>
  have e:=KX a o hk
  rw[ha] at e
  cases e
  refine core (fun _=>none) (fun _=>.inl rfl) (.inr ⟨_,vs.toArray,_,hk,rfl,rfl,rfl,by rw[As,lenV];exact hl,by simpa using rv⟩) (fun b u z=>by have z':(none:Option HO)=some u:=z;cases z') (fun b z=>absurd rfl z) fun z=>absurd rfl z
 | none =>
  refine core (fun b=>if b=a then some (.frz { cls:=.type "list",data:=.seq vs.toArray } (.lst (ns.map V.int))) else none) (fun b => ?_) (.inl (.inr ⟨{ cls:=.type "list",data:=.seq vs.toArray },Am rfl⟩)) (fun b u z => ?_) (fun b z => ?_) fun _=>hk
  ·by_cases hb:b=a
   ·exact .inr ⟨_,_,Am hb⟩
   ·exact .inl (AG hb)
  ·by_cases hb:b=a
   ·have z':=(Am hb).symm.trans z
    cases z'
    subst hb
    exact⟨ha,by rw[Aa];exact hl,vs,_,rv,ha⟩
   ·have z':=(AG hb).symm.trans z
    cases z'
  ·by_cases hb:b=a
   ·exact hb
   ·exact absurd (AG hb) z
abbrev KOf{K:KFr}{h:Heap}(_:K.In h):KFr:=K
theorem xN2{l:PySem.W.OpenLaw}{n k:Nat}{q:Program}{loose:List Str}{XP:(Str->Option Value)->Heap->Prop}{YP:World->Heap->Prop}{d:DefRec}{K:Params->KFr}{CX:World->CXT}{sp:World->Sp}{x:Str}
  (hn:l.most=some n) (hn2:n<=sizeLine) (hdf:d.params.defaults=[]) (hr:Room k callerA)
  (hY:∀(w:World) (h:Heap),YP w h->(K w.params).In h)
  (F:∀(w:World) (mg:Str->Option Value) (fa:Addr) (h:Heap),(K w.params).In h->h.Ns mainGlobals mg->mg d.name=some (.ref fa) ->
   ∃fd:FuncData,(∀(s:Shared) (u:Value),BindsTo s fd ⟨[u],[]⟩ [(x,u)]) /\
    ∀base:Heap,(K w.params).In base->base.Ns mainGlobals mg->FnOk l.prog w (K w.params) mg base (CX w) k fa fd [x] (sp w))
  (hsp:∀(w:World) (H:Hp) (a:Addr) (ns:List Int),ns.length<=n->Only H->SqL (K w.params) H a (ns.map V.int)->sp w [.ref a] H (fun v _=>v=.bl true) fun _ _ _=>False)
  (hCX:∀(w:World) (H:Hp) (s:Shared) (e:Value) (s':Shared),CX w [] H s (fun _ _ _=>False) e s'->False) :
  PySem.W.WalkO q loose XP YP l.row.toRowW d [] (fun f vs=>PySem.call f vs):=by
 refine Att.yT1 hn hdf fun w s₀ s₁ mg mb fa o pm cd doc a vs ns G Y ho hd hcd hmg hobj hints hlen hg => ?_
 have KX:=hY w _ Y
 obtain⟨fd,hb,hF⟩:=F w mg fa _ KX G.T.g hmg
 exact xU2 KX G.T.g G.T.b G.T.builtins G.T.nolimit hg hobj hints (Ba hlen hn2) hr hF hb (fun H hO hS=>hsp w H a ns hlen hO hS) fun H e s'=>hCX w H s₁ e s'
def defArgs(s:Stmt):Arguments:=match s with
 | .FunctionDef _ a _ _ _ _ _ _ _ _=>a
 | _=>{ posonlyargs:=[],args:=[],vararg:=none,kwonlyargs:=[],kw_defaults:=[],kwarg:=none,defaults:=[] }
def defBody(s:Stmt):List Stmt:=match s with
 | .FunctionDef _ _ b _ _ _ _ _ _ _=>b
 | _=>[]
def zS(s:Stmt):Scope:=match s with
 | .FunctionDef _ _ _ _ _ _ sc _ _ _=>sc
 | _=>{ kind:=.function,names:=[],isGenerator:=false,isCoroutine:=false }
abbrev CX0:CXT:=fun _ _ _ _ _ _=>False
abbrev E0:XK:=fun _ _ _=>False
theorem pass0{X:Cx}:Passes CX0 X E0:=fun _ _ _ _ _ _ _ h=>h.elim
structure Fun(K:KFr)(x qual:Str)(st:Stmt)(f:Addr)(fd:FuncData):Prop where
 ex:∃(oc:Value) (od:Option Addr) (kV doc pm:Value) (an:Option Addr) (cdv ct:Value) (osl:Array (Option Value)),
  fd=PySem.W.fnOf x qual (defArgs st) (defBody st) (zS st) .none kV doc pm an cdv ct/\K.lookup f=some ⟨oc,od,.func fd,osl⟩/\PySem.W.codeIn K cdv qual=true
 kp:PySem.W.keepIn K (.ref f)=true
section
variable {P:Program}{w:World}{K:KFr}{mg:Str->Option Value}{base:Heap}
theorem Fun.ok{x qual:Str}{st:Stmt}{f:Addr}{fd:FuncData}{N ps:List Str}{k:Nat}{sp:Sp}(F:Fun K x qual st f fd)(S:zJ N ps (zS st))(len:∀vs H Q E,sp vs H Q E->vs.length=ps.length)
  (hbody:∀(cdv:Value) (A:Around) (outer:List Env) (s:Shared) (H:Hp) (vs:List V) (Q:VK) (E:XK),Room k (A.deeper (envOfC qual (zS st) s.heap.objs.size f cdv))->sp vs H Q E ->
   ∃t,PSs (cxOf CX0 P w K mg base N qual (zS st) f cdv A outer s H E).nox (defBody st) t/\t { nx:=fun _ H'=>Q .non H',rt:=Q } (start N vs) H):FnOk P w K mg base CX0 (k+1) f fd ps sp:=by
 obtain⟨oc,od,kV,doc,pm,an,cdv,ct,osl,rfl,lk,hcd⟩:=F.ex
 refine yM3 lk hcd S len fun A outer s H vs Q E hr hsp => ?_
 obtain⟨t,h,q⟩:=hbody cdv A outer s H vs Q E hr hsp
 exact⟨t,h.nox,q⟩
theorem Fun.binds{x qual:Str}{st:Stmt}{f:Addr}{fd:FuncData}{ps:List Str}(F:Fun K x qual st f fd)
  (h:∀(kV doc pm:Value) (an:Option Addr) (cdv ct:Value) (us:List Value),us.length=ps.length->bindArgs (PySem.W.fnOf x qual (defArgs st) (defBody st) (zS st) .none kV doc pm an cdv ct) ⟨us,[]⟩=pure (ps.zip us)):Binds K fd ps []:=by
 obtain⟨oc,od,kV,doc,pm,an,cdv,ct,osl,rfl,lk,hcd⟩:=F.ex
 exact .all (h kV doc pm an cdv ct)
theorem yH1{x qual:Str}{st:Stmt}{f:Addr}{oc:Value}{od an:Option Addr}{osl:Array (Option Value)}{kV doc pm cdv ct:Value}(l:K.lookup f=some ⟨oc,od,.func (PySem.W.fnOf x qual (defArgs st) (defBody st) (zS st) .none kV doc pm an cdv ct),osl⟩)
  (c:PySem.W.codeIn K cdv qual=true) (k:PySem.W.keepIn K (.ref f)=true):Fun K x qual st f (PySem.W.fnOf x qual (defArgs st) (defBody st) (zS st) .none kV doc pm an cdv ct):=⟨⟨oc,od,kV,doc,pm,an,cdv,ct,osl,rfl,l,c⟩,k⟩
end
theorem small1000{n:Nat}(h:n<=1000):n<sizeLine:=Dr h (by decide)
section
variable {X:Cx}
theorem pv(i:Nat){x:Str}{pos:Pos}(hN:autoParam (X.N[i]?=some x) Dz)(hv:autoParam (Vis X.env.scope x) Dv)(hd:autoParam ((x == ("__debug__":Str))=false) Dy)
  (hcd:autoParam ((x == ("__classdict__":Str))=false) Dy):PE X (.Name x pos) (tVar i):=fU hN hv hd hcd
end
theorem iteF{A B:Prop}(h:B):if false=true then A else B:=by
 rw[AG Ap]
 exact h
theorem iteT{A B:Prop}(h:A):if true=true then A else B:=by
 rw[Am rfl]
 exact h
def Same(H H':Hp):Prop:=∀b o,H b=some o->H' b=some o
theorem Same.refl(H:Hp):Same H H:=fun _ _ h=>h
theorem Same.trans{H H1 H2:Hp}(a:Same H H1)(b:Same H1 H2):Same H H2:=fun c o h=>b c o (a c o h)
theorem Same.free{H H':Hp}(e:Same H H'){l:Addr}(h:H' l=Option.none):H l=Option.none:=by
 cases q:H l with
 | none=>rfl
 | some o =>
  rw[e l o q] at h
  cases h
end L2
set_option maxHeartbeats 2000000
namespace PySem
section
variable {prog:Program}{w:World}{A:Around}{E:Value->Shared->Prop}{s:Shared}
theorem yM1{x:Addr}{id nm:String}{Q:Bool->Shared->Prop}(nm_is:id="list_reverseiterator.__length_hint__")(t:s.TypeIs (.ref x) "list_reverseiterator")(h1:typeLookup (.type "list_reverseiterator") "__len__" = pure none)(h2:typeLookup (.type "list_reverseiterator") "__length_hint__" = pure (some (.builtin id)))(h3:splitId id=some ("list_reverseiterator",nm))(h4:isSubtype (.type "list_reverseiterator") (.type "list_reverseiterator")=pure true)
  (q:Q false s):wpAny (model prog w) A (Builtin.List.listLengthHint (.ref x)) Q E s:=by
 unfold Builtin.List.listLengthHint
 refine Ab (wpAny_specialOf t h1 ?_)
 wp_walk using wpAny_specialOf t h2
 simp only[h3]
 subst nm_is
 refine Ab (wpAny_isInstance t h4 ?_)
 rw[AG (by decide),Am (by decide +kernel),AG (by decide +kernel)]
 exact Ar q
theorem yJ1{it l:Addr}{i:Int}{Q:Bool->Shared->Prop}(hI:s.heap.IsRevIter it l i)(q:Q false s):wpAny (model prog w) A (Builtin.List.listLengthHint (.ref it)) Q E s:=by
 refine yM1 (nm:="__length_hint__") rfl hI.typeIs ?_ ?_ (by decide +kernel) ((isSubtype_type ..).trans (by kernel_rfl)) q
 all_goals (rw[typeLookup_type,builtinLookup_eq_fast];kernel_rfl)
theorem xI5{it l S:Addr}{res:Value}{its:Array Value}(ne:l≠it)(hz:its.size<=sizeLine)(Si:S≠it)(Sl:S≠l) :
  MeetsIn prog w (Builtin.List.listExtendWith (.ref S) (.ref it) res) (fun B R x=>B.handled=none/\x.heap.IsRevIter it l ((its.size:Int)-1)/\x.heap.IsList l its/\(∃n,x.heap.get? S=some { cls:=.type "list",data:=.seq #[] n }) /\
   ∀h' tk vs n,(∀b o,b≠S->b≠it->x.heap.get? b=some o->h'.get? b=some o)->h'.get? S=some { cls:=.type "list",data:=.seq vs n }->ItemsOf (fun i v=>its[its.size-1-i]?=some v) vs its.size->R (.ok (.ret res)) { x with heap:=h',toks:=tk }):=by
 intro B R x ⟨hh,hI,hl,⟨n,hS⟩,k⟩
 have t:=hI.typeIs (s:=x)
 have dif:Builtin.List.listSameRef (.ref S) (.ref it)=false:=by simp[Builtin.List.listSameRef,Si]
 unfold Builtin.List.listExtendWith
 wp_walk using wpAny_typeOf t,wpAny_pyIter_revIter hI,wpAny_holding,yJ1 hI
 have W:=(Walks.listRev (prog:=prog) (w:=w) (A:=B.in1) hh it l ne its).toS
 refine⟨plainId_quiet F.plain_extend_loop _,codeAny_extend_loopS W hz S (by simp[Si,Sl]) _ _ 0 _ #[] n rfl (Bb _) ⟨Bb _,by simpa using hI,hl⟩ hS (ItemsOf.nil _) fun s' vs n' mv at_ vals => ?_⟩
 rw[mv.eq_with]
 exact k s'.heap s'.toks vs n' (fun b o h1 h2 g=>mv.heap b o (by simp[h1,h2]) g) at_ vals
theorem xT1{Q:Value->Shared->Prop}{it l:Addr}{its:Array Value}(hh:A.handled=none)(ne:l≠it)(hI:s.heap.IsRevIter it l ((its.size:Int)-1))(hl:s.heap.IsList l its)(hz:its.size<=sizeLine)
  (q:∀h' tk vs n,(∀b o,b≠it->s.heap.get? b=some o->h'.get? b=some o)->h'.get? s.heap.objs.size=some { cls:=.type "list",data:=.seq vs n }->ItemsOf (fun i v=>its[its.size-1-i]?=some v) vs its.size->Q (.ref s.heap.objs.size) { s with heap:=h',toks:=tk }):wpAny (model prog w) A (call (.type "list") [.ref it]) Q E s:=by
 have on:∀{b:Addr}{o:Obj},s.heap.get? b=some o->s.heap.objs.size≠b:=fun g=>Ck (Ao g)
 have up:∀b o,s.heap.get? b=some o->(s.heap.push { cls:=.type "list",data:=.seq #[] }).get? b=some o:=fun b o g=>Al _ g
 have si:s.heap.objs.size≠it:=let ⟨o,g,_⟩:=hI;on g
 have sl:s.heap.objs.size≠l:=let ⟨o,g,_⟩:=hl;on g
 refine callType_codes F.called_list (F.typeCall_list_1 _) F.entry_list_init (code_list_new _ (Q₁:=fun v x=>v=.ref s.heap.objs.size/\x={ s with heap:=s.heap.push { cls:=.type "list",data:=.seq #[] } }) ⟨rfl,rfl⟩) fun v x z => ?_
 obtain⟨rfl,rfl⟩:=z
 have new:(s.heap.push { cls:=.type "list",data:=.seq #[] }).get? s.heap.objs.size=some { cls:=.type "list",data:=.seq #[] }:=Az _ rfl
 refine⟨⟨_,new,rfl⟩,F.args_list_init_2 _ _,?_⟩
 have a1:∀(P:Unit->Shared->Prop) (E':Value->Shared->Prop),P () { s with heap:=(s.heap.push { cls:=.type "list",data:=.seq #[] }).update s.heap.objs.size (Obj.mapSeq fun _=>#[]) }->wpAny (model prog w) A.in1.in1 (updateSeq s.heap.objs.size fun _=>#[]) P E' { s with heap:=s.heap.push { cls:=.type "list",data:=.seq #[] } }:=fun P E' p=>wpAny_updateSeq new rfl p
 have oth:∀b o,s.heap.get? b=some o->((s.heap.push { cls:=.type "list",data:=.seq #[] }).update s.heap.objs.size (Obj.mapSeq fun _=>#[])).get? b=some o:=fun b o g=>(AC _ _ (on g)).trans (up b o g)
 have a2:=xI5 (prog:=prog) (w:=w) (res:=.none) ne hz si sl A.in1 (wants (fun r x=>r=.none/\Q (.ref s.heap.objs.size) x) E) { s with heap:=(s.heap.push { cls:=.type "list",data:=.seq #[] }).update s.heap.objs.size (Obj.mapSeq fun _=>#[]) }
  ⟨hh,hI.at (oth it),hl.at (oth l),⟨_,AY _ new rfl⟩,fun h' tk vs n keep at_ vals=>⟨rfl,q h' tk vs n (fun b o h1 g=>keep b o (on g).symm h1 (oth b o g)) at_ vals⟩⟩
 have a3:=fun (P:Fin->Shared->Prop) (E':Value->Shared->Prop) (p:∀f x,_->P f x) (e:∀v x,_->E' v x)=>wpAny_mono a2 p e
 wp_walk using wpAny_seqItems new rfl,a1,wpAny_letGo,a3
 ·exact fun f x z=>z
 ·exact fun f x z=>z
theorem yW3{l:Addr}{its:Array Value}{P:Value->Shared->Prop}(hh:A.handled=none)(hl:s.heap.IsTuple l its)
  (k:∀(I:Addr) (hp:Heap) (St:Nat->Heap->Prop),Walks prog w A I [I,l] [I] its.size (fun i v=>its[i]?=some v) St->St 0 hp->I<hp.objs.size->l<hp.objs.size->(∀b o,s.heap.get? b=some o->b≠I/\hp.get? b=some o)->P (.ref I) { s with heap:=hp }) :
  wpAny (model prog w) A (pyIter (.ref l)) P E s:=by
 have on:∀{b:Addr}{o:Obj},s.heap.get? b=some o->b<s.heap.objs.size:=fun g=>Ao g
 have ll:l<s.heap.objs.size:=let ⟨_,g,_⟩:=hl;on g
 refine wpAny_pyIter_tuple hl (k _ _ _ (Walks.tuple hh _ l (AL ll) its) ⟨⟨_,Az _ rfl,rfl,rfl⟩,hl.at fun _ g=>Al _ g⟩ ?_ ?_ fun b o g=>⟨AL (on g),Al _ g⟩)
 ·exact Nat.lt_of_lt_of_eq (CK _) (Cp ..).symm
 ·exact Nat.lt_of_lt_of_eq (Nat.lt_succ_of_lt ll) (Cp ..).symm
theorem xQ3{l b:Addr}{xs ys:Array Value}{n m:Nat}{o:Obj}(hc:o.cls=.type "tuple")(hd:o.data=.seq ys m)(fit:xs.size+ys.size<=sizeLine) :
  Meets (Builtin.«list.extend» ⟨[.ref l,.ref b],[]⟩) (fun _ R x=>x.heap.get? l=some { cls:=.type "list",data:=.seq xs n }/\x.heap.get? b=some o/\R (.ok (.ret .none)) { x with heap:=x.heap.update l (Obj.mapSeq (·++ys)) }) :=
 .of_wp fun prog w A R x ⟨hl,hb,k⟩=>by
  have t:x.TypeIs (.ref b) "tuple":=⟨o,hb,hc⟩
  have e1:Builtin.List.listTooLong (xs.size+ys.size)=false:=by
   unfold Builtin.List.listTooLong
   simpa using fit
  have e2:(xs++ys).size<=sizeLine+1:=by rw[Array.size_append];rfl'
  have e3:xs.size<=sizeLine:=by rfl'
  wp_walk using wpAny_typeOf t,wpAny_seqItems hl rfl,wpAny_seqItems hb hd,wpAny_updateSeq hl rfl
  exact⟨_,rfl,k⟩
theorem yW9{it:Addr}{P:Value->Shared->Prop}(ty:s.TypeIs (.ref it) "tuple_iterator")
  (k:wpAny (model prog w) A.in1 (Builtin.«tuple_iterator.__next__» ⟨[.ref it],[]⟩) (fun f x=>∃v,f=.done (.ret v)/\P v x) E s):wpAny (model prog w) A (Builtin.SmallTypes.nextOf (.ref it)) P E s:=by
 have sl:=F.slot_tuple_iterator_next
 have en:=F.entry_tuple_iterator_next
 have ok:=F.args_tuple_iterator_next_1 (.ref it)
 have c:wpAny (model prog w) A (call (.builtin "tuple_iterator.__next__") [.ref it]) P E s:=wpAny_call_entry sl ty en k ok
 unfold Builtin.SmallTypes.nextOf
 exact Ab (wpAny_callSpecial?_slot ty sl (wpAny_mono c (fun v x z=>Ar z) fun _ _ z=>z))
section
variable {it t:Addr}{i:Nat}{its:Array Value}
theorem xU9{v:Value}{P:Value->Shared->Prop}(hI:s.heap.IsTupleIter it t i)(hT:s.heap.IsTuple t its)(at_:its[i]?=some v)
  (k:∀h',h'.IsTupleIter it t (i+1)->Heap.SameBut it s.heap h'->P v { s with heap:=h' }):wpAny (model prog w) A (Builtin.SmallTypes.nextOf (.ref it)) P E s:=by
 refine yW9 hI.typeIs ?_
 obtain⟨o,a1,a2,a3⟩:=hI
 obtain⟨ot,b1,b2,n,b3⟩:=hT
 have f0:∀(P:Value->Shared->Prop) (E':Value->Shared->Prop),P (.ref t) s->wpAny (model prog w) A.in1 (field (.ref it) 0) P E' s:=fun P E' p=>wpAny_field a1 a3 rfl p
 have f1:∀(P:Value->Shared->Prop) (E':Value->Shared->Prop),P (.int i 0) s->wpAny (model prog w) A.in1 (field (.ref it) 1) P E' s:=fun P E' p=>wpAny_field a1 a3 rfl p
 have at':its[(i:Int).toNat]?=some v:=at_
 wp_walk using f0,f1,wpAny_seqItems b1 b3,wpAny_setField a1 a3
 rw[at']
 refine Ab (wpAny_setField a1 a3 (by simp) (Ar ⟨v,rfl,k _ ⟨_,AY _ a1 ?_,?_,?_⟩ (Heap.SameBut.update ..)⟩))
 ·exact BP (Bk a3 _)
 ·rw[Obj.cls_mapFields,a2]
 ·rw[Bk a3];rfl
theorem yO7{P:Value->Shared->Prop}(hA:A.handled=none)(hI:s.heap.IsTupleIter it t i)(hT:s.heap.IsTuple t its)(at_:its[i]?=none)
  (k:∀h' e,Heap.ExtBut it s.heap h'->(∃o,h'.get? e=some o/\o.cls=.type "StopIteration")->E (.ref e) { s with heap:=h' }):wpAny (model prog w) A (Builtin.SmallTypes.nextOf (.ref it)) P E s:=by
 refine yW9 hI.typeIs ?_
 obtain⟨o,a1,a2,a3⟩:=hI
 obtain⟨ot,b1,b2,n,b3⟩:=hT
 have f0:∀(P:Value->Shared->Prop) (E':Value->Shared->Prop),P (.ref t) s->wpAny (model prog w) A.in1 (field (.ref it) 0) P E' s:=fun P E' p=>wpAny_field a1 a3 rfl p
 have f1:∀(P:Value->Shared->Prop) (E':Value->Shared->Prop),P (.int i 0) s->wpAny (model prog w) A.in1 (field (.ref it) 1) P E' s:=fun P E' p=>wpAny_field a1 a3 rfl p
 have at':its[(i:Int).toNat]?=none:=at_
 have hA':A.in1.handled=none:=hA
 wp_walk using f0,f1,wpAny_seqItems b1 b3,wpAny_setField a1 a3,wpAny_raiseNew_none hA'
 rw[at']
 refine Ab (wpAny_rule (Ab (wpAny_setField a1 a3 (by simp) ?_)))
 unfold Builtin.SmallTypes.stopIteration
 wp_walk using wpAny_raiseNew_none hA'
 exact k _ _ (((Heap.SameBut.update ..).extBut.push _).push _) ⟨_,Az _ rfl,rfl⟩
end
theorem aF{M:Model}{scope:Scope}{g bi:Addr}{cl:List (Str×Addr)}{qual:Str}{cd:Value}{outer:Env}{P:Value->Env->Shared->Prop}(nocell:∀y∈scope.names,y.2 ≠ .cell)(kind:scope.kind=.function)
  (k:∀(D C:Addr) (hp:Heap) (m:Str->Option Value),s.heap.objs.size<=D->s.heap.objs.size<=C->D≠C->(∀b o,s.heap.get? b=some o->hp.get? b=some o)->hp.get? D=some { cls:=.type "list",data:=.seq #[] }->hp.Ns C m->P (.ref D) (newEnv scope C g cl qual none cd (some outer) bi) { s with heap:=hp }) :
  wpAny M A (newList []) (fun acc x=>wpAny M A (newFunctionEnv scope g cl [] qual none cd (some outer) bi) (fun e y=>P acc e y) E x) E s:=by
 unfold newList
 refine wpAny_newObj_type (wpAny_newFunctionEnv nocell (fun _ z=>nomatch z) (fun hp ns sb => ?_) kind)
 have z:(s.heap.push { cls:=.type "list",data:=.seq #[] }).objs.size=s.heap.objs.size+1:=Cp ..
 have up:∀b o,(s.heap.push { cls:=.type "list",data:=.seq #[] }).get? b=some o->hp.get? b=some o:=fun b o q=>sb.extBut b o (AL (Ao q)) (Al _ q)
 exact k _ _ hp _ (Ai _) (by show _<=(s.heap.push _).objs.size;rw[Cp];rfl') (by show _≠(s.heap.push _).objs.size;rw[Cp];rfl') (fun b o q=>up b o (Al _ q)) (up _ _ (Az _ rfl)) ns
theorem xJ3{x:Value}{oI:Obj}{Q:Value->Shared->Prop}(alive:oI.isFreed=false)(it:∀(B:Around) (P E':Value->Shared->Prop),P (.ref s.heap.objs.size) { s with heap:=s.heap.push oI }->wpAny (model prog w) B (pyIter x) P E' s)
  (k:∀h',IsEnum h' (s.heap.objs.size+1) s.heap.objs.size 0 .none->h'.get? s.heap.objs.size=some oI->(∀b o,s.heap.get? b=some o->h'.get? b=some o)->Q (.ref (s.heap.objs.size+1)) { s with heap:=h' }):wpAny (model prog w) A (call (.type "enumerate") [x]) Q E s:=by
 refine callType_newIn F.called_enumerate (by decide) (F.typeCall_enumerate_1 _) (F.newCall_enumerate_1 _) (fun o=>F.args_object_init_2 o _) F.entry_enumerate_new
  (S:=fun B R t=>t=s/\B=A.in1/\R=wants (fun v y=>y.TypeIs v "enumerate"/\Q v y) E) (.of_wp fun B R t h => ?_) ⟨rfl,rfl,rfl⟩
 obtain⟨rfl,rfl,rfl⟩:=h
 have u:=sub_enumerate
 have sz:(t.heap.push oI).objs.size=t.heap.objs.size+1:=Cp ..
 have fin:∀v:Value,v=.ref (t.heap.push oI).objs.size->Q v { t with heap:=(t.heap.push oI).push { cls:=.type "enumerate",data:=.fields #[.none,.bool false,.ref t.heap.objs.size,rawInt 0,.none,.none] } }:=fun v e=>by
  subst e
  rw[sz]
  exact k _ (by rw[<-sz];exact Az _ rfl) (Al _ (Az _ alive)) fun b o g=>Al _ (Al _ g)
 wp_walk
 refine wpAny_stack_any (fun st=>Ar ?_)
 split
 ·generalize (_ == Value.type "enumerate")=b
  cases b
  all_goals
   wp_walk using it A.in1.in1
   exact⟨_,rfl,⟨_,Az _ rfl,rfl⟩,fin _ rfl⟩
 ·wp_walk using it A.in1.in1
  exact⟨_,rfl,⟨_,Az _ rfl,rfl⟩,fin _ rfl⟩
end
end PySem
set_option maxHeartbeats 2000000
namespace PySem
section
variable {prog:Program}{w:World}{A:Around}{E:Value->Shared->Prop}{s:Shared}
end
end PySem
namespace L2
open PySem PySem.Spec PyProof.Rows
theorem HOk.track{P:Program}{w:World}{H:Hp}{h:Heap}{a:Addr}{o:HO}(x:HOk P w H h)(hn:H a=none)(new:ObjOk P w (upd H a o) h a o):HOk P w (upd H a o) h:=fun b u e=>by
 by_cases hb:b=a
 ·subst hb;rw[zN] at e;cases e;exact new
 ·rw[zO hb] at e
  exact (x b u e).stay (fun c v _ q=>q) (fun c q=>by rw[zO (xU q hn)];exact q) fun c xs q=>by rw[zO (xU q hn)];exact q
def clos(cells:List (Str×Addr)):List (Str×NameKind)->List (Str×Addr)->List (Str×Addr)
 | [],acc=>acc
 | (n,k)::r,acc=>if k == .free then clos cells r ((n,(cells.lookup n).getD 0)::acc) else clos cells r acc
theorem jH{env:Env}:∀(names:List (Str×NameKind)) (acc:List (Str×Addr)),(∀n,(n,NameKind.free)∈names->∃c,env.cells.lookup n=some c) ->
  (forIn names acc fun (x:Str×NameKind) (r:List (Str×Addr))=>(do
   let (name,kind):=x
   if kind == .free then do
    let c <-cellOf env name
    pure (ForInStep.yield ((name,c)::r))
   else pure (ForInStep.yield r):Sem (ForInStep (List (Str×Addr)))))=pure (clos env.cells names acc)
 | [],acc,_=>rfl
 | (n,k)::r,acc,h=>by
  rw[List.forIn_cons]
  by_cases hk:(k == NameKind.free)=true
  ·have ek:k=NameKind.free:=by simpa using hk
   obtain⟨c,hc⟩:=h n (by rw[ek];exact Ac)
   have e1:cellOf env n=pure c:=by unfold cellOf;rw[hc]
   simp only[hk,if_true,e1,pure_bind]
   rw[jH r _ fun m hm=>h m (Ae _ hm)]
   show _=pure (if (k == NameKind.free)=true then clos env.cells r ((n,(env.cells.lookup n).getD 0)::acc) else clos env.cells r acc)
   rw[Am hk,hc]
   rfl
  ·simp only[hk,if_false,pure_bind,AB]
   rw[jH r _ fun m hm=>h m (Ae _ hm)]
   show _=pure (if (k == NameKind.free)=true then clos env.cells r ((n,(env.cells.lookup n).getD 0)::acc) else clos env.cells r acc)
   rw[AG hk]
theorem hR{scope:Scope}{env:Env}(h:∀n,(n,NameKind.free)∈scope.names->∃c,env.cells.lookup n=some c):closureFor scope env=pure (clos env.cells scope.names []):=by
 unfold closureFor
 have:=jH (env:=env) scope.names [] h
 simp only[] at this ⊢
 rw[show (forIn scope.names ([]:List (Str×Addr)) fun (x:Str×NameKind) (r:List (Str×Addr))=>(do
   if x.2 == .free then do
    let c <-cellOf env x.1
    pure (ForInStep.yield ((x.1,c)::r))
   else pure (ForInStep.yield r):Sem (ForInStep (List (Str×Addr)))))=pure (clos env.cells scope.names []) from this]
 rfl
theorem bU{cells:List (Str×Addr)}:∀(names:List (Str×NameKind)) (acc:List (Str×Addr)),(∀n,(n,NameKind.free)∈names->∃c,cells.lookup n=some c)->(∀x c,acc.lookup x=some c->cells.lookup x=some c) ->
  ∀x c,(clos cells names acc).lookup x=some c->cells.lookup x=some c
 | [],acc,_,ha,x,c,e=>ha x c e
 | (n,k)::r,acc,h,ha,x,c,e=>by
  unfold clos at e
  by_cases hk:(k == NameKind.free)=true
  ·rw[Am hk] at e
   have ek:k=NameKind.free:=by simpa using hk
   obtain⟨d,hd⟩:=h n (by rw[ek];exact Ac)
   refine bU r _ (fun m hm=>h m (Ae _ hm)) (fun y z q => ?_) x c e
   rw[hd,Dd,By] at q
   by_cases hy:(y == n)=true
   ·simp only[hy] at q
    have ey:y=n:=by simpa using hy
    cases q
    rw[ey];exact hd
   ·simp only[hy] at q
    exact ha y z q
  ·rw[AG hk] at e
   exact bU r _ (fun m hm=>h m (Ae _ hm)) ha x c e
theorem zT4{cells:List (Str×Addr)}:∀(names:List (Str×NameKind)) (acc:List (Str×Addr)) (x:Str),(∃c,acc.lookup x=some c)->∃c,(clos cells names acc).lookup x=some c
 | [],acc,x,h=>h
 | (n,k)::r,acc,x,h=>by
  unfold clos
  by_cases hk:(k == NameKind.free)=true
  ·rw[Am hk]
   refine zT4 r _ x ?_
   rw[By]
   by_cases hy:(x == n)=true
   ·simp only[hy];exact⟨_,rfl⟩
   ·simp only[hy];exact h
  ·rw[AG hk];exact zT4 r _ x h
theorem jI{cells:List (Str×Addr)}:∀(names:List (Str×NameKind)) (acc:List (Str×Addr)) (x:Str),(x,NameKind.free)∈names->∃c,(clos cells names acc).lookup x=some c
 | (n,k)::r,acc,x,h=>by
  unfold clos
  rcases Aw.mp h with e | e
  ·cases e
   rw[Am (by rfl)]
   refine zT4 r _ _ ?_
   rw[By]
   simp only[beq_self_eq_true]
   exact⟨_,rfl⟩
  ·by_cases hk:(k == NameKind.free)=true
   ·rw[Am hk];exact jI r _ x e
   ·rw[AG hk];exact jI r _ x e
theorem yI3(env:Env):∃f:Str×NameKind->Str×NameKind,(∀sc:Scope,(relabel sc env).names=sc.names.map f)/\∀q,f q=q\/(q.2=.free/\f q=(q.1,.cell)):=by
 refine⟨_,fun _=>rfl,fun q => ?_⟩
 dsimp only
 split
 ·rename_i z
  exact .inr ⟨eq_of_beq (CH.mp (CH.mp z).1).1,rfl⟩
 ·exact .inl rfl
theorem zH4{f:Str×NameKind->Str×NameKind}(hf:∀q,f q=q\/(q.2=.free/\f q=(q.1,.cell)))(x:Str):∀l:List (Str×NameKind),(l.map f).lookup x=l.lookup x\/(l.lookup x=some .free/\(l.map f).lookup x=some .cell)
 | []=>.inl rfl
 | (n,k)::r=>by
  have ih:=zH4 hf x r
  rw[AF]
  rcases hf (n,k) with e | ⟨e1,e⟩
  ·rw[e]
   cases q:x == n with
   | true=>exact .inl (by rw[By,By,q])
   | false=>simpa only[By,q] using ih
  ·cases e1
   rw[e]
   cases q:x == n with
   | true=>exact .inr ⟨by rw[By,q],by rw[By,q]⟩
   | false=>simpa only[By,q] using ih
theorem zX2(sc:Scope)(env:Env)(x:Str):(relabel sc env).names.lookup x=sc.names.lookup x\/(sc.names.lookup x=some .free/\(relabel sc env).names.lookup x=some .cell):=by
 obtain⟨f,e,hf⟩:=yI3 env
 rw[e sc]
 exact zH4 hf x sc.names
theorem jU{sc:Scope}{env:Env}{x:Str}{k:NameKind}(h:(relabel sc env).names.lookup x=some k):sc.names.lookup x=some k\/(k=.cell/\sc.names.lookup x=some .free):=by
 rcases zX2 sc env x with e | ⟨e1,e2⟩
 ·exact .inl (e.symm.trans h)
 ·exact .inr ⟨AX (h.symm.trans e2),e1⟩
theorem aG{sc:Scope}{env:Env}{x:Str}(h:sc.names.lookup x=some .free):(relabel sc env).names.lookup x=some .cell\/(relabel sc env).names.lookup x=some .free:=by
 rcases zX2 sc env x with e | ⟨_,e⟩
 ·exact .inr (e.trans h)
 ·exact .inl e
def cxComp(X:Cx)(N:List Str)(scope:Scope)(C:Addr)(fp:List Addr)(s₂:Shared)(H:Hp):Cx where
 prog:=X.prog
 w:=X.w
 K:=X.K
 mg:=X.mg
 base:=X.base
 A:=X.A
 N:=N
 s₀:=s₂
 H₀:=H
 env:=compEnvC scope (clos X.env.cells scope.names []) C X.env
 outer:=X.stack
 stack:=X.stack
 ex:=fp
 fn:=fun _=>false
 calm:=X.calm
 pn:=[]
 xe:=fun _ _=>False
structure CompScope(sc0 scope:Scope)(N0:List Str)(xt:Str)(fs:List Str)(js:List Nat):Prop where
 kind:scope.kind=.function
 nocell:∀y∈scope.names,y.2 ≠ .cell
 names:∀y∈scope.names,y.2=.local->scope.names.lookup y.1=some .local
 tgt:scope.names.lookup xt=some .local
 frees:∀y∈scope.names,y.2=.free->sc0.names.lookup y.1=some .cell\/sc0.names.lookup y.1=some .free
 len:js.length=fs.length
 slots:∀p∈fs.zip js,N0[p.2]?=some p.1/\scope.names.lookup p.1=some .free
 nd:(xt::fs).Nodup
theorem zM5{α β:Type}:∀{fs:List α}{js:List β}{i:Nat}{y:α}{j:β},fs[i]?=some y->js[i]?=some j->(y,j)∈fs.zip js
 | [],_,_,_,_,h,_=>by simp at h
 | _::_,[],_,_,_,_,h=>by simp at h
 | a::fs,b::js,0,y,j,h,h'=>by
  simp at h h'
  subst h h'
  exact Ac
 | a::fs,b::js,i+1,y,j,h,h'=>by
  rw[List.zip_cons_cons]
  exact Ae _ (zM5 (i:=i) (by simpa using h) (by simpa using h'))
def compSt(σ:St)(js:List Nat)(v:Option V):St:=v::js.map fun j=>(σ[j]?).join
section
variable {X:Cx}{DA:List (Addr×Obj)}{σ:St}{H:Hp}{s₂ s₄:Shared}{sc0 scope:Scope}{N0:List Str}{xt:Str}{fs:List Str}{js:List Nat}{fp:List Addr}
theorem CompScope.cells(S:CompScope sc0 scope N0 xt fs js)(h0:X.env.scope=sc0)(ok:X.Ok):∀n,(n,NameKind.free)∈scope.names->∃c,X.env.cells.lookup n=some c:=fun n hn=>ok.has n (by subst h0;exact S.frees _ hn rfl)
theorem CompScope.sub(S:CompScope sc0 scope N0 xt fs js)(h0:X.env.scope=sc0)(ok:X.Ok):∀x c,(clos X.env.cells scope.names []).lookup x=some c->X.env.cells.lookup x=some c :=
 bU scope.names [] (S.cells h0 ok) fun x c e=>by simp at e
theorem Inv.block(S:CompScope sc0 scope N0 xt fs js)(h0:X.env.scope=sc0)(hN0:X.N=N0)(I:Inv X DA σ H s₂)(hf:∀b∈fp,FpOk X DA H b)(hfo:∀b∈fp,∃o,s₂.heap.get? b=some o)
  (hos:s₄.os=s₂.os) (hg:AllBare s₄.gens) (hk:∀b o,s₂.heap.get? b=some o->s₄.heap.get? b=some o){C:Addr}(hC:s₂.heap.objs.size<=C){m:Str->Option Value}(hn:s₄.heap.Ns C m) :
  Inv (cxComp X (xt::fs) scope C fp s₂ H) [] (compSt σ js none) H s₄:=by
 have sub:=S.sub h0 I.ok
 have blt:∀b∈fp,b<s₂.heap.objs.size:=fun b hb=>let ⟨o,e⟩:=hfo b hb;Ao e
 have ok:(cxComp X (xt::fs) scope C fp s₂ H).Ok:=by
  refine⟨I.ok.mod,S.kind,I.ok.glob,I.ok.blt,hC,fun x y c h1 h2=>I.ok.inj x y c (sub x c h1) (sub y c h2),fun x hx => ?_,fun x c h=>(nomatch h),I.ok.hd,I.ok.frames,.inl rfl,fun b hb=>⟨?_,fun x c h=>(hf b hb).2.2.2.2.1 x c (sub x c h)⟩,I.bs,Ba I.ok.bsz I.sz,fun b o e hb => ?_,fun b hb hs => ?_,I.stack,I.stkFree⟩
  ·have hx:(relabel scope X.env).names.lookup x=some .cell\/(relabel scope X.env).names.lookup x=some .free:=hx
   have hfree:scope.names.lookup x=some .free:=by
    rcases hx with hx | hx
    ·rcases jU hx with q | ⟨_,q⟩
     ·exact absurd rfl (S.nocell _ (AZ q))
     ·exact q
    ·rcases jU hx with q | ⟨q,_⟩
     ·exact q
     ·cases q
   exact jI scope.names [] x (AZ hfree)
  ·exact AL (Ax (blt b hb) hC)
  ·rcases (hf b hb).2.2.2.1 with z | z
   ·exact I.ok.noex b o e z
   ·exact absurd (Ax (Ao (I.ok.bs b o e).1) z) (Cm _)
  ·rcases Aw.mp (I.stkSub b hs) with z | z
   ·exact (hf b hb).2.1 z
   ·exact (hf b hb).2.2.1 z
 refine⟨ok,hos,hg,Un.kept hk,⟨m,hn,fun i x v e1 e2 e3 => ?_⟩,fun x c e => ?_,I.hok.fresh hC,fun x c e=>I.freeC x c (sub x c e),fun p hp=>absurd (show p∈([]:List (Addr×Obj)) from hp) (by simp),I.hok.kept hk,?_⟩
 ·cases i with
  | zero=>cases e2
  | succ i =>
   have e1:fs[i]?=some x:=e1
   have e2:(js.map fun j=>(σ[j]?).join)[i]?=some (some v):=e2
   rw[Ak] at e2
   cases ej:js[i]? with
   | none=>rw[ej] at e2;cases e2
   | some j =>
    rw[ej] at e2
    have e2:(σ[j]?).join=some v:=AX e2
    obtain⟨hN,hfr⟩:=S.slots _ (zM5 e1 ej)
    have hN:X.N[j]?=some x:=by rw[hN0];exact hN
    have hk2:X.env.kindOf x=some .cell\/X.env.kindOf x=some .free:=by subst h0;exact S.frees _ (AZ hfr) rfl
    have hs:σ[j]?=some (some v):=by
     cases q:σ[j]? with
     | none=>rw[q] at e2;cases e2
     | some z=>rw[q] at e2;rw[show z=some v from e2]
    obtain⟨m0,hn0,hl⟩:=I.loc
    obtain⟨u,r,l⟩:=hl j x v hN hs (by rcases hk2 with z | z;exact .inr (.inl z);exact .inr (.inr z))
    refine⟨u,r,?_⟩
    rcases l with ⟨hloc,_⟩ | ⟨_,c,hc,hcell⟩
    ·rcases hk2 with z | z
     ·rw[z] at hloc;cases hloc
     ·rw[z] at hloc;cases hloc
    ·obtain⟨c',hc'⟩:=jI (cells:=X.env.cells) scope.names [] x (AZ hfr)
     have:c'=c:=AX ((sub x c' hc').symm.trans hc)
     subst this
     exact .inr ⟨aG hfr,c',hc',hcell.keeps hk⟩
 ·obtain⟨v,z⟩:=I.cell x c (sub x c e)
  exact⟨v,z.keeps hk⟩
 ·show (compSt σ js none).length=(xt::fs).length
  unfold compSt
  rw[AQ,Aa,AQ,S.len]
theorem Inv.unblock{pins':List (Addr×Obj)}{σ':St}{H':Hp}{s':Shared}{h'':Heap}{C D:Addr}{its:List Value}{n:Nat}{acc:List V}{N:List Str}(I:Inv X DA σ H s₂)(hf:∀b∈fp,FpOk X DA H b)
  (J:Inv (cxComp X N scope C fp s₂ H) pins' σ' H' s') (hC:s₂.heap.objs.size<=C) (hD:s₂.heap.objs.size<=D) (hDC:D≠C) (hHD:H' D=none)
  (hd:s'.heap.get? D=some { cls:=.type "list",data:=.seq its.toArray n }) (hv:Vals acc its) (hz:acc.length<=sizeLine) (hsb:Heap.SameBut C s'.heap h'') :
  Inv X DA σ (upd H' D (.lst acc)) { s' with heap:=h'' }:=by
 have hd2:h''.get? D=some { cls:=.type "list",data:=.seq its.toArray n }:=(hsb.2 D hDC).trans hd
 have keep:∀b o,b<s₂.heap.objs.size->s'.heap.get? b=some o->h''.get? b=some o:=fun b o hb e=>(hsb.2 b (AL (Ax hb hC))).trans e
 have hHC:H' C=none:=J.free
 have ok1:HOk X.prog X.w H' h'':=fun b o e=>(J.hok b o e).stay (fun c v hc q=>(hsb.2 c (by
   rcases hc with z | z
   ·rw[z];exact fun w=>by rw[w,hHC] at e;cases e
   ·exact fun w=>by rw[w,hHC] at z;cases z)).trans q) (fun _ q=>q) fun _ _ q=>q
 have ok2:HOk X.prog X.w (upd H' D (.lst acc)) h'':=ok1.track hHD ⟨hz,its,n,hv,hd2⟩
 have un:Un (frs X.stack) fp H (upd H' D (.lst acc)) s₂.heap h'':=by
  have u:=J.base
  refine⟨fun b o e nb h1 h2=>keep b o (Ao e) (u.keep b o e nb h1 h2),fun b o e nb h1 h2 => ?_,fun b o e nb h2 => ?_,fun b o e h2 => ?_,fun b xs e => ?_,fun b o v e => ?_,fun b ps e => ?_⟩
  ·obtain⟨sl,q⟩:=u.slot b o e nb h1 h2
   exact⟨sl,keep b _ (Ao e) q⟩
  ·rw[zO (AL (Ax (Ao e) hD))]
   exact u.free b o e nb h2
  ·obtain⟨o',q⟩:=u.there b o e h2
   exact⟨o',keep b _ (Ao e) q⟩
  ·have q:=u.tups b xs e
   rw[zO (xU q hHD)];exact q
  ·have q:=u.frzs b o v e
   rw[zO (xU q hHD)];exact q
  ·obtain⟨more,q⟩:=u.tbls b ps e
   exact⟨more,by rw[zO (xU q hHD)];exact q⟩
 obtain⟨hh,g,d,t,os'⟩:=s'
 obtain rfl:os'=s₂.os:=J.os
 exact Inv.call (s:=s₂) I (h':=h'') (g':=g) (d':=d) (t':=t) (ch:=fp) un ok2 J.bare fun b hb=>⟨(hf b hb).2.2.2.1,(hf b hb).2.1,(hf b hb).2.2.2.2.1,(hf b hb).2.2.2.2.2⟩
end
def tTrue:TT:=fun _ H Q=>Q true H
inductive PTs(X:Cx):List Expr->TT->Prop
 | nil:PTs X [] tTrue
 | one {c:Expr}{t:TT}:PT X c t->PTs X [c] t
def tComp(wi:TI)(tt:Addr->List Addr->Shared->Hp->TT)(te:Addr->List Addr->Shared->Hp->TE)(js:List Nat):TE:=fun σ H Q=>wi σ H fun J H1=>∀C fp s₂ H₂,∃W:Nat->Nat->List V->Hp->Prop,(∃m,W 0 m [] H1)/\∀i m acc H,W i m acc H ->
 (J.stop i H/\∀p,H p=none->Q (.ref p) (upd H p (.lst acc))) \/
 (J.go i H/\∃N:List V->Hp->Prop,(∀acc' H',N acc' H'->∃m',m'<m/\W (i+1) m' acc' H') /\
  ∀x H',J.yld i H x H'->tt C fp s₂ H₂ (compSt σ js (some x)) H' fun b H2=>if b=true then te C fp s₂ H₂ (compSt σ js (some x)) H2 fun v H3=>acc.length<sizeLine/\N (acc ++ [v]) H3 else N acc H2)
theorem zF4{X:Cx}{elt iter:Expr}{ifs:List Expr}{sc0 scope:Scope}{N0:List Str}{px pos:Pos}{xt:Str}{fs:List Str}{js:List Nat}{wi:TI}{tt:Addr->List Addr->Shared->Hp->TT}{te:Addr->List Addr->Shared->Hp->TE}(S:CompScope sc0 scope N0 xt fs js)(h0:X.env.scope=sc0)(hN0:X.N=N0)(hc:X.calm=true)
  (hi:PI X (.Name xt px) iter wi) (ht:∀C fp s₂ H,PTs (cxComp X (xt::fs) scope C fp s₂ H) ifs (tt C fp s₂ H)) (he:∀C fp s₂ H,PE (cxComp X (xt::fs) scope C fp s₂ H) elt (te C fp s₂ H))
  (hs:autoParam (∀x,foldedSetIterable iter X.env x=pure x) Dx)
  {DA:List (Addr×Obj)}{cpos:Pos}{s:Shared}{σ:St}{H:Hp}{Q:VK}{use:Option (Value->Sem Unit)}{Qv:Value->Shared->Prop}(I:Inv X DA σ H s) (h:tComp wi tt te js σ H Q)
  (hfin:∀(s':Shared) (C D:Addr) (Ha:Hp) (fl:Flow),(∀h'',Heap.SameBut C s'.heap h''->Inv X DA σ Ha { s' with heap:=h'' })->(∃m,s'.heap.Ns C m)->FpOk X DA Ha C->Q (.ref D) Ha->compPost (model X.prog X.w) X.A X.xe use Qv (.ref D) C (.ok fl) s') :
  wpAny (model X.prog X.w) X.A (comprehension (.ListComp elt [⟨.Name xt px,iter,ifs,0⟩] scope pos) scope X.env cpos (newList []) false (eval iter X.env) use) Qv X.xe s:=by
 refine wpAny_comprehension_free (use:=use) rfl hs (hR (S.cells h0 I.ok)) S.kind S.names ?_
 refine thn (hi DA s σ H _ I h) fun v s1 h1=>thn h1 fun itv s2 h2 => ?_
 obtain⟨it,fp,tn,J,H2,e,I2,T,st2,f2,hW⟩:=h2
 subst e
 have fo:∀b∈fp,∃o,s2.heap.get? b=some o:=fun b hb=>let ⟨o,e,_⟩:=T.obj 0 s2.heap st2 b hb; ⟨o,e⟩
 have blt:∀b∈fp,b<s2.heap.objs.size:=fun b hb=>let ⟨o,e⟩:=fo b hb;Ao e
 refine aF S.nocell S.kind fun D C h₁ mC hDle hCle hDC old hacc hns₁ => ?_
 have bC:∀b o,s2.heap.get? b=some o->b≠C:=fun b o q z=>Cd.mpr hCle (z▸Ao q)
 have bD:∀b o,s2.heap.get? b=some o->b≠D:=fun b o q z=>Cd.mpr hDle (z▸Ao q)
 obtain⟨W,⟨m0,w0⟩,turn⟩:=hW C fp s2 H2
 have fpk:∀{H':Hp}(ob:Obj),(∀b∈fp,H' b=none)->∀b∈fp,FpOk (cxComp X (xt::fs) scope C fp s2 H2) [(D,ob)] H' b:=fun {H'} ob hn b hb=>by
  refine⟨hn b hb,AL (Ax (blt b hb) hCle),fun z => ?_,.inl hb,fun x c e=>(f2 b hb).2.2.2.2.1 x c (S.sub h0 I2.ok x c e),fun p hp => ?_⟩
  ·rcases Aw.mp (I2.stkSub b z) with q | q
   ·exact (f2 b hb).2.1 q
   ·exact (f2 b hb).2.2.1 q
  ·have:p=(D,ob):=by
    have hp:p ∈ [] ++ [(D,ob)]:=hp
    simpa using hp
   subst this
   exact Ck (Ax (blt b hb) hDle)
 have loop:codeAny (model X.prog X.w) X.A (.compLoop (.ListComp elt [⟨.Name xt px,iter,ifs,0⟩] scope pos) 0 (.ref it) (.ref D) (compEnvC scope (clos X.env.cells scope.names []) C X.env))
    (compPost (model X.prog X.w) X.A X.xe use Qv (.ref D) C) { s2 with heap:=h₁ }:=by
  have J0:Inv (cxComp X (xt::fs) scope C fp s2 H2) [] (compSt σ js none) H2 { s2 with heap:=h₁ } :=
   Inv.block (s₂:=s2) (s₄:={ s2 with heap:=h₁ }) S h0 hN0 I2 f2 fo rfl I2.bare old hCle hns₁
  have H2D:H2 D=none:=I2.hok.fresh hDle
  have ofD:D∉frs X.stack:=fun z=>by
   rcases Aw.mp (I2.stkSub D z) with q | q
   ·exact absurd I2.lt (by rw[<-q];exact Cd.mpr hDle)
   ·exact I2.nofs (a:=D) hDle q
  refine codeAny_loop rfl (fun n s'=>∃(i:Nat) (σ':St) (H':Hp) (acc:List V) (its:List Value) (k:Nat),(∃v0,σ'=compSt σ js v0)/\Inv (cxComp X (xt::fs) scope C fp s2 H2) [] σ' H' s'/\tn i s'.heap/\(∀b∈fp,H' b=none)/\H' D=none /\
    s'.heap.get? D=some { cls:=.type "list",data:=.seq its.toArray k }/\Vals acc its/\acc.length<=sizeLine/\W i n acc H') ?_ m0
   ⟨0,_,H2,[],[],0,⟨none,rfl⟩,J0,T.keep 0 _ _ st2 fun b hb o e=>old b o e,fun b hb=>(f2 b hb).1,H2D,hacc,.nil,Bb _,w0⟩
  rintro n s3 ⟨i,σ3,H3,acc,its,k,⟨v0,rfl⟩,I3,st3,fr3,hD3,d3,va,hz,w3⟩
  show wpAny _ X.A ((compTurn (.ListComp elt [⟨.Name xt px,iter,ifs,0⟩] scope pos) 0 (.ref it) (.ref D) (compEnvC scope (clos X.env.cells scope.names []) C X.env)).onRaise (fun x=>do noteFrame x (compEnvC scope (clos X.env.cells scope.names []) C X.env);theTreesLotGoes x)) _ _ s3
  refine wpAny_noted ?_
  rw[compTurn_list]
  refine Ab (wpAny_standAt ?_)
  have pinD:Inv (cxComp X (xt::fs) scope C fp s2 H2) [(D,{ cls:=.type "list",data:=.seq its.toArray k })] (compSt σ js v0) H3 s3:=I3.xZ fun p hp=>by
   have:p=(D,{ cls:=.type "list",data:=.seq its.toArray k }):=by simpa using hp
   subst this
   exact⟨d3,hD3,hDC,ofD,fun v z=>by cases z⟩
  refine Ab ?_
  rcases turn i n acc H3 w3 with ⟨stop,qn⟩ | ⟨go,N,hN,step⟩
  ·refine thn (T.done (cxComp X (xt::fs) scope C fp s2 H2) rfl rfl rfl hc i _ s3 _ H3 _ pinD (fpk _ fr3) st3 stop) fun r s4 ⟨hr,I4⟩ => ?_
   subst hr
   refine Ar ?_
   obtain⟨m4,hn4,_⟩:=I4.loc
   have hHC:H3 C=none:=I4.free
   refine hfin s4 C D (upd H3 D (.lst acc)) _ (fun h'' hsb=>I2.unblock f2 I4 hCle hDle hDC hD3 ((I4.pin (D,{ cls:=.type "list",data:=.seq its.toArray k }) (Ad _ Ac)).1) va hz hsb) ⟨m4,hn4⟩ (I2.fpOk hCle (by rw[zO (Bd hDC)];exact hHC)) (qn D hD3)
  ·refine thn (T.item (cxComp X (xt::fs) scope C fp s2 H2) rfl rfl rfl hc i _ s3 _ H3 _ pinD (fpk _ fr3) st3 go) fun r s4 ⟨u,hr,h4⟩ => ?_
   subst hr
   refine Ab (thn h4 fun _ s5 ⟨x,H5,I5,r5,y5,st5,fr5⟩ => ?_)
   have I5':=I5.pinned (fpk _ fr5) (T.obj _ _ st5)
   have gok:PG (cxComp X (xt::fs) scope C fp s2 H2) (.Name xt px) (gName 0):=gK S.nd rfl (.inl (lookup_relabel_local S.tgt)) (.inr (lookup_relabel_local S.tgt))
   have noE:∀(a:Value) (s':Shared),(cxComp X (xt::fs) scope C fp s2 H2).xe a s'->notedBy (model X.prog X.w) X.A (compEnvC scope (clos X.env.cells scope.names []) C X.env) (fun e s'=>compPost (model X.prog X.w) X.A X.xe use Qv (.ref D) C (.error e) s') a s':=fun _ _ z=>False.elim z
   refine Ab (wpAny_mono (gok _ s5 (compSt σ js v0) H5 x u (fun σ' H'=>σ'=compSt σ js (some x)/\H'=H5) I5' r5 ⟨rfl,rfl⟩) (fun _ s6 ⟨σ6,H6,I6,e6,e6'⟩ => ?_) noE)
   subst e6 e6'
   have fin:∀{acc':List V}{its':List Value}{k':Nat}{H7:Hp}{s7:Shared},Inv (cxComp X (xt::fs) scope C fp s2 H2) [] (compSt σ js (some x)) H7 s7->tn (i+1) s7.heap->(∀b∈fp,H7 b=none)->H7 D=none->s7.heap.get? D=some { cls:=.type "list",data:=.seq its'.toArray k' }->Vals acc' its'->acc'.length<=sizeLine->N acc' H7 ->
     ∃m,m<n/\∃(i:Nat) (σ':St) (H':Hp) (acc:List V) (its:List Value) (k:Nat),(∃v0,σ'=compSt σ js v0)/\Inv (cxComp X (xt::fs) scope C fp s2 H2) [] σ' H' s7/\tn i s7.heap/\(∀b∈fp,H' b=none)/\H' D=none /\
      s7.heap.get? D=some { cls:=.type "list",data:=.seq its.toArray k }/\Vals acc its/\acc.length<=sizeLine/\W i m acc H':=fun {acc' its' k' H7 s7} a1 a2 a3 a4 a5 a6 a7 a8=>by
    obtain⟨m',hm,w7⟩:=hN _ _ a8
    exact⟨m',hm,i+1,_,H7,acc',its',k',⟨_,rfl⟩,a1,a2,a3,a4,a5,a6,a7,w7⟩
   have rest:∀{H7:Hp}{s7:Shared},Inv (cxComp X (xt::fs) scope C fp s2 H2) ([(D,{ cls:=.type "list",data:=.seq its.toArray k })]++pinsAt fp s5.heap) (compSt σ js (some x)) H7 s7 ->
     tn (i+1) s7.heap/\(∀b∈fp,H7 b=none)/\H7 D=none/\s7.heap.get? D=some { cls:=.type "list",data:=.seq its.toArray k }:=fun {H7 s7} I7=>by
    refine⟨T.keep _ _ _ st5 fun b hb o e=>(I7.pin (b,o) (Ad _ (Ad _ (wH hb e)))).1,fun b hb => ?_,(I7.pin (D,{ cls:=.type "list",data:=.seq its.toArray k }) (Ad _ (AM _ Ac))).2.1,(I7.pin (D,{ cls:=.type "list",data:=.seq its.toArray k }) (Ad _ (AM _ Ac))).1⟩
    obtain⟨o,e,d⟩:=T.obj _ _ st5 b hb
    exact (I7.pin (b,o) (Ad _ (Ad _ (wH hb e)))).2.1
   have elem:∀{H7:Hp}{s7:Shared},Inv (cxComp X (xt::fs) scope C fp s2 H2) ([(D,{ cls:=.type "list",data:=.seq its.toArray k })]++pinsAt fp s5.heap) (compSt σ js (some x)) H7 s7 ->
     (te C fp s2 H2 (compSt σ js (some x)) H7 fun v H3=>acc.length<sizeLine/\N (acc ++ [v]) H3) ->
     wpAny (model X.prog X.w) X.A (eval elt (compEnvC scope (clos X.env.cells scope.names []) C X.env)) (fun y s8=>wpAny (model X.prog X.w) X.A (call (.builtin "list.append") [.ref D,y]) (fun _ s9=>∃m,m<n/\∃(i:Nat) (σ':St) (H':Hp) (acc:List V) (its:List Value) (k:Nat),(∃v0,σ'=compSt σ js v0)/\Inv (cxComp X (xt::fs) scope C fp s2 H2) [] σ' H' s9/\tn i s9.heap/\(∀b∈fp,H' b=none)/\H' D=none /\
      s9.heap.get? D=some { cls:=.type "list",data:=.seq its.toArray k }/\Vals acc its/\acc.length<=sizeLine/\W i m acc H')
      (fun _ _=>False) s8) (fun _ _=>False) s7:=fun {H7 s7} I7 q7=>by
    refine thn (he C fp s2 H2 _ s7 _ H7 _ I7 q7) fun y s8 ⟨v,H8,I8,r8,hl8,n8⟩ => ?_
    obtain⟨t8,fr8,hD8,d8⟩:=rest I8
    have hsz:=va.length
    refine call_meets CT ⟨_,d8,rfl⟩ CO (CG _ _) (CW D its.toArray k y (by rw[As];rfl')) ⟨d8,?_⟩
    have q:=Dc d8 (·.push y)
    rw[show (its.toArray.push y)=(its ++ [y]).toArray by simp] at q
    have kk:∀b o,b≠D->s8.heap.get? b=some o->(s8.heap.update D (Obj.mapSeq (·.push y))).get? b=some o:=fun b o hb e=>(AC s8.heap _ (Bd hb)).trans e
    have I9:Inv (cxComp X (xt::fs) scope C fp s2 H2) [] (compSt σ js (some x)) H8 { s8 with heap:=s8.heap.update D (Obj.mapSeq (·.push y)) }:=by
     refine Inv.turned (it:=D) (t':=s8.toks) (I8.xZ (pins':=[]) fun p hp=>nomatch hp) kk hD8 hDC (.inr hDle) (fun x c e z => ?_) fun p hp=>absurd (show p∈([]:List (Addr×Obj)) from hp) (by simp)
     obtain⟨v,o,ho,_⟩:=I2.cell x c (S.sub h0 I2.ok x c e)
     exact bD c o ho z
    refine fin I9 (T.keep _ _ _ t8 fun b hb o e=>kk b o (AL (Ax (blt b hb) hDle)) e) fr8 hD8 q (va.append (.cons r8 .nil)) ?_ n8
    rw[Aq,Bf]
    rfl'
   have q6:=step x H6 y5
   have htt:=ht C fp s2 H2
   generalize tt C fp s2 H2=tt' at htt q6
   cases htt with
   | nil =>
    refine Ab (Ar ?_)
    dsimp only[tTrue] at q6
    rw[Am rfl] at q6
    refine wpAny_mono (Ab (Ab (thn (elem I6 q6) fun y s8 h8=>Ab (thn h8 fun _ s9 h9=>Ar (Ar ⟨rfl,h9⟩))))) (fun _ _ z=>z) fun _ _ z=>False.elim z
   | one ht1 =>
    refine Ab (wpAny_tests_one (wpAny_mono (ht1 _ s6 _ H6 _ I6 q6) (fun b s7 ⟨H7,I7,q7⟩ => ?_) noE))
    cases b with
    | false =>
     rw[AG Ap] at q7
     obtain⟨t8,fr8,hD8,d8⟩:=rest I7
     exact Ar ⟨rfl,fin (I7.xZ (pins':=[]) fun p hp=>nomatch hp) t8 fr8 hD8 d8 va hz q7⟩
    | true =>
     rw[Am rfl] at q7
     refine wpAny_mono (Ab (Ab (thn (elem I7 q7) fun y s8 h8=>Ab (thn h8 fun _ s9 h9=>Ar (Ar ⟨rfl,h9⟩))))) (fun _ _ z=>z) fun _ _ z=>False.elim z
 exact codeAny_compStart_list loop (T.self X.A 0 _ _ _ (T.keep 0 _ _ st2 fun b hb o e=>old b o e) loop)
theorem zM8{X:Cx}{elt iter:Expr}{ifs:List Expr}{sc0 scope:Scope}{N0:List Str}{px pos:Pos}{xt:Str}{fs:List Str}{js:List Nat}{wi:TI}{tt:Addr->List Addr->Shared->Hp->TT}{te:Addr->List Addr->Shared->Hp->TE}(S:CompScope sc0 scope N0 xt fs js)(h0:X.env.scope=sc0)(hN0:X.N=N0)(hc:X.calm=true)
  (hi:PI X (.Name xt px) iter wi) (ht:∀C fp s₂ H,PTs (cxComp X (xt::fs) scope C fp s₂ H) ifs (tt C fp s₂ H)) (he:∀C fp s₂ H,PE (cxComp X (xt::fs) scope C fp s₂ H) elt (te C fp s₂ H))
  (hs:autoParam (∀x,foldedSetIterable iter X.env x=pure x) Dx) :
  PE X (.ListComp elt [⟨.Name xt px,iter,ifs,0⟩] scope pos) (tComp wi tt te js):=by
 intro DA s σ H Q I h
 rw[eval_ListComp]
 refine zF4 S h0 hN0 hc hi ht he hs (use:=none) (Qv:=EP X DA σ Q) I h fun s' C D Ha fl hI hns hC q => ?_
 obtain⟨m,hn⟩:=hns
 exact⟨m,hn,fun h' hsb=>⟨.ref D,Ha,hI h' hsb,rfl,q⟩⟩
theorem zN3{lo:Int}{n:Nat}{tt:TT}{te:TE}{js:List Nat}{σ:St}{H:Hp}{Q:VK}(Pv:Nat->List V->Hp->Prop)(h0:Pv 0 [] H)
  (hs:∀i acc H,i<n->Pv i acc H->tt (compSt σ js (some (.int (lo+i)))) H fun b H2=>if b=true then te (compSt σ js (some (.int (lo+i)))) H2 fun v H3=>acc.length<sizeLine/\Pv (i+1) (acc ++ [v]) H3 else Pv (i+1) acc H2)
  (hd:∀acc H,Pv n acc H->∀p,H p=none->Q (.ref p) (upd H p (.lst acc))) :
  ∃W:Nat->Nat->List V->Hp->Prop,(∃m,W 0 m [] H)/\∀i m acc H,W i m acc H ->
   ((Itr lo n).stop i H/\∀p,H p=none->Q (.ref p) (upd H p (.lst acc))) \/
   ((Itr lo n).go i H/\∃N:List V->Hp->Prop,(∀acc' H',N acc' H'->∃m',m'<m/\W (i+1) m' acc' H') /\
    ∀x H',(Itr lo n).yld i H x H'->tt (compSt σ js (some x)) H' fun b H2=>if b=true then te (compSt σ js (some x)) H2 fun v H3=>acc.length<sizeLine/\N (acc ++ [v]) H3 else N acc H2):=by
 refine⟨fun i m acc H=>m=n-i/\i<=n/\Pv i acc H,⟨n,by simp,Bb _,h0⟩,?_⟩
 rintro i m acc H ⟨rfl,hi,p⟩
 by_cases hlt:i<n
 ·refine .inr ⟨hlt,Pv (i+1),fun acc' H' p'=>⟨n-(i+1),by rfl',rfl,hlt,p'⟩,fun x H' y => ?_⟩
  obtain⟨e,y⟩:=y
  subst e y
  exact hs i acc _ hlt p
 ·have e:i=n:=by rfl'
  subst e
  exact .inl ⟨Ai _,hd acc H p⟩
theorem yB3{K:KFr}{a:Addr}{xs:List V}{tt:TT}{te:TE}{js:List Nat}{σ:St}{H:Hp}{Q:VK}(Pv:Nat->List V->Hp->Prop)(h0:Pv 0 [] H)(hl:∀i acc H,i<=xs.length->Pv i acc H->SqL K H a xs)
  (hs:∀i x acc H,xs[i]?=some x->Pv i acc H->tt (compSt σ js (some x)) H fun b H2=>if b=true then te (compSt σ js (some x)) H2 fun v H3=>acc.length<sizeLine/\Pv (i+1) (acc ++ [v]) H3 else Pv (i+1) acc H2)
  (hd:∀acc H,Pv xs.length acc H->∀p,H p=none->Q (.ref p) (upd H p (.lst acc))) :
  ∃W:Nat->Nat->List V->Hp->Prop,(∃m,W 0 m [] H)/\∀i m acc H,W i m acc H ->
   ((Itl K a).stop i H/\∀p,H p=none->Q (.ref p) (upd H p (.lst acc))) \/
   ((Itl K a).go i H/\∃N:List V->Hp->Prop,(∀acc' H',N acc' H'->∃m',m'<m/\W (i+1) m' acc' H') /\
    ∀x H',(Itl K a).yld i H x H'->tt (compSt σ js (some x)) H' fun b H2=>if b=true then te (compSt σ js (some x)) H2 fun v H3=>acc.length<sizeLine/\N (acc ++ [v]) H3 else N acc H2):=by
 refine⟨fun i m acc H=>m=xs.length-i/\i<=xs.length/\Pv i acc H,⟨xs.length,by simp,Bb _,h0⟩,?_⟩
 rintro i m acc H ⟨rfl,hi,p⟩
 have q:=hl i acc H hi p
 by_cases hlt:i<xs.length
 ·refine .inr ⟨⟨xs,xs[i],q,by simp[hlt]⟩,Pv (i+1),fun acc' H' p'=>⟨xs.length-(i+1),by rfl',rfl,hlt,p'⟩,fun x H' y => ?_⟩
  obtain⟨e,y⟩:=y
  subst e
  exact hs i x acc _ (y xs q) p
 ·have e:i=xs.length:=by rfl'
  subst e
  exact .inl ⟨⟨xs,q,Ai _⟩,hd acc H p⟩
theorem Same.new{H:Hp}{p:Addr}{o:HO}(h:H p=none):Same H (upd H p o):=fun b u e=>by rw[zO (xU e h)];exact e
def Small(i:Int):Prop:=∃k,k<=1000000/\i.natAbs<2 ^ k
theorem Small.bits{i:Int}(h:Small i):Builtin.Int.intBits i<=2 ^ 20:=by
 obtain⟨k,hk,hi⟩:=h
 unfold Builtin.Int.intBits
 by_cases h0:(i == 0)=true
 ·rw[Am h0];exact Bb _
 ·rw[AG h0]
  have hn:i.natAbs≠0:=by
   intro z
   have:i=0:=by rfl'
   rw[this] at h0
   exact h0 rfl
  have:=(Nat.log2_lt hn).mpr hi
  have e:(2:Nat) ^ 20=1048576:=by decide
  rfl'
section
variable {X:Cx}
end
mutual
inductive DatV(K:KFr)(H:Hp):V->PyData->Prop
 | non:DatV K H .non .none
 | bl (b:Bool):DatV K H (.bl b) (.bool b)
 | int (i:Int):DatV K H (.int i) (.int i)
 | str (x:Str):DatV K H (.str x) (.str x)
 | lst {a:Addr}{xs:List V}{ds:List PyData}:SqL K H a xs->DatAll K H xs ds->DatV K H (.ref a) (.list ds)
 | tup {a:Addr}{xs:List V}{ds:List PyData}:SqT K H a xs->DatAll K H xs ds->DatV K H (.ref a) (.tuple ds)
inductive DatAll(K:KFr)(H:Hp):List V->List PyData->Prop
 | nil:DatAll K H [] []
 | cons {v:V}{d:PyData}{vs:List V}{ds:List PyData}:DatV K H v d->DatAll K H vs ds->DatAll K H (v::vs) (d::ds)
end
section
variable {X:Cx}{DA:List (Addr×Obj)}{σ:St}{H:Hp}{s:Shared}
mutual
theorem Inv.reads(I:Inv X DA σ H s):∀{v:V}{d:PyData}{u:Value},DatV X.K H v d->RelV v u->∃as,Reads s.heap u d as
 | _,_,_,.non,r=>by cases r;exact⟨_,.none⟩
 | _,_,_,.bl b,r=>by cases r;exact⟨_,.bool b⟩
 | _,_,_,.int i,r=>by obtain⟨t,rfl⟩:=r;exact⟨_,.int i t⟩
 | _,_,_,.str x,r=>by obtain⟨t,rfl⟩:=r;exact⟨_,.str x t⟩
 | _,_,_,.lst hq ha,r=>by
  cases r
  obtain⟨its,rv,⟨o,n,ho,hc,_,hd⟩,_⟩:=I.list hq
  obtain⟨as,z⟩:=Inv.readsAll I ha rv
  exact⟨_,.list ho hc hd (by simpa using z)⟩
 | _,_,_,.tup hq ha,r=>by
  cases r
  obtain⟨its,rv,⟨o,ho,hc,n,hd⟩,_⟩:=I.tuple hq
  obtain⟨as,z⟩:=Inv.readsAll I ha rv
  exact⟨_,.tuple ho hc hd (by simpa using z)⟩
theorem Inv.readsAll(I:Inv X DA σ H s):∀{vs:List V}{ds:List PyData}{us:List Value},DatAll X.K H vs ds->Vals vs us->∃as,ReadsAll s.heap us ds as
 | _,_,_,.nil,r=>by cases r;exact⟨_,.nil⟩
 | _,_,_,.cons h t,r=>by
  cases r with
  | cons r1 r2 =>
   obtain⟨as,z⟩:=Inv.reads I h r1
   obtain⟨bs,z'⟩:=Inv.readsAll I t r2
   exact⟨_,.cons z z'⟩
end
end
section
variable {X:Cx}
def rEqD(K:KFr)(neg:Bool):R2:=fun x y H Q=>∃dx dy,DatV K H x dx/\DatV K H y dy/\SeqAt.shaped dx=true/\SeqAt.shaped dy=true/\Q (.bl (if neg then !PyData.eqv dx dy else PyData.eqv dx dy)) H
theorem hZ(hu:X.A.units+64<cLine):OpR X (compareOp .Eq) (rEqD X.K false):=by
 intro DA s σ H x y v u Q I rx ry h
 obtain⟨dx,dy,h1,h2,s1,s2,q⟩:=h
 obtain⟨as,z1⟩:=I.reads h1 rx
 obtain⟨bs,z2⟩:=I.reads h2 ry
 exact eq_dataH z1 z2 s1 s2 hu ⟨.bl _,H,I,rfl,q⟩
theorem wO(hu:X.A.units+64<cLine):OpR X (compareOp .NotEq) (rEqD X.K true):=by
 intro DA s σ H x y v u Q I rx ry h
 obtain⟨dx,dy,h1,h2,s1,s2,q⟩:=h
 obtain⟨as,z1⟩:=I.reads h1 rx
 obtain⟨bs,z2⟩:=I.reads h2 ry
 exact ne_dataH z1 z2 s1 s2 hu ⟨.bl _,H,I,rfl,q⟩
end
theorem zU8(ns ms:List Int):PyData.eqvAll (ns.map PyData.int) (ms.map PyData.int)=decide (ns=ms):=PySem.W.ked_eqvAll ns ms
theorem zV3(ns:List Int):SeqAt.shaped (.list (ns.map PyData.int))=true:=PySem.W.ke_shaped_ints ns
theorem aA(ns:List Int):SeqAt.shaped (.tuple (ns.map PyData.int))=true:=by
 simp[SeqAt.shaped,PyData.canLay0,PyData.depth,PySem.W.ke_canLayAll0,PySem.W.ke_depthAll]
theorem xO7(ns ms:List Int):PyData.eqv (.list (ns.map PyData.int)) (.list (ms.map PyData.int))=decide (ns=ms):=by rw[PyData.eqv];exact zU8 ns ms
theorem yQ1(ns ms:List Int):PyData.eqv (.tuple (ns.map PyData.int)) (.tuple (ms.map PyData.int))=decide (ns=ms):=by rw[PyData.eqv];exact zU8 ns ms
theorem xY1(x:Value)(kw:List (Str×Value)):Builtin.«sorted» ⟨[x],kw⟩=collect x >>= fun xs=>newList xs >>= fun l=>holding [l] (call (.builtin "list.sort") [l] kw) >>= fun _=>ret l:=rfl
section
variable {X:Cx}
theorem zC9:CallR X (.builtin "sorted") (fun xs H Q=>∃(p:Addr) (ns:List Int),xs=[.ref p]/\(SqL X.K H p (ns.map V.int)\/SqT X.K H p (ns.map V.int))/\ns.length<64 /\
  ∀(l:Addr) (ms:List Int),H l=none->ms.Perm ns->ms.Pairwise (· <= ·)->Q (.ref l) (upd H l (.lst (ms.map V.int)))):=by
 intro DA s σ H xs us Q I r h
 obtain⟨p,ns,rfl,hq,h64,q⟩:=h
 obtain⟨u,rfl,ru⟩:=vals1 r
 cases ru
 obtain⟨T,o,its,n,hT,ho,hc,hd,rv,hz⟩:∃T o its n,(T="list"\/T="tuple")/\s.heap.get? p=some o/\o.cls=.type T/\o.data=.seq its n/\Vals (ns.map V.int) its.toList/\(ns.map V.int).length<=sizeLine:=by
  rcases hq with hq | hq
  ·obtain⟨its,rv,⟨o,n,ho,hc,_,hd⟩,hz⟩:=I.list hq
   exact⟨"list",o,its.toArray,n,.inl rfl,ho,hc,hd,by simpa using rv,hz⟩
  ·obtain⟨its,rv,⟨o,ho,hc,n,hd⟩,hz⟩:=I.tuple hq
   exact⟨"tuple",o,its.toArray,n,.inr rfl,ho,hc,hd,by simpa using rv,hz⟩
 have hl:=rv.length
 have hI:IntsAre its.toList ns:=bN rv
 rw[Aa] at hl hz
 have fits:its.size<=sizeLine:=by have z:=its.length_toList;rfl'
 refine Calls.call_function_entry kind_sorted plain_sorted entry_sorted (args_sorted1 (.ref p)) ?_
 rw[xY1]
 refine Ab (wpAny_collect_seq p hT ho hc hd (fun h' kp=>Ab (wpAny_newList ?_)) fits)
 have hoL:(h'.push (seqObj "list" its.toList.toArray 0)).get? h'.objs.size=some (seqObj "list" its.toList.toArray 0):=Az _ rfl
 refine Ab (wpAny_holding (wpAny_call_entry slot_list_sort ⟨_,hoL,rfl⟩ entry_list_sort (list_sort_tree hoL hI (by rfl') fun out ns' a1 a2 a3=>⟨_,rfl,?_⟩) (args_list_sort _)))
 refine Ar ⟨_,rfl,?_⟩
 have I1:Inv X DA σ H { s with heap:=h' }:=I.kept (t':=s.toks) kp
 have hfresh:H h'.objs.size=none:=I1.hok.fresh (Ai _)
 have ov:Vals (ns'.map V.int) out.toList:=zZ8 a1
 have hlen:ns'.length=ns.length:=a2.length_eq
 refine⟨.ref h'.objs.size,_,I1.laid (t':=s.toks) (o:=.lst (ns'.map V.int)) (fun b ob e => ?_) (Ai _) ?_,rfl,q _ ns' hfresh a2 a3⟩
 ·have hb:=Ao e
  rw[sortedHeap_old (AL hb) (by rw[size_push'];exact Nat.lt_succ_of_lt hb)]
  exact Al _ e
 ·obtain⟨e,he⟩:∃e,(sortedHeap (h'.push (seqObj "list" its.toList.toArray 0)) h'.objs.size its.toList out).get? h'.objs.size=some (seqObj "list" out e):=by
   exact sortedHeap_at hoL
  exact⟨by rw[Aa];rfl',out.toList,e,ov,by simpa using he⟩
end
end L2
namespace L2.L3
open PySem PySem.Spec PyProof.Rows
abbrev D:=PyData
inductive Res(α:Type) where
 | ok (a:α)
 | ex (c:Str)
 | no
namespace Res
def bind{α β:Type}:Res α->(α->Res β)->Res β
 | .ok a,f=>f a
 | .ex c,_=>.ex c
 | .no,_=>.no
def post{α:Type}:Res α->(α->Prop)->(Str->Prop)->Prop
 | .ok a,Q,_=>Q a
 | .ex c,_,E=>E c
 | .no,_,_=>False
theorem zW{α β:Type}{r:Res α}{f:α->Res β}{Q:β->Prop}{E:Str->Prop}(h:(r.bind f).post Q E):r.post (fun a=>(f a).post Q E) E:=by
 cases r <;> exact h
theorem zU{α:Type}{r:Res α}{Q Q':α->Prop}{E E':Str->Prop}(h:r.post Q E)(hQ:∀a,r=.ok a->Q a->Q' a)(hE:∀c,E c->E' c):r.post Q' E':=by
 cases r with
 | ok a=>exact hQ a rfl h
 | ex c=>exact hE c h
 | no=>exact h
def lft{α:Type}:Option α->Res α
 | some a=>.ok a
 | none=>.no
theorem zC{α:Type}{o:Option α}{Q:α->Prop}{E:Str->Prop}(h:(lft o).post Q E):∃a,o=some a/\Q a:=by
 cases o with
 | none=>exact h.elim
 | some a=>exact⟨a,rfl,h⟩
@[simp] theorem bind_ok {α β:Type}(a:α) (f:α->Res β):(Res.ok a).bind f=f a:=rfl
@[simp] theorem bind_no {α β:Type}(f:α->Res β):(Res.no:Res α).bind f=.no:=rfl
@[simp] theorem bind_ex {α β:Type}(c:Str) (f:α->Res β):(Res.ex c:Res α).bind f=.ex c:=rfl
@[simp] theorem lft_some {α:Type}(a:α):lft (some a)=.ok a:=rfl
@[simp] theorem lft_none {α:Type}:lft (none:Option α)=.no:=rfl
end Res
class CN where
 ad:Str->Addr
instance (priority:=low) cn0:CN:=⟨fun _=>0⟩
variable [CN]
def rowNames:List Str:=["BadText@0","BadText@1","BadText@2","BadText@3","BadText@4","BadText@5","BadText@6","BadText@7","BadText@8","BadText@9","BadText@10","BadText@11","BadText@12","BadText@13","BadText@14","BadText@15"]
def rowOf(c:Str):Option Nat:=rowNames.findIdx? (· == c)
def Row(d:Addr)(r:Int):Heap->Prop:=fun h=>∃t,h.Ns1 d (fun y=>if y="row" then some (.int r t) else none)
theorem Row.keeps{d:Addr}{r:Int}{h h':Heap}(x:Row d r h)(k:∀o,h.get? d=some o->h'.get? d=some o):Row d r h':=by
 obtain⟨t,od,es,ep,e,c⟩:=x
 exact⟨t,od,es,ep,k _ e,c⟩
def excP(a:Addr)(c:Str)(lk:Option Addr):Heap->Prop:=fun h=>∃o,h.get? a=some o/\o.cls=.ref (CN.ad c)/\∀d,lk=some d->o.dict=some d/\∃vs,o.data=.fields vs
def RowR(H:Hp)(O:Addr->Prop)(c:Str)(lk:Option Addr):Prop:=∀r,rowOf c=some r->∃d,lk=some d/\H d=some (.ext (Row d (r:Int)))/\¬O d
mutual
inductive Rep(H:Hp)(O:Addr->Prop):V->D->Prop
 | non:Rep H O .non .none
 | bl (b:Bool):Rep H O (.bl b) (.bool b)
 | int (i:Int):Rep H O (.int i) (.int i)
 | str (x:Str):Rep H O (.str x) (.str x)
 | lst {a:Addr}{xs:List V}{ds:List D}:Rd H a (.lst xs)->¬O a->Reps H O xs ds->Rep H O (.ref a) (.list ds)
 | tup {a:Addr}{xs:List V}{ds:List D}:Rd H a (.tup xs)->¬O a->Reps H O xs ds->Rep H O (.ref a) (.tuple ds)
 | exc {a:Addr}{c:Str}{lk:Option Addr}:H a=some (.ext (excP a c lk))->RowR H O c lk->¬O a->Rep H O (.ref a) (.dict [(.list [],.str c)])
inductive Reps(H:Hp)(O:Addr->Prop):List V->List D->Prop
 | nil:Reps H O [] []
 | cons {v:V}{d:D}{vs:List V}{ds:List D}:Rep H O v d->Reps H O vs ds->Reps H O (v::vs) (d::ds)
end
theorem yP6{H:Hp}{a:Addr}{u:HO}(h:Rd H a u):H a≠none:=by
 rcases h with h | ⟨o,h⟩ <;> (rw[h];exact fun z=>nomatch z)
theorem vE{H H':Hp}{a:Addr}{u:HO}(h:Rd H a u)(k:∀o,H a=some o->H' a=some o):Rd H' a u:=by
 rcases h with h | ⟨o,h⟩
 ·exact .inl (k _ h)
 ·exact .inr ⟨o,k _ h⟩
section
variable {H H':Hp}{O O':Addr->Prop}
mutual
theorem Rep.keep(k:∀b o,H b=some o->¬O b->H' b=some o)(s:∀b,H b≠none->O' b->O b):∀{v:V}{d:D},Rep H O v d->Rep H' O' v d
 | _,_,.non=>.non
 | _,_,.bl b=>.bl b
 | _,_,.int i=>.int i
 | _,_,.str x=>.str x
 | _,_,.lst r n t=>.lst (vE r fun o e=>k _ o e n) (fun z=>n (s _ (yP6 r) z)) (Reps.keep k s t)
 | _,_,.tup r n t=>.tup (vE r fun o e=>k _ o e n) (fun z=>n (s _ (yP6 r) z)) (Reps.keep k s t)
 | _,_,.exc r w n=>.exc (k _ _ r n) (fun r e=>let ⟨d,h1,h2,h3⟩:=w r e; ⟨d,h1,k _ _ h2 h3,fun z=>h3 (s _ (by rw[h2];exact fun z=>nomatch z) z)⟩) (fun z=>n (s _ (by rw[r];exact fun z=>nomatch z) z))
theorem Reps.keep(k:∀b o,H b=some o->¬O b->H' b=some o)(s:∀b,H b≠none->O' b->O b):∀{vs:List V}{ds:List D},Reps H O vs ds->Reps H' O' vs ds
 | _,_,.nil=>.nil
 | _,_,.cons h t=>.cons (Rep.keep k s h) (Reps.keep k s t)
end
mutual
theorem Rep.dat{K:KFr}:∀{v:V}{d:D},Rep H O v d->PyData.canLay0 d=true->DatV K H v d
 | _,_,.non,_=>.non
 | _,_,.bl b,_=>.bl b
 | _,_,.int i,_=>.int i
 | _,_,.str x,_=>.str x
 | _,_,.lst r n t,c=>.lst (.inl r) (Reps.dat t c)
 | _,_,.tup r n t,c=>.tup (.inl r) (Reps.dat t c)
 | _,_,.exc r w n,c=>by cases c
theorem Reps.dat{K:KFr}:∀{vs:List V}{ds:List D},Reps H O vs ds->PyData.canLayAll0 ds=true->DatAll K H vs ds
 | _,_,.nil,_=>.nil
 | _,_,.cons h t,c=>.cons (Rep.dat h (CH.mp c).1) (Reps.dat t (CH.mp c).2)
end
theorem Rep.same{v:V}{d:D}(h:Rep H O v d)(s:Same H H'):Rep H' O v d:=h.keep (fun b o e _=>s b o e) fun _ _ z=>z
theorem Reps.same{v:List V}{d:List D}(h:Reps H O v d)(s:Same H H'):Reps H' O v d:=h.keep (fun b o e _=>s b o e) fun _ _ z=>z
theorem Rep.less{v:V}{d:D}(h:Rep H O v d)(s:∀b,O' b->O b):Rep H O' v d:=h.keep (fun b o e _=>e) fun b _ z=>s b z
theorem Reps.less{v:List V}{d:List D}(h:Reps H O v d)(s:∀b,O' b->O b):Reps H O' v d:=h.keep (fun b o e _=>e) fun b _ z=>s b z
theorem Reps.length:∀{vs:List V}{ds:List D},Reps H O vs ds->vs.length=ds.length
 | _,_,.nil=>rfl
 | _,_,.cons _ t=>BQ (·+1) (Reps.length t)
theorem Reps.get:∀{vs:List V}{ds:List D}{i:Nat}{d:D},Reps H O vs ds->ds[i]?=some d->∃v,vs[i]?=some v/\Rep H O v d
 | _,_,_,_,.nil,e=>by simp at e
 | _,_,0,_,.cons r _,e=>by simp at e;subst e;exact⟨_,rfl,r⟩
 | _,_,i+1,d,.cons _ t,e=>by
  obtain⟨u,h1,h2⟩:=Reps.get (i:=i) (d:=d) t (by simpa using e)
  exact⟨u,by simpa using h1,h2⟩
theorem Reps.append:∀{vs ws:List V}{ds es:List D},Reps H O vs ds->Reps H O ws es->Reps H O (vs++ws) (ds++es)
 | _,_,_,_,.nil,s=>s
 | _,_,_,_,.cons r t,s=>.cons r (Reps.append t s)
theorem Reps.one{v:V}{d:D}(h:Rep H O v d):Reps H O [v] [d]:=.cons h .nil
theorem Reps.set{x:V}{u:D}(r:Rep H O x u):∀{vs:List V}{ds:List D}(i:Nat),Reps H O vs ds->Reps H O (vs.set i x) (ds.set i u)
 | _,_,_,.nil=>.nil
 | _,_,0,.cons _ t=>.cons r t
 | _,_,i+1,.cons q t=>.cons q (Reps.set r i t)
theorem Reps.take:∀{vs:List V}{ds:List D}(n:Nat),Reps H O vs ds->Reps H O (vs.take n) (ds.take n)
 | _,_,0,_=>.nil
 | _,_,_+1,.nil=>.nil
 | _,_,n+1,.cons r t=>.cons r (Reps.take n t)
theorem Reps.drop:∀{vs:List V}{ds:List D}(n:Nat),Reps H O vs ds->Reps H O (vs.drop n) (ds.drop n)
 | _,_,0,r=>r
 | _,_,_+1,.nil=>.nil
 | _,_,n+1,.cons _ t=>Reps.drop n t
theorem Reps.rep{vs:List V}{ds:List D}(h:Reps H O vs ds):∀k:Nat,Reps H O (List.replicate k vs).flatten (List.replicate k ds).flatten
 | 0=>.nil
 | k+1=>by
  rw[Bq,Bq,Bt,Bt]
  exact h.append (Reps.rep h k)
theorem Reps.insert{x:V}{u:D}(r:Rep H O x u){vs:List V}{ds:List D}(i:Nat)(h:Reps H O vs ds):Reps H O (vs.take i++x::vs.drop i) (ds.take i++u::ds.drop i) :=
 (h.take i).append (.cons r (h.drop i))
theorem fA:∀(ns:List Int),Reps H O (ns.map V.int) (ns.map PyData.int)
 | []=>.nil
 | n::ns=>.cons (.int n) (fA ns)
theorem Reps.ints:∀{ns:List Int}{vs:List V},Reps H O vs (ns.map PyData.int)->vs=ns.map V.int
 | [],_,h=>by cases h;rfl
 | n::ns,_,h=>by
  cases h with
  | cons r t=>cases r;rw[Reps.ints t];rfl
end
abbrev Ev:=List (Option D)
structure Wd where
 o:Addr->Prop
 la:Nat->Addr
instance:CoeFun Wd (fun _=>Addr->Prop):=⟨Wd.o⟩
abbrev Uni(Oc:Wd)(Ob:Addr->Prop):Addr->Prop:=fun b=>Oc b\/Ob b
def OwnAt(H:Hp)(Oc:Wd)(Ob:Addr->Prop)(v:V)(d:D):Prop:=∃a ys ds,v=.ref a/\d=.list ds/\H a=some (.lst ys)/\Ob a/\Reps H (Uni Oc Ob) ys ds
def LentAt(i:Nat)(H:Hp)(Oc:Wd)(Ob:Addr->Prop)(v:V)(d:D):Prop:=∃ys ds,v=.ref (Oc.la i)/\d=.list ds/\H (Oc.la i)=some (.lst ys)/\Oc (Oc.la i)/\Reps H (Uni Oc Ob) ys ds
structure Rel(Oc:Wd)(Ob:Addr->Prop)(om ln:List Nat)(σ:St)(H:Hp)(ρ:Ev):Prop where
 len:σ.length=ρ.length
 val:∀i d,ρ[i]?=some (some d)->i∉om->i∉ln->∃v,σ[i]?=some (some v)/\Rep H (Uni Oc Ob) v d
 own:∀i d,ρ[i]?=some (some d)->i∈om->∃v,σ[i]?=some (some v)/\OwnAt H Oc Ob v d
 lnt:∀i d,ρ[i]?=some (some d)->i∉om->i∈ln->∃v,σ[i]?=some (some v)/\LentAt i H Oc Ob v d
 inj:∀i j di dj a,ρ[i]?=some (some di)->ρ[j]?=some (some dj)->i∈om->j∈om->σ[i]?=some (some (.ref a))->σ[j]?=some (some (.ref a))->i=j
 oh:∀a,Oc a\/Ob a->H a≠none
 ap:∀a,Ob a->¬Oc a
section
variable {Oc:Wd}{Ob:Addr->Prop}{om ln:List Nat}{σ:St}{H H':Hp}{ρ:Ev}
theorem Same.ne{b:Addr}(s:Same H H')(h:H b≠none):H' b≠none:=by
 cases e:H b with
 | none=>exact absurd e h
 | some o=>rw[s b o e];exact fun z=>nomatch z
theorem Rel.same(R:Rel Oc Ob om ln σ H ρ)(s:Same H H'):Rel Oc Ob om ln σ H' ρ where
 len:=R.len
 val:=fun i d e h1 h2=>let ⟨v,a,b⟩:=R.val i d e h1 h2; ⟨v,a,b.same s⟩
 own:=fun i d e h1=>let ⟨v,q,a,ys,ds,e1,e2,e3,e4,e5⟩:=R.own i d e h1; ⟨v,q,a,ys,ds,e1,e2,s _ _ e3,e4,e5.same s⟩
 lnt:=fun i d e h1 h2=>let ⟨v,q,ys,ds,e1,e2,e3,e4,e5⟩:=R.lnt i d e h1 h2; ⟨v,q,ys,ds,e1,e2,s _ _ e3,e4,e5.same s⟩
 inj:=R.inj
 oh:=fun a h=>Same.ne s (R.oh a h)
 ap:=R.ap
end
inductive Md where
 | cl
 | rd
 | any
 | new
def VA(Oc:Wd)(Ob:Addr->Prop)(H:Hp)(v:V)(d:D):Prop :=
 Rep H (Uni Oc Ob) v d\/∃a ys ds,v=.ref a/\d=.list ds/\H a=some (.lst ys)/\Reps H (Uni Oc Ob) ys ds
def VR:Md->Wd->(Addr->Prop)->Hp->Hp->V->D->Prop
 | .cl,Oc,Ob,_,H',v,d=>Rep H' (Uni Oc Ob) v d
 | .rd,Oc,Ob,_,H',v,d=>Rep H' (Uni Oc Ob) v d\/∃a ys ds,v=.ref a/\d=.list ds/\H' a=some (.lst ys)/\¬Ob a/\Reps H' (Uni Oc Ob) ys ds
 | .any,Oc,Ob,_,H',v,d=>VA Oc Ob H' v d
 | .new,Oc,Ob,H,H',v,d=>∃a ys ds,v=.ref a/\d=.list ds/\H a=none/\H' a=some (.lst ys)/\Reps H' (fun b=>Uni Oc Ob b\/b=a) ys ds
section
variable {Oc:Wd}{Ob:Addr->Prop}{H H1 H2:Hp}{v:V}{d:D}{md:Md}
theorem VR.same(h:VR md Oc Ob H H1 v d)(s:Same H1 H2):VR md Oc Ob H H2 v d:=by
 cases md with
 | cl=>exact Rep.same h s
 | rd =>
  rcases h with h | ⟨a,ys,ds,e1,e2,e3,e4,e5⟩
  ·exact .inl (Rep.same h s)
  ·exact .inr ⟨a,ys,ds,e1,e2,s _ _ e3,e4,e5.same s⟩
 | any =>
  rcases h with h | ⟨a,ys,ds,e1,e2,e3,e5⟩
  ·exact .inl (Rep.same h s)
  ·exact .inr ⟨a,ys,ds,e1,e2,s _ _ e3,e5.same s⟩
 | new =>
  obtain⟨a,ys,ds,e1,e2,e3,e4,e5⟩:=h
  exact⟨a,ys,ds,e1,e2,e3,s _ _ e4,e5.same s⟩
theorem VR.from(h:VR md Oc Ob H1 H2 v d)(s:Same H H1):VR md Oc Ob H H2 v d:=by
 cases md with
 | new =>
  obtain⟨a,ys,ds,e1,e2,e3,e4,e5⟩:=h
  exact⟨a,ys,ds,e1,e2,s.free e3,e4,e5⟩
 | _=>exact h
theorem VR.clean(h:VR .new Oc Ob H H1 v d)(oh:∀a,Oc a\/Ob a->H a≠none):VR .cl Oc Ob H H1 v d:=by
 obtain⟨a,ys,ds,rfl,rfl,e3,e4,e5⟩:=h
 exact .lst (.inl e4) (fun z=>oh a z e3) (e5.less fun b z=>.inl z)
theorem VR.va(h:VR md Oc Ob H H1 v d)(oh:∀a,Oc a\/Ob a->H a≠none):VA Oc Ob H1 v d:=by
 cases md with
 | cl=>exact .inl h
 | rd =>
  rcases h with h | ⟨a,ys,ds,e1,e2,e3,e4,e5⟩
  ·exact .inl h
  ·exact .inr ⟨a,ys,ds,e1,e2,e3,e5⟩
 | any=>exact h
 | new=>exact .inl (VR.clean h oh)
theorem VA.dat{K:KFr}(h:VA Oc Ob H v d)(c:PyData.canLay0 d=true):DatV K H v d:=by
 rcases h with h | ⟨a,ys,ds,rfl,rfl,e3,e5⟩
 ·exact h.dat c
 ·exact .lst (SqL.of e3) (e5.dat c)
theorem VA.datS{K:KFr}(h:VA Oc Ob H v d)(c:SeqAt.shaped d=true):DatV K H v d:=h.dat (SeqAt.canLay_of_shaped c)
theorem VA.list{ds:List D}(h:VA Oc Ob H v (.list ds)):∃a ys,v=.ref a/\Rd H a (.lst ys)/\Reps H (Uni Oc Ob) ys ds:=by
 rcases h with h | ⟨a,ys,ds,rfl,e,e3,e5⟩
 ·cases h with
  | lst r n t=>exact⟨_,_,rfl,r,t⟩
 ·cases e
  exact⟨a,ys,rfl,.inl e3,e5⟩
theorem VA.tuple{ds:List D}(h:VA Oc Ob H v (.tuple ds)):∃a ys,v=.ref a/\Rd H a (.tup ys)/\Reps H (Uni Oc Ob) ys ds:=by
 rcases h with h | ⟨a,ys,ds,rfl,e,e3,e5⟩
 ·cases h with
  | tup r n t=>exact⟨_,_,rfl,r,t⟩
 ·cases e
theorem VA.int{i:Int}(h:VA Oc Ob H v (.int i)):v=.int i:=by
 rcases h with h | ⟨a,ys,ds,rfl,e,e3,e5⟩
 ·cases h;rfl
 ·cases e
theorem VA.bool{i:Bool}(h:VA Oc Ob H v (.bool i)):v=.bl i:=by
 rcases h with h | ⟨a,ys,ds,rfl,e,e3,e5⟩
 ·cases h;rfl
 ·cases e
theorem VA.none(h:VA Oc Ob H v .none):v=.non:=by
 rcases h with h | ⟨a,ys,ds,rfl,e,e3,e5⟩
 ·cases h;rfl
 ·cases e
theorem VA.str{x:Str}(h:VA Oc Ob H v (.str x)):v=.str x:=by
 rcases h with h | ⟨a,ys,ds,rfl,e,e3,e5⟩
 ·cases h;rfl
 ·cases e
theorem VA.rep(h:VA Oc Ob H v d):Rep H (fun _=>False) v d:=by
 rcases h with h | ⟨a,ys,ds,rfl,rfl,e3,e5⟩
 ·exact h.less fun _ z=>z.elim
 ·exact .lst (.inl e3) (fun z=>z) (e5.less fun _ z=>z.elim)
end
structure Ct where
 X:Cx
 XE:Str->Hp->Prop
 om:List Nat
 ln:List Nat
def RE(C:Ct)(md:Md)(e:Expr)(m:Ev->Res D):Prop :=
 ∃t,PE C.X e t/\∀(Oc:Wd) (Ob:Addr->Prop) (σ:St) (H:Hp) (ρ:Ev) (Q:VK),Rel Oc Ob C.om C.ln σ H ρ ->
  (m ρ).post (fun d=>∀v H',Same H H'->VR md Oc Ob H H' v d->Q v H') (fun c=>∀H',Same H H'->C.XE c H')->t σ H Q
def RT(C:Ct)(e:Expr)(m:Ev->Res Bool):Prop :=
 ∃t,PT C.X e t/\∀(Oc:Wd) (Ob:Addr->Prop) (σ:St) (H:Hp) (ρ:Ev) (Q:Bool->Hp->Prop),Rel Oc Ob C.om C.ln σ H ρ ->
  (m ρ).post (fun b=>∀H',Same H H'->Q b H') (fun c=>∀H',Same H H'->C.XE c H')->t σ H Q
def RW(C:Ct)(e:Expr)(m:Ev->Res Bool):Prop :=
 ∃t,PW C.X e t/\∀(Oc:Wd) (Ob:Addr->Prop) (σ:St) (H:Hp) (ρ:Ev) (Q:Bool->Hp->Prop),Rel Oc Ob C.om C.ln σ H ρ ->
  (m ρ).post (fun b=>∀H',Same H H'->Q b H') (fun c=>∀H',Same H H'->C.XE c H')->t σ H Q
inductive Out where
 | nx (ρ:Ev)
 | rt (d:D)
def Frm(Ob:Addr->Prop)(H H':Hp):Prop:=∀b o,H b=some o->¬Ob b->H' b=some o
theorem Same.frm{Ob:Addr->Prop}{H H':Hp}(s:Same H H'):Frm Ob H H':=fun b o e _=>s b o e
def RetOk:Bool->Wd->(Addr->Prop)->Hp->Hp->V->D->Prop
 | true,Oc,Ob,H,H',v,d=>∃a ys ds,v=.ref a/\d=.list ds/\(H a=none\/Ob a)/\¬Oc a/\H' a=some (.lst ys)/\Reps H' (fun b=>Oc b\/b=a) ys ds
 | false,Oc,_,_,H',v,d=>Rep H' Oc.o v d
def SPost(C:Ct)(fr:Bool)(Oc:Wd)(Ob:Addr->Prop)(H:Hp)(E:Ends)(r:Res Out):Prop :=
 r.post (fun o=>match o with
  | .nx ρ'=>∀σ' H' Ob',Rel Oc Ob' C.om C.ln σ' H' ρ'->Frm Ob H H'->(∀b,Ob' b->Ob b\/H b=none)->E.nx σ' H'
  | .rt d=>∀v H',Frm Ob H H'->RetOk fr Oc Ob H H' v d->E.rt v H') (fun c=>∀H',Frm Ob H H'->C.XE c H')
def RS(C:Ct)(fr:Bool)(st:Stmt)(m:Ev->Res Out):Prop :=
 ∃t,PS C.X st t/\∀(Oc:Wd) (Ob:Addr->Prop) (σ:St) (H:Hp) (ρ:Ev) (E:Ends),Rel Oc Ob C.om C.ln σ H ρ->SPost C fr Oc Ob H E (m ρ)->t E σ H
def RSs(C:Ct)(fr:Bool)(st:List Stmt)(m:Ev->Res Out):Prop :=
 ∃t,PSs C.X st t/\∀(Oc:Wd) (Ob:Addr->Prop) (σ:St) (H:Hp) (ρ:Ev) (E:Ends),Rel Oc Ob C.om C.ln σ H ρ->SPost C fr Oc Ob H E (m ρ)->t E σ H
section
variable {C:Ct}{fr:Bool}{Oc:Wd}{Ob Ob1 Ob2:Addr->Prop}{H H1 H2:Hp}{E:Ends}{r:Res Out}
theorem Frm.trans(f:Frm Ob H H1)(s:∀b,Ob1 b->Ob b\/H b=none)(g:Frm Ob1 H1 H2):Frm Ob H H2:=fun b o e n =>
 g b o (f b o e n) fun z=>(s b z).elim n fun q=>by rw[e] at q;cases q
theorem Frm.none(f:Frm Ob H H1){b:Addr}(h:H1 b=none):Ob b\/H b=none:=by
 by_cases n:Ob b
 ·exact .inl n
 ·cases e:H b with
  | none=>exact .inr rfl
  | some o=>rw[f b o e n] at h;cases h
theorem SPost.step(f:Frm Ob H H1)(s:∀b,Ob1 b->Ob b\/H b=none)(h:SPost C fr Oc Ob H E r):SPost C fr Oc Ob1 H1 E r:=by
 refine Res.zU h (fun o _ q => ?_) fun c q H' g=>q H' (f.trans s g)
 cases o with
 | nx ρ'=>exact fun σ' H' Ob' R g s'=>q σ' H' Ob' R (f.trans s g) fun b z=>(s' b z).elim (s b) fun z=>f.none z
 | rt d =>
  refine fun v H' g k=>q v H' (f.trans s g) ?_
  cases fr with
  | false=>exact k
  | true =>
   obtain⟨a,ys,ds,e1,e2,e3,e4,e5,e6⟩:=k
   refine⟨a,ys,ds,e1,e2,?_,e4,e5,e6⟩
   rcases e3 with e3 | e3
   ·exact (f.none e3).symm
   ·exact (s a e3).symm
theorem SPost.same(f:Same H H1)(h:SPost C fr Oc Ob H E r):SPost C fr Oc Ob H1 E r:=h.step (Same.frm f) fun b z=>.inl z
end
end L2.L3
namespace L2.L3
open PySem PySem.Spec PyProof.Rows
variable [CN]
section
variable {C:Ct}{a b c e:Expr}{es:List Expr}{pos:Pos}{md mda mdb mdc:Md}{ma mb mc:Ev->Res D}
theorem RE.cl(h:RE C .new e ma):RE C .cl e ma:=by
 obtain⟨t,p,q⟩:=h
 exact⟨t,p,fun Oc Ob σ H ρ Q R h=>q Oc Ob σ H ρ Q R (Res.zU h (fun d _ k v H' s r=>k v H' s (VR.clean r R.oh)) fun _ z=>z)⟩
theorem RE.rd(h:RE C .cl e ma):RE C .rd e ma:=by
 obtain⟨t,p,q⟩:=h
 exact⟨t,p,fun Oc Ob σ H ρ Q R h=>q Oc Ob σ H ρ Q R (Res.zU h (fun d _ k v H' s r=>k v H' s (.inl r)) fun _ z=>z)⟩
def eC(d:D):Ev->Res D:=fun _=>.ok d
theorem zK{i j}:RE C .cl (.Constant (.int i) j pos) (eC (.int i)):=⟨_,yG,fun Oc Ob σ H ρ Q R h=>h _ H (Same.refl H) (Rep.int i)⟩
theorem cA{i j}:RE C .cl (.Constant (.bool i) j pos) (eC (.bool i)):=⟨_,xR2,fun Oc Ob σ H ρ Q R h=>h _ H (Same.refl H) (Rep.bl i)⟩
theorem vP{j}:RE C .cl (.Constant .none j pos) (eC .none):=⟨_,aH,fun Oc Ob σ H ρ Q R h=>h _ H (Same.refl H) Rep.non⟩
theorem yU{i j}:RE C .cl (.Constant (.str i) j pos) (eC (.str i)):=⟨_,gA,fun Oc Ob σ H ρ Q R h=>h _ H (Same.refl H) (Rep.str i)⟩
def eV(i:Nat):Ev->Res D:=fun ρ=>match ρ[i]? with
 | some (some d)=>.ok d
 | _=>.no
theorem gQ{i:Nat}{ρ:Ev}{Q:D->Prop}{E:Str->Prop}(h:(eV i ρ).post Q E):∃d,ρ[i]?=some (some d)/\Q d:=by
 unfold eV at h
 split at h
 ·exact⟨_,by assumption,h⟩
 ·exact h.elim
theorem xJ{i:Nat}{l:List Nat}(h:l.contains i=false):i∉l:=by
 intro z
 rw[Bi.mpr z] at h
 cases h
theorem jM{i:Nat}{l:List Nat}(h:l.contains i=true):i∈l:=Bi.mp h
theorem zZ(i:Nat){x:Str}(hN:autoParam (C.X.N[i]?=some x) Dz)(ho:autoParam (C.om.contains i=false) Dz)(hl:autoParam (C.ln.contains i=false) Dz)(hv:autoParam (Vis C.X.env.scope x) Dv)(hd:autoParam ((x == ("__debug__":Str))=false) Dy)
  (hcd:autoParam ((x == ("__classdict__":Str))=false) Dy):RE C .cl (.Name x pos) (eV i):=by
 refine⟨_,fU hN hv hd hcd,fun Oc Ob σ H ρ Q R h => ?_⟩
 obtain⟨d,e,k⟩:=gQ h
 obtain⟨v,q,r⟩:=R.val i d e (xJ ho) (xJ hl)
 exact⟨v,q,k v H (Same.refl H) r⟩
theorem uM(i:Nat){x:Str}(hN:autoParam (C.X.N[i]?=some x) Dz)(ho:autoParam (C.om.contains i=true) Dz)(hv:autoParam (Vis C.X.env.scope x) Dv)(hd:autoParam ((x == ("__debug__":Str))=false) Dy)
  (hcd:autoParam ((x == ("__classdict__":Str))=false) Dy):RE C .any (.Name x pos) (eV i):=by
 refine⟨_,fU hN hv hd hcd,fun Oc Ob σ H ρ Q R h => ?_⟩
 obtain⟨d,e,k⟩:=gQ h
 obtain⟨v,q,a,ys,ds,e1,e2,e3,e4,e5⟩:=R.own i d e (jM ho)
 exact⟨v,q,k v H (Same.refl H) (.inr ⟨a,ys,ds,e1,e2,e3,e5⟩)⟩
theorem bP{x:Str}{i:Int}{u:Value}(hm:C.X.mg x=some u)(r:RelV (.int i) u)(hg:autoParam (Gl C.X x) Dz)(hd:autoParam ((x == ("__debug__":Str))=false) Dy):RE C .cl (.Name x pos) (eC (.int i)) :=
 ⟨_,xK8 hg hm r hd,fun Oc Ob σ H ρ Q R h=>h _ H (Same.refl H) (Rep.int i)⟩
def e2(f:D->D->Option D)(m n:Ev->Res D):Ev->Res D:=fun ρ=>(m ρ).bind fun x=>(n ρ).bind fun y=>Res.lft (f x y)
def Pr2(r:R2)(md:Md)(f:D->D->Option D):Prop :=
 ∀(Oc:Wd) (Ob:Addr->Prop) (H:Hp) (x y:V) (dx dy d:D) (Q:VK),(∀a,Oc a\/Ob a->H a≠none)->VA Oc Ob H x dx->VA Oc Ob H y dy->f dx dy=some d->(∀v H',Same H H'->VR md Oc Ob H H' v d->Q v H')->r x y H Q
theorem two{ta tb:TE}{f:D->D->Option D}{r:R2}(ha:∀(Oc:Wd) (Ob:Addr->Prop) (σ:St) (H:Hp) (ρ:Ev) (Q:VK),Rel Oc Ob C.om C.ln σ H ρ->(ma ρ).post (fun d=>∀v H',Same H H'->VR mda Oc Ob H H' v d->Q v H') (fun c=>∀H',Same H H'->C.XE c H')->ta σ H Q)
  (hb:∀(Oc:Wd) (Ob:Addr->Prop) (σ:St) (H:Hp) (ρ:Ev) (Q:VK),Rel Oc Ob C.om C.ln σ H ρ->(mb ρ).post (fun d=>∀v H',Same H H'->VR mdb Oc Ob H H' v d->Q v H') (fun c=>∀H',Same H H'->C.XE c H')->tb σ H Q) (hp:Pr2 r md f)
  {Oc:Wd}{Ob:Addr->Prop}{σ:St}{H:Hp}{ρ:Ev}{Q:VK}(R:Rel Oc Ob C.om C.ln σ H ρ) (h:(e2 f ma mb ρ).post (fun d=>∀v H',Same H H'->VR md Oc Ob H H' v d->Q v H') (fun c=>∀H',Same H H'->C.XE c H')) :
  ta σ H fun x H1=>tb σ H1 fun y H2=>r x y H2 Q:=by
 refine ha Oc Ob σ H ρ _ R (Res.zU (Res.zW h) (fun dx _ q x H1 s1 vx => ?_) fun _ z=>z)
 refine hb Oc Ob σ H1 ρ _ (R.same s1) (Res.zU (Res.zW q) (fun dy _ q y H2 s2 vy => ?_) fun c z H' s'=>z H' (s1.trans s'))
 obtain⟨d,e,q⟩:=Res.zC q
 have oh2:=((R.same s1).same s2).oh
 refine hp Oc Ob H2 x y dx dy d Q oh2 ((vx.same s2).va R.oh) (vy.va (R.same s1).oh) e fun v H' s3 r => ?_
 exact q v H' ((s1.trans s2).trans s3) (r.from (s1.trans s2))
theorem yX{op:Operator}{r:R2}{f:D->D->Option D}(ho:OpR C.X (binaryOp op) r)(hp:Pr2 r md f)(ha:RE C mda a ma)(hb:RE C mdb b mb):RE C md (.BinOp a op b pos) (e2 f ma mb):=by
 obtain⟨ta,pa,qa⟩:=ha
 obtain⟨tb,pb,qb⟩:=hb
 exact⟨_,qR ho pa pb,fun Oc Ob σ H ρ Q R h=>two qa qb hp R h⟩
theorem yD{r:R2}{f:D->D->Option D}(ho:IxR C.X r)(hp:Pr2 r md f)(ha:RE C mda a ma)(hb:RE C mdb b mb)(hs:autoParam (PlainIx b) xB1._auto_1):RE C md (.Subscript a b pos) (e2 f ma mb):=by
 obtain⟨ta,pa,qa⟩:=ha
 obtain⟨tb,pb,qb⟩:=hb
 exact⟨_,vC ho pa pb hs,fun Oc Ob σ H ρ Q R h=>two qa qb hp R h⟩
def PrB(r:R2)(f:D->D->Option Bool):Prop :=
 ∀(Oc:Wd) (Ob:Addr->Prop) (H:Hp) (x y:V) (dx dy:D) (k:Bool) (Q:VK),VA Oc Ob H x dx->VA Oc Ob H y dy->f dx dy=some k->Q (.bl k) H->r x y H Q
def bD(o:Option Bool):Option D:=o.map PyData.bool
theorem PrB.pr{r:R2}{f:D->D->Option Bool}(h:PrB r f):Pr2 r .cl (fun x y=>bD (f x y)):=by
 intro Oc Ob H x y dx dy d Q oh vx vy e k
 cases ef:f dx dy with
 | none=>simp only[ef] at e;cases e
 | some b =>
  simp only[ef] at e
  cases e
  exact h Oc Ob H x y dx dy b Q vx vy ef (k _ H (Same.refl H) (Rep.bl b))
theorem zA5{op:CmpOp}{r:R2}{f:D->D->Option Bool}(ho:OpR C.X (compareOp op) r)(hp:PrB r f)(ha:RE C mda a ma)(hb:RE C mdb b mb)(hm:autoParam (behindInMarks op b=false) yN5._auto_1):RE C .cl (.Compare a [op] [b] pos) (e2 (fun x y=>bD (f x y)) ma mb):=by
 obtain⟨ta,pa,qa⟩:=ha
 obtain⟨tb,pb,qb⟩:=hb
 exact⟨_,xQ9 ho pa pb hm,fun Oc Ob σ H ρ Q R h=>two qa qb hp.pr R h⟩
def b2(f:D->D->Option Bool)(m n:Ev->Res D):Ev->Res Bool:=fun ρ=>(m ρ).bind fun x=>(n ρ).bind fun y=>Res.lft (f x y)
theorem xD4{f:D->D->Option Bool}{ρ:Ev}{Q:Bool->Hp->Prop}{H:Hp}{E:Str->Prop}{Oc:Wd}{Ob:Addr->Prop}(h:(b2 f ma mb ρ).post (fun b=>∀H',Same H H'->Q b H') E) :
  (e2 (fun x y=>bD (f x y)) ma mb ρ).post (fun d=>∀v H',Same H H'->VR .cl Oc Ob H H' v d->∃k,v=.bl k/\Q k H') E:=by
 unfold e2
 unfold b2 at h
 cases ea:ma ρ with
 | no=>rw[ea] at h;exact h
 | ex c=>rw[ea] at h;exact h
 | ok x =>
  rw[ea] at h
  simp only[Res.bind_ok] at h ⊢
  cases eb:mb ρ with
  | no=>rw[eb] at h;exact h
  | ex c=>rw[eb] at h;exact h
  | ok y =>
   rw[eb] at h
   simp only[Res.bind_ok] at h ⊢
   obtain⟨k,ek,q⟩:=Res.zC h
   rw[ek]
   intro v H' s r
   have:v=.bl k:=by cases r;rfl
   exact⟨k,this,q H' s⟩
theorem yQ{op:CmpOp}{r:R2}{f:D->D->Option Bool}(ho:OpR C.X (compareOp op) r)(hp:PrB r f)(ha:RE C mda a ma)(hb:RE C mdb b mb)(hm:autoParam (behindInMarks op b=false) yN5._auto_1):RT C (.Compare a [op] [b] pos) (b2 f ma mb):=by
 obtain⟨ta,pa,qa⟩:=ha
 obtain⟨tb,pb,qb⟩:=hb
 exact⟨_,uK ho pa pb hm,fun Oc Ob σ H ρ Q R h=>two qa qb hp.pr R (xD4 h)⟩
def b3(f g:D->D->Option Bool)(m n o:Ev->Res D):Ev->Res Bool:=fun ρ=>(m ρ).bind fun x=>(n ρ).bind fun y=>(Res.lft (f x y)).bind fun k=>if k then (o ρ).bind fun z=>Res.lft (g y z) else .ok false
theorem chain3{ta tb tc:TE}{f g:D->D->Option Bool}{r r':R2}(ha:∀(Oc:Wd) (Ob:Addr->Prop) (σ:St) (H:Hp) (ρ:Ev) (Q:VK),Rel Oc Ob C.om C.ln σ H ρ->(ma ρ).post (fun d=>∀v H',Same H H'->VR mda Oc Ob H H' v d->Q v H') (fun c=>∀H',Same H H'->C.XE c H')->ta σ H Q)
  (hb:∀(Oc:Wd) (Ob:Addr->Prop) (σ:St) (H:Hp) (ρ:Ev) (Q:VK),Rel Oc Ob C.om C.ln σ H ρ->(mb ρ).post (fun d=>∀v H',Same H H'->VR mdb Oc Ob H H' v d->Q v H') (fun c=>∀H',Same H H'->C.XE c H')->tb σ H Q)
  (hc:∀(Oc:Wd) (Ob:Addr->Prop) (σ:St) (H:Hp) (ρ:Ev) (Q:VK),Rel Oc Ob C.om C.ln σ H ρ->(mc ρ).post (fun d=>∀v H',Same H H'->VR mdc Oc Ob H H' v d->Q v H') (fun c=>∀H',Same H H'->C.XE c H')->tc σ H Q) (hp:PrB r f) (hp':PrB r' g)
  {Oc:Wd}{Ob:Addr->Prop}{σ:St}{H:Hp}{ρ:Ev}{Q:VK}(R:Rel Oc Ob C.om C.ln σ H ρ) (h:(b3 f g ma mb mc ρ).post (fun d=>∀H',Same H H'->Q (.bl d) H') (fun c=>∀H',Same H H'->C.XE c H')) :
  tChain r r' ta tb tc σ H Q:=by
 refine ha Oc Ob σ H ρ _ R (Res.zU (Res.zW h) (fun dx _ q x H1 s1 vx => ?_) fun _ z=>z)
 refine hb Oc Ob σ H1 ρ _ (R.same s1) (Res.zU (Res.zW q) (fun dy _ q y H2 s2 vy => ?_) fun c z H' s'=>z H' (s1.trans s'))
 obtain⟨k,e,q⟩:=Res.zC (Res.zW q)
 have R2:=(R.same s1).same s2
 refine hp Oc Ob H2 x y dx dy k _ ((vx.same s2).va R.oh) (vy.va (R.same s1).oh) e ⟨k,rfl,?_⟩
 cases k with
 | false=>exact iteF (q H2 (s1.trans s2))
 | true =>
  refine iteT (hc Oc Ob σ H2 ρ _ R2 (Res.zU (Res.zW q) (fun dz _ q z H3 s3 vz => ?_) fun c z H' s'=>z H' ((s1.trans s2).trans s')))
  obtain⟨k,e,q⟩:=Res.zC q
  exact hp' Oc Ob H3 y z dy dz k _ ((vy.same s3).va (R.same s1).oh) (vz.va R2.oh) e (q H3 ((s1.trans s2).trans s3))
theorem zB6{op op':CmpOp}{r r':R2}{f g:D->D->Option Bool}(ho:OpR C.X (compareOp op) r)(ho':OpR C.X (compareOp op') r')(hp:PrB r f)(hp':PrB r' g)(ha:RE C mda a ma)(hb:RE C mdb b mb)(hc:RE C mdc c mc)
  (hm:autoParam (lastMarks [op,op'] [b,c]=false) zM1._auto_1):RT C (.Compare a [op,op'] [b,c] pos) (b3 f g ma mb mc):=by
 obtain⟨ta,pa,qa⟩:=ha
 obtain⟨tb,pb,qb⟩:=hb
 obtain⟨tc,pc,qc⟩:=hc
 exact⟨_,xU5 ho ho' pa pb pc hm,fun Oc Ob σ H ρ Q R h=>chain3 qa qb qc hp hp' R (Res.zU h (fun b _ q H' s=>⟨b,rfl,q H' s⟩) fun _ z=>z)⟩
def vB(m:Ev->Res Bool):Ev->Res D:=fun ρ=>(m ρ).bind fun b=>.ok (.bool b)
theorem xV5{op op':CmpOp}{r r':R2}{f g:D->D->Option Bool}(ho:OpR C.X (compareOp op) r)(ho':OpR C.X (compareOp op') r')(hp:PrB r f)(hp':PrB r' g)(ha:RE C mda a ma)(hb:RE C mdb b mb)(hc:RE C mdc c mc)
  (hm:autoParam (lastMarks [op,op'] [b,c]=false) zM1._auto_1):RE C .cl (.Compare a [op,op'] [b,c] pos) (vB (b3 f g ma mb mc)):=by
 obtain⟨ta,pa,qa⟩:=ha
 obtain⟨tb,pb,qb⟩:=hb
 obtain⟨tc,pc,qc⟩:=hc
 exact⟨_,xT6 ho ho' pa pb pc hm,fun Oc Ob σ H ρ Q R h=>chain3 qa qb qc hp hp' R (Res.zU (Res.zW h) (fun b _ q H' s=>q _ H' s (Rep.bl b)) fun _ z=>z)⟩
variable {ta' tb':Ev->Res Bool}{rest:List Expr}
def isB:D->Option Bool
 | .bool b=>some b
 | _=>none
def tV(m:Ev->Res D):Ev->Res Bool:=fun ρ=>(m ρ).bind fun d=>Res.lft (isB d)
theorem zT6{d:D}{b:Bool}(h:isB d=some b):d=.bool b:=by
 cases d <;> simp[isB] at h ⊢
 exact h
theorem cI(h:RE C md a ma)(he:autoParam (∀whole,isTrue a C.X.env whole=(do let v <-whole;standAt a.pos;holding [v] (truthy v))) Dx):RT C a (tV ma):=by
 obtain⟨t,p,q⟩:=h
 refine⟨_,yY3 p he,fun Oc Ob σ H ρ Q R h=>q Oc Ob σ H ρ _ R (Res.zU (Res.zW h) (fun d _ k v H' s r => ?_) fun _ z=>z)⟩
 obtain⟨b,e,k⟩:=Res.zC k
 obtain rfl:=zT6 e
 exact⟨b,(r.va R.oh).bool,k H' s⟩
def tNt(m:Ev->Res Bool):Ev->Res Bool:=fun ρ=>(m ρ).bind fun b=>.ok (!b)
theorem fO(h:RT C a ta'):RT C (.UnaryOp .Not a pos) (tNt ta'):=by
 obtain⟨t,p,q⟩:=h
 exact⟨_,yF7 p,fun Oc Ob σ H ρ Q R h=>q Oc Ob σ H ρ _ R (Res.zU (Res.zW h) (fun d _ k=>k) fun _ z=>z)⟩
def tAn(m n:Ev->Res Bool):Ev->Res Bool:=fun ρ=>(m ρ).bind fun b=>if b then n ρ else .ok false
def tO(m n:Ev->Res Bool):Ev->Res Bool:=fun ρ=>(m ρ).bind fun b=>if b then .ok true else n ρ
theorem rw_and1(h:RT C a ta'):RW C (.BoolOp .And [a] pos) ta':=by
 obtain⟨t,p,q⟩:=h
 exact⟨_,pw_and1 p,q⟩
theorem rw_or1(h:RT C a ta'):RW C (.BoolOp .Or [a] pos) ta':=by
 obtain⟨t,p,q⟩:=h
 exact⟨_,pw_or1 p,q⟩
theorem rw_and(ha:RT C a ta')(hb:RW C (.BoolOp .And (b::rest) pos) tb'):RW C (.BoolOp .And (a::b::rest) pos) (tAn ta' tb'):=by
 obtain⟨t,p,q⟩:=ha
 obtain⟨t',p',q'⟩:=hb
 refine⟨_,pw_and p p',fun Oc Ob σ H ρ Q R h=>q Oc Ob σ H ρ _ R (Res.zU (Res.zW h) (fun b _ k H' s => ?_) fun _ z=>z)⟩
 cases b with
 | true=>exact iteT (q' Oc Ob σ H' ρ Q (R.same s) (Res.zU k (fun b _ k H2 s2=>k H2 (s.trans s2)) fun c z H2 s2=>z H2 (s.trans s2)))
 | false=>exact iteF (k H' s)
theorem rw_or(ha:RT C a ta')(hb:RW C (.BoolOp .Or (b::rest) pos) tb'):RW C (.BoolOp .Or (a::b::rest) pos) (tO ta' tb'):=by
 obtain⟨t,p,q⟩:=ha
 obtain⟨t',p',q'⟩:=hb
 refine⟨_,pw_or p p',fun Oc Ob σ H ρ Q R h=>q Oc Ob σ H ρ _ R (Res.zU (Res.zW h) (fun b _ k H' s => ?_) fun _ z=>z)⟩
 cases b with
 | false=>exact iteF (q' Oc Ob σ H' ρ Q (R.same s) (Res.zU k (fun b _ k H2 s2=>k H2 (s.trans s2)) fun c z H2 s2=>z H2 (s.trans s2)))
 | true=>exact iteT (k H' s)
theorem RW.rt(h:RW C a ta'):RT C a ta':=by
 obtain⟨t,p,q⟩:=h
 exact⟨_,p.pt,q⟩
theorem yG8{op}(h:RE C md a ma):RE C md (.BoolOp op [a] pos) ma:=by
 obtain⟨t,p,q⟩:=h
 exact⟨_,xD3 p,q⟩
def vAn(m n:Ev->Res D):Ev->Res D:=fun ρ=>(m ρ).bind fun d=>(Res.lft (isB d)).bind fun b=>if b then n ρ else .ok (.bool false)
def vO(m n:Ev->Res D):Ev->Res D:=fun ρ=>(m ρ).bind fun d=>(Res.lft (isB d)).bind fun b=>if b then .ok (.bool true) else n ρ
theorem xF2(ha:RE C mda a ma)(hb:RE C .cl (.BoolOp .And (b::rest) pos) mb):RE C .cl (.BoolOp .And (a::b::rest) pos) (vAn ma mb):=by
 obtain⟨t,p,q⟩:=ha
 obtain⟨t',p',q'⟩:=hb
 refine⟨_,xC8 p p',fun Oc Ob σ H ρ Q R h=>q Oc Ob σ H ρ _ R (Res.zU (Res.zW h) (fun d _ k v H' s r => ?_) fun _ z=>z)⟩
 obtain⟨b,e,k⟩:=Res.zC (Res.zW k)
 obtain rfl:=zT6 e
 refine⟨b,(r.va R.oh).bool,?_⟩
 cases b with
 | true=>exact iteT (q' Oc Ob σ H' ρ Q (R.same s) (Res.zU k (fun b _ k v H2 s2 r=>k v H2 (s.trans s2) r) fun c z H2 s2=>z H2 (s.trans s2)))
 | false=>exact iteF (k _ H' s (Rep.bl false))
theorem xA9(ha:RE C mda a ma)(hb:RE C .cl (.BoolOp .Or (b::rest) pos) mb):RE C .cl (.BoolOp .Or (a::b::rest) pos) (vO ma mb):=by
 obtain⟨t,p,q⟩:=ha
 obtain⟨t',p',q'⟩:=hb
 refine⟨_,xA6 p p',fun Oc Ob σ H ρ Q R h=>q Oc Ob σ H ρ _ R (Res.zU (Res.zW h) (fun d _ k v H' s r => ?_) fun _ z=>z)⟩
 obtain⟨b,e,k⟩:=Res.zC (Res.zW k)
 obtain rfl:=zT6 e
 refine⟨b,(r.va R.oh).bool,?_⟩
 cases b with
 | false=>exact iteF (q' Oc Ob σ H' ρ Q (R.same s) (Res.zU k (fun b _ k v H2 s2 r=>k v H2 (s.trans s2) r) fun c z H2 s2=>z H2 (s.trans s2)))
 | true=>exact iteT (k _ H' s (Rep.bl true))
def e1(f:D->Option D)(m:Ev->Res D):Ev->Res D:=fun ρ=>(m ρ).bind fun x=>Res.lft (f x)
def negD:D->Option D
 | .int i=>some (.int (-i))
 | _=>none
theorem yW8(ha:RE C mda a ma):RE C .cl (.UnaryOp .USub a pos) (e1 negD ma):=by
 obtain⟨t,p,q⟩:=ha
 refine⟨_,yJ8 zB9 p,fun Oc Ob σ H ρ Q R h=>q Oc Ob σ H ρ _ R (Res.zU (Res.zW h) (fun d _ k v H' s r => ?_) fun _ z=>z)⟩
 obtain⟨d',e,k⟩:=Res.zC k
 cases d with
 | int i =>
  cases e
  exact⟨i,(r.va R.oh).int,k _ H' s (Rep.int _)⟩
 | _=>cases e
end
inductive VAs(Oc:Wd)(Ob:Addr->Prop)(H:Hp):List V->List D->Prop
 | nil:VAs Oc Ob H [] []
 | cons {v:V}{d:D}{vs:List V}{ds:List D}:VA Oc Ob H v d->VAs Oc Ob H vs ds->VAs Oc Ob H (v::vs) (d::ds)
section
variable {Oc:Wd}{Ob:Addr->Prop}{H H':Hp}
theorem VAs.rep:∀{vs:List V}{ds:List D},VAs Oc Ob H vs ds->Reps H (fun _=>False) vs ds
 | _,_,.nil=>.nil
 | _,_,.cons h t=>.cons h.rep (VAs.rep t)
theorem VA.same{v:V}{d:D}(h:VA Oc Ob H v d)(s:Same H H'):VA Oc Ob H' v d:=VR.same (md:=.any) (H:=H) h s
end
def VQ:Bool->Wd->(Addr->Prop)->Hp->List V->List D->Prop
 | true,Oc,Ob,H,vs,ds=>Reps H (Uni Oc Ob) vs ds
 | false,Oc,Ob,H,vs,ds=>VAs Oc Ob H vs ds
def RArg(C:Ct)(cl:Bool)(es:List Expr)(m:Ev->Res (List D)):Prop :=
 ∃t,PA C.X es t/\∀(Oc:Wd) (Ob:Addr->Prop) (σ:St) (H:Hp) (ρ:Ev) (Q:List V->Hp->Prop),Rel Oc Ob C.om C.ln σ H ρ ->
  (m ρ).post (fun ds=>∀vs H',Same H H'->VQ cl Oc Ob H' vs ds->Q vs H') (fun c=>∀H',Same H H'->C.XE c H')->t σ H Q
section
variable {C:Ct}{a b c e:Expr}{es:List Expr}{pos p:Pos}{md mda mdb mdc:Md}{ma mb mc:Ev->Res D}{ms:Ev->Res (List D)}{cl:Bool}
def aN:Ev->Res (List D):=fun _=>.ok []
def aC(m:Ev->Res D)(n:Ev->Res (List D)):Ev->Res (List D):=fun ρ=>(m ρ).bind fun x=>(n ρ).bind fun xs=>.ok (x::xs)
theorem zX:RArg C cl [] aN:=⟨_,zD,fun Oc Ob σ H ρ Q R h=>h [] H (Same.refl H) (by cases cl;exact VAs.nil;exact Reps.nil)⟩
theorem zV(ha:RE C .cl e ma)(hr:RArg C true es ms)(hs:autoParam (starEach (e::es) C.X.env=(false,eval e C.X.env)::starEach es C.X.env) Dz):RArg C true (e::es) (aC ma ms):=by
 obtain⟨t,p,q⟩:=ha
 obtain⟨t',p',q'⟩:=hr
 refine⟨_,zM p p' hs,fun Oc Ob σ H ρ Q R h=>q Oc Ob σ H ρ _ R (Res.zU (Res.zW h) (fun d _ k v H' s r => ?_) fun _ z=>z)⟩
 refine q' Oc Ob σ H' ρ _ (R.same s) (Res.zU (Res.zW k) (fun ds _ k vs H2 s2 r2 => ?_) fun c z H2 s2=>z H2 (s.trans s2))
 exact k _ H2 (s.trans s2) (Reps.cons (r.same s2) r2)
theorem zP(ha:RE C md e ma)(hr:RArg C false es ms)(hs:autoParam (starEach (e::es) C.X.env=(false,eval e C.X.env)::starEach es C.X.env) Dz):RArg C false (e::es) (aC ma ms):=by
 obtain⟨t,p,q⟩:=ha
 obtain⟨t',p',q'⟩:=hr
 refine⟨_,zM p p' hs,fun Oc Ob σ H ρ Q R h=>q Oc Ob σ H ρ _ R (Res.zU (Res.zW h) (fun d _ k v H' s r => ?_) fun _ z=>z)⟩
 refine q' Oc Ob σ H' ρ _ (R.same s) (Res.zU (Res.zW k) (fun ds _ k vs H2 s2 r2 => ?_) fun c z H2 s2=>z H2 (s.trans s2))
 exact k _ H2 (s.trans s2) (VAs.cons ((r.va R.oh).same s2) r2)
def mkL(ds:List D):Option D:=if ds.length<=sizeLine then some (.list ds) else none
def mkT(ds:List D):Option D:=if ds.length<=sizeLine then some (.tuple ds) else none
def eB(f:List D->Option D)(m:Ev->Res (List D)):Ev->Res D:=fun ρ=>(m ρ).bind fun ds=>Res.lft (f ds)
theorem xB{Oc:Wd}{Ob:Addr->Prop}{H H1:Hp}{p:Addr}{vs:List V}{ds:List D}(s:Same H H1)(hp:H1 p=none)(r:Reps H1 (Uni Oc Ob) vs ds):VR .new Oc Ob H (upd H1 p (.lst vs)) (.ref p) (.list ds) :=
 ⟨p,vs,ds,rfl,rfl,s.free hp,zN,r.keep (fun b o e _=>by rw[zO (xU e hp)];exact e) fun b n z=>z.elim id fun z=>by subst z;exact absurd hp n⟩
theorem cU{Oc:Wd}{Ob:Addr->Prop}{H1:Hp}{p:Addr}{vs:List V}{ds:List D}(oh:∀a,Oc a\/Ob a->H1 a≠none)(hp:H1 p=none)(r:Reps H1 (Uni Oc Ob) vs ds):Rep (upd H1 p (.tup vs)) (Uni Oc Ob) (.ref p) (.tuple ds) :=
 .tup (.inl zN) (fun z=>oh p z hp) (r.same (Same.new hp))
theorem xL(h:RArg C true es ms):RE C .new (.List es pos) (eB mkL ms):=by
 obtain⟨t,p,q⟩:=h
 refine⟨_,jW p,fun Oc Ob σ H ρ Q R h=>q Oc Ob σ H ρ _ R (Res.zU (Res.zW h) (fun ds _ k vs H' s r => ?_) fun _ z=>z)⟩
 obtain⟨d,e,k⟩:=Res.zC k
 unfold mkL at e
 split at e
 ·rename_i hl
  cases e
  exact⟨by rw[Reps.length r];exact hl,fun p hp=>k _ _ (s.trans (Same.new hp)) (xB s hp r)⟩
 ·cases e
theorem yD1{x1}(h:RArg C true es ms):RE C .cl (.Tuple es x1 pos) (eB mkT ms):=by
 obtain⟨t,p,q⟩:=h
 refine⟨_,cZ p,fun Oc Ob σ H ρ Q R h=>q Oc Ob σ H ρ _ R (Res.zU (Res.zW h) (fun ds _ k vs H' s r => ?_) fun _ z=>z)⟩
 obtain⟨d,e,k⟩:=Res.zC k
 unfold mkT at e
 split at e
 ·rename_i hl
  cases e
  exact⟨by rw[Reps.length r];exact hl,fun p hp=>k _ _ (s.trans (Same.new hp)) (cU (R.same s).oh hp r)⟩
 ·cases e
def PrC(r:List V->Hp->VK->Prop)(md:Md)(f:List D->Option D):Prop :=
 ∀(Oc:Wd) (Ob:Addr->Prop) (H:Hp) (vs:List V) (ds:List D) (d:D) (Q:VK),(∀a,Oc a\/Ob a->H a≠none)->VAs Oc Ob H vs ds->f ds=some d->(∀v H',Same H H'->VR md Oc Ob H H' v d->Q v H')->r vs H Q
theorem zG5{t:TA}{r:List V->Hp->VK->Prop}{f:List D->Option D}(q:∀(Oc:Wd) (Ob:Addr->Prop) (σ:St) (H:Hp) (ρ:Ev) (Q:List V->Hp->Prop),Rel Oc Ob C.om C.ln σ H ρ ->
  (ms ρ).post (fun ds=>∀vs H',Same H H'->VQ false Oc Ob H' vs ds->Q vs H') (fun c=>∀H',Same H H'->C.XE c H')->t σ H Q)(hp:PrC r md f)
  {Oc:Wd}{Ob:Addr->Prop}{σ:St}{H:Hp}{ρ:Ev}{Q:VK}(R:Rel Oc Ob C.om C.ln σ H ρ) (h:(eB f ms ρ).post (fun d=>∀v H',Same H H'->VR md Oc Ob H H' v d->Q v H') (fun c=>∀H',Same H H'->C.XE c H')):tCB r t σ H Q:=by
 refine q Oc Ob σ H ρ _ R (Res.zU (Res.zW h) (fun ds _ k vs H' s r => ?_) fun _ z=>z)
 obtain⟨d,e,k⟩:=Res.zC k
 exact hp Oc Ob H' vs ds d Q (R.same s).oh r e fun v H2 s2 r2=>k v H2 (s.trans s2) (r2.from s)
theorem yZ{x:Str}{id:String}{r:List V->Hp->VK->Prop}{f:List D->Option D}(hc:CallR C.X (.builtin id) r)(hp:PrC r md f)(hm:C.X.mg x=none)(hv:bootBuiltins x=some (.builtin id))(ha:RArg C false (e::es) ms)(hg:autoParam (Gl C.X x) Dz)(hn:autoParam (x ≠ "__name__") Dy)(hdb:autoParam ((x == ("__debug__":Str))=false) Dy)
  (he:autoParam (starEach (e::es) C.X.env=(false,eval e C.X.env)::starEach es C.X.env) Dz) (hpl:autoParam ((backTo pos (starEach es C.X.env)).any (·.1)=false) Dz):RE C md (.Call (.Name x p) (e::es) [] pos) (eB f ms):=by
 obtain⟨t,pa,q⟩:=ha
 exact⟨_,gH hc hg hm hv pa hn hdb he hpl,fun Oc Ob σ H ρ Q R h=>zG5 q hp R h⟩
theorem wU{x:Str}{T:String}{r:List V->Hp->VK->Prop}{f:List D->Option D}(hc:CallR C.X (.type T) r)(hp:PrC r md f)(hm:C.X.mg x=none)(hv:bootBuiltins x=some (.type T))(ha:RArg C false (e::es) ms)(hg:autoParam (Gl C.X x) Dz)(hn:autoParam (x ≠ "__name__") Dy)(hdb:autoParam ((x == ("__debug__":Str))=false) Dy)
  (he:autoParam (starEach (e::es) C.X.env=(false,eval e C.X.env)::starEach es C.X.env) Dz) (hpl:autoParam ((backTo pos (starEach es C.X.env)).any (·.1)=false) Dz):RE C md (.Call (.Name x p) (e::es) [] pos) (eB f ms):=by
 obtain⟨t,pa,q⟩:=ha
 exact⟨_,uO hc hg hm hv pa hn hdb he hpl,fun Oc Ob σ H ρ Q R h=>zG5 q hp R h⟩
def Walks(Oc:Wd)(Ob:Addr->Prop)(J:It)(H1:Hp)(ds:List D):Prop :=
 ∀(H2:Hp) (Ob2:Addr->Prop),Frm Ob H1 H2->(∀b,Ob2 b->Ob b\/H1 b=none)->∀i,(∀d,ds[i]?=some d->J.go i H2/\∀x H3,J.yld i H2 x H3->Same H2 H3/\Rep H3 (Uni Oc Ob2) x d)/\(ds.length<=i->J.stop i H2)
def RI(C:Ct)(tg iter:Expr)(m:Ev->Res (List D)):Prop :=
 ∃wi,PI C.X tg iter wi/\∀(Oc:Wd) (Ob:Addr->Prop) (σ:St) (H:Hp) (ρ:Ev) (R:It->Hp->Prop),Rel Oc Ob C.om C.ln σ H ρ ->
  (m ρ).post (fun ds=>∀J H1,Same H H1->Walks Oc Ob J H1 ds->R J H1) (fun c=>∀H',Same H H'->C.XE c H')->wi σ H R
def iSeq(K:KFr)(tl:TE):TI:=fun σ H R=>tl σ H fun x H1=>∃a,x=.ref a/\(((∃xs,SqL K H1 a xs)/\R (Itl K a) H1)\/((∃xs,SqT K H1 a xs)/\R (Itt K a) H1))
theorem xC7{X:Cx}{tg l:Expr}{tl:TE}(hl:PE X l tl):PI X tg l (iSeq X.K tl):=by
 intro DA s σ H R I h
 refine thn (hl DA s σ H _ I h) fun v s1 ⟨x,H1,I1,r1,q1⟩ => ?_
 obtain⟨a,e,q1⟩:=q1
 subst e
 cases r1
 rcases q1 with ⟨⟨xs,hq⟩,q⟩ | ⟨⟨xs,hq⟩,q⟩
 ·obtain⟨its,rv,p,hz⟩:=I1.list hq
  refine wpAny_pyIter_list p.isList ?_
  refine⟨s1.heap.objs.size,[s1.heap.objs.size],_,_,H1,rfl,I1.kept (t':=s1.toks) fun b o e=>Al _ e,zH5 a _,⟨_,Az _ rfl,rfl,rfl⟩,fun b hb => ?_,q⟩
  have e:b=s1.heap.objs.size:=by simpa using hb
  subst e
  exact I1.fpOk (Ai _) (I1.hok.fresh (Ai _))
 ·obtain⟨its,rv,p,hz⟩:=I1.tuple hq
  refine wpAny_pyIter_tuple (show s1.heap.IsTuple a its.toArray from p) ?_
  refine⟨s1.heap.objs.size,[s1.heap.objs.size],_,_,H1,rfl,I1.kept (t':=s1.toks) fun b o e=>Al _ e,yK3 a _,⟨_,Az _ rfl,rfl,rfl⟩,fun b hb => ?_,q⟩
  have e:b=s1.heap.objs.size:=by simpa using hb
  subst e
  exact I1.fpOk (Ai _) (I1.hok.fresh (Ai _))
def seqD:D->Option (List D)
 | .list ds=>some ds
 | .tuple ds=>some ds
 | _=>none
def iS(m:Ev->Res D):Ev->Res (List D):=fun ρ=>(m ρ).bind fun d=>Res.lft (seqD d)
theorem Reps.step{Oc:Wd}{Ob Ob2:Addr->Prop}{H1 H2:Hp}{vs:List V}{ds:List D}(r:Reps H1 (Uni Oc Ob) vs ds)(f:Frm Ob H1 H2)(s:∀b,Ob2 b->Ob b\/H1 b=none):Reps H2 (Uni Oc Ob2) vs ds :=
 r.keep (fun b o e n=>f b o e fun z=>n (.inr z)) fun b n z=>z.elim .inl fun z=>(s b z).elim .inr fun q=>absurd q n
end
theorem zQ7{K:KFr}{Oc:Wd}{Ob:Addr->Prop}{H1:Hp}{a:Addr}{ys:List V}{ds:List D}(r:Rd H1 a (.lst ys))(n:¬Ob a)(rs:Reps H1 (Uni Oc Ob) ys ds):Walks Oc Ob (Itl K a) H1 ds:=by
 intro H2 Ob2 f s i
 have r2:Rd H2 a (.lst ys):=vE r fun o e=>f a o e n
 have rs2:=rs.step f s
 refine⟨fun d e => ?_,fun h=>⟨ys,.inl r2,by rw[rs2.length];exact h⟩⟩
 obtain⟨v,ev,rv⟩:=rs2.get e
 refine⟨⟨ys,v,.inl r2,ev⟩,fun x H3 hy => ?_⟩
 obtain⟨rfl,hy⟩:=hy
 have:=hy ys (.inl r2)
 rw[ev] at this
 cases this
 exact⟨Same.refl _,rv⟩
theorem yS1{K:KFr}{Oc:Wd}{Ob:Addr->Prop}{H1:Hp}{a:Addr}{ys:List V}{ds:List D}(r:Rd H1 a (.tup ys))(n:¬Ob a)(rs:Reps H1 (Uni Oc Ob) ys ds):Walks Oc Ob (Itt K a) H1 ds:=by
 intro H2 Ob2 f s i
 have r2:Rd H2 a (.tup ys):=vE r fun o e=>f a o e n
 have rs2:=rs.step f s
 refine⟨fun d e => ?_,fun h=>⟨ys,.inl r2,by rw[rs2.length];exact h⟩⟩
 obtain⟨v,ev,rv⟩:=rs2.get e
 refine⟨⟨ys,v,.inl r2,ev⟩,fun x H3 hy => ?_⟩
 obtain⟨rfl,hy⟩:=hy
 have:=hy ys (.inl r2)
 rw[ev] at this
 cases this
 exact⟨Same.refl _,rv⟩
theorem yU6{Oc:Wd}{Ob:Addr->Prop}{H1:Hp}{lo:Int}{n:Nat}{ds:List D}(e:ds=(List.range n).map fun (i:Nat)=>PyData.int (lo+(i:Int))):Walks Oc Ob (Itr lo n) H1 ds:=by
 intro H2 Ob2 f s i
 subst e
 refine⟨fun d e => ?_,fun h=>by show n<=i;simpa using h⟩
 rw[Ak] at e
 by_cases hi:i<n
 ·rw[Ay hi] at e
  cases e
  refine⟨hi,fun x H3 hy => ?_⟩
  obtain⟨rfl,rfl⟩:=hy
  exact⟨Same.refl _,.int _⟩
 ·rw[Bs (by simpa using hi)] at e
  cases e
section
variable {C:Ct}{a b c e:Expr}{es:List Expr}{pos p:Pos}{md mda mdb mdc:Md}{ma mb mc:Ev->Res D}{ms:Ev->Res (List D)}{cl:Bool}{tg:Expr}
theorem qZ(h:RE C .rd e ma):RI C tg e (iS ma):=by
 obtain⟨t,p,q⟩:=h
 refine⟨_,xC7 p,fun Oc Ob σ H ρ W R h=>q Oc Ob σ H ρ _ R (Res.zU (Res.zW h) (fun d _ k v H' s r => ?_) fun _ z=>z)⟩
 obtain⟨ds,e,k⟩:=Res.zC k
 rcases r with r | ⟨a,ys,ds',rfl,rfl,e3,e4,e5⟩
 ·cases r with
  | lst r n t=>cases e;exact⟨_,rfl,.inl ⟨⟨_,.inl r⟩,k _ H' s (zQ7 r (fun z=>n (.inr z)) t)⟩⟩
  | tup r n t=>cases e;exact⟨_,rfl,.inr ⟨⟨_,.inl r⟩,k _ H' s (yS1 r (fun z=>n (.inr z)) t)⟩⟩
  | _=>cases e
 ·cases e
  exact⟨_,rfl,.inl ⟨⟨_,SqL.of e3⟩,k _ H' s (zQ7 (.inl e3) e4 e5)⟩⟩
def rng1:List D->Option (List D)
 | [.int j]=>if -(2 ^ 62)<=j/\j<2 ^ 62 then some ((List.range j.toNat).map fun (i:Nat)=>PyData.int (i:Int)) else none
 | _=>none
def iR(f:List D->Option (List D))(m:Ev->Res (List D)):Ev->Res (List D):=fun ρ=>(m ρ).bind fun ds=>Res.lft (f ds)
theorem VAs.one{Oc:Wd}{Ob:Addr->Prop}{H:Hp}{vs:List V}{d:D}(h:VAs Oc Ob H vs [d]):∃v,vs=[v]/\VA Oc Ob H v d:=by
 cases h with
 | cons a t=>cases t;exact⟨_,rfl,a⟩
theorem VAs.two{Oc:Wd}{Ob:Addr->Prop}{H:Hp}{vs:List V}{d d':D}(h:VAs Oc Ob H vs [d,d']):∃v v',vs=[v,v']/\VA Oc Ob H v d/\VA Oc Ob H v' d':=by
 cases h with
 | cons a t =>
  obtain⟨v,rfl,q⟩:=VAs.one t
  exact⟨_,_,rfl,a,q⟩
theorem qC(hm:C.X.mg "range" = none)(ha:RArg C false [a] ms)(hg:autoParam (Gl C.X "range") Dz)(hs:autoParam (starEach [a] C.X.env=[(false,eval a C.X.env)]) Dz):RI C tg (.Call (.Name "range" p) [a] [] pos) (iR rng1 ms):=by
 obtain⟨t,pa,q⟩:=ha
 refine⟨_,dN hg hm pa hs,fun Oc Ob σ H ρ W R h=>q Oc Ob σ H ρ _ R (Res.zU (Res.zW h) (fun ds _ k vs H' s r => ?_) fun _ z=>z)⟩
 obtain⟨xs,e,k⟩:=Res.zC k
 unfold rng1 at e
 split at e
 ·split at e
  ·rename_i hb
   cases e
   obtain⟨v,rfl,va⟩:=VAs.one r
   obtain rfl:=va.int
   exact⟨_,rfl,hb.1,hb.2,k _ H' s (yU6 (by simp))⟩
  ·cases e
 ·cases e
end
def cEnv(ρ:Ev)(js:List Nat)(x:D):Ev:=some x::js.map fun j=>(ρ[j]?).join
def capt(js l:List Nat):List Nat:=((List.range js.length).filter fun i=>l.contains (js.getD i 0)).map (·+1)
def noEx{α:Type}:Res α->Res α
 | .ok a=>.ok a
 | _=>.no
theorem yO8{α:Type}{r:Res α}{a:α}(h:noEx r=.ok a):r=.ok a:=by
 cases r with
 | ok b=>exact h
 | ex c=>cases h
 | no=>cases h
def compM(t:D->Res Bool)(f:D->Res D):List D->Res (List D)
 | []=>.ok []
 | x::xs=>(noEx (t x)).bind fun b=>if b then (noEx (f x)).bind fun y=>(compM t f xs).bind fun ys=>.ok (y::ys) else compM t f xs
def eComp(mi:Ev->Res (List D))(mt:Ev->Res Bool)(me:Ev->Res D)(js:List Nat):Ev->Res D:=fun ρ=>(mi ρ).bind fun ds=>if ds.length<=sizeLine then (compM (fun x=>mt (cEnv ρ js x)) (fun x=>me (cEnv ρ js x)) ds).bind fun out=>.ok (.list out) else .no
theorem xS3{js l:List Nat}{i:Nat}(h:i∈capt js l):∃k,i=k+1/\k<js.length/\js.getD k 0∈l:=by
 unfold capt at h
 obtain⟨k,hk,rfl⟩:=AJ.mp h
 obtain⟨h1,h2⟩:=Cg.mp hk
 exact⟨k,rfl,AA.mp h1,Bi.mp h2⟩
theorem yV5{js l:List Nat}{k j:Nat}(h:js[k]?=some j)(hl:j∈l):k+1∈capt js l:=by
 unfold capt
 refine AJ.mpr ⟨k,Cg.mpr ⟨AA.mpr ?_,?_⟩,rfl⟩
 ·exact (Aj.mp h).1
 ·rw[AO,h]
  exact Bi.mpr hl
theorem zI3{ρ:Ev}{js:List Nat}{x d:D}{k:Nat}(h:(cEnv ρ js x)[k+1]?=some (some d)):∃j,js[k]?=some j/\ρ[j]?=some (some d):=by
 unfold cEnv at h
 rw[BG,Ak] at h
 cases e:js[k]? with
 | none=>rw[e] at h;cases h
 | some j =>
  rw[e] at h
  refine⟨j,rfl,?_⟩
  have h:(ρ[j]?).join=some d:=AX h
  cases q:ρ[j]? with
  | none=>rw[q] at h;cases h
  | some z=>rw[q] at h;rw[show z=some d from h]
theorem uE{σ:St}{js:List Nat}{v0:Option V}{v:V}{k j:Nat}(h:js[k]?=some j)(e:σ[j]?=some (some v)):(compSt σ js v0)[k+1]?=some (some v):=by
 unfold compSt
 rw[BG,Ak,h]
 show some ((σ[j]?).join)=_
 rw[e]
 rfl
def adr:Option (Option V)->Addr
 | some (some (.ref a))=>a
 | _=>0
def cW(Oc:Wd)(Ob:Addr->Prop)(σ:St)(js:List Nat):Wd:=⟨Uni Oc Ob,fun i=>adr ((compSt σ js none)[i]?)⟩
theorem Rel.comp{Oc:Wd}{Ob:Addr->Prop}{om ln:List Nat}{σ:St}{H:Hp}{ρ:Ev}{js:List Nat}{x:V}{d:D}(R:Rel Oc Ob om ln σ H ρ)(r:Rep H (Uni Oc Ob) x d):Rel (cW Oc Ob σ js) (fun _=>False) [] (capt js (om++ln)) (compSt σ js (some x)) H (cEnv ρ js d) where
 len:=by unfold compSt cEnv;simp
 val:=fun i d' e _ hl=>by
  cases i with
  | zero =>
   cases e
   exact⟨x,rfl,r.less fun b z=>z.elim id fun z=>z.elim⟩
  | succ k =>
   obtain⟨j,e1,e2⟩:=zI3 e
   have h1:j∉om:=fun z=>hl (yV5 e1 (AM _ z))
   have h2:j∉ln:=fun z=>hl (yV5 e1 (Ad _ z))
   obtain⟨v,q,rv⟩:=R.val j d' e2 h1 h2
   exact⟨v,uE e1 q,rv.less fun b z=>z.elim id fun z=>z.elim⟩
 own:=fun i d' e h=>nomatch h
 lnt:=fun i d' e _ hl=>by
  obtain⟨k,rfl,hk,hj⟩:=xS3 hl
  obtain⟨j,e1,e2⟩:=zI3 e
  rw[AO,e1,Dd] at hj
  by_cases ho:j∈om
  ·obtain⟨v,q,a,ys,ds,z1,z2,z3,z4,z5⟩:=R.own j d' e2 ho
   have ea:(cW Oc Ob σ js).la (k+1)=a:=by show adr _=a;rw[uE e1 q,z1];rfl
   exact⟨v,uE e1 q,ys,ds,by rw[ea];exact z1,z2,by rw[ea];exact z3,by rw[ea];exact .inr z4,z5.less fun b z=>z.elim id fun z=>z.elim⟩
  ·have hl2:j∈ln:=(AE.mp hj).elim (fun z=>absurd z ho) id
   obtain⟨v,q,ys,ds,z1,z2,z3,z4,z5⟩:=R.lnt j d' e2 ho hl2
   have ea:(cW Oc Ob σ js).la (k+1)=Oc.la j:=by show adr _=_;rw[uE e1 q,z1];rfl
   exact⟨v,uE e1 q,ys,ds,by rw[ea];exact z1,z2,by rw[ea];exact z3,by rw[ea];exact .inl z4,z5.less fun b z=>z.elim id fun z=>z.elim⟩
 inj:=fun i j di dj a _ _ h=>nomatch h
 oh:=fun a z=>R.oh a (z.elim id fun z=>z.elim)
 ap:=fun a z=>z.elim
abbrev cC(C:Ct)(N:List Str)(scope:Scope)(A:Addr)(fp:List Addr)(s₂:Shared)(H:Hp)(js:List Nat):Ct:=⟨cxComp C.X N scope A fp s₂ H,fun _ _=>False,[],capt js (C.om++C.ln)⟩
def RTs(C:Ct)(ifs:List Expr)(m:Ev->Res Bool):Prop:=∃t,PTs C.X ifs t/\∀(Oc:Wd) (Ob:Addr->Prop) (σ:St) (H:Hp) (ρ:Ev) (Q:Bool->Hp->Prop),Rel Oc Ob C.om C.ln σ H ρ ->
  (m ρ).post (fun b=>∀H',Same H H'->Q b H') (fun c=>∀H',Same H H'->C.XE c H')->t σ H Q
def tYes:Ev->Res Bool:=fun _=>.ok true
theorem jX{C:Ct}:RTs C [] tYes:=⟨_,.nil,fun Oc Ob σ H ρ Q R h=>h H (Same.refl H)⟩
def WalksS(Oc:Wd)(Ob:Addr->Prop)(J:It)(H1:Hp)(ds:List D):Prop :=
 ∀(H2:Hp),Same H1 H2->∀i,(∀d,ds[i]?=some d->J.go i H2/\∀x H3,J.yld i H2 x H3->Same H2 H3/\Rep H3 (Uni Oc Ob) x d)/\(ds.length<=i->J.stop i H2)
def RIc(C:Ct)(tg iter:Expr)(m:Ev->Res (List D)):Prop :=
 ∃wi,PI C.X tg iter wi/\∀(Oc:Wd) (Ob:Addr->Prop) (σ:St) (H:Hp) (ρ:Ev) (R:It->Hp->Prop),Rel Oc Ob C.om C.ln σ H ρ ->
  (m ρ).post (fun ds=>∀J H1,Same H H1->WalksS Oc Ob J H1 ds->R J H1) (fun c=>∀H',Same H H'->C.XE c H')->wi σ H R
theorem RI.c{C:Ct}{tg iter:Expr}{m:Ev->Res (List D)}(h:RI C tg iter m):RIc C tg iter m:=by
 obtain⟨wi,p,q⟩:=h
 exact⟨wi,p,fun Oc Ob σ H ρ W R h=>q Oc Ob σ H ρ W R (Res.zU h (fun ds _ k J H1 s w=>k J H1 s fun H2 s2=>w H2 Ob (Same.frm s2) fun b z=>.inl z) fun _ z=>z)⟩
theorem yD5{C:Ct}{elt:Expr}{ifs:List Expr}{scope:Scope}{N:List Str}{js:List Nat}{mi:Ev->Res (List D)}{mt:Ev->Res Bool}{me:Ev->Res D}{wi:TI}
  (qi:∀(Oc:Wd) (Ob:Addr->Prop) (σ:St) (H:Hp) (ρ:Ev) (R:It->Hp->Prop),Rel Oc Ob C.om C.ln σ H ρ->(mi ρ).post (fun ds=>∀J H1,Same H H1->WalksS Oc Ob J H1 ds->R J H1) (fun c=>∀H',Same H H'->C.XE c H')->wi σ H R)
  (ht:∀A fp s₂ H,RTs (cC C N scope A fp s₂ H js) ifs mt) (he:∀A fp s₂ H,RE (cC C N scope A fp s₂ H js) .cl elt me)
  {Oc:Wd}{Ob:Addr->Prop}{σ:St}{H:Hp}{ρ:Ev}{Q:VK}(R:Rel Oc Ob C.om C.ln σ H ρ) (h:(eComp mi mt me js ρ).post (fun d=>∀v H',Same H H'->VR .new Oc Ob H H' v d->Q v H') (fun c=>∀H',Same H H'->C.XE c H')) :
  tComp wi (fun A fp s H=>Classical.choose (ht A fp s H)) (fun A fp s H=>Classical.choose (he A fp s H)) js σ H Q:=by
 refine qi Oc Ob σ H ρ _ R (Res.zU (Res.zW h) (fun ds _ k J H1 s1 wk => ?_) fun _ z=>z)
 intro A fp s₂ H₂
 have qt:=(AN (ht A fp s₂ H₂)).2
 have qe:=(AN (he A fp s₂ H₂)).2
 have k:(if ds.length<=sizeLine then (compM (fun x=>mt (cEnv ρ js x)) (fun x=>me (cEnv ρ js x)) ds).bind fun out=>Res.ok (PyData.list out) else .no).post (fun d=>∀v H',Same H H'->VR .new Oc Ob H H' v d->Q v H') (fun c=>∀H',Same H H'->C.XE c H'):=k
 by_cases hlen:ds.length<=sizeLine
 ·rw[Am hlen] at k
  generalize hT:(fun x=>mt (cEnv ρ js x))=T at k
  generalize hF:(fun x=>me (cEnv ρ js x))=F at k
  cases ec:compM T F ds with
  | no=>rw[ec] at k;exact k.elim
  | ex c =>
   exfalso
   have nex:∀xs c,compM T F xs ≠ .ex c:=by
    intro xs
    induction xs with
    | nil=>intro c z;cases z
    | cons x xs ih =>
     intro c z
     rw[compM] at z
     cases e1:noEx (T x) with
     | no=>rw[e1] at z;cases z
     | ex c'=>cases hx:T x <;> rw[hx] at e1 <;> cases e1
     | ok b =>
      rw[e1,Res.bind_ok] at z
      cases b with
      | false=>exact ih c z
      | true =>
       simp only[if_true] at z
       cases e2:noEx (F x) with
       | no=>rw[e2] at z;cases z
       | ex c'=>cases hx:F x <;> rw[hx] at e2 <;> cases e2
       | ok y =>
        rw[e2,Res.bind_ok] at z
        cases e3:compM T F xs with
        | no=>rw[e3] at z;cases z
        | ex c'=>exact ih c' e3
        | ok ys=>rw[e3] at z;cases z
   exact nex ds c ec
  | ok out =>
   rw[ec,Res.bind_ok] at k
   refine⟨fun i m acc H=>m=ds.length-i/\i<=ds.length/\Same H1 H/\∃done rest,Reps H (Uni Oc Ob) acc done/\acc.length<=i/\compM T F (ds.drop i)=.ok rest/\done++rest=out,⟨_,rfl,Bb _,Same.refl _,[],out,.nil,Ai _,ec,rfl⟩,?_⟩
   rintro i m acc H2 ⟨rfl,hi,s2,done,rest,ra,la,er,eo⟩
   obtain⟨w1,w2⟩:=wk H2 s2 i
   have R2:=(R.same s1).same s2
   by_cases hlt:i<ds.length
   ·obtain⟨go,yl⟩:=w1 ds[i] (Ah hlt)
    have ed:ds.drop i=ds[i]::ds.drop (i+1):=Bp hlt
    rw[ed,compM] at er
    have nxt:∀(acc':List V) (H3:Hp) (done' rest':List D),Same H2 H3->Reps H3 (Uni Oc Ob) acc' done'->acc'.length<=i+1->compM T F (ds.drop (i+1))=.ok rest'->done'++rest'=out ->
      ∃m',m'<ds.length-i/\(m'=ds.length-(i+1)/\i+1<=ds.length/\Same H1 H3/\∃done rest,Reps H3 (Uni Oc Ob) acc' done/\acc'.length<=i+1/\compM T F (ds.drop (i+1))=.ok rest/\done++rest=out) :=
     fun acc' H3 done' rest' s3 r3 l3 c3 o3=>⟨_,by rfl',rfl,hlt,s2.trans s3,done',rest',r3,l3,c3,o3⟩
    refine .inr ⟨go,fun acc' H'=>∃m',m'<ds.length-i/\(m'=ds.length-(i+1)/\i+1<=ds.length/\Same H1 H'/\∃done rest,Reps H' (Uni Oc Ob) acc' done/\acc'.length<=i+1/\compM T F (ds.drop (i+1))=.ok rest/\done++rest=out),fun acc' H' z=>z,fun x H3 hy => ?_⟩
    obtain⟨s3,rx⟩:=yl x H3 hy
    have R3:=(R2.same s3).comp (js:=js) rx
    cases e1:noEx (T ds[i]) with
    | no=>rw[e1] at er;cases er
    | ex c=>rw[e1] at er;cases er
    | ok b =>
     rw[e1,Res.bind_ok] at er
     have t1:mt (cEnv ρ js ds[i])=.ok b:=by
      have t1:=yO8 e1
      rw[<-hT] at t1
      exact t1
     refine qt _ _ _ H3 _ _ R3 ?_
     show (mt (cEnv ρ js ds[i])).post _ _
     rw[t1]
     intro H4 s4
     cases b with
     | false=>exact iteF (nxt acc H4 done rest (s3.trans s4) (ra.same (s3.trans s4)) (by rfl') er eo)
     | true =>
      refine iteT ?_
      simp only[if_true] at er
      cases e2:noEx (F ds[i]) with
      | no=>rw[e2] at er;cases er
      | ex c=>rw[e2] at er;cases er
      | ok y =>
       rw[e2,Res.bind_ok] at er
       have t2:me (cEnv ρ js ds[i])=.ok y:=by
        have t2:=yO8 e2
        rw[<-hF] at t2
        exact t2
       refine qe _ _ _ H4 _ _ (R3.same s4) ?_
       show (me (cEnv ρ js ds[i])).post _ _
       rw[t2]
       intro v H5 s5 rv
       refine⟨by rfl',?_⟩
       obtain⟨ys,e3⟩:∃ys,compM T F (ds.drop (i+1))=.ok ys:=by
        cases e3:compM T F (ds.drop (i+1)) with
        | no=>rw[e3] at er;cases er
        | ex c=>rw[e3] at er;cases er
        | ok ys=>exact⟨ys,rfl⟩
       rw[e3,Res.bind_ok] at er
       cases er
       have rv':Rep H5 (Uni Oc Ob) v y:=Rep.less rv fun b z=>.inl z
       refine nxt (acc ++ [v]) H5 (done ++ [y]) ys ((s3.trans s4).trans s5) ((ra.same ((s3.trans s4).trans s5)).append (.one rv')) (by rw[Aq,Bf];rfl') e3 ?_
       rw[BD]
       exact eo
   ·have ei:i=ds.length:=by rfl'
    subst ei
    refine .inl ⟨w2 (Ai _),fun p hp => ?_⟩
    rw[BR] at er
    cases er
    rw[Ch] at eo
    subst eo
    exact k _ _ ((s1.trans s2).trans (Same.new hp)) (xB (s1.trans s2) hp ra)
 ·rw[AG hlen] at k
  exact k.elim
theorem zX6{C:Ct}{elt iter:Expr}{ifs:List Expr}{sc0 scope:Scope}{N0:List Str}{px pos:Pos}{xt:Str}{fs:List Str}{js:List Nat}{mi:Ev->Res (List D)}{mt:Ev->Res Bool}{me:Ev->Res D}(S:CompScope sc0 scope N0 xt fs js)(h0:C.X.env.scope=sc0)(hN0:C.X.N=N0)(hc:C.X.calm=true)
  (hi:RIc C (.Name xt px) iter mi) (ht:∀A fp s₂ H,RTs (cC C (xt::fs) scope A fp s₂ H js) ifs mt) (he:∀A fp s₂ H,RE (cC C (xt::fs) scope A fp s₂ H js) .cl elt me)
  (hs:autoParam (∀x,foldedSetIterable iter C.X.env x=pure x) Dx) :
  RE C .new (.ListComp elt [⟨.Name xt px,iter,ifs,0⟩] scope pos) (eComp mi mt me js):=by
 obtain⟨wi,pi,qi⟩:=hi
 refine⟨_,zM8 (tt:=fun A fp s H=>Classical.choose (ht A fp s H)) (te:=fun A fp s H=>Classical.choose (he A fp s H)) S h0 hN0 hc pi (fun A fp s H=>(AN (ht A fp s H)).1) (fun A fp s H=>(AN (he A fp s H)).1) hs,fun Oc Ob σ H ρ Q R h=>yD5 qi ht he R h⟩
section
variable {C:Ct}{fr:Bool}{e c:Expr}{pos:Pos}{md:Md}{me:Ev->Res D}{mt:Ev->Res Bool}{st:Stmt}{sts rest:List Stmt}{m n:Ev->Res Out}
def sN:Ev->Res Out:=fun ρ=>.ok (.nx ρ)
def sQ(m n:Ev->Res Out):Ev->Res Out:=fun ρ=>(m ρ).bind fun o=>match o with
 | .nx ρ'=>n ρ'
 | .rt d=>.ok (.rt d)
theorem yT:RSs C fr [] sN:=⟨_,gI,fun Oc Ob σ H ρ E R h=>h σ H Ob R (Same.frm (Same.refl H)) fun b z=>.inl z⟩
theorem zR(h:RS C fr st m):RSs C fr [st] m:=by
 obtain⟨t,p,q⟩:=h
 exact⟨_,xT p,q⟩
theorem zT(h:RS C fr st m)(hr:RSs C fr rest n):RSs C fr (st::rest) (sQ m n):=by
 obtain⟨t,p,q⟩:=h
 obtain⟨t',p',q'⟩:=hr
 refine⟨_,zA p p',fun Oc Ob σ H ρ E R h=>q Oc Ob σ H ρ _ R (Res.zU (Res.zW h) (fun o _ k => ?_) fun _ z=>z)⟩
 cases o with
 | rt d=>exact k
 | nx ρ'=>exact fun σ' H' Ob' R' f s=>q' Oc Ob' σ' H' ρ' E R' (SPost.step f s k)
def sIf(t:Ev->Res Bool)(m n:Ev->Res Out):Ev->Res Out:=fun ρ=>(t ρ).bind fun b=>if b then m ρ else n ρ
theorem yH{x y:List Stmt}(hc:RT C c mt)(hx:RSs C fr x m)(hy:RSs C fr y n):RS C fr (.If c x y pos) (sIf mt m n):=by
 obtain⟨t,p,q⟩:=hc
 obtain⟨t1,p1,q1⟩:=hx
 obtain⟨t2,p2,q2⟩:=hy
 refine⟨_,zW2 p p1 p2,fun Oc Ob σ H ρ E R h=>q Oc Ob σ H ρ _ R (Res.zU (Res.zW h) (fun b _ k H' s => ?_) fun c z H' s=>z H' (Same.frm s))⟩
 cases b with
 | true=>exact iteT (q1 Oc Ob σ H' ρ E (R.same s) (SPost.same s k))
 | false=>exact iteF (q2 Oc Ob σ H' ρ E (R.same s) (SPost.same s k))
def sR(m:Ev->Res D):Ev->Res Out:=fun ρ=>(m ρ).bind fun d=>.ok (.rt d)
theorem yW(he:RE C .cl e me):RS C false (.Return (some e) pos) (sR me):=by
 obtain⟨t,p,q⟩:=he
 refine⟨_,kB p,fun Oc Ob σ H ρ E R h=>q Oc Ob σ H ρ _ R (Res.zU (Res.zW h) (fun d _ k v H' s r => ?_) fun c z H' s=>z H' (Same.frm s))⟩
 exact k v H' (Same.frm s) (Rep.less r fun b z=>.inl z)
theorem yR4(i:Nat){x:Str}{p':Pos}(hN:autoParam (C.X.N[i]?=some x) Dz)(ho:autoParam (C.om.contains i=true) Dz)(hv:autoParam (Vis C.X.env.scope x) Dv)(hd:autoParam ((x == ("__debug__":Str))=false) Dy)
  (hcd:autoParam ((x == ("__classdict__":Str))=false) Dy):RS C true (.Return (some (.Name x p')) pos) (sR (eV i)):=by
 refine⟨_,kB (fU hN hv hd hcd),fun Oc Ob σ H ρ E R h => ?_⟩
 obtain⟨d,e,k⟩:=gQ (Res.zW h)
 obtain⟨v,q,a,ys,ds,e1,e2,e3,e4,e5⟩:=R.own i d e (jM ho)
 exact⟨v,q,k v H (Same.frm (Same.refl H)) ⟨a,ys,ds,e1,e2,.inr e4,R.ap a e4,e3,e5.less fun b z=>z.elim .inl fun z=>.inr (by subst z;exact e4)⟩⟩
theorem xX{α:Type}{l:List (Option α)}{i j:Nat}{v d:α}(h:(l.set i (some v))[j]?=some (some d)):(j=i/\d=v)\/(j≠i/\l[j]?=some (some d)):=by
 by_cases e:i=j
 ·subst e
  rw[List.getElem?_set_self'] at h
  cases q:l[i]? with
  | none=>rw[q] at h;cases h
  | some z=>rw[q] at h;cases h;exact .inl ⟨rfl,rfl⟩
 ·rw[AU e] at h
  exact .inr ⟨fun z=>e z.symm,h⟩
theorem zP6{α:Type}{l:List (Option α)}{i j:Nat}{v d:α}(h:(l.set i (some v))[j]?=some (some d)):j<l.length:=by
 have:=(Aj.mp h).1
 simpa using this
theorem Rel.set{Oc:Wd}{Ob:Addr->Prop}{om ln:List Nat}{σ:St}{H:Hp}{ρ:Ev}{i:Nat}{v:V}{d:D}(R:Rel Oc Ob om ln σ H ρ)(ho:i∉om)(hl:i∉ln)(r:Rep H (Uni Oc Ob) v d):Rel Oc Ob om ln (σ.set i (some v)) H (ρ.set i (some d)) where
 len:=by rw[Cj,Cj];exact R.len
 val:=fun j d' e h1 h2=>by
  have hj:=zP6 e
  rcases xX e with ⟨rfl,rfl⟩ | ⟨ne,e⟩
  ·exact⟨v,by rw[Bx (by rw[R.len];exact hj)],r⟩
  ·obtain⟨w,q,k⟩:=R.val j d' e h1 h2
   exact⟨w,by rw[AU (fun z=>ne z.symm)];exact q,k⟩
 own:=fun j d' e h1=>by
  rcases xX e with ⟨rfl,rfl⟩ | ⟨ne,e⟩
  ·exact absurd h1 ho
  ·obtain⟨w,q,k⟩:=R.own j d' e h1
   exact⟨w,by rw[AU (fun z=>ne z.symm)];exact q,k⟩
 lnt:=fun j d' e h1 h2=>by
  rcases xX e with ⟨rfl,rfl⟩ | ⟨ne,e⟩
  ·exact absurd h2 hl
  ·obtain⟨w,q,k⟩:=R.lnt j d' e h1 h2
   exact⟨w,by rw[AU (fun z=>ne z.symm)];exact q,k⟩
 inj:=fun j k dj dk a ej ek hj hk qj qk=>by
  rcases xX ej with ⟨rfl,rfl⟩ | ⟨nj,ej⟩
  ·exact absurd hj ho
  ·rcases xX ek with ⟨rfl,rfl⟩ | ⟨nk,ek⟩
   ·exact absurd hk ho
   ·rw[AU (fun z=>nj z.symm)] at qj
    rw[AU (fun z=>nk z.symm)] at qk
    exact R.inj j k dj dk a ej ek hj hk qj qk
 oh:=R.oh
 ap:=R.ap
theorem Rel.setO{Oc:Wd}{Ob:Addr->Prop}{om ln:List Nat}{σ:St}{H H':Hp}{ρ:Ev}{i:Nat}{v:V}{d:D}(R:Rel Oc Ob om ln σ H ρ)(s:Same H H')(ho:i∈om)(r:VR .new Oc Ob H H' v d):∃a,H a=none/\Rel Oc (fun b=>Ob b\/b=a) om ln (σ.set i (some v)) H' (ρ.set i (some d)):=by
 obtain⟨a,ys,ds,rfl,rfl,e3,e4,e5⟩:=r
 have up:∀{vs:List V}{es:List D},Reps H (Uni Oc Ob) vs es->Reps H' (Uni Oc fun b=>Ob b\/b=a) vs es:=fun r=>r.keep (fun b o e _=>s b o e) fun b n z=>z.elim .inl fun z=>z.elim .inr fun z=>by subst z;exact absurd e3 n
 have up1:∀{v:V}{e:D},Rep H (Uni Oc Ob) v e->Rep H' (Uni Oc fun b=>Ob b\/b=a) v e:=fun r=>r.keep (fun b o e _=>s b o e) fun b n z=>z.elim .inl fun z=>z.elim .inr fun z=>by subst z;exact absurd e3 n
 refine⟨a,e3,?_,fun j d' e h1 h2 => ?_,fun j d' e h1 => ?_,fun j d' e h1 h2 => ?_,fun j k dj dk b ej ek hj hk qj qk => ?_,fun b z => ?_,fun b z => ?_⟩
 ·rw[Cj,Cj];exact R.len
 ·rcases xX e with ⟨rfl,rfl⟩ | ⟨ne,e⟩
  ·exact absurd ho h1
  ·obtain⟨w,q,k⟩:=R.val j d' e h1 h2
   exact⟨w,by rw[AU (fun z=>ne z.symm)];exact q,up1 k⟩
 ·have hj:=zP6 e
  rcases xX e with ⟨rfl,rfl⟩ | ⟨ne,e⟩
  ·refine⟨.ref a,by rw[Bx (by rw[R.len];exact hj)],a,ys,ds,rfl,rfl,e4,.inr rfl,e5.less fun b z=>z.elim (fun z=>.inl (.inl z)) fun z=>z.elim (fun z=>.inl (.inr z)) .inr⟩
  ·obtain⟨w,q,b,zs,fs,z1,z2,z3,z4,z5⟩:=R.own j d' e h1
   exact⟨w,by rw[AU (fun z=>ne z.symm)];exact q,b,zs,fs,z1,z2,s _ _ z3,.inl z4,up z5⟩
 ·rcases xX e with ⟨rfl,rfl⟩ | ⟨ne,e⟩
  ·exact absurd ho h1
  ·obtain⟨w,q,zs,fs,z1,z2,z3,z4,z5⟩:=R.lnt j d' e h1 h2
   exact⟨w,by rw[AU (fun z=>ne z.symm)];exact q,zs,fs,z1,z2,s _ _ z3,z4,up z5⟩
 ·have lj:=zP6 ej
  have lk:=zP6 ek
  rcases xX ej with ⟨rfl,rfl⟩ | ⟨nj,ej'⟩
  ·rw[Bx (by rw[R.len];exact lj)] at qj
   cases qj
   rcases xX ek with ⟨rfl,rfl⟩ | ⟨nk,ek'⟩
   ·rfl
   ·rw[AU (fun z=>nk z.symm)] at qk
    obtain⟨w,q,b,zs,fs,z1,z2,z3,z4,z5⟩:=R.own k dk ek' hk
    rw[qk] at q
    cases q
    cases z1
    rw[e3] at z3
    cases z3
  ·rw[AU (fun z=>nj z.symm)] at qj
   rcases xX ek with ⟨rfl,rfl⟩ | ⟨nk,ek'⟩
   ·rw[Bx (by rw[R.len];exact lk)] at qk
    cases qk
    obtain⟨w,q,b,zs,fs,z1,z2,z3,z4,z5⟩:=R.own j dj ej' hj
    rw[qj] at q
    cases q
    cases z1
    rw[e3] at z3
    cases z3
   ·rw[AU (fun z=>nk z.symm)] at qk
    exact R.inj j k dj dk b ej' ek' hj hk qj qk
 ·rcases z with z | z | rfl
  ·exact Same.ne s (R.oh b (.inl z))
  ·exact Same.ne s (R.oh b (.inr z))
  ·rw[e4];exact fun z=>nomatch z
 ·rcases z with z | rfl
  ·exact R.ap b z
  ·exact fun z=>R.oh b (.inl z) e3
def sS(i:Nat)(m:Ev->Res D):Ev->Res Out:=fun ρ=>(m ρ).bind fun d=>.ok (.nx (ρ.set i (some d)))
theorem zE(i:Nat){x:Str}{p':Pos}(nd:C.X.N.Nodup)(he:RE C .cl e me)(hi:autoParam (C.X.N[i]?=some x) Dz)(ho:autoParam (C.om.contains i=false) Dz)(hl:autoParam (C.ln.contains i=false) Dz)(hx:autoParam (Loc C.X.env.scope x) cD._auto_1)
  (hs:autoParam (swapsWith e (some (.Name x p')) pos.line C.X.env=pure false) Dz) (hf:autoParam (C.X.fn x=true\/C.X.env.scope.names.lookup x=some .local) autoK12._auto_1):RS C fr (.Assign [.Name x p'] e pos) (sS i me):=by
 obtain⟨t,p,q⟩:=he
 refine⟨_,xW nd hi hx p hs hf,fun Oc Ob σ H ρ E R h=>q Oc Ob σ H ρ _ R (Res.zU (Res.zW h) (fun d _ k v H' s r => ?_) fun c z H' s=>z H' (Same.frm s))⟩
 exact k _ H' Ob ((R.same s).set (xJ ho) (xJ hl) r) (Same.frm s) fun b z=>.inl z
theorem vF(i:Nat){x:Str}{p':Pos}(nd:C.X.N.Nodup)(he:RE C .new e me)(hi:autoParam (C.X.N[i]?=some x) Dz)(ho:autoParam (C.om.contains i=true) Dz)(hx:autoParam (Loc C.X.env.scope x) cD._auto_1)
  (hs:autoParam (swapsWith e (some (.Name x p')) pos.line C.X.env=pure false) Dz) (hf:autoParam (C.X.fn x=true\/C.X.env.scope.names.lookup x=some .local) autoK12._auto_1):RS C fr (.Assign [.Name x p'] e pos) (sS i me):=by
 obtain⟨t,p,q⟩:=he
 refine⟨_,xW nd hi hx p hs hf,fun Oc Ob σ H ρ E R h=>q Oc Ob σ H ρ _ R (Res.zU (Res.zW h) (fun d _ k v H' s r => ?_) fun c z H' s=>z H' (Same.frm s))⟩
 obtain⟨a,ha,R'⟩:=R.setO s (jM ho) r
 exact k _ H' _ R' (Same.frm s) fun b z=>z.elim .inl fun z=>.inr (by subst z;exact ha)
def sE(m:Ev->Res D):Ev->Res Out:=fun ρ=>(m ρ).bind fun _=>.ok (.nx ρ)
theorem xQ1(he:RE C md e me)(hs:autoParam (swapsWith e none pos.line C.X.env=pure false) Dz):RS C fr (.Expr e pos) (sE me):=by
 obtain⟨t,p,q⟩:=he
 refine⟨_,qA p hs,fun Oc Ob σ H ρ E R h=>q Oc Ob σ H ρ _ R (Res.zU (Res.zW h) (fun d _ k v H' s r => ?_) fun c z H' s=>z H' (Same.frm s))⟩
 exact k σ H' Ob (R.same s) (Same.frm s) fun b z=>.inl z
theorem Rel.write{Oc:Wd}{Ob:Addr->Prop}{om ln:List Nat}{σ:St}{H:Hp}{ρ:Ev}{i:Nat}{a:Addr}{ys ys':List V}{d:D}{ds':List D}(R:Rel Oc Ob om ln σ H ρ)(ho:i∈om)(ed:ρ[i]?=some (some d))(es:σ[i]?=some (some (.ref a)))(ha:H a=some (.lst ys))(hb:Ob a)
  (r:Reps H (Uni Oc Ob) ys' ds'):Rel Oc Ob om ln σ (upd H a (.lst ys')) (ρ.set i (some (.list ds'))):=by
 have kp:∀b o,H b=some o->¬Uni Oc Ob b->upd H a (.lst ys') b=some o:=fun b o e n=>by
  rw[zO (fun z=>n (by subst z;exact .inr hb))];exact e
 have up:∀{vs:List V}{es:List D},Reps H (Uni Oc Ob) vs es->Reps (upd H a (.lst ys')) (Uni Oc Ob) vs es:=fun r=>r.keep kp fun b n z=>z
 have up1:∀{v:V}{e:D},Rep H (Uni Oc Ob) v e->Rep (upd H a (.lst ys')) (Uni Oc Ob) v e:=fun r=>r.keep kp fun b n z=>z
 have li:i<σ.length:=(Aj.mp es).1
 refine⟨by rw[Cj];exact R.len,fun j d' e h1 h2 => ?_,fun j d' e h1 => ?_,fun j d' e h1 h2 => ?_,fun j k dj dk b ej ek hj hk qj qk => ?_,fun b z => ?_,R.ap⟩
 ·rcases xX e with ⟨rfl,rfl⟩ | ⟨ne,e⟩
  ·exact absurd ho h1
  ·obtain⟨w,q,k⟩:=R.val j d' e h1 h2
   exact⟨w,q,up1 k⟩
 ·rcases xX e with ⟨rfl,rfl⟩ | ⟨ne,e⟩
  ·exact⟨.ref a,es,a,ys',ds',rfl,rfl,zN,hb,up r⟩
  ·obtain⟨w,q,b,zs,fs,rfl,z2,z3,z4,z5⟩:=R.own j d' e h1
   have nb:b≠a:=fun z=>by subst z;exact ne (R.inj j i d' d b e ed h1 ho q es)
   exact⟨_,q,b,zs,fs,rfl,z2,by rw[zO nb];exact z3,z4,up z5⟩
 ·rcases xX e with ⟨rfl,rfl⟩ | ⟨ne,e⟩
  ·exact absurd ho h1
  ·obtain⟨w,q,zs,fs,z1,z2,z3,z4,z5⟩:=R.lnt j d' e h1 h2
   have nb:Oc.la j≠a:=fun z=>R.ap a hb (z▸z4)
   exact⟨_,q,zs,fs,z1,z2,by rw[zO nb];exact z3,z4,up z5⟩
 ·have get:∀j dj,(ρ.set i (some (.list ds')))[j]?=some (some dj)->∃d,ρ[j]?=some (some d):=fun j dj e=>by
   rcases xX e with ⟨rfl,rfl⟩ | ⟨ne,e⟩
   ·exact⟨d,ed⟩
   ·exact⟨dj,e⟩
  obtain⟨d1,e1⟩:=get j dj ej
  obtain⟨d2,e2⟩:=get k dk ek
  exact R.inj j k d1 d2 b e1 e2 hj hk qj qk
 ·by_cases h:b=a
  ·subst h;rw[zN];exact fun z=>nomatch z
  ·rw[zO h];exact R.oh b z
def PrM(r:V->List V->Hp->VK->Prop)(g:List D->List D->Option (List D)):Prop :=
 ∀(O:Addr->Prop) (H:Hp) (l:Addr) (xs vs:List V) (xd ad ds':List D) (Q:VK),H l=some (.lst xs)->Reps H O xs xd->Reps H O vs ad->g xd ad=some ds'->(∀xs',Reps H O xs' ds'->Q .non (upd H l (.lst xs')))->r (.ref l) vs H Q
def lstD:D->Option (List D)
 | .list ds=>some ds
 | _=>none
def sM(i:Nat)(g:List D->List D->Option (List D))(m:Ev->Res (List D)):Ev->Res Out:=fun ρ=>(eV i ρ).bind fun d=>(Res.lft (lstD d)).bind fun xd=>(m ρ).bind fun ad=>(Res.lft (g xd ad)).bind fun ds=>.ok (.nx (ρ.set i (some (.list ds))))
theorem fB{d:D}{ds:List D}(h:lstD d=some ds):d=.list ds:=by
 cases d <;> simp[lstD] at h ⊢
 exact h
theorem jB(i:Nat){x name:Str}{id:String}{a:Expr}{es:List Expr}{ms:Ev->Res (List D)}{p' apos cpos:Pos}{r:V->List V->Hp->VK->Prop}{g:List D->List D->Option (List D)}(slot:Slot "list" name id)(hty:typeOf (.builtin id)=pure (.type "method_descriptor"))(hm:MtR C.X id r)(hp:PrM r g)(ha:RArg C true (a::es) ms)
  (hN:autoParam (C.X.N[i]?=some x) Dz) (ho:autoParam (C.om.contains i=true) Dz) (hv:autoParam (Vis C.X.env.scope x) Dv) (hd:autoParam ((x == ("__debug__":Str))=false) Dy) (hcd:autoParam ((x == ("__classdict__":Str))=false) Dy)
  (hbase:autoParam (attributeBase (.Name x p') name C.X.env (eval (.Name x p') C.X.env)=eval (.Name x p') C.X.env) Dz)
  (hfew:((backTo cpos (starEach (a::es) C.X.env)).all (fun x=>!x.1)&&(backToKw cpos (keywordEach [] C.X.env)).all (fun x=>x.1.isSome)
  &&decide ((a::es).length+([]:List Keyword).length+(if ([]:List Keyword).isEmpty then 0 else 1)<30))=true:=by rfl)
  (hline:autoParam ((apos.endLine == cpos.line)=true) Dz) (hs:autoParam (starEach (a::es) C.X.env=(false,eval a C.X.env)::starEach es C.X.env) Dz) (hplain:autoParam ((backTo cpos (starEach es C.X.env)).any (·.1)=false) Dz)
  (hsw:autoParam (swapsWith (.Call (.Attribute (.Name x p') name apos) (a::es) [] cpos) none pos.line C.X.env=pure false) Dz) :
  RS C fr (.Expr (.Call (.Attribute (.Name x p') name apos) (a::es) [] cpos) pos) (sM i g ms):=by
 obtain⟨t,p,q⟩:=ha
 refine⟨_,qA (dW BH slot hty hm (fU hN hv hd hcd) p hbase hfew hline hs hplain) hsw,fun Oc Ob σ H ρ E R h => ?_⟩
 obtain⟨d,ed,k⟩:=gQ (Res.zW h)
 obtain⟨xd,ex,k⟩:=Res.zC (Res.zW k)
 obtain rfl:=fB ex
 obtain⟨v,qv,l,ys,ds,rfl,e2,e3,e4,e5⟩:=R.own i _ ed (jM ho)
 cases e2
 refine⟨_,qv,.inl ⟨rfl,_,SqL.of e3⟩,q Oc Ob σ H ρ _ R (Res.zU (Res.zW k) (fun ad _ k vs H' s r' => ?_) fun c z H' s=>z H' (Same.frm s))⟩
 obtain⟨ds',eg,k⟩:=Res.zC (Res.zW k)
 refine hp _ H' l ys vs xd ad ds' _ (s _ _ e3) (e5.same s) r' eg fun xs' rx => ?_
 refine k _ _ Ob ((R.same s).write (jM ho) ed qv (s _ _ e3) e4 rx) (fun b o e n => ?_) fun b z=>.inl z
 rw[zO (fun z=>n (by subst z;exact e4))]
 exact s b o e
end
def RG(C:Ct)(tg:Expr)(g:D->Ev->Option Ev):Prop :=
 ∃t,PG C.X tg t/\∀(Oc:Wd) (Ob:Addr->Prop) (σ:St) (H:Hp) (ρ ρ':Ev) (v:V) (d:D) (Q:St->Hp->Prop),Rel Oc Ob C.om C.ln σ H ρ->Rep H (Uni Oc Ob) v d->g d ρ=some ρ'->(∀σ',Rel Oc Ob C.om C.ln σ' H ρ'->Q σ' H)->t v σ H Q
def gN(i:Nat):D->Ev->Option Ev:=fun d ρ=>some (ρ.set i (some d))
section
variable {C:Ct}{fr:Bool}{e c:Expr}{es:List Expr}{pos:Pos}{md:Md}{me:Ev->Res D}{mt:Ev->Res Bool}{st:Stmt}{body sts rest:List Stmt}{m n:Ev->Res Out}{mi:Ev->Res (List D)}{g:D->Ev->Option Ev}
theorem xY(i:Nat){x:Str}(nd:C.X.N.Nodup)(hi:autoParam (C.X.N[i]?=some x) Dz)(ho:autoParam (C.om.contains i=false) Dz)(hl:autoParam (C.ln.contains i=false) Dz)(hx:autoParam (Loc C.X.env.scope x) cD._auto_1)
  (hf:autoParam (C.X.fn x=true\/C.X.env.scope.names.lookup x=some .local) autoK12._auto_1):RG C (.Name x pos) (gN i):=by
 refine⟨_,gK nd hi hx hf,fun Oc Ob σ H ρ ρ' v d Q R r e k => ?_⟩
 cases e
 exact k _ (R.set (xJ ho) (xJ hl) r)
def RGs(C:Ct)(ts:List Expr)(g:List D->Ev->Option Ev):Prop :=
 ∃t,PGs C.X ts t/\∀(Oc:Wd) (Ob:Addr->Prop) (σ:St) (H:Hp) (ρ ρ':Ev) (vs:List V) (ds:List D) (Q:St->Hp->Prop),Rel Oc Ob C.om C.ln σ H ρ->Reps H (Uni Oc Ob) vs ds->g ds ρ=some ρ'->(∀σ',Rel Oc Ob C.om C.ln σ' H ρ'->Q σ' H)->t vs σ H Q
def gsN:List D->Ev->Option Ev
 | [],ρ=>some ρ
 | _,_=>none
def gsC(g:D->Ev->Option Ev)(h:List D->Ev->Option Ev):List D->Ev->Option Ev
 | d::ds,ρ=>(g d ρ).bind fun ρ1=>h ds ρ1
 | [],_=>none
theorem zW5:RGs C [] gsN:=by
 refine⟨_,yS2,fun Oc Ob σ H ρ ρ' vs ds Q R r e k => ?_⟩
 cases r with
 | nil=>cases e;exact⟨rfl,k σ R⟩
 | cons=>cases e
theorem uR{h:List D->Ev->Option Ev}(h1:RG C e g)(h2:RGs C es h)(hs:autoParam ((assignEach (e::es) C.X.env).map (·.2)=assign e C.X.env::(assignEach es C.X.env).map (·.2)) Dz):RGs C (e::es) (gsC g h):=by
 obtain⟨t,p,q⟩:=h1
 obtain⟨t',p',q'⟩:=h2
 refine⟨_,zS5 p p' hs,fun Oc Ob σ H ρ ρ' vs ds Q R r e k => ?_⟩
 cases r with
 | nil=>cases e
 | cons r rs =>
  obtain⟨ρ1,e1,e2⟩:=AD.mp e
  exact⟨_,_,rfl,q Oc Ob σ H ρ ρ1 _ _ _ R r e1 fun σ' R'=>q' Oc Ob σ' H ρ1 ρ' _ _ Q R' rs e2 k⟩
def gT(n:Nat)(h:List D->Ev->Option Ev):D->Ev->Option Ev
 | .tuple ds,ρ=>if ds.length=n then h ds ρ else none
 | _,_=>none
theorem zR8{k n:Nat}{h:List D->Ev->Option Ev}(hc:C.X.calm=true)(hg:RGs C es h)(hn:autoParam ((assignEach es C.X.env).length=n) Dz)(hst:autoParam ((assignEach es C.X.env).findIdx? (·.1)=none) Dz):RG C (.Tuple es k pos) (gT n h):=by
 obtain⟨t,p,q⟩:=hg
 refine⟨_,yG4 hc p hn hst,fun Oc Ob σ H ρ ρ' v d Q R r e k => ?_⟩
 cases r with
 | tup rd no rs =>
  unfold gT at e
  simp only at e
  split at e
  ·rename_i hl
   exact⟨_,_,rfl,.inl rd,by rw[rs.length];exact hl,q Oc Ob σ H ρ ρ' _ _ Q R rs e k⟩
  ·cases e
 | _=>cases e
theorem xH6{tg:Expr}(he:RE C .cl e me)(hg:RG C tg g)(hs:autoParam (swapsWithSole [tg] e pos.line C.X.env=pure false) Dz)(hw:autoParam (swappedStores [tg] e C.X.env=pure none) Dz)
  (h1:autoParam ((assignEach [tg] C.X.env).map (·.2)=[assign tg C.X.env]) Dz):RS C fr (.Assign [tg] e pos) (fun ρ=>(me ρ).bind fun d=>(Res.lft (g d ρ)).bind fun ρ'=>.ok (.nx ρ')):=by
 obtain⟨t,p,q⟩:=he
 obtain⟨t',p',q'⟩:=hg
 refine⟨_,zB4 p p' hs hw h1,fun Oc Ob σ H ρ E R h=>q Oc Ob σ H ρ _ R (Res.zU (Res.zW h) (fun d _ k v H' s r => ?_) fun c z H' s=>z H' (Same.frm s))⟩
 obtain⟨ρ',e,k⟩:=Res.zC (Res.zW k)
 exact q' Oc Ob σ H' ρ ρ' v d _ (R.same s) r e fun σ' R'=>k σ' H' Ob R' (Same.frm s) fun b z=>.inl z
def forM(g:D->Ev->Option Ev)(b:Ev->Res Out):List D->Ev->Res Out
 | [],ρ=>.ok (.nx ρ)
 | x::xs,ρ=>(Res.lft (g x ρ)).bind fun ρ1=>(b ρ1).bind fun o=>match o with
  | .nx ρ2=>forM g b xs ρ2
  | .rt d=>.ok (.rt d)
def sF(mi:Ev->Res (List D))(g:D->Ev->Option Ev)(b:Ev->Res Out):Ev->Res Out:=fun ρ=>(mi ρ).bind fun ds=>forM g b ds ρ
theorem uA{tg iter:Expr}(hi:RI C tg iter mi)(hg:RG C tg g)(hb:RSs C fr body m)(hp:autoParam (PassesOwn (model C.X.prog C.X.w) C.X.A C.X.env C.X.xe) autoK13._auto_1)(hc:autoParam (C.X.calm=true) Dz)
  (hs:autoParam (∀x,foldedSetIterable iter C.X.env x=pure x) Dx):RS C fr (.For tg iter body [] pos) (sF mi g m):=by
 obtain⟨wi,pi,qi⟩:=hi
 obtain⟨tg',pg,qg⟩:=hg
 obtain⟨tb,pb,qb⟩:=hb
 refine⟨_,yV2 hp hc pi pg pb hs,fun Oc Ob σ H ρ E R h=>qi Oc Ob σ H ρ _ R (Res.zU (Res.zW h) (fun ds _ k J H1 s1 wk => ?_) fun c z H' s=>z H' (Same.frm s))⟩
 refine⟨fun i mm σ' H'=>mm=ds.length-i/\i<=ds.length/\∃ρi Obi,Rel Oc Obi C.om C.ln σ' H' ρi/\Frm Ob H1 H'/\(∀b,Obi b->Ob b\/H1 b=none)/\SPost C fr Oc Obi H' E (forM g m (ds.drop i) ρi),
  ⟨_,rfl,Bb _,ρ,Ob,R.same s1,Same.frm (Same.refl _),fun b z=>.inl z,SPost.same s1 k⟩,?_⟩
 rintro i mm σ2 H2 ⟨rfl,hi,ρi,Obi,R2,f2,sb2,k2⟩
 obtain⟨w1,w2⟩:=wk H2 Obi f2 sb2 i
 by_cases hlt:i<ds.length
 ·obtain⟨go,yl⟩:=w1 ds[i] (Ah hlt)
  have ed:ds.drop i=ds[i]::ds.drop (i+1):=Bp hlt
  rw[ed,forM] at k2
  obtain⟨ρ1,e1,k2⟩:=Res.zC (Res.zW k2)
  refine .inr ⟨go,fun σ' H'=>∃m',m'<ds.length-i/\(m'=ds.length-(i+1)/\i+1<=ds.length/\∃ρi Obi,Rel Oc Obi C.om C.ln σ' H' ρi/\Frm Ob H1 H'/\(∀b,Obi b->Ob b\/H1 b=none)/\SPost C fr Oc Obi H' E (forM g m (ds.drop (i+1)) ρi)),fun _ _ z=>z,fun x H3 hy => ?_⟩
  obtain⟨s3,rx⟩:=yl x H3 hy
  refine qg Oc Obi σ2 H3 ρi ρ1 x _ _ (R2.same s3) rx e1 fun σ3 R3 => ?_
  have k3:=SPost.same s3 (show SPost C fr Oc Obi H2 E _ from k2)
  refine qb Oc Obi σ3 H3 ρ1 _ R3 (Res.zU (Res.zW k3) (fun o _ k4 => ?_) fun _ z=>z)
  cases o with
  | rt d=>exact k4
  | nx ρ2 =>
   intro σ4 H4 Ob4 R4 f4 sb4
   have f3:Frm Ob H1 H3:=fun b o e n=>s3 b o (f2 b o e n)
   refine⟨_,by rfl',rfl,hlt,ρ2,Ob4,R4,f3.trans sb2 f4,fun b z=>(sb4 b z).elim (sb2 b) fun z=>f3.none z,SPost.step f4 sb4 k4⟩
 ·have ei:i=ds.length:=by rfl'
  subst ei
  rw[BR] at k2
  exact .inl ⟨w2 (Ai _),k2 σ2 H2 Obi R2 (Same.frm (Same.refl _)) fun b z=>.inl z⟩
def whM(t:Ev->Res Bool)(b:Ev->Res Out):Nat->Ev->Res Out
 | 0,_=>.no
 | k+1,ρ=>(t ρ).bind fun c=>if c then (b ρ).bind fun o=>match o with
  | .nx ρ'=>whM t b k ρ'
  | .rt d=>.ok (.rt d) else .ok (.nx ρ)
def sW(fuel:Nat)(t:Ev->Res Bool)(b:Ev->Res Out):Ev->Res Out:=fun ρ=>whM t b fuel ρ
theorem zB5(fuel:Nat)(hc:RT C c mt)(hb:RSs C fr body m)(hp:autoParam (PassesOwn (model C.X.prog C.X.w) C.X.A C.X.env C.X.xe) autoK13._auto_1):RS C fr (.While c body [] pos) (sW fuel mt m):=by
 obtain⟨t,p,q⟩:=hc
 obtain⟨tb,pb,qb⟩:=hb
 refine⟨_,gE hp p pb,fun Oc Ob σ H ρ E R h => ?_⟩
 refine⟨fun mm σ' H'=>∃ρi Obi,Rel Oc Obi C.om C.ln σ' H' ρi/\Frm Ob H H'/\(∀b,Obi b->Ob b\/H b=none)/\SPost C fr Oc Obi H' E (whM mt m mm ρi),⟨fuel,ρ,Ob,R,Same.frm (Same.refl _),fun b z=>.inl z,h⟩,?_⟩
 rintro mm σ2 H2 ⟨ρi,Obi,R2,f2,sb2,k2⟩
 cases mm with
 | zero=>exact k2.elim
 | succ mm =>
  rw[whM] at k2
  refine q Oc Obi σ2 H2 ρi _ R2 (Res.zU (Res.zW k2) (fun b _ k3 H3 s3 => ?_) fun c z H' s=>z H' (Same.frm s))
  cases b with
  | false=>exact iteF (k3 σ2 H3 Obi (R2.same s3) (Same.frm s3) fun b z=>.inl z)
  | true =>
   refine iteT ⟨fun σ' H'=>∃m',m'<mm+1/\∃ρi Obi,Rel Oc Obi C.om C.ln σ' H' ρi/\Frm Ob H H'/\(∀b,Obi b->Ob b\/H b=none)/\SPost C fr Oc Obi H' E (whM mt m m' ρi),fun _ _ z=>z,?_⟩
   have k3:=SPost.same s3 (show SPost C fr Oc Obi H2 E _ from k3)
   refine qb Oc Obi σ2 H3 ρi _ (R2.same s3) (Res.zU (Res.zW k3) (fun o _ k4 => ?_) fun _ z=>z)
   cases o with
   | rt d=>exact k4
   | nx ρ2 =>
    intro σ4 H4 Ob4 R4 f4 sb4
    have f3:Frm Ob H H3:=fun b o e n=>s3 b o (f2 b o e n)
    exact⟨mm,CK _,ρ2,Ob4,R4,f3.trans sb2 f4,fun b z=>(sb4 b z).elim (sb2 b) fun z=>f3.none z,SPost.step f4 sb4 k4⟩
def setD(ds:List D)(i v:D):Option (List D):=match i with
 | .int k=>(ixN ds.length k).map fun j=>ds.set j v
 | _=>none
def sI(i:Nat)(mk me:Ev->Res D):Ev->Res Out:=fun ρ=>(me ρ).bind fun v=>(eV i ρ).bind fun d=>(Res.lft (lstD d)).bind fun xd=>(mk ρ).bind fun k=>(Res.lft (setD xd k v)).bind fun ds=>.ok (.nx (ρ.set i (some (.list ds))))
theorem yQ5(i:Nat){x:Str}{p' p2:Pos}{k:Expr}{mk:Ev->Res D}(he:RE C .cl e me)(hk:RE C md k mk)(hN:autoParam (C.X.N[i]?=some x) Dz)(ho:autoParam (C.om.contains i=true) Dz)(hv:autoParam (Vis C.X.env.scope x) Dv)(hd:autoParam ((x == ("__debug__":Str))=false) Dy)
  (hcd:autoParam ((x == ("__classdict__":Str))=false) Dy)
  (ha:∀v,assign (.Subscript (.Name x p') k p2) C.X.env v=(do
   let ov <-holding [v] (eval (.Name x p') C.X.env)
   let iv <-holding [v,ov] (eval k C.X.env)
   standAt p2
   holding [v,ov,iv] (setItem ov iv v)
   release [v,ov,iv] []):=by intro _;rfl)
  (hs:autoParam (swapsWithSole [.Subscript (.Name x p') k p2] e pos.line C.X.env=pure false) Dz) (hw:autoParam (swappedStores [.Subscript (.Name x p') k p2] e C.X.env=pure none) Dz)
  (h1:autoParam ((assignEach [.Subscript (.Name x p') k p2] C.X.env).map (·.2)=[assign (.Subscript (.Name x p') k p2) C.X.env]) Dz):RS C fr (.Assign [.Subscript (.Name x p') k p2] e pos) (sI i mk me):=by
 obtain⟨t,p,q⟩:=he
 obtain⟨t',p',q'⟩:=hk
 refine⟨_,zB4 p (yB8 (fU hN hv hd hcd) p' zA1 ha) hs hw h1,fun Oc Ob σ H ρ E R h=>q Oc Ob σ H ρ _ R (Res.zU (Res.zW h) (fun dv _ k v H' s r => ?_) fun c z H' s=>z H' (Same.frm s))⟩
 obtain⟨d,ed,k⟩:=gQ (Res.zW k)
 obtain⟨xd,ex,k⟩:=Res.zC (Res.zW k)
 obtain rfl:=fB ex
 obtain⟨w',qv,l,ys,ds,rfl,e2,e3,e4,e5⟩:=(R.same s).own i _ ed (jM ho)
 cases e2
 refine⟨_,qv,q' Oc Ob σ H' ρ _ (R.same s) (Res.zU (Res.zW k) (fun dk _ k kv H2 s2 rk => ?_) fun c z H2 s2=>z H2 (Same.frm (s.trans s2)))⟩
 obtain⟨ds',eg,k⟩:=Res.zC (Res.zW k)
 unfold setD at eg
 split at eg
 ·obtain⟨j,ej,rfl⟩:=Av.mp eg
  obtain rfl:=(rk.va (R.same s).oh).int
  have hl:=e5.length
  refine⟨l,ys,_,j,rfl,rfl,s2 _ _ e3,by rw[hl];exact ej,?_⟩
  refine k _ _ Ob ((R.same (s.trans s2)).write (jM ho) ed qv (s2 _ _ e3) e4 (Reps.set (Rep.same r s2) j (e5.same s2))) (fun b o e n => ?_) fun b z=>.inl z
  rw[zO (fun z=>n (by subst z;exact e4))]
  exact s2 b o (s b o e)
 ·cases eg
end
end L2.L3
namespace L2
open PySem PySem.Spec PyProof.Rows
structure Has(K:KFr)(mg:Str->Option Value)(x:Str)(st:Stmt)(f:Addr)(fd:FuncData)(ps:List Str):Prop where
 F:Fun K x x st f fd
 b:Binds K fd ps []
 m:mg x=some (.ref f)
theorem aT{K:KFr}{h:Heap}{mg:Str->Option Value}{x:Str}{st:Stmt}{f:Addr}{oc:Value}{od an:Option Addr}{osl:Array (Option Value)}{kV doc pm cdv ct:Value}{ps:List Str}(X:K.In h)(G:h.Ns mainGlobals mg)
  (a:PySem.W.nsIn K mainGlobals x=some (some (.ref f))) (l:K.lookup f=some ⟨oc,od,.func (PySem.W.fnOf x x (defArgs st) (defBody st) (zS st) .none kV doc pm an cdv ct),osl⟩)
  (c:PySem.W.codeIn K cdv x=true) (k:PySem.W.keepIn K (.ref f)=true)
  (hb:∀(kV doc pm:Value) (an:Option Addr) (cdv ct:Value) (us:List Value),us.length=ps.length->bindArgs (PySem.W.fnOf x x (defArgs st) (defBody st) (zS st) .none kV doc pm an cdv ct) ⟨us,[]⟩=pure (ps.zip us)) :
  Has K mg x st f (PySem.W.fnOf x x (defArgs st) (defBody st) (zS st) .none kV doc pm an cdv ct) ps :=
 have F:=yH1 (st:=st) l c k
 ⟨F,F.binds hb,Cb X G a⟩
end L2
namespace L2.L3
open PySem PySem.Spec PyProof.Rows
variable [CN]
def CallOk:Bool->(Addr->Prop)->Hp->Hp->V->D->Prop
 | true,O,H,H',v,d=>∃a ys ds,v=.ref a/\d=.list ds/\H a=none/\H' a=some (.lst ys)/\Reps H' (fun b=>O b\/b=a) ys ds
 | false,O,_,H',v,d=>Rep H' O v d
def spF(fr:Bool)(F:List D->Res D):Sp:=fun vs H Q _=>∃(ds:List D) (O:Addr->Prop),(∀a,O a->H a≠none)/\Reps H O vs ds/\(F ds).post (fun d=>∀v H',Same H H'->CallOk fr O H H' v d->Q v H') (fun _=>False)
def fin(fr:Bool):Out->Res D
 | .rt d=>.ok d
 | .nx _=>if fr then .no else .ok .none
def runF(fr:Bool)(p n:Nat)(m:Ev->Res Out):List D->Res D:=fun ds=>if ds.length=p then (m (ds.map some++List.replicate (n-p) none)).bind (fin fr) else .no
theorem zY4{α:Type}{ds:List α}{k i:Nat}{d:α}(h:(ds.map some++List.replicate k none)[i]?=some (some d)):ds[i]?=some d:=by
 by_cases hi:i<ds.length
 ·rw[BB (by simpa using hi),Ak] at h
  cases e:ds[i]? with
  | none=>rw[e] at h;cases h
  | some z=>rw[e] at h;cases h;rfl
 ·rw[BK (by simpa using hi),BX] at h
  split at h <;> cases h
theorem xU3{α:Type}{ds:List α}{k i:Nat}{d:α}(h:ds[i]?=some d):(ds.map some++List.replicate k none)[i]?=some (some d):=by
 have hi:=(Aj.mp h).1
 rw[BB (by simpa using hi),Ak,h]
 rfl
section
variable {P:Program}{w:World}{K:KFr}{mg:Str->Option Value}{base:Heap}
end
def mdF(fr:Bool):Md:=if fr then .new else .cl
def eF(F:List D->Res D)(m:Ev->Res (List D)):Ev->Res D:=fun ρ=>(m ρ).bind F
section
variable {C:Ct}{k:Nat}{f:Addr}{fd:FuncData}{ps:List Str}{fr:Bool}{F:List D->Res D}{x:Str}{p pos:Pos}{e:Expr}{es:List Expr}{ms:Ev->Res (List D)}{st:Stmt}
end
mutual
def lf:D->Bool
 | .list _=>false
 | .dict _=>false
 | .tuple ds=>lfs ds
 | _=>true
def lfs:List D->Bool
 | []=>true
 | d::ds=>lf d&&lfs ds
end
mutual
theorem Rep.lf{H:Hp}{U:Addr->Prop}{B:Addr->Prop}(hB:∀b,B b->∃ys,H b=some (.lst ys)):∀{v:V}{d:D},Rep H (fun b=>U b/\¬B b) v d->L3.lf d=true->Rep H U v d
 | _,_,.non,_=>.non
 | _,_,.bl b,_=>.bl b
 | _,_,.int i,_=>.int i
 | _,_,.str x,_=>.str x
 | _,_,.lst r n t,h=>by simp[L3.lf] at h
 | _,_,.exc r w n,h=>by simp[L3.lf] at h
 | _,_,@Rep.tup _ _ _ a _ _ r n t,h=>.tup r (fun z=>by
   by_cases hb:B a
   ·obtain⟨ys,e⟩:=hB _ hb
    rcases r with r | ⟨o,r⟩ <;> (rw[r] at e;cases e)
   ·exact n ⟨z,hb⟩) (Reps.lf hB t (by simpa [L3.lf] using h))
theorem Reps.lf{H:Hp}{U:Addr->Prop}{B:Addr->Prop}(hB:∀b,B b->∃ys,H b=some (.lst ys)):∀{vs:List V}{ds:List D},Reps H (fun b=>U b/\¬B b) vs ds->lfs ds=true->Reps H U vs ds
 | _,_,.nil,_=>.nil
 | _,_,.cons r t,h=>by
  rw[lfs,AH] at h
  exact .cons (Rep.lf hB r h.1) (Reps.lf hB t h.2)
end
def lfT:Bool->D->Bool
 | true,.list ds=>lfs ds
 | _,d=>lf d
def eFA(fr:Bool)(F:List D->Res D)(m:Ev->Res (List D)):Ev->Res D:=fun ρ=>(m ρ).bind fun ds=>(F ds).bind fun d=>if lfT fr d then .ok d else .no
theorem VAs.lent{Oc:Wd}{Ob:Addr->Prop}{H:Hp}:∀{vs:List V}{ds:List D},VAs Oc Ob H vs ds->Reps H (fun b=>Uni Oc Ob b/\¬∃ys,H b=some (.lst ys)) vs ds
 | _,_,.nil=>.nil
 | _,_,.cons h t=>.cons (by
   rcases h with h | ⟨a,ys,ds,rfl,rfl,e3,e5⟩
   ·exact h.less fun b z=>z.1
   ·exact .lst (.inl e3) (fun z=>z.2 ⟨ys,e3⟩) (e5.less fun b z=>z.1)) (VAs.lent t)
def i2(f:Int->Int->Option Int):D->D->Option D
 | .int i,.int j=>(f i j).map PyData.int
 | _,_=>none
theorem yR6{f:Int->Int->Option Int}{x y d:D}(h:i2 f x y=some d):∃i j k,x=.int i/\y=.int j/\f i j=some k/\d=.int k:=by
 cases x with
 | int i =>
  cases y with
  | int j =>
   obtain⟨k,e,rfl⟩:=Av.mp (show (f i j).map PyData.int=some d from h)
   exact⟨i,j,k,rfl,rfl,e,rfl⟩
  | _=>cases h
 | _=>cases h
theorem xX6{C:Int->Int->Prop}{g:Int->Int->Int}{f:Int->Int->Option Int}(hf:∀i j k,f i j=some k->C i j/\k=g i j):Pr2 (rI C fun i j=>.int (g i j)) .cl (i2 f):=by
 intro Oc Ob H x y dx dy d Q oh vx vy e k
 obtain⟨i,j,n,rfl,rfl,ef,rfl⟩:=yR6 e
 obtain⟨hc,rfl⟩:=hf i j n ef
 exact⟨i,j,vx.int,vy.int,hc,k _ H (Same.refl H) (Rep.int _)⟩
theorem xR8{g:Int->Int->Int}:Pr2 (rI0 fun i j=>.int (g i j)) .cl (i2 fun i j=>some (g i j)):=by
 intro Oc Ob H x y dx dy d Q oh vx vy e k
 obtain⟨i,j,n,rfl,rfl,ef,rfl⟩:=yR6 e
 cases ef
 exact⟨i,j,vx.int,vy.int,k _ H (Same.refl H) (Rep.int _)⟩
abbrev addI:D->D->Option D:=i2 fun i j=>some (i+j)
abbrev subI:D->D->Option D:=i2 fun i j=>some (i-j)
def MulOk(i j:Int):Prop:=CMul i j\/(Small i/\Small j)
open Classical in
def mulO(i j:Int):Option Int:=if MulOk i j then some (i*j) else none
abbrev mulI:D->D->Option D:=i2 mulO
def DivOk(j:Int):Prop:=0<j/\j.natAbs.log2<9000
instance (j:Int):Decidable (DivOk j):=by unfold DivOk;infer_instance
def fdivO(i j:Int):Option Int:=if DivOk j then some (i / j) else none
def modO(i j:Int):Option Int:=if 0<j then some (i%j) else none
abbrev fdivI:D->D->Option D:=i2 fdivO
abbrev modI:D->D->Option D:=i2 modO
section
variable {X:Cx}
theorem yO9:OpR X (binaryOp .Mult) (rI MulOk fun i j=>.int (i*j)):=opI fun _ _ _ _ _ _ _ hc q=>mul_int q (hc.elim CMul.ok fun h=>.of_bits h.1.bits h.2.bits)
theorem wR:OpR X (binaryOp .FloorDiv) (rI (fun _ j=>DivOk j) fun i j=>.int (i / j)):=opI fun i j _ _ _ _ _ hc q=>by
 refine floordiv_int (by have:=hc.1;rfl') ?_ (.inl (PyProof.noPylong_of_log2 hc.2))
 rw[Int.fdiv_eq_ediv_of_nonneg _ (by have:=hc.1;rfl')]
 exact q
end
open Classical in
theorem yH2{i j k:Int}(h:mulO i j=some k):MulOk i j/\k=i*j:=by
 unfold mulO at h
 split at h
 ·cases h;exact⟨by assumption,rfl⟩
 ·cases h
theorem yN2{i j:Int}(h:MulOk i j):mulO i j=some (i*j):=by
 unfold mulO
 exact Am h
theorem yJ4{i j k:Int}(h:fdivO i j=some k):DivOk j/\k=i / j:=by
 unfold fdivO at h
 split at h
 ·cases h;exact⟨by assumption,rfl⟩
 ·cases h
theorem yE7{i j k:Int}(h:modO i j=some k):0<j/\k=i%j:=by
 unfold modO at h
 split at h
 ·cases h;exact⟨by assumption,rfl⟩
 ·cases h
theorem DivOk.small{j:Int}(h:0<j)(h2:j<1073741824):DivOk j:=by
 refine⟨h,?_⟩
 have h30:j.natAbs.log2<30:=(Nat.log2_lt (by rfl')).mpr (by rfl')
 rfl'
theorem MulOk.left{i j:Int}(h:-(2 ^ 64)<i)(h2:i<2 ^ 64):MulOk i j:=.inl (.inl ⟨h,h2⟩)
theorem MulOk.right{i j:Int}(h:-(2 ^ 64)<j)(h2:j<2 ^ 64):MulOk i j:=.inl (.inr ⟨h,h2⟩)
theorem wC:Pr2 (rI0 fun i j=>.int (i+j)) .cl addI:=xR8
theorem yE2:Pr2 (rI0 fun i j=>.int (i-j)) .cl subI:=xR8
theorem yF1:Pr2 (rI MulOk fun i j=>.int (i*j)) .cl mulI:=xX6 fun _ _ _ h=>yH2 h
theorem vD:Pr2 (rI (fun _ j=>DivOk j) fun i j=>.int (i / j)) .cl fdivI:=xX6 fun _ _ _ h=>yJ4 h
theorem kA:Pr2 (rI (fun _ j=>0<j) fun i j=>.int (i%j)) .cl modI:=xX6 fun _ _ _ h=>yE7 h
def c2(f:Int->Int->Bool):D->D->Option Bool
 | .int i,.int j=>some (f i j)
 | _,_=>none
theorem xY6{f:Int->Int->Bool}:PrB (rI0 fun i j=>.bl (f i j)) (c2 f):=by
 intro Oc Ob H x y dx dy b Q vx vy e k
 cases dx with
 | int i =>
  cases dy with
  | int j =>
   cases e
   exact⟨_,_,vx.int,vy.int,k⟩
  | _=>cases e
 | _=>cases e
abbrev ltI:D->D->Option Bool:=c2 fun i j=>decide (i<j)
abbrev leI:D->D->Option Bool:=c2 fun i j=>decide (i<=j)
abbrev gtI:D->D->Option Bool:=c2 fun i j=>decide (j<i)
theorem yN7:PrB (rI0 fun i j=>.bl (decide (i<j))) ltI:=xY6
theorem zQ6:PrB (rI0 fun i j=>.bl (decide (i<=j))) leI:=xY6
theorem zD2:PrB (rI0 fun i j=>.bl (decide (j<i))) gtI:=xY6
def eqD(x y:D):Option Bool:=if SeqAt.shaped x=true/\SeqAt.shaped y=true then some (PyData.eqv x y) else none
def neD(x y:D):Option Bool:=if SeqAt.shaped x=true/\SeqAt.shaped y=true then some (!PyData.eqv x y) else none
theorem zD6{K:KFr}:PrB (rEqD K false) eqD:=by
 intro Oc Ob H x y dx dy b Q vx vy e k
 unfold eqD at e
 split at e
 ·rename_i h
  cases e
  exact⟨dx,dy,vx.datS h.1,vy.datS h.2,h.1,h.2,k⟩
 ·cases e
theorem vA{K:KFr}:PrB (rEqD K true) neD:=by
 intro Oc Ob H x y dx dy b Q vx vy e k
 unfold neD at e
 split at e
 ·rename_i h
  cases e
  exact⟨dx,dy,vx.datS h.1,vy.datS h.2,h.1,h.2,k⟩
 ·cases e
def isND(neg:Bool):D->D->Option Bool
 | .none,.none=>some (!neg)
 | _,.none=>some neg
 | _,_=>none
theorem xZ9{Oc:Wd}{Ob:Addr->Prop}{H:Hp}{x:V}{d:D}(h:VA Oc Ob H x d):decide (x=.non)=(match d with | .none=>true | _=>false):=by
 rcases h with h | ⟨a,ys,ds,rfl,rfl,e3,e5⟩
 ·cases h <;> rfl
 ·rfl
theorem yL2:PrB (fun x y H Q=>y=.non/\Q (.bl (decide (x=.non))) H) (isND false):=by
 intro Oc Ob H x y dx dy b Q vx vy e k
 cases dy with
 | none =>
  refine⟨vy.none,?_⟩
  rw[xZ9 vx]
  cases dx <;> (simp only[isND] at e;cases e;exact k)
 | _=>cases dx <;> cases e
theorem zT7:PrB (fun x y H Q=>y=.non/\Q (.bl (!decide (x=.non))) H) (isND true):=by
 intro Oc Ob H x y dx dy b Q vx vy e k
 cases dy with
 | none =>
  refine⟨vy.none,?_⟩
  rw[xZ9 vx]
  cases dx <;> (simp only[isND] at e;cases e;exact k)
 | _=>cases dx <;> cases e
def flD:D->Bool
 | .none=>true
 | .bool _=>true
 | .int _=>true
 | .str _=>true
 | _=>false
def eqF:D->D->Bool
 | .none,.none=>true
 | .bool a,.bool b=>a == b
 | .bool a,.int b=>(if a then 1 else 0) == b
 | .int a,.bool b=>a == (if b then 1 else 0)
 | .int a,.int b=>a == b
 | .str a,.str b=>a == b
 | _,_=>false
theorem zT5{H:Hp}{O:Addr->Prop}{v:V}{d:D}(h:Rep H O v d)(f:flD d=true):flatV v=true:=by
 cases h <;> first | rfl | cases f
theorem xQ2{H:Hp}{O O':Addr->Prop}{v v':V}{d d':D}(h:Rep H O v d)(h':Rep H O' v' d')(f:flD d=true)(f':flD d'=true):eqV v v'=eqF d d':=by
 cases h <;> cases h' <;> first | rfl | cases f | cases f'
theorem aM{H:Hp}{O:Addr->Prop}:∀{vs:List V}{ds:List D},Reps H O vs ds->ds.all flD=true->vs.all flatV=true
 | _,_,.nil,_=>rfl
 | _,_,.cons h t,f=>by
  rw[Dh,AH] at f ⊢
  exact⟨zT5 h f.1,aM t f.2⟩
theorem zT8{H:Hp}{O O':Addr->Prop}{x:V}{dx:D}(hx:Rep H O' x dx)(fx:flD dx=true):∀{vs:List V}{ds:List D},Reps H O vs ds->ds.all flD=true->inV x vs=ds.any fun y=>eqF y dx
 | _,_,.nil,_=>rfl
 | _,_,.cons h t,f=>by
  rw[Dh,AH] at f
  have ih:=zT8 hx fx t f.2
  unfold inV at ih ⊢
  rw[Dj,Dj,ih,xQ2 h hx f.1 fx]
def inD(neg:Bool)(x y:D):Option Bool:=(seqD y).bind fun ds=>if flD x=true/\ds.all flD=true then some (if neg then !ds.any (fun z=>eqF z x) else ds.any fun z=>eqF z x) else none
theorem xM1{Oc:Wd}{Ob:Addr->Prop}{H:Hp}{x:V}{d:D}(h:VA Oc Ob H x d)(f:flD d=true):Rep H (Uni Oc Ob) x d:=by
 rcases h with h | ⟨a,ys,ds,rfl,rfl,e3,e5⟩
 ·exact h
 ·cases f
theorem yJ6{K:KFr}{neg:Bool}:PrB (rIn K neg) (inD neg):=by
 intro Oc Ob H x y dx dy b Q vx vy e k
 unfold inD at e
 obtain⟨ds,e1,e⟩:=AD.mp e
 split at e
 ·rename_i h
  cases e
  have rx:=xM1 vx h.1
  cases dy with
  | list ds' =>
   cases e1
   obtain⟨a,ys,rfl,rd,rs⟩:=vy.list
   refine⟨a,ys,rfl,.inl (.inl rd),zT5 rx h.1,aM rs h.2,?_⟩
   rw[zT8 rx h.1 rs h.2]
   exact k
  | tuple ds' =>
   cases e1
   obtain⟨a,ys,rfl,rd,rs⟩:=vy.tuple
   refine⟨a,ys,rfl,.inr (.inl rd),zT5 rx h.1,aM rs h.2,?_⟩
   rw[zT8 rx h.1 rs h.2]
   exact k
  | _=>cases e1
 ·cases e
def ixD:D->D->Option D
 | .list ds,.int i=>atI ds i
 | .tuple ds,.int i=>atI ds i
 | _,_=>none
theorem yV9{H:Hp}{O:Addr->Prop}{vs:List V}{ds:List D}{i:Int}{d:D}(r:Reps H O vs ds)(h:atI ds i=some d):∃v,atI vs i=some v/\Rep H O v d:=by
 unfold atI at h ⊢
 obtain⟨j,e1,e2⟩:=AD.mp h
 obtain⟨v,ev,rv⟩:=r.get e2
 refine⟨v,?_,rv⟩
 rw[r.length,e1]
 exact ev
theorem yA{K:KFr}:Pr2 (rIx K) .cl ixD:=by
 intro Oc Ob H x y dx dy d Q oh vx vy e k
 cases dx with
 | list ds =>
  cases dy with
  | int i =>
   obtain⟨a,ys,rfl,rd,rs⟩:=vx.list
   obtain⟨v,ev,rv⟩:=yV9 rs e
   exact .inl ⟨a,ys,i,v,rfl,vy.int,.inl rd,ev,k v H (Same.refl H) rv⟩
  | _=>cases e
 | tuple ds =>
  cases dy with
  | int i =>
   obtain⟨a,ys,rfl,rd,rs⟩:=vx.tuple
   obtain⟨v,ev,rv⟩:=yV9 rs e
   exact .inr (.inl ⟨a,ys,i,v,rfl,vy.int,.inl rd,ev,k v H (Same.refl H) rv⟩)
  | _=>cases e
 | _=>cases e
def rCatR:R2:=fun x y H Q=>∃l b xs zs,x=.ref l/\y=.ref b/\Rd H l (.lst xs)/\Rd H b (.lst zs)/\xs.length+zs.length<=sizeLine/\∀p,H p=none->Q (.ref p) (upd H p (.lst (xs++zs)))
theorem Rd.lstM{X:Cx}{DA:List (Addr×Obj)}{σ:St}{H:Hp}{s:Shared}{l:Addr}{xs:List V}(I:Inv X DA σ H s)(hH:Rd H l (.lst xs)):xs.length<=sizeLine/\∃(its:List Value) (n:Nat),Vals xs its/\xs.length=its.length/\s.heap.get? l=some { cls:=.type "list",data:=.seq its.toArray n }:=by
 obtain⟨z,its,n,r,e⟩:=hH.ok I.hok
 exact⟨z,its,n,r,r.length,e⟩
section
variable {X:Cx}
theorem cL:OpR X (binaryOp .Add) rCatR:=by
 intro DA s σ H x y v u Q I rx ry h
 obtain⟨l,b,xs,zs,rfl,rfl,hH,hB,hz,q⟩:=h
 cases rx
 cases ry
 obtain⟨z,its,n,r,hl,e⟩:=Rd.lstM I hH
 obtain⟨z2,its2,n2,r2,hl2,e2⟩:=Rd.lstM I hB
 refine PySem.P.add_list e e2 ?_ (by rw[As,As];rfl')
 have ea:its.toArray++its2.toArray=(its++its2).toArray:=by simp
 rw[ea]
 exact⟨.ref _,_,I.lnew (t':=s.toks) (r.append r2) (by rw[Aq];rfl'),rfl,q _ I.fresh⟩
def rRepR:R2:=fun x y H Q=>∃l k xs,x=.ref l/\y=.int k/\Rd H l (.lst xs)/\-(2 ^ 63)<=k/\k<2 ^ 63/\xs.length*k.toNat<=sizeLine /\
 ∀p,H p=none->Q (.ref p) (upd H p (.lst (List.replicate k.toNat xs).flatten))
theorem yN1:OpR X (binaryOp .Mult) rRepR:=by
 intro DA s σ H x y v u Q I rx ry h
 obtain⟨l,k,xs,rfl,rfl,hH,h1,h2,hz,q⟩:=h
 cases rx
 obtain⟨t,rfl⟩:=ry
 obtain⟨z,its,n,r,hl,e⟩:=Rd.lstM I hH
 have hlen:its.toArray.size*k.toNat<=sizeLine:=by rw[As,<-hl];exact hz
 have hcap:¬its.toArray.size*k.toNat > (2 ^ 63-1) / 8:=by
  have:(sizeLine:Nat)<=(2 ^ 63-1) / 8:=by decide
  rfl'
 have hfit:¬(!Builtin.List.listFitsIndex k)=true:=by
  rw[fitsIndex_both h1 h2]
  exact Ap
 have hlong:¬Builtin.List.listTooLong (its.toArray.size*k.toNat)=true:=by
  rw[notLongL hlen]
  exact Ap
 have hnew:List.foldl (fun x1 x2=>x1++x2) #[] (List.replicate (if its.toArray.isEmpty=true then 0 else k.toNat) its.toArray)=(List.replicate k.toNat its).flatten.toArray:=by
  have f0:∀m:Nat,List.foldl (fun x1 x2=>x1++x2) #[] (List.replicate m its.toArray)=(List.replicate m its).flatten.toArray:=fun m=>by
   have:=zJ6 its m []
   rw[Dn] at this
   exact this
  rw[f0]
  cases its with
  | nil=>simp
  | cons a r'=>rw[AG (by simp)]
 refine wpAny_binaryOp_repeat_ref (T:="list") (U:="int") (by decide) ⟨_,e,rfl⟩ (fun s'=>typeIs_int s' k t) noFill_list_mul F.fills_int_mul F.slot_int_rmul repeat_list F.slot_int_index.lookup
  (call_meets F.slot_int_rmul (typeIs_int s k t) F.entry_int_rmul (F.args_int_rmul_2 _ _) (int___rmul___int_list k t l its.toArray n)
   ⟨e,rfl,⟨_,e,rfl⟩,call_meets F.slot_list_mul ⟨_,e,rfl⟩ F.entry_list_mul (F.args_list_mul_2 _ _) (AutoListH.list___mul___list_int_3 l its.toArray n k t hfit hcap hlong) ⟨e,?_⟩⟩)
 rw[hnew]
 exact⟨.ref _,_,I.lnew (t':=s.toks) (r.rep k.toNat) (by rw[xL7,Nat.mul_comm];exact hz),rfl,q _ I.fresh⟩
end
def catL:D->D->Option D
 | .list xs,.list ys=>if xs.length+ys.length<=sizeLine then some (.list (xs++ys)) else none
 | _,_=>none
theorem yB9:Pr2 rCatR .new catL:=by
 intro Oc Ob H x y dx dy d Q oh vx vy e k
 cases dx with
 | list xs =>
  cases dy with
  | list ys =>
   obtain⟨a,vs,rfl,rd,rs⟩:=vx.list
   obtain⟨b,ws,rfl,rd',rs'⟩:=vy.list
   unfold catL at e
   simp only at e
   split at e
   ·rename_i hl
    cases e
    refine⟨a,b,vs,ws,rfl,rfl,rd,rd',by rw[rs.length,rs'.length];exact hl,fun p hp=>k _ _ (Same.new hp) (xB (Same.refl H) hp (rs.append rs'))⟩
   ·cases e
  | _=>cases e
 | _=>cases e
def repL:D->D->Option D
 | .list xs,.int k=>if -(2 ^ 63)<=k/\k<2 ^ 63/\xs.length*k.toNat<=sizeLine then some (.list (List.replicate k.toNat xs).flatten) else none
 | _,_=>none
theorem yC2:Pr2 rRepR .new repL:=by
 intro Oc Ob H x y dx dy d Q oh vx vy e k
 cases dx with
 | list xs =>
  cases dy with
  | int j =>
   obtain⟨a,vs,rfl,rd,rs⟩:=vx.list
   unfold repL at e
   simp only at e
   split at e
   ·rename_i hl
    cases e
    refine⟨a,j,vs,rfl,vy.int,rd,hl.1,hl.2.1,by rw[rs.length];exact hl.2.2,fun p hp=>k _ _ (Same.new hp) (xB (Same.refl H) hp (rs.rep _))⟩
   ·cases e
  | _=>cases e
 | _=>cases e
def lenD:List D->Option D
 | [d]=>(seqD d).map fun ds=>.int ds.length
 | _=>none
theorem xV{K:KFr}:PrC (fun xs H Q=>∃p ys,xs=[.ref p]/\(SqL K H p ys\/SqT K H p ys)/\Q (.int ys.length) H) .cl lenD:=by
 intro Oc Ob H vs ds d Q oh va e k
 cases ds with
 | nil=>cases e
 | cons x xs =>
  cases xs with
  | cons=>cases e
  | nil =>
   obtain⟨v,rfl,vx⟩:=va.one
   obtain⟨es,e1,rfl⟩:=Av.mp e
   cases x with
   | list ds' =>
    cases e1
    obtain⟨a,ys,rfl,rd,rs⟩:=vx.list
    exact⟨a,ys,rfl,.inl (.inl rd),k _ H (Same.refl H) (by rw[rs.length];exact Rep.int _)⟩
   | tuple ds' =>
    cases e1
    obtain⟨a,ys,rfl,rd,rs⟩:=vx.tuple
    exact⟨a,ys,rfl,.inr (.inl rd),k _ H (Same.refl H) (by rw[rs.length];exact Rep.int _)⟩
   | _=>cases e1
def tupD:List D->Option D
 | [d]=>(seqD d).map fun ds=>.tuple ds
 | _=>none
theorem kF{K:KFr}:PrC (fun xs H Q=>∃p ys,xs=[.ref p]/\((SqL K H p ys/\∀l,H l=none->Q (.ref l) (upd H l (.tup ys)))\/(SqT K H p ys/\Q (.ref p) H))) .cl tupD:=by
 intro Oc Ob H vs ds d Q oh va e k
 cases ds with
 | nil=>cases e
 | cons x xs =>
  cases xs with
  | cons=>cases e
  | nil =>
   obtain⟨v,rfl,vx⟩:=va.one
   obtain⟨es,e1,rfl⟩:=Av.mp e
   cases x with
   | list ds' =>
    cases e1
    obtain⟨a,ys,rfl,rd,rs⟩:=vx.list
    exact⟨a,ys,rfl,.inl ⟨.inl rd,fun l hl=>k _ _ (Same.new hl) (cU oh hl rs)⟩⟩
   | tuple ds' =>
    cases e1
    rcases vx with vx | ⟨a,ys,ds,rfl,ez,_⟩
    ·cases vx with
     | tup rd n rs=>exact⟨_,_,rfl,.inr ⟨.inl rd,k _ H (Same.refl H) (.tup rd n rs)⟩⟩
    ·cases ez
   | _=>cases e1
def intsOf:List D->Option (List Int)
 | []=>some []
 | .int i::ds=>(intsOf ds).map (i :: ·)
 | _::_=>none
@[simp] theorem intsOf_map:∀ns:List Int,intsOf (ns.map PyData.int)=some ns
 | []=>rfl
 | n::ns=>by rw[AF,intsOf,intsOf_map ns];rfl
theorem zV6:∀{ds:List D}{ns:List Int},intsOf ds=some ns->ds=ns.map PyData.int
 | [],ns,h=>by cases h;rfl
 | d::ds,ns,h=>by
  cases d with
  | int i =>
   obtain⟨ms,e,rfl⟩:=Av.mp (show (intsOf ds).map (i :: ·)=some ns from h)
   rw[zV6 e];rfl
  | _=>cases h
def nsD(d:D):Option (List Int):=(seqD d).bind intsOf
theorem zB3{K:KFr}{Oc:Wd}{Ob:Addr->Prop}{H:Hp}{x:V}{d:D}{ns:List Int}(h:VA Oc Ob H x d)(e:nsD d=some ns):∃p,x=.ref p/\(SqL K H p (ns.map V.int)\/SqT K H p (ns.map V.int)):=by
 obtain⟨ds,e1,e2⟩:=AD.mp e
 obtain rfl:=zV6 e2
 cases d with
 | list ds' =>
  cases e1
  obtain⟨a,ys,rfl,rd,rs⟩:=h.list
  rw[rs.ints] at rd
  exact⟨a,rfl,.inl (.inl rd)⟩
 | tuple ds' =>
  cases e1
  obtain⟨a,ys,rfl,rd,rs⟩:=h.tuple
  rw[rs.ints] at rd
  exact⟨a,rfl,.inr (.inl rd)⟩
 | _=>cases e1
def sortI(ns:List Int):List Int:=ns.mergeSort (fun a b=>decide (a<=b))
theorem bG(ns:List Int):(sortI ns).Perm ns:=List.mergeSort_perm _ _
theorem aV(ns:List Int):(sortI ns).Pairwise (· <= ·):=by
 have:=List.pairwise_mergeSort (le:=fun a b:Int=>decide (a<=b)) (fun a b c h1 h2=>by simp at *;rfl') (fun a b=>by simp;rfl') ns
 exact this.imp fun h=>by simpa using h
theorem yM2{as bs:List Int}(p:as.Perm bs)(ha:as.Pairwise (· <= ·))(hb:bs.Pairwise (· <= ·)):as=bs:=by
 induction as generalizing bs with
 | nil=>exact (List.nil_perm.mp p).symm
 | cons a as ih =>
  cases bs with
  | nil=>exact absurd p.symm (by intro h;have:=h.length_eq;simp at this)
  | cons b bs =>
   have h1:a<=b:=by
    have:b∈a::as:=p.symm.subset Ac
    rcases Aw.mp this with z | z
    ·rfl'
    ·exact (Ce.mp ha).1 b z
   have h2:b<=a:=by
    have:a∈b::bs:=p.subset Ac
    rcases Aw.mp this with z | z
    ·rfl'
    ·exact (Ce.mp hb).1 a z
   have e:a=b:=by rfl'
   subst e
   rw[ih (List.Perm.cons_inv p) (Ce.mp ha).2 (Ce.mp hb).2]
def sortD:List D->Option D
 | [d]=>(nsD d).bind fun ns=>if ns.length<64 then some (.list ((sortI ns).map PyData.int)) else none
 | _=>none
theorem xO9{K:KFr}:PrC (fun xs H Q=>∃(p:Addr) (ns:List Int),xs=[.ref p]/\(SqL K H p (ns.map V.int)\/SqT K H p (ns.map V.int))/\ns.length<64 /\
  ∀(l:Addr) (ms:List Int),H l=none->ms.Perm ns->ms.Pairwise (· <= ·)->Q (.ref l) (upd H l (.lst (ms.map V.int)))) .new sortD:=by
 intro Oc Ob H vs ds d Q oh va e k
 unfold sortD at e
 split at e
 ·obtain⟨ns,e1,e⟩:=AD.mp e
  split at e
  ·rename_i hl
   cases e
   obtain⟨v,rfl,vx⟩:=va.one
   obtain⟨p,rfl,hq⟩:=zB3 vx e1
   refine⟨p,ns,rfl,hq,hl,fun l ms hp h1 h2 => ?_⟩
   have:ms=sortI ns:=yM2 (h1.trans (bG ns).symm) h2 (aV ns)
   subst this
   exact k _ _ (Same.new hp) (xB (Same.refl H) hp (fA _))
  ·cases e
 ·cases e
def min2D:List D->Option D
 | [.int i,.int j]=>some (.int (if j<i then j else i))
 | _=>none
theorem yQ2:PrC (fun xs H Q=>∃i j,xs=[.int i,.int j]/\Q (.int (if j<i then j else i)) H) .cl min2D:=by
 intro Oc Ob H vs ds d Q oh va e k
 unfold min2D at e
 split at e
 ·cases e
  obtain⟨v,v',rfl,vx,vy⟩:=va.two
  obtain rfl:=vx.int
  obtain rfl:=vy.int
  exact⟨_,_,rfl,k _ H (Same.refl H) (Rep.int _)⟩
 ·cases e
def subTy(t T:String):Bool:=t == T || (t == "bool"&&T == "int")
structure Kit(K:KFr)(T:String):Prop where
 non:PySem.W.kitOne K (.type "NoneType") (.type T)=some (subTy "NoneType" T)
 bl:PySem.W.kitOne K (.type "bool") (.type T)=some (subTy "bool" T)
 int:PySem.W.kitOne K (.type "int") (.type T)=some (subTy "int" T)
 str:PySem.W.kitOne K (.type "str") (.type T)=some (subTy "str" T)
 lst:PySem.W.kitOne K (.type "list") (.type T)=some (subTy "list" T)
 tup:PySem.W.kitOne K (.type "tuple") (.type T)=some (subTy "tuple" T)
section
variable {X:Cx}
end
theorem zH9{s:Shared}{J:Addr}{hp h':Heap}(keep:∀b o,s.heap.get? b=some o->b≠J/\hp.get? b=some o)(hk:∀b o,b ∉ [J]->hp.get? b=some o->h'.get? b=some o):∀b o,s.heap.get? b=some o->h'.get? b=some o :=
 fun b o e=>hk b o (by simpa using (keep b o e).1) (keep b o e).2
theorem dP(xs:Array (Int×Tok)):(intItems xs).size=xs.size:=by simp[intItems]
section
variable {prog:Program}{w:World}{A:Around}{E:Value->Shared->Prop}{s:Shared}{l:Addr}{xs:Array (Int×Tok)}{Q:Value->Shared->Prop}
theorem xL9(hh:A.handled=none)(hl:s.heap.IsTuple l (intItems xs))(ne:0<xs.size)
  (k:∀v h' tk,(intItems xs)[argBest (fun i j=>decide (numAt xs i<numAt xs j)) (xs.size-1)]?=some v->(∀b o,s.heap.get? b=some o->h'.get? b=some o)->Q v { s with heap:=h',toks:=tk }):wpAny (model prog w) A (call (.builtin "min") [.ref l]) Q E s :=
 call_min_walk (yW3 (A:=A.in1) hh hl fun J hp St W st a b keep=>⟨_,_,_,_,_,_,_,rfl,W,st,by simp[a,b],by rw[dP];exact ne,.ints_lt (numAt xs) (fun _ _=>intItems_at),fun v h' tk at_ hk=>k v h' tk (by rw[dP] at at_;exact at_) (zH9 keep hk)⟩)
theorem xM4(hh:A.handled=none)(hl:s.heap.IsTuple l (intItems xs))(ne:0<xs.size)
  (k:∀v h' tk,(intItems xs)[argBest (fun i j=>decide (numAt xs i > numAt xs j)) (xs.size-1)]?=some v->(∀b o,s.heap.get? b=some o->h'.get? b=some o)->Q v { s with heap:=h',toks:=tk }):wpAny (model prog w) A (call (.builtin "max") [.ref l]) Q E s :=
 call_max_walk (yW3 (A:=A.in1) hh hl fun J hp St W st a b keep=>⟨_,_,_,_,_,_,_,rfl,W,st,by simp[a,b],by rw[dP];exact ne,.ints_gt (numAt xs) (fun _ _=>intItems_at),fun v h' tk at_ hk=>k v h' tk (by rw[dP] at at_;exact at_) (zH9 keep hk)⟩)
end
def minL:List Int->Int
 | []=>0
 | n::ns=>ns.foldl (fun a b=>if b<a then b else a) n
def maxL:List Int->Int
 | []=>0
 | n::ns=>ns.foldl (fun a b=>if b > a then b else a) n
theorem dU:∀(ns:List Int) (n:Int),(ns.foldl (fun a b=>if b<a then b else a) n=n\/ns.foldl (fun a b=>if b<a then b else a) n∈ns)/\ns.foldl (fun a b=>if b<a then b else a) n<=n/\∀m∈ns,ns.foldl (fun a b=>if b<a then b else a) n<=m
 | [],n=>⟨.inl rfl,Int.le_refl _,fun m h=>nomatch h⟩
 | b::ns,n=>by
  obtain⟨h1,h2,h3⟩:=dU ns (if b<n then b else n)
  rw[List.foldl_cons]
  refine⟨?_,?_,fun m hm => ?_⟩
  ·rcases h1 with h1 | h1
   ·rw[h1]
    split
    ·exact .inr Ac
    ·exact .inl rfl
   ·exact .inr (Ae _ h1)
  ·refine Int.le_trans h2 ?_
   split <;> rfl'
  ·rcases Aw.mp hm with rfl | hm
   ·refine Int.le_trans h2 ?_
    split <;> rfl'
   ·exact h3 m hm
theorem dJ:∀(ns:List Int) (n:Int),(ns.foldl (fun a b=>if b > a then b else a) n=n\/ns.foldl (fun a b=>if b > a then b else a) n∈ns)/\n<=ns.foldl (fun a b=>if b > a then b else a) n/\∀m∈ns,m<=ns.foldl (fun a b=>if b > a then b else a) n
 | [],n=>⟨.inl rfl,Int.le_refl _,fun m h=>nomatch h⟩
 | b::ns,n=>by
  obtain⟨h1,h2,h3⟩:=dJ ns (if b > n then b else n)
  rw[List.foldl_cons]
  refine⟨?_,?_,fun m hm => ?_⟩
  ·rcases h1 with h1 | h1
   ·rw[h1]
    split
    ·exact .inr Ac
    ·exact .inl rfl
   ·exact .inr (Ae _ h1)
  ·refine Int.le_trans ?_ h2
   split <;> rfl'
  ·rcases Aw.mp hm with rfl | hm
   ·refine Int.le_trans ?_ h2
    split <;> rfl'
   ·exact h3 m hm
theorem yY8{ns:List Int}(h:ns ≠ []):minL ns∈ns:=by
 cases ns with
 | nil=>exact absurd rfl h
 | cons n ns =>
  rcases (dU ns n).1 with e | e
  ·show List.foldl _ n ns∈_
   rw[e];exact Ac
  ·exact Ae _ e
theorem yS5{ns:List Int}{m:Int}(h:m∈ns):minL ns<=m:=by
 cases ns with
 | nil=>cases h
 | cons n ns =>
  rcases Aw.mp h with rfl | h
  ·exact (dU ns m).2.1
  ·exact (dU ns n).2.2 m h
theorem yV3{ns:List Int}(h:ns ≠ []):maxL ns∈ns:=by
 cases ns with
 | nil=>exact absurd rfl h
 | cons n ns =>
  rcases (dJ ns n).1 with e | e
  ·show List.foldl _ n ns∈_
   rw[e];exact Ac
  ·exact Ae _ e
theorem yR3{ns:List Int}{m:Int}(h:m∈ns):m<=maxL ns:=by
 cases ns with
 | nil=>cases h
 | cons n ns =>
  rcases Aw.mp h with rfl | h
  ·exact (dJ ns m).2.1
  ·exact (dJ ns n).2.2 m h
theorem yR2{xs:Array (Int×Tok)}{i:Nat}(h:i<xs.size):numAt xs i∈xs.toList.map (·.1):=by
 rw[numAt_eq]
 exact getD_mem (by simpa using h)
theorem yQ7{xs:Array (Int×Tok)}{a:Int}(h:a∈xs.toList.map (·.1)):∃i,i<xs.size/\a=numAt xs i:=by
 obtain⟨i,hi,e⟩:=mem_getD h
 exact⟨i,by simpa using hi,by rw[numAt_eq,e]⟩
theorem xV9{xs:Array (Int×Tok)}(h:0<xs.size):numAt xs (argBest (fun i j=>decide (numAt xs i<numAt xs j)) (xs.size-1))=minL (xs.toList.map (·.1)):=by
 have z:=argBest_lt (numAt xs) (xs.size-1)
 have m:=yR2 (xs:=xs) (i:=argBest (fun i j=>decide (numAt xs i<numAt xs j)) (xs.size-1)) (by rfl')
 obtain⟨i,hi,e⟩:=yQ7 (yY8 (List.ne_nil_of_mem m))
 have:=yS5 m
 have:=z.2 i (by rfl')
 rfl'
theorem xX1{xs:Array (Int×Tok)}(h:0<xs.size):numAt xs (argBest (fun i j=>decide (numAt xs i > numAt xs j)) (xs.size-1))=maxL (xs.toList.map (·.1)):=by
 have z:=argBest_gt (numAt xs) (xs.size-1)
 have m:=yR2 (xs:=xs) (i:=argBest (fun i j=>decide (numAt xs i > numAt xs j)) (xs.size-1)) (by rfl')
 obtain⟨i,hi,e⟩:=yQ7 (yV3 (List.ne_nil_of_mem m))
 have:=yR3 m
 have:=z.2 i (by rfl')
 rfl'
section
variable {X:Cx}
theorem yC6(hc:X.calm=true):CallR X (.builtin "min") (fun xs H Q=>∃(p:Addr) (ns:List Int),xs=[.ref p]/\(SqL X.K H p (ns.map V.int)\/SqT X.K H p (ns.map V.int))/\ns ≠ []/\Q (.int (minL ns)) H):=by
 intro DA s σ H xs us Q I r h
 obtain⟨p,ns,rfl,hq,hne,q⟩:=h
 obtain⟨u,rfl,ru⟩:=vals1 r
 cases ru
 have core:∀(its:List Value),Vals (ns.map V.int) its->∃xs:Array (Int×Tok),its.toArray=intItems xs/\ns=xs.toList.map (·.1):=fun its rv=>by
  have hi:IntsAre its ns:=bN rv
  obtain⟨xs,e⟩:=hi.allInts.items
  exact⟨xs,e,by rw[<-hi.numsOf,<-nums_intItems,<-e]⟩
 have fin:∀(xs:Array (Int×Tok)),ns=xs.toList.map (·.1)->0<xs.size->∀(v:Value) (h':Heap) (tk:Nat),(intItems xs)[argBest (fun i j=>decide (numAt xs i<numAt xs j)) (xs.size-1)]?=some v->(∀b o,s.heap.get? b=some o->h'.get? b=some o)->EP X DA σ Q v { s with heap:=h',toks:=tk }:=fun xs hns hsz v h' tk hv hk=>by
  obtain⟨t,rfl⟩:=intItems_at hv
  have e:=xV9 hsz
  rw[<-hns] at e
  exact⟨.int _,H,I.kept hk,⟨t,by rw[e]⟩,q⟩
 have sz:∀xs:Array (Int×Tok),ns=xs.toList.map (·.1)->0<xs.size:=fun xs hns=>by
  rcases Ds xs.size with z | z
  ·exact absurd (by rw[hns,Array.size_eq_zero_iff.mp z];rfl) hne
  ·exact z
 rcases hq with hq | hq
 ·obtain⟨its,rv,pl,hz⟩:=I.list hq
  obtain⟨xs,e,hns⟩:=core its rv
  exact min_intList (I.ok.hd hc) (by rw[<-e];exact pl.isList) (sz xs hns) (fin xs hns (sz xs hns))
 ·obtain⟨its,rv,pl,hz⟩:=I.tuple hq
  obtain⟨xs,e,hns⟩:=core its rv
  exact xL9 (I.ok.hd hc) (by rw[<-e];exact pl) (sz xs hns) (fin xs hns (sz xs hns))
theorem yF9(hc:X.calm=true):CallR X (.builtin "max") (fun xs H Q=>∃(p:Addr) (ns:List Int),xs=[.ref p]/\(SqL X.K H p (ns.map V.int)\/SqT X.K H p (ns.map V.int))/\ns ≠ []/\Q (.int (maxL ns)) H):=by
 intro DA s σ H xs us Q I r h
 obtain⟨p,ns,rfl,hq,hne,q⟩:=h
 obtain⟨u,rfl,ru⟩:=vals1 r
 cases ru
 have core:∀(its:List Value),Vals (ns.map V.int) its->∃xs:Array (Int×Tok),its.toArray=intItems xs/\ns=xs.toList.map (·.1):=fun its rv=>by
  have hi:IntsAre its ns:=bN rv
  obtain⟨xs,e⟩:=hi.allInts.items
  exact⟨xs,e,by rw[<-hi.numsOf,<-nums_intItems,<-e]⟩
 have fin:∀(xs:Array (Int×Tok)),ns=xs.toList.map (·.1)->0<xs.size->∀(v:Value) (h':Heap) (tk:Nat),(intItems xs)[argBest (fun i j=>decide (numAt xs i > numAt xs j)) (xs.size-1)]?=some v->(∀b o,s.heap.get? b=some o->h'.get? b=some o)->EP X DA σ Q v { s with heap:=h',toks:=tk }:=fun xs hns hsz v h' tk hv hk=>by
  obtain⟨t,rfl⟩:=intItems_at hv
  have e:=xX1 hsz
  rw[<-hns] at e
  exact⟨.int _,H,I.kept hk,⟨t,by rw[e]⟩,q⟩
 have sz:∀xs:Array (Int×Tok),ns=xs.toList.map (·.1)->0<xs.size:=fun xs hns=>by
  rcases Ds xs.size with z | z
  ·exact absurd (by rw[hns,Array.size_eq_zero_iff.mp z];rfl) hne
  ·exact z
 rcases hq with hq | hq
 ·obtain⟨its,rv,pl,hz⟩:=I.list hq
  obtain⟨xs,e,hns⟩:=core its rv
  exact max_intList (I.ok.hd hc) (by rw[<-e];exact pl.isList) (sz xs hns) (fin xs hns (sz xs hns))
 ·obtain⟨its,rv,pl,hz⟩:=I.tuple hq
  obtain⟨xs,e,hns⟩:=core its rv
  exact xM4 (I.ok.hd hc) (by rw[<-e];exact pl) (sz xs hns) (fin xs hns (sz xs hns))
end
def min1D:List D->Option D
 | [d]=>(nsD d).bind fun ns=>if ns=[] then none else some (.int (minL ns))
 | _=>none
def max1D:List D->Option D
 | [d]=>(nsD d).bind fun ns=>if ns=[] then none else some (.int (maxL ns))
 | _=>none
theorem xJ9{K:KFr}:PrC (fun xs H Q=>∃(p:Addr) (ns:List Int),xs=[.ref p]/\(SqL K H p (ns.map V.int)\/SqT K H p (ns.map V.int))/\ns ≠ []/\Q (.int (minL ns)) H) .cl min1D:=by
 intro Oc Ob H vs ds d Q oh va e k
 unfold min1D at e
 split at e
 ·obtain⟨ns,e1,e⟩:=AD.mp e
  split at e
  ·cases e
  ·rename_i hl
   cases e
   obtain⟨v,rfl,vx⟩:=va.one
   obtain⟨p,rfl,hq⟩:=zB3 vx e1
   exact⟨p,ns,rfl,hq,hl,k _ H (Same.refl H) (Rep.int _)⟩
 ·cases e
theorem xI4{K:KFr}:PrC (fun xs H Q=>∃(p:Addr) (ns:List Int),xs=[.ref p]/\(SqL K H p (ns.map V.int)\/SqT K H p (ns.map V.int))/\ns ≠ []/\Q (.int (maxL ns)) H) .cl max1D:=by
 intro Oc Ob H vs ds d Q oh va e k
 unfold max1D at e
 split at e
 ·obtain⟨ns,e1,e⟩:=AD.mp e
  split at e
  ·cases e
  ·rename_i hl
   cases e
   obtain⟨v,rfl,vx⟩:=va.one
   obtain⟨p,rfl,hq⟩:=zB3 vx e1
   exact⟨p,ns,rfl,hq,hl,k _ H (Same.refl H) (Rep.int _)⟩
 ·cases e
theorem hV{α β:Type}{F:α->β->Prop}:∀{as:List α}{bs:List β},as.length=bs.length->(∀(i:Nat) a b,as[i]?=some a->bs[i]?=some b->F a b)->Paired F as bs
 | [],[],_,_=>.nil
 | [],_::_,h,_=>by cases h
 | _::_,[],h,_=>by cases h
 | a::as,b::bs,h,f=>.cons (f 0 a b rfl rfl) (hV (Nat.succ.inj h) fun i x y hx hy=>f (i+1) x y (by simpa using hx) (by simpa using hy))
section
variable {X:Cx}
theorem yD6:CallR X (.type "range") (fun xs H Q=>∃j:Int,xs=[.int j]/\∀p,H p=none->Q (.ref p) (upd H p (.rng 0 j))):=by
 intro DA s σ H xs us Q I r h
 obtain⟨j,rfl,q⟩:=h
 obtain⟨u,rfl,t,rfl⟩:=vals1 r
 exact call_range_1 ⟨.ref s.heap.objs.size,_,I.laid (t':=s.toks+1+1) (o:=.rng 0 j) (fun b o e=>Al _ e) (Ai _) ⟨_,_,_,Az _ rfl⟩,rfl,q _ (I.hok.fresh (Ai _))⟩
theorem zF7(hc:X.calm=true):CallR X (.type "list") (fun xs H Q=>∃(p:Addr) (j:Int),xs=[.ref p]/\H p=some (.rng 0 j)/\-(2 ^ 62)<=j/\j.toNat<=1000000/\∀l,H l=none->Q (.ref l) (upd H l (.lst ((List.range j.toNat).map fun (i:Nat)=>V.int (i:Int))))):=by
 intro DA s σ H xs us Q I r h
 obtain⟨p,j,rfl,hp,hs,hj,q⟩:=h
 obtain⟨u,rfl,ru⟩:=vals1 r
 cases ru
 obtain⟨t,u,v,e⟩:=I.hok p _ hp
 refine call_list_range (n:=j.toNat) (I.ok.hd hc) e (small_one (by rfl') (by rfl') hs (by rfl')) ?_ (by rfl') fun h' tk acc' c' hk hS hacc => ?_
 ·rw[rangeSize_one];split <;> rfl'
 ·have hv:Vals ((List.range j.toNat).map fun (i:Nat)=>V.int (i:Int)) acc'.toList:=by
   obtain⟨h1,h2⟩:=hacc
   refine hV ?_ ?_
   ·rw[Aa,Au,BL,h1]
   ·intro i a b ha hb
    rw[Ak] at ha
    have hi:i<j.toNat:=by
     have:=(Aj.mp hb).1
     rw[BL,h1] at this
     exact this
    rw[Ay hi] at ha
    cases ha
    obtain⟨t,e⟩:=h2 i b (by simpa using hb)
    refine⟨t,?_⟩
    rw[e]
    simp
  refine⟨.ref s.heap.objs.size,_,I.laid (t':=tk) (o:=.lst ((List.range j.toNat).map fun (i:Nat)=>V.int (i:Int))) hk (Ai _) ⟨?_,acc'.toList,c',hv,by simpa using hS⟩,rfl,q _ (I.hok.fresh (Ai _))⟩
  rw[Aa,Au]
  exact Bw (Dr hj (by decide))
end
def rangeL:List D->Option D
 | [.int j]=>if -(2 ^ 62)<=j/\j.toNat<=1000000 then some (.list ((List.range j.toNat).map fun (i:Nat)=>PyData.int (i:Int))) else none
 | _=>none
theorem yG6{H:Hp}{O:Addr->Prop}(l:List Nat):Reps H O (l.map fun (i:Nat)=>V.int (i:Int)) (l.map fun (i:Nat)=>PyData.int (i:Int)):=by
 induction l with
 | nil=>exact .nil
 | cons a l ih=>exact .cons (.int _) ih
theorem yV7{C:Ct}{a:Expr}{p p2 pos pos2:Pos}{ms:Ev->Res (List D)}(hl:C.X.mg "list" = none)(hm:C.X.mg "range" = none)(ha:RArg C false [a] ms)(hc:autoParam (C.X.calm=true) Dz)(hgl:autoParam (Gl C.X "list") Dz)(hg:autoParam (Gl C.X "range") Dz)
  (hs:autoParam (starEach [a] C.X.env=(false,eval a C.X.env)::starEach [] C.X.env) Dz) (hs2:autoParam (starEach [.Call (.Name "range" p2) [a] [] pos2] C.X.env=(false,eval (.Call (.Name "range" p2) [a] [] pos2) C.X.env)::starEach [] C.X.env) Dz)
  (hpl:autoParam ((backTo pos (starEach [] C.X.env)).any (·.1)=false) Dz) (hpl2:autoParam ((backTo pos2 (starEach [] C.X.env)).any (·.1)=false) Dz) :
  RE C .new (.Call (.Name "list" p) [.Call (.Name "range" p2) [a] [] pos2] [] pos) (eB rangeL ms):=by
 obtain⟨t,pa,q⟩:=ha
 refine⟨_,uO (zF7 hc) hgl hl (by rfl) (zM (uO yD6 hg hm (by rfl) pa (by decide) (by decide) hs hpl2) zD hs2) (by decide) (by decide) hs2 hpl,fun Oc Ob σ H ρ Q R h=>q Oc Ob σ H ρ _ R (Res.zU (Res.zW h) (fun ds _ k vs H1 s1 r => ?_) fun _ z=>z)⟩
 obtain⟨d,e,k⟩:=Res.zC k
 unfold rangeL at e
 split at e
 ·split at e
  ·rename_i hb
   cases e
   obtain⟨v,rfl,va⟩:=VAs.one r
   obtain rfl:=va.int
   refine⟨_,rfl,fun p hp=>⟨p,_,rfl,zN,hb.1,hb.2,fun l hl => ?_⟩⟩
   exact k _ _ ((s1.trans (Same.new hp)).trans (Same.new hl)) (xB (s1.trans (Same.new hp)) hl (yG6 _))
  ·cases e
 ·cases e
section
variable {X:Cx}
def rExtR:V->List V->Hp->VK->Prop:=fun x vs H Q=>∃l b xs zs,x=.ref l/\vs=[.ref b]/\H l=some (.lst xs)/\(Rd H b (.lst zs)\/Rd H b (.tup zs))/\xs.length+zs.length<=sizeLine/\Q .non (upd H l (.lst (xs++zs)))
theorem xM3:MtM X "list.extend" rExtR:=by
 intro DA s σ H x vs v us Q I rx rv h
 obtain⟨l,b,xs,zs,rfl,rfl,hH,hB,hz,q⟩:=h
 cases rx
 obtain⟨u,rfl,ru⟩:=rv.one
 cases ru
 obtain⟨z,its,n,r,hl,e⟩:=I.lstM hH
 have len:(xs++zs).length<=sizeLine:=by rw[Aq];exact hz
 rcases hB with hB | hB
 ·obtain⟨z2,its2,n2,r2,hl2,e2⟩:=Rd.lstM I hB
  have hsz:its.toArray.size+its2.toArray.size<=sizeLine:=by rw[As,As];rfl'
  have hlong:¬(!its.toArray.isEmpty&&Builtin.List.listTooLong (its.toArray.size+its2.toArray.size))=true:=by
   rw[notLongL hsz,Bool.and_false]
   exact Ap
  refine call_meets F.slot_list_extend ⟨_,e,rfl⟩ F.entry_list_extend (F.args_list_extend_2 _ _)
   (AutoSeq1.list_extend_list_list_0 l its.toArray n b its2.toArray n2 hlong (by rw[As];rfl') (by rfl')) ⟨e,e2,?_⟩
  exact⟨.non,_,I.lset (its':=its++its2) hH e (by simp) (r.append r2) len,rfl,q⟩
 ·obtain⟨z2,its2,r2,o,ho,hc,⟨n2,hd⟩,_⟩:=hB.ok I.hok
  have hl2:=r2.length
  have hsz:its.toArray.size+its2.toArray.size<=sizeLine:=by rw[As,As];rfl'
  refine call_meets F.slot_list_extend ⟨_,e,rfl⟩ F.entry_list_extend (F.args_list_extend_2 _ _)
   (xQ3 hc hd hsz) ⟨e,ho,?_⟩
  exact⟨.non,_,I.lset (its':=its++its2) hH e (by simp) (r.append r2) len,rfl,q⟩
def insN(n:Nat)(x:Int):Nat:=if x<0 then (x+(n:Int)).toNat else min x.toNat n
def rInsert:V->List V->Hp->VK->Prop:=fun x vs H Q=>∃l xs i y,x=.ref l/\vs=[.int i,y]/\H l=some (.lst xs)/\-(2 ^ 63)<=i/\i<2 ^ 63/\xs.length<sizeLine/\Q .non (upd H l (.lst (xs.take (insN xs.length i)++y::xs.drop (insN xs.length i))))
theorem xY5:MtM X "list.insert" rInsert:=by
 intro DA s σ H x vs v us Q I rx rv h
 obtain⟨l,xs,i,y,rfl,rfl,hH,h1,h2,hz,q⟩:=h
 cases rx
 obtain⟨u,w',rfl,⟨t,rfl⟩,ry⟩:=rv.two
 obtain⟨z,its,n,r,hl,e⟩:=I.lstM hH
 refine call_meets F.slot_list_insert ⟨_,e,rfl⟩ F.entry_list_insert (F.args_list_insert_3 _ _ _) (AutoSeq1.list_insert_list_int_val_1 l its.toArray n i t w' (by rw[fitsIndex_both h1 h2];exact Ap) (by rw[As];rfl')) ⟨e,?_⟩
 refine⟨.non,_,I.lset (its':=its.take (insN its.length i)++w'::its.drop (insN its.length i)) hH e ?_ (by rw[hl];exact (r.take _).append (.cons ry (r.drop _))) ?_,rfl,q⟩
 ·show (its.toArray.extract 0 (if i<0 then (i+(its.toArray.size:Int)).toNat else min i.toNat its.toArray.size)).push w'++its.toArray.extract (if i<0 then (i+(its.toArray.size:Int)).toNat else min i.toNat its.toArray.size)=_
  rw[PySem.W.kl_ins_eq,As]
  rfl
 ·rw[Aq,AQ,Bo,BF]
  rfl'
end
def appD:List D->List D->Option (List D)
 | xs,[d]=>if xs.length<sizeLine then some (xs ++ [d]) else none
 | _,_=>none
def extD:List D->List D->Option (List D)
 | xs,[d]=>(seqD d).bind fun ys=>if xs.length+ys.length<=sizeLine then some (xs++ys) else none
 | _,_=>none
def insD:List D->List D->Option (List D)
 | xs,[.int i,d]=>if -(2 ^ 63)<=i/\i<2 ^ 63/\xs.length<sizeLine then some (xs.take (insN xs.length i)++d::xs.drop (insN xs.length i)) else none
 | _,_=>none
theorem Reps.one'{H:Hp}{O:Addr->Prop}{vs:List V}{d:D}(h:Reps H O vs [d]):∃v,vs=[v]/\Rep H O v d:=by
 cases h with
 | cons a t=>cases t;exact⟨_,rfl,a⟩
theorem Reps.two'{H:Hp}{O:Addr->Prop}{vs:List V}{d d':D}(h:Reps H O vs [d,d']):∃v v',vs=[v,v']/\Rep H O v d/\Rep H O v' d':=by
 cases h with
 | cons a t =>
  obtain⟨v,rfl,q⟩:=Reps.one' t
  exact⟨_,_,rfl,a,q⟩
theorem qB:PrM rAppend appD:=by
 intro O H l xs vs xd ad ds' Q hl rx ra e k
 unfold appD at e
 split at e
 ·split at e
  ·rename_i h
   cases e
   obtain⟨v,rfl,rv⟩:=Reps.one' ra
   exact⟨l,xs,v,rfl,rfl,hl,by rw[rx.length];exact h,k _ (rx.append (.one rv))⟩
  ·cases e
 ·cases e
theorem xZ2:PrM rInsert insD:=by
 intro O H l xs vs xd ad ds' Q hl rx ra e k
 unfold insD at e
 split at e
 ·split at e
  ·rename_i h
   cases e
   obtain⟨v,v',rfl,rv,rv'⟩:=Reps.two' ra
   cases rv
   refine⟨l,xs,_,v',rfl,rfl,hl,h.1,h.2.1,by rw[rx.length];exact h.2.2,?_⟩
   rw[rx.length]
   exact k _ (Reps.insert rv' _ rx)
  ·cases e
 ·cases e
section
variable {i j:Nat}{m n:Ev->Res Out}{t:Ev->Res Bool}{me mk:Ev->Res D}{ms mi:Ev->Res (List D)}{g:D->Ev->Option Ev}{f:List D->List D->Option (List D)}
end
def isL:Value->Bool
 | .type t=>t == "list"
 | _=>false
def noLst(K:KFr):Bool:=K.all fun p=>!isL p.2.cls
theorem yT5{K:KFr}{a:Addr}{o:Obj}(h:K.lookup a=some o):(a,o)∈K:=by
 have h:List.lookup a K=some o:=h
 induction K with
 | nil=>cases h
 | cons p r ih =>
  obtain⟨b,u⟩:=p
  rw[By] at h
  by_cases e:(a == b)=true
  ·simp only[e] at h
   cases h
   have:a=b:=by simpa using e
   rw[this]
   exact Ac
  ·simp only[e] at h
   exact Ae _ (ih h h)
theorem xB3{K:KFr}{H:Hp}{a:Addr}{xs:List V}(hn:noLst K=true)(h:SqL K H a xs):Rd H a (.lst xs):=by
 rcases h with h | ⟨o,its,n,hk,hc,_⟩
 ·exact h
 ·have:=AW.mp hn _ (yT5 hk)
  rw[hc] at this
  cases this
end L2.L3
namespace L2.L3
open PySem
section
variable (m n:Ev->Res Out) (t t':Ev->Res Bool) (a b c:Ev->Res D) (xs:Ev->Res (List D)) (ρ:Ev) (i j:Nat) (d:D)
theorem zN4:sN ρ=.ok (.nx ρ):=rfl
theorem bK:sQ m n ρ=(m ρ).bind fun o=>match o with | .nx ρ'=>n ρ' | .rt d=>.ok (.rt d):=rfl
theorem gC:sIf t m n ρ=(t ρ).bind fun k=>if k then m ρ else n ρ:=rfl
theorem zD3:sR a ρ=(a ρ).bind fun d=>.ok (.rt d):=rfl
theorem wZ8:sS i a ρ=(a ρ).bind fun d=>.ok (.nx (ρ.set i (some d))):=rfl
theorem wZ6:sE a ρ=(a ρ).bind fun _=>.ok (.nx ρ):=rfl
theorem xB7(g:List D->List D->Option (List D)):sM i g xs ρ=(eV i ρ).bind fun d=>(Res.lft (lstD d)).bind fun xd=>(xs ρ).bind fun ad=>(Res.lft (g xd ad)).bind fun ds=>.ok (.nx (ρ.set i (some (.list ds)))):=rfl
theorem xB6:sI i b a ρ=(a ρ).bind fun v=>(eV i ρ).bind fun d=>(Res.lft (lstD d)).bind fun xd=>(b ρ).bind fun k=>(Res.lft (setD xd k v)).bind fun ds=>.ok (.nx (ρ.set i (some (.list ds)))):=rfl
theorem wY6(g:D->Ev->Option Ev):sF xs g m ρ=(xs ρ).bind fun ds=>forM g m ds ρ:=rfl
theorem wZ2(k:Nat):sW k t m ρ=whM t m k ρ:=rfl
theorem kP:eC d ρ=.ok d:=rfl
theorem eV0(x:D)(r:Ev):eV 0 (some x::r)=.ok x:=rfl
theorem eVs(o:Option D)(r:Ev):eV (i+1) (o::r)=eV i r:=rfl
theorem wZ7(f:D->Option D):e1 f a ρ=(a ρ).bind fun x=>Res.lft (f x):=rfl
theorem zD4(f:D->D->Option D):e2 f a b ρ=(a ρ).bind fun x=>(b ρ).bind fun y=>Res.lft (f x y):=rfl
theorem kT(f:List D->Option D):eB f xs ρ=(xs ρ).bind fun ds=>Res.lft (f ds):=rfl
theorem xA5(f:List D->Res D):eF f xs ρ=(xs ρ).bind f:=rfl
theorem xC1(fr:Bool)(f:List D->Res D):eFA fr f xs ρ=(xs ρ).bind fun ds=>(f ds).bind fun d=>if lfT fr d then .ok d else .no:=rfl
theorem zO8(f:D->D->Option Bool):b2 f a b ρ=(a ρ).bind fun x=>(b ρ).bind fun y=>Res.lft (f x y):=rfl
theorem kI(f g:D->D->Option Bool):b3 f g a b c ρ=(a ρ).bind fun x=>(b ρ).bind fun y=>(Res.lft (f x y)).bind fun k=>if k then (c ρ).bind fun z=>Res.lft (g y z) else .ok false:=rfl
theorem zD7:vB t ρ=(t ρ).bind fun k=>.ok (.bool k):=rfl
theorem wY2:tV a ρ=(a ρ).bind fun d=>Res.lft (isB d):=rfl
theorem fL:tNt t ρ=(t ρ).bind fun k=>.ok (!k):=rfl
theorem xH7:tAn t t' ρ=(t ρ).bind fun k=>if k then t' ρ else .ok false:=rfl
theorem zO6:tO t t' ρ=(t ρ).bind fun k=>if k then .ok true else t' ρ:=rfl
theorem zO1:vAn a b ρ=(a ρ).bind fun d=>(Res.lft (isB d)).bind fun k=>if k then b ρ else .ok (.bool false):=rfl
theorem xB2:vO a b ρ=(a ρ).bind fun d=>(Res.lft (isB d)).bind fun k=>if k then .ok (.bool true) else b ρ:=rfl
theorem kN:aN ρ=.ok []:=rfl
theorem kU:aC a xs ρ=(a ρ).bind fun x=>(xs ρ).bind fun r=>.ok (x::r):=rfl
theorem xS9:iS a ρ=(a ρ).bind fun d=>Res.lft (seqD d):=rfl
theorem wY3(f:List D->Option (List D)):iR f xs ρ=(xs ρ).bind fun ds=>Res.lft (f ds):=rfl
theorem xV7(mi:Ev->Res (List D))(js:List Nat):eComp mi t a js ρ=(mi ρ).bind fun ds=>if ds.length<=sizeLine then (compM (fun x=>t (cEnv ρ js x)) (fun x=>a (cEnv ρ js x)) ds).bind fun out=>.ok (.list out) else .no:=rfl
theorem xB8(f:Int->Int->Option Int)(x y:Int):i2 f (.int x) (.int y)=(f x y).map PyData.int:=rfl
theorem kS(f:Int->Int->Bool)(x y:Int):c2 f (.int x) (.int y)=some (f x y):=rfl
theorem xN3(l:List D):lstD (.list l)=some l:=rfl
theorem zP9(l:List D):seqD (.list l)=some l:=rfl
theorem zP5(l:List D):seqD (.tuple l)=some l:=rfl
theorem zP2(k:Bool):isB (.bool k)=some k:=rfl
theorem jF:lenD [d]=(seqD d).map fun ds=>.int ds.length:=rfl
theorem xI2:tupD [d]=(seqD d).map fun ds=>.tuple ds:=rfl
theorem wZ4(l:List D)(k:Int):ixD (.list l) (.int k)=atI l k:=rfl
theorem wY5(l:List D)(k:Int):ixD (.tuple l) (.int k)=atI l k:=rfl
theorem xO5(k:Int):negD (.int k)=some (.int (-k)):=rfl
theorem zD5(k:Bool):bD (some k)=some (.bool k):=rfl
end
theorem zO9(fr:Bool)(d:D):fin fr (.rt d)=.ok d:=rfl
theorem xH3(ρ:Ev):fin false (.nx ρ)=.ok .none:=rfl
theorem vH{g:D->Ev->Option Ev}{b:Ev->Res Out}(P:Nat->Ev->Prop)(ds:List D)(ρ:Ev)(h0:P 0 ρ)(hs:∀(i:Nat) d ρ,ds[i]?=some d->P i ρ->∃ρ1 ρ2,g d ρ=some ρ1/\b ρ1=.ok (.nx ρ2)/\P (i+1) ρ2) :
  ∃ρ',forM g b ds ρ=.ok (.nx ρ')/\P ds.length ρ':=by
 induction ds generalizing P ρ with
 | nil=>exact⟨ρ,rfl,h0⟩
 | cons d ds ih =>
  obtain⟨ρ1,ρ2,e1,e2,p⟩:=hs 0 d ρ rfl h0
  obtain⟨ρ',e,p'⟩:=ih (fun i=>P (i+1)) ρ2 p fun i d ρ hd hp=>hs (i+1) d ρ (by simpa using hd) hp
  refine⟨ρ',?_,by simpa using p'⟩
  rw[forM,e1,Res.lft_some,Res.bind_ok,e2,Res.bind_ok]
  exact e
theorem yC9{t:Ev->Res Bool}{b:Ev->Res Out}(P:Nat->Ev->Prop)(n:Nat):∀(fuel:Nat) (ρ:Ev),P 0 ρ->(∀i ρ,i<n->P i ρ->t ρ=.ok true/\∃ρ2,b ρ=.ok (.nx ρ2)/\P (i+1) ρ2)->(∀ρ,P n ρ->t ρ=.ok false)->n<fuel->∃ρ',whM t b fuel ρ=.ok (.nx ρ')/\P n ρ':=by
 induction n generalizing P with
 | zero =>
  intro fuel ρ h0 _ he hf
  obtain⟨f,rfl⟩:∃f,fuel=f+1:=⟨fuel-1,by rfl'⟩
  refine⟨ρ,?_,h0⟩
  rw[whM,he ρ h0]
  rfl
 | succ n ih =>
  intro fuel ρ h0 hs he hf
  obtain⟨f,rfl⟩:∃f,fuel=f+1:=⟨fuel-1,by rfl'⟩
  obtain⟨e1,ρ2,e2,p⟩:=hs 0 ρ (Nat.succ_pos _) h0
  obtain⟨ρ',e,p'⟩:=ih (fun i=>P (i+1)) f ρ2 p (fun i ρ hi hp=>hs (i+1) ρ (by rfl') hp) he (by rfl')
  refine⟨ρ',?_,p'⟩
  rw[whM,e1,Res.bind_ok,Am rfl,e2,Res.bind_ok]
  exact e
theorem zF5{t:D->Res Bool}{f:D->Res D}{α:Type}(A:α->D)(p:α->Bool)(q:α->D):∀(xs:List α),(∀x∈xs,t (A x)=.ok (p x))->(∀x∈xs,p x=true->f (A x)=.ok (q x))->compM t f (xs.map A)=.ok ((xs.filter p).map q)
 | [],_,_=>rfl
 | x::xs,ht,hf=>by
  have ih:=zF5 A p q xs (fun y hy=>ht y (Ae _ hy)) (fun y hy=>hf y (Ae _ hy))
  rw[AF,compM,ht x Ac]
  cases hp:p x with
  | false=>simp only[noEx,Res.bind_ok,AB,if_false,List.filter_cons,hp];exact ih
  | true =>
   rw[hf x Ac hp,ih]
   simp[noEx,List.filter_cons,hp]
abbrev tI(ns:List Int):D:=.tuple (ns.map PyData.int)
abbrev lI(ns:List Int):D:=.list (ns.map PyData.int)
theorem uH{α β:Type}(f:α->β)(xs:List α)(i:Int):atI (xs.map f) i=(atI xs i).map f:=by
 unfold atI
 rw[Aa]
 cases ixN xs.length i with
 | none=>rfl
 | some j=>simp
theorem uN{xs:List Int}{j:Nat}(h:j<xs.length):atI xs (j:Int)=some (xs.getD j 0):=by
 refine zK2 ?_
 rw[AO,Ah h]
 rfl
theorem yX9{ds:List D}(h:ds.length<=1000):mkL ds=some (.list ds):=by
 unfold mkL
 exact Am (Bw (small1000 h))
theorem xD7{ds:List D}(h:ds.length<=1000):mkT ds=some (.tuple ds):=by
 unfold mkT
 exact Am (Bw (small1000 h))
theorem mkL0:mkL []=some (.list []):=yX9 (by simp)
theorem mkL1(a:D):mkL [a]=some (.list [a]):=yX9 (by simp)
theorem mkL4(a b c d:D):mkL [a,b,c,d]=some (.list [a,b,c,d]):=yX9 (by simp)
theorem mkT2(a b:D):mkT [a,b]=some (.tuple [a,b]):=xD7 (by simp)
theorem cF{l:List D}{d:D}(h:l.length<=1000):appD l [d]=some (l ++ [d]):=Am (small1000 h)
theorem xY2{l k:List D}{d:D}(hd:seqD d=some k)(h:l.length+k.length<=1000):extD l [d]=some (l++k):=by
 show (seqD d).bind (fun ys=>if l.length+ys.length<=sizeLine then some (l++ys) else none)=_
 rw[hd]
 exact Am (Bw (small1000 h))
theorem xE2{l:List D}{d:D}{i:Int}(h0:0<=i)(h1:i<=l.length)(h:l.length<=1000):insD l [.int i,d]=some (l.take i.toNat++d::l.drop i.toNat):=by
 unfold insD
 simp only
 rw[Am ⟨by rfl',by rfl',small1000 h⟩]
 have e:insN l.length i=i.toNat:=by
  unfold insN
  rw[AG (by rfl')]
  rfl'
 rw[e]
theorem cQ{ds:List D}{r:Res D}(h:ds.length<=1000):(if ds.length<=sizeLine then r else .no)=r:=Am (Bw (small1000 h))
theorem jA{n:Nat}(h:n<=1000):rng1 [.int (n:Int)]=some ((List.range n).map fun (i:Nat)=>PyData.int (i:Int)):=by
 unfold rng1
 simp only
 rw[Am ⟨by rfl',by rfl'⟩,Be]
theorem zL4{n i:Nat}{d:D}(h:((List.range n).map fun (i:Nat)=>PyData.int (i:Int))[i]?=some d):i<n/\d=.int (i:Int):=by
 rw[Ak] at h
 by_cases hi:i<n
 ·rw[Ay hi] at h
  cases h
  exact⟨hi,rfl⟩
 ·rw[Bs (by simpa using hi)] at h
  cases h
theorem gY(i:Int):SeqAt.shaped (.int i)=true:=rfl
theorem zM6(i j:Int):PyData.eqv (.int i) (.int j)=decide (i=j):=by
 rw[PyData.eqv]
 exact Bool.beq_eq_decide_eq i j
theorem vG(i j:Int):eqD (.int i) (.int j)=some (decide (i=j)):=by
 unfold eqD
 rw[Am ⟨gY i,gY j⟩,zM6]
theorem xO(i j:Int):neD (.int i) (.int j)=some (!decide (i=j)):=by
 unfold neD
 rw[Am ⟨gY i,gY j⟩,zM6]
theorem xC4(ns ms:List Int):eqD (lI ns) (lI ms)=some (decide (ns=ms)):=by
 unfold eqD
 rw[Am ⟨zV3 ns,zV3 ms⟩,xO7]
theorem yF6(ns ms:List Int):neD (tI ns) (tI ms)=some (!decide (ns=ms)):=by
 unfold neD
 rw[Am ⟨aA ns,aA ms⟩,yQ1]
abbrev rows(rs:List (List Int)):D:=.list (rs.map tI)
theorem zT2:∀rs:List (List Int),PyData.canLayAll0 (rs.map tI)=true
 | []=>rfl
 | r::rs=>by
  rw[AF,PyData.canLayAll0,zT2 rs]
  simp[PyData.canLay0,PySem.W.ke_canLayAll0]
theorem yN8(rs:List (List Int)):PyData.depthAll (rs.map tI)<=3:=by
 induction rs with
 | nil=>exact Bb _
 | cons r rs ih =>
  simp only[AF,PyData.depthAll,PyData.depth,PySem.W.ke_depthAll]
  rfl'
theorem zU3(rs:List (List Int)):SeqAt.shaped (rows rs)=true:=by
 have h:=yN8 rs
 have h1:PyData.canLay0 (rows rs)=true:=by rw[PyData.canLay0];exact zT2 rs
 have h2:PyData.depth (rows rs)<=64:=by rw[PyData.depth];rfl'
 unfold SeqAt.shaped
 rw[h1,Ag h2]
 rfl
theorem yK6{α:Type}[DecidableEq α]{f:α->D}(h:∀a b,PyData.eqv (f a) (f b)=decide (a=b))(xs:List α):∀ys:List α,PyData.eqvAll (xs.map f) (ys.map f)=decide (xs=ys):=by
 induction xs with
 | nil=>intro ys;cases ys <;> simp[PyData.eqvAll]
 | cons a r ih =>
  intro ys
  cases ys with
  | nil=>simp[PyData.eqvAll]
  | cons b t =>
   rw[AF,AF,PyData.eqvAll,h,ih]
   simp[List.cons.injEq]
theorem yU7(rs qs:List (List Int)):PyData.eqvAll (rs.map tI) (qs.map tI)=decide (rs=qs):=yK6 (fun a b=>yQ1 a b) rs qs
theorem xT9(rs qs:List (List Int)):neD (rows rs) (rows qs)=some (!decide (rs=qs)):=by
 unfold neD
 rw[Am ⟨zU3 rs,zU3 qs⟩]
 congr 2
 rw[PyData.eqv]
 exact yU7 rs qs
theorem zW4{n m:Nat}(h:m<n):ixN n (m:Int)=some m:=by
 unfold ixN
 rw[Am (by rfl'),Am (by rfl'),Be]
theorem yF5{n m:Nat}(h:m<n)(f:Nat->D)(v:D):((List.range n).map f).set m v=(List.range n).map fun c=>if c=m then v else f c:=by
 apply CY
 intro i
 by_cases e:m=i
 ·subst e
  rw[Bx (by simpa using h),Ak,Ay h]
  simp
 ·rw[AU e,Ak,Ak]
  cases q:(List.range n)[i]? with
  | none=>rfl
  | some c =>
   have:c=i:=by
    have hi:=(Aj.mp q).1
    rw[Ay (by simpa using hi)] at q
    cases q;rfl
   subst this
   show some (f c)=some (if c=m then v else f c)
   rw[AG (fun z=>e z.symm)]
theorem yJ3{n m:Nat}(h:m<n)(f:Nat->D)(v:D):setD ((List.range n).map f) (.int (m:Int)) v=some ((List.range n).map fun c=>if c=m then v else f c):=by
 unfold setD
 simp only
 rw[Aa,Au,zW4 h,Bn,yF5 h]
theorem yY4(v:D)(n:Nat)(h:n<=1000):repL (.list [v]) (.int (n:Int))=some (.list (List.replicate n v)):=by
 unfold repL
 simp only
 rw[Am ⟨by rfl',by rfl',by rw[Bf,Be];exact Bw (small1000 (by rfl'))⟩,Be]
 congr 2
 induction n with
 | zero=>rfl
 | succ n ih=>rw[Bq,Bt,ih (by rfl'),Bq];rfl
theorem zF9{α:Type}(v:α)(n:Nat):List.replicate n v=(List.range n).map fun _=>v:=by
 apply CY
 intro i
 rw[BX,Ak]
 by_cases h:i<n
 ·rw[Am h,Ay h];rfl
 ·rw[AG h,Bs (by simpa using h)];rfl
theorem zG4{n m:Nat}(h:m<n)(f:Nat->D):atI ((List.range n).map f) (m:Int)=some (f m):=zK2 (by rw[Ak,Ay h];rfl)
theorem yK1{n:Nat}(h:n<=1000):rangeL [.int (n:Int)]=some (lI ((List.range n).map fun (i:Nat)=>(i:Int))):=by
 unfold rangeL
 simp only
 rw[Am ⟨by rfl',by rfl'⟩,Be]
 congr 2
 rw[AR]
 rfl
theorem xT5{ns:List Int}(h:ns.length<=63):sortD [lI ns]=some (lI (sortI ns)):=by
 unfold sortD
 simp only[nsD,seqD,AI,intsOf_map]
 rw[Am (by rfl')]
theorem yR5{ns:List Int}(h:ns ≠ []):min1D [tI ns]=some (.int (minL ns)):=by
 unfold min1D
 simp only[nsD,seqD,AI,intsOf_map]
 rw[AG h]
theorem xP8{ns:List Int}(h:ns ≠ []):min1D [lI ns]=some (.int (minL ns)):=by
 unfold min1D
 simp only[nsD,seqD,AI,intsOf_map]
 rw[AG h]
section
variable (i:Int) (b:Bool) (l:List D)
end
theorem xT8{mi:Ev->Res (List D)}{t:Ev->Res Bool}{me:Ev->Res D}{js:List Nat}{ρ:Ev}{α:Type}(A:α->D)(p:α->Bool)(q:α->D)(xs:List α)(h:mi ρ=.ok (xs.map A))(hl:xs.length<=1000)
  (ht:∀x∈xs,t (cEnv ρ js (A x))=.ok (p x)) (hf:∀x∈xs,p x=true->me (cEnv ρ js (A x))=.ok (q x)):eComp mi t me js ρ=.ok (.list ((xs.filter p).map q)):=by
 rw[xV7,h,Res.bind_ok,cQ (by rw[Aa];exact hl),zF5 A p q xs ht hf]
 rfl
theorem fF{mi:Ev->Res (List D)}{me:Ev->Res D}{js:List Nat}{ρ:Ev}{α:Type}(A:α->D)(q:α->D)(xs:List α)(h:mi ρ=.ok (xs.map A))(hl:xs.length<=1000)
  (hf:∀x∈xs,me (cEnv ρ js (A x))=.ok (q x)):eComp mi tYes me js ρ=.ok (.list (xs.map q)):=by
 rw[xT8 A (fun _=>true) q xs h hl (fun _ _=>rfl) (fun x hx _=>hf x hx),List.filter_eq_self.mpr fun _ _=>rfl]
end L2.L3
namespace L2.L3
theorem zS8{α:Type}(a:α)(l:List α):atI (a::l) 0=some a:=zK2 (j:=0) rfl
end L2.L3
namespace HT
open PySem PySem.Spec PyProof.Rows
section
variable {prog:Program}{w:World}{A:Around}{E:Value->Shared->Prop}{s:Shared}
theorem zW9{t sl:Addr}{items:Array Value}{vl vu:Value}{lo hi:Option Int}{Q:Value->Shared->Prop}(ht:IsTup s.heap t items)(hs:s.heap.IsSliceOf sl vl vu .none)(pl:IsPart vl lo)(pu:IsPart vu hi)
  (hw:sIx items.size 0 lo=0/\sIx items.size items.size hi=items.size) (h:Q (.ref t) s):wpAny (model prog w) A (getItem (.ref t) (.ref sl)) Q E s:=by
 obtain⟨os,hos,hcs,hds⟩:=id hs
 have hTs:s.TypeIs (.ref sl) "slice":=⟨os,hos,hcs⟩
 unfold getItem
 try with_reducible refine wpAny_holding ?_
 first | refine Ab (Ar ?_) | skip
 refine Ab (wpAny_sequenceKey ht.typeIs (by decide) ?_)
 refine Ab (wpAny_callSpecial?_slot (name:=Str.ofString "__getitem__") ht.typeIs BN
  (wpAny_call_entry BN ht.typeIs entry_tuple_getitem ?_ (args_tuple_getitem _ _)))
 show wpAny _ _ (Builtin.Tuple.tupleItemsOf (.ref t) >>= _) _ _ s
 refine Ab (tupleItemsOf_ ht ?_)
 refine Ab (wpAny_typeOf hTs ?_)
 rw[Am (by decide)]
 refine Ab (gB hs pl pu ?_)
 have hyes:(((sIx items.size 0 lo:Nat):Int) == 0&&(1:Int) == 1&&(sIx items.size items.size hi-sIx items.size 0 lo) == items.size)=true:=by
  rw[hw.1,hw.2]
  simp
 show wpAny _ _ (if (((sIx items.size 0 lo:Nat):Int) == 0&&(1:Int) == 1&&(sIx items.size items.size hi-sIx items.size 0 lo) == items.size)=true then _ else _) _ _ s
 rw[Am hyes]
 unfold Builtin.Tuple.tupleIsExact
 refine Ab (Ab (wpAny_typeOf ht.typeIs (Ar ?_)))
 rw[Am (by decide)]
 refine Ab (wpAny_rule ?_)
 exact Ar ⟨_,rfl,Ar h⟩
end
end HT
namespace L2.L3
open PySem PySem.Spec PyProof.Rows
variable [CN]
section
variable {X:Cx}
def rSlTA(K:KFr):V->Option Int->Option Int->Hp->VK->Prop:=fun x lo hi H Q=>∃a xs,x=.ref a/\SqT K H a xs/\HT.sIx xs.length 0 lo=0/\HT.sIx xs.length xs.length hi=xs.length/\Q (.ref a) H
theorem xO8:SlR X (rSlTA X.K):=by
 intro DA s σ H x v vl vu lo hi sl Q I rx hs pl pu h
 obtain⟨a,xs,rfl,hx,hw1,hw2,q⟩:=h
 cases rx
 obtain⟨its,r,ht,hz⟩:=I.tuple hx
 have hlen:its.toArray.size=xs.length:=by rw[As];exact r.length.symm
 refine⟨"tuple",_,BN.lookup,ht.typeIs,?_⟩
 exact HT.zW9 ht hs pl pu (by rw[hlen];exact⟨hw1,hw2⟩) ⟨.ref a,H,I,rfl,q⟩
end
def RO(C:Ct)(e:Option Expr)(m:Ev->Res (Option Int)):Prop :=
 ∃t,PO C.X e t/\∀(Oc:Wd) (Ob:Addr->Prop) (σ:St) (H:Hp) (ρ:Ev) (Q:Option Int->Hp->Prop),Rel Oc Ob C.om C.ln σ H ρ ->
  (m ρ).post (fun d=>∀H',Same H H'->Q d H') (fun c=>∀H',Same H H'->C.XE c H')->t σ H Q
def oN:Ev->Res (Option Int):=fun _=>.ok none
def isI:D->Option Int
 | .int i=>some i
 | _=>none
def oS(m:Ev->Res D):Ev->Res (Option Int):=fun ρ=>(m ρ).bind fun d=>(Res.lft (isI d)).bind fun i=>.ok (some i)
theorem zK7{C:Ct}:RO C none oN:=⟨_,xJ8,fun Oc Ob σ H ρ Q R h=>h H (Same.refl H)⟩
theorem jE{C:Ct}{e:Expr}{md:Md}{me:Ev->Res D}(h:RE C md e me):RO C (some e) (oS me):=by
 obtain⟨t,p,q⟩:=h
 refine⟨_,xP2 p,fun Oc Ob σ H ρ Q R h=>q Oc Ob σ H ρ _ R (Res.zU (Res.zW h) (fun d _ k v H' s r => ?_) fun _ z=>z)⟩
 obtain⟨i,e,k⟩:=Res.zC (Res.zW k)
 cases d with
 | int j=>cases e;exact⟨i,(r.va R.oh).int,k H' s⟩
 | _=>cases e
def eS(f:D->Option Int->Option Int->Option D)(m:Ev->Res D)(lo hi:Ev->Res (Option Int)):Ev->Res D:=fun ρ=>(m ρ).bind fun x=>(lo ρ).bind fun l=>(hi ρ).bind fun u=>Res.lft (f x l u)
def PrS(r:V->Option Int->Option Int->Hp->VK->Prop)(md:Md)(f:D->Option Int->Option Int->Option D):Prop :=
 ∀(Oc:Wd) (Ob:Addr->Prop) (H:Hp) (x:V) (dx:D) (lo hi:Option Int) (d:D) (Q:VK),(∀a,Oc a\/Ob a->H a≠none)->VA Oc Ob H x dx->f dx lo hi=some d->(∀v H',Same H H'->VR md Oc Ob H H' v d->Q v H')->r x lo hi H Q
theorem yY1{C:Ct}{e:Expr}{lo hi:Option Expr}{md mda:Md}{me:Ev->Res D}{ml mh:Ev->Res (Option Int)}{p2 pos:Pos}{r:V->Option Int->Option Int->Hp->VK->Prop}{f:D->Option Int->Option Int->Option D}(hr:SlR C.X r)(hp:PrS r md f)(he:RE C mda e me)(hl:RO C lo ml)(hu:RO C hi mh) :
  RE C md (.Subscript e (.Slice lo hi none p2) pos) (eS f me ml mh):=by
 obtain⟨t,p,q⟩:=he
 obtain⟨tl,pl,ql⟩:=hl
 obtain⟨th,ph,qh⟩:=hu
 refine⟨_,xT7 hr p pl ph,fun Oc Ob σ H ρ Q R h=>q Oc Ob σ H ρ _ R (Res.zU (Res.zW h) (fun d _ k v H1 s1 r => ?_) fun _ z=>z)⟩
 refine ql Oc Ob σ H1 ρ _ (R.same s1) (Res.zU (Res.zW k) (fun l _ k H2 s2 => ?_) fun c z H' s'=>z H' (s1.trans s'))
 refine qh Oc Ob σ H2 ρ _ ((R.same s1).same s2) (Res.zU (Res.zW k) (fun u _ k H3 s3 => ?_) fun c z H' s'=>z H' ((s1.trans s2).trans s'))
 obtain⟨d',e,k⟩:=Res.zC k
 have R3:=((R.same s1).same s2).same s3
 refine hp Oc Ob H3 v d l u d' Q R3.oh ((r.va R.oh).same (s2.trans s3)) e fun w H' s4 rw' => ?_
 exact k w H' (((s1.trans s2).trans s3).trans s4) (rw'.from ((s1.trans s2).trans s3))
def cutD{α:Type}(xs:List α)(lo hi:Option Int):List α:=(xs.drop (HT.sIx xs.length 0 lo)).take (HT.sIx xs.length xs.length hi-HT.sIx xs.length 0 lo)
theorem zH2{H:Hp}{O:Addr->Prop}{vs:List V}{ds:List D}(r:Reps H O vs ds)(lo hi:Option Int):Reps H O (cutV vs lo hi) (cutD ds lo hi):=by
 unfold cutV cutD
 rw[r.length]
 exact (r.drop _).take _
def slD:D->Option Int->Option Int->Option D
 | .list ds,lo,hi=>some (.list (cutD ds lo hi))
 | .tuple ds,lo,hi=>some (.tuple (cutD ds lo hi))
 | _,_,_=>none
theorem xQ8{α:Type}{xs:List α}{lo hi:Option Int}(h1:HT.sIx xs.length 0 lo=0)(h2:HT.sIx xs.length xs.length hi=xs.length):cutD xs lo hi=xs:=by
 unfold cutD
 rw[h1,h2,List.drop_zero,Nat.sub_zero,Bz]
theorem xH5{K:KFr}:PrS (fun x lo hi H Q=>rSlL K x lo hi H Q\/rSlT K x lo hi H Q\/rSlTA K x lo hi H Q) .cl slD:=by
 intro Oc Ob H x dx lo hi d Q oh va e k
 cases dx with
 | list ds =>
  cases e
  obtain⟨a,ys,rfl,rd,rs⟩:=va.list
  exact .inl ⟨a,ys,rfl,.inl rd,fun p hp=>k _ _ (Same.new hp) (VR.clean (xB (Same.refl H) hp (zH2 rs lo hi)) oh)⟩
 | tuple ds =>
  cases e
  rcases va with va | ⟨_,_,_,_,ez,_⟩
  ·cases va with
   | @tup a ys _ rd n rs =>
    by_cases hw:HT.sIx ys.length 0 lo=0/\HT.sIx ys.length ys.length hi=ys.length
    ·refine .inr (.inr ⟨a,ys,rfl,.inl rd,hw.1,hw.2,k _ H (Same.refl H) ?_⟩)
     rw[xQ8 (by rw[<-rs.length];exact hw.1) (by rw[<-rs.length];exact hw.2)]
     exact .tup rd n rs
    ·exact .inr (.inl ⟨a,ys,rfl,.inl rd,hw,fun p hp=>k _ _ (Same.new hp) (cU oh hp (zH2 rs lo hi))⟩)
  ·cases ez
 | _=>cases e
theorem zJ5{C:Ct}{e:Expr}{lo hi:Option Expr}{mda:Md}{me:Ev->Res D}{ml mh:Ev->Res (Option Int)}{p2 pos:Pos}(he:RE C mda e me)(hl:RO C lo ml)(hu:RO C hi mh):RE C .cl (.Subscript e (.Slice lo hi none p2) pos) (eS slD me ml mh):=yY1 (xQ7.or (xG2.or xO8)) xH5 he hl hu
theorem xE5{C:Ct}{fr:Bool}(i:Nat){x:Str}{a:Expr}{md:Md}{ma:Ev->Res D}{p' apos cpos pos:Pos}(ha:RE C md a ma)
  (hN:autoParam (C.X.N[i]?=some x) Dz) (ho:autoParam (C.om.contains i=true) Dz) (hv:autoParam (Vis C.X.env.scope x) Dv) (hd:autoParam ((x == ("__debug__":Str))=false) Dy) (hcd:autoParam ((x == ("__classdict__":Str))=false) Dy)
  (hbase:autoParam (attributeBase (.Name x p') "extend" C.X.env (eval (.Name x p') C.X.env)=eval (.Name x p') C.X.env) Dz)
  (hfew:((backTo cpos (starEach [a] C.X.env)).all (fun x=>!x.1)&&(backToKw cpos (keywordEach [] C.X.env)).all (fun x=>x.1.isSome)
  &&decide ([a].length+([]:List Keyword).length+(if ([]:List Keyword).isEmpty then 0 else 1)<30))=true:=by rfl)
  (hline:autoParam ((apos.endLine == cpos.line)=true) Dz) (hs:autoParam (starEach [a] C.X.env=(false,eval a C.X.env)::starEach [] C.X.env) Dz) (hplain:autoParam ((backTo cpos (starEach [] C.X.env)).any (·.1)=false) Dz)
  (hsw:autoParam (swapsWith (.Call (.Attribute (.Name x p') "extend" apos) [a] [] cpos) none pos.line C.X.env=pure false) Dz) :
  RS C fr (.Expr (.Call (.Attribute (.Name x p') "extend" apos) [a] [] cpos) pos) (sM i extD (aC ma aN)):=by
 obtain⟨t,p,q⟩:=ha
 refine⟨_,qA (dW BH PySem.F.slot_list_extend PySem.F.type_list_extend xM3 (fU hN hv hd hcd) (zM p zD hs) hbase hfew hline hs hplain) hsw,fun Oc Ob σ H ρ E R h => ?_⟩
 obtain⟨d,ed,k⟩:=gQ (Res.zW h)
 obtain⟨xd,ex,k⟩:=Res.zC (Res.zW k)
 obtain rfl:=fB ex
 obtain⟨v,qv,l,ys,ds,rfl,e2,e3,e4,e5⟩:=R.own i _ ed (jM ho)
 cases e2
 refine⟨_,qv,.inl ⟨rfl,_,SqL.of e3⟩,q Oc Ob σ H ρ _ R (Res.zU (Res.zW (Res.zW k)) (fun ad _ k w H' s r' => ?_) fun c z H' s=>z H' (Same.frm s))⟩
 obtain⟨ds',eg,k⟩:=Res.zC (Res.zW (show ((Res.lft (extD xd [ad])).bind fun ds=>Res.ok (Out.nx (ρ.set i (some (.list ds))))).post _ _ from k))
 obtain⟨zs,e1,eg⟩:=AD.mp (show (seqD ad).bind (fun ys=>if xd.length+ys.length<=sizeLine then some (xd++ys) else none)=some ds' from eg)
 split at eg
 ·rename_i hl
  cases eg
  have va:=r'.va R.oh
  have fin:∀(b:Addr) (ws:List V),(Rd H' b (.lst ws)\/Rd H' b (.tup ws))->Reps H' (Uni Oc Ob) ws zs->rExtR (.ref l) [.ref b] H' fun _ H1=>E.nx σ H1:=fun b ws rd rs=>by
   refine⟨l,b,ys,ws,rfl,rfl,s _ _ e3,rd,by rw[e5.length,rs.length];exact hl,?_⟩
   refine k _ _ Ob ((R.same s).write (jM ho) ed qv (s _ _ e3) e4 ((e5.same s).append rs)) (fun b o e n => ?_) fun b z=>.inl z
   rw[zO (fun z=>n (by subst z;exact e4))]
   exact s b o e
  cases ad with
  | list ds' =>
   cases e1
   obtain⟨b,ws,rfl,rd,rs⟩:=va.list
   exact fin b ws (.inl rd) rs
  | tuple ds' =>
   cases e1
   obtain⟨b,ws,rfl,rd,rs⟩:=va.tuple
   exact fin b ws (.inr rd) rs
  | _=>cases e1
 ·cases eg
section
variable (a:Ev->Res D) (l h:Ev->Res (Option Int)) (ρ:Ev) (f:D->Option Int->Option Int->Option D)
theorem wY7:eS f a l h ρ=(a ρ).bind fun x=>(l ρ).bind fun lo=>(h ρ).bind fun u=>Res.lft (f x lo u):=rfl
theorem wZ3:oN ρ=.ok none:=rfl
theorem xA7:oS a ρ=(a ρ).bind fun d=>(Res.lft (isI d)).bind fun i=>.ok (some i):=rfl
theorem xF1(i:Int):isI (.int i)=some i:=rfl
theorem xA4(ds:List D)(lo hi:Option Int):slD (.list ds) lo hi=some (.list (cutD ds lo hi)):=rfl
end
theorem zA9{α:Type}(xs:List α)(k:Nat):cutD xs (some (k:Int)) none=xs.drop k:=by
 unfold cutD
 rw[HT.zA4,HT.yR7]
 by_cases h:k<=xs.length
 ·rw[Nat.min_eq_left h,BZ (by rw[BF];rfl')]
 ·rw[Nat.min_eq_right (by rfl'),CZ (show xs.length<=k by rfl')]
  simp
end L2.L3
namespace L2.L3
open PySem
theorem yQ6(i:Int):∀ns:List Int,(ns.map PyData.int).any (fun z=>eqF z (.int i))=ns.contains i
 | []=>rfl
 | n::ns=>by
  rw[AF,Dj,yQ6 i ns,Cr]
  congr 1
  show (n == i)=(i == n)
  rw[Bool.eq_iff_iff]
  simp only[beq_iff_eq]
  exact eq_comm
theorem yO6:∀ns:List Int,(ns.map PyData.int).all flD=true
 | []=>rfl
 | n::ns=>by rw[AF,Dh,yO6 ns];rfl
theorem kY(neg:Bool)(i:Int)(ns:List Int):inD neg (.int i) (lI ns)=some (if neg then !ns.contains i else ns.contains i):=by
 unfold inD
 show (if flD (.int i)=true/\(ns.map PyData.int).all flD=true then _ else none)=_
 rw[Am ⟨rfl,yO6 ns⟩,yQ6]
theorem yS3{ns:List Int}(h:ns ≠ []):max1D [tI ns]=some (.int (maxL ns)):=by
 unfold max1D
 simp only[nsD,seqD,AI,intsOf_map]
 rw[AG h]
theorem xO1{ns:List Int}(h:ns ≠ []):max1D [lI ns]=some (.int (maxL ns)):=by
 unfold max1D
 simp only[nsD,seqD,AI,intsOf_map]
 rw[AG h]
theorem yQ3{α:Type}{g:D->Ev->Option Ev}{b:Ev->Res Out}{ds:List D}{ρ:Ev}{k:Out->Res α}{R:Res α}(P:Nat->Ev->Prop)(h0:P 0 ρ)(hs:∀(i:Nat) d ρ,ds[i]?=some d->P i ρ->∃ρ1 ρ2,g d ρ=some ρ1/\b ρ1=.ok (.nx ρ2)/\P (i+1) ρ2)
  (hd:∀ρ',P ds.length ρ'->k (.nx ρ')=R):(forM g b ds ρ).bind k=R:=by
 obtain⟨ρ',e,p⟩:=vH P ds ρ h0 hs
 rw[e,Res.bind_ok]
 exact hd ρ' p
theorem zX5{α β:Type}{g:D->Ev->Option Ev}{b:Ev->Res Out}{ds:List D}{ρ:Ev}{k:Out->Res α}{k':α->Res β}{R:Res β}(P:Nat->Ev->Prop)(h0:P 0 ρ)(hs:∀(i:Nat) d ρ,ds[i]?=some d->P i ρ->∃ρ1 ρ2,g d ρ=some ρ1/\b ρ1=.ok (.nx ρ2)/\P (i+1) ρ2)
  (hd:∀ρ',P ds.length ρ'->(k (.nx ρ')).bind k'=R):((forM g b ds ρ).bind k).bind k'=R:=by
 obtain⟨ρ',e,p⟩:=vH P ds ρ h0 hs
 rw[e,Res.bind_ok]
 exact hd ρ' p
theorem xG9{α β:Type}{t:Ev->Res Bool}{b:Ev->Res Out}{fuel:Nat}{ρ:Ev}{k:Out->Res α}{k':α->Res β}{R:Res β}(P:Nat->Ev->Prop)(n:Nat)(hf:n<fuel)(h0:P 0 ρ)(hs:∀i ρ,i<n->P i ρ->t ρ=.ok true/\∃ρ2,b ρ=.ok (.nx ρ2)/\P (i+1) ρ2)(he:∀ρ,P n ρ->t ρ=.ok false)
  (hd:∀ρ',P n ρ'->(k (.nx ρ')).bind k'=R):((whM t b fuel ρ).bind k).bind k'=R:=by
 obtain⟨ρ',e,p⟩:=yC9 P n fuel ρ h0 hs he hf
 rw[e,Res.bind_ok]
 exact hd ρ' p
end L2.L3
namespace L2
open PySem PySem.Spec PyProof.Rows
theorem yO4{X:Cx}{elt iter:Expr}{ifs:List Expr}{sc0 scope:Scope}{N0:List Str}{px py pos spos:Pos}{xt y:Str}{fs:List Str}{js:List Nat}{i:Nat}{wi:TI}{tt:Addr->List Addr->Shared->Hp->TT}{te:Addr->List Addr->Shared->Hp->TE}(S:CompScope sc0 scope N0 xt fs js)(h0:X.env.scope=sc0)(hN0:X.N=N0)(hc:X.calm=true)
  (hi:PI X (.Name xt px) iter wi) (ht:∀C fp s₂ H,PTs (cxComp X (xt::fs) scope C fp s₂ H) ifs (tt C fp s₂ H)) (he:∀C fp s₂ H,PE (cxComp X (xt::fs) scope C fp s₂ H) elt (te C fp s₂ H))
  (nd:X.N.Nodup) (hy:X.N[i]?=some y) (hl:Loc X.env.scope y) (hsw:swapsWith (.ListComp elt [⟨.Name xt px,iter,ifs,0⟩] scope pos) (some (.Name y py)) spos.line X.env=pure true)
  (hs:autoParam (∀x,foldedSetIterable iter X.env x=pure x) Dx) (hf:autoParam (X.fn y=true\/X.env.scope.names.lookup y=some .local) Dw) :
  PS X (.Assign [.Name y py] (.ListComp elt [⟨.Name xt px,iter,ifs,0⟩] scope pos) spos) (tAsg (tComp wi tt te js) (gName i)):=by
 intro DA s σ H E I h
 rw[exec_Assign_Name_used _ _ _ _ hsw]
 refine Ab (wpAny_standAt (Ab ?_))
 show wpAny _ X.A (do let _ <-comprehension (.ListComp elt [⟨.Name xt px,iter,ifs,0⟩] scope pos) scope X.env _ (newList []) false (eval iter X.env) (some (assign (.Name y py) X.env))) _ _ s
 refine Ab (thn (zF4 S h0 hN0 hc hi ht he hs (use:=some (assign (.Name y py) X.env)) (Qv:=fun _ s'=>SP X DA E .next s') I h fun s' C D Ha fl hI hns hC q => ?_) fun _ s' hq=>Ar (Ar hq))
 show wpAny (model X.prog X.w) X.A (assign (.Name y py) X.env (.ref D)) (fun _ s''=>∃m,s''.heap.Ns C m/\∀h',Heap.SameBut C s''.heap h'->SP X DA E .next { s'' with heap:=h' }) X.xe s'
 obtain⟨m,oC,es,ep,hgC,hdC,hrC⟩:=hns
 have I1:Inv X DA σ Ha s':=hI s'.heap ⟨rfl,fun b _=>rfl⟩
 have I2:Inv X (DA ++ [(C,oC)]) σ Ha s':=I1.xZ fun p hp=>by
  rcases AE.mp hp with z | z
  ·exact I1.pin p (Ad _ z)
  ·have:p=(C,oC):=by simpa using z
   subst this
   exact⟨hgC,hC.1,hC.2.1,hC.2.2.1,fun v z=>by rw[hdC] at z;cases z⟩
 refine wpAny_assign_Name (fV I2 nd hy hl (show RelV (.ref D) (.ref D) from rfl) (fun s'' I3 => ?_) hf)
 have hgC':=(I3.pin (C,oC) (Ad _ (Ad _ Ac))).1
 refine⟨m,⟨oC,es,ep,hgC',hdC,hrC⟩,fun h' hsb => ?_⟩
 have I4:Inv X DA (σ.set i (some (.ref D))) Ha s'':=I3.xZ fun p hp=>I3.pin p (Ad _ (AM _ hp))
 exact⟨_,Ha,Inv.turned (it:=C) (t':=s''.toks) I4 (fun b o hb e=>(hsb.2 b hb).trans e) hC.1 hC.2.1 hC.2.2.2.1 hC.2.2.2.2.1 hC.2.2.2.2.2,q⟩
end L2
namespace L2.L3
open PySem PySem.Spec PyProof.Rows
variable [CN]
end L2.L3
namespace L2
open PySem PySem.Spec PyProof.Rows
end L2
namespace L2.L3
open PySem PySem.Spec PyProof.Rows
variable [CN]
end L2.L3
namespace L2.L3
open PySem
theorem yH9{xs:List Int}{i:Int}{j:Nat}(e:i=(j:Int))(h:j<xs.length):atI (xs.map PyData.int) i=some (.int (xs.getD j 0)):=by
 rw[e,uH,uN h]
 rfl
theorem yU8{xs:List Int}{n:Nat}(h:xs.length=n+1):atI (xs.map PyData.int) (-1)=some (.int (xs.getD n 0)):=by
 rw[uH]
 unfold atI ixN
 rw[h,AG (by decide),Am (by rfl')]
 show (xs[((-1:Int)+((n+1:Nat):Int)).toNat]?).map _=_
 rw[show ((-1:Int)+((n+1:Nat):Int)).toNat=n by rfl',Ah (by rfl'),AO,Ah (by rfl')]
 rfl
theorem yO5{xs ys:List Int}(h:xs.length+ys.length<=1000):catL (lI xs) (lI ys)=some (lI (xs++ys)):=by
 unfold catL
 simp only
 rw[Aa,Aa,Am (Bw (small1000 h))]
 simp only[lI,AT]
end L2.L3
namespace L2.L3
open PySem
variable [CN]
section
variable {X:Cx}
end
end L2.L3
namespace L2.L3
open PySem PyProof.Rows
variable [CN]
section
variable {X:Cx}
end
section
variable {C:Ct}{fr:Bool}{md:Md}{e:Expr}{me:Ev->Res D}{pos:Pos}
end
section
variable {X:Cx}{DA:List (Addr×Obj)}{σ:St}{H:Hp}{s:Shared}{h':Heap}
theorem turned2{t':Nat}{e it:Addr}(I:Inv X DA σ H s)(k:∀b o,b≠e->b≠it->s.heap.get? b=some o->h'.get? b=some o)(fe:FpOk X DA H e)(fi:FpOk X DA H it):Inv X DA σ H { s with heap:=h',toks:=t' }:=by
 have nit:∀b u,H b=some u->b≠e/\b≠it:=fun b u q=>⟨fun z=>(by rw[z,fe.1] at q;cases q),fun z=>by rw[z,fi.1] at q;cases q⟩
 refine I.step (g':=s.gens) (d':=s.drawn) (ch:=[e,it]) (fun b hb => ?_) (fun b o _ _ hc q _=>k b o (fun z=>hc (by simp[z])) (fun z=>hc (by simp[z])) q) (fun b o _ _ hc q _=>⟨o.slots,k b o (fun z=>hc (by simp[z])) (fun z=>hc (by simp[z])) q⟩) (fun _ _ _ _ n=>n)
  (fun b o hc q=>⟨o,k b o (fun z=>hc (by simp[z])) (fun z=>hc (by simp[z])) q⟩) (fun _ _ q=>q) (fun _ _ _ q=>q) (fun b ps q=>⟨#[],by rw[q];simp⟩) (fun m hm => ?_) (fun b u q => ?_) I.bare
 ·have z:b=e\/b=it:=by simpa using hb
  rcases z with rfl | rfl
  ·obtain⟨f0,f1,f2,f3,f4,f5⟩:=fe
   exact⟨f3,f1,f4,f5⟩
  ·obtain⟨f0,f1,f2,f3,f4,f5⟩:=fi
   exact⟨f3,f1,f4,f5⟩
 ·obtain⟨o,es,ep,ho,r⟩:=hm
  exact⟨o,es,ep,k _ o (Bd fe.2.1) (Bd fi.2.1) ho,r⟩
 ·refine (I.hok b u q).stay (fun c v hc q' => ?_) (fun _ q=>q) fun _ _ q=>q
  have nc:c≠e/\c≠it:=by
   rcases hc with z | z
   ·rw[z];exact nit b u q
   ·exact nit c _ z
  exact k c v nc.1 nc.2 q'
end
def Ite(K:KFr)(a:Addr):It :=
 ⟨fun i H=>∃xs x,SqL K H a xs/\xs[i]?=some x,fun i H x H'=>∃t y,H t=none/\x=.ref t/\H'=upd H t (.tup [.int (i:Int),y])/\∀xs,SqL K H a xs->xs[i]?=some y,fun i H=>∃xs,SqL K H a xs/\xs.length<=i⟩
theorem yA9{P:Program}{w:World}{K:KFr}{es:List Expr}{x1:Nat}{tp:Pos}(a e it:Addr)(hne:e≠it):Turn P w K (.Tuple es x1 tp) (Ite K a) [e,it] e (fun i h=>(∃old,IsEnum h e it i old)/\h.IsListIter it a i) where
 mem:=by simp
 obj:=fun i h st b hb=>by
  obtain⟨⟨old,he⟩,o,ho,hc,hd⟩:=st
  have z:b=e\/b=it:=by simpa using hb
  rcases z with rfl | rfl
  ·exact⟨_,he,fun v z=>by cases z⟩
  ·exact⟨o,ho,fun v z=>by rw[hd] at z;cases z⟩
 keep:=fun i h h' st k=>⟨st.1.elim fun old he=>⟨old,k e (by simp) _ he⟩,st.2.at fun o q=>k it (by simp) o q⟩
 item:=by
  intro X hP hw hK hc i DA s σ H E I hf st hg
  subst hP hw hK
  obtain⟨xs,x,hq,hx⟩:=hg
  obtain⟨its,rv,p,hz⟩:=I.list hq
  obtain⟨u,hu,ru⟩:=rv.get hx
  obtain⟨⟨old,he⟩,hit⟩:=st
  have fe:=hf e (by simp)
  have fi:=hf it (by simp)
  refine wpAny_pyNext_enum_item he hit p.isList (x:=u) (by simpa using hu) hne fun h' ho hit' hT hsz hk=>⟨_,rfl,?_⟩
  have hfr:H s.heap.objs.size=none:=I.hok.fresh (Ai _)
  have I1:Inv X DA σ (upd H s.heap.objs.size (.tup [.int (i:Int),x])) { s with heap:=s.heap.push { cls:=.type "tuple",data:=.seq #[.int i s.toks,u] },toks:=s.toks+1 } :=
   I.laid (t':=s.toks+1) (fun b o q=>Al _ q) (Ai _) ⟨by show 2<=sizeLine;decide,[.int i s.toks,u],.cons ⟨_,rfl⟩ (.cons ru .nil),TupAt.new _ _⟩
  have lte:e<s.heap.objs.size:=Ao he
  have lti:it<s.heap.objs.size:=by obtain⟨_,q,_⟩:=hit;exact Ao q
  have fe1:FpOk X DA (upd H s.heap.objs.size (.tup [.int (i:Int),x])) e:=⟨by rw[zO (AL lte)];exact fe.1,fe.2⟩
  have fi1:FpOk X DA (upd H s.heap.objs.size (.tup [.int (i:Int),x])) it:=⟨by rw[zO (AL lti)];exact fi.1,fi.2⟩
  have I2:Inv X DA σ (upd H s.heap.objs.size (.tup [.int (i:Int),x])) { s with heap:=h',toks:=s.toks+1 }:=by
   refine turned2 (s:={ s with heap:=s.heap.push { cls:=.type "tuple",data:=.seq #[.int i s.toks,u] },toks:=s.toks+1 }) (h':=h') (t':=s.toks+1) I1 (fun b o b1 b2 q => ?_) fe1 fi1
   by_cases z:b=s.heap.objs.size
   ·subst z
    have q:(s.heap.push { cls:=.type "tuple",data:=.seq #[.int i s.toks,u] }).get? s.heap.objs.size=some o:=q
    rw[Az _ rfl] at q
    rw[hT];exact q
   ·have q:(s.heap.push { cls:=.type "tuple",data:=.seq #[.int i s.toks,u] }).get? b=some o:=q
    rw[Heap.get?_push_ne _ _ _ z] at q
    exact hk b o b1 b2 q
  refine wpAny_letOwnedTupleGo_enum ho fun h2 he2 hs2 => ?_
  refine⟨.ref s.heap.objs.size,_,turned2 (s:={ s with heap:=h',toks:=s.toks+1 }) (h':=h2) (t':=s.toks+1) I2 (fun b o b1 b2 q=>(hs2.2 b b1).trans q) fe1 fi1,rfl,⟨_,x,hfr,rfl,rfl,fun ys hy=>by rw[I.yX4 hy hq];exact hx⟩,⟨⟨_,he2⟩,hit'.at fun o q=>(hs2.2 it hne.symm).trans q⟩,fun b hb => ?_⟩
  have z:b=e\/b=it:=by simpa using hb
  rcases z with rfl | rfl
  ·exact fe1.1
  ·exact fi1.1
 done:=by
  intro X hP hw hK hc i DA s σ H E I hf st hg
  subst hP hw hK
  obtain⟨xs,hq,hx⟩:=hg
  obtain⟨its,rv,p,hz⟩:=I.list hq
  obtain⟨⟨old,he⟩,hit⟩:=st
  have hl:=rv.length
  exact wpAny_pyNext_enum_end (I.ok.hd hc) he hit p.isList (by simp;rfl') fun h' eb=>⟨rfl,turned2 (t':=s.toks) I (fun b o _ b2 q=>eb b o b2 q) (hf e (by simp)) (hf it (by simp))⟩
 self:=fun _ _ _ _ _ st h=>st.1.elim fun old he=>wpAny_pyIter_enum he h
end L2.L3
namespace PySem
section
variable {prog:Program}{w:World}{A:Around}{E:Value->Shared->Prop}{s:Shared}
theorem drawsT(hA:A.handled=none)(it t:Addr)(its:Array Value)(hne:it≠t):Draws prog w A it [it,t] its.size (fun i x=>its[i]?=some x) (fun i h=>h.IsTupleIter it t i/\h.IsTuple t its) where
 live:=fun i h st=>let ⟨o,q,_⟩:=st.1; ⟨o,q⟩
 frame:=fun i h h' st k=>⟨let ⟨o,q,r⟩:=st.1; ⟨o,k it (by simp) o q,r⟩,let ⟨o,q,r⟩:=st.2; ⟨o,k t (by simp) o q,r⟩⟩
 item:=fun i s Q E hi st hQ=>xU9 st.1 st.2 (v:=its[i]) (by simp[hi]) fun h' z sb=>hQ _ h' s.toks (by simp[hi]) ⟨z,let ⟨o,q,r⟩:=st.2; ⟨o,(sb.2 t (Bd hne)).trans q,r⟩⟩ sb
 done:=fun s Q E st hE=>yO7 hA st.1 st.2 (by simp) hE
theorem drawsE(hA:A.handled=none)(it t:Addr)(its:Array Value)(n:Nat)(hx:its[n]?=none)(hne:it≠t):Draws prog w A it [it,t] n (fun _ _=>False) (fun j h=>j=n/\h.IsTupleIter it t n/\h.IsTuple t its) where
 live:=fun i h st=>let ⟨o,q,_⟩:=st.2.1; ⟨o,q⟩
 frame:=fun i h h' st k=>⟨st.1,let ⟨o,q,r⟩:=st.2.1; ⟨o,k it (by simp) o q,r⟩,let ⟨o,q,r⟩:=st.2.2; ⟨o,k t (by simp) o q,r⟩⟩
 item:=fun i s Q E hi st hQ=>absurd st.1 (AL hi)
 done:=fun s Q E st hE=>yO7 hA st.2.1 st.2.2 hx hE
end
end PySem
namespace L2.L3
open PySem PyProof.Rows
variable [CN]
def Ith(K:KFr)(a:Addr):It :=
 ⟨fun i H=>∃xs x,SqT K H a xs/\xs[i]?=some x,fun i H x H'=>∃t y,H t=none/\x=.ref t/\H'=upd H t (.tup [.int (i:Int),y])/\∀xs,SqT K H a xs->xs[i]?=some y,fun i H=>∃xs,SqT K H a xs/\xs.length<=i⟩
theorem yM8{P:Program}{w:World}{K:KFr}{es:List Expr}{x1:Nat}{tp:Pos}(a e it:Addr)(hne:e≠it)(hia:it≠a)(hea:e≠a):Turn P w K (.Tuple es x1 tp) (Ith K a) [e,it] e (fun i h=>(∃old,IsEnum h e it i old)/\h.IsTupleIter it a i) where
 mem:=by simp
 obj:=fun i h st b hb=>by
  obtain⟨⟨old,he⟩,o,ho,hc,hd⟩:=st
  have z:b=e\/b=it:=by simpa using hb
  rcases z with rfl | rfl
  ·exact⟨_,he,fun v z=>by cases z⟩
  ·exact⟨o,ho,fun v z=>by rw[hd] at z;cases z⟩
 keep:=fun i h h' st k=>⟨st.1.elim fun old he=>⟨old,k e (by simp) _ he⟩,let ⟨o,q,r⟩:=st.2; ⟨o,k it (by simp) o q,r⟩⟩
 item:=by
  intro X hP hw hK hc i DA s σ H E I hf st hg
  subst hP hw hK
  obtain⟨xs,x,hq,hx⟩:=hg
  obtain⟨its,rv,p,hz⟩:=I.tuple hq
  obtain⟨u,hu,ru⟩:=rv.get hx
  obtain⟨⟨old,he⟩,hit⟩:=st
  have fe:=hf e (by simp)
  have fi:=hf it (by simp)
  have hlt:i<its.toArray.size:=by
   have:=(Aj.mp hu).1
   simpa using this
  refine wpAny_pyNext_enum_itemD (drawsT (show X.A.in1.handled=none from I.ok.hd hc) it a its.toArray hia) he ⟨hit,p⟩ hlt hne (by simp[hne,hea]) fun x' h' tk hP' ho hit' hT hsz hk=>⟨_,rfl,?_⟩
  have ex:x'=u:=by
   have h2:its.toArray[i]?=some u:=by simpa using hu
   have h3:its.toArray[i]?=some x':=hP'
   rw[h2] at h3
   exact (AX h3).symm
  subst ex
  have hfr:H s.heap.objs.size=none:=I.hok.fresh (Ai _)
  have I1:Inv X DA σ (upd H s.heap.objs.size (.tup [.int (i:Int),x])) { s with heap:=s.heap.push { cls:=.type "tuple",data:=.seq #[.int i tk,x'] },toks:=tk+1 } :=
   I.laid (t':=tk+1) (fun b o q=>Al _ q) (Ai _) ⟨by show 2<=sizeLine;decide,[.int i tk,x'],.cons ⟨_,rfl⟩ (.cons ru .nil),TupAt.new _ _⟩
  have lte:e<s.heap.objs.size:=Ao he
  have lti:it<s.heap.objs.size:=by obtain⟨_,q,_⟩:=hit;exact Ao q
  have fe1:FpOk X DA (upd H s.heap.objs.size (.tup [.int (i:Int),x])) e:=⟨by rw[zO (AL lte)];exact fe.1,fe.2⟩
  have fi1:FpOk X DA (upd H s.heap.objs.size (.tup [.int (i:Int),x])) it:=⟨by rw[zO (AL lti)];exact fi.1,fi.2⟩
  have I2:Inv X DA σ (upd H s.heap.objs.size (.tup [.int (i:Int),x])) { s with heap:=h',toks:=tk+1 }:=by
   refine turned2 (s:={ s with heap:=s.heap.push { cls:=.type "tuple",data:=.seq #[.int i tk,x'] },toks:=tk+1 }) (h':=h') (t':=tk+1) I1 (fun b o b1 b2 q => ?_) fe1 fi1
   by_cases z:b=s.heap.objs.size
   ·subst z
    have q:(s.heap.push { cls:=.type "tuple",data:=.seq #[.int i tk,x'] }).get? s.heap.objs.size=some o:=q
    rw[Az _ rfl] at q
    rw[hT];exact q
   ·have q:(s.heap.push { cls:=.type "tuple",data:=.seq #[.int i tk,x'] }).get? b=some o:=q
    rw[Heap.get?_push_ne _ _ _ z] at q
    exact hk b o b1 b2 q
  refine wpAny_letOwnedTupleGo_enum ho fun h2 he2 hs2 => ?_
  refine⟨.ref s.heap.objs.size,_,turned2 (s:={ s with heap:=h',toks:=tk+1 }) (h':=h2) (t':=tk+1) I2 (fun b o b1 b2 q=>(hs2.2 b b1).trans q) fe1 fi1,rfl,⟨_,x,hfr,rfl,rfl,fun ys hy=>by rw[I.zI4 hy hq];exact hx⟩,⟨⟨_,he2⟩,let ⟨o,q,r⟩:=hit'.1; ⟨o,(hs2.2 it hne.symm).trans q,r⟩⟩,fun b hb => ?_⟩
  have z:b=e\/b=it:=by simpa using hb
  rcases z with rfl | rfl
  ·exact fe1.1
  ·exact fi1.1
 done:=by
  intro X hP hw hK hc i DA s σ H E I hf st hg
  subst hP hw hK
  obtain⟨xs,hq,hx⟩:=hg
  obtain⟨its,rv,p,hz⟩:=I.tuple hq
  obtain⟨⟨old,he⟩,hit⟩:=st
  have hl:=rv.length
  exact wpAny_pyNext_enum_endD (drawsE (show X.A.in1.handled=none from I.ok.hd hc) it a its.toArray i (by simp;rfl') hia) he ⟨rfl,hit,p⟩ fun h' eb=>⟨rfl,turned2 (t':=s.toks) I (fun b o _ b2 q=>eb b o b2 q) (hf e (by simp)) (hf it (by simp))⟩
 self:=fun _ _ _ _ _ st h=>st.1.elim fun old he=>wpAny_pyIter_enum he h
def iEnum(K:KFr)(t:TA):TI:=fun σ H R=>t σ H fun vs H1=>∃a,vs=[.ref a]/\(((∃xs,SqL K H1 a xs)/\R (Ite K a) H1)\/((∃xs,SqT K H1 a xs)/\R (Ith K a) H1))
theorem xK1{X:Cx}{l:Expr}{ta:TA}{es:List Expr}{x1:Nat}{tp p pos:Pos}(hg:Gl X "enumerate")(hm:X.mg "enumerate" = none)(ha:PA X [l] ta)(hs:autoParam (starEach [l] X.env=[(false,eval l X.env)]) Dz):PI X (.Tuple es x1 tp) (.Call (.Name "enumerate" p) [l] [] pos) (iEnum X.K ta):=by
 intro DA s σ H R I h
 refine Call_ (cG I hg hm boot_enumerate (BJ (thn (ha pos DA s σ H _ I h) fun us s1 ⟨vs,H1,I1,r1,q1⟩ => ?_) hs rfl))
 obtain⟨a,e,q1⟩:=q1
 subst e
 obtain⟨u,rfl,ru⟩:=vals1 r1
 cases ru
 rcases q1 with ⟨⟨xs,hq⟩,q⟩ | ⟨⟨xs,hq⟩,q⟩
 ·obtain⟨its,rv,pl,hz⟩:=I1.list hq
  refine call_enumerate_list pl.isList fun h' he hit hsz hk => ?_
  refine wpAny_pyIter_enum he ?_
  refine⟨s1.heap.objs.size+1,[s1.heap.objs.size+1,s1.heap.objs.size],_,_,H1,rfl,I1.kept (t':=s1.toks) hk,yA9 a (s1.heap.objs.size+1) s1.heap.objs.size (Nat.succ_ne_self _),⟨⟨_,he⟩,hit⟩,fun b hb => ?_,q⟩
  have z:b=s1.heap.objs.size+1\/b=s1.heap.objs.size:=by simpa using hb
  rcases z with rfl | rfl
  ·exact I1.fpOk (by rfl') (I1.hok.fresh (by rfl'))
  ·exact I1.fpOk (Ai _) (I1.hok.fresh (Ai _))
 ·obtain⟨its,rv,pt,hz⟩:=I1.tuple hq
  have lta:a<s1.heap.objs.size:=by obtain⟨o,q,_⟩:=pt;exact Ao q
  refine xJ3 (oI:={ cls:=.type "tuple_iterator",data:=.fields #[.ref a,.int 0 0] }) rfl (fun B P E' z=>wpAny_pyIter_tuple (show s1.heap.IsTuple a its.toArray from pt) z) fun h' he h0 hk => ?_
  have hit:h'.IsTupleIter s1.heap.objs.size a 0:=⟨_,h0,rfl,rfl⟩
  refine wpAny_pyIter_enum he ?_
  refine⟨s1.heap.objs.size+1,[s1.heap.objs.size+1,s1.heap.objs.size],_,_,H1,rfl,I1.kept (t':=s1.toks) hk,yM8 a (s1.heap.objs.size+1) s1.heap.objs.size (Nat.succ_ne_self _) (Ck lta) (Ck (Nat.lt_succ_of_lt lta)),⟨⟨_,he⟩,hit⟩,fun b hb => ?_,q⟩
  have z:b=s1.heap.objs.size+1\/b=s1.heap.objs.size:=by simpa using hb
  rcases z with rfl | rfl
  ·exact I1.fpOk (by rfl') (I1.hok.fresh (by rfl'))
  ·exact I1.fpOk (Ai _) (I1.hok.fresh (Ai _))
def WalksO(Oc:Wd)(Ob:Addr->Prop)(J:It)(H1:Hp)(ds:List D):Prop :=
 ∀(H2:Hp) (Ob2:Addr->Prop),Frm Ob H1 H2->(∀b,Ob2 b->Ob b\/H1 b=none)->(∀a,Oc a\/Ob2 a->H2 a≠none)->∀i,(∀d,ds[i]?=some d->J.go i H2/\∀x H3,J.yld i H2 x H3->Same H2 H3/\Rep H3 (Uni Oc Ob2) x d)/\(ds.length<=i->J.stop i H2)
def RIo(C:Ct)(tg iter:Expr)(m:Ev->Res (List D)):Prop :=
 ∃wi,PI C.X tg iter wi/\∀(Oc:Wd) (Ob:Addr->Prop) (σ:St) (H:Hp) (ρ:Ev) (R:It->Hp->Prop),Rel Oc Ob C.om C.ln σ H ρ ->
  (m ρ).post (fun ds=>∀J H1,Same H H1->WalksO Oc Ob J H1 ds->R J H1) (fun c=>∀H',Same H H'->C.XE c H')->wi σ H R
section
variable {C:Ct}{fr:Bool}{body:List Stmt}{m:Ev->Res Out}{mi:Ev->Res (List D)}{g:D->Ev->Option Ev}{pos:Pos}
theorem zM9{tg iter:Expr}(hi:RIo C tg iter mi)(hg:RG C tg g)(hb:RSs C fr body m)(hp:autoParam (PassesOwn (model C.X.prog C.X.w) C.X.A C.X.env C.X.xe) autoK13._auto_1)(hc:autoParam (C.X.calm=true) Dz)
  (hs:autoParam (∀x,foldedSetIterable iter C.X.env x=pure x) Dx):RS C fr (.For tg iter body [] pos) (sF mi g m):=by
 obtain⟨wi,pi,qi⟩:=hi
 obtain⟨tg',pg,qg⟩:=hg
 obtain⟨tb,pb,qb⟩:=hb
 refine⟨_,yV2 hp hc pi pg pb hs,fun Oc Ob σ H ρ E R h=>qi Oc Ob σ H ρ _ R (Res.zU (Res.zW h) (fun ds _ k J H1 s1 wk => ?_) fun c z H' s=>z H' (Same.frm s))⟩
 refine⟨fun i mm σ' H'=>mm=ds.length-i/\i<=ds.length/\∃ρi Obi,Rel Oc Obi C.om C.ln σ' H' ρi/\Frm Ob H1 H'/\(∀b,Obi b->Ob b\/H1 b=none)/\SPost C fr Oc Obi H' E (forM g m (ds.drop i) ρi),
  ⟨_,rfl,Bb _,ρ,Ob,R.same s1,Same.frm (Same.refl _),fun b z=>.inl z,SPost.same s1 k⟩,?_⟩
 rintro i mm σ2 H2 ⟨rfl,hi,ρi,Obi,R2,f2,sb2,k2⟩
 obtain⟨w1,w2⟩:=wk H2 Obi f2 sb2 R2.oh i
 by_cases hlt:i<ds.length
 ·obtain⟨go,yl⟩:=w1 ds[i] (Ah hlt)
  have ed:ds.drop i=ds[i]::ds.drop (i+1):=Bp hlt
  rw[ed,forM] at k2
  obtain⟨ρ1,e1,k2⟩:=Res.zC (Res.zW k2)
  refine .inr ⟨go,fun σ' H'=>∃m',m'<ds.length-i/\(m'=ds.length-(i+1)/\i+1<=ds.length/\∃ρi Obi,Rel Oc Obi C.om C.ln σ' H' ρi/\Frm Ob H1 H'/\(∀b,Obi b->Ob b\/H1 b=none)/\SPost C fr Oc Obi H' E (forM g m (ds.drop (i+1)) ρi)),fun _ _ z=>z,fun x H3 hy => ?_⟩
  obtain⟨s3,rx⟩:=yl x H3 hy
  refine qg Oc Obi σ2 H3 ρi ρ1 x _ _ (R2.same s3) rx e1 fun σ3 R3 => ?_
  have k3:=SPost.same s3 (show SPost C fr Oc Obi H2 E _ from k2)
  refine qb Oc Obi σ3 H3 ρ1 _ R3 (Res.zU (Res.zW k3) (fun o _ k4 => ?_) fun _ z=>z)
  cases o with
  | rt d=>exact k4
  | nx ρ2 =>
   intro σ4 H4 Ob4 R4 f4 sb4
   have f3:Frm Ob H1 H3:=fun b o e n=>s3 b o (f2 b o e n)
   refine⟨_,by rfl',rfl,hlt,ρ2,Ob4,R4,f3.trans sb2 f4,fun b z=>(sb4 b z).elim (sb2 b) fun z=>f3.none z,SPost.step f4 sb4 k4⟩
 ·have ei:i=ds.length:=by rfl'
  subst ei
  rw[BR] at k2
  exact .inl ⟨w2 (Ai _),k2 σ2 H2 Obi R2 (Same.frm (Same.refl _)) fun b z=>.inl z⟩
def enumD(ds:List D):List D:=(List.range ds.length).map fun (i:Nat)=>PyData.tuple [.int (i:Int),ds.getD i .none]
def yJ(m:Ev->Res D):Ev->Res (List D):=fun ρ=>(m ρ).bind fun d=>(Res.lft (seqD d)).bind fun ds=>.ok (enumD ds)
theorem zR9{K:KFr}{Oc:Wd}{Ob:Addr->Prop}{H1:Hp}{a:Addr}{ys:List V}{ds:List D}(r:Rd H1 a (.lst ys))(n:¬Ob a)(rs:Reps H1 (Uni Oc Ob) ys ds):WalksO Oc Ob (Ite K a) H1 (enumD ds):=by
 intro H2 Ob2 f s oh i
 have r2:Rd H2 a (.lst ys):=vE r fun o e=>f a o e n
 have rs2:=rs.step f s
 have le:(enumD ds).length=ds.length:=by unfold enumD;simp
 refine⟨fun d e => ?_,fun h=>⟨ys,.inl r2,by rw[rs2.length];rw[le] at h;exact h⟩⟩
 unfold enumD at e
 rw[Ak] at e
 obtain⟨j,ej,rfl⟩:=Av.mp e
 have hi:i<ds.length:=by
  have:=(Aj.mp ej).1
  simpa using this
 rw[Ay hi] at ej
 cases ej
 have ed:ds[i]?=some (ds.getD i .none):=by rw[AO,Ah hi];rfl
 obtain⟨v,ev,rv⟩:=rs2.get ed
 refine⟨⟨ys,v,.inl r2,ev⟩,fun x H3 hy => ?_⟩
 obtain⟨t,y,ht,rfl,rfl,hy⟩:=hy
 have:=hy ys (.inl r2)
 rw[ev] at this
 cases this
 exact⟨Same.new ht,cU oh ht (.cons (.int _) (.cons rv .nil))⟩
theorem yU5{K:KFr}{Oc:Wd}{Ob:Addr->Prop}{H1:Hp}{a:Addr}{ys:List V}{ds:List D}(r:Rd H1 a (.tup ys))(n:¬Ob a)(rs:Reps H1 (Uni Oc Ob) ys ds):WalksO Oc Ob (Ith K a) H1 (enumD ds):=by
 intro H2 Ob2 f s oh i
 have r2:Rd H2 a (.tup ys):=vE r fun o e=>f a o e n
 have rs2:=rs.step f s
 have le:(enumD ds).length=ds.length:=by unfold enumD;simp
 refine⟨fun d e => ?_,fun h=>⟨ys,.inl r2,by rw[rs2.length];rw[le] at h;exact h⟩⟩
 unfold enumD at e
 rw[Ak] at e
 obtain⟨j,ej,rfl⟩:=Av.mp e
 have hi:i<ds.length:=by
  have:=(Aj.mp ej).1
  simpa using this
 rw[Ay hi] at ej
 cases ej
 have ed:ds[i]?=some (ds.getD i .none):=by rw[AO,Ah hi];rfl
 obtain⟨v,ev,rv⟩:=rs2.get ed
 refine⟨⟨ys,v,.inl r2,ev⟩,fun x H3 hy => ?_⟩
 obtain⟨t,y,ht,rfl,rfl,hy⟩:=hy
 have:=hy ys (.inl r2)
 rw[ev] at this
 cases this
 exact⟨Same.new ht,cU oh ht (.cons (.int _) (.cons rv .nil))⟩
theorem uL{e:Expr}{ma:Ev->Res D}{es:List Expr}{x1:Nat}{tp p pos:Pos}(hm:C.X.mg "enumerate" = none)(h:RE C .rd e ma)(hg:autoParam (Gl C.X "enumerate") Dz)(hs:autoParam (starEach [e] C.X.env=[(false,eval e C.X.env)]) Dz)(hs2:autoParam (starEach [e] C.X.env=(false,eval e C.X.env)::starEach [] C.X.env) Dz):RIo C (.Tuple es x1 tp) (.Call (.Name "enumerate" p) [e] [] pos) (yJ ma):=by
 obtain⟨t,pe,q⟩:=h
 refine⟨_,xK1 hg hm (zM pe zD hs2) hs,fun Oc Ob σ H ρ W R h=>q Oc Ob σ H ρ _ R (Res.zU (Res.zW h) (fun d _ k v H' s r => ?_) fun _ z=>z)⟩
 obtain⟨ds,e,k⟩:=Res.zC (Res.zW k)
 rcases r with r | ⟨a,ys,ds',rfl,rfl,e3,e4,e5⟩
 ·cases r with
  | lst r n t=>cases e;exact⟨_,rfl,.inl ⟨⟨_,.inl r⟩,k _ H' s (zR9 r (fun z=>n (.inr z)) t)⟩⟩
  | tup r n t=>cases e;exact⟨_,rfl,.inr ⟨⟨_,.inl r⟩,k _ H' s (yU5 r (fun z=>n (.inr z)) t)⟩⟩
  | _=>cases e
 ·cases e
  exact⟨_,rfl,.inl ⟨⟨_,SqL.of e3⟩,k _ H' s (zR9 (.inl e3) e4 e5)⟩⟩
end
theorem zL6(m:Ev->Res D)(ρ:Ev):yJ m ρ=(m ρ).bind fun d=>(Res.lft (seqD d)).bind fun ds=>.ok (enumD ds):=rfl
end L2.L3
namespace PySem
section
variable {prog:Program}{w:World}{A:Around}{E:Value->Shared->Prop}{s:Shared}
end
end PySem
namespace L2.L3
open PySem PySem.Spec PyProof.Rows
variable [CN]
def sA(me:Ev->Res D)(g:D->Ev->Option Ev):Ev->Res Out:=fun ρ=>(me ρ).bind fun d=>(Res.lft (g d ρ)).bind fun ρ'=>.ok (.nx ρ')
theorem wZ1(me:Ev->Res D)(g:D->Ev->Option Ev)(ρ:Ev):sA me g ρ=(me ρ).bind fun d=>(Res.lft (g d ρ)).bind fun ρ'=>.ok (.nx ρ'):=rfl
theorem xM2{C:Ct}{fr:Bool}{e tg:Expr}{pos:Pos}{me:Ev->Res D}{g:D->Ev->Option Ev}(he:RE C .cl e me)(hg:RG C tg g)(hs:autoParam (swapsWithSole [tg] e pos.line C.X.env=pure false) Dz)(hw:autoParam (swappedStores [tg] e C.X.env=pure none) Dz)
  (h1:autoParam ((assignEach [tg] C.X.env).map (·.2)=[assign tg C.X.env]) Dz):RS C fr (.Assign [tg] e pos) (sA me g):=xH6 he hg hs hw h1
theorem zJ2{Oc:Wd}{Ob:Addr->Prop}{H:Hp}{vs:List V}{d:D}(r:VAs Oc Ob H vs [d]):∃v,vs=[v]/\VA Oc Ob H v d:=by
 cases r with
 | cons h t=>cases t;exact⟨_,rfl,h⟩
section
variable {X:Cx}
end
def StepOk(i j k:Int):Prop:=k≠0/\k.natAbs.log2<9000/\Builtin.Range.small i j k=true/\0<=Builtin.Range.rangeSize i j k
instance (i j k:Int):Decidable (StepOk i j k):=by unfold StepOk;infer_instance
end L2.L3
namespace L2.L3
open PySem PyProof.Rows
variable [CN]
section
variable {X:Cx}
end
theorem Reps.snoc{H:Hp}{O:Addr->Prop}:∀{vs:List V}{ds:List D}{v:V}{d:D},Reps H O vs ds->Rep H O v d->Reps H O (vs ++ [v]) (ds ++ [d])
 | _,_,_,_,.nil,r=>.cons r .nil
 | _,_,_,_,.cons a t,r=>.cons a (Reps.snoc t r)
theorem Reps.rev{H:Hp}{O:Addr->Prop}:∀{vs:List V}{ds:List D},Reps H O vs ds->Reps H O vs.reverse ds.reverse
 | _,_,.nil=>.nil
 | _,_,.cons a t=>by rw[List.reverse_cons,List.reverse_cons];exact Reps.snoc (Reps.rev t) a
end L2.L3
namespace L2
open PySem PyProof.Rows
structure CScope2(sc0 scope:Scope)(N0:List Str)(xt yt:Str)(fs:List Str)(js:List Nat):Prop where
 kind:scope.kind=.function
 nocell:∀y∈scope.names,y.2 ≠ .cell
 names:∀y∈scope.names,y.2=.local->scope.names.lookup y.1=some .local
 tgt:scope.names.lookup xt=some .local
 tgt2:scope.names.lookup yt=some .local
 frees:∀y∈scope.names,y.2=.free->sc0.names.lookup y.1=some .cell\/sc0.names.lookup y.1=some .free
 len:js.length=fs.length
 slots:∀p∈fs.zip js,N0[p.2]?=some p.1/\scope.names.lookup p.1=some .free
 nd:(xt::yt::fs).Nodup
def compSt2(σ:St)(js:List Nat)(v w:Option V):St:=v::w::js.map fun j=>(σ[j]?).join
section
variable {X:Cx}{DA:List (Addr×Obj)}{σ:St}{H:Hp}{s₂ s₄:Shared}{sc0 scope:Scope}{N0:List Str}{xt yt:Str}{fs:List Str}{js:List Nat}{fp:List Addr}
theorem CScope2.cells(S:CScope2 sc0 scope N0 xt yt fs js)(h0:X.env.scope=sc0)(ok:X.Ok):∀n,(n,NameKind.free)∈scope.names->∃c,X.env.cells.lookup n=some c:=fun n hn=>ok.has n (by subst h0;exact S.frees _ hn rfl)
theorem CScope2.sub(S:CScope2 sc0 scope N0 xt yt fs js)(h0:X.env.scope=sc0)(ok:X.Ok):∀x c,(clos X.env.cells scope.names []).lookup x=some c->X.env.cells.lookup x=some c :=
 bU scope.names [] (S.cells h0 ok) fun x c e=>by simp at e
theorem Inv.block2(S:CScope2 sc0 scope N0 xt yt fs js)(h0:X.env.scope=sc0)(hN0:X.N=N0)(I:Inv X DA σ H s₂)(hf:∀b∈fp,FpOk X DA H b)(hfo:∀b∈fp,∃o,s₂.heap.get? b=some o)
  (hos:s₄.os=s₂.os) (hg:AllBare s₄.gens) (hk:∀b o,s₂.heap.get? b=some o->s₄.heap.get? b=some o){C:Addr}(hC:s₂.heap.objs.size<=C){m:Str->Option Value}(hn:s₄.heap.Ns C m) :
  Inv (cxComp X (xt::yt::fs) scope C fp s₂ H) [] (compSt2 σ js none none) H s₄:=by
 have sub:=S.sub h0 I.ok
 have blt:∀b∈fp,b<s₂.heap.objs.size:=fun b hb=>let ⟨o,e⟩:=hfo b hb;Ao e
 have ok:(cxComp X (xt::yt::fs) scope C fp s₂ H).Ok:=by
  refine⟨I.ok.mod,S.kind,I.ok.glob,I.ok.blt,hC,fun x y c h1 h2=>I.ok.inj x y c (sub x c h1) (sub y c h2),fun x hx => ?_,fun x c h=>(nomatch h),I.ok.hd,I.ok.frames,.inl rfl,fun b hb=>⟨?_,fun x c h=>(hf b hb).2.2.2.2.1 x c (sub x c h)⟩,I.bs,Ba I.ok.bsz I.sz,fun b o e hb => ?_,fun b hb hs => ?_,I.stack,I.stkFree⟩
  ·have hx:(relabel scope X.env).names.lookup x=some .cell\/(relabel scope X.env).names.lookup x=some .free:=hx
   have hfree:scope.names.lookup x=some .free:=by
    rcases hx with hx | hx
    ·rcases jU hx with q | ⟨_,q⟩
     ·exact absurd rfl (S.nocell _ (AZ q))
     ·exact q
    ·rcases jU hx with q | ⟨q,_⟩
     ·exact q
     ·cases q
   exact jI scope.names [] x (AZ hfree)
  ·exact AL (Ax (blt b hb) hC)
  ·rcases (hf b hb).2.2.2.1 with z | z
   ·exact I.ok.noex b o e z
   ·exact absurd (Ax (Ao (I.ok.bs b o e).1) z) (Cm _)
  ·rcases Aw.mp (I.stkSub b hs) with z | z
   ·exact (hf b hb).2.1 z
   ·exact (hf b hb).2.2.1 z
 refine⟨ok,hos,hg,Un.kept hk,⟨m,hn,fun i x v e1 e2 e3 => ?_⟩,fun x c e => ?_,I.hok.fresh hC,fun x c e=>I.freeC x c (sub x c e),fun p hp=>absurd (show p∈([]:List (Addr×Obj)) from hp) (by simp),I.hok.kept hk,?_⟩
 ·cases i with
  | zero=>cases e2
  | succ i =>
   cases i with
   | zero=>cases e2
   | succ i =>
   have e1:fs[i]?=some x:=e1
   have e2:(js.map fun j=>(σ[j]?).join)[i]?=some (some v):=e2
   rw[Ak] at e2
   cases ej:js[i]? with
   | none=>rw[ej] at e2;cases e2
   | some j =>
    rw[ej] at e2
    have e2:(σ[j]?).join=some v:=AX e2
    obtain⟨hN,hfr⟩:=S.slots _ (zM5 e1 ej)
    have hN:X.N[j]?=some x:=by rw[hN0];exact hN
    have hk2:X.env.kindOf x=some .cell\/X.env.kindOf x=some .free:=by subst h0;exact S.frees _ (AZ hfr) rfl
    have hs:σ[j]?=some (some v):=by
     cases q:σ[j]? with
     | none=>rw[q] at e2;cases e2
     | some z=>rw[q] at e2;rw[show z=some v from e2]
    obtain⟨m0,hn0,hl⟩:=I.loc
    obtain⟨u,r,l⟩:=hl j x v hN hs (by rcases hk2 with z | z;exact .inr (.inl z);exact .inr (.inr z))
    refine⟨u,r,?_⟩
    rcases l with ⟨hloc,_⟩ | ⟨_,c,hc,hcell⟩
    ·rcases hk2 with z | z
     ·rw[z] at hloc;cases hloc
     ·rw[z] at hloc;cases hloc
    ·obtain⟨c',hc'⟩:=jI (cells:=X.env.cells) scope.names [] x (AZ hfr)
     have:c'=c:=AX ((sub x c' hc').symm.trans hc)
     subst this
     exact .inr ⟨aG hfr,c',hc',hcell.keeps hk⟩
 ·obtain⟨v,z⟩:=I.cell x c (sub x c e)
  exact⟨v,z.keeps hk⟩
 ·show (compSt2 σ js none none).length=(xt::yt::fs).length
  unfold compSt2
  rw[AQ,AQ,Aa,AQ,AQ,S.len]
end
end L2
namespace L2.L3
open PySem PyProof.Rows
variable [CN]
def cEnv2(ρ:Ev)(js:List Nat)(x y:D):Ev:=some x::some y::js.map fun j=>(ρ[j]?).join
def capt2(js l:List Nat):List Nat:=((List.range js.length).filter fun i=>l.contains (js.getD i 0)).map (·+2)
def pr2{α:Type}(d:D)(f:D->D->Res α):Res α :=
 match d with
 | .tuple [a,b]=>f a b
 | _=>.no
theorem yC7{js l:List Nat}{i:Nat}(h:i∈capt2 js l):∃k,i=k+2/\k<js.length/\js.getD k 0∈l:=by
 unfold capt2 at h
 obtain⟨k,hk,rfl⟩:=AJ.mp h
 obtain⟨h1,h2⟩:=Cg.mp hk
 exact⟨k,rfl,AA.mp h1,Bi.mp h2⟩
theorem zG3{js l:List Nat}{k j:Nat}(h:js[k]?=some j)(hl:j∈l):k+2∈capt2 js l:=by
 unfold capt2
 refine AJ.mpr ⟨k,Cg.mpr ⟨AA.mpr ?_,?_⟩,rfl⟩
 ·exact (Aj.mp h).1
 ·rw[AO,h]
  exact Bi.mpr hl
theorem zQ4{ρ:Ev}{js:List Nat}{x y d:D}{k:Nat}(h:(cEnv2 ρ js x y)[k+2]?=some (some d)):∃j,js[k]?=some j/\ρ[j]?=some (some d):=by
 unfold cEnv2 at h
 rw[BG,BG,Ak] at h
 cases e:js[k]? with
 | none=>rw[e] at h;cases h
 | some j =>
  rw[e] at h
  refine⟨j,rfl,?_⟩
  have h:(ρ[j]?).join=some d:=AX h
  cases q:ρ[j]? with
  | none=>rw[q] at h;cases h
  | some z=>rw[q] at h;rw[show z=some d from h]
theorem uT{σ:St}{js:List Nat}{v0 w0:Option V}{v:V}{k j:Nat}(h:js[k]?=some j)(e:σ[j]?=some (some v)):(compSt2 σ js v0 w0)[k+2]?=some (some v):=by
 unfold compSt2
 rw[BG,BG,Ak,h]
 show some ((σ[j]?).join)=_
 rw[e]
 rfl
def cW2(Oc:Wd)(Ob:Addr->Prop)(σ:St)(js:List Nat):Wd:=⟨Uni Oc Ob,fun i=>adr ((compSt2 σ js none none)[i]?)⟩
theorem Rel.comp2{Oc:Wd}{Ob:Addr->Prop}{om ln:List Nat}{σ:St}{H:Hp}{ρ:Ev}{js:List Nat}{x y:V}{d d2:D}(R:Rel Oc Ob om ln σ H ρ)(r:Rep H (Uni Oc Ob) x d)(r2:Rep H (Uni Oc Ob) y d2):Rel (cW2 Oc Ob σ js) (fun _=>False) [] (capt2 js (om++ln)) (compSt2 σ js (some x) (some y)) H (cEnv2 ρ js d d2) where
 len:=by unfold compSt2 cEnv2;simp
 val:=fun i d' e _ hl=>by
  cases i with
  | zero =>
   cases e
   exact⟨x,rfl,r.less fun b z=>z.elim id fun z=>z.elim⟩
  | succ k =>
   cases k with
   | zero =>
   cases e
   exact⟨y,rfl,r2.less fun b z=>z.elim id fun z=>z.elim⟩
   | succ k =>
   obtain⟨j,e1,e2⟩:=zQ4 e
   have h1:j∉om:=fun z=>hl (zG3 e1 (AM _ z))
   have h2:j∉ln:=fun z=>hl (zG3 e1 (Ad _ z))
   obtain⟨v,q,rv⟩:=R.val j d' e2 h1 h2
   exact⟨v,uT e1 q,rv.less fun b z=>z.elim id fun z=>z.elim⟩
 own:=fun i d' e h=>nomatch h
 lnt:=fun i d' e _ hl=>by
  obtain⟨k,rfl,hk,hj⟩:=yC7 hl
  obtain⟨j,e1,e2⟩:=zQ4 e
  rw[AO,e1,Dd] at hj
  by_cases ho:j∈om
  ·obtain⟨v,q,a,ys,ds,z1,z2,z3,z4,z5⟩:=R.own j d' e2 ho
   have ea:(cW2 Oc Ob σ js).la (k+2)=a:=by show adr _=a;rw[uT e1 q,z1];rfl
   exact⟨v,uT e1 q,ys,ds,by rw[ea];exact z1,z2,by rw[ea];exact z3,by rw[ea];exact .inr z4,z5.less fun b z=>z.elim id fun z=>z.elim⟩
  ·have hl2:j∈ln:=(AE.mp hj).elim (fun z=>absurd z ho) id
   obtain⟨v,q,ys,ds,z1,z2,z3,z4,z5⟩:=R.lnt j d' e2 ho hl2
   have ea:(cW2 Oc Ob σ js).la (k+2)=Oc.la j:=by show adr _=_;rw[uT e1 q,z1];rfl
   exact⟨v,uT e1 q,ys,ds,by rw[ea];exact z1,z2,by rw[ea];exact z3,by rw[ea];exact .inl z4,z5.less fun b z=>z.elim id fun z=>z.elim⟩
 inj:=fun i j di dj a _ _ h=>nomatch h
 oh:=fun a z=>R.oh a (z.elim id fun z=>z.elim)
 ap:=fun a z=>z.elim
theorem xX7{K:KFr}{H:Hp}{O:Addr->Prop}{x:V}{a b:D}(r:Rep H O x (.tuple [a,b])):∃ta x1 x2,x=.ref ta/\SqT K H ta [x1,x2]/\Rep H O x1 a/\Rep H O x2 b:=by
 cases r with
 | tup r n t =>
  cases t with
  | cons h1 t =>
   cases t with
   | cons h2 t =>
    cases t
    exact⟨_,_,_,rfl,.inl r,h1,h2⟩
theorem RIo.c{C:Ct}{tg iter:Expr}{m:Ev->Res (List D)}(h:RIo C tg iter m):RIc C tg iter m:=by
 obtain⟨wi,p,q⟩:=h
 exact⟨wi,p,fun Oc Ob σ H ρ W R h=>q Oc Ob σ H ρ W R (Res.zU h (fun ds _ k J H1 s w=>k J H1 s fun H2 s2=>w H2 Ob (Same.frm s2) (fun b z=>.inl z) (R.same (s.trans s2)).oh) fun _ z=>z)⟩
section
variable {X:Cx}{DA:List (Addr×Obj)}{σ:St}{H:Hp}{s:Shared}{h':Heap}
end
structure Apart5(z TI TO i1 i2:Addr):Prop where
 TIz:TI≠z
 TOz:TO≠z
 i1z:i1≠z
 i2z:i2≠z
 TITO:TI≠TO
 TIi1:TI≠i1
 TIi2:TI≠i2
 TOi1:TO≠i1
 TOi2:TO≠i2
 i12:i1≠i2
end L2.L3
namespace L2
open PySem PySem.Spec PyProof.Rows
end L2
namespace L2.L3
open PySem PySem.Spec PyProof.Rows
variable [CN]
end L2.L3
namespace L2.L3
open PySem
variable [CN]
end L2.L3
namespace L2.L3
open PySem PyProof.Rows
variable [CN]
section
variable {X:Cx}
def tLstRev(K:KFr)(te:TE):TE:=fun σ H Q=>te σ H fun v H1=>∃a xs,v=.ref a/\SqL K H1 a xs/\∀p,H1 p=none->Q (.ref p) (upd H1 p (.lst xs.reverse))
theorem yB7{e:Expr}{te:TE}{p p2 pos pos2:Pos}(hc:X.calm=true)(hgt:Gl X "list")(hmt:X.mg "list" = none)(hgr:Gl X "reversed")(hmr:X.mg "reversed" = none)(ha:PE X e te)
  (hs:starEach [e] X.env=(false,eval e X.env)::starEach [] X.env) (hs2:starEach [.Call (.Name "reversed" p2) [e] [] pos2] X.env=(false,eval (.Call (.Name "reversed" p2) [e] [] pos2) X.env)::starEach [] X.env)
  (hpl:autoParam ((backTo pos (starEach [] X.env)).any (·.1)=false) Dz) (hpl2:autoParam ((backTo pos2 (starEach [] X.env)).any (·.1)=false) Dz) :
  PE X (.Call (.Name "list" p) [.Call (.Name "reversed" p2) [e] [] pos2] [] pos) (tLstRev X.K te):=by
 intro DA s σ H Q I h
 refine wpAny_Call_Name_kw (cG I hgt hmt (u:=.type "list") (by rfl) ?_ (by decide) (by decide))
 refine BJ ?_ hs2 hpl
 rw[hs2]
 show wpAny _ _ (spliced ((false,eval (.Call (.Name "reversed" p2) [e] [] pos2) X.env)::backTo pos (starEach [] X.env))) _ _ s
 refine Dp ?_
 refine wpAny_Call_Name_kw (cG I hgr hmr (u:=.type "reversed") (by rfl) ?_ (by decide) (by decide))
 refine BJ ?_ hs hpl2
 rw[hs]
 show wpAny _ _ (spliced ((false,eval e X.env)::backTo pos2 (starEach [] X.env))) _ _ s
 refine Dp (thn (ha DA s σ H _ I h) fun u s1 ⟨x,H1,I1,r1,q1⟩ => ?_)
 obtain⟨a,xs,rfl,hq,k⟩:=q1
 cases r1
 obtain⟨its,rv,pl,hz⟩:=I1.list hq
 refine Calls.spliced_nil ?_
 refine call_reversed_list pl.isList ?_
 refine Calls.spliced_nil ?_
 have lta:a<s1.heap.objs.size:=by obtain⟨o,q,_⟩:=pl.isList;exact Ao q
 refine xT1 (s:={ s1 with heap:=s1.heap.push (revObj a ((its.toArray.size:Int)-1)) }) (it:=s1.heap.objs.size) (l:=a) (its:=its.toArray) (I1.ok.hd hc) (AL lta) ⟨_,Az _ rfl,rfl,rfl⟩ (pl.isList.at fun o q=>Al _ q) (by have:=rv.length;simp;rfl') fun h' tk acc c' hk hS hacc => ?_
 have hk':∀b o,s1.heap.get? b=some o->h'.get? b=some o:=fun b o q=>hk b o (AL (Ao q)) (Al _ q)
 have hv:Vals xs.reverse acc.toList:=by
  obtain⟨h1,h2⟩:=hacc
  have hl:=rv.length
  refine hV ?_ ?_
  ·have z:acc.toList.length=its.length:=by rw[BL,h1,As]
   rw[List.length_reverse,hl,z]
  ·intro i x y hx hy
   have hi:i<acc.size:=by have:=(Aj.mp hy).1;rwa [BL] at this
   have hsz:its.toArray.size=its.length:=by simp
   rw[h1,hsz] at hi
   have e2:=h2 i y (by simpa using hy)
   rw[List.getElem?_reverse (by rfl')] at hx
   obtain⟨z,hz1,hz2⟩:=rv.get hx
   have e3:its[its.length-1-i]?=some y:=by simpa using e2
   rw[show xs.length-1-i=its.length-1-i by rfl'] at hz1
   rw[e3] at hz1
   cases hz1
   exact hz2
 have I2:Inv X DA σ H1 { s1 with heap:=h',toks:=tk }:=I1.kept (t':=tk) hk'
 have hfr:H1 (s1.heap.objs.size+1)=none:=I1.hok.fresh (Nat.le_succ _)
 have hsz:(s1.heap.push (revObj a ((its.toArray.size:Int)-1))).objs.size=s1.heap.objs.size+1:=Cp ..
 have hS:h'.get? (s1.heap.objs.size+1)=some { cls:=.type "list",dict:=none,data:=.seq acc c',slots:=#[] }:=by rw[<-hsz];exact hS
 have I3:=I1.laid (t':=tk) (a:=s1.heap.objs.size+1) (o:=.lst xs.reverse) (h':=h') hk' (Nat.le_succ _) ⟨by rw[List.length_reverse];exact hz,acc.toList,c',hv,by simpa using hS⟩
 refine⟨.ref (s1.heap.objs.size+1),_,I3,?_,k _ hfr⟩
 show Value.ref _=Value.ref _
 rw[<-hsz]
end
def revL:D->Option D
 | .list ds=>some (.list ds.reverse)
 | _=>none
def eRevL(m:Ev->Res D):Ev->Res D:=fun ρ=>(m ρ).bind fun d=>Res.lft (revL d)
theorem zC6(m:Ev->Res D)(ρ:Ev):eRevL m ρ=(m ρ).bind fun d=>Res.lft (revL d):=rfl
theorem yF2{C:Ct}{e:Expr}{p p2 pos pos2:Pos}{ma:Ev->Res D}(hmt:C.X.mg "list" = none)(hmr:C.X.mg "reversed" = none)(h:RE C .rd e ma)(hc:autoParam (C.X.calm=true) Dz)(hgt:autoParam (Gl C.X "list") Dz)(hgr:autoParam (Gl C.X "reversed") Dz)
  (hs:autoParam (starEach [e] C.X.env=(false,eval e C.X.env)::starEach [] C.X.env) Dz) (hs2:autoParam (starEach [.Call (.Name "reversed" p2) [e] [] pos2] C.X.env=(false,eval (.Call (.Name "reversed" p2) [e] [] pos2) C.X.env)::starEach [] C.X.env) Dz)
  (hpl:autoParam ((backTo pos (starEach [] C.X.env)).any (·.1)=false) Dz) (hpl2:autoParam ((backTo pos2 (starEach [] C.X.env)).any (·.1)=false) Dz) :
  RE C .new (.Call (.Name "list" p) [.Call (.Name "reversed" p2) [e] [] pos2] [] pos) (eRevL ma):=by
 obtain⟨t,pe,q⟩:=h
 refine⟨_,yB7 hc hgt hmt hgr hmr pe hs hs2 hpl hpl2,fun Oc Ob σ H ρ Q R h=>q Oc Ob σ H ρ _ R (Res.zU (Res.zW h) (fun d _ k v H1 s1 r => ?_) fun _ z=>z)⟩
 obtain⟨d2,e2,k⟩:=Res.zC k
 rcases r with r | ⟨a,ys,ds',rfl,rfl,e3,e4,e5⟩
 ·cases r with
  | lst r n t=>cases e2;exact⟨_,_,rfl,.inl r,fun l hl=>k _ _ (s1.trans (Same.new hl)) (xB s1 hl t.rev)⟩
  | _=>cases e2
 ·cases e2
  exact⟨_,_,rfl,SqL.of e3,fun l hl=>k _ _ (s1.trans (Same.new hl)) (xB s1 hl e5.rev)⟩
end L2.L3
namespace HT
open PySem PyProof.Rows
section
variable {prog:Program}{w:World}{A:Around}{E:Value->Shared->Prop}{s:Shared}
end
end HT
namespace L2.L3
open PySem PyProof.Rows
variable [CN]
section
variable {X:Cx}
end
end L2.L3
namespace L2.L3
open PySem PySem.Spec PyProof.Rows
variable [CN]
section
variable {X:Cx}
end
end L2.L3
namespace HT
open PySem PyProof.Rows
section
open PySem.SeqAt
open PySem.AutoSeq1 (wpAny_loadPart')
open PySem.MeetsSeq PySem.MeetsSeq2 PySem.MeetsSeq3
end
section
variable {prog:Program}{w:World}{A:Around}{E:Value->Shared->Prop}{s:Shared}
end
end HT
namespace L2.L3
open PySem PySem.Spec PyProof.Rows
variable [CN]
section
variable {X:Cx}
end
end L2.L3
namespace L2.L3
open PySem PyProof.Rows
variable [CN]
section
variable {X:Cx}
end
end L2.L3
namespace L2.L3
universe u
theorem ls0{α:Type u}{P:List α->Prop}(h:P []):∀us:List α,us.length=0->P us:=fun us e=>by
 rw[List.eq_nil_of_length_eq_zero e]
 exact h
theorem lsS{α:Type u}{P:List α->Prop}{n:Nat}(h:∀a us,us.length=n->P (a::us)):∀us:List α,us.length=n+1->P us:=fun us e=>by
 cases us with
 | nil=>cases e
 | cons a us=>exact h a us (Nat.succ.inj e)
theorem ls1{α:Type u}{P:List α->Prop}(h:∀a,P [a]):∀us:List α,us.length=1->P us:=lsS fun a=>ls0 (h a)
theorem ls2{α:Type u}{P:List α->Prop}(h:∀a b,P [a,b]):∀us:List α,us.length=2->P us:=lsS fun a=>ls1 (h a)
theorem ls3{α:Type u}{P:List α->Prop}(h:∀a b c,P [a,b,c]):∀us:List α,us.length=3->P us:=lsS fun a=>ls2 (h a)
theorem ls4{α:Type u}{P:List α->Prop}(h:∀a b c d,P [a,b,c,d]):∀us:List α,us.length=4->P us:=lsS fun a=>ls3 (h a)
theorem ls5{α:Type u}{P:List α->Prop}(h:∀a b c d e,P [a,b,c,d,e]):∀us:List α,us.length=5->P us:=lsS fun a=>ls4 (h a)
end L2.L3
namespace L2.L3
open PySem PySem.Spec PyProof.Rows
section
variable {M:Model}{A:Around}{E:Value->Shared->Prop}{s:Shared}{B:Heap}{L e:Addr}{cls a0 fl:Value}
def KpX(Φ:Option Addr->Value->Prop)(e:Addr)(h:Heap):Prop:=∃oe vs v,h.get? e=some oe/\oe.data=.fields vs/\vs[2]?=some v/\Φ oe.dict v
theorem xW7(f:Array Value->Array Value)(o:Obj):(Obj.mapFields f o).dict=o.dict:=by
 unfold Obj.mapFields
 split <;> rfl
theorem KpX.mono{Φ Ψ:Option Addr->Value->Prop}{h:Heap}{e:Addr}(k:KpX Φ e h)(m:∀d v,Φ d v->Ψ d v):KpX Ψ e h:=by
 obtain⟨o,vs,v,q,d,z,y⟩:=k
 exact⟨o,vs,v,q,d,z,m _ _ y⟩
theorem KpX.one{Φ:Option Addr->Value->Prop}{h h':Heap}{e:Addr}{oe:Obj}{v:Value}(k:KpX Φ e h)(he:h.get? e=some oe)(he':h'.get? e=some (Obj.mapFields (·.setIfInBounds 1 v) oe)):KpX Φ e h':=by
 obtain⟨o,vs,v2,q,d,z,y⟩:=k
 cases he.symm.trans q
 exact⟨_,_,v2,he',Bk d _,by rw[Array.getElem?_setIfInBounds_ne (by decide)];exact z,by rw[xW7];exact y⟩
theorem KpX.same{Φ:Option Addr->Value->Prop}{h h':Heap}{e:Addr}(k:KpX Φ e h)(q:h'.get? e=h.get? e):KpX Φ e h':=by
 obtain⟨o,vs,v,z,d⟩:=k
 exact⟨o,vs,v,q.trans z,d⟩
structure Marks(B:Heap)(l:List Env)(e L:Addr)(oe:Obj)(h g h':Heap):Prop where
 rest:∀b,b∉l.filterMap (·.frame)->g.get? b=h.get? b
 slot:∀b o,h.get? b=some o->∃sl,g.get? b=some { o with slots:=sl }
 told:h'.get? e=some (Obj.mapFields (·.setIfInBounds 1 (.ref g.objs.size)) oe)
 mark:∃o ts,h'.get? g.objs.size=some o/\o.data=.fields ts/\ts[3]?=some (rawInt L)
 else_:∀b o,b≠e->g.get? b=some o->h'.get? b=some o
theorem Marks.noted{Φ:Option Addr->Value->Prop}{l:List Env}{oe:Obj}{vs:Array Value}{h g h':Heap}(m:Marks B l e L oe h g h')(hF:h.FunFrames B l)(hB:B.StaysIn h)(hn:B.get? e=none)(he:h.get? e=some oe)(hd:oe.data=.fields vs)(hs:1<vs.size)(h0:vs[0]?=some a0) :
  Heap.NotedW B l e oe.cls a0 (rawInt L) h h'/\(KpX Φ e h->KpX Φ e h'):=by
 have fr:∀b∈l.filterMap (·.frame),B.get? b=none:=fun b z=>(hF.mem z).1
 have ne:∀b o,h.get? b=some o->(∀vs,o.data ≠ .fields vs)->b≠e:=by
  rintro b o q d rfl
  cases he.symm.trans q
  exact d vs hd
 have stay:B.StaysIn g:=fun b o q=>by
  rw[m.rest b fun z=>by rw[fr b z] at q;cases q]
  exact hB b o q
 have up:∀b o,h.get? b=some o->(∀vs,o.data ≠ .fields vs)->∃sl,h'.get? b=some { o with slots:=sl }:=fun b o q d =>
  let ⟨sl,y⟩:=m.slot b o q
  ⟨sl,m.else_ b _ (ne b o q d) y⟩
 obtain⟨oT,ts,q1,q2,q3⟩:=m.mark
 have eT:g.objs.size≠e:=by
  have nfr:e∉l.filterMap (·.frame):=fun z=>by
   obtain⟨_,o,ho,nf⟩:=hF.mem z
   cases he.symm.trans ho
   exact nf vs hd
  exact Ck (Ao ((m.rest e nfr).trans he))
 refine⟨⟨fun b o q=>m.else_ b o (by rintro rfl;rw[hn] at q;cases q) (stay b o q),hF.of_keeps fun b o q d=>let ⟨_,y⟩:=up b o q d; ⟨_,y,rfl⟩,?_,up⟩,fun kp=>kp.one he m.told⟩
 exact⟨_,_,g.objs.size,oT,ts,m.told,⟨Obj.cls_mapFields _ _,(Array.getElem?_setIfInBounds_ne (by decide)).trans h0⟩,Bk hd _,by simp[hs],stay.fresh,eT,q1,q2,q3⟩
theorem entryK{env:Env}{outer:List Env}{oe:Obj}{vs:Array Value}{head:Value}{hadNext:Bool}{Q:Unit->Shared->Prop}
  (hA:A.frames=some (env::outer)) (hF:s.heap.FunFrames B (env::outer)) (hf:env.frame=some L)
  (he:s.heap.get? e=some oe) (hB:B.StaysIn s.heap) (hn:B.get? e=none) (hd:oe.data=.fields vs) (hsz:1<vs.size) (h0:vs[0]?=some a0){Φ:Option Addr->Value->Prop}(kp:KpX Φ e s.heap)
  (k:∀g,Heap.NotedW B (env::outer) e oe.cls a0 (rawInt L) s.heap g->KpX Φ e g->Q () { s with heap:=g }) :
  wpAny M A (frameOf env >>= fun a=>entryPlaceOf L hadNext >>= fun pl=>EntryCells.newEntry head a .none (rawInt L) .none pl >>= setField (.ref e) 1) Q E s:=by
 refine Ab (wpAny_frameOf_fun hA hF hf fun g hg=>Ab (wpAny_entryPlaceOf fun pl hpl => ?_))
 have here:g.get? e=some oe:=(hg.2.1 e fun z=>by
  obtain⟨_,o,ho,nf⟩:=hF.mem z
  cases he.symm.trans ho
  exact nf vs hd).trans he
 simp only[EntryCells.newEntry,newFields]
 refine Ab (wpAny_newObj_type (wpAny_setField (Al _ here) hd hsz ?_) (hpl.sizeOk5 _ _ _ _ _))
 have T:g.objs.size≠e:=Ck (Ao here)
 have i3:∀xs:List Value,([head,.ref L,.none,rawInt L,.none]++xs).toArray[3]?=some (rawInt L):=fun xs=>by simp
 have fin:∀ob ts,ob.data=.fields ts->ts[3]?=some (rawInt L)->Q () { s with heap:=(g.push ob).update e (Obj.mapFields (·.setIfInBounds 1 (.ref g.objs.size))) }:=fun ob ts d3 t3=>by
  obtain⟨n,kk⟩:=Marks.noted (a0:=a0) ⟨hg.2.1,hg.2.2,AY _ (Al ob here) (BP (Bk hd _)),⟨ob,ts,(AC _ _ (Bd T)).trans (Az g (BP d3)),d3,t3⟩,
   fun b o nb q=>by rw[AC _ _ (Bd nb)];exact Al _ q⟩ hF hB hn he hd hsz h0
  exact k _ n (kk kp)
 exact fin _ _ rfl (i3 _)
theorem flightK{l:List Env}{Q:Unit->Shared->Prop}(hB:B.StaysIn s.heap)(hn:B.get? e=none)(hF:s.heap.FunFrames B l)(ht:s.heap.TracedAtW B e cls a0 fl){Φ:Option Addr->Value->Prop}(kp:KpX Φ e s.heap)
  (k:∀g,Heap.FlyingW B l e cls a0 g->s.heap.UpToSlots g->KpX Φ e g->Q () { s with heap:=g }):wpAny M A (setFlight (.ref e) none) Q E s:=by
 obtain⟨oe,vs,T,oT,ts,g1,g2,g4,g5,g6,g7,g8,g9,g10⟩:=ht
 have sz:=(Bc.mp g10).1
 have ot:∀b,b≠T->(s.heap.update T (Obj.mapFields (·.setIfInBounds 3 ((none:Option Addr).elim Value.none fun f=>rawInt f)))).get? b=s.heap.get? b:=fun b hb=>AC _ _ (Bd hb)
 have nf:∀b o,s.heap.get? b=some o->(∀vs,o.data ≠ .fields vs)->b≠T:=fun b o q hd w=>by
  subst w
  cases g8.symm.trans q
  exact hd ts g9
 unfold setFlight
 refine Ab (wpAny_field g1 g4 g5 ?_)
 have n1:(Value.ref T != Value.none)=true:=by simp
 simp only[n1,if_true]
 refine wpAny_setField g8 g9 sz (k _ ⟨fun b o q=>(ot b fun w=>by subst w;rw[g6] at q;cases q).trans (hB b o q),hn,hF.of_keeps fun b o q hd=>⟨o,(ot b (nf b o q hd)).trans q,rfl⟩,?_⟩ (fun b o q hd=>⟨o.slots,(ot b (nf b o q hd)).trans q⟩) (kp.same (ot e (Bd g7))))
 exact⟨oe,vs,T,_,_,(ot e (Bd g7)).trans g1,g2,g4,g5,g6,g7,AY _ g8 (BP (Bk g9 _)),Bk g9 _,by simp[sz]⟩
theorem bZ{env:Env}{outer:List Env}{Q:Unit->Shared->Prop}(hA:A.frames=some (env::outer))(hF:s.heap.FunFrames B (env::outer))(hf:env.frame=some L)(ht:s.heap.TracedAtW B e cls a0 fl)(hB:B.StaysIn s.heap)(hn:B.get? e=none){Φ:Option Addr->Value->Prop}(kp:KpX Φ e s.heap)
  (k:∀g,Heap.NotedW B (env::outer) e cls a0 (rawInt L) s.heap g->KpX Φ e g->Q () { s with heap:=g }):wpAny M A (noteFrame (.ref e) env) Q E s:=by
 by_cases z:fl=rawInt L
 ·subst z
  exact wpAny_noteFrame_againW hf ht (k s.heap ⟨hB,hF,ht,fun b o q _=>⟨o.slots,q⟩⟩ kp)
 ·obtain⟨oe,vs,T,oT,ts,g1,⟨rfl,g3⟩,g4,g5,g6,g7,g8,g9,g10⟩:=ht
  have sz:=(Bc.mp g10).1
  have n1:(Value.ref T != Value.none)=true:=by simp
  have n2:(fl == rawInt L)=false:=by simpa using z
  have ot:∀b,b≠T->(s.heap.update T (Obj.mapFields (·.setIfInBounds 3 .none))).get? b=s.heap.get? b:=fun b hb=>AC _ _ (Bd hb)
  have nf:∀b o,s.heap.get? b=some o->(∀vs,o.data ≠ .fields vs)->b≠T:=fun b o q hd w=>by
   subst w
   cases g8.symm.trans q
   exact hd ts g9
  unfold noteFrame
  simp only[hf]
  refine Ab (wpAny_field g1 g4 g5 ?_)
  simp only[n1,if_true]
  refine Ab (wpAny_field g8 g9 g10 ?_)
  simp only[n2,AB,if_false]
  refine Ab (wpAny_setField g8 g9 sz (entryK (a0:=a0) (vs:=vs) hA ?_ hf ((ot e g7.symm).trans g1) (fun b o q => ?_) hn g4 (Bc.mp g5).1 g3 (kp.same (ot e g7.symm)) fun g hg kg => ?_))
  ·exact hF.of_keeps fun b o q hd=>⟨o,(ot b (nf b o q hd)).trans q,rfl⟩
  ·have:b≠T:=fun w=>by subst w;rw[g6] at q;cases q
   exact (ot b this).trans (hB b o q)
  ·exact k g ⟨hg.1,hg.2.1,hg.2.2.1,fun b o q hd=>hg.2.2.2 b o ((ot b (nf b o q hd)).trans q) hd⟩ kg
theorem xX3{α:Type}{what:String}{env:Env}{Q:α->Shared->Prop}(ht:s.heap.TracedAtW B e cls a0 fl){Φ:Option Addr->Value->Prop}(kp:KpX Φ e s.heap)
  (k:∀(g:Heap) (T:Addr) (fl':Value),B.get? T=none->(∀b,b≠T->g.get? b=s.heap.get? b)->(∃o ts,s.heap.get? T=some o/\o.data=.fields ts)->g.TracedAtW B e cls a0 fl'->KpX Φ e g->E (.ref e) { s with heap:=g }):wpAny M A (PySem.passOn what (.ref e) env) Q E s:=by
 obtain⟨oe,vs,T,oT,ts,g1,⟨rfl,g3⟩,g4,g5,g6,g7,g8,g9,g10⟩:=ht
 have sz:=(Bc.mp g10).1
 have n0:(Value.ref T == Value.none)=false:=by simp
 have n1:(Value.ref T != Value.none)=true:=by simp
 have fin:wpAny M A (setFlight (.ref e) env.frame >>= fun _=>(throw (.ref e):Sem α)) Q E s:=by
  unfold setFlight
  refine Ab (Ab (wpAny_field g1 g4 g5 ?_))
  simp only[n1,if_true]
  refine wpAny_setField g8 g9 sz (wpAny_throw (k _ T (env.frame.elim .none fun f=>rawInt f) g6 (fun b hb=>AC _ _ (Bd hb)) ⟨oT,ts,g8,g9⟩ ?_ (kp.same (AC _ _ g7))))
  exact⟨oe,vs,T,_,_,(AC _ _ g7).trans g1,⟨rfl,g3⟩,g4,g5,g6,g7,AY _ g8 (BP (Bk g9 _)),Bk g9 _,by simp[sz]⟩
 unfold PySem.passOn
 refine Ab (wpAny_field g1 g4 g5 ?_)
 simp only[n0,AB,if_false]
 exact fin
end
variable [CN]
def Raw(B:Heap)(e:Addr)(cls a0:Value)(h:Heap):Prop :=
 (∃fl,h.TracedAtW B e cls a0 fl)\/∃oe vs,h.get? e=some oe/\oe.cls=cls/\oe.data=.fields vs/\vs[1]?=some .none/\vs[0]?=some a0
def FlK(cls:Value)(ro:Option Nat)(B h1:Heap)(H:Hp):Option Addr->Value->Prop:=fun od v =>
 (cls ≠ .ref (CN.ad "BadText")->v=.none)/\∀r,ro=some r->∃d,od=some d/\Row d (r:Int) B/\H d=none/\h1.get? d=none
structure Fl(stk:List Env)(h1:Heap)(H:Hp)(e:Addr)(cls:Value)(ro:Option Nat)(B:Heap)(a0:Value)(h:Heap):Prop where
 stays:B.StaysIn h
 newB:B.get? e=none
 frm:h.FunFrames B stk
 raw:Raw B e cls a0 h
 kp:KpX (FlK cls ro B h1 H) e h
 cov:∀b o,h.get? b=some o->b∉frs stk->(h1.get? b≠none\/H b≠none)->B.get? b=some o
def ExcAt(X:Cx)(c:Str)(H:Hp)(e:Value)(s:Shared):Prop :=
 ∃(DA:List (Addr×Obj)) (σ:St) (s1:Shared) (H1:Hp) (a:Addr) (B:Heap) (a0:Value),Inv X DA σ H1 s1/\Inv X DA σ H s/\Un (frs X.stack) [] H1 H s1.heap s.heap/\e=.ref a/\s1.heap.get? a=none/\H a=none/\Fl X.stack s1.heap H a (.ref (CN.ad c)) (rowOf c) B a0 s.heap
def CXV(P:Program)(w:World):CXT:=fun outer H s E e s' =>
 ∃(a:Addr) (cls:Value) (ro:Option Nat) (B:Heap) (a0:Value) (H':Hp),e=.ref a/\s'.os=s.os/\AllBare s'.gens/\Un (frs outer) [] H H' s.heap s'.heap/\HOk P w H' s'.heap/\s.heap.get? a=none/\H' a=none/\Fl outer s.heap H' a cls ro B a0 s'.heap/\E cls ro H'
theorem uQ{P:Program}{w:World}{H:Hp}{h:Heap}{a:Addr}{o:HO}(x:ObjOk P w H h a o):∃u,h.get? a=some u:=by
 cases o with
 | lst xs=>exact⟨_,x.2.choose_spec.choose_spec.2⟩
 | tup xs=>obtain⟨_,its,_,ob,e,_⟩:=x;exact⟨ob,e⟩
 | dK kvs=>obtain⟨_,_,_,_,ob,_,_,e,_⟩:=x;exact⟨ob,e⟩
 | dT kvs=>obtain⟨_,_,_,_,ob,_,_,e,_⟩:=x;exact⟨ob,e⟩
 | set S n=>obtain⟨ob,_,_,_,e,_⟩:=x;exact⟨ob,e⟩
 | ins C dx fs=>obtain⟨_,_,_,e,_⟩:=x;exact⟨_,e⟩
 | own y=>exact x
 | xd fs=>obtain⟨_,⟨ob,_,_,e,_⟩,_⟩:=x;exact⟨ob,e⟩
 | rng lo hi=>obtain⟨_,_,_,e⟩:=x;exact⟨_,e⟩
 | frz ob u=>exact⟨ob,x.1⟩
 | tbl ps=>exact⟨_,x⟩
 | met f y=>exact⟨_,x⟩
 | ext φ=>exact x.2.1
theorem zH3{P:Program}{w:World}{H:Hp}{h:Heap}{a:Addr}(x:HOk P w H h)(n:H a≠none):∃u,h.get? a=some u:=by
 cases e:H a with
 | none=>exact absurd e n
 | some o=>exact uQ (x a o e)
theorem jG{α:Type}{o:Option α}(h:o≠none):∃x,o=some x:=by
 cases o with
 | none=>exact absurd rfl h
 | some x=>exact⟨x,rfl⟩
theorem xM{α:Type}{o:Option α}{x:α}(h:o=some x):o≠none:=by
 rw[h];exact fun z=>nomatch z
theorem zX8{α:Type}{o:Option α}(h:∀x,o=some x->False):o=none:=by
 cases o with
 | none=>rfl
 | some x=>exact (h x rfl).elim
theorem yH8{X:Cx}{c:Str}{H:Hp}{e:Value}{s:Shared}{E:XK}{E2:Value->Shared->Prop}(x:ExcAt X c H e s)(hst:X.stack=X.env::X.outer)(hfr:X.env.frame=some X.env.locals)(hex:X.ex=[])(hE:E (.ref (CN.ad c)) (rowOf c) H) :
  wpAny (model X.prog X.w) X.A (leaving X.env e) (fun _ s''=>CXV X.prog X.w X.outer X.H₀ X.s₀ E e s'') E2 s:=by
 obtain⟨DA,σ,s1,H1,a,B,a0,I1,I,un,rfl,n1,n2,f⟩:=x
 have noex:∀b:Addr,b∉X.ex:=fun b z=>by rw[hex] at z;cases z
 obtain⟨Φ,hP⟩:∃Φ,Φ=FlK (.ref (CN.ad c)) (rowOf c) B s1.heap H:=⟨_,rfl⟩
 have fk:KpX Φ a s.heap:=hP▸f.kp
 have hfs:frs X.stack=X.env.locals::X.fs:=by
  rw[hst]
  show List.filterMap _ _=_
  rw[CM,hfr]
  rfl
 have hfrm:s.heap.FunFrames B (X.env::X.outer):=by rw[<-hst];exact f.frm
 have hA:X.A.frames=some (X.env::X.outer):=by rw[<-hst];exact I.ok.frames
 have oldL:∀b o,X.s₀.heap.get? b=some o->b≠X.env.locals:=fun b o q z=>by
  subst z
  exact absurd (Ao q) (Cd.mpr I.ok.above)
 have old1:∀b o,X.s₀.heap.get? b=some o->s1.heap.get? b≠none:=fun b o q=>let ⟨_,e⟩:=I1.base.there b o q (noex b);xM e
 have key:∀h',Heap.LeftW B (X.env::X.outer) a (.ref (CN.ad c)) a0 s.heap h'->KpX Φ a h'->CXV X.prog X.w X.outer X.H₀ X.s₀ E (.ref a) { s with heap:=h' }:=by
  rintro h' ⟨k1,k2,k3,k4⟩ kh
  have kp:∀b o,s.heap.get? b=some o->b∉frs X.stack->(s1.heap.get? b≠none\/H b≠none)->h'.get? b=some o:=fun b o q n z=>k1 b o (f.cov b o q n z)
  have out:∀b,b∉X.fs->b≠X.env.locals->b∉frs X.stack:=fun b n1 n2 z=>by
   rw[hfs] at z
   rcases Aw.mp z with z | z
   ·exact n2 z
   ·exact n1 z
  have trk:∀b,H b≠none->b∉frs X.stack:=fun b n z=>n (I.stkFree b z)
  refine⟨a,_,rowOf c,B,a0,H,rfl,I.os,I.bare,⟨fun b o q n hb hx => ?_,fun b o q n hb hx => ?_,fun b o q n hx=>I.base.free b o q n (noex b),fun b o q hx => ?_,I.base.tups,I.base.frzs,I.base.tbls⟩,fun b o q => ?_,?_,n2,⟨k1,f.newB,k2.2.2,.inl ⟨_,k3.at⟩,KpX.mono (hP▸kh) (fun d v ⟨y1,y2⟩=>⟨y1,fun r e=>let ⟨d',z1,z2,z3,z4⟩:=y2 r e; ⟨d',z1,z2,z3,zX8 fun o q=>old1 d' o q z4⟩⟩),fun b o q n z => ?_⟩,hE⟩
  ·exact kp b o (I.base.keep b o q n hb (noex b)) (out b hb (oldL b o q)) (.inl (old1 b o q))
  ·obtain⟨sl,e⟩:=I.base.slot b o q n hb (noex b)
   obtain⟨_,o',e',nf⟩:=f.frm.mem (b:=b) (by show b∈frs X.stack;rw[hfs];exact Ae _ hb)
   rw[e] at e'
   cases e'
   obtain⟨sl',e2⟩:=k4 b _ e nf
   exact⟨sl',e2⟩
  ·by_cases hb:b∈frs X.stack
   ·obtain⟨_,o',e',_⟩:=k2.mem (b:=b) (by rw[hst] at hb;exact hb)
    exact⟨o',e'⟩
   ·obtain⟨o',e'⟩:=I.base.there b o q (noex b)
    exact⟨o',kp b o' e' hb (.inl (old1 b o q))⟩
  ·refine (I.hok b o q).stay (fun b' u hb' e => ?_) (fun _ z=>z) fun _ _ z=>z
   have n:H b'≠none:=by
    rcases hb' with rfl | hb'
    ·exact xM q
    ·exact xM hb'
   exact kp b' u e (trk b' n) (.inr n)
  ·cases q:X.s₀.heap.get? a with
   | none=>rfl
   | some o=>exact absurd n1 (old1 a o q)
  ·have nL:b≠X.env.locals:=by
    rcases z with z | z
    ·obtain⟨o',q'⟩:=jG z
     exact oldL b o' q'
    ·intro y
     subst y
     exact z I.free
   have ns:b∉frs X.stack:=out b n nL
   obtain⟨o2,q2⟩:∃o2,s.heap.get? b=some o2:=by
    rcases z with z | z
    ·obtain⟨o',q'⟩:=jG z
     exact I.base.there b o' q' (noex b)
    ·exact zH3 I.hok z
   have z':s1.heap.get? b≠none\/H b≠none:=by
    rcases z with z | z
    ·obtain⟨o',q'⟩:=jG z
     exact .inl (old1 b o' q')
    ·exact .inr z
   have hB:=f.cov b o2 q2 ns z'
   have q3:=k1 b o2 hB
   have q4:h'.get? b=some o:=q
   rw[q3] at q4
   cases q4
   exact hB
 rcases f.raw with t | ⟨oe,vs,he,hc,hd,h1,h0⟩
 ·obtain⟨fl,t⟩:=t
  unfold leaving
  refine Ab (bZ hA hfrm hfr t f.stays f.newB fk fun g ⟨x1,x2,x3,x4⟩ kg => ?_)
  exact flightK (s:={ s with heap:=g }) x1 f.newB x2 x3 kg fun g2 fly ups k2=>key g2 ⟨fly.1,fly.2.2.1,fly.2.2.2,Heap.UpToSlots.trans x4 ups⟩ k2
 ·rw[<-hc] at key
  unfold leaving noteFrame
  simp only[hfr]
  refine Ab (Ab (wpAny_field he hd h1 ?_))
  rw[AG (by decide)]
  refine entryK hA hfrm hfr he f.stays f.newB hd (Bc.mp h1).1 h0 fk fun g ⟨x1,x2,x3,x4⟩ kg => ?_
  exact flightK (s:={ s with heap:=g }) x1 f.newB x2 x3 kg fun g2 fly ups k2=>key g2 ⟨fly.1,fly.2.2.1,fly.2.2.2,Heap.UpToSlots.trans x4 ups⟩ k2
def Br(C:Ct):Prop:=∀(c:Str) (H:Hp) (e:Value) (s:Shared),ExcAt C.X c H e s->C.XE c H->C.X.xe e s
theorem xR7{C:Ct}(h:∀c H,C.XE c H->False):Br C:=fun c H _ _ _ z=>(h c H z).elim
def wX(C:Ct):XK:=fun v ro H=>∃c,v=.ref (CN.ad c)/\ro=rowOf c/\C.XE c H
theorem passX{C:Ct}(hb:Br C):Passes (CXV C.X.prog C.X.w) C.X (wX C):=by
 intro DA σ H s e s' I h
 obtain⟨a,cls,ro,B,a0,H',rfl,os,bare,un,hok,n1,n2,f,c,rfl,rfl,z⟩:=h
 exact hb c H' _ s' ⟨DA,σ,s,H,a,B,a0,I,I.call' os un hok bare (fun b z=>by cases z),un,rfl,n1,n2,f⟩ z
def spX(fr:Bool)(F:List D->Res D):Sp:=fun vs H Q E=>∃(ds:List D) (O:Addr->Prop),(∀a,O a->H a≠none)/\Reps H O vs ds/\(F ds).post (fun d=>∀v H',Same H H'->CallOk fr O H H' v d->Q v H') (fun c=>∀H',Same H H'->E (.ref (CN.ad c)) (rowOf c) H')
section
variable {P:Program}{w:World}{K:KFr}{mg:Str->Option Value}{base:Heap}
abbrev bodyX(P:Program)(w:World)(K:KFr)(mg:Str->Option Value)(base:Heap)(N:List Str)(x:Str)(sc:Scope)(f:Addr)(cdv:Value)(A:Around)(outer:List Env)(s:Shared)(H:Hp)(E:XK)(om:List Nat):Ct :=
 ⟨cxOf (CXV P w) P w K mg base N x sc f cdv A outer s H E,fun c H'=>E (.ref (CN.ad c)) (rowOf c) H',om,[]⟩
theorem zQ{N:List Str}{x:Str}{sc:Scope}{f:Addr}{cdv:Value}{A:Around}{outer:List Env}{s:Shared}{H:Hp}{E:XK}{om:List Nat}:Br (bodyX P w K mg base N x sc f cdv A outer s H E om) :=
 fun c H' e s' x h=>yH8 x rfl rfl rfl h
theorem yR{x:Str}{st:Stmt}{f:Addr}{fd:FuncData}{N ps:List Str}{k:Nat}{m:Ev->Res Out}{fr:Bool}(om:List Nat)(F:Fun K x x st f fd)(S:zJ N ps (zS st))
  (hbody:∀(cdv:Value) (A:Around) (outer:List Env) (s:Shared) (H:Hp) (E:XK),Room k (A.deeper (envOfC x (zS st) s.heap.objs.size f cdv))->RSs (bodyX P w K mg base N x (zS st) f cdv A outer s H E om) fr (defBody st) m)
  (hom:autoParam (om.all (fun i=>decide (ps.length<=i))=true) Dz) :
  FnOk P w K mg base (CXV P w) (k+1) f fd ps (spX fr (runF fr ps.length N.length m)):=by
 have len:∀(vs:List V) (H:Hp) (Q:VK) (E:XK),spX fr (runF fr ps.length N.length m) vs H Q E->vs.length=ps.length:=fun vs H Q E h=>by
  obtain⟨ds,O,oh,r,k⟩:=h
  unfold runF at k
  split at k
  ·rename_i hl
   rw[r.length];exact hl
  ·exact k.elim
 obtain⟨oc,od,kV,doc,pm,an,cdv,ct,osl,rfl,lk,hcd⟩:=F.ex
 refine yM3 lk hcd S len fun A outer s H vs Q E hr h => ?_
 have hvl:=len vs H Q E h
 obtain⟨ds,O,oh,r,k⟩:=h
 have hl:ds.length=ps.length:=by rw[<-r.length];exact hvl
 unfold runF at k
 rw[Am hl] at k
 obtain⟨t,p,q⟩:=hbody cdv A outer s H E hr
 refine⟨t,p,q ⟨O,fun _=>0⟩ (fun _=>False) _ H (ds.map some++List.replicate (N.length-ps.length) none) _ ?_ ?_⟩
 ·refine⟨?_,fun i d e _ _ => ?_,fun i d e ho => ?_,fun i d e _ hl=>(nomatch hl),fun i j di dj a ei _ ho _ _ _ => ?_,fun a z=>oh a (z.elim id fun z=>z.elim),fun a z=>z.elim⟩
  ·unfold start
   rw[Aq,Aq,Aa,Aa,BO,BO,hvl,hl]
  ·obtain⟨v,ev,rv⟩:=r.get (zY4 e)
   exact⟨v,xU3 ev,rv.less fun b z=>z.elim id fun z=>z.elim⟩
  ·have h1:=(Aj.mp (zY4 e)).1
   have h2:ps.length<=i:=of_decide_eq_true (AW.mp hom i ho)
   rfl'
  ·have h1:=(Aj.mp (zY4 ei)).1
   have h2:ps.length<=i:=of_decide_eq_true (AW.mp hom i ho)
   rfl'
 ·have same:∀{H':Hp},Frm (fun _=>False) H H'->Same H H':=fun f b o e=>f b o e fun z=>z
  refine Res.zU (Res.zW k) (fun o _ k => ?_) fun c z H' f=>z H' (same f)
  cases o with
  | rt d =>
   intro v H' f rt
   refine k v H' (same f) ?_
   cases fr with
   | false=>exact rt
   | true =>
    obtain⟨a,ys,ds,e1,e2,e3,e4,e5,e6⟩:=rt
    exact⟨a,ys,ds,e1,e2,e3.elim id fun z=>z.elim,e5,e6⟩
  | nx ρ' =>
   cases fr with
   | true=>exact k.elim
   | false=>exact fun σ' H' Ob' R f s=>k .non H' (same f) Rep.non
theorem yG1{fr:Bool}{k:Nat}{f:Addr}{fd:FuncData}{ps:List Str}:FnOk P w K mg base (CXV P w) k f fd ps (spX fr fun _=>.no) :=
 ⟨fun _ _ _ _ ⟨_,_,_,_,k⟩=>k.elim,fun _ _ _ _ _ _ _ _ _ _ _ _ _ ⟨_,_,_,_,k⟩=>k.elim⟩
end
theorem yU1{C:Ct}{k:Nat}{f:Addr}{fd:FuncData}{ps:List Str}{fr:Bool}{F:List D->Res D}{x:Str}{p pos:Pos}{e:Expr}{es:List Expr}{ms:Ev->Res (List D)}{st:Stmt}(G:FnOk C.X.prog C.X.w C.X.K C.X.mg C.X.base (CXV C.X.prog C.X.w) k f fd ps (spX fr F))(hh:Has C.X.K C.X.mg x st f fd ps)(hr:Room k C.X.A)
  (hb:Br C) (ha:RArg C true (e::es) ms) (hg:autoParam (Gl C.X x) Dz) (hdb:autoParam ((x == ("__debug__":Str))=false) Dy) (he:autoParam (starEach (e::es) C.X.env=(false,eval e C.X.env)::starEach es C.X.env) Dz) (hpl:autoParam ((backTo pos (starEach es C.X.env)).any (·.1)=false) Dz) :
  RE C (mdF fr) (.Call (.Name x p) (e::es) [] pos) (eF F ms):=by
 obtain⟨t,pa,q⟩:=ha
 refine⟨_,vL G hr hg hh.m hh.F.kp hh.b .nil (passX hb) pa hdb he hpl,fun Oc Ob σ H ρ Q R h => ?_⟩
 refine q Oc Ob σ H ρ _ R (Res.zU (Res.zW h) (fun ds _ k vs H1 s1 r => ?_) fun c z=>z)
 show spX fr F (vs ++ []) H1 Q (wX C)
 rw[Ch]
 refine⟨ds,Uni Oc Ob,(R.same s1).oh,r,Res.zU k (fun d _ k v H' s2 rv => ?_) fun c z H' s2=>⟨c,rfl,rfl,z H' (s1.trans s2)⟩⟩
 refine k v H' (s1.trans s2) ?_
 cases fr with
 | false=>exact rv
 | true =>
  obtain⟨a,ys,ds,e1,e2,e3,e4,e5⟩:=rv
  exact⟨a,ys,ds,e1,e2,s1.free e3,e4,e5⟩
theorem yD8{C:Ct}{k:Nat}{f:Addr}{fd:FuncData}{ps:List Str}{fr:Bool}{F:List D->Res D}{x:Str}{p pos:Pos}{e:Expr}{es:List Expr}{ms:Ev->Res (List D)}{st:Stmt}(G:FnOk C.X.prog C.X.w C.X.K C.X.mg C.X.base (CXV C.X.prog C.X.w) k f fd ps (spX fr F))(hh:Has C.X.K C.X.mg x st f fd ps)(hr:Room k C.X.A)
  (hb:Br C) (ha:RArg C false (e::es) ms) (hg:autoParam (Gl C.X x) Dz) (hdb:autoParam ((x == ("__debug__":Str))=false) Dy) (he:autoParam (starEach (e::es) C.X.env=(false,eval e C.X.env)::starEach es C.X.env) Dz) (hpl:autoParam ((backTo pos (starEach es C.X.env)).any (·.1)=false) Dz) :
  RE C (mdF fr) (.Call (.Name x p) (e::es) [] pos) (eFA fr F ms):=by
 obtain⟨t,pa,q⟩:=ha
 refine⟨_,vL G hr hg hh.m hh.F.kp hh.b .nil (passX hb) pa hdb he hpl,fun Oc Ob σ H ρ Q R h => ?_⟩
 refine q Oc Ob σ H ρ _ R (Res.zU (Res.zW h) (fun ds _ k vs H1 s1 r => ?_) fun c z=>z)
 show spX fr F (vs ++ []) H1 Q (wX C)
 rw[Ch]
 refine⟨ds,fun b=>Uni Oc Ob b/\¬∃ys,H1 b=some (.lst ys),fun a z=>(R.same s1).oh a z.1,VAs.lent r,Res.zU (Res.zW k) (fun d _ k v H' s2 rv => ?_) fun c z H' s2=>⟨c,rfl,rfl,z H' (s1.trans s2)⟩⟩
 have hB:∀b,(∃ys,H1 b=some (.lst ys))->∃ys,H' b=some (.lst ys):=fun b ⟨ys,e⟩=>⟨ys,s2 _ _ e⟩
 by_cases hl:lfT fr d=true
 ·rw[Am hl] at k
  refine k v H' (s1.trans s2) ?_
  cases fr with
  | false=>exact Rep.lf hB rv (by cases d <;> exact hl)
  | true =>
   obtain⟨a,ys,ds,e1,rfl,e3,e4,e5⟩:=rv
   have e5':Reps H' (fun b=>(Uni Oc Ob b\/b=a)/\¬∃ys,H1 b=some (.lst ys)) ys ds:=e5.less fun b z=>z.1.elim (fun q=>.inl ⟨q,z.2⟩) .inr
   exact⟨a,ys,ds,e1,rfl,s1.free e3,e4,Reps.lf hB e5' hl⟩
 ·rw[AG hl] at k
  exact k.elim
section
variable {C:Ct}{k:Nat}{f:Addr}{fd:FuncData}{ps:List Str}{F:List D->Res D}{x:Str}{p pos:Pos}{e:Expr}{es:List Expr}{ms:Ev->Res (List D)}{st:Stmt}
theorem zL(G:FnOk C.X.prog C.X.w C.X.K C.X.mg C.X.base (CXV C.X.prog C.X.w) k f fd ps (spX false F))(hh:Has C.X.K C.X.mg x st f fd ps)(hr:Room k C.X.A)
  (hb:Br C) (ha:RArg C true (e::es) ms) (hg:autoParam (Gl C.X x) Dz) (hdb:autoParam ((x == ("__debug__":Str))=false) Dy) (he:autoParam (starEach (e::es) C.X.env=(false,eval e C.X.env)::starEach es C.X.env) Dz) (hpl:autoParam ((backTo pos (starEach es C.X.env)).any (·.1)=false) Dz) :
  RE C .cl (.Call (.Name x p) (e::es) [] pos) (eF F ms):=yU1 (fr:=false) G hh hr hb ha hg hdb he hpl
theorem kH(G:FnOk C.X.prog C.X.w C.X.K C.X.mg C.X.base (CXV C.X.prog C.X.w) k f fd ps (spX true F))(hh:Has C.X.K C.X.mg x st f fd ps)(hr:Room k C.X.A)
  (hb:Br C) (ha:RArg C true (e::es) ms) (hg:autoParam (Gl C.X x) Dz) (hdb:autoParam ((x == ("__debug__":Str))=false) Dy) (he:autoParam (starEach (e::es) C.X.env=(false,eval e C.X.env)::starEach es C.X.env) Dz) (hpl:autoParam ((backTo pos (starEach es C.X.env)).any (·.1)=false) Dz) :
  RE C .new (.Call (.Name x p) (e::es) [] pos) (eF F ms):=yU1 (fr:=true) G hh hr hb ha hg hdb he hpl
theorem yL1(G:FnOk C.X.prog C.X.w C.X.K C.X.mg C.X.base (CXV C.X.prog C.X.w) k f fd ps (spX false F))(hh:Has C.X.K C.X.mg x st f fd ps)(hr:Room k C.X.A)
  (hb:Br C) (ha:RArg C false (e::es) ms) (hg:autoParam (Gl C.X x) Dz) (hdb:autoParam ((x == ("__debug__":Str))=false) Dy) (he:autoParam (starEach (e::es) C.X.env=(false,eval e C.X.env)::starEach es C.X.env) Dz) (hpl:autoParam ((backTo pos (starEach es C.X.env)).any (·.1)=false) Dz) :
  RE C .cl (.Call (.Name x p) (e::es) [] pos) (eFA false F ms):=yD8 (fr:=false) G hh hr hb ha hg hdb he hpl
end
end L2.L3
namespace L2
open PySem PySem.Spec PyProof.Rows
section
variable {X:Cx}{DA:List (Addr×Obj)}{σ:St}{H:Hp}{s:Shared}
theorem Inv.track{a:Addr}{o:HO}(I:Inv X DA σ H s)(n:H a=none)(n0:X.s₀.heap.get? a=none)(nL:a≠X.env.locals)(nC:∀x c,X.env.cells.lookup x=some c->c≠a)(nP:∀p∈X.pn++DA,p.1≠a)(new:ObjOk X.prog X.w (upd H a o) s.heap a o):Inv X DA σ (upd H a o) s:=by
 have ne:∀b u,H b=some u->b≠a:=fun b u e z=>by subst z;rw[n] at e;cases e
 have up:∀b u,H b=some u->upd H a o b=some u:=fun b u e=>by rw[zO (ne b u e)];exact e
 refine⟨I.ok,I.os,I.bare,⟨I.base.keep,I.base.slot,fun b u q z hx => ?_,I.base.there,fun b xs q=>up _ _ (I.base.tups b xs q),fun b u v q=>up _ _ (I.base.frzs b u v q),fun b ps q => ?_⟩,I.loc,I.cell,?_,fun x c e => ?_,fun p hp => ?_,fun b u e => ?_,I.len⟩
 ·have:b≠a:=fun y=>by subst y;rw[n0] at q;cases q
  rw[zO this]
  exact I.base.free b u q z hx
 ·obtain⟨more,e⟩:=I.base.tbls b ps q
  exact⟨more,up _ _ e⟩
 ·rw[zO (Bd nL)]
  exact I.free
 ·rw[zO (nC x c e)]
  exact I.freeC x c e
 ·obtain⟨e,m,x1,x2,x3⟩:=I.pin p hp
  exact⟨e,by rw[zO (nP p hp)];exact m,x1,x2,x3⟩
 ·by_cases h:b=a
  ·subst h
   rw[zN] at e
   cases e
   exact new
  ·rw[zO h] at e
   exact (I.hok b u e).stay (fun _ _ _ q=>q) (fun c q=>up _ _ q) fun c xs q=>up _ _ q
end
end L2
namespace L2.L3
open PySem PySem.Spec PyProof.Rows
variable [CN]
abbrev bmV:List Value:=[.type "ValueError",.type "Exception",.type "BaseException",.type "object"]
def OwnX(K:KFr)(x:Str):Prop:=PySem.W.excIn K (CN.ad x) bmV "ValueError.__new__" = true
theorem xM7{K:KFr}{h:Heap}{A:Addr}{bmB:List Value}{nid:String}(X:K.In h)(q:PySem.W.excIn K A bmB nid=true) :
  ∃(tl:List Value) (N:Addr) (nm qn:Str) (bs:List Value) (hd:Bool) (sn:List Str) (sb:List Value) (ab:Bool) (co:Option Bool) (dd:Option Addr) (k0 k1 k2 k3 k5:Option Value) (mN:Str->Option Value),
   h.get? A=some (excClassObj nm qn A N bs tl hd sn sb ab co dd k0 k1 k2 k3 k5 nid)/\h.Ns N mN/\mN "__init__" = none/\OwnTail h bmB tl:=by
 revert q
 rw[PySem.W.excIn]
 split
 case h_2=>exact fun q=>nomatch q
 case h_1 dd cd sl lk =>
  split
  case h_2=>exact fun q=>nomatch q
  case h_1 A' tl j0 j1 j2 j3 nn j5 em es =>
   intro q
   rw[AH,AH,AH,AH,AH] at q
   have q6:=q.2
   have q5:=q.1.2
   have q4:=q.1.1.2
   have q3:=q.1.1.1.2
   have q2:=eq_of_beq q.1.1.1.1.2
   have q1:=eq_of_beq q.1.1.1.1.1
   cases cd
   cases sl
   simp only at em es q3 q5 q6
   subst em es q1 q2
   simp only[Bool.not_eq_true'] at q3
   subst q3
   exact⟨_,_,_,_,_,_,_,_,_,_,_,_,_,_,_,_,_,X _ _ lk,.of_isNs (PySem.W.isNs_of_in X q5),PySem.W.nsMap_none_of_in X q5 (eq_of_beq q6),PySem.W.tail_of_in X q4⟩
theorem xV3{X:Cx}{DA:List (Addr×Obj)}{σ:St}{H:Hp}{s:Shared}{c:Str}{h':Heap}{e:Addr}{args:List Value}(I:Inv X DA σ H s)(hro:rowOf c=none)(m:Heap.MadeExcOf s.heap h' e (.ref (CN.ad c)) args):ExcAt X c H (.ref e) { s with heap:=h' }:=by
 obtain⟨t,he,_,_⟩:=m.there
 have I2:Inv X DA σ H { s with heap:=h',toks:=s.toks }:=I.kept m.keeps
 have n:H e=none:=by
  cases q:H e with
  | none=>rfl
  | some o =>
   obtain⟨u,z⟩:=uQ (I.hok e o q)
   rw[m.new] at z
   cases z
 refine⟨DA,σ,s,H,e,PySem.W.hideAll h' (e::frs X.stack),.ref t,I,I2,Un.kept m.keeps,rfl,m.new,n,fun b o q=>CS _ q,CD _ (.head _),Da I2.stack fun env he a ha=>Ae _ (Bu.mpr ⟨env,he,ha⟩),.inr ⟨_,_,he,rfl,rfl,rfl,rfl⟩,⟨_,_,_,he,rfl,rfl,fun _=>rfl,fun r z=>by rw[hro] at z;cases z⟩,fun b o q nb z=>Cn _ q fun hb => ?_⟩
 rcases Aw.mp hb with rfl | hb
 ·rcases z with z | z
  ·exact z m.new
  ·exact z n
 ·exact nb hb
def sRa(c:Str)(m:Ev->Res (List D)):Ev->Res Out:=fun ρ=>(m ρ).bind fun ds=>if ds.length<=sizeLine then .ex c else .no
theorem xN{C:Ct}{fr:Bool}{x:Str}{np cpos pos:Pos}{e:Expr}{es:List Expr}{ms:Ev->Res (List D)}(hb:Br C)(ho:OwnX C.X.K x)(hm:C.X.mg x=some (.ref (CN.ad x)))(ha:RArg C false (e::es) ms)(hc:autoParam (C.X.calm=true) Dz)(hg:autoParam (Gl C.X x) Dz)(hdb:autoParam ((x == ("__debug__":Str))=false) Dy)
  (he:autoParam (starEach (e::es) C.X.env=(false,eval e C.X.env)::starEach es C.X.env) Dz) (hpl:autoParam ((backTo cpos (starEach es C.X.env)).any (·.1)=false) Dz) (hro:autoParam (rowOf x=none) autoK14._auto_1) :
  RS C fr (.Raise (some (.Call (.Name x np) (e::es) [] cpos)) none pos) (sRa x ms):=by
 obtain⟨t,pa,q⟩:=ha
 refine⟨fun _ σ H=>t σ H fun vs H1=>vs.length<=sizeLine/\C.XE x H1,fun DA s σ H D I h => ?_,fun Oc Ob σ H ρ E R h=>q Oc Ob σ H ρ _ R (Res.zU (Res.zW h) (fun ds _ k vs H' s r => ?_) fun c z H' s=>z H' (Same.frm s))⟩
 ·obtain⟨tl,N,nm,qn,bs,hd,sn,sb,ab,co,dd,k0,k1,k2,k3,k5,mN,hC,hN,hni,T⟩:=xM7 I.mod.kin ho
  refine wpAny_Raise_call_subT (C:=CN.ad x) (nm:=nm) (q:=qn) (N:=N) (bs:=bs) (bm:=tl) (hdct:=hd) (sn:=sn) (sub:=sb) (ab:=ab) (col:=co) (dd:=dd) (k0:=k0) (k1:=k1) (k2:=k2) (k3:=k3) (k5:=k5) Cf (mN:=mN) (T.hasType Cf.hasBase) (I.ok.hd hc)
   (by rw[he];show (false || (backTo cpos (starEach es C.X.env)).any (·.1))=false;rw[hpl];rfl) hni (vI I hg hm ⟨rfl,?_⟩ hdb)
  have h2:=pa cpos DA s σ H _ I h
  rw[he] at h2 ⊢
  refine Calls.evalArgs_plain (wpAny_mono h2 (fun us s2 ⟨vs,H2,I2,r,hl,z⟩ => ?_) fun _ _ y=>y)
  exact⟨rfl,by rw[<-r.length];exact hl,I2.bk _ _ hC,hN.keeps I2.bk,T.keeps I2.bk,fun h' a m=>hb x H2 _ _ (xV3 I2 hro m) z⟩
 ·by_cases hl:ds.length<=sizeLine
  ·rw[Am hl] at k
   exact⟨by rw[(VAs.rep r).length];exact hl,k H' (Same.frm s)⟩
  ·rw[AG hl] at k
   exact k.elim
end L2.L3
namespace PySem
section
variable {prog:Program}{w:World}{A:Around}{E:Value->Shared->Prop}{h:Heap}{g:Array GenState}{d:Drawn}{t:Nat}{os:OsState}{a C:Addr}{o:Obj}{K:KFr}
structure ExK(K:KFr)(C:Addr):Prop where
 ga:PySem.W.findIn K (.ref C) "__getattribute__" = some (some (.builtin "BaseException.__getattribute__"))
 gn:PySem.W.findIn K (.ref C) "__getattr__" = some none
 cl:PySem.W.findIn K (.ref C) "__class__" = some (some (.builtin "object.__class__"))
 sb:PySem.W.subIn K (.ref C) (.type "BaseException")=some true
 so:PySem.W.subIn K (.ref C) (.type "object")=some true
 ci:(PySem.W.clsIn K C).isSome=true
variable {dd:Option Addr}{dt:Data}{sl:Array (Option Value)}{x:Shared}
end
theorem fD{K:KFr}{M:Model}{A:Around}{E:Value->Shared->Prop}{Q:Bool->Shared->Prop}{s:Shared}{a c x:Addr}{o:Obj}(X:K.In s.heap)(he:s.heap.get? a=some o)(hc:o.cls=.ref c)(hk:PySem.W.kitCls K (.ref c) (.ref x)=some true)
  (hb:PySem.W.subIn K (.ref x) (.type "BaseException")=some true) (hq:Q true s):wpAny M A (excMatches (.ref a) (.ref x)) Q E s:=by
 obtain⟨hh,g,d,t,os⟩:=s
 obtain⟨L1,L2,L3⟩:=PySem.W.kit_cls (M:=M) X hk
 have L4:=PySem.W.looks_subIn (M:=M) X hb
 have f:=tc_notTuple
 unfold excMatches isExcClass
 repeat (first | (with_reducible refine wpAny_loadPart_at he ?_;rw[hc]) | (with_reducible refine L1.at ?_) | (with_reducible refine L2.at ?_) | (with_reducible refine L3.at ?_) | (with_reducible refine L4.at ?_) | wp_step)
 exact hq
end PySem
namespace L2.L3
open PySem PySem.Spec PyProof.Rows
variable [CN]
theorem zW6{X:Cx}{DA:List (Addr×Obj)}{σ:St}{H H1:Hp}{s s1:Shared}{a:Addr}{cls:Value}{ro:Option Nat}{B:Heap}{a0:Value}{h':Heap}(I1:Inv X DA σ H1 s1)(I:Inv X DA σ H s)(un:Un (frs X.stack) [] H1 H s1.heap s.heap)(f:Fl X.stack s1.heap H a cls ro B a0 s.heap)
  (k1:B.StaysIn h') (k2:h'.FunFrames B X.stack) (k4:s.heap.UpToSlots h'):Inv X DA σ H { s with heap:=h' }/\Un (frs X.stack) [] H1 H s1.heap h'/\∀b o,h'.get? b=some o->b∉frs X.stack->(s1.heap.get? b≠none\/H b≠none)->B.get? b=some o:=by
 have kp:∀b o,s.heap.get? b=some o->b∉frs X.stack->(s1.heap.get? b≠none\/H b≠none)->h'.get? b=some o:=fun b o q n z=>k1 b o (f.cov b o q n z)
 have un':Un (frs X.stack) [] H1 H s1.heap h':=by
  refine⟨fun b o q n hb hx=>kp b o (un.keep b o q n hb hx) hb (.inl (xM q)),fun b o q n hb hx => ?_,un.free,fun b o q hx => ?_,un.tups,un.frzs,un.tbls⟩
  ·obtain⟨sl,e⟩:=un.slot b o q n hb hx
   obtain⟨_,o',e',nf⟩:=f.frm.mem (b:=b) hb
   rw[e] at e'
   cases e'
   obtain⟨sl',e2⟩:=k4 b _ e nf
   exact⟨sl',e2⟩
  ·by_cases hb:b∈frs X.stack
   ·obtain⟨_,o',e',_⟩:=k2.mem (b:=b) hb
    exact⟨o',e'⟩
   ·obtain⟨o',e'⟩:=un.there b o q hx
    exact⟨o',kp b o' e' hb (.inl (xM q))⟩
 have hok:HOk X.prog X.w H h':=fun b o q=>by
  refine (I.hok b o q).stay (fun b' u hb' e => ?_) (fun _ z=>z) fun _ _ z=>z
  have n:H b'≠none:=by
   rcases hb' with rfl | hb'
   ·exact xM q
   ·exact xM hb'
  exact kp b' u e (fun z=>n (I.stkFree b' z)) (.inr n)
 refine⟨I1.call' (s':={ s with heap:=h' }) (I.os.trans I1.os.symm) un' hok I.bare (fun b z=>by cases z),un',fun b o q n z => ?_⟩
 obtain⟨o2,q2⟩:∃o2,s.heap.get? b=some o2:=by
  rcases z with z | z
  ·obtain⟨o',q'⟩:=jG z
   exact un.there b o' q' (by simp)
  ·exact zH3 I.hok z
 have hB:=f.cov b o2 q2 n z
 have q3:=k1 b o2 hB
 rw[q] at q3
 cases q3
 exact hB
theorem aD{X:Cx}{c:Str}{H:Hp}{e:Value}{s:Shared}{E2:Value->Shared->Prop}{Q:Shared->Prop}(x:ExcAt X c H e s)(hst:X.stack=X.env::X.outer)(hfr:X.env.frame=some X.env.locals)
  (hQ:∀(DA:List (Addr×Obj)) (σ:St) (s1:Shared) (H1:Hp) (a:Addr) (B:Heap) (a0:Value) (s':Shared),Inv X DA σ H1 s1->Inv X DA σ H s'->Un (frs X.stack) [] H1 H s1.heap s'.heap->e=.ref a->s1.heap.get? a=none->H a=none->Fl X.stack s1.heap H a (.ref (CN.ad c)) (rowOf c) B a0 s'.heap->s'.heap.TracedW B a (.ref (CN.ad c)) a0->Q s') :
  wpAny (model X.prog X.w) X.A (noteFrame e X.env) (fun _ s₂=>wpAny (model X.prog X.w) X.A (setFlight e none) (fun _ s₃=>Q s₃) E2 s₂) E2 s:=by
 obtain⟨DA,σ,s1,H1,a,B,a0,I1,I,un,rfl,n1,n2,f⟩:=x
 have hfrm:s.heap.FunFrames B (X.env::X.outer):=by rw[<-hst];exact f.frm
 have hA:X.A.frames=some (X.env::X.outer):=by rw[<-hst];exact I.ok.frames
 obtain⟨Φ,hP⟩:∃Φ,Φ=FlK (.ref (CN.ad c)) (rowOf c) B s1.heap H:=⟨_,rfl⟩
 have fk:KpX Φ a s.heap:=hP▸f.kp
 have key:∀h',Heap.NotedW B (X.env::X.outer) a (.ref (CN.ad c)) a0 (rawInt X.env.locals) s.heap h'->KpX Φ a h'->wpAny (model X.prog X.w) X.A (setFlight (.ref a) none) (fun _ s₃=>Q s₃) E2 { s with heap:=h' }:=by
  rintro h' ⟨k1,k2,k3,k4⟩ kh
  rw[<-hst] at k2
  refine flightK (s:={ s with heap:=h' }) (B:=B) (l:=X.stack) (cls:=.ref (CN.ad c)) (a0:=a0) k1 f.newB k2 k3 kh fun h2 fly ups kh2 => ?_
  have ups2:s.heap.UpToSlots h2:=Heap.UpToSlots.trans k4 ups
  obtain⟨J,un2,cov⟩:=zW6 I1 I un f fly.1 fly.2.2.1 ups2
  exact hQ DA σ s1 H1 a B a0 _ I1 J un2 rfl n1 n2 ⟨fly.1,f.newB,fly.2.2.1,.inl ⟨_,fly.2.2.2.at⟩,hP▸kh2,cov⟩ fly.2.2.2
 rcases f.raw with t | ⟨oe,vs,he,hc,hd,h1,h0⟩
 ·obtain⟨fl,t⟩:=t
  exact bZ hA hfrm hfr t f.stays f.newB fk key
 ·rw[<-hc] at key
  unfold noteFrame
  simp only[hfr]
  refine Ab (wpAny_field he hd h1 ?_)
  rw[AG (by decide)]
  exact entryK hA hfrm hfr he f.stays f.newB hd (Bc.mp h1).1 h0 fk key
theorem xL1{P:Program}{w:World}{H:Hp}{h:Heap}{d:Addr}{r:Int}(p:Row d r h):ObjOk P w H h d (.ext (Row d r)) :=
 ⟨p,let ⟨_,o,_,_,e,_⟩:=p; ⟨o,e⟩,fun _ _ q k=>q.keeps k⟩
abbrev inTry(X:Cx)(pn:List (Addr×Obj))(xe:Value->Shared->Prop):Cx:={ X with pn:=pn,xe:=xe }
abbrev inSuite(X:Cx)(e:Value):Cx:={ X with A:=X.A.mark (some e),calm:=false,xe:=fun _ _=>False }
theorem Inv.toTry{X:Cx}{DA:List (Addr×Obj)}{σ:St}{H:Hp}{s:Shared}(I:Inv X DA σ H s)(xe:Value->Shared->Prop):Inv (inTry X (X.pn++DA) xe) [] σ H s :=
 ⟨⟨I.ok.mod,I.ok.kind,I.ok.glob,I.ok.blt,I.ok.above,I.ok.inj,I.ok.has,I.ok.cab,I.ok.hd,I.ok.frames,I.ok.stk,I.ok.exf,I.ok.bs,I.ok.bsz,I.ok.noex,I.ok.exfs,I.ok.funs,I.ok.frf⟩,I.os,I.bare,I.base,I.loc,I.cell,I.free,I.freeC,fun p hp=>I.pin p (by simpa using hp),I.hok,I.len⟩
theorem Inv.ofTry{X:Cx}{DA pins':List (Addr×Obj)}{σ:St}{H:Hp}{s:Shared}{xe:Value->Shared->Prop}(I:Inv (inTry X (X.pn++DA) xe) pins' σ H s):Inv X DA σ H s :=
 ⟨⟨I.ok.mod,I.ok.kind,I.ok.glob,I.ok.blt,I.ok.above,I.ok.inj,I.ok.has,I.ok.cab,I.ok.hd,I.ok.frames,I.ok.stk,I.ok.exf,I.ok.bs,I.ok.bsz,I.ok.noex,I.ok.exfs,I.ok.funs,I.ok.frf⟩,I.os,I.bare,I.base,I.loc,I.cell,I.free,I.freeC,fun p hp=>I.pin p (AM _ hp),I.hok,I.len⟩
theorem Inv.toSuite{X:Cx}{DA:List (Addr×Obj)}{σ:St}{H:Hp}{s:Shared}(I:Inv X DA σ H s)(e:Value):Inv (inSuite X e) DA σ H s :=
 ⟨⟨I.ok.mod,I.ok.kind,I.ok.glob,I.ok.blt,I.ok.above,I.ok.inj,I.ok.has,I.ok.cab,(fun z=>nomatch z),I.ok.frames,I.ok.stk,I.ok.exf,I.ok.bs,I.ok.bsz,I.ok.noex,I.ok.exfs,I.ok.funs,I.ok.frf⟩,I.os,I.bare,I.base,I.loc,I.cell,I.free,I.freeC,I.pin,I.hok,I.len⟩
theorem Inv.ofSuite{X:Cx}{DA:List (Addr×Obj)}{σ:St}{H:Hp}{s:Shared}{e:Value}(ok:X.Ok)(I:Inv (inSuite X e) DA σ H s):Inv X DA σ H s :=
 ⟨ok,I.os,I.bare,I.base,I.loc,I.cell,I.free,I.freeC,I.pin,I.hok,I.len⟩
theorem SP.ofTry{X:Cx}{DA pins':List (Addr×Obj)}{xe:Value->Shared->Prop}{D:Ends}{f:Flow}{s':Shared}(h:SP (inTry X (X.pn++DA) xe) pins' D f s'):SP X DA D f s':=by
 cases f with
 | next=>obtain⟨σ',H',I,q⟩:=h;exact⟨σ',H',Inv.ofTry I,q⟩
 | brk=>obtain⟨σ',H',I,q⟩:=h;exact⟨σ',H',Inv.ofTry I,q⟩
 | cont=>obtain⟨σ',H',I,q⟩:=h;exact⟨σ',H',Inv.ofTry I,q⟩
 | ret u=>obtain⟨v,σ',H',I,r,q⟩:=h;exact⟨v,σ',H',Inv.ofTry I,r,q⟩
theorem zH7{α:Type}{r:Res α}{Q:α->Prop}{E:Str->Prop}(h:(noEx r).post Q E):r.post Q (fun _=>False):=by
 cases r with
 | ok a=>exact h
 | ex c=>exact h.elim
 | no=>exact h
section
variable {C:Ct}{e:Expr}{x:Str}{p p2 p3 pos:Pos}{md:Md}{me:Ev->Res D}
end
omit [CN] in
theorem xE(c:Str)(m:Ev->Res (List D))(ρ:Ev):sRa c m ρ=(m ρ).bind fun ds=>if ds.length<=sizeLine then .ex c else .no:=rfl
theorem zE6{K:KFr}{cls:List Str}{u:Value}(h:∀c∈cls,PySem.W.kitCls K (.ref (CN.ad c)) u=some true):∀c,cls.contains c=true->PySem.W.kitCls K (.ref (CN.ad c)) u=some true :=
 fun c hc=>h c (Bi.mp hc)
end L2.L3
namespace L2.L3
open PySem PySem.Spec PyProof.Rows
theorem zG6{K:KFr}{t c:Value}{v:Bool}(h:PySem.W.kitOne K t c=some v)(n:(t == c)=false):PySem.W.kitCls K t c=some v:=by
 rw[PySem.W.kitOne,AG (by rw[n];decide)] at h
 exact h
theorem wL{K:KFr}{A:Addr}{T:String}{v:Bool}(h:PySem.W.kitOne K (.ref A) (.type T)=some v):PySem.W.subIn K (.ref A) (.type T)=some v:=by
 have h2:=zG6 h rfl
 rw[PySem.W.kitCls] at h2
 split at h2
 ·exact h2
 ·cases h2
def cnOf(K:KFr):CN:=⟨fun x=>match PySem.W.nsIn K mainGlobals (if (rowOf x).isSome then "BadText" else x) with | some (some (.ref a))=>a | _=>0⟩
theorem zN5{K:KFr}{x:Str}{a:Addr}(h:PySem.W.nsIn K mainGlobals x=some (some (.ref a)))(hr:autoParam (rowOf x=none) autoK14._auto_1):(cnOf K).ad x=a:=by
 show (match PySem.W.nsIn K mainGlobals (if (rowOf x).isSome then "BadText" else x) with | some (some (.ref a))=>a | _=>0)=a
 rw[hr]
 show (match PySem.W.nsIn K mainGlobals x with | some (some (.ref a))=>a | _=>0)=a
 rw[h]
theorem yA5:rowOf "BadText" = none:=by decide +kernel
theorem yE5{F:List D->Res D}{k:Nat}{l:PySem.W.OpenLaw}{q:Program}{loose:List Str}{XP:(Str->Option Value)->Heap->Prop}{YP:World->Heap->Prop}{d:DefRec}{K:Params->KFr}(hT:∀ns:List Int,ns.length<=63->F [.list (ns.map PyData.int)]=.ok (.bool true))(hr:Room k callerA)(hn:l.most=some 63)(hdf:d.params.defaults=[])
  (hY:∀(w:World) (h:Heap),YP w h->(K w.params).In h) (hL:∀w:World,noLst (K w.params)=true)
  (hF:∀(w:World) (mg:Str->Option Value) (fa:Addr) (h:Heap),(K w.params).In h->h.Ns mainGlobals mg->mg d.name=some (.ref fa) ->
   ∃fd:FuncData,(∀(s:Shared) (u:Value),BindsTo s fd ⟨[u],[]⟩ [("script",u)])/\∀base:Heap,(K w.params).In base->base.Ns mainGlobals mg->FnOk l.prog w (K w.params) mg base (@CXV (cnOf (K w.params)) l.prog w) k fa fd ["script"] (@spX (cnOf (K w.params)) false F)) :
  PySem.W.WalkO q loose XP YP l.row.toRowW d [] (fun f vs=>PySem.call f vs):=by
 refine L2.xN2 (n:=63) (k:=k) (x:="script") (CX:=fun w=>@CXV (cnOf (K w.params)) l.prog w) (sp:=fun w=>@spX (cnOf (K w.params)) false F) hn (by decide) hdf hr hY hF (fun w H a ns hl hO hS => ?_) fun w H s e s' z => ?_
 ·letI:=cnOf (K w.params)
  refine⟨[.list (ns.map PyData.int)],fun _=>False,fun a z=>z.elim,.cons (.lst (xB3 (hL w) hS) (fun z=>z) (fA ns)) .nil,?_⟩
  rw[hT ns hl]
  intro v H' _ r
  cases (show Rep H' (fun _=>False) v (.bool true) from r)
  rfl
 ·obtain⟨_,_,_,_,_,_,_,_,_,_,_,_,_,_,z⟩:=z
  exact z
end L2.L3
namespace MR
theorem pigeon:∀(n:Nat) (f:Nat->Nat),(∀i,i<=n->f i<n)->∃i j,i<j/\j<=n/\f i=f j
 | 0,f,h=>absurd (h 0 (Ai _)) (by rfl')
 | n+1,f,h=>by
  by_cases c:∃i,i<=n/\f i=f (n+1)
  ·obtain⟨i,hi,e⟩:=c
   exact⟨i,n+1,by rfl',Ai _,e⟩
  ·have ne:∀i,i<=n->f i≠f (n+1):=fun i hi e=>c ⟨i,hi,e⟩
   obtain⟨i,j,h1,h2,e⟩:=pigeon n (fun i=>if f (n+1)<f i then f i-1 else f i) fun i hi=>by
    have a:=h i (by rfl')
    have b:=h (n+1) (Ai _)
    have d:=ne i hi
    show (if f (n+1)<f i then f i-1 else f i)<n
    split <;> rfl'
   refine⟨i,j,h1,by rfl',?_⟩
   have di:=ne i (by rfl')
   have dj:=ne j h2
   have e:(if f (n+1)<f i then f i-1 else f i)=(if f (n+1)<f j then f j-1 else f j):=e
   split at e <;> split at e <;> rfl'
structure Ord(n:Nat)(xs:List Int):Prop where
 len:xs.length=n
 bd:∀i,i<n->0<=xs.getD i 0/\xs.getD i 0<n
 inj:∀i j,i<n->j<n->xs.getD i 0=xs.getD j 0->i=j
def nxt(xs:List Int)(b:Nat):Nat:=(xs.getD b 0).toNat
def it(xs:List Int):Nat->Nat->Nat
 | 0,b=>b
 | k+1,b=>nxt xs (it xs k b)
section
variable {n:Nat}{xs:List Int}
theorem Ord.zB7(o:Ord n xs){b:Nat}(h:b<n):nxt xs b<n:=by
 have:=o.bd b h
 unfold nxt;rfl'
theorem Ord.gM(o:Ord n xs){b:Nat}(h:b<n):xs.getD b 0=(nxt xs b:Int):=by
 have:=o.bd b h
 unfold nxt;rfl'
theorem Ord.xL3(o:Ord n xs){b c:Nat}(h:b<n)(h':c<n)(e:nxt xs b=nxt xs c):b=c :=
 o.inj b c h h' (by rw[o.gM h,o.gM h',e])
theorem Ord.kR(o:Ord n xs){b:Nat}(h:b<n):∀k,it xs k b<n
 | 0=>h
 | k+1=>o.zB7 (o.kR h k)
theorem fP(xs:List Int)(b:Nat)(j:Nat):∀k,it xs (k+j) b=it xs k (it xs j b)
 | 0=>by rw[Nat.zero_add];rfl
 | k+1=>by rw[Nat.add_right_comm];show nxt xs (it xs (k+j) b)=nxt xs (it xs k (it xs j b));rw[fP xs b j k]
theorem Ord.zB2(o:Ord n xs){b c:Nat}(h:b<n)(h':c<n):∀k,it xs k b=it xs k c->b=c
 | 0,e=>e
 | k+1,e=>o.zB2 h h' k (o.xL3 (o.kR h k) (o.kR h' k) e)
theorem Ord.back(o:Ord n xs){b:Nat}(h:b<n):∃p,1<=p/\p<=n/\it xs p b=b:=by
 obtain⟨i,j,h1,h2,e⟩:=pigeon n (fun i=>it xs i b) fun i _=>o.kR h i
 refine⟨j-i,by rfl',by rfl',?_⟩
 have e2:it xs i (it xs (j-i) b)=it xs i b:=by
  rw[<-fP,show i+(j-i)=j by rfl']
  exact e.symm
 exact o.zB2 (o.kR h _) h i e2
def perGo(xs:List Int)(b:Nat):Nat->Nat->Nat
 | 0,k=>k
 | fuel+1,k=>if it xs k b=b then k else perGo xs b fuel (k+1)
theorem zP4(xs:List Int)(b:Nat):∀(fuel k:Nat),(∃p,k<=p/\p<=k+fuel/\it xs p b=b) ->
  k<=perGo xs b fuel k/\perGo xs b fuel k<=k+fuel/\it xs (perGo xs b fuel k) b=b/\∀i,k<=i->i<perGo xs b fuel k->it xs i b≠b
 | 0,k,⟨p,h1,h2,e⟩=>by
  have:p=k:=by rfl'
  subst this
  exact⟨Ai _,Ai _,e,fun i a c=>absurd (show i<p from c) (by rfl')⟩
 | fuel+1,k,⟨p,h1,h2,e⟩=>by
  by_cases c:it xs k b=b
  ·rw[perGo,Am c]
   exact⟨Ai _,by rfl',c,fun i a d=>absurd d (by rfl')⟩
  ·rw[perGo,AG c]
   have hp:k+1<=p:=by
    rcases Nat.lt_or_ge k p with q | q
    ·exact q
    ·have:p=k:=by rfl'
     subst this
     exact absurd e c
   obtain⟨a1,a2,a3,a4⟩:=zP4 xs b fuel (k+1) ⟨p,hp,by rfl',e⟩
   refine⟨by rfl',by rfl',a3,fun i hi hl => ?_⟩
   by_cases q:i=k
   ·rw[q];exact c
   ·exact a4 i (by rfl') hl
def per(n:Nat)(xs:List Int)(b:Nat):Nat:=perGo xs b (n-1) 1
theorem Ord.qG(o:Ord n xs){b:Nat}(h:b<n):1<=per n xs b/\per n xs b<=n/\it xs (per n xs b) b=b/\∀i,1<=i->i<per n xs b->it xs i b≠b:=by
 obtain⟨p,h1,h2,e⟩:=o.back h
 obtain⟨a1,a2,a3,a4⟩:=zP4 xs b (n-1) 1 ⟨p,h1,by rfl',e⟩
 exact⟨a1,by unfold per;rfl',a3,a4⟩
theorem Ord.xB4(o:Ord n xs){b:Nat}(h:b<n){i j:Nat}(hij:i<j)(hj:j<per n xs b):it xs i b≠it xs j b:=fun e=>by
 obtain⟨_,_,_,a4⟩:=o.qG h
 refine a4 (j-i) (by rfl') (by rfl') ?_
 refine o.zB2 (o.kR h _) h i ?_
 rw[<-fP,show i+(j-i)=j by rfl']
 exact e.symm
theorem yB1(xs:List Int)(b p:Nat)(e:it xs p b=b):∀k,it xs (k*p) b=b
 | 0=>by rw[Nat.zero_mul];rfl
 | k+1=>by rw[CJ,fP,e,yB1 xs b p e k]
theorem Ord.xE4(o:Ord n xs){b:Nat}(h:b<n)(k:Nat):it xs k b=it xs (k%per n xs b) b:=by
 obtain⟨a1,_,a3,_⟩:=o.qG h
 have e:k=k%per n xs b+(k / per n xs b)*per n xs b:=by rw[Nat.mul_comm];exact (Nat.mod_add_div k (per n xs b)).symm
 conv=>lhs;rw[e,fP,yB1 xs b _ a3]
def In(n:Nat)(xs:List Int)(b c:Nat):Prop:=∃i,i<per n xs b/\it xs i b=c
theorem Ord.yJ2(o:Ord n xs){b:Nat}(h:b<n)(k:Nat):In n xs b (it xs k b):=by
 obtain⟨a1,_⟩:=o.qG h
 exact⟨k%per n xs b,Nat.mod_lt _ (by rfl'),(o.xE4 h k).symm⟩
theorem Ord.xN9(o:Ord n xs){b:Nat}(h:b<n):In n xs b b:=o.yJ2 h 0
theorem Ord.xR5(o:Ord n xs){b c:Nat}(h:b<n)(hc:In n xs b c):c<n:=by
 obtain⟨i,_,rfl⟩:=hc
 exact o.kR h i
theorem Ord.xL6(o:Ord n xs){b c:Nat}(h:b<n)(hc:In n xs b c):In n xs c b:=by
 obtain⟨i,hi,rfl⟩:=hc
 obtain⟨a1,_,a3,_⟩:=o.qG h
 have e:it xs (per n xs b-i) (it xs i b)=b:=by rw[<-fP,show per n xs b-i+i=per n xs b by rfl'];exact a3
 have:=o.yJ2 (o.kR h i) (per n xs b-i)
 rw[e] at this
 exact this
theorem Ord.xV1(o:Ord n xs){b c d:Nat}(h:b<n)(hc:In n xs b c)(hd:In n xs c d):In n xs b d:=by
 obtain⟨i,_,rfl⟩:=hc
 obtain⟨j,_,rfl⟩:=hd
 rw[<-fP]
 exact o.yJ2 h _
def ring(n:Nat)(xs:List Int)(b:Nat):List Nat:=(List.range (per n xs b)).map fun i=>it xs i b
theorem yT4(n:Nat)(xs:List Int)(b:Nat):(ring n xs b).length=per n xs b:=by unfold ring;simp
theorem qF{b c:Nat}:c∈ring n xs b↔In n xs b c:=by
 unfold ring In
 simp only[AJ,AA]
theorem Ord.zR7(o:Ord n xs){b:Nat}(h:b<n):(ring n xs b).Nodup:=by
 unfold ring List.Nodup
 rw[List.pairwise_map]
 refine List.Pairwise.imp_of_mem ?_ (List.pairwise_lt_range (n:=per n xs b))
 intro i j hi hj hlt
 exact o.xB4 h hlt (AA.mp hj)
def has(rs:List (List Nat))(b:Nat):Bool:=rs.any fun r=>r.contains b
def rgs(n:Nat)(xs:List Int):Nat->List (List Nat)
 | 0=>[]
 | b+1=>if has (rgs n xs b) b then rgs n xs b else rgs n xs b ++ [ring n xs b]
theorem yS9{rs:List (List Nat)}{b:Nat}:has rs b=true ↔ ∃r∈rs,b∈r:=by
 unfold has
 simp[List.any_eq_true]
structure Rgs(n:Nat)(xs:List Int)(m:Nat)(rs:List (List Nat)):Prop where
 each:∀r∈rs,∃b,b<m/\r=ring n xs b/\∀c,In n xs b c->b<=c
 cover:∀c,c<m->∃r∈rs,c∈r
 nodup:rs.flatten.Nodup
 rise:rs.Pairwise fun r r'=>∀x∈r.head?,∀y∈r'.head?,x<y
theorem zY8(o:Ord n xs){b:Nat}(h:b<n):(ring n xs b).head?=some b:=by
 obtain⟨a1,_⟩:=o.qG h
 unfold ring
 obtain⟨p,hp⟩:∃p,per n xs b=p+1:=⟨per n xs b-1,by rfl'⟩
 rw[hp,List.range_succ_eq_map]
 rfl
theorem Ord.zQ5(o:Ord n xs):∀m,m<=n->Rgs n xs m (rgs n xs m)
 | 0,_=>⟨fun r hr=>by simp[rgs] at hr,fun c hc=>absurd hc (by rfl'),by simp[rgs],by simp[rgs]⟩
 | m+1,h=>by
  have ih:=o.zQ5 m (by rfl')
  by_cases c:has (rgs n xs m) m=true
  ·rw[rgs,Am c]
   refine⟨fun r hr => ?_,fun d hd => ?_,ih.nodup,ih.rise⟩
   ·obtain⟨b,hb,e,hm⟩:=ih.each r hr
    exact⟨b,by rfl',e,hm⟩
   ·by_cases q:d=m
    ·rw[q];exact yS9.mp c
    ·exact ih.cover d (by rfl')
  ·rw[rgs,AG c]
   have hm:m<n:=by rfl'
   have apart:∀d,In n xs m d->¬∃r∈rgs n xs m,d∈r:=fun d hd ⟨r,hr,hdr⟩=>by
    obtain⟨b,hb,rfl,_⟩:=ih.each r hr
    have h1:In n xs b d:=qF.mp hdr
    have h2:In n xs b m:=o.xV1 (by rfl') h1 (o.xL6 hm hd)
    exact c (yS9.mpr ⟨_,hr,qF.mpr h2⟩)
   refine⟨fun r hr => ?_,fun d hd => ?_,?_,?_⟩
   ·rcases AE.mp hr with hr | hr
    ·obtain⟨b,hb,e,hmin⟩:=ih.each r hr
     exact⟨b,by rfl',e,hmin⟩
    ·have:r=ring n xs m:=by simpa using hr
     refine⟨m,by rfl',this,fun d hd => ?_⟩
     rcases Nat.lt_or_ge d m with q | q
     ·exact absurd (ih.cover d q) (apart d hd)
     ·exact q
   ·by_cases q:d=m
    ·rw[q]
     exact⟨_,Ad _ (by simp),qF.mpr (o.xN9 hm)⟩
    ·obtain⟨r,hr,hd⟩:=ih.cover d (by rfl')
     exact⟨r,AM _ hr,hd⟩
   ·rw[CP,List.nodup_append]
    refine⟨ih.nodup,by simpa using o.zR7 hm,fun a ha b hb e => ?_⟩
    have hb':b∈ring n xs m:=by simpa using hb
    subst e
    obtain⟨r,hr,har⟩:=Cq.mp ha
    exact apart a (qF.mp hb') ⟨r,hr,har⟩
   ·rw[List.pairwise_append]
    refine⟨ih.rise,by simp,fun r hr r' hr' x hx y hy => ?_⟩
    have e:r'=ring n xs m:=by simpa using hr'
    obtain⟨b,hb,rfl,_⟩:=ih.each r hr
    rw[zY8 o (by rfl')] at hx
    rw[e,zY8 o hm] at hy
    have hx:x=b:=by simpa using hx.symm
    have hy:y=m:=by simpa using hy.symm
    rfl'
end
end MR
namespace L2.L3
open PySem PySem.Spec PyProof.Rows MR
variable [CN]
def pwD(m p:Int):Nat->Int
 | 0=>p
 | i+1=>pwD m p i / m
def Pot(a:Addr)(H H':Hp):Prop:=∀b o,H b=some o->b≠a->H' b=some o
theorem Pot.upd{a:Addr}{H:Hp}{o:HO}:Pot a H (upd H a o):=fun b u e n=>by rw[zO n];exact e
theorem Pot.trans{a:Addr}{H H1 H2:Hp}(h:Pot a H H1)(g:Pot a H1 H2):Pot a H H2:=fun b o e n=>g b o (h b o e n) n
theorem Pot.refl(a:Addr)(H:Hp):Pot a H H:=fun _ _ e _=>e
theorem Pot.new{a b:Addr}{H H1:Hp}{o:HO}(h:Pot a H H1)(hb:H1 b=none):Pot a H (L2.upd H1 b o):=fun c u e n=>by
 rw[zO (fun z=>by rw[z] at e;rw[z] at n;rw[h b u e n] at hb;cases hb)]
 exact h c u e n
def spTake:Sp:=fun vs H Q _=>∃(a:Addr) (p m:Int),vs=[.ref a,.int m]/\H a=some (.lst [.int p])/\DivOk m/\Q (.int (p%m)) (upd H a (.lst [.int (p / m)]))
def tTake(K:KFr):TS:=tSeq (tAsg (tOp (rI (fun _ j=>0<j) fun i j=>.int (i%j)) (tOp (rIxL K) (tVar 0) (tC (.int 0))) (tVar 1)) (gName 2)) (tSeq (tAsg (tOp (rI (fun _ j=>DivOk j) fun i j=>.int (i / j)) (tOp (rIxL K) (tVar 0) (tC (.int 0))) (tVar 1)) (gSub (tVar 0) (tC (.int 0)) rSetL)) (tRet (tVar 2)))
theorem yD4{K:KFr}{a:Addr}{p m:Int}{H:Hp}{E:Ends}(h:H a=some (.lst [.int p]))(hm:DivOk m)(k:E.rt (.int (p%m)) (upd H a (.lst [.int (p / m)]))):tTake K E [some (.ref a),some (.int m),none] H:=by
 refine⟨_,rfl,a,_,0,_,rfl,rfl,SqL.of h,rfl,_,rfl,_,_,rfl,rfl,hm.1,?_⟩
 refine⟨_,rfl,a,_,0,_,rfl,rfl,SqL.of h,rfl,_,rfl,_,_,rfl,rfl,hm,?_⟩
 exact⟨_,rfl,a,_,0,0,rfl,rfl,h,rfl,_,rfl,k⟩
section
variable {P:Program}{w:World}{K:KFr}{mg:Str->Option Value}{base:Heap}
theorem xQ4{x:Str}{st:Stmt}{f:Addr}{fd:FuncData}{N ps:List Str}{k:Nat}(F:Fun K x x st f fd)(S:zJ N ps (zS st))(hp:ps.length=2)(hN:N.length=3)
  (hbody:∀(cdv:Value) (A:Around) (outer:List Env) (s:Shared) (H:Hp) (E:XK),Room k (A.deeper (envOfC x (zS st) s.heap.objs.size f cdv))->PSs (cxOf CX0 P w K mg base N x (zS st) f cdv A outer s H E).nox (defBody st) (tTake K)) :
  FnOk P w K mg base CX0 (k+1) f fd ps spTake:=by
 refine F.ok S (fun vs H Q E ⟨a,p,m,e,_⟩=>by rw[e,hp];rfl) fun cdv A outer s H vs Q E hr h => ?_
 obtain⟨a,p,m,rfl,ha,hm,q⟩:=h
 refine⟨_,hbody cdv A outer s H E hr,?_⟩
 have st:start N [V.ref a,V.int m]=[some (.ref a),some (.int m),none]:=by
  unfold start
  rw[hN]
  rfl
 rw[st]
 exact yD4 ha hm q
end
def rTup(K:KFr):List V->Hp->VK->Prop:=fun xs H Q=>∃p ys,xs=[.ref p]/\((SqL K H p ys/\∀l,H l=none->Q (.ref l) (upd H l (.tup ys)))\/(SqT K H p ys/\Q (.ref p) H))
def rAdd:R2:=rI0 fun i j=>.int (i+j)
section
variable {P:Program}{w:World}{K:KFr}{mg:Str->Option Value}{base:Heap}
end
def rLnS(K:KFr):List V->Hp->VK->Prop:=fun xs H Q=>∃p ys,xs=[.ref p]/\(SqL K H p ys\/SqT K H p ys)/\Q (.int ys.length) H
section
variable {P:Program}{w:World}{K:KFr}{mg:Str->Option Value}{base:Heap}
end
theorem yP5(x:Int)(ns:List Int):inV (.int x) (ns.map V.int)=ns.contains x:=by
 unfold inV
 rw[List.any_map,List.contains_eq_any_beq]
 refine BQ (fun f=>ns.any f) (funext fun y => ?_)
 show eqV (.int y) (.int x)=(x == y)
 unfold eqV
 rw[Bool.eq_iff_iff]
 simp
 exact eq_comm
theorem zG9(ns:List Int):(ns.map V.int).all flatV=true:=by
 rw[List.all_map]
 exact AW.mpr fun _ _=>rfl
def clN(n:Nat)(bs:List Int):List Int:=((List.range n).filter fun (i:Nat)=>!bs.contains (i:Int)).map fun (i:Nat)=>(i:Int)
theorem yF4:∀(xs l:List Int),xs.Nodup->(∀x∈xs,x∈l)->xs.length<=l.length
 | [],_,_,_=>Bb _
 | x::xs,l,nd,h=>by
  have hx:=h x (Ac ..)
  have:=yF4 xs (l.erase x) (Ci.mp nd).2 fun y hy=>(List.mem_erase_of_ne (fun z:y=x=>(Ci.mp nd).1 (by rw[<-z];exact hy))).mpr (h y (Ae _ hy))
  rw[List.length_erase_of_mem hx] at this
  have:=List.length_pos_of_mem hx
  rw[AQ]
  rfl'
theorem xP4(n:Nat)(bs:List Int)(h:bs.length<n):0<(clN n bs).length:=by
 rcases Ds (clN n bs).length with z | z
 ·exfalso
  have all:∀i,i<n->(i:Int)∈bs:=fun i hi=>by
   have e:=List.length_eq_zero_iff.mp z
   unfold clN at e
   rw[BY,List.filter_eq_nil_iff] at e
   have:=e i (AA.mpr hi)
   simpa using this
  have nd:((List.range n).map fun (i:Nat)=>(i:Int)).Nodup:=List.Pairwise.map (fun (i:Nat)=>(i:Int)) (fun a b h e=>h (Int.ofNat.inj e)) De
  have:=yF4 _ bs nd (fun x hx=>by
   obtain⟨i,hi,rfl⟩:=AJ.mp hx
   exact all i (AA.mp hi))
  rw[Aa,Au] at this
  rfl'
 ·exact z
def runG(g:Nat->Int->D×Int):Nat->Int->List D×Int
 | 0,p=>([],p)
 | k+1,p=>((runG g k p).1 ++ [(g k (runG g k p).2).1],(g k (runG g k p).2).2)
def rSub:R2:=rI0 fun i j=>.int (i-j)
def tAppV(K:KFr)(i:Nat)(t:TE):TS:=tDrop (tBM K "list" rAppend (tVar i) (zH t tNil))
theorem evI(x y:Int):V.bl (if false=true then !PyData.eqv (.int x) (.int y) else PyData.eqv (.int x) (.int y))=.bl (decide (x=y)):=by rw[AG (by decide),zM6]
theorem yF8{a b:Addr}{u:HO}{H H':Hp}(r:Rd H b u)(po:Pot a H H')(n:b≠a):Rd H' b u:=vE r fun o e=>po b o e n
theorem Pot.none{a b:Addr}{H H':Hp}(po:Pot a H H')(n:b≠a)(h:H' b=none):H b=none:=by
 cases e:H b with
 | none=>rfl
 | some o=>rw[po b o e n] at h;cases h
section
variable {P:Program}{w:World}{K:KFr}{mg:Str->Option Value}{base:Heap}
end
section
variable {P:Program}{w:World}{K:KFr}{mg:Str->Option Value}{base:Heap}{CX:CXT}{k:Nat}{f:Addr}{fd:FuncData}{ps:List Str}
theorem wZ9{sp:Sp}(F:FnOk P w K mg base CX0 k f fd ps sp):FnOk P w K mg base CX k f fd ps sp :=
 ⟨F.len,fun A outer s H args us vs Q E hr he hb hv hs=>codeAny_mono (F.run A outer s H args us vs Q E hr he hb hv hs) fun r s' h=>by
  cases r with
  | ok fl =>
   cases fl with
   | ret u=>exact h
   | _=>exact h
  | error e=>exact h.elim⟩
theorem xD5{F:List D->Res D}{fr:Bool}(no:∀ds c,F ds ≠ .ex c)(G:FnOk P w K mg base CX0 k f fd ps (spF fr F)):FnOk P w K mg base CX k f fd ps (spX fr F) :=
 (wZ9 G).imp fun vs H Q E h=>by
  obtain⟨ds,O,oh,r,q⟩:=h
  refine⟨ds,O,oh,r,?_⟩
  cases e:F ds with
  | ok d=>rw[e] at q;exact q
  | no=>rw[e] at q;exact q
  | ex c=>exact absurd e (no ds c)
end
def frB(n:Nat)(bs:List Int):Nat->Nat->Nat
 | 0,d=>d
 | k+1,d=>if bs.contains (d:Int) then frB n bs k ((d+1)%n) else d
theorem rnd(n d:Nat)(hd:d<n)(b:Nat)(hb:b<n):∃j,j<n/\(d+j)%n=b:=by
 by_cases h:d<=b
 ·exact⟨b-d,by rfl',by rw[show d+(b-d)=b by rfl',Df hb]⟩
 ·exact⟨n-d+b,by rfl',by rw[show d+(n-d+b)=b+n by rfl',Nat.add_mod_right,Df hb]⟩
theorem zR3(n:Nat)(bs:List Int):∀(k d:Nat),(∃j,j<k/\bs.contains (((d+j)%n:Nat):Int)=false)->d<n->bs.contains ((frB n bs k d:Nat):Int)=false/\frB n bs k d<n
 | 0,d,h,_=>by obtain⟨j,hj,_⟩:=h;rfl'
 | k+1,d,h,hd=>by
  rw[frB]
  by_cases c:bs.contains (d:Int)=true
  ·rw[Am c]
   obtain⟨j,hj,e⟩:=h
   have n0:0<n:=by rfl'
   refine zR3 n bs k ((d+1)%n) ?_ (Nat.mod_lt _ n0)
   cases j with
   | zero =>
    rw[Nat.add_zero,Df hd,c] at e
    cases e
   | succ j =>
    refine⟨j,by rfl',?_⟩
    rw[Nat.mod_add_mod,show d+1+j=d+(j+1) by rfl']
    exact e
  ·rw[AG c]
   exact⟨by simpa using c,hd⟩
theorem yX7{n:Nat}{bs:List Int}(h:bs.length<n)(d:Nat)(hd:d<n):∃j,j<n/\bs.contains (((d+j)%n:Nat):Int)=false:=by
 have cp:=xP4 n bs h
 obtain⟨x,this⟩:=List.exists_mem_of_length_pos cp
 unfold clN at this
 obtain⟨b,hb,_⟩:=AJ.mp this
 obtain⟨h1,h2⟩:=Cg.mp hb
 obtain⟨j,hj,e⟩:=rnd n d hd b (AA.mp h1)
 exact⟨j,hj,by rw[e];simpa using h2⟩
abbrev W2:=List (Nat×Nat)
abbrev wB(ws:W2):List Int:=ws.map fun z=>(z.1:Int)
abbrev wN(p:Nat)(ws:W2):List Int:=(p:Int)::ws.map fun z=>(z.2:Int)
def trH(n p:Nat):Nat->W2->Int->D×Int
 | 0,_,q=>(.none,q)
 | l+1,ws,q =>
  if q%((n:Int)+1)=(n:Int) then (.none,q / ((n:Int)+1))
  else (fun (b:Nat)=>(fun r:List D×Int=>(PyData.tuple [.int (b:Int),.tuple r.1],r.2))
   (runG (fun i q=>if (wN p ws).contains (i:Int) then (.none,q) else trH n p l (ws ++ [(b,i)]) q) n (q / ((n:Int)+1)))) (frB n (wB ws) n (q%((n:Int)+1)).toNat)
def nxH(n p l:Nat)(ws:W2)(b:Nat):Nat->Int->D×Int:=fun i q=>if (wN p ws).contains (i:Int) then (.none,q) else trH n p l (ws ++ [(b,i)]) q
theorem yQ8{n p l:Nat}{ws:W2}{q:Int}(h:q%((n:Int)+1)=(n:Int)):trH n p (l+1) ws q=(.none,q / ((n:Int)+1)):=by rw[trH,Am h]
theorem yD7{n p l b:Nat}{ws:W2}{q:Int}(h:¬q%((n:Int)+1)=(n:Int))(e:frB n (wB ws) n (q%((n:Int)+1)).toNat=b) :
  trH n p (l+1) ws q=(.tuple [.int (b:Int),.tuple (runG (nxH n p l ws b) n (q / ((n:Int)+1))).1],(runG (nxH n p l ws b) n (q / ((n:Int)+1))).2):=by
 subst e
 rw[trH,AG h]
 rfl
inductive WV(H:Hp):List V->W2->Prop
 | nil:WV H [] []
 | cons {q:Addr}{b m:Nat}{vs:List V}{ws:W2}:Rd H q (.tup [.int (b:Int),.int (m:Int)])->WV H vs ws->WV H (.ref q::vs) ((b,m)::ws)
theorem WV.keep{H H':Hp}:∀{vs:List V}{ws:W2},WV H vs ws->(∀(q:Addr) (o:HO) (xs:List V),Rd H q (.tup xs)->H q=some o->H' q=some o)->WV H' vs ws
 | _,_,.nil,_=>.nil
 | _,_,.cons r t,k=>.cons (vE r fun o e=>k _ o _ r e) (t.keep k)
theorem WV.app{H:Hp}{q:Addr}{b m:Nat}:∀{vs:List V}{ws:W2},WV H vs ws->Rd H q (.tup [.int (b:Int),.int (m:Int)])->WV H (vs ++ [.ref q]) (ws ++ [(b,m)])
 | _,_,.nil,r=>.cons r .nil
 | _,_,.cons r t,r'=>.cons r (t.app r')
theorem WV.len{H:Hp}:∀{vs:List V}{ws:W2},WV H vs ws->vs.length=ws.length
 | _,_,.nil=>rfl
 | _,_,.cons _ t=>BQ (·+1) t.len
theorem WV.get{H:Hp}:∀{vs:List V}{ws:W2}{i:Nat}{x:V},WV H vs ws->vs[i]?=some x->∃q b m,x=.ref q/\ws[i]?=some (b,m)/\Rd H q (.tup [.int (b:Int),.int (m:Int)])
 | _,_,_,_,.nil,e=>by simp at e
 | _,_,0,_,.cons r _,e=>by simp at e;subst e;exact⟨_,_,_,rfl,rfl,r⟩
 | _,_,i+1,_,.cons _ t,e=>by
  obtain⟨q,b,m,h1,h2,h3⟩:=t.get (i:=i) (by simpa using e)
  exact⟨q,b,m,h1,by simpa using h2,h3⟩
theorem xA3{H:Hp}{a q:Addr}{xs ys:List V}(ha:H a=some (.lst xs))(r:Rd H q (.tup ys)):q≠a:=fun z=>by
 rw[z] at r
 rcases r with r | ⟨o,r⟩ <;> (rw[ha] at r;cases r)
theorem WV.pot{H H':Hp}{a:Addr}{xs:List V}{vs:List V}{ws:W2}(h:WV H vs ws)(ha:H a=some (.lst xs))(po:Pot a H H'):WV H' vs ws:=h.keep fun q o ys r e=>po q o e (xA3 ha r)
def spH(k:Nat):Sp:=fun vs H Q _=>∃(O:Addr->Prop) (a aw:Addr) (q:Int) (n p l:Nat) (ws:W2) (wv:List V),(∀x,O x->H x≠none)/\O a/\H a=some (.lst [.int q])/\vs=[.ref a,.int (p:Int),.int (n:Int),.ref aw,.int (l:Int)] /\
 Rd H aw (.lst wv)/\aw≠a/\WV H wv ws/\l<k/\0<n/\n<=100/\ws.length+l<=n /\
 ∀v H',Pot a H H'->H' a=some (.lst [.int (trH n p l ws q).2])->Rep H' O v (trH n p l ws q).1->Q v H'
def tHF(K:KFr)(sp:Sp):TS:=tFor (iRng1 (zH (tVar 2) tNil)) (gName 9) (tSeq (tAsg (tC .non) (gName 10)) (tSeq (tIfS (tTest (tOp (rIn K true) (tVar 9) (tVar 7)))
 (tAsg (tCall sp [] E0 (zH (tVar 0) (zH (tVar 1) (zH (tVar 2) (zH (tOp rCatR (tVar 3) (tLst (zH (tTup (zH (tVar 5) (zH (tVar 9) tNil))) tNil))) (zH (tOp rSub (tVar 4) (tC (.int 1))) tNil)))))) (gName 10)) tNext) (tAppV K 8 (tVar 10))))
def tHE(K:KFr):TS:=tRet (tTup (zH (tVar 5) (zH (tCB (rTup K) (zH (tVar 8) tNil)) tNil)))
def tHC(K:KFr)(j:Int):TE:=tComp (iList K (tVar 3)) (fun _ _ _ _=>tTrue) (fun _ _ _ _=>tOp (rIxT K) (tVar 0) (tC (.int j))) []
def tHN(K:KFr)(sp:Sp):TS:=tSeq (tAsg (tOp rCatR (tLst (zH (tVar 1) tNil)) (tHC K 1)) (gName 7)) (tSeq (tAsg (tLst tNil) (gName 8)) (tSeq (tHF K sp) (tHE K)))
def tHW(K:KFr):TS:=tWhile (tTest (tOp (rIn K false) (tVar 5) (tVar 6))) (tAsg (tOp (rI (fun _ j=>0<j) fun i j=>.int (i%j)) (tOp rAdd (tVar 5) (tC (.int 1))) (tVar 2)) (gName 5))
def tH(K:KFr)(sp:Sp):TS :=
 tSeq (tIfS (tTest (tOp (rEqD K false) (tVar 4) (tC (.int 0)))) (tRet (tC .non)) tNext)
 (tSeq (tAsg (tCall spTake [] E0 (zH (tVar 0) (zH (tOp rAdd (tVar 2) (tC (.int 1))) tNil))) (gName 5))
 (tSeq (tIfS (tTest (tOp (rEqD K false) (tVar 5) (tVar 2))) (tRet (tC .non)) tNext)
 (tSeq (tAsg (tHC K 0) (gName 6)) (tSeq (tHW K) (tHN K sp)))))
theorem seqA{te:TE}{g:TG}{u:TS}{D:Ends}{σ:St}{H:Hp}(h:te σ H fun x H1=>g x σ H1 (u D)):tSeq (tAsg te g) u D σ H:=h
theorem yP1{K:KFr}{σ:St}{H:Hp}{aw:Addr}{wv:List V}{ws:W2}{j:Int}{f:Nat×Nat->Nat}{Q:VK}(h3:σ[3]?=some (some (.ref aw)))(rw':Rd H aw (.lst wv))(W:WV H wv ws)(hl:ws.length<=900)(hf:∀z:Nat×Nat,atI [V.int (z.1:Int),.int (z.2:Int)] j=some (.int (f z:Int)))
  (k:∀p,H p=none->Q (.ref p) (upd H p (.lst ((ws.map fun z=>((f z:Nat):Int)).map V.int)))):tHC K j σ H Q:=by
 have lw:=W.len
 refine⟨_,h3,aw,rfl,⟨wv,.inl rw'⟩,fun C fp s₂ H₂ => ?_⟩
 refine yB3 (K:=K) (a:=aw) (xs:=wv) (tt:=tTrue) (te:=tOp (rIxT K) (tVar 0) (tC (.int j))) (js:=[]) (σ:=σ) (Q:=Q) (fun i acc H'=>H'=H/\acc=((ws.take i).map fun z=>((f z:Nat):Int)).map V.int) ⟨rfl,by simp⟩ (fun i acc H' _ h=>by rw[h.1];exact .inl rw') ?_ ?_
 ·rintro i x acc H' hx ⟨rfl,rfl⟩
  unfold tTrue
  simp only[if_true]
  obtain⟨q,b,m,rfl,e,r⟩:=W.get hx
  have hi:i<wv.length:=(Aj.mp hx).1
  refine⟨_,rfl,q,_,j,_,rfl,rfl,.inl r,hf (b,m),by rw[Aa,Aa,Bo];exact small1000 (by rfl'),rfl,?_⟩
  rw[CI,e,AT,AT]
  rfl
 ·rintro acc H' ⟨rfl,rfl⟩ p hp
  rw[lw,Bz]
  exact k p hp
theorem xK7{K:KFr}{O:Addr->Prop}{H0 H:Hp}{a la:Addr}{v1 v2 v3 v4 v6 v7 v9 v10:Option V}{b q:Int}{vs:List V}{ds:List D}{E:Ends}(oh:∀x,O x->H0 x≠none)(po:Pot a H0 H)(ha:H a=some (.lst [.int q]))(fl:H0 la=none)(al:la≠a)(hl:H la=some (.lst vs))(rs:Reps H (fun x=>O x\/x=la) vs ds)
  (k:∀v H',Pot a H0 H'->H' a=some (.lst [.int q])->Rep H' O v (.tuple [.int b,.tuple ds])->E.rt v H'):tHE K E [some (.ref a),v1,v2,v3,v4,some (.int b),v6,v7,some (.ref la),v9,v10] H:=by
 refine⟨_,rfl,_,rfl,la,_,rfl,.inl ⟨SqL.of hl,fun t ht=>⟨by show 2<=sizeLine;decide,fun r hr => ?_⟩⟩⟩
 have ta:t≠a:=fun z=>by rw[z,ha] at ht;cases ht
 have tr:t≠r:=fun z=>by rw[<-z,zN] at hr;cases hr
 have hr1:H r=none:=by rw[zO (fun z=>tr z.symm)] at hr;exact hr
 have ra:r≠a:=fun z=>by rw[z,ha] at hr1;cases hr1
 have po1:=(po.new (o:=.tup vs) ht).new (o:=.tup [.int b,.ref t]) hr
 refine k _ _ po1 ?_ (.tup (.inl zN) (fun z=>oh r z (po.none ra hr1)) (.cons (.int b) (.cons (.tup (xs:=vs) (.inl ?_) (fun z=>oh t z (po.none ta ht)) ?_) .nil)))
 ·rw[zO (fun z=>ra z.symm),zO (fun z=>ta z.symm)]
  exact ha
 ·rw[zO tr]
  exact zN
 ·refine rs.keep (fun x o e _ => ?_) fun x _ z=>.inl z
  have xt:x≠t:=fun z=>by rw[z,ht] at e;cases e
  have xr:x≠r:=fun z=>by rw[z,hr1] at e;cases e
  rw[zO xr,zO xt]
  exact e
theorem xJ7{K:KFr}{k n p l b:Nat}{ws:W2}{wv:List V}{q2:Int}{O:Addr->Prop}{H0:Hp}{a aw an la:Addr}{v6:Option V}{E:Ends}(oh:∀x,O x->H0 x≠none)(oa:O a){q0:Int}(ha0:H0 a=some (.lst [.int q0]))(rw':Rd H0 aw (.lst wv))(nw:aw≠a)(W:WV H0 wv ws)(fl:H0 la=none)(al:la≠a)(fan:H0 an=none)(nan:an≠a)(lan:la≠an)(hk:l<k)(n0:0<n)(hn:n<=100)(hb:ws.length+(l+1)<=n)
  (kk:∀v9 v10 vs H,Pot a H0 H->H a=some (.lst [.int (runG (nxH n p l ws b) n q2).2])->H la=some (.lst vs)->Reps H (fun x=>O x\/x=la) vs (runG (nxH n p l ws b) n q2).1 ->
   E.nx [some (.ref a),some (.int (p:Int)),some (.int (n:Int)),some (.ref aw),some (.int ((l+1:Nat):Int)),some (.int (b:Int)),v6,some (.ref an),some (.ref la),v9,v10] H)
  {H:Hp}(po:Pot a H0 H) (ha:H a=some (.lst [.int q2])) (hl:H la=some (.lst [])) (hn7:H an=some (.lst ((wN p ws).map V.int))) :
  tHF K (spH k) E [some (.ref a),some (.int (p:Int)),some (.int (n:Int)),some (.ref aw),some (.int ((l+1:Nat):Int)),some (.int (b:Int)),v6,some (.ref an),some (.ref la),none,none] H:=by
 refine⟨_,rfl,(n:Int),rfl,by rfl',by rfl',?_⟩
 rw[Be]
 have keepL:∀{H':Hp}{o:HO},Pot a H0 H'->Pot a H0 (upd H' la o):=fun {H' o} h c u e n=>by
  rw[zO (fun z=>by rw[z,fl] at e;cases e)]
  exact h c u e n
 refine xZ7 (fun i σ H=>∃v9 v10 vs,σ=[some (.ref a),some (.int (p:Int)),some (.int (n:Int)),some (.ref aw),some (.int ((l+1:Nat):Int)),some (.int (b:Int)),v6,some (.ref an),some (.ref la),v9,v10]/\Pot a H0 H/\H a=some (.lst [.int (runG (nxH n p l ws b) i q2).2])/\H la=some (.lst vs)/\H an=some (.lst ((wN p ws).map V.int))/\vs.length=i/\Reps H (fun x=>O x\/x=la) vs (runG (nxH n p l ws b) i q2).1) ⟨none,none,[],rfl,po,ha,hl,hn7,rfl,.nil⟩ ?_ ?_
 ·clear po ha hl hn7 H
  rintro i σ H hi ⟨v9,v10,vs,rfl,po,ha,hl,hn7,lv,rs⟩
  rw[Int.zero_add]
  have fin:∀{H':Hp}{v:V}{d:D}{q:Int},Pot a H0 H'->H' a=some (.lst [.int q])->H' la=some (.lst vs)->H' an=some (.lst ((wN p ws).map V.int))->Reps H' (fun x=>O x\/x=la) vs (runG (nxH n p l ws b) i q2).1->Rep H' (fun x=>O x\/x=la) v d->nxH n p l ws b i (runG (nxH n p l ws b) i q2).2=(d,q) ->
    ∃v9 v10 vs',[some (V.ref a),some (.int (p:Int)),some (.int (n:Int)),some (.ref aw),some (.int ((l+1:Nat):Int)),some (.int (b:Int)),v6,some (.ref an),some (.ref la),some (.int (i:Int)),some v]=[some (.ref a),some (.int (p:Int)),some (.int (n:Int)),some (.ref aw),some (.int ((l+1:Nat):Int)),some (.int (b:Int)),v6,some (.ref an),some (.ref la),v9,v10]/\Pot a H0 (upd H' la (.lst (vs ++ [v])))/\(upd H' la (.lst (vs ++ [v]))) a=some (.lst [.int (runG (nxH n p l ws b) (i+1) q2).2])/\(upd H' la (.lst (vs ++ [v]))) la=some (.lst vs')/\(upd H' la (.lst (vs ++ [v]))) an=some (.lst ((wN p ws).map V.int))/\vs'.length=i+1/\Reps (upd H' la (.lst (vs ++ [v]))) (fun x=>O x\/x=la) vs' (runG (nxH n p l ws b) (i+1) q2).1:=by
   intro H' v d q po' ha' hl' hn' rs' rv e
   have kp:∀c o,H' c=some o->¬(O c\/c=la)->(upd H' la (.lst (vs ++ [v]))) c=some o:=fun c o e n=>by rw[zO (fun z=>n (.inr z))];exact e
   refine⟨_,_,vs ++ [v],rfl,keepL po',?_,zN,by rw[zO (Bd lan)];exact hn',by rw[Aq,lv];rfl,?_⟩
   ·rw[zO (fun z=>al z.symm),ha',runG,e]
   ·rw[runG,e]
    exact (rs'.keep kp fun _ _ z=>z).append (.one (rv.keep kp fun _ _ z=>z))
  refine⟨_,rfl,_,rfl,an,_,rfl,.inl (SqL.of hn7),rfl,zG9 _,_,rfl,?_⟩
  rw[yP5]
  simp only[if_true]
  by_cases c:(wN p ws).contains (i:Int)=true
  ·rw[c]
   simp only[BS,AB,if_false]
   refine⟨_,rfl,.inl ⟨rfl,_,SqL.of hl⟩,_,rfl,la,vs,.non,rfl,rfl,hl,by rw[lv];exact small1000 (by rfl'),?_⟩
   exact fin po ha hl hn7 rs .non (by unfold nxH;rw[Am c])
  ·rw[Bool.not_eq_true] at c
   rw[c]
   simp only[Bv,if_true]
   refine⟨_,rfl,_,rfl,_,rfl,_,rfl,_,rfl,_,rfl,by show 2<=sizeLine;decide,fun t1 h1=>⟨by show 1<=sizeLine;decide,fun t2 h2 => ?_⟩⟩
   have S1:=Same.new (H:=H) (o:=.tup [.int (b:Int),.int (i:Int)]) h1
   have S2:=Same.new (o:=.lst [.ref t1]) h2
   have S12:=S1.trans S2
   have rwH:Rd H aw (.lst wv):=yF8 rw' po nw
   have WH:WV H wv ws:=W.pot ha0 po
   have lw:=WH.len
   refine⟨aw,t2,wv,[.ref t1],rfl,rfl,vE rwH fun o e=>S12 _ o e,.inl zN,by rw[lw];exact Bw (small1000 (by show ws.length+1<=1000;rfl')),fun q1 h1'=>⟨_,rfl,_,_,rfl,rfl,?_⟩⟩
   have S3:=Same.new (o:=.lst (wv ++ [.ref t1])) h1'
   have S:=S12.trans S3
   have qa:q1≠a:=fun z=>by rw[z,S12 _ _ ha] at h1';cases h1'
   have W3:WV (upd (upd (upd H t1 (.tup [.int (b:Int),.int (i:Int)])) t2 (.lst [.ref t1])) q1 (.lst (wv ++ [.ref t1]))) (wv ++ [.ref t1]) (ws ++ [(b,i)]):=(WH.keep fun q o ys r e=>S q o e).app (.inl ((S2.trans S3) _ _ zN))
   refine⟨fun x=>O x\/x=la,a,q1,_,n,p,l,ws ++ [(b,i)],wv ++ [.ref t1],?_,.inl oa,S _ _ ha,?_,.inl zN,qa,W3,hk,n0,hn,by rw[Aq];simp;rfl',fun v H' po' ha' rv => ?_⟩
   ·intro x hx
    rcases hx with hx | hx
    ·by_cases z:x=a
     ·rw[z,S _ _ ha];exact fun z=>nomatch z
     ·cases e:H0 x with
      | none=>exact absurd e (oh x hx)
      | some o=>rw[S _ _ (po x o e z)];exact fun z=>nomatch z
    ·rw[hx,S _ _ hl];exact fun z=>nomatch z
   ·show [V.ref a,V.int (p:Int),V.int (n:Int),V.ref q1,V.int (((l+1:Nat):Int)-1)]=_
    rw[show ((l+1:Nat):Int)-1=(l:Int) by rfl']
   ·have pH:Pot a H H':=fun c o e n=>po' c o (S c o e) n
    have kp:∀c o,H c=some o->¬(O c\/c=la)->H' c=some o:=fun c o e n=>pH c o e fun z=>n (.inl (by rw[z];exact oa))
    have hl':=pH la _ hl al
    refine⟨_,rfl,.inl ⟨rfl,_,SqL.of hl'⟩,_,rfl,la,vs,v,rfl,rfl,hl',by rw[lv];exact small1000 (by rfl'),?_⟩
    exact fin (po.trans pH) ha' hl' (pH an _ hn7 nan) (rs.keep kp fun _ _ z=>z) rv (by unfold nxH;rw[c,AG Ap])
 ·rintro σ H ⟨v9,v10,vs,rfl,po,ha,hl,_,_,rs⟩
  exact kk v9 v10 vs H po ha hl rs
theorem xN5{K:KFr}{n:Nat}{bs:List Int}{H:Hp}{ab:Addr}{v0 v1 v3 v4:Option V}{E:Ends}(n0:0<n)(hn:n<=100)(hb:H ab=some (.lst (bs.map V.int))):∀(k d:Nat),d<n->(∃j,j<k/\bs.contains (((d+j)%n:Nat):Int)=false) ->
  E.nx [v0,v1,some (.int (n:Int)),v3,v4,some (.int ((frB n bs k d:Nat):Int)),some (.ref ab),none,none,none,none] H->tHW K E [v0,v1,some (.int (n:Int)),v3,v4,some (.int (d:Int)),some (.ref ab),none,none,none,none] H:=by
 intro k d hd hj kk
 refine⟨fun m σ H'=>∃d',d'<n/\(∃j,j<m/\bs.contains (((d'+j)%n:Nat):Int)=false)/\σ=[v0,v1,some (.int (n:Int)),v3,v4,some (.int ((d':Nat):Int)),some (.ref ab),none,none,none,none]/\H'=H/\frB n bs m d'=frB n bs k d,⟨k,d,hd,hj,rfl,rfl,rfl⟩,?_⟩
 clear hj
 rintro m σ H' ⟨d',hd',⟨j,hj,ej⟩,rfl,rfl,e⟩
 obtain⟨m,rfl⟩:∃m',m=m'+1:=⟨m-1,by rfl'⟩
 refine⟨_,rfl,_,rfl,ab,_,rfl,.inl (SqL.of hb),rfl,zG9 bs,_,rfl,?_⟩
 rw[yP5]
 simp only[AB,if_false]
 rw[frB] at e
 cases c:bs.contains (d':Int) with
 | true =>
  rw[Am c] at e
  simp only[if_true]
  refine⟨fun σ' H''=>σ'=[v0,v1,some (.int (n:Int)),v3,v4,some (.int (((d'+1)%n:Nat):Int)),some (.ref ab),none,none,none,none]/\H''=H',fun σ' H'' h=>⟨m,by rfl',(d'+1)%n,Nat.mod_lt _ n0,?_,h.1,h.2,e⟩,?_⟩
  ·cases j with
   | zero =>
    rw[Nat.add_zero,Df hd',c] at ej
    cases ej
   | succ j =>
    refine⟨j,by rfl',?_⟩
    rw[Nat.mod_add_mod,show d'+1+j=d'+(j+1) by rfl']
    exact ej
  ·refine⟨_,rfl,_,_,rfl,rfl,_,rfl,_,_,rfl,rfl,by rfl',?_,rfl⟩
   show [v0,v1,some (V.int (n:Int)),v3,v4,some (.int (((d':Int)+1)%(n:Int))),some (.ref ab),none,none,none,none]=_
   rw[show ((d':Int)+1)%(n:Int)=(((d'+1)%n:Nat):Int) by rw[Int.natCast_emod];rfl]
 | false =>
  rw[AG (by rw[c];exact Ap)] at e
  simp only[AB,if_false]
  rw[<-e] at kk
  exact kk
theorem yL7{K:KFr}{k n p l:Nat}{ws:W2}{wv:List V}{q:Int}{O:Addr->Prop}{H:Hp}{a aw:Addr}{E:Ends}(oh:∀x,O x->H x≠none)(oa:O a)(ha:H a=some (.lst [.int q]))(rw':Rd H aw (.lst wv))(nw:aw≠a)(W:WV H wv ws)(hk:l<k+1)(n0:0<n)(hn:n<=100)(hb:ws.length+l<=n)
  (kk:∀v H',Pot a H H'->H' a=some (.lst [.int (trH n p l ws q).2])->Rep H' O v (trH n p l ws q).1->E.rt v H') :
  tH K (spH k) E [some (.ref a),some (.int (p:Int)),some (.int (n:Int)),some (.ref aw),some (.int (l:Int)),none,none,none,none,none,none] H:=by
 refine⟨_,rfl,.int _,.int 0,.int _,.int _,rfl,rfl,_,evI _ _,?_⟩
 cases l with
 | zero =>
  rw[Ag (show ((0:Nat):Int)=0 from rfl)]
  simp only[if_true]
  exact kk _ _ (Pot.refl a H) ha .non
 | succ l =>
  rw[An (show ¬((l+1:Nat):Int)=0 by rfl')]
  simp only[AB,if_false]
  refine⟨_,rfl,_,rfl,_,_,rfl,rfl,a,q,_,rfl,ha,DivOk.small (by rfl') (by rfl'),?_⟩
  have q0:=CQ q (show ((n:Int)+1)≠0 by rfl')
  have q1:=CU q (show (0:Int)<(n:Int)+1 by rfl')
  refine⟨_,rfl,_,rfl,.int _,.int _,.int _,.int _,rfl,rfl,_,evI _ _,?_⟩
  by_cases c:q%((n:Int)+1)=(n:Int)
  ·rw[Ag c]
   simp only[if_true]
   rw[yQ8 c] at kk
   exact kk _ _ Pot.upd zN .non
  ·rw[An c]
   simp only[AB,if_false]
   obtain⟨d,ed⟩:∃d:Nat,q%((n:Int)+1)=(d:Int):=⟨(q%((n:Int)+1)).toNat,by rfl'⟩
   have hd:d<n:=by rfl'
   have po1:Pot a H (upd H a (.lst [.int (q / ((n:Int)+1))])):=Pot.upd
   have ha1:(upd H a (.lst [.int (q / ((n:Int)+1))])) a=some (.lst [.int (q / ((n:Int)+1))]):=zN
   have e:=yD7 (p:=p) (l:=l) (ws:=ws) (b:=frB n (wB ws) n d) c (by rw[ed,Be])
   rw[e] at kk
   rw[ed]
   clear e
   show tSeq (tAsg (tHC K 0) (gName 6)) (tSeq (tHW K) (tHN K (spH k))) E [some (.ref a),some (.int (p:Int)),some (.int (n:Int)),some (.ref aw),some (.int ((l+1:Nat):Int)),some (.int (d:Int)),none,none,none,none,none] (upd H a (.lst [.int (q / ((n:Int)+1))]))
   generalize hH1:upd H a (.lst [.int (q / ((n:Int)+1))])=H1 at po1 ha1 ⊢
   have rwH:=yF8 rw' po1 nw
   have WH:=W.pot ha po1
   have fre:=yX7 (n:=n) (bs:=wB ws) (by rw[Aa];rfl') d hd
   obtain⟨fr1,fr2⟩:=zR3 n (wB ws) n d fre hd
   generalize hbb:frB n (wB ws) n d=b at kk fr1 fr2
   refine seqA (yP1 (K:=K) (j:=0) (f:=fun z=>z.1) (ws:=ws) rfl rwH WH (by rfl') (fun z=>rfl) fun ab hab => ?_)
   have aba:ab≠a:=fun z=>by rw[z,ha1] at hab;cases hab
   have S2:=Same.new (H:=H1) (o:=.lst ((wB ws).map V.int)) hab
   show tHW K { E with nx:=tHN K (spH k) E } [some (.ref a),some (.int (p:Int)),some (.int (n:Int)),some (.ref aw),some (.int ((l+1:Nat):Int)),some (.int (d:Int)),some (.ref ab),none,none,none,none] (upd H1 ab (.lst ((wB ws).map V.int)))
   refine xN5 (K:=K) (n:=n) (bs:=wB ws) n0 hn zN n d hd fre ?_
   rw[hbb]
   show tHN K (spH k) E [some (.ref a),some (.int (p:Int)),some (.int (n:Int)),some (.ref aw),some (.int ((l+1:Nat):Int)),some (.int (b:Int)),some (.ref ab),none,none,none,none] (upd H1 ab (.lst ((wB ws).map V.int)))
   refine⟨_,rfl,by show 1<=sizeLine;decide,fun t1 h1 => ?_⟩
   have S3:=Same.new (o:=.lst [.int (p:Int)]) h1
   have S23:=S2.trans S3
   show tHC K 1 [some (.ref a),some (.int (p:Int)),some (.int (n:Int)),some (.ref aw),some (.int ((l+1:Nat):Int)),some (.int (b:Int)),some (.ref ab),none,none,none,none] (upd (upd H1 ab (.lst ((wB ws).map V.int))) t1 (.lst [.int (p:Int)])) _
   refine yP1 (K:=K) (j:=1) (f:=fun z=>z.2) (ws:=ws) rfl (vE rwH fun o e=>S23 _ o e) (WH.keep fun q o ys r e=>S23 q o e) (by rfl') (fun z=>rfl) fun t2 h2 => ?_
   have S4:=Same.new (o:=.lst ((ws.map fun z=>((z.2:Nat):Int)).map V.int)) h2
   refine⟨t1,t2,[.int (p:Int)],_,rfl,rfl,.inl (S4 _ _ zN),.inl zN,by rw[Aa,Aa];exact Bw (small1000 (by show 1+ws.length<=1000;rfl')),fun an h3 => ?_⟩
   have S5:=Same.new (o:=.lst ([.int (p:Int)]++(ws.map fun z=>((z.2:Nat):Int)).map V.int)) h3
   refine⟨Bb _,fun la h4 => ?_⟩
   have S6:=Same.new (o:=.lst []) h4
   have S:=((S23.trans S4).trans S5).trans S6
   have lan:la≠an:=fun z=>by rw[z,zN] at h4;cases h4
   have up:∀{b:Addr},H1 b=none->b≠a->H b=none:=fun {b} h n=>po1.none n h
   have n3:H1 an=none:=by
    cases e:H1 an with
    | none=>rfl
    | some o=>rw[(S23.trans S4) _ _ e] at h3;cases h3
   have n4:H1 la=none:=by
    cases e:H1 la with
    | none=>rfl
    | some o=>rw[((S23.trans S4).trans S5) _ _ e] at h4;cases h4
   have ana:an≠a:=fun z=>by rw[z,ha1] at n3;cases n3
   have laa:la≠a:=fun z=>by rw[z,ha1] at n4;cases n4
   show tHF K (spH k) { E with nx:=tHE K E } [some (.ref a),some (.int (p:Int)),some (.int (n:Int)),some (.ref aw),some (.int ((l+1:Nat):Int)),some (.int (b:Int)),some (.ref ab),some (.ref an),some (.ref la),none,none] _
   refine xJ7 (K:=K) (E:={ E with nx:=tHE K E }) (k:=k) (n:=n) (p:=p) (l:=l) (b:=b) (ws:=ws) (wv:=wv) (q2:=q / ((n:Int)+1)) (H0:=H) oh oa ha rw' nw W (up n4 laa) laa (up n3 ana) ana lan (by rfl') n0 hn hb (fun v9 v10 vs H2 po2 ha2 hl2 rs2=>xK7 oh po2 ha2 (up n4 laa) laa hl2 rs2 kk) ?_ (S _ _ ha1) zN (S6 _ _ zN)
   exact fun c o ec nc=>S _ _ (po1 c o ec nc)
section
variable {P:Program}{w:World}{K:KFr}{mg:Str->Option Value}{base:Heap}
theorem xY8{k:Nat}{f:Addr}{fd:FuncData}{ps:List Str}:FnOk P w K mg base CX0 k f fd ps (spH 0) :=
 ⟨fun vs H Q E ⟨_,_,_,_,_,_,_,_,_,_,_,_,_,_,_,_,h,_⟩=>absurd h (Nat.not_lt_zero _),fun A outer s H args us vs Q E _ _ _ _ ⟨_,_,_,_,_,_,_,_,_,_,_,_,_,_,_,_,h,_⟩=>absurd h (Nat.not_lt_zero _)⟩
theorem xW2{x:Str}{st:Stmt}{f:Addr}{fd:FuncData}{N ps:List Str}{j k:Nat}(F:Fun K x x st f fd)(S:zJ N ps (zS st))(hp:ps.length=5)(hN:N.length=11)
  (hbody:∀(cdv:Value) (A:Around) (outer:List Env) (s:Shared) (H:Hp) (E:XK),Room j (A.deeper (envOfC x (zS st) s.heap.objs.size f cdv))->PSs (cxOf CX0 P w K mg base N x (zS st) f cdv A outer s H E).nox (defBody st) (tH K (spH k))) :
  FnOk P w K mg base CX0 (j+1) f fd ps (spH (k+1)):=by
 refine F.ok S (fun vs H Q E ⟨O,a,aw,q,n,p,l,ws,wv,_,_,_,e,_⟩=>by rw[e,hp];rfl) fun cdv A outer s H vs Q E hr h => ?_
 obtain⟨O,a,aw,q,n,p,l,ws,wv,oh,oa,ha,rfl,rw',nw,W,hk,n0,hn,hb,kk⟩:=h
 refine⟨_,hbody cdv A outer s H E hr,?_⟩
 have st:start N [V.ref a,.int (p:Int),.int (n:Int),.ref aw,.int (l:Int)]=[some (.ref a),some (.int (p:Int)),some (.int (n:Int)),some (.ref aw),some (.int (l:Int)),none,none,none,none,none,none]:=by
  unfold start
  rw[hN]
  rfl
 rw[st]
 exact yL7 oh oa ha rw' nw W hk n0 hn hb kk
end
def opH(n:Nat)(most cell:Int)(i:Nat):Int:=if pwD ((n:Int)+1) cell i%((n:Int)+1)<most then pwD ((n:Int)+1) cell i%((n:Int)+1) else most
def opsH(n:Nat)(most cell:Int):List Int:=(List.range n).map (opH n most cell)
def nxP(n:Nat)(most cell:Int):Nat->Int->D×Int:=fun i q=>trH n i (opH n most cell i).toNat [] q
def trsH(n:Nat)(most cell:Int):List D:=(runG (nxP n most cell) n (pwD ((n:Int)+1) cell n)).1
def plH(n:Nat)(most cell:Int):D:=.tuple [tI (opsH n most cell),.tuple (trsH n most cell)]
open Classical in
def plHF:List D->Res D
 | [.int cell,.int n,.int most]=>if 1<=n/\n<=6/\0<=most/\most<=n then .ok (plH n.toNat most cell) else .no
 | _=>.no
theorem xN1{ds:List D}{c:Str}:plHF ds ≠ .ex c:=by
 unfold plHF
 split
 ·split <;> exact fun z=>nomatch z
 ·exact fun z=>nomatch z
theorem yR1{ds:List D}{Q:D->Prop}{R:Str->Prop}(h:(plHF ds).post Q R):∃(cell most:Int) (n:Nat),ds=[.int cell,.int (n:Int),.int most]/\1<=n/\n<=6/\0<=most/\most<=(n:Int)/\Q (plH n most cell):=by
 unfold plHF at h
 split at h
 ·split at h
  ·rename_i cell n most c
   obtain⟨c1,c2,c3,c4⟩:=c
   obtain⟨m,rfl⟩:∃m:Nat,n=(m:Int):=⟨n.toNat,by rfl'⟩
   rw[Be] at h
   exact⟨cell,most,m,rfl,by rfl',by rfl',c3,c4,h⟩
  ·exact h.elim
 ·exact h.elim
theorem xK4{cell most:Int}{n:Nat}(h1:1<=n)(h2:n<=6)(h3:0<=most)(h4:most<=(n:Int)):plHF [.int cell,.int (n:Int),.int most]=.ok (plH n most cell):=by
 unfold plHF
 simp only
 rw[Am ⟨by rfl',by rfl',h3,h4⟩,Be]
theorem yC3{n:Nat}{most cell:Int}(h3:0<=most)(i:Nat):0<=opH n most cell i/\opH n most cell i<=most:=by
 have h0:=CQ (pwD ((n:Int)+1) cell i) (show ((n:Int)+1)≠0 by rfl')
 unfold opH
 split <;> rfl'
def rMin:List V->Hp->VK->Prop:=fun xs H Q=>∃i j,xs=[.int i,.int j]/\Q (.int (if j<i then j else i)) H
def tPH1(K:KFr):TE:=tCB (rTup K) (zH (tComp (iRng1 (zH (tVar 1) tNil)) (fun _ _ _ _=>tTrue) (fun _ _ _ _=>tCB rMin (zH (tVar 1) (zH (tCall spTake [] E0 (zH (tVar 2) (zH (tOp rAdd (tVar 3) (tC (.int 1))) tNil))) tNil))) [2,3,1]) tNil)
def tPH2(K:KFr)(k:Nat):TE:=tComp (iRng1 (zH (tVar 1) tNil)) (fun _ _ _ _=>tTrue) (fun _ _ _ _=>tCall (spH k) [] E0 (zH (tVar 1) (zH (tVar 0) (zH (tVar 2) (zH (tLst tNil) (zH (tOp (rIxT K) (tVar 3) (tVar 0)) tNil)))))) [3,1,4]
def tPHE(K:KFr):TS:=tRet (tTup (zH (tVar 4) (zH (tCB (rTup K) (zH (tVar 5) tNil)) tNil)))
def tPH(K:KFr)(k:Nat):TS:=tSeq (tAsg (tLst (zH (tVar 0) tNil)) (gName 3)) (tSeq (tAsg (tPH1 K) (gName 4)) (tSeq (tAsg (tPH2 K k) (gName 5)) (tPHE K)))
theorem xU8{K:KFr}{a:Addr}{cell most:Int}{n:Nat}{v4 v5:Option V}{H:Hp}{Q:VK}(ha:H a=some (.lst [.int cell]))(hn:n<=6)
  (k:∀b H',H b=none->H' b=some (.tup ((opsH n most cell).map V.int))->H' a=some (.lst [.int (pwD ((n:Int)+1) cell n)])->Pot a H H'->Q (.ref b) H'):tPH1 K [some (.int cell),some (.int (n:Int)),some (.int most),some (.ref a),v4,v5] H Q:=by
 refine⟨_,rfl,(n:Int),rfl,by rfl',by rfl',?_⟩
 rw[Be]
 intro C fp s₂ H₂
 refine zN3 (lo:=0) (n:=n) (tt:=tTrue) (te:=tCB rMin (zH (tVar 1) (zH (tCall spTake [] E0 (zH (tVar 2) (zH (tOp rAdd (tVar 3) (tC (.int 1))) tNil))) tNil))) (js:=[2,3,1]) (σ:=[some (.int cell),some (.int (n:Int)),some (.int most),some (.ref a),v4,v5]) (Q:=fun x H1=>rTup K [x] H1 Q) (fun i acc H1=>acc=((List.range i).map (opH n most cell)).map V.int/\H1 a=some (.lst [.int (pwD ((n:Int)+1) cell i)])/\Pot a H H1) ⟨rfl,ha,Pot.refl a H⟩ ?_ ?_
 ·rintro i acc H1 hi ⟨rfl,h1,po⟩
  unfold tTrue
  simp only[if_true]
  refine⟨_,rfl,_,rfl,_,rfl,_,_,rfl,rfl,a,_,_,rfl,h1,DivOk.small (by rfl') (by rfl'),most,_,rfl,by rw[Aa,Aa,Au];exact small1000 (by rfl'),?_,zN,po.trans Pot.upd⟩
  rw[BM,AT,AT]
  rfl
 ·rintro acc H1 ⟨rfl,h1,po⟩ l hl
  have al:a≠l:=fun z=>by rw[<-z,h1] at hl;cases hl
  refine⟨l,_,rfl,.inl ⟨SqL.of zN,fun b hb => ?_⟩⟩
  have bl:b≠l:=fun z=>by rw[z,zN] at hb;cases hb
  have ba:b≠a:=fun z=>by rw[z,zO al,h1] at hb;cases hb
  have hb1:H1 b=none:=by rw[zO bl] at hb;exact hb
  refine k b _ (po.none ba hb1) zN ?_ ((po.new hl).new hb)
  rw[zO (fun z=>ba z.symm),zO al]
  exact h1
theorem xW3{K:KFr}{k:Nat}{O:Addr->Prop}{a ao:Addr}{cell most q:Int}{n:Nat}{v5:Option V}{H:Hp}{Q:VK}(oh:∀x,O x->H x≠none)(oa:O a)(ha:H a=some (.lst [.int (pwD ((n:Int)+1) cell n)]))(ho:H ao=some (.tup ((opsH n most cell).map V.int)))(n0:1<=n)(hn:n<=6)(hk:7<=k)(h3:0<=most)(h4:most<=(n:Int))
  (kk:∀vs H' p,H' p=none->Pot a H H'->(∃q',H' a=some (.lst [.int q']))->Reps H' O vs (trsH n most cell)->vs.length=n->Q (.ref p) (upd H' p (.lst vs))):tPH2 K k [some (.int cell),some (.int (n:Int)),some (.int most),some (.ref a),some (.ref ao),v5] H Q:=by
 refine⟨_,rfl,(n:Int),rfl,by rfl',by rfl',?_⟩
 rw[Be]
 intro C fp s₂ H₂
 refine zN3 (lo:=0) (n:=n) (tt:=tTrue) (te:=tCall (spH k) [] E0 (zH (tVar 1) (zH (tVar 0) (zH (tVar 2) (zH (tLst tNil) (zH (tOp (rIxT K) (tVar 3) (tVar 0)) tNil)))))) (js:=[3,1,4]) (σ:=[some (.int cell),some (.int (n:Int)),some (.int most),some (.ref a),some (.ref ao),v5]) (Q:=Q) (fun i acc H1=>Pot a H H1/\H1 a=some (.lst [.int (runG (nxP n most cell) i (pwD ((n:Int)+1) cell n)).2])/\Reps H1 O acc (runG (nxP n most cell) i (pwD ((n:Int)+1) cell n)).1/\acc.length=i) ⟨Pot.refl a H,ha,.nil,rfl⟩ ?_ ?_
 ·rintro i acc H1 hi ⟨po,h1,rs,la⟩
  unfold tTrue
  simp only[if_true]
  have aoa:ao≠a:=fun z=>by rw[z,ha] at ho;cases ho
  have ho1:=po ao _ ho aoa
  have bo:=yC3 (n:=n) (cell:=cell) h3 i
  have at1:atI ((opsH n most cell).map V.int) (0+(i:Int))=some (.int (opH n most cell i)):=by
   rw[Int.zero_add,uH,uN (by unfold opsH;rw[Aa,Au];exact hi)]
   unfold opsH
   rw[List.getD,Ak,Ay hi]
   rfl
  refine⟨_,rfl,_,rfl,_,rfl,Bb _,fun aw hw=>⟨_,rfl,_,rfl,ao,_,_,_,rfl,rfl,.inl (.inl ?_),at1,?_⟩⟩
  ·rw[zO (fun z=>by rw[<-z,ho1] at hw;cases hw)]
   exact ho1
  ·have S:=Same.new (H:=H1) (o:=.lst []) hw
   have wa:aw≠a:=fun z=>by rw[z,h1] at hw;cases hw
   refine⟨O,a,aw,_,n,i,(opH n most cell i).toNat,[],[],fun x hx => ?_,oa,S _ _ h1,?_,.inl zN,wa,.nil,by rfl',by rfl',by rfl',by show 0+_<=n;rfl',fun v H' po' ha' rv=>⟨by rw[la];exact small1000 (by rfl'),?_⟩⟩
   ·by_cases z:x=a
    ·rw[z,S _ _ h1];exact fun z=>nomatch z
    ·cases e:H x with
     | none=>exact absurd e (oh x hx)
     | some o=>rw[S _ _ (po x o e z)];exact fun z=>nomatch z
   ·show [V.ref a,V.int (0+(i:Int)),V.int (n:Int),V.ref aw,V.int (opH n most cell i)]=_
    rw[Int.zero_add,Int.toNat_of_nonneg bo.1]
   ·have p1:Pot a H1 H':=fun c o e n=>po' c o (S c o e) n
    refine⟨po.trans p1,ha',?_,by rw[Aq,la];rfl⟩
    rw[runG]
    exact (rs.keep (fun c o e n=>p1 c o e fun z=>n (by rw[z];exact oa)) fun _ _ z=>z).append (.one rv)
 ·rintro acc H1 ⟨po,h1,rs,la⟩ p hp
  exact kk acc H1 p hp po ⟨_,h1⟩ rs la
theorem xP3{K:KFr}{k:Nat}{O:Addr->Prop}{cell most:Int}{n:Nat}{H:Hp}{E:Ends}(oh:∀x,O x->H x≠none)(n0:1<=n)(hn:n<=6)(hk:7<=k)(h3:0<=most)(h4:most<=(n:Int))(kk:∀v H',Same H H'->Rep H' O v (plH n most cell)->E.rt v H') :
  tPH K k E [some (.int cell),some (.int (n:Int)),some (.int most),none,none,none] H:=by
 refine⟨_,rfl,by show 1<=sizeLine;decide,fun a ha => ?_⟩
 have S0:=Same.new (H:=H) (o:=.lst [.int cell]) ha
 show tSeq (tAsg (tPH1 K) (gName 4)) (tSeq (tAsg (tPH2 K k) (gName 5)) (tPHE K)) E [some (.int cell),some (.int (n:Int)),some (.int most),some (.ref a),none,none] (upd H a (.lst [.int cell]))
 refine seqA (xU8 zN hn fun b H1 fb hb h1 po => ?_)
 show tSeq (tAsg (tPH2 K k) (gName 5)) (tPHE K) E [some (.int cell),some (.int (n:Int)),some (.int most),some (.ref a),some (.ref b),none] H1
 have sH:Same H H1:=fun c o e=>po c o (S0 c o e) fun z=>by rw[z,ha] at e;cases e
 refine seqA (xW3 (O:=fun x=>O x\/x=a) (q:=0) (fun x hx => ?_) (.inr rfl) h1 hb n0 hn hk h3 h4 fun vs H2 p hp po2 hq rs lv => ?_)
 ·rcases hx with hx | hx
  ·exact Same.ne sH (oh x hx)
  ·rw[hx,h1];exact fun z=>nomatch z
 ·have sH2:Same H H2:=fun c o e=>po2 c o (sH c o e) fun z=>by rw[z,ha] at e;cases e
  obtain⟨q',hq⟩:=hq
  have ba:b≠a:=fun z=>by rw[z,h1] at hb;cases hb
  have hb2:H2 b=some (.tup ((opsH n most cell).map V.int)):=po2 b _ hb ba
  show tPHE K E [some (.int cell),some (.int (n:Int)),some (.int most),some (.ref a),some (.ref b),some (.ref p)] (upd H2 p (.lst vs))
  have S3:=Same.new (H:=H2) (o:=.lst vs) hp
  refine⟨_,rfl,_,rfl,p,vs,rfl,.inl ⟨SqL.of zN,fun t ht=>⟨by show 2<=sizeLine;decide,fun r hr => ?_⟩⟩⟩
  have S4:=Same.new (o:=.tup vs) ht
  have S5:=Same.new (o:=.tup [.ref b,.ref t]) hr
  have S:=(S3.trans S4).trans S5
  have fb0:H b=none:=S0.free fb
  have ft:H t=none:=sH2.free (S3.free ht)
  have fr:H r=none:=sH2.free ((S3.trans S4).free hr)
  refine kk _ _ (sH2.trans S) (.tup (.inl zN) (fun z=>oh r z fr) (.cons (.tup (.inl (S _ _ hb2)) (fun z=>oh b z fb0) (fA _)) (.cons (.tup (xs:=vs) (.inl (S5 _ _ zN)) (fun z=>oh t z ft) ?_) .nil)))
  exact rs.keep (fun c o e _=>S c o e) fun c _ z=>.inl z
section
variable {P:Program}{w:World}{K:KFr}{mg:Str->Option Value}{base:Heap}
theorem xS2{x:Str}{st:Stmt}{f:Addr}{fd:FuncData}{N ps:List Str}{j k:Nat}(hk:7<=k)(F:Fun K x x st f fd)(S:zJ N ps (zS st))(hp:ps.length=3)(hN:N.length=6)
  (hbody:∀(cdv:Value) (A':Around) (outer:List Env) (s:Shared) (H:Hp) (E:XK),Room j (A'.deeper (envOfC x (zS st) s.heap.objs.size f cdv))->PSs (cxOf CX0 P w K mg base N x (zS st) f cdv A' outer s H E).nox (defBody st) (tPH K k)) :
  FnOk P w K mg base CX0 (j+1) f fd ps (spF false plHF):=by
 refine F.ok S (fun vs H Q E ⟨ds,O,oh,r,q⟩ => ?_) fun cdv A' outer s H vs Q E hr h => ?_
 ·obtain⟨cell,most,n,rfl,_⟩:=yR1 q
  rw[r.length,hp]
  rfl
 ·obtain⟨ds,O,oh,r,q⟩:=h
  obtain⟨cell,most,n,rfl,h1,h2,h3,h4,q⟩:=yR1 q
  refine⟨_,hbody cdv A' outer s H E hr,?_⟩
  cases r with
  | cons r1 r2 =>
   cases r1
   cases r2 with
   | cons r2 r3 =>
    cases r2
    cases r3 with
    | cons r3 r4 =>
     cases r3
     cases r4
     have st:start N [V.int cell,V.int (n:Int),V.int most]=[some (.int cell),some (.int (n:Int)),some (.int most),none,none,none]:=by
      unfold start
      rw[hN]
      rfl
     rw[st]
     exact xP3 oh h1 h2 hk h3 h4 q
end
end L2.L3
namespace L2.L3
open PySem PySem.Spec PyProof.Rows
variable [CN]
section
variable {X:Cx}
theorem zI6:∀{ts:List Str}{us:List Value},Vals (ts.map V.str) us->∃l:List (Str×Tok),us=strValues l/\l.map (·.1)=ts
 | [],us,h=>by cases h;exact⟨[],rfl,rfl⟩
 | z::ts,us,h=>by
  cases h with
  | cons r rs =>
   obtain⟨t,rfl⟩:=r
   obtain⟨l,rfl,e⟩:=zI6 rs
   exact⟨(z,t)::l,rfl,by rw[AF,e]⟩
theorem zF6:∀l:List (Str×Tok),Vals ((l.map (·.1)).map V.str) (strValues l)
 | []=>.nil
 | (z,t)::l=>.cons ⟨t,rfl⟩ (zF6 l)
def rDig:V->List V->Hp->VK->Prop:=fun x vs H Q=>∃z,x=.str z/\vs=[]/\Q (.bl (Txt.isdigit z)) H
theorem yJ5:MtR X "str.isdigit" rDig:=by
 rintro DA s σ H x vs v us Q I rx rv ⟨z,rfl,rfl,q⟩
 obtain⟨t,rfl⟩:=rx
 cases rv
 exact SC.isdigit ⟨.bl _,H,I,rfl,q⟩
def rStw:V->List V->Hp->VK->Prop:=fun x vs H Q=>∃z y,x=.str z/\vs=[.str y]/\Q (.bl (Txt.startswith z y)) H
theorem hJ:MtR X "str.startswith" rStw:=by
 rintro DA s σ H x vs v us Q I rx rv ⟨z,y,rfl,rfl,q⟩
 obtain⟨t,rfl⟩:=rx
 obtain⟨u,rfl,t2,rfl⟩:=vals1 rv
 exact SC.startswith ⟨.bl _,H,I,rfl,q⟩
def rJoin(K:KFr):V->List V->Hp->VK->Prop:=fun x vs H Q=>∃z p ts,x=.str z/\vs=[.ref p]/\SqL K H p (ts.map V.str)/\JoinOk z ts=true/\Q (.str (Txt.join z ts)) H
theorem zX4:MtR X "str.join" (rJoin X.K):=by
 rintro DA s σ H x vs v us Q I rx rv ⟨z,p,ts,rfl,rfl,hq,ok,q⟩
 obtain⟨t,rfl⟩:=rx
 obtain⟨u,rfl,ru⟩:=vals1 rv
 cases ru
 obtain⟨its,r,pl,_⟩:=I.list hq
 obtain⟨l,rfl,el⟩:=zI6 r
 exact SC.join pl.isList el ok fun t' k=>⟨.str _,H,I.tok _,⟨_,rfl⟩,q⟩
def rSpl:V->List V->Hp->VK->Prop:=fun x vs H Q=>∃z y,x=.str z/\vs=[.str y]/\1<=y.length/\z.length+2<=sizeLine/\∀p,H p=none->Q (.ref p) (upd H p (.lst ((Txt.split z y).map V.str)))
theorem bS:MtR X "str.split" rSpl:=by
 rintro DA s σ H x vs v us Q I rx rv ⟨z,y,rfl,rfl,hy,hz,q⟩
 obtain⟨t,rfl⟩:=rx
 obtain⟨u,rfl,t2,rfl⟩:=vals1 rv
 have y0:(y.length == 0)=false:=by rw[beq_eq_false_iff_ne];rfl'
 have few:=split_le z y
 have fin:∀(l:List (Str×Tok)) (k:Nat),l.map (·.1)=Txt.split z y->EP X DA σ Q (.ref s.heap.objs.size) { s with heap:=s.heap.push { cls:=.type "list",data:=.seq (strValues l).toArray },toks:=k }:=fun l k e=>by
  have V0:=zF6 l
  rw[e] at V0
  exact⟨.ref _,_,I.lnew (t':=k) V0 (by rw[Aa];rfl'),rfl,q _ I.fresh⟩
 have one:∀k,Txt.split z y=[z]->EP X DA σ Q (.ref s.heap.objs.size) { s with heap:=s.heap.push { cls:=.type "list",data:=.seq [Value.str z t].toArray },toks:=k }:=fun k e=>fin [(z,t)] k (by rw[e];rfl)
 by_cases c1:(decide (z.length<y.length) || decide (Builtin.Str.strKind z<Builtin.Str.strKind y))=true
 ·have e:Txt.split z y=[z]:=by unfold Txt.split;rw[Am c1]
  exact call_meets F.slot_str_split (typeIs_str s z t) F.entry_str_split (Dt _ _) (meets_str_split_cannot_occur z y t t2 c1) (one s.toks e)
 ·have c1':=Bool.not_eq_true _▸c1
  by_cases c2:(Builtin.Str.occurrences z y 0 z.length (z.length+1)).isEmpty=true
  ·have e:Txt.split z y=[z]:=by unfold Txt.split;rw[AG c1,Am c2]
   exact call_meets F.slot_str_split (typeIs_str s z t) F.entry_str_split (Dt _ _) (meets_str_split_not_found z y t t2 (by simpa using c1) y0 c2) (one s.toks e)
  ·have e:Txt.split z y=Builtin.Str.partsBetween z (Builtin.Str.occurrences z y 0 z.length (z.length+1)) y.length:=by unfold Txt.split;rw[AG c1,AG c2]
   rw[e] at few
   refine call_meets F.slot_str_split (typeIs_str s z t) F.entry_str_split (Dt _ _) (meets_str_split_sep z y t t2 (by simpa using c1) y0 (by simpa using c2) (by rfl') (by rfl')) ?_
   have key:=fin (numbered s.toks (Txt.split z y)) (s.toks+(Builtin.Str.partsBetween z (Builtin.Str.occurrences z y 0 z.length (z.length+1)) y.length).length) (numbered_texts _ _)
   rw[e,<-strsFrom_eq] at key
   exact key
end
def strD:D->Option Str
 | .str z=>some z
 | _=>none
theorem xF{x:D}{z:Str}(h:strD x=some z):x=.str z:=by
 cases x with
 | str y=>cases h;rfl
 | _=>cases h
theorem yV(z:Str):strD (.str z)=some z:=rfl
def strsOf:List D->Option (List Str)
 | []=>some []
 | x::xs=>(strD x).bind fun z=>(strsOf xs).bind fun zs=>some (z::zs)
theorem zO5:∀zs:List Str,strsOf (zs.map PyData.str)=some zs
 | []=>rfl
 | z::zs=>by
  show (strD (.str z)).bind _=_
  rw[yV,AI,zO5 zs]
  rfl
theorem zU7:∀{ds:List D}{zs:List Str},strsOf ds=some zs->ds=zs.map PyData.str
 | [],zs,h=>by cases h;rfl
 | x::xs,zs,h=>by
  obtain⟨z,e1,h⟩:=AD.mp h
  obtain⟨ys,e2,h⟩:=AD.mp h
  cases h
  rw[xF e1,zU7 e2]
  rfl
theorem zI9{H:Hp}{O:Addr->Prop}:∀{zs:List Str}{vs:List V},Reps H O vs (zs.map PyData.str)->vs=zs.map V.str
 | [],vs,h=>by cases h;rfl
 | z::zs,vs,h=>by
  cases h with
  | cons r rs =>
   cases r
   rw[zI9 rs]
   rfl
theorem zG2{H:Hp}{O:Addr->Prop}:∀zs:List Str,Reps H O (zs.map V.str) (zs.map PyData.str)
 | []=>.nil
 | z::zs=>.cons (.str z) (zG2 zs)
def eM0S(f:Str->Option D)(mo:Ev->Res D):Ev->Res D:=fun ρ=>(mo ρ).bind fun x=>(Res.lft (strD x)).bind fun z=>Res.lft (f z)
theorem cM(f:Str->Option D)(mo:Ev->Res D)(ρ:Ev):eM0S f mo ρ=(mo ρ).bind fun x=>(Res.lft (strD x)).bind fun z=>Res.lft (f z):=rfl
theorem yM7{C:Ct}{o:Expr}{apos cpos:Pos}{md:Md}{mo:Ev->Res D}(ho:RE C md o mo)
  (hbase:autoParam (attributeBase o "isdigit" C.X.env (eval o C.X.env)=eval o C.X.env) Dz) (hline:autoParam ((apos.endLine == cpos.line)=true) Dz) :
  RE C .cl (.Call (.Attribute o "isdigit" apos) [] [] cpos) (eM0S (fun z=>some (.bool (Txt.isdigit z))) mo):=by
 obtain⟨to,po,qo⟩:=ho
 refine⟨_,yH4 Cs PySem.F.slot_str_isdigit PySem.F.type_str_isdigit yJ5 po hbase hline,fun Oc Ob σ H ρ Q R h => ?_⟩
 refine qo Oc Ob σ H ρ _ R (Res.zU (Res.zW h) (fun dx _ k x H1 s1 vx => ?_) fun _ z=>z)
 obtain⟨z,ez,k1⟩:=Res.zC (Res.zW k)
 obtain rfl:=xF ez
 obtain⟨d,ed,k2⟩:=Res.zC k1
 cases ed
 obtain rfl:=(vx.va R.oh).str
 exact⟨rfl,z,rfl,rfl,k2 _ H1 s1 (Rep.bl _)⟩
def eM1S(f:Str->D->Option D)(mo ma:Ev->Res D):Ev->Res D:=fun ρ=>(mo ρ).bind fun x=>(Res.lft (strD x)).bind fun z=>(ma ρ).bind fun y=>Res.lft (f z y)
theorem yB(f:Str->D->Option D)(mo ma:Ev->Res D)(ρ:Ev):eM1S f mo ma ρ=(mo ρ).bind fun x=>(Res.lft (strD x)).bind fun z=>(ma ρ).bind fun y=>Res.lft (f z y):=rfl
def Pr1S(r:V->List V->Hp->VK->Prop)(md:Md)(f:Str->D->Option D):Prop :=
 ∀(Oc:Wd) (Ob:Addr->Prop) (H:Hp) (z:Str) (y:V) (dy d:D) (Q:VK),(∀a,Oc a\/Ob a->H a≠none)->VA Oc Ob H y dy->f z dy=some d->(∀v H',Same H H'->VR md Oc Ob H H' v d->Q v H')->r (.str z) [y] H Q
theorem xC{C:Ct}{o a:Expr}{name:Str}{id:String}{apos cpos:Pos}{md mda mdr:Md}{mo ma:Ev->Res D}{r:V->List V->Hp->VK->Prop}{f:Str->D->Option D}(slot:Slot "str" name id)(hty:typeOf (.builtin id)=pure (.type "method_descriptor"))(hm:MtR C.X id r)(hp:Pr1S r mdr f)(ho:RE C md o mo)(ha:RE C mda a ma)
  (hbase:autoParam (attributeBase o name C.X.env (eval o C.X.env)=eval o C.X.env) Dz)
  (hfew:((backTo cpos (starEach [a] C.X.env)).all (fun x=>!x.1)&&(backToKw cpos (keywordEach [] C.X.env)).all (fun x=>x.1.isSome)
  &&decide ([a].length+([]:List Keyword).length+(if ([]:List Keyword).isEmpty then 0 else 1)<30))=true:=by rfl)
  (hline:autoParam ((apos.endLine == cpos.line)=true) Dz) (hs:autoParam (starEach [a] C.X.env=(false,eval a C.X.env)::starEach [] C.X.env) Dz) (hplain:autoParam ((backTo cpos (starEach [] C.X.env)).any (·.1)=false) Dz) :
  RE C mdr (.Call (.Attribute o name apos) [a] [] cpos) (eM1S f mo ma):=by
 obtain⟨to,po,qo⟩:=ho
 obtain⟨ta,pa,qa⟩:=ha
 refine⟨_,dW Cs slot hty hm po (zM pa zD hs) hbase hfew hline hs hplain,fun Oc Ob σ H ρ Q R h => ?_⟩
 refine qo Oc Ob σ H ρ _ R (Res.zU (Res.zW h) (fun dx _ k x H1 s1 vx => ?_) fun _ z=>z)
 obtain⟨z,ez,k⟩:=Res.zC (Res.zW k)
 obtain rfl:=xF ez
 obtain rfl:=(vx.va R.oh).str
 refine⟨rfl,qa Oc Ob σ H1 ρ _ (R.same s1) (Res.zU (Res.zW k) (fun dy _ k y H2 s2 vy => ?_) fun c z H' s'=>z H' (s1.trans s'))⟩
 obtain⟨d,ed,k⟩:=Res.zC k
 exact hp Oc Ob H2 z y dy d Q ((R.same s1).same s2).oh (vy.va (R.same s1).oh) ed fun v H' s3 rv=>k v H' ((s1.trans s2).trans s3) (rv.from (s1.trans s2))
def stwD(z:Str)(y:D):Option D:=(strD y).map fun u=>.bool (Txt.startswith z u)
theorem aX:Pr1S rStw .cl stwD:=by
 intro Oc Ob H z y dy d Q oh vy e k
 obtain⟨u,e1,rfl⟩:=Av.mp e
 obtain rfl:=xF e1
 obtain rfl:=vy.str
 exact⟨z,u,rfl,rfl,k _ H (Same.refl H) (Rep.bl _)⟩
def splD(z:Str)(y:D):Option D:=(strD y).bind fun u=>if 1<=u.length/\z.length+2<=sizeLine then some (.list ((Txt.split z u).map PyData.str)) else none
theorem bO:Pr1S rSpl .new splD:=by
 intro Oc Ob H z y dy d Q oh vy e k
 obtain⟨u,e1,e0⟩:=AD.mp e
 obtain rfl:=xF e1
 obtain rfl:=vy.str
 split at e0
 ·rename_i h
  cases e0
  exact⟨z,u,rfl,rfl,h.1,h.2,fun p hp=>k _ _ (Same.new hp) (xB (Same.refl H) hp (zG2 _))⟩
 ·cases e0
def joinD(z:Str)(y:D):Option D:=(lstD y).bind fun ds=>(strsOf ds).bind fun ts=>if JoinOk z ts=true then some (.str (Str.join z ts)) else none
theorem zW8{K:KFr}:Pr1S (rJoin K) .cl joinD:=by
 intro Oc Ob H z y dy d Q oh vy e k
 obtain⟨ds,e1,e3⟩:=AD.mp e
 obtain⟨ts,e2,e0⟩:=AD.mp e3
 obtain rfl:=fB e1
 obtain rfl:=zU7 e2
 obtain⟨a,ys,rfl,rd,rs⟩:=vy.list
 obtain rfl:=zI9 rs
 split at e0
 ·rename_i h
  cases e0
  refine⟨z,a,ts,rfl,rfl,.inl rd,h,?_⟩
  rw[show Txt.join z ts=Str.join z ts from StrLaws.glued_eq_join z ts]
  exact k _ H (Same.refl H) (Rep.str _)
 ·cases e0
def catS:D->D->Option D:=fun x y=>(strD x).bind fun a=>(strD y).bind fun b=>if a.length+b.length<=sizeLine then some (.str (a++b)) else none
theorem cO:Pr2 (fun x y H Q=>∃i j,x=.str i/\y=.str j/\i.length+j.length<=sizeLine/\Q (.str (i++j)) H) .cl catS:=by
 intro Oc Ob H x y dx dy d Q oh vx vy e k
 obtain⟨a,e1,e3⟩:=AD.mp e
 obtain⟨b,e2,e0⟩:=AD.mp e3
 obtain rfl:=xF e1
 obtain rfl:=xF e2
 split at e0
 ·rename_i h
  cases e0
  exact⟨a,b,vx.str,vy.str,h,k _ H (Same.refl H) (Rep.str _)⟩
 ·cases e0
def strOfD:List D->Option D
 | [.int i]=>if i.natAbs.log2<1920 then some (.str (toString i)) else none
 | _=>none
theorem xD1:PrC (fun xs H Q=>∃i,xs=[.int i]/\i.natAbs.log2<1920/\Q (.str (toString i)) H) .cl strOfD:=by
 intro Oc Ob H vs ds d Q oh r e k
 unfold strOfD at e
 split at e
 ·split at e
  ·rename_i h
   cases e
   obtain⟨v,rfl,hv⟩:=zJ2 r
   exact⟨_,by rw[hv.int],h,k _ H (Same.refl H) (Rep.str _)⟩
  ·cases e
 ·cases e
theorem zE1{X:Cx}:CallR X (.type "int") (fun xs H Q=>∃z n,xs=[.str z]/\PySem.intText? z=some n/\z.length<=640/\Q (.int n) H):=by
 rintro DA s σ H xs us Q I r ⟨z,n,rfl,e,hl,q⟩
 obtain⟨u,rfl,t,rfl⟩:=vals1 r
 exact PySem.W.KIN.call_text e hl ⟨.int n,H,I.tok _,⟨_,rfl⟩,q⟩
def intTD:List D->Option D
 | [.str z]=>if z.length<=640 then (PySem.intText? z).map PyData.int else none
 | _=>none
theorem xM6:PrC (fun xs H Q=>∃z n,xs=[.str z]/\PySem.intText? z=some n/\z.length<=640/\Q (.int n) H) .cl intTD:=by
 intro Oc Ob H vs ds d Q oh r e k
 unfold intTD at e
 split at e
 ·split at e
  ·rename_i h
   obtain⟨n,en,rfl⟩:=Av.mp e
   obtain⟨v,rfl,hv⟩:=zJ2 r
   exact⟨_,n,by rw[hv.str],en,h,k _ H (Same.refl H) (Rep.int _)⟩
  ·cases e
 ·cases e
def lenTD:List D->Option D
 | [.str z]=>if z.length<=sizeLine then some (.int z.length) else none
 | _=>none
theorem zW1:PrC (fun xs H Q=>∃z,xs=[.str z]/\z.length<=sizeLine/\Q (.int z.length) H) .cl lenTD:=by
 intro Oc Ob H vs ds d Q oh r e k
 unfold lenTD at e
 split at e
 ·split at e
  ·rename_i h
   cases e
   obtain⟨v,rfl,hv⟩:=zJ2 r
   exact⟨_,by rw[hv.str],h,k _ H (Same.refl H) (Rep.int _)⟩
  ·cases e
 ·cases e
section
variable {X:Cx}
def rSlS:V->Option Int->Option Int->Hp->VK->Prop:=fun x lo hi H Q=>∃z,x=.str z/\z.length<=sizeLine/\Q (.str (Txt.slice z lo hi)) H
theorem yN3{v:Value}{o:Option Int}(h:IsPart v o):∃l:Option (Int×Tok),v=partValue l/\l.map (·.1)=o:=by
 cases h
 ·exact⟨none,rfl,rfl⟩
 ·rename_i i t
  exact⟨some (i,t),rfl,rfl⟩
theorem xG3:SlR X rSlS:=by
 rintro DA s σ H x v vl vu lo hi sl Q I rx hs pl pu ⟨z,rfl,hz,q⟩
 obtain⟨t,rfl⟩:=rx
 obtain⟨l,rfl,rfl⟩:=yN3 pl
 obtain⟨u,rfl,rfl⟩:=yN3 pu
 refine⟨"str",_,F.slot_str_getitem.lookup,typeIs_str _ _ _,wpAny_getItem_str_slice (l:=l) (u:=u) (st:=none) hs rfl (post_val_or_str ⟨Ba (Txt.slice_le z _ _) hz,fun t' k => ?_⟩)⟩
 exact⟨.str _,H,I.tok _,⟨_,rfl⟩,q⟩
end
def slS(x:D)(lo hi:Option Int):Option D:=(strD x).bind fun z=>if z.length<=sizeLine then some (.str (Txt.slice z lo hi)) else none
theorem xD2:PrS rSlS .cl slS:=by
 intro Oc Ob H x dx lo hi d Q oh va e k
 obtain⟨z,e1,e0⟩:=AD.mp e
 obtain rfl:=xF e1
 split at e0
 ·rename_i h
  cases e0
  exact⟨z,va.str,h,k _ H (Same.refl H) (Rep.str _)⟩
 ·cases e0
theorem zZ7{C:Ct}{e:Expr}{lo hi:Option Expr}{mda:Md}{me:Ev->Res D}{ml mh:Ev->Res (Option Int)}{p2 pos:Pos}(he:RE C mda e me)(hl:RO C lo ml)(hu:RO C hi mh):RE C .cl (.Subscript e (.Slice lo hi none p2) pos) (eS slS me ml mh):=yY1 xG3 xD2 he hl hu
def tFil(a b:Str)(te:TE):TE:=fun σ H Q=>te σ H fun x H1=>∃z,x=.str z/\a.length+z.length+b.length<=sizeLine/\Q (.str (a++z++b)) H1
theorem xI9{X:Cx}{a b:Str}{j1 j2:Nat}{p1 p2 p3 pos:Pos}{e:Expr}{te:TE}(he:PE X e te)(ha:a.length<=sizeLine):PE X (.JoinedStr [.Constant (.str a) j1 p1,.FormattedValue e (-1) none p2,.Constant (.str b) j2 p3] pos) (tFil a b te):=by
 intro DA s σ H Q I h
 refine wpAny_JoinedStr ?_
 show wpAny _ _ (eval (.Constant (.str a) j1 p1) X.env) _ _ _
 refine Calls.Constant_str ⟨a,_,rfl,by rw[BA];exact ha,?_⟩
 show wpAny _ _ (eval (.FormattedValue e (-1) none p2) X.env) _ _ _
 refine wpAny_FormattedValue_plain (thn (he DA _ σ H _ (I.tok _) h) fun v s1 ⟨x,H1,I1,r1,z,ez,hz,q⟩ => ?_)
 subst ez
 obtain⟨t,rfl⟩:=r1
 have la:(Str.empty++a++z).length<=sizeLine:=by rw[BA,Af];rfl'
 have lb:(Str.empty++a++z++b).length<=sizeLine:=by rw[BA,Af,Af];rfl'
 have go:∀(s2:Shared),Inv X DA σ H1 s2->Joins (model X.prog X.w) X.A X.xe [eval (.Constant (.str b) j2 p3) X.env] (Str.empty++a++z) (fun out s₁=>out.length<=sizeLine/\EP X DA σ Q (.str out s₁.toks) { s₁ with toks:=s₁.toks+1 }) s2:=fun s2 I2=>by
  show wpAny _ _ (eval (.Constant (.str b) j2 p3) X.env) _ _ _
  refine Calls.Constant_str ⟨b,_,rfl,lb,?_⟩
  show (Str.empty++a++z++b).length<=sizeLine/\EP X DA σ Q (.str (Str.empty++a++z++b) _) _
  refine⟨lb,?_⟩
  rw[BA]
  exact⟨.str _,H1,(I2.tok _).tok _,⟨_,rfl⟩,q⟩
 exact wpAny_formatField_str ⟨z,_,rfl,la,go _ I1⟩ ⟨z,_,rfl,la,go _ (I1.tok _)⟩ (by rfl')
def filD(a b:Str)(x:D):Option D:=(strD x).bind fun z=>if a.length+z.length+b.length<=sizeLine then some (.str (a++z++b)) else none
theorem xG1{C:Ct}{a b:Str}{j1 j2:Nat}{p1 p2 p3 pos:Pos}{e:Expr}{md:Md}{me:Ev->Res D}(he:RE C md e me)(ha:autoParam (a.length<=sizeLine) Dy):RE C .cl (.JoinedStr [.Constant (.str a) j1 p1,.FormattedValue e (-1) none p2,.Constant (.str b) j2 p3] pos) (e1 (filD a b) me):=by
 obtain⟨te,pe,qe⟩:=he
 refine⟨_,xI9 pe ha,fun Oc Ob σ H ρ Q R h => ?_⟩
 refine qe Oc Ob σ H ρ _ R (Res.zU (Res.zW h) (fun dx _ k x H1 s1 vx => ?_) fun _ z=>z)
 obtain⟨d,ed,k1⟩:=Res.zC k
 obtain⟨z,e1,e0⟩:=AD.mp ed
 obtain rfl:=xF e1
 split at e0
 ·rename_i hl
  cases e0
  exact⟨z,(vx.va R.oh).str,hl,k1 _ H1 s1 (Rep.str _)⟩
 ·cases e0
section
variable {X:Cx}
def ptV(z y:Str):List V:=[.str (Txt.partition z y).1,.str (Txt.partition z y).2.1,.str (Txt.partition z y).2.2]
def rPart:V->List V->Hp->VK->Prop:=fun x vs H Q=>∃z y,x=.str z/\vs=[.str y]/\1<=y.length/\z.length<=sizeLine/\∀p,H p=none->Q (.ref p) (upd H p (.tup (ptV z y)))
theorem Inv.tnew{its:List Value}{ys:List V}{t':Nat}{DA:List (Addr×Obj)}{σ:St}{H:Hp}{s:Shared}(I:Inv X DA σ H s)(hv:Vals ys its)(hz:ys.length<=sizeLine) :
  Inv X DA σ (upd H s.heap.objs.size (.tup ys)) { s with heap:=s.heap.push { cls:=.type "tuple",data:=.seq its.toArray },toks:=t' } :=
 I.laid (fun _ _ q=>Al _ q) (Ai _) ⟨hz,its,hv,_,Az _ rfl,rfl,⟨_,rfl⟩,rfl⟩
theorem yZ2:MtR X "str.partition" rPart:=by
 rintro DA s σ H x vs v us Q I rx rv ⟨z,y,rfl,rfl,hy,hz,q⟩
 obtain⟨t,rfl⟩:=rx
 obtain⟨u,rfl,t2,rfl⟩:=vals1 rv
 have y0:(y.length == 0)=false:=by rw[beq_eq_false_iff_ne];rfl'
 have fin:∀(a b c:Tok) (k:Nat),EP X DA σ Q (.ref s.heap.objs.size) { s with heap:=s.heap.push { cls:=.type "tuple",data:=.seq [Value.str (Txt.partition z y).1 a,.str (Txt.partition z y).2.1 b,.str (Txt.partition z y).2.2 c].toArray },toks:=k }:=fun a b c k =>
  ⟨.ref _,_,Inv.tnew (ys:=ptV z y) I (.cons ⟨a,rfl⟩ (.cons ⟨b,rfl⟩ (.cons ⟨c,rfl⟩ .nil))) (by show 3<=sizeLine;decide),rfl,q _ I.fresh⟩
 refine call_meets F.slot_str_partition (typeIs_str s z t) F.entry_str_partition (F.args_str_partition_2 _ _) (meets_str_partition z y t t2 y0 hz) ?_
 unfold Txt.partition at fin
 generalize Builtin.Str.occurrences z y 0 z.length 1=l at fin ⊢
 cases l with
 | cons i r=>exact fin _ _ _ _
 | nil=>exact fin _ _ _ _
end
def catZ(acc:Str)(zs:List Str):Str:=zs.foldl (fun a b=>a++b) acc
abbrev TJ:=St->Hp->(List Str->Hp->Prop)->Prop
def PJs(X:Cx)(n:Nat)(es:List Expr)(t:TJ):Prop :=
 ∀(DA:List (Addr×Obj)) (s:Shared) (σ:St) (H:Hp) (acc:Str) (K:Str->Hp->Prop),Inv X DA σ H s->acc.length<=n*1000000->t σ H (fun zs H'=>K (catZ acc zs) H') ->
  Joins (model X.prog X.w) X.A X.xe (evalEach es X.env) acc (fun out s₁=>out.length<=sizeLine/\∃H',Inv X DA σ H' s₁/\K out H') s
theorem line16:16*1000000<=sizeLine:=by decide
section
variable {X:Cx}{n:Nat}{es:List Expr}{t:TJ}
theorem zC8(hn:n<=16):PJs X n [] (fun _ H Q=>Q [] H):=by
 intro DA s σ H acc K I hl h
 have:=line16
 have:=BU 1000000 hn
 exact⟨by rfl',H,I,h⟩
theorem fZ{a:Str}{j:Nat}{p:Pos}(ha:a.length<=1000)(hn:n+1<=16)(h:PJs X (n+1) es t):PJs X n (.Constant (.str a) j p::es) (fun σ H Q=>t σ H fun zs H'=>Q (a::zs) H'):=by
 intro DA s σ H acc K I hl hk
 have:=line16
 have:=BU 1000000 hn
 show wpAny _ _ (eval (.Constant (.str a) j p) X.env) _ _ _
 refine Calls.Constant_str ⟨a,_,rfl,by rw[Af];rfl',?_⟩
 exact h DA _ σ H (acc++a) K (I.tok _) (by rw[Af];rfl') hk
theorem xE6{e:Expr}{te:TE}{p:Pos}(he:PE X e te)(hn:n+1<=16)(h:PJs X (n+1) es t):PJs X n (.FormattedValue e (-1) none p::es) (fun σ H Q=>te σ H fun x H1=>∃z,x=.str z/\z.length<=1000000/\t σ H1 fun zs H'=>Q (z::zs) H'):=by
 intro DA s σ H acc K I hl hk
 have:=line16
 have:=BU 1000000 hn
 show wpAny _ _ (eval (.FormattedValue e (-1) none p) X.env) _ _ _
 refine wpAny_FormattedValue_plain (thn (he DA _ σ H _ I hk) fun v s1 ⟨x,H1,I1,r1,z,ez,hz,q⟩ => ?_)
 subst ez
 obtain⟨u,rfl⟩:=r1
 have go:∀s2,Inv X DA σ H1 s2->Joins (model X.prog X.w) X.A X.xe (evalEach es X.env) (acc++z) (fun out s₁=>out.length<=sizeLine/\∃H',Inv X DA σ H' s₁/\K out H') s2:=fun s2 I2=>h DA s2 σ H1 (acc++z) K I2 (by rw[Af];rfl') q
 exact wpAny_formatField_str ⟨z,_,rfl,by rw[Af];rfl',go _ I1⟩ ⟨z,_,rfl,by rw[Af];rfl',go _ (I1.tok _)⟩ (by rfl')
theorem yW6{e:Expr}{te:TE}{p:Pos}(he:PE X e te)(hn:n+1<=16)(h:PJs X (n+1) es t):PJs X n (.FormattedValue e (-1) none p::es) (fun σ H Q=>te σ H fun x H1=>∃i,x=.int i/\i.natAbs.log2<1920/\(toString i:Str).length<=1000000/\t σ H1 fun zs H'=>Q ((toString i:Str)::zs) H'):=by
 intro DA s σ H acc K I hl hk
 have:=line16
 have:=BU 1000000 hn
 show wpAny _ _ (eval (.FormattedValue e (-1) none p) X.env) _ _ _
 refine wpAny_FormattedValue_plain (thn (he DA _ σ H _ I hk) fun v s1 ⟨x,H1,I1,r1,i,ei,hd,hz,q⟩ => ?_)
 subst ei
 obtain⟨u,rfl⟩:=r1
 refine wpAny_formatField_int hd ⟨_,_,rfl,by rw[Af];rfl',?_⟩
 exact h DA _ σ H1 (acc++(toString i:Str)) K (I1.tok _) (by rw[Af];rfl') q
theorem aK{v1 v2:Expr}{pos:Pos}(h:PJs X 0 (v1::v2::es) t):PE X (.JoinedStr (v1::v2::es) pos) (fun σ H Q=>t σ H fun zs H'=>Q (.str (catZ Str.empty zs)) H'):=by
 intro DA s σ H Q I hk
 refine wpAny_JoinedStr ?_
 have key:=h DA s σ H Str.empty (fun out H'=>Q (.str out) H') I (Bb _) hk
 have mono:∀(parts:List (Sem Value)) (acc:Str) (Q1 Q2:Str->Shared->Prop) (s:Shared),(∀o s,Q1 o s->Q2 o s)->Joins (model X.prog X.w) X.A X.xe parts acc Q1 s->Joins (model X.prog X.w) X.A X.xe parts acc Q2 s:=fun parts=>by
  induction parts with
  | nil=>exact fun acc Q1 Q2 s h k=>h _ _ k
  | cons p ps ih=>exact fun acc Q1 Q2 s h k=>wpAny_mono k (fun v s1 ⟨y,u,e,l,j⟩=>⟨y,u,e,l,ih _ _ _ _ h j⟩) fun _ _ z=>z
 refine mono _ _ _ _ _ (fun o s1 ⟨l,H',I',k⟩=>⟨l,.str o,H',I'.tok _,⟨_,rfl⟩,k⟩) key
end
def RJ(C:Ct)(n:Nat)(es:List Expr)(ms:Ev->Res (List Str)):Prop :=
 ∃t,PJs C.X n es t/\∀(Oc:Wd) (Ob:Addr->Prop) (σ:St) (H:Hp) (ρ:Ev) (Q:List Str->Hp->Prop),Rel Oc Ob C.om C.ln σ H ρ ->
  (ms ρ).post (fun zs=>∀H',Same H H'->Q zs H') (fun c=>∀H',Same H H'->C.XE c H')->t σ H Q
def jN:Ev->Res (List Str):=fun _=>.ok []
def jC(a:Str)(ms:Ev->Res (List Str)):Ev->Res (List Str):=fun ρ=>(ms ρ).bind fun zs=>.ok (a::zs)
def jS(f:D->Option Str)(m:Ev->Res D)(ms:Ev->Res (List Str)):Ev->Res (List Str):=fun ρ=>(m ρ).bind fun x=>(Res.lft (f x)).bind fun z=>(ms ρ).bind fun zs=>.ok (z::zs)
def fS(x:D):Option Str:=(strD x).bind fun z=>if z.length<=1000000 then some z else none
def fI:D->Option Str
 | .int i=>if i.natAbs.log2<1920/\(toString i:Str).length<=1000000 then some (toString i) else none
 | _=>none
section
variable {C:Ct}{n:Nat}{es:List Expr}{ms:Ev->Res (List Str)}
theorem zO7(hn:autoParam (n<=16) Dy):RJ C n [] jN:=⟨_,zC8 hn,fun Oc Ob σ H ρ Q R h=>h H (Same.refl H)⟩
theorem qH{a:Str}{j:Nat}{p:Pos}(h:RJ C (n+1) es ms)(ha:autoParam (a.length<=1000) Dy)(hn:autoParam (n+1<=16) Dy):RJ C n (.Constant (.str a) j p::es) (jC a ms):=by
 obtain⟨t,p,q⟩:=h
 exact⟨_,fZ ha hn p,fun Oc Ob σ H ρ Q R h=>q Oc Ob σ H ρ _ R (Res.zU (Res.zW h) (fun zs _ k H' s=>k H' s) fun _ z=>z)⟩
theorem yY6{e:Expr}{md:Md}{m:Ev->Res D}{p:Pos}(he:RE C md e m)(h:RJ C (n+1) es ms)(hn:autoParam (n+1<=16) Dy):RJ C n (.FormattedValue e (-1) none p::es) (jS fS m ms):=by
 obtain⟨te,pe,qe⟩:=he
 obtain⟨t,p,q⟩:=h
 refine⟨_,xE6 pe hn p,fun Oc Ob σ H ρ Q R h=>qe Oc Ob σ H ρ _ R (Res.zU (Res.zW h) (fun dx _ k x H1 s1 vx => ?_) fun _ z=>z)⟩
 obtain⟨z,ez,k1⟩:=Res.zC (Res.zW k)
 obtain⟨y,e1,e0⟩:=AD.mp ez
 obtain rfl:=xF e1
 split at e0
 ·rename_i hl
  cases e0
  exact⟨z,(vx.va R.oh).str,hl,q Oc Ob σ H1 ρ _ (R.same s1) (Res.zU (Res.zW k1) (fun zs _ k2 H' s=>k2 H' (s1.trans s)) fun c z H' s=>z H' (s1.trans s))⟩
 ·cases e0
theorem yZ7{e:Expr}{md:Md}{m:Ev->Res D}{p:Pos}(he:RE C md e m)(h:RJ C (n+1) es ms)(hn:autoParam (n+1<=16) Dy):RJ C n (.FormattedValue e (-1) none p::es) (jS fI m ms):=by
 obtain⟨te,pe,qe⟩:=he
 obtain⟨t,p,q⟩:=h
 refine⟨_,yW6 pe hn p,fun Oc Ob σ H ρ Q R h=>qe Oc Ob σ H ρ _ R (Res.zU (Res.zW h) (fun dx _ k x H1 s1 vx => ?_) fun _ z=>z)⟩
 obtain⟨z,ez,k1⟩:=Res.zC (Res.zW k)
 cases dx with
 | int i =>
  have e0:(if i.natAbs.log2<1920/\(toString i:Str).length<=1000000 then some (toString i:Str) else none)=some z:=ez
  split at e0
  ·rename_i hl
   cases e0
   exact⟨i,(vx.va R.oh).int,hl.1,hl.2,q Oc Ob σ H1 ρ _ (R.same s1) (Res.zU (Res.zW k1) (fun zs _ k2 H' s=>k2 H' (s1.trans s)) fun c z H' s=>z H' (s1.trans s))⟩
  ·cases e0
 | _=>cases ez
def eJ(ms:Ev->Res (List Str)):Ev->Res D:=fun ρ=>(ms ρ).bind fun zs=>.ok (.str (catZ Str.empty zs))
theorem dY{v1 v2:Expr}{pos:Pos}(h:RJ C 0 (v1::v2::es) ms):RE C .cl (.JoinedStr (v1::v2::es) pos) (eJ ms):=by
 obtain⟨t,p,q⟩:=h
 exact⟨_,aK p,fun Oc Ob σ H ρ Q R h=>q Oc Ob σ H ρ _ R (Res.zU (Res.zW h) (fun zs _ k H' s=>k _ H' s (Rep.str _)) fun _ z=>z)⟩
end
end L2.L3
namespace L2.L3
open PySem PySem.Spec PyProof.Rows MR
variable [CN]
abbrev Fs:=List (Int×List D)
theorem yV8{a b:Str}{x:Res D}(h:x=.ok (.str a))(h':x=.ok (.str b)):a=b:=by
 rw[h] at h';cases h';rfl
open Classical in
mutual
inductive TV(H0 H:Hp):V->D->Prop
 | non:TV H0 H .non .none
 | int (i:Int):TV H0 H (.int i) (.int i)
 | tup {q:Addr}{xs:List V}{ds:List D}:H q=some (.tup xs)->H0 q=none->TVs H0 H xs ds->TV H0 H (.ref q) (.tuple ds)
inductive TVs(H0 H:Hp):List V->List D->Prop
 | nil:TVs H0 H [] []
 | cons {v:V}{d:D}{vs:List V}{ds:List D}:TV H0 H v d->TVs H0 H vs ds->TVs H0 H (v::vs) (d::ds)
end
def TK(H H':Hp):Prop:=∀q xs,H q=some (.tup xs)->H' q=some (.tup xs)
section
variable {H0 H H':Hp}
mutual
theorem TV.keep(k:TK H H'):∀{v:V}{d:D},TV H0 H v d->TV H0 H' v d
 | _,_,.non=>.non
 | _,_,.int i=>.int i
 | _,_,.tup e n t=>.tup (k _ _ e) n (TVs.keep k t)
theorem TVs.keep(k:TK H H'):∀{vs:List V}{ds:List D},TVs H0 H vs ds->TVs H0 H' vs ds
 | _,_,.nil=>.nil
 | _,_,.cons h t=>.cons (TV.keep k h) (TVs.keep k t)
end
mutual
theorem TV.rep{O:Addr->Prop}(oh:∀a,O a->H0 a≠none):∀{v:V}{d:D},TV H0 H v d->Rep H O v d
 | _,_,.non=>.non
 | _,_,.int i=>.int i
 | _,_,.tup e n t=>.tup (.inl e) (fun z=>oh _ z n) (TVs.rep oh t)
theorem TVs.rep{O:Addr->Prop}(oh:∀a,O a->H0 a≠none):∀{vs:List V}{ds:List D},TVs H0 H vs ds->Reps H O vs ds
 | _,_,.nil=>.nil
 | _,_,.cons h t=>.cons (TV.rep oh h) (TVs.rep oh t)
end
theorem TVs.len:∀{vs:List V}{ds:List D},TVs H0 H vs ds->vs.length=ds.length
 | _,_,.nil=>rfl
 | _,_,.cons _ t=>BQ (·+1) (TVs.len t)
theorem TVs.app{v:V}{d:D}(h:TV H0 H v d):∀{vs:List V}{ds:List D},TVs H0 H vs ds->TVs H0 H (vs ++ [v]) (ds ++ [d])
 | _,_,.nil=>.cons h .nil
 | _,_,.cons g t=>.cons g (TVs.app h t)
theorem cE(s:Same H H'):TK H H':=fun q xs e=>s q _ e
theorem yX8{a:Addr}{xs:List V}{o:HO}(h:H a=some (.lst xs)):TK H (upd H a o):=fun q ys e=>by
 rw[zO (fun z=>by rw[z,h] at e;cases e)]
 exact e
theorem TK.trans{H'':Hp}(k:TK H H')(l:TK H' H''):TK H H'':=fun q xs e=>l q xs (k q xs e)
theorem zR2{a:Addr}{o:HO}(s:Same H0 H)(n:H0 a=none):Same H0 (upd H a o):=fun q u e=>by
 rw[zO (fun z=>by rw[z,n] at e;cases e)]
 exact s q u e
theorem zZ4{a:Addr}(s:Same H H')(n:H' a=none):H a=none:=by
 cases e:H a with
 | none=>rfl
 | some o=>rw[s a o e] at n;cases n
end
inductive FR(H0:Hp)(b:Addr)(H:Hp):Fs->List V->List Addr->Prop
 | nil:FR H0 b H [] [] []
 | cons {n:Int}{ds:List D}{fs:Fs}{vs:List V}{las:List Addr}{q la:Addr}{ws:List V}:FR H0 b H fs vs las->H q=some (.tup [.int n,.ref la])->H la=some (.lst ws)->H0 la=none->la≠b->la∉las->TVs H0 H ws ds->FR H0 b H ((n,ds)::fs) (vs ++ [.ref q]) (la::las)
section
variable {H0 H H':Hp}{b:Addr}
theorem FR.keep(k:TK H H'):∀{fs:Fs}{vs:List V}{las:List Addr},(∀la∈las,∀ws,H la=some (.lst ws)->H' la=some (.lst ws))->FR H0 b H fs vs las->FR H0 b H' fs vs las
 | _,_,_,_,.nil=>.nil
 | _,_,_,l,.cons t hq hl n nb nl tv=>.cons (t.keep k fun la h=>l la (Ae _ h)) (k _ _ hq) (l _ Ac _ hl) n nb nl (tv.keep k)
theorem FR.len:∀{fs:Fs}{vs:List V}{las:List Addr},FR H0 b H fs vs las->vs.length=fs.length
 | _,_,_,.nil=>rfl
 | _,_,_,.cons t _ _ _ _ _ _=>by rw[Aq,t.len];rfl
theorem FR.mem:∀{fs:Fs}{vs:List V}{las:List Addr},FR H0 b H fs vs las->∀la∈las,la≠b/\∃ws,H la=some (.lst ws)
 | _,_,_,.nil,_,h=>nomatch h
 | _,_,_,.cons t _ hl _ nb _ _,la,h=>by
  rcases Aw.mp h with rfl | h
  ·exact⟨nb,_,hl⟩
  ·exact t.mem la h
end
def Stt(H0 H:Hp)(b:Addr)(fs:Fs):Prop:=∃vs las,Same H0 H/\H0 b=none/\H b=some (.lst vs)/\FR H0 b H fs vs las
theorem Stt.same{H0 H H':Hp}{b:Addr}{fs:Fs}(S:Stt H0 H b fs)(s:Same H H'):Stt H0 H' b fs:=by
 obtain⟨vs,las,sm,fb,hb,fr⟩:=S
 exact⟨vs,las,sm.trans s,fb,s _ _ hb,fr.keep (cE s) fun la _ ws e=>s _ _ e⟩
section
variable (K:KFr) (F1 F2:List D->Res D)
end
theorem callX{F:List D->Res D}{vs:List V}{ds:List D}{d:D}{H:Hp}{Q:VK}{E:XK}(e:F ds=.ok d)(r:Reps H (fun _=>False) vs ds)(k:∀v H',Same H H'->Rep H' (fun _=>False) v d->Q v H'):spX false F vs H Q E :=
 ⟨ds,fun _=>False,fun _ z=>z.elim,r,by rw[e];exact fun v H' s c=>k v H' s c⟩
section
variable {K:KFr}{F1 F2:List D->Res D}{r p:Int}{t:D}{H0:Hp}{b:Addr}{z:V}
end
section
variable {P:Program}{w:World}{K:KFr}{mg:Str->Option Value}{base:Heap}
end
end L2.L3
namespace L2.L3
open PySem PySem.Spec PyProof.Rows
variable [CN]
section
omit [CN]
theorem vZ{h:Heap}{C b:Addr}{o:Obj}(e:(PySem.W.hideAll h [C]).get? b=some o):h.get? b=some o/\b≠C :=
 ⟨CS _ e,fun z=>by rw[z,CD _ (.head _)] at e;cases e⟩
theorem wQ{h:Heap}{C b:Addr}{o:Obj}(e:h.get? b=some o)(n:b≠C):(PySem.W.hideAll h [C]).get? b=some o :=
 Cn _ e fun z=>n (by simpa using z)
theorem kE{h:Heap}{C b:Addr}(e:h.get? b=none):(PySem.W.hideAll h [C]).get? b=none:=by
 cases q:(PySem.W.hideAll h [C]).get? b with
 | none=>rfl
 | some o=>rw[(vZ q).1] at e;cases e
theorem zD8{h g B:Heap}{C:Addr}:∀{l:List Env},h.FunFrames B l->(∀b o,b∈frs l->h.get? b=some o->(∀vs,o.data ≠ .fields vs)->∃o',g.get? b=some o'/\o'.data=o.data)->g.FunFrames (PySem.W.hideAll B [C]) l
 | [],_,_=>trivial
 | env::l,⟨k,⟨L,o,h1,h2,h3,h4⟩,r⟩,q=>by
  have ml:L∈frs (env::l):=Bu.mpr ⟨env,Ac,h1⟩
  obtain⟨o',e1,e2⟩:=q L o ml h3 h4
  refine⟨k,⟨L,o',h1,kE h2,e1,fun vs=>by rw[e2];exact h4 vs⟩,zD8 r fun b o hb=>q b o ?_⟩
  obtain⟨e,he,hf⟩:=Bu.mp hb
  exact Bu.mpr ⟨e,Ae _ he,hf⟩
theorem zJ3{h g B B':Heap}{e:Addr}{cls a0 fl:Value}(t:h.TracedAtW B e cls a0 fl)(q:∀b o ts,h.get? b=some o->o.data=.fields ts->g.get? b=some o)(k:∀b,B.get? b=none->B'.get? b=none):g.TracedAtW B' e cls a0 fl:=by
 obtain⟨oe,vs,T,oT,ts,g1,g2,g4,g5,g6,g7,g8,g9,g10⟩:=t
 exact⟨oe,vs,T,oT,ts,q _ _ _ g1 g4,g2,g4,g5,k _ g6,g7,q _ _ _ g8 g9,g9,g10⟩
end
theorem yU2{X:Cx}{XE:Str->Hp->Prop}{N:List Str}{scope:Scope}{C D:Addr}{fp:List Addr}{s₂:Shared}{H₂:Hp}{DA:List (Addr×Obj)}{σ:St}{use:Option (Value->Sem Unit)}{Qv:Value->Shared->Prop}{xe:Value->Shared->Prop}
  (hb:∀c H e s,ExcAt X c H e s->XE c H->X.xe e s) (hst:X.stack=X.env::X.outer) (hfr:X.env.frame=some X.env.locals) (I2:Inv X DA σ H₂ s₂) (f2:∀b∈fp,FpOk X DA H₂ b) (hC:s₂.heap.objs.size<=C)
  (c:Str) (H:Hp) (e:Value) (s:Shared) (x:ExcAt ((cxComp X N scope C fp s₂ H₂).wish xe) c H e s) (z:XE c H) :
  notedBy (model X.prog X.w) X.A (compEnvC scope (clos X.env.cells scope.names []) C X.env) (fun e s'=>compPost (model X.prog X.w) X.A X.xe use Qv (.ref D) C (.error e) s') e s:=by
 obtain⟨pins',σ',s1,H1,a,B,a0,J1,J,un,rfl,n1,n2,f⟩:=x
 have un:Un (frs X.stack) [] H1 H s1.heap s.heap:=un
 have f:Fl X.stack s1.heap H a (.ref (CN.ad c)) (rowOf c) B a0 s.heap:=f
 have c1:H1 C=none:=J1.free
 have cc:H C=none:=J.free
 have nC:C∉frs X.stack:=fun z=>by
  rcases Aw.mp (I2.stkSub C z) with q | q
  ·exact absurd I2.lt (by rw[<-q];exact Cd.mpr hC)
  ·exact I2.nofs (a:=C) hC q
 obtain⟨m1,⟨oc1,es1,ep1,q1,_⟩,_⟩:=id J1.loc
 obtain⟨m,hn,_⟩:=id J.loc
 obtain⟨oc,es,ep,qc,dc,_⟩:=id hn
 have q1:s1.heap.get? C=some oc1:=q1
 have hn:s.heap.Ns C m:=hn
 have qc:s.heap.get? C=some oc:=qc
 have aC:a≠C:=fun y=>by subst y;rw[n1] at q1;cases q1
 have fC:∀b o ts,s.heap.get? b=some o->o.data=.fields ts->b≠C:=fun b o ts q d y=>by
  subst y
  rw[qc] at q
  cases q
  rw[d] at dc
  cases dc
 have u1:Un (frs X.stack) fp H₂ H1 s₂.heap s1.heap:=J1.base
 have lt:∀b o,s₂.heap.get? b=some o->b≠C:=fun b o q y=>Cd.mpr hC (y▸Ao q)
 have tk:∀{K:Hp}(b:Addr),K C=none->K b≠none->b≠C:=fun b h n y=>n (y▸h)
 have I1:Inv X DA σ H1 { s1 with heap:=PySem.W.hideAll s1.heap [C] }:=by
  refine I2.call' (s':={ s1 with heap:=PySem.W.hideAll s1.heap [C] }) (ch:=fp) J1.os ⟨fun b o q n hb hx=>wQ (u1.keep b o q n hb hx) (lt b o q),fun b o q n hb hx => ?_,u1.free,fun b o q hx => ?_,u1.tups,u1.frzs,u1.tbls⟩ (fun b o q => ?_) J1.bare fun b hb=>⟨(f2 b hb).2.2.2.1,(f2 b hb).2.1,(f2 b hb).2.2.2.2.1,(f2 b hb).2.2.2.2.2⟩
  ·obtain⟨sl,e⟩:=u1.slot b o q n hb hx
   exact⟨sl,wQ e (lt b o q)⟩
  ·obtain⟨o',e⟩:=u1.there b o q hx
   exact⟨o',wQ e (lt b o q)⟩
  ·refine (J1.hok b o q).stay (fun b' u hb' e=>wQ e ?_) (fun _ z=>z) fun _ _ z=>z
   rcases hb' with rfl | hb'
   ·exact tk b' c1 (xM q)
   ·exact tk b' c1 (xM hb')
 have un':Un (frs X.stack) [] H1 H (PySem.W.hideAll s1.heap [C]) (PySem.W.hideAll s.heap [C]):=by
  refine⟨fun b o q n hb hx=>wQ (un.keep b o (vZ q).1 n hb hx) (vZ q).2,fun b o q n hb hx => ?_,fun b o q n hx=>un.free b o (vZ q).1 n hx,fun b o q hx => ?_,un.tups,un.frzs,un.tbls⟩
  ·obtain⟨sl,e⟩:=un.slot b o (vZ q).1 n hb hx
   exact⟨sl,wQ e (vZ q).2⟩
  ·obtain⟨o',e⟩:=un.there b o (vZ q).1 hx
   exact⟨o',wQ e (vZ q).2⟩
 have hok:HOk X.prog X.w H (PySem.W.hideAll s.heap [C]):=fun b o q=>by
  refine (J.hok b o q).stay (fun b' u hb' e=>wQ e ?_) (fun _ z=>z) fun _ _ z=>z
  rcases hb' with rfl | hb'
  ·exact tk b' cc (xM q)
  ·exact tk b' cc (xM hb')
 have I:Inv X DA σ H { s with heap:=PySem.W.hideAll s.heap [C] }:=I1.call' (s':={ s with heap:=PySem.W.hideAll s.heap [C] }) (J.os.trans J1.os.symm) un' hok J.bare (fun b z=>by cases z)
 have frC:∀b,b∈frs X.stack->b≠C:=fun b q y=>nC (y▸q)
 have hidK:∀{od:Option Addr}{v:Value},FlK (.ref (CN.ad c)) (rowOf c) B s1.heap H od v->FlK (.ref (CN.ad c)) (rowOf c) (PySem.W.hideAll B [C]) (PySem.W.hideAll s1.heap [C]) H od v:=fun ⟨y1,y2⟩=>⟨y1,fun r e=>by
  obtain⟨d,z1,z2,z3,z4⟩:=y2 r e
  exact⟨d,z1,z2.keeps (fun o q=>wQ q (fun y=>by rw[y,q1] at z4;cases z4)),z3,kE z4⟩⟩
 have fl:Fl X.stack (PySem.W.hideAll s1.heap [C]) H a (.ref (CN.ad c)) (rowOf c) (PySem.W.hideAll B [C]) a0 (PySem.W.hideAll s.heap [C]):=by
  refine⟨fun b o q=>wQ (f.stays b o (vZ q).1) (vZ q).2,kE f.newB,zD8 f.frm fun b o hb q d=>⟨o,wQ q (frC b hb),rfl⟩,?_,?_,fun b o q nb hh => ?_⟩
  ·rcases f.raw with ⟨fl,t⟩ | ⟨oe,vs,h1,h2,h3,h4⟩
   ·exact .inl ⟨fl,zJ3 t (fun b o ts q d=>wQ q (fC b o ts q d)) fun b=>kE⟩
   ·exact .inr ⟨oe,vs,wQ h1 aC,h2,h3,h4⟩
  ·obtain⟨oe,vs,v,y1,y2⟩:=f.kp.mono fun _ _=>hidK
   exact⟨oe,vs,v,wQ y1 aC,y2⟩
  ·obtain⟨q1,q2⟩:=vZ q
   refine wQ (f.cov b o q1 nb (hh.elim (fun hh=>.inl fun y=>hh (kE y)) .inr)) q2
 have hfrm:s.heap.FunFrames B (X.env::X.outer):=by rw[<-hst];exact f.frm
 have hA:X.A.frames=some (X.env::X.outer):=by rw[<-hst];exact I2.ok.frames
 obtain⟨Φ,hP⟩:∃Φ,Φ=FlK (.ref (CN.ad c)) (rowOf c) (PySem.W.hideAll B [C]) (PySem.W.hideAll s1.heap [C]) H:=⟨_,rfl⟩
 have fk:KpX Φ a s.heap:=hP▸f.kp.mono fun _ _=>hidK
 have key:∀h',Heap.NotedW B (X.env::X.outer) a (.ref (CN.ad c)) a0 (rawInt X.env.locals) s.heap h'->KpX Φ a h'->compPost (model X.prog X.w) X.A X.xe use Qv (.ref D) C (.error (.ref a)) { s with heap:=h' }:=by
  rintro h' ⟨k1,k2,k3,k4⟩ kh
  have hn':h'.Ns C m:=Heap.UpToSlots.ns k4 hn
  obtain⟨_,_,_,qc',dc',_⟩:=id hn'
  have fin:∃m,h'.Ns C m/\∀h'',Heap.SameBut C h' h''->∀cenv:Env,cenv.locals=C->wpAny (model X.prog X.w) X.A (PySem.passOn "comprehension.variables-let-go" (.ref a) cenv:Sem Value) (fun _ _=>False) X.xe { s with heap:=h'' }:=by
   refine⟨m,hn',fun h'' sb cenv ec => ?_⟩
   have t2:h''.TracedAtW B a (.ref (CN.ad c)) a0 (rawInt X.env.locals):=zJ3 k3 (fun b o ts q d=>(sb.2 b fun y=>by
    subst y
    rw[qc'] at q
    cases q
    rw[d] at dc'
    cases dc').trans q) fun b q=>q
   have kh2:KpX Φ a h'':=kh.same (sb.2 a aC)
   refine xX3 (s:={ s with heap:=h'' }) t2 kh2 fun g3 T fl' b1 b2 ⟨o,ts,b3,b4⟩ b5 kh3 => ?_
   have S3:(PySem.W.hideAll B [C]).StaysIn g3:=fun b u q=>by
    obtain⟨y1,y2⟩:=vZ q
    rw[b2 b fun y=>by rw[y,b1] at y1;cases y1]
    exact (sb.2 b y2).trans (k1 b u y1)
   have noT:∀b u,h''.get? b=some u->(∀vs,u.data ≠ .fields vs)->b≠T:=fun b u q d y=>by
    subst y
    have b3:h''.get? b=some o:=b3
    rw[b3] at q
    cases q
    exact d ts b4
   have F3:g3.FunFrames (PySem.W.hideAll B [C]) X.stack:=by
    rw[hst]
    refine zD8 k2 fun b u hb q d=>⟨u,?_,rfl⟩
    have q2:h''.get? b=some u:=(sb.2 b (frC b (by rw[hst];exact hb))).trans q
    exact (b2 b (noT b u q2 d)).trans q2
   have U3:(PySem.W.hideAll s.heap [C]).UpToSlots g3:=fun b u q d=>by
    obtain⟨y1,y2⟩:=vZ q
    obtain⟨sl,y3⟩:=k4 b u y1 d
    have q2:h''.get? b=some { u with slots:=sl }:=(sb.2 b y2).trans y3
    exact⟨sl,(b2 b (noT b _ q2 d)).trans q2⟩
   obtain⟨K,un3,cov⟩:=zW6 I1 I un' fl S3 F3 U3
   exact hb c H _ _ ⟨DA,σ,_,H1,a,PySem.W.hideAll B [C],a0,I1,K,un3,rfl,kE n1,n2,⟨S3,kE f.newB,F3,.inl ⟨fl',zJ3 b5 (fun b o ts q d=>q) fun b=>kE⟩,hP▸kh3,cov⟩⟩ z
  cases use <;> exact fin
 show wpAny (model X.prog X.w) X.A (noteFrame (.ref a) X.env) (fun _ s''=>compPost (model X.prog X.w) X.A X.xe use Qv (.ref D) C (.error (.ref a)) s'') (fun e' s''=>compPost (model X.prog X.w) X.A X.xe use Qv (.ref D) C (.error e') s'') s
 rcases f.raw with ⟨fl,t⟩ | ⟨oe,vs,he,hc,hd,h1,h0⟩
 ·exact bZ hA hfrm hfr t f.stays f.newB fk key
 ·rw[<-hc] at key
  unfold noteFrame
  simp only[hfr]
  refine Ab (wpAny_field he hd h1 ?_)
  rw[AG (by decide)]
  exact entryK hA hfrm hfr he f.stays f.newB hd (Bc.mp h1).1 h0 fk key
def BrI(X:Cx)(XE:Str->Hp->Prop)(N:List Str)(scope:Scope)(C:Addr)(fp:List Addr)(s₂:Shared)(H:Hp)(xe:Value->Shared->Prop):Prop:=∀c H' e s,ExcAt ((cxComp X N scope C fp s₂ H).wish xe) c H' e s->XE c H'->xe e s
def tCompX(X:Cx)(XE:Str->Hp->Prop)(N:List Str)(scope:Scope)(wi:TI)(tt:(C:Addr)->(fp:List Addr)->(s₂:Shared)->(H:Hp)->(xe:Value->Shared->Prop)->BrI X XE N scope C fp s₂ H xe->TT)(te:(C:Addr)->(fp:List Addr)->(s₂:Shared)->(H:Hp)->(xe:Value->Shared->Prop)->BrI X XE N scope C fp s₂ H xe->TE)(js:List Nat):TE:=fun σ H Q=>wi σ H fun J H1=>∀C fp s₂ H₂ xe br,∃W:Nat->Nat->List V->Hp->Prop,(∃m,W 0 m [] H1)/\∀i m acc H,W i m acc H ->
 (J.stop i H/\∀p,H p=none->Q (.ref p) (upd H p (.lst acc))) \/
 (J.go i H/\∃Nx:List V->Hp->Prop,(∀acc' H',Nx acc' H'->∃m',m'<m/\W (i+1) m' acc' H') /\
  ∀x H',J.yld i H x H'->tt C fp s₂ H₂ xe br (compSt σ js (some x)) H' fun b H2=>if b=true then te C fp s₂ H₂ xe br (compSt σ js (some x)) H2 fun v H3=>acc.length<sizeLine/\Nx (acc ++ [v]) H3 else Nx acc H2)
theorem zQ2{X:Cx}{elt iter:Expr}{ifs:List Expr}{sc0 scope:Scope}{N0:List Str}{px pos:Pos}{xt:Str}{fs:List Str}{js:List Nat}{wi:TI}{XE:Str->Hp->Prop}{tt:(C:Addr)->(fp:List Addr)->(s₂:Shared)->(H:Hp)->(xe:Value->Shared->Prop)->BrI X XE (xt::fs) scope C fp s₂ H xe->TT}{te:(C:Addr)->(fp:List Addr)->(s₂:Shared)->(H:Hp)->(xe:Value->Shared->Prop)->BrI X XE (xt::fs) scope C fp s₂ H xe->TE}(hb:∀c H e s,ExcAt X c H e s->XE c H->X.xe e s)(hst:X.stack=X.env::X.outer)(hfr:X.env.frame=some X.env.locals)(S:CompScope sc0 scope N0 xt fs js)(h0:X.env.scope=sc0)(hN0:X.N=N0)(hc:X.calm=true)
  (hi:PI X (.Name xt px) iter wi) (ht:∀C fp s₂ H xe br,PTs ((cxComp X (xt::fs) scope C fp s₂ H).wish xe) ifs (tt C fp s₂ H xe br)) (he:∀C fp s₂ H xe br,PE ((cxComp X (xt::fs) scope C fp s₂ H).wish xe) elt (te C fp s₂ H xe br))
  (hs:autoParam (∀x,foldedSetIterable iter X.env x=pure x) Dx)
  {DA:List (Addr×Obj)}{cpos:Pos}{s:Shared}{σ:St}{H:Hp}{Q:VK}{use:Option (Value->Sem Unit)}{Qv:Value->Shared->Prop}(I:Inv X DA σ H s) (h:tCompX X XE (xt::fs) scope wi tt te js σ H Q)
  (hfin:∀(s':Shared) (C D:Addr) (Ha:Hp) (fl:Flow),(∀h'',Heap.SameBut C s'.heap h''->Inv X DA σ Ha { s' with heap:=h'' })->(∃m,s'.heap.Ns C m)->FpOk X DA Ha C->Q (.ref D) Ha->compPost (model X.prog X.w) X.A X.xe use Qv (.ref D) C (.ok fl) s') :
  wpAny (model X.prog X.w) X.A (comprehension (.ListComp elt [⟨.Name xt px,iter,ifs,0⟩] scope pos) scope X.env cpos (newList []) false (eval iter X.env) use) Qv X.xe s:=by
 refine wpAny_comprehension_free (use:=use) rfl hs (hR (S.cells h0 I.ok)) S.kind S.names ?_
 refine thn (hi DA s σ H _ I h) fun v s1 h1=>thn h1 fun itv s2 h2 => ?_
 obtain⟨it,fp,tn,J,H2,e,I2,T,st2,f2,hW⟩:=h2
 subst e
 have fo:∀b∈fp,∃o,s2.heap.get? b=some o:=fun b hb=>let ⟨o,e,_⟩:=T.obj 0 s2.heap st2 b hb; ⟨o,e⟩
 have blt:∀b∈fp,b<s2.heap.objs.size:=fun b hb=>let ⟨o,e⟩:=fo b hb;Ao e
 refine aF S.nocell S.kind fun D C h₁ mC hDle hCle hDC old hacc hns₁ => ?_
 have bC:∀b o,s2.heap.get? b=some o->b≠C:=fun b o q z=>Cd.mpr hCle (z▸Ao q)
 have bD:∀b o,s2.heap.get? b=some o->b≠D:=fun b o q z=>Cd.mpr hDle (z▸Ao q)
 have br:BrI X XE (xt::fs) scope C fp s2 H2 (notedBy (model X.prog X.w) X.A (compEnvC scope (clos X.env.cells scope.names []) C X.env) (fun e s'=>compPost (model X.prog X.w) X.A X.xe use Qv (.ref D) C (.error e) s')):=fun c H e s x z=>yU2 hb hst hfr I2 f2 hCle c H e s x z
 generalize hxe:(notedBy (model X.prog X.w) X.A (compEnvC scope (clos X.env.cells scope.names []) C X.env) (fun e s'=>compPost (model X.prog X.w) X.A X.xe use Qv (.ref D) C (.error e) s'))=xe at br
 have noE:∀(a:Value) (s':Shared),xe a s'->notedBy (model X.prog X.w) X.A (compEnvC scope (clos X.env.cells scope.names []) C X.env) (fun e s'=>compPost (model X.prog X.w) X.A X.xe use Qv (.ref D) C (.error e) s') a s':=fun a s' z=>by rw[hxe];exact z
 obtain⟨W,⟨m0,w0⟩,turn⟩:=hW C fp s2 H2 xe br
 have fpk:∀{H':Hp}(ob:Obj),(∀b∈fp,H' b=none)->∀b∈fp,FpOk ((cxComp X (xt::fs) scope C fp s2 H2).wish xe) [(D,ob)] H' b:=fun {H'} ob hn b hb=>by
  refine⟨hn b hb,AL (Ax (blt b hb) hCle),fun z => ?_,.inl hb,fun x c e=>(f2 b hb).2.2.2.2.1 x c (S.sub h0 I2.ok x c e),fun p hp => ?_⟩
  ·rcases Aw.mp (I2.stkSub b z) with q | q
   ·exact (f2 b hb).2.1 q
   ·exact (f2 b hb).2.2.1 q
  ·have:p=(D,ob):=by
    have hp:p ∈ [] ++ [(D,ob)]:=hp
    simpa using hp
   subst this
   exact Ck (Ax (blt b hb) hDle)
 have loop:codeAny (model X.prog X.w) X.A (.compLoop (.ListComp elt [⟨.Name xt px,iter,ifs,0⟩] scope pos) 0 (.ref it) (.ref D) (compEnvC scope (clos X.env.cells scope.names []) C X.env))
    (compPost (model X.prog X.w) X.A X.xe use Qv (.ref D) C) { s2 with heap:=h₁ }:=by
  have J0:Inv ((cxComp X (xt::fs) scope C fp s2 H2).wish xe) [] (compSt σ js none) H2 { s2 with heap:=h₁ } :=
   (Inv.block (s₂:=s2) (s₄:={ s2 with heap:=h₁ }) S h0 hN0 I2 f2 fo rfl I2.bare old hCle hns₁).wish xe
  have H2D:H2 D=none:=I2.hok.fresh hDle
  have ofD:D∉frs X.stack:=fun z=>by
   rcases Aw.mp (I2.stkSub D z) with q | q
   ·exact absurd I2.lt (by rw[<-q];exact Cd.mpr hDle)
   ·exact I2.nofs (a:=D) hDle q
  refine codeAny_loop rfl (fun n s'=>∃(i:Nat) (σ':St) (H':Hp) (acc:List V) (its:List Value) (k:Nat),(∃v0,σ'=compSt σ js v0)/\Inv ((cxComp X (xt::fs) scope C fp s2 H2).wish xe) [] σ' H' s'/\tn i s'.heap/\(∀b∈fp,H' b=none)/\H' D=none /\
    s'.heap.get? D=some { cls:=.type "list",data:=.seq its.toArray k }/\Vals acc its/\acc.length<=sizeLine/\W i n acc H') ?_ m0
   ⟨0,_,H2,[],[],0,⟨none,rfl⟩,J0,T.keep 0 _ _ st2 fun b hb o e=>old b o e,fun b hb=>(f2 b hb).1,H2D,hacc,.nil,Bb _,w0⟩
  rintro n s3 ⟨i,σ3,H3,acc,its,k,⟨v0,rfl⟩,I3,st3,fr3,hD3,d3,va,hz,w3⟩
  show wpAny _ X.A ((compTurn (.ListComp elt [⟨.Name xt px,iter,ifs,0⟩] scope pos) 0 (.ref it) (.ref D) (compEnvC scope (clos X.env.cells scope.names []) C X.env)).onRaise (fun x=>do noteFrame x (compEnvC scope (clos X.env.cells scope.names []) C X.env);theTreesLotGoes x)) _ _ s3
  refine wpAny_noted ?_
  rw[compTurn_list]
  refine Ab (wpAny_standAt ?_)
  have pinD:Inv ((cxComp X (xt::fs) scope C fp s2 H2).wish xe) [(D,{ cls:=.type "list",data:=.seq its.toArray k })] (compSt σ js v0) H3 s3:=I3.xZ fun p hp=>by
   have:p=(D,{ cls:=.type "list",data:=.seq its.toArray k }):=by simpa using hp
   subst this
   exact⟨d3,hD3,hDC,ofD,fun v z=>by cases z⟩
  refine Ab ?_
  rcases turn i n acc H3 w3 with ⟨stop,qn⟩ | ⟨go,N,hN,step⟩
  ·refine thn (T.done ((cxComp X (xt::fs) scope C fp s2 H2).wish xe) rfl rfl rfl hc i _ s3 _ H3 _ pinD (fpk _ fr3) st3 stop) fun r s4 ⟨hr,I4⟩ => ?_
   subst hr
   refine Ar ?_
   obtain⟨m4,hn4,_⟩:=I4.loc
   have hHC:H3 C=none:=I4.free
   refine hfin s4 C D (upd H3 D (.lst acc)) _ (fun h'' hsb=>I2.unblock f2 I4.unwish hCle hDle hDC hD3 ((I4.pin (D,{ cls:=.type "list",data:=.seq its.toArray k }) (Ad _ Ac)).1) va hz hsb) ⟨m4,hn4⟩ (I2.fpOk hCle (by rw[zO (Bd hDC)];exact hHC)) (qn D hD3)
  ·refine thn (T.item ((cxComp X (xt::fs) scope C fp s2 H2).wish xe) rfl rfl rfl hc i _ s3 _ H3 _ pinD (fpk _ fr3) st3 go) fun r s4 ⟨u,hr,h4⟩ => ?_
   subst hr
   refine Ab (thn h4 fun _ s5 ⟨x,H5,I5,r5,y5,st5,fr5⟩ => ?_)
   have I5':=I5.pinned (fpk _ fr5) (T.obj _ _ st5)
   have gok:PG ((cxComp X (xt::fs) scope C fp s2 H2).wish xe) (.Name xt px) (gName 0):=gK S.nd rfl (.inl (lookup_relabel_local S.tgt)) (.inr (lookup_relabel_local S.tgt))
   refine Ab (wpAny_mono (gok _ s5 (compSt σ js v0) H5 x u (fun σ' H'=>σ'=compSt σ js (some x)/\H'=H5) I5' r5 ⟨rfl,rfl⟩) (fun _ s6 ⟨σ6,H6,I6,e6,e6'⟩ => ?_) noE)
   subst e6 e6'
   have fin:∀{acc':List V}{its':List Value}{k':Nat}{H7:Hp}{s7:Shared},Inv ((cxComp X (xt::fs) scope C fp s2 H2).wish xe) [] (compSt σ js (some x)) H7 s7->tn (i+1) s7.heap->(∀b∈fp,H7 b=none)->H7 D=none->s7.heap.get? D=some { cls:=.type "list",data:=.seq its'.toArray k' }->Vals acc' its'->acc'.length<=sizeLine->N acc' H7 ->
     ∃m,m<n/\∃(i:Nat) (σ':St) (H':Hp) (acc:List V) (its:List Value) (k:Nat),(∃v0,σ'=compSt σ js v0)/\Inv ((cxComp X (xt::fs) scope C fp s2 H2).wish xe) [] σ' H' s7/\tn i s7.heap/\(∀b∈fp,H' b=none)/\H' D=none /\
      s7.heap.get? D=some { cls:=.type "list",data:=.seq its.toArray k }/\Vals acc its/\acc.length<=sizeLine/\W i m acc H':=fun {acc' its' k' H7 s7} a1 a2 a3 a4 a5 a6 a7 a8=>by
    obtain⟨m',hm,w7⟩:=hN _ _ a8
    exact⟨m',hm,i+1,_,H7,acc',its',k',⟨_,rfl⟩,a1,a2,a3,a4,a5,a6,a7,w7⟩
   have rest:∀{H7:Hp}{s7:Shared},Inv ((cxComp X (xt::fs) scope C fp s2 H2).wish xe) ([(D,{ cls:=.type "list",data:=.seq its.toArray k })]++pinsAt fp s5.heap) (compSt σ js (some x)) H7 s7 ->
     tn (i+1) s7.heap/\(∀b∈fp,H7 b=none)/\H7 D=none/\s7.heap.get? D=some { cls:=.type "list",data:=.seq its.toArray k }:=fun {H7 s7} I7=>by
    refine⟨T.keep _ _ _ st5 fun b hb o e=>(I7.pin (b,o) (Ad _ (Ad _ (wH hb e)))).1,fun b hb => ?_,(I7.pin (D,{ cls:=.type "list",data:=.seq its.toArray k }) (Ad _ (AM _ Ac))).2.1,(I7.pin (D,{ cls:=.type "list",data:=.seq its.toArray k }) (Ad _ (AM _ Ac))).1⟩
    obtain⟨o,e,d⟩:=T.obj _ _ st5 b hb
    exact (I7.pin (b,o) (Ad _ (Ad _ (wH hb e)))).2.1
   have elem:∀{H7:Hp}{s7:Shared},Inv ((cxComp X (xt::fs) scope C fp s2 H2).wish xe) ([(D,{ cls:=.type "list",data:=.seq its.toArray k })]++pinsAt fp s5.heap) (compSt σ js (some x)) H7 s7 ->
     (te C fp s2 H2 xe br (compSt σ js (some x)) H7 fun v H3=>acc.length<sizeLine/\N (acc ++ [v]) H3) ->
     wpAny (model X.prog X.w) X.A (eval elt (compEnvC scope (clos X.env.cells scope.names []) C X.env)) (fun y s8=>wpAny (model X.prog X.w) X.A (call (.builtin "list.append") [.ref D,y]) (fun _ s9=>∃m,m<n/\∃(i:Nat) (σ':St) (H':Hp) (acc:List V) (its:List Value) (k:Nat),(∃v0,σ'=compSt σ js v0)/\Inv ((cxComp X (xt::fs) scope C fp s2 H2).wish xe) [] σ' H' s9/\tn i s9.heap/\(∀b∈fp,H' b=none)/\H' D=none /\
      s9.heap.get? D=some { cls:=.type "list",data:=.seq its.toArray k }/\Vals acc its/\acc.length<=sizeLine/\W i m acc H')
      xe s8) xe s7:=fun {H7 s7} I7 q7=>by
    refine thn (he C fp s2 H2 xe br _ s7 _ H7 _ I7 q7) fun y s8 ⟨v,H8,I8,r8,hl8,n8⟩ => ?_
    obtain⟨t8,fr8,hD8,d8⟩:=rest I8
    have hsz:=va.length
    refine call_meets CT ⟨_,d8,rfl⟩ CO (CG _ _) (CW D its.toArray k y (by rw[As];rfl')) ⟨d8,?_⟩
    have q:=Dc d8 (·.push y)
    rw[show (its.toArray.push y)=(its ++ [y]).toArray by simp] at q
    have kk:∀b o,b≠D->s8.heap.get? b=some o->(s8.heap.update D (Obj.mapSeq (·.push y))).get? b=some o:=fun b o hb e=>(AC s8.heap _ (Bd hb)).trans e
    have I9:Inv ((cxComp X (xt::fs) scope C fp s2 H2).wish xe) [] (compSt σ js (some x)) H8 { s8 with heap:=s8.heap.update D (Obj.mapSeq (·.push y)) }:=by
     refine Inv.turned (it:=D) (t':=s8.toks) (I8.xZ (pins':=[]) fun p hp=>nomatch hp) kk hD8 hDC (.inr hDle) (fun x c e z => ?_) fun p hp=>absurd (show p∈([]:List (Addr×Obj)) from hp) (by simp)
     obtain⟨v,o,ho,_⟩:=I2.cell x c (S.sub h0 I2.ok x c e)
     exact bD c o ho z
    refine fin I9 (T.keep _ _ _ t8 fun b hb o e=>kk b o (AL (Ax (blt b hb) hDle)) e) fr8 hD8 q (va.append (.cons r8 .nil)) ?_ n8
    rw[Aq,Bf]
    rfl'
   have q6:=step x H6 y5
   have htt:=ht C fp s2 H2 xe br
   generalize tt C fp s2 H2 xe br=tt' at htt q6
   cases htt with
   | nil =>
    refine Ab (Ar ?_)
    dsimp only[tTrue] at q6
    rw[Am rfl] at q6
    refine wpAny_mono (Ab (Ab (thn (elem I6 q6) fun y s8 h8=>Ab (thn h8 fun _ s9 h9=>Ar (Ar ⟨rfl,h9⟩))))) (fun _ _ z=>z) noE
   | one ht1 =>
    refine Ab (wpAny_tests_one (wpAny_mono (ht1 _ s6 _ H6 _ I6 q6) (fun b s7 ⟨H7,I7,q7⟩ => ?_) noE))
    cases b with
    | false =>
     rw[AG Ap] at q7
     obtain⟨t8,fr8,hD8,d8⟩:=rest I7
     exact Ar ⟨rfl,fin (I7.xZ (pins':=[]) fun p hp=>nomatch hp) t8 fr8 hD8 d8 va hz q7⟩
    | true =>
     rw[Am rfl] at q7
     refine wpAny_mono (Ab (Ab (thn (elem I7 q7) fun y s8 h8=>Ab (thn h8 fun _ s9 h9=>Ar (Ar ⟨rfl,h9⟩))))) (fun _ _ z=>z) noE
 exact codeAny_compStart_list loop (T.self X.A 0 _ _ _ (T.keep 0 _ _ st2 fun b hb o e=>old b o e) loop)
theorem xX9{X:Cx}{elt iter:Expr}{ifs:List Expr}{sc0 scope:Scope}{N0:List Str}{px pos:Pos}{xt:Str}{fs:List Str}{js:List Nat}{wi:TI}{XE:Str->Hp->Prop}{tt:(C:Addr)->(fp:List Addr)->(s₂:Shared)->(H:Hp)->(xe:Value->Shared->Prop)->BrI X XE (xt::fs) scope C fp s₂ H xe->TT}{te:(C:Addr)->(fp:List Addr)->(s₂:Shared)->(H:Hp)->(xe:Value->Shared->Prop)->BrI X XE (xt::fs) scope C fp s₂ H xe->TE}(hb:∀c H e s,ExcAt X c H e s->XE c H->X.xe e s)(hst:X.stack=X.env::X.outer)(hfr:X.env.frame=some X.env.locals)(S:CompScope sc0 scope N0 xt fs js)(h0:X.env.scope=sc0)(hN0:X.N=N0)(hc:X.calm=true)
  (hi:PI X (.Name xt px) iter wi) (ht:∀C fp s₂ H xe br,PTs ((cxComp X (xt::fs) scope C fp s₂ H).wish xe) ifs (tt C fp s₂ H xe br)) (he:∀C fp s₂ H xe br,PE ((cxComp X (xt::fs) scope C fp s₂ H).wish xe) elt (te C fp s₂ H xe br))
  (hs:autoParam (∀x,foldedSetIterable iter X.env x=pure x) Dx) :
  PE X (.ListComp elt [⟨.Name xt px,iter,ifs,0⟩] scope pos) (tCompX X XE (xt::fs) scope wi tt te js):=by
 intro DA s σ H Q I h
 rw[eval_ListComp]
 refine zQ2 hb hst hfr S h0 hN0 hc hi ht he hs (use:=none) (Qv:=EP X DA σ Q) I h fun s' C D Ha fl hI hns hC q => ?_
 obtain⟨m,hn⟩:=hns
 exact⟨m,hn,fun h' hsb=>⟨.ref D,Ha,hI h' hsb,rfl,q⟩⟩
theorem xU7{X:Cx}{elt iter:Expr}{ifs:List Expr}{sc0 scope:Scope}{N0:List Str}{px py pos spos:Pos}{xt y:Str}{fs:List Str}{js:List Nat}{i:Nat}{wi:TI}{XE:Str->Hp->Prop}{tt:(C:Addr)->(fp:List Addr)->(s₂:Shared)->(H:Hp)->(xe:Value->Shared->Prop)->BrI X XE (xt::fs) scope C fp s₂ H xe->TT}{te:(C:Addr)->(fp:List Addr)->(s₂:Shared)->(H:Hp)->(xe:Value->Shared->Prop)->BrI X XE (xt::fs) scope C fp s₂ H xe->TE}(hb:∀c H e s,ExcAt X c H e s->XE c H->X.xe e s)(hst:X.stack=X.env::X.outer)(hfr:X.env.frame=some X.env.locals)(S:CompScope sc0 scope N0 xt fs js)(h0:X.env.scope=sc0)(hN0:X.N=N0)(hc:X.calm=true)
  (hi:PI X (.Name xt px) iter wi) (ht:∀C fp s₂ H xe br,PTs ((cxComp X (xt::fs) scope C fp s₂ H).wish xe) ifs (tt C fp s₂ H xe br)) (he:∀C fp s₂ H xe br,PE ((cxComp X (xt::fs) scope C fp s₂ H).wish xe) elt (te C fp s₂ H xe br))
  (nd:X.N.Nodup) (hy:X.N[i]?=some y) (hl:Loc X.env.scope y) (hsw:swapsWith (.ListComp elt [⟨.Name xt px,iter,ifs,0⟩] scope pos) (some (.Name y py)) spos.line X.env=pure true)
  (hs:autoParam (∀x,foldedSetIterable iter X.env x=pure x) Dx) (hf:autoParam (X.fn y=true\/X.env.scope.names.lookup y=some .local) Dw) :
  PS X (.Assign [.Name y py] (.ListComp elt [⟨.Name xt px,iter,ifs,0⟩] scope pos) spos) (tAsg (tCompX X XE (xt::fs) scope wi tt te js) (gName i)):=by
 intro DA s σ H E I h
 rw[exec_Assign_Name_used _ _ _ _ hsw]
 refine Ab (wpAny_standAt (Ab ?_))
 show wpAny _ X.A (do let _ <-comprehension (.ListComp elt [⟨.Name xt px,iter,ifs,0⟩] scope pos) scope X.env _ (newList []) false (eval iter X.env) (some (assign (.Name y py) X.env))) _ _ s
 refine Ab (thn (zQ2 hb hst hfr S h0 hN0 hc hi ht he hs (use:=some (assign (.Name y py) X.env)) (Qv:=fun _ s'=>SP X DA E .next s') I h fun s' C D Ha fl hI hns hC q => ?_) fun _ s' hq=>Ar (Ar hq))
 show wpAny (model X.prog X.w) X.A (assign (.Name y py) X.env (.ref D)) (fun _ s''=>∃m,s''.heap.Ns C m/\∀h',Heap.SameBut C s''.heap h'->SP X DA E .next { s'' with heap:=h' }) X.xe s'
 obtain⟨m,oC,es,ep,hgC,hdC,hrC⟩:=hns
 have I1:Inv X DA σ Ha s':=hI s'.heap ⟨rfl,fun b _=>rfl⟩
 have I2:Inv X (DA ++ [(C,oC)]) σ Ha s':=I1.xZ fun p hp=>by
  rcases AE.mp hp with z | z
  ·exact I1.pin p (Ad _ z)
  ·have:p=(C,oC):=by simpa using z
   subst this
   exact⟨hgC,hC.1,hC.2.1,hC.2.2.1,fun v z=>by rw[hdC] at z;cases z⟩
 refine wpAny_assign_Name (fV I2 nd hy hl (show RelV (.ref D) (.ref D) from rfl) (fun s'' I3 => ?_) hf)
 have hgC':=(I3.pin (C,oC) (Ad _ (Ad _ Ac))).1
 refine⟨m,⟨oC,es,ep,hgC',hdC,hrC⟩,fun h' hsb => ?_⟩
 have I4:Inv X DA (σ.set i (some (.ref D))) Ha s'':=I3.xZ fun p hp=>I3.pin p (Ad _ (AM _ hp))
 exact⟨_,Ha,Inv.turned (it:=C) (t':=s''.toks) I4 (fun b o hb e=>(hsb.2 b hb).trans e) hC.1 hC.2.1 hC.2.2.2.1 hC.2.2.2.2.1 hC.2.2.2.2.2,q⟩
def tComp2X(X:Cx)(XE:Str->Hp->Prop)(N:List Str)(scope:Scope)(wi:TI)(tt:(C:Addr)->(fp:List Addr)->(s₂:Shared)->(H:Hp)->(xe:Value->Shared->Prop)->BrI X XE N scope C fp s₂ H xe->TT)(te:(C:Addr)->(fp:List Addr)->(s₂:Shared)->(H:Hp)->(xe:Value->Shared->Prop)->BrI X XE N scope C fp s₂ H xe->TE)(js:List Nat):TE:=fun σ H Q=>wi σ H fun J H1=>∀C fp s₂ H₂ xe br,∃W:Nat->Nat->List V->Hp->Prop,(∃m,W 0 m [] H1)/\∀i m acc H,W i m acc H ->
 (J.stop i H/\∀p,H p=none->Q (.ref p) (upd H p (.lst acc))) \/
 (J.go i H/\∃Nx:List V->Hp->Prop,(∀acc' H',Nx acc' H'->∃m',m'<m/\W (i+1) m' acc' H') /\
  ∀x H',J.yld i H x H'->∃ta x1 x2,x=.ref ta/\SqT X.K H' ta [x1,x2]/\tt C fp s₂ H₂ xe br (compSt2 σ js (some x1) (some x2)) H' fun b H2=>if b=true then te C fp s₂ H₂ xe br (compSt2 σ js (some x1) (some x2)) H2 fun v H3=>acc.length<sizeLine/\Nx (acc ++ [v]) H3 else Nx acc H2)
theorem zT3{X:Cx}{elt iter:Expr}{ifs:List Expr}{sc0 scope:Scope}{N0:List Str}{px pw tp pos:Pos}{k1:Nat}{xt yt:Str}{fs:List Str}{js:List Nat}{wi:TI}{XE:Str->Hp->Prop}{tt:(C:Addr)->(fp:List Addr)->(s₂:Shared)->(H:Hp)->(xe:Value->Shared->Prop)->BrI X XE (xt::yt::fs) scope C fp s₂ H xe->TT}{te:(C:Addr)->(fp:List Addr)->(s₂:Shared)->(H:Hp)->(xe:Value->Shared->Prop)->BrI X XE (xt::yt::fs) scope C fp s₂ H xe->TE}(hb:∀c H e s,ExcAt X c H e s->XE c H->X.xe e s)(hst:X.stack=X.env::X.outer)(hfr:X.env.frame=some X.env.locals)(S:CScope2 sc0 scope N0 xt yt fs js)(h0:X.env.scope=sc0)(hN0:X.N=N0)(hc:X.calm=true)
  (hi:PI X (.Tuple [.Name xt px,.Name yt pw] k1 tp) iter wi) (ht:∀C fp s₂ H xe br,PTs ((cxComp X (xt::yt::fs) scope C fp s₂ H).wish xe) ifs (tt C fp s₂ H xe br)) (he:∀C fp s₂ H xe br,PE ((cxComp X (xt::yt::fs) scope C fp s₂ H).wish xe) elt (te C fp s₂ H xe br))
  (hs:autoParam (∀x,foldedSetIterable iter X.env x=pure x) Dx)
  {DA:List (Addr×Obj)}{cpos:Pos}{s:Shared}{σ:St}{H:Hp}{Q:VK}{use:Option (Value->Sem Unit)}{Qv:Value->Shared->Prop}(I:Inv X DA σ H s) (h:tComp2X X XE (xt::yt::fs) scope wi tt te js σ H Q)
  (hfin:∀(s':Shared) (C D:Addr) (Ha:Hp) (fl:Flow),(∀h'',Heap.SameBut C s'.heap h''->Inv X DA σ Ha { s' with heap:=h'' })->(∃m,s'.heap.Ns C m)->FpOk X DA Ha C->Q (.ref D) Ha->compPost (model X.prog X.w) X.A X.xe use Qv (.ref D) C (.ok fl) s') :
  wpAny (model X.prog X.w) X.A (comprehension (.ListComp elt [⟨.Tuple [.Name xt px,.Name yt pw] k1 tp,iter,ifs,0⟩] scope pos) scope X.env cpos (newList []) false (eval iter X.env) use) Qv X.xe s:=by
 refine wpAny_comprehension_free (use:=use) rfl hs (hR (S.cells h0 I.ok)) S.kind S.names ?_
 refine thn (hi DA s σ H _ I h) fun v s1 h1=>thn h1 fun itv s2 h2 => ?_
 obtain⟨it,fp,tn,J,H2,e,I2,T,st2,f2,hW⟩:=h2
 subst e
 have fo:∀b∈fp,∃o,s2.heap.get? b=some o:=fun b hb=>let ⟨o,e,_⟩:=T.obj 0 s2.heap st2 b hb; ⟨o,e⟩
 have blt:∀b∈fp,b<s2.heap.objs.size:=fun b hb=>let ⟨o,e⟩:=fo b hb;Ao e
 refine aF S.nocell S.kind fun D C h₁ mC hDle hCle hDC old hacc hns₁ => ?_
 have bC:∀b o,s2.heap.get? b=some o->b≠C:=fun b o q z=>Cd.mpr hCle (z▸Ao q)
 have bD:∀b o,s2.heap.get? b=some o->b≠D:=fun b o q z=>Cd.mpr hDle (z▸Ao q)
 have br:BrI X XE (xt::yt::fs) scope C fp s2 H2 (notedBy (model X.prog X.w) X.A (compEnvC scope (clos X.env.cells scope.names []) C X.env) (fun e s'=>compPost (model X.prog X.w) X.A X.xe use Qv (.ref D) C (.error e) s')):=fun c H e s x z=>yU2 hb hst hfr I2 f2 hCle c H e s x z
 generalize hxe:(notedBy (model X.prog X.w) X.A (compEnvC scope (clos X.env.cells scope.names []) C X.env) (fun e s'=>compPost (model X.prog X.w) X.A X.xe use Qv (.ref D) C (.error e) s'))=xe at br
 have noE:∀(a:Value) (s':Shared),xe a s'->notedBy (model X.prog X.w) X.A (compEnvC scope (clos X.env.cells scope.names []) C X.env) (fun e s'=>compPost (model X.prog X.w) X.A X.xe use Qv (.ref D) C (.error e) s') a s':=fun a s' z=>by rw[hxe];exact z
 obtain⟨W,⟨m0,w0⟩,turn⟩:=hW C fp s2 H2 xe br
 have fpk:∀{H':Hp}(ob:Obj),(∀b∈fp,H' b=none)->∀b∈fp,FpOk ((cxComp X (xt::yt::fs) scope C fp s2 H2).wish xe) [(D,ob)] H' b:=fun {H'} ob hn b hb=>by
  refine⟨hn b hb,AL (Ax (blt b hb) hCle),fun z => ?_,.inl hb,fun x c e=>(f2 b hb).2.2.2.2.1 x c (S.sub h0 I2.ok x c e),fun p hp => ?_⟩
  ·rcases Aw.mp (I2.stkSub b z) with q | q
   ·exact (f2 b hb).2.1 q
   ·exact (f2 b hb).2.2.1 q
  ·have:p=(D,ob):=by
    have hp:p ∈ [] ++ [(D,ob)]:=hp
    simpa using hp
   subst this
   exact Ck (Ax (blt b hb) hDle)
 have loop:codeAny (model X.prog X.w) X.A (.compLoop (.ListComp elt [⟨.Tuple [.Name xt px,.Name yt pw] k1 tp,iter,ifs,0⟩] scope pos) 0 (.ref it) (.ref D) (compEnvC scope (clos X.env.cells scope.names []) C X.env))
    (compPost (model X.prog X.w) X.A X.xe use Qv (.ref D) C) { s2 with heap:=h₁ }:=by
  have J0:Inv ((cxComp X (xt::yt::fs) scope C fp s2 H2).wish xe) [] (compSt2 σ js none none) H2 { s2 with heap:=h₁ } :=
   (Inv.block2 (s₂:=s2) (s₄:={ s2 with heap:=h₁ }) S h0 hN0 I2 f2 fo rfl I2.bare old hCle hns₁).wish xe
  have H2D:H2 D=none:=I2.hok.fresh hDle
  have ofD:D∉frs X.stack:=fun z=>by
   rcases Aw.mp (I2.stkSub D z) with q | q
   ·exact absurd I2.lt (by rw[<-q];exact Cd.mpr hDle)
   ·exact I2.nofs (a:=D) hDle q
  refine codeAny_loop rfl (fun n s'=>∃(i:Nat) (σ':St) (H':Hp) (acc:List V) (its:List Value) (k:Nat),(∃v0 w0,σ'=compSt2 σ js v0 w0)/\Inv ((cxComp X (xt::yt::fs) scope C fp s2 H2).wish xe) [] σ' H' s'/\tn i s'.heap/\(∀b∈fp,H' b=none)/\H' D=none /\
    s'.heap.get? D=some { cls:=.type "list",data:=.seq its.toArray k }/\Vals acc its/\acc.length<=sizeLine/\W i n acc H') ?_ m0
   ⟨0,_,H2,[],[],0,⟨none,none,rfl⟩,J0,T.keep 0 _ _ st2 fun b hb o e=>old b o e,fun b hb=>(f2 b hb).1,H2D,hacc,.nil,Bb _,w0⟩
  rintro n s3 ⟨i,σ3,H3,acc,its,k,⟨v0,w0,rfl⟩,I3,st3,fr3,hD3,d3,va,hz,w3⟩
  show wpAny _ X.A ((compTurn (.ListComp elt [⟨.Tuple [.Name xt px,.Name yt pw] k1 tp,iter,ifs,0⟩] scope pos) 0 (.ref it) (.ref D) (compEnvC scope (clos X.env.cells scope.names []) C X.env)).onRaise (fun x=>do noteFrame x (compEnvC scope (clos X.env.cells scope.names []) C X.env);theTreesLotGoes x)) _ _ s3
  refine wpAny_noted ?_
  rw[compTurn_list]
  refine Ab (wpAny_standAt ?_)
  have pinD:Inv ((cxComp X (xt::yt::fs) scope C fp s2 H2).wish xe) [(D,{ cls:=.type "list",data:=.seq its.toArray k })] (compSt2 σ js v0 w0) H3 s3:=I3.xZ fun p hp=>by
   have:p=(D,{ cls:=.type "list",data:=.seq its.toArray k }):=by simpa using hp
   subst this
   exact⟨d3,hD3,hDC,ofD,fun v z=>by cases z⟩
  refine Ab ?_
  rcases turn i n acc H3 w3 with ⟨stop,qn⟩ | ⟨go,N,hN,step⟩
  ·refine thn (T.done ((cxComp X (xt::yt::fs) scope C fp s2 H2).wish xe) rfl rfl rfl hc i _ s3 _ H3 _ pinD (fpk _ fr3) st3 stop) fun r s4 ⟨hr,I4⟩ => ?_
   subst hr
   refine Ar ?_
   obtain⟨m4,hn4,_⟩:=I4.loc
   have hHC:H3 C=none:=I4.free
   refine hfin s4 C D (upd H3 D (.lst acc)) _ (fun h'' hsb=>I2.unblock f2 I4.unwish hCle hDle hDC hD3 ((I4.pin (D,{ cls:=.type "list",data:=.seq its.toArray k }) (Ad _ Ac)).1) va hz hsb) ⟨m4,hn4⟩ (I2.fpOk hCle (by rw[zO (Bd hDC)];exact hHC)) (qn D hD3)
  ·refine thn (T.item ((cxComp X (xt::yt::fs) scope C fp s2 H2).wish xe) rfl rfl rfl hc i _ s3 _ H3 _ pinD (fpk _ fr3) st3 go) fun r s4 ⟨u,hr,h4⟩ => ?_
   subst hr
   refine Ab (thn h4 fun _ s5 ⟨x,H5,I5,r5,y5,st5,fr5⟩ => ?_)
   have I5':=I5.pinned (fpk _ fr5) (T.obj _ _ st5)
   obtain⟨ta,x1,x2,ex,hx,q6⟩:=step x H5 y5
   have g0:PG ((cxComp X (xt::yt::fs) scope C fp s2 H2).wish xe) (.Name xt px) (gName 0):=gK S.nd rfl (.inl (lookup_relabel_local S.tgt)) (.inr (lookup_relabel_local S.tgt))
   have g1:PG ((cxComp X (xt::yt::fs) scope C fp s2 H2).wish xe) (.Name yt pw) (gName 1):=gK S.nd rfl (.inl (lookup_relabel_local S.tgt2)) (.inr (lookup_relabel_local S.tgt2))
   have gok:PG ((cxComp X (xt::yt::fs) scope C fp s2 H2).wish xe) (.Tuple [.Name xt px,.Name yt pw] k1 tp) (gTup X.K 2 (gCons (gName 0) (gCons (gName 1) gNil))):=yG4 hc (zS5 g0 (zS5 g1 yS2))
   refine Ab (wpAny_mono (gok _ s5 (compSt2 σ js v0 w0) H5 x u (fun σ' H'=>σ'=compSt2 σ js (some x1) (some x2)/\H'=H5) I5' r5 ⟨ta,[x1,x2],ex,hx,rfl,x1,[x2],rfl,x2,[],rfl,rfl,rfl,rfl⟩) (fun _ s6 ⟨σ6,H6,I6,e6,e6'⟩ => ?_) noE)
   subst e6 e6'
   have fin:∀{acc':List V}{its':List Value}{k':Nat}{H7:Hp}{s7:Shared},Inv ((cxComp X (xt::yt::fs) scope C fp s2 H2).wish xe) [] (compSt2 σ js (some x1) (some x2)) H7 s7->tn (i+1) s7.heap->(∀b∈fp,H7 b=none)->H7 D=none->s7.heap.get? D=some { cls:=.type "list",data:=.seq its'.toArray k' }->Vals acc' its'->acc'.length<=sizeLine->N acc' H7 ->
     ∃m,m<n/\∃(i:Nat) (σ':St) (H':Hp) (acc:List V) (its:List Value) (k:Nat),(∃v0 w0,σ'=compSt2 σ js v0 w0)/\Inv ((cxComp X (xt::yt::fs) scope C fp s2 H2).wish xe) [] σ' H' s7/\tn i s7.heap/\(∀b∈fp,H' b=none)/\H' D=none /\
      s7.heap.get? D=some { cls:=.type "list",data:=.seq its.toArray k }/\Vals acc its/\acc.length<=sizeLine/\W i m acc H':=fun {acc' its' k' H7 s7} a1 a2 a3 a4 a5 a6 a7 a8=>by
    obtain⟨m',hm,w7⟩:=hN _ _ a8
    exact⟨m',hm,i+1,_,H7,acc',its',k',⟨_,_,rfl⟩,a1,a2,a3,a4,a5,a6,a7,w7⟩
   have rest:∀{H7:Hp}{s7:Shared},Inv ((cxComp X (xt::yt::fs) scope C fp s2 H2).wish xe) ([(D,{ cls:=.type "list",data:=.seq its.toArray k })]++pinsAt fp s5.heap) (compSt2 σ js (some x1) (some x2)) H7 s7 ->
     tn (i+1) s7.heap/\(∀b∈fp,H7 b=none)/\H7 D=none/\s7.heap.get? D=some { cls:=.type "list",data:=.seq its.toArray k }:=fun {H7 s7} I7=>by
    refine⟨T.keep _ _ _ st5 fun b hb o e=>(I7.pin (b,o) (Ad _ (Ad _ (wH hb e)))).1,fun b hb => ?_,(I7.pin (D,{ cls:=.type "list",data:=.seq its.toArray k }) (Ad _ (AM _ Ac))).2.1,(I7.pin (D,{ cls:=.type "list",data:=.seq its.toArray k }) (Ad _ (AM _ Ac))).1⟩
    obtain⟨o,e,d⟩:=T.obj _ _ st5 b hb
    exact (I7.pin (b,o) (Ad _ (Ad _ (wH hb e)))).2.1
   have elem:∀{H7:Hp}{s7:Shared},Inv ((cxComp X (xt::yt::fs) scope C fp s2 H2).wish xe) ([(D,{ cls:=.type "list",data:=.seq its.toArray k })]++pinsAt fp s5.heap) (compSt2 σ js (some x1) (some x2)) H7 s7 ->
     (te C fp s2 H2 xe br (compSt2 σ js (some x1) (some x2)) H7 fun v H3=>acc.length<sizeLine/\N (acc ++ [v]) H3) ->
     wpAny (model X.prog X.w) X.A (eval elt (compEnvC scope (clos X.env.cells scope.names []) C X.env)) (fun y s8=>wpAny (model X.prog X.w) X.A (call (.builtin "list.append") [.ref D,y]) (fun _ s9=>∃m,m<n/\∃(i:Nat) (σ':St) (H':Hp) (acc:List V) (its:List Value) (k:Nat),(∃v0 w0,σ'=compSt2 σ js v0 w0)/\Inv ((cxComp X (xt::yt::fs) scope C fp s2 H2).wish xe) [] σ' H' s9/\tn i s9.heap/\(∀b∈fp,H' b=none)/\H' D=none /\
      s9.heap.get? D=some { cls:=.type "list",data:=.seq its.toArray k }/\Vals acc its/\acc.length<=sizeLine/\W i m acc H')
      xe s8) xe s7:=fun {H7 s7} I7 q7=>by
    refine thn (he C fp s2 H2 xe br _ s7 _ H7 _ I7 q7) fun y s8 ⟨v,H8,I8,r8,hl8,n8⟩ => ?_
    obtain⟨t8,fr8,hD8,d8⟩:=rest I8
    have hsz:=va.length
    refine call_meets CT ⟨_,d8,rfl⟩ CO (CG _ _) (CW D its.toArray k y (by rw[As];rfl')) ⟨d8,?_⟩
    have q:=Dc d8 (·.push y)
    rw[show (its.toArray.push y)=(its ++ [y]).toArray by simp] at q
    have kk:∀b o,b≠D->s8.heap.get? b=some o->(s8.heap.update D (Obj.mapSeq (·.push y))).get? b=some o:=fun b o hb e=>(AC s8.heap _ (Bd hb)).trans e
    have I9:Inv ((cxComp X (xt::yt::fs) scope C fp s2 H2).wish xe) [] (compSt2 σ js (some x1) (some x2)) H8 { s8 with heap:=s8.heap.update D (Obj.mapSeq (·.push y)) }:=by
     refine Inv.turned (it:=D) (t':=s8.toks) (I8.xZ (pins':=[]) fun p hp=>nomatch hp) kk hD8 hDC (.inr hDle) (fun x c e z => ?_) fun p hp=>absurd (show p∈([]:List (Addr×Obj)) from hp) (by simp)
     obtain⟨v,o,ho,_⟩:=I2.cell x c (S.sub h0 I2.ok x c e)
     exact bD c o ho z
    refine fin I9 (T.keep _ _ _ t8 fun b hb o e=>kk b o (AL (Ax (blt b hb) hDle)) e) fr8 hD8 q (va.append (.cons r8 .nil)) ?_ n8
    rw[Aq,Bf]
    rfl'
   have htt:=ht C fp s2 H2 xe br
   generalize tt C fp s2 H2 xe br=tt' at htt q6
   cases htt with
   | nil =>
    refine Ab (Ar ?_)
    dsimp only[tTrue] at q6
    rw[Am rfl] at q6
    refine wpAny_mono (Ab (Ab (thn (elem I6 q6) fun y s8 h8=>Ab (thn h8 fun _ s9 h9=>Ar (Ar ⟨rfl,h9⟩))))) (fun _ _ z=>z) noE
   | one ht1 =>
    refine Ab (wpAny_tests_one (wpAny_mono (ht1 _ s6 _ H6 _ I6 q6) (fun b s7 ⟨H7,I7,q7⟩ => ?_) noE))
    cases b with
    | false =>
     rw[AG Ap] at q7
     obtain⟨t8,fr8,hD8,d8⟩:=rest I7
     exact Ar ⟨rfl,fin (I7.xZ (pins':=[]) fun p hp=>nomatch hp) t8 fr8 hD8 d8 va hz q7⟩
    | true =>
     rw[Am rfl] at q7
     refine wpAny_mono (Ab (Ab (thn (elem I7 q7) fun y s8 h8=>Ab (thn h8 fun _ s9 h9=>Ar (Ar ⟨rfl,h9⟩))))) (fun _ _ z=>z) noE
 exact codeAny_compStart_list loop (T.self X.A 0 _ _ _ (T.keep 0 _ _ st2 fun b hb o e=>old b o e) loop)
theorem yG2{X:Cx}{elt iter:Expr}{ifs:List Expr}{sc0 scope:Scope}{N0:List Str}{px py tp pos:Pos}{k1:Nat}{xt yt:Str}{fs:List Str}{js:List Nat}{wi:TI}{XE:Str->Hp->Prop}{tt:(C:Addr)->(fp:List Addr)->(s₂:Shared)->(H:Hp)->(xe:Value->Shared->Prop)->BrI X XE (xt::yt::fs) scope C fp s₂ H xe->TT}{te:(C:Addr)->(fp:List Addr)->(s₂:Shared)->(H:Hp)->(xe:Value->Shared->Prop)->BrI X XE (xt::yt::fs) scope C fp s₂ H xe->TE}(hb:∀c H e s,ExcAt X c H e s->XE c H->X.xe e s)(hst:X.stack=X.env::X.outer)(hfr:X.env.frame=some X.env.locals)(S:CScope2 sc0 scope N0 xt yt fs js)(h0:X.env.scope=sc0)(hN0:X.N=N0)(hc:X.calm=true)
  (hi:PI X (.Tuple [.Name xt px,.Name yt py] k1 tp) iter wi) (ht:∀C fp s₂ H xe br,PTs ((cxComp X (xt::yt::fs) scope C fp s₂ H).wish xe) ifs (tt C fp s₂ H xe br)) (he:∀C fp s₂ H xe br,PE ((cxComp X (xt::yt::fs) scope C fp s₂ H).wish xe) elt (te C fp s₂ H xe br))
  (hs:autoParam (∀x,foldedSetIterable iter X.env x=pure x) Dx) :
  PE X (.ListComp elt [⟨.Tuple [.Name xt px,.Name yt py] k1 tp,iter,ifs,0⟩] scope pos) (tComp2X X XE (xt::yt::fs) scope wi tt te js):=by
 intro DA s σ H Q I h
 rw[eval_ListComp]
 refine zT3 hb hst hfr S h0 hN0 hc hi ht he hs (use:=none) (Qv:=EP X DA σ Q) I h fun s' C D Ha fl hI hns hC q => ?_
 obtain⟨m,hn⟩:=hns
 exact⟨m,hn,fun h' hsb=>⟨.ref D,Ha,hI h' hsb,rfl,q⟩⟩
theorem yB4{X:Cx}{elt iter:Expr}{ifs:List Expr}{sc0 scope:Scope}{N0:List Str}{px pw tp py pos spos:Pos}{k1:Nat}{xt yt y:Str}{fs:List Str}{js:List Nat}{i:Nat}{wi:TI}{XE:Str->Hp->Prop}{tt:(C:Addr)->(fp:List Addr)->(s₂:Shared)->(H:Hp)->(xe:Value->Shared->Prop)->BrI X XE (xt::yt::fs) scope C fp s₂ H xe->TT}{te:(C:Addr)->(fp:List Addr)->(s₂:Shared)->(H:Hp)->(xe:Value->Shared->Prop)->BrI X XE (xt::yt::fs) scope C fp s₂ H xe->TE}(hb:∀c H e s,ExcAt X c H e s->XE c H->X.xe e s)(hst:X.stack=X.env::X.outer)(hfr:X.env.frame=some X.env.locals)(S:CScope2 sc0 scope N0 xt yt fs js)(h0:X.env.scope=sc0)(hN0:X.N=N0)(hc:X.calm=true)
  (hi:PI X (.Tuple [.Name xt px,.Name yt pw] k1 tp) iter wi) (ht:∀C fp s₂ H xe br,PTs ((cxComp X (xt::yt::fs) scope C fp s₂ H).wish xe) ifs (tt C fp s₂ H xe br)) (he:∀C fp s₂ H xe br,PE ((cxComp X (xt::yt::fs) scope C fp s₂ H).wish xe) elt (te C fp s₂ H xe br))
  (nd:X.N.Nodup) (hy:X.N[i]?=some y) (hl:Loc X.env.scope y) (hsw:swapsWith (.ListComp elt [⟨.Tuple [.Name xt px,.Name yt pw] k1 tp,iter,ifs,0⟩] scope pos) (some (.Name y py)) spos.line X.env=pure true)
  (hs:autoParam (∀x,foldedSetIterable iter X.env x=pure x) Dx) (hf:autoParam (X.fn y=true\/X.env.scope.names.lookup y=some .local) Dw) :
  PS X (.Assign [.Name y py] (.ListComp elt [⟨.Tuple [.Name xt px,.Name yt pw] k1 tp,iter,ifs,0⟩] scope pos) spos) (tAsg (tComp2X X XE (xt::yt::fs) scope wi tt te js) (gName i)):=by
 intro DA s σ H E I h
 rw[exec_Assign_Name_used _ _ _ _ hsw]
 refine Ab (wpAny_standAt (Ab ?_))
 show wpAny _ X.A (do let _ <-comprehension (.ListComp elt [⟨.Tuple [.Name xt px,.Name yt pw] k1 tp,iter,ifs,0⟩] scope pos) scope X.env _ (newList []) false (eval iter X.env) (some (assign (.Name y py) X.env))) _ _ s
 refine Ab (thn (zT3 hb hst hfr S h0 hN0 hc hi ht he hs (use:=some (assign (.Name y py) X.env)) (Qv:=fun _ s'=>SP X DA E .next s') I h fun s' C D Ha fl hI hns hC q => ?_) fun _ s' hq=>Ar (Ar hq))
 show wpAny (model X.prog X.w) X.A (assign (.Name y py) X.env (.ref D)) (fun _ s''=>∃m,s''.heap.Ns C m/\∀h',Heap.SameBut C s''.heap h'->SP X DA E .next { s'' with heap:=h' }) X.xe s'
 obtain⟨m,oC,es,ep,hgC,hdC,hrC⟩:=hns
 have I1:Inv X DA σ Ha s':=hI s'.heap ⟨rfl,fun b _=>rfl⟩
 have I2:Inv X (DA ++ [(C,oC)]) σ Ha s':=I1.xZ fun p hp=>by
  rcases AE.mp hp with z | z
  ·exact I1.pin p (Ad _ z)
  ·have:p=(C,oC):=by simpa using z
   subst this
   exact⟨hgC,hC.1,hC.2.1,hC.2.2.1,fun v z=>by rw[hdC] at z;cases z⟩
 refine wpAny_assign_Name (fV I2 nd hy hl (show RelV (.ref D) (.ref D) from rfl) (fun s'' I3 => ?_) hf)
 have hgC':=(I3.pin (C,oC) (Ad _ (Ad _ Ac))).1
 refine⟨m,⟨oC,es,ep,hgC',hdC,hrC⟩,fun h' hsb => ?_⟩
 have I4:Inv X DA (σ.set i (some (.ref D))) Ha s'':=I3.xZ fun p hp=>I3.pin p (Ad _ (AM _ hp))
 exact⟨_,Ha,Inv.turned (it:=C) (t':=s''.toks) I4 (fun b o hb e=>(hsb.2 b hb).trans e) hC.1 hC.2.1 hC.2.2.2.1 hC.2.2.2.2.1 hC.2.2.2.2.2,q⟩
section
omit [CN]
def compX(t:D->Res Bool)(f:D->Res D):List D->Res (List D)
 | []=>.ok []
 | x::xs=>(t x).bind fun b=>if b then (f x).bind fun y=>(compX t f xs).bind fun ys=>.ok (y::ys) else compX t f xs
def eCompX(mi:Ev->Res (List D))(mt:Ev->Res Bool)(me:Ev->Res D)(js:List Nat):Ev->Res D:=fun ρ=>(mi ρ).bind fun ds=>if ds.length<=sizeLine then (compX (fun x=>mt (cEnv ρ js x)) (fun x=>me (cEnv ρ js x)) ds).bind fun out=>.ok (.list out) else .no
def eComp2X(mi:Ev->Res (List D))(mt:Ev->Res Bool)(me:Ev->Res D)(js:List Nat):Ev->Res D:=fun ρ=>(mi ρ).bind fun ds=>if ds.length<=sizeLine then (compX (fun d=>pr2 d fun x y=>mt (cEnv2 ρ js x y)) (fun d=>pr2 d fun x y=>me (cEnv2 ρ js x y)) ds).bind fun out=>.ok (.list out) else .no
theorem xW1{α:Type}{d:D}{f:D->D->Res α}{Q:α->Prop}{E:Str->Prop}(h:(pr2 d f).post Q E):∃a b,d=.tuple [a,b]:=by
 unfold pr2 at h
 split at h
 ·exact⟨_,_,rfl⟩
 ·exact h.elim
theorem zZ2{α β γ:Type}(r:Res α)(f:α->Res β)(g:β->Res γ):(r.bind f).bind g=r.bind fun a=>(f a).bind g:=by cases r <;> rfl
end
abbrev cCX(C:Ct)(N:List Str)(scope:Scope)(A:Addr)(fp:List Addr)(s₂:Shared)(H:Hp)(xe:Value->Shared->Prop)(js:List Nat):Ct:=⟨(cxComp C.X N scope A fp s₂ H).wish xe,C.XE,[],capt js (C.om++C.ln)⟩
abbrev cC2X(C:Ct)(N:List Str)(scope:Scope)(A:Addr)(fp:List Addr)(s₂:Shared)(H:Hp)(xe:Value->Shared->Prop)(js:List Nat):Ct:=⟨(cxComp C.X N scope A fp s₂ H).wish xe,C.XE,[],capt2 js (C.om++C.ln)⟩
def wantX(C:Ct)(Oc:Wd)(Ob:Addr->Prop)(H:Hp)(Q:VK)(T:D->Res Bool)(F:D->Res D)(ds done:List D)(i:Nat):Prop :=
 ((compX T F (ds.drop i)).bind fun rest=>Res.ok (PyData.list (done++rest))).post (fun d=>∀v H',Same H H'->VR .new Oc Ob H H' v d->Q v H') (fun c=>∀H',Same H H'->C.XE c H')
theorem zQ1{C:Ct}{Oc:Wd}{Ob:Addr->Prop}{H:Hp}{Q:VK}{T:D->Res Bool}{F:D->Res D}{ds done:List D}{i:Nat}(h:wantX C Oc Ob H Q T F ds done i)(hlt:i<ds.length) :
  (T ds[i]).post (fun b=>if b=true then (F ds[i]).post (fun y=>wantX C Oc Ob H Q T F ds (done ++ [y]) (i+1)) (fun c=>∀H',Same H H'->C.XE c H') else wantX C Oc Ob H Q T F ds done (i+1)) (fun c=>∀H',Same H H'->C.XE c H'):=by
 unfold wantX at h
 rw[Bp hlt,compX,zZ2] at h
 refine Res.zU (Res.zW h) (fun b _ k => ?_) fun _ z=>z
 cases b with
 | false=>exact iteF k
 | true =>
  refine iteT ?_
  have k:(((F ds[i]).bind fun y=>(compX T F (ds.drop (i+1))).bind fun ys=>Res.ok (y::ys)).bind fun rest=>Res.ok (PyData.list (done++rest))).post _ _:=k
  rw[zZ2] at k
  refine Res.zU (Res.zW k) (fun y _ k => ?_) fun _ z=>z
  rw[zZ2] at k
  unfold wantX
  cases e:compX T F (ds.drop (i+1)) with
  | no=>rw[e] at k;exact k
  | ex c=>rw[e] at k;exact k
  | ok ys =>
   rw[e] at k
   have k:∀v H',Same H H'->VR .new Oc Ob H H' v (.list (done++y::ys))->Q v H':=k
   show ∀v H',Same H H'->VR .new Oc Ob H H' v (.list (done ++ [y]++ys))->Q v H'
   rw[BD]
   exact k
section
variable {C:Ct}{elt:Expr}{ifs:List Expr}{scope:Scope}{N:List Str}{js:List Nat}{mi:Ev->Res (List D)}{mt:Ev->Res Bool}{me:Ev->Res D}{wi:TI}
theorem zQ9
  (qi:∀(Oc:Wd) (Ob:Addr->Prop) (σ:St) (H:Hp) (ρ:Ev) (R:It->Hp->Prop),Rel Oc Ob C.om C.ln σ H ρ->(mi ρ).post (fun ds=>∀J H1,Same H H1->WalksS Oc Ob J H1 ds->R J H1) (fun c=>∀H',Same H H'->C.XE c H')->wi σ H R)
  (ht:∀A fp s₂ H xe,Br (cCX C N scope A fp s₂ H xe js)->RTs (cCX C N scope A fp s₂ H xe js) ifs mt) (he:∀A fp s₂ H xe,Br (cCX C N scope A fp s₂ H xe js)->RE (cCX C N scope A fp s₂ H xe js) .cl elt me)
  {Oc:Wd}{Ob:Addr->Prop}{σ:St}{H:Hp}{ρ:Ev}{Q:VK}(R:Rel Oc Ob C.om C.ln σ H ρ) (h:(eCompX mi mt me js ρ).post (fun d=>∀v H',Same H H'->VR .new Oc Ob H H' v d->Q v H') (fun c=>∀H',Same H H'->C.XE c H')) :
  tCompX C.X C.XE N scope wi (fun A fp s H xe br=>Classical.choose (ht A fp s H xe br)) (fun A fp s H xe br=>Classical.choose (he A fp s H xe br)) js σ H Q:=by
 refine qi Oc Ob σ H ρ _ R (Res.zU (Res.zW h) (fun ds _ k J H1 s1 wk => ?_) fun _ z=>z)
 intro A fp s₂ H₂ xe br
 have qt:=(AN (ht A fp s₂ H₂ xe br)).2
 have qe:=(AN (he A fp s₂ H₂ xe br)).2
 have k:(if ds.length<=sizeLine then (compX (fun x=>mt (cEnv ρ js x)) (fun x=>me (cEnv ρ js x)) ds).bind fun out=>Res.ok (PyData.list out) else .no).post (fun d=>∀v H',Same H H'->VR .new Oc Ob H H' v d->Q v H') (fun c=>∀H',Same H H'->C.XE c H'):=k
 by_cases hlen:ds.length<=sizeLine
 ·rw[Am hlen] at k
  refine⟨fun i m acc H2=>m=ds.length-i/\i<=ds.length/\Same H1 H2/\∃done,Reps H2 (Uni Oc Ob) acc done/\acc.length<=i/\wantX C Oc Ob H Q (fun x=>mt (cEnv ρ js x)) (fun x=>me (cEnv ρ js x)) ds done i,⟨_,rfl,Bb _,Same.refl _,[],.nil,Ai _,k⟩,?_⟩
  rintro i m acc H2 ⟨rfl,hi,s2,done,ra,la,w⟩
  obtain⟨w1,w2⟩:=wk H2 s2 i
  have R2:=(R.same s1).same s2
  by_cases hlt:i<ds.length
  ·obtain⟨go,yl⟩:=w1 ds[i] (Ah hlt)
   refine .inr ⟨go,fun acc' H3=>Same H1 H3/\∃done,Reps H3 (Uni Oc Ob) acc' done/\acc'.length<=i+1/\wantX C Oc Ob H Q (fun x=>mt (cEnv ρ js x)) (fun x=>me (cEnv ρ js x)) ds done (i+1),fun acc' H' z=>⟨_,by rfl',rfl,hlt,z⟩,fun x H3 hy => ?_⟩
   obtain⟨s3,rx⟩:=yl x H3 hy
   have R3:=(R2.same s3).comp (js:=js) rx
   refine qt _ _ _ H3 _ _ R3 (Res.zU (zQ1 w hlt) (fun b _ k H4 s4 => ?_) fun c z H' s'=>z H' (((s1.trans s2).trans s3).trans s'))
   cases b with
   | false=>exact iteF ⟨(s2.trans s3).trans s4,done,ra.same (s3.trans s4),by rfl',k⟩
   | true =>
    refine iteT (qe _ _ _ H4 _ _ (R3.same s4) (Res.zU k (fun y _ k v H5 s5 rv => ?_) fun c z H' s'=>z H' ((((s1.trans s2).trans s3).trans s4).trans s')))
    have rv':Rep H5 (Uni Oc Ob) v y:=Rep.less rv fun b z=>.inl z
    exact⟨by rfl',((s2.trans s3).trans s4).trans s5,done ++ [y],(ra.same ((s3.trans s4).trans s5)).append (.one rv'),by rw[Aq,Bf];rfl',k⟩
  ·have ei:i=ds.length:=by rfl'
   subst ei
   refine .inl ⟨w2 (Ai _),fun p hp => ?_⟩
   unfold wantX at w
   rw[BR] at w
   have w:∀v H',Same H H'->VR .new Oc Ob H H' v (.list (done ++ []))->Q v H':=w
   rw[Ch] at w
   exact w _ _ ((s1.trans s2).trans (Same.new hp)) (xB (s1.trans s2) hp ra)
 ·rw[AG hlen] at k
  exact k.elim
theorem zU9
  (qi:∀(Oc:Wd) (Ob:Addr->Prop) (σ:St) (H:Hp) (ρ:Ev) (R:It->Hp->Prop),Rel Oc Ob C.om C.ln σ H ρ->(mi ρ).post (fun ds=>∀J H1,Same H H1->WalksS Oc Ob J H1 ds->R J H1) (fun c=>∀H',Same H H'->C.XE c H')->wi σ H R)
  (ht:∀A fp s₂ H xe,Br (cC2X C N scope A fp s₂ H xe js)->RTs (cC2X C N scope A fp s₂ H xe js) ifs mt) (he:∀A fp s₂ H xe,Br (cC2X C N scope A fp s₂ H xe js)->RE (cC2X C N scope A fp s₂ H xe js) .cl elt me)
  {Oc:Wd}{Ob:Addr->Prop}{σ:St}{H:Hp}{ρ:Ev}{Q:VK}(R:Rel Oc Ob C.om C.ln σ H ρ) (h:(eComp2X mi mt me js ρ).post (fun d=>∀v H',Same H H'->VR .new Oc Ob H H' v d->Q v H') (fun c=>∀H',Same H H'->C.XE c H')) :
  tComp2X C.X C.XE N scope wi (fun A fp s H xe br=>Classical.choose (ht A fp s H xe br)) (fun A fp s H xe br=>Classical.choose (he A fp s H xe br)) js σ H Q:=by
 refine qi Oc Ob σ H ρ _ R (Res.zU (Res.zW h) (fun ds _ k J H1 s1 wk => ?_) fun _ z=>z)
 intro A fp s₂ H₂ xe br
 have qt:=(AN (ht A fp s₂ H₂ xe br)).2
 have qe:=(AN (he A fp s₂ H₂ xe br)).2
 generalize hT:(fun d=>pr2 d fun x y=>mt (cEnv2 ρ js x y))=T
 generalize hF:(fun d=>pr2 d fun x y=>me (cEnv2 ρ js x y))=F
 have k:(if ds.length<=sizeLine then (compX T F ds).bind fun out=>Res.ok (PyData.list out) else .no).post (fun d=>∀v H',Same H H'->VR .new Oc Ob H H' v d->Q v H') (fun c=>∀H',Same H H'->C.XE c H'):=by rw[<-hT,<-hF];exact k
 by_cases hlen:ds.length<=sizeLine
 ·rw[Am hlen] at k
  refine⟨fun i m acc H2=>m=ds.length-i/\i<=ds.length/\Same H1 H2/\∃done,Reps H2 (Uni Oc Ob) acc done/\acc.length<=i/\wantX C Oc Ob H Q T F ds done i,⟨_,rfl,Bb _,Same.refl _,[],.nil,Ai _,k⟩,?_⟩
  rintro i m acc H2 ⟨rfl,hi,s2,done,ra,la,w⟩
  obtain⟨w1,w2⟩:=wk H2 s2 i
  have R2:=(R.same s1).same s2
  by_cases hlt:i<ds.length
  ·obtain⟨go,yl⟩:=w1 ds[i] (Ah hlt)
   refine .inr ⟨go,fun acc' H3=>Same H1 H3/\∃done,Reps H3 (Uni Oc Ob) acc' done/\acc'.length<=i+1/\wantX C Oc Ob H Q T F ds done (i+1),fun acc' H' z=>⟨_,by rfl',rfl,hlt,z⟩,fun x H3 hy => ?_⟩
   obtain⟨s3,rx⟩:=yl x H3 hy
   have st:=zQ1 w hlt
   have two:∃da db,ds[i]=.tuple [da,db]:=by
    have e:T ds[i]=pr2 ds[i] fun x y=>mt (cEnv2 ρ js x y):=by rw[<-hT]
    rw[e] at st
    exact xW1 st
   obtain⟨da,db,ed⟩:=two
   rw[ed] at rx st
   obtain⟨ta,x1,x2,rfl,hsq,rx1,rx2⟩:=xX7 (K:=C.X.K) rx
   have R3:=(R2.same s3).comp2 (js:=js) rx1 rx2
   refine⟨ta,x1,x2,rfl,hsq,?_⟩
   have eT:T (.tuple [da,db])=mt (cEnv2 ρ js da db):=by rw[<-hT];rfl
   have eF:F (.tuple [da,db])=me (cEnv2 ρ js da db):=by rw[<-hF];rfl
   rw[eT,eF] at st
   refine qt _ _ _ H3 _ _ R3 (Res.zU st (fun b _ k H4 s4 => ?_) fun c z H' s'=>z H' (((s1.trans s2).trans s3).trans s'))
   cases b with
   | false=>exact iteF ⟨(s2.trans s3).trans s4,done,ra.same (s3.trans s4),by rfl',k⟩
   | true =>
    refine iteT (qe _ _ _ H4 _ _ (R3.same s4) (Res.zU k (fun y _ k v H5 s5 rv => ?_) fun c z H' s'=>z H' ((((s1.trans s2).trans s3).trans s4).trans s')))
    have rv':Rep H5 (Uni Oc Ob) v y:=Rep.less rv fun b z=>.inl z
    exact⟨by rfl',((s2.trans s3).trans s4).trans s5,done ++ [y],(ra.same ((s3.trans s4).trans s5)).append (.one rv'),by rw[Aq,Bf];rfl',k⟩
  ·have ei:i=ds.length:=by rfl'
   subst ei
   refine .inl ⟨w2 (Ai _),fun p hp => ?_⟩
   unfold wantX at w
   rw[BR] at w
   have w:∀v H',Same H H'->VR .new Oc Ob H H' v (.list (done ++ []))->Q v H':=w
   rw[Ch] at w
   exact w _ _ ((s1.trans s2).trans (Same.new hp)) (xB (s1.trans s2) hp ra)
 ·rw[AG hlen] at k
  exact k.elim
end
theorem xX4{C:Ct}{elt iter:Expr}{ifs:List Expr}{sc0 scope:Scope}{N0:List Str}{px pos:Pos}{xt:Str}{fs:List Str}{js:List Nat}{mi:Ev->Res (List D)}{mt:Ev->Res Bool}{me:Ev->Res D}(hb:Br C)(S:CompScope sc0 scope N0 xt fs js)(h0:C.X.env.scope=sc0)(hN0:C.X.N=N0)(hc:C.X.calm=true)
  (hi:RIc C (.Name xt px) iter mi) (ht:∀A fp s₂ H xe,Br (cCX C (xt::fs) scope A fp s₂ H xe js)->RTs (cCX C (xt::fs) scope A fp s₂ H xe js) ifs mt) (he:∀A fp s₂ H xe,Br (cCX C (xt::fs) scope A fp s₂ H xe js)->RE (cCX C (xt::fs) scope A fp s₂ H xe js) .cl elt me)
  (hs:autoParam (∀x,foldedSetIterable iter C.X.env x=pure x) Dx) (hst:autoParam (C.X.stack=C.X.env::C.X.outer) Dz) (hfr:autoParam (C.X.env.frame=some C.X.env.locals) Dz) :
  RE C .new (.ListComp elt [⟨.Name xt px,iter,ifs,0⟩] scope pos) (eCompX mi mt me js):=by
 obtain⟨wi,pi,qi⟩:=hi
 refine⟨_,xX9 (XE:=C.XE) (tt:=fun A fp s H xe br=>Classical.choose (ht A fp s H xe br)) (te:=fun A fp s H xe br=>Classical.choose (he A fp s H xe br)) hb hst hfr S h0 hN0 hc pi (fun A fp s H xe br=>(AN (ht A fp s H xe br)).1) (fun A fp s H xe br=>(AN (he A fp s H xe br)).1) hs,fun Oc Ob σ H ρ Q R h=>zQ9 qi ht he R h⟩
theorem xY9{C:Ct}{fr:Bool}(i:Nat){elt iter:Expr}{ifs:List Expr}{sc0 scope:Scope}{N0:List Str}{px py pos spos:Pos}{xt y:Str}{fs:List Str}{js:List Nat}{mi:Ev->Res (List D)}{mt:Ev->Res Bool}{me:Ev->Res D}(nd:C.X.N.Nodup)(hb:Br C)(S:CompScope sc0 scope N0 xt fs js)(h0:C.X.env.scope=sc0)(hN0:C.X.N=N0)(hc:C.X.calm=true)
  (hi:RIc C (.Name xt px) iter mi) (ht:∀A fp s₂ H xe,Br (cCX C (xt::fs) scope A fp s₂ H xe js)->RTs (cCX C (xt::fs) scope A fp s₂ H xe js) ifs mt) (he:∀A fp s₂ H xe,Br (cCX C (xt::fs) scope A fp s₂ H xe js)->RE (cCX C (xt::fs) scope A fp s₂ H xe js) .cl elt me)
  (hy:autoParam (C.X.N[i]?=some y) Dz) (ho:autoParam (C.om.contains i=false) Dz) (hln:autoParam (C.ln.contains i=false) Dz) (hl:autoParam (Loc C.X.env.scope y) cD._auto_1)
  (hsw:autoParam (swapsWith (.ListComp elt [⟨.Name xt px,iter,ifs,0⟩] scope pos) (some (.Name y py)) spos.line C.X.env=pure true) Dz) (hs:autoParam (∀x,foldedSetIterable iter C.X.env x=pure x) Dx) (hf:autoParam (C.X.fn y=true\/C.X.env.scope.names.lookup y=some .local) autoK12._auto_1) (hst:autoParam (C.X.stack=C.X.env::C.X.outer) Dz) (hfr:autoParam (C.X.env.frame=some C.X.env.locals) Dz) :
  RS C fr (.Assign [.Name y py] (.ListComp elt [⟨.Name xt px,iter,ifs,0⟩] scope pos) spos) (sS i (eCompX mi mt me js)):=by
 obtain⟨wi,pi,qi⟩:=hi
 refine⟨_,xU7 (XE:=C.XE) (tt:=fun A fp s H xe br=>Classical.choose (ht A fp s H xe br)) (te:=fun A fp s H xe br=>Classical.choose (he A fp s H xe br)) hb hst hfr S h0 hN0 hc pi (fun A fp s H xe br=>(AN (ht A fp s H xe br)).1) (fun A fp s H xe br=>(AN (he A fp s H xe br)).1) nd hy hl hsw hs hf,fun Oc Ob σ H ρ E R h => ?_⟩
 refine zQ9 qi ht he R (Res.zU (Res.zW h) (fun d _ k v H' s r => ?_) fun c z H' s=>z H' (Same.frm s))
 exact k _ H' Ob ((R.same s).set (xJ ho) (xJ hln) (VR.clean r R.oh)) (Same.frm s) fun b z=>.inl z
theorem yA6{C:Ct}{elt iter:Expr}{ifs:List Expr}{sc0 scope:Scope}{N0:List Str}{px py tp pos:Pos}{k1:Nat}{xt yt:Str}{fs:List Str}{js:List Nat}{mi:Ev->Res (List D)}{mt:Ev->Res Bool}{me:Ev->Res D}(hb:Br C)(S:CScope2 sc0 scope N0 xt yt fs js)(h0:C.X.env.scope=sc0)(hN0:C.X.N=N0)(hc:C.X.calm=true)
  (hi:RIc C (.Tuple [.Name xt px,.Name yt py] k1 tp) iter mi) (ht:∀A fp s₂ H xe,Br (cC2X C (xt::yt::fs) scope A fp s₂ H xe js)->RTs (cC2X C (xt::yt::fs) scope A fp s₂ H xe js) ifs mt) (he:∀A fp s₂ H xe,Br (cC2X C (xt::yt::fs) scope A fp s₂ H xe js)->RE (cC2X C (xt::yt::fs) scope A fp s₂ H xe js) .cl elt me)
  (hs:autoParam (∀x,foldedSetIterable iter C.X.env x=pure x) Dx) (hst:autoParam (C.X.stack=C.X.env::C.X.outer) Dz) (hfr:autoParam (C.X.env.frame=some C.X.env.locals) Dz) :
  RE C .new (.ListComp elt [⟨.Tuple [.Name xt px,.Name yt py] k1 tp,iter,ifs,0⟩] scope pos) (eComp2X mi mt me js):=by
 obtain⟨wi,pi,qi⟩:=hi
 refine⟨_,yG2 (XE:=C.XE) (tt:=fun A fp s H xe br=>Classical.choose (ht A fp s H xe br)) (te:=fun A fp s H xe br=>Classical.choose (he A fp s H xe br)) hb hst hfr S h0 hN0 hc pi (fun A fp s H xe br=>(AN (ht A fp s H xe br)).1) (fun A fp s H xe br=>(AN (he A fp s H xe br)).1) hs,fun Oc Ob σ H ρ Q R h=>zU9 qi ht he R h⟩
theorem yI8{C:Ct}{fr:Bool}(i:Nat){elt iter:Expr}{ifs:List Expr}{sc0 scope:Scope}{N0:List Str}{px pw tp py pos spos:Pos}{k1:Nat}{xt yt y:Str}{fs:List Str}{js:List Nat}{mi:Ev->Res (List D)}{mt:Ev->Res Bool}{me:Ev->Res D}(nd:C.X.N.Nodup)(hb:Br C)(S:CScope2 sc0 scope N0 xt yt fs js)(h0:C.X.env.scope=sc0)(hN0:C.X.N=N0)(hc:C.X.calm=true)
  (hi:RIc C (.Tuple [.Name xt px,.Name yt pw] k1 tp) iter mi) (ht:∀A fp s₂ H xe,Br (cC2X C (xt::yt::fs) scope A fp s₂ H xe js)->RTs (cC2X C (xt::yt::fs) scope A fp s₂ H xe js) ifs mt) (he:∀A fp s₂ H xe,Br (cC2X C (xt::yt::fs) scope A fp s₂ H xe js)->RE (cC2X C (xt::yt::fs) scope A fp s₂ H xe js) .cl elt me)
  (hy:autoParam (C.X.N[i]?=some y) Dz) (ho:autoParam (C.om.contains i=false) Dz) (hln:autoParam (C.ln.contains i=false) Dz) (hl:autoParam (Loc C.X.env.scope y) cD._auto_1)
  (hsw:autoParam (swapsWith (.ListComp elt [⟨.Tuple [.Name xt px,.Name yt pw] k1 tp,iter,ifs,0⟩] scope pos) (some (.Name y py)) spos.line C.X.env=pure true) Dz) (hs:autoParam (∀x,foldedSetIterable iter C.X.env x=pure x) Dx) (hf:autoParam (C.X.fn y=true\/C.X.env.scope.names.lookup y=some .local) autoK12._auto_1) (hst:autoParam (C.X.stack=C.X.env::C.X.outer) Dz) (hfr:autoParam (C.X.env.frame=some C.X.env.locals) Dz) :
  RS C fr (.Assign [.Name y py] (.ListComp elt [⟨.Tuple [.Name xt px,.Name yt pw] k1 tp,iter,ifs,0⟩] scope pos) spos) (sS i (eComp2X mi mt me js)):=by
 obtain⟨wi,pi,qi⟩:=hi
 refine⟨_,yB4 (XE:=C.XE) (tt:=fun A fp s H xe br=>Classical.choose (ht A fp s H xe br)) (te:=fun A fp s H xe br=>Classical.choose (he A fp s H xe br)) hb hst hfr S h0 hN0 hc pi (fun A fp s H xe br=>(AN (ht A fp s H xe br)).1) (fun A fp s H xe br=>(AN (he A fp s H xe br)).1) nd hy hl hsw hs hf,fun Oc Ob σ H ρ E R h => ?_⟩
 refine zU9 qi ht he R (Res.zU (Res.zW h) (fun d _ k v H' s r => ?_) fun c z H' s=>z H' (Same.frm s))
 exact k _ H' Ob ((R.same s).set (xJ ho) (xJ hln) (VR.clean r R.oh)) (Same.frm s) fun b z=>.inl z
end L2.L3
namespace L2
open PySem PySem.Spec PyProof.Rows
structure ExLie(h:Heap)(C N:Addr)(bm:List Value)(newId:String)(ob:Obj):Prop where
 obj:h.get? C=some ob
 is:∃(nm q:Str) (bs:List Value) (hdct:Bool) (sn:List Str) (sub:List Value) (ab:Bool) (col:Option Bool) (dd:Option Addr) (k0 k1 k2 k3 k5:Option Value),ob=excClassObj nm q C N bs bm hdct sn sub ab col dd k0 k1 k2 k3 k5 newId
def IniBack(e:Value)(Q:Value->Shared->Prop)(E:Value->Shared->Prop):Result->Shared->Prop
 | .ok (.ret v),s=>v=.none/\Q e s
 | .ok _,_=>False
 | .error x,s=>E x s
theorem xW9(h:Heap)(cls:Value)(us:List Value):∃g e,g=(h.push { cls:=.type "tuple",data:=.seq us.toArray }).push { cls:=cls,data:=.fields #[.ref h.objs.size,.none,.none,.none,.bool false,.none] }/\e=h.objs.size+1/\Heap.MadeExcOf h g e cls us :=
 ⟨_,_,rfl,rfl,⟨fun b o z=>by heap_get,CF (by rfl'),h.objs.size,by heap_get,CF (Ai _),by heap_get⟩⟩
section
variable {prog:Program}{w:World}{A:Around}{E:Value->Shared->Prop}{s:Shared}{C N fI:Addr}{bm bmB:List Value}{ob oI:Obj}{B newId initId:String}{us:List Value}{K:KFr}
theorem yV1(F:ExcBaseFacts B newId initId bmB)(T:OwnTail s.heap bmB bm)(L:ExLie s.heap C N bm newId ob)(X:K.In s.heap)(hi:PySem.W.findIn K (.ref C) "__init__" = some (some (.ref fI)))(hf:s.heap.get? fI=some oI)(hc:oI.cls=.type "function")(hz:us.length<=sizeLine){Q:Value->Shared->Prop}
  (k:∀g e,Heap.MadeExcOf s.heap g e (.ref C) us->codeAny (model prog w) (A.under (.builtin "type.__call__" ⟨.ref C::us,[]⟩)) (.call (.ref fI) ⟨.ref e::us,[]⟩) (IniBack (.ref e) Q E) { s with heap:=g }) :
  wpAny (model prog w) A (call (.ref C) us) Q E s:=by
 obtain⟨hC,nm,q,bs,hdct,sn,sub,ab,col,dd,k0,k1,k2,k3,k5,rfl⟩:=L
 obtain⟨h,gs,d,t,os⟩:=s
 have look:=tc_lookup
 have bind:=tc_bind (.ref C)
 have ty:Shared.TypeIs ⟨h,gs,d,t,os⟩ (.ref C) "type":=⟨_,hC,rfl⟩
 refine wpAny_call (codeAny_of_tree ?_)
 show wpAny (model prog w) _ (callAny (.ref C) ⟨us,[]⟩) _ _ _
 wp_walk using wpAny_loadPart_at hC
 obtain⟨g,e,hg,ev,md⟩:=xW9 h (.ref C) us
 obtain⟨t0,he,_,_⟩:=md.there
 have own:(Value.ref C::bm).contains (.ref C)=true:=by rw[Cr,beq_self_eq_true,Bool.true_or]
 have fn:∀t',Shared.TypeIs ⟨g,gs,d,t',os⟩ (.ref fI) "function":=fun _=>⟨oI,md.keeps _ _ hf,hc⟩
 refine⟨rfl,codeAny_call_builtin_at (Code.quiet_builtin _ (by decide +kernel)) entry_typeCall (wpAny_check_type_call_sub hC ?_)⟩
 wp_walk using wpAny_loadPart_at hC,wpAny_madeBy_exc hC
 refine codeAny_call_builtin_code (Code.quiet_builtin _ F.quiet) (wpAny_check_new_subT F T hC (codeAny_exc_new_subT F T hC ?_ hz))
 subst hg ev
 have sub:∀{A':Around}{Q':Bool->Shared->Prop}{E':Value->Shared->Prop},Q' true _->wpAny (model prog w) A' (isSubtype (.ref C) (.ref C)) Q' E' ⟨_,gs,d,t,os⟩:=fun z=>wpAny_isSubtype_exc (md.keeps _ _ hC) (by rw[own];exact z)
 have ini:=PySem.W.looks_findIn (M:=model prog w) (X.keeps md.keeps) hi
 show wpAny _ _ (_ >>= _) _ _ _
 unfold isInstance
 wp_walk using wpAny_loadPart_at he,sub,wpAny_typeOf (fn t),wpAny_holding
 refine sub ?_
 have go:=k _ _ md
 wp_walk using wpAny_loadPart_at he,ini.at,wpAny_typeOf (fn t),wpAny_holding
 unfold bindSpecial
 wp_walk using wpAny_typeOf (fn t)
 refine codeAny_mono go fun r s' z => ?_
 match r,z with
 | .ok (.ret _),⟨rfl,z⟩=>wp_walk;exact z
 | .error _,z=>exact z
theorem xV8{env:Env}{x:Sem Value}{Q:Flow->Shared->Prop}(hb:bm.contains (.type "BaseException")=true)(hh:A.handled=none)
  (k:wpAny (model prog w) A x (fun v s'=>∃e oe vs ob,v=.ref e/\ExLie s'.heap C N bm newId ob/\s'.heap.get? e=some oe/\oe.cls=.ref C/\oe.data=.fields vs/\vs[1]?=some .none/\E (.ref e) s') E s) :
  wpAny (model prog w) A (raiseStmt env (some x) none) Q E s:=by
 unfold raiseStmt
 refine Ab (wpAny_mono k (fun v s' z => ?_) fun _ _ z=>z)
 obtain⟨e,⟨cl,od,da,sl⟩,vs,ob,rfl,⟨hC,nm,q,bs,hdct,sn,sub,ab,col,dd,k0,k1,k2,k3,k5,rfl⟩,he,z1,z2,z3,z⟩:=z
 cases z1
 cases z2
 have base:(Value.ref C::bm).contains (.type "BaseException")=true:=by rw[Cr,hb,Bool.or_true]
 have isE:∀{Q':Bool->Shared->Prop}{E':Value->Shared->Prop},Q' true s'->wpAny (model prog w) A (isSubtype (.ref C) (.type "BaseException")) Q' E' s':=fun y=>wpAny_isSubtype_exc hC (by rw[base];exact y)
 wp_walk using wpAny_loadPart_at he,wpAny_loadPart_at hC,isE,wpAny_field he rfl z3,wpAny_raiseNew_none hh
 exact z
end
end L2
namespace L2.L3
open PySem PySem.Spec PyProof.Rows
variable [CN]
section
omit [CN]
def iniP(e C:Addr):Heap->Prop:=fun h=>∃(t:Addr),h.get? e=some { cls:=.ref C,dict:=none,data:=.fields #[.ref t,.none,.none,.none,.bool false,.none] }
theorem zM3{P:Program}{w:World}{H:Hp}{h:Heap}{e C:Addr}(p:iniP e C h):ObjOk P w H h e (.ext (iniP e C)) :=
 ⟨p,let ⟨_,q⟩:=p; ⟨_,q⟩,fun _ _ ⟨t,q⟩ k=>⟨t,k _ q⟩⟩
def iniE(e C d:Addr):Heap->Prop:=fun h=>∃(t:Addr),h.get? e=some { cls:=.ref C,dict:=some d,data:=.fields #[.ref t,.none,.none,.none,.bool false,.none] }
theorem xU6{P:Program}{w:World}{H:Hp}{h:Heap}{e C d:Addr}(p:iniE e C d h):ObjOk P w H h e (.ext (iniE e C d)) :=
 ⟨p,let ⟨_,q⟩:=p; ⟨_,q⟩,fun _ _ ⟨t,q⟩ k=>⟨t,k _ q⟩⟩
end
def ExIn(K:KFr)(C:Addr)(bmB:List Value)(newId:String):Prop :=
 ∃(N:Addr) (bm:List Value) (nm q:Str) (bs:List Value) (hdct:Bool) (sn:List Str) (sub:List Value) (ab:Bool) (col:Option Bool) (dd:Option Addr) (k0 k1 k2 k3 k5:Option Value),
  K.lookup C=some (excClassObj nm q C N bs bm hdct sn sub ab col dd k0 k1 k2 k3 k5 newId)/\PySem.W.tailIn K bmB bm=true
theorem ExIn.lie{K:KFr}{C:Addr}{bmB:List Value}{newId:String}(x:ExIn K C bmB newId){h:Heap}(X:K.In h):∃N bm ob,ExLie h C N bm newId ob/\OwnTail h bmB bm:=by
 obtain⟨N,bm,nm,q,bs,hdct,sn,sub,ab,col,dd,k0,k1,k2,k3,k5,lk,tl⟩:=x
 exact⟨N,bm,_,⟨X _ _ lk,nm,q,bs,hdct,sn,sub,ab,col,dd,k0,k1,k2,k3,k5,rfl⟩,PySem.W.tail_of_in X tl⟩
theorem _root_.L2.ExLie.keeps{h h':Heap}{C N:Addr}{bm:List Value}{newId:String}{ob:Obj}(L:ExLie h C N bm newId ob)(k:∀b o,h.get? b=some o->h'.get? b=some o):ExLie h' C N bm newId ob:=⟨k _ _ L.obj,L.is⟩
structure BaseIni(K:KFr)(CB:Addr):Prop where
 get:PySem.W.specialIn K (.ref CB) "__getattribute__" = some (some (.builtin "type.__getattribute__"))
 reads:PySem.W.readsIn K CB (.type "type")=true
 find:PySem.W.findCls K (.ref CB) (.type "type") "__init__" = some (.val (.builtin "ValueError.__init__"))
def tBI(K:KFr)(t:TA):TE:=fun σ H Q=>t σ H fun vs H1=>∃e C m,vs=[.ref e,.str m]/\ExIn K C bmV "ValueError.__new__"/\H1 e=some (.ext (iniP e C))/\Q .non H1
theorem zT1{X:Cx}{x:Str}{CB:Addr}{np apos pos:Pos}{e:Expr}{es:List Expr}{t:TA}{pl:Sem Bool}(hg:Gl X x)(hm:X.mg x=some (.ref CB))(hb:BaseIni X.K CB)(ha:PA X (e::es) t)(hdb:autoParam ((x == ("__debug__":Str))=false) Dy)
  (hst:autoParam (starEach (e::es) X.env=(false,eval e X.env)::starEach es X.env) Dz) (hpl:autoParam ((backTo pos (starEach es X.env)).any (·.1)=false) Dz)
  (ht:eval (.Call (.Attribute (.Name x np) "__init__" apos) (e::es) [] pos) X.env=(do
   let ov <-eval (.Name x np) X.env
   standAt apos.atName
   let (f,first) <-holding [ov] (getMethod ov "__init__" pl)
   callWith pos f first (backTo pos (starEach (e::es) X.env)) (backToKw pos (keywordEach [] X.env))):=by rfl) :
  PE X (.Call (.Attribute (.Name x np) "__init__" apos) (e::es) [] pos) (tBI X.K t):=by
 intro DA s σ H Q I h
 refine PySem.W.methodCall_KW (pl:=pl) (vI I hg hm ?_ hdb) ht
 refine PySem.W.method_cls I.kIn hb.get (PySem.W.cls_value I.kIn hb.reads hb.find rfl ?_)
 have I0:=I.tok (s.toks+1)
 refine PyProof.Rows.callWith_builtin1 (thn (ha pos DA _ σ H _ I0 h) fun us s1 ⟨vs,H1,I1,r1,e,C,m,ev,hc,hH,q⟩ => ?_) hst hpl
 subst ev
 cases r1 with
 | cons ra r1=>cases r1 with
  | cons rb r1=>cases r1 with
   | nil =>
    obtain rfl:=ra
    obtain⟨tk,rfl⟩:=rb
    obtain⟨N,tl,_,⟨hC,nm,qn,bs,hd,sn,sb,ab,co,dd,k0,k1,k2,k3,k5,rfl⟩,T⟩:=hc.lie I1.kIn
    obtain⟨⟨t0,he⟩,_,_⟩:=I1.hok e _ hH
    obtain⟨hh,g,d,t1,os⟩:=s1
    refine wpAny_call (codeAny_call_builtin Cf.init.plain Cf.initEntry (wpAny_check_init_subT Cf T hC he rfl ?_))
    wp_walk
    have up:upd H1 e (.ext (iniP e C))=H1:=funext fun b=>by
     by_cases hb:b=e
     ·subst hb;rw[zN,hH]
     ·rw[zO hb]
    have new:((hh.push { cls:=.type "tuple",data:=.seq #[Value.str m tk] }).update e (Obj.mapFields fun x=>x.setIfInBounds 0 (.ref hh.objs.size))).get? e=some { cls:=.ref C,dict:=none,data:=.fields #[.ref hh.objs.size,.none,.none,.none,.bool false,.none] } :=
     AY _ (Al _ he) rfl
    have I2:=Inv.write (x:=e) (e:=e) (o:=.ext (iniP e C)) (t':=t1) (h':=(hh.push { cls:=.type "tuple",data:=.seq #[Value.str m tk] }).update e (Obj.mapFields fun x=>x.setIfInBounds 0 (.ref hh.objs.size))) I1 (by rw[hH];exact trivial) (.inl rfl)
     (fun b u nb hb=>by rw[AC _ _ (Bd nb)];exact Al _ hb) ⟨_,new⟩ (zM3 ⟨_,new⟩)
    rw[up] at I2
    exact⟨.non,H1,I2,rfl,q⟩
def spIni(C:Addr):Sp:=fun vs H Q _=>∃e r,vs=[.ref e,.int r]/\(0<=r/\r<16)/\H e=some (.ext (iniP e C))/\∀d,H d=none->Q .non (upd (upd H e (.ext (iniE e C d))) d (.ext (Row d r)))
theorem dQ{n:Nat}(h:n<128):((n:Int)).natAbs.log2<1920/\(toString (n:Int):Str).length<=1000000:=by
 have:∀n,n<128->(((n:Nat):Int)).natAbs.log2<1920/\(toString ((n:Nat):Int):Str).length<=1000000:=by decide +kernel
 exact this n h
theorem yP4{X:Cx}{DA:List (Addr×Obj)}{σ:St}{H H':Hp}{s s':Shared}{c:Str}{h':Heap}{e C d:Addr}{r:Int}{args:List Value}{o:HO}(I:Inv X DA σ H s)(hA:CN.ad c=C)(hro:∀n,rowOf c=some n->(n:Int)=r)(m:Heap.MadeExcOf s.heap h' e (.ref C) args)(nd:upd H e o d=none)(eH:H'=upd (upd H e (.ext (iniE e C d))) d (.ext (Row d r)))
  (os:s'.os=s.os) (bare:AllBare s'.gens) (un:Un (frs X.stack) [] (upd H e o) H' h' s'.heap) (hok:HOk X.prog X.w H' s'.heap):ExcAt X c H (.ref e) s':=by
 subst eH hA
 have de:d≠e:=fun z=>by rw[z,zN] at nd;cases nd
 have nd2:H d=none:=by rw[zO de] at nd;exact nd
 have nd3:h'.get? d=none:=zX8 fun ob q=>by
  have z:=un.free d ob q nd (by simp)
  rw[zN] at z
  cases z
 have nd4:s.heap.get? d=none:=zX8 fun ob q=>by rw[m.keeps d ob q] at nd3;cases nd3
 have n:H e=none:=by
  cases q:H e with
  | none=>rfl
  | some o =>
   obtain⟨u,z⟩:=uQ (I.hok e o q)
   rw[m.new] at z
   cases z
 have ne:∀b ob,s.heap.get? b=some ob->b≠e:=fun b ob q z=>by subst z;rw[m.new] at q;cases q
 have neH:∀b u,H b=some u->b≠e:=fun b u q z=>by subst z;rw[n] at q;cases q
 have neD:∀b u,H b=some u->b≠d:=fun b u q z=>by subst z;rw[nd2] at q;cases q
 obtain⟨⟨t0,he⟩,_,_⟩:=hok e _ ((zO (Bd de)).trans zN)
 obtain⟨row,_,_⟩:=hok d _ zN
 have hok2:HOk X.prog X.w H s'.heap:=fun b u q=>by
  have q':upd (upd H e (.ext (iniE e (CN.ad c) d))) d (.ext (Row d r)) b=some u:=by rw[zO (neD b u q),zO (neH b u q)];exact q
  refine (hok b u q').stay (fun _ _ _ z=>z) (fun b' z => ?_) fun b' xs z => ?_
  ·by_cases hd:b'=d
   ·subst hd;rw[zN] at z;cases z
   ·rw[zO hd] at z
    by_cases hb:b'=e
    ·subst hb;rw[zN] at z;cases z
    ·rw[zO hb] at z;exact z
  ·by_cases hd:b'=d
   ·subst hd;rw[zN] at z;cases z
   ·rw[zO hd] at z
    by_cases hb:b'=e
    ·subst hb;rw[zN] at z;cases z
    ·rw[zO hb] at z;exact z
 have up:∀{o':HO} b,b≠e->upd H e o' b=H b:=fun b hb=>zO hb
 have un2:Un (frs X.stack) [] H H s.heap s'.heap:=by
  refine⟨fun b ob q z hb hx => ?_,fun b ob q z hb hx => ?_,fun b ob q z hx=>z,fun b ob q hx => ?_,fun _ _ z=>z,fun _ _ _ z=>z,fun b ps z=>⟨#[],by simpa using z⟩⟩
  ·exact un.keep b ob (m.keeps b ob q) (by rw[up b (ne b ob q)];exact z) hb hx
  ·exact un.slot b ob (m.keeps b ob q) (by rw[up b (ne b ob q)];exact z) hb hx
  ·exact un.there b ob (m.keeps b ob q) hx
 have I6:=I.call' (s':=s') os un2 hok2 bare (fun b z=>by cases z)
 have nfr:d∉e::frs X.stack:=fun z=>by
  rcases Aw.mp z with z | z
  ·exact de z
  ·obtain⟨_,ob,q,_⟩:=(Da (as:=frs X.stack) I.stack fun env he a ha=>Bu.mpr ⟨env,he,ha⟩).mem (b:=d) z
   rw[nd4] at q
   cases q
 refine⟨DA,σ,s,H,e,PySem.W.hideAll s'.heap (e::frs X.stack),.ref t0,I,I6,un2,rfl,m.new,n,fun b o q=>CS _ q,CD _ (.head _),Da I6.stack fun env he a ha=>Ae _ (Bu.mpr ⟨env,he,ha⟩),.inr ⟨_,_,he,rfl,rfl,rfl,rfl⟩,⟨_,_,_,he,rfl,rfl,fun _=>rfl,fun n hn=>⟨d,rfl,(hro n hn).symm▸row.keeps fun ob q=>Cn _ q nfr,nd2,nd4⟩⟩,fun b o q nb z=>Cn _ q fun hb => ?_⟩
 rcases Aw.mp hb with rfl | hb
 ·rcases z with z | z
  ·exact z m.new
  ·exact z n
 ·exact nb hb
def sRaI(nm:Int->Str)(m:Ev->Res (List D)):Ev->Res Out:=fun ρ=>(m ρ).bind fun ds=>match ds with
 | [.int r]=>if 0<=r/\r<16 then .ex (nm r) else .no
 | _=>.no
def tRaI(nm:Int->Str)(XE:Str->Hp->Prop)(t:TA):TS:=fun _ σ H=>t σ H fun vs H1=>∃r,vs=[.int r]/\(0<=r/\r<16)/\XE (nm r) H1
theorem zJ8{C:Ct}{x:Str}{np cpos pos:Pos}{e:Expr}{t:TA}{fI:Addr}{fd:FuncData}{k:Nat}(nm:Int->Str)(hn:∀r:Int,0<=r/\r<16->CN.ad (nm r)=CN.ad x/\∀n,rowOf (nm r)=some n->(n:Int)=r)(hb:Br C)(ho:ExIn C.X.K (CN.ad x) bmV "ValueError.__new__")(hi:PySem.W.findIn C.X.K (.ref (CN.ad x)) "__init__" = some (some (.ref fI)))(hf:PySem.W.isFn C.X.K (.ref fI)=true)(hk:PySem.W.keepIn C.X.K (.ref (CN.ad x))=true)(hm:C.X.mg x=some (.ref (CN.ad x)))
  (F:FnOk C.X.prog C.X.w C.X.K C.X.mg C.X.base CX0 k fI fd ["self","row"] (spIni (CN.ad x))) (hbd:Binds C.X.K fd ["self","row"] []) (hr:Room (k+1) C.X.A)
  (pa:PA C.X [e] t) (hex:autoParam (C.X.ex=[]) Dz) (hc:autoParam (C.X.calm=true) Dz) (hg:autoParam (Gl C.X x) Dz) (hdb:autoParam ((x == ("__debug__":Str))=false) Dy)
  (he:autoParam (starEach [e] C.X.env=(false,eval e C.X.env)::starEach [] C.X.env) Dz) (hpl:autoParam ((backTo cpos (starEach [] C.X.env)).any (·.1)=false) Dz) :
  PS C.X (.Raise (some (.Call (.Name x np) [e] [] cpos)) none pos) (tRaI nm C.XE t):=by
 intro DA s σ H D I h
 obtain⟨N,bm,ob,L,T⟩:=ho.lie I.mod.kin
 have ty:=beq_iff_eq.mp hf
 obtain⟨oI,lk,fc⟩:=Av.mp (show (C.X.K.lookup fI).map (·.cls)=some (.type "function") from ty)
 rw[arm_exec_Raise]
 refine Ab (wpAny_standAt (xV8 (C:=CN.ad x) (N:=N) (bm:=bm) (newId:="ValueError.__new__") (T.hasType Cf.hasBase) (I.ok.hd hc) ?_))
 refine Ab (wpAny_mono (Q:=fun v s'=>∃e oe vs ob,v=.ref e/\ExLie s'.heap (CN.ad x) N bm "ValueError.__new__" ob/\s'.heap.get? e=some oe/\oe.cls=.ref (CN.ad x)/\oe.data=.fields vs/\vs[1]?=some .none/\C.X.xe (.ref e) s') ?_ (fun v s' z=>Ab (wpAny_standAt (Ar z))) fun _ _ z=>z)
 refine wpAny_Call_Name_kw (vI I hg hm ?_ hdb)
 refine Dq (h₀:=C.X.base) I.ok.mod.kin hk (thn (pa cpos DA s σ H _ I h) fun us s2 ⟨vs,H2,I2,r,rr,ev,hb1,z⟩=>⟨I2.kIn,?_⟩) he hpl
 subst ev
 cases r with
 | cons ra r=>cases r with
  | nil =>
   obtain⟨tk,rfl⟩:=ra
   refine yV1 Cf (T.keeps I2.bk) (L.keeps I2.bk) I2.kIn hi (I2.kIn _ _ lk) fc (by show 1<=sizeLine;decide) fun h' a m => ?_
   obtain⟨t0,he0,_,_⟩:=m.there
   have n:H2 a=none:=by
    cases q:H2 a with
    | none=>rfl
    | some o =>
     obtain⟨u,z⟩:=uQ (I2.hok a o q)
     rw[m.new] at z
     cases z
   have gone:∀b ob,s2.heap.get? b=some ob->b≠a:=fun b ob q z=>by subst z;rw[m.new] at q;cases q
   have I3:Inv C.X DA σ H2 { s2 with heap:=h',toks:=s2.toks }:=I2.kept m.keeps
   have I4:Inv C.X DA σ (upd H2 a (.ext (iniP a (CN.ad x)))) { s2 with heap:=h',toks:=s2.toks }:=by
    refine I3.track n ?_ ?_ (fun y z q => ?_) (fun p hp => ?_) (zM3 ⟨t0,he0⟩)
    ·cases q:C.X.s₀.heap.get? a with
     | none=>rfl
     | some o =>
      obtain⟨o',q'⟩:=I2.base.there a o q (by rw[hex];simp)
      rw[m.new] at q'
      cases q'
    ·obtain⟨mm,⟨o,_,_,q,_⟩,_⟩:=I2.loc
     exact Bd (gone _ o q)
    ·obtain⟨v,o,q',_⟩:=I2.cell y z q
     exact gone _ o q'
    ·exact gone _ _ (I2.pin p hp).1
   have r2:Vals [V.ref a,V.int rr] [Value.ref a,Value.int rr tk]:=.cons rfl (.cons ⟨tk,rfl⟩ .nil)
   refine codeAny_mono (F.run _ C.X.stack _ _ ⟨[Value.ref a,Value.int rr tk],[]⟩ [Value.ref a,Value.int rr tk] _ (fun v H'=>v=.non/\∃d,upd H2 a (.ext (iniP a (CN.ad x))) d=none/\H'=upd (upd (upd H2 a (.ext (iniP a (CN.ad x)))) a (.ext (iniE a (CN.ad x) d))) d (.ext (Row d rr))) E0 (hr.make (CN.ad x) [Value.int rr tk] []) (I4.env0.make (CN.ad x) [Value.int rr tk] []) (hbd _ [Value.ref a,Value.int rr tk] I4.kIn rfl) r2 ⟨a,rr,rfl,hb1,zN,fun d z=>⟨rfl,d,z,rfl⟩⟩) fun res s' hq' => ?_
   cases res with
   | error ee=>exact hq'.elim
   | ok fl =>
    cases fl with
    | ret u =>
     obtain⟨v,H',os',bare,un,hok,rv,rfl,d,nd,eH⟩:=hq'
     rw[yS8] at eH
     have ex:=yP4 I2 (hn rr hb1).1 (hn rr hb1).2 m nd eH os' bare un hok
     have da:a≠d:=fun z=>by rw[<-z,zN] at nd;cases nd
     obtain⟨⟨t1,he1⟩,_,_⟩:=hok a _ (by rw[eH];exact (zO da).trans zN)
     obtain⟨_,_,_,_,_,_,_,_,I6,_⟩:=id ex
     exact⟨rv,a,_,_,ob,rfl,L.keeps I6.bk,he1,rfl,rfl,rfl,hb _ H2 _ _ ex z⟩
    | next=>exact hq'.elim
    | brk=>exact hq'.elim
    | cont=>exact hq'.elim
theorem kC{C:Ct}{fr:Bool}{x:Str}{np cpos pos:Pos}{e:Expr}{ms:Ev->Res (List D)}{fI:Addr}{fd:FuncData}{k:Nat}(nm:Int->Str)(hn:∀r:Int,0<=r/\r<16->CN.ad (nm r)=CN.ad x/\∀n,rowOf (nm r)=some n->(n:Int)=r)(hb:Br C)(ho:ExIn C.X.K (CN.ad x) bmV "ValueError.__new__")(hi:PySem.W.findIn C.X.K (.ref (CN.ad x)) "__init__" = some (some (.ref fI)))(hf:PySem.W.isFn C.X.K (.ref fI)=true)(hk:PySem.W.keepIn C.X.K (.ref (CN.ad x))=true)(hm:C.X.mg x=some (.ref (CN.ad x)))
  (F:FnOk C.X.prog C.X.w C.X.K C.X.mg C.X.base CX0 k fI fd ["self","row"] (spIni (CN.ad x))) (hbd:Binds C.X.K fd ["self","row"] []) (hr:Room (k+1) C.X.A)
  (ha:RArg C false [e] ms) (hex:autoParam (C.X.ex=[]) Dz) (hc:autoParam (C.X.calm=true) Dz) (hg:autoParam (Gl C.X x) Dz) (hdb:autoParam ((x == ("__debug__":Str))=false) Dy)
  (he:autoParam (starEach [e] C.X.env=(false,eval e C.X.env)::starEach [] C.X.env) Dz) (hpl:autoParam ((backTo cpos (starEach [] C.X.env)).any (·.1)=false) Dz) :
  RS C fr (.Raise (some (.Call (.Name x np) [e] [] cpos)) none pos) (sRaI nm ms):=by
 obtain⟨t,pa,q⟩:=ha
 refine⟨_,zJ8 nm hn hb ho hi hf hk hm F hbd hr pa hex hc hg hdb he hpl,fun Oc Ob σ H ρ E R h=>q Oc Ob σ H ρ _ R (Res.zU (Res.zW h) (fun ds _ k vs H' s r => ?_) fun c z H' s=>z H' (Same.frm s))⟩
 match ds,k,r with
 | [.int i],k,r =>
  cases r with
  | cons r0 r=>cases r with
   | nil =>
    by_cases c:0<=i/\i<16
    ·have k:Res.post (if 0<=i/\i<16 then (Res.ex (nm i):Res Out) else .no) _ _:=k
     rw[Am c] at k
     exact⟨i,by rw[r0.int],c,k H' (Same.frm s)⟩
    ·have k:Res.post (if 0<=i/\i<16 then (Res.ex (nm i):Res Out) else .no) _ _:=k
     rw[AG c] at k
     exact k.elim
 | [],k,r=>exact k.elim
end L2.L3
namespace L2.L3
open PySem PySem.Spec PyProof.Rows
theorem zE2:entryFor table "proto.unchain" = some Builtin.«proto.unchain»:=entryFor_of_tree (by kernel_rfl)
section
variable {prog:Program}{w:World}{A:Around}{E:Value->Shared->Prop}{s:Shared}
abbrev KpN(e:Addr)(h:Heap):Prop:=KpX (fun _ v=>v=.none) e h
theorem yT2{α:Type}{Q:α->Shared->Prop}{a h0:Addr}{oe:Obj}{vs:Array Value}(hh:A.handled=some (.ref h0))(ne:h0≠a)(kp:KpN h0 s.heap)(he:s.heap.get? a=some oe)(hd:oe.data=.fields vs)(hs:2<vs.size)
  (hE:E (.ref a) { s with heap:=s.heap.update a (Obj.mapFields (·.setIfInBounds 2 (.ref h0))) }):wpAny (model prog w) A (raiseNew (.ref a):Sem α) Q E s:=by
 obtain⟨oh,us,v0,q1,q2,q3,rfl⟩:=kp
 unfold raiseNew
 refine Ab (wpAny_handled ?_)
 rw[hh]
 have nb:(Value.ref h0 != Value.ref a)=true:=by simpa using ne
 simp only[nb,if_true]
 refine Ab (wpAny_holding (runValue_entry zE2 ?_))
 unfold Builtin.«proto.unchain»
 refine Ab (wpAny_field q1 q2 q3 ?_)
 rw[Am (by decide)]
 refine Ab (Ar (Ar ⟨.none,rfl,?_⟩))
 refine Ab ?_
 show wpAny _ _ (setField (.ref a) 2 (.ref h0)) _ _ _
 exact wpAny_setField he hd hs (wpAny_throw hE)
def fromF(t h0:Addr):Array Value:=#[.ref t,.none,.ref h0,.none,.bool true,.none]
theorem yL4{env:Env}{C N h0:Addr}{bm:List Value}{newId:String}{x c:Sem Value}{Q:Flow->Shared->Prop}(hb:bm.contains (.type "BaseException")=true)(hh:A.handled=some (.ref h0))
  (k:wpAny (model prog w) A x (fun v s'=>∃e od t ob,v=.ref e/\ExLie s'.heap C N bm newId ob/\s'.heap.get? e=some { cls:=.ref C,dict:=od,data:=.fields #[.ref t,.none,.none,.none,.bool false,.none] }/\h0≠e/\e≠C/\KpN h0 s'.heap /\
   wpAny (model prog w) A c (fun cv s₂=>cv=.none/\s₂=s') E s'/\∀g,g.get? e=some { cls:=.ref C,dict:=od,data:=.fields (fromF t h0) }->(∀b,b≠e->g.get? b=s'.heap.get? b)->E (.ref e) { s' with heap:=g }) E s) :
  wpAny (model prog w) A (raiseStmt env (some x) (some c)) Q E s:=by
 unfold raiseStmt
 refine Ab (wpAny_mono k (fun v s' z => ?_) fun _ _ z=>z)
 obtain⟨e,od,t,ob,rfl,⟨hC,nm,q,bs,hdct,sn,sub,ab,col,dd,k0,k1,k2,k3,k5,rfl⟩,he,n1,n2,kp,kc,z⟩:=z
 have base:(Value.ref C::bm).contains (.type "BaseException")=true:=by rw[Cr,hb,Bool.or_true]
 have isE:∀{Q':Bool->Shared->Prop}{E':Value->Shared->Prop},Q' true s'->wpAny (model prog w) A (isSubtype (.ref C) (.type "BaseException")) Q' E' s':=fun y=>wpAny_isSubtype_exc hC (by rw[base];exact y)
 refine Ab (wpAny_holding (wpAny_mono kc (fun cv s₂ y => ?_) fun _ _ y=>y))
 obtain⟨rfl,rfl⟩:=y
 have f3:(s₂.heap.update e (Obj.mapFields (·.setIfInBounds 3 .none))).get? e=some { cls:=.ref C,dict:=od,data:=.fields #[.ref t,.none,.none,.none,.bool false,.none] }:=AY _ he rfl
 have f4:((s₂.heap.update e (Obj.mapFields (·.setIfInBounds 3 .none))).update e (Obj.mapFields (·.setIfInBounds 4 (.bool true)))).get? e=some { cls:=.ref C,dict:=od,data:=.fields #[.ref t,.none,.none,.none,.bool true,.none] }:=AY _ f3 rfl
 have ot:∀b,b≠e->((s₂.heap.update e (Obj.mapFields (·.setIfInBounds 3 .none))).update e (Obj.mapFields (·.setIfInBounds 4 (.bool true)))).get? b=s₂.heap.get? b:=fun b y=>by
  rw[AC _ _ (Bd y),AC _ _ (Bd y)]
 have c4:=(ot C (Bd n2)).trans hC
 wp_walk using wpAny_loadPart_at he,wpAny_loadPart_at hC,isE,wpAny_loadPart_at f4,wpAny_loadPart_at c4
 exact yT2 hh n1 (kp.same (ot h0 n1)) f4 rfl (show 2<6 by decide) (z _ (AY _ f4 rfl) fun b y=>(AC _ _ (Bd y)).trans (ot b y))
end
end L2.L3
namespace L2
open PySem PySem.Spec PyProof.Rows L2.L3
def RunM(P:Program)(w:World)(K:KFr)(mg:Str->Option Value)(base:Heap)(k:Nat)(f:Addr)(fd:FuncData)(ps:List Str)(sp:Sp):Prop :=
 ∀(A:Around) (m:Value) (outer:List Env) (s:Shared) (H:Hp) (args:Args) (us:List Value) (vs:List V) (Q:VK) (E:XK),Room k A->Env0 P w K mg base A outer s H->BindsTo s fd args (ps.zip us)->Vals vs us->sp vs H Q E ->
  codeAny (model P w) (A.mark (some m)) (.call (.ref f) args) (CR CX0 outer P w H s Q E) s
theorem xC3{P:Program}{w:World}{K:KFr}{mg:Str->Option Value}{base:Heap}{k:Nat}{f:Addr}{name qual:Str}{params:Arguments}{body:List Stmt}{scope:Scope}{dV kV doc pm cdv ct oc:Value}{an od:Option Addr}
  {osl:Array (Option Value)}{N ps:List Str}{sp:Sp}(lk:K.lookup f=some ⟨oc,od,.func (PySem.W.fnOf name qual params body scope dV kV doc pm an cdv ct),osl⟩) (hcd:PySem.W.codeIn K cdv qual=true) (S:zJ N ps scope)
  (len:∀vs H Q E,sp vs H Q E->vs.length=ps.length)
  (hbody:∀(m:Value) (A:Around) (outer:List Env) (s:Shared) (H:Hp) (vs:List V) (Q:VK) (E:XK),sp vs H Q E ->
   ∃t,PSs (inSuite (cxOf CX0 P w K mg base N qual scope f cdv A outer s H E) m) body t/\t { nx:=fun _ H'=>Q .non H',rt:=Q } (start N vs) H) :
  RunM P w K mg base (k+1) f (PySem.W.fnOf name qual params body scope dV kV doc pm an cdv ct) ps sp:=by
 intro A m outer s H args us vs Q E hr e0 hb r hsp
 have hl:=len _ _ _ _ hsp
 have KX:K.In s.heap:=e0.mod.kin.keeps fun b o e=>(e0.bs b o e).1
 have lim:s.heap.NoLimit:=e0.mod.nolimit.keeps fun b o e=>(e0.bs b o e).1
 have hkind:∀y∈ps.zip us,scope.names.lookup y.1=some .local \/ (scope.names.lookup y.1=some .cell/\((cellsFrom (s.heap.objs.size+1) scope.names []).lookup y.1).isSome=true):=fun ⟨n,v⟩ hy=>by
  rcases S.par n (Dm hy).1 with q | q
  ·exact .inl q
  ·exact .inr ⟨q,CV _ _ _ (.inl q)⟩
 refine codeAny_call_function (A:=A.mark (some m)) hr.depth (KX _ _ lk) rfl S.co S.gen rfl (PySem.W.codeRec_of KX hcd) (hb _ _ _ _ ?_)
 refine wpAny_newFunctionEnv_cells S.kind hkind fun env he s1 x => ?_
 subst he
 refine⟨lim.keeps x.toInCall.keep,codeAny_func ?_⟩
 obtain⟨t,ht,hq⟩:=hbody m A outer s H vs Q E hsp
 have I:Inv (cxOf CX0 P w K mg base N qual scope f cdv A outer s H E) [] (start N vs) H s1:=zH6 S hr.hd e0 hl r x
 have I2:=Inv.toSuite I m
 refine wpAny_mono (ht [] s1 (start N vs) H _ I2 hq) (fun fl s' hs => ?_) fun e s' hs=>hs.elim
 have fin:∀{σ':St}{H':Hp}{v:V}{u:Value},Inv (inSuite (cxOf CX0 P w K mg base N qual scope f cdv A outer s H E) m) [] σ' H' s'->RelV v u->Q v H'->CE outer P w H s Q u s' :=
  fun {σ' H' v u} J rv q=>⟨v,H',J.os,J.bare,J.base,J.hok,rv,q⟩
 cases fl with
 | ret u =>
  obtain⟨v,σ',H',J,rv,q⟩:=hs
  exact fin J rv q
 | next =>
  obtain⟨σ',H',J,q⟩:=hs
  exact fin (v:=V.non) (u:=Value.none) J rfl q
 | brk =>
  obtain⟨_,_,_,q⟩:=hs
  exact False.elim q
 | cont =>
  obtain⟨_,_,_,q⟩:=hs
  exact False.elim q
theorem Fun.okM{P:Program}{w:World}{K:KFr}{mg:Str->Option Value}{base:Heap}{x qual:Str}{st:Stmt}{f:Addr}{fd:FuncData}{N ps:List Str}{k:Nat}{sp:Sp}(F:Fun K x qual st f fd)(S:zJ N ps (zS st))(len:∀vs H Q E,sp vs H Q E->vs.length=ps.length)
  (hbody:∀(m cdv:Value) (A:Around) (outer:List Env) (s:Shared) (H:Hp) (vs:List V) (Q:VK) (E:XK),sp vs H Q E ->
   ∃t,PSs (inSuite (cxOf CX0 P w K mg base N qual (zS st) f cdv A outer s H E) m) (defBody st) t/\t { nx:=fun _ H'=>Q .non H',rt:=Q } (start N vs) H):RunM P w K mg base (k+1) f fd ps sp:=by
 obtain⟨oc,od,kV,doc,pm,an,cdv,ct,osl,rfl,lk,hcd⟩:=F.ex
 exact xC3 lk hcd S len fun m A outer s H vs Q E hsp=>hbody m cdv A outer s H vs Q E hsp
end L2
namespace L2.L3
open PySem PySem.Spec PyProof.Rows
section
variable {M:Model}{A:Around}{E:Value->Shared->Prop}{s:Shared}{B:Heap}{e:Addr}{cls a0 fl:Value}
theorem flyK{l:List Env}{fr:Option Addr}{Q:Unit->Shared->Prop}(hB:B.StaysIn s.heap)(hF:s.heap.FunFrames B l)(ht:s.heap.TracedAtW B e cls a0 fl){Φ:Option Addr->Value->Prop}(kp:KpX Φ e s.heap)
  (k:∀g fl',B.StaysIn g->g.FunFrames B l->g.TracedAtW B e cls a0 fl'->s.heap.UpToSlots g->KpX Φ e g->Q () { s with heap:=g }) :
  wpAny M A (do
   if (<-field (.ref e) 1) == .none then unsupported "frame.own-activation:exception-without-traceback"
   setFlight (.ref e) fr) Q E s:=by
 obtain⟨oe,vs,T,oT,ts,g1,g2,g4,g5,g6,g7,g8,g9,g10⟩:=ht
 have sz:=(Bc.mp g10).1
 have ot:∀b,b≠T->(s.heap.update T (Obj.mapFields (·.setIfInBounds 3 (fr.elim Value.none fun f=>rawInt f)))).get? b=s.heap.get? b:=fun b hb=>AC _ _ (Bd hb)
 have nf:∀b o,s.heap.get? b=some o->(∀vs,o.data ≠ .fields vs)->b≠T:=fun b o q hd w=>by
  subst w
  cases g8.symm.trans q
  exact hd ts g9
 have n0:(Value.ref T == Value.none)=false:=by simp
 have n1:(Value.ref T != Value.none)=true:=by simp
 refine Ab (wpAny_field g1 g4 g5 ?_)
 simp only[n0,AB,if_false]
 unfold setFlight
 refine Ab (wpAny_field g1 g4 g5 ?_)
 simp only[n1,if_true]
 refine wpAny_setField g8 g9 sz (k _ (fr.elim .none fun f=>rawInt f) (fun b o q=>(ot b fun w=>by subst w;rw[g6] at q;cases q).trans (hB b o q)) (hF.of_keeps fun b o q hd=>⟨o,(ot b (nf b o q hd)).trans q,rfl⟩) ?_ (fun b o q hd=>⟨o.slots,(ot b (nf b o q hd)).trans q⟩) (kp.same (ot e (Bd g7))))
 exact⟨oe,vs,T,_,_,(ot e (Bd g7)).trans g1,g2,g4,g5,g6,g7,AY _ g8 (BP (Bk g9 _)),Bk g9 _,by simp[sz]⟩
end
variable [CN]
theorem xW6{X:Cx}{c:Str}{H:Hp}{a:Addr}{s:Shared}{A':Around}(hA':A'.frames=X.A.frames)(x:ExcAt X c H (.ref a) s)(hst:X.stack=X.env::X.outer)(hfr:X.env.frame=some X.env.locals)
  (hb:∀s',ExcAt X c H (.ref a) s'->X.xe (.ref a) s'):notedBy (model X.prog X.w) A' X.env (cameBackBy (model X.prog X.w) X.A X.env X.xe) (.ref a) s:=by
 obtain⟨DA,σ,s1,H1,a',B,a0,I1,I,un,ea,n1,n2,f⟩:=x
 cases ea
 have hfrm:s.heap.FunFrames B (X.env::X.outer):=by rw[<-hst];exact f.frm
 have hA:A'.frames=some (X.env::X.outer):=by rw[hA',<-hst];exact I.ok.frames
 obtain⟨Φ,hP⟩:∃Φ,Φ=FlK (.ref (CN.ad c)) (rowOf c) B s1.heap H:=⟨_,rfl⟩
 have fk:KpX Φ a s.heap:=hP▸f.kp
 have key:∀h',Heap.NotedW B (X.env::X.outer) a (.ref (CN.ad c)) a0 (rawInt X.env.locals) s.heap h'->KpX Φ a h'->cameBackBy (model X.prog X.w) X.A X.env X.xe (.ref a) { s with heap:=h' }:=by
  rintro h' ⟨k1,k2,k3,k4⟩ kh
  rw[<-hst] at k2
  unfold cameBackBy
  refine flyK (s:={ s with heap:=h' }) (B:=B) (l:=X.stack) k1 k2 k3 kh fun h2 fl' g1 g2 g3 g4 g5 => ?_
  have ups2:s.heap.UpToSlots h2:=Heap.UpToSlots.trans k4 g4
  obtain⟨J,un2,cov⟩:=zW6 I1 I un f g1 g2 ups2
  exact hb _ ⟨DA,σ,s1,H1,a,B,a0,I1,J,un2,rfl,n1,n2,⟨g1,f.newB,g2,.inl ⟨fl',g3⟩,hP▸g5,cov⟩⟩
 show wpAny (model X.prog X.w) A' (noteFrame (.ref a) X.env) (fun _ s''=>cameBackBy (model X.prog X.w) X.A X.env X.xe (.ref a) s'') _ s
 rcases f.raw with ⟨fl,t⟩ | ⟨oe,vs,he,hc,hd,h1,h0⟩
 ·exact bZ hA hfrm hfr t f.stays f.newB fk key
 ·rw[<-hc] at key
  unfold noteFrame
  simp only[hfr]
  refine Ab (wpAny_field he hd h1 ?_)
  rw[AG (by decide)]
  exact entryK hA hfrm hfr he f.stays f.newB hd (Bc.mp h1).1 h0 fk key
theorem xQ6{X:Cx}{nm:Str}{H:Hp}{a:Addr}{s:Shared}{g:Heap}{oe:Obj}{us:Array Value}{o1:Obj}{u1:Array Value}(hnm:CN.ad nm=CN.ad "BadText")(x:ExcAt X nm H (.ref a) s)(h1:s.heap.get? a=some o1)(d1:o1.data=.fields u1)
  (hg:g.get? a=some oe) (hc:oe.cls=.ref (CN.ad "BadText")) (hd:oe.data=.fields us) (z1:us[1]?=some .none){v v2:Value}(z0:us[0]?=some v) (z2:us[2]?=some v2) (zd:oe.dict=o1.dict) (ot:∀b,b≠a->g.get? b=s.heap.get? b):ExcAt X nm H (.ref a) { s with heap:=g }:=by
 obtain⟨DA,σ,s1,H1,a',B,a0,I1,I,un,ea,n1,n2,f⟩:=x
 cases ea
 have ne1:∀b o,s1.heap.get? b=some o->b≠a:=fun b o q y=>by subst y;rw[n1] at q;cases q
 have neH:∀b,H b≠none->b≠a:=fun b q y=>q (y▸n2)
 have nF:∀b o,s.heap.get? b=some o->(∀vs,o.data ≠ .fields vs)->b≠a:=fun b o q d y=>by
  subst y
  cases h1.symm.trans q
  exact d _ d1
 have un2:Un (frs X.stack) [] H1 H s1.heap g:=by
  refine⟨fun b o q n hb hx=>(ot b (ne1 b o q)).trans (un.keep b o q n hb hx),fun b o q n hb hx => ?_,un.free,fun b o q hx => ?_,un.tups,un.frzs,un.tbls⟩
  ·obtain⟨sl,y⟩:=un.slot b o q n hb hx
   exact⟨sl,(ot b (ne1 b o q)).trans y⟩
  ·obtain⟨o',y⟩:=un.there b o q hx
   exact⟨o',(ot b (ne1 b o q)).trans y⟩
 have hok:HOk X.prog X.w H g:=fun b o q=>by
  refine (I.hok b o q).stay (fun b' u hb' y=>(ot b' ?_).trans y) (fun _ z=>z) fun _ _ z=>z
  rcases hb' with rfl | hb'
  ·exact neH _ (xM q)
  ·exact neH _ (xM hb')
 have kd:∀r,rowOf nm=some r->∃d,oe.dict=some d/\Row d (r:Int) B/\H d=none/\s1.heap.get? d=none:=fun r e=>by
  obtain⟨o,vs,v',e1,_,_,_,y⟩:=f.kp
  cases h1.symm.trans e1
  rw[zd]
  exact y r e
 have J:=I1.call' (s':={ s with heap:=g }) (I.os.trans I1.os.symm) un2 hok I.bare (fun b z=>by cases z)
 refine⟨DA,σ,s1,H1,a,B,v,I1,J,un2,rfl,n1,n2,⟨fun b o q=>(ot b fun y=>by subst y;rw[f.newB] at q;cases q).trans (f.stays b o q),f.newB,f.frm.of_keeps fun b o q d=>⟨o,(ot b (nF b o q d)).trans q,rfl⟩,.inr ⟨oe,us,hg,by rw[hc,hnm],hd,z1,z0⟩,⟨oe,us,v2,hg,hd,z2,fun p=>absurd (by rw[hnm]) p,kd⟩,fun b o q nb z => ?_⟩⟩
 have nb':b≠a:=by
  rcases z with z | z
  ·obtain⟨o',q'⟩:=jG z
   exact ne1 b o' q'
  ·exact neH b z
 exact f.cov b o ((ot b nb').symm.trans q) nb z
def sTryR(caught:List Str)(nm:Str)(mb:Ev->Res Out):Ev->Res Out:=fun ρ=>match mb ρ with
 | .ok o=>.ok o
 | .no=>.no
 | .ex c=>if caught.contains c then .ex nm else .no
theorem yS7{C:Ct}{fr:Bool}{x:Str}{np hpos pos yp cpos ip jp rp:Pos}{j j2:Nat}{body:List Stmt}{mb:Ev->Res Out}{fI:Addr}{fd:FuncData}{k:Nat}(caught:List Str)(nm:Str)(hnm:CN.ad nm=CN.ad "BadText")(hrn:∀n,rowOf nm=some n->(n:Int)=1)
  (hbody:∀(pn:List (Addr×Obj)) (xe:Value->Shared->Prop) (XE:Str->Hp->Prop),Br ⟨inTry C.X pn xe,XE,C.om,C.ln⟩->RSs ⟨inTry C.X pn xe,XE,C.om,C.ln⟩ fr body mb)
  (hcx:∀c,caught.contains c=true->PySem.W.kitCls C.X.K (.ref (CN.ad c)) (.ref (CN.ad x))=some true) (hcb:PySem.W.subIn C.X.K (.ref (CN.ad x)) (.type "BaseException")=some true) (hm:C.X.mg x=some (.ref (CN.ad x)))
  (hne:∀c,caught.contains c=true->Value.ref (CN.ad c) ≠ .ref (CN.ad "BadText")) (hb:Br C)
  (ho:ExIn C.X.K (CN.ad "BadText") bmV "ValueError.__new__") (hi:PySem.W.findIn C.X.K (.ref (CN.ad "BadText")) "__init__" = some (some (.ref fI))) (hk:PySem.W.keepIn C.X.K (.ref (CN.ad "BadText"))=true) (hf:PySem.W.isFn C.X.K (.ref fI)=true) (hmy:C.X.mg "BadText" = some (.ref (CN.ad "BadText")))
  (F:RunM C.X.prog C.X.w C.X.K C.X.mg C.X.base k fI fd ["self","row"] (spIni (CN.ad "BadText"))) (hbd:Binds C.X.K fd ["self","row"] []) (hr:Room (k+1) C.X.A)
  (hst:autoParam (C.X.stack=C.X.env::C.X.outer) Dz) (hfr:autoParam (C.X.env.frame=some C.X.env.locals) Dz) (hex:autoParam (C.X.ex=[]) Dz) (hg:autoParam (Gl C.X x) Dz) (hdb:autoParam ((x == ("__debug__":Str))=false) Dy) (hgy:autoParam (Gl C.X "BadText") Dz)
  (he:autoParam (starEach [.Constant (.int 1) j ip] C.X.env=(false,eval (.Constant (.int 1) j ip) C.X.env)::starEach [] C.X.env) Dz) (hpl:autoParam ((backTo cpos (starEach [] C.X.env)).any (·.1)=false) Dz) :
  RS C fr (.Try body [.ExceptHandler (some (.Name x np)) none [.Raise (some (.Call (.Name "BadText" yp) [.Constant (.int 1) j ip] [] cpos)) (some (.Constant .none j2 jp)) rp] hpos] [] [] pos) (sTryR caught nm mb):=by
 refine⟨fun D σ H=>∀DA s,Inv C.X DA σ H s->wpAny (model C.X.prog C.X.w) C.X.A (exec (.Try body [.ExceptHandler (some (.Name x np)) none [.Raise (some (.Call (.Name "BadText" yp) [.Constant (.int 1) j ip] [] cpos)) (some (.Constant .none j2 jp)) rp] hpos] [] [] pos) C.X.env) (SP C.X DA D) C.X.xe s,fun DA s σ H D I h=>h DA s I,fun Oc Ob σ H ρ E R hp DA s I => ?_⟩
 refine wpAny_Try_except ?_
 generalize hxe:(fun (e:Value) (s₁:Shared)=>wpAny (model C.X.prog C.X.w) C.X.A (noteFrame e C.X.env) (fun _ s₂=>wpAny (model C.X.prog C.X.w) C.X.A (setFlight e none) (fun _ s₃=>wpAny (model C.X.prog C.X.w) C.X.A (handleBy e C.X.env [.ExceptHandler (some (.Name x np)) none [.Raise (some (.Call (.Name "BadText" yp) [.Constant (.int 1) j ip] [] cpos)) (some (.Constant .none j2 jp)) rp] hpos]) (SP C.X DA E) C.X.xe s₃) C.X.xe s₂) C.X.xe s₁)=xe'
 have br:Br ⟨inTry C.X (C.X.pn++DA) xe',fun c H'=>caught.contains c=true/\C.XE nm H',C.om,C.ln⟩:=by
  intro c H' e s' xx ⟨hc,hsp⟩
  subst hxe
  refine aD (X:=inTry C.X (C.X.pn++DA) _) xx hst hfr fun pins' σ' s1 H1 a B a0 s3 J1 J un ea n1 n2 fl tr => ?_
  subst ea
  have K3:Inv C.X DA σ' H' s3:=Inv.ofTry J
  have Km:=Inv.toSuite K3 (.ref a)
  refine wpAny_handleBy_cons (codeAny_handlers_test ?_) (by intro q;cases q)
  refine vI (X:=inSuite C.X (.ref a)) Km hg hm ?_ hdb
  obtain⟨oe,_,_,_,_,he0,⟨hcl,_⟩,_⟩:=id tr
  refine fD K3.kIn he0 hcl (hcx c hc) hcb ?_
  refine codeAny_handlers_suite ?_
  refine flightK (B:=B) (l:=C.X.stack) (cls:=.ref (CN.ad c)) (a0:=a0) (Φ:=fun _ v=>v=.none) fl.stays fl.newB fl.frm tr.at (fl.kp.mono fun d v y=>y.1 (hne c hc)) fun h4 fly ups k4 => ?_
  obtain⟨I4,_,_⟩:=zW6 J1 J un fl fly.1 fly.2.2.1 ups
  have K4:Inv C.X DA σ' H' { s3 with heap:=h4 }:=Inv.ofTry I4
  have L1:Inv C.X DA σ' H1 s1:=Inv.ofTry J1
  obtain⟨oa,vs,v0,qa,da,za,ez⟩:=k4
  subst ez
  have hn1:∀b o,s1.heap.get? b=some o->b≠a:=fun b o q z=>by subst z;rw[n1] at q;cases q
  have K5:Inv C.X ((a,oa)::DA) σ' H' { s3 with heap:=h4 }:=K4.xZ fun p hp=>by
   rcases Aw.mp hp with rfl | hp
   ·refine⟨qa,n2,?_,fun hb' => ?_,fun v=>by rw[da];exact fun z=>nomatch z⟩
    ·obtain⟨m,⟨o,_,_,q,_⟩,_⟩:=L1.loc
     exact Bd (hn1 _ o q)
    ·obtain⟨_,o,q,_⟩:=L1.ok.funs.mem hb'
     obtain⟨o',q'⟩:=L1.base.there _ o q (by rw[hex];simp)
     rw[n1] at q'
     cases q'
   ·exact K4.pin p (Ad _ hp)
  have Km5:=Inv.toSuite K5 (.ref a)
  refine wpAny_execs_cons ?_
  obtain⟨N,bm,ob,L,T⟩:=ho.lie I.mod.kin
  have ty:=beq_iff_eq.mp hf
  obtain⟨oI,lk,fc⟩:=Av.mp (show (C.X.K.lookup fI).map (·.cls)=some (.type "function") from ty)
  rw[arm_exec_Raise]
  refine Ab (wpAny_standAt (yL4 (A:=C.X.A.mark (some (.ref a))) (C:=CN.ad "BadText") (N:=N) (bm:=bm) (newId:="ValueError.__new__") (h0:=a) (T.hasType Cf.hasBase) rfl ?_))
  refine Ab (wpAny_mono ?_ (fun v s' z=>Ab (wpAny_standAt (Ar z))) fun _ _ z=>z)
  refine wpAny_Call_Name_kw (vI (X:=inSuite C.X (.ref a)) Km5 hgy hmy ?_ (by decide))
  have pa:PA (inSuite C.X (.ref a)) [.Constant (.int 1) j ip] (zH (tC (.int 1)) tNil):=zM yG zD he
  have h2:=pa cpos ((a,oa)::DA) _ σ' H' (fun vs H1=>vs=[.int 1]/\H1=H') Km5 ⟨rfl,rfl⟩
  refine Dq (h₀:=C.X.base) I.ok.mod.kin hk (wpAny_mono h2 (fun us s2 ⟨vs',H2,I2,r,ev,eH2⟩=>⟨I2.kIn,?_⟩) fun _ _ y=>y.elim) he hpl
  subst ev eH2
  cases r with
  | cons ra r=>cases r with
   | nil =>
    obtain⟨tk,rfl⟩:=ra
    have J2:Inv C.X ((a,oa)::DA) σ' H2 s2:=Inv.ofSuite K4.ok I2
    have qa2:s2.heap.get? a=some oa:=(J2.pin (a,oa) (Ad _ Ac)).1
    refine yV1 Cf (T.keeps J2.bk) (L.keeps J2.bk) J2.kIn hi (J2.kIn _ _ lk) fc (by show 1<=sizeLine;decide) fun h' a2 m => ?_
    obtain⟨t0,he1,_,_⟩:=m.there
    have gone:∀b ob,s2.heap.get? b=some ob->b≠a2:=fun b ob q z=>by subst z;rw[m.new] at q;cases q
    have n:H2 a2=none:=by
     cases q:H2 a2 with
     | none=>rfl
     | some o =>
      obtain⟨u,z⟩:=uQ (J2.hok a2 o q)
      rw[m.new] at z
      cases z
    have I3:Inv C.X ((a,oa)::DA) σ' H2 { s2 with heap:=h',toks:=s2.toks }:=J2.kept m.keeps
    have I5:Inv C.X ((a,oa)::DA) σ' (upd H2 a2 (.ext (iniP a2 (CN.ad "BadText")))) { s2 with heap:=h',toks:=s2.toks }:=by
     refine I3.track n ?_ ?_ (fun y z q => ?_) (fun p hp => ?_) (zM3 ⟨t0,he1⟩)
     ·cases q:C.X.s₀.heap.get? a2 with
      | none=>rfl
      | some o =>
       obtain⟨o',q'⟩:=J2.base.there a2 o q (by rw[hex];simp)
       rw[m.new] at q'
       cases q'
     ·obtain⟨mm,⟨o,_,_,q,_⟩,_⟩:=J2.loc
      exact Bd (gone _ o q)
     ·obtain⟨v,o,q',_⟩:=J2.cell y z q
      exact gone _ o q'
     ·exact gone _ _ (J2.pin p hp).1
    have r2:Vals [V.ref a2,V.int 1] [Value.ref a2,Value.int 1 tk]:=.cons rfl (.cons ⟨tk,rfl⟩ .nil)
    refine codeAny_mono (F _ (.ref a) C.X.stack _ _ ⟨[Value.ref a2,Value.int 1 tk],[]⟩ [Value.ref a2,Value.int 1 tk] _ (fun v H'=>v=.non/\∃d,upd H2 a2 (.ext (iniP a2 (CN.ad "BadText"))) d=none/\H'=upd (upd (upd H2 a2 (.ext (iniP a2 (CN.ad "BadText")))) a2 (.ext (iniE a2 (CN.ad "BadText") d))) d (.ext (Row d 1))) E0 (hr.make (CN.ad "BadText") [Value.int 1 tk] []) (I5.env0.make (CN.ad "BadText") [Value.int 1 tk] []) (hbd _ [Value.ref a2,Value.int 1 tk] I5.kIn rfl) r2 ⟨a2,1,rfl,by decide,zN,fun d z=>⟨rfl,d,z,rfl⟩⟩) fun res s' hq' => ?_
    cases res with
    | error ee=>exact hq'.elim
    | ok fl =>
     cases fl with
     | ret u =>
      obtain⟨v,H'',os',bare,un',hok,rv,rfl,d,nd,eH⟩:=hq'
      rw[yS8] at eH
      have ex:=yP4 J2 hnm hrn m nd eH os' bare un' hok
      have da2:a2≠d:=fun z=>by rw[<-z,zN] at nd;cases nd
      obtain⟨⟨t1,he2⟩,_,_⟩:=hok a2 _ (by rw[eH];exact (zO da2).trans zN)
      have I6:Inv C.X ((a,oa)::DA) σ' H'' s':=I5.call' (s':=s') os' un' hok bare (fun b z=>by cases z)
      have qa3:s'.heap.get? a=some oa:=(I6.pin (a,oa) (Ad _ Ac)).1
      refine⟨rv,a2,some d,t1,ob,rfl,L.keeps I6.bk,he2,gone a oa qa2,Bd (gone _ _ (J2.bk _ _ L.obj)),⟨oa,vs,_,qa3,da,za,rfl⟩,Ab (wpAny_Constant_none (Ab (wpAny_standAt (Ar ⟨rfl,rfl⟩)))),fun g g1 g2 => ?_⟩
      have ex2:=xQ6 hnm ex he2 rfl g1 rfl rfl rfl rfl rfl rfl g2
      exact xW6 (X:=C.X) rfl ex2 hst hfr fun s'' ex3=>hb nm H2 _ _ ex3 hsp
     | next=>exact hq'.elim
     | brk=>exact hq'.elim
     | cont=>exact hq'.elim
 obtain⟨tb,pb,qb⟩:=hbody _ _ _ br
 refine wpAny_mono (pb [] s σ H E (Inv.toTry I _) (qb Oc Ob σ H ρ E R ?_)) (fun f s₁ hs => ?_) fun e s₁ z=>z
 ·unfold sTryR at hp
  cases em:mb ρ with
  | ok o=>rw[em] at hp;exact hp
  | no=>rw[em] at hp;exact hp
  | ex c =>
   rw[em] at hp
   intro H' f1
   by_cases hc:caught.contains c=true
   ·simp only[hc,if_true] at hp
    exact⟨hc,hp H' f1⟩
   ·simp only[hc] at hp
    exact hp.elim
 ·cases f with
  | next=>exact wpAny_execs_nil (SP.ofTry hs)
  | brk=>exact SP.ofTry (f:=.brk) hs
  | cont=>exact SP.ofTry (f:=.cont) hs
  | ret u=>exact SP.ofTry (f:=.ret u) hs
end L2.L3
namespace L2.L3
open PySem PySem.Spec PyProof.Rows
variable [CN]
def sTry0(caught:List Str)(mb ms:Ev->Res Out):Ev->Res Out:=fun ρ=>match mb ρ with
 | .ok o=>.ok o
 | .no=>.no
 | .ex c=>if caught.contains c then noEx (ms (List.replicate ρ.length none)) else .no
theorem xT4{cs:List Str}{mb ms:Ev->Res Out}{ρ:Ev}{o:Out}(h:mb ρ=.ok o):sTry0 cs mb ms ρ=.ok o:=by unfold sTry0;rw[h]
theorem xS6{cs:List Str}{mb ms:Ev->Res Out}{ρ:Ev}{c:Str}(h:mb ρ=.ex c)(hc:cs.contains c=true):sTry0 cs mb ms ρ=noEx (ms (List.replicate ρ.length none)):=by
 unfold sTry0
 rw[h]
 exact Am hc
theorem zD9{cs:List Str}{nm:Str}{mb:Ev->Res Out}{ρ:Ev}{o:Out}(h:mb ρ=.ok o):sTryR cs nm mb ρ=.ok o:=by unfold sTryR;rw[h]
theorem xT3{cs:List Str}{nm:Str}{mb:Ev->Res Out}{ρ:Ev}{c:Str}(h:mb ρ=.ex c)(hc:cs.contains c=true):sTryR cs nm mb ρ=.ex nm:=by
 unfold sTryR
 rw[h]
 exact Am hc
theorem xQ5{C:Ct}{fr:Bool}{x:Str}{np hpos pos:Pos}{body suite:List Stmt}{b₀:Stmt}{mb ms:Ev->Res Out}(caught:List Str)
  (hbody:∀(pn:List (Addr×Obj)) (xe:Value->Shared->Prop) (XE:Str->Hp->Prop),Br ⟨inTry C.X pn xe,XE,C.om,C.ln⟩->RSs ⟨inTry C.X pn xe,XE,C.om,C.ln⟩ fr body mb)
  (hsuite:∀e:Value,RSs ⟨inSuite C.X e,fun _ _=>False,C.om,C.ln⟩ fr (b₀::suite) ms)
  (hcx:∀c,caught.contains c=true->PySem.W.kitCls C.X.K (.ref (CN.ad c)) (.ref (CN.ad x))=some true) (hcb:PySem.W.subIn C.X.K (.ref (CN.ad x)) (.type "BaseException")=some true) (hm:C.X.mg x=some (.ref (CN.ad x)))
  (hst:autoParam (C.X.stack=C.X.env::C.X.outer) Dz) (hfr:autoParam (C.X.env.frame=some C.X.env.locals) Dz) (hg:autoParam (Gl C.X x) Dz) (hdb:autoParam ((x == ("__debug__":Str))=false) Dy) :
  RS C fr (.Try body [.ExceptHandler (some (.Name x np)) none (b₀::suite) hpos] [] [] pos) (sTry0 caught mb ms):=by
 refine⟨fun D σ H=>∀DA s,Inv C.X DA σ H s->wpAny (model C.X.prog C.X.w) C.X.A (exec (.Try body [.ExceptHandler (some (.Name x np)) none (b₀::suite) hpos] [] [] pos) C.X.env) (SP C.X DA D) C.X.xe s,fun DA s σ H D I h=>h DA s I,fun Oc Ob σ H ρ E R hp DA s I => ?_⟩
 refine wpAny_Try_except ?_
 generalize hxe:(fun (e:Value) (s₁:Shared)=>wpAny (model C.X.prog C.X.w) C.X.A (noteFrame e C.X.env) (fun _ s₂=>wpAny (model C.X.prog C.X.w) C.X.A (setFlight e none) (fun _ s₃=>wpAny (model C.X.prog C.X.w) C.X.A (handleBy e C.X.env [.ExceptHandler (some (.Name x np)) none (b₀::suite) hpos]) (SP C.X DA E) C.X.xe s₃) C.X.xe s₂) C.X.xe s₁)=xe'
 have hln:σ.length=ρ.length:=R.len
 have br:Br ⟨inTry C.X (C.X.pn++DA) xe',fun c H'=>Frm Ob H H'/\caught.contains c=true/\SPost C fr Oc (fun _=>False) H' E (noEx (ms (List.replicate ρ.length none))),C.om,C.ln⟩:=by
  intro c H' e s' xx ⟨f1,hc,hsp⟩
  subst hxe
  refine aD (X:=inTry C.X (C.X.pn++DA) _) xx hst hfr fun pins' σ' s1 H1 a B a0 s3 J1 J un ea n1 n2 fl tr => ?_
  subst ea
  have K3:Inv C.X DA σ' H' s3:=Inv.ofTry J
  have Km:=Inv.toSuite K3 (.ref a)
  refine wpAny_handleBy_cons (codeAny_handlers_test ?_) (by intro q;cases q)
  refine vI (X:=inSuite C.X (.ref a)) Km hg hm ?_ hdb
  obtain⟨oe,_,_,_,_,he,⟨hcl,_⟩,_⟩:=id tr
  refine fD K3.kIn he hcl (hcx c hc) hcb ?_
  refine codeAny_handlers_suite ?_
  refine lands_againW (base:=B) (l:=C.X.stack) (cls:=.ref (CN.ad c)) (a0:=a0) ⟨fl.stays,fl.newB,fl.frm,tr⟩ fun h4 fly ups => ?_
  obtain⟨I4,_,_⟩:=zW6 J1 J un fl fly.1 fly.2.2.1 ups
  have K4:Inv C.X DA σ' H' { s3 with heap:=h4 }:=Inv.ofTry I4
  obtain⟨ts,ps,qs⟩:=hsuite (.ref a)
  have hOc:∀b,Oc b->H' b≠none:=fun b z=>by
   obtain⟨o,q⟩:=jG (R.oh b (.inl z))
   exact xM (f1 b o q fun y=>R.ap b y z)
  have R5:Rel Oc (fun _=>False) C.om C.ln σ' H' (List.replicate ρ.length none):=by
   have no:∀(i:Nat) (d:D),(List.replicate ρ.length (none:Option D))[i]?=some (some d)->False:=fun i d e=>by
    rw[BX] at e
    split at e <;> cases e
   have hls:σ'.length=ρ.length:=by rw[K3.len,<-I.len,hln]
   exact⟨by rw[BO,hls],fun i d e h1 h2=>(no i d e).elim,fun i d e h1=>(no i d e).elim,fun i d e h1 h2=>(no i d e).elim,fun i k di dk b ei ek hi hk' _ _=>(no i di ei).elim,fun b z=>hOc b (z.elim id fun z=>z.elim),fun b z=>z.elim⟩
  refine wpAny_mono (ps DA _ _ _ E (Inv.toSuite K4 (.ref a)) (qs Oc (fun _=>False) _ _ _ _ R5 ?_)) (fun f s6 h6 => ?_) fun _ _ z=>z.elim
  ·exact Res.zU (zH7 hsp) (fun o _ k=>by cases o <;> exact k) fun _ z=>z.elim
  ·cases f with
   | next=>obtain⟨σ6,H6,I6,q6⟩:=h6;exact⟨_,_,Inv.ofSuite K3.ok I6,q6⟩
   | brk=>obtain⟨σ6,H6,I6,q6⟩:=h6;exact⟨_,_,Inv.ofSuite K3.ok I6,q6⟩
   | cont=>obtain⟨σ6,H6,I6,q6⟩:=h6;exact⟨_,_,Inv.ofSuite K3.ok I6,q6⟩
   | ret u=>obtain⟨v,σ6,H6,I6,r6,q6⟩:=h6;exact⟨v,_,_,Inv.ofSuite K3.ok I6,r6,q6⟩
 obtain⟨tb,pb,qb⟩:=hbody _ _ _ br
 refine wpAny_mono (pb [] s σ H E (Inv.toTry I _) (qb Oc Ob σ H ρ E R ?_)) (fun f s₁ hs => ?_) fun e s₁ z=>z
 ·unfold sTry0 at hp
  cases em:mb ρ with
  | ok o=>rw[em] at hp;exact hp
  | no=>rw[em] at hp;exact hp
  | ex c =>
   rw[em] at hp
   intro H' f1
   by_cases hc:caught.contains c=true
   ·simp only[hc,if_true] at hp
    exact⟨f1,hc,SPost.step f1 (fun b z=>z.elim) hp⟩
   ·simp only[hc] at hp
    exact hp.elim
 ·cases f with
  | next=>exact wpAny_execs_nil (SP.ofTry hs)
  | brk=>exact SP.ofTry (f:=.brk) hs
  | cont=>exact SP.ofTry (f:=.cont) hs
  | ret u=>exact SP.ofTry (f:=.ret u) hs
end L2.L3
namespace L2.L3
open PySem PySem.Spec PyProof.Rows
def underV:List Value->Bool
 | .ref _::r=>underV r
 | .type n::r=>(.type n::r) == [.type "ValueError",.type "Exception",.type "BaseException",.type "object"]
 | _=>false
theorem zV2(self:Value):∀(l:List Value),underV l=true->refuseLoop self "__setattr__" l=pure ()/\l.contains (.type "object")=true/\l.isEmpty=false
 | [],e=>by cases e
 | v::r,e=>by
  cases v with
  | ref c =>
   obtain⟨a,b,_⟩:=zV2 self r e
   exact⟨(refuseLoop_ref _ _ _ _).trans a,by rw[Cr,b,Bool.or_true],rfl⟩
  | type n =>
   have z:=eq_of_beq (show ((Value.type n::r) == [.type "ValueError",.type "Exception",.type "BaseException",.type "object"])=true from e)
   rw[z]
   exact⟨PySem.F.store_ValueError.passes self,by decide,rfl⟩
  | _=>cases e
structure RowCls(K:KFr)(C:Addr):Prop where
 sa:PySem.W.findIn K (.ref C) "__setattr__" = some (some (.builtin "object.__setattr__"))
 ov:(PySem.W.clsIn K C).any (fun cd=>underV cd.mro&&cd.hasDict)=true
 nr:PySem.W.findIn K (.ref C) "row" = some none
theorem xJ6{X:Cx}{DA:List (Addr×Obj)}{σ:St}{H:Hp}{s:Shared}{A:Around}{E:Value->Shared->Prop}{e C:Addr}{v:Value}{r:Int}{tv:Tok}{Q:Unit->Shared->Prop}(ev:v=.int r tv)(I:Inv X DA σ H s)(hH:H e=some (.ext (iniP e C)))(f:RowCls X.K C)
  (h:∀s' d,H d=none->Inv X DA σ (upd (upd H e (.ext (iniE e C d))) d (.ext (Row d r))) s'->Q () s'):wpAny (model X.prog X.w) A (setAttr (.ref e) "row" v) Q E s:=by
 obtain⟨⟨t0,he⟩,_,_⟩:=I.hok e _ hH
 obtain⟨cd,hc,ho⟩:=PySem.W.any_some f.ov
 rw[AH] at ho
 obtain⟨u1,u2,u3⟩:=zV2 (.ref e) _ ho.1
 have J:PySem.W.InstAt s.heap e { cls:=.ref C,dict:=none,data:=.fields #[.ref t0,.none,.none,.none,.bool false,.none] } C none:=⟨he,rfl,rfl,trivial⟩
 have ty:=J.type (M:=model X.prog X.w)
 have cl:=PySem.W.looks_clsIn (M:=model X.prog X.w) I.kIn hc
 have mr:PySem.W.Looks (model X.prog X.w) s.heap (mroOf (.ref C)) cd.mro:=cl.andThen .now
 have no:=PySem.W.looks_findIn (M:=model X.prog X.w) I.kIn f.nr
 have inst:PySem.W.Looks (model X.prog X.w) s.heap (isInstance (.ref e) (.type "object")) true:=ty.andThen (PySem.W.looks_mroIn I.kIn (by unfold PySem.W.mroIn;rw[hc,AI,u3];exact BQ some u2))
 have pas:PySem.W.Looks (model X.prog X.w) s.heap (Builtin.ObjectAttr.refuseIfOverridden (.ref e) "__setattr__") ():=by
  rw[refuse_eq]
  exact ty.andThen (mr.andThen (.of_pure u1))
 obtain⟨hh,g,d,tk,os⟩:=s
 refine PySem.W.set_plain I.kIn J f.sa (codeAny_call_builtin PySem.F.store_object.slot.plain PySem.F.store_object.entry ?_)
 refine PySem.W.check_slot (M:=model X.prog X.w) (s:=⟨hh,g,d,tk+1,os⟩) (i:="object.__setattr__") (owner:="object") (n:="__setattr__") (self:=.ref e) (rest:=[.str "row" tk,v]) (kw:=[]) PySem.F.store_object.kind PySem.F.store_object.split inst (PySem.F.store_object.args _ _ _) ?_
 rw[PySem.W.osa_eq]
 refine Ab (pas.at (Ab (ty.at (Ab (no.at (Ab (Ar ?_)))))))
 refine Ab (Ar (Ab (Ab (wpAny_loadPart he (Ab (cl.at ?_))))))
 rw[ho.2]
 have pushed:(hh.push { cls:=.type "dict",data:=.dict #[] }).get? e=some { cls:=.ref C,dict:=none,data:=.fields #[.ref t0,.none,.none,.none,.bool false,.none] }:=by heap_get
 have far:e≠hh.objs.size:=AL (Ao he)
 obtain⟨g1,hg1⟩:∃g1,g1=(hh.push { cls:=.type "dict",data:=.dict #[] }).update e fun o=>{ o with dict:=some hh.objs.size }:=⟨_,rfl⟩
 have new:g1.get? e=some { cls:=.ref C,dict:=some hh.objs.size,data:=.fields #[.ref t0,.none,.none,.none,.bool false,.none] }:=by rw[hg1];exact AY _ pushed rfl
 have keep:∀b,b≠e->g1.get? b=(hh.push { cls:=.type "dict",data:=.dict #[] }).get? b:=fun b z=>by rw[hg1];exact AC _ _ (Bd z)
 have bare:g1.Ns1 hh.objs.size fun _=>none:=Heap.Ns1.of_empty ⟨_,#[],_,(keep _ (Bd far)).trans (Az hh rfl),rfl,fun y z=>(Array.not_mem_empty y z).elim,fun _=>rfl⟩
 have store:∀{A':Around}{Q':Unit->Shared->Prop}{E':Value->Shared->Prop}{t':Nat},(∀h' t'',h'.Ns1 hh.objs.size (fun y=>if y="row" then some v else none)/\Heap.SameBut hh.objs.size g1 h'->Q' () ⟨h',g,d,t'',os⟩)->wpAny (model X.prog X.w) A' (nsSet hh.objs.size "row" v) Q' E' ⟨g1,g,d,t',os⟩ :=
  fun z=>wpAny_nsSet1 bare fun h' n sb=>z h' _ ⟨n,sb⟩
 refine Ab (wpAny_alloc' (Ab (wpAny_update' pushed (Ar ?_))))
 show wpAny _ _ (Builtin.ObjectAttr.storeInDict hh.objs.size (.str "row" tk) "row" v) _ _ ⟨_,g,d,tk+1,os⟩
 rw[<-hg1]
 refine Ab (Ar (Ab (store fun h' t' ⟨n,sb⟩ => ?_)))
 obtain⟨od,es,ep,q1,q2,q3⟩:=n.count (PySem.Within.cons "row" v PySem.Within.nil)
 refine Ab (wpAny_lookBehind q1 (q2▸pastItsLine_dict (Ba q3 (by decide))) (Ar ?_))
 have told:h'.get? e=some { cls:=.ref C,dict:=some hh.objs.size,data:=.fields #[.ref t0,.none,.none,.none,.bool false,.none] }:=(sb.2 e far).trans new
 have J2:Inv X DA σ (upd H e (.ext (iniE e C hh.objs.size))) ⟨h',g,d,t',os⟩:=Inv.write (x:=e) (e:=e) (o:=.ext (iniE e C hh.objs.size)) (h':=h') (t':=t') I (by rw[hH];exact trivial) (.inl rfl) (fun b u nb hb=>by
  rw[sb.2 b (AL (Ao hb)),keep b nb]
  exact Al _ hb) ⟨_,told⟩ (xU6 ⟨_,told⟩)
 have nd:H hh.objs.size=none:=zX8 fun o q=>by
  obtain⟨u,z⟩:=uQ (I.hok _ o q)
  exact absurd (Ao z) (Cm _)
 have nd2:upd H e (.ext (iniE e C hh.objs.size)) hh.objs.size=none:=by rw[zO (Bd far)];exact nd
 have gone:∀b ob,hh.get? b=some ob->b≠hh.objs.size:=fun b ob z=>AL (Ao z)
 refine h _ _ nd (J2.track nd2 (CF (Ba I.ok.above (Bw I.lt))) ?_ (fun y z q => ?_) (fun p hp => ?_) (xL1 ⟨tv,ev▸n⟩))
 ·obtain⟨mm,⟨o,_,_,q,_⟩,_⟩:=I.loc
  exact Bd (gone _ o q)
 ·obtain⟨v,o,q',_⟩:=I.cell y z q
  exact gone _ o q'
 ·exact gone _ _ (I.pin p hp).1
def sRow(K:KFr)(ta tv:TE):TS:=fun D σ H=>tv σ H fun y H1=>ta σ H1 fun x H2=>∃e C r,x=.ref e/\y=.int r/\H2 e=some (.ext (iniP e C))/\RowCls K C/\∀d,H2 d=none->D.nx σ (upd (upd H2 e (.ext (iniE e C d))) d (.ext (Row d r)))
theorem yD3{X:Cx}{o value:Expr}{pos pos':Pos}{ta tv:TE}(ha:PE X o ta)(hv:PE X value tv)(hs:swapsWith value (some (.Attribute o "row" pos')) pos.line X.env=pure false):PS X (.Assign [.Attribute o "row" pos'] value pos) (sRow X.K ta tv):=by
 intro DA s σ H D I h
 refine plainObj_wpAny_Assign_Attribute (thn (hv DA s σ H _ I h) fun u s1 ⟨y,H1,I1,ry,q⟩=>thn (ha DA s1 σ H1 _ I1 q) fun ov s2 ⟨x,H2,I2,rx,e,C,r,ex,ey,ea,c,q2⟩ => ?_) hs
 subst ex ey
 obtain⟨tk,rfl⟩:=ry
 obtain rfl:ov=Value.ref e:=rx
 exact xJ6 rfl I2 ea c fun s3 d nd I3=>⟨σ,_,I3,q2 d nd⟩
end L2.L3
namespace PySem
open PySem.Spec PyProof.Rows
section
variable {prog:Program}{w:World}{A:Around}{E:Value->Shared->Prop}{a C d:Addr}{K:KFr}{vs:Array Value}{sl:Array (Option Value)}{x:Shared}{r:Int}
end
end PySem
namespace L2.L3
open PySem PySem.Spec PyProof.Rows
variable [CN]
def ixSD:D->D->Option D
 | .str z,.int i=>if z.length<=sizeLine then (atI z.cps.toList i).map fun c=>.str ⟨#[c]⟩ else none
 | _,_=>none
theorem xH1:Pr2 rIxS .cl ixSD:=by
 intro Oc Ob H x y dx dy d Q oh vx vy e k
 cases dx with
 | str z =>
  cases dy with
  | int i =>
   unfold ixSD at e
   by_cases h:z.length<=sizeLine
   ·simp only[h,if_true] at e
    obtain⟨c,e1,rfl⟩:=Av.mp e
    exact⟨z,i,c,vx.str,vy.int,h,e1,k _ H (Same.refl H) (Rep.str _)⟩
   ·simp only[h] at e
    cases e
  | _=>cases e
 | _=>cases e
def FewT(z:Str)(n:Int):Prop:=0<=n/\n<=1000/\z.length<=1000
instance (z:Str) (n:Int):Decidable (FewT z n):=by unfold FewT;infer_instance
section
variable {X:Cx}{CX:CXT}{k:Nat}{f:Addr}{fd:FuncData}{ps:List Str}{sp:Sp}{dvs:List V}{ds:List Value}{E:XK}{x:Str}{p pos:Pos}{e:Expr}{es:List Expr}{t:TA}
end
theorem kZ{K:KFr}{a:Addr}(h1:(PySem.W.clsIn K a).isSome=true)(h2:PySem.W.typeIn K (.ref a)=some (.type "type"))(h3:PySem.W.subIn K (.ref a) (.ref a)=some true):PySem.W.kitCls K (.ref a) (.ref a)=some true:=by
 rw[PySem.W.kitCls,Am (by rw[h1,h2];decide +kernel)]
 exact h3
end L2.L3
namespace L2.L3
open PySem PySem.Spec PyProof.Rows
theorem yT6{K:KFr}{B:Addr}{nid:String}(q:PySem.W.excIn K B bmV nid=true):PySem.W.tailIn K bmV (.ref B::bmV)=true:=by
 have base:PySem.W.tailIn K bmV bmV=true:=by
  unfold PySem.W.tailIn
  rw[beq_self_eq_true,Bool.true_or]
 unfold PySem.W.tailIn
 rw[PySem.W.excIn] at q
 refine Bool.or_eq_true_iff.mpr (.inr ?_)
 split at q
 case h_2=>cases q
 case h_1 lk =>
  split at q
  case h_2=>cases q
  case h_1 =>
   rw[AH,AH] at q
   simp only[lk]
   rw[q.1.2,q.2,base]
   rfl
theorem xL8{K:KFr}{C B N:Addr}{nm q:Str}{bs:List Value}{hdct:Bool}{sn:List Str}{sub:List Value}{ab:Bool}{col:Option Bool}{dd:Option Addr}{k0 k1 k2 k3 k5:Option Value}
  (h:K.lookup C=some (excClassObj nm q C N bs (.ref B::bmV) hdct sn sub ab col dd k0 k1 k2 k3 k5 "ValueError.__new__")) (hb:PySem.W.excIn K B bmV "ValueError.__new__" = true):ExIn K C bmV "ValueError.__new__" :=
 ⟨N,_,nm,q,bs,hdct,sn,sub,ab,col,dd,k0,k1,k2,k3,k5,h,yT6 hb⟩
theorem yH7{K:KFr}{C:Addr}{cd:ClassData}(sa:PySem.W.findIn K (.ref C) "__setattr__" = some (some (.builtin "object.__setattr__")))(hc:PySem.W.clsIn K C=some cd)(ho:(underV cd.mro&&cd.hasDict)=true)(nr:PySem.W.findIn K (.ref C) "row" = some none):RowCls K C :=
 ⟨sa,by rw[hc];exact ho,nr⟩
def BtFi(K:KFr)(C:Addr)(st:Stmt):Prop:=∃fI fd,PySem.W.findIn K (.ref C) "__init__" = some (some (.ref fI))/\PySem.W.isFn K (.ref fI)=true/\Fun K "__init__" "BadText.__init__" st fI fd/\Binds K fd ["self","row"] []
theorem xP9{K:KFr}{C f:Addr}{st:Stmt}{oc:Value}{od an:Option Addr}{osl:Array (Option Value)}{kV doc pm cdv ct:Value}(hi:PySem.W.findIn K (.ref C) "__init__" = some (some (.ref f)))(hf:PySem.W.isFn K (.ref f)=true)
  (l:K.lookup f=some ⟨oc,od,.func (PySem.W.fnOf "__init__" "BadText.__init__" (defArgs st) (defBody st) (zS st) .none kV doc pm an cdv ct),osl⟩) (c:PySem.W.codeIn K cdv "BadText.__init__" = true) (k:PySem.W.keepIn K (.ref f)=true)
  (hb:∀(kV doc pm:Value) (an:Option Addr) (cdv ct:Value) (us:List Value),us.length=2->bindArgs (PySem.W.fnOf "__init__" "BadText.__init__" (defArgs st) (defBody st) (zS st) .none kV doc pm an cdv ct) ⟨us,[]⟩=pure ((["self","row"]:List Str).zip us)):BtFi K C st :=
 have F:=yH1 (st:=st) l c k
 ⟨f,_,hi,hf,F,F.binds hb⟩
end L2.L3
namespace L2.L3
open PySem PySem.Spec PyProof.Rows MR
variable [CN]
namespace X
def Run(F1 F2:List D->Res D)(nm:Int->Str)(r p:Int)(o:Res D):Nat->Option D->Str->Fs->Prop
 | 0,_,_,_=>False
 | m+1,none,s,fs=>(s.length<=sizeLine/\fs.length<=60000)/\((Txt.startswith s "-" = true/\((∃s1,F2 [.str s,.str "-",.int r]=.ok (.str s1)/\Run F1 F2 nm r p o m (some .none) s1 fs)\/∃c,F2 [.str s,.str "-",.int r]=.ex c/\o=.ex c)) \/
   (Txt.startswith s "-" = false/\((∃n,F1 [.str (Txt.partition s "(").1,.int r]=.ok (.int n)/\Run F1 F2 nm r p o m none (Txt.partition s "(").2.2 ((n,[])::fs))\/∃c,F1 [.str (Txt.partition s "(").1,.int r]=.ex c/\o=.ex c)))
 | _+1,some d,s,[]=>PyData.strOk s=true/\((s=""/\o=.ok d)\/(s ≠ ""/\(0<=r/\r<16)/\o=.ex (nm r)))
 | m+1,some d,s,(n,ds)::fs=>ds.length<=900/\(((ds.length:Int)=p-1/\((∃s1,F2 [.str s,.str ")",.int r]=.ok (.str s1)/\Run F1 F2 nm r p o m (some (.tuple [.int n,.tuple (ds ++ [d])])) s1 fs)\/∃c,F2 [.str s,.str ")",.int r]=.ex c/\o=.ex c)) \/
   (¬(ds.length:Int)=p-1/\((∃s1,F2 [.str s,.str " ",.int r]=.ok (.str s1)/\Run F1 F2 nm r p o m none s1 ((n,ds ++ [d])::fs))\/∃c,F2 [.str s,.str " ",.int r]=.ex c/\o=.ex c)))
theorem gJ{F1 F2:List D->Res D}{nm:Int->Str}{r p:Int}{o o':Res D}:∀(m m':Nat) (q:Option D) (s:Str) (fs:Fs),Run F1 F2 nm r p o m q s fs->Run F1 F2 nm r p o' m' q s fs->o=o'
 | 0,_,_,_,_,h,_=>h.elim
 | _+1,0,_,_,_,_,h=>h.elim
 | m+1,m'+1,none,s,fs,h,h'=>by
  rcases h.2 with ⟨c,k⟩ | ⟨c,k⟩ <;> rcases h'.2 with ⟨c',k'⟩ | ⟨c',k'⟩
  ·rcases k with ⟨s1,e,k⟩ | ⟨x,e,k⟩ <;> rcases k' with ⟨s1',e',k'⟩ | ⟨x',e',k'⟩
   ·cases yV8 e e'
    exact gJ m m' _ _ _ k k'
   ·rw[e] at e';cases e'
   ·rw[e] at e';cases e'
   ·rw[e] at e';cases e';rw[k,k']
  ·rw[c] at c';cases c'
  ·rw[c] at c';cases c'
  ·rcases k with ⟨n,e,k⟩ | ⟨x,e,k⟩ <;> rcases k' with ⟨n',e',k'⟩ | ⟨x',e',k'⟩
   ·rw[e] at e'
    cases e'
    exact gJ m m' _ _ _ k k'
   ·rw[e] at e';cases e'
   ·rw[e] at e';cases e'
   ·rw[e] at e';cases e';rw[k,k']
 | m+1,m'+1,some d,s,[],h,h'=>by
  rcases h.2 with ⟨c,k⟩ | ⟨c,_,k⟩ <;> rcases h'.2 with ⟨c',k'⟩ | ⟨c',_,k'⟩
  ·rw[k,k']
  ·exact absurd c c'
  ·exact absurd c' c
  ·rw[k,k']
 | m+1,m'+1,some d,s,(n,ds)::fs,h,h'=>by
  rcases h.2 with ⟨c,k⟩ | ⟨c,k⟩ <;> rcases h'.2 with ⟨c',k'⟩ | ⟨c',k'⟩
  ·rcases k with ⟨s1,e,k⟩ | ⟨x,e,k⟩ <;> rcases k' with ⟨s1',e',k'⟩ | ⟨x',e',k'⟩
   ·cases yV8 e e'
    exact gJ m m' _ _ _ k k'
   ·rw[e] at e';cases e'
   ·rw[e] at e';cases e'
   ·rw[e] at e';cases e';rw[k,k']
  ·exact absurd c c'
  ·exact absurd c' c
  ·rcases k with ⟨s1,e,k⟩ | ⟨x,e,k⟩ <;> rcases k' with ⟨s1',e',k'⟩ | ⟨x',e',k'⟩
   ·cases yV8 e e'
    exact gJ m m' _ _ _ k k'
   ·rw[e] at e';cases e'
   ·rw[e] at e';cases e'
   ·rw[e] at e';cases e';rw[k,k']
open Classical in
def rtF(F1 F2:List D->Res D)(nm:Int->Str):List D->Res D
 | [.str z,.int p,.int r]=>if h:∃o m,Run F1 F2 nm r p o m none z [] then h.choose else .no
 | _=>.no
theorem yI5{F1 F2:List D->Res D}{nm:Int->Str}{r p:Int}{o:Res D}{m:Nat}{z:Str}(h:Run F1 F2 nm r p o m none z []):rtF F1 F2 nm [.str z,.int p,.int r]=o:=by
 have hx:∃o m,Run F1 F2 nm r p o m none z []:=⟨o,m,h⟩
 unfold rtF
 simp only
 rw[dif_pos hx]
 obtain⟨m',h'⟩:=hx.choose_spec
 exact gJ m' m _ _ _ h' h
theorem xZ8{F1 F2:List D->Res D}{nm:Int->Str}{ds:List D}{Q:D->Prop}{R:Str->Prop}(h:(rtF F1 F2 nm ds).post Q R):∃z p r o m,ds=[.str z,.int p,.int r]/\Run F1 F2 nm r p o m none z []/\o.post Q R:=by
 unfold rtF at h
 split at h
 ·split at h
  ·rename_i hx
   obtain⟨m,hm⟩:=hx.choose_spec
   exact⟨_,_,_,_,m,rfl,hm,h⟩
  ·exact h.elim
 ·exact h.elim
def wE(XE:Str->Hp->Prop):XK:=fun v ro H=>∃c,v=.ref (CN.ad c)/\ro=rowOf c/\XE c H
theorem smallB{n:Nat}(h:n<=60000):n<sizeLine:=Dr h (by decide)
section
variable (K:KFr) (F1 F2:List D->Res D) (nm:Int->Str) (XE:Str->Hp->Prop)
def tBs(sg:Str):TS:=tAsg (tCall (spX false F2) [] (wE XE) (zH (tVar 4) (zH (tC (.str sg)) (zH (tVar 2) tNil)))) (gName 4)
def tDn:TS:=tWhile (tNot (tB (tBM K "str" rStw (tVar 4) (zH (tC (.str "-")) tNil)))) (tSeq (tAsg (tBM K "str" rPart (tVar 4) (zH (tC (.str "(")) tNil)) (gName 5))
 (tSeq (tDrop (tBM K "list" rAppend (tVar 3) (zH (tTup (zH (tCall (spX false F1) [] (wE XE) (zH (tOp (rIxT K) (tVar 5) (tC (.int 0))) (zH (tVar 2) tNil))) (zH (tLst tNil) tNil))) tNil))) (tAsg (tOp (rIxT K) (tVar 5) (tC (.int 2))) (gName 4))))
def tTop:TE:=tOp (rIxT K) (tOp (rIxL K) (tVar 3) (tUn (rU fun i=>.int (-i)) (tC (.int 1)))) (tC (.int 1))
def tUpW:TS:=tWhile (tAnd (tTest (tOp (rI0 fun i j=>.bl (decide (j<i))) (tCB (rLnS K) (zH (tVar 3) tNil)) (tC (.int 0)))) (tTest (tOp (rEqD K false) (tCB (rLnS K) (zH (tTop K) tNil)) (tOp rSub (tVar 1) (tC (.int 1))))))
 (tSeq (tBs F2 XE ")") (tSeq (tAsg (tBM0 K "list" rPop (tVar 3)) (gName 7)) (tAsg (tTup (zH (tOp (rIxT K) (tVar 7) (tC (.int 0))) (zH (tCB (rTup K) (zH (tOp rCatR (tOp (rIxT K) (tVar 7) (tC (.int 1))) (tLst (zH (tVar 6) tNil))) tNil)) tNil))) (gName 6))))
def tEn:TS:=tSeq (tIfS (tTest (tOp (rEqD K false) (tCB (rLnS K) (zH (tVar 3) tNil)) (tC (.int 0)))) (tSeq (tIfS (tTest (tOp (rEqD K true) (tVar 4) (tC (.str "")))) (tRaI nm XE (zH (tVar 2) tNil)) tNext) (tRet (tVar 6))) tNext)
 (tSeq (tBs F2 XE " ") (tDrop (tBM K "list" rAppend (tTop K) (zH (tVar 6) tNil))))
def tRt:TS:=tSeq (tAsg (tLst tNil) (gName 3)) (tSeq (tAsg (tVar 0) (gName 4)) (tWhile (tB (tC (.bl true))) (tSeq (tDn K F1 XE) (tSeq (tBs F2 XE "-") (tSeq (tAsg (tC .non) (gName 6)) (tSeq (tUpW K F2 XE) (tEn K F2 nm XE)))))))
end
theorem callE{F:List D->Res D}{vs:List V}{ds:List D}{c:Str}{H:Hp}{Q:VK}{XE:Str->Hp->Prop}(e:F ds=.ex c)(r:Reps H (fun _=>False) vs ds)(k:∀H',Same H H'->XE c H'):spX false F vs H Q (wE XE) :=
 ⟨ds,fun _=>False,fun _ z=>z.elim,r,by rw[e];exact fun H' s=>⟨c,rfl,rfl,k H' s⟩⟩
theorem callX{F:List D->Res D}{vs:List V}{ds:List D}{d:D}{H:Hp}{Q:VK}{E:XK}(e:F ds=.ok d)(r:Reps H (fun _=>False) vs ds)(k:∀v H',Same H H'->Rep H' (fun _=>False) v d->Q v H'):spX false F vs H Q E :=
 ⟨ds,fun _=>False,fun _ z=>z.elim,r,by rw[e];exact fun v H' s c=>k v H' s c⟩
section
variable {K:KFr}{F1 F2:List D->Res D}{nm:Int->Str}{XE:Str->Hp->Prop}{r p:Int}{o:Res D}{H0:Hp}{b:Addr}{z:V}
theorem zL3{sg s s1:Str}{v0 v1 v3 v5 v6 v7:Option V}{H:Hp}{E:Ends}(e:F2 [.str s,.str sg,.int r]=.ok (.str s1))(k:∀H',Same H H'->E.nx [v0,v1,some (.int r),v3,some (.str s1),v5,v6,v7] H') :
  tBs F2 XE sg E [v0,v1,some (.int r),v3,some (.str s),v5,v6,v7] H:=by
 refine⟨_,rfl,_,rfl,?_⟩
 refine callX (ds:=[.str s,.str sg,.int r]) e (.cons (.str _) (.cons (.str _) (.cons (.int _) .nil))) fun v H' sm rv => ?_
 cases rv
 exact k H' sm
theorem zM2{sg s:Str}{c:Str}{v0 v1 v3 v5 v6 v7:Option V}{H:Hp}{E:Ends}(e:F2 [.str s,.str sg,.int r]=.ex c)(k:∀H',Same H H'->XE c H') :
  tBs F2 XE sg E [v0,v1,some (.int r),v3,some (.str s),v5,v6,v7] H:=by
 refine⟨_,rfl,_,rfl,?_⟩
 exact callE (ds:=[.str s,.str sg,.int r]) e (.cons (.str _) (.cons (.str _) (.cons (.int _) .nil))) k
theorem xI1{m:Nat}{s:Str}{fs:Fs}{v5 v6 v7:Option V}{H:Hp}{E:Ends}(S:Stt H0 H b fs)(R:Run F1 F2 nm r p o m none s fs)(ke:∀c,o=.ex c->∀H',Same H0 H'->XE c H')
  (kk:∀m' s fs v5 H,m'<=m->Run F1 F2 nm r p o m' none s fs->Txt.startswith s "-" = true->Stt H0 H b fs->E.nx [some z,some (.int p),some (.int r),some (.ref b),some (.str s),v5,v6,v7] H) :
  tDn K F1 XE E [some z,some (.int p),some (.int r),some (.ref b),some (.str s),v5,v6,v7] H:=by
 refine⟨fun m' σ H=>m'<=m/\∃s fs v5,σ=[some z,some (.int p),some (.int r),some (.ref b),some (.str s),v5,v6,v7]/\Stt H0 H b fs/\Run F1 F2 nm r p o m' none s fs,⟨m,Ai _,s,fs,v5,rfl,S,R⟩,?_⟩
 clear S R
 rintro m' σ H ⟨hm,s,fs,v5,rfl,S,R⟩
 cases m' with
 | zero=>exact R.elim
 | succ m' =>
  obtain⟨⟨hs,hf⟩,R⟩:=R
  refine⟨_,rfl,rfl,s,"-",rfl,rfl,_,rfl,?_⟩
  rcases R with ⟨h,R⟩ | ⟨h,⟨n,e1,R⟩ | ⟨c,e1,R⟩⟩
  ·rw[h]
   simp only[BS,AB,if_false]
   exact kk (m'+1) s fs v5 H hm ⟨⟨hs,hf⟩,.inl ⟨h,R⟩⟩ h S
  rotate_left
  ·rw[h]
   simp only[Bv,if_true]
   refine⟨fun _ _=>False,fun σ' H' z=>z.elim,?_⟩
   obtain⟨vs,las,sm,fb,hb,fr⟩:=S
   refine⟨_,rfl,rfl,s,"(",rfl,rfl,by decide,hs,fun q hq => ?_⟩
   have s1:=Same.new (H:=H) (o:=.tup (ptV s "(")) hq
   refine⟨_,rfl,.inl ⟨rfl,_,SqL.of (s1 _ _ hb)⟩,?_⟩
   refine⟨_,rfl,q,_,0,_,rfl,rfl,.inl (.inl zN),rfl,_,rfl,?_⟩
   exact callE (ds:=[.str (Txt.partition s "(").1,.int r]) e1 (.cons (.str _) (.cons (.int _) .nil)) fun H2 s2=>ke c R H2 ((sm.trans s1).trans s2)
  ·rw[h]
   simp only[Bv,if_true]
   refine⟨fun σ' H'=>∃v5,σ'=[some z,some (.int p),some (.int r),some (.ref b),some (.str (Txt.partition s "(").2.2),v5,v6,v7]/\Stt H0 H' b ((n,[])::fs),fun σ' H' ⟨v5,e,S'⟩=>⟨m',by rfl',by rfl',_,_,v5,e,S',R⟩,?_⟩
   obtain⟨vs,las,sm,fb,hb,fr⟩:=S
   refine⟨_,rfl,rfl,s,"(",rfl,rfl,by decide,hs,fun q hq => ?_⟩
   have s1:=Same.new (H:=H) (o:=.tup (ptV s "(")) hq
   refine⟨_,rfl,.inl ⟨rfl,_,SqL.of (s1 _ _ hb)⟩,?_⟩
   refine⟨_,rfl,q,_,0,_,rfl,rfl,.inl (.inl zN),rfl,_,rfl,?_⟩
   refine callX (ds:=[.str (Txt.partition s "(").1,.int r]) e1 (.cons (.str _) (.cons (.int _) .nil)) fun v H2 s2 rv => ?_
   cases rv
   refine⟨Bb _,fun la hla=>⟨by show 2<=sizeLine;decide,fun q2 hq2 => ?_⟩⟩
   have s3:=Same.new (o:=.lst []) hla
   have s4:=Same.new (o:=.tup [.int n,.ref la]) hq2
   have s12:=s1.trans s2
   have s14:=(s12.trans s3).trans s4
   have hb4:=s14 _ _ hb
   refine⟨b,vs,_,rfl,rfl,hb4,by rw[fr.len];exact smallB (by rfl'),?_⟩
   have qb:q≠b:=fun y=>by rw[y,hb] at hq;cases hq
   have hq5:(upd (upd (upd H2 la (.lst [])) q2 (.tup [.int n,.ref la])) b (.lst (vs ++ [.ref q2]))) q=some (.tup (ptV s "(")):=by
    rw[zO qb]
    exact ((s2.trans s3).trans s4) _ _ zN
   refine⟨_,rfl,q,_,2,_,rfl,rfl,.inl (.inl hq5),rfl,_,rfl,vs ++ [.ref q2],la::las,zR2 (sm.trans s14) fb,fb,zN,?_⟩
   have lab:la≠b:=fun y=>by rw[y,s12 _ _ hb] at hla;cases hla
   have q2b:q2≠b:=fun y=>by rw[y,(s12.trans s3) _ _ hb] at hq2;cases hq2
   refine .cons (fr.keep ((cE s14).trans (yX8 hb4)) fun l hl ws e => ?_) ?_ (ws:=[]) ?_ (zZ4 (sm.trans s12) hla) lab (fun y => ?_) .nil
   ·rw[zO (fr.mem l hl).1]
    exact s14 _ _ e
   ·rw[zO q2b]
    exact zN
   ·rw[zO lab]
    exact s4 _ _ zN
   ·obtain⟨_,ws,e⟩:=fr.mem la y
    rw[s12 _ _ e] at hla
    cases hla
theorem xP6{m:Nat}{s:Str}{fs:Fs}{d:D}{v:V}{v5 v7:Option V}{H:Hp}{E:Ends}(S:Stt H0 H b fs)(T:TV H0 H v d)(R:Run F1 F2 nm r p o m (some d) s fs)(ke:∀c,o=.ex c->∀H',Same H0 H'->XE c H')
  (kk:∀m' s fs d v v7 H,m'<=m->Run F1 F2 nm r p o m' (some d) s fs->(∀n ds fs',fs=(n,ds)::fs'->¬(ds.length:Int)=p-1)->TV H0 H v d->Stt H0 H b fs->E.nx [some z,some (.int p),some (.int r),some (.ref b),some (.str s),v5,some v,v7] H) :
  tUpW K F2 XE E [some z,some (.int p),some (.int r),some (.ref b),some (.str s),v5,some v,v7] H:=by
 refine⟨fun m' σ H=>m'<=m/\∃s fs d v v7,σ=[some z,some (.int p),some (.int r),some (.ref b),some (.str s),v5,some v,v7]/\Stt H0 H b fs/\TV H0 H v d/\Run F1 F2 nm r p o m' (some d) s fs,⟨m,Ai _,s,fs,d,v,v7,rfl,S,T,R⟩,?_⟩
 clear S T R
 rintro m' σ H ⟨hm,s,fs,d,v,v7,rfl,S,T,R⟩
 cases m' with
 | zero=>exact R.elim
 | succ m' =>
  obtain⟨vs,las,sm,fb,hb,fr⟩:=id S
  refine⟨_,rfl,b,vs,rfl,.inl (SqL.of hb),_,0,rfl,rfl,_,rfl,?_⟩
  cases fr with
  | nil =>
   rw[An (show ¬(0:Int)<(([]:List V).length:Int) from fun y=>by cases y)]
   simp only[AB,if_false]
   exact kk (m'+1) s [] d v v7 H hm R (fun _ _ _ y=>nomatch y) T S
  | @cons n ds fs vs las q la ws fr hq hl n0 nb nl tv =>
   rw[Ag (show (0:Int)<((vs ++ [V.ref q]).length:Int) by rw[Aq,Bf];rfl')]
   simp only[if_true]
   refine⟨_,rfl,1,rfl,b,_,-1,.ref q,rfl,rfl,SqL.of hb,zS1 _ _,q,_,1,.ref la,rfl,rfl,.inl (.inl hq),rfl,la,ws,rfl,.inl (SqL.of hl),_,rfl,_,1,rfl,rfl,.int _,.int _,.int _,.int _,rfl,rfl,_,evI _ _,?_⟩
   obtain⟨few,R⟩:=R
   rw[tv.len]
   rcases R with ⟨c,⟨s1,e,R⟩ | ⟨x,e,R⟩⟩ | ⟨c,R⟩
   rotate_left
   ·rw[Ag c]
    simp only[if_true]
    exact⟨fun _ _=>False,fun σ' H' z=>z.elim,zM2 e fun H1 s1'=>ke x R H1 (sm.trans s1')⟩
   rotate_left
   ·rw[Ag c]
    simp only[if_true]
    refine⟨fun σ' H'=>∃v v7,σ'=[some z,some (.int p),some (.int r),some (.ref b),some (.str s1),v5,some v,v7]/\Stt H0 H' b fs/\TV H0 H' v (.tuple [.int n,.tuple (ds ++ [d])]),fun σ' H' ⟨v,v7,e,S',T'⟩=>⟨m',by rfl',by rfl',s1,fs,_,v,v7,e,S',T',R⟩,?_⟩
    refine zL3 e fun H1 s1' => ?_
    have hb1:=s1' _ _ hb
    refine⟨_,rfl,.inl ⟨rfl,_,SqL.of hb1⟩,b,_,.ref q,rfl,rfl,hb1,by rw[Aq,BK (by simp)];simp,?_⟩
    rw[List.dropLast_concat]
    have lab:la≠b:=nb
    have qb:q≠b:=fun y=>by rw[y,hb] at hq;cases hq
    have hq2:(upd H1 b (.lst vs)) q=some (.tup [.int n,.ref la]):=by rw[zO qb];exact s1' _ _ hq
    have hl2:(upd H1 b (.lst vs)) la=some (.lst ws):=by rw[zO lab];exact s1' _ _ hl
    have hb2:(upd H1 b (.lst vs)) b=some (.lst vs):=zN
    have sm2:Same H0 (upd H1 b (.lst vs)):=zR2 (sm.trans s1') fb
    have tk2:TK H (upd H1 b (.lst vs)):=(cE s1').trans (yX8 hb1)
    have ls2:∀l∈las,∀us,H l=some (.lst us)->(upd H1 b (.lst vs)) l=some (.lst us):=fun l hl us e=>by
     rw[zO (fr.mem l hl).1]
     exact s1' _ _ e
    generalize upd H1 b (.lst vs)=H2 at hq2 hl2 hb2 sm2 tk2 ls2 ⊢
    refine⟨_,rfl,q,_,0,_,rfl,rfl,.inl (.inl hq2),rfl,_,rfl,q,_,1,_,rfl,rfl,.inl (.inl hq2),rfl,_,rfl,by show 1<=sizeLine;decide,fun l1 h1 => ?_⟩
    have s3:=Same.new (o:=.lst [v]) h1
    refine⟨la,l1,ws,[v],rfl,rfl,.inl (s3 _ _ hl2),.inl zN,by rw[tv.len];exact Bw (small1000 (by show ds.length+1<=1000;rfl')),fun l2 h2 => ?_⟩
    have s4:=Same.new (o:=.lst (ws ++ [v])) h2
    refine⟨l2,_,rfl,.inl ⟨SqL.of zN,fun t3 h3=>⟨by show 2<=sizeLine;decide,fun t4 h4 => ?_⟩⟩⟩
    have s5:=Same.new (o:=.tup (ws ++ [v])) h3
    have s6:=Same.new (o:=.tup [.int n,.ref t3]) h4
    have s34:=s3.trans s4
    have s35:=s34.trans s5
    have s36:=s35.trans s6
    have tk6:=tk2.trans (cE s36)
    refine⟨.ref t4,_,rfl,⟨vs,las,sm2.trans s36,fb,s36 _ _ hb2,fr.keep tk6 fun l hl us e=>s36 _ _ (ls2 l hl us e)⟩,?_⟩
    exact .tup zN (zZ4 (sm2.trans s35) h4) (.cons (.int n) (.cons (.tup (s6 _ _ zN) (zZ4 (sm2.trans s34) h3) ((tv.keep tk6).app (T.keep tk6))) .nil))
   ·rw[An c]
    simp only[AB,if_false]
    exact kk (m'+1) s ((n,ds)::fs) d v v7 H hm (show _/\_ from ⟨few,.inr ⟨c,R⟩⟩) (fun n' ds' fs' y=>by cases y;exact c) T S
theorem xN4{m:Nat}{s:Str}{fs:Fs}{d:D}{v:V}{v5 v7:Option V}{H:Hp}{E:Ends}(S:Stt H0 H b fs)(T:TV H0 H v d)(R:Run F1 F2 nm r p o m (some d) s fs)(C:∀n ds fs',fs=(n,ds)::fs'->¬(ds.length:Int)=p-1)(ke:∀c,o=.ex c->∀H',Same H0 H'->XE c H')
  (kr:∀t,o=.ok t->∀v H,Same H0 H->TV H0 H v t->E.rt v H) (kn:∀m' s fs H,m'<m->Run F1 F2 nm r p o m' none s fs->Stt H0 H b fs->E.nx [some z,some (.int p),some (.int r),some (.ref b),some (.str s),v5,some v,v7] H) :
  tEn K F2 nm XE E [some z,some (.int p),some (.int r),some (.ref b),some (.str s),v5,some v,v7] H:=by
 cases m with
 | zero=>exact R.elim
 | succ m =>
  obtain⟨vs,las,sm,fb,hb,fr⟩:=id S
  refine⟨_,rfl,b,vs,rfl,.inl (SqL.of hb),.int _,.int 0,.int _,.int _,rfl,rfl,_,evI _ _,?_⟩
  cases fr with
  | nil =>
   obtain⟨sk,R⟩:=R
   rw[Ag (show (([]:List V).length:Int)=0 from rfl)]
   simp only[if_true]
   have sh:∀z:Str,PyData.strOk z=true->SeqAt.shaped (.str z)=true:=fun z hz=>by
    unfold SeqAt.shaped
    rw[PyData.canLay0,PyData.depth,hz]
    rfl
   rcases R with ⟨rfl,ro⟩ | ⟨ns,hr,ro⟩
   ·refine⟨_,rfl,.str "",.str "",.str _,.str _,by decide +kernel,by decide +kernel,false,rfl,?_⟩
    simp only[AB,if_false]
    exact⟨_,rfl,kr _ ro v H sm T⟩
   ·refine⟨_,rfl,.str s,.str "",.str _,.str _,sh s sk,by decide +kernel,true,?_,?_⟩
    ·rw[PyData.eqv]
     simp[ns]
    ·simp only[if_true]
     exact⟨_,rfl,_,rfl,hr,ke _ ro H sm⟩
  | @cons n ds fs vs las q la ws fr hq hl n0 nb nl tv =>
   rw[An (show ¬((vs ++ [V.ref q]).length:Int)=0 by rw[Aq,Bf];rfl')]
   simp only[AB,if_false]
   obtain⟨few,R⟩:=R
   rcases R with ⟨c,R⟩ | ⟨c,⟨s1,e,R⟩ | ⟨x,e,R⟩⟩
   ·exact absurd c (C n ds fs rfl)
   rotate_left
   ·exact zM2 e fun H1 s1'=>ke x R H1 (sm.trans s1')
   ·refine zL3 e fun H1 s1' => ?_
    have hb1:=s1' _ _ hb
    have hq1:=s1' _ _ hq
    have hl1:=s1' _ _ hl
    refine⟨_,rfl,1,rfl,b,_,-1,.ref q,rfl,rfl,SqL.of hb1,zS1 _ _,q,_,1,.ref la,rfl,rfl,.inl (.inl hq1),rfl,.inl ⟨rfl,_,SqL.of hl1⟩,_,rfl,la,ws,v,rfl,rfl,hl1,by rw[tv.len];exact small1000 (by rfl'),?_⟩
    have tk:TK H (upd H1 la (.lst (ws ++ [v]))):=(cE s1').trans (yX8 hl1)
    refine kn m s1 _ _ (CK _) R ⟨vs ++ [.ref q],la::las,zR2 (sm.trans s1') n0,fb,by rw[zO (Bd nb)];exact hb1,.cons (fr.keep tk fun l hl' us e => ?_) (tk _ _ hq) zN n0 nb nl ((tv.keep tk).app (T.keep tk))⟩
    rw[zO (fun y=>by subst y;exact nl hl')]
    exact s1' _ _ e
theorem xM8{m:Nat}{s:Str}{H:Hp}{E:Ends}(R:Run F1 F2 nm r p o m none s [])(ke:∀c,o=.ex c->∀H',Same H H'->XE c H')(kr:∀t,o=.ok t->∀v H',Same H H'->TV H H' v t->E.rt v H') :
  tRt K F1 F2 nm XE E [some (.str s),some (.int p),some (.int r),none,none,none,none,none] H:=by
 refine⟨Bb _,fun b hb=>⟨_,rfl,?_⟩⟩
 refine⟨fun m σ H'=>∃s' fs v5 v6 v7,σ=[some (.str s),some (.int p),some (.int r),some (.ref b),some (.str s'),v5,v6,v7]/\Stt H H' b fs/\Run F1 F2 nm r p o m none s' fs,⟨m,s,[],none,none,none,rfl,⟨[],[],Same.new hb,hb,zN,.nil⟩,R⟩,?_⟩
 clear R
 rintro m σ H' ⟨s',fs,v5,v6,v7,rfl,S,R⟩
 refine⟨true,rfl,?_⟩
 simp only[if_true]
 refine⟨fun σ' H''=>∃m',m'<m/\∃s' fs v5 v6 v7,σ'=[some (.str s),some (.int p),some (.int r),some (.ref b),some (.str s'),v5,v6,v7]/\Stt H H'' b fs/\Run F1 F2 nm r p o m' none s' fs,fun σ' H'' h=>h,?_⟩
 refine xI1 S R ke fun m1 s1 fs1 v5 H1 hm1 R1 c S1 => ?_
 cases m1 with
 | zero=>exact R1.elim
 | succ m1 =>
  rcases R1.2 with ⟨_,⟨s2,e,R2⟩ | ⟨x,e,R2⟩⟩ | ⟨c',_⟩
  rotate_left
  ·obtain⟨_,_,sm1,_⟩:=S1
   exact zM2 e fun H2 sm2=>ke x R2 H2 (sm1.trans sm2)
  rotate_left
  ·refine zL3 e fun H2 sm2 => ?_
   show tSeq (tUpW K F2 XE) (tEn K F2 nm XE) _ [some (.str s),some (.int p),some (.int r),some (.ref b),some (.str s2),v5,some .non,v7] H2
   refine xP6 (S1.same sm2) .non R2 ke fun m3 s3 fs3 d v v7 H3 hm3 R3 C T S3 => ?_
   refine xN4 S3 T R3 C ke (fun t et v H'' sm tv=>kr t et v H'' sm tv) fun m4 s4 fs4 H4 hm4 R4 S4=>⟨m4,by rfl',s4,fs4,_,_,_,rfl,S4,R4⟩
  ·rw[c] at c'
   cases c'
end
section
variable {P:Program}{w:World}{K:KFr}{mg:Str->Option Value}{base:Heap}
theorem wY1{x:Str}{st:Stmt}{f:Addr}{fd:FuncData}{N ps:List Str}{k:Nat}(F1 F2:List D->Res D)(nm:Int->Str)(F:Fun K x x st f fd)(S:zJ N ps (zS st))(hp:ps.length=3)(hN:N.length=8)
  (hbody:∀(cdv:Value) (A:Around) (outer:List Env) (s:Shared) (H:Hp) (E:XK),Room k (A.deeper (envOfC x (zS st) s.heap.objs.size f cdv))->PSs (bodyX P w K mg base N x (zS st) f cdv A outer s H E []).X (defBody st) (tRt K F1 F2 nm (bodyX P w K mg base N x (zS st) f cdv A outer s H E []).XE)) :
  FnOk P w K mg base (CXV P w) (k+1) f fd ps (spX false (rtF F1 F2 nm)):=by
 have len:∀(vs:List V) (H:Hp) (Q:VK) (E:XK),spX false (rtF F1 F2 nm) vs H Q E->vs.length=ps.length:=fun vs H Q E h=>by
  obtain⟨ds,O,oh,r,k⟩:=h
  obtain⟨z,p,r',t,m,rfl,_⟩:=xZ8 k
  rw[r.length,hp]
  rfl
 obtain⟨oc,od,kV,doc,pm,an,cdv,ct,osl,rfl,lk,hcd⟩:=F.ex
 refine yM3 lk hcd S len fun A outer s H vs Q E hr h => ?_
 obtain⟨ds,O,oh,r,k⟩:=h
 obtain⟨z,p,r',o,m,rfl,R,k⟩:=xZ8 k
 refine⟨_,hbody cdv A outer s H E hr,?_⟩
 cases r with
 | cons r1 r =>
  cases r with
  | cons r2 r =>
   cases r with
   | cons r3 r =>
    cases r
    cases r1
    cases r2
    cases r3
    have st:start N [V.str z,.int p,.int r']=[some (.str z),some (.int p),some (.int r'),none,none,none,none,none]:=by
     unfold start
     rw[hN]
     rfl
    rw[st]
    refine xM8 R (fun c eo H' s => ?_) fun t eo v H' s c => ?_
    ·subst eo
     exact k H' s
    ·subst eo
     exact k v H' s (c.rep oh)
end
end X
end L2.L3
namespace PySem
theorem yU9{K:KFr}{M:Model}{A:Around}{E:Value->Shared->Prop}{Q:Bool->Shared->Prop}{s:Shared}{a c x:Addr}{o:Obj}(X:K.In s.heap)(he:s.heap.get? a=some o)(hc:o.cls=.ref c)(hk:PySem.W.kitCls K (.ref c) (.ref x)=some false)
  (hb:PySem.W.subIn K (.ref x) (.type "BaseException")=some true) (hq:Q false s):wpAny M A (excMatches (.ref a) (.ref x)) Q E s:=by
 obtain⟨hh,g,d,t,os⟩:=s
 obtain⟨L1,L2,L3⟩:=PySem.W.kit_cls (M:=M) X hk
 have L4:=PySem.W.looks_subIn (M:=M) X hb
 have f:=tc_notTuple
 unfold excMatches isExcClass
 repeat (first | (with_reducible refine wpAny_loadPart_at he ?_;rw[hc]) | (with_reducible refine L1.at ?_) | (with_reducible refine L2.at ?_) | (with_reducible refine L3.at ?_) | (with_reducible refine L4.at ?_) | wp_step)
 exact hq
end PySem
namespace L2.L3
open PySem PySem.Spec PyProof.Rows
variable [CN]
def sTry2(c1 c2:List Str)(mb m1 m2:Ev->Res Out):Ev->Res Out:=fun ρ=>match mb ρ with
 | .ok o=>.ok o
 | .no=>.no
 | .ex c=>if c1.contains c then noEx (m1 (List.replicate ρ.length none)) else if c2.contains c then noEx (m2 (List.replicate ρ.length none)) else .no
omit [CN] in
theorem xV6{c1 c2:List Str}{mb m1 m2:Ev->Res Out}{ρ:Ev}{o:Out}(h:mb ρ=.ok o):sTry2 c1 c2 mb m1 m2 ρ=.ok o:=by unfold sTry2;rw[h]
omit [CN] in
theorem yB6{c1 c2:List Str}{mb m1 m2:Ev->Res Out}{ρ:Ev}{c:Str}(h:mb ρ=.ex c)(hc:c1.contains c=true):sTry2 c1 c2 mb m1 m2 ρ=noEx (m1 (List.replicate ρ.length none)):=by
 unfold sTry2
 rw[h]
 exact Am hc
omit [CN] in
theorem yI9{c1 c2:List Str}{mb m1 m2:Ev->Res Out}{ρ:Ev}{c:Str}(h:mb ρ=.ex c)(hn:c1.contains c=false)(hc:c2.contains c=true):sTry2 c1 c2 mb m1 m2 ρ=noEx (m2 (List.replicate ρ.length none)):=by
 unfold sTry2
 rw[h]
 simp only[hn,AB,if_false]
 exact Am hc
theorem xN6{C:Ct}{fr:Bool}{x y:Str}{np hpos np2 hpos2 pos:Pos}{body suite suite2:List Stmt}{b₀ b₂:Stmt}{mb m1 m2:Ev->Res Out}(c1 c2:List Str)
  (hbody:∀(pn:List (Addr×Obj)) (xe:Value->Shared->Prop) (XE:Str->Hp->Prop),Br ⟨inTry C.X pn xe,XE,C.om,C.ln⟩->RSs ⟨inTry C.X pn xe,XE,C.om,C.ln⟩ fr body mb)
  (hsuite:∀e:Value,RSs ⟨inSuite C.X e,fun _ _=>False,C.om,C.ln⟩ fr (b₀::suite) m1) (hsuite2:∀e:Value,RSs ⟨inSuite C.X e,fun _ _=>False,C.om,C.ln⟩ fr (b₂::suite2) m2)
  (hcx:∀c,c1.contains c=true->PySem.W.kitCls C.X.K (.ref (CN.ad c)) (.ref (CN.ad x))=some true) (hcb:PySem.W.subIn C.X.K (.ref (CN.ad x)) (.type "BaseException")=some true) (hm:C.X.mg x=some (.ref (CN.ad x)))
  (hcy:∀c,c2.contains c=true->PySem.W.kitCls C.X.K (.ref (CN.ad c)) (.ref (CN.ad y))=some true) (hcb2:PySem.W.subIn C.X.K (.ref (CN.ad y)) (.type "BaseException")=some true) (hm2:C.X.mg y=some (.ref (CN.ad y)))
  (hno:∀c,c2.contains c=true->PySem.W.kitCls C.X.K (.ref (CN.ad c)) (.ref (CN.ad x))=some false)
  (hst:autoParam (C.X.stack=C.X.env::C.X.outer) Dz) (hfr:autoParam (C.X.env.frame=some C.X.env.locals) Dz) (hg:autoParam (Gl C.X x) Dz) (hdb:autoParam ((x == ("__debug__":Str))=false) Dy) (hg2:autoParam (Gl C.X y) Dz) (hdb2:autoParam ((y == ("__debug__":Str))=false) Dy) :
  RS C fr (.Try body [.ExceptHandler (some (.Name x np)) none (b₀::suite) hpos,.ExceptHandler (some (.Name y np2)) none (b₂::suite2) hpos2] [] [] pos) (sTry2 c1 c2 mb m1 m2):=by
 refine⟨fun D σ H=>∀DA s,Inv C.X DA σ H s->wpAny (model C.X.prog C.X.w) C.X.A (exec (.Try body [.ExceptHandler (some (.Name x np)) none (b₀::suite) hpos,.ExceptHandler (some (.Name y np2)) none (b₂::suite2) hpos2] [] [] pos) C.X.env) (SP C.X DA D) C.X.xe s,fun DA s σ H D I h=>h DA s I,fun Oc Ob σ H ρ E R hp DA s I => ?_⟩
 refine wpAny_Try_except ?_
 generalize hxe:(fun (e:Value) (s₁:Shared)=>wpAny (model C.X.prog C.X.w) C.X.A (noteFrame e C.X.env) (fun _ s₂=>wpAny (model C.X.prog C.X.w) C.X.A (setFlight e none) (fun _ s₃=>wpAny (model C.X.prog C.X.w) C.X.A (handleBy e C.X.env [.ExceptHandler (some (.Name x np)) none (b₀::suite) hpos,.ExceptHandler (some (.Name y np2)) none (b₂::suite2) hpos2]) (SP C.X DA E) C.X.xe s₃) C.X.xe s₂) C.X.xe s₁)=xe'
 have hln:σ.length=ρ.length:=R.len
 have br:Br ⟨inTry C.X (C.X.pn++DA) xe',fun c H'=>Frm Ob H H'/\((c1.contains c=true/\SPost C fr Oc (fun _=>False) H' E (noEx (m1 (List.replicate ρ.length none))))\/(c2.contains c=true/\SPost C fr Oc (fun _=>False) H' E (noEx (m2 (List.replicate ρ.length none))))),C.om,C.ln⟩:=by
  intro c H' e s' xx ⟨f1,hcs⟩
  subst hxe
  refine aD (X:=inTry C.X (C.X.pn++DA) _) xx hst hfr fun pins' σ' s1 H1 a B a0 s3 J1 J un ea n1 n2 fl tr => ?_
  subst ea
  have K3:Inv C.X DA σ' H' s3:=Inv.ofTry J
  have Km:=Inv.toSuite K3 (.ref a)
  have hOc:∀b,Oc b->H' b≠none:=fun b z=>by
   obtain⟨o,q⟩:=jG (R.oh b (.inl z))
   exact xM (f1 b o q fun y=>R.ap b y z)
  have R5:Rel Oc (fun _=>False) C.om C.ln σ' H' (List.replicate ρ.length none):=by
   have no:∀(i:Nat) (d:D),(List.replicate ρ.length (none:Option D))[i]?=some (some d)->False:=fun i d e=>by
    rw[BX] at e
    split at e <;> cases e
   have hls:σ'.length=ρ.length:=by rw[K3.len,<-I.len,hln]
   exact⟨by rw[BO,hls],fun i d e h1 h2=>(no i d e).elim,fun i d e h1=>(no i d e).elim,fun i d e h1 h2=>(no i d e).elim,fun i k di dk b ei ek hi hk' _ _=>(no i di ei).elim,fun b z=>hOc b (z.elim id fun z=>z.elim),fun b z=>z.elim⟩
  obtain⟨oe,_,_,_,_,he,⟨hcl,_⟩,_⟩:=id tr
  have meet:∀{bb:Stmt}{ss:List Stmt}{mm:Ev->Res Out}{hp':Pos},RSs ⟨inSuite C.X (.ref a),fun _ _=>False,C.om,C.ln⟩ fr (bb::ss) mm->SPost C fr Oc (fun _=>False) H' E (noEx (mm (List.replicate ρ.length none))) ->
    codeAny (model C.X.prog C.X.w) (C.X.A.mark (some (.ref a))) (.handlers (.ref a) [.ExceptHandler none none (bb::ss) hp'] C.X.env) (fun r s₂=>match r with
     | .ok f=>SP C.X DA E f s₂
     | .error x=>cameBackBy (model C.X.prog C.X.w) C.X.A C.X.env C.X.xe x s₂) s3:=fun {bb ss mm hp'} hs hsp=>by
   refine codeAny_handlers_suite ?_
   refine lands_againW (base:=B) (l:=C.X.stack) (cls:=.ref (CN.ad c)) (a0:=a0) ⟨fl.stays,fl.newB,fl.frm,tr⟩ fun h4 fly ups => ?_
   obtain⟨I4,_,_⟩:=zW6 J1 J un fl fly.1 fly.2.2.1 ups
   have K4:Inv C.X DA σ' H' { s3 with heap:=h4 }:=Inv.ofTry I4
   obtain⟨ts,ps,qs⟩:=hs
   refine wpAny_mono (ps DA _ _ _ E (Inv.toSuite K4 (.ref a)) (qs Oc (fun _=>False) _ _ _ _ R5 ?_)) (fun f s6 h6 => ?_) fun _ _ z=>z.elim
   ·exact Res.zU (zH7 hsp) (fun o _ k=>by cases o <;> exact k) fun _ z=>z.elim
   ·cases f with
    | next=>obtain⟨σ6,H6,I6,q6⟩:=h6;exact⟨_,_,Inv.ofSuite K3.ok I6,q6⟩
    | brk=>obtain⟨σ6,H6,I6,q6⟩:=h6;exact⟨_,_,Inv.ofSuite K3.ok I6,q6⟩
    | cont=>obtain⟨σ6,H6,I6,q6⟩:=h6;exact⟨_,_,Inv.ofSuite K3.ok I6,q6⟩
    | ret u=>obtain⟨v,σ6,H6,I6,r6,q6⟩:=h6;exact⟨v,_,_,Inv.ofSuite K3.ok I6,r6,q6⟩
  refine wpAny_handleBy_cons (codeAny_handlers_test ?_) (by intro q;cases q)
  refine vI (X:=inSuite C.X (.ref a)) Km hg hm ?_ hdb
  rcases hcs with ⟨hc,hsp⟩ | ⟨hc,hsp⟩
  ·refine fD K3.kIn he hcl (hcx c hc) hcb ?_
   exact meet (hsuite (.ref a)) hsp
  ·refine yU9 K3.kIn he hcl (hno c hc) hcb ?_
   refine wpAny_handleBy_cons (codeAny_handlers_test ?_) (by intro q;cases q)
   refine vI (X:=inSuite C.X (.ref a)) Km hg2 hm2 ?_ hdb2
   refine fD K3.kIn he hcl (hcy c hc) hcb2 ?_
   exact meet (hsuite2 (.ref a)) hsp
 obtain⟨tb,pb,qb⟩:=hbody _ _ _ br
 refine wpAny_mono (pb [] s σ H E (Inv.toTry I _) (qb Oc Ob σ H ρ E R ?_)) (fun f s₁ hs => ?_) fun e s₁ z=>z
 ·unfold sTry2 at hp
  cases em:mb ρ with
  | ok o=>rw[em] at hp;exact hp
  | no=>rw[em] at hp;exact hp
  | ex c =>
   rw[em] at hp
   intro H' f1
   by_cases hc:c1.contains c=true
   ·simp only[hc,if_true] at hp
    exact⟨f1,.inl ⟨hc,SPost.step f1 (fun b z=>z.elim) hp⟩⟩
   ·simp only[hc] at hp
    by_cases hd:c2.contains c=true
    ·simp only[hd,if_true] at hp
     exact⟨f1,.inr ⟨hd,SPost.step f1 (fun b z=>z.elim) hp⟩⟩
    ·simp only[hd] at hp
     exact hp.elim
 ·cases f with
  | next=>exact wpAny_execs_nil (SP.ofTry hs)
  | brk=>exact SP.ofTry (f:=.brk) hs
  | cont=>exact SP.ofTry (f:=.cont) hs
  | ret u=>exact SP.ofTry (f:=.ret u) hs
def rCntS:V->List V->Hp->VK->Prop:=fun x vs H Q=>∃z y,x=.str z/\vs=[.str y]/\Q (.int (Txt.count z y)) H
theorem yA3{X:Cx}:MtR X "str.count" rCntS:=by
 rintro DA s σ H x vs v us Q I rx rv ⟨z,y,rfl,rfl,q⟩
 obtain⟨t,rfl⟩:=rx
 obtain⟨u,rfl,t2,rfl⟩:=vals1 rv
 exact SC.count ⟨.int _,H,I.tok _,⟨_,rfl⟩,q⟩
def cntD(z:Str)(y:D):Option D:=(strD y).map fun u=>.int (Txt.count z u)
theorem yG7:Pr1S rCntS .cl cntD:=by
 intro Oc Ob H z y dy d Q oh vy e k
 obtain⟨u,e1,rfl⟩:=Av.mp e
 obtain rfl:=xF e1
 obtain rfl:=vy.str
 exact⟨z,u,rfl,rfl,k _ H (Same.refl H) (Rep.int _)⟩
end L2.L3
namespace L2.L3
open PySem
theorem xA1[CN]{K:KFr}{cls:List Str}{u:Value}(h:∀c∈cls,PySem.W.kitCls K (.ref (CN.ad c)) u=some false):∀c,cls.contains c=true->PySem.W.kitCls K (.ref (CN.ad c)) u=some false :=
 fun c hc=>h c (Bi.mp hc)
end L2.L3
namespace MR
def rg(n:Nat):List Int:=(List.range n).map fun (i:Nat)=>(i:Int)
theorem yA7(n:Nat):(rg n).length=n:=by unfold rg;simp
theorem xD6{n:Nat}{a:Int}:a∈rg n↔0<=a/\a<n:=by
 unfold rg
 simp only[AJ,AA]
 constructor
 ·rintro ⟨i,hi,rfl⟩;rfl'
 ·intro h;exact⟨a.toNat,by rfl',by rfl'⟩
theorem xR3(n:Nat):(rg n).Pairwise (· < ·):=by
 unfold rg
 rw[List.pairwise_map]
 exact List.Pairwise.imp (fun h=>by rfl') (List.pairwise_lt_range (n:=n))
theorem xS4(n:Nat):(rg n).Nodup:=(xR3 n).imp fun h=>by rfl'
theorem xB5(n:Nat):(rg n).Pairwise (· <= ·):=(xR3 n).imp fun h=>by rfl'
theorem yT9{a b:List Int}(p:a.Perm b)(ha:a.Pairwise (· <= ·))(hb:b.Pairwise (· <= ·)):a=b :=
 p.eq_of_pairwise (fun x y _ _ h1 h2=>by rfl') ha hb
theorem yM5{xs:List Int}(h:xs.Nodup){i j:Nat}(hi:i<xs.length)(hj:j<xs.length)(e:xs.getD i 0=xs.getD j 0):i=j:=by
 rw[AO,Ah hi,AO,Ah hj] at e
 have e:xs[i]=xs[j]:=e
 rcases Nat.lt_trichotomy i j with q | q | q
 ·exact absurd e (CL.mp h i j hi hj q)
 ·exact q
 ·exact absurd e.symm (CL.mp h j i hj hi q)
theorem getD_mem{xs:List Int}{i:Nat}(h:i<xs.length):xs.getD i 0∈xs:=by
 rw[List.getD,Ah h]
 exact Dg h
theorem yT8{n:Nat}{xs:List Int}(p:xs.Perm (rg n)):Ord n xs:=by
 have hl:xs.length=n:=by rw[p.length_eq,yA7]
 have nd:xs.Nodup:=p.nodup_iff.mpr (xS4 n)
 exact⟨hl,fun i hi=>xD6.mp (p.mem_iff.mp (getD_mem (by rfl'))),fun i j hi hj e=>yM5 nd (by rfl') (by rfl') e⟩
def insAt(xs:List Int)(i:Nat)(v:Int):List Int:=xs.take i++v::xs.drop i
theorem yK9(xs:List Int)(i:Nat)(v:Int):(insAt xs i v).Perm (v::xs):=by
 unfold insAt
 have:=List.perm_middle (a:=v) (l₁:=xs.take i) (l₂:=xs.drop i)
 rwa [Db] at this
def lawOrd(cell:Int):Nat->List Int×Int
 | 0=>([],cell)
 | k+1=>(insAt (lawOrd cell k).1 ((lawOrd cell k).2%((k:Int)+1)).toNat k,(lawOrd cell k).2 / ((k:Int)+1))
theorem xL5(n:Nat):rg (n+1)=rg n ++ [(n:Int)]:=by unfold rg;rw[BM,AT];rfl
theorem zV9(cell:Int):∀k,(lawOrd cell k).1.Perm (rg k)
 | 0=>List.Perm.refl _
 | k+1=>by
  rw[xL5]
  refine (yK9 _ _ _).trans ?_
  refine ((zV9 cell k).cons _).trans ?_
  exact (List.perm_append_singleton _ _).symm
theorem bH(cell:Int)(n:Nat):Ord n (lawOrd cell n).1:=yT8 (zV9 cell n)
end MR
namespace M12
def ff(n:Int):Nat->Int
 | 0=>1
 | j+1=>ff n j*(n-j)
def tot(least:Int)(many:List Int):Nat->Int
 | 0=>0
 | j+1=>if least<=(j:Int)+1 then tot least many j+ff ((many.length:Int)-1) j*many.getD (many.length-(j+1)) 0 else tot least many j
def mbl(least most:Int):Nat->List Int
 | 0=>[1]
 | n+1=>mbl least most n ++ [tot least (mbl least most n) (min most ((n:Int)+1)).toNat]
def G(least most:Int)(n:Nat):Int:=(mbl least most n).getD n 0
def B:Int:=2 ^ 400
end M12
namespace M12
end M12
namespace M12
def sumN(F:Nat->Int):Nat->Int
 | 0=>0
 | n+1=>sumN F n+F n
def bin:Nat->Nat->Int
 | _,0=>1
 | 0,_+1=>0
 | n+1,m+1=>bin n m+bin n (m+1)
def fac:Nat->Int
 | 0=>1
 | n+1=>fac n*((n:Int)+1)
end M12
namespace M12
end M12
namespace M12
def pair(n:Nat)(u v:Nat->Int):Int:=sumN (fun p=>fac p*u p*v p) (n+1)
def e0(i:Nat):Int:=if i=0 then 1 else 0
end M12
namespace MR
section
variable {n:Nat}{xs:List Int}
theorem flatP(o:Ord n xs):(rgs n xs n).flatten.Perm (List.range n):=by
 have k:=o.zQ5 n (Ai n)
 rw[List.perm_ext_iff_of_nodup k.nodup De]
 intro a
 rw[AA,Cq]
 constructor
 ·rintro ⟨r,hr,ha⟩
  obtain⟨b,hb,rfl,_⟩:=k.each r hr
  exact o.xR5 hb (qF.mp ha)
 ·intro h
  exact k.cover a h
end
def nf:Nat->Nat->Nat
 | _,0=>1
 | m,j+1=>m*nf (m-1) j
def pr':List Nat->List Nat->Nat
 | _,[]=>0
 | l,x::xs=>l.idxOf x*nf (l.length-1) xs.length+pr' (l.erase x) xs
theorem uW{l:List Nat}{j:Nat}(h:j<l.length):l.getD j 0∈l:=by simp[List.getD,h]
def smN(A:Nat->Nat)(c:Nat):Nat->Nat
 | 0=>0
 | j+1=>smN A c j+nf (c-1) j*A (c-(j+1))
def gn(k m:Nat):Nat:=(M12.G 1 (k:Int) m).toNat
def wo(l r:List Nat):List Nat:=l.filter fun b=>!r.contains b
inductive Told(k:Nat):List Nat->Nat->List (List Nat)->Prop
 | nil:Told k [] 0 []
 | cons {a:Nat}{t xs:List Nat}{M:Nat}{rs:List (List Nat)}:xs.length<k->xs.Nodup->(∀x∈xs,x∈t)->Told k (wo (a::t) (a::xs)) M rs ->
  Told k (a::t) (smN (gn k) (t.length+1) xs.length+pr' t xs*gn k (t.length-xs.length)+M) ((a::xs)::rs)
def Can(rs:List (List Nat)):Prop:=(∀r∈rs,∃a xs,r=a::xs/\∀x∈xs,a<x)/\rs.Pairwise fun r r'=>∀x∈r.head?,∀y∈r',x<y
inductive Chain:List Nat->List (List Nat)->Prop
 | nil:Chain [] []
 | cons {a:Nat}{t xs:List Nat}{rs:List (List Nat)}:xs.Nodup->(∀x∈xs,x∈t)->Chain (wo (a::t) (a::xs)) rs->Chain (a::t) ((a::xs)::rs)
theorem xM9{n:Nat}{xs:List Int}(o:Ord n xs):Can (rgs n xs n):=by
 have k:=o.zQ5 n (Ai n)
 have hd:∀r∈rgs n xs n,∃b,b<n/\r=ring n xs b/\r.head?=some b/\∀c∈r,b<=c:=fun r hr=>by
  obtain⟨b,hb,rfl,h⟩:=k.each r hr
  exact⟨b,hb,rfl,zY8 o hb,fun c hc=>h c (qF.mp hc)⟩
 refine⟨fun r hr => ?_,?_⟩
 ·obtain⟨b,hb,e,h1,h2⟩:=hd r hr
  have nd:r.Nodup:=by rw[e];exact o.zR7 hb
  cases r with
  | nil=>cases h1
  | cons a ys =>
   have:a=b:=by simpa using h1
   subst this
   refine⟨a,ys,rfl,fun x hx => ?_⟩
   have:=h2 x (Ae _ hx)
   have ne:a≠x:=fun z=>(Ci.mp nd).1 (z▸hx)
   rfl'
 ·have all:∀L:List (List Nat),(∀r∈L,r∈rgs n xs n)->L.Pairwise (fun r r'=>∀x∈r.head?,∀y∈r'.head?,x<y)->L.Pairwise (fun r r'=>∀x∈r.head?,∀y∈r',x<y):=fun L=>by
   induction L with
   | nil=>exact fun _ _=>List.Pairwise.nil
   | cons r L ih =>
    intro hL w
    have w':=Ce.mp w
    refine Ce.mpr ⟨fun r' hr' x hx y hy => ?_,ih (fun r hr=>hL r (Ae _ hr)) w'.2⟩
    obtain⟨b,_,_,h1,h2⟩:=hd r' (hL r' (Ae _ hr'))
    have:=w'.1 r' hr' x hx b (by rw[h1];rfl)
    have:=h2 y hy
    rfl'
  exact all _ (fun r hr=>hr) k.rise
end MR
namespace MR
open PySem PySem.StrLaws PySem.Builtin PySem.Builtin.Str
def tl(x:Str):List Nat:=x.cps.toList
theorem yS(x:Str):(tl x).length=x.length:=by unfold tl Str.length;simp
theorem zB(a b:Str):tl (a++b)=tl a++tl b:=by unfold tl;rw[Str.cps_append];simp
theorem wZ{a b:Str}(h:tl a=tl b):a=b:=by
 apply Str.ext'
 have:a.cps.toList.toArray=b.cps.toList.toArray:=BQ _ h
 simpa using this
theorem bQ(l:List Nat):tl ⟨l.toArray⟩=l:=by unfold tl;simp
theorem xS(y p q:Str)(r:List Str):Str.join y (p::q::r)=p++y++Str.join y (q::r):=rfl
theorem aW{x y:Str}{k:Nat}(h1:1<=y.length):At x y x.length k↔((tl x).drop k).take y.length=tl y:=by
 unfold At
 rw[subAt_eq,beq_iff_eq]
 constructor
 ·exact fun h=>h.2
 ·intro h
  refine⟨?_,h⟩
  have l:=BQ List.length h
  rw[yS,Bo,BF,yS] at l
  rfl'
theorem zP8(x:Str)(a b:Nat):tl (strSub x a b)=((tl x).drop a).take (b-a):=strSub_toList x a b
theorem yM6{x y:Str}{c:Nat}{y':List Nat}(hy:tl y=c::y'):∀(ps:List Str) (a f:Nat) (cuts:List Nat),ps ≠ []->(∀p∈ps,c∉tl p)->(tl x).drop a=tl (Str.join y ps)->a<=x.length->ChainG x y x.length a cuts f->(∀k,f<=k->¬At x y x.length k)->partsFrom x y.length a cuts=ps:=by
 have y1:1<=y.length:=by rw[<-yS,hy];simp
 have fst:∀k,At x y x.length k->(tl x)[k]?=some c:=fun k h=>by
  have e:=(aW y1).mp h
  rw[hy] at e
  have:=BQ (fun l=>l[0]?) e
  simp only[List.getElem?_cons_zero] at this
  rw[List.getElem?_take_of_lt (by rfl'),Du] at this
  simpa using this
 intro ps
 induction ps with
 | nil=>intro a f cuts h;exact absurd rfl h
 | cons p ps ih =>
  intro a f cuts _ hc hd ha hG hn
  have pc:=hc p Ac
  cases ps with
  | nil =>
   have hd:(tl x).drop a=tl p:=hd
   have no:∀k,a<=k->¬At x y x.length k:=fun k hk h=>by
    have e:=fst k h
    have e2:(tl p)[k-a]?=some c:=by
     rw[<-hd,Du,show a+(k-a)=k by rfl']
     exact e
    exact pc (AS e2)
   cases cuts with
   | cons d r=>exact absurd hG.2.1 (no d hG.1)
   | nil =>
    show [strSub x a x.length]=[p]
    rw[show strSub x a x.length=p from wZ (by rw[zP8,hd,BZ];rw[<-hd,BF,yS];exact Ai _)]
  | cons q r =>
   rw[xS,zB,zB] at hd
   have len:=BQ List.length hd
   rw[BF,Aq,Aq,yS,yS,yS] at len
   have here:At x y x.length (a+p.length):=by
    refine (aW y1).mpr ?_
    rw[<-List.drop_drop,hd,BD,BV (by rw[yS];exact Ai _),<-yS p,BR,Dn,<-yS y,BW (Ai _),Bz]
   have early:∀k,a<=k->k<a+p.length->¬At x y x.length k:=fun k hk hl h=>by
    have e:=fst k h
    have e2:(tl p)[k-a]?=some c:=by
     have e3:((tl x).drop a)[k-a]?=some c:=by rw[Du,show a+(k-a)=k by rfl'];exact e
     rw[hd,BD,BB (by rw[yS];rfl')] at e3
     exact e3
    exact pc (AS e2)
   cases cuts with
   | nil =>
    have ef:f=a:=hG
    exact absurd here (hn _ (by rfl'))
   | cons d r' =>
    obtain⟨g1,g2,g3,g4⟩:=hG
    have ed:d=a+p.length:=by
     by_cases l1:d<a+p.length
     ·exact absurd g2 (early d g1 l1)
     ·by_cases l2:a+p.length<d
      ·exact absurd here (g3 _ (by rfl') l2)
      ·rfl'
    subst ed
    show strSub x a (a+p.length)::partsFrom x y.length (a+p.length+y.length) r'=p::q::r
    have e1:strSub x a (a+p.length)=p:=wZ (by
     rw[zP8,hd,show a+p.length-a=p.length by rfl',BD,<-yS p,BW (Ai _),Bz])
    rw[e1,ih (a+p.length+y.length) f r' (fun z=>nomatch z) (fun z hz=>hc z (Ae _ hz)) ?_ (by rfl') g4 hn]
    rw[show a+p.length+y.length=a+(p.length+y.length) by rfl',<-List.drop_drop,hd,<-zB,BV (by rw[yS,Af];exact Ai _),show p.length+y.length=(tl (p++y)).length by rw[yS,Af],BR,Dn]
theorem xU1(x:Str):1<=Builtin.Str.strKind x:=by
 unfold Builtin.Str.strKind
 split
 ·exact Ai _
 ·split <;> decide
theorem jR{y:Str}{c:Nat}{y':List Nat}(hy:tl y=c::y')(hk:Builtin.Str.strKind y=1){ps:List Str}(h0:ps ≠ [])(hc:∀p∈ps,c∉tl p):Txt.split (Str.join y ps) y=ps:=by
 have y1:1<=y.length:=by rw[<-yS,hy];simp
 obtain⟨f,hG,hn⟩:=occ_tight (Str.join y ps) y y1
 have key:=yM6 hy ps 0 f _ h0 hc rfl (Bb _) hG hn
 have whole:occurrences (Str.join y ps) y 0 (Str.join y ps).length ((Str.join y ps).length+1)=[]->[Str.join y ps]=ps:=fun e=>by
  rw[e] at key
  have key:[strSub (Str.join y ps) 0 (Str.join y ps).length]=ps:=key
  rw[sub_whole] at key
  exact key
 unfold Txt.split
 split
 ·rename_i h
  refine whole ?_
  rw[Bool.or_eq_true,decide_eq_true_eq,decide_eq_true_eq] at h
  rcases h with h | h
  ·cases e:occurrences (Str.join y ps) y 0 (Str.join y ps).length ((Str.join y ps).length+1) with
   | nil=>rfl
   | cons d r =>
    rw[e] at hG
    have:=hG.2.1.1
    rfl'
  ·have:=xU1 (Str.join y ps)
   rfl'
 ·split
  ·rename_i h
   exact whole (List.isEmpty_iff.mp h)
  ·rw[partsBetween_eq]
   exact key
theorem xY4{a b w:Str}(ha:a.length=1)(hb:b.length=1):Txt.slice (a++w++b) (some 1) (some (-1))=w:=by
 have l:(a++w++b).length=w.length+2:=by rw[Af,Af];rfl'
 have e:Txt.slice (a++w++b) (some 1) (some (-1))=sliceText (a++w++b) (some 1) (some (-1)):=rfl
 rw[e,sliceText_neg_hi _ _ (by decide) (by rfl'),show (-1:Int)+((a++w++b).length:Int)=((w.length+1:Nat):Int) by rfl']
 have e2:=sliceText_nat (a++w++b) (a:=1) (b:=w.length+1) (by rfl') (by rfl')
 refine Eq.trans e2 (wZ ?_)
 rw[bQ]
 show ((tl (a++w++b)).drop 1).take (w.length+1-1)=tl w
 rw[zB,zB,BD,BV (by rw[yS];rfl'),show (tl a).drop 1=[] from CZ (by rw[yS];rfl'),Dn,show w.length+1-1=(tl w).length by rw[yS];rfl',BW (Ai _),Bz]
theorem zI2:∀(ws:List Str),ws ≠ []->Str.join "" (ws.map fun w=>"("++w ++ ")")="("++Str.join ")(" ws ++ ")"
 | [],h=>absurd rfl h
 | [w],_=>rfl
 | w::v::r,_=>by
  have ih:=zI2 (v::r) fun z=>nomatch z
  show ("("++w ++ ")") ++ ""++Str.join "" ((v::r).map fun w=>"("++w ++ ")")=_
  rw[ih,xS]
  apply wZ
  simp only[zB,BD]
  rfl
theorem zO3{x y:Str}:Txt.startswith x y=true↔(tl x).take y.length=tl y:=by
 show (decide (0+y.length<=x.length)&&subAt x y 0)=true↔_
 rw[AH,decide_eq_true_eq,subAt_eq,beq_iff_eq]
 constructor
 ·exact fun h=>h.2
 ·intro h
  refine⟨?_,h⟩
  have l:=BQ List.length h
  rw[yS,Bo,yS] at l
  rfl'
theorem xZ1(a s:Str):Txt.startswith (a++s) a=true:=by
 rw[zO3,zB,<-yS a,BW (Ai _),Bz]
theorem xX5{a s y:Str}{c:Nat}(hy:tl y=[c])(ha:tl a ≠ [])(hc:c∉tl a):Txt.startswith (a++s) y=false:=by
 rw[Bool.eq_false_iff]
 intro h
 rw[zO3,<-yS y,hy,zB] at h
 cases e:tl a with
 | nil=>exact ha e
 | cons d r =>
  rw[e] at h hc
  have:d=c:=by simpa using h
  exact hc (this▸Ac)
theorem yX6{a y s:Str}{c:Nat}(hy:tl y=[c])(hc:c∉tl a):(Txt.partition (a++(y++s)) y).1=a/\(Txt.partition (a++(y++s)) y).2.2=s:=by
 have ly:y.length=1:=by rw[<-yS,hy];rfl
 have la:=yS a
 have tx:tl (a++(y++s))=tl a++c::tl s:=by rw[zB,zB,hy];rfl
 have lx:(a++(y++s)).length=a.length+(1+s.length):=by rw[Af,Af,ly]
 have here:At (a++(y++s)) y (a++(y++s)).length a.length:=by
  refine (aW (by rfl')).mpr ?_
  rw[tx,<-la,List.drop_left,ly,hy]
  rfl
 have early:∀k,k<a.length->¬At (a++(y++s)) y (a++(y++s)).length k:=fun k hk h=>by
  have e:=(aW (by rfl')).mp h
  rw[tx,ly,hy,BV (by rfl')] at e
  have:(tl a).drop k ≠ []:=fun z=>by have:=BQ List.length z;rw[BF] at this;simp at this;rfl'
  cases e2:(tl a).drop k with
  | nil=>exact this e2
  | cons d r =>
   rw[e2] at e
   have e3:d=c:=by simpa using e
   exact hc (e3▸List.mem_of_mem_drop (e2▸Ac:d∈(tl a).drop k))
 unfold Txt.partition
 rcases occ_head (a++(y++s)) y 1 (Ai 1) with ⟨_,hn⟩ | ⟨i,r,h0,hi,hn⟩
 ·exact absurd here (hn _)
 ·have ei:i=a.length:=by
   by_cases l1:i<a.length
   ·exact absurd hi (early i l1)
   ·by_cases l2:a.length<i
    ·exact absurd here (hn _ l2)
    ·rfl'
  subst ei
  rw[h0]
  refine⟨wZ ?_,wZ ?_⟩
  ·show tl (strSub (a++(y++s)) 0 a.length)=tl a
   rw[zP8,tx,List.drop_zero,Nat.sub_zero,<-la,List.take_left]
  ·show tl (strSub (a++(y++s)) (a.length+y.length) (a++(y++s)).length)=tl s
   rw[zP8,tx,ly,lx,show tl a++c::tl s=(tl a ++ [c])++tl s by simp,show a.length+1=(tl a ++ [c]).length by simp[la],List.drop_left,BZ (by rw[yS,Aq,la];simp;rfl')]
theorem yM4(a s:Str):Txt.slice (a++s) (some (a.length:Int)) none=s:=by
 have e:Txt.slice (a++s) (some (a.length:Int)) none=sliceText (a++s) (some (a.length:Int)) none:=rfl
 have l1:=yS (a++s)
 rw[Af] at l1
 rw[e,sliceText_from ⟨by rfl',by show (a.length:Int)<=((tl (a++s)).length:Int);rfl'⟩]
 refine wZ ?_
 rw[bQ]
 show ((tl (a++s)).drop (a.length:Int).toNat).take (((tl (a++s)).length:Int)-(a.length:Int)).toNat=tl s
 rw[Be,l1,zB,<-yS a,List.drop_left,BZ]
 rw[yS]
 rfl'
theorem yO(a b c:Str):a++b++c=a++(b++c):=wZ (by rw[zB,zB,zB,zB,BD])
theorem bR(y p:Str){r:List Str}(h:r ≠ []):Str.join y (p::r)=p++(y++Str.join y r):=by
 cases r with
 | nil=>exact absurd rfl h
 | cons q r=>rw[xS,yO]
theorem zL5{sep:Str}{ts:List Str}{B n:Nat}(hs:sep.length=1)(hl:ts.length<=n)(ht:∀t∈ts,t.length<=B)(hb:n*(B+1)<=16000000):JoinOk sep ts=true/\(Str.join sep ts).length<=n*(B+1):=by
 have h1:=BU (B+1) hl
 have e1:ts.length*(B+1)=ts.length*B+ts.length:=Nat.mul_succ _ _
 have e2:ts.length*sep.length=ts.length:=by rw[hs,Nat.mul_one]
 refine⟨?_,?_⟩
 ·unfold JoinOk
  rw[joinFits ht (by rfl')]
  rfl
 ·have a:=join_length_le sep ts
  have b:=sumLen_le ts ht
  rfl'
end MR
namespace MR
open PySem PySem.StrLaws PySem.Builtin PySem.Builtin.Str PySem.W PyProof.Rows
def nT(n:Nat):Str:=toString (n:Int)
theorem xA2(n:Nat):tl (nT n)=(Nat.toDigits 10 n).map Char.toNat:=KIN.signs_num n
structure NumOk(n:Nat):Prop where
 len:(nT n).length<=80
 dig:Txt.isdigit (nT n)=true
 zero:Txt.startswith (nT n) "0" = false\/nT n="0"
 int:PySem.intText? (nT n)=some (n:Int)
 fig:∀c∈tl (nT n),48<=c/\c<=57
 log:((n:Int)).natAbs.log2<1920
 ok:PyData.strOk (nT n)=true
 ne:tl (nT n) ≠ []
theorem gF(x y:Str):Txt.split x y ≠ []:=by
 unfold Txt.split
 split
 ·exact fun z=>nomatch z
 ·split
  ·exact fun z=>nomatch z
  ·rw[partsBetween_eq]
   obtain⟨p,r,e⟩:=partsFrom_ne x y.length 0 (occurrences x y 0 x.length (x.length+1))
   rw[e]
   exact fun z=>nomatch z
theorem zC4(y:Str):∀ts:List Str,ts ≠ []->(Str.join y ts).length+y.length=(ts.map (·.length)).sum+ts.length*y.length
 | [],h=>absurd rfl h
 | [t],_=>by
  show t.length+y.length=(t.length+0)+(0+1)*y.length
  rfl'
 | t::u::r,_=>by
  have ih:=zC4 y (u::r) fun z=>nomatch z
  rw[xS,Af,Af,AF,Cc,AQ,CJ]
  rfl'
theorem kG{x y:Str}(h:1<=y.length):((Txt.split x y).map (·.length)).sum+(Txt.split x y).length<=x.length+1:=by
 have a:=zC4 y (Txt.split x y) (gF x y)
 rw[join_split] at a
 generalize ((Txt.split x y).map (·.length)).sum=S at *
 have n1:=Bj.mpr (gF x y)
 generalize (Txt.split x y).length=n at *
 obtain⟨m,rfl⟩:∃m,n=m+1:=⟨n-1,by rfl'⟩
 rw[CJ] at a
 have b:=Nat.mul_le_mul_left m h
 rfl'
theorem zR6{y:Str}{c:Nat}:∀ts:List Str,c∈tl (Str.join y ts)->c∈tl y\/∃p∈ts,c∈tl p
 | [],h=>by cases h
 | [t],h=>.inr ⟨t,Ac,h⟩
 | t::u::r,h=>by
  rw[xS,zB,zB] at h
  rcases AE.mp h with h | h
  ·rcases AE.mp h with h | h
   ·exact .inr ⟨t,Ac,h⟩
   ·exact .inl h
  ·rcases zR6 (u::r) h with h | ⟨p,hp,h⟩
   ·exact .inl h
   ·exact .inr ⟨p,Ae _ hp,h⟩
theorem yX1{y p:Str}{c:Nat}:∀ts:List Str,p∈ts->c∈tl p->c∈tl (Str.join y ts)
 | [],h,_=>by cases h
 | [t],h,hc=>by
  rw[Bl.mp h] at hc
  exact hc
 | t::u::r,h,hc=>by
  rw[xS,zB,zB]
  rcases Aw.mp h with h | h
  ·subst h
   exact AM _ (AM _ hc)
  ·exact Ad _ (yX1 (u::r) h hc)
theorem yA8{x y p:Str}{c:Nat}(hp:p∈Txt.split x y)(hc:c∈tl p):c∈tl x:=by
 rw[<-join_split x y]
 exact yX1 _ hp hc
theorem yI6:∀{l:List Nat}{a:Nat},a∈l->a<=l.sum
 | [],_,h=>by cases h
 | b::l,a,h=>by
  rw[Cc]
  rcases Aw.mp h with rfl | h
  ·rfl'
  ·have:=yI6 h
   rfl'
theorem xZ6{x y p:Str}(h:1<=y.length)(hp:p∈Txt.split x y):p.length<=x.length:=by
 have a:=kG (x:=x) h
 have b:=yI6 (List.mem_map_of_mem (f:=(·.length)) hp)
 have n1:=Bj.mpr (gF x y)
 rfl'
theorem zH1{x:Str}{l u:Option Int}{c:Nat}(h:c∈tl (Txt.slice x l u)):c∈tl x:=by
 unfold Txt.slice at h
 split at h
 ·exact h
 ·rw[bQ] at h
  obtain⟨i,_,e⟩:=Bu.mp h
  have e:x.cps[i]?=some c:=e
  rw[<-Array.getElem?_toList] at e
  exact AS e
structure Tx(B:Nat)(z:Str):Prop where
 len:z.length<=B
 asc:∀c∈tl z,c<128
theorem Tx.mono{B B':Nat}{z:Str}(h:Tx B z)(l:B<=B'):Tx B' z:=⟨Ba h.len l,h.asc⟩
theorem Tx.ok{B:Nat}{z:Str}(h:Tx B z):PyData.strOk z=true:=by
 unfold PyData.strOk
 rw[<-Array.all_toList,AW]
 exact fun c hc=>Ag (by have:=h.asc c hc;rfl')
theorem Tx.slice{B:Nat}{z:Str}(h:Tx B z)(l u:Option Int):Tx B (Txt.slice z l u):=⟨Ba (Txt.slice_le z l u) h.len,fun c hc=>h.asc c (zH1 hc)⟩
theorem Tx.part{B:Nat}{z y p:Str}(h:Tx B z)(hy:1<=y.length)(hp:p∈Txt.split z y):Tx B p:=⟨Ba (xZ6 hy hp) h.len,fun c hc=>h.asc c (yA8 hp hc)⟩
theorem Tx.app{A B:Nat}{a b:Str}(ha:Tx A a)(hb:Tx B b):Tx (A+B) (a++b):=by
 refine⟨by rw[Af];have:=ha.len;have:=hb.len;rfl',fun c hc => ?_⟩
 rw[zB] at hc
 rcases AE.mp hc with hc | hc
 ·exact ha.asc c hc
 ·exact hb.asc c hc
def Fig(w:Str):Prop:=(∀c∈tl w,48<=c/\c<=57)/\tl w ≠ []
theorem yP9:∀c,c<128->Unicode.isDigit c=decide (48<=c/\c<=57):=by decide +kernel
theorem zV7{B:Nat}{w:Str}(h:Tx B w):Txt.isdigit w=true↔Fig w:=by
 unfold Txt.isdigit Fig
 rw[AH,decide_eq_true_eq,<-Array.all_toList,AW,<-yS]
 constructor
 ·rintro ⟨h1,h2⟩
  refine⟨fun c hc => ?_,fun z=>by rw[z] at h1;simp at h1⟩
  have a:=h2 c hc
  rw[yP9 c (h.asc c hc)] at a
  exact of_decide_eq_true a
 ·rintro ⟨h1,h2⟩
  refine⟨Bj.mpr h2,fun c hc => ?_⟩
  rw[yP9 c (h.asc c hc)]
  exact Ag (h1 c hc)
def dv(w:Str):Nat:=NumText.digitsVal (tl w)
theorem yP2{w:Str}(h:Fig w)(hl:w.length<=4300):PySem.intText? w=some (dv w:Int):=intText_digits (fun c hc=>h.1 c hc) h.2 hl
theorem st0{w:Str}:Txt.startswith w "0" = true ↔ ∃r,tl w=48::r:=by
 rw[zO3]
 have t0:tl "0" = [48]:=by decide +kernel
 have l0:("0":Str).length=1:=rfl
 rw[t0,l0]
 cases e:tl w with
 | nil=>simp
 | cons c r=>simp
theorem is0{w:Str}:w="0"↔tl w=[48]:=by
 have t0:tl "0" = [48]:=by decide +kernel
 exact⟨fun h=>by rw[h,t0],fun h=>wZ (by rw[h,t0])⟩
theorem isE{w:Str}:w=""↔tl w=[]:=by
 have t0:tl "" = []:=by decide +kernel
 exact⟨fun h=>by rw[h,t0],fun h=>wZ (by rw[h,t0])⟩
theorem zS3(f:Str->Nat)(hf:∀a b,f (a++b)=f a+f b)(y:Str):∀ts:List Str,ts ≠ []->f (Str.join y ts)+f y=(ts.map f).sum+ts.length*f y
 | [],h=>absurd rfl h
 | [t],_=>by
  show f t+f y=(f t+0)+(0+1)*f y
  rfl'
 | t::u::r,_=>by
  have ih:=zS3 f hf y (u::r) fun z=>nomatch z
  rw[xS,hf,hf,AF,Cc,AQ,CJ]
  rfl'
def cs(z:Str):Nat:=(tl z).countP fun c=>c == 32 || c == 41
theorem yE6{α:Type}(f g:α->Nat):∀l:List α,(∀x∈l,f x<=g x)->(l.map f).sum<=(l.map g).sum
 | [],_=>Ai _
 | x::l,h=>by
  have a:=h x Ac
  have b:=yE6 f g l fun y hy=>h y (Ae _ hy)
  rw[AF,AF,Cc,Cc]
  rfl'
end MR
local macro_rules | `(tactic| sleep 1)=>`(tactic| exact⟨rfl,rfl,rfl,by decide +kernel,rfl,by decide +kernel,by decide +kernel⟩)
local macro_rules | `(tactic| sleep 2)=>`(tactic| exact⟨rfl,by decide +kernel,by decide +kernel,by decide +kernel,by decide +kernel,rfl,by decide +kernel,by decide +kernel⟩)
namespace K52
open PySem L2 L2.L3
def top(i:Nat):Stmt:=PySem.Challenge.pw_ownboxes_k52_whole_written_is_read.main.body.getD i (.Pass ⟨0,0,0,0⟩)
abbrev gS:Stmt:=top 8
abbrev kW:Stmt:=top 9
abbrev gU:Stmt:=top 10
abbrev gW:Stmt:=top 11
abbrev uZ:Stmt:=top 13
abbrev wW:Stmt:=top 16
abbrev qT:Stmt:=top 17
abbrev uD:Stmt:=top 18
abbrev qN:Stmt:=top 19
abbrev jO:Stmt:=top 20
abbrev uV:Stmt:=top 21
abbrev vU:Stmt:=top 24
abbrev qK:Stmt:=top 25
abbrev vV:Stmt:=top 26
abbrev kM:Stmt:=top 27
abbrev uP:Stmt:=top 28
abbrev uS:Stmt:=top 29
abbrev vJ:Stmt:=top 30
abbrev kO:Stmt:=top 31
abbrev uX:Stmt:=top 32
abbrev qM:Stmt:=top 33
abbrev qV:Stmt:=top 34
abbrev qO:Stmt:=top 35
abbrev qX:Stmt:=top 36
abbrev kL:Stmt:=top 38
abbrev dX:Stmt:=top 40
abbrev cB:Stmt:=top 41
abbrev zX7:Stmt:=top 42
abbrev fE:Stmt:=top 43
abbrev qJ:Stmt:=top 44
abbrev qI:Stmt:=top 45
abbrev uI:Stmt:=top 48
abbrev qQ:Stmt:=top 49
abbrev kK:Stmt:=top 50
abbrev uY:Stmt:=top 51
abbrev zE9:Stmt:=top 52
def clsBody:Stmt->List Stmt
 | .ClassDef _ _ _ b ..=>b
 | _=>[]
abbrev qP:Stmt:=(clsBody (top 5)).getD 0 (.Pass ⟨0,0,0,0⟩)
def bJ:Ev->Res Out:=(sR (vAn (vB (b3 leI leI (eC (.int 1)) (eB lenD (aC (eV 0) aN)) (eC (.int 60)))) (e2 (fun x y=>bD (eqD x y)) (eB sortD (aC (eV 0) aN)) (eB rangeL (aC (eB lenD (aC (eV 0) aN)) aN)))))
def bY:List D->Res D:=runF false 1 1 bJ
def dC:Ev->Res Out:=(sQ (sS 2 (eB mkL (aC (eV 1) aN))) (sQ (sW 1000000 (b2 neD (e2 ixD (eV 0) (e2 ixD (eV 2) (e1 negD (eC (.int 1))))) (eV 1)) (sM 2 appD (aC (e2 ixD (eV 0) (e2 ixD (eV 2) (e1 negD (eC (.int 1))))) aN))) (sR (eB tupD (aC (eV 2) aN)))))
def kX:List D->Res D:=runF false 2 3 dC
def bW:Ev->Res Out:=(sQ (sS 1 (eB mkL aN)) (sQ (sS 2 (e2 repL (eB mkL (aC (eC (.bool false)) aN)) (eB lenD (aC (eV 0) aN)))) (sQ (sF (iR rng1 (aC (eB lenD (aC (eV 0) aN)) aN)) (gN 3) (sIf (tNt (tV (e2 ixD (eV 2) (eV 3)))) (sQ (sS 4 (eF kX (aC (eV 0) (aC (eV 3) aN)))) (sQ (sM 1 appD (aC (eV 4) aN)) (sF (iS (eV 4)) (gN 5) (sI 2 (eV 5) (eC (.bool true)))))) sN)) (sR (eV 1)))))
def vR:List D->Res D:=runF true 1 6 bW
def jJ:Ev->Res Out:=(sQ (sS 1 (eB mkL aN)) (sQ (sF (iS (eV 0)) (gN 2) (sQ (sIf (b2 eqD (eB lenD (aC (eV 2) aN)) (eC (.int 0))) (sRa "BadOrder" (aC (eC (.str "a ring has one box at least")) aN)) sN) (sM 1 extD (aC (eV 2) aN)))) (sQ (sIf (tNt (tV (eFA false bY (aC (eV 1) aN)))) (sRa "BadOrder" (aC (eC (.str "rings have each of 1 to 60 boxes just once")) aN)) sN) (sQ (sS 3 (e2 repL (eB mkL (aC (eC (.int 0)) aN)) (eB lenD (aC (eV 1) aN)))) (sQ (sF (iS (eV 0)) (gN 2) (sF (iR rng1 (aC (eB lenD (aC (eV 2) aN)) aN)) (gN 4) (sI 3 (e2 ixD (eV 2) (e2 subI (eV 4) (eC (.int 1)))) (e2 ixD (eV 2) (eV 4))))) (sR (eB tupD (aC (eV 3) aN))))))))
def wJ:List D->Res D:=runF false 1 5 jJ
def wK:Ev->Res Out:=(sQ (sIf (tNt (b3 leI leI (eC (.int 1)) (eV 0) (eC (.int 60)))) (sRa "BadOpenings" (aC (eC (.str "openings are for 1 to 60 people")) aN)) sN) (sQ (sIf (b2 neD (eB lenD (aC (eV 1) aN)) (eV 0)) (sRa "BadOpenings" (aC (eC (.str "each person has its openings")) aN)) sN) (sQ (sIf (tO (b2 ltI (eB min1D (aC (eV 1) aN)) (eC (.int 0))) (b2 gtI (eB max1D (aC (eV 1) aN)) (eV 0))) (sRa "BadOpenings" (aC (eC (.str "openings are from 0 to as many as there are boxes")) aN)) sN) (sR (eB tupD (aC (eV 1) aN))))))
def wI:List D->Res D:=runF false 2 2 wK
def xR:Ev->Res Out:=(sQ (sIf (b2 gtI (eB lenD (aC (eV 0) aN)) (eC (.int 6))) (sRa "BadOpenings" (aC (eC (.str "plans are for 1 to 6 people")) aN)) sN) (sR (eF wI (aC (eB lenD (aC (eV 0) aN)) (aC (eV 0) aN)))))
def yC:List D->Res D:=runF false 1 1 xR
def uF(Fself:List D->Res D):Ev->Res Out:=(sQ (sIf (b2 (isND false) (eV 0) (eC .none)) (sR (eC .none)) sN) (sQ (sS 5 (e2 ixD (eV 0) (eC (.int 0)))) (sQ (sS 6 (e2 ixD (eV 0) (eC (.int 1)))) (sQ (sIf (b2 eqD (eV 2) (eC (.int 0))) (sRa "BadPlan" (aC (eC (.str "a way down a tree has more boxes than there are openings")) aN)) sN) (sQ (sIf (tNt (b3 leI ltI (eC (.int 0)) (eV 5) (eV 1))) (sRa "BadPlan" (aC (eC (.str "a tree has a box that is not there")) aN)) sN) (sQ (sIf (b2 (inD false) (eV 5) (eV 3)) (sRa "BadPlan" (aC (eC (.str "a way down a tree has a box twice")) aN)) sN) (sQ (sIf (b2 neD (eB lenD (aC (eV 6) aN)) (eV 1)) (sRa "BadPlan" (aC (eC (.str "each box of a tree has a next tree for each person")) aN)) sN) (sQ (sS 7 (eB mkL aN)) (sQ (sF (yJ (eV 6)) (gT 2 (gsC (gN 8) (gsC (gN 9) gsN))) (sQ (sIf (tAn (b2 (isND true) (eV 9) (eC .none)) (b2 (inD false) (eV 8) (eV 4))) (sRa "BadPlan" (aC (eC (.str "a tree goes on by the own name, or by a name found before")) aN)) sN) (sM 7 appD (aC (eF Fself (aC (eV 9) (aC (eV 1) (aC (e2 subI (eV 2) (eC (.int 1))) (aC (e2 catL (eV 3) (eB mkL (aC (eV 5) aN))) (aC (e2 catL (eV 4) (eB mkL (aC (eV 8) aN))) aN)))))) aN)))) (sR (eB mkT (aC (eV 5) (aC (eB tupD (aC (eV 7) aN)) aN)))))))))))))
def xI:Nat->List D->Res D
 | 0=>fun _=>.no
 | n+1=>runF false 5 10 (uF (xI n))
def wD:List D->Res D:=xI 14
def dH:Ev->Res Out:=(sQ (sS 2 (eF yC (aC (eV 0) aN))) (sQ (sS 3 (eB lenD (aC (eV 2) aN))) (sQ (sIf (b2 neD (eB lenD (aC (eV 1) aN)) (eV 3)) (sRa "BadPlan" (aC (eC (.str "a plan has a tree for each person")) aN)) sN) (sR (eB tupD (aC (eComp2X (yJ (eV 1)) tYes (eF wD (aC (eV 1) (aC (eV 2) (aC (e2 ixD (eV 3) (eV 0)) (aC (eB mkL aN) (aC (eB mkL (aC (eV 0) aN)) aN)))))) [3,2]) aN))))))
def kJ:List D->Res D:=runF false 2 4 dH
def hU:Ev->Res Out:=(sIf (b2 neD (eB lenD (aC (eV 1) aN)) (eB lenD (aC (eV 0) aN))) (sRa "BadOrder" (aC (eC (.str "the order has not as many boxes as the plan has trees")) aN)) sN)
def hX:List D->Res D:=runF false 2 2 hU
def fY:Ev->Res Out:=(sQ (sS 2 (eB mkL aN)) (sQ (sS 3 (eV 0)) (sQ (sW 1000000 (b2 (isND true) (eV 3) (eC .none)) (sQ (sS 4 (e2 ixD (eV 3) (eC (.int 0)))) (sQ (sM 2 appD (aC (eV 4) aN)) (sS 3 (e2 ixD (e2 ixD (eV 3) (eC (.int 1))) (e2 ixD (eV 1) (eV 4))))))) (sR (eV 2)))))
def jT:List D->Res D:=runF true 2 5 fY
def gG:Ev->Res Out:=(sQ (sE (eF hX (aC (eV 0) (aC (eV 1) aN)))) (sQ (sS 2 (eB mkL aN)) (sQ (sF (yJ (eV 0)) (gT 2 (gsC (gN 3) (gsC (gN 4) gsN))) (sIf (b2 (inD false) (eV 3) (eComp (iS (eF jT (aC (eV 4) (aC (eV 1) aN)))) tYes (e2 ixD (eV 1) (eV 0)) [1])) (sM 2 appD (aC (eV 3) aN)) sN)) (sR (eB tupD (aC (eV 2) aN))))))
def yK:List D->Res D:=runF false 2 5 gG
def jD:Ev->Res Out:=(sR (eM1S joinD (eC (.str " ")) (eComp (iS (eV 0)) tYes (eB strOfD (aC (eV 0) aN)) [])))
def vX:List D->Res D:=runF false 1 1 jD
def qL:Ev->Res Out:=(sQ (sIf (tO (tNt (tV (eM0S (fun z=>some (.bool (Txt.isdigit z))) (eV 0)))) (tO (b2 gtI (eB lenTD (aC (eV 0) aN)) (eC (.int 90))) (tAn (tV (eM1S stwD (eV 0) (eC (.str "0")))) (b2 neD (eV 0) (eC (.str "0")))))) (sRaI (fun _=>"BadText") (aC (eV 1) aN)) sN) (sR (eB intTD (aC (eV 0) aN))))
def zF:List D->Res D:=runF false 2 2 qL
def uG:Ev->Res Out:=(sR (eB tupD (aC (eCompX (iS (eV 0)) tYes (eF zF (aC (eV 0) (aC (eV 1) aN))) [1]) aN)))
def yM:List D->Res D:=runF false 2 2 uG
def dB:Ev->Res Out:=(sQ (sS 1 (eF vX (aC (eV 0) aN))) (sR (e1 (filD "(" ")") (eV 1))))
def qY:List D->Res D:=runF false 1 2 dB
def fN:Ev->Res Out:=(sR (eM1S joinD (eC (.str "")) (eComp (iS (eF vR (aC (eV 0) aN))) tYes (eF qY (aC (eV 0) aN)) [])))
def uU:List D->Res D:=runF false 1 1 fN
def wP:Ev->Res Out:=(sQ (sS 1 (eCompX (iS (eM1S splD (eS slS (eV 0) (oS (eC (.int 1))) (oS (e1 negD (eC (.int 1))))) (eC (.str ")(")))) tYes (eF yM (aC (eM1S splD (eV 0) (eC (.str " "))) (aC (eC (.int 1)) aN))) [])) (sQ (sTryR ["BadOrder"] "BadText" (sS 2 (eF wJ (aC (eV 1) aN)))) (sQ (sIf (b2 neD (eF uU (aC (eV 2) aN)) (eV 0)) (sRaI (fun _=>"BadText") (aC (eC (.int 1)) aN)) sN) (sR (eV 2)))))
def xQ:List D->Res D:=runF false 1 3 wP
def uB(Fself:List D->Res D):Ev->Res Out:=(sQ (sIf (b2 (isND false) (eV 0) (eC .none)) (sR (eC (.str "-"))) sN) (sQ (sS 1 (e2 ixD (eV 0) (eC (.int 0)))) (sQ (sS 2 (eM1S joinD (eC (.str " ")) (eComp (iS (e2 ixD (eV 0) (eC (.int 1)))) tYes (eF Fself (aC (eV 0) aN)) []))) (sR (eJ (jS fI (eV 1) (jC "(" (jS fS (eV 2) (jC ")" jN)))))))))
def wV:Nat->List D->Res D
 | 0=>fun _=>.no
 | n+1=>runF false 1 3 (uB (wV n))
def dE:List D->Res D:=wV 14
def dG:Ev->Res Out:=(sQ (sS 2 (eF vX (aC (eF wI (aC (eB lenD (aC (eV 1) aN)) (aC (eV 0) aN))) aN))) (sQ (sS 3 (eB mkL (aC (eJ (jC "openings " (jS fS (eV 2) jN))) aN))) (sQ (sF (yJ (eV 1)) (gT 2 (gsC (gN 4) (gsC (gN 5) gsN))) (sQ (sS 6 (eF dE (aC (eV 5) aN))) (sM 3 appD (aC (eJ (jC "person " (jS fI (eV 4) (jC " " (jS fS (eV 6) jN))))) aN)))) (sR (eM1S joinD (eC (.str "\n")) (eV 3))))))
def xH:List D->Res D:=runF false 2 7 dG
def jQ:Ev->Res Out:=(sQ (sS 1 (eM1S splD (eV 0) (eC (.str " ")))) (sQ (sIf (b2 neD (e2 ixD (eV 1) (eC (.int 0))) (eC (.str "openings"))) (sRaI (fun _=>"BadText") (aC (eC (.int 1)) aN)) sN) (sQ (sS 2 (eF yM (aC (eS slD (eV 1) (oS (eC (.int 1))) oN) (aC (eC (.int 1)) aN)))) (sTryR ["BadOpenings"] "BadText" (sR (eF yC (aC (eV 2) aN)))))))
def jV:List D->Res D:=runF false 1 3 jQ
def vN:Ev->Res Out:=(sQ (sIf (tNt (tV (eM1S stwD (eV 0) (eV 1)))) (sRaI (fun _=>"BadText") (aC (eV 2) aN)) sN) (sR (eS slS (eV 0) (oS (eB lenTD (aC (eV 1) aN))) oN)))
def yY:List D->Res D:=runF false 3 3 vN
def yE:List D->Res D:=X.rtF zF yY (fun _=>"BadText")
def vM:Ev->Res Out:=(sQ (sS 3 (e2 addI (eV 1) (eC (.int 2)))) (sR (eF yE (aC (eF yY (aC (eV 0) (aC (eJ (jC "person " (jS fI (eV 1) (jC " " jN)))) (aC (eV 3) aN)))) (aC (eV 2) (aC (eV 3) aN))))))
def yP:List D->Res D:=runF false 3 4 vM
def xK:Ev->Res Out:=(sQ (sS 1 (eM1S splD (eV 0) (eC (.str "\n")))) (sQ (sS 2 (eF jV (aC (e2 ixD (eV 1) (eC (.int 0))) aN))) (sQ (sS 3 (eB lenD (aC (eV 2) aN))) (sQ (sS 4 (eComp2X (yJ (eS slD (eV 1) (oS (eC (.int 1))) (oS (e2 addI (eV 3) (eC (.int 1)))))) tYes (eF yP (aC (eV 1) (aC (eV 0) (aC (eV 2) aN)))) [3])) (sQ (sIf (b2 neD (eB lenD (aC (eV 1) aN)) (e2 addI (eV 3) (eC (.int 1)))) (sRaI (fun _=>"BadText") (aC (e2 addI (eB min2D (aC (eB lenD (aC (eV 1) aN)) (aC (e2 addI (eV 3) (eC (.int 1))) aN))) (eC (.int 1))) aN)) sN) (sR (eB mkT (aC (eV 2) (aC (eF kJ (aC (eV 2) (aC (eV 4) aN))) aN)))))))))
def yF:List D->Res D:=runF false 1 5 xK
def dF:Ev->Res Out:=(sQ (sIf (b2 ltI (eV 1) (eB lenD (aC (eV 0) aN))) (sR (e2 ixD (eV 0) (eV 1))) sN) (sR (eC (.int 0))))
def wF:List D->Res D:=runF false 2 2 dF
def aQ:Ev->Res Out:=(sQ (sS 2 (eB mkL aN)) (sQ (sF (iR rng1 (aC (eV 1) aN)) (gN 3) (sQ (sM 2 insD (aC (e2 modI (eV 0) (e2 addI (eV 3) (eC (.int 1)))) (aC (eV 3) aN))) (sS 0 (e2 fdivI (eV 0) (e2 addI (eV 3) (eC (.int 1))))))) (sR (eB tupD (aC (eV 2) aN)))))
def vS:List D->Res D:=runF false 2 4 aQ
def zR4:Ev->Res Out:=(sQ (sS 1 (eF wF (aC (eV 0) (aC (eC (.int 0)) aN)))) (sR (e2 addI (eC (.int 1)) (e2 ixD (eB mkL (aC (e2 modI (e2 fdivI (eV 1) (eC (.int 4))) (eC (.int 8))) (aC (e2 modI (e2 fdivI (eV 1) (eC (.int 4))) (eC (.int 8))) (aC (e2 modI (e2 fdivI (eV 1) (eC (.int 4))) (eC (.int 20))) (aC (e2 modI (e2 fdivI (eV 1) (eC (.int 4))) (eC (.int 60))) aN))))) (e2 modI (eV 1) (eC (.int 4)))))))
def zR5:List D->Res D:=runF false 1 2 zR4
def zL2:Ev->Res Out:=(sQ (sS 1 (eC (.int 0))) (sQ (sF (iS (eV 0)) (gN 2) (sS 1 (e2 addI (e2 mulI (eV 1) (eC (.int 1000))) (eV 2)))) (sR (eV 1))))
def zM4:List D->Res D:=runF false 1 3 zL2
def qE:List D->Res D:=plHF
def vY:Ev->Res Out:=(sQ (sS 1 (eC .none)) (sQ (sTry0 (["BadText"]:List Str) (sS 1 (eF xQ (aC (eV 0) aN))) (sS 1 (eC .none))) (sR (eV 1))))
def vW:List D->Res D:=runF false 1 2 vY
def xA:Ev->Res Out:=(sQ (sS 1 (eC .none)) (sQ (sTry2 (["BadText"]:List Str) (["BadPlan"]:List Str) (sS 1 (eF yF (aC (eV 0) aN))) (sS 1 (eC .none)) (sS 1 (eC .none))) (sR (eV 1))))
def wM:List D->Res D:=runF false 1 2 xA
def dD:Ev->Res Out:=(sQ (sS 3 (eC (.str ""))) (sQ (sF (iR rng1 (aC (eV 2) aN)) (gN 4) (sQ (sS 3 (e2 catS (eV 3) (e2 ixSD (eV 1) (e2 modI (eV 0) (eB lenTD (aC (eV 1) aN)))))) (sS 0 (e2 fdivI (eV 0) (eB lenTD (aC (eV 1) aN)))))) (sR (eV 3))))
def vK:List D->Res D:=runF false 3 5 dD
def jL:Ev->Res Out:=(sQ (sS 2 (e2 catS (e2 catS (eC (.str "(0")) (eF vK (aC (eV 0) (aC (eC (.str "01 )(2")) (aC (eV 1) aN))))) (eC (.str ")")))) (sQ (sS 3 (eF vW (aC (eV 2) aN))) (sQ (sIf (tAn (b2 (isND true) (eV 3) (eC .none)) (b2 neD (eF uU (aC (eV 3) aN)) (eV 2))) (sR (eC (.bool false))) sN) (sQ (sS 4 (eF vK (aC (eV 0) (aC (eC (.str "-(01 )")) (aC (eV 1) aN))))) (sQ (sIf (b2 gtI (eM1S cntD (eV 4) (eC (.str "("))) (eC (.int 30))) (sS 4 (eS slS (eV 4) oN (oS (eC (.int 30))))) sN) (sQ (sS 2 (e2 catS (e2 catS (eC (.str "openings 1 2\nperson 0 ")) (eV 4)) (eC (.str "\nperson 1 -")))) (sQ (sS 5 (eF wM (aC (eV 2) aN))) (sR (vO (e2 (fun x y=>bD ((isND false) x y)) (eV 5) (eC .none)) (e2 (fun x y=>bD (eqD x y)) (eF xH (aC (e2 ixD (eV 5) (eC (.int 0))) (aC (e2 ixD (eV 5) (eC (.int 1))) aN))) (eV 2)))))))))))
def yI:List D->Res D:=runF false 2 6 jL
def yM9:Ev->Res Out:=(sQ (sS 1 (eF zM4 (aC (eV 0) aN))) (sQ (sS 2 (eF zR5 (aC (eV 0) aN))) (sQ (sS 3 (eF vS (aC (eV 1) (aC (eV 2) aN)))) (sQ (sS 4 (eF xQ (aC (eF uU (aC (eV 3) aN)) aN))) (sQ (sIf (tO (b2 neD (eF vR (aC (eV 4) aN)) (eF vR (aC (eV 3) aN))) (b2 neD (eF wJ (aC (eRevL (eF vR (aC (eV 4) aN))) aN)) (eV 3))) (sR (eC (.bool false))) sN) (sQ (sS 5 (e2 addI (eC (.int 1)) (e2 modI (e2 fdivI (eF wF (aC (eV 0) (aC (eC (.int 0)) aN))) (eC (.int 7))) (eC (.int 4))))) (sQ (sA (eF qE (aC (e2 fdivI (eV 1) (eC (.int 3))) (aC (eV 5) (aC (eV 5) aN)))) (gT 2 (gsC (gN 6) (gsC (gN 7) gsN)))) (sQ (sS 8 (eF yF (aC (eF xH (aC (eV 6) (aC (eV 7) aN))) aN))) (sQ (sF (iR rng1 (aC (eC (.int 6)) aN)) (gN 9) (sQ (sS 10 (eF vS (aC (e2 fdivI (eV 1) (e2 addI (eV 9) (eC (.int 1)))) (aC (eV 5) aN)))) (sIf (tO (b2 neD (e2 ixD (eV 8) (eC (.int 0))) (eV 6)) (b2 neD (eF yK (aC (e2 ixD (eV 8) (eC (.int 1))) (aC (eV 10) aN))) (eF yK (aC (eV 7) (aC (eV 10) aN))))) (sR (eC (.bool false))) sN))) (sQ (sF (iR rng1 (aC (eB min2D (aC (eC (.int 20)) (aC (eB lenD (aC (eV 0) aN)) aN))) aN)) (gN 9) (sIf (tNt (tV (eF yI (aC (e2 fdivI (e2 ixD (eV 0) (eV 9)) (e2 addI (eV 9) (eC (.int 1)))) (aC (e2 addI (eC (.int 1)) (e2 mulI (eV 9) (eC (.int 3)))) aN))))) (sR (eC (.bool false))) sN)) (sR (eC (.bool true)))))))))))))
def yJ9:List D->Res D:=runF false 1 11 yM9
structure Txt[CN](K:KFr)(mg:Str->Option Value):Prop where
 g_enumerate:mg "enumerate" = none
 g_int:mg "int" = none
 g_len:mg "len" = none
 g_list:mg "list" = none
 g_max:mg "max" = none
 g_min:mg "min" = none
 g_range:mg "range" = none
 g_reversed:mg "reversed" = none
 g_sorted:mg "sorted" = none
 g_str:mg "str" = none
 g_tuple:mg "tuple" = none
 c_MOST_FIGURES:∃u,mg "MOST_FIGURES" = some u/\RelV (.int 90) u
 c_MOST_IN_A_PLAN:∃u,mg "MOST_IN_A_PLAN" = some u/\RelV (.int 6) u
 c_MOST_PEOPLE:∃u,mg "MOST_PEOPLE" = some u/\RelV (.int 60) u
 d_is_order:∃f fd,Has K mg "is_order" gS f fd ["names"]
 d_ring_from:∃f fd,Has K mg "ring_from" kW f fd ["order","box"]
 d_rings_of:∃f fd,Has K mg "rings_of" gU f fd ["order"]
 d_order_by:∃f fd,Has K mg "order_by" gW f fd ["rings"]
 d_made_openings:∃f fd,Has K mg "made_openings" uZ f fd ["people","numbers"]
 d_openings_of_a_plan:∃f fd,Has K mg "openings_of_a_plan" wW f fd ["openings"]
 d_made_tree:∃f fd,Has K mg "made_tree" qT f fd ["tree","people","left","boxes","names"]
 d_made_plan:∃f fd,Has K mg "made_plan" uD f fd ["openings","trees"]
 d_check_boxes:∃f fd,Has K mg "check_boxes" qN f fd ["plan","order"]
 d_boxes_down:∃f fd,Has K mg "boxes_down" jO f fd ["tree","order"]
 d_finders_by:∃f fd,Has K mg "finders_by" uV f fd ["plan","order"]
 d_numbers_text:∃f fd,Has K mg "numbers_text" vU f fd ["numbers"]
 d_read_number:∃f fd,Has K mg "read_number" qK f fd ["word","row"]
 d_read_numbers:∃f fd,Has K mg "read_numbers" vV f fd ["words","row"]
 d_ring_text:∃f fd,Has K mg "ring_text" kM f fd ["ring"]
 d_order_text:∃f fd,Has K mg "order_text" uP f fd ["order"]
 d_read_order:∃f fd,Has K mg "read_order" uS f fd ["text"]
 d_tree_text:∃f fd,Has K mg "tree_text" vJ f fd ["tree"]
 d_plan_text:∃f fd,Has K mg "plan_text" kO f fd ["openings","plan"]
 d_read_openings:∃f fd,Has K mg "read_openings" uX f fd ["text"]
 d_behind_sign:∃f fd,Has K mg "behind_sign" qM f fd ["text","sign","row"]
 d_read_tree:∃f fd,Has K mg "read_tree" qV f fd ["text","people","row"]
 d_read_person:∃f fd,Has K mg "read_person" qO f fd ["text","person","people"]
 d_read_plan:∃f fd,Has K mg "read_plan" qX f fd ["text"]
 d_l_cell_at:∃f fd,Has K mg "_law_cell_at" kL f fd ["script","k"]
 d_l_order:∃f fd,Has K mg "_law_order" dX f fd ["cell","many"]
 d_l_many:∃f fd,Has K mg "_law_many" cB f fd ["script"]
 d_l_all:∃f fd,Has K mg "_law_all" zX7 f fd ["script"]
 d_l_taken:∃f fd,Has K mg "_law_taken" fE f fd ["digits","most"]
 d_l_tree:∃f fd,Has K mg "_law_tree" qJ f fd ["digits","person","people","way","left"]
 d_l_plan:∃f fd,Has K mg "_law_plan" qI f fd ["cell","people","most"]
 d_l_read_order:∃f fd,Has K mg "_law_read_order" uI f fd ["text"]
 d_l_read_plan:∃f fd,Has K mg "_law_read_plan" qQ f fd ["text"]
 d_l_text_by:∃f fd,Has K mg "_law_text_by" kK f fd ["cell","signs","most"]
 d_l_drawn_right:∃f fd,Has K mg "_law_drawn_right" uY f fd ["cell","most"]
 d_law:∃f fd,Has K mg "law" zE9 f fd ["script"]
 x_BadOpenings:mg "BadOpenings" = some (.ref (CN.ad "BadOpenings"))
 x_BadOrder:mg "BadOrder" = some (.ref (CN.ad "BadOrder"))
 x_BadPlan:mg "BadPlan" = some (.ref (CN.ad "BadPlan"))
 x_BadText:mg "BadText" = some (.ref (CN.ad "BadText"))
 x_BoxError:mg "BoxError" = some (.ref (CN.ad "BoxError"))
 ox_BadOpenings:OwnX K "BadOpenings"
 ox_BadOrder:OwnX K "BadOrder"
 ox_BadPlan:OwnX K "BadPlan"
 tx_BadOpenings:∀c:Str,(["BadOpenings"]:List Str).contains c=true->PySem.W.kitCls K (.ref (CN.ad c)) (.ref (CN.ad "BadOpenings"))=some true
 tb_BadOpenings:PySem.W.subIn K (.ref (CN.ad "BadOpenings")) (.type "BaseException")=some true
 tx_BadOrder:∀c:Str,(["BadOrder"]:List Str).contains c=true->PySem.W.kitCls K (.ref (CN.ad c)) (.ref (CN.ad "BadOrder"))=some true
 tb_BadOrder:PySem.W.subIn K (.ref (CN.ad "BadOrder")) (.type "BaseException")=some true
 tx_BadPlan:∀c:Str,(["BadPlan"]:List Str).contains c=true->PySem.W.kitCls K (.ref (CN.ad c)) (.ref (CN.ad "BadPlan"))=some true
 tb_BadPlan:PySem.W.subIn K (.ref (CN.ad "BadPlan")) (.type "BaseException")=some true
 tx_BadText:∀c:Str,(["BadText"]:List Str).contains c=true->PySem.W.kitCls K (.ref (CN.ad c)) (.ref (CN.ad "BadText"))=some true
 tb_BadText:PySem.W.subIn K (.ref (CN.ad "BadText")) (.type "BaseException")=some true
 nx_BadPlan_BadText:∀c:Str,(["BadPlan"]:List Str).contains c=true->PySem.W.kitCls K (.ref (CN.ad c)) (.ref (CN.ad "BadText"))=some false
 bt_ex:ExIn K (CN.ad "BadText") bmV "ValueError.__new__"
 bt_fi:BtFi K (CN.ad "BadText") qP
 bt_kp:PySem.W.keepIn K (.ref (CN.ad "BadText"))=true
 bt_bi:BaseIni K (CN.ad "BoxError")
 bt_rc:RowCls K (CN.ad "BadText")
 ne_BadOpenings:∀c:Str,(["BadOpenings"]:List Str).contains c=true->PySem.Value.ref (CN.ad c) ≠ .ref (CN.ad "BadText")
 ne_BadOrder:∀c:Str,(["BadOrder"]:List Str).contains c=true->PySem.Value.ref (CN.ad c) ≠ .ref (CN.ad "BadText")
section
variable [CN] {P:Program}{w:World}{K:KFr}{mg:Str->Option Value}{base:Heap}
theorem hn0:∀r:Int,0<=r/\r<16->CN.ad "BadText" = CN.ad "BadText"/\∀n,rowOf "BadText" = some n->(n:Int)=r:=fun r h=>⟨rfl,fun n e=>by rw[yA5] at e;cases e⟩
theorem xZ4:zJ ["self","row"] ["self","row"] (zS qP):=by sleep 1
theorem cY(T:Txt K mg){f:Addr}{fd:FuncData}(F:Fun K "__init__" "BadText.__init__" qP f fd):FnOk P w K mg base CX0 2 f fd ["self","row"] (spIni (CN.ad "BadText")):=by
 refine F.ok xZ4 (fun vs H Q E ⟨e,r,ev,_⟩=>by subst ev;rfl) fun cdv A outer s H vs Q E hr ⟨e,r,ev,hr1,hH,q⟩ => ?_
 subst ev
 refine⟨_,zA (qA (zT1 rfl T.x_BoxError T.bt_bi (zM (pv 0) (zM (aK (fZ (by decide) (by decide) (yW6 (pv 1) (by decide) (fZ (by decide) (by decide) (zC8 (by decide)))))) zD)))) (xT (yD3 (pv 0) (pv 1) rfl)),?_⟩
 obtain⟨n,rfl⟩:∃n:Nat,r=(n:Int):=⟨r.toNat,by rfl'⟩
 exact⟨_,rfl,⟨_,rfl,_,rfl,(dQ (n:=n) (by rfl')).1,(dQ (n:=n) (by rfl')).2,e,_,_,rfl,T.bt_ex,hH,⟨_,rfl,_,rfl,e,_,_,rfl,rfl,hH,T.bt_rc,fun d nd=>q d nd⟩⟩⟩
theorem gR(T:Txt K mg){f:Addr}{fd:FuncData}(F:Fun K "__init__" "BadText.__init__" qP f fd):RunM P w K mg base 2 f fd ["self","row"] (spIni (CN.ad "BadText")):=by
 refine F.okM xZ4 (fun vs H Q E ⟨e,r,ev,_⟩=>by subst ev;rfl) fun m cdv A outer s H vs Q E ⟨e,r,ev,hr1,hH,q⟩ => ?_
 subst ev
 refine⟨_,zA (qA (zT1 rfl T.x_BoxError T.bt_bi (zM (pv 0) (zM (aK (fZ (by decide) (by decide) (yW6 (pv 1) (by decide) (fZ (by decide) (by decide) (zC8 (by decide)))))) zD)))) (xT (yD3 (pv 0) (pv 1) rfl)),?_⟩
 obtain⟨n,rfl⟩:∃n:Nat,r=(n:Int):=⟨r.toNat,by rfl'⟩
 exact⟨_,rfl,⟨_,rfl,_,rfl,(dQ (n:=n) (by rfl')).1,(dQ (n:=n) (by rfl')).2,e,_,_,rfl,T.bt_ex,hH,⟨_,rfl,_,rfl,e,_,_,rfl,rfl,hH,T.bt_rc,fun d nd=>q d nd⟩⟩⟩
theorem zU2:zJ ["names"] ["names"] (zS gS):=by sleep 1
theorem yT3(T:Txt K mg){f:Addr}{fd:FuncData}(h:Has K mg "is_order" gS f fd ["names"]):FnOk P w K mg base (CXV P w) 1 f fd ["names"] (spX false bY):=by
 refine yR [] h.F zU2 fun cdv A outer s H E hr => ?_
 have nd:=zU2.nd
 have u:=hr.units
 exact (zR (yW (xF2 (xV5 zQ8 zQ8 zQ6 zQ6 zK (yZ zG xV T.g_len AK (zP (zZ 0) zX)) (bP T.c_MOST_PEOPLE.choose_spec.1 T.c_MOST_PEOPLE.choose_spec.2)) (yG8 (zA5 (hZ u) zD6 (yZ zC9 xO9 T.g_sorted (by rfl) (zP (zZ 0) zX)) (yV7 T.g_list T.g_range (zP (yZ zG xV T.g_len AK (zP (zZ 0) zX)) zX)))))))
theorem zZ6:zJ ["order","box","ring"] ["order","box"] (zS kW):=by sleep 1
theorem yY2(T:Txt K mg){f:Addr}{fd:FuncData}(h:Has K mg "ring_from" kW f fd ["order","box"]):FnOk P w K mg base (CXV P w) 1 f fd ["order","box"] (spX false kX):=by
 refine yR [2] h.F zZ6 fun cdv A outer s H E hr => ?_
 have nd:=zZ6.nd
 have u:=hr.units
 exact (zT (vF 2 nd (xL (zV (zZ 1) zX))) (zT (zB5 1000000 (yQ (wO u) vA (yD yL yA (zZ 0) (yD yL yA (uM 2) (yW8 zK))) (zZ 1)) (zR (jB 2 Bg Bh wG qB (zV (yD yL yA (zZ 0) (yD yL yA (uM 2) (yW8 zK))) zX))) AV) (zR (yW (wU yN kF T.g_tuple (by rfl) (zP (uM 2) zX))))))
theorem zU5:zJ ["order","rings","seen","box","ring","member"] ["order"] (zS gU):=by sleep 1
theorem kQ(T:Txt K mg){f:Addr}{fd:FuncData}(h:Has K mg "rings_of" gU f fd ["order"]):FnOk P w K mg base (CXV P w) 2 f fd ["order"] (spX true vR):=by
 obtain⟨_,_,h0⟩:=T.d_ring_from
 refine yR [1,2] h.F zU5 fun cdv A outer s H E hr => ?_
 have nd:=zU5.nd
 have u:=hr.units
 exact (zT (vF 1 nd (xL zX)) (zT (vF 2 nd (yX yN1 yC2 (xL (zV cA zX)) (yZ zG xV T.g_len AK (zP (zZ 0) zX)))) (zT (uA (qC T.g_range (zP (yZ zG xV T.g_len AK (zP (zZ 0) zX)) zX)) (xY 3 nd) (zR (yH (fO (cI (yD yL yA (uM 2) (zZ 3)))) (zT (zE 4 nd (zL (yY2 T h0) h0 (hr.mono (by decide)) (zQ (om:=[1,2])) (zV (zZ 0) (zV (zZ 3) zX)))) (zT (jB 1 Bg Bh wG qB (zV (zZ 4) zX)) (zR (uA (qZ (RE.rd (zZ 4))) (xY 5 nd) (zR (yQ5 2 cA (zZ 5))) AV)))) yT)) AV) (zR (yR4 1)))))
theorem zV8:zJ ["rings","boxes","ring","names","place"] ["rings"] (zS gW):=by sleep 1
theorem zU6(T:Txt K mg){f:Addr}{fd:FuncData}(h:Has K mg "order_by" gW f fd ["rings"]):FnOk P w K mg base (CXV P w) 2 f fd ["rings"] (spX false wJ):=by
 obtain⟨_,_,h0⟩:=T.d_is_order
 refine yR [1,3] h.F zV8 fun cdv A outer s H E hr => ?_
 have nd:=zV8.nd
 have u:=hr.units
 exact (zT (vF 1 nd (xL zX)) (zT (uA (qZ (RE.rd (zZ 0))) (xY 2 nd) (zT (yH (yQ (hZ u) zD6 (yZ zG xV T.g_len AK (zP (zZ 2) zX)) zK) (zR (xN (zQ (om:=[1,3])) T.ox_BadOrder T.x_BadOrder (zP yU zX))) yT) (zR (xE5 1 (zZ 2)))) AV) (zT (yH (fO (cI (yL1 (yT3 T h0) h0 (hr.mono (by decide)) (zQ (om:=[1,3])) (zP (uM 1) zX)))) (zR (xN (zQ (om:=[1,3])) T.ox_BadOrder T.x_BadOrder (zP yU zX))) yT) (zT (vF 3 nd (yX yN1 yC2 (xL (zV zK zX)) (yZ zG xV T.g_len AK (zP (uM 1) zX)))) (zT (uA (qZ (RE.rd (zZ 0))) (xY 2 nd) (zR (uA (qC T.g_range (zP (yZ zG xV T.g_len AK (zP (zZ 2) zX)) zX)) (xY 4 nd) (zR (yQ5 3 (yD yL yA (zZ 2) (zZ 4)) (yD yL yA (zZ 2) (yX zN9 yE2 (zZ 4) zK)))) AV)) AV) (zR (yW (wU yN kF T.g_tuple (by rfl) (zP (uM 3) zX)))))))))
theorem fQ:zJ ["people","numbers"] ["people","numbers"] (zS uZ):=by sleep 1
theorem fT(T:Txt K mg){f:Addr}{fd:FuncData}(h:Has K mg "made_openings" uZ f fd ["people","numbers"]):FnOk P w K mg base (CXV P w) 1 f fd ["people","numbers"] (spX false wI):=by
 refine yR [] h.F fQ fun cdv A outer s H E hr => ?_
 have nd:=fQ.nd
 have u:=hr.units
 exact (zT (yH (fO (zB6 zQ8 zQ8 zQ6 zQ6 zK (zZ 0) (bP T.c_MOST_PEOPLE.choose_spec.1 T.c_MOST_PEOPLE.choose_spec.2))) (zR (xN zQ T.ox_BadOpenings T.x_BadOpenings (zP yU zX))) yT) (zT (yH (yQ (wO u) vA (yZ zG xV T.g_len AK (zP (zZ 1) zX)) (zZ 0)) (zR (xN zQ T.ox_BadOpenings T.x_BadOpenings (zP yU zX))) yT) (zT (yH (RW.rt (rw_or (yQ yJ7 yN7 (yZ (yC6 rfl) xJ9 T.g_min Cw (zP (zZ 1) zX)) zK) (rw_or1 (yQ zN8 zD2 (yZ (yF9 rfl) xI4 T.g_max PyProof.Rows.boot_max (zP (zZ 1) zX)) (zZ 0))))) (zR (xN zQ T.ox_BadOpenings T.x_BadOpenings (zP yU zX))) yT) (zR (yW (wU yN kF T.g_tuple (by rfl) (zP (zZ 1) zX)))))))
theorem jY:zJ ["openings"] ["openings"] (zS wW):=by sleep 1
theorem qD(T:Txt K mg){f:Addr}{fd:FuncData}(h:Has K mg "openings_of_a_plan" wW f fd ["openings"]):FnOk P w K mg base (CXV P w) 2 f fd ["openings"] (spX false yC):=by
 obtain⟨_,_,h0⟩:=T.d_made_openings
 refine yR [] h.F jY fun cdv A outer s H E hr => ?_
 have nd:=jY.nd
 have u:=hr.units
 exact (zT (yH (yQ zN8 zD2 (yZ zG xV T.g_len AK (zP (zZ 0) zX)) (bP T.c_MOST_IN_A_PLAN.choose_spec.1 T.c_MOST_IN_A_PLAN.choose_spec.2)) (zR (xN zQ T.ox_BadOpenings T.x_BadOpenings (zP yU zX))) yT) (zR (yW (zL (fT T h0) h0 (hr.mono (by decide)) zQ (zV (yZ zG xV T.g_len AK (zP (zZ 0) zX)) (zV (zZ 0) zX))))))
theorem zX1:zJ ["tree","people","left","boxes","names","box","nexts","told","name","coming"] ["tree","people","left","boxes","names"] (zS qT):=by sleep 1
theorem zE4(T:Txt K mg){f:Addr}{fd:FuncData}(h:Has K mg "made_tree" qT f fd ["tree","people","left","boxes","names"]):∀n,FnOk P w K mg base (CXV P w) (1+n) f fd ["tree","people","left","boxes","names"] (spX false (xI n)):=by
 intro n
 induction n with
 | zero=>exact yG1
 | succ n G_made_tree =>
 have h0:=h
 refine yR [7] h.F zX1 fun cdv A outer s H E hr => ?_
 have nd:=zX1.nd
 have u:=hr.units
 exact (zT (yH (yQ yY7 yL2 (zZ 0) vP) (zR (yW vP)) yT) (zT (zE 5 nd (yD yL yA (zZ 0) zK)) (zT (zE 6 nd (yD yL yA (zZ 0) zK)) (zT (yH (yQ (hZ u) zD6 (zZ 2) zK) (zR (xN (zQ (om:=[7])) T.ox_BadPlan T.x_BadPlan (zP yU zX))) yT) (zT (yH (fO (zB6 zQ8 yJ7 zQ6 yN7 zK (zZ 5) (zZ 1))) (zR (xN (zQ (om:=[7])) T.ox_BadPlan T.x_BadPlan (zP yU zX))) yT) (zT (yH (yQ dS yJ6 (zZ 5) (zZ 3)) (zR (xN (zQ (om:=[7])) T.ox_BadPlan T.x_BadPlan (zP yU zX))) yT) (zT (yH (yQ (wO u) vA (yZ zG xV T.g_len AK (zP (zZ 6) zX)) (zZ 1)) (zR (xN (zQ (om:=[7])) T.ox_BadPlan T.x_BadPlan (zP yU zX))) yT) (zT (vF 7 nd (xL zX)) (zT (zM9 (uL T.g_enumerate (RE.rd (zZ 6))) (zR8 rfl (uR (xY 8 nd) (uR (xY 9 nd) zW5))) (zT (yH (RW.rt (rw_and (yQ zL1 zT7 (zZ 9) vP) (rw_and1 (yQ dS yJ6 (zZ 8) (zZ 4))))) (zR (xN (zQ (om:=[7])) T.ox_BadPlan T.x_BadPlan (zP yU zX))) yT) (zR (jB 7 Bg Bh wG qB (zV (zL G_made_tree h0 hr (zQ (om:=[7])) (zV (zZ 9) (zV (zZ 1) (zV (yX zN9 yE2 (zZ 2) zK) (zV (RE.cl (yX cL yB9 (zZ 3) (xL (zV (zZ 5) zX)))) (zV (RE.cl (yX cL yB9 (zZ 4) (xL (zV (zZ 8) zX)))) zX)))))) zX)))) AV) (zR (yW (yD1 (zV (zZ 5) (zV (wU yN kF T.g_tuple (by rfl) (zP (uM 7) zX)) zX))))))))))))))
theorem yV4(T:Txt K mg){f:Addr}{fd:FuncData}(h:Has K mg "made_tree" qT f fd ["tree","people","left","boxes","names"]):FnOk P w K mg base (CXV P w) 15 f fd ["tree","people","left","boxes","names"] (spX false wD):=zE4 T h 14
theorem zZ5:zJ ["openings","trees","numbers","people"] ["openings","trees"] (zS uD):=by sleep 1
theorem yV6(T:Txt K mg){f:Addr}{fd:FuncData}(h:Has K mg "made_plan" uD f fd ["openings","trees"]):FnOk P w K mg base (CXV P w) 16 f fd ["openings","trees"] (spX false kJ):=by
 obtain⟨_,_,h0⟩:=T.d_openings_of_a_plan
 obtain⟨_,_,h1⟩:=T.d_made_tree
 refine yR [] h.F zZ5 fun cdv A outer s H E hr => ?_
 have nd:=zZ5.nd
 have u:=hr.units
 exact (zT (zE 2 nd (zL (qD T h0) h0 (hr.mono (by decide)) zQ (zV (zZ 0) zX))) (zT (zE 3 nd (yZ zG xV T.g_len AK (zP (zZ 2) zX))) (zT (yH (yQ (wO u) vA (yZ zG xV T.g_len AK (zP (zZ 1) zX)) (zZ 3)) (zR (xN zQ T.ox_BadPlan T.x_BadPlan (zP yU zX))) yT) (zR (yW (wU yN kF T.g_tuple (by rfl) (zP (yA6 (sc0:=zS uD) (N0:=["openings","trees","numbers","people"]) (fs:=["people","numbers"]) (js:=[3,2]) zQ (by exact⟨rfl,by decide +kernel,by decide +kernel,by decide +kernel,by decide +kernel,by decide +kernel,rfl,by decide +kernel,by decide +kernel⟩) rfl rfl rfl (RIo.c (uL T.g_enumerate (RE.rd (zZ 1)))) (fun _ _ _ _ _ bi=>jX) (fun _ _ _ _ _ bi=>(zL (yV4 T h1) h1 (hr.mono (by decide)) bi (zV (zZ 1) (zV (zZ 2) (zV (yD yL yA (zZ 3) (zZ 0)) (zV (RE.cl (xL zX)) (zV (RE.cl (xL (zV (zZ 0) zX))) zX)))))))) zX)))))))
theorem cJ:zJ ["plan","order"] ["plan","order"] (zS qN):=by sleep 1
theorem zK6(T:Txt K mg){f:Addr}{fd:FuncData}(h:Has K mg "check_boxes" qN f fd ["plan","order"]):FnOk P w K mg base (CXV P w) 1 f fd ["plan","order"] (spX false hX):=by
 refine yR [] h.F cJ fun cdv A outer s H E hr => ?_
 have nd:=cJ.nd
 have u:=hr.units
 exact (zR (yH (yQ (wO u) vA (yZ zG xV T.g_len AK (zP (zZ 1) zX)) (yZ zG xV T.g_len AK (zP (zZ 0) zX))) (zR (xN zQ T.ox_BadOrder T.x_BadOrder (zP yU zX))) yT))
theorem bF:zJ ["tree","order","boxes","rest","box"] ["tree","order"] (zS jO):=by sleep 1
theorem zE3(T:Txt K mg){f:Addr}{fd:FuncData}(h:Has K mg "boxes_down" jO f fd ["tree","order"]):FnOk P w K mg base (CXV P w) 1 f fd ["tree","order"] (spX true jT):=by
 refine yR [2] h.F bF fun cdv A outer s H E hr => ?_
 have nd:=bF.nd
 have u:=hr.units
 exact (zT (vF 2 nd (xL zX)) (zT (zE 3 nd (zZ 0)) (zT (zB5 1000000 (yQ zL1 zT7 (zZ 3) vP) (zT (zE 4 nd (yD yL yA (zZ 3) zK)) (zT (jB 2 Bg Bh wG qB (zV (zZ 4) zX)) (zR (zE 3 nd (yD yL yA (yD yL yA (zZ 3) zK) (yD yL yA (zZ 1) (zZ 4))))))) AV) (zR (yR4 2)))))
theorem bA:zJ ["plan","order","found","person","tree"] ["plan","order"] (zS uV):=by sleep 1
theorem bB(T:Txt K mg){f:Addr}{fd:FuncData}(h:Has K mg "finders_by" uV f fd ["plan","order"]):FnOk P w K mg base (CXV P w) 2 f fd ["plan","order"] (spX false yK):=by
 obtain⟨_,_,h0⟩:=T.d_check_boxes
 obtain⟨_,_,h1⟩:=T.d_boxes_down
 refine yR [2] h.F bA fun cdv A outer s H E hr => ?_
 have nd:=bA.nd
 have u:=hr.units
 exact (zT (xQ1 (zL (zK6 T h0) h0 (hr.mono (by decide)) (zQ (om:=[2])) (zV (zZ 0) (zV (zZ 1) zX)))) (zT (vF 2 nd (xL zX)) (zT (zM9 (uL T.g_enumerate (RE.rd (zZ 0))) (zR8 rfl (uR (xY 3 nd) (uR (xY 4 nd) zW5))) (zR (yH (yQ dS yJ6 (zZ 3) (zX6 (sc0:=zS uV) (N0:=["plan","order","found","person","tree"]) (fs:=["order"]) (js:=[1]) (by sleep 2) rfl rfl rfl (RI.c (qZ (RE.rd (RE.cl (kH (zE3 T h1) h1 (hr.mono (by decide)) (zQ (om:=[2])) (zV (zZ 4) (zV (zZ 1) zX))))))) (fun _ _ _ _=>jX) (fun _ _ _ _=>(yD yL yA (zZ 1) (zZ 0))))) (zR (jB 2 Bg Bh wG qB (zV (zZ 3) zX))) yT)) AV) (zR (yW (wU yN kF T.g_tuple (by rfl) (zP (uM 2) zX)))))))
theorem dL:zJ ["numbers"] ["numbers"] (zS vU):=by sleep 1
theorem dI(T:Txt K mg){f:Addr}{fd:FuncData}(h:Has K mg "numbers_text" vU f fd ["numbers"]):FnOk P w K mg base (CXV P w) 1 f fd ["numbers"] (spX false vX):=by
 refine yR [] h.F dL fun cdv A outer s H E hr => ?_
 have nd:=dL.nd
 have u:=hr.units
 exact (zR (yW (xC Cy Cz zX4 zW8 yU (zX6 (sc0:=zS vU) (N0:=["numbers"]) (fs:=[]) (js:=[]) (by sleep 2) rfl rfl rfl (RI.c (qZ (RE.rd (zZ 0)))) (fun _ _ _ _=>jX) (fun _ _ _ _=>(wU yW7 xD1 T.g_str (by rfl) (zP (zZ 0) zX)))))))
theorem cH:zJ ["word","row"] ["word","row"] (zS qK):=by sleep 1
theorem cK(T:Txt K mg){f:Addr}{fd:FuncData}(h:Has K mg "read_number" qK f fd ["word","row"]):FnOk P w K mg base (CXV P w) 4 f fd ["word","row"] (spX false zF):=by
 obtain⟨fI,fdI,hfi,hfn,FI,BI⟩:=T.bt_fi
 have GI:FnOk P w K mg base CX0 2 fI fdI ["self","row"] (spIni (CN.ad "BadText")):=cY T FI
 have GM:RunM P w K mg base 2 fI fdI ["self","row"] (spIni (CN.ad "BadText")):=gR T FI
 refine yR [] h.F cH fun cdv A outer s H E hr => ?_
 have nd:=cH.nd
 have u:=hr.units
 exact (zT (yH (RW.rt (rw_or (fO (cI (yM7 (zZ 0)))) (rw_or (yQ zN8 zD2 (yZ jK zW1 T.g_len AK (zP (zZ 0) zX)) (bP T.c_MOST_FIGURES.choose_spec.1 T.c_MOST_FIGURES.choose_spec.2)) (rw_or1 (RW.rt (rw_and (cI (xC CA CC hJ aX (zZ 0) yU)) (rw_and1 (yQ (wO u) vA (zZ 0) yU)))))))) (zR (kC (fun _=>"BadText") hn0 zQ T.bt_ex hfi hfn T.bt_kp T.x_BadText GI BI (hr.mono (by decide)) (zP (zZ 1) zX))) yT) (zR (yW (wU zE1 xM6 T.g_int (by rfl) (zP (zZ 0) zX)))))
theorem dR:zJ ["words","row"] ["words","row"] (zS vV):=by sleep 1
theorem dZ(T:Txt K mg){f:Addr}{fd:FuncData}(h:Has K mg "read_numbers" vV f fd ["words","row"]):FnOk P w K mg base (CXV P w) 5 f fd ["words","row"] (spX false yM):=by
 obtain⟨_,_,h0⟩:=T.d_read_number
 refine yR [] h.F dR fun cdv A outer s H E hr => ?_
 have nd:=dR.nd
 have u:=hr.units
 exact (zR (yW (wU yN kF T.g_tuple (by rfl) (zP (xX4 (sc0:=zS vV) (N0:=["words","row"]) (fs:=["row"]) (js:=[1]) zQ (by sleep 2) rfl rfl rfl (RI.c (qZ (RE.rd (zZ 0)))) (fun _ _ _ _ _ bi=>jX) (fun _ _ _ _ _ bi=>(zL (cK T h0) h0 (hr.mono (by decide)) bi (zV (zZ 0) (zV (zZ 1) zX))))) zX))))
theorem zY7:zJ ["ring","boxes"] ["ring"] (zS kM):=by sleep 1
theorem yX3(T:Txt K mg){f:Addr}{fd:FuncData}(h:Has K mg "ring_text" kM f fd ["ring"]):FnOk P w K mg base (CXV P w) 2 f fd ["ring"] (spX false qY):=by
 obtain⟨_,_,h0⟩:=T.d_numbers_text
 refine yR [] h.F zY7 fun cdv A outer s H E hr => ?_
 have nd:=zY7.nd
 have u:=hr.units
 exact (zT (zE 1 nd (zL (dI T h0) h0 (hr.mono (by decide)) zQ (zV (zZ 0) zX))) (zR (yW (xG1 (zZ 1)))))
theorem bE:zJ ["order"] ["order"] (zS uP):=by sleep 1
theorem gZ(T:Txt K mg){f:Addr}{fd:FuncData}(h:Has K mg "order_text" uP f fd ["order"]):FnOk P w K mg base (CXV P w) 3 f fd ["order"] (spX false uU):=by
 obtain⟨_,_,h0⟩:=T.d_rings_of
 obtain⟨_,_,h1⟩:=T.d_ring_text
 refine yR [] h.F bE fun cdv A outer s H E hr => ?_
 have nd:=bE.nd
 have u:=hr.units
 exact (zR (yW (xC Cy Cz zX4 zW8 yU (zX6 (sc0:=zS uP) (N0:=["order"]) (fs:=[]) (js:=[]) (by sleep 2) rfl rfl rfl (RI.c (qZ (RE.rd (RE.cl (kH (kQ T h0) h0 (hr.mono (by decide)) zQ (zV (zZ 0) zX)))))) (fun _ _ _ _=>jX) (fun _ _ _ _=>(zL (yX3 T h1) h1 (hr.mono (by decide)) (xR7 fun _ _ h=>h) (zV (zZ 0) zX)))))))
theorem aY:zJ ["text","rings","order"] ["text"] (zS uS):=by sleep 1
theorem aZ(T:Txt K mg){f:Addr}{fd:FuncData}(h:Has K mg "read_order" uS f fd ["text"]):FnOk P w K mg base (CXV P w) 6 f fd ["text"] (spX false xQ):=by
 obtain⟨fI,fdI,hfi,hfn,FI,BI⟩:=T.bt_fi
 have GI:FnOk P w K mg base CX0 2 fI fdI ["self","row"] (spIni (CN.ad "BadText")):=cY T FI
 have GM:RunM P w K mg base 2 fI fdI ["self","row"] (spIni (CN.ad "BadText")):=gR T FI
 obtain⟨_,_,h0⟩:=T.d_read_numbers
 obtain⟨_,_,h1⟩:=T.d_order_by
 obtain⟨_,_,h2⟩:=T.d_order_text
 refine yR [] h.F aY fun cdv A outer s H E hr => ?_
 have nd:=aY.nd
 have u:=hr.units
 exact (zT (xY9 1 nd (sc0:=zS uS) (N0:=["text","rings","order"]) (fs:=[]) (js:=[]) zQ (by sleep 2) rfl rfl rfl (RI.c (qZ (RE.rd (RE.cl (xC Cu Cv bS bO (zZ7 (zZ 0) (jE zK) (jE (yW8 zK))) yU))))) (fun _ _ _ _ _ bi=>jX) (fun _ _ _ _ _ bi=>(zL (dZ T h0) h0 (hr.mono (by decide)) bi (zV (RE.cl (xC Cu Cv bS bO (zZ 0) yU)) (zV zK zX))))) (zT (yS7 ["BadOrder"] "BadText" rfl (hn0 1 (by decide)).2 (fun _ _ _ zQ=>(zR (zE 2 nd (zL (zU6 T h1) h1 (hr.mono (by decide)) zQ (zV (zZ 1) zX))))) T.tx_BadOrder T.tb_BadOrder T.x_BadOrder T.ne_BadOrder zQ T.bt_ex hfi T.bt_kp hfn T.x_BadText GM BI (hr.mono (by decide))) (zT (yH (yQ (wO u) vA (zL (gZ T h2) h2 (hr.mono (by decide)) zQ (zV (zZ 2) zX)) (zZ 0)) (zR (kC (fun _=>"BadText") hn0 zQ T.bt_ex hfi hfn T.bt_kp T.x_BadText GI BI (hr.mono (by decide)) (zP zK zX))) yT) (zR (yW (zZ 2))))))
theorem aE:zJ ["tree","box","nexts"] ["tree"] (zS vJ):=by sleep 1
theorem zF8(T:Txt K mg){f:Addr}{fd:FuncData}(h:Has K mg "tree_text" vJ f fd ["tree"]):∀n,FnOk P w K mg base (CXV P w) (1+n) f fd ["tree"] (spX false (wV n)):=by
 intro n
 induction n with
 | zero=>exact yG1
 | succ n G_tree_text =>
 have h0:=h
 refine yR [] h.F aE fun cdv A outer s H E hr => ?_
 have nd:=aE.nd
 have u:=hr.units
 exact (zT (yH (yQ yY7 yL2 (zZ 0) vP) (zR (yW yU)) yT) (zT (zE 1 nd (yD yL yA (zZ 0) zK)) (zT (zE 2 nd (xC Cy Cz zX4 zW8 yU (zX6 (sc0:=zS vJ) (N0:=["tree","box","nexts"]) (fs:=[]) (js:=[]) (by sleep 2) rfl rfl rfl (RI.c (qZ (RE.rd (yD yL yA (zZ 0) zK)))) (fun _ _ _ _=>jX) (fun _ _ _ _=>(zL G_tree_text h0 hr (xR7 fun _ _ h=>h) (zV (zZ 0) zX)))))) (zR (yW (dY (yZ7 (zZ 1) (qH (yY6 (zZ 2) (qH zO7))))))))))
theorem yU4(T:Txt K mg){f:Addr}{fd:FuncData}(h:Has K mg "tree_text" vJ f fd ["tree"]):FnOk P w K mg base (CXV P w) 15 f fd ["tree"] (spX false dE):=zF8 T h 14
theorem zX3:zJ ["openings","plan","numbers","rows","person","tree","way"] ["openings","plan"] (zS kO):=by sleep 1
theorem aP(T:Txt K mg){f:Addr}{fd:FuncData}(h:Has K mg "plan_text" kO f fd ["openings","plan"]):FnOk P w K mg base (CXV P w) 16 f fd ["openings","plan"] (spX false xH):=by
 obtain⟨_,_,h0⟩:=T.d_numbers_text
 obtain⟨_,_,h1⟩:=T.d_made_openings
 obtain⟨_,_,h2⟩:=T.d_tree_text
 refine yR [3] h.F zX3 fun cdv A outer s H E hr => ?_
 have nd:=zX3.nd
 have u:=hr.units
 exact (zT (zE 2 nd (zL (dI T h0) h0 (hr.mono (by decide)) (zQ (om:=[3])) (zV (zL (fT T h1) h1 (hr.mono (by decide)) (zQ (om:=[3])) (zV (yZ zG xV T.g_len AK (zP (zZ 1) zX)) (zV (zZ 0) zX))) zX))) (zT (vF 3 nd (xL (zV (dY (qH (yY6 (zZ 2) zO7))) zX))) (zT (zM9 (uL T.g_enumerate (RE.rd (zZ 1))) (zR8 rfl (uR (xY 4 nd) (uR (xY 5 nd) zW5))) (zT (zE 6 nd (zL (yU4 T h2) h2 (hr.mono (by decide)) (zQ (om:=[3])) (zV (zZ 5) zX))) (zR (jB 3 Bg Bh wG qB (zV (dY (qH (yZ7 (zZ 4) (qH (yY6 (zZ 6) zO7))))) zX)))) AV) (zR (yW (xC Cy Cz zX4 zW8 yU (uM 3)))))))
theorem gD:zJ ["text","words","numbers"] ["text"] (zS uX):=by sleep 1
theorem zS9(T:Txt K mg){f:Addr}{fd:FuncData}(h:Has K mg "read_openings" uX f fd ["text"]):FnOk P w K mg base (CXV P w) 6 f fd ["text"] (spX false jV):=by
 obtain⟨fI,fdI,hfi,hfn,FI,BI⟩:=T.bt_fi
 have GI:FnOk P w K mg base CX0 2 fI fdI ["self","row"] (spIni (CN.ad "BadText")):=cY T FI
 have GM:RunM P w K mg base 2 fI fdI ["self","row"] (spIni (CN.ad "BadText")):=gR T FI
 obtain⟨_,_,h0⟩:=T.d_read_numbers
 obtain⟨_,_,h1⟩:=T.d_openings_of_a_plan
 refine yR [] h.F gD fun cdv A outer s H E hr => ?_
 have nd:=gD.nd
 have u:=hr.units
 exact (zT (zE 1 nd (RE.cl (xC Cu Cv bS bO (zZ 0) yU))) (zT (yH (yQ (wO u) vA (yD yL yA (zZ 1) zK) yU) (zR (kC (fun _=>"BadText") hn0 zQ T.bt_ex hfi hfn T.bt_kp T.x_BadText GI BI (hr.mono (by decide)) (zP zK zX))) yT) (zT (zE 2 nd (zL (dZ T h0) h0 (hr.mono (by decide)) zQ (zV (zJ5 (zZ 1) (jE zK) zK7) (zV zK zX)))) (zR (yS7 ["BadOpenings"] "BadText" rfl (hn0 1 (by decide)).2 (fun _ _ _ zQ=>(zR (yW (zL (qD T h1) h1 (hr.mono (by decide)) zQ (zV (zZ 2) zX))))) T.tx_BadOpenings T.tb_BadOpenings T.x_BadOpenings T.ne_BadOpenings zQ T.bt_ex hfi T.bt_kp hfn T.x_BadText GM BI (hr.mono (by decide)))))))
theorem cN:zJ ["text","sign","row"] ["text","sign","row"] (zS qM):=by sleep 1
theorem uJ(T:Txt K mg){f:Addr}{fd:FuncData}(h:Has K mg "behind_sign" qM f fd ["text","sign","row"]):FnOk P w K mg base (CXV P w) 4 f fd ["text","sign","row"] (spX false yY):=by
 obtain⟨fI,fdI,hfi,hfn,FI,BI⟩:=T.bt_fi
 have GI:FnOk P w K mg base CX0 2 fI fdI ["self","row"] (spIni (CN.ad "BadText")):=cY T FI
 have GM:RunM P w K mg base 2 fI fdI ["self","row"] (spIni (CN.ad "BadText")):=gR T FI
 refine yR [] h.F cN fun cdv A outer s H E hr => ?_
 have nd:=cN.nd
 have u:=hr.units
 exact (zT (yH (fO (cI (xC CA CC hJ aX (zZ 0) (zZ 1)))) (zR (kC (fun _=>"BadText") hn0 zQ T.bt_ex hfi hfn T.bt_kp T.x_BadText GI BI (hr.mono (by decide)) (zP (zZ 2) zX))) yT) (zR (yW (zZ7 (zZ 0) (jE (yZ jK zW1 T.g_len AK (zP (zZ 1) zX))) zK7))))
theorem aL:zJ ["text","people","row","begun","rest","parts","tree","around"] ["text","people","row"] (zS qV):=by sleep 1
theorem zC3(T:Txt K mg){f:Addr}{fd:FuncData}(h:Has K mg "read_tree" qV f fd ["text","people","row"]):FnOk P w K mg base (CXV P w) 5 f fd ["text","people","row"] (spX false yE):=by
 obtain⟨fI,fdI,hfi,hfn,FI,BI⟩:=T.bt_fi
 have GI:FnOk P w K mg base CX0 2 fI fdI ["self","row"] (spIni (CN.ad "BadText")):=cY T FI
 have GM:RunM P w K mg base 2 fI fdI ["self","row"] (spIni (CN.ad "BadText")):=gR T FI
 obtain⟨_,_,h0⟩:=T.d_read_number
 obtain⟨_,_,h1⟩:=T.d_behind_sign
 refine (X.wY1 zF yY (fun _=>"BadText")) h.F aL rfl rfl fun cdv A outer s H E hr => ?_
 have nd:=aL.nd
 exact (zA (xW (i:=3) nd rfl (by sleep 3) (jW zD)) (zA (xW (i:=4) nd rfl (by sleep 3) (pv 0)) (xT (gE AV (yY3 xR2) (zA (gE AV (yF7 (yY3 (dW Cs CA CC hJ (pv 4) (zM gA zD)))) (zA (xW (i:=5) nd rfl (by sleep 3) (dW Cs PySem.F.slot_str_partition PySem.F.type_str_partition yZ2 (pv 4) (zM gA zD))) (zA (qA (dW BH Bg Bh wG (pv 3) (zM (cZ (zM (vL (cK T h0) (hr.mono (by decide)) rfl h0.m h0.F.kp h0.b .nil (passX zQ) (zM (vC qW (pv 5) yG (fun _ _=>rfl)) (zM (pv 2) zD))) (zM (jW zD) zD))) zD))) (xT (xW (i:=4) nd rfl (by sleep 3) (vC qW (pv 5) yG (fun _ _=>rfl))))))) (zA (xW (i:=4) nd rfl (by sleep 3) (vL (uJ T h1) (hr.mono (by decide)) rfl h1.m h1.F.kp h1.b .nil (passX zQ) (zM (pv 4) (zM gA (zM (pv 2) zD))))) (zA (xW (i:=6) nd rfl (by sleep 3) aH) (zA (gE AV (PW.pt (pw_and (uK zN8 (gH zG rfl T.g_len AK (zM (pv 3) zD)) yG (nomark _)) (pw_and1 (uK (hZ hr.units) (gH zG rfl T.g_len AK (zM (vC qW (vC cP (pv 3) (yJ8 zB9 yG) (fun _ _=>rfl)) yG (fun _ _=>rfl)) zD)) (qR zN9 (pv 1) yG) (nomark _))))) (zA (xW (i:=4) nd rfl (by sleep 3) (vL (uJ T h1) (hr.mono (by decide)) rfl h1.m h1.F.kp h1.b .nil (passX zQ) (zM (pv 4) (zM gA (zM (pv 2) zD))))) (zA (xW (i:=7) nd rfl (by sleep 3) (yH4 BH PySem.F.slot_list_pop PySem.F.type_list_pop xI8 (pv 3))) (xT (xW (i:=6) nd rfl (by sleep 3) (cZ (zM (vC qW (pv 7) yG (fun _ _=>rfl)) (zM (uO yN rfl T.g_tuple (by rfl) (zM (qR cL (vC qW (pv 7) yG (fun _ _=>rfl)) (jW (zM (pv 6) zD))) zD)) zD)))))))) (zA (zW2 (uK (hZ hr.units) (gH zG rfl T.g_len AK (zM (pv 3) zD)) yG (nomark _)) (zA (zW2 (uK (wO hr.units) (pv 4) gA (nomark _)) (xT (zJ8 (C:=bodyX P w K mg base ["text","people","row","begun","rest","parts","tree","around"] "read_tree" (zS qV) f cdv A outer s H E []) (fun _=>"BadText") hn0 zQ T.bt_ex hfi hfn T.bt_kp T.x_BadText GI BI (hr.mono (by decide)) (zM (pv 2) zD))) gI) (xT (kB (pv 6)))) gI) (zA (xW (i:=4) nd rfl (by sleep 3) (vL (uJ T h1) (hr.mono (by decide)) rfl h1.m h1.F.kp h1.b .nil (passX zQ) (zM (pv 4) (zM gA (zM (pv 2) zD))))) (xT (qA (dW BH Bg Bh wG (vC qW (vC cP (pv 3) (yJ8 zB9 yG) (fun _ _=>rfl)) yG (fun _ _=>rfl)) (zM (pv 6) zD))))))))))))))
theorem cV:zJ ["text","person","people","row"] ["text","person","people"] (zS qO):=by sleep 1
theorem zJ4(T:Txt K mg){f:Addr}{fd:FuncData}(h:Has K mg "read_person" qO f fd ["text","person","people"]):FnOk P w K mg base (CXV P w) 6 f fd ["text","person","people"] (spX false yP):=by
 obtain⟨_,_,h0⟩:=T.d_read_tree
 obtain⟨_,_,h1⟩:=T.d_behind_sign
 refine yR [] h.F cV fun cdv A outer s H E hr => ?_
 have nd:=cV.nd
 have u:=hr.units
 exact (zT (zE 3 nd (yX wY wC (zZ 1) zK)) (zR (yW (zL (zC3 T h0) h0 (hr.mono (by decide)) zQ (zV (zL (uJ T h1) h1 (hr.mono (by decide)) zQ (zV (zZ 0) (zV (dY (qH (yZ7 (zZ 1) (qH zO7)))) (zV (zZ 3) zX)))) (zV (zZ 2) (zV (zZ 3) zX)))))))
theorem zY1:zJ ["text","rows","openings","people","trees"] ["text"] (zS qX):=by sleep 1
theorem zZ9(T:Txt K mg){f:Addr}{fd:FuncData}(h:Has K mg "read_plan" qX f fd ["text"]):FnOk P w K mg base (CXV P w) 17 f fd ["text"] (spX false yF):=by
 obtain⟨fI,fdI,hfi,hfn,FI,BI⟩:=T.bt_fi
 have GI:FnOk P w K mg base CX0 2 fI fdI ["self","row"] (spIni (CN.ad "BadText")):=cY T FI
 have GM:RunM P w K mg base 2 fI fdI ["self","row"] (spIni (CN.ad "BadText")):=gR T FI
 obtain⟨_,_,h0⟩:=T.d_read_openings
 obtain⟨_,_,h1⟩:=T.d_read_person
 obtain⟨_,_,h2⟩:=T.d_made_plan
 refine yR [] h.F zY1 fun cdv A outer s H E hr => ?_
 have nd:=zY1.nd
 have u:=hr.units
 exact (zT (zE 1 nd (RE.cl (xC Cu Cv bS bO (zZ 0) yU))) (zT (zE 2 nd (zL (zS9 T h0) h0 (hr.mono (by decide)) zQ (zV (yD yL yA (zZ 1) zK) zX))) (zT (zE 3 nd (yZ zG xV T.g_len AK (zP (zZ 2) zX))) (zT (yI8 4 nd (sc0:=zS qX) (N0:=["text","rows","openings","people","trees"]) (fs:=["people"]) (js:=[3]) zQ (by exact⟨rfl,by decide +kernel,by decide +kernel,by decide +kernel,by decide +kernel,by decide +kernel,rfl,by decide +kernel,by decide +kernel⟩) rfl rfl rfl (RIo.c (uL T.g_enumerate (RE.rd (zJ5 (zZ 1) (jE zK) (jE (yX wY wC (zZ 3) zK)))))) (fun _ _ _ _ _ bi=>jX) (fun _ _ _ _ _ bi=>(zL (zJ4 T h1) h1 (hr.mono (by decide)) bi (zV (zZ 1) (zV (zZ 0) (zV (zZ 2) zX)))))) (zT (yH (yQ (wO u) vA (yZ zG xV T.g_len AK (zP (zZ 1) zX)) (yX wY wC (zZ 3) zK)) (zR (kC (fun _=>"BadText") hn0 zQ T.bt_ex hfi hfn T.bt_kp T.x_BadText GI BI (hr.mono (by decide)) (zP (yX wY wC (yZ (aS rfl) yQ2 T.g_min Cw (zP (yZ zG xV T.g_len AK (zP (zZ 1) zX)) (zP (yX wY wC (zZ 3) zK) zX))) zK) zX))) yT) (zR (yW (yD1 (zV (zZ 2) (zV (zL (yV6 T h2) h2 (hr.mono (by decide)) zQ (zV (zZ 2) (zV (zZ 4) zX))) zX))))))))))
theorem aJ:zJ ["script","k"] ["script","k"] (zS kL):=by sleep 1
theorem zZ1(T:Txt K mg){f:Addr}{fd:FuncData}(h:Has K mg "_law_cell_at" kL f fd ["script","k"]):FnOk P w K mg base (CXV P w) 1 f fd ["script","k"] (spX false wF):=by
 refine yR [] h.F aJ fun cdv A outer s H E hr => ?_
 have nd:=aJ.nd
 have u:=hr.units
 exact (zT (yH (yQ yJ7 yN7 (zZ 1) (yZ zG xV T.g_len AK (zP (zZ 0) zX))) (zR (yW (yD yL yA (zZ 0) (zZ 1)))) yT) (zR (yW zK)))
theorem zP1:zJ ["cell","many","order","k"] ["cell","many"] (zS dX):=by sleep 1
theorem zN7(T:Txt K mg){f:Addr}{fd:FuncData}(h:Has K mg "_law_order" dX f fd ["cell","many"]):FnOk P w K mg base (CXV P w) 1 f fd ["cell","many"] (spX false vS):=by
 refine yR [2] h.F zP1 fun cdv A outer s H E hr => ?_
 have nd:=zP1.nd
 have u:=hr.units
 exact (zT (vF 2 nd (xL zX)) (zT (uA (qC T.g_range (zP (zZ 1) zX)) (xY 3 nd) (zT (jB 2 PySem.F.slot_list_insert PySem.F.type_list_insert xY5 xZ2 (zV (yX uC kA (zZ 0) (yX wY wC (zZ 3) zK)) (zV (zZ 3) zX))) (zR (zE 0 nd (yX wR vD (zZ 0) (yX wY wC (zZ 3) zK))))) AV) (zR (yW (wU yN kF T.g_tuple (by rfl) (zP (uM 2) zX))))))
theorem zJ9:zJ ["script","head"] ["script"] (zS cB):=by sleep 1
theorem yB5(T:Txt K mg){f:Addr}{fd:FuncData}(h:Has K mg "_law_many" cB f fd ["script"]):FnOk P w K mg base (CXV P w) 2 f fd ["script"] (spX false zR5):=by
 obtain⟨_,_,h0⟩:=T.d_l_cell_at
 refine yR [] h.F zJ9 fun cdv A outer s H E hr => ?_
 have nd:=zJ9.nd
 have u:=hr.units
 exact (zT (zE 1 nd (zL (zZ1 T h0) h0 (hr.mono (by decide)) zQ (zV (zZ 0) (zV zK zX)))) (zR (yW (yX wY wC zK (yD yL yA (xL (zV (yX uC kA (yX wR vD (zZ 1) zK) zK) (zV (yX uC kA (yX wR vD (zZ 1) zK) zK) (zV (yX uC kA (yX wR vD (zZ 1) zK) zK) (zV (yX uC kA (yX wR vD (zZ 1) zK) zK) zX))))) (yX uC kA (zZ 1) zK))))))
theorem yZ4:zJ ["script","total","cell"] ["script"] (zS zX7):=by sleep 1
theorem xT2(T:Txt K mg){f:Addr}{fd:FuncData}(h:Has K mg "_law_all" zX7 f fd ["script"]):FnOk P w K mg base (CXV P w) 1 f fd ["script"] (spX false zM4):=by
 refine yR [] h.F yZ4 fun cdv A outer s H E hr => ?_
 have nd:=yZ4.nd
 have u:=hr.units
 exact (zT (zE 1 nd zK) (zT (uA (qZ (RE.rd (zZ 0))) (xY 2 nd) (zR (zE 1 nd (yX wY wC (yX yO9 yF1 (zZ 1) zK) (zZ 2)))) AV) (zR (yW (zZ 1)))))
theorem zP3:zJ ["digits","most","found"] ["digits","most"] (zS fE):=by sleep 1
theorem zU1(T:Txt K mg){f:Addr}{fd:FuncData}(h:Has K mg "_law_taken" fE f fd ["digits","most"]):FnOk P w K mg base CX0 1 f fd ["digits","most"] spTake:=by
 refine xQ4 h.F zP3 rfl rfl fun cdv A outer s H E hr => ?_
 have nd:=zP3.nd
 exact (zA (xW (i:=2) nd rfl (by sleep 3) (qR uC (vC cP (pv 0) yG (fun _ _=>rfl)) (pv 1))) (zA (zB4 (qR wR (vC cP (pv 0) yG (fun _ _=>rfl)) (pv 1)) (yB8 (pv 0) yG zA1)) (xT (kB (pv 2)))))
theorem zI5:zJ ["digits","person","people","way","left","drawn","boxes","names","nexts","name","tree"] ["digits","person","people","way","left"] (zS qJ):=by sleep 1
theorem yK2(T:Txt K mg){f:Addr}{fd:FuncData}(h:Has K mg "_law_tree" qJ f fd ["digits","person","people","way","left"]):∀n,FnOk P w K mg base CX0 (2+n) f fd ["digits","person","people","way","left"] (spH n):=by
 intro n
 induction n with
 | zero=>exact xY8
 | succ n G_l_tree =>
 have h0:=h
 obtain⟨_,_,h1⟩:=T.d_l_taken
 refine xW2 h.F zI5 rfl rfl fun cdv A outer s H E hr => ?_
 have nd:=zI5.nd
 exact (zA (zW2 (uK (hZ hr.units) (pv 4) yG (nomark _)) (xT (kB aH)) gI) (zA (xW (i:=5) nd rfl (by sleep 3) (vL (zU1 T h1) (hr.mono (Ba (by decide) (Nat.le_add_right _ _))) rfl h1.m h1.F.kp h1.b .nil pass0 (zM (pv 0) (zM (qR wY (pv 2) yG) zD)))) (zA (zW2 (uK (hZ hr.units) (pv 5) (pv 2) (nomark _)) (xT (kB aH)) gI) (zA (yO4 (i:=6) (sc0:=zS qJ) (N0:=["digits","person","people","way","left","drawn","boxes","names","nexts","name","tree"]) (fs:=[]) (js:=[]) (by sleep 2) rfl rfl rfl (yO1 (pv 3)) (fun _ _ _ _=>.nil) (fun _ _ _ _=>(vC qW (pv 0) yG (fun _ _=>rfl))) nd rfl (by sleep 3) rfl (by intro _;rfl) (by first | exact .inl rfl | exact .inr rfl)) (zA (gE PassesOwn.never (uK dS (pv 5) (pv 6) rfl) (xT (xW (i:=5) nd rfl (by sleep 3) (qR uC (qR wY (pv 5) yG) (pv 2))))) (zA (xW (i:=7) nd rfl (by sleep 3) (qR cL (jW (zM (pv 1) zD)) (zM8 (sc0:=zS qJ) (N0:=["digits","person","people","way","left","drawn","boxes","names","nexts","name","tree"]) (fs:=[]) (js:=[]) (by sleep 2) rfl rfl rfl (yO1 (pv 3)) (fun _ _ _ _=>.nil) (fun _ _ _ _=>(vC qW (pv 0) yG (fun _ _=>rfl)))))) (zA (xW (i:=8) nd rfl (by sleep 3) (jW zD)) (zA (yV2 PassesOwn.never rfl (dN rfl T.g_range (zM (pv 2) zD)) (gK (i:=9) nd rfl (by sleep 3)) (zA (xW (i:=10) nd rfl (by sleep 3) aH) (zA (zW2 (uK zC5 (pv 9) (pv 7) rfl) (xT (xW (i:=10) nd rfl (by sleep 3) (vL G_l_tree hr rfl h0.m h0.F.kp h0.b .nil pass0 (zM (pv 0) (zM (pv 1) (zM (pv 2) (zM (qR cL (pv 3) (jW (zM (cZ (zM (pv 5) (zM (pv 9) zD))) zD))) (zM (qR zN9 (pv 4) yG) zD)))))))) gI) (xT (qA (dW BH Bg Bh wG (pv 8) (zM (pv 10) zD))))))) (xT (kB (cZ (zM (pv 5) (zM (uO yN rfl T.g_tuple (by rfl) (zM (pv 8) zD)) zD)))))))))))))
theorem yN6(T:Txt K mg){f:Addr}{fd:FuncData}(h:Has K mg "_law_tree" qJ f fd ["digits","person","people","way","left"]):FnOk P w K mg base CX0 16 f fd ["digits","person","people","way","left"] (spH 14):=yK2 T h 14
theorem zF3:zJ ["cell","people","most","digits","openings","trees"] ["cell","people","most"] (zS qI):=by sleep 1
theorem yK8(T:Txt K mg){f:Addr}{fd:FuncData}(h:Has K mg "_law_plan" qI f fd ["cell","people","most"]):FnOk P w K mg base CX0 17 f fd ["cell","people","most"] (spF false qE):=by
 obtain⟨_,_,h0⟩:=T.d_l_taken
 obtain⟨_,_,h1⟩:=T.d_l_tree
 refine (xS2 (k:=14) (by decide)) h.F zF3 rfl rfl fun cdv A outer s H E hr => ?_
 have nd:=zF3.nd
 exact (zA (xW (i:=3) nd rfl (by sleep 3) (jW (zM (pv 0) zD))) (zA (xW (i:=4) nd rfl (by sleep 3) (uO yN rfl T.g_tuple (by rfl) (zM (zM8 (sc0:=zS qI) (N0:=["cell","people","most","digits","openings","trees"]) (fs:=["most","digits","people"]) (js:=[2,3,1]) (by sleep 2) rfl rfl rfl (dN rfl T.g_range (zM (pv 1) zD)) (fun _ _ _ _=>.nil) (fun _ _ _ _=>(gH (aS rfl) rfl T.g_min Cw (zM (pv 1) (zM (vL (zU1 T h0) (hr.mono (by decide)) rfl h0.m h0.F.kp h0.b .nil pass0 (zM (pv 2) (zM (qR wY (pv 3) yG) zD))) zD))))) zD))) (zA (yO4 (i:=5) (sc0:=zS qI) (N0:=["cell","people","most","digits","openings","trees"]) (fs:=["digits","people","openings"]) (js:=[3,1,4]) (by sleep 2) rfl rfl rfl (dN rfl T.g_range (zM (pv 1) zD)) (fun _ _ _ _=>.nil) (fun _ _ _ _=>(vL (yN6 T h1) (hr.mono (by decide)) rfl h1.m h1.F.kp h1.b .nil pass0 (zM (pv 1) (zM (pv 0) (zM (pv 2) (zM (jW zD) (zM (vC qW (pv 3) (pv 0) (fun _ _=>rfl)) zD))))))) nd rfl (by sleep 3) rfl (by intro _;rfl) (by first | exact .inl rfl | exact .inr rfl)) (xT (kB (cZ (zM (pv 4) (zM (uO yN rfl T.g_tuple (by rfl) (zM (pv 5) zD)) zD))))))))
theorem yD2(T:Txt K mg){f:Addr}{fd:FuncData}(h:Has K mg "_law_plan" qI f fd ["cell","people","most"]):FnOk P w K mg base (CXV P w) 17 f fd ["cell","people","most"] (spX false qE):=xD5 (fun _ _=>xN1) (yK8 T h)
theorem dO:zJ ["text","found"] ["text"] (zS uI):=by sleep 1
theorem zN1(T:Txt K mg){f:Addr}{fd:FuncData}(h:Has K mg "_law_read_order" uI f fd ["text"]):FnOk P w K mg base (CXV P w) 7 f fd ["text"] (spX false vW):=by
 obtain⟨_,_,h0⟩:=T.d_read_order
 refine yR [] h.F dO fun cdv A outer s H E hr => ?_
 have nd:=dO.nd
 have u:=hr.units
 exact (zT (zE 1 nd vP) (zT (xQ5 (["BadText"]:List Str) (fun _ _ _ zQ=>(zR (zE 1 nd (zL (aZ T h0) h0 (hr.mono (by decide)) zQ (zV (zZ 0) zX))))) (fun _=>(zR (zE 1 nd vP))) T.tx_BadText T.tb_BadText T.x_BadText) (zR (yW (zZ 1)))))
theorem cR:zJ ["text","found"] ["text"] (zS qQ):=by sleep 1
theorem zK8(T:Txt K mg){f:Addr}{fd:FuncData}(h:Has K mg "_law_read_plan" qQ f fd ["text"]):FnOk P w K mg base (CXV P w) 18 f fd ["text"] (spX false wM):=by
 obtain⟨_,_,h0⟩:=T.d_read_plan
 refine yR [] h.F cR fun cdv A outer s H E hr => ?_
 have nd:=cR.nd
 have u:=hr.units
 exact (zT (zE 1 nd vP) (zT (xN6 (["BadText"]:List Str) (["BadPlan"]:List Str) (fun _ _ _ zQ=>(zR (zE 1 nd (zL (zZ9 T h0) h0 (hr.mono (by decide)) zQ (zV (zZ 0) zX))))) (fun _=>(zR (zE 1 nd vP))) (fun _=>(zR (zE 1 nd vP))) T.tx_BadText T.tb_BadText T.x_BadText T.tx_BadPlan T.tb_BadPlan T.x_BadPlan T.nx_BadPlan_BadText) (zR (yW (zZ 1)))))
theorem aO:zJ ["cell","signs","most","text","k"] ["cell","signs","most"] (zS kK):=by sleep 1
theorem zY9(T:Txt K mg){f:Addr}{fd:FuncData}(h:Has K mg "_law_text_by" kK f fd ["cell","signs","most"]):FnOk P w K mg base (CXV P w) 1 f fd ["cell","signs","most"] (spX false vK):=by
 refine yR [] h.F aO fun cdv A outer s H E hr => ?_
 have nd:=aO.nd
 have u:=hr.units
 exact (zT (zE 3 nd yU) (zT (uA (qC T.g_range (zP (zZ 2) zX)) (xY 4 nd) (zT (zE 3 nd (yX jP cO (zZ 3) (yD yE1 xH1 (zZ 1) (yX uC kA (zZ 0) (yZ jK zW1 T.g_len AK (zP (zZ 1) zX)))))) (zR (zE 0 nd (yX wR vD (zZ 0) (yZ jK zW1 T.g_len AK (zP (zZ 1) zX)))))) AV) (zR (yW (zZ 3)))))
theorem fW:zJ ["cell","most","text","order","tree","pair"] ["cell","most"] (zS uY):=by sleep 1
theorem zT9(T:Txt K mg){f:Addr}{fd:FuncData}(h:Has K mg "_law_drawn_right" uY f fd ["cell","most"]):FnOk P w K mg base (CXV P w) 19 f fd ["cell","most"] (spX false yI):=by
 obtain⟨_,_,h0⟩:=T.d_l_text_by
 obtain⟨_,_,h1⟩:=T.d_l_read_order
 obtain⟨_,_,h2⟩:=T.d_order_text
 obtain⟨_,_,h3⟩:=T.d_l_read_plan
 obtain⟨_,_,h4⟩:=T.d_plan_text
 refine yR [] h.F fW fun cdv A outer s H E hr => ?_
 have nd:=fW.nd
 have u:=hr.units
 exact (zT (zE 2 nd (yX jP cO (yX jP cO yU (zL (zY9 T h0) h0 (hr.mono (by decide)) zQ (zV (zZ 0) (zV yU (zV (zZ 1) zX))))) yU)) (zT (zE 3 nd (zL (zN1 T h1) h1 (hr.mono (by decide)) zQ (zV (zZ 2) zX))) (zT (yH (RW.rt (rw_and (yQ zL1 zT7 (zZ 3) vP) (rw_and1 (yQ (wO u) vA (zL (gZ T h2) h2 (hr.mono (by decide)) zQ (zV (zZ 3) zX)) (zZ 2))))) (zR (yW cA)) yT) (zT (zE 4 nd (zL (zY9 T h0) h0 (hr.mono (by decide)) zQ (zV (zZ 0) (zV yU (zV (zZ 1) zX))))) (zT (yH (yQ zN8 zD2 (xC PySem.F.slot_str_count PySem.F.type_str_count yA3 yG7 (zZ 4) yU) zK) (zR (zE 4 nd (zZ7 (zZ 4) zK7 (jE zK)))) yT) (zT (zE 2 nd (yX jP cO (yX jP cO yU (zZ 4)) yU)) (zT (zE 5 nd (zL (zK8 T h3) h3 (hr.mono (by decide)) zQ (zV (zZ 2) zX))) (zR (yW (xA9 (zA5 yY7 yL2 (zZ 5) vP) (yG8 (zA5 (hZ u) zD6 (zL (aP T h4) h4 (hr.mono (by decide)) zQ (zV (yD yL yA (zZ 5) zK) (zV (yD yL yA (zZ 5) zK) zX))) (zZ 2)))))))))))))
theorem xZ3:zJ ["script","cell","many","order","again","people","openings","plan","told","k","small"] ["script"] (zS zE9):=by sleep 1
theorem xE8(T:Txt K mg){f:Addr}{fd:FuncData}(h:Has K mg "law" zE9 f fd ["script"]):FnOk P w K mg base (CXV P w) 20 f fd ["script"] (spX false yJ9):=by
 obtain⟨_,_,h0⟩:=T.d_l_all
 obtain⟨_,_,h1⟩:=T.d_l_many
 obtain⟨_,_,h2⟩:=T.d_l_order
 obtain⟨_,_,h3⟩:=T.d_read_order
 obtain⟨_,_,h4⟩:=T.d_order_text
 obtain⟨_,_,h5⟩:=T.d_rings_of
 obtain⟨_,_,h6⟩:=T.d_order_by
 obtain⟨_,_,h7⟩:=T.d_l_cell_at
 obtain⟨_,_,h8⟩:=T.d_l_plan
 obtain⟨_,_,h9⟩:=T.d_read_plan
 obtain⟨_,_,h10⟩:=T.d_plan_text
 obtain⟨_,_,h11⟩:=T.d_finders_by
 obtain⟨_,_,h12⟩:=T.d_l_drawn_right
 refine yR [] h.F xZ3 fun cdv A outer s H E hr => ?_
 have nd:=xZ3.nd
 have u:=hr.units
 exact (zT (zE 1 nd (zL (xT2 T h0) h0 (hr.mono (by decide)) zQ (zV (zZ 0) zX))) (zT (zE 2 nd (zL (yB5 T h1) h1 (hr.mono (by decide)) zQ (zV (zZ 0) zX))) (zT (zE 3 nd (zL (zN7 T h2) h2 (hr.mono (by decide)) zQ (zV (zZ 1) (zV (zZ 2) zX)))) (zT (zE 4 nd (zL (aZ T h3) h3 (hr.mono (by decide)) zQ (zV (zL (gZ T h4) h4 (hr.mono (by decide)) zQ (zV (zZ 3) zX)) zX))) (zT (yH (RW.rt (rw_or (yQ (wO u) vA (kH (kQ T h5) h5 (hr.mono (by decide)) zQ (zV (zZ 4) zX)) (kH (kQ T h5) h5 (hr.mono (by decide)) zQ (zV (zZ 3) zX))) (rw_or1 (yQ (wO u) vA (zL (zU6 T h6) h6 (hr.mono (by decide)) zQ (zV (RE.cl (yF2 T.g_list T.g_reversed (RE.rd (RE.cl (kH (kQ T h5) h5 (hr.mono (by decide)) zQ (zV (zZ 4) zX)))))) zX)) (zZ 3))))) (zR (yW cA)) yT) (zT (zE 5 nd (yX wY wC zK (yX uC kA (yX wR vD (zL (zZ1 T h7) h7 (hr.mono (by decide)) zQ (zV (zZ 0) (zV zK zX))) zK) zK))) (zT (xM2 (zL (yD2 T h8) h8 (hr.mono (by decide)) zQ (zV (yX wR vD (zZ 1) zK) (zV (zZ 5) (zV (zZ 5) zX)))) (zR8 rfl (uR (xY 6 nd) (uR (xY 7 nd) zW5)))) (zT (zE 8 nd (zL (zZ9 T h9) h9 (hr.mono (by decide)) zQ (zV (zL (aP T h10) h10 (hr.mono (by decide)) zQ (zV (zZ 6) (zV (zZ 7) zX))) zX))) (zT (uA (qC T.g_range (zP zK zX)) (xY 9 nd) (zT (zE 10 nd (zL (zN7 T h2) h2 (hr.mono (by decide)) zQ (zV (yX wR vD (zZ 1) (yX wY wC (zZ 9) zK)) (zV (zZ 5) zX)))) (zR (yH (RW.rt (rw_or (yQ (wO u) vA (yD yL yA (zZ 8) zK) (zZ 6)) (rw_or1 (yQ (wO u) vA (zL (bB T h11) h11 (hr.mono (by decide)) zQ (zV (yD yL yA (zZ 8) zK) (zV (zZ 10) zX))) (zL (bB T h11) h11 (hr.mono (by decide)) zQ (zV (zZ 7) (zV (zZ 10) zX))))))) (zR (yW cA)) yT))) AV) (zT (uA (qC T.g_range (zP (yZ (aS rfl) yQ2 T.g_min Cw (zP zK (zP (yZ zG xV T.g_len AK (zP (zZ 0) zX)) zX))) zX)) (xY 9 nd) (zR (yH (fO (cI (zL (zT9 T h12) h12 (hr.mono (by decide)) zQ (zV (yX wR vD (yD yL yA (zZ 0) (zZ 9)) (yX wY wC (zZ 9) zK)) (zV (yX wY wC zK (yX yO9 yF1 (zZ 9) zK)) zX))))) (zR (yW cA)) yT)) AV) (zR (yW cA))))))))))))
end
end K52
namespace K52
open PySem L2 L2.L3 MR
def evA:=(And.intro (And.intro (And.intro (And.intro (And.intro (And.intro @zC6 @wZ1) (And.intro @zL6 @wY7)) (And.intro (And.intro @wZ3 @xA7) (And.intro @xF1 (And.intro @xA4 @zO9)))) (And.intro (And.intro (And.intro @xH3 @zN4) (And.intro @bK @gC)) (And.intro (And.intro @zD3 @wZ8) (And.intro @wZ6 (And.intro @xB7 @xB6))))) (And.intro (And.intro (And.intro (And.intro @wY6 @wZ2) (And.intro @kP @eV0)) (And.intro (And.intro @eVs @wZ7) (And.intro @zD4 (And.intro @kT @xA5)))) (And.intro (And.intro (And.intro @xC1 @zO8) (And.intro @kI (And.intro @zD7 @wY2))) (And.intro (And.intro @fL @xH7) (And.intro @zO6 (And.intro @zO1 @xB2)))))) (And.intro (And.intro (And.intro (And.intro (And.intro @kN @kU) (And.intro @xS9 @wY3)) (And.intro (And.intro @xB8 @kS) (And.intro @xN3 (And.intro @zP9 @zP5)))) (And.intro (And.intro (And.intro @zP2 @jF) (And.intro @xI2 (And.intro @wZ4 @wY5))) (And.intro (And.intro @xO5 @zD5) (And.intro @mkL0 (And.intro @mkL1 @mkL4))))) (And.intro (And.intro (And.intro (And.intro @mkT2 @Res.bind_ok) (And.intro @Res.bind_no @Res.bind_ex)) (And.intro (And.intro @Res.lft_some @Res.lft_none) (And.intro @Bn.{0,0} (And.intro @AI.{0,0} @List.set_cons_zero.{0})))) (And.intro (And.intro (And.intro @List.set_cons_succ.{0} @AQ.{0}) (And.intro @List.length_nil.{0} (And.intro @if_true.{1} @if_false.{1}))) (And.intro (And.intro @AB @ite_true.{1}) (And.intro @ite_false.{1} (And.intro @BS @Bv)))))))
local macro_rules | `(tactic| simp![$x,*])=>`(tactic| simp -implicitDefEqProofs only[(evA),$x,*])
def rI'(r:List Nat):List Int:=r.map fun (b:Nat)=>(b:Int)
theorem zA3{n b:Nat}{xs:List Int}(o:Ord n xs)(hn:n<=1000)(hb:b<n):kX [tI xs,.int b]=.ok (tI (rI' (ring n xs b))):=by
 show (dC [some (tI xs),some (.int b),none]).bind (fin false)=_
 unfold dC
 simp -implicitDefEqProofs only[(evA)]
 obtain⟨a1,a2,a3,a4⟩:=o.qG hb
 have last:∀i,atI ((List.range (i+1)).map fun j=>PyData.int ((it xs j b:Nat):Int)) (-1)=some (.int ((it xs i b:Nat):Int)):=fun i=>by
  rw[BM,AT]
  exact zS1 _ _
 have nx:∀i,atI (xs.map PyData.int) ((it xs i b:Nat):Int)=some (.int ((it xs (i+1) b:Nat):Int)):=fun i=>by
  have hi:=o.kR hb i
  rw[uH,uN (by rw[o.len];exact hi),o.gM hi]
  rfl
 obtain⟨ρ',e,rfl⟩:=yC9 (t:=b2 neD (e2 ixD (eV 0) (e2 ixD (eV 2) (e1 negD (eC (.int 1))))) (eV 1)) (b:=sM 2 appD (aC (e2 ixD (eV 0) (e2 ixD (eV 2) (e1 negD (eC (.int 1))))) aN))
  (fun i ρ=>ρ=[some (tI xs),some (.int b),some (.list ((List.range (i+1)).map fun j=>PyData.int ((it xs j b:Nat):Int)))]) (per n xs b-1) 1000000 [some (tI xs),some (.int b),some (.list [.int b])] rfl (by
   rintro i ρ hi rfl
   simp![last,nx,xO]
   have ne:=a4 (i+1) (by rfl') (by rfl')
   rw[An (by rfl')]
   refine⟨rfl,_,?_,rfl⟩
   simp![cF (l:=(List.range (i+1)).map fun j=>PyData.int ((it xs j b:Nat):Int)) (by rw[Aa,Au];rfl')]
   congr 2
   simp only[BM,AT,AF,List.map_nil]) (by
   rintro ρ rfl
   simp![last,nx,xO]
   rw[show per n xs b-1+1=per n xs b by rfl',a3,Ag rfl]
   rfl) (by rfl')
 rw[e]
 simp -implicitDefEqProofs only[(evA)]
 congr 2
 rw[show per n xs b-1+1=per n xs b by rfl']
 unfold rI' ring
 rw[AR,AR]
 rfl
abbrev ringsD(n:Nat)(xs:List Int)(m:Nat):List (List Int):=(rgs n xs m).map rI'
theorem zU4{n:Nat}{xs:List Int}(o:Ord n xs)(hn:n<=1000):vR [tI xs]=.ok (rows (ringsD n xs n)):=by
 show (bW [some (tI xs),none,none,none,none,none]).bind (fin true)=_
 unfold bW
 simp![Aa,o.len,yY4 _ n hn,jA hn,zF9]
 have cnt:∀m,m<=n->(rgs n xs m).length<=m:=by
  intro m
  induction m with
  | zero=>intro _;simp[rgs]
  | succ m ih =>
   intro h
   have:=ih (by rfl')
   rw[rgs]
   split
   ·rfl'
   ·rw[Aq,Bf];rfl'
 obtain⟨ρ',e,x,y,z,rfl⟩:=vH (g:=gN 3) (b:=sIf (tNt (tV (e2 ixD (eV 2) (eV 3)))) (sQ (sS 4 (eF kX (aC (eV 0) (aC (eV 3) aN)))) (sQ (sM 1 appD (aC (eV 4) aN)) (sF (iS (eV 4)) (gN 5) (sI 2 (eV 5) (eC (.bool true)))))) sN)
  (fun i ρ=>∃x y z,ρ=[some (tI xs),some (rows (ringsD n xs i)),some (.list ((List.range n).map fun c=>.bool (has (rgs n xs i) c))),x,y,z]) ((List.range n).map fun (i:Nat)=>PyData.int (i:Int)) [some (tI xs),some (.list []),some (.list ((List.range n).map fun _=>.bool false)),none,none,none] ⟨none,none,none,rfl⟩ (by
   rintro i d ρ hd ⟨x,y,z,rfl⟩
   obtain⟨hi,rfl⟩:=zL4 hd
   cases hh:has (rgs n xs i) i with
   | true =>
    refine⟨_,[some (tI xs),some (rows (ringsD n xs i)),some (.list ((List.range n).map fun c=>.bool (has (rgs n xs i) c))),some (.int i),y,z],rfl,?_,some (.int i),y,z,?_⟩
    ·simp![zG4 hi,hh]
    ·unfold ringsD
     rw[rgs,Am hh]
   | false =>
    have hh':¬has (rgs n xs i) i=true:=by rw[hh];exact Ap
    obtain⟨ρ2,e2,x2,rfl⟩:=vH (g:=gN 5) (b:=sI 2 (eV 5) (eC (.bool true)))
     (fun j ρ=>∃x,ρ=[some (tI xs),some (rows (ringsD n xs i ++ [rI' (ring n xs i)])),some (.list ((List.range n).map fun c=>.bool (has (rgs n xs i) c || ((ring n xs i).take j).contains c))),some (.int i),some (tI (rI' (ring n xs i))),x]) ((rI' (ring n xs i)).map PyData.int)
     [some (tI xs),some (rows (ringsD n xs i ++ [rI' (ring n xs i)])),some (.list ((List.range n).map fun c=>.bool (has (rgs n xs i) c))),some (.int i),some (tI (rI' (ring n xs i))),z] ⟨z,by simp⟩ (by
      rintro j d ρ hd ⟨x,rfl⟩
      unfold rI' at hd
      rw[AR,Ak] at hd
      obtain⟨m,hm,rfl⟩:=Av.mp hd
      have hmr:m∈ring n xs i:=AS hm
      have hml:m<n:=o.xR5 hi (qF.mp hmr)
      refine⟨_,_,rfl,?_,some (.int m),rfl⟩
      simp![Function.comp,yJ3 hml]
      congr 6
      refine BQ PyData.list (BC fun c _ => ?_)
      rw[CI,hm]
      by_cases ec:c=m
      ·subst ec
       rw[Am rfl]
       simp
      ·rw[AG ec]
       simp[ec])
    refine⟨_,_,rfl,?_,some (.int i),some (tI (rI' (ring n xs i))),x2,rfl⟩
    have e5:rows (ringsD n xs i)=.list ((ringsD n xs i).map tI):=rfl
    simp![zG4 hi,hh,zA3 o hn hi,cF (l:=(ringsD n xs i).map tI) (d:=tI (rI' (ring n xs i))) (by rw[Aa,Aa];have:=cnt i (by rfl');rfl')]
    have e6:(ringsD n xs i).map tI ++ [tI (rI' (ring n xs i))]=(ringsD n xs i ++ [rI' (ring n xs i)]).map tI:=by rw[AT];rfl
    rw[e6,e2]
    congr 2
    have e7:ringsD n xs (i+1)=ringsD n xs i ++ [rI' (ring n xs i)]:=by
     unfold ringsD
     rw[rgs,AG hh',AT]
     rfl
    rw[e7]
    congr 4
    refine BQ PyData.list (BC fun c _ => ?_)
    congr 1
    rw[rgs,AG hh']
    unfold has rI'
    rw[List.any_append,Aa,Aa,Bz]
    simp)
 rw[Aa,Au] at e
 rw[e]
 rfl
theorem wA(l:List Nat):(rI' l).length=l.length:=by unfold rI';simp
theorem yH3(a b:List Nat):rI' (a++b)=rI' a++rI' b:=by unfold rI';simp
theorem xM5{ys:List Int}:sortI ys=rg ys.length↔ys.Perm (rg ys.length):=by
 constructor
 ·intro h
  rw[<-h]
  exact (bG ys).symm
 ·intro h
  exact yT9 ((bG ys).trans h) (aV ys) (xB5 _)
theorem xU4{ns:List Int}(h:ns.length<=63):sortD [tI ns]=some (lI (sortI ns)):=by
 unfold sortD
 simp only[nsD,seqD,AI,intsOf_map]
 rw[Am (by rfl')]
theorem zV5{d:D}{ys:List Int}(hd:d=lI ys\/d=tI ys):bY [d]=.ok (.bool (decide (1<=ys.length/\ys.length<=60/\ys.Perm (rg ys.length)))):=by
 show (bJ [some d]).bind (fin false)=_
 unfold bJ
 have ln:lenD [d]=some (.int (ys.length:Int)):=by
  rcases hd with rfl | rfl
  ·rw[jF];simp only[zP9,Bn,Aa]
  ·rw[jF];simp only[zP5,Bn,Aa]
 by_cases h1:1<=ys.length
 ·by_cases h2:ys.length<=60
  ·have sr:sortD [d]=some (lI (sortI ys)):=by
    rcases hd with rfl | rfl
    ·exact xT5 (by rfl')
    ·exact xU4 (by rfl')
   have d1:decide ((1:Int)<=(ys.length:Int))=true:=Ag (by rfl')
   have d2:decide ((ys.length:Int)<=60)=true:=Ag (by rfl')
   have rl:=yK1 (n:=ys.length) (by rfl')
   rw[show ((List.range ys.length).map fun (i:Nat)=>(i:Int))=rg ys.length from rfl] at rl
   simp -implicitDefEqProofs only[zD3,zO1,zD7,kI,kP,kT,kU,kN,eV0,zD4,kS,zP2,zD5,zO9,Res.bind_ok,Res.lft_some,ln,d1,d2,sr,rl,xC4,if_true]
   congr 2
   rw[Bool.eq_iff_iff,decide_eq_true_iff,decide_eq_true_iff,xM5]
   exact⟨fun z=>⟨h1,h2,z⟩,fun z=>z.2.2⟩
  ·have d1:decide ((1:Int)<=(ys.length:Int))=true:=Ag (by rfl')
   have d2:decide ((ys.length:Int)<=60)=false:=An (by rfl')
   simp -implicitDefEqProofs only[zD3,zO1,zD7,kI,kP,kT,kU,kN,eV0,zD4,kS,zP2,zD5,zO9,Res.bind_ok,Res.lft_some,ln,d1,d2,if_true,AB,if_false]
   congr 2
   symm
   exact An fun z=>h2 z.2.1
 ·have d1:decide ((1:Int)<=(ys.length:Int))=false:=An (by rfl')
  simp -implicitDefEqProofs only[zD3,zO1,zD7,kI,kP,kT,kU,kN,eV0,zD4,kS,zP2,zD5,zO9,Res.bind_ok,Res.lft_some,ln,d1,AB,if_false]
  congr 2
  symm
  exact An fun z=>h1 z.1
theorem xN7{xs:List Int}{a:Nat}(h:a<xs.length)(v:Int):setD (xs.map PyData.int) (.int (a:Int)) (.int v)=some ((xs.set a v).map PyData.int):=by
 unfold setD
 simp only
 rw[Aa,zW4 h,Bn,List.map_set]
def Sq(d:D)(r:List Int):Prop:=d=tI r\/d=lI r
structure Sqs(ds:List D)(R:List (List Int)):Prop where
 len:ds.length=R.length
 each:∀(i:Nat) (d:D),ds[i]?=some d->∃r,R[i]?=some r/\Sq d r
theorem zB8{g:D->Ev->Option Ev}{b:Ev->Res Out}{c:Str}(P:Nat->Ev->Prop)(ds:List D)(ρ:Ev)(j:Nat)(dj:D)(hj:ds[j]?=some dj)(h0:P 0 ρ)(hs:∀(i:Nat) d ρ,i<j->ds[i]?=some d->P i ρ->∃ρ1 ρ2,g d ρ=some ρ1/\b ρ1=.ok (.nx ρ2)/\P (i+1) ρ2)
  (hr:∀ρ,P j ρ->∃ρ1,g dj ρ=some ρ1/\b ρ1=.ex c):L3.forM g b ds ρ=.ex c:=by
 induction ds generalizing P ρ j with
 | nil=>simp at hj
 | cons d ds ih =>
  cases j with
  | zero =>
   simp at hj
   subst hj
   obtain⟨ρ1,e1,e2⟩:=hr ρ h0
   rw[L3.forM,e1,Res.lft_some,Res.bind_ok,e2,Res.bind_ex]
  | succ j =>
   obtain⟨ρ1,ρ2,e1,e2,p⟩:=hs 0 d ρ (Nat.succ_pos _) rfl h0
   rw[L3.forM,e1,Res.lft_some,Res.bind_ok,e2,Res.bind_ok]
   exact ih (fun i=>P (i+1)) ρ2 j (by simpa using hj) p (fun i d ρ hi hd hp=>hs (i+1) d ρ (by rfl') (by simpa using hd) hp) hr
abbrev obB:Ev->Res Out:=sQ (sIf (b2 eqD (eB lenD (aC (eV 2) aN)) (eC (.int 0))) (sRa "BadOrder" (aC (eC (.str "a ring has one box at least")) aN)) sN) (sM 1 extD (aC (eV 2) aN))
theorem yR8{ds:List D}{R:List (List Int)}(q:Sqs ds R)(hl:R.flatten.length<=1000){i:Nat}{d:D}{x:Option D}(hd:ds[i]?=some d)(hne:∀r,R[i]?=some r->r ≠ []):obB [some (.list ds),some (lI (R.take i).flatten),some d,x,none]=.ok (.nx [some (.list ds),some (lI (R.take (i+1)).flatten),some d,x,none]):=by
 obtain⟨r,hr,sq⟩:=q.each i d hd
 have ne:=hne r hr
 have r0:0<r.length:=by cases r with
  | nil=>exact absurd rfl ne
  | cons _ _=>simp
 have tk:R.take (i+1)=R.take i ++ [r]:=by rw[CI,hr];rfl
 have lt:(R.take i).flatten.length+r.length<=1000:=by
  have a:(R.take (i+1)).flatten.length<=R.flatten.length:=by
   conv=>rhs;rw[<-Db (i+1) R]
   rw[CP,Aq]
   rfl'
  rw[tk,CP,Aq,show [r].flatten=r by simp] at a
  rfl'
 have lr:(r.map PyData.int).length=r.length:=by rw[Aa]
 have e2:(R.take (i+1)).flatten=(R.take i).flatten++r:=by rw[tk,CP,show [r].flatten=r by simp]
 rcases sq with rfl | rfl
 ·have ex:=xY2 (l:=(R.take i).flatten.map PyData.int) (k:=r.map PyData.int) (d:=tI r) rfl (by rw[Aa,Aa];exact lt)
  simp![lr,vG,An (show ¬((r.length:Nat):Int)=0 by rfl'),ex]
  rw[e2]
  simp only[lI,AT]
  try rfl
 ·have ex:=xY2 (l:=(R.take i).flatten.map PyData.int) (k:=r.map PyData.int) (d:=lI r) rfl (by rw[Aa,Aa];exact lt)
  simp![lr,vG,An (show ¬((r.length:Nat):Int)=0 by rfl'),ex]
  rw[e2]
  simp only[lI,AT]
  try rfl
theorem yT7{ds:List D}{R:List (List Int)}(q:Sqs ds R)(hl:R.flatten.length<=1000)(h:[]∈R\/¬(1<=R.flatten.length/\R.flatten.length<=60/\R.flatten.Perm (rg R.flatten.length))):wJ [.list ds]=.ex "BadOrder":=by
 show (jJ [some (.list ds),none,none,none,none]).bind (fin false)=_
 unfold jJ
 have m0:∀(i:Nat) (d:D) (ρ:Ev),(∃x,ρ=[some (.list ds),some (lI (R.take i).flatten),x,none,none])->ds[i]?=some d->(∀r,R[i]?=some r->r ≠ [])->∃ρ1 ρ2,gN 2 d ρ=some ρ1/\obB ρ1=.ok (.nx ρ2)/\∃x,ρ2=[some (.list ds),some (lI (R.take (i+1)).flatten),x,none,none]:=by
  rintro i d ρ ⟨x,rfl⟩ hd hne
  exact⟨_,_,rfl,yR8 q hl hd hne,some d,rfl⟩
 by_cases he:[]∈R
 ·obtain⟨j,hj,ej⟩:∃j:Nat,R[j]?=some []/\∀i:Nat,i<j->R[i]?≠some []:=by
   have:∀(L:List (List Int)),[]∈L->∃j:Nat,L[j]?=some []/\∀i:Nat,i<j->L[i]?≠some []:=by
    intro L
    induction L with
    | nil=>exact fun h=>nomatch h
    | cons a L ih =>
     intro h
     by_cases z:a=[]
     ·exact⟨0,by rw[z];rfl,fun i hi=>absurd hi (by rfl')⟩
     ·rcases Aw.mp h with w | w
      ·exact absurd w.symm z
      ·obtain⟨j,h1,h2⟩:=ih w
       refine⟨j+1,by simpa using h1,fun i hi => ?_⟩
       cases i with
       | zero=>simpa using z
       | succ i=>simpa using h2 i (by rfl')
   exact this R he
  have hjl:j<R.length:=(Aj.mp hj).1
  have hjd:j<ds.length:=by rw[q.len];exact hjl
  obtain⟨r,hr,sq⟩:=q.each j ds[j] (Ah hjd)
  rw[hj] at hr
  cases hr
  have fx:L3.forM (gN 2) obB ds [some (.list ds),some (lI (R.take 0).flatten),none,none,none]=.ex "BadOrder":=by
   refine zB8 (c:="BadOrder") (fun i ρ=>∃x,ρ=[some (.list ds),some (lI (R.take i).flatten),x,none,none]) ds _ j ds[j] (Ah hjd) ⟨none,rfl⟩ (fun i d ρ hi hd hp=>m0 i d ρ hp hd fun r hr z=>ej i hi (by rw[hr,z])) ?_
   rintro ρ ⟨x,rfl⟩
   refine⟨_,rfl,?_⟩
   have sl:(1:Nat)<=sizeLine:=by decide
   rcases sq with e | e
   ·show obB [some (.list ds),some (lI (R.take j).flatten),some ds[j],none,none]=_
    rw[e]
    have:(([]:List Int).map PyData.int).length=0:=rfl
    simp![this,vG,xE,show decide (((0:Nat):Int)=0)=true by decide,sl]
   ·show obB [some (.list ds),some (lI (R.take j).flatten),some ds[j],none,none]=_
    rw[e]
    have:(([]:List Int).map PyData.int).length=0:=rfl
    simp![this,vG,xE,show decide (((0:Nat):Int)=0)=true by decide,sl]
  have fx':L3.forM (gN 2) obB ds [some (.list ds),some (.list []),none,none,none]=.ex "BadOrder":=fx
  simp![fx']
 ·have hb:¬(1<=R.flatten.length/\R.flatten.length<=60/\R.flatten.Perm (rg R.flatten.length)):=h.resolve_left he
  simp -implicitDefEqProofs only[(evA)]
  refine zX5 (fun i ρ=>∃x,ρ=[some (.list ds),some (lI (R.take i).flatten),x,none,none]) ⟨none,rfl⟩ (fun i d ρ hd hp=>m0 i d ρ hp hd fun r hr z=>he (by rw[<-z];exact AS hr)) ?_
  rintro ρ ⟨x,rfl⟩
  rw[q.len,Bz]
  have io:=zV5 (d:=lI R.flatten) (ys:=R.flatten) (.inl rfl)
  rw[An hb] at io
  have sl:(1:Nat)<=sizeLine:=by decide
  simp![io,show lfT false (PyData.bool false)=true by decide,xE,sl]
theorem pw_flat{rs:List (List Nat)}(h:rs.flatten.Nodup){i j:Nat}{r r':List Nat}(hi:rs[i]?=some r)(hj:rs[j]?=some r')(hij:i<j):∀x∈r,x∉r':=by
 obtain⟨li,ei⟩:=Aj.mp hi
 obtain⟨lj,ej⟩:=Aj.mp hj
 have:=CL.mp (List.pairwise_flatten.mp h).2 i j li lj hij
 rw[ei,ej] at this
 exact fun x hx hx'=>this x hx x hx' rfl
theorem uW{r:List Nat}{i:Nat}(h:i<r.length):r.getD i 0∈r:=by
 rw[List.getD,Ah h]
 exact Dg h
theorem zA7{r:List Nat}(h:r.Nodup){i j:Nat}(hi:i<r.length)(hj:j<r.length)(e:r.getD i 0=r.getD j 0):i=j:=by
 rw[List.getD,List.getD,Ah hi,Ah hj] at e
 exact (List.getElem_inj h).mp e
theorem xX{ys:List Int}{a b:Nat}{v:Int}(h:a<ys.length):(ys.set a v).getD b 0=if a=b then v else ys.getD b 0:=by
 rw[AO,List.getElem?_set]
 by_cases e:a=b
 ·subst e
  rw[Am rfl,Am rfl,Am h]
  rfl
 ·rw[AG e,AG e,AO]
theorem zA6(r:List Nat)(q:Nat):(rI' r).getD q 0=((r.getD q 0:Nat):Int):=by
 unfold rI'
 rw[List.getD,List.getD,Ak]
 cases r[q]? <;> rfl
def kx(l p:Nat):Nat:=if p=0 then l-1 else p-1
theorem zE8{l p:Nat}(h:p<l):kx l p<l:=by unfold kx;split <;> rfl'
theorem xC6{l p q:Nat}(h:p<l)(h':q<l)(e:kx l p=kx l q):p=q:=by
 unfold kx at e
 split at e <;> split at e <;> rfl'
abbrev obI:Ev->Res Out:=sI 3 (e2 ixD (eV 2) (e2 subI (eV 4) (eC (.int 1)))) (e2 ixD (eV 2) (eV 4))
theorem xJ4{n:Nat}{d0 d1 d:D}{rs:List (List Nat)}{r:List Nat}{i:Nat}{ys:List Int}{y:Option D}(nd:rs.flatten.Nodup)(rn:∀r∈rs,∀x∈r,x<n)(h1000:r.length<=1000)(hr:rs[i]?=some r)(sq:Sq d (rI' r))(hl:ys.length=n)
  (hy:∀i',i'<i->∀r,rs[i']?=some r->∀q,q<r.length->ys.getD (r.getD (kx r.length q) 0) 0=((r.getD q 0:Nat):Int)) :
  ∃(zs:List Int) (y2:Option D),zs.length=n/\(∀i',i'<i+1->∀r,rs[i']?=some r->∀q,q<r.length->zs.getD (r.getD (kx r.length q) 0) 0=((r.getD q 0:Nat):Int))/\sF (iR rng1 (aC (eB lenD (aC (eV 2) aN)) aN)) (gN 4) obI [some d0,some d1,some d,some (lI ys),y]=.ok (.nx [some d0,some d1,some d,some (lI zs),y2]):=by
 have mr:r∈rs:=AS hr
 have nr:r.Nodup:=nd.sublist (Ca mr)
 have lr:((rI' r).map PyData.int).length=r.length:=by rw[Aa,wA]
 have at':∀q,q<r.length->atI ((rI' r).map PyData.int) (q:Int)=some (.int ((r.getD q 0:Nat):Int)):=fun q hq=>by
  rw[yH9 rfl (by rw[wA];exact hq),zA6]
 have at1:∀q,q<r.length->atI ((rI' r).map PyData.int) ((q:Int)-1)=some (.int ((r.getD (kx r.length q) 0:Nat):Int)):=fun q hq=>by
  unfold kx
  by_cases z:q=0
  ·subst z
   rw[Am rfl,show (((0:Nat):Int)-1)=-1 by rfl',yU8 (n:=r.length-1) (by rw[wA];rfl'),zA6]
  ·rw[AG z,show ((q:Int)-1)=((q-1:Nat):Int) by rfl',yH9 rfl (by rw[wA];rfl'),zA6]
 obtain⟨ρ2,e2,zs,y2,hl2,hz,hz2,rfl⟩:=vH (g:=gN 4) (b:=obI)
  (fun q ρ=>∃(zs:List Int) (y:Option D),zs.length=n/\(∀i',i'<i->∀r,rs[i']?=some r->∀q,q<r.length->zs.getD (r.getD (kx r.length q) 0) 0=((r.getD q 0:Nat):Int))/\(∀q',q'<q->q'<r.length->zs.getD (r.getD (kx r.length q') 0) 0=((r.getD q' 0:Nat):Int))/\ρ=[some d0,some d1,some d,some (lI zs),y])
  ((List.range r.length).map fun (i:Nat)=>PyData.int (i:Int)) [some d0,some d1,some d,some (lI ys),y] ⟨ys,y,hl,hy,fun q' h=>absurd h (by rfl'),rfl⟩ (by
   rintro q e ρ hd ⟨zs,y,hl,hz,hz2,rfl⟩
   obtain⟨hq,rfl⟩:=zL4 hd
   have kq:=zE8 hq
   have mk:=uW kq
   have sd:=xN7 (xs:=zs) (a:=r.getD (kx r.length q) 0) (by rw[hl];exact rn r mr _ mk) ((r.getD q 0:Nat):Int)
   refine⟨_,_,rfl,?_,zs.set (r.getD (kx r.length q) 0) ((r.getD q 0:Nat):Int),some (.int (q:Int)),by rw[Cj,hl],?_,?_,rfl⟩
   ·rcases sq with rfl | rfl
    ·simp![at' q hq,at1 q hq,sd]
    ·simp![at' q hq,at1 q hq,sd]
   ·intro i' hi' r' hr' q' hq'
    have ne:¬r.getD (kx r.length q) 0=r'.getD (kx r'.length q') 0:=fun z=>pw_flat nd hr' hr hi' _ (uW (zE8 hq')) (by rw[<-z];exact mk)
    rw[xX (by rw[hl];exact rn r mr _ mk),AG ne]
    exact hz i' hi' r' hr' q' hq'
   ·intro q' h1 h2
    rw[xX (by rw[hl];exact rn r mr _ mk)]
    by_cases z:q'=q
    ·subst z
     rw[Am rfl]
    ·have ne:¬r.getD (kx r.length q) 0=r.getD (kx r.length q') 0:=fun w=>z (xC6 hq h2 (zA7 nr kq (zE8 h2) w)).symm
     rw[AG ne]
     exact hz2 q' (by rfl') h2)
 rw[Aa,Au] at hz2
 refine⟨zs,y2,hl2,fun i' hi' r' hr' q' hq' => ?_,?_⟩
 ·by_cases z:i'=i
  ·subst z
   rw[hr] at hr'
   cases hr'
   exact hz2 q' hq' hq'
  ·exact hz i' (by rfl') r' hr' q' hq'
 ·rcases sq with rfl | rfl
  ·simp![lr,jA h1000]
   exact e2
  ·simp![lr,jA h1000]
   exact e2
theorem xK9(L:List (List Nat))(h:∀r∈L,0<r.length):L.length<=L.flatten.length:=by
 induction L with
 | nil=>exact Ai _
 | cons r L ih =>
  have a:=h r (Ac ..)
  have b:=ih fun r hr=>h r (Ae _ hr)
  rw[AQ,Bt,Aq]
  rfl'
theorem aR{n:Nat}{ds:List D}{rs:List (List Nat)}(q:Sqs ds (rs.map rI'))(p:rs.flatten.Perm (List.range n))(h1:1<=n)(h2:n<=60)(pos:∀r∈rs,0<r.length) :
  ∃ys:List Int,ys.length=n/\(∀r∈rs,∀q,q<r.length->ys.getD (r.getD (kx r.length q) 0) 0=((r.getD q 0:Nat):Int))/\wJ [.list ds]=.ok (tI ys):=by
 have nd:rs.flatten.Nodup:=p.nodup_iff.mpr De
 have lf:rs.flatten.length=n:=by rw[p.length_eq,Au]
 have rl:∀r∈rs,r.length<=n:=fun r hr=>by
  have:=(Ca hr).length_le
  rfl'
 have rn:∀r∈rs,∀x∈r,x<n:=fun r hr x hx=>AA.mp (p.mem_iff.mp (Cq.mpr ⟨r,hr,hx⟩))
 have ef:(rs.map rI').flatten=rI' rs.flatten:=by unfold rI';rw[List.map_flatten]
 have lfl:(rs.map rI').flatten.length=n:=by rw[ef,wA,lf]
 have x0:Option D:=none
 obtain⟨ρ1,e1,x,rfl⟩:=vH (g:=gN 2) (b:=obB) (fun i ρ=>∃x,ρ=[some (.list ds),some (lI ((rs.map rI').take i).flatten),x,none,none]) ds [some (.list ds),some (.list []),none,none,none] ⟨none,rfl⟩ (by
  rintro i d ρ hd ⟨x,rfl⟩
  refine⟨_,_,rfl,yR8 q (by rfl') hd (fun r hr z => ?_),some d,rfl⟩
  rw[Ak] at hr
  obtain⟨r',hr',rfl⟩:=Av.mp hr
  have:=pos r' (AS hr')
  have z':=BQ List.length z
  rw[wA] at z'
  simp at z'
  rw[z'] at this
  simp at this)
 rw[q.len,Bz,ef] at e1
 obtain⟨ρ2,e2,ys,x2,y2,hl,hy,rfl⟩:=vH (g:=gN 2) (b:=sF (iR rng1 (aC (eB lenD (aC (eV 2) aN)) aN)) (gN 4) obI)
  (fun i ρ=>∃(ys:List Int) (x y:Option D),ys.length=n/\(∀i',i'<i->∀r,rs[i']?=some r->∀q,q<r.length->ys.getD (r.getD (kx r.length q) 0) 0=((r.getD q 0:Nat):Int))/\ρ=[some (.list ds),some (lI (rI' rs.flatten)),x,some (lI ys),y])
  ds [some (.list ds),some (lI (rI' rs.flatten)),x,some (lI (List.replicate n 0)),none] ⟨List.replicate n 0,_,_,BO,fun i' h=>absurd h (by rfl'),rfl⟩ (by
   rintro i d ρ hd ⟨ys,x,y,hl,hy,rfl⟩
   obtain⟨r',hr',sq⟩:=q.each i d hd
   rw[Ak] at hr'
   obtain⟨r,hr,rfl⟩:=Av.mp hr'
   obtain⟨zs,y2,hl2,hz,e⟩:=xJ4 (d0:=.list ds) (d1:=lI (rI' rs.flatten)) (y:=y) nd rn (by have:=rl r (AS hr);rfl') hr sq hl hy
   exact⟨_,_,rfl,e,zs,some d,y2,hl2,hz,rfl⟩)
 refine⟨ys,hl,fun r hr q' hq => ?_,?_⟩
 ·obtain⟨i,hi,er⟩:=List.mem_iff_getElem.mp hr
  exact hy i (by rw[q.len,Aa];exact hi) r (by rw[Ah hi,er]) q' hq
 ·show (jJ [some (.list ds),none,none,none,none]).bind (fin false)=_
  unfold jJ
  have io:=zV5 (d:=lI (rI' rs.flatten)) (ys:=rI' rs.flatten) (.inl rfl)
  have pr:(rI' rs.flatten).Perm (rg n):=p.map _
  rw[Ag ⟨by rw[wA,lf];exact h1,by rw[wA,lf];exact h2,by rw[wA,lf];exact pr⟩] at io
  have lb:((rI' rs.flatten).map PyData.int).length=n:=by rw[Aa,wA,lf]
  have rp:repL (.list [.int 0]) (.int ((n:Nat):Int))=some (lI (List.replicate n 0)):=by
   rw[yY4 _ _ (by rfl'),lI,List.map_replicate]
  simp![e1,io,show lfT false (PyData.bool true)=true by decide,lb,rp]
  rw[e2]
  simp -implicitDefEqProofs only[(evA)]
structure Opn(n:Nat)(ops:List Int):Prop where
 len:ops.length=n
 bd:∀x∈ops,0<=x/\x<=n
theorem fR{n:Nat}{ops:List Int}(p:Opn n ops)(h1:1<=n)(h2:n<=60):wI [.int n,tI ops]=.ok (tI ops):=by
 show (wK [some (.int n),some (tI ops)]).bind (fin false)=_
 unfold wK
 have hne:ops ≠ []:=fun z=>by have:=p.len;rw[z] at this;simp at this;rfl'
 have a1:=p.bd _ (yY8 hne)
 have a2:=p.bd _ (yV3 hne)
 simp![Aa,p.len,xO,yR5 hne,yS3 hne,Ag (show (1:Int)<=(n:Int) by rfl'),Ag (show (n:Int)<=60 by rfl'),decide_true,An (show ¬minL ops<0 by rfl'),An (show ¬(n:Int)<maxL ops by rfl')]
def BadO(p:Int)(ys:List Int):Prop:=¬(1<=p/\p<=60/\(ys.length:Int)=p/\∀y∈ys,0<=y/\y<=p)
theorem zS4{d:D}{ys:List Int}(hd:d=lI ys\/d=tI ys){p:Int}(h:BadO p ys):wI [.int p,d]=.ex "BadOpenings":=by
 show (wK [some (.int p),some d]).bind (fin false)=_
 unfold wK
 have ln:lenD [d]=some (.int (ys.length:Int)):=by
  rcases hd with rfl | rfl
  ·rw[jF];simp only[zP9,Bn,Aa]
  ·rw[jF];simp only[zP5,Bn,Aa]
 have z1:(if ([PyData.str "openings are for 1 to 60 people"]:List D).length<=sizeLine then (Res.ex "BadOpenings":Res Out) else .no)=.ex "BadOpenings":=Am (by decide)
 have z2:(if ([PyData.str "each person has its openings"]:List D).length<=sizeLine then (Res.ex "BadOpenings":Res Out) else .no)=.ex "BadOpenings":=Am (by decide)
 have z3:(if ([PyData.str "openings are from 0 to as many as there are boxes"]:List D).length<=sizeLine then (Res.ex "BadOpenings":Res Out) else .no)=.ex "BadOpenings":=Am (by decide)
 by_cases p1:1<=p
 ·by_cases p2:p<=60
  ·by_cases p3:(ys.length:Int)=p
   ·have hne:ys ≠ []:=fun z=>by rw[z] at p3;simp at p3;rfl'
    have mn:min1D [d]=some (.int (minL ys)):=by
     rcases hd with rfl | rfl
     ·exact xP8 hne
     ·exact yR5 hne
    have mx:max1D [d]=some (.int (maxL ys)):=by
     rcases hd with rfl | rfl
     ·exact xO1 hne
     ·exact yS3 hne
    have hex:minL ys<0\/p<maxL ys:=by
     by_cases c1:minL ys<0
     ·exact .inl c1
     ·by_cases c2:p<maxL ys
      ·exact .inr c2
      ·refine absurd ⟨p1,p2,p3,fun y hy => ?_⟩ h
       have:=yS5 hy
       have:=yR3 hy
       rfl'
    rcases hex with c | c
    ·simp -implicitDefEqProofs only[bK,gC,fL,zO6,kI,zO8,kP,kT,kU,kN,eV0,eVs,kS,zN4,xE,Res.bind_ok,Res.bind_ex,Res.lft_some,ln,mn,mx,xO,Ag p1,Ag p2,Ag p3,Ag c,if_true,if_false,BS,Bv,AB,z3]
    ·by_cases c1:minL ys<0
     ·simp -implicitDefEqProofs only[bK,gC,fL,zO6,kI,zO8,kP,kT,kU,kN,eV0,eVs,kS,zN4,xE,Res.bind_ok,Res.bind_ex,Res.lft_some,ln,mn,mx,xO,Ag p1,Ag p2,Ag p3,Ag c1,if_true,if_false,BS,Bv,AB,z3]
     ·simp -implicitDefEqProofs only[bK,gC,fL,zO6,kI,zO8,kP,kT,kU,kN,eV0,eVs,kS,zN4,xE,Res.bind_ok,Res.bind_ex,Res.lft_some,ln,mn,mx,xO,Ag p1,Ag p2,Ag p3,An c1,Ag c,if_true,if_false,BS,Bv,AB,z3]
   ·simp -implicitDefEqProofs only[bK,gC,fL,zO6,kI,zO8,kP,kT,kU,kN,eV0,eVs,kS,zN4,xE,Res.bind_ok,Res.bind_ex,Res.lft_some,ln,xO,Ag p1,Ag p2,An p3,if_true,if_false,BS,Bv,AB,z2]
  ·simp -implicitDefEqProofs only[bK,gC,fL,kI,kP,kT,kU,kN,eV0,eVs,kS,xE,Res.bind_ok,Res.bind_ex,Res.lft_some,Ag p1,An p2,if_true,if_false,BS,Bv,AB,z1]
 ·simp -implicitDefEqProofs only[bK,gC,fL,kI,kP,kT,kU,kN,eV0,eVs,kS,xE,Res.bind_ok,Res.bind_ex,Res.lft_some,An p1,if_true,if_false,BS,Bv,AB,z1]
theorem Opn.at{n:Nat}{ops:List Int}(q:Opn n ops){p:Nat}(h:p<n):0<=ops.getD p 0/\ops.getD p 0<=n:=q.bd _ (MR.getD_mem (by rw[q.len];exact h))
theorem xP5{n:Nat}{ops:List Int}(q:Opn n ops){p:Nat}(h:p<n):atI (ops.map PyData.int) (p:Int)=some (.int ((ops.getD p 0).toNat:Int)):=by
 have:=q.at h
 rw[uH,uN (by rw[q.len];exact h),Bn]
 congr 2
 rfl'
theorem xG5{n i:Nat}(f:Nat->D)(h:i<n):atI ((List.range n).map f) (i:Int)=some (f i):=by
 unfold atI
 rw[Aa,Au,zW4 h,AI,Ak,Ay h]
 rfl
theorem cT(n:Nat)(f:Nat->D):enumD ((List.range n).map f)=(List.range n).map fun (i:Nat)=>PyData.tuple [.int (i:Int),f i]:=by
 unfold enumD
 rw[Aa,Au]
 refine BC fun i hi => ?_
 rw[List.getD,Ak,Ay (AA.mp hi)]
 rfl
theorem jZ{n:Nat}{ops:List Int}(q:Opn n ops)(h1:1<=n)(h2:n<=6):yC [tI ops]=.ok (tI ops):=by
 show (xR [some (tI ops)]).bind (fin false)=_
 unfold xR
 simp![Aa,q.len,An (show ¬(6:Int)<(n:Int) by rfl'),fR q h1 (show n<=60 by rfl')]
inductive TreeOk(n:Nat):Nat->List Int->List Int->D->Prop
 | none {l:Nat}{bs ns:List Int}:TreeOk n l bs ns .none
 | node {l:Nat}{bs ns:List Int}(b:Nat) (f:Nat->D):b<n->bs.contains (b:Int)=false->(∀i,i<n->ns.contains (i:Int)=true->f i=.none)->(∀i,i<n->TreeOk n l (bs ++ [(b:Int)]) (ns ++ [(i:Int)]) (f i))->TreeOk n (l+1) bs ns (.tuple [.int (b:Int),.tuple ((List.range n).map f)])
structure PlanOk(n:Nat)(ops:List Int)(t:Nat->D):Prop where
 tree:∀p,p<n->TreeOk n (ops.getD p 0).toNat [] [(p:Int)] (t p)
theorem zS2(g:Nat->Int->D×Int)(p:Int):∀k,(runG g k p).1=(List.range k).map fun i=>(g i (runG g i p).2).1
 | 0=>rfl
 | k+1=>by
  rw[runG,zS2 g p k,BM,AT]
  rfl
theorem xD9(ws:W2)(b i:Nat):wB (ws ++ [(b,i)])=wB ws ++ [(b:Int)]:=by rw[wB,AT];rfl
theorem xF7(p:Nat)(ws:W2)(b i:Nat):wN p (ws ++ [(b,i)])=wN p ws ++ [(i:Int)]:=by rw[wN,AT];rfl
theorem yG5{n p:Nat}(n0:0<n):∀(l:Nat) (ws:W2) (q:Int),ws.length+l<=n->TreeOk n l (wB ws) (wN p ws) (trH n p l ws q).1
 | 0,ws,q,_=>.none
 | l+1,ws,q,h=>by
  by_cases c:q%((n:Int)+1)=(n:Int)
  ·rw[yQ8 c]
   exact .none
  ·have q0:=CQ q (show ((n:Int)+1)≠0 by rfl')
   have q1:=CU q (show (0:Int)<(n:Int)+1 by rfl')
   have hd:(q%((n:Int)+1)).toNat<n:=by rfl'
   obtain⟨f1,f2⟩:=zR3 n (wB ws) n _ (yX7 (n:=n) (bs:=wB ws) (by rw[Aa];rfl') _ hd) hd
   rw[yD7 c rfl,zS2]
   generalize frB n (wB ws) n (q%((n:Int)+1)).toNat=b at f1 f2
   refine .node b _ f2 f1 (fun i hi c => ?_) fun i hi => ?_
   ·unfold nxH
    rw[Am c]
   ·by_cases c:(wN p ws).contains (i:Int)=true
    ·have e:∀z:Int,(nxH n p l ws b i z).1=.none:=fun z=>by unfold nxH;rw[Am c]
     rw[e]
     exact .none
    ·have e:∀z:Int,nxH n p l ws b i z=trH n p l (ws ++ [(b,i)]) z:=fun z=>by unfold nxH;rw[AG c]
     rw[e,<-xD9,<-xF7]
     exact yG5 n0 l _ _ (by rw[Aq];simp;rfl')
theorem yI4{n:Nat}(cell most:Int)(h1:1<=n)(h2:n<=6)(m0:0<=most)(m1:most<=(n:Int)):∃(ops:List Int) (t:Nat->D),Opn n ops/\PlanOk n ops t/\(∀x∈ops,x<=most)/\qE [.int cell,.int (n:Int),.int most]=.ok (.tuple [tI ops,.tuple ((List.range n).map t)]):=by
 have e:qE [.int cell,.int (n:Int),.int most]=.ok (plH n most cell):=xK4 h1 h2 m0 m1
 have b:=fun i=>yC3 (n:=n) (most:=most) (cell:=cell) m0 i
 have g:∀i,i<n->(opsH n most cell).getD i 0=opH n most cell i:=fun i hi=>by
  unfold opsH
  rw[List.getD,Ak,Ay hi]
  rfl
 refine⟨opsH n most cell,fun i=>(nxP n most cell i (runG (nxP n most cell) i (pwD ((n:Int)+1) cell n)).2).1,⟨by unfold opsH;simp,fun o ho => ?_⟩,⟨fun p hp => ?_⟩,fun o ho => ?_,?_⟩
 ·unfold opsH at ho
  obtain⟨i,_,rfl⟩:=AJ.mp ho
  have:=b i
  exact⟨this.1,by rfl'⟩
 ·rw[g p hp]
  exact yG5 (p:=p) (by rfl') _ [] _ (by have:=b p;show 0+_<=n;rfl')
 ·unfold opsH at ho
  obtain⟨i,_,rfl⟩:=AJ.mp ho
  exact (b i).2
 ·rw[e]
  unfold plH trsH
  rw[zS2]
def numT(b:Nat):Str:=toString (b:Int)
def rT(r:List Nat):Str:=Str.join " " (r.map numT)
theorem xD:∀b,b<61->((numT b).length<=2/\Txt.isdigit (numT b)=true/\(Txt.startswith (numT b) "0" = false\/numT b="0")/\PySem.intText? (numT b)=some (b:Int))/\41∉tl (numT b)/\32∉tl (numT b)/\((b:Int).natAbs.log2<1920)/\PyData.strOk (numT b)=true/\45∉tl (numT b)/\40∉tl (numT b)/\tl (numT b) ≠ []/\10∉tl (numT b):=by decide +kernel
theorem yR9{sep:Str}{ts:List Str}(hs:sep.length<=2)(hl:ts.length<=60)(ht:∀t∈ts,t.length<=200):JoinOk sep ts=true/\(Str.join sep ts).length<=202*ts.length:=by
 have h1:=BU 200 hl
 have h2:=Nat.mul_le_mul_left ts.length hs
 refine⟨?_,?_⟩
 ·unfold JoinOk
  rw[StrLaws.joinFits ht (by rfl')]
  rfl
 ·have a:=StrLaws.join_length_le sep ts
  have b:=StrLaws.sumLen_le ts ht
  rfl'
theorem bM{sep:Str}{ts:List Str}(h:JoinOk sep ts=true):joinD sep (.list (ts.map PyData.str))=some (.str (Str.join sep ts)):=by
 unfold joinD
 rw[show lstD (.list (ts.map PyData.str))=some (ts.map PyData.str) from rfl,AI,zO5,AI,Am h]
theorem gX{z:Str}(h:PyData.strOk z=true):SeqAt.shaped (.str z)=true:=by
 unfold SeqAt.shaped
 rw[PyData.canLay0,PyData.depth,h]
 rfl
theorem zW3{a b:Str}(ha:PyData.strOk a=true)(hb:PyData.strOk b=true):neD (.str a) (.str b)=some (!decide (a=b)):=by
 unfold neD
 rw[Am ⟨gX ha,gX hb⟩,PyData.eqv]
 by_cases e:a=b <;> simp[e]
theorem xN8{a b:Str}(ha:PyData.strOk a=true)(hb:PyData.strOk b=true):eqD (.str a) (.str b)=some (decide (a=b)):=by
 unfold eqD
 rw[Am ⟨gX ha,gX hb⟩,PyData.eqv]
 by_cases e:a=b <;> simp[e]
theorem xK2{z:Str}:PyData.strOk z=true ↔ ∀c∈tl z,c<1114112:=by
 unfold PyData.strOk tl
 rw[<-Array.all_toList,AW]
 exact⟨fun h c hc=>of_decide_eq_true (h c hc),fun h c hc=>Ag (h c hc)⟩
theorem vT{a b:Str}(ha:PyData.strOk a=true)(hb:PyData.strOk b=true):PyData.strOk (a++b)=true:=by
 rw[xK2] at ha hb ⊢
 intro c hc
 rw[zB] at hc
 rcases AE.mp hc with h | h
 ·exact ha c h
 ·exact hb c h
theorem fM{y:Str}(hy:PyData.strOk y=true):∀ts:List Str,(∀t∈ts,PyData.strOk t=true)->PyData.strOk (Str.join y ts)=true
 | [],_=>(by decide +kernel:PyData.strOk Str.empty=true)
 | [t],h=>h t Ac
 | t::u::r,h=>by
  rw[xS]
  exact vT (vT (h t Ac) hy) (fM hy (u::r) fun x hx=>h x (Ae _ hx))
theorem vQ:100000<=sizeLine:=by decide
theorem zB1{r:List Nat}(hr:∀x∈r,x<61)(hl:r.length<=60):(rT r).length<=180:=by
 have a:=StrLaws.join_length_le " " (r.map numT)
 have b:=StrLaws.sumLen_le (B:=2) (r.map numT) fun y hy=>by
  obtain⟨x,hx,rfl⟩:=AJ.mp hy
  exact (xD x (hr x hx)).1.1
 rw[Aa] at a b
 have c:(" ":Str).length=1:=rfl
 unfold rT
 rw[c] at a
 rfl'
theorem xX8{r:List Nat}{d:D}(hd:d=tI (rI' r)\/d=lI (rI' r))(hr:∀x∈r,x<61)(hl:r.length<=60):eComp (iS (eV 0)) tYes (eB strOfD (aC (eV 0) aN)) [] [some d]=.ok (.list ((r.map numT).map PyData.str)):=by
 rw[AR]
 refine fF (fun b:Nat=>PyData.int (b:Int)) (fun b=>PyData.str (numT b)) r (by
  rcases hd with rfl | rfl
  ·simp -implicitDefEqProofs only[(evA)]
   unfold rI'
   rw[AR]
   rfl
  ·simp -implicitDefEqProofs only[(evA)]
   unfold rI'
   rw[AR]
   rfl) (by rfl') fun b hb => ?_
 have h:=xD b (hr b hb)
 show eB strOfD (aC (eV 0) aN) [some (.int (b:Int))]=_
 have e:strOfD [.int (b:Int)]=some (.str (numT b)):=Am h.2.2.2.1
 simp![e]
theorem xW8{r:List Nat}(hr:∀x∈r,x<61)(hl:r.length<=60):joinD " " (.list ((r.map numT).map PyData.str))=some (.str (rT r)):=by
 refine bM (yR9 (by decide) (by rw[Aa];exact hl) fun t ht => ?_).1
 obtain⟨x,hx,rfl⟩:=AJ.mp ht
 have:=(xD x (hr x hx)).1.1
 rfl'
theorem dM{r:List Nat}{d:D}(hd:d=tI (rI' r)\/d=lI (rI' r))(hr:∀x∈r,x<61)(hl:r.length<=60):vX [d]=.ok (.str (rT r)):=by
 show (jD [some d]).bind (fin false)=_
 unfold jD
 simp![yB,yV,xX8 hd hr hl,xW8 hr hl]
theorem xO4{r:List Nat}(hr:∀x∈r,x<61)(hn:r ≠ []):Txt.split (rT r) " " = r.map numT :=
 jR (c:=32) (y':=[]) rfl (by decide +kernel) (fun z=>hn (BY.mp z)) fun p hp=>by
  obtain⟨x,hx,rfl⟩:=AJ.mp hp
  exact (xD x (hr x hx)).2.2.1
def wT(r:List Nat):Str:="("++rT r ++ ")"
def ordT(n:Nat)(xs:List Int):Str:=Str.join "" ((rgs n xs n).map wT)
theorem yY5{r:List Nat}(hr:∀x∈r,x<61)(hl:r.length<=60):qY [tI (rI' r)]=.ok (.str (wT r)):=by
 have l:=zB1 hr hl
 have c:("(":Str).length+(rT r).length+(")":Str).length<=sizeLine:=by
  have c1:("(":Str).length=1:=rfl
  have c2:(")":Str).length=1:=rfl
  have:=vQ
  rfl'
 have e:filD "(" ")" (.str (rT r))=some (.str (wT r)):=by
  unfold filD
  rw[yV,AI,Am c]
  rfl
 show (dB [some (tI (rI' r)),none]).bind (fin false)=_
 unfold dB
 simp![dM (.inl rfl) hr hl,e]
structure Rs(rs:List (List Nat)):Prop where
 few:rs.length<=60
 ne:rs ≠ []
 ring:∀r∈rs,(∀x∈r,x<61)/\r.length<=60/\r ≠ []
theorem zN2{n:Nat}{xs:List Int}(o:Ord n xs)(h1:1<=n)(h2:n<=60):Rs (rgs n xs n):=by
 have p:=flatP o
 have c:=xM9 o
 have ne:∀r∈rgs n xs n,r ≠ []:=fun r hr=>by
  obtain⟨a,ys,rfl,_⟩:=c.1 r hr
  exact fun z=>nomatch z
 have lf:(rgs n xs n).flatten.length=n:=by rw[p.length_eq,Au]
 have few:∀L:List (List Nat),(∀r∈L,r ≠ [])->L.length<=L.flatten.length:=fun L=>by
  induction L with
  | nil=>exact fun _=>Ai _
  | cons r L ih =>
   intro h
   have a:=Bj.mpr (h r Ac)
   have b:=ih fun r hr=>h r (Ae _ hr)
   rw[AQ,Bt,Aq]
   rfl'
 have f:=few _ ne
 refine⟨by rfl',fun z => ?_,fun r hr=>⟨fun x hx => ?_,?_,ne r hr⟩⟩
 ·rw[z] at lf
  have:0=n:=lf
  rfl'
 ·have:=AA.mp (p.mem_iff.mp (Cq.mpr ⟨r,hr,hx⟩))
  rfl'
 ·have:=(Ca hr).length_le
  rfl'
theorem xC5{r:List Nat}(hr:∀x∈r,x<61)(hl:r.length<=60):(wT r).length<=182:=by
 have l:=zB1 hr hl
 have c1:("(":Str).length=1:=rfl
 have c2:(")":Str).length=1:=rfl
 unfold wT
 rw[Af,Af,c1,c2]
 rfl'
theorem xG7{rs:List (List Nat)}(q:Rs rs):joinD "" (.list ((rs.map wT).map PyData.str))=some (.str (Str.join "" (rs.map wT)))/\(Str.join "" (rs.map wT)).length<=12120:=by
 have h:=yR9 (sep:="") (ts:=rs.map wT) (by decide) (by rw[Aa];exact q.few) fun t ht=>by
  obtain⟨r,hr,rfl⟩:=AJ.mp ht
  have:=xC5 (q.ring r hr).1 (q.ring r hr).2.1
  rfl'
 refine⟨bM h.1,?_⟩
 have a:=h.2
 have b:=q.few
 rw[Aa] at a
 rfl'
theorem xO6{n:Nat}{xs:List Int}(q:Rs (rgs n xs n)):PyData.strOk (ordT n xs)=true:=by
 refine fM (by decide +kernel) _ fun t ht => ?_
 obtain⟨r,hr,rfl⟩:=AJ.mp ht
 refine vT (vT (by decide +kernel) (fM (by decide +kernel) _ fun t ht => ?_)) (by decide +kernel)
 obtain⟨x,hx,rfl⟩:=AJ.mp ht
 exact (xD x ((q.ring r hr).1 x hx)).2.2.2.2.1
theorem qS{n:Nat}{xs:List Int}(o:Ord n xs)(h1:1<=n)(h2:n<=60):uU [tI xs]=.ok (.str (ordT n xs)):=by
 have q:=zN2 o h1 h2
 have cc:eComp (iS (eF vR (aC (eV 0) aN))) tYes (eF qY (aC (eV 0) aN)) [] [some (tI xs)]=.ok (.list (((rgs n xs n).map wT).map PyData.str)):=by
  rw[AR]
  refine fF (fun r:List Nat=>tI (rI' r)) (fun r=>PyData.str (wT r)) (rgs n xs n) (by
   simp![zU4 o (show n<=1000 by rfl')]
   unfold ringsD
   rw[AR]
   rfl) (by have:=q.few;rfl') fun r hr => ?_
  show eF qY (aC (eV 0) aN) [some (tI (rI' r))]=_
  simp![yY5 (q.ring r hr).1 (q.ring r hr).2.1]
 show (fN [some (tI xs)]).bind (fin false)=_
 unfold fN
 simp![yB,yV,cc,(xG7 q).1]
 rfl
theorem xF6{r:List Nat}(hr:∀x∈r,x<61):41∉tl (rT r):=by
 have:∀l:List Nat,(∀x∈l,x<61)->41∉tl (Str.join " " (l.map numT)):=fun l=>by
  induction l with
  | nil=>exact fun _ z=>by cases z
  | cons a l ih =>
   intro h
   have ha:=(xD a (h a Ac)).2.1
   cases l with
   | nil=>exact ha
   | cons b l =>
    rw[AF,AF,xS,zB,zB]
    intro z
    rcases AE.mp z with z | z
    ·rcases AE.mp z with z | z
     ·exact ha z
     ·exact absurd z (by decide)
    ·exact ih (fun x hx=>h x (Ae _ hx)) z
 exact this r hr
theorem xX2{rs:List (List Nat)}(q:Rs rs):Txt.split (Str.join ")(" (rs.map rT)) ")(" = rs.map rT :=
 jR (c:=41) (y':=[40]) rfl (by decide +kernel) (fun z=>q.ne (BY.mp z)) fun p hp=>by
  obtain⟨r,hr,rfl⟩:=AJ.mp hp
  exact xF6 (q.ring r hr).1
theorem xH2{rs:List (List Nat)}(q:Rs rs):Txt.slice (Str.join "" (rs.map wT)) (some 1) (some (-1))=Str.join ")(" (rs.map rT):=by
 have e:=zI2 (rs.map rT) fun z=>q.ne (BY.mp z)
 rw[AR] at e
 have e':Str.join "" (rs.map wT)="("++Str.join ")(" (rs.map rT) ++ ")":=e
 rw[e']
 exact xY4 rfl rfl
theorem yU3{α:Type}{f:D->Res D}(A q:α->D):∀xs:List α,(∀x∈xs,f (A x)=.ok (q x))->compX (fun _=>.ok true) f (xs.map A)=.ok (xs.map q)
 | [],_=>rfl
 | x::xs,h=>by
  rw[AF,compX,Res.bind_ok,Am rfl,h x Ac,Res.bind_ok,yU3 A q xs fun y hy=>h y (Ae _ hy)]
  rfl
theorem yZ1{α:Type}{f:D->Res D}{c:Str}(A:α->D):∀xs:List α,(∀x∈xs,(∃d,f (A x)=.ok d)\/f (A x)=.ex c)->(∃x∈xs,f (A x)=.ex c)->compX (fun _=>.ok true) f (xs.map A)=.ex c
 | [],_,he=>by
  obtain⟨x,hx,_⟩:=he
  cases hx
 | x::xs,h,he=>by
  rw[AF,compX,Res.bind_ok,Am rfl]
  rcases h x Ac with ⟨d,e⟩ | e
  ·obtain⟨y,hy,ey⟩:=he
   rcases Aw.mp hy with rfl | hy
   ·rw[e] at ey
    cases ey
   ·rw[e,Res.bind_ok,yZ1 A xs (fun y hy=>h y (Ae _ hy)) ⟨y,hy,ey⟩]
    rfl
  ·rw[e]
   rfl
theorem zI1{mi:Ev->Res (List D)}{me:Ev->Res D}{js:List Nat}{ρ:Ev}{α:Type}(A q:α->D)(xs:List α)(h:mi ρ=.ok (xs.map A))(hl:xs.length<=1000)(hf:∀x∈xs,me (cEnv ρ js (A x))=.ok (q x)):eCompX mi tYes me js ρ=.ok (.list (xs.map q)):=by
 unfold eCompX
 rw[h,Res.bind_ok,cQ (by rw[Aa];exact hl)]
 rw[show (compX (fun x=>tYes (cEnv ρ js x)) (fun x=>me (cEnv ρ js x)) (xs.map A))=.ok (xs.map q) from yU3 A q xs hf]
 rfl
theorem zG8{mi:Ev->Res (List D)}{me:Ev->Res D}{js:List Nat}{ρ:Ev}{α:Type}{c:Str}(A:α->D)(xs:List α)(h:mi ρ=.ok (xs.map A))(hl:xs.length<=1000)(hf:∀x∈xs,(∃d,me (cEnv ρ js (A x))=.ok d)\/me (cEnv ρ js (A x))=.ex c)(he:∃x∈xs,me (cEnv ρ js (A x))=.ex c):eCompX mi tYes me js ρ=.ex c:=by
 unfold eCompX
 rw[h,Res.bind_ok,cQ (by rw[Aa];exact hl)]
 rw[show (compX (fun x=>tYes (cEnv ρ js x)) (fun x=>me (cEnv ρ js x)) (xs.map A))=.ex c from yZ1 A xs hf he]
 rfl
abbrev BT:Str:="BadText"
theorem raR{m:Ev->Res (List D)}{ρ:Ev}{r:Int}(h0:0<=r/\r<16)(h:m ρ=.ok [.int r]):sRaI (fun _=>"BadText") m ρ=.ex ((fun _=>"BadText") r):=by
 unfold sRaI
 rw[h,Res.bind_ok]
 exact Am h0
theorem ra1{m:Ev->Res (List D)}{ρ:Ev}(h:m ρ=.ok [.int 1]):sRaI (fun _=>"BadText") m ρ=.ex BT:=raR (by decide) h
def Wd(w:Str):Prop:=Fig w/\w.length<=90/\(Txt.startswith w "0" = true->w="0")
theorem gL{B:Nat}{w:Str}(h:Tx B w){r:Int}(h0:0<=r/\r<16)(hB:autoParam (B<=20000) Dy):(Wd w/\zF [.str w,.int r]=.ok (.int (dv w:Int)))\/(¬Wd w/\zF [.str w,.int r]=.ex ((fun _=>"BadText") r)):=by
 have lb:=vQ
 have l:=h.len
 have e1:lenTD [.str w]=some (.int (w.length:Int)):=Am (by rfl')
 have e3:stwD w (.str "0")=some (.bool (Txt.startswith w "0")):=rfl
 have e4:=zW3 h.ok (show PyData.strOk "0" = true by decide +kernel)
 have ra:sRaI (fun _=>"BadText") (aC (eV 1) aN) [some (.str w),some (.int r)]=.ex ((fun _=>"BadText") r):=raR h0 rfl
 show (Wd w/\(qL [some (.str w),some (.int r)]).bind (fin false)=_)\/(¬Wd w/\(qL [some (.str w),some (.int r)]).bind (fin false)=_)
 unfold qL
 cases hd:Txt.isdigit w with
 | false =>
  refine .inr ⟨fun z => ?_,?_⟩
  ·rw[(zV7 h).mpr z.1] at hd
   cases hd
  ·simp![cM,yV,hd,ra]
 | true =>
  have fg:=(zV7 h).mp hd
  by_cases h9:w.length<=90
  ·have e5:intTD [.str w]=some (.int (dv w:Int)):=by
    show (if w.length<=640 then (PySem.intText? w).map PyData.int else none)=_
    rw[Am (by rfl'),yP2 fg (by rfl')]
    rfl
   have d9:decide ((90:Int)<(w.length:Int))=false:=An (by rfl')
   cases hs:Txt.startswith w "0" with
   | false =>
    refine .inl ⟨⟨fg,h9,fun z=>by rw[z] at hs;cases hs⟩,?_⟩
    simp![cM,yB,yV,hd,e1,d9,e3,hs,e5]
   | true =>
    by_cases h0:w="0"
    ·refine .inl ⟨⟨fg,h9,fun _=>h0⟩,?_⟩
     rw[Ag h0] at e4
     simp![cM,yB,yV,hd,e1,d9,e3,hs,e4,e5]
    ·refine .inr ⟨fun z=>h0 (z.2.2 hs),?_⟩
     rw[An h0] at e4
     simp![cM,yB,yV,hd,e1,d9,e3,hs,e4,ra]
  ·have d9:decide ((90:Int)<(w.length:Int))=true:=Ag (by rfl')
   refine .inr ⟨fun z=>h9 z.2.1,?_⟩
   simp![cM,yB,yV,hd,e1,d9,ra]
theorem yW1{w:Str}(h:Tx 400 w):(Wd w/\zF [.str w,.int 1]=.ok (.int (dv w:Int)))\/(¬Wd w/\zF [.str w,.int 1]=.ex BT):=gL h (by decide)
theorem zX9{ws:List Str}(h:∀w∈ws,Tx 400 w)(hl:ws.length<=1000):((∀w∈ws,Wd w)/\yM [.list (ws.map PyData.str),.int 1]=.ok (tI (rI' (ws.map dv))))\/((¬∀w∈ws,Wd w)/\yM [.list (ws.map PyData.str),.int 1]=.ex BT):=by
 show (_/\(uG [some (.list (ws.map PyData.str)),some (.int 1)]).bind (fin false)=_)\/(_/\(uG [some (.list (ws.map PyData.str)),some (.int 1)]).bind (fin false)=_)
 unfold uG
 have st:∀w:Str,eF zF (aC (eV 0) (aC (eV 1) aN)) (cEnv [some (.list (ws.map PyData.str)),some (.int 1)] [1] (.str w))=zF [.str w,.int 1]:=fun w=>by
  show eF zF (aC (eV 0) (aC (eV 1) aN)) [some (.str w),some (.int 1)]=_
  simp -implicitDefEqProofs only[(evA)]
 have hi:iS (eV 0) [some (.list (ws.map PyData.str)),some (.int 1)]=.ok (ws.map PyData.str):=by simp -implicitDefEqProofs only[(evA)]
 by_cases q:∀w∈ws,Wd w
 ·refine .inl ⟨q,?_⟩
  have cc:=zI1 (me:=eF zF (aC (eV 0) (aC (eV 1) aN))) (js:=[1]) PyData.str (fun w=>PyData.int (dv w:Int)) ws hi hl fun w hw=>by
   rw[st]
   rcases yW1 (h w hw) with ⟨_,e⟩ | ⟨n,_⟩
   ·exact e
   ·exact absurd (q w hw) n
  have e:PyData.tuple (ws.map fun w=>PyData.int (dv w:Int))=tI (rI' (ws.map dv)):=by
   unfold tI rI'
   rw[AR,AR]
   rfl
  simp![cc,e]
 ·refine .inr ⟨q,?_⟩
  have cc:=zG8 (me:=eF zF (aC (eV 0) (aC (eV 1) aN))) (js:=[1]) (c:=BT) PyData.str ws hi hl (fun w hw=>by
   rw[st]
   rcases yW1 (h w hw) with ⟨_,e⟩ | ⟨n,e⟩
   ·exact .inl ⟨_,e⟩
   ·exact .inr e) (by
   simp only[Classical.not_forall] at q
   obtain⟨w,hw,n⟩:=q
   refine⟨w,hw,?_⟩
   rw[st]
   rcases yW1 (h w hw) with ⟨y,_⟩ | ⟨_,e⟩
   ·exact absurd y n
   ·exact e)
  simp![cc]
def pts(z:Str):List Str:=Txt.split (Txt.slice z (some 1) (some (-1))) ")("
def wds(p:Str):List Str:=Txt.split p " "
def rd(z:Str):List (List Nat):=(pts z).map fun p=>(wds p).map dv
def Nm(z:Str):Prop:=∀p∈pts z,∀w∈wds p,Wd w
theorem yW4{z p:Str}{B:Nat}(h:Tx B z)(hp:p∈pts z):Tx B p:=(h.slice _ _).part (by decide) hp
theorem yX2{p w:Str}{B:Nat}(h:Tx B p)(hw:w∈wds p):Tx B w:=h.part (by decide) hw
theorem xK5{z:Str}(h:Tx 400 z):(pts z).length<=401:=by
 have a:=kG (x:=Txt.slice z (some 1) (some (-1))) (y:=")(") (by decide)
 have b:=(h.slice (some 1) (some (-1))).len
 unfold pts
 rfl'
theorem zK3{p:Str}(h:Tx 400 p):(wds p).length<=401:=by
 have a:=kG (x:=p) (y:=" ") (by decide)
 have b:=h.len
 unfold wds
 rfl'
theorem yY9{α:Type}(f:Str->List α):∀(ps:List Str),(∀p∈ps,(f p).length<=p.length+1)->(ps.map f).flatten.length<=(ps.map (·.length)).sum+ps.length
 | [],_=>Ai _
 | p::ps,h=>by
  have a:=h p Ac
  have b:=yY9 f ps fun q hq=>h q (Ae _ hq)
  rw[AF,Bt,Aq,AF,Cc,AQ]
  rfl'
theorem xK3{α:Type}{z:Str}(h:Tx 400 z)(f:Str->α):((pts z).map fun p=>(wds p).map f).flatten.length<=401:=by
 have a:=kG (x:=Txt.slice z (some 1) (some (-1))) (y:=")(") (by decide)
 have b:=(h.slice (some 1) (some (-1))).len
 have c:=yY9 (fun p=>(wds p).map f) (pts z) fun p hp=>by
  have d:=kG (x:=p) (y:=" ") (by decide)
  rw[Aa]
  unfold wds
  rfl'
 unfold pts at c ⊢
 rfl'
theorem xG6{z:Str}(h:Tx 400 z):slS (.str z) (some 1) (some (-1))=some (.str (Txt.slice z (some 1) (some (-1)))):=by
 have lb:=vQ
 unfold slS
 rw[yV,AI,Am (by have:=h.len;rfl')]
theorem xI7{z:Str}(h:Tx 400 z):splD (Txt.slice z (some 1) (some (-1))) (.str ")(")=some (.list ((pts z).map PyData.str)):=by
 have lb:=vQ
 unfold splD
 rw[yV,AI,Am ⟨by decide,by have:=(h.slice (some 1) (some (-1))).len;rfl'⟩]
 rfl
theorem wZ5{z:Str}(h:Tx 400 z)(ρ:Ev)(h0:eV 0 ρ=.ok (.str z)):eM1S splD (eS slS (eV 0) (oS (eC (.int 1))) (oS (e1 negD (eC (.int 1))))) (eC (.str ")(")) ρ=.ok (.list ((pts z).map PyData.str)):=by
 simp![yB,h0,yV,xG6 h,xI7 h]
theorem xB9{p:Str}(h:Tx 400 p):splD p (.str " ")=some (.list ((wds p).map PyData.str)):=by
 have lb:=vQ
 unfold splD
 rw[yV,AI,Am ⟨by decide,by have:=h.len;rfl'⟩]
 rfl
theorem xF5(p:Str):wds p ≠ []:=gF _ _
def RF(rs:List (List Nat))(ys:List Int):Prop:=∀r∈rs,∀q,q<r.length->ys.getD (r.getD (kx r.length q) 0) 0=((r.getD q 0:Nat):Int)
theorem xE7{l j:Nat}(h:j<l):∃q,q<l/\kx l q=j:=by
 by_cases z:j+1=l
 ·exact⟨0,by rfl',by unfold kx;rw[Am rfl];rfl'⟩
 ·exact⟨j+1,by rfl',by unfold kx;rw[AG (by rfl')];rfl'⟩
theorem zD1{n:Nat}{rs:List (List Nat)}(p:rs.flatten.Perm (List.range n)){i:Nat}(hi:i<n):∃(a:Nat) (r:List Nat) (q:Nat),rs[a]?=some r/\q<r.length/\r.getD (kx r.length q) 0=i:=by
 obtain⟨r,hr,hm⟩:=Cq.mp (p.mem_iff.mpr (AA.mpr hi))
 obtain⟨j,hj,ej⟩:=Do hm
 obtain⟨a,ha,ea⟩:=Do hr
 obtain⟨q,hq,eq⟩:=xE7 hj
 exact⟨a,r,q,by rw[Ah ha,ea],hq,by rw[eq,List.getD,Ah hj,Dd,ej]⟩
theorem yA1{n:Nat}{rs:List (List Nat)}{ys:List Int}(p:rs.flatten.Perm (List.range n))(hl:ys.length=n)(f:RF rs ys):Ord n ys:=by
 have nd:rs.flatten.Nodup:=p.nodup_iff.mpr De
 refine⟨hl,fun i hi => ?_,fun i j hi hj e => ?_⟩
 ·obtain⟨a,r,q,ha,hq,rfl⟩:=zD1 p hi
  have mr:=AS ha
  rw[f r mr q hq]
  have:=AA.mp (p.mem_iff.mp (Cq.mpr ⟨r,mr,uW hq⟩))
  rfl'
 ·obtain⟨a,r,q,ha,hq,rfl⟩:=zD1 p hi
  obtain⟨a',r',q',ha',hq',rfl⟩:=zD1 p hj
  rw[f r (AS ha) q hq,f r' (AS ha') q' hq'] at e
  have e:r.getD q 0=r'.getD q' 0:=by rfl'
  have eaa:a=a':=by
   by_cases l1:a<a'
   ·exact absurd (e▸uW hq':r.getD q 0∈r') (pw_flat nd ha ha' l1 _ (uW hq))
   ·by_cases l2:a'<a
    ·exact absurd (e▸uW hq:r'.getD q' 0∈r) (pw_flat nd ha' ha l2 _ (uW hq'))
    ·rfl'
  subst eaa
  rw[ha] at ha'
  cases ha'
  have nr:r.Nodup:=nd.sublist (Ca (AS ha))
  rw[zA7 nr hq hq' e]
theorem yS4{n:Nat}{rs:List (List Nat)}{xs ys:List Int}(p:rs.flatten.Perm (List.range n))(hx:xs.length=n)(hy:ys.length=n)(f:RF rs xs)(g:RF rs ys):xs=ys:=by
 refine List.ext_getElem (by rw[hx,hy]) fun i hi hi' => ?_
 obtain⟨a,r,q,ha,hq,e⟩:=zD1 p (show i<n by rfl')
 have e1:=f r (AS ha) q hq
 have e2:=g r (AS ha) q hq
 rw[e] at e1 e2
 rw[<-e2,List.getD,List.getD,Ah hi,Ah hi'] at e1
 exact e1
theorem yE8{n:Nat}{xs:List Int}(o:Ord n xs):RF (rgs n xs n) xs:=by
 intro r hr q hq
 obtain⟨b,hb,rfl,_⟩:=(o.zQ5 n (Ai n)).each r hr
 obtain⟨p1,p2,p3,p4⟩:=o.qG hb
 have g:∀i,i<per n xs b->(ring n xs b).getD i 0=it xs i b:=fun i hi=>by
  unfold ring
  rw[List.getD,Ak,Ay hi]
  rfl
 rw[yT4] at hq ⊢
 have hk:=zE8 hq
 rw[g q hq,g _ hk]
 have hi:=o.kR hb (kx (per n xs b) q)
 rw[o.gM hi]
 have:nxt xs (it xs (kx (per n xs b) q) b)=it xs q b:=by
  show it xs (kx (per n xs b) q+1) b=_
  unfold kx
  by_cases z:q=0
  ·subst z
   rw[Am rfl,show per n xs b-1+1=per n xs b by rfl',p3]
   rfl
  ·rw[AG z,show q-1+1=q by rfl']
 rw[this]
theorem yG9(rs:List (List Nat))(k:List Nat->D)(hk:∀r,Sq (k r) (rI' r)):Sqs (rs.map k) (rs.map rI'):=by
 refine⟨by rw[Aa,Aa],fun i d h => ?_⟩
 rw[Ak] at h
 obtain⟨r,hr,rfl⟩:=Av.mp h
 exact⟨rI' r,by rw[Ak,hr];rfl,hk r⟩
theorem xL4{rs:List (List Nat)}{n:Nat}:(rs.map rI').flatten.Perm (rg n)↔rs.flatten.Perm (List.range n):=by
 have e:(rs.map rI').flatten=rI' rs.flatten:=by unfold rI';rw[List.map_flatten]
 rw[e]
 constructor
 ·intro h
  have h2:=h.map Int.toNat
  unfold rI' rg at h2
  rw[AR,AR] at h2
  have i1:(Int.toNat∘fun b:Nat=>(b:Int))=id:=funext fun b=>Be b
  rw[i1,Dk,Dk] at h2
  exact h2
 ·exact fun h=>h.map _
theorem yI7{z:Str}(h:Tx 400 z) :
  (∃(n:Nat) (ys:List Int),Nm z/\(rd z).flatten.Perm (List.range n)/\1<=n/\n<=60/\ys.length=n/\RF (rd z) ys/\xQ [.str z]=if ordT n ys=z then .ok (tI ys) else .ex BT) \/
  ((¬Nm z\/¬∃n,n<=60/\(rd z).flatten.Perm (List.range n))/\xQ [.str z]=.ex BT):=by
 have st:∀p:Str,Tx 400 p->eF yM (aC (eM1S splD (eV 0) (eC (.str " "))) (aC (eC (.int 1)) aN)) (cEnv [some (.str z),none,none] [] (.str p))=yM [.list ((wds p).map PyData.str),.int 1]:=fun p hp=>by
  show eF yM (aC (eM1S splD (eV 0) (eC (.str " "))) (aC (eC (.int 1)) aN)) [some (.str p)]=_
  simp![yB,yV,xB9 hp]
 have hi:iS (eM1S splD (eS slS (eV 0) (oS (eC (.int 1))) (oS (e1 negD (eC (.int 1))))) (eC (.str ")("))) [some (.str z),none,none]=.ok ((pts z).map PyData.str):=by
  rw[xS9,wZ5 h _ rfl]
  rfl
 have few:=xK5 h
 by_cases nm:Nm z
 ·have cc:=zI1 (me:=eF yM (aC (eM1S splD (eV 0) (eC (.str " "))) (aC (eC (.int 1)) aN))) (js:=[]) PyData.str (fun p=>tI (rI' ((wds p).map dv))) (pts z) hi (by rfl') fun p hp=>by
   have tp:=yW4 h hp
   rw[st p tp]
   rcases zX9 (fun w hw=>yX2 tp hw) (by have:=zK3 tp;rfl') with ⟨_,e⟩ | ⟨n,_⟩
   ·exact e
   ·exact absurd (nm p hp) n
  have ec:(pts z).map (fun p=>tI (rI' ((wds p).map dv)))=(rd z).map fun r=>tI (rI' r):=by
   unfold rd
   rw[AR]
   rfl
  rw[ec] at cc
  have sq:=yG9 (rd z) (fun r=>tI (rI' r)) fun r=>.inl rfl
  have fl:((rd z).map rI').flatten.length<=1000:=by
   rw[show ((rd z).map rI').flatten=rI' (rd z).flatten by unfold rI';rw[List.map_flatten],wA]
   have:=xK3 h dv
   exact Ba this (by decide)
  have pos:∀r∈rd z,0<r.length:=fun r hr=>by
   obtain⟨p,_,rfl⟩:=AJ.mp hr
   rw[Aa]
   exact Bj.mpr (xF5 p)
  by_cases pm:∃n,n<=60/\(rd z).flatten.Perm (List.range n)
  ·obtain⟨n,h2,p⟩:=pm
   have h1:1<=n:=by
    have a:=xK9 (rd z) pos
    have b:0<(rd z).length:=by
     unfold rd
     rw[Aa]
     exact Bj.mpr (gF _ _)
    rw[p.length_eq,Au] at a
    rfl'
   obtain⟨ys,hl,hy,eo⟩:=aR sq p h1 h2 pos
   have o:=yA1 p hl hy
   refine .inl ⟨n,ys,nm,p,h1,h2,hl,hy,?_⟩
   have q:=zN2 o h1 h2
   have ne:=zW3 (xO6 q) h.ok
   have tr:sTryR ["BadOrder"] BT (sS 2 (eF wJ (aC (eV 1) aN))) [some (.str z),some (.list ((rd z).map fun r=>tI (rI' r))),none]=.ok (.nx [some (.str z),some (.list ((rd z).map fun r=>tI (rI' r))),some (tI ys)]):=by
    refine zD9 ?_
    simp![eo]
   show (wP [some (.str z),none,none]).bind (fin false)=_
   unfold wP
   by_cases e:ordT n ys=z
   ·rw[Ag e] at ne
    rw[Am e]
    simp![cc,tr,qS o h1 h2,ne]
   ·rw[An e] at ne
    rw[AG e]
    have ra:sRaI (fun _=>"BadText") (aC (eC (.int 1)) aN) [some (.str z),some (.list ((rd z).map fun r=>tI (rI' r))),some (tI ys)]=.ex BT:=ra1 rfl
    simp![cc,tr,qS o h1 h2,ne,ra]
  ·refine .inr ⟨.inr pm,?_⟩
   have eo:=yT7 sq fl (.inr fun ⟨a,b,c⟩=>pm ⟨_,b,xL4.mp c⟩)
   have tr:sTryR ["BadOrder"] BT (sS 2 (eF wJ (aC (eV 1) aN))) [some (.str z),some (.list ((rd z).map fun r=>tI (rI' r))),none]=.ex BT:=by
    refine xT3 (c:="BadOrder") ?_ (by decide)
    simp![eo]
   show (wP [some (.str z),none,none]).bind (fin false)=_
   unfold wP
   simp![cc,tr]
 ·refine .inr ⟨.inl nm,?_⟩
  have cc:=zG8 (me:=eF yM (aC (eM1S splD (eV 0) (eC (.str " "))) (aC (eC (.int 1)) aN))) (js:=[]) (c:=BT) PyData.str (pts z) hi (by rfl') (fun p hp=>by
   have tp:=yW4 h hp
   rw[st p tp]
   rcases zX9 (fun w hw=>yX2 tp hw) (by have:=zK3 tp;rfl') with ⟨_,e⟩ | ⟨_,e⟩
   ·exact .inl ⟨_,e⟩
   ·exact .inr e) (by
   unfold Nm at nm
   simp only[Classical.not_forall] at nm
   obtain⟨p,hp,w,hw,n⟩:=nm
   have tp:=yW4 h hp
   refine⟨p,hp,?_⟩
   rw[st p tp]
   rcases zX9 (fun w hw=>yX2 tp hw) (by have:=zK3 tp;rfl') with ⟨y,_⟩ | ⟨_,e⟩
   ·exact absurd (y w hw) n
   ·exact e)
  show (wP [some (.str z),none,none]).bind (fin false)=_
  unfold wP
  simp![cc]
theorem aB{b:Nat}(h:b<61):Wd (numT b)/\dv (numT b)=b:=by
 obtain⟨⟨n1,n2,n3,n4⟩,_,_,_,n5,_⟩:=xD b h
 have fg:Fig (numT b):=by
  have:∀b,b<61->((tl (numT b)).all fun c=>decide (48<=c/\c<=57))=true/\tl (numT b) ≠ []:=by decide +kernel
  obtain⟨a,c⟩:=this b h
  exact⟨fun x hx=>of_decide_eq_true (AW.mp a x hx),c⟩
 refine⟨⟨fg,by rfl',fun z=>n3.elim (fun y=>by rw[y] at z;cases z) id⟩,?_⟩
 have e:=yP2 fg (by rfl')
 rw[n4] at e
 have:=AX e
 rfl'
theorem yN4{n:Nat}{xs:List Int}(q:Rs (rgs n xs n)):pts (ordT n xs)=(rgs n xs n).map rT:=by
 unfold pts ordT
 rw[xH2 q,xX2 q]
theorem xR4{rs:List (List Nat)}(q:Rs rs){r:List Nat}(hr:r∈rs):wds (rT r)=r.map numT:=xO4 (q.ring r hr).1 (q.ring r hr).2.2
theorem xE9{n:Nat}{xs:List Int}(q:Rs (rgs n xs n)):rd (ordT n xs)=rgs n xs n/\Nm (ordT n xs):=by
 refine⟨?_,fun p hp w hw => ?_⟩
 ·unfold rd
  rw[yN4 q,AR]
  have:∀r∈rgs n xs n,((fun p=>(wds p).map dv)∘rT) r=id r:=fun r hr=>by
   show (wds (rT r)).map dv=r
   rw[xR4 q hr,AR]
   have:∀b∈r,(dv∘numT) b=id b:=fun b hb=>(aB ((q.ring r hr).1 b hb)).2
   rw[BC this,Dk]
  rw[BC this,Dk]
 ·rw[yN4 q] at hp
  obtain⟨r,hr,rfl⟩:=AJ.mp hp
  rw[xR4 q hr] at hw
  obtain⟨b,hb,rfl⟩:=AJ.mp hw
  exact (aB ((q.ring r hr).1 b hb)).1
theorem xP7{n:Nat}{xs:List Int}(o:Ord n xs)(h1:1<=n)(h2:n<=60)(h:Tx 400 (ordT n xs)):xQ [.str (ordT n xs)]=.ok (tI xs):=by
 have q:=zN2 o h1 h2
 obtain⟨er,nm⟩:=xE9 q
 rcases yI7 h with ⟨m,ys,_,p,_,_,hl,f,e⟩ | ⟨n1,_⟩
 ·have pm:=flatP o
  rw[er] at p f
  have:m=n:=by
   have a:=p.length_eq
   rw[pm.length_eq,Au,Au] at a
   exact a.symm
  subst this
  have:=yS4 p o.len hl (yE8 o) f
  subst this
  rw[e,Am rfl]
 ·rcases n1 with n1 | n1
  ·exact absurd nm n1
  ·exact absurd ⟨n,h2,by rw[er];exact flatP o⟩ n1
theorem zJ7{α:Type}{t:D->Res Bool}{f:D->Res D}(A q:α->D):∀xs:List α,(∀x∈xs,t (A x)=.ok true)->(∀x∈xs,f (A x)=.ok (q x))->compX t f (xs.map A)=.ok (xs.map q)
 | [],_,_=>rfl
 | x::xs,ht,h=>by
  rw[AF,compX,ht x Ac,Res.bind_ok,Am rfl,h x Ac,Res.bind_ok,zJ7 A q xs (fun y hy=>ht y (Ae _ hy)) fun y hy=>h y (Ae _ hy)]
  rfl
theorem zI7{α:Type}{t:D->Res Bool}{f:D->Res D}{c:Str}(A:α->D):∀xs:List α,(∀x∈xs,t (A x)=.ok true)->(∀x∈xs,(∃d,f (A x)=.ok d)\/f (A x)=.ex c)->(∃x∈xs,f (A x)=.ex c)->compX t f (xs.map A)=.ex c
 | [],_,_,he=>by
  obtain⟨x,hx,_⟩:=he
  cases hx
 | x::xs,ht,h,he=>by
  rw[AF,compX,ht x Ac,Res.bind_ok,Am rfl]
  rcases h x Ac with ⟨d,e⟩ | e
  ·obtain⟨y,hy,ey⟩:=he
   rcases Aw.mp hy with rfl | hy
   ·rw[e] at ey
    cases ey
   ·rw[e,Res.bind_ok,zI7 A xs (fun y hy=>ht y (Ae _ hy)) (fun y hy=>h y (Ae _ hy)) ⟨y,hy,ey⟩]
    rfl
  ·rw[e]
   rfl
theorem bL{mi:Ev->Res (List D)}{me:Ev->Res D}{js:List Nat}{ρ:Ev}{α:Type}(A B q:α->D)(xs:List α)(h:mi ρ=.ok (xs.map fun x=>PyData.tuple [A x,B x]))(hl:xs.length<=1000)(hf:∀x∈xs,me (cEnv2 ρ js (A x) (B x))=.ok (q x)):eComp2X mi tYes me js ρ=.ok (.list (xs.map q)):=by
 unfold eComp2X
 rw[h,Res.bind_ok,cQ (by rw[Aa];exact hl)]
 rw[show (compX (fun d=>pr2 d fun x y=>tYes (cEnv2 ρ js x y)) (fun d=>pr2 d fun x y=>me (cEnv2 ρ js x y)) (xs.map fun x=>PyData.tuple [A x,B x]))=.ok (xs.map q) from zJ7 (fun x=>PyData.tuple [A x,B x]) q xs (fun _ _=>rfl) hf]
 rfl
theorem zO4{mi:Ev->Res (List D)}{me:Ev->Res D}{js:List Nat}{ρ:Ev}{α:Type}{c:Str}(A B:α->D)(xs:List α)(h:mi ρ=.ok (xs.map fun x=>PyData.tuple [A x,B x]))(hl:xs.length<=1000)(hf:∀x∈xs,(∃d,me (cEnv2 ρ js (A x) (B x))=.ok d)\/me (cEnv2 ρ js (A x) (B x))=.ex c)(he:∃x∈xs,me (cEnv2 ρ js (A x) (B x))=.ex c):eComp2X mi tYes me js ρ=.ex c:=by
 unfold eComp2X
 rw[h,Res.bind_ok,cQ (by rw[Aa];exact hl)]
 rw[show (compX (fun d=>pr2 d fun x y=>tYes (cEnv2 ρ js x y)) (fun d=>pr2 d fun x y=>me (cEnv2 ρ js x y)) (xs.map fun x=>PyData.tuple [A x,B x]))=.ex c from zI7 (fun x=>PyData.tuple [A x,B x]) xs (fun _ _=>rfl) hf he]
 rfl
inductive GT:D->Prop
 | none:GT .none
 | node (b:Int) (ks:List D):ks.length<=7->(∀d∈ks,GT d)->GT (.tuple [.int b,.tuple ks])
def isNo:D->Bool
 | .none=>true
 | _=>false
def isT(n:Nat):Nat->Nat->List Int->List Int->D->Bool
 | 0,_,_,_,_=>true
 | k+1,l,bs,ns,d=>match d with
  | .tuple [.int b,.tuple ks]=>decide (l≠0)&&(decide (0<=b/\b<(n:Int))&&(!bs.contains b&&(decide (ks.length=n)&&(List.range n).all fun i=>if ns.contains (i:Int) then isNo (ks.getD i .none) else isT n k (l-1) (bs ++ [b]) (ns ++ [(i:Int)]) (ks.getD i .none))))
  | _=>true
theorem zR1(n k l:Nat)(bs ns:List Int):isT n k l bs ns .none=true:=by cases k <;> rfl
theorem zS6(n k l:Nat)(bs ns:List Int)(b:Int)(ks:List D):isT n (k+1) l bs ns (.tuple [.int b,.tuple ks])=(decide (l≠0)&&(decide (0<=b/\b<(n:Int))&&(!bs.contains b&&(decide (ks.length=n)&&(List.range n).all fun i=>if ns.contains (i:Int) then isNo (ks.getD i .none) else isT n k (l-1) (bs ++ [b]) (ns ++ [(i:Int)]) (ks.getD i .none))))):=rfl
theorem aI(p:Nat->Bool):∀n:Nat,(List.range n).all p=false->∃j,j<n/\p j=false/\∀i,i<j->p i=true
 | 0,h=>by cases h
 | n+1,h=>by
  rw[BM,List.all_append] at h
  cases c:(List.range n).all p with
  | false =>
   obtain⟨j,a,b,d⟩:=aI p n c
   exact⟨j,by rfl',b,d⟩
  | true =>
   rw[c] at h
   have hp:p n=false:=by simpa using h
   exact⟨n,CK n,hp,fun i hi=>AW.mp c i (AA.mpr hi)⟩
theorem yL8(ks:List D):ks=(List.range ks.length).map fun i=>ks.getD i .none:=by
 refine CY fun i => ?_
 rw[Ak]
 by_cases h:i<ks.length
 ·rw[Ay h,Bn,List.getD,Ah h]
  rfl
 ·rw[Bs (by rfl'),Bs (by simp;rfl')]
  rfl
theorem zY6{ks:List D}{i:Nat}(h:i<ks.length):ks.getD i .none∈ks:=by
 rw[List.getD,Ah h]
 exact Dg h
theorem zK9{d:D}(h:isNo d=true):d=.none:=by cases d <;> first | rfl | cases h
theorem zL7(d:D):isND true d .none=some (!isNo d):=by cases d <;> rfl
abbrev mtB(Fself:List D->Res D):Ev->Res Out:=(sQ (sIf (tAn (b2 (isND true) (eV 9) (eC .none)) (b2 (inD false) (eV 8) (eV 4))) (sRa "BadPlan" (aC (eC (.str "a tree goes on by the own name, or by a name found before")) aN)) sN) (sM 7 appD (aC (eF Fself (aC (eV 9) (aC (eV 1) (aC (e2 subI (eV 2) (eC (.int 1))) (aC (e2 catL (eV 3) (eB mkL (aC (eV 5) aN))) (aC (e2 catL (eV 4) (eB mkL (aC (eV 8) aN))) aN)))))) aN)))
theorem raS:(if 0+1<=sizeLine then (Res.ex "BadPlan":Res Out) else .no)=.ex "BadPlan":=Am (by decide)
theorem xZ5{n:Nat}(hn:n<=7):∀(k:Nat) (d:D) (l:Nat) (bs ns:List Int),GT d->l<k->bs.length+l<=100->ns.length+l<=100->xI k [d,.int (n:Int),.int (l:Int),lI bs,lI ns]=if isT n k l bs ns d then .ok d else .ex "BadPlan"
 | 0,d,l,bs,ns,_,h,_,_=>by rfl'
 | k+1,d,l,bs,ns,T,hk,h1,h2=>by
  cases T with
  | none =>
   rw[zR1,Am rfl]
   show (uF (xI k) [some .none,some (.int (n:Int)),some (.int (l:Int)),some (lI bs),some (lI ns),none,none,none,none,none]).bind (fin false)=_
   unfold uF
   have i0:isND false .none .none=some true:=rfl
   simp![i0]
  | @node b ks hl7 hks =>
   show (uF (xI k) [some (.tuple [.int b,.tuple ks]),some (.int (n:Int)),some (.int (l:Int)),some (lI bs),some (lI ns),none,none,none,none,none]).bind (fin false)=_
   unfold uF
   have i0:isND false (.tuple [.int b,.tuple ks]) .none=some false:=rfl
   have a0:atI [PyData.int b,.tuple ks] 0=some (.int b):=rfl
   have a1:atI [PyData.int b,.tuple ks] 1=some (.tuple ks):=rfl
   rw[zS6]
   by_cases c1:l=0
   ·rw[An (show ¬(l≠0) from fun z=>z c1),Co,AG Ap]
    simp![i0,a0,a1,vG,Ag (show (l:Int)=0 by rfl'),xE,raS]
   rw[Ag (show l≠0 from c1),BE]
   by_cases c2:0<=b
   ·by_cases c3:b<(n:Int)
    ·rw[Ag (show 0<=b/\b<(n:Int) from ⟨c2,c3⟩),BE]
     cases c4:bs.contains b with
     | true =>
      rw[BS,Co,AG Ap]
      simp![i0,a0,a1,vG,An (show ¬(l:Int)=0 by rfl'),Ag c2,Ag c3,kY,c4,xE,raS]
     | false =>
      rw[Bv,BE]
      by_cases c5:ks.length=n
      ·rw[Ag c5,BE]
       have kr:=yL8 ks
       rw[c5] at kr
       obtain⟨f,hf⟩:∃f:Nat->D,f=fun i=>ks.getD i .none:=⟨_,rfl⟩
       have gTT:∀i,i<n->GT (f i):=fun i hi=>by rw[hf];exact hks _ (zY6 (by rfl'))
       have gf:∀i,ks.getD i .none=f i:=fun i=>by rw[hf]
       rw[<-hf] at kr
       simp only[gf]
       rw[kr]
       have hl:((List.range n).map f).length=n:=by rw[Aa,Au]
       have cb:catL (lI bs) (.list [.int b])=some (lI (bs ++ [b])):=yO5 (xs:=bs) (ys:=[b]) (by simp;rfl')
       have sb:(l:Int)-1=((l-1:Nat):Int):=by rfl'
       have nn:∀i,catL (lI ns) (.list [.int ((i:Nat):Int)])=some (lI (ns ++ [(i:Int)])):=fun i=>yO5 (xs:=ns) (ys:=[(i:Int)]) (by simp;rfl')
       have e1:∀i,i<n->xI k [f i,.int (n:Int),.int ((l-1:Nat):Int),lI (bs ++ [b]),lI (ns ++ [(i:Int)])]=if isT n k (l-1) (bs ++ [b]) (ns ++ [(i:Int)]) (f i) then .ok (f i) else .ex "BadPlan":=fun i hi=>xZ5 hn k (f i) (l-1) _ _ (gTT i hi) (by rfl') (by simp;rfl') (by simp;rfl')
       have i0':isND false (.tuple [.int b,.tuple ((List.range n).map f)]) .none=some false:=rfl
       have a0':atI [PyData.int b,.tuple ((List.range n).map f)] 0=some (.int b):=rfl
       have a1':atI [PyData.int b,.tuple ((List.range n).map f)] 1=some (.tuple ((List.range n).map f)):=rfl
       have good:∀i,i<n->(if ns.contains (i:Int) then isNo (f i) else isT n k (l-1) (bs ++ [b]) (ns ++ [(i:Int)]) (f i))=true->mtB (xI k) [some (.tuple [.int b,.tuple ((List.range n).map f)]),some (.int (n:Int)),some (.int (l:Int)),some (lI bs),some (lI ns),some (.int b),some (.tuple ((List.range n).map f)),some (.list ((List.range i).map f)),some (.int (i:Int)),some (f i)]=.ok (.nx [some (.tuple [.int b,.tuple ((List.range n).map f)]),some (.int (n:Int)),some (.int (l:Int)),some (lI bs),some (lI ns),some (.int b),some (.tuple ((List.range n).map f)),some (.list ((List.range (i+1)).map f)),some (.int (i:Int)),some (f i)]):=by
        intro i hi g
        have ap:=cF (l:=(List.range i).map f) (d:=f i) (by rw[Aa,Au];rfl')
        have rs:(List.range i).map f ++ [f i]=(List.range (i+1)).map f:=by rw[BM,AT];rfl
        rw[rs] at ap
        have ei:=e1 i hi
        unfold mtB
        cases c:ns.contains (i:Int) with
        | true =>
         rw[c,Am rfl] at g
         have fi:=zK9 g
         rw[fi,zR1,Am rfl,<-fi] at ei
         have i1:=zL7 (f i)
         rw[g] at i1
         simp![i1,cb,nn,sb,ei,ap]
        | false =>
         rw[c,AG Ap] at g
         rw[g,Am rfl] at ei
         have i1:=zL7 (f i)
         cases t:isNo (f i) with
         | true =>
          rw[t] at i1
          simp![i1,kY,c,cb,nn,sb,ei,ap]
         | false =>
          rw[t] at i1
          simp![i1,kY,c,cb,nn,sb,ei,ap]
       have gt2:∀(i:Nat) (x y z:Option D),gT 2 (gsC (gN 8) (gsC (gN 9) gsN)) (.tuple [.int (i:Int),f i]) [some (.tuple [.int b,.tuple ((List.range n).map f)]),some (.int (n:Int)),some (.int (l:Int)),some (lI bs),some (lI ns),some (.int b),some (.tuple ((List.range n).map f)),z,x,y]=some [some (.tuple [.int b,.tuple ((List.range n).map f)]),some (.int (n:Int)),some (.int (l:Int)),some (lI bs),some (lI ns),some (.int b),some (.tuple ((List.range n).map f)),z,some (.int (i:Int)),some (f i)]:=fun _ _ _ _=>rfl
       have st:∀(i:Nat) (d:D) (ρ:Ev),((List.range n).map fun (i:Nat)=>PyData.tuple [.int (i:Int),f i])[i]?=some d->(∃x y,ρ=[some (.tuple [.int b,.tuple ((List.range n).map f)]),some (.int (n:Int)),some (.int (l:Int)),some (lI bs),some (lI ns),some (.int b),some (.tuple ((List.range n).map f)),some (.list ((List.range i).map f)),x,y])->i<n/\L3.gT 2 (gsC (gN 8) (gsC (gN 9) gsN)) d ρ=some [some (.tuple [.int b,.tuple ((List.range n).map f)]),some (.int (n:Int)),some (.int (l:Int)),some (lI bs),some (lI ns),some (.int b),some (.tuple ((List.range n).map f)),some (.list ((List.range i).map f)),some (.int (i:Int)),some (f i)]:=by
        rintro i d ρ hd ⟨x,y,rfl⟩
        rw[Ak] at hd
        obtain⟨j,ej,rfl⟩:=Av.mp hd
        have hi:i<n:=by simpa using (Aj.mp ej).1
        rw[Ay hi] at ej
        cases ej
        exact⟨hi,gt2 i x y _⟩
       simp![i0',a0',a1',vG,An (show ¬(l:Int)=0 by rfl'),Ag c2,Ag c3,kY,c4,hl,xO,decide_true,cT]
       cases all:(List.range n).all fun i=>if ns.contains (i:Int) then isNo (f i) else isT n k (l-1) (bs ++ [b]) (ns ++ [(i:Int)]) (f i) with
       | true =>
        rw[Am rfl]
        refine zX5 (fun i ρ=>∃x y,ρ=[some (.tuple [.int b,.tuple ((List.range n).map f)]),some (.int (n:Int)),some (.int (l:Int)),some (lI bs),some (lI ns),some (.int b),some (.tuple ((List.range n).map f)),some (.list ((List.range i).map f)),x,y]) ⟨none,none,rfl⟩ ?_ ?_
        ·intro i d ρ hd hp
         obtain⟨hi,eg⟩:=st i d ρ hd hp
         exact⟨_,_,eg,good i hi (AW.mp all i (AA.mpr hi)),_,_,rfl⟩
        ·rintro ρ ⟨x,y,rfl⟩
         rw[Aa,Au]
         simp -implicitDefEqProofs only[(evA)]
       | false =>
        rw[AG Ap]
        obtain⟨j,hj,bj,bef⟩:=aI _ n all
        have ex:=zB8 (g:=L3.gT 2 (gsC (gN 8) (gsC (gN 9) gsN))) (b:=mtB (xI k)) (c:="BadPlan") (fun i ρ=>∃x y,ρ=[some (.tuple [.int b,.tuple ((List.range n).map f)]),some (.int (n:Int)),some (.int (l:Int)),some (lI bs),some (lI ns),some (.int b),some (.tuple ((List.range n).map f)),some (.list ((List.range i).map f)),x,y]) ((List.range n).map fun (i:Nat)=>PyData.tuple [.int (i:Int),f i]) [some (.tuple [.int b,.tuple ((List.range n).map f)]),some (.int (n:Int)),some (.int (l:Int)),some (lI bs),some (lI ns),some (.int b),some (.tuple ((List.range n).map f)),some (.list []),none,none] j (.tuple [.int (j:Int),f j]) (by rw[Ak,Ay hj];rfl) ⟨none,none,rfl⟩
         (fun i d ρ hij hd hp=>by
          obtain⟨hi,eg⟩:=st i d ρ hd hp
          exact⟨_,_,eg,good i hi (bef i hij),_,_,rfl⟩)
         (by
          rintro ρ ⟨x,y,rfl⟩
          refine⟨_,gt2 j x y _,?_⟩
          unfold mtB
          have ei:=e1 j hj
          have i1:=zL7 (f j)
          cases c:ns.contains (j:Int) with
          | true =>
           rw[c,Am rfl] at bj
           rw[bj] at i1
           simp![i1,kY,c,xE,raS]
          | false =>
           rw[c,AG Ap] at bj
           rw[bj,AG Ap] at ei
           cases t:isNo (f j) with
           | true =>
            rw[t] at i1
            simp![i1,kY,c,cb,nn,sb,ei]
           | false =>
            rw[t] at i1
            simp![i1,kY,c,cb,nn,sb,ei])
        rw[ex]
        rfl
      ·rw[An c5,Co,AG Ap]
       simp![i0,a0,a1,vG,An (show ¬(l:Int)=0 by rfl'),Ag c2,Ag c3,kY,c4,xO,An (show ¬((ks.length:Nat):Int)=(n:Int) by rfl'),xE,raS]
    ·rw[An (show ¬(0<=b/\b<(n:Int)) from fun z=>c3 z.2),Co,AG Ap]
     simp![i0,a0,a1,vG,An (show ¬(l:Int)=0 by rfl'),Ag c2,An c3,xE,raS]
   ·rw[An (show ¬(0<=b/\b<(n:Int)) from fun z=>c2 z.1),Co,AG Ap]
    simp![i0,a0,a1,vG,An (show ¬(l:Int)=0 by rfl'),An c2,xE,raS]
def gO(os:List Int):Bool:=decide (1<=os.length)&&(decide (os.length<=6)&&os.all fun x=>decide (0<=x)&&decide (x<=(os.length:Int)))
theorem yD9{os:List Int}(h:gO os=true):1<=os.length/\os.length<=6/\Opn os.length os:=by
 unfold gO at h
 rw[AH,AH,decide_eq_true_eq,decide_eq_true_eq,AW] at h
 refine⟨h.1,h.2.1,rfl,fun x hx => ?_⟩
 have:=h.2.2 x hx
 rw[AH,decide_eq_true_eq,decide_eq_true_eq] at this
 exact this
theorem xR6{os:List Int}{n:Nat}(q:Opn n os)(h1:1<=n)(h2:n<=6):gO os=true:=by
 have e:=q.len
 subst e
 unfold gO
 rw[Ag h1,Ag h2,BE,BE,AW]
 intro x hx
 have:=q.bd x hx
 rw[Ag this.1,Ag this.2]
 rfl
theorem xH9{os:List Int}(h:gO os=false)(h6:os.length<=6):BadO (os.length:Int) os:=by
 rintro ⟨a,_,_,d⟩
 have:gO os=true:=xR6 ⟨rfl,d⟩ (by rfl') h6
 rw[h] at this
 cases this
theorem zA8(os:List Int):yC [tI os]=if gO os=true then .ok (tI os) else .ex "BadOpenings":=by
 cases g:gO os with
 | true =>
  obtain⟨h1,h2,q⟩:=yD9 g
  rw[Am rfl]
  exact jZ q h1 h2
 | false =>
  rw[AG Ap]
  show (xR [some (tI os)]).bind (fin false)=_
  unfold xR
  by_cases c:6<os.length
  ·have z:(if 0+1<=sizeLine then (Res.ex "BadOpenings":Res Out) else .no)=.ex "BadOpenings":=Am (by decide)
   simp![Aa,Ag (show (6:Int)<(os.length:Int) by rfl'),xE,z]
  ·simp![Aa,An (show ¬(6:Int)<(os.length:Int) by rfl'),zS4 (.inr rfl) (xH9 g (by rfl'))]
def gP(os:List Int)(ts:List D):Bool:=decide (ts.length=os.length)&&(List.range os.length).all fun p=>isT os.length 14 (os.getD p 0).toNat [] [(p:Int)] (ts.getD p .none)
theorem zA2{os:List Int}{ts:List D}{d:D}(hd:d=.list ts\/d=.tuple ts)(hg:gO os=true->∀t∈ts,GT t):kJ [tI os,d]=if gO os=true then (if gP os ts=true then .ok (.tuple ts) else .ex "BadPlan") else .ex "BadOpenings":=by
 show (dH [some (tI os),some d,none,none]).bind (fin false)=_
 unfold dH
 have e:=zA8 os
 cases g:gO os with
 | false =>
  rw[g,AG Ap] at e
  rw[AG Ap]
  simp![e]
 | true =>
  rw[g,Am rfl] at e
  rw[Am rfl]
  obtain⟨h1,h2,q⟩:=yD9 g
  have hg:=hg g
  have ln:lenD [d]=some (.int (ts.length:Int)):=by
   rcases hd with rfl | rfl
   ·rw[jF];simp only[zP9,Bn]
   ·rw[jF];simp only[zP5,Bn]
  unfold gP
  by_cases c:ts.length=os.length
  ·rw[Ag c,BE]
   have kr:=yL8 ts
   rw[c] at kr
   have en:yJ (eV 1) [some (tI os),some d,some (tI os),some (.int (os.length:Int))]=.ok ((List.range os.length).map fun (i:Nat)=>PyData.tuple [.int (i:Int),ts.getD i .none]):=by
    have e:=cT os.length fun i=>ts.getD i .none
    rw[<-kr] at e
    rcases hd with rfl | rfl
    ·simp![e]
    ·simp![e]
   have cc:eComp2X (yJ (eV 1)) tYes (eF wD (aC (eV 1) (aC (eV 2) (aC (e2 ixD (eV 3) (eV 0)) (aC (eB mkL aN) (aC (eB mkL (aC (eV 0) aN)) aN)))))) [3,2] [some (tI os),some d,some (tI os),some (.int (os.length:Int))]=if ((List.range os.length).all fun p=>isT os.length 14 (os.getD p 0).toNat [] [(p:Int)] (ts.getD p .none))=true then .ok (.list ts) else .ex "BadPlan":=by
    have st:∀q∈List.range os.length,eF wD (aC (eV 1) (aC (eV 2) (aC (e2 ixD (eV 3) (eV 0)) (aC (eB mkL aN) (aC (eB mkL (aC (eV 0) aN)) aN))))) (cEnv2 [some (tI os),some d,some (tI os),some (.int (os.length:Int))] [3,2] (.int (q:Int)) (ts.getD q .none))=if isT os.length 14 (os.getD q 0).toNat [] [(q:Int)] (ts.getD q .none)=true then .ok (ts.getD q .none) else .ex "BadPlan":=by
     intro p hp
     have hp:=AA.mp hp
     have b:=q.at hp
     have a:=xP5 q hp
     have m:=xZ5 (show os.length<=7 by rfl') 14 (ts.getD p .none) (os.getD p 0).toNat [] [(p:Int)] (hg _ (zY6 (by rfl'))) (by rfl') (by show 0+_<=100;rfl') (by show 1+_<=100;rfl')
     have m':wD [ts.getD p .none,.int (os.length:Int),.int ((os.getD p 0).toNat:Int),.list [],.list [.int (p:Int)]]=_:=m
     show eF wD _ [some (.int (p:Int)),some (ts.getD p .none),some (.int (os.length:Int)),some (tI os)]=_
     simp![a,m']
    by_cases al:((List.range os.length).all fun p=>isT os.length 14 (os.getD p 0).toNat [] [(p:Int)] (ts.getD p .none))=true
    ·rw[Am al]
     have:=bL (me:=eF wD (aC (eV 1) (aC (eV 2) (aC (e2 ixD (eV 3) (eV 0)) (aC (eB mkL aN) (aC (eB mkL (aC (eV 0) aN)) aN)))))) (js:=[3,2]) (fun i:Nat=>PyData.int (i:Int)) (fun i=>ts.getD i .none) (fun i=>ts.getD i .none) (List.range os.length) en (by rw[Au];rfl') fun p hp=>by
      rw[st p hp,Am (AW.mp al p hp)]
     rw[this,<-kr]
    ·rw[AG al]
     refine zO4 (fun i:Nat=>PyData.int (i:Int)) (fun i=>ts.getD i .none) (List.range os.length) en (by rw[Au];rfl') (fun p hp => ?_) ?_
     ·rw[st p hp]
      split
      ·exact .inl ⟨_,rfl⟩
      ·exact .inr rfl
     ·obtain⟨j,hj,bj,_⟩:=aI (fun p=>isT os.length 14 (os.getD p 0).toNat [] [(p:Int)] (ts.getD p .none)) os.length (by simpa using al)
      refine⟨j,AA.mpr hj,?_⟩
      rw[st j (AA.mpr hj),bj,AG Ap]
   split at cc
   ·rename_i h
    rw[Am h]
    simp![e,Aa,ln,c,xO,decide_true,cc]
   ·rename_i h
    rw[AG h]
    simp![e,Aa,ln,c,xO,decide_true,cc]
  ·rw[An c,Co,AG Ap]
   simp![e,Aa,ln,xO,An (show ¬((ts.length:Nat):Int)=(os.length:Int) by rfl'),xE,raS]
def ttx:Nat->D->Str
 | k+1,.tuple [.int b,.tuple ts]=>toString b ++ "("++Str.join " " (ts.map (ttx k)) ++ ")"
 | _,_=>"-"
theorem bI(l:Nat):ttx l .none="-":=by cases l <;> rfl
theorem bV(l b:Nat)(ts:List D):ttx (l+1) (.tuple [.int (b:Int),.tuple ts])=numT b ++ "("++Str.join " " (ts.map (ttx l)) ++ ")":=rfl
def lm(l:Nat):Nat:=30*6 ^ l
theorem zJ1{n:Nat}(hn:n<=6){l:Nat}{bs ns:List Int}{d:D}(T:TreeOk n l bs ns d):l<=6->5*(ttx l d).length+11<=16*6 ^ l/\PyData.strOk (ttx l d)=true/\10∉tl (ttx l d):=by
 induction T with
 | none =>
  intro _
  rw[bI]
  refine⟨?_,by decide +kernel,by decide⟩
  have:0<6 ^ (‹Nat›:Nat):=Nat.pow_pos (by decide)
  have e:("-":Str).length=1:=rfl
  rw[e]
  rfl'
 | @node l bs ns b f hb _ _ _ ih =>
  intro hl
  have nb:=xD b (by rfl')
  rw[bV]
  have c1:("(":Str).length=1:=rfl
  have c2:(")":Str).length=1:=rfl
  have six:(6:Nat) ^ (l+1)=6*6 ^ l:=Nat.pow_succ'
  have small:6 ^ l<=6 ^ 6:=Dl (by decide) (by rfl')
  have e6:(6:Nat) ^ 6=46656:=by decide
  have each:∀t∈((List.range n).map f).map (ttx l),(5*t.length+11<=16*6 ^ l)/\PyData.strOk t=true/\10∉tl t:=fun t ht=>by
   rw[AR] at ht
   obtain⟨i,hi,rfl⟩:=AJ.mp ht
   exact ih i (AA.mp hi) (by rfl')
  obtain⟨B,hB⟩:∃B,B=(16*6 ^ l-11) / 5:=⟨_,rfl⟩
  have j:=zL5 (sep:=" ") (ts:=((List.range n).map f).map (ttx l)) (B:=B) (n:=6) rfl (by simp;exact hn) (fun t ht=>by have:=(each t ht).1;rfl') (by rfl')
  refine⟨?_,?_,?_⟩
  ·rw[Af,Af,Af,c1,c2,six]
   have:=nb.1.1
   have:=j.2
   have:0<6 ^ l:=Nat.pow_pos (by decide)
   rfl'
  ·exact vT (vT (vT nb.2.2.2.2.1 (by decide +kernel)) (fM (by decide +kernel) _ fun t ht=>(each t ht).2.1)) (by decide +kernel)
  ·have jn:∀ts:List Str,(∀t∈ts,10∉tl t)->10∉tl (Str.join " " ts):=fun ts=>by
    induction ts with
    | nil=>exact fun _ z=>by cases z
    | cons a r ih2 =>
     intro h
     cases r with
     | nil=>exact h a Ac
     | cons b r =>
      rw[xS,zB,zB]
      intro z
      rcases AE.mp z with z | z
      ·rcases AE.mp z with z | z
       ·exact h a Ac z
       ·exact absurd z (by decide)
      ·exact ih2 (fun x hx=>h x (Ae _ hx)) z
   intro z
   rw[zB,zB,zB] at z
   rcases AE.mp z with z | z
   ·rcases AE.mp z with z | z
    ·rcases AE.mp z with z | z
     ·exact nb.2.2.2.2.2.2.2.2 z
     ·exact absurd z (by decide)
    ·exact jn _ (fun t ht=>(each t ht).2.2) z
   ·exact absurd z (by decide)
theorem aU{n:Nat}(hn:n<=6){l:Nat}{bs ns:List Int}{d:D}(T:TreeOk n l bs ns d)(hl:l<=6):(ttx l d).length<=150000:=by
 have h:=(zJ1 hn T hl).1
 have small:6 ^ l<=6 ^ 6:=Dl (by decide) hl
 have e6:(6:Nat) ^ 6=46656:=by decide
 rfl'
theorem xK6{n:Nat}(hn:n<=6){l:Nat}{bs:List Int}{ns:Nat->List Int}{f:Nat->D}(T:∀i,i<n->TreeOk n l bs (ns i) (f i))(hl:l<=5):JoinOk " " (((List.range n).map f).map (ttx l))=true/\(Str.join " " (((List.range n).map f).map (ttx l))).length<=150000:=by
 have small:6 ^ l<=6 ^ 5:=Dl (by decide) hl
 have e6:(6:Nat) ^ 5=7776:=by decide
 have j:=zL5 (sep:=" ") (ts:=((List.range n).map f).map (ttx l)) (B:=24900) (n:=6) rfl (by simp;exact hn) (fun t ht=>by
  rw[AR] at ht
  obtain⟨i,hi,rfl⟩:=AJ.mp ht
  have:=(zJ1 hn (T i (AA.mp hi)) (by rfl')).1
  show (ttx l (f i)).length<=24900
  rfl') (by decide)
 exact⟨j.1,by have:=j.2;rfl'⟩
theorem fX:1000000<=sizeLine:=by decide
theorem wY4{n:Nat}(hn:n<=6){l:Nat}{bs ns:List Int}{d:D}(T:TreeOk n l bs ns d):∀k,l<k->l<=6->wV k [d]=.ok (.str (ttx l d)):=by
 induction T with
 | @none l bs ns =>
  intro k hk _
  obtain⟨k,rfl⟩:∃j,k=j+1:=⟨k-1,by rfl'⟩
  have i0:isND false .none .none=some true:=rfl
  rw[bI]
  show (uB (wV k) [some .none,none,none]).bind (fin false)=_
  unfold uB
  simp![i0]
 | @node l bs ns b f hb nb hf Tk ih =>
  intro k hk hl
  obtain⟨k,rfl⟩:∃j,k=j+1:=⟨k-1,by rfl'⟩
  have i0:isND false (.tuple [.int (b:Int),.tuple ((List.range n).map f)]) .none=some false:=rfl
  have a0:atI [PyData.int (b:Int),.tuple ((List.range n).map f)] 0=some (.int (b:Int)):=rfl
  have a1:atI [PyData.int (b:Int),.tuple ((List.range n).map f)] 1=some (.tuple ((List.range n).map f)):=rfl
  obtain⟨j1,j2⟩:=xK6 hn Tk (by rfl')
  have jd:=bM j1
  have nk:=xD b (by rfl')
  have so:strOfD [.int (b:Int)]=some (.str (numT b)):=Am nk.2.2.2.1
  have bl:=fX
  have c1:("(":Str).length=1:=rfl
  have c2:(")":Str).length=1:=rfl
  have n2:=nk.1.1
  rw[bV]
  have cc:eComp (iS (e2 ixD (eV 0) (eC (.int 1)))) tYes (eF (wV k) (aC (eV 0) aN)) [] [some (.tuple [.int (b:Int),.tuple ((List.range n).map f)]),some (.int (b:Int)),none]=.ok (.list ((((List.range n).map f).map (ttx l)).map PyData.str)):=by
   rw[AR,AR]
   refine fF f (fun i=>PyData.str (ttx l (f i))) (List.range n) (by simp![a1]) (by rw[Au];rfl') fun i hi => ?_
   have e:=ih i (AA.mp hi) k (by rfl') (by rfl')
   show eF (wV k) (aC (eV 0) aN) [some (f i)]=_
   simp![e]
  have f1:fI (.int (b:Int))=some (numT b):=Am ⟨nk.2.2.2.1,by show (numT b).length<=1000000;rfl'⟩
  have f2:fS (.str (Str.join " " (((List.range n).map f).map (ttx l))))=some (Str.join " " (((List.range n).map f).map (ttx l))):=by
   unfold fS
   rw[yV,AI,Am (by rfl')]
  have jj:eJ (jS fI (eV 1) (jC "(" (jS fS (eV 2) (jC ")" jN)))) [some (.tuple [.int (b:Int),.tuple ((List.range n).map f)]),some (.int (b:Int)),some (.str (Str.join " " (((List.range n).map f).map (ttx l))))]=.ok (.str (numT b ++ "("++Str.join " " (((List.range n).map f).map (ttx l)) ++ ")")):=by
   unfold eJ jS jC jN
   simp![f1,f2]
   show Res.ok (PyData.str (Str.empty++numT b ++ "("++Str.join " " (((List.range n).map f).map (ttx l)) ++ ")"))=_
   rw[BA]
  show (uB (wV k) [some (.tuple [.int (b:Int),.tuple ((List.range n).map f)]),none,none]).bind (fin false)=_
  unfold uB
  simp![i0,a0,yB,yV,cc,jd,jj]
theorem wS{a s:Str}{w:Int}(h:(a++s).length<=1000000):yY [.str (a++s),.str a,.int w]=.ok (.str s):=by
 have bl:=fX
 have la:a.length<=(a++s).length:=by rw[Af];rfl'
 have e1:stwD (a++s) (.str a)=some (.bool true):=by
  unfold stwD
  rw[yV,Bn,xZ1]
 have e2':lenTD [.str a]=some (.int (a.length:Int)):=Am (by rfl')
 have e3:slS (.str (a++s)) (some (a.length:Int)) none=some (.str s):=by
  unfold slS
  rw[yV,AI,Am (by rfl'),yM4]
 show (vN [some (.str (a++s)),some (.str a),some (.int w)]).bind (fin false)=_
 unfold vN
 simp![yB,yV,e1,e2',e3]
inductive TW(p:Nat):Nat->D->Str->Prop
 | none {k:Nat}:TW p k .none "-"
 | node {k:Nat}(w:Str) (ds:List D) (ss:List Str):Wd w->ds.length=p->ss.length=p->(∀(i:Nat) (d:D) (s:Str),ds[i]?=some d->ss[i]?=some s->TW p k d s)->TW p (k+1) (.tuple [.int (dv w:Int),.tuple ds]) (w++("("++(Str.join " " ss ++ ")")))
theorem TW.mono{p k k':Nat}{d:D}{s:Str}(T:TW p k d s):k<=k'->TW p k' d s:=by
 induction T generalizing k' with
 | none=>exact fun _=>.none
 | @node k w ds ss hw h1 h2 _ ih =>
  intro h
  obtain⟨j,rfl⟩:∃j,k'=j+1:=⟨k'-1,by rfl'⟩
  exact .node w ds ss hw h1 h2 fun i d s a b=>ih i d s a b (by rfl')
abbrev NF:Int->Str:=fun _=>"BadText"
theorem xS5{s sg:Str}(h:Txt.startswith s sg=true):∃s1,s=sg++s1:=by
 rw[zO3] at h
 refine⟨⟨((tl s).drop sg.length).toArray⟩,wZ ?_⟩
 show tl s=tl (sg ++ ⟨((tl s).drop sg.length).toArray⟩)
 rw[zB,bQ ((tl s).drop sg.length),<-h,Db]
theorem dA{s:Str}(sg:Str)(hs:s.length<=1000000){r:Int}(h0:0<=r/\r<16):(∃s1,s=sg++s1/\yY [.str s,.str sg,.int r]=.ok (.str s1))\/(Txt.startswith s sg=false/\yY [.str s,.str sg,.int r]=.ex (NF r)):=by
 cases h:Txt.startswith s sg with
 | true =>
  obtain⟨s1,rfl⟩:=xS5 h
  exact .inl ⟨s1,rfl,wS hs⟩
 | false =>
  refine .inr ⟨rfl,?_⟩
  have e1:stwD s (.str sg)=some (.bool false):=by
   unfold stwD
   rw[yV,Bn,h]
  have ra:sRaI NF (aC (eV 2) aN) [some (.str s),some (.str sg),some (.int r)]=.ex (NF r):=raR h0 rfl
  show (vN [some (.str s),some (.str sg),some (.int r)]).bind (fin false)=_
  unfold vN
  simp![yB,yV,e1,ra]
theorem zH8{c:Nat}:∀{l:List Nat},c∈l->∃a b,l=a++c::b/\c∉a
 | x::l,h=>by
  by_cases e:c=x
  ·exact⟨[],l,by rw[e];rfl,fun z=>by cases z⟩
  ·obtain⟨a,b,h1,h2⟩:=zH8 ((Aw.mp h).resolve_left e)
   exact⟨x::a,b,by rw[h1];rfl,fun z=>(Aw.mp z).elim e h2⟩
theorem yZ5(s:Str):(∃a b,s=a++("("++b)/\(Txt.partition s "(").1=a/\(Txt.partition s "(").2.2=b)\/((Txt.partition s "(").1=s/\(Txt.partition s "(").2.2=""):=by
 by_cases h:40∈tl s
 ·obtain⟨a,b,e,na⟩:=zH8 h
  refine .inl ⟨⟨a.toArray⟩,⟨b.toArray⟩,?_⟩
  have es:s=⟨a.toArray⟩++("(" ++ ⟨b.toArray⟩):=wZ (by show tl s=_;rw[zB,zB,bQ a,bQ b,e];rfl)
  have pa:=yX6 (a:=⟨a.toArray⟩) (y:="(") (s:=⟨b.toArray⟩) (c:=40) rfl (by rw[bQ];exact na)
  rw[<-es] at pa
  exact⟨es,pa⟩
 ·refine .inr ?_
  unfold Txt.partition
  rcases PySem.StrLaws.occ_head s "(" 1 (Ai 1) with ⟨e,_⟩ | ⟨i,r,e,hi,_⟩
  ·rw[e]
   exact⟨rfl,rfl⟩
  ·have a:=(aW (by decide)).mp hi
   have:(40:Nat)∈((tl s).drop i).take ("(":Str).length:=by rw[a];decide
   exact absurd (List.mem_of_mem_drop (List.mem_of_mem_take this)) h
theorem xE1:Tx 20000 "":=⟨by decide,fun c hc=>by
 have t:tl "" = []:=by decide +kernel
 rw[t] at hc
 cases hc⟩
def Oc(r:Int)(o:Res D):Prop:=o=.ex (NF r)\/∃t,o=.ok t
def FOk(p:Nat)(fs:Fs):Prop:=∀f∈fs,f.2.length<=p-1
theorem qU{B:Nat}{a b:Str}(h:Tx B (a++b)):Tx (B-a.length) b:=by
 have l:=h.len
 rw[Af] at l
 exact⟨by rfl',fun c hc=>h.asc c (by rw[zB];exact Ad _ hc)⟩
theorem xY3{B:Nat}{a b:Str}(h:Tx B (a++b)):Tx B a:=by
 have l:=h.len
 rw[Af] at l
 exact⟨by rfl',fun c hc=>h.asc c (by rw[zB];exact AM _ hc)⟩
section
variable {p:Nat}{r:Int}
theorem yC8(p1:1<=p)(p6:p<=6)(h0:0<=r/\r<16):∀(fs:Fs) (s:Str) (d:D),(∀s' fs',s'.length<s.length->Tx 20000 s'->FOk p fs'->fs'.length+s'.length<=40000->∃o m,X.Run zF yY NF r (p:Int) o m none s' fs'/\Oc r o)->Tx 20000 s->FOk p fs->fs.length+s.length<=40000 ->
  ∃o m,X.Run zF yY NF r (p:Int) o m (some d) s fs/\Oc r o
 | [],s,d,_,ts,_,_=>by
  by_cases e:s=""
  ·exact⟨.ok d,1,⟨ts.ok,.inl ⟨e,rfl⟩⟩,.inr ⟨d,rfl⟩⟩
  ·exact⟨.ex (NF r),1,⟨ts.ok,.inr ⟨e,h0,rfl⟩⟩,.inl rfl⟩
 | (n,ds)::fs,s,d,IH,ts,fo,l=>by
  have dl:=fo (n,ds) Ac
  have dl:ds.length<=p-1:=dl
  have ls:=ts.len
  rw[AQ] at l
  by_cases c:(ds.length:Int)=(p:Int)-1
  ·rcases dA ")" (show s.length<=1000000 by rfl') h0 with ⟨s1,rfl,e⟩ | ⟨_,e⟩
   ·have t1:=qU ts
    have c1:(")":Str).length=1:=rfl
    have la:(")"++s1:Str).length=1+s1.length:=by rw[Af,c1]
    obtain⟨o,m,R,ho⟩:=yC8 p1 p6 h0 fs s1 (.tuple [.int n,.tuple (ds ++ [d])]) (fun s' fs' h=>IH s' fs' (by rfl')) (t1.mono (by rfl')) (fun f hf=>fo f (Ae _ hf)) (by rfl')
    exact⟨o,m+1,⟨by rfl',.inl ⟨c,.inl ⟨s1,e,R⟩⟩⟩,ho⟩
   ·exact⟨.ex (NF r),1,⟨by rfl',.inl ⟨c,.inr ⟨_,e,rfl⟩⟩⟩,.inl rfl⟩
  ·rcases dA " " (show s.length<=1000000 by rfl') h0 with ⟨s1,rfl,e⟩ | ⟨_,e⟩
   ·have t1:=qU ts
    have c1:(" ":Str).length=1:=rfl
    have la:(" "++s1:Str).length=1+s1.length:=by rw[Af,c1]
    obtain⟨o,m,R,ho⟩:=IH s1 ((n,ds ++ [d])::fs) (by rfl') (t1.mono (by rfl')) (fun f hf=>by
     rcases Aw.mp hf with rfl | hf
     ·show (ds ++ [d]).length<=p-1
      rw[Aq]
      have:[d].length=1:=rfl
      rfl'
     ·exact fo f (Ae _ hf)) (by rw[AQ];rfl')
    exact⟨o,m+1,⟨by rfl',.inr ⟨c,.inl ⟨s1,e,R⟩⟩⟩,ho⟩
   ·exact⟨.ex (NF r),1,⟨by rfl',.inr ⟨c,.inr ⟨_,e,rfl⟩⟩⟩,.inl rfl⟩
theorem yS6(p1:1<=p)(p6:p<=6)(h0:0<=r/\r<16):∀(L:Nat) (s:Str) (fs:Fs),s.length<L->Tx 20000 s->FOk p fs->fs.length+s.length<=40000->∃o m,X.Run zF yY NF r (p:Int) o m none s fs/\Oc r o
 | 0,s,fs,h,_,_,_=>by rfl'
 | L+1,s,fs,h,ts,fo,l=>by
  have bl:=fX
  have ls:=ts.len
  have IH:=yS6 p1 p6 h0 L
  cases st:Txt.startswith s "-" with
  | true =>
   rcases dA "-" (show s.length<=1000000 by rfl') h0 with ⟨s1,rfl,e⟩ | ⟨z,_⟩
   ·have t1:=qU ts
    have c1:("-":Str).length=1:=rfl
    have la:("-"++s1:Str).length=1+s1.length:=by rw[Af,c1]
    obtain⟨o,m,R,ho⟩:=yC8 p1 p6 h0 fs s1 .none (fun s' fs' h=>IH s' fs' (by rfl')) (t1.mono (by rfl')) fo (by rfl')
    exact⟨o,m+1,⟨⟨by rfl',by rfl'⟩,.inl ⟨st,.inl ⟨s1,e,R⟩⟩⟩,ho⟩
   ·rw[st] at z
    cases z
  | false =>
   have push:∀(n:Int) (b:Str),b.length<s.length->Tx 20000 b->∃o m,X.Run zF yY NF r (p:Int) o m none b ((n,[])::fs)/\Oc r o:=fun n b lb tb=>IH b ((n,[])::fs) (by rfl') tb (fun f hf=>by
    rcases Aw.mp hf with rfl | hf
    ·exact Bb _
    ·exact fo f hf) (by rw[AQ];rfl')
   rcases yZ5 s with ⟨a,b,es,e1,e2⟩ | ⟨e1,e2⟩
   ·have c1:("(":Str).length=1:=rfl
    have la:s.length=a.length+(1+b.length):=by rw[es,Af,Af,c1]
    have ta:Tx 20000 a:=xY3 (b:="("++b) (by rw[<-es];exact ts)
    have tb:Tx 20000 b:=(qU (a:="(") (qU (a:=a) (b:="("++b) (by rw[<-es];exact ts))).mono (by rfl')
    rcases gL ta h0 with ⟨_,e⟩ | ⟨_,e⟩
    ·obtain⟨o,m,R,ho⟩:=push (dv a) b (by rfl') tb
     exact⟨o,m+1,⟨⟨by rfl',by rfl'⟩,.inr ⟨st,.inl ⟨_,by rw[e1];exact e,by rw[e2];exact R⟩⟩⟩,ho⟩
    ·exact⟨.ex (NF r),1,⟨⟨by rfl',by rfl'⟩,.inr ⟨st,.inr ⟨_,by rw[e1];exact e,rfl⟩⟩⟩,.inl rfl⟩
   ·rcases gL ts h0 with ⟨wd,e⟩ | ⟨_,e⟩
    ·have ne:0<s.length:=by
      rw[<-yS]
      exact Bj.mpr wd.1.2
     obtain⟨o,m,R,ho⟩:=push (dv s) "" ne xE1
     exact⟨o,m+1,⟨⟨by rfl',by rfl'⟩,.inr ⟨st,.inl ⟨_,by rw[e1];exact e,by rw[e2];exact R⟩⟩⟩,ho⟩
    ·exact⟨.ex (NF r),1,⟨⟨by rfl',by rfl'⟩,.inr ⟨st,.inr ⟨_,by rw[e1];exact e,rfl⟩⟩⟩,.inl rfl⟩
def csp:List Str->Str
 | []=>""
 | s::ss=>s++(" "++csp ss)
theorem zE7(s:Str):""++s=s:=BA s
theorem bT(s:Str):s ++ "" = s:=Str.append_empty s
theorem yP3:∀(ss:List Str) (s:Str),csp (ss ++ [s])=csp ss++(s ++ " ")
 | [],s=>by
  show s++(" " ++ "")=""++(s ++ " ")
  rw[bT,zE7]
 | a::ss,s=>by
  show a++(" "++csp (ss ++ [s]))=(a++(" "++csp ss))++(s ++ " ")
  rw[yP3 ss s,yO,yO]
theorem yZ3:∀(ss:List Str) (s:Str),Str.join " " (ss ++ [s])=csp ss++s
 | [],s=>(zE7 s).symm
 | a::ss,s=>by
  rw[List.cons_append,bR _ _ (by simp),yZ3 ss s]
  show _=(a++(" "++csp ss))++s
  rw[yO,yO]
inductive FT(p:Nat):Nat->Fs->Str->Prop
 | nil {k:Nat}:FT p k [] ""
 | cons {k:Nat}{fs:Fs}{pre:Str}(w:Str) (ds:List D) (ss:List Str):FT p k fs pre->Wd w->ds.length=ss.length->(∀(i:Nat) (d:D) (s:Str),ds[i]?=some d->ss[i]?=some s->TW p k d s)->FT p k (((dv w:Int),ds)::fs) (pre++(w++("("++csp ss)))
theorem FT.mono{k k':Nat}{fs:Fs}{pre:Str}(T:FT p k fs pre)(h:k<=k'):FT p k' fs pre:=by
 induction T with
 | nil=>exact .nil
 | cons w ds ss _ hw hl h3 ih=>exact .cons w ds ss ih hw hl fun i d s a b=>(h3 i d s a b).mono h
theorem yO2{k:Nat}{ds:List D}{ss:List Str}{d:D}{s:Str}(hl:ds.length=ss.length)(h:∀(i:Nat) (d:D) (s:Str),ds[i]?=some d->ss[i]?=some s->TW p k d s)(T:TW p k d s):∀(i:Nat) (d':D) (s':Str),(ds ++ [d])[i]?=some d'->(ss ++ [s])[i]?=some s'->TW p k d' s':=fun i d' s' a b=>by
 by_cases c:i<ds.length
 ·rw[BB c] at a
  rw[BB (by rfl')] at b
  exact h i d' s' a b
 ·rw[BK (by rfl')] at a
  rw[BK (by rfl'),<-hl] at b
  cases j:i-ds.length with
  | zero =>
   rw[j] at a b
   simp at a b
   subst a b
   exact T
  | succ j' =>
   rw[j] at a
   simp at a
theorem kD(p1:1<=p)(h0:0<=r/\r<16){t:D}:∀(m:Nat) (q:Option D) (s:Str) (fs:Fs) (pre:Str) (k:Nat),X.Run zF yY NF r (p:Int) (.ok t) m q s fs->Tx 20000 s->FT p k fs pre ->
  match q with
  | none=>∃k',TW p k' t (pre++s)
  | some d=>∀sd,TW p k d sd->∃k',TW p k' t (pre++(sd++s))
 | 0,_,_,_,_,_,R,_,_=>R.elim
 | m+1,none,s,fs,pre,k,R,ts,T=>by
  have ls:=ts.len
  rcases R.2 with ⟨st,⟨s1,e,R1⟩ | ⟨c,_,e⟩⟩ | ⟨st,⟨n,e,R1⟩ | ⟨c,_,e⟩⟩
  ·rcases dA "-" (show s.length<=1000000 by rfl') h0 with ⟨s2,rfl,e2⟩ | ⟨z,_⟩
   ·rw[e2] at e
    cases e
    exact kD p1 h0 m (some .none) s1 fs pre k R1 ((qU ts).mono (by rfl')) T "-" .none
   ·rw[st] at z
    cases z
  ·cases e
  ·rcases yZ5 s with ⟨a,b,es,e1,e2⟩ | ⟨e1,e2⟩
   ·have ta:Tx 20000 a:=xY3 (b:="("++b) (by rw[<-es];exact ts)
    have tb:Tx 20000 b:=(qU (a:="(") (qU (a:=a) (b:="("++b) (by rw[<-es];exact ts))).mono (by rfl')
    rw[e1] at e
    rw[e2] at R1
    rcases gL ta h0 with ⟨wd,e'⟩ | ⟨_,e'⟩
    ·rw[e'] at e
     cases e
     obtain⟨k',h⟩:=kD p1 h0 m none b _ _ k R1 tb (.cons a [] [] T wd rfl fun i d s a=>by simp at a)
     refine⟨k',?_⟩
     have eq:(pre++(a++("("++csp [])))++b=pre++s:=by
      rw[es]
      show (pre++(a++("(" ++ "")))++b=_
      rw[bT,yO,yO]
     rw[<-eq]
     exact h
    ·rw[e'] at e
     cases e
   ·rw[e1] at e
    rw[e2] at R1
    exfalso
    cases m with
    | zero=>exact R1
    | succ m =>
     have s0:Txt.startswith "" "-" = false:=by decide +kernel
     have p0:(Txt.partition "" "(").1="":=by decide +kernel
     rcases R1.2 with ⟨st',_⟩ | ⟨_,⟨n',e',_⟩ | ⟨c,_,e'⟩⟩
     ·rw[s0] at st'
      cases st'
     ·rw[p0] at e'
      rcases gL xE1 h0 with ⟨wd,_⟩ | ⟨_,e2'⟩
      ·exact wd.1.2 (by decide +kernel)
      ·rw[e2'] at e'
       cases e'
     ·cases e'
  ·cases e
 | m+1,some d,s,[],pre,k,R,ts,T=>by
  intro sd Td
  rcases R.2 with ⟨rfl,e⟩ | ⟨_,_,e⟩
  ·cases e
   cases T
   refine⟨k,?_⟩
   rw[bT,zE7]
   exact Td
  ·cases e
 | m+1,some d,s,(n,ds)::fs,pre,k,R,ts,T=>by
  intro sd Td
  have ls:=ts.len
  cases T with
  | cons w ds ss T hw hl hk =>
   rename_i pre0
   rcases R.2 with ⟨c,⟨s1,e,R1⟩ | ⟨x,_,e⟩⟩ | ⟨c,⟨s1,e,R1⟩ | ⟨x,_,e⟩⟩
   ·rcases dA ")" (show s.length<=1000000 by rfl') h0 with ⟨s2,rfl,e2⟩ | ⟨_,e2⟩
    ·rw[e2] at e
     cases e
     have node:TW p (k+1) (.tuple [.int (dv w:Int),.tuple (ds ++ [d])]) (w++("("++(Str.join " " (ss ++ [sd]) ++ ")"))):=.node w _ _ hw (by rw[Aq];have:[d].length=1:=rfl;rfl') (by rw[Aq,<-hl];have:[sd].length=1:=rfl;rfl') (yO2 hl hk Td)
     obtain⟨k',h⟩:=kD p1 h0 m (some _) s1 fs pre0 (k+1) R1 ((qU ts).mono (by rfl')) (T.mono (by rfl')) _ node
     refine⟨k',?_⟩
     have eq:pre0++((w++("("++(Str.join " " (ss ++ [sd]) ++ ")")))++s1)=(pre0++(w++("("++csp ss)))++(sd++(")"++s1)):=by
      rw[yZ3]
      simp only[yO]
     rw[<-eq]
     exact h
    ·rw[e2] at e
     cases e
   ·cases e
   ·rcases dA " " (show s.length<=1000000 by rfl') h0 with ⟨s2,rfl,e2⟩ | ⟨_,e2⟩
    ·rw[e2] at e
     cases e
     obtain⟨k',h⟩:=kD p1 h0 m none s1 _ _ k R1 ((qU ts).mono (by rfl')) (.cons w (ds ++ [d]) (ss ++ [sd]) T hw (by rw[Aq,Aq,hl];rfl) (yO2 hl hk Td))
     refine⟨k',?_⟩
     have eq:(pre0++(w++("("++csp (ss ++ [sd]))))++s1=(pre0++(w++("("++csp ss)))++(sd++(" "++s1)):=by
      rw[yP3]
      simp only[yO]
     rw[<-eq]
     exact h
    ·rw[e2] at e
     cases e
   ·cases e
theorem xL2{w s:Str}(h:Wd w):(Txt.partition (w++("("++s)) "(").1=w/\(Txt.partition (w++("("++s)) "(").2.2=s/\Txt.startswith (w++("("++s)) "-" = false:=by
 have n40:40∉tl w:=fun z=>by have:=h.1.1 40 z;rfl'
 have n45:45∉tl w:=fun z=>by have:=h.1.1 45 z;rfl'
 obtain⟨a,b⟩:=yX6 (a:=w) (y:="(") (s:=s) (c:=40) rfl n40
 exact⟨a,b,xX5 (c:=45) rfl h.1.2 n45⟩
theorem xR9{w:Str}(h:Wd w){r:Int}(h0:0<=r/\r<16):zF [.str w,.int r]=.ok (.int (dv w:Int)):=by
 have tx:Tx 20000 w:=⟨by have:=h.2.1;rfl',fun c hc=>by have:=h.1.1 c hc;rfl'⟩
 rcases gL tx h0 with ⟨_,e⟩ | ⟨n,_⟩
 ·exact e
 ·exact absurd h n
theorem zC7(p1:1<=p)(p6:p<=6)(h0:0<=r/\r<16){R:Res D}{k:Nat}{d:D}{sd:Str}(T:TW p k d sd):∀(s:Str) (fs:Fs) (m:Nat),(sd++s).length<=1000000->fs.length+k<=60000->X.Run zF yY NF r (p:Int) R m (some d) s fs->∃m',X.Run zF yY NF r (p:Int) R m' none (sd++s) fs:=by
 have bl:=fX
 induction T with
 | none =>
  intro s fs m hs hf h
  exact⟨m+1,⟨by rfl',by rfl'⟩,.inl ⟨xZ1 _ _,.inl ⟨s,wS hs,h⟩⟩⟩
 | @node k w ds ss hw hd hss hk ih =>
  intro s fs m hs hf h
  have kids:∀(j i:Nat),i+(j+1)=p->(Str.join " " (ss.drop i)++(")"++s)).length<=1000000->∃m',X.Run zF yY NF r (p:Int) R m' none (Str.join " " (ss.drop i)++(")"++s)) (((dv w:Int),ds.take i)::fs):=by
   intro j
   induction j with
   | zero =>
    intro i hi hlen
    obtain⟨di,edi⟩:∃x,ds[i]?=some x:=⟨_,Ah (by rfl')⟩
    obtain⟨si,esi⟩:∃x,ss[i]?=some x:=⟨_,Ah (by rfl')⟩
    have es:ss.drop i=[si]:=by
     have g:=(Aj.mp esi)
     rw[Bp g.1,g.2,CZ (by rfl')]
    have e:Str.join " " (ss.drop i)=si:=by rw[es];rfl
    rw[e] at hlen ⊢
    have hlen2:(")"++s:Str).length<=1000000:=by rw[Af] at hlen;rfl'
    refine ih i di si edi esi (")"++s) _ (m+1) hlen (by rw[AQ];rfl') ⟨by rw[Bo];rfl',.inl ⟨by rw[Bo];rfl',.inl ⟨s,wS hlen2,?_⟩⟩⟩
    have e2:ds.take i ++ [di]=ds:=by
     have t:ds.take (i+1)=ds.take i ++ [di]:=by rw[CI,edi];rfl
     rw[<-t,BZ (by rfl')]
    rw[e2]
    exact h
   | succ j ihj =>
    intro i hi hlen
    obtain⟨di,edi⟩:∃x,ds[i]?=some x:=⟨_,Ah (by rfl')⟩
    obtain⟨si,esi⟩:∃x,ss[i]?=some x:=⟨_,Ah (by rfl')⟩
    have es:ss.drop i=si::ss.drop (i+1):=by
     have g:=(Aj.mp esi)
     rw[Bp g.1,g.2]
    have ne:ss.drop (i+1) ≠ []:=fun z=>by
     have:=BQ List.length z
     rw[BF,List.length_nil] at this
     rfl'
    have e:Str.join " " (ss.drop i)++(")"++s)=si++(" "++(Str.join " " (ss.drop (i+1))++(")"++s))):=by
     rw[es,bR _ _ ne,yO,yO]
    rw[e] at hlen ⊢
    have hlen2:(" "++(Str.join " " (ss.drop (i+1))++(")"++s)):Str).length<=1000000:=by rw[Af] at hlen;rfl'
    have hlen3:(Str.join " " (ss.drop (i+1))++(")"++s):Str).length<=1000000:=by rw[Af] at hlen2;rfl'
    obtain⟨m',h'⟩:=ihj (i+1) (by rfl') hlen3
    have e2:ds.take i ++ [di]=ds.take (i+1):=by rw[CI,edi];rfl
    refine ih i di si edi esi _ _ (m'+1) hlen (by rw[AQ];rfl') ⟨by rw[Bo];rfl',.inr ⟨by rw[Bo];rfl',.inl ⟨_,wS hlen2,?_⟩⟩⟩
    rw[e2]
    exact h'
  have e:(w++("("++(Str.join " " ss ++ ")")))++s=w++("("++(Str.join " " (ss.drop 0)++(")"++s))):=by
   rw[List.drop_zero]
   simp only[yO]
  rw[e] at hs ⊢
  have hs2:("("++(Str.join " " (ss.drop 0)++(")"++s)):Str).length<=1000000:=by rw[Af] at hs;rfl'
  have hs3:(Str.join " " (ss.drop 0)++(")"++s):Str).length<=1000000:=by rw[Af] at hs2;rfl'
  obtain⟨m',h'⟩:=kids (p-1) 0 (by rfl') hs3
  obtain⟨q1,q2,q3⟩:=xL2 (s:=Str.join " " (ss.drop 0)++(")"++s)) hw
  refine⟨m'+1,⟨by rfl',by rfl'⟩,.inr ⟨q3,.inl ⟨(dv w:Int),by rw[q1];exact xR9 hw h0,?_⟩⟩⟩
  rw[q2]
  exact h'
theorem xE3(p1:1<=p)(p6:p<=6)(h0:0<=r/\r<16){s:Str}(ts:Tx 20000 s):(∃d k,TW p k d s/\yE [.str s,.int (p:Int),.int r]=.ok d)\/((∀d k,k<=60000->¬TW p k d s)/\yE [.str s,.int (p:Int),.int r]=.ex (NF r)):=by
 have ls:=ts.len
 obtain⟨o,m,R,ho⟩:=yS6 p1 p6 h0 (s.length+1) s [] (CK _) ts (fun f hf=>by cases hf) (by show 0+_<=_;rfl')
 have e:=X.yI5 R
 rcases ho with rfl | ⟨t,rfl⟩
 ·refine .inr ⟨fun d k hk T => ?_,e⟩
  obtain⟨m',R'⟩:=zC7 (r:=r) (R:=.ok d) p1 p6 h0 T "" [] 1 (by rw[bT];rfl') (by show 0+k<=60000;rfl') ⟨by decide +kernel,.inl ⟨rfl,rfl⟩⟩
  rw[bT] at R'
  have:=X.gJ _ _ _ _ _ R R'
  cases this
 ·obtain⟨k,T⟩:=kD p1 h0 m none s [] "" 0 R ts .nil
  rw[zE7] at T
  exact .inl ⟨t,k,T,e⟩
theorem yP7(p1:1<=p)(p6:p<=6)(h0:0<=r/\r<16){d:D}{k:Nat}{s:Str}(T:TW p k d s)(hk:k<=60000)(hs:s.length<=1000000):yE [.str s,.int (p:Int),.int r]=.ok d:=by
 obtain⟨m',R'⟩:=zC7 (r:=r) (R:=.ok d) p1 p6 h0 T "" [] 1 (by rw[bT];rfl') (by show 0+k<=60000;rfl') ⟨by decide +kernel,.inl ⟨rfl,rfl⟩⟩
 rw[bT] at R'
 exact X.yI5 R'
end
def opN(ops:List Int):List Nat:=ops.map Int.toNat
theorem yO3{n:Nat}{ops:List Int}(q:Opn n ops):rI' (opN ops)=ops:=by
 unfold rI' opN
 rw[AR]
 have:∀x∈ops,((fun (b:Nat)=>(b:Int))∘Int.toNat) x=x:=fun x hx=>by
  have:=(q.bd x hx).1
  show ((x.toNat:Nat):Int)=x
  rfl'
 rw[BC this,List.map_id']
theorem zY3{n:Nat}{ops:List Int}(q:Opn n ops)(hn:n<=6):∀x∈opN ops,x<61:=fun x hx=>by
 obtain⟨y,hy,rfl⟩:=AJ.mp hx
 have:=(q.bd y hy).2
 rfl'
theorem zW7{n:Nat}{ops:List Int}(q:Opn n ops):(opN ops).length=n:=by unfold opN;rw[Aa,q.len]
def opT(ops:List Int):Str:="openings "++rT (opN ops)
def pT(p:Nat)(x:Str):Str:="person "++numT p ++ " "++x
def lv(ops:List Int)(p:Nat):Nat:=(ops.getD p 0).toNat
def prw(n:Nat)(ops:List Int)(t:Nat->D):List Str:=opT ops::(List.range n).map fun p=>pT p (ttx (lv ops p) (t p))
section
variable {n:Nat}{ops:List Int}{t:Nat->D}
theorem bX(q:Opn n ops)(hn:n<=6){p:Nat}(hp:p<n):lv ops p<=6:=by
 have:=q.at hp
 unfold lv
 rfl'
theorem zK5(q:Opn n ops)(hn:n<=6):(opT ops).length<=200/\(rT (opN ops)).length<=180:=by
 have h:=zB1 (zY3 q hn) (by rw[zW7 q];rfl')
 have c:("openings ":Str).length=9:=rfl
 unfold opT
 rw[Af]
 exact⟨by rfl',h⟩
theorem yE3(P:PlanOk n ops t)(q:Opn n ops)(hn:n<=6){p:Nat}(hp:p<n):(pT p (ttx (lv ops p) (t p))).length<=150010:=by
 have h:=aU hn (P.tree p hp) (bX q hn hp)
 have nk:=(xD p (by rfl')).1.1
 have c:("person ":Str).length=7:=rfl
 have c2:(" ":Str).length=1:=rfl
 unfold pT
 rw[Af,Af,Af]
 have h':(ttx (lv ops p) (t p)).length<=150000:=h
 rfl'
theorem xJ5(P:PlanOk n ops t)(q:Opn n ops)(hn:n<=6):∀x∈prw n ops t,x.length<=150010:=fun x hx=>by
 rcases Aw.mp hx with rfl | hx
 ·have:=(zK5 q hn).1
  rfl'
 ·obtain⟨p,hp,rfl⟩:=AJ.mp hx
  exact yE3 P q hn (AA.mp hp)
theorem zK4:(prw n ops t).length=n+1:=by unfold prw;simp
theorem yZ9(P:PlanOk n ops t)(q:Opn n ops)(hn:n<=6):JoinOk "\n" (prw n ops t)=true/\(Str.join "\n" (prw n ops t)).length<=7*(150010+1) :=
 zL5 rfl (by rw[zK4];rfl') (xJ5 P q hn) (by decide)
theorem xA8{r:List Nat}(hr:∀x∈r,x<61):PyData.strOk (rT r)=true/\10∉tl (rT r):=by
 refine⟨fM (by decide +kernel) _ fun t ht => ?_,?_⟩
 ·obtain⟨x,hx,rfl⟩:=AJ.mp ht
  exact (xD x (hr x hx)).2.2.2.2.1
 ·have:∀l:List Nat,(∀x∈l,x<61)->10∉tl (Str.join " " (l.map numT)):=fun l=>by
   induction l with
   | nil=>exact fun _ z=>by cases z
   | cons a l ih =>
    intro h
    have ha:=(xD a (h a Ac)).2.2.2.2.2.2.2.2
    cases l with
    | nil=>exact ha
    | cons b l =>
     rw[AF,AF,xS,zB,zB]
     intro z
     rcases AE.mp z with z | z
     ·rcases AE.mp z with z | z
      ·exact ha z
      ·exact absurd z (by decide)
     ·exact ih (fun x hx=>h x (Ae _ hx)) z
  exact this r hr
theorem xD8(P:PlanOk n ops t)(q:Opn n ops)(hn:n<=6):∀x∈prw n ops t,PyData.strOk x=true/\10∉tl x:=fun x hx=>by
 rcases Aw.mp hx with rfl | hx
 ·have h:=xA8 (zY3 q hn)
  refine⟨vT (by decide +kernel) h.1,fun z => ?_⟩
  unfold opT at z
  rw[zB] at z
  rcases AE.mp z with z | z
  ·exact absurd z (by decide +kernel)
  ·exact h.2 z
 ·obtain⟨p,hp,rfl⟩:=AJ.mp hx
  have hp:=AA.mp hp
  have h:=zJ1 hn (P.tree p hp) (bX q hn hp)
  have nk:=xD p (by rfl')
  refine⟨vT (vT (vT (by decide +kernel) nk.2.2.2.2.1) (by decide +kernel)) h.2.1,fun z => ?_⟩
  unfold pT at z
  rw[zB,zB,zB] at z
  rcases AE.mp z with z | z
  ·rcases AE.mp z with z | z
   ·rcases AE.mp z with z | z
    ·exact absurd z (by decide +kernel)
    ·exact nk.2.2.2.2.2.2.2.2 z
   ·exact absurd z (by decide)
  ·exact h.2.2 z
theorem yE9(P:PlanOk n ops t)(q:Opn n ops)(hn:n<=6):Txt.split (Str.join "\n" (prw n ops t)) "\n" = prw n ops t :=
 jR (c:=10) (y':=[]) rfl (by decide +kernel) (fun z=>nomatch z) fun p hp=>(xD8 P q hn p hp).2
theorem xS1(i:Nat):(opT ops::(List.range i).map fun p=>pT p (ttx (lv ops p) (t p))).map PyData.str ++ [PyData.str (pT i (ttx (lv ops i) (t i)))]=(opT ops::(List.range (i+1)).map fun p=>pT p (ttx (lv ops p) (t p))).map PyData.str:=by
 rw[BM,AT,AF,AF,AT]
 rfl
theorem zY2(P:PlanOk n ops t)(q:Opn n ops)(h1:1<=n)(hn:n<=6):xH [tI ops,.tuple ((List.range n).map t)]=.ok (.str (Str.join "\n" (prw n ops t))):=by
 show (dG [some (tI ops),some (.tuple ((List.range n).map t)),none,none,none,none,none]).bind (fin false)=_
 have e0:=yO3 q
 have lr:=(zK5 q hn).2
 have hl:((List.range n).map t).length=n:=by rw[Aa,Au]
 have en:vX [tI ops]=.ok (.str (rT (opN ops))):=dM (r:=opN ops) (.inl (by rw[e0])) (zY3 q hn) (by rw[zW7 q];rfl')
 have fs:fS (.str (rT (opN ops)))=some (rT (opN ops)):=by
  unfold fS
  rw[yV,AI,Am (by rfl')]
 have jo:eJ (jC "openings " (jS fS (eV 2) jN)) [some (tI ops),some (.tuple ((List.range n).map t)),some (.str (rT (opN ops))),none,none,none,none]=.ok (.str (opT ops)):=by
  unfold eJ jS jC jN
  simp![fs]
  show Res.ok (PyData.str (Str.empty ++ "openings "++rT (opN ops)))=_
  rw[BA]
  rfl
 have jd:=bM (yZ9 P q hn).1
 unfold dG
 simp![hl,fR q h1 (show n<=60 by rfl'),en,jo,cT]
 refine zX5 (fun i ρ=>∃x y z,ρ=[some (tI ops),some (.tuple ((List.range n).map t)),some (.str (rT (opN ops))),some (.list ((opT ops::(List.range i).map fun p=>pT p (ttx (lv ops p) (t p))).map PyData.str)),x,y,z]) ⟨none,none,none,rfl⟩ ?_ ?_
 ·rintro i d ρ hd ⟨x,y,z,rfl⟩
  rw[Ak] at hd
  obtain⟨j,ej,rfl⟩:=Av.mp hd
  have hi:i<n:=by simpa using (Aj.mp ej).1
  rw[Ay hi] at ej
  cases ej
  have nk:=xD i (by rfl')
  have n2:=nk.1.1
  have tx:=aU hn (P.tree i hi) (bX q hn hi)
  have tx:(ttx (lv ops i) (t i)).length<=150000:=tx
  have e1:dE [t i]=.ok (.str (ttx (lv ops i) (t i))):=(wY4 hn (P.tree i hi) 14 (by have:=bX q hn hi;unfold lv at this;rfl') (bX q hn hi))
  have f1:fI (.int (i:Int))=some (numT i):=Am ⟨nk.2.2.2.1,by show (numT i).length<=1000000;rfl'⟩
  have f2:fS (.str (ttx (lv ops i) (t i)))=some (ttx (lv ops i) (t i)):=by
   unfold fS
   rw[yV,AI,Am (by rfl')]
  have jj:eJ (jC "person " (jS fI (eV 4) (jC " " (jS fS (eV 6) jN)))) [some (tI ops),some (.tuple ((List.range n).map t)),some (.str (rT (opN ops))),some (.list ((opT ops::(List.range i).map fun p=>pT p (ttx (lv ops p) (t p))).map PyData.str)),some (.int (i:Int)),some (t i),some (.str (ttx (lv ops i) (t i)))]=.ok (.str (pT i (ttx (lv ops i) (t i)))):=by
   unfold eJ jS jC jN
   simp![f1,f2]
   show Res.ok (PyData.str (Str.empty ++ "person "++numT i ++ " "++ttx (lv ops i) (t i)))=_
   rw[BA]
   rfl
  have ap:appD ((opT ops::(List.range i).map fun p=>pT p (ttx (lv ops p) (t p))).map PyData.str) [.str (pT i (ttx (lv ops i) (t i)))]=some ((opT ops::(List.range (i+1)).map fun p=>pT p (ttx (lv ops p) (t p))).map PyData.str):=by
   rw[<-xS1]
   exact cF (by simp;rfl')
  refine⟨_,[some (tI ops),some (.tuple ((List.range n).map t)),some (.str (rT (opN ops))),some (.list ((opT ops::(List.range (i+1)).map fun p=>pT p (ttx (lv ops p) (t p))).map PyData.str)),some (.int (i:Int)),some (t i),some (.str (ttx (lv ops i) (t i)))],rfl,?_,_,_,_,rfl⟩
  simp![e1,jj,ap]
 ·rintro ρ ⟨x,y,z,rfl⟩
  rw[Aa,Au]
  have jd':joinD "\n" (.list ((opT ops::(List.range n).map fun p=>pT p (ttx (lv ops p) (t p))).map PyData.str))=some (.str (Str.join "\n" (prw n ops t))):=jd
  simp![yB,yV,jd']
end
inductive Down(n:Nat)(xs:List Int):D->List Nat->Prop
 | none:Down n xs .none []
 | node {b:Nat}{f:Nat->D}{ws:List Nat}:b<n->Down n xs (f (nxt xs b)) ws->Down n xs (.tuple [.int (b:Int),.tuple ((List.range n).map f)]) (b::ws)
theorem xI3{n l:Nat}{bs ns xs:List Int}{d:D}(o:Ord n xs)(T:TreeOk n l bs ns d):∃ws,Down n xs d ws/\ws.length<=l:=by
 induction T with
 | none=>exact⟨[],.none,Bb _⟩
 | @node l bs ns b f hb _ _ _ ih =>
  obtain⟨ws,D,h⟩:=ih (nxt xs b) (o.zB7 hb)
  exact⟨b::ws,.node hb D,by rw[AQ];rfl'⟩
theorem Down.lt{n:Nat}{xs:List Int}{d:D}{ws:List Nat}(D:Down n xs d ws):∀b∈ws,b<n:=by
 induction D with
 | none=>exact fun b hb=>nomatch hb
 | @node b f ws hb _ ih =>
  intro c hc
  rcases Aw.mp hc with rfl | hc
  ·exact hb
  ·exact ih c hc
theorem zL8{n:Nat}{xs:List Int}{d:D}{ws:List Nat}(o:Ord n xs)(hn:n<=60)(D:Down n xs d ws)(hw:ws.length<=100):jT [d,tI xs]=.ok (lI (rI' ws)):=by
 show (fY [some d,some (tI xs),none,none,none]).bind (fin true)=_
 unfold fY
 simp -implicitDefEqProofs only[(evA)]
 refine xG9 (fun i ρ=>∃x di,Down n xs di (ws.drop i)/\ρ=[some d,some (tI xs),some (lI (rI' (ws.take i))),some di,x]) ws.length (by rfl') ⟨none,d,D,rfl⟩ ?_ ?_ ?_
 ·rintro i ρ hi ⟨x,di,Di,rfl⟩
  have ew:ws.drop i=ws[i]::ws.drop (i+1):=Bp hi
  rw[ew] at Di
  generalize hb:ws[i]=b at Di ew
  cases Di with
  | @node _ f _ hbn D2 =>
   have i0:isND true (.tuple [.int (b:Int),.tuple ((List.range n).map f)]) .none=some true:=rfl
   have b0:atI [PyData.int (b:Int),.tuple ((List.range n).map f)] 0=some (.int (b:Int)):=rfl
   have b1:atI [PyData.int (b:Int),.tuple ((List.range n).map f)] 1=some (.tuple ((List.range n).map f)):=rfl
   have nx:atI (xs.map PyData.int) (b:Int)=some (.int ((nxt xs b:Nat):Int)):=by
    rw[uH,uN (by rw[o.len];exact hbn),o.gM hbn]
    rfl
   have at2:=xG5 f (o.zB7 hbn)
   have ap:=cF (l:=(rI' (ws.take i)).map PyData.int) (d:=.int (b:Int)) (by rw[Aa,wA,Bo];rfl')
   refine⟨by simp![i0],_,?_,some (.int (b:Int)),f (nxt xs b),D2,rfl⟩
   simp![b0,ap,b1,nx,at2]
   rw[show ws.take (i+1)=ws.take i ++ [b] by rw[CI,Ah hi,hb];rfl,yH3]
   simp only[lI,AT]
   rfl
 ·rintro ρ ⟨x,di,Di,rfl⟩
  rw[BR] at Di
  cases Di
  have i0:isND true .none .none=some false:=rfl
  simp![i0]
 ·rintro ρ ⟨x,di,Di,rfl⟩
  rw[Bz]
  simp -implicitDefEqProofs only[(evA)]
def ftF(xs:List Int)(W:Nat->List Nat)(p:Nat):Bool:=((W p).map fun b=>((nxt xs b:Nat):Int)).contains (p:Int)
theorem yK5{n:Nat}{ops xs:List Int}{t:Nat->D}(o:Ord n xs)(P:PlanOk n ops t):∃W:Nat->List Nat,∀p,p<n->Down n xs (t p) (W p)/\(W p).length<=(ops.getD p 0).toNat:=by
 have h:∀p,∃ws,p<n->Down n xs (t p) ws/\ws.length<=(ops.getD p 0).toNat:=fun p=>by
  by_cases hp:p<n
  ·obtain⟨ws,D,l⟩:=xI3 o (P.tree p hp)
   exact⟨ws,fun _=>⟨D,l⟩⟩
  ·exact⟨[],fun h=>absurd h hp⟩
 exact⟨fun p=>Classical.choose (h p),fun p hp=>AN (h p) hp⟩
theorem zO2{n:Nat}{ds:List D}{xs:List Int}(o:Ord n xs)(h:ds.length=n):hX [.tuple ds,tI xs]=.ok .none:=by
 show (hU [some (.tuple ds),some (tI xs)]).bind (fin false)=_
 unfold hU
 simp![Aa,o.len,h,xO,decide_true]
theorem zK1{n:Nat}{xs ops:List Int}{t:Nat->D}{W:Nat->List Nat}(o:Ord n xs)(q:Opn n ops)(h2:n<=60)(hW:∀p,p<n->Down n xs (t p) (W p)/\(W p).length<=(ops.getD p 0).toNat):yK [.tuple ((List.range n).map t),tI xs]=.ok (tI (rI' ((List.range n).filter (ftF xs W)))):=by
 have hl:((List.range n).map t).length=n:=by rw[Aa,Au]
 have hle:∀i,((List.range i).filter (ftF xs W)).length<=i:=fun i=>Ba (List.length_filter_le _ _) (by rw[Au];exact Ai i)
 show (gG [some (.tuple ((List.range n).map t)),some (tI xs),none,none,none]).bind (fin false)=_
 unfold gG
 have en:enumD ((List.range n).map t)=_:=cT n _
 simp![zO2 o hl,en]
 refine zX5 (fun i ρ=>∃x y,ρ=[some (.tuple ((List.range n).map t)),some (tI xs),some (lI (rI' ((List.range i).filter (ftF xs W)))),x,y]) ⟨none,none,rfl⟩ ?_ ?_
 ·rintro i d ρ hd ⟨x,y,rfl⟩
  rw[Ak] at hd
  obtain⟨j,ej,rfl⟩:=Av.mp hd
  have hi:i<n:=by simpa using (Aj.mp ej).1
  rw[Ay hi] at ej
  cases ej
  obtain⟨Di,li⟩:=hW i hi
  have b:=q.at hi
  have bd:=zL8 o h2 Di (by rfl')
  have cc:eComp (iS (eF jT (aC (eV 4) (aC (eV 1) aN)))) tYes (e2 ixD (eV 1) (eV 0)) [1] [some (.tuple ((List.range n).map t)),some (tI xs),some (lI (rI' ((List.range i).filter (ftF xs W)))),some (.int (i:Int)),some (t i)]=.ok (lI ((W i).map fun b=>((nxt xs b:Nat):Int))):=by
   rw[fF (fun b:Nat=>PyData.int (b:Int)) (fun b:Nat=>PyData.int ((nxt xs b:Nat):Int)) (W i) (by
    simp![bd]
    unfold rI'
    rw[AR]
    rfl) (by rfl') (fun b hb=>by
    have hb:=Di.lt b hb
    have nx:atI (xs.map PyData.int) (b:Int)=some (.int ((nxt xs b:Nat):Int)):=by
     rw[uH,uN (by rw[o.len];exact hb),o.gM hb]
     rfl
    show e2 ixD _ _ [some (.int (b:Int)),some (tI xs)]=_
    simp![nx])]
   rw[lI,AR]
   rfl
  have fi:((W i).map fun b=>((nxt xs b:Nat):Int)).contains (i:Int)=ftF xs W i:=rfl
  have rs:(List.range (i+1)).filter (ftF xs W)=(List.range i).filter (ftF xs W)++(if ftF xs W i then [i] else []):=by
   rw[BM,List.filter_append]
   congr 1
   by_cases h:ftF xs W i=true <;> simp[h]
  have lle:((rI' ((List.range i).filter (ftF xs W))).map PyData.int).length<=1000:=by
   rw[Aa,wA]
   have:=hle i
   rfl'
  refine⟨_,[some (.tuple ((List.range n).map t)),some (tI xs),some (lI (rI' ((List.range (i+1)).filter (ftF xs W)))),some (.int (i:Int)),some (t i)],rfl,?_,_,_,rfl⟩
  cases c:ftF xs W i with
  | true =>
   rw[c] at fi rs
   simp![cc,kY,fi,cF lle]
   rw[rs,Am rfl,yH3]
   simp only[lI,AT]
   rfl
  | false =>
   rw[c] at fi rs
   simp![cc,kY,fi]
   rw[rs,AG Ap,Ch]
 ·rintro ρ ⟨x,y,rfl⟩
  rw[Aa,Au]
  simp -implicitDefEqProofs only[(evA)]
theorem zZ3(ns:List Int)(k:Nat):wF [lI ns,.int k]=.ok (.int (ns.getD k 0)):=by
 show (dF [some (lI ns),some (.int k)]).bind (fin false)=_
 unfold dF
 simp![Aa,uH]
 by_cases h:k<ns.length
 ·rw[Ag (by rfl')]
  simp![uN h]
 ·rw[An (by rfl')]
  simp![AO,Bs (Nat.le_of_not_lt h),Option.getD_none]
theorem yH6(ns:List Int):∃n:Nat,1<=n/\n<=60/\zR5 [lI ns]=.ok (.int n):=by
 show ∃n:Nat,1<=n/\n<=60/\(zR4 [some (lI ns),none]).bind (fin false)=_
 unfold zR4
 have e0:=zZ3 ns 0
 rw[show ((0:Nat):Int)=0 from rfl] at e0
 simp![e0,modO,fdivO,Am (show (0:Int)<4 by decide),Am (show (0:Int)<8 by decide),Am (show (0:Int)<20 by decide),Am (show (0:Int)<60 by decide),Am (show DivOk 4 from DivOk.small (by decide) (by decide))]
 generalize ns.getD 0 0=h
 have h4:h%4=0\/h%4=1\/h%4=2\/h%4=3:=by rfl'
 rcases h4 with e | e | e | e
 ·refine⟨(1+h / 4%8).toNat,by rfl',by rfl',?_⟩
  rw[e]
  show Res.ok (PyData.int (1+h / 4%8))=_
  congr 2
  rfl'
 ·refine⟨(1+h / 4%8).toNat,by rfl',by rfl',?_⟩
  rw[e]
  show Res.ok (PyData.int (1+h / 4%8))=_
  congr 2
  rfl'
 ·refine⟨(1+h / 4%20).toNat,by rfl',by rfl',?_⟩
  rw[e]
  show Res.ok (PyData.int (1+h / 4%20))=_
  congr 2
  rfl'
 ·refine⟨(1+h / 4%60).toNat,by rfl',by rfl',?_⟩
  rw[e]
  show Res.ok (PyData.int (1+h / 4%60))=_
  congr 2
  rfl'
theorem zP7(c:Int)(n:Nat)(hn:n<=1000):vS [.int c,.int n]=.ok (tI (lawOrd c n).1):=by
 show (aQ [some (.int c),some (.int n),none,none]).bind (fin false)=_
 unfold aQ
 simp![jA hn]
 obtain⟨ρ',e,x,rfl⟩:=vH (g:=gN 3) (b:=sQ (sM 2 insD (aC (e2 modI (eV 0) (e2 addI (eV 3) (eC (.int 1)))) (aC (eV 3) aN))) (sS 0 (e2 fdivI (eV 0) (e2 addI (eV 3) (eC (.int 1))))))
  (fun i ρ=>∃x,ρ=[some (.int (lawOrd c i).2),some (.int n),some (lI (lawOrd c i).1),x]) ((List.range n).map fun (i:Nat)=>PyData.int (i:Int)) [some (.int c),some (.int n),some (.list []),none] ⟨none,rfl⟩ (by
   rintro i d ρ hd ⟨x,rfl⟩
   obtain⟨hi,rfl⟩:=zL4 hd
   refine⟨_,_,rfl,?_,some (.int i),rfl⟩
   have hl:(lawOrd c i).1.length=i:=(bH c i).len
   have h1:(0:Int)<(i:Int)+1:=by rfl'
   have h2:=CQ (lawOrd c i).2 (show ((i:Int)+1)≠0 by rfl')
   have h3:=CU (lawOrd c i).2 h1
   simp![modO,fdivO,Am h1,Am (DivOk.small h1 (by rfl')),xE2 (l:=(lawOrd c i).1.map PyData.int) (d:=.int i) h2 (by rw[Aa,hl];rfl') (by rw[Aa,hl];rfl')]
   simp only[lawOrd,insAt,lI,AT,AF,List.map_take,List.map_drop])
 rw[Aa,Au] at e
 rw[e]
 rfl
theorem xS7(ns:List Int):∃c:Int,zM4 [lI ns]=.ok (.int c):=by
 show ∃c:Int,(zL2 [some (lI ns),none,none]).bind (fin false)=_
 unfold zL2
 simp -implicitDefEqProofs only[(evA)]
 obtain⟨ρ',e,t,x,rfl⟩:=vH (g:=gN 2) (b:=sS 1 (e2 addI (e2 mulI (eV 1) (eC (.int 1000))) (eV 2)))
  (fun i ρ=>∃t x,ρ=[some (lI ns),some (.int t),x]) (ns.map PyData.int) [some (lI ns),some (.int 0),none] ⟨0,none,rfl⟩ (by
   rintro i d ρ hd ⟨t,x,rfl⟩
   obtain⟨v,_,rfl⟩:=AJ.mp (AS hd)
   refine⟨_,_,rfl,?_,t*1000+v,some (.int v),rfl⟩
   simp![yN2 (MulOk.right (i:=t) (j:=1000) (by decide) (by decide))])
 exact⟨t,by rw[e];rfl⟩
theorem xV4{n:Nat}{l:Nat}{bs ns:List Int}{d:D}(T:TreeOk n l bs ns d):∀k,l<k->isT n k l bs ns d=true:=by
 induction T with
 | none=>exact fun k _=>zR1 n k _ _ _
 | @node l bs ns b f hb nb hf _ ih =>
  intro k hk
  obtain⟨k,rfl⟩:∃j,k=j+1:=⟨k-1,by rfl'⟩
  rw[zS6,Ag (show l+1≠0 by rfl'),Ag (show 0<=(b:Int)/\(b:Int)<(n:Int) by rfl'),nb,Ag (show ((List.range n).map f).length=n by rw[Aa,Au]),BE,BE,Bv,BE,BE,AW]
  intro i hi
  have hi:=AA.mp hi
  have g:((List.range n).map f).getD i .none=f i:=by
   rw[List.getD,Ak,Ay hi]
   rfl
  rw[g]
  cases c:ns.contains (i:Int) with
  | true =>
   rw[Am rfl,hf i hi c]
   rfl
  | false =>
   rw[AG Ap]
   exact ih i hi k (by rfl')
theorem yZ8{n:Nat}:∀(k:Nat) (d:D) (l:Nat) (bs ns:List Int),GT d->l<k->isT n k l bs ns d=true->TreeOk n l bs ns d
 | 0,_,_,_,_,_,h,_=>by rfl'
 | k+1,d,l,bs,ns,G,hk,h=>by
  cases G with
  | none=>exact .none
  | node b ks _ hks =>
   rw[zS6,AH,AH,AH,AH,decide_eq_true_iff,decide_eq_true_iff,decide_eq_true_iff,AW] at h
   obtain⟨h1,h2,h3,h4,h5⟩:=h
   obtain⟨l,rfl⟩:∃j,l=j+1:=⟨l-1,by rfl'⟩
   obtain⟨b,rfl⟩:∃j:Nat,b=(j:Int):=⟨b.toNat,by rfl'⟩
   have kr:=yL8 ks
   rw[h4] at kr
   rw[kr]
   refine .node b _ (by rfl') (by simpa using h3) (fun i hi c => ?_) fun i hi => ?_
   ·have:=h5 i (AA.mpr hi)
    rw[c,Am rfl] at this
    exact zK9 this
   ·have:=h5 i (AA.mpr hi)
    cases c:ns.contains (i:Int) with
    | true =>
     rw[c,Am rfl] at this
     rw[zK9 this]
     exact .none
    | false =>
     rw[c,AG Ap] at this
     exact yZ8 k _ _ _ _ (hks _ (zY6 (by rfl'))) (by rfl') this
theorem xJ2{n l:Nat}(hn:n<=7){bs ns:List Int}{d:D}(T:TreeOk n l bs ns d):GT d:=by
 induction T with
 | none=>exact .none
 | @node l bs ns b f _ _ _ _ ih =>
  refine .node _ _ (by rw[Aa,Au];exact hn) fun d hd => ?_
  obtain⟨i,hi,rfl⟩:=AJ.mp hd
  exact ih i (AA.mp hi)
theorem xS8{p k:Nat}(hp:p<=7){d:D}{s:Str}(T:TW p k d s):GT d:=by
 induction T with
 | none=>exact .none
 | @node k w ds ss _ h1 h2 _ ih =>
  refine .node _ _ (by rfl') fun d hd => ?_
  obtain⟨i,hi,ei⟩:=Do hd
  exact ih i d (ss[i]'(by rfl')) (by rw[Ah hi,ei]) (Ah _)
theorem yW5{n:Nat}{ops:List Int}{t:Nat->D}(P:PlanOk n ops t)(q:Opn n ops)(h1:1<=n)(h2:n<=6):kJ [tI ops,.list ((List.range n).map t)]=.ok (.tuple ((List.range n).map t)):=by
 have g:=xR6 q h1 h2
 rw[zA2 (.inl rfl) (fun _ d hd=>by
  obtain⟨i,hi,rfl⟩:=AJ.mp hd
  exact xJ2 (by rfl') (P.tree i (AA.mp hi))),Am g]
 refine Am ?_
 unfold gP
 rw[q.len,Ag (show ((List.range n).map t).length=n by rw[Aa,Au]),BE,AW]
 intro p hp
 have hp:=AA.mp hp
 have e:((List.range n).map t).getD p .none=t p:=by
  rw[List.getD,Ak,Ay hp]
  rfl
 rw[e]
 have b:=q.at hp
 exact xV4 (P.tree p hp) 14 (by rfl')
theorem xI6{n:Nat}(hn:n<=6){l:Nat}{bs ns:List Int}{d:D}(T:TreeOk n l bs ns d):TW n l d (ttx l d):=by
 induction T with
 | none =>
  rw[bI]
  exact .none
 | @node l bs ns b f hb _ _ _ ih =>
  obtain⟨w1,w2⟩:=aB (b:=b) (by rfl')
  have e:ttx (l+1) (.tuple [.int (b:Int),.tuple ((List.range n).map f)])=numT b++("("++(Str.join " " (((List.range n).map f).map (ttx l)) ++ ")")):=by
   rw[bV,yO,yO]
  rw[e]
  have:=TW.node (p:=n) (k:=l) (numT b) ((List.range n).map f) (((List.range n).map f).map (ttx l)) w1 (by simp) (by simp) fun i d s hd hs=>by
   rw[Ak,hd] at hs
   cases hs
   rw[Ak] at hd
   obtain⟨j,hj,rfl⟩:=Av.mp hd
   have hi:i<n:=by simpa using (Aj.mp hj).1
   rw[Ay hi] at hj
   cases hj
   exact ih i hi
  rw[w2] at this
  exact this
theorem xG8{r:List Nat}(hr:∀x∈r,x<61)(hl:r.length<=60):yM [.list ((r.map numT).map PyData.str),.int 1]=.ok (tI (rI' r)):=by
 have wd:∀w∈r.map numT,Wd w:=fun w hw=>by
  obtain⟨b,hb,rfl⟩:=AJ.mp hw
  exact (aB (hr b hb)).1
 have e:(r.map numT).map dv=r:=by
  rw[AR]
  have:∀b∈r,(dv∘numT) b=id b:=fun b hb=>(aB (hr b hb)).2
  rw[BC this,Dk]
 rcases zX9 (ws:=r.map numT) (fun w hw=>⟨by have:=(wd w hw).2.1;rfl',fun c hc=>by have:=(wd w hw).1.1 c hc;rfl'⟩) (by rw[Aa];rfl') with ⟨_,h⟩ | ⟨n,_⟩
 ·rw[e] at h
  exact h
 ·exact absurd wd n
section
variable {n:Nat}{ops:List Int}{t:Nat->D}
theorem fJ(q:Opn n ops)(h1:1<=n)(hn:n<=6):jV [.str (opT ops)]=.ok (tI ops):=by
 have bl:=fX
 have lo:=(zK5 q hn).1
 have ne:(opN ops).map numT ≠ []:=fun z=>by
  have e:=BQ List.length z
  rw[Aa,zW7 q] at e
  have:n=0:=e
  rfl'
 have jn:opT ops=Str.join " " (("openings":Str)::(opN ops).map numT):=by
  rw[bR _ _ ne,<-yO]
  show "openings "++rT (opN ops)=_
  rw[show ("openings ":Str)="openings" ++ " " from wZ (by decide +kernel)]
  rfl
 have sp:splD (opT ops) (.str " ")=some (.list (((("openings":Str)::(opN ops).map numT)).map PyData.str)):=by
  unfold splD
  have sj:Txt.split (Str.join " " (("openings":Str)::(opN ops).map numT)) " " = ("openings":Str)::(opN ops).map numT:=jR (c:=32) (y':=[]) rfl (by decide +kernel) (fun z=>nomatch z) fun p hp=>by
   rcases Aw.mp hp with rfl | hp
   ·decide +kernel
   ·obtain⟨x,hx,rfl⟩:=AJ.mp hp
    exact (xD x (zY3 q hn x hx)).2.2.1
  rw[yV,AI,Am ⟨by decide,by rfl'⟩,jn,sj]
 have a0:atI (PyData.str "openings"::((opN ops).map numT).map PyData.str) 0=some (.str "openings"):=zS8 _ _
 have nn:neD (.str "openings") (.str "openings")=some false:=by
  rw[zW3 (by decide +kernel) (by decide +kernel),Ag rfl]
  rfl
 have sl:slD (.list (PyData.str "openings"::((opN ops).map numT).map PyData.str)) (some 1) none=some (.list (((opN ops).map numT).map PyData.str)):=by
  show some (PyData.list (cutD (PyData.str "openings"::((opN ops).map numT).map PyData.str) (some ((1:Nat):Int)) none))=_
  rw[zA9]
  rfl
 have er:=xG8 (r:=opN ops) (zY3 q hn) (by rw[zW7 q];rfl')
 rw[yO3 q] at er
 rw[AF] at sp
 have tr:sTryR ["BadOpenings"] BT (sR (eF yC (aC (eV 2) aN))) [some (.str (opT ops)),some (.list (PyData.str "openings"::((opN ops).map numT).map PyData.str)),some (tI ops)]=.ok (.rt (tI ops)):=by
  refine zD9 ?_
  simp![jZ q h1 hn]
 show (jQ [some (.str (opT ops)),none,none]).bind (fin false)=_
 unfold jQ
 simp![yB,yV,sp,a0,nn,sl,er,tr]
theorem zL9(P:PlanOk n ops t)(q:Opn n ops)(h1:1<=n)(hn:n<=6){p:Nat}(hp:p<n):yP [.str (pT p (ttx (lv ops p) (t p))),.int (p:Int),.int (n:Int)]=.ok (t p):=by
 have nk:=xD p (by rfl')
 have n2:=nk.1.1
 have lp:=yE3 P q hn hp
 have f1:fI (.int (p:Int))=some (numT p):=Am ⟨nk.2.2.2.1,by show (numT p).length<=1000000;rfl'⟩
 have jj:eJ (jC "person " (jS fI (eV 1) (jC " " jN))) [some (.str (pT p (ttx (lv ops p) (t p)))),some (.int (p:Int)),some (.int (n:Int)),some (.int ((p:Int)+2))]=.ok (.str ("person "++numT p ++ " ")):=by
  unfold eJ jS jC jN
  simp![f1]
  show Res.ok (PyData.str (Str.empty ++ "person "++numT p ++ " "))=_
  rw[BA]
 have bs:yY [.str (pT p (ttx (lv ops p) (t p))),.str ("person "++numT p ++ " "),.int ((p:Int)+2)]=.ok (.str (ttx (lv ops p) (t p))):=wS (Ba (show (pT p (ttx (lv ops p) (t p))).length<=150010 from lp) (by decide))
 have rt:yE [.str (ttx (lv ops p) (t p)),.int (n:Int),.int ((p:Int)+2)]=.ok (t p):=yP7 h1 hn (by rfl') (xI6 hn (P.tree p hp)) (Ba (bX q hn hp) (by decide)) (Ba (aU hn (P.tree p hp) (bX q hn hp)) (by decide))
 show (vM [some (.str (pT p (ttx (lv ops p) (t p)))),some (.int (p:Int)),some (.int (n:Int)),none]).bind (fin false)=_
 unfold vM
 simp![jj,bs,rt]
theorem yZ6(P:PlanOk n ops t)(q:Opn n ops)(h1:1<=n)(hn:n<=6):yF [.str (Str.join "\n" (prw n ops t))]=.ok (.tuple [tI ops,.tuple ((List.range n).map t)]):=by
 have bl:=line16
 have lj:=(yZ9 P q hn).2
 have sp:splD (Str.join "\n" (prw n ops t)) (.str "\n")=some (.list ((prw n ops t).map PyData.str)):=by
  unfold splD
  rw[yV,AI,Am ⟨by decide,by rfl'⟩,yE9 P q hn]
 have a0:atI ((prw n ops t).map PyData.str) 0=some (.str (opT ops)):=zS8 _ _
 have sl:slD (.list ((prw n ops t).map PyData.str)) (some 1) (some ((n:Int)+1))=some (.list ((List.range n).map fun p=>PyData.str (pT p (ttx (lv ops p) (t p))))):=by
  show some (PyData.list (cutD ((prw n ops t).map PyData.str) (some ((1:Nat):Int)) (some ((n+1:Nat):Int))))=_
  have e:cutD ((prw n ops t).map PyData.str) (some ((1:Nat):Int)) (some ((n+1:Nat):Int))=(List.range n).map fun p=>PyData.str (pT p (ttx (lv ops p) (t p))):=by
   have ln:((prw n ops t).map PyData.str).length=n+1:=by rw[Aa,zK4]
   have e1:cutD ((prw n ops t).map PyData.str) (some ((1:Nat):Int)) (some ((n+1:Nat):Int))=cutD ((prw n ops t).map PyData.str) (some ((1:Nat):Int)) none:=by
    unfold cutD
    rw[ln]
    have:HT.sIx (n+1) (n+1) (some ((n+1:Nat):Int))=HT.sIx (n+1) (n+1) none:=by
     rw[HT.zA4,HT.yR7,Nat.min_self]
    rw[this]
   rw[e1,zA9]
   show ((List.range n).map fun p=>pT p (ttx (lv ops p) (t p))).map PyData.str=_
   rw[AR]
   rfl
  rw[e]
 have en:∀f:Nat->D,enumD ((List.range n).map f)=(List.range n).map fun (i:Nat)=>PyData.tuple [.int (i:Int),f i]:=cT n
 have cc:eComp2X (yJ (eS slD (eV 1) (oS (eC (.int 1))) (oS (e2 addI (eV 3) (eC (.int 1)))))) tYes (eF yP (aC (eV 1) (aC (eV 0) (aC (eV 2) aN)))) [3] [some (.str (Str.join "\n" (prw n ops t))),some (.list ((prw n ops t).map PyData.str)),some (tI ops),some (.int (n:Int)),none]=.ok (.list ((List.range n).map t)):=by
  refine bL (fun p:Nat=>PyData.int (p:Int)) (fun p=>PyData.str (pT p (ttx (lv ops p) (t p)))) t (List.range n) (by simp![sl,en]) (by rw[Au];rfl') fun p hp => ?_
  have hp:=AA.mp hp
  show eF yP _ [some (.int (p:Int)),some (.str (pT p (ttx (lv ops p) (t p)))),some (.int (n:Int))]=_
  simp![zL9 P q h1 hn hp]
 have ln:((prw n ops t).map PyData.str).length=n+1:=by rw[Aa,zK4]
 have ol:(ops.map PyData.int).length=n:=by rw[Aa,q.len]
 have ei:(((n+1:Nat):Nat):Int)=(n:Int)+1:=by rfl'
 have mp:=yW5 P q h1 hn
 show (xK [some (.str (Str.join "\n" (prw n ops t))),none,none,none,none]).bind (fin false)=_
 unfold xK
 simp![yB,yV,sp,a0,fJ q h1 hn,ol,cc,ln,ei,xO,decide_true,mp]
end
theorem t1:tl "(" = [40]:=by decide +kernel
theorem t2:tl ")" = [41]:=by decide +kernel
theorem xP1{r:List Nat}(hr:∀x∈r,x<61)(hn:r ≠ [])(f:Str->Nat)(hf:∀a b,f (a++b)=f a+f b):f (rT r)+f " " = ((r.map numT).map f).sum+r.length*f " ":=by
 have:=zS3 f hf " " (r.map numT) fun z=>hn (BY.mp z)
 rw[Aa] at this
 exact this
theorem zG7{α:Type}(f:α->Nat)(a b:Nat):∀l:List α,(∀x∈l,a<=f x/\f x<=b)->l.length*a<=(l.map f).sum/\(l.map f).sum<=l.length*b
 | [],_=>⟨by simp,by simp⟩
 | x::l,h=>by
  have p:=h x Ac
  have q:=zG7 f a b l fun y hy=>h y (Ae _ hy)
  rw[AF,Cc,AQ,CJ,CJ]
  rfl'
theorem yX5{b:Nat}(h:b<61):(1<=(numT b).length/\(numT b).length<=2)/\∀c∈tl (numT b),c<128:=by
 have:∀b,b<61->(1<=(numT b).length/\(numT b).length<=2)/\((tl (numT b)).all fun c=>decide (c<128))=true:=by decide +kernel
 obtain⟨a,c⟩:=this b h
 exact⟨a,fun x hx=>of_decide_eq_true (AW.mp c x hx)⟩
theorem xJ1{r:List Nat}(hr:∀x∈r,x<61)(hn:r ≠ []):1<=(rT r).length/\(rT r).length+1<=3*r.length/\∀c∈tl (rT r),c<128:=by
 have a:=xP1 hr hn (·.length) Af
 have s:(" ":Str).length=1:=rfl
 have n1:=Bj.mpr hn
 have c:=zG7 (α:=Str) (·.length) 1 2 (r.map numT) fun y hy=>by
  obtain⟨x,hx,rfl⟩:=AJ.mp hy
  exact (yX5 (hr x hx)).1
 rw[Aa] at c
 simp only[s] at a
 refine⟨by rfl',by rfl',fun c hc => ?_⟩
 rcases zR6 _ hc with hc | ⟨q,hq,hc⟩
 ·have t:tl " " = [32]:=by decide +kernel
  rw[t] at hc
  have:=Bl.mp hc
  rfl'
 ·obtain⟨x,hx,rfl⟩:=AJ.mp hq
  exact (yX5 (hr x hx)).2 c hc
theorem xF3{n:Nat}{xs:List Int}(o:Ord n xs)(h1:1<=n)(h2:n<=60):Tx (4*n) (ordT n xs):=by
 have q:=zN2 o h1 h2
 have fl:((rgs n xs n).map (·.length)).sum=n:=by
  rw[<-List.length_flatten,(flatP o).length_eq,Au]
 have ne:(rgs n xs n).map wT ≠ []:=fun z=>q.ne (BY.mp z)
 have a:=zS3 (·.length) Af "" _ ne
 have w:∀r∈rgs n xs n,(wT r).length<=4*r.length/\∀c∈tl (wT r),c<128:=fun r hr=>by
  obtain⟨i1,i2,i4⟩:=xJ1 (q.ring r hr).1 (q.ring r hr).2.2
  have n1:=Bj.mpr (q.ring r hr).2.2
  have c1:("(":Str).length=1:=rfl
  have c2:(")":Str).length=1:=rfl
  unfold wT
  refine⟨by rw[Af,Af];rfl',fun c hc => ?_⟩
  rw[zB,zB,t1,t2] at hc
  rcases AE.mp hc with hc | hc
  ·rcases AE.mp hc with hc | hc
   ·have:=Bl.mp hc
    rfl'
   ·exact i4 c hc
  ·have:=Bl.mp hc
   rfl'
 have s1:=yE6 (fun r=>(wT r).length) (fun r=>4*r.length) (rgs n xs n) fun r hr=>(w r hr).1
 have m4:∀L:List (List Nat),(L.map fun r=>4*r.length).sum=4*(L.map (·.length)).sum:=fun L=>by
  induction L with
  | nil=>rfl
  | cons r L ih =>
   rw[AF,AF,Cc,Cc,ih]
   rfl'
 rw[m4,fl] at s1
 have z0:("":Str).length=0:=rfl
 rw[AR] at a
 simp only[z0] at a
 have a':(Str.join "" ((rgs n xs n).map wT)).length+0=((rgs n xs n).map fun r=>(wT r).length).sum+((rgs n xs n).map wT).length*0:=a
 refine⟨by unfold ordT;rfl',fun c hc => ?_⟩
 rcases zR6 _ hc with hc | ⟨p,hp,hc⟩
 ·have t:tl "" = []:=by decide +kernel
  rw[t] at hc
  cases hc
 ·obtain⟨r,hr,rfl⟩:=AJ.mp hp
  exact (w r hr).2 c hc
theorem cS{a b:Str}(h:a.length+b.length<=2000):catS (.str a) (.str b)=some (.str (a++b)):=by
 have lb:=vQ
 exact Am (by rfl')
theorem wY8{P:Nat->Prop}:∀c∈tl "",P c:=fun c hc=>by
 have t:tl "" = []:=by decide +kernel
 rw[t] at hc
 cases hc
theorem zY5{S:Str}{m:Nat}(hS:1<=S.length)(h2:S.length<=100)(hm:m<=100)(cell:Int):∃z:Str,z.length=m/\(∀c∈tl z,c∈tl S)/\vK [.int cell,.str S,.int (m:Int)]=.ok (.str z):=by
 have lb:=vQ
 have e1:lenTD [.str S]=some (.int (S.length:Int)):=Am (by rfl')
 have st:∀(v:Int) (t:Str) (x:Option D),t.length<=100->(∀c∈tl t,c∈tl S)->∃(v':Int) (t':Str),t'.length=t.length+1/\(∀c∈tl t',c∈tl S)/\(sQ (sS 3 (e2 catS (eV 3) (e2 ixSD (eV 1) (e2 modI (eV 0) (eB lenTD (aC (eV 1) aN)))))) (sS 0 (e2 fdivI (eV 0) (eB lenTD (aC (eV 1) aN))))) [some (.int v),some (.str S),some (.int (m:Int)),some (.str t),x]=.ok (.nx [some (.int v'),some (.str S),some (.int (m:Int)),some (.str t'),x]):=by
  intro v t x lt ht
  obtain⟨j,ej⟩:∃j:Nat,v%(S.length:Int)=(j:Int):=⟨(v%(S.length:Int)).toNat,by have:=CQ v (show (S.length:Int)≠0 by rfl');rfl'⟩
  have hj:j<S.length:=by have:=CU v (show (0:Int)<(S.length:Int) by rfl');rfl'
  have mo:modO v (S.length:Int)=some (j:Int):=by
   unfold modO
   rw[Am (by rfl'),ej]
  have dv':fdivO v (S.length:Int)=some (v / (S.length:Int)):=by
   unfold fdivO
   rw[Am (DivOk.small (by rfl') (by rfl'))]
  have hj':j<(tl S).length:=by rw[yS];exact hj
  have ix:ixSD (.str S) (.int (j:Int))=some (.str ⟨#[(tl S)[j]]⟩):=by
   show (if S.length<=sizeLine then (atI (tl S) (j:Int)).map fun c=>PyData.str ⟨#[c]⟩ else none)=_
   have:atI (tl S) (j:Int)=some ((tl S)[j]):=by
    unfold atI
    rw[yS,zW4 hj,AI,Ah hj']
   rw[Am (by rfl'),this]
   rfl
  have c1:(⟨#[(tl S)[j]]⟩:Str).length=1:=rfl
  have ca:=cS (a:=t) (b:=⟨#[(tl S)[j]]⟩) (by rfl')
  refine⟨v / (S.length:Int),t ++ ⟨#[(tl S)[j]]⟩,by rw[Af,c1],fun c hc => ?_,?_⟩
  ·rw[zB] at hc
   rcases AE.mp hc with hc | hc
   ·exact ht c hc
   ·have hc:c ∈ [(tl S)[j]]:=hc
    rw[Bl.mp hc]
    exact Dg _
  ·simp![e1,mo,ix,ca,dv']
 have fin':∃z:Str,z.length=m/\(∀c∈tl z,c∈tl S)/\∃v x,L3.forM (gN 4) (sQ (sS 3 (e2 catS (eV 3) (e2 ixSD (eV 1) (e2 modI (eV 0) (eB lenTD (aC (eV 1) aN)))))) (sS 0 (e2 fdivI (eV 0) (eB lenTD (aC (eV 1) aN))))) ((List.range m).map fun i:Nat=>PyData.int (i:Int)) [some (.int cell),some (.str S),some (.int (m:Int)),some (.str ""),none]=.ok (.nx [some (.int v),some (.str S),some (.int (m:Int)),some (.str z),x]):=by
  have:=vH (g:=gN 4) (b:=sQ (sS 3 (e2 catS (eV 3) (e2 ixSD (eV 1) (e2 modI (eV 0) (eB lenTD (aC (eV 1) aN)))))) (sS 0 (e2 fdivI (eV 0) (eB lenTD (aC (eV 1) aN))))) (fun i ρ=>∃z:Str,z.length=i/\(∀c∈tl z,c∈tl S)/\∃v x,ρ=[some (.int v),some (.str S),some (.int (m:Int)),some (.str z),x]) ((List.range m).map fun i:Nat=>PyData.int (i:Int)) [some (.int cell),some (.str S),some (.int (m:Int)),some (.str ""),none] ⟨"",rfl,wY8,cell,none,rfl⟩ (by
   rintro i d ρ hd ⟨z,lz,hz,v,x,rfl⟩
   rw[Ak] at hd
   obtain⟨j,ej,rfl⟩:=Av.mp hd
   have hi:i<m:=by simpa using (Aj.mp ej).1
   obtain⟨v',t',l',h',e⟩:=st v z (some (.int (j:Int))) (by rfl') hz
   exact⟨_,_,rfl,e,t',by rfl',h',v',_,rfl⟩)
  obtain⟨ρ,e,z,lz,hz,v,x,rfl⟩:=this
  rw[Aa,Au] at lz
  exact⟨z,lz,hz,v,x,e⟩
 obtain⟨z,lz,hz,v,x,e⟩:=fin'
 refine⟨z,lz,hz,?_⟩
 show (dD [some (.int cell),some (.str S),some (.int (m:Int)),none,none]).bind (fin false)=_
 unfold dD
 simp![jA (show m<=1000 by rfl'),e]
theorem lro{z:Str}(h:Tx 400 z):(∃(n:Nat) (ys:List Int),Ord n ys/\1<=n/\n<=60/\ordT n ys=z/\vW [.str z]=.ok (tI ys))\/vW [.str z]=.ok .none:=by
 have ex:xQ [.str z]=.ex BT->vW [.str z]=.ok .none:=fun e=>by
  have tr:sTry0 ["BadText"] (sS 1 (eF xQ (aC (eV 0) aN))) (sS 1 (eC .none)) [some (.str z),some .none]=.ok (.nx [none,some .none]):=by
   rw[xS6 (c:=BT) (by simp![e]) (by decide)]
   rfl
  show (vY [some (.str z),none]).bind (fin false)=_
  unfold vY
  simp![tr]
 rcases yI7 h with ⟨n,ys,_,p,h1,h2,hl,f,e⟩ | ⟨_,e⟩
 ·by_cases c:ordT n ys=z
  ·rw[Am c] at e
   refine .inl ⟨n,ys,yA1 p hl f,h1,h2,c,?_⟩
   have tr:sTry0 ["BadText"] (sS 1 (eF xQ (aC (eV 0) aN))) (sS 1 (eC .none)) [some (.str z),some .none]=.ok (.nx [some (.str z),some (tI ys)]):=xT4 (by simp![e])
   show (vY [some (.str z),none]).bind (fin false)=_
   unfold vY
   simp![tr]
  ·rw[AG c] at e
   exact .inr (ex e)
 ·exact .inr (ex e)
theorem xO2{w:Str}(h:Wd w):w=numT (dv w):=by
 have sc:∀c,48<=c/\c<=57->(Char.ofNat c).toNat=c:=fun c hc=>by
  have:∀c,c<58->(Char.ofNat c).toNat=c:=by decide +kernel
  exact this c (by rfl')
 obtain⟨k,ek⟩:∃k,(tl w).length=k+1:=⟨(tl w).length-1,by have:=Bj.mpr h.1.2;rfl'⟩
 have hd:k=0\/∃c r,tl w=c::r/\49<=c:=by
  cases et:tl w with
  | nil=>exact absurd et h.1.2
  | cons c r =>
   have hc:=h.1.1 c (by rw[et];exact Ac)
   by_cases c0:c=48
   ·left
    have e:=is0.mp (h.2.2 (st0.mpr ⟨r,by rw[et,c0]⟩))
    rw[e] at ek
    have:1=k+1:=ek
    rfl'
   ·exact .inr ⟨c,r,rfl,by rfl'⟩
 have e:=NumText.toDigits_digitsVal k (tl w) ek (fun c hc=>h.1.1 c hc) hd
 refine wZ ?_
 show tl w=tl (nT (dv w))
 rw[xA2]
 unfold dv
 rw[e,AR]
 have:∀c∈tl w,(Char.toNat∘Char.ofNat) c=id c:=fun c hc=>sc c (h.1.1 c hc)
 rw[BC this,Dk]
theorem yG3{p k:Nat}{d:D}{s:Str}(T:TW p k d s):(d=.none/\s="-")\/∃(k':Nat) (w:Str) (ds:List D) (ss:List Str),k=k'+1/\d=.tuple [.int (dv w:Int),.tuple ds]/\s=w++("("++(Str.join " " ss ++ ")"))/\Wd w/\ds.length=p/\ss.length=p/\∀(i:Nat) (d:D) (s:Str),ds[i]?=some d->ss[i]?=some s->TW p k' d s:=by
 cases T with
 | none=>exact .inl ⟨rfl,rfl⟩
 | node w ds ss h1 h2 h3 h4=>exact .inr ⟨_,w,ds,ss,rfl,rfl,rfl,h1,h2,h3,h4⟩
theorem xF4{n l:Nat}{bs ns:List Int}{d:D}(T:TreeOk n l bs ns d):∀(k:Nat) (s:Str),TW n k d s->s=ttx l d:=by
 induction T with
 | none =>
  intro k s W
  rw[bI]
  rcases yG3 W with ⟨_,e⟩ | ⟨_,_,_,_,_,e,_⟩
  ·exact e
  ·cases e
 | @node l bs ns b f hb _ _ _ ih =>
  intro k s W
  rcases yG3 W with ⟨e,_⟩ | ⟨k',w,ds,ss,_,e,rfl,hw,h1,h2,h3⟩
  ·cases e
  ·injection e with e
   injection e with e1 e2
   injection e1 with e1
   injection e2 with e2 _
   injection e2 with e2
   have eb:b=dv w:=by rfl'
   have es:ss=((List.range n).map f).map (ttx l):=by
    refine CY fun i => ?_
    by_cases hi:i<n
    ·have g:ss[i]?=some (ss[i]'(by rfl')):=Ah _
     rw[g,Ak,Ak,Ay hi]
     show _=some (ttx l (f i))
     rw[ih i hi k' _ (h3 i (f i) _ (by rw[<-e2,Ak,Ay hi];rfl) g)]
    ·rw[Bs (by rfl'),Bs (by simp;rfl')]
   rw[bV,yO,yO,<-es,eb,<-xO2 hw]
theorem opn12:Opn 2 [1,2]:=⟨rfl,by decide⟩
def dT(tr:Str):Str:="openings 1 2\nperson 0 "++tr ++ "\nperson 1 -"
theorem yQ4(tr:Str):dT tr=Str.join "\n" [opT [1,2],pT 0 tr,pT 1 "-"]:=by
 have a:(opT [1,2] ++ "\n"++("person "++numT 0 ++ " "):Str)="openings 1 2\nperson 0 ":=wZ (by decide +kernel)
 have b:("\n"++pT 1 "-":Str)="\nperson 1 -":=wZ (by decide +kernel)
 have j:Str.join "\n" [opT [1,2],pT 0 tr,pT 1 "-"]=opT [1,2] ++ "\n"++(pT 0 tr ++ "\n"++pT 1 "-"):=by
  rw[xS,xS]
  rfl
 unfold dT
 rw[j,<-a,<-b]
 unfold pT
 simp only[yO]
section
variable {tr:Str}(h:Tx 100 tr) (h10:10∉tl tr)
include h h10
theorem yK4:Tx 200 (dT tr):=by
 have a:Tx 40 "openings 1 2\nperson 0 ":=⟨by decide,by decide +kernel⟩
 have b:Tx 40 "\nperson 1 -":=⟨by decide,by decide +kernel⟩
 exact ((a.app h).app b).mono (by decide)
theorem xY7:splD (dT tr) (.str "\n")=some (.list [.str (opT [1,2]),.str (pT 0 tr),.str (pT 1 "-")]):=by
 have lb:=vQ
 have l:=(yK4 h h10).len
 have sj:Txt.split (dT tr) "\n" = [opT [1,2],pT 0 tr,pT 1 "-"]:=by
  rw[yQ4]
  refine jR (c:=10) (y':=[]) rfl (by decide +kernel) (fun z=>nomatch z) fun p hp => ?_
  rcases Aw.mp hp with rfl | hp
  ·decide +kernel
  ·rcases Aw.mp hp with rfl | hp
   ·unfold pT
    rw[zB]
    intro z
    rcases AE.mp z with z | z
    ·exact absurd z (by decide +kernel)
    ·exact h10 z
   ·rw[Bl.mp hp]
    decide +kernel
 unfold splD
 rw[yV,AI,Am ⟨by decide,by rfl'⟩,sj]
 rfl
omit h10 in
theorem xR1{p:Nat}(hp:p<2):yP [.str (pT p tr),.int (p:Int),.int 2]=yE [.str tr,.int 2,.int ((p:Int)+2)]:=by
 have nk:=xD p (by rfl')
 have n2:=nk.1.1
 have lt:=h.len
 have lp:(pT p tr).length<=1000000:=by
  unfold pT
  rw[Af,Af,Af]
  have c1:("person ":Str).length=7:=rfl
  have c2:(" ":Str).length=1:=rfl
  rfl'
 have f1:fI (.int (p:Int))=some (numT p):=Am ⟨nk.2.2.2.1,by show (numT p).length<=1000000;rfl'⟩
 have jj:eJ (jC "person " (jS fI (eV 1) (jC " " jN))) [some (.str (pT p tr)),some (.int (p:Int)),some (.int 2),some (.int ((p:Int)+2))]=.ok (.str ("person "++numT p ++ " ")):=by
  unfold eJ jS jC jN
  simp![f1]
  show Res.ok (PyData.str (Str.empty ++ "person "++numT p ++ " "))=_
  rw[BA]
 have bs:yY [.str (pT p tr),.str ("person "++numT p ++ " "),.int ((p:Int)+2)]=.ok (.str tr):=wS lp
 show (vM [some (.str (pT p tr)),some (.int (p:Int)),some (.int 2),none]).bind (fin false)=_
 unfold vM
 simp![jj,bs]
 cases yE [.str tr,.int 2,.int ((p:Int)+2)] <;> rfl
theorem dplan:(∃d,TreeOk 2 1 [] [0] d/\tr=ttx 1 d/\yF [.str (dT tr)]=.ok (.tuple [tI [1,2],.tuple [d,.none]]))\/yF [.str (dT tr)]=.ex BT\/yF [.str (dT tr)]=.ex "BadPlan":=by
 have sp:=xY7 h h10
 have a0:atI [PyData.str (opT [1,2]),.str (pT 0 tr),.str (pT 1 "-")] 0=some (.str (opT [1,2])):=zS8 _ _
 have ro:=fJ opn12 (by decide) (by decide)
 have sl:slD (.list [.str (opT [1,2]),.str (pT 0 tr),.str (pT 1 "-")]) (some 1) (some 3)=some (.list [.str (pT 0 tr),.str (pT 1 "-")]):=rfl
 have r1:yP [.str (pT 1 "-"),.int 1,.int 2]=.ok .none:=by
  have e:=xR1 (tr:="-") (p:=1) ⟨by decide,by decide +kernel⟩ (by decide)
  have g:yE [.str "-",.int 2,.int 3]=.ok .none:=yP7 (p:=2) (r:=3) (by decide) (by decide) (by decide) (TW.none (k:=0)) (by decide) (by decide)
  exact e.trans g
 have r0:=xR1 h (p:=0) (by decide)
 have r0:yP [.str (pT 0 tr),.int 0,.int 2]=yE [.str tr,.int 2,.int 2]:=r0
 have en:yJ (eS slD (eV 1) (oS (eC (.int 1))) (oS (e2 addI (eV 3) (eC (.int 1))))) [some (.str (dT tr)),some (.list [.str (opT [1,2]),.str (pT 0 tr),.str (pT 1 "-")]),some (tI [1,2]),some (.int 2),none]=.ok ([0,1].map fun p:Nat=>PyData.tuple [.int (p:Int),.str (if p=0 then pT 0 tr else pT 1 "-")]):=by
  simp![sl]
  rfl
 have ce:∀p:Nat,eF yP (aC (eV 1) (aC (eV 0) (aC (eV 2) aN))) (cEnv2 [some (.str (dT tr)),some (.list [.str (opT [1,2]),.str (pT 0 tr),.str (pT 1 "-")]),some (tI [1,2]),some (.int 2),none] [3] (.int (p:Int)) (.str (if p=0 then pT 0 tr else pT 1 "-")))=yP [.str (if p=0 then pT 0 tr else pT 1 "-"),.int (p:Int),.int 2]:=fun p=>by
  show eF yP _ [some (.int (p:Int)),some (.str (if p=0 then pT 0 tr else pT 1 "-")),some (.int 2)]=_
  simp -implicitDefEqProofs only[(evA)]
 have i2:((2:Nat):Int)=2:=rfl
 have i3:((3:Nat):Int)=3:=rfl
 have ol:(([1,2]:List Int).map PyData.int).length=2:=rfl
 rcases xE3 (p:=2) (r:=2) (by decide) (by decide) (by decide) (h.mono (show 100<=20000 by decide)) with ⟨d,k,W,e⟩ | ⟨_,e⟩
 ·have e:yE [.str tr,.int 2,.int 2]=.ok d:=e
  rw[e] at r0
  have cc:eComp2X (yJ (eS slD (eV 1) (oS (eC (.int 1))) (oS (e2 addI (eV 3) (eC (.int 1)))))) tYes (eF yP (aC (eV 1) (aC (eV 0) (aC (eV 2) aN)))) [3] [some (.str (dT tr)),some (.list [.str (opT [1,2]),.str (pT 0 tr),.str (pT 1 "-")]),some (tI [1,2]),some (.int 2),none]=.ok (.list [d,.none]) :=
   bL (fun p:Nat=>PyData.int (p:Int)) (fun p=>PyData.str (if p=0 then pT 0 tr else pT 1 "-")) (fun p=>if p=0 then d else .none) [0,1] en (by decide) fun p hp=>by
    rw[ce]
    rcases Aw.mp hp with rfl | hp
    ·exact r0
    ·rw[Bl.mp hp]
     exact r1
  have mp:=zA2 (os:=[1,2]) (ts:=[d,.none]) (d:=.list [d,.none]) (.inl rfl) fun _ t ht=>by
   rcases Aw.mp ht with rfl | ht
   ·exact xS8 (by decide) W
   ·rw[Bl.mp ht]
    exact .none
  rw[Am (show gO [1,2]=true by decide)] at mp
  have ln:[PyData.str (opT [1,2]),.str (pT 0 tr),.str (pT 1 "-")].length=3:=rfl
  have n3:neD (.int 3) (.int 3)=some false:=by rw[xO,Ag rfl];rfl
  cases g:gP [1,2] [d,.none] with
  | true =>
   rw[g,Am rfl] at mp
   have it:isT 2 14 1 [] [0] d=true:=by
    unfold gP at g
    rw[AH,AW] at g
    exact g.2 0 (by decide)
   have T:=yZ8 14 d 1 [] [0] (xS8 (by decide) W) (by decide) it
   refine .inl ⟨d,T,xF4 T k tr W,?_⟩
   show (xK [some (.str (dT tr)),none,none,none,none]).bind (fin false)=_
   unfold xK
   simp![yB,yV,sp,a0,ro,ol,i2,cc,ln,i3,show (2:Int)+1=3 from rfl,n3,mp]
  | false =>
   rw[g,AG Ap] at mp
   refine .inr (.inr ?_)
   show (xK [some (.str (dT tr)),none,none,none,none]).bind (fin false)=_
   unfold xK
   simp![yB,yV,sp,a0,ro,ol,i2,cc,ln,i3,show (2:Int)+1=3 from rfl,n3,mp]
 ·have e:yE [.str tr,.int 2,.int 2]=.ex BT:=e
  rw[e] at r0
  have cc:eComp2X (yJ (eS slD (eV 1) (oS (eC (.int 1))) (oS (e2 addI (eV 3) (eC (.int 1)))))) tYes (eF yP (aC (eV 1) (aC (eV 0) (aC (eV 2) aN)))) [3] [some (.str (dT tr)),some (.list [.str (opT [1,2]),.str (pT 0 tr),.str (pT 1 "-")]),some (tI [1,2]),some (.int 2),none]=.ex BT :=
   zO4 (fun p:Nat=>PyData.int (p:Int)) (fun p=>PyData.str (if p=0 then pT 0 tr else pT 1 "-")) [0,1] en (by decide) (fun p hp=>by
    rw[ce]
    rcases Aw.mp hp with rfl | hp
    ·exact .inr r0
    ·rw[Bl.mp hp]
     exact .inl ⟨_,r1⟩) ⟨0,Ac,by rw[ce];exact r0⟩
  refine .inr (.inl ?_)
  show (xK [some (.str (dT tr)),none,none,none,none]).bind (fin false)=_
  unfold xK
  simp![yB,yV,sp,a0,ro,ol,i2,cc]
theorem lrp:(∃d,TreeOk 2 1 [] [0] d/\tr=ttx 1 d/\wM [.str (dT tr)]=.ok (.tuple [tI [1,2],.tuple [d,.none]]))\/wM [.str (dT tr)]=.ok .none:=by
 rcases dplan h h10 with ⟨d,T,et,e⟩ | e | e
 ·refine .inl ⟨d,T,et,?_⟩
  have tr':sTry2 ["BadText"] ["BadPlan"] (sS 1 (eF yF (aC (eV 0) aN))) (sS 1 (eC .none)) (sS 1 (eC .none)) [some (.str (dT tr)),some .none]=.ok (.nx [some (.str (dT tr)),some (.tuple [tI [1,2],.tuple [d,.none]])]):=xV6 (by simp![e])
  show (xA [some (.str (dT tr)),none]).bind (fin false)=_
  unfold xA
  simp![tr']
 ·refine .inr ?_
  have tr':sTry2 ["BadText"] ["BadPlan"] (sS 1 (eF yF (aC (eV 0) aN))) (sS 1 (eC .none)) (sS 1 (eC .none)) [some (.str (dT tr)),some .none]=.ok (.nx [none,some .none]):=by
   rw[yB6 (c:=BT) (by simp![e]) (by decide)]
   rfl
  show (xA [some (.str (dT tr)),none]).bind (fin false)=_
  unfold xA
  simp![tr']
 ·refine .inr ?_
  have tr':sTry2 ["BadText"] ["BadPlan"] (sS 1 (eF yF (aC (eV 0) aN))) (sS 1 (eC .none)) (sS 1 (eC .none)) [some (.str (dT tr)),some .none]=.ok (.nx [none,some .none]):=by
   rw[yI9 (c:="BadPlan") (by simp![e]) (by decide) (by decide)]
   rfl
  show (xA [some (.str (dT tr)),none]).bind (fin false)=_
  unfold xA
  simp![tr']
theorem plan12{d:D}(T:TreeOk 2 1 [] [0] d)(et:tr=ttx 1 d):xH [tI [1,2],.tuple [d,.none]]=.ok (.str (dT tr)):=by
 have P:PlanOk 2 [1,2] (fun p=>if p=0 then d else .none):=⟨fun p hp=>by
  match p,hp with
  | 0,_=>exact T
  | 1,_=>exact .none⟩
 have e:=zY2 P opn12 (by decide) (by decide)
 have pr:prw 2 [1,2] (fun p=>if p=0 then d else .none)=[opT [1,2],pT 0 tr,pT 1 "-"]:=by
  rw[et]
  rfl
 rw[pr,<-yQ4] at e
 exact e
end
theorem zS7(cell:Int){m:Nat}(hm:m<=60):yI [.int cell,.int (m:Int)]=.ok (.bool true):=by
 have lb:=vQ
 obtain⟨z1,l1,s1,e1⟩:=zY5 (S:="01 )(2") (m:=m) (by decide) (by decide) (by rfl') cell
 obtain⟨z2,l2,s2,e2'⟩:=zY5 (S:="-(01 )") (m:=m) (by decide) (by decide) (by rfl') cell
 have a1:∀c∈tl "01 )(2",c<128:=by decide +kernel
 have a2:∀c∈tl "-(01 )",c<128/\c≠10:=by decide +kernel
 have tx1:Tx 400 ("(0"++z1 ++ ")"):=by
  have p:Tx 2 "(0":=⟨by decide,by decide +kernel⟩
  have q:Tx 1 ")":=⟨by decide,by decide +kernel⟩
  exact ((p.app (⟨by rfl',fun c hc=>a1 c (s1 c hc)⟩:Tx 60 z1)).app q).mono (by decide)
 have tx2:Tx 100 z2:=⟨by rfl',fun c hc=>(a2 c (s2 c hc)).1⟩
 have n10:∀c∈tl z2,c≠10:=fun c hc=>(a2 c (s2 c hc)).2
 have c1:=cS (a:="(0") (b:=z1) (by have:("(0":Str).length=2:=rfl;rfl')
 have c2:=cS (a:="(0"++z1) (b:=")") (by rw[Af];have:("(0":Str).length=2:=rfl;have:(")":Str).length=1:=rfl;rfl')
 have cn:cntD z2 (.str "(")=some (.int (Txt.count z2 "(":Int)):=rfl
 have sl:slS (.str z2) none (some 30)=some (.str (Txt.slice z2 none (some 30))):=by
  unfold slS
  rw[yV,AI,Am (by rfl')]
 have rest:∀(tr:Str) (a b c d:Option D),Tx 100 tr->10∉tl tr->(sQ (sS 2 (e2 catS (e2 catS (eC (.str "openings 1 2\nperson 0 ")) (eV 4)) (eC (.str "\nperson 1 -")))) (sQ (sS 5 (eF wM (aC (eV 2) aN))) (sR (vO (e2 (fun x y=>bD ((isND false) x y)) (eV 5) (eC .none)) (e2 (fun x y=>bD (eqD x y)) (eF xH (aC (e2 ixD (eV 5) (eC (.int 0))) (aC (e2 ixD (eV 5) (eC (.int 1))) aN))) (eV 2)))))) [a,b,c,d,some (.str tr),none]=.ok (.rt (.bool true)):=by
  intro tr a b c d ht hn
  have lt:=ht.len
  have k1:=cS (a:="openings 1 2\nperson 0 ") (b:=tr) (by have:("openings 1 2\nperson 0 ":Str).length=22:=rfl;rfl')
  have k2:=cS (a:="openings 1 2\nperson 0 "++tr) (b:="\nperson 1 -") (by rw[Af];have:("openings 1 2\nperson 0 ":Str).length=22:=rfl;have:("\nperson 1 -":Str).length=11:=rfl;rfl')
  have k2:catS (.str ("openings 1 2\nperson 0 "++tr)) (.str "\nperson 1 -")=some (.str (dT tr)):=k2
  rcases lrp ht hn with ⟨d,T,et,e⟩ | e
  ·have pt:=plan12 ht hn T et
   have eq:=xN8 (yK4 ht hn).ok (yK4 ht hn).ok
   rw[Ag rfl] at eq
   have i0:isND false (.tuple [tI [1,2],.tuple [d,.none]]) .none=some false:=rfl
   have x0:atI [tI [1,2],.tuple [d,.none]] 0=some (tI [1,2]):=rfl
   have x1:atI [tI [1,2],.tuple [d,.none]] 1=some (.tuple [d,.none]):=rfl
   simp![k1,k2,e,i0,x0,x1,pt,eq]
  ·have i0:isND false .none .none=some true:=rfl
   simp![k1,k2,e,i0]
 show (jL [some (.int cell),some (.int (m:Int)),none,none,none,none]).bind (fin false)=_
 unfold jL
 revert rest
 generalize (sQ (sS 2 (e2 catS (e2 catS (eC (.str "openings 1 2\nperson 0 ")) (eV 4)) (eC (.str "\nperson 1 -")))) (sQ (sS 5 (eF wM (aC (eV 2) aN))) (sR (vO (e2 (fun x y=>bD ((isND false) x y)) (eV 5) (eC .none)) (e2 (fun x y=>bD (eqD x y)) (eF xH (aC (e2 ixD (eV 5) (eC (.int 0))) (aC (e2 ixD (eV 5) (eC (.int 1))) aN))) (eV 2))))))=R
 intro rest
 have mid:∀c d:Option D,(sQ (sS 4 (eF vK (aC (eV 0) (aC (eC (.str "-(01 )")) (aC (eV 1) aN))))) (sQ (sIf (b2 gtI (eM1S cntD (eV 4) (eC (.str "("))) (eC (.int 30))) (sS 4 (eS slS (eV 4) oN (oS (eC (.int 30))))) sN) R)) [some (.int cell),some (.int (m:Int)),c,d,none,none]=.ok (.rt (.bool true)):=by
  intro c d
  have r1:=rest z2 (some (.int cell)) (some (.int (m:Int))) c d tx2 fun z=>n10 10 z rfl
  have r2:=rest (Txt.slice z2 none (some 30)) (some (.int cell)) (some (.int (m:Int))) c d (tx2.slice _ _) fun z=>n10 10 (zH1 z) rfl
  by_cases q:(30:Int)<(Txt.count z2 "(":Int)
  ·simp![e2',yB,yV,cn,Ag q,sl,r2]
  ·simp![e2',yB,yV,cn,An q,r1]
 revert mid
 generalize (sQ (sS 4 (eF vK (aC (eV 0) (aC (eC (.str "-(01 )")) (aC (eV 1) aN))))) (sQ (sIf (b2 gtI (eM1S cntD (eV 4) (eC (.str "("))) (eC (.int 30))) (sS 4 (eS slS (eV 4) oN (oS (eC (.int 30))))) sN) R))=M
 intro mid
 rcases lro tx1 with ⟨n,ys,o,h1,h2,eo,e⟩ | e
 ·have ne:=zW3 tx1.ok tx1.ok
  rw[Ag rfl] at ne
  have ot:=qS o h1 h2
  rw[eo] at ot
  have i0:isND true (tI ys) .none=some true:=rfl
  simp![e1,c1,c2,e,i0,ot,ne,mid]
 ·have i0:isND true .none .none=some false:=rfl
  simp![e1,c1,c2,e,i0,mid]
theorem yA4{n:Nat}{xs:List Int}(o:Ord n xs)(h1:1<=n)(h2:n<=60):∃d,revL (rows (ringsD n xs n))=some d/\wJ [d]=.ok (tI xs):=by
 have q:=zN2 o h1 h2
 have pm:(rgs n xs n).reverse.flatten.Perm (List.range n):=(List.Perm.flatten (List.reverse_perm _)).trans (flatP o)
 obtain⟨ys,hl,hy,e⟩:=aR (yG9 (rgs n xs n).reverse (fun r=>tI (rI' r)) fun r=>.inl rfl) pm h1 h2 fun r hr=>Bj.mpr (q.ring r (List.mem_reverse.mp hr)).2.2
 have f:RF (rgs n xs n) ys:=fun r hr=>hy r (List.mem_reverse.mpr hr)
 have:=yS4 (flatP o) o.len hl (yE8 o) f
 subst this
 refine⟨_,?_,e⟩
 show some (PyData.list ((ringsD n xs n).map tI).reverse)=_
 unfold ringsD
 rw[AR,List.map_reverse]
 rfl
theorem law3{ns:List Int}(h:ns.length<=63)(a b c d e f g i x y:Option D):(sQ (sF (iR rng1 (aC (eB min2D (aC (eC (.int 20)) (aC (eB lenD (aC (eV 0) aN)) aN))) aN)) (gN 9) (sIf (tNt (tV (eF yI (aC (e2 fdivI (e2 ixD (eV 0) (eV 9)) (e2 addI (eV 9) (eC (.int 1)))) (aC (e2 addI (eC (.int 1)) (e2 mulI (eV 9) (eC (.int 3)))) aN))))) (sR (eC (.bool false))) sN)) (sR (eC (.bool true)))) [some (lI ns),a,b,c,d,e,f,g,i,x,y]=.ok (.rt (.bool true)):=by
 obtain⟨m,hm,lm,em⟩:∃m:Nat,m<=20/\m<=ns.length/\min2D [.int 20,.int (ns.length:Int)]=some (.int (m:Int)):=⟨min 20 ns.length,Nat.min_le_left _ _,Nat.min_le_right _ _,by
  show some (PyData.int (if (ns.length:Int)<20 then (ns.length:Int) else 20))=_
  congr 2
  split <;> rfl'⟩
 have ll:(ns.map PyData.int).length=ns.length:=Aa ..
 simp![ll,em,jA (show m<=1000 by rfl')]
 refine yQ3 (fun _ ρ=>∃x,ρ=[some (lI ns),a,b,c,d,e,f,g,i,x,y]) ⟨x,rfl⟩ ?_ ?_
 ·rintro j d' ρ hd ⟨x,rfl⟩
  rw[Ak] at hd
  obtain⟨k,ek,rfl⟩:=Av.mp hd
  have hj:j<m:=by simpa using (Aj.mp ek).1
  rw[Ay hj] at ek
  cases ek
  have ix:atI (ns.map PyData.int) (j:Int)=some (.int (ns.getD j 0)):=by
   rw[uH,uN (by rfl')]
   rfl
  have dr:=zS7 (ns.getD j 0 / ((j:Int)+1)) (m:=1+j*3) (by rfl')
  have em:(((1+j*3:Nat)):Int)=1+(j:Int)*3:=by rfl'
  rw[em] at dr
  have fd:fdivO (ns.getD j 0) ((j:Int)+1)=some (ns.getD j 0 / ((j:Int)+1)):=Am (DivOk.small (by rfl') (by rfl'))
  have mo:=yN2 (i:=(j:Int)) (j:=3) (MulOk.left (by rfl') (by rfl'))
  refine⟨_,_,rfl,?_,some (.int (j:Int)),rfl⟩
  simp![ix,fd,mo,dr]
 ·rintro ρ ⟨x,rfl⟩
  simp -implicitDefEqProofs only[(evA)]
theorem law2{ns ops:List Int}{n:Nat}{t:Nat->D}(P:PlanOk n ops t)(q:Opn n ops)(h2:n<=6)(h:ns.length<=63)(cell:Int)(b c d:Option D):(sQ (sF (iR rng1 (aC (eC (.int 6)) aN)) (gN 9) (sQ (sS 10 (eF vS (aC (e2 fdivI (eV 1) (e2 addI (eV 9) (eC (.int 1)))) (aC (eV 5) aN)))) (sIf (tO (b2 neD (e2 ixD (eV 8) (eC (.int 0))) (eV 6)) (b2 neD (eF yK (aC (e2 ixD (eV 8) (eC (.int 1))) (aC (eV 10) aN))) (eF yK (aC (eV 7) (aC (eV 10) aN))))) (sR (eC (.bool false))) sN))) (sQ (sF (iR rng1 (aC (eB min2D (aC (eC (.int 20)) (aC (eB lenD (aC (eV 0) aN)) aN))) aN)) (gN 9) (sIf (tNt (tV (eF yI (aC (e2 fdivI (e2 ixD (eV 0) (eV 9)) (e2 addI (eV 9) (eC (.int 1)))) (aC (e2 addI (eC (.int 1)) (e2 mulI (eV 9) (eC (.int 3)))) aN))))) (sR (eC (.bool false))) sN)) (sR (eC (.bool true))))) [some (lI ns),some (.int cell),b,c,d,some (.int (n:Int)),some (tI ops),some (.tuple ((List.range n).map t)),some (.tuple [tI ops,.tuple ((List.range n).map t)]),none,none]=.ok (.rt (.bool true)):=by
 have l3:=fun x y=>law3 h (some (.int cell)) b c d (some (.int (n:Int))) (some (tI ops)) (some (.tuple ((List.range n).map t))) (some (.tuple [tI ops,.tuple ((List.range n).map t)])) x y
 revert l3
 generalize (sQ (sF (iR rng1 (aC (eB min2D (aC (eC (.int 20)) (aC (eB lenD (aC (eV 0) aN)) aN))) aN)) (gN 9) (sIf (tNt (tV (eF yI (aC (e2 fdivI (e2 ixD (eV 0) (eV 9)) (e2 addI (eV 9) (eC (.int 1)))) (aC (e2 addI (eC (.int 1)) (e2 mulI (eV 9) (eC (.int 3)))) aN))))) (sR (eC (.bool false))) sN)) (sR (eC (.bool true))))=R
 intro l3
 have r6:rng1 [.int 6]=some ((List.range 6).map fun (i:Nat)=>PyData.int (i:Int)):=jA (n:=6) (by decide)
 simp![r6]
 refine yQ3 (fun _ ρ=>∃x y,ρ=[some (lI ns),some (.int cell),b,c,d,some (.int (n:Int)),some (tI ops),some (.tuple ((List.range n).map t)),some (.tuple [tI ops,.tuple ((List.range n).map t)]),x,y]) ⟨none,none,rfl⟩ ?_ ?_
 ·rintro j d' ρ hd ⟨x,y,rfl⟩
  rw[Ak] at hd
  obtain⟨k,ek,rfl⟩:=Av.mp hd
  have hj:j<6:=by simpa using (Aj.mp ek).1
  rw[Ay hj] at ek
  cases ek
  have fd:fdivO cell ((j:Int)+1)=some (cell / ((j:Int)+1)):=Am (DivOk.small (by rfl') (by rfl'))
  have eo:=zP7 (cell / ((j:Int)+1)) n (by rfl')
  have o:=bH (cell / ((j:Int)+1)) n
  generalize (lawOrd (cell / ((j:Int)+1)) n).1=ys at eo o
  obtain⟨W,hW⟩:=yK5 o P
  have fb:=zK1 o q (show n<=60 by rfl') hW
  have x0:atI [tI ops,.tuple ((List.range n).map t)] 0=some (tI ops):=rfl
  have x1:atI [tI ops,.tuple ((List.range n).map t)] 1=some (.tuple ((List.range n).map t)):=rfl
  refine⟨_,_,rfl,?_,some (.int (j:Int)),some (tI ys),rfl⟩
  simp![fd,eo,x0,x1,fb,yF6,decide_true]
 ·rintro ρ ⟨x,y,rfl⟩
  simp![l3 x y]
theorem law1{ns:List Int}(h:ns.length<=63)(cell:Int)(b c d:Option D):(sQ (sS 5 (e2 addI (eC (.int 1)) (e2 modI (e2 fdivI (eF wF (aC (eV 0) (aC (eC (.int 0)) aN))) (eC (.int 7))) (eC (.int 4))))) (sQ (sA (eF qE (aC (e2 fdivI (eV 1) (eC (.int 3))) (aC (eV 5) (aC (eV 5) aN)))) (gT 2 (gsC (gN 6) (gsC (gN 7) gsN)))) (sQ (sS 8 (eF yF (aC (eF xH (aC (eV 6) (aC (eV 7) aN))) aN))) (sQ (sF (iR rng1 (aC (eC (.int 6)) aN)) (gN 9) (sQ (sS 10 (eF vS (aC (e2 fdivI (eV 1) (e2 addI (eV 9) (eC (.int 1)))) (aC (eV 5) aN)))) (sIf (tO (b2 neD (e2 ixD (eV 8) (eC (.int 0))) (eV 6)) (b2 neD (eF yK (aC (e2 ixD (eV 8) (eC (.int 1))) (aC (eV 10) aN))) (eF yK (aC (eV 7) (aC (eV 10) aN))))) (sR (eC (.bool false))) sN))) (sQ (sF (iR rng1 (aC (eB min2D (aC (eC (.int 20)) (aC (eB lenD (aC (eV 0) aN)) aN))) aN)) (gN 9) (sIf (tNt (tV (eF yI (aC (e2 fdivI (e2 ixD (eV 0) (eV 9)) (e2 addI (eV 9) (eC (.int 1)))) (aC (e2 addI (eC (.int 1)) (e2 mulI (eV 9) (eC (.int 3)))) aN))))) (sR (eC (.bool false))) sN)) (sR (eC (.bool true)))))))) [some (lI ns),some (.int cell),b,c,d,none,none,none,none,none,none]=.ok (.rt (.bool true)):=by
 have e0:wF [lI ns,.int 0]=.ok (.int (ns.getD 0 0)):=zZ3 ns 0
 generalize ns.getD 0 0=v at e0
 obtain⟨n,n1,n2,en⟩:∃n:Nat,1<=n/\n<=4/\1+v / 7%4=(n:Int):=⟨(1+v / 7%4).toNat,by rfl',by rfl',by rfl'⟩
 have d7:fdivO v 7=some (v / 7):=Am (DivOk.small (by decide) (by decide))
 have m4:modO (v / 7) 4=some (v / 7%4):=Am (by decide)
 have d3:fdivO cell 3=some (cell / 3):=Am (DivOk.small (by decide) (by decide))
 obtain⟨ops,t,q,P,_,ep⟩:=yI4 (cell / 3) (n:Int) n1 (show n<=6 by rfl') (by rfl') (by rfl')
 have l2:=law2 P q (by rfl') h cell b c d
 have gt:gT 2 (gsC (gN 6) (gsC (gN 7) gsN)) (.tuple [tI ops,.tuple ((List.range n).map t)]) [some (lI ns),some (.int cell),b,c,d,some (.int (n:Int)),none,none,none,none,none]=some [some (lI ns),some (.int cell),b,c,d,some (.int (n:Int)),some (tI ops),some (.tuple ((List.range n).map t)),none,none,none]:=rfl
 revert l2
 generalize (sQ (sF (iR rng1 (aC (eC (.int 6)) aN)) (gN 9) (sQ (sS 10 (eF vS (aC (e2 fdivI (eV 1) (e2 addI (eV 9) (eC (.int 1)))) (aC (eV 5) aN)))) (sIf (tO (b2 neD (e2 ixD (eV 8) (eC (.int 0))) (eV 6)) (b2 neD (eF yK (aC (e2 ixD (eV 8) (eC (.int 1))) (aC (eV 10) aN))) (eF yK (aC (eV 7) (aC (eV 10) aN))))) (sR (eC (.bool false))) sN))) (sQ (sF (iR rng1 (aC (eB min2D (aC (eC (.int 20)) (aC (eB lenD (aC (eV 0) aN)) aN))) aN)) (gN 9) (sIf (tNt (tV (eF yI (aC (e2 fdivI (e2 ixD (eV 0) (eV 9)) (e2 addI (eV 9) (eC (.int 1)))) (aC (e2 addI (eC (.int 1)) (e2 mulI (eV 9) (eC (.int 3)))) aN))))) (sR (eC (.bool false))) sN)) (sR (eC (.bool true)))))=R
 intro l2
 simp![e0,d7,m4,en,d3,ep,gt,zY2 P q n1 (show n<=6 by rfl'),yZ6 P q n1 (show n<=6 by rfl'),l2]
theorem law_true(ns:List Int)(h:ns.length<=63):yJ9 [.list (ns.map PyData.int)]=.ok (.bool true):=by
 obtain⟨cell,ec⟩:=xS7 ns
 obtain⟨n,h1,h2,en⟩:=yH6 ns
 have eo:=zP7 cell n (by rfl')
 have o:=bH cell n
 generalize (lawOrd cell n).1=xs at eo o
 have ot:=qS o h1 h2
 have rg:=xP7 o h1 h2 ((xF3 o h1 h2).mono (by rfl'))
 have er:=zU4 o (show n<=1000 by rfl')
 obtain⟨d,rd,ob⟩:=yA4 o h1 h2
 have l1:=law1 h cell (some (.int (n:Int))) (some (tI xs)) (some (tI xs))
 show (yM9 [some (lI ns),none,none,none,none,none,none,none,none,none,none]).bind (fin false)=_
 unfold yM9
 revert l1
 generalize (sQ (sS 5 (e2 addI (eC (.int 1)) (e2 modI (e2 fdivI (eF wF (aC (eV 0) (aC (eC (.int 0)) aN))) (eC (.int 7))) (eC (.int 4))))) (sQ (sA (eF qE (aC (e2 fdivI (eV 1) (eC (.int 3))) (aC (eV 5) (aC (eV 5) aN)))) (gT 2 (gsC (gN 6) (gsC (gN 7) gsN)))) (sQ (sS 8 (eF yF (aC (eF xH (aC (eV 6) (aC (eV 7) aN))) aN))) (sQ (sF (iR rng1 (aC (eC (.int 6)) aN)) (gN 9) (sQ (sS 10 (eF vS (aC (e2 fdivI (eV 1) (e2 addI (eV 9) (eC (.int 1)))) (aC (eV 5) aN)))) (sIf (tO (b2 neD (e2 ixD (eV 8) (eC (.int 0))) (eV 6)) (b2 neD (eF yK (aC (e2 ixD (eV 8) (eC (.int 1))) (aC (eV 10) aN))) (eF yK (aC (eV 7) (aC (eV 10) aN))))) (sR (eC (.bool false))) sN))) (sQ (sF (iR rng1 (aC (eB min2D (aC (eC (.int 20)) (aC (eB lenD (aC (eV 0) aN)) aN))) aN)) (gN 9) (sIf (tNt (tV (eF yI (aC (e2 fdivI (e2 ixD (eV 0) (eV 9)) (e2 addI (eV 9) (eC (.int 1)))) (aC (e2 addI (eC (.int 1)) (e2 mulI (eV 9) (eC (.int 3)))) aN))))) (sR (eC (.bool false))) sN)) (sR (eC (.bool true))))))))=R
 intro l1
 simp![ec,en,eo,ot,rg,er,xT9,decide_true,zC6,rd,ob,yF6,l1]
end K52
set_option hygiene false in
local macro_rules | `(tactic| sleep 11)=>`(tactic| (dsimp only[L2.KOf];refine' ⟨_,_,L2.aT KX G ?a ?l ?c ?k ?b⟩; (case a=>k_is); (case l=>k_is); (case c=>k_is); (case k=>k_is); (case b=>intro _ _ _ _ _ _;refine L2.L3.ls1 ?_;exact fun _=>rfl)))
set_option hygiene false in
local macro_rules | `(tactic| sleep 12)=>`(tactic| (dsimp only[L2.KOf];refine' ⟨_,_,L2.aT KX G ?a ?l ?c ?k ?b⟩; (case a=>k_is); (case l=>k_is); (case c=>k_is); (case k=>k_is); (case b=>intro _ _ _ _ _ _;refine L2.L3.ls2 ?_;exact fun _ _=>rfl)))
set_option hygiene false in
local macro_rules | `(tactic| sleep 13)=>`(tactic| (dsimp only[L2.KOf];refine' ⟨_,_,L2.aT KX G ?a ?l ?c ?k ?b⟩; (case a=>k_is); (case l=>k_is); (case c=>k_is); (case k=>k_is); (case b=>intro _ _ _ _ _ _;refine L2.L3.ls3 ?_;exact fun _ _ _=>rfl)))
set_option hygiene false in
local macro_rules | `(tactic| sleep 15)=>`(tactic| (dsimp only[L2.KOf];refine' ⟨_,_,L2.aT KX G ?a ?l ?c ?k ?b⟩; (case a=>k_is); (case l=>k_is); (case c=>k_is); (case k=>k_is); (case b=>intro _ _ _ _ _ _;refine L2.L3.ls5 ?_;exact fun _ _ _ _ _=>rfl)))
def PySem.W.Fast.tw16574922157711041279 : Unit := ()
theorem PySem.W.Fast.te16574922157711041279 : True := trivial
def PySem.W.Fast.tw13367655642018818235 : PySem.Program := PySem.Challenge.pw_ownboxes_k52_whole_written_is_read
theorem PySem.W.Fast.te13367655642018818235 : PySem.Challenge.pw_ownboxes_k52_whole_written_is_read = PySem.W.Fast.tw13367655642018818235 := rfl
def PySem.W.Fast.tw17994995939775204435 : Unit := ()
def PySem.W.Fast.tw5607403498240383400 : Unit := ()
def PySem.W.Fast.tw10354667540993809156 : Unit := ()
def PySem.W.Fast.tw16692100257312941658 : Unit := ()
def PySem.W.Fast.tw13794958495438781086 : Unit := ()
def PySem.W.Fast.tw2533001129124307340 : Unit := ()
def PySem.W.Fast.tw7191154411180431466 : Unit := ()
def PySem.W.Fast.tw10538445955632956778 : Unit := ()
open PySem PySem.W PyProof.Rows
theorem K52.big_mk{K:KFr}{a_BadOpenings a_BadOrder a_BadPlan a_BadText a_BoxError:PySem.Addr}{N0 f0:PySem.Addr}{nm0 q0:PySem.Str}{bs0 sub0:List PySem.Value}{hd0 ab0:Bool}{sn0:List PySem.Str}{col0:Option Bool}{dd0 od0 an0:Option PySem.Addr}{k0 k1 k2 k3 k5:Option PySem.Value}{cd0:PySem.ClassData}{oc0 kV0 doc0 pm0 cdv0 ct0:PySem.Value}{osl0:Array (Option PySem.Value)}(n_BadOpenings:PySem.W.nsIn K PySem.mainGlobals "BadOpenings" = some (some (.ref a_BadOpenings)))(n_BadOrder:PySem.W.nsIn K PySem.mainGlobals "BadOrder" = some (some (.ref a_BadOrder)))(n_BadPlan:PySem.W.nsIn K PySem.mainGlobals "BadPlan" = some (some (.ref a_BadPlan)))(n_BadText:PySem.W.nsIn K PySem.mainGlobals "BadText" = some (some (.ref a_BadText)))(n_BoxError:PySem.W.nsIn K PySem.mainGlobals "BoxError" = some (some (.ref a_BoxError)))(o_BadOrder:PySem.W.excIn K a_BadOrder L2.L3.bmV "ValueError.__new__" = true)(g1_BadOrder:PySem.W.findIn K (.ref a_BadOrder) "__getattribute__" = some (some (.builtin "BaseException.__getattribute__")))(g2_BadOrder:PySem.W.findIn K (.ref a_BadOrder) "__getattr__" = some none)(g3_BadOrder:PySem.W.findIn K (.ref a_BadOrder) "__class__" = some (some (.builtin "object.__class__")))(g4_BadOrder:PySem.W.kitOne K (.ref a_BadOrder) (.type "BaseException")=some true)(g5_BadOrder:PySem.W.kitOne K (.ref a_BadOrder) (.type "object")=some true)(g6_BadOrder:(PySem.W.clsIn K a_BadOrder).isSome=true)(o_BadOpenings:PySem.W.excIn K a_BadOpenings L2.L3.bmV "ValueError.__new__" = true)(g1_BadOpenings:PySem.W.findIn K (.ref a_BadOpenings) "__getattribute__" = some (some (.builtin "BaseException.__getattribute__")))(g2_BadOpenings:PySem.W.findIn K (.ref a_BadOpenings) "__getattr__" = some none)(g3_BadOpenings:PySem.W.findIn K (.ref a_BadOpenings) "__class__" = some (some (.builtin "object.__class__")))(g4_BadOpenings:PySem.W.kitOne K (.ref a_BadOpenings) (.type "BaseException")=some true)(g5_BadOpenings:PySem.W.kitOne K (.ref a_BadOpenings) (.type "object")=some true)(g6_BadOpenings:(PySem.W.clsIn K a_BadOpenings).isSome=true)(o_BadPlan:PySem.W.excIn K a_BadPlan L2.L3.bmV "ValueError.__new__" = true)(g1_BadPlan:PySem.W.findIn K (.ref a_BadPlan) "__getattribute__" = some (some (.builtin "BaseException.__getattribute__")))(g2_BadPlan:PySem.W.findIn K (.ref a_BadPlan) "__getattr__" = some none)(g3_BadPlan:PySem.W.findIn K (.ref a_BadPlan) "__class__" = some (some (.builtin "object.__class__")))(g4_BadPlan:PySem.W.kitOne K (.ref a_BadPlan) (.type "BaseException")=some true)(g5_BadPlan:PySem.W.kitOne K (.ref a_BadPlan) (.type "object")=some true)(g6_BadPlan:(PySem.W.clsIn K a_BadPlan).isSome=true)(g1_BadText:PySem.W.findIn K (.ref a_BadText) "__getattribute__" = some (some (.builtin "BaseException.__getattribute__")))(g2_BadText:PySem.W.findIn K (.ref a_BadText) "__getattr__" = some none)(g3_BadText:PySem.W.findIn K (.ref a_BadText) "__class__" = some (some (.builtin "object.__class__")))(g4_BadText:PySem.W.kitOne K (.ref a_BadText) (.type "BaseException")=some true)(g5_BadText:PySem.W.kitOne K (.ref a_BadText) (.type "object")=some true)(g6_BadText:(PySem.W.clsIn K a_BadText).isSome=true)(b_BadOpenings:PySem.W.kitOne K (.ref a_BadOpenings) (.type "BaseException")=some true)(m_BadOpenings:PySem.W.typeIn K (.ref a_BadOpenings)=some (.type "type"))(s_BadOpenings:PySem.W.subIn K (.ref a_BadOpenings) (.ref a_BadOpenings)=some true)(b_BadOrder:PySem.W.kitOne K (.ref a_BadOrder) (.type "BaseException")=some true)(m_BadOrder:PySem.W.typeIn K (.ref a_BadOrder)=some (.type "type"))(s_BadOrder:PySem.W.subIn K (.ref a_BadOrder) (.ref a_BadOrder)=some true)(b_BadPlan:PySem.W.kitOne K (.ref a_BadPlan) (.type "BaseException")=some true)(m_BadPlan:PySem.W.typeIn K (.ref a_BadPlan)=some (.type "type"))(s_BadPlan:PySem.W.subIn K (.ref a_BadPlan) (.ref a_BadPlan)=some true)(b_BadText:PySem.W.kitOne K (.ref a_BadText) (.type "BaseException")=some true)(m_BadText:PySem.W.typeIn K (.ref a_BadText)=some (.type "type"))(s_BadText:PySem.W.subIn K (.ref a_BadText) (.ref a_BadText)=some true)(nk_BadPlan_BadText:PySem.W.kitOne K (.ref a_BadPlan) (.ref a_BadText)=some false)(nd_BadPlan_BadText:(PySem.Value.ref a_BadPlan == PySem.Value.ref a_BadText)=false)(bl:K.lookup a_BadText=some (PySem.excClassObj nm0 q0 a_BadText N0 bs0 (.ref a_BoxError::L2.L3.bmV) hd0 sn0 sub0 ab0 col0 dd0 k0 k1 k2 k3 k5 "ValueError.__new__"))(bo:PySem.W.excIn K a_BoxError L2.L3.bmV "ValueError.__new__" = true)(bs:PySem.W.findIn K (.ref a_BadText) "__setattr__" = some (some (.builtin "object.__setattr__")))(bc:PySem.W.clsIn K a_BadText=some cd0)(bu:(L2.L3.underV cd0.mro&&cd0.hasDict)=true)(br:PySem.W.findIn K (.ref a_BadText) "row" = some none)(bi:PySem.W.findIn K (.ref a_BadText) "__init__" = some (some (.ref f0)))(bf:PySem.W.isFn K (.ref f0)=true)(bg:K.lookup f0=some ⟨oc0,od0,.func (PySem.W.fnOf "__init__" "BadText.__init__" (L2.defArgs K52.qP) (L2.defBody K52.qP) (L2.zS K52.qP) .none kV0 doc0 pm0 an0 cdv0 ct0),osl0⟩)(bh:PySem.W.codeIn K cdv0 "BadText.__init__" = true)(bk:PySem.W.keepIn K (.ref f0)=true)(bb:∀(kV doc pm:PySem.Value) (an:Option PySem.Addr) (cdv ct:PySem.Value) (us:List PySem.Value),us.length=2->PySem.bindArgs (PySem.W.fnOf "__init__" "BadText.__init__" (L2.defArgs K52.qP) (L2.defBody K52.qP) (L2.zS K52.qP) .none kV doc pm an cdv ct) ⟨us,[]⟩=pure ((["self","row"]:List PySem.Str).zip us))(bt_kp:PySem.W.keepIn K (.ref a_BadText)=true)(bb1:PySem.W.specialIn K (.ref a_BoxError) "__getattribute__" = some (some (.builtin "type.__getattribute__")))(bb2:PySem.W.readsIn K a_BoxError (.type "type")=true)(bb3:PySem.W.findCls K (.ref a_BoxError) (.type "type") "__init__" = some (.val (.builtin "ValueError.__init__")))(bn_BadOpenings:(PySem.Value.ref a_BadOpenings == PySem.Value.ref a_BadText)=false)(bn_BadOrder:(PySem.Value.ref a_BadOrder == PySem.Value.ref a_BadText)=false):∃a_BadOpenings a_BadOrder a_BadPlan a_BadText a_BoxError:PySem.Addr,(PySem.W.nsIn K PySem.mainGlobals "BadOpenings" = some (some (.ref a_BadOpenings)))/\(PySem.W.nsIn K PySem.mainGlobals "BadOrder" = some (some (.ref a_BadOrder)))/\(PySem.W.nsIn K PySem.mainGlobals "BadPlan" = some (some (.ref a_BadPlan)))/\(PySem.W.nsIn K PySem.mainGlobals "BadText" = some (some (.ref a_BadText)))/\(PySem.W.nsIn K PySem.mainGlobals "BoxError" = some (some (.ref a_BoxError)))/\(PySem.W.excIn K a_BadOrder L2.L3.bmV "ValueError.__new__" = true)/\(PySem.W.findIn K (.ref a_BadOrder) "__getattribute__" = some (some (.builtin "BaseException.__getattribute__")))/\(PySem.W.findIn K (.ref a_BadOrder) "__getattr__" = some none)/\(PySem.W.findIn K (.ref a_BadOrder) "__class__" = some (some (.builtin "object.__class__")))/\(PySem.W.kitOne K (.ref a_BadOrder) (.type "BaseException")=some true)/\(PySem.W.kitOne K (.ref a_BadOrder) (.type "object")=some true)/\((PySem.W.clsIn K a_BadOrder).isSome=true)/\(PySem.W.excIn K a_BadOpenings L2.L3.bmV "ValueError.__new__" = true)/\(PySem.W.findIn K (.ref a_BadOpenings) "__getattribute__" = some (some (.builtin "BaseException.__getattribute__")))/\(PySem.W.findIn K (.ref a_BadOpenings) "__getattr__" = some none)/\(PySem.W.findIn K (.ref a_BadOpenings) "__class__" = some (some (.builtin "object.__class__")))/\(PySem.W.kitOne K (.ref a_BadOpenings) (.type "BaseException")=some true)/\(PySem.W.kitOne K (.ref a_BadOpenings) (.type "object")=some true)/\((PySem.W.clsIn K a_BadOpenings).isSome=true)/\(PySem.W.excIn K a_BadPlan L2.L3.bmV "ValueError.__new__" = true)/\(PySem.W.findIn K (.ref a_BadPlan) "__getattribute__" = some (some (.builtin "BaseException.__getattribute__")))/\(PySem.W.findIn K (.ref a_BadPlan) "__getattr__" = some none)/\(PySem.W.findIn K (.ref a_BadPlan) "__class__" = some (some (.builtin "object.__class__")))/\(PySem.W.kitOne K (.ref a_BadPlan) (.type "BaseException")=some true)/\(PySem.W.kitOne K (.ref a_BadPlan) (.type "object")=some true)/\((PySem.W.clsIn K a_BadPlan).isSome=true)/\(PySem.W.findIn K (.ref a_BadText) "__getattribute__" = some (some (.builtin "BaseException.__getattribute__")))/\(PySem.W.findIn K (.ref a_BadText) "__getattr__" = some none)/\(PySem.W.findIn K (.ref a_BadText) "__class__" = some (some (.builtin "object.__class__")))/\(PySem.W.kitOne K (.ref a_BadText) (.type "BaseException")=some true)/\(PySem.W.kitOne K (.ref a_BadText) (.type "object")=some true)/\((PySem.W.clsIn K a_BadText).isSome=true)/\(PySem.W.kitOne K (.ref a_BadOpenings) (.type "BaseException")=some true)/\(PySem.W.typeIn K (.ref a_BadOpenings)=some (.type "type"))/\(PySem.W.subIn K (.ref a_BadOpenings) (.ref a_BadOpenings)=some true)/\(PySem.W.kitOne K (.ref a_BadOrder) (.type "BaseException")=some true)/\(PySem.W.typeIn K (.ref a_BadOrder)=some (.type "type"))/\(PySem.W.subIn K (.ref a_BadOrder) (.ref a_BadOrder)=some true)/\(PySem.W.kitOne K (.ref a_BadPlan) (.type "BaseException")=some true)/\(PySem.W.typeIn K (.ref a_BadPlan)=some (.type "type"))/\(PySem.W.subIn K (.ref a_BadPlan) (.ref a_BadPlan)=some true)/\(PySem.W.kitOne K (.ref a_BadText) (.type "BaseException")=some true)/\(PySem.W.typeIn K (.ref a_BadText)=some (.type "type"))/\(PySem.W.subIn K (.ref a_BadText) (.ref a_BadText)=some true)/\(PySem.W.kitOne K (.ref a_BadPlan) (.ref a_BadText)=some false)/\((PySem.Value.ref a_BadPlan == PySem.Value.ref a_BadText)=false)/\(PySem.W.keepIn K (.ref a_BadText)=true)/\(PySem.W.specialIn K (.ref a_BoxError) "__getattribute__" = some (some (.builtin "type.__getattribute__")))/\(PySem.W.readsIn K a_BoxError (.type "type")=true)/\(PySem.W.findCls K (.ref a_BoxError) (.type "type") "__init__" = some (.val (.builtin "ValueError.__init__")))/\((PySem.Value.ref a_BadOpenings == PySem.Value.ref a_BadText)=false)/\((PySem.Value.ref a_BadOrder == PySem.Value.ref a_BadText)=false)/\(L2.L3.ExIn K a_BadText L2.L3.bmV "ValueError.__new__")/\(L2.L3.RowCls K a_BadText)/\(L2.L3.BtFi K a_BadText K52.qP):=⟨a_BadOpenings,a_BadOrder,a_BadPlan,a_BadText,a_BoxError,n_BadOpenings,n_BadOrder,n_BadPlan,n_BadText,n_BoxError,o_BadOrder,g1_BadOrder,g2_BadOrder,g3_BadOrder,g4_BadOrder,g5_BadOrder,g6_BadOrder,o_BadOpenings,g1_BadOpenings,g2_BadOpenings,g3_BadOpenings,g4_BadOpenings,g5_BadOpenings,g6_BadOpenings,o_BadPlan,g1_BadPlan,g2_BadPlan,g3_BadPlan,g4_BadPlan,g5_BadPlan,g6_BadPlan,g1_BadText,g2_BadText,g3_BadText,g4_BadText,g5_BadText,g6_BadText,b_BadOpenings,m_BadOpenings,s_BadOpenings,b_BadOrder,m_BadOrder,s_BadOrder,b_BadPlan,m_BadPlan,s_BadPlan,b_BadText,m_BadText,s_BadText,nk_BadPlan_BadText,nd_BadPlan_BadText,bt_kp,bb1,bb2,bb3,bn_BadOpenings,bn_BadOrder,L2.L3.xL8 bl bo,L2.L3.yH7 bs bc bu br,L2.L3.xP9 bi bf bg bh bk bb⟩
set_option maxRecDepth 100000 in
set_option maxHeartbeats 0 in
theorem PySem.Challenge.cw_ownboxes_k52_whole_written_is_read_holds : PySem.Challenge.rw_ownboxes_k52_whole_written_is_read.Holds := by
 w_on;o_law;k_head; (case hw=>w_witness2)
 k_fill
 refine L2.L3.yE5 (F:=K52.yJ9) (k:=20) (l:=PySem.Challenge.rw_ownboxes_k52_whole_written_is_read) K52.law_true ⟨rfl,by decide,by decide⟩ rfl rfl (fun w h Y=>PySem.W.kIn_of Y) (fun w=>by rfl) ?F
 case F =>
  intro w mg fa h KX G hmg
  letI cn:L2.L3.CN:=L2.L3.cnOf (L2.KOf KX)
  have D_is_order:∃f fd,L2.Has (L2.KOf KX) mg "is_order" K52.gS f fd ["names"]:=by sleep 11
  have D_ring_from:∃f fd,L2.Has (L2.KOf KX) mg "ring_from" K52.kW f fd ["order","box"]:=by sleep 12
  have D_rings_of:∃f fd,L2.Has (L2.KOf KX) mg "rings_of" K52.gU f fd ["order"]:=by sleep 11
  have D_order_by:∃f fd,L2.Has (L2.KOf KX) mg "order_by" K52.gW f fd ["rings"]:=by sleep 11
  have D_made_openings:∃f fd,L2.Has (L2.KOf KX) mg "made_openings" K52.uZ f fd ["people","numbers"]:=by sleep 12
  have D_openings_of_a_plan:∃f fd,L2.Has (L2.KOf KX) mg "openings_of_a_plan" K52.wW f fd ["openings"]:=by sleep 11
  have D_made_tree:∃f fd,L2.Has (L2.KOf KX) mg "made_tree" K52.qT f fd ["tree","people","left","boxes","names"]:=by sleep 15
  have D_made_plan:∃f fd,L2.Has (L2.KOf KX) mg "made_plan" K52.uD f fd ["openings","trees"]:=by sleep 12
  have D_check_boxes:∃f fd,L2.Has (L2.KOf KX) mg "check_boxes" K52.qN f fd ["plan","order"]:=by sleep 12
  have D_boxes_down:∃f fd,L2.Has (L2.KOf KX) mg "boxes_down" K52.jO f fd ["tree","order"]:=by sleep 12
  have D_finders_by:∃f fd,L2.Has (L2.KOf KX) mg "finders_by" K52.uV f fd ["plan","order"]:=by sleep 12
  have D_numbers_text:∃f fd,L2.Has (L2.KOf KX) mg "numbers_text" K52.vU f fd ["numbers"]:=by sleep 11
  have D_read_number:∃f fd,L2.Has (L2.KOf KX) mg "read_number" K52.qK f fd ["word","row"]:=by sleep 12
  have D_read_numbers:∃f fd,L2.Has (L2.KOf KX) mg "read_numbers" K52.vV f fd ["words","row"]:=by sleep 12
  have D_ring_text:∃f fd,L2.Has (L2.KOf KX) mg "ring_text" K52.kM f fd ["ring"]:=by sleep 11
  have D_order_text:∃f fd,L2.Has (L2.KOf KX) mg "order_text" K52.uP f fd ["order"]:=by sleep 11
  have D_read_order:∃f fd,L2.Has (L2.KOf KX) mg "read_order" K52.uS f fd ["text"]:=by sleep 11
  have D_tree_text:∃f fd,L2.Has (L2.KOf KX) mg "tree_text" K52.vJ f fd ["tree"]:=by sleep 11
  have D_plan_text:∃f fd,L2.Has (L2.KOf KX) mg "plan_text" K52.kO f fd ["openings","plan"]:=by sleep 12
  have D_read_openings:∃f fd,L2.Has (L2.KOf KX) mg "read_openings" K52.uX f fd ["text"]:=by sleep 11
  have D_behind_sign:∃f fd,L2.Has (L2.KOf KX) mg "behind_sign" K52.qM f fd ["text","sign","row"]:=by sleep 13
  have D_read_tree:∃f fd,L2.Has (L2.KOf KX) mg "read_tree" K52.qV f fd ["text","people","row"]:=by sleep 13
  have D_read_person:∃f fd,L2.Has (L2.KOf KX) mg "read_person" K52.qO f fd ["text","person","people"]:=by sleep 13
  have D_read_plan:∃f fd,L2.Has (L2.KOf KX) mg "read_plan" K52.qX f fd ["text"]:=by sleep 11
  have D_l_cell_at:∃f fd,L2.Has (L2.KOf KX) mg "_law_cell_at" K52.kL f fd ["script","k"]:=by sleep 12
  have D_l_order:∃f fd,L2.Has (L2.KOf KX) mg "_law_order" K52.dX f fd ["cell","many"]:=by sleep 12
  have D_l_many:∃f fd,L2.Has (L2.KOf KX) mg "_law_many" K52.cB f fd ["script"]:=by sleep 11
  have D_l_all:∃f fd,L2.Has (L2.KOf KX) mg "_law_all" K52.zX7 f fd ["script"]:=by sleep 11
  have D_l_taken:∃f fd,L2.Has (L2.KOf KX) mg "_law_taken" K52.fE f fd ["digits","most"]:=by sleep 12
  have D_l_tree:∃f fd,L2.Has (L2.KOf KX) mg "_law_tree" K52.qJ f fd ["digits","person","people","way","left"]:=by sleep 15
  have D_l_plan:∃f fd,L2.Has (L2.KOf KX) mg "_law_plan" K52.qI f fd ["cell","people","most"]:=by sleep 13
  have D_l_read_order:∃f fd,L2.Has (L2.KOf KX) mg "_law_read_order" K52.uI f fd ["text"]:=by sleep 11
  have D_l_read_plan:∃f fd,L2.Has (L2.KOf KX) mg "_law_read_plan" K52.qQ f fd ["text"]:=by sleep 11
  have D_l_text_by:∃f fd,L2.Has (L2.KOf KX) mg "_law_text_by" K52.kK f fd ["cell","signs","most"]:=by sleep 13
  have D_l_drawn_right:∃f fd,L2.Has (L2.KOf KX) mg "_law_drawn_right" K52.uY f fd ["cell","most"]:=by sleep 12
  have D_law:∃f fd,L2.Has (L2.KOf KX) mg "law" K52.zE9 f fd ["script"]/\(∀(s:Shared) (u:Value),BindsTo s fd ⟨[u],[]⟩ [("script",u)]):=by
   dsimp only[L2.KOf]
   refine' ⟨_,_,L2.aT KX G ?a ?l ?c ?k ?b,?d⟩
   (case a=>k_is); (case l=>k_is); (case c=>k_is); (case k=>k_is)
   (case b=>intro _ _ _ _ _ _;refine L2.L3.ls1 ?_;exact fun _=>rfl)
   (case d=>exact fun s u=>.of_eq rfl)
  have BIG:∃a_BadOpenings a_BadOrder a_BadPlan a_BadText a_BoxError:PySem.Addr,(PySem.W.nsIn (L2.KOf KX) PySem.mainGlobals "BadOpenings" = some (some (.ref a_BadOpenings)))/\(PySem.W.nsIn (L2.KOf KX) PySem.mainGlobals "BadOrder" = some (some (.ref a_BadOrder)))/\(PySem.W.nsIn (L2.KOf KX) PySem.mainGlobals "BadPlan" = some (some (.ref a_BadPlan)))/\(PySem.W.nsIn (L2.KOf KX) PySem.mainGlobals "BadText" = some (some (.ref a_BadText)))/\(PySem.W.nsIn (L2.KOf KX) PySem.mainGlobals "BoxError" = some (some (.ref a_BoxError)))/\(PySem.W.excIn (L2.KOf KX) a_BadOrder L2.L3.bmV "ValueError.__new__" = true)/\(PySem.W.findIn (L2.KOf KX) (.ref a_BadOrder) "__getattribute__" = some (some (.builtin "BaseException.__getattribute__")))/\(PySem.W.findIn (L2.KOf KX) (.ref a_BadOrder) "__getattr__" = some none)/\(PySem.W.findIn (L2.KOf KX) (.ref a_BadOrder) "__class__" = some (some (.builtin "object.__class__")))/\(PySem.W.kitOne (L2.KOf KX) (.ref a_BadOrder) (.type "BaseException")=some true)/\(PySem.W.kitOne (L2.KOf KX) (.ref a_BadOrder) (.type "object")=some true)/\((PySem.W.clsIn (L2.KOf KX) a_BadOrder).isSome=true)/\(PySem.W.excIn (L2.KOf KX) a_BadOpenings L2.L3.bmV "ValueError.__new__" = true)/\(PySem.W.findIn (L2.KOf KX) (.ref a_BadOpenings) "__getattribute__" = some (some (.builtin "BaseException.__getattribute__")))/\(PySem.W.findIn (L2.KOf KX) (.ref a_BadOpenings) "__getattr__" = some none)/\(PySem.W.findIn (L2.KOf KX) (.ref a_BadOpenings) "__class__" = some (some (.builtin "object.__class__")))/\(PySem.W.kitOne (L2.KOf KX) (.ref a_BadOpenings) (.type "BaseException")=some true)/\(PySem.W.kitOne (L2.KOf KX) (.ref a_BadOpenings) (.type "object")=some true)/\((PySem.W.clsIn (L2.KOf KX) a_BadOpenings).isSome=true)/\(PySem.W.excIn (L2.KOf KX) a_BadPlan L2.L3.bmV "ValueError.__new__" = true)/\(PySem.W.findIn (L2.KOf KX) (.ref a_BadPlan) "__getattribute__" = some (some (.builtin "BaseException.__getattribute__")))/\(PySem.W.findIn (L2.KOf KX) (.ref a_BadPlan) "__getattr__" = some none)/\(PySem.W.findIn (L2.KOf KX) (.ref a_BadPlan) "__class__" = some (some (.builtin "object.__class__")))/\(PySem.W.kitOne (L2.KOf KX) (.ref a_BadPlan) (.type "BaseException")=some true)/\(PySem.W.kitOne (L2.KOf KX) (.ref a_BadPlan) (.type "object")=some true)/\((PySem.W.clsIn (L2.KOf KX) a_BadPlan).isSome=true)/\(PySem.W.findIn (L2.KOf KX) (.ref a_BadText) "__getattribute__" = some (some (.builtin "BaseException.__getattribute__")))/\(PySem.W.findIn (L2.KOf KX) (.ref a_BadText) "__getattr__" = some none)/\(PySem.W.findIn (L2.KOf KX) (.ref a_BadText) "__class__" = some (some (.builtin "object.__class__")))/\(PySem.W.kitOne (L2.KOf KX) (.ref a_BadText) (.type "BaseException")=some true)/\(PySem.W.kitOne (L2.KOf KX) (.ref a_BadText) (.type "object")=some true)/\((PySem.W.clsIn (L2.KOf KX) a_BadText).isSome=true)/\(PySem.W.kitOne (L2.KOf KX) (.ref a_BadOpenings) (.type "BaseException")=some true)/\(PySem.W.typeIn (L2.KOf KX) (.ref a_BadOpenings)=some (.type "type"))/\(PySem.W.subIn (L2.KOf KX) (.ref a_BadOpenings) (.ref a_BadOpenings)=some true)/\(PySem.W.kitOne (L2.KOf KX) (.ref a_BadOrder) (.type "BaseException")=some true)/\(PySem.W.typeIn (L2.KOf KX) (.ref a_BadOrder)=some (.type "type"))/\(PySem.W.subIn (L2.KOf KX) (.ref a_BadOrder) (.ref a_BadOrder)=some true)/\(PySem.W.kitOne (L2.KOf KX) (.ref a_BadPlan) (.type "BaseException")=some true)/\(PySem.W.typeIn (L2.KOf KX) (.ref a_BadPlan)=some (.type "type"))/\(PySem.W.subIn (L2.KOf KX) (.ref a_BadPlan) (.ref a_BadPlan)=some true)/\(PySem.W.kitOne (L2.KOf KX) (.ref a_BadText) (.type "BaseException")=some true)/\(PySem.W.typeIn (L2.KOf KX) (.ref a_BadText)=some (.type "type"))/\(PySem.W.subIn (L2.KOf KX) (.ref a_BadText) (.ref a_BadText)=some true)/\(PySem.W.kitOne (L2.KOf KX) (.ref a_BadPlan) (.ref a_BadText)=some false)/\((PySem.Value.ref a_BadPlan == PySem.Value.ref a_BadText)=false)/\(PySem.W.keepIn (L2.KOf KX) (.ref a_BadText)=true)/\(PySem.W.specialIn (L2.KOf KX) (.ref a_BoxError) "__getattribute__" = some (some (.builtin "type.__getattribute__")))/\(PySem.W.readsIn (L2.KOf KX) a_BoxError (.type "type")=true)/\(PySem.W.findCls (L2.KOf KX) (.ref a_BoxError) (.type "type") "__init__" = some (.val (.builtin "ValueError.__init__")))/\((PySem.Value.ref a_BadOpenings == PySem.Value.ref a_BadText)=false)/\((PySem.Value.ref a_BadOrder == PySem.Value.ref a_BadText)=false)/\(L2.L3.ExIn (L2.KOf KX) a_BadText L2.L3.bmV "ValueError.__new__")/\(L2.L3.RowCls (L2.KOf KX) a_BadText)/\(L2.L3.BtFi (L2.KOf KX) a_BadText K52.qP):=by
   dsimp only[L2.KOf]
   refine' K52.big_mk ?q_n_BadOpenings ?q_n_BadOrder ?q_n_BadPlan ?q_n_BadText ?q_n_BoxError ?q_o_BadOrder ?q_g1_BadOrder ?q_g2_BadOrder ?q_g3_BadOrder ?q_g4_BadOrder ?q_g5_BadOrder ?q_g6_BadOrder ?q_o_BadOpenings ?q_g1_BadOpenings ?q_g2_BadOpenings ?q_g3_BadOpenings ?q_g4_BadOpenings ?q_g5_BadOpenings ?q_g6_BadOpenings ?q_o_BadPlan ?q_g1_BadPlan ?q_g2_BadPlan ?q_g3_BadPlan ?q_g4_BadPlan ?q_g5_BadPlan ?q_g6_BadPlan ?q_g1_BadText ?q_g2_BadText ?q_g3_BadText ?q_g4_BadText ?q_g5_BadText ?q_g6_BadText ?q_b_BadOpenings ?q_m_BadOpenings ?q_s_BadOpenings ?q_b_BadOrder ?q_m_BadOrder ?q_s_BadOrder ?q_b_BadPlan ?q_m_BadPlan ?q_s_BadPlan ?q_b_BadText ?q_m_BadText ?q_s_BadText ?q_nk_BadPlan_BadText ?q_nd_BadPlan_BadText ?q_bl ?q_bo ?q_bs ?q_bc ?q_bu ?q_br ?q_bi ?q_bf ?q_bg ?q_bh ?q_bk ?q_bb ?q_bt_kp ?q_bb1 ?q_bb2 ?q_bb3 ?q_bn_BadOpenings ?q_bn_BadOrder
   (case q_n_BadOpenings=>k_is)
   (case q_n_BadOrder=>k_is)
   (case q_n_BadPlan=>k_is)
   (case q_n_BadText=>k_is)
   (case q_n_BoxError=>k_is)
   (case q_o_BadOrder=>k_exc)
   (case q_g1_BadOrder=>k_is)
   (case q_g2_BadOrder=>k_is)
   (case q_g3_BadOrder=>k_is)
   (case q_g4_BadOrder=>kit_is)
   (case q_g5_BadOrder=>kit_is)
   (case q_g6_BadOrder=>first | k_is | rfl | decide +kernel)
   (case q_o_BadOpenings=>k_exc)
   (case q_g1_BadOpenings=>k_is)
   (case q_g2_BadOpenings=>k_is)
   (case q_g3_BadOpenings=>k_is)
   (case q_g4_BadOpenings=>kit_is)
   (case q_g5_BadOpenings=>kit_is)
   (case q_g6_BadOpenings=>first | k_is | rfl | decide +kernel)
   (case q_o_BadPlan=>k_exc)
   (case q_g1_BadPlan=>k_is)
   (case q_g2_BadPlan=>k_is)
   (case q_g3_BadPlan=>k_is)
   (case q_g4_BadPlan=>kit_is)
   (case q_g5_BadPlan=>kit_is)
   (case q_g6_BadPlan=>first | k_is | rfl | decide +kernel)
   (case q_g1_BadText=>k_is)
   (case q_g2_BadText=>k_is)
   (case q_g3_BadText=>k_is)
   (case q_g4_BadText=>kit_is)
   (case q_g5_BadText=>kit_is)
   (case q_g6_BadText=>first | k_is | rfl | decide +kernel)
   (case q_b_BadOpenings=>kit_is)
   (case q_m_BadOpenings=>k_is)
   (case q_s_BadOpenings=>k_is)
   (case q_b_BadOrder=>kit_is)
   (case q_m_BadOrder=>k_is)
   (case q_s_BadOrder=>k_is)
   (case q_b_BadPlan=>kit_is)
   (case q_m_BadPlan=>k_is)
   (case q_s_BadPlan=>k_is)
   (case q_b_BadText=>kit_is)
   (case q_m_BadText=>k_is)
   (case q_s_BadText=>k_is)
   (case q_nk_BadPlan_BadText=>kit_is)
   (case q_nd_BadPlan_BadText=>decide)
   (case q_bl=>k_is)
   (case q_bo=>k_exc)
   (case q_bs=>k_is)
   (case q_bc=>k_is)
   (case q_bu=>rfl)
   (case q_br=>k_is)
   (case q_bi=>k_is)
   (case q_bf=>k_is)
   (case q_bg=>k_is)
   (case q_bh=>k_is)
   (case q_bk=>k_is)
   (case q_bb=>intro _ _ _ _ _ _;refine L2.L3.ls2 ?_;exact fun _ _=>rfl)
   (case q_bt_kp=>k_is)
   (case q_bb1=>k_is)
   (case q_bb2=>k_is)
   (case q_bb3=>k_is)
   (case q_bn_BadOpenings=>decide)
   (case q_bn_BadOrder=>decide)
  obtain⟨a_BadOpenings,a_BadOrder,a_BadPlan,a_BadText,a_BoxError,n_BadOpenings,n_BadOrder,n_BadPlan,n_BadText,n_BoxError,o_BadOrder,g1_BadOrder,g2_BadOrder,g3_BadOrder,g4_BadOrder,g5_BadOrder,g6_BadOrder,o_BadOpenings,g1_BadOpenings,g2_BadOpenings,g3_BadOpenings,g4_BadOpenings,g5_BadOpenings,g6_BadOpenings,o_BadPlan,g1_BadPlan,g2_BadPlan,g3_BadPlan,g4_BadPlan,g5_BadPlan,g6_BadPlan,g1_BadText,g2_BadText,g3_BadText,g4_BadText,g5_BadText,g6_BadText,b_BadOpenings,m_BadOpenings,s_BadOpenings,b_BadOrder,m_BadOrder,s_BadOrder,b_BadPlan,m_BadPlan,s_BadPlan,b_BadText,m_BadText,s_BadText,nk_BadPlan_BadText,nd_BadPlan_BadText,bt_kp,bb1,bb2,bb3,bn_BadOpenings,bn_BadOrder,bt_ex,bt_rc,bt_fi⟩:=BIG
  have e_BadOpenings:L2.L3.CN.ad "BadOpenings" = a_BadOpenings:=L2.L3.zN5 n_BadOpenings
  have e_BadOrder:L2.L3.CN.ad "BadOrder" = a_BadOrder:=L2.L3.zN5 n_BadOrder
  have e_BadPlan:L2.L3.CN.ad "BadPlan" = a_BadPlan:=L2.L3.zN5 n_BadPlan
  have e_BadText:L2.L3.CN.ad "BadText" = a_BadText:=L2.L3.zN5 n_BadText
  have e_BoxError:L2.L3.CN.ad "BoxError" = a_BoxError:=L2.L3.zN5 n_BoxError
  have k_BadOrder:PySem.ExK (L2.KOf KX) (L2.L3.CN.ad "BadOrder"):=by rw[e_BadOrder];exact⟨g1_BadOrder,g2_BadOrder,g3_BadOrder,L2.L3.wL g4_BadOrder,L2.L3.wL g5_BadOrder,g6_BadOrder⟩
  have k_BadOpenings:PySem.ExK (L2.KOf KX) (L2.L3.CN.ad "BadOpenings"):=by rw[e_BadOpenings];exact⟨g1_BadOpenings,g2_BadOpenings,g3_BadOpenings,L2.L3.wL g4_BadOpenings,L2.L3.wL g5_BadOpenings,g6_BadOpenings⟩
  have k_BadPlan:PySem.ExK (L2.KOf KX) (L2.L3.CN.ad "BadPlan"):=by rw[e_BadPlan];exact⟨g1_BadPlan,g2_BadPlan,g3_BadPlan,L2.L3.wL g4_BadPlan,L2.L3.wL g5_BadPlan,g6_BadPlan⟩
  have k_BadText:PySem.ExK (L2.KOf KX) (L2.L3.CN.ad "BadText"):=by rw[e_BadText];exact⟨g1_BadText,g2_BadText,g3_BadText,L2.L3.wL g4_BadText,L2.L3.wL g5_BadText,g6_BadText⟩
  have T:K52.Txt (L2.KOf KX) mg:=by
   dsimp only[L2.KOf]
   refine' ⟨Bm KX G ?z0,Bm KX G ?z1,Bm KX G ?z2,Bm KX G ?z3,Bm KX G ?z4,Bm KX G ?z5,Bm KX G ?z6,Bm KX G ?z7,Bm KX G ?z8,Bm KX G ?z9,Bm KX G ?z10,⟨_,Cb KX G ?y0,?x0⟩,⟨_,Cb KX G ?y1,?x1⟩,⟨_,Cb KX G ?y2,?x2⟩,D_is_order,D_ring_from,D_rings_of,D_order_by,D_made_openings,D_openings_of_a_plan,D_made_tree,D_made_plan,D_check_boxes,D_boxes_down,D_finders_by,D_numbers_text,D_read_number,D_read_numbers,D_ring_text,D_order_text,D_read_order,D_tree_text,D_plan_text,D_read_openings,D_behind_sign,D_read_tree,D_read_person,D_read_plan,D_l_cell_at,D_l_order,D_l_many,D_l_all,D_l_taken,D_l_tree,D_l_plan,D_l_read_order,D_l_read_plan,D_l_text_by,D_l_drawn_right,(let ⟨f,fd,h,_⟩:=D_law; ⟨f,fd,h⟩),?xa0,?xa1,?xa2,?xa3,?xa4,?xb0,?xb1,?xb2,?xe0,?xf0,?xe1,?xf1,?xe2,?xf2,?xe3,?xf3,?xg0,?pbt_ex,?pbt_fi,?pbt_kp,?pbt_bi,?pbt_rc,?neBadOpenings,?neBadOrder⟩
   (case z0=>k_is)
   (case z1=>k_is)
   (case z2=>k_is)
   (case z3=>k_is)
   (case z4=>k_is)
   (case z5=>k_is)
   (case z6=>k_is)
   (case z7=>k_is)
   (case z8=>k_is)
   (case z9=>k_is)
   (case z10=>k_is)
   (case y0=>k_is); (case x0=>exact⟨_,rfl⟩)
   (case y1=>k_is); (case x1=>exact⟨_,rfl⟩)
   (case y2=>k_is); (case x2=>exact⟨_,rfl⟩)
   (case xa0=>rw[e_BadOpenings];exact Cb KX G n_BadOpenings)
   (case xa1=>rw[e_BadOrder];exact Cb KX G n_BadOrder)
   (case xa2=>rw[e_BadPlan];exact Cb KX G n_BadPlan)
   (case xa3=>rw[e_BadText];exact Cb KX G n_BadText)
   (case xa4=>rw[e_BoxError];exact Cb KX G n_BoxError)
   (case xb0=>unfold L2.L3.OwnX;rw[e_BadOpenings];exact o_BadOpenings)
   (case xb1=>unfold L2.L3.OwnX;rw[e_BadOrder];exact o_BadOrder)
   (case xb2=>unfold L2.L3.OwnX;rw[e_BadPlan];exact o_BadPlan)
   (case xe0=>exact L2.L3.zE6 (Cl.2 ⟨by rw[e_BadOpenings];exact L2.L3.kZ g6_BadOpenings m_BadOpenings s_BadOpenings,(fun _ h=>nomatch h)⟩))
   (case xf0=>rw[e_BadOpenings];exact L2.L3.wL b_BadOpenings)
   (case xe1=>exact L2.L3.zE6 (Cl.2 ⟨by rw[e_BadOrder];exact L2.L3.kZ g6_BadOrder m_BadOrder s_BadOrder,(fun _ h=>nomatch h)⟩))
   (case xf1=>rw[e_BadOrder];exact L2.L3.wL b_BadOrder)
   (case xe2=>exact L2.L3.zE6 (Cl.2 ⟨by rw[e_BadPlan];exact L2.L3.kZ g6_BadPlan m_BadPlan s_BadPlan,(fun _ h=>nomatch h)⟩))
   (case xf2=>rw[e_BadPlan];exact L2.L3.wL b_BadPlan)
   (case xe3=>exact L2.L3.zE6 (Cl.2 ⟨by rw[e_BadText];exact L2.L3.kZ g6_BadText m_BadText s_BadText,(fun _ h=>nomatch h)⟩))
   (case xf3=>rw[e_BadText];exact L2.L3.wL b_BadText)
   (case xg0=>exact L2.L3.xA1 (Cl.2 ⟨by rw[e_BadPlan,e_BadText];exact L2.L3.zG6 nk_BadPlan_BadText nd_BadPlan_BadText,(fun _ h=>nomatch h)⟩))
   (case pbt_ex=>rw[e_BadText];exact bt_ex)
   (case pbt_fi=>rw[e_BadText];exact bt_fi)
   (case pbt_kp=>rw[e_BadText];exact bt_kp)
   (case pbt_bi=>rw[e_BoxError];exact⟨bb1,bb2,bb3⟩)
   (case pbt_rc=>rw[e_BadText];exact bt_rc)
   (case neBadOpenings=>intro c hc z;have hc2:=Bi.mp hc;rw[Bl] at hc2;subst hc2;rw[e_BadOpenings,e_BadText] at z;rw[z,beq_self_eq_true] at bn_BadOpenings;cases bn_BadOpenings)
   (case neBadOrder=>intro c hc z;have hc2:=Bi.mp hc;rw[Bl] at hc2;subst hc2;rw[e_BadOrder,e_BadText] at z;rw[z,beq_self_eq_true] at bn_BadOrder;cases bn_BadOrder)
  obtain⟨fl,fdl,HL,HB⟩:=D_law
  have e0:=hmg.symm.trans HL.m
  cases e0
  exact⟨fdl,HB,fun base kb nb=>K52.xE8 T HL⟩
