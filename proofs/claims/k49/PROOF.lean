import PyProof.Rows.All
import Wide.All
import OpenK.AllK
import Wide.FinOn
import Lean
import PyProof.EqAt
import PyProof.EqKinds
import PyProof.TupleCall
import KE.KIntText
import PyProof.Rows.Range3
import PyProof.ListRange
import PyProof.TupleOfGen
import KE.KRevIter
import PyProof.Draws
import PyProof.EnumMake
import PyProof.CollectIter
import PyProof.RangeFor
import PyProof.ZipIter
import PyProof.InstStoreFacts
import PyProof.StrWalks
import PyProof.StrBlock2
import PySem.Challenge.RW_ownboxes_k49_texts_of_no_order
set_option compiler.extract_closed false
theorem kH (_h : True := by first | exact .inl rfl | exact .inr rfl | assumption) : True := trivial
theorem zO (_h : True := by decide) : True := trivial
theorem xG (_h : True := by intro _; rfl) : True := trivial
theorem zZ (_h : True := by rfl) : True := trivial
theorem yU4 (_h : True := by with_unfolding_all rfl) : True := trivial
theorem qP (_h : True := by first | exact Or.inl rfl | exact Or.inr (Or.inl rfl) | exact Or.inr (Or.inr rfl)) : True := trivial
theorem xX5 (_h : True := by exact fun _ _ => rfl) : True := trivial
theorem zH5 (_h : True := by first | exact nomark _ | rfl) : True := trivial
theorem kG (_h : True := by first | exact Or.inl rfl | exact Or.inr rfl) : True := trivial
theorem autoK12 (_h : True := by first | exact .inl rfl | exact .inr rfl) : True := trivial
theorem autoK13 (_h : True := by exact PassesOwn.never) : True := trivial
theorem autoK14 (_h : True := by decide +kernel) : True := trivial
local macro_rules | `(tactic| bv_omega) => `(tactic| first | lia | omega)
set_option Elab.async false
set_option linter.all false
set_option maxRecDepth 100000
set_option maxHeartbeats 4000000
noncomputable section
abbrev KFr := PySem.W.Frag
namespace L2
open PySem PySem.Spec PyProof.Rows
abbrev Key := Sum Int Str
def keyIs : Key -> Value -> Bool
 | .inl k, v => Value.isInt k v
 | .inr x, v => Value.isStrOf x v
def keyH (w : World) : Key -> Int
 | .inl k => hashInt k
 | .inr x => hashStr w x
theorem yB : ∀ {k : Key} {v : Value}, keyIs k v = true -> (∃ i t, k = Sum.inl i /\ v = Value.int i t) \/ (∃ x t, k = Sum.inr x /\ v = Value.str x t)
 | .inl i, v, h => by
  obtain ⟨t, e⟩ := Value.isInt_shape (k := i) (v := v) h
  exact .inl ⟨i, t, rfl, e⟩
 | .inr x, v, h => by
  obtain ⟨t, e⟩ := Value.isStrOf_shape (x := x) (v := v) h
  exact .inr ⟨x, t, rfl, e⟩
theorem yB1 (a b : Int) : decide ((Sum.inl a : Key) = Sum.inl b) = (a == b) := by
 by_cases e : a = b
 ·subst e; simp
 ·have h : ¬ (Sum.inl a : Key) = Sum.inl b := fun q => e (Sum.inl.inj q)
  rw [decide_eq_false h]
  exact (beq_eq_false_iff_ne.mpr e).symm
theorem yA8 (a b : Str) : decide ((Sum.inr a : Key) = Sum.inr b) = decide (a = b) := by
 by_cases e : a = b
 ·subst e; simp
 ·have h : ¬ (Sum.inr a : Key) = Sum.inr b := fun q => e (Sum.inr.inj q)
  rw [decide_eq_false h, decide_eq_false e]
theorem yG4 (a : Int) (b : Str) : decide ((Sum.inl a : Key) = Sum.inr b) = false := decide_eq_false (fun q => nomatch q)
theorem yE8 (a : Str) (b : Int) : decide ((Sum.inr a : Key) = Sum.inl b) = false := decide_eq_false (fun q => nomatch q)
def mixKind (prog : Program) (w : World) : PySem.KeyKind prog w Key where
 is := keyIs
 hash := keyH w
 inj := fun v a b ha hb => by
  rcases yB ha with ⟨i, t, rfl, rfl⟩ | ⟨x, t, rfl, rfl⟩
  ·rcases yB hb with ⟨j, u, rfl, e⟩ | ⟨y, u, rfl, e⟩
   ·injection e with e1 _; rw [e1]
   ·exact nomatch e
  ·rcases yB hb with ⟨j, u, rfl, e⟩ | ⟨y, u, rfl, e⟩
   ·exact nomatch e
   ·injection e with e1 _; rw [e1]
 byValue := fun k v h => by
  rcases yB h with ⟨i, t, rfl, rfl⟩ | ⟨x, t, rfl, rfl⟩ <;> rfl
 pyHash := fun hv h => by
  rcases yB hv with ⟨i, t, rfl, rfl⟩ | ⟨x, t, rfl, rfl⟩
  ·exact wpAny_pyHash_int h
  ·exact wpAny_pyHash_str h
 eqBool := fun hu hv h => by
  rcases yB hu with ⟨i, t, rfl, rfl⟩ | ⟨x, t, rfl, rfl⟩
  ·rcases yB hv with ⟨j, u, rfl, rfl⟩ | ⟨y, u, rfl, rfl⟩
   ·rw [yB1] at h; exact wpAny_eqBool_int h
   ·rw [yG4] at h; exact SeqAt.EqAt.int_str i t y u _ _ _ _ h
  ·rcases yB hv with ⟨j, u, rfl, rfl⟩ | ⟨y, u, rfl, rfl⟩
   ·rw [yE8] at h; exact SeqAt.EqAt.str_int x t j u _ _ _ _ h
   ·rw [yA8] at h; exact wpAny_eqBool_str h
 «strs» := fun k x t v h => by
  rcases yB h with ⟨i, u, rfl, e⟩ | ⟨y, u, rfl, e⟩
  ·exact nomatch e
  ·injection e with e1 _
   subst e1
   cases v <;> rfl
inductive V where
 | non | bl (b : Bool) | int (i : Int) | str (x : Str) | byt (b : Array UInt8) | flt (b : UInt64) | ref (a : Addr) | ty (n : String)
 deriving DecidableEq
def RelV : V -> Value -> Prop
 | .non, u => u = Value.none
 | .bl b, u => u = Value.bool b
 | .int i, u => ∃ t, u = Value.int i t
 | .str x, u => ∃ t, u = Value.str x t
 | .byt b, u => ∃ t, u = Value.bytes b t
 | .flt b, u => ∃ t, u = Value.float b t
 | .ref a, u => u = Value.ref a
 | .ty n, u => u = Value.type n
abbrev Vals : List V -> List Value -> Prop := Paired RelV
theorem Vals.length {xs : List V} {us : List Value} (r : Vals xs us) : xs.length = us.length := Paired.length r
theorem Vals.get : ∀ {xs : List V} {us : List Value} {i : Nat} {x : V}, Vals xs us -> xs[i]? = some x -> ∃ u, us[i]? = some u /\ RelV x u
 | _, _, _, _, .nil, e => by simp at e
 | _, _, 0, _, .cons r _, e => by simp at e; subst e; exact ⟨_, rfl, r⟩
 | _, _, i + 1, x, .cons _ t, e => by
  obtain ⟨u, h1, h2⟩ := Vals.get (i := i) (x := x) t (by simpa using e)
  exact ⟨u, by simpa using h1, h2⟩
theorem Vals.set {x : V} {u : Value} (r : RelV x u) : ∀ {xs : List V} {us : List Value} (i : Nat), Vals xs us -> Vals (xs.set i x) (us.set i u)
 | _, _, _, .nil => .nil
 | _, _, 0, .cons _ t => .cons r t
 | _, _, i + 1, .cons q t => .cons q (Vals.set r i t)
theorem Vals.append : ∀ {xs ys : List V} {us ws : List Value}, Vals xs us -> Vals ys ws -> Vals (xs ++ ys) (us ++ ws)
 | _, _, _, _, .nil, s => s
 | _, _, _, _, .cons r t, s => .cons r (Vals.append t s)
theorem Vals.take : ∀ {xs : List V} {us : List Value} (n : Nat), Vals xs us -> Vals (xs.take n) (us.take n)
 | _, _, 0, _ => .nil
 | _, _, _ + 1, .nil => .nil
 | _, _, n + 1, .cons r t => .cons r (Vals.take n t)
theorem Vals.drop : ∀ {xs : List V} {us : List Value} (n : Nat), Vals xs us -> Vals (xs.drop n) (us.drop n)
 | _, _, 0, r => r
 | _, _, _ + 1, .nil => .nil
 | _, _, n + 1, .cons _ t => Vals.drop n t
def RelO : Option V -> Option Value -> Prop
 | some v, some u => RelV v u
 | none, none => True
 | _, _ => False
def KV {κ : Type} : List (κ × V) -> List (κ × Value) -> Prop := Paired fun (p : κ × V) (q : κ × Value) => p.1 = q.1 /\ RelV p.2 q.2
def kV : Key -> V
 | .inl i => .int i
 | .inr x => .str x
inductive HO where
 | lst (xs : List V)
 | tup (xs : List V)
 | dK (kvs : List (Key × V)) | dT (kvs : List (List Key × V))
 | set (S : Int -> Bool) (n : Nat)
 | ins (C dx : Addr) (fs : List (Str × V))
 | own (x : Addr)
 | xd (fs : List (Str × V))
 | met (f x : Addr)
 | rng (lo hi : Int)
 | frz (o : Obj) (u : HO)
 | tbl (ps : Array Value)
 | ext (φ : Heap -> Prop)
abbrev Hp := Addr -> Option HO
def upd (H : Hp) (a : Addr) (o : HO) : Hp := fun b => if b = a then some o else H b
theorem zJ {H : Hp} {a : Addr} {o : HO} : upd H a o a = some o := by unfold upd; rw [if_pos rfl]
theorem zM {H : Hp} {a b : Addr} {o : HO} (h : b ≠ a) : upd H a o b = H b := by unfold upd; rw [if_neg h]
theorem zK4 {H : Hp} {a : Addr} {o u : HO} : upd (upd H a o) a u = upd H a u := by
 funext b; unfold upd; split <;> rfl
theorem yL {H : Hp} {a b : Addr} {o : HO} (h : H a = some o) (h' : H b = none) : a ≠ b := by
 intro e; subst e; rw [h] at h'; cases h'
def TupAt (h : Heap) (a : Addr) (its : Array Value) : Prop := ∃ o, h.get? a = some o /\ o.cls = .type "tuple" /\ (∃ n, o.data = .seq its n) /\ o.dict = none
theorem TupAt.tup {h : Heap} {a : Addr} {its : Array Value} (x : TupAt h a its) : IsTup h a its := by
 obtain ⟨o, e, c, d, _⟩ := x
 exact ⟨o, e, c, d⟩
theorem TupAt.new (h : Heap) (its : Array Value) : TupAt (h.push { cls := .type "tuple", data := .seq its }) h.objs.size its := ⟨_, Heap.get?_push_size _ rfl, rfl, ⟨_, rfl⟩, rfl⟩
section
variable (P : Program) (w : World)
def ObjOk (H : Hp) (h : Heap) (a : Addr) : HO -> Prop
 | .lst xs => xs.length <= sizeLine /\ ∃ (its : List Value) (n : Nat), Vals xs its /\ h.get? a = some { cls := .type "list", data := .seq its.toArray n }
 | .tup xs => xs.length <= sizeLine /\ ∃ its : List Value, Vals xs its /\ TupAt h a its.toArray
 | .dK kvs => kvs.length <= sizeLine /\ (a == sysModules) = false /\ ∃ vs, KV kvs vs /\ h.DictOf (mixKind P w) a vs
 | .dT kvs => kvs.length <= sizeLine /\ (a == sysModules) = false /\ ∃ xs : List (List Key × Addr × Value),
   Paired (fun (p : List Key × V) (q : List Key × Addr × Value) => p.1 = q.1 /\ H q.2.1 = some (.tup (p.1.map kV)) /\ RelV p.2 q.2.2) kvs xs /\
   ∃ o es ep, h.get? a = some o /\ o.ExactDict /\ o.data = .dict es ep /\ es.toList = xs.map (entryOfKey (tupleKind (mixKind P w))) /\ (xs.map (·.1)).Nodup
 | .set S n => h.SetOf (intKind P w) a S n
 | .ins C dx fs => H dx = some (.own a) /\ fs.length <= 1000 /\ dx ≠ a /\ h.get? a = some (PySem.W.instObj C dx) /\
   ∃ mA, h.Ns1 dx mA /\ (∀ f, RelO (fs.lookup f) (mA f)) /\ PySem.Within mA (fs.map (·.1))
 | .own _ => ∃ o, h.get? a = some o
 | .xd fs => ∃ mA, h.Ns1 a mA /\ ∀ f, RelO (fs.lookup f) (mA f)
 | .rng lo hi => ∃ t u v, h.get? a = some { cls := .type "range", data := .fields #[.int lo t, .int hi u, .int 1 v] }
 | .frz o u => h.get? a = some o /\ ObjOk H h a u
 | .tbl ps => h.get? a = some { cls := .none, data := .fields ps }
 | .met f x => h.get? a = some (PySem.W.methodObj (.ref f) (.ref x))
 | .ext φ => φ h /\ (∃ o, h.get? a = some o) /\ ∀ h1 h2 : Heap, φ h1 -> (∀ o, h1.get? a = some o -> h2.get? a = some o) -> φ h2
def HOk (H : Hp) (h : Heap) : Prop := ∀ a o, H a = some o -> ObjOk P w H h a o
end
section
variable {P : Program} {w : World} {H H' : Hp} {h h' : Heap} {a : Addr} {o : HO}
theorem ObjOk.lt (x : ObjOk P w H h a o) : a < h.objs.size := by
 cases o with
 | lst xs => obtain ⟨_, _, _, _, e⟩ := x; exact Heap.lt_size e
 | tup xs => obtain ⟨_, _, _, p⟩ := x; exact p.tup.lt
 | dK kvs => obtain ⟨_, _, _, _, o, _, _, e, _⟩ := x; exact Heap.lt_size e
 | dT kvs => obtain ⟨_, _, _, _, o, _, _, e, _⟩ := x; exact Heap.lt_size e
 | set S n => obtain ⟨o, _, _, _, e, _⟩ := x; exact Heap.lt_size e
 | ins C dx fs => obtain ⟨_, _, _, e, _⟩ := x; exact Heap.lt_size e
 | own y => obtain ⟨_, e⟩ := x; exact Heap.lt_size e
 | xd fs => obtain ⟨_, ⟨_, _, _, e, _⟩, _⟩ := x; exact Heap.lt_size e
 | rng lo hi => obtain ⟨_, _, _, e⟩ := x; exact Heap.lt_size e
 | frz ob u => obtain ⟨e, _⟩ := x; exact Heap.lt_size e
 | tbl ps => exact Heap.lt_size (show h.get? a = some _ from x)
 | met f y => exact Heap.lt_size (show h.get? a = some _ from x)
 | ext φ => obtain ⟨_, ⟨_, e⟩, _⟩ := x; exact Heap.lt_size e
theorem Paired.mapP {α β : Type} {F G : α -> β -> Prop} : ∀ {l₁ : List α} {l₂ : List β}, Paired F l₁ l₂ -> (∀ a b, F a b -> G a b) -> Paired G l₁ l₂
 | _, _, .nil, _ => .nil
 | _, _, .cons r t, f => .cons (f _ _ r) (Paired.mapP t f)
theorem ObjOk.stay (x : ObjOk P w H h a o) (k : ∀ b u, (b = a \/ H b = some (.own a)) -> h.get? b = some u -> h'.get? b = some u)
  (ho : ∀ b, H b = some (.own a) -> H' b = some (.own a)) (ht : ∀ b xs, H b = some (.tup xs) -> H' b = some (.tup xs)) : ObjOk P w H' h' a o := by
 induction o with
 | lst xs => obtain ⟨z, its, n, r, e⟩ := x; exact ⟨z, its, n, r, k _ _ (.inl rfl) e⟩
 | tup xs => obtain ⟨z, its, r, ob, e, c⟩ := x; exact ⟨z, its, r, ob, k _ _ (.inl rfl) e, c⟩
 | dK kvs => obtain ⟨z, y, vs, r, ob, es, ep, e, c⟩ := x; exact ⟨z, y, vs, r, ob, es, ep, k _ _ (.inl rfl) e, c⟩
 | dT kvs =>
  obtain ⟨z, y, xs, r, ob, es, ep, e, c⟩ := x
  exact ⟨z, y, xs, Paired.mapP r fun p q z => ⟨z.1, ht _ _ z.2.1, z.2.2⟩, ob, es, ep, k _ _ (.inl rfl) e, c⟩
 | set S n => obtain ⟨ob, es, ep, t, e, c⟩ := x; exact ⟨ob, es, ep, t, k _ _ (.inl rfl) e, c⟩
 | ins C dx fs =>
  obtain ⟨d, z, ne, e, mA, ⟨od, es, ep, e2, c⟩, r⟩ := x
  exact ⟨ho _ d, z, ne, k _ _ (.inl rfl) e, mA, ⟨od, es, ep, k _ _ (.inr d) e2, c⟩, r⟩
 | own y => obtain ⟨ob, e⟩ := x; exact ⟨ob, k _ _ (.inl rfl) e⟩
 | xd fs => obtain ⟨mA, ⟨od, es, ep, e, c⟩, r⟩ := x; exact ⟨mA, ⟨od, es, ep, k _ _ (.inl rfl) e, c⟩, r⟩
 | rng lo hi => obtain ⟨t, u, v, e⟩ := x; exact ⟨t, u, v, k _ _ (.inl rfl) e⟩
 | frz ob u ih => obtain ⟨e, q⟩ := x; exact ⟨k _ _ (.inl rfl) e, ih q⟩
 | tbl ps =>
  have e : h.get? a = some { cls := .none, data := .fields ps } := x
  show h'.get? a = some { cls := .none, data := .fields ps }
  exact k a _ (.inl rfl) e
 | met f y =>
  have e : h.get? a = some (PySem.W.methodObj (.ref f) (.ref y)) := x
  show h'.get? a = some (PySem.W.methodObj (.ref f) (.ref y))
  exact k a _ (.inl rfl) e
 | ext φ => obtain ⟨p, ⟨o, e⟩, st⟩ := x; exact ⟨st _ _ p fun o q => k _ _ (.inl rfl) q, ⟨o, k _ _ (.inl rfl) e⟩, st⟩
theorem HOk.lt (x : HOk P w H h) (e : H a = some o) : a < h.objs.size := (x a o e).lt
theorem HOk.fresh (x : HOk P w H h) (e : h.objs.size <= a) : H a = none := by
 cases q : H a with
 | none => rfl
 | some u => exact absurd (Nat.lt_of_lt_of_le (x.lt q) e) (Nat.lt_irrefl _)
theorem HOk.kept (x : HOk P w H h) (k : ∀ b u, h.get? b = some u -> h'.get? b = some u) : HOk P w H h' := fun a o e =>
 (x a o e).stay (fun b u _ q => k b u q) (fun _ q => q) fun _ _ q => q
theorem HOk.laid (x : HOk P w H h) (k : ∀ b u, h.get? b = some u -> h'.get? b = some u) (hp : h.objs.size <= a) (new : ObjOk P w (upd H a o) h' a o) : HOk P w (upd H a o) h' := fun b u e => by
 have hn := x.fresh hp
 by_cases hb : b = a
 ·subst hb; rw [zJ] at e; cases e; exact new
 ·rw [zM hb] at e
  exact (x b u e).stay (fun c v _ q => k c v q) (fun c q => by rw [zM (yL q hn)]; exact q) fun c xs q => by rw [zM (yL q hn)]; exact q
end
def Rd (H : Hp) (a : Addr) (u : HO) : Prop := H a = some u \/ ∃ o, H a = some (.frz o u)
theorem Rd.ok {P : Program} {w : World} {H : Hp} {h : Heap} {a : Addr} {u : HO} (r : Rd H a u) (x : HOk P w H h) : ObjOk P w H h a u := by
 rcases r with r | ⟨o, r⟩
 ·exact x a u r
 ·obtain ⟨_, q⟩ := x a _ r
  exact q
def Mut : Option HO -> Prop
 | some (.lst _) => True
 | some (.dK _) => True
 | some (.dT _) => True
 | some (.set _ _) => True
 | some (.ins _ _ _) => True
 | some (.ext _) => True
 | _ => False
section
variable {P : Program} {w : World} {H : Hp} {h h' : Heap} {x e : Addr} {o' : HO}
theorem HOk.write (ok : HOk P w H h) (mu : Mut (H x)) (he : e = x \/ H e = some (.own x)) (k : ∀ b u, b ≠ e -> h.get? b = some u -> h'.get? b = some u) (heo : ∃ u, h'.get? e = some u)
  (new : ObjOk P w (upd H x o') h' x o') : HOk P w (upd H x o') h' := fun b u q => by
 have nown : ∀ c y, H c = some (.own y) -> c ≠ x := fun c y r z => by subst z; rw [r] at mu; exact mu
 have ntup : ∀ c xs, H c = some (.tup xs) -> c ≠ x := fun c xs r z => by subst z; rw [r] at mu; exact mu
 by_cases hb : b = x
 ·subst hb; rw [zJ] at q; cases q; exact new
 ·rw [zM hb] at q
  by_cases hbe : b = e
  ·have q' : H b = some (.own x) := by
    rcases he with z | z
    ·exact absurd (hbe.trans z) hb
    ·rw [hbe]; exact z
   rw [q] at q'; cases q'
   obtain ⟨v, hv⟩ := heo
   exact ⟨v, by rw [hbe]; exact hv⟩
  ·refine (ok b u q).stay (fun c v hc r => k c v ?_ r) (fun c r => by rw [zM (nown c b r)]; exact r) fun c xs r => by rw [zM (ntup c xs r)]; exact r
   rcases hc with rfl | hc
   ·exact hbe
   ·rintro rfl
    rcases he with z | z
    ·exact nown c b hc z
    ·rw [hc] at z; cases z; exact hb rfl
end
structure Un (fs ex : List Addr) (H H' : Hp) (h h' : Heap) : Prop where
 keep : ∀ b o, h.get? b = some o -> H b = none -> b ∉ fs -> b ∉ ex -> h'.get? b = some o
 slot : ∀ b o, h.get? b = some o -> H b = none -> b ∈ fs -> b ∉ ex -> ∃ sl, h'.get? b = some { o with slots := sl }
 free : ∀ b o, h.get? b = some o -> H b = none -> b ∉ ex -> H' b = none
 there : ∀ b o, h.get? b = some o -> b ∉ ex -> ∃ o', h'.get? b = some o'
 tups : ∀ b xs, H b = some (.tup xs) -> H' b = some (.tup xs)
 frzs : ∀ b o u, H b = some (.frz o u) -> H' b = some (.frz o u)
 tbls : ∀ b ps, H b = some (.tbl ps) -> ∃ more, H' b = some (.tbl (ps ++ more))
section
variable {fs fs' ex ex' : List Addr} {H H1 H2 : Hp} {h h1 h2 h' : Heap} {a x e : Addr} {o : HO}
theorem Un.any (u : Un fs ex H H1 h h1) {b : Addr} {ob : Obj} (q : h.get? b = some ob) (n : H b = none) (hx : b ∉ ex) : ∃ sl, h1.get? b = some { ob with slots := sl } := by
 by_cases hb : b ∈ fs
 ·exact u.slot b ob q n hb hx
 ·exact ⟨ob.slots, u.keep b ob q n hb hx⟩
theorem Un.kept (k : ∀ b u, h.get? b = some u -> h'.get? b = some u) : Un fs ex H H h h' :=
 ⟨fun b ob q _ _ _ => k b ob q, fun b ob q _ _ _ => ⟨ob.slots, k b ob q⟩, fun _ _ _ n _ => n, fun b ob q _ => ⟨ob, k b ob q⟩, fun _ _ q => q, fun _ _ _ q => q, fun _ ps q => ⟨#[], by rw [q]; simp⟩⟩
theorem Un.refl : Un fs ex H H h h := Un.kept fun _ _ q => q
theorem Un.laid (k : ∀ b u, h.get? b = some u -> h'.get? b = some u) (hp : h.objs.size <= a) (hn : H a = none) : Un fs ex H (upd H a o) h h' where
 keep := fun b u q _ _ _ => k b u q
 slot := fun b u q _ _ _ => ⟨u.slots, k b u q⟩
 free := fun b u q n _ => by rw [zM (Nat.ne_of_lt (Nat.lt_of_lt_of_le (Heap.lt_size q) hp))]; exact n
 there := fun b u q _ => ⟨u, k b u q⟩
 tups := fun b xs q => by rw [zM (yL q hn)]; exact q
 frzs := fun b u xs q => by rw [zM (yL q hn)]; exact q
 tbls := fun b ps q => ⟨#[], by rw [zM (yL q hn), q]; simp⟩
theorem Un.write (mu : Mut (H x)) (he : e = x \/ H e = some (.own x)) (k : ∀ b u, b ≠ e -> h.get? b = some u -> h'.get? b = some u) (heo : ∃ u, h'.get? e = some u) : Un fs ex H (upd H x o) h h' := by
 have hx : ∀ b, H b = none -> b ≠ x := fun b n z => by subst z; rw [n] at mu; exact mu
 have hb : ∀ b, H b = none -> b ≠ e := fun b n z => by
  subst z
  rcases he with r | r
  ·exact hx b n r
  ·rw [n] at r; cases r
 have hm : ∀ b u, H b = some u -> ¬ Mut (some u) -> b ≠ x := fun b u q nm z => by subst z; rw [q] at mu; exact nm mu
 refine ⟨fun b u q n _ _ => k b u (hb b n) q, fun b u q n _ _ => ⟨u.slots, k b u (hb b n) q⟩, fun b u q n _ => by rw [zM (hx b n)]; exact n, fun b u q _ => ?_,
  fun b xs q => by rw [zM (hm b _ q fun z => z)]; exact q, fun b u xs q => by rw [zM (hm b _ q fun z => z)]; exact q, fun b ps q => ⟨#[], by rw [zM (hm b _ q fun z => z), q]; simp⟩⟩
 by_cases hbe : b = e
 ·subst hbe; exact heo
 ·exact ⟨u, k b u hbe q⟩
end
def trk (h : Heap) (H : Hp) : List Addr := (List.range h.objs.size).filter fun a => (H a).isSome
def hidT (h : Heap) (H : Hp) : Heap := PySem.W.hideAll h (trk h H)
theorem yZ7 (h : Heap) (H : Hp) : (hidT h H).objs.size = h.objs.size := PySem.W.hideAll_size _ _
theorem yQ6 {h : Heap} {H : Hp} {b : Addr} {o : Obj} (e : h.get? b = some o) (n : H b = none) : (hidT h H).get? b = some o :=
 PySem.W.hideAll_get _ e fun hm => by
  have q : (H b).isSome = true := (List.mem_filter.mp hm).2
  rw [n] at q; simp at q
theorem yJ6 {h : Heap} {H : Hp} {b : Addr} {o : Obj} (e : (hidT h H).get? b = some o) : h.get? b = some o /\ H b = none := by
 have e' : h.get? b = some o := PySem.W.of_hideAll (trk h H) e
 refine ⟨e', ?_⟩
 cases q : H b with
 | none => rfl
 | some x =>
  have hm : b ∈ trk h H := List.mem_filter.mpr ⟨List.mem_range.mpr (Heap.lt_size e'), by simp [q]⟩
  have z : (hidT h H).get? b = none := PySem.W.hideAll_none (trk h H) hm
  rw [z] at e; cases e
def allNews (g h : Heap) (L : Addr) : List (Addr × Obj) := (List.range h.objs.size).filterMap fun a => if a = L \/ (g.get? a).isSome = true then none else (h.get? a).map fun o => (a, o)
def rest (g h : Heap) (L d : Addr) : List (Addr × Obj) := (allNews g h L).filter fun p => decide (p.1 ≠ d)
structure Mod (K : KFr) (mg : Str -> Option Value) (base : Heap) : Prop where
 kin : K.In base
 glob : base.Ns mainGlobals mg
 blt : ∃ mb, base.Ns builtinsNs mb /\ ∀ x : Str, x ≠ "__name__" -> mb x = bootBuiltins x
 nolimit : base.NoLimit
structure Cx where
 prog : Program
 w : World
 K : KFr
 mg : Str -> Option Value
 base : Heap
 A : Around
 N : List Str
 s₀ : Shared
 H₀ : Hp
 env : Env
 outer : List Env
 stack : List Env
 ex : List Addr
 fn : Str -> Bool
 calm : Bool
 pn : List (Addr × Obj)
 xe : Value -> Shared -> Prop
def frs (l : List Env) : List Addr := l.filterMap (·.frame)
abbrev Cx.fs (X : Cx) : List Addr := frs X.outer
def Vis (sc : Scope) (x : Str) : Prop := sc.names.lookup x = some .local \/ sc.names.lookup x = some .cell \/ sc.names.lookup x = some .free
def Loc (sc : Scope) (x : Str) : Prop := sc.names.lookup x = some .local \/ sc.names.lookup x = some .cell
def Look (env : Env) (h : Heap) (m : Str -> Option Value) (x : Str) (u : Value) : Prop :=
 (env.kindOf x = some .local /\ m x = some u) \/ ((env.kindOf x = some .cell \/ env.kindOf x = some .free) /\ ∃ c, env.cells.lookup x = some c /\ h.IsCell c (some u))
structure Cx.Ok (X : Cx) : Prop where
 mod : Mod X.K X.mg X.base
 kind : X.env.scope.kind = .function
 glob : X.env.globals = mainGlobals
 blt : X.env.builtins = builtinsNs
 above : X.s₀.heap.objs.size <= X.env.locals
 inj : ∀ x y c, X.env.cells.lookup x = some c -> X.env.cells.lookup y = some c -> x = y
 has : ∀ x, (X.env.kindOf x = some .cell \/ X.env.kindOf x = some .free) -> ∃ c, X.env.cells.lookup x = some c
 cab : ∀ x c, X.fn x = true -> X.env.cells.lookup x = some c -> X.s₀.heap.objs.size <= c
 hd : X.calm = true -> X.A.handled = none
 frames : X.A.frames = some X.stack
 stk : X.stack = X.outer \/ (X.stack = X.env :: X.outer /\ X.env.frame = some X.env.locals)
 exf : ∀ b ∈ X.ex, b ≠ X.env.locals /\ ∀ x c, X.env.cells.lookup x = some c -> c ≠ b
 bs : ∀ b o, X.base.get? b = some o -> X.s₀.heap.get? b = some o /\ X.H₀ b = none
 bsz : X.base.objs.size <= X.s₀.heap.objs.size
 noex : ∀ b o, X.base.get? b = some o -> b ∉ X.ex
 exfs : ∀ b ∈ X.ex, b ∉ X.fs
 funs : X.s₀.heap.FunFrames X.base X.outer
 frf : ∀ b ∈ X.fs, X.H₀ b = none
structure Inv (X : Cx) (pins : List (Addr × Obj)) (σ : List (Option V)) (H : Hp) (s : Shared) : Prop where
 ok : X.Ok
 os : s.os = X.s₀.os
 bare : AllBare s.gens
 base : Un X.fs X.ex X.H₀ H X.s₀.heap s.heap
 loc : ∃ m, s.heap.Ns X.env.locals m /\ ∀ (i : Nat) (x : Str) (v : V), X.N[i]? = some x -> σ[i]? = some (some v) -> Vis X.env.scope x -> ∃ u, RelV v u /\ Look X.env s.heap m x u
 cell : ∀ x c, X.env.cells.lookup x = some c -> ∃ v, s.heap.IsCell c v
 free : H X.env.locals = none
 freeC : ∀ x c, X.env.cells.lookup x = some c -> H c = none
 pin : ∀ p ∈ X.pn ++ pins, s.heap.get? p.1 = some p.2 /\ H p.1 = none /\ p.1 ≠ X.env.locals /\ p.1 ∉ X.fs /\ ∀ v, p.2.data ≠ .cell v
 hok : HOk X.prog X.w H s.heap
 len : σ.length = X.N.length
section
variable {X : Cx} {pins : List (Addr × Obj)} {σ : List (Option V)} {H H' : Hp} {s : Shared} {h' : Heap}
theorem Cx.Ok.nofr (ok : X.Ok) {b : Addr} {o : Obj} (e : X.base.get? b = some o) : b ∉ X.fs := fun hb => by
 have := (ok.funs.mem hb).1
 rw [e] at this; cases this
theorem Inv.bs (I : Inv X pins σ H s) : ∀ b o, X.base.get? b = some o -> s.heap.get? b = some o /\ H b = none := fun b o e =>
 ⟨I.base.keep b o (I.ok.bs b o e).1 (I.ok.bs b o e).2 (I.ok.nofr e) (I.ok.noex b o e), I.base.free b o (I.ok.bs b o e).1 (I.ok.bs b o e).2 (I.ok.noex b o e)⟩
theorem Inv.bk (I : Inv X pins σ H s) : ∀ b o, X.base.get? b = some o -> s.heap.get? b = some o := fun b o e => (I.bs b o e).1
theorem Inv.mod (I : Inv X pins σ H s) : Mod X.K X.mg X.base := I.ok.mod
theorem Inv.kIn (I : Inv X pins σ H s) : X.K.In s.heap := I.ok.mod.kin.keeps I.bk
theorem Inv.lt (I : Inv X pins σ H s) : X.env.locals < s.heap.objs.size := let ⟨_, hn, _⟩ := I.loc; hn.lt
theorem Inv.sz (I : Inv X pins σ H s) : X.s₀.heap.objs.size <= s.heap.objs.size := Nat.le_trans I.ok.above (Nat.le_of_lt I.lt)
theorem Inv.nofs (I : Inv X pins σ H s) {a : Addr} (h : s.heap.objs.size <= a) : a ∉ X.fs := fun hb => by
 obtain ⟨_, o, ho, _⟩ := I.ok.funs.mem hb
 exact absurd (Nat.lt_of_lt_of_le (Heap.lt_size ho) (Nat.le_trans I.sz h)) (Nat.lt_irrefl _)
theorem Inv.cne (I : Inv X pins σ H s) : ∀ x c, X.env.cells.lookup x = some c -> c ≠ X.env.locals := fun x c e z => by
 obtain ⟨v, o, ho, hd⟩ := I.cell x c e
 obtain ⟨m, ⟨o', es, ep, ho', hd', _⟩, _⟩ := I.loc
 rw [z, ho'] at ho; cases ho; rw [hd'] at hd; cases hd
theorem Inv.funs (I : Inv X pins σ H s) : s.heap.FunFrames X.base X.outer := by
 have all : ∀ (l : List Env), (∀ b ∈ frs l, b ∈ X.fs) -> X.s₀.heap.FunFrames X.base l -> s.heap.FunFrames X.base l := by
  intro l
  induction l with
  | nil => intro _ _; trivial
  | cons env r ih =>
   intro hs hl
   obtain ⟨hk, ⟨L, o, hf, hn, ho, hd⟩, hr⟩ := hl
   have hL : L ∈ X.fs := hs L (by unfold frs; rw [List.filterMap_cons, hf]; exact List.mem_cons_self)
   obtain ⟨sl, e⟩ := I.base.slot L o ho (I.ok.frf L hL) hL fun z => I.ok.exfs L z hL
   exact ⟨hk, ⟨L, _, hf, hn, e, hd⟩, ih (fun b hb => hs b (by unfold frs; rw [List.filterMap_cons, hf]; exact List.mem_cons_of_mem _ hb)) hr⟩
 exact all X.outer (fun _ hb => hb) I.ok.funs
theorem Inv.stack (I : Inv X pins σ H s) : s.heap.FunFrames X.base X.stack := by
 rcases I.ok.stk with e | ⟨e, hf⟩
 ·rw [e]; exact I.funs
 ·rw [e]
  obtain ⟨m, hn, _⟩ := I.loc
  refine .cons (by rw [I.ok.kind]; decide) hf hn ?_ I.funs
  exact Heap.get?_none_of_le (Nat.le_trans I.ok.bsz I.ok.above)
theorem Inv.stkSub (I : Inv X pins σ H s) : ∀ b ∈ frs X.stack, b ∈ X.env.locals :: X.fs := fun b hb => by
 rcases I.ok.stk with e | ⟨e, hf⟩
 ·rw [e] at hb; exact List.mem_cons_of_mem _ hb
 ·rw [e] at hb
  unfold frs at hb
  rw [List.filterMap_cons, hf] at hb
  exact hb
theorem Inv.stkFree (I : Inv X pins σ H s) : ∀ b ∈ frs X.stack, H b = none := fun b hb => by
 rcases List.mem_cons.mp (I.stkSub b hb) with e | hb
 ·rw [e]; exact I.free
 ·obtain ⟨_, o, ho, _⟩ := I.ok.funs.mem hb
  exact I.base.free b o ho (I.ok.frf b hb) fun z => I.ok.exfs b z hb
theorem Inv.step {g' : Array GenState} {t' : Nat} {d' : Drawn} {ch : List Addr} (I : Inv X pins σ H s)
  (hch : ∀ b ∈ ch, (b ∈ X.ex \/ X.s₀.heap.objs.size <= b) /\ b ≠ X.env.locals /\ (∀ x c, X.env.cells.lookup x = some c -> c ≠ b) /\ ∀ p ∈ X.pn ++ pins, p.1 ≠ b)
  (keep : ∀ b o, b ≠ X.env.locals -> b ∉ X.fs -> b ∉ ch -> s.heap.get? b = some o -> H b = none -> h'.get? b = some o)
  (slot : ∀ b o, b ≠ X.env.locals -> b ∈ X.fs -> b ∉ ch -> s.heap.get? b = some o -> H b = none -> ∃ sl, h'.get? b = some { o with slots := sl }) (free : ∀ b o, b ∉ ch -> s.heap.get? b = some o -> H b = none -> H' b = none)
  (there : ∀ b o, b ∉ ch -> s.heap.get? b = some o -> ∃ o', h'.get? b = some o')
  (tups : ∀ b xs, H b = some (.tup xs) -> H' b = some (.tup xs)) (frzs : ∀ b o u, H b = some (.frz o u) -> H' b = some (.frz o u)) (tbls : ∀ b ps, H b = some (.tbl ps) -> ∃ more, H' b = some (.tbl (ps ++ more)))
  (ns : ∀ m, s.heap.Ns X.env.locals m -> h'.Ns X.env.locals m) (hok : HOk X.prog X.w H' h') (hg : AllBare g') :
  Inv X pins σ H' { s with heap := h', gens := g', drawn := d', toks := t' } := by
 have neL : ∀ b o, X.s₀.heap.get? b = some o -> b ≠ X.env.locals := fun b o e => Nat.ne_of_lt (Nat.lt_of_lt_of_le (Heap.lt_size e) I.ok.above)
 have neC : ∀ b o, X.s₀.heap.get? b = some o -> b ∉ X.ex -> b ∉ ch := fun b o e hx hb => by
  rcases (hch b hb).1 with z | z
  ·exact hx z
  ·exact absurd (Nat.lt_of_lt_of_le (Heap.lt_size e) z) (Nat.lt_irrefl _)
 have cellK : ∀ x c, X.env.cells.lookup x = some c -> ∀ v, s.heap.IsCell c v -> h'.IsCell c v := fun x c e v ⟨o, ho, hd⟩ => by
  have nch : c ∉ ch := fun z => (hch c z).2.2.1 x c e rfl
  by_cases hc : c ∈ X.fs
  ·obtain ⟨sl, q⟩ := slot c o (I.cne x c e) hc nch ho (I.freeC x c e)
   exact ⟨_, q, hd⟩
  ·exact ⟨o, keep c o (I.cne x c e) hc nch ho (I.freeC x c e), hd⟩
 refine ⟨I.ok, I.os, hg, ⟨fun b o e n hb hx => ?_, fun b o e n hb hx => ?_, fun b o e n hx => ?_, fun b o e hx => ?_, fun b xs e => tups b xs (I.base.tups b xs e), fun b o xs e => frzs b o xs (I.base.frzs b o xs e), fun b ps e => ?_⟩, ?_, fun x c e => ?_, ?_, fun x c e => ?_, fun p hp => ?_, hok, I.len⟩
 ·exact keep b o (neL b o e) hb (neC b o e hx) (I.base.keep b o e n hb hx) (I.base.free b o e n hx)
 ·obtain ⟨sl, e1⟩ := I.base.slot b o e n hb hx
  obtain ⟨sl', e2⟩ := slot b _ (neL b o e) hb (neC b o e hx) e1 (I.base.free b o e n hx)
  exact ⟨sl', e2⟩
 ·obtain ⟨o', e1⟩ := I.base.there b o e hx
  exact free b o' (neC b o e hx) e1 (I.base.free b o e n hx)
 ·obtain ⟨o', e1⟩ := I.base.there b o e hx
  exact there b o' (neC b o e hx) e1
 ·obtain ⟨m1, e1⟩ := I.base.tbls b ps e
  obtain ⟨m2, e2⟩ := tbls b _ e1
  exact ⟨m1 ++ m2, by rw [e2, Array.append_assoc]⟩
 ·obtain ⟨m, hn, hl⟩ := I.loc
  refine ⟨m, ns m hn, fun i x v e1 e2 e3 => ?_⟩
  obtain ⟨u, r, l⟩ := hl i x v e1 e2 e3
  refine ⟨u, r, ?_⟩
  rcases l with l | ⟨k, c, e, z⟩
  ·exact .inl l
  ·exact .inr ⟨k, c, e, cellK x c e _ z⟩
 ·obtain ⟨v, z⟩ := I.cell x c e
  exact ⟨v, cellK x c e v z⟩
 ·obtain ⟨m, ⟨o, _, _, ho, _⟩, _⟩ := I.loc
  exact free _ o (fun z => (hch _ z).2.1 rfl) ho I.free
 ·obtain ⟨v, o, ho, hd⟩ := I.cell x c e
  exact free c o (fun z => (hch c z).2.2.1 x c e rfl) ho (I.freeC x c e)
 ·obtain ⟨e, n, ne, nf, d⟩ := I.pin p hp
  have nch : p.1 ∉ ch := fun z => (hch p.1 z).2.2.2 p hp rfl
  exact ⟨keep p.1 p.2 ne nf nch e n, free p.1 p.2 nch e n, ne, nf, d⟩
theorem Inv.un {t' : Nat} (I : Inv X pins σ H s) (u : Un X.fs [] H H' s.heap h') (hok : HOk X.prog X.w H' h') : Inv X pins σ H' { s with heap := h', toks := t' } := by
 obtain ⟨m, ⟨o, es, ep, ho, r⟩, _⟩ := id I.loc
 obtain ⟨sl, hL⟩ := u.any ho I.free (by simp)
 exact I.step (g' := s.gens) (d' := s.drawn) (ch := []) (fun _ z => nomatch z) (fun b o _ hb _ e n => u.keep b o e n hb (by simp)) (fun b o _ hb _ e n => u.slot b o e n hb (by simp)) (fun b o _ e n => u.free b o e n (by simp)) (fun b o _ e => u.there b o e (by simp)) u.tups u.frzs u.tbls (fun m' hm => by
  obtain ⟨o', es', ep', ho', r'⟩ := hm
  rw [ho] at ho'; cases ho'
  exact ⟨_, es', ep', hL, r'⟩) hok I.bare
theorem Inv.call {g' : Array GenState} {t' : Nat} {d' : Drawn} {ch : List Addr} (I : Inv X pins σ H s) (u : Un (frs X.stack) ch H H' s.heap h') (hok : HOk X.prog X.w H' h') (hg : AllBare g')
  (hch : ∀ b ∈ ch, (b ∈ X.ex \/ X.s₀.heap.objs.size <= b) /\ b ≠ X.env.locals /\ (∀ x c, X.env.cells.lookup x = some c -> c ≠ b) /\ ∀ p ∈ X.pn ++ pins, p.1 ≠ b) :
  Inv X pins σ H' { s with heap := h', gens := g', drawn := d', toks := t' } := by
 obtain ⟨m, ⟨o, es, ep, ho, r⟩, _⟩ := id I.loc
 obtain ⟨sl, hL⟩ := u.any ho I.free fun z => (hch _ z).2.1 rfl
 exact I.step (ch := ch) hch (fun b o hL hb hc e n => u.keep b o e n (fun z => (List.mem_cons.mp (I.stkSub b z)).elim hL hb) hc) (fun b o _ _ hc e n => u.any e n hc) (fun b o hc e n => u.free b o e n hc) (fun b o hc e => u.there b o e hc) u.tups u.frzs u.tbls (fun m' hm => by
  obtain ⟨o', es', ep', ho', r'⟩ := hm
  rw [ho] at ho'; cases ho'
  exact ⟨_, es', ep', hL, r'⟩) hok hg
theorem Inv.turned {t' : Nat} {it : Addr} (I : Inv X pins σ H s) (k : ∀ b o, b ≠ it -> s.heap.get? b = some o -> h'.get? b = some o) (hn : H it = none) (hL : it ≠ X.env.locals)
  (h1 : it ∈ X.ex \/ X.s₀.heap.objs.size <= it) (h2 : ∀ x c, X.env.cells.lookup x = some c -> c ≠ it) (h3 : ∀ p ∈ X.pn ++ pins, p.1 ≠ it) : Inv X pins σ H { s with heap := h', toks := t' } := by
 have nit : ∀ b u, H b = some u -> b ≠ it := fun b u e z => by rw [z, hn] at e; cases e
 refine I.step (g' := s.gens) (d' := s.drawn) (ch := [it]) (fun b hb => ?_) (fun b o _ _ hc e _ => k b o (fun z => hc (by simp [z])) e) (fun b o _ _ hc e _ => ⟨o.slots, k b o (fun z => hc (by simp [z])) e⟩) (fun _ _ _ _ n => n)
  (fun b o hc e => ⟨o, k b o (fun z => hc (by simp [z])) e⟩) (fun _ _ e => e) (fun _ _ _ e => e) (fun b ps e => ⟨#[], by rw [e]; simp⟩) (fun m hm => ?_) (fun b u e => ?_) I.bare
 ·have e : b = it := by simpa using hb
  subst e
  exact ⟨h1, hL, h2, h3⟩
 ·obtain ⟨o, es, ep, ho, r⟩ := hm
  exact ⟨o, es, ep, k _ o (Ne.symm hL) ho, r⟩
 ·refine (I.hok b u e).stay (fun c v hc q => k c v ?_ q) (fun _ q => q) fun _ _ q => q
  rcases hc with z | z
  ·rw [z]; exact nit b u e
  ·exact nit c _ z
theorem Inv.tok (I : Inv X pins σ H s) (t : Nat) : Inv X pins σ H { s with toks := t } := I.un (h' := s.heap) (t' := t) Un.refl I.hok
theorem Inv.kept {t' : Nat} (I : Inv X pins σ H s) (k : ∀ b u, s.heap.get? b = some u -> h'.get? b = some u) : Inv X pins σ H { s with heap := h', toks := t' } := I.un (Un.kept k) (I.hok.kept k)
theorem Inv.laid {a : Addr} {o : HO} {t' : Nat} (I : Inv X pins σ H s) (k : ∀ b u, s.heap.get? b = some u -> h'.get? b = some u) (hp : s.heap.objs.size <= a) (new : ObjOk X.prog X.w (upd H a o) h' a o) :
  Inv X pins σ (upd H a o) { s with heap := h', toks := t' } := I.un (Un.laid k hp (I.hok.fresh hp)) (I.hok.laid k hp new)
theorem Inv.write {x e : Addr} {o : HO} {t' : Nat} (I : Inv X pins σ H s) (mu : Mut (H x)) (he : e = x \/ H e = some (.own x)) (k : ∀ b u, b ≠ e -> s.heap.get? b = some u -> h'.get? b = some u) (heo : ∃ u, h'.get? e = some u)
  (new : ObjOk X.prog X.w (upd H x o) h' x o) : Inv X pins σ (upd H x o) { s with heap := h', toks := t' } := I.un (Un.write mu he k heo) (I.hok.write mu he k heo new)
theorem Inv.xV {pins' : List (Addr × Obj)} (I : Inv X pins σ H s) (h : ∀ p ∈ pins', s.heap.get? p.1 = some p.2 /\ H p.1 = none /\ p.1 ≠ X.env.locals /\ p.1 ∉ X.fs /\ ∀ v, p.2.data ≠ .cell v) : Inv X pins' σ H s :=
 ⟨I.ok, I.os, I.bare, I.base, I.loc, I.cell, I.free, I.freeC, fun p hp => (List.mem_append.mp hp).elim (fun z => I.pin p (List.mem_append_left _ z)) (h p), I.hok, I.len⟩
theorem dB {N : List Str} (hN : N.Nodup) {i j : Nat} {x : Str} (a : N[i]? = some x) (b : N[j]? = some x) : i = j := by
 obtain ⟨h1, e1⟩ := List.getElem?_eq_some_iff.mp a
 obtain ⟨h2, e2⟩ := List.getElem?_eq_some_iff.mp b
 exact (List.getElem_inj hN).mp (e1.trans e2.symm)
theorem yZ2 {M : Model} {A : Around} {E : Value -> Shared -> Prop} {i : Nat} {x : Str} {v : V} {u : Value} {Q : Unit -> Shared -> Prop} (I : Inv X pins σ H s) (hN : X.N.Nodup) (hi : X.N[i]? = some x) (hx : Loc X.env.scope x) (r : RelV v u)
  (h : ∀ s', Inv X pins (σ.set i (some v)) H s' -> (∃ a, Heap.SameBut a s.heap s'.heap /\ (a = X.env.locals \/ X.env.cells.lookup x = some a)) -> Q () s') (hf : autoParam (X.fn x = true \/ X.env.scope.names.lookup x = some .local) kH._auto_1) : wpAny M A (storeName X.env x u) Q E s := by
 obtain ⟨m, hn, hl⟩ := id I.loc
 have hcls : (X.env.scope.kind == .class || (X.env.scope.kind == .module && X.env.locals != X.env.globals)) = false := by rw [I.ok.kind]; rfl
 have hiσ : i < σ.length := by rw [I.len]; exact (List.getElem?_eq_some_iff.mp hi).1
 have cne := I.cne
 have tracked : ∀ {a : Addr} {h' : Heap}, (∃ o, s.heap.get? a = some o /\ H a = none) -> Heap.SameBut a s.heap h' -> HOk X.prog X.w H h' := fun {a h'} ha hs b ob e => by
  obtain ⟨_, _, hfree⟩ := ha
  refine (I.hok b ob e).stay (fun c w' hc q => (hs.2 c ?_).trans q) (fun _ q => q) fun _ _ q => q
  rintro rfl
  rcases hc with rfl | hc
  ·rw [hfree] at e; cases e
  ·rw [hfree] at hc; cases hc
 rcases hx with hk | hk
 ·refine wpAny_storeName_local hk hn (fun h' hn' hs => ?_) hcls
  obtain ⟨oL, _, _, hoL, _⟩ := id hn
  refine h _ ⟨I.ok, I.os, I.bare, ⟨fun b o e n hb hx => ?_, fun b o e n hb hx => ?_, I.base.free, fun b o e hx => ?_, I.base.tups, I.base.frzs, I.base.tbls⟩, ⟨_, hn', fun j y v' e1 e2 e3 => ?_⟩, fun y c e => ?_, I.free, I.freeC, fun p hp => ?_, tracked ⟨oL, hoL, I.free⟩ hs, by simpa using I.len⟩ ⟨_, hs, .inl rfl⟩
  ·exact (hs.2 b (Nat.ne_of_lt (Nat.lt_of_lt_of_le (Heap.lt_size e) I.ok.above))).trans (I.base.keep b o e n hb hx)
  ·obtain ⟨sl, e1⟩ := I.base.slot b o e n hb hx
   exact ⟨sl, (hs.2 b (Nat.ne_of_lt (Nat.lt_of_lt_of_le (Heap.lt_size e) I.ok.above))).trans e1⟩
  ·obtain ⟨o', e1⟩ := I.base.there b o e hx
   exact ⟨o', (hs.2 b (Nat.ne_of_lt (Nat.lt_of_lt_of_le (Heap.lt_size e) I.ok.above))).trans e1⟩
  ·by_cases hj : j = i
   ·subst hj
    rw [hi] at e1; cases e1
    rw [List.getElem?_set_self hiσ] at e2
    cases e2
    exact ⟨u, r, .inl ⟨hk, by simp⟩⟩
   ·rw [List.getElem?_set_ne (Ne.symm hj)] at e2
    obtain ⟨u', r', q⟩ := hl j y v' e1 e2 e3
    refine ⟨u', r', ?_⟩
    rcases q with ⟨k, e⟩ | ⟨k, c, e, z⟩
    ·refine .inl ⟨k, ?_⟩
     have : y ≠ x := fun e => hj (dB hN e1 (e ▸ hi))
     simp [this, e]
    ·exact .inr ⟨k, c, e, z.sameBut hs (cne y c e)⟩
  ·obtain ⟨w', z⟩ := I.cell y c e
   exact ⟨w', z.sameBut hs (cne y c e)⟩
  ·obtain ⟨e, n, ne, nf, d⟩ := I.pin p hp
   exact ⟨(hs.2 p.1 ne).trans e, n, ne, nf, d⟩
 ·have hfn : X.fn x = true := by
   rcases hf with z | z
   ·exact z
   ·rw [z] at hk; cases hk
  obtain ⟨c, hc⟩ := I.ok.has x (.inl hk)
  obtain ⟨w', z⟩ := I.cell x c hc
  refine wpAny_storeName_cell I.ok.kind hk hc z (fun h' hc' hs => ?_)
  obtain ⟨oc, hoc, hocd⟩ := id z
  refine h { s with heap := h' } ⟨I.ok, I.os, I.bare, ⟨fun b o e n hb hx => ?_, fun b o e n hb hx => ?_, I.base.free, fun b o e hx => ?_, I.base.tups, I.base.frzs, I.base.tbls⟩, ⟨m, hn.sameBut hs (Ne.symm (cne x c hc)), fun j y v' e1 e2 e3 => ?_⟩, fun y c' e => ?_, I.free, I.freeC, fun p hp => ?_, tracked ⟨oc, hoc, I.freeC x c hc⟩ hs, by simpa using I.len⟩ ⟨c, hs, .inr hc⟩
  ·exact (hs.2 b (Nat.ne_of_lt (Nat.lt_of_lt_of_le (Heap.lt_size e) (I.ok.cab x c hfn hc)))).trans (I.base.keep b o e n hb hx)
  ·obtain ⟨sl, e1⟩ := I.base.slot b o e n hb hx
   exact ⟨sl, (hs.2 b (Nat.ne_of_lt (Nat.lt_of_lt_of_le (Heap.lt_size e) (I.ok.cab x c hfn hc)))).trans e1⟩
  ·obtain ⟨o', e1⟩ := I.base.there b o e hx
   exact ⟨o', (hs.2 b (Nat.ne_of_lt (Nat.lt_of_lt_of_le (Heap.lt_size e) (I.ok.cab x c hfn hc)))).trans e1⟩
  ·by_cases hj : j = i
   ·subst hj
    rw [hi] at e1; cases e1
    rw [List.getElem?_set_self hiσ] at e2
    cases e2
    exact ⟨u, r, .inr ⟨.inl hk, c, hc, hc'⟩⟩
   ·rw [List.getElem?_set_ne (Ne.symm hj)] at e2
    obtain ⟨u', r', q⟩ := hl j y v' e1 e2 e3
    refine ⟨u', r', ?_⟩
    rcases q with q | ⟨k, c', e, z'⟩
    ·exact .inl q
    ·refine .inr ⟨k, c', e, z'.sameBut hs ?_⟩
     rintro rfl
     exact hj (dB hN e1 (I.ok.inj _ _ _ e hc ▸ hi))
  ·by_cases hcc : c' = c
   ·subst hcc; exact ⟨_, hc'⟩
   ·obtain ⟨w2, z2⟩ := I.cell y c' e
    exact ⟨w2, z2.sameBut hs hcc⟩
  ·obtain ⟨e, n, ne, nf, d⟩ := I.pin p hp
   refine ⟨(hs.2 p.1 ?_).trans e, n, ne, nf, d⟩
   intro q
   rw [q, hoc] at e
   have q' : oc = p.2 := Option.some.inj e
   exact d w' (by rw [<- q']; exact hocd)
theorem uJ {M : Model} {A : Around} {E : Value -> Shared -> Prop} {i : Nat} {x : Str} {v : V} {u : Value} {Q : Unit -> Shared -> Prop} (I : Inv X pins σ H s) (hN : X.N.Nodup) (hi : X.N[i]? = some x) (hx : Loc X.env.scope x) (r : RelV v u)
  (h : ∀ s', Inv X pins (σ.set i (some v)) H s' -> Q () s') (hf : autoParam (X.fn x = true \/ X.env.scope.names.lookup x = some .local) kH._auto_1) : wpAny M A (storeName X.env x u) Q E s :=
 yZ2 I hN hi hx r (fun s' I' _ => h s' I') hf
theorem Inv.call' {s' : Shared} {ch : List Addr} (I : Inv X pins σ H s) (ho : s'.os = s.os) (u : Un (frs X.stack) ch H H' s.heap s'.heap) (hok : HOk X.prog X.w H' s'.heap) (hg : AllBare s'.gens)
  (hch : ∀ b ∈ ch, (b ∈ X.ex \/ X.s₀.heap.objs.size <= b) /\ b ≠ X.env.locals /\ (∀ x c, X.env.cells.lookup x = some c -> c ≠ b) /\ ∀ p ∈ X.pn ++ pins, p.1 ≠ b) : Inv X pins σ H' s' := by
 obtain ⟨h', g', d', t', o'⟩ := s'
 have e : o' = s.os := ho
 subst e
 exact I.call (g' := g') (t' := t') (d' := d') u hok hg hch
end
abbrev XK := Value -> Option Addr -> Hp -> Prop
abbrev St := List (Option V)
abbrev VK := V -> Hp -> Prop
abbrev TE := St -> Hp -> VK -> Prop
abbrev TT := St -> Hp -> (Bool -> Hp -> Prop) -> Prop
abbrev TA := St -> Hp -> (List V -> Hp -> Prop) -> Prop
structure Ends where
 nx : St -> Hp -> Prop
 rt : VK
 bk : St -> Hp -> Prop := fun _ _ => False
 ct : St -> Hp -> Prop := fun _ _ => False
abbrev TS := Ends -> St -> Hp -> Prop
def EP (X : Cx) (pins : List (Addr × Obj)) (σ : St) (Q : VK) (u : Value) (s' : Shared) : Prop := ∃ v H', Inv X pins σ H' s' /\ RelV v u /\ Q v H'
def TP (X : Cx) (pins : List (Addr × Obj)) (σ : St) (Q : Bool -> Hp -> Prop) (b : Bool) (s' : Shared) : Prop := ∃ H', Inv X pins σ H' s' /\ Q b H'
def AP (X : Cx) (pins : List (Addr × Obj)) (σ : St) (Q : List V -> Hp -> Prop) (us : List Value) (s' : Shared) : Prop := ∃ vs H', Inv X pins σ H' s' /\ Vals vs us /\ Q vs H'
def SP (X : Cx) (pins : List (Addr × Obj)) (D : Ends) (f : Flow) (s' : Shared) : Prop :=
 match f with
 | .next => ∃ σ' H', Inv X pins σ' H' s' /\ D.nx σ' H'
 | .brk => ∃ σ' H', Inv X pins σ' H' s' /\ D.bk σ' H'
 | .cont => ∃ σ' H', Inv X pins σ' H' s' /\ D.ct σ' H'
 | .ret u => ∃ v σ' H', Inv X pins σ' H' s' /\ RelV v u /\ D.rt v H'
def PE (X : Cx) (e : Expr) (t : TE) : Prop :=
 ∀ (pins : List (Addr × Obj)) (s : Shared) (σ : St) (H : Hp) (Q : VK), Inv X pins σ H s -> t σ H Q -> wpAny (model X.prog X.w) X.A (eval e X.env) (EP X pins σ Q) X.xe s
def PT (X : Cx) (e : Expr) (t : TT) : Prop :=
 ∀ (pins : List (Addr × Obj)) (s : Shared) (σ : St) (H : Hp) (Q : Bool -> Hp -> Prop), Inv X pins σ H s -> t σ H Q -> wpAny (model X.prog X.w) X.A (isTrue e X.env (eval e X.env)) (TP X pins σ Q) X.xe s
def PW (X : Cx) (e : Expr) (t : TT) : Prop :=
 ∀ (whole : Sem Value) (pins : List (Addr × Obj)) (s : Shared) (σ : St) (H : Hp) (Q : Bool -> Hp -> Prop), Inv X pins σ H s -> t σ H Q -> wpAny (model X.prog X.w) X.A (isTrue e X.env whole) (TP X pins σ Q) X.xe s
theorem PW.pt {X : Cx} {e : Expr} {t : TT} (h : PW X e t) : PT X e t := h _
def PA (X : Cx) (es : List Expr) (t : TA) : Prop :=
 ∀ (pos : Pos) (pins : List (Addr × Obj)) (s : Shared) (σ : St) (H : Hp) (Q : List V -> Hp -> Prop), Inv X pins σ H s -> t σ H Q -> wpAny (model X.prog X.w) X.A (spliced (backTo pos (starEach es X.env))) (AP X pins σ Q) X.xe s
def PS (X : Cx) (st : Stmt) (t : TS) : Prop :=
 ∀ (pins : List (Addr × Obj)) (s : Shared) (σ : St) (H : Hp) (D : Ends), Inv X pins σ H s -> t D σ H -> wpAny (model X.prog X.w) X.A (exec st X.env) (SP X pins D) X.xe s
def PSs (X : Cx) (st : List Stmt) (t : TS) : Prop :=
 ∀ (pins : List (Addr × Obj)) (s : Shared) (σ : St) (H : Hp) (D : Ends), Inv X pins σ H s -> t D σ H -> wpAny (model X.prog X.w) X.A (execs st X.env) (SP X pins D) X.xe s
theorem thn {α : Type} {t : Sem α} {Q Q' : α -> Shared -> Prop} {M : Model} {A : Around} {E : Value -> Shared -> Prop} {s : Shared} (h : wpAny M A t Q E s) (hQ : ∀ a s, Q a s -> Q' a s) : wpAny M A t Q' E s := wpAny_mono h hQ fun _ _ x => x
section
variable {X : Cx}
theorem bin {a b : Expr} {ta tb : TE} (ha : PE X a ta) (hb : PE X b tb) {pins : List (Addr × Obj)} {s : Shared} {σ : St} {H : Hp} {R : V -> V -> Hp -> Prop} (I : Inv X pins σ H s) (h : ta σ H fun x H1 => tb σ H1 fun y H2 => R x y H2)
  {α : Type} {Q : α -> Shared -> Prop} {f : Value -> Value -> Sem α}
  (hf : ∀ v u s2 x y H2, Inv X pins σ H2 s2 -> RelV x v -> RelV y u -> R x y H2 -> wpAny (model X.prog X.w) X.A (f v u) Q X.xe s2) :
  wpAny (model X.prog X.w) X.A (eval a X.env) (fun v s₁ => wpAny (model X.prog X.w) X.A (eval b X.env) (fun u s₂ => wpAny (model X.prog X.w) X.A (f v u) Q X.xe s₂) X.xe s₁) X.xe s := by
 refine thn (ha pins s σ H _ I h) fun v s1 ⟨x, H1, I1, r1, q1⟩ => ?_
 refine thn (hb pins s1 σ H1 _ I1 q1) fun u s2 ⟨y, H2, I2, r2, q2⟩ => ?_
 exact hf v u s2 x y H2 I2 r1 r2 q2
def tVar (i : Nat) : TE := fun σ H Q => ∃ v, σ[i]? = some (some v) /\ Q v H
def tC (v : V) : TE := fun _ H Q => Q v H
theorem uD {i : Nat} {x : Str} {pos : Pos} (hN : X.N[i]? = some x) (hv : Vis X.env.scope x) (hd : autoParam ((x == ("__debug__" : Str)) = false) zO._auto_1) (hcd : autoParam ((x == ("__classdict__" : Str)) = false) zO._auto_1) : PE X (.Name x pos) (tVar i) := by
 intro pins s σ H Q I h
 obtain ⟨v, e, h⟩ := h
 obtain ⟨m, hn, hl⟩ := I.loc
 obtain ⟨u, r, l⟩ := hl i x v hN e hv
 have fin : EP X pins σ Q u s := ⟨v, H, I, r, h⟩
 rcases l with ⟨hk, hm⟩ | ⟨hk, c, hc, hcell⟩
 ·exact wpAny_Name (wpAny_loadName_local I.ok.kind hk hn hm fin) hd
 ·rcases hk with hk | hk
  ·exact wpAny_Name (wpAny_loadName_cell I.ok.kind hk hc hcell fin) hd
  ·exact wpAny_Name (wpAny_loadName_free I.ok.kind hk hc hcell fin hcd) hd
theorem yX5 {i j pos} : PE X (.Constant (.int i) j pos) (tC (.int i)) := fun _ _ _ H _ I h => wpAny_Constant_int ⟨.int i, H, I.tok _, ⟨_, rfl⟩, h⟩
theorem xT7 {b j pos} : PE X (.Constant (.bool b) j pos) (tC (.bl b)) := fun _ _ _ H _ I h => Constant_bool ⟨.bl b, H, I, rfl, h⟩
theorem yF4 {j pos} : PE X (.Constant .none j pos) (tC .non) := fun _ _ _ H _ I h => Constant_none ⟨.non, H, I, rfl, h⟩
theorem yF9 {x j pos} : PE X (.Constant (.str x) j pos) (tC (.str x)) := fun _ _ _ H _ I h => Calls.Constant_str ⟨.str x, H, I.tok _, ⟨_, rfl⟩, h⟩
def Gl (X : Cx) (x : Str) : Prop := X.env.kindOf x = some .globalImplicit
theorem vV {E : Value -> Shared -> Prop} {pins : List (Addr × Obj)} {s : Shared} {σ : St} {H : Hp} {x : Str} {u : Value} {pos : Pos} {Q : Value -> Shared -> Prop} (I : Inv X pins σ H s) (hg : Gl X x) (hm : X.mg x = some u) (h : Q u s)
  (hd : autoParam ((x == ("__debug__" : Str)) = false) zO._auto_1) : wpAny (model X.prog X.w) X.A (eval (.Name x pos) X.env) Q E s :=
 Calls.Name_function_global I.ok.kind hg (Calls.loadGlobal_global (by rw [I.ok.glob]; exact I.mod.glob.keeps I.bk) hm h) hd
theorem cJ {E : Value -> Shared -> Prop} {pins : List (Addr × Obj)} {s : Shared} {σ : St} {H : Hp} {x : Str} {u : Value} {pos : Pos} {Q : Value -> Shared -> Prop} (I : Inv X pins σ H s) (hg : Gl X x) (hm : X.mg x = none) (hv : bootBuiltins x = some u) (h : Q u s)
  (hn : autoParam (x ≠ "__name__") zO._auto_1) (hd : autoParam ((x == ("__debug__" : Str)) = false) zO._auto_1) : wpAny (model X.prog X.w) X.A (eval (.Name x pos) X.env) Q E s := by
 obtain ⟨mb, h1, h2⟩ := I.mod.blt
 exact Calls.Name_function_global I.ok.kind hg (Calls.loadGlobal_builtin (by rw [I.ok.glob]; exact I.mod.glob.keeps I.bk) hm (by rw [I.ok.blt]; exact h1.keeps I.bk) ((h2 x hn).trans hv) h) hd
theorem aT {x : Str} {v : V} {u : Value} {pos : Pos} (hg : Gl X x) (hm : X.mg x = some u) (r : RelV v u) (hd : autoParam ((x == ("__debug__" : Str)) = false) zO._auto_1) : PE X (.Name x pos) (tC v) :=
 fun _ _ _ H _ I h => vV I hg hm ⟨v, H, I, r, h⟩ hd
theorem zI3 {x : Str} {v : V} {u : Value} {pos : Pos} (hg : Gl X x) (hm : X.mg x = none) (hv : bootBuiltins x = some u) (r : RelV v u) (hn : autoParam (x ≠ "__name__") zO._auto_1) (hd : autoParam ((x == ("__debug__" : Str)) = false) zO._auto_1) : PE X (.Name x pos) (tC v) :=
 fun _ _ _ H _ I h => cJ I hg hm hv ⟨v, H, I, r, h⟩ hn hd
variable {a b : Expr} {ta tb : TE} {pos : Pos}
def tB (t : TE) : TT := fun σ H Q => t σ H fun x H1 => ∃ c, x = .bl c /\ Q c H1
theorem xY1 {e : Expr} {t : TE} (h : PE X e t) (he : autoParam (∀ whole, isTrue e X.env whole = (do let v <- whole; standAt e.pos; holding [v] (truthy v))) xG._auto_1) : PT X e (tB t) := by
 intro pins s σ H Q I hw
 refine isTrue_plain (thn (h pins s σ H _ I hw) fun v s1 ⟨x, H1, I1, r1, q1⟩ => ?_) (he _)
 obtain ⟨d, rfl, q⟩ := q1
 cases r1
 exact wpAny_truthy_bool ⟨H1, I1, q⟩
variable {tA tB' : TT} {rest : List Expr}
def tAnd (t u : TT) : TT := fun σ H Q => t σ H fun c H1 => if c = true then u σ H1 Q else Q false H1
def tOr (t u : TT) : TT := fun σ H Q => t σ H fun c H1 => if c = true then Q true H1 else u σ H1 Q
def tNot (t : TT) : TT := fun σ H Q => t σ H fun c H1 => Q (!c) H1
theorem pw_and1 (ha : PT X a tA) : PW X (.BoolOp .And [a] pos) tA := by
 intro wh pins s σ H Q I h
 refine isTrue_and (thn (ha pins s σ H Q I h) fun c s1 e => ?_)
 cases c with
 | true => exact isTrue_and_nil e
 | false => exact e
theorem pw_or1 (ha : PT X a tA) : PW X (.BoolOp .Or [a] pos) tA := by
 intro wh pins s σ H Q I h
 refine isTrue_or (thn (ha pins s σ H Q I h) fun c s1 e => ?_)
 cases c with
 | false => exact isTrue_or_nil e
 | true => exact e
theorem pw_and (ha : PT X a tA) (hb : PW X (.BoolOp .And (b :: rest) pos) tB') : PW X (.BoolOp .And (a :: b :: rest) pos) (tAnd tA tB') := by
 intro wh pins s σ H Q I h
 refine isTrue_and (thn (ha pins s σ H _ I h) fun c s1 ⟨H1, I1, q1⟩ => ?_)
 cases c with
 | true => exact hb wh pins s1 σ H1 Q I1 q1
 | false => exact ⟨H1, I1, q1⟩
theorem pw_or (ha : PT X a tA) (hb : PW X (.BoolOp .Or (b :: rest) pos) tB') : PW X (.BoolOp .Or (a :: b :: rest) pos) (tOr tA tB') := by
 intro wh pins s σ H Q I h
 refine isTrue_or (thn (ha pins s σ H _ I h) fun c s1 ⟨H1, I1, q1⟩ => ?_)
 cases c with
 | true => exact ⟨H1, I1, q1⟩
 | false => exact hb wh pins s1 σ H1 Q I1 q1
theorem yE3 (ha : PT X a tA) : PT X (.UnaryOp .Not a pos) (tNot tA) := by
 intro pins s σ H Q I h
 exact isTrue_not (ha pins s σ H (fun c H1 => Q (!c) H1) I h)
def tAndV (ta tb : TE) : TE := fun σ H Q => ta σ H fun x H1 => ∃ c, x = .bl c /\ if c = true then tb σ H1 Q else Q (.bl false) H1
def tNotV (ta : TE) : TE := fun σ H Q => ta σ H fun x H1 => ∃ c, x = .bl c /\ Q (.bl (!c)) H1
theorem xX2 {op} {t : TE} (h : PE X a t) : PE X (.BoolOp op [a] pos) t := fun pins s σ H Q I hw => BoolOp_one (h pins s σ H Q I hw)
theorem xZ9 (ha : PE X a ta) (hb : PE X (.BoolOp .And (b :: rest) pos) tb) : PE X (.BoolOp .And (a :: b :: rest) pos) (tAndV ta tb) := by
 intro pins s σ H Q I h
 refine BoolOp_and (thn (ha pins s σ H _ I h) fun v s1 ⟨x, H1, I1, r1, q1⟩ => ?_)
 obtain ⟨c, rfl, q1⟩ := q1
 cases r1
 refine wpAny_truthy_bool ?_
 cases c with
 | true => exact hb pins s1 σ H1 Q I1 q1
 | false => exact ⟨.bl false, H1, I1, rfl, q1⟩
theorem yG9 (ha : PE X a ta) : PE X (.UnaryOp .Not a pos) (tNotV ta) := by
 intro pins s σ H Q I h
 refine UnaryOp_ (thn (ha pins s σ H _ I h) fun v s1 ⟨x, H1, I1, r1, q1⟩ => ?_)
 obtain ⟨c, rfl, q1⟩ := q1
 cases r1
 exact not_of (wpAny_truthy_bool ⟨.bl (!c), H1, I1, rfl, q1⟩)
end
def SqL (K : KFr) (H : Hp) (a : Addr) (xs : List V) : Prop :=
 Rd H a (.lst xs) \/
  ∃ (o : Obj) (its : Array Value) (n : Nat), K.lookup a = some o /\ o.cls = .type "list" /\ o.dict = none /\ o.data = .seq its n /\ its.size <= sizeLine /\ Vals xs its.toList
def SqT (K : KFr) (H : Hp) (a : Addr) (xs : List V) : Prop :=
 Rd H a (.tup xs) \/
  ∃ (o : Obj) (its : Array Value) (n : Nat), K.lookup a = some o /\ o.cls = .type "tuple" /\ o.data = .seq its n /\ its.size <= sizeLine /\ Vals xs its.toList
def absV : Value -> Option V
 | .none => some .non
 | .bool b => some (.bl b)
 | .int i _ => some (.int i)
 | .str x _ => some (.str x)
 | .bytes b _ => some (.byt b)
 | .float b _ => some (.flt b)
 | .ref a => some (.ref a)
 | .type n => some (.ty n)
 | _ => none
theorem RelV.abs {x : V} {u : Value} (r : RelV x u) : absV u = some x := by
 cases x with
 | non => cases r; rfl
 | bl _ => cases r; rfl
 | int _ => obtain ⟨t, rfl⟩ := r; rfl
 | str _ => obtain ⟨t, rfl⟩ := r; rfl
 | byt _ => obtain ⟨t, rfl⟩ := r; rfl
 | flt _ => obtain ⟨t, rfl⟩ := r; rfl
 | ref _ => cases r; rfl
 | ty _ => cases r; rfl
theorem RelV.inj {x y : V} {u : Value} (r : RelV x u) (q : RelV y u) : x = y := Option.some.inj (r.abs.symm.trans q.abs)
theorem Vals.inj : ∀ {xs ys : List V} {us : List Value}, Vals xs us -> Vals ys us -> xs = ys
 | _, _, _, .nil, .nil => rfl
 | _, _, _, .cons r t, .cons r' t' => by rw [r.inj r', Vals.inj t t']
section
variable {X : Cx} {pins : List (Addr × Obj)} {σ : St} {H : Hp} {s : Shared} {a : Addr} {xs ys : List V}
theorem SqL.of {K : KFr} (h : H a = some (.lst xs)) : SqL K H a xs := .inl (.inl h)
theorem Inv.list (I : Inv X pins σ H s) (h : SqL X.K H a xs) : ∃ its : List Value, Vals xs its /\ PlainL s.heap a its.toArray /\ xs.length <= sizeLine := by
 rcases h with h | ⟨o, its, n, hk, hc, hd, hs, hz, r⟩
 ·obtain ⟨z, its, n, r, e⟩ := h.ok I.hok
  exact ⟨its, r, ⟨_, n, e, rfl, rfl, rfl⟩, z⟩
 ·refine ⟨its.toList, r, ⟨o, n, I.kIn a o hk, hc, hd, by simpa using hs⟩, ?_⟩
  have e := r.length
  simp only [Array.length_toList] at e
  bv_omega
theorem Inv.tuple (I : Inv X pins σ H s) (h : SqT X.K H a xs) : ∃ its : List Value, Vals xs its /\ IsTup s.heap a its.toArray /\ xs.length <= sizeLine := by
 rcases h with h | ⟨o, its, n, hk, hc, hs, hz, r⟩
 ·obtain ⟨z, its, r, p⟩ := h.ok I.hok
  exact ⟨its, r, p.tup, z⟩
 ·refine ⟨its.toList, r, ⟨o, I.kIn a o hk, hc, n, by simpa using hs⟩, ?_⟩
  have e := r.length
  simp only [Array.length_toList] at e
  bv_omega
theorem Inv.yP2 (I : Inv X pins σ H s) (h : SqL X.K H a xs) (h' : SqL X.K H a ys) : xs = ys := by
 obtain ⟨its, r, ⟨o, n, e, _, _, d⟩, _⟩ := I.list h
 obtain ⟨its', r', ⟨o', n', e', _, _, d'⟩, _⟩ := I.list h'
 rw [e] at e'; cases e'
 rw [d] at d'
 injection d' with d1 _
 have : its = its' := by simpa using congrArg Array.toList d1
 subst this
 exact r.inj r'
theorem Inv.yX6 (I : Inv X pins σ H s) (h : SqT X.K H a xs) (h' : SqT X.K H a ys) : xs = ys := by
 obtain ⟨its, r, ⟨o, e, _, n, d⟩, _⟩ := I.tuple h
 obtain ⟨its', r', ⟨o', e', _, n', d'⟩, _⟩ := I.tuple h'
 rw [e] at e'; cases e'
 rw [d] at d'
 injection d' with d1 _
 have : its = its' := by simpa using congrArg Array.toList d1
 subst this
 exact r.inj r'
end
abbrev Cx.wish (X : Cx) (E : Value -> Shared -> Prop) : Cx := { X with xe := E }
abbrev Cx.nox (X : Cx) : Cx := X.wish fun _ _ => False
theorem Cx.Ok.wish {X : Cx} (ok : X.Ok) (E : Value -> Shared -> Prop) : (X.wish E).Ok :=
 ⟨ok.mod, ok.kind, ok.glob, ok.blt, ok.above, ok.inj, ok.has, ok.cab, ok.hd, ok.frames, ok.stk, ok.exf, ok.bs, ok.bsz, ok.noex, ok.exfs, ok.funs, ok.frf⟩
theorem Cx.Ok.unwish {X : Cx} {E : Value -> Shared -> Prop} (ok : (X.wish E).Ok) : X.Ok :=
 ⟨ok.mod, ok.kind, ok.glob, ok.blt, ok.above, ok.inj, ok.has, ok.cab, ok.hd, ok.frames, ok.stk, ok.exf, ok.bs, ok.bsz, ok.noex, ok.exfs, ok.funs, ok.frf⟩
section
variable {X : Cx} {pins : List (Addr × Obj)} {σ : St} {H : Hp} {s : Shared} {E : Value -> Shared -> Prop}
theorem Inv.wish (I : Inv X pins σ H s) (E : Value -> Shared -> Prop) : Inv (X.wish E) pins σ H s := ⟨I.ok.wish E, I.os, I.bare, I.base, I.loc, I.cell, I.free, I.freeC, I.pin, I.hok, I.len⟩
theorem Inv.unwish (I : Inv (X.wish E) pins σ H s) : Inv X pins σ H s := ⟨I.ok.unwish, I.os, I.bare, I.base, I.loc, I.cell, I.free, I.freeC, I.pin, I.hok, I.len⟩
theorem SP.unwish {D : Ends} {f : Flow} {s' : Shared} (h : SP (X.wish E) pins D f s') : SP X pins D f s' := by
 cases f with
 | next => obtain ⟨σ', H', I, q⟩ := h; exact ⟨σ', H', I.unwish, q⟩
 | brk => obtain ⟨σ', H', I, q⟩ := h; exact ⟨σ', H', I.unwish, q⟩
 | cont => obtain ⟨σ', H', I, q⟩ := h; exact ⟨σ', H', I.unwish, q⟩
 | ret u => obtain ⟨v, σ', H', I, r, q⟩ := h; exact ⟨v, σ', H', I.unwish, r, q⟩
theorem PSs.nox {st : List Stmt} {t : TS} (h : PSs X.nox st t) : PSs X st t := fun pins s σ H D I hw =>
 wpAny_mono (h pins s σ H D (I.wish _) hw) (fun _ _ q => q.unwish) fun _ _ z => False.elim z
end
section
variable {X : Cx} {st : Stmt} {rest : List Stmt} {t u : TS} {e : Expr} {te : TE} {pos : Pos}
def tNext : TS := fun D σ H => D.nx σ H
def tSeq (t u : TS) : TS := fun D σ H => t { D with nx := u D } σ H
theorem yH5 : PSs X [] tNext := fun _ _ σ H _ I h => wpAny_execs_nil ⟨σ, H, I, h⟩
theorem cN (h1 : PS X st t) (h2 : PSs X rest u) : PSs X (st :: rest) (tSeq t u) := by
 intro pins s σ H D I h
 refine wpAny_execs_cons (thn (h1 pins s σ H { D with nx := u D } I h) fun f s1 q => ?_)
 cases f with
 | next =>
  obtain ⟨σ', H', I', q⟩ := q
  exact h2 pins s1 σ' H' D I' q
 | ret v => exact q
 | brk => exact q
 | cont => exact q
theorem fE (h1 : PS X st t) : PSs X [st] t := by
 intro pins s σ H D I h
 refine wpAny_execs_cons (thn (h1 pins s σ H D I h) fun f s1 q => ?_)
 cases f with
 | next => exact wpAny_execs_nil q
 | ret v => exact q
 | brk => exact q
 | cont => exact q
theorem Inv.quiet {pins : List (Addr × Obj)} {σ : St} {H : Hp} {s : Shared} (I : Inv X pins σ H s) : interactive X.env = false := by simp [interactive, I.ok.kind]
def tDrop (te : TE) : TS := fun D σ H => te σ H fun _ H1 => D.nx σ H1
theorem dY (he : PE X e te) (hs : autoParam (swapsWith e none pos.line X.env = pure false) zZ._auto_1) : PS X (.Expr e pos) (tDrop te) := by
 intro pins s σ H D I h
 exact wpAny_Expr_any (thn (he pins s σ H _ I h) fun v s1 ⟨x, H1, I1, r1, q1⟩ => ⟨σ, H1, I1, q1⟩) I.quiet hs
def tRet (te : TE) : TS := fun D σ H => te σ H D.rt
theorem zA8 (he : PE X e te) : PS X (.Return (some e) pos) (tRet te) := by
 intro pins s σ H D I h
 exact wpAny_Return_some (thn (he pins s σ H _ I h) fun v s1 ⟨x, H1, I1, r1, q1⟩ => ⟨x, σ, H1, I1, r1, q1⟩)
def tIfS (c : TT) (t u : TS) : TS := fun D σ H => c σ H fun b H1 => if b = true then t D σ H1 else u D σ H1
theorem xW4 {c : Expr} {a b : List Stmt} {tc : TT} (hc : PT X c tc) (ha : PSs X a t) (hb : PSs X b u) : PS X (.If c a b pos) (tIfS tc t u) := by
 intro pins s σ H D I h
 refine wpAny_If (thn (hc pins s σ H _ I h) fun d s1 ⟨H1, I1, q1⟩ => ?_)
 cases d with
 | true => exact ha pins s1 σ H1 D I1 q1
 | false => exact hb pins s1 σ H1 D I1 q1
end
abbrev TG := V -> St -> Hp -> (St -> Hp -> Prop) -> Prop
def PG (X : Cx) (target : Expr) (t : TG) : Prop :=
 ∀ (pins : List (Addr × Obj)) (s : Shared) (σ : St) (H : Hp) (v : V) (u : Value) (Q : St -> Hp -> Prop), Inv X pins σ H s -> RelV v u -> t v σ H Q ->
  wpAny (model X.prog X.w) X.A (assign target X.env u) (fun _ s' => ∃ σ' H', Inv X pins σ' H' s' /\ Q σ' H') X.xe s
abbrev TSet := V -> V -> V -> Hp -> (Hp -> Prop) -> Prop
def PSet (X : Cx) (t : TSet) : Prop :=
 ∀ (pins : List (Addr × Obj)) (s : Shared) (σ : St) (H : Hp) (o i v : V) (ov iv u : Value) (Q : Hp -> Prop), Inv X pins σ H s -> RelV o ov -> RelV i iv -> RelV v u -> t o i v H Q ->
  wpAny (model X.prog X.w) X.A (setItem ov iv u) (fun _ s' => ∃ H', Inv X pins σ H' s' /\ Q H') X.xe s
section
variable {X : Cx} {pos : Pos}
def gName (i : Nat) : TG := fun v σ H Q => Q (σ.set i (some v)) H
theorem zZ1 {i : Nat} {x : Str} (hN : X.N.Nodup) (hi : X.N[i]? = some x) (hx : Loc X.env.scope x) (hf : autoParam (X.fn x = true \/ X.env.scope.names.lookup x = some .local) kH._auto_1) : PG X (.Name x pos) (gName i) := by
 intro pins s σ H v u Q I r h
 exact wpAny_assign_Name (uJ I hN hi hx r (fun s' I' => ⟨_, H, I', h⟩) hf)
def gSub (to ti : TE) (t : TSet) : TG := fun v σ H Q => to σ H fun o H1 => ti σ H1 fun i H2 => t o i v H2 fun H3 => Q σ H3
theorem yE7 {o i : Expr} {to ti : TE} {t : TSet} (ho : PE X o to) (hi : PE X i ti) (hs : PSet X t)
  (ha : ∀ v, assign (.Subscript o i pos) X.env v = (do
   let ov <- holding [v] (eval o X.env)
   let iv <- holding [v, ov] (eval i X.env)
   standAt pos
   holding [v, ov, iv] (setItem ov iv v)
   release [v, ov, iv] []) := by intro _; rfl) : PG X (.Subscript o i pos) (gSub to ti t) := by
 intro pins s σ H v u Q I r h
 rw [ha]
 refine wpAny_bind (wpAny_holding (thn (ho pins s σ H _ I h) fun ov s1 ⟨x, H1, I1, r1, q1⟩ => ?_))
 refine wpAny_bind (wpAny_holding (thn (hi pins s1 σ H1 _ I1 q1) fun iv s2 ⟨y, H2, I2, r2, q2⟩ => ?_))
 refine wpAny_bind (wpAny_standAt (wpAny_bind (wpAny_holding (thn (hs pins s2 σ H2 x y v ov iv u _ I2 r1 r2 r q2) fun _ s3 ⟨H3, I3, q3⟩ => ?_))))
 exact wpAny_release ⟨σ, H3, I3, q3⟩
def tAsg (te : TE) (g : TG) : TS := fun D σ H => te σ H fun x H1 => g x σ H1 D.nx
theorem yB4 {tg e : Expr} {te : TE} {g : TG} (he : PE X e te) (hg : PG X tg g) (hs : autoParam (swapsWithSole [tg] e pos.line X.env = pure false) zZ._auto_1) (hw : autoParam (swappedStores [tg] e X.env = pure none) zZ._auto_1)
  (h1 : autoParam ((assignEach [tg] X.env).map (·.2) = [assign tg X.env]) zZ._auto_1) : PS X (.Assign [tg] e pos) (tAsg te g) := by
 intro pins s σ H D I h
 refine wpAny_Assign_stores (thn (he pins s σ H _ I h) fun v s1 ⟨x, H1, I1, r1, q1⟩ => ?_) hs hw
 rw [h1]
 exact thn (hg pins s1 σ H1 x v _ I1 r1 q1) fun _ s2 q => q
theorem zR4 {i : Nat} {x : Str} {e : Expr} {te : TE} {pos' : Pos} (hN : X.N.Nodup) (hi : X.N[i]? = some x) (hx : Loc X.env.scope x) (he : PE X e te) (hs : autoParam (swapsWith e (some (.Name x pos')) pos.line X.env = pure false) zZ._auto_1) (hf : autoParam (X.fn x = true \/ X.env.scope.names.lookup x = some .local) kH._auto_1) :
  PS X (.Assign [.Name x pos'] e pos) (tAsg te (gName i)) := by
 intro pins s σ H D I h
 refine wpAny_Assign_Name (thn (he pins s σ H _ I h) fun v s1 ⟨y, H1, I1, r1, q1⟩ => ?_) hs
 exact uJ I1 hN hi hx r1 (fun s2 I2 => ⟨_, H1, I2, q1⟩) hf
end
section
variable {X : Cx} {pos : Pos}
def tWhile (c : TT) (tb : TS) : TS := fun D σ H => ∃ W : Nat -> St -> Hp -> Prop, (∃ m, W m σ H) /\ ∀ m σ H, W m σ H ->
 c σ H fun b H1 => if b = true then ∃ N : St -> Hp -> Prop, (∀ σ' H', N σ' H' -> ∃ m', m' < m /\ W m' σ' H') /\ tb { D with nx := N, ct := N, bk := D.nx } σ H1 else D.nx σ H1
theorem yO4 {c : Expr} {body : List Stmt} {tc : TT} {tb : TS} (hp : PassesOwn (model X.prog X.w) X.A X.env X.xe) (hc : PT X c tc) (hb : PSs X body tb) : PS X (.While c body [] pos) (tWhile tc tb) := by
 intro pins s σ H D I h
 obtain ⟨W, ⟨m0, w0⟩, turn⟩ := h
 refine wpAny_While (codeAny_whileLoop (fun n s' => ∃ σ' H', Inv X pins σ' H' s' /\ W n σ' H') ?_ m0 ⟨σ, H, I, w0⟩)
 rintro n s1 ⟨σ1, H1, I1, w1⟩
 refine wpAny_passesOwn hp (thn (hc pins s1 σ1 H1 _ I1 (turn n σ1 H1 w1)) fun b s2 ⟨H2, I2, q2⟩ => ?_)
 cases b with
 | true =>
  obtain ⟨N, hN, q2⟩ := q2
  rw [if_pos rfl]
  refine wpAny_passesOwn hp (thn (hb pins s2 σ1 H2 _ I2 q2) fun f s3 q3 => ?_)
  cases f with
  | next =>
   obtain ⟨σ3, H3, I3, n3⟩ := q3
   obtain ⟨m', hm, w3⟩ := hN σ3 H3 n3
   exact ⟨m', hm, σ3, H3, I3, w3⟩
  | cont =>
   obtain ⟨σ3, H3, I3, n3⟩ := q3
   obtain ⟨m', hm, w3⟩ := hN σ3 H3 n3
   exact ⟨m', hm, σ3, H3, I3, w3⟩
  | brk => exact q3
  | ret v => exact q3
 | false =>
  rw [if_neg Bool.false_ne_true]
  exact wpAny_execs_nil ⟨σ1, H2, I2, q2⟩
end
structure It where
 go : Nat -> Hp -> Prop
 yld : Nat -> Hp -> V -> Hp -> Prop
 stop : Nat -> Hp -> Prop
def FpOk (X : Cx) (pins : List (Addr × Obj)) (H : Hp) (b : Addr) : Prop :=
 H b = none /\ b ≠ X.env.locals /\ b ∉ X.fs /\ (b ∈ X.ex \/ X.s₀.heap.objs.size <= b) /\ (∀ x c, X.env.cells.lookup x = some c -> c ≠ b) /\ ∀ p ∈ X.pn ++ pins, p.1 ≠ b
theorem Inv.fpOk {X : Cx} {pins : List (Addr × Obj)} {σ : St} {H H' : Hp} {s : Shared} {b : Addr} (I : Inv X pins σ H s) (hb : s.heap.objs.size <= b) (hn : H' b = none) : FpOk X pins H' b := by
 refine ⟨hn, Nat.ne_of_gt (Nat.lt_of_lt_of_le I.lt hb), I.nofs hb, .inr (Nat.le_trans I.sz hb), fun x c e z => ?_, fun p hp z => ?_⟩
 ·obtain ⟨v, q⟩ := I.cell x c e
  exact absurd (Nat.lt_of_lt_of_le q.lt (by rw [z]; exact hb)) (Nat.lt_irrefl _)
 ·exact absurd (Nat.lt_of_lt_of_le (Heap.lt_size (I.pin p hp).1) (by rw [z]; exact hb)) (Nat.lt_irrefl _)
structure Turn (P : Program) (w : World) (K : KFr) (tg : Expr) (J : It) (fp : List Addr) (it : Addr) (tn : Nat -> Heap -> Prop) : Prop where
 mem : it ∈ fp
 obj : ∀ i h, tn i h -> ∀ b ∈ fp, ∃ o, h.get? b = some o /\ ∀ v, o.data ≠ .cell v
 keep : ∀ i h h', tn i h -> (∀ b ∈ fp, ∀ o, h.get? b = some o -> h'.get? b = some o) -> tn i h'
 item : ∀ (X : Cx), X.prog = P -> X.w = w -> X.K = K -> X.calm = true -> ∀ (i : Nat) (pins : List (Addr × Obj)) (s : Shared) (σ : St) (H : Hp) (E : Value -> Shared -> Prop), Inv X pins σ H s -> (∀ b ∈ fp, FpOk X pins H b) -> tn i s.heap -> J.go i H ->
  wpAny (model P w) X.A (pyNext (.ref it)) (fun r s1 => ∃ u, r = some u /\
   wpAny (model P w) X.A (letOwnedTupleGo tg (.ref it) u) (fun _ s2 => ∃ x H', Inv X pins σ H' s2 /\ RelV x u /\ J.yld i H x H' /\ tn (i + 1) s2.heap /\ ∀ b ∈ fp, H' b = none) E s1) E s
 done : ∀ (X : Cx), X.prog = P -> X.w = w -> X.K = K -> X.calm = true -> ∀ (i : Nat) (pins : List (Addr × Obj)) (s : Shared) (σ : St) (H : Hp) (E : Value -> Shared -> Prop), Inv X pins σ H s -> (∀ b ∈ fp, FpOk X pins H b) -> tn i s.heap -> J.stop i H ->
  wpAny (model P w) X.A (pyNext (.ref it)) (fun r s1 => r = none /\ Inv X pins σ H s1) E s
 self : ∀ (A : Around) (i : Nat) (s : Shared) (Q : Value -> Shared -> Prop) (E : Value -> Shared -> Prop), tn i s.heap -> Q (.ref it) s -> wpAny (model P w) A (pyIter (.ref it)) Q E s
abbrev TI := St -> Hp -> (It -> Hp -> Prop) -> Prop
def PIE (X : Cx) (pins : List (Addr × Obj)) (σ : St) (tg : Expr) (R : It -> Hp -> Prop) (itv : Value) (s2 : Shared) : Prop :=
 ∃ (it : Addr) (fp : List Addr) (tn : Nat -> Heap -> Prop) (J : It) (H' : Hp), itv = .ref it /\ Inv X pins σ H' s2 /\ Turn X.prog X.w X.K tg J fp it tn /\ tn 0 s2.heap /\ (∀ b ∈ fp, FpOk X pins H' b) /\ R J H'
def PI (X : Cx) (tg iter : Expr) (wi : TI) : Prop :=
 ∀ (pins : List (Addr × Obj)) (s : Shared) (σ : St) (H : Hp) (R : It -> Hp -> Prop), Inv X pins σ H s -> wi σ H R ->
  wpAny (model X.prog X.w) X.A (eval iter X.env) (fun v s1 => wpAny (model X.prog X.w) X.A (pyIter v) (PIE X pins σ tg R) X.xe s1) X.xe s
theorem zU4 {M : Model} {A : Around} {E : Value -> Shared -> Prop} {s : Shared} {tg : Expr} {it : Addr} {u : Value} {o : Obj} {n : String} {vs : Array Value} {Q : Unit -> Shared -> Prop} (ho : s.heap.get? it = some o) (hc : o.cls = .type n) (hd : o.data = .fields vs)
  (hn : ["enumerate", "zip", "dict_itemiterator", "dict_reverseitemiterator", "odict_iterator", "itertools.zip_longest", "itertools.pairwise"].contains n = false) (hQ : Q () s) : wpAny M A (letOwnedTupleGo tg (.ref it) u) Q E s := by
 unfold letOwnedTupleGo
 cases tg <;> first
  | exact wpAny_pure hQ
  | (cases u <;> first
    | exact wpAny_pure hQ
    | (refine wpAny_bind (wpAny_load ho ?_)
       rw [hc, hd]
       show wpAny M A (if (["enumerate", "zip", "dict_itemiterator", "dict_reverseitemiterator", "odict_iterator", "itertools.zip_longest", "itertools.pairwise"].contains n && vs[0]? == some (rawInt _)) = true then _ else _) Q E s
       rw [if_neg (by intro h; rw [hn, Bool.false_and] at h; cases h)]
       exact wpAny_pure hQ))
def Itl (K : KFr) (a : Addr) : It :=
 ⟨fun i H => ∃ xs x, SqL K H a xs /\ xs[i]? = some x, fun i H x H' => H' = H /\ ∀ xs, SqL K H a xs -> xs[i]? = some x, fun i H => ∃ xs, SqL K H a xs /\ xs.length <= i⟩
def Itt (K : KFr) (a : Addr) : It :=
 ⟨fun i H => ∃ xs x, SqT K H a xs /\ xs[i]? = some x, fun i H x H' => H' = H /\ ∀ xs, SqT K H a xs -> xs[i]? = some x, fun i H => ∃ xs, SqT K H a xs /\ xs.length <= i⟩
def Itr (lo : Int) (n : Nat) : It := ⟨fun i _ => i < n, fun i H x H' => H' = H /\ x = .int (lo + i), fun i _ => n <= i⟩
theorem yW4 {P : Program} {w : World} {K : KFr} {tg : Expr} (a it : Addr) : Turn P w K tg (Itl K a) [it] it (fun i h => h.IsListIter it a i) where
 mem := by simp
 obj := fun i h st b hb => by
  have e : b = it := by simpa using hb
  subst e
  obtain ⟨o, e, c, d⟩ := st
  exact ⟨o, e, fun v z => by rw [d] at z; cases z⟩
 keep := fun i h h' st k => st.at fun o e => k it (by simp) o e
 item := by
  intro X hP hw hK hc i pins s σ H E I hf st hg
  subst hP hw hK
  obtain ⟨xs, x, hq, hx⟩ := hg
  obtain ⟨its, rv, p, hz⟩ := I.list hq
  obtain ⟨u, hu, ru⟩ := rv.get hx
  obtain ⟨f0, f1, f2, f3, f4, f5⟩ := hf it (by simp)
  refine wpAny_pyNext_list_item st p.isList (x := u) (by simpa using hu) fun h' st' sb => ?_
  have I1 : Inv X pins σ H { s with heap := h' } := I.turned (t' := s.toks) (fun b o hb e => (sb.2 b hb).trans e) f0 f1 f3 f4 f5
  obtain ⟨o, e, c, d⟩ := id st'
  exact ⟨u, rfl, zU4 (s := { s with heap := h' }) e c d (by decide) ⟨x, H, I1, ru, ⟨rfl, fun ys hy => by rw [I.yP2 hy hq]; exact hx⟩, st', fun b hb => (hf b hb).1⟩⟩
 done := by
  intro X hP hw hK hc i pins s σ H E I hf st hg
  subst hP hw hK
  obtain ⟨xs, hq, hx⟩ := hg
  obtain ⟨its, rv, p, hz⟩ := I.list hq
  obtain ⟨f0, f1, f2, f3, f4, f5⟩ := hf it (by simp)
  have hl := rv.length
  exact wpAny_pyNext_list_end (I.ok.hd hc) st p.isList (by simp; bv_omega) fun h' eb => ⟨rfl, I.turned (t' := s.toks) (fun b o hb e => eb b o hb e) f0 f1 f3 f4 f5⟩
 self := fun _ _ _ _ _ st h => wpAny_pyIter_listiter st h
theorem zE8 {P : Program} {w : World} {K : KFr} {tg : Expr} (a it : Addr) : Turn P w K tg (Itt K a) [it] it (fun i h => h.IsTupleIter it a i) where
 mem := by simp
 obj := fun i h st b hb => by
  have e : b = it := by simpa using hb
  subst e
  obtain ⟨o, e, c, d⟩ := st
  exact ⟨o, e, fun v z => by rw [d] at z; cases z⟩
 keep := fun i h h' st k => st.at fun o e => k it (by simp) o e
 item := by
  intro X hP hw hK hc i pins s σ H E I hf st hg
  subst hP hw hK
  obtain ⟨xs, x, hq, hx⟩ := hg
  obtain ⟨its, rv, p, hz⟩ := I.tuple hq
  obtain ⟨u, hu, ru⟩ := rv.get hx
  obtain ⟨f0, f1, f2, f3, f4, f5⟩ := hf it (by simp)
  refine wpAny_pyNext_tuple_item st (show s.heap.IsTuple a its.toArray from p) (x := u) (by simpa using hu) fun h' st' sb => ?_
  have I1 : Inv X pins σ H { s with heap := h' } := I.turned (t' := s.toks) (fun b o hb e => (sb.2 b hb).trans e) f0 f1 f3 f4 f5
  obtain ⟨o, e, c, d⟩ := id st'
  exact ⟨u, rfl, zU4 (s := { s with heap := h' }) e c d (by decide) ⟨x, H, I1, ru, ⟨rfl, fun ys hy => by rw [I.yX6 hy hq]; exact hx⟩, st', fun b hb => (hf b hb).1⟩⟩
 done := by
  intro X hP hw hK hc i pins s σ H E I hf st hg
  subst hP hw hK
  obtain ⟨xs, hq, hx⟩ := hg
  obtain ⟨its, rv, p, hz⟩ := I.tuple hq
  obtain ⟨f0, f1, f2, f3, f4, f5⟩ := hf it (by simp)
  have hl := rv.length
  exact wpAny_pyNext_tuple_end (I.ok.hd hc) st (show s.heap.IsTuple a its.toArray from p) (by simp; bv_omega) fun h' eb => ⟨rfl, I.turned (t' := s.toks) (fun b o hb e => eb b o hb e) f0 f1 f3 f4 f5⟩
 self := fun _ _ _ _ _ st h => wpAny_pyIter_tupleiter st h
theorem zH8 {P : Program} {w : World} {K : KFr} {tg : Expr} (it : Addr) (lo : Int) (n : Nat) : Turn P w K tg (Itr lo n) [it] it (fun i h => IsRangeIter h it (lo + (i : Nat) * 1) ((n : Int) - (i : Nat)) 1) where
 mem := by simp
 obj := fun i h st b hb => by
  have e : b = it := by simpa using hb
  subst e
  exact ⟨_, st, fun v z => by
   have z' : Data.fields _ = Data.cell v := z
   cases z'⟩
 keep := fun i h h' st k => k it (by simp) _ st
 item := by
  intro X hP hw hK hc i pins s σ H E I hf st hg
  subst hP hw hK
  obtain ⟨f0, f1, f2, f3, f4, f5⟩ := hf it (by simp)
  have W := Walks.range (prog := X.prog) (w := X.w) (I.ok.hd hc) it lo 1 n
  refine W.item i s _ _ hg st fun v h' tk hv st' kk => ?_
  obtain ⟨t, rfl⟩ := hv
  have I1 : Inv X pins σ H { s with heap := h', toks := tk } := I.turned (fun b o hb e => kk b o (by simpa using hb) e) f0 f1 f3 f4 f5
  refine ⟨_, rfl, zU4 (s := { s with heap := h', toks := tk }) (n := "range_iterator") st' rfl rfl (by decide) ⟨.int (lo + i), H, I1, ⟨t, ?_⟩, ⟨rfl, rfl⟩, st', fun b hb => (hf b hb).1⟩⟩
  rw [Int.mul_one]
 done := by
  intro X hP hw hK hc i pins s σ H E I hf st hg
  subst hP hw hK
  obtain ⟨f0, f1, f2, f3, f4, f5⟩ := hf it (by simp)
  exact wpAny_pyNext_range_end (I.ok.hd hc) st (by have : n <= i := hg; bv_omega) fun h' eb => ⟨rfl, I.turned (t' := s.toks) (fun b o hb e => eb b o hb e) f0 f1 f3 f4 f5⟩
 self := fun _ _ _ _ _ st h => wpAny_pyIter_rangeiter st h
section
variable {X : Cx} {tg : Expr}
theorem yO1 {pins : List (Addr × Obj)} {σ : St} {H : Hp} {s : Shared} {R : It -> Hp -> Prop} {E : Value -> Shared -> Prop} {lo hi : Int} {t u v : Tok} {tk : Nat} (I : Inv X pins σ H s) (h1 : -(2 ^ 62) <= lo) (h2 : lo < 2 ^ 62) (h3 : -(2 ^ 62) <= hi) (h4 : hi < 2 ^ 62)
  (q : R (Itr lo (hi - lo).toNat) H) : wpAny (model X.prog X.w) X.A (pyIter (.ref s.heap.objs.size)) (PIE X pins σ tg R) E { s with heap := s.heap.push { cls := .type "range", data := .fields #[.int lo t, .int hi u, .int 1 v] }, toks := tk } := by
 refine wpAny_pyIter_range (IsRange.new ..) (small_one h1 h2 h3 h4) ?_
 have I1 : Inv X pins σ H { s with heap := s.heap.push { cls := .type "range", data := .fields #[.int lo t, .int hi u, .int 1 v] }, toks := tk } := I.kept fun b o e => Heap.get?_push_of_some _ e
 refine ⟨(s.heap.push { cls := .type "range", data := .fields #[.int lo t, .int hi u, .int 1 v] }).objs.size, [(s.heap.push { cls := .type "range", data := .fields #[.int lo t, .int hi u, .int 1 v] }).objs.size], _, _, H, rfl,
  I1.kept (t' := tk) fun b o e => Heap.get?_push_of_some _ e, zH8 _ lo (hi - lo).toNat, ?_, fun b hb => ?_, q⟩
 ·have e1 : lo + ((0 : Nat) : Int) * 1 = lo := by simp
  have e2 : (((hi - lo).toNat : Nat) : Int) - ((0 : Nat) : Int) = Builtin.Range.rangeSize lo hi 1 := by rw [rangeSize_one]; split <;> bv_omega
  show IsRangeIter _ _ (lo + ((0 : Nat) : Int) * 1) ((((hi - lo).toNat : Nat) : Int) - ((0 : Nat) : Int)) 1
  rw [e1, e2]
  exact Heap.get?_push_size _ rfl
 ·have e : b = (s.heap.push { cls := .type "range", data := .fields #[.int lo t, .int hi u, .int 1 v] }).objs.size := by simpa using hb
  subst e
  exact I1.fpOk (Nat.le_refl _) (I1.hok.fresh (Nat.le_refl _))
def iRng1 (ta : TA) : TI := fun σ H R => ta σ H fun vs H1 => ∃ j : Int, vs = [.int j] /\ -(2 ^ 62) <= j /\ j < 2 ^ 62 /\ R (Itr 0 j.toNat) H1
theorem yY6 {a : Expr} {ta : TA} {p pos : Pos} (hg : Gl X "range") (hm : X.mg "range" = none) (ha : PA X [a] ta) (hs : autoParam (starEach [a] X.env = [(false, eval a X.env)]) zZ._auto_1) : PI X tg (.Call (.Name "range" p) [a] [] pos) (iRng1 ta) := by
 intro pins s σ H R I h
 refine Call_ (cJ I hg hm boot_range (PyProof.Rows.callWith_type1 (thn (ha pos pins s σ H _ I h) fun us s1 ⟨vs, H1, I1, r1, q1⟩ => ?_) hs rfl))
 obtain ⟨j, e, q1, q2, q⟩ := q1
 subst e
 cases r1 with
 | cons r rr =>
  cases rr
  obtain ⟨t, rfl⟩ := r
  exact call_range_1 (yO1 I1 (by bv_omega) (by bv_omega) q1 q2 (by simpa using q))
def tFor (wi : TI) (g : TG) (tb : TS) : TS := fun D σ H => wi σ H fun J H1 => ∃ W : Nat -> Nat -> St -> Hp -> Prop, (∃ m, W 0 m σ H1) /\ ∀ i m σ H, W i m σ H ->
 (J.stop i H /\ D.nx σ H) \/ (J.go i H /\ ∃ N : St -> Hp -> Prop, (∀ σ' H', N σ' H' -> ∃ m', m' < m /\ W (i + 1) m' σ' H') /\ ∀ x H', J.yld i H x H' -> g x σ H' fun σ2 H2 => tb { D with nx := N, ct := N, bk := D.nx } σ2 H2)
def pinsAt (fp : List Addr) (h : Heap) : List (Addr × Obj) := fp.filterMap fun b => (h.get? b).map fun o => (b, o)
theorem vU {fp : List Addr} {h : Heap} {b : Addr} {o : Obj} (hb : b ∈ fp) (e : h.get? b = some o) : (b, o) ∈ pinsAt fp h := List.mem_filterMap.mpr ⟨b, hb, by rw [e]; rfl⟩
theorem zB6 {fp : List Addr} {h : Heap} {p : Addr × Obj} (hp : p ∈ pinsAt fp h) : p.1 ∈ fp /\ h.get? p.1 = some p.2 := by
 obtain ⟨b, hb, e⟩ := List.mem_filterMap.mp hp
 cases q : h.get? b with
 | none => rw [q] at e; cases e
 | some o =>
  rw [q] at e
  have e' : (b, o) = p := Option.some.inj e
  subst e'
  exact ⟨hb, q⟩
theorem Inv.pinned {pins : List (Addr × Obj)} {σ : St} {H : Hp} {s : Shared} {fp : List Addr} (I : Inv X pins σ H s) (hf : ∀ b ∈ fp, FpOk X pins H b) (ho : ∀ b ∈ fp, ∃ o, s.heap.get? b = some o /\ ∀ v, o.data ≠ .cell v) : Inv X (pins ++ pinsAt fp s.heap) σ H s :=
 I.xV fun p hp => (List.mem_append.mp hp).elim (fun z => I.pin p (List.mem_append_right _ z)) fun z => by
  obtain ⟨hb, e⟩ := zB6 z
  obtain ⟨f0, f1, f2, _⟩ := hf p.1 hb
  obtain ⟨o, e', d⟩ := ho p.1 hb
  rw [e] at e'; cases e'
  exact ⟨e, f0, f1, f2, d⟩
theorem Inv.unpinned {pins pl : List (Addr × Obj)} {σ : St} {H : Hp} {s : Shared} (I : Inv X (pins ++ pl) σ H s) : Inv X pins σ H s := I.xV fun p hp => I.pin p (List.mem_append_right _ (List.mem_append_left _ hp))
theorem yF7 {iter : Expr} {body : List Stmt} {wi : TI} {g : TG} {tb : TS} {pos : Pos} (hp : PassesOwn (model X.prog X.w) X.A X.env X.xe) (hc : X.calm = true) (hi : PI X tg iter wi) (hg : PG X tg g) (hb : PSs X body tb)
  (hs : autoParam (∀ x, foldedSetIterable iter X.env x = pure x) xG._auto_1) : PS X (.For tg iter body [] pos) (tFor wi g tb) := by
 intro pins s σ H D I h
 refine wpAny_For (thn (hi pins s σ H _ I h) fun v s1 h1 => thn h1 fun itv s2 h2 => ?_) hs
 obtain ⟨it, fp, tn, J, H2, e, I2, T, st2, f2, W, ⟨m0, w0⟩, turn⟩ := h2
 subst e
 have stat : ∀ {H' : Hp}, (∀ b ∈ fp, H' b = none) -> ∀ b ∈ fp, FpOk X pins H' b := fun hn b hb => ⟨hn b hb, (f2 b hb).2⟩
 refine codeAny_forLoop_any (fun n s' => ∃ i σ' H', Inv X pins σ' H' s' /\ tn i s'.heap /\ (∀ b ∈ fp, H' b = none) /\ W i n σ' H') ?_ m0 ⟨0, σ, H2, I2, st2, fun b hb => (f2 b hb).1, w0⟩
 rintro n s3 ⟨i, σ3, H3, I3, st3, fr3, w3⟩
 rcases turn i n σ3 H3 w3 with ⟨stop, qn⟩ | ⟨go, N, hN, step⟩
 ·refine wpAny_passesOwn hp (thn (T.done X rfl rfl rfl hc i pins s3 σ3 H3 X.xe I3 (stat fr3) st3 stop) fun r s4 ⟨hr, I4⟩ => ?_)
  subst hr
  exact wpAny_execs_nil ⟨σ3, H3, I4, qn⟩
 ·refine wpAny_passesOwn hp (thn (T.item X rfl rfl rfl hc i pins s3 σ3 H3 X.xe I3 (stat fr3) st3 go) fun r s4 ⟨u, hr, h4⟩ => ?_)
  subst hr
  refine wpAny_passesOwn hp (thn h4 fun _ s5 ⟨x, H5, I5, r5, y5, st5, fr5⟩ => ?_)
  have I5' := I5.pinned (stat fr5) (T.obj _ _ st5)
  refine wpAny_passesOwn hp (thn (hg _ s5 σ3 H5 x u _ I5' r5 (step x H5 y5)) fun _ s6 ⟨σ6, H6, I6, q6⟩ => ?_)
  refine wpAny_passesOwn hp (thn (hb _ s6 σ6 H6 _ I6 q6) fun f s7 q7 => ?_)
  have again : ∀ {σ7 : St} {H7 : Hp}, Inv X (pins ++ pinsAt fp s5.heap) σ7 H7 s7 -> N σ7 H7 -> ∃ m, m < n /\ ∃ i σ' H', Inv X pins σ' H' s7 /\ tn i s7.heap /\ (∀ b ∈ fp, H' b = none) /\ W i m σ' H' := fun {σ7 H7} I7 n7 => by
   obtain ⟨m', hm, w7⟩ := hN σ7 H7 n7
   refine ⟨m', hm, i + 1, σ7, H7, I7.unpinned, T.keep _ _ _ st5 fun b hb o e => (I7.pin (b, o) (List.mem_append_right _ (List.mem_append_right _ (vU hb e)))).1, fun b hb => ?_, w7⟩
   obtain ⟨o, e, d⟩ := T.obj _ _ st5 b hb
   exact (I7.pin (b, o) (List.mem_append_right _ (List.mem_append_right _ (vU hb e)))).2.1
  cases f with
  | next => obtain ⟨σ7, H7, I7, n7⟩ := q7; exact again I7 n7
  | cont => obtain ⟨σ7, H7, I7, n7⟩ := q7; exact again I7 n7
  | brk => obtain ⟨σ7, H7, I7, q7⟩ := q7; exact ⟨σ7, H7, I7.unpinned, q7⟩
  | ret v => obtain ⟨x7, σ7, H7, I7, r7, q7⟩ := q7; exact ⟨x7, σ7, H7, I7.unpinned, r7, q7⟩
end
abbrev R2 := V -> V -> Hp -> VK -> Prop
def OpR (X : Cx) (f : Value -> Value -> Sem Value) (r : R2) : Prop :=
 ∀ (pins : List (Addr × Obj)) (s : Shared) (σ : St) (H : Hp) (x y : V) (v u : Value) (Q : VK), Inv X pins σ H s -> RelV x v -> RelV y u -> r x y H Q ->
  wpAny (model X.prog X.w) X.A (f v u) (EP X pins σ Q) X.xe s
def UnR (X : Cx) (f : Value -> Sem Value) (r : V -> Hp -> VK -> Prop) : Prop :=
 ∀ (pins : List (Addr × Obj)) (s : Shared) (σ : St) (H : Hp) (x : V) (v : Value) (Q : VK), Inv X pins σ H s -> RelV x v -> r x H Q ->
  wpAny (model X.prog X.w) X.A (f v) (EP X pins σ Q) X.xe s
def CallR (X : Cx) (f : Value) (r : List V -> Hp -> VK -> Prop) : Prop :=
 ∀ (pins : List (Addr × Obj)) (s : Shared) (σ : St) (H : Hp) (xs : List V) (us : List Value) (Q : VK), Inv X pins σ H s -> Vals xs us -> r xs H Q ->
  wpAny (model X.prog X.w) X.A (call f us) (EP X pins σ Q) X.xe s
def tOp (r : R2) (ta tb : TE) : TE := fun σ H Q => ta σ H fun x H1 => tb σ H1 fun y H2 => r x y H2 Q
def tUn (r : V -> Hp -> VK -> Prop) (ta : TE) : TE := fun σ H Q => ta σ H fun x H1 => r x H1 Q
def rI (C : Int -> Int -> Prop) (g : Int -> Int -> V) : R2 := fun x y H Q => ∃ i j, x = .int i /\ y = .int j /\ C i j /\ Q (g i j) H
def rI0 (g : Int -> Int -> V) : R2 := fun x y H Q => ∃ i j, x = .int i /\ y = .int j /\ Q (g i j) H
def rU (g : Int -> V) : V -> Hp -> VK -> Prop := fun x H Q => ∃ i, x = .int i /\ Q (g i) H
section
variable {X : Cx} {a b c : Expr} {ta tb tc : TE} {pos : Pos}
theorem binT (ha : PE X a ta) (hb : PE X b tb) {pins : List (Addr × Obj)} {s : Shared} {σ : St} {H : Hp} {R : V -> V -> Hp -> Prop} (I : Inv X pins σ H s)
  (h : ta σ H fun x H1 => tb σ H1 fun y H2 => R x y H2) {Q : Value -> Shared -> Prop} {f : Value -> Value -> Sem Value}
  (hf : ∀ v u s2 x y H2, Inv X pins σ H2 s2 -> RelV x v -> RelV y u -> R x y H2 -> wpAny (model X.prog X.w) X.A (f v u) Q X.xe s2) :
  wpAny (model X.prog X.w) X.A (eval a X.env) (fun v s₁ => wpAny (model X.prog X.w) X.A (eval b X.env) (fun u s₂ => wpAny (model X.prog X.w) X.A (f v u) Q X.xe s₂) X.xe s₁) X.xe s := by
 refine thn (ha pins s σ H _ I h) fun v s1 ⟨x, H1, I1, r1, q1⟩ => ?_
 refine thn (hb pins s1 σ H1 _ I1 q1) fun u s2 ⟨y, H2, I2, r2, q2⟩ => ?_
 exact hf v u s2 x y H2 I2 r1 r2 q2
theorem xW9 {op : Operator} {r : R2} (ho : OpR X (binaryOp op) r) (ha : PE X a ta) (hb : PE X b tb) : PE X (.BinOp a op b pos) (tOp r ta tb) := by
 intro pins s σ H Q I h
 exact wpAny_BinOp (binT ha hb I h fun v u s2 x y H2 I2 rx ry q => ho pins s2 σ H2 x y v u Q I2 rx ry q)
theorem xV7 {op : UnaryOp} {r : V -> Hp -> VK -> Prop} (ho : UnR X (unaryOp op) r) (ha : PE X a ta) : PE X (.UnaryOp op a pos) (tUn r ta) := by
 intro pins s σ H Q I h
 exact UnaryOp_ (thn (ha pins s σ H _ I h) fun v s1 ⟨x, H1, I1, r1, q1⟩ => ho pins s1 σ H1 x v Q I1 r1 q1)
theorem opI {f : Value -> Value -> Sem Value} {C : Int -> Int -> Prop} {g : Int -> Int -> Int}
  (rule : ∀ (i j : Int) (t u : Tok) (s : Shared) (Q : Value -> Shared -> Prop) (E : Value -> Shared -> Prop), C i j -> Q (.int (g i j) s.toks) { s with toks := s.toks + 1 } -> wpAny (model X.prog X.w) X.A (f (.int i t) (.int j u)) Q E s) :
  OpR X f (rI C fun i j => .int (g i j)) := by
 intro pins s σ H x y v u Q I rx ry h
 obtain ⟨i, j, rfl, rfl, hc, q⟩ := h
 obtain ⟨t, rfl⟩ := rx
 obtain ⟨t', rfl⟩ := ry
 exact rule i j t t' s _ _ hc ⟨.int (g i j), H, I.tok _, ⟨_, rfl⟩, q⟩
theorem opI0 {f : Value -> Value -> Sem Value} {g : Int -> Int -> Int}
  (rule : ∀ (i j : Int) (t u : Tok) (s : Shared) (Q : Value -> Shared -> Prop) (E : Value -> Shared -> Prop), Q (.int (g i j) s.toks) { s with toks := s.toks + 1 } -> wpAny (model X.prog X.w) X.A (f (.int i t) (.int j u)) Q E s) :
  OpR X f (rI0 fun i j => .int (g i j)) := by
 intro pins s σ H x y v u Q I rx ry h
 obtain ⟨i, j, rfl, rfl, q⟩ := h
 obtain ⟨t, rfl⟩ := rx
 obtain ⟨t', rfl⟩ := ry
 exact rule i j t t' s _ _ ⟨.int (g i j), H, I.tok _, ⟨_, rfl⟩, q⟩
theorem opB0 {f : Value -> Value -> Sem Value} {g : Int -> Int -> Bool}
  (rule : ∀ (i j : Int) (t u : Tok) (s : Shared) (Q : Value -> Shared -> Prop) (E : Value -> Shared -> Prop), Q (.bool (g i j)) s -> wpAny (model X.prog X.w) X.A (f (.int i t) (.int j u)) Q E s) :
  OpR X f (rI0 fun i j => .bl (g i j)) := by
 intro pins s σ H x y v u Q I rx ry h
 obtain ⟨i, j, rfl, rfl, q⟩ := h
 obtain ⟨t, rfl⟩ := rx
 obtain ⟨t', rfl⟩ := ry
 exact rule i j t t' s _ _ ⟨.bl (g i j), H, I, rfl, q⟩
def CMul (i j : Int) : Prop := (-(2 ^ 64) < i /\ i < 2 ^ 64) \/ (-(2 ^ 64) < j /\ j < 2 ^ 64)
theorem CMul.ok {i j : Int} (h : CMul i j) : IntMulOk i j := by
 rcases h with ⟨h1, h2⟩ | ⟨h1, h2⟩
 ·exact .of_left (intBits_le_64 h1 h2)
 ·exact .of_right (intBits_le_64 h1 h2)
theorem uB : OpR X (binaryOp .Add) (rI0 fun i j => .int (i + j)) := opI0 fun _ _ _ _ _ _ _ q => add_int q
theorem zA5 : OpR X (binaryOp .Sub) (rI0 fun i j => .int (i - j)) := opI0 fun _ _ _ _ _ _ _ q => sub_int q
theorem qU : OpR X (binaryOp .Mod) (rI (fun _ j => 0 < j) fun i j => .int (i % j)) := opI fun i j _ _ _ _ _ hc q => by
 have h1 : (0 : Int) < j := hc
 exact mod_int' (by bv_omega) (by rw [Int.fmod_eq_emod_of_nonneg i (by bv_omega)]; exact q)
theorem unI {f : Value -> Sem Value} {g : Int -> Int}
  (rule : ∀ (i : Int) (t : Tok) (s : Shared) (Q : Value -> Shared -> Prop) (E : Value -> Shared -> Prop), Q (.int (g i) s.toks) { s with toks := s.toks + 1 } -> wpAny (model X.prog X.w) X.A (f (.int i t)) Q E s) :
  UnR X f (rU fun i => .int (g i)) := by
 intro pins s σ H x v Q I rx h
 obtain ⟨i, rfl, q⟩ := h
 obtain ⟨t, rfl⟩ := rx
 exact rule i t s _ _ ⟨.int (g i), H, I.tok _, ⟨_, rfl⟩, q⟩
theorem yG3 : UnR X (unaryOp .USub) (rU fun i => .int (-i)) := unI fun _ _ _ _ _ q => neg_int q
end
section
variable {X : Cx} {a b c : Expr} {ta tb tc : TE} {pos : Pos}
theorem zT1 {pins : List (Addr × Obj)} {σ : St} {H : Hp} {s : Shared} {Q : VK} {k k' : Bool} (I : Inv X pins σ H s) (q : Q (.bl k) H) (e : k = k') : EP X pins σ Q (.bool k') s := by
 subst e
 exact ⟨.bl k, H, I, rfl, q⟩
theorem yO8 : OpR X (compareOp .Lt) (rI0 fun i j => .bl (decide (i < j))) := opB0 fun _ _ _ _ _ _ _ q => lt_int q
theorem yN1 : OpR X (compareOp .LtE) (rI0 fun i j => .bl (decide (i <= j))) := opB0 fun _ _ _ _ _ _ _ q => le_int q
theorem cB : OpR X (compareOp .Gt) (rI0 fun i j => .bl (decide (j < i))) := opB0 fun _ _ _ _ _ _ _ q => gt_int q
theorem zB2 : OpR X (compareOp .In) (fun x y H Q => ∃ i j, x = .str i /\ y = .str j /\ Q (.bl (!(Builtin.Str.occurrences j i 0 j.length 1).isEmpty)) H) := by
 intro pins s σ H x y v u Q I rx ry h
 obtain ⟨i, j, rfl, rfl, q⟩ := h
 obtain ⟨t, rfl⟩ := rx
 obtain ⟨t', rfl⟩ := ry
 exact in_str (zT1 I q rfl)
theorem yB3 : OpR X (compareOp .Is) (fun x y H Q => y = .non /\ Q (.bl (decide (x = .non))) H) := by
 intro pins s σ H x y v u Q I rx ry h
 obtain ⟨rfl, q⟩ := h
 cases ry
 refine is_none_gen (zT1 I q ?_)
 cases x <;> first
  | (cases rx; rfl)
  | (obtain ⟨t, rfl⟩ := rx; rfl)
theorem yH6 : OpR X (compareOp .IsNot) (fun x y H Q => y = .non /\ Q (.bl (!decide (x = .non))) H) := by
 intro pins s σ H x y v u Q I rx ry h
 obtain ⟨rfl, q⟩ := h
 cases ry
 refine isnot_none_gen (zT1 I q ?_)
 cases x <;> first
  | (cases rx; rfl)
  | (obtain ⟨t, rfl⟩ := rx; rfl)
def isObj : HO -> Bool
 | .lst _ => true
 | .ins _ _ _ => true
 | _ => false
theorem wD {pins : List (Addr × Obj)} {s : Shared} {σ : St} {H : Hp} {a : Addr} {o : HO} (I : Inv X pins σ H s) (h : H a = some o) (p : isObj o = true) : ∃ ob, s.heap.get? a = some ob /\ ob.cls ≠ .type "tuple" := by
 cases o with
 | lst xs =>
  obtain ⟨_, its, n, _, e⟩ : xs.length <= sizeLine /\ ∃ (its : List Value) (n : Nat), Vals xs its /\ s.heap.get? a = some { cls := .type "list", data := .seq its.toArray n } := I.hok a _ h
  exact ⟨_, e, (by show Value.type "list" ≠ .type "tuple"; decide +kernel)⟩
 | ins C dx fs =>
  have x := I.hok a _ h
  obtain ⟨_, _, _, e, _⟩ := x
  exact ⟨_, e, (by show Value.ref C ≠ .type "tuple"; exact fun z => by cases z)⟩
 | _ => exact absurd (show false = true from p) Bool.false_ne_true
theorem nomark (b : Expr) {op : CmpOp} (h : autoParam (op ≠ .In) zO._auto_1) (h2 : autoParam (op ≠ .NotIn) zO._auto_1) : behindInMarks op b = false := by
 have e1 : (op == CmpOp.In) = false := by cases op <;> first | rfl | exact absurd rfl h
 have e2 : (op == CmpOp.NotIn) = false := by cases op <;> first | rfl | exact absurd rfl h2
 cases b <;> simp [behindInMarks, e1, e2]
theorem yI6 {op : CmpOp} {r : R2} (ho : OpR X (compareOp op) r) (ha : PE X a ta) (hb : PE X b tb) (hm : behindInMarks op b = false) : PE X (.Compare a [op] [b] pos) (tOp r ta tb) := by
 intro pins s σ H Q I h
 exact wpAny_Compare1 (binT ha hb I h fun v u s2 x y H2 I2 rx ry q => ho pins s2 σ H2 x y v u Q I2 rx ry q) hm
def tTest (t : TE) : TT := fun σ H Q => t σ H fun x H' => ∃ k, x = .bl k /\ Q k H'
theorem yK7 {op : CmpOp} {r : R2} (ho : OpR X (compareOp op) r) (ha : PE X a ta) (hb : PE X b tb) (hm : behindInMarks op b = false) : PT X (.Compare a [op] [b] pos) (tTest (tOp r ta tb)) := by
 intro pins s σ H Q I h
 refine wpAny_isTrue_Compare1 (thn (ha pins s σ H _ I h) fun v s1 ⟨x, H1, I1, r1, q1⟩ => thn (hb pins s1 σ H1 _ I1 q1) fun u s2 ⟨y, H2, I2, r2, q2⟩ =>
  thn (ho pins s2 σ H2 x y v u _ I2 r1 r2 q2) fun c s3 ⟨z, H3, I3, r3, k, e, q3⟩ => ?_) hm
 subst e
 cases r3
 exact wpAny_truthy_bool ⟨H3, I3, q3⟩
def tChain (r r' : R2) (ta tb tc : TE) : TE := fun σ H Q => ta σ H fun x H1 => tb σ H1 fun y H2 => r x y H2 fun z H3 => ∃ k, z = .bl k /\
 (if k = true then tc σ H3 fun w' H4 => r' y w' H4 Q else Q (.bl false) H3)
theorem yP5 {op op' : CmpOp} {r r' : R2} (ho : OpR X (compareOp op) r) (ho' : OpR X (compareOp op') r') (ha : PE X a ta) (hb : PE X b tb) (hc : PE X c tc)
  (hm : autoParam (lastMarks [op, op'] [b, c] = false) yU4._auto_1) : PE X (.Compare a [op, op'] [b, c] pos) (tChain r r' ta tb tc) := by
 intro pins s σ H Q I h
 refine Compare_chain (thn (ha pins s σ H _ I h) fun v s1 ⟨x, H1, I1, r1, q1⟩ => chain_link (thn (hb pins s1 σ H1 _ I1 q1) fun u s2 ⟨y, H2, I2, r2, q2⟩ =>
  thn (ho pins s2 σ H2 x y v u _ I2 r1 r2 q2) fun d s3 ⟨z, H3, I3, r3, k, e, q3⟩ => ?_)) hm
 subst e
 cases r3
 refine wpAny_truthy_bool ?_
 cases k with
 | false => exact ite_ff ⟨.bl false, H3, I3, rfl, q3⟩
 | true => exact ite_tt (chain_last (thn (hc pins s3 σ H3 _ I3 q3) fun w' s4 ⟨z', H4, I4, r4, q4⟩ => ho' pins s4 σ H4 y z' u w' Q I4 r2 r4 q4))
theorem line63 : (sizeLine : Nat) < 2 ^ 63 := by rw [sizeLine_eq]; decide
theorem yT : OpR X (binaryOp .Add) (fun x y H Q => ∃ i j, x = .str i /\ y = .str j /\ i.length + j.length <= sizeLine /\ Q (.str (i ++ j)) H) := by
 intro pins s σ H x y v u Q I rx ry h
 obtain ⟨i, j, rfl, rfl, hz, q⟩ := h
 obtain ⟨t, rfl⟩ := rx
 obtain ⟨t', rfl⟩ := ry
 exact add_str (fun t' tk => ⟨.str (i ++ j), H, I.tok _, ⟨_, rfl⟩, q⟩) hz
theorem vals1 {x : V} {us : List Value} (r : Vals [x] us) : ∃ u, us = [u] /\ RelV x u := by
 cases r with
 | cons r1 r2 => cases r2; exact ⟨_, rfl, r1⟩
theorem vals2 {x y : V} {us : List Value} (r : Vals [x, y] us) : ∃ u w', us = [u, w'] /\ RelV x u /\ RelV y w' := by
 cases r with
 | cons r1 r2 =>
  cases r2 with
  | cons r3 r4 => cases r4; exact ⟨_, _, rfl, r1, r3⟩
theorem zO4 : CallR X (.builtin "abs") (fun xs H Q => ∃ i, xs = [.int i] /\ Q (.int (if i < 0 then -i else i)) H) := by
 intro pins s σ H xs us Q I r h
 obtain ⟨i, rfl, q⟩ := h
 obtain ⟨u, rfl, t, rfl⟩ := vals1 r
 exact call_abs_int fun u tk => ⟨.int (if i < 0 then -i else i), H, I.tok _, ⟨_, rfl⟩, q⟩
theorem uQ : CallR X (.type "str") (fun xs H Q => ∃ i, xs = [.int i] /\ i.natAbs.log2 < 1920 /\ Q (.str (toString i)) H) := by
 intro pins s σ H xs us Q I r h
 obtain ⟨i, rfl, hz, q⟩ := h
 obtain ⟨u, rfl, t, rfl⟩ := vals1 r
 exact PySem.P.str_of_int hz ⟨.str _, H, I.tok _, ⟨_, rfl⟩, q⟩
end
structure ObjM (h : Heap) (x dx C : Addr) (mA : Str -> Option Value) : Prop where
 obj : h.get? x = some (PySem.W.instObj C dx)
 ns : h.Ns1 dx mA
 ne : dx ≠ x
theorem yV2 {h : Heap} {dx : Addr} {mA : Str -> Option Value} (n : h.Ns1 dx mA) : ∃ od, h.get? dx = some od /\ ∀ name, PySem.W.lookIn name od = some (mA name) := by
 obtain ⟨o, es, ep, ho, hd, hk, _, hm⟩ := n
 refine ⟨o, ho, fun name => ?_⟩
 have e := hm name
 unfold nsFind findBy at e
 rw [<- Array.find?_toList] at e
 unfold PySem.W.lookIn
 rw [hd]
 dsimp only
 split
 ·rename_i y q
  rw [q] at e
  exact congrArg some e
 ·rename_i q
  rw [q] at e
  have a : es.toList.any (·.refKey) = false := by
   rw [List.any_eq_false]
   intro y hy
   obtain ⟨z, t, hkey⟩ := hk y (Array.mem_toList_iff.mp hy)
   simp [DictEntry.refKey, hkey]
  have a' : ¬ es.toList.any (·.refKey) = true := by rw [a]; exact Bool.false_ne_true
  rw [if_neg a']
  exact congrArg some e
theorem ObjM.look {h : Heap} {x dx C : Addr} {mA : Str -> Option Value} (I : ObjM h x dx C mA) : ∃ od, PySem.W.InstAt h x (PySem.W.instObj C dx) C (some od) /\ ∀ name, PySem.W.lookIn name od = some (mA name) :=
 let ⟨od, ho, hl⟩ := yV2 I.ns
 ⟨od, ⟨I.obj, rfl, rfl, ho⟩, hl⟩
section
variable {prog : Program} {w : World} {A : Around} {E : Value -> Shared -> Prop} {s : Shared} {K : KFr} {x dx C f : Addr} {mA : Str -> Option Value} {name : Str} {v : Value}
end
section
variable {P : Program} {w : World} {H H' : Hp} {h h' : Heap} {a C dx : Addr} {fs fs' : List (Str × V)}
theorem yJ7 (hok : HOk P w H h) (e : H a = some (.ins C dx fs)) : ∃ mA, ObjM h a dx C mA /\ (∀ f, RelO (fs.lookup f) (mA f)) /\ PySem.Within mA (fs.map (·.1)) /\ fs.length <= 1000 /\ H dx = some (.own a) := by
 obtain ⟨d, z, ne, ob, mA, n, r, q⟩ := (show ObjOk P w H h a (.ins C dx fs) from hok a _ e)
 exact ⟨mA, ⟨ob, n, ne⟩, r, q, z, d⟩
end
structure Cls (K : KFr) (C : Addr) : Prop where
 pg : PySem.W.plainGet K C Str.empty = true
 hd : PySem.W.hasDictIn K C = true
 po : PySem.W.plainOver K C = true
 sa : PySem.W.findIn K (.ref C) "__setattr__" = some (some (.builtin "object.__setattr__"))
theorem Cls.get {K : KFr} {C : Addr} (c : Cls K C) (f : Str) : PySem.W.plainGet K C f = true := c.pg
structure Con (K : KFr) (C : Addr) (f : Str) (v : V) (u : Value) : Prop where
 at_ : PySem.W.findIn K (.ref C) f = some (some u)
 rel : RelV v u
 get : PySem.W.specialIn K u "__get__" = some none
 cp : PySem.W.copiedNames.contains f = false
structure Meth (K : KFr) (C : Addr) (m : Str) (f : Addr) : Prop where
 at_ : PySem.W.findIn K (.ref C) m = some (some (.ref f))
 fn : PySem.W.isFn K (.ref f) = true
 kp : PySem.W.keepIn K (.ref f) = true
section
variable {X : Cx} {pins : List (Addr × Obj)} {σ : St} {H : Hp} {s : Shared} {a C dx : Addr} {fs : List (Str × V)} {f : Str} {v : V} {A : Around} {E : Value -> Shared -> Prop}
end
section
variable {X : Cx} {o e value : Expr} {f : Str} {pos pos' tpos : Pos} {ta tv : TE}
end
section
variable {X : Cx} {pins : List (Addr × Obj)} {σ : St} {H : Hp} {s : Shared} {A : Around} {E : Value -> Shared -> Prop} {Q : Value -> Shared -> Prop} {c : Value} {b : Bool}
inductive TyOf (K : KFr) (H : Hp) : V -> Value -> Prop where
 | non : TyOf K H .non (.type "NoneType")
 | bl (x : Bool) : TyOf K H (.bl x) (.type "bool")
 | int (i : Int) : TyOf K H (.int i) (.type "int")
 | str (x : Str) : TyOf K H (.str x) (.type "str")
 | flt (x : UInt64) : TyOf K H (.flt x) (.type "float")
 | lst {a : Addr} {xs : List V} (e : H a = some (.lst xs)) : TyOf K H (.ref a) (.type "list")
 | frz {a : Addr} {o : Obj} {xs : List V} (e : H a = some (.frz o (.lst xs))) : TyOf K H (.ref a) (.type "list")
 | tup {a : Addr} {xs : List V} (e : H a = some (.tup xs)) : TyOf K H (.ref a) (.type "tuple")
 | dK {a : Addr} {kvs : List (Key × V)} (e : H a = some (.dK kvs)) : TyOf K H (.ref a) (.type "dict")
 | dT {a : Addr} {kvs : List (List Key × V)} (e : H a = some (.dT kvs)) : TyOf K H (.ref a) (.type "dict")
 | ins {a C dx : Addr} {fs : List (Str × V)} (e : H a = some (.ins C dx fs)) (cl : Cls K C) (ha : PySem.W.findIn K (.ref C) "__class__" = some (some (.builtin "object.__class__")))
   (hn : PySem.W.specialIn K (.builtin "object.__class__") "__get__" = some (some (.builtin "getset_descriptor.__get__"))) (htk : PySem.W.takesIn K (.builtin "object.__class__") = some true)
   (hm : PySem.W.mroIn K C (.type "object") = some true) : TyOf K H (.ref a) (.ref C)
theorem yZ8 {x : V} {u t : Value} (I : Inv X pins σ H s) (rx : RelV x u) (ty : TyOf X.K H x t) (e : PySem.W.kitOne X.K t c = some b) (h : ∀ tk, Q (.bool b) { s with toks := tk }) :
  wpAny (model X.prog X.w) A (call (.builtin "isinstance") [u, c]) Q E s := by
 cases ty with
 | non => cases (show u = Value.none from rx); exact PySem.W.kia_one PySem.W.kitx_none I.kIn True.intro e (fun z => nomatch z) h
 | bl y => cases (show u = Value.bool y from rx); exact PySem.W.kia_one PySem.W.kitx_bool I.kIn True.intro e (fun z => nomatch z) h
 | int i => obtain ⟨t, q⟩ := (show ∃ t, u = Value.int i t from rx); cases q; exact PySem.W.kia_one PySem.W.kitx_int I.kIn True.intro e (fun z => nomatch z) h
 | str y => obtain ⟨t, q⟩ := (show ∃ t, u = Value.str y t from rx); cases q; exact PySem.W.kia_one PySem.W.kitx_str I.kIn True.intro e (fun z => nomatch z) h
 | flt y => obtain ⟨t, q⟩ := (show ∃ t, u = Value.float y t from rx); cases q; exact PySem.W.kia_one PySem.W.kitx_float I.kIn True.intro e (fun z => nomatch z) h
 | @lst a xs ea =>
  cases (show u = Value.ref a from rx)
  obtain ⟨_, _, n, _, h1⟩ := (show ObjOk X.prog X.w H s.heap a (.lst xs) from I.hok a _ ea)
  exact PySem.W.kia_one PySem.W.kitx_list I.kIn ⟨_, h1, rfl⟩ e (fun z => nomatch z) h
 | @frz a ob xs ea =>
  cases (show u = Value.ref a from rx)
  obtain ⟨_, _, _, n, _, h1⟩ := (show ObjOk X.prog X.w H s.heap a (.frz ob (.lst xs)) from I.hok a _ ea)
  exact PySem.W.kia_one PySem.W.kitx_list I.kIn ⟨_, h1, rfl⟩ e (fun z => nomatch z) h
 | @tup a xs ea =>
  cases (show u = Value.ref a from rx)
  obtain ⟨_, _, _, p⟩ := (show ObjOk X.prog X.w H s.heap a (.tup xs) from I.hok a _ ea)
  obtain ⟨o, h1, h2, _⟩ := p
  exact PySem.W.kia_one PySem.W.kitx_tuple I.kIn ⟨o, h1, h2⟩ e (fun z => nomatch z) h
 | @dK a kvs ea =>
  cases (show u = Value.ref a from rx)
  obtain ⟨_, _, vs, _, p⟩ := (show ObjOk X.prog X.w H s.heap a (.dK kvs) from I.hok a _ ea)
  obtain ⟨o, es, ep, h1, h2, _⟩ := p
  exact PySem.W.kia_one PySem.W.kitx_dict I.kIn ⟨o, h1, h2.1⟩ e (fun z => nomatch z) h
 | @dT a kvs ea =>
  cases (show u = Value.ref a from rx)
  obtain ⟨_, _, xs, _, o, es, ep, h1, h2, _⟩ := (show ObjOk X.prog X.w H s.heap a (.dT kvs) from I.hok a _ ea)
  exact PySem.W.kia_one PySem.W.kitx_dict I.kIn ⟨o, h1, h2.1⟩ e (fun z => nomatch z) h
 | @ins a C dx fs ea cl ha hn htk hm =>
  cases (show u = Value.ref a from rx)
  obtain ⟨mA, O, _⟩ := yJ7 I.hok ea
  obtain ⟨od, J, _⟩ := O.look
  exact PySem.W.kia_one (PySem.W.kitx_own (cl.get _) cl.hd ha hn htk hm) I.kIn J e (fun z => nomatch z) h
end
structure Room (k : Nat) (A : Around) : Prop where
 hd : A.handled = none
 dp : A.depth + 3 * k + 5 < recursionLimit
 un : A.units + 16 * k + 200 < cLine
theorem Room.mono {j k : Nat} {A : Around} (r : Room k A) (h : j <= k) : Room j A := ⟨r.hd, by have := r.dp; bv_omega, by have := r.un; bv_omega⟩
theorem Room.deeper {k : Nat} {A : Around} (r : Room (k + 1) A) (env : Env) : Room k (A.deeper env) :=
 ⟨r.hd, by have := r.dp; show A.depth + 1 + 3 * k + 5 < _; bv_omega, by have := r.un; show A.units + 3 + 16 * k + 200 < _; bv_omega⟩
theorem zG3 {A : Around} {C : Addr} {us : List Value} {kw : List (Str × Value)} : (A.under (.builtin "type.__call__" ⟨.ref C :: us, kw⟩)).depth = A.depth + 1 := by
 first | rfl | simp [Around.under, Code.weight, Code.isCreation, Code.isGuard, Code.isCaller, Code.frames, Code.isFrame, guardIds]
theorem zD5 {A : Around} {C : Addr} {us : List Value} {kw : List (Str × Value)} : (A.under (.builtin "type.__call__" ⟨.ref C :: us, kw⟩)).units = A.units + 1 := by
 first | rfl | simp [Around.under, Code.cUnits, Code.frames, Code.isFrame]
theorem Room.make {k : Nat} {A : Around} (r : Room (k + 1) A) (C : Addr) (us : List Value) (kw : List (Str × Value)) : Room k (A.under (.builtin "type.__call__" ⟨.ref C :: us, kw⟩)) :=
 ⟨r.hd, by have := r.dp; rw [zG3]; bv_omega, by have := r.un; rw [zD5]; bv_omega⟩
theorem Room.depth {k : Nat} {A : Around} (r : Room k A) : A.depth < recursionLimit := by have := r.dp; bv_omega
theorem Room.units {k : Nat} {A : Around} (r : Room k A) : A.units + 64 < cLine := by have := r.un; bv_omega
def tNil : TA := fun _ H Q => Q [] H
def yN9 (ta : TE) (tr : TA) : TA := fun σ H Q => ta σ H fun x H1 => tr σ H1 fun xs H2 => Q (x :: xs) H2
section
variable {X : Cx} {e : Expr} {es : List Expr} {te : TE} {t : TA} {pos : Pos}
theorem wP : PA X [] tNil := fun _ _ _ _ H Q I h => Calls.spliced_nil ⟨[], H, I, .nil, h⟩
theorem yQ (ha : PE X e te) (hr : PA X es t) (hs : autoParam (starEach (e :: es) X.env = (false, eval e X.env) :: starEach es X.env) zZ._auto_1) : PA X (e :: es) (yN9 te t) := by
 intro pos pins s σ H Q I h
 rw [hs]
 show wpAny _ _ (spliced ((false, eval e X.env) :: backTo pos (starEach es X.env))) _ _ s
 refine Calls.spliced_cons (thn (ha pins s σ H _ I h) fun u s1 ⟨x, H1, I1, r1, q1⟩ => ?_)
 exact thn (hr pos pins s1 σ H1 _ I1 q1) fun us s2 ⟨xs, H2, I2, r2, q2⟩ => ⟨x :: xs, H2, I2, .cons r1 r2, q2⟩
def tTup (t : TA) : TE := fun σ H Q => t σ H fun xs H1 => xs.length <= sizeLine /\ ∀ p, H1 p = none -> Q (.ref p) (upd H1 p (.tup xs))
def tLst (t : TA) : TE := fun σ H Q => t σ H fun xs H1 => xs.length <= sizeLine /\ ∀ p, H1 p = none -> Q (.ref p) (upd H1 p (.lst xs))
theorem yG7 {x1} (h : PA X es t) : PE X (.Tuple es x1 pos) (tTup t) := by
 intro pins s σ H Q I hq
 refine wpAny_Tuple_spliced (thn (h pos pins s σ H _ I hq) fun us s1 ⟨xs, H1, I1, r, z, q⟩ => ⟨by rw [<- r.length]; exact z, ?_⟩)
 have hf : H1 s1.heap.objs.size = none := I1.hok.fresh (Nat.le_refl _)
 refine ⟨.ref s1.heap.objs.size, upd H1 s1.heap.objs.size (.tup xs), I1.laid (t' := s1.toks) (fun b u e => Heap.get?_push_of_some _ e) (Nat.le_refl _) ?_, rfl, q _ hf⟩
 exact ⟨z, us, r, TupAt.new _ _⟩
theorem yB2 (h : PA X es t) : PE X (.List es pos) (tLst t) := by
 intro pins s σ H Q I hq
 refine wpAny_List_spliced (thn (h pos pins s σ H _ I hq) fun us s1 ⟨xs, H1, I1, r, z, q⟩ => ⟨by rw [<- r.length]; exact z, ?_⟩)
 have hf : H1 s1.heap.objs.size = none := I1.hok.fresh (Nat.le_refl _)
 refine ⟨.ref s1.heap.objs.size, upd H1 s1.heap.objs.size (.lst xs), I1.laid (t' := s1.toks) (fun b u e => Heap.get?_push_of_some _ e) (Nat.le_refl _) ?_, rfl, q _ hf⟩
 exact ⟨z, us, 0, r, Heap.get?_push_size _ rfl⟩
end
abbrev Sp := List V -> Hp -> VK -> XK -> Prop
abbrev CXT := List Env -> Hp -> Shared -> XK -> Value -> Shared -> Prop
structure Env0 (P : Program) (w : World) (K : KFr) (mg : Str -> Option Value) (base : Heap) (A : Around) (outer : List Env) (s : Shared) (H : Hp) : Prop where
 frames : A.frames = some outer
 mod : Mod K mg base
 bs : ∀ b o, base.get? b = some o -> s.heap.get? b = some o /\ H b = none
 bsz : base.objs.size <= s.heap.objs.size
 funs : s.heap.FunFrames base outer
 frf : ∀ b ∈ frs outer, H b = none
 hok : HOk P w H s.heap
 bare : AllBare s.gens
def CE (outer : List Env) (P : Program) (w : World) (H : Hp) (s : Shared) (Q : VK) (u : Value) (s' : Shared) : Prop :=
 ∃ v H', s'.os = s.os /\ AllBare s'.gens /\ Un (frs outer) [] H H' s.heap s'.heap /\ HOk P w H' s'.heap /\ RelV v u /\ Q v H'
def CR (CX : CXT) (outer : List Env) (P : Program) (w : World) (H : Hp) (s : Shared) (Q : VK) (E : XK) (r : Result) (s' : Shared) : Prop :=
 match r with
 | .ok (.ret u) => CE outer P w H s Q u s'
 | .ok _ => False
 | .error e => CX outer H s E e s'
structure FnOk (P : Program) (w : World) (K : KFr) (mg : Str -> Option Value) (base : Heap) (CX : CXT) (k : Nat) (f : Addr) (fd : FuncData) (ps : List Str) (sp : Sp) : Prop where
 len : ∀ vs H Q E, sp vs H Q E -> vs.length = ps.length
 run : ∀ (A : Around) (outer : List Env) (s : Shared) (H : Hp) (args : Args) (us : List Value) (vs : List V) (Q : VK) (E : XK), Room k A -> Env0 P w K mg base A outer s H -> BindsTo s fd args (ps.zip us) -> Vals vs us -> sp vs H Q E ->
  codeAny (model P w) A (.call (.ref f) args) (CR CX outer P w H s Q E) s
theorem Env0.make {P : Program} {w : World} {K : KFr} {mg : Str -> Option Value} {base : Heap} {A : Around} {outer : List Env} {s : Shared} {H : Hp} (e : Env0 P w K mg base A outer s H) (C : Addr) (us : List Value) (kw : List (Str × Value)) :
  Env0 P w K mg base (A.under (.builtin "type.__call__" ⟨.ref C :: us, kw⟩)) outer s H := ⟨by first | exact e.frames | (simpa [Around.under, Code.envs, Code.isFrame, pushEnvs] using e.frames), e.mod, e.bs, e.bsz, e.funs, e.frf, e.hok, e.bare⟩
section
variable {X : Cx} {pins : List (Addr × Obj)} {σ : St} {H : Hp} {s s' : Shared}
theorem Inv.env0 (I : Inv X pins σ H s) : Env0 X.prog X.w X.K X.mg X.base X.A X.stack s H :=
 ⟨I.ok.frames, I.ok.mod, I.bs, Nat.le_trans I.ok.bsz I.sz, I.stack, I.stkFree, I.hok, I.bare⟩
theorem Inv.after {Q : VK} {u : Value} (I : Inv X pins σ H s) (h : CE X.stack X.prog X.w H s Q u s') : EP X pins σ Q u s' := by
 obtain ⟨v, H', os, bare, un, hok, r, q⟩ := h
 obtain ⟨hh, g, d, t, os'⟩ := s'
 obtain rfl : os' = s.os := os
 exact ⟨v, H', I.call (h' := hh) (g' := g) (d' := d) (t' := t) (ch := []) un hok bare (fun b z => absurd z (by simp)), r, q⟩
end
def tCall (sp : Sp) (dvs : List V) (E : XK) (t : TA) : TE := fun σ H Q => t σ H fun vs H1 => sp (vs ++ dvs) H1 Q E
def Binds (K : KFr) (fd : FuncData) (ps : List Str) (ds : List Value) : Prop :=
 ∀ (s : Shared) (us : List Value), K.In s.heap -> (us ++ ds).length = ps.length -> BindsTo s fd ⟨us, []⟩ (ps.zip (us ++ ds))
theorem Binds.all {K : KFr} {fd : FuncData} {ps : List Str} (h : ∀ us : List Value, us.length = ps.length -> bindArgs fd ⟨us, []⟩ = pure (ps.zip us)) : Binds K fd ps [] := fun s us _ hl => by
 rw [List.append_nil] at hl ⊢
 exact .of_eq (h us hl)
def Passes (CX : CXT) (X : Cx) (E : XK) : Prop := ∀ (pins : List (Addr × Obj)) (σ : St) (H : Hp) (s : Shared) (e : Value) (s' : Shared), Inv X pins σ H s -> CX X.stack H s E e s' -> X.xe e s'
section
variable {X : Cx} {CX : CXT} {k : Nat} {f C : Addr} {fd : FuncData} {ps : List Str} {sp : Sp} {dvs : List V} {ds : List Value} {E : XK} {x m : Str} {p pos apos : Pos} {e o : Expr} {es : List Expr} {ta : TE} {t : TA}
theorem yD3 {pins : List (Addr × Obj)} {σ : St} {H : Hp} {s : Shared} {Q : VK} {us : List Value} {vs : List V} (F : FnOk X.prog X.w X.K X.mg X.base CX k f fd ps sp) (hr : Room k X.A) (hb : Binds X.K fd ps ds) (hd : Vals dvs ds) (hx : Passes CX X E)
  (I : Inv X pins σ H s) (r : Vals vs us) (h : sp (vs ++ dvs) H Q E) : wpAny (model X.prog X.w) X.A (call (.ref f) us) (EP X pins σ Q) X.xe s := by
 have r2 : Vals (vs ++ dvs) (us ++ ds) := r.append hd
 have hl : (us ++ ds).length = ps.length := by rw [<- r2.length]; exact F.len _ _ _ _ h
 refine wpAny_call (codeAny_mono (F.run X.A X.stack s H ⟨us, []⟩ (us ++ ds) (vs ++ dvs) Q E hr I.env0 (hb s us I.kIn hl) r2 h) fun r s' hq => ?_)
 cases r with
 | error e => exact hx pins σ H s e s' I hq
 | ok fl =>
  cases fl with
  | ret u => exact I.after hq
  | next => exact False.elim hq
  | brk => exact False.elim hq
  | cont => exact False.elim hq
theorem zL7 (F : FnOk X.prog X.w X.K X.mg X.base CX k f fd ps sp) (hr : Room k X.A) (hg : Gl X x) (hm : X.mg x = some (.ref f)) (hk : PySem.W.keepIn X.K (.ref f) = true) (hb : Binds X.K fd ps ds) (hd : Vals dvs ds) (hx : Passes CX X E)
  (ha : PA X (e :: es) t) (hdb : autoParam ((x == ("__debug__" : Str)) = false) zO._auto_1) (he : autoParam (starEach (e :: es) X.env = (false, eval e X.env) :: starEach es X.env) zZ._auto_1) (hpl : autoParam ((backTo pos (starEach es X.env)).any (·.1) = false) zZ._auto_1) :
  PE X (.Call (.Name x p) (e :: es) [] pos) (tCall sp dvs E t) := by
 intro pins s σ H Q I h
 refine wpAny_Call_Name_kw (vV I hg hm ?_ hdb)
 refine PySem.W.callWith_K (h₀ := X.base) I.ok.mod.kin hk (thn (ha pos pins s σ H _ I h) fun us s1 ⟨vs, H1, I1, r, q⟩ => ⟨I1.kIn, ?_⟩) he hpl
 exact yD3 F hr hb hd hx I1 r q
structure Mk (K : KFr) (C f : Addr) : Prop where
 makes : PySem.W.makesIn K C = true
 init : PySem.W.findIn K (.ref C) "__init__" = some (some (.ref f))
 fn : PySem.W.isFn K (.ref f) = true
 kp : PySem.W.keepIn K (.ref C) = true
end
section
variable {X : Cx} {CX : CXT} {k : Nat} {f C : Addr} {fd : FuncData} {ps ks : List Str} {sp : Sp} {E : XK} {x m : Str} {p pos apos kpos : Pos} {e o : Expr} {es : List Expr} {kws : List Keyword} {te ta : TE} {t tk : TA} {nm : Option Str}
structure KBinds (K : KFr) (fd : FuncData) (ps ks : List Str) (g : List Value -> List Value -> List Value) (gV : List V -> List V -> List V) : Prop where
 to : ∀ (s : Shared) (us ws : List Value), K.In s.heap -> (g us ws).length = ps.length -> BindsTo s fd ⟨us, ks.zip ws⟩ (ps.zip (g us ws))
 rel : ∀ {vs : List V} {us : List Value} {zs : List V} {ws : List Value}, Vals vs us -> Vals zs ws -> Vals (gV vs zs) (g us ws)
variable {g : List Value -> List Value -> List Value} {gV : List V -> List V -> List V}
end
structure zF (N P : List Str) (sc : Scope) : Prop where
 kind : sc.kind = .function
 co : sc.isCoroutine = false
 gen : sc.isGenerator = false
 nd : N.Nodup
 pre : N.take P.length = P
 par : ∀ x ∈ P, sc.names.lookup x = some .local \/ sc.names.lookup x = some .cell
 nofree : ∀ y ∈ sc.names, y.2 ≠ .free
theorem zX6 {kindOf : Str -> Option NameKind} {x : Str} : ∀ {binds : List (Str × Value)} {m : Str -> Option Value}, (∀ v, (x, v) ∉ binds) -> bindL kindOf binds m x = m x
 | [], _, _ => rfl
 | (n, v) :: r, m, h => by
  unfold bindL
  rw [zX6 fun w hw => h w (List.mem_cons_of_mem _ hw)]
  split
  ·have : x ≠ n := by rintro rfl; exact h v List.mem_cons_self
   simp [this]
  ·rfl
theorem zY2 {kindOf : Str -> Option NameKind} {x : Str} : ∀ {binds : List (Str × Value)} {m : Str -> Option Value}, (∀ v, (x, v) ∉ binds) -> bindC kindOf binds m x = m x
 | [], _, _ => rfl
 | (n, v) :: r, m, h => by
  unfold bindC
  rw [zY2 fun w hw => h w (List.mem_cons_of_mem _ hw)]
  split
  ·rfl
  ·have : x ≠ n := by rintro rfl; exact h v List.mem_cons_self
   simp [this]
theorem zY9 {kindOf : Str -> Option NameKind} {x : Str} {v : Value} : ∀ {P : List Str} {vs : List Value} {i : Nat} {m : Str -> Option Value}, P.Nodup -> P[i]? = some x -> vs[i]? = some v -> kindOf x = some .local ->
  bindL kindOf (P.zip vs) m x = some v
 | [], _, _, _, _, h, _, _ => by simp at h
 | _ :: _, [], _, _, _, _, h, _ => by simp at h
 | p :: P, w :: vs, 0, m, nd, h1, h2, hk => by
  simp at h1 h2; subst h1; subst h2
  show bindL kindOf ((p, w) :: P.zip vs) m p = _
  unfold bindL
  rw [zX6 fun v hv => (List.nodup_cons.mp nd).1 (List.of_mem_zip hv).1, if_pos hk]
  simp
 | p :: P, w :: vs, i + 1, m, nd, h1, h2, hk => by
  show bindL kindOf ((p, w) :: P.zip vs) m x = _
  unfold bindL
  exact zY9 (i := i) (List.nodup_cons.mp nd).2 (by simpa using h1) (by simpa using h2) hk
theorem zY6 {kindOf : Str -> Option NameKind} {x : Str} {v : Value} : ∀ {P : List Str} {vs : List Value} {i : Nat} {m : Str -> Option Value}, P.Nodup -> P[i]? = some x -> vs[i]? = some v -> kindOf x ≠ some .local ->
  bindC kindOf (P.zip vs) m x = some v
 | [], _, _, _, _, h, _, _ => by simp at h
 | _ :: _, [], _, _, _, _, h, _ => by simp at h
 | p :: P, w :: vs, 0, m, nd, h1, h2, hk => by
  simp at h1 h2; subst h1; subst h2
  show bindC kindOf ((p, w) :: P.zip vs) m p = _
  unfold bindC
  rw [zY2 fun v hv => (List.nodup_cons.mp nd).1 (List.of_mem_zip hv).1, if_neg hk]
  simp
 | p :: P, w :: vs, i + 1, m, nd, h1, h2, hk => by
  show bindC kindOf ((p, w) :: P.zip vs) m x = _
  unfold bindC
  exact zY6 (i := i) (List.nodup_cons.mp nd).2 (by simpa using h1) (by simpa using h2) hk
def start (N : List Str) (vs : List V) : St := vs.map some ++ List.replicate (N.length - vs.length) none
def cxOf (CX : CXT) (P : Program) (w : World) (K : KFr) (mg : Str -> Option Value) (base : Heap) (N : List Str) (qual : Str) (scope : Scope) (f : Addr) (cd : Value) (A : Around) (outer : List Env) (s : Shared) (H : Hp) (E : XK) : Cx where
 prog := P
 w := w
 K := K
 mg := mg
 base := base
 A := A.deeper (envOfC qual scope s.heap.objs.size f cd)
 N := N
 s₀ := s
 H₀ := H
 env := envOfC qual scope s.heap.objs.size f cd
 outer := outer
 stack := envOfC qual scope s.heap.objs.size f cd :: outer
 ex := []
 calm := true
 fn := fun _ => true
 pn := []
 xe := fun e s' => wpAny (model P w) (A.deeper (envOfC qual scope s.heap.objs.size f cd)) (leaving (envOfC qual scope s.heap.objs.size f cd) e) (fun _ s'' => CX outer H s E e s'') (fun e' s'' => CX outer H s E e' s'') s'
theorem zS4 {sc : Scope} {n : Nat} {x : Str} (h : sc.names.lookup x = some .cell) : ∃ c, (cellsFrom n sc.names []).lookup x = some c := by
 have q := PySem.W.cellsFrom_some sc.names n [] (.inl h)
 exact Option.isSome_iff_exists.mp q
theorem zY5 {CX : CXT} {P : Program} {w : World} {K : KFr} {mg : Str -> Option Value} {base : Heap} {N ps : List Str} {qual : Str} {scope : Scope} {f : Addr} {cd : Value} {A : Around} {outer : List Env} {s s1 : Shared} {H : Hp} {E : XK} {us : List Value} {vs : List V}
  (S : zF N ps scope) (hd : A.handled = none) (e0 : Env0 P w K mg base A outer s H) (hl : vs.length = ps.length) (r : Vals vs us)
  (x : InCallC s s.heap.objs.size (bindL (envOfC qual scope s.heap.objs.size f cd).kindOf (ps.zip us) fun _ => none) (cellsFrom (s.heap.objs.size + 1) scope.names []) (bindC (envOfC qual scope s.heap.objs.size f cd).kindOf (ps.zip us) fun _ => none) s1) :
  Inv (cxOf CX P w K mg base N qual scope f cd A outer s H E) [] (start N vs) H s1 := by
 have hpl : ps.length <= N.length := by have := congrArg List.length S.pre; rw [List.length_take] at this; bv_omega
 obtain ⟨h1, tk, rfl, hk⟩ := x.done
 have noA : ∀ b : Addr, b ∉ (cxOf CX P w K mg base N qual scope f cd A outer s H E).ex := fun b z => absurd (show b ∈ ([] : List Addr) from z) (by simp)
 refine ⟨⟨e0.mod, S.kind, rfl, rfl, Nat.le_refl _, fun y z c h1 h2 => ?_, fun y hy => ?_, fun y c _ h => ?_, fun _ => hd, Around.frames_deeper e0.frames, .inr ⟨rfl, rfl⟩, fun b z => absurd z (noA b), e0.bs, e0.bsz, fun b _ _ => noA b, fun b z => absurd z (noA b), e0.funs, e0.frf⟩,
  rfl, e0.bare, Un.kept hk, ⟨_, x.toInCall.ns, fun i y v h1 h2 h3 => ?_⟩, fun y c h => ⟨_, x.cell y c h⟩, e0.hok.fresh (Nat.le_refl _), fun y c h => ?_, fun p hp => absurd (show p ∈ ([] : List (Addr × Obj)) from hp) (by simp), e0.hok.kept hk, ?_⟩
 ·exact name_of_addr x.apart (PySem.mem_of_lookup h1) (PySem.mem_of_lookup h2)
 ·have hy : scope.names.lookup y = some .cell \/ scope.names.lookup y = some .free := hy
  rcases hy with hy | hy
  ·exact zS4 hy
  ·exact absurd rfl (S.nofree _ (PySem.mem_of_lookup hy))
 ·exact Nat.le_of_lt (x.above y c (PySem.mem_of_lookup h))
 ·have hi : i < vs.length := by
   unfold start at h2
   by_cases hi : i < vs.length
   ·exact hi
   ·rw [List.getElem?_append_right (by simpa using hi)] at h2
    rw [List.getElem?_replicate] at h2
    split at h2 <;> cases h2
  have ha : vs[i]? = some v := by
   unfold start at h2
   rw [List.getElem?_append_left (by simpa using hi), List.getElem?_map] at h2
   cases e : vs[i]? with
   | none => rw [e] at h2; cases h2
   | some a => rw [e] at h2; cases h2; rfl
  obtain ⟨u, hu, rv⟩ := r.get ha
  have hp : ps[i]? = some y := by
   rw [<- S.pre, List.getElem?_take_of_lt (by bv_omega)]; exact h1
  have ndP : ps.Nodup := by rw [<- S.pre]; exact S.nd.sublist (List.take_sublist _ _)
  refine ⟨u, rv, ?_⟩
  rcases S.par y (List.mem_of_getElem? hp) with k | k
  ·exact .inl ⟨k, zY9 ndP hp hu k⟩
  ·obtain ⟨c, e⟩ := zS4 (n := s.heap.objs.size + 1) k
   refine .inr ⟨.inl k, c, e, ?_⟩
   have q := x.cell y c e
   rw [zY6 ndP hp hu (by show scope.names.lookup y ≠ _; rw [k]; decide)] at q
   exact q
 ·exact e0.hok.fresh (Nat.le_of_lt (x.above y c (PySem.mem_of_lookup h)))
 ·unfold start
  show _ = N.length
  rw [List.length_append, List.length_map, List.length_replicate]
  bv_omega
theorem yO6 {CX : CXT} {P : Program} {w : World} {K : KFr} {mg : Str -> Option Value} {base : Heap} {k : Nat} {f : Addr} {name qual : Str} {params : Arguments} {body : List Stmt} {scope : Scope} {dV kV doc pm cdv ct oc : Value} {an od : Option Addr}
  {osl : Array (Option Value)} {N ps : List Str} {sp : Sp} (lk : K.lookup f = some ⟨oc, od, .func (PySem.W.fnOf name qual params body scope dV kV doc pm an cdv ct), osl⟩) (hcd : PySem.W.codeIn K cdv qual = true) (S : zF N ps scope)
  (len : ∀ vs H Q E, sp vs H Q E -> vs.length = ps.length)
  (hbody : ∀ (A : Around) (outer : List Env) (s : Shared) (H : Hp) (vs : List V) (Q : VK) (E : XK), Room k (A.deeper (envOfC qual scope s.heap.objs.size f cdv)) -> sp vs H Q E ->
   ∃ t, PSs (cxOf CX P w K mg base N qual scope f cdv A outer s H E) body t /\ t { nx := fun _ H' => Q .non H', rt := Q } (start N vs) H) :
  FnOk P w K mg base CX (k + 1) f (PySem.W.fnOf name qual params body scope dV kV doc pm an cdv ct) ps sp := by
 refine ⟨len, fun A outer s H args us vs Q E hr e0 hb r hsp => ?_⟩
 have hl := len _ _ _ _ hsp
 have KX : K.In s.heap := e0.mod.kin.keeps fun b o e => (e0.bs b o e).1
 have lim : s.heap.NoLimit := e0.mod.nolimit.keeps fun b o e => (e0.bs b o e).1
 have hkind : ∀ y ∈ ps.zip us, scope.names.lookup y.1 = some .local \/ (scope.names.lookup y.1 = some .cell /\ ((cellsFrom (s.heap.objs.size + 1) scope.names []).lookup y.1).isSome = true) := fun ⟨n, v⟩ hy => by
  rcases S.par n (List.of_mem_zip hy).1 with q | q
  ·exact .inl q
  ·exact .inr ⟨q, PySem.W.cellsFrom_some _ _ _ (.inl q)⟩
 refine codeAny_call_function hr.depth (KX _ _ lk) rfl S.co S.gen rfl (PySem.W.codeRec_of KX hcd) (hb _ _ _ _ ?_)
 refine wpAny_newFunctionEnv_cells S.kind hkind fun env he s1 x => ?_
 subst he
 refine ⟨lim.keeps x.toInCall.keep, codeAny_func ?_⟩
 obtain ⟨t, ht, hq⟩ := hbody A outer s H vs Q E (hr.deeper _) hsp
 have I : Inv (cxOf CX P w K mg base N qual scope f cdv A outer s H E) [] (start N vs) H s1 := zY5 S hr.hd e0 hl r x
 refine wpAny_mono (ht [] s1 (start N vs) H _ I hq) (fun fl s' hs => ?_) fun e s' hs => hs
 have fin : ∀ {σ' : St} {H' : Hp} {v : V} {u : Value}, Inv (cxOf CX P w K mg base N qual scope f cdv A outer s H E) [] σ' H' s' -> RelV v u -> Q v H' -> CE outer P w H s Q u s' :=
  fun {σ' H' v u} J rv q => ⟨v, H', J.os, J.bare, J.base, J.hok, rv, q⟩
 cases fl with
 | ret u =>
  obtain ⟨v, σ', H', J, rv, q⟩ := hs
  exact fin J rv q
 | next =>
  obtain ⟨σ', H', J, q⟩ := hs
  exact fin (v := V.non) (u := Value.none) J rfl q
 | brk =>
  obtain ⟨_, _, _, q⟩ := hs
  exact False.elim q
 | cont =>
  obtain ⟨_, _, _, q⟩ := hs
  exact False.elim q
section
variable {X : Cx} {x : Str} {p pos : Pos} {e : Expr} {es : List Expr} {t : TA} {id T : String} {r : List V -> Hp -> VK -> Prop}
def tCB (r : List V -> Hp -> VK -> Prop) (t : TA) : TE := fun σ H Q => t σ H fun vs H1 => r vs H1 Q
theorem jO (hc : CallR X (.builtin id) r) (hg : Gl X x) (hm : X.mg x = none) (hv : bootBuiltins x = some (.builtin id)) (ha : PA X (e :: es) t) (hn : autoParam (x ≠ "__name__") zO._auto_1) (hdb : autoParam ((x == ("__debug__" : Str)) = false) zO._auto_1)
  (he : autoParam (starEach (e :: es) X.env = (false, eval e X.env) :: starEach es X.env) zZ._auto_1) (hpl : autoParam ((backTo pos (starEach es X.env)).any (·.1) = false) zZ._auto_1) : PE X (.Call (.Name x p) (e :: es) [] pos) (tCB r t) := by
 intro pins s σ H Q I h
 refine wpAny_Call_Name_kw (cJ I hg hm hv ?_ hn hdb)
 exact PyProof.Rows.callWith_builtin1 (thn (ha pos pins s σ H _ I h) fun us s1 ⟨vs, H1, I1, r1, q1⟩ => hc pins s1 σ H1 vs us Q I1 r1 q1) he hpl
theorem gL (hc : CallR X (.type T) r) (hg : Gl X x) (hm : X.mg x = none) (hv : bootBuiltins x = some (.type T)) (ha : PA X (e :: es) t) (hn : autoParam (x ≠ "__name__") zO._auto_1) (hdb : autoParam ((x == ("__debug__" : Str)) = false) zO._auto_1)
  (he : autoParam (starEach (e :: es) X.env = (false, eval e X.env) :: starEach es X.env) zZ._auto_1) (hpl : autoParam ((backTo pos (starEach es X.env)).any (·.1) = false) zZ._auto_1) : PE X (.Call (.Name x p) (e :: es) [] pos) (tCB r t) := by
 intro pins s σ H Q I h
 refine wpAny_Call_Name_kw (cJ I hg hm hv ?_ hn hdb)
 exact PyProof.Rows.callWith_type1 (thn (ha pos pins s σ H _ I h) fun us s1 ⟨vs, H1, I1, r1, q1⟩ => hc pins s1 σ H1 vs us Q I1 r1 q1) he hpl
end
end L2
namespace HT
open PySem PyProof.Rows
section
open PySem.SeqAt
open PySem.AutoSeq1 (wpAny_loadPart')
open PySem.MeetsSeq PySem.MeetsSeq2 PySem.MeetsSeq3
end
section
variable {prog : Program} {w : World} {A : Around} {E : Value -> Shared -> Prop} {s : Shared}
def sIx (n d : Nat) : Option Int -> Nat
 | none => d
 | some v => if v < 0 then (v + (n : Int)).toNat else min v.toNat n
theorem zS1 (n d : Nat) : sIx n d none = d := rfl
theorem zI7 (n d k : Nat) : sIx n d (some (k : Int)) = min k n := by
 show (if (k : Int) < 0 then ((k : Int) + (n : Int)).toNat else min (k : Int).toNat n) = min k n
 rw [if_neg (by bv_omega), Int.toNat_natCast]
theorem yB9 (n d : Nat) (hd : d <= n) (o : Option Int) : sIx n d o <= n := by
 cases o with
 | none => exact hd
 | some v =>
  show (if v < 0 then (v + (n : Int)).toNat else min v.toNat n) <= n
  by_cases hv : v < 0
  ·rw [if_pos hv]; bv_omega
  ·rw [if_neg hv]; exact Nat.min_le_right _ _
theorem zL6 (v : Int) (n d : Nat) : (if v < 0 then max (v + (n : Int)) 0 else min v (n : Int)) = ((sIx n d (some v) : Nat) : Int) := by
 show (if v < 0 then max (v + (n : Int)) 0 else min v (n : Int)) = (((if v < 0 then (v + (n : Int)).toNat else min v.toNat n) : Nat) : Int)
 by_cases hv : v < 0
 ·simp only [if_pos hv]; bv_omega
 ·simp only [if_neg hv]; bv_omega
theorem zE2 (lo hi : Option Int) (n : Nat) : Builtin.Slice.sliceAdjust lo hi 1 (n : Int) = (((sIx n 0 lo : Nat) : Int), ((sIx n n hi : Nat) : Int)) := by
 have h1 : ¬ ((1 : Int) < 0) := by bv_omega
 unfold Builtin.Slice.sliceAdjust
 simp only [h1, if_false]
 refine Prod.ext ?_ ?_
 ·cases lo with
  | none => rfl
  | some v => exact zL6 v n 0
 ·cases hi with
  | none => rfl
  | some v => exact zL6 v n n
theorem zF6 (i j : Nat) : Builtin.Slice.slicePlaces (i : Int) (j : Int) 1 = j - i := by
 unfold Builtin.Slice.slicePlaces
 have h1 : (1 : Int) > 0 := by bv_omega
 simp only [h1, if_true, Int.ediv_one]
 split <;> bv_omega
theorem cE {v : Value} {o : Option Int} {Q : Option Int -> Shared -> Prop} (p : IsPart v o) (h : Q o s) : wpAny (model prog w) A (Builtin.Slice.slicePartIndex v) Q E s := by
 cases p with
 | none => exact slicePart_none h
 | int i t => exact slicePart_int h
theorem jL {sl : Addr} {vl vu : Value} {lo hi : Option Int} {n : Nat} {Q : Int × Int × Nat -> Shared -> Prop} (hs : s.heap.IsSliceOf sl vl vu .none) (pl : IsPart vl lo) (pu : IsPart vu hi)
  (h : Q (((sIx n 0 lo : Nat) : Int), 1, sIx n n hi - sIx n 0 lo) s) : wpAny (model prog w) A (Builtin.Slice.sliceApplied (.ref sl) (pure (n : Int))) Q E s := by
 obtain ⟨os, hos, hcs, hds⟩ := id hs
 unfold Builtin.Slice.sliceApplied Builtin.Slice.sliceFields
 refine wpAny_bind (wpAny_bind (wpAny_field hos hds (x := vl) rfl (wpAny_bind (wpAny_field hos hds (x := vu) rfl (wpAny_bind (wpAny_field hos hds (x := .none) rfl (wpAny_pure ?_)))))))
 refine wpAny_bind (slicePart_none ?_)
 show wpAny _ _ (if ((1 : Int) == 0) = true then _ else _) _ _ s
 rw [if_neg (by decide)]
 refine wpAny_bind (cE pl (wpAny_bind (cE pu (wpAny_bind (wpAny_pure ?_)))))
 show wpAny _ _ (match Builtin.Slice.sliceAdjust lo hi 1 (n : Int) with | (lo, hi) => pure (lo, (1 : Int), Builtin.Slice.slicePlaces lo hi 1)) _ _ s
 rw [zE2 lo hi n]
 show wpAny _ _ (pure (((sIx n 0 lo : Nat) : Int), (1 : Int), Builtin.Slice.slicePlaces ((sIx n 0 lo : Nat) : Int) ((sIx n n hi : Nat) : Int) 1)) _ _ s
 rw [zF6]
 exact wpAny_pure h
theorem yR5 (xs : Array Value) (i k : Nat) : ((List.range k).filterMap fun (m : Nat) => xs[((i : Int) + (m : Int) * 1).toNat]?).toArray = ((xs.toList.drop i).take k).toArray := by
 have e : (fun (m : Nat) => xs[((i : Int) + (m : Int) * 1).toNat]?) = fun m => xs[i + m]? := by
  funext m
  have : ((i : Int) + (m : Int) * 1).toNat = i + m := by bv_omega
  rw [this]
 rw [e]
 have := pick_run xs i k
 rw [List.filterMap_map] at this
 have e2 : ((fun x => xs[x]?) ∘ fun x => i + x) = fun m => xs[i + m]? := rfl
 rw [e2] at this
 rw [this]
theorem dU {t sl : Addr} {items : Array Value} {vl vu : Value} {lo hi : Option Int} {Q : Value -> Shared -> Prop} (ht : IsTup s.heap t items) (hs : s.heap.IsSliceOf sl vl vu .none) (pl : IsPart vl lo) (pu : IsPart vu hi)
  (hw : ¬ (sIx items.size 0 lo = 0 /\ sIx items.size items.size hi = items.size))
  (h : Q (.ref s.heap.objs.size) { s with heap := s.heap.push { cls := .type "tuple", data := .seq ((items.toList.drop (sIx items.size 0 lo)).take (sIx items.size items.size hi - sIx items.size 0 lo)).toArray } })
  (hsz : items.size <= sizeLine) : wpAny (model prog w) A (getItem (.ref t) (.ref sl)) Q E s := by
 have htake : sizeOk (.seq ((items.toList.drop (sIx items.size 0 lo)).take (sIx items.size items.size hi - sIx items.size 0 lo)).toArray) := by
  show ((items.toList.drop (sIx items.size 0 lo)).take (sIx items.size items.size hi - sIx items.size 0 lo)).toArray.size <= sizeLine
  rw [List.size_toArray, List.length_take, List.length_drop, Array.length_toList]
  bv_omega
 have hj : sIx items.size items.size hi <= items.size := yB9 _ _ (Nat.le_refl _) hi
 obtain ⟨os, hos, hcs, hds⟩ := id hs
 have hTs : s.TypeIs (.ref sl) "slice" := ⟨os, hos, hcs⟩
 unfold getItem
 try with_reducible refine wpAny_holding ?_
 first | refine wpAny_bind (wpAny_pure ?_) | skip
 refine wpAny_bind (wpAny_sequenceKey ht.typeIs (by decide) ?_)
 refine wpAny_bind (wpAny_callSpecial?_slot (name := Str.ofString "__getitem__") ht.typeIs PyProof.Rows.slot_tuple_getitem
  (wpAny_call_entry PyProof.Rows.slot_tuple_getitem ht.typeIs entry_tuple_getitem ?_ (args_tuple_getitem _ _)))
 show wpAny _ _ (Builtin.Tuple.tupleItemsOf (.ref t) >>= _) _ _ s
 refine wpAny_bind (tupleItemsOf_ ht ?_)
 refine wpAny_bind (wpAny_typeOf hTs ?_)
 rw [if_pos (by decide)]
 refine wpAny_bind (jL hs pl pu ?_)
 have hno : ¬ ((((sIx items.size 0 lo : Nat) : Int) == 0 && (1 : Int) == 1 && (sIx items.size items.size hi - sIx items.size 0 lo) == items.size) = true) := by
  intro q
  rw [Bool.and_eq_true, Bool.and_eq_true] at q
  have q1 : ((sIx items.size 0 lo : Nat) : Int) = 0 := eq_of_beq q.1.1
  have q2 : sIx items.size items.size hi - sIx items.size 0 lo = items.size := eq_of_beq q.2
  exact hw ⟨by bv_omega, by bv_omega⟩
 show wpAny _ _ (if (((sIx items.size 0 lo : Nat) : Int) == 0 && (1 : Int) == 1 && (sIx items.size items.size hi - sIx items.size 0 lo) == items.size) = true then _ else _) _ _ s
 rw [if_neg hno, yR5]
 first
  | exact wpAny_bind (m := Builtin.Tuple.tupleExact _) (wpAny_newObj_type (wpAny_pure ⟨_, rfl, wpAny_pure h⟩) htake)
  | exact wpAny_bind (m := Builtin.Tuple.tupleExact _) (wpAny_newObj_type (wpAny_bind (wpAny_pure (wpAny_pure ⟨_, rfl, wpAny_pure h⟩))) htake)
  | exact wpAny_bind (wpAny_bind (m := Builtin.Tuple.tupleExact _) (wpAny_newObj_type (wpAny_pure (wpAny_pure ⟨_, rfl, wpAny_pure h⟩)) htake))
  | exact wpAny_bind (wpAny_bind (m := Builtin.Tuple.tupleExact _) (wpAny_newObj_type (wpAny_pure ⟨_, rfl, wpAny_pure h⟩) htake))
end
end HT
namespace L2
open PySem PySem.Spec PyProof.Rows
abbrev TO := St -> Hp -> (Option Int -> Hp -> Prop) -> Prop
def PO (X : Cx) (e : Option Expr) (t : TO) : Prop :=
 ∀ (pins : List (Addr × Obj)) (s : Shared) (σ : St) (H : Hp) (Q : Option Int -> Hp -> Prop), Inv X pins σ H s -> t σ H Q ->
  wpAny (model X.prog X.w) X.A (evalPart e X.env) (fun u s' => ∃ o H', Inv X pins σ H' s' /\ IsPart u o /\ Q o H') X.xe s
def tNoPart : TO := fun _ H Q => Q none H
def tPart (t : TE) : TO := fun σ H Q => t σ H fun x H1 => ∃ i, x = .int i /\ Q (some i) H1
theorem zD2 {ns : List Int} : ∀ {us : List Value}, Vals (ns.map V.int) us -> IntsAre us ns := by
 induction ns with
 | nil => intro us r; rw [List.map_nil] at r; cases r; exact .nil
 | cons n ns ih =>
  intro us r
  rw [List.map_cons] at r
  cases r with
  | cons r1 r2 =>
   obtain ⟨t, e⟩ := r1
   subst e
   exact .cons n t (ih r2)
section
variable {X : Cx} {e : Expr} {te : TE} {lo hi : Option Expr} {tl th : TO} {pos p2 : Pos}
theorem yL8 : PO X none tNoPart := by
 intro pins s σ H Q I h
 rw [evalPart_none]
 exact wpAny_pure ⟨none, H, I, .none, h⟩
theorem yL9 (h : PE X e te) : PO X (some e) (tPart te) := by
 intro pins s σ H Q I hw
 rw [evalPart_some]
 refine thn (h pins s σ H _ I hw) fun u s1 ⟨x, H1, I1, r1, q1⟩ => ?_
 obtain ⟨i, rfl, q⟩ := q1
 obtain ⟨t, rfl⟩ := r1
 exact ⟨some i, H1, I1, .int i t, q⟩
def SlR (X : Cx) (r : V -> Option Int -> Option Int -> Hp -> VK -> Prop) : Prop :=
 ∀ (pins : List (Addr × Obj)) (s : Shared) (σ : St) (H : Hp) (x : V) (v vl vu : Value) (lo hi : Option Int) (sl : Addr) (Q : VK), Inv X pins σ H s -> RelV x v -> s.heap.IsSliceOf sl vl vu .none -> IsPart vl lo -> IsPart vu hi -> r x lo hi H Q ->
  ∃ T id, typeLookup (.type T) "__getitem__" = pure (some (.builtin id)) /\ s.TypeIs v T /\ wpAny (model X.prog X.w) X.A (getItem v (.ref sl)) (EP X pins σ Q) X.xe s
theorem SlR.or {r r' : V -> Option Int -> Option Int -> Hp -> VK -> Prop} (h : SlR X r) (h' : SlR X r') : SlR X (fun x lo hi H Q => r x lo hi H Q \/ r' x lo hi H Q) := by
 intro pins s σ H x v vl vu lo hi sl Q I rx hs pl pu q
 rcases q with q | q
 ·exact h pins s σ H x v vl vu lo hi sl Q I rx hs pl pu q
 ·exact h' pins s σ H x v vl vu lo hi sl Q I rx hs pl pu q
def tSl (r : V -> Option Int -> Option Int -> Hp -> VK -> Prop) (te : TE) (tl th : TO) : TE := fun σ H Q => te σ H fun x H1 => tl σ H1 fun l H2 => th σ H2 fun u H3 => r x l u H3 Q
theorem yT5 {r : V -> Option Int -> Option Int -> Hp -> VK -> Prop} (hr : SlR X r) (he : PE X e te) (hl : PO X lo tl) (hu : PO X hi th) : PE X (.Subscript e (.Slice lo hi none p2) pos) (tSl r te tl th) := by
 intro pins s σ H Q I h
 refine Subscript_ (thn (he pins s σ H _ I h) fun v s1 ⟨x, H1, I1, r1, q1⟩ => ?_)
 refine wpAny_Slice (thn (hl pins s1 σ H1 _ I1 q1) fun vl s2 ⟨l, H2, I2, pl, q2⟩ => thn (hu pins s2 σ H2 _ I2 q2) fun vu s3 ⟨u, H3, I3, pu, q3⟩ => ?_)
 rw [evalPart_none]
 refine wpAny_pure ?_
 have I4 : Inv X pins σ H3 { s3 with heap := s3.heap.push { cls := .type "slice", data := .fields #[vl, vu, .none] } } := I3.kept (t' := s3.toks) fun b ob q => Heap.get?_push_of_some _ q
 obtain ⟨T, id, hT, ht, hg⟩ := hr pins { s3 with heap := s3.heap.push { cls := .type "slice", data := .fields #[vl, vu, .none] } } σ H3 x v vl vu l u s3.heap.objs.size Q I4 r1 (Heap.IsSliceOf.new ..) pl pu q3
 show wpAny (model X.prog X.w) X.A (subscriptTail e (.Slice lo hi none p2) v (.ref s3.heap.objs.size)) (EP X pins σ Q) X.xe { s3 with heap := s3.heap.push { cls := .type "slice", data := .fields #[vl, vu, .none] } }
 exact tail_any (ops := [.ref s3.heap.objs.size, v]) ht hT hg (by with_unfolding_all rfl)
def cutV (xs : List V) (lo hi : Option Int) : List V := (xs.drop (HT.sIx xs.length 0 lo)).take (HT.sIx xs.length xs.length hi - HT.sIx xs.length 0 lo)
theorem dD (xs : List V) (lo hi : Option Int) : (cutV xs lo hi).length <= xs.length := by
 unfold cutV
 rw [List.length_take, List.length_drop]
 bv_omega
def rSlT (K : KFr) : V -> Option Int -> Option Int -> Hp -> VK -> Prop := fun x lo hi H Q => ∃ a xs, x = .ref a /\ SqT K H a xs /\
 ¬ (HT.sIx xs.length 0 lo = 0 /\ HT.sIx xs.length xs.length hi = xs.length) /\ ∀ p, H p = none -> Q (.ref p) (upd H p (.tup (cutV xs lo hi)))
theorem yA2 : SlR X (rSlT X.K) := by
 intro pins s σ H x v vl vu lo hi sl Q I rx hs pl pu h
 obtain ⟨a, xs, rfl, hx, hw, q⟩ := h
 cases rx
 obtain ⟨its, r, ht, hz⟩ := I.tuple hx
 have hlen : its.toArray.size = xs.length := by rw [List.size_toArray]; exact r.length.symm
 refine ⟨"tuple", _, PyProof.Rows.slot_tuple_getitem.lookup, ht.typeIs, ?_⟩
 refine HT.dU ht hs pl pu (by rw [hlen]; exact hw) ?_ (by rw [hlen]; exact hz)
 rw [hlen]
 refine ⟨.ref s.heap.objs.size, _, I.laid (t' := s.toks) (o := .tup (cutV xs lo hi)) (fun b ob q => Heap.get?_push_of_some _ q) (Nat.le_refl _) ?_, rfl, q _ (I.hok.fresh (Nat.le_refl _))⟩
 exact ⟨Nat.le_trans (dD xs lo hi) hz, _, (r.drop (HT.sIx xs.length 0 lo)).take (HT.sIx xs.length xs.length hi - HT.sIx xs.length 0 lo), TupAt.new _ _⟩
end
def ixN (n : Nat) (i : Int) : Option Nat := if 0 <= i then (if i < n then some i.toNat else none) else if -(n : Int) <= i then some (i + n).toNat else none
def atI {α : Type} (xs : List α) (i : Int) : Option α := (ixN xs.length i).bind fun j => xs[j]?
theorem zH1 {n : Nat} {i : Int} {j : Nat} (h : ixN n i = some j) : seqIndex? i n = some j /\ j < n /\ -(n : Int) <= i /\ i < n := by
 unfold ixN at h
 by_cases h0 : 0 <= i
 ·rw [if_pos h0] at h
  by_cases h1 : i < n
  ·rw [if_pos h1] at h
   have e : i.toNat = j := Option.some.inj h
   exact ⟨by rw [seqIndex_of h0 h1, e], by bv_omega, by bv_omega, h1⟩
  ·rw [if_neg h1] at h; cases h
 ·rw [if_neg h0] at h
  by_cases h1 : -(n : Int) <= i
  ·rw [if_pos h1] at h
   have e : (i + n).toNat = j := Option.some.inj h
   exact ⟨by rw [seqIndex_neg (by bv_omega) h1, e], by bv_omega, h1, by bv_omega⟩
  ·rw [if_neg h1] at h; cases h
theorem aG {α : Type} {xs : List α} {i : Int} {v : α} (h : atI xs i = some v) : ∃ j, seqIndex? i xs.length = some j /\ xs[j]? = some v /\ j < xs.length /\ -(xs.length : Int) <= i /\ i < xs.length := by
 unfold atI at h
 cases e : ixN xs.length i with
 | none => rw [e] at h; cases h
 | some j =>
  rw [e] at h
  obtain ⟨h1, h2, h3, h4⟩ := zH1 e
  exact ⟨j, h1, h, h2, h3, h4⟩
theorem fB {α : Type} {xs : List α} {j : Nat} {v : α} (h : xs[j]? = some v) : atI xs (j : Int) = some v := by
 have hj : j < xs.length := (List.getElem?_eq_some_iff.mp h).1
 have e : ixN xs.length (j : Int) = some j := by
  unfold ixN
  rw [if_pos (by bv_omega), if_pos (by bv_omega)]; simp
 unfold atI; rw [e]; exact h
theorem gY {α : Type} (xs : List α) (v : α) : atI (xs ++ [v]) (-1) = some v := by
 have hl : (xs ++ [v]).length = xs.length + 1 := by simp
 have e : ixN (xs ++ [v]).length (-1) = some xs.length := by
  unfold ixN
  rw [hl, if_neg (by decide), if_pos (by bv_omega)]
  congr 1
  bv_omega
 unfold atI
 rw [e]
 show (xs ++ [v])[xs.length]? = some v
 simp
def PlainIx (b : Expr) : Prop := ∀ o i, subscripted b false o i = operate [o, i] (getItem o i)
def IxR (X : Cx) (r : R2) : Prop :=
 ∀ (value slice : Expr) (pins : List (Addr × Obj)) (s : Shared) (σ : St) (H : Hp) (x y : V) (v u : Value) (Q : VK), Inv X pins σ H s -> RelV x v -> RelV y u -> r x y H Q ->
  subscripted slice false v u = operate [v, u] (getItem v u) -> wpAny (model X.prog X.w) X.A (subscriptTail value slice v u) (EP X pins σ Q) X.xe s
def MtR (X : Cx) (id : String) (r : V -> List V -> Hp -> VK -> Prop) : Prop :=
 ∀ (pins : List (Addr × Obj)) (s : Shared) (σ : St) (H : Hp) (x : V) (xs : List V) (v : Value) (us : List Value) (Q : VK), Inv X pins σ H s -> RelV x v -> Vals xs us -> r x xs H Q ->
  wpAny (model X.prog X.w) X.A (call (.builtin id) (v :: us)) (EP X pins σ Q) X.xe s
section
variable {X : Cx} {a b : Expr} {ta tb : TE} {pos : Pos}
theorem IxR.or {r r' : R2} (h : IxR X r) (h' : IxR X r') : IxR X (fun x y H Q => r x y H Q \/ r' x y H Q) := by
 intro value slice pins s σ H x y v u Q I rx ry q hs
 rcases q with q | q
 ·exact h value slice pins s σ H x y v u Q I rx ry q hs
 ·exact h' value slice pins s σ H x y v u Q I rx ry q hs
theorem xX8 {r : R2} (hr : IxR X r) (ha : PE X a ta) (hb : PE X b tb) (hs : PlainIx b) : PE X (.Subscript a b pos) (tOp r ta tb) := by
 intro pins s σ H Q I h
 exact Subscript_ (binT ha hb I h fun v u s2 x y H2 I2 rx ry q => hr a b pins s2 σ H2 x y v u Q I2 rx ry q (hs _ _))
def rIxL (K : KFr) : R2 := fun x y H Q => ∃ p xs i v, x = .ref p /\ y = .int i /\ SqL K H p xs /\ atI xs i = some v /\ Q v H
def rIxT (K : KFr) : R2 := fun x y H Q => ∃ p xs i v, x = .ref p /\ y = .int i /\ SqT K H p xs /\ atI xs i = some v /\ Q v H
def rIxS : R2 := fun x y H Q => ∃ z i c, x = .str z /\ y = .int i /\ z.length <= sizeLine /\ atI z.cps.toList i = some c /\ Q (.str ⟨#[c]⟩) H
theorem yM7 : IxR X (rIxL X.K) := by
 intro value slice pins s σ H x y v u Q I rx ry h hs
 obtain ⟨p, xs, i, z, rfl, rfl, hq, he, q⟩ := h
 cases rx
 obtain ⟨t, rfl⟩ := ry
 obtain ⟨its, r, pl, hz⟩ := I.list hq
 obtain ⟨j, h1, h2, h3, h4, h5⟩ := aG he
 obtain ⟨w, ew, rw'⟩ := r.get h2
 have hl := r.length
 have hn := line63
 have fin : EP X pins σ Q w s := ⟨z, H, I, rw', q⟩
 by_cases h0 : 0 <= i
 ·have hj : i.toNat = j := by
   rw [seqIndex_of h0 h5] at h1
   exact Option.some.inj h1
  exact item_listR pl.isList h0 (by bv_omega) (by rw [hj]; simpa using ew) fin hs
 ·have hj : (i + (its.toArray.size : Int)).toNat = j := by
   rw [seqIndex_neg (by bv_omega) h4] at h1
   rw [List.size_toArray, <- hl]
   exact Option.some.inj h1
  exact subscriptTail_builtinR (x := w) pl.isList.typeIs slot_list_getitem.lookup
   (wpAny_getItem_list_neg (Q := fun r s' => r = w /\ EP X pins σ Q r s') pl.isList (by bv_omega) (by rw [List.size_toArray] <;> bv_omega) (by bv_omega) (by rw [hj]; simpa using ew) ⟨rfl, fin⟩) hs
theorem xZ3 : IxR X (rIxT X.K) := by
 intro value slice pins s σ H x y v u Q I rx ry h hs
 obtain ⟨p, xs, i, z, rfl, rfl, hq, he, q⟩ := h
 cases rx
 obtain ⟨t, rfl⟩ := ry
 obtain ⟨its, r, pl, hz⟩ := I.tuple hq
 obtain ⟨j, h1, h2, h3, h4, h5⟩ := aG he
 obtain ⟨w, ew, rw'⟩ := r.get h2
 have hl := r.length
 have hn := line63
 have fin : EP X pins σ Q w s := ⟨z, H, I, rw', q⟩
 exact subscriptTail_builtinR (x := w) pl.typeIs slot_tuple_getitem.lookup
  (getItem_tuple (j := j) (Q := fun r s' => r = w /\ EP X pins σ Q r s') pl (by bv_omega) (by bv_omega) (by rw [List.size_toArray, <- hl]; exact h1) (by simpa using ew) ⟨rfl, fin⟩) hs
theorem fU : IxR X rIxS := by
 intro value slice pins s σ H x y v u Q I rx ry h hs
 obtain ⟨z, i, c, rfl, rfl, hz, he, q⟩ := h
 obtain ⟨t, rfl⟩ := rx
 obtain ⟨t', rfl⟩ := ry
 obtain ⟨j, h1, h2, h3, h4, h5⟩ := aG he
 have hl : z.cps.toList.length = z.length := by simp [Str.length]
 rw [hl] at h1 h4 h5
 have hn := line63
 exact tail_any (typeIs_str s z t) slot_str_getitem.lookup (getItem_str (c := c) (by
  have e1 : decide (i < -(2 ^ 63 : Int)) = false := decide_eq_false (by bv_omega)
  have e2 : decide (i ≥ 2 ^ 63) = false := decide_eq_false (by bv_omega)
  rw [e1, e2, Bool.or_false]) (by rw [h1]; simpa using h2) ⟨.str ⟨#[c]⟩, H, I.tok _, ⟨_, rfl⟩, q⟩) hs
def rIx (K : KFr) : R2 := fun x y H Q => rIxL K x y H Q \/ rIxT K x y H Q \/ rIxS x y H Q
theorem yA : IxR X (rIx X.K) := yM7.or (xZ3.or fU)
theorem zF2 (its : List Value) (n j : Nat) (u : Value) : Obj.mapSeq (·.setIfInBounds j u) { cls := .type "list", data := .seq its.toArray n } = { cls := .type "list", data := .seq (its.set j u).toArray n } := by
 simp [Obj.mapSeq]
theorem Inv.lst {pins : List (Addr × Obj)} {σ : St} {H : Hp} {s : Shared} {p : Addr} {xs : List V} (I : Inv X pins σ H s) (h : H p = some (.lst xs)) :
  ∃ (its : List Value) (n : Nat), Vals xs its /\ s.heap.get? p = some { cls := .type "list", data := .seq its.toArray n } /\ xs.length <= sizeLine := by
 obtain ⟨z, its, n, r, e⟩ := I.hok p _ h
 exact ⟨its, n, r, e, z⟩
theorem Inv.lstUpd {pins : List (Addr × Obj)} {σ : St} {H : Hp} {s : Shared} {p : Addr} {xs ys : List V} {its its' : List Value} {n n' : Nat} {f : Obj -> Obj} (I : Inv X pins σ H s) (h : H p = some (.lst xs))
  (ho : s.heap.get? p = some { cls := .type "list", data := .seq its.toArray n }) (hf : f { cls := .type "list", data := .seq its.toArray n } = { cls := .type "list", data := .seq its'.toArray n' }) (r : Vals ys its') (hz : ys.length <= sizeLine) (t : Nat) :
  Inv X pins σ (upd H p (.lst ys)) { s with heap := s.heap.update p f, toks := t } := by
 have e : (s.heap.update p f).get? p = some { cls := .type "list", data := .seq its'.toArray n' } := by
  rw [Heap.get?_update_self f ho (by rw [hf] <;> rfl), hf]
 refine I.write (x := p) (e := p) (by rw [h]; trivial) (.inl rfl) (fun b u hb q => (Heap.get?_update_other _ _ (Ne.symm hb)).trans q) ⟨_, e⟩ ?_
 exact ⟨hz, its', n', r, e⟩
def rSetL : V -> V -> V -> Hp -> (Hp -> Prop) -> Prop := fun o i v H Q => ∃ p xs k j, o = .ref p /\ i = .int k /\ H p = some (.lst xs) /\ ixN xs.length k = some j /\ Q (upd H p (.lst (xs.set j v)))
theorem yS9 : PSet X rSetL := by
 intro pins s σ H o i v ov iv u Q I ro ri rv h
 obtain ⟨p, xs, k, j, rfl, rfl, hp, hj, q⟩ := h
 cases ro
 obtain ⟨t, rfl⟩ := ri
 obtain ⟨its, n, r, ho, hz⟩ := I.lst hp
 obtain ⟨h1, h2, h3, h4⟩ := zH1 hj
 have hl := r.length
 have hn := line63
 have I' : Inv X pins σ (upd H p (.lst (xs.set j v))) { s with heap := s.heap.update p (Obj.mapSeq (·.setIfInBounds j u)) } :=
  I.lstUpd hp ho (zF2 its n j u) (r.set rv j) (by rw [List.length_set]; exact hz) s.toks
 by_cases h0 : 0 <= k
 ·have hk : k.toNat = j := by
   rw [seqIndex_of h0 h4] at h1
   exact Option.some.inj h1
  exact PySem.W.ki_setAt ho h0 (by bv_omega) (by rw [List.size_toArray, <- hl]; exact h4) (by rw [hk]; exact ⟨_, I', q⟩)
 ·have hk : (k + (its.toArray.size : Int)).toNat = j := by
   rw [seqIndex_neg (by bv_omega) h3] at h1
   rw [List.size_toArray, <- hl]
   exact Option.some.inj h1
  exact PySem.W.ki_setBack ho (by bv_omega) (by rw [List.size_toArray, <- hl]; exact h3) (by bv_omega) (by rw [hk]; exact ⟨_, I', q⟩)
theorem zS9 (lo hi : Option Int) (n : Nat) : (sliceBounds lo hi none n).1 = ((HT.sIx n 0 lo : Nat) : Int) /\ (sliceBounds lo hi none n).2.1 = ((HT.sIx n n hi : Nat) : Int) /\ (sliceBounds lo hi none n).2.2 = 1 := by
 refine ⟨?_, ?_, rfl⟩
 ·cases lo with
  | none => simp [sliceBounds, HT.sIx]
  | some i =>
   simp only [sliceBounds, HT.sIx, Option.getD_none, show (1 : Int) > 0 by decide, if_true]
   by_cases h : i < 0
   ·simp only [h, if_true] <;> bv_omega
   ·simp only [h, if_false] <;> bv_omega
 ·cases hi with
  | none => simp [sliceBounds, HT.sIx]
  | some i =>
   simp only [sliceBounds, HT.sIx, Option.getD_none, show (1 : Int) > 0 by decide, if_true]
   by_cases h : i < 0
   ·simp only [h, if_true] <;> bv_omega
   ·simp only [h, if_false] <;> bv_omega
theorem zV3 (its : List Value) (lo hi : Option Int) : slicePick its.toArray lo hi none = ((its.drop (HT.sIx its.length 0 lo)).take (HT.sIx its.length its.length hi - HT.sIx its.length 0 lo)).toArray := by
 obtain ⟨h1, h2, h3⟩ := zS9 lo hi its.toArray.size
 unfold slicePick
 rw [h1, h2, h3]
 simp only [sliceRange_one, pick_run, List.size_toArray] <;> rfl
def rSlL (K : KFr) : V -> Option Int -> Option Int -> Hp -> VK -> Prop := fun x lo hi H Q => ∃ a xs, x = .ref a /\ SqL K H a xs /\ ∀ p, H p = none -> Q (.ref p) (upd H p (.lst (cutV xs lo hi)))
theorem zI4 : SlR X (rSlL X.K) := by
 intro pins s σ H x v vl vu lo hi sl Q I rx hs pl pu h
 obtain ⟨a, xs, rfl, hx, q⟩ := h
 cases rx
 obtain ⟨its, r, ht, hz⟩ := I.list hx
 have hlen := r.length
 refine ⟨"list", _, slot_list_getitem.lookup, ht.isList.typeIs, ?_⟩
 refine wpAny_getItem_list_slice ht.isList hs pl pu .none (by simp) ?_ (by rw [List.size_toArray] <;> bv_omega)
 rw [zV3, <- hlen]
 refine ⟨.ref s.heap.objs.size, _, I.laid (t' := s.toks) (o := .lst (cutV xs lo hi)) (fun b ob q => Heap.get?_push_of_some _ q) (Nat.le_refl _) ?_, rfl, q _ (I.hok.fresh (Nat.le_refl _))⟩
 exact ⟨Nat.le_trans (dD xs lo hi) hz, _, 0, (r.drop (HT.sIx xs.length 0 lo)).take (HT.sIx xs.length xs.length hi - HT.sIx xs.length 0 lo), Heap.get?_push_size _ rfl⟩
def flatV : V -> Bool
 | .non => true
 | .bl _ => true
 | .int _ => true
 | .str _ => true
 | _ => false
def eqV : V -> V -> Bool
 | .non, .non => true
 | .bl a, .bl b => a == b
 | .bl a, .int b => (if a then 1 else 0) == b
 | .int a, .bl b => a == (if b then 1 else 0)
 | .int a, .int b => a == b
 | .str a, .str b => a == b
 | _, _ => false
theorem yA1 {A : Around} {s : Shared} {y x : V} {u v : Value} (ry : RelV y u) (rx : RelV x v) (fy : flatV y = true) (fx : flatV x = true) : SeqAt.EqAt A s u v (eqV y x) := by
 cases y with
 | non =>
  cases ry
  cases x with
  | non => cases rx; exact SeqAt.EqAt.same _
  | bl b => cases rx; exact SeqAt.EqAt.none_bool b
  | int b => obtain ⟨t, rfl⟩ := rx; exact SeqAt.EqAt.none_int b t
  | str b => obtain ⟨t, rfl⟩ := rx; exact SeqAt.EqAt.none_str b t
  | _ => exact absurd (show false = true from fx) Bool.false_ne_true
 | bl a =>
  cases ry
  cases x with
  | non => cases rx; exact SeqAt.EqAt.bool_none a
  | bl b => cases rx; exact SeqAt.EqAt.bool_bool a b
  | int b => obtain ⟨t, rfl⟩ := rx; exact SeqAt.EqAt.bool_int a b t
  | str b => obtain ⟨t, rfl⟩ := rx; exact SeqAt.EqAt.bool_str a b t
  | _ => exact absurd (show false = true from fx) Bool.false_ne_true
 | int a =>
  obtain ⟨t', rfl⟩ := ry
  cases x with
  | non => cases rx; exact SeqAt.EqAt.int_none a t'
  | bl b => cases rx; exact SeqAt.EqAt.int_bool a t' b
  | int b => obtain ⟨t, rfl⟩ := rx; exact SeqAt.EqAt.int_int a t' b t
  | str b => obtain ⟨t, rfl⟩ := rx; exact SeqAt.EqAt.int_str a t' b t
  | _ => exact absurd (show false = true from fx) Bool.false_ne_true
 | str a =>
  obtain ⟨t', rfl⟩ := ry
  cases x with
  | non => cases rx; exact SeqAt.EqAt.str_none a t'
  | bl b => cases rx; exact SeqAt.EqAt.str_bool a t' b
  | int b => obtain ⟨t, rfl⟩ := rx; exact SeqAt.EqAt.str_int a t' b t
  | str b => obtain ⟨t, rfl⟩ := rx; exact SeqAt.EqAt.str_str a t' b t
  | _ => exact absurd (show false = true from fx) Bool.false_ne_true
 | _ => exact absurd (show false = true from fy) Bool.false_ne_true
def eqU (x : V) (u : Value) : Bool := match u with
 | .none => eqV .non x
 | .bool b => eqV (.bl b) x
 | .int i _ => eqV (.int i) x
 | .str z _ => eqV (.str z) x
 | _ => false
theorem yZ9 {x y : V} {u : Value} (r : RelV y u) (f : flatV y = true) : eqU x u = eqV y x := by
 cases y with
 | non => cases r; rfl
 | bl b => cases r; rfl
 | int i => obtain ⟨t, rfl⟩ := r; rfl
 | str z => obtain ⟨t, rfl⟩ := r; rfl
 | _ => exact absurd (show false = true from f) Bool.false_ne_true
theorem aV {x : V} : ∀ {xs : List V} {us : List Value}, Vals xs us -> xs.all flatV = true -> us.any (eqU x) = xs.any fun y => eqV y x
 | _, _, .nil, _ => rfl
 | y :: xs, u :: us, .cons r t, f => by
  rw [List.all_cons, Bool.and_eq_true] at f
  rw [List.any_cons, List.any_cons, yZ9 r f.1, aV t f.2]
theorem cZ {A : Around} {s : Shared} {x : V} {v : Value} (rx : RelV x v) (fx : flatV x = true) : ∀ {xs : List V} {us : List Value}, Vals xs us -> xs.all flatV = true -> ∀ u ∈ us, SeqAt.EqAt A s u v (eqU x u)
 | _, _, .nil, _ => fun u hu => by cases hu
 | y :: xs, u :: us, .cons r t, f => fun u' hu => by
  rw [List.all_cons, Bool.and_eq_true] at f
  rcases List.mem_cons.mp hu with rfl | hu
  ·rw [yZ9 r f.1]; exact yA1 r rx f.1 fx
  ·exact cZ rx fx t f.2 u' hu
def inV (x : V) (xs : List V) : Bool := xs.any fun y => eqV y x
def rIn (K : KFr) (neg : Bool) : R2 := fun x y H Q => ∃ p xs, y = .ref p /\ (SqL K H p xs \/ SqT K H p xs) /\ flatV x = true /\ xs.all flatV = true /\ Q (.bl (if neg then !inV x xs else inV x xs)) H
theorem zT8 : OpR X (compareOp .NotIn) (rIn X.K true) := by
 intro pins s σ H x y v u Q I rx ry h
 obtain ⟨p, xs, rfl, hq, fx, fs, q⟩ := h
 cases ry
 rcases hq with hq | hq
 ·obtain ⟨its, r, pl, hz⟩ := I.list hq
  refine SeqAt.notIn_listAt (eqU x) pl.isList (fun w hw => cZ rx fx r fs w (by simpa using hw)) ⟨.bl _, H, I, rfl, ?_⟩
  rw [show its.toArray.any (eqU x) = its.any (eqU x) by simp, aV r fs]
  exact q
 ·obtain ⟨its, r, pl, hz⟩ := I.tuple hq
  refine SeqAt.notIn_tupleAt (eqU x) pl (fun w hw => cZ rx fx r fs w (by simpa using hw)) ⟨.bl _, H, I, rfl, ?_⟩
  rw [show its.toArray.any (eqU x) = its.any (eqU x) by simp, aV r fs]
  exact q
theorem zA : CallR X (.builtin "len") (fun xs H Q => ∃ p ys, xs = [.ref p] /\ (SqL X.K H p ys \/ SqT X.K H p ys) /\ Q (.int ys.length) H) := by
 intro pins s σ H xs us Q I r h
 obtain ⟨p, ys, rfl, hq, q⟩ := h
 obtain ⟨u, rfl, rx⟩ := vals1 r
 cases rx
 have hn := line63
 rcases hq with hq | hq
 ·obtain ⟨its, r', pl, hz⟩ := I.list hq
  have hlen := r'.length
  exact Calls.call_len_list pl.isList (by simp only [List.size_toArray] <;> bv_omega) ⟨.int ys.length, H, I.tok _, ⟨s.toks + 1, by rw [List.size_toArray, hlen]⟩, q⟩
 ·obtain ⟨its, r', pl, hz⟩ := I.tuple hq
  have hlen := r'.length
  exact len_tuple pl (by simp only [List.size_toArray] <;> bv_omega) ⟨.int ys.length, H, I.tok _, ⟨s.toks + 1, by rw [List.size_toArray, hlen]⟩, q⟩
theorem xD : CallR X (.builtin "len") (fun xs H Q => ∃ z, xs = [.str z] /\ z.length <= sizeLine /\ Q (.int z.length) H) := by
 intro pins s σ H xs us Q I r h
 obtain ⟨z, rfl, hz, q⟩ := h
 obtain ⟨u, rfl, t, rfl⟩ := vals1 r
 have hn := line63
 exact len_str (by bv_omega) ⟨.int z.length, H, I.tok _, ⟨_, rfl⟩, q⟩
theorem xO : CallR X (.type "tuple") (fun xs H Q => ∃ p ys, xs = [.ref p] /\ ((SqL X.K H p ys /\ ∀ l, H l = none -> Q (.ref l) (upd H l (.tup ys))) \/ (SqT X.K H p ys /\ Q (.ref p) H))) := by
 intro pins s σ H xs us Q I r h
 obtain ⟨p, ys, rfl, h⟩ := h
 obtain ⟨u, rfl, rx⟩ := vals1 r
 cases rx
 rcases h with ⟨hq, q⟩ | ⟨hq, q⟩
 ·obtain ⟨its, r', pl, hz⟩ := I.list hq
  have hlen := r'.length
  refine call_tuple_list pl.isList (fun h' kp => ?_) (by simp only [List.size_toArray] <;> bv_omega)
  have I1 : Inv X pins σ H { s with heap := h' } := I.kept (t' := s.toks) kp
  have I2 : Inv X pins σ (upd H h'.objs.size (.tup ys)) { s with heap := h'.push { cls := .type "tuple", data := .seq its.toArray } } :=
   I1.laid (t' := s.toks) (fun b o e => Heap.get?_push_of_some _ e) (Nat.le_refl _) (show ObjOk X.prog X.w _ _ _ (.tup ys) from ⟨hz, its, r', TupAt.new _ _⟩)
  exact ⟨.ref h'.objs.size, _, I2, rfl, q _ (I1.hok.fresh (Nat.le_refl _))⟩
 ·obtain ⟨its, r', pl, hz⟩ := I.tuple hq
  exact call_tuple_same pl ⟨.ref p, H, I, rfl, q⟩
def tyV (K : KFr) (T : String) (x : V) (H : Hp) : Prop := match x with
 | .str _ => T = "str"
 | .int _ => T = "int"
 | .ref p => (T = "list" /\ ∃ xs, SqL K H p xs) \/ (T = "tuple" /\ ((∃ o, K.lookup p = some o /\ o.cls = .type "tuple" /\ o.dict = none) \/ ∃ xs, Rd H p (.tup xs))) \/
   (T = "dict" /\ ((∃ kvs, H p = some (.dK kvs)) \/ ∃ kvs, H p = some (.dT kvs))) \/ (T = "set" /\ ∃ S n, H p = some (.set S n))
 | _ => False
theorem yY9 {pins : List (Addr × Obj)} {σ : St} {H : Hp} {s : Shared} {T : String} {x : V} {v : Value} (I : Inv X pins σ H s) (r : RelV x v) (ty : tyV X.K T x H) :
  s.TypeIs v T /\ ∀ a, v = .ref a -> ∃ ob, s.heap.get? a = some ob /\ ob.dict = none := by
 cases x with
 | str z =>
  obtain ⟨t, rfl⟩ := r
  cases (show T = "str" from ty)
  exact ⟨typeIs_str s z t, fun _ e => nomatch e⟩
 | int i =>
  obtain ⟨t, rfl⟩ := r
  cases (show T = "int" from ty)
  exact ⟨typeIs_int s i t, fun _ e => nomatch e⟩
 | ref p =>
  cases r
  rcases ty with ⟨rfl, xs, hq⟩ | ⟨rfl, ⟨o, hk, hc, hd⟩ | ⟨xs, hq⟩⟩ | ⟨rfl, hk⟩ | ⟨rfl, S, n, hk⟩
  ·obtain ⟨its, _, pl, _⟩ := I.list hq
   refine ⟨pl.isList.typeIs, fun a e => ?_⟩
   cases e
   obtain ⟨o, n, e, c, hd, _⟩ := pl
   exact ⟨o, e, hd⟩
  ·refine ⟨⟨o, I.kIn p o hk, hc⟩, fun a e => ?_⟩
   cases e
   exact ⟨o, I.kIn _ o hk, hd⟩
  ·obtain ⟨_, its, _, o, e, c, _, hd⟩ := hq.ok I.hok
   refine ⟨⟨o, e, c⟩, fun a e2 => ?_⟩
   cases e2
   exact ⟨o, e, hd⟩
  ·have z : ∃ o, s.heap.get? p = some o /\ o.ExactDict := by
    rcases hk with ⟨kvs, hk⟩ | ⟨kvs, hk⟩
    ·obtain ⟨_, _, _, _, o, _, _, e, ex, _⟩ := I.hok p _ hk
     exact ⟨o, e, ex⟩
    ·obtain ⟨_, _, _, _, o, _, _, e, ex, _⟩ := I.hok p _ hk
     exact ⟨o, e, ex⟩
   obtain ⟨o, e, ex⟩ := z
   refine ⟨⟨o, e, ex.1⟩, fun a e2 => ?_⟩
   cases e2
   exact ⟨o, e, ex.2.1⟩
  ·obtain ⟨o, _, _, _, e, ex, _⟩ := I.hok p _ hk
   refine ⟨⟨o, e, ex.1⟩, fun a e2 => ?_⟩
   cases e2
   exact ⟨o, e, ex.2.1⟩
 | _ => exact False.elim ty
def tBM0 (K : KFr) (T : String) (r : V -> List V -> Hp -> VK -> Prop) (to : TE) : TE := fun σ H Q => to σ H fun x H1 => tyV K T x H1 /\ r x [] H1 Q
def tBM (K : KFr) (T : String) (r : V -> List V -> Hp -> VK -> Prop) (to : TE) (t : TA) : TE := fun σ H Q => to σ H fun x H1 => tyV K T x H1 /\ t σ H1 fun xs H2 => r x xs H2 Q
variable {o e : Expr} {es : List Expr} {to : TE} {t : TA} {name : Str} {apos cpos : Pos} {T id : String} {r : V -> List V -> Hp -> VK -> Prop}
theorem yE2 (pa : PlainAttrs T) (slot : Slot T name id) (hty : typeOf (.builtin id) = pure (.type "method_descriptor")) (hm : MtR X id r) (ho : PE X o to)
  (hbase : autoParam (attributeBase o name X.env (eval o X.env) = eval o X.env) zZ._auto_1) (hline : autoParam ((apos.endLine == cpos.line) = true) zZ._auto_1) : PE X (.Call (.Attribute o name apos) [] [] cpos) (tBM0 X.K T r to) := by
 intro pins s σ H Q I h
 refine wpAny_Call_method0_late hbase hline (thn (ho pins s σ H _ I h) fun v s1 ⟨x, H1, I1, r1, ty, q1⟩ => ?_)
 obtain ⟨h1, h2⟩ := yY9 I1 r1 ty
 exact ⟨T, id, pa, slot, hty, h1, h2, Calls.callWith_builtin rfl (PySem.evalArgs_none (hm pins s1 σ H1 x [] v [] Q I1 r1 .nil q1))⟩
theorem zG6 (pa : PlainAttrs T) (slot : Slot T name id) (hty : typeOf (.builtin id) = pure (.type "method_descriptor")) (hm : MtR X id r) (ho : PE X o to) (ha : PA X (e :: es) t)
  (hbase : autoParam (attributeBase o name X.env (eval o X.env) = eval o X.env) zZ._auto_1)
  (hfew : ((backTo cpos (starEach (e :: es) X.env)).all (fun x => !x.1) && (backToKw cpos (keywordEach [] X.env)).all (fun x => x.1.isSome)
   && decide ((e :: es).length + ([] : List Keyword).length + (if ([] : List Keyword).isEmpty then 0 else 1) < 30)) = true := by rfl)
  (hline : autoParam ((apos.endLine == cpos.line) = true) zZ._auto_1) (hs : autoParam (starEach (e :: es) X.env = (false, eval e X.env) :: starEach es X.env) zZ._auto_1) (hplain : autoParam ((backTo cpos (starEach es X.env)).any (·.1) = false) zZ._auto_1) :
  PE X (.Call (.Attribute o name apos) (e :: es) [] cpos) (tBM X.K T r to t) := by
 intro pins s σ H Q I h
 refine wpAny_Call_method_late hbase hfew hline rfl (thn (ho pins s σ H _ I h) fun v s1 ⟨x, H1, I1, r1, ty, q1⟩ => ?_)
 obtain ⟨h1, h2⟩ := yY9 I1 r1 ty
 refine ⟨T, id, pa, slot, hty, h1, h2, ?_⟩
 have hA := ha cpos pins s1 σ H1 _ I1 q1
 rw [hs] at hA ⊢
 refine Calls.callWith_builtin (by show (false || (backTo cpos (starEach es X.env)).any (·.1)) = false; rw [hplain] <;> rfl) (Calls.evalArgs_plain ?_)
 exact thn hA fun us s2 ⟨vs, H2, I2, r2, q2⟩ => hm pins s2 σ H2 x vs v us Q I2 r1 r2 q2
end
def MtM (X : Cx) (id : String) (r : V -> List V -> Hp -> VK -> Prop) : Prop :=
 ∀ (pins : List (Addr × Obj)) (s : Shared) (σ : St) (H : Hp) (x : V) (xs : List V) (v : Value) (us : List Value) (Q : VK), Inv X pins σ H s -> RelV x v -> Vals xs us -> r x xs H Q ->
  wpAny (model X.prog X.w) X.A (call (.builtin id) (v :: us)) (EP X pins σ Q) X.xe s
theorem Vals.one : ∀ {x : V} {us : List Value}, Vals [x] us -> ∃ u, us = [u] /\ RelV x u
 | _, _, .cons r .nil => ⟨_, rfl, r⟩
theorem Vals.two : ∀ {x y : V} {us : List Value}, Vals [x, y] us -> ∃ u v, us = [u, v] /\ RelV x u /\ RelV y v
 | _, _, _, .cons r (.cons q .nil) => ⟨_, _, rfl, r, q⟩
theorem Vals.rep {xs : List V} {us : List Value} (h : Vals xs us) : ∀ k : Nat, Vals (List.replicate k xs).flatten (List.replicate k us).flatten
 | 0 => .nil
 | k + 1 => by
  rw [List.replicate_succ, List.replicate_succ, List.flatten_cons, List.flatten_cons]
  exact Vals.append h (Vals.rep h k)
theorem zY1 (its : List Value) : ∀ (k : Nat) (acc : List Value),
  List.foldl (fun x1 x2 => x1 ++ x2) acc.toArray (List.replicate k its.toArray) = (acc ++ (List.replicate k its).flatten).toArray
 | 0, acc => by simp
 | k + 1, acc => by
  have e : acc.toArray ++ its.toArray = (acc ++ its).toArray := by simp
  have e2 : (acc ++ its) ++ (List.replicate k its).flatten = acc ++ (List.replicate (k + 1) its).flatten := by
   rw [List.replicate_succ, List.flatten_cons, List.append_assoc]
  rw [<- e2, <- zY1 its k (acc ++ its), <- e, List.replicate_succ, List.foldl_cons]
section
variable {X : Cx} {pins : List (Addr × Obj)} {σ : St} {H : Hp} {s : Shared} {l b : Addr} {xs ys zs : List V}
theorem Inv.lset {its its' : List Value} {n : Nat} {f : Array Value -> Array Value} {t' : Nat} (I : Inv X pins σ H s) (hH : H l = some (.lst xs))
  (e : s.heap.get? l = some { cls := .type "list", data := .seq its.toArray n }) (hf : f its.toArray = its'.toArray) (hv : Vals ys its') (hz : ys.length <= sizeLine) :
  Inv X pins σ (upd H l (.lst ys)) { s with heap := s.heap.update l (Obj.mapSeq f), toks := t' } := by
 have q := PySem.IsL.update e f
 rw [hf] at q
 refine I.write (x := l) (e := l) (by rw [hH]; exact trivial) (.inl rfl) (fun b' u hb hu => (Heap.get?_update_other s.heap (Obj.mapSeq f) (Ne.symm hb)).trans hu) ⟨_, q⟩ ?_
 exact ⟨hz, its', _, hv, q⟩
theorem Inv.lnew {its : List Value} {t' : Nat} (I : Inv X pins σ H s) (hv : Vals ys its) (hz : ys.length <= sizeLine) :
  Inv X pins σ (upd H s.heap.objs.size (.lst ys)) { s with heap := s.heap.push { cls := .type "list", data := .seq its.toArray }, toks := t' } :=
 I.laid (fun _ _ q => Heap.get?_push_of_some _ q) (Nat.le_refl _) ⟨hz, its, 0, hv, Heap.get?_push_size _ rfl⟩
theorem Inv.fresh (I : Inv X pins σ H s) : H s.heap.objs.size = none := I.hok.fresh (Nat.le_refl _)
theorem Inv.lstM (I : Inv X pins σ H s) (hH : H l = some (.lst xs)) : xs.length <= sizeLine /\ ∃ (its : List Value) (n : Nat), Vals xs its /\ xs.length = its.length /\ s.heap.get? l = some { cls := .type "list", data := .seq its.toArray n } := by
 obtain ⟨z, its, n, r, e⟩ := I.hok l _ hH
 exact ⟨z, its, n, r, r.length, e⟩
theorem notLongL {n : Nat} (h : n <= sizeLine) : Builtin.List.listTooLong n = false := by
 unfold Builtin.List.listTooLong
 exact decide_eq_false (by bv_omega)
end
section
variable {X : Cx}
def rAppend : V -> List V -> Hp -> VK -> Prop := fun x vs H Q => ∃ l xs y, x = .ref l /\ vs = [y] /\ H l = some (.lst xs) /\ xs.length < sizeLine /\ Q .non (upd H l (.lst (xs ++ [y])))
theorem vC : MtM X "list.append" rAppend := by
 intro pins s σ H x vs v us Q I rx rv h
 obtain ⟨l, xs, y, rfl, rfl, hH, hz, q⟩ := h
 cases rx
 obtain ⟨u, rfl, ru⟩ := rv.one
 obtain ⟨z, its, n, r, hl, e⟩ := I.lstM hH
 refine call_meets F.slot_list_append ⟨_, e, rfl⟩ F.entry_list_append (F.args_list_append_2 _ _) (PySem.list_append l its.toArray n u (by rw [List.size_toArray]; bv_omega)) ⟨e, ?_⟩
 refine ⟨.non, _, I.lset (its' := its ++ [u]) hH e (by simp) (r.append (.cons ru .nil)) ?_, rfl, q⟩
 rw [List.length_append, List.length_singleton]
 bv_omega
theorem yJ8 {α : Type} (xs : List α) (k : Nat) : (List.replicate k xs).flatten.length = k * xs.length := by
 induction k with
 | zero => simp
 | succ k ih => rw [List.replicate_succ, List.flatten_cons, List.length_append, ih, Nat.succ_mul, Nat.add_comm]
end
section
variable {prog : Program} {w : World} {A : Around} {E : Value -> Shared -> Prop} {s : Shared}
end
section
variable {X : Cx}
end
end L2
namespace Att
open PySem PySem.W PySem.Calls PyProof.Rows
theorem bM {P : Params} {h : Heap} : ∀ (ns : List Int) (vs : List Value), WellAll P h vs (ns.map WData.int) -> IntsAre vs ns := by
 intro ns
 induction ns with
 | nil =>
  intro vs w
  rw [List.map_nil] at w
  cases w
  exact .nil
 | cons n ns ih =>
  intro vs w
  rw [List.map_cons] at w
  cases w with
  | cons a b =>
   cases a
   exact .cons _ _ (ih _ b)
theorem zC3 {l : OpenLaw} {n : Nat} (hn : l.most = some n) {P : Params} {h : Heap} {args : List WData} {vals : List Value}
  (hpre : l.row.toRowW.claim.pre args = true) (hwl : WellAll P h vals args) :
  ∃ a vs ns, vals = [Value.ref a] /\ args = [WData.list (ns.map WData.int)] /\ h.get? a = some { cls := .type "list", data := .seq vs.toArray } /\ IntsAre vs ns /\ ns.length <= n := by
 have hsh : WShape.hasAll [] args [.list .int] = true := (pre_splitW hpre).1
 have hc : l.pre.holds [] { args := args } = true := (pre_splitW hpre).2
 obtain ⟨d, r, rfl, h1, h2⟩ := hasAllW_cons hsh
 obtain rfl := hasAllW_nil h2
 obtain ⟨xs, rfl, h3⟩ := hasW_list h1
 obtain ⟨ns, rfl⟩ := items_int h3
 have hlen : ns.length <= n := by
  unfold OpenLaw.pre at hc
  have h4 : (WTm.not (.lt (.lit (.int (n : Int))) (.len (.arg 0)))).holds [] { args := [.list (ns.map .int)] } = true := by
   have h4 := (holds_andW hc).1
   rw [hn] at h4
   exact h4
  have h5 := condW_of h4 (w_not (w_lt w_lit (w_len_list (w_arg rfl))))
  rw [List.length_map] at h5
  refine Nat.le_of_not_lt fun q => ?_
  have q' : (n : Int) < ((ns.length : Nat) : Int) := by bv_omega
  first
   | (rw [decide_eq_true q'] at h5; exact absurd h5 (by decide))
   | (simp at h5; bv_omega)
 cases hwl with
 | cons w1 w2 =>
  cases w2
  cases w1 with
  | list ho hall => exact ⟨_, _, ns, rfl, rfl, ho, bM ns _ hall, hlen⟩
theorem yZ5 (l : OpenLaw) (args : List WData) : l.row.toRowW.claim.post args (.bool true) args = true :=
 postW_of (r := l.row.toRowW) (X := (true == true))
  (show WShape.has [] (.bool true) .bool = true by first | rfl | decide | simp [WShape.has, WShape.arms, WShape.armsAll])
  (show (WTm.eq .res (.lit (.bool true))).value [] { args := args, res := some (.bool true), after := args } = some (.bool (true == true)) from w_eq_bool (w_res rfl) w_lit) rfl
theorem zN9 {l : OpenLaw} {n : Nat} {q : Program} {loose : List Str} {XP : (Str -> Option Value) -> Heap -> Prop} {YP : World -> Heap -> Prop} {d : DefRec}
  (hn : l.most = some n) (hdf : d.params.defaults = [])
  (call : ∀ (w : World) (s₀ s₁ : Shared) (mg mb : Str -> Option Value) (fa : Addr) (o : Obj) (pm cd doc : Value) (a : Addr) (vs : List Value) (ns : List Int),
   Ground q loose [] XP w s₀ mg mb s₁.heap -> YP w s₁.heap ->
   s₁.heap.get? fa = some o -> o.data = .func (docDef d.name d.params d.body d.scope pm cd doc) -> s₁.heap.CodeRec cd d.name -> mg d.name = some (.ref fa) ->
   s₁.heap.get? a = some { cls := .type "list", data := .seq vs.toArray } -> IntsAre vs ns -> ns.length <= n -> s₁.gens = #[] ->
   codeAny (model l.prog w) callerA (.call (.ref fa) ⟨[.ref a], []⟩) (fun r s' => r = .ok (.ret (.bool true)) /\ OldK s₁.heap s'.heap /\ s'.os = s₁.os /\ AllBare s'.gens) s₁) :
  WalkO q loose XP YP l.row.toRowW d [] (fun f vs => PySem.call f vs) := by
 intro w s₀ s₁ mg mb G Y fa o pm cd doc dV kV ho hd hcd hD hmg hg args vals as hpre hlay hrd hwl hlo
 obtain rfl : dV = .none := Dflts.none hD hdf
 obtain rfl : kV = .none := Dflts.noKw hD
 obtain ⟨a, vs, ns, rfl, rfl, hobj, hints, hlen⟩ := zC3 hn hpre hwl
 refine enter_call (codeAny_mono (call w s₀ s₁ mg mb fa o pm cd doc a vs ns G Y ho (fd_plain hd) hcd hmg hobj hints hlen hg) fun r s' hq => ?_)
 obtain ⟨rfl, h2, h3, h4⟩ := hq
 exact ⟨.inl ⟨.bool true, .bool true, [], rfl, fun _ => rfl, .bool true, yZ5 l _, fun _ => ⟨List.Pairwise.nil, fun _ hm => (nomatch hm)⟩⟩, h2, h3, h4⟩
section
variable {prog : Program} {w : World} {A : Around} {E : Value -> Shared -> Prop} {s : Shared} {K : Frag}
end
end Att
namespace L2
open PySem PySem.Spec PyProof.Rows
theorem fW : ∀ {vs : List Value} {ns : List Int}, IntsAre vs ns -> Vals (ns.map V.int) vs
 | _, _, .nil => .nil
 | _, _, .cons n t h => .cons ⟨t, rfl⟩ (fW h)
def Only (H : Hp) : Prop := ∀ b, H b = none \/ ∃ o xs, H b = some (.frz o (.lst xs))
theorem yR2 {P : Program} {w : World} {K : KFr} {mg mb : Str -> Option Value} {CX : CXT} {k : Nat} {fa a : Addr} {fd : FuncData} {x : Str} {sp : Sp} {s₁ : Shared} {vs : List Value} {ns : List Int}
  (KX : K.In s₁.heap) (hns : s₁.heap.Ns mainGlobals mg) (hb : s₁.heap.Ns builtinsNs mb) (hbb : ∀ x : Str, x ≠ "__name__" -> mb x = bootBuiltins x) (hlim : s₁.heap.NoLimit) (hg : s₁.gens = #[])
  (ha : s₁.heap.get? a = some { cls := .type "list", data := .seq vs.toArray }) (hi : IntsAre vs ns) (hl : ns.length <= sizeLine) (hr : Room k callerA)
  (F : ∀ base : Heap, K.In base -> base.Ns mainGlobals mg -> FnOk P w K mg base CX k fa fd [x] sp) (hbind : ∀ (s : Shared) (u : Value), BindsTo s fd ⟨[u], []⟩ [(x, u)])
  (hsp : ∀ H : Hp, Only H -> SqL K H a (ns.map V.int) -> sp [.ref a] H (fun v _ => v = .bl true) fun _ _ _ => False)
  (hCX : ∀ H e s', CX [] H s₁ (fun _ _ _ => False) e s' -> False) :
  codeAny (model P w) callerA (.call (.ref fa) ⟨[.ref a], []⟩) (fun r s' => r = .ok (.ret (.bool true)) /\ OldK s₁.heap s'.heap /\ s'.os = s₁.os /\ AllBare s'.gens) s₁ := by
 have rv := fW hi
 have lenV := hi.length
 have core : ∀ H : Hp, Only H -> SqL K H a (ns.map V.int) -> HOk P w H s₁.heap -> (∀ b, H b ≠ none -> b = a) -> (H a ≠ none -> K.lookup a = none) ->
   codeAny (model P w) callerA (.call (.ref fa) ⟨[.ref a], []⟩) (fun r s' => r = .ok (.ret (.bool true)) /\ OldK s₁.heap s'.heap /\ s'.os = s₁.os /\ AllBare s'.gens) s₁ := by
  intro H hO hS hok hA hK
  have base_of : ∀ {b : Addr} {o : Obj}, s₁.heap.get? b = some o -> H b = none -> (hidT s₁.heap H).get? b = some o := fun e n => yQ6 e n
  have noA : ∀ {b : Addr} {o : Obj} {es : Array DictEntry} {ep : Nat}, s₁.heap.get? b = some o -> o.data = .dict es ep -> H b = none := fun {b o es ep} e d => by
   cases q : H b with
   | none => rfl
   | some u =>
    have e' : b = a := hA b (by rw [q]; simp)
    subst e'
    rw [ha] at e; cases e
    have d' : Data.seq vs.toArray _ = Data.dict es ep := d
    cases d'
  have nsK : ∀ {b : Addr} {m : Str -> Option Value}, s₁.heap.Ns b m -> (hidT s₁.heap H).Ns b m := fun {b m} ⟨o, es, ep, e, d, r⟩ => ⟨o, es, ep, base_of e (noA e d), d, r⟩
  have hKb : K.In (hidT s₁.heap H) := fun b o e => base_of (KX b o e) (by
   cases q : H b with
   | none => rfl
   | some u =>
    have e' : b = a := hA b (by rw [q]; simp)
    subst e'
    rw [hK (by rw [q]; simp)] at e; cases e)
  have hM : Mod K mg (hidT s₁.heap H) := ⟨hKb, nsK hns, ⟨mb, nsK hb, hbb⟩, let ⟨mc, h1, h2⟩ := hlim; ⟨mc, nsK h1, h2⟩⟩
  have e0 : Env0 P w K mg (hidT s₁.heap H) callerA [] s₁ H := ⟨rfl, hM, fun b o e => yJ6 e, Nat.le_of_eq (yZ7 _ _), trivial, fun b hb => absurd (show b ∈ ([] : List Addr) from hb) (by simp), hok, .of_eq hg⟩
  refine codeAny_mono ((F _ hKb (nsK hns)).run callerA [] s₁ H ⟨[.ref a], []⟩ [.ref a] [.ref a] _ _ hr e0 (hbind s₁ (.ref a)) (.cons rfl .nil) (hsp H hO hS)) fun r s' h => ?_
  cases r with
  | error e => exact (hCX H e s' h).elim
  | ok fl =>
   cases fl with
   | next => exact False.elim h
   | brk => exact False.elim h
   | cont => exact False.elim h
   | ret u =>
    obtain ⟨v, H', os, bare, un, hok', r', q⟩ := h
    have q' : v = .bl true := q
    subst q'
    obtain rfl : u = Value.bool true := r'
    refine ⟨rfl, OldK.of_keep fun b o e => ?_, os, bare⟩
    cases q : H b with
    | none => exact un.keep b o e q (by intro z; exact absurd (show b ∈ ([] : List Addr) from z) (by simp)) (by simp)
    | some u =>
     rcases hO b with z | ⟨ob, xs, z⟩
     ·rw [q] at z; cases z
     ·have z2 := un.frzs b ob _ z
      obtain ⟨e1, _⟩ := hok b _ z
      obtain ⟨e2, _⟩ := hok' b _ z2
      rw [e] at e1; cases e1
      exact e2
 cases hk : K.lookup a with
 | some o =>
  have e := KX a o hk
  rw [ha] at e
  cases e
  refine core (fun _ => none) (fun _ => .inl rfl) (.inr ⟨_, vs.toArray, _, hk, rfl, rfl, rfl, by rw [List.size_toArray, lenV]; exact hl, by simpa using rv⟩) (fun b u z => by have z' : (none : Option HO) = some u := z; cases z') (fun b z => absurd rfl z) fun z => absurd rfl z
 | none =>
  refine core (fun b => if b = a then some (.frz { cls := .type "list", data := .seq vs.toArray } (.lst (ns.map V.int))) else none) (fun b => ?_) (.inl (.inr ⟨{ cls := .type "list", data := .seq vs.toArray }, if_pos rfl⟩)) (fun b u z => ?_) (fun b z => ?_) fun _ => hk
  ·by_cases hb : b = a
   ·exact .inr ⟨_, _, if_pos hb⟩
   ·exact .inl (if_neg hb)
  ·by_cases hb : b = a
   ·have z' := (if_pos hb).symm.trans z
    cases z'
    subst hb
    exact ⟨ha, by rw [List.length_map]; exact hl, vs, _, rv, ha⟩
   ·have z' := (if_neg hb).symm.trans z
    cases z'
  ·by_cases hb : b = a
   ·exact hb
   ·exact absurd (if_neg hb) z
abbrev KOf {K : KFr} {h : Heap} (_ : K.In h) : KFr := K
theorem yG1 {l : PySem.W.OpenLaw} {n k : Nat} {q : Program} {loose : List Str} {XP : (Str -> Option Value) -> Heap -> Prop} {YP : World -> Heap -> Prop} {d : DefRec} {K : Params -> KFr} {CX : World -> CXT} {sp : World -> Sp} {x : Str}
  (hn : l.most = some n) (hn2 : n <= sizeLine) (hdf : d.params.defaults = []) (hr : Room k callerA)
  (hY : ∀ (w : World) (h : Heap), YP w h -> (K w.params).In h)
  (F : ∀ (w : World) (mg : Str -> Option Value) (fa : Addr) (h : Heap), (K w.params).In h -> h.Ns mainGlobals mg -> mg d.name = some (.ref fa) ->
   ∃ fd : FuncData, (∀ (s : Shared) (u : Value), BindsTo s fd ⟨[u], []⟩ [(x, u)]) /\
    ∀ base : Heap, (K w.params).In base -> base.Ns mainGlobals mg -> FnOk l.prog w (K w.params) mg base (CX w) k fa fd [x] (sp w))
  (hsp : ∀ (w : World) (H : Hp) (a : Addr) (ns : List Int), ns.length <= n -> Only H -> SqL (K w.params) H a (ns.map V.int) -> sp w [.ref a] H (fun v _ => v = .bl true) fun _ _ _ => False)
  (hCX : ∀ (w : World) (H : Hp) (s : Shared) (e : Value) (s' : Shared), CX w [] H s (fun _ _ _ => False) e s' -> False) :
  PySem.W.WalkO q loose XP YP l.row.toRowW d [] (fun f vs => PySem.call f vs) := by
 refine Att.zN9 hn hdf fun w s₀ s₁ mg mb fa o pm cd doc a vs ns G Y ho hd hcd hmg hobj hints hlen hg => ?_
 have KX := hY w _ Y
 obtain ⟨fd, hb, hF⟩ := F w mg fa _ KX G.T.g hmg
 exact yR2 KX G.T.g G.T.b G.T.builtins G.T.nolimit hg hobj hints (Nat.le_trans hlen hn2) hr hF hb (fun H hO hS => hsp w H a ns hlen hO hS) fun H e s' => hCX w H s₁ e s'
def defArgs (s : Stmt) : Arguments := match s with
 | .FunctionDef _ a _ _ _ _ _ _ _ _ => a
 | _ => { posonlyargs := [], args := [], vararg := none, kwonlyargs := [], kw_defaults := [], kwarg := none, defaults := [] }
def defBody (s : Stmt) : List Stmt := match s with
 | .FunctionDef _ _ b _ _ _ _ _ _ _ => b
 | _ => []
def zT (s : Stmt) : Scope := match s with
 | .FunctionDef _ _ _ _ _ _ sc _ _ _ => sc
 | _ => { kind := .function, names := [], isGenerator := false, isCoroutine := false }
abbrev CX0 : CXT := fun _ _ _ _ _ _ => False
abbrev E0 : XK := fun _ _ _ => False
structure Fun (K : KFr) (x qual : Str) (st : Stmt) (f : Addr) (fd : FuncData) : Prop where
 ex : ∃ (oc : Value) (od : Option Addr) (kV doc pm : Value) (an : Option Addr) (cdv ct : Value) (osl : Array (Option Value)),
  fd = PySem.W.fnOf x qual (defArgs st) (defBody st) (zT st) .none kV doc pm an cdv ct /\ K.lookup f = some ⟨oc, od, .func fd, osl⟩ /\ PySem.W.codeIn K cdv qual = true
 kp : PySem.W.keepIn K (.ref f) = true
section
variable {P : Program} {w : World} {K : KFr} {mg : Str -> Option Value} {base : Heap}
theorem Fun.ok {x qual : Str} {st : Stmt} {f : Addr} {fd : FuncData} {N ps : List Str} {k : Nat} {sp : Sp} (F : Fun K x qual st f fd) (S : zF N ps (zT st)) (len : ∀ vs H Q E, sp vs H Q E -> vs.length = ps.length)
  (hbody : ∀ (cdv : Value) (A : Around) (outer : List Env) (s : Shared) (H : Hp) (vs : List V) (Q : VK) (E : XK), Room k (A.deeper (envOfC qual (zT st) s.heap.objs.size f cdv)) -> sp vs H Q E ->
   ∃ t, PSs (cxOf CX0 P w K mg base N qual (zT st) f cdv A outer s H E).nox (defBody st) t /\ t { nx := fun _ H' => Q .non H', rt := Q } (start N vs) H) : FnOk P w K mg base CX0 (k + 1) f fd ps sp := by
 obtain ⟨oc, od, kV, doc, pm, an, cdv, ct, osl, rfl, lk, hcd⟩ := F.ex
 refine yO6 lk hcd S len fun A outer s H vs Q E hr hsp => ?_
 obtain ⟨t, h, q⟩ := hbody cdv A outer s H vs Q E hr hsp
 exact ⟨t, h.nox, q⟩
theorem Fun.binds {x qual : Str} {st : Stmt} {f : Addr} {fd : FuncData} {ps : List Str} (F : Fun K x qual st f fd)
  (h : ∀ (kV doc pm : Value) (an : Option Addr) (cdv ct : Value) (us : List Value), us.length = ps.length -> bindArgs (PySem.W.fnOf x qual (defArgs st) (defBody st) (zT st) .none kV doc pm an cdv ct) ⟨us, []⟩ = pure (ps.zip us)) : Binds K fd ps [] := by
 obtain ⟨oc, od, kV, doc, pm, an, cdv, ct, osl, rfl, lk, hcd⟩ := F.ex
 exact .all (h kV doc pm an cdv ct)
theorem zA9 {x qual : Str} {st : Stmt} {f : Addr} {oc : Value} {od an : Option Addr} {osl : Array (Option Value)} {kV doc pm cdv ct : Value} (l : K.lookup f = some ⟨oc, od, .func (PySem.W.fnOf x qual (defArgs st) (defBody st) (zT st) .none kV doc pm an cdv ct), osl⟩)
  (c : PySem.W.codeIn K cdv qual = true) (k : PySem.W.keepIn K (.ref f) = true) : Fun K x qual st f (PySem.W.fnOf x qual (defArgs st) (defBody st) (zT st) .none kV doc pm an cdv ct) := ⟨⟨oc, od, kV, doc, pm, an, cdv, ct, osl, rfl, l, c⟩, k⟩
end
theorem small1000 {n : Nat} (h : n <= 1000) : n < sizeLine := Nat.lt_of_le_of_lt h (by decide)
section
variable {X : Cx}
theorem pv (i : Nat) {x : Str} {pos : Pos} (hN : autoParam (X.N[i]? = some x) zZ._auto_1) (hv : autoParam (Vis X.env.scope x) qP._auto_1) (hd : autoParam ((x == ("__debug__" : Str)) = false) zO._auto_1)
  (hcd : autoParam ((x == ("__classdict__" : Str)) = false) zO._auto_1) : PE X (.Name x pos) (tVar i) := uD hN hv hd hcd
end
theorem iteF {A B : Prop} (h : B) : if false = true then A else B := by
 rw [if_neg Bool.false_ne_true]
 exact h
theorem iteT {A B : Prop} (h : A) : if true = true then A else B := by
 rw [if_pos rfl]
 exact h
def Same (H H' : Hp) : Prop := ∀ b o, H b = some o -> H' b = some o
theorem Same.refl (H : Hp) : Same H H := fun _ _ h => h
theorem Same.trans {H H1 H2 : Hp} (a : Same H H1) (b : Same H1 H2) : Same H H2 := fun c o h => b c o (a c o h)
theorem Same.free {H H' : Hp} (e : Same H H') {l : Addr} (h : H' l = Option.none) : H l = Option.none := by
 cases q : H l with
 | none => rfl
 | some o =>
  rw [e l o q] at h
  cases h
end L2
set_option maxHeartbeats 2000000
namespace PySem
section
variable {prog : Program} {w : World} {A : Around} {E : Value -> Shared -> Prop} {s : Shared}
theorem zB8 {l : Addr} {its : Array Value} {P : Value -> Shared -> Prop} (hh : A.handled = none) (hl : s.heap.IsList l its)
  (k : ∀ (I : Addr) (hp : Heap) (St : Nat -> Heap -> Prop), Walks prog w A I [I, l] [I] its.size (fun i v => its[i]? = some v) St -> St 0 hp -> I < hp.objs.size -> l < hp.objs.size -> (∀ b o, s.heap.get? b = some o -> b ≠ I /\ hp.get? b = some o) -> P (.ref I) { s with heap := hp }) :
  wpAny (model prog w) A (pyIter (.ref l)) P E s := by
 have on : ∀ {b : Addr} {o : Obj}, s.heap.get? b = some o -> b < s.heap.objs.size := fun g => Heap.lt_size g
 have ll : l < s.heap.objs.size := let ⟨_, g, _⟩ := hl; on g
 refine wpAny_pyIter_list hl (k _ _ _ (Walks.list hh _ l (Nat.ne_of_lt ll) its) ⟨⟨_, Heap.get?_push_size _ rfl, rfl, rfl⟩, hl.at fun _ g => Heap.get?_push_of_some _ g⟩ ?_ ?_ fun b o g => ⟨Nat.ne_of_lt (on g), Heap.get?_push_of_some _ g⟩)
 ·exact Nat.lt_of_lt_of_eq (Nat.lt_succ_self _) (Heap.size_push ..).symm
 ·exact Nat.lt_of_lt_of_eq (Nat.lt_succ_of_lt ll) (Heap.size_push ..).symm
theorem yH2 {l b : Addr} {xs ys : Array Value} {n m : Nat} {o : Obj} (hc : o.cls = .type "tuple") (hd : o.data = .seq ys m) (fit : xs.size + ys.size <= sizeLine) :
  Meets (Builtin.«list.extend» ⟨[.ref l, .ref b], []⟩) (fun _ R x => x.heap.get? l = some { cls := .type "list", data := .seq xs n } /\ x.heap.get? b = some o /\ R (.ok (.ret .none)) { x with heap := x.heap.update l (Obj.mapSeq (· ++ ys)) }) :=
 .of_wp fun prog w A R x ⟨hl, hb, k⟩ => by
  have t : x.TypeIs (.ref b) "tuple" := ⟨o, hb, hc⟩
  have e1 : Builtin.List.listTooLong (xs.size + ys.size) = false := by
   unfold Builtin.List.listTooLong
   simpa using fit
  have e2 : (xs ++ ys).size <= sizeLine + 1 := by rw [Array.size_append]; bv_omega
  have e3 : xs.size <= sizeLine := by bv_omega
  wp_walk using wpAny_typeOf t, wpAny_seqItems hl rfl, wpAny_seqItems hb hd, wpAny_updateSeq hl rfl
  exact ⟨_, rfl, k⟩
section
variable {it t : Addr} {i : Nat} {its : Array Value}
end
theorem zX5 {M : Model} {scope : Scope} {g bi : Addr} {cl : List (Str × Addr)} {qual : Str} {cd : Value} {outer : Env} {P : Value -> Env -> Shared -> Prop} (nocell : ∀ y ∈ scope.names, y.2 ≠ .cell) (kind : scope.kind = .function)
  (k : ∀ (D C : Addr) (hp : Heap) (m : Str -> Option Value), s.heap.objs.size <= D -> s.heap.objs.size <= C -> D ≠ C -> (∀ b o, s.heap.get? b = some o -> hp.get? b = some o) -> hp.get? D = some { cls := .type "list", data := .seq #[] } -> hp.Ns C m -> P (.ref D) (newEnv scope C g cl qual none cd (some outer) bi) { s with heap := hp }) :
  wpAny M A (newList []) (fun acc x => wpAny M A (newFunctionEnv scope g cl [] qual none cd (some outer) bi) (fun e y => P acc e y) E x) E s := by
 unfold newList
 refine wpAny_newObj_type (wpAny_newFunctionEnv nocell (fun _ z => nomatch z) (fun hp ns sb => ?_) kind)
 have z : (s.heap.push { cls := .type "list", data := .seq #[] }).objs.size = s.heap.objs.size + 1 := Heap.size_push ..
 have up : ∀ b o, (s.heap.push { cls := .type "list", data := .seq #[] }).get? b = some o -> hp.get? b = some o := fun b o q => sb.extBut b o (Nat.ne_of_lt (Heap.lt_size q)) (Heap.get?_push_of_some _ q)
 exact k _ _ hp _ (Nat.le_refl _) (by show _ <= (s.heap.push _).objs.size; rw [Heap.size_push]; bv_omega) (by show _ ≠ (s.heap.push _).objs.size; rw [Heap.size_push]; bv_omega) (fun b o q => up b o (Heap.get?_push_of_some _ q)) (up _ _ (Heap.get?_push_size _ rfl)) ns
end
end PySem
set_option maxHeartbeats 2000000
namespace PySem
section
variable {prog : Program} {w : World} {A : Around} {E : Value -> Shared -> Prop} {s : Shared}
end
end PySem
namespace L2
open PySem PySem.Spec PyProof.Rows
theorem HOk.track {P : Program} {w : World} {H : Hp} {h : Heap} {a : Addr} {o : HO} (x : HOk P w H h) (hn : H a = none) (new : ObjOk P w (upd H a o) h a o) : HOk P w (upd H a o) h := fun b u e => by
 by_cases hb : b = a
 ·subst hb; rw [zJ] at e; cases e; exact new
 ·rw [zM hb] at e
  exact (x b u e).stay (fun c v _ q => q) (fun c q => by rw [zM (yL q hn)]; exact q) fun c xs q => by rw [zM (yL q hn)]; exact q
def clos (cells : List (Str × Addr)) : List (Str × NameKind) -> List (Str × Addr) -> List (Str × Addr)
 | [], acc => acc
 | (n, k) :: r, acc => if k == .free then clos cells r ((n, (cells.lookup n).getD 0) :: acc) else clos cells r acc
theorem uK {env : Env} : ∀ (names : List (Str × NameKind)) (acc : List (Str × Addr)), (∀ n, (n, NameKind.free) ∈ names -> ∃ c, env.cells.lookup n = some c) ->
  (forIn names acc fun (x : Str × NameKind) (r : List (Str × Addr)) => (do
   let (name, kind) := x
   if kind == .free then do
    let c <- cellOf env name
    pure (ForInStep.yield ((name, c) :: r))
   else pure (ForInStep.yield r) : Sem (ForInStep (List (Str × Addr))))) = pure (clos env.cells names acc)
 | [], acc, _ => rfl
 | (n, k) :: r, acc, h => by
  rw [List.forIn_cons]
  by_cases hk : (k == NameKind.free) = true
  ·have ek : k = NameKind.free := by simpa using hk
   obtain ⟨c, hc⟩ := h n (by rw [ek]; exact List.mem_cons_self)
   have e1 : cellOf env n = pure c := by unfold cellOf; rw [hc]
   simp only [hk, if_true, e1, pure_bind]
   rw [uK r _ fun m hm => h m (List.mem_cons_of_mem _ hm)]
   show _ = pure (if (k == NameKind.free) = true then clos env.cells r ((n, (env.cells.lookup n).getD 0) :: acc) else clos env.cells r acc)
   rw [if_pos hk, hc]
   rfl
  ·simp only [hk, if_false, pure_bind, Bool.false_eq_true]
   rw [uK r _ fun m hm => h m (List.mem_cons_of_mem _ hm)]
   show _ = pure (if (k == NameKind.free) = true then clos env.cells r ((n, (env.cells.lookup n).getD 0) :: acc) else clos env.cells r acc)
   rw [if_neg hk]
theorem gU {scope : Scope} {env : Env} (h : ∀ n, (n, NameKind.free) ∈ scope.names -> ∃ c, env.cells.lookup n = some c) : closureFor scope env = pure (clos env.cells scope.names []) := by
 unfold closureFor
 have := uK (env := env) scope.names [] h
 simp only [] at this ⊢
 rw [show (forIn scope.names ([] : List (Str × Addr)) fun (x : Str × NameKind) (r : List (Str × Addr)) => (do
   if x.2 == .free then do
    let c <- cellOf env x.1
    pure (ForInStep.yield ((x.1, c) :: r))
   else pure (ForInStep.yield r) : Sem (ForInStep (List (Str × Addr))))) = pure (clos env.cells scope.names []) from this]
 rfl
theorem dC {cells : List (Str × Addr)} : ∀ (names : List (Str × NameKind)) (acc : List (Str × Addr)), (∀ n, (n, NameKind.free) ∈ names -> ∃ c, cells.lookup n = some c) -> (∀ x c, acc.lookup x = some c -> cells.lookup x = some c) ->
  ∀ x c, (clos cells names acc).lookup x = some c -> cells.lookup x = some c
 | [], acc, _, ha, x, c, e => ha x c e
 | (n, k) :: r, acc, h, ha, x, c, e => by
  unfold clos at e
  by_cases hk : (k == NameKind.free) = true
  ·rw [if_pos hk] at e
   have ek : k = NameKind.free := by simpa using hk
   obtain ⟨d, hd⟩ := h n (by rw [ek]; exact List.mem_cons_self)
   refine dC r _ (fun m hm => h m (List.mem_cons_of_mem _ hm)) (fun y z q => ?_) x c e
   rw [hd, Option.getD_some, List.lookup_cons] at q
   by_cases hy : (y == n) = true
   ·simp only [hy] at q
    have ey : y = n := by simpa using hy
    cases q
    rw [ey]; exact hd
   ·simp only [hy] at q
    exact ha y z q
  ·rw [if_neg hk] at e
   exact dC r _ (fun m hm => h m (List.mem_cons_of_mem _ hm)) ha x c e
theorem cR {cells : List (Str × Addr)} : ∀ (names : List (Str × NameKind)) (acc : List (Str × Addr)) (x : Str), (∃ c, acc.lookup x = some c) -> ∃ c, (clos cells names acc).lookup x = some c
 | [], acc, x, h => h
 | (n, k) :: r, acc, x, h => by
  unfold clos
  by_cases hk : (k == NameKind.free) = true
  ·rw [if_pos hk]
   refine cR r _ x ?_
   rw [List.lookup_cons]
   by_cases hy : (x == n) = true
   ·simp only [hy]; exact ⟨_, rfl⟩
   ·simp only [hy]; exact h
  ·rw [if_neg hk]; exact cR r _ x h
theorem hJ {cells : List (Str × Addr)} : ∀ (names : List (Str × NameKind)) (acc : List (Str × Addr)) (x : Str), (x, NameKind.free) ∈ names -> ∃ c, (clos cells names acc).lookup x = some c
 | (n, k) :: r, acc, x, h => by
  unfold clos
  rcases List.mem_cons.mp h with e | e
  ·cases e
   rw [if_pos (by rfl)]
   refine cR r _ _ ?_
   rw [List.lookup_cons]
   simp only [beq_self_eq_true]
   exact ⟨_, rfl⟩
  ·by_cases hk : (k == NameKind.free) = true
   ·rw [if_pos hk]; exact hJ r _ x e
   ·rw [if_neg hk]; exact hJ r _ x e
theorem zD3 (env : Env) : ∃ f : Str × NameKind -> Str × NameKind, (∀ sc : Scope, (relabel sc env).names = sc.names.map f) /\ ∀ q, f q = q \/ (q.2 = .free /\ f q = (q.1, .cell)) := by
 refine ⟨_, fun _ => rfl, fun q => ?_⟩
 dsimp only
 split
 ·rename_i z
  exact .inr ⟨eq_of_beq (Bool.and_eq_true_iff.mp (Bool.and_eq_true_iff.mp z).1).1, rfl⟩
 ·exact .inl rfl
theorem zW4 {f : Str × NameKind -> Str × NameKind} (hf : ∀ q, f q = q \/ (q.2 = .free /\ f q = (q.1, .cell))) (x : Str) : ∀ l : List (Str × NameKind), (l.map f).lookup x = l.lookup x \/ (l.lookup x = some .free /\ (l.map f).lookup x = some .cell)
 | [] => .inl rfl
 | (n, k) :: r => by
  have ih := zW4 hf x r
  rw [List.map_cons]
  rcases hf (n, k) with e | ⟨e1, e⟩
  ·rw [e]
   cases q : x == n with
   | true => exact .inl (by rw [List.lookup_cons, List.lookup_cons, q])
   | false => simpa only [List.lookup_cons, q] using ih
  ·cases e1
   rw [e]
   cases q : x == n with
   | true => exact .inr ⟨by rw [List.lookup_cons, q], by rw [List.lookup_cons, q]⟩
   | false => simpa only [List.lookup_cons, q] using ih
theorem gG (sc : Scope) (env : Env) (x : Str) : (relabel sc env).names.lookup x = sc.names.lookup x \/ (sc.names.lookup x = some .free /\ (relabel sc env).names.lookup x = some .cell) := by
 obtain ⟨f, e, hf⟩ := zD3 env
 rw [e sc]
 exact zW4 hf x sc.names
theorem fT {sc : Scope} {env : Env} {x : Str} {k : NameKind} (h : (relabel sc env).names.lookup x = some k) : sc.names.lookup x = some k \/ (k = .cell /\ sc.names.lookup x = some .free) := by
 rcases gG sc env x with e | ⟨e1, e2⟩
 ·exact .inl (e.symm.trans h)
 ·exact .inr ⟨Option.some.inj (h.symm.trans e2), e1⟩
theorem zQ9 {sc : Scope} {env : Env} {x : Str} (h : sc.names.lookup x = some .free) : (relabel sc env).names.lookup x = some .cell \/ (relabel sc env).names.lookup x = some .free := by
 rcases gG sc env x with e | ⟨_, e⟩
 ·exact .inr (e.trans h)
 ·exact .inl e
def cxComp (X : Cx) (N : List Str) (scope : Scope) (C : Addr) (fp : List Addr) (s₂ : Shared) (H : Hp) : Cx where
 prog := X.prog
 w := X.w
 K := X.K
 mg := X.mg
 base := X.base
 A := X.A
 N := N
 s₀ := s₂
 H₀ := H
 env := compEnvC scope (clos X.env.cells scope.names []) C X.env
 outer := X.stack
 stack := X.stack
 ex := fp
 fn := fun _ => false
 calm := X.calm
 pn := []
 xe := fun _ _ => False
structure CompScope (sc0 scope : Scope) (N0 : List Str) (xt : Str) (fs : List Str) (js : List Nat) : Prop where
 kind : scope.kind = .function
 nocell : ∀ y ∈ scope.names, y.2 ≠ .cell
 names : ∀ y ∈ scope.names, y.2 = .local -> scope.names.lookup y.1 = some .local
 tgt : scope.names.lookup xt = some .local
 frees : ∀ y ∈ scope.names, y.2 = .free -> sc0.names.lookup y.1 = some .cell \/ sc0.names.lookup y.1 = some .free
 len : js.length = fs.length
 slots : ∀ p ∈ fs.zip js, N0[p.2]? = some p.1 /\ scope.names.lookup p.1 = some .free
 nd : (xt :: fs).Nodup
theorem zJ7 {α β : Type} : ∀ {fs : List α} {js : List β} {i : Nat} {y : α} {j : β}, fs[i]? = some y -> js[i]? = some j -> (y, j) ∈ fs.zip js
 | [], _, _, _, _, h, _ => by simp at h
 | _ :: _, [], _, _, _, _, h => by simp at h
 | a :: fs, b :: js, 0, y, j, h, h' => by
  simp at h h'
  subst h h'
  exact List.mem_cons_self
 | a :: fs, b :: js, i + 1, y, j, h, h' => by
  rw [List.zip_cons_cons]
  exact List.mem_cons_of_mem _ (zJ7 (i := i) (by simpa using h) (by simpa using h'))
def compSt (σ : St) (js : List Nat) (v : Option V) : St := v :: js.map fun j => (σ[j]?).join
section
variable {X : Cx} {pins : List (Addr × Obj)} {σ : St} {H : Hp} {s₂ s₄ : Shared} {sc0 scope : Scope} {N0 : List Str} {xt : Str} {fs : List Str} {js : List Nat} {fp : List Addr}
theorem CompScope.cells (S : CompScope sc0 scope N0 xt fs js) (h0 : X.env.scope = sc0) (ok : X.Ok) : ∀ n, (n, NameKind.free) ∈ scope.names -> ∃ c, X.env.cells.lookup n = some c := fun n hn => ok.has n (by subst h0; exact S.frees _ hn rfl)
theorem CompScope.sub (S : CompScope sc0 scope N0 xt fs js) (h0 : X.env.scope = sc0) (ok : X.Ok) : ∀ x c, (clos X.env.cells scope.names []).lookup x = some c -> X.env.cells.lookup x = some c :=
 dC scope.names [] (S.cells h0 ok) fun x c e => by simp at e
theorem Inv.block (S : CompScope sc0 scope N0 xt fs js) (h0 : X.env.scope = sc0) (hN0 : X.N = N0) (I : Inv X pins σ H s₂) (hf : ∀ b ∈ fp, FpOk X pins H b) (hfo : ∀ b ∈ fp, ∃ o, s₂.heap.get? b = some o)
  (hos : s₄.os = s₂.os) (hg : AllBare s₄.gens) (hk : ∀ b o, s₂.heap.get? b = some o -> s₄.heap.get? b = some o) {C : Addr} (hC : s₂.heap.objs.size <= C) {m : Str -> Option Value} (hn : s₄.heap.Ns C m) :
  Inv (cxComp X (xt :: fs) scope C fp s₂ H) [] (compSt σ js none) H s₄ := by
 have sub := S.sub h0 I.ok
 have blt : ∀ b ∈ fp, b < s₂.heap.objs.size := fun b hb => let ⟨o, e⟩ := hfo b hb; Heap.lt_size e
 have ok : (cxComp X (xt :: fs) scope C fp s₂ H).Ok := by
  refine ⟨I.ok.mod, S.kind, I.ok.glob, I.ok.blt, hC, fun x y c h1 h2 => I.ok.inj x y c (sub x c h1) (sub y c h2), fun x hx => ?_, fun x c h => (nomatch h), I.ok.hd, I.ok.frames, .inl rfl, fun b hb => ⟨?_, fun x c h => (hf b hb).2.2.2.2.1 x c (sub x c h)⟩, I.bs, Nat.le_trans I.ok.bsz I.sz, fun b o e hb => ?_, fun b hb hs => ?_, I.stack, I.stkFree⟩
  ·have hx : (relabel scope X.env).names.lookup x = some .cell \/ (relabel scope X.env).names.lookup x = some .free := hx
   have hfree : scope.names.lookup x = some .free := by
    rcases hx with hx | hx
    ·rcases fT hx with q | ⟨_, q⟩
     ·exact absurd rfl (S.nocell _ (PySem.mem_of_lookup q))
     ·exact q
    ·rcases fT hx with q | ⟨q, _⟩
     ·exact q
     ·cases q
   exact hJ scope.names [] x (PySem.mem_of_lookup hfree)
  ·exact Nat.ne_of_lt (Nat.lt_of_lt_of_le (blt b hb) hC)
  ·rcases (hf b hb).2.2.2.1 with z | z
   ·exact I.ok.noex b o e z
   ·exact absurd (Nat.lt_of_lt_of_le (Heap.lt_size (I.ok.bs b o e).1) z) (Nat.lt_irrefl _)
  ·rcases List.mem_cons.mp (I.stkSub b hs) with z | z
   ·exact (hf b hb).2.1 z
   ·exact (hf b hb).2.2.1 z
 refine ⟨ok, hos, hg, Un.kept hk, ⟨m, hn, fun i x v e1 e2 e3 => ?_⟩, fun x c e => ?_, I.hok.fresh hC, fun x c e => I.freeC x c (sub x c e), fun p hp => absurd (show p ∈ ([] : List (Addr × Obj)) from hp) (by simp), I.hok.kept hk, ?_⟩
 ·cases i with
  | zero => cases e2
  | succ i =>
   have e1 : fs[i]? = some x := e1
   have e2 : (js.map fun j => (σ[j]?).join)[i]? = some (some v) := e2
   rw [List.getElem?_map] at e2
   cases ej : js[i]? with
   | none => rw [ej] at e2; cases e2
   | some j =>
    rw [ej] at e2
    have e2 : (σ[j]?).join = some v := Option.some.inj e2
    obtain ⟨hN, hfr⟩ := S.slots _ (zJ7 e1 ej)
    have hN : X.N[j]? = some x := by rw [hN0]; exact hN
    have hk2 : X.env.kindOf x = some .cell \/ X.env.kindOf x = some .free := by subst h0; exact S.frees _ (PySem.mem_of_lookup hfr) rfl
    have hs : σ[j]? = some (some v) := by
     cases q : σ[j]? with
     | none => rw [q] at e2; cases e2
     | some z => rw [q] at e2; rw [show z = some v from e2]
    obtain ⟨m0, hn0, hl⟩ := I.loc
    obtain ⟨u, r, l⟩ := hl j x v hN hs (by rcases hk2 with z | z; exact .inr (.inl z); exact .inr (.inr z))
    refine ⟨u, r, ?_⟩
    rcases l with ⟨hloc, _⟩ | ⟨_, c, hc, hcell⟩
    ·rcases hk2 with z | z
     ·rw [z] at hloc; cases hloc
     ·rw [z] at hloc; cases hloc
    ·obtain ⟨c', hc'⟩ := hJ (cells := X.env.cells) scope.names [] x (PySem.mem_of_lookup hfr)
     have : c' = c := Option.some.inj ((sub x c' hc').symm.trans hc)
     subst this
     exact .inr ⟨zQ9 hfr, c', hc', hcell.keeps hk⟩
 ·obtain ⟨v, z⟩ := I.cell x c (sub x c e)
  exact ⟨v, z.keeps hk⟩
 ·show (compSt σ js none).length = (xt :: fs).length
  unfold compSt
  rw [List.length_cons, List.length_map, List.length_cons, S.len]
theorem Inv.unblock {pins' : List (Addr × Obj)} {σ' : St} {H' : Hp} {s' : Shared} {h'' : Heap} {C D : Addr} {its : List Value} {n : Nat} {acc : List V} {N : List Str} (I : Inv X pins σ H s₂) (hf : ∀ b ∈ fp, FpOk X pins H b)
  (J : Inv (cxComp X N scope C fp s₂ H) pins' σ' H' s') (hC : s₂.heap.objs.size <= C) (hD : s₂.heap.objs.size <= D) (hDC : D ≠ C) (hHD : H' D = none)
  (hd : s'.heap.get? D = some { cls := .type "list", data := .seq its.toArray n }) (hv : Vals acc its) (hz : acc.length <= sizeLine) (hsb : Heap.SameBut C s'.heap h'') :
  Inv X pins σ (upd H' D (.lst acc)) { s' with heap := h'' } := by
 have hd2 : h''.get? D = some { cls := .type "list", data := .seq its.toArray n } := (hsb.2 D hDC).trans hd
 have keep : ∀ b o, b < s₂.heap.objs.size -> s'.heap.get? b = some o -> h''.get? b = some o := fun b o hb e => (hsb.2 b (Nat.ne_of_lt (Nat.lt_of_lt_of_le hb hC))).trans e
 have hHC : H' C = none := J.free
 have ok1 : HOk X.prog X.w H' h'' := fun b o e => (J.hok b o e).stay (fun c v hc q => (hsb.2 c (by
   rcases hc with z | z
   ·rw [z]; exact fun w => by rw [w, hHC] at e; cases e
   ·exact fun w => by rw [w, hHC] at z; cases z)).trans q) (fun _ q => q) fun _ _ q => q
 have ok2 : HOk X.prog X.w (upd H' D (.lst acc)) h'' := ok1.track hHD ⟨hz, its, n, hv, hd2⟩
 have un : Un (frs X.stack) fp H (upd H' D (.lst acc)) s₂.heap h'' := by
  have u := J.base
  refine ⟨fun b o e nb h1 h2 => keep b o (Heap.lt_size e) (u.keep b o e nb h1 h2), fun b o e nb h1 h2 => ?_, fun b o e nb h2 => ?_, fun b o e h2 => ?_, fun b xs e => ?_, fun b o v e => ?_, fun b ps e => ?_⟩
  ·obtain ⟨sl, q⟩ := u.slot b o e nb h1 h2
   exact ⟨sl, keep b _ (Heap.lt_size e) q⟩
  ·rw [zM (Nat.ne_of_lt (Nat.lt_of_lt_of_le (Heap.lt_size e) hD))]
   exact u.free b o e nb h2
  ·obtain ⟨o', q⟩ := u.there b o e h2
   exact ⟨o', keep b _ (Heap.lt_size e) q⟩
  ·have q := u.tups b xs e
   rw [zM (yL q hHD)]; exact q
  ·have q := u.frzs b o v e
   rw [zM (yL q hHD)]; exact q
  ·obtain ⟨more, q⟩ := u.tbls b ps e
   exact ⟨more, by rw [zM (yL q hHD)]; exact q⟩
 obtain ⟨hh, g, d, t, os'⟩ := s'
 obtain rfl : os' = s₂.os := J.os
 exact Inv.call (s := s₂) I (h' := h'') (g' := g) (d' := d) (t' := t) (ch := fp) un ok2 J.bare fun b hb => ⟨(hf b hb).2.2.2.1, (hf b hb).2.1, (hf b hb).2.2.2.2.1, (hf b hb).2.2.2.2.2⟩
end
def tTrue : TT := fun _ H Q => Q true H
inductive PTs (X : Cx) : List Expr -> TT -> Prop
 | nil : PTs X [] tTrue
 | one {c : Expr} {t : TT} : PT X c t -> PTs X [c] t
def tComp (wi : TI) (tt : Addr -> List Addr -> Shared -> Hp -> TT) (te : Addr -> List Addr -> Shared -> Hp -> TE) (js : List Nat) : TE := fun σ H Q => wi σ H fun J H1 => ∀ C fp s₂ H₂, ∃ W : Nat -> Nat -> List V -> Hp -> Prop, (∃ m, W 0 m [] H1) /\ ∀ i m acc H, W i m acc H ->
 (J.stop i H /\ ∀ p, H p = none -> Q (.ref p) (upd H p (.lst acc))) \/
 (J.go i H /\ ∃ N : List V -> Hp -> Prop, (∀ acc' H', N acc' H' -> ∃ m', m' < m /\ W (i + 1) m' acc' H') /\
  ∀ x H', J.yld i H x H' -> tt C fp s₂ H₂ (compSt σ js (some x)) H' fun b H2 => if b = true then te C fp s₂ H₂ (compSt σ js (some x)) H2 fun v H3 => acc.length < sizeLine /\ N (acc ++ [v]) H3 else N acc H2)
theorem zZ6 {X : Cx} {elt iter : Expr} {ifs : List Expr} {sc0 scope : Scope} {N0 : List Str} {px pos : Pos} {xt : Str} {fs : List Str} {js : List Nat} {wi : TI} {tt : Addr -> List Addr -> Shared -> Hp -> TT} {te : Addr -> List Addr -> Shared -> Hp -> TE} (S : CompScope sc0 scope N0 xt fs js) (h0 : X.env.scope = sc0) (hN0 : X.N = N0) (hc : X.calm = true)
  (hi : PI X (.Name xt px) iter wi) (ht : ∀ C fp s₂ H, PTs (cxComp X (xt :: fs) scope C fp s₂ H) ifs (tt C fp s₂ H)) (he : ∀ C fp s₂ H, PE (cxComp X (xt :: fs) scope C fp s₂ H) elt (te C fp s₂ H))
  (hs : autoParam (∀ x, foldedSetIterable iter X.env x = pure x) xG._auto_1)
  {pins : List (Addr × Obj)} {cpos : Pos} {s : Shared} {σ : St} {H : Hp} {Q : VK} {use : Option (Value -> Sem Unit)} {Qv : Value -> Shared -> Prop} (I : Inv X pins σ H s) (h : tComp wi tt te js σ H Q)
  (hfin : ∀ (s' : Shared) (C D : Addr) (Ha : Hp) (fl : Flow), (∀ h'', Heap.SameBut C s'.heap h'' -> Inv X pins σ Ha { s' with heap := h'' }) -> (∃ m, s'.heap.Ns C m) -> FpOk X pins Ha C -> Q (.ref D) Ha -> compPost (model X.prog X.w) X.A X.xe use Qv (.ref D) C (.ok fl) s') :
  wpAny (model X.prog X.w) X.A (comprehension (.ListComp elt [⟨.Name xt px, iter, ifs, 0⟩] scope pos) scope X.env cpos (newList []) false (eval iter X.env) use) Qv X.xe s := by
 refine wpAny_comprehension_free (use := use) rfl hs (gU (S.cells h0 I.ok)) S.kind S.names ?_
 refine thn (hi pins s σ H _ I h) fun v s1 h1 => thn h1 fun itv s2 h2 => ?_
 obtain ⟨it, fp, tn, J, H2, e, I2, T, st2, f2, hW⟩ := h2
 subst e
 have fo : ∀ b ∈ fp, ∃ o, s2.heap.get? b = some o := fun b hb => let ⟨o, e, _⟩ := T.obj 0 s2.heap st2 b hb; ⟨o, e⟩
 have blt : ∀ b ∈ fp, b < s2.heap.objs.size := fun b hb => let ⟨o, e⟩ := fo b hb; Heap.lt_size e
 refine zX5 S.nocell S.kind fun D C h₁ mC hDle hCle hDC old hacc hns₁ => ?_
 have bC : ∀ b o, s2.heap.get? b = some o -> b ≠ C := fun b o q z => Nat.not_lt.mpr hCle (z ▸ Heap.lt_size q)
 have bD : ∀ b o, s2.heap.get? b = some o -> b ≠ D := fun b o q z => Nat.not_lt.mpr hDle (z ▸ Heap.lt_size q)
 obtain ⟨W, ⟨m0, w0⟩, turn⟩ := hW C fp s2 H2
 have fpk : ∀ {H' : Hp} (ob : Obj), (∀ b ∈ fp, H' b = none) -> ∀ b ∈ fp, FpOk (cxComp X (xt :: fs) scope C fp s2 H2) [(D, ob)] H' b := fun {H'} ob hn b hb => by
  refine ⟨hn b hb, Nat.ne_of_lt (Nat.lt_of_lt_of_le (blt b hb) hCle), fun z => ?_, .inl hb, fun x c e => (f2 b hb).2.2.2.2.1 x c (S.sub h0 I2.ok x c e), fun p hp => ?_⟩
  ·rcases List.mem_cons.mp (I2.stkSub b z) with q | q
   ·exact (f2 b hb).2.1 q
   ·exact (f2 b hb).2.2.1 q
  ·have : p = (D, ob) := by
    have hp : p ∈ [] ++ [(D, ob)] := hp
    simpa using hp
   subst this
   exact Nat.ne_of_gt (Nat.lt_of_lt_of_le (blt b hb) hDle)
 have loop : codeAny (model X.prog X.w) X.A (.compLoop (.ListComp elt [⟨.Name xt px, iter, ifs, 0⟩] scope pos) 0 (.ref it) (.ref D) (compEnvC scope (clos X.env.cells scope.names []) C X.env))
    (compPost (model X.prog X.w) X.A X.xe use Qv (.ref D) C) { s2 with heap := h₁ } := by
  have J0 : Inv (cxComp X (xt :: fs) scope C fp s2 H2) [] (compSt σ js none) H2 { s2 with heap := h₁ } :=
   Inv.block (s₂ := s2) (s₄ := { s2 with heap := h₁ }) S h0 hN0 I2 f2 fo rfl I2.bare old hCle hns₁
  have H2D : H2 D = none := I2.hok.fresh hDle
  have ofD : D ∉ frs X.stack := fun z => by
   rcases List.mem_cons.mp (I2.stkSub D z) with q | q
   ·exact absurd I2.lt (by rw [<- q]; exact Nat.not_lt.mpr hDle)
   ·exact I2.nofs (a := D) hDle q
  refine codeAny_loop rfl (fun n s' => ∃ (i : Nat) (σ' : St) (H' : Hp) (acc : List V) (its : List Value) (k : Nat), (∃ v0, σ' = compSt σ js v0) /\ Inv (cxComp X (xt :: fs) scope C fp s2 H2) [] σ' H' s' /\ tn i s'.heap /\ (∀ b ∈ fp, H' b = none) /\ H' D = none /\
    s'.heap.get? D = some { cls := .type "list", data := .seq its.toArray k } /\ Vals acc its /\ acc.length <= sizeLine /\ W i n acc H') ?_ m0
   ⟨0, _, H2, [], [], 0, ⟨none, rfl⟩, J0, T.keep 0 _ _ st2 fun b hb o e => old b o e, fun b hb => (f2 b hb).1, H2D, hacc, .nil, Nat.zero_le _, w0⟩
  rintro n s3 ⟨i, σ3, H3, acc, its, k, ⟨v0, rfl⟩, I3, st3, fr3, hD3, d3, va, hz, w3⟩
  show wpAny _ X.A ((compTurn (.ListComp elt [⟨.Name xt px, iter, ifs, 0⟩] scope pos) 0 (.ref it) (.ref D) (compEnvC scope (clos X.env.cells scope.names []) C X.env)).onRaise (fun x => do noteFrame x (compEnvC scope (clos X.env.cells scope.names []) C X.env); theTreesLotGoes x)) _ _ s3
  refine wpAny_noted ?_
  rw [compTurn_list]
  refine wpAny_bind (wpAny_standAt ?_)
  have pinD : Inv (cxComp X (xt :: fs) scope C fp s2 H2) [(D, { cls := .type "list", data := .seq its.toArray k })] (compSt σ js v0) H3 s3 := I3.xV fun p hp => by
   have : p = (D, { cls := .type "list", data := .seq its.toArray k }) := by simpa using hp
   subst this
   exact ⟨d3, hD3, hDC, ofD, fun v z => by cases z⟩
  refine wpAny_bind ?_
  rcases turn i n acc H3 w3 with ⟨stop, qn⟩ | ⟨go, N, hN, step⟩
  ·refine thn (T.done (cxComp X (xt :: fs) scope C fp s2 H2) rfl rfl rfl hc i _ s3 _ H3 _ pinD (fpk _ fr3) st3 stop) fun r s4 ⟨hr, I4⟩ => ?_
   subst hr
   refine wpAny_pure ?_
   obtain ⟨m4, hn4, _⟩ := I4.loc
   have hHC : H3 C = none := I4.free
   refine hfin s4 C D (upd H3 D (.lst acc)) _ (fun h'' hsb => I2.unblock f2 I4 hCle hDle hDC hD3 ((I4.pin (D, { cls := .type "list", data := .seq its.toArray k }) (List.mem_append_right _ List.mem_cons_self)).1) va hz hsb) ⟨m4, hn4⟩ (I2.fpOk hCle (by rw [zM (Ne.symm hDC)]; exact hHC)) (qn D hD3)
  ·refine thn (T.item (cxComp X (xt :: fs) scope C fp s2 H2) rfl rfl rfl hc i _ s3 _ H3 _ pinD (fpk _ fr3) st3 go) fun r s4 ⟨u, hr, h4⟩ => ?_
   subst hr
   refine wpAny_bind (thn h4 fun _ s5 ⟨x, H5, I5, r5, y5, st5, fr5⟩ => ?_)
   have I5' := I5.pinned (fpk _ fr5) (T.obj _ _ st5)
   have gok : PG (cxComp X (xt :: fs) scope C fp s2 H2) (.Name xt px) (gName 0) := zZ1 S.nd rfl (.inl (lookup_relabel_local S.tgt)) (.inr (lookup_relabel_local S.tgt))
   have noE : ∀ (a : Value) (s' : Shared), (cxComp X (xt :: fs) scope C fp s2 H2).xe a s' -> notedBy (model X.prog X.w) X.A (compEnvC scope (clos X.env.cells scope.names []) C X.env) (fun e s' => compPost (model X.prog X.w) X.A X.xe use Qv (.ref D) C (.error e) s') a s' := fun _ _ z => False.elim z
   refine wpAny_bind (wpAny_mono (gok _ s5 (compSt σ js v0) H5 x u (fun σ' H' => σ' = compSt σ js (some x) /\ H' = H5) I5' r5 ⟨rfl, rfl⟩) (fun _ s6 ⟨σ6, H6, I6, e6, e6'⟩ => ?_) noE)
   subst e6 e6'
   have fin : ∀ {acc' : List V} {its' : List Value} {k' : Nat} {H7 : Hp} {s7 : Shared}, Inv (cxComp X (xt :: fs) scope C fp s2 H2) [] (compSt σ js (some x)) H7 s7 -> tn (i + 1) s7.heap -> (∀ b ∈ fp, H7 b = none) -> H7 D = none -> s7.heap.get? D = some { cls := .type "list", data := .seq its'.toArray k' } -> Vals acc' its' -> acc'.length <= sizeLine -> N acc' H7 ->
     ∃ m, m < n /\ ∃ (i : Nat) (σ' : St) (H' : Hp) (acc : List V) (its : List Value) (k : Nat), (∃ v0, σ' = compSt σ js v0) /\ Inv (cxComp X (xt :: fs) scope C fp s2 H2) [] σ' H' s7 /\ tn i s7.heap /\ (∀ b ∈ fp, H' b = none) /\ H' D = none /\
      s7.heap.get? D = some { cls := .type "list", data := .seq its.toArray k } /\ Vals acc its /\ acc.length <= sizeLine /\ W i m acc H' := fun {acc' its' k' H7 s7} a1 a2 a3 a4 a5 a6 a7 a8 => by
    obtain ⟨m', hm, w7⟩ := hN _ _ a8
    exact ⟨m', hm, i + 1, _, H7, acc', its', k', ⟨_, rfl⟩, a1, a2, a3, a4, a5, a6, a7, w7⟩
   have rest : ∀ {H7 : Hp} {s7 : Shared}, Inv (cxComp X (xt :: fs) scope C fp s2 H2) ([(D, { cls := .type "list", data := .seq its.toArray k })] ++ pinsAt fp s5.heap) (compSt σ js (some x)) H7 s7 ->
     tn (i + 1) s7.heap /\ (∀ b ∈ fp, H7 b = none) /\ H7 D = none /\ s7.heap.get? D = some { cls := .type "list", data := .seq its.toArray k } := fun {H7 s7} I7 => by
    refine ⟨T.keep _ _ _ st5 fun b hb o e => (I7.pin (b, o) (List.mem_append_right _ (List.mem_append_right _ (vU hb e)))).1, fun b hb => ?_, (I7.pin (D, { cls := .type "list", data := .seq its.toArray k }) (List.mem_append_right _ (List.mem_append_left _ List.mem_cons_self))).2.1, (I7.pin (D, { cls := .type "list", data := .seq its.toArray k }) (List.mem_append_right _ (List.mem_append_left _ List.mem_cons_self))).1⟩
    obtain ⟨o, e, d⟩ := T.obj _ _ st5 b hb
    exact (I7.pin (b, o) (List.mem_append_right _ (List.mem_append_right _ (vU hb e)))).2.1
   have elem : ∀ {H7 : Hp} {s7 : Shared}, Inv (cxComp X (xt :: fs) scope C fp s2 H2) ([(D, { cls := .type "list", data := .seq its.toArray k })] ++ pinsAt fp s5.heap) (compSt σ js (some x)) H7 s7 ->
     (te C fp s2 H2 (compSt σ js (some x)) H7 fun v H3 => acc.length < sizeLine /\ N (acc ++ [v]) H3) ->
     wpAny (model X.prog X.w) X.A (eval elt (compEnvC scope (clos X.env.cells scope.names []) C X.env)) (fun y s8 => wpAny (model X.prog X.w) X.A (call (.builtin "list.append") [.ref D, y]) (fun _ s9 => ∃ m, m < n /\ ∃ (i : Nat) (σ' : St) (H' : Hp) (acc : List V) (its : List Value) (k : Nat), (∃ v0, σ' = compSt σ js v0) /\ Inv (cxComp X (xt :: fs) scope C fp s2 H2) [] σ' H' s9 /\ tn i s9.heap /\ (∀ b ∈ fp, H' b = none) /\ H' D = none /\
      s9.heap.get? D = some { cls := .type "list", data := .seq its.toArray k } /\ Vals acc its /\ acc.length <= sizeLine /\ W i m acc H')
      (fun _ _ => False) s8) (fun _ _ => False) s7 := fun {H7 s7} I7 q7 => by
    refine thn (he C fp s2 H2 _ s7 _ H7 _ I7 q7) fun y s8 ⟨v, H8, I8, r8, hl8, n8⟩ => ?_
    obtain ⟨t8, fr8, hD8, d8⟩ := rest I8
    have hsz := va.length
    refine call_meets F.slot_list_append ⟨_, d8, rfl⟩ F.entry_list_append (F.args_list_append_2 _ _) (PySem.list_append D its.toArray k y (by rw [List.size_toArray]; bv_omega)) ⟨d8, ?_⟩
    have q := PySem.IsL.update d8 (·.push y)
    rw [show (its.toArray.push y) = (its ++ [y]).toArray by simp] at q
    have kk : ∀ b o, b ≠ D -> s8.heap.get? b = some o -> (s8.heap.update D (Obj.mapSeq (·.push y))).get? b = some o := fun b o hb e => (Heap.get?_update_other s8.heap _ (Ne.symm hb)).trans e
    have I9 : Inv (cxComp X (xt :: fs) scope C fp s2 H2) [] (compSt σ js (some x)) H8 { s8 with heap := s8.heap.update D (Obj.mapSeq (·.push y)) } := by
     refine Inv.turned (it := D) (t' := s8.toks) (I8.xV (pins' := []) fun p hp => nomatch hp) kk hD8 hDC (.inr hDle) (fun x c e z => ?_) fun p hp => absurd (show p ∈ ([] : List (Addr × Obj)) from hp) (by simp)
     obtain ⟨v, o, ho, _⟩ := I2.cell x c (S.sub h0 I2.ok x c e)
     exact bD c o ho z
    refine fin I9 (T.keep _ _ _ t8 fun b hb o e => kk b o (Nat.ne_of_lt (Nat.lt_of_lt_of_le (blt b hb) hDle)) e) fr8 hD8 q (va.append (.cons r8 .nil)) ?_ n8
    rw [List.length_append, List.length_singleton]
    bv_omega
   have q6 := step x H6 y5
   have htt := ht C fp s2 H2
   generalize tt C fp s2 H2 = tt' at htt q6
   cases htt with
   | nil =>
    refine wpAny_bind (wpAny_pure ?_)
    dsimp only [tTrue] at q6
    rw [if_pos rfl] at q6
    refine wpAny_mono (wpAny_bind (wpAny_bind (thn (elem I6 q6) fun y s8 h8 => wpAny_bind (thn h8 fun _ s9 h9 => wpAny_pure (wpAny_pure ⟨rfl, h9⟩))))) (fun _ _ z => z) fun _ _ z => False.elim z
   | one ht1 =>
    refine wpAny_bind (wpAny_tests_one (wpAny_mono (ht1 _ s6 _ H6 _ I6 q6) (fun b s7 ⟨H7, I7, q7⟩ => ?_) noE))
    cases b with
    | false =>
     rw [if_neg Bool.false_ne_true] at q7
     obtain ⟨t8, fr8, hD8, d8⟩ := rest I7
     exact wpAny_pure ⟨rfl, fin (I7.xV (pins' := []) fun p hp => nomatch hp) t8 fr8 hD8 d8 va hz q7⟩
    | true =>
     rw [if_pos rfl] at q7
     refine wpAny_mono (wpAny_bind (wpAny_bind (thn (elem I7 q7) fun y s8 h8 => wpAny_bind (thn h8 fun _ s9 h9 => wpAny_pure (wpAny_pure ⟨rfl, h9⟩))))) (fun _ _ z => z) fun _ _ z => False.elim z
 exact codeAny_compStart_list loop (T.self X.A 0 _ _ _ (T.keep 0 _ _ st2 fun b hb o e => old b o e) loop)
theorem yL4 {X : Cx} {elt iter : Expr} {ifs : List Expr} {sc0 scope : Scope} {N0 : List Str} {px pos : Pos} {xt : Str} {fs : List Str} {js : List Nat} {wi : TI} {tt : Addr -> List Addr -> Shared -> Hp -> TT} {te : Addr -> List Addr -> Shared -> Hp -> TE} (S : CompScope sc0 scope N0 xt fs js) (h0 : X.env.scope = sc0) (hN0 : X.N = N0) (hc : X.calm = true)
  (hi : PI X (.Name xt px) iter wi) (ht : ∀ C fp s₂ H, PTs (cxComp X (xt :: fs) scope C fp s₂ H) ifs (tt C fp s₂ H)) (he : ∀ C fp s₂ H, PE (cxComp X (xt :: fs) scope C fp s₂ H) elt (te C fp s₂ H))
  (hs : autoParam (∀ x, foldedSetIterable iter X.env x = pure x) xG._auto_1) :
  PE X (.ListComp elt [⟨.Name xt px, iter, ifs, 0⟩] scope pos) (tComp wi tt te js) := by
 intro pins s σ H Q I h
 rw [eval_ListComp]
 refine zZ6 S h0 hN0 hc hi ht he hs (use := none) (Qv := EP X pins σ Q) I h fun s' C D Ha fl hI hns hC q => ?_
 obtain ⟨m, hn⟩ := hns
 exact ⟨m, hn, fun h' hsb => ⟨.ref D, Ha, hI h' hsb, rfl, q⟩⟩
theorem Same.new {H : Hp} {p : Addr} {o : HO} (h : H p = none) : Same H (upd H p o) := fun b u e => by rw [zM (yL e h)]; exact e
def Small (i : Int) : Prop := ∃ k, k <= 1000000 /\ i.natAbs < 2 ^ k
theorem Small.bits {i : Int} (h : Small i) : Builtin.Int.intBits i <= 2 ^ 20 := by
 obtain ⟨k, hk, hi⟩ := h
 unfold Builtin.Int.intBits
 by_cases h0 : (i == 0) = true
 ·rw [if_pos h0]; exact Nat.zero_le _
 ·rw [if_neg h0]
  have hn : i.natAbs ≠ 0 := by
   intro z
   have : i = 0 := by bv_omega
   rw [this] at h0
   exact h0 rfl
  have := (Nat.log2_lt hn).mpr hi
  have e : (2 : Nat) ^ 20 = 1048576 := by decide
  bv_omega
section
variable {X : Cx}
def clsV : V -> Option Value
 | .ty n => some (.type n)
 | .ref a => some (.ref a)
 | _ => none
theorem zP6 {c : V} {u cv : Value} (r : RelV c u) (e : clsV c = some cv) : u = cv := by
 cases c with
 | ty n => cases e; exact r
 | ref a => cases e; exact r
 | non => cases e
 | bl _ => cases e
 | int _ => cases e
 | str _ => cases e
 | byt _ => cases e
 | flt _ => cases e
end
mutual
inductive DatV (K : KFr) (H : Hp) : V -> PyData -> Prop
 | non : DatV K H .non .none
 | bl (b : Bool) : DatV K H (.bl b) (.bool b)
 | int (i : Int) : DatV K H (.int i) (.int i)
 | str (x : Str) : DatV K H (.str x) (.str x)
 | lst {a : Addr} {xs : List V} {ds : List PyData} : SqL K H a xs -> DatAll K H xs ds -> DatV K H (.ref a) (.list ds)
 | tup {a : Addr} {xs : List V} {ds : List PyData} : SqT K H a xs -> DatAll K H xs ds -> DatV K H (.ref a) (.tuple ds)
inductive DatAll (K : KFr) (H : Hp) : List V -> List PyData -> Prop
 | nil : DatAll K H [] []
 | cons {v : V} {d : PyData} {vs : List V} {ds : List PyData} : DatV K H v d -> DatAll K H vs ds -> DatAll K H (v :: vs) (d :: ds)
end
section
variable {X : Cx} {pins : List (Addr × Obj)} {σ : St} {H : Hp} {s : Shared}
mutual
theorem Inv.reads (I : Inv X pins σ H s) : ∀ {v : V} {d : PyData} {u : Value}, DatV X.K H v d -> RelV v u -> ∃ as, Reads s.heap u d as
 | _, _, _, .non, r => by cases r; exact ⟨_, .none⟩
 | _, _, _, .bl b, r => by cases r; exact ⟨_, .bool b⟩
 | _, _, _, .int i, r => by obtain ⟨t, rfl⟩ := r; exact ⟨_, .int i t⟩
 | _, _, _, .str x, r => by obtain ⟨t, rfl⟩ := r; exact ⟨_, .str x t⟩
 | _, _, _, .lst hq ha, r => by
  cases r
  obtain ⟨its, rv, ⟨o, n, ho, hc, _, hd⟩, _⟩ := I.list hq
  obtain ⟨as, z⟩ := Inv.readsAll I ha rv
  exact ⟨_, .list ho hc hd (by simpa using z)⟩
 | _, _, _, .tup hq ha, r => by
  cases r
  obtain ⟨its, rv, ⟨o, ho, hc, n, hd⟩, _⟩ := I.tuple hq
  obtain ⟨as, z⟩ := Inv.readsAll I ha rv
  exact ⟨_, .tuple ho hc hd (by simpa using z)⟩
theorem Inv.readsAll (I : Inv X pins σ H s) : ∀ {vs : List V} {ds : List PyData} {us : List Value}, DatAll X.K H vs ds -> Vals vs us -> ∃ as, ReadsAll s.heap us ds as
 | _, _, _, .nil, r => by cases r; exact ⟨_, .nil⟩
 | _, _, _, .cons h t, r => by
  cases r with
  | cons r1 r2 =>
   obtain ⟨as, z⟩ := Inv.reads I h r1
   obtain ⟨bs, z'⟩ := Inv.readsAll I t r2
   exact ⟨_, .cons z z'⟩
end
end
section
variable {X : Cx}
def rEqD (K : KFr) (neg : Bool) : R2 := fun x y H Q => ∃ dx dy, DatV K H x dx /\ DatV K H y dy /\ SeqAt.shaped dx = true /\ SeqAt.shaped dy = true /\ Q (.bl (if neg then !PyData.eqv dx dy else PyData.eqv dx dy)) H
theorem xI (hu : X.A.units + 64 < cLine) : OpR X (compareOp .Eq) (rEqD X.K false) := by
 intro pins s σ H x y v u Q I rx ry h
 obtain ⟨dx, dy, h1, h2, s1, s2, q⟩ := h
 obtain ⟨as, z1⟩ := I.reads h1 rx
 obtain ⟨bs, z2⟩ := I.reads h2 ry
 exact eq_dataH z1 z2 s1 s2 hu ⟨.bl _, H, I, rfl, q⟩
theorem qR (hu : X.A.units + 64 < cLine) : OpR X (compareOp .NotEq) (rEqD X.K true) := by
 intro pins s σ H x y v u Q I rx ry h
 obtain ⟨dx, dy, h1, h2, s1, s2, q⟩ := h
 obtain ⟨as, z1⟩ := I.reads h1 rx
 obtain ⟨bs, z2⟩ := I.reads h2 ry
 exact ne_dataH z1 z2 s1 s2 hu ⟨.bl _, H, I, rfl, q⟩
end
theorem dP (ns ms : List Int) : PyData.eqvAll (ns.map PyData.int) (ms.map PyData.int) = decide (ns = ms) := PySem.W.ked_eqvAll ns ms
theorem uG (ns : List Int) : SeqAt.shaped (.list (ns.map PyData.int)) = true := PySem.W.ke_shaped_ints ns
theorem fS (ns : List Int) : SeqAt.shaped (.tuple (ns.map PyData.int)) = true := by
 simp [SeqAt.shaped, PyData.canLay0, PyData.depth, PySem.W.ke_canLayAll0, PySem.W.ke_depthAll]
theorem zH3 (ns ms : List Int) : PyData.eqv (.list (ns.map PyData.int)) (.list (ms.map PyData.int)) = decide (ns = ms) := by rw [PyData.eqv]; exact dP ns ms
theorem yL3 (ns ms : List Int) : PyData.eqv (.tuple (ns.map PyData.int)) (.tuple (ms.map PyData.int)) = decide (ns = ms) := by rw [PyData.eqv]; exact dP ns ms
theorem yV1 (x : Value) (kw : List (Str × Value)) : Builtin.«sorted» ⟨[x], kw⟩ = collect x >>= fun xs => newList xs >>= fun l => holding [l] (call (.builtin "list.sort") [l] kw) >>= fun _ => ret l := rfl
section
variable {X : Cx}
theorem gK : CallR X (.builtin "sorted") (fun xs H Q => ∃ (p : Addr) (ns : List Int), xs = [.ref p] /\ (SqL X.K H p (ns.map V.int) \/ SqT X.K H p (ns.map V.int)) /\ ns.length < 64 /\
  ∀ (l : Addr) (ms : List Int), H l = none -> ms.Perm ns -> ms.Pairwise (· <= ·) -> Q (.ref l) (upd H l (.lst (ms.map V.int)))) := by
 intro pins s σ H xs us Q I r h
 obtain ⟨p, ns, rfl, hq, h64, q⟩ := h
 obtain ⟨u, rfl, ru⟩ := vals1 r
 cases ru
 obtain ⟨T, o, its, n, hT, ho, hc, hd, rv, hz⟩ : ∃ T o its n, (T = "list" \/ T = "tuple") /\ s.heap.get? p = some o /\ o.cls = .type T /\ o.data = .seq its n /\ Vals (ns.map V.int) its.toList /\ (ns.map V.int).length <= sizeLine := by
  rcases hq with hq | hq
  ·obtain ⟨its, rv, ⟨o, n, ho, hc, _, hd⟩, hz⟩ := I.list hq
   exact ⟨"list", o, its.toArray, n, .inl rfl, ho, hc, hd, by simpa using rv, hz⟩
  ·obtain ⟨its, rv, ⟨o, ho, hc, n, hd⟩, hz⟩ := I.tuple hq
   exact ⟨"tuple", o, its.toArray, n, .inr rfl, ho, hc, hd, by simpa using rv, hz⟩
 have hl := rv.length
 have hI : IntsAre its.toList ns := zD2 rv
 rw [List.length_map] at hl hz
 have fits : its.size <= sizeLine := by have z := its.length_toList; bv_omega
 refine Calls.call_function_entry kind_sorted plain_sorted entry_sorted (args_sorted1 (.ref p)) ?_
 rw [yV1]
 refine wpAny_bind (wpAny_collect_seq p hT ho hc hd (fun h' kp => wpAny_bind (wpAny_newList ?_)) fits)
 have hoL : (h'.push (seqObj "list" its.toList.toArray 0)).get? h'.objs.size = some (seqObj "list" its.toList.toArray 0) := Heap.get?_push_size _ rfl
 refine wpAny_bind (wpAny_holding (wpAny_call_entry slot_list_sort ⟨_, hoL, rfl⟩ entry_list_sort (list_sort_tree hoL hI (by bv_omega) fun out ns' a1 a2 a3 => ⟨_, rfl, ?_⟩) (args_list_sort _)))
 refine wpAny_pure ⟨_, rfl, ?_⟩
 have I1 : Inv X pins σ H { s with heap := h' } := I.kept (t' := s.toks) kp
 have hfresh : H h'.objs.size = none := I1.hok.fresh (Nat.le_refl _)
 have ov : Vals (ns'.map V.int) out.toList := fW a1
 have hlen : ns'.length = ns.length := a2.length_eq
 refine ⟨.ref h'.objs.size, _, I1.laid (t' := s.toks) (o := .lst (ns'.map V.int)) (fun b ob e => ?_) (Nat.le_refl _) ?_, rfl, q _ ns' hfresh a2 a3⟩
 ·have hb := Heap.lt_size e
  rw [sortedHeap_old (Nat.ne_of_lt hb) (by rw [size_push']; exact Nat.lt_succ_of_lt hb)]
  exact Heap.get?_push_of_some _ e
 ·obtain ⟨e, he⟩ : ∃ e, (sortedHeap (h'.push (seqObj "list" its.toList.toArray 0)) h'.objs.size its.toList out).get? h'.objs.size = some (seqObj "list" out e) := by
   exact sortedHeap_at hoL
  exact ⟨by rw [List.length_map]; bv_omega, out.toList, e, ov, by simpa using he⟩
end
section
variable {X : Cx}
theorem yR4 {bs : List Bool} {its : List Value} (r : Vals (bs.map V.bl) its) {i : Nat} {v : Value} (h : its.toArray[i]? = some v) : v = .bool (bs.getD i false) := by
 have h2 : its[i]? = some v := by simpa using h
 have hi : i < its.length := (List.getElem?_eq_some_iff.mp h2).1
 have hl := r.length
 rw [List.length_map] at hl
 have e : (bs.map V.bl)[i]? = some (V.bl (bs.getD i false)) := by
  rw [List.getElem?_map, List.getElem?_eq_getElem (by bv_omega), List.getD_eq_getElem?_getD, List.getElem?_eq_getElem (by bv_omega)]
  rfl
 obtain ⟨u, hu, ru⟩ := r.get e
 rw [h2] at hu
 cases hu
 exact ru
theorem zG2 (bs : List Bool) : (List.range bs.length).map (fun i => bs.getD i false) = bs := by
 refine List.ext_getElem (by simp) fun i h1 h2 => ?_
 simp [List.getD, h2]
theorem yX9 (bs : List Bool) : (List.range bs.length).all (fun i => bs.getD i false) = bs.all id := by
 have z := congrArg (fun l => List.all l id) (zG2 bs)
 simpa [List.all_map, Function.comp_def] using z
theorem zZ3 (hc : X.calm = true) : CallR X (.builtin "all") (fun xs H Q => ∃ (p : Addr) (bs : List Bool), xs = [.ref p] /\ SqL X.K H p (bs.map V.bl) /\ Q (.bl (bs.all id)) H) := by
 intro pins s σ H xs us Q I r h
 obtain ⟨p, bs, rfl, hq, q⟩ := h
 obtain ⟨u, rfl, ru⟩ := vals1 r
 cases ru
 obtain ⟨its, rv, pl, hz⟩ := I.list hq
 have hl := rv.length
 rw [List.length_map] at hl
 refine call_all_walk (zB8 (A := X.A.in1) (I.ok.hd hc) pl.isList fun J hp St W st _ _ keep => ⟨_, _, _, _, _, _, fun i => bs.getD i false, rfl, W, st, ?_, fun h' tk hk => ?_⟩)
 ·intro i v s' Q' E' hP hQ
  rw [yR4 rv hP]
  exact wpAny_truthy_bool hQ
 ·rw [List.size_toArray, <- hl, yX9]
  exact ⟨.bl _, H, I.kept fun b o e => hk b o (by simpa using (keep b o e).1) (keep b o e).2, rfl, q⟩
end
end L2
namespace L2.L3
open PySem PySem.Spec PyProof.Rows
abbrev D := PyData
inductive Res (α : Type) where
 | ok (a : α)
 | ex (c : Str)
 | no
namespace Res
def bind {α β : Type} : Res α -> (α -> Res β) -> Res β
 | .ok a, f => f a
 | .ex c, _ => .ex c
 | .no, _ => .no
def post {α : Type} : Res α -> (α -> Prop) -> (Str -> Prop) -> Prop
 | .ok a, Q, _ => Q a
 | .ex c, _, E => E c
 | .no, _, _ => False
theorem zX {α β : Type} {r : Res α} {f : α -> Res β} {Q : β -> Prop} {E : Str -> Prop} (h : (r.bind f).post Q E) : r.post (fun a => (f a).post Q E) E := by
 cases r <;> exact h
theorem zW {α : Type} {r : Res α} {Q Q' : α -> Prop} {E E' : Str -> Prop} (h : r.post Q E) (hQ : ∀ a, r = .ok a -> Q a -> Q' a) (hE : ∀ c, E c -> E' c) : r.post Q' E' := by
 cases r with
 | ok a => exact hQ a rfl h
 | ex c => exact hE c h
 | no => exact h
def lft {α : Type} : Option α -> Res α
 | some a => .ok a
 | none => .no
theorem zL {α : Type} {o : Option α} {Q : α -> Prop} {E : Str -> Prop} (h : (lft o).post Q E) : ∃ a, o = some a /\ Q a := by
 cases o with
 | none => exact h.elim
 | some a => exact ⟨a, rfl, h⟩
@[simp] theorem bind_ok {α β : Type} (a : α) (f : α -> Res β) : (Res.ok a).bind f = f a := rfl
@[simp] theorem bind_no {α β : Type} (f : α -> Res β) : (Res.no : Res α).bind f = .no := rfl
@[simp] theorem bind_ex {α β : Type} (c : Str) (f : α -> Res β) : (Res.ex c : Res α).bind f = .ex c := rfl
@[simp] theorem lft_some {α : Type} (a : α) : lft (some a) = .ok a := rfl
@[simp] theorem lft_none {α : Type} : lft (none : Option α) = .no := rfl
end Res
class CN where
 ad : Str -> Addr
instance (priority := low) cn0 : CN := ⟨fun _ => 0⟩
abbrev excD (c : Str) : D := .dict [(.list [], .str c)]
variable [CN]
def rowNames : List Str := ["BadText@0", "BadText@1", "BadText@2", "BadText@3", "BadText@4", "BadText@5", "BadText@6", "BadText@7", "BadText@8", "BadText@9", "BadText@10", "BadText@11", "BadText@12", "BadText@13", "BadText@14", "BadText@15"]
def rowName (n : Nat) : Str := rowNames.getD n ""
def rowOf (c : Str) : Option Nat := rowNames.findIdx? (· == c)
def Row (d : Addr) (r : Int) : Heap -> Prop := fun h => ∃ t, h.Ns1 d (fun y => if y = "row" then some (.int r t) else none)
theorem Row.keeps {d : Addr} {r : Int} {h h' : Heap} (x : Row d r h) (k : ∀ o, h.get? d = some o -> h'.get? d = some o) : Row d r h' := by
 obtain ⟨t, od, es, ep, e, c⟩ := x
 exact ⟨t, od, es, ep, k _ e, c⟩
def excP (a : Addr) (c : Str) (lk : Option Addr) : Heap -> Prop := fun h => ∃ o, h.get? a = some o /\ o.cls = .ref (CN.ad c) /\ ∀ d, lk = some d -> o.dict = some d /\ ∃ vs, o.data = .fields vs
def RowR (H : Hp) (O : Addr -> Prop) (c : Str) (lk : Option Addr) : Prop := ∀ r, rowOf c = some r -> ∃ d, lk = some d /\ H d = some (.ext (Row d (r : Int))) /\ ¬ O d
mutual
inductive Rep (H : Hp) (O : Addr -> Prop) : V -> D -> Prop
 | non : Rep H O .non .none
 | bl (b : Bool) : Rep H O (.bl b) (.bool b)
 | int (i : Int) : Rep H O (.int i) (.int i)
 | str (x : Str) : Rep H O (.str x) (.str x)
 | lst {a : Addr} {xs : List V} {ds : List D} : Rd H a (.lst xs) -> ¬ O a -> Reps H O xs ds -> Rep H O (.ref a) (.list ds)
 | tup {a : Addr} {xs : List V} {ds : List D} : Rd H a (.tup xs) -> ¬ O a -> Reps H O xs ds -> Rep H O (.ref a) (.tuple ds)
 | exc {a : Addr} {c : Str} {lk : Option Addr} : H a = some (.ext (excP a c lk)) -> RowR H O c lk -> ¬ O a -> Rep H O (.ref a) (.dict [(.list [], .str c)])
inductive Reps (H : Hp) (O : Addr -> Prop) : List V -> List D -> Prop
 | nil : Reps H O [] []
 | cons {v : V} {d : D} {vs : List V} {ds : List D} : Rep H O v d -> Reps H O vs ds -> Reps H O (v :: vs) (d :: ds)
end
theorem zL5 {H : Hp} {a : Addr} {u : HO} (h : Rd H a u) : H a ≠ none := by
 rcases h with h | ⟨o, h⟩ <;> (rw [h]; exact fun z => nomatch z)
theorem dX {H H' : Hp} {a : Addr} {u : HO} (h : Rd H a u) (k : ∀ o, H a = some o -> H' a = some o) : Rd H' a u := by
 rcases h with h | ⟨o, h⟩
 ·exact .inl (k _ h)
 ·exact .inr ⟨o, k _ h⟩
section
variable {H H' : Hp} {O O' : Addr -> Prop}
mutual
theorem Rep.keep (k : ∀ b o, H b = some o -> ¬ O b -> H' b = some o) (s : ∀ b, H b ≠ none -> O' b -> O b) : ∀ {v : V} {d : D}, Rep H O v d -> Rep H' O' v d
 | _, _, .non => .non
 | _, _, .bl b => .bl b
 | _, _, .int i => .int i
 | _, _, .str x => .str x
 | _, _, .lst r n t => .lst (dX r fun o e => k _ o e n) (fun z => n (s _ (zL5 r) z)) (Reps.keep k s t)
 | _, _, .tup r n t => .tup (dX r fun o e => k _ o e n) (fun z => n (s _ (zL5 r) z)) (Reps.keep k s t)
 | _, _, .exc r w n => .exc (k _ _ r n) (fun r e => let ⟨d, h1, h2, h3⟩ := w r e; ⟨d, h1, k _ _ h2 h3, fun z => h3 (s _ (by rw [h2]; exact fun z => nomatch z) z)⟩) (fun z => n (s _ (by rw [r]; exact fun z => nomatch z) z))
theorem Reps.keep (k : ∀ b o, H b = some o -> ¬ O b -> H' b = some o) (s : ∀ b, H b ≠ none -> O' b -> O b) : ∀ {vs : List V} {ds : List D}, Reps H O vs ds -> Reps H' O' vs ds
 | _, _, .nil => .nil
 | _, _, .cons h t => .cons (Rep.keep k s h) (Reps.keep k s t)
end
mutual
theorem Rep.dat {K : KFr} : ∀ {v : V} {d : D}, Rep H O v d -> PyData.canLay0 d = true -> DatV K H v d
 | _, _, .non, _ => .non
 | _, _, .bl b, _ => .bl b
 | _, _, .int i, _ => .int i
 | _, _, .str x, _ => .str x
 | _, _, .lst r n t, c => .lst (.inl r) (Reps.dat t c)
 | _, _, .tup r n t, c => .tup (.inl r) (Reps.dat t c)
 | _, _, .exc r w n, c => by cases c
theorem Reps.dat {K : KFr} : ∀ {vs : List V} {ds : List D}, Reps H O vs ds -> PyData.canLayAll0 ds = true -> DatAll K H vs ds
 | _, _, .nil, _ => .nil
 | _, _, .cons h t, c => .cons (Rep.dat h (Bool.and_eq_true_iff.mp c).1) (Reps.dat t (Bool.and_eq_true_iff.mp c).2)
end
theorem Rep.same {v : V} {d : D} (h : Rep H O v d) (s : Same H H') : Rep H' O v d := h.keep (fun b o e _ => s b o e) fun _ _ z => z
theorem Reps.same {v : List V} {d : List D} (h : Reps H O v d) (s : Same H H') : Reps H' O v d := h.keep (fun b o e _ => s b o e) fun _ _ z => z
theorem Rep.less {v : V} {d : D} (h : Rep H O v d) (s : ∀ b, O' b -> O b) : Rep H O' v d := h.keep (fun b o e _ => e) fun b _ z => s b z
theorem Reps.less {v : List V} {d : List D} (h : Reps H O v d) (s : ∀ b, O' b -> O b) : Reps H O' v d := h.keep (fun b o e _ => e) fun b _ z => s b z
theorem Reps.length : ∀ {vs : List V} {ds : List D}, Reps H O vs ds -> vs.length = ds.length
 | _, _, .nil => rfl
 | _, _, .cons _ t => congrArg (· + 1) (Reps.length t)
theorem Reps.get : ∀ {vs : List V} {ds : List D} {i : Nat} {d : D}, Reps H O vs ds -> ds[i]? = some d -> ∃ v, vs[i]? = some v /\ Rep H O v d
 | _, _, _, _, .nil, e => by simp at e
 | _, _, 0, _, .cons r _, e => by simp at e; subst e; exact ⟨_, rfl, r⟩
 | _, _, i + 1, d, .cons _ t, e => by
  obtain ⟨u, h1, h2⟩ := Reps.get (i := i) (d := d) t (by simpa using e)
  exact ⟨u, by simpa using h1, h2⟩
theorem Reps.append : ∀ {vs ws : List V} {ds es : List D}, Reps H O vs ds -> Reps H O ws es -> Reps H O (vs ++ ws) (ds ++ es)
 | _, _, _, _, .nil, s => s
 | _, _, _, _, .cons r t, s => .cons r (Reps.append t s)
theorem Reps.one {v : V} {d : D} (h : Rep H O v d) : Reps H O [v] [d] := .cons h .nil
theorem Reps.set {x : V} {u : D} (r : Rep H O x u) : ∀ {vs : List V} {ds : List D} (i : Nat), Reps H O vs ds -> Reps H O (vs.set i x) (ds.set i u)
 | _, _, _, .nil => .nil
 | _, _, 0, .cons _ t => .cons r t
 | _, _, i + 1, .cons q t => .cons q (Reps.set r i t)
theorem Reps.take : ∀ {vs : List V} {ds : List D} (n : Nat), Reps H O vs ds -> Reps H O (vs.take n) (ds.take n)
 | _, _, 0, _ => .nil
 | _, _, _ + 1, .nil => .nil
 | _, _, n + 1, .cons r t => .cons r (Reps.take n t)
theorem Reps.drop : ∀ {vs : List V} {ds : List D} (n : Nat), Reps H O vs ds -> Reps H O (vs.drop n) (ds.drop n)
 | _, _, 0, r => r
 | _, _, _ + 1, .nil => .nil
 | _, _, n + 1, .cons _ t => Reps.drop n t
theorem Reps.rep {vs : List V} {ds : List D} (h : Reps H O vs ds) : ∀ k : Nat, Reps H O (List.replicate k vs).flatten (List.replicate k ds).flatten
 | 0 => .nil
 | k + 1 => by
  rw [List.replicate_succ, List.replicate_succ, List.flatten_cons, List.flatten_cons]
  exact h.append (Reps.rep h k)
theorem Reps.insert {x : V} {u : D} (r : Rep H O x u) {vs : List V} {ds : List D} (i : Nat) (h : Reps H O vs ds) : Reps H O (vs.take i ++ x :: vs.drop i) (ds.take i ++ u :: ds.drop i) :=
 (h.take i).append (.cons r (h.drop i))
theorem fJ : ∀ (ns : List Int), Reps H O (ns.map V.int) (ns.map PyData.int)
 | [] => .nil
 | n :: ns => .cons (.int n) (fJ ns)
theorem Reps.ints : ∀ {ns : List Int} {vs : List V}, Reps H O vs (ns.map PyData.int) -> vs = ns.map V.int
 | [], _, h => by cases h; rfl
 | n :: ns, _, h => by
  cases h with
  | cons r t => cases r; rw [Reps.ints t]; rfl
theorem Reps.bools : ∀ {ns : List Bool} {vs : List V}, Reps H O vs (ns.map PyData.bool) -> vs = ns.map V.bl
 | [], _, h => by cases h; rfl
 | n :: ns, _, h => by
  cases h with
  | cons r t => cases r; rw [Reps.bools t]; rfl
end
abbrev Ev := List (Option D)
structure Wd where
 o : Addr -> Prop
 la : Nat -> Addr
instance : CoeFun Wd (fun _ => Addr -> Prop) := ⟨Wd.o⟩
abbrev Uni (Oc : Wd) (Ob : Addr -> Prop) : Addr -> Prop := fun b => Oc b \/ Ob b
def OwnAt (H : Hp) (Oc : Wd) (Ob : Addr -> Prop) (v : V) (d : D) : Prop := ∃ a ys ds, v = .ref a /\ d = .list ds /\ H a = some (.lst ys) /\ Ob a /\ Reps H (Uni Oc Ob) ys ds
def LentAt (i : Nat) (H : Hp) (Oc : Wd) (Ob : Addr -> Prop) (v : V) (d : D) : Prop := ∃ ys ds, v = .ref (Oc.la i) /\ d = .list ds /\ H (Oc.la i) = some (.lst ys) /\ Oc (Oc.la i) /\ Reps H (Uni Oc Ob) ys ds
structure Rel (Oc : Wd) (Ob : Addr -> Prop) (om ln : List Nat) (σ : St) (H : Hp) (ρ : Ev) : Prop where
 len : σ.length = ρ.length
 val : ∀ i d, ρ[i]? = some (some d) -> i ∉ om -> i ∉ ln -> ∃ v, σ[i]? = some (some v) /\ Rep H (Uni Oc Ob) v d
 own : ∀ i d, ρ[i]? = some (some d) -> i ∈ om -> ∃ v, σ[i]? = some (some v) /\ OwnAt H Oc Ob v d
 lnt : ∀ i d, ρ[i]? = some (some d) -> i ∉ om -> i ∈ ln -> ∃ v, σ[i]? = some (some v) /\ LentAt i H Oc Ob v d
 inj : ∀ i j di dj a, ρ[i]? = some (some di) -> ρ[j]? = some (some dj) -> i ∈ om -> j ∈ om -> σ[i]? = some (some (.ref a)) -> σ[j]? = some (some (.ref a)) -> i = j
 oh : ∀ a, Oc a \/ Ob a -> H a ≠ none
 ap : ∀ a, Ob a -> ¬ Oc a
section
variable {Oc : Wd} {Ob : Addr -> Prop} {om ln : List Nat} {σ : St} {H H' : Hp} {ρ : Ev}
theorem Same.ne {b : Addr} (s : Same H H') (h : H b ≠ none) : H' b ≠ none := by
 cases e : H b with
 | none => exact absurd e h
 | some o => rw [s b o e]; exact fun z => nomatch z
theorem Rel.same (R : Rel Oc Ob om ln σ H ρ) (s : Same H H') : Rel Oc Ob om ln σ H' ρ where
 len := R.len
 val := fun i d e h1 h2 => let ⟨v, a, b⟩ := R.val i d e h1 h2; ⟨v, a, b.same s⟩
 own := fun i d e h1 => let ⟨v, q, a, ys, ds, e1, e2, e3, e4, e5⟩ := R.own i d e h1; ⟨v, q, a, ys, ds, e1, e2, s _ _ e3, e4, e5.same s⟩
 lnt := fun i d e h1 h2 => let ⟨v, q, ys, ds, e1, e2, e3, e4, e5⟩ := R.lnt i d e h1 h2; ⟨v, q, ys, ds, e1, e2, s _ _ e3, e4, e5.same s⟩
 inj := R.inj
 oh := fun a h => Same.ne s (R.oh a h)
 ap := R.ap
end
inductive Md where
 | cl
 | rd
 | any
 | new
def VA (Oc : Wd) (Ob : Addr -> Prop) (H : Hp) (v : V) (d : D) : Prop :=
 Rep H (Uni Oc Ob) v d \/ ∃ a ys ds, v = .ref a /\ d = .list ds /\ H a = some (.lst ys) /\ Reps H (Uni Oc Ob) ys ds
def VR : Md -> Wd -> (Addr -> Prop) -> Hp -> Hp -> V -> D -> Prop
 | .cl, Oc, Ob, _, H', v, d => Rep H' (Uni Oc Ob) v d
 | .rd, Oc, Ob, _, H', v, d => Rep H' (Uni Oc Ob) v d \/ ∃ a ys ds, v = .ref a /\ d = .list ds /\ H' a = some (.lst ys) /\ ¬ Ob a /\ Reps H' (Uni Oc Ob) ys ds
 | .any, Oc, Ob, _, H', v, d => VA Oc Ob H' v d
 | .new, Oc, Ob, H, H', v, d => ∃ a ys ds, v = .ref a /\ d = .list ds /\ H a = none /\ H' a = some (.lst ys) /\ Reps H' (fun b => Uni Oc Ob b \/ b = a) ys ds
section
variable {Oc : Wd} {Ob : Addr -> Prop} {H H1 H2 : Hp} {v : V} {d : D} {md : Md}
theorem VR.same (h : VR md Oc Ob H H1 v d) (s : Same H1 H2) : VR md Oc Ob H H2 v d := by
 cases md with
 | cl => exact Rep.same h s
 | rd =>
  rcases h with h | ⟨a, ys, ds, e1, e2, e3, e4, e5⟩
  ·exact .inl (Rep.same h s)
  ·exact .inr ⟨a, ys, ds, e1, e2, s _ _ e3, e4, e5.same s⟩
 | any =>
  rcases h with h | ⟨a, ys, ds, e1, e2, e3, e5⟩
  ·exact .inl (Rep.same h s)
  ·exact .inr ⟨a, ys, ds, e1, e2, s _ _ e3, e5.same s⟩
 | new =>
  obtain ⟨a, ys, ds, e1, e2, e3, e4, e5⟩ := h
  exact ⟨a, ys, ds, e1, e2, e3, s _ _ e4, e5.same s⟩
theorem VR.from (h : VR md Oc Ob H1 H2 v d) (s : Same H H1) : VR md Oc Ob H H2 v d := by
 cases md with
 | new =>
  obtain ⟨a, ys, ds, e1, e2, e3, e4, e5⟩ := h
  exact ⟨a, ys, ds, e1, e2, s.free e3, e4, e5⟩
 | _ => exact h
theorem VR.clean (h : VR .new Oc Ob H H1 v d) (oh : ∀ a, Oc a \/ Ob a -> H a ≠ none) : VR .cl Oc Ob H H1 v d := by
 obtain ⟨a, ys, ds, rfl, rfl, e3, e4, e5⟩ := h
 exact .lst (.inl e4) (fun z => oh a z e3) (e5.less fun b z => .inl z)
theorem VR.va (h : VR md Oc Ob H H1 v d) (oh : ∀ a, Oc a \/ Ob a -> H a ≠ none) : VA Oc Ob H1 v d := by
 cases md with
 | cl => exact .inl h
 | rd =>
  rcases h with h | ⟨a, ys, ds, e1, e2, e3, e4, e5⟩
  ·exact .inl h
  ·exact .inr ⟨a, ys, ds, e1, e2, e3, e5⟩
 | any => exact h
 | new => exact .inl (VR.clean h oh)
theorem VA.dat {K : KFr} (h : VA Oc Ob H v d) (c : PyData.canLay0 d = true) : DatV K H v d := by
 rcases h with h | ⟨a, ys, ds, rfl, rfl, e3, e5⟩
 ·exact h.dat c
 ·exact .lst (SqL.of e3) (e5.dat c)
theorem VA.datS {K : KFr} (h : VA Oc Ob H v d) (c : SeqAt.shaped d = true) : DatV K H v d := h.dat (SeqAt.canLay_of_shaped c)
theorem VA.list {ds : List D} (h : VA Oc Ob H v (.list ds)) : ∃ a ys, v = .ref a /\ Rd H a (.lst ys) /\ Reps H (Uni Oc Ob) ys ds := by
 rcases h with h | ⟨a, ys, ds, rfl, e, e3, e5⟩
 ·cases h with
  | lst r n t => exact ⟨_, _, rfl, r, t⟩
 ·cases e
  exact ⟨a, ys, rfl, .inl e3, e5⟩
theorem VA.tuple {ds : List D} (h : VA Oc Ob H v (.tuple ds)) : ∃ a ys, v = .ref a /\ Rd H a (.tup ys) /\ Reps H (Uni Oc Ob) ys ds := by
 rcases h with h | ⟨a, ys, ds, rfl, e, e3, e5⟩
 ·cases h with
  | tup r n t => exact ⟨_, _, rfl, r, t⟩
 ·cases e
theorem VA.int {i : Int} (h : VA Oc Ob H v (.int i)) : v = .int i := by
 rcases h with h | ⟨a, ys, ds, rfl, e, e3, e5⟩
 ·cases h; rfl
 ·cases e
theorem VA.bool {i : Bool} (h : VA Oc Ob H v (.bool i)) : v = .bl i := by
 rcases h with h | ⟨a, ys, ds, rfl, e, e3, e5⟩
 ·cases h; rfl
 ·cases e
theorem VA.none (h : VA Oc Ob H v .none) : v = .non := by
 rcases h with h | ⟨a, ys, ds, rfl, e, e3, e5⟩
 ·cases h; rfl
 ·cases e
theorem VA.str {x : Str} (h : VA Oc Ob H v (.str x)) : v = .str x := by
 rcases h with h | ⟨a, ys, ds, rfl, e, e3, e5⟩
 ·cases h; rfl
 ·cases e
theorem VA.rep (h : VA Oc Ob H v d) : Rep H (fun _ => False) v d := by
 rcases h with h | ⟨a, ys, ds, rfl, rfl, e3, e5⟩
 ·exact h.less fun _ z => z.elim
 ·exact .lst (.inl e3) (fun z => z) (e5.less fun _ z => z.elim)
end
structure Ct where
 X : Cx
 XE : Str -> Hp -> Prop
 om : List Nat
 ln : List Nat
def RE (C : Ct) (md : Md) (e : Expr) (m : Ev -> Res D) : Prop :=
 ∃ t, PE C.X e t /\ ∀ (Oc : Wd) (Ob : Addr -> Prop) (σ : St) (H : Hp) (ρ : Ev) (Q : VK), Rel Oc Ob C.om C.ln σ H ρ ->
  (m ρ).post (fun d => ∀ v H', Same H H' -> VR md Oc Ob H H' v d -> Q v H') (fun c => ∀ H', Same H H' -> C.XE c H') -> t σ H Q
def RT (C : Ct) (e : Expr) (m : Ev -> Res Bool) : Prop :=
 ∃ t, PT C.X e t /\ ∀ (Oc : Wd) (Ob : Addr -> Prop) (σ : St) (H : Hp) (ρ : Ev) (Q : Bool -> Hp -> Prop), Rel Oc Ob C.om C.ln σ H ρ ->
  (m ρ).post (fun b => ∀ H', Same H H' -> Q b H') (fun c => ∀ H', Same H H' -> C.XE c H') -> t σ H Q
def RW (C : Ct) (e : Expr) (m : Ev -> Res Bool) : Prop :=
 ∃ t, PW C.X e t /\ ∀ (Oc : Wd) (Ob : Addr -> Prop) (σ : St) (H : Hp) (ρ : Ev) (Q : Bool -> Hp -> Prop), Rel Oc Ob C.om C.ln σ H ρ ->
  (m ρ).post (fun b => ∀ H', Same H H' -> Q b H') (fun c => ∀ H', Same H H' -> C.XE c H') -> t σ H Q
inductive Out where
 | nx (ρ : Ev)
 | rt (d : D)
def Frm (Ob : Addr -> Prop) (H H' : Hp) : Prop := ∀ b o, H b = some o -> ¬ Ob b -> H' b = some o
theorem Same.frm {Ob : Addr -> Prop} {H H' : Hp} (s : Same H H') : Frm Ob H H' := fun b o e _ => s b o e
def RetOk : Bool -> Wd -> (Addr -> Prop) -> Hp -> Hp -> V -> D -> Prop
 | true, Oc, Ob, H, H', v, d => ∃ a ys ds, v = .ref a /\ d = .list ds /\ (H a = none \/ Ob a) /\ ¬ Oc a /\ H' a = some (.lst ys) /\ Reps H' (fun b => Oc b \/ b = a) ys ds
 | false, Oc, _, _, H', v, d => Rep H' Oc.o v d
def SPost (C : Ct) (fr : Bool) (Oc : Wd) (Ob : Addr -> Prop) (H : Hp) (E : Ends) (r : Res Out) : Prop :=
 r.post (fun o => match o with
  | .nx ρ' => ∀ σ' H' Ob', Rel Oc Ob' C.om C.ln σ' H' ρ' -> Frm Ob H H' -> (∀ b, Ob' b -> Ob b \/ H b = none) -> E.nx σ' H'
  | .rt d => ∀ v H', Frm Ob H H' -> RetOk fr Oc Ob H H' v d -> E.rt v H') (fun c => ∀ H', Frm Ob H H' -> C.XE c H')
def RS (C : Ct) (fr : Bool) (st : Stmt) (m : Ev -> Res Out) : Prop :=
 ∃ t, PS C.X st t /\ ∀ (Oc : Wd) (Ob : Addr -> Prop) (σ : St) (H : Hp) (ρ : Ev) (E : Ends), Rel Oc Ob C.om C.ln σ H ρ -> SPost C fr Oc Ob H E (m ρ) -> t E σ H
def RSs (C : Ct) (fr : Bool) (st : List Stmt) (m : Ev -> Res Out) : Prop :=
 ∃ t, PSs C.X st t /\ ∀ (Oc : Wd) (Ob : Addr -> Prop) (σ : St) (H : Hp) (ρ : Ev) (E : Ends), Rel Oc Ob C.om C.ln σ H ρ -> SPost C fr Oc Ob H E (m ρ) -> t E σ H
section
variable {C : Ct} {fr : Bool} {Oc : Wd} {Ob Ob1 Ob2 : Addr -> Prop} {H H1 H2 : Hp} {E : Ends} {r : Res Out}
theorem Frm.trans (f : Frm Ob H H1) (s : ∀ b, Ob1 b -> Ob b \/ H b = none) (g : Frm Ob1 H1 H2) : Frm Ob H H2 := fun b o e n =>
 g b o (f b o e n) fun z => (s b z).elim n fun q => by rw [e] at q; cases q
theorem Frm.none (f : Frm Ob H H1) {b : Addr} (h : H1 b = none) : Ob b \/ H b = none := by
 by_cases n : Ob b
 ·exact .inl n
 ·cases e : H b with
  | none => exact .inr rfl
  | some o => rw [f b o e n] at h; cases h
theorem SPost.step (f : Frm Ob H H1) (s : ∀ b, Ob1 b -> Ob b \/ H b = none) (h : SPost C fr Oc Ob H E r) : SPost C fr Oc Ob1 H1 E r := by
 refine Res.zW h (fun o _ q => ?_) fun c q H' g => q H' (f.trans s g)
 cases o with
 | nx ρ' => exact fun σ' H' Ob' R g s' => q σ' H' Ob' R (f.trans s g) fun b z => (s' b z).elim (s b) fun z => f.none z
 | rt d =>
  refine fun v H' g k => q v H' (f.trans s g) ?_
  cases fr with
  | false => exact k
  | true =>
   obtain ⟨a, ys, ds, e1, e2, e3, e4, e5, e6⟩ := k
   refine ⟨a, ys, ds, e1, e2, ?_, e4, e5, e6⟩
   rcases e3 with e3 | e3
   ·exact (f.none e3).symm
   ·exact (s a e3).symm
theorem SPost.same (f : Same H H1) (h : SPost C fr Oc Ob H E r) : SPost C fr Oc Ob H1 E r := h.step (Same.frm f) fun b z => .inl z
end
end L2.L3
namespace L2.L3
open PySem PySem.Spec PyProof.Rows
variable [CN]
section
variable {C : Ct} {a b c e : Expr} {es : List Expr} {pos : Pos} {md mda mdb mdc : Md} {ma mb mc : Ev -> Res D}
theorem RE.cl (h : RE C .new e ma) : RE C .cl e ma := by
 obtain ⟨t, p, q⟩ := h
 exact ⟨t, p, fun Oc Ob σ H ρ Q R h => q Oc Ob σ H ρ Q R (Res.zW h (fun d _ k v H' s r => k v H' s (VR.clean r R.oh)) fun _ z => z)⟩
theorem RE.rd (h : RE C .cl e ma) : RE C .rd e ma := by
 obtain ⟨t, p, q⟩ := h
 exact ⟨t, p, fun Oc Ob σ H ρ Q R h => q Oc Ob σ H ρ Q R (Res.zW h (fun d _ k v H' s r => k v H' s (.inl r)) fun _ z => z)⟩
def eC (d : D) : Ev -> Res D := fun _ => .ok d
theorem zP {i j} : RE C .cl (.Constant (.int i) j pos) (eC (.int i)) := ⟨_, yX5, fun Oc Ob σ H ρ Q R h => h _ H (Same.refl H) (Rep.int i)⟩
theorem hZ {i j} : RE C .cl (.Constant (.bool i) j pos) (eC (.bool i)) := ⟨_, xT7, fun Oc Ob σ H ρ Q R h => h _ H (Same.refl H) (Rep.bl i)⟩
theorem jQ {j} : RE C .cl (.Constant .none j pos) (eC .none) := ⟨_, yF4, fun Oc Ob σ H ρ Q R h => h _ H (Same.refl H) Rep.non⟩
theorem zN {i j} : RE C .cl (.Constant (.str i) j pos) (eC (.str i)) := ⟨_, yF9, fun Oc Ob σ H ρ Q R h => h _ H (Same.refl H) (Rep.str i)⟩
def eV (i : Nat) : Ev -> Res D := fun ρ => match ρ[i]? with
 | some (some d) => .ok d
 | _ => .no
theorem vA {i : Nat} {ρ : Ev} {Q : D -> Prop} {E : Str -> Prop} (h : (eV i ρ).post Q E) : ∃ d, ρ[i]? = some (some d) /\ Q d := by
 unfold eV at h
 split at h
 ·exact ⟨_, by assumption, h⟩
 ·exact h.elim
theorem yW {i : Nat} {l : List Nat} (h : l.contains i = false) : i ∉ l := by
 intro z
 rw [List.contains_iff_mem.mpr z] at h
 cases h
theorem vZ {i : Nat} {l : List Nat} (h : l.contains i = true) : i ∈ l := List.contains_iff_mem.mp h
theorem zY (i : Nat) {x : Str} (hN : autoParam (C.X.N[i]? = some x) zZ._auto_1) (ho : autoParam (C.om.contains i = false) zZ._auto_1) (hl : autoParam (C.ln.contains i = false) zZ._auto_1) (hv : autoParam (Vis C.X.env.scope x) qP._auto_1) (hd : autoParam ((x == ("__debug__" : Str)) = false) zO._auto_1)
  (hcd : autoParam ((x == ("__classdict__" : Str)) = false) zO._auto_1) : RE C .cl (.Name x pos) (eV i) := by
 refine ⟨_, uD hN hv hd hcd, fun Oc Ob σ H ρ Q R h => ?_⟩
 obtain ⟨d, e, k⟩ := vA h
 obtain ⟨v, q, r⟩ := R.val i d e (yW ho) (yW hl)
 exact ⟨v, q, k v H (Same.refl H) r⟩
theorem yX (i : Nat) {x : Str} (hN : autoParam (C.X.N[i]? = some x) zZ._auto_1) (ho : autoParam (C.om.contains i = true) zZ._auto_1) (hv : autoParam (Vis C.X.env.scope x) qP._auto_1) (hd : autoParam ((x == ("__debug__" : Str)) = false) zO._auto_1)
  (hcd : autoParam ((x == ("__classdict__" : Str)) = false) zO._auto_1) : RE C .any (.Name x pos) (eV i) := by
 refine ⟨_, uD hN hv hd hcd, fun Oc Ob σ H ρ Q R h => ?_⟩
 obtain ⟨d, e, k⟩ := vA h
 obtain ⟨v, q, a, ys, ds, e1, e2, e3, e4, e5⟩ := R.own i d e (vZ ho)
 exact ⟨v, q, k v H (Same.refl H) (.inr ⟨a, ys, ds, e1, e2, e3, e5⟩)⟩
theorem yC2 (i : Nat) {x : Str} (hN : autoParam (C.X.N[i]? = some x) zZ._auto_1) (ho : autoParam (C.om.contains i = false) zZ._auto_1) (hl : autoParam (C.ln.contains i = true) zZ._auto_1) (hv : autoParam (Vis C.X.env.scope x) qP._auto_1) (hd : autoParam ((x == ("__debug__" : Str)) = false) zO._auto_1)
  (hcd : autoParam ((x == ("__classdict__" : Str)) = false) zO._auto_1) : RE C .rd (.Name x pos) (eV i) := by
 refine ⟨_, uD hN hv hd hcd, fun Oc Ob σ H ρ Q R h => ?_⟩
 obtain ⟨d, e, k⟩ := vA h
 obtain ⟨v, q, ys, ds, e1, e2, e3, e4, e5⟩ := R.lnt i d e (yW ho) (vZ hl)
 exact ⟨v, q, k v H (Same.refl H) (.inr ⟨_, ys, ds, e1, e2, e3, fun z => R.ap _ z e4, e5⟩)⟩
theorem zP8 {x : Str} {i : Int} {u : Value} (hm : C.X.mg x = some u) (r : RelV (.int i) u) (hg : autoParam (Gl C.X x) zZ._auto_1) (hd : autoParam ((x == ("__debug__" : Str)) = false) zO._auto_1) : RE C .cl (.Name x pos) (eC (.int i)) :=
 ⟨_, aT hg hm r hd, fun Oc Ob σ H ρ Q R h => h _ H (Same.refl H) (Rep.int i)⟩
def e2 (f : D -> D -> Option D) (m n : Ev -> Res D) : Ev -> Res D := fun ρ => (m ρ).bind fun x => (n ρ).bind fun y => Res.lft (f x y)
def Pr2 (r : R2) (md : Md) (f : D -> D -> Option D) : Prop :=
 ∀ (Oc : Wd) (Ob : Addr -> Prop) (H : Hp) (x y : V) (dx dy d : D) (Q : VK), (∀ a, Oc a \/ Ob a -> H a ≠ none) -> VA Oc Ob H x dx -> VA Oc Ob H y dy -> f dx dy = some d -> (∀ v H', Same H H' -> VR md Oc Ob H H' v d -> Q v H') -> r x y H Q
theorem two {ta tb : TE} {f : D -> D -> Option D} {r : R2} (ha : ∀ (Oc : Wd) (Ob : Addr -> Prop) (σ : St) (H : Hp) (ρ : Ev) (Q : VK), Rel Oc Ob C.om C.ln σ H ρ -> (ma ρ).post (fun d => ∀ v H', Same H H' -> VR mda Oc Ob H H' v d -> Q v H') (fun c => ∀ H', Same H H' -> C.XE c H') -> ta σ H Q)
  (hb : ∀ (Oc : Wd) (Ob : Addr -> Prop) (σ : St) (H : Hp) (ρ : Ev) (Q : VK), Rel Oc Ob C.om C.ln σ H ρ -> (mb ρ).post (fun d => ∀ v H', Same H H' -> VR mdb Oc Ob H H' v d -> Q v H') (fun c => ∀ H', Same H H' -> C.XE c H') -> tb σ H Q) (hp : Pr2 r md f)
  {Oc : Wd} {Ob : Addr -> Prop} {σ : St} {H : Hp} {ρ : Ev} {Q : VK} (R : Rel Oc Ob C.om C.ln σ H ρ) (h : (e2 f ma mb ρ).post (fun d => ∀ v H', Same H H' -> VR md Oc Ob H H' v d -> Q v H') (fun c => ∀ H', Same H H' -> C.XE c H')) :
  ta σ H fun x H1 => tb σ H1 fun y H2 => r x y H2 Q := by
 refine ha Oc Ob σ H ρ _ R (Res.zW (Res.zX h) (fun dx _ q x H1 s1 vx => ?_) fun _ z => z)
 refine hb Oc Ob σ H1 ρ _ (R.same s1) (Res.zW (Res.zX q) (fun dy _ q y H2 s2 vy => ?_) fun c z H' s' => z H' (s1.trans s'))
 obtain ⟨d, e, q⟩ := Res.zL q
 have oh2 := ((R.same s1).same s2).oh
 refine hp Oc Ob H2 x y dx dy d Q oh2 ((vx.same s2).va R.oh) (vy.va (R.same s1).oh) e fun v H' s3 r => ?_
 exact q v H' ((s1.trans s2).trans s3) (r.from (s1.trans s2))
theorem zK {op : Operator} {r : R2} {f : D -> D -> Option D} (ho : OpR C.X (binaryOp op) r) (hp : Pr2 r md f) (ha : RE C mda a ma) (hb : RE C mdb b mb) : RE C md (.BinOp a op b pos) (e2 f ma mb) := by
 obtain ⟨ta, pa, qa⟩ := ha
 obtain ⟨tb, pb, qb⟩ := hb
 exact ⟨_, xW9 ho pa pb, fun Oc Ob σ H ρ Q R h => two qa qb hp R h⟩
theorem yC {r : R2} {f : D -> D -> Option D} (ho : IxR C.X r) (hp : Pr2 r md f) (ha : RE C mda a ma) (hb : RE C mdb b mb) (hs : autoParam (PlainIx b) xX5._auto_1) : RE C md (.Subscript a b pos) (e2 f ma mb) := by
 obtain ⟨ta, pa, qa⟩ := ha
 obtain ⟨tb, pb, qb⟩ := hb
 exact ⟨_, xX8 ho pa pb hs, fun Oc Ob σ H ρ Q R h => two qa qb hp R h⟩
def PrB (r : R2) (f : D -> D -> Option Bool) : Prop :=
 ∀ (Oc : Wd) (Ob : Addr -> Prop) (H : Hp) (x y : V) (dx dy : D) (k : Bool) (Q : VK), VA Oc Ob H x dx -> VA Oc Ob H y dy -> f dx dy = some k -> Q (.bl k) H -> r x y H Q
def bD (o : Option Bool) : Option D := o.map PyData.bool
theorem PrB.pr {r : R2} {f : D -> D -> Option Bool} (h : PrB r f) : Pr2 r .cl (fun x y => bD (f x y)) := by
 intro Oc Ob H x y dx dy d Q oh vx vy e k
 cases ef : f dx dy with
 | none => simp only [ef] at e; cases e
 | some b =>
  simp only [ef] at e
  cases e
  exact h Oc Ob H x y dx dy b Q vx vy ef (k _ H (Same.refl H) (Rep.bl b))
theorem gP {op : CmpOp} {r : R2} {f : D -> D -> Option Bool} (ho : OpR C.X (compareOp op) r) (hp : PrB r f) (ha : RE C mda a ma) (hb : RE C mdb b mb) (hm : autoParam (behindInMarks op b = false) zH5._auto_1) : RE C .cl (.Compare a [op] [b] pos) (e2 (fun x y => bD (f x y)) ma mb) := by
 obtain ⟨ta, pa, qa⟩ := ha
 obtain ⟨tb, pb, qb⟩ := hb
 exact ⟨_, yI6 ho pa pb hm, fun Oc Ob σ H ρ Q R h => two qa qb hp.pr R h⟩
def b2 (f : D -> D -> Option Bool) (m n : Ev -> Res D) : Ev -> Res Bool := fun ρ => (m ρ).bind fun x => (n ρ).bind fun y => Res.lft (f x y)
theorem yC9 {f : D -> D -> Option Bool} {ρ : Ev} {Q : Bool -> Hp -> Prop} {H : Hp} {E : Str -> Prop} {Oc : Wd} {Ob : Addr -> Prop} (h : (b2 f ma mb ρ).post (fun b => ∀ H', Same H H' -> Q b H') E) :
  (e2 (fun x y => bD (f x y)) ma mb ρ).post (fun d => ∀ v H', Same H H' -> VR .cl Oc Ob H H' v d -> ∃ k, v = .bl k /\ Q k H') E := by
 unfold e2
 unfold b2 at h
 cases ea : ma ρ with
 | no => rw [ea] at h; exact h
 | ex c => rw [ea] at h; exact h
 | ok x =>
  rw [ea] at h
  simp only [Res.bind_ok] at h ⊢
  cases eb : mb ρ with
  | no => rw [eb] at h; exact h
  | ex c => rw [eb] at h; exact h
  | ok y =>
   rw [eb] at h
   simp only [Res.bind_ok] at h ⊢
   obtain ⟨k, ek, q⟩ := Res.zL h
   rw [ek]
   intro v H' s r
   have : v = .bl k := by cases r; rfl
   exact ⟨k, this, q H' s⟩
theorem yY {op : CmpOp} {r : R2} {f : D -> D -> Option Bool} (ho : OpR C.X (compareOp op) r) (hp : PrB r f) (ha : RE C mda a ma) (hb : RE C mdb b mb) (hm : autoParam (behindInMarks op b = false) zH5._auto_1) : RT C (.Compare a [op] [b] pos) (b2 f ma mb) := by
 obtain ⟨ta, pa, qa⟩ := ha
 obtain ⟨tb, pb, qb⟩ := hb
 exact ⟨_, yK7 ho pa pb hm, fun Oc Ob σ H ρ Q R h => two qa qb hp.pr R (yC9 h)⟩
def b3 (f g : D -> D -> Option Bool) (m n o : Ev -> Res D) : Ev -> Res Bool := fun ρ => (m ρ).bind fun x => (n ρ).bind fun y => (Res.lft (f x y)).bind fun k => if k then (o ρ).bind fun z => Res.lft (g y z) else .ok false
theorem chain3 {ta tb tc : TE} {f g : D -> D -> Option Bool} {r r' : R2} (ha : ∀ (Oc : Wd) (Ob : Addr -> Prop) (σ : St) (H : Hp) (ρ : Ev) (Q : VK), Rel Oc Ob C.om C.ln σ H ρ -> (ma ρ).post (fun d => ∀ v H', Same H H' -> VR mda Oc Ob H H' v d -> Q v H') (fun c => ∀ H', Same H H' -> C.XE c H') -> ta σ H Q)
  (hb : ∀ (Oc : Wd) (Ob : Addr -> Prop) (σ : St) (H : Hp) (ρ : Ev) (Q : VK), Rel Oc Ob C.om C.ln σ H ρ -> (mb ρ).post (fun d => ∀ v H', Same H H' -> VR mdb Oc Ob H H' v d -> Q v H') (fun c => ∀ H', Same H H' -> C.XE c H') -> tb σ H Q)
  (hc : ∀ (Oc : Wd) (Ob : Addr -> Prop) (σ : St) (H : Hp) (ρ : Ev) (Q : VK), Rel Oc Ob C.om C.ln σ H ρ -> (mc ρ).post (fun d => ∀ v H', Same H H' -> VR mdc Oc Ob H H' v d -> Q v H') (fun c => ∀ H', Same H H' -> C.XE c H') -> tc σ H Q) (hp : PrB r f) (hp' : PrB r' g)
  {Oc : Wd} {Ob : Addr -> Prop} {σ : St} {H : Hp} {ρ : Ev} {Q : VK} (R : Rel Oc Ob C.om C.ln σ H ρ) (h : (b3 f g ma mb mc ρ).post (fun d => ∀ H', Same H H' -> Q (.bl d) H') (fun c => ∀ H', Same H H' -> C.XE c H')) :
  tChain r r' ta tb tc σ H Q := by
 refine ha Oc Ob σ H ρ _ R (Res.zW (Res.zX h) (fun dx _ q x H1 s1 vx => ?_) fun _ z => z)
 refine hb Oc Ob σ H1 ρ _ (R.same s1) (Res.zW (Res.zX q) (fun dy _ q y H2 s2 vy => ?_) fun c z H' s' => z H' (s1.trans s'))
 obtain ⟨k, e, q⟩ := Res.zL (Res.zX q)
 have R2 := (R.same s1).same s2
 refine hp Oc Ob H2 x y dx dy k _ ((vx.same s2).va R.oh) (vy.va (R.same s1).oh) e ⟨k, rfl, ?_⟩
 cases k with
 | false => exact iteF (q H2 (s1.trans s2))
 | true =>
  refine iteT (hc Oc Ob σ H2 ρ _ R2 (Res.zW (Res.zX q) (fun dz _ q z H3 s3 vz => ?_) fun c z H' s' => z H' ((s1.trans s2).trans s')))
  obtain ⟨k, e, q⟩ := Res.zL q
  exact hp' Oc Ob H3 y z dy dz k _ ((vy.same s3).va (R.same s1).oh) (vz.va R2.oh) e (q H3 ((s1.trans s2).trans s3))
def vB (m : Ev -> Res Bool) : Ev -> Res D := fun ρ => (m ρ).bind fun b => .ok (.bool b)
theorem yQ5 {op op' : CmpOp} {r r' : R2} {f g : D -> D -> Option Bool} (ho : OpR C.X (compareOp op) r) (ho' : OpR C.X (compareOp op') r') (hp : PrB r f) (hp' : PrB r' g) (ha : RE C mda a ma) (hb : RE C mdb b mb) (hc : RE C mdc c mc)
  (hm : autoParam (lastMarks [op, op'] [b, c] = false) yU4._auto_1) : RE C .cl (.Compare a [op, op'] [b, c] pos) (vB (b3 f g ma mb mc)) := by
 obtain ⟨ta, pa, qa⟩ := ha
 obtain ⟨tb, pb, qb⟩ := hb
 obtain ⟨tc, pc, qc⟩ := hc
 exact ⟨_, yP5 ho ho' pa pb pc hm, fun Oc Ob σ H ρ Q R h => chain3 qa qb qc hp hp' R (Res.zW (Res.zX h) (fun b _ q H' s => q _ H' s (Rep.bl b)) fun _ z => z)⟩
variable {ta' tb' : Ev -> Res Bool} {rest : List Expr}
def isB : D -> Option Bool
 | .bool b => some b
 | _ => none
def tV (m : Ev -> Res D) : Ev -> Res Bool := fun ρ => (m ρ).bind fun d => Res.lft (isB d)
theorem cX {d : D} {b : Bool} (h : isB d = some b) : d = .bool b := by
 cases d <;> simp [isB] at h ⊢
 exact h
theorem wC (h : RE C md a ma) (he : autoParam (∀ whole, isTrue a C.X.env whole = (do let v <- whole; standAt a.pos; holding [v] (truthy v))) xG._auto_1) : RT C a (tV ma) := by
 obtain ⟨t, p, q⟩ := h
 refine ⟨_, xY1 p he, fun Oc Ob σ H ρ Q R h => q Oc Ob σ H ρ _ R (Res.zW (Res.zX h) (fun d _ k v H' s r => ?_) fun _ z => z)⟩
 obtain ⟨b, e, k⟩ := Res.zL k
 obtain rfl := cX e
 exact ⟨b, (r.va R.oh).bool, k H' s⟩
def tNt (m : Ev -> Res Bool) : Ev -> Res Bool := fun ρ => (m ρ).bind fun b => .ok (!b)
theorem uT (h : RT C a ta') : RT C (.UnaryOp .Not a pos) (tNt ta') := by
 obtain ⟨t, p, q⟩ := h
 exact ⟨_, yE3 p, fun Oc Ob σ H ρ Q R h => q Oc Ob σ H ρ _ R (Res.zW (Res.zX h) (fun d _ k => k) fun _ z => z)⟩
def tAn (m n : Ev -> Res Bool) : Ev -> Res Bool := fun ρ => (m ρ).bind fun b => if b then n ρ else .ok false
def tO (m n : Ev -> Res Bool) : Ev -> Res Bool := fun ρ => (m ρ).bind fun b => if b then .ok true else n ρ
theorem rw_and1 (h : RT C a ta') : RW C (.BoolOp .And [a] pos) ta' := by
 obtain ⟨t, p, q⟩ := h
 exact ⟨_, pw_and1 p, q⟩
theorem rw_or1 (h : RT C a ta') : RW C (.BoolOp .Or [a] pos) ta' := by
 obtain ⟨t, p, q⟩ := h
 exact ⟨_, pw_or1 p, q⟩
theorem rw_and (ha : RT C a ta') (hb : RW C (.BoolOp .And (b :: rest) pos) tb') : RW C (.BoolOp .And (a :: b :: rest) pos) (tAn ta' tb') := by
 obtain ⟨t, p, q⟩ := ha
 obtain ⟨t', p', q'⟩ := hb
 refine ⟨_, pw_and p p', fun Oc Ob σ H ρ Q R h => q Oc Ob σ H ρ _ R (Res.zW (Res.zX h) (fun b _ k H' s => ?_) fun _ z => z)⟩
 cases b with
 | true => exact iteT (q' Oc Ob σ H' ρ Q (R.same s) (Res.zW k (fun b _ k H2 s2 => k H2 (s.trans s2)) fun c z H2 s2 => z H2 (s.trans s2)))
 | false => exact iteF (k H' s)
theorem rw_or (ha : RT C a ta') (hb : RW C (.BoolOp .Or (b :: rest) pos) tb') : RW C (.BoolOp .Or (a :: b :: rest) pos) (tO ta' tb') := by
 obtain ⟨t, p, q⟩ := ha
 obtain ⟨t', p', q'⟩ := hb
 refine ⟨_, pw_or p p', fun Oc Ob σ H ρ Q R h => q Oc Ob σ H ρ _ R (Res.zW (Res.zX h) (fun b _ k H' s => ?_) fun _ z => z)⟩
 cases b with
 | false => exact iteF (q' Oc Ob σ H' ρ Q (R.same s) (Res.zW k (fun b _ k H2 s2 => k H2 (s.trans s2)) fun c z H2 s2 => z H2 (s.trans s2)))
 | true => exact iteT (k H' s)
theorem RW.rt (h : RW C a ta') : RT C a ta' := by
 obtain ⟨t, p, q⟩ := h
 exact ⟨_, p.pt, q⟩
theorem bQ {op} (h : RE C md a ma) : RE C md (.BoolOp op [a] pos) ma := by
 obtain ⟨t, p, q⟩ := h
 exact ⟨_, xX2 p, q⟩
def vAn (m n : Ev -> Res D) : Ev -> Res D := fun ρ => (m ρ).bind fun d => (Res.lft (isB d)).bind fun b => if b then n ρ else .ok (.bool false)
def vO (m n : Ev -> Res D) : Ev -> Res D := fun ρ => (m ρ).bind fun d => (Res.lft (isB d)).bind fun b => if b then .ok (.bool true) else n ρ
def vNt (m : Ev -> Res D) : Ev -> Res D := fun ρ => (m ρ).bind fun d => (Res.lft (isB d)).bind fun b => .ok (.bool (!b))
theorem bB (ha : RE C mda a ma) (hb : RE C .cl (.BoolOp .And (b :: rest) pos) mb) : RE C .cl (.BoolOp .And (a :: b :: rest) pos) (vAn ma mb) := by
 obtain ⟨t, p, q⟩ := ha
 obtain ⟨t', p', q'⟩ := hb
 refine ⟨_, xZ9 p p', fun Oc Ob σ H ρ Q R h => q Oc Ob σ H ρ _ R (Res.zW (Res.zX h) (fun d _ k v H' s r => ?_) fun _ z => z)⟩
 obtain ⟨b, e, k⟩ := Res.zL (Res.zX k)
 obtain rfl := cX e
 refine ⟨b, (r.va R.oh).bool, ?_⟩
 cases b with
 | true => exact iteT (q' Oc Ob σ H' ρ Q (R.same s) (Res.zW k (fun b _ k v H2 s2 r => k v H2 (s.trans s2) r) fun c z H2 s2 => z H2 (s.trans s2)))
 | false => exact iteF (k _ H' s (Rep.bl false))
theorem xX1 (ha : RE C mda a ma) : RE C .cl (.UnaryOp .Not a pos) (vNt ma) := by
 obtain ⟨t, p, q⟩ := ha
 refine ⟨_, yG9 p, fun Oc Ob σ H ρ Q R h => q Oc Ob σ H ρ _ R (Res.zW (Res.zX h) (fun d _ k v H' s r => ?_) fun _ z => z)⟩
 obtain ⟨b, e, k⟩ := Res.zL (Res.zX k)
 obtain rfl := cX e
 exact ⟨b, (r.va R.oh).bool, k _ H' s (Rep.bl _)⟩
def eIf (m : Ev -> Res Bool) (n o : Ev -> Res D) : Ev -> Res D := fun ρ => (m ρ).bind fun b => if b then n ρ else o ρ
def e1 (f : D -> Option D) (m : Ev -> Res D) : Ev -> Res D := fun ρ => (m ρ).bind fun x => Res.lft (f x)
def negD : D -> Option D
 | .int i => some (.int (-i))
 | _ => none
theorem vQ (ha : RE C mda a ma) : RE C .cl (.UnaryOp .USub a pos) (e1 negD ma) := by
 obtain ⟨t, p, q⟩ := ha
 refine ⟨_, xV7 yG3 p, fun Oc Ob σ H ρ Q R h => q Oc Ob σ H ρ _ R (Res.zW (Res.zX h) (fun d _ k v H' s r => ?_) fun _ z => z)⟩
 obtain ⟨d', e, k⟩ := Res.zL k
 cases d with
 | int i =>
  cases e
  exact ⟨i, (r.va R.oh).int, k _ H' s (Rep.int _)⟩
 | _ => cases e
end
inductive VAs (Oc : Wd) (Ob : Addr -> Prop) (H : Hp) : List V -> List D -> Prop
 | nil : VAs Oc Ob H [] []
 | cons {v : V} {d : D} {vs : List V} {ds : List D} : VA Oc Ob H v d -> VAs Oc Ob H vs ds -> VAs Oc Ob H (v :: vs) (d :: ds)
section
variable {Oc : Wd} {Ob : Addr -> Prop} {H H' : Hp}
theorem VAs.rep : ∀ {vs : List V} {ds : List D}, VAs Oc Ob H vs ds -> Reps H (fun _ => False) vs ds
 | _, _, .nil => .nil
 | _, _, .cons h t => .cons h.rep (VAs.rep t)
theorem VA.same {v : V} {d : D} (h : VA Oc Ob H v d) (s : Same H H') : VA Oc Ob H' v d := VR.same (md := .any) (H := H) h s
end
def VQ : Bool -> Wd -> (Addr -> Prop) -> Hp -> List V -> List D -> Prop
 | true, Oc, Ob, H, vs, ds => Reps H (Uni Oc Ob) vs ds
 | false, Oc, Ob, H, vs, ds => VAs Oc Ob H vs ds
def RArg (C : Ct) (cl : Bool) (es : List Expr) (m : Ev -> Res (List D)) : Prop :=
 ∃ t, PA C.X es t /\ ∀ (Oc : Wd) (Ob : Addr -> Prop) (σ : St) (H : Hp) (ρ : Ev) (Q : List V -> Hp -> Prop), Rel Oc Ob C.om C.ln σ H ρ ->
  (m ρ).post (fun ds => ∀ vs H', Same H H' -> VQ cl Oc Ob H' vs ds -> Q vs H') (fun c => ∀ H', Same H H' -> C.XE c H') -> t σ H Q
section
variable {C : Ct} {a b c e : Expr} {es : List Expr} {pos p : Pos} {md mda mdb mdc : Md} {ma mb mc : Ev -> Res D} {ms : Ev -> Res (List D)} {cl : Bool}
def aN : Ev -> Res (List D) := fun _ => .ok []
def aC (m : Ev -> Res D) (n : Ev -> Res (List D)) : Ev -> Res (List D) := fun ρ => (m ρ).bind fun x => (n ρ).bind fun xs => .ok (x :: xs)
theorem zU : RArg C cl [] aN := ⟨_, wP, fun Oc Ob σ H ρ Q R h => h [] H (Same.refl H) (by cases cl; exact VAs.nil; exact Reps.nil)⟩
theorem zS (ha : RE C .cl e ma) (hr : RArg C true es ms) (hs : autoParam (starEach (e :: es) C.X.env = (false, eval e C.X.env) :: starEach es C.X.env) zZ._auto_1) : RArg C true (e :: es) (aC ma ms) := by
 obtain ⟨t, p, q⟩ := ha
 obtain ⟨t', p', q'⟩ := hr
 refine ⟨_, yQ p p' hs, fun Oc Ob σ H ρ Q R h => q Oc Ob σ H ρ _ R (Res.zW (Res.zX h) (fun d _ k v H' s r => ?_) fun _ z => z)⟩
 refine q' Oc Ob σ H' ρ _ (R.same s) (Res.zW (Res.zX k) (fun ds _ k vs H2 s2 r2 => ?_) fun c z H2 s2 => z H2 (s.trans s2))
 exact k _ H2 (s.trans s2) (Reps.cons (r.same s2) r2)
theorem zQ (ha : RE C md e ma) (hr : RArg C false es ms) (hs : autoParam (starEach (e :: es) C.X.env = (false, eval e C.X.env) :: starEach es C.X.env) zZ._auto_1) : RArg C false (e :: es) (aC ma ms) := by
 obtain ⟨t, p, q⟩ := ha
 obtain ⟨t', p', q'⟩ := hr
 refine ⟨_, yQ p p' hs, fun Oc Ob σ H ρ Q R h => q Oc Ob σ H ρ _ R (Res.zW (Res.zX h) (fun d _ k v H' s r => ?_) fun _ z => z)⟩
 refine q' Oc Ob σ H' ρ _ (R.same s) (Res.zW (Res.zX k) (fun ds _ k vs H2 s2 r2 => ?_) fun c z H2 s2 => z H2 (s.trans s2))
 exact k _ H2 (s.trans s2) (VAs.cons ((r.va R.oh).same s2) r2)
def mkL (ds : List D) : Option D := if ds.length <= sizeLine then some (.list ds) else none
def mkT (ds : List D) : Option D := if ds.length <= sizeLine then some (.tuple ds) else none
def eB (f : List D -> Option D) (m : Ev -> Res (List D)) : Ev -> Res D := fun ρ => (m ρ).bind fun ds => Res.lft (f ds)
theorem xF {Oc : Wd} {Ob : Addr -> Prop} {H H1 : Hp} {p : Addr} {vs : List V} {ds : List D} (s : Same H H1) (hp : H1 p = none) (r : Reps H1 (Uni Oc Ob) vs ds) : VR .new Oc Ob H (upd H1 p (.lst vs)) (.ref p) (.list ds) :=
 ⟨p, vs, ds, rfl, rfl, s.free hp, zJ, r.keep (fun b o e _ => by rw [zM (yL e hp)]; exact e) fun b n z => z.elim id fun z => by subst z; exact absurd hp n⟩
theorem zJ1 {Oc : Wd} {Ob : Addr -> Prop} {H1 : Hp} {p : Addr} {vs : List V} {ds : List D} (oh : ∀ a, Oc a \/ Ob a -> H1 a ≠ none) (hp : H1 p = none) (r : Reps H1 (Uni Oc Ob) vs ds) : Rep (upd H1 p (.tup vs)) (Uni Oc Ob) (.ref p) (.tuple ds) :=
 .tup (.inl zJ) (fun z => oh p z hp) (r.same (Same.new hp))
theorem yE (h : RArg C true es ms) : RE C .new (.List es pos) (eB mkL ms) := by
 obtain ⟨t, p, q⟩ := h
 refine ⟨_, yB2 p, fun Oc Ob σ H ρ Q R h => q Oc Ob σ H ρ _ R (Res.zW (Res.zX h) (fun ds _ k vs H' s r => ?_) fun _ z => z)⟩
 obtain ⟨d, e, k⟩ := Res.zL k
 unfold mkL at e
 split at e
 ·rename_i hl
  cases e
  exact ⟨by rw [Reps.length r]; exact hl, fun p hp => k _ _ (s.trans (Same.new hp)) (xF s hp r)⟩
 ·cases e
def PrC (r : List V -> Hp -> VK -> Prop) (md : Md) (f : List D -> Option D) : Prop :=
 ∀ (Oc : Wd) (Ob : Addr -> Prop) (H : Hp) (vs : List V) (ds : List D) (d : D) (Q : VK), (∀ a, Oc a \/ Ob a -> H a ≠ none) -> VAs Oc Ob H vs ds -> f ds = some d -> (∀ v H', Same H H' -> VR md Oc Ob H H' v d -> Q v H') -> r vs H Q
theorem zX9 {t : TA} {r : List V -> Hp -> VK -> Prop} {f : List D -> Option D} (q : ∀ (Oc : Wd) (Ob : Addr -> Prop) (σ : St) (H : Hp) (ρ : Ev) (Q : List V -> Hp -> Prop), Rel Oc Ob C.om C.ln σ H ρ ->
  (ms ρ).post (fun ds => ∀ vs H', Same H H' -> VQ false Oc Ob H' vs ds -> Q vs H') (fun c => ∀ H', Same H H' -> C.XE c H') -> t σ H Q) (hp : PrC r md f)
  {Oc : Wd} {Ob : Addr -> Prop} {σ : St} {H : Hp} {ρ : Ev} {Q : VK} (R : Rel Oc Ob C.om C.ln σ H ρ) (h : (eB f ms ρ).post (fun d => ∀ v H', Same H H' -> VR md Oc Ob H H' v d -> Q v H') (fun c => ∀ H', Same H H' -> C.XE c H')) : tCB r t σ H Q := by
 refine q Oc Ob σ H ρ _ R (Res.zW (Res.zX h) (fun ds _ k vs H' s r => ?_) fun _ z => z)
 obtain ⟨d, e, k⟩ := Res.zL k
 exact hp Oc Ob H' vs ds d Q (R.same s).oh r e fun v H2 s2 r2 => k v H2 (s.trans s2) (r2.from s)
theorem zI {x : Str} {id : String} {r : List V -> Hp -> VK -> Prop} {f : List D -> Option D} (hc : CallR C.X (.builtin id) r) (hp : PrC r md f) (hm : C.X.mg x = none) (hv : bootBuiltins x = some (.builtin id)) (ha : RArg C false (e :: es) ms) (hg : autoParam (Gl C.X x) zZ._auto_1) (hn : autoParam (x ≠ "__name__") zO._auto_1) (hdb : autoParam ((x == ("__debug__" : Str)) = false) zO._auto_1)
  (he : autoParam (starEach (e :: es) C.X.env = (false, eval e C.X.env) :: starEach es C.X.env) zZ._auto_1) (hpl : autoParam ((backTo pos (starEach es C.X.env)).any (·.1) = false) zZ._auto_1) : RE C md (.Call (.Name x p) (e :: es) [] pos) (eB f ms) := by
 obtain ⟨t, pa, q⟩ := ha
 exact ⟨_, jO hc hg hm hv pa hn hdb he hpl, fun Oc Ob σ H ρ Q R h => zX9 q hp R h⟩
theorem yF {x : Str} {T : String} {r : List V -> Hp -> VK -> Prop} {f : List D -> Option D} (hc : CallR C.X (.type T) r) (hp : PrC r md f) (hm : C.X.mg x = none) (hv : bootBuiltins x = some (.type T)) (ha : RArg C false (e :: es) ms) (hg : autoParam (Gl C.X x) zZ._auto_1) (hn : autoParam (x ≠ "__name__") zO._auto_1) (hdb : autoParam ((x == ("__debug__" : Str)) = false) zO._auto_1)
  (he : autoParam (starEach (e :: es) C.X.env = (false, eval e C.X.env) :: starEach es C.X.env) zZ._auto_1) (hpl : autoParam ((backTo pos (starEach es C.X.env)).any (·.1) = false) zZ._auto_1) : RE C md (.Call (.Name x p) (e :: es) [] pos) (eB f ms) := by
 obtain ⟨t, pa, q⟩ := ha
 exact ⟨_, gL hc hg hm hv pa hn hdb he hpl, fun Oc Ob σ H ρ Q R h => zX9 q hp R h⟩
def Walks (Oc : Wd) (Ob : Addr -> Prop) (J : It) (H1 : Hp) (ds : List D) : Prop :=
 ∀ (H2 : Hp) (Ob2 : Addr -> Prop), Frm Ob H1 H2 -> (∀ b, Ob2 b -> Ob b \/ H1 b = none) -> ∀ i, (∀ d, ds[i]? = some d -> J.go i H2 /\ ∀ x H3, J.yld i H2 x H3 -> Same H2 H3 /\ Rep H3 (Uni Oc Ob2) x d) /\ (ds.length <= i -> J.stop i H2)
def RI (C : Ct) (tg iter : Expr) (m : Ev -> Res (List D)) : Prop :=
 ∃ wi, PI C.X tg iter wi /\ ∀ (Oc : Wd) (Ob : Addr -> Prop) (σ : St) (H : Hp) (ρ : Ev) (R : It -> Hp -> Prop), Rel Oc Ob C.om C.ln σ H ρ ->
  (m ρ).post (fun ds => ∀ J H1, Same H H1 -> Walks Oc Ob J H1 ds -> R J H1) (fun c => ∀ H', Same H H' -> C.XE c H') -> wi σ H R
def iSeq (K : KFr) (tl : TE) : TI := fun σ H R => tl σ H fun x H1 => ∃ a, x = .ref a /\ (((∃ xs, SqL K H1 a xs) /\ R (Itl K a) H1) \/ ((∃ xs, SqT K H1 a xs) /\ R (Itt K a) H1))
theorem yB8 {X : Cx} {tg l : Expr} {tl : TE} (hl : PE X l tl) : PI X tg l (iSeq X.K tl) := by
 intro pins s σ H R I h
 refine thn (hl pins s σ H _ I h) fun v s1 ⟨x, H1, I1, r1, q1⟩ => ?_
 obtain ⟨a, e, q1⟩ := q1
 subst e
 cases r1
 rcases q1 with ⟨⟨xs, hq⟩, q⟩ | ⟨⟨xs, hq⟩, q⟩
 ·obtain ⟨its, rv, p, hz⟩ := I1.list hq
  refine wpAny_pyIter_list p.isList ?_
  refine ⟨s1.heap.objs.size, [s1.heap.objs.size], _, _, H1, rfl, I1.kept (t' := s1.toks) fun b o e => Heap.get?_push_of_some _ e, yW4 a _, ⟨_, Heap.get?_push_size _ rfl, rfl, rfl⟩, fun b hb => ?_, q⟩
  have e : b = s1.heap.objs.size := by simpa using hb
  subst e
  exact I1.fpOk (Nat.le_refl _) (I1.hok.fresh (Nat.le_refl _))
 ·obtain ⟨its, rv, p, hz⟩ := I1.tuple hq
  refine wpAny_pyIter_tuple (show s1.heap.IsTuple a its.toArray from p) ?_
  refine ⟨s1.heap.objs.size, [s1.heap.objs.size], _, _, H1, rfl, I1.kept (t' := s1.toks) fun b o e => Heap.get?_push_of_some _ e, zE8 a _, ⟨_, Heap.get?_push_size _ rfl, rfl, rfl⟩, fun b hb => ?_, q⟩
  have e : b = s1.heap.objs.size := by simpa using hb
  subst e
  exact I1.fpOk (Nat.le_refl _) (I1.hok.fresh (Nat.le_refl _))
def seqD : D -> Option (List D)
 | .list ds => some ds
 | .tuple ds => some ds
 | _ => none
def iS (m : Ev -> Res D) : Ev -> Res (List D) := fun ρ => (m ρ).bind fun d => Res.lft (seqD d)
theorem Reps.step {Oc : Wd} {Ob Ob2 : Addr -> Prop} {H1 H2 : Hp} {vs : List V} {ds : List D} (r : Reps H1 (Uni Oc Ob) vs ds) (f : Frm Ob H1 H2) (s : ∀ b, Ob2 b -> Ob b \/ H1 b = none) : Reps H2 (Uni Oc Ob2) vs ds :=
 r.keep (fun b o e n => f b o e fun z => n (.inr z)) fun b n z => z.elim .inl fun z => (s b z).elim .inr fun q => absurd q n
end
theorem cK {K : KFr} {Oc : Wd} {Ob : Addr -> Prop} {H1 : Hp} {a : Addr} {ys : List V} {ds : List D} (r : Rd H1 a (.lst ys)) (n : ¬ Ob a) (rs : Reps H1 (Uni Oc Ob) ys ds) : Walks Oc Ob (Itl K a) H1 ds := by
 intro H2 Ob2 f s i
 have r2 : Rd H2 a (.lst ys) := dX r fun o e => f a o e n
 have rs2 := rs.step f s
 refine ⟨fun d e => ?_, fun h => ⟨ys, .inl r2, by rw [rs2.length]; exact h⟩⟩
 obtain ⟨v, ev, rv⟩ := rs2.get e
 refine ⟨⟨ys, v, .inl r2, ev⟩, fun x H3 hy => ?_⟩
 obtain ⟨rfl, hy⟩ := hy
 have := hy ys (.inl r2)
 rw [ev] at this
 cases this
 exact ⟨Same.refl _, rv⟩
theorem zL1 {K : KFr} {Oc : Wd} {Ob : Addr -> Prop} {H1 : Hp} {a : Addr} {ys : List V} {ds : List D} (r : Rd H1 a (.tup ys)) (n : ¬ Ob a) (rs : Reps H1 (Uni Oc Ob) ys ds) : Walks Oc Ob (Itt K a) H1 ds := by
 intro H2 Ob2 f s i
 have r2 : Rd H2 a (.tup ys) := dX r fun o e => f a o e n
 have rs2 := rs.step f s
 refine ⟨fun d e => ?_, fun h => ⟨ys, .inl r2, by rw [rs2.length]; exact h⟩⟩
 obtain ⟨v, ev, rv⟩ := rs2.get e
 refine ⟨⟨ys, v, .inl r2, ev⟩, fun x H3 hy => ?_⟩
 obtain ⟨rfl, hy⟩ := hy
 have := hy ys (.inl r2)
 rw [ev] at this
 cases this
 exact ⟨Same.refl _, rv⟩
theorem zN5 {Oc : Wd} {Ob : Addr -> Prop} {H1 : Hp} {lo : Int} {n : Nat} {ds : List D} (e : ds = (List.range n).map fun (i : Nat) => PyData.int (lo + (i : Int))) : Walks Oc Ob (Itr lo n) H1 ds := by
 intro H2 Ob2 f s i
 subst e
 refine ⟨fun d e => ?_, fun h => by show n <= i; simpa using h⟩
 rw [List.getElem?_map] at e
 by_cases hi : i < n
 ·rw [List.getElem?_range hi] at e
  cases e
  refine ⟨hi, fun x H3 hy => ?_⟩
  obtain ⟨rfl, rfl⟩ := hy
  exact ⟨Same.refl _, .int _⟩
 ·rw [List.getElem?_eq_none (by simpa using hi)] at e
  cases e
section
variable {C : Ct} {a b c e : Expr} {es : List Expr} {pos p : Pos} {md mda mdb mdc : Md} {ma mb mc : Ev -> Res D} {ms : Ev -> Res (List D)} {cl : Bool} {tg : Expr}
theorem xR (h : RE C .rd e ma) : RI C tg e (iS ma) := by
 obtain ⟨t, p, q⟩ := h
 refine ⟨_, yB8 p, fun Oc Ob σ H ρ W R h => q Oc Ob σ H ρ _ R (Res.zW (Res.zX h) (fun d _ k v H' s r => ?_) fun _ z => z)⟩
 obtain ⟨ds, e, k⟩ := Res.zL k
 rcases r with r | ⟨a, ys, ds', rfl, rfl, e3, e4, e5⟩
 ·cases r with
  | lst r n t => cases e; exact ⟨_, rfl, .inl ⟨⟨_, .inl r⟩, k _ H' s (cK r (fun z => n (.inr z)) t)⟩⟩
  | tup r n t => cases e; exact ⟨_, rfl, .inr ⟨⟨_, .inl r⟩, k _ H' s (zL1 r (fun z => n (.inr z)) t)⟩⟩
  | _ => cases e
 ·cases e
  exact ⟨_, rfl, .inl ⟨⟨_, SqL.of e3⟩, k _ H' s (cK (.inl e3) e4 e5)⟩⟩
def rng1 : List D -> Option (List D)
 | [.int j] => if -(2 ^ 62) <= j /\ j < 2 ^ 62 then some ((List.range j.toNat).map fun (i : Nat) => PyData.int (i : Int)) else none
 | _ => none
def iR (f : List D -> Option (List D)) (m : Ev -> Res (List D)) : Ev -> Res (List D) := fun ρ => (m ρ).bind fun ds => Res.lft (f ds)
theorem VAs.one {Oc : Wd} {Ob : Addr -> Prop} {H : Hp} {vs : List V} {d : D} (h : VAs Oc Ob H vs [d]) : ∃ v, vs = [v] /\ VA Oc Ob H v d := by
 cases h with
 | cons a t => cases t; exact ⟨_, rfl, a⟩
theorem uE (hm : C.X.mg "range" = none) (ha : RArg C false [a] ms) (hg : autoParam (Gl C.X "range") zZ._auto_1) (hs : autoParam (starEach [a] C.X.env = [(false, eval a C.X.env)]) zZ._auto_1) : RI C tg (.Call (.Name "range" p) [a] [] pos) (iR rng1 ms) := by
 obtain ⟨t, pa, q⟩ := ha
 refine ⟨_, yY6 hg hm pa hs, fun Oc Ob σ H ρ W R h => q Oc Ob σ H ρ _ R (Res.zW (Res.zX h) (fun ds _ k vs H' s r => ?_) fun _ z => z)⟩
 obtain ⟨xs, e, k⟩ := Res.zL k
 unfold rng1 at e
 split at e
 ·split at e
  ·rename_i hb
   cases e
   obtain ⟨v, rfl, va⟩ := VAs.one r
   obtain rfl := va.int
   exact ⟨_, rfl, hb.1, hb.2, k _ H' s (zN5 (by simp))⟩
  ·cases e
 ·cases e
end
def cEnv (ρ : Ev) (js : List Nat) (x : D) : Ev := some x :: js.map fun j => (ρ[j]?).join
def capt (js l : List Nat) : List Nat := ((List.range js.length).filter fun i => l.contains (js.getD i 0)).map (· + 1)
def noEx {α : Type} : Res α -> Res α
 | .ok a => .ok a
 | _ => .no
theorem zK6 {α : Type} {r : Res α} {a : α} (h : noEx r = .ok a) : r = .ok a := by
 cases r with
 | ok b => exact h
 | ex c => cases h
 | no => cases h
def compM (t : D -> Res Bool) (f : D -> Res D) : List D -> Res (List D)
 | [] => .ok []
 | x :: xs => (noEx (t x)).bind fun b => if b then (noEx (f x)).bind fun y => (compM t f xs).bind fun ys => .ok (y :: ys) else compM t f xs
def eComp (mi : Ev -> Res (List D)) (mt : Ev -> Res Bool) (me : Ev -> Res D) (js : List Nat) : Ev -> Res D := fun ρ => (mi ρ).bind fun ds => if ds.length <= sizeLine then (compM (fun x => mt (cEnv ρ js x)) (fun x => me (cEnv ρ js x)) ds).bind fun out => .ok (.list out) else .no
theorem yS1 {js l : List Nat} {i : Nat} (h : i ∈ capt js l) : ∃ k, i = k + 1 /\ k < js.length /\ js.getD k 0 ∈ l := by
 unfold capt at h
 obtain ⟨k, hk, rfl⟩ := List.mem_map.mp h
 obtain ⟨h1, h2⟩ := List.mem_filter.mp hk
 exact ⟨k, rfl, List.mem_range.mp h1, List.contains_iff_mem.mp h2⟩
theorem zQ5 {js l : List Nat} {k j : Nat} (h : js[k]? = some j) (hl : j ∈ l) : k + 1 ∈ capt js l := by
 unfold capt
 refine List.mem_map.mpr ⟨k, List.mem_filter.mpr ⟨List.mem_range.mpr ?_, ?_⟩, rfl⟩
 ·exact (List.getElem?_eq_some_iff.mp h).1
 ·rw [List.getD_eq_getElem?_getD, h]
  exact List.contains_iff_mem.mpr hl
theorem zY4 {ρ : Ev} {js : List Nat} {x d : D} {k : Nat} (h : (cEnv ρ js x)[k + 1]? = some (some d)) : ∃ j, js[k]? = some j /\ ρ[j]? = some (some d) := by
 unfold cEnv at h
 rw [List.getElem?_cons_succ, List.getElem?_map] at h
 cases e : js[k]? with
 | none => rw [e] at h; cases h
 | some j =>
  rw [e] at h
  refine ⟨j, rfl, ?_⟩
  have h : (ρ[j]?).join = some d := Option.some.inj h
  cases q : ρ[j]? with
  | none => rw [q] at h; cases h
  | some z => rw [q] at h; rw [show z = some d from h]
theorem vK {σ : St} {js : List Nat} {v0 : Option V} {v : V} {k j : Nat} (h : js[k]? = some j) (e : σ[j]? = some (some v)) : (compSt σ js v0)[k + 1]? = some (some v) := by
 unfold compSt
 rw [List.getElem?_cons_succ, List.getElem?_map, h]
 show some ((σ[j]?).join) = _
 rw [e]
 rfl
def adr : Option (Option V) -> Addr
 | some (some (.ref a)) => a
 | _ => 0
def cW (Oc : Wd) (Ob : Addr -> Prop) (σ : St) (js : List Nat) : Wd := ⟨Uni Oc Ob, fun i => adr ((compSt σ js none)[i]?)⟩
theorem Rel.comp {Oc : Wd} {Ob : Addr -> Prop} {om ln : List Nat} {σ : St} {H : Hp} {ρ : Ev} {js : List Nat} {x : V} {d : D} (R : Rel Oc Ob om ln σ H ρ) (r : Rep H (Uni Oc Ob) x d) : Rel (cW Oc Ob σ js) (fun _ => False) [] (capt js (om ++ ln)) (compSt σ js (some x)) H (cEnv ρ js d) where
 len := by unfold compSt cEnv; simp
 val := fun i d' e _ hl => by
  cases i with
  | zero =>
   cases e
   exact ⟨x, rfl, r.less fun b z => z.elim id fun z => z.elim⟩
  | succ k =>
   obtain ⟨j, e1, e2⟩ := zY4 e
   have h1 : j ∉ om := fun z => hl (zQ5 e1 (List.mem_append_left _ z))
   have h2 : j ∉ ln := fun z => hl (zQ5 e1 (List.mem_append_right _ z))
   obtain ⟨v, q, rv⟩ := R.val j d' e2 h1 h2
   exact ⟨v, vK e1 q, rv.less fun b z => z.elim id fun z => z.elim⟩
 own := fun i d' e h => nomatch h
 lnt := fun i d' e _ hl => by
  obtain ⟨k, rfl, hk, hj⟩ := yS1 hl
  obtain ⟨j, e1, e2⟩ := zY4 e
  rw [List.getD_eq_getElem?_getD, e1, Option.getD_some] at hj
  by_cases ho : j ∈ om
  ·obtain ⟨v, q, a, ys, ds, z1, z2, z3, z4, z5⟩ := R.own j d' e2 ho
   have ea : (cW Oc Ob σ js).la (k + 1) = a := by show adr _ = a; rw [vK e1 q, z1]; rfl
   exact ⟨v, vK e1 q, ys, ds, by rw [ea]; exact z1, z2, by rw [ea]; exact z3, by rw [ea]; exact .inr z4, z5.less fun b z => z.elim id fun z => z.elim⟩
  ·have hl2 : j ∈ ln := (List.mem_append.mp hj).elim (fun z => absurd z ho) id
   obtain ⟨v, q, ys, ds, z1, z2, z3, z4, z5⟩ := R.lnt j d' e2 ho hl2
   have ea : (cW Oc Ob σ js).la (k + 1) = Oc.la j := by show adr _ = _; rw [vK e1 q, z1]; rfl
   exact ⟨v, vK e1 q, ys, ds, by rw [ea]; exact z1, z2, by rw [ea]; exact z3, by rw [ea]; exact .inl z4, z5.less fun b z => z.elim id fun z => z.elim⟩
 inj := fun i j di dj a _ _ h => nomatch h
 oh := fun a z => R.oh a (z.elim id fun z => z.elim)
 ap := fun a z => z.elim
abbrev cC (C : Ct) (N : List Str) (scope : Scope) (A : Addr) (fp : List Addr) (s₂ : Shared) (H : Hp) (js : List Nat) : Ct := ⟨cxComp C.X N scope A fp s₂ H, fun _ _ => False, [], capt js (C.om ++ C.ln)⟩
def RTs (C : Ct) (ifs : List Expr) (m : Ev -> Res Bool) : Prop := ∃ t, PTs C.X ifs t /\ ∀ (Oc : Wd) (Ob : Addr -> Prop) (σ : St) (H : Hp) (ρ : Ev) (Q : Bool -> Hp -> Prop), Rel Oc Ob C.om C.ln σ H ρ ->
  (m ρ).post (fun b => ∀ H', Same H H' -> Q b H') (fun c => ∀ H', Same H H' -> C.XE c H') -> t σ H Q
def tYes : Ev -> Res Bool := fun _ => .ok true
theorem vX {C : Ct} : RTs C [] tYes := ⟨_, .nil, fun Oc Ob σ H ρ Q R h => h H (Same.refl H)⟩
def WalksS (Oc : Wd) (Ob : Addr -> Prop) (J : It) (H1 : Hp) (ds : List D) : Prop :=
 ∀ (H2 : Hp), Same H1 H2 -> ∀ i, (∀ d, ds[i]? = some d -> J.go i H2 /\ ∀ x H3, J.yld i H2 x H3 -> Same H2 H3 /\ Rep H3 (Uni Oc Ob) x d) /\ (ds.length <= i -> J.stop i H2)
def RIc (C : Ct) (tg iter : Expr) (m : Ev -> Res (List D)) : Prop :=
 ∃ wi, PI C.X tg iter wi /\ ∀ (Oc : Wd) (Ob : Addr -> Prop) (σ : St) (H : Hp) (ρ : Ev) (R : It -> Hp -> Prop), Rel Oc Ob C.om C.ln σ H ρ ->
  (m ρ).post (fun ds => ∀ J H1, Same H H1 -> WalksS Oc Ob J H1 ds -> R J H1) (fun c => ∀ H', Same H H' -> C.XE c H') -> wi σ H R
theorem RI.c {C : Ct} {tg iter : Expr} {m : Ev -> Res (List D)} (h : RI C tg iter m) : RIc C tg iter m := by
 obtain ⟨wi, p, q⟩ := h
 exact ⟨wi, p, fun Oc Ob σ H ρ W R h => q Oc Ob σ H ρ W R (Res.zW h (fun ds _ k J H1 s w => k J H1 s fun H2 s2 => w H2 Ob (Same.frm s2) fun b z => .inl z) fun _ z => z)⟩
theorem zX1 {C : Ct} {elt : Expr} {ifs : List Expr} {scope : Scope} {N : List Str} {js : List Nat} {mi : Ev -> Res (List D)} {mt : Ev -> Res Bool} {me : Ev -> Res D} {wi : TI}
  (qi : ∀ (Oc : Wd) (Ob : Addr -> Prop) (σ : St) (H : Hp) (ρ : Ev) (R : It -> Hp -> Prop), Rel Oc Ob C.om C.ln σ H ρ -> (mi ρ).post (fun ds => ∀ J H1, Same H H1 -> WalksS Oc Ob J H1 ds -> R J H1) (fun c => ∀ H', Same H H' -> C.XE c H') -> wi σ H R)
  (ht : ∀ A fp s₂ H, RTs (cC C N scope A fp s₂ H js) ifs mt) (he : ∀ A fp s₂ H, RE (cC C N scope A fp s₂ H js) .cl elt me)
  {Oc : Wd} {Ob : Addr -> Prop} {σ : St} {H : Hp} {ρ : Ev} {Q : VK} (R : Rel Oc Ob C.om C.ln σ H ρ) (h : (eComp mi mt me js ρ).post (fun d => ∀ v H', Same H H' -> VR .new Oc Ob H H' v d -> Q v H') (fun c => ∀ H', Same H H' -> C.XE c H')) :
  tComp wi (fun A fp s H => Classical.choose (ht A fp s H)) (fun A fp s H => Classical.choose (he A fp s H)) js σ H Q := by
 refine qi Oc Ob σ H ρ _ R (Res.zW (Res.zX h) (fun ds _ k J H1 s1 wk => ?_) fun _ z => z)
 intro A fp s₂ H₂
 have qt := (Classical.choose_spec (ht A fp s₂ H₂)).2
 have qe := (Classical.choose_spec (he A fp s₂ H₂)).2
 have k : (if ds.length <= sizeLine then (compM (fun x => mt (cEnv ρ js x)) (fun x => me (cEnv ρ js x)) ds).bind fun out => Res.ok (PyData.list out) else .no).post (fun d => ∀ v H', Same H H' -> VR .new Oc Ob H H' v d -> Q v H') (fun c => ∀ H', Same H H' -> C.XE c H') := k
 by_cases hlen : ds.length <= sizeLine
 ·rw [if_pos hlen] at k
  generalize hT : (fun x => mt (cEnv ρ js x)) = T at k
  generalize hF : (fun x => me (cEnv ρ js x)) = F at k
  cases ec : compM T F ds with
  | no => rw [ec] at k; exact k.elim
  | ex c =>
   exfalso
   have nex : ∀ xs c, compM T F xs ≠ .ex c := by
    intro xs
    induction xs with
    | nil => intro c z; cases z
    | cons x xs ih =>
     intro c z
     rw [compM] at z
     cases e1 : noEx (T x) with
     | no => rw [e1] at z; cases z
     | ex c' => cases hx : T x <;> rw [hx] at e1 <;> cases e1
     | ok b =>
      rw [e1, Res.bind_ok] at z
      cases b with
      | false => exact ih c z
      | true =>
       simp only [if_true] at z
       cases e2 : noEx (F x) with
       | no => rw [e2] at z; cases z
       | ex c' => cases hx : F x <;> rw [hx] at e2 <;> cases e2
       | ok y =>
        rw [e2, Res.bind_ok] at z
        cases e3 : compM T F xs with
        | no => rw [e3] at z; cases z
        | ex c' => exact ih c' e3
        | ok ys => rw [e3] at z; cases z
   exact nex ds c ec
  | ok out =>
   rw [ec, Res.bind_ok] at k
   refine ⟨fun i m acc H => m = ds.length - i /\ i <= ds.length /\ Same H1 H /\ ∃ done rest, Reps H (Uni Oc Ob) acc done /\ acc.length <= i /\ compM T F (ds.drop i) = .ok rest /\ done ++ rest = out, ⟨_, rfl, Nat.zero_le _, Same.refl _, [], out, .nil, Nat.le_refl _, ec, rfl⟩, ?_⟩
   rintro i m acc H2 ⟨rfl, hi, s2, done, rest, ra, la, er, eo⟩
   obtain ⟨w1, w2⟩ := wk H2 s2 i
   have R2 := (R.same s1).same s2
   by_cases hlt : i < ds.length
   ·obtain ⟨go, yl⟩ := w1 ds[i] (List.getElem?_eq_getElem hlt)
    have ed : ds.drop i = ds[i] :: ds.drop (i + 1) := List.drop_eq_getElem_cons hlt
    rw [ed, compM] at er
    have nxt : ∀ (acc' : List V) (H3 : Hp) (done' rest' : List D), Same H2 H3 -> Reps H3 (Uni Oc Ob) acc' done' -> acc'.length <= i + 1 -> compM T F (ds.drop (i + 1)) = .ok rest' -> done' ++ rest' = out ->
      ∃ m', m' < ds.length - i /\ (m' = ds.length - (i + 1) /\ i + 1 <= ds.length /\ Same H1 H3 /\ ∃ done rest, Reps H3 (Uni Oc Ob) acc' done /\ acc'.length <= i + 1 /\ compM T F (ds.drop (i + 1)) = .ok rest /\ done ++ rest = out) :=
     fun acc' H3 done' rest' s3 r3 l3 c3 o3 => ⟨_, by bv_omega, rfl, hlt, s2.trans s3, done', rest', r3, l3, c3, o3⟩
    refine .inr ⟨go, fun acc' H' => ∃ m', m' < ds.length - i /\ (m' = ds.length - (i + 1) /\ i + 1 <= ds.length /\ Same H1 H' /\ ∃ done rest, Reps H' (Uni Oc Ob) acc' done /\ acc'.length <= i + 1 /\ compM T F (ds.drop (i + 1)) = .ok rest /\ done ++ rest = out), fun acc' H' z => z, fun x H3 hy => ?_⟩
    obtain ⟨s3, rx⟩ := yl x H3 hy
    have R3 := (R2.same s3).comp (js := js) rx
    cases e1 : noEx (T ds[i]) with
    | no => rw [e1] at er; cases er
    | ex c => rw [e1] at er; cases er
    | ok b =>
     rw [e1, Res.bind_ok] at er
     have t1 : mt (cEnv ρ js ds[i]) = .ok b := by
      have t1 := zK6 e1
      rw [<- hT] at t1
      exact t1
     refine qt _ _ _ H3 _ _ R3 ?_
     show (mt (cEnv ρ js ds[i])).post _ _
     rw [t1]
     intro H4 s4
     cases b with
     | false => exact iteF (nxt acc H4 done rest (s3.trans s4) (ra.same (s3.trans s4)) (by bv_omega) er eo)
     | true =>
      refine iteT ?_
      simp only [if_true] at er
      cases e2 : noEx (F ds[i]) with
      | no => rw [e2] at er; cases er
      | ex c => rw [e2] at er; cases er
      | ok y =>
       rw [e2, Res.bind_ok] at er
       have t2 : me (cEnv ρ js ds[i]) = .ok y := by
        have t2 := zK6 e2
        rw [<- hF] at t2
        exact t2
       refine qe _ _ _ H4 _ _ (R3.same s4) ?_
       show (me (cEnv ρ js ds[i])).post _ _
       rw [t2]
       intro v H5 s5 rv
       refine ⟨by bv_omega, ?_⟩
       obtain ⟨ys, e3⟩ : ∃ ys, compM T F (ds.drop (i + 1)) = .ok ys := by
        cases e3 : compM T F (ds.drop (i + 1)) with
        | no => rw [e3] at er; cases er
        | ex c => rw [e3] at er; cases er
        | ok ys => exact ⟨ys, rfl⟩
       rw [e3, Res.bind_ok] at er
       cases er
       have rv' : Rep H5 (Uni Oc Ob) v y := Rep.less rv fun b z => .inl z
       refine nxt (acc ++ [v]) H5 (done ++ [y]) ys ((s3.trans s4).trans s5) ((ra.same ((s3.trans s4).trans s5)).append (.one rv')) (by rw [List.length_append, List.length_singleton]; bv_omega) e3 ?_
       rw [List.append_assoc]
       exact eo
   ·have ei : i = ds.length := by bv_omega
    subst ei
    refine .inl ⟨w2 (Nat.le_refl _), fun p hp => ?_⟩
    rw [List.drop_length] at er
    cases er
    rw [List.append_nil] at eo
    subst eo
    exact k _ _ ((s1.trans s2).trans (Same.new hp)) (xF (s1.trans s2) hp ra)
 ·rw [if_neg hlen] at k
  exact k.elim
theorem qI {C : Ct} {elt iter : Expr} {ifs : List Expr} {sc0 scope : Scope} {N0 : List Str} {px pos : Pos} {xt : Str} {fs : List Str} {js : List Nat} {mi : Ev -> Res (List D)} {mt : Ev -> Res Bool} {me : Ev -> Res D} (S : CompScope sc0 scope N0 xt fs js) (h0 : C.X.env.scope = sc0) (hN0 : C.X.N = N0) (hc : C.X.calm = true)
  (hi : RIc C (.Name xt px) iter mi) (ht : ∀ A fp s₂ H, RTs (cC C (xt :: fs) scope A fp s₂ H js) ifs mt) (he : ∀ A fp s₂ H, RE (cC C (xt :: fs) scope A fp s₂ H js) .cl elt me)
  (hs : autoParam (∀ x, foldedSetIterable iter C.X.env x = pure x) xG._auto_1) :
  RE C .new (.ListComp elt [⟨.Name xt px, iter, ifs, 0⟩] scope pos) (eComp mi mt me js) := by
 obtain ⟨wi, pi, qi⟩ := hi
 refine ⟨_, yL4 (tt := fun A fp s H => Classical.choose (ht A fp s H)) (te := fun A fp s H => Classical.choose (he A fp s H)) S h0 hN0 hc pi (fun A fp s H => (Classical.choose_spec (ht A fp s H)).1) (fun A fp s H => (Classical.choose_spec (he A fp s H)).1) hs, fun Oc Ob σ H ρ Q R h => zX1 qi ht he R h⟩
section
variable {C : Ct} {fr : Bool} {e c : Expr} {pos : Pos} {md : Md} {me : Ev -> Res D} {mt : Ev -> Res Bool} {st : Stmt} {sts rest : List Stmt} {m n : Ev -> Res Out}
def sN : Ev -> Res Out := fun ρ => .ok (.nx ρ)
def sQ (m n : Ev -> Res Out) : Ev -> Res Out := fun ρ => (m ρ).bind fun o => match o with
 | .nx ρ' => n ρ'
 | .rt d => .ok (.rt d)
theorem zC : RSs C fr [] sN := ⟨_, yH5, fun Oc Ob σ H ρ E R h => h σ H Ob R (Same.frm (Same.refl H)) fun b z => .inl z⟩
theorem zR (h : RS C fr st m) : RSs C fr [st] m := by
 obtain ⟨t, p, q⟩ := h
 exact ⟨_, fE p, q⟩
theorem zV (h : RS C fr st m) (hr : RSs C fr rest n) : RSs C fr (st :: rest) (sQ m n) := by
 obtain ⟨t, p, q⟩ := h
 obtain ⟨t', p', q'⟩ := hr
 refine ⟨_, cN p p', fun Oc Ob σ H ρ E R h => q Oc Ob σ H ρ _ R (Res.zW (Res.zX h) (fun o _ k => ?_) fun _ z => z)⟩
 cases o with
 | rt d => exact k
 | nx ρ' => exact fun σ' H' Ob' R' f s => q' Oc Ob' σ' H' ρ' E R' (SPost.step f s k)
def sX : Ev -> Res Out := fun _ => .no
def sIf (t : Ev -> Res Bool) (m n : Ev -> Res Out) : Ev -> Res Out := fun ρ => (t ρ).bind fun b => if b then m ρ else n ρ
theorem yP {x y : List Stmt} (hc : RT C c mt) (hx : RSs C fr x m) (hy : RSs C fr y n) : RS C fr (.If c x y pos) (sIf mt m n) := by
 obtain ⟨t, p, q⟩ := hc
 obtain ⟨t1, p1, q1⟩ := hx
 obtain ⟨t2, p2, q2⟩ := hy
 refine ⟨_, xW4 p p1 p2, fun Oc Ob σ H ρ E R h => q Oc Ob σ H ρ _ R (Res.zW (Res.zX h) (fun b _ k H' s => ?_) fun c z H' s => z H' (Same.frm s))⟩
 cases b with
 | true => exact iteT (q1 Oc Ob σ H' ρ E (R.same s) (SPost.same s k))
 | false => exact iteF (q2 Oc Ob σ H' ρ E (R.same s) (SPost.same s k))
def sR (m : Ev -> Res D) : Ev -> Res Out := fun ρ => (m ρ).bind fun d => .ok (.rt d)
theorem zG (he : RE C .cl e me) : RS C false (.Return (some e) pos) (sR me) := by
 obtain ⟨t, p, q⟩ := he
 refine ⟨_, zA8 p, fun Oc Ob σ H ρ E R h => q Oc Ob σ H ρ _ R (Res.zW (Res.zX h) (fun d _ k v H' s r => ?_) fun c z H' s => z H' (Same.frm s))⟩
 exact k v H' (Same.frm s) (Rep.less r fun b z => .inl z)
theorem zK5 (i : Nat) {x : Str} {p' : Pos} (hN : autoParam (C.X.N[i]? = some x) zZ._auto_1) (ho : autoParam (C.om.contains i = true) zZ._auto_1) (hv : autoParam (Vis C.X.env.scope x) qP._auto_1) (hd : autoParam ((x == ("__debug__" : Str)) = false) zO._auto_1)
  (hcd : autoParam ((x == ("__classdict__" : Str)) = false) zO._auto_1) : RS C true (.Return (some (.Name x p')) pos) (sR (eV i)) := by
 refine ⟨_, zA8 (uD hN hv hd hcd), fun Oc Ob σ H ρ E R h => ?_⟩
 obtain ⟨d, e, k⟩ := vA (Res.zX h)
 obtain ⟨v, q, a, ys, ds, e1, e2, e3, e4, e5⟩ := R.own i d e (vZ ho)
 exact ⟨v, q, k v H (Same.frm (Same.refl H)) ⟨a, ys, ds, e1, e2, .inr e4, R.ap a e4, e3, e5.less fun b z => z.elim .inl fun z => .inr (by subst z; exact e4)⟩⟩
theorem yS {α : Type} {l : List (Option α)} {i j : Nat} {v d : α} (h : (l.set i (some v))[j]? = some (some d)) : (j = i /\ d = v) \/ (j ≠ i /\ l[j]? = some (some d)) := by
 by_cases e : i = j
 ·subst e
  rw [List.getElem?_set_self'] at h
  cases q : l[i]? with
  | none => rw [q] at h; cases h
  | some z => rw [q] at h; cases h; exact .inl ⟨rfl, rfl⟩
 ·rw [List.getElem?_set_ne e] at h
  exact .inr ⟨fun z => e z.symm, h⟩
theorem bG {α : Type} {l : List (Option α)} {i j : Nat} {v d : α} (h : (l.set i (some v))[j]? = some (some d)) : j < l.length := by
 have := (List.getElem?_eq_some_iff.mp h).1
 simpa using this
theorem Rel.set {Oc : Wd} {Ob : Addr -> Prop} {om ln : List Nat} {σ : St} {H : Hp} {ρ : Ev} {i : Nat} {v : V} {d : D} (R : Rel Oc Ob om ln σ H ρ) (ho : i ∉ om) (hl : i ∉ ln) (r : Rep H (Uni Oc Ob) v d) : Rel Oc Ob om ln (σ.set i (some v)) H (ρ.set i (some d)) where
 len := by rw [List.length_set, List.length_set]; exact R.len
 val := fun j d' e h1 h2 => by
  have hj := bG e
  rcases yS e with ⟨rfl, rfl⟩ | ⟨ne, e⟩
  ·exact ⟨v, by rw [List.getElem?_set_self (by rw [R.len]; exact hj)], r⟩
  ·obtain ⟨w, q, k⟩ := R.val j d' e h1 h2
   exact ⟨w, by rw [List.getElem?_set_ne (fun z => ne z.symm)]; exact q, k⟩
 own := fun j d' e h1 => by
  rcases yS e with ⟨rfl, rfl⟩ | ⟨ne, e⟩
  ·exact absurd h1 ho
  ·obtain ⟨w, q, k⟩ := R.own j d' e h1
   exact ⟨w, by rw [List.getElem?_set_ne (fun z => ne z.symm)]; exact q, k⟩
 lnt := fun j d' e h1 h2 => by
  rcases yS e with ⟨rfl, rfl⟩ | ⟨ne, e⟩
  ·exact absurd h2 hl
  ·obtain ⟨w, q, k⟩ := R.lnt j d' e h1 h2
   exact ⟨w, by rw [List.getElem?_set_ne (fun z => ne z.symm)]; exact q, k⟩
 inj := fun j k dj dk a ej ek hj hk qj qk => by
  rcases yS ej with ⟨rfl, rfl⟩ | ⟨nj, ej⟩
  ·exact absurd hj ho
  ·rcases yS ek with ⟨rfl, rfl⟩ | ⟨nk, ek⟩
   ·exact absurd hk ho
   ·rw [List.getElem?_set_ne (fun z => nj z.symm)] at qj
    rw [List.getElem?_set_ne (fun z => nk z.symm)] at qk
    exact R.inj j k dj dk a ej ek hj hk qj qk
 oh := R.oh
 ap := R.ap
theorem Rel.setO {Oc : Wd} {Ob : Addr -> Prop} {om ln : List Nat} {σ : St} {H H' : Hp} {ρ : Ev} {i : Nat} {v : V} {d : D} (R : Rel Oc Ob om ln σ H ρ) (s : Same H H') (ho : i ∈ om) (r : VR .new Oc Ob H H' v d) : ∃ a, H a = none /\ Rel Oc (fun b => Ob b \/ b = a) om ln (σ.set i (some v)) H' (ρ.set i (some d)) := by
 obtain ⟨a, ys, ds, rfl, rfl, e3, e4, e5⟩ := r
 have up : ∀ {vs : List V} {es : List D}, Reps H (Uni Oc Ob) vs es -> Reps H' (Uni Oc fun b => Ob b \/ b = a) vs es := fun r => r.keep (fun b o e _ => s b o e) fun b n z => z.elim .inl fun z => z.elim .inr fun z => by subst z; exact absurd e3 n
 have up1 : ∀ {v : V} {e : D}, Rep H (Uni Oc Ob) v e -> Rep H' (Uni Oc fun b => Ob b \/ b = a) v e := fun r => r.keep (fun b o e _ => s b o e) fun b n z => z.elim .inl fun z => z.elim .inr fun z => by subst z; exact absurd e3 n
 refine ⟨a, e3, ?_, fun j d' e h1 h2 => ?_, fun j d' e h1 => ?_, fun j d' e h1 h2 => ?_, fun j k dj dk b ej ek hj hk qj qk => ?_, fun b z => ?_, fun b z => ?_⟩
 ·rw [List.length_set, List.length_set]; exact R.len
 ·rcases yS e with ⟨rfl, rfl⟩ | ⟨ne, e⟩
  ·exact absurd ho h1
  ·obtain ⟨w, q, k⟩ := R.val j d' e h1 h2
   exact ⟨w, by rw [List.getElem?_set_ne (fun z => ne z.symm)]; exact q, up1 k⟩
 ·have hj := bG e
  rcases yS e with ⟨rfl, rfl⟩ | ⟨ne, e⟩
  ·refine ⟨.ref a, by rw [List.getElem?_set_self (by rw [R.len]; exact hj)], a, ys, ds, rfl, rfl, e4, .inr rfl, e5.less fun b z => z.elim (fun z => .inl (.inl z)) fun z => z.elim (fun z => .inl (.inr z)) .inr⟩
  ·obtain ⟨w, q, b, zs, fs, z1, z2, z3, z4, z5⟩ := R.own j d' e h1
   exact ⟨w, by rw [List.getElem?_set_ne (fun z => ne z.symm)]; exact q, b, zs, fs, z1, z2, s _ _ z3, .inl z4, up z5⟩
 ·rcases yS e with ⟨rfl, rfl⟩ | ⟨ne, e⟩
  ·exact absurd ho h1
  ·obtain ⟨w, q, zs, fs, z1, z2, z3, z4, z5⟩ := R.lnt j d' e h1 h2
   exact ⟨w, by rw [List.getElem?_set_ne (fun z => ne z.symm)]; exact q, zs, fs, z1, z2, s _ _ z3, z4, up z5⟩
 ·have lj := bG ej
  have lk := bG ek
  rcases yS ej with ⟨rfl, rfl⟩ | ⟨nj, ej'⟩
  ·rw [List.getElem?_set_self (by rw [R.len]; exact lj)] at qj
   cases qj
   rcases yS ek with ⟨rfl, rfl⟩ | ⟨nk, ek'⟩
   ·rfl
   ·rw [List.getElem?_set_ne (fun z => nk z.symm)] at qk
    obtain ⟨w, q, b, zs, fs, z1, z2, z3, z4, z5⟩ := R.own k dk ek' hk
    rw [qk] at q
    cases q
    cases z1
    rw [e3] at z3
    cases z3
  ·rw [List.getElem?_set_ne (fun z => nj z.symm)] at qj
   rcases yS ek with ⟨rfl, rfl⟩ | ⟨nk, ek'⟩
   ·rw [List.getElem?_set_self (by rw [R.len]; exact lk)] at qk
    cases qk
    obtain ⟨w, q, b, zs, fs, z1, z2, z3, z4, z5⟩ := R.own j dj ej' hj
    rw [qj] at q
    cases q
    cases z1
    rw [e3] at z3
    cases z3
   ·rw [List.getElem?_set_ne (fun z => nk z.symm)] at qk
    exact R.inj j k dj dk b ej' ek' hj hk qj qk
 ·rcases z with z | z | rfl
  ·exact Same.ne s (R.oh b (.inl z))
  ·exact Same.ne s (R.oh b (.inr z))
  ·rw [e4]; exact fun z => nomatch z
 ·rcases z with z | rfl
  ·exact R.ap b z
  ·exact fun z => R.oh b (.inl z) e3
def sS (i : Nat) (m : Ev -> Res D) : Ev -> Res Out := fun ρ => (m ρ).bind fun d => .ok (.nx (ρ.set i (some d)))
theorem yO (i : Nat) {x : Str} {p' : Pos} (nd : C.X.N.Nodup) (he : RE C .cl e me) (hi : autoParam (C.X.N[i]? = some x) zZ._auto_1) (ho : autoParam (C.om.contains i = false) zZ._auto_1) (hl : autoParam (C.ln.contains i = false) zZ._auto_1) (hx : autoParam (Loc C.X.env.scope x) kG._auto_1)
  (hs : autoParam (swapsWith e (some (.Name x p')) pos.line C.X.env = pure false) zZ._auto_1) (hf : autoParam (C.X.fn x = true \/ C.X.env.scope.names.lookup x = some .local) autoK12._auto_1) : RS C fr (.Assign [.Name x p'] e pos) (sS i me) := by
 obtain ⟨t, p, q⟩ := he
 refine ⟨_, zR4 nd hi hx p hs hf, fun Oc Ob σ H ρ E R h => q Oc Ob σ H ρ _ R (Res.zW (Res.zX h) (fun d _ k v H' s r => ?_) fun c z H' s => z H' (Same.frm s))⟩
 exact k _ H' Ob ((R.same s).set (yW ho) (yW hl) r) (Same.frm s) fun b z => .inl z
theorem xY (i : Nat) {x : Str} {p' : Pos} (nd : C.X.N.Nodup) (he : RE C .new e me) (hi : autoParam (C.X.N[i]? = some x) zZ._auto_1) (ho : autoParam (C.om.contains i = true) zZ._auto_1) (hx : autoParam (Loc C.X.env.scope x) kG._auto_1)
  (hs : autoParam (swapsWith e (some (.Name x p')) pos.line C.X.env = pure false) zZ._auto_1) (hf : autoParam (C.X.fn x = true \/ C.X.env.scope.names.lookup x = some .local) autoK12._auto_1) : RS C fr (.Assign [.Name x p'] e pos) (sS i me) := by
 obtain ⟨t, p, q⟩ := he
 refine ⟨_, zR4 nd hi hx p hs hf, fun Oc Ob σ H ρ E R h => q Oc Ob σ H ρ _ R (Res.zW (Res.zX h) (fun d _ k v H' s r => ?_) fun c z H' s => z H' (Same.frm s))⟩
 obtain ⟨a, ha, R'⟩ := R.setO s (vZ ho) r
 exact k _ H' _ R' (Same.frm s) fun b z => z.elim .inl fun z => .inr (by subst z; exact ha)
def sE (m : Ev -> Res D) : Ev -> Res Out := fun ρ => (m ρ).bind fun _ => .ok (.nx ρ)
theorem Rel.write {Oc : Wd} {Ob : Addr -> Prop} {om ln : List Nat} {σ : St} {H : Hp} {ρ : Ev} {i : Nat} {a : Addr} {ys ys' : List V} {d : D} {ds' : List D} (R : Rel Oc Ob om ln σ H ρ) (ho : i ∈ om) (ed : ρ[i]? = some (some d)) (es : σ[i]? = some (some (.ref a))) (ha : H a = some (.lst ys)) (hb : Ob a)
  (r : Reps H (Uni Oc Ob) ys' ds') : Rel Oc Ob om ln σ (upd H a (.lst ys')) (ρ.set i (some (.list ds'))) := by
 have kp : ∀ b o, H b = some o -> ¬ Uni Oc Ob b -> upd H a (.lst ys') b = some o := fun b o e n => by
  rw [zM (fun z => n (by subst z; exact .inr hb))]; exact e
 have up : ∀ {vs : List V} {es : List D}, Reps H (Uni Oc Ob) vs es -> Reps (upd H a (.lst ys')) (Uni Oc Ob) vs es := fun r => r.keep kp fun b n z => z
 have up1 : ∀ {v : V} {e : D}, Rep H (Uni Oc Ob) v e -> Rep (upd H a (.lst ys')) (Uni Oc Ob) v e := fun r => r.keep kp fun b n z => z
 have li : i < σ.length := (List.getElem?_eq_some_iff.mp es).1
 refine ⟨by rw [List.length_set]; exact R.len, fun j d' e h1 h2 => ?_, fun j d' e h1 => ?_, fun j d' e h1 h2 => ?_, fun j k dj dk b ej ek hj hk qj qk => ?_, fun b z => ?_, R.ap⟩
 ·rcases yS e with ⟨rfl, rfl⟩ | ⟨ne, e⟩
  ·exact absurd ho h1
  ·obtain ⟨w, q, k⟩ := R.val j d' e h1 h2
   exact ⟨w, q, up1 k⟩
 ·rcases yS e with ⟨rfl, rfl⟩ | ⟨ne, e⟩
  ·exact ⟨.ref a, es, a, ys', ds', rfl, rfl, zJ, hb, up r⟩
  ·obtain ⟨w, q, b, zs, fs, rfl, z2, z3, z4, z5⟩ := R.own j d' e h1
   have nb : b ≠ a := fun z => by subst z; exact ne (R.inj j i d' d b e ed h1 ho q es)
   exact ⟨_, q, b, zs, fs, rfl, z2, by rw [zM nb]; exact z3, z4, up z5⟩
 ·rcases yS e with ⟨rfl, rfl⟩ | ⟨ne, e⟩
  ·exact absurd ho h1
  ·obtain ⟨w, q, zs, fs, z1, z2, z3, z4, z5⟩ := R.lnt j d' e h1 h2
   have nb : Oc.la j ≠ a := fun z => R.ap a hb (z ▸ z4)
   exact ⟨_, q, zs, fs, z1, z2, by rw [zM nb]; exact z3, z4, up z5⟩
 ·have get : ∀ j dj, (ρ.set i (some (.list ds')))[j]? = some (some dj) -> ∃ d, ρ[j]? = some (some d) := fun j dj e => by
   rcases yS e with ⟨rfl, rfl⟩ | ⟨ne, e⟩
   ·exact ⟨d, ed⟩
   ·exact ⟨dj, e⟩
  obtain ⟨d1, e1⟩ := get j dj ej
  obtain ⟨d2, e2⟩ := get k dk ek
  exact R.inj j k d1 d2 b e1 e2 hj hk qj qk
 ·by_cases h : b = a
  ·subst h; rw [zJ]; exact fun z => nomatch z
  ·rw [zM h]; exact R.oh b z
def PrM (r : V -> List V -> Hp -> VK -> Prop) (g : List D -> List D -> Option (List D)) : Prop :=
 ∀ (O : Addr -> Prop) (H : Hp) (l : Addr) (xs vs : List V) (xd ad ds' : List D) (Q : VK), H l = some (.lst xs) -> Reps H O xs xd -> Reps H O vs ad -> g xd ad = some ds' -> (∀ xs', Reps H O xs' ds' -> Q .non (upd H l (.lst xs'))) -> r (.ref l) vs H Q
def lstD : D -> Option (List D)
 | .list ds => some ds
 | _ => none
def sM (i : Nat) (g : List D -> List D -> Option (List D)) (m : Ev -> Res (List D)) : Ev -> Res Out := fun ρ => (eV i ρ).bind fun d => (Res.lft (lstD d)).bind fun xd => (m ρ).bind fun ad => (Res.lft (g xd ad)).bind fun ds => .ok (.nx (ρ.set i (some (.list ds))))
theorem jK {d : D} {ds : List D} (h : lstD d = some ds) : d = .list ds := by
 cases d <;> simp [lstD] at h ⊢
 exact h
theorem uH (i : Nat) {x name : Str} {id : String} {a : Expr} {es : List Expr} {ms : Ev -> Res (List D)} {p' apos cpos : Pos} {r : V -> List V -> Hp -> VK -> Prop} {g : List D -> List D -> Option (List D)} (slot : Slot "list" name id) (hty : typeOf (.builtin id) = pure (.type "method_descriptor")) (hm : MtR C.X id r) (hp : PrM r g) (ha : RArg C true (a :: es) ms)
  (hN : autoParam (C.X.N[i]? = some x) zZ._auto_1) (ho : autoParam (C.om.contains i = true) zZ._auto_1) (hv : autoParam (Vis C.X.env.scope x) qP._auto_1) (hd : autoParam ((x == ("__debug__" : Str)) = false) zO._auto_1) (hcd : autoParam ((x == ("__classdict__" : Str)) = false) zO._auto_1)
  (hbase : autoParam (attributeBase (.Name x p') name C.X.env (eval (.Name x p') C.X.env) = eval (.Name x p') C.X.env) zZ._auto_1)
  (hfew : ((backTo cpos (starEach (a :: es) C.X.env)).all (fun x => !x.1) && (backToKw cpos (keywordEach [] C.X.env)).all (fun x => x.1.isSome)
   && decide ((a :: es).length + ([] : List Keyword).length + (if ([] : List Keyword).isEmpty then 0 else 1) < 30)) = true := by rfl)
  (hline : autoParam ((apos.endLine == cpos.line) = true) zZ._auto_1) (hs : autoParam (starEach (a :: es) C.X.env = (false, eval a C.X.env) :: starEach es C.X.env) zZ._auto_1) (hplain : autoParam ((backTo cpos (starEach es C.X.env)).any (·.1) = false) zZ._auto_1)
  (hsw : autoParam (swapsWith (.Call (.Attribute (.Name x p') name apos) (a :: es) [] cpos) none pos.line C.X.env = pure false) zZ._auto_1) :
  RS C fr (.Expr (.Call (.Attribute (.Name x p') name apos) (a :: es) [] cpos) pos) (sM i g ms) := by
 obtain ⟨t, p, q⟩ := ha
 refine ⟨_, dY (zG6 PySem.F.plainAttrs_list slot hty hm (uD hN hv hd hcd) p hbase hfew hline hs hplain) hsw, fun Oc Ob σ H ρ E R h => ?_⟩
 obtain ⟨d, ed, k⟩ := vA (Res.zX h)
 obtain ⟨xd, ex, k⟩ := Res.zL (Res.zX k)
 obtain rfl := jK ex
 obtain ⟨v, qv, l, ys, ds, rfl, e2, e3, e4, e5⟩ := R.own i _ ed (vZ ho)
 cases e2
 refine ⟨_, qv, .inl ⟨rfl, _, SqL.of e3⟩, q Oc Ob σ H ρ _ R (Res.zW (Res.zX k) (fun ad _ k vs H' s r' => ?_) fun c z H' s => z H' (Same.frm s))⟩
 obtain ⟨ds', eg, k⟩ := Res.zL (Res.zX k)
 refine hp _ H' l ys vs xd ad ds' _ (s _ _ e3) (e5.same s) r' eg fun xs' rx => ?_
 refine k _ _ Ob ((R.same s).write (vZ ho) ed qv (s _ _ e3) e4 rx) (fun b o e n => ?_) fun b z => .inl z
 rw [zM (fun z => n (by subst z; exact e4))]
 exact s b o e
end
def RG (C : Ct) (tg : Expr) (g : D -> Ev -> Option Ev) : Prop :=
 ∃ t, PG C.X tg t /\ ∀ (Oc : Wd) (Ob : Addr -> Prop) (σ : St) (H : Hp) (ρ ρ' : Ev) (v : V) (d : D) (Q : St -> Hp -> Prop), Rel Oc Ob C.om C.ln σ H ρ -> Rep H (Uni Oc Ob) v d -> g d ρ = some ρ' -> (∀ σ', Rel Oc Ob C.om C.ln σ' H ρ' -> Q σ' H) -> t v σ H Q
def gN (i : Nat) : D -> Ev -> Option Ev := fun d ρ => some (ρ.set i (some d))
section
variable {C : Ct} {fr : Bool} {e c : Expr} {es : List Expr} {pos : Pos} {md : Md} {me : Ev -> Res D} {mt : Ev -> Res Bool} {st : Stmt} {body sts rest : List Stmt} {m n : Ev -> Res Out} {mi : Ev -> Res (List D)} {g : D -> Ev -> Option Ev}
theorem xN (i : Nat) {x : Str} (nd : C.X.N.Nodup) (hi : autoParam (C.X.N[i]? = some x) zZ._auto_1) (ho : autoParam (C.om.contains i = false) zZ._auto_1) (hl : autoParam (C.ln.contains i = false) zZ._auto_1) (hx : autoParam (Loc C.X.env.scope x) kG._auto_1)
  (hf : autoParam (C.X.fn x = true \/ C.X.env.scope.names.lookup x = some .local) autoK12._auto_1) : RG C (.Name x pos) (gN i) := by
 refine ⟨_, zZ1 nd hi hx hf, fun Oc Ob σ H ρ ρ' v d Q R r e k => ?_⟩
 cases e
 exact k _ (R.set (yW ho) (yW hl) r)
def forM (g : D -> Ev -> Option Ev) (b : Ev -> Res Out) : List D -> Ev -> Res Out
 | [], ρ => .ok (.nx ρ)
 | x :: xs, ρ => (Res.lft (g x ρ)).bind fun ρ1 => (b ρ1).bind fun o => match o with
  | .nx ρ2 => forM g b xs ρ2
  | .rt d => .ok (.rt d)
def sF (mi : Ev -> Res (List D)) (g : D -> Ev -> Option Ev) (b : Ev -> Res Out) : Ev -> Res Out := fun ρ => (mi ρ).bind fun ds => forM g b ds ρ
theorem wL {tg iter : Expr} (hi : RI C tg iter mi) (hg : RG C tg g) (hb : RSs C fr body m) (hp : autoParam (PassesOwn (model C.X.prog C.X.w) C.X.A C.X.env C.X.xe) autoK13._auto_1) (hc : autoParam (C.X.calm = true) zZ._auto_1)
  (hs : autoParam (∀ x, foldedSetIterable iter C.X.env x = pure x) xG._auto_1) : RS C fr (.For tg iter body [] pos) (sF mi g m) := by
 obtain ⟨wi, pi, qi⟩ := hi
 obtain ⟨tg', pg, qg⟩ := hg
 obtain ⟨tb, pb, qb⟩ := hb
 refine ⟨_, yF7 hp hc pi pg pb hs, fun Oc Ob σ H ρ E R h => qi Oc Ob σ H ρ _ R (Res.zW (Res.zX h) (fun ds _ k J H1 s1 wk => ?_) fun c z H' s => z H' (Same.frm s))⟩
 refine ⟨fun i mm σ' H' => mm = ds.length - i /\ i <= ds.length /\ ∃ ρi Obi, Rel Oc Obi C.om C.ln σ' H' ρi /\ Frm Ob H1 H' /\ (∀ b, Obi b -> Ob b \/ H1 b = none) /\ SPost C fr Oc Obi H' E (forM g m (ds.drop i) ρi),
  ⟨_, rfl, Nat.zero_le _, ρ, Ob, R.same s1, Same.frm (Same.refl _), fun b z => .inl z, SPost.same s1 k⟩, ?_⟩
 rintro i mm σ2 H2 ⟨rfl, hi, ρi, Obi, R2, f2, sb2, k2⟩
 obtain ⟨w1, w2⟩ := wk H2 Obi f2 sb2 i
 by_cases hlt : i < ds.length
 ·obtain ⟨go, yl⟩ := w1 ds[i] (List.getElem?_eq_getElem hlt)
  have ed : ds.drop i = ds[i] :: ds.drop (i + 1) := List.drop_eq_getElem_cons hlt
  rw [ed, forM] at k2
  obtain ⟨ρ1, e1, k2⟩ := Res.zL (Res.zX k2)
  refine .inr ⟨go, fun σ' H' => ∃ m', m' < ds.length - i /\ (m' = ds.length - (i + 1) /\ i + 1 <= ds.length /\ ∃ ρi Obi, Rel Oc Obi C.om C.ln σ' H' ρi /\ Frm Ob H1 H' /\ (∀ b, Obi b -> Ob b \/ H1 b = none) /\ SPost C fr Oc Obi H' E (forM g m (ds.drop (i + 1)) ρi)), fun _ _ z => z, fun x H3 hy => ?_⟩
  obtain ⟨s3, rx⟩ := yl x H3 hy
  refine qg Oc Obi σ2 H3 ρi ρ1 x _ _ (R2.same s3) rx e1 fun σ3 R3 => ?_
  have k3 := SPost.same s3 (show SPost C fr Oc Obi H2 E _ from k2)
  refine qb Oc Obi σ3 H3 ρ1 _ R3 (Res.zW (Res.zX k3) (fun o _ k4 => ?_) fun _ z => z)
  cases o with
  | rt d => exact k4
  | nx ρ2 =>
   intro σ4 H4 Ob4 R4 f4 sb4
   have f3 : Frm Ob H1 H3 := fun b o e n => s3 b o (f2 b o e n)
   refine ⟨_, by bv_omega, rfl, hlt, ρ2, Ob4, R4, f3.trans sb2 f4, fun b z => (sb4 b z).elim (sb2 b) fun z => f3.none z, SPost.step f4 sb4 k4⟩
 ·have ei : i = ds.length := by bv_omega
  subst ei
  rw [List.drop_length] at k2
  exact .inl ⟨w2 (Nat.le_refl _), k2 σ2 H2 Obi R2 (Same.frm (Same.refl _)) fun b z => .inl z⟩
def whM (t : Ev -> Res Bool) (b : Ev -> Res Out) : Nat -> Ev -> Res Out
 | 0, _ => .no
 | k + 1, ρ => (t ρ).bind fun c => if c then (b ρ).bind fun o => match o with
  | .nx ρ' => whM t b k ρ'
  | .rt d => .ok (.rt d) else .ok (.nx ρ)
def sW (fuel : Nat) (t : Ev -> Res Bool) (b : Ev -> Res Out) : Ev -> Res Out := fun ρ => whM t b fuel ρ
theorem zQ2 (fuel : Nat) (hc : RT C c mt) (hb : RSs C fr body m) (hp : autoParam (PassesOwn (model C.X.prog C.X.w) C.X.A C.X.env C.X.xe) autoK13._auto_1) : RS C fr (.While c body [] pos) (sW fuel mt m) := by
 obtain ⟨t, p, q⟩ := hc
 obtain ⟨tb, pb, qb⟩ := hb
 refine ⟨_, yO4 hp p pb, fun Oc Ob σ H ρ E R h => ?_⟩
 refine ⟨fun mm σ' H' => ∃ ρi Obi, Rel Oc Obi C.om C.ln σ' H' ρi /\ Frm Ob H H' /\ (∀ b, Obi b -> Ob b \/ H b = none) /\ SPost C fr Oc Obi H' E (whM mt m mm ρi), ⟨fuel, ρ, Ob, R, Same.frm (Same.refl _), fun b z => .inl z, h⟩, ?_⟩
 rintro mm σ2 H2 ⟨ρi, Obi, R2, f2, sb2, k2⟩
 cases mm with
 | zero => exact k2.elim
 | succ mm =>
  rw [whM] at k2
  refine q Oc Obi σ2 H2 ρi _ R2 (Res.zW (Res.zX k2) (fun b _ k3 H3 s3 => ?_) fun c z H' s => z H' (Same.frm s))
  cases b with
  | false => exact iteF (k3 σ2 H3 Obi (R2.same s3) (Same.frm s3) fun b z => .inl z)
  | true =>
   refine iteT ⟨fun σ' H' => ∃ m', m' < mm + 1 /\ ∃ ρi Obi, Rel Oc Obi C.om C.ln σ' H' ρi /\ Frm Ob H H' /\ (∀ b, Obi b -> Ob b \/ H b = none) /\ SPost C fr Oc Obi H' E (whM mt m m' ρi), fun _ _ z => z, ?_⟩
   have k3 := SPost.same s3 (show SPost C fr Oc Obi H2 E _ from k3)
   refine qb Oc Obi σ2 H3 ρi _ (R2.same s3) (Res.zW (Res.zX k3) (fun o _ k4 => ?_) fun _ z => z)
   cases o with
   | rt d => exact k4
   | nx ρ2 =>
    intro σ4 H4 Ob4 R4 f4 sb4
    have f3 : Frm Ob H H3 := fun b o e n => s3 b o (f2 b o e n)
    exact ⟨mm, Nat.lt_succ_self _, ρ2, Ob4, R4, f3.trans sb2 f4, fun b z => (sb4 b z).elim (sb2 b) fun z => f3.none z, SPost.step f4 sb4 k4⟩
def setD (ds : List D) (i v : D) : Option (List D) := match i with
 | .int k => (ixN ds.length k).map fun j => ds.set j v
 | _ => none
def sI (i : Nat) (mk me : Ev -> Res D) : Ev -> Res Out := fun ρ => (me ρ).bind fun v => (eV i ρ).bind fun d => (Res.lft (lstD d)).bind fun xd => (mk ρ).bind fun k => (Res.lft (setD xd k v)).bind fun ds => .ok (.nx (ρ.set i (some (.list ds))))
theorem qB (i : Nat) {x : Str} {p' p2 : Pos} {k : Expr} {mk : Ev -> Res D} (he : RE C .cl e me) (hk : RE C md k mk) (hN : autoParam (C.X.N[i]? = some x) zZ._auto_1) (ho : autoParam (C.om.contains i = true) zZ._auto_1) (hv : autoParam (Vis C.X.env.scope x) qP._auto_1) (hd : autoParam ((x == ("__debug__" : Str)) = false) zO._auto_1)
  (hcd : autoParam ((x == ("__classdict__" : Str)) = false) zO._auto_1)
  (ha : ∀ v, assign (.Subscript (.Name x p') k p2) C.X.env v = (do
   let ov <- holding [v] (eval (.Name x p') C.X.env)
   let iv <- holding [v, ov] (eval k C.X.env)
   standAt p2
   holding [v, ov, iv] (setItem ov iv v)
   release [v, ov, iv] []) := by intro _; rfl)
  (hs : autoParam (swapsWithSole [.Subscript (.Name x p') k p2] e pos.line C.X.env = pure false) zZ._auto_1) (hw : autoParam (swappedStores [.Subscript (.Name x p') k p2] e C.X.env = pure none) zZ._auto_1)
  (h1 : autoParam ((assignEach [.Subscript (.Name x p') k p2] C.X.env).map (·.2) = [assign (.Subscript (.Name x p') k p2) C.X.env]) zZ._auto_1) : RS C fr (.Assign [.Subscript (.Name x p') k p2] e pos) (sI i mk me) := by
 obtain ⟨t, p, q⟩ := he
 obtain ⟨t', p', q'⟩ := hk
 refine ⟨_, yB4 p (yE7 (uD hN hv hd hcd) p' yS9 ha) hs hw h1, fun Oc Ob σ H ρ E R h => q Oc Ob σ H ρ _ R (Res.zW (Res.zX h) (fun dv _ k v H' s r => ?_) fun c z H' s => z H' (Same.frm s))⟩
 obtain ⟨d, ed, k⟩ := vA (Res.zX k)
 obtain ⟨xd, ex, k⟩ := Res.zL (Res.zX k)
 obtain rfl := jK ex
 obtain ⟨w', qv, l, ys, ds, rfl, e2, e3, e4, e5⟩ := (R.same s).own i _ ed (vZ ho)
 cases e2
 refine ⟨_, qv, q' Oc Ob σ H' ρ _ (R.same s) (Res.zW (Res.zX k) (fun dk _ k kv H2 s2 rk => ?_) fun c z H2 s2 => z H2 (Same.frm (s.trans s2)))⟩
 obtain ⟨ds', eg, k⟩ := Res.zL (Res.zX k)
 unfold setD at eg
 split at eg
 ·obtain ⟨j, ej, rfl⟩ := Option.map_eq_some_iff.mp eg
  obtain rfl := (rk.va (R.same s).oh).int
  have hl := e5.length
  refine ⟨l, ys, _, j, rfl, rfl, s2 _ _ e3, by rw [hl]; exact ej, ?_⟩
  refine k _ _ Ob ((R.same (s.trans s2)).write (vZ ho) ed qv (s2 _ _ e3) e4 (Reps.set (Rep.same r s2) j (e5.same s2))) (fun b o e n => ?_) fun b z => .inl z
  rw [zM (fun z => n (by subst z; exact e4))]
  exact s2 b o (s b o e)
 ·cases eg
def sV (i j : Nat) : Ev -> Res Out := fun ρ => (eV j ρ).bind fun d => .ok (.nx ((ρ.set i (some d)).set j none))
theorem jN {α : Type} {l : List (Option α)} {i j : Nat} {d : α} (h : (l.set i none)[j]? = some (some d)) : j ≠ i /\ l[j]? = some (some d) := by
 by_cases e : i = j
 ·subst e
  rw [List.getElem?_set_self'] at h
  cases q : l[i]? with
  | none => rw [q] at h; cases h
  | some z => rw [q] at h; cases h
 ·rw [List.getElem?_set_ne e] at h
  exact ⟨fun z => e z.symm, h⟩
theorem yK2 (i : Nat) {X : Cx} {XE : Str -> Hp -> Prop} {om : List Nat} (h : RS ⟨X, XE, om.filter (fun j => j != i), [i]⟩ fr st m) (hkeep : ∀ ρ o, m ρ = .ok (.nx o) -> o[i]? = ρ[i]?) (hi : autoParam (om.contains i = true) zZ._auto_1) : RS ⟨X, XE, om, []⟩ fr st (fun ρ => (eV i ρ).bind fun _ => m ρ) := by
 obtain ⟨t, p, q⟩ := h
 refine ⟨t, p, fun Oc Ob σ H ρ E R h => ?_⟩
 obtain ⟨d, ed, k⟩ := vA (Res.zX h)
 have io := vZ hi
 obtain ⟨v, qv, a, ys, ds, rfl, rfl, e3, e4, e5⟩ := R.own i d ed io
 have om' : ∀ j, j ∈ om.filter (fun j => j != i) ↔ j ∈ om /\ j ≠ i := fun j => by rw [List.mem_filter]; simp
 let Oc' : Wd := ⟨fun b => Oc b \/ b = a, fun j => if j = i then a else Oc.la j⟩
 have cv : ∀ b, Uni Oc' (fun b => Ob b /\ b ≠ a) b -> Uni Oc Ob b := fun b z => z.elim (fun z => z.elim .inl fun z => .inr (by rw [z]; exact e4)) fun z => .inr z.1
 have vc : ∀ b, Uni Oc Ob b -> Uni Oc' (fun b => Ob b /\ b ≠ a) b := fun b z => by
  by_cases hb : b = a
  ·exact .inl (.inr hb)
  ·exact z.elim (fun z => .inl (.inl z)) fun z => .inr ⟨z, hb⟩
 have R' : Rel Oc' (fun b => Ob b /\ b ≠ a) (om.filter (fun j => j != i)) [i] σ H ρ := by
  refine ⟨R.len, fun n d' e h1 h2 => ?_, fun n d' e h1 => ?_, fun n d' e h1 h2 => ?_, fun n k dn dk b en ek hn hk qn qk => R.inj n k dn dk b en ek ((om' n).mp hn).1 ((om' k).mp hk).1 qn qk, fun b z => R.oh b (cv b z), fun b z z' => z'.elim (R.ap b z.1) z.2⟩
  ·have ni : n ≠ i := fun z => h2 (by rw [z]; exact List.mem_cons_self)
   obtain ⟨w, q, k⟩ := R.val n d' e (fun z => h1 ((om' n).mpr ⟨z, ni⟩)) fun z => h2 (List.mem_cons_of_mem _ z)
   exact ⟨w, q, k.less cv⟩
  ·obtain ⟨h1, ni⟩ := (om' n).mp h1
   obtain ⟨w, q, b, zs, fs, rfl, z2, z3, z4, z5⟩ := R.own n d' e h1
   have nb : b ≠ a := fun z => by subst z; exact ni (R.inj n i d' _ b e ed h1 io q qv)
   exact ⟨_, q, b, zs, fs, rfl, z2, z3, ⟨z4, nb⟩, z5.less cv⟩
  ·by_cases ni : n = i
   ·subst ni
    rw [ed] at e
    cases e
    have ea : Oc'.la n = a := if_pos rfl
    exact ⟨_, qv, ys, ds, by rw [ea], rfl, by rw [ea]; exact e3, by rw [ea]; exact .inr rfl, e5.less cv⟩
   ·exact absurd h2 (by simpa using ni)
 refine q Oc' (fun b => Ob b /\ b ≠ a) σ H ρ E R' (Res.zW k (fun o eo k => ?_) fun c z H' f => z H' fun b o e n => f b o e fun z => n z.1)
 cases o with
 | rt d' =>
  refine fun v H' f r => k v H' (fun b o e n => f b o e fun z => n z.1) ?_
  cases fr with
  | false => exact Rep.less r fun b z => .inl z
  | true =>
   obtain ⟨a', zs, fs, z1, z2, z3, z4, z5, z6⟩ := r
   exact ⟨a', zs, fs, z1, z2, z3.elim .inl fun z => .inr z.1, fun z => z4 (.inl z), z5, z6.less fun b z => z.elim (fun z => .inl (.inl z)) .inr⟩
 | nx ρ2 =>
  intro σ2 H2 Ob2 R2 f2 sb2
  have e2 : ρ2[i]? = some (some (.list ds)) := by rw [hkeep ρ ρ2 eo]; exact ed
  have ni' : i ∉ om.filter (fun j => j != i) := fun z => ((om' i).mp z).2 rfl
  obtain ⟨w, qw, zs, fs, z1, z2, z3, z4, z5⟩ := R2.lnt i _ e2 ni' List.mem_cons_self
  have ea : Oc'.la i = a := if_pos rfl
  rw [ea] at z1 z3 z4
  cases z2
  subst z1
  have na : ¬ Ob2 a := fun z => R2.ap a z (.inr rfl)
  have vc2 : ∀ b, Uni Oc (fun b => Ob2 b \/ b = a) b -> Uni Oc' Ob2 b := fun b z => z.elim (fun z => .inl (.inl z)) fun z => z.elim .inr fun z => .inl (.inr z)
  refine k σ2 H2 (fun b => Ob2 b \/ b = a) ?_ (fun b o e n => f2 b o e fun z => n z.1) fun b z => z.elim (fun z => (sb2 b z).elim (fun z => .inl z.1) .inr) fun z => .inl (by rw [z]; exact e4)
  refine ⟨R2.len, fun n d' e h1 h2 => ?_, fun n d' e h1 => ?_, fun n d' e h1 h2 => ?_, fun n k dn dk b en ek hn hk qn qk => ?_, fun b z => R2.oh b (vc2 b z), fun b z => ?_⟩
  ·have ni : n ≠ i := fun z => h1 (by rw [z]; exact io)
   obtain ⟨w, q, k⟩ := R2.val n d' e (fun z => h1 ((om' n).mp z).1) fun z => (List.mem_cons.mp z).elim ni h2
   exact ⟨w, q, k.less vc2⟩
  ·by_cases ni : n = i
   ·subst ni
    rw [e2] at e
    cases e
    exact ⟨_, qw, a, zs, ds, rfl, rfl, z3, .inr rfl, z5.less vc2⟩
   ·obtain ⟨w, q, b, xs, gs, y1, y2, y3, y4, y5⟩ := R2.own n d' e ((om' n).mpr ⟨h1, ni⟩)
    exact ⟨w, q, b, xs, gs, y1, y2, y3, .inl y4, y5.less vc2⟩
  ·exact nomatch h2
  ·by_cases hn' : n = i
   ·by_cases hk' : k = i
    ·rw [hn', hk']
    ·subst hn'
     rw [qw] at qn
     cases qn
     obtain ⟨w, q, b, xs, gs, y1, y2, y3, y4, y5⟩ := R2.own k dk ek ((om' k).mpr ⟨hk, hk'⟩)
     rw [qk] at q
     cases q
     cases y1
     exact absurd y4 na
   ·by_cases hk' : k = i
    ·subst hk'
     rw [qw] at qk
     cases qk
     obtain ⟨w, q, b, xs, gs, y1, y2, y3, y4, y5⟩ := R2.own n dn en ((om' n).mpr ⟨hn, hn'⟩)
     rw [qn] at q
     cases q
     cases y1
     exact absurd y4 na
    ·exact R2.inj n k dn dk b en ek ((om' n).mpr ⟨hn, hn'⟩) ((om' k).mpr ⟨hk, hk'⟩) qn qk
  ·rcases z with z | rfl
   ·exact fun z' => R2.ap b z (.inl z')
   ·exact R.ap b e4
end
end L2.L3
namespace L2
open PySem PySem.Spec PyProof.Rows
structure Has (K : KFr) (mg : Str -> Option Value) (x : Str) (st : Stmt) (f : Addr) (fd : FuncData) (ps : List Str) : Prop where
 F : Fun K x x st f fd
 b : Binds K fd ps []
 m : mg x = some (.ref f)
theorem yM {K : KFr} {h : Heap} {mg : Str -> Option Value} {x : Str} {st : Stmt} {f : Addr} {oc : Value} {od an : Option Addr} {osl : Array (Option Value)} {kV doc pm cdv ct : Value} {ps : List Str} (X : K.In h) (G : h.Ns mainGlobals mg)
  (a : PySem.W.nsIn K mainGlobals x = some (some (.ref f))) (l : K.lookup f = some ⟨oc, od, .func (PySem.W.fnOf x x (defArgs st) (defBody st) (zT st) .none kV doc pm an cdv ct), osl⟩)
  (c : PySem.W.codeIn K cdv x = true) (k : PySem.W.keepIn K (.ref f) = true)
  (hb : ∀ (kV doc pm : Value) (an : Option Addr) (cdv ct : Value) (us : List Value), us.length = ps.length -> bindArgs (PySem.W.fnOf x x (defArgs st) (defBody st) (zT st) .none kV doc pm an cdv ct) ⟨us, []⟩ = pure (ps.zip us)) :
  Has K mg x st f (PySem.W.fnOf x x (defArgs st) (defBody st) (zT st) .none kV doc pm an cdv ct) ps :=
 have F := zA9 (st := st) l c k
 ⟨F, F.binds hb, PySem.W.mg_of X G a⟩
end L2
namespace L2.L3
open PySem PySem.Spec PyProof.Rows
variable [CN]
def CallOk : Bool -> (Addr -> Prop) -> Hp -> Hp -> V -> D -> Prop
 | true, O, H, H', v, d => ∃ a ys ds, v = .ref a /\ d = .list ds /\ H a = none /\ H' a = some (.lst ys) /\ Reps H' (fun b => O b \/ b = a) ys ds
 | false, O, _, H', v, d => Rep H' O v d
def fin (fr : Bool) : Out -> Res D
 | .rt d => .ok d
 | .nx _ => if fr then .no else .ok .none
def runF (fr : Bool) (p n : Nat) (m : Ev -> Res Out) : List D -> Res D := fun ds => if ds.length = p then (m (ds.map some ++ List.replicate (n - p) none)).bind (fin fr) else .no
theorem gC {α : Type} {ds : List α} {k i : Nat} {d : α} (h : (ds.map some ++ List.replicate k none)[i]? = some (some d)) : ds[i]? = some d := by
 by_cases hi : i < ds.length
 ·rw [List.getElem?_append_left (by simpa using hi), List.getElem?_map] at h
  cases e : ds[i]? with
  | none => rw [e] at h; cases h
  | some z => rw [e] at h; cases h; rfl
 ·rw [List.getElem?_append_right (by simpa using hi), List.getElem?_replicate] at h
  split at h <;> cases h
theorem yT6 {α : Type} {ds : List α} {k i : Nat} {d : α} (h : ds[i]? = some d) : (ds.map some ++ List.replicate k none)[i]? = some (some d) := by
 have hi := (List.getElem?_eq_some_iff.mp h).1
 rw [List.getElem?_append_left (by simpa using hi), List.getElem?_map, h]
 rfl
section
variable {P : Program} {w : World} {K : KFr} {mg : Str -> Option Value} {base : Heap}
end
def mdF (fr : Bool) : Md := if fr then .new else .cl
def eF (F : List D -> Res D) (m : Ev -> Res (List D)) : Ev -> Res D := fun ρ => (m ρ).bind F
section
variable {C : Ct} {k : Nat} {f : Addr} {fd : FuncData} {ps : List Str} {fr : Bool} {F : List D -> Res D} {x : Str} {p pos : Pos} {e : Expr} {es : List Expr} {ms : Ev -> Res (List D)} {st : Stmt}
end
mutual
def lf : D -> Bool
 | .list _ => false
 | .dict _ => false
 | .tuple ds => lfs ds
 | _ => true
def lfs : List D -> Bool
 | [] => true
 | d :: ds => lf d && lfs ds
end
mutual
theorem Rep.lf {H : Hp} {U : Addr -> Prop} {B : Addr -> Prop} (hB : ∀ b, B b -> ∃ ys, H b = some (.lst ys)) : ∀ {v : V} {d : D}, Rep H (fun b => U b /\ ¬ B b) v d -> L3.lf d = true -> Rep H U v d
 | _, _, .non, _ => .non
 | _, _, .bl b, _ => .bl b
 | _, _, .int i, _ => .int i
 | _, _, .str x, _ => .str x
 | _, _, .lst r n t, h => by simp [L3.lf] at h
 | _, _, .exc r w n, h => by simp [L3.lf] at h
 | _, _, @Rep.tup _ _ _ a _ _ r n t, h => .tup r (fun z => by
   by_cases hb : B a
   ·obtain ⟨ys, e⟩ := hB _ hb
    rcases r with r | ⟨o, r⟩ <;> (rw [r] at e; cases e)
   ·exact n ⟨z, hb⟩) (Reps.lf hB t (by simpa [L3.lf] using h))
theorem Reps.lf {H : Hp} {U : Addr -> Prop} {B : Addr -> Prop} (hB : ∀ b, B b -> ∃ ys, H b = some (.lst ys)) : ∀ {vs : List V} {ds : List D}, Reps H (fun b => U b /\ ¬ B b) vs ds -> lfs ds = true -> Reps H U vs ds
 | _, _, .nil, _ => .nil
 | _, _, .cons r t, h => by
  rw [lfs, Bool.and_eq_true] at h
  exact .cons (Rep.lf hB r h.1) (Reps.lf hB t h.2)
end
def lfT : Bool -> D -> Bool
 | true, .list ds => lfs ds
 | _, d => lf d
def eFA (fr : Bool) (F : List D -> Res D) (m : Ev -> Res (List D)) : Ev -> Res D := fun ρ => (m ρ).bind fun ds => (F ds).bind fun d => if lfT fr d then .ok d else .no
theorem VAs.lent {Oc : Wd} {Ob : Addr -> Prop} {H : Hp} : ∀ {vs : List V} {ds : List D}, VAs Oc Ob H vs ds -> Reps H (fun b => Uni Oc Ob b /\ ¬ ∃ ys, H b = some (.lst ys)) vs ds
 | _, _, .nil => .nil
 | _, _, .cons h t => .cons (by
   rcases h with h | ⟨a, ys, ds, rfl, rfl, e3, e5⟩
   ·exact h.less fun b z => z.1
   ·exact .lst (.inl e3) (fun z => z.2 ⟨ys, e3⟩) (e5.less fun b z => z.1)) (VAs.lent t)
def i2 (f : Int -> Int -> Option Int) : D -> D -> Option D
 | .int i, .int j => (f i j).map PyData.int
 | _, _ => none
theorem zI6 {f : Int -> Int -> Option Int} {x y d : D} (h : i2 f x y = some d) : ∃ i j k, x = .int i /\ y = .int j /\ f i j = some k /\ d = .int k := by
 cases x with
 | int i =>
  cases y with
  | int j =>
   obtain ⟨k, e, rfl⟩ := Option.map_eq_some_iff.mp (show (f i j).map PyData.int = some d from h)
   exact ⟨i, j, k, rfl, rfl, e, rfl⟩
  | _ => cases h
 | _ => cases h
theorem yS4 {C : Int -> Int -> Prop} {g : Int -> Int -> Int} {f : Int -> Int -> Option Int} (hf : ∀ i j k, f i j = some k -> C i j /\ k = g i j) : Pr2 (rI C fun i j => .int (g i j)) .cl (i2 f) := by
 intro Oc Ob H x y dx dy d Q oh vx vy e k
 obtain ⟨i, j, n, rfl, rfl, ef, rfl⟩ := zI6 e
 obtain ⟨hc, rfl⟩ := hf i j n ef
 exact ⟨i, j, vx.int, vy.int, hc, k _ H (Same.refl H) (Rep.int _)⟩
theorem yN7 {g : Int -> Int -> Int} : Pr2 (rI0 fun i j => .int (g i j)) .cl (i2 fun i j => some (g i j)) := by
 intro Oc Ob H x y dx dy d Q oh vx vy e k
 obtain ⟨i, j, n, rfl, rfl, ef, rfl⟩ := zI6 e
 cases ef
 exact ⟨i, j, vx.int, vy.int, k _ H (Same.refl H) (Rep.int _)⟩
abbrev addI : D -> D -> Option D := i2 fun i j => some (i + j)
abbrev subI : D -> D -> Option D := i2 fun i j => some (i - j)
def MulOk (i j : Int) : Prop := CMul i j \/ (Small i /\ Small j)
open Classical in
def mulO (i j : Int) : Option Int := if MulOk i j then some (i * j) else none
abbrev mulI : D -> D -> Option D := i2 mulO
def DivOk (j : Int) : Prop := 0 < j /\ j.natAbs.log2 < 9000
instance (j : Int) : Decidable (DivOk j) := by unfold DivOk; infer_instance
def fdivO (i j : Int) : Option Int := if DivOk j then some (i / j) else none
def modO (i j : Int) : Option Int := if 0 < j then some (i % j) else none
abbrev fdivI : D -> D -> Option D := i2 fdivO
abbrev modI : D -> D -> Option D := i2 modO
section
variable {X : Cx}
theorem yI5 : OpR X (binaryOp .Mult) (rI MulOk fun i j => .int (i * j)) := opI fun _ _ _ _ _ _ _ hc q => mul_int q (hc.elim CMul.ok fun h => .of_bits h.1.bits h.2.bits)
theorem vY : OpR X (binaryOp .FloorDiv) (rI (fun _ j => DivOk j) fun i j => .int (i / j)) := opI fun i j _ _ _ _ _ hc q => by
 refine floordiv_int (by have := hc.1; bv_omega) ?_ (.inl (PyProof.noPylong_of_log2 hc.2))
 rw [Int.fdiv_eq_ediv_of_nonneg _ (by have := hc.1; bv_omega)]
 exact q
end
open Classical in
theorem zB5 {i j k : Int} (h : mulO i j = some k) : MulOk i j /\ k = i * j := by
 unfold mulO at h
 split at h
 ·cases h; exact ⟨by assumption, rfl⟩
 ·cases h
theorem yL6 {i j : Int} (h : MulOk i j) : mulO i j = some (i * j) := by
 unfold mulO
 exact if_pos h
theorem zF7 {i j k : Int} (h : fdivO i j = some k) : DivOk j /\ k = i / j := by
 unfold fdivO at h
 split at h
 ·cases h; exact ⟨by assumption, rfl⟩
 ·cases h
theorem yY3 {i j k : Int} (h : modO i j = some k) : 0 < j /\ k = i % j := by
 unfold modO at h
 split at h
 ·cases h; exact ⟨by assumption, rfl⟩
 ·cases h
theorem DivOk.small {j : Int} (h : 0 < j) (h2 : j < 1073741824) : DivOk j := by
 refine ⟨h, ?_⟩
 have h30 : j.natAbs.log2 < 30 := (Nat.log2_lt (by bv_omega)).mpr (by bv_omega)
 bv_omega
theorem MulOk.right {i j : Int} (h : -(2 ^ 64) < j) (h2 : j < 2 ^ 64) : MulOk i j := .inl (.inr ⟨h, h2⟩)
theorem qX : Pr2 (rI0 fun i j => .int (i + j)) .cl addI := yN7
theorem zC2 : Pr2 (rI0 fun i j => .int (i - j)) .cl subI := yN7
theorem yG6 : Pr2 (rI MulOk fun i j => .int (i * j)) .cl mulI := yS4 fun _ _ _ h => zB5 h
theorem uZ : Pr2 (rI (fun _ j => DivOk j) fun i j => .int (i / j)) .cl fdivI := yS4 fun _ _ _ h => zF7 h
theorem qV : Pr2 (rI (fun _ j => 0 < j) fun i j => .int (i % j)) .cl modI := yS4 fun _ _ _ h => yY3 h
def c2 (f : Int -> Int -> Bool) : D -> D -> Option Bool
 | .int i, .int j => some (f i j)
 | _, _ => none
theorem yR7 {f : Int -> Int -> Bool} : PrB (rI0 fun i j => .bl (f i j)) (c2 f) := by
 intro Oc Ob H x y dx dy b Q vx vy e k
 cases dx with
 | int i =>
  cases dy with
  | int j =>
   cases e
   exact ⟨_, _, vx.int, vy.int, k⟩
  | _ => cases e
 | _ => cases e
abbrev ltI : D -> D -> Option Bool := c2 fun i j => decide (i < j)
abbrev leI : D -> D -> Option Bool := c2 fun i j => decide (i <= j)
abbrev gtI : D -> D -> Option Bool := c2 fun i j => decide (j < i)
theorem yO9 : PrB (rI0 fun i j => .bl (decide (i < j))) ltI := yR7
theorem yO7 : PrB (rI0 fun i j => .bl (decide (i <= j))) leI := yR7
theorem aZ : PrB (rI0 fun i j => .bl (decide (j < i))) gtI := yR7
def eqD (x y : D) : Option Bool := if SeqAt.shaped x = true /\ SeqAt.shaped y = true then some (PyData.eqv x y) else none
def neD (x y : D) : Option Bool := if SeqAt.shaped x = true /\ SeqAt.shaped y = true then some (!PyData.eqv x y) else none
theorem wG {K : KFr} : PrB (rEqD K false) eqD := by
 intro Oc Ob H x y dx dy b Q vx vy e k
 unfold eqD at e
 split at e
 ·rename_i h
  cases e
  exact ⟨dx, dy, vx.datS h.1, vy.datS h.2, h.1, h.2, k⟩
 ·cases e
theorem jA {K : KFr} : PrB (rEqD K true) neD := by
 intro Oc Ob H x y dx dy b Q vx vy e k
 unfold neD at e
 split at e
 ·rename_i h
  cases e
  exact ⟨dx, dy, vx.datS h.1, vy.datS h.2, h.1, h.2, k⟩
 ·cases e
def isND (neg : Bool) : D -> D -> Option Bool
 | .none, .none => some (!neg)
 | _, .none => some neg
 | _, _ => none
theorem zC6 {Oc : Wd} {Ob : Addr -> Prop} {H : Hp} {x : V} {d : D} (h : VA Oc Ob H x d) : decide (x = .non) = (match d with | .none => true | _ => false) := by
 rcases h with h | ⟨a, ys, ds, rfl, rfl, e3, e5⟩
 ·cases h <;> rfl
 ·rfl
theorem xU6 : PrB (fun x y H Q => y = .non /\ Q (.bl (decide (x = .non))) H) (isND false) := by
 intro Oc Ob H x y dx dy b Q vx vy e k
 cases dy with
 | none =>
  refine ⟨vy.none, ?_⟩
  rw [zC6 vx]
  cases dx <;> (simp only [isND] at e; cases e; exact k)
 | _ => cases dx <;> cases e
theorem yP6 : PrB (fun x y H Q => y = .non /\ Q (.bl (!decide (x = .non))) H) (isND true) := by
 intro Oc Ob H x y dx dy b Q vx vy e k
 cases dy with
 | none =>
  refine ⟨vy.none, ?_⟩
  rw [zC6 vx]
  cases dx <;> (simp only [isND] at e; cases e; exact k)
 | _ => cases dx <;> cases e
def flD : D -> Bool
 | .none => true
 | .bool _ => true
 | .int _ => true
 | .str _ => true
 | _ => false
def eqF : D -> D -> Bool
 | .none, .none => true
 | .bool a, .bool b => a == b
 | .bool a, .int b => (if a then 1 else 0) == b
 | .int a, .bool b => a == (if b then 1 else 0)
 | .int a, .int b => a == b
 | .str a, .str b => a == b
 | _, _ => false
theorem cO {H : Hp} {O : Addr -> Prop} {v : V} {d : D} (h : Rep H O v d) (f : flD d = true) : flatV v = true := by
 cases h <;> first | rfl | cases f
theorem yI1 {H : Hp} {O O' : Addr -> Prop} {v v' : V} {d d' : D} (h : Rep H O v d) (h' : Rep H O' v' d') (f : flD d = true) (f' : flD d' = true) : eqV v v' = eqF d d' := by
 cases h <;> cases h' <;> first | rfl | cases f | cases f'
theorem gB {H : Hp} {O : Addr -> Prop} : ∀ {vs : List V} {ds : List D}, Reps H O vs ds -> ds.all flD = true -> vs.all flatV = true
 | _, _, .nil, _ => rfl
 | _, _, .cons h t, f => by
  rw [List.all_cons, Bool.and_eq_true] at f ⊢
  exact ⟨cO h f.1, gB t f.2⟩
theorem cV {H : Hp} {O O' : Addr -> Prop} {x : V} {dx : D} (hx : Rep H O' x dx) (fx : flD dx = true) : ∀ {vs : List V} {ds : List D}, Reps H O vs ds -> ds.all flD = true -> inV x vs = ds.any fun y => eqF y dx
 | _, _, .nil, _ => rfl
 | _, _, .cons h t, f => by
  rw [List.all_cons, Bool.and_eq_true] at f
  have ih := cV hx fx t f.2
  unfold inV at ih ⊢
  rw [List.any_cons, List.any_cons, ih, yI1 h hx f.1 fx]
def inD (neg : Bool) (x y : D) : Option Bool := (seqD y).bind fun ds => if flD x = true /\ ds.all flD = true then some (if neg then !ds.any (fun z => eqF z x) else ds.any fun z => eqF z x) else none
theorem yI7 {Oc : Wd} {Ob : Addr -> Prop} {H : Hp} {x : V} {d : D} (h : VA Oc Ob H x d) (f : flD d = true) : Rep H (Uni Oc Ob) x d := by
 rcases h with h | ⟨a, ys, ds, rfl, rfl, e3, e5⟩
 ·exact h
 ·cases f
theorem xU2 {K : KFr} {neg : Bool} : PrB (rIn K neg) (inD neg) := by
 intro Oc Ob H x y dx dy b Q vx vy e k
 unfold inD at e
 obtain ⟨ds, e1, e⟩ := Option.bind_eq_some_iff.mp e
 split at e
 ·rename_i h
  cases e
  have rx := yI7 vx h.1
  cases dy with
  | list ds' =>
   cases e1
   obtain ⟨a, ys, rfl, rd, rs⟩ := vy.list
   refine ⟨a, ys, rfl, .inl (.inl rd), cO rx h.1, gB rs h.2, ?_⟩
   rw [cV rx h.1 rs h.2]
   exact k
  | tuple ds' =>
   cases e1
   obtain ⟨a, ys, rfl, rd, rs⟩ := vy.tuple
   refine ⟨a, ys, rfl, .inr (.inl rd), cO rx h.1, gB rs h.2, ?_⟩
   rw [cV rx h.1 rs h.2]
   exact k
  | _ => cases e1
 ·cases e
def ixD : D -> D -> Option D
 | .list ds, .int i => atI ds i
 | .tuple ds, .int i => atI ds i
 | _, _ => none
theorem zP1 {H : Hp} {O : Addr -> Prop} {vs : List V} {ds : List D} {i : Int} {d : D} (r : Reps H O vs ds) (h : atI ds i = some d) : ∃ v, atI vs i = some v /\ Rep H O v d := by
 unfold atI at h ⊢
 obtain ⟨j, e1, e2⟩ := Option.bind_eq_some_iff.mp h
 obtain ⟨v, ev, rv⟩ := r.get e2
 refine ⟨v, ?_, rv⟩
 rw [r.length, e1]
 exact ev
theorem xJ {K : KFr} : Pr2 (rIx K) .cl ixD := by
 intro Oc Ob H x y dx dy d Q oh vx vy e k
 cases dx with
 | list ds =>
  cases dy with
  | int i =>
   obtain ⟨a, ys, rfl, rd, rs⟩ := vx.list
   obtain ⟨v, ev, rv⟩ := zP1 rs e
   exact .inl ⟨a, ys, i, v, rfl, vy.int, .inl rd, ev, k v H (Same.refl H) rv⟩
  | _ => cases e
 | tuple ds =>
  cases dy with
  | int i =>
   obtain ⟨a, ys, rfl, rd, rs⟩ := vx.tuple
   obtain ⟨v, ev, rv⟩ := zP1 rs e
   exact .inr (.inl ⟨a, ys, i, v, rfl, vy.int, .inl rd, ev, k v H (Same.refl H) rv⟩)
  | _ => cases e
 | _ => cases e
def rCatR : R2 := fun x y H Q => ∃ l b xs zs, x = .ref l /\ y = .ref b /\ Rd H l (.lst xs) /\ Rd H b (.lst zs) /\ xs.length + zs.length <= sizeLine /\ ∀ p, H p = none -> Q (.ref p) (upd H p (.lst (xs ++ zs)))
theorem Rd.lstM {X : Cx} {pins : List (Addr × Obj)} {σ : St} {H : Hp} {s : Shared} {l : Addr} {xs : List V} (I : Inv X pins σ H s) (hH : Rd H l (.lst xs)) : xs.length <= sizeLine /\ ∃ (its : List Value) (n : Nat), Vals xs its /\ xs.length = its.length /\ s.heap.get? l = some { cls := .type "list", data := .seq its.toArray n } := by
 obtain ⟨z, its, n, r, e⟩ := hH.ok I.hok
 exact ⟨z, its, n, r, r.length, e⟩
section
variable {X : Cx}
theorem dW : OpR X (binaryOp .Add) rCatR := by
 intro pins s σ H x y v u Q I rx ry h
 obtain ⟨l, b, xs, zs, rfl, rfl, hH, hB, hz, q⟩ := h
 cases rx
 cases ry
 obtain ⟨z, its, n, r, hl, e⟩ := Rd.lstM I hH
 obtain ⟨z2, its2, n2, r2, hl2, e2⟩ := Rd.lstM I hB
 refine PySem.P.add_list e e2 ?_ (by rw [List.size_toArray, List.size_toArray]; bv_omega)
 have ea : its.toArray ++ its2.toArray = (its ++ its2).toArray := by simp
 rw [ea]
 exact ⟨.ref _, _, I.lnew (t' := s.toks) (r.append r2) (by rw [List.length_append]; bv_omega), rfl, q _ I.fresh⟩
def rRepR : R2 := fun x y H Q => ∃ l k xs, x = .ref l /\ y = .int k /\ Rd H l (.lst xs) /\ -(2 ^ 63) <= k /\ k < 2 ^ 63 /\ xs.length * k.toNat <= sizeLine /\
 ∀ p, H p = none -> Q (.ref p) (upd H p (.lst (List.replicate k.toNat xs).flatten))
theorem aE : OpR X (binaryOp .Mult) rRepR := by
 intro pins s σ H x y v u Q I rx ry h
 obtain ⟨l, k, xs, rfl, rfl, hH, h1, h2, hz, q⟩ := h
 cases rx
 obtain ⟨t, rfl⟩ := ry
 obtain ⟨z, its, n, r, hl, e⟩ := Rd.lstM I hH
 have hlen : its.toArray.size * k.toNat <= sizeLine := by rw [List.size_toArray, <- hl]; exact hz
 have hcap : ¬ its.toArray.size * k.toNat > (2 ^ 63 - 1) / 8 := by
  have : (sizeLine : Nat) <= (2 ^ 63 - 1) / 8 := by decide
  bv_omega
 have hfit : ¬ (!Builtin.List.listFitsIndex k) = true := by
  rw [fitsIndex_both h1 h2]
  exact Bool.false_ne_true
 have hlong : ¬ Builtin.List.listTooLong (its.toArray.size * k.toNat) = true := by
  rw [notLongL hlen]
  exact Bool.false_ne_true
 have hnew : List.foldl (fun x1 x2 => x1 ++ x2) #[] (List.replicate (if its.toArray.isEmpty = true then 0 else k.toNat) its.toArray) = (List.replicate k.toNat its).flatten.toArray := by
  have f0 : ∀ m : Nat, List.foldl (fun x1 x2 => x1 ++ x2) #[] (List.replicate m its.toArray) = (List.replicate m its).flatten.toArray := fun m => by
   have := zY1 its m []
   rw [List.nil_append] at this
   exact this
  rw [f0]
  cases its with
  | nil => simp
  | cons a r' => rw [if_neg (by simp)]
 refine wpAny_binaryOp_repeat_ref (T := "list") (U := "int") (by decide) ⟨_, e, rfl⟩ (fun s' => typeIs_int s' k t) noFill_list_mul F.fills_int_mul F.slot_int_rmul repeat_list F.slot_int_index.lookup
  (call_meets F.slot_int_rmul (typeIs_int s k t) F.entry_int_rmul (F.args_int_rmul_2 _ _) (int___rmul___int_list k t l its.toArray n)
   ⟨e, rfl, ⟨_, e, rfl⟩, call_meets F.slot_list_mul ⟨_, e, rfl⟩ F.entry_list_mul (F.args_list_mul_2 _ _) (AutoListH.list___mul___list_int_3 l its.toArray n k t hfit hcap hlong) ⟨e, ?_⟩⟩)
 rw [hnew]
 exact ⟨.ref _, _, I.lnew (t' := s.toks) (r.rep k.toNat) (by rw [yJ8, Nat.mul_comm]; exact hz), rfl, q _ I.fresh⟩
end
def catL : D -> D -> Option D
 | .list xs, .list ys => if xs.length + ys.length <= sizeLine then some (.list (xs ++ ys)) else none
 | _, _ => none
theorem bP : Pr2 rCatR .new catL := by
 intro Oc Ob H x y dx dy d Q oh vx vy e k
 cases dx with
 | list xs =>
  cases dy with
  | list ys =>
   obtain ⟨a, vs, rfl, rd, rs⟩ := vx.list
   obtain ⟨b, ws, rfl, rd', rs'⟩ := vy.list
   unfold catL at e
   simp only at e
   split at e
   ·rename_i hl
    cases e
    refine ⟨a, b, vs, ws, rfl, rfl, rd, rd', by rw [rs.length, rs'.length]; exact hl, fun p hp => k _ _ (Same.new hp) (xF (Same.refl H) hp (rs.append rs'))⟩
   ·cases e
  | _ => cases e
 | _ => cases e
def repL : D -> D -> Option D
 | .list xs, .int k => if -(2 ^ 63) <= k /\ k < 2 ^ 63 /\ xs.length * k.toNat <= sizeLine then some (.list (List.replicate k.toNat xs).flatten) else none
 | _, _ => none
theorem zP5 : Pr2 rRepR .new repL := by
 intro Oc Ob H x y dx dy d Q oh vx vy e k
 cases dx with
 | list xs =>
  cases dy with
  | int j =>
   obtain ⟨a, vs, rfl, rd, rs⟩ := vx.list
   unfold repL at e
   simp only at e
   split at e
   ·rename_i hl
    cases e
    refine ⟨a, j, vs, rfl, vy.int, rd, hl.1, hl.2.1, by rw [rs.length]; exact hl.2.2, fun p hp => k _ _ (Same.new hp) (xF (Same.refl H) hp (rs.rep _))⟩
   ·cases e
  | _ => cases e
 | _ => cases e
def lenD : List D -> Option D
 | [d] => (seqD d).map fun ds => .int ds.length
 | _ => none
theorem xK {K : KFr} : PrC (fun xs H Q => ∃ p ys, xs = [.ref p] /\ (SqL K H p ys \/ SqT K H p ys) /\ Q (.int ys.length) H) .cl lenD := by
 intro Oc Ob H vs ds d Q oh va e k
 cases ds with
 | nil => cases e
 | cons x xs =>
  cases xs with
  | cons => cases e
  | nil =>
   obtain ⟨v, rfl, vx⟩ := va.one
   obtain ⟨es, e1, rfl⟩ := Option.map_eq_some_iff.mp e
   cases x with
   | list ds' =>
    cases e1
    obtain ⟨a, ys, rfl, rd, rs⟩ := vx.list
    exact ⟨a, ys, rfl, .inl (.inl rd), k _ H (Same.refl H) (by rw [rs.length]; exact Rep.int _)⟩
   | tuple ds' =>
    cases e1
    obtain ⟨a, ys, rfl, rd, rs⟩ := vx.tuple
    exact ⟨a, ys, rfl, .inr (.inl rd), k _ H (Same.refl H) (by rw [rs.length]; exact Rep.int _)⟩
   | _ => cases e1
def listD : List D -> Option D
 | [d] => (seqD d).map fun ds => .list ds
 | _ => none
def tupD : List D -> Option D
 | [d] => (seqD d).map fun ds => .tuple ds
 | _ => none
theorem kO {K : KFr} : PrC (fun xs H Q => ∃ p ys, xs = [.ref p] /\ ((SqL K H p ys /\ ∀ l, H l = none -> Q (.ref l) (upd H l (.tup ys))) \/ (SqT K H p ys /\ Q (.ref p) H))) .cl tupD := by
 intro Oc Ob H vs ds d Q oh va e k
 cases ds with
 | nil => cases e
 | cons x xs =>
  cases xs with
  | cons => cases e
  | nil =>
   obtain ⟨v, rfl, vx⟩ := va.one
   obtain ⟨es, e1, rfl⟩ := Option.map_eq_some_iff.mp e
   cases x with
   | list ds' =>
    cases e1
    obtain ⟨a, ys, rfl, rd, rs⟩ := vx.list
    exact ⟨a, ys, rfl, .inl ⟨.inl rd, fun l hl => k _ _ (Same.new hl) (zJ1 oh hl rs)⟩⟩
   | tuple ds' =>
    cases e1
    rcases vx with vx | ⟨a, ys, ds, rfl, ez, _⟩
    ·cases vx with
     | tup rd n rs => exact ⟨_, _, rfl, .inr ⟨.inl rd, k _ H (Same.refl H) (.tup rd n rs)⟩⟩
    ·cases ez
   | _ => cases e1
def intsOf : List D -> Option (List Int)
 | [] => some []
 | .int i :: ds => (intsOf ds).map (i :: ·)
 | _ :: _ => none
@[simp] theorem intsOf_map : ∀ ns : List Int, intsOf (ns.map PyData.int) = some ns
 | [] => rfl
 | n :: ns => by rw [List.map_cons, intsOf, intsOf_map ns]; rfl
theorem dN : ∀ {ds : List D} {ns : List Int}, intsOf ds = some ns -> ds = ns.map PyData.int
 | [], ns, h => by cases h; rfl
 | d :: ds, ns, h => by
  cases d with
  | int i =>
   obtain ⟨ms, e, rfl⟩ := Option.map_eq_some_iff.mp (show (intsOf ds).map (i :: ·) = some ns from h)
   rw [dN e]; rfl
  | _ => cases h
def boolsOf : List D -> Option (List Bool)
 | [] => some []
 | .bool i :: ds => (boolsOf ds).map (i :: ·)
 | _ :: _ => none
@[simp] theorem boolsOf_map : ∀ ns : List Bool, boolsOf (ns.map PyData.bool) = some ns
 | [] => rfl
 | n :: ns => by rw [List.map_cons, boolsOf, boolsOf_map ns]; rfl
theorem fL : ∀ {ds : List D} {ns : List Bool}, boolsOf ds = some ns -> ds = ns.map PyData.bool
 | [], ns, h => by cases h; rfl
 | d :: ds, ns, h => by
  cases d with
  | bool i =>
   obtain ⟨ms, e, rfl⟩ := Option.map_eq_some_iff.mp (show (boolsOf ds).map (i :: ·) = some ns from h)
   rw [fL e]; rfl
  | _ => cases h
def nsD (d : D) : Option (List Int) := (seqD d).bind intsOf
theorem xZ5 {K : KFr} {Oc : Wd} {Ob : Addr -> Prop} {H : Hp} {x : V} {d : D} {ns : List Int} (h : VA Oc Ob H x d) (e : nsD d = some ns) : ∃ p, x = .ref p /\ (SqL K H p (ns.map V.int) \/ SqT K H p (ns.map V.int)) := by
 obtain ⟨ds, e1, e2⟩ := Option.bind_eq_some_iff.mp e
 obtain rfl := dN e2
 cases d with
 | list ds' =>
  cases e1
  obtain ⟨a, ys, rfl, rd, rs⟩ := h.list
  rw [rs.ints] at rd
  exact ⟨a, rfl, .inl (.inl rd)⟩
 | tuple ds' =>
  cases e1
  obtain ⟨a, ys, rfl, rd, rs⟩ := h.tuple
  rw [rs.ints] at rd
  exact ⟨a, rfl, .inr (.inl rd)⟩
 | _ => cases e1
def sortI (ns : List Int) : List Int := ns.mergeSort (fun a b => decide (a <= b))
theorem kA (ns : List Int) : (sortI ns).Perm ns := List.mergeSort_perm _ _
theorem fQ (ns : List Int) : (sortI ns).Pairwise (· <= ·) := by
 have := List.pairwise_mergeSort (le := fun a b : Int => decide (a <= b)) (fun a b c h1 h2 => by simp at *; bv_omega) (fun a b => by simp; bv_omega) ns
 exact this.imp fun h => by simpa using h
theorem zG4 {as bs : List Int} (p : as.Perm bs) (ha : as.Pairwise (· <= ·)) (hb : bs.Pairwise (· <= ·)) : as = bs := by
 induction as generalizing bs with
 | nil => exact (List.nil_perm.mp p).symm
 | cons a as ih =>
  cases bs with
  | nil => exact absurd p.symm (by intro h; have := h.length_eq; simp at this)
  | cons b bs =>
   have h1 : a <= b := by
    have : b ∈ a :: as := p.symm.subset List.mem_cons_self
    rcases List.mem_cons.mp this with z | z
    ·bv_omega
    ·exact (List.pairwise_cons.mp ha).1 b z
   have h2 : b <= a := by
    have : a ∈ b :: bs := p.subset List.mem_cons_self
    rcases List.mem_cons.mp this with z | z
    ·bv_omega
    ·exact (List.pairwise_cons.mp hb).1 a z
   have e : a = b := by bv_omega
   subst e
   rw [ih (List.Perm.cons_inv p) (List.pairwise_cons.mp ha).2 (List.pairwise_cons.mp hb).2]
def sortD : List D -> Option D
 | [d] => (nsD d).bind fun ns => if ns.length < 64 then some (.list ((sortI ns).map PyData.int)) else none
 | _ => none
theorem zI8 {K : KFr} : PrC (fun xs H Q => ∃ (p : Addr) (ns : List Int), xs = [.ref p] /\ (SqL K H p (ns.map V.int) \/ SqT K H p (ns.map V.int)) /\ ns.length < 64 /\
  ∀ (l : Addr) (ms : List Int), H l = none -> ms.Perm ns -> ms.Pairwise (· <= ·) -> Q (.ref l) (upd H l (.lst (ms.map V.int)))) .new sortD := by
 intro Oc Ob H vs ds d Q oh va e k
 unfold sortD at e
 split at e
 ·obtain ⟨ns, e1, e⟩ := Option.bind_eq_some_iff.mp e
  split at e
  ·rename_i hl
   cases e
   obtain ⟨v, rfl, vx⟩ := va.one
   obtain ⟨p, rfl, hq⟩ := xZ5 vx e1
   refine ⟨p, ns, rfl, hq, hl, fun l ms hp h1 h2 => ?_⟩
   have : ms = sortI ns := zG4 (h1.trans (kA ns).symm) h2 (fQ ns)
   subst this
   exact k _ _ (Same.new hp) (xF (Same.refl H) hp (fJ _))
  ·cases e
 ·cases e
def allD : List D -> Option D
 | [.list ds] => (boolsOf ds).map fun bs => .bool (bs.all id)
 | _ => none
theorem yV9 {K : KFr} : PrC (fun xs H Q => ∃ (p : Addr) (bs : List Bool), xs = [.ref p] /\ SqL K H p (bs.map V.bl) /\ Q (.bl (bs.all id)) H) .cl allD := by
 intro Oc Ob H vs ds d Q oh va e k
 unfold allD at e
 split at e
 ·obtain ⟨ns, e1, rfl⟩ := Option.map_eq_some_iff.mp e
  obtain ⟨v, rfl, vx⟩ := va.one
  obtain ⟨a, ys, rfl, rd, rs⟩ := vx.list
  rw [fL e1] at rs
  rw [rs.bools] at rd
  exact ⟨a, ns, rfl, .inl rd, k _ H (Same.refl H) (Rep.bl _)⟩
 ·cases e
def tyD : D -> String
 | .none => "NoneType"
 | .bool _ => "bool"
 | .int _ => "int"
 | .str _ => "str"
 | .list _ => "list"
 | .tuple _ => "tuple"
 | .dict _ => "dict"
def subTy (t T : String) : Bool := t == T || (t == "bool" && T == "int")
structure Kit (K : KFr) (T : String) : Prop where
 non : PySem.W.kitOne K (.type "NoneType") (.type T) = some (subTy "NoneType" T)
 bl : PySem.W.kitOne K (.type "bool") (.type T) = some (subTy "bool" T)
 int : PySem.W.kitOne K (.type "int") (.type T) = some (subTy "int" T)
 str : PySem.W.kitOne K (.type "str") (.type T) = some (subTy "str" T)
 lst : PySem.W.kitOne K (.type "list") (.type T) = some (subTy "list" T)
 tup : PySem.W.kitOne K (.type "tuple") (.type T) = some (subTy "tuple" T)
def TyR (K : KFr) (H : Hp) (x : V) (t : Value) : Prop := TyOf K H x t \/ ∃ a xs, x = .ref a /\ Rd H a (.tup xs) /\ t = .type "tuple"
section
variable {X : Cx}
theorem zA4 : CallR X (.builtin "isinstance") (fun vs H Q => ∃ x c cv t b, vs = [x, c] /\ clsV c = some cv /\ TyR X.K H x t /\ PySem.W.kitOne X.K t cv = some b /\ Q (.bl b) H) := by
 intro pins s σ H xs us Q I r h
 obtain ⟨x, c, cv, t, b, rfl, ec, ty, k, q⟩ := h
 obtain ⟨u, w', rfl, ru, rw'⟩ := vals2 r
 obtain rfl := zP6 rw' ec
 rcases ty with ty | ⟨a, xs, rfl, rd, rfl⟩
 ·exact yZ8 I ru ty k fun tk => ⟨.bl b, H, I.tok tk, rfl, q⟩
 ·cases ru
  obtain ⟨_, _, _, p⟩ := rd.ok I.hok
  obtain ⟨o, h1, h2, _⟩ := p
  exact PySem.W.kia_one PySem.W.kitx_tuple I.kIn ⟨o, h1, h2⟩ k (fun z => nomatch z) fun tk => ⟨.bl b, H, I.tok tk, rfl, q⟩
end
def isiD (T : String) : D -> Option D
 | .dict _ => none
 | d => some (.bool (subTy (tyD d) T))
theorem yY4 {T : String} {d r : D} (h : isiD T d = some r) : (∀ k, d ≠ .dict k) /\ r = .bool (subTy (tyD d) T) := by
 cases d <;> first | (cases h; done) | (cases h; exact ⟨(fun k z => nomatch z), rfl⟩)
theorem xT8 {K : KFr} {Oc : Wd} {Ob : Addr -> Prop} {H : Hp} {x : V} {d : D} {T : String} (h : VA Oc Ob H x d) (k : Kit K T) (nd : ∀ k, d ≠ .dict k) : ∃ t, TyR K H x t /\ PySem.W.kitOne K t (.type T) = some (subTy (tyD d) T) := by
 rcases h with h | ⟨a, ys, ds, rfl, rfl, e3, e5⟩
 ·cases h with
  | non => exact ⟨_, .inl .non, k.non⟩
  | bl b => exact ⟨_, .inl (.bl b), k.bl⟩
  | int i => exact ⟨_, .inl (.int i), k.int⟩
  | str x => exact ⟨_, .inl (.str x), k.str⟩
  | lst r n t =>
   rcases r with r | ⟨o, r⟩
   ·exact ⟨_, .inl (.lst r), k.lst⟩
   ·exact ⟨_, .inl (.frz r), k.lst⟩
  | tup r n t => exact ⟨_, .inr ⟨_, _, rfl, r, rfl⟩, k.tup⟩
  | exc r w n => exact absurd rfl (nd _)
 ·exact ⟨_, .inl (.lst e3), k.lst⟩
theorem yU2 {C : Ct} {e : Expr} {T : String} {x : Str} {p p2 pos : Pos} {md : Md} {me : Ev -> Res D} (k : Kit C.X.K T) (hm : C.X.mg "isinstance" = none) (hx : C.X.mg x = none) (hv : bootBuiltins x = some (.type T)) (he : RE C md e me) (hg : autoParam (Gl C.X "isinstance") zZ._auto_1) (hgx : autoParam (Gl C.X x) zZ._auto_1) (hn : autoParam (x ≠ "__name__") zO._auto_1) (hdb : autoParam ((x == ("__debug__" : Str)) = false) zO._auto_1)
  (hs1 : autoParam (starEach [e, .Name x p2] C.X.env = (false, eval e C.X.env) :: starEach [.Name x p2] C.X.env) zZ._auto_1) (hs2 : autoParam (starEach [.Name x p2] C.X.env = (false, eval (.Name x p2) C.X.env) :: starEach [] C.X.env) zZ._auto_1) (hpl : autoParam ((backTo pos (starEach [.Name x p2] C.X.env)).any (·.1) = false) zZ._auto_1) :
  RE C .cl (.Call (.Name "isinstance" p) [e, .Name x p2] [] pos) (e1 (isiD T) me) := by
 obtain ⟨t, pe, q⟩ := he
 refine ⟨_, jO zA4 hg hm PyProof.Rows.boot_isinstance (yQ pe (yQ (zI3 (v := .ty T) hgx hx hv rfl hn hdb) wP hs2) hs1) (by decide) (by decide) hs1 hpl, fun Oc Ob σ H ρ Q R h => q Oc Ob σ H ρ _ R (Res.zW (Res.zX h) (fun d _ kk v H' s r => ?_) fun _ z => z)⟩
 obtain ⟨dd, ed, kk⟩ := Res.zL kk
 obtain ⟨nd, rfl⟩ := yY4 ed
 obtain ⟨tt, ty, kt⟩ := xT8 (r.va R.oh) k nd
 exact ⟨v, .ty T, .type T, tt, _, rfl, rfl, ty, kt, kk _ H' s (Rep.bl _)⟩
section
variable {prog : Program} {w : World} {A : Around} {E : Value -> Shared -> Prop} {s : Shared} {l : Addr} {xs : Array (Int × Tok)} {Q : Value -> Shared -> Prop}
end
section
variable {X : Cx}
end
theorem gW {α β : Type} {F : α -> β -> Prop} : ∀ {as : List α} {bs : List β}, as.length = bs.length -> (∀ (i : Nat) a b, as[i]? = some a -> bs[i]? = some b -> F a b) -> Paired F as bs
 | [], [], _, _ => .nil
 | [], _ :: _, h, _ => by cases h
 | _ :: _, [], h, _ => by cases h
 | a :: as, b :: bs, h, f => .cons (f 0 a b rfl rfl) (gW (Nat.succ.inj h) fun i x y hx hy => f (i + 1) x y (by simpa using hx) (by simpa using hy))
section
variable {X : Cx}
theorem zA1 : CallR X (.type "range") (fun xs H Q => ∃ j : Int, xs = [.int j] /\ ∀ p, H p = none -> Q (.ref p) (upd H p (.rng 0 j))) := by
 intro pins s σ H xs us Q I r h
 obtain ⟨j, rfl, q⟩ := h
 obtain ⟨u, rfl, t, rfl⟩ := vals1 r
 exact call_range_1 ⟨.ref s.heap.objs.size, _, I.laid (t' := s.toks + 1 + 1) (o := .rng 0 j) (fun b o e => Heap.get?_push_of_some _ e) (Nat.le_refl _) ⟨_, _, _, Heap.get?_push_size _ rfl⟩, rfl, q _ (I.hok.fresh (Nat.le_refl _))⟩
theorem zW7 (hc : X.calm = true) : CallR X (.type "list") (fun xs H Q => ∃ (p : Addr) (j : Int), xs = [.ref p] /\ H p = some (.rng 0 j) /\ -(2 ^ 62) <= j /\ j.toNat <= 1000000 /\ ∀ l, H l = none -> Q (.ref l) (upd H l (.lst ((List.range j.toNat).map fun (i : Nat) => V.int (i : Int))))) := by
 intro pins s σ H xs us Q I r h
 obtain ⟨p, j, rfl, hp, hs, hj, q⟩ := h
 obtain ⟨u, rfl, ru⟩ := vals1 r
 cases ru
 obtain ⟨t, u, v, e⟩ := I.hok p _ hp
 refine call_list_range (n := j.toNat) (I.ok.hd hc) e (small_one (by bv_omega) (by bv_omega) hs (by bv_omega)) ?_ (by bv_omega) fun h' tk acc' c' hk hS hacc => ?_
 ·rw [rangeSize_one]; split <;> bv_omega
 ·have hv : Vals ((List.range j.toNat).map fun (i : Nat) => V.int (i : Int)) acc'.toList := by
   obtain ⟨h1, h2⟩ := hacc
   refine gW ?_ ?_
   ·rw [List.length_map, List.length_range, Array.length_toList, h1]
   ·intro i a b ha hb
    rw [List.getElem?_map] at ha
    have hi : i < j.toNat := by
     have := (List.getElem?_eq_some_iff.mp hb).1
     rw [Array.length_toList, h1] at this
     exact this
    rw [List.getElem?_range hi] at ha
    cases ha
    obtain ⟨t, e⟩ := h2 i b (by simpa using hb)
    refine ⟨t, ?_⟩
    rw [e]
    simp
  refine ⟨.ref s.heap.objs.size, _, I.laid (t' := tk) (o := .lst ((List.range j.toNat).map fun (i : Nat) => V.int (i : Int))) hk (Nat.le_refl _) ⟨?_, acc'.toList, c', hv, by simpa using hS⟩, rfl, q _ (I.hok.fresh (Nat.le_refl _))⟩
  rw [List.length_map, List.length_range]
  exact Nat.le_of_lt (Nat.lt_of_le_of_lt hj (by decide))
end
def rangeL : List D -> Option D
 | [.int j] => if -(2 ^ 62) <= j /\ j.toNat <= 1000000 then some (.list ((List.range j.toNat).map fun (i : Nat) => PyData.int (i : Int))) else none
 | _ => none
theorem yZ6 {H : Hp} {O : Addr -> Prop} (l : List Nat) : Reps H O (l.map fun (i : Nat) => V.int (i : Int)) (l.map fun (i : Nat) => PyData.int (i : Int)) := by
 induction l with
 | nil => exact .nil
 | cons a l ih => exact .cons (.int _) ih
theorem gQ {C : Ct} {a : Expr} {p p2 pos pos2 : Pos} {ms : Ev -> Res (List D)} (hl : C.X.mg "list" = none) (hm : C.X.mg "range" = none) (ha : RArg C false [a] ms) (hc : autoParam (C.X.calm = true) zZ._auto_1) (hgl : autoParam (Gl C.X "list") zZ._auto_1) (hg : autoParam (Gl C.X "range") zZ._auto_1)
  (hs : autoParam (starEach [a] C.X.env = (false, eval a C.X.env) :: starEach [] C.X.env) zZ._auto_1) (hs2 : autoParam (starEach [.Call (.Name "range" p2) [a] [] pos2] C.X.env = (false, eval (.Call (.Name "range" p2) [a] [] pos2) C.X.env) :: starEach [] C.X.env) zZ._auto_1)
  (hpl : autoParam ((backTo pos (starEach [] C.X.env)).any (·.1) = false) zZ._auto_1) (hpl2 : autoParam ((backTo pos2 (starEach [] C.X.env)).any (·.1) = false) zZ._auto_1) :
  RE C .new (.Call (.Name "list" p) [.Call (.Name "range" p2) [a] [] pos2] [] pos) (eB rangeL ms) := by
 obtain ⟨t, pa, q⟩ := ha
 refine ⟨_, gL (zW7 hc) hgl hl (by rfl) (yQ (gL zA1 hg hm (by rfl) pa (by decide) (by decide) hs hpl2) wP hs2) (by decide) (by decide) hs2 hpl, fun Oc Ob σ H ρ Q R h => q Oc Ob σ H ρ _ R (Res.zW (Res.zX h) (fun ds _ k vs H1 s1 r => ?_) fun _ z => z)⟩
 obtain ⟨d, e, k⟩ := Res.zL k
 unfold rangeL at e
 split at e
 ·split at e
  ·rename_i hb
   cases e
   obtain ⟨v, rfl, va⟩ := VAs.one r
   obtain rfl := va.int
   refine ⟨_, rfl, fun p hp => ⟨p, _, rfl, zJ, hb.1, hb.2, fun l hl => ?_⟩⟩
   exact k _ _ ((s1.trans (Same.new hp)).trans (Same.new hl)) (xF (s1.trans (Same.new hp)) hl (yZ6 _))
  ·cases e
 ·cases e
section
variable {X : Cx}
def rExtR : V -> List V -> Hp -> VK -> Prop := fun x vs H Q => ∃ l b xs zs, x = .ref l /\ vs = [.ref b] /\ H l = some (.lst xs) /\ (Rd H b (.lst zs) \/ Rd H b (.tup zs)) /\ xs.length + zs.length <= sizeLine /\ Q .non (upd H l (.lst (xs ++ zs)))
theorem yJ4 : MtM X "list.extend" rExtR := by
 intro pins s σ H x vs v us Q I rx rv h
 obtain ⟨l, b, xs, zs, rfl, rfl, hH, hB, hz, q⟩ := h
 cases rx
 obtain ⟨u, rfl, ru⟩ := rv.one
 cases ru
 obtain ⟨z, its, n, r, hl, e⟩ := I.lstM hH
 have len : (xs ++ zs).length <= sizeLine := by rw [List.length_append]; exact hz
 rcases hB with hB | hB
 ·obtain ⟨z2, its2, n2, r2, hl2, e2⟩ := Rd.lstM I hB
  have hsz : its.toArray.size + its2.toArray.size <= sizeLine := by rw [List.size_toArray, List.size_toArray]; bv_omega
  have hlong : ¬ (!its.toArray.isEmpty && Builtin.List.listTooLong (its.toArray.size + its2.toArray.size)) = true := by
   rw [notLongL hsz, Bool.and_false]
   exact Bool.false_ne_true
  refine call_meets F.slot_list_extend ⟨_, e, rfl⟩ F.entry_list_extend (F.args_list_extend_2 _ _)
   (AutoSeq1.list_extend_list_list_0 l its.toArray n b its2.toArray n2 hlong (by rw [List.size_toArray]; bv_omega) (by bv_omega)) ⟨e, e2, ?_⟩
  exact ⟨.non, _, I.lset (its' := its ++ its2) hH e (by simp) (r.append r2) len, rfl, q⟩
 ·obtain ⟨z2, its2, r2, o, ho, hc, ⟨n2, hd⟩, _⟩ := hB.ok I.hok
  have hl2 := r2.length
  have hsz : its.toArray.size + its2.toArray.size <= sizeLine := by rw [List.size_toArray, List.size_toArray]; bv_omega
  refine call_meets F.slot_list_extend ⟨_, e, rfl⟩ F.entry_list_extend (F.args_list_extend_2 _ _)
   (yH2 hc hd hsz) ⟨e, ho, ?_⟩
  exact ⟨.non, _, I.lset (its' := its ++ its2) hH e (by simp) (r.append r2) len, rfl, q⟩
def insN (n : Nat) (x : Int) : Nat := if x < 0 then (x + (n : Int)).toNat else min x.toNat n
def rInsert : V -> List V -> Hp -> VK -> Prop := fun x vs H Q => ∃ l xs i y, x = .ref l /\ vs = [.int i, y] /\ H l = some (.lst xs) /\ -(2 ^ 63) <= i /\ i < 2 ^ 63 /\ xs.length < sizeLine /\ Q .non (upd H l (.lst (xs.take (insN xs.length i) ++ y :: xs.drop (insN xs.length i))))
theorem yV5 : MtM X "list.insert" rInsert := by
 intro pins s σ H x vs v us Q I rx rv h
 obtain ⟨l, xs, i, y, rfl, rfl, hH, h1, h2, hz, q⟩ := h
 cases rx
 obtain ⟨u, w', rfl, ⟨t, rfl⟩, ry⟩ := rv.two
 obtain ⟨z, its, n, r, hl, e⟩ := I.lstM hH
 refine call_meets F.slot_list_insert ⟨_, e, rfl⟩ F.entry_list_insert (F.args_list_insert_3 _ _ _) (AutoSeq1.list_insert_list_int_val_1 l its.toArray n i t w' (by rw [fitsIndex_both h1 h2]; exact Bool.false_ne_true) (by rw [List.size_toArray]; bv_omega)) ⟨e, ?_⟩
 refine ⟨.non, _, I.lset (its' := its.take (insN its.length i) ++ w' :: its.drop (insN its.length i)) hH e ?_ (by rw [hl]; exact (r.take _).append (.cons ry (r.drop _))) ?_, rfl, q⟩
 ·show (its.toArray.extract 0 (if i < 0 then (i + (its.toArray.size : Int)).toNat else min i.toNat its.toArray.size)).push w' ++ its.toArray.extract (if i < 0 then (i + (its.toArray.size : Int)).toNat else min i.toNat its.toArray.size) = _
  rw [PySem.W.kl_ins_eq, List.size_toArray]
  rfl
 ·rw [List.length_append, List.length_cons, List.length_take, List.length_drop]
  bv_omega
end
def appD : List D -> List D -> Option (List D)
 | xs, [d] => if xs.length < sizeLine then some (xs ++ [d]) else none
 | _, _ => none
def extD : List D -> List D -> Option (List D)
 | xs, [d] => (seqD d).bind fun ys => if xs.length + ys.length <= sizeLine then some (xs ++ ys) else none
 | _, _ => none
def insD : List D -> List D -> Option (List D)
 | xs, [.int i, d] => if -(2 ^ 63) <= i /\ i < 2 ^ 63 /\ xs.length < sizeLine then some (xs.take (insN xs.length i) ++ d :: xs.drop (insN xs.length i)) else none
 | _, _ => none
theorem Reps.one' {H : Hp} {O : Addr -> Prop} {vs : List V} {d : D} (h : Reps H O vs [d]) : ∃ v, vs = [v] /\ Rep H O v d := by
 cases h with
 | cons a t => cases t; exact ⟨_, rfl, a⟩
theorem Reps.two' {H : Hp} {O : Addr -> Prop} {vs : List V} {d d' : D} (h : Reps H O vs [d, d']) : ∃ v v', vs = [v, v'] /\ Rep H O v d /\ Rep H O v' d' := by
 cases h with
 | cons a t =>
  obtain ⟨v, rfl, q⟩ := Reps.one' t
  exact ⟨_, _, rfl, a, q⟩
theorem vE : PrM rAppend appD := by
 intro O H l xs vs xd ad ds' Q hl rx ra e k
 unfold appD at e
 split at e
 ·split at e
  ·rename_i h
   cases e
   obtain ⟨v, rfl, rv⟩ := Reps.one' ra
   exact ⟨l, xs, v, rfl, rfl, hl, by rw [rx.length]; exact h, k _ (rx.append (.one rv))⟩
  ·cases e
 ·cases e
theorem yV6 : PrM rInsert insD := by
 intro O H l xs vs xd ad ds' Q hl rx ra e k
 unfold insD at e
 split at e
 ·split at e
  ·rename_i h
   cases e
   obtain ⟨v, v', rfl, rv, rv'⟩ := Reps.two' ra
   cases rv
   refine ⟨l, xs, _, v', rfl, rfl, hl, h.1, h.2.1, by rw [rx.length]; exact h.2.2, ?_⟩
   rw [rx.length]
   exact k _ (Reps.insert rv' _ rx)
  ·cases e
 ·cases e
def Kp (i : Nat) (m : Ev -> Res Out) : Prop := ∀ ρ o, m ρ = .ok (.nx o) -> o[i]? = ρ[i]?
def KpG (i : Nat) (g : D -> Ev -> Option Ev) : Prop := ∀ d ρ o, g d ρ = some o -> o[i]? = ρ[i]?
theorem bind_some {α β : Type} {r : Res α} {f : α -> Res β} {b : β} (h : r.bind f = .ok b) : ∃ a, r = .ok a /\ f a = .ok b := by
 cases r with
 | ok a => exact ⟨a, rfl, h⟩
 | ex c => cases h
 | no => cases h
theorem yG8 {α : Type} {o : Option α} {a : α} (h : Res.lft o = .ok a) : o = some a := by
 cases o with
 | none => cases h
 | some b => cases h; rfl
section
variable {i j : Nat} {m n : Ev -> Res Out} {t : Ev -> Res Bool} {me mk : Ev -> Res D} {ms mi : Ev -> Res (List D)} {g : D -> Ev -> Option Ev} {f : List D -> List D -> Option (List D)}
theorem xT1 (h : autoParam ((i == j) = false) zZ._auto_1) : Kp i (sI j mk me) := fun ρ o e => by
 obtain ⟨_, _, e⟩ := bind_some e
 obtain ⟨_, _, e⟩ := bind_some e
 obtain ⟨_, _, e⟩ := bind_some e
 obtain ⟨_, _, e⟩ := bind_some e
 obtain ⟨_, _, e⟩ := bind_some e
 cases e
 exact List.getElem?_set_ne (fun z => by rw [z] at h; simp at h)
theorem yN6 (h : autoParam ((i == j) = false) zZ._auto_1) : KpG i (gN j) := fun d ρ o e => by
 cases e
 exact List.getElem?_set_ne (fun z => by rw [z] at h; simp at h)
theorem zI1 (hg : KpG i g) (hm : Kp i m) : ∀ (ds : List D) (ρ o : Ev), forM g m ds ρ = .ok (.nx o) -> o[i]? = ρ[i]?
 | [], ρ, o, e => by cases e; rfl
 | d :: ds, ρ, o, e => by
  rw [forM] at e
  obtain ⟨ρ1, e1, e⟩ := bind_some e
  obtain ⟨x, e2, e⟩ := bind_some e
  cases x with
  | nx ρ2 => exact (zI1 hg hm ds ρ2 o e).trans ((hm ρ1 ρ2 e2).trans (hg d ρ ρ1 (yG8 e1)))
  | rt d => cases e
theorem yN3 (hg : KpG i g) (hm : Kp i m) : Kp i (sF mi g m) := fun ρ o e => by
 obtain ⟨ds, _, e⟩ := bind_some e
 exact zI1 hg hm ds ρ o e
end
def isL : Value -> Bool
 | .type t => t == "list"
 | _ => false
def noLst (K : KFr) : Bool := K.all fun p => !isL p.2.cls
theorem zN6 {K : KFr} {a : Addr} {o : Obj} (h : K.lookup a = some o) : (a, o) ∈ K := by
 have h : List.lookup a K = some o := h
 induction K with
 | nil => cases h
 | cons p r ih =>
  obtain ⟨b, u⟩ := p
  rw [List.lookup_cons] at h
  by_cases e : (a == b) = true
  ·simp only [e] at h
   cases h
   have : a = b := by simpa using e
   rw [this]
   exact List.mem_cons_self
  ·simp only [e] at h
   exact List.mem_cons_of_mem _ (ih h h)
theorem xT6 {K : KFr} {H : Hp} {a : Addr} {xs : List V} (hn : noLst K = true) (h : SqL K H a xs) : Rd H a (.lst xs) := by
 rcases h with h | ⟨o, its, n, hk, hc, _⟩
 ·exact h
 ·have := List.all_eq_true.mp hn _ (zN6 hk)
  rw [hc] at this
  cases this
end L2.L3
namespace L2.L3
open PySem
section
variable (m n : Ev -> Res Out) (t t' : Ev -> Res Bool) (a b c : Ev -> Res D) (xs : Ev -> Res (List D)) (ρ : Ev) (i j : Nat) (d : D)
theorem xT9 : sN ρ = .ok (.nx ρ) := rfl
theorem xT4 : sX ρ = .no := rfl
theorem bO : sQ m n ρ = (m ρ).bind fun o => match o with | .nx ρ' => n ρ' | .rt d => .ok (.rt d) := rfl
theorem fV : sIf t m n ρ = (t ρ).bind fun k => if k then m ρ else n ρ := rfl
theorem zV6 : sR a ρ = (a ρ).bind fun d => .ok (.rt d) := rfl
theorem xW8 : sS i a ρ = (a ρ).bind fun d => .ok (.nx (ρ.set i (some d))) := rfl
theorem xU4 : sE a ρ = (a ρ).bind fun _ => .ok (.nx ρ) := rfl
theorem xU7 (g : List D -> List D -> Option (List D)) : sM i g xs ρ = (eV i ρ).bind fun d => (Res.lft (lstD d)).bind fun xd => (xs ρ).bind fun ad => (Res.lft (g xd ad)).bind fun ds => .ok (.nx (ρ.set i (some (.list ds)))) := rfl
theorem xT2 : sI i b a ρ = (a ρ).bind fun v => (eV i ρ).bind fun d => (Res.lft (lstD d)).bind fun xd => (b ρ).bind fun k => (Res.lft (setD xd k v)).bind fun ds => .ok (.nx (ρ.set i (some (.list ds)))) := rfl
theorem xX9 : sV i j ρ = (eV j ρ).bind fun d => .ok (.nx ((ρ.set i (some d)).set j none)) := rfl
theorem xX7 (g : D -> Ev -> Option Ev) : sF xs g m ρ = (xs ρ).bind fun ds => forM g m ds ρ := rfl
theorem xU3 (k : Nat) : sW k t m ρ = whM t m k ρ := rfl
theorem zV7 : eC d ρ = .ok d := rfl
theorem eV0 (x : D) (r : Ev) : eV 0 (some x :: r) = .ok x := rfl
theorem eVs (o : Option D) (r : Ev) : eV (i + 1) (o :: r) = eV i r := rfl
theorem xT5 (f : D -> Option D) : e1 f a ρ = (a ρ).bind fun x => Res.lft (f x) := rfl
theorem zV9 (f : D -> D -> Option D) : e2 f a b ρ = (a ρ).bind fun x => (b ρ).bind fun y => Res.lft (f x y) := rfl
theorem zU8 (f : List D -> Option D) : eB f xs ρ = (xs ρ).bind fun ds => Res.lft (f ds) := rfl
theorem xT3 (f : List D -> Res D) : eF f xs ρ = (xs ρ).bind f := rfl
theorem xZ2 (fr : Bool) (f : List D -> Res D) : eFA fr f xs ρ = (xs ρ).bind fun ds => (f ds).bind fun d => if lfT fr d then .ok d else .no := rfl
theorem xV4 (f : D -> D -> Option Bool) : b2 f a b ρ = (a ρ).bind fun x => (b ρ).bind fun y => Res.lft (f x y) := rfl
theorem zU7 (f g : D -> D -> Option Bool) : b3 f g a b c ρ = (a ρ).bind fun x => (b ρ).bind fun y => (Res.lft (f x y)).bind fun k => if k then (c ρ).bind fun z => Res.lft (g y z) else .ok false := rfl
theorem zU1 : vB t ρ = (t ρ).bind fun k => .ok (.bool k) := rfl
theorem xV6 : tV a ρ = (a ρ).bind fun d => Res.lft (isB d) := rfl
theorem yB7 : tNt t ρ = (t ρ).bind fun k => .ok (!k) := rfl
theorem yC3 : tAn t t' ρ = (t ρ).bind fun k => if k then t' ρ else .ok false := rfl
theorem xW6 : tO t t' ρ = (t ρ).bind fun k => if k then .ok true else t' ρ := rfl
theorem bY : vAn a b ρ = (a ρ).bind fun d => (Res.lft (isB d)).bind fun k => if k then b ρ else .ok (.bool false) := rfl
theorem xV5 : vO a b ρ = (a ρ).bind fun d => (Res.lft (isB d)).bind fun k => if k then .ok (.bool true) else b ρ := rfl
theorem xX3 : vNt a ρ = (a ρ).bind fun d => (Res.lft (isB d)).bind fun k => .ok (.bool (!k)) := rfl
theorem yC1 : eIf t a b ρ = (t ρ).bind fun k => if k then a ρ else b ρ := rfl
theorem zU3 : aN ρ = .ok [] := rfl
theorem zU2 : aC a xs ρ = (a ρ).bind fun x => (xs ρ).bind fun r => .ok (x :: r) := rfl
theorem yN4 : iS a ρ = (a ρ).bind fun d => Res.lft (seqD d) := rfl
theorem xU1 (f : List D -> Option (List D)) : iR f xs ρ = (xs ρ).bind fun ds => Res.lft (f ds) := rfl
theorem xW2 : gN i d ρ = some (ρ.set i (some d)) := rfl
theorem yJ5 : tYes ρ = .ok true := rfl
theorem yT2 (mi : Ev -> Res (List D)) (js : List Nat) : eComp mi t a js ρ = (mi ρ).bind fun ds => if ds.length <= sizeLine then (compM (fun x => t (cEnv ρ js x)) (fun x => a (cEnv ρ js x)) ds).bind fun out => .ok (.list out) else .no := rfl
theorem xU5 (f : Int -> Int -> Option Int) (x y : Int) : i2 f (.int x) (.int y) = (f x y).map PyData.int := rfl
theorem zU5 (f : Int -> Int -> Bool) (x y : Int) : c2 f (.int x) (.int y) = some (f x y) := rfl
theorem yH4 (l : List D) : lstD (.list l) = some l := rfl
theorem yV3 (l : List D) : seqD (.list l) = some l := rfl
theorem yY1 (l : List D) : seqD (.tuple l) = some l := rfl
theorem bX (k : Bool) : isB (.bool k) = some k := rfl
theorem aD : lenD [d] = (seqD d).map fun ds => .int ds.length := rfl
theorem yQ1 : listD [d] = (seqD d).map fun ds => .list ds := rfl
theorem yI9 : tupD [d] = (seqD d).map fun ds => .tuple ds := rfl
theorem xX6 (l : List D) (k : Int) : ixD (.list l) (.int k) = atI l k := rfl
theorem xW1 (l : List D) (k : Int) : ixD (.tuple l) (.int k) = atI l k := rfl
theorem yL2 (k : Int) : negD (.int k) = some (.int (-k)) := rfl
theorem zV5 (k : Bool) : bD (some k) = some (.bool k) := rfl
end
theorem bI (fr : Bool) (d : D) : fin fr (.rt d) = .ok d := rfl
theorem yC5 (ρ : Ev) : fin false (.nx ρ) = .ok .none := rfl
theorem wW {g : D -> Ev -> Option Ev} {b : Ev -> Res Out} (P : Nat -> Ev -> Prop) (ds : List D) (ρ : Ev) (h0 : P 0 ρ) (hs : ∀ (i : Nat) d ρ, ds[i]? = some d -> P i ρ -> ∃ ρ1 ρ2, g d ρ = some ρ1 /\ b ρ1 = .ok (.nx ρ2) /\ P (i + 1) ρ2) :
  ∃ ρ', forM g b ds ρ = .ok (.nx ρ') /\ P ds.length ρ' := by
 induction ds generalizing P ρ with
 | nil => exact ⟨ρ, rfl, h0⟩
 | cons d ds ih =>
  obtain ⟨ρ1, ρ2, e1, e2, p⟩ := hs 0 d ρ rfl h0
  obtain ⟨ρ', e, p'⟩ := ih (fun i => P (i + 1)) ρ2 p fun i d ρ hd hp => hs (i + 1) d ρ (by simpa using hd) hp
  refine ⟨ρ', ?_, by simpa using p'⟩
  rw [forM, e1, Res.lft_some, Res.bind_ok, e2, Res.bind_ok]
  exact e
theorem zO8 {t : Ev -> Res Bool} {b : Ev -> Res Out} (P : Nat -> Ev -> Prop) (n : Nat) : ∀ (fuel : Nat) (ρ : Ev), P 0 ρ -> (∀ i ρ, i < n -> P i ρ -> t ρ = .ok true /\ ∃ ρ2, b ρ = .ok (.nx ρ2) /\ P (i + 1) ρ2) -> (∀ ρ, P n ρ -> t ρ = .ok false) -> n < fuel -> ∃ ρ', whM t b fuel ρ = .ok (.nx ρ') /\ P n ρ' := by
 induction n generalizing P with
 | zero =>
  intro fuel ρ h0 _ he hf
  obtain ⟨f, rfl⟩ : ∃ f, fuel = f + 1 := ⟨fuel - 1, by bv_omega⟩
  refine ⟨ρ, ?_, h0⟩
  rw [whM, he ρ h0]
  rfl
 | succ n ih =>
  intro fuel ρ h0 hs he hf
  obtain ⟨f, rfl⟩ : ∃ f, fuel = f + 1 := ⟨fuel - 1, by bv_omega⟩
  obtain ⟨e1, ρ2, e2, p⟩ := hs 0 ρ (Nat.succ_pos _) h0
  obtain ⟨ρ', e, p'⟩ := ih (fun i => P (i + 1)) f ρ2 p (fun i ρ hi hp => hs (i + 1) ρ (by bv_omega) hp) he (by bv_omega)
  refine ⟨ρ', ?_, p'⟩
  rw [whM, e1, Res.bind_ok, if_pos rfl, e2, Res.bind_ok]
  exact e
theorem zZ8 {t : D -> Res Bool} {f : D -> Res D} {α : Type} (A : α -> D) (p : α -> Bool) (q : α -> D) : ∀ (xs : List α), (∀ x ∈ xs, t (A x) = .ok (p x)) -> (∀ x ∈ xs, p x = true -> f (A x) = .ok (q x)) -> compM t f (xs.map A) = .ok ((xs.filter p).map q)
 | [], _, _ => rfl
 | x :: xs, ht, hf => by
  have ih := zZ8 A p q xs (fun y hy => ht y (List.mem_cons_of_mem _ hy)) (fun y hy => hf y (List.mem_cons_of_mem _ hy))
  rw [List.map_cons, compM, ht x List.mem_cons_self]
  cases hp : p x with
  | false => simp only [noEx, Res.bind_ok, Bool.false_eq_true, if_false, List.filter_cons, hp]; exact ih
  | true =>
   rw [hf x List.mem_cons_self hp, ih]
   simp [noEx, List.filter_cons, hp]
abbrev tI (ns : List Int) : D := .tuple (ns.map PyData.int)
abbrev lI (ns : List Int) : D := .list (ns.map PyData.int)
theorem uL {α β : Type} (f : α -> β) (xs : List α) (i : Int) : atI (xs.map f) i = (atI xs i).map f := by
 unfold atI
 rw [List.length_map]
 cases ixN xs.length i with
 | none => rfl
 | some j => simp
theorem jW {xs : List Int} {j : Nat} (h : j < xs.length) : atI xs (j : Int) = some (xs.getD j 0) := by
 refine fB ?_
 rw [List.getD_eq_getElem?_getD, List.getElem?_eq_getElem h]
 rfl
theorem qQ {ds : List D} (h : ds.length <= 1000) : mkL ds = some (.list ds) := by
 unfold mkL
 exact if_pos (Nat.le_of_lt (small1000 h))
theorem bV {ds : List D} (h : ds.length <= 1000) : mkT ds = some (.tuple ds) := by
 unfold mkT
 exact if_pos (Nat.le_of_lt (small1000 h))
theorem mkL0 : mkL [] = some (.list []) := qQ (by simp)
theorem mkL1 (a : D) : mkL [a] = some (.list [a]) := qQ (by simp)
theorem mkL2 (a b : D) : mkL [a, b] = some (.list [a, b]) := qQ (by simp)
theorem mkL3 (a b c : D) : mkL [a, b, c] = some (.list [a, b, c]) := qQ (by simp)
theorem mkL4 (a b c d : D) : mkL [a, b, c, d] = some (.list [a, b, c, d]) := qQ (by simp)
theorem mkT0 : mkT [] = some (.tuple []) := bV (by simp)
theorem mkT1 (a : D) : mkT [a] = some (.tuple [a]) := bV (by simp)
theorem mkT2 (a b : D) : mkT [a, b] = some (.tuple [a, b]) := bV (by simp)
theorem mkT3 (a b c : D) : mkT [a, b, c] = some (.tuple [a, b, c]) := bV (by simp)
theorem uC {l : List D} {d : D} (h : l.length <= 1000) : appD l [d] = some (l ++ [d]) := if_pos (small1000 h)
theorem gH {l k : List D} {d : D} (hd : seqD d = some k) (h : l.length + k.length <= 1000) : extD l [d] = some (l ++ k) := by
 show (seqD d).bind (fun ys => if l.length + ys.length <= sizeLine then some (l ++ ys) else none) = _
 rw [hd]
 exact if_pos (Nat.le_of_lt (small1000 h))
theorem xY4 {l : List D} {d : D} {i : Int} (h0 : 0 <= i) (h1 : i <= l.length) (h : l.length <= 1000) : insD l [.int i, d] = some (l.take i.toNat ++ d :: l.drop i.toNat) := by
 unfold insD
 simp only
 rw [if_pos ⟨by bv_omega, by bv_omega, small1000 h⟩]
 have e : insN l.length i = i.toNat := by
  unfold insN
  rw [if_neg (by bv_omega)]
  bv_omega
 rw [e]
theorem aR {ds : List D} {r : Res D} (h : ds.length <= 1000) : (if ds.length <= sizeLine then r else .no) = r := if_pos (Nat.le_of_lt (small1000 h))
theorem vD {n : Nat} (h : n <= 1000) : rng1 [.int (n : Int)] = some ((List.range n).map fun (i : Nat) => PyData.int (i : Int)) := by
 unfold rng1
 simp only
 rw [if_pos ⟨by bv_omega, by bv_omega⟩, Int.toNat_natCast]
theorem qD {n i : Nat} {d : D} (h : ((List.range n).map fun (i : Nat) => PyData.int (i : Int))[i]? = some d) : i < n /\ d = .int (i : Int) := by
 rw [List.getElem?_map] at h
 by_cases hi : i < n
 ·rw [List.getElem?_range hi] at h
  cases h
  exact ⟨hi, rfl⟩
 ·rw [List.getElem?_eq_none (by simpa using hi)] at h
  cases h
theorem qN (i : Int) : SeqAt.shaped (.int i) = true := rfl
theorem zJ8 (i j : Int) : PyData.eqv (.int i) (.int j) = decide (i = j) := by
 rw [PyData.eqv]
 exact Bool.beq_eq_decide_eq i j
theorem qA (i j : Int) : eqD (.int i) (.int j) = some (decide (i = j)) := by
 unfold eqD
 rw [if_pos ⟨qN i, qN j⟩, zJ8]
theorem qG (i j : Int) : neD (.int i) (.int j) = some (!decide (i = j)) := by
 unfold neD
 rw [if_pos ⟨qN i, qN j⟩, zJ8]
theorem yB6 (ns ms : List Int) : eqD (lI ns) (lI ms) = some (decide (ns = ms)) := by
 unfold eqD
 rw [if_pos ⟨uG ns, uG ms⟩, zH3]
theorem zP3 (ns ms : List Int) : neD (lI ns) (lI ms) = some (!decide (ns = ms)) := by
 unfold neD
 rw [if_pos ⟨uG ns, uG ms⟩, zH3]
theorem yA9 (ns ms : List Int) : eqD (tI ns) (tI ms) = some (decide (ns = ms)) := by
 unfold eqD
 rw [if_pos ⟨fS ns, fS ms⟩, yL3]
abbrev rows (rs : List (List Int)) : D := .list (rs.map tI)
theorem zC8 {α : Type} (xs : List α) (f : α -> Bool) (h : ∀ x ∈ xs, f x = true) : allD [.list (xs.map fun x => PyData.bool (f x))] = some (.bool true) := by
 have e : (xs.map fun x => PyData.bool (f x)) = (xs.map f).map PyData.bool := by rw [List.map_map]; rfl
 show (boolsOf _).map _ = _
 rw [e, boolsOf_map]
 show some (PyData.bool ((xs.map f).all id)) = _
 congr 2
 rw [List.all_eq_true]
 intro b hb
 obtain ⟨x, hx, rfl⟩ := List.mem_map.mp hb
 exact h x hx
theorem aF {n m : Nat} (h : m < n) : ixN n (m : Int) = some m := by
 unfold ixN
 rw [if_pos (by bv_omega), if_pos (by bv_omega), Int.toNat_natCast]
theorem yW1 {n m : Nat} (h : m < n) (f : Nat -> D) (v : D) : ((List.range n).map f).set m v = (List.range n).map fun c => if c = m then v else f c := by
 apply List.ext_getElem?
 intro i
 by_cases e : m = i
 ·subst e
  rw [List.getElem?_set_self (by simpa using h), List.getElem?_map, List.getElem?_range h]
  simp
 ·rw [List.getElem?_set_ne e, List.getElem?_map, List.getElem?_map]
  cases q : (List.range n)[i]? with
  | none => rfl
  | some c =>
   have : c = i := by
    have hi := (List.getElem?_eq_some_iff.mp q).1
    rw [List.getElem?_range (by simpa using hi)] at q
    cases q; rfl
   subst this
   show some (f c) = some (if c = m then v else f c)
   rw [if_neg (fun z => e z.symm)]
theorem zG8 {n m : Nat} (h : m < n) (f : Nat -> D) (v : D) : setD ((List.range n).map f) (.int (m : Int)) v = some ((List.range n).map fun c => if c = m then v else f c) := by
 unfold setD
 simp only
 rw [List.length_map, List.length_range, aF h, Option.map_some, yW1 h]
theorem cT (v : D) (n : Nat) (h : n <= 1000) : repL (.list [v]) (.int (n : Int)) = some (.list (List.replicate n v)) := by
 unfold repL
 simp only
 rw [if_pos ⟨by bv_omega, by bv_omega, by rw [List.length_singleton, Int.toNat_natCast]; exact Nat.le_of_lt (small1000 (by bv_omega))⟩, Int.toNat_natCast]
 congr 2
 induction n with
 | zero => rfl
 | succ n ih => rw [List.replicate_succ, List.flatten_cons, ih (by bv_omega), List.replicate_succ]; rfl
theorem zW9 {α : Type} (v : α) (n : Nat) : List.replicate n v = (List.range n).map fun _ => v := by
 apply List.ext_getElem?
 intro i
 rw [List.getElem?_replicate, List.getElem?_map]
 by_cases h : i < n
 ·rw [if_pos h, List.getElem?_range h]; rfl
 ·rw [if_neg h, List.getElem?_eq_none (by simpa using h)]; rfl
theorem zZ7 {n m : Nat} (h : m < n) (f : Nat -> D) : atI ((List.range n).map f) (m : Int) = some (f m) := fB (by rw [List.getElem?_map, List.getElem?_range h]; rfl)
theorem bR {n : Nat} (h : n <= 1000) : rangeL [.int (n : Int)] = some (lI ((List.range n).map fun (i : Nat) => (i : Int))) := by
 unfold rangeL
 simp only
 rw [if_pos ⟨by bv_omega, by bv_omega⟩, Int.toNat_natCast]
 congr 2
 rw [List.map_map]
 rfl
theorem zT6 {ns : List Int} (h : ns.length <= 63) : sortD [lI ns] = some (lI (sortI ns)) := by
 unfold sortD
 simp only [nsD, seqD, Option.bind_some, intsOf_map]
 rw [if_pos (by bv_omega)]
section
variable (i : Int) (b : Bool) (l : List D)
theorem yF8 : isiD "int" (.int i) = some (.bool true) := rfl
theorem yD4 : isiD "bool" (.int i) = some (.bool false) := rfl
theorem yF6 : isiD "bool" (.bool b) = some (.bool true) := rfl
theorem yE1 : isiD "int" (.bool b) = some (.bool true) := rfl
theorem xZ4 : isiD "tuple" (.tuple l) = some (.bool true) := rfl
theorem yE5 : isiD "list" (.list l) = some (.bool true) := rfl
theorem yD6 : isiD "tuple" (.list l) = some (.bool false) := rfl
theorem yD8 : isiD "list" (.tuple l) = some (.bool false) := rfl
theorem yC7 : isiD "tuple" .none = some (.bool false) := rfl
theorem xY8 : isiD "bool" .none = some (.bool false) := rfl
end
theorem yP7 {mi : Ev -> Res (List D)} {t : Ev -> Res Bool} {me : Ev -> Res D} {js : List Nat} {ρ : Ev} {α : Type} (A : α -> D) (p : α -> Bool) (q : α -> D) (xs : List α) (h : mi ρ = .ok (xs.map A)) (hl : xs.length <= 1000)
  (ht : ∀ x ∈ xs, t (cEnv ρ js (A x)) = .ok (p x)) (hf : ∀ x ∈ xs, p x = true -> me (cEnv ρ js (A x)) = .ok (q x)) : eComp mi t me js ρ = .ok (.list ((xs.filter p).map q)) := by
 rw [yT2, h, Res.bind_ok, aR (by rw [List.length_map]; exact hl), zZ8 A p q xs ht hf]
 rfl
theorem wB {mi : Ev -> Res (List D)} {me : Ev -> Res D} {js : List Nat} {ρ : Ev} {α : Type} (A : α -> D) (q : α -> D) (xs : List α) (h : mi ρ = .ok (xs.map A)) (hl : xs.length <= 1000)
  (hf : ∀ x ∈ xs, me (cEnv ρ js (A x)) = .ok (q x)) : eComp mi tYes me js ρ = .ok (.list (xs.map q)) := by
 rw [yP7 A (fun _ => true) q xs h hl (fun _ _ => rfl) (fun x hx _ => hf x hx), List.filter_eq_self.mpr fun _ _ => rfl]
end L2.L3
namespace L2.L3
theorem yO2 {α : Type} (a : α) (l : List α) : atI (a :: l) 0 = some a := fB (j := 0) rfl
end L2.L3
namespace HT
open PySem PySem.Spec PyProof.Rows
section
variable {prog : Program} {w : World} {A : Around} {E : Value -> Shared -> Prop} {s : Shared}
theorem dS {t sl : Addr} {items : Array Value} {vl vu : Value} {lo hi : Option Int} {Q : Value -> Shared -> Prop} (ht : IsTup s.heap t items) (hs : s.heap.IsSliceOf sl vl vu .none) (pl : IsPart vl lo) (pu : IsPart vu hi)
  (hw : sIx items.size 0 lo = 0 /\ sIx items.size items.size hi = items.size) (h : Q (.ref t) s) : wpAny (model prog w) A (getItem (.ref t) (.ref sl)) Q E s := by
 obtain ⟨os, hos, hcs, hds⟩ := id hs
 have hTs : s.TypeIs (.ref sl) "slice" := ⟨os, hos, hcs⟩
 unfold getItem
 try with_reducible refine wpAny_holding ?_
 first | refine wpAny_bind (wpAny_pure ?_) | skip
 refine wpAny_bind (wpAny_sequenceKey ht.typeIs (by decide) ?_)
 refine wpAny_bind (wpAny_callSpecial?_slot (name := Str.ofString "__getitem__") ht.typeIs PyProof.Rows.slot_tuple_getitem
  (wpAny_call_entry PyProof.Rows.slot_tuple_getitem ht.typeIs entry_tuple_getitem ?_ (args_tuple_getitem _ _)))
 show wpAny _ _ (Builtin.Tuple.tupleItemsOf (.ref t) >>= _) _ _ s
 refine wpAny_bind (tupleItemsOf_ ht ?_)
 refine wpAny_bind (wpAny_typeOf hTs ?_)
 rw [if_pos (by decide)]
 refine wpAny_bind (jL hs pl pu ?_)
 have hyes : (((sIx items.size 0 lo : Nat) : Int) == 0 && (1 : Int) == 1 && (sIx items.size items.size hi - sIx items.size 0 lo) == items.size) = true := by
  rw [hw.1, hw.2]
  simp
 show wpAny _ _ (if (((sIx items.size 0 lo : Nat) : Int) == 0 && (1 : Int) == 1 && (sIx items.size items.size hi - sIx items.size 0 lo) == items.size) = true then _ else _) _ _ s
 rw [if_pos hyes]
 unfold Builtin.Tuple.tupleIsExact
 refine wpAny_bind (wpAny_bind (wpAny_typeOf ht.typeIs (wpAny_pure ?_)))
 rw [if_pos (by decide)]
 refine wpAny_bind (wpAny_rule ?_)
 exact wpAny_pure ⟨_, rfl, wpAny_pure h⟩
end
end HT
namespace L2.L3
open PySem PySem.Spec PyProof.Rows
variable [CN]
section
variable {X : Cx}
def rSlTA (K : KFr) : V -> Option Int -> Option Int -> Hp -> VK -> Prop := fun x lo hi H Q => ∃ a xs, x = .ref a /\ SqT K H a xs /\ HT.sIx xs.length 0 lo = 0 /\ HT.sIx xs.length xs.length hi = xs.length /\ Q (.ref a) H
theorem yL5 : SlR X (rSlTA X.K) := by
 intro pins s σ H x v vl vu lo hi sl Q I rx hs pl pu h
 obtain ⟨a, xs, rfl, hx, hw1, hw2, q⟩ := h
 cases rx
 obtain ⟨its, r, ht, hz⟩ := I.tuple hx
 have hlen : its.toArray.size = xs.length := by rw [List.size_toArray]; exact r.length.symm
 refine ⟨"tuple", _, PyProof.Rows.slot_tuple_getitem.lookup, ht.typeIs, ?_⟩
 exact HT.dS ht hs pl pu (by rw [hlen]; exact ⟨hw1, hw2⟩) ⟨.ref a, H, I, rfl, q⟩
end
def RO (C : Ct) (e : Option Expr) (m : Ev -> Res (Option Int)) : Prop :=
 ∃ t, PO C.X e t /\ ∀ (Oc : Wd) (Ob : Addr -> Prop) (σ : St) (H : Hp) (ρ : Ev) (Q : Option Int -> Hp -> Prop), Rel Oc Ob C.om C.ln σ H ρ ->
  (m ρ).post (fun d => ∀ H', Same H H' -> Q d H') (fun c => ∀ H', Same H H' -> C.XE c H') -> t σ H Q
def oN : Ev -> Res (Option Int) := fun _ => .ok none
def isI : D -> Option Int
 | .int i => some i
 | _ => none
def oS (m : Ev -> Res D) : Ev -> Res (Option Int) := fun ρ => (m ρ).bind fun d => (Res.lft (isI d)).bind fun i => .ok (some i)
theorem xA {C : Ct} : RO C none oN := ⟨_, yL8, fun Oc Ob σ H ρ Q R h => h H (Same.refl H)⟩
theorem yJ {C : Ct} {e : Expr} {md : Md} {me : Ev -> Res D} (h : RE C md e me) : RO C (some e) (oS me) := by
 obtain ⟨t, p, q⟩ := h
 refine ⟨_, yL9 p, fun Oc Ob σ H ρ Q R h => q Oc Ob σ H ρ _ R (Res.zW (Res.zX h) (fun d _ k v H' s r => ?_) fun _ z => z)⟩
 obtain ⟨i, e, k⟩ := Res.zL (Res.zX k)
 cases d with
 | int j => cases e; exact ⟨i, (r.va R.oh).int, k H' s⟩
 | _ => cases e
def eS (f : D -> Option Int -> Option Int -> Option D) (m : Ev -> Res D) (lo hi : Ev -> Res (Option Int)) : Ev -> Res D := fun ρ => (m ρ).bind fun x => (lo ρ).bind fun l => (hi ρ).bind fun u => Res.lft (f x l u)
def PrS (r : V -> Option Int -> Option Int -> Hp -> VK -> Prop) (md : Md) (f : D -> Option Int -> Option Int -> Option D) : Prop :=
 ∀ (Oc : Wd) (Ob : Addr -> Prop) (H : Hp) (x : V) (dx : D) (lo hi : Option Int) (d : D) (Q : VK), (∀ a, Oc a \/ Ob a -> H a ≠ none) -> VA Oc Ob H x dx -> f dx lo hi = some d -> (∀ v H', Same H H' -> VR md Oc Ob H H' v d -> Q v H') -> r x lo hi H Q
theorem cU {C : Ct} {e : Expr} {lo hi : Option Expr} {md mda : Md} {me : Ev -> Res D} {ml mh : Ev -> Res (Option Int)} {p2 pos : Pos} {r : V -> Option Int -> Option Int -> Hp -> VK -> Prop} {f : D -> Option Int -> Option Int -> Option D} (hr : SlR C.X r) (hp : PrS r md f) (he : RE C mda e me) (hl : RO C lo ml) (hu : RO C hi mh) :
  RE C md (.Subscript e (.Slice lo hi none p2) pos) (eS f me ml mh) := by
 obtain ⟨t, p, q⟩ := he
 obtain ⟨tl, pl, ql⟩ := hl
 obtain ⟨th, ph, qh⟩ := hu
 refine ⟨_, yT5 hr p pl ph, fun Oc Ob σ H ρ Q R h => q Oc Ob σ H ρ _ R (Res.zW (Res.zX h) (fun d _ k v H1 s1 r => ?_) fun _ z => z)⟩
 refine ql Oc Ob σ H1 ρ _ (R.same s1) (Res.zW (Res.zX k) (fun l _ k H2 s2 => ?_) fun c z H' s' => z H' (s1.trans s'))
 refine qh Oc Ob σ H2 ρ _ ((R.same s1).same s2) (Res.zW (Res.zX k) (fun u _ k H3 s3 => ?_) fun c z H' s' => z H' ((s1.trans s2).trans s'))
 obtain ⟨d', e, k⟩ := Res.zL k
 have R3 := ((R.same s1).same s2).same s3
 refine hp Oc Ob H3 v d l u d' Q R3.oh ((r.va R.oh).same (s2.trans s3)) e fun w H' s4 rw' => ?_
 exact k w H' (((s1.trans s2).trans s3).trans s4) (rw'.from ((s1.trans s2).trans s3))
def cutD {α : Type} (xs : List α) (lo hi : Option Int) : List α := (xs.drop (HT.sIx xs.length 0 lo)).take (HT.sIx xs.length xs.length hi - HT.sIx xs.length 0 lo)
theorem gI {H : Hp} {O : Addr -> Prop} {vs : List V} {ds : List D} (r : Reps H O vs ds) (lo hi : Option Int) : Reps H O (cutV vs lo hi) (cutD ds lo hi) := by
 unfold cutV cutD
 rw [r.length]
 exact (r.drop _).take _
def slL : D -> Option Int -> Option Int -> Option D
 | .list ds, lo, hi => some (.list (cutD ds lo hi))
 | _, _, _ => none
def slD : D -> Option Int -> Option Int -> Option D
 | .list ds, lo, hi => some (.list (cutD ds lo hi))
 | .tuple ds, lo, hi => some (.tuple (cutD ds lo hi))
 | _, _, _ => none
theorem yJ1 {K : KFr} : PrS (rSlL K) .new slL := by
 intro Oc Ob H x dx lo hi d Q oh va e k
 cases dx with
 | list ds =>
  cases e
  obtain ⟨a, ys, rfl, rd, rs⟩ := va.list
  exact ⟨a, ys, rfl, .inl rd, fun p hp => k _ _ (Same.new hp) (xF (Same.refl H) hp (gI rs lo hi))⟩
 | _ => cases e
theorem yI4 {α : Type} {xs : List α} {lo hi : Option Int} (h1 : HT.sIx xs.length 0 lo = 0) (h2 : HT.sIx xs.length xs.length hi = xs.length) : cutD xs lo hi = xs := by
 unfold cutD
 rw [h1, h2, List.drop_zero, Nat.sub_zero, List.take_length]
theorem yF2 {K : KFr} : PrS (fun x lo hi H Q => rSlL K x lo hi H Q \/ rSlT K x lo hi H Q \/ rSlTA K x lo hi H Q) .cl slD := by
 intro Oc Ob H x dx lo hi d Q oh va e k
 cases dx with
 | list ds =>
  cases e
  obtain ⟨a, ys, rfl, rd, rs⟩ := va.list
  exact .inl ⟨a, ys, rfl, .inl rd, fun p hp => k _ _ (Same.new hp) (VR.clean (xF (Same.refl H) hp (gI rs lo hi)) oh)⟩
 | tuple ds =>
  cases e
  rcases va with va | ⟨_, _, _, _, ez, _⟩
  ·cases va with
   | @tup a ys _ rd n rs =>
    by_cases hw : HT.sIx ys.length 0 lo = 0 /\ HT.sIx ys.length ys.length hi = ys.length
    ·refine .inr (.inr ⟨a, ys, rfl, .inl rd, hw.1, hw.2, k _ H (Same.refl H) ?_⟩)
     rw [yI4 (by rw [<- rs.length]; exact hw.1) (by rw [<- rs.length]; exact hw.2)]
     exact .tup rd n rs
    ·exact .inr (.inl ⟨a, ys, rfl, .inl rd, hw, fun p hp => k _ _ (Same.new hp) (zJ1 oh hp (gI rs lo hi))⟩)
  ·cases ez
 | _ => cases e
theorem jF {C : Ct} {e : Expr} {lo hi : Option Expr} {mda : Md} {me : Ev -> Res D} {ml mh : Ev -> Res (Option Int)} {p2 pos : Pos} (he : RE C mda e me) (hl : RO C lo ml) (hu : RO C hi mh) : RE C .new (.Subscript e (.Slice lo hi none p2) pos) (eS slL me ml mh) := cU zI4 yJ1 he hl hu
theorem zC4 {C : Ct} {e : Expr} {lo hi : Option Expr} {mda : Md} {me : Ev -> Res D} {ml mh : Ev -> Res (Option Int)} {p2 pos : Pos} (he : RE C mda e me) (hl : RO C lo ml) (hu : RO C hi mh) : RE C .cl (.Subscript e (.Slice lo hi none p2) pos) (eS slD me ml mh) := cU (zI4.or (yA2.or yL5)) yF2 he hl hu
theorem zQ6 {C : Ct} {fr : Bool} (i : Nat) {x : Str} {a : Expr} {md : Md} {ma : Ev -> Res D} {p' apos cpos pos : Pos} (ha : RE C md a ma)
  (hN : autoParam (C.X.N[i]? = some x) zZ._auto_1) (ho : autoParam (C.om.contains i = true) zZ._auto_1) (hv : autoParam (Vis C.X.env.scope x) qP._auto_1) (hd : autoParam ((x == ("__debug__" : Str)) = false) zO._auto_1) (hcd : autoParam ((x == ("__classdict__" : Str)) = false) zO._auto_1)
  (hbase : autoParam (attributeBase (.Name x p') "extend" C.X.env (eval (.Name x p') C.X.env) = eval (.Name x p') C.X.env) zZ._auto_1)
  (hfew : ((backTo cpos (starEach [a] C.X.env)).all (fun x => !x.1) && (backToKw cpos (keywordEach [] C.X.env)).all (fun x => x.1.isSome)
   && decide ([a].length + ([] : List Keyword).length + (if ([] : List Keyword).isEmpty then 0 else 1) < 30)) = true := by rfl)
  (hline : autoParam ((apos.endLine == cpos.line) = true) zZ._auto_1) (hs : autoParam (starEach [a] C.X.env = (false, eval a C.X.env) :: starEach [] C.X.env) zZ._auto_1) (hplain : autoParam ((backTo cpos (starEach [] C.X.env)).any (·.1) = false) zZ._auto_1)
  (hsw : autoParam (swapsWith (.Call (.Attribute (.Name x p') "extend" apos) [a] [] cpos) none pos.line C.X.env = pure false) zZ._auto_1) :
  RS C fr (.Expr (.Call (.Attribute (.Name x p') "extend" apos) [a] [] cpos) pos) (sM i extD (aC ma aN)) := by
 obtain ⟨t, p, q⟩ := ha
 refine ⟨_, dY (zG6 PySem.F.plainAttrs_list PySem.F.slot_list_extend PySem.F.type_list_extend yJ4 (uD hN hv hd hcd) (yQ p wP hs) hbase hfew hline hs hplain) hsw, fun Oc Ob σ H ρ E R h => ?_⟩
 obtain ⟨d, ed, k⟩ := vA (Res.zX h)
 obtain ⟨xd, ex, k⟩ := Res.zL (Res.zX k)
 obtain rfl := jK ex
 obtain ⟨v, qv, l, ys, ds, rfl, e2, e3, e4, e5⟩ := R.own i _ ed (vZ ho)
 cases e2
 refine ⟨_, qv, .inl ⟨rfl, _, SqL.of e3⟩, q Oc Ob σ H ρ _ R (Res.zW (Res.zX (Res.zX k)) (fun ad _ k w H' s r' => ?_) fun c z H' s => z H' (Same.frm s))⟩
 obtain ⟨ds', eg, k⟩ := Res.zL (Res.zX (show ((Res.lft (extD xd [ad])).bind fun ds => Res.ok (Out.nx (ρ.set i (some (.list ds))))).post _ _ from k))
 obtain ⟨zs, e1, eg⟩ := Option.bind_eq_some_iff.mp (show (seqD ad).bind (fun ys => if xd.length + ys.length <= sizeLine then some (xd ++ ys) else none) = some ds' from eg)
 split at eg
 ·rename_i hl
  cases eg
  have va := r'.va R.oh
  have fin : ∀ (b : Addr) (ws : List V), (Rd H' b (.lst ws) \/ Rd H' b (.tup ws)) -> Reps H' (Uni Oc Ob) ws zs -> rExtR (.ref l) [.ref b] H' fun _ H1 => E.nx σ H1 := fun b ws rd rs => by
   refine ⟨l, b, ys, ws, rfl, rfl, s _ _ e3, rd, by rw [e5.length, rs.length]; exact hl, ?_⟩
   refine k _ _ Ob ((R.same s).write (vZ ho) ed qv (s _ _ e3) e4 ((e5.same s).append rs)) (fun b o e n => ?_) fun b z => .inl z
   rw [zM (fun z => n (by subst z; exact e4))]
   exact s b o e
  cases ad with
  | list ds' =>
   cases e1
   obtain ⟨b, ws, rfl, rd, rs⟩ := va.list
   exact fin b ws (.inl rd) rs
  | tuple ds' =>
   cases e1
   obtain ⟨b, ws, rfl, rd, rs⟩ := va.tuple
   exact fin b ws (.inr rd) rs
  | _ => cases e1
 ·cases eg
section
variable (a : Ev -> Res D) (l h : Ev -> Res (Option Int)) (ρ : Ev) (f : D -> Option Int -> Option Int -> Option D)
theorem xV8 : eS f a l h ρ = (a ρ).bind fun x => (l ρ).bind fun lo => (h ρ).bind fun u => Res.lft (f x lo u) := rfl
theorem xU8 : oN ρ = .ok none := rfl
theorem xW5 : oS a ρ = (a ρ).bind fun d => (Res.lft (isI d)).bind fun i => .ok (some i) := rfl
theorem xY6 (i : Int) : isI (.int i) = some i := rfl
theorem yE4 (ds : List D) (lo hi : Option Int) : slL (.list ds) lo hi = some (.list (cutD ds lo hi)) := rfl
theorem xV2 (ds : List D) (lo hi : Option Int) : slD (.list ds) lo hi = some (.list (cutD ds lo hi)) := rfl
theorem xU9 (ds : List D) (lo hi : Option Int) : slD (.tuple ds) lo hi = some (.tuple (cutD ds lo hi)) := rfl
end
theorem jU {α β : Type} (g : α -> β) (xs : List α) (lo hi : Option Int) : cutD (xs.map g) lo hi = (cutD xs lo hi).map g := by
 unfold cutD
 rw [List.length_map, List.map_take, List.map_drop]
theorem zS6 {α : Type} (xs : List α) (k : Nat) : cutD xs none (some (k : Int)) = xs.take k := by
 unfold cutD
 rw [HT.zS1, HT.zI7, List.drop_zero, Nat.sub_zero]
 by_cases h : k <= xs.length
 ·rw [Nat.min_eq_left h]
 ·rw [Nat.min_eq_right (by bv_omega), List.take_length, List.take_of_length_le (by bv_omega)]
theorem zR2 {α : Type} (xs : List α) (k : Nat) : cutD xs (some (k : Int)) none = xs.drop k := by
 unfold cutD
 rw [HT.zS1, HT.zI7]
 by_cases h : k <= xs.length
 ·rw [Nat.min_eq_left h, List.take_of_length_le (by rw [List.length_drop]; bv_omega)]
 ·rw [Nat.min_eq_right (by bv_omega), List.drop_eq_nil_of_le (show xs.length <= k by bv_omega)]
  simp
end L2.L3
namespace L2.L3
open PySem
theorem zK8 (i : Int) : ∀ ns : List Int, (ns.map PyData.int).any (fun z => eqF z (.int i)) = ns.contains i
 | [] => rfl
 | n :: ns => by
  rw [List.map_cons, List.any_cons, zK8 i ns, List.contains_cons]
  congr 1
  show (n == i) = (i == n)
  rw [Bool.eq_iff_iff]
  simp only [beq_iff_eq]
  exact eq_comm
theorem zK2 : ∀ ns : List Int, (ns.map PyData.int).all flD = true
 | [] => rfl
 | n :: ns => by rw [List.map_cons, List.all_cons, zK2 ns]; rfl
theorem yO5 (neg : Bool) (i : Int) (ns : List Int) : inD neg (.int i) (lI ns) = some (if neg then !ns.contains i else ns.contains i) := by
 unfold inD
 show (if flD (.int i) = true /\ (ns.map PyData.int).all flD = true then _ else none) = _
 rw [if_pos ⟨rfl, zK2 ns⟩, zK8]
theorem dZ {α β : Type} {g : D -> Ev -> Option Ev} {b : Ev -> Res Out} {ds : List D} {ρ : Ev} {k : Out -> Res α} {k' : α -> Res β} {R : Res β} (P : Nat -> Ev -> Prop) (h0 : P 0 ρ) (hs : ∀ (i : Nat) d ρ, ds[i]? = some d -> P i ρ -> ∃ ρ1 ρ2, g d ρ = some ρ1 /\ b ρ1 = .ok (.nx ρ2) /\ P (i + 1) ρ2)
  (hd : ∀ ρ', P ds.length ρ' -> (k (.nx ρ')).bind k' = R) : ((forM g b ds ρ).bind k).bind k' = R := by
 obtain ⟨ρ', e, p⟩ := wW P ds ρ h0 hs
 rw [e, Res.bind_ok]
 exact hd ρ' p
end L2.L3
namespace L2
open PySem PySem.Spec PyProof.Rows
theorem yJ3 {X : Cx} {elt iter : Expr} {ifs : List Expr} {sc0 scope : Scope} {N0 : List Str} {px py pos spos : Pos} {xt y : Str} {fs : List Str} {js : List Nat} {i : Nat} {wi : TI} {tt : Addr -> List Addr -> Shared -> Hp -> TT} {te : Addr -> List Addr -> Shared -> Hp -> TE} (S : CompScope sc0 scope N0 xt fs js) (h0 : X.env.scope = sc0) (hN0 : X.N = N0) (hc : X.calm = true)
  (hi : PI X (.Name xt px) iter wi) (ht : ∀ C fp s₂ H, PTs (cxComp X (xt :: fs) scope C fp s₂ H) ifs (tt C fp s₂ H)) (he : ∀ C fp s₂ H, PE (cxComp X (xt :: fs) scope C fp s₂ H) elt (te C fp s₂ H))
  (nd : X.N.Nodup) (hy : X.N[i]? = some y) (hl : Loc X.env.scope y) (hsw : swapsWith (.ListComp elt [⟨.Name xt px, iter, ifs, 0⟩] scope pos) (some (.Name y py)) spos.line X.env = pure true)
  (hs : autoParam (∀ x, foldedSetIterable iter X.env x = pure x) xG._auto_1) (hf : autoParam (X.fn y = true \/ X.env.scope.names.lookup y = some .local) kH._auto_1) :
  PS X (.Assign [.Name y py] (.ListComp elt [⟨.Name xt px, iter, ifs, 0⟩] scope pos) spos) (tAsg (tComp wi tt te js) (gName i)) := by
 intro pins s σ H E I h
 rw [exec_Assign_Name_used _ _ _ _ hsw]
 refine wpAny_bind (wpAny_standAt (wpAny_bind ?_))
 show wpAny _ X.A (do let _ <- comprehension (.ListComp elt [⟨.Name xt px, iter, ifs, 0⟩] scope pos) scope X.env _ (newList []) false (eval iter X.env) (some (assign (.Name y py) X.env))) _ _ s
 refine wpAny_bind (thn (zZ6 S h0 hN0 hc hi ht he hs (use := some (assign (.Name y py) X.env)) (Qv := fun _ s' => SP X pins E .next s') I h fun s' C D Ha fl hI hns hC q => ?_) fun _ s' hq => wpAny_pure (wpAny_pure hq))
 show wpAny (model X.prog X.w) X.A (assign (.Name y py) X.env (.ref D)) (fun _ s'' => ∃ m, s''.heap.Ns C m /\ ∀ h', Heap.SameBut C s''.heap h' -> SP X pins E .next { s'' with heap := h' }) X.xe s'
 obtain ⟨m, oC, es, ep, hgC, hdC, hrC⟩ := hns
 have I1 : Inv X pins σ Ha s' := hI s'.heap ⟨rfl, fun b _ => rfl⟩
 have I2 : Inv X (pins ++ [(C, oC)]) σ Ha s' := I1.xV fun p hp => by
  rcases List.mem_append.mp hp with z | z
  ·exact I1.pin p (List.mem_append_right _ z)
  ·have : p = (C, oC) := by simpa using z
   subst this
   exact ⟨hgC, hC.1, hC.2.1, hC.2.2.1, fun v z => by rw [hdC] at z; cases z⟩
 refine wpAny_assign_Name (uJ I2 nd hy hl (show RelV (.ref D) (.ref D) from rfl) (fun s'' I3 => ?_) hf)
 have hgC' := (I3.pin (C, oC) (List.mem_append_right _ (List.mem_append_right _ List.mem_cons_self))).1
 refine ⟨m, ⟨oC, es, ep, hgC', hdC, hrC⟩, fun h' hsb => ?_⟩
 have I4 : Inv X pins (σ.set i (some (.ref D))) Ha s'' := I3.xV fun p hp => I3.pin p (List.mem_append_right _ (List.mem_append_left _ hp))
 exact ⟨_, Ha, Inv.turned (it := C) (t' := s''.toks) I4 (fun b o hb e => (hsb.2 b hb).trans e) hC.1 hC.2.1 hC.2.2.2.1 hC.2.2.2.2.1 hC.2.2.2.2.2, q⟩
end L2
namespace L2.L3
open PySem PySem.Spec PyProof.Rows
variable [CN]
theorem yI3 {C : Ct} {fr : Bool} (i : Nat) {elt iter : Expr} {ifs : List Expr} {sc0 scope : Scope} {N0 : List Str} {px py pos spos : Pos} {xt y : Str} {fs : List Str} {js : List Nat} {mi : Ev -> Res (List D)} {mt : Ev -> Res Bool} {me : Ev -> Res D} (nd : C.X.N.Nodup) (S : CompScope sc0 scope N0 xt fs js) (h0 : C.X.env.scope = sc0) (hN0 : C.X.N = N0) (hc : C.X.calm = true)
  (hi : RIc C (.Name xt px) iter mi) (ht : ∀ A fp s₂ H, RTs (cC C (xt :: fs) scope A fp s₂ H js) ifs mt) (he : ∀ A fp s₂ H, RE (cC C (xt :: fs) scope A fp s₂ H js) .cl elt me)
  (hy : autoParam (C.X.N[i]? = some y) zZ._auto_1) (ho : autoParam (C.om.contains i = false) zZ._auto_1) (hln : autoParam (C.ln.contains i = false) zZ._auto_1) (hl : autoParam (Loc C.X.env.scope y) kG._auto_1)
  (hsw : autoParam (swapsWith (.ListComp elt [⟨.Name xt px, iter, ifs, 0⟩] scope pos) (some (.Name y py)) spos.line C.X.env = pure true) zZ._auto_1) (hs : autoParam (∀ x, foldedSetIterable iter C.X.env x = pure x) xG._auto_1) (hf : autoParam (C.X.fn y = true \/ C.X.env.scope.names.lookup y = some .local) autoK12._auto_1) :
  RS C fr (.Assign [.Name y py] (.ListComp elt [⟨.Name xt px, iter, ifs, 0⟩] scope pos) spos) (sS i (eComp mi mt me js)) := by
 obtain ⟨wi, pi, qi⟩ := hi
 refine ⟨_, yJ3 (tt := fun A fp s H => Classical.choose (ht A fp s H)) (te := fun A fp s H => Classical.choose (he A fp s H)) S h0 hN0 hc pi (fun A fp s H => (Classical.choose_spec (ht A fp s H)).1) (fun A fp s H => (Classical.choose_spec (he A fp s H)).1) nd hy hl hsw hs hf, fun Oc Ob σ H ρ E R h => ?_⟩
 refine zX1 qi ht he R (Res.zW (Res.zX h) (fun d _ k v H' s r => ?_) fun c z H' s => z H' (Same.frm s))
 exact k _ H' Ob ((R.same s).set (yW ho) (yW hln) (VR.clean r R.oh)) (Same.frm s) fun b z => .inl z
end L2.L3
namespace L2
open PySem PySem.Spec PyProof.Rows
def pick3 {α : Type} (xs : List α) (l u k : Option Int) : List α := (sliceRange (sliceBounds l u k xs.length).1 (sliceBounds l u k xs.length).2.1 (sliceBounds l u k xs.length).2.2).filterMap (xs[·]?)
end L2
namespace L2.L3
open PySem PySem.Spec PyProof.Rows
variable [CN]
def eS3 (m : Ev -> Res D) (lo hi st : Ev -> Res (Option Int)) : Ev -> Res D := fun ρ => (m ρ).bind fun x => (lo ρ).bind fun l => (hi ρ).bind fun u => (st ρ).bind fun k => (Res.lft (lstD x)).bind fun ds => if k ≠ some 0 then .ok (.list (pick3 ds l u k)) else .no
theorem xY5 (a : Ev -> Res D) (l h st : Ev -> Res (Option Int)) (ρ : Ev) : eS3 a l h st ρ = (a ρ).bind fun x => (l ρ).bind fun l => (h ρ).bind fun u => (st ρ).bind fun k => (Res.lft (lstD x)).bind fun ds => if k ≠ some 0 then .ok (.list (pick3 ds l u k)) else .no := rfl
end L2.L3
namespace L2.L3
open PySem
theorem cI {xs : List Int} {i : Int} {j : Nat} (e : i = (j : Int)) (h : j < xs.length) : atI (xs.map PyData.int) i = some (.int (xs.getD j 0)) := by
 rw [e, uL, jW h]
 rfl
theorem dE {xs : List Int} {n : Nat} (h : xs.length = n + 1) : atI (xs.map PyData.int) (-1) = some (.int (xs.getD n 0)) := by
 rw [uL]
 unfold atI ixN
 rw [h, if_neg (by decide), if_pos (by bv_omega)]
 show (xs[((-1 : Int) + ((n + 1 : Nat) : Int)).toNat]?).map _ = _
 rw [show ((-1 : Int) + ((n + 1 : Nat) : Int)).toNat = n by bv_omega, List.getElem?_eq_getElem (by bv_omega), List.getD_eq_getElem?_getD, List.getElem?_eq_getElem (by bv_omega)]
 rfl
end L2.L3
namespace L2.L3
open PySem
variable [CN]
section
variable {X : Cx}
end
section
variable {X : Cx}
end
end L2.L3
namespace L2.L3
open PySem PyProof.Rows
variable [CN]
section
variable {X : Cx}
end
section
variable {X : Cx}
end
section
variable {C : Ct} {fr : Bool} {md : Md} {e : Expr} {me : Ev -> Res D} {pos : Pos}
def atP (xd : List D) : D -> Option D
 | .int j => if 0 <= j then atI xd j else none
 | _ => none
def sJ0 (i : Nat) (mk : Ev -> Res D) (f : D -> D -> Option D) (me : Ev -> Res D) : Ev -> Res Out := fun ρ => (eV i ρ).bind fun d => (Res.lft (lstD d)).bind fun xd => (mk ρ).bind fun k => (Res.lft (atP xd k)).bind fun old => (me ρ).bind fun v => (Res.lft (f old v)).bind fun w => (Res.lft (setD xd k w)).bind fun ds => .ok (.nx (ρ.set i (some (.list ds))))
theorem xZ7 (i : Nat) (mk : Ev -> Res D) (f : D -> D -> Option D) (me : Ev -> Res D) (ρ : Ev) : sJ0 i mk f me ρ = (eV i ρ).bind fun d => (Res.lft (lstD d)).bind fun xd => (mk ρ).bind fun k => (Res.lft (atP xd k)).bind fun old => (me ρ).bind fun v => (Res.lft (f old v)).bind fun w => (Res.lft (setD xd k w)).bind fun ds => .ok (.nx (ρ.set i (some (.list ds)))) := rfl
end
section
variable {X : Cx} {pins : List (Addr × Obj)} {σ : St} {H : Hp} {s : Shared} {h' : Heap}
end
end L2.L3
namespace PySem
section
variable {prog : Program} {w : World} {A : Around} {E : Value -> Shared -> Prop} {s : Shared}
end
end PySem
namespace L2.L3
open PySem PyProof.Rows
variable [CN]
section
variable {C : Ct} {fr : Bool} {body : List Stmt} {m : Ev -> Res Out} {mi : Ev -> Res (List D)} {g : D -> Ev -> Option Ev} {pos : Pos}
def enumD (ds : List D) : List D := (List.range ds.length).map fun (i : Nat) => PyData.tuple [.int (i : Int), ds.getD i .none]
def zM4 (m : Ev -> Res D) : Ev -> Res (List D) := fun ρ => (m ρ).bind fun d => (Res.lft (seqD d)).bind fun ds => .ok (enumD ds)
end
theorem aK (m : Ev -> Res D) (ρ : Ev) : zM4 m ρ = (m ρ).bind fun d => (Res.lft (seqD d)).bind fun ds => .ok (enumD ds) := rfl
end L2.L3
namespace PySem
section
variable {prog : Program} {w : World} {A : Around} {E : Value -> Shared -> Prop} {s : Shared}
end
end PySem
namespace L2.L3
open PySem PySem.Spec PyProof.Rows
variable [CN]
def sA (me : Ev -> Res D) (g : D -> Ev -> Option Ev) : Ev -> Res Out := fun ρ => (me ρ).bind fun d => (Res.lft (g d ρ)).bind fun ρ' => .ok (.nx ρ')
theorem xW7 (me : Ev -> Res D) (g : D -> Ev -> Option Ev) (ρ : Ev) : sA me g ρ = (me ρ).bind fun d => (Res.lft (g d ρ)).bind fun ρ' => .ok (.nx ρ') := rfl
def absD : List D -> Option D
 | [.int i] => some (.int (if i < 0 then -i else i))
 | _ => none
theorem fF {Oc : Wd} {Ob : Addr -> Prop} {H : Hp} {vs : List V} {d : D} (r : VAs Oc Ob H vs [d]) : ∃ v, vs = [v] /\ VA Oc Ob H v d := by
 cases r with
 | cons h t => cases t; exact ⟨_, rfl, h⟩
theorem zD7 : PrC (fun xs H Q => ∃ i, xs = [.int i] /\ Q (.int (if i < 0 then -i else i)) H) .cl absD := by
 intro Oc Ob H vs ds d Q oh r e k
 unfold absD at e
 split at e
 ·cases e
  obtain ⟨v, rfl, h⟩ := fF r
  exact ⟨_, by rw [h.int], k _ H (Same.refl H) (Rep.int _)⟩
 ·cases e
section
variable {X : Cx}
end
def eM1 (f : List D -> D -> Option D) (mo ma : Ev -> Res D) : Ev -> Res D := fun ρ => (mo ρ).bind fun x => (Res.lft (lstD x)).bind fun ds => (ma ρ).bind fun y => Res.lft (f ds y)
theorem yD2 (f : List D -> D -> Option D) (mo ma : Ev -> Res D) (ρ : Ev) : eM1 f mo ma ρ = (mo ρ).bind fun x => (Res.lft (lstD x)).bind fun ds => (ma ρ).bind fun y => Res.lft (f ds y) := rfl
def StepOk (i j k : Int) : Prop := k ≠ 0 /\ k.natAbs.log2 < 9000 /\ Builtin.Range.small i j k = true /\ 0 <= Builtin.Range.rangeSize i j k
instance (i j k : Int) : Decidable (StepOk i j k) := by unfold StepOk; infer_instance
end L2.L3
namespace L2.L3
open PySem PyProof.Rows
variable [CN]
section
variable {X : Cx}
end
def revT : D -> Option D
 | .list ds => some (.tuple ds.reverse)
 | _ => none
def eRevT (m : Ev -> Res D) : Ev -> Res D := fun ρ => (m ρ).bind fun d => Res.lft (revT d)
theorem yT8 (m : Ev -> Res D) (ρ : Ev) : eRevT m ρ = (m ρ).bind fun d => Res.lft (revT d) := rfl
end L2.L3
namespace L2
open PySem PyProof.Rows
structure CScope2 (sc0 scope : Scope) (N0 : List Str) (xt yt : Str) (fs : List Str) (js : List Nat) : Prop where
 kind : scope.kind = .function
 nocell : ∀ y ∈ scope.names, y.2 ≠ .cell
 names : ∀ y ∈ scope.names, y.2 = .local -> scope.names.lookup y.1 = some .local
 tgt : scope.names.lookup xt = some .local
 tgt2 : scope.names.lookup yt = some .local
 frees : ∀ y ∈ scope.names, y.2 = .free -> sc0.names.lookup y.1 = some .cell \/ sc0.names.lookup y.1 = some .free
 len : js.length = fs.length
 slots : ∀ p ∈ fs.zip js, N0[p.2]? = some p.1 /\ scope.names.lookup p.1 = some .free
 nd : (xt :: yt :: fs).Nodup
section
variable {X : Cx} {pins : List (Addr × Obj)} {σ : St} {H : Hp} {s₂ s₄ : Shared} {sc0 scope : Scope} {N0 : List Str} {xt yt : Str} {fs : List Str} {js : List Nat} {fp : List Addr}
end
end L2
namespace L2.L3
open PySem PyProof.Rows
variable [CN]
section
variable {X : Cx} {pins : List (Addr × Obj)} {σ : St} {H : Hp} {s : Shared} {h' : Heap}
end
structure Apart5 (z TI TO i1 i2 : Addr) : Prop where
 TIz : TI ≠ z
 TOz : TO ≠ z
 i1z : i1 ≠ z
 i2z : i2 ≠ z
 TITO : TI ≠ TO
 TIi1 : TI ≠ i1
 TIi2 : TI ≠ i2
 TOi1 : TO ≠ i1
 TOi2 : TO ≠ i2
 i12 : i1 ≠ i2
end L2.L3
namespace L2
open PySem PySem.Spec PyProof.Rows
end L2
namespace L2.L3
open PySem PySem.Spec PyProof.Rows
variable [CN]
end L2.L3
namespace L2.L3
open PySem
variable [CN]
end L2.L3
namespace L2.L3
open PySem PyProof.Rows
variable [CN]
section
variable {X : Cx}
end
def revL : D -> Option D
 | .list ds => some (.list ds.reverse)
 | _ => none
def eRevL (m : Ev -> Res D) : Ev -> Res D := fun ρ => (m ρ).bind fun d => Res.lft (revL d)
theorem yS8 (m : Ev -> Res D) (ρ : Ev) : eRevL m ρ = (m ρ).bind fun d => Res.lft (revL d) := rfl
end L2.L3
namespace HT
open PySem PyProof.Rows
section
variable {prog : Program} {w : World} {A : Around} {E : Value -> Shared -> Prop} {s : Shared}
end
end HT
namespace L2.L3
open PySem PyProof.Rows
variable [CN]
section
variable {X : Cx}
end
end L2.L3
namespace L2.L3
open PySem PySem.Spec PyProof.Rows
variable [CN]
section
variable {X : Cx}
end
end L2.L3
namespace HT
open PySem PyProof.Rows
section
open PySem.SeqAt
open PySem.AutoSeq1 (wpAny_loadPart')
open PySem.MeetsSeq PySem.MeetsSeq2 PySem.MeetsSeq3
end
section
variable {prog : Program} {w : World} {A : Around} {E : Value -> Shared -> Prop} {s : Shared}
end
end HT
namespace L2.L3
open PySem PySem.Spec PyProof.Rows
variable [CN]
section
variable {X : Cx}
end
end L2.L3
namespace L2.L3
open PySem PyProof.Rows
variable [CN]
section
variable {X : Cx}
end
end L2.L3
namespace L2.L3
universe u
theorem ls0 {α : Type u} {P : List α -> Prop} (h : P []) : ∀ us : List α, us.length = 0 -> P us := fun us e => by
 rw [List.eq_nil_of_length_eq_zero e]
 exact h
theorem lsS {α : Type u} {P : List α -> Prop} {n : Nat} (h : ∀ a us, us.length = n -> P (a :: us)) : ∀ us : List α, us.length = n + 1 -> P us := fun us e => by
 cases us with
 | nil => cases e
 | cons a us => exact h a us (Nat.succ.inj e)
theorem ls1 {α : Type u} {P : List α -> Prop} (h : ∀ a, P [a]) : ∀ us : List α, us.length = 1 -> P us := lsS fun a => ls0 (h a)
theorem ls2 {α : Type u} {P : List α -> Prop} (h : ∀ a b, P [a, b]) : ∀ us : List α, us.length = 2 -> P us := lsS fun a => ls1 (h a)
end L2.L3
namespace L2.L3
open PySem PySem.Spec PyProof.Rows
section
variable {M : Model} {A : Around} {E : Value -> Shared -> Prop} {s : Shared} {B : Heap} {L e : Addr} {cls a0 fl : Value}
def KpX (Φ : Option Addr -> Value -> Prop) (e : Addr) (h : Heap) : Prop := ∃ oe vs v, h.get? e = some oe /\ oe.data = .fields vs /\ vs[2]? = some v /\ Φ oe.dict v
theorem yP3 (f : Array Value -> Array Value) (o : Obj) : (Obj.mapFields f o).dict = o.dict := by
 unfold Obj.mapFields
 split <;> rfl
theorem KpX.mono {Φ Ψ : Option Addr -> Value -> Prop} {h : Heap} {e : Addr} (k : KpX Φ e h) (m : ∀ d v, Φ d v -> Ψ d v) : KpX Ψ e h := by
 obtain ⟨o, vs, v, q, d, z, y⟩ := k
 exact ⟨o, vs, v, q, d, z, m _ _ y⟩
theorem KpX.one {Φ : Option Addr -> Value -> Prop} {h h' : Heap} {e : Addr} {oe : Obj} {v : Value} (k : KpX Φ e h) (he : h.get? e = some oe) (he' : h'.get? e = some (Obj.mapFields (·.setIfInBounds 1 v) oe)) : KpX Φ e h' := by
 obtain ⟨o, vs, v2, q, d, z, y⟩ := k
 cases he.symm.trans q
 exact ⟨_, _, v2, he', Obj.data_mapFields d _, by rw [Array.getElem?_setIfInBounds_ne (by decide)]; exact z, by rw [yP3]; exact y⟩
theorem KpX.same {Φ : Option Addr -> Value -> Prop} {h h' : Heap} {e : Addr} (k : KpX Φ e h) (q : h'.get? e = h.get? e) : KpX Φ e h' := by
 obtain ⟨o, vs, v, z, d⟩ := k
 exact ⟨o, vs, v, q.trans z, d⟩
structure Marks (B : Heap) (l : List Env) (e L : Addr) (oe : Obj) (h g h' : Heap) : Prop where
 rest : ∀ b, b ∉ l.filterMap (·.frame) -> g.get? b = h.get? b
 slot : ∀ b o, h.get? b = some o -> ∃ sl, g.get? b = some { o with slots := sl }
 told : h'.get? e = some (Obj.mapFields (·.setIfInBounds 1 (.ref g.objs.size)) oe)
 mark : ∃ o ts, h'.get? g.objs.size = some o /\ o.data = .fields ts /\ ts[3]? = some (rawInt L)
 else_ : ∀ b o, b ≠ e -> g.get? b = some o -> h'.get? b = some o
theorem Marks.noted {Φ : Option Addr -> Value -> Prop} {l : List Env} {oe : Obj} {vs : Array Value} {h g h' : Heap} (m : Marks B l e L oe h g h') (hF : h.FunFrames B l) (hB : B.StaysIn h) (hn : B.get? e = none) (he : h.get? e = some oe) (hd : oe.data = .fields vs) (hs : 1 < vs.size) (h0 : vs[0]? = some a0) :
  Heap.NotedW B l e oe.cls a0 (rawInt L) h h' /\ (KpX Φ e h -> KpX Φ e h') := by
 have fr : ∀ b ∈ l.filterMap (·.frame), B.get? b = none := fun b z => (hF.mem z).1
 have ne : ∀ b o, h.get? b = some o -> (∀ vs, o.data ≠ .fields vs) -> b ≠ e := by
  rintro b o q d rfl
  cases he.symm.trans q
  exact d vs hd
 have stay : B.StaysIn g := fun b o q => by
  rw [m.rest b fun z => by rw [fr b z] at q; cases q]
  exact hB b o q
 have up : ∀ b o, h.get? b = some o -> (∀ vs, o.data ≠ .fields vs) -> ∃ sl, h'.get? b = some { o with slots := sl } := fun b o q d =>
  let ⟨sl, y⟩ := m.slot b o q
  ⟨sl, m.else_ b _ (ne b o q d) y⟩
 obtain ⟨oT, ts, q1, q2, q3⟩ := m.mark
 have eT : g.objs.size ≠ e := by
  have nfr : e ∉ l.filterMap (·.frame) := fun z => by
   obtain ⟨_, o, ho, nf⟩ := hF.mem z
   cases he.symm.trans ho
   exact nf vs hd
  exact Nat.ne_of_gt (Heap.lt_size ((m.rest e nfr).trans he))
 refine ⟨⟨fun b o q => m.else_ b o (by rintro rfl; rw [hn] at q; cases q) (stay b o q), hF.of_keeps fun b o q d => let ⟨_, y⟩ := up b o q d; ⟨_, y, rfl⟩, ?_, up⟩, fun kp => kp.one he m.told⟩
 exact ⟨_, _, g.objs.size, oT, ts, m.told, ⟨Obj.cls_mapFields _ _, (Array.getElem?_setIfInBounds_ne (by decide)).trans h0⟩, Obj.data_mapFields hd _, by simp [hs], stay.fresh, eT, q1, q2, q3⟩
theorem entryK {env : Env} {outer : List Env} {oe : Obj} {vs : Array Value} {head : Value} {hadNext : Bool} {Q : Unit -> Shared -> Prop}
  (hA : A.frames = some (env :: outer)) (hF : s.heap.FunFrames B (env :: outer)) (hf : env.frame = some L)
  (he : s.heap.get? e = some oe) (hB : B.StaysIn s.heap) (hn : B.get? e = none) (hd : oe.data = .fields vs) (hsz : 1 < vs.size) (h0 : vs[0]? = some a0) {Φ : Option Addr -> Value -> Prop} (kp : KpX Φ e s.heap)
  (k : ∀ g, Heap.NotedW B (env :: outer) e oe.cls a0 (rawInt L) s.heap g -> KpX Φ e g -> Q () { s with heap := g }) :
  wpAny M A (frameOf env >>= fun a => entryPlaceOf L hadNext >>= fun pl => EntryCells.newEntry head a .none (rawInt L) .none pl >>= setField (.ref e) 1) Q E s := by
 refine wpAny_bind (wpAny_frameOf_fun hA hF hf fun g hg => wpAny_bind (wpAny_entryPlaceOf fun pl hpl => ?_))
 have here : g.get? e = some oe := (hg.2.1 e fun z => by
  obtain ⟨_, o, ho, nf⟩ := hF.mem z
  cases he.symm.trans ho
  exact nf vs hd).trans he
 simp only [EntryCells.newEntry, newFields]
 refine wpAny_bind (wpAny_newObj_type (wpAny_setField (Heap.get?_push_of_some _ here) hd hsz ?_) (hpl.sizeOk5 _ _ _ _ _))
 have T : g.objs.size ≠ e := Nat.ne_of_gt (Heap.lt_size here)
 have i3 : ∀ xs : List Value, ([head, .ref L, .none, rawInt L, .none] ++ xs).toArray[3]? = some (rawInt L) := fun xs => by simp
 have fin : ∀ ob ts, ob.data = .fields ts -> ts[3]? = some (rawInt L) -> Q () { s with heap := (g.push ob).update e (Obj.mapFields (·.setIfInBounds 1 (.ref g.objs.size))) } := fun ob ts d3 t3 => by
  obtain ⟨n, kk⟩ := Marks.noted (a0 := a0) ⟨hg.2.1, hg.2.2, Heap.get?_update_self _ (Heap.get?_push_of_some ob here) (Obj.isFreed_of_fields (Obj.data_mapFields hd _)), ⟨ob, ts, (Heap.get?_update_other _ _ (Ne.symm T)).trans (Heap.get?_push_size g (Obj.isFreed_of_fields d3)), d3, t3⟩,
   fun b o nb q => by rw [Heap.get?_update_other _ _ (Ne.symm nb)]; exact Heap.get?_push_of_some _ q⟩ hF hB hn he hd hsz h0
  exact k _ n (kk kp)
 exact fin _ _ rfl (i3 _)
theorem flightK {l : List Env} {Q : Unit -> Shared -> Prop} (hB : B.StaysIn s.heap) (hn : B.get? e = none) (hF : s.heap.FunFrames B l) (ht : s.heap.TracedAtW B e cls a0 fl) {Φ : Option Addr -> Value -> Prop} (kp : KpX Φ e s.heap)
  (k : ∀ g, Heap.FlyingW B l e cls a0 g -> s.heap.UpToSlots g -> KpX Φ e g -> Q () { s with heap := g }) : wpAny M A (setFlight (.ref e) none) Q E s := by
 obtain ⟨oe, vs, T, oT, ts, g1, g2, g4, g5, g6, g7, g8, g9, g10⟩ := ht
 have sz := (Array.getElem?_eq_some_iff.mp g10).1
 have ot : ∀ b, b ≠ T -> (s.heap.update T (Obj.mapFields (·.setIfInBounds 3 ((none : Option Addr).elim Value.none fun f => rawInt f)))).get? b = s.heap.get? b := fun b hb => Heap.get?_update_other _ _ (Ne.symm hb)
 have nf : ∀ b o, s.heap.get? b = some o -> (∀ vs, o.data ≠ .fields vs) -> b ≠ T := fun b o q hd w => by
  subst w
  cases g8.symm.trans q
  exact hd ts g9
 unfold setFlight
 refine wpAny_bind (wpAny_field g1 g4 g5 ?_)
 have n1 : (Value.ref T != Value.none) = true := by simp
 simp only [n1, if_true]
 refine wpAny_setField g8 g9 sz (k _ ⟨fun b o q => (ot b fun w => by subst w; rw [g6] at q; cases q).trans (hB b o q), hn, hF.of_keeps fun b o q hd => ⟨o, (ot b (nf b o q hd)).trans q, rfl⟩, ?_⟩ (fun b o q hd => ⟨o.slots, (ot b (nf b o q hd)).trans q⟩) (kp.same (ot e (Ne.symm g7))))
 exact ⟨oe, vs, T, _, _, (ot e (Ne.symm g7)).trans g1, g2, g4, g5, g6, g7, Heap.get?_update_self _ g8 (Obj.isFreed_of_fields (Obj.data_mapFields g9 _)), Obj.data_mapFields g9 _, by simp [sz]⟩
theorem jP {env : Env} {outer : List Env} {Q : Unit -> Shared -> Prop} (hA : A.frames = some (env :: outer)) (hF : s.heap.FunFrames B (env :: outer)) (hf : env.frame = some L) (ht : s.heap.TracedAtW B e cls a0 fl) (hB : B.StaysIn s.heap) (hn : B.get? e = none) {Φ : Option Addr -> Value -> Prop} (kp : KpX Φ e s.heap)
  (k : ∀ g, Heap.NotedW B (env :: outer) e cls a0 (rawInt L) s.heap g -> KpX Φ e g -> Q () { s with heap := g }) : wpAny M A (noteFrame (.ref e) env) Q E s := by
 by_cases z : fl = rawInt L
 ·subst z
  exact wpAny_noteFrame_againW hf ht (k s.heap ⟨hB, hF, ht, fun b o q _ => ⟨o.slots, q⟩⟩ kp)
 ·obtain ⟨oe, vs, T, oT, ts, g1, ⟨rfl, g3⟩, g4, g5, g6, g7, g8, g9, g10⟩ := ht
  have sz := (Array.getElem?_eq_some_iff.mp g10).1
  have n1 : (Value.ref T != Value.none) = true := by simp
  have n2 : (fl == rawInt L) = false := by simpa using z
  have ot : ∀ b, b ≠ T -> (s.heap.update T (Obj.mapFields (·.setIfInBounds 3 .none))).get? b = s.heap.get? b := fun b hb => Heap.get?_update_other _ _ (Ne.symm hb)
  have nf : ∀ b o, s.heap.get? b = some o -> (∀ vs, o.data ≠ .fields vs) -> b ≠ T := fun b o q hd w => by
   subst w
   cases g8.symm.trans q
   exact hd ts g9
  unfold noteFrame
  simp only [hf]
  refine wpAny_bind (wpAny_field g1 g4 g5 ?_)
  simp only [n1, if_true]
  refine wpAny_bind (wpAny_field g8 g9 g10 ?_)
  simp only [n2, Bool.false_eq_true, if_false]
  refine wpAny_bind (wpAny_setField g8 g9 sz (entryK (a0 := a0) (vs := vs) hA ?_ hf ((ot e g7.symm).trans g1) (fun b o q => ?_) hn g4 (Array.getElem?_eq_some_iff.mp g5).1 g3 (kp.same (ot e g7.symm)) fun g hg kg => ?_))
  ·exact hF.of_keeps fun b o q hd => ⟨o, (ot b (nf b o q hd)).trans q, rfl⟩
  ·have : b ≠ T := fun w => by subst w; rw [g6] at q; cases q
   exact (ot b this).trans (hB b o q)
  ·exact k g ⟨hg.1, hg.2.1, hg.2.2.1, fun b o q hd => hg.2.2.2 b o ((ot b (nf b o q hd)).trans q) hd⟩ kg
theorem yT9 {α : Type} {what : String} {env : Env} {Q : α -> Shared -> Prop} (ht : s.heap.TracedAtW B e cls a0 fl) {Φ : Option Addr -> Value -> Prop} (kp : KpX Φ e s.heap)
  (k : ∀ (g : Heap) (T : Addr) (fl' : Value), B.get? T = none -> (∀ b, b ≠ T -> g.get? b = s.heap.get? b) -> (∃ o ts, s.heap.get? T = some o /\ o.data = .fields ts) -> g.TracedAtW B e cls a0 fl' -> KpX Φ e g -> E (.ref e) { s with heap := g }) : wpAny M A (PySem.passOn what (.ref e) env) Q E s := by
 obtain ⟨oe, vs, T, oT, ts, g1, ⟨rfl, g3⟩, g4, g5, g6, g7, g8, g9, g10⟩ := ht
 have sz := (Array.getElem?_eq_some_iff.mp g10).1
 have n0 : (Value.ref T == Value.none) = false := by simp
 have n1 : (Value.ref T != Value.none) = true := by simp
 have fin : wpAny M A (setFlight (.ref e) env.frame >>= fun _ => (throw (.ref e) : Sem α)) Q E s := by
  unfold setFlight
  refine wpAny_bind (wpAny_bind (wpAny_field g1 g4 g5 ?_))
  simp only [n1, if_true]
  refine wpAny_setField g8 g9 sz (wpAny_throw (k _ T (env.frame.elim .none fun f => rawInt f) g6 (fun b hb => Heap.get?_update_other _ _ (Ne.symm hb)) ⟨oT, ts, g8, g9⟩ ?_ (kp.same (Heap.get?_update_other _ _ g7))))
  exact ⟨oe, vs, T, _, _, (Heap.get?_update_other _ _ g7).trans g1, ⟨rfl, g3⟩, g4, g5, g6, g7, Heap.get?_update_self _ g8 (Obj.isFreed_of_fields (Obj.data_mapFields g9 _)), Obj.data_mapFields g9 _, by simp [sz]⟩
 unfold PySem.passOn
 refine wpAny_bind (wpAny_field g1 g4 g5 ?_)
 simp only [n0, Bool.false_eq_true, if_false]
 exact fin
end
variable [CN]
def Raw (B : Heap) (e : Addr) (cls a0 : Value) (h : Heap) : Prop :=
 (∃ fl, h.TracedAtW B e cls a0 fl) \/ ∃ oe vs, h.get? e = some oe /\ oe.cls = cls /\ oe.data = .fields vs /\ vs[1]? = some .none /\ vs[0]? = some a0
def FlK (cls : Value) (ro : Option Nat) (B h1 : Heap) (H : Hp) : Option Addr -> Value -> Prop := fun od v =>
 (cls ≠ .ref (CN.ad "BadText") -> v = .none) /\ ∀ r, ro = some r -> ∃ d, od = some d /\ Row d (r : Int) B /\ H d = none /\ h1.get? d = none
structure Fl (stk : List Env) (h1 : Heap) (H : Hp) (e : Addr) (cls : Value) (ro : Option Nat) (B : Heap) (a0 : Value) (h : Heap) : Prop where
 stays : B.StaysIn h
 newB : B.get? e = none
 frm : h.FunFrames B stk
 raw : Raw B e cls a0 h
 kp : KpX (FlK cls ro B h1 H) e h
 cov : ∀ b o, h.get? b = some o -> b ∉ frs stk -> (h1.get? b ≠ none \/ H b ≠ none) -> B.get? b = some o
def ExcAt (X : Cx) (c : Str) (H : Hp) (e : Value) (s : Shared) : Prop :=
 ∃ (pins : List (Addr × Obj)) (σ : St) (s1 : Shared) (H1 : Hp) (a : Addr) (B : Heap) (a0 : Value), Inv X pins σ H1 s1 /\ Inv X pins σ H s /\ Un (frs X.stack) [] H1 H s1.heap s.heap /\ e = .ref a /\ s1.heap.get? a = none /\ H a = none /\ Fl X.stack s1.heap H a (.ref (CN.ad c)) (rowOf c) B a0 s.heap
def CXV (P : Program) (w : World) : CXT := fun outer H s E e s' =>
 ∃ (a : Addr) (cls : Value) (ro : Option Nat) (B : Heap) (a0 : Value) (H' : Hp), e = .ref a /\ s'.os = s.os /\ AllBare s'.gens /\ Un (frs outer) [] H H' s.heap s'.heap /\ HOk P w H' s'.heap /\ s.heap.get? a = none /\ H' a = none /\ Fl outer s.heap H' a cls ro B a0 s'.heap /\ E cls ro H'
theorem wD {P : Program} {w : World} {H : Hp} {h : Heap} {a : Addr} {o : HO} (x : ObjOk P w H h a o) : ∃ u, h.get? a = some u := by
 cases o with
 | lst xs => exact ⟨_, x.2.choose_spec.choose_spec.2⟩
 | tup xs => obtain ⟨_, its, _, ob, e, _⟩ := x; exact ⟨ob, e⟩
 | dK kvs => obtain ⟨_, _, _, _, ob, _, _, e, _⟩ := x; exact ⟨ob, e⟩
 | dT kvs => obtain ⟨_, _, _, _, ob, _, _, e, _⟩ := x; exact ⟨ob, e⟩
 | set S n => obtain ⟨ob, _, _, _, e, _⟩ := x; exact ⟨ob, e⟩
 | ins C dx fs => obtain ⟨_, _, _, e, _⟩ := x; exact ⟨_, e⟩
 | own y => exact x
 | xd fs => obtain ⟨_, ⟨ob, _, _, e, _⟩, _⟩ := x; exact ⟨ob, e⟩
 | rng lo hi => obtain ⟨_, _, _, e⟩ := x; exact ⟨_, e⟩
 | frz ob u => exact ⟨ob, x.1⟩
 | tbl ps => exact ⟨_, x⟩
 | met f y => exact ⟨_, x⟩
 | ext φ => exact x.2.1
theorem zZ9 {P : Program} {w : World} {H : Hp} {h : Heap} {a : Addr} (x : HOk P w H h) (n : H a ≠ none) : ∃ u, h.get? a = some u := by
 cases e : H a with
 | none => exact absurd e n
 | some o => exact wD (x a o e)
theorem kJ {α : Type} {o : Option α} (h : o ≠ none) : ∃ x, o = some x := by
 cases o with
 | none => exact absurd rfl h
 | some x => exact ⟨x, rfl⟩
theorem xX {α : Type} {o : Option α} {x : α} (h : o = some x) : o ≠ none := by
 rw [h]; exact fun z => nomatch z
theorem kR {α : Type} {o : Option α} (h : ∀ x, o = some x -> False) : o = none := by
 cases o with
 | none => rfl
 | some x => exact (h x rfl).elim
theorem yY7 {X : Cx} {c : Str} {H : Hp} {e : Value} {s : Shared} {E : XK} {E2 : Value -> Shared -> Prop} (x : ExcAt X c H e s) (hst : X.stack = X.env :: X.outer) (hfr : X.env.frame = some X.env.locals) (hex : X.ex = []) (hE : E (.ref (CN.ad c)) (rowOf c) H) :
  wpAny (model X.prog X.w) X.A (leaving X.env e) (fun _ s'' => CXV X.prog X.w X.outer X.H₀ X.s₀ E e s'') E2 s := by
 obtain ⟨pins, σ, s1, H1, a, B, a0, I1, I, un, rfl, n1, n2, f⟩ := x
 have noex : ∀ b : Addr, b ∉ X.ex := fun b z => by rw [hex] at z; cases z
 obtain ⟨Φ, hP⟩ : ∃ Φ, Φ = FlK (.ref (CN.ad c)) (rowOf c) B s1.heap H := ⟨_, rfl⟩
 have fk : KpX Φ a s.heap := hP ▸ f.kp
 have hfs : frs X.stack = X.env.locals :: X.fs := by
  rw [hst]
  show List.filterMap _ _ = _
  rw [List.filterMap_cons, hfr]
  rfl
 have hfrm : s.heap.FunFrames B (X.env :: X.outer) := by rw [<- hst]; exact f.frm
 have hA : X.A.frames = some (X.env :: X.outer) := by rw [<- hst]; exact I.ok.frames
 have oldL : ∀ b o, X.s₀.heap.get? b = some o -> b ≠ X.env.locals := fun b o q z => by
  subst z
  exact absurd (Heap.lt_size q) (Nat.not_lt.mpr I.ok.above)
 have old1 : ∀ b o, X.s₀.heap.get? b = some o -> s1.heap.get? b ≠ none := fun b o q => let ⟨_, e⟩ := I1.base.there b o q (noex b); xX e
 have key : ∀ h', Heap.LeftW B (X.env :: X.outer) a (.ref (CN.ad c)) a0 s.heap h' -> KpX Φ a h' -> CXV X.prog X.w X.outer X.H₀ X.s₀ E (.ref a) { s with heap := h' } := by
  rintro h' ⟨k1, k2, k3, k4⟩ kh
  have kp : ∀ b o, s.heap.get? b = some o -> b ∉ frs X.stack -> (s1.heap.get? b ≠ none \/ H b ≠ none) -> h'.get? b = some o := fun b o q n z => k1 b o (f.cov b o q n z)
  have out : ∀ b, b ∉ X.fs -> b ≠ X.env.locals -> b ∉ frs X.stack := fun b n1 n2 z => by
   rw [hfs] at z
   rcases List.mem_cons.mp z with z | z
   ·exact n2 z
   ·exact n1 z
  have trk : ∀ b, H b ≠ none -> b ∉ frs X.stack := fun b n z => n (I.stkFree b z)
  refine ⟨a, _, rowOf c, B, a0, H, rfl, I.os, I.bare, ⟨fun b o q n hb hx => ?_, fun b o q n hb hx => ?_, fun b o q n hx => I.base.free b o q n (noex b), fun b o q hx => ?_, I.base.tups, I.base.frzs, I.base.tbls⟩, fun b o q => ?_, ?_, n2, ⟨k1, f.newB, k2.2.2, .inl ⟨_, k3.at⟩, KpX.mono (hP ▸ kh) (fun d v ⟨y1, y2⟩ => ⟨y1, fun r e => let ⟨d', z1, z2, z3, z4⟩ := y2 r e; ⟨d', z1, z2, z3, kR fun o q => old1 d' o q z4⟩⟩), fun b o q n z => ?_⟩, hE⟩
  ·exact kp b o (I.base.keep b o q n hb (noex b)) (out b hb (oldL b o q)) (.inl (old1 b o q))
  ·obtain ⟨sl, e⟩ := I.base.slot b o q n hb (noex b)
   obtain ⟨_, o', e', nf⟩ := f.frm.mem (b := b) (by show b ∈ frs X.stack; rw [hfs]; exact List.mem_cons_of_mem _ hb)
   rw [e] at e'
   cases e'
   obtain ⟨sl', e2⟩ := k4 b _ e nf
   exact ⟨sl', e2⟩
  ·by_cases hb : b ∈ frs X.stack
   ·obtain ⟨_, o', e', _⟩ := k2.mem (b := b) (by rw [hst] at hb; exact hb)
    exact ⟨o', e'⟩
   ·obtain ⟨o', e'⟩ := I.base.there b o q (noex b)
    exact ⟨o', kp b o' e' hb (.inl (old1 b o q))⟩
  ·refine (I.hok b o q).stay (fun b' u hb' e => ?_) (fun _ z => z) fun _ _ z => z
   have n : H b' ≠ none := by
    rcases hb' with rfl | hb'
    ·exact xX q
    ·exact xX hb'
   exact kp b' u e (trk b' n) (.inr n)
  ·cases q : X.s₀.heap.get? a with
   | none => rfl
   | some o => exact absurd n1 (old1 a o q)
  ·have nL : b ≠ X.env.locals := by
    rcases z with z | z
    ·obtain ⟨o', q'⟩ := kJ z
     exact oldL b o' q'
    ·intro y
     subst y
     exact z I.free
   have ns : b ∉ frs X.stack := out b n nL
   obtain ⟨o2, q2⟩ : ∃ o2, s.heap.get? b = some o2 := by
    rcases z with z | z
    ·obtain ⟨o', q'⟩ := kJ z
     exact I.base.there b o' q' (noex b)
    ·exact zZ9 I.hok z
   have z' : s1.heap.get? b ≠ none \/ H b ≠ none := by
    rcases z with z | z
    ·obtain ⟨o', q'⟩ := kJ z
     exact .inl (old1 b o' q')
    ·exact .inr z
   have hB := f.cov b o2 q2 ns z'
   have q3 := k1 b o2 hB
   have q4 : h'.get? b = some o := q
   rw [q3] at q4
   cases q4
   exact hB
 rcases f.raw with t | ⟨oe, vs, he, hc, hd, h1, h0⟩
 ·obtain ⟨fl, t⟩ := t
  unfold leaving
  refine wpAny_bind (jP hA hfrm hfr t f.stays f.newB fk fun g ⟨x1, x2, x3, x4⟩ kg => ?_)
  exact flightK (s := { s with heap := g }) x1 f.newB x2 x3 kg fun g2 fly ups k2 => key g2 ⟨fly.1, fly.2.2.1, fly.2.2.2, Heap.UpToSlots.trans x4 ups⟩ k2
 ·rw [<- hc] at key
  unfold leaving noteFrame
  simp only [hfr]
  refine wpAny_bind (wpAny_bind (wpAny_field he hd h1 ?_))
  rw [if_neg (by decide)]
  refine entryK hA hfrm hfr he f.stays f.newB hd (Array.getElem?_eq_some_iff.mp h1).1 h0 fk fun g ⟨x1, x2, x3, x4⟩ kg => ?_
  exact flightK (s := { s with heap := g }) x1 f.newB x2 x3 kg fun g2 fly ups k2 => key g2 ⟨fly.1, fly.2.2.1, fly.2.2.2, Heap.UpToSlots.trans x4 ups⟩ k2
def Br (C : Ct) : Prop := ∀ (c : Str) (H : Hp) (e : Value) (s : Shared), ExcAt C.X c H e s -> C.XE c H -> C.X.xe e s
theorem zG7 {C : Ct} (h : ∀ c H, C.XE c H -> False) : Br C := fun c H _ _ _ z => (h c H z).elim
def wX (C : Ct) : XK := fun v ro H => ∃ c, v = .ref (CN.ad c) /\ ro = rowOf c /\ C.XE c H
theorem passX {C : Ct} (hb : Br C) : Passes (CXV C.X.prog C.X.w) C.X (wX C) := by
 intro pins σ H s e s' I h
 obtain ⟨a, cls, ro, B, a0, H', rfl, os, bare, un, hok, n1, n2, f, c, rfl, rfl, z⟩ := h
 exact hb c H' _ s' ⟨pins, σ, s, H, a, B, a0, I, I.call' os un hok bare (fun b z => by cases z), un, rfl, n1, n2, f⟩ z
def spX (fr : Bool) (F : List D -> Res D) : Sp := fun vs H Q E => ∃ (ds : List D) (O : Addr -> Prop), (∀ a, O a -> H a ≠ none) /\ Reps H O vs ds /\ (F ds).post (fun d => ∀ v H', Same H H' -> CallOk fr O H H' v d -> Q v H') (fun c => ∀ H', Same H H' -> E (.ref (CN.ad c)) (rowOf c) H')
section
variable {P : Program} {w : World} {K : KFr} {mg : Str -> Option Value} {base : Heap}
abbrev bodyX (P : Program) (w : World) (K : KFr) (mg : Str -> Option Value) (base : Heap) (N : List Str) (x : Str) (sc : Scope) (f : Addr) (cdv : Value) (A : Around) (outer : List Env) (s : Shared) (H : Hp) (E : XK) (om : List Nat) : Ct :=
 ⟨cxOf (CXV P w) P w K mg base N x sc f cdv A outer s H E, fun c H' => E (.ref (CN.ad c)) (rowOf c) H', om, []⟩
theorem yU {N : List Str} {x : Str} {sc : Scope} {f : Addr} {cdv : Value} {A : Around} {outer : List Env} {s : Shared} {H : Hp} {E : XK} {om : List Nat} : Br (bodyX P w K mg base N x sc f cdv A outer s H E om) :=
 fun c H' e s' x h => yY7 x rfl rfl rfl h
theorem yN {x : Str} {st : Stmt} {f : Addr} {fd : FuncData} {N ps : List Str} {k : Nat} {m : Ev -> Res Out} {fr : Bool} (om : List Nat) (F : Fun K x x st f fd) (S : zF N ps (zT st))
  (hbody : ∀ (cdv : Value) (A : Around) (outer : List Env) (s : Shared) (H : Hp) (E : XK), Room k (A.deeper (envOfC x (zT st) s.heap.objs.size f cdv)) -> RSs (bodyX P w K mg base N x (zT st) f cdv A outer s H E om) fr (defBody st) m)
  (hom : autoParam (om.all (fun i => decide (ps.length <= i)) = true) zZ._auto_1) :
  FnOk P w K mg base (CXV P w) (k + 1) f fd ps (spX fr (runF fr ps.length N.length m)) := by
 have len : ∀ (vs : List V) (H : Hp) (Q : VK) (E : XK), spX fr (runF fr ps.length N.length m) vs H Q E -> vs.length = ps.length := fun vs H Q E h => by
  obtain ⟨ds, O, oh, r, k⟩ := h
  unfold runF at k
  split at k
  ·rename_i hl
   rw [r.length]; exact hl
  ·exact k.elim
 obtain ⟨oc, od, kV, doc, pm, an, cdv, ct, osl, rfl, lk, hcd⟩ := F.ex
 refine yO6 lk hcd S len fun A outer s H vs Q E hr h => ?_
 have hvl := len vs H Q E h
 obtain ⟨ds, O, oh, r, k⟩ := h
 have hl : ds.length = ps.length := by rw [<- r.length]; exact hvl
 unfold runF at k
 rw [if_pos hl] at k
 obtain ⟨t, p, q⟩ := hbody cdv A outer s H E hr
 refine ⟨t, p, q ⟨O, fun _ => 0⟩ (fun _ => False) _ H (ds.map some ++ List.replicate (N.length - ps.length) none) _ ?_ ?_⟩
 ·refine ⟨?_, fun i d e _ _ => ?_, fun i d e ho => ?_, fun i d e _ hl => (nomatch hl), fun i j di dj a ei _ ho _ _ _ => ?_, fun a z => oh a (z.elim id fun z => z.elim), fun a z => z.elim⟩
  ·unfold start
   rw [List.length_append, List.length_append, List.length_map, List.length_map, List.length_replicate, List.length_replicate, hvl, hl]
  ·obtain ⟨v, ev, rv⟩ := r.get (gC e)
   exact ⟨v, yT6 ev, rv.less fun b z => z.elim id fun z => z.elim⟩
  ·have h1 := (List.getElem?_eq_some_iff.mp (gC e)).1
   have h2 : ps.length <= i := of_decide_eq_true (List.all_eq_true.mp hom i ho)
   bv_omega
  ·have h1 := (List.getElem?_eq_some_iff.mp (gC ei)).1
   have h2 : ps.length <= i := of_decide_eq_true (List.all_eq_true.mp hom i ho)
   bv_omega
 ·have same : ∀ {H' : Hp}, Frm (fun _ => False) H H' -> Same H H' := fun f b o e => f b o e fun z => z
  refine Res.zW (Res.zX k) (fun o _ k => ?_) fun c z H' f => z H' (same f)
  cases o with
  | rt d =>
   intro v H' f rt
   refine k v H' (same f) ?_
   cases fr with
   | false => exact rt
   | true =>
    obtain ⟨a, ys, ds, e1, e2, e3, e4, e5, e6⟩ := rt
    exact ⟨a, ys, ds, e1, e2, e3.elim id fun z => z.elim, e5, e6⟩
  | nx ρ' =>
   cases fr with
   | true => exact k.elim
   | false => exact fun σ' H' Ob' R f s => k .non H' (same f) Rep.non
end
theorem zT3 {C : Ct} {k : Nat} {f : Addr} {fd : FuncData} {ps : List Str} {fr : Bool} {F : List D -> Res D} {x : Str} {p pos : Pos} {e : Expr} {es : List Expr} {ms : Ev -> Res (List D)} {st : Stmt} (G : FnOk C.X.prog C.X.w C.X.K C.X.mg C.X.base (CXV C.X.prog C.X.w) k f fd ps (spX fr F)) (hh : Has C.X.K C.X.mg x st f fd ps) (hr : Room k C.X.A)
  (hb : Br C) (ha : RArg C true (e :: es) ms) (hg : autoParam (Gl C.X x) zZ._auto_1) (hdb : autoParam ((x == ("__debug__" : Str)) = false) zO._auto_1) (he : autoParam (starEach (e :: es) C.X.env = (false, eval e C.X.env) :: starEach es C.X.env) zZ._auto_1) (hpl : autoParam ((backTo pos (starEach es C.X.env)).any (·.1) = false) zZ._auto_1) :
  RE C (mdF fr) (.Call (.Name x p) (e :: es) [] pos) (eF F ms) := by
 obtain ⟨t, pa, q⟩ := ha
 refine ⟨_, zL7 G hr hg hh.m hh.F.kp hh.b .nil (passX hb) pa hdb he hpl, fun Oc Ob σ H ρ Q R h => ?_⟩
 refine q Oc Ob σ H ρ _ R (Res.zW (Res.zX h) (fun ds _ k vs H1 s1 r => ?_) fun c z => z)
 show spX fr F (vs ++ []) H1 Q (wX C)
 rw [List.append_nil]
 refine ⟨ds, Uni Oc Ob, (R.same s1).oh, r, Res.zW k (fun d _ k v H' s2 rv => ?_) fun c z H' s2 => ⟨c, rfl, rfl, z H' (s1.trans s2)⟩⟩
 refine k v H' (s1.trans s2) ?_
 cases fr with
 | false => exact rv
 | true =>
  obtain ⟨a, ys, ds, e1, e2, e3, e4, e5⟩ := rv
  exact ⟨a, ys, ds, e1, e2, s1.free e3, e4, e5⟩
theorem zD8 {C : Ct} {k : Nat} {f : Addr} {fd : FuncData} {ps : List Str} {fr : Bool} {F : List D -> Res D} {x : Str} {p pos : Pos} {e : Expr} {es : List Expr} {ms : Ev -> Res (List D)} {st : Stmt} (G : FnOk C.X.prog C.X.w C.X.K C.X.mg C.X.base (CXV C.X.prog C.X.w) k f fd ps (spX fr F)) (hh : Has C.X.K C.X.mg x st f fd ps) (hr : Room k C.X.A)
  (hb : Br C) (ha : RArg C false (e :: es) ms) (hg : autoParam (Gl C.X x) zZ._auto_1) (hdb : autoParam ((x == ("__debug__" : Str)) = false) zO._auto_1) (he : autoParam (starEach (e :: es) C.X.env = (false, eval e C.X.env) :: starEach es C.X.env) zZ._auto_1) (hpl : autoParam ((backTo pos (starEach es C.X.env)).any (·.1) = false) zZ._auto_1) :
  RE C (mdF fr) (.Call (.Name x p) (e :: es) [] pos) (eFA fr F ms) := by
 obtain ⟨t, pa, q⟩ := ha
 refine ⟨_, zL7 G hr hg hh.m hh.F.kp hh.b .nil (passX hb) pa hdb he hpl, fun Oc Ob σ H ρ Q R h => ?_⟩
 refine q Oc Ob σ H ρ _ R (Res.zW (Res.zX h) (fun ds _ k vs H1 s1 r => ?_) fun c z => z)
 show spX fr F (vs ++ []) H1 Q (wX C)
 rw [List.append_nil]
 refine ⟨ds, fun b => Uni Oc Ob b /\ ¬ ∃ ys, H1 b = some (.lst ys), fun a z => (R.same s1).oh a z.1, VAs.lent r, Res.zW (Res.zX k) (fun d _ k v H' s2 rv => ?_) fun c z H' s2 => ⟨c, rfl, rfl, z H' (s1.trans s2)⟩⟩
 have hB : ∀ b, (∃ ys, H1 b = some (.lst ys)) -> ∃ ys, H' b = some (.lst ys) := fun b ⟨ys, e⟩ => ⟨ys, s2 _ _ e⟩
 by_cases hl : lfT fr d = true
 ·rw [if_pos hl] at k
  refine k v H' (s1.trans s2) ?_
  cases fr with
  | false => exact Rep.lf hB rv (by cases d <;> exact hl)
  | true =>
   obtain ⟨a, ys, ds, e1, rfl, e3, e4, e5⟩ := rv
   have e5' : Reps H' (fun b => (Uni Oc Ob b \/ b = a) /\ ¬ ∃ ys, H1 b = some (.lst ys)) ys ds := e5.less fun b z => z.1.elim (fun q => .inl ⟨q, z.2⟩) .inr
   exact ⟨a, ys, ds, e1, rfl, s1.free e3, e4, Reps.lf hB e5' hl⟩
 ·rw [if_neg hl] at k
  exact k.elim
section
variable {C : Ct} {k : Nat} {f : Addr} {fd : FuncData} {ps : List Str} {F : List D -> Res D} {x : Str} {p pos : Pos} {e : Expr} {es : List Expr} {ms : Ev -> Res (List D)} {st : Stmt}
theorem zB (G : FnOk C.X.prog C.X.w C.X.K C.X.mg C.X.base (CXV C.X.prog C.X.w) k f fd ps (spX false F)) (hh : Has C.X.K C.X.mg x st f fd ps) (hr : Room k C.X.A)
  (hb : Br C) (ha : RArg C true (e :: es) ms) (hg : autoParam (Gl C.X x) zZ._auto_1) (hdb : autoParam ((x == ("__debug__" : Str)) = false) zO._auto_1) (he : autoParam (starEach (e :: es) C.X.env = (false, eval e C.X.env) :: starEach es C.X.env) zZ._auto_1) (hpl : autoParam ((backTo pos (starEach es C.X.env)).any (·.1) = false) zZ._auto_1) :
  RE C .cl (.Call (.Name x p) (e :: es) [] pos) (eF F ms) := zT3 (fr := false) G hh hr hb ha hg hdb he hpl
theorem zX8 (G : FnOk C.X.prog C.X.w C.X.K C.X.mg C.X.base (CXV C.X.prog C.X.w) k f fd ps (spX true F)) (hh : Has C.X.K C.X.mg x st f fd ps) (hr : Room k C.X.A)
  (hb : Br C) (ha : RArg C true (e :: es) ms) (hg : autoParam (Gl C.X x) zZ._auto_1) (hdb : autoParam ((x == ("__debug__" : Str)) = false) zO._auto_1) (he : autoParam (starEach (e :: es) C.X.env = (false, eval e C.X.env) :: starEach es C.X.env) zZ._auto_1) (hpl : autoParam ((backTo pos (starEach es C.X.env)).any (·.1) = false) zZ._auto_1) :
  RE C .new (.Call (.Name x p) (e :: es) [] pos) (eF F ms) := zT3 (fr := true) G hh hr hb ha hg hdb he hpl
theorem bJ (G : FnOk C.X.prog C.X.w C.X.K C.X.mg C.X.base (CXV C.X.prog C.X.w) k f fd ps (spX false F)) (hh : Has C.X.K C.X.mg x st f fd ps) (hr : Room k C.X.A)
  (hb : Br C) (ha : RArg C false (e :: es) ms) (hg : autoParam (Gl C.X x) zZ._auto_1) (hdb : autoParam ((x == ("__debug__" : Str)) = false) zO._auto_1) (he : autoParam (starEach (e :: es) C.X.env = (false, eval e C.X.env) :: starEach es C.X.env) zZ._auto_1) (hpl : autoParam ((backTo pos (starEach es C.X.env)).any (·.1) = false) zZ._auto_1) :
  RE C .cl (.Call (.Name x p) (e :: es) [] pos) (eFA false F ms) := zD8 (fr := false) G hh hr hb ha hg hdb he hpl
end
end L2.L3
namespace L2
open PySem PySem.Spec PyProof.Rows
section
variable {X : Cx} {pins : List (Addr × Obj)} {σ : St} {H : Hp} {s : Shared}
theorem zC7 {M : Model} {A : Around} {E : Value -> Shared -> Prop} {i : Nat} {x : Str} {v : V} {Q : Unit -> Shared -> Prop} (I : Inv X pins σ H s) (hN : X.N.Nodup) (hi : X.N[i]? = some x) (hk : X.env.scope.names.lookup x = some .local) (hv : σ[i]? = some (some v))
  (h : ∀ s', Inv X pins (σ.set i none) H s' -> Q () s') : wpAny M A (unbindName X.env x) Q E s := by
 obtain ⟨m, hn, hl⟩ := id I.loc
 have hcls : (X.env.scope.kind == .class || (X.env.scope.kind == .module && X.env.locals != X.env.globals)) = false := by rw [I.ok.kind]; rfl
 have hiσ : i < σ.length := by rw [I.len]; exact (List.getElem?_eq_some_iff.mp hi).1
 obtain ⟨u, r, l⟩ := hl i x v hi hv (.inl hk)
 have mx : m x = some u := by
  rcases l with ⟨_, e⟩ | ⟨k, _⟩
  ·exact e
  ·have k' : X.env.scope.names.lookup x = some .cell \/ X.env.scope.names.lookup x = some .free := k
   rw [hk] at k'
   rcases k' with k' | k' <;> cases k'
 refine wpAny_unbindName_local hk hn mx hcls fun h' u' hn' hs => ?_
 obtain ⟨oL, _, _, hoL, _⟩ := id hn
 have old : ∀ b o, X.s₀.heap.get? b = some o -> h'.get? b = s.heap.get? b := fun b o e => hs.2 b (Nat.ne_of_lt (Nat.lt_of_lt_of_le (Heap.lt_size e) I.ok.above))
 refine h _ ⟨I.ok, I.os, I.bare, ⟨fun b o e n hb hx => ?_, fun b o e n hb hx => ?_, I.base.free, fun b o e hx => ?_, I.base.tups, I.base.frzs, I.base.tbls⟩, ⟨_, hn', fun j y v' e1 e2 e3 => ?_⟩, fun y c e => ?_, I.free, I.freeC, fun p hp => ?_, fun b ob e => ?_, by simpa using I.len⟩
 ·exact (old b o e).trans (I.base.keep b o e n hb hx)
 ·obtain ⟨sl, e1⟩ := I.base.slot b o e n hb hx
  exact ⟨sl, (old b o e).trans e1⟩
 ·obtain ⟨o', e1⟩ := I.base.there b o e hx
  exact ⟨o', (old b o e).trans e1⟩
 ·by_cases hj : j = i
  ·subst hj
   rw [List.getElem?_set_self hiσ] at e2
   cases e2
  ·rw [List.getElem?_set_ne (Ne.symm hj)] at e2
   obtain ⟨w', r', q⟩ := hl j y v' e1 e2 e3
   refine ⟨w', r', ?_⟩
   rcases q with ⟨k, e⟩ | ⟨k, c, e, z⟩
   ·refine .inl ⟨k, ?_⟩
    have : y ≠ x := fun e => hj (dB hN e1 (e ▸ hi))
    simp [this, e]
   ·exact .inr ⟨k, c, e, z.sameBut hs (I.cne y c e)⟩
 ·obtain ⟨w', z⟩ := I.cell y c e
  exact ⟨w', z.sameBut hs (I.cne y c e)⟩
 ·obtain ⟨e, n, ne, nf, d⟩ := I.pin p hp
  exact ⟨(hs.2 p.1 ne).trans e, n, ne, nf, d⟩
 ·refine (I.hok b ob e).stay (fun c w' hc q => (hs.2 c ?_).trans q) (fun _ q => q) fun _ _ q => q
  rintro rfl
  rcases hc with rfl | hc
  ·rw [I.free] at e; cases e
  ·rw [I.free] at hc; cases hc
theorem Inv.track {a : Addr} {o : HO} (I : Inv X pins σ H s) (n : H a = none) (n0 : X.s₀.heap.get? a = none) (nL : a ≠ X.env.locals) (nC : ∀ x c, X.env.cells.lookup x = some c -> c ≠ a) (nP : ∀ p ∈ X.pn ++ pins, p.1 ≠ a) (new : ObjOk X.prog X.w (upd H a o) s.heap a o) : Inv X pins σ (upd H a o) s := by
 have ne : ∀ b u, H b = some u -> b ≠ a := fun b u e z => by subst z; rw [n] at e; cases e
 have up : ∀ b u, H b = some u -> upd H a o b = some u := fun b u e => by rw [zM (ne b u e)]; exact e
 refine ⟨I.ok, I.os, I.bare, ⟨I.base.keep, I.base.slot, fun b u q z hx => ?_, I.base.there, fun b xs q => up _ _ (I.base.tups b xs q), fun b u v q => up _ _ (I.base.frzs b u v q), fun b ps q => ?_⟩, I.loc, I.cell, ?_, fun x c e => ?_, fun p hp => ?_, fun b u e => ?_, I.len⟩
 ·have : b ≠ a := fun y => by subst y; rw [n0] at q; cases q
  rw [zM this]
  exact I.base.free b u q z hx
 ·obtain ⟨more, e⟩ := I.base.tbls b ps q
  exact ⟨more, up _ _ e⟩
 ·rw [zM (Ne.symm nL)]
  exact I.free
 ·rw [zM (nC x c e)]
  exact I.freeC x c e
 ·obtain ⟨e, m, x1, x2, x3⟩ := I.pin p hp
  exact ⟨e, by rw [zM (nP p hp)]; exact m, x1, x2, x3⟩
 ·by_cases h : b = a
  ·subst h
   rw [zJ] at e
   cases e
   exact new
  ·rw [zM h] at e
   exact (I.hok b u e).stay (fun _ _ _ q => q) (fun c q => up _ _ q) fun c xs q => up _ _ q
end
end L2
namespace L2.L3
open PySem PySem.Spec PyProof.Rows
variable [CN]
abbrev bmV : List Value := [.type "ValueError", .type "Exception", .type "BaseException", .type "object"]
def OwnX (K : KFr) (x : Str) : Prop := PySem.W.excIn K (CN.ad x) bmV "ValueError.__new__" = true
theorem yH7 {K : KFr} {h : Heap} {A : Addr} {bmB : List Value} {nid : String} (X : K.In h) (q : PySem.W.excIn K A bmB nid = true) :
  ∃ (tl : List Value) (N : Addr) (nm qn : Str) (bs : List Value) (hd : Bool) (sn : List Str) (sb : List Value) (ab : Bool) (co : Option Bool) (dd : Option Addr) (k0 k1 k2 k3 k5 : Option Value) (mN : Str -> Option Value),
   h.get? A = some (excClassObj nm qn A N bs tl hd sn sb ab co dd k0 k1 k2 k3 k5 nid) /\ h.Ns N mN /\ mN "__init__" = none /\ OwnTail h bmB tl := by
 revert q
 rw [PySem.W.excIn]
 split
 case h_2 => exact fun q => nomatch q
 case h_1 dd cd sl lk =>
  split
  case h_2 => exact fun q => nomatch q
  case h_1 A' tl j0 j1 j2 j3 nn j5 em es =>
   intro q
   rw [Bool.and_eq_true, Bool.and_eq_true, Bool.and_eq_true, Bool.and_eq_true, Bool.and_eq_true] at q
   have q6 := q.2
   have q5 := q.1.2
   have q4 := q.1.1.2
   have q3 := q.1.1.1.2
   have q2 := eq_of_beq q.1.1.1.1.2
   have q1 := eq_of_beq q.1.1.1.1.1
   cases cd
   cases sl
   simp only at em es q3 q5 q6
   subst em es q1 q2
   simp only [Bool.not_eq_true'] at q3
   subst q3
   exact ⟨_, _, _, _, _, _, _, _, _, _, _, _, _, _, _, _, _, X _ _ lk, .of_isNs (PySem.W.isNs_of_in X q5), PySem.W.nsMap_none_of_in X q5 (eq_of_beq q6), PySem.W.tail_of_in X q4⟩
theorem yU9 {X : Cx} {pins : List (Addr × Obj)} {σ : St} {H : Hp} {s : Shared} {c : Str} {h' : Heap} {e : Addr} {args : List Value} (I : Inv X pins σ H s) (hro : rowOf c = none) (m : Heap.MadeExcOf s.heap h' e (.ref (CN.ad c)) args) : ExcAt X c H (.ref e) { s with heap := h' } := by
 obtain ⟨t, he, _, _⟩ := m.there
 have I2 : Inv X pins σ H { s with heap := h', toks := s.toks } := I.kept m.keeps
 have n : H e = none := by
  cases q : H e with
  | none => rfl
  | some o =>
   obtain ⟨u, z⟩ := wD (I.hok e o q)
   rw [m.new] at z
   cases z
 refine ⟨pins, σ, s, H, e, PySem.W.hideAll h' (e :: frs X.stack), .ref t, I, I2, Un.kept m.keeps, rfl, m.new, n, fun b o q => PySem.W.of_hideAll _ q, PySem.W.hideAll_none _ (.head _), PySem.W.funFrames_hide I2.stack fun env he a ha => List.mem_cons_of_mem _ (List.mem_filterMap.mpr ⟨env, he, ha⟩), .inr ⟨_, _, he, rfl, rfl, rfl, rfl⟩, ⟨_, _, _, he, rfl, rfl, fun _ => rfl, fun r z => by rw [hro] at z; cases z⟩, fun b o q nb z => PySem.W.hideAll_get _ q fun hb => ?_⟩
 rcases List.mem_cons.mp hb with rfl | hb
 ·rcases z with z | z
  ·exact z m.new
  ·exact z n
 ·exact nb hb
def sRa (c : Str) (m : Ev -> Res (List D)) : Ev -> Res Out := fun ρ => (m ρ).bind fun ds => if ds.length <= sizeLine then .ex c else .no
theorem zQ1 {C : Ct} {fr : Bool} {x : Str} {np cpos pos : Pos} {e : Expr} {es : List Expr} {ms : Ev -> Res (List D)} (hb : Br C) (ho : OwnX C.X.K x) (hm : C.X.mg x = some (.ref (CN.ad x))) (ha : RArg C false (e :: es) ms) (hc : autoParam (C.X.calm = true) zZ._auto_1) (hg : autoParam (Gl C.X x) zZ._auto_1) (hdb : autoParam ((x == ("__debug__" : Str)) = false) zO._auto_1)
  (he : autoParam (starEach (e :: es) C.X.env = (false, eval e C.X.env) :: starEach es C.X.env) zZ._auto_1) (hpl : autoParam ((backTo cpos (starEach es C.X.env)).any (·.1) = false) zZ._auto_1) (hro : autoParam (rowOf x = none) autoK14._auto_1) :
  RS C fr (.Raise (some (.Call (.Name x np) (e :: es) [] cpos)) none pos) (sRa x ms) := by
 obtain ⟨t, pa, q⟩ := ha
 refine ⟨fun _ σ H => t σ H fun vs H1 => vs.length <= sizeLine /\ C.XE x H1, fun pins s σ H D I h => ?_, fun Oc Ob σ H ρ E R h => q Oc Ob σ H ρ _ R (Res.zW (Res.zX h) (fun ds _ k vs H' s r => ?_) fun c z H' s => z H' (Same.frm s))⟩
 ·obtain ⟨tl, N, nm, qn, bs, hd, sn, sb, ab, co, dd, k0, k1, k2, k3, k5, mN, hC, hN, hni, T⟩ := yH7 I.mod.kin ho
  refine wpAny_Raise_call_subT (C := CN.ad x) (nm := nm) (q := qn) (N := N) (bs := bs) (bm := tl) (hdct := hd) (sn := sn) (sub := sb) (ab := ab) (col := co) (dd := dd) (k0 := k0) (k1 := k1) (k2 := k2) (k3 := k3) (k5 := k5) PySem.F.excBase_ValueError (mN := mN) (T.hasType PySem.F.excBase_ValueError.hasBase) (I.ok.hd hc)
   (by rw [he]; show (false || (backTo cpos (starEach es C.X.env)).any (·.1)) = false; rw [hpl]; rfl) hni (vV I hg hm ⟨rfl, ?_⟩ hdb)
  have h2 := pa cpos pins s σ H _ I h
  rw [he] at h2 ⊢
  refine Calls.evalArgs_plain (wpAny_mono h2 (fun us s2 ⟨vs, H2, I2, r, hl, z⟩ => ?_) fun _ _ y => y)
  exact ⟨rfl, by rw [<- r.length]; exact hl, I2.bk _ _ hC, hN.keeps I2.bk, T.keeps I2.bk, fun h' a m => hb x H2 _ _ (yU9 I2 hro m) z⟩
 ·by_cases hl : ds.length <= sizeLine
  ·rw [if_pos hl] at k
   exact ⟨by rw [(VAs.rep r).length]; exact hl, k H' (Same.frm s)⟩
  ·rw [if_neg hl] at k
   exact k.elim
end L2.L3
namespace PySem
section
variable {prog : Program} {w : World} {A : Around} {E : Value -> Shared -> Prop} {h : Heap} {g : Array GenState} {d : Drawn} {t : Nat} {os : OsState} {a C : Addr} {o : Obj} {K : KFr}
structure ExK (K : KFr) (C : Addr) : Prop where
 ga : PySem.W.findIn K (.ref C) "__getattribute__" = some (some (.builtin "BaseException.__getattribute__"))
 gn : PySem.W.findIn K (.ref C) "__getattr__" = some none
 cl : PySem.W.findIn K (.ref C) "__class__" = some (some (.builtin "object.__class__"))
 sb : PySem.W.subIn K (.ref C) (.type "BaseException") = some true
 so : PySem.W.subIn K (.ref C) (.type "object") = some true
 ci : (PySem.W.clsIn K C).isSome = true
theorem qF {M : Model} {nm : Str} {v : Option Value} {P : Option Value -> Shared -> Prop} (X : K.In h) (e : PySem.W.findIn K (.ref C) nm = some v) (q : P v ⟨h, g, d, t, os⟩) : wpAny M A (typeLookup (.ref C) nm) P E ⟨h, g, d, t, os⟩ := (PySem.W.looks_findIn X e).at q
theorem zX7 {M : Model} {T : String} {P : Bool -> Shared -> Prop} {x : Shared} (X : K.In x.heap) (e : PySem.W.subIn K (.ref C) (.type T) = some true) (q : P true x) : wpAny M A (isSubtype (.ref C) (.type T)) P E x := (PySem.W.looks_subIn X e).at q
variable {dd : Option Addr} {dt : Data} {sl : Array (Option Value)} {x : Shared}
theorem yL7 {R : Result -> Shared -> Prop} (X : K.In x.heap) (k : ExK K C) (hx : x.heap.get? a = some ⟨.ref C, dd, dt, sl⟩) (q : R (.ok (.ret (.ref C))) x) : codeAny (model prog w) A (.call (.builtin "getset_descriptor.__get__") ⟨[.builtin "object.__class__", .ref a, .ref C], []⟩) R x := by
 have ow := F.owner_object_class
 have s1 : ∀ P : Bool -> Shared -> Prop, ∀ B : Around, ∀ E' : Value -> Shared -> Prop, P true x -> wpAny (model prog w) B (isSubtype (.ref C) (.type (".".intercalate ("object.__class__".cutAt '.').dropLast))) P E' x := fun P B E' z => by rw [ow]; exact zX7 X k.so z
 have ty : x.TypeIs (.builtin "object.__class__") "getset_descriptor" := F.typeOf_object_class
 have ok := F.args_gs_get (.builtin "object.__class__") (.ref a) (.ref C)
 refine codeAny_call_builtin F.slot_gs_get.plain F.entry_gs_get ?_
 refine F.slot_gs_get.check _ _ _ _ _ _ _ _ ty ok ?_
 repeat' first | assumption | ((with_reducible apply wpAny_loadPart_at hx) <;> try dsimp only) | ((with_reducible apply s1) <;> try dsimp only) | wp_step
 exact ⟨Code.quiet_builtin _ (by decide +kernel), codeAny_builtin F.entry_object_class (by repeat' first | assumption | ((with_reducible apply wpAny_loadPart_at hx) <;> try dsimp only) | wp_step)⟩
theorem yC6 {tk : Tok} {P : Fin -> Shared -> Prop} (X : K.In x.heap) (k : ExK K C) (hx : x.heap.get? a = some ⟨.ref C, dd, dt, sl⟩) (q : P (.done (.ret (.ref C))) x) : wpAny (model prog w) A (Builtin.«object.__getattribute__» ⟨[.ref a, .str "__class__" tk], []⟩) P E x := by
 have g1 := F.typeOf_object_class
 have g2 := F.slot_gs_get.lookup
 have g3 := F.slot_gs_set.lookup
 have ty : x.TypeIs (.builtin "object.__class__") "getset_descriptor" := g1
 repeat' first | assumption | ((with_reducible apply wpAny_loadPart_at hx) <;> try dsimp only) | ((with_reducible apply qF X k.cl) <;> try dsimp only) | ((with_reducible apply yL7 X k hx) <;> try dsimp only) | wp_step
theorem zJ4 {nv : Value} {M : Model} {P : Unit -> Shared -> Prop} (X : K.In x.heap) (k : ExK K C) (hx : x.heap.get? a = some ⟨.ref C, dd, dt, sl⟩) (q : P () x) : wpAny M A (checkBuiltinCall "BaseException.__getattribute__" ⟨[.ref a, nv], []⟩) P E x := by
 have g1 : builtinKind "BaseException.__getattribute__" = some .slot := by decide +kernel
 have g2 : splitId "BaseException.__getattribute__" = some ("BaseException", "__getattribute__") := by decide +kernel
 have g3 := F.args_bexc_ga (.ref a) nv
 unfold checkBuiltinCall isInstance
 simp only [g1, g2]
 repeat' first | assumption | ((with_reducible apply wpAny_loadPart_at hx) <;> try dsimp only) | ((with_reducible apply zX7 X k.sb) <;> try dsimp only) | wp_step
theorem yM4 {P : Option Value -> Shared -> Prop} (X : K.In x.heap) (k : ExK K C) (hx : x.heap.get? a = some ⟨.ref C, dd, dt, sl⟩) (q : P (some (.ref C)) { x with toks := x.toks + 1 }) : wpAny (model prog w) A (getAttr? (.ref a) "__class__") P E x := by
 have g1 := F.attrBase_ValueError.ga.bind (.ref a)
 have g2 : (Value.builtin "BaseException.__getattribute__" == Value.builtin "object.__getattribute__") = false := by decide +kernel
 have g3 : (onTheHeap (Value.ref C) && Value.builtin "BaseException.__getattribute__" == Value.builtin "object.__getattribute__") = false := by rw [g2, Bool.and_false]
 have g4 : (false && onTheHeap (Value.builtin "BaseException.__getattribute__")) = false := rfl
 obtain ⟨h, g, d, t, os⟩ := x
 unfold getAttr? getAttrBy?
 repeat' first | assumption | ((with_reducible apply wpAny_loadPart_at hx) <;> try dsimp only) | ((with_reducible apply qF X k.ga) <;> try dsimp only) | ((with_reducible apply qF X k.gn) <;> try dsimp only) | wp_step
 have X' : K.In (Shared.mk h g d (t + 1) os).heap := X
 have hx' : (Shared.mk h g d (t + 1) os).heap.get? a = some ⟨.ref C, dd, dt, sl⟩ := hx
 refine codeAny_call_builtin F.attrBase_ValueError.ga.plain F.entry_bexc_ga (zJ4 X' k hx' (yC6 X' k hx' ?_))
 repeat' first | assumption | ((with_reducible apply hx') <;> try dsimp only) | wp_step
end
theorem zT5 {K : KFr} {a C : Addr} (k : ExK K C) : PySem.W.KitX K (.ref a) (.ref C) (fun h => ∃ o, h.get? a = some o /\ o.cls = .ref C) where
 ty := fun M h _ ⟨o, h1, h2⟩ => h2 ▸ (PySem.W.Looks.ld h1).andThen .now
 it := fun M h X _ => by
  have z := k.ci
  unfold PySem.W.clsIn at z
  split at z
  ·rename_i ho
   intro A' Q' E' s' kk q
   unfold isType loadHead
   exact wpAny_bind (wpAny_loadPart (kk _ _ (X _ _ ho)) (wpAny_pure q))
  ·cases z
 ne := fun h tp dd its n sl X htp => beq_eq_false_iff_ne.mpr fun q => by
  cases q
  have z := k.ci
  unfold PySem.W.clsIn at z
  split at z
  ·rename_i ho
   cases (X _ _ ho).symm.trans htp
  ·cases z
 ca := fun {_ _ _ _ _ s} X p q => by
  obtain ⟨⟨c, dd, dt, sl⟩, h1, h2⟩ := p
  cases h2
  exact yM4 X k h1 q
theorem zX3 {K : KFr} {M : Model} {A : Around} {E : Value -> Shared -> Prop} {Q : Bool -> Shared -> Prop} {s : Shared} {a c x : Addr} {o : Obj} (X : K.In s.heap) (he : s.heap.get? a = some o) (hc : o.cls = .ref c) (hk : PySem.W.kitCls K (.ref c) (.ref x) = some true)
  (hb : PySem.W.subIn K (.ref x) (.type "BaseException") = some true) (hq : Q true s) : wpAny M A (excMatches (.ref a) (.ref x)) Q E s := by
 obtain ⟨hh, g, d, t, os⟩ := s
 obtain ⟨L1, L2, L3⟩ := PySem.W.kit_cls (M := M) X hk
 have L4 := PySem.W.looks_subIn (M := M) X hb
 have f := tc_notTuple
 unfold excMatches isExcClass
 repeat (first | (with_reducible refine wpAny_loadPart_at he ?_; rw [hc]) | (with_reducible refine L1.at ?_) | (with_reducible refine L2.at ?_) | (with_reducible refine L3.at ?_) | (with_reducible refine L4.at ?_) | wp_step)
 exact hq
end PySem
namespace L2.L3
open PySem PySem.Spec PyProof.Rows
variable [CN]
theorem fH {X : Cx} {pins : List (Addr × Obj)} {σ : St} {H H1 : Hp} {s s1 : Shared} {a : Addr} {cls : Value} {ro : Option Nat} {B : Heap} {a0 : Value} {h' : Heap} (I1 : Inv X pins σ H1 s1) (I : Inv X pins σ H s) (un : Un (frs X.stack) [] H1 H s1.heap s.heap) (f : Fl X.stack s1.heap H a cls ro B a0 s.heap)
  (k1 : B.StaysIn h') (k2 : h'.FunFrames B X.stack) (k4 : s.heap.UpToSlots h') : Inv X pins σ H { s with heap := h' } /\ Un (frs X.stack) [] H1 H s1.heap h' /\ ∀ b o, h'.get? b = some o -> b ∉ frs X.stack -> (s1.heap.get? b ≠ none \/ H b ≠ none) -> B.get? b = some o := by
 have kp : ∀ b o, s.heap.get? b = some o -> b ∉ frs X.stack -> (s1.heap.get? b ≠ none \/ H b ≠ none) -> h'.get? b = some o := fun b o q n z => k1 b o (f.cov b o q n z)
 have un' : Un (frs X.stack) [] H1 H s1.heap h' := by
  refine ⟨fun b o q n hb hx => kp b o (un.keep b o q n hb hx) hb (.inl (xX q)), fun b o q n hb hx => ?_, un.free, fun b o q hx => ?_, un.tups, un.frzs, un.tbls⟩
  ·obtain ⟨sl, e⟩ := un.slot b o q n hb hx
   obtain ⟨_, o', e', nf⟩ := f.frm.mem (b := b) hb
   rw [e] at e'
   cases e'
   obtain ⟨sl', e2⟩ := k4 b _ e nf
   exact ⟨sl', e2⟩
  ·by_cases hb : b ∈ frs X.stack
   ·obtain ⟨_, o', e', _⟩ := k2.mem (b := b) hb
    exact ⟨o', e'⟩
   ·obtain ⟨o', e'⟩ := un.there b o q hx
    exact ⟨o', kp b o' e' hb (.inl (xX q))⟩
 have hok : HOk X.prog X.w H h' := fun b o q => by
  refine (I.hok b o q).stay (fun b' u hb' e => ?_) (fun _ z => z) fun _ _ z => z
  have n : H b' ≠ none := by
   rcases hb' with rfl | hb'
   ·exact xX q
   ·exact xX hb'
  exact kp b' u e (fun z => n (I.stkFree b' z)) (.inr n)
 refine ⟨I1.call' (s' := { s with heap := h' }) (I.os.trans I1.os.symm) un' hok I.bare (fun b z => by cases z), un', fun b o q n z => ?_⟩
 obtain ⟨o2, q2⟩ : ∃ o2, s.heap.get? b = some o2 := by
  rcases z with z | z
  ·obtain ⟨o', q'⟩ := kJ z
   exact un.there b o' q' (by simp)
  ·exact zZ9 I.hok z
 have hB := f.cov b o2 q2 n z
 have q3 := k1 b o2 hB
 rw [q] at q3
 cases q3
 exact hB
theorem yU3 {X : Cx} {c : Str} {H : Hp} {e : Value} {s : Shared} {E2 : Value -> Shared -> Prop} {Q : Shared -> Prop} (x : ExcAt X c H e s) (hst : X.stack = X.env :: X.outer) (hfr : X.env.frame = some X.env.locals)
  (hQ : ∀ (pins : List (Addr × Obj)) (σ : St) (s1 : Shared) (H1 : Hp) (a : Addr) (B : Heap) (a0 : Value) (s' : Shared), Inv X pins σ H1 s1 -> Inv X pins σ H s' -> Un (frs X.stack) [] H1 H s1.heap s'.heap -> e = .ref a -> s1.heap.get? a = none -> H a = none -> Fl X.stack s1.heap H a (.ref (CN.ad c)) (rowOf c) B a0 s'.heap -> s'.heap.TracedW B a (.ref (CN.ad c)) a0 -> Q s') :
  wpAny (model X.prog X.w) X.A (noteFrame e X.env) (fun _ s₂ => wpAny (model X.prog X.w) X.A (setFlight e none) (fun _ s₃ => Q s₃) E2 s₂) E2 s := by
 obtain ⟨pins, σ, s1, H1, a, B, a0, I1, I, un, rfl, n1, n2, f⟩ := x
 have hfrm : s.heap.FunFrames B (X.env :: X.outer) := by rw [<- hst]; exact f.frm
 have hA : X.A.frames = some (X.env :: X.outer) := by rw [<- hst]; exact I.ok.frames
 obtain ⟨Φ, hP⟩ : ∃ Φ, Φ = FlK (.ref (CN.ad c)) (rowOf c) B s1.heap H := ⟨_, rfl⟩
 have fk : KpX Φ a s.heap := hP ▸ f.kp
 have key : ∀ h', Heap.NotedW B (X.env :: X.outer) a (.ref (CN.ad c)) a0 (rawInt X.env.locals) s.heap h' -> KpX Φ a h' -> wpAny (model X.prog X.w) X.A (setFlight (.ref a) none) (fun _ s₃ => Q s₃) E2 { s with heap := h' } := by
  rintro h' ⟨k1, k2, k3, k4⟩ kh
  rw [<- hst] at k2
  refine flightK (s := { s with heap := h' }) (B := B) (l := X.stack) (cls := .ref (CN.ad c)) (a0 := a0) k1 f.newB k2 k3 kh fun h2 fly ups kh2 => ?_
  have ups2 : s.heap.UpToSlots h2 := Heap.UpToSlots.trans k4 ups
  obtain ⟨J, un2, cov⟩ := fH I1 I un f fly.1 fly.2.2.1 ups2
  exact hQ pins σ s1 H1 a B a0 _ I1 J un2 rfl n1 n2 ⟨fly.1, f.newB, fly.2.2.1, .inl ⟨_, fly.2.2.2.at⟩, hP ▸ kh2, cov⟩ fly.2.2.2
 rcases f.raw with t | ⟨oe, vs, he, hc, hd, h1, h0⟩
 ·obtain ⟨fl, t⟩ := t
  exact jP hA hfrm hfr t f.stays f.newB fk key
 ·rw [<- hc] at key
  unfold noteFrame
  simp only [hfr]
  refine wpAny_bind (wpAny_field he hd h1 ?_)
  rw [if_neg (by decide)]
  exact entryK hA hfrm hfr he f.stays f.newB hd (Array.getElem?_eq_some_iff.mp h1).1 h0 fk key
theorem Inv.trackNew {X : Cx} {pins : List (Addr × Obj)} {σ : St} {H H1 : Hp} {s s1 : Shared} {x : Addr} {o : HO} (L1 : Inv X pins σ H1 s1) (n1 : s1.heap.get? x = none) (K : Inv X pins σ H s) (n : H x = none) (hex : X.ex = []) (new : ObjOk X.prog X.w (upd H x o) s.heap x o) : Inv X pins σ (upd H x o) s := by
 have hne : ∀ b o, s1.heap.get? b = some o -> b ≠ x := fun b o q z => by subst z; rw [n1] at q; cases q
 refine K.track n (kR fun o q => ?_) ?_ (fun y z q => ?_) (fun p hp => ?_) new
 ·obtain ⟨o', q'⟩ := L1.base.there x o q (by rw [hex]; simp)
  rw [n1] at q'
  cases q'
 ·obtain ⟨m, ⟨o, _, _, q, _⟩, _⟩ := L1.loc
  exact Ne.symm (hne _ o q)
 ·obtain ⟨v, o, q', _⟩ := L1.cell y z q
  exact hne _ o q'
 ·exact hne _ _ (L1.pin p hp).1
theorem zJ2 {P : Program} {w : World} {H : Hp} {h : Heap} {d : Addr} {r : Int} (p : Row d r h) : ObjOk P w H h d (.ext (Row d r)) :=
 ⟨p, let ⟨_, o, _, _, e, _⟩ := p; ⟨o, e⟩, fun _ _ q k => q.keeps k⟩
theorem yX7 {X : Cx} {pins : List (Addr × Obj)} {σ : St} {H H1 : Hp} {s s1 : Shared} {a : Addr} {c : Str} {B : Heap} {oe : Obj} (L1 : Inv X pins σ H1 s1) (K : Inv X pins σ H s) (n1 : s1.heap.get? a = none) (n2 : H a = none) (hex : X.ex = []) (nB : B.get? a = none) (st : B.StaysIn s.heap)
  (kp : KpX (FlK (.ref (CN.ad c)) (rowOf c) B s1.heap H) a s.heap) (he : s.heap.get? a = some oe) (hc : oe.cls = .ref (CN.ad c)) :
  ∃ lk H', Inv X pins σ H' s /\ Same H H' /\ H' a = some (.ext (excP a c lk)) /\ ∀ r, rowOf c = some r -> ∃ d, lk = some d /\ H' d = some (.ext (Row d (r : Int))) /\ H d = none := by
 obtain ⟨o, vs, v, e1, hdt, _, _, y⟩ := kp
 have eo : oe = o := Option.some.inj (he.symm.trans e1)
 subst eo
 cases er : rowOf c with
 | none =>
  refine ⟨none, _, Inv.trackNew (o := .ext (excP a c none)) L1 n1 K n2 hex ⟨⟨oe, he, hc, fun d z => nomatch z⟩, ⟨oe, he⟩, fun h1 h2 ⟨o, q1, q2⟩ kk => ⟨o, kk o q1, q2⟩⟩, Same.new n2, zJ, fun r z => nomatch z⟩
 | some r =>
  obtain ⟨d, z1, z2, z3, z4⟩ := y r er
  have z2' := z2
  obtain ⟨_, od, _, _, zd, _⟩ := z2'
  have da : a ≠ d := fun q => by subst q; rw [nB] at zd; cases zd
  have K2 : Inv X pins σ (upd H d (.ext (Row d (r : Int)))) s := Inv.trackNew L1 z4 K z3 hex (zJ2 (z2.keeps fun o q => st _ _ q))
  have n3 : upd H d (.ext (Row d (r : Int))) a = none := by rw [zM da]; exact n2
  refine ⟨some d, _, Inv.trackNew (o := .ext (excP a c (some d))) L1 n1 K2 n3 hex ⟨⟨oe, he, hc, fun d' z => by cases z; exact ⟨z1, _, hdt⟩⟩, ⟨oe, he⟩, fun h1 h2 ⟨o, q1, q2⟩ kk => ⟨o, kk o q1, q2⟩⟩, (Same.new z3).trans (Same.new n3), zJ, fun r' z => ?_⟩
  cases z
  exact ⟨d, rfl, by rw [zM (Ne.symm da)]; exact zJ, z3⟩
abbrev inTry (X : Cx) (pn : List (Addr × Obj)) (xe : Value -> Shared -> Prop) : Cx := { X with pn := pn, xe := xe }
abbrev inSuite (X : Cx) (e : Value) : Cx := { X with A := X.A.mark (some e), calm := false, xe := fun _ _ => False }
theorem Inv.toTry {X : Cx} {pins : List (Addr × Obj)} {σ : St} {H : Hp} {s : Shared} (I : Inv X pins σ H s) (xe : Value -> Shared -> Prop) : Inv (inTry X (X.pn ++ pins) xe) [] σ H s :=
 ⟨⟨I.ok.mod, I.ok.kind, I.ok.glob, I.ok.blt, I.ok.above, I.ok.inj, I.ok.has, I.ok.cab, I.ok.hd, I.ok.frames, I.ok.stk, I.ok.exf, I.ok.bs, I.ok.bsz, I.ok.noex, I.ok.exfs, I.ok.funs, I.ok.frf⟩, I.os, I.bare, I.base, I.loc, I.cell, I.free, I.freeC, fun p hp => I.pin p (by simpa using hp), I.hok, I.len⟩
theorem Inv.ofTry {X : Cx} {pins pins' : List (Addr × Obj)} {σ : St} {H : Hp} {s : Shared} {xe : Value -> Shared -> Prop} (I : Inv (inTry X (X.pn ++ pins) xe) pins' σ H s) : Inv X pins σ H s :=
 ⟨⟨I.ok.mod, I.ok.kind, I.ok.glob, I.ok.blt, I.ok.above, I.ok.inj, I.ok.has, I.ok.cab, I.ok.hd, I.ok.frames, I.ok.stk, I.ok.exf, I.ok.bs, I.ok.bsz, I.ok.noex, I.ok.exfs, I.ok.funs, I.ok.frf⟩, I.os, I.bare, I.base, I.loc, I.cell, I.free, I.freeC, fun p hp => I.pin p (List.mem_append_left _ hp), I.hok, I.len⟩
theorem Inv.toSuite {X : Cx} {pins : List (Addr × Obj)} {σ : St} {H : Hp} {s : Shared} (I : Inv X pins σ H s) (e : Value) : Inv (inSuite X e) pins σ H s :=
 ⟨⟨I.ok.mod, I.ok.kind, I.ok.glob, I.ok.blt, I.ok.above, I.ok.inj, I.ok.has, I.ok.cab, (fun z => nomatch z), I.ok.frames, I.ok.stk, I.ok.exf, I.ok.bs, I.ok.bsz, I.ok.noex, I.ok.exfs, I.ok.funs, I.ok.frf⟩, I.os, I.bare, I.base, I.loc, I.cell, I.free, I.freeC, I.pin, I.hok, I.len⟩
theorem Inv.ofSuite {X : Cx} {pins : List (Addr × Obj)} {σ : St} {H : Hp} {s : Shared} {e : Value} (ok : X.Ok) (I : Inv (inSuite X e) pins σ H s) : Inv X pins σ H s :=
 ⟨ok, I.os, I.bare, I.base, I.loc, I.cell, I.free, I.freeC, I.pin, I.hok, I.len⟩
theorem SP.ofTry {X : Cx} {pins pins' : List (Addr × Obj)} {xe : Value -> Shared -> Prop} {D : Ends} {f : Flow} {s' : Shared} (h : SP (inTry X (X.pn ++ pins) xe) pins' D f s') : SP X pins D f s' := by
 cases f with
 | next => obtain ⟨σ', H', I, q⟩ := h; exact ⟨σ', H', Inv.ofTry I, q⟩
 | brk => obtain ⟨σ', H', I, q⟩ := h; exact ⟨σ', H', Inv.ofTry I, q⟩
 | cont => obtain ⟨σ', H', I, q⟩ := h; exact ⟨σ', H', Inv.ofTry I, q⟩
 | ret u => obtain ⟨v, σ', H', I, r, q⟩ := h; exact ⟨v, σ', H', Inv.ofTry I, r, q⟩
theorem Rel.unset {Oc : Wd} {Ob : Addr -> Prop} {om ln : List Nat} {σ : St} {H : Hp} {ρ : Ev} (R : Rel Oc Ob om ln σ H ρ) (j : Nat) : Rel Oc Ob om ln (σ.set j none) H (ρ.set j none) := by
 have st : ∀ i v, i ≠ j -> σ[i]? = some v -> (σ.set j none)[i]? = some v := fun i v n e => by rw [List.getElem?_set_ne (Ne.symm n)]; exact e
 refine ⟨by rw [List.length_set, List.length_set]; exact R.len, fun i d e h1 h2 => ?_, fun i d e h1 => ?_, fun i d e h1 h2 => ?_, fun i k di dk a ei ek hi hk qi qk => ?_, R.oh, R.ap⟩
 ·obtain ⟨n, e⟩ := jN e
  obtain ⟨v, q, r⟩ := R.val i d e h1 h2
  exact ⟨v, st i _ n q, r⟩
 ·obtain ⟨n, e⟩ := jN e
  obtain ⟨v, q, r⟩ := R.own i d e h1
  exact ⟨v, st i _ n q, r⟩
 ·obtain ⟨n, e⟩ := jN e
  obtain ⟨v, q, r⟩ := R.lnt i d e h1 h2
  exact ⟨v, st i _ n q, r⟩
 ·obtain ⟨n1, e1⟩ := jN ei
  obtain ⟨n2, e2⟩ := jN ek
  rw [List.getElem?_set_ne (Ne.symm n1)] at qi
  rw [List.getElem?_set_ne (Ne.symm n2)] at qk
  exact R.inj i k di dk a e1 e2 hi hk qi qk
def unn (j : Nat) : Out -> Res Out
 | .nx ρ => .ok (.nx (ρ.set j none))
 | .rt d => .ok (.rt d)
theorem zC9 {α : Type} {r : Res α} {Q : α -> Prop} {E : Str -> Prop} (h : (noEx r).post Q E) : r.post Q (fun _ => False) := by
 cases r with
 | ok a => exact h
 | ex c => exact h.elim
 | no => exact h
def isiX (cls sup : List Str) : D -> Option D
 | .none => some (.bool false)
 | .dict [(.list [], .str c)] => if cls.contains c then some (.bool (sup.contains c)) else none
 | _ => none
def IsK (K : KFr) (cls sup : List Str) (u : Value) : Prop :=
 PySem.W.kitOne K (.type "NoneType") u = some false /\ ∀ c, cls.contains c = true -> ExK K (CN.ad c) /\ PySem.W.kitOne K (.ref (CN.ad c)) u = some (sup.contains c)
def TyX (K : KFr) (H : Hp) (x : V) (t : Value) : Prop :=
 (x = .non /\ t = .type "NoneType") \/ ∃ a c lk, x = .ref a /\ H a = some (.ext (excP a c lk)) /\ t = .ref (CN.ad c) /\ ExK K (CN.ad c)
theorem zW1 {X : Cx} : CallR X (.builtin "isinstance") (fun vs H Q => ∃ x c cv t b, vs = [x, c] /\ clsV c = some cv /\ TyX X.K H x t /\ PySem.W.kitOne X.K t cv = some b /\ Q (.bl b) H) := by
 intro pins s σ H xs us Q I r h
 obtain ⟨x, c, cv, t, b, rfl, ec, ty, k, q⟩ := h
 obtain ⟨u, w', rfl, ru, rw'⟩ := vals2 r
 obtain rfl := zP6 rw' ec
 rcases ty with ⟨rfl, rfl⟩ | ⟨a, c', lk', rfl, ha, rfl, ek⟩
 ·cases (show u = Value.none from ru)
  exact PySem.W.kia_one PySem.W.kitx_none I.kIn True.intro k (fun z => nomatch z) fun tk => ⟨.bl b, H, I.tok tk, rfl, q⟩
 ·cases ru
  obtain ⟨p, _⟩ := I.hok a _ ha
  exact PySem.W.kia_one (zT5 ek) I.kIn (let ⟨o, h1, h2, _⟩ := p; ⟨o, h1, h2⟩) k (fun z => nomatch z) fun tk => ⟨.bl b, H, I.tok tk, rfl, q⟩
theorem yX2 {X : Cx} : CallR X (.builtin "isinstance") (fun vs H Q => ∃ x a xs t b, vs = [x, .ref a] /\ H a = some (.tup xs) /\ TyX X.K H x t /\ (∀ us, Vals xs us -> PySem.W.kitAny X.K t us = some b) /\ Q (.bl b) H) := by
 intro pins s σ H xs us Q I r h
 obtain ⟨x, a, ys, t, b, rfl, ha, ty, k, q⟩ := h
 obtain ⟨u, w', rfl, ru, rw'⟩ := vals2 r
 cases rw'
 obtain ⟨_, its, ri, o, e1, e2, ⟨n, e3⟩, _⟩ := I.hok a _ ha
 obtain ⟨oc, od, odt, osl⟩ := o
 simp only at e2 e3
 subst e2 e3
 rcases ty with ⟨rfl, rfl⟩ | ⟨a', c', lk', rfl, ha', rfl, ek⟩
 ·cases (show u = Value.none from ru)
  exact PySem.W.kia_tup PySem.W.kitx_none I.kIn True.intro e1 (k its ri) (fun z => nomatch z) fun tk => ⟨.bl b, H, I.tok tk, rfl, q⟩
 ·cases ru
  obtain ⟨p, _⟩ := I.hok a' _ ha'
  exact PySem.W.kia_tup (zT5 ek) I.kIn (let ⟨o, h1, h2, _⟩ := p; ⟨o, h1, h2⟩) e1 (k its ri) (fun z => nomatch z) fun tk => ⟨.bl b, H, I.tok tk, rfl, q⟩
theorem zR7 {K : KFr} {cls sup : List Str} {Oc : Wd} {Ob : Addr -> Prop} {H : Hp} {v : V} {d r : D} (h : VA Oc Ob H v d) (e : isiX cls sup d = some r) (hk : ∀ c, cls.contains c = true -> ExK K (CN.ad c)) :
  ∃ t, TyX K H v t /\ ((t = .type "NoneType" /\ r = .bool false) \/ ∃ c, cls.contains c = true /\ t = .ref (CN.ad c) /\ r = .bool (sup.contains c)) := by
 rcases h with h | ⟨a, ys, ds, rfl, rfl, e3, e5⟩
 ·cases h with
  | non => cases e; exact ⟨_, .inl ⟨rfl, rfl⟩, .inl ⟨rfl, rfl⟩⟩
  | @exc a c lk q w n =>
   unfold isiX at e
   by_cases hc : cls.contains c = true
   ·simp only [hc, if_true] at e
    cases e
    exact ⟨_, .inr ⟨a, c, lk, rfl, q, rfl, hk c hc⟩, .inr ⟨c, hc, rfl, rfl⟩⟩
   ·simp only [hc] at e
    cases e
  | _ => cases e
 ·cases e
section
variable {C : Ct} {e : Expr} {x : Str} {p p2 p3 pos : Pos} {md : Md} {me : Ev -> Res D}
theorem yI8 (cls sup : List Str) (hk : IsK C.X.K cls sup (.ref (CN.ad x))) (hm : C.X.mg "isinstance" = none) (hx : C.X.mg x = some (.ref (CN.ad x))) (he : RE C md e me) (hg : autoParam (Gl C.X "isinstance") zZ._auto_1) (hgx : autoParam (Gl C.X x) zZ._auto_1) (hdb : autoParam ((x == ("__debug__" : Str)) = false) zO._auto_1)
  (hs1 : autoParam (starEach [e, .Name x p2] C.X.env = (false, eval e C.X.env) :: starEach [.Name x p2] C.X.env) zZ._auto_1) (hs2 : autoParam (starEach [.Name x p2] C.X.env = (false, eval (.Name x p2) C.X.env) :: starEach [] C.X.env) zZ._auto_1) (hpl : autoParam ((backTo pos (starEach [.Name x p2] C.X.env)).any (·.1) = false) zZ._auto_1) :
  RE C .cl (.Call (.Name "isinstance" p) [e, .Name x p2] [] pos) (e1 (isiX cls sup) me) := by
 obtain ⟨t, pe, q⟩ := he
 refine ⟨_, jO zW1 hg hm PyProof.Rows.boot_isinstance (yQ pe (yQ (aT (v := .ref (CN.ad x)) hgx hx rfl hdb) wP hs2) hs1) (by decide) (by decide) hs1 hpl, fun Oc Ob σ H ρ Q R h => q Oc Ob σ H ρ _ R (Res.zW (Res.zX h) (fun d _ kk v H' s r => ?_) fun _ z => z)⟩
 obtain ⟨dd, ed, kk⟩ := Res.zL kk
 obtain ⟨tt, ty, hh⟩ := zR7 (r.va R.oh) ed fun c hc => (hk.2 c hc).1
 rcases hh with ⟨rfl, rfl⟩ | ⟨c, hc, rfl, rfl⟩
 ·exact ⟨v, .ref (CN.ad x), .ref (CN.ad x), _, _, rfl, rfl, ty, hk.1, kk _ H' s (Rep.bl _)⟩
 ·exact ⟨v, .ref (CN.ad x), .ref (CN.ad x), _, _, rfl, rfl, ty, (hk.2 c hc).2, kk _ H' s (Rep.bl _)⟩
theorem yS3 {T : String} (cls sup : List Str) (hk : IsK C.X.K cls sup (.type T)) (hm : C.X.mg "isinstance" = none) (hx : C.X.mg x = none) (hv : bootBuiltins x = some (.type T)) (he : RE C md e me) (hg : autoParam (Gl C.X "isinstance") zZ._auto_1) (hgx : autoParam (Gl C.X x) zZ._auto_1) (hn : autoParam (x ≠ "__name__") zO._auto_1) (hdb : autoParam ((x == ("__debug__" : Str)) = false) zO._auto_1)
  (hs1 : autoParam (starEach [e, .Name x p2] C.X.env = (false, eval e C.X.env) :: starEach [.Name x p2] C.X.env) zZ._auto_1) (hs2 : autoParam (starEach [.Name x p2] C.X.env = (false, eval (.Name x p2) C.X.env) :: starEach [] C.X.env) zZ._auto_1) (hpl : autoParam ((backTo pos (starEach [.Name x p2] C.X.env)).any (·.1) = false) zZ._auto_1) :
  RE C .cl (.Call (.Name "isinstance" p) [e, .Name x p2] [] pos) (e1 (isiX cls sup) me) := by
 obtain ⟨t, pe, q⟩ := he
 refine ⟨_, jO zW1 hg hm PyProof.Rows.boot_isinstance (yQ pe (yQ (zI3 (v := .ty T) hgx hx hv rfl hn hdb) wP hs2) hs1) (by decide) (by decide) hs1 hpl, fun Oc Ob σ H ρ Q R h => q Oc Ob σ H ρ _ R (Res.zW (Res.zX h) (fun d _ kk v H' s r => ?_) fun _ z => z)⟩
 obtain ⟨dd, ed, kk⟩ := Res.zL kk
 obtain ⟨tt, ty, hh⟩ := zR7 (r.va R.oh) ed fun c hc => (hk.2 c hc).1
 rcases hh with ⟨rfl, rfl⟩ | ⟨c, hc, rfl, rfl⟩
 ·exact ⟨v, .ty T, .type T, _, _, rfl, rfl, ty, hk.1, kk _ H' s (Rep.bl _)⟩
 ·exact ⟨v, .ty T, .type T, _, _, rfl, rfl, ty, (hk.2 c hc).2, kk _ H' s (Rep.bl _)⟩
end
def RN (X : Cx) (es : List Expr) (xs : List Str) : Prop := PA X es (fun σ H Q => Q (xs.map fun x => V.ref (CN.ad x)) H)
theorem yA4 {X : Cx} : RN X [] [] := wP
theorem kP {X : Cx} {x : Str} {xs : List Str} {es : List Expr} {pos : Pos} (hm : X.mg x = some (.ref (CN.ad x))) (h : RN X es xs) (hg : autoParam (Gl X x) zZ._auto_1) (hdb : autoParam ((x == ("__debug__" : Str)) = false) zO._auto_1)
  (hs : autoParam (starEach (.Name x pos :: es) X.env = (false, eval (.Name x pos) X.env) :: starEach es X.env) zZ._auto_1) : RN X (.Name x pos :: es) (x :: xs) :=
 yQ (aT (v := .ref (CN.ad x)) hg hm rfl hdb) h hs
theorem zY8 : ∀ {as : List Addr} {us : List Value}, Vals (as.map V.ref) us -> us = as.map Value.ref
 | [], _, h => by cases h; rfl
 | a :: as, _, h => by
  cases h with
  | cons r t => cases r; rw [zY8 t]; rfl
theorem zL2 {K : KFr} {t : Value} {c : Str} : ∀ {xs : List Str}, (∀ x ∈ xs, PySem.W.kitOne K t (.ref (CN.ad x)) = some ([x].contains c)) -> PySem.W.kitAny K t (xs.map fun x => Value.ref (CN.ad x)) = some (xs.contains c)
 | [], _ => rfl
 | x :: xs, h => by
  have h1 := h x List.mem_cons_self
  have ih := zL2 (xs := xs) fun y hy => h y (List.mem_cons_of_mem _ hy)
  have g : (x :: xs).contains c = ((c == x) || xs.contains c) := List.contains_cons
  have g1 : [x].contains c = (c == x) := by rw [List.contains_cons]; cases (c == x) <;> rfl
  rw [g1] at h1
  rw [List.map_cons, PySem.W.kitAny, h1, g]
  cases e : (c == x) with
  | true => rfl
  | false => exact ih
theorem zQ4 {K : KFr} {t : Value} : ∀ {xs : List Str}, (∀ x ∈ xs, PySem.W.kitOne K t (.ref (CN.ad x)) = some false) -> PySem.W.kitAny K t (xs.map fun x => Value.ref (CN.ad x)) = some false
 | [], _ => rfl
 | x :: xs, h => by
  rw [List.map_cons, PySem.W.kitAny, h x List.mem_cons_self]
  exact zQ4 fun y hy => h y (List.mem_cons_of_mem _ hy)
theorem yU5 {C : Ct} {e : Expr} {es : List Expr} {k1} {p p3 pos : Pos} {md : Md} {me : Ev -> Res D} (cls xs : List Str) (hk : ∀ x ∈ xs, IsK C.X.K cls [x] (.ref (CN.ad x))) (hm : C.X.mg "isinstance" = none) (hx : RN C.X es xs) (he : RE C md e me) (hl : autoParam (xs.length <= 1000) zO._auto_1) (hne : autoParam (xs ≠ []) zO._auto_1) (hg : autoParam (Gl C.X "isinstance") zZ._auto_1)
  (hs1 : autoParam (starEach [e, .Tuple es k1 p3] C.X.env = (false, eval e C.X.env) :: starEach [.Tuple es k1 p3] C.X.env) zZ._auto_1) (hs2 : autoParam (starEach [.Tuple es k1 p3] C.X.env = (false, eval (.Tuple es k1 p3) C.X.env) :: starEach [] C.X.env) zZ._auto_1) (hpl : autoParam ((backTo pos (starEach [.Tuple es k1 p3] C.X.env)).any (·.1) = false) zZ._auto_1) :
  RE C .cl (.Call (.Name "isinstance" p) [e, .Tuple es k1 p3] [] pos) (e1 (isiX cls xs) me) := by
 obtain ⟨t, pe, q⟩ := he
 refine ⟨_, jO yX2 hg hm PyProof.Rows.boot_isinstance (yQ pe (yQ (yG7 hx) wP hs2) hs1) (by decide) (by decide) hs1 hpl, fun Oc Ob σ H ρ Q R h => q Oc Ob σ H ρ _ R (Res.zW (Res.zX h) (fun d _ kk v H' s r => ?_) fun _ z => z)⟩
 obtain ⟨dd, ed, kk⟩ := Res.zL kk
 obtain ⟨x0, hx0⟩ := List.exists_mem_of_ne_nil xs hne
 obtain ⟨tt, ty, hh⟩ := zR7 (r.va R.oh) ed fun c hc => ((hk x0 hx0).2 c hc).1
 refine ⟨by rw [List.length_map]; exact Nat.le_trans hl (by decide), fun a ha => ?_⟩
 have ty2 : TyX C.X.K (upd H' a (.tup (xs.map fun x => V.ref (CN.ad x)))) v tt := by
  rcases ty with ty | ⟨b, c, lk, e1, e2, e3, e4⟩
  ·exact .inl ty
  ·exact .inr ⟨b, c, lk, e1, Same.new ha _ _ e2, e3, e4⟩
 have ev : ∀ us, Vals (xs.map fun x => V.ref (CN.ad x)) us -> us = xs.map fun x => Value.ref (CN.ad x) := fun us hv => by
  have := zY8 (as := xs.map CN.ad) (us := us) (by rw [List.map_map]; exact hv)
  rw [this, List.map_map]; rfl
 rcases hh with ⟨rfl, rfl⟩ | ⟨c, hc, rfl, rfl⟩
 ·exact ⟨v, a, _, _, _, rfl, zJ, ty2, fun us hv => by rw [ev us hv]; exact zQ4 fun x hx => (hk x hx).1, kk _ _ (s.trans (Same.new ha)) (Rep.bl _)⟩
 ·exact ⟨v, a, _, _, _, rfl, zJ, ty2, fun us hv => by rw [ev us hv]; exact zL2 fun x hx => ((hk x hx).2 c hc).2, kk _ _ (s.trans (Same.new ha)) (Rep.bl _)⟩
omit [CN] in
theorem zU9 (c : Str) (m : Ev -> Res (List D)) (ρ : Ev) : sRa c m ρ = (m ρ).bind fun ds => if ds.length <= sizeLine then .ex c else .no := rfl
omit [CN] in
theorem zP7 (cls sup : List Str) (c : Str) : isiX cls sup (excD c) = if cls.contains c then some (.bool (sup.contains c)) else none := rfl
theorem yN5 {K : KFr} {cls : List Str} {u : Value} (h : ∀ c ∈ cls, PySem.W.kitCls K (.ref (CN.ad c)) u = some true) : ∀ c, cls.contains c = true -> PySem.W.kitCls K (.ref (CN.ad c)) u = some true :=
 fun c hc => h c (List.contains_iff_mem.mp hc)
theorem jV {K : KFr} {cls sup : List Str} {u : Value} (h0 : PySem.W.kitOne K (.type "NoneType") u = some false) (h : ∀ c ∈ cls, ExK K (CN.ad c) /\ PySem.W.kitOne K (.ref (CN.ad c)) u = some (sup.contains c)) : IsK K cls sup u :=
 ⟨h0, fun c hc => h c (List.contains_iff_mem.mp hc)⟩
end L2.L3
namespace L2.L3
open PySem PySem.Spec PyProof.Rows
theorem gJ {K : KFr} {t c : Value} {v : Bool} (h : PySem.W.kitOne K t c = some v) (n : (t == c) = false) : PySem.W.kitCls K t c = some v := by
 rw [PySem.W.kitOne, if_neg (by rw [n]; decide)] at h
 exact h
theorem jZ {K : KFr} {A : Addr} {T : String} {v : Bool} (h : PySem.W.kitOne K (.ref A) (.type T) = some v) : PySem.W.subIn K (.ref A) (.type T) = some v := by
 have h2 := gJ h rfl
 rw [PySem.W.kitCls] at h2
 split at h2
 ·exact h2
 ·cases h2
def cnOf (K : KFr) : CN := ⟨fun x => match PySem.W.nsIn K mainGlobals (if (rowOf x).isSome then "BadText" else x) with | some (some (.ref a)) => a | _ => 0⟩
theorem kC {K : KFr} {x : Str} {a : Addr} (h : PySem.W.nsIn K mainGlobals x = some (some (.ref a))) (hr : autoParam (rowOf x = none) autoK14._auto_1) : (cnOf K).ad x = a := by
 show (match PySem.W.nsIn K mainGlobals (if (rowOf x).isSome then "BadText" else x) with | some (some (.ref a)) => a | _ => 0) = a
 rw [hr]
 show (match PySem.W.nsIn K mainGlobals x with | some (some (.ref a)) => a | _ => 0) = a
 rw [h]
theorem gZ : ∀ n, n < 16 -> rowOf (rowName n) = some n := by decide +kernel
theorem yW5 : rowOf "BadText" = none := by decide +kernel
theorem yX1 {K : KFr} {n : Nat} (h : n < 16) : (cnOf K).ad (rowName n) = (cnOf K).ad "BadText" := by
 show (match PySem.W.nsIn K mainGlobals (if (rowOf (rowName n)).isSome then "BadText" else rowName n) with | some (some (.ref a)) => a | _ => 0) = (match PySem.W.nsIn K mainGlobals (if (rowOf "BadText").isSome then "BadText" else "BadText") with | some (some (.ref a)) => a | _ => 0)
 rw [gZ n h, yW5]
 rfl
theorem yY5 {F : List D -> Res D} {k : Nat} {l : PySem.W.OpenLaw} {q : Program} {loose : List Str} {XP : (Str -> Option Value) -> Heap -> Prop} {YP : World -> Heap -> Prop} {d : DefRec} {K : Params -> KFr} (hT : ∀ ns : List Int, ns.length <= 63 -> F [.list (ns.map PyData.int)] = .ok (.bool true)) (hr : Room k callerA) (hn : l.most = some 63) (hdf : d.params.defaults = [])
  (hY : ∀ (w : World) (h : Heap), YP w h -> (K w.params).In h) (hL : ∀ w : World, noLst (K w.params) = true)
  (hF : ∀ (w : World) (mg : Str -> Option Value) (fa : Addr) (h : Heap), (K w.params).In h -> h.Ns mainGlobals mg -> mg d.name = some (.ref fa) ->
   ∃ fd : FuncData, (∀ (s : Shared) (u : Value), BindsTo s fd ⟨[u], []⟩ [("script", u)]) /\ ∀ base : Heap, (K w.params).In base -> base.Ns mainGlobals mg -> FnOk l.prog w (K w.params) mg base (@CXV (cnOf (K w.params)) l.prog w) k fa fd ["script"] (@spX (cnOf (K w.params)) false F)) :
  PySem.W.WalkO q loose XP YP l.row.toRowW d [] (fun f vs => PySem.call f vs) := by
 refine L2.yG1 (n := 63) (k := k) (x := "script") (CX := fun w => @CXV (cnOf (K w.params)) l.prog w) (sp := fun w => @spX (cnOf (K w.params)) false F) hn (by decide) hdf hr hY hF (fun w H a ns hl hO hS => ?_) fun w H s e s' z => ?_
 ·letI := cnOf (K w.params)
  refine ⟨[.list (ns.map PyData.int)], fun _ => False, fun a z => z.elim, .cons (.lst (xT6 (hL w) hS) (fun z => z) (fJ ns)) .nil, ?_⟩
  rw [hT ns hl]
  intro v H' _ r
  cases (show Rep H' (fun _ => False) v (.bool true) from r)
  rfl
 ·obtain ⟨_, _, _, _, _, _, _, _, _, _, _, _, _, _, z⟩ := z
  exact z
end L2.L3
namespace L2.L3
open PySem PySem.Spec PyProof.Rows
variable [CN]
section
omit [CN]
theorem wZ {h : Heap} {C b : Addr} {o : Obj} (e : (PySem.W.hideAll h [C]).get? b = some o) : h.get? b = some o /\ b ≠ C :=
 ⟨PySem.W.of_hideAll _ e, fun z => by rw [z, PySem.W.hideAll_none _ (.head _)] at e; cases e⟩
theorem xQ {h : Heap} {C b : Addr} {o : Obj} (e : h.get? b = some o) (n : b ≠ C) : (PySem.W.hideAll h [C]).get? b = some o :=
 PySem.W.hideAll_get _ e fun z => n (by simpa using z)
theorem qZ {h : Heap} {C b : Addr} (e : h.get? b = none) : (PySem.W.hideAll h [C]).get? b = none := by
 cases q : (PySem.W.hideAll h [C]).get? b with
 | none => rfl
 | some o => rw [(wZ q).1] at e; cases e
theorem zO3 {h g B : Heap} {C : Addr} : ∀ {l : List Env}, h.FunFrames B l -> (∀ b o, b ∈ frs l -> h.get? b = some o -> (∀ vs, o.data ≠ .fields vs) -> ∃ o', g.get? b = some o' /\ o'.data = o.data) -> g.FunFrames (PySem.W.hideAll B [C]) l
 | [], _, _ => trivial
 | env :: l, ⟨k, ⟨L, o, h1, h2, h3, h4⟩, r⟩, q => by
  have ml : L ∈ frs (env :: l) := List.mem_filterMap.mpr ⟨env, List.mem_cons_self, h1⟩
  obtain ⟨o', e1, e2⟩ := q L o ml h3 h4
  refine ⟨k, ⟨L, o', h1, qZ h2, e1, fun vs => by rw [e2]; exact h4 vs⟩, zO3 r fun b o hb => q b o ?_⟩
  obtain ⟨e, he, hf⟩ := List.mem_filterMap.mp hb
  exact List.mem_filterMap.mpr ⟨e, List.mem_cons_of_mem _ he, hf⟩
theorem aX {h g B B' : Heap} {e : Addr} {cls a0 fl : Value} (t : h.TracedAtW B e cls a0 fl) (q : ∀ b o ts, h.get? b = some o -> o.data = .fields ts -> g.get? b = some o) (k : ∀ b, B.get? b = none -> B'.get? b = none) : g.TracedAtW B' e cls a0 fl := by
 obtain ⟨oe, vs, T, oT, ts, g1, g2, g4, g5, g6, g7, g8, g9, g10⟩ := t
 exact ⟨oe, vs, T, oT, ts, q _ _ _ g1 g4, g2, g4, g5, k _ g6, g7, q _ _ _ g8 g9, g9, g10⟩
end
theorem yP1 {X : Cx} {XE : Str -> Hp -> Prop} {N : List Str} {scope : Scope} {C D : Addr} {fp : List Addr} {s₂ : Shared} {H₂ : Hp} {pins : List (Addr × Obj)} {σ : St} {use : Option (Value -> Sem Unit)} {Qv : Value -> Shared -> Prop} {xe : Value -> Shared -> Prop}
  (hb : ∀ c H e s, ExcAt X c H e s -> XE c H -> X.xe e s) (hst : X.stack = X.env :: X.outer) (hfr : X.env.frame = some X.env.locals) (I2 : Inv X pins σ H₂ s₂) (f2 : ∀ b ∈ fp, FpOk X pins H₂ b) (hC : s₂.heap.objs.size <= C)
  (c : Str) (H : Hp) (e : Value) (s : Shared) (x : ExcAt ((cxComp X N scope C fp s₂ H₂).wish xe) c H e s) (z : XE c H) :
  notedBy (model X.prog X.w) X.A (compEnvC scope (clos X.env.cells scope.names []) C X.env) (fun e s' => compPost (model X.prog X.w) X.A X.xe use Qv (.ref D) C (.error e) s') e s := by
 obtain ⟨pins', σ', s1, H1, a, B, a0, J1, J, un, rfl, n1, n2, f⟩ := x
 have un : Un (frs X.stack) [] H1 H s1.heap s.heap := un
 have f : Fl X.stack s1.heap H a (.ref (CN.ad c)) (rowOf c) B a0 s.heap := f
 have c1 : H1 C = none := J1.free
 have cc : H C = none := J.free
 have nC : C ∉ frs X.stack := fun z => by
  rcases List.mem_cons.mp (I2.stkSub C z) with q | q
  ·exact absurd I2.lt (by rw [<- q]; exact Nat.not_lt.mpr hC)
  ·exact I2.nofs (a := C) hC q
 obtain ⟨m1, ⟨oc1, es1, ep1, q1, _⟩, _⟩ := id J1.loc
 obtain ⟨m, hn, _⟩ := id J.loc
 obtain ⟨oc, es, ep, qc, dc, _⟩ := id hn
 have q1 : s1.heap.get? C = some oc1 := q1
 have hn : s.heap.Ns C m := hn
 have qc : s.heap.get? C = some oc := qc
 have aC : a ≠ C := fun y => by subst y; rw [n1] at q1; cases q1
 have fC : ∀ b o ts, s.heap.get? b = some o -> o.data = .fields ts -> b ≠ C := fun b o ts q d y => by
  subst y
  rw [qc] at q
  cases q
  rw [d] at dc
  cases dc
 have u1 : Un (frs X.stack) fp H₂ H1 s₂.heap s1.heap := J1.base
 have lt : ∀ b o, s₂.heap.get? b = some o -> b ≠ C := fun b o q y => Nat.not_lt.mpr hC (y ▸ Heap.lt_size q)
 have tk : ∀ {K : Hp} (b : Addr), K C = none -> K b ≠ none -> b ≠ C := fun b h n y => n (y ▸ h)
 have I1 : Inv X pins σ H1 { s1 with heap := PySem.W.hideAll s1.heap [C] } := by
  refine I2.call' (s' := { s1 with heap := PySem.W.hideAll s1.heap [C] }) (ch := fp) J1.os ⟨fun b o q n hb hx => xQ (u1.keep b o q n hb hx) (lt b o q), fun b o q n hb hx => ?_, u1.free, fun b o q hx => ?_, u1.tups, u1.frzs, u1.tbls⟩ (fun b o q => ?_) J1.bare fun b hb => ⟨(f2 b hb).2.2.2.1, (f2 b hb).2.1, (f2 b hb).2.2.2.2.1, (f2 b hb).2.2.2.2.2⟩
  ·obtain ⟨sl, e⟩ := u1.slot b o q n hb hx
   exact ⟨sl, xQ e (lt b o q)⟩
  ·obtain ⟨o', e⟩ := u1.there b o q hx
   exact ⟨o', xQ e (lt b o q)⟩
  ·refine (J1.hok b o q).stay (fun b' u hb' e => xQ e ?_) (fun _ z => z) fun _ _ z => z
   rcases hb' with rfl | hb'
   ·exact tk b' c1 (xX q)
   ·exact tk b' c1 (xX hb')
 have un' : Un (frs X.stack) [] H1 H (PySem.W.hideAll s1.heap [C]) (PySem.W.hideAll s.heap [C]) := by
  refine ⟨fun b o q n hb hx => xQ (un.keep b o (wZ q).1 n hb hx) (wZ q).2, fun b o q n hb hx => ?_, fun b o q n hx => un.free b o (wZ q).1 n hx, fun b o q hx => ?_, un.tups, un.frzs, un.tbls⟩
  ·obtain ⟨sl, e⟩ := un.slot b o (wZ q).1 n hb hx
   exact ⟨sl, xQ e (wZ q).2⟩
  ·obtain ⟨o', e⟩ := un.there b o (wZ q).1 hx
   exact ⟨o', xQ e (wZ q).2⟩
 have hok : HOk X.prog X.w H (PySem.W.hideAll s.heap [C]) := fun b o q => by
  refine (J.hok b o q).stay (fun b' u hb' e => xQ e ?_) (fun _ z => z) fun _ _ z => z
  rcases hb' with rfl | hb'
  ·exact tk b' cc (xX q)
  ·exact tk b' cc (xX hb')
 have I : Inv X pins σ H { s with heap := PySem.W.hideAll s.heap [C] } := I1.call' (s' := { s with heap := PySem.W.hideAll s.heap [C] }) (J.os.trans J1.os.symm) un' hok J.bare (fun b z => by cases z)
 have frC : ∀ b, b ∈ frs X.stack -> b ≠ C := fun b q y => nC (y ▸ q)
 have hidK : ∀ {od : Option Addr} {v : Value}, FlK (.ref (CN.ad c)) (rowOf c) B s1.heap H od v -> FlK (.ref (CN.ad c)) (rowOf c) (PySem.W.hideAll B [C]) (PySem.W.hideAll s1.heap [C]) H od v := fun ⟨y1, y2⟩ => ⟨y1, fun r e => by
  obtain ⟨d, z1, z2, z3, z4⟩ := y2 r e
  exact ⟨d, z1, z2.keeps (fun o q => xQ q (fun y => by rw [y, q1] at z4; cases z4)), z3, qZ z4⟩⟩
 have fl : Fl X.stack (PySem.W.hideAll s1.heap [C]) H a (.ref (CN.ad c)) (rowOf c) (PySem.W.hideAll B [C]) a0 (PySem.W.hideAll s.heap [C]) := by
  refine ⟨fun b o q => xQ (f.stays b o (wZ q).1) (wZ q).2, qZ f.newB, zO3 f.frm fun b o hb q d => ⟨o, xQ q (frC b hb), rfl⟩, ?_, ?_, fun b o q nb hh => ?_⟩
  ·rcases f.raw with ⟨fl, t⟩ | ⟨oe, vs, h1, h2, h3, h4⟩
   ·exact .inl ⟨fl, aX t (fun b o ts q d => xQ q (fC b o ts q d)) fun b => qZ⟩
   ·exact .inr ⟨oe, vs, xQ h1 aC, h2, h3, h4⟩
  ·obtain ⟨oe, vs, v, y1, y2⟩ := f.kp.mono fun _ _ => hidK
   exact ⟨oe, vs, v, xQ y1 aC, y2⟩
  ·obtain ⟨q1, q2⟩ := wZ q
   refine xQ (f.cov b o q1 nb (hh.elim (fun hh => .inl fun y => hh (qZ y)) .inr)) q2
 have hfrm : s.heap.FunFrames B (X.env :: X.outer) := by rw [<- hst]; exact f.frm
 have hA : X.A.frames = some (X.env :: X.outer) := by rw [<- hst]; exact I2.ok.frames
 obtain ⟨Φ, hP⟩ : ∃ Φ, Φ = FlK (.ref (CN.ad c)) (rowOf c) (PySem.W.hideAll B [C]) (PySem.W.hideAll s1.heap [C]) H := ⟨_, rfl⟩
 have fk : KpX Φ a s.heap := hP ▸ f.kp.mono fun _ _ => hidK
 have key : ∀ h', Heap.NotedW B (X.env :: X.outer) a (.ref (CN.ad c)) a0 (rawInt X.env.locals) s.heap h' -> KpX Φ a h' -> compPost (model X.prog X.w) X.A X.xe use Qv (.ref D) C (.error (.ref a)) { s with heap := h' } := by
  rintro h' ⟨k1, k2, k3, k4⟩ kh
  have hn' : h'.Ns C m := Heap.UpToSlots.ns k4 hn
  obtain ⟨_, _, _, qc', dc', _⟩ := id hn'
  have fin : ∃ m, h'.Ns C m /\ ∀ h'', Heap.SameBut C h' h'' -> ∀ cenv : Env, cenv.locals = C -> wpAny (model X.prog X.w) X.A (PySem.passOn "comprehension.variables-let-go" (.ref a) cenv : Sem Value) (fun _ _ => False) X.xe { s with heap := h'' } := by
   refine ⟨m, hn', fun h'' sb cenv ec => ?_⟩
   have t2 : h''.TracedAtW B a (.ref (CN.ad c)) a0 (rawInt X.env.locals) := aX k3 (fun b o ts q d => (sb.2 b fun y => by
    subst y
    rw [qc'] at q
    cases q
    rw [d] at dc'
    cases dc').trans q) fun b q => q
   have kh2 : KpX Φ a h'' := kh.same (sb.2 a aC)
   refine yT9 (s := { s with heap := h'' }) t2 kh2 fun g3 T fl' b1 b2 ⟨o, ts, b3, b4⟩ b5 kh3 => ?_
   have S3 : (PySem.W.hideAll B [C]).StaysIn g3 := fun b u q => by
    obtain ⟨y1, y2⟩ := wZ q
    rw [b2 b fun y => by rw [y, b1] at y1; cases y1]
    exact (sb.2 b y2).trans (k1 b u y1)
   have noT : ∀ b u, h''.get? b = some u -> (∀ vs, u.data ≠ .fields vs) -> b ≠ T := fun b u q d y => by
    subst y
    have b3 : h''.get? b = some o := b3
    rw [b3] at q
    cases q
    exact d ts b4
   have F3 : g3.FunFrames (PySem.W.hideAll B [C]) X.stack := by
    rw [hst]
    refine zO3 k2 fun b u hb q d => ⟨u, ?_, rfl⟩
    have q2 : h''.get? b = some u := (sb.2 b (frC b (by rw [hst]; exact hb))).trans q
    exact (b2 b (noT b u q2 d)).trans q2
   have U3 : (PySem.W.hideAll s.heap [C]).UpToSlots g3 := fun b u q d => by
    obtain ⟨y1, y2⟩ := wZ q
    obtain ⟨sl, y3⟩ := k4 b u y1 d
    have q2 : h''.get? b = some { u with slots := sl } := (sb.2 b y2).trans y3
    exact ⟨sl, (b2 b (noT b _ q2 d)).trans q2⟩
   obtain ⟨K, un3, cov⟩ := fH I1 I un' fl S3 F3 U3
   exact hb c H _ _ ⟨pins, σ, _, H1, a, PySem.W.hideAll B [C], a0, I1, K, un3, rfl, qZ n1, n2, ⟨S3, qZ f.newB, F3, .inl ⟨fl', aX b5 (fun b o ts q d => q) fun b => qZ⟩, hP ▸ kh3, cov⟩⟩ z
  cases use <;> exact fin
 show wpAny (model X.prog X.w) X.A (noteFrame (.ref a) X.env) (fun _ s'' => compPost (model X.prog X.w) X.A X.xe use Qv (.ref D) C (.error (.ref a)) s'') (fun e' s'' => compPost (model X.prog X.w) X.A X.xe use Qv (.ref D) C (.error e') s'') s
 rcases f.raw with ⟨fl, t⟩ | ⟨oe, vs, he, hc, hd, h1, h0⟩
 ·exact jP hA hfrm hfr t f.stays f.newB fk key
 ·rw [<- hc] at key
  unfold noteFrame
  simp only [hfr]
  refine wpAny_bind (wpAny_field he hd h1 ?_)
  rw [if_neg (by decide)]
  exact entryK hA hfrm hfr he f.stays f.newB hd (Array.getElem?_eq_some_iff.mp h1).1 h0 fk key
def BrI (X : Cx) (XE : Str -> Hp -> Prop) (N : List Str) (scope : Scope) (C : Addr) (fp : List Addr) (s₂ : Shared) (H : Hp) (xe : Value -> Shared -> Prop) : Prop := ∀ c H' e s, ExcAt ((cxComp X N scope C fp s₂ H).wish xe) c H' e s -> XE c H' -> xe e s
def tCompX (X : Cx) (XE : Str -> Hp -> Prop) (N : List Str) (scope : Scope) (wi : TI) (tt : (C : Addr) -> (fp : List Addr) -> (s₂ : Shared) -> (H : Hp) -> (xe : Value -> Shared -> Prop) -> BrI X XE N scope C fp s₂ H xe -> TT) (te : (C : Addr) -> (fp : List Addr) -> (s₂ : Shared) -> (H : Hp) -> (xe : Value -> Shared -> Prop) -> BrI X XE N scope C fp s₂ H xe -> TE) (js : List Nat) : TE := fun σ H Q => wi σ H fun J H1 => ∀ C fp s₂ H₂ xe br, ∃ W : Nat -> Nat -> List V -> Hp -> Prop, (∃ m, W 0 m [] H1) /\ ∀ i m acc H, W i m acc H ->
 (J.stop i H /\ ∀ p, H p = none -> Q (.ref p) (upd H p (.lst acc))) \/
 (J.go i H /\ ∃ Nx : List V -> Hp -> Prop, (∀ acc' H', Nx acc' H' -> ∃ m', m' < m /\ W (i + 1) m' acc' H') /\
  ∀ x H', J.yld i H x H' -> tt C fp s₂ H₂ xe br (compSt σ js (some x)) H' fun b H2 => if b = true then te C fp s₂ H₂ xe br (compSt σ js (some x)) H2 fun v H3 => acc.length < sizeLine /\ Nx (acc ++ [v]) H3 else Nx acc H2)
theorem cA {X : Cx} {elt iter : Expr} {ifs : List Expr} {sc0 scope : Scope} {N0 : List Str} {px pos : Pos} {xt : Str} {fs : List Str} {js : List Nat} {wi : TI} {XE : Str -> Hp -> Prop} {tt : (C : Addr) -> (fp : List Addr) -> (s₂ : Shared) -> (H : Hp) -> (xe : Value -> Shared -> Prop) -> BrI X XE (xt :: fs) scope C fp s₂ H xe -> TT} {te : (C : Addr) -> (fp : List Addr) -> (s₂ : Shared) -> (H : Hp) -> (xe : Value -> Shared -> Prop) -> BrI X XE (xt :: fs) scope C fp s₂ H xe -> TE} (hb : ∀ c H e s, ExcAt X c H e s -> XE c H -> X.xe e s) (hst : X.stack = X.env :: X.outer) (hfr : X.env.frame = some X.env.locals) (S : CompScope sc0 scope N0 xt fs js) (h0 : X.env.scope = sc0) (hN0 : X.N = N0) (hc : X.calm = true)
  (hi : PI X (.Name xt px) iter wi) (ht : ∀ C fp s₂ H xe br, PTs ((cxComp X (xt :: fs) scope C fp s₂ H).wish xe) ifs (tt C fp s₂ H xe br)) (he : ∀ C fp s₂ H xe br, PE ((cxComp X (xt :: fs) scope C fp s₂ H).wish xe) elt (te C fp s₂ H xe br))
  (hs : autoParam (∀ x, foldedSetIterable iter X.env x = pure x) xG._auto_1)
  {pins : List (Addr × Obj)} {cpos : Pos} {s : Shared} {σ : St} {H : Hp} {Q : VK} {use : Option (Value -> Sem Unit)} {Qv : Value -> Shared -> Prop} (I : Inv X pins σ H s) (h : tCompX X XE (xt :: fs) scope wi tt te js σ H Q)
  (hfin : ∀ (s' : Shared) (C D : Addr) (Ha : Hp) (fl : Flow), (∀ h'', Heap.SameBut C s'.heap h'' -> Inv X pins σ Ha { s' with heap := h'' }) -> (∃ m, s'.heap.Ns C m) -> FpOk X pins Ha C -> Q (.ref D) Ha -> compPost (model X.prog X.w) X.A X.xe use Qv (.ref D) C (.ok fl) s') :
  wpAny (model X.prog X.w) X.A (comprehension (.ListComp elt [⟨.Name xt px, iter, ifs, 0⟩] scope pos) scope X.env cpos (newList []) false (eval iter X.env) use) Qv X.xe s := by
 refine wpAny_comprehension_free (use := use) rfl hs (gU (S.cells h0 I.ok)) S.kind S.names ?_
 refine thn (hi pins s σ H _ I h) fun v s1 h1 => thn h1 fun itv s2 h2 => ?_
 obtain ⟨it, fp, tn, J, H2, e, I2, T, st2, f2, hW⟩ := h2
 subst e
 have fo : ∀ b ∈ fp, ∃ o, s2.heap.get? b = some o := fun b hb => let ⟨o, e, _⟩ := T.obj 0 s2.heap st2 b hb; ⟨o, e⟩
 have blt : ∀ b ∈ fp, b < s2.heap.objs.size := fun b hb => let ⟨o, e⟩ := fo b hb; Heap.lt_size e
 refine zX5 S.nocell S.kind fun D C h₁ mC hDle hCle hDC old hacc hns₁ => ?_
 have bC : ∀ b o, s2.heap.get? b = some o -> b ≠ C := fun b o q z => Nat.not_lt.mpr hCle (z ▸ Heap.lt_size q)
 have bD : ∀ b o, s2.heap.get? b = some o -> b ≠ D := fun b o q z => Nat.not_lt.mpr hDle (z ▸ Heap.lt_size q)
 have br : BrI X XE (xt :: fs) scope C fp s2 H2 (notedBy (model X.prog X.w) X.A (compEnvC scope (clos X.env.cells scope.names []) C X.env) (fun e s' => compPost (model X.prog X.w) X.A X.xe use Qv (.ref D) C (.error e) s')) := fun c H e s x z => yP1 hb hst hfr I2 f2 hCle c H e s x z
 generalize hxe : (notedBy (model X.prog X.w) X.A (compEnvC scope (clos X.env.cells scope.names []) C X.env) (fun e s' => compPost (model X.prog X.w) X.A X.xe use Qv (.ref D) C (.error e) s')) = xe at br
 have noE : ∀ (a : Value) (s' : Shared), xe a s' -> notedBy (model X.prog X.w) X.A (compEnvC scope (clos X.env.cells scope.names []) C X.env) (fun e s' => compPost (model X.prog X.w) X.A X.xe use Qv (.ref D) C (.error e) s') a s' := fun a s' z => by rw [hxe]; exact z
 obtain ⟨W, ⟨m0, w0⟩, turn⟩ := hW C fp s2 H2 xe br
 have fpk : ∀ {H' : Hp} (ob : Obj), (∀ b ∈ fp, H' b = none) -> ∀ b ∈ fp, FpOk ((cxComp X (xt :: fs) scope C fp s2 H2).wish xe) [(D, ob)] H' b := fun {H'} ob hn b hb => by
  refine ⟨hn b hb, Nat.ne_of_lt (Nat.lt_of_lt_of_le (blt b hb) hCle), fun z => ?_, .inl hb, fun x c e => (f2 b hb).2.2.2.2.1 x c (S.sub h0 I2.ok x c e), fun p hp => ?_⟩
  ·rcases List.mem_cons.mp (I2.stkSub b z) with q | q
   ·exact (f2 b hb).2.1 q
   ·exact (f2 b hb).2.2.1 q
  ·have : p = (D, ob) := by
    have hp : p ∈ [] ++ [(D, ob)] := hp
    simpa using hp
   subst this
   exact Nat.ne_of_gt (Nat.lt_of_lt_of_le (blt b hb) hDle)
 have loop : codeAny (model X.prog X.w) X.A (.compLoop (.ListComp elt [⟨.Name xt px, iter, ifs, 0⟩] scope pos) 0 (.ref it) (.ref D) (compEnvC scope (clos X.env.cells scope.names []) C X.env))
    (compPost (model X.prog X.w) X.A X.xe use Qv (.ref D) C) { s2 with heap := h₁ } := by
  have J0 : Inv ((cxComp X (xt :: fs) scope C fp s2 H2).wish xe) [] (compSt σ js none) H2 { s2 with heap := h₁ } :=
   (Inv.block (s₂ := s2) (s₄ := { s2 with heap := h₁ }) S h0 hN0 I2 f2 fo rfl I2.bare old hCle hns₁).wish xe
  have H2D : H2 D = none := I2.hok.fresh hDle
  have ofD : D ∉ frs X.stack := fun z => by
   rcases List.mem_cons.mp (I2.stkSub D z) with q | q
   ·exact absurd I2.lt (by rw [<- q]; exact Nat.not_lt.mpr hDle)
   ·exact I2.nofs (a := D) hDle q
  refine codeAny_loop rfl (fun n s' => ∃ (i : Nat) (σ' : St) (H' : Hp) (acc : List V) (its : List Value) (k : Nat), (∃ v0, σ' = compSt σ js v0) /\ Inv ((cxComp X (xt :: fs) scope C fp s2 H2).wish xe) [] σ' H' s' /\ tn i s'.heap /\ (∀ b ∈ fp, H' b = none) /\ H' D = none /\
    s'.heap.get? D = some { cls := .type "list", data := .seq its.toArray k } /\ Vals acc its /\ acc.length <= sizeLine /\ W i n acc H') ?_ m0
   ⟨0, _, H2, [], [], 0, ⟨none, rfl⟩, J0, T.keep 0 _ _ st2 fun b hb o e => old b o e, fun b hb => (f2 b hb).1, H2D, hacc, .nil, Nat.zero_le _, w0⟩
  rintro n s3 ⟨i, σ3, H3, acc, its, k, ⟨v0, rfl⟩, I3, st3, fr3, hD3, d3, va, hz, w3⟩
  show wpAny _ X.A ((compTurn (.ListComp elt [⟨.Name xt px, iter, ifs, 0⟩] scope pos) 0 (.ref it) (.ref D) (compEnvC scope (clos X.env.cells scope.names []) C X.env)).onRaise (fun x => do noteFrame x (compEnvC scope (clos X.env.cells scope.names []) C X.env); theTreesLotGoes x)) _ _ s3
  refine wpAny_noted ?_
  rw [compTurn_list]
  refine wpAny_bind (wpAny_standAt ?_)
  have pinD : Inv ((cxComp X (xt :: fs) scope C fp s2 H2).wish xe) [(D, { cls := .type "list", data := .seq its.toArray k })] (compSt σ js v0) H3 s3 := I3.xV fun p hp => by
   have : p = (D, { cls := .type "list", data := .seq its.toArray k }) := by simpa using hp
   subst this
   exact ⟨d3, hD3, hDC, ofD, fun v z => by cases z⟩
  refine wpAny_bind ?_
  rcases turn i n acc H3 w3 with ⟨stop, qn⟩ | ⟨go, N, hN, step⟩
  ·refine thn (T.done ((cxComp X (xt :: fs) scope C fp s2 H2).wish xe) rfl rfl rfl hc i _ s3 _ H3 _ pinD (fpk _ fr3) st3 stop) fun r s4 ⟨hr, I4⟩ => ?_
   subst hr
   refine wpAny_pure ?_
   obtain ⟨m4, hn4, _⟩ := I4.loc
   have hHC : H3 C = none := I4.free
   refine hfin s4 C D (upd H3 D (.lst acc)) _ (fun h'' hsb => I2.unblock f2 I4.unwish hCle hDle hDC hD3 ((I4.pin (D, { cls := .type "list", data := .seq its.toArray k }) (List.mem_append_right _ List.mem_cons_self)).1) va hz hsb) ⟨m4, hn4⟩ (I2.fpOk hCle (by rw [zM (Ne.symm hDC)]; exact hHC)) (qn D hD3)
  ·refine thn (T.item ((cxComp X (xt :: fs) scope C fp s2 H2).wish xe) rfl rfl rfl hc i _ s3 _ H3 _ pinD (fpk _ fr3) st3 go) fun r s4 ⟨u, hr, h4⟩ => ?_
   subst hr
   refine wpAny_bind (thn h4 fun _ s5 ⟨x, H5, I5, r5, y5, st5, fr5⟩ => ?_)
   have I5' := I5.pinned (fpk _ fr5) (T.obj _ _ st5)
   have gok : PG ((cxComp X (xt :: fs) scope C fp s2 H2).wish xe) (.Name xt px) (gName 0) := zZ1 S.nd rfl (.inl (lookup_relabel_local S.tgt)) (.inr (lookup_relabel_local S.tgt))
   refine wpAny_bind (wpAny_mono (gok _ s5 (compSt σ js v0) H5 x u (fun σ' H' => σ' = compSt σ js (some x) /\ H' = H5) I5' r5 ⟨rfl, rfl⟩) (fun _ s6 ⟨σ6, H6, I6, e6, e6'⟩ => ?_) noE)
   subst e6 e6'
   have fin : ∀ {acc' : List V} {its' : List Value} {k' : Nat} {H7 : Hp} {s7 : Shared}, Inv ((cxComp X (xt :: fs) scope C fp s2 H2).wish xe) [] (compSt σ js (some x)) H7 s7 -> tn (i + 1) s7.heap -> (∀ b ∈ fp, H7 b = none) -> H7 D = none -> s7.heap.get? D = some { cls := .type "list", data := .seq its'.toArray k' } -> Vals acc' its' -> acc'.length <= sizeLine -> N acc' H7 ->
     ∃ m, m < n /\ ∃ (i : Nat) (σ' : St) (H' : Hp) (acc : List V) (its : List Value) (k : Nat), (∃ v0, σ' = compSt σ js v0) /\ Inv ((cxComp X (xt :: fs) scope C fp s2 H2).wish xe) [] σ' H' s7 /\ tn i s7.heap /\ (∀ b ∈ fp, H' b = none) /\ H' D = none /\
      s7.heap.get? D = some { cls := .type "list", data := .seq its.toArray k } /\ Vals acc its /\ acc.length <= sizeLine /\ W i m acc H' := fun {acc' its' k' H7 s7} a1 a2 a3 a4 a5 a6 a7 a8 => by
    obtain ⟨m', hm, w7⟩ := hN _ _ a8
    exact ⟨m', hm, i + 1, _, H7, acc', its', k', ⟨_, rfl⟩, a1, a2, a3, a4, a5, a6, a7, w7⟩
   have rest : ∀ {H7 : Hp} {s7 : Shared}, Inv ((cxComp X (xt :: fs) scope C fp s2 H2).wish xe) ([(D, { cls := .type "list", data := .seq its.toArray k })] ++ pinsAt fp s5.heap) (compSt σ js (some x)) H7 s7 ->
     tn (i + 1) s7.heap /\ (∀ b ∈ fp, H7 b = none) /\ H7 D = none /\ s7.heap.get? D = some { cls := .type "list", data := .seq its.toArray k } := fun {H7 s7} I7 => by
    refine ⟨T.keep _ _ _ st5 fun b hb o e => (I7.pin (b, o) (List.mem_append_right _ (List.mem_append_right _ (vU hb e)))).1, fun b hb => ?_, (I7.pin (D, { cls := .type "list", data := .seq its.toArray k }) (List.mem_append_right _ (List.mem_append_left _ List.mem_cons_self))).2.1, (I7.pin (D, { cls := .type "list", data := .seq its.toArray k }) (List.mem_append_right _ (List.mem_append_left _ List.mem_cons_self))).1⟩
    obtain ⟨o, e, d⟩ := T.obj _ _ st5 b hb
    exact (I7.pin (b, o) (List.mem_append_right _ (List.mem_append_right _ (vU hb e)))).2.1
   have elem : ∀ {H7 : Hp} {s7 : Shared}, Inv ((cxComp X (xt :: fs) scope C fp s2 H2).wish xe) ([(D, { cls := .type "list", data := .seq its.toArray k })] ++ pinsAt fp s5.heap) (compSt σ js (some x)) H7 s7 ->
     (te C fp s2 H2 xe br (compSt σ js (some x)) H7 fun v H3 => acc.length < sizeLine /\ N (acc ++ [v]) H3) ->
     wpAny (model X.prog X.w) X.A (eval elt (compEnvC scope (clos X.env.cells scope.names []) C X.env)) (fun y s8 => wpAny (model X.prog X.w) X.A (call (.builtin "list.append") [.ref D, y]) (fun _ s9 => ∃ m, m < n /\ ∃ (i : Nat) (σ' : St) (H' : Hp) (acc : List V) (its : List Value) (k : Nat), (∃ v0, σ' = compSt σ js v0) /\ Inv ((cxComp X (xt :: fs) scope C fp s2 H2).wish xe) [] σ' H' s9 /\ tn i s9.heap /\ (∀ b ∈ fp, H' b = none) /\ H' D = none /\
      s9.heap.get? D = some { cls := .type "list", data := .seq its.toArray k } /\ Vals acc its /\ acc.length <= sizeLine /\ W i m acc H')
      xe s8) xe s7 := fun {H7 s7} I7 q7 => by
    refine thn (he C fp s2 H2 xe br _ s7 _ H7 _ I7 q7) fun y s8 ⟨v, H8, I8, r8, hl8, n8⟩ => ?_
    obtain ⟨t8, fr8, hD8, d8⟩ := rest I8
    have hsz := va.length
    refine call_meets F.slot_list_append ⟨_, d8, rfl⟩ F.entry_list_append (F.args_list_append_2 _ _) (PySem.list_append D its.toArray k y (by rw [List.size_toArray]; bv_omega)) ⟨d8, ?_⟩
    have q := PySem.IsL.update d8 (·.push y)
    rw [show (its.toArray.push y) = (its ++ [y]).toArray by simp] at q
    have kk : ∀ b o, b ≠ D -> s8.heap.get? b = some o -> (s8.heap.update D (Obj.mapSeq (·.push y))).get? b = some o := fun b o hb e => (Heap.get?_update_other s8.heap _ (Ne.symm hb)).trans e
    have I9 : Inv ((cxComp X (xt :: fs) scope C fp s2 H2).wish xe) [] (compSt σ js (some x)) H8 { s8 with heap := s8.heap.update D (Obj.mapSeq (·.push y)) } := by
     refine Inv.turned (it := D) (t' := s8.toks) (I8.xV (pins' := []) fun p hp => nomatch hp) kk hD8 hDC (.inr hDle) (fun x c e z => ?_) fun p hp => absurd (show p ∈ ([] : List (Addr × Obj)) from hp) (by simp)
     obtain ⟨v, o, ho, _⟩ := I2.cell x c (S.sub h0 I2.ok x c e)
     exact bD c o ho z
    refine fin I9 (T.keep _ _ _ t8 fun b hb o e => kk b o (Nat.ne_of_lt (Nat.lt_of_lt_of_le (blt b hb) hDle)) e) fr8 hD8 q (va.append (.cons r8 .nil)) ?_ n8
    rw [List.length_append, List.length_singleton]
    bv_omega
   have q6 := step x H6 y5
   have htt := ht C fp s2 H2 xe br
   generalize tt C fp s2 H2 xe br = tt' at htt q6
   cases htt with
   | nil =>
    refine wpAny_bind (wpAny_pure ?_)
    dsimp only [tTrue] at q6
    rw [if_pos rfl] at q6
    refine wpAny_mono (wpAny_bind (wpAny_bind (thn (elem I6 q6) fun y s8 h8 => wpAny_bind (thn h8 fun _ s9 h9 => wpAny_pure (wpAny_pure ⟨rfl, h9⟩))))) (fun _ _ z => z) noE
   | one ht1 =>
    refine wpAny_bind (wpAny_tests_one (wpAny_mono (ht1 _ s6 _ H6 _ I6 q6) (fun b s7 ⟨H7, I7, q7⟩ => ?_) noE))
    cases b with
    | false =>
     rw [if_neg Bool.false_ne_true] at q7
     obtain ⟨t8, fr8, hD8, d8⟩ := rest I7
     exact wpAny_pure ⟨rfl, fin (I7.xV (pins' := []) fun p hp => nomatch hp) t8 fr8 hD8 d8 va hz q7⟩
    | true =>
     rw [if_pos rfl] at q7
     refine wpAny_mono (wpAny_bind (wpAny_bind (thn (elem I7 q7) fun y s8 h8 => wpAny_bind (thn h8 fun _ s9 h9 => wpAny_pure (wpAny_pure ⟨rfl, h9⟩))))) (fun _ _ z => z) noE
 exact codeAny_compStart_list loop (T.self X.A 0 _ _ _ (T.keep 0 _ _ st2 fun b hb o e => old b o e) loop)
theorem yR8 {X : Cx} {elt iter : Expr} {ifs : List Expr} {sc0 scope : Scope} {N0 : List Str} {px pos : Pos} {xt : Str} {fs : List Str} {js : List Nat} {wi : TI} {XE : Str -> Hp -> Prop} {tt : (C : Addr) -> (fp : List Addr) -> (s₂ : Shared) -> (H : Hp) -> (xe : Value -> Shared -> Prop) -> BrI X XE (xt :: fs) scope C fp s₂ H xe -> TT} {te : (C : Addr) -> (fp : List Addr) -> (s₂ : Shared) -> (H : Hp) -> (xe : Value -> Shared -> Prop) -> BrI X XE (xt :: fs) scope C fp s₂ H xe -> TE} (hb : ∀ c H e s, ExcAt X c H e s -> XE c H -> X.xe e s) (hst : X.stack = X.env :: X.outer) (hfr : X.env.frame = some X.env.locals) (S : CompScope sc0 scope N0 xt fs js) (h0 : X.env.scope = sc0) (hN0 : X.N = N0) (hc : X.calm = true)
  (hi : PI X (.Name xt px) iter wi) (ht : ∀ C fp s₂ H xe br, PTs ((cxComp X (xt :: fs) scope C fp s₂ H).wish xe) ifs (tt C fp s₂ H xe br)) (he : ∀ C fp s₂ H xe br, PE ((cxComp X (xt :: fs) scope C fp s₂ H).wish xe) elt (te C fp s₂ H xe br))
  (hs : autoParam (∀ x, foldedSetIterable iter X.env x = pure x) xG._auto_1) :
  PE X (.ListComp elt [⟨.Name xt px, iter, ifs, 0⟩] scope pos) (tCompX X XE (xt :: fs) scope wi tt te js) := by
 intro pins s σ H Q I h
 rw [eval_ListComp]
 refine cA hb hst hfr S h0 hN0 hc hi ht he hs (use := none) (Qv := EP X pins σ Q) I h fun s' C D Ha fl hI hns hC q => ?_
 obtain ⟨m, hn⟩ := hns
 exact ⟨m, hn, fun h' hsb => ⟨.ref D, Ha, hI h' hsb, rfl, q⟩⟩
theorem yQ4 {X : Cx} {elt iter : Expr} {ifs : List Expr} {sc0 scope : Scope} {N0 : List Str} {px py pos spos : Pos} {xt y : Str} {fs : List Str} {js : List Nat} {i : Nat} {wi : TI} {XE : Str -> Hp -> Prop} {tt : (C : Addr) -> (fp : List Addr) -> (s₂ : Shared) -> (H : Hp) -> (xe : Value -> Shared -> Prop) -> BrI X XE (xt :: fs) scope C fp s₂ H xe -> TT} {te : (C : Addr) -> (fp : List Addr) -> (s₂ : Shared) -> (H : Hp) -> (xe : Value -> Shared -> Prop) -> BrI X XE (xt :: fs) scope C fp s₂ H xe -> TE} (hb : ∀ c H e s, ExcAt X c H e s -> XE c H -> X.xe e s) (hst : X.stack = X.env :: X.outer) (hfr : X.env.frame = some X.env.locals) (S : CompScope sc0 scope N0 xt fs js) (h0 : X.env.scope = sc0) (hN0 : X.N = N0) (hc : X.calm = true)
  (hi : PI X (.Name xt px) iter wi) (ht : ∀ C fp s₂ H xe br, PTs ((cxComp X (xt :: fs) scope C fp s₂ H).wish xe) ifs (tt C fp s₂ H xe br)) (he : ∀ C fp s₂ H xe br, PE ((cxComp X (xt :: fs) scope C fp s₂ H).wish xe) elt (te C fp s₂ H xe br))
  (nd : X.N.Nodup) (hy : X.N[i]? = some y) (hl : Loc X.env.scope y) (hsw : swapsWith (.ListComp elt [⟨.Name xt px, iter, ifs, 0⟩] scope pos) (some (.Name y py)) spos.line X.env = pure true)
  (hs : autoParam (∀ x, foldedSetIterable iter X.env x = pure x) xG._auto_1) (hf : autoParam (X.fn y = true \/ X.env.scope.names.lookup y = some .local) kH._auto_1) :
  PS X (.Assign [.Name y py] (.ListComp elt [⟨.Name xt px, iter, ifs, 0⟩] scope pos) spos) (tAsg (tCompX X XE (xt :: fs) scope wi tt te js) (gName i)) := by
 intro pins s σ H E I h
 rw [exec_Assign_Name_used _ _ _ _ hsw]
 refine wpAny_bind (wpAny_standAt (wpAny_bind ?_))
 show wpAny _ X.A (do let _ <- comprehension (.ListComp elt [⟨.Name xt px, iter, ifs, 0⟩] scope pos) scope X.env _ (newList []) false (eval iter X.env) (some (assign (.Name y py) X.env))) _ _ s
 refine wpAny_bind (thn (cA hb hst hfr S h0 hN0 hc hi ht he hs (use := some (assign (.Name y py) X.env)) (Qv := fun _ s' => SP X pins E .next s') I h fun s' C D Ha fl hI hns hC q => ?_) fun _ s' hq => wpAny_pure (wpAny_pure hq))
 show wpAny (model X.prog X.w) X.A (assign (.Name y py) X.env (.ref D)) (fun _ s'' => ∃ m, s''.heap.Ns C m /\ ∀ h', Heap.SameBut C s''.heap h' -> SP X pins E .next { s'' with heap := h' }) X.xe s'
 obtain ⟨m, oC, es, ep, hgC, hdC, hrC⟩ := hns
 have I1 : Inv X pins σ Ha s' := hI s'.heap ⟨rfl, fun b _ => rfl⟩
 have I2 : Inv X (pins ++ [(C, oC)]) σ Ha s' := I1.xV fun p hp => by
  rcases List.mem_append.mp hp with z | z
  ·exact I1.pin p (List.mem_append_right _ z)
  ·have : p = (C, oC) := by simpa using z
   subst this
   exact ⟨hgC, hC.1, hC.2.1, hC.2.2.1, fun v z => by rw [hdC] at z; cases z⟩
 refine wpAny_assign_Name (uJ I2 nd hy hl (show RelV (.ref D) (.ref D) from rfl) (fun s'' I3 => ?_) hf)
 have hgC' := (I3.pin (C, oC) (List.mem_append_right _ (List.mem_append_right _ List.mem_cons_self))).1
 refine ⟨m, ⟨oC, es, ep, hgC', hdC, hrC⟩, fun h' hsb => ?_⟩
 have I4 : Inv X pins (σ.set i (some (.ref D))) Ha s'' := I3.xV fun p hp => I3.pin p (List.mem_append_right _ (List.mem_append_left _ hp))
 exact ⟨_, Ha, Inv.turned (it := C) (t' := s''.toks) I4 (fun b o hb e => (hsb.2 b hb).trans e) hC.1 hC.2.1 hC.2.2.2.1 hC.2.2.2.2.1 hC.2.2.2.2.2, q⟩
section
omit [CN]
def compX (t : D -> Res Bool) (f : D -> Res D) : List D -> Res (List D)
 | [] => .ok []
 | x :: xs => (t x).bind fun b => if b then (f x).bind fun y => (compX t f xs).bind fun ys => .ok (y :: ys) else compX t f xs
def eCompX (mi : Ev -> Res (List D)) (mt : Ev -> Res Bool) (me : Ev -> Res D) (js : List Nat) : Ev -> Res D := fun ρ => (mi ρ).bind fun ds => if ds.length <= sizeLine then (compX (fun x => mt (cEnv ρ js x)) (fun x => me (cEnv ρ js x)) ds).bind fun out => .ok (.list out) else .no
theorem fZ {α β γ : Type} (r : Res α) (f : α -> Res β) (g : β -> Res γ) : (r.bind f).bind g = r.bind fun a => (f a).bind g := by cases r <;> rfl
end
abbrev cCX (C : Ct) (N : List Str) (scope : Scope) (A : Addr) (fp : List Addr) (s₂ : Shared) (H : Hp) (xe : Value -> Shared -> Prop) (js : List Nat) : Ct := ⟨(cxComp C.X N scope A fp s₂ H).wish xe, C.XE, [], capt js (C.om ++ C.ln)⟩
def wantX (C : Ct) (Oc : Wd) (Ob : Addr -> Prop) (H : Hp) (Q : VK) (T : D -> Res Bool) (F : D -> Res D) (ds done : List D) (i : Nat) : Prop :=
 ((compX T F (ds.drop i)).bind fun rest => Res.ok (PyData.list (done ++ rest))).post (fun d => ∀ v H', Same H H' -> VR .new Oc Ob H H' v d -> Q v H') (fun c => ∀ H', Same H H' -> C.XE c H')
theorem zF9 {C : Ct} {Oc : Wd} {Ob : Addr -> Prop} {H : Hp} {Q : VK} {T : D -> Res Bool} {F : D -> Res D} {ds done : List D} {i : Nat} (h : wantX C Oc Ob H Q T F ds done i) (hlt : i < ds.length) :
  (T ds[i]).post (fun b => if b = true then (F ds[i]).post (fun y => wantX C Oc Ob H Q T F ds (done ++ [y]) (i + 1)) (fun c => ∀ H', Same H H' -> C.XE c H') else wantX C Oc Ob H Q T F ds done (i + 1)) (fun c => ∀ H', Same H H' -> C.XE c H') := by
 unfold wantX at h
 rw [List.drop_eq_getElem_cons hlt, compX, fZ] at h
 refine Res.zW (Res.zX h) (fun b _ k => ?_) fun _ z => z
 cases b with
 | false => exact iteF k
 | true =>
  refine iteT ?_
  have k : (((F ds[i]).bind fun y => (compX T F (ds.drop (i + 1))).bind fun ys => Res.ok (y :: ys)).bind fun rest => Res.ok (PyData.list (done ++ rest))).post _ _ := k
  rw [fZ] at k
  refine Res.zW (Res.zX k) (fun y _ k => ?_) fun _ z => z
  rw [fZ] at k
  unfold wantX
  cases e : compX T F (ds.drop (i + 1)) with
  | no => rw [e] at k; exact k
  | ex c => rw [e] at k; exact k
  | ok ys =>
   rw [e] at k
   have k : ∀ v H', Same H H' -> VR .new Oc Ob H H' v (.list (done ++ y :: ys)) -> Q v H' := k
   show ∀ v H', Same H H' -> VR .new Oc Ob H H' v (.list (done ++ [y] ++ ys)) -> Q v H'
   rw [List.append_assoc]
   exact k
section
variable {C : Ct} {elt : Expr} {ifs : List Expr} {scope : Scope} {N : List Str} {js : List Nat} {mi : Ev -> Res (List D)} {mt : Ev -> Res Bool} {me : Ev -> Res D} {wi : TI}
theorem bL
  (qi : ∀ (Oc : Wd) (Ob : Addr -> Prop) (σ : St) (H : Hp) (ρ : Ev) (R : It -> Hp -> Prop), Rel Oc Ob C.om C.ln σ H ρ -> (mi ρ).post (fun ds => ∀ J H1, Same H H1 -> WalksS Oc Ob J H1 ds -> R J H1) (fun c => ∀ H', Same H H' -> C.XE c H') -> wi σ H R)
  (ht : ∀ A fp s₂ H xe, Br (cCX C N scope A fp s₂ H xe js) -> RTs (cCX C N scope A fp s₂ H xe js) ifs mt) (he : ∀ A fp s₂ H xe, Br (cCX C N scope A fp s₂ H xe js) -> RE (cCX C N scope A fp s₂ H xe js) .cl elt me)
  {Oc : Wd} {Ob : Addr -> Prop} {σ : St} {H : Hp} {ρ : Ev} {Q : VK} (R : Rel Oc Ob C.om C.ln σ H ρ) (h : (eCompX mi mt me js ρ).post (fun d => ∀ v H', Same H H' -> VR .new Oc Ob H H' v d -> Q v H') (fun c => ∀ H', Same H H' -> C.XE c H')) :
  tCompX C.X C.XE N scope wi (fun A fp s H xe br => Classical.choose (ht A fp s H xe br)) (fun A fp s H xe br => Classical.choose (he A fp s H xe br)) js σ H Q := by
 refine qi Oc Ob σ H ρ _ R (Res.zW (Res.zX h) (fun ds _ k J H1 s1 wk => ?_) fun _ z => z)
 intro A fp s₂ H₂ xe br
 have qt := (Classical.choose_spec (ht A fp s₂ H₂ xe br)).2
 have qe := (Classical.choose_spec (he A fp s₂ H₂ xe br)).2
 have k : (if ds.length <= sizeLine then (compX (fun x => mt (cEnv ρ js x)) (fun x => me (cEnv ρ js x)) ds).bind fun out => Res.ok (PyData.list out) else .no).post (fun d => ∀ v H', Same H H' -> VR .new Oc Ob H H' v d -> Q v H') (fun c => ∀ H', Same H H' -> C.XE c H') := k
 by_cases hlen : ds.length <= sizeLine
 ·rw [if_pos hlen] at k
  refine ⟨fun i m acc H2 => m = ds.length - i /\ i <= ds.length /\ Same H1 H2 /\ ∃ done, Reps H2 (Uni Oc Ob) acc done /\ acc.length <= i /\ wantX C Oc Ob H Q (fun x => mt (cEnv ρ js x)) (fun x => me (cEnv ρ js x)) ds done i, ⟨_, rfl, Nat.zero_le _, Same.refl _, [], .nil, Nat.le_refl _, k⟩, ?_⟩
  rintro i m acc H2 ⟨rfl, hi, s2, done, ra, la, w⟩
  obtain ⟨w1, w2⟩ := wk H2 s2 i
  have R2 := (R.same s1).same s2
  by_cases hlt : i < ds.length
  ·obtain ⟨go, yl⟩ := w1 ds[i] (List.getElem?_eq_getElem hlt)
   refine .inr ⟨go, fun acc' H3 => Same H1 H3 /\ ∃ done, Reps H3 (Uni Oc Ob) acc' done /\ acc'.length <= i + 1 /\ wantX C Oc Ob H Q (fun x => mt (cEnv ρ js x)) (fun x => me (cEnv ρ js x)) ds done (i + 1), fun acc' H' z => ⟨_, by bv_omega, rfl, hlt, z⟩, fun x H3 hy => ?_⟩
   obtain ⟨s3, rx⟩ := yl x H3 hy
   have R3 := (R2.same s3).comp (js := js) rx
   refine qt _ _ _ H3 _ _ R3 (Res.zW (zF9 w hlt) (fun b _ k H4 s4 => ?_) fun c z H' s' => z H' (((s1.trans s2).trans s3).trans s'))
   cases b with
   | false => exact iteF ⟨(s2.trans s3).trans s4, done, ra.same (s3.trans s4), by bv_omega, k⟩
   | true =>
    refine iteT (qe _ _ _ H4 _ _ (R3.same s4) (Res.zW k (fun y _ k v H5 s5 rv => ?_) fun c z H' s' => z H' ((((s1.trans s2).trans s3).trans s4).trans s')))
    have rv' : Rep H5 (Uni Oc Ob) v y := Rep.less rv fun b z => .inl z
    exact ⟨by bv_omega, ((s2.trans s3).trans s4).trans s5, done ++ [y], (ra.same ((s3.trans s4).trans s5)).append (.one rv'), by rw [List.length_append, List.length_singleton]; bv_omega, k⟩
  ·have ei : i = ds.length := by bv_omega
   subst ei
   refine .inl ⟨w2 (Nat.le_refl _), fun p hp => ?_⟩
   unfold wantX at w
   rw [List.drop_length] at w
   have w : ∀ v H', Same H H' -> VR .new Oc Ob H H' v (.list (done ++ [])) -> Q v H' := w
   rw [List.append_nil] at w
   exact w _ _ ((s1.trans s2).trans (Same.new hp)) (xF (s1.trans s2) hp ra)
 ·rw [if_neg hlen] at k
  exact k.elim
end
theorem yP4 {C : Ct} {elt iter : Expr} {ifs : List Expr} {sc0 scope : Scope} {N0 : List Str} {px pos : Pos} {xt : Str} {fs : List Str} {js : List Nat} {mi : Ev -> Res (List D)} {mt : Ev -> Res Bool} {me : Ev -> Res D} (hb : Br C) (S : CompScope sc0 scope N0 xt fs js) (h0 : C.X.env.scope = sc0) (hN0 : C.X.N = N0) (hc : C.X.calm = true)
  (hi : RIc C (.Name xt px) iter mi) (ht : ∀ A fp s₂ H xe, Br (cCX C (xt :: fs) scope A fp s₂ H xe js) -> RTs (cCX C (xt :: fs) scope A fp s₂ H xe js) ifs mt) (he : ∀ A fp s₂ H xe, Br (cCX C (xt :: fs) scope A fp s₂ H xe js) -> RE (cCX C (xt :: fs) scope A fp s₂ H xe js) .cl elt me)
  (hs : autoParam (∀ x, foldedSetIterable iter C.X.env x = pure x) xG._auto_1) (hst : autoParam (C.X.stack = C.X.env :: C.X.outer) zZ._auto_1) (hfr : autoParam (C.X.env.frame = some C.X.env.locals) zZ._auto_1) :
  RE C .new (.ListComp elt [⟨.Name xt px, iter, ifs, 0⟩] scope pos) (eCompX mi mt me js) := by
 obtain ⟨wi, pi, qi⟩ := hi
 refine ⟨_, yR8 (XE := C.XE) (tt := fun A fp s H xe br => Classical.choose (ht A fp s H xe br)) (te := fun A fp s H xe br => Classical.choose (he A fp s H xe br)) hb hst hfr S h0 hN0 hc pi (fun A fp s H xe br => (Classical.choose_spec (ht A fp s H xe br)).1) (fun A fp s H xe br => (Classical.choose_spec (he A fp s H xe br)).1) hs, fun Oc Ob σ H ρ Q R h => bL qi ht he R h⟩
theorem yQ9 {C : Ct} {fr : Bool} (i : Nat) {elt iter : Expr} {ifs : List Expr} {sc0 scope : Scope} {N0 : List Str} {px py pos spos : Pos} {xt y : Str} {fs : List Str} {js : List Nat} {mi : Ev -> Res (List D)} {mt : Ev -> Res Bool} {me : Ev -> Res D} (nd : C.X.N.Nodup) (hb : Br C) (S : CompScope sc0 scope N0 xt fs js) (h0 : C.X.env.scope = sc0) (hN0 : C.X.N = N0) (hc : C.X.calm = true)
  (hi : RIc C (.Name xt px) iter mi) (ht : ∀ A fp s₂ H xe, Br (cCX C (xt :: fs) scope A fp s₂ H xe js) -> RTs (cCX C (xt :: fs) scope A fp s₂ H xe js) ifs mt) (he : ∀ A fp s₂ H xe, Br (cCX C (xt :: fs) scope A fp s₂ H xe js) -> RE (cCX C (xt :: fs) scope A fp s₂ H xe js) .cl elt me)
  (hy : autoParam (C.X.N[i]? = some y) zZ._auto_1) (ho : autoParam (C.om.contains i = false) zZ._auto_1) (hln : autoParam (C.ln.contains i = false) zZ._auto_1) (hl : autoParam (Loc C.X.env.scope y) kG._auto_1)
  (hsw : autoParam (swapsWith (.ListComp elt [⟨.Name xt px, iter, ifs, 0⟩] scope pos) (some (.Name y py)) spos.line C.X.env = pure true) zZ._auto_1) (hs : autoParam (∀ x, foldedSetIterable iter C.X.env x = pure x) xG._auto_1) (hf : autoParam (C.X.fn y = true \/ C.X.env.scope.names.lookup y = some .local) autoK12._auto_1) (hst : autoParam (C.X.stack = C.X.env :: C.X.outer) zZ._auto_1) (hfr : autoParam (C.X.env.frame = some C.X.env.locals) zZ._auto_1) :
  RS C fr (.Assign [.Name y py] (.ListComp elt [⟨.Name xt px, iter, ifs, 0⟩] scope pos) spos) (sS i (eCompX mi mt me js)) := by
 obtain ⟨wi, pi, qi⟩ := hi
 refine ⟨_, yQ4 (XE := C.XE) (tt := fun A fp s H xe br => Classical.choose (ht A fp s H xe br)) (te := fun A fp s H xe br => Classical.choose (he A fp s H xe br)) hb hst hfr S h0 hN0 hc pi (fun A fp s H xe br => (Classical.choose_spec (ht A fp s H xe br)).1) (fun A fp s H xe br => (Classical.choose_spec (he A fp s H xe br)).1) nd hy hl hsw hs hf, fun Oc Ob σ H ρ E R h => ?_⟩
 refine bL qi ht he R (Res.zW (Res.zX h) (fun d _ k v H' s r => ?_) fun c z H' s => z H' (Same.frm s))
 exact k _ H' Ob ((R.same s).set (yW ho) (yW hln) (VR.clean r R.oh)) (Same.frm s) fun b z => .inl z
section
variable {X : Cx}
theorem zZ2 : ∀ {ts : List Str} {us : List Value}, Vals (ts.map V.str) us -> ∃ l : List (Str × Tok), us = strValues l /\ l.map (·.1) = ts
 | [], us, h => by cases h; exact ⟨[], rfl, rfl⟩
 | z :: ts, us, h => by
  cases h with
  | cons r rs =>
   obtain ⟨t, rfl⟩ := r
   obtain ⟨l, rfl, e⟩ := zZ2 rs
   exact ⟨(z, t) :: l, rfl, by rw [List.map_cons, e]⟩
theorem zW2 : ∀ l : List (Str × Tok), Vals ((l.map (·.1)).map V.str) (strValues l)
 | [] => .nil
 | (z, t) :: l => .cons ⟨t, rfl⟩ (zW2 l)
def rDig : V -> List V -> Hp -> VK -> Prop := fun x vs H Q => ∃ z, x = .str z /\ vs = [] /\ Q (.bl (Txt.isdigit z)) H
theorem zE9 : MtR X "str.isdigit" rDig := by
 rintro pins s σ H x vs v us Q I rx rv ⟨z, rfl, rfl, q⟩
 obtain ⟨t, rfl⟩ := rx
 cases rv
 exact SC.isdigit ⟨.bl _, H, I, rfl, q⟩
def rStw : V -> List V -> Hp -> VK -> Prop := fun x vs H Q => ∃ z y, x = .str z /\ vs = [.str y] /\ Q (.bl (Txt.startswith z y)) H
theorem zV2 : MtR X "str.startswith" rStw := by
 rintro pins s σ H x vs v us Q I rx rv ⟨z, y, rfl, rfl, q⟩
 obtain ⟨t, rfl⟩ := rx
 obtain ⟨u, rfl, t2, rfl⟩ := vals1 rv
 exact SC.startswith ⟨.bl _, H, I, rfl, q⟩
def rJoin (K : KFr) : V -> List V -> Hp -> VK -> Prop := fun x vs H Q => ∃ z p ts, x = .str z /\ vs = [.ref p] /\ SqL K H p (ts.map V.str) /\ JoinOk z ts = true /\ Q (.str (Txt.join z ts)) H
theorem jY : MtR X "str.join" (rJoin X.K) := by
 rintro pins s σ H x vs v us Q I rx rv ⟨z, p, ts, rfl, rfl, hq, ok, q⟩
 obtain ⟨t, rfl⟩ := rx
 obtain ⟨u, rfl, ru⟩ := vals1 rv
 cases ru
 obtain ⟨its, r, pl, _⟩ := I.list hq
 obtain ⟨l, rfl, el⟩ := zZ2 r
 exact SC.join pl.isList el ok fun t' k => ⟨.str _, H, I.tok _, ⟨_, rfl⟩, q⟩
def rSpl : V -> List V -> Hp -> VK -> Prop := fun x vs H Q => ∃ z y, x = .str z /\ vs = [.str y] /\ 1 <= y.length /\ z.length + 2 <= sizeLine /\ ∀ p, H p = none -> Q (.ref p) (upd H p (.lst ((Txt.split z y).map V.str)))
theorem uN : MtR X "str.split" rSpl := by
 rintro pins s σ H x vs v us Q I rx rv ⟨z, y, rfl, rfl, hy, hz, q⟩
 obtain ⟨t, rfl⟩ := rx
 obtain ⟨u, rfl, t2, rfl⟩ := vals1 rv
 have y0 : (y.length == 0) = false := by rw [beq_eq_false_iff_ne]; bv_omega
 have few := split_le z y
 have fin : ∀ (l : List (Str × Tok)) (k : Nat), l.map (·.1) = Txt.split z y -> EP X pins σ Q (.ref s.heap.objs.size) { s with heap := s.heap.push { cls := .type "list", data := .seq (strValues l).toArray }, toks := k } := fun l k e => by
  have V0 := zW2 l
  rw [e] at V0
  exact ⟨.ref _, _, I.lnew (t' := k) V0 (by rw [List.length_map]; bv_omega), rfl, q _ I.fresh⟩
 have one : ∀ k, Txt.split z y = [z] -> EP X pins σ Q (.ref s.heap.objs.size) { s with heap := s.heap.push { cls := .type "list", data := .seq [Value.str z t].toArray }, toks := k } := fun k e => fin [(z, t)] k (by rw [e]; rfl)
 by_cases c1 : (decide (z.length < y.length) || decide (Builtin.Str.strKind z < Builtin.Str.strKind y)) = true
 ·have e : Txt.split z y = [z] := by unfold Txt.split; rw [if_pos c1]
  exact call_meets F.slot_str_split (typeIs_str s z t) F.entry_str_split (F.args_str_split_2 _ _) (meets_str_split_cannot_occur z y t t2 c1) (one s.toks e)
 ·have c1' := Bool.not_eq_true _ ▸ c1
  by_cases c2 : (Builtin.Str.occurrences z y 0 z.length (z.length + 1)).isEmpty = true
  ·have e : Txt.split z y = [z] := by unfold Txt.split; rw [if_neg c1, if_pos c2]
   exact call_meets F.slot_str_split (typeIs_str s z t) F.entry_str_split (F.args_str_split_2 _ _) (meets_str_split_not_found z y t t2 (by simpa using c1) y0 c2) (one s.toks e)
  ·have e : Txt.split z y = Builtin.Str.partsBetween z (Builtin.Str.occurrences z y 0 z.length (z.length + 1)) y.length := by unfold Txt.split; rw [if_neg c1, if_neg c2]
   rw [e] at few
   refine call_meets F.slot_str_split (typeIs_str s z t) F.entry_str_split (F.args_str_split_2 _ _) (meets_str_split_sep z y t t2 (by simpa using c1) y0 (by simpa using c2) (by bv_omega) (by bv_omega)) ?_
   have key := fin (numbered s.toks (Txt.split z y)) (s.toks + (Builtin.Str.partsBetween z (Builtin.Str.occurrences z y 0 z.length (z.length + 1)) y.length).length) (numbered_texts _ _)
   rw [e, <- strsFrom_eq] at key
   exact key
end
def strD : D -> Option Str
 | .str z => some z
 | _ => none
theorem xH {x : D} {z : Str} (h : strD x = some z) : x = .str z := by
 cases x with
 | str y => cases h; rfl
 | _ => cases h
theorem zE (z : Str) : strD (.str z) = some z := rfl
def strsOf : List D -> Option (List Str)
 | [] => some []
 | x :: xs => (strD x).bind fun z => (strsOf xs).bind fun zs => some (z :: zs)
theorem bS : ∀ zs : List Str, strsOf (zs.map PyData.str) = some zs
 | [] => rfl
 | z :: zs => by
  show (strD (.str z)).bind _ = _
  rw [zE, Option.bind_some, bS zs]
  rfl
theorem dJ : ∀ {ds : List D} {zs : List Str}, strsOf ds = some zs -> ds = zs.map PyData.str
 | [], zs, h => by cases h; rfl
 | x :: xs, zs, h => by
  obtain ⟨z, e1, h⟩ := Option.bind_eq_some_iff.mp h
  obtain ⟨ys, e2, h⟩ := Option.bind_eq_some_iff.mp h
  cases h
  rw [xH e1, dJ e2]
  rfl
theorem zW3 {H : Hp} {O : Addr -> Prop} : ∀ {zs : List Str} {vs : List V}, Reps H O vs (zs.map PyData.str) -> vs = zs.map V.str
 | [], vs, h => by cases h; rfl
 | z :: zs, vs, h => by
  cases h with
  | cons r rs =>
   cases r
   rw [zW3 rs]
   rfl
theorem zX2 {H : Hp} {O : Addr -> Prop} : ∀ zs : List Str, Reps H O (zs.map V.str) (zs.map PyData.str)
 | [] => .nil
 | z :: zs => .cons (.str z) (zX2 zs)
def eM0S (f : Str -> Option D) (mo : Ev -> Res D) : Ev -> Res D := fun ρ => (mo ρ).bind fun x => (Res.lft (strD x)).bind fun z => Res.lft (f z)
theorem kI (f : Str -> Option D) (mo : Ev -> Res D) (ρ : Ev) : eM0S f mo ρ = (mo ρ).bind fun x => (Res.lft (strD x)).bind fun z => Res.lft (f z) := rfl
theorem zG5 {C : Ct} {o : Expr} {apos cpos : Pos} {md : Md} {mo : Ev -> Res D} (ho : RE C md o mo)
  (hbase : autoParam (attributeBase o "isdigit" C.X.env (eval o C.X.env) = eval o C.X.env) zZ._auto_1) (hline : autoParam ((apos.endLine == cpos.line) = true) zZ._auto_1) :
  RE C .cl (.Call (.Attribute o "isdigit" apos) [] [] cpos) (eM0S (fun z => some (.bool (Txt.isdigit z))) mo) := by
 obtain ⟨to, po, qo⟩ := ho
 refine ⟨_, yE2 PySem.F.plainAttrs_str PySem.F.slot_str_isdigit PySem.F.type_str_isdigit zE9 po hbase hline, fun Oc Ob σ H ρ Q R h => ?_⟩
 refine qo Oc Ob σ H ρ _ R (Res.zW (Res.zX h) (fun dx _ k x H1 s1 vx => ?_) fun _ z => z)
 obtain ⟨z, ez, k1⟩ := Res.zL (Res.zX k)
 obtain rfl := xH ez
 obtain ⟨d, ed, k2⟩ := Res.zL k1
 cases ed
 obtain rfl := (vx.va R.oh).str
 exact ⟨rfl, z, rfl, rfl, k2 _ H1 s1 (Rep.bl _)⟩
def eM1S (f : Str -> D -> Option D) (mo ma : Ev -> Res D) : Ev -> Res D := fun ρ => (mo ρ).bind fun x => (Res.lft (strD x)).bind fun z => (ma ρ).bind fun y => Res.lft (f z y)
theorem yZ (f : Str -> D -> Option D) (mo ma : Ev -> Res D) (ρ : Ev) : eM1S f mo ma ρ = (mo ρ).bind fun x => (Res.lft (strD x)).bind fun z => (ma ρ).bind fun y => Res.lft (f z y) := rfl
def Pr1S (r : V -> List V -> Hp -> VK -> Prop) (md : Md) (f : Str -> D -> Option D) : Prop :=
 ∀ (Oc : Wd) (Ob : Addr -> Prop) (H : Hp) (z : Str) (y : V) (dy d : D) (Q : VK), (∀ a, Oc a \/ Ob a -> H a ≠ none) -> VA Oc Ob H y dy -> f z dy = some d -> (∀ v H', Same H H' -> VR md Oc Ob H H' v d -> Q v H') -> r (.str z) [y] H Q
theorem yK {C : Ct} {o a : Expr} {name : Str} {id : String} {apos cpos : Pos} {md mda mdr : Md} {mo ma : Ev -> Res D} {r : V -> List V -> Hp -> VK -> Prop} {f : Str -> D -> Option D} (slot : Slot "str" name id) (hty : typeOf (.builtin id) = pure (.type "method_descriptor")) (hm : MtR C.X id r) (hp : Pr1S r mdr f) (ho : RE C md o mo) (ha : RE C mda a ma)
  (hbase : autoParam (attributeBase o name C.X.env (eval o C.X.env) = eval o C.X.env) zZ._auto_1)
  (hfew : ((backTo cpos (starEach [a] C.X.env)).all (fun x => !x.1) && (backToKw cpos (keywordEach [] C.X.env)).all (fun x => x.1.isSome)
   && decide ([a].length + ([] : List Keyword).length + (if ([] : List Keyword).isEmpty then 0 else 1) < 30)) = true := by rfl)
  (hline : autoParam ((apos.endLine == cpos.line) = true) zZ._auto_1) (hs : autoParam (starEach [a] C.X.env = (false, eval a C.X.env) :: starEach [] C.X.env) zZ._auto_1) (hplain : autoParam ((backTo cpos (starEach [] C.X.env)).any (·.1) = false) zZ._auto_1) :
  RE C mdr (.Call (.Attribute o name apos) [a] [] cpos) (eM1S f mo ma) := by
 obtain ⟨to, po, qo⟩ := ho
 obtain ⟨ta, pa, qa⟩ := ha
 refine ⟨_, zG6 PySem.F.plainAttrs_str slot hty hm po (yQ pa wP hs) hbase hfew hline hs hplain, fun Oc Ob σ H ρ Q R h => ?_⟩
 refine qo Oc Ob σ H ρ _ R (Res.zW (Res.zX h) (fun dx _ k x H1 s1 vx => ?_) fun _ z => z)
 obtain ⟨z, ez, k⟩ := Res.zL (Res.zX k)
 obtain rfl := xH ez
 obtain rfl := (vx.va R.oh).str
 refine ⟨rfl, qa Oc Ob σ H1 ρ _ (R.same s1) (Res.zW (Res.zX k) (fun dy _ k y H2 s2 vy => ?_) fun c z H' s' => z H' (s1.trans s'))⟩
 obtain ⟨d, ed, k⟩ := Res.zL k
 exact hp Oc Ob H2 z y dy d Q ((R.same s1).same s2).oh (vy.va (R.same s1).oh) ed fun v H' s3 rv => k v H' ((s1.trans s2).trans s3) (rv.from (s1.trans s2))
def stwD (z : Str) (y : D) : Option D := (strD y).map fun u => .bool (Txt.startswith z u)
theorem zW8 : Pr1S rStw .cl stwD := by
 intro Oc Ob H z y dy d Q oh vy e k
 obtain ⟨u, e1, rfl⟩ := Option.map_eq_some_iff.mp e
 obtain rfl := xH e1
 obtain rfl := vy.str
 exact ⟨z, u, rfl, rfl, k _ H (Same.refl H) (Rep.bl _)⟩
def splD (z : Str) (y : D) : Option D := (strD y).bind fun u => if 1 <= u.length /\ z.length + 2 <= sizeLine then some (.list ((Txt.split z u).map PyData.str)) else none
theorem uM : Pr1S rSpl .new splD := by
 intro Oc Ob H z y dy d Q oh vy e k
 obtain ⟨u, e1, e0⟩ := Option.bind_eq_some_iff.mp e
 obtain rfl := xH e1
 obtain rfl := vy.str
 split at e0
 ·rename_i h
  cases e0
  exact ⟨z, u, rfl, rfl, h.1, h.2, fun p hp => k _ _ (Same.new hp) (xF (Same.refl H) hp (zX2 _))⟩
 ·cases e0
def joinD (z : Str) (y : D) : Option D := (lstD y).bind fun ds => (strsOf ds).bind fun ts => if JoinOk z ts = true then some (.str (Str.join z ts)) else none
theorem qE {K : KFr} : Pr1S (rJoin K) .cl joinD := by
 intro Oc Ob H z y dy d Q oh vy e k
 obtain ⟨ds, e1, e3⟩ := Option.bind_eq_some_iff.mp e
 obtain ⟨ts, e2, e0⟩ := Option.bind_eq_some_iff.mp e3
 obtain rfl := jK e1
 obtain rfl := dJ e2
 obtain ⟨a, ys, rfl, rd, rs⟩ := vy.list
 obtain rfl := zW3 rs
 split at e0
 ·rename_i h
  cases e0
  refine ⟨z, a, ts, rfl, rfl, .inl rd, h, ?_⟩
  rw [show Txt.join z ts = Str.join z ts from StrLaws.glued_eq_join z ts]
  exact k _ H (Same.refl H) (Rep.str _)
 ·cases e0
def catS : D -> D -> Option D := fun x y => (strD x).bind fun a => (strD y).bind fun b => if a.length + b.length <= sizeLine then some (.str (a ++ b)) else none
theorem xZ : Pr2 (fun x y H Q => ∃ i j, x = .str i /\ y = .str j /\ i.length + j.length <= sizeLine /\ Q (.str (i ++ j)) H) .cl catS := by
 intro Oc Ob H x y dx dy d Q oh vx vy e k
 obtain ⟨a, e1, e3⟩ := Option.bind_eq_some_iff.mp e
 obtain ⟨b, e2, e0⟩ := Option.bind_eq_some_iff.mp e3
 obtain rfl := xH e1
 obtain rfl := xH e2
 split at e0
 ·rename_i h
  cases e0
  exact ⟨a, b, vx.str, vy.str, h, k _ H (Same.refl H) (Rep.str _)⟩
 ·cases e0
def strOfD : List D -> Option D
 | [.int i] => if i.natAbs.log2 < 1920 then some (.str (toString i)) else none
 | _ => none
theorem bZ : PrC (fun xs H Q => ∃ i, xs = [.int i] /\ i.natAbs.log2 < 1920 /\ Q (.str (toString i)) H) .cl strOfD := by
 intro Oc Ob H vs ds d Q oh r e k
 unfold strOfD at e
 split at e
 ·split at e
  ·rename_i h
   cases e
   obtain ⟨v, rfl, hv⟩ := fF r
   exact ⟨_, by rw [hv.int], h, k _ H (Same.refl H) (Rep.str _)⟩
  ·cases e
 ·cases e
theorem gR {X : Cx} : CallR X (.type "int") (fun xs H Q => ∃ z n, xs = [.str z] /\ PySem.intText? z = some n /\ z.length <= 640 /\ Q (.int n) H) := by
 rintro pins s σ H xs us Q I r ⟨z, n, rfl, e, hl, q⟩
 obtain ⟨u, rfl, t, rfl⟩ := vals1 r
 exact PySem.W.KIN.call_text e hl ⟨.int n, H, I.tok _, ⟨_, rfl⟩, q⟩
def intTD : List D -> Option D
 | [.str z] => if z.length <= 640 then (PySem.intText? z).map PyData.int else none
 | _ => none
theorem zJ3 : PrC (fun xs H Q => ∃ z n, xs = [.str z] /\ PySem.intText? z = some n /\ z.length <= 640 /\ Q (.int n) H) .cl intTD := by
 intro Oc Ob H vs ds d Q oh r e k
 unfold intTD at e
 split at e
 ·split at e
  ·rename_i h
   obtain ⟨n, en, rfl⟩ := Option.map_eq_some_iff.mp e
   obtain ⟨v, rfl, hv⟩ := fF r
   exact ⟨_, n, by rw [hv.str], en, h, k _ H (Same.refl H) (Rep.int _)⟩
  ·cases e
 ·cases e
def lenTD : List D -> Option D
 | [.str z] => if z.length <= sizeLine then some (.int z.length) else none
 | _ => none
theorem qH : PrC (fun xs H Q => ∃ z, xs = [.str z] /\ z.length <= sizeLine /\ Q (.int z.length) H) .cl lenTD := by
 intro Oc Ob H vs ds d Q oh r e k
 unfold lenTD at e
 split at e
 ·split at e
  ·rename_i h
   cases e
   obtain ⟨v, rfl, hv⟩ := fF r
   exact ⟨_, by rw [hv.str], h, k _ H (Same.refl H) (Rep.int _)⟩
  ·cases e
 ·cases e
section
variable {X : Cx}
def rSlS : V -> Option Int -> Option Int -> Hp -> VK -> Prop := fun x lo hi H Q => ∃ z, x = .str z /\ z.length <= sizeLine /\ Q (.str (Txt.slice z lo hi)) H
theorem zK1 {v : Value} {o : Option Int} (h : IsPart v o) : ∃ l : Option (Int × Tok), v = partValue l /\ l.map (·.1) = o := by
 cases h
 ·exact ⟨none, rfl, rfl⟩
 ·rename_i i t
  exact ⟨some (i, t), rfl, rfl⟩
theorem yD9 : SlR X rSlS := by
 rintro pins s σ H x v vl vu lo hi sl Q I rx hs pl pu ⟨z, rfl, hz, q⟩
 obtain ⟨t, rfl⟩ := rx
 obtain ⟨l, rfl, rfl⟩ := zK1 pl
 obtain ⟨u, rfl, rfl⟩ := zK1 pu
 refine ⟨"str", _, F.slot_str_getitem.lookup, typeIs_str _ _ _, wpAny_getItem_str_slice (l := l) (u := u) (st := none) hs rfl (post_val_or_str ⟨Nat.le_trans (Txt.slice_le z _ _) hz, fun t' k => ?_⟩)⟩
 exact ⟨.str _, H, I.tok _, ⟨_, rfl⟩, q⟩
end
def slS (x : D) (lo hi : Option Int) : Option D := (strD x).bind fun z => if z.length <= sizeLine then some (.str (Txt.slice z lo hi)) else none
theorem yD5 : PrS rSlS .cl slS := by
 intro Oc Ob H x dx lo hi d Q oh va e k
 obtain ⟨z, e1, e0⟩ := Option.bind_eq_some_iff.mp e
 obtain rfl := xH e1
 split at e0
 ·rename_i h
  cases e0
  exact ⟨z, va.str, h, k _ H (Same.refl H) (Rep.str _)⟩
 ·cases e0
theorem xM {C : Ct} {e : Expr} {lo hi : Option Expr} {mda : Md} {me : Ev -> Res D} {ml mh : Ev -> Res (Option Int)} {p2 pos : Pos} (he : RE C mda e me) (hl : RO C lo ml) (hu : RO C hi mh) : RE C .cl (.Subscript e (.Slice lo hi none p2) pos) (eS slS me ml mh) := cU yD9 yD5 he hl hu
def tFil (a b : Str) (te : TE) : TE := fun σ H Q => te σ H fun x H1 => ∃ z, x = .str z /\ a.length + z.length + b.length <= sizeLine /\ Q (.str (a ++ z ++ b)) H1
theorem yF5 {X : Cx} {a b : Str} {j1 j2 : Nat} {p1 p2 p3 pos : Pos} {e : Expr} {te : TE} (he : PE X e te) (ha : a.length <= sizeLine) : PE X (.JoinedStr [.Constant (.str a) j1 p1, .FormattedValue e (-1) none p2, .Constant (.str b) j2 p3] pos) (tFil a b te) := by
 intro pins s σ H Q I h
 refine wpAny_JoinedStr ?_
 show wpAny _ _ (eval (.Constant (.str a) j1 p1) X.env) _ _ _
 refine Calls.Constant_str ⟨a, _, rfl, by rw [Str.empty_append]; exact ha, ?_⟩
 show wpAny _ _ (eval (.FormattedValue e (-1) none p2) X.env) _ _ _
 refine wpAny_FormattedValue_plain (thn (he pins _ σ H _ (I.tok _) h) fun v s1 ⟨x, H1, I1, r1, z, ez, hz, q⟩ => ?_)
 subst ez
 obtain ⟨t, rfl⟩ := r1
 have la : (Str.empty ++ a ++ z).length <= sizeLine := by rw [Str.empty_append, Str.length_append]; bv_omega
 have lb : (Str.empty ++ a ++ z ++ b).length <= sizeLine := by rw [Str.empty_append, Str.length_append, Str.length_append]; bv_omega
 have go : ∀ (s2 : Shared), Inv X pins σ H1 s2 -> Joins (model X.prog X.w) X.A X.xe [eval (.Constant (.str b) j2 p3) X.env] (Str.empty ++ a ++ z) (fun out s₁ => out.length <= sizeLine /\ EP X pins σ Q (.str out s₁.toks) { s₁ with toks := s₁.toks + 1 }) s2 := fun s2 I2 => by
  show wpAny _ _ (eval (.Constant (.str b) j2 p3) X.env) _ _ _
  refine Calls.Constant_str ⟨b, _, rfl, lb, ?_⟩
  show (Str.empty ++ a ++ z ++ b).length <= sizeLine /\ EP X pins σ Q (.str (Str.empty ++ a ++ z ++ b) _) _
  refine ⟨lb, ?_⟩
  rw [Str.empty_append]
  exact ⟨.str _, H1, (I2.tok _).tok _, ⟨_, rfl⟩, q⟩
 exact wpAny_formatField_str ⟨z, _, rfl, la, go _ I1⟩ ⟨z, _, rfl, la, go _ (I1.tok _)⟩ (by bv_omega)
def filD (a b : Str) (x : D) : Option D := (strD x).bind fun z => if a.length + z.length + b.length <= sizeLine then some (.str (a ++ z ++ b)) else none
theorem yE6 {C : Ct} {a b : Str} {j1 j2 : Nat} {p1 p2 p3 pos : Pos} {e : Expr} {md : Md} {me : Ev -> Res D} (he : RE C md e me) (ha : autoParam (a.length <= sizeLine) zO._auto_1) : RE C .cl (.JoinedStr [.Constant (.str a) j1 p1, .FormattedValue e (-1) none p2, .Constant (.str b) j2 p3] pos) (e1 (filD a b) me) := by
 obtain ⟨te, pe, qe⟩ := he
 refine ⟨_, yF5 pe ha, fun Oc Ob σ H ρ Q R h => ?_⟩
 refine qe Oc Ob σ H ρ _ R (Res.zW (Res.zX h) (fun dx _ k x H1 s1 vx => ?_) fun _ z => z)
 obtain ⟨d, ed, k1⟩ := Res.zL k
 obtain ⟨z, e1, e0⟩ := Option.bind_eq_some_iff.mp ed
 obtain rfl := xH e1
 split at e0
 ·rename_i hl
  cases e0
  exact ⟨z, (vx.va R.oh).str, hl, k1 _ H1 s1 (Rep.str _)⟩
 ·cases e0
section
variable {X : Cx}
end
end L2.L3
namespace L2
open PySem PySem.Spec PyProof.Rows
structure ExLie (h : Heap) (C N : Addr) (bm : List Value) (newId : String) (ob : Obj) : Prop where
 obj : h.get? C = some ob
 is : ∃ (nm q : Str) (bs : List Value) (hdct : Bool) (sn : List Str) (sub : List Value) (ab : Bool) (col : Option Bool) (dd : Option Addr) (k0 k1 k2 k3 k5 : Option Value), ob = excClassObj nm q C N bs bm hdct sn sub ab col dd k0 k1 k2 k3 k5 newId
def IniBack (e : Value) (Q : Value -> Shared -> Prop) (E : Value -> Shared -> Prop) : Result -> Shared -> Prop
 | .ok (.ret v), s => v = .none /\ Q e s
 | .ok _, _ => False
 | .error x, s => E x s
theorem yU7 (h : Heap) (cls : Value) (us : List Value) : ∃ g e, g = (h.push { cls := .type "tuple", data := .seq us.toArray }).push { cls := cls, data := .fields #[.ref h.objs.size, .none, .none, .none, .bool false, .none] } /\ e = h.objs.size + 1 /\ Heap.MadeExcOf h g e cls us :=
 ⟨_, _, rfl, rfl, ⟨fun b o z => by heap_get, Heap.get?_none_of_le (by bv_omega), h.objs.size, by heap_get, Heap.get?_none_of_le (Nat.le_refl _), by heap_get⟩⟩
section
variable {prog : Program} {w : World} {A : Around} {E : Value -> Shared -> Prop} {s : Shared} {C N fI : Addr} {bm bmB : List Value} {ob oI : Obj} {B newId initId : String} {us : List Value} {K : KFr}
theorem zP2 (F : ExcBaseFacts B newId initId bmB) (T : OwnTail s.heap bmB bm) (L : ExLie s.heap C N bm newId ob) (X : K.In s.heap) (hi : PySem.W.findIn K (.ref C) "__init__" = some (some (.ref fI))) (hf : s.heap.get? fI = some oI) (hc : oI.cls = .type "function") (hz : us.length <= sizeLine) {Q : Value -> Shared -> Prop}
  (k : ∀ g e, Heap.MadeExcOf s.heap g e (.ref C) us -> codeAny (model prog w) (A.under (.builtin "type.__call__" ⟨.ref C :: us, []⟩)) (.call (.ref fI) ⟨.ref e :: us, []⟩) (IniBack (.ref e) Q E) { s with heap := g }) :
  wpAny (model prog w) A (call (.ref C) us) Q E s := by
 obtain ⟨hC, nm, q, bs, hdct, sn, sub, ab, col, dd, k0, k1, k2, k3, k5, rfl⟩ := L
 obtain ⟨h, gs, d, t, os⟩ := s
 have look := tc_lookup
 have bind := tc_bind (.ref C)
 have ty : Shared.TypeIs ⟨h, gs, d, t, os⟩ (.ref C) "type" := ⟨_, hC, rfl⟩
 refine wpAny_call (codeAny_of_tree ?_)
 show wpAny (model prog w) _ (callAny (.ref C) ⟨us, []⟩) _ _ _
 wp_walk using wpAny_loadPart_at hC
 obtain ⟨g, e, hg, ev, md⟩ := yU7 h (.ref C) us
 obtain ⟨t0, he, _, _⟩ := md.there
 have own : (Value.ref C :: bm).contains (.ref C) = true := by rw [List.contains_cons, beq_self_eq_true, Bool.true_or]
 have fn : ∀ t', Shared.TypeIs ⟨g, gs, d, t', os⟩ (.ref fI) "function" := fun _ => ⟨oI, md.keeps _ _ hf, hc⟩
 refine ⟨rfl, codeAny_call_builtin_at (Code.quiet_builtin _ (by decide +kernel)) entry_typeCall (wpAny_check_type_call_sub hC ?_)⟩
 wp_walk using wpAny_loadPart_at hC, wpAny_madeBy_exc hC
 refine codeAny_call_builtin_code (Code.quiet_builtin _ F.quiet) (wpAny_check_new_subT F T hC (codeAny_exc_new_subT F T hC ?_ hz))
 subst hg ev
 have sub : ∀ {A' : Around} {Q' : Bool -> Shared -> Prop} {E' : Value -> Shared -> Prop}, Q' true _ -> wpAny (model prog w) A' (isSubtype (.ref C) (.ref C)) Q' E' ⟨_, gs, d, t, os⟩ := fun z => wpAny_isSubtype_exc (md.keeps _ _ hC) (by rw [own]; exact z)
 have ini := PySem.W.looks_findIn (M := model prog w) (X.keeps md.keeps) hi
 show wpAny _ _ (_ >>= _) _ _ _
 unfold isInstance
 wp_walk using wpAny_loadPart_at he, sub, wpAny_typeOf (fn t), wpAny_holding
 refine sub ?_
 have go := k _ _ md
 wp_walk using wpAny_loadPart_at he, ini.at, wpAny_typeOf (fn t), wpAny_holding
 unfold bindSpecial
 wp_walk using wpAny_typeOf (fn t)
 refine codeAny_mono go fun r s' z => ?_
 match r, z with
 | .ok (.ret _), ⟨rfl, z⟩ => wp_walk; exact z
 | .error _, z => exact z
theorem yQ2 {env : Env} {x : Sem Value} {Q : Flow -> Shared -> Prop} (hb : bm.contains (.type "BaseException") = true) (hh : A.handled = none)
  (k : wpAny (model prog w) A x (fun v s' => ∃ e oe vs ob, v = .ref e /\ ExLie s'.heap C N bm newId ob /\ s'.heap.get? e = some oe /\ oe.cls = .ref C /\ oe.data = .fields vs /\ vs[1]? = some .none /\ E (.ref e) s') E s) :
  wpAny (model prog w) A (raiseStmt env (some x) none) Q E s := by
 unfold raiseStmt
 refine wpAny_bind (wpAny_mono k (fun v s' z => ?_) fun _ _ z => z)
 obtain ⟨e, ⟨cl, od, da, sl⟩, vs, ob, rfl, ⟨hC, nm, q, bs, hdct, sn, sub, ab, col, dd, k0, k1, k2, k3, k5, rfl⟩, he, z1, z2, z3, z⟩ := z
 cases z1
 cases z2
 have base : (Value.ref C :: bm).contains (.type "BaseException") = true := by rw [List.contains_cons, hb, Bool.or_true]
 have isE : ∀ {Q' : Bool -> Shared -> Prop} {E' : Value -> Shared -> Prop}, Q' true s' -> wpAny (model prog w) A (isSubtype (.ref C) (.type "BaseException")) Q' E' s' := fun y => wpAny_isSubtype_exc hC (by rw [base]; exact y)
 wp_walk using wpAny_loadPart_at he, wpAny_loadPart_at hC, isE, wpAny_field he rfl z3, wpAny_raiseNew_none hh
 exact z
end
end L2
namespace L2.L3
open PySem PySem.Spec PyProof.Rows
variable [CN]
def catZ (acc : Str) (zs : List Str) : Str := zs.foldl (fun a b => a ++ b) acc
abbrev TJ := St -> Hp -> (List Str -> Hp -> Prop) -> Prop
def PJs (X : Cx) (n : Nat) (es : List Expr) (t : TJ) : Prop :=
 ∀ (pins : List (Addr × Obj)) (s : Shared) (σ : St) (H : Hp) (acc : Str) (K : Str -> Hp -> Prop), Inv X pins σ H s -> acc.length <= n * 1000000 -> t σ H (fun zs H' => K (catZ acc zs) H') ->
  Joins (model X.prog X.w) X.A X.xe (evalEach es X.env) acc (fun out s₁ => out.length <= sizeLine /\ ∃ H', Inv X pins σ H' s₁ /\ K out H') s
theorem line16 : 16 * 1000000 <= sizeLine := by decide
section
variable {X : Cx} {n : Nat} {es : List Expr} {t : TJ}
theorem yV4 (hn : n <= 16) : PJs X n [] (fun _ H Q => Q [] H) := by
 intro pins s σ H acc K I hl h
 have := line16
 have := Nat.mul_le_mul_right 1000000 hn
 exact ⟨by bv_omega, H, I, h⟩
theorem hR {a : Str} {j : Nat} {p : Pos} (ha : a.length <= 1000) (hn : n + 1 <= 16) (h : PJs X (n + 1) es t) : PJs X n (.Constant (.str a) j p :: es) (fun σ H Q => t σ H fun zs H' => Q (a :: zs) H') := by
 intro pins s σ H acc K I hl hk
 have := line16
 have := Nat.mul_le_mul_right 1000000 hn
 show wpAny _ _ (eval (.Constant (.str a) j p) X.env) _ _ _
 refine Calls.Constant_str ⟨a, _, rfl, by rw [Str.length_append]; bv_omega, ?_⟩
 exact h pins _ σ H (acc ++ a) K (I.tok _) (by rw [Str.length_append]; bv_omega) hk
theorem zD6 {e : Expr} {te : TE} {p : Pos} (he : PE X e te) (hn : n + 1 <= 16) (h : PJs X (n + 1) es t) : PJs X n (.FormattedValue e (-1) none p :: es) (fun σ H Q => te σ H fun x H1 => ∃ i, x = .int i /\ i.natAbs.log2 < 1920 /\ (toString i : Str).length <= 1000000 /\ t σ H1 fun zs H' => Q ((toString i : Str) :: zs) H') := by
 intro pins s σ H acc K I hl hk
 have := line16
 have := Nat.mul_le_mul_right 1000000 hn
 show wpAny _ _ (eval (.FormattedValue e (-1) none p) X.env) _ _ _
 refine wpAny_FormattedValue_plain (thn (he pins _ σ H _ I hk) fun v s1 ⟨x, H1, I1, r1, i, ei, hd, hz, q⟩ => ?_)
 subst ei
 obtain ⟨u, rfl⟩ := r1
 refine wpAny_formatField_int hd ⟨_, _, rfl, by rw [Str.length_append]; bv_omega, ?_⟩
 exact h pins _ σ H1 (acc ++ (toString i : Str)) K (I1.tok _) (by rw [Str.length_append]; bv_omega) q
theorem zY7 {v1 v2 : Expr} {pos : Pos} (h : PJs X 0 (v1 :: v2 :: es) t) : PE X (.JoinedStr (v1 :: v2 :: es) pos) (fun σ H Q => t σ H fun zs H' => Q (.str (catZ Str.empty zs)) H') := by
 intro pins s σ H Q I hk
 refine wpAny_JoinedStr ?_
 have key := h pins s σ H Str.empty (fun out H' => Q (.str out) H') I (Nat.zero_le _) hk
 have mono : ∀ (parts : List (Sem Value)) (acc : Str) (Q1 Q2 : Str -> Shared -> Prop) (s : Shared), (∀ o s, Q1 o s -> Q2 o s) -> Joins (model X.prog X.w) X.A X.xe parts acc Q1 s -> Joins (model X.prog X.w) X.A X.xe parts acc Q2 s := fun parts => by
  induction parts with
  | nil => exact fun acc Q1 Q2 s h k => h _ _ k
  | cons p ps ih => exact fun acc Q1 Q2 s h k => wpAny_mono k (fun v s1 ⟨y, u, e, l, j⟩ => ⟨y, u, e, l, ih _ _ _ _ h j⟩) fun _ _ z => z
 refine mono _ _ _ _ _ (fun o s1 ⟨l, H', I', k⟩ => ⟨l, .str o, H', I'.tok _, ⟨_, rfl⟩, k⟩) key
end
def fI : D -> Option Str
 | .int i => if i.natAbs.log2 < 1920 /\ (toString i : Str).length <= 1000000 then some (toString i) else none
 | _ => none
section
variable {C : Ct} {n : Nat} {es : List Expr} {ms : Ev -> Res (List Str)}
end
section
omit [CN]
def iniP (e C : Addr) : Heap -> Prop := fun h => ∃ (t : Addr), h.get? e = some { cls := .ref C, dict := none, data := .fields #[.ref t, .none, .none, .none, .bool false, .none] }
theorem aO {P : Program} {w : World} {H : Hp} {h : Heap} {e C : Addr} (p : iniP e C h) : ObjOk P w H h e (.ext (iniP e C)) :=
 ⟨p, let ⟨_, q⟩ := p; ⟨_, q⟩, fun _ _ ⟨t, q⟩ k => ⟨t, k _ q⟩⟩
def iniE (e C d : Addr) : Heap -> Prop := fun h => ∃ (t : Addr), h.get? e = some { cls := .ref C, dict := some d, data := .fields #[.ref t, .none, .none, .none, .bool false, .none] }
theorem yR9 {P : Program} {w : World} {H : Hp} {h : Heap} {e C d : Addr} (p : iniE e C d h) : ObjOk P w H h e (.ext (iniE e C d)) :=
 ⟨p, let ⟨_, q⟩ := p; ⟨_, q⟩, fun _ _ ⟨t, q⟩ k => ⟨t, k _ q⟩⟩
end
def ExIn (K : KFr) (C : Addr) (bmB : List Value) (newId : String) : Prop :=
 ∃ (N : Addr) (bm : List Value) (nm q : Str) (bs : List Value) (hdct : Bool) (sn : List Str) (sub : List Value) (ab : Bool) (col : Option Bool) (dd : Option Addr) (k0 k1 k2 k3 k5 : Option Value),
  K.lookup C = some (excClassObj nm q C N bs bm hdct sn sub ab col dd k0 k1 k2 k3 k5 newId) /\ PySem.W.tailIn K bmB bm = true
theorem ExIn.lie {K : KFr} {C : Addr} {bmB : List Value} {newId : String} (x : ExIn K C bmB newId) {h : Heap} (X : K.In h) : ∃ N bm ob, ExLie h C N bm newId ob /\ OwnTail h bmB bm := by
 obtain ⟨N, bm, nm, q, bs, hdct, sn, sub, ab, col, dd, k0, k1, k2, k3, k5, lk, tl⟩ := x
 exact ⟨N, bm, _, ⟨X _ _ lk, nm, q, bs, hdct, sn, sub, ab, col, dd, k0, k1, k2, k3, k5, rfl⟩, PySem.W.tail_of_in X tl⟩
theorem _root_.L2.ExLie.keeps {h h' : Heap} {C N : Addr} {bm : List Value} {newId : String} {ob : Obj} (L : ExLie h C N bm newId ob) (k : ∀ b o, h.get? b = some o -> h'.get? b = some o) : ExLie h' C N bm newId ob := ⟨k _ _ L.obj, L.is⟩
structure BaseIni (K : KFr) (CB : Addr) : Prop where
 get : PySem.W.specialIn K (.ref CB) "__getattribute__" = some (some (.builtin "type.__getattribute__"))
 reads : PySem.W.readsIn K CB (.type "type") = true
 find : PySem.W.findCls K (.ref CB) (.type "type") "__init__" = some (.val (.builtin "ValueError.__init__"))
def tBI (K : KFr) (t : TA) : TE := fun σ H Q => t σ H fun vs H1 => ∃ e C m, vs = [.ref e, .str m] /\ ExIn K C bmV "ValueError.__new__" /\ H1 e = some (.ext (iniP e C)) /\ Q .non H1
theorem dG {X : Cx} {x : Str} {CB : Addr} {np apos pos : Pos} {e : Expr} {es : List Expr} {t : TA} {pl : Sem Bool} (hg : Gl X x) (hm : X.mg x = some (.ref CB)) (hb : BaseIni X.K CB) (ha : PA X (e :: es) t) (hdb : autoParam ((x == ("__debug__" : Str)) = false) zO._auto_1)
  (hst : autoParam (starEach (e :: es) X.env = (false, eval e X.env) :: starEach es X.env) zZ._auto_1) (hpl : autoParam ((backTo pos (starEach es X.env)).any (·.1) = false) zZ._auto_1)
  (ht : eval (.Call (.Attribute (.Name x np) "__init__" apos) (e :: es) [] pos) X.env = (do
   let ov <- eval (.Name x np) X.env
   standAt apos.atName
   let (f, first) <- holding [ov] (getMethod ov "__init__" pl)
   callWith pos f first (backTo pos (starEach (e :: es) X.env)) (backToKw pos (keywordEach [] X.env))) := by rfl) :
  PE X (.Call (.Attribute (.Name x np) "__init__" apos) (e :: es) [] pos) (tBI X.K t) := by
 intro pins s σ H Q I h
 refine PySem.W.methodCall_KW (pl := pl) (vV I hg hm ?_ hdb) ht
 refine PySem.W.method_cls I.kIn hb.get (PySem.W.cls_value I.kIn hb.reads hb.find rfl ?_)
 have I0 := I.tok (s.toks + 1)
 refine PyProof.Rows.callWith_builtin1 (thn (ha pos pins _ σ H _ I0 h) fun us s1 ⟨vs, H1, I1, r1, e, C, m, ev, hc, hH, q⟩ => ?_) hst hpl
 subst ev
 cases r1 with
 | cons ra r1 => cases r1 with
  | cons rb r1 => cases r1 with
   | nil =>
    obtain rfl := ra
    obtain ⟨tk, rfl⟩ := rb
    obtain ⟨N, tl, _, ⟨hC, nm, qn, bs, hd, sn, sb, ab, co, dd, k0, k1, k2, k3, k5, rfl⟩, T⟩ := hc.lie I1.kIn
    obtain ⟨⟨t0, he⟩, _, _⟩ := I1.hok e _ hH
    obtain ⟨hh, g, d, t1, os⟩ := s1
    refine wpAny_call (codeAny_call_builtin PySem.F.excBase_ValueError.init.plain PySem.F.excBase_ValueError.initEntry (wpAny_check_init_subT PySem.F.excBase_ValueError T hC he rfl ?_))
    wp_walk
    have up : upd H1 e (.ext (iniP e C)) = H1 := funext fun b => by
     by_cases hb : b = e
     ·subst hb; rw [zJ, hH]
     ·rw [zM hb]
    have new : ((hh.push { cls := .type "tuple", data := .seq #[Value.str m tk] }).update e (Obj.mapFields fun x => x.setIfInBounds 0 (.ref hh.objs.size))).get? e = some { cls := .ref C, dict := none, data := .fields #[.ref hh.objs.size, .none, .none, .none, .bool false, .none] } :=
     Heap.get?_update_self _ (Heap.get?_push_of_some _ he) rfl
    have I2 := Inv.write (x := e) (e := e) (o := .ext (iniP e C)) (t' := t1) (h' := (hh.push { cls := .type "tuple", data := .seq #[Value.str m tk] }).update e (Obj.mapFields fun x => x.setIfInBounds 0 (.ref hh.objs.size))) I1 (by rw [hH]; exact trivial) (.inl rfl)
     (fun b u nb hb => by rw [Heap.get?_update_other _ _ (Ne.symm nb)]; exact Heap.get?_push_of_some _ hb) ⟨_, new⟩ (aO ⟨_, new⟩)
    rw [up] at I2
    exact ⟨.non, H1, I2, rfl, q⟩
def spIni (C : Addr) : Sp := fun vs H Q _ => ∃ e r, vs = [.ref e, .int r] /\ (0 <= r /\ r < 16) /\ H e = some (.ext (iniP e C)) /\ ∀ d, H d = none -> Q .non (upd (upd H e (.ext (iniE e C d))) d (.ext (Row d r)))
theorem jH {n : Nat} (h : n < 128) : ((n : Int)).natAbs.log2 < 1920 /\ (toString (n : Int) : Str).length <= 1000000 := by
 have : ∀ n, n < 128 -> (((n : Nat) : Int)).natAbs.log2 < 1920 /\ (toString ((n : Nat) : Int) : Str).length <= 1000000 := by decide +kernel
 exact this n h
theorem zI2 {X : Cx} {pins : List (Addr × Obj)} {σ : St} {H H' : Hp} {s s' : Shared} {c : Str} {h' : Heap} {e C d : Addr} {r : Int} {args : List Value} {o : HO} (I : Inv X pins σ H s) (hA : CN.ad c = C) (hro : ∀ n, rowOf c = some n -> (n : Int) = r) (m : Heap.MadeExcOf s.heap h' e (.ref C) args) (nd : upd H e o d = none) (eH : H' = upd (upd H e (.ext (iniE e C d))) d (.ext (Row d r)))
  (os : s'.os = s.os) (bare : AllBare s'.gens) (un : Un (frs X.stack) [] (upd H e o) H' h' s'.heap) (hok : HOk X.prog X.w H' s'.heap) : ExcAt X c H (.ref e) s' := by
 subst eH hA
 have de : d ≠ e := fun z => by rw [z, zJ] at nd; cases nd
 have nd2 : H d = none := by rw [zM de] at nd; exact nd
 have nd3 : h'.get? d = none := kR fun ob q => by
  have z := un.free d ob q nd (by simp)
  rw [zJ] at z
  cases z
 have nd4 : s.heap.get? d = none := kR fun ob q => by rw [m.keeps d ob q] at nd3; cases nd3
 have n : H e = none := by
  cases q : H e with
  | none => rfl
  | some o =>
   obtain ⟨u, z⟩ := wD (I.hok e o q)
   rw [m.new] at z
   cases z
 have ne : ∀ b ob, s.heap.get? b = some ob -> b ≠ e := fun b ob q z => by subst z; rw [m.new] at q; cases q
 have neH : ∀ b u, H b = some u -> b ≠ e := fun b u q z => by subst z; rw [n] at q; cases q
 have neD : ∀ b u, H b = some u -> b ≠ d := fun b u q z => by subst z; rw [nd2] at q; cases q
 obtain ⟨⟨t0, he⟩, _, _⟩ := hok e _ ((zM (Ne.symm de)).trans zJ)
 obtain ⟨row, _, _⟩ := hok d _ zJ
 have hok2 : HOk X.prog X.w H s'.heap := fun b u q => by
  have q' : upd (upd H e (.ext (iniE e (CN.ad c) d))) d (.ext (Row d r)) b = some u := by rw [zM (neD b u q), zM (neH b u q)]; exact q
  refine (hok b u q').stay (fun _ _ _ z => z) (fun b' z => ?_) fun b' xs z => ?_
  ·by_cases hd : b' = d
   ·subst hd; rw [zJ] at z; cases z
   ·rw [zM hd] at z
    by_cases hb : b' = e
    ·subst hb; rw [zJ] at z; cases z
    ·rw [zM hb] at z; exact z
  ·by_cases hd : b' = d
   ·subst hd; rw [zJ] at z; cases z
   ·rw [zM hd] at z
    by_cases hb : b' = e
    ·subst hb; rw [zJ] at z; cases z
    ·rw [zM hb] at z; exact z
 have up : ∀ {o' : HO} b, b ≠ e -> upd H e o' b = H b := fun b hb => zM hb
 have un2 : Un (frs X.stack) [] H H s.heap s'.heap := by
  refine ⟨fun b ob q z hb hx => ?_, fun b ob q z hb hx => ?_, fun b ob q z hx => z, fun b ob q hx => ?_, fun _ _ z => z, fun _ _ _ z => z, fun b ps z => ⟨#[], by simpa using z⟩⟩
  ·exact un.keep b ob (m.keeps b ob q) (by rw [up b (ne b ob q)]; exact z) hb hx
  ·exact un.slot b ob (m.keeps b ob q) (by rw [up b (ne b ob q)]; exact z) hb hx
  ·exact un.there b ob (m.keeps b ob q) hx
 have I6 := I.call' (s' := s') os un2 hok2 bare (fun b z => by cases z)
 have nfr : d ∉ e :: frs X.stack := fun z => by
  rcases List.mem_cons.mp z with z | z
  ·exact de z
  ·obtain ⟨_, ob, q, _⟩ := (PySem.W.funFrames_hide (as := frs X.stack) I.stack fun env he a ha => List.mem_filterMap.mpr ⟨env, he, ha⟩).mem (b := d) z
   rw [nd4] at q
   cases q
 refine ⟨pins, σ, s, H, e, PySem.W.hideAll s'.heap (e :: frs X.stack), .ref t0, I, I6, un2, rfl, m.new, n, fun b o q => PySem.W.of_hideAll _ q, PySem.W.hideAll_none _ (.head _), PySem.W.funFrames_hide I6.stack fun env he a ha => List.mem_cons_of_mem _ (List.mem_filterMap.mpr ⟨env, he, ha⟩), .inr ⟨_, _, he, rfl, rfl, rfl, rfl⟩, ⟨_, _, _, he, rfl, rfl, fun _ => rfl, fun n hn => ⟨d, rfl, (hro n hn).symm ▸ row.keeps fun ob q => PySem.W.hideAll_get _ q nfr, nd2, nd4⟩⟩, fun b o q nb z => PySem.W.hideAll_get _ q fun hb => ?_⟩
 rcases List.mem_cons.mp hb with rfl | hb
 ·rcases z with z | z
  ·exact z m.new
  ·exact z n
 ·exact nb hb
def sRaI (nm : Int -> Str) (m : Ev -> Res (List D)) : Ev -> Res Out := fun ρ => (m ρ).bind fun ds => match ds with
 | [.int r] => if 0 <= r /\ r < 16 then .ex (nm r) else .no
 | _ => .no
theorem zZ4 {C : Ct} {fr : Bool} {x : Str} {np cpos pos : Pos} {e : Expr} {ms : Ev -> Res (List D)} {fI : Addr} {fd : FuncData} {k : Nat} (nm : Int -> Str) (hn : ∀ r : Int, 0 <= r /\ r < 16 -> CN.ad (nm r) = CN.ad x /\ ∀ n, rowOf (nm r) = some n -> (n : Int) = r) (hb : Br C) (ho : ExIn C.X.K (CN.ad x) bmV "ValueError.__new__") (hi : PySem.W.findIn C.X.K (.ref (CN.ad x)) "__init__" = some (some (.ref fI))) (hf : PySem.W.isFn C.X.K (.ref fI) = true) (hk : PySem.W.keepIn C.X.K (.ref (CN.ad x)) = true) (hm : C.X.mg x = some (.ref (CN.ad x)))
  (F : FnOk C.X.prog C.X.w C.X.K C.X.mg C.X.base CX0 k fI fd ["self", "row"] (spIni (CN.ad x))) (hbd : Binds C.X.K fd ["self", "row"] []) (hr : Room (k + 1) C.X.A)
  (ha : RArg C false [e] ms) (hex : autoParam (C.X.ex = []) zZ._auto_1) (hc : autoParam (C.X.calm = true) zZ._auto_1) (hg : autoParam (Gl C.X x) zZ._auto_1) (hdb : autoParam ((x == ("__debug__" : Str)) = false) zO._auto_1)
  (he : autoParam (starEach [e] C.X.env = (false, eval e C.X.env) :: starEach [] C.X.env) zZ._auto_1) (hpl : autoParam ((backTo cpos (starEach [] C.X.env)).any (·.1) = false) zZ._auto_1) :
  RS C fr (.Raise (some (.Call (.Name x np) [e] [] cpos)) none pos) (sRaI nm ms) := by
 obtain ⟨t, pa, q⟩ := ha
 refine ⟨fun _ σ H => t σ H fun vs H1 => ∃ r, vs = [.int r] /\ (0 <= r /\ r < 16) /\ C.XE (nm r) H1, fun pins s σ H D I h => ?_, fun Oc Ob σ H ρ E R h => q Oc Ob σ H ρ _ R (Res.zW (Res.zX h) (fun ds _ k vs H' s r => ?_) fun c z H' s => z H' (Same.frm s))⟩
 ·obtain ⟨N, bm, ob, L, T⟩ := ho.lie I.mod.kin
  have ty := beq_iff_eq.mp hf
  obtain ⟨oI, lk, fc⟩ := Option.map_eq_some_iff.mp (show (C.X.K.lookup fI).map (·.cls) = some (.type "function") from ty)
  rw [arm_exec_Raise]
  refine wpAny_bind (wpAny_standAt (yQ2 (C := CN.ad x) (N := N) (bm := bm) (newId := "ValueError.__new__") (T.hasType PySem.F.excBase_ValueError.hasBase) (I.ok.hd hc) ?_))
  refine wpAny_bind (wpAny_mono (Q := fun v s' => ∃ e oe vs ob, v = .ref e /\ ExLie s'.heap (CN.ad x) N bm "ValueError.__new__" ob /\ s'.heap.get? e = some oe /\ oe.cls = .ref (CN.ad x) /\ oe.data = .fields vs /\ vs[1]? = some .none /\ C.X.xe (.ref e) s') ?_ (fun v s' z => wpAny_bind (wpAny_standAt (wpAny_pure z))) fun _ _ z => z)
  refine wpAny_Call_Name_kw (vV I hg hm ?_ hdb)
  refine PySem.W.callWith_K (h₀ := C.X.base) I.ok.mod.kin hk (thn (pa cpos pins s σ H _ I h) fun us s2 ⟨vs, H2, I2, r, rr, ev, hb1, z⟩ => ⟨I2.kIn, ?_⟩) he hpl
  subst ev
  cases r with
  | cons ra r => cases r with
   | nil =>
    obtain ⟨tk, rfl⟩ := ra
    refine zP2 PySem.F.excBase_ValueError (T.keeps I2.bk) (L.keeps I2.bk) I2.kIn hi (I2.kIn _ _ lk) fc (by show 1 <= sizeLine; decide) fun h' a m => ?_
    obtain ⟨t0, he0, _, _⟩ := m.there
    have n : H2 a = none := by
     cases q : H2 a with
     | none => rfl
     | some o =>
      obtain ⟨u, z⟩ := wD (I2.hok a o q)
      rw [m.new] at z
      cases z
    have gone : ∀ b ob, s2.heap.get? b = some ob -> b ≠ a := fun b ob q z => by subst z; rw [m.new] at q; cases q
    have I3 : Inv C.X pins σ H2 { s2 with heap := h', toks := s2.toks } := I2.kept m.keeps
    have I4 : Inv C.X pins σ (upd H2 a (.ext (iniP a (CN.ad x)))) { s2 with heap := h', toks := s2.toks } := by
     refine I3.track n ?_ ?_ (fun y z q => ?_) (fun p hp => ?_) (aO ⟨t0, he0⟩)
     ·cases q : C.X.s₀.heap.get? a with
      | none => rfl
      | some o =>
       obtain ⟨o', q'⟩ := I2.base.there a o q (by rw [hex]; simp)
       rw [m.new] at q'
       cases q'
     ·obtain ⟨mm, ⟨o, _, _, q, _⟩, _⟩ := I2.loc
      exact Ne.symm (gone _ o q)
     ·obtain ⟨v, o, q', _⟩ := I2.cell y z q
      exact gone _ o q'
     ·exact gone _ _ (I2.pin p hp).1
    have r2 : Vals [V.ref a, V.int rr] [Value.ref a, Value.int rr tk] := .cons rfl (.cons ⟨tk, rfl⟩ .nil)
    refine codeAny_mono (F.run _ C.X.stack _ _ ⟨[Value.ref a, Value.int rr tk], []⟩ [Value.ref a, Value.int rr tk] _ (fun v H' => v = .non /\ ∃ d, upd H2 a (.ext (iniP a (CN.ad x))) d = none /\ H' = upd (upd (upd H2 a (.ext (iniP a (CN.ad x)))) a (.ext (iniE a (CN.ad x) d))) d (.ext (Row d rr))) E0 (hr.make (CN.ad x) [Value.int rr tk] []) (I4.env0.make (CN.ad x) [Value.int rr tk] []) (hbd _ [Value.ref a, Value.int rr tk] I4.kIn rfl) r2 ⟨a, rr, rfl, hb1, zJ, fun d z => ⟨rfl, d, z, rfl⟩⟩) fun res s' hq' => ?_
    cases res with
    | error ee => exact hq'.elim
    | ok fl =>
     cases fl with
     | ret u =>
      obtain ⟨v, H', os', bare, un, hok, rv, rfl, d, nd, eH⟩ := hq'
      rw [zK4] at eH
      have ex := zI2 I2 (hn rr hb1).1 (hn rr hb1).2 m nd eH os' bare un hok
      have da : a ≠ d := fun z => by rw [<- z, zJ] at nd; cases nd
      obtain ⟨⟨t1, he1⟩, _, _⟩ := hok a _ (by rw [eH]; exact (zM da).trans zJ)
      obtain ⟨_, _, _, _, _, _, _, _, I6, _⟩ := id ex
      exact ⟨rv, a, _, _, ob, rfl, L.keeps I6.bk, he1, rfl, rfl, rfl, hb _ H2 _ _ ex z⟩
     | next => exact hq'.elim
     | brk => exact hq'.elim
     | cont => exact hq'.elim
 ·match ds, k, r with
  | [.int i], k, r =>
   cases r with
   | cons r0 r => cases r with
    | nil =>
     by_cases c : 0 <= i /\ i < 16
     ·have k : Res.post (if 0 <= i /\ i < 16 then (Res.ex (nm i) : Res Out) else .no) _ _ := k
      rw [if_pos c] at k
      exact ⟨i, by rw [r0.int], c, k H' (Same.frm s)⟩
     ·have k : Res.post (if 0 <= i /\ i < 16 then (Res.ex (nm i) : Res Out) else .no) _ _ := k
      rw [if_neg c] at k
      exact k.elim
  | [], k, r => exact k.elim
end L2.L3
namespace L2.L3
open PySem PySem.Spec PyProof.Rows
theorem zV1 : entryFor table "proto.unchain" = some Builtin.«proto.unchain» := entryFor_of_tree (by kernel_rfl)
section
variable {prog : Program} {w : World} {A : Around} {E : Value -> Shared -> Prop} {s : Shared}
abbrev KpN (e : Addr) (h : Heap) : Prop := KpX (fun _ v => v = .none) e h
theorem zM5 {α : Type} {Q : α -> Shared -> Prop} {a h0 : Addr} {oe : Obj} {vs : Array Value} (hh : A.handled = some (.ref h0)) (ne : h0 ≠ a) (kp : KpN h0 s.heap) (he : s.heap.get? a = some oe) (hd : oe.data = .fields vs) (hs : 2 < vs.size)
  (hE : E (.ref a) { s with heap := s.heap.update a (Obj.mapFields (·.setIfInBounds 2 (.ref h0))) }) : wpAny (model prog w) A (raiseNew (.ref a) : Sem α) Q E s := by
 obtain ⟨oh, us, v0, q1, q2, q3, rfl⟩ := kp
 unfold raiseNew
 refine wpAny_bind (wpAny_handled ?_)
 rw [hh]
 have nb : (Value.ref h0 != Value.ref a) = true := by simpa using ne
 simp only [nb, if_true]
 refine wpAny_bind (wpAny_holding (runValue_entry zV1 ?_))
 unfold Builtin.«proto.unchain»
 refine wpAny_bind (wpAny_field q1 q2 q3 ?_)
 rw [if_pos (by decide)]
 refine wpAny_bind (wpAny_pure (wpAny_pure ⟨.none, rfl, ?_⟩))
 refine wpAny_bind ?_
 show wpAny _ _ (setField (.ref a) 2 (.ref h0)) _ _ _
 exact wpAny_setField he hd hs (wpAny_throw hE)
def fromF (t h0 : Addr) : Array Value := #[.ref t, .none, .ref h0, .none, .bool true, .none]
theorem zH7 {env : Env} {C N h0 : Addr} {bm : List Value} {newId : String} {x c : Sem Value} {Q : Flow -> Shared -> Prop} (hb : bm.contains (.type "BaseException") = true) (hh : A.handled = some (.ref h0))
  (k : wpAny (model prog w) A x (fun v s' => ∃ e od t ob, v = .ref e /\ ExLie s'.heap C N bm newId ob /\ s'.heap.get? e = some { cls := .ref C, dict := od, data := .fields #[.ref t, .none, .none, .none, .bool false, .none] } /\ h0 ≠ e /\ e ≠ C /\ KpN h0 s'.heap /\
   wpAny (model prog w) A c (fun cv s₂ => cv = .none /\ s₂ = s') E s' /\ ∀ g, g.get? e = some { cls := .ref C, dict := od, data := .fields (fromF t h0) } -> (∀ b, b ≠ e -> g.get? b = s'.heap.get? b) -> E (.ref e) { s' with heap := g }) E s) :
  wpAny (model prog w) A (raiseStmt env (some x) (some c)) Q E s := by
 unfold raiseStmt
 refine wpAny_bind (wpAny_mono k (fun v s' z => ?_) fun _ _ z => z)
 obtain ⟨e, od, t, ob, rfl, ⟨hC, nm, q, bs, hdct, sn, sub, ab, col, dd, k0, k1, k2, k3, k5, rfl⟩, he, n1, n2, kp, kc, z⟩ := z
 have base : (Value.ref C :: bm).contains (.type "BaseException") = true := by rw [List.contains_cons, hb, Bool.or_true]
 have isE : ∀ {Q' : Bool -> Shared -> Prop} {E' : Value -> Shared -> Prop}, Q' true s' -> wpAny (model prog w) A (isSubtype (.ref C) (.type "BaseException")) Q' E' s' := fun y => wpAny_isSubtype_exc hC (by rw [base]; exact y)
 refine wpAny_bind (wpAny_holding (wpAny_mono kc (fun cv s₂ y => ?_) fun _ _ y => y))
 obtain ⟨rfl, rfl⟩ := y
 have f3 : (s₂.heap.update e (Obj.mapFields (·.setIfInBounds 3 .none))).get? e = some { cls := .ref C, dict := od, data := .fields #[.ref t, .none, .none, .none, .bool false, .none] } := Heap.get?_update_self _ he rfl
 have f4 : ((s₂.heap.update e (Obj.mapFields (·.setIfInBounds 3 .none))).update e (Obj.mapFields (·.setIfInBounds 4 (.bool true)))).get? e = some { cls := .ref C, dict := od, data := .fields #[.ref t, .none, .none, .none, .bool true, .none] } := Heap.get?_update_self _ f3 rfl
 have ot : ∀ b, b ≠ e -> ((s₂.heap.update e (Obj.mapFields (·.setIfInBounds 3 .none))).update e (Obj.mapFields (·.setIfInBounds 4 (.bool true)))).get? b = s₂.heap.get? b := fun b y => by
  rw [Heap.get?_update_other _ _ (Ne.symm y), Heap.get?_update_other _ _ (Ne.symm y)]
 have c4 := (ot C (Ne.symm n2)).trans hC
 wp_walk using wpAny_loadPart_at he, wpAny_loadPart_at hC, isE, wpAny_loadPart_at f4, wpAny_loadPart_at c4
 exact zM5 hh n1 (kp.same (ot h0 n1)) f4 rfl (show 2 < 6 by decide) (z _ (Heap.get?_update_self _ f4 rfl) fun b y => (Heap.get?_update_other _ _ (Ne.symm y)).trans (ot b y))
end
end L2.L3
namespace L2
open PySem PySem.Spec PyProof.Rows L2.L3
def RunM (P : Program) (w : World) (K : KFr) (mg : Str -> Option Value) (base : Heap) (k : Nat) (f : Addr) (fd : FuncData) (ps : List Str) (sp : Sp) : Prop :=
 ∀ (A : Around) (m : Value) (outer : List Env) (s : Shared) (H : Hp) (args : Args) (us : List Value) (vs : List V) (Q : VK) (E : XK), Room k A -> Env0 P w K mg base A outer s H -> BindsTo s fd args (ps.zip us) -> Vals vs us -> sp vs H Q E ->
  codeAny (model P w) (A.mark (some m)) (.call (.ref f) args) (CR CX0 outer P w H s Q E) s
theorem yD1 {P : Program} {w : World} {K : KFr} {mg : Str -> Option Value} {base : Heap} {k : Nat} {f : Addr} {name qual : Str} {params : Arguments} {body : List Stmt} {scope : Scope} {dV kV doc pm cdv ct oc : Value} {an od : Option Addr}
  {osl : Array (Option Value)} {N ps : List Str} {sp : Sp} (lk : K.lookup f = some ⟨oc, od, .func (PySem.W.fnOf name qual params body scope dV kV doc pm an cdv ct), osl⟩) (hcd : PySem.W.codeIn K cdv qual = true) (S : zF N ps scope)
  (len : ∀ vs H Q E, sp vs H Q E -> vs.length = ps.length)
  (hbody : ∀ (m : Value) (A : Around) (outer : List Env) (s : Shared) (H : Hp) (vs : List V) (Q : VK) (E : XK), sp vs H Q E ->
   ∃ t, PSs (inSuite (cxOf CX0 P w K mg base N qual scope f cdv A outer s H E) m) body t /\ t { nx := fun _ H' => Q .non H', rt := Q } (start N vs) H) :
  RunM P w K mg base (k + 1) f (PySem.W.fnOf name qual params body scope dV kV doc pm an cdv ct) ps sp := by
 intro A m outer s H args us vs Q E hr e0 hb r hsp
 have hl := len _ _ _ _ hsp
 have KX : K.In s.heap := e0.mod.kin.keeps fun b o e => (e0.bs b o e).1
 have lim : s.heap.NoLimit := e0.mod.nolimit.keeps fun b o e => (e0.bs b o e).1
 have hkind : ∀ y ∈ ps.zip us, scope.names.lookup y.1 = some .local \/ (scope.names.lookup y.1 = some .cell /\ ((cellsFrom (s.heap.objs.size + 1) scope.names []).lookup y.1).isSome = true) := fun ⟨n, v⟩ hy => by
  rcases S.par n (List.of_mem_zip hy).1 with q | q
  ·exact .inl q
  ·exact .inr ⟨q, PySem.W.cellsFrom_some _ _ _ (.inl q)⟩
 refine codeAny_call_function (A := A.mark (some m)) hr.depth (KX _ _ lk) rfl S.co S.gen rfl (PySem.W.codeRec_of KX hcd) (hb _ _ _ _ ?_)
 refine wpAny_newFunctionEnv_cells S.kind hkind fun env he s1 x => ?_
 subst he
 refine ⟨lim.keeps x.toInCall.keep, codeAny_func ?_⟩
 obtain ⟨t, ht, hq⟩ := hbody m A outer s H vs Q E hsp
 have I : Inv (cxOf CX0 P w K mg base N qual scope f cdv A outer s H E) [] (start N vs) H s1 := zY5 S hr.hd e0 hl r x
 have I2 := Inv.toSuite I m
 refine wpAny_mono (ht [] s1 (start N vs) H _ I2 hq) (fun fl s' hs => ?_) fun e s' hs => hs.elim
 have fin : ∀ {σ' : St} {H' : Hp} {v : V} {u : Value}, Inv (inSuite (cxOf CX0 P w K mg base N qual scope f cdv A outer s H E) m) [] σ' H' s' -> RelV v u -> Q v H' -> CE outer P w H s Q u s' :=
  fun {σ' H' v u} J rv q => ⟨v, H', J.os, J.bare, J.base, J.hok, rv, q⟩
 cases fl with
 | ret u =>
  obtain ⟨v, σ', H', J, rv, q⟩ := hs
  exact fin J rv q
 | next =>
  obtain ⟨σ', H', J, q⟩ := hs
  exact fin (v := V.non) (u := Value.none) J rfl q
 | brk =>
  obtain ⟨_, _, _, q⟩ := hs
  exact False.elim q
 | cont =>
  obtain ⟨_, _, _, q⟩ := hs
  exact False.elim q
theorem Fun.okM {P : Program} {w : World} {K : KFr} {mg : Str -> Option Value} {base : Heap} {x qual : Str} {st : Stmt} {f : Addr} {fd : FuncData} {N ps : List Str} {k : Nat} {sp : Sp} (F : Fun K x qual st f fd) (S : zF N ps (zT st)) (len : ∀ vs H Q E, sp vs H Q E -> vs.length = ps.length)
  (hbody : ∀ (m cdv : Value) (A : Around) (outer : List Env) (s : Shared) (H : Hp) (vs : List V) (Q : VK) (E : XK), sp vs H Q E ->
   ∃ t, PSs (inSuite (cxOf CX0 P w K mg base N qual (zT st) f cdv A outer s H E) m) (defBody st) t /\ t { nx := fun _ H' => Q .non H', rt := Q } (start N vs) H) : RunM P w K mg base (k + 1) f fd ps sp := by
 obtain ⟨oc, od, kV, doc, pm, an, cdv, ct, osl, rfl, lk, hcd⟩ := F.ex
 exact yD1 lk hcd S len fun m A outer s H vs Q E hsp => hbody m cdv A outer s H vs Q E hsp
end L2
namespace L2.L3
open PySem PySem.Spec PyProof.Rows
section
variable {M : Model} {A : Around} {E : Value -> Shared -> Prop} {s : Shared} {B : Heap} {e : Addr} {cls a0 fl : Value}
theorem flyK {l : List Env} {fr : Option Addr} {Q : Unit -> Shared -> Prop} (hB : B.StaysIn s.heap) (hF : s.heap.FunFrames B l) (ht : s.heap.TracedAtW B e cls a0 fl) {Φ : Option Addr -> Value -> Prop} (kp : KpX Φ e s.heap)
  (k : ∀ g fl', B.StaysIn g -> g.FunFrames B l -> g.TracedAtW B e cls a0 fl' -> s.heap.UpToSlots g -> KpX Φ e g -> Q () { s with heap := g }) :
  wpAny M A (do
   if (<- field (.ref e) 1) == .none then unsupported "frame.own-activation:exception-without-traceback"
   setFlight (.ref e) fr) Q E s := by
 obtain ⟨oe, vs, T, oT, ts, g1, g2, g4, g5, g6, g7, g8, g9, g10⟩ := ht
 have sz := (Array.getElem?_eq_some_iff.mp g10).1
 have ot : ∀ b, b ≠ T -> (s.heap.update T (Obj.mapFields (·.setIfInBounds 3 (fr.elim Value.none fun f => rawInt f)))).get? b = s.heap.get? b := fun b hb => Heap.get?_update_other _ _ (Ne.symm hb)
 have nf : ∀ b o, s.heap.get? b = some o -> (∀ vs, o.data ≠ .fields vs) -> b ≠ T := fun b o q hd w => by
  subst w
  cases g8.symm.trans q
  exact hd ts g9
 have n0 : (Value.ref T == Value.none) = false := by simp
 have n1 : (Value.ref T != Value.none) = true := by simp
 refine wpAny_bind (wpAny_field g1 g4 g5 ?_)
 simp only [n0, Bool.false_eq_true, if_false]
 unfold setFlight
 refine wpAny_bind (wpAny_field g1 g4 g5 ?_)
 simp only [n1, if_true]
 refine wpAny_setField g8 g9 sz (k _ (fr.elim .none fun f => rawInt f) (fun b o q => (ot b fun w => by subst w; rw [g6] at q; cases q).trans (hB b o q)) (hF.of_keeps fun b o q hd => ⟨o, (ot b (nf b o q hd)).trans q, rfl⟩) ?_ (fun b o q hd => ⟨o.slots, (ot b (nf b o q hd)).trans q⟩) (kp.same (ot e (Ne.symm g7))))
 exact ⟨oe, vs, T, _, _, (ot e (Ne.symm g7)).trans g1, g2, g4, g5, g6, g7, Heap.get?_update_self _ g8 (Obj.isFreed_of_fields (Obj.data_mapFields g9 _)), Obj.data_mapFields g9 _, by simp [sz]⟩
end
variable [CN]
theorem yT3 {X : Cx} {c : Str} {H : Hp} {a : Addr} {s : Shared} {A' : Around} (hA' : A'.frames = X.A.frames) (x : ExcAt X c H (.ref a) s) (hst : X.stack = X.env :: X.outer) (hfr : X.env.frame = some X.env.locals)
  (hb : ∀ s', ExcAt X c H (.ref a) s' -> X.xe (.ref a) s') : notedBy (model X.prog X.w) A' X.env (cameBackBy (model X.prog X.w) X.A X.env X.xe) (.ref a) s := by
 obtain ⟨pins, σ, s1, H1, a', B, a0, I1, I, un, ea, n1, n2, f⟩ := x
 cases ea
 have hfrm : s.heap.FunFrames B (X.env :: X.outer) := by rw [<- hst]; exact f.frm
 have hA : A'.frames = some (X.env :: X.outer) := by rw [hA', <- hst]; exact I.ok.frames
 obtain ⟨Φ, hP⟩ : ∃ Φ, Φ = FlK (.ref (CN.ad c)) (rowOf c) B s1.heap H := ⟨_, rfl⟩
 have fk : KpX Φ a s.heap := hP ▸ f.kp
 have key : ∀ h', Heap.NotedW B (X.env :: X.outer) a (.ref (CN.ad c)) a0 (rawInt X.env.locals) s.heap h' -> KpX Φ a h' -> cameBackBy (model X.prog X.w) X.A X.env X.xe (.ref a) { s with heap := h' } := by
  rintro h' ⟨k1, k2, k3, k4⟩ kh
  rw [<- hst] at k2
  unfold cameBackBy
  refine flyK (s := { s with heap := h' }) (B := B) (l := X.stack) k1 k2 k3 kh fun h2 fl' g1 g2 g3 g4 g5 => ?_
  have ups2 : s.heap.UpToSlots h2 := Heap.UpToSlots.trans k4 g4
  obtain ⟨J, un2, cov⟩ := fH I1 I un f g1 g2 ups2
  exact hb _ ⟨pins, σ, s1, H1, a, B, a0, I1, J, un2, rfl, n1, n2, ⟨g1, f.newB, g2, .inl ⟨fl', g3⟩, hP ▸ g5, cov⟩⟩
 show wpAny (model X.prog X.w) A' (noteFrame (.ref a) X.env) (fun _ s'' => cameBackBy (model X.prog X.w) X.A X.env X.xe (.ref a) s'') _ s
 rcases f.raw with ⟨fl, t⟩ | ⟨oe, vs, he, hc, hd, h1, h0⟩
 ·exact jP hA hfrm hfr t f.stays f.newB fk key
 ·rw [<- hc] at key
  unfold noteFrame
  simp only [hfr]
  refine wpAny_bind (wpAny_field he hd h1 ?_)
  rw [if_neg (by decide)]
  exact entryK hA hfrm hfr he f.stays f.newB hd (Array.getElem?_eq_some_iff.mp h1).1 h0 fk key
theorem yK1 {X : Cx} {nm : Str} {H : Hp} {a : Addr} {s : Shared} {g : Heap} {oe : Obj} {us : Array Value} {o1 : Obj} {u1 : Array Value} (hnm : CN.ad nm = CN.ad "BadText") (x : ExcAt X nm H (.ref a) s) (h1 : s.heap.get? a = some o1) (d1 : o1.data = .fields u1)
  (hg : g.get? a = some oe) (hc : oe.cls = .ref (CN.ad "BadText")) (hd : oe.data = .fields us) (z1 : us[1]? = some .none) {v v2 : Value} (z0 : us[0]? = some v) (z2 : us[2]? = some v2) (zd : oe.dict = o1.dict) (ot : ∀ b, b ≠ a -> g.get? b = s.heap.get? b) : ExcAt X nm H (.ref a) { s with heap := g } := by
 obtain ⟨pins, σ, s1, H1, a', B, a0, I1, I, un, ea, n1, n2, f⟩ := x
 cases ea
 have ne1 : ∀ b o, s1.heap.get? b = some o -> b ≠ a := fun b o q y => by subst y; rw [n1] at q; cases q
 have neH : ∀ b, H b ≠ none -> b ≠ a := fun b q y => q (y ▸ n2)
 have nF : ∀ b o, s.heap.get? b = some o -> (∀ vs, o.data ≠ .fields vs) -> b ≠ a := fun b o q d y => by
  subst y
  cases h1.symm.trans q
  exact d _ d1
 have un2 : Un (frs X.stack) [] H1 H s1.heap g := by
  refine ⟨fun b o q n hb hx => (ot b (ne1 b o q)).trans (un.keep b o q n hb hx), fun b o q n hb hx => ?_, un.free, fun b o q hx => ?_, un.tups, un.frzs, un.tbls⟩
  ·obtain ⟨sl, y⟩ := un.slot b o q n hb hx
   exact ⟨sl, (ot b (ne1 b o q)).trans y⟩
  ·obtain ⟨o', y⟩ := un.there b o q hx
   exact ⟨o', (ot b (ne1 b o q)).trans y⟩
 have hok : HOk X.prog X.w H g := fun b o q => by
  refine (I.hok b o q).stay (fun b' u hb' y => (ot b' ?_).trans y) (fun _ z => z) fun _ _ z => z
  rcases hb' with rfl | hb'
  ·exact neH _ (xX q)
  ·exact neH _ (xX hb')
 have kd : ∀ r, rowOf nm = some r -> ∃ d, oe.dict = some d /\ Row d (r : Int) B /\ H d = none /\ s1.heap.get? d = none := fun r e => by
  obtain ⟨o, vs, v', e1, _, _, _, y⟩ := f.kp
  cases h1.symm.trans e1
  rw [zd]
  exact y r e
 have J := I1.call' (s' := { s with heap := g }) (I.os.trans I1.os.symm) un2 hok I.bare (fun b z => by cases z)
 refine ⟨pins, σ, s1, H1, a, B, v, I1, J, un2, rfl, n1, n2, ⟨fun b o q => (ot b fun y => by subst y; rw [f.newB] at q; cases q).trans (f.stays b o q), f.newB, f.frm.of_keeps fun b o q d => ⟨o, (ot b (nF b o q d)).trans q, rfl⟩, .inr ⟨oe, us, hg, by rw [hc, hnm], hd, z1, z0⟩, ⟨oe, us, v2, hg, hd, z2, fun p => absurd (by rw [hnm]) p, kd⟩, fun b o q nb z => ?_⟩⟩
 have nb' : b ≠ a := by
  rcases z with z | z
  ·obtain ⟨o', q'⟩ := kJ z
   exact ne1 b o' q'
  ·exact neH b z
 exact f.cov b o ((ot b nb').symm.trans q) nb z
def sTryR (caught : List Str) (nm : Str) (mb : Ev -> Res Out) : Ev -> Res Out := fun ρ => match mb ρ with
 | .ok o => .ok o
 | .no => .no
 | .ex c => if caught.contains c then .ex nm else .no
theorem yM2 {C : Ct} {fr : Bool} {x : Str} {np hpos pos yp cpos ip jp rp : Pos} {j j2 : Nat} {body : List Stmt} {mb : Ev -> Res Out} {fI : Addr} {fd : FuncData} {k : Nat} (caught : List Str) (nm : Str) (hnm : CN.ad nm = CN.ad "BadText") (hrn : ∀ n, rowOf nm = some n -> (n : Int) = 1)
  (hbody : ∀ (pn : List (Addr × Obj)) (xe : Value -> Shared -> Prop) (XE : Str -> Hp -> Prop), Br ⟨inTry C.X pn xe, XE, C.om, C.ln⟩ -> RSs ⟨inTry C.X pn xe, XE, C.om, C.ln⟩ fr body mb)
  (hcx : ∀ c, caught.contains c = true -> PySem.W.kitCls C.X.K (.ref (CN.ad c)) (.ref (CN.ad x)) = some true) (hcb : PySem.W.subIn C.X.K (.ref (CN.ad x)) (.type "BaseException") = some true) (hm : C.X.mg x = some (.ref (CN.ad x)))
  (hne : ∀ c, caught.contains c = true -> Value.ref (CN.ad c) ≠ .ref (CN.ad "BadText")) (hb : Br C)
  (ho : ExIn C.X.K (CN.ad "BadText") bmV "ValueError.__new__") (hi : PySem.W.findIn C.X.K (.ref (CN.ad "BadText")) "__init__" = some (some (.ref fI))) (hk : PySem.W.keepIn C.X.K (.ref (CN.ad "BadText")) = true) (hf : PySem.W.isFn C.X.K (.ref fI) = true) (hmy : C.X.mg "BadText" = some (.ref (CN.ad "BadText")))
  (F : RunM C.X.prog C.X.w C.X.K C.X.mg C.X.base k fI fd ["self", "row"] (spIni (CN.ad "BadText"))) (hbd : Binds C.X.K fd ["self", "row"] []) (hr : Room (k + 1) C.X.A)
  (hst : autoParam (C.X.stack = C.X.env :: C.X.outer) zZ._auto_1) (hfr : autoParam (C.X.env.frame = some C.X.env.locals) zZ._auto_1) (hex : autoParam (C.X.ex = []) zZ._auto_1) (hg : autoParam (Gl C.X x) zZ._auto_1) (hdb : autoParam ((x == ("__debug__" : Str)) = false) zO._auto_1) (hgy : autoParam (Gl C.X "BadText") zZ._auto_1)
  (he : autoParam (starEach [.Constant (.int 1) j ip] C.X.env = (false, eval (.Constant (.int 1) j ip) C.X.env) :: starEach [] C.X.env) zZ._auto_1) (hpl : autoParam ((backTo cpos (starEach [] C.X.env)).any (·.1) = false) zZ._auto_1) :
  RS C fr (.Try body [.ExceptHandler (some (.Name x np)) none [.Raise (some (.Call (.Name "BadText" yp) [.Constant (.int 1) j ip] [] cpos)) (some (.Constant .none j2 jp)) rp] hpos] [] [] pos) (sTryR caught nm mb) := by
 refine ⟨fun D σ H => ∀ pins s, Inv C.X pins σ H s -> wpAny (model C.X.prog C.X.w) C.X.A (exec (.Try body [.ExceptHandler (some (.Name x np)) none [.Raise (some (.Call (.Name "BadText" yp) [.Constant (.int 1) j ip] [] cpos)) (some (.Constant .none j2 jp)) rp] hpos] [] [] pos) C.X.env) (SP C.X pins D) C.X.xe s, fun pins s σ H D I h => h pins s I, fun Oc Ob σ H ρ E R hp pins s I => ?_⟩
 refine wpAny_Try_except ?_
 generalize hxe : (fun (e : Value) (s₁ : Shared) => wpAny (model C.X.prog C.X.w) C.X.A (noteFrame e C.X.env) (fun _ s₂ => wpAny (model C.X.prog C.X.w) C.X.A (setFlight e none) (fun _ s₃ => wpAny (model C.X.prog C.X.w) C.X.A (handleBy e C.X.env [.ExceptHandler (some (.Name x np)) none [.Raise (some (.Call (.Name "BadText" yp) [.Constant (.int 1) j ip] [] cpos)) (some (.Constant .none j2 jp)) rp] hpos]) (SP C.X pins E) C.X.xe s₃) C.X.xe s₂) C.X.xe s₁) = xe'
 have br : Br ⟨inTry C.X (C.X.pn ++ pins) xe', fun c H' => caught.contains c = true /\ C.XE nm H', C.om, C.ln⟩ := by
  intro c H' e s' xx ⟨hc, hsp⟩
  subst hxe
  refine yU3 (X := inTry C.X (C.X.pn ++ pins) _) xx hst hfr fun pins' σ' s1 H1 a B a0 s3 J1 J un ea n1 n2 fl tr => ?_
  subst ea
  have K3 : Inv C.X pins σ' H' s3 := Inv.ofTry J
  have Km := Inv.toSuite K3 (.ref a)
  refine wpAny_handleBy_cons (codeAny_handlers_test ?_) (by intro q; cases q)
  refine vV (X := inSuite C.X (.ref a)) Km hg hm ?_ hdb
  obtain ⟨oe, _, _, _, _, he0, ⟨hcl, _⟩, _⟩ := id tr
  refine zX3 K3.kIn he0 hcl (hcx c hc) hcb ?_
  refine codeAny_handlers_suite ?_
  refine flightK (B := B) (l := C.X.stack) (cls := .ref (CN.ad c)) (a0 := a0) (Φ := fun _ v => v = .none) fl.stays fl.newB fl.frm tr.at (fl.kp.mono fun d v y => y.1 (hne c hc)) fun h4 fly ups k4 => ?_
  obtain ⟨I4, _, _⟩ := fH J1 J un fl fly.1 fly.2.2.1 ups
  have K4 : Inv C.X pins σ' H' { s3 with heap := h4 } := Inv.ofTry I4
  have L1 : Inv C.X pins σ' H1 s1 := Inv.ofTry J1
  obtain ⟨oa, vs, v0, qa, da, za, ez⟩ := k4
  subst ez
  have hn1 : ∀ b o, s1.heap.get? b = some o -> b ≠ a := fun b o q z => by subst z; rw [n1] at q; cases q
  have K5 : Inv C.X ((a, oa) :: pins) σ' H' { s3 with heap := h4 } := K4.xV fun p hp => by
   rcases List.mem_cons.mp hp with rfl | hp
   ·refine ⟨qa, n2, ?_, fun hb' => ?_, fun v => by rw [da]; exact fun z => nomatch z⟩
    ·obtain ⟨m, ⟨o, _, _, q, _⟩, _⟩ := L1.loc
     exact Ne.symm (hn1 _ o q)
    ·obtain ⟨_, o, q, _⟩ := L1.ok.funs.mem hb'
     obtain ⟨o', q'⟩ := L1.base.there _ o q (by rw [hex]; simp)
     rw [n1] at q'
     cases q'
   ·exact K4.pin p (List.mem_append_right _ hp)
  have Km5 := Inv.toSuite K5 (.ref a)
  refine wpAny_execs_cons ?_
  obtain ⟨N, bm, ob, L, T⟩ := ho.lie I.mod.kin
  have ty := beq_iff_eq.mp hf
  obtain ⟨oI, lk, fc⟩ := Option.map_eq_some_iff.mp (show (C.X.K.lookup fI).map (·.cls) = some (.type "function") from ty)
  rw [arm_exec_Raise]
  refine wpAny_bind (wpAny_standAt (zH7 (A := C.X.A.mark (some (.ref a))) (C := CN.ad "BadText") (N := N) (bm := bm) (newId := "ValueError.__new__") (h0 := a) (T.hasType PySem.F.excBase_ValueError.hasBase) rfl ?_))
  refine wpAny_bind (wpAny_mono ?_ (fun v s' z => wpAny_bind (wpAny_standAt (wpAny_pure z))) fun _ _ z => z)
  refine wpAny_Call_Name_kw (vV (X := inSuite C.X (.ref a)) Km5 hgy hmy ?_ (by decide))
  have pa : PA (inSuite C.X (.ref a)) [.Constant (.int 1) j ip] (yN9 (tC (.int 1)) tNil) := yQ yX5 wP he
  have h2 := pa cpos ((a, oa) :: pins) _ σ' H' (fun vs H1 => vs = [.int 1] /\ H1 = H') Km5 ⟨rfl, rfl⟩
  refine PySem.W.callWith_K (h₀ := C.X.base) I.ok.mod.kin hk (wpAny_mono h2 (fun us s2 ⟨vs', H2, I2, r, ev, eH2⟩ => ⟨I2.kIn, ?_⟩) fun _ _ y => y.elim) he hpl
  subst ev eH2
  cases r with
  | cons ra r => cases r with
   | nil =>
    obtain ⟨tk, rfl⟩ := ra
    have J2 : Inv C.X ((a, oa) :: pins) σ' H2 s2 := Inv.ofSuite K4.ok I2
    have qa2 : s2.heap.get? a = some oa := (J2.pin (a, oa) (List.mem_append_right _ List.mem_cons_self)).1
    refine zP2 PySem.F.excBase_ValueError (T.keeps J2.bk) (L.keeps J2.bk) J2.kIn hi (J2.kIn _ _ lk) fc (by show 1 <= sizeLine; decide) fun h' a2 m => ?_
    obtain ⟨t0, he1, _, _⟩ := m.there
    have gone : ∀ b ob, s2.heap.get? b = some ob -> b ≠ a2 := fun b ob q z => by subst z; rw [m.new] at q; cases q
    have n : H2 a2 = none := by
     cases q : H2 a2 with
     | none => rfl
     | some o =>
      obtain ⟨u, z⟩ := wD (J2.hok a2 o q)
      rw [m.new] at z
      cases z
    have I3 : Inv C.X ((a, oa) :: pins) σ' H2 { s2 with heap := h', toks := s2.toks } := J2.kept m.keeps
    have I5 : Inv C.X ((a, oa) :: pins) σ' (upd H2 a2 (.ext (iniP a2 (CN.ad "BadText")))) { s2 with heap := h', toks := s2.toks } := by
     refine I3.track n ?_ ?_ (fun y z q => ?_) (fun p hp => ?_) (aO ⟨t0, he1⟩)
     ·cases q : C.X.s₀.heap.get? a2 with
      | none => rfl
      | some o =>
       obtain ⟨o', q'⟩ := J2.base.there a2 o q (by rw [hex]; simp)
       rw [m.new] at q'
       cases q'
     ·obtain ⟨mm, ⟨o, _, _, q, _⟩, _⟩ := J2.loc
      exact Ne.symm (gone _ o q)
     ·obtain ⟨v, o, q', _⟩ := J2.cell y z q
      exact gone _ o q'
     ·exact gone _ _ (J2.pin p hp).1
    have r2 : Vals [V.ref a2, V.int 1] [Value.ref a2, Value.int 1 tk] := .cons rfl (.cons ⟨tk, rfl⟩ .nil)
    refine codeAny_mono (F _ (.ref a) C.X.stack _ _ ⟨[Value.ref a2, Value.int 1 tk], []⟩ [Value.ref a2, Value.int 1 tk] _ (fun v H' => v = .non /\ ∃ d, upd H2 a2 (.ext (iniP a2 (CN.ad "BadText"))) d = none /\ H' = upd (upd (upd H2 a2 (.ext (iniP a2 (CN.ad "BadText")))) a2 (.ext (iniE a2 (CN.ad "BadText") d))) d (.ext (Row d 1))) E0 (hr.make (CN.ad "BadText") [Value.int 1 tk] []) (I5.env0.make (CN.ad "BadText") [Value.int 1 tk] []) (hbd _ [Value.ref a2, Value.int 1 tk] I5.kIn rfl) r2 ⟨a2, 1, rfl, by decide, zJ, fun d z => ⟨rfl, d, z, rfl⟩⟩) fun res s' hq' => ?_
    cases res with
    | error ee => exact hq'.elim
    | ok fl =>
     cases fl with
     | ret u =>
      obtain ⟨v, H'', os', bare, un', hok, rv, rfl, d, nd, eH⟩ := hq'
      rw [zK4] at eH
      have ex := zI2 J2 hnm hrn m nd eH os' bare un' hok
      have da2 : a2 ≠ d := fun z => by rw [<- z, zJ] at nd; cases nd
      obtain ⟨⟨t1, he2⟩, _, _⟩ := hok a2 _ (by rw [eH]; exact (zM da2).trans zJ)
      have I6 : Inv C.X ((a, oa) :: pins) σ' H'' s' := I5.call' (s' := s') os' un' hok bare (fun b z => by cases z)
      have qa3 : s'.heap.get? a = some oa := (I6.pin (a, oa) (List.mem_append_right _ List.mem_cons_self)).1
      refine ⟨rv, a2, some d, t1, ob, rfl, L.keeps I6.bk, he2, gone a oa qa2, Ne.symm (gone _ _ (J2.bk _ _ L.obj)), ⟨oa, vs, _, qa3, da, za, rfl⟩, wpAny_bind (wpAny_Constant_none (wpAny_bind (wpAny_standAt (wpAny_pure ⟨rfl, rfl⟩)))), fun g g1 g2 => ?_⟩
      have ex2 := yK1 hnm ex he2 rfl g1 rfl rfl rfl rfl rfl rfl g2
      exact yT3 (X := C.X) rfl ex2 hst hfr fun s'' ex3 => hb nm H2 _ _ ex3 hsp
     | next => exact hq'.elim
     | brk => exact hq'.elim
     | cont => exact hq'.elim
 obtain ⟨tb, pb, qb⟩ := hbody _ _ _ br
 refine wpAny_mono (pb [] s σ H E (Inv.toTry I _) (qb Oc Ob σ H ρ E R ?_)) (fun f s₁ hs => ?_) fun e s₁ z => z
 ·unfold sTryR at hp
  cases em : mb ρ with
  | ok o => rw [em] at hp; exact hp
  | no => rw [em] at hp; exact hp
  | ex c =>
   rw [em] at hp
   intro H' f1
   by_cases hc : caught.contains c = true
   ·simp only [hc, if_true] at hp
    exact ⟨hc, hp H' f1⟩
   ·simp only [hc] at hp
    exact hp.elim
 ·cases f with
  | next => exact wpAny_execs_nil (SP.ofTry hs)
  | brk => exact SP.ofTry (f := .brk) hs
  | cont => exact SP.ofTry (f := .cont) hs
  | ret u => exact SP.ofTry (f := .ret u) hs
end L2.L3
namespace L2.L3
open PySem PySem.Spec PyProof.Rows
variable [CN]
theorem yR3 {cs : List Str} {nm : Str} {mb : Ev -> Res Out} {ρ : Ev} {o : Out} (h : mb ρ = .ok o) : sTryR cs nm mb ρ = .ok o := by unfold sTryR; rw [h]
theorem yQ7 {cs : List Str} {nm : Str} {mb : Ev -> Res Out} {ρ : Ev} {c : Str} (h : mb ρ = .ex c) (hc : cs.contains c = true) : sTryR cs nm mb ρ = .ex nm := by
 unfold sTryR
 rw [h]
 exact if_pos hc
end L2.L3
namespace L2.L3
open PySem PySem.Spec PyProof.Rows
def underV : List Value -> Bool
 | .ref _ :: r => underV r
 | .type n :: r => (.type n :: r) == [.type "ValueError", .type "Exception", .type "BaseException", .type "object"]
 | _ => false
theorem dL (self : Value) : ∀ (l : List Value), underV l = true -> refuseLoop self "__setattr__" l = pure () /\ l.contains (.type "object") = true /\ l.isEmpty = false
 | [], e => by cases e
 | v :: r, e => by
  cases v with
  | ref c =>
   obtain ⟨a, b, _⟩ := dL self r e
   exact ⟨(refuseLoop_ref _ _ _ _).trans a, by rw [List.contains_cons, b, Bool.or_true], rfl⟩
  | type n =>
   have z := eq_of_beq (show ((Value.type n :: r) == [.type "ValueError", .type "Exception", .type "BaseException", .type "object"]) = true from e)
   rw [z]
   exact ⟨PySem.F.store_ValueError.passes self, by decide, rfl⟩
  | _ => cases e
structure RowCls (K : KFr) (C : Addr) : Prop where
 sa : PySem.W.findIn K (.ref C) "__setattr__" = some (some (.builtin "object.__setattr__"))
 ov : (PySem.W.clsIn K C).any (fun cd => underV cd.mro && cd.hasDict) = true
 nr : PySem.W.findIn K (.ref C) "row" = some none
theorem yK6 {X : Cx} {pins : List (Addr × Obj)} {σ : St} {H : Hp} {s : Shared} {A : Around} {E : Value -> Shared -> Prop} {e C : Addr} {v : Value} {r : Int} {tv : Tok} {Q : Unit -> Shared -> Prop} (ev : v = .int r tv) (I : Inv X pins σ H s) (hH : H e = some (.ext (iniP e C))) (f : RowCls X.K C)
  (h : ∀ s' d, H d = none -> Inv X pins σ (upd (upd H e (.ext (iniE e C d))) d (.ext (Row d r))) s' -> Q () s') : wpAny (model X.prog X.w) A (setAttr (.ref e) "row" v) Q E s := by
 obtain ⟨⟨t0, he⟩, _, _⟩ := I.hok e _ hH
 obtain ⟨cd, hc, ho⟩ := PySem.W.any_some f.ov
 rw [Bool.and_eq_true] at ho
 obtain ⟨u1, u2, u3⟩ := dL (.ref e) _ ho.1
 have J : PySem.W.InstAt s.heap e { cls := .ref C, dict := none, data := .fields #[.ref t0, .none, .none, .none, .bool false, .none] } C none := ⟨he, rfl, rfl, trivial⟩
 have ty := J.type (M := model X.prog X.w)
 have cl := PySem.W.looks_clsIn (M := model X.prog X.w) I.kIn hc
 have mr : PySem.W.Looks (model X.prog X.w) s.heap (mroOf (.ref C)) cd.mro := cl.andThen .now
 have no := PySem.W.looks_findIn (M := model X.prog X.w) I.kIn f.nr
 have inst : PySem.W.Looks (model X.prog X.w) s.heap (isInstance (.ref e) (.type "object")) true := ty.andThen (PySem.W.looks_mroIn I.kIn (by unfold PySem.W.mroIn; rw [hc, Option.bind_some, u3]; exact congrArg some u2))
 have pas : PySem.W.Looks (model X.prog X.w) s.heap (Builtin.ObjectAttr.refuseIfOverridden (.ref e) "__setattr__") () := by
  rw [refuse_eq]
  exact ty.andThen (mr.andThen (.of_pure u1))
 obtain ⟨hh, g, d, tk, os⟩ := s
 refine PySem.W.set_plain I.kIn J f.sa (codeAny_call_builtin PySem.F.store_object.slot.plain PySem.F.store_object.entry ?_)
 refine PySem.W.check_slot (M := model X.prog X.w) (s := ⟨hh, g, d, tk + 1, os⟩) (i := "object.__setattr__") (owner := "object") (n := "__setattr__") (self := .ref e) (rest := [.str "row" tk, v]) (kw := []) PySem.F.store_object.kind PySem.F.store_object.split inst (PySem.F.store_object.args _ _ _) ?_
 rw [PySem.W.osa_eq]
 refine wpAny_bind (pas.at (wpAny_bind (ty.at (wpAny_bind (no.at (wpAny_bind (wpAny_pure ?_)))))))
 refine wpAny_bind (wpAny_pure (wpAny_bind (wpAny_bind (wpAny_loadPart he (wpAny_bind (cl.at ?_))))))
 rw [ho.2]
 have pushed : (hh.push { cls := .type "dict", data := .dict #[] }).get? e = some { cls := .ref C, dict := none, data := .fields #[.ref t0, .none, .none, .none, .bool false, .none] } := by heap_get
 have far : e ≠ hh.objs.size := Nat.ne_of_lt (Heap.lt_size he)
 obtain ⟨g1, hg1⟩ : ∃ g1, g1 = (hh.push { cls := .type "dict", data := .dict #[] }).update e fun o => { o with dict := some hh.objs.size } := ⟨_, rfl⟩
 have new : g1.get? e = some { cls := .ref C, dict := some hh.objs.size, data := .fields #[.ref t0, .none, .none, .none, .bool false, .none] } := by rw [hg1]; exact Heap.get?_update_self _ pushed rfl
 have keep : ∀ b, b ≠ e -> g1.get? b = (hh.push { cls := .type "dict", data := .dict #[] }).get? b := fun b z => by rw [hg1]; exact Heap.get?_update_other _ _ (Ne.symm z)
 have bare : g1.Ns1 hh.objs.size fun _ => none := Heap.Ns1.of_empty ⟨_, #[], _, (keep _ (Ne.symm far)).trans (Heap.get?_push_size hh rfl), rfl, fun y z => (Array.not_mem_empty y z).elim, fun _ => rfl⟩
 have store : ∀ {A' : Around} {Q' : Unit -> Shared -> Prop} {E' : Value -> Shared -> Prop} {t' : Nat}, (∀ h' t'', h'.Ns1 hh.objs.size (fun y => if y = "row" then some v else none) /\ Heap.SameBut hh.objs.size g1 h' -> Q' () ⟨h', g, d, t'', os⟩) -> wpAny (model X.prog X.w) A' (nsSet hh.objs.size "row" v) Q' E' ⟨g1, g, d, t', os⟩ :=
  fun z => wpAny_nsSet1 bare fun h' n sb => z h' _ ⟨n, sb⟩
 refine wpAny_bind (wpAny_alloc' (wpAny_bind (wpAny_update' pushed (wpAny_pure ?_))))
 show wpAny _ _ (Builtin.ObjectAttr.storeInDict hh.objs.size (.str "row" tk) "row" v) _ _ ⟨_, g, d, tk + 1, os⟩
 rw [<- hg1]
 refine wpAny_bind (wpAny_pure (wpAny_bind (store fun h' t' ⟨n, sb⟩ => ?_)))
 obtain ⟨od, es, ep, q1, q2, q3⟩ := n.count (PySem.Within.cons "row" v PySem.Within.nil)
 refine wpAny_bind (wpAny_lookBehind q1 (q2 ▸ pastItsLine_dict (Nat.le_trans q3 (by decide))) (wpAny_pure ?_))
 have told : h'.get? e = some { cls := .ref C, dict := some hh.objs.size, data := .fields #[.ref t0, .none, .none, .none, .bool false, .none] } := (sb.2 e far).trans new
 have J2 : Inv X pins σ (upd H e (.ext (iniE e C hh.objs.size))) ⟨h', g, d, t', os⟩ := Inv.write (x := e) (e := e) (o := .ext (iniE e C hh.objs.size)) (h' := h') (t' := t') I (by rw [hH]; exact trivial) (.inl rfl) (fun b u nb hb => by
  rw [sb.2 b (Nat.ne_of_lt (Heap.lt_size hb)), keep b nb]
  exact Heap.get?_push_of_some _ hb) ⟨_, told⟩ (yR9 ⟨_, told⟩)
 have nd : H hh.objs.size = none := kR fun o q => by
  obtain ⟨u, z⟩ := wD (I.hok _ o q)
  exact absurd (Heap.lt_size z) (Nat.lt_irrefl _)
 have nd2 : upd H e (.ext (iniE e C hh.objs.size)) hh.objs.size = none := by rw [zM (Ne.symm far)]; exact nd
 have gone : ∀ b ob, hh.get? b = some ob -> b ≠ hh.objs.size := fun b ob z => Nat.ne_of_lt (Heap.lt_size z)
 refine h _ _ nd (J2.track nd2 (Heap.get?_none_of_le (Nat.le_trans I.ok.above (Nat.le_of_lt I.lt))) ?_ (fun y z q => ?_) (fun p hp => ?_) (zJ2 ⟨tv, ev ▸ n⟩))
 ·obtain ⟨mm, ⟨o, _, _, q, _⟩, _⟩ := I.loc
  exact Ne.symm (gone _ o q)
 ·obtain ⟨v, o, q', _⟩ := I.cell y z q
  exact gone _ o q'
 ·exact gone _ _ (I.pin p hp).1
def sRow (K : KFr) (ta tv : TE) : TS := fun D σ H => tv σ H fun y H1 => ta σ H1 fun x H2 => ∃ e C r, x = .ref e /\ y = .int r /\ H2 e = some (.ext (iniP e C)) /\ RowCls K C /\ ∀ d, H2 d = none -> D.nx σ (upd (upd H2 e (.ext (iniE e C d))) d (.ext (Row d r)))
theorem yZ1 {X : Cx} {o value : Expr} {pos pos' : Pos} {ta tv : TE} (ha : PE X o ta) (hv : PE X value tv) (hs : swapsWith value (some (.Attribute o "row" pos')) pos.line X.env = pure false) : PS X (.Assign [.Attribute o "row" pos'] value pos) (sRow X.K ta tv) := by
 intro pins s σ H D I h
 refine plainObj_wpAny_Assign_Attribute (thn (hv pins s σ H _ I h) fun u s1 ⟨y, H1, I1, ry, q⟩ => thn (ha pins s1 σ H1 _ I1 q) fun ov s2 ⟨x, H2, I2, rx, e, C, r, ex, ey, ea, c, q2⟩ => ?_) hs
 subst ex ey
 obtain ⟨tk, rfl⟩ := ry
 obtain rfl : ov = Value.ref e := rx
 exact yK6 rfl I2 ea c fun s3 d nd I3 => ⟨σ, _, I3, q2 d nd⟩
end L2.L3
namespace PySem
open PySem.Spec PyProof.Rows
section
variable {prog : Program} {w : World} {A : Around} {E : Value -> Shared -> Prop} {a C d : Addr} {K : KFr} {vs : Array Value} {sl : Array (Option Value)} {x : Shared} {r : Int}
theorem zF4 {tk : Tok} {P : Fin -> Shared -> Prop} (X : K.In x.heap) (k : ExK K C) (f : L2.L3.RowCls K C) (hx : x.heap.get? a = some ⟨.ref C, some d, .fields vs, sl⟩) (hr : L2.L3.Row d r x.heap) (q : ∀ t, P (.done (.ret (.int r t))) x) : wpAny (model prog w) A (Builtin.«object.__getattribute__» ⟨[.ref a, .str "row" tk], []⟩) P E x := by
 obtain ⟨t0, n⟩ := hr
 obtain ⟨cd, hc, ho⟩ := PySem.W.any_some f.ov
 rw [Bool.and_eq_true] at ho
 have cl := PySem.W.looks_clsIn (M := model prog w) X hc
 have g1 : ∀ {P : Option Value -> Shared -> Prop} {E' : Value -> Shared -> Prop} {A' : Around}, P (some (.int r t0)) x -> wpAny (model prog w) A' (nsGet d "row") P E' x := fun z => wpAny_nsGet n.ns z
 have g2 : ∀ {P : Option Addr -> Shared -> Prop} {E' : Value -> Shared -> Prop} {A' : Around}, P (some d) x -> wpAny (model prog w) A' (instanceDict a false) P E' x := fun z => by
  unfold instanceDict
  refine wpAny_bind (wpAny_loadPart_at hx ?_)
  refine wpAny_bind (cl.at ?_)
  rw [ho.2]
  exact wpAny_pure z
 repeat' first | assumption | ((with_reducible apply wpAny_loadPart_at hx) <;> try dsimp only) | ((with_reducible apply qF X f.nr) <;> try dsimp only) | ((with_reducible apply g2) <;> try dsimp only) | ((with_reducible apply g1) <;> try dsimp only) | wp_step
 exact q t0
theorem zT7 {P : Value -> Shared -> Prop} (X : K.In x.heap) (k : ExK K C) (f : L2.L3.RowCls K C) (hx : x.heap.get? a = some ⟨.ref C, some d, .fields vs, sl⟩) (hr : L2.L3.Row d r x.heap) (q : ∀ t, P (.int r t) { x with toks := x.toks + 1 }) : wpAny (model prog w) A (getAttr (.ref a) "row" true) P E x := by
 have g1 := F.attrBase_ValueError.ga.bind (.ref a)
 have g2 : (Value.builtin "BaseException.__getattribute__" == Value.builtin "object.__getattribute__") = false := by decide +kernel
 have g3 : (onTheHeap (Value.ref C) && Value.builtin "BaseException.__getattribute__" == Value.builtin "object.__getattribute__") = false := by rw [g2, Bool.and_false]
 have g4 : (true && onTheHeap (Value.builtin "BaseException.__getattribute__")) = false := rfl
 obtain ⟨h, g, d, t, os⟩ := x
 unfold getAttr
 repeat' first | assumption | ((with_reducible apply wpAny_loadPart_at hx) <;> try dsimp only) | ((with_reducible apply qF X k.ga) <;> try dsimp only) | ((with_reducible apply qF X k.gn) <;> try dsimp only) | wp_step
 have X' : K.In (Shared.mk h g d (t + 1) os).heap := X
 refine codeAny_call_builtin F.attrBase_ValueError.ga.plain F.entry_bexc_ga (zJ4 X' k hx (zF4 X' k f hx hr fun tk => ?_))
 repeat' first | assumption | wp_step
 exact q tk
end
end PySem
namespace L2.L3
open PySem PySem.Spec PyProof.Rows
variable [CN]
def rowD : D -> Option D
 | .dict [(.list [], .str c)] => (rowOf c).map fun (r : Nat) => PyData.int (r : Int)
 | _ => none
theorem zB4 (c : Str) : rowD (excD c) = (rowOf c).map fun (r : Nat) => PyData.int (r : Int) := rfl
theorem yX8 {C : Ct} {e : Expr} {pos : Pos} {md : Md} {me : Ev -> Res D} (hk : ExK C.X.K (CN.ad "BadText")) (hr : ∀ n, n < 16 -> CN.ad (rowName n) = CN.ad "BadText") (f : RowCls C.X.K (CN.ad "BadText")) (he : RE C md e me) (hb : autoParam (attributeBase e "row" C.X.env (eval e C.X.env) = eval e C.X.env) zZ._auto_1) :
  RE C .cl (.Attribute e "row" pos) (e1 rowD me) := by
 obtain ⟨t, pe, q⟩ := he
 refine ⟨fun σ H Q => t σ H fun v H1 => ∃ a c lk d, ∃ r : Nat, v = .ref a /\ H1 a = some (.ext (excP a c lk)) /\ lk = some d /\ H1 d = some (.ext (Row d (r : Int))) /\ rowOf c = some r /\ Q (.int r) H1, fun pins s σ H Q I h => ?_, fun Oc Ob σ H ρ Q R h => q Oc Ob σ H ρ _ R (Res.zW (Res.zX h) (fun dd _ kk v H' s r => ?_) fun _ z => z)⟩
 ·refine Attribute_any_ (thn (pe pins s σ H _ I h) fun u s1 ⟨v, H1, I1, rv, a, c, lk, d, r, ev, ha, el, hd, hc, qq⟩ => ?_) (by rw [arm_eval_Attribute, hb])
  subst ev el
  cases rv
  obtain ⟨⟨o, p1, p2, p3⟩, _, _⟩ := I1.hok a _ ha
  obtain ⟨z1, vs, z2⟩ := p3 d rfl
  obtain ⟨row, _, _⟩ := I1.hok d _ hd
  obtain ⟨oc, od, odt, osl⟩ := o
  simp only at p2 z1 z2
  have hlt : r < 16 := by
   obtain ⟨z, _⟩ := List.findIdx?_eq_some_iff_getElem.mp hc
   exact z
  have hcn : c = rowName r := by
   obtain ⟨z, y, _⟩ := List.findIdx?_eq_some_iff_getElem.mp hc
   have y2 := eq_of_beq y
   rw [<- y2]
   unfold rowName
   rw [List.getD_eq_getElem?_getD, List.getElem?_eq_getElem z]
   rfl
  rw [hcn, hr r hlt] at p2
  subst p2 z1 z2
  exact zT7 I1.kIn hk f p1 row fun tk => ⟨.int r, H1, I1.tok _, ⟨tk, rfl⟩, qq⟩
 ·obtain ⟨d2, ed, kk⟩ := Res.zL kk
  rcases r.va R.oh with h | ⟨a, ys, ds, rfl, rfl, e3, e5⟩
  ·cases h with
   | @exc a c lk q1 w n =>
    rw [zB4] at ed
    obtain ⟨r, er, rfl⟩ := Option.map_eq_some_iff.mp ed
    obtain ⟨d, w1, w2, w3⟩ := w r er
    exact ⟨a, c, lk, d, r, rfl, q1, w1, w2, er, kk _ H' s (Rep.int _)⟩
   | _ => cases ed
  ·cases ed
def ixSD : D -> D -> Option D
 | .str z, .int i => if z.length <= sizeLine then (atI z.cps.toList i).map fun c => .str ⟨#[c]⟩ else none
 | _, _ => none
theorem bU : Pr2 rIxS .cl ixSD := by
 intro Oc Ob H x y dx dy d Q oh vx vy e k
 cases dx with
 | str z =>
  cases dy with
  | int i =>
   unfold ixSD at e
   by_cases h : z.length <= sizeLine
   ·simp only [h, if_true] at e
    obtain ⟨c, e1, rfl⟩ := Option.map_eq_some_iff.mp e
    exact ⟨z, i, c, vx.str, vy.int, h, e1, k _ H (Same.refl H) (Rep.str _)⟩
   ·simp only [h] at e
    cases e
  | _ => cases e
 | _ => cases e
def inSD : D -> D -> Option Bool
 | .str i, .str j => some (!(Builtin.Str.occurrences j i 0 j.length 1).isEmpty)
 | _, _ => none
theorem xX4 : PrB (fun x y H Q => ∃ i j, x = .str i /\ y = .str j /\ Q (.bl (!(Builtin.Str.occurrences j i 0 j.length 1).isEmpty)) H) inSD := by
 intro Oc Ob H x y dx dy b Q vx vy e k
 cases dx with
 | str i =>
  cases dy with
  | str j =>
   cases e
   exact ⟨i, j, vx.str, vy.str, k⟩
  | _ => cases e
 | _ => cases e
def FewT (z : Str) (n : Int) : Prop := 0 <= n /\ n <= 1000 /\ z.length <= 1000
instance (z : Str) (n : Int) : Decidable (FewT z n) := by unfold FewT; infer_instance
theorem FewT.ok {z : Str} {n : Int} (h : FewT z n) : PySem.MulOk z n := by
 obtain ⟨h1, h2, h3⟩ := h
 refine ⟨by simp; bv_omega, fun h4 _ => ?_, fun h4 _ => ?_⟩
 ·have : (z.length : Int) * n <= 1000 * 1000 := Int.mul_le_mul (by bv_omega) h2 h1 (by bv_omega)
  have := Int.le_ediv_of_mul_le (a := (z.length : Int)) (b := 2 ^ 63 - 1) (c := n) (by bv_omega) (by bv_omega)
  bv_omega
 ·have : z.length * n.toNat <= 1000 * 1000 := Nat.mul_le_mul h3 (by bv_omega)
  have l : 1000 * 1000 <= sizeLine := by decide
  exact decide_eq_false (Nat.not_lt.mpr (Nat.le_trans this l))
def repSD : D -> D -> Option D
 | .str z, .int i => if FewT z i then some (.str (Txt.mul z i)) else none
 | _, _ => none
theorem yI2 {X : Cx} : OpR X (binaryOp .Mult) (fun x y H Q => ∃ z i, x = .str z /\ y = .int i /\ FewT z i /\ Q (.str (Txt.mul z i)) H) := by
 rintro pins s σ H x y v u Q I rx ry ⟨z, i, rfl, rfl, ok, q⟩
 obtain ⟨t, rfl⟩ := rx
 obtain ⟨t', rfl⟩ := ry
 exact SB.mul ok.ok fun t2 k => ⟨.str _, H, I.tok k, ⟨t2, rfl⟩, q⟩
theorem yK3 : Pr2 (fun x y H Q => ∃ z i, x = .str z /\ y = .int i /\ FewT z i /\ Q (.str (Txt.mul z i)) H) .cl repSD := by
 intro Oc Ob H x y dx dy d Q oh vx vy e k
 cases dx with
 | str z =>
  cases dy with
  | int i =>
   unfold repSD at e
   by_cases h : FewT z i
   ·simp only [h, if_true] at e
    cases e
    exact ⟨z, i, vx.str, vy.int, h, k _ H (Same.refl H) (Rep.str _)⟩
   ·simp only [h] at e
    cases e
  | _ => cases e
 | _ => cases e
def ItS (z : Str) : It := ⟨fun i _ => ∃ c, z.cps[i]? = some c, fun i H x H' => H' = H /\ ∃ c, z.cps[i]? = some c /\ x = .str ⟨#[c]⟩, fun i _ => z.cps[i]? = none⟩
theorem yO3 {P : Program} {w : World} {K : KFr} {tg : Expr} (z : Str) (t : Tok) (it : Addr) : Turn P w K tg (ItS z) [it] it (fun i h => h.IsStrIter it "str_ascii_iterator" z t i) where
 mem := by simp
 obj := fun i h st b hb => by
  have e : b = it := by simpa using hb
  subst e
  obtain ⟨o, e, c, d⟩ := st
  exact ⟨o, e, fun v z => by rw [d] at z; cases z⟩
 keep := fun i h h' st k => let ⟨o, e, r⟩ := st; ⟨o, k it (by simp) o e, r⟩
 item := by
  intro X hP hw hK hc i pins s σ H E I hf st ⟨c, hg⟩
  subst hP hw hK
  obtain ⟨f0, f1, f2, f3, f4, f5⟩ := hf it (by simp)
  refine wpAny_pyNext_ascii_item st hg fun h' st' sb => ?_
  have I1 : Inv X pins σ H { s with heap := h', toks := s.toks + 1 } := I.turned (fun b o hb e => (sb.2 b hb).trans e) f0 f1 f3 f4 f5
  obtain ⟨o, e, c', d⟩ := id st'
  exact ⟨_, rfl, zU4 (s := { s with heap := h', toks := s.toks + 1 }) e c' d (by decide) ⟨.str ⟨#[c]⟩, H, I1, ⟨_, rfl⟩, ⟨rfl, c, hg, rfl⟩, st', fun b hb => (hf b hb).1⟩⟩
 done := by
  intro X hP hw hK hc i pins s σ H E I hf st hg
  subst hP hw hK
  obtain ⟨f0, f1, f2, f3, f4, f5⟩ := hf it (by simp)
  exact wpAny_pyNext_ascii_end (I.ok.hd hc) st hg fun h' eb => ⟨rfl, I.turned (t' := s.toks) (fun b o hb e => eb b o hb e) f0 f1 f3 f4 f5⟩
 self := fun _ _ _ _ _ st h => wpAny_pyIter_striter_ascii st h
def signsD : D -> Option (List D)
 | .str z => if z.cps.all (· < 128) = true then some (z.cps.toList.map fun c => .str ⟨#[c]⟩) else none
 | _ => none
def iSt (m : Ev -> Res D) : Ev -> Res (List D) := fun ρ => (m ρ).bind fun d => Res.lft (signsD d)
theorem yG2 {C : Ct} {tg e : Expr} {md : Md} {ma : Ev -> Res D} (h : RE C md e ma) : RI C tg e (iSt ma) := by
 obtain ⟨t, p, q⟩ := h
 refine ⟨fun σ H R => t σ H fun x H1 => ∃ z, x = .str z /\ z.cps.all (· < 128) = true /\ R (ItS z) H1, fun pins s σ H R I h => ?_, fun Oc Ob σ H ρ W R h => q Oc Ob σ H ρ _ R (Res.zW (Res.zX h) (fun d _ k v H' s r => ?_) fun _ z => z)⟩
 ·refine thn (p pins s σ H _ I h) fun v s1 ⟨x, H1, I1, r1, z, ex, ha, q1⟩ => ?_
  subst ex
  obtain ⟨tk, rfl⟩ := r1
  refine wpAny_pyIter_ascii ha ?_
  refine ⟨s1.heap.objs.size, [s1.heap.objs.size], _, _, H1, rfl, I1.kept (t' := s1.toks) fun b o e => Heap.get?_push_of_some _ e, yO3 z tk _, ⟨_, Heap.get?_push_size _ rfl, rfl, rfl⟩, fun b hb => ?_, q1⟩
  have e : b = s1.heap.objs.size := by simpa using hb
  subst e
  exact I1.fpOk (Nat.le_refl _) (I1.hok.fresh (Nat.le_refl _))
 ·obtain ⟨ds, e, k⟩ := Res.zL k
  cases d with
  | str z =>
   unfold signsD at e
   by_cases ha : z.cps.all (· < 128) = true
   ·simp only [ha, if_true] at e
    cases e
    refine ⟨z, (r.va R.oh).str, ha, k _ H' s ?_⟩
    intro H2 Ob2 f s i
    refine ⟨fun d e => ?_, fun h => ?_⟩
    ·rw [List.getElem?_map] at e
     obtain ⟨c, e1, rfl⟩ := Option.map_eq_some_iff.mp e
     have e1 : z.cps[i]? = some c := by rw [<- Array.getElem?_toList]; exact e1
     refine ⟨⟨c, e1⟩, fun x H3 hy => ?_⟩
     obtain ⟨rfl, c', e2, rfl⟩ := hy
     rw [e1] at e2
     cases e2
     exact ⟨Same.refl _, .str _⟩
    ·show z.cps[i]? = none
     rw [<- Array.getElem?_toList]
     exact List.getElem?_eq_none (by simpa using h)
   ·simp only [ha] at e
    cases e
  | _ => cases e
section
variable {X : Cx} {CX : CXT} {k : Nat} {f : Addr} {fd : FuncData} {ps : List Str} {sp : Sp} {dvs : List V} {ds : List Value} {E : XK} {x : Str} {p pos : Pos} {e : Expr} {es : List Expr} {t : TA}
theorem yT4 {pins : List (Addr × Obj)} {σ : St} {H : Hp} {s : Shared} {Q : VK} {us : List Value} {vs : List V} (F : FnOk X.prog X.w X.K X.mg X.base CX k f fd ps sp) (hr : Room k X.A) (hb : Binds X.K fd ps ds) (hd : Vals dvs ds) (hx : ∀ e s', CX X.stack H s E e s' -> X.xe e s')
  (I : Inv X pins σ H s) (r : Vals vs us) (h : sp (vs ++ dvs) H Q E) : wpAny (model X.prog X.w) X.A (call (.ref f) us) (EP X pins σ Q) X.xe s := by
 have r2 : Vals (vs ++ dvs) (us ++ ds) := r.append hd
 have hl : (us ++ ds).length = ps.length := by rw [<- r2.length]; exact F.len _ _ _ _ h
 refine wpAny_call (codeAny_mono (F.run X.A X.stack s H ⟨us, []⟩ (us ++ ds) (vs ++ dvs) Q E hr I.env0 (hb s us I.kIn hl) r2 h) fun r s' hq => ?_)
 cases r with
 | error e => exact hx e s' hq
 | ok fl =>
  cases fl with
  | ret u => exact I.after hq
  | next => exact False.elim hq
  | brk => exact False.elim hq
  | cont => exact False.elim hq
theorem zD9 (σ0 : St) (F : FnOk X.prog X.w X.K X.mg X.base CX k f fd ps sp) (hr : Room k X.A) (hg : Gl X x) (hm : X.mg x = some (.ref f)) (hk : PySem.W.keepIn X.K (.ref f) = true) (hb : Binds X.K fd ps ds) (hd : Vals dvs ds) (hx : ∀ pins H s e s', Inv X pins σ0 H s -> CX X.stack H s E e s' -> X.xe e s')
  (ha : PA X (e :: es) t) (hdb : autoParam ((x == ("__debug__" : Str)) = false) zO._auto_1) (he : autoParam (starEach (e :: es) X.env = (false, eval e X.env) :: starEach es X.env) zZ._auto_1) (hpl : autoParam ((backTo pos (starEach es X.env)).any (·.1) = false) zZ._auto_1) :
  PE X (.Call (.Name x p) (e :: es) [] pos) (fun σ H Q => σ = σ0 /\ tCall sp dvs E t σ H Q) := by
 rintro pins s σ H Q I ⟨rfl, h⟩
 refine wpAny_Call_Name_kw (vV I hg hm ?_ hdb)
 refine PySem.W.callWith_K (h₀ := X.base) I.ok.mod.kin hk (thn (ha pos pins s σ H _ I h) fun us s1 ⟨vs, H1, I1, r, q⟩ => ⟨I1.kIn, ?_⟩) he hpl
 exact yT4 F hr hb hd (fun e s' z => hx _ _ _ e s' I1 z) I1 r q
end
theorem zM1 {X : Cx} {c : Str} {H : Hp} {s : Shared} {E2 : Value -> Shared -> Prop} {Q : Shared -> Prop} {pins : List (Addr × Obj)} {σ : St} {s1 : Shared} {H1 : Hp} {a : Addr} {B : Heap} {a0 : Value} (I1 : Inv X pins σ H1 s1) (I : Inv X pins σ H s) (un : Un (frs X.stack) [] H1 H s1.heap s.heap) (n1 : s1.heap.get? a = none) (n2 : H a = none) (f : Fl X.stack s1.heap H a (.ref (CN.ad c)) (rowOf c) B a0 s.heap) (hst : X.stack = X.env :: X.outer) (hfr : X.env.frame = some X.env.locals)
  (hQ : ∀ (s' : Shared), Inv X pins σ H s' -> Un (frs X.stack) [] H1 H s1.heap s'.heap -> Fl X.stack s1.heap H a (.ref (CN.ad c)) (rowOf c) B a0 s'.heap -> s'.heap.TracedW B a (.ref (CN.ad c)) a0 -> Q s') :
  wpAny (model X.prog X.w) X.A (noteFrame (.ref a) X.env) (fun _ s₂ => wpAny (model X.prog X.w) X.A (setFlight (.ref a) none) (fun _ s₃ => Q s₃) E2 s₂) E2 s := by
 have hfrm : s.heap.FunFrames B (X.env :: X.outer) := by rw [<- hst]; exact f.frm
 have hA : X.A.frames = some (X.env :: X.outer) := by rw [<- hst]; exact I.ok.frames
 obtain ⟨Φ, hP⟩ : ∃ Φ, Φ = FlK (.ref (CN.ad c)) (rowOf c) B s1.heap H := ⟨_, rfl⟩
 have fk : KpX Φ a s.heap := hP ▸ f.kp
 have key : ∀ h', Heap.NotedW B (X.env :: X.outer) a (.ref (CN.ad c)) a0 (rawInt X.env.locals) s.heap h' -> KpX Φ a h' -> wpAny (model X.prog X.w) X.A (setFlight (.ref a) none) (fun _ s₃ => Q s₃) E2 { s with heap := h' } := by
  rintro h' ⟨k1, k2, k3, k4⟩ kh
  rw [<- hst] at k2
  refine flightK (s := { s with heap := h' }) (B := B) (l := X.stack) (cls := .ref (CN.ad c)) (a0 := a0) k1 f.newB k2 k3 kh fun h2 fly ups kh2 => ?_
  have ups2 : s.heap.UpToSlots h2 := Heap.UpToSlots.trans k4 ups
  obtain ⟨J, un2, cov⟩ := fH I1 I un f fly.1 fly.2.2.1 ups2
  exact hQ _ J un2 ⟨fly.1, f.newB, fly.2.2.1, .inl ⟨_, fly.2.2.2.at⟩, hP ▸ kh2, cov⟩ fly.2.2.2
 rcases f.raw with t | ⟨oe, vs, he, hc, hd, h1, h0⟩
 ·obtain ⟨fl, t⟩ := t
  exact jP hA hfrm hfr t f.stays f.newB fk key
 ·rw [<- hc] at key
  unfold noteFrame
  simp only [hfr]
  refine wpAny_bind (wpAny_field he hd h1 ?_)
  rw [if_neg (by decide)]
  exact entryK hA hfrm hfr he f.stays f.newB hd (Array.getElem?_eq_some_iff.mp h1).1 h0 fk key
theorem zN2 {K : KFr} {a : Addr} (h1 : (PySem.W.clsIn K a).isSome = true) (h2 : PySem.W.typeIn K (.ref a) = some (.type "type")) (h3 : PySem.W.subIn K (.ref a) (.ref a) = some true) : PySem.W.kitCls K (.ref a) (.ref a) = some true := by
 rw [PySem.W.kitCls, if_pos (by rw [h1, h2]; decide +kernel)]
 exact h3
def sTryA (j i : Nat) (caught : List Str) (F : List D -> Res D) (ma : Ev -> Res (List D)) (ms : Ev -> Res Out) : Ev -> Res Out := fun ρ => match ma ρ with
 | .ok ds => match F ds with
  | .ok d => .ok (.nx (ρ.set i (some d)))
  | .ex c => if caught.contains c then (noEx (ms (ρ.set j (some (excD c))))).bind (unn j) else .no
  | .no => .no
 | .ex _ => .no
 | .no => .no
omit [CN] in
theorem yS2 {j i : Nat} {cs : List Str} {F : List D -> Res D} {ma : Ev -> Res (List D)} {ms : Ev -> Res Out} {ρ : Ev} {ds : List D} {d : D} (h : ma ρ = .ok ds) (e : F ds = .ok d) : sTryA j i cs F ma ms ρ = .ok (.nx (ρ.set i (some d))) := by
 unfold sTryA
 simp only [h, e]
omit [CN] in
theorem yQ8 {j i : Nat} {cs : List Str} {F : List D -> Res D} {ma : Ev -> Res (List D)} {ms : Ev -> Res Out} {ρ : Ev} {ds : List D} {c : Str} (h : ma ρ = .ok ds) (e : F ds = .ex c) (hc : cs.contains c = true) : sTryA j i cs F ma ms ρ = (noEx (ms (ρ.set j (some (excD c))))).bind (unn j) := by
 unfold sTryA
 simp only [h, e]
 rw [if_pos hc]
theorem yM8 {C : Ct} {fr : Bool} {x y z n : Str} {np hpos tpos p pos zp epos : Pos} {suite : List Stmt} {b₀ : Stmt} {ms : Ev -> Res Out} {ma : Ev -> Res (List D)} {k : Nat} {f : Addr} {fd : FuncData} {ps : List Str} {F : List D -> Res D} {e : Expr} {es : List Expr} {st : Stmt} (j i : Nat) (caught : List Str) (nd : C.X.N.Nodup)
  (G : FnOk C.X.prog C.X.w C.X.K C.X.mg C.X.base (CXV C.X.prog C.X.w) k f fd ps (spX false F)) (hh : Has C.X.K C.X.mg y st f fd ps) (hr : Room k C.X.A)
  (ha : ∀ (pn : List (Addr × Obj)) (xe : Value -> Shared -> Prop), RArg ⟨inTry C.X pn xe, fun _ _ => False, C.om, C.ln⟩ true (e :: es) ma)
  (hsuite : ∀ e : Value, RSs ⟨inSuite C.X e, fun _ _ => False, C.om, C.ln⟩ fr (b₀ :: suite) ms)
  (hcx : ∀ c, caught.contains c = true -> PySem.W.kitCls C.X.K (.ref (CN.ad c)) (.ref (CN.ad x)) = some true) (hcb : PySem.W.subIn C.X.K (.ref (CN.ad x)) (.type "BaseException") = some true) (hm : C.X.mg x = some (.ref (CN.ad x)))
  (hst : autoParam (C.X.stack = C.X.env :: C.X.outer) zZ._auto_1) (hfr : autoParam (C.X.env.frame = some C.X.env.locals) zZ._auto_1) (hex : autoParam (C.X.ex = []) zZ._auto_1) (hj : autoParam (C.X.N[j]? = some n) zZ._auto_1) (oj : autoParam (C.om.contains j = false) zZ._auto_1) (lj : autoParam (C.ln.contains j = false) zZ._auto_1) (hk : autoParam (C.X.env.scope.names.lookup n = some .local) zZ._auto_1)
  (hi : autoParam (C.X.N[i]? = some z) zZ._auto_1) (oi : autoParam (C.om.contains i = false) zZ._auto_1) (li : autoParam (C.ln.contains i = false) zZ._auto_1) (hz : autoParam (C.X.env.scope.names.lookup z = some .local) zZ._auto_1)
  (hg : autoParam (Gl C.X x) zZ._auto_1) (hdb : autoParam ((x == ("__debug__" : Str)) = false) zO._auto_1)
  (hgy : autoParam (Gl C.X y) zZ._auto_1) (hdby : autoParam ((y == ("__debug__" : Str)) = false) zO._auto_1) (he : autoParam (starEach (e :: es) C.X.env = (false, eval e C.X.env) :: starEach es C.X.env) zZ._auto_1) (hpl : autoParam ((backTo pos (starEach es C.X.env)).any (·.1) = false) zZ._auto_1) (hs : autoParam (swapsWith (.Call (.Name y p) (e :: es) [] pos) (some (.Name z zp)) epos.line C.X.env = pure false) zZ._auto_1) :
  RS C fr (.Try [.Assign [.Name z zp] (.Call (.Name y p) (e :: es) [] pos) epos] [.ExceptHandler (some (.Name x np)) (some n) (b₀ :: suite) hpos] [] [] tpos) (sTryA j i caught F ma ms) := by
 refine ⟨fun D σ H => ∀ pins s, Inv C.X pins σ H s -> wpAny (model C.X.prog C.X.w) C.X.A (exec (.Try [.Assign [.Name z zp] (.Call (.Name y p) (e :: es) [] pos) epos] [.ExceptHandler (some (.Name x np)) (some n) (b₀ :: suite) hpos] [] [] tpos) C.X.env) (SP C.X pins D) C.X.xe s, fun pins s σ H D I h => h pins s I, fun Oc Ob σ H ρ E R hp pins s I => ?_⟩
 refine wpAny_Try_except ?_
 generalize hxe : (fun (e : Value) (s₁ : Shared) => wpAny (model C.X.prog C.X.w) C.X.A (noteFrame e C.X.env) (fun _ s₂ => wpAny (model C.X.prog C.X.w) C.X.A (setFlight e none) (fun _ s₃ => wpAny (model C.X.prog C.X.w) C.X.A (handleBy e C.X.env [.ExceptHandler (some (.Name x np)) (some n) (b₀ :: suite) hpos]) (SP C.X pins E) C.X.xe s₃) C.X.xe s₂) C.X.xe s₁) = xe'
 obtain ⟨t, pa, q⟩ := ha (C.X.pn ++ pins) xe'
 have hx : ∀ pins' H0 s0 e0 s0', Inv (inTry C.X (C.X.pn ++ pins) xe') pins' σ H0 s0 -> CXV C.X.prog C.X.w C.X.stack H0 s0 (fun v ro H' => ∃ c, v = .ref (CN.ad c) /\ ro = rowOf c /\ Same H H' /\ caught.contains c = true /\ SPost C fr Oc Ob H' E ((noEx (ms (ρ.set j (some (excD c))))).bind (unn j))) e0 s0' -> xe' e0 s0' := by
  rintro pins' H0 s0 e0 s0' I0 ⟨a, cls, ro, B, a0, H', rfl, os, bare, un, hok, n1, n2, fl0, c, rfl, rfl, sm, hc, hsp⟩
  subst hxe
  have I2 := I0.call' os un hok bare (fun b z => by cases z)
  refine zM1 (X := inTry C.X (C.X.pn ++ pins) _) I0 I2 un n1 n2 fl0 hst hfr fun s3 J un fl tr => ?_
  have K3 : Inv C.X pins σ H' s3 := Inv.ofTry J
  have Km := Inv.toSuite K3 (.ref a)
  refine wpAny_handleBy_cons (codeAny_handlers_test ?_) (by intro q; cases q)
  refine vV (X := inSuite C.X (.ref a)) Km hg hm ?_ hdb
  obtain ⟨oe, _, _, _, _, he', ⟨hcl, _⟩, _⟩ := id tr
  refine zX3 K3.kIn he' hcl (hcx c hc) hcb ?_
  refine codeAny_handlers_suite_as ?_
  refine flightK (B := B) (l := C.X.stack) (cls := .ref (CN.ad c)) (a0 := a0) fl.stays fl.newB fl.frm tr.at fl.kp fun h4 fly ups k4 => ?_
  obtain ⟨I4, _, _⟩ := fH I0 J un fl fly.1 fly.2.2.1 ups
  have K4 : Inv C.X pins σ H' { s3 with heap := h4 } := Inv.ofTry I4
  have L1 : Inv C.X pins σ H0 s0 := Inv.ofTry I0
  obtain ⟨oe4, _, _, _, _, he4, ⟨hcl4, _⟩, _⟩ := id fly.2.2.2
  obtain ⟨lk, H4, T4, sm4, ha4, hr4⟩ := yX7 (c := c) L1 K4 n1 n2 hex fl.newB fly.1 k4 he4 hcl4
  refine uJ (X := inSuite C.X (.ref a)) (v := .ref a) (Inv.toSuite T4 (.ref a)) nd hj (.inl hk) rfl (fun s5 I5 => ?_) (.inr hk)
  obtain ⟨ts, ps', qs⟩ := hsuite (.ref a)
  have hU : ∀ b, Uni Oc Ob b -> H' b ≠ none := fun b z => Same.ne sm (R.oh b z)
  have R5 : Rel Oc Ob C.om C.ln (σ.set j (some (.ref a))) H4 (ρ.set j (some (excD c))) :=
   ((R.same sm).same sm4).set (yW oj) (yW lj) (.exc ha4 (fun r e => let ⟨d, z1, z2, z3⟩ := hr4 r e; ⟨d, z1, z2, fun z => hU d z z3⟩) fun z => hU a z n2)
  have sp5 := SPost.same sm4 hsp
  refine wpAny_mono (ps' pins s5 _ _ { nx := fun σ6 H6 => E.nx (σ6.set j none) H6, rt := E.rt, bk := fun σ6 H6 => E.bk (σ6.set j none) H6, ct := fun σ6 H6 => E.ct (σ6.set j none) H6 } I5 (qs Oc Ob _ _ _ _ R5 ?_)) (fun f s6 h6 => ?_) fun _ _ z => z.elim
  ·refine Res.zW (zC9 (Res.zX sp5)) (fun o _ k => ?_) fun _ z => z.elim
   cases o with
   | nx ρ' => exact fun σ6 H6 Ob6 R6 f6 s6 => k (σ6.set j none) H6 Ob6 (R6.unset j) f6 s6
   | rt d => exact k
  ·have go : ∀ {σ6 : St} {H6 : Hp}, Inv (inSuite C.X (.ref a)) pins σ6 H6 s6 -> (∀ s8, Inv C.X pins (σ6.set j none) H6 s8 -> SP C.X pins E f s8) -> wpAny (model C.X.prog C.X.w) C.X.A (do bindName C.X.env n .none; unbindBehindTheSuite C.X.env n hpos) (fun _ s₃ => SP C.X pins E f s₃) C.X.xe s6 := fun {σ6 H6} I6 kk => by
    have I6' := Inv.ofSuite K3.ok I6
    refine wpAny_bind (wpAny_bindName (uJ (v := .non) I6' nd hj (.inl hk) rfl (fun s7 I7 => ?_) (.inr hk)))
    have hlt : j < σ6.length := by rw [I6'.len]; exact (List.getElem?_eq_some_iff.mp hj).1
    unfold unbindBehindTheSuite
    refine wpAny_onRaise (zC7 I7 nd hj hk (List.getElem?_set_self hlt) fun s8 I8 => ?_)
    rw [List.set_set] at I8
    exact kk s8 I8
   cases f with
   | next => obtain ⟨σ6, H6, I6, q6⟩ := h6; exact go I6 fun s8 I8 => ⟨_, _, I8, q6⟩
   | brk => obtain ⟨σ6, H6, I6, q6⟩ := h6; exact go I6 fun s8 I8 => ⟨_, _, I8, q6⟩
   | cont => obtain ⟨σ6, H6, I6, q6⟩ := h6; exact go I6 fun s8 I8 => ⟨_, _, I8, q6⟩
   | ret u => obtain ⟨v, σ6, H6, I6, r6, q6⟩ := h6; exact go I6 fun s8 I8 => ⟨v, _, _, I8, r6, q6⟩
 have pc := zD9 (X := inTry C.X (C.X.pn ++ pins) xe') (pos := pos) (p := p) σ G hr hgy hh.m hh.F.kp hh.b .nil hx pa hdby he hpl
 have pb := fE (zR4 (X := inTry C.X (C.X.pn ++ pins) xe') (pos := epos) (pos' := zp) nd hi (.inl hz) pc hs (.inr hz))
 refine wpAny_mono (pb [] s σ H E (Inv.toTry I _) ⟨rfl, ?_⟩) (fun f s₁ hs => ?_) fun e s₁ z => z
 ·refine q Oc Ob σ H ρ _ R ?_
  unfold sTryA at hp
  cases em : ma ρ with
  | ex c => rw [em] at hp; exact hp.elim
  | no => rw [em] at hp; exact hp.elim
  | ok ds =>
   rw [em] at hp
   intro vs H1 s1 r
   show spX false F (vs ++ []) H1 _ _
   rw [List.append_nil]
   refine ⟨ds, Uni Oc Ob, (R.same s1).oh, r, ?_⟩
   cases ef : F ds with
   | no => simp only [ef] at hp; exact hp.elim
   | ok d =>
    simp only [ef] at hp
    exact fun v H' s2 rv => hp _ H' Ob ((R.same (s1.trans s2)).set (yW oi) (yW li) rv) (Same.frm (s1.trans s2)) fun b z => .inl z
   | ex c =>
    simp only [ef] at hp
    intro H' s2
    by_cases hc : caught.contains c = true
    ·rw [if_pos hc] at hp
     exact ⟨c, rfl, rfl, s1.trans s2, hc, SPost.step (Same.frm (s1.trans s2)) (fun b z => .inl z) hp⟩
    ·rw [if_neg hc] at hp
     exact hp.elim
 ·cases f with
  | next => exact wpAny_execs_nil (SP.ofTry hs)
  | brk => exact SP.ofTry (f := .brk) hs
  | cont => exact SP.ofTry (f := .cont) hs
  | ret u => exact SP.ofTry (f := .ret u) hs
end L2.L3
namespace L2.L3
open PySem PySem.Spec PyProof.Rows
theorem zM9 {K : KFr} {B : Addr} {nid : String} (q : PySem.W.excIn K B bmV nid = true) : PySem.W.tailIn K bmV (.ref B :: bmV) = true := by
 have base : PySem.W.tailIn K bmV bmV = true := by
  unfold PySem.W.tailIn
  rw [beq_self_eq_true, Bool.true_or]
 unfold PySem.W.tailIn
 rw [PySem.W.excIn] at q
 refine Bool.or_eq_true_iff.mpr (.inr ?_)
 split at q
 case h_2 => cases q
 case h_1 lk =>
  split at q
  case h_2 => cases q
  case h_1 =>
   rw [Bool.and_eq_true, Bool.and_eq_true] at q
   simp only [lk]
   rw [q.1.2, q.2, base]
   rfl
theorem yM1 {K : KFr} {C B N : Addr} {nm q : Str} {bs : List Value} {hdct : Bool} {sn : List Str} {sub : List Value} {ab : Bool} {col : Option Bool} {dd : Option Addr} {k0 k1 k2 k3 k5 : Option Value}
  (h : K.lookup C = some (excClassObj nm q C N bs (.ref B :: bmV) hdct sn sub ab col dd k0 k1 k2 k3 k5 "ValueError.__new__")) (hb : PySem.W.excIn K B bmV "ValueError.__new__" = true) : ExIn K C bmV "ValueError.__new__" :=
 ⟨N, _, nm, q, bs, hdct, sn, sub, ab, col, dd, k0, k1, k2, k3, k5, h, zM9 hb⟩
theorem zB9 {K : KFr} {C : Addr} {cd : ClassData} (sa : PySem.W.findIn K (.ref C) "__setattr__" = some (some (.builtin "object.__setattr__"))) (hc : PySem.W.clsIn K C = some cd) (ho : (underV cd.mro && cd.hasDict) = true) (nr : PySem.W.findIn K (.ref C) "row" = some none) : RowCls K C :=
 ⟨sa, by rw [hc]; exact ho, nr⟩
def BtFi (K : KFr) (C : Addr) (st : Stmt) : Prop := ∃ fI fd, PySem.W.findIn K (.ref C) "__init__" = some (some (.ref fI)) /\ PySem.W.isFn K (.ref fI) = true /\ Fun K "__init__" "BadText.__init__" st fI fd /\ Binds K fd ["self", "row"] []
theorem yM9 {K : KFr} {C f : Addr} {st : Stmt} {oc : Value} {od an : Option Addr} {osl : Array (Option Value)} {kV doc pm cdv ct : Value} (hi : PySem.W.findIn K (.ref C) "__init__" = some (some (.ref f))) (hf : PySem.W.isFn K (.ref f) = true)
  (l : K.lookup f = some ⟨oc, od, .func (PySem.W.fnOf "__init__" "BadText.__init__" (defArgs st) (defBody st) (zT st) .none kV doc pm an cdv ct), osl⟩) (c : PySem.W.codeIn K cdv "BadText.__init__" = true) (k : PySem.W.keepIn K (.ref f) = true)
  (hb : ∀ (kV doc pm : Value) (an : Option Addr) (cdv ct : Value) (us : List Value), us.length = 2 -> bindArgs (PySem.W.fnOf "__init__" "BadText.__init__" (defArgs st) (defBody st) (zT st) .none kV doc pm an cdv ct) ⟨us, []⟩ = pure ((["self", "row"] : List Str).zip us)) : BtFi K C st :=
 have F := zA9 (st := st) l c k
 ⟨f, _, hi, hf, F, F.binds hb⟩
end L2.L3
namespace MR
theorem pigeon : ∀ (n : Nat) (f : Nat -> Nat), (∀ i, i <= n -> f i < n) -> ∃ i j, i < j /\ j <= n /\ f i = f j
 | 0, f, h => absurd (h 0 (Nat.le_refl _)) (by bv_omega)
 | n + 1, f, h => by
  by_cases c : ∃ i, i <= n /\ f i = f (n + 1)
  ·obtain ⟨i, hi, e⟩ := c
   exact ⟨i, n + 1, by bv_omega, Nat.le_refl _, e⟩
  ·have ne : ∀ i, i <= n -> f i ≠ f (n + 1) := fun i hi e => c ⟨i, hi, e⟩
   obtain ⟨i, j, h1, h2, e⟩ := pigeon n (fun i => if f (n + 1) < f i then f i - 1 else f i) fun i hi => by
    have a := h i (by bv_omega)
    have b := h (n + 1) (Nat.le_refl _)
    have d := ne i hi
    show (if f (n + 1) < f i then f i - 1 else f i) < n
    split <;> bv_omega
   refine ⟨i, j, h1, by bv_omega, ?_⟩
   have di := ne i (by bv_omega)
   have dj := ne j h2
   have e : (if f (n + 1) < f i then f i - 1 else f i) = (if f (n + 1) < f j then f j - 1 else f j) := e
   split at e <;> split at e <;> bv_omega
structure Ord (n : Nat) (xs : List Int) : Prop where
 len : xs.length = n
 bd : ∀ i, i < n -> 0 <= xs.getD i 0 /\ xs.getD i 0 < n
 inj : ∀ i j, i < n -> j < n -> xs.getD i 0 = xs.getD j 0 -> i = j
def nxt (xs : List Int) (b : Nat) : Nat := (xs.getD b 0).toNat
def it (xs : List Int) : Nat -> Nat -> Nat
 | 0, b => b
 | k + 1, b => nxt xs (it xs k b)
section
variable {n : Nat} {xs : List Int}
theorem Ord.xY7 (o : Ord n xs) {b : Nat} (h : b < n) : nxt xs b < n := by
 have := o.bd b h
 unfold nxt; bv_omega
theorem Ord.qC (o : Ord n xs) {b : Nat} (h : b < n) : xs.getD b 0 = (nxt xs b : Int) := by
 have := o.bd b h
 unfold nxt; bv_omega
theorem Ord.yK8 (o : Ord n xs) {b c : Nat} (h : b < n) (h' : c < n) (e : nxt xs b = nxt xs c) : b = c :=
 o.inj b c h h' (by rw [o.qC h, o.qC h', e])
theorem Ord.vI (o : Ord n xs) {b : Nat} (h : b < n) : ∀ k, it xs k b < n
 | 0 => h
 | k + 1 => o.xY7 (o.vI h k)
theorem jT (xs : List Int) (b : Nat) (j : Nat) : ∀ k, it xs (k + j) b = it xs k (it xs j b)
 | 0 => by rw [Nat.zero_add]; rfl
 | k + 1 => by rw [Nat.add_right_comm]; show nxt xs (it xs (k + j) b) = nxt xs (it xs k (it xs j b)); rw [jT xs b j k]
theorem Ord.zR6 (o : Ord n xs) {b c : Nat} (h : b < n) (h' : c < n) : ∀ k, it xs k b = it xs k c -> b = c
 | 0, e => e
 | k + 1, e => o.zR6 h h' k (o.yK8 (o.vI h k) (o.vI h' k) e)
theorem Ord.back (o : Ord n xs) {b : Nat} (h : b < n) : ∃ p, 1 <= p /\ p <= n /\ it xs p b = b := by
 obtain ⟨i, j, h1, h2, e⟩ := pigeon n (fun i => it xs i b) fun i _ => o.vI h i
 refine ⟨j - i, by bv_omega, by bv_omega, ?_⟩
 have e2 : it xs i (it xs (j - i) b) = it xs i b := by
  rw [<- jT, show i + (j - i) = j by bv_omega]
  exact e.symm
 exact o.zR6 (o.vI h _) h i e2
def perGo (xs : List Int) (b : Nat) : Nat -> Nat -> Nat
 | 0, k => k
 | fuel + 1, k => if it xs k b = b then k else perGo xs b fuel (k + 1)
theorem bE (xs : List Int) (b : Nat) : ∀ (fuel k : Nat), (∃ p, k <= p /\ p <= k + fuel /\ it xs p b = b) ->
  k <= perGo xs b fuel k /\ perGo xs b fuel k <= k + fuel /\ it xs (perGo xs b fuel k) b = b /\ ∀ i, k <= i -> i < perGo xs b fuel k -> it xs i b ≠ b
 | 0, k, ⟨p, h1, h2, e⟩ => by
  have : p = k := by bv_omega
  subst this
  exact ⟨Nat.le_refl _, Nat.le_refl _, e, fun i a c => absurd (show i < p from c) (by bv_omega)⟩
 | fuel + 1, k, ⟨p, h1, h2, e⟩ => by
  by_cases c : it xs k b = b
  ·rw [perGo, if_pos c]
   exact ⟨Nat.le_refl _, by bv_omega, c, fun i a d => absurd d (by bv_omega)⟩
  ·rw [perGo, if_neg c]
   have hp : k + 1 <= p := by
    rcases Nat.lt_or_ge k p with q | q
    ·exact q
    ·have : p = k := by bv_omega
     subst this
     exact absurd e c
   obtain ⟨a1, a2, a3, a4⟩ := bE xs b fuel (k + 1) ⟨p, hp, by bv_omega, e⟩
   refine ⟨by bv_omega, by bv_omega, a3, fun i hi hl => ?_⟩
   by_cases q : i = k
   ·rw [q]; exact c
   ·exact a4 i (by bv_omega) hl
def per (n : Nat) (xs : List Int) (b : Nat) : Nat := perGo xs b (n - 1) 1
theorem Ord.xP (o : Ord n xs) {b : Nat} (h : b < n) : 1 <= per n xs b /\ per n xs b <= n /\ it xs (per n xs b) b = b /\ ∀ i, 1 <= i -> i < per n xs b -> it xs i b ≠ b := by
 obtain ⟨p, h1, h2, e⟩ := o.back h
 obtain ⟨a1, a2, a3, a4⟩ := bE xs b (n - 1) 1 ⟨p, h1, by bv_omega, e⟩
 exact ⟨a1, by unfold per; bv_omega, a3, a4⟩
theorem Ord.xV3 (o : Ord n xs) {b : Nat} (h : b < n) {i j : Nat} (hij : i < j) (hj : j < per n xs b) : it xs i b ≠ it xs j b := fun e => by
 obtain ⟨_, _, _, a4⟩ := o.xP h
 refine a4 (j - i) (by bv_omega) (by bv_omega) ?_
 refine o.zR6 (o.vI h _) h i ?_
 rw [<- jT, show i + (j - i) = j by bv_omega]
 exact e.symm
theorem yX4 (xs : List Int) (b p : Nat) (e : it xs p b = b) : ∀ k, it xs (k * p) b = b
 | 0 => by rw [Nat.zero_mul]; rfl
 | k + 1 => by rw [Nat.succ_mul, jT, e, yX4 xs b p e k]
theorem Ord.yB5 (o : Ord n xs) {b : Nat} (h : b < n) (k : Nat) : it xs k b = it xs (k % per n xs b) b := by
 obtain ⟨a1, _, a3, _⟩ := o.xP h
 have e : k = k % per n xs b + (k / per n xs b) * per n xs b := by rw [Nat.mul_comm]; exact (Nat.mod_add_div k (per n xs b)).symm
 conv => lhs; rw [e, jT, yX4 xs b _ a3]
def In (n : Nat) (xs : List Int) (b c : Nat) : Prop := ∃ i, i < per n xs b /\ it xs i b = c
theorem Ord.zE6 (o : Ord n xs) {b : Nat} (h : b < n) (k : Nat) : In n xs b (it xs k b) := by
 obtain ⟨a1, _⟩ := o.xP h
 exact ⟨k % per n xs b, Nat.mod_lt _ (by bv_omega), (o.yB5 h k).symm⟩
theorem Ord.yH8 (o : Ord n xs) {b : Nat} (h : b < n) : In n xs b b := o.zE6 h 0
theorem Ord.zV8 (o : Ord n xs) {b c : Nat} (h : b < n) (hc : In n xs b c) : c < n := by
 obtain ⟨i, _, rfl⟩ := hc
 exact o.vI h i
theorem Ord.yH9 (o : Ord n xs) {b c : Nat} (h : b < n) (hc : In n xs b c) : In n xs c b := by
 obtain ⟨i, hi, rfl⟩ := hc
 obtain ⟨a1, _, a3, _⟩ := o.xP h
 have e : it xs (per n xs b - i) (it xs i b) = b := by rw [<- jT, show per n xs b - i + i = per n xs b by bv_omega]; exact a3
 have := o.zE6 (o.vI h i) (per n xs b - i)
 rw [e] at this
 exact this
theorem Ord.yU6 (o : Ord n xs) {b c d : Nat} (h : b < n) (hc : In n xs b c) (hd : In n xs c d) : In n xs b d := by
 obtain ⟨i, _, rfl⟩ := hc
 obtain ⟨j, _, rfl⟩ := hd
 rw [<- jT]
 exact o.zE6 h _
def ring (n : Nat) (xs : List Int) (b : Nat) : List Nat := (List.range (per n xs b)).map fun i => it xs i b
theorem kY (n : Nat) (xs : List Int) (b : Nat) : (ring n xs b).length = per n xs b := by unfold ring; simp
theorem wU {b c : Nat} : c ∈ ring n xs b ↔ In n xs b c := by
 unfold ring In
 simp only [List.mem_map, List.mem_range]
theorem Ord.kD (o : Ord n xs) {b : Nat} (h : b < n) : (ring n xs b).Nodup := by
 unfold ring List.Nodup
 rw [List.pairwise_map]
 refine List.Pairwise.imp_of_mem ?_ (List.pairwise_lt_range (n := per n xs b))
 intro i j hi hj hlt
 exact o.xV3 h hlt (List.mem_range.mp hj)
def has (rs : List (List Nat)) (b : Nat) : Bool := rs.any fun r => r.contains b
def rgs (n : Nat) (xs : List Int) : Nat -> List (List Nat)
 | 0 => []
 | b + 1 => if has (rgs n xs b) b then rgs n xs b else rgs n xs b ++ [ring n xs b]
theorem aM {rs : List (List Nat)} {b : Nat} : has rs b = true ↔ ∃ r ∈ rs, b ∈ r := by
 unfold has
 simp [List.any_eq_true]
structure Rgs (n : Nat) (xs : List Int) (m : Nat) (rs : List (List Nat)) : Prop where
 each : ∀ r ∈ rs, ∃ b, b < m /\ r = ring n xs b /\ ∀ c, In n xs b c -> b <= c
 cover : ∀ c, c < m -> ∃ r ∈ rs, c ∈ r
 nodup : rs.flatten.Nodup
 rise : rs.Pairwise fun r r' => ∀ x ∈ r.head?, ∀ y ∈ r'.head?, x < y
theorem gM (o : Ord n xs) {b : Nat} (h : b < n) : (ring n xs b).head? = some b := by
 obtain ⟨a1, _⟩ := o.xP h
 unfold ring
 obtain ⟨p, hp⟩ : ∃ p, per n xs b = p + 1 := ⟨per n xs b - 1, by bv_omega⟩
 rw [hp, List.range_succ_eq_map]
 rfl
theorem Ord.fO (o : Ord n xs) : ∀ m, m <= n -> Rgs n xs m (rgs n xs m)
 | 0, _ => ⟨fun r hr => by simp [rgs] at hr, fun c hc => absurd hc (by bv_omega), by simp [rgs], by simp [rgs]⟩
 | m + 1, h => by
  have ih := o.fO m (by bv_omega)
  by_cases c : has (rgs n xs m) m = true
  ·rw [rgs, if_pos c]
   refine ⟨fun r hr => ?_, fun d hd => ?_, ih.nodup, ih.rise⟩
   ·obtain ⟨b, hb, e, hm⟩ := ih.each r hr
    exact ⟨b, by bv_omega, e, hm⟩
   ·by_cases q : d = m
    ·rw [q]; exact aM.mp c
    ·exact ih.cover d (by bv_omega)
  ·rw [rgs, if_neg c]
   have hm : m < n := by bv_omega
   have apart : ∀ d, In n xs m d -> ¬ ∃ r ∈ rgs n xs m, d ∈ r := fun d hd ⟨r, hr, hdr⟩ => by
    obtain ⟨b, hb, rfl, _⟩ := ih.each r hr
    have h1 : In n xs b d := wU.mp hdr
    have h2 : In n xs b m := o.yU6 (by bv_omega) h1 (o.yH9 hm hd)
    exact c (aM.mpr ⟨_, hr, wU.mpr h2⟩)
   refine ⟨fun r hr => ?_, fun d hd => ?_, ?_, ?_⟩
   ·rcases List.mem_append.mp hr with hr | hr
    ·obtain ⟨b, hb, e, hmin⟩ := ih.each r hr
     exact ⟨b, by bv_omega, e, hmin⟩
    ·have : r = ring n xs m := by simpa using hr
     refine ⟨m, by bv_omega, this, fun d hd => ?_⟩
     rcases Nat.lt_or_ge d m with q | q
     ·exact absurd (ih.cover d q) (apart d hd)
     ·exact q
   ·by_cases q : d = m
    ·rw [q]
     exact ⟨_, List.mem_append_right _ (by simp), wU.mpr (o.yH8 hm)⟩
    ·obtain ⟨r, hr, hd⟩ := ih.cover d (by bv_omega)
     exact ⟨r, List.mem_append_left _ hr, hd⟩
   ·rw [List.flatten_append, List.nodup_append]
    refine ⟨ih.nodup, by simpa using o.kD hm, fun a ha b hb e => ?_⟩
    have hb' : b ∈ ring n xs m := by simpa using hb
    subst e
    obtain ⟨r, hr, har⟩ := List.mem_flatten.mp ha
    exact apart a (wU.mp hb') ⟨r, hr, har⟩
   ·rw [List.pairwise_append]
    refine ⟨ih.rise, by simp, fun r hr r' hr' x hx y hy => ?_⟩
    have e : r' = ring n xs m := by simpa using hr'
    obtain ⟨b, hb, rfl, _⟩ := ih.each r hr
    rw [gM o (by bv_omega)] at hx
    rw [e, gM o hm] at hy
    have hx : x = b := by simpa using hx.symm
    have hy : y = m := by simpa using hy.symm
    bv_omega
end
def rg (n : Nat) : List Int := (List.range n).map fun (i : Nat) => (i : Int)
theorem yW2 (n : Nat) : (rg n).length = n := by unfold rg; simp
theorem zC5 {n : Nat} {a : Int} : a ∈ rg n ↔ 0 <= a /\ a < n := by
 unfold rg
 simp only [List.mem_map, List.mem_range]
 constructor
 ·rintro ⟨i, hi, rfl⟩; bv_omega
 ·intro h; exact ⟨a.toNat, by bv_omega, by bv_omega⟩
theorem yN8 (n : Nat) : (rg n).Pairwise (· < ·) := by
 unfold rg
 rw [List.pairwise_map]
 exact List.Pairwise.imp (fun h => by bv_omega) (List.pairwise_lt_range (n := n))
theorem yS7 (n : Nat) : (rg n).Nodup := (yN8 n).imp fun h => by bv_omega
theorem xV1 (n : Nat) : (rg n).Pairwise (· <= ·) := (yN8 n).imp fun h => by bv_omega
theorem zM2 {a b : List Int} (p : a.Perm b) (ha : a.Pairwise (· <= ·)) (hb : b.Pairwise (· <= ·)) : a = b :=
 p.eq_of_pairwise (fun x y _ _ h1 h2 => by bv_omega) ha hb
theorem zD4 {xs : List Int} (h : xs.Nodup) {i j : Nat} (hi : i < xs.length) (hj : j < xs.length) (e : xs.getD i 0 = xs.getD j 0) : i = j := by
 rw [List.getD_eq_getElem?_getD, List.getElem?_eq_getElem hi, List.getD_eq_getElem?_getD, List.getElem?_eq_getElem hj] at e
 have e : xs[i] = xs[j] := e
 rcases Nat.lt_trichotomy i j with q | q | q
 ·exact absurd e (List.pairwise_iff_getElem.mp h i j hi hj q)
 ·exact q
 ·exact absurd e.symm (List.pairwise_iff_getElem.mp h j i hj hi q)
theorem yR1 {xs : List Int} {i : Nat} (h : i < xs.length) : xs.getD i 0 ∈ xs := by
 rw [List.getD, List.getElem?_eq_getElem h]
 exact List.getElem_mem h
theorem zM7 {n : Nat} {xs : List Int} (p : xs.Perm (rg n)) : Ord n xs := by
 have hl : xs.length = n := by rw [p.length_eq, yW2]
 have nd : xs.Nodup := p.nodup_iff.mpr (yS7 n)
 exact ⟨hl, fun i hi => zC5.mp (p.mem_iff.mp (yR1 (by bv_omega))), fun i j hi hj e => zD4 nd (by bv_omega) (by bv_omega) e⟩
def insAt (xs : List Int) (i : Nat) (v : Int) : List Int := xs.take i ++ v :: xs.drop i
theorem zF1 (xs : List Int) (i : Nat) (v : Int) : (insAt xs i v).Perm (v :: xs) := by
 unfold insAt
 have := List.perm_middle (a := v) (l₁ := xs.take i) (l₂ := xs.drop i)
 rwa [List.take_append_drop] at this
def lawOrd (cell : Int) : Nat -> List Int × Int
 | 0 => ([], cell)
 | k + 1 => (insAt (lawOrd cell k).1 ((lawOrd cell k).2 % ((k : Int) + 1)).toNat k, (lawOrd cell k).2 / ((k : Int) + 1))
theorem yL1 (n : Nat) : rg (n + 1) = rg n ++ [(n : Int)] := by unfold rg; rw [List.range_succ, List.map_append]; rfl
theorem dF (cell : Int) : ∀ k, (lawOrd cell k).1.Perm (rg k)
 | 0 => List.Perm.refl _
 | k + 1 => by
  rw [yL1]
  refine (zF1 _ _ _).trans ?_
  refine ((dF cell k).cons _).trans ?_
  exact (List.perm_append_singleton _ _).symm
theorem bF (cell : Int) (n : Nat) : Ord n (lawOrd cell n).1 := zM7 (dF cell n)
end MR
namespace M12
def ff (n : Int) : Nat -> Int
 | 0 => 1
 | j + 1 => ff n j * (n - j)
def tot (least : Int) (many : List Int) : Nat -> Int
 | 0 => 0
 | j + 1 => if least <= (j : Int) + 1 then tot least many j + ff ((many.length : Int) - 1) j * many.getD (many.length - (j + 1)) 0 else tot least many j
def mbl (least most : Int) : Nat -> List Int
 | 0 => [1]
 | n + 1 => mbl least most n ++ [tot least (mbl least most n) (min most ((n : Int) + 1)).toNat]
def G (least most : Int) (n : Nat) : Int := (mbl least most n).getD n 0
def B : Int := 2 ^ 400
end M12
namespace M12
end M12
namespace M12
def bin : Nat -> Nat -> Int
 | _, 0 => 1
 | 0, _ + 1 => 0
 | n + 1, m + 1 => bin n m + bin n (m + 1)
end M12
namespace M12
end M12
namespace M12
def e0 (i : Nat) : Int := if i = 0 then 1 else 0
end M12
namespace MR
section
variable {n : Nat} {xs : List Int}
end
section
variable {n : Nat} {xs : List Int}
theorem flatP (o : Ord n xs) : (rgs n xs n).flatten.Perm (List.range n) := by
 have k := o.fO n (Nat.le_refl n)
 rw [List.perm_ext_iff_of_nodup k.nodup List.nodup_range]
 intro a
 rw [List.mem_range, List.mem_flatten]
 constructor
 ·rintro ⟨r, hr, ha⟩
  obtain ⟨b, hb, rfl, _⟩ := k.each r hr
  exact o.zV8 hb (wU.mp ha)
 ·intro h
  exact k.cover a h
theorem part (o : Ord n xs) {a : Nat} (ha : a < n) : (ring n xs a ++ (List.range n).filter fun c => !(ring n xs a).contains c).Perm (List.range n) := by
 have nd := o.kD ha
 rw [List.perm_ext_iff_of_nodup ?_ List.nodup_range]
 ·intro c
  rw [List.mem_append, List.mem_filter, List.mem_range]
  constructor
  ·rintro (h | h)
   ·exact o.zV8 ha (wU.mp h)
   ·exact h.1
  ·intro h
   cases e : (ring n xs a).contains c with
   | true => exact .inl (List.contains_iff_mem.mp e)
   | false => exact .inr ⟨h, rfl⟩
 ·rw [List.nodup_append]
  refine ⟨nd, List.nodup_range.filter _, fun x hx y hy e => ?_⟩
  subst e
  have := (List.mem_filter.mp hy).2
  rw [List.contains_iff_mem.mpr hx] at this
  cases this
end
def nf : Nat -> Nat -> Nat
 | _, 0 => 1
 | m, j + 1 => m * nf (m - 1) j
def pr' : List Nat -> List Nat -> Nat
 | _, [] => 0
 | l, x :: xs => l.idxOf x * nf (l.length - 1) xs.length + pr' (l.erase x) xs
theorem xE {l : List Nat} {j : Nat} (h : j < l.length) : l.getD j 0 ∈ l := by simp [List.getD, h]
def smN (A : Nat -> Nat) (c : Nat) : Nat -> Nat
 | 0 => 0
 | j + 1 => smN A c j + nf (c - 1) j * A (c - (j + 1))
def gn (k m : Nat) : Nat := (M12.G 1 (k : Int) m).toNat
def wo (l r : List Nat) : List Nat := l.filter fun b => !r.contains b
inductive Told (k : Nat) : List Nat -> Nat -> List (List Nat) -> Prop
 | nil : Told k [] 0 []
 | cons {a : Nat} {t xs : List Nat} {M : Nat} {rs : List (List Nat)} : xs.length < k -> xs.Nodup -> (∀ x ∈ xs, x ∈ t) -> Told k (wo (a :: t) (a :: xs)) M rs ->
  Told k (a :: t) (smN (gn k) (t.length + 1) xs.length + pr' t xs * gn k (t.length - xs.length) + M) ((a :: xs) :: rs)
def Can (rs : List (List Nat)) : Prop := (∀ r ∈ rs, ∃ a xs, r = a :: xs /\ ∀ x ∈ xs, a < x) /\ rs.Pairwise fun r r' => ∀ x ∈ r.head?, ∀ y ∈ r', x < y
inductive Chain : List Nat -> List (List Nat) -> Prop
 | nil : Chain [] []
 | cons {a : Nat} {t xs : List Nat} {rs : List (List Nat)} : xs.Nodup -> (∀ x ∈ xs, x ∈ t) -> Chain (wo (a :: t) (a :: xs)) rs -> Chain (a :: t) ((a :: xs) :: rs)
theorem yM5 {n : Nat} {xs : List Int} (o : Ord n xs) : Can (rgs n xs n) := by
 have k := o.fO n (Nat.le_refl n)
 have hd : ∀ r ∈ rgs n xs n, ∃ b, b < n /\ r = ring n xs b /\ r.head? = some b /\ ∀ c ∈ r, b <= c := fun r hr => by
  obtain ⟨b, hb, rfl, h⟩ := k.each r hr
  exact ⟨b, hb, rfl, gM o hb, fun c hc => h c (wU.mp hc)⟩
 refine ⟨fun r hr => ?_, ?_⟩
 ·obtain ⟨b, hb, e, h1, h2⟩ := hd r hr
  have nd : r.Nodup := by rw [e]; exact o.kD hb
  cases r with
  | nil => cases h1
  | cons a ys =>
   have : a = b := by simpa using h1
   subst this
   refine ⟨a, ys, rfl, fun x hx => ?_⟩
   have := h2 x (List.mem_cons_of_mem _ hx)
   have ne : a ≠ x := fun z => (List.nodup_cons.mp nd).1 (z ▸ hx)
   bv_omega
 ·have all : ∀ L : List (List Nat), (∀ r ∈ L, r ∈ rgs n xs n) -> L.Pairwise (fun r r' => ∀ x ∈ r.head?, ∀ y ∈ r'.head?, x < y) -> L.Pairwise (fun r r' => ∀ x ∈ r.head?, ∀ y ∈ r', x < y) := fun L => by
   induction L with
   | nil => exact fun _ _ => List.Pairwise.nil
   | cons r L ih =>
    intro hL w
    have w' := List.pairwise_cons.mp w
    refine List.pairwise_cons.mpr ⟨fun r' hr' x hx y hy => ?_, ih (fun r hr => hL r (List.mem_cons_of_mem _ hr)) w'.2⟩
    obtain ⟨b, _, _, h1, h2⟩ := hd r' (hL r' (List.mem_cons_of_mem _ hr'))
    have := w'.1 r' hr' x hx b (by rw [h1]; rfl)
    have := h2 y hy
    bv_omega
  exact all _ (fun r hr => hr) k.rise
end MR
namespace MR
open PySem PySem.StrLaws PySem.Builtin PySem.Builtin.Str
def tl (x : Str) : List Nat := x.cps.toList
theorem zD (x : Str) : (tl x).length = x.length := by unfold tl Str.length; simp
theorem zH (a b : Str) : tl (a ++ b) = tl a ++ tl b := by unfold tl; rw [Str.cps_append]; simp
theorem kK {a b : Str} (h : tl a = tl b) : a = b := by
 apply Str.ext'
 have : a.cps.toList.toArray = b.cps.toList.toArray := congrArg _ h
 simpa using this
theorem cH (l : List Nat) : tl ⟨l.toArray⟩ = l := by unfold tl; simp
theorem wV (y p q : Str) (r : List Str) : Str.join y (p :: q :: r) = p ++ y ++ Str.join y (q :: r) := rfl
theorem zA3 {x y : Str} {k : Nat} (h1 : 1 <= y.length) : At x y x.length k ↔ ((tl x).drop k).take y.length = tl y := by
 unfold At
 rw [subAt_eq, beq_iff_eq]
 constructor
 ·exact fun h => h.2
 ·intro h
  refine ⟨?_, h⟩
  have l := congrArg List.length h
  rw [zD, List.length_take, List.length_drop, zD] at l
  bv_omega
theorem yZ3 (x : Str) (a b : Nat) : tl (strSub x a b) = ((tl x).drop a).take (b - a) := strSub_toList x a b
theorem zF5 {x y : Str} {c : Nat} {y' : List Nat} (hy : tl y = c :: y') : ∀ (ps : List Str) (a f : Nat) (cuts : List Nat), ps ≠ [] -> (∀ p ∈ ps, c ∉ tl p) -> (tl x).drop a = tl (Str.join y ps) -> a <= x.length -> ChainG x y x.length a cuts f -> (∀ k, f <= k -> ¬ At x y x.length k) -> partsFrom x y.length a cuts = ps := by
 have y1 : 1 <= y.length := by rw [<- zD, hy]; simp
 have fst : ∀ k, At x y x.length k -> (tl x)[k]? = some c := fun k h => by
  have e := (zA3 y1).mp h
  rw [hy] at e
  have := congrArg (fun l => l[0]?) e
  simp only [List.getElem?_cons_zero] at this
  rw [List.getElem?_take_of_lt (by bv_omega), List.getElem?_drop] at this
  simpa using this
 intro ps
 induction ps with
 | nil => intro a f cuts h; exact absurd rfl h
 | cons p ps ih =>
  intro a f cuts _ hc hd ha hG hn
  have pc := hc p List.mem_cons_self
  cases ps with
  | nil =>
   have hd : (tl x).drop a = tl p := hd
   have no : ∀ k, a <= k -> ¬ At x y x.length k := fun k hk h => by
    have e := fst k h
    have e2 : (tl p)[k - a]? = some c := by
     rw [<- hd, List.getElem?_drop, show a + (k - a) = k by bv_omega]
     exact e
    exact pc (List.mem_of_getElem? e2)
   cases cuts with
   | cons d r => exact absurd hG.2.1 (no d hG.1)
   | nil =>
    show [strSub x a x.length] = [p]
    rw [show strSub x a x.length = p from kK (by rw [yZ3, hd, List.take_of_length_le]; rw [<- hd, List.length_drop, zD]; exact Nat.le_refl _)]
  | cons q r =>
   rw [wV, zH, zH] at hd
   have len := congrArg List.length hd
   rw [List.length_drop, List.length_append, List.length_append, zD, zD, zD] at len
   have here : At x y x.length (a + p.length) := by
    refine (zA3 y1).mpr ?_
    rw [<- List.drop_drop, hd, List.append_assoc, List.drop_append_of_le_length (by rw [zD]; exact Nat.le_refl _), <- zD p, List.drop_length, List.nil_append, <- zD y, List.take_append_of_le_length (Nat.le_refl _), List.take_length]
   have early : ∀ k, a <= k -> k < a + p.length -> ¬ At x y x.length k := fun k hk hl h => by
    have e := fst k h
    have e2 : (tl p)[k - a]? = some c := by
     have e3 : ((tl x).drop a)[k - a]? = some c := by rw [List.getElem?_drop, show a + (k - a) = k by bv_omega]; exact e
     rw [hd, List.append_assoc, List.getElem?_append_left (by rw [zD]; bv_omega)] at e3
     exact e3
    exact pc (List.mem_of_getElem? e2)
   cases cuts with
   | nil =>
    have ef : f = a := hG
    exact absurd here (hn _ (by bv_omega))
   | cons d r' =>
    obtain ⟨g1, g2, g3, g4⟩ := hG
    have ed : d = a + p.length := by
     by_cases l1 : d < a + p.length
     ·exact absurd g2 (early d g1 l1)
     ·by_cases l2 : a + p.length < d
      ·exact absurd here (g3 _ (by bv_omega) l2)
      ·bv_omega
    subst ed
    show strSub x a (a + p.length) :: partsFrom x y.length (a + p.length + y.length) r' = p :: q :: r
    have e1 : strSub x a (a + p.length) = p := kK (by
     rw [yZ3, hd, show a + p.length - a = p.length by bv_omega, List.append_assoc, <- zD p, List.take_append_of_le_length (Nat.le_refl _), List.take_length])
    rw [e1, ih (a + p.length + y.length) f r' (fun z => nomatch z) (fun z hz => hc z (List.mem_cons_of_mem _ hz)) ?_ (by bv_omega) g4 hn]
    rw [show a + p.length + y.length = a + (p.length + y.length) by bv_omega, <- List.drop_drop, hd, <- zH, List.drop_append_of_le_length (by rw [zD, Str.length_append]; exact Nat.le_refl _), show p.length + y.length = (tl (p ++ y)).length by rw [zD, Str.length_append], List.drop_length, List.nil_append]
theorem yR6 (x : Str) : 1 <= Builtin.Str.strKind x := by
 unfold Builtin.Str.strKind
 split
 ·exact Nat.le_refl _
 ·split <;> decide
theorem bH {y : Str} {c : Nat} {y' : List Nat} (hy : tl y = c :: y') (hk : Builtin.Str.strKind y = 1) {ps : List Str} (h0 : ps ≠ []) (hc : ∀ p ∈ ps, c ∉ tl p) : Txt.split (Str.join y ps) y = ps := by
 have y1 : 1 <= y.length := by rw [<- zD, hy]; simp
 obtain ⟨f, hG, hn⟩ := occ_tight (Str.join y ps) y y1
 have key := zF5 hy ps 0 f _ h0 hc rfl (Nat.zero_le _) hG hn
 have whole : occurrences (Str.join y ps) y 0 (Str.join y ps).length ((Str.join y ps).length + 1) = [] -> [Str.join y ps] = ps := fun e => by
  rw [e] at key
  have key : [strSub (Str.join y ps) 0 (Str.join y ps).length] = ps := key
  rw [sub_whole] at key
  exact key
 unfold Txt.split
 split
 ·rename_i h
  refine whole ?_
  rw [Bool.or_eq_true, decide_eq_true_eq, decide_eq_true_eq] at h
  rcases h with h | h
  ·cases e : occurrences (Str.join y ps) y 0 (Str.join y ps).length ((Str.join y ps).length + 1) with
   | nil => rfl
   | cons d r =>
    rw [e] at hG
    have := hG.2.1.1
    bv_omega
  ·have := yR6 (Str.join y ps)
   bv_omega
 ·split
  ·rename_i h
   exact whole (List.isEmpty_iff.mp h)
  ·rw [partsBetween_eq]
   exact key
theorem yV8 {a b w : Str} (ha : a.length = 1) (hb : b.length = 1) : Txt.slice (a ++ w ++ b) (some 1) (some (-1)) = w := by
 have l : (a ++ w ++ b).length = w.length + 2 := by rw [Str.length_append, Str.length_append]; bv_omega
 have e : Txt.slice (a ++ w ++ b) (some 1) (some (-1)) = sliceText (a ++ w ++ b) (some 1) (some (-1)) := rfl
 rw [e, sliceText_neg_hi _ _ (by decide) (by bv_omega), show (-1 : Int) + ((a ++ w ++ b).length : Int) = ((w.length + 1 : Nat) : Int) by bv_omega]
 have e2 := sliceText_nat (a ++ w ++ b) (a := 1) (b := w.length + 1) (by bv_omega) (by bv_omega)
 refine Eq.trans e2 (kK ?_)
 rw [cH]
 show ((tl (a ++ w ++ b)).drop 1).take (w.length + 1 - 1) = tl w
 rw [zH, zH, List.append_assoc, List.drop_append_of_le_length (by rw [zD]; bv_omega), show (tl a).drop 1 = [] from List.drop_eq_nil_of_le (by rw [zD]; bv_omega), List.nil_append, show w.length + 1 - 1 = (tl w).length by rw [zD]; bv_omega, List.take_append_of_le_length (Nat.le_refl _), List.take_length]
theorem fR : ∀ (ws : List Str), ws ≠ [] -> Str.join "" (ws.map fun w => "(" ++ w ++ ")") = "(" ++ Str.join ")(" ws ++ ")"
 | [], h => absurd rfl h
 | [w], _ => rfl
 | w :: v :: r, _ => by
  have ih := fR (v :: r) fun z => nomatch z
  show ("(" ++ w ++ ")") ++ "" ++ Str.join "" ((v :: r).map fun w => "(" ++ w ++ ")") = _
  rw [ih, wV]
  apply kK
  simp only [zH, List.append_assoc]
  rfl
theorem yA3 {x y : Str} : Txt.startswith x y = true ↔ (tl x).take y.length = tl y := by
 show (decide (0 + y.length <= x.length) && subAt x y 0) = true ↔ _
 rw [Bool.and_eq_true, decide_eq_true_eq, subAt_eq, beq_iff_eq]
 constructor
 ·exact fun h => h.2
 ·intro h
  refine ⟨?_, h⟩
  have l := congrArg List.length h
  rw [zD, List.length_take, zD] at l
  bv_omega
end MR
namespace MR
open PySem PySem.StrLaws PySem.Builtin PySem.Builtin.Str PySem.W PyProof.Rows
def nT (n : Nat) : Str := toString (n : Int)
structure NumOk (n : Nat) : Prop where
 len : (nT n).length <= 80
 dig : Txt.isdigit (nT n) = true
 zero : Txt.startswith (nT n) "0" = false \/ nT n = "0"
 int : PySem.intText? (nT n) = some (n : Int)
 fig : ∀ c ∈ tl (nT n), 48 <= c /\ c <= 57
 log : ((n : Int)).natAbs.log2 < 1920
 ok : PyData.strOk (nT n) = true
 ne : tl (nT n) ≠ []
theorem wQ (x y : Str) : Txt.split x y ≠ [] := by
 unfold Txt.split
 split
 ·exact fun z => nomatch z
 ·split
  ·exact fun z => nomatch z
  ·rw [partsBetween_eq]
   obtain ⟨p, r, e⟩ := partsFrom_ne x y.length 0 (occurrences x y 0 x.length (x.length + 1))
   rw [e]
   exact fun z => nomatch z
theorem jS (y : Str) : ∀ ts : List Str, ts ≠ [] -> (Str.join y ts).length + y.length = (ts.map (·.length)).sum + ts.length * y.length
 | [], h => absurd rfl h
 | [t], _ => by
  show t.length + y.length = (t.length + 0) + (0 + 1) * y.length
  bv_omega
 | t :: u :: r, _ => by
  have ih := jS y (u :: r) fun z => nomatch z
  rw [wV, Str.length_append, Str.length_append, List.map_cons, List.sum_cons, List.length_cons, Nat.succ_mul]
  bv_omega
theorem uF {x y : Str} (h : 1 <= y.length) : ((Txt.split x y).map (·.length)).sum + (Txt.split x y).length <= x.length + 1 := by
 have a := jS y (Txt.split x y) (wQ x y)
 rw [join_split] at a
 generalize ((Txt.split x y).map (·.length)).sum = S at *
 have n1 := List.length_pos_iff.mpr (wQ x y)
 generalize (Txt.split x y).length = n at *
 obtain ⟨m, rfl⟩ : ∃ m, n = m + 1 := ⟨n - 1, by bv_omega⟩
 rw [Nat.succ_mul] at a
 have b := Nat.mul_le_mul_left m h
 bv_omega
theorem jR {y : Str} {c : Nat} : ∀ ts : List Str, c ∈ tl (Str.join y ts) -> c ∈ tl y \/ ∃ p ∈ ts, c ∈ tl p
 | [], h => by cases h
 | [t], h => .inr ⟨t, List.mem_cons_self, h⟩
 | t :: u :: r, h => by
  rw [wV, zH, zH] at h
  rcases List.mem_append.mp h with h | h
  ·rcases List.mem_append.mp h with h | h
   ·exact .inr ⟨t, List.mem_cons_self, h⟩
   ·exact .inl h
  ·rcases jR (u :: r) h with h | ⟨p, hp, h⟩
   ·exact .inl h
   ·exact .inr ⟨p, List.mem_cons_of_mem _ hp, h⟩
theorem zO7 {y p : Str} {c : Nat} : ∀ ts : List Str, p ∈ ts -> c ∈ tl p -> c ∈ tl (Str.join y ts)
 | [], h, _ => by cases h
 | [t], h, hc => by
  rw [List.mem_singleton.mp h] at hc
  exact hc
 | t :: u :: r, h, hc => by
  rw [wV, zH, zH]
  rcases List.mem_cons.mp h with h | h
  ·subst h
   exact List.mem_append_left _ (List.mem_append_left _ hc)
  ·exact List.mem_append_right _ (zO7 (u :: r) h hc)
theorem zW5 {x y p : Str} {c : Nat} (hp : p ∈ Txt.split x y) (hc : c ∈ tl p) : c ∈ tl x := by
 rw [<- join_split x y]
 exact zO7 _ hp hc
theorem yX3 : ∀ {l : List Nat} {a : Nat}, a ∈ l -> a <= l.sum
 | [], _, h => by cases h
 | b :: l, a, h => by
  rw [List.sum_cons]
  rcases List.mem_cons.mp h with rfl | h
  ·bv_omega
  ·have := yX3 h
   bv_omega
theorem yY2 {x y p : Str} (h : 1 <= y.length) (hp : p ∈ Txt.split x y) : p.length <= x.length := by
 have a := uF (x := x) h
 have b := yX3 (List.mem_map_of_mem (f := (·.length)) hp)
 have n1 := List.length_pos_iff.mpr (wQ x y)
 bv_omega
theorem zB3 {x : Str} {l u : Option Int} {c : Nat} (h : c ∈ tl (Txt.slice x l u)) : c ∈ tl x := by
 unfold Txt.slice at h
 split at h
 ·exact h
 ·rw [cH] at h
  obtain ⟨i, _, e⟩ := List.mem_filterMap.mp h
  have e : x.cps[i]? = some c := e
  rw [<- Array.getElem?_toList] at e
  exact List.mem_of_getElem? e
structure Tx (B : Nat) (z : Str) : Prop where
 len : z.length <= B
 asc : ∀ c ∈ tl z, c < 128
theorem Tx.mono {B B' : Nat} {z : Str} (h : Tx B z) (l : B <= B') : Tx B' z := ⟨Nat.le_trans h.len l, h.asc⟩
theorem Tx.ok {B : Nat} {z : Str} (h : Tx B z) : PyData.strOk z = true := by
 unfold PyData.strOk
 rw [<- Array.all_toList, List.all_eq_true]
 exact fun c hc => decide_eq_true (by have := h.asc c hc; bv_omega)
theorem Tx.all {B : Nat} {z : Str} (h : Tx B z) : z.cps.all (· < 128) = true := by
 rw [<- Array.all_toList, List.all_eq_true]
 exact fun c hc => decide_eq_true (h.asc c hc)
theorem Tx.slice {B : Nat} {z : Str} (h : Tx B z) (l u : Option Int) : Tx B (Txt.slice z l u) := ⟨Nat.le_trans (Txt.slice_le z l u) h.len, fun c hc => h.asc c (zB3 hc)⟩
theorem Tx.part {B : Nat} {z y p : Str} (h : Tx B z) (hy : 1 <= y.length) (hp : p ∈ Txt.split z y) : Tx B p := ⟨Nat.le_trans (yY2 hy hp) h.len, fun c hc => h.asc c (zW5 hp hc)⟩
def Fig (w : Str) : Prop := (∀ c ∈ tl w, 48 <= c /\ c <= 57) /\ tl w ≠ []
theorem zH4 : ∀ c, c < 128 -> Unicode.isDigit c = decide (48 <= c /\ c <= 57) := by decide +kernel
theorem dQ {B : Nat} {w : Str} (h : Tx B w) : Txt.isdigit w = true ↔ Fig w := by
 unfold Txt.isdigit Fig
 rw [Bool.and_eq_true, decide_eq_true_eq, <- Array.all_toList, List.all_eq_true, <- zD]
 constructor
 ·rintro ⟨h1, h2⟩
  refine ⟨fun c hc => ?_, fun z => by rw [z] at h1; simp at h1⟩
  have a := h2 c hc
  rw [zH4 c (h.asc c hc)] at a
  exact of_decide_eq_true a
 ·rintro ⟨h1, h2⟩
  refine ⟨List.length_pos_iff.mpr h2, fun c hc => ?_⟩
  rw [zH4 c (h.asc c hc)]
  exact decide_eq_true (h1 c hc)
def dv (w : Str) : Nat := NumText.digitsVal (tl w)
theorem aB {w : Str} (h : Fig w) (hl : w.length <= 4300) : PySem.intText? w = some (dv w : Int) := intText_digits (fun c hc => h.1 c hc) h.2 hl
theorem st0 {w : Str} : Txt.startswith w "0" = true ↔ ∃ r, tl w = 48 :: r := by
 rw [yA3]
 have t0 : tl "0" = [48] := by decide +kernel
 have l0 : ("0" : Str).length = 1 := rfl
 rw [t0, l0]
 cases e : tl w with
 | nil => simp
 | cons c r => simp
theorem isE {w : Str} : w = "" ↔ tl w = [] := by
 have t0 : tl "" = [] := by decide +kernel
 exact ⟨fun h => by rw [h, t0], fun h => kK (by rw [h, t0])⟩
theorem wE (f : Str -> Nat) (hf : ∀ a b, f (a ++ b) = f a + f b) (y : Str) : ∀ ts : List Str, ts ≠ [] -> f (Str.join y ts) + f y = (ts.map f).sum + ts.length * f y
 | [], h => absurd rfl h
 | [t], _ => by
  show f t + f y = (f t + 0) + (0 + 1) * f y
  bv_omega
 | t :: u :: r, _ => by
  have ih := wE f hf y (u :: r) fun z => nomatch z
  rw [wV, hf, hf, List.map_cons, List.sum_cons, List.length_cons, Nat.succ_mul]
  bv_omega
def cs (z : Str) : Nat := (tl z).countP fun c => c == 32 || c == 41
theorem wJ (a b : Str) : cs (a ++ b) = cs a + cs b := by
 unfold cs
 rw [zH, List.countP_append]
theorem yA7 {a b : Str} (h : (tl a).Sublist (tl b)) : cs a <= cs b := h.countP_le
theorem zQ3 {α : Type} (f g : α -> Nat) : ∀ l : List α, (∀ x ∈ l, f x <= g x) -> (l.map f).sum <= (l.map g).sum
 | [], _ => Nat.le_refl _
 | x :: l, h => by
  have a := h x List.mem_cons_self
  have b := zQ3 f g l fun y hy => h y (List.mem_cons_of_mem _ hy)
  rw [List.map_cons, List.map_cons, List.sum_cons, List.sum_cons]
  bv_omega
theorem cL {x y : Str} (h : cs y = 1) : ((Txt.split x y).map cs).sum + (Txt.split x y).length = cs x + 1 := by
 have a := wE cs wJ y (Txt.split x y) (wQ x y)
 rw [join_split, h, Nat.mul_one] at a
 bv_omega
theorem zG1 {α : Type} (l : List α) : ∀ (is : List Nat), is.Pairwise (· < ·) -> (is.filterMap (l[·]?)).Sublist l := by
 have key : ∀ (is : List Nat) (k : Nat), is.Pairwise (· < ·) -> (∀ i ∈ is, k <= i) -> (is.filterMap (l[·]?)).Sublist (l.drop k) := by
  intro is
  induction is with
  | nil => intro k _ _; exact List.nil_sublist _
  | cons i is ih =>
   intro k p h
   have hi := h i List.mem_cons_self
   have p1 := List.pairwise_cons.mp p
   have s1 := ih (i + 1) p1.2 fun j hj => p1.1 j hj
   cases e : l[i]? with
   | none =>
    rw [List.filterMap_cons_none e]
    exact s1.trans ((List.drop_sublist_drop_left l (by bv_omega)))
   | some c =>
    rw [List.filterMap_cons_some e]
    have hl := (List.getElem?_eq_some_iff.mp e).1
    have ec := (List.getElem?_eq_some_iff.mp e).2
    have d : l.drop i = c :: l.drop (i + 1) := by rw [<- ec, List.drop_eq_getElem_cons hl]
    exact (show (c :: is.filterMap (l[·]?)).Sublist (c :: l.drop (i + 1)) from s1.cons_cons c).trans (by rw [<- d]; exact List.drop_sublist_drop_left l hi)
 exact fun is p => by simpa using key is 0 p fun i _ => Nat.zero_le _
theorem yZ4 (x : Str) (l u : Option Int) : (tl (Txt.slice x l u)).Sublist (tl x) := by
 have pw : ∀ a b : Int, 0 <= a -> (sliceRange a b 1).Pairwise (· < ·) := fun a b h0 => by
  unfold sliceRange
  simp only [show (1 : Int) > 0 by decide, if_true]
  refine List.pairwise_map.mpr (List.Pairwise.imp_of_mem ?_ List.pairwise_lt_range)
  intro i j hi hj h
  bv_omega
 unfold Txt.slice
 split
 ·exact List.Sublist.refl _
 ·rw [cH]
  have e : ((strSliceIndices l u 1 x.length).filterMap (x.cps[·]?)) = (strSliceIndices l u 1 x.length).filterMap ((tl x)[·]?) := by
   congr 1
   funext i
   exact (Array.getElem?_toList (xs := x.cps) (i := i)).symm
  rw [e]
  refine zG1 _ _ ?_
  unfold strSliceIndices
  refine pw _ _ ?_
  cases l with
  | none => exact Int.le_refl _
  | some i => exact Int.le_max_left _ _
theorem zT4 (x : Str) (l u : Option Int) : cs (Txt.slice x l u) <= cs x := yA7 (yZ4 x l u)
theorem yN2 {z : Str} {a : Nat} (h : a <= z.length) : tl (Txt.slice z none (some (a : Int))) = (tl z).take a := by
 have e : Txt.slice z none (some (a : Int)) = sliceText z none (some (a : Int)) := rfl
 rw [e, sliceText_to ⟨by bv_omega, by show (a : Int) <= ((tl z).length : Int); rw [zD]; bv_omega⟩, cH]
 show ((tl z).drop 0).take ((a : Int) - 0).toNat = _
 rw [List.drop_zero]
 congr 1
theorem zI5 (z : Str) (a : Nat) : tl (Txt.slice z (some (a : Int)) none) = (tl z).drop a := by
 have one : ∀ a, a <= z.length -> tl (Txt.slice z (some (a : Int)) none) = (tl z).drop a := fun a h => by
  have e : Txt.slice z (some (a : Int)) none = sliceText z (some (a : Int)) none := rfl
  rw [e, sliceText_from ⟨by bv_omega, by show (a : Int) <= ((tl z).length : Int); rw [zD]; bv_omega⟩, cH]
  show ((tl z).drop (a : Int).toNat).take (((tl z).length : Int) - (a : Int)).toNat = _
  rw [Int.toNat_natCast, List.take_of_length_le (by rw [List.length_drop]; bv_omega)]
 by_cases h : a <= z.length
 ·exact one a h
 ·have ix : strSliceIndices (some (a : Int)) none 1 z.length = strSliceIndices (some (z.length : Int)) none 1 z.length := by
   unfold strSliceIndices
   have n0 : ¬ (a : Int) < 0 := by bv_omega
   have n1 : ¬ (z.length : Int) < 0 := by bv_omega
   simp only [n0, n1, if_false, show (1 : Int) > 0 by decide, if_true]
   rw [show min (a : Int) (z.length : Int) = min (z.length : Int) (z.length : Int) by bv_omega]
  have e : Txt.slice z (some (a : Int)) none = Txt.slice z (some (z.length : Int)) none := by
   unfold Txt.slice
   rw [ix]
  rw [e, one _ (Nat.le_refl _), List.drop_eq_nil_of_le (by rw [zD]; exact Nat.le_refl _), List.drop_eq_nil_of_le (by rw [zD]; bv_omega)]
theorem qJ {l : List Nat} {i x a : Nat} (h : l[i]? = some a) : (l.set i x).sum + a = l.sum + x := by
 induction l generalizing i with
 | nil => simp at h
 | cons b l ih =>
  cases i with
  | zero =>
   simp at h
   subst h
   rw [List.set_cons_zero, List.sum_cons, List.sum_cons]
   bv_omega
  | succ i =>
   have := ih (i := i) (by simpa using h)
   rw [List.set_cons_succ, List.sum_cons, List.sum_cons]
   bv_omega
end MR
namespace K49
open PySem L2 L2.L3
def top (i : Nat) : Stmt := PySem.Challenge.pw_ownboxes_k49_texts_of_no_order.main.body.getD i (.Pass ⟨0, 0, 0, 0⟩)
abbrev uV : Stmt := top 10
abbrev vM : Stmt := top 11
abbrev uP : Stmt := top 12
abbrev uS : Stmt := top 13
abbrev xT : Stmt := top 16
abbrev wM : Stmt := top 17
abbrev xW : Stmt := top 18
abbrev vR : Stmt := top 19
abbrev xC : Stmt := top 20
abbrev wY : Stmt := top 21
abbrev vN : Stmt := top 23
abbrev qY : Stmt := top 24
abbrev qT : Stmt := top 25
abbrev kN : Stmt := top 27
abbrev qS : Stmt := top 28
abbrev xU : Stmt := top 29
abbrev vT : Stmt := top 30
abbrev uO : Stmt := top 31
abbrev vJ : Stmt := top 32
abbrev qW : Stmt := top 33
abbrev fD : Stmt := top 34
abbrev CLS : List Str := ["BadOrder", "BadText@1"]
abbrev ROWN : List Str := ["BadText@1"]
abbrev NMR : Int -> Str := fun r => rowName r.toNat
def clsBody : Stmt -> List Stmt
 | .ClassDef _ _ _ b .. => b
 | _ => []
abbrev vG : Stmt := (clsBody (top 7)).getD 0 (.Pass ⟨0, 0, 0, 0⟩)
def kF : Ev -> Res Out := (sR (vAn (vB (b3 leI leI (eC (.int 1)) (eB lenD (aC (eV 0) aN)) (eC (.int 60)))) (e2 (fun x y => bD (eqD x y)) (eB sortD (aC (eV 0) aN)) (eB rangeL (aC (eB lenD (aC (eV 0) aN)) aN)))))
def qM : List D -> Res D := runF false 1 1 kF
def kZ : Ev -> Res Out := (sQ (sS 2 (eB mkL (aC (eV 1) aN))) (sQ (sW 1000000 (b2 neD (e2 ixD (eV 0) (e2 ixD (eV 2) (e1 negD (eC (.int 1))))) (eV 1)) (sM 2 appD (aC (e2 ixD (eV 0) (e2 ixD (eV 2) (e1 negD (eC (.int 1))))) aN))) (sR (eB tupD (aC (eV 2) aN)))))
def vL : List D -> Res D := runF false 2 3 kZ
def kB : Ev -> Res Out := (sQ (sS 1 (eB mkL aN)) (sQ (sS 2 (e2 repL (eB mkL (aC (eC (.bool false)) aN)) (eB lenD (aC (eV 0) aN)))) (sQ (sF (iR rng1 (aC (eB lenD (aC (eV 0) aN)) aN)) (gN 3) (sIf (tNt (tV (e2 ixD (eV 2) (eV 3)))) (sQ (sS 4 (eF vL (aC (eV 0) (aC (eV 3) aN)))) (sQ (sM 1 appD (aC (eV 4) aN)) (sF (iS (eV 4)) (gN 5) (sI 2 (eV 5) (eC (.bool true)))))) sN)) (sR (eV 1)))))
def uU : List D -> Res D := runF true 1 6 kB
def uW : Ev -> Res Out := (sQ (sS 1 (eB mkL aN)) (sQ (sF (iS (eV 0)) (gN 2) (sQ (sIf (b2 eqD (eB lenD (aC (eV 2) aN)) (eC (.int 0))) (sRa "BadOrder" (aC (eC (.str "a ring has one box at least")) aN)) sN) (sM 1 extD (aC (eV 2) aN)))) (sQ (sIf (tNt (tV (eFA false qM (aC (eV 1) aN)))) (sRa "BadOrder" (aC (eC (.str "rings have each of 1 to 60 boxes just once")) aN)) sN) (sQ (sS 3 (e2 repL (eB mkL (aC (eC (.int 0)) aN)) (eB lenD (aC (eV 1) aN)))) (sQ (sF (iS (eV 0)) (gN 2) (sF (iR rng1 (aC (eB lenD (aC (eV 2) aN)) aN)) (gN 4) (sI 3 (e2 ixD (eV 2) (e2 subI (eV 4) (eC (.int 1)))) (e2 ixD (eV 2) (eV 4))))) (sR (eB tupD (aC (eV 3) aN))))))))
def wS : List D -> Res D := runF false 1 5 uW
def uI : Ev -> Res Out := (sR (eM1S joinD (eC (.str " ")) (eComp (iS (eV 0)) tYes (eB strOfD (aC (eV 0) aN)) [])))
def vS : List D -> Res D := runF false 1 1 uI
def vH : Ev -> Res Out := (sQ (sIf (tO (tNt (tV (eM0S (fun z => some (.bool (Txt.isdigit z))) (eV 0)))) (tO (b2 gtI (eB lenTD (aC (eV 0) aN)) (eC (.int 90))) (tAn (tV (eM1S stwD (eV 0) (eC (.str "0")))) (b2 neD (eV 0) (eC (.str "0")))))) (sRaI NMR (aC (eV 1) aN)) sN) (sR (eB intTD (aC (eV 0) aN))))
def yR : List D -> Res D := runF false 2 2 vH
def vW : Ev -> Res Out := (sR (eB tupD (aC (eCompX (iS (eV 0)) tYes (eF yR (aC (eV 0) (aC (eV 1) aN))) [1]) aN)))
def yV : List D -> Res D := runF false 2 2 vW
def kX : Ev -> Res Out := (sQ (sS 1 (eF vS (aC (eV 0) aN))) (sR (e1 (filD "(" ")") (eV 1))))
def wH : List D -> Res D := runF false 1 2 kX
def jM : Ev -> Res Out := (sR (eM1S joinD (eC (.str "")) (eComp (iS (eF uU (aC (eV 0) aN))) tYes (eF wH (aC (eV 0) aN)) [])))
def uR : List D -> Res D := runF false 1 1 jM
def xS : Ev -> Res Out := (sQ (sS 1 (eCompX (iS (eM1S splD (eS slS (eV 0) (oS (eC (.int 1))) (oS (e1 negD (eC (.int 1))))) (eC (.str ")(")))) tYes (eF yV (aC (eM1S splD (eV 0) (eC (.str " "))) (aC (eC (.int 1)) aN))) [])) (sQ (sTryR ["BadOrder"] (NMR 1) (sS 2 (eF wS (aC (eV 1) aN)))) (sQ (sIf (b2 neD (eF uR (aC (eV 2) aN)) (eV 0)) (sRaI NMR (aC (eC (.int 1)) aN)) sN) (sR (eV 2)))))
def yI : List D -> Res D := runF false 1 3 xS
def kU : Ev -> Res Out := (sQ (sIf (b2 ltI (eV 1) (eB lenD (aC (eV 0) aN))) (sR (e2 ixD (eV 0) (eV 1))) sN) (sR (eC (.int 0))))
def vP : List D -> Res D := runF false 2 2 kU
def fY : Ev -> Res Out := (sR (vAn (e1 (isiD "int") (eV 0)) (vNt (e1 (isiD "bool") (eV 0)))))
def jB : List D -> Res D := runF false 1 1 fY
def gA : Ev -> Res Out := (sQ (sS 2 (eB mkL aN)) (sQ (sF (iR rng1 (aC (eV 1) aN)) (gN 3) (sQ (sM 2 insD (aC (e2 modI (eV 0) (e2 addI (eV 3) (eC (.int 1)))) (aC (eV 3) aN))) (sS 0 (e2 fdivI (eV 0) (e2 addI (eV 3) (eC (.int 1))))))) (sR (eB tupD (aC (eV 2) aN)))))
def jJ : List D -> Res D := runF false 2 4 gA
def aI : Ev -> Res Out := (sQ (sS 1 (eC (.int 0))) (sQ (sF (iS (eV 0)) (gN 2) (sS 1 (e2 addI (e2 mulI (eV 1) (eC (.int 1000))) (eV 2)))) (sR (eV 1))))
def fG : List D -> Res D := runF false 1 3 aI
def uA : Ev -> Res Out := (sQ (sS 1 (eB mkL aN)) (sQ (sS 2 (eB mkL aN)) (sQ (sF (iR rng1 (aC (eB lenD (aC (eV 0) aN)) aN)) (gN 3) (sIf (b2 (inD true) (eV 3) (eV 2)) (sQ (sS 4 (eB mkL (aC (eV 3) aN))) (sQ (sW 1000000 (b2 neD (e2 ixD (eV 0) (e2 ixD (eV 4) (e1 negD (eC (.int 1))))) (eV 3)) (sM 4 appD (aC (e2 ixD (eV 0) (e2 ixD (eV 4) (e1 negD (eC (.int 1))))) aN))) (sQ (sM 2 extD (aC (eV 4) aN)) (sM 1 appD (aC (eB tupD (aC (eV 4) aN)) aN))))) sN)) (sR (eV 1)))))
def wA : List D -> Res D := runF true 1 5 uA
def xB : Ev -> Res Out := (sR (eM1S joinD (eC (.str "")) (eComp (iS (eF wA (aC (eV 0) aN))) tYes (e2 catS (e2 catS (eC (.str "(")) (eM1S joinD (eC (.str " ")) (eComp (iS (eV 0)) tYes (eB strOfD (aC (eV 0) aN)) []))) (eC (.str ")"))) [])))
def yD : List D -> Res D := runF false 1 1 xB
def hV : Ev -> Res Out := (sQ (sIf (tO (b2 eqD (eV 0) (eC (.str ""))) (tO (b2 gtI (eB lenTD (aC (eV 0) aN)) (eC (.int 2))) (tAn (b2 eqD (e2 ixSD (eV 0) (eC (.int 0))) (eC (.str "0"))) (b2 gtI (eB lenTD (aC (eV 0) aN)) (eC (.int 1)))))) (sR (e1 negD (eC (.int 1)))) sN) (sQ (sIf (tNt (tV (eB allD (aC (eComp (iSt (eV 0)) tYes (e2 (fun x y => bD (inSD x y)) (eV 0) (eC (.str "0123456789"))) []) aN)))) (sR (e1 negD (eC (.int 1)))) sN) (sR (eB intTD (aC (eV 0) aN)))))
def wR : List D -> Res D := runF false 1 1 hV
def wF : Ev -> Res Out := (sQ (sIf (tO (b2 ltI (eB lenTD (aC (eV 0) aN)) (eC (.int 3))) (tO (b2 neD (e2 ixSD (eV 0) (eC (.int 0))) (eC (.str "("))) (b2 neD (e2 ixSD (eV 0) (e1 negD (eC (.int 1)))) (eC (.str ")"))))) (sR (eC .none)) sN) (sQ (sS 1 (eB mkL aN)) (sQ (sS 2 (eB mkL aN)) (sQ (sF (iS (eM1S splD (eS slS (eV 0) (oS (eC (.int 1))) (oS (e1 negD (eC (.int 1))))) (eC (.str ")(")))) (gN 3) (sQ (sS 4 (eComp (iS (eM1S splD (eV 3) (eC (.str " ")))) tYes (eF wR (aC (eV 0) aN)) [])) (sQ (sM 1 extD (aC (eV 4) aN)) (sM 2 appD (aC (eV 4) aN))))) (sQ (sIf (tO (b2 neD (eB sortD (aC (eV 1) aN)) (eB rangeL (aC (eB lenD (aC (eV 1) aN)) aN))) (b2 gtI (eB lenD (aC (eV 1) aN)) (eC (.int 60)))) (sR (eC .none)) sN) (sQ (sS 5 (e2 repL (eB mkL (aC (eC (.int 0)) aN)) (eB lenD (aC (eV 1) aN)))) (sQ (fun ρ => (eV 2 ρ).bind fun _ => (sF (iS (eV 2)) (gN 4) (sF (iR rng1 (aC (eB lenD (aC (eV 4) aN)) aN)) (gN 6) (sI 5 (e2 ixD (eV 4) (e2 subI (eV 6) (eC (.int 1)))) (e2 ixD (eV 4) (eV 6))))) ρ) (sQ (sIf (b2 neD (eFA false yD (aC (eV 5) aN)) (eV 0)) (sR (eC .none)) sN) (sR (eB tupD (aC (eV 5) aN)))))))))))
def vF : List D -> Res D := runF false 1 7 wF
def kW : Ev -> Res Out := (sQ (sS 2 (e2 modI (eV 1) (eC (.int 8)))) (sQ (sS 3 (e2 modI (e2 fdivI (eV 1) (eC (.int 8))) (e2 addI (eB lenTD (aC (eV 0) aN)) (eC (.int 1))))) (sQ (sS 4 (e2 ixSD (eC (.str "0123456789() -+,.x_[]")) (e2 modI (e2 fdivI (eV 1) (eC (.int 800))) (eC (.int 21))))) (sQ (sS 5 (eM1S splD (eS slS (eV 0) (oS (eC (.int 1))) (oS (e1 negD (eC (.int 1))))) (eC (.str ")(")))) (sQ (sS 6 (e2 modI (e2 fdivI (eV 1) (eC (.int 8))) (eB lenD (aC (eV 5) aN)))) (sQ (sIf (b2 eqD (eV 2) (eC (.int 0))) (sR (e2 catS (e2 catS (eS slS (eV 0) oN (oS (eV 3))) (eV 4)) (eS slS (eV 0) (oS (eV 3)) oN))) sN) (sQ (sIf (b2 eqD (eV 2) (eC (.int 1))) (sR (e2 catS (eS slS (eV 0) oN (oS (eV 3))) (eS slS (eV 0) (oS (e2 addI (eV 3) (eC (.int 1)))) oN))) sN) (sQ (sIf (b2 eqD (eV 2) (eC (.int 2))) (sR (e2 catS (e2 catS (eS slS (eV 0) oN (oS (eV 3))) (eV 4)) (eS slS (eV 0) (oS (e2 addI (eV 3) (eC (.int 1)))) oN))) sN) (sQ (sIf (b2 eqD (eV 2) (eC (.int 3))) (sQ (sS 7 (eM1S splD (e2 ixD (eV 5) (eV 6)) (eC (.str " ")))) (sI 5 (eV 6) (eM1S joinD (eC (.str " ")) (e2 catL (eS slL (eV 7) (oS (eC (.int 1))) oN) (eS slL (eV 7) oN (oS (eC (.int 1)))))))) sN) (sQ (sIf (b2 eqD (eV 2) (eC (.int 4))) (sS 5 (e2 catL (eS slL (eV 5) (oS (eV 6)) oN) (eS slL (eV 5) oN (oS (eV 6))))) sN) (sQ (sIf (b2 eqD (eV 2) (eC (.int 5))) (sI 5 (eV 6) (e2 catS (eC (.str "0")) (e2 ixD (eV 5) (eV 6)))) sN) (sQ (sIf (b2 eqD (eV 2) (eC (.int 6))) (sI 5 (eV 6) (e2 catS (e2 catS (e2 ixD (eV 5) (eV 6)) (eC (.str " "))) (eB strOfD (aC (e2 modI (e2 fdivI (eV 1) (eC (.int 800))) (eC (.int 14))) aN)))) sN) (sQ (sIf (b2 eqD (eV 2) (eC (.int 7))) (sM 5 appD (aC (eB strOfD (aC (e2 modI (e2 fdivI (eV 1) (eC (.int 800))) (eC (.int 14))) aN)) aN)) sN) (sR (e2 catS (e2 catS (eC (.str "(")) (eM1S joinD (eC (.str ")(")) (eV 5))) (eC (.str ")")))))))))))))))))
def wI : List D -> Res D := runF false 2 8 kW
def gE : Ev -> Res Out := (sQ (sS 1 (eC .none)) (sQ (sS 2 (eC .none)) (sQ (sTryA 3 2 CLS yI (aC (eV 0) aN) (sS 1 (eV 3))) (sQ (sS 4 (eF vF (aC (eV 0) aN))) (sQ (sIf (b2 (isND true) (eV 4) (eC .none)) (sR (vAn (e2 (fun x y => bD ((isND false) x y)) (eV 1) (eC .none)) (e2 (fun x y => bD (eqD x y)) (eV 2) (eV 4)))) sN) (sQ (sIf (tO (tNt (tV (e1 (isiX CLS ROWN) (eV 1)))) (tNt (tV (e1 (isiX CLS CLS) (eV 1))))) (sR (eC (.bool false))) sN) (sQ (sIf (tV (e1 (isiX CLS ["BadBox", "BadOrder", "BadPlan", "NoNumber", "TooMany"]) (eV 1))) (sR (eC (.bool false))) sN) (sR (vAn (eF jB (aC (e1 rowD (eV 1)) aN)) (e2 (fun x y => bD (eqD x y)) (e1 rowD (eV 1)) (eC (.int 1))))))))))))
def xL : List D -> Res D := runF false 1 5 gE
def zE5 : Ev -> Res Out := (sQ (sS 1 (e2 addI (eC (.int 1)) (e2 modI (eF vP (aC (eV 0) (aC (eC (.int 0)) aN))) (eC (.int 12))))) (sQ (sS 2 (eF yD (aC (eF jJ (aC (eF fG (aC (eV 0) aN)) (aC (eV 1) aN))) aN))) (sQ (sIf (tNt (tV (eF xL (aC (eV 2) aN)))) (sR (eC (.bool false))) sN) (sQ (sF (iS (eS slD (eV 0) oN (oS (eC (.int 30))))) (gN 3) (sQ (sS 4 (eF wI (aC (eV 2) (aC (e2 fdivI (eB absD (aC (eV 3) aN)) (eC (.int 12))) aN)))) (sQ (sIf (tNt (tV (eF xL (aC (eV 4) aN)))) (sR (eC (.bool false))) sN) (sIf (tAn (b2 gtI (eB lenTD (aC (eV 4) aN)) (eC (.int 1))) (tNt (tV (eF xL (aC (eF wI (aC (eV 4) (aC (e2 addI (e2 fdivI (eB absD (aC (eV 3) aN)) (eC (.int 7))) (eC (.int 3))) aN))) aN))))) (sR (eC (.bool false))) sN)))) (sQ (sS 5 (eB mkL (aC (eC (.str "")) (aC (eC (.str "()")) (aC (eC (.str "(")) (aC (eC (.str ")")) (aC (eC (.str "0")) (aC (eC (.str "(0")) (aC (eC (.str "0)")) (aC (eC (.str "( 0)")) (aC (eC (.str "(0 )")) (aC (eC (.str "(0)(")) (aC (eC (.str "(0))")) (aC (eC (.str "((0)")) (aC (eC (.str "(1)")) (aC (eC (.str "(0 0)")) aN)))))))))))))))) (sQ (sS 5 (e2 catL (eV 5) (eB mkL (aC (eC (.str "(-0)")) (aC (eC (.str "(0)\n")) (aC (eC (.str "(0)(1) ")) (aC (eC (.str " (0)")) (aC (eC (.str "(0) (1)")) (aC (eC (.str "(0,1)")) (aC (eC (.str "(00)")) (aC (eC (.str "(+0)")) (aC (eC (.str "(1 0)")) (aC (eC (.str "(1)(0)")) aN))))))))))))) (sQ (sS 5 (e2 catL (eV 5) (eB mkL (aC (eC (.str "(0 1)(1 0)")) (aC (e2 catS (e2 catS (eC (.str "(")) (e2 repSD (eC (.str "1")) (eC (.int 90)))) (eC (.str ")"))) aN))))) (sR (eB allD (aC (eComp (iS (eV 5)) tYes (eF xL (aC (eV 0) aN)) []) aN))))))))))
def zH6 : List D -> Res D := runF false 1 6 zE5
structure Txt [CN] (K : KFr) (mg : Str -> Option Value) : Prop where
 g_ValueError : mg "ValueError" = none
 g_abs : mg "abs" = none
 g_all : mg "all" = none
 g_bool : mg "bool" = none
 g_int : mg "int" = none
 g_isinstance : mg "isinstance" = none
 g_len : mg "len" = none
 g_list : mg "list" = none
 g_range : mg "range" = none
 g_sorted : mg "sorted" = none
 g_str : mg "str" = none
 g_tuple : mg "tuple" = none
 c_MOST_FIGURES : ∃ u, mg "MOST_FIGURES" = some u /\ RelV (.int 90) u
 c_MOST_PEOPLE : ∃ u, mg "MOST_PEOPLE" = some u /\ RelV (.int 60) u
 k_bool : Kit K "bool"
 k_int : Kit K "int"
 d_is_order : ∃ f fd, Has K mg "is_order" uV f fd ["names"]
 d_ring_from : ∃ f fd, Has K mg "ring_from" vM f fd ["order", "box"]
 d_rings_of : ∃ f fd, Has K mg "rings_of" uP f fd ["order"]
 d_order_by : ∃ f fd, Has K mg "order_by" uS f fd ["rings"]
 d_numbers_text : ∃ f fd, Has K mg "numbers_text" xT f fd ["numbers"]
 d_read_number : ∃ f fd, Has K mg "read_number" wM f fd ["word", "row"]
 d_read_numbers : ∃ f fd, Has K mg "read_numbers" xW f fd ["words", "row"]
 d_ring_text : ∃ f fd, Has K mg "ring_text" vR f fd ["ring"]
 d_order_text : ∃ f fd, Has K mg "order_text" xC f fd ["order"]
 d_read_order : ∃ f fd, Has K mg "read_order" wY f fd ["text"]
 d_l_cell_at : ∃ f fd, Has K mg "_law_cell_at" vN f fd ["script", "k"]
 d_l_whole : ∃ f fd, Has K mg "_law_whole" qY f fd ["found"]
 d_l_order : ∃ f fd, Has K mg "_law_order" qT f fd ["cell", "many"]
 d_l_all : ∃ f fd, Has K mg "_law_all" kN f fd ["script"]
 d_l_rings : ∃ f fd, Has K mg "_law_rings" qS f fd ["order"]
 d_l_rings_text : ∃ f fd, Has K mg "_law_rings_text" xU f fd ["order"]
 d_l_number : ∃ f fd, Has K mg "_law_number" vT f fd ["word"]
 d_l_read : ∃ f fd, Has K mg "_law_read" uO f fd ["text"]
 d_l_changed : ∃ f fd, Has K mg "_law_changed" vJ f fd ["text", "cell"]
 d_l_right : ∃ f fd, Has K mg "_law_right" qW f fd ["text"]
 d_law : ∃ f fd, Has K mg "law" fD f fd ["script"]
 x_BadBox : mg "BadBox" = some (.ref (CN.ad "BadBox"))
 x_BadOrder : mg "BadOrder" = some (.ref (CN.ad "BadOrder"))
 x_BadPlan : mg "BadPlan" = some (.ref (CN.ad "BadPlan"))
 x_BadText : mg "BadText" = some (.ref (CN.ad "BadText"))
 x_BoxError : mg "BoxError" = some (.ref (CN.ad "BoxError"))
 x_NoNumber : mg "NoNumber" = some (.ref (CN.ad "NoNumber"))
 x_TooMany : mg "TooMany" = some (.ref (CN.ad "TooMany"))
 ox_BadOrder : OwnX K "BadOrder"
 kx_BadBox : IsK K CLS ["BadBox"] (.ref (CN.ad "BadBox"))
 kx_BadOrder : IsK K CLS ["BadOrder"] (.ref (CN.ad "BadOrder"))
 kx_BadPlan : IsK K CLS ["BadPlan"] (.ref (CN.ad "BadPlan"))
 kx_BadText : IsK K CLS ROWN (.ref (CN.ad "BadText"))
 kx_NoNumber : IsK K CLS ["NoNumber"] (.ref (CN.ad "NoNumber"))
 kx_TooMany : IsK K CLS ["TooMany"] (.ref (CN.ad "TooMany"))
 kv_ValueError : IsK K CLS CLS (.type "ValueError")
 tx_BadOrder : ∀ c : Str, (["BadOrder"] : List Str).contains c = true -> PySem.W.kitCls K (.ref (CN.ad c)) (.ref (CN.ad "BadOrder")) = some true
 tb_BadOrder : PySem.W.subIn K (.ref (CN.ad "BadOrder")) (.type "BaseException") = some true
 tx_BoxError : ∀ c : Str, CLS.contains c = true -> PySem.W.kitCls K (.ref (CN.ad c)) (.ref (CN.ad "BoxError")) = some true
 tb_BoxError : PySem.W.subIn K (.ref (CN.ad "BoxError")) (.type "BaseException") = some true
 bt_ex : ExIn K (CN.ad "BadText") bmV "ValueError.__new__"
 bt_fi : BtFi K (CN.ad "BadText") vG
 bt_kp : PySem.W.keepIn K (.ref (CN.ad "BadText")) = true
 bt_bi : BaseIni K (CN.ad "BoxError")
 bt_rc : RowCls K (CN.ad "BadText")
 ne_BadOrder : ∀ c : Str, (["BadOrder"] : List Str).contains c = true -> PySem.Value.ref (CN.ad c) ≠ .ref (CN.ad "BadText")
 rx : ∀ n, n < 16 -> CN.ad (rowName n) = CN.ad "BadText"
 ek_BadText : PySem.ExK K (CN.ad "BadText")
section
variable [CN] {P : Program} {w : World} {K : KFr} {mg : Str -> Option Value} {base : Heap}
theorem hnR (T : Txt K mg) : ∀ r : Int, 0 <= r /\ r < 16 -> CN.ad (NMR r) = CN.ad "BadText" /\ ∀ n, rowOf (NMR r) = some n -> (n : Int) = r := fun r h => ⟨T.rx _ (by bv_omega), fun n e => by rw [gZ _ (by bv_omega)] at e; cases e; bv_omega⟩
theorem zA6 : zF ["self", "row"] ["self", "row"] (zT vG) := ⟨rfl, rfl, rfl, by decide +kernel, rfl, by decide +kernel, by decide +kernel⟩
theorem yV7 (T : Txt K mg) {f : Addr} {fd : FuncData} (F : Fun K "__init__" "BadText.__init__" vG f fd) : FnOk P w K mg base CX0 2 f fd ["self", "row"] (spIni (CN.ad "BadText")) := by
 refine F.ok zA6 (fun vs H Q E ⟨e, r, ev, _⟩ => by subst ev; rfl) fun cdv A outer s H vs Q E hr ⟨e, r, ev, hr1, hH, q⟩ => ?_
 subst ev
 refine ⟨_, cN (dY (dG rfl T.x_BoxError T.bt_bi (yQ (pv 0) (yQ (zY7 (hR (by decide) (by decide) (zD6 (pv 1) (by decide) (hR (by decide) (by decide) (yV4 (by decide)))))) wP)))) (fE (yZ1 (pv 0) (pv 1) rfl)), ?_⟩
 obtain ⟨n, rfl⟩ : ∃ n : Nat, r = (n : Int) := ⟨r.toNat, by bv_omega⟩
 exact ⟨_, rfl, ⟨_, rfl, _, rfl, (jH (n := n) (by bv_omega)).1, (jH (n := n) (by bv_omega)).2, e, _, _, rfl, T.bt_ex, hH, ⟨_, rfl, _, rfl, e, _, _, rfl, rfl, hH, T.bt_rc, fun d nd => q d nd⟩⟩⟩
theorem zJ6 (T : Txt K mg) {f : Addr} {fd : FuncData} (F : Fun K "__init__" "BadText.__init__" vG f fd) : RunM P w K mg base 2 f fd ["self", "row"] (spIni (CN.ad "BadText")) := by
 refine F.okM zA6 (fun vs H Q E ⟨e, r, ev, _⟩ => by subst ev; rfl) fun m cdv A outer s H vs Q E ⟨e, r, ev, hr1, hH, q⟩ => ?_
 subst ev
 refine ⟨_, cN (dY (dG rfl T.x_BoxError T.bt_bi (yQ (pv 0) (yQ (zY7 (hR (by decide) (by decide) (zD6 (pv 1) (by decide) (hR (by decide) (by decide) (yV4 (by decide)))))) wP)))) (fE (yZ1 (pv 0) (pv 1) rfl)), ?_⟩
 obtain ⟨n, rfl⟩ : ∃ n : Nat, r = (n : Int) := ⟨r.toNat, by bv_omega⟩
 exact ⟨_, rfl, ⟨_, rfl, _, rfl, (jH (n := n) (by bv_omega)).1, (jH (n := n) (by bv_omega)).2, e, _, _, rfl, T.bt_ex, hH, ⟨_, rfl, _, rfl, e, _, _, rfl, rfl, hH, T.bt_rc, fun d nd => q d nd⟩⟩⟩
theorem dM : zF ["names"] ["names"] (zT uV) := ⟨rfl, rfl, rfl, by decide +kernel, rfl, by decide +kernel, by decide +kernel⟩
theorem zN4 (T : Txt K mg) {f : Addr} {fd : FuncData} (h : Has K mg "is_order" uV f fd ["names"]) : FnOk P w K mg base (CXV P w) 1 f fd ["names"] (spX false qM) := by
 refine yN [] h.F dM fun cdv A outer s H E hr => ?_
 have nd := dM.nd
 have hu64 := hr.units
 have br := yU (P := P) (w := w) (K := K) (mg := mg) (base := base) (N := ["names"]) (x := "is_order") (sc := zT uV) (f := f) (cdv := cdv) (A := A) (outer := outer) (s := s) (H := H) (E := E) (om := [])
 exact (zR (zG (bB (yQ5 yN1 yN1 yO7 yO7 zP (zI zA xK T.g_len PySem.boot_len (zQ (zY 0) zU)) (zP8 T.c_MOST_PEOPLE.choose_spec.1 T.c_MOST_PEOPLE.choose_spec.2)) (bQ (gP (xI hu64) wG (zI gK zI8 T.g_sorted (by rfl) (zQ (zY 0) zU)) (gQ T.g_list T.g_range (zQ (zI zA xK T.g_len PySem.boot_len (zQ (zY 0) zU)) zU)))))))
theorem fX : zF ["order", "box", "ring"] ["order", "box"] (zT vM) := ⟨rfl, rfl, rfl, by decide +kernel, rfl, by decide +kernel, by decide +kernel⟩
theorem zQ7 (T : Txt K mg) {f : Addr} {fd : FuncData} (h : Has K mg "ring_from" vM f fd ["order", "box"]) : FnOk P w K mg base (CXV P w) 1 f fd ["order", "box"] (spX false vL) := by
 refine yN [2] h.F fX fun cdv A outer s H E hr => ?_
 have nd := fX.nd
 have hu64 := hr.units
 have br := yU (P := P) (w := w) (K := K) (mg := mg) (base := base) (N := ["order", "box", "ring"]) (x := "ring_from") (sc := zT vM) (f := f) (cdv := cdv) (A := A) (outer := outer) (s := s) (H := H) (E := E) (om := [2])
 exact (zV (xY 2 nd (yE (zS (zY 1) zU))) (zV (zQ2 1000000 (yY (qR hu64) jA (yC yA xJ (zY 0) (yC yA xJ (yX 2) (vQ zP))) (zY 1)) (zR (uH 2 PySem.F.slot_list_append PySem.F.type_list_append vC vE (zS (yC yA xJ (zY 0) (yC yA xJ (yX 2) (vQ zP))) zU))) PassesOwn.leaving) (zR (zG (yF xO kO T.g_tuple (by rfl) (zQ (yX 2) zU))))))
theorem dR : zF ["order", "rings", "seen", "box", "ring", "member"] ["order"] (zT uP) := ⟨rfl, rfl, rfl, by decide +kernel, rfl, by decide +kernel, by decide +kernel⟩
theorem zM8 (T : Txt K mg) {f : Addr} {fd : FuncData} (h : Has K mg "rings_of" uP f fd ["order"]) : FnOk P w K mg base (CXV P w) 2 f fd ["order"] (spX true uU) := by
 obtain ⟨f_ring_from, fd_ring_from, H_ring_from⟩ := T.d_ring_from
 have G_ring_from : FnOk P w K mg base (CXV P w) 1 f_ring_from fd_ring_from ["order", "box"] (spX false vL) := zQ7 T H_ring_from
 refine yN [1, 2] h.F dR fun cdv A outer s H E hr => ?_
 have nd := dR.nd
 have hu64 := hr.units
 have br := yU (P := P) (w := w) (K := K) (mg := mg) (base := base) (N := ["order", "rings", "seen", "box", "ring", "member"]) (x := "rings_of") (sc := zT uP) (f := f) (cdv := cdv) (A := A) (outer := outer) (s := s) (H := H) (E := E) (om := [1, 2])
 exact (zV (xY 1 nd (yE zU)) (zV (xY 2 nd (zK aE zP5 (yE (zS hZ zU)) (zI zA xK T.g_len PySem.boot_len (zQ (zY 0) zU)))) (zV (wL (uE T.g_range (zQ (zI zA xK T.g_len PySem.boot_len (zQ (zY 0) zU)) zU)) (xN 3 nd) (zR (yP (uT (wC (yC yA xJ (yX 2) (zY 3)))) (zV (yO 4 nd (zB G_ring_from H_ring_from (hr.mono (by decide)) br (zS (zY 0) (zS (zY 3) zU)))) (zV (uH 1 PySem.F.slot_list_append PySem.F.type_list_append vC vE (zS (zY 4) zU)) (zR (wL (xR (RE.rd (zY 4))) (xN 5 nd) (zR (qB 2 hZ (zY 5))) PassesOwn.leaving)))) zC)) PassesOwn.leaving) (zR (zK5 1)))))
theorem dH : zF ["rings", "boxes", "ring", "names", "place"] ["rings"] (zT uS) := ⟨rfl, rfl, rfl, by decide +kernel, rfl, by decide +kernel, by decide +kernel⟩
theorem zM6 (T : Txt K mg) {f : Addr} {fd : FuncData} (h : Has K mg "order_by" uS f fd ["rings"]) : FnOk P w K mg base (CXV P w) 2 f fd ["rings"] (spX false wS) := by
 obtain ⟨f_is_order, fd_is_order, H_is_order⟩ := T.d_is_order
 have G_is_order : FnOk P w K mg base (CXV P w) 1 f_is_order fd_is_order ["names"] (spX false qM) := zN4 T H_is_order
 refine yN [1, 3] h.F dH fun cdv A outer s H E hr => ?_
 have nd := dH.nd
 have hu64 := hr.units
 have br := yU (P := P) (w := w) (K := K) (mg := mg) (base := base) (N := ["rings", "boxes", "ring", "names", "place"]) (x := "order_by") (sc := zT uS) (f := f) (cdv := cdv) (A := A) (outer := outer) (s := s) (H := H) (E := E) (om := [1, 3])
 exact (zV (xY 1 nd (yE zU)) (zV (wL (xR (RE.rd (zY 0))) (xN 2 nd) (zV (yP (yY (xI hu64) wG (zI zA xK T.g_len PySem.boot_len (zQ (zY 2) zU)) zP) (zR (zQ1 br T.ox_BadOrder T.x_BadOrder (zQ zN zU))) zC) (zR (zQ6 1 (zY 2)))) PassesOwn.leaving) (zV (yP (uT (wC (bJ G_is_order H_is_order (hr.mono (by decide)) br (zQ (yX 1) zU)))) (zR (zQ1 br T.ox_BadOrder T.x_BadOrder (zQ zN zU))) zC) (zV (xY 3 nd (zK aE zP5 (yE (zS zP zU)) (zI zA xK T.g_len PySem.boot_len (zQ (yX 1) zU)))) (zV (wL (xR (RE.rd (zY 0))) (xN 2 nd) (zR (wL (uE T.g_range (zQ (zI zA xK T.g_len PySem.boot_len (zQ (zY 2) zU)) zU)) (xN 4 nd) (zR (qB 3 (yC yA xJ (zY 2) (zY 4)) (yC yA xJ (zY 2) (zK zA5 zC2 (zY 4) zP)))) PassesOwn.leaving)) PassesOwn.leaving) (zR (zG (yF xO kO T.g_tuple (by rfl) (zQ (yX 3) zU)))))))))
theorem jD : zF ["numbers"] ["numbers"] (zT xT) := ⟨rfl, rfl, rfl, by decide +kernel, rfl, by decide +kernel, by decide +kernel⟩
theorem bT (T : Txt K mg) {f : Addr} {fd : FuncData} (h : Has K mg "numbers_text" xT f fd ["numbers"]) : FnOk P w K mg base (CXV P w) 1 f fd ["numbers"] (spX false vS) := by
 refine yN [] h.F jD fun cdv A outer s H E hr => ?_
 have nd := jD.nd
 have hu64 := hr.units
 have br := yU (P := P) (w := w) (K := K) (mg := mg) (base := base) (N := ["numbers"]) (x := "numbers_text") (sc := zT xT) (f := f) (cdv := cdv) (A := A) (outer := outer) (s := s) (H := H) (E := E) (om := [])
 exact (zR (zG (yK PySem.F.slot_str_join PySem.F.type_str_join jY qE zN (qI (sc0 := zT xT) (N0 := ["numbers"]) (fs := []) (js := []) (by exact ⟨rfl, by decide +kernel, by decide +kernel, by decide +kernel, by decide +kernel, rfl, by decide +kernel, by decide +kernel⟩) rfl rfl rfl (RI.c (xR (RE.rd (zY 0)))) (fun _ _ _ _ => vX) (fun _ _ _ _ => (yF uQ bZ T.g_str (by rfl) (zQ (zY 0) zU)))))))
theorem kL : zF ["word", "row"] ["word", "row"] (zT wM) := ⟨rfl, rfl, rfl, by decide +kernel, rfl, by decide +kernel, by decide +kernel⟩
theorem aW (T : Txt K mg) {f : Addr} {fd : FuncData} (h : Has K mg "read_number" wM f fd ["word", "row"]) : FnOk P w K mg base (CXV P w) 4 f fd ["word", "row"] (spX false yR) := by
 obtain ⟨fI, fdI, hfi, hfn, FI, BI⟩ := T.bt_fi
 have GI : FnOk P w K mg base CX0 2 fI fdI ["self", "row"] (spIni (CN.ad "BadText")) := yV7 T FI
 have GM : RunM P w K mg base 2 fI fdI ["self", "row"] (spIni (CN.ad "BadText")) := zJ6 T FI
 refine yN [] h.F kL fun cdv A outer s H E hr => ?_
 have nd := kL.nd
 have hu64 := hr.units
 have br := yU (P := P) (w := w) (K := K) (mg := mg) (base := base) (N := ["word", "row"]) (x := "read_number") (sc := zT wM) (f := f) (cdv := cdv) (A := A) (outer := outer) (s := s) (H := H) (E := E) (om := [])
 exact (zV (yP (RW.rt (rw_or (uT (wC (zG5 (zY 0)))) (rw_or (yY cB aZ (zI xD qH T.g_len PySem.boot_len (zQ (zY 0) zU)) (zP8 T.c_MOST_FIGURES.choose_spec.1 T.c_MOST_FIGURES.choose_spec.2)) (rw_or1 (RW.rt (rw_and (wC (yK PySem.F.slot_str_startswith PySem.F.type_str_startswith zV2 zW8 (zY 0) zN)) (rw_and1 (yY (qR hu64) jA (zY 0) zN)))))))) (zR (zZ4 NMR (hnR T) br T.bt_ex hfi hfn T.bt_kp T.x_BadText GI BI (hr.mono (by decide)) (zQ (zY 1) zU))) zC) (zR (zG (yF gR zJ3 T.g_int (by rfl) (zQ (zY 0) zU)))))
theorem jC : zF ["words", "row"] ["words", "row"] (zT xW) := ⟨rfl, rfl, rfl, by decide +kernel, rfl, by decide +kernel, by decide +kernel⟩
theorem bK (T : Txt K mg) {f : Addr} {fd : FuncData} (h : Has K mg "read_numbers" xW f fd ["words", "row"]) : FnOk P w K mg base (CXV P w) 5 f fd ["words", "row"] (spX false yV) := by
 obtain ⟨f_read_number, fd_read_number, H_read_number⟩ := T.d_read_number
 have G_read_number : FnOk P w K mg base (CXV P w) 4 f_read_number fd_read_number ["word", "row"] (spX false yR) := aW T H_read_number
 refine yN [] h.F jC fun cdv A outer s H E hr => ?_
 have nd := jC.nd
 have hu64 := hr.units
 have br := yU (P := P) (w := w) (K := K) (mg := mg) (base := base) (N := ["words", "row"]) (x := "read_numbers") (sc := zT xW) (f := f) (cdv := cdv) (A := A) (outer := outer) (s := s) (H := H) (E := E) (om := [])
 exact (zR (zG (yF xO kO T.g_tuple (by rfl) (zQ (yP4 (sc0 := zT xW) (N0 := ["words", "row"]) (fs := ["row"]) (js := [1]) br (by exact ⟨rfl, by decide +kernel, by decide +kernel, by decide +kernel, by decide +kernel, rfl, by decide +kernel, by decide +kernel⟩) rfl rfl rfl (RI.c (xR (RE.rd (zY 0)))) (fun _ _ _ _ _ bi => vX) (fun _ _ _ _ _ bi => (zB G_read_number H_read_number (hr.mono (by decide)) bi (zS (zY 0) (zS (zY 1) zU))))) zU))))
theorem fM : zF ["ring", "boxes"] ["ring"] (zT vR) := ⟨rfl, rfl, rfl, by decide +kernel, rfl, by decide +kernel, by decide +kernel⟩
theorem zR5 (T : Txt K mg) {f : Addr} {fd : FuncData} (h : Has K mg "ring_text" vR f fd ["ring"]) : FnOk P w K mg base (CXV P w) 2 f fd ["ring"] (spX false wH) := by
 obtain ⟨f_numbers_text, fd_numbers_text, H_numbers_text⟩ := T.d_numbers_text
 have G_numbers_text : FnOk P w K mg base (CXV P w) 1 f_numbers_text fd_numbers_text ["numbers"] (spX false vS) := bT T H_numbers_text
 refine yN [] h.F fM fun cdv A outer s H E hr => ?_
 have nd := fM.nd
 have hu64 := hr.units
 have br := yU (P := P) (w := w) (K := K) (mg := mg) (base := base) (N := ["ring", "boxes"]) (x := "ring_text") (sc := zT vR) (f := f) (cdv := cdv) (A := A) (outer := outer) (s := s) (H := H) (E := E) (om := [])
 exact (zV (yO 1 nd (zB G_numbers_text H_numbers_text (hr.mono (by decide)) br (zS (zY 0) zU))) (zR (zG (yE6 (zY 1)))))
theorem gT : zF ["order"] ["order"] (zT xC) := ⟨rfl, rfl, rfl, by decide +kernel, rfl, by decide +kernel, by decide +kernel⟩
theorem zV4 (T : Txt K mg) {f : Addr} {fd : FuncData} (h : Has K mg "order_text" xC f fd ["order"]) : FnOk P w K mg base (CXV P w) 3 f fd ["order"] (spX false uR) := by
 obtain ⟨f_rings_of, fd_rings_of, H_rings_of⟩ := T.d_rings_of
 have G_rings_of : FnOk P w K mg base (CXV P w) 2 f_rings_of fd_rings_of ["order"] (spX true uU) := zM8 T H_rings_of
 obtain ⟨f_ring_text, fd_ring_text, H_ring_text⟩ := T.d_ring_text
 have G_ring_text : FnOk P w K mg base (CXV P w) 2 f_ring_text fd_ring_text ["ring"] (spX false wH) := zR5 T H_ring_text
 refine yN [] h.F gT fun cdv A outer s H E hr => ?_
 have nd := gT.nd
 have hu64 := hr.units
 have br := yU (P := P) (w := w) (K := K) (mg := mg) (base := base) (N := ["order"]) (x := "order_text") (sc := zT xC) (f := f) (cdv := cdv) (A := A) (outer := outer) (s := s) (H := H) (E := E) (om := [])
 exact (zR (zG (yK PySem.F.slot_str_join PySem.F.type_str_join jY qE zN (qI (sc0 := zT xC) (N0 := ["order"]) (fs := []) (js := []) (by exact ⟨rfl, by decide +kernel, by decide +kernel, by decide +kernel, by decide +kernel, rfl, by decide +kernel, by decide +kernel⟩) rfl rfl rfl (RI.c (xR (RE.rd (RE.cl (zX8 G_rings_of H_rings_of (hr.mono (by decide)) br (zS (zY 0) zU)))))) (fun _ _ _ _ => vX) (fun _ _ _ _ => (zB G_ring_text H_ring_text (hr.mono (by decide)) (zG7 fun _ _ h => h) (zS (zY 0) zU)))))))
theorem gX : zF ["text", "rings", "order"] ["text"] (zT wY) := ⟨rfl, rfl, rfl, by decide +kernel, rfl, by decide +kernel, by decide +kernel⟩
theorem zW6 (T : Txt K mg) {f : Addr} {fd : FuncData} (h : Has K mg "read_order" wY f fd ["text"]) : FnOk P w K mg base (CXV P w) 6 f fd ["text"] (spX false yI) := by
 obtain ⟨fI, fdI, hfi, hfn, FI, BI⟩ := T.bt_fi
 have GI : FnOk P w K mg base CX0 2 fI fdI ["self", "row"] (spIni (CN.ad "BadText")) := yV7 T FI
 have GM : RunM P w K mg base 2 fI fdI ["self", "row"] (spIni (CN.ad "BadText")) := zJ6 T FI
 obtain ⟨f_read_numbers, fd_read_numbers, H_read_numbers⟩ := T.d_read_numbers
 have G_read_numbers : FnOk P w K mg base (CXV P w) 5 f_read_numbers fd_read_numbers ["words", "row"] (spX false yV) := bK T H_read_numbers
 obtain ⟨f_order_by, fd_order_by, H_order_by⟩ := T.d_order_by
 have G_order_by : FnOk P w K mg base (CXV P w) 2 f_order_by fd_order_by ["rings"] (spX false wS) := zM6 T H_order_by
 obtain ⟨f_order_text, fd_order_text, H_order_text⟩ := T.d_order_text
 have G_order_text : FnOk P w K mg base (CXV P w) 3 f_order_text fd_order_text ["order"] (spX false uR) := zV4 T H_order_text
 refine yN [] h.F gX fun cdv A outer s H E hr => ?_
 have nd := gX.nd
 have hu64 := hr.units
 have br := yU (P := P) (w := w) (K := K) (mg := mg) (base := base) (N := ["text", "rings", "order"]) (x := "read_order") (sc := zT wY) (f := f) (cdv := cdv) (A := A) (outer := outer) (s := s) (H := H) (E := E) (om := [])
 exact (zV (yQ9 1 nd (sc0 := zT wY) (N0 := ["text", "rings", "order"]) (fs := []) (js := []) br (by exact ⟨rfl, by decide +kernel, by decide +kernel, by decide +kernel, by decide +kernel, rfl, by decide +kernel, by decide +kernel⟩) rfl rfl rfl (RI.c (xR (RE.rd (RE.cl (yK PySem.F.slot_str_split PySem.F.type_str_split uN uM (xM (zY 0) (yJ zP) (yJ (vQ zP))) zN))))) (fun _ _ _ _ _ bi => vX) (fun _ _ _ _ _ bi => (zB G_read_numbers H_read_numbers (hr.mono (by decide)) bi (zS (RE.cl (yK PySem.F.slot_str_split PySem.F.type_str_split uN uM (zY 0) zN)) (zS zP zU))))) (zV (yM2 ["BadOrder"] (NMR 1) (hnR T 1 (by decide)).1 (hnR T 1 (by decide)).2 (fun _ _ _ br => (zR (yO 2 nd (zB G_order_by H_order_by (hr.mono (by decide)) br (zS (zY 1) zU))))) T.tx_BadOrder T.tb_BadOrder T.x_BadOrder T.ne_BadOrder br T.bt_ex hfi T.bt_kp hfn T.x_BadText GM BI (hr.mono (by decide))) (zV (yP (yY (qR hu64) jA (zB G_order_text H_order_text (hr.mono (by decide)) br (zS (zY 2) zU)) (zY 0)) (zR (zZ4 NMR (hnR T) br T.bt_ex hfi hfn T.bt_kp T.x_BadText GI BI (hr.mono (by decide)) (zQ zP zU))) zC) (zR (zG (zY 2))))))
theorem fK : zF ["script", "k"] ["script", "k"] (zT vN) := ⟨rfl, rfl, rfl, by decide +kernel, rfl, by decide +kernel, by decide +kernel⟩
theorem zT2 (T : Txt K mg) {f : Addr} {fd : FuncData} (h : Has K mg "_law_cell_at" vN f fd ["script", "k"]) : FnOk P w K mg base (CXV P w) 1 f fd ["script", "k"] (spX false vP) := by
 refine yN [] h.F fK fun cdv A outer s H E hr => ?_
 have nd := fK.nd
 have hu64 := hr.units
 have br := yU (P := P) (w := w) (K := K) (mg := mg) (base := base) (N := ["script", "k"]) (x := "_law_cell_at") (sc := zT vN) (f := f) (cdv := cdv) (A := A) (outer := outer) (s := s) (H := H) (E := E) (om := [])
 exact (zV (yP (yY yO8 yO9 (zY 1) (zI zA xK T.g_len PySem.boot_len (zQ (zY 0) zU))) (zR (zG (yC yA xJ (zY 0) (zY 1)))) zC) (zR (zG zP)))
theorem aY : zF ["found"] ["found"] (zT qY) := ⟨rfl, rfl, rfl, by decide +kernel, rfl, by decide +kernel, by decide +kernel⟩
theorem zE7 (T : Txt K mg) {f : Addr} {fd : FuncData} (h : Has K mg "_law_whole" qY f fd ["found"]) : FnOk P w K mg base (CXV P w) 1 f fd ["found"] (spX false jB) := by
 refine yN [] h.F aY fun cdv A outer s H E hr => ?_
 have nd := aY.nd
 have hu64 := hr.units
 have br := yU (P := P) (w := w) (K := K) (mg := mg) (base := base) (N := ["found"]) (x := "_law_whole") (sc := zT qY) (f := f) (cdv := cdv) (A := A) (outer := outer) (s := s) (H := H) (E := E) (om := [])
 exact (zR (zG (bB (yU2 T.k_int T.g_isinstance T.g_int (by decide +kernel) (zY 0)) (bQ (xX1 (yU2 T.k_bool T.g_isinstance T.g_bool (by decide +kernel) (zY 0)))))))
theorem bA : zF ["cell", "many", "order", "k"] ["cell", "many"] (zT qT) := ⟨rfl, rfl, rfl, by decide +kernel, rfl, by decide +kernel, by decide +kernel⟩
theorem zD1 (T : Txt K mg) {f : Addr} {fd : FuncData} (h : Has K mg "_law_order" qT f fd ["cell", "many"]) : FnOk P w K mg base (CXV P w) 1 f fd ["cell", "many"] (spX false jJ) := by
 refine yN [2] h.F bA fun cdv A outer s H E hr => ?_
 have nd := bA.nd
 have hu64 := hr.units
 have br := yU (P := P) (w := w) (K := K) (mg := mg) (base := base) (N := ["cell", "many", "order", "k"]) (x := "_law_order") (sc := zT qT) (f := f) (cdv := cdv) (A := A) (outer := outer) (s := s) (H := H) (E := E) (om := [2])
 exact (zV (xY 2 nd (yE zU)) (zV (wL (uE T.g_range (zQ (zY 1) zU)) (xN 3 nd) (zV (uH 2 PySem.F.slot_list_insert PySem.F.type_list_insert yV5 yV6 (zS (zK qU qV (zY 0) (zK uB qX (zY 3) zP)) (zS (zY 3) zU))) (zR (yO 0 nd (zK vY uZ (zY 0) (zK uB qX (zY 3) zP))))) PassesOwn.leaving) (zR (zG (yF xO kO T.g_tuple (by rfl) (zQ (yX 2) zU))))))
theorem zS8 : zF ["script", "total", "cell"] ["script"] (zT kN) := ⟨rfl, rfl, rfl, by decide +kernel, rfl, by decide +kernel, by decide +kernel⟩
theorem yU8 (T : Txt K mg) {f : Addr} {fd : FuncData} (h : Has K mg "_law_all" kN f fd ["script"]) : FnOk P w K mg base (CXV P w) 1 f fd ["script"] (spX false fG) := by
 refine yN [] h.F zS8 fun cdv A outer s H E hr => ?_
 have nd := zS8.nd
 have hu64 := hr.units
 have br := yU (P := P) (w := w) (K := K) (mg := mg) (base := base) (N := ["script", "total", "cell"]) (x := "_law_all") (sc := zT kN) (f := f) (cdv := cdv) (A := A) (outer := outer) (s := s) (H := H) (E := E) (om := [])
 exact (zV (yO 1 nd zP) (zV (wL (xR (RE.rd (zY 0))) (xN 2 nd) (zR (yO 1 nd (zK uB qX (zK yI5 yG6 (zY 1) zP) (zY 2)))) PassesOwn.leaving) (zR (zG (zY 1)))))
theorem cD : zF ["order", "found", "met", "box", "ring"] ["order"] (zT qS) := ⟨rfl, rfl, rfl, by decide +kernel, rfl, by decide +kernel, by decide +kernel⟩
theorem zE1 (T : Txt K mg) {f : Addr} {fd : FuncData} (h : Has K mg "_law_rings" qS f fd ["order"]) : FnOk P w K mg base (CXV P w) 1 f fd ["order"] (spX true wA) := by
 refine yN [1, 2, 4] h.F cD fun cdv A outer s H E hr => ?_
 have nd := cD.nd
 have hu64 := hr.units
 have br := yU (P := P) (w := w) (K := K) (mg := mg) (base := base) (N := ["order", "found", "met", "box", "ring"]) (x := "_law_rings") (sc := zT qS) (f := f) (cdv := cdv) (A := A) (outer := outer) (s := s) (H := H) (E := E) (om := [1, 2, 4])
 exact (zV (xY 1 nd (yE zU)) (zV (xY 2 nd (yE zU)) (zV (wL (uE T.g_range (zQ (zI zA xK T.g_len PySem.boot_len (zQ (zY 0) zU)) zU)) (xN 3 nd) (zR (yP (yY zT8 xU2 (zY 3) (yX 2)) (zV (xY 4 nd (yE (zS (zY 3) zU))) (zV (zQ2 1000000 (yY (qR hu64) jA (yC yA xJ (zY 0) (yC yA xJ (yX 4) (vQ zP))) (zY 3)) (zR (uH 4 PySem.F.slot_list_append PySem.F.type_list_append vC vE (zS (yC yA xJ (zY 0) (yC yA xJ (yX 4) (vQ zP))) zU))) PassesOwn.leaving) (zV (zQ6 2 (yX 4)) (zR (uH 1 PySem.F.slot_list_append PySem.F.type_list_append vC vE (zS (yF xO kO T.g_tuple (by rfl) (zQ (yX 4) zU)) zU)))))) zC)) PassesOwn.leaving) (zR (zK5 1)))))
theorem jG : zF ["order"] ["order"] (zT xU) := ⟨rfl, rfl, rfl, by decide +kernel, rfl, by decide +kernel, by decide +kernel⟩
theorem jI (T : Txt K mg) {f : Addr} {fd : FuncData} (h : Has K mg "_law_rings_text" xU f fd ["order"]) : FnOk P w K mg base (CXV P w) 2 f fd ["order"] (spX false yD) := by
 obtain ⟨f_l_rings, fd_l_rings, H_l_rings⟩ := T.d_l_rings
 have G_l_rings : FnOk P w K mg base (CXV P w) 1 f_l_rings fd_l_rings ["order"] (spX true wA) := zE1 T H_l_rings
 refine yN [] h.F jG fun cdv A outer s H E hr => ?_
 have nd := jG.nd
 have hu64 := hr.units
 have br := yU (P := P) (w := w) (K := K) (mg := mg) (base := base) (N := ["order"]) (x := "_law_rings_text") (sc := zT xU) (f := f) (cdv := cdv) (A := A) (outer := outer) (s := s) (H := H) (E := E) (om := [])
 exact (zR (zG (yK PySem.F.slot_str_join PySem.F.type_str_join jY qE zN (qI (sc0 := zT xU) (N0 := ["order"]) (fs := []) (js := []) (by exact ⟨rfl, by decide +kernel, by decide +kernel, by decide +kernel, by decide +kernel, rfl, by decide +kernel, by decide +kernel⟩) rfl rfl rfl (RI.c (xR (RE.rd (RE.cl (zX8 G_l_rings H_l_rings (hr.mono (by decide)) br (zS (zY 0) zU)))))) (fun _ _ _ _ => vX) (fun _ _ _ _ => (zK yT xZ (zK yT xZ zN (yK PySem.F.slot_str_join PySem.F.type_str_join jY qE zN (qI (sc0 := _) (N0 := _) (fs := []) (js := []) (by exact ⟨rfl, by decide +kernel, by decide +kernel, by decide +kernel, by repeat' (first | exact List.forall_mem_nil _ | refine List.forall_mem_cons.2 ⟨?_, ?_⟩ | (intro h; cases h; done) | exact (fun _ => Or.inl rfl) | exact (fun _ => Or.inr rfl) | exact ⟨rfl, rfl⟩), rfl, by repeat' (first | exact List.forall_mem_nil _ | refine List.forall_mem_cons.2 ⟨?_, ?_⟩ | (intro h; cases h; done) | exact (fun _ => Or.inl rfl) | exact (fun _ => Or.inr rfl) | exact ⟨rfl, rfl⟩), by decide +kernel⟩) rfl rfl rfl (RI.c (xR (RE.rd (zY 0)))) (fun _ _ _ _ => vX) (fun _ _ _ _ => (yF uQ bZ T.g_str (by rfl) (zQ (zY 0) zU)))))) zN))))))
theorem dI : zF ["word"] ["word"] (zT vT) := ⟨rfl, rfl, rfl, by decide +kernel, rfl, by decide +kernel, by decide +kernel⟩
theorem zN1 (T : Txt K mg) {f : Addr} {fd : FuncData} (h : Has K mg "_law_number" vT f fd ["word"]) : FnOk P w K mg base (CXV P w) 1 f fd ["word"] (spX false wR) := by
 refine yN [] h.F dI fun cdv A outer s H E hr => ?_
 have nd := dI.nd
 have hu64 := hr.units
 have br := yU (P := P) (w := w) (K := K) (mg := mg) (base := base) (N := ["word"]) (x := "_law_number") (sc := zT vT) (f := f) (cdv := cdv) (A := A) (outer := outer) (s := s) (H := H) (E := E) (om := [])
 exact (zV (yP (RW.rt (rw_or (yY (xI hu64) wG (zY 0) zN) (rw_or (yY cB aZ (zI xD qH T.g_len PySem.boot_len (zQ (zY 0) zU)) zP) (rw_or1 (RW.rt (rw_and (yY (xI hu64) wG (yC fU bU (zY 0) zP) zN) (rw_and1 (yY cB aZ (zI xD qH T.g_len PySem.boot_len (zQ (zY 0) zU)) zP)))))))) (zR (zG (vQ zP))) zC) (zV (yP (uT (wC (zI (zZ3 rfl) yV9 T.g_all (by rfl) (zQ (qI (sc0 := zT vT) (N0 := ["word"]) (fs := []) (js := []) (by exact ⟨rfl, by decide +kernel, by decide +kernel, by decide +kernel, by decide +kernel, rfl, by decide +kernel, by decide +kernel⟩) rfl rfl rfl (RI.c (yG2 (zY 0))) (fun _ _ _ _ => vX) (fun _ _ _ _ => (gP zB2 xX4 (zY 0) zN))) zU)))) (zR (zG (vQ zP))) zC) (zR (zG (yF gR zJ3 T.g_int (by rfl) (zQ (zY 0) zU))))))
theorem zZ5 : zF ["text", "boxes", "rings", "part", "ring", "names", "k"] ["text"] (zT uO) := ⟨rfl, rfl, rfl, by decide +kernel, rfl, by decide +kernel, by decide +kernel⟩
theorem yY8 (T : Txt K mg) {f : Addr} {fd : FuncData} (h : Has K mg "_law_read" uO f fd ["text"]) : FnOk P w K mg base (CXV P w) 3 f fd ["text"] (spX false vF) := by
 obtain ⟨f_l_number, fd_l_number, H_l_number⟩ := T.d_l_number
 have G_l_number : FnOk P w K mg base (CXV P w) 1 f_l_number fd_l_number ["word"] (spX false wR) := zN1 T H_l_number
 obtain ⟨f_l_rings_text, fd_l_rings_text, H_l_rings_text⟩ := T.d_l_rings_text
 have G_l_rings_text : FnOk P w K mg base (CXV P w) 2 f_l_rings_text fd_l_rings_text ["order"] (spX false yD) := jI T H_l_rings_text
 refine yN [1, 2, 5] h.F zZ5 fun cdv A outer s H E hr => ?_
 have nd := zZ5.nd
 have hu64 := hr.units
 have br := yU (P := P) (w := w) (K := K) (mg := mg) (base := base) (N := ["text", "boxes", "rings", "part", "ring", "names", "k"]) (x := "_law_read") (sc := zT uO) (f := f) (cdv := cdv) (A := A) (outer := outer) (s := s) (H := H) (E := E) (om := [1, 2, 5])
 exact (zV (yP (RW.rt (rw_or (yY yO8 yO9 (zI xD qH T.g_len PySem.boot_len (zQ (zY 0) zU)) zP) (rw_or (yY (qR hu64) jA (yC fU bU (zY 0) zP) zN) (rw_or1 (yY (qR hu64) jA (yC fU bU (zY 0) (vQ zP)) zN))))) (zR (zG jQ)) zC) (zV (xY 1 nd (yE zU)) (zV (xY 2 nd (yE zU)) (zV (wL (xR (RE.rd (RE.cl (yK PySem.F.slot_str_split PySem.F.type_str_split uN uM (xM (zY 0) (yJ zP) (yJ (vQ zP))) zN)))) (xN 3 nd) (zV (yI3 4 nd (sc0 := zT uO) (N0 := ["text", "boxes", "rings", "part", "ring", "names", "k"]) (fs := []) (js := []) (by exact ⟨rfl, by decide +kernel, by decide +kernel, by decide +kernel, by decide +kernel, rfl, by decide +kernel, by decide +kernel⟩) rfl rfl rfl (RI.c (xR (RE.rd (RE.cl (yK PySem.F.slot_str_split PySem.F.type_str_split uN uM (zY 3) zN))))) (fun _ _ _ _ => vX) (fun _ _ _ _ => (zB G_l_number H_l_number (hr.mono (by decide)) (zG7 fun _ _ h => h) (zS (zY 0) zU)))) (zV (zQ6 1 (zY 4)) (zR (uH 2 PySem.F.slot_list_append PySem.F.type_list_append vC vE (zS (zY 4) zU))))) PassesOwn.leaving) (zV (yP (RW.rt (rw_or (yY (qR hu64) jA (zI gK zI8 T.g_sorted (by rfl) (zQ (yX 1) zU)) (gQ T.g_list T.g_range (zQ (zI zA xK T.g_len PySem.boot_len (zQ (yX 1) zU)) zU))) (rw_or1 (yY cB aZ (zI zA xK T.g_len PySem.boot_len (zQ (yX 1) zU)) zP)))) (zR (zG jQ)) zC) (zV (xY 5 nd (zK aE zP5 (yE (zS zP zU)) (zI zA xK T.g_len PySem.boot_len (zQ (yX 1) zU)))) (zV (yK2 2 (wL (xR (yC2 2)) (xN 4 nd) (zR (wL (uE T.g_range (zQ (zI zA xK T.g_len PySem.boot_len (zQ (zY 4) zU)) zU)) (xN 6 nd) (zR (qB 5 (yC yA xJ (zY 4) (zY 6)) (yC yA xJ (zY 4) (zK zA5 zC2 (zY 6) zP)))) PassesOwn.leaving)) PassesOwn.leaving) (yN3 yN6 (yN3 yN6 xT1))) (zV (yP (yY (qR hu64) jA (bJ G_l_rings_text H_l_rings_text (hr.mono (by decide)) br (zQ (yX 5) zU)) (zY 0)) (zR (zG jQ)) zC) (zR (zG (yF xO kO T.g_tuple (by rfl) (zQ (yX 5) zU))))))))))))
theorem gO : zF ["text", "cell", "way", "at", "sign", "rings", "which", "words"] ["text", "cell"] (zT vJ) := ⟨rfl, rfl, rfl, by decide +kernel, rfl, by decide +kernel, by decide +kernel⟩
theorem zT9 (T : Txt K mg) {f : Addr} {fd : FuncData} (h : Has K mg "_law_changed" vJ f fd ["text", "cell"]) : FnOk P w K mg base (CXV P w) 1 f fd ["text", "cell"] (spX false wI) := by
 refine yN [5] h.F gO fun cdv A outer s H E hr => ?_
 have nd := gO.nd
 have hu64 := hr.units
 have br := yU (P := P) (w := w) (K := K) (mg := mg) (base := base) (N := ["text", "cell", "way", "at", "sign", "rings", "which", "words"]) (x := "_law_changed") (sc := zT vJ) (f := f) (cdv := cdv) (A := A) (outer := outer) (s := s) (H := H) (E := E) (om := [5])
 exact (zV (yO 2 nd (zK qU qV (zY 1) zP)) (zV (yO 3 nd (zK qU qV (zK vY uZ (zY 1) zP) (zK uB qX (zI xD qH T.g_len PySem.boot_len (zQ (zY 0) zU)) zP))) (zV (yO 4 nd (yC fU bU zN (zK qU qV (zK vY uZ (zY 1) zP) zP))) (zV (xY 5 nd (yK PySem.F.slot_str_split PySem.F.type_str_split uN uM (xM (zY 0) (yJ zP) (yJ (vQ zP))) zN)) (zV (yO 6 nd (zK qU qV (zK vY uZ (zY 1) zP) (zI zA xK T.g_len PySem.boot_len (zQ (yX 5) zU)))) (zV (yP (yY (xI hu64) wG (zY 2) zP) (zR (zG (zK yT xZ (zK yT xZ (xM (zY 0) xA (yJ (zY 3))) (zY 4)) (xM (zY 0) (yJ (zY 3)) xA)))) zC) (zV (yP (yY (xI hu64) wG (zY 2) zP) (zR (zG (zK yT xZ (xM (zY 0) xA (yJ (zY 3))) (xM (zY 0) (yJ (zK uB qX (zY 3) zP)) xA)))) zC) (zV (yP (yY (xI hu64) wG (zY 2) zP) (zR (zG (zK yT xZ (zK yT xZ (xM (zY 0) xA (yJ (zY 3))) (zY 4)) (xM (zY 0) (yJ (zK uB qX (zY 3) zP)) xA)))) zC) (zV (yP (yY (xI hu64) wG (zY 2) zP) (zV (yO 7 nd (RE.cl (yK PySem.F.slot_str_split PySem.F.type_str_split uN uM (yC yA xJ (yX 5) (zY 6)) zN))) (zR (qB 5 (yK PySem.F.slot_str_join PySem.F.type_str_join jY qE zN (zK dW bP (jF (zY 7) (yJ zP) xA) (jF (zY 7) xA (yJ zP)))) (zY 6)))) zC) (zV (yP (yY (xI hu64) wG (zY 2) zP) (zR (xY 5 nd (zK dW bP (jF (yX 5) (yJ (zY 6)) xA) (jF (yX 5) xA (yJ (zY 6)))))) zC) (zV (yP (yY (xI hu64) wG (zY 2) zP) (zR (qB 5 (zK yT xZ zN (yC yA xJ (yX 5) (zY 6))) (zY 6))) zC) (zV (yP (yY (xI hu64) wG (zY 2) zP) (zR (qB 5 (zK yT xZ (zK yT xZ (yC yA xJ (yX 5) (zY 6)) zN) (yF uQ bZ T.g_str (by rfl) (zQ (zK qU qV (zK vY uZ (zY 1) zP) zP) zU))) (zY 6))) zC) (zV (yP (yY (xI hu64) wG (zY 2) zP) (zR (uH 5 PySem.F.slot_list_append PySem.F.type_list_append vC vE (zS (yF uQ bZ T.g_str (by rfl) (zQ (zK qU qV (zK vY uZ (zY 1) zP) zP) zU)) zU))) zC) (zR (zG (zK yT xZ (zK yT xZ zN (yK PySem.F.slot_str_join PySem.F.type_str_join jY qE zN (yX 5))) zN))))))))))))))))
theorem cF : zF ["text", "error", "found", "e", "due"] ["text"] (zT qW) := ⟨rfl, rfl, rfl, by decide +kernel, rfl, by decide +kernel, by decide +kernel⟩
theorem zF3 (T : Txt K mg) {f : Addr} {fd : FuncData} (h : Has K mg "_law_right" qW f fd ["text"]) : FnOk P w K mg base (CXV P w) 7 f fd ["text"] (spX false xL) := by
 obtain ⟨f_read_order, fd_read_order, H_read_order⟩ := T.d_read_order
 have G_read_order : FnOk P w K mg base (CXV P w) 6 f_read_order fd_read_order ["text"] (spX false yI) := zW6 T H_read_order
 obtain ⟨f_l_read, fd_l_read, H_l_read⟩ := T.d_l_read
 have G_l_read : FnOk P w K mg base (CXV P w) 3 f_l_read fd_l_read ["text"] (spX false vF) := yY8 T H_l_read
 obtain ⟨f_l_whole, fd_l_whole, H_l_whole⟩ := T.d_l_whole
 have G_l_whole : FnOk P w K mg base (CXV P w) 1 f_l_whole fd_l_whole ["found"] (spX false jB) := zE7 T H_l_whole
 refine yN [] h.F cF fun cdv A outer s H E hr => ?_
 have nd := cF.nd
 have hu64 := hr.units
 have br := yU (P := P) (w := w) (K := K) (mg := mg) (base := base) (N := ["text", "error", "found", "e", "due"]) (x := "_law_right") (sc := zT qW) (f := f) (cdv := cdv) (A := A) (outer := outer) (s := s) (H := H) (E := E) (om := [])
 exact (zV (yO 1 nd jQ) (zV (yO 2 nd jQ) (zV (yM8 3 2 CLS nd G_read_order H_read_order (hr.mono (by decide)) (fun _ _ => (zS (zY 0) zU)) (fun _ => (zR (yO 1 nd (zY 3)))) T.tx_BoxError T.tb_BoxError T.x_BoxError) (zV (yO 4 nd (zB G_l_read H_l_read (hr.mono (by decide)) br (zS (zY 0) zU))) (zV (yP (yY yH6 yP6 (zY 4) jQ) (zR (zG (bB (gP yB3 xU6 (zY 1) jQ) (bQ (gP (xI hu64) wG (zY 2) (zY 4)))))) zC) (zV (yP (RW.rt (rw_or (uT (wC (yI8 CLS ROWN T.kx_BadText T.g_isinstance T.x_BadText (zY 1)))) (rw_or1 (uT (wC (yS3 CLS CLS T.kv_ValueError T.g_isinstance T.g_ValueError PyProof.Rows.Boot.«ValueError» (zY 1))))))) (zR (zG hZ)) zC) (zV (yP (wC (yU5 CLS ["BadBox", "BadOrder", "BadPlan", "NoNumber", "TooMany"] (List.forall_mem_cons.2 ⟨T.kx_BadBox, (List.forall_mem_cons.2 ⟨T.kx_BadOrder, (List.forall_mem_cons.2 ⟨T.kx_BadPlan, (List.forall_mem_cons.2 ⟨T.kx_NoNumber, (List.forall_mem_cons.2 ⟨T.kx_TooMany, (fun _ h => nomatch h)⟩)⟩)⟩)⟩)⟩) T.g_isinstance (kP T.x_BadBox (kP T.x_BadOrder (kP T.x_BadPlan (kP T.x_NoNumber (kP T.x_TooMany yA4))))) (zY 1))) (zR (zG hZ)) zC) (zR (zG (bB (zB G_l_whole H_l_whole (hr.mono (by decide)) br (zS (yX8 T.ek_BadText T.rx T.bt_rc (zY 1)) zU)) (bQ (gP (xI hu64) wG (yX8 T.ek_BadText T.rx T.bt_rc (zY 1)) zP))))))))))))
theorem yW6 : zF ["script", "many", "text", "cell", "once", "odd"] ["script"] (zT fD) := ⟨rfl, rfl, rfl, by decide +kernel, rfl, by decide +kernel, by decide +kernel⟩
theorem xZ8 (T : Txt K mg) {f : Addr} {fd : FuncData} (h : Has K mg "law" fD f fd ["script"]) : FnOk P w K mg base (CXV P w) 8 f fd ["script"] (spX false zH6) := by
 obtain ⟨f_l_cell_at, fd_l_cell_at, H_l_cell_at⟩ := T.d_l_cell_at
 have G_l_cell_at : FnOk P w K mg base (CXV P w) 1 f_l_cell_at fd_l_cell_at ["script", "k"] (spX false vP) := zT2 T H_l_cell_at
 obtain ⟨f_l_rings_text, fd_l_rings_text, H_l_rings_text⟩ := T.d_l_rings_text
 have G_l_rings_text : FnOk P w K mg base (CXV P w) 2 f_l_rings_text fd_l_rings_text ["order"] (spX false yD) := jI T H_l_rings_text
 obtain ⟨f_l_order, fd_l_order, H_l_order⟩ := T.d_l_order
 have G_l_order : FnOk P w K mg base (CXV P w) 1 f_l_order fd_l_order ["cell", "many"] (spX false jJ) := zD1 T H_l_order
 obtain ⟨f_l_all, fd_l_all, H_l_all⟩ := T.d_l_all
 have G_l_all : FnOk P w K mg base (CXV P w) 1 f_l_all fd_l_all ["script"] (spX false fG) := yU8 T H_l_all
 obtain ⟨f_l_right, fd_l_right, H_l_right⟩ := T.d_l_right
 have G_l_right : FnOk P w K mg base (CXV P w) 7 f_l_right fd_l_right ["text"] (spX false xL) := zF3 T H_l_right
 obtain ⟨f_l_changed, fd_l_changed, H_l_changed⟩ := T.d_l_changed
 have G_l_changed : FnOk P w K mg base (CXV P w) 1 f_l_changed fd_l_changed ["text", "cell"] (spX false wI) := zT9 T H_l_changed
 refine yN [] h.F yW6 fun cdv A outer s H E hr => ?_
 have nd := yW6.nd
 have hu64 := hr.units
 have br := yU (P := P) (w := w) (K := K) (mg := mg) (base := base) (N := ["script", "many", "text", "cell", "once", "odd"]) (x := "law") (sc := zT fD) (f := f) (cdv := cdv) (A := A) (outer := outer) (s := s) (H := H) (E := E) (om := [])
 exact (zV (yO 1 nd (zK uB qX zP (zK qU qV (zB G_l_cell_at H_l_cell_at (hr.mono (by decide)) br (zS (zY 0) (zS zP zU))) zP))) (zV (yO 2 nd (zB G_l_rings_text H_l_rings_text (hr.mono (by decide)) br (zS (zB G_l_order H_l_order (hr.mono (by decide)) br (zS (zB G_l_all H_l_all (hr.mono (by decide)) br (zS (zY 0) zU)) (zS (zY 1) zU))) zU))) (zV (yP (uT (wC (zB G_l_right H_l_right (hr.mono (by decide)) br (zS (zY 2) zU)))) (zR (zG hZ)) zC) (zV (wL (xR (RE.rd (zC4 (zY 0) xA (yJ zP)))) (xN 3 nd) (zV (yO 4 nd (zB G_l_changed H_l_changed (hr.mono (by decide)) br (zS (zY 2) (zS (zK vY uZ (zI zO4 zD7 T.g_abs (by rfl) (zQ (zY 3) zU)) zP) zU)))) (zV (yP (uT (wC (zB G_l_right H_l_right (hr.mono (by decide)) br (zS (zY 4) zU)))) (zR (zG hZ)) zC) (zR (yP (RW.rt (rw_and (yY cB aZ (zI xD qH T.g_len PySem.boot_len (zQ (zY 4) zU)) zP) (rw_and1 (uT (wC (zB G_l_right H_l_right (hr.mono (by decide)) br (zS (zB G_l_changed H_l_changed (hr.mono (by decide)) br (zS (zY 4) (zS (zK uB qX (zK vY uZ (zI zO4 zD7 T.g_abs (by rfl) (zQ (zY 3) zU)) zP) zP) zU))) zU))))))) (zR (zG hZ)) zC)))) PassesOwn.leaving) (zV (yO 5 nd (RE.cl (yE (zS zN (zS zN (zS zN (zS zN (zS zN (zS zN (zS zN (zS zN (zS zN (zS zN (zS zN (zS zN (zS zN (zS zN zU))))))))))))))))) (zV (yO 5 nd (RE.cl (zK dW bP (zY 5) (yE (zS zN (zS zN (zS zN (zS zN (zS zN (zS zN (zS zN (zS zN (zS zN (zS zN zU)))))))))))))) (zV (yO 5 nd (RE.cl (zK dW bP (zY 5) (yE (zS zN (zS (zK yT xZ (zK yT xZ zN (zK yI2 yK3 zN zP)) zN) zU)))))) (zR (zG (zI (zZ3 rfl) yV9 T.g_all (by rfl) (zQ (qI (sc0 := zT fD) (N0 := ["script", "many", "text", "cell", "once", "odd"]) (fs := []) (js := []) (by exact ⟨rfl, by decide +kernel, by decide +kernel, by decide +kernel, by decide +kernel, rfl, by decide +kernel, by decide +kernel⟩) rfl rfl rfl (RI.c (xR (RE.rd (zY 5)))) (fun _ _ _ _ => vX) (fun _ _ _ _ => (zB G_l_right H_l_right (hr.mono (by decide)) (zG7 fun _ _ h => h) (zS (zY 0) zU)))) zU)))))))))))
end
end K49
namespace K49
open PySem L2 L2.L3 MR
def evA := (And.intro (And.intro (And.intro (And.intro (And.intro (And.intro @yD2 (And.intro @yT8 @yS8)) (And.intro @xW7 (And.intro @aK @xZ7))) (And.intro (And.intro @xY5 (And.intro @xV8 @xU8)) (And.intro @xW5 (And.intro @xY6 @yE4)))) (And.intro (And.intro (And.intro @xV2 (And.intro @xU9 @bI)) (And.intro @yC5 (And.intro @xT9 @xT4))) (And.intro (And.intro @bO (And.intro @fV @zV6)) (And.intro (And.intro @xW8 @xU4) (And.intro @xU7 @xT2))))) (And.intro (And.intro (And.intro (And.intro @xX9 (And.intro @xX7 @xU3)) (And.intro @zV7 (And.intro @eV0 @eVs))) (And.intro (And.intro @xT5 (And.intro @zV9 @zU8)) (And.intro (And.intro @xT3 @xZ2) (And.intro @xV4 @zU7)))) (And.intro (And.intro (And.intro @zU1 (And.intro @xV6 @yB7)) (And.intro @yC3 (And.intro @xW6 @bY))) (And.intro (And.intro @xV5 (And.intro @xX3 @yC1)) (And.intro (And.intro @zU3 @zU2) (And.intro @yN4 @xU1)))))) (And.intro (And.intro (And.intro (And.intro (And.intro @xW2 (And.intro @yJ5 @xU5)) (And.intro @zU5 (And.intro @yH4 @yV3))) (And.intro (And.intro @yY1 (And.intro @bX @aD)) (And.intro (And.intro @yQ1 @yI9) (And.intro @xX6 @xW1)))) (And.intro (And.intro (And.intro @yL2 (And.intro @zV5 @yF8)) (And.intro @yD4 (And.intro @yF6 @yE1))) (And.intro (And.intro @xZ4 (And.intro @yE5 @yD6)) (And.intro (And.intro @yD8 @yC7) (And.intro @xY8 @mkL0))))) (And.intro (And.intro (And.intro (And.intro @mkL1 (And.intro @mkL2 @mkL3)) (And.intro @mkL4 (And.intro @mkT0 @mkT1))) (And.intro (And.intro @mkT2 (And.intro @mkT3 @Res.bind_ok)) (And.intro (And.intro @Res.bind_no @Res.bind_ex) (And.intro @Res.lft_some @Res.lft_none)))) (And.intro (And.intro (And.intro @Option.map_some.{0,0} (And.intro @Option.bind_some.{0,0} @List.set_cons_zero.{0})) (And.intro @List.set_cons_succ.{0} (And.intro @List.length_cons.{0} @List.length_nil.{0}))) (And.intro (And.intro @if_true.{1} (And.intro @if_false.{1} @Bool.false_eq_true)) (And.intro (And.intro @ite_true.{1} @ite_false.{1}) (And.intro @Bool.not_true @Bool.not_false)))))))
def rI' (r : List Nat) : List Int := r.map fun (b : Nat) => (b : Int)
theorem zO9 {n b : Nat} {xs : List Int} (o : Ord n xs) (hn : n <= 1000) (hb : b < n) : vL [tI xs, .int b] = .ok (tI (rI' (ring n xs b))) := by
 show (kZ [some (tI xs), some (.int b), none]).bind (fin false) = _
 unfold kZ
 simp -implicitDefEqProofs only [(evA)]
 obtain ⟨a1, a2, a3, a4⟩ := o.xP hb
 have last : ∀ i, atI ((List.range (i + 1)).map fun j => PyData.int ((it xs j b : Nat) : Int)) (-1) = some (.int ((it xs i b : Nat) : Int)) := fun i => by
  rw [List.range_succ, List.map_append]
  exact gY _ _
 have nx : ∀ i, atI (xs.map PyData.int) ((it xs i b : Nat) : Int) = some (.int ((it xs (i + 1) b : Nat) : Int)) := fun i => by
  have hi := o.vI hb i
  rw [uL, jW (by rw [o.len]; exact hi), o.qC hi]
  rfl
 obtain ⟨ρ', e, rfl⟩ := zO8 (t := b2 neD (e2 ixD (eV 0) (e2 ixD (eV 2) (e1 negD (eC (.int 1))))) (eV 1)) (b := sM 2 appD (aC (e2 ixD (eV 0) (e2 ixD (eV 2) (e1 negD (eC (.int 1))))) aN))
  (fun i ρ => ρ = [some (tI xs), some (.int b), some (.list ((List.range (i + 1)).map fun j => PyData.int ((it xs j b : Nat) : Int)))]) (per n xs b - 1) 1000000 [some (tI xs), some (.int b), some (.list [.int b])] rfl (by
   rintro i ρ hi rfl
   simp -implicitDefEqProofs only [(evA), last, nx, qG]
   have ne := a4 (i + 1) (by bv_omega) (by bv_omega)
   rw [decide_eq_false (by bv_omega)]
   refine ⟨rfl, _, ?_, rfl⟩
   simp -implicitDefEqProofs only [(evA), uC (l := (List.range (i + 1)).map fun j => PyData.int ((it xs j b : Nat) : Int)) (by rw [List.length_map, List.length_range]; bv_omega)]
   congr 2
   simp only [List.range_succ, List.map_append, List.map_cons, List.map_nil]) (by
   rintro ρ rfl
   simp -implicitDefEqProofs only [(evA), last, nx, qG]
   rw [show per n xs b - 1 + 1 = per n xs b by bv_omega, a3, decide_eq_true rfl]
   rfl) (by bv_omega)
 rw [e]
 simp -implicitDefEqProofs only [(evA)]
 congr 2
 rw [show per n xs b - 1 + 1 = per n xs b by bv_omega]
 unfold rI' ring
 rw [List.map_map, List.map_map]
 rfl
abbrev ringsD (n : Nat) (xs : List Int) (m : Nat) : List (List Int) := (rgs n xs m).map rI'
theorem zN3 {n : Nat} {xs : List Int} (o : Ord n xs) (hn : n <= 1000) : uU [tI xs] = .ok (rows (ringsD n xs n)) := by
 show (kB [some (tI xs), none, none, none, none, none]).bind (fin true) = _
 unfold kB
 simp -implicitDefEqProofs only [(evA), List.length_map, o.len, cT _ n hn, vD hn, zW9]
 have cnt : ∀ m, m <= n -> (rgs n xs m).length <= m := by
  intro m
  induction m with
  | zero => intro _; simp [rgs]
  | succ m ih =>
   intro h
   have := ih (by bv_omega)
   rw [rgs]
   split
   ·bv_omega
   ·rw [List.length_append, List.length_singleton]; bv_omega
 obtain ⟨ρ', e, x, y, z, rfl⟩ := wW (g := gN 3) (b := sIf (tNt (tV (e2 ixD (eV 2) (eV 3)))) (sQ (sS 4 (eF vL (aC (eV 0) (aC (eV 3) aN)))) (sQ (sM 1 appD (aC (eV 4) aN)) (sF (iS (eV 4)) (gN 5) (sI 2 (eV 5) (eC (.bool true)))))) sN)
  (fun i ρ => ∃ x y z, ρ = [some (tI xs), some (rows (ringsD n xs i)), some (.list ((List.range n).map fun c => .bool (has (rgs n xs i) c))), x, y, z]) ((List.range n).map fun (i : Nat) => PyData.int (i : Int)) [some (tI xs), some (.list []), some (.list ((List.range n).map fun _ => .bool false)), none, none, none] ⟨none, none, none, rfl⟩ (by
   rintro i d ρ hd ⟨x, y, z, rfl⟩
   obtain ⟨hi, rfl⟩ := qD hd
   cases hh : has (rgs n xs i) i with
   | true =>
    refine ⟨_, [some (tI xs), some (rows (ringsD n xs i)), some (.list ((List.range n).map fun c => .bool (has (rgs n xs i) c))), some (.int i), y, z], rfl, ?_, some (.int i), y, z, ?_⟩
    ·simp -implicitDefEqProofs only [(evA), zZ7 hi, hh]
    ·unfold ringsD
     rw [rgs, if_pos hh]
   | false =>
    have hh' : ¬ has (rgs n xs i) i = true := by rw [hh]; exact Bool.false_ne_true
    obtain ⟨ρ2, e2, x2, rfl⟩ := wW (g := gN 5) (b := sI 2 (eV 5) (eC (.bool true)))
     (fun j ρ => ∃ x, ρ = [some (tI xs), some (rows (ringsD n xs i ++ [rI' (ring n xs i)])), some (.list ((List.range n).map fun c => .bool (has (rgs n xs i) c || ((ring n xs i).take j).contains c))), some (.int i), some (tI (rI' (ring n xs i))), x]) ((rI' (ring n xs i)).map PyData.int)
     [some (tI xs), some (rows (ringsD n xs i ++ [rI' (ring n xs i)])), some (.list ((List.range n).map fun c => .bool (has (rgs n xs i) c))), some (.int i), some (tI (rI' (ring n xs i))), z] ⟨z, by simp⟩ (by
      rintro j d ρ hd ⟨x, rfl⟩
      unfold rI' at hd
      rw [List.map_map, List.getElem?_map] at hd
      obtain ⟨m, hm, rfl⟩ := Option.map_eq_some_iff.mp hd
      have hmr : m ∈ ring n xs i := List.mem_of_getElem? hm
      have hml : m < n := o.zV8 hi (wU.mp hmr)
      refine ⟨_, _, rfl, ?_, some (.int m), rfl⟩
      simp -implicitDefEqProofs only [(evA), Function.comp, zG8 hml]
      congr 6
      refine congrArg PyData.list (List.map_congr_left fun c _ => ?_)
      rw [List.take_succ, hm]
      by_cases ec : c = m
      ·subst ec
       rw [if_pos rfl]
       simp
      ·rw [if_neg ec]
       simp [ec])
    refine ⟨_, _, rfl, ?_, some (.int i), some (tI (rI' (ring n xs i))), x2, rfl⟩
    have e5 : rows (ringsD n xs i) = .list ((ringsD n xs i).map tI) := rfl
    simp -implicitDefEqProofs only [(evA), zZ7 hi, hh, zO9 o hn hi, uC (l := (ringsD n xs i).map tI) (d := tI (rI' (ring n xs i))) (by rw [List.length_map, List.length_map]; have := cnt i (by bv_omega); bv_omega)]
    have e6 : (ringsD n xs i).map tI ++ [tI (rI' (ring n xs i))] = (ringsD n xs i ++ [rI' (ring n xs i)]).map tI := by rw [List.map_append]; rfl
    rw [e6, e2]
    congr 2
    have e7 : ringsD n xs (i + 1) = ringsD n xs i ++ [rI' (ring n xs i)] := by
     unfold ringsD
     rw [rgs, if_neg hh', List.map_append]
     rfl
    rw [e7]
    congr 4
    refine congrArg PyData.list (List.map_congr_left fun c _ => ?_)
    congr 1
    rw [rgs, if_neg hh']
    unfold has rI'
    rw [List.any_append, List.length_map, List.length_map, List.take_length]
    simp)
 rw [List.length_map, List.length_range] at e
 rw [e]
 rfl
theorem yG (l : List Nat) : (rI' l).length = l.length := by unfold rI'; simp
theorem yW7 (a b : List Nat) : rI' (a ++ b) = rI' a ++ rI' b := by unfold rI'; simp
theorem aS {ys : List Int} : sortI ys = rg ys.length ↔ ys.Perm (rg ys.length) := by
 constructor
 ·intro h
  rw [<- h]
  exact (kA ys).symm
 ·intro h
  exact zM2 ((kA ys).trans h) (fQ ys) (xV1 _)
theorem yS5 {ns : List Int} (h : ns.length <= 63) : sortD [tI ns] = some (lI (sortI ns)) := by
 unfold sortD
 simp only [nsD, seqD, Option.bind_some, intsOf_map]
 rw [if_pos (by bv_omega)]
theorem dO {d : D} {ys : List Int} (hd : d = lI ys \/ d = tI ys) : qM [d] = .ok (.bool (decide (1 <= ys.length /\ ys.length <= 60 /\ ys.Perm (rg ys.length)))) := by
 show (kF [some d]).bind (fin false) = _
 unfold kF
 have ln : lenD [d] = some (.int (ys.length : Int)) := by
  rcases hd with rfl | rfl
  ·rw [aD]; simp only [yV3, Option.map_some, List.length_map]
  ·rw [aD]; simp only [yY1, Option.map_some, List.length_map]
 by_cases h1 : 1 <= ys.length
 ·by_cases h2 : ys.length <= 60
  ·have sr : sortD [d] = some (lI (sortI ys)) := by
    rcases hd with rfl | rfl
    ·exact zT6 (by bv_omega)
    ·exact yS5 (by bv_omega)
   have d1 : decide ((1 : Int) <= (ys.length : Int)) = true := decide_eq_true (by bv_omega)
   have d2 : decide ((ys.length : Int) <= 60) = true := decide_eq_true (by bv_omega)
   have rl := bR (n := ys.length) (by bv_omega)
   rw [show ((List.range ys.length).map fun (i : Nat) => (i : Int)) = rg ys.length from rfl] at rl
   simp -implicitDefEqProofs only [zV6, bY, zU1, zU7, zV7, zU8, zU2, zU3, eV0, zV9, zU5, bX, zV5, bI, Res.bind_ok, Res.lft_some, ln, d1, d2, sr, rl, yB6, if_true]
   congr 2
   rw [Bool.eq_iff_iff, decide_eq_true_iff, decide_eq_true_iff, aS]
   exact ⟨fun z => ⟨h1, h2, z⟩, fun z => z.2.2⟩
  ·have d1 : decide ((1 : Int) <= (ys.length : Int)) = true := decide_eq_true (by bv_omega)
   have d2 : decide ((ys.length : Int) <= 60) = false := decide_eq_false (by bv_omega)
   simp -implicitDefEqProofs only [zV6, bY, zU1, zU7, zV7, zU8, zU2, zU3, eV0, zV9, zU5, bX, zV5, bI, Res.bind_ok, Res.lft_some, ln, d1, d2, if_true, Bool.false_eq_true, if_false]
   congr 2
   symm
   exact decide_eq_false fun z => h2 z.2.1
 ·have d1 : decide ((1 : Int) <= (ys.length : Int)) = false := decide_eq_false (by bv_omega)
  simp -implicitDefEqProofs only [zV6, bY, zU1, zU7, zV7, zU8, zU2, zU3, eV0, zV9, zU5, bX, zV5, bI, Res.bind_ok, Res.lft_some, ln, d1, Bool.false_eq_true, if_false]
  congr 2
  symm
  exact decide_eq_false fun z => h1 z.1
theorem zL9 {xs : List Int} {a : Nat} (h : a < xs.length) (v : Int) : setD (xs.map PyData.int) (.int (a : Int)) (.int v) = some ((xs.set a v).map PyData.int) := by
 unfold setD
 simp only
 rw [List.length_map, aF h, Option.map_some, List.map_set]
theorem zA7 {n : Nat} {xs : List Int} (o : Ord n xs) : (rgs n xs n).flatten.Perm (List.range n) := by
 have k := o.fO n (Nat.le_refl n)
 rw [List.perm_ext_iff_of_nodup k.nodup List.nodup_range]
 intro a
 rw [List.mem_range, List.mem_flatten]
 constructor
 ·rintro ⟨r, hr, ha⟩
  obtain ⟨b, hb, rfl, _⟩ := k.each r hr
  exact o.zV8 hb (wU.mp ha)
 ·intro h
  exact k.cover a h
theorem zR8 {n : Nat} {xs : List Int} (o : Ord n xs) : (rgs n xs n).flatten.length = n := by
 rw [(zA7 o).length_eq, List.length_range]
theorem yM3 {n b : Nat} {xs : List Int} {F M : Option D} (o : Ord n xs) (hn : n <= 1000) (hb : b < n) : whM (b2 neD (e2 ixD (eV 0) (e2 ixD (eV 4) (e1 negD (eC (.int 1))))) (eV 3)) (sM 4 appD (aC (e2 ixD (eV 0) (e2 ixD (eV 4) (e1 negD (eC (.int 1))))) aN)) 1000000 [some (tI xs), F, M, some (.int b), some (.list [.int b])] = .ok (.nx [some (tI xs), F, M, some (.int b), some (lI (rI' (ring n xs b)))]) := by
 obtain ⟨a1, a2, a3, a4⟩ := o.xP hb
 have last : ∀ i, atI ((List.range (i + 1)).map fun j => PyData.int ((it xs j b : Nat) : Int)) (-1) = some (.int ((it xs i b : Nat) : Int)) := fun i => by
  rw [List.range_succ, List.map_append]
  exact gY _ _
 have nx : ∀ i, atI (xs.map PyData.int) ((it xs i b : Nat) : Int) = some (.int ((it xs (i + 1) b : Nat) : Int)) := fun i => by
  have hi := o.vI hb i
  rw [uL, jW (by rw [o.len]; exact hi), o.qC hi]
  rfl
 obtain ⟨ρ', e, rfl⟩ := zO8 (t := b2 neD (e2 ixD (eV 0) (e2 ixD (eV 4) (e1 negD (eC (.int 1))))) (eV 3)) (b := sM 4 appD (aC (e2 ixD (eV 0) (e2 ixD (eV 4) (e1 negD (eC (.int 1))))) aN))
  (fun i ρ => ρ = [some (tI xs), F, M, some (.int b), some (.list ((List.range (i + 1)).map fun j => PyData.int ((it xs j b : Nat) : Int)))]) (per n xs b - 1) 1000000 [some (tI xs), F, M, some (.int b), some (.list [.int b])] rfl (by
   rintro i ρ hi rfl
   simp -implicitDefEqProofs only [(evA), last, nx, qG]
   have ne := a4 (i + 1) (by bv_omega) (by bv_omega)
   rw [decide_eq_false (by bv_omega)]
   refine ⟨rfl, _, ?_, rfl⟩
   simp -implicitDefEqProofs only [(evA), uC (l := (List.range (i + 1)).map fun j => PyData.int ((it xs j b : Nat) : Int)) (by rw [List.length_map, List.length_range]; bv_omega)]
   congr 2
   simp only [List.range_succ, List.map_append, List.map_cons, List.map_nil]) (by
   rintro ρ rfl
   simp -implicitDefEqProofs only [(evA), last, nx, qG]
   rw [show per n xs b - 1 + 1 = per n xs b by bv_omega, a3, decide_eq_true rfl]
   rfl) (by bv_omega)
 rw [e]
 rw [show per n xs b - 1 + 1 = per n xs b by bv_omega]
 unfold rI' ring
 rw [List.map_map]
 simp only [lI, List.map_map, Function.comp_def]
theorem zO2 (rs : List (List Nat)) (b : Nat) : (rI' rs.flatten).contains (b : Int) = has rs b := by
 rw [Bool.eq_iff_iff, aM, List.contains_iff_mem]
 unfold rI'
 simp only [List.mem_map, List.mem_flatten]
 constructor
 ·rintro ⟨c, h, e⟩
  have : c = b := by bv_omega
  rw [<- this]
  exact h
 ·intro h
  exact ⟨b, h, rfl⟩
theorem zH9 {n : Nat} {xs : List Int} (o : Ord n xs) (hn : n <= 500) : wA [tI xs] = .ok (rows (ringsD n xs n)) := by
 show (uA [some (tI xs), none, none, none, none]).bind (fin true) = _
 unfold uA
 simp -implicitDefEqProofs only [(evA), List.length_map, o.len, vD (show n <= 1000 by bv_omega)]
 have cnt : ∀ m, m <= n -> (rgs n xs m).length <= m := by
  intro m
  induction m with
  | zero => intro _; simp [rgs]
  | succ m ih =>
   intro h
   have := ih (by bv_omega)
   rw [rgs]
   split
   ·bv_omega
   ·rw [List.length_append, List.length_singleton]; bv_omega
 have grow : ∀ m d, (rgs n xs m).flatten.length <= (rgs n xs (m + d)).flatten.length := by
  intro m d
  induction d with
  | zero => exact Nat.le_refl _
  | succ d ih =>
   refine Nat.le_trans ih ?_
   rw [<- Nat.add_assoc, rgs]
   split
   ·exact Nat.le_refl _
   ·rw [List.flatten_append, List.length_append]; bv_omega
 have fln : ∀ m, m <= n -> (rgs n xs m).flatten.length <= n := fun m hm => by
  have := grow m (n - m)
  rw [show m + (n - m) = n by bv_omega, zR8 o] at this
  exact this
 refine dZ (fun i ρ => ∃ x y, ρ = [some (tI xs), some (rows (ringsD n xs i)), some (lI (rI' (rgs n xs i).flatten)), x, y]) ⟨none, none, rfl⟩ ?_ ?_
 ·rintro i d ρ hd ⟨x, y, rfl⟩
  obtain ⟨hi, rfl⟩ := qD hd
  have hin : inD true (.int (i : Int)) (lI (rI' (rgs n xs i).flatten)) = some (!has (rgs n xs i) i) := by
   rw [yO5, zO2]
   rfl
  cases hh : has (rgs n xs i) i with
  | true =>
   refine ⟨_, [some (tI xs), some (rows (ringsD n xs i)), some (lI (rI' (rgs n xs i).flatten)), some (.int i), y], rfl, ?_, some (.int i), y, ?_⟩
   ·simp -implicitDefEqProofs only [(evA), hin, hh]
   ·unfold ringsD
    rw [rgs, if_pos hh]
  | false =>
   have hh' : ¬ has (rgs n xs i) i = true := by rw [hh]; exact Bool.false_ne_true
   have e7 : ringsD n xs (i + 1) = ringsD n xs i ++ [rI' (ring n xs i)] := by
    unfold ringsD
    rw [rgs, if_neg hh', List.map_append]
    rfl
   have e8 : (rgs n xs (i + 1)).flatten = (rgs n xs i).flatten ++ ring n xs i := by
    rw [rgs, if_neg hh', List.flatten_append]
    simp
   have f1 := fln i (by bv_omega)
   have f2 := (o.xP hi).2.1
   have x1 := gH (l := (rI' (rgs n xs i).flatten).map PyData.int) (k := (rI' (ring n xs i)).map PyData.int) (d := lI (rI' (ring n xs i))) rfl (by rw [List.length_map, List.length_map, yG, yG, kY]; bv_omega)
   have c1 := cnt i (by bv_omega)
   refine ⟨_, _, rfl, ?_, some (.int i), some (lI (rI' (ring n xs i))), rfl⟩
   simp -implicitDefEqProofs only [(evA), hin, hh, yM3 o (show n <= 1000 by bv_omega) hi, x1, uC (l := (ringsD n xs i).map tI) (d := tI (rI' (ring n xs i))) (by rw [List.length_map, List.length_map]; bv_omega)]
   rw [e7, e8, yW7]
   simp only [lI, rows, List.map_append, List.map_cons, List.map_nil]
 ·rintro ρ ⟨x, y, rfl⟩
  rw [List.length_map, List.length_range]
  simp -implicitDefEqProofs only [(evA)]
theorem yS6 {n b : Nat} {xs : List Int} {F M : Option D} (o : Ord n xs) (hn : n <= 1000) (hb : b < n) : whM (b2 neD (e2 ixD (eV 0) (e2 ixD (eV 4) (e1 negD (eC (.int 1))))) (eV 3)) (sM 4 appD (aC (e2 ixD (eV 0) (e2 ixD (eV 4) (e1 negD (eC (.int 1))))) aN)) 1000000 [some (lI xs), F, M, some (.int b), some (.list [.int b])] = .ok (.nx [some (lI xs), F, M, some (.int b), some (lI (rI' (ring n xs b)))]) := by
 obtain ⟨a1, a2, a3, a4⟩ := o.xP hb
 have last : ∀ i, atI ((List.range (i + 1)).map fun j => PyData.int ((it xs j b : Nat) : Int)) (-1) = some (.int ((it xs i b : Nat) : Int)) := fun i => by
  rw [List.range_succ, List.map_append]
  exact gY _ _
 have nx : ∀ i, atI (xs.map PyData.int) ((it xs i b : Nat) : Int) = some (.int ((it xs (i + 1) b : Nat) : Int)) := fun i => by
  have hi := o.vI hb i
  rw [uL, jW (by rw [o.len]; exact hi), o.qC hi]
  rfl
 obtain ⟨ρ', e, rfl⟩ := zO8 (t := b2 neD (e2 ixD (eV 0) (e2 ixD (eV 4) (e1 negD (eC (.int 1))))) (eV 3)) (b := sM 4 appD (aC (e2 ixD (eV 0) (e2 ixD (eV 4) (e1 negD (eC (.int 1))))) aN))
  (fun i ρ => ρ = [some (lI xs), F, M, some (.int b), some (.list ((List.range (i + 1)).map fun j => PyData.int ((it xs j b : Nat) : Int)))]) (per n xs b - 1) 1000000 [some (lI xs), F, M, some (.int b), some (.list [.int b])] rfl (by
   rintro i ρ hi rfl
   simp -implicitDefEqProofs only [(evA), last, nx, qG]
   have ne := a4 (i + 1) (by bv_omega) (by bv_omega)
   rw [decide_eq_false (by bv_omega)]
   refine ⟨rfl, _, ?_, rfl⟩
   simp -implicitDefEqProofs only [(evA), uC (l := (List.range (i + 1)).map fun j => PyData.int ((it xs j b : Nat) : Int)) (by rw [List.length_map, List.length_range]; bv_omega)]
   congr 2
   simp only [List.range_succ, List.map_append, List.map_cons, List.map_nil]) (by
   rintro ρ rfl
   simp -implicitDefEqProofs only [(evA), last, nx, qG]
   rw [show per n xs b - 1 + 1 = per n xs b by bv_omega, a3, decide_eq_true rfl]
   rfl) (by bv_omega)
 rw [e]
 rw [show per n xs b - 1 + 1 = per n xs b by bv_omega]
 unfold rI' ring
 rw [List.map_map]
 simp only [lI, List.map_map, Function.comp_def]
theorem zN8 {n : Nat} {xs : List Int} (o : Ord n xs) (hn : n <= 500) : wA [lI xs] = .ok (rows (ringsD n xs n)) := by
 show (uA [some (lI xs), none, none, none, none]).bind (fin true) = _
 unfold uA
 simp -implicitDefEqProofs only [(evA), List.length_map, o.len, vD (show n <= 1000 by bv_omega)]
 have cnt : ∀ m, m <= n -> (rgs n xs m).length <= m := by
  intro m
  induction m with
  | zero => intro _; simp [rgs]
  | succ m ih =>
   intro h
   have := ih (by bv_omega)
   rw [rgs]
   split
   ·bv_omega
   ·rw [List.length_append, List.length_singleton]; bv_omega
 have grow : ∀ m d, (rgs n xs m).flatten.length <= (rgs n xs (m + d)).flatten.length := by
  intro m d
  induction d with
  | zero => exact Nat.le_refl _
  | succ d ih =>
   refine Nat.le_trans ih ?_
   rw [<- Nat.add_assoc, rgs]
   split
   ·exact Nat.le_refl _
   ·rw [List.flatten_append, List.length_append]; bv_omega
 have fln : ∀ m, m <= n -> (rgs n xs m).flatten.length <= n := fun m hm => by
  have := grow m (n - m)
  rw [show m + (n - m) = n by bv_omega, zR8 o] at this
  exact this
 refine dZ (fun i ρ => ∃ x y, ρ = [some (lI xs), some (rows (ringsD n xs i)), some (lI (rI' (rgs n xs i).flatten)), x, y]) ⟨none, none, rfl⟩ ?_ ?_
 ·rintro i d ρ hd ⟨x, y, rfl⟩
  obtain ⟨hi, rfl⟩ := qD hd
  have hin : inD true (.int (i : Int)) (lI (rI' (rgs n xs i).flatten)) = some (!has (rgs n xs i) i) := by
   rw [yO5, zO2]
   rfl
  cases hh : has (rgs n xs i) i with
  | true =>
   refine ⟨_, [some (lI xs), some (rows (ringsD n xs i)), some (lI (rI' (rgs n xs i).flatten)), some (.int i), y], rfl, ?_, some (.int i), y, ?_⟩
   ·simp -implicitDefEqProofs only [(evA), hin, hh]
   ·unfold ringsD
    rw [rgs, if_pos hh]
  | false =>
   have hh' : ¬ has (rgs n xs i) i = true := by rw [hh]; exact Bool.false_ne_true
   have e7 : ringsD n xs (i + 1) = ringsD n xs i ++ [rI' (ring n xs i)] := by
    unfold ringsD
    rw [rgs, if_neg hh', List.map_append]
    rfl
   have e8 : (rgs n xs (i + 1)).flatten = (rgs n xs i).flatten ++ ring n xs i := by
    rw [rgs, if_neg hh', List.flatten_append]
    simp
   have f1 := fln i (by bv_omega)
   have f2 := (o.xP hi).2.1
   have x1 := gH (l := (rI' (rgs n xs i).flatten).map PyData.int) (k := (rI' (ring n xs i)).map PyData.int) (d := lI (rI' (ring n xs i))) rfl (by rw [List.length_map, List.length_map, yG, yG, kY]; bv_omega)
   have c1 := cnt i (by bv_omega)
   refine ⟨_, _, rfl, ?_, some (.int i), some (lI (rI' (ring n xs i))), rfl⟩
   simp -implicitDefEqProofs only [(evA), hin, hh, yS6 o (show n <= 1000 by bv_omega) hi, x1, uC (l := (ringsD n xs i).map tI) (d := tI (rI' (ring n xs i))) (by rw [List.length_map, List.length_map]; bv_omega)]
   rw [e7, e8, yW7]
   simp only [lI, rows, List.map_append, List.map_cons, List.map_nil]
 ·rintro ρ ⟨x, y, rfl⟩
  rw [List.length_map, List.length_range]
  simp -implicitDefEqProofs only [(evA)]
def Sq (d : D) (r : List Int) : Prop := d = tI r \/ d = lI r
structure Sqs (ds : List D) (R : List (List Int)) : Prop where
 len : ds.length = R.length
 each : ∀ (i : Nat) (d : D), ds[i]? = some d -> ∃ r, R[i]? = some r /\ Sq d r
theorem yP8 {g : D -> Ev -> Option Ev} {b : Ev -> Res Out} {c : Str} (P : Nat -> Ev -> Prop) (ds : List D) (ρ : Ev) (j : Nat) (dj : D) (hj : ds[j]? = some dj) (h0 : P 0 ρ) (hs : ∀ (i : Nat) d ρ, i < j -> ds[i]? = some d -> P i ρ -> ∃ ρ1 ρ2, g d ρ = some ρ1 /\ b ρ1 = .ok (.nx ρ2) /\ P (i + 1) ρ2)
  (hr : ∀ ρ, P j ρ -> ∃ ρ1, g dj ρ = some ρ1 /\ b ρ1 = .ex c) : L3.forM g b ds ρ = .ex c := by
 induction ds generalizing P ρ j with
 | nil => simp at hj
 | cons d ds ih =>
  cases j with
  | zero =>
   simp at hj
   subst hj
   obtain ⟨ρ1, e1, e2⟩ := hr ρ h0
   rw [L3.forM, e1, Res.lft_some, Res.bind_ok, e2, Res.bind_ex]
  | succ j =>
   obtain ⟨ρ1, ρ2, e1, e2, p⟩ := hs 0 d ρ (Nat.succ_pos _) rfl h0
   rw [L3.forM, e1, Res.lft_some, Res.bind_ok, e2, Res.bind_ok]
   exact ih (fun i => P (i + 1)) ρ2 j (by simpa using hj) p (fun i d ρ hi hd hp => hs (i + 1) d ρ (by bv_omega) (by simpa using hd) hp) hr
abbrev obB : Ev -> Res Out := sQ (sIf (b2 eqD (eB lenD (aC (eV 2) aN)) (eC (.int 0))) (sRa "BadOrder" (aC (eC (.str "a ring has one box at least")) aN)) sN) (sM 1 extD (aC (eV 2) aN))
theorem zJ5 {ds : List D} {R : List (List Int)} (q : Sqs ds R) (hl : R.flatten.length <= 1000) {i : Nat} {d : D} {x : Option D} (hd : ds[i]? = some d) (hne : ∀ r, R[i]? = some r -> r ≠ []) : obB [some (.list ds), some (lI (R.take i).flatten), some d, x, none] = .ok (.nx [some (.list ds), some (lI (R.take (i + 1)).flatten), some d, x, none]) := by
 obtain ⟨r, hr, sq⟩ := q.each i d hd
 have ne := hne r hr
 have r0 : 0 < r.length := by cases r with
  | nil => exact absurd rfl ne
  | cons _ _ => simp
 have tk : R.take (i + 1) = R.take i ++ [r] := by rw [List.take_succ, hr]; rfl
 have lt : (R.take i).flatten.length + r.length <= 1000 := by
  have a : (R.take (i + 1)).flatten.length <= R.flatten.length := by
   conv => rhs; rw [<- List.take_append_drop (i + 1) R]
   rw [List.flatten_append, List.length_append]
   bv_omega
  rw [tk, List.flatten_append, List.length_append, show [r].flatten = r by simp] at a
  bv_omega
 have lr : (r.map PyData.int).length = r.length := by rw [List.length_map]
 have e2 : (R.take (i + 1)).flatten = (R.take i).flatten ++ r := by rw [tk, List.flatten_append, show [r].flatten = r by simp]
 rcases sq with rfl | rfl
 ·have ex := gH (l := (R.take i).flatten.map PyData.int) (k := r.map PyData.int) (d := tI r) rfl (by rw [List.length_map, List.length_map]; exact lt)
  simp -implicitDefEqProofs only [(evA), lr, qA, decide_eq_false (show ¬ ((r.length : Nat) : Int) = 0 by bv_omega), ex]
  rw [e2]
  simp only [lI, List.map_append]
  try rfl
 ·have ex := gH (l := (R.take i).flatten.map PyData.int) (k := r.map PyData.int) (d := lI r) rfl (by rw [List.length_map, List.length_map]; exact lt)
  simp -implicitDefEqProofs only [(evA), lr, qA, decide_eq_false (show ¬ ((r.length : Nat) : Int) = 0 by bv_omega), ex]
  rw [e2]
  simp only [lI, List.map_append]
  try rfl
theorem zM3 {ds : List D} {R : List (List Int)} (q : Sqs ds R) (hl : R.flatten.length <= 1000) (h : [] ∈ R \/ ¬ (1 <= R.flatten.length /\ R.flatten.length <= 60 /\ R.flatten.Perm (rg R.flatten.length))) : wS [.list ds] = .ex "BadOrder" := by
 show (uW [some (.list ds), none, none, none, none]).bind (fin false) = _
 unfold uW
 have m0 : ∀ (i : Nat) (d : D) (ρ : Ev), (∃ x, ρ = [some (.list ds), some (lI (R.take i).flatten), x, none, none]) -> ds[i]? = some d -> (∀ r, R[i]? = some r -> r ≠ []) -> ∃ ρ1 ρ2, gN 2 d ρ = some ρ1 /\ obB ρ1 = .ok (.nx ρ2) /\ ∃ x, ρ2 = [some (.list ds), some (lI (R.take (i + 1)).flatten), x, none, none] := by
  rintro i d ρ ⟨x, rfl⟩ hd hne
  exact ⟨_, _, rfl, zJ5 q hl hd hne, some d, rfl⟩
 by_cases he : [] ∈ R
 ·obtain ⟨j, hj, ej⟩ : ∃ j : Nat, R[j]? = some [] /\ ∀ i : Nat, i < j -> R[i]? ≠ some [] := by
   have : ∀ (L : List (List Int)), [] ∈ L -> ∃ j : Nat, L[j]? = some [] /\ ∀ i : Nat, i < j -> L[i]? ≠ some [] := by
    intro L
    induction L with
    | nil => exact fun h => nomatch h
    | cons a L ih =>
     intro h
     by_cases z : a = []
     ·exact ⟨0, by rw [z]; rfl, fun i hi => absurd hi (by bv_omega)⟩
     ·rcases List.mem_cons.mp h with w | w
      ·exact absurd w.symm z
      ·obtain ⟨j, h1, h2⟩ := ih w
       refine ⟨j + 1, by simpa using h1, fun i hi => ?_⟩
       cases i with
       | zero => simpa using z
       | succ i => simpa using h2 i (by bv_omega)
   exact this R he
  have hjl : j < R.length := (List.getElem?_eq_some_iff.mp hj).1
  have hjd : j < ds.length := by rw [q.len]; exact hjl
  obtain ⟨r, hr, sq⟩ := q.each j ds[j] (List.getElem?_eq_getElem hjd)
  rw [hj] at hr
  cases hr
  have fx : L3.forM (gN 2) obB ds [some (.list ds), some (lI (R.take 0).flatten), none, none, none] = .ex "BadOrder" := by
   refine yP8 (c := "BadOrder") (fun i ρ => ∃ x, ρ = [some (.list ds), some (lI (R.take i).flatten), x, none, none]) ds _ j ds[j] (List.getElem?_eq_getElem hjd) ⟨none, rfl⟩ (fun i d ρ hi hd hp => m0 i d ρ hp hd fun r hr z => ej i hi (by rw [hr, z])) ?_
   rintro ρ ⟨x, rfl⟩
   refine ⟨_, rfl, ?_⟩
   have sl : (1 : Nat) <= sizeLine := by decide
   rcases sq with e | e
   ·show obB [some (.list ds), some (lI (R.take j).flatten), some ds[j], none, none] = _
    rw [e]
    have : (([] : List Int).map PyData.int).length = 0 := rfl
    simp -implicitDefEqProofs only [(evA), this, qA, zU9, show decide (((0 : Nat) : Int) = 0) = true by decide, sl]
   ·show obB [some (.list ds), some (lI (R.take j).flatten), some ds[j], none, none] = _
    rw [e]
    have : (([] : List Int).map PyData.int).length = 0 := rfl
    simp -implicitDefEqProofs only [(evA), this, qA, zU9, show decide (((0 : Nat) : Int) = 0) = true by decide, sl]
  have fx' : L3.forM (gN 2) obB ds [some (.list ds), some (.list []), none, none, none] = .ex "BadOrder" := fx
  simp -implicitDefEqProofs only [(evA), fx']
 ·have hb : ¬ (1 <= R.flatten.length /\ R.flatten.length <= 60 /\ R.flatten.Perm (rg R.flatten.length)) := h.resolve_left he
  simp -implicitDefEqProofs only [(evA)]
  refine dZ (fun i ρ => ∃ x, ρ = [some (.list ds), some (lI (R.take i).flatten), x, none, none]) ⟨none, rfl⟩ (fun i d ρ hd hp => m0 i d ρ hp hd fun r hr z => he (by rw [<- z]; exact List.mem_of_getElem? hr)) ?_
  rintro ρ ⟨x, rfl⟩
  rw [q.len, List.take_length]
  have io := dO (d := lI R.flatten) (ys := R.flatten) (.inl rfl)
  rw [decide_eq_false hb] at io
  have sl : (1 : Nat) <= sizeLine := by decide
  simp -implicitDefEqProofs only [(evA), io, show lfT false (PyData.bool false) = true by decide, zU9, sl]
theorem pw_flat {rs : List (List Nat)} (h : rs.flatten.Nodup) {i j : Nat} {r r' : List Nat} (hi : rs[i]? = some r) (hj : rs[j]? = some r') (hij : i < j) : ∀ x ∈ r, x ∉ r' := by
 obtain ⟨li, ei⟩ := List.getElem?_eq_some_iff.mp hi
 obtain ⟨lj, ej⟩ := List.getElem?_eq_some_iff.mp hj
 have := List.pairwise_iff_getElem.mp (List.pairwise_flatten.mp h).2 i j li lj hij
 rw [ei, ej] at this
 exact fun x hx hx' => this x hx x hx' rfl
theorem xE {r : List Nat} {i : Nat} (h : i < r.length) : r.getD i 0 ∈ r := by
 rw [List.getD, List.getElem?_eq_getElem h]
 exact List.getElem_mem h
theorem dA {r : List Nat} (h : r.Nodup) {i j : Nat} (hi : i < r.length) (hj : j < r.length) (e : r.getD i 0 = r.getD j 0) : i = j := by
 rw [List.getD, List.getD, List.getElem?_eq_getElem hi, List.getElem?_eq_getElem hj] at e
 exact (List.getElem_inj h).mp e
theorem yS {ys : List Int} {a b : Nat} {v : Int} (h : a < ys.length) : (ys.set a v).getD b 0 = if a = b then v else ys.getD b 0 := by
 rw [List.getD_eq_getElem?_getD, List.getElem?_set]
 by_cases e : a = b
 ·subst e
  rw [if_pos rfl, if_pos rfl, if_pos h]
  rfl
 ·rw [if_neg e, if_neg e, List.getD_eq_getElem?_getD]
theorem kM (r : List Nat) (q : Nat) : (rI' r).getD q 0 = ((r.getD q 0 : Nat) : Int) := by
 unfold rI'
 rw [List.getD, List.getD, List.getElem?_map]
 cases r[q]? <;> rfl
def kx (l p : Nat) : Nat := if p = 0 then l - 1 else p - 1
theorem hX {l p : Nat} (h : p < l) : kx l p < l := by unfold kx; split <;> bv_omega
theorem yU1 {l p q : Nat} (h : p < l) (h' : q < l) (e : kx l p = kx l q) : p = q := by
 unfold kx at e
 split at e <;> split at e <;> bv_omega
abbrev obI : Ev -> Res Out := sI 3 (e2 ixD (eV 2) (e2 subI (eV 4) (eC (.int 1)))) (e2 ixD (eV 2) (eV 4))
theorem yK9 {n : Nat} {d0 d1 d : D} {rs : List (List Nat)} {r : List Nat} {i : Nat} {ys : List Int} {y : Option D} (nd : rs.flatten.Nodup) (rn : ∀ r ∈ rs, ∀ x ∈ r, x < n) (h1000 : r.length <= 1000) (hr : rs[i]? = some r) (sq : Sq d (rI' r)) (hl : ys.length = n)
  (hy : ∀ i', i' < i -> ∀ r, rs[i']? = some r -> ∀ q, q < r.length -> ys.getD (r.getD (kx r.length q) 0) 0 = ((r.getD q 0 : Nat) : Int)) :
  ∃ (zs : List Int) (y2 : Option D), zs.length = n /\ (∀ i', i' < i + 1 -> ∀ r, rs[i']? = some r -> ∀ q, q < r.length -> zs.getD (r.getD (kx r.length q) 0) 0 = ((r.getD q 0 : Nat) : Int)) /\ sF (iR rng1 (aC (eB lenD (aC (eV 2) aN)) aN)) (gN 4) obI [some d0, some d1, some d, some (lI ys), y] = .ok (.nx [some d0, some d1, some d, some (lI zs), y2]) := by
 have mr : r ∈ rs := List.mem_of_getElem? hr
 have nr : r.Nodup := nd.sublist (List.sublist_flatten_of_mem mr)
 have lr : ((rI' r).map PyData.int).length = r.length := by rw [List.length_map, yG]
 have at' : ∀ q, q < r.length -> atI ((rI' r).map PyData.int) (q : Int) = some (.int ((r.getD q 0 : Nat) : Int)) := fun q hq => by
  rw [cI rfl (by rw [yG]; exact hq), kM]
 have at1 : ∀ q, q < r.length -> atI ((rI' r).map PyData.int) ((q : Int) - 1) = some (.int ((r.getD (kx r.length q) 0 : Nat) : Int)) := fun q hq => by
  unfold kx
  by_cases z : q = 0
  ·subst z
   rw [if_pos rfl, show (((0 : Nat) : Int) - 1) = -1 by bv_omega, dE (n := r.length - 1) (by rw [yG]; bv_omega), kM]
  ·rw [if_neg z, show ((q : Int) - 1) = ((q - 1 : Nat) : Int) by bv_omega, cI rfl (by rw [yG]; bv_omega), kM]
 obtain ⟨ρ2, e2, zs, y2, hl2, hz, hz2, rfl⟩ := wW (g := gN 4) (b := obI)
  (fun q ρ => ∃ (zs : List Int) (y : Option D), zs.length = n /\ (∀ i', i' < i -> ∀ r, rs[i']? = some r -> ∀ q, q < r.length -> zs.getD (r.getD (kx r.length q) 0) 0 = ((r.getD q 0 : Nat) : Int)) /\ (∀ q', q' < q -> q' < r.length -> zs.getD (r.getD (kx r.length q') 0) 0 = ((r.getD q' 0 : Nat) : Int)) /\ ρ = [some d0, some d1, some d, some (lI zs), y])
  ((List.range r.length).map fun (i : Nat) => PyData.int (i : Int)) [some d0, some d1, some d, some (lI ys), y] ⟨ys, y, hl, hy, fun q' h => absurd h (by bv_omega), rfl⟩ (by
   rintro q e ρ hd ⟨zs, y, hl, hz, hz2, rfl⟩
   obtain ⟨hq, rfl⟩ := qD hd
   have kq := hX hq
   have mk := xE kq
   have sd := zL9 (xs := zs) (a := r.getD (kx r.length q) 0) (by rw [hl]; exact rn r mr _ mk) ((r.getD q 0 : Nat) : Int)
   refine ⟨_, _, rfl, ?_, zs.set (r.getD (kx r.length q) 0) ((r.getD q 0 : Nat) : Int), some (.int (q : Int)), by rw [List.length_set, hl], ?_, ?_, rfl⟩
   ·rcases sq with rfl | rfl
    ·simp -implicitDefEqProofs only [(evA), at' q hq, at1 q hq, sd]
    ·simp -implicitDefEqProofs only [(evA), at' q hq, at1 q hq, sd]
   ·intro i' hi' r' hr' q' hq'
    have ne : ¬ r.getD (kx r.length q) 0 = r'.getD (kx r'.length q') 0 := fun z => pw_flat nd hr' hr hi' _ (xE (hX hq')) (by rw [<- z]; exact mk)
    rw [yS (by rw [hl]; exact rn r mr _ mk), if_neg ne]
    exact hz i' hi' r' hr' q' hq'
   ·intro q' h1 h2
    rw [yS (by rw [hl]; exact rn r mr _ mk)]
    by_cases z : q' = q
    ·subst z
     rw [if_pos rfl]
    ·have ne : ¬ r.getD (kx r.length q) 0 = r.getD (kx r.length q') 0 := fun w => z (yU1 hq h2 (dA nr kq (hX h2) w)).symm
     rw [if_neg ne]
     exact hz2 q' (by bv_omega) h2)
 rw [List.length_map, List.length_range] at hz2
 refine ⟨zs, y2, hl2, fun i' hi' r' hr' q' hq' => ?_, ?_⟩
 ·by_cases z : i' = i
  ·subst z
   rw [hr] at hr'
   cases hr'
   exact hz2 q' hq' hq'
  ·exact hz i' (by bv_omega) r' hr' q' hq'
 ·rcases sq with rfl | rfl
  ·simp -implicitDefEqProofs only [(evA), lr, vD h1000]
   exact e2
  ·simp -implicitDefEqProofs only [(evA), lr, vD h1000]
   exact e2
theorem zK7 (L : List (List Nat)) (h : ∀ r ∈ L, 0 < r.length) : L.length <= L.flatten.length := by
 induction L with
 | nil => exact Nat.le_refl _
 | cons r L ih =>
  have a := h r (List.mem_cons_self ..)
  have b := ih fun r hr => h r (List.mem_cons_of_mem _ hr)
  rw [List.length_cons, List.flatten_cons, List.length_append]
  bv_omega
theorem zS2 {n : Nat} {ds : List D} {rs : List (List Nat)} (q : Sqs ds (rs.map rI')) (p : rs.flatten.Perm (List.range n)) (h1 : 1 <= n) (h2 : n <= 60) (pos : ∀ r ∈ rs, 0 < r.length) :
  ∃ ys : List Int, ys.length = n /\ (∀ r ∈ rs, ∀ q, q < r.length -> ys.getD (r.getD (kx r.length q) 0) 0 = ((r.getD q 0 : Nat) : Int)) /\ wS [.list ds] = .ok (tI ys) := by
 have nd : rs.flatten.Nodup := p.nodup_iff.mpr List.nodup_range
 have lf : rs.flatten.length = n := by rw [p.length_eq, List.length_range]
 have rl : ∀ r ∈ rs, r.length <= n := fun r hr => by
  have := (List.sublist_flatten_of_mem hr).length_le
  bv_omega
 have rn : ∀ r ∈ rs, ∀ x ∈ r, x < n := fun r hr x hx => List.mem_range.mp (p.mem_iff.mp (List.mem_flatten.mpr ⟨r, hr, hx⟩))
 have ef : (rs.map rI').flatten = rI' rs.flatten := by unfold rI'; rw [List.map_flatten]
 have lfl : (rs.map rI').flatten.length = n := by rw [ef, yG, lf]
 have x0 : Option D := none
 obtain ⟨ρ1, e1, x, rfl⟩ := wW (g := gN 2) (b := obB) (fun i ρ => ∃ x, ρ = [some (.list ds), some (lI ((rs.map rI').take i).flatten), x, none, none]) ds [some (.list ds), some (.list []), none, none, none] ⟨none, rfl⟩ (by
  rintro i d ρ hd ⟨x, rfl⟩
  refine ⟨_, _, rfl, zJ5 q (by bv_omega) hd (fun r hr z => ?_), some d, rfl⟩
  rw [List.getElem?_map] at hr
  obtain ⟨r', hr', rfl⟩ := Option.map_eq_some_iff.mp hr
  have := pos r' (List.mem_of_getElem? hr')
  have z' := congrArg List.length z
  rw [yG] at z'
  simp at z'
  rw [z'] at this
  simp at this)
 rw [q.len, List.take_length, ef] at e1
 obtain ⟨ρ2, e2, ys, x2, y2, hl, hy, rfl⟩ := wW (g := gN 2) (b := sF (iR rng1 (aC (eB lenD (aC (eV 2) aN)) aN)) (gN 4) obI)
  (fun i ρ => ∃ (ys : List Int) (x y : Option D), ys.length = n /\ (∀ i', i' < i -> ∀ r, rs[i']? = some r -> ∀ q, q < r.length -> ys.getD (r.getD (kx r.length q) 0) 0 = ((r.getD q 0 : Nat) : Int)) /\ ρ = [some (.list ds), some (lI (rI' rs.flatten)), x, some (lI ys), y])
  ds [some (.list ds), some (lI (rI' rs.flatten)), x, some (lI (List.replicate n 0)), none] ⟨List.replicate n 0, _, _, List.length_replicate, fun i' h => absurd h (by bv_omega), rfl⟩ (by
   rintro i d ρ hd ⟨ys, x, y, hl, hy, rfl⟩
   obtain ⟨r', hr', sq⟩ := q.each i d hd
   rw [List.getElem?_map] at hr'
   obtain ⟨r, hr, rfl⟩ := Option.map_eq_some_iff.mp hr'
   obtain ⟨zs, y2, hl2, hz, e⟩ := yK9 (d0 := .list ds) (d1 := lI (rI' rs.flatten)) (y := y) nd rn (by have := rl r (List.mem_of_getElem? hr); bv_omega) hr sq hl hy
   exact ⟨_, _, rfl, e, zs, some d, y2, hl2, hz, rfl⟩)
 refine ⟨ys, hl, fun r hr q' hq => ?_, ?_⟩
 ·obtain ⟨i, hi, er⟩ := List.mem_iff_getElem.mp hr
  exact hy i (by rw [q.len, List.length_map]; exact hi) r (by rw [List.getElem?_eq_getElem hi, er]) q' hq
 ·show (uW [some (.list ds), none, none, none, none]).bind (fin false) = _
  unfold uW
  have io := dO (d := lI (rI' rs.flatten)) (ys := rI' rs.flatten) (.inl rfl)
  have pr : (rI' rs.flatten).Perm (rg n) := p.map _
  rw [decide_eq_true ⟨by rw [yG, lf]; exact h1, by rw [yG, lf]; exact h2, by rw [yG, lf]; exact pr⟩] at io
  have lb : ((rI' rs.flatten).map PyData.int).length = n := by rw [List.length_map, yG, lf]
  have rp : repL (.list [.int 0]) (.int ((n : Nat) : Int)) = some (lI (List.replicate n 0)) := by
   rw [cT _ _ (by bv_omega), lI, List.map_replicate]
  simp -implicitDefEqProofs only [(evA), e1, io, show lfT false (PyData.bool true) = true by decide, lb, rp]
  rw [e2]
  simp -implicitDefEqProofs only [(evA)]
theorem zS5 (ns : List Int) (k : Nat) : vP [lI ns, .int k] = .ok (.int (ns.getD k 0)) := by
 show (kU [some (lI ns), some (.int k)]).bind (fin false) = _
 unfold kU
 simp -implicitDefEqProofs only [(evA), List.length_map, uL]
 by_cases h : k < ns.length
 ·rw [decide_eq_true (by bv_omega)]
  simp -implicitDefEqProofs only [(evA), jW h]
 ·rw [decide_eq_false (by bv_omega)]
  simp -implicitDefEqProofs only [(evA), List.getD_eq_getElem?_getD, List.getElem?_eq_none (Nat.le_of_not_lt h), Option.getD_none]
theorem zG9 (i : Int) : jB [.int i] = .ok (.bool true) := by
 show (fY [some (.int i)]).bind (fin false) = _
 unfold fY
 simp -implicitDefEqProofs only [(evA)]
theorem zE3 (c : Int) (n : Nat) (hn : n <= 1000) : jJ [.int c, .int n] = .ok (tI (lawOrd c n).1) := by
 show (gA [some (.int c), some (.int n), none, none]).bind (fin false) = _
 unfold gA
 simp -implicitDefEqProofs only [(evA), vD hn]
 obtain ⟨ρ', e, x, rfl⟩ := wW (g := gN 3) (b := sQ (sM 2 insD (aC (e2 modI (eV 0) (e2 addI (eV 3) (eC (.int 1)))) (aC (eV 3) aN))) (sS 0 (e2 fdivI (eV 0) (e2 addI (eV 3) (eC (.int 1))))))
  (fun i ρ => ∃ x, ρ = [some (.int (lawOrd c i).2), some (.int n), some (lI (lawOrd c i).1), x]) ((List.range n).map fun (i : Nat) => PyData.int (i : Int)) [some (.int c), some (.int n), some (.list []), none] ⟨none, rfl⟩ (by
   rintro i d ρ hd ⟨x, rfl⟩
   obtain ⟨hi, rfl⟩ := qD hd
   refine ⟨_, _, rfl, ?_, some (.int i), rfl⟩
   have hl : (lawOrd c i).1.length = i := (bF c i).len
   have h1 : (0 : Int) < (i : Int) + 1 := by bv_omega
   have h2 := Int.emod_nonneg (lawOrd c i).2 (show ((i : Int) + 1) ≠ 0 by bv_omega)
   have h3 := Int.emod_lt_of_pos (lawOrd c i).2 h1
   simp -implicitDefEqProofs only [(evA), modO, fdivO, if_pos h1, if_pos (DivOk.small h1 (by bv_omega)), xY4 (l := (lawOrd c i).1.map PyData.int) (d := .int i) h2 (by rw [List.length_map, hl]; bv_omega) (by rw [List.length_map, hl]; bv_omega)]
   simp only [lawOrd, insAt, lI, List.map_append, List.map_cons, List.map_take, List.map_drop])
 rw [List.length_map, List.length_range] at e
 rw [e]
 rfl
theorem yQ3 (ns : List Int) : ∃ c : Int, fG [lI ns] = .ok (.int c) := by
 show ∃ c : Int, (aI [some (lI ns), none, none]).bind (fin false) = _
 unfold aI
 simp -implicitDefEqProofs only [(evA)]
 obtain ⟨ρ', e, t, x, rfl⟩ := wW (g := gN 2) (b := sS 1 (e2 addI (e2 mulI (eV 1) (eC (.int 1000))) (eV 2)))
  (fun i ρ => ∃ t x, ρ = [some (lI ns), some (.int t), x]) (ns.map PyData.int) [some (lI ns), some (.int 0), none] ⟨0, none, rfl⟩ (by
   rintro i d ρ hd ⟨t, x, rfl⟩
   obtain ⟨v, _, rfl⟩ := List.mem_map.mp (List.mem_of_getElem? hd)
   refine ⟨_, _, rfl, ?_, t * 1000 + v, some (.int v), rfl⟩
   simp -implicitDefEqProofs only [(evA), yL6 (MulOk.right (i := t) (j := 1000) (by decide) (by decide))])
 exact ⟨t, by rw [e]; rfl⟩
def numT (b : Nat) : Str := toString (b : Int)
def rT (r : List Nat) : Str := Str.join " " (r.map numT)
def wT (r : List Nat) : Str := "(" ++ rT r ++ ")"
def ordT (n : Nat) (xs : List Int) : Str := Str.join "" ((rgs n xs n).map wT)
theorem uX : ∀ b, b < 60 -> ((numT b).length <= 2 /\ Txt.isdigit (numT b) = true /\ (Txt.startswith (numT b) "0" = false \/ numT b = "0") /\ PySem.intText? (numT b) = some (b : Int)) /\ 41 ∉ tl (numT b) /\ 32 ∉ tl (numT b) /\ ((b : Int).natAbs.log2 < 1920) /\ PyData.strOk (numT b) = true := by decide +kernel
theorem zL8 {sep : Str} {ts : List Str} (hs : sep.length <= 2) (hl : ts.length <= 60) (ht : ∀ t ∈ ts, t.length <= 200) : JoinOk sep ts = true /\ (Str.join sep ts).length <= 202 * ts.length := by
 have h1 := Nat.mul_le_mul_right 200 hl
 have h2 := Nat.mul_le_mul_left ts.length hs
 refine ⟨?_, ?_⟩
 ·unfold JoinOk
  rw [StrLaws.joinFits ht (by bv_omega)]
  rfl
 ·have a := StrLaws.join_length_le sep ts
  have b := StrLaws.sumLen_le ts ht
  bv_omega
theorem cQ {sep : Str} {ts : List Str} (h : JoinOk sep ts = true) : joinD sep (.list (ts.map PyData.str)) = some (.str (Str.join sep ts)) := by
 unfold joinD
 rw [show lstD (.list (ts.map PyData.str)) = some (ts.map PyData.str) from rfl, Option.bind_some, bS, Option.bind_some, if_pos h]
theorem qL {z : Str} (h : PyData.strOk z = true) : SeqAt.shaped (.str z) = true := by
 unfold SeqAt.shaped
 rw [PyData.canLay0, PyData.depth, h]
 rfl
theorem kS {a b : Str} (ha : PyData.strOk a = true) (hb : PyData.strOk b = true) : neD (.str a) (.str b) = some (!decide (a = b)) := by
 unfold neD
 rw [if_pos ⟨qL ha, qL hb⟩, PyData.eqv]
 by_cases e : a = b <;> simp [e]
theorem zK9 {a b : Str} (ha : PyData.strOk a = true) (hb : PyData.strOk b = true) : eqD (.str a) (.str b) = some (decide (a = b)) := by
 unfold eqD
 rw [if_pos ⟨qL ha, qL hb⟩, PyData.eqv]
 by_cases e : a = b <;> simp [e]
theorem zL4 {z : Str} : PyData.strOk z = true ↔ ∀ c ∈ tl z, c < 1114112 := by
 unfold PyData.strOk tl
 rw [<- Array.all_toList, List.all_eq_true]
 exact ⟨fun h c hc => of_decide_eq_true (h c hc), fun h c hc => decide_eq_true (h c hc)⟩
theorem fA {a b : Str} (ha : PyData.strOk a = true) (hb : PyData.strOk b = true) : PyData.strOk (a ++ b) = true := by
 rw [zL4] at ha hb ⊢
 intro c hc
 rw [zH] at hc
 rcases List.mem_append.mp hc with h | h
 ·exact ha c h
 ·exact hb c h
theorem cP {y : Str} (hy : PyData.strOk y = true) : ∀ ts : List Str, (∀ t ∈ ts, PyData.strOk t = true) -> PyData.strOk (Str.join y ts) = true
 | [], _ => (by decide +kernel : PyData.strOk Str.empty = true)
 | [t], h => h t List.mem_cons_self
 | t :: u :: r, h => by
  rw [wV]
  exact fA (fA (h t List.mem_cons_self) hy) (cP hy (u :: r) fun x hx => h x (List.mem_cons_of_mem _ hx))
theorem yH : 100000 <= sizeLine := by decide
theorem gD {r : List Nat} (hr : ∀ x ∈ r, x < 60) (hl : r.length <= 60) : (rT r).length <= 180 := by
 have a := StrLaws.join_length_le " " (r.map numT)
 have b := StrLaws.sumLen_le (B := 2) (r.map numT) fun y hy => by
  obtain ⟨x, hx, rfl⟩ := List.mem_map.mp hy
  exact (uX x (hr x hx)).1.1
 rw [List.length_map] at a b
 have c : (" " : Str).length = 1 := rfl
 unfold rT
 rw [c] at a
 bv_omega
theorem cM {r : List Nat} (hr : ∀ x ∈ r, x < 60) (hl : r.length <= 60) : eComp (iS (eV 0)) tYes (eB strOfD (aC (eV 0) aN)) [] [some (tI (rI' r))] = .ok (.list ((r.map numT).map PyData.str)) := by
 rw [List.map_map]
 refine wB (fun b : Nat => PyData.int (b : Int)) (fun b => PyData.str (numT b)) r (by
  simp -implicitDefEqProofs only [(evA)]
  unfold rI'
  rw [List.map_map]
  rfl) (by bv_omega) fun b hb => ?_
 have h := uX b (hr b hb)
 show eB strOfD (aC (eV 0) aN) [some (.int (b : Int))] = _
 have e : strOfD [.int (b : Int)] = some (.str (numT b)) := if_pos h.2.2.2.1
 simp -implicitDefEqProofs only [(evA), e]
theorem cY {r : List Nat} (hr : ∀ x ∈ r, x < 60) (hl : r.length <= 60) : joinD " " (.list ((r.map numT).map PyData.str)) = some (.str (rT r)) := by
 refine cQ (zL8 (by decide) (by rw [List.length_map]; exact hl) fun t ht => ?_).1
 obtain ⟨x, hx, rfl⟩ := List.mem_map.mp ht
 have := (uX x (hr x hx)).1.1
 bv_omega
theorem bN {r : List Nat} (hr : ∀ x ∈ r, x < 60) (hl : r.length <= 60) : vS [tI (rI' r)] = .ok (.str (rT r)) := by
 show (uI [some (tI (rI' r))]).bind (fin false) = _
 unfold uI
 simp -implicitDefEqProofs only [(evA), yZ, zE, cM hr hl, cY hr hl]
theorem zS3 {r : List Nat} (hr : ∀ x ∈ r, x < 60) (hl : r.length <= 60) : wH [tI (rI' r)] = .ok (.str (wT r)) := by
 have l := gD hr hl
 have c : ("(" : Str).length + (rT r).length + (")" : Str).length <= sizeLine := by
  have c1 : ("(" : Str).length = 1 := rfl
  have c2 : (")" : Str).length = 1 := rfl
  have := yH
  bv_omega
 have e : filD "(" ")" (.str (rT r)) = some (.str (wT r)) := by
  unfold filD
  rw [zE, Option.bind_some, if_pos c]
  rfl
 show (kX [some (tI (rI' r)), none]).bind (fin false) = _
 unfold kX
 simp -implicitDefEqProofs only [(evA), bN hr hl, e]
structure Rs (rs : List (List Nat)) : Prop where
 few : rs.length <= 60
 ne : rs ≠ []
 ring : ∀ r ∈ rs, (∀ x ∈ r, x < 60) /\ r.length <= 60 /\ r ≠ []
theorem qO {n : Nat} {xs : List Int} (o : Ord n xs) (h1 : 1 <= n) (h2 : n <= 60) : Rs (rgs n xs n) := by
 have p := flatP o
 have c := yM5 o
 have ne : ∀ r ∈ rgs n xs n, r ≠ [] := fun r hr => by
  obtain ⟨a, ys, rfl, _⟩ := c.1 r hr
  exact fun z => nomatch z
 have lf : (rgs n xs n).flatten.length = n := by rw [p.length_eq, List.length_range]
 have few : ∀ L : List (List Nat), (∀ r ∈ L, r ≠ []) -> L.length <= L.flatten.length := fun L => by
  induction L with
  | nil => exact fun _ => Nat.le_refl _
  | cons r L ih =>
   intro h
   have a := List.length_pos_iff.mpr (h r List.mem_cons_self)
   have b := ih fun r hr => h r (List.mem_cons_of_mem _ hr)
   rw [List.length_cons, List.flatten_cons, List.length_append]
   bv_omega
 have f := few _ ne
 refine ⟨by bv_omega, fun z => ?_, fun r hr => ⟨fun x hx => ?_, ?_, ne r hr⟩⟩
 ·rw [z] at lf
  have : 0 = n := lf
  bv_omega
 ·have := List.mem_range.mp (p.mem_iff.mp (List.mem_flatten.mpr ⟨r, hr, hx⟩))
  bv_omega
 ·have := (List.sublist_flatten_of_mem hr).length_le
  bv_omega
theorem xY2 {r : List Nat} (hr : ∀ x ∈ r, x < 60) (hl : r.length <= 60) : (wT r).length <= 182 := by
 have l := gD hr hl
 have c1 : ("(" : Str).length = 1 := rfl
 have c2 : (")" : Str).length = 1 := rfl
 unfold wT
 rw [Str.length_append, Str.length_append, c1, c2]
 bv_omega
theorem zO5 {rs : List (List Nat)} (q : Rs rs) : joinD "" (.list ((rs.map wT).map PyData.str)) = some (.str (Str.join "" (rs.map wT))) /\ (Str.join "" (rs.map wT)).length <= 12120 := by
 have h := zL8 (sep := "") (ts := rs.map wT) (by decide) (by rw [List.length_map]; exact q.few) fun t ht => by
  obtain ⟨r, hr, rfl⟩ := List.mem_map.mp ht
  have := xY2 (q.ring r hr).1 (q.ring r hr).2.1
  bv_omega
 refine ⟨cQ h.1, ?_⟩
 have a := h.2
 have b := q.few
 rw [List.length_map] at a
 bv_omega
theorem zI9 {n : Nat} {xs : List Int} (q : Rs (rgs n xs n)) : PyData.strOk (ordT n xs) = true := by
 refine cP (by decide +kernel) _ fun t ht => ?_
 obtain ⟨r, hr, rfl⟩ := List.mem_map.mp ht
 refine fA (fA (by decide +kernel) (cP (by decide +kernel) _ fun t ht => ?_)) (by decide +kernel)
 obtain ⟨x, hx, rfl⟩ := List.mem_map.mp ht
 exact (uX x ((q.ring r hr).1 x hx)).2.2.2.2
theorem gS {n : Nat} {xs : List Int} (o : Ord n xs) (h1 : 1 <= n) (h2 : n <= 60) : uR [tI xs] = .ok (.str (ordT n xs)) := by
 have q := qO o h1 h2
 have cc : eComp (iS (eF uU (aC (eV 0) aN))) tYes (eF wH (aC (eV 0) aN)) [] [some (tI xs)] = .ok (.list (((rgs n xs n).map wT).map PyData.str)) := by
  rw [List.map_map]
  refine wB (fun r : List Nat => tI (rI' r)) (fun r => PyData.str (wT r)) (rgs n xs n) (by
   simp -implicitDefEqProofs only [(evA), zN3 o (show n <= 1000 by bv_omega)]
   unfold ringsD
   rw [List.map_map]
   rfl) (by have := q.few; bv_omega) fun r hr => ?_
  show eF wH (aC (eV 0) aN) [some (tI (rI' r))] = _
  simp -implicitDefEqProofs only [(evA), zS3 (q.ring r hr).1 (q.ring r hr).2.1]
 show (jM [some (tI xs)]).bind (fin false) = _
 unfold jM
 simp -implicitDefEqProofs only [(evA), yZ, zE, cc, (zO5 q).1]
 rfl
theorem yW9 {n : Nat} {xs : List Int} (o : Ord n xs) (h1 : 1 <= n) (h2 : n <= 60) : yD [tI xs] = .ok (.str (ordT n xs)) := by
 have q := qO o h1 h2
 have cc : eComp (iS (eF wA (aC (eV 0) aN))) tYes (e2 catS (e2 catS (eC (.str "(")) (eM1S joinD (eC (.str " ")) (eComp (iS (eV 0)) tYes (eB strOfD (aC (eV 0) aN)) []))) (eC (.str ")"))) [] [some (tI xs)] = .ok (.list (((rgs n xs n).map wT).map PyData.str)) := by
  rw [List.map_map]
  refine wB (fun r : List Nat => tI (rI' r)) (fun r => PyData.str (wT r)) (rgs n xs n) (by
   simp -implicitDefEqProofs only [(evA), zH9 o (show n <= 500 by bv_omega)]
   unfold ringsD
   rw [List.map_map]
   rfl) (by have := q.few; bv_omega) fun r hr => ?_
  have hr1 := (q.ring r hr).1
  have hr2 := (q.ring r hr).2.1
  have l := gD hr1 hr2
  have c1 : ("(" : Str).length = 1 := rfl
  have c2 : (")" : Str).length = 1 := rfl
  have lb := yH
  have e1 : catS (.str "(") (.str (rT r)) = some (.str ("(" ++ rT r)) := if_pos (by bv_omega)
  have e2' : catS (.str ("(" ++ rT r)) (.str ")") = some (.str (wT r)) := if_pos (by rw [Str.length_append]; bv_omega)
  show e2 catS (e2 catS (eC (.str "(")) (eM1S joinD (eC (.str " ")) (eComp (iS (eV 0)) tYes (eB strOfD (aC (eV 0) aN)) []))) (eC (.str ")")) [some (tI (rI' r))] = _
  simp -implicitDefEqProofs only [(evA), yZ, zE, cM hr1 hr2, cY hr1 hr2, e1, e2']
 show (xB [some (tI xs)]).bind (fin false) = _
 unfold xB
 simp -implicitDefEqProofs only [(evA), yZ, zE, cc, (zO5 q).1]
 rfl
theorem yF1 {r : List Nat} (hr : ∀ x ∈ r, x < 60) : 41 ∉ tl (rT r) := by
 have : ∀ l : List Nat, (∀ x ∈ l, x < 60) -> 41 ∉ tl (Str.join " " (l.map numT)) := fun l => by
  induction l with
  | nil => exact fun _ z => by cases z
  | cons a l ih =>
   intro h
   have ha := (uX a (h a List.mem_cons_self)).2.1
   cases l with
   | nil => exact ha
   | cons b l =>
    rw [List.map_cons, List.map_cons, wV, zH, zH]
    intro z
    rcases List.mem_append.mp z with z | z
    ·rcases List.mem_append.mp z with z | z
     ·exact ha z
     ·exact absurd z (by decide)
    ·exact ih (fun x hx => h x (List.mem_cons_of_mem _ hx)) z
 exact this r hr
theorem yJ9 {r : List Nat} (hr : ∀ x ∈ r, x < 60) (hn : r ≠ []) : Txt.split (rT r) " " = r.map numT :=
 bH (c := 32) (y' := []) rfl (by decide +kernel) (fun z => hn (List.map_eq_nil_iff.mp z)) fun p hp => by
  obtain ⟨x, hx, rfl⟩ := List.mem_map.mp hp
  exact (uX x (hr x hx)).2.2.1
theorem yP9 {rs : List (List Nat)} (q : Rs rs) : Txt.split (Str.join ")(" (rs.map rT)) ")(" = rs.map rT :=
 bH (c := 41) (y' := [40]) rfl (by decide +kernel) (fun z => q.ne (List.map_eq_nil_iff.mp z)) fun p hp => by
  obtain ⟨r, hr, rfl⟩ := List.mem_map.mp hp
  exact yF1 (q.ring r hr).1
theorem yA6 {rs : List (List Nat)} (q : Rs rs) : Txt.slice (Str.join "" (rs.map wT)) (some 1) (some (-1)) = Str.join ")(" (rs.map rT) := by
 have e := fR (rs.map rT) fun z => q.ne (List.map_eq_nil_iff.mp z)
 rw [List.map_map] at e
 have e' : Str.join "" (rs.map wT) = "(" ++ Str.join ")(" (rs.map rT) ++ ")" := e
 rw [e']
 exact yV8 rfl rfl
theorem cG {n : Nat} {xs : List Int} (o : Ord n xs) (h1 : 1 <= n) (h2 : n <= 60) : yD [lI xs] = .ok (.str (ordT n xs)) := by
 have q := qO o h1 h2
 have cc : eComp (iS (eF wA (aC (eV 0) aN))) tYes (e2 catS (e2 catS (eC (.str "(")) (eM1S joinD (eC (.str " ")) (eComp (iS (eV 0)) tYes (eB strOfD (aC (eV 0) aN)) []))) (eC (.str ")"))) [] [some (lI xs)] = .ok (.list (((rgs n xs n).map wT).map PyData.str)) := by
  rw [List.map_map]
  refine wB (fun r : List Nat => tI (rI' r)) (fun r => PyData.str (wT r)) (rgs n xs n) (by
   simp -implicitDefEqProofs only [(evA), zN8 o (show n <= 500 by bv_omega)]
   unfold ringsD
   rw [List.map_map]
   rfl) (by have := q.few; bv_omega) fun r hr => ?_
  have hr1 := (q.ring r hr).1
  have hr2 := (q.ring r hr).2.1
  have l := gD hr1 hr2
  have c1 : ("(" : Str).length = 1 := rfl
  have c2 : (")" : Str).length = 1 := rfl
  have lb := yH
  have e1 : catS (.str "(") (.str (rT r)) = some (.str ("(" ++ rT r)) := if_pos (by bv_omega)
  have e2' : catS (.str ("(" ++ rT r)) (.str ")") = some (.str (wT r)) := if_pos (by rw [Str.length_append]; bv_omega)
  show e2 catS (e2 catS (eC (.str "(")) (eM1S joinD (eC (.str " ")) (eComp (iS (eV 0)) tYes (eB strOfD (aC (eV 0) aN)) []))) (eC (.str ")")) [some (tI (rI' r))] = _
  simp -implicitDefEqProofs only [(evA), yZ, zE, cM hr1 hr2, cY hr1 hr2, e1, e2']
 show (xB [some (lI xs)]).bind (fin false) = _
 unfold xB
 simp -implicitDefEqProofs only [(evA), yZ, zE, cc, (zO5 q).1]
 rfl
abbrev lrI : Ev -> Res Out := sI 5 (e2 ixD (eV 4) (e2 subI (eV 6) (eC (.int 1)))) (e2 ixD (eV 4) (eV 6))
theorem yH1 {n : Nat} {d0 d1 d2 d : D} {x3 : Option D} {rs : List (List Nat)} {r : List Nat} {i : Nat} {ys : List Int} {y : Option D} (nd : rs.flatten.Nodup) (rn : ∀ r ∈ rs, ∀ x ∈ r, x < n) (h1000 : r.length <= 1000) (hr : rs[i]? = some r) (sq : Sq d (rI' r)) (hl : ys.length = n)
  (hy : ∀ i', i' < i -> ∀ r, rs[i']? = some r -> ∀ q, q < r.length -> ys.getD (r.getD (kx r.length q) 0) 0 = ((r.getD q 0 : Nat) : Int)) :
  ∃ (zs : List Int) (y2 : Option D), zs.length = n /\ (∀ i', i' < i + 1 -> ∀ r, rs[i']? = some r -> ∀ q, q < r.length -> zs.getD (r.getD (kx r.length q) 0) 0 = ((r.getD q 0 : Nat) : Int)) /\ sF (iR rng1 (aC (eB lenD (aC (eV 4) aN)) aN)) (gN 6) lrI [some d0, some d1, some d2, x3, some d, some (lI ys), y] = .ok (.nx [some d0, some d1, some d2, x3, some d, some (lI zs), y2]) := by
 have mr : r ∈ rs := List.mem_of_getElem? hr
 have nr : r.Nodup := nd.sublist (List.sublist_flatten_of_mem mr)
 have lr : ((rI' r).map PyData.int).length = r.length := by rw [List.length_map, yG]
 have at' : ∀ q, q < r.length -> atI ((rI' r).map PyData.int) (q : Int) = some (.int ((r.getD q 0 : Nat) : Int)) := fun q hq => by
  rw [cI rfl (by rw [yG]; exact hq), kM]
 have at1 : ∀ q, q < r.length -> atI ((rI' r).map PyData.int) ((q : Int) - 1) = some (.int ((r.getD (kx r.length q) 0 : Nat) : Int)) := fun q hq => by
  unfold kx
  by_cases z : q = 0
  ·subst z
   rw [if_pos rfl, show (((0 : Nat) : Int) - 1) = -1 by bv_omega, dE (n := r.length - 1) (by rw [yG]; bv_omega), kM]
  ·rw [if_neg z, show ((q : Int) - 1) = ((q - 1 : Nat) : Int) by bv_omega, cI rfl (by rw [yG]; bv_omega), kM]
 obtain ⟨ρ2, e2, zs, y2, hl2, hz, hz2, rfl⟩ := wW (g := gN 6) (b := lrI)
  (fun q ρ => ∃ (zs : List Int) (y : Option D), zs.length = n /\ (∀ i', i' < i -> ∀ r, rs[i']? = some r -> ∀ q, q < r.length -> zs.getD (r.getD (kx r.length q) 0) 0 = ((r.getD q 0 : Nat) : Int)) /\ (∀ q', q' < q -> q' < r.length -> zs.getD (r.getD (kx r.length q') 0) 0 = ((r.getD q' 0 : Nat) : Int)) /\ ρ = [some d0, some d1, some d2, x3, some d, some (lI zs), y])
  ((List.range r.length).map fun (i : Nat) => PyData.int (i : Int)) [some d0, some d1, some d2, x3, some d, some (lI ys), y] ⟨ys, y, hl, hy, fun q' h => absurd h (by bv_omega), rfl⟩ (by
   rintro q e ρ hd ⟨zs, y, hl, hz, hz2, rfl⟩
   obtain ⟨hq, rfl⟩ := qD hd
   have kq := hX hq
   have mk := xE kq
   have sd := zL9 (xs := zs) (a := r.getD (kx r.length q) 0) (by rw [hl]; exact rn r mr _ mk) ((r.getD q 0 : Nat) : Int)
   refine ⟨_, _, rfl, ?_, zs.set (r.getD (kx r.length q) 0) ((r.getD q 0 : Nat) : Int), some (.int (q : Int)), by rw [List.length_set, hl], ?_, ?_, rfl⟩
   ·rcases sq with rfl | rfl
    ·simp -implicitDefEqProofs only [(evA), at' q hq, at1 q hq, sd]
    ·simp -implicitDefEqProofs only [(evA), at' q hq, at1 q hq, sd]
   ·intro i' hi' r' hr' q' hq'
    have ne : ¬ r.getD (kx r.length q) 0 = r'.getD (kx r'.length q') 0 := fun z => pw_flat nd hr' hr hi' _ (xE (hX hq')) (by rw [<- z]; exact mk)
    rw [yS (by rw [hl]; exact rn r mr _ mk), if_neg ne]
    exact hz i' hi' r' hr' q' hq'
   ·intro q' h1 h2
    rw [yS (by rw [hl]; exact rn r mr _ mk)]
    by_cases z : q' = q
    ·subst z
     rw [if_pos rfl]
    ·have ne : ¬ r.getD (kx r.length q) 0 = r.getD (kx r.length q') 0 := fun w => z (yU1 hq h2 (dA nr kq (hX h2) w)).symm
     rw [if_neg ne]
     exact hz2 q' (by bv_omega) h2)
 rw [List.length_map, List.length_range] at hz2
 refine ⟨zs, y2, hl2, fun i' hi' r' hr' q' hq' => ?_, ?_⟩
 ·by_cases z : i' = i
  ·subst z
   rw [hr] at hr'
   cases hr'
   exact hz2 q' hq' hq'
  ·exact hz i' (by bv_omega) r' hr' q' hq'
 ·rcases sq with rfl | rfl
  ·simp -implicitDefEqProofs only [(evA), lr, vD h1000]
   exact e2
  ·simp -implicitDefEqProofs only [(evA), lr, vD h1000]
   exact e2
theorem zO1 {α : Type} {f : D -> Res D} (A q : α -> D) : ∀ xs : List α, (∀ x ∈ xs, f (A x) = .ok (q x)) -> compX (fun _ => .ok true) f (xs.map A) = .ok (xs.map q)
 | [], _ => rfl
 | x :: xs, h => by
  rw [List.map_cons, compX, Res.bind_ok, if_pos rfl, h x List.mem_cons_self, Res.bind_ok, zO1 A q xs fun y hy => h y (List.mem_cons_of_mem _ hy)]
  rfl
theorem zR9 {α : Type} {f : D -> Res D} {c : Str} (A : α -> D) : ∀ xs : List α, (∀ x ∈ xs, (∃ d, f (A x) = .ok d) \/ f (A x) = .ex c) -> (∃ x ∈ xs, f (A x) = .ex c) -> compX (fun _ => .ok true) f (xs.map A) = .ex c
 | [], _, he => by
  obtain ⟨x, hx, _⟩ := he
  cases hx
 | x :: xs, h, he => by
  rw [List.map_cons, compX, Res.bind_ok, if_pos rfl]
  rcases h x List.mem_cons_self with ⟨d, e⟩ | e
  ·obtain ⟨y, hy, ey⟩ := he
   rcases List.mem_cons.mp hy with rfl | hy
   ·rw [e] at ey
    cases ey
   ·rw [e, Res.bind_ok, zR9 A xs (fun y hy => h y (List.mem_cons_of_mem _ hy)) ⟨y, hy, ey⟩]
    rfl
  ·rw [e]
   rfl
theorem zY3 {mi : Ev -> Res (List D)} {me : Ev -> Res D} {js : List Nat} {ρ : Ev} {α : Type} (A q : α -> D) (xs : List α) (h : mi ρ = .ok (xs.map A)) (hl : xs.length <= 1000) (hf : ∀ x ∈ xs, me (cEnv ρ js (A x)) = .ok (q x)) : eCompX mi tYes me js ρ = .ok (.list (xs.map q)) := by
 unfold eCompX
 rw [h, Res.bind_ok, aR (by rw [List.length_map]; exact hl)]
 rw [show (compX (fun x => tYes (cEnv ρ js x)) (fun x => me (cEnv ρ js x)) (xs.map A)) = .ok (xs.map q) from zO1 A q xs hf]
 rfl
theorem zX4 {mi : Ev -> Res (List D)} {me : Ev -> Res D} {js : List Nat} {ρ : Ev} {α : Type} {c : Str} (A : α -> D) (xs : List α) (h : mi ρ = .ok (xs.map A)) (hl : xs.length <= 1000) (hf : ∀ x ∈ xs, (∃ d, me (cEnv ρ js (A x)) = .ok d) \/ me (cEnv ρ js (A x)) = .ex c) (he : ∃ x ∈ xs, me (cEnv ρ js (A x)) = .ex c) : eCompX mi tYes me js ρ = .ex c := by
 unfold eCompX
 rw [h, Res.bind_ok, aR (by rw [List.length_map]; exact hl)]
 rw [show (compX (fun x => tYes (cEnv ρ js x)) (fun x => me (cEnv ρ js x)) (xs.map A)) = .ex c from zR9 A xs hf he]
 rfl
abbrev BT : Str := NMR 1
theorem ra1 {m : Ev -> Res (List D)} {ρ : Ev} (h : m ρ = .ok [.int 1]) : sRaI NMR m ρ = .ex BT := by
 unfold sRaI
 rw [h, Res.bind_ok]
 exact if_pos (by decide)
def Wd (w : Str) : Prop := Fig w /\ w.length <= 90 /\ (Txt.startswith w "0" = true -> w = "0")
theorem zS7 {w : Str} (h : Tx 100 w) : (Wd w /\ yR [.str w, .int 1] = .ok (.int (dv w : Int))) \/ (¬ Wd w /\ yR [.str w, .int 1] = .ex BT) := by
 have lb := yH
 have l := h.len
 have e1 : lenTD [.str w] = some (.int (w.length : Int)) := if_pos (by bv_omega)
 have e3 : stwD w (.str "0") = some (.bool (Txt.startswith w "0")) := rfl
 have e4 := kS h.ok (show PyData.strOk "0" = true by decide +kernel)
 have ra : sRaI NMR (aC (eV 1) aN) [some (.str w), some (.int 1)] = .ex BT := ra1 rfl
 show (Wd w /\ (vH [some (.str w), some (.int 1)]).bind (fin false) = _) \/ (¬ Wd w /\ (vH [some (.str w), some (.int 1)]).bind (fin false) = _)
 unfold vH
 cases hd : Txt.isdigit w with
 | false =>
  refine .inr ⟨fun z => ?_, ?_⟩
  ·rw [(dQ h).mpr z.1] at hd
   cases hd
  ·simp -implicitDefEqProofs only [(evA), kI, zE, hd, ra]
 | true =>
  have fg := (dQ h).mp hd
  have e5 : intTD [.str w] = some (.int (dv w : Int)) := by
   show (if w.length <= 640 then (PySem.intText? w).map PyData.int else none) = _
   rw [if_pos (by bv_omega), aB fg (by bv_omega)]
   rfl
  by_cases h9 : w.length <= 90
  ·have d9 : decide ((90 : Int) < (w.length : Int)) = false := decide_eq_false (by bv_omega)
   cases hs : Txt.startswith w "0" with
   | false =>
    refine .inl ⟨⟨fg, h9, fun z => by rw [z] at hs; cases hs⟩, ?_⟩
    simp -implicitDefEqProofs only [(evA), kI, yZ, zE, hd, e1, d9, e3, hs, e5]
   | true =>
    by_cases h0 : w = "0"
    ·refine .inl ⟨⟨fg, h9, fun _ => h0⟩, ?_⟩
     rw [decide_eq_true h0] at e4
     simp -implicitDefEqProofs only [(evA), kI, yZ, zE, hd, e1, d9, e3, hs, e4, e5]
    ·refine .inr ⟨fun z => h0 (z.2.2 hs), ?_⟩
     rw [decide_eq_false h0] at e4
     simp -implicitDefEqProofs only [(evA), kI, yZ, zE, hd, e1, d9, e3, hs, e4, ra]
  ·have d9 : decide ((90 : Int) < (w.length : Int)) = true := decide_eq_true (by bv_omega)
   refine .inr ⟨fun z => h9 z.2.1, ?_⟩
   simp -implicitDefEqProofs only [(evA), kI, yZ, zE, hd, e1, d9, ra]
theorem aJ {ws : List Str} (h : ∀ w ∈ ws, Tx 100 w) (hl : ws.length <= 1000) : ((∀ w ∈ ws, Wd w) /\ yV [.list (ws.map PyData.str), .int 1] = .ok (tI (rI' (ws.map dv)))) \/ ((¬ ∀ w ∈ ws, Wd w) /\ yV [.list (ws.map PyData.str), .int 1] = .ex BT) := by
 show (_ /\ (vW [some (.list (ws.map PyData.str)), some (.int 1)]).bind (fin false) = _) \/ (_ /\ (vW [some (.list (ws.map PyData.str)), some (.int 1)]).bind (fin false) = _)
 unfold vW
 have st : ∀ w : Str, eF yR (aC (eV 0) (aC (eV 1) aN)) (cEnv [some (.list (ws.map PyData.str)), some (.int 1)] [1] (.str w)) = yR [.str w, .int 1] := fun w => by
  show eF yR (aC (eV 0) (aC (eV 1) aN)) [some (.str w), some (.int 1)] = _
  simp -implicitDefEqProofs only [(evA)]
 have hi : iS (eV 0) [some (.list (ws.map PyData.str)), some (.int 1)] = .ok (ws.map PyData.str) := by simp -implicitDefEqProofs only [(evA)]
 by_cases q : ∀ w ∈ ws, Wd w
 ·refine .inl ⟨q, ?_⟩
  have cc := zY3 (me := eF yR (aC (eV 0) (aC (eV 1) aN))) (js := [1]) PyData.str (fun w => PyData.int (dv w : Int)) ws hi hl fun w hw => by
   rw [st]
   rcases zS7 (h w hw) with ⟨_, e⟩ | ⟨n, _⟩
   ·exact e
   ·exact absurd (q w hw) n
  have e : PyData.tuple (ws.map fun w => PyData.int (dv w : Int)) = tI (rI' (ws.map dv)) := by
   unfold tI rI'
   rw [List.map_map, List.map_map]
   rfl
  simp -implicitDefEqProofs only [(evA), cc, e]
 ·refine .inr ⟨q, ?_⟩
  have cc := zX4 (me := eF yR (aC (eV 0) (aC (eV 1) aN))) (js := [1]) (c := BT) PyData.str ws hi hl (fun w hw => by
   rw [st]
   rcases zS7 (h w hw) with ⟨_, e⟩ | ⟨n, e⟩
   ·exact .inl ⟨_, e⟩
   ·exact .inr e) (by
   simp only [Classical.not_forall] at q
   obtain ⟨w, hw, n⟩ := q
   refine ⟨w, hw, ?_⟩
   rw [st]
   rcases zS7 (h w hw) with ⟨y, _⟩ | ⟨_, e⟩
   ·exact absurd y n
   ·exact e)
  simp -implicitDefEqProofs only [(evA), cc]
def pts (z : Str) : List Str := Txt.split (Txt.slice z (some 1) (some (-1))) ")("
def wds (p : Str) : List Str := Txt.split p " "
def rd (z : Str) : List (List Nat) := (pts z).map fun p => (wds p).map dv
def Nm (z : Str) : Prop := ∀ p ∈ pts z, ∀ w ∈ wds p, Wd w
theorem uY {z p : Str} {B : Nat} (h : Tx B z) (hp : p ∈ pts z) : Tx B p := (h.slice _ _).part (by decide) hp
theorem gF {p w : Str} {B : Nat} (h : Tx B p) (hw : w ∈ wds p) : Tx B w := h.part (by decide) hw
theorem aA {z : Str} (h : Tx 100 z) : (pts z).length <= 101 := by
 have a := uF (x := Txt.slice z (some 1) (some (-1))) (y := ")(") (by decide)
 have b := (h.slice (some 1) (some (-1))).len
 unfold pts
 bv_omega
theorem kQ {p : Str} (h : Tx 100 p) : (wds p).length <= 101 := by
 have a := uF (x := p) (y := " ") (by decide)
 have b := h.len
 unfold wds
 bv_omega
theorem zO6 {α : Type} (f : Str -> List α) : ∀ (ps : List Str), (∀ p ∈ ps, (f p).length <= p.length + 1) -> (ps.map f).flatten.length <= (ps.map (·.length)).sum + ps.length
 | [], _ => Nat.le_refl _
 | p :: ps, h => by
  have a := h p List.mem_cons_self
  have b := zO6 f ps fun q hq => h q (List.mem_cons_of_mem _ hq)
  rw [List.map_cons, List.flatten_cons, List.length_append, List.map_cons, List.sum_cons, List.length_cons]
  bv_omega
theorem yJ2 {α : Type} {z : Str} (h : Tx 100 z) (f : Str -> α) : ((pts z).map fun p => (wds p).map f).flatten.length <= 101 := by
 have a := uF (x := Txt.slice z (some 1) (some (-1))) (y := ")(") (by decide)
 have b := (h.slice (some 1) (some (-1))).len
 have c := zO6 (fun p => (wds p).map f) (pts z) fun p hp => by
  have d := uF (x := p) (y := " ") (by decide)
  rw [List.length_map]
  unfold wds
  bv_omega
 unfold pts at c ⊢
 bv_omega
theorem wO {z : Str} (h : Tx 100 z) : slS (.str z) (some 1) (some (-1)) = some (.str (Txt.slice z (some 1) (some (-1)))) := by
 have lb := yH
 unfold slS
 rw [zE, Option.bind_some, if_pos (by have := h.len; bv_omega)]
theorem wN {z : Str} (h : Tx 100 z) : splD (Txt.slice z (some 1) (some (-1))) (.str ")(") = some (.list ((pts z).map PyData.str)) := by
 have lb := yH
 unfold splD
 rw [zE, Option.bind_some, if_pos ⟨by decide, by have := (h.slice (some 1) (some (-1))).len; bv_omega⟩]
 rfl
theorem xW3 {z : Str} (h : Tx 100 z) (ρ : Ev) (h0 : eV 0 ρ = .ok (.str z)) : eM1S splD (eS slS (eV 0) (oS (eC (.int 1))) (oS (e1 negD (eC (.int 1))))) (eC (.str ")(")) ρ = .ok (.list ((pts z).map PyData.str)) := by
 simp -implicitDefEqProofs only [(evA), yZ, h0, zE, wO h, wN h]
theorem zE4 {p : Str} (h : Tx 100 p) : splD p (.str " ") = some (.list ((wds p).map PyData.str)) := by
 have lb := yH
 unfold splD
 rw [zE, Option.bind_some, if_pos ⟨by decide, by have := h.len; bv_omega⟩]
 rfl
theorem fN (p : Str) : wds p ≠ [] := wQ _ _
def RF (rs : List (List Nat)) (ys : List Int) : Prop := ∀ r ∈ rs, ∀ q, q < r.length -> ys.getD (r.getD (kx r.length q) 0) 0 = ((r.getD q 0 : Nat) : Int)
theorem yG5 {l j : Nat} (h : j < l) : ∃ q, q < l /\ kx l q = j := by
 by_cases z : j + 1 = l
 ·exact ⟨0, by bv_omega, by unfold kx; rw [if_pos rfl]; bv_omega⟩
 ·exact ⟨j + 1, by bv_omega, by unfold kx; rw [if_neg (by bv_omega)]; bv_omega⟩
theorem zU6 {n : Nat} {rs : List (List Nat)} (p : rs.flatten.Perm (List.range n)) {i : Nat} (hi : i < n) : ∃ (a : Nat) (r : List Nat) (q : Nat), rs[a]? = some r /\ q < r.length /\ r.getD (kx r.length q) 0 = i := by
 obtain ⟨r, hr, hm⟩ := List.mem_flatten.mp (p.mem_iff.mpr (List.mem_range.mpr hi))
 obtain ⟨j, hj, ej⟩ := List.getElem_of_mem hm
 obtain ⟨a, ha, ea⟩ := List.getElem_of_mem hr
 obtain ⟨q, hq, eq⟩ := yG5 hj
 exact ⟨a, r, q, by rw [List.getElem?_eq_getElem ha, ea], hq, by rw [eq, List.getD, List.getElem?_eq_getElem hj, Option.getD_some, ej]⟩
theorem bW {n : Nat} {rs : List (List Nat)} {ys : List Int} (p : rs.flatten.Perm (List.range n)) (hl : ys.length = n) (f : RF rs ys) : Ord n ys := by
 have nd : rs.flatten.Nodup := p.nodup_iff.mpr List.nodup_range
 refine ⟨hl, fun i hi => ?_, fun i j hi hj e => ?_⟩
 ·obtain ⟨a, r, q, ha, hq, rfl⟩ := zU6 p hi
  have mr := List.mem_of_getElem? ha
  rw [f r mr q hq]
  have := List.mem_range.mp (p.mem_iff.mp (List.mem_flatten.mpr ⟨r, mr, xE hq⟩))
  bv_omega
 ·obtain ⟨a, r, q, ha, hq, rfl⟩ := zU6 p hi
  obtain ⟨a', r', q', ha', hq', rfl⟩ := zU6 p hj
  rw [f r (List.mem_of_getElem? ha) q hq, f r' (List.mem_of_getElem? ha') q' hq'] at e
  have e : r.getD q 0 = r'.getD q' 0 := by bv_omega
  have eaa : a = a' := by
   by_cases l1 : a < a'
   ·exact absurd (e ▸ xE hq' : r.getD q 0 ∈ r') (pw_flat nd ha ha' l1 _ (xE hq))
   ·by_cases l2 : a' < a
    ·exact absurd (e ▸ xE hq : r'.getD q' 0 ∈ r) (pw_flat nd ha' ha l2 _ (xE hq'))
    ·bv_omega
  subst eaa
  rw [ha] at ha'
  cases ha'
  have nr : r.Nodup := nd.sublist (List.sublist_flatten_of_mem (List.mem_of_getElem? ha))
  rw [dA nr hq hq' e]
theorem zJ9 {n : Nat} {rs : List (List Nat)} {xs ys : List Int} (p : rs.flatten.Perm (List.range n)) (hx : xs.length = n) (hy : ys.length = n) (f : RF rs xs) (g : RF rs ys) : xs = ys := by
 refine List.ext_getElem (by rw [hx, hy]) fun i hi hi' => ?_
 obtain ⟨a, r, q, ha, hq, e⟩ := zU6 p (show i < n by bv_omega)
 have e1 := f r (List.mem_of_getElem? ha) q hq
 have e2 := g r (List.mem_of_getElem? ha) q hq
 rw [e] at e1 e2
 rw [<- e2, List.getD, List.getD, List.getElem?_eq_getElem hi, List.getElem?_eq_getElem hi'] at e1
 exact e1
theorem zB1 {n : Nat} {xs : List Int} (o : Ord n xs) : RF (rgs n xs n) xs := by
 intro r hr q hq
 obtain ⟨b, hb, rfl, _⟩ := (o.fO n (Nat.le_refl n)).each r hr
 obtain ⟨p1, p2, p3, p4⟩ := o.xP hb
 have g : ∀ i, i < per n xs b -> (ring n xs b).getD i 0 = it xs i b := fun i hi => by
  unfold ring
  rw [List.getD, List.getElem?_map, List.getElem?_range hi]
  rfl
 rw [kY] at hq ⊢
 have hk := hX hq
 rw [g q hq, g _ hk]
 have hi := o.vI hb (kx (per n xs b) q)
 rw [o.qC hi]
 have : nxt xs (it xs (kx (per n xs b) q) b) = it xs q b := by
  show it xs (kx (per n xs b) q + 1) b = _
  unfold kx
  by_cases z : q = 0
  ·subst z
   rw [if_pos rfl, show per n xs b - 1 + 1 = per n xs b by bv_omega, p3]
   rfl
  ·rw [if_neg z, show q - 1 + 1 = q by bv_omega]
 rw [this]
theorem yW8 (rs : List (List Nat)) (k : List Nat -> D) (hk : ∀ r, Sq (k r) (rI' r)) : Sqs (rs.map k) (rs.map rI') := by
 refine ⟨by rw [List.length_map, List.length_map], fun i d h => ?_⟩
 rw [List.getElem?_map] at h
 obtain ⟨r, hr, rfl⟩ := Option.map_eq_some_iff.mp h
 exact ⟨rI' r, by rw [List.getElem?_map, hr]; rfl, hk r⟩
theorem aQ {rs : List (List Nat)} {n : Nat} : (rs.map rI').flatten.Perm (rg n) ↔ rs.flatten.Perm (List.range n) := by
 have e : (rs.map rI').flatten = rI' rs.flatten := by unfold rI'; rw [List.map_flatten]
 rw [e]
 constructor
 ·intro h
  have h2 := h.map Int.toNat
  unfold rI' rg at h2
  rw [List.map_map, List.map_map] at h2
  have i1 : (Int.toNat ∘ fun b : Nat => (b : Int)) = id := funext fun b => Int.toNat_natCast b
  rw [i1, List.map_id, List.map_id] at h2
  exact h2
 ·exact fun h => h.map _
theorem zB7 {z : Str} (h : Tx 100 z) :
  (∃ (n : Nat) (ys : List Int), Nm z /\ (rd z).flatten.Perm (List.range n) /\ 1 <= n /\ n <= 60 /\ ys.length = n /\ RF (rd z) ys /\ yI [.str z] = if ordT n ys = z then .ok (tI ys) else .ex BT) \/
  ((¬ Nm z \/ ¬ ∃ n, n <= 60 /\ (rd z).flatten.Perm (List.range n)) /\ yI [.str z] = .ex BT) := by
 have st : ∀ p : Str, Tx 100 p -> eF yV (aC (eM1S splD (eV 0) (eC (.str " "))) (aC (eC (.int 1)) aN)) (cEnv [some (.str z), none, none] [] (.str p)) = yV [.list ((wds p).map PyData.str), .int 1] := fun p hp => by
  show eF yV (aC (eM1S splD (eV 0) (eC (.str " "))) (aC (eC (.int 1)) aN)) [some (.str p)] = _
  simp -implicitDefEqProofs only [(evA), yZ, zE, zE4 hp]
 have hi : iS (eM1S splD (eS slS (eV 0) (oS (eC (.int 1))) (oS (e1 negD (eC (.int 1))))) (eC (.str ")("))) [some (.str z), none, none] = .ok ((pts z).map PyData.str) := by
  rw [yN4, xW3 h _ rfl]
  rfl
 have few := aA h
 by_cases nm : Nm z
 ·have cc := zY3 (me := eF yV (aC (eM1S splD (eV 0) (eC (.str " "))) (aC (eC (.int 1)) aN))) (js := []) PyData.str (fun p => tI (rI' ((wds p).map dv))) (pts z) hi (by bv_omega) fun p hp => by
   have tp := uY h hp
   rw [st p tp]
   rcases aJ (fun w hw => gF tp hw) (by have := kQ tp; bv_omega) with ⟨_, e⟩ | ⟨n, _⟩
   ·exact e
   ·exact absurd (nm p hp) n
  have ec : (pts z).map (fun p => tI (rI' ((wds p).map dv))) = (rd z).map fun r => tI (rI' r) := by
   unfold rd
   rw [List.map_map]
   rfl
  rw [ec] at cc
  have sq := yW8 (rd z) (fun r => tI (rI' r)) fun r => .inl rfl
  have fl : ((rd z).map rI').flatten.length <= 1000 := by
   rw [show ((rd z).map rI').flatten = rI' (rd z).flatten by unfold rI'; rw [List.map_flatten], yG]
   have := yJ2 h dv
   exact Nat.le_trans this (by decide)
  have pos : ∀ r ∈ rd z, 0 < r.length := fun r hr => by
   obtain ⟨p, _, rfl⟩ := List.mem_map.mp hr
   rw [List.length_map]
   exact List.length_pos_iff.mpr (fN p)
  by_cases pm : ∃ n, n <= 60 /\ (rd z).flatten.Perm (List.range n)
  ·obtain ⟨n, h2, p⟩ := pm
   have h1 : 1 <= n := by
    have a := zK7 (rd z) pos
    have b : 0 < (rd z).length := by
     unfold rd
     rw [List.length_map]
     exact List.length_pos_iff.mpr (wQ _ _)
    rw [p.length_eq, List.length_range] at a
    bv_omega
   obtain ⟨ys, hl, hy, eo⟩ := zS2 sq p h1 h2 pos
   have o := bW p hl hy
   refine .inl ⟨n, ys, nm, p, h1, h2, hl, hy, ?_⟩
   have q := qO o h1 h2
   have ne := kS (zI9 q) h.ok
   have tr : sTryR ["BadOrder"] BT (sS 2 (eF wS (aC (eV 1) aN))) [some (.str z), some (.list ((rd z).map fun r => tI (rI' r))), none] = .ok (.nx [some (.str z), some (.list ((rd z).map fun r => tI (rI' r))), some (tI ys)]) := by
    refine yR3 ?_
    simp -implicitDefEqProofs only [(evA), eo]
   show (xS [some (.str z), none, none]).bind (fin false) = _
   unfold xS
   by_cases e : ordT n ys = z
   ·rw [decide_eq_true e] at ne
    rw [if_pos e]
    simp -implicitDefEqProofs only [(evA), cc, tr, gS o h1 h2, ne]
   ·rw [decide_eq_false e] at ne
    rw [if_neg e]
    have ra : sRaI NMR (aC (eC (.int 1)) aN) [some (.str z), some (.list ((rd z).map fun r => tI (rI' r))), some (tI ys)] = .ex BT := ra1 rfl
    simp -implicitDefEqProofs only [(evA), cc, tr, gS o h1 h2, ne, ra]
  ·refine .inr ⟨.inr pm, ?_⟩
   have eo := zM3 sq fl (.inr fun ⟨a, b, c⟩ => pm ⟨_, b, aQ.mp c⟩)
   have tr : sTryR ["BadOrder"] BT (sS 2 (eF wS (aC (eV 1) aN))) [some (.str z), some (.list ((rd z).map fun r => tI (rI' r))), none] = .ex BT := by
    refine yQ7 (c := "BadOrder") ?_ (by decide)
    simp -implicitDefEqProofs only [(evA), eo]
   show (xS [some (.str z), none, none]).bind (fin false) = _
   unfold xS
   simp -implicitDefEqProofs only [(evA), cc, tr]
 ·refine .inr ⟨.inl nm, ?_⟩
  have cc := zX4 (me := eF yV (aC (eM1S splD (eV 0) (eC (.str " "))) (aC (eC (.int 1)) aN))) (js := []) (c := BT) PyData.str (pts z) hi (by bv_omega) (fun p hp => by
   have tp := uY h hp
   rw [st p tp]
   rcases aJ (fun w hw => gF tp hw) (by have := kQ tp; bv_omega) with ⟨_, e⟩ | ⟨_, e⟩
   ·exact .inl ⟨_, e⟩
   ·exact .inr e) (by
   unfold Nm at nm
   simp only [Classical.not_forall] at nm
   obtain ⟨p, hp, w, hw, n⟩ := nm
   have tp := uY h hp
   refine ⟨p, hp, ?_⟩
   rw [st p tp]
   rcases aJ (fun w hw => gF tp hw) (by have := kQ tp; bv_omega) with ⟨y, _⟩ | ⟨_, e⟩
   ·exact absurd (y w hw) n
   ·exact e)
  show (xS [some (.str z), none, none]).bind (fin false) = _
  unfold xS
  simp -implicitDefEqProofs only [(evA), cc]
theorem zR1 {b : Nat} (h : b < 60) : Wd (numT b) /\ dv (numT b) = b := by
 obtain ⟨⟨n1, n2, n3, n4⟩, _, _, _, n5⟩ := uX b h
 have fg : Fig (numT b) := by
  have : ∀ b, b < 60 -> ((tl (numT b)).all fun c => decide (48 <= c /\ c <= 57)) = true /\ tl (numT b) ≠ [] := by decide +kernel
  obtain ⟨a, c⟩ := this b h
  exact ⟨fun x hx => of_decide_eq_true (List.all_eq_true.mp a x hx), c⟩
 refine ⟨⟨fg, by bv_omega, fun z => n3.elim (fun y => by rw [y] at z; cases z) id⟩, ?_⟩
 have e := aB fg (by bv_omega)
 rw [n4] at e
 have := Option.some.inj e
 bv_omega
theorem aP {n : Nat} {xs : List Int} (q : Rs (rgs n xs n)) : pts (ordT n xs) = (rgs n xs n).map rT := by
 unfold pts ordT
 rw [yA6 q, yP9 q]
theorem zF8 {rs : List (List Nat)} (q : Rs rs) {r : List Nat} (hr : r ∈ rs) : wds (rT r) = r.map numT := yJ9 (q.ring r hr).1 (q.ring r hr).2.2
theorem zC1 {n : Nat} {xs : List Int} (q : Rs (rgs n xs n)) : rd (ordT n xs) = rgs n xs n /\ Nm (ordT n xs) := by
 refine ⟨?_, fun p hp w hw => ?_⟩
 ·unfold rd
  rw [aP q, List.map_map]
  have : ∀ r ∈ rgs n xs n, ((fun p => (wds p).map dv) ∘ rT) r = id r := fun r hr => by
   show (wds (rT r)).map dv = r
   rw [zF8 q hr, List.map_map]
   have : ∀ b ∈ r, (dv ∘ numT) b = id b := fun b hb => (zR1 ((q.ring r hr).1 b hb)).2
   rw [List.map_congr_left this, List.map_id]
  rw [List.map_congr_left this, List.map_id]
 ·rw [aP q] at hp
  obtain ⟨r, hr, rfl⟩ := List.mem_map.mp hp
  rw [zF8 q hr] at hw
  obtain ⟨b, hb, rfl⟩ := List.mem_map.mp hw
  exact (zR1 ((q.ring r hr).1 b hb)).1
theorem yK4 {n : Nat} {xs : List Int} (o : Ord n xs) (h1 : 1 <= n) (h2 : n <= 60) (h : Tx 100 (ordT n xs)) : yI [.str (ordT n xs)] = .ok (tI xs) := by
 have q := qO o h1 h2
 obtain ⟨er, nm⟩ := zC1 q
 rcases zB7 h with ⟨m, ys, _, p, _, _, hl, f, e⟩ | ⟨n1, _⟩
 ·have pm := flatP o
  rw [er] at p f
  have : m = n := by
   have a := p.length_eq
   rw [pm.length_eq, List.length_range, List.length_range] at a
   exact a.symm
  subst this
  have := zJ9 p o.len hl (zB1 o) f
  subst this
  rw [e, if_pos rfl]
 ·rcases n1 with n1 | n1
  ·exact absurd nm n1
  ·exact absurd ⟨n, h2, by rw [er]; exact flatP o⟩ n1
theorem yD7 {z : Str} (h : Tx 100 z) (ng : ∀ n xs, Ord n xs -> 1 <= n -> n <= 60 -> ordT n xs ≠ z) : yI [.str z] = .ex BT := by
 rcases zB7 h with ⟨m, ys, _, p, h1, h2, hl, f, e⟩ | ⟨_, e⟩
 ·rw [e, if_neg (ng m ys (bW p hl f) h1 h2)]
 ·exact e
structure Tk (B K : Nat) (z : Str) : Prop extends Tx B z where
 few : MR.cs z <= K
theorem zK3 {α : Type} (f : Str -> List α) : ∀ (ps : List Str), (∀ p ∈ ps, (f p).length <= cs p + 1) -> (ps.map f).flatten.length <= (ps.map cs).sum + ps.length
 | [], _ => Nat.le_refl _
 | p :: ps, h => by
  have a := h p List.mem_cons_self
  have b := zK3 f ps fun q hq => h q (List.mem_cons_of_mem _ hq)
  rw [List.map_cons, List.flatten_cons, List.length_append, List.map_cons, List.sum_cons, List.length_cons]
  bv_omega
theorem wK : cs ")(" = 1 /\ cs " " = 1 /\ cs "(" = 0 /\ cs ")" = 1 /\ cs "" = 0 /\ cs "0" = 0 := by decide +kernel
theorem yC4 {α : Type} (z : Str) (f : Str -> α) : ((pts z).map fun p => (wds p).map f).flatten.length <= cs z + 1 := by
 have a := cL (x := Txt.slice z (some 1) (some (-1))) wK.1
 have b := zT4 z (some 1) (some (-1))
 have c := zK3 (fun p => (wds p).map f) (pts z) fun p hp => by
  have d := cL (x := p) wK.2.1
  rw [List.length_map]
  unfold wds
  bv_omega
 unfold pts at c ⊢
 bv_omega
def Wl (w : Str) : Prop := Fig w /\ w.length <= 2 /\ (Txt.startswith w "0" = true -> w.length <= 1)
open Classical in
def ln (w : Str) : Int := if Wl w then (dv w : Int) else -1
theorem yT1 {α : Type} (xs : List α) (f : α -> Bool) : allD [.list (xs.map fun x => PyData.bool (f x))] = some (.bool (xs.all f)) := by
 have e : (xs.map fun x => PyData.bool (f x)) = (xs.map f).map PyData.bool := by rw [List.map_map]; rfl
 show (boolsOf _).map _ = _
 rw [e, boolsOf_map]
 show some (PyData.bool ((xs.map f).all id)) = _
 rw [List.all_map]
 rfl
theorem xY9 (c : Nat) : inSD (.str ⟨#[c]⟩) (.str "0123456789") = some (decide (48 <= c /\ c <= 57)) := by
 show some (!(Builtin.Str.occurrences "0123456789" ⟨#[c]⟩ 0 ("0123456789" : Str).length 1).isEmpty) = _
 rw [PySem.StrLaws.found_one]
 have e : ("0123456789" : Str).cps.toList = [48, 49, 50, 51, 52, 53, 54, 55, 56, 57] := by decide +kernel
 rw [e]
 congr 1
 rw [Bool.eq_iff_iff, decide_eq_true_iff, decide_eq_true_iff]
 simp only [List.mem_cons, List.not_mem_nil, or_false]
 bv_omega
theorem zP9 {c : Nat} (h : c < 128) : PyData.strOk ⟨#[c]⟩ = true := by
 rw [zL4]
 intro x hx
 have : x = c := by
  have hx : x ∈ [c] := hx
  exact List.mem_singleton.mp hx
 bv_omega
theorem jX {c d : Nat} {s : Str} (hs : tl s = [d]) : ((⟨#[c]⟩ : Str) = s) ↔ c = d := by
 constructor
 ·intro h
  have e : tl ⟨#[c]⟩ = [d] := by rw [h, hs]
  have e : [c] = [d] := e
  simpa using e
 ·rintro rfl
  exact kK (by rw [hs]; rfl)
theorem zQ8 {w : Str} {c : Nat} {r : List Nat} (hl : w.length <= 1000) (e : tl w = c :: r) : ixSD (.str w) (.int 0) = some (.str ⟨#[c]⟩) := by
 have lb := yH
 show (if w.length <= sizeLine then (atI (tl w) 0).map fun c => PyData.str ⟨#[c]⟩ else none) = _
 rw [if_pos (by bv_omega), e, yO2]
 rfl
theorem yM6 {w : Str} {c : Nat} {r : List Nat} (hl : w.length <= 1000) (e : tl w = r ++ [c]) : ixSD (.str w) (.int (-1)) = some (.str ⟨#[c]⟩) := by
 have lb := yH
 show (if w.length <= sizeLine then (atI (tl w) (-1)).map fun c => PyData.str ⟨#[c]⟩ else none) = _
 rw [if_pos (by bv_omega), e, gY]
 rfl
theorem t0 : tl "0" = [48] := by decide +kernel
theorem t1 : tl "(" = [40] := by decide +kernel
theorem t2 : tl ")" = [41] := by decide +kernel
theorem zN7 {w : Str} (h : Tx 100 w) : wR [.str w] = .ok (.int (ln w)) := by
 have lb := yH
 have l := h.len
 have e1 : lenTD [.str w] = some (.int (w.length : Int)) := if_pos (by bv_omega)
 have e4 := zK9 h.ok (show PyData.strOk "" = true by decide +kernel)
 have no : ¬ Wl w -> ln w = -1 := fun n => if_neg n
 show (hV [some (.str w)]).bind (fin false) = _
 unfold hV
 cases et : tl w with
 | nil =>
  rw [decide_eq_true (isE.mpr et)] at e4
  rw [no fun z => z.1.2 et]
  simp -implicitDefEqProofs only [(evA), e4]
 | cons c r =>
  rw [decide_eq_false fun z => by rw [isE.mp z] at et; cases et] at e4
  have cl : c < 128 := h.asc c (by rw [et]; exact List.mem_cons_self)
  by_cases h2 : w.length <= 2
  ·have d2 : decide ((2 : Int) < (w.length : Int)) = false := decide_eq_false (by bv_omega)
   have e5 := zQ8 (by bv_omega) et
   have e6 := zK9 (zP9 cl) (show PyData.strOk "0" = true by decide +kernel)
   have cc : eComp (iSt (eV 0)) tYes (e2 (fun x y => bD (inSD x y)) (eV 0) (eC (.str "0123456789"))) [] [some (.str w)] = .ok (.list ((tl w).map fun c => PyData.bool (decide (48 <= c /\ c <= 57)))) := by
    refine wB (fun c => PyData.str ⟨#[c]⟩) (fun c => PyData.bool (decide (48 <= c /\ c <= 57))) (tl w) ?_ (by rw [zD]; bv_omega) fun c _ => ?_
    ·show ((eV 0 [some (.str w)]).bind fun d => Res.lft (signsD d)) = _
     simp -implicitDefEqProofs only [(evA)]
     show Res.lft (if w.cps.all (· < 128) = true then some (w.cps.toList.map fun c => PyData.str ⟨#[c]⟩) else none) = _
     rw [if_pos h.all]
     rfl
    ·show e2 (fun x y => bD (inSD x y)) (eV 0) (eC (.str "0123456789")) [some (.str ⟨#[c]⟩)] = _
     simp -implicitDefEqProofs only [(evA), xY9]
   have al := yT1 (tl w) fun c => decide (48 <= c /\ c <= 57)
   have fi : ((tl w).all fun c => decide (48 <= c /\ c <= 57)) = true ↔ Fig w := by
    rw [List.all_eq_true]
    exact ⟨fun z => ⟨fun c hc => of_decide_eq_true (z c hc), by rw [et]; exact fun z => nomatch z⟩, fun z c hc => decide_eq_true (z.1 c hc)⟩
   by_cases hz : Txt.startswith w "0" = true -> w.length <= 1
   ·have tst : (tO (b2 eqD (eV 0) (eC (.str ""))) (tO (b2 gtI (eB lenTD (aC (eV 0) aN)) (eC (.int 2))) (tAn (b2 eqD (e2 ixSD (eV 0) (eC (.int 0))) (eC (.str "0"))) (b2 gtI (eB lenTD (aC (eV 0) aN)) (eC (.int 1)))))) [some (.str w)] = .ok false := by
     by_cases c0 : c = 48
     ·have s0 : Txt.startswith w "0" = true := st0.mpr ⟨r, by rw [et, c0]⟩
      have d1 : decide ((1 : Int) < (w.length : Int)) = false := decide_eq_false (by have := hz s0; bv_omega)
      rw [decide_eq_true ((jX t0).mpr c0)] at e6
      simp -implicitDefEqProofs only [(evA), e4, e1, d2, e5, e6, d1]
     ·rw [decide_eq_false fun z => c0 ((jX t0).mp z)] at e6
      simp -implicitDefEqProofs only [(evA), e4, e1, d2, e5, e6]
    cases hf : ((tl w).all fun c => decide (48 <= c /\ c <= 57)) with
    | false =>
     rw [no fun z => by rw [fi.mpr z.1] at hf; cases hf]
     rw [hf] at al
     rw [bO, fV, tst]
     simp -implicitDefEqProofs only [(evA), cc, al]
    | true =>
     have fg := fi.mp hf
     have e7 : intTD [.str w] = some (.int (dv w : Int)) := by
      show (if w.length <= 640 then (PySem.intText? w).map PyData.int else none) = _
      rw [if_pos (by bv_omega), aB fg (by bv_omega)]
      rfl
     rw [show ln w = (dv w : Int) from if_pos ⟨fg, h2, hz⟩]
     rw [hf] at al
     rw [bO, fV, tst]
     simp -implicitDefEqProofs only [(evA), cc, al, e7]
   ·rw [no fun z => hz z.2.2]
    have hz : Txt.startswith w "0" = true /\ ¬ w.length <= 1 := by
     simp only [Classical.not_imp] at hz
     exact hz
    obtain ⟨r', er⟩ := st0.mp hz.1
    rw [et] at er
    have c0 : c = 48 := by cases er; rfl
    have d1 : decide ((1 : Int) < (w.length : Int)) = true := decide_eq_true (by have := hz.2; bv_omega)
    rw [decide_eq_true ((jX t0).mpr c0)] at e6
    simp -implicitDefEqProofs only [(evA), e4, e1, d2, e5, e6, d1]
  ·have d2 : decide ((2 : Int) < (w.length : Int)) = true := decide_eq_true (by bv_omega)
   rw [no fun z => h2 z.2.1]
   simp -implicitDefEqProofs only [(evA), e4, e1, d2]
def lz (z : Str) : List (List Int) := (pts z).map fun p => (wds p).map ln
def Ends (z : Str) : Prop := 3 <= z.length /\ (∃ r, tl z = 40 :: r) /\ ∃ r, tl z = r ++ [41]
theorem xV9 {z : Str} {n : Nat} (p : (lz z).flatten.Perm (rg n)) : lz z = (rd z).map rI' /\ (rd z).flatten.Perm (List.range n) := by
 have all : ∀ q ∈ pts z, ∀ w ∈ wds q, ln w = (dv w : Int) := fun q hq w hw => by
  have m : ln w ∈ rg n := p.mem_iff.mp (List.mem_flatten.mpr ⟨_, List.mem_map_of_mem hq, List.mem_map_of_mem hw⟩)
  by_cases c : Wl w
  ·exact if_pos c
  ·have e : ln w = -1 := if_neg c
   rw [e] at m
   have := (zC5.mp m).1
   bv_omega
 have e : lz z = (rd z).map rI' := by
  unfold lz rd rI'
  rw [List.map_map]
  refine List.map_congr_left fun q hq => ?_
  show (wds q).map ln = ((wds q).map dv).map _
  rw [List.map_map]
  exact List.map_congr_left fun w hw => all q hq w hw
 exact ⟨e, aQ.mp (by rw [<- e]; exact p)⟩
theorem zA2 {z : Str} (h : Tk 100 59 z) :
  (∃ (n : Nat) (ys : List Int), (rd z).flatten.Perm (List.range n) /\ 1 <= n /\ n <= 60 /\ ys.length = n /\ RF (rd z) ys /\ vF [.str z] = if ordT n ys = z then .ok (tI ys) else .ok .none) \/
  ((¬ Ends z \/ ¬ ∃ n, (lz z).flatten.Perm (rg n)) /\ vF [.str z] = .ok .none) := by
 have lb := yH
 have l := h.len
 have le1 : lenTD [.str z] = some (.int (z.length : Int)) := if_pos (by bv_omega)
 show _ \/ (_ /\ (wF [some (.str z), none, none, none, none, none, none]).bind (fin false) = _)
 by_cases h3 : 3 <= z.length
 ·obtain ⟨c, r, ec⟩ : ∃ c r, tl z = c :: r := by
   cases e : tl z with
   | nil =>
    have := zD z
    rw [e] at this
    have : 0 = z.length := this
    bv_omega
   | cons c r => exact ⟨c, r, rfl⟩
  obtain ⟨d, s, ed⟩ : ∃ d s, tl z = s ++ [d] := ⟨(tl z).getLast (by rw [ec]; exact fun z => nomatch z), (tl z).dropLast, (List.dropLast_concat_getLast _).symm⟩
  have d3 : decide ((z.length : Int) < 3) = false := decide_eq_false (by bv_omega)
  have x1 := zQ8 (by bv_omega) ec
  have x2 := yM6 (by bv_omega) ed
  have cl : c < 128 := h.asc c (by rw [ec]; exact List.mem_cons_self)
  have dl : d < 128 := h.asc d (by rw [ed]; simp)
  have n1 := kS (zP9 cl) (show PyData.strOk "(" = true by decide +kernel)
  have n2 := kS (zP9 dl) (show PyData.strOk ")" = true by decide +kernel)
  by_cases c4 : c = 40
  ·rw [decide_eq_true ((jX t1).mpr c4)] at n1
   by_cases c5 : d = 41
   ·rw [decide_eq_true ((jX t2).mpr c5)] at n2
    have tst : (tO (b2 ltI (eB lenTD (aC (eV 0) aN)) (eC (.int 3))) (tO (b2 neD (e2 ixSD (eV 0) (eC (.int 0))) (eC (.str "("))) (b2 neD (e2 ixSD (eV 0) (e1 negD (eC (.int 1)))) (eC (.str ")"))))) [some (.str z), none, none, none, none, none, none] = .ok false := by
     simp -implicitDefEqProofs only [(evA), le1, d3, x1, n1, x2, n2]
    have few := aA h.toTx
    have fw : (lz z).flatten.length <= 60 := by
     have a := yC4 z ln
     have b := h.few
     unfold lz
     bv_omega
    have ll : (lz z).length = (pts z).length := by unfold lz; rw [List.length_map]
    obtain ⟨ρ1, q1, xp, yp, rfl⟩ := wW (g := gN 3) (b := sQ (sS 4 (eComp (iS (eM1S splD (eV 3) (eC (.str " ")))) tYes (eF wR (aC (eV 0) aN)) [])) (sQ (sM 1 extD (aC (eV 4) aN)) (sM 2 appD (aC (eV 4) aN))))
     (fun i ρ => ∃ x y, ρ = [some (.str z), some (lI ((lz z).take i).flatten), some (.list (((lz z).take i).map lI)), x, y, none, none]) ((pts z).map PyData.str) [some (.str z), some (.list []), some (.list []), none, none, none, none] ⟨none, none, rfl⟩ (by
      rintro i dd ρ hd ⟨x, y, rfl⟩
      rw [List.getElem?_map] at hd
      obtain ⟨p, hp, rfl⟩ := Option.map_eq_some_iff.mp hd
      have tp := uY h.toTx (List.mem_of_getElem? hp)
      have wf := kQ tp
      have cc : eComp (iS (eM1S splD (eV 3) (eC (.str " ")))) tYes (eF wR (aC (eV 0) aN)) [] [some (.str z), some (lI ((lz z).take i).flatten), some (.list (((lz z).take i).map lI)), some (.str p), y, none, none] = .ok (lI ((wds p).map ln)) := by
       rw [show lI ((wds p).map ln) = .list ((wds p).map fun w => PyData.int (ln w)) by unfold lI; rw [List.map_map]; rfl]
       refine wB PyData.str (fun w => PyData.int (ln w)) (wds p) (by simp -implicitDefEqProofs only [(evA), yZ, zE, zE4 tp]) (by bv_omega) fun w hw => ?_
       show eF wR (aC (eV 0) aN) [some (.str w)] = _
       simp -implicitDefEqProofs only [(evA), zN7 (gF tp hw)]
      have gi : (lz z)[i]? = some ((wds p).map ln) := by
       unfold lz
       rw [List.getElem?_map, hp]
       rfl
      have tk : (lz z).take (i + 1) = (lz z).take i ++ [(wds p).map ln] := by rw [List.take_succ, gi]; rfl
      have lt : ((lz z).take (i + 1)).flatten.length <= 60 := by
       have a : ((lz z).take (i + 1)).flatten.length <= (lz z).flatten.length := by
        conv => rhs; rw [<- List.take_append_drop (i + 1) (lz z)]
        rw [List.flatten_append, List.length_append]
        bv_omega
       bv_omega
      have e2 : ((lz z).take (i + 1)).flatten = ((lz z).take i).flatten ++ (wds p).map ln := by rw [tk, List.flatten_append, show [(wds p).map ln].flatten = (wds p).map ln by simp]
      have x3 := gH (l := ((lz z).take i).flatten.map PyData.int) (k := ((wds p).map ln).map PyData.int) (d := lI ((wds p).map ln)) rfl (by
       rw [e2, List.length_append] at lt
       rw [List.length_map, List.length_map]
       bv_omega)
      have x4 := uC (l := ((lz z).take i).map lI) (d := lI ((wds p).map ln)) (by
       rw [List.length_map, List.length_take]
       bv_omega)
      refine ⟨_, _, rfl, ?_, some (.str p), some (lI ((wds p).map ln)), rfl⟩
      simp -implicitDefEqProofs only [(evA), cc, x3, x4]
      rw [e2, tk]
      simp only [lI, List.map_append, List.map_cons, List.map_nil])
    rw [List.length_map, <- ll, List.take_length] at q1
    have srt := zT6 (ns := (lz z).flatten) (by bv_omega)
    have lnn : (((lz z).flatten).map PyData.int).length = (lz z).flatten.length := by rw [List.length_map]
    have rl := bR (n := (lz z).flatten.length) (by bv_omega)
    rw [show ((List.range (lz z).flatten.length).map fun (i : Nat) => (i : Int)) = rg (lz z).flatten.length from rfl] at rl
    by_cases pm : (lz z).flatten.Perm (rg (lz z).flatten.length)
    ·obtain ⟨el, pr⟩ := xV9 pm
     generalize en : (lz z).flatten.length = n at *
     have h2 : n <= 60 := by bv_omega
     have pos : ∀ r ∈ rd z, 0 < r.length := fun r hr => by
      obtain ⟨p, _, rfl⟩ := List.mem_map.mp hr
      rw [List.length_map]
      exact List.length_pos_iff.mpr (fN p)
     have h1 : 1 <= n := by
      have a := zK7 (rd z) pos
      have b : 0 < (rd z).length := by
       unfold rd
       rw [List.length_map]
       exact List.length_pos_iff.mpr (wQ _ _)
      rw [pr.length_eq, List.length_range] at a
      bv_omega
     have so : sortI (lz z).flatten = rg n := by rw [<- en]; exact aS.mpr (by rw [en]; exact pm)
     have d6 : decide ((60 : Int) < (n : Int)) = false := decide_eq_false (by bv_omega)
     have rp : repL (.list [.int 0]) (.int ((n : Nat) : Int)) = some (lI (List.replicate n 0)) := by
      rw [cT _ _ (by bv_omega), lI, List.map_replicate]
     have nd : (rd z).flatten.Nodup := pr.nodup_iff.mpr List.nodup_range
     have rn : ∀ r ∈ rd z, ∀ x ∈ r, x < n := fun r hr x hx => List.mem_range.mp (pr.mem_iff.mp (List.mem_flatten.mpr ⟨r, hr, hx⟩))
     have rle : ∀ r ∈ rd z, r.length <= n := fun r hr => by
      have := (List.sublist_flatten_of_mem hr).length_le
      rw [pr.length_eq, List.length_range] at this
      exact this
     have sq := yW8 (rd z) (fun r => lI (rI' r)) fun r => .inr rfl
     obtain ⟨ρ2, q2, ys, x2', y2', hl, hy, rfl⟩ := wW (g := gN 4) (b := sF (iR rng1 (aC (eB lenD (aC (eV 4) aN)) aN)) (gN 6) lrI)
      (fun i ρ => ∃ (ys : List Int) (x y : Option D), ys.length = n /\ (∀ i', i' < i -> ∀ r, (rd z)[i']? = some r -> ∀ q, q < r.length -> ys.getD (r.getD (kx r.length q) 0) 0 = ((r.getD q 0 : Nat) : Int)) /\ ρ = [some (.str z), some (lI (lz z).flatten), some (.list ((lz z).map lI)), xp, x, some (lI ys), y])
      ((rd z).map fun r => lI (rI' r)) [some (.str z), some (lI (lz z).flatten), some (.list ((lz z).map lI)), xp, yp, some (lI (List.replicate n 0)), none] ⟨List.replicate n 0, _, _, List.length_replicate, fun i' h => absurd h (by bv_omega), rfl⟩ (by
       rintro i dd ρ hd ⟨ys, x, y, hl, hy, rfl⟩
       rw [List.getElem?_map] at hd
       obtain ⟨r, hr, rfl⟩ := Option.map_eq_some_iff.mp hd
       have mr := List.mem_of_getElem? hr
       obtain ⟨zs, y2, hl2, hz, e⟩ := yH1 (d0 := .str z) (d1 := lI (lz z).flatten) (d2 := .list ((lz z).map lI)) (x3 := xp) (y := y) nd rn (by have := rle r mr; bv_omega) hr (.inr rfl) hl hy
       exact ⟨_, _, rfl, e, zs, some (lI (rI' r)), y2, hl2, hz, rfl⟩)
     have f : RF (rd z) ys := fun r hr q' hq => by
      obtain ⟨i, hi, er⟩ := List.mem_iff_getElem.mp hr
      exact hy i (by rw [List.length_map]; exact hi) r (by rw [List.getElem?_eq_getElem hi, er]) q' hq
     have o := bW pr hl f
     refine .inl ⟨n, ys, pr, h1, h2, hl, f, ?_⟩
     have ne := kS (zI9 (qO o h1 h2)) h.ok
     have emap : (lz z).map lI = (rd z).map fun r => lI (rI' r) := by rw [el, List.map_map]; rfl
     have ls : ∀ s : Str, lfT false (PyData.str s) = true := fun _ => rfl
     rw [<- emap] at q2
     show (wF [some (.str z), none, none, none, none, none, none]).bind (fin false) = _
     unfold wF
     rw [bO, fV, tst]
     by_cases e : ordT n ys = z
     ·rw [decide_eq_true e] at ne
      rw [if_pos e]
      simp -implicitDefEqProofs only [(evA), yZ, zE, wO h.toTx, wN h.toTx, q1, srt, so, List.length_map, en, rl, zP3, decide_true, d6, rp, q2, cG o h1 h2, ls, ne]
     ·rw [decide_eq_false e] at ne
      rw [if_neg e]
      simp -implicitDefEqProofs only [(evA), yZ, zE, wO h.toTx, wN h.toTx, q1, srt, so, List.length_map, en, rl, zP3, decide_true, d6, rp, q2, cG o h1 h2, ls, ne]
    ·refine .inr ⟨.inr fun ⟨n, pn⟩ => pm ?_, ?_⟩
     ·have : n = (lz z).flatten.length := by rw [pn.length_eq]; unfold rg; rw [List.length_map, List.length_range]
      rw [<- this]
      exact pn
     ·have sn : decide (sortI (lz z).flatten = rg (lz z).flatten.length) = false := decide_eq_false fun y => pm (aS.mp y)
      unfold wF
      rw [bO, fV, tst]
      simp -implicitDefEqProofs only [(evA), yZ, zE, wO h.toTx, wN h.toTx, q1, srt, List.length_map, rl, zP3, sn]
   ·rw [decide_eq_false fun y => c5 ((jX t2).mp y)] at n2
    refine .inr ⟨.inl fun ⟨_, _, r', er⟩ => c5 ?_, ?_⟩
    ·rw [ed] at er
     simpa using (List.append_inj' er rfl).2
    ·unfold wF
     simp -implicitDefEqProofs only [(evA), le1, d3, x1, n1, x2, n2]
  ·rw [decide_eq_false fun y => c4 ((jX t1).mp y)] at n1
   refine .inr ⟨.inl fun ⟨_, ⟨r', er⟩, _⟩ => c4 ?_, ?_⟩
   ·rw [ec] at er
    cases er
    rfl
   ·unfold wF
    simp -implicitDefEqProofs only [(evA), le1, d3, x1, n1]
 ·have d3 : decide ((z.length : Int) < 3) = true := decide_eq_true (by bv_omega)
  refine .inr ⟨.inl fun y => h3 y.1, ?_⟩
  unfold wF
  simp -implicitDefEqProofs only [(evA), le1, d3]
theorem yF3 {b : Nat} (h : b < 60) : ln (numT b) = (b : Int) := by
 obtain ⟨w1, w2⟩ := zR1 h
 have : Wl (numT b) := ⟨w1.1, (uX b h).1.1, fun z => by rw [w1.2.2 z]; decide⟩
 unfold ln
 rw [if_pos this, w2]
theorem yA5 {n : Nat} {xs : List Int} (q : Rs (rgs n xs n)) : lz (ordT n xs) = (rgs n xs n).map rI' := by
 unfold lz
 rw [aP q, List.map_map]
 refine List.map_congr_left fun r hr => ?_
 show (wds (rT r)).map ln = rI' r
 rw [zF8 q hr, List.map_map]
 exact List.map_congr_left fun b hb => yF3 ((q.ring r hr).1 b hb)
theorem zH2 {r : List Nat} (hr : ∀ x ∈ r, x < 60) (hn : r ≠ []) (f : Str -> Nat) (hf : ∀ a b, f (a ++ b) = f a + f b) : f (rT r) + f " " = ((r.map numT).map f).sum + r.length * f " " := by
 have := wE f hf " " (r.map numT) fun z => hn (List.map_eq_nil_iff.mp z)
 rw [List.length_map] at this
 exact this
theorem jE {α : Type} (f : α -> Nat) (a b : Nat) : ∀ l : List α, (∀ x ∈ l, a <= f x /\ f x <= b) -> l.length * a <= (l.map f).sum /\ (l.map f).sum <= l.length * b
 | [], _ => ⟨by simp, by simp⟩
 | x :: l, h => by
  have p := h x List.mem_cons_self
  have q := jE f a b l fun y hy => h y (List.mem_cons_of_mem _ hy)
  rw [List.map_cons, List.sum_cons, List.length_cons, Nat.succ_mul, Nat.succ_mul]
  bv_omega
theorem kE {b : Nat} (h : b < 60) : (1 <= (numT b).length /\ (numT b).length <= 2) /\ cs (numT b) = 0 /\ ∀ c ∈ tl (numT b), c < 128 := by
 have : ∀ b, b < 60 -> (1 <= (numT b).length /\ (numT b).length <= 2) /\ cs (numT b) = 0 /\ ((tl (numT b)).all fun c => decide (c < 128)) = true := by decide +kernel
 obtain ⟨a, b', c⟩ := this b h
 exact ⟨a, b', fun x hx => of_decide_eq_true (List.all_eq_true.mp c x hx)⟩
theorem zL3 {r : List Nat} (hr : ∀ x ∈ r, x < 60) (hn : r ≠ []) : 1 <= (rT r).length /\ (rT r).length + 1 <= 3 * r.length /\ cs (rT r) + 1 = r.length /\ ∀ c ∈ tl (rT r), c < 128 := by
 have a := zH2 hr hn (·.length) Str.length_append
 have b := zH2 hr hn cs wJ
 have s : (" " : Str).length = 1 := rfl
 have n1 := List.length_pos_iff.mpr hn
 have c := jE (α := Str) (·.length) 1 2 (r.map numT) fun y hy => by
  obtain ⟨x, hx, rfl⟩ := List.mem_map.mp hy
  exact (kE (hr x hx)).1
 have d := jE cs 0 0 (r.map numT) fun y hy => by
  obtain ⟨x, hx, rfl⟩ := List.mem_map.mp hy
  have := (kE (hr x hx)).2.1
  bv_omega
 rw [List.length_map] at c d
 rw [wK.2.1] at b
 simp only [s] at a
 refine ⟨by bv_omega, by bv_omega, by bv_omega, fun c hc => ?_⟩
 rcases jR _ hc with hc | ⟨q, hq, hc⟩
 ·have t : tl " " = [32] := by decide +kernel
  rw [t] at hc
  have := List.mem_singleton.mp hc
  bv_omega
 ·obtain ⟨x, hx, rfl⟩ := List.mem_map.mp hq
  exact (kE (hr x hx)).2.2 c hc
theorem Tk.up {B K B' K' : Nat} {z : Str} (h : Tk B K z) (h1 : B <= B') (h2 : K <= K') : Tk B' K' z := ⟨h.toTx.mono h1, Nat.le_trans h.few h2⟩
theorem xZ1 {n : Nat} {xs : List Int} (o : Ord n xs) (h1 : 1 <= n) (h2 : n <= 60) : Tk (4 * n) n (ordT n xs) := by
 have q := qO o h1 h2
 have fl : ((rgs n xs n).map (·.length)).sum = n := by
  rw [<- List.length_flatten, (flatP o).length_eq, List.length_range]
 have ne : (rgs n xs n).map wT ≠ [] := fun z => q.ne (List.map_eq_nil_iff.mp z)
 have a := wE (·.length) Str.length_append "" _ ne
 have b := wE cs wJ "" _ ne
 have w : ∀ r ∈ rgs n xs n, (wT r).length <= 4 * r.length /\ cs (wT r) <= r.length /\ ∀ c ∈ tl (wT r), c < 128 := fun r hr => by
  obtain ⟨i1, i2, i3, i4⟩ := zL3 (q.ring r hr).1 (q.ring r hr).2.2
  have n1 := List.length_pos_iff.mpr (q.ring r hr).2.2
  have c1 : ("(" : Str).length = 1 := rfl
  have c2 : (")" : Str).length = 1 := rfl
  unfold wT
  refine ⟨by rw [Str.length_append, Str.length_append]; bv_omega, by rw [wJ, wJ, wK.2.2.1, wK.2.2.2.1]; bv_omega, fun c hc => ?_⟩
  rw [zH, zH, t1, t2] at hc
  rcases List.mem_append.mp hc with hc | hc
  ·rcases List.mem_append.mp hc with hc | hc
   ·have := List.mem_singleton.mp hc
    bv_omega
   ·exact i4 c hc
  ·have := List.mem_singleton.mp hc
   bv_omega
 have s1 := zQ3 (fun r => (wT r).length) (fun r => 4 * r.length) (rgs n xs n) fun r hr => (w r hr).1
 have s2 := zQ3 (fun r => cs (wT r)) (fun r => r.length) (rgs n xs n) fun r hr => (w r hr).2.1
 have m4 : ∀ L : List (List Nat), (L.map fun r => 4 * r.length).sum = 4 * (L.map (·.length)).sum := fun L => by
  induction L with
  | nil => rfl
  | cons r L ih =>
   rw [List.map_cons, List.map_cons, List.sum_cons, List.sum_cons, ih]
   bv_omega
 rw [m4, fl] at s1
 rw [fl] at s2
 have z0 : ("" : Str).length = 0 := rfl
 rw [List.map_map] at a b
 simp only [z0] at a
 rw [wK.2.2.2.2.1] at b
 have a' : (Str.join "" ((rgs n xs n).map wT)).length + 0 = ((rgs n xs n).map fun r => (wT r).length).sum + ((rgs n xs n).map wT).length * 0 := a
 have b' : cs (Str.join "" ((rgs n xs n).map wT)) + 0 = ((rgs n xs n).map fun r => cs (wT r)).sum + ((rgs n xs n).map wT).length * 0 := b
 refine ⟨⟨by unfold ordT; bv_omega, fun c hc => ?_⟩, by unfold ordT; bv_omega⟩
 rcases jR _ hc with hc | ⟨p, hp, hc⟩
 ·have t : tl "" = [] := by decide +kernel
  rw [t] at hc
  cases hc
 ·obtain ⟨r, hr, rfl⟩ := List.mem_map.mp hp
  exact (w r hr).2.2 c hc
theorem yT7 {n : Nat} {xs : List Int} (o : Ord n xs) (h1 : 1 <= n) (h2 : n <= 60) : Ends (ordT n xs) := by
 have q := qO o h1 h2
 have e := fR ((rgs n xs n).map rT) fun z => q.ne (List.map_eq_nil_iff.mp z)
 rw [List.map_map] at e
 have e' : ordT n xs = "(" ++ Str.join ")(" ((rgs n xs n).map rT) ++ ")" := e
 have ne : (rgs n xs n).map rT ≠ [] := fun z => q.ne (List.map_eq_nil_iff.mp z)
 have jl := jS ")(" ((rgs n xs n).map rT) ne
 have n1 := List.length_pos_iff.mpr ne
 have s := (jE (α := Str) (·.length) 1 10000 ((rgs n xs n).map rT) fun y hy => by
  obtain ⟨r, hr, rfl⟩ := List.mem_map.mp hy
  have := (zL3 (q.ring r hr).1 (q.ring r hr).2.2).1
  have := gD (q.ring r hr).1 (q.ring r hr).2.1
  bv_omega).1
 have l2 : (")(" : Str).length = 2 := rfl
 have c1 : ("(" : Str).length = 1 := rfl
 have c2 : (")" : Str).length = 1 := rfl
 rw [l2] at jl
 refine ⟨?_, ⟨tl (Str.join ")(" ((rgs n xs n).map rT) ++ ")"), ?_⟩, ⟨tl ("(" ++ Str.join ")(" ((rgs n xs n).map rT)), ?_⟩⟩
 ·rw [e', Str.length_append, Str.length_append]
  bv_omega
 ·rw [e', zH, zH, zH, t1]
  simp
 ·rw [e', zH, t2]
theorem yH3 {n : Nat} {xs : List Int} (o : Ord n xs) (h1 : 1 <= n) (h2 : n <= 60) (h : Tk 100 59 (ordT n xs)) : vF [.str (ordT n xs)] = .ok (tI xs) := by
 have q := qO o h1 h2
 obtain ⟨er, _⟩ := zC1 q
 rcases zA2 h with ⟨m, ys, p, _, _, hl, f, e⟩ | ⟨n1, _⟩
 ·have pm := flatP o
  rw [er] at p f
  have : m = n := by
   have a := p.length_eq
   rw [pm.length_eq, List.length_range, List.length_range] at a
   exact a.symm
  subst this
  have := zJ9 p o.len hl (zB1 o) f
  subst this
  rw [e, if_pos rfl]
 ·rcases n1 with n1 | n1
  ·exact absurd (yT7 o h1 h2) n1
  ·exact absurd ⟨n, by rw [yA5 q]; exact aQ.mpr (flatP o)⟩ n1
theorem xZ6 {z : Str} (h : Tk 100 59 z) (ng : ∀ n xs, Ord n xs -> 1 <= n -> n <= 60 -> ordT n xs ≠ z) : vF [.str z] = .ok .none := by
 rcases zA2 h with ⟨m, ys, p, h1, h2, hl, f, e⟩ | ⟨_, e⟩
 ·rw [e, if_neg (ng m ys (bW p hl f) h1 h2)]
 ·exact e
theorem qK {z : Str} (h : Tk 100 59 z) : xL [.str z] = .ok (.bool true) := by
 show (gE [some (.str z), none, none, none, none]).bind (fin false) = _
 unfold gE
 have i0 : isND false .none .none = some true := rfl
 have i1 : isND true .none .none = some false := rfl
 by_cases g : ∃ n xs, Ord n xs /\ 1 <= n /\ n <= 60 /\ ordT n xs = z
 ·obtain ⟨n, xs, o, h1, h2, rfl⟩ := g
  have i2 : isND true (tI xs) .none = some true := rfl
  have tr : sTryA 3 2 CLS yI (aC (eV 0) aN) (sS 1 (eV 3)) [some (.str (ordT n xs)), some .none, some .none, none, none] = .ok (.nx [some (.str (ordT n xs)), some .none, some (tI xs), none, none]) := yS2 rfl (yK4 o h1 h2 h.toTx)
  simp -implicitDefEqProofs only [(evA), tr, yH3 o h1 h2 h, i0, i2, yA9, decide_true]
 ·have ng : ∀ n xs, Ord n xs -> 1 <= n -> n <= 60 -> ordT n xs ≠ z := fun n xs o h1 h2 e => g ⟨n, xs, o, h1, h2, e⟩
  have tr : sTryA 3 2 CLS yI (aC (eV 0) aN) (sS 1 (eV 3)) [some (.str z), some .none, some .none, none, none] = .ok (.nx [some (.str z), some (excD BT), some .none, none, none]) := by
   rw [yQ8 (c := BT) rfl (yD7 h.toTx ng) (by decide +kernel)]
   rfl
  have x1 : isiX CLS ROWN (excD BT) = some (.bool true) := by rw [zP7, if_pos (by decide +kernel)]; rfl
  have x2 : isiX CLS CLS (excD BT) = some (.bool true) := by rw [zP7, if_pos (by decide +kernel)]; rfl
  have x3 : isiX CLS ["BadBox", "BadOrder", "BadPlan", "NoNumber", "TooMany"] (excD BT) = some (.bool false) := by rw [zP7, if_pos (by decide +kernel)]; rfl
  have x4 : rowD (excD BT) = some (.int 1) := by
   rw [zB4, show rowOf BT = some 1 from gZ 1 (by decide)]
   rfl
  simp -implicitDefEqProofs only [(evA), tr, xZ6 h ng, i1, x1, x2, x3, x4, zG9, qA, decide_true]
theorem eqk (a b : Int) {v : Bool} (h : decide (a = b) = v) : eqD (.int a) (.int b) = some v := by rw [qA, h]
theorem modN (a b : Nat) (h : 0 < b) : modO (a : Int) (b : Int) = some ((a % b : Nat) : Int) := by
 unfold modO
 rw [if_pos (by bv_omega)]
 rfl
theorem divN (a b : Nat) (h : 0 < b) (h2 : b < 1073741824) : fdivO (a : Int) (b : Int) = some ((a / b : Nat) : Int) := by
 unfold fdivO
 rw [if_pos (DivOk.small (by bv_omega) (by bv_omega))]
 rfl
theorem cS {a b : Str} (h : a.length + b.length <= 2000) : catS (.str a) (.str b) = some (.str (a ++ b)) := by
 have lb := yH
 exact if_pos (by bv_omega)
theorem jOk {sep : Str} {ts : List Str} (hs : sep.length <= 2) (h : ∀ t ∈ ts, t.length <= 1000) (hl : ts.length <= 1000) : joinD sep (.list (ts.map PyData.str)) = some (.str (Str.join sep ts)) := by
 refine cQ ?_
 unfold JoinOk
 have h1 := Nat.mul_le_mul_right 1000 hl
 have h2 := Nat.mul_le_mul_left ts.length hs
 rw [StrLaws.joinFits h (by bv_omega)]
 rfl
theorem setS {ts : List Str} {v : Str} {k : Nat} (h : k < ts.length) : setD (ts.map PyData.str) (.int (k : Int)) (.str v) = some ((ts.set k v).map PyData.str) := by
 unfold setD
 simp only
 rw [List.length_map, aF h, Option.map_some, List.map_set]
theorem aH {α : Type} (f : α -> Nat) (l : List α) (k : Nat) : ((l.drop k ++ l.take k).map f).sum = (l.map f).sum := by
 conv => rhs; rw [<- List.take_append_drop k l]
 rw [List.map_append, List.sum_append, List.map_append, List.sum_append]
 bv_omega
theorem kT {z : Str} {B K dl dc : Nat} {ts : List Str} (h : Tk B K z) (n0 : ts ≠ []) (h1 : (ts.map (·.length)).sum + 2 * ts.length <= ((pts z).map (·.length)).sum + 2 * (pts z).length + dl) (h2 : (ts.map cs).sum + ts.length <= ((pts z).map cs).sum + (pts z).length + dc)
  (h3 : ∀ t ∈ ts, ∀ c ∈ tl t, c < 128) : Tk (B + dl + 2) (K + dc + 1) ("(" ++ Str.join ")(" ts ++ ")") := by
 have a := jS ")(" ts n0
 have b := jS ")(" (pts z) (wQ _ _)
 rw [show Str.join ")(" (pts z) = Txt.slice z (some 1) (some (-1)) from PySem.StrLaws.join_split _ _] at b
 have c := wE cs wJ ")(" ts n0
 have d := cL (x := Txt.slice z (some 1) (some (-1))) wK.1
 have e := (h.toTx.slice (some 1) (some (-1))).len
 have f := zT4 z (some 1) (some (-1))
 have g := h.few
 rw [wK.1] at c
 have l2 : (")(" : Str).length = 2 := rfl
 rw [l2] at a b
 have c1 : ("(" : Str).length = 1 := rfl
 have c2 : (")" : Str).length = 1 := rfl
 unfold pts at *
 refine ⟨⟨?_, fun c hc => ?_⟩, ?_⟩
 ·rw [Str.length_append, Str.length_append]
  bv_omega
 ·rw [zH, zH, t1, t2] at hc
  rcases List.mem_append.mp hc with hc | hc
  ·rcases List.mem_append.mp hc with hc | hc
   ·have := List.mem_singleton.mp hc
    bv_omega
   ·rcases jR _ hc with hc | ⟨q, hq, hc⟩
    ·have t : tl ")(" = [41, 40] := by decide +kernel
     rw [t] at hc
     simp only [List.mem_cons, List.not_mem_nil, or_false] at hc
     bv_omega
    ·exact h3 q hq c hc
  ·have := List.mem_singleton.mp hc
   bv_omega
 ·rw [wJ, wJ, wK.2.2.1, wK.2.2.2.1]
  bv_omega
theorem zP4 {ts : List Str} {k : Nat} {v : Str} (h : k < ts.length) : ts.set k v ≠ [] := fun z => by
 have := congrArg List.length z
 rw [List.length_set, List.length_nil] at this
 bv_omega
theorem aL {z v : Str} {B k : Nat} (h : Tx B z) (hv : ∀ c ∈ tl v, c < 128) : ∀ t ∈ (pts z).set k v, ∀ c ∈ tl t, c < 128 := fun t ht => by
 rcases List.mem_or_eq_of_mem_set ht with ht | ht
 ·exact (uY h ht).asc
 ·rw [ht]; exact hv
theorem aU {z v : Str} {B k : Nat} (h : Tx B z) (hB : B <= 90) (hv : v.length <= 1000) : ∀ t ∈ (pts z).set k v, t.length <= 1000 := fun t ht => by
 rcases List.mem_or_eq_of_mem_set ht with ht | ht
 ·have := (uY h ht).len
  bv_omega
 ·rw [ht]; exact hv
theorem zR3 (s : Nat) : tl ⟨#[s]⟩ = [s] := rfl
theorem yW3 {z : Str} {B K a b s : Nat} (h : Tk B K z) (ha : a <= z.length) (hs : s < 128) (hb : a <= b) : Tk (B + 1) (K + 1) (Txt.slice z none (some (a : Int)) ++ ⟨#[s]⟩ ++ Txt.slice z (some (b : Int)) none) := by
 have e1 := yN2 ha
 have e2 := zI5 z b
 have l := zD z
 have hl := h.len
 refine ⟨⟨?_, fun c hc => ?_⟩, ?_⟩
 ·rw [<- zD, zH, zH, e1, e2, zR3, List.length_append, List.length_append, List.length_take, List.length_drop]
  have : [s].length = 1 := rfl
  bv_omega
 ·rw [zH, zH, e1, e2, zR3] at hc
  rcases List.mem_append.mp hc with hc | hc
  ·rcases List.mem_append.mp hc with hc | hc
   ·exact h.asc c (List.mem_of_mem_take hc)
   ·have := List.mem_singleton.mp hc
    bv_omega
  ·exact h.asc c (List.mem_of_mem_drop hc)
 ·have f := h.few
  unfold MR.cs at f ⊢
  rw [zH, zH, e1, e2, zR3, List.countP_append, List.countP_append]
  have c1 := List.countP_append (p := fun c => c == 32 || c == 41) (l₁ := (tl z).take a) (l₂ := (tl z).drop a)
  rw [List.take_append_drop] at c1
  have c2 := (List.drop_sublist_drop_left (tl z) hb).countP_le (p := fun c => c == 32 || c == 41)
  have c3 : [s].countP (fun c => c == 32 || c == 41) <= 1 := List.countP_le_length
  bv_omega
theorem xY3 {z : Str} {B K a : Nat} (h : Tk B K z) (ha : a <= z.length) : Tk B K (Txt.slice z none (some (a : Int)) ++ Txt.slice z (some ((a : Int) + 1)) none) := by
 have e1 := yN2 ha
 have e2 : tl (Txt.slice z (some ((a : Int) + 1)) none) = (tl z).drop (a + 1) := zI5 z (a + 1)
 have l := zD z
 have hl := h.len
 refine ⟨⟨?_, fun c hc => ?_⟩, ?_⟩
 ·rw [<- zD, zH, e1, e2, List.length_append, List.length_take, List.length_drop]
  bv_omega
 ·rw [zH, e1, e2] at hc
  rcases List.mem_append.mp hc with hc | hc
  ·exact h.asc c (List.mem_of_mem_take hc)
  ·exact h.asc c (List.mem_of_mem_drop hc)
 ·have f := h.few
  unfold MR.cs at f ⊢
  rw [zH, e1, e2, List.countP_append]
  have c1 := List.countP_append (p := fun c => c == 32 || c == 41) (l₁ := (tl z).take a) (l₂ := (tl z).drop a)
  rw [List.take_append_drop] at c1
  have c2 := (List.drop_sublist_drop_left (tl z) (show a <= a + 1 by bv_omega)).countP_le (p := fun c => c == 32 || c == 41)
  bv_omega
theorem yK5 : ∀ i : Nat, i < 21 -> (atI (tl "0123456789() -+,.x_[]") (i : Int)).any (fun s => decide (s < 128)) = true := by decide +kernel
theorem fP {z : Str} {B K : Nat} (h : Tk B K z) (hB : B <= 90) (c : Nat) : ∃ z', wI [.str z, .int (c : Int)] = .ok (.str z') /\ Tk (B + 6) (K + 2) z' := by
 have lb := yH
 have l := h.len
 have le1 : lenTD [.str z] = some (.int (z.length : Int)) := if_pos (by bv_omega)
 have m8 : modO (c : Int) 8 = some ((c % 8 : Nat) : Int) := modN c 8 (by decide)
 have d8 : fdivO (c : Int) 8 = some ((c / 8 : Nat) : Int) := divN c 8 (by decide) (by decide)
 have d800 : fdivO (c : Int) 800 = some ((c / 800 : Nat) : Int) := divN c 800 (by decide) (by decide)
 have m21 : modO ((c / 800 : Nat) : Int) 21 = some ((c / 800 % 21 : Nat) : Int) := modN _ 21 (by decide)
 have m14 : modO ((c / 800 : Nat) : Int) 14 = some ((c / 800 % 14 : Nat) : Int) := modN _ 14 (by decide)
 have mA : modO ((c / 8 : Nat) : Int) ((z.length : Int) + 1) = some ((c / 8 % (z.length + 1) : Nat) : Int) := modN _ (z.length + 1) (by bv_omega)
 obtain ⟨s, hs, sg⟩ : ∃ s, s < 128 /\ ixSD (.str "0123456789() -+,.x_[]") (.int ((c / 800 % 21 : Nat) : Int)) = some (.str ⟨#[s]⟩) := by
  have a := yK5 (c / 800 % 21) (Nat.mod_lt (c / 800) (show 0 < 21 by decide))
  cases e : atI (tl "0123456789() -+,.x_[]") ((c / 800 % 21 : Nat) : Int) with
  | none => rw [e] at a; cases a
  | some s =>
   rw [e] at a
   refine ⟨s, of_decide_eq_true a, ?_⟩
   show (if ("0123456789() -+,.x_[]" : Str).length <= sizeLine then (atI (tl "0123456789() -+,.x_[]") ((c / 800 % 21 : Nat) : Int)).map fun c => PyData.str ⟨#[c]⟩ else none) = _
   rw [if_pos (by decide), e]
   rfl
 have few := aA (h.toTx.mono (show B <= 100 by bv_omega))
 have n1 := List.length_pos_iff.mpr (show pts z ≠ [] from wQ _ _)
 have mW : modO ((c / 8 : Nat) : Int) ((pts z).length : Int) = some ((c / 8 % (pts z).length : Nat) : Int) := modN (c / 8) (pts z).length n1
 have ha : c / 8 % (z.length + 1) <= z.length := by have := Nat.mod_lt (c / 8) (show 0 < z.length + 1 by bv_omega); bv_omega
 have hk : c / 8 % (pts z).length < (pts z).length := Nat.mod_lt _ n1
 have hm : c / 800 % 14 < 14 := Nat.mod_lt _ (by decide)
 have hw8 : c % 8 < 8 := Nat.mod_lt _ (by decide)
 generalize c / 800 % 14 = m at *
 generalize c / 8 % (z.length + 1) = a at *
 generalize c / 8 % (pts z).length = k at *
 obtain ⟨p, hp⟩ : ∃ p, (pts z)[k]? = some p := ⟨_, List.getElem?_eq_getElem hk⟩
 have tp := uY h.toTx (List.mem_of_getElem? hp)
 have gm : ∀ f : Str -> Nat, ((pts z).map f)[k]? = some (f p) := fun f => by rw [List.getElem?_map, hp]; rfl
 have atp : atI ((pts z).map PyData.str) (k : Int) = some (.str p) := by rw [uL, fB hp]; rfl
 have nm := kE (show m < 60 by bv_omega)
 have nm : (numT m).length <= 2 /\ cs (numT m) = 0 /\ ∀ c ∈ tl (numT m), c < 128 := ⟨nm.1.2, nm.2⟩
 have so : strOfD [.int ((m : Nat) : Int)] = some (.str (numT m)) := if_pos (uX m (by bv_omega)).2.2.2.1
 have slK : ∀ lo hi : Option Int, slS (.str z) lo hi = some (.str (Txt.slice z lo hi)) := fun lo hi => by
  unfold slS
  rw [zE, Option.bind_some, if_pos (by bv_omega)]
 have lenz := le1
 show ∃ z', (kW [some (.str z), some (.int (c : Int)), none, none, none, none, none, none]).bind (fin false) = .ok (.str z') /\ _
 unfold kW
 have hw : c % 8 = 0 \/ c % 8 = 1 \/ c % 8 = 2 \/ c % 8 = 3 \/ c % 8 = 4 \/ c % 8 = 5 \/ c % 8 = 6 \/ c % 8 = 7 := by bv_omega
 rcases hw with hw | hw | hw | hw | hw | hw | hw | hw
 ·
  have E8 : modO (c : Int) 8 = some 0 := by rw [m8, hw]; rfl
  refine ⟨Txt.slice z none (some (a : Int)) ++ ⟨#[s]⟩ ++ Txt.slice z (some (a : Int)) none, ?_, ?_⟩
  ·simp -implicitDefEqProofs only [(evA), E8, d8, mA, d800, m21, sg, wO (h.toTx.mono (by bv_omega)), wN (h.toTx.mono (by bv_omega)), yZ, zE, List.length_map, mW, lenz, eqk 0 0 (v := true) (by decide), slK none (some (a : Int)), slK (some (a : Int)) none, cS (a := Txt.slice z none (some (a : Int))) (b := ⟨#[s]⟩) (by have := Txt.slice_le z none (some (a : Int)); have : (⟨#[s]⟩ : Str).length = 1 := rfl; bv_omega), cS (a := Txt.slice z none (some (a : Int)) ++ ⟨#[s]⟩) (b := Txt.slice z (some (a : Int)) none) (by rw [Str.length_append]; have := Txt.slice_le z none (some (a : Int)); have := Txt.slice_le z (some (a : Int)) none; have : (⟨#[s]⟩ : Str).length = 1 := rfl; bv_omega)]
  ·exact (yW3 h ha hs (Nat.le_refl a)).up (by bv_omega) (by bv_omega)
 ·
  have E8 : modO (c : Int) 8 = some 1 := by rw [m8, hw]; rfl
  refine ⟨Txt.slice z none (some (a : Int)) ++ Txt.slice z (some ((a : Int) + 1)) none, ?_, ?_⟩
  ·simp -implicitDefEqProofs only [(evA), E8, d8, mA, d800, m21, sg, wO (h.toTx.mono (by bv_omega)), wN (h.toTx.mono (by bv_omega)), yZ, zE, List.length_map, mW, lenz, eqk 1 0 (v := false) (by decide), eqk 1 1 (v := true) (by decide), slK none (some (a : Int)), slK (some ((a : Int) + 1)) none, cS (a := Txt.slice z none (some (a : Int))) (b := Txt.slice z (some ((a : Int) + 1)) none) (by have := Txt.slice_le z none (some (a : Int)); have := Txt.slice_le z (some ((a : Int) + 1)) none; bv_omega)]
  ·exact (xY3 h ha).up (by bv_omega) (by bv_omega)
 ·
  have E8 : modO (c : Int) 8 = some 2 := by rw [m8, hw]; rfl
  refine ⟨Txt.slice z none (some (a : Int)) ++ ⟨#[s]⟩ ++ Txt.slice z (some ((a : Int) + 1)) none, ?_, ?_⟩
  ·simp -implicitDefEqProofs only [(evA), E8, d8, mA, d800, m21, sg, wO (h.toTx.mono (by bv_omega)), wN (h.toTx.mono (by bv_omega)), yZ, zE, List.length_map, mW, lenz, eqk 2 0 (v := false) (by decide), eqk 2 1 (v := false) (by decide), eqk 2 2 (v := true) (by decide), slK none (some (a : Int)), slK (some ((a : Int) + 1)) none, cS (a := Txt.slice z none (some (a : Int))) (b := ⟨#[s]⟩) (by have := Txt.slice_le z none (some (a : Int)); have : (⟨#[s]⟩ : Str).length = 1 := rfl; bv_omega), cS (a := Txt.slice z none (some (a : Int)) ++ ⟨#[s]⟩) (b := Txt.slice z (some ((a : Int) + 1)) none) (by rw [Str.length_append]; have := Txt.slice_le z none (some (a : Int)); have := Txt.slice_le z (some ((a : Int) + 1)) none; have : (⟨#[s]⟩ : Str).length = 1 := rfl; bv_omega)]
  ·exact (yW3 h ha hs (Nat.le_succ a)).up (by bv_omega) (by bv_omega)
 ·
  have E8 : modO (c : Int) 8 = some 3 := by rw [m8, hw]; rfl
  have wf := kQ (tp.mono (by bv_omega) : Tx 100 p)
  have lnp : ∀ f : Str -> Nat, (∀ a b, f (a ++ b) = f a + f b) -> f (Str.join " " ((wds p).drop 1 ++ (wds p).take 1)) = f p := fun f hf => by
   have ne1 : (wds p).drop 1 ++ (wds p).take 1 ≠ [] := fun z => by
    have := congrArg List.length z
    rw [List.length_append, List.length_drop, List.length_take, List.length_nil] at this
    have n1 := List.length_pos_iff.mpr (fN p)
    bv_omega
   have a1 := wE f hf " " _ ne1
   have a2 := wE f hf " " (wds p) (fN p)
   rw [show Str.join " " (wds p) = p from PySem.StrLaws.join_split p " "] at a2
   have a3 := aH f (wds p) 1
   have a4 : ((wds p).drop 1 ++ (wds p).take 1).length = (wds p).length := by rw [List.length_append, List.length_drop, List.length_take]; have := List.length_pos_iff.mpr (fN p); bv_omega
   rw [a3, a4] at a1
   bv_omega
  have chp : ∀ c ∈ tl (Str.join " " ((wds p).drop 1 ++ (wds p).take 1)), c < 128 := fun c hc => by
   rcases jR _ hc with hc | ⟨q, hq, hc⟩
   ·have t : tl " " = [32] := by decide +kernel
    rw [t] at hc
    have := List.mem_singleton.mp hc
    bv_omega
   ·refine tp.asc c (zW5 (y := " ") (x := p) (p := q) ?_ hc)
    rcases List.mem_append.mp hq with hq | hq
    ·exact List.mem_of_mem_drop hq
    ·exact List.mem_of_mem_take hq
  have wl : ∀ t ∈ (wds p).drop 1 ++ (wds p).take 1, t.length <= 1000 := fun t ht => by
   have : t ∈ wds p := by
    rcases List.mem_append.mp ht with hq | hq
    ·exact List.mem_of_mem_drop hq
    ·exact List.mem_of_mem_take hq
   have := (gF tp this).len
   bv_omega
  have J1 := jOk (sep := " ") (ts := (wds p).drop 1 ++ (wds p).take 1) (by decide) wl (by rw [List.length_append, List.length_drop, List.length_take]; bv_omega)
  have S1 : splD p (.str " ") = some (.list ((wds p).map PyData.str)) := zE4 (tp.mono (by bv_omega))
  have C1 : cutD ((wds p).map PyData.str) (some 1) none = ((wds p).drop 1).map PyData.str := by rw [jU, show (1 : Int) = ((1 : Nat) : Int) from rfl, zR2]
  have C2 : cutD ((wds p).map PyData.str) none (some 1) = ((wds p).take 1).map PyData.str := by rw [jU, show (1 : Int) = ((1 : Nat) : Int) from rfl, zS6]
  have C3 : catL (.list (((wds p).drop 1).map PyData.str)) (.list (((wds p).take 1).map PyData.str)) = some (.list (((wds p).drop 1 ++ (wds p).take 1).map PyData.str)) := by
   unfold catL
   simp only
   rw [if_pos (by rw [List.length_map, List.length_map, List.length_drop, List.length_take]; bv_omega), List.map_append]
  have S2 := setS (ts := pts z) (v := Str.join " " ((wds p).drop 1 ++ (wds p).take 1)) hk
  have W := kT (dl := 0) (dc := 0) h (ts := (pts z).set k (Str.join " " ((wds p).drop 1 ++ (wds p).take 1))) (zP4 hk) (by rw [List.map_set, lnp (·.length) Str.length_append, List.length_set]; have := qJ (x := p.length) (gm (·.length)); bv_omega) (by rw [List.map_set, lnp cs wJ, List.length_set]; have := qJ (x := cs p) (gm cs); bv_omega) (aL h.toTx chp)
  have J := jOk (sep := ")(") (ts := (pts z).set k (Str.join " " ((wds p).drop 1 ++ (wds p).take 1))) (by decide) (aU h.toTx (by bv_omega) (by rw [lnp (·.length) Str.length_append]; have := tp.len; bv_omega)) (by rw [List.length_set]; bv_omega)
  have LJ := W.len
  rw [Str.length_append, Str.length_append] at LJ
  refine ⟨_, ?_, W.up (by bv_omega) (by bv_omega)⟩
  simp -implicitDefEqProofs only [(evA), E8, d8, mA, d800, m21, sg, wO (h.toTx.mono (by bv_omega)), wN (h.toTx.mono (by bv_omega)), yZ, zE, List.length_map, mW, lenz, eqk 3 0 (v := false) (by decide), eqk 3 1 (v := false) (by decide), eqk 3 2 (v := false) (by decide), eqk 3 3 (v := true) (by decide), eqk 3 4 (v := false) (by decide), eqk 3 5 (v := false) (by decide), eqk 3 6 (v := false) (by decide), eqk 3 7 (v := false) (by decide), atp, S1, C1, C2, C3, J1, S2, J, cS (a := "(") (b := Str.join ")(" ((pts z).set k (Str.join " " ((wds p).drop 1 ++ (wds p).take 1)))) (by have : ("(" : Str).length = 1 := rfl; bv_omega), cS (a := "(" ++ Str.join ")(" ((pts z).set k (Str.join " " ((wds p).drop 1 ++ (wds p).take 1)))) (b := ")") (by rw [Str.length_append]; have : ("(" : Str).length = 1 := rfl; have : (")" : Str).length = 1 := rfl; bv_omega)]
 ·
  have E8 : modO (c : Int) 8 = some 4 := by rw [m8, hw]; rfl
  have ne4 : (pts z).drop k ++ (pts z).take k ≠ [] := fun y => by
   have := congrArg List.length y
   rw [List.length_append, List.length_drop, List.length_take, List.length_nil] at this
   bv_omega
  have l4 : ((pts z).drop k ++ (pts z).take k).length = (pts z).length := by rw [List.length_append, List.length_drop, List.length_take]; bv_omega
  have m4 : ∀ t ∈ (pts z).drop k ++ (pts z).take k, Tx B t := fun t ht => uY h.toTx (by
   rcases List.mem_append.mp ht with hq | hq
   ·exact List.mem_of_mem_drop hq
   ·exact List.mem_of_mem_take hq)
  have C1 : cutD ((pts z).map PyData.str) (some (k : Int)) none = ((pts z).drop k).map PyData.str := by rw [jU, zR2]
  have C2 : cutD ((pts z).map PyData.str) none (some (k : Int)) = ((pts z).take k).map PyData.str := by rw [jU, zS6]
  have C3 : catL (.list (((pts z).drop k).map PyData.str)) (.list (((pts z).take k).map PyData.str)) = some (.list (((pts z).drop k ++ (pts z).take k).map PyData.str)) := by
   unfold catL
   simp only
   rw [if_pos (by rw [List.length_map, List.length_map, List.length_drop, List.length_take]; bv_omega), List.map_append]
  have W := kT (dl := 0) (dc := 0) h (ts := (pts z).drop k ++ (pts z).take k) ne4 (by rw [aH, l4]; bv_omega) (by rw [aH, l4]; bv_omega) (fun t ht => (m4 t ht).asc)
  have J := jOk (sep := ")(") (ts := (pts z).drop k ++ (pts z).take k) (by decide) (fun t ht => by have := (m4 t ht).len; bv_omega) (by bv_omega)
  have LJ := W.len
  rw [Str.length_append, Str.length_append] at LJ
  refine ⟨_, ?_, W.up (by bv_omega) (by bv_omega)⟩
  simp -implicitDefEqProofs only [(evA), E8, d8, mA, d800, m21, sg, wO (h.toTx.mono (by bv_omega)), wN (h.toTx.mono (by bv_omega)), yZ, zE, List.length_map, mW, lenz, eqk 4 0 (v := false) (by decide), eqk 4 1 (v := false) (by decide), eqk 4 2 (v := false) (by decide), eqk 4 3 (v := false) (by decide), eqk 4 4 (v := true) (by decide), eqk 4 5 (v := false) (by decide), eqk 4 6 (v := false) (by decide), eqk 4 7 (v := false) (by decide), C1, C2, C3, J, cS (a := "(") (b := Str.join ")(" ((pts z).drop k ++ (pts z).take k)) (by have : ("(" : Str).length = 1 := rfl; bv_omega), cS (a := "(" ++ Str.join ")(" ((pts z).drop k ++ (pts z).take k)) (b := ")") (by rw [Str.length_append]; have : ("(" : Str).length = 1 := rfl; have : (")" : Str).length = 1 := rfl; bv_omega)]
 ·
  have E8 : modO (c : Int) 8 = some 5 := by rw [m8, hw]; rfl
  have l5 : ("0" ++ p).length = 1 + p.length := by rw [Str.length_append]; rfl
  have c5 : cs ("0" ++ p) = cs p := by rw [wJ, wK.2.2.2.2.2]; bv_omega
  have chp : ∀ c ∈ tl ("0" ++ p), c < 128 := fun c hc => by
   rw [zH, t0] at hc
   rcases List.mem_append.mp hc with hc | hc
   ·have := List.mem_singleton.mp hc
    bv_omega
   ·exact tp.asc c hc
  have S2 := setS (ts := pts z) (v := "0" ++ p) hk
  have C5 := cS (a := "0") (b := p) (by have := tp.len; have : ("0" : Str).length = 1 := rfl; bv_omega)
  have W := kT (dl := 1) (dc := 0) h (ts := (pts z).set k ("0" ++ p)) (zP4 hk) (by rw [List.map_set, l5, List.length_set]; have := qJ (x := 1 + p.length) (gm (·.length)); bv_omega) (by rw [List.map_set, c5, List.length_set]; have := qJ (x := cs p) (gm cs); bv_omega) (aL h.toTx chp)
  have J := jOk (sep := ")(") (ts := (pts z).set k ("0" ++ p)) (by decide) (aU h.toTx (by bv_omega) (by rw [l5]; have := tp.len; bv_omega)) (by rw [List.length_set]; bv_omega)
  have LJ := W.len
  rw [Str.length_append, Str.length_append] at LJ
  refine ⟨_, ?_, W.up (by bv_omega) (by bv_omega)⟩
  simp -implicitDefEqProofs only [(evA), E8, d8, mA, d800, m21, sg, wO (h.toTx.mono (by bv_omega)), wN (h.toTx.mono (by bv_omega)), yZ, zE, List.length_map, mW, lenz, eqk 5 0 (v := false) (by decide), eqk 5 1 (v := false) (by decide), eqk 5 2 (v := false) (by decide), eqk 5 3 (v := false) (by decide), eqk 5 4 (v := false) (by decide), eqk 5 5 (v := true) (by decide), eqk 5 6 (v := false) (by decide), eqk 5 7 (v := false) (by decide), atp, C5, S2, J, cS (a := "(") (b := Str.join ")(" ((pts z).set k ("0" ++ p))) (by have : ("(" : Str).length = 1 := rfl; bv_omega), cS (a := "(" ++ Str.join ")(" ((pts z).set k ("0" ++ p))) (b := ")") (by rw [Str.length_append]; have : ("(" : Str).length = 1 := rfl; have : (")" : Str).length = 1 := rfl; bv_omega)]
 ·
  have E8 : modO (c : Int) 8 = some 6 := by rw [m8, hw]; rfl
  have l6 : (p ++ " " ++ numT m).length = p.length + 1 + (numT m).length := by rw [Str.length_append, Str.length_append]; rfl
  have c6 : cs (p ++ " " ++ numT m) = cs p + 1 := by rw [wJ, wJ, wK.2.1, nm.2.1]
  have chp : ∀ c ∈ tl (p ++ " " ++ numT m), c < 128 := fun c hc => by
   rw [zH, zH] at hc
   rcases List.mem_append.mp hc with hc | hc
   ·rcases List.mem_append.mp hc with hc | hc
    ·exact tp.asc c hc
    ·have t : tl " " = [32] := by decide +kernel
     rw [t] at hc
     have := List.mem_singleton.mp hc
     bv_omega
   ·exact nm.2.2 c hc
  have S2 := setS (ts := pts z) (v := p ++ " " ++ numT m) hk
  have C5 := cS (a := p) (b := " ") (by have := tp.len; have : (" " : Str).length = 1 := rfl; bv_omega)
  have C6 := cS (a := p ++ " ") (b := numT m) (by rw [Str.length_append]; have := tp.len; have : (" " : Str).length = 1 := rfl; have := nm.1; bv_omega)
  have W := kT (dl := 3) (dc := 1) h (ts := (pts z).set k (p ++ " " ++ numT m)) (zP4 hk) (by rw [List.map_set, l6, List.length_set]; have := qJ (x := p.length + 1 + (numT m).length) (gm (·.length)); have := nm.1; bv_omega) (by rw [List.map_set, c6, List.length_set]; have := qJ (x := cs p + 1) (gm cs); bv_omega) (aL h.toTx chp)
  have J := jOk (sep := ")(") (ts := (pts z).set k (p ++ " " ++ numT m)) (by decide) (aU h.toTx (by bv_omega) (by rw [l6]; have := tp.len; have := nm.1; bv_omega)) (by rw [List.length_set]; bv_omega)
  have LJ := W.len
  rw [Str.length_append, Str.length_append] at LJ
  refine ⟨_, ?_, W.up (by bv_omega) (by bv_omega)⟩
  simp -implicitDefEqProofs only [(evA), E8, d8, mA, d800, m21, sg, wO (h.toTx.mono (by bv_omega)), wN (h.toTx.mono (by bv_omega)), yZ, zE, List.length_map, mW, lenz, eqk 6 0 (v := false) (by decide), eqk 6 1 (v := false) (by decide), eqk 6 2 (v := false) (by decide), eqk 6 3 (v := false) (by decide), eqk 6 4 (v := false) (by decide), eqk 6 5 (v := false) (by decide), eqk 6 6 (v := true) (by decide), eqk 6 7 (v := false) (by decide), atp, m14, so, C5, C6, S2, J, cS (a := "(") (b := Str.join ")(" ((pts z).set k (p ++ " " ++ numT m))) (by have : ("(" : Str).length = 1 := rfl; bv_omega), cS (a := "(" ++ Str.join ")(" ((pts z).set k (p ++ " " ++ numT m))) (b := ")") (by rw [Str.length_append]; have : ("(" : Str).length = 1 := rfl; have : (")" : Str).length = 1 := rfl; bv_omega)]
 ·
  have E8 : modO (c : Int) 8 = some 7 := by rw [m8, hw]; rfl
  have A7 : appD ((pts z).map PyData.str) [.str (numT m)] = some ((pts z ++ [numT m]).map PyData.str) := by
   rw [uC (by rw [List.length_map]; bv_omega), List.map_append]
   rfl
  have m7 : ∀ t ∈ pts z ++ [numT m], t.length <= 1000 /\ ∀ c ∈ tl t, c < 128 := fun t ht => by
   rcases List.mem_append.mp ht with ht | ht
   ·have := uY h.toTx ht
    exact ⟨by have := this.len; bv_omega, this.asc⟩
   ·rw [List.mem_singleton.mp ht]
    exact ⟨by have := nm.1; bv_omega, nm.2.2⟩
  have W := kT (dl := 4) (dc := 1) h (ts := pts z ++ [numT m]) (by simp) (by rw [List.map_append, List.sum_append, List.length_append]; have : ([numT m].map (·.length)).sum = (numT m).length + 0 := rfl; have : [numT m].length = 1 := rfl; have := nm.1; bv_omega) (by rw [List.map_append, List.sum_append, List.length_append]; have : ([numT m].map cs).sum = cs (numT m) + 0 := rfl; have : [numT m].length = 1 := rfl; have := nm.2.1; bv_omega) (fun t ht => (m7 t ht).2)
  have J := jOk (sep := ")(") (ts := pts z ++ [numT m]) (by decide) (fun t ht => (m7 t ht).1) (by rw [List.length_append]; have : [numT m].length = 1 := rfl; bv_omega)
  have LJ := W.len
  rw [Str.length_append, Str.length_append] at LJ
  refine ⟨_, ?_, W.up (by bv_omega) (by bv_omega)⟩
  simp -implicitDefEqProofs only [(evA), E8, d8, mA, d800, m21, sg, wO (h.toTx.mono (by bv_omega)), wN (h.toTx.mono (by bv_omega)), yZ, zE, List.length_map, mW, lenz, eqk 7 0 (v := false) (by decide), eqk 7 1 (v := false) (by decide), eqk 7 2 (v := false) (by decide), eqk 7 3 (v := false) (by decide), eqk 7 4 (v := false) (by decide), eqk 7 5 (v := false) (by decide), eqk 7 6 (v := false) (by decide), eqk 7 7 (v := true) (by decide), m14, so, A7, J, cS (a := "(") (b := Str.join ")(" (pts z ++ [numT m])) (by have : ("(" : Str).length = 1 := rfl; bv_omega), cS (a := "(" ++ Str.join ")(" (pts z ++ [numT m])) (b := ")") (by rw [Str.length_append]; have : ("(" : Str).length = 1 := rfl; have : (")" : Str).length = 1 := rfl; bv_omega)]
def odd1 : List Str := ["", "()", "(", ")", "0", "(0", "0)", "( 0)", "(0 )", "(0)(", "(0))", "((0)", "(1)", "(0 0)"]
def odd2 : List Str := ["(-0)", "(0)\n", "(0)(1) ", " (0)", "(0) (1)", "(0,1)", "(00)", "(+0)", "(1 0)", "(1)(0)"]
def odd3 : List Str := ["(0 1)(1 0)", "(" ++ Txt.mul "1" 90 ++ ")"]
def tkB (z : Str) : Bool := decide (z.length <= 100) && ((tl z).all fun c => decide (c < 128)) && decide (cs z <= 59)
theorem yC8 {z : Str} (h : tkB z = true) : Tk 100 59 z := by
 unfold tkB at h
 rw [Bool.and_eq_true, Bool.and_eq_true, decide_eq_true_iff, decide_eq_true_iff, List.all_eq_true] at h
 exact ⟨⟨h.1.1, fun c hc => of_decide_eq_true (h.1.2 c hc)⟩, h.2⟩
theorem yE9 : ∀ z ∈ odd1 ++ odd2 ++ odd3, tkB z = true := by decide +kernel
theorem law_true (ns : List Int) (h : ns.length <= 63) : zH6 [.list (ns.map PyData.int)] = .ok (.bool true) := by
 obtain ⟨n, h1, h2, en⟩ : ∃ n : Nat, 1 <= n /\ n <= 12 /\ 1 + ns.getD 0 0 % 12 = (n : Int) := ⟨(1 + ns.getD 0 0 % 12).toNat, by bv_omega, by bv_omega, by bv_omega⟩
 obtain ⟨c, ec⟩ := yQ3 ns
 have o := bF c n
 have eo := zE3 c n (show n <= 1000 by bv_omega)
 generalize (lawOrd c n).1 = xs at o eo
 have et := yW9 o h1 (show n <= 60 by bv_omega)
 have tz := (xZ1 o h1 (show n <= 60 by bv_omega)).up (show 4 * n <= 48 by bv_omega) (show n <= 12 by bv_omega)
 generalize ordT n xs = z at et tz
 have ca : vP [lI ns, .int 0] = .ok (.int (ns.getD 0 0)) := zS5 ns 0
 have m12 : modO (ns.getD 0 0) 12 = some (ns.getD 0 0 % 12) := if_pos (by decide)
 have rz := qK (tz.up (by decide) (by decide))
 have cu : cutD (ns.map PyData.int) none (some 30) = (ns.take 30).map PyData.int := by
  rw [jU, show (30 : Int) = ((30 : Nat) : Int) from rfl, zS6]
 have k1 : mkL [PyData.str "", PyData.str "()", PyData.str "(", PyData.str ")", PyData.str "0", PyData.str "(0", PyData.str "0)", PyData.str "( 0)", PyData.str "(0 )", PyData.str "(0)(", PyData.str "(0))", PyData.str "((0)", PyData.str "(1)", PyData.str "(0 0)"] = some (.list (odd1.map PyData.str)) := qQ (ds := odd1.map PyData.str) (by decide)
 have k2 : mkL [PyData.str "(-0)", PyData.str "(0)\n", PyData.str "(0)(1) ", PyData.str " (0)", PyData.str "(0) (1)", PyData.str "(0,1)", PyData.str "(00)", PyData.str "(+0)", PyData.str "(1 0)", PyData.str "(1)(0)"] = some (.list (odd2.map PyData.str)) := qQ (ds := odd2.map PyData.str) (by decide)
 have k3 : mkL [PyData.str "(0 1)(1 0)", PyData.str ("(" ++ Txt.mul "1" 90 ++ ")")] = some (.list (odd3.map PyData.str)) := qQ (ds := odd3.map PyData.str) (by decide)
 have rp : repSD (.str "1") (.int 90) = some (.str (Txt.mul "1" 90)) := by
  unfold repSD
  exact if_pos (by decide)
 have l9 : (Txt.mul "1" 90).length = 90 := by decide +kernel
 have c1 := cS (a := "(") (b := Txt.mul "1" 90) (by rw [l9]; decide)
 have c2 := cS (a := "(" ++ Txt.mul "1" 90) (b := ")") (by rw [Str.length_append, l9]; decide)
 have g1 : catL (.list (odd1.map PyData.str)) (.list (odd2.map PyData.str)) = some (.list ((odd1 ++ odd2).map PyData.str)) := by
  unfold catL
  simp only
  rw [if_pos (by decide), List.map_append]
 have g2 : catL (.list ((odd1 ++ odd2).map PyData.str)) (.list (odd3.map PyData.str)) = some (.list ((odd1 ++ odd2 ++ odd3).map PyData.str)) := by
  unfold catL
  simp only
  rw [if_pos (by decide), <- List.map_append]
 show (zE5 [some (lI ns), none, none, none, none, none]).bind (fin false) = _
 unfold zE5
 simp -implicitDefEqProofs only [(evA), ca, m12, en, ec, eo, et, rz, cu]
 refine dZ (fun _ ρ => ∃ x y, ρ = [some (lI ns), some (.int (n : Int)), some (.str z), x, y, none]) ⟨none, none, rfl⟩ ?_ ?_
 ·rintro i d ρ hd ⟨x, y, rfl⟩
  rw [List.getElem?_map] at hd
  obtain ⟨v, _, rfl⟩ := Option.map_eq_some_iff.mp hd
  have av : absD [.int v] = some (.int ((v.natAbs : Nat) : Int)) := by
   have q : (if v < 0 then -v else v) = ((v.natAbs : Nat) : Int) := by split <;> bv_omega
   show some (PyData.int (if v < 0 then -v else v)) = _
   rw [q]
  have d12 : fdivO ((v.natAbs : Nat) : Int) 12 = some ((v.natAbs / 12 : Nat) : Int) := divN v.natAbs 12 (by decide) (by decide)
  have d7 : fdivO ((v.natAbs : Nat) : Int) 7 = some ((v.natAbs / 7 : Nat) : Int) := divN v.natAbs 7 (by decide) (by decide)
  obtain ⟨z1, e1', t1'⟩ := fP tz (by decide) (v.natAbs / 12)
  obtain ⟨z2, e2', t2'⟩ := fP t1' (by decide) (v.natAbs / 7 + 3)
  have r1 := qK (t1'.up (by decide) (by decide))
  have r2 := qK (t2'.up (by decide) (by decide))
  have lb := yH
  have l1 : lenTD [.str z1] = some (.int (z1.length : Int)) := if_pos (by have := t1'.len; bv_omega)
  have e2'' : wI [.str z1, .int (((v.natAbs / 7 : Nat) : Int) + 3)] = .ok (.str z2) := e2'
  refine ⟨_, [some (lI ns), some (.int (n : Int)), some (.str z), some (.int v), some (.str z1), none], rfl, ?_, some (.int v), some (.str z1), rfl⟩
  by_cases q : 1 < z1.length
  ·have dq : decide ((1 : Int) < (z1.length : Int)) = true := decide_eq_true (by bv_omega)
   simp -implicitDefEqProofs only [(evA), av, d12, e1', r1, l1, dq, d7, e2'', r2]
  ·have dq : decide ((1 : Int) < (z1.length : Int)) = false := decide_eq_false (by bv_omega)
   simp -implicitDefEqProofs only [(evA), av, d12, e1', r1, l1, dq]
 ·rintro ρ ⟨x, y, rfl⟩
  have cc : eComp (iS (eV 5)) tYes (eF xL (aC (eV 0) aN)) [] [some (lI ns), some (.int (n : Int)), some (.str z), x, y, some (.list ((odd1 ++ odd2 ++ odd3).map PyData.str))] = .ok (.list ((odd1 ++ odd2 ++ odd3).map fun _ => PyData.bool true)) := by
   refine wB PyData.str (fun _ => PyData.bool true) (odd1 ++ odd2 ++ odd3) (by simp -implicitDefEqProofs only [(evA)]) (by decide) fun w hw => ?_
   show eF xL (aC (eV 0) aN) [some (.str w)] = _
   simp -implicitDefEqProofs only [(evA), qK (yC8 (yE9 w hw))]
  have ad := zC8 (odd1 ++ odd2 ++ odd3) (fun _ => true) fun _ _ => rfl
  simp -implicitDefEqProofs only [(evA), k1, k2, k3, g1, g2, rp, c1, c2, cc, ad]
end K49
open PySem PySem.W PyProof.Rows
theorem K49.big_mk {K : KFr} {a_BadBox a_BadOrder a_BadPlan a_BadText a_BoxError a_NoNumber a_TooMany : PySem.Addr} {N0 f0 : PySem.Addr} {nm0 q0 : PySem.Str} {bs0 sub0 : List PySem.Value} {hd0 ab0 : Bool} {sn0 : List PySem.Str} {col0 : Option Bool} {dd0 od0 an0 : Option PySem.Addr} {k0 k1 k2 k3 k5 : Option PySem.Value} {cd0 : PySem.ClassData} {oc0 kV0 doc0 pm0 cdv0 ct0 : PySem.Value} {osl0 : Array (Option PySem.Value)} (n_BadBox : PySem.W.nsIn K PySem.mainGlobals "BadBox" = some (some (.ref a_BadBox))) (n_BadOrder : PySem.W.nsIn K PySem.mainGlobals "BadOrder" = some (some (.ref a_BadOrder))) (n_BadPlan : PySem.W.nsIn K PySem.mainGlobals "BadPlan" = some (some (.ref a_BadPlan))) (n_BadText : PySem.W.nsIn K PySem.mainGlobals "BadText" = some (some (.ref a_BadText))) (n_BoxError : PySem.W.nsIn K PySem.mainGlobals "BoxError" = some (some (.ref a_BoxError))) (n_NoNumber : PySem.W.nsIn K PySem.mainGlobals "NoNumber" = some (some (.ref a_NoNumber))) (n_TooMany : PySem.W.nsIn K PySem.mainGlobals "TooMany" = some (some (.ref a_TooMany))) (o_BadOrder : PySem.W.excIn K a_BadOrder L2.L3.bmV "ValueError.__new__" = true) (g1_BadOrder : PySem.W.findIn K (.ref a_BadOrder) "__getattribute__" = some (some (.builtin "BaseException.__getattribute__"))) (g2_BadOrder : PySem.W.findIn K (.ref a_BadOrder) "__getattr__" = some none) (g3_BadOrder : PySem.W.findIn K (.ref a_BadOrder) "__class__" = some (some (.builtin "object.__class__"))) (g4_BadOrder : PySem.W.kitOne K (.ref a_BadOrder) (.type "BaseException") = some true) (g5_BadOrder : PySem.W.kitOne K (.ref a_BadOrder) (.type "object") = some true) (g6_BadOrder : (PySem.W.clsIn K a_BadOrder).isSome = true) (g1_BadText : PySem.W.findIn K (.ref a_BadText) "__getattribute__" = some (some (.builtin "BaseException.__getattribute__"))) (g2_BadText : PySem.W.findIn K (.ref a_BadText) "__getattr__" = some none) (g3_BadText : PySem.W.findIn K (.ref a_BadText) "__class__" = some (some (.builtin "object.__class__"))) (g4_BadText : PySem.W.kitOne K (.ref a_BadText) (.type "BaseException") = some true) (g5_BadText : PySem.W.kitOne K (.ref a_BadText) (.type "object") = some true) (g6_BadText : (PySem.W.clsIn K a_BadText).isSome = true) (z_BadBox : PySem.W.kitOne K (.type "NoneType") (.ref a_BadBox) = some false) (t_BadOrder_BadBox : PySem.W.kitOne K (.ref a_BadOrder) (.ref a_BadBox) = some false) (t_BadText_BadBox : PySem.W.kitOne K (.ref a_BadText) (.ref a_BadBox) = some false) (z_BadOrder : PySem.W.kitOne K (.type "NoneType") (.ref a_BadOrder) = some false) (t_BadOrder_BadOrder : PySem.W.kitOne K (.ref a_BadOrder) (.ref a_BadOrder) = some true) (t_BadText_BadOrder : PySem.W.kitOne K (.ref a_BadText) (.ref a_BadOrder) = some false) (z_BadPlan : PySem.W.kitOne K (.type "NoneType") (.ref a_BadPlan) = some false) (t_BadOrder_BadPlan : PySem.W.kitOne K (.ref a_BadOrder) (.ref a_BadPlan) = some false) (t_BadText_BadPlan : PySem.W.kitOne K (.ref a_BadText) (.ref a_BadPlan) = some false) (z_BadText : PySem.W.kitOne K (.type "NoneType") (.ref a_BadText) = some false) (t_BadOrder_BadText : PySem.W.kitOne K (.ref a_BadOrder) (.ref a_BadText) = some false) (t_BadText_BadText : PySem.W.kitOne K (.ref a_BadText) (.ref a_BadText) = some true) (z_NoNumber : PySem.W.kitOne K (.type "NoneType") (.ref a_NoNumber) = some false) (t_BadOrder_NoNumber : PySem.W.kitOne K (.ref a_BadOrder) (.ref a_NoNumber) = some false) (t_BadText_NoNumber : PySem.W.kitOne K (.ref a_BadText) (.ref a_NoNumber) = some false) (z_TooMany : PySem.W.kitOne K (.type "NoneType") (.ref a_TooMany) = some false) (t_BadOrder_TooMany : PySem.W.kitOne K (.ref a_BadOrder) (.ref a_TooMany) = some false) (t_BadText_TooMany : PySem.W.kitOne K (.ref a_BadText) (.ref a_TooMany) = some false) (z_ValueError : PySem.W.kitOne K (.type "NoneType") (.type "ValueError") = some false) (t_BadOrder_ValueError : PySem.W.kitOne K (.ref a_BadOrder) (.type "ValueError") = some true) (t_BadText_ValueError : PySem.W.kitOne K (.ref a_BadText) (.type "ValueError") = some true) (b_BadOrder : PySem.W.kitOne K (.ref a_BadOrder) (.type "BaseException") = some true) (m_BadOrder : PySem.W.typeIn K (.ref a_BadOrder) = some (.type "type")) (s_BadOrder : PySem.W.subIn K (.ref a_BadOrder) (.ref a_BadOrder) = some true) (b_BoxError : PySem.W.kitOne K (.ref a_BoxError) (.type "BaseException") = some true) (c_BadOrder_BoxError : PySem.W.kitOne K (.ref a_BadOrder) (.ref a_BoxError) = some true) (d_BadOrder_BoxError : (PySem.Value.ref a_BadOrder == PySem.Value.ref a_BoxError) = false) (c_BadText_BoxError : PySem.W.kitOne K (.ref a_BadText) (.ref a_BoxError) = some true) (d_BadText_BoxError : (PySem.Value.ref a_BadText == PySem.Value.ref a_BoxError) = false) (bl : K.lookup a_BadText = some (PySem.excClassObj nm0 q0 a_BadText N0 bs0 (.ref a_BoxError :: L2.L3.bmV) hd0 sn0 sub0 ab0 col0 dd0 k0 k1 k2 k3 k5 "ValueError.__new__")) (bo : PySem.W.excIn K a_BoxError L2.L3.bmV "ValueError.__new__" = true) (bs : PySem.W.findIn K (.ref a_BadText) "__setattr__" = some (some (.builtin "object.__setattr__"))) (bc : PySem.W.clsIn K a_BadText = some cd0) (bu : (L2.L3.underV cd0.mro && cd0.hasDict) = true) (br : PySem.W.findIn K (.ref a_BadText) "row" = some none) (bi : PySem.W.findIn K (.ref a_BadText) "__init__" = some (some (.ref f0))) (bf : PySem.W.isFn K (.ref f0) = true) (bg : K.lookup f0 = some ⟨oc0, od0, .func (PySem.W.fnOf "__init__" "BadText.__init__" (L2.defArgs K49.vG) (L2.defBody K49.vG) (L2.zT K49.vG) .none kV0 doc0 pm0 an0 cdv0 ct0), osl0⟩) (bh : PySem.W.codeIn K cdv0 "BadText.__init__" = true) (bk : PySem.W.keepIn K (.ref f0) = true) (bb : ∀ (kV doc pm : PySem.Value) (an : Option PySem.Addr) (cdv ct : PySem.Value) (us : List PySem.Value), us.length = 2 -> PySem.bindArgs (PySem.W.fnOf "__init__" "BadText.__init__" (L2.defArgs K49.vG) (L2.defBody K49.vG) (L2.zT K49.vG) .none kV doc pm an cdv ct) ⟨us, []⟩ = pure ((["self", "row"] : List PySem.Str).zip us)) (bt_kp : PySem.W.keepIn K (.ref a_BadText) = true) (bb1 : PySem.W.specialIn K (.ref a_BoxError) "__getattribute__" = some (some (.builtin "type.__getattribute__"))) (bb2 : PySem.W.readsIn K a_BoxError (.type "type") = true) (bb3 : PySem.W.findCls K (.ref a_BoxError) (.type "type") "__init__" = some (.val (.builtin "ValueError.__init__"))) (bn_BadOrder : (PySem.Value.ref a_BadOrder == PySem.Value.ref a_BadText) = false) : ∃ a_BadBox a_BadOrder a_BadPlan a_BadText a_BoxError a_NoNumber a_TooMany : PySem.Addr, (PySem.W.nsIn K PySem.mainGlobals "BadBox" = some (some (.ref a_BadBox))) /\ (PySem.W.nsIn K PySem.mainGlobals "BadOrder" = some (some (.ref a_BadOrder))) /\ (PySem.W.nsIn K PySem.mainGlobals "BadPlan" = some (some (.ref a_BadPlan))) /\ (PySem.W.nsIn K PySem.mainGlobals "BadText" = some (some (.ref a_BadText))) /\ (PySem.W.nsIn K PySem.mainGlobals "BoxError" = some (some (.ref a_BoxError))) /\ (PySem.W.nsIn K PySem.mainGlobals "NoNumber" = some (some (.ref a_NoNumber))) /\ (PySem.W.nsIn K PySem.mainGlobals "TooMany" = some (some (.ref a_TooMany))) /\ (PySem.W.excIn K a_BadOrder L2.L3.bmV "ValueError.__new__" = true) /\ (PySem.W.findIn K (.ref a_BadOrder) "__getattribute__" = some (some (.builtin "BaseException.__getattribute__"))) /\ (PySem.W.findIn K (.ref a_BadOrder) "__getattr__" = some none) /\ (PySem.W.findIn K (.ref a_BadOrder) "__class__" = some (some (.builtin "object.__class__"))) /\ (PySem.W.kitOne K (.ref a_BadOrder) (.type "BaseException") = some true) /\ (PySem.W.kitOne K (.ref a_BadOrder) (.type "object") = some true) /\ ((PySem.W.clsIn K a_BadOrder).isSome = true) /\ (PySem.W.findIn K (.ref a_BadText) "__getattribute__" = some (some (.builtin "BaseException.__getattribute__"))) /\ (PySem.W.findIn K (.ref a_BadText) "__getattr__" = some none) /\ (PySem.W.findIn K (.ref a_BadText) "__class__" = some (some (.builtin "object.__class__"))) /\ (PySem.W.kitOne K (.ref a_BadText) (.type "BaseException") = some true) /\ (PySem.W.kitOne K (.ref a_BadText) (.type "object") = some true) /\ ((PySem.W.clsIn K a_BadText).isSome = true) /\ (PySem.W.kitOne K (.type "NoneType") (.ref a_BadBox) = some false) /\ (PySem.W.kitOne K (.ref a_BadOrder) (.ref a_BadBox) = some false) /\ (PySem.W.kitOne K (.ref a_BadText) (.ref a_BadBox) = some false) /\ (PySem.W.kitOne K (.type "NoneType") (.ref a_BadOrder) = some false) /\ (PySem.W.kitOne K (.ref a_BadOrder) (.ref a_BadOrder) = some true) /\ (PySem.W.kitOne K (.ref a_BadText) (.ref a_BadOrder) = some false) /\ (PySem.W.kitOne K (.type "NoneType") (.ref a_BadPlan) = some false) /\ (PySem.W.kitOne K (.ref a_BadOrder) (.ref a_BadPlan) = some false) /\ (PySem.W.kitOne K (.ref a_BadText) (.ref a_BadPlan) = some false) /\ (PySem.W.kitOne K (.type "NoneType") (.ref a_BadText) = some false) /\ (PySem.W.kitOne K (.ref a_BadOrder) (.ref a_BadText) = some false) /\ (PySem.W.kitOne K (.ref a_BadText) (.ref a_BadText) = some true) /\ (PySem.W.kitOne K (.type "NoneType") (.ref a_NoNumber) = some false) /\ (PySem.W.kitOne K (.ref a_BadOrder) (.ref a_NoNumber) = some false) /\ (PySem.W.kitOne K (.ref a_BadText) (.ref a_NoNumber) = some false) /\ (PySem.W.kitOne K (.type "NoneType") (.ref a_TooMany) = some false) /\ (PySem.W.kitOne K (.ref a_BadOrder) (.ref a_TooMany) = some false) /\ (PySem.W.kitOne K (.ref a_BadText) (.ref a_TooMany) = some false) /\ (PySem.W.kitOne K (.type "NoneType") (.type "ValueError") = some false) /\ (PySem.W.kitOne K (.ref a_BadOrder) (.type "ValueError") = some true) /\ (PySem.W.kitOne K (.ref a_BadText) (.type "ValueError") = some true) /\ (PySem.W.kitOne K (.ref a_BadOrder) (.type "BaseException") = some true) /\ (PySem.W.typeIn K (.ref a_BadOrder) = some (.type "type")) /\ (PySem.W.subIn K (.ref a_BadOrder) (.ref a_BadOrder) = some true) /\ (PySem.W.kitOne K (.ref a_BoxError) (.type "BaseException") = some true) /\ (PySem.W.kitOne K (.ref a_BadOrder) (.ref a_BoxError) = some true) /\ ((PySem.Value.ref a_BadOrder == PySem.Value.ref a_BoxError) = false) /\ (PySem.W.kitOne K (.ref a_BadText) (.ref a_BoxError) = some true) /\ ((PySem.Value.ref a_BadText == PySem.Value.ref a_BoxError) = false) /\ (PySem.W.keepIn K (.ref a_BadText) = true) /\ (PySem.W.specialIn K (.ref a_BoxError) "__getattribute__" = some (some (.builtin "type.__getattribute__"))) /\ (PySem.W.readsIn K a_BoxError (.type "type") = true) /\ (PySem.W.findCls K (.ref a_BoxError) (.type "type") "__init__" = some (.val (.builtin "ValueError.__init__"))) /\ ((PySem.Value.ref a_BadOrder == PySem.Value.ref a_BadText) = false) /\ (L2.L3.ExIn K a_BadText L2.L3.bmV "ValueError.__new__") /\ (L2.L3.RowCls K a_BadText) /\ (L2.L3.BtFi K a_BadText K49.vG) := ⟨a_BadBox, a_BadOrder, a_BadPlan, a_BadText, a_BoxError, a_NoNumber, a_TooMany, n_BadBox, n_BadOrder, n_BadPlan, n_BadText, n_BoxError, n_NoNumber, n_TooMany, o_BadOrder, g1_BadOrder, g2_BadOrder, g3_BadOrder, g4_BadOrder, g5_BadOrder, g6_BadOrder, g1_BadText, g2_BadText, g3_BadText, g4_BadText, g5_BadText, g6_BadText, z_BadBox, t_BadOrder_BadBox, t_BadText_BadBox, z_BadOrder, t_BadOrder_BadOrder, t_BadText_BadOrder, z_BadPlan, t_BadOrder_BadPlan, t_BadText_BadPlan, z_BadText, t_BadOrder_BadText, t_BadText_BadText, z_NoNumber, t_BadOrder_NoNumber, t_BadText_NoNumber, z_TooMany, t_BadOrder_TooMany, t_BadText_TooMany, z_ValueError, t_BadOrder_ValueError, t_BadText_ValueError, b_BadOrder, m_BadOrder, s_BadOrder, b_BoxError, c_BadOrder_BoxError, d_BadOrder_BoxError, c_BadText_BoxError, d_BadText_BoxError, bt_kp, bb1, bb2, bb3, bn_BadOrder, L2.L3.yM1 bl bo, L2.L3.zB9 bs bc bu br, L2.L3.yM9 bi bf bg bh bk bb⟩
set_option maxRecDepth 100000 in
set_option maxHeartbeats 0 in
theorem PySem.Challenge.cw_ownboxes_k49_texts_of_no_order_holds : PySem.Challenge.rw_ownboxes_k49_texts_of_no_order.Holds := by
 w_on; o_law; k_head; (case hw => w_witness2)
 k_fill
 refine L2.L3.yY5 (F := K49.zH6) (k := 8) (l := PySem.Challenge.rw_ownboxes_k49_texts_of_no_order) K49.law_true ⟨rfl, by decide, by decide⟩ rfl rfl (fun w h Y => PySem.W.kIn_of Y) (fun w => by rfl) ?F
 case F =>
  intro w mg fa h KX G hmg
  letI cn : L2.L3.CN := L2.L3.cnOf (L2.KOf KX)
  have D_is_order : ∃ f fd, L2.Has (L2.KOf KX) mg "is_order" K49.uV f fd ["names"] := by
   dsimp only [L2.KOf]
   refine' ⟨_, _, L2.yM KX G ?a ?l ?c ?k ?b⟩
   (case a => k_is); (case l => k_is); (case c => k_is); (case k => k_is)
   (case b => intro _ _ _ _ _ _; refine L2.L3.ls1 ?_; exact fun _ => rfl)
  have D_ring_from : ∃ f fd, L2.Has (L2.KOf KX) mg "ring_from" K49.vM f fd ["order", "box"] := by
   dsimp only [L2.KOf]
   refine' ⟨_, _, L2.yM KX G ?a ?l ?c ?k ?b⟩
   (case a => k_is); (case l => k_is); (case c => k_is); (case k => k_is)
   (case b => intro _ _ _ _ _ _; refine L2.L3.ls2 ?_; exact fun _ _ => rfl)
  have D_rings_of : ∃ f fd, L2.Has (L2.KOf KX) mg "rings_of" K49.uP f fd ["order"] := by
   dsimp only [L2.KOf]
   refine' ⟨_, _, L2.yM KX G ?a ?l ?c ?k ?b⟩
   (case a => k_is); (case l => k_is); (case c => k_is); (case k => k_is)
   (case b => intro _ _ _ _ _ _; refine L2.L3.ls1 ?_; exact fun _ => rfl)
  have D_order_by : ∃ f fd, L2.Has (L2.KOf KX) mg "order_by" K49.uS f fd ["rings"] := by
   dsimp only [L2.KOf]
   refine' ⟨_, _, L2.yM KX G ?a ?l ?c ?k ?b⟩
   (case a => k_is); (case l => k_is); (case c => k_is); (case k => k_is)
   (case b => intro _ _ _ _ _ _; refine L2.L3.ls1 ?_; exact fun _ => rfl)
  have D_numbers_text : ∃ f fd, L2.Has (L2.KOf KX) mg "numbers_text" K49.xT f fd ["numbers"] := by
   dsimp only [L2.KOf]
   refine' ⟨_, _, L2.yM KX G ?a ?l ?c ?k ?b⟩
   (case a => k_is); (case l => k_is); (case c => k_is); (case k => k_is)
   (case b => intro _ _ _ _ _ _; refine L2.L3.ls1 ?_; exact fun _ => rfl)
  have D_read_number : ∃ f fd, L2.Has (L2.KOf KX) mg "read_number" K49.wM f fd ["word", "row"] := by
   dsimp only [L2.KOf]
   refine' ⟨_, _, L2.yM KX G ?a ?l ?c ?k ?b⟩
   (case a => k_is); (case l => k_is); (case c => k_is); (case k => k_is)
   (case b => intro _ _ _ _ _ _; refine L2.L3.ls2 ?_; exact fun _ _ => rfl)
  have D_read_numbers : ∃ f fd, L2.Has (L2.KOf KX) mg "read_numbers" K49.xW f fd ["words", "row"] := by
   dsimp only [L2.KOf]
   refine' ⟨_, _, L2.yM KX G ?a ?l ?c ?k ?b⟩
   (case a => k_is); (case l => k_is); (case c => k_is); (case k => k_is)
   (case b => intro _ _ _ _ _ _; refine L2.L3.ls2 ?_; exact fun _ _ => rfl)
  have D_ring_text : ∃ f fd, L2.Has (L2.KOf KX) mg "ring_text" K49.vR f fd ["ring"] := by
   dsimp only [L2.KOf]
   refine' ⟨_, _, L2.yM KX G ?a ?l ?c ?k ?b⟩
   (case a => k_is); (case l => k_is); (case c => k_is); (case k => k_is)
   (case b => intro _ _ _ _ _ _; refine L2.L3.ls1 ?_; exact fun _ => rfl)
  have D_order_text : ∃ f fd, L2.Has (L2.KOf KX) mg "order_text" K49.xC f fd ["order"] := by
   dsimp only [L2.KOf]
   refine' ⟨_, _, L2.yM KX G ?a ?l ?c ?k ?b⟩
   (case a => k_is); (case l => k_is); (case c => k_is); (case k => k_is)
   (case b => intro _ _ _ _ _ _; refine L2.L3.ls1 ?_; exact fun _ => rfl)
  have D_read_order : ∃ f fd, L2.Has (L2.KOf KX) mg "read_order" K49.wY f fd ["text"] := by
   dsimp only [L2.KOf]
   refine' ⟨_, _, L2.yM KX G ?a ?l ?c ?k ?b⟩
   (case a => k_is); (case l => k_is); (case c => k_is); (case k => k_is)
   (case b => intro _ _ _ _ _ _; refine L2.L3.ls1 ?_; exact fun _ => rfl)
  have D_l_cell_at : ∃ f fd, L2.Has (L2.KOf KX) mg "_law_cell_at" K49.vN f fd ["script", "k"] := by
   dsimp only [L2.KOf]
   refine' ⟨_, _, L2.yM KX G ?a ?l ?c ?k ?b⟩
   (case a => k_is); (case l => k_is); (case c => k_is); (case k => k_is)
   (case b => intro _ _ _ _ _ _; refine L2.L3.ls2 ?_; exact fun _ _ => rfl)
  have D_l_whole : ∃ f fd, L2.Has (L2.KOf KX) mg "_law_whole" K49.qY f fd ["found"] := by
   dsimp only [L2.KOf]
   refine' ⟨_, _, L2.yM KX G ?a ?l ?c ?k ?b⟩
   (case a => k_is); (case l => k_is); (case c => k_is); (case k => k_is)
   (case b => intro _ _ _ _ _ _; refine L2.L3.ls1 ?_; exact fun _ => rfl)
  have D_l_order : ∃ f fd, L2.Has (L2.KOf KX) mg "_law_order" K49.qT f fd ["cell", "many"] := by
   dsimp only [L2.KOf]
   refine' ⟨_, _, L2.yM KX G ?a ?l ?c ?k ?b⟩
   (case a => k_is); (case l => k_is); (case c => k_is); (case k => k_is)
   (case b => intro _ _ _ _ _ _; refine L2.L3.ls2 ?_; exact fun _ _ => rfl)
  have D_l_all : ∃ f fd, L2.Has (L2.KOf KX) mg "_law_all" K49.kN f fd ["script"] := by
   dsimp only [L2.KOf]
   refine' ⟨_, _, L2.yM KX G ?a ?l ?c ?k ?b⟩
   (case a => k_is); (case l => k_is); (case c => k_is); (case k => k_is)
   (case b => intro _ _ _ _ _ _; refine L2.L3.ls1 ?_; exact fun _ => rfl)
  have D_l_rings : ∃ f fd, L2.Has (L2.KOf KX) mg "_law_rings" K49.qS f fd ["order"] := by
   dsimp only [L2.KOf]
   refine' ⟨_, _, L2.yM KX G ?a ?l ?c ?k ?b⟩
   (case a => k_is); (case l => k_is); (case c => k_is); (case k => k_is)
   (case b => intro _ _ _ _ _ _; refine L2.L3.ls1 ?_; exact fun _ => rfl)
  have D_l_rings_text : ∃ f fd, L2.Has (L2.KOf KX) mg "_law_rings_text" K49.xU f fd ["order"] := by
   dsimp only [L2.KOf]
   refine' ⟨_, _, L2.yM KX G ?a ?l ?c ?k ?b⟩
   (case a => k_is); (case l => k_is); (case c => k_is); (case k => k_is)
   (case b => intro _ _ _ _ _ _; refine L2.L3.ls1 ?_; exact fun _ => rfl)
  have D_l_number : ∃ f fd, L2.Has (L2.KOf KX) mg "_law_number" K49.vT f fd ["word"] := by
   dsimp only [L2.KOf]
   refine' ⟨_, _, L2.yM KX G ?a ?l ?c ?k ?b⟩
   (case a => k_is); (case l => k_is); (case c => k_is); (case k => k_is)
   (case b => intro _ _ _ _ _ _; refine L2.L3.ls1 ?_; exact fun _ => rfl)
  have D_l_read : ∃ f fd, L2.Has (L2.KOf KX) mg "_law_read" K49.uO f fd ["text"] := by
   dsimp only [L2.KOf]
   refine' ⟨_, _, L2.yM KX G ?a ?l ?c ?k ?b⟩
   (case a => k_is); (case l => k_is); (case c => k_is); (case k => k_is)
   (case b => intro _ _ _ _ _ _; refine L2.L3.ls1 ?_; exact fun _ => rfl)
  have D_l_changed : ∃ f fd, L2.Has (L2.KOf KX) mg "_law_changed" K49.vJ f fd ["text", "cell"] := by
   dsimp only [L2.KOf]
   refine' ⟨_, _, L2.yM KX G ?a ?l ?c ?k ?b⟩
   (case a => k_is); (case l => k_is); (case c => k_is); (case k => k_is)
   (case b => intro _ _ _ _ _ _; refine L2.L3.ls2 ?_; exact fun _ _ => rfl)
  have D_l_right : ∃ f fd, L2.Has (L2.KOf KX) mg "_law_right" K49.qW f fd ["text"] := by
   dsimp only [L2.KOf]
   refine' ⟨_, _, L2.yM KX G ?a ?l ?c ?k ?b⟩
   (case a => k_is); (case l => k_is); (case c => k_is); (case k => k_is)
   (case b => intro _ _ _ _ _ _; refine L2.L3.ls1 ?_; exact fun _ => rfl)
  have D_law : ∃ f fd, L2.Has (L2.KOf KX) mg "law" K49.fD f fd ["script"] /\ (∀ (s : Shared) (u : Value), BindsTo s fd ⟨[u], []⟩ [("script", u)]) := by
   dsimp only [L2.KOf]
   refine' ⟨_, _, L2.yM KX G ?a ?l ?c ?k ?b, ?d⟩
   (case a => k_is); (case l => k_is); (case c => k_is); (case k => k_is)
   (case b => intro _ _ _ _ _ _; refine L2.L3.ls1 ?_; exact fun _ => rfl)
   (case d => exact fun s u => .of_eq rfl)
  have BIG : ∃ a_BadBox a_BadOrder a_BadPlan a_BadText a_BoxError a_NoNumber a_TooMany : PySem.Addr, (PySem.W.nsIn (L2.KOf KX) PySem.mainGlobals "BadBox" = some (some (.ref a_BadBox))) /\ (PySem.W.nsIn (L2.KOf KX) PySem.mainGlobals "BadOrder" = some (some (.ref a_BadOrder))) /\ (PySem.W.nsIn (L2.KOf KX) PySem.mainGlobals "BadPlan" = some (some (.ref a_BadPlan))) /\ (PySem.W.nsIn (L2.KOf KX) PySem.mainGlobals "BadText" = some (some (.ref a_BadText))) /\ (PySem.W.nsIn (L2.KOf KX) PySem.mainGlobals "BoxError" = some (some (.ref a_BoxError))) /\ (PySem.W.nsIn (L2.KOf KX) PySem.mainGlobals "NoNumber" = some (some (.ref a_NoNumber))) /\ (PySem.W.nsIn (L2.KOf KX) PySem.mainGlobals "TooMany" = some (some (.ref a_TooMany))) /\ (PySem.W.excIn (L2.KOf KX) a_BadOrder L2.L3.bmV "ValueError.__new__" = true) /\ (PySem.W.findIn (L2.KOf KX) (.ref a_BadOrder) "__getattribute__" = some (some (.builtin "BaseException.__getattribute__"))) /\ (PySem.W.findIn (L2.KOf KX) (.ref a_BadOrder) "__getattr__" = some none) /\ (PySem.W.findIn (L2.KOf KX) (.ref a_BadOrder) "__class__" = some (some (.builtin "object.__class__"))) /\ (PySem.W.kitOne (L2.KOf KX) (.ref a_BadOrder) (.type "BaseException") = some true) /\ (PySem.W.kitOne (L2.KOf KX) (.ref a_BadOrder) (.type "object") = some true) /\ ((PySem.W.clsIn (L2.KOf KX) a_BadOrder).isSome = true) /\ (PySem.W.findIn (L2.KOf KX) (.ref a_BadText) "__getattribute__" = some (some (.builtin "BaseException.__getattribute__"))) /\ (PySem.W.findIn (L2.KOf KX) (.ref a_BadText) "__getattr__" = some none) /\ (PySem.W.findIn (L2.KOf KX) (.ref a_BadText) "__class__" = some (some (.builtin "object.__class__"))) /\ (PySem.W.kitOne (L2.KOf KX) (.ref a_BadText) (.type "BaseException") = some true) /\ (PySem.W.kitOne (L2.KOf KX) (.ref a_BadText) (.type "object") = some true) /\ ((PySem.W.clsIn (L2.KOf KX) a_BadText).isSome = true) /\ (PySem.W.kitOne (L2.KOf KX) (.type "NoneType") (.ref a_BadBox) = some false) /\ (PySem.W.kitOne (L2.KOf KX) (.ref a_BadOrder) (.ref a_BadBox) = some false) /\ (PySem.W.kitOne (L2.KOf KX) (.ref a_BadText) (.ref a_BadBox) = some false) /\ (PySem.W.kitOne (L2.KOf KX) (.type "NoneType") (.ref a_BadOrder) = some false) /\ (PySem.W.kitOne (L2.KOf KX) (.ref a_BadOrder) (.ref a_BadOrder) = some true) /\ (PySem.W.kitOne (L2.KOf KX) (.ref a_BadText) (.ref a_BadOrder) = some false) /\ (PySem.W.kitOne (L2.KOf KX) (.type "NoneType") (.ref a_BadPlan) = some false) /\ (PySem.W.kitOne (L2.KOf KX) (.ref a_BadOrder) (.ref a_BadPlan) = some false) /\ (PySem.W.kitOne (L2.KOf KX) (.ref a_BadText) (.ref a_BadPlan) = some false) /\ (PySem.W.kitOne (L2.KOf KX) (.type "NoneType") (.ref a_BadText) = some false) /\ (PySem.W.kitOne (L2.KOf KX) (.ref a_BadOrder) (.ref a_BadText) = some false) /\ (PySem.W.kitOne (L2.KOf KX) (.ref a_BadText) (.ref a_BadText) = some true) /\ (PySem.W.kitOne (L2.KOf KX) (.type "NoneType") (.ref a_NoNumber) = some false) /\ (PySem.W.kitOne (L2.KOf KX) (.ref a_BadOrder) (.ref a_NoNumber) = some false) /\ (PySem.W.kitOne (L2.KOf KX) (.ref a_BadText) (.ref a_NoNumber) = some false) /\ (PySem.W.kitOne (L2.KOf KX) (.type "NoneType") (.ref a_TooMany) = some false) /\ (PySem.W.kitOne (L2.KOf KX) (.ref a_BadOrder) (.ref a_TooMany) = some false) /\ (PySem.W.kitOne (L2.KOf KX) (.ref a_BadText) (.ref a_TooMany) = some false) /\ (PySem.W.kitOne (L2.KOf KX) (.type "NoneType") (.type "ValueError") = some false) /\ (PySem.W.kitOne (L2.KOf KX) (.ref a_BadOrder) (.type "ValueError") = some true) /\ (PySem.W.kitOne (L2.KOf KX) (.ref a_BadText) (.type "ValueError") = some true) /\ (PySem.W.kitOne (L2.KOf KX) (.ref a_BadOrder) (.type "BaseException") = some true) /\ (PySem.W.typeIn (L2.KOf KX) (.ref a_BadOrder) = some (.type "type")) /\ (PySem.W.subIn (L2.KOf KX) (.ref a_BadOrder) (.ref a_BadOrder) = some true) /\ (PySem.W.kitOne (L2.KOf KX) (.ref a_BoxError) (.type "BaseException") = some true) /\ (PySem.W.kitOne (L2.KOf KX) (.ref a_BadOrder) (.ref a_BoxError) = some true) /\ ((PySem.Value.ref a_BadOrder == PySem.Value.ref a_BoxError) = false) /\ (PySem.W.kitOne (L2.KOf KX) (.ref a_BadText) (.ref a_BoxError) = some true) /\ ((PySem.Value.ref a_BadText == PySem.Value.ref a_BoxError) = false) /\ (PySem.W.keepIn (L2.KOf KX) (.ref a_BadText) = true) /\ (PySem.W.specialIn (L2.KOf KX) (.ref a_BoxError) "__getattribute__" = some (some (.builtin "type.__getattribute__"))) /\ (PySem.W.readsIn (L2.KOf KX) a_BoxError (.type "type") = true) /\ (PySem.W.findCls (L2.KOf KX) (.ref a_BoxError) (.type "type") "__init__" = some (.val (.builtin "ValueError.__init__"))) /\ ((PySem.Value.ref a_BadOrder == PySem.Value.ref a_BadText) = false) /\ (L2.L3.ExIn (L2.KOf KX) a_BadText L2.L3.bmV "ValueError.__new__") /\ (L2.L3.RowCls (L2.KOf KX) a_BadText) /\ (L2.L3.BtFi (L2.KOf KX) a_BadText K49.vG) := by
   dsimp only [L2.KOf]
   refine' K49.big_mk ?q_n_BadBox ?q_n_BadOrder ?q_n_BadPlan ?q_n_BadText ?q_n_BoxError ?q_n_NoNumber ?q_n_TooMany ?q_o_BadOrder ?q_g1_BadOrder ?q_g2_BadOrder ?q_g3_BadOrder ?q_g4_BadOrder ?q_g5_BadOrder ?q_g6_BadOrder ?q_g1_BadText ?q_g2_BadText ?q_g3_BadText ?q_g4_BadText ?q_g5_BadText ?q_g6_BadText ?q_z_BadBox ?q_t_BadOrder_BadBox ?q_t_BadText_BadBox ?q_z_BadOrder ?q_t_BadOrder_BadOrder ?q_t_BadText_BadOrder ?q_z_BadPlan ?q_t_BadOrder_BadPlan ?q_t_BadText_BadPlan ?q_z_BadText ?q_t_BadOrder_BadText ?q_t_BadText_BadText ?q_z_NoNumber ?q_t_BadOrder_NoNumber ?q_t_BadText_NoNumber ?q_z_TooMany ?q_t_BadOrder_TooMany ?q_t_BadText_TooMany ?q_z_ValueError ?q_t_BadOrder_ValueError ?q_t_BadText_ValueError ?q_b_BadOrder ?q_m_BadOrder ?q_s_BadOrder ?q_b_BoxError ?q_c_BadOrder_BoxError ?q_d_BadOrder_BoxError ?q_c_BadText_BoxError ?q_d_BadText_BoxError ?q_bl ?q_bo ?q_bs ?q_bc ?q_bu ?q_br ?q_bi ?q_bf ?q_bg ?q_bh ?q_bk ?q_bb ?q_bt_kp ?q_bb1 ?q_bb2 ?q_bb3 ?q_bn_BadOrder
   (case q_n_BadBox => k_is)
   (case q_n_BadOrder => k_is)
   (case q_n_BadPlan => k_is)
   (case q_n_BadText => k_is)
   (case q_n_BoxError => k_is)
   (case q_n_NoNumber => k_is)
   (case q_n_TooMany => k_is)
   (case q_o_BadOrder => k_exc)
   (case q_g1_BadOrder => k_is)
   (case q_g2_BadOrder => k_is)
   (case q_g3_BadOrder => k_is)
   (case q_g4_BadOrder => kit_is)
   (case q_g5_BadOrder => kit_is)
   (case q_g6_BadOrder => first | k_is | rfl | decide +kernel)
   (case q_g1_BadText => k_is)
   (case q_g2_BadText => k_is)
   (case q_g3_BadText => k_is)
   (case q_g4_BadText => kit_is)
   (case q_g5_BadText => kit_is)
   (case q_g6_BadText => first | k_is | rfl | decide +kernel)
   (case q_z_BadBox => kit_is)
   (case q_t_BadOrder_BadBox => kit_is)
   (case q_t_BadText_BadBox => kit_is)
   (case q_z_BadOrder => kit_is)
   (case q_t_BadOrder_BadOrder => kit_is)
   (case q_t_BadText_BadOrder => kit_is)
   (case q_z_BadPlan => kit_is)
   (case q_t_BadOrder_BadPlan => kit_is)
   (case q_t_BadText_BadPlan => kit_is)
   (case q_z_BadText => kit_is)
   (case q_t_BadOrder_BadText => kit_is)
   (case q_t_BadText_BadText => kit_is)
   (case q_z_NoNumber => kit_is)
   (case q_t_BadOrder_NoNumber => kit_is)
   (case q_t_BadText_NoNumber => kit_is)
   (case q_z_TooMany => kit_is)
   (case q_t_BadOrder_TooMany => kit_is)
   (case q_t_BadText_TooMany => kit_is)
   (case q_z_ValueError => kit_is)
   (case q_t_BadOrder_ValueError => kit_is)
   (case q_t_BadText_ValueError => kit_is)
   (case q_b_BadOrder => kit_is)
   (case q_m_BadOrder => k_is)
   (case q_s_BadOrder => k_is)
   (case q_b_BoxError => kit_is)
   (case q_c_BadOrder_BoxError => kit_is)
   (case q_d_BadOrder_BoxError => decide)
   (case q_c_BadText_BoxError => kit_is)
   (case q_d_BadText_BoxError => decide)
   (case q_bl => k_is)
   (case q_bo => k_exc)
   (case q_bs => k_is)
   (case q_bc => k_is)
   (case q_bu => rfl)
   (case q_br => k_is)
   (case q_bi => k_is)
   (case q_bf => k_is)
   (case q_bg => k_is)
   (case q_bh => k_is)
   (case q_bk => k_is)
   (case q_bb => intro _ _ _ _ _ _; refine L2.L3.ls2 ?_; exact fun _ _ => rfl)
   (case q_bt_kp => k_is)
   (case q_bb1 => k_is)
   (case q_bb2 => k_is)
   (case q_bb3 => k_is)
   (case q_bn_BadOrder => decide)
  obtain ⟨a_BadBox, a_BadOrder, a_BadPlan, a_BadText, a_BoxError, a_NoNumber, a_TooMany, n_BadBox, n_BadOrder, n_BadPlan, n_BadText, n_BoxError, n_NoNumber, n_TooMany, o_BadOrder, g1_BadOrder, g2_BadOrder, g3_BadOrder, g4_BadOrder, g5_BadOrder, g6_BadOrder, g1_BadText, g2_BadText, g3_BadText, g4_BadText, g5_BadText, g6_BadText, z_BadBox, t_BadOrder_BadBox, t_BadText_BadBox, z_BadOrder, t_BadOrder_BadOrder, t_BadText_BadOrder, z_BadPlan, t_BadOrder_BadPlan, t_BadText_BadPlan, z_BadText, t_BadOrder_BadText, t_BadText_BadText, z_NoNumber, t_BadOrder_NoNumber, t_BadText_NoNumber, z_TooMany, t_BadOrder_TooMany, t_BadText_TooMany, z_ValueError, t_BadOrder_ValueError, t_BadText_ValueError, b_BadOrder, m_BadOrder, s_BadOrder, b_BoxError, c_BadOrder_BoxError, d_BadOrder_BoxError, c_BadText_BoxError, d_BadText_BoxError, bt_kp, bb1, bb2, bb3, bn_BadOrder, bt_ex, bt_rc, bt_fi⟩ := BIG
  have e_BadBox : L2.L3.CN.ad "BadBox" = a_BadBox := L2.L3.kC n_BadBox
  have e_BadOrder : L2.L3.CN.ad "BadOrder" = a_BadOrder := L2.L3.kC n_BadOrder
  have e_BadPlan : L2.L3.CN.ad "BadPlan" = a_BadPlan := L2.L3.kC n_BadPlan
  have e_BadText : L2.L3.CN.ad "BadText" = a_BadText := L2.L3.kC n_BadText
  have e_BoxError : L2.L3.CN.ad "BoxError" = a_BoxError := L2.L3.kC n_BoxError
  have e_NoNumber : L2.L3.CN.ad "NoNumber" = a_NoNumber := L2.L3.kC n_NoNumber
  have e_TooMany : L2.L3.CN.ad "TooMany" = a_TooMany := L2.L3.kC n_TooMany
  have e_BadText_1 : L2.L3.CN.ad "BadText@1" = a_BadText := (show L2.L3.CN.ad "BadText@1" = _ from L2.L3.yX1 (n := 1) (by decide)).trans e_BadText
  have k_BadOrder : PySem.ExK (L2.KOf KX) (L2.L3.CN.ad "BadOrder") := by rw [e_BadOrder]; exact ⟨g1_BadOrder, g2_BadOrder, g3_BadOrder, L2.L3.jZ g4_BadOrder, L2.L3.jZ g5_BadOrder, g6_BadOrder⟩
  have k_BadText : PySem.ExK (L2.KOf KX) (L2.L3.CN.ad "BadText") := by rw [e_BadText]; exact ⟨g1_BadText, g2_BadText, g3_BadText, L2.L3.jZ g4_BadText, L2.L3.jZ g5_BadText, g6_BadText⟩
  have k_BadText_1 : PySem.ExK (L2.KOf KX) (L2.L3.CN.ad "BadText@1") := by rw [e_BadText_1, <- e_BadText]; exact k_BadText
  have T : K49.Txt (L2.KOf KX) mg := by
   dsimp only [L2.KOf]
   refine' ⟨PySem.W.mg_none_of KX G ?z0, PySem.W.mg_none_of KX G ?z1, PySem.W.mg_none_of KX G ?z2, PySem.W.mg_none_of KX G ?z3, PySem.W.mg_none_of KX G ?z4, PySem.W.mg_none_of KX G ?z5, PySem.W.mg_none_of KX G ?z6, PySem.W.mg_none_of KX G ?z7, PySem.W.mg_none_of KX G ?z8, PySem.W.mg_none_of KX G ?z9, PySem.W.mg_none_of KX G ?z10, PySem.W.mg_none_of KX G ?z11, ⟨_, PySem.W.mg_of KX G ?y0, ?x0⟩, ⟨_, PySem.W.mg_of KX G ?y1, ?x1⟩, ⟨?k0_0, ?k0_1, ?k0_2, ?k0_3, ?k0_4, ?k0_5⟩, ⟨?k1_0, ?k1_1, ?k1_2, ?k1_3, ?k1_4, ?k1_5⟩, D_is_order, D_ring_from, D_rings_of, D_order_by, D_numbers_text, D_read_number, D_read_numbers, D_ring_text, D_order_text, D_read_order, D_l_cell_at, D_l_whole, D_l_order, D_l_all, D_l_rings, D_l_rings_text, D_l_number, D_l_read, D_l_changed, D_l_right, (let ⟨f, fd, h, _⟩ := D_law; ⟨f, fd, h⟩), ?xa0, ?xa1, ?xa2, ?xa3, ?xa4, ?xa5, ?xa6, ?xb0, ?xc0, ?xc1, ?xc2, ?xc3, ?xc4, ?xc5, ?xd0, ?xe0, ?xf0, ?xe1, ?xf1, ?pbt_ex, ?pbt_fi, ?pbt_kp, ?pbt_bi, ?pbt_rc, ?neBadOrder, fun n h => L2.L3.yX1 h, k_BadText⟩
   (case z0 => k_is)
   (case z1 => k_is)
   (case z2 => k_is)
   (case z3 => k_is)
   (case z4 => k_is)
   (case z5 => k_is)
   (case z6 => k_is)
   (case z7 => k_is)
   (case z8 => k_is)
   (case z9 => k_is)
   (case z10 => k_is)
   (case z11 => k_is)
   (case y0 => k_is); (case x0 => exact ⟨_, rfl⟩)
   (case y1 => k_is); (case x1 => exact ⟨_, rfl⟩)
   (case k0_0 => first | kit_is | rfl)
   (case k0_1 => first | kit_is | rfl)
   (case k0_2 => first | kit_is | rfl)
   (case k0_3 => first | kit_is | rfl)
   (case k0_4 => first | kit_is | rfl)
   (case k0_5 => first | kit_is | rfl)
   (case k1_0 => first | kit_is | rfl)
   (case k1_1 => first | kit_is | rfl)
   (case k1_2 => first | kit_is | rfl)
   (case k1_3 => first | kit_is | rfl)
   (case k1_4 => first | kit_is | rfl)
   (case k1_5 => first | kit_is | rfl)
   (case xa0 => rw [e_BadBox]; exact PySem.W.mg_of KX G n_BadBox)
   (case xa1 => rw [e_BadOrder]; exact PySem.W.mg_of KX G n_BadOrder)
   (case xa2 => rw [e_BadPlan]; exact PySem.W.mg_of KX G n_BadPlan)
   (case xa3 => rw [e_BadText]; exact PySem.W.mg_of KX G n_BadText)
   (case xa4 => rw [e_BoxError]; exact PySem.W.mg_of KX G n_BoxError)
   (case xa5 => rw [e_NoNumber]; exact PySem.W.mg_of KX G n_NoNumber)
   (case xa6 => rw [e_TooMany]; exact PySem.W.mg_of KX G n_TooMany)
   (case xb0 => unfold L2.L3.OwnX; rw [e_BadOrder]; exact o_BadOrder)
   (case xc0 => exact L2.L3.jV (by rw [e_BadBox]; exact z_BadBox) (List.forall_mem_cons.2 ⟨⟨k_BadOrder, by rw [e_BadOrder, e_BadBox]; exact t_BadOrder_BadBox.trans (congrArg some (by decide))⟩, (List.forall_mem_cons.2 ⟨⟨k_BadText_1, by rw [e_BadText_1, e_BadBox]; exact t_BadText_BadBox.trans (congrArg some (by decide))⟩, (fun _ h => nomatch h)⟩)⟩))
   (case xc1 => exact L2.L3.jV (by rw [e_BadOrder]; exact z_BadOrder) (List.forall_mem_cons.2 ⟨⟨k_BadOrder, by rw [e_BadOrder]; exact t_BadOrder_BadOrder.trans (congrArg some (by decide))⟩, (List.forall_mem_cons.2 ⟨⟨k_BadText_1, by rw [e_BadText_1, e_BadOrder]; exact t_BadText_BadOrder.trans (congrArg some (by decide))⟩, (fun _ h => nomatch h)⟩)⟩))
   (case xc2 => exact L2.L3.jV (by rw [e_BadPlan]; exact z_BadPlan) (List.forall_mem_cons.2 ⟨⟨k_BadOrder, by rw [e_BadOrder, e_BadPlan]; exact t_BadOrder_BadPlan.trans (congrArg some (by decide))⟩, (List.forall_mem_cons.2 ⟨⟨k_BadText_1, by rw [e_BadText_1, e_BadPlan]; exact t_BadText_BadPlan.trans (congrArg some (by decide))⟩, (fun _ h => nomatch h)⟩)⟩))
   (case xc3 => exact L2.L3.jV (by rw [e_BadText]; exact z_BadText) (List.forall_mem_cons.2 ⟨⟨k_BadOrder, by rw [e_BadOrder, e_BadText]; exact t_BadOrder_BadText.trans (congrArg some (by decide))⟩, (List.forall_mem_cons.2 ⟨⟨k_BadText_1, by rw [e_BadText_1, e_BadText]; exact t_BadText_BadText.trans (congrArg some (by decide))⟩, (fun _ h => nomatch h)⟩)⟩))
   (case xc4 => exact L2.L3.jV (by rw [e_NoNumber]; exact z_NoNumber) (List.forall_mem_cons.2 ⟨⟨k_BadOrder, by rw [e_BadOrder, e_NoNumber]; exact t_BadOrder_NoNumber.trans (congrArg some (by decide))⟩, (List.forall_mem_cons.2 ⟨⟨k_BadText_1, by rw [e_BadText_1, e_NoNumber]; exact t_BadText_NoNumber.trans (congrArg some (by decide))⟩, (fun _ h => nomatch h)⟩)⟩))
   (case xc5 => exact L2.L3.jV (by rw [e_TooMany]; exact z_TooMany) (List.forall_mem_cons.2 ⟨⟨k_BadOrder, by rw [e_BadOrder, e_TooMany]; exact t_BadOrder_TooMany.trans (congrArg some (by decide))⟩, (List.forall_mem_cons.2 ⟨⟨k_BadText_1, by rw [e_BadText_1, e_TooMany]; exact t_BadText_TooMany.trans (congrArg some (by decide))⟩, (fun _ h => nomatch h)⟩)⟩))
   (case xd0 => exact L2.L3.jV z_ValueError (List.forall_mem_cons.2 ⟨⟨k_BadOrder, by rw [e_BadOrder]; exact t_BadOrder_ValueError.trans (congrArg some (by decide))⟩, (List.forall_mem_cons.2 ⟨⟨k_BadText_1, by rw [e_BadText_1]; exact t_BadText_ValueError.trans (congrArg some (by decide))⟩, (fun _ h => nomatch h)⟩)⟩))
   (case xe0 => exact L2.L3.yN5 (List.forall_mem_cons.2 ⟨by rw [e_BadOrder]; exact L2.L3.zN2 g6_BadOrder m_BadOrder s_BadOrder, (fun _ h => nomatch h)⟩))
   (case xf0 => rw [e_BadOrder]; exact L2.L3.jZ b_BadOrder)
   (case xe1 => exact L2.L3.yN5 (List.forall_mem_cons.2 ⟨by rw [e_BadOrder, e_BoxError]; exact L2.L3.gJ c_BadOrder_BoxError d_BadOrder_BoxError, (List.forall_mem_cons.2 ⟨by rw [e_BadText_1, e_BoxError]; exact L2.L3.gJ c_BadText_BoxError d_BadText_BoxError, (fun _ h => nomatch h)⟩)⟩))
   (case xf1 => rw [e_BoxError]; exact L2.L3.jZ b_BoxError)
   (case pbt_ex => rw [e_BadText]; exact bt_ex)
   (case pbt_fi => rw [e_BadText]; exact bt_fi)
   (case pbt_kp => rw [e_BadText]; exact bt_kp)
   (case pbt_bi => rw [e_BoxError]; exact ⟨bb1, bb2, bb3⟩)
   (case pbt_rc => rw [e_BadText]; exact bt_rc)
   (case neBadOrder => intro c hc z; have hc2 := List.contains_iff_mem.mp hc; rw [List.mem_singleton] at hc2; subst hc2; rw [e_BadOrder, e_BadText] at z; rw [z, beq_self_eq_true] at bn_BadOrder; cases bn_BadOrder)
  obtain ⟨fl, fdl, HL, HB⟩ := D_law
  have e0 := hmg.symm.trans HL.m
  cases e0
  exact ⟨fdl, HB, fun base kb nb => K49.xZ8 T HL⟩
#print axioms PySem.Challenge.cw_ownboxes_k49_texts_of_no_order_holds