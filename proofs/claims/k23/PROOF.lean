import PyProof.Rows.All
import Wide.All
import OpenK.AllK
import Wide.FinOn
import Lean
import PyProof.EqAt
import PyProof.EqKinds
import PyProof.TupleCall
import PySem.Challenge.RW_ownboxes_k23_plans_refused
set_option compiler.extract_closed false
theorem gY (_h : True := by first | exact .inl rfl | exact .inr rfl | assumption) : True := trivial
theorem zJ (_h : True := by decide) : True := trivial
theorem xD (_h : True := by intro _; rfl) : True := trivial
theorem zX (_h : True := by rfl) : True := trivial
theorem dQ (_h : True := by with_unfolding_all rfl) : True := trivial
theorem gX (_h : True := by first | exact Or.inl rfl | exact Or.inr (Or.inl rfl) | exact Or.inr (Or.inr rfl)) : True := trivial
theorem yM1 (_h : True := by exact fun _ _ => rfl) : True := trivial
theorem zR2 (_h : True := by first | exact nomark _ | rfl) : True := trivial
theorem cS (_h : True := by first | exact Or.inl rfl | exact Or.inr rfl) : True := trivial
theorem autoK12 (_h : True := by first | exact .inl rfl | exact .inr rfl) : True := trivial
theorem autoK13 (_h : True := by exact PassesOwn.never) : True := trivial
local macro_rules | `(tactic| bv_omega) => `(tactic| first | lia | omega)
set_option Elab.async false
set_option linter.all false
set_option maxRecDepth 100000
set_option maxHeartbeats 4000000
noncomputable section
abbrev KFr := PySem.W.Frag
namespace L2
open PySem PySem.Spec PyProof.Rows
abbrev Key := Sum Int Str
def keyIs : Key -> Value -> Bool
 | .inl k, v => Value.isInt k v
 | .inr x, v => Value.isStrOf x v
def keyH (w : World) : Key -> Int
 | .inl k => hashInt k
 | .inr x => hashStr w x
theorem yE : ∀ {k : Key} {v : Value}, keyIs k v = true -> (∃ i t, k = Sum.inl i /\ v = Value.int i t) \/ (∃ x t, k = Sum.inr x /\ v = Value.str x t)
 | .inl i, v, h => by
  obtain ⟨t, e⟩ := Value.isInt_shape (k := i) (v := v) h
  exact .inl ⟨i, t, rfl, e⟩
 | .inr x, v, h => by
  obtain ⟨t, e⟩ := Value.isStrOf_shape (x := x) (v := v) h
  exact .inr ⟨x, t, rfl, e⟩
theorem yN5 (a b : Int) : decide ((Sum.inl a : Key) = Sum.inl b) = (a == b) := by
 by_cases e : a = b
 ·subst e; simp
 ·have h : ¬ (Sum.inl a : Key) = Sum.inl b := fun q => e (Sum.inl.inj q)
  rw [decide_eq_false h]
  exact (beq_eq_false_iff_ne.mpr e).symm
theorem yQ2 (a b : Str) : decide ((Sum.inr a : Key) = Sum.inr b) = decide (a = b) := by
 by_cases e : a = b
 ·subst e; simp
 ·have h : ¬ (Sum.inr a : Key) = Sum.inr b := fun q => e (Sum.inr.inj q)
  rw [decide_eq_false h, decide_eq_false e]
theorem yO5 (a : Int) (b : Str) : decide ((Sum.inl a : Key) = Sum.inr b) = false := decide_eq_false (fun q => nomatch q)
theorem yT8 (a : Str) (b : Int) : decide ((Sum.inr a : Key) = Sum.inl b) = false := decide_eq_false (fun q => nomatch q)
def mixKind (prog : Program) (w : World) : PySem.KeyKind prog w Key where
 is := keyIs
 hash := keyH w
 inj := fun v a b ha hb => by
  rcases yE ha with ⟨i, t, rfl, rfl⟩ | ⟨x, t, rfl, rfl⟩
  ·rcases yE hb with ⟨j, u, rfl, e⟩ | ⟨y, u, rfl, e⟩
   ·injection e with e1 _; rw [e1]
   ·exact nomatch e
  ·rcases yE hb with ⟨j, u, rfl, e⟩ | ⟨y, u, rfl, e⟩
   ·exact nomatch e
   ·injection e with e1 _; rw [e1]
 byValue := fun k v h => by
  rcases yE h with ⟨i, t, rfl, rfl⟩ | ⟨x, t, rfl, rfl⟩ <;> rfl
 pyHash := fun hv h => by
  rcases yE hv with ⟨i, t, rfl, rfl⟩ | ⟨x, t, rfl, rfl⟩
  ·exact wpAny_pyHash_int h
  ·exact wpAny_pyHash_str h
 eqBool := fun hu hv h => by
  rcases yE hu with ⟨i, t, rfl, rfl⟩ | ⟨x, t, rfl, rfl⟩
  ·rcases yE hv with ⟨j, u, rfl, rfl⟩ | ⟨y, u, rfl, rfl⟩
   ·rw [yN5] at h; exact wpAny_eqBool_int h
   ·rw [yO5] at h; exact SeqAt.EqAt.int_str i t y u _ _ _ _ h
  ·rcases yE hv with ⟨j, u, rfl, rfl⟩ | ⟨y, u, rfl, rfl⟩
   ·rw [yT8] at h; exact SeqAt.EqAt.str_int x t j u _ _ _ _ h
   ·rw [yQ2] at h; exact wpAny_eqBool_str h
 «strs» := fun k x t v h => by
  rcases yE h with ⟨i, u, rfl, e⟩ | ⟨y, u, rfl, e⟩
  ·exact nomatch e
  ·injection e with e1 _
   subst e1
   cases v <;> rfl
inductive V where
 | non | bl (b : Bool) | int (i : Int) | str (x : Str) | byt (b : Array UInt8) | flt (b : UInt64) | ref (a : Addr) | ty (n : String)
 deriving DecidableEq
def RelV : V -> Value -> Prop
 | .non, u => u = Value.none
 | .bl b, u => u = Value.bool b
 | .int i, u => ∃ t, u = Value.int i t
 | .str x, u => ∃ t, u = Value.str x t
 | .byt b, u => ∃ t, u = Value.bytes b t
 | .flt b, u => ∃ t, u = Value.float b t
 | .ref a, u => u = Value.ref a
 | .ty n, u => u = Value.type n
abbrev Vals : List V -> List Value -> Prop := Paired RelV
theorem Vals.length {xs : List V} {us : List Value} (r : Vals xs us) : xs.length = us.length := Paired.length r
theorem Vals.get : ∀ {xs : List V} {us : List Value} {i : Nat} {x : V}, Vals xs us -> xs[i]? = some x -> ∃ u, us[i]? = some u /\ RelV x u
 | _, _, _, _, .nil, e => by simp at e
 | _, _, 0, _, .cons r _, e => by simp at e; subst e; exact ⟨_, rfl, r⟩
 | _, _, i + 1, x, .cons _ t, e => by
  obtain ⟨u, h1, h2⟩ := Vals.get (i := i) (x := x) t (by simpa using e)
  exact ⟨u, by simpa using h1, h2⟩
theorem Vals.set {x : V} {u : Value} (r : RelV x u) : ∀ {xs : List V} {us : List Value} (i : Nat), Vals xs us -> Vals (xs.set i x) (us.set i u)
 | _, _, _, .nil => .nil
 | _, _, 0, .cons _ t => .cons r t
 | _, _, i + 1, .cons q t => .cons q (Vals.set r i t)
theorem Vals.append : ∀ {xs ys : List V} {us ws : List Value}, Vals xs us -> Vals ys ws -> Vals (xs ++ ys) (us ++ ws)
 | _, _, _, _, .nil, s => s
 | _, _, _, _, .cons r t, s => .cons r (Vals.append t s)
theorem Vals.take : ∀ {xs : List V} {us : List Value} (n : Nat), Vals xs us -> Vals (xs.take n) (us.take n)
 | _, _, 0, _ => .nil
 | _, _, _ + 1, .nil => .nil
 | _, _, n + 1, .cons r t => .cons r (Vals.take n t)
theorem Vals.drop : ∀ {xs : List V} {us : List Value} (n : Nat), Vals xs us -> Vals (xs.drop n) (us.drop n)
 | _, _, 0, r => r
 | _, _, _ + 1, .nil => .nil
 | _, _, n + 1, .cons _ t => Vals.drop n t
theorem Vals.yI7 : ∀ {xs : List V} {us : List Value} {i : Nat}, Vals xs us -> xs[i]? = none -> us[i]? = none := fun {xs us i} r e => by
 have h1 := r.length
 have h2 : xs.length <= i := List.getElem?_eq_none_iff.mp e
 exact List.getElem?_eq_none_iff.mpr (by bv_omega)
def RelO : Option V -> Option Value -> Prop
 | some v, some u => RelV v u
 | none, none => True
 | _, _ => False
def KV {κ : Type} : List (κ × V) -> List (κ × Value) -> Prop := Paired fun (p : κ × V) (q : κ × Value) => p.1 = q.1 /\ RelV p.2 q.2
def kV : Key -> V
 | .inl i => .int i
 | .inr x => .str x
inductive HO where
 | lst (xs : List V)
 | tup (xs : List V)
 | dK (kvs : List (Key × V)) | dT (kvs : List (List Key × V))
 | set (S : Int -> Bool) (n : Nat)
 | ins (C dx : Addr) (fs : List (Str × V))
 | own (x : Addr)
 | xd (fs : List (Str × V))
 | met (f x : Addr)
 | rng (lo hi : Int)
 | frz (o : Obj) (u : HO)
 | tbl (ps : Array Value)
 | ext (φ : Heap -> Prop)
abbrev Hp := Addr -> Option HO
def upd (H : Hp) (a : Addr) (o : HO) : Hp := fun b => if b = a then some o else H b
theorem zU {H : Hp} {a : Addr} {o : HO} : upd H a o a = some o := by unfold upd; rw [if_pos rfl]
theorem zT {H : Hp} {a b : Addr} {o : HO} (h : b ≠ a) : upd H a o b = H b := by unfold upd; rw [if_neg h]
theorem zT4 {H : Hp} {a : Addr} {o u : HO} : upd (upd H a o) a u = upd H a u := by
 funext b; unfold upd; split <;> rfl
theorem yN {H : Hp} {a b : Addr} {o : HO} (h : H a = some o) (h' : H b = none) : a ≠ b := by
 intro e; subst e; rw [h] at h'; cases h'
def TupAt (h : Heap) (a : Addr) (its : Array Value) : Prop := ∃ o, h.get? a = some o /\ o.cls = .type "tuple" /\ (∃ n, o.data = .seq its n) /\ o.dict = none
theorem TupAt.tup {h : Heap} {a : Addr} {its : Array Value} (x : TupAt h a its) : IsTup h a its := by
 obtain ⟨o, e, c, d, _⟩ := x
 exact ⟨o, e, c, d⟩
theorem TupAt.new (h : Heap) (its : Array Value) : TupAt (h.push { cls := .type "tuple", data := .seq its }) h.objs.size its := ⟨_, Heap.get?_push_size _ rfl, rfl, ⟨_, rfl⟩, rfl⟩
section
variable (P : Program) (w : World)
def ObjOk (H : Hp) (h : Heap) (a : Addr) : HO -> Prop
 | .lst xs => xs.length <= sizeLine /\ ∃ (its : List Value) (n : Nat), Vals xs its /\ h.get? a = some { cls := .type "list", data := .seq its.toArray n }
 | .tup xs => xs.length <= sizeLine /\ ∃ its : List Value, Vals xs its /\ TupAt h a its.toArray
 | .dK kvs => kvs.length <= sizeLine /\ (a == sysModules) = false /\ ∃ vs, KV kvs vs /\ h.DictOf (mixKind P w) a vs
 | .dT kvs => kvs.length <= sizeLine /\ (a == sysModules) = false /\ ∃ xs : List (List Key × Addr × Value),
   Paired (fun (p : List Key × V) (q : List Key × Addr × Value) => p.1 = q.1 /\ H q.2.1 = some (.tup (p.1.map kV)) /\ RelV p.2 q.2.2) kvs xs /\
   ∃ o es ep, h.get? a = some o /\ o.ExactDict /\ o.data = .dict es ep /\ es.toList = xs.map (entryOfKey (tupleKind (mixKind P w))) /\ (xs.map (·.1)).Nodup
 | .set S n => h.SetOf (intKind P w) a S n
 | .ins C dx fs => H dx = some (.own a) /\ fs.length <= 1000 /\ dx ≠ a /\ h.get? a = some (PySem.W.instObj C dx) /\
   ∃ mA, h.Ns1 dx mA /\ (∀ f, RelO (fs.lookup f) (mA f)) /\ PySem.Within mA (fs.map (·.1))
 | .own _ => ∃ o, h.get? a = some o
 | .xd fs => ∃ mA, h.Ns1 a mA /\ ∀ f, RelO (fs.lookup f) (mA f)
 | .rng lo hi => ∃ t u v, h.get? a = some { cls := .type "range", data := .fields #[.int lo t, .int hi u, .int 1 v] }
 | .frz o u => h.get? a = some o /\ ObjOk H h a u
 | .tbl ps => h.get? a = some { cls := .none, data := .fields ps }
 | .met f x => h.get? a = some (PySem.W.methodObj (.ref f) (.ref x))
 | .ext φ => φ h /\ (∃ o, h.get? a = some o) /\ ∀ h1 h2 : Heap, φ h1 -> (∀ o, h1.get? a = some o -> h2.get? a = some o) -> φ h2
def HOk (H : Hp) (h : Heap) : Prop := ∀ a o, H a = some o -> ObjOk P w H h a o
end
section
variable {P : Program} {w : World} {H H' : Hp} {h h' : Heap} {a : Addr} {o : HO}
theorem ObjOk.lt (x : ObjOk P w H h a o) : a < h.objs.size := by
 cases o with
 | lst xs => obtain ⟨_, _, _, _, e⟩ := x; exact Heap.lt_size e
 | tup xs => obtain ⟨_, _, _, p⟩ := x; exact p.tup.lt
 | dK kvs => obtain ⟨_, _, _, _, o, _, _, e, _⟩ := x; exact Heap.lt_size e
 | dT kvs => obtain ⟨_, _, _, _, o, _, _, e, _⟩ := x; exact Heap.lt_size e
 | set S n => obtain ⟨o, _, _, _, e, _⟩ := x; exact Heap.lt_size e
 | ins C dx fs => obtain ⟨_, _, _, e, _⟩ := x; exact Heap.lt_size e
 | own y => obtain ⟨_, e⟩ := x; exact Heap.lt_size e
 | xd fs => obtain ⟨_, ⟨_, _, _, e, _⟩, _⟩ := x; exact Heap.lt_size e
 | rng lo hi => obtain ⟨_, _, _, e⟩ := x; exact Heap.lt_size e
 | frz ob u => obtain ⟨e, _⟩ := x; exact Heap.lt_size e
 | tbl ps => exact Heap.lt_size (show h.get? a = some _ from x)
 | met f y => exact Heap.lt_size (show h.get? a = some _ from x)
 | ext φ => obtain ⟨_, ⟨_, e⟩, _⟩ := x; exact Heap.lt_size e
theorem Paired.mapP {α β : Type} {F G : α -> β -> Prop} : ∀ {l₁ : List α} {l₂ : List β}, Paired F l₁ l₂ -> (∀ a b, F a b -> G a b) -> Paired G l₁ l₂
 | _, _, .nil, _ => .nil
 | _, _, .cons r t, f => .cons (f _ _ r) (Paired.mapP t f)
theorem ObjOk.stay (x : ObjOk P w H h a o) (k : ∀ b u, (b = a \/ H b = some (.own a)) -> h.get? b = some u -> h'.get? b = some u)
  (ho : ∀ b, H b = some (.own a) -> H' b = some (.own a)) (ht : ∀ b xs, H b = some (.tup xs) -> H' b = some (.tup xs)) : ObjOk P w H' h' a o := by
 induction o with
 | lst xs => obtain ⟨z, its, n, r, e⟩ := x; exact ⟨z, its, n, r, k _ _ (.inl rfl) e⟩
 | tup xs => obtain ⟨z, its, r, ob, e, c⟩ := x; exact ⟨z, its, r, ob, k _ _ (.inl rfl) e, c⟩
 | dK kvs => obtain ⟨z, y, vs, r, ob, es, ep, e, c⟩ := x; exact ⟨z, y, vs, r, ob, es, ep, k _ _ (.inl rfl) e, c⟩
 | dT kvs =>
  obtain ⟨z, y, xs, r, ob, es, ep, e, c⟩ := x
  exact ⟨z, y, xs, Paired.mapP r fun p q z => ⟨z.1, ht _ _ z.2.1, z.2.2⟩, ob, es, ep, k _ _ (.inl rfl) e, c⟩
 | set S n => obtain ⟨ob, es, ep, t, e, c⟩ := x; exact ⟨ob, es, ep, t, k _ _ (.inl rfl) e, c⟩
 | ins C dx fs =>
  obtain ⟨d, z, ne, e, mA, ⟨od, es, ep, e2, c⟩, r⟩ := x
  exact ⟨ho _ d, z, ne, k _ _ (.inl rfl) e, mA, ⟨od, es, ep, k _ _ (.inr d) e2, c⟩, r⟩
 | own y => obtain ⟨ob, e⟩ := x; exact ⟨ob, k _ _ (.inl rfl) e⟩
 | xd fs => obtain ⟨mA, ⟨od, es, ep, e, c⟩, r⟩ := x; exact ⟨mA, ⟨od, es, ep, k _ _ (.inl rfl) e, c⟩, r⟩
 | rng lo hi => obtain ⟨t, u, v, e⟩ := x; exact ⟨t, u, v, k _ _ (.inl rfl) e⟩
 | frz ob u ih => obtain ⟨e, q⟩ := x; exact ⟨k _ _ (.inl rfl) e, ih q⟩
 | tbl ps =>
  have e : h.get? a = some { cls := .none, data := .fields ps } := x
  show h'.get? a = some { cls := .none, data := .fields ps }
  exact k a _ (.inl rfl) e
 | met f y =>
  have e : h.get? a = some (PySem.W.methodObj (.ref f) (.ref y)) := x
  show h'.get? a = some (PySem.W.methodObj (.ref f) (.ref y))
  exact k a _ (.inl rfl) e
 | ext φ => obtain ⟨p, ⟨o, e⟩, st⟩ := x; exact ⟨st _ _ p fun o q => k _ _ (.inl rfl) q, ⟨o, k _ _ (.inl rfl) e⟩, st⟩
theorem HOk.lt (x : HOk P w H h) (e : H a = some o) : a < h.objs.size := (x a o e).lt
theorem HOk.fresh (x : HOk P w H h) (e : h.objs.size <= a) : H a = none := by
 cases q : H a with
 | none => rfl
 | some u => exact absurd (Nat.lt_of_lt_of_le (x.lt q) e) (Nat.lt_irrefl _)
theorem HOk.kept (x : HOk P w H h) (k : ∀ b u, h.get? b = some u -> h'.get? b = some u) : HOk P w H h' := fun a o e =>
 (x a o e).stay (fun b u _ q => k b u q) (fun _ q => q) fun _ _ q => q
theorem HOk.laid (x : HOk P w H h) (k : ∀ b u, h.get? b = some u -> h'.get? b = some u) (hp : h.objs.size <= a) (new : ObjOk P w (upd H a o) h' a o) : HOk P w (upd H a o) h' := fun b u e => by
 have hn := x.fresh hp
 by_cases hb : b = a
 ·subst hb; rw [zU] at e; cases e; exact new
 ·rw [zT hb] at e
  exact (x b u e).stay (fun c v _ q => k c v q) (fun c q => by rw [zT (yN q hn)]; exact q) fun c xs q => by rw [zT (yN q hn)]; exact q
end
def Rd (H : Hp) (a : Addr) (u : HO) : Prop := H a = some u \/ ∃ o, H a = some (.frz o u)
theorem Rd.ok {P : Program} {w : World} {H : Hp} {h : Heap} {a : Addr} {u : HO} (r : Rd H a u) (x : HOk P w H h) : ObjOk P w H h a u := by
 rcases r with r | ⟨o, r⟩
 ·exact x a u r
 ·obtain ⟨_, q⟩ := x a _ r
  exact q
def Mut : Option HO -> Prop
 | some (.lst _) => True
 | some (.dK _) => True
 | some (.dT _) => True
 | some (.set _ _) => True
 | some (.ins _ _ _) => True
 | some (.ext _) => True
 | _ => False
section
variable {P : Program} {w : World} {H : Hp} {h h' : Heap} {x e : Addr} {o' : HO}
theorem HOk.write (ok : HOk P w H h) (mu : Mut (H x)) (he : e = x \/ H e = some (.own x)) (k : ∀ b u, b ≠ e -> h.get? b = some u -> h'.get? b = some u) (heo : ∃ u, h'.get? e = some u)
  (new : ObjOk P w (upd H x o') h' x o') : HOk P w (upd H x o') h' := fun b u q => by
 have nown : ∀ c y, H c = some (.own y) -> c ≠ x := fun c y r z => by subst z; rw [r] at mu; exact mu
 have ntup : ∀ c xs, H c = some (.tup xs) -> c ≠ x := fun c xs r z => by subst z; rw [r] at mu; exact mu
 by_cases hb : b = x
 ·subst hb; rw [zU] at q; cases q; exact new
 ·rw [zT hb] at q
  by_cases hbe : b = e
  ·have q' : H b = some (.own x) := by
    rcases he with z | z
    ·exact absurd (hbe.trans z) hb
    ·rw [hbe]; exact z
   rw [q] at q'; cases q'
   obtain ⟨v, hv⟩ := heo
   exact ⟨v, by rw [hbe]; exact hv⟩
  ·refine (ok b u q).stay (fun c v hc r => k c v ?_ r) (fun c r => by rw [zT (nown c b r)]; exact r) fun c xs r => by rw [zT (ntup c xs r)]; exact r
   rcases hc with rfl | hc
   ·exact hbe
   ·rintro rfl
    rcases he with z | z
    ·exact nown c b hc z
    ·rw [hc] at z; cases z; exact hb rfl
end
structure Un (fs ex : List Addr) (H H' : Hp) (h h' : Heap) : Prop where
 keep : ∀ b o, h.get? b = some o -> H b = none -> b ∉ fs -> b ∉ ex -> h'.get? b = some o
 slot : ∀ b o, h.get? b = some o -> H b = none -> b ∈ fs -> b ∉ ex -> ∃ sl, h'.get? b = some { o with slots := sl }
 free : ∀ b o, h.get? b = some o -> H b = none -> b ∉ ex -> H' b = none
 there : ∀ b o, h.get? b = some o -> b ∉ ex -> ∃ o', h'.get? b = some o'
 tups : ∀ b xs, H b = some (.tup xs) -> H' b = some (.tup xs)
 frzs : ∀ b o u, H b = some (.frz o u) -> H' b = some (.frz o u)
 tbls : ∀ b ps, H b = some (.tbl ps) -> ∃ more, H' b = some (.tbl (ps ++ more))
section
variable {fs fs' ex ex' : List Addr} {H H1 H2 : Hp} {h h1 h2 h' : Heap} {a x e : Addr} {o : HO}
theorem Un.any (u : Un fs ex H H1 h h1) {b : Addr} {ob : Obj} (q : h.get? b = some ob) (n : H b = none) (hx : b ∉ ex) : ∃ sl, h1.get? b = some { ob with slots := sl } := by
 by_cases hb : b ∈ fs
 ·exact u.slot b ob q n hb hx
 ·exact ⟨ob.slots, u.keep b ob q n hb hx⟩
theorem Un.kept (k : ∀ b u, h.get? b = some u -> h'.get? b = some u) : Un fs ex H H h h' :=
 ⟨fun b ob q _ _ _ => k b ob q, fun b ob q _ _ _ => ⟨ob.slots, k b ob q⟩, fun _ _ _ n _ => n, fun b ob q _ => ⟨ob, k b ob q⟩, fun _ _ q => q, fun _ _ _ q => q, fun _ ps q => ⟨#[], by rw [q]; simp⟩⟩
theorem Un.refl : Un fs ex H H h h := Un.kept fun _ _ q => q
theorem Un.laid (k : ∀ b u, h.get? b = some u -> h'.get? b = some u) (hp : h.objs.size <= a) (hn : H a = none) : Un fs ex H (upd H a o) h h' where
 keep := fun b u q _ _ _ => k b u q
 slot := fun b u q _ _ _ => ⟨u.slots, k b u q⟩
 free := fun b u q n _ => by rw [zT (Nat.ne_of_lt (Nat.lt_of_lt_of_le (Heap.lt_size q) hp))]; exact n
 there := fun b u q _ => ⟨u, k b u q⟩
 tups := fun b xs q => by rw [zT (yN q hn)]; exact q
 frzs := fun b u xs q => by rw [zT (yN q hn)]; exact q
 tbls := fun b ps q => ⟨#[], by rw [zT (yN q hn), q]; simp⟩
theorem Un.write (mu : Mut (H x)) (he : e = x \/ H e = some (.own x)) (k : ∀ b u, b ≠ e -> h.get? b = some u -> h'.get? b = some u) (heo : ∃ u, h'.get? e = some u) : Un fs ex H (upd H x o) h h' := by
 have hx : ∀ b, H b = none -> b ≠ x := fun b n z => by subst z; rw [n] at mu; exact mu
 have hb : ∀ b, H b = none -> b ≠ e := fun b n z => by
  subst z
  rcases he with r | r
  ·exact hx b n r
  ·rw [n] at r; cases r
 have hm : ∀ b u, H b = some u -> ¬ Mut (some u) -> b ≠ x := fun b u q nm z => by subst z; rw [q] at mu; exact nm mu
 refine ⟨fun b u q n _ _ => k b u (hb b n) q, fun b u q n _ _ => ⟨u.slots, k b u (hb b n) q⟩, fun b u q n _ => by rw [zT (hx b n)]; exact n, fun b u q _ => ?_,
  fun b xs q => by rw [zT (hm b _ q fun z => z)]; exact q, fun b u xs q => by rw [zT (hm b _ q fun z => z)]; exact q, fun b ps q => ⟨#[], by rw [zT (hm b _ q fun z => z), q]; simp⟩⟩
 by_cases hbe : b = e
 ·subst hbe; exact heo
 ·exact ⟨u, k b u hbe q⟩
end
def trk (h : Heap) (H : Hp) : List Addr := (List.range h.objs.size).filter fun a => (H a).isSome
def hidT (h : Heap) (H : Hp) : Heap := PySem.W.hideAll h (trk h H)
theorem zO7 (h : Heap) (H : Hp) : (hidT h H).objs.size = h.objs.size := PySem.W.hideAll_size _ _
theorem zD9 {h : Heap} {H : Hp} {b : Addr} {o : Obj} (e : h.get? b = some o) (n : H b = none) : (hidT h H).get? b = some o :=
 PySem.W.hideAll_get _ e fun hm => by
  have q : (H b).isSome = true := (List.mem_filter.mp hm).2
  rw [n] at q; simp at q
theorem yX6 {h : Heap} {H : Hp} {b : Addr} {o : Obj} (e : (hidT h H).get? b = some o) : h.get? b = some o /\ H b = none := by
 have e' : h.get? b = some o := PySem.W.of_hideAll (trk h H) e
 refine ⟨e', ?_⟩
 cases q : H b with
 | none => rfl
 | some x =>
  have hm : b ∈ trk h H := List.mem_filter.mpr ⟨List.mem_range.mpr (Heap.lt_size e'), by simp [q]⟩
  have z : (hidT h H).get? b = none := PySem.W.hideAll_none (trk h H) hm
  rw [z] at e; cases e
def allNews (g h : Heap) (L : Addr) : List (Addr × Obj) := (List.range h.objs.size).filterMap fun a => if a = L \/ (g.get? a).isSome = true then none else (h.get? a).map fun o => (a, o)
def rest (g h : Heap) (L d : Addr) : List (Addr × Obj) := (allNews g h L).filter fun p => decide (p.1 ≠ d)
structure Mod (K : KFr) (mg : Str -> Option Value) (base : Heap) : Prop where
 kin : K.In base
 glob : base.Ns mainGlobals mg
 blt : ∃ mb, base.Ns builtinsNs mb /\ ∀ x : Str, x ≠ "__name__" -> mb x = bootBuiltins x
 nolimit : base.NoLimit
structure Cx where
 prog : Program
 w : World
 K : KFr
 mg : Str -> Option Value
 base : Heap
 A : Around
 N : List Str
 s₀ : Shared
 H₀ : Hp
 env : Env
 outer : List Env
 stack : List Env
 ex : List Addr
 fn : Str -> Bool
 calm : Bool
 pn : List (Addr × Obj)
 xe : Value -> Shared -> Prop
def frs (l : List Env) : List Addr := l.filterMap (·.frame)
abbrev Cx.fs (X : Cx) : List Addr := frs X.outer
def Vis (sc : Scope) (x : Str) : Prop := sc.names.lookup x = some .local \/ sc.names.lookup x = some .cell \/ sc.names.lookup x = some .free
def Loc (sc : Scope) (x : Str) : Prop := sc.names.lookup x = some .local \/ sc.names.lookup x = some .cell
def Look (env : Env) (h : Heap) (m : Str -> Option Value) (x : Str) (u : Value) : Prop :=
 (env.kindOf x = some .local /\ m x = some u) \/ ((env.kindOf x = some .cell \/ env.kindOf x = some .free) /\ ∃ c, env.cells.lookup x = some c /\ h.IsCell c (some u))
structure Cx.Ok (X : Cx) : Prop where
 mod : Mod X.K X.mg X.base
 kind : X.env.scope.kind = .function
 glob : X.env.globals = mainGlobals
 blt : X.env.builtins = builtinsNs
 above : X.s₀.heap.objs.size <= X.env.locals
 inj : ∀ x y c, X.env.cells.lookup x = some c -> X.env.cells.lookup y = some c -> x = y
 has : ∀ x, (X.env.kindOf x = some .cell \/ X.env.kindOf x = some .free) -> ∃ c, X.env.cells.lookup x = some c
 cab : ∀ x c, X.fn x = true -> X.env.cells.lookup x = some c -> X.s₀.heap.objs.size <= c
 hd : X.calm = true -> X.A.handled = none
 frames : X.A.frames = some X.stack
 stk : X.stack = X.outer \/ (X.stack = X.env :: X.outer /\ X.env.frame = some X.env.locals)
 exf : ∀ b ∈ X.ex, b ≠ X.env.locals /\ ∀ x c, X.env.cells.lookup x = some c -> c ≠ b
 bs : ∀ b o, X.base.get? b = some o -> X.s₀.heap.get? b = some o /\ X.H₀ b = none
 bsz : X.base.objs.size <= X.s₀.heap.objs.size
 noex : ∀ b o, X.base.get? b = some o -> b ∉ X.ex
 exfs : ∀ b ∈ X.ex, b ∉ X.fs
 funs : X.s₀.heap.FunFrames X.base X.outer
 frf : ∀ b ∈ X.fs, X.H₀ b = none
structure Inv (X : Cx) (pins : List (Addr × Obj)) (σ : List (Option V)) (H : Hp) (s : Shared) : Prop where
 ok : X.Ok
 os : s.os = X.s₀.os
 bare : AllBare s.gens
 base : Un X.fs X.ex X.H₀ H X.s₀.heap s.heap
 loc : ∃ m, s.heap.Ns X.env.locals m /\ ∀ (i : Nat) (x : Str) (v : V), X.N[i]? = some x -> σ[i]? = some (some v) -> Vis X.env.scope x -> ∃ u, RelV v u /\ Look X.env s.heap m x u
 cell : ∀ x c, X.env.cells.lookup x = some c -> ∃ v, s.heap.IsCell c v
 free : H X.env.locals = none
 freeC : ∀ x c, X.env.cells.lookup x = some c -> H c = none
 pin : ∀ p ∈ X.pn ++ pins, s.heap.get? p.1 = some p.2 /\ H p.1 = none /\ p.1 ≠ X.env.locals /\ p.1 ∉ X.fs /\ ∀ v, p.2.data ≠ .cell v
 hok : HOk X.prog X.w H s.heap
 len : σ.length = X.N.length
section
variable {X : Cx} {pins : List (Addr × Obj)} {σ : List (Option V)} {H H' : Hp} {s : Shared} {h' : Heap}
theorem Cx.Ok.nofr (ok : X.Ok) {b : Addr} {o : Obj} (e : X.base.get? b = some o) : b ∉ X.fs := fun hb => by
 have := (ok.funs.mem hb).1
 rw [e] at this; cases this
theorem Inv.bs (I : Inv X pins σ H s) : ∀ b o, X.base.get? b = some o -> s.heap.get? b = some o /\ H b = none := fun b o e =>
 ⟨I.base.keep b o (I.ok.bs b o e).1 (I.ok.bs b o e).2 (I.ok.nofr e) (I.ok.noex b o e), I.base.free b o (I.ok.bs b o e).1 (I.ok.bs b o e).2 (I.ok.noex b o e)⟩
theorem Inv.bk (I : Inv X pins σ H s) : ∀ b o, X.base.get? b = some o -> s.heap.get? b = some o := fun b o e => (I.bs b o e).1
theorem Inv.mod (I : Inv X pins σ H s) : Mod X.K X.mg X.base := I.ok.mod
theorem Inv.kIn (I : Inv X pins σ H s) : X.K.In s.heap := I.ok.mod.kin.keeps I.bk
theorem Inv.lt (I : Inv X pins σ H s) : X.env.locals < s.heap.objs.size := let ⟨_, hn, _⟩ := I.loc; hn.lt
theorem Inv.sz (I : Inv X pins σ H s) : X.s₀.heap.objs.size <= s.heap.objs.size := Nat.le_trans I.ok.above (Nat.le_of_lt I.lt)
theorem Inv.nofs (I : Inv X pins σ H s) {a : Addr} (h : s.heap.objs.size <= a) : a ∉ X.fs := fun hb => by
 obtain ⟨_, o, ho, _⟩ := I.ok.funs.mem hb
 exact absurd (Nat.lt_of_lt_of_le (Heap.lt_size ho) (Nat.le_trans I.sz h)) (Nat.lt_irrefl _)
theorem Inv.cne (I : Inv X pins σ H s) : ∀ x c, X.env.cells.lookup x = some c -> c ≠ X.env.locals := fun x c e z => by
 obtain ⟨v, o, ho, hd⟩ := I.cell x c e
 obtain ⟨m, ⟨o', es, ep, ho', hd', _⟩, _⟩ := I.loc
 rw [z, ho'] at ho; cases ho; rw [hd'] at hd; cases hd
theorem Inv.funs (I : Inv X pins σ H s) : s.heap.FunFrames X.base X.outer := by
 have all : ∀ (l : List Env), (∀ b ∈ frs l, b ∈ X.fs) -> X.s₀.heap.FunFrames X.base l -> s.heap.FunFrames X.base l := by
  intro l
  induction l with
  | nil => intro _ _; trivial
  | cons env r ih =>
   intro hs hl
   obtain ⟨hk, ⟨L, o, hf, hn, ho, hd⟩, hr⟩ := hl
   have hL : L ∈ X.fs := hs L (by unfold frs; rw [List.filterMap_cons, hf]; exact List.mem_cons_self)
   obtain ⟨sl, e⟩ := I.base.slot L o ho (I.ok.frf L hL) hL fun z => I.ok.exfs L z hL
   exact ⟨hk, ⟨L, _, hf, hn, e, hd⟩, ih (fun b hb => hs b (by unfold frs; rw [List.filterMap_cons, hf]; exact List.mem_cons_of_mem _ hb)) hr⟩
 exact all X.outer (fun _ hb => hb) I.ok.funs
theorem Inv.stack (I : Inv X pins σ H s) : s.heap.FunFrames X.base X.stack := by
 rcases I.ok.stk with e | ⟨e, hf⟩
 ·rw [e]; exact I.funs
 ·rw [e]
  obtain ⟨m, hn, _⟩ := I.loc
  refine .cons (by rw [I.ok.kind]; decide) hf hn ?_ I.funs
  exact Heap.get?_none_of_le (Nat.le_trans I.ok.bsz I.ok.above)
theorem Inv.stkSub (I : Inv X pins σ H s) : ∀ b ∈ frs X.stack, b ∈ X.env.locals :: X.fs := fun b hb => by
 rcases I.ok.stk with e | ⟨e, hf⟩
 ·rw [e] at hb; exact List.mem_cons_of_mem _ hb
 ·rw [e] at hb
  unfold frs at hb
  rw [List.filterMap_cons, hf] at hb
  exact hb
theorem Inv.stkFree (I : Inv X pins σ H s) : ∀ b ∈ frs X.stack, H b = none := fun b hb => by
 rcases List.mem_cons.mp (I.stkSub b hb) with e | hb
 ·rw [e]; exact I.free
 ·obtain ⟨_, o, ho, _⟩ := I.ok.funs.mem hb
  exact I.base.free b o ho (I.ok.frf b hb) fun z => I.ok.exfs b z hb
theorem Inv.step {g' : Array GenState} {t' : Nat} {d' : Drawn} {ch : List Addr} (I : Inv X pins σ H s)
  (hch : ∀ b ∈ ch, (b ∈ X.ex \/ X.s₀.heap.objs.size <= b) /\ b ≠ X.env.locals /\ (∀ x c, X.env.cells.lookup x = some c -> c ≠ b) /\ ∀ p ∈ X.pn ++ pins, p.1 ≠ b)
  (keep : ∀ b o, b ≠ X.env.locals -> b ∉ X.fs -> b ∉ ch -> s.heap.get? b = some o -> H b = none -> h'.get? b = some o)
  (slot : ∀ b o, b ≠ X.env.locals -> b ∈ X.fs -> b ∉ ch -> s.heap.get? b = some o -> H b = none -> ∃ sl, h'.get? b = some { o with slots := sl }) (free : ∀ b o, b ∉ ch -> s.heap.get? b = some o -> H b = none -> H' b = none)
  (there : ∀ b o, b ∉ ch -> s.heap.get? b = some o -> ∃ o', h'.get? b = some o')
  (tups : ∀ b xs, H b = some (.tup xs) -> H' b = some (.tup xs)) (frzs : ∀ b o u, H b = some (.frz o u) -> H' b = some (.frz o u)) (tbls : ∀ b ps, H b = some (.tbl ps) -> ∃ more, H' b = some (.tbl (ps ++ more)))
  (ns : ∀ m, s.heap.Ns X.env.locals m -> h'.Ns X.env.locals m) (hok : HOk X.prog X.w H' h') (hg : AllBare g') :
  Inv X pins σ H' { s with heap := h', gens := g', drawn := d', toks := t' } := by
 have neL : ∀ b o, X.s₀.heap.get? b = some o -> b ≠ X.env.locals := fun b o e => Nat.ne_of_lt (Nat.lt_of_lt_of_le (Heap.lt_size e) I.ok.above)
 have neC : ∀ b o, X.s₀.heap.get? b = some o -> b ∉ X.ex -> b ∉ ch := fun b o e hx hb => by
  rcases (hch b hb).1 with z | z
  ·exact hx z
  ·exact absurd (Nat.lt_of_lt_of_le (Heap.lt_size e) z) (Nat.lt_irrefl _)
 have cellK : ∀ x c, X.env.cells.lookup x = some c -> ∀ v, s.heap.IsCell c v -> h'.IsCell c v := fun x c e v ⟨o, ho, hd⟩ => by
  have nch : c ∉ ch := fun z => (hch c z).2.2.1 x c e rfl
  by_cases hc : c ∈ X.fs
  ·obtain ⟨sl, q⟩ := slot c o (I.cne x c e) hc nch ho (I.freeC x c e)
   exact ⟨_, q, hd⟩
  ·exact ⟨o, keep c o (I.cne x c e) hc nch ho (I.freeC x c e), hd⟩
 refine ⟨I.ok, I.os, hg, ⟨fun b o e n hb hx => ?_, fun b o e n hb hx => ?_, fun b o e n hx => ?_, fun b o e hx => ?_, fun b xs e => tups b xs (I.base.tups b xs e), fun b o xs e => frzs b o xs (I.base.frzs b o xs e), fun b ps e => ?_⟩, ?_, fun x c e => ?_, ?_, fun x c e => ?_, fun p hp => ?_, hok, I.len⟩
 ·exact keep b o (neL b o e) hb (neC b o e hx) (I.base.keep b o e n hb hx) (I.base.free b o e n hx)
 ·obtain ⟨sl, e1⟩ := I.base.slot b o e n hb hx
  obtain ⟨sl', e2⟩ := slot b _ (neL b o e) hb (neC b o e hx) e1 (I.base.free b o e n hx)
  exact ⟨sl', e2⟩
 ·obtain ⟨o', e1⟩ := I.base.there b o e hx
  exact free b o' (neC b o e hx) e1 (I.base.free b o e n hx)
 ·obtain ⟨o', e1⟩ := I.base.there b o e hx
  exact there b o' (neC b o e hx) e1
 ·obtain ⟨m1, e1⟩ := I.base.tbls b ps e
  obtain ⟨m2, e2⟩ := tbls b _ e1
  exact ⟨m1 ++ m2, by rw [e2, Array.append_assoc]⟩
 ·obtain ⟨m, hn, hl⟩ := I.loc
  refine ⟨m, ns m hn, fun i x v e1 e2 e3 => ?_⟩
  obtain ⟨u, r, l⟩ := hl i x v e1 e2 e3
  refine ⟨u, r, ?_⟩
  rcases l with l | ⟨k, c, e, z⟩
  ·exact .inl l
  ·exact .inr ⟨k, c, e, cellK x c e _ z⟩
 ·obtain ⟨v, z⟩ := I.cell x c e
  exact ⟨v, cellK x c e v z⟩
 ·obtain ⟨m, ⟨o, _, _, ho, _⟩, _⟩ := I.loc
  exact free _ o (fun z => (hch _ z).2.1 rfl) ho I.free
 ·obtain ⟨v, o, ho, hd⟩ := I.cell x c e
  exact free c o (fun z => (hch c z).2.2.1 x c e rfl) ho (I.freeC x c e)
 ·obtain ⟨e, n, ne, nf, d⟩ := I.pin p hp
  have nch : p.1 ∉ ch := fun z => (hch p.1 z).2.2.2 p hp rfl
  exact ⟨keep p.1 p.2 ne nf nch e n, free p.1 p.2 nch e n, ne, nf, d⟩
theorem Inv.un {t' : Nat} (I : Inv X pins σ H s) (u : Un X.fs [] H H' s.heap h') (hok : HOk X.prog X.w H' h') : Inv X pins σ H' { s with heap := h', toks := t' } := by
 obtain ⟨m, ⟨o, es, ep, ho, r⟩, _⟩ := id I.loc
 obtain ⟨sl, hL⟩ := u.any ho I.free (by simp)
 exact I.step (g' := s.gens) (d' := s.drawn) (ch := []) (fun _ z => nomatch z) (fun b o _ hb _ e n => u.keep b o e n hb (by simp)) (fun b o _ hb _ e n => u.slot b o e n hb (by simp)) (fun b o _ e n => u.free b o e n (by simp)) (fun b o _ e => u.there b o e (by simp)) u.tups u.frzs u.tbls (fun m' hm => by
  obtain ⟨o', es', ep', ho', r'⟩ := hm
  rw [ho] at ho'; cases ho'
  exact ⟨_, es', ep', hL, r'⟩) hok I.bare
theorem Inv.call {g' : Array GenState} {t' : Nat} {d' : Drawn} {ch : List Addr} (I : Inv X pins σ H s) (u : Un (frs X.stack) ch H H' s.heap h') (hok : HOk X.prog X.w H' h') (hg : AllBare g')
  (hch : ∀ b ∈ ch, (b ∈ X.ex \/ X.s₀.heap.objs.size <= b) /\ b ≠ X.env.locals /\ (∀ x c, X.env.cells.lookup x = some c -> c ≠ b) /\ ∀ p ∈ X.pn ++ pins, p.1 ≠ b) :
  Inv X pins σ H' { s with heap := h', gens := g', drawn := d', toks := t' } := by
 obtain ⟨m, ⟨o, es, ep, ho, r⟩, _⟩ := id I.loc
 obtain ⟨sl, hL⟩ := u.any ho I.free fun z => (hch _ z).2.1 rfl
 exact I.step (ch := ch) hch (fun b o hL hb hc e n => u.keep b o e n (fun z => (List.mem_cons.mp (I.stkSub b z)).elim hL hb) hc) (fun b o _ _ hc e n => u.any e n hc) (fun b o hc e n => u.free b o e n hc) (fun b o hc e => u.there b o e hc) u.tups u.frzs u.tbls (fun m' hm => by
  obtain ⟨o', es', ep', ho', r'⟩ := hm
  rw [ho] at ho'; cases ho'
  exact ⟨_, es', ep', hL, r'⟩) hok hg
theorem Inv.turned {t' : Nat} {it : Addr} (I : Inv X pins σ H s) (k : ∀ b o, b ≠ it -> s.heap.get? b = some o -> h'.get? b = some o) (hn : H it = none) (hL : it ≠ X.env.locals)
  (h1 : it ∈ X.ex \/ X.s₀.heap.objs.size <= it) (h2 : ∀ x c, X.env.cells.lookup x = some c -> c ≠ it) (h3 : ∀ p ∈ X.pn ++ pins, p.1 ≠ it) : Inv X pins σ H { s with heap := h', toks := t' } := by
 have nit : ∀ b u, H b = some u -> b ≠ it := fun b u e z => by rw [z, hn] at e; cases e
 refine I.step (g' := s.gens) (d' := s.drawn) (ch := [it]) (fun b hb => ?_) (fun b o _ _ hc e _ => k b o (fun z => hc (by simp [z])) e) (fun b o _ _ hc e _ => ⟨o.slots, k b o (fun z => hc (by simp [z])) e⟩) (fun _ _ _ _ n => n)
  (fun b o hc e => ⟨o, k b o (fun z => hc (by simp [z])) e⟩) (fun _ _ e => e) (fun _ _ _ e => e) (fun b ps e => ⟨#[], by rw [e]; simp⟩) (fun m hm => ?_) (fun b u e => ?_) I.bare
 ·have e : b = it := by simpa using hb
  subst e
  exact ⟨h1, hL, h2, h3⟩
 ·obtain ⟨o, es, ep, ho, r⟩ := hm
  exact ⟨o, es, ep, k _ o (Ne.symm hL) ho, r⟩
 ·refine (I.hok b u e).stay (fun c v hc q => k c v ?_ q) (fun _ q => q) fun _ _ q => q
  rcases hc with z | z
  ·rw [z]; exact nit b u e
  ·exact nit c _ z
theorem Inv.tok (I : Inv X pins σ H s) (t : Nat) : Inv X pins σ H { s with toks := t } := I.un (h' := s.heap) (t' := t) Un.refl I.hok
theorem Inv.kept {t' : Nat} (I : Inv X pins σ H s) (k : ∀ b u, s.heap.get? b = some u -> h'.get? b = some u) : Inv X pins σ H { s with heap := h', toks := t' } := I.un (Un.kept k) (I.hok.kept k)
theorem Inv.laid {a : Addr} {o : HO} {t' : Nat} (I : Inv X pins σ H s) (k : ∀ b u, s.heap.get? b = some u -> h'.get? b = some u) (hp : s.heap.objs.size <= a) (new : ObjOk X.prog X.w (upd H a o) h' a o) :
  Inv X pins σ (upd H a o) { s with heap := h', toks := t' } := I.un (Un.laid k hp (I.hok.fresh hp)) (I.hok.laid k hp new)
theorem Inv.write {x e : Addr} {o : HO} {t' : Nat} (I : Inv X pins σ H s) (mu : Mut (H x)) (he : e = x \/ H e = some (.own x)) (k : ∀ b u, b ≠ e -> s.heap.get? b = some u -> h'.get? b = some u) (heo : ∃ u, h'.get? e = some u)
  (new : ObjOk X.prog X.w (upd H x o) h' x o) : Inv X pins σ (upd H x o) { s with heap := h', toks := t' } := I.un (Un.write mu he k heo) (I.hok.write mu he k heo new)
theorem Inv.xT {pins' : List (Addr × Obj)} (I : Inv X pins σ H s) (h : ∀ p ∈ pins', s.heap.get? p.1 = some p.2 /\ H p.1 = none /\ p.1 ≠ X.env.locals /\ p.1 ∉ X.fs /\ ∀ v, p.2.data ≠ .cell v) : Inv X pins' σ H s :=
 ⟨I.ok, I.os, I.bare, I.base, I.loc, I.cell, I.free, I.freeC, fun p hp => (List.mem_append.mp hp).elim (fun z => I.pin p (List.mem_append_left _ z)) (h p), I.hok, I.len⟩
theorem fV {N : List Str} (hN : N.Nodup) {i j : Nat} {x : Str} (a : N[i]? = some x) (b : N[j]? = some x) : i = j := by
 obtain ⟨h1, e1⟩ := List.getElem?_eq_some_iff.mp a
 obtain ⟨h2, e2⟩ := List.getElem?_eq_some_iff.mp b
 exact (List.getElem_inj hN).mp (e1.trans e2.symm)
theorem zJ3 {M : Model} {A : Around} {E : Value -> Shared -> Prop} {i : Nat} {x : Str} {v : V} {u : Value} {Q : Unit -> Shared -> Prop} (I : Inv X pins σ H s) (hN : X.N.Nodup) (hi : X.N[i]? = some x) (hx : Loc X.env.scope x) (r : RelV v u)
  (h : ∀ s', Inv X pins (σ.set i (some v)) H s' -> (∃ a, Heap.SameBut a s.heap s'.heap /\ (a = X.env.locals \/ X.env.cells.lookup x = some a)) -> Q () s') (hf : autoParam (X.fn x = true \/ X.env.scope.names.lookup x = some .local) gY._auto_1) : wpAny M A (storeName X.env x u) Q E s := by
 obtain ⟨m, hn, hl⟩ := id I.loc
 have hcls : (X.env.scope.kind == .class || (X.env.scope.kind == .module && X.env.locals != X.env.globals)) = false := by rw [I.ok.kind]; rfl
 have hiσ : i < σ.length := by rw [I.len]; exact (List.getElem?_eq_some_iff.mp hi).1
 have cne := I.cne
 have tracked : ∀ {a : Addr} {h' : Heap}, (∃ o, s.heap.get? a = some o /\ H a = none) -> Heap.SameBut a s.heap h' -> HOk X.prog X.w H h' := fun {a h'} ha hs b ob e => by
  obtain ⟨_, _, hfree⟩ := ha
  refine (I.hok b ob e).stay (fun c w' hc q => (hs.2 c ?_).trans q) (fun _ q => q) fun _ _ q => q
  rintro rfl
  rcases hc with rfl | hc
  ·rw [hfree] at e; cases e
  ·rw [hfree] at hc; cases hc
 rcases hx with hk | hk
 ·refine wpAny_storeName_local hk hn (fun h' hn' hs => ?_) hcls
  obtain ⟨oL, _, _, hoL, _⟩ := id hn
  refine h _ ⟨I.ok, I.os, I.bare, ⟨fun b o e n hb hx => ?_, fun b o e n hb hx => ?_, I.base.free, fun b o e hx => ?_, I.base.tups, I.base.frzs, I.base.tbls⟩, ⟨_, hn', fun j y v' e1 e2 e3 => ?_⟩, fun y c e => ?_, I.free, I.freeC, fun p hp => ?_, tracked ⟨oL, hoL, I.free⟩ hs, by simpa using I.len⟩ ⟨_, hs, .inl rfl⟩
  ·exact (hs.2 b (Nat.ne_of_lt (Nat.lt_of_lt_of_le (Heap.lt_size e) I.ok.above))).trans (I.base.keep b o e n hb hx)
  ·obtain ⟨sl, e1⟩ := I.base.slot b o e n hb hx
   exact ⟨sl, (hs.2 b (Nat.ne_of_lt (Nat.lt_of_lt_of_le (Heap.lt_size e) I.ok.above))).trans e1⟩
  ·obtain ⟨o', e1⟩ := I.base.there b o e hx
   exact ⟨o', (hs.2 b (Nat.ne_of_lt (Nat.lt_of_lt_of_le (Heap.lt_size e) I.ok.above))).trans e1⟩
  ·by_cases hj : j = i
   ·subst hj
    rw [hi] at e1; cases e1
    rw [List.getElem?_set_self hiσ] at e2
    cases e2
    exact ⟨u, r, .inl ⟨hk, by simp⟩⟩
   ·rw [List.getElem?_set_ne (Ne.symm hj)] at e2
    obtain ⟨u', r', q⟩ := hl j y v' e1 e2 e3
    refine ⟨u', r', ?_⟩
    rcases q with ⟨k, e⟩ | ⟨k, c, e, z⟩
    ·refine .inl ⟨k, ?_⟩
     have : y ≠ x := fun e => hj (fV hN e1 (e ▸ hi))
     simp [this, e]
    ·exact .inr ⟨k, c, e, z.sameBut hs (cne y c e)⟩
  ·obtain ⟨w', z⟩ := I.cell y c e
   exact ⟨w', z.sameBut hs (cne y c e)⟩
  ·obtain ⟨e, n, ne, nf, d⟩ := I.pin p hp
   exact ⟨(hs.2 p.1 ne).trans e, n, ne, nf, d⟩
 ·have hfn : X.fn x = true := by
   rcases hf with z | z
   ·exact z
   ·rw [z] at hk; cases hk
  obtain ⟨c, hc⟩ := I.ok.has x (.inl hk)
  obtain ⟨w', z⟩ := I.cell x c hc
  refine wpAny_storeName_cell I.ok.kind hk hc z (fun h' hc' hs => ?_)
  obtain ⟨oc, hoc, hocd⟩ := id z
  refine h { s with heap := h' } ⟨I.ok, I.os, I.bare, ⟨fun b o e n hb hx => ?_, fun b o e n hb hx => ?_, I.base.free, fun b o e hx => ?_, I.base.tups, I.base.frzs, I.base.tbls⟩, ⟨m, hn.sameBut hs (Ne.symm (cne x c hc)), fun j y v' e1 e2 e3 => ?_⟩, fun y c' e => ?_, I.free, I.freeC, fun p hp => ?_, tracked ⟨oc, hoc, I.freeC x c hc⟩ hs, by simpa using I.len⟩ ⟨c, hs, .inr hc⟩
  ·exact (hs.2 b (Nat.ne_of_lt (Nat.lt_of_lt_of_le (Heap.lt_size e) (I.ok.cab x c hfn hc)))).trans (I.base.keep b o e n hb hx)
  ·obtain ⟨sl, e1⟩ := I.base.slot b o e n hb hx
   exact ⟨sl, (hs.2 b (Nat.ne_of_lt (Nat.lt_of_lt_of_le (Heap.lt_size e) (I.ok.cab x c hfn hc)))).trans e1⟩
  ·obtain ⟨o', e1⟩ := I.base.there b o e hx
   exact ⟨o', (hs.2 b (Nat.ne_of_lt (Nat.lt_of_lt_of_le (Heap.lt_size e) (I.ok.cab x c hfn hc)))).trans e1⟩
  ·by_cases hj : j = i
   ·subst hj
    rw [hi] at e1; cases e1
    rw [List.getElem?_set_self hiσ] at e2
    cases e2
    exact ⟨u, r, .inr ⟨.inl hk, c, hc, hc'⟩⟩
   ·rw [List.getElem?_set_ne (Ne.symm hj)] at e2
    obtain ⟨u', r', q⟩ := hl j y v' e1 e2 e3
    refine ⟨u', r', ?_⟩
    rcases q with q | ⟨k, c', e, z'⟩
    ·exact .inl q
    ·refine .inr ⟨k, c', e, z'.sameBut hs ?_⟩
     rintro rfl
     exact hj (fV hN e1 (I.ok.inj _ _ _ e hc ▸ hi))
  ·by_cases hcc : c' = c
   ·subst hcc; exact ⟨_, hc'⟩
   ·obtain ⟨w2, z2⟩ := I.cell y c' e
    exact ⟨w2, z2.sameBut hs hcc⟩
  ·obtain ⟨e, n, ne, nf, d⟩ := I.pin p hp
   refine ⟨(hs.2 p.1 ?_).trans e, n, ne, nf, d⟩
   intro q
   rw [q, hoc] at e
   have q' : oc = p.2 := Option.some.inj e
   exact d w' (by rw [<- q']; exact hocd)
theorem qT {M : Model} {A : Around} {E : Value -> Shared -> Prop} {i : Nat} {x : Str} {v : V} {u : Value} {Q : Unit -> Shared -> Prop} (I : Inv X pins σ H s) (hN : X.N.Nodup) (hi : X.N[i]? = some x) (hx : Loc X.env.scope x) (r : RelV v u)
  (h : ∀ s', Inv X pins (σ.set i (some v)) H s' -> Q () s') (hf : autoParam (X.fn x = true \/ X.env.scope.names.lookup x = some .local) gY._auto_1) : wpAny M A (storeName X.env x u) Q E s :=
 zJ3 I hN hi hx r (fun s' I' _ => h s' I') hf
theorem Inv.call' {s' : Shared} {ch : List Addr} (I : Inv X pins σ H s) (ho : s'.os = s.os) (u : Un (frs X.stack) ch H H' s.heap s'.heap) (hok : HOk X.prog X.w H' s'.heap) (hg : AllBare s'.gens)
  (hch : ∀ b ∈ ch, (b ∈ X.ex \/ X.s₀.heap.objs.size <= b) /\ b ≠ X.env.locals /\ (∀ x c, X.env.cells.lookup x = some c -> c ≠ b) /\ ∀ p ∈ X.pn ++ pins, p.1 ≠ b) : Inv X pins σ H' s' := by
 obtain ⟨h', g', d', t', o'⟩ := s'
 have e : o' = s.os := ho
 subst e
 exact I.call (g' := g') (t' := t') (d' := d') u hok hg hch
end
abbrev XK := Value -> Option Addr -> Hp -> Prop
abbrev St := List (Option V)
abbrev VK := V -> Hp -> Prop
abbrev TE := St -> Hp -> VK -> Prop
abbrev TT := St -> Hp -> (Bool -> Hp -> Prop) -> Prop
abbrev TA := St -> Hp -> (List V -> Hp -> Prop) -> Prop
structure Ends where
 nx : St -> Hp -> Prop
 rt : VK
 bk : St -> Hp -> Prop := fun _ _ => False
 ct : St -> Hp -> Prop := fun _ _ => False
abbrev TS := Ends -> St -> Hp -> Prop
def EP (X : Cx) (pins : List (Addr × Obj)) (σ : St) (Q : VK) (u : Value) (s' : Shared) : Prop := ∃ v H', Inv X pins σ H' s' /\ RelV v u /\ Q v H'
def TP (X : Cx) (pins : List (Addr × Obj)) (σ : St) (Q : Bool -> Hp -> Prop) (b : Bool) (s' : Shared) : Prop := ∃ H', Inv X pins σ H' s' /\ Q b H'
def AP (X : Cx) (pins : List (Addr × Obj)) (σ : St) (Q : List V -> Hp -> Prop) (us : List Value) (s' : Shared) : Prop := ∃ vs H', Inv X pins σ H' s' /\ Vals vs us /\ Q vs H'
def SP (X : Cx) (pins : List (Addr × Obj)) (D : Ends) (f : Flow) (s' : Shared) : Prop :=
 match f with
 | .next => ∃ σ' H', Inv X pins σ' H' s' /\ D.nx σ' H'
 | .brk => ∃ σ' H', Inv X pins σ' H' s' /\ D.bk σ' H'
 | .cont => ∃ σ' H', Inv X pins σ' H' s' /\ D.ct σ' H'
 | .ret u => ∃ v σ' H', Inv X pins σ' H' s' /\ RelV v u /\ D.rt v H'
def PE (X : Cx) (e : Expr) (t : TE) : Prop :=
 ∀ (pins : List (Addr × Obj)) (s : Shared) (σ : St) (H : Hp) (Q : VK), Inv X pins σ H s -> t σ H Q -> wpAny (model X.prog X.w) X.A (eval e X.env) (EP X pins σ Q) X.xe s
def PT (X : Cx) (e : Expr) (t : TT) : Prop :=
 ∀ (pins : List (Addr × Obj)) (s : Shared) (σ : St) (H : Hp) (Q : Bool -> Hp -> Prop), Inv X pins σ H s -> t σ H Q -> wpAny (model X.prog X.w) X.A (isTrue e X.env (eval e X.env)) (TP X pins σ Q) X.xe s
def PW (X : Cx) (e : Expr) (t : TT) : Prop :=
 ∀ (whole : Sem Value) (pins : List (Addr × Obj)) (s : Shared) (σ : St) (H : Hp) (Q : Bool -> Hp -> Prop), Inv X pins σ H s -> t σ H Q -> wpAny (model X.prog X.w) X.A (isTrue e X.env whole) (TP X pins σ Q) X.xe s
theorem PW.pt {X : Cx} {e : Expr} {t : TT} (h : PW X e t) : PT X e t := h _
def PA (X : Cx) (es : List Expr) (t : TA) : Prop :=
 ∀ (pos : Pos) (pins : List (Addr × Obj)) (s : Shared) (σ : St) (H : Hp) (Q : List V -> Hp -> Prop), Inv X pins σ H s -> t σ H Q -> wpAny (model X.prog X.w) X.A (spliced (backTo pos (starEach es X.env))) (AP X pins σ Q) X.xe s
def PS (X : Cx) (st : Stmt) (t : TS) : Prop :=
 ∀ (pins : List (Addr × Obj)) (s : Shared) (σ : St) (H : Hp) (D : Ends), Inv X pins σ H s -> t D σ H -> wpAny (model X.prog X.w) X.A (exec st X.env) (SP X pins D) X.xe s
def PSs (X : Cx) (st : List Stmt) (t : TS) : Prop :=
 ∀ (pins : List (Addr × Obj)) (s : Shared) (σ : St) (H : Hp) (D : Ends), Inv X pins σ H s -> t D σ H -> wpAny (model X.prog X.w) X.A (execs st X.env) (SP X pins D) X.xe s
theorem thn {α : Type} {t : Sem α} {Q Q' : α -> Shared -> Prop} {M : Model} {A : Around} {E : Value -> Shared -> Prop} {s : Shared} (h : wpAny M A t Q E s) (hQ : ∀ a s, Q a s -> Q' a s) : wpAny M A t Q' E s := wpAny_mono h hQ fun _ _ x => x
section
variable {X : Cx}
def tVar (i : Nat) : TE := fun σ H Q => ∃ v, σ[i]? = some (some v) /\ Q v H
def tC (v : V) : TE := fun _ H Q => Q v H
theorem gZ {i : Nat} {x : Str} {pos : Pos} (hN : X.N[i]? = some x) (hv : Vis X.env.scope x) (hd : autoParam ((x == ("__debug__" : Str)) = false) zJ._auto_1) (hcd : autoParam ((x == ("__classdict__" : Str)) = false) zJ._auto_1) : PE X (.Name x pos) (tVar i) := by
 intro pins s σ H Q I h
 obtain ⟨v, e, h⟩ := h
 obtain ⟨m, hn, hl⟩ := I.loc
 obtain ⟨u, r, l⟩ := hl i x v hN e hv
 have fin : EP X pins σ Q u s := ⟨v, H, I, r, h⟩
 rcases l with ⟨hk, hm⟩ | ⟨hk, c, hc, hcell⟩
 ·exact wpAny_Name (wpAny_loadName_local I.ok.kind hk hn hm fin) hd
 ·rcases hk with hk | hk
  ·exact wpAny_Name (wpAny_loadName_cell I.ok.kind hk hc hcell fin) hd
  ·exact wpAny_Name (wpAny_loadName_free I.ok.kind hk hc hcell fin hcd) hd
theorem zK {i j pos} : PE X (.Constant (.int i) j pos) (tC (.int i)) := fun _ _ _ H _ I h => wpAny_Constant_int ⟨.int i, H, I.tok _, ⟨_, rfl⟩, h⟩
theorem yL7 {b j pos} : PE X (.Constant (.bool b) j pos) (tC (.bl b)) := fun _ _ _ H _ I h => Constant_bool ⟨.bl b, H, I, rfl, h⟩
theorem vG {j pos} : PE X (.Constant .none j pos) (tC .non) := fun _ _ _ H _ I h => Constant_none ⟨.non, H, I, rfl, h⟩
theorem yS6 {x j pos} : PE X (.Constant (.str x) j pos) (tC (.str x)) := fun _ _ _ H _ I h => Calls.Constant_str ⟨.str x, H, I.tok _, ⟨_, rfl⟩, h⟩
def Gl (X : Cx) (x : Str) : Prop := X.env.kindOf x = some .globalImplicit
theorem gI {E : Value -> Shared -> Prop} {pins : List (Addr × Obj)} {s : Shared} {σ : St} {H : Hp} {x : Str} {u : Value} {pos : Pos} {Q : Value -> Shared -> Prop} (I : Inv X pins σ H s) (hg : Gl X x) (hm : X.mg x = some u) (h : Q u s)
  (hd : autoParam ((x == ("__debug__" : Str)) = false) zJ._auto_1) : wpAny (model X.prog X.w) X.A (eval (.Name x pos) X.env) Q E s :=
 Calls.Name_function_global I.ok.kind hg (Calls.loadGlobal_global (by rw [I.ok.glob]; exact I.mod.glob.keeps I.bk) hm h) hd
theorem kD {E : Value -> Shared -> Prop} {pins : List (Addr × Obj)} {s : Shared} {σ : St} {H : Hp} {x : Str} {u : Value} {pos : Pos} {Q : Value -> Shared -> Prop} (I : Inv X pins σ H s) (hg : Gl X x) (hm : X.mg x = none) (hv : bootBuiltins x = some u) (h : Q u s)
  (hn : autoParam (x ≠ "__name__") zJ._auto_1) (hd : autoParam ((x == ("__debug__" : Str)) = false) zJ._auto_1) : wpAny (model X.prog X.w) X.A (eval (.Name x pos) X.env) Q E s := by
 obtain ⟨mb, h1, h2⟩ := I.mod.blt
 exact Calls.Name_function_global I.ok.kind hg (Calls.loadGlobal_builtin (by rw [I.ok.glob]; exact I.mod.glob.keeps I.bk) hm (by rw [I.ok.blt]; exact h1.keeps I.bk) ((h2 x hn).trans hv) h) hd
theorem dN {x : Str} {v : V} {u : Value} {pos : Pos} (hg : Gl X x) (hm : X.mg x = some u) (r : RelV v u) (hd : autoParam ((x == ("__debug__" : Str)) = false) zJ._auto_1) : PE X (.Name x pos) (tC v) :=
 fun _ _ _ H _ I h => gI I hg hm ⟨v, H, I, r, h⟩ hd
theorem yY8 {x : Str} {v : V} {u : Value} {pos : Pos} (hg : Gl X x) (hm : X.mg x = none) (hv : bootBuiltins x = some u) (r : RelV v u) (hn : autoParam (x ≠ "__name__") zJ._auto_1) (hd : autoParam ((x == ("__debug__" : Str)) = false) zJ._auto_1) : PE X (.Name x pos) (tC v) :=
 fun _ _ _ H _ I h => kD I hg hm hv ⟨v, H, I, r, h⟩ hn hd
def t2I (ta tb : TE) (k : Int -> Int -> Hp -> Prop) : St -> Hp -> Prop := fun σ H => ta σ H fun x H1 => tb σ H1 fun y H2 => ∃ i j, x = .int i /\ y = .int j /\ k i j H2
def tMul (ta tb : TE) : TE := fun σ H Q => t2I ta tb (fun i j H2 => (-(2 ^ 64) < i /\ i < 2 ^ 64) /\ Q (.int (i * j)) H2) σ H
variable {a b : Expr} {ta tb : TE} {pos : Pos}
def tB (t : TE) : TT := fun σ H Q => t σ H fun x H1 => ∃ c, x = .bl c /\ Q c H1
theorem zM9 {e : Expr} {t : TE} (h : PE X e t) (he : autoParam (∀ whole, isTrue e X.env whole = (do let v <- whole; standAt e.pos; holding [v] (truthy v))) xD._auto_1) : PT X e (tB t) := by
 intro pins s σ H Q I hw
 refine isTrue_plain (thn (h pins s σ H _ I hw) fun v s1 ⟨x, H1, I1, r1, q1⟩ => ?_) (he _)
 obtain ⟨d, rfl, q⟩ := q1
 cases r1
 exact wpAny_truthy_bool ⟨H1, I1, q⟩
variable {tA tB' : TT} {rest : List Expr}
def tAnd (t u : TT) : TT := fun σ H Q => t σ H fun c H1 => if c = true then u σ H1 Q else Q false H1
def tOr (t u : TT) : TT := fun σ H Q => t σ H fun c H1 => if c = true then Q true H1 else u σ H1 Q
def tNot (t : TT) : TT := fun σ H Q => t σ H fun c H1 => Q (!c) H1
theorem pw_and1 (ha : PT X a tA) : PW X (.BoolOp .And [a] pos) tA := by
 intro wh pins s σ H Q I h
 refine isTrue_and (thn (ha pins s σ H Q I h) fun c s1 e => ?_)
 cases c with
 | true => exact isTrue_and_nil e
 | false => exact e
theorem pw_or1 (ha : PT X a tA) : PW X (.BoolOp .Or [a] pos) tA := by
 intro wh pins s σ H Q I h
 refine isTrue_or (thn (ha pins s σ H Q I h) fun c s1 e => ?_)
 cases c with
 | false => exact isTrue_or_nil e
 | true => exact e
theorem pw_and (ha : PT X a tA) (hb : PW X (.BoolOp .And (b :: rest) pos) tB') : PW X (.BoolOp .And (a :: b :: rest) pos) (tAnd tA tB') := by
 intro wh pins s σ H Q I h
 refine isTrue_and (thn (ha pins s σ H _ I h) fun c s1 ⟨H1, I1, q1⟩ => ?_)
 cases c with
 | true => exact hb wh pins s1 σ H1 Q I1 q1
 | false => exact ⟨H1, I1, q1⟩
theorem pw_or (ha : PT X a tA) (hb : PW X (.BoolOp .Or (b :: rest) pos) tB') : PW X (.BoolOp .Or (a :: b :: rest) pos) (tOr tA tB') := by
 intro wh pins s σ H Q I h
 refine isTrue_or (thn (ha pins s σ H _ I h) fun c s1 ⟨H1, I1, q1⟩ => ?_)
 cases c with
 | true => exact ⟨H1, I1, q1⟩
 | false => exact hb wh pins s1 σ H1 Q I1 q1
theorem yR1 (ha : PT X a tA) : PT X (.UnaryOp .Not a pos) (tNot tA) := by
 intro pins s σ H Q I h
 exact isTrue_not (ha pins s σ H (fun c H1 => Q (!c) H1) I h)
end
def SqL (K : KFr) (H : Hp) (a : Addr) (xs : List V) : Prop :=
 Rd H a (.lst xs) \/
  ∃ (o : Obj) (its : Array Value) (n : Nat), K.lookup a = some o /\ o.cls = .type "list" /\ o.dict = none /\ o.data = .seq its n /\ its.size <= sizeLine /\ Vals xs its.toList
def SqT (K : KFr) (H : Hp) (a : Addr) (xs : List V) : Prop :=
 Rd H a (.tup xs) \/
  ∃ (o : Obj) (its : Array Value) (n : Nat), K.lookup a = some o /\ o.cls = .type "tuple" /\ o.data = .seq its n /\ its.size <= sizeLine /\ Vals xs its.toList
def absV : Value -> Option V
 | .none => some .non
 | .bool b => some (.bl b)
 | .int i _ => some (.int i)
 | .str x _ => some (.str x)
 | .bytes b _ => some (.byt b)
 | .float b _ => some (.flt b)
 | .ref a => some (.ref a)
 | .type n => some (.ty n)
 | _ => none
theorem RelV.abs {x : V} {u : Value} (r : RelV x u) : absV u = some x := by
 cases x with
 | non => cases r; rfl
 | bl _ => cases r; rfl
 | int _ => obtain ⟨t, rfl⟩ := r; rfl
 | str _ => obtain ⟨t, rfl⟩ := r; rfl
 | byt _ => obtain ⟨t, rfl⟩ := r; rfl
 | flt _ => obtain ⟨t, rfl⟩ := r; rfl
 | ref _ => cases r; rfl
 | ty _ => cases r; rfl
theorem RelV.inj {x y : V} {u : Value} (r : RelV x u) (q : RelV y u) : x = y := Option.some.inj (r.abs.symm.trans q.abs)
theorem Vals.inj : ∀ {xs ys : List V} {us : List Value}, Vals xs us -> Vals ys us -> xs = ys
 | _, _, _, .nil, .nil => rfl
 | _, _, _, .cons r t, .cons r' t' => by rw [r.inj r', Vals.inj t t']
section
variable {X : Cx} {pins : List (Addr × Obj)} {σ : St} {H : Hp} {s : Shared} {a : Addr} {xs ys : List V}
theorem SqL.of {K : KFr} (h : H a = some (.lst xs)) : SqL K H a xs := .inl (.inl h)
theorem SqT.of {K : KFr} (h : H a = some (.tup xs)) : SqT K H a xs := .inl (.inl h)
theorem Inv.list (I : Inv X pins σ H s) (h : SqL X.K H a xs) : ∃ its : List Value, Vals xs its /\ PlainL s.heap a its.toArray /\ xs.length <= sizeLine := by
 rcases h with h | ⟨o, its, n, hk, hc, hd, hs, hz, r⟩
 ·obtain ⟨z, its, n, r, e⟩ := h.ok I.hok
  exact ⟨its, r, ⟨_, n, e, rfl, rfl, rfl⟩, z⟩
 ·refine ⟨its.toList, r, ⟨o, n, I.kIn a o hk, hc, hd, by simpa using hs⟩, ?_⟩
  have e := r.length
  simp only [Array.length_toList] at e
  bv_omega
theorem Inv.tuple (I : Inv X pins σ H s) (h : SqT X.K H a xs) : ∃ its : List Value, Vals xs its /\ IsTup s.heap a its.toArray /\ xs.length <= sizeLine := by
 rcases h with h | ⟨o, its, n, hk, hc, hs, hz, r⟩
 ·obtain ⟨z, its, r, p⟩ := h.ok I.hok
  exact ⟨its, r, p.tup, z⟩
 ·refine ⟨its.toList, r, ⟨o, I.kIn a o hk, hc, n, by simpa using hs⟩, ?_⟩
  have e := r.length
  simp only [Array.length_toList] at e
  bv_omega
theorem Inv.aX (I : Inv X pins σ H s) (h : SqL X.K H a xs) (h' : SqL X.K H a ys) : xs = ys := by
 obtain ⟨its, r, ⟨o, n, e, _, _, d⟩, _⟩ := I.list h
 obtain ⟨its', r', ⟨o', n', e', _, _, d'⟩, _⟩ := I.list h'
 rw [e] at e'; cases e'
 rw [d] at d'
 injection d' with d1 _
 have : its = its' := by simpa using congrArg Array.toList d1
 subst this
 exact r.inj r'
theorem Inv.cK (I : Inv X pins σ H s) (h : SqT X.K H a xs) (h' : SqT X.K H a ys) : xs = ys := by
 obtain ⟨its, r, ⟨o, e, _, n, d⟩, _⟩ := I.tuple h
 obtain ⟨its', r', ⟨o', e', _, n', d'⟩, _⟩ := I.tuple h'
 rw [e] at e'; cases e'
 rw [d] at d'
 injection d' with d1 _
 have : its = its' := by simpa using congrArg Array.toList d1
 subst this
 exact r.inj r'
end
abbrev Cx.wish (X : Cx) (E : Value -> Shared -> Prop) : Cx := { X with xe := E }
abbrev Cx.nox (X : Cx) : Cx := X.wish fun _ _ => False
theorem Cx.Ok.wish {X : Cx} (ok : X.Ok) (E : Value -> Shared -> Prop) : (X.wish E).Ok :=
 ⟨ok.mod, ok.kind, ok.glob, ok.blt, ok.above, ok.inj, ok.has, ok.cab, ok.hd, ok.frames, ok.stk, ok.exf, ok.bs, ok.bsz, ok.noex, ok.exfs, ok.funs, ok.frf⟩
theorem Cx.Ok.unwish {X : Cx} {E : Value -> Shared -> Prop} (ok : (X.wish E).Ok) : X.Ok :=
 ⟨ok.mod, ok.kind, ok.glob, ok.blt, ok.above, ok.inj, ok.has, ok.cab, ok.hd, ok.frames, ok.stk, ok.exf, ok.bs, ok.bsz, ok.noex, ok.exfs, ok.funs, ok.frf⟩
section
variable {X : Cx} {pins : List (Addr × Obj)} {σ : St} {H : Hp} {s : Shared} {E : Value -> Shared -> Prop}
theorem Inv.wish (I : Inv X pins σ H s) (E : Value -> Shared -> Prop) : Inv (X.wish E) pins σ H s := ⟨I.ok.wish E, I.os, I.bare, I.base, I.loc, I.cell, I.free, I.freeC, I.pin, I.hok, I.len⟩
theorem Inv.unwish (I : Inv (X.wish E) pins σ H s) : Inv X pins σ H s := ⟨I.ok.unwish, I.os, I.bare, I.base, I.loc, I.cell, I.free, I.freeC, I.pin, I.hok, I.len⟩
theorem SP.unwish {D : Ends} {f : Flow} {s' : Shared} (h : SP (X.wish E) pins D f s') : SP X pins D f s' := by
 cases f with
 | next => obtain ⟨σ', H', I, q⟩ := h; exact ⟨σ', H', I.unwish, q⟩
 | brk => obtain ⟨σ', H', I, q⟩ := h; exact ⟨σ', H', I.unwish, q⟩
 | cont => obtain ⟨σ', H', I, q⟩ := h; exact ⟨σ', H', I.unwish, q⟩
 | ret u => obtain ⟨v, σ', H', I, r, q⟩ := h; exact ⟨v, σ', H', I.unwish, r, q⟩
theorem PSs.nox {st : List Stmt} {t : TS} (h : PSs X.nox st t) : PSs X st t := fun pins s σ H D I hw =>
 wpAny_mono (h pins s σ H D (I.wish _) hw) (fun _ _ q => q.unwish) fun _ _ z => False.elim z
end
section
variable {X : Cx} {st : Stmt} {rest : List Stmt} {t u : TS} {e : Expr} {te : TE} {pos : Pos}
def tNext : TS := fun D σ H => D.nx σ H
def tSeq (t u : TS) : TS := fun D σ H => t { D with nx := u D } σ H
theorem cY : PSs X [] tNext := fun _ _ σ H _ I h => wpAny_execs_nil ⟨σ, H, I, h⟩
theorem zI (h1 : PS X st t) (h2 : PSs X rest u) : PSs X (st :: rest) (tSeq t u) := by
 intro pins s σ H D I h
 refine wpAny_execs_cons (thn (h1 pins s σ H { D with nx := u D } I h) fun f s1 q => ?_)
 cases f with
 | next =>
  obtain ⟨σ', H', I', q⟩ := q
  exact h2 pins s1 σ' H' D I' q
 | ret v => exact q
 | brk => exact q
 | cont => exact q
theorem zF (h1 : PS X st t) : PSs X [st] t := by
 intro pins s σ H D I h
 refine wpAny_execs_cons (thn (h1 pins s σ H D I h) fun f s1 q => ?_)
 cases f with
 | next => exact wpAny_execs_nil q
 | ret v => exact q
 | brk => exact q
 | cont => exact q
theorem Inv.quiet {pins : List (Addr × Obj)} {σ : St} {H : Hp} {s : Shared} (I : Inv X pins σ H s) : interactive X.env = false := by simp [interactive, I.ok.kind]
def tDrop (te : TE) : TS := fun D σ H => te σ H fun _ H1 => D.nx σ H1
theorem vF (he : PE X e te) (hs : autoParam (swapsWith e none pos.line X.env = pure false) zX._auto_1) : PS X (.Expr e pos) (tDrop te) := by
 intro pins s σ H D I h
 exact wpAny_Expr_any (thn (he pins s σ H _ I h) fun v s1 ⟨x, H1, I1, r1, q1⟩ => ⟨σ, H1, I1, q1⟩) I.quiet hs
def tRet (te : TE) : TS := fun D σ H => te σ H D.rt
theorem vI (he : PE X e te) : PS X (.Return (some e) pos) (tRet te) := by
 intro pins s σ H D I h
 exact wpAny_Return_some (thn (he pins s σ H _ I h) fun v s1 ⟨x, H1, I1, r1, q1⟩ => ⟨x, σ, H1, I1, r1, q1⟩)
def tIfS (c : TT) (t u : TS) : TS := fun D σ H => c σ H fun b H1 => if b = true then t D σ H1 else u D σ H1
theorem vU {c : Expr} {a b : List Stmt} {tc : TT} (hc : PT X c tc) (ha : PSs X a t) (hb : PSs X b u) : PS X (.If c a b pos) (tIfS tc t u) := by
 intro pins s σ H D I h
 refine wpAny_If (thn (hc pins s σ H _ I h) fun d s1 ⟨H1, I1, q1⟩ => ?_)
 cases d with
 | true => exact ha pins s1 σ H1 D I1 q1
 | false => exact hb pins s1 σ H1 D I1 q1
end
abbrev TG := V -> St -> Hp -> (St -> Hp -> Prop) -> Prop
abbrev TGs := List V -> St -> Hp -> (St -> Hp -> Prop) -> Prop
def PG (X : Cx) (target : Expr) (t : TG) : Prop :=
 ∀ (pins : List (Addr × Obj)) (s : Shared) (σ : St) (H : Hp) (v : V) (u : Value) (Q : St -> Hp -> Prop), Inv X pins σ H s -> RelV v u -> t v σ H Q ->
  wpAny (model X.prog X.w) X.A (assign target X.env u) (fun _ s' => ∃ σ' H', Inv X pins σ' H' s' /\ Q σ' H') X.xe s
def PGs (X : Cx) (ts : List Expr) (t : TGs) : Prop :=
 ∀ (pins : List (Addr × Obj)) (s : Shared) (σ : St) (H : Hp) (vs : List V) (us : List Value) (Q : St -> Hp -> Prop), Inv X pins σ H s -> Vals vs us -> t vs σ H Q ->
  wpAny (model X.prog X.w) X.A (assignInOrder ((assignEach ts X.env).map (·.2)) us) (fun _ s' => ∃ σ' H', Inv X pins σ' H' s' /\ Q σ' H') X.xe s
abbrev TSet := V -> V -> V -> Hp -> (Hp -> Prop) -> Prop
def PSet (X : Cx) (t : TSet) : Prop :=
 ∀ (pins : List (Addr × Obj)) (s : Shared) (σ : St) (H : Hp) (o i v : V) (ov iv u : Value) (Q : Hp -> Prop), Inv X pins σ H s -> RelV o ov -> RelV i iv -> RelV v u -> t o i v H Q ->
  wpAny (model X.prog X.w) X.A (setItem ov iv u) (fun _ s' => ∃ H', Inv X pins σ H' s' /\ Q H') X.xe s
section
variable {X : Cx} {pos : Pos}
def gName (i : Nat) : TG := fun v σ H Q => Q (σ.set i (some v)) H
theorem vM {i : Nat} {x : Str} (hN : X.N.Nodup) (hi : X.N[i]? = some x) (hx : Loc X.env.scope x) (hf : autoParam (X.fn x = true \/ X.env.scope.names.lookup x = some .local) gY._auto_1) : PG X (.Name x pos) (gName i) := by
 intro pins s σ H v u Q I r h
 exact wpAny_assign_Name (qT I hN hi hx r (fun s' I' => ⟨_, H, I', h⟩) hf)
def gNil : TGs := fun vs σ H Q => vs = [] /\ Q σ H
def gCons (t : TG) (u : TGs) : TGs := fun vs σ H Q => ∃ v r, vs = v :: r /\ t v σ H fun σ' H' => u r σ' H' Q
theorem cT : PGs X [] gNil := by
 intro pins s σ H vs us Q I r h
 obtain ⟨e, h⟩ := h
 subst e
 cases r
 exact assignInOrder_nil ⟨σ, H, I, h⟩
theorem uA {e : Expr} {es : List Expr} {t : TG} {u : TGs} (h1 : PG X e t) (h2 : PGs X es u)
  (hs : autoParam ((assignEach (e :: es) X.env).map (·.2) = assign e X.env :: (assignEach es X.env).map (·.2)) zX._auto_1) : PGs X (e :: es) (gCons t u) := by
 intro pins s σ H vs us Q I r h
 obtain ⟨v, vr, e1, h⟩ := h
 subst e1
 cases r with
 | cons r rr =>
  rw [hs]
  refine assignInOrder_cons (thn (h1 pins s σ H _ _ _ I r h) fun _ s1 ⟨σ1, H1, I1, q1⟩ => ?_)
  exact h2 pins s1 σ1 H1 _ _ Q I1 rr q1
def gTup (K : KFr) (n : Nat) (t : TGs) : TG := fun v σ H Q => ∃ a xs, v = .ref a /\ SqT K H a xs /\ xs.length = n /\ t xs σ H Q
theorem aZ {es : List Expr} {k : Nat} {t : TGs} {n : Nat} (hc : X.calm = true) (h : PGs X es t)
  (hn : autoParam ((assignEach es X.env).length = n) zX._auto_1) (hst : autoParam ((assignEach es X.env).findIdx? (·.1) = none) zX._auto_1) : PG X (.Tuple es k pos) (gTup X.K n t) := by
 intro pins s σ H v u Q I r hw
 obtain ⟨a, xs, e1, hq, hl, hw⟩ := hw
 subst e1
 cases r
 obtain ⟨its, rv, ht, hz⟩ := I.tuple hq
 refine assign_Tuple_tuple (I.ok.hd hc) ht (by simp [hn, <- hl, rv.length]) hst fun h' hx => ?_
 have I1 : Inv X pins σ H { s with heap := h' } := I.kept (t' := s.toks) fun b o e => hx b o (Nat.ne_of_lt (Heap.lt_size e)) e
 exact h pins _ σ H xs _ Q I1 (by simpa using rv) hw
def gSub (to ti : TE) (t : TSet) : TG := fun v σ H Q => to σ H fun o H1 => ti σ H1 fun i H2 => t o i v H2 fun H3 => Q σ H3
theorem uN {o i : Expr} {to ti : TE} {t : TSet} (ho : PE X o to) (hi : PE X i ti) (hs : PSet X t)
  (ha : ∀ v, assign (.Subscript o i pos) X.env v = (do
   let ov <- holding [v] (eval o X.env)
   let iv <- holding [v, ov] (eval i X.env)
   standAt pos
   holding [v, ov, iv] (setItem ov iv v)
   release [v, ov, iv] []) := by intro _; rfl) : PG X (.Subscript o i pos) (gSub to ti t) := by
 intro pins s σ H v u Q I r h
 rw [ha]
 refine wpAny_bind (wpAny_holding (thn (ho pins s σ H _ I h) fun ov s1 ⟨x, H1, I1, r1, q1⟩ => ?_))
 refine wpAny_bind (wpAny_holding (thn (hi pins s1 σ H1 _ I1 q1) fun iv s2 ⟨y, H2, I2, r2, q2⟩ => ?_))
 refine wpAny_bind (wpAny_standAt (wpAny_bind (wpAny_holding (thn (hs pins s2 σ H2 x y v ov iv u _ I2 r1 r2 r q2) fun _ s3 ⟨H3, I3, q3⟩ => ?_))))
 exact wpAny_release ⟨σ, H3, I3, q3⟩
def tAsg (te : TE) (g : TG) : TS := fun D σ H => te σ H fun x H1 => g x σ H1 D.nx
theorem vH {tg e : Expr} {te : TE} {g : TG} (he : PE X e te) (hg : PG X tg g) (hs : autoParam (swapsWithSole [tg] e pos.line X.env = pure false) zX._auto_1) (hw : autoParam (swappedStores [tg] e X.env = pure none) zX._auto_1)
  (h1 : autoParam ((assignEach [tg] X.env).map (·.2) = [assign tg X.env]) zX._auto_1) : PS X (.Assign [tg] e pos) (tAsg te g) := by
 intro pins s σ H D I h
 refine wpAny_Assign_stores (thn (he pins s σ H _ I h) fun v s1 ⟨x, H1, I1, r1, q1⟩ => ?_) hs hw
 rw [h1]
 exact thn (hg pins s1 σ H1 x v _ I1 r1 q1) fun _ s2 q => q
theorem yR {i : Nat} {x : Str} {e : Expr} {te : TE} {pos' : Pos} (hN : X.N.Nodup) (hi : X.N[i]? = some x) (hx : Loc X.env.scope x) (he : PE X e te) (hs : autoParam (swapsWith e (some (.Name x pos')) pos.line X.env = pure false) zX._auto_1) (hf : autoParam (X.fn x = true \/ X.env.scope.names.lookup x = some .local) gY._auto_1) :
  PS X (.Assign [.Name x pos'] e pos) (tAsg te (gName i)) := by
 intro pins s σ H D I h
 refine wpAny_Assign_Name (thn (he pins s σ H _ I h) fun v s1 ⟨y, H1, I1, r1, q1⟩ => ?_) hs
 exact qT I1 hN hi hx r1 (fun s2 I2 => ⟨_, H1, I2, q1⟩) hf
end
section
variable {X : Cx} {pos : Pos}
end
structure It where
 go : Nat -> Hp -> Prop
 yld : Nat -> Hp -> V -> Hp -> Prop
 stop : Nat -> Hp -> Prop
def FpOk (X : Cx) (pins : List (Addr × Obj)) (H : Hp) (b : Addr) : Prop :=
 H b = none /\ b ≠ X.env.locals /\ b ∉ X.fs /\ (b ∈ X.ex \/ X.s₀.heap.objs.size <= b) /\ (∀ x c, X.env.cells.lookup x = some c -> c ≠ b) /\ ∀ p ∈ X.pn ++ pins, p.1 ≠ b
theorem Inv.fpOk {X : Cx} {pins : List (Addr × Obj)} {σ : St} {H H' : Hp} {s : Shared} {b : Addr} (I : Inv X pins σ H s) (hb : s.heap.objs.size <= b) (hn : H' b = none) : FpOk X pins H' b := by
 refine ⟨hn, Nat.ne_of_gt (Nat.lt_of_lt_of_le I.lt hb), I.nofs hb, .inr (Nat.le_trans I.sz hb), fun x c e z => ?_, fun p hp z => ?_⟩
 ·obtain ⟨v, q⟩ := I.cell x c e
  exact absurd (Nat.lt_of_lt_of_le q.lt (by rw [z]; exact hb)) (Nat.lt_irrefl _)
 ·exact absurd (Nat.lt_of_lt_of_le (Heap.lt_size (I.pin p hp).1) (by rw [z]; exact hb)) (Nat.lt_irrefl _)
structure Turn (P : Program) (w : World) (K : KFr) (tg : Expr) (J : It) (fp : List Addr) (it : Addr) (tn : Nat -> Heap -> Prop) : Prop where
 mem : it ∈ fp
 obj : ∀ i h, tn i h -> ∀ b ∈ fp, ∃ o, h.get? b = some o /\ ∀ v, o.data ≠ .cell v
 keep : ∀ i h h', tn i h -> (∀ b ∈ fp, ∀ o, h.get? b = some o -> h'.get? b = some o) -> tn i h'
 item : ∀ (X : Cx), X.prog = P -> X.w = w -> X.K = K -> X.calm = true -> ∀ (i : Nat) (pins : List (Addr × Obj)) (s : Shared) (σ : St) (H : Hp) (E : Value -> Shared -> Prop), Inv X pins σ H s -> (∀ b ∈ fp, FpOk X pins H b) -> tn i s.heap -> J.go i H ->
  wpAny (model P w) X.A (pyNext (.ref it)) (fun r s1 => ∃ u, r = some u /\
   wpAny (model P w) X.A (letOwnedTupleGo tg (.ref it) u) (fun _ s2 => ∃ x H', Inv X pins σ H' s2 /\ RelV x u /\ J.yld i H x H' /\ tn (i + 1) s2.heap /\ ∀ b ∈ fp, H' b = none) E s1) E s
 done : ∀ (X : Cx), X.prog = P -> X.w = w -> X.K = K -> X.calm = true -> ∀ (i : Nat) (pins : List (Addr × Obj)) (s : Shared) (σ : St) (H : Hp) (E : Value -> Shared -> Prop), Inv X pins σ H s -> (∀ b ∈ fp, FpOk X pins H b) -> tn i s.heap -> J.stop i H ->
  wpAny (model P w) X.A (pyNext (.ref it)) (fun r s1 => r = none /\ Inv X pins σ H s1) E s
 self : ∀ (A : Around) (i : Nat) (s : Shared) (Q : Value -> Shared -> Prop) (E : Value -> Shared -> Prop), tn i s.heap -> Q (.ref it) s -> wpAny (model P w) A (pyIter (.ref it)) Q E s
abbrev TI := St -> Hp -> (It -> Hp -> Prop) -> Prop
def PIE (X : Cx) (pins : List (Addr × Obj)) (σ : St) (tg : Expr) (R : It -> Hp -> Prop) (itv : Value) (s2 : Shared) : Prop :=
 ∃ (it : Addr) (fp : List Addr) (tn : Nat -> Heap -> Prop) (J : It) (H' : Hp), itv = .ref it /\ Inv X pins σ H' s2 /\ Turn X.prog X.w X.K tg J fp it tn /\ tn 0 s2.heap /\ (∀ b ∈ fp, FpOk X pins H' b) /\ R J H'
def PI (X : Cx) (tg iter : Expr) (wi : TI) : Prop :=
 ∀ (pins : List (Addr × Obj)) (s : Shared) (σ : St) (H : Hp) (R : It -> Hp -> Prop), Inv X pins σ H s -> wi σ H R ->
  wpAny (model X.prog X.w) X.A (eval iter X.env) (fun v s1 => wpAny (model X.prog X.w) X.A (pyIter v) (PIE X pins σ tg R) X.xe s1) X.xe s
theorem zQ2 {M : Model} {A : Around} {E : Value -> Shared -> Prop} {s : Shared} {tg : Expr} {it : Addr} {u : Value} {o : Obj} {n : String} {vs : Array Value} {Q : Unit -> Shared -> Prop} (ho : s.heap.get? it = some o) (hc : o.cls = .type n) (hd : o.data = .fields vs)
  (hn : ["enumerate", "zip", "dict_itemiterator", "dict_reverseitemiterator", "odict_iterator", "itertools.zip_longest", "itertools.pairwise"].contains n = false) (hQ : Q () s) : wpAny M A (letOwnedTupleGo tg (.ref it) u) Q E s := by
 unfold letOwnedTupleGo
 cases tg <;> first
  | exact wpAny_pure hQ
  | (cases u <;> first
    | exact wpAny_pure hQ
    | (refine wpAny_bind (wpAny_load ho ?_)
       rw [hc, hd]
       show wpAny M A (if (["enumerate", "zip", "dict_itemiterator", "dict_reverseitemiterator", "odict_iterator", "itertools.zip_longest", "itertools.pairwise"].contains n && vs[0]? == some (rawInt _)) = true then _ else _) Q E s
       rw [if_neg (by intro h; rw [hn, Bool.false_and] at h; cases h)]
       exact wpAny_pure hQ))
def Itl (K : KFr) (a : Addr) : It :=
 ⟨fun i H => ∃ xs x, SqL K H a xs /\ xs[i]? = some x, fun i H x H' => H' = H /\ ∀ xs, SqL K H a xs -> xs[i]? = some x, fun i H => ∃ xs, SqL K H a xs /\ xs.length <= i⟩
def Itt (K : KFr) (a : Addr) : It :=
 ⟨fun i H => ∃ xs x, SqT K H a xs /\ xs[i]? = some x, fun i H x H' => H' = H /\ ∀ xs, SqT K H a xs -> xs[i]? = some x, fun i H => ∃ xs, SqT K H a xs /\ xs.length <= i⟩
def Itr (lo : Int) (n : Nat) : It := ⟨fun i _ => i < n, fun i H x H' => H' = H /\ x = .int (lo + i), fun i _ => n <= i⟩
theorem zM4 {P : Program} {w : World} {K : KFr} {tg : Expr} (a it : Addr) : Turn P w K tg (Itl K a) [it] it (fun i h => h.IsListIter it a i) where
 mem := by simp
 obj := fun i h st b hb => by
  have e : b = it := by simpa using hb
  subst e
  obtain ⟨o, e, c, d⟩ := st
  exact ⟨o, e, fun v z => by rw [d] at z; cases z⟩
 keep := fun i h h' st k => st.at fun o e => k it (by simp) o e
 item := by
  intro X hP hw hK hc i pins s σ H E I hf st hg
  subst hP hw hK
  obtain ⟨xs, x, hq, hx⟩ := hg
  obtain ⟨its, rv, p, hz⟩ := I.list hq
  obtain ⟨u, hu, ru⟩ := rv.get hx
  obtain ⟨f0, f1, f2, f3, f4, f5⟩ := hf it (by simp)
  refine wpAny_pyNext_list_item st p.isList (x := u) (by simpa using hu) fun h' st' sb => ?_
  have I1 : Inv X pins σ H { s with heap := h' } := I.turned (t' := s.toks) (fun b o hb e => (sb.2 b hb).trans e) f0 f1 f3 f4 f5
  obtain ⟨o, e, c, d⟩ := id st'
  exact ⟨u, rfl, zQ2 (s := { s with heap := h' }) e c d (by decide) ⟨x, H, I1, ru, ⟨rfl, fun ys hy => by rw [I.aX hy hq]; exact hx⟩, st', fun b hb => (hf b hb).1⟩⟩
 done := by
  intro X hP hw hK hc i pins s σ H E I hf st hg
  subst hP hw hK
  obtain ⟨xs, hq, hx⟩ := hg
  obtain ⟨its, rv, p, hz⟩ := I.list hq
  obtain ⟨f0, f1, f2, f3, f4, f5⟩ := hf it (by simp)
  have hl := rv.length
  exact wpAny_pyNext_list_end (I.ok.hd hc) st p.isList (by simp; bv_omega) fun h' eb => ⟨rfl, I.turned (t' := s.toks) (fun b o hb e => eb b o hb e) f0 f1 f3 f4 f5⟩
 self := fun _ _ _ _ _ st h => wpAny_pyIter_listiter st h
theorem zP8 {P : Program} {w : World} {K : KFr} {tg : Expr} (a it : Addr) : Turn P w K tg (Itt K a) [it] it (fun i h => h.IsTupleIter it a i) where
 mem := by simp
 obj := fun i h st b hb => by
  have e : b = it := by simpa using hb
  subst e
  obtain ⟨o, e, c, d⟩ := st
  exact ⟨o, e, fun v z => by rw [d] at z; cases z⟩
 keep := fun i h h' st k => st.at fun o e => k it (by simp) o e
 item := by
  intro X hP hw hK hc i pins s σ H E I hf st hg
  subst hP hw hK
  obtain ⟨xs, x, hq, hx⟩ := hg
  obtain ⟨its, rv, p, hz⟩ := I.tuple hq
  obtain ⟨u, hu, ru⟩ := rv.get hx
  obtain ⟨f0, f1, f2, f3, f4, f5⟩ := hf it (by simp)
  refine wpAny_pyNext_tuple_item st (show s.heap.IsTuple a its.toArray from p) (x := u) (by simpa using hu) fun h' st' sb => ?_
  have I1 : Inv X pins σ H { s with heap := h' } := I.turned (t' := s.toks) (fun b o hb e => (sb.2 b hb).trans e) f0 f1 f3 f4 f5
  obtain ⟨o, e, c, d⟩ := id st'
  exact ⟨u, rfl, zQ2 (s := { s with heap := h' }) e c d (by decide) ⟨x, H, I1, ru, ⟨rfl, fun ys hy => by rw [I.cK hy hq]; exact hx⟩, st', fun b hb => (hf b hb).1⟩⟩
 done := by
  intro X hP hw hK hc i pins s σ H E I hf st hg
  subst hP hw hK
  obtain ⟨xs, hq, hx⟩ := hg
  obtain ⟨its, rv, p, hz⟩ := I.tuple hq
  obtain ⟨f0, f1, f2, f3, f4, f5⟩ := hf it (by simp)
  have hl := rv.length
  exact wpAny_pyNext_tuple_end (I.ok.hd hc) st (show s.heap.IsTuple a its.toArray from p) (by simp; bv_omega) fun h' eb => ⟨rfl, I.turned (t' := s.toks) (fun b o hb e => eb b o hb e) f0 f1 f3 f4 f5⟩
 self := fun _ _ _ _ _ st h => wpAny_pyIter_tupleiter st h
theorem zR9 {P : Program} {w : World} {K : KFr} {tg : Expr} (it : Addr) (lo : Int) (n : Nat) : Turn P w K tg (Itr lo n) [it] it (fun i h => IsRangeIter h it (lo + (i : Nat) * 1) ((n : Int) - (i : Nat)) 1) where
 mem := by simp
 obj := fun i h st b hb => by
  have e : b = it := by simpa using hb
  subst e
  exact ⟨_, st, fun v z => by
   have z' : Data.fields _ = Data.cell v := z
   cases z'⟩
 keep := fun i h h' st k => k it (by simp) _ st
 item := by
  intro X hP hw hK hc i pins s σ H E I hf st hg
  subst hP hw hK
  obtain ⟨f0, f1, f2, f3, f4, f5⟩ := hf it (by simp)
  have W := Walks.range (prog := X.prog) (w := X.w) (I.ok.hd hc) it lo 1 n
  refine W.item i s _ _ hg st fun v h' tk hv st' kk => ?_
  obtain ⟨t, rfl⟩ := hv
  have I1 : Inv X pins σ H { s with heap := h', toks := tk } := I.turned (fun b o hb e => kk b o (by simpa using hb) e) f0 f1 f3 f4 f5
  refine ⟨_, rfl, zQ2 (s := { s with heap := h', toks := tk }) (n := "range_iterator") st' rfl rfl (by decide) ⟨.int (lo + i), H, I1, ⟨t, ?_⟩, ⟨rfl, rfl⟩, st', fun b hb => (hf b hb).1⟩⟩
  rw [Int.mul_one]
 done := by
  intro X hP hw hK hc i pins s σ H E I hf st hg
  subst hP hw hK
  obtain ⟨f0, f1, f2, f3, f4, f5⟩ := hf it (by simp)
  exact wpAny_pyNext_range_end (I.ok.hd hc) st (by have : n <= i := hg; bv_omega) fun h' eb => ⟨rfl, I.turned (t' := s.toks) (fun b o hb e => eb b o hb e) f0 f1 f3 f4 f5⟩
 self := fun _ _ _ _ _ st h => wpAny_pyIter_rangeiter st h
section
variable {X : Cx} {tg : Expr}
theorem zF7 {pins : List (Addr × Obj)} {σ : St} {H : Hp} {s : Shared} {R : It -> Hp -> Prop} {E : Value -> Shared -> Prop} {lo hi : Int} {t u v : Tok} {tk : Nat} (I : Inv X pins σ H s) (h1 : -(2 ^ 62) <= lo) (h2 : lo < 2 ^ 62) (h3 : -(2 ^ 62) <= hi) (h4 : hi < 2 ^ 62)
  (q : R (Itr lo (hi - lo).toNat) H) : wpAny (model X.prog X.w) X.A (pyIter (.ref s.heap.objs.size)) (PIE X pins σ tg R) E { s with heap := s.heap.push { cls := .type "range", data := .fields #[.int lo t, .int hi u, .int 1 v] }, toks := tk } := by
 refine wpAny_pyIter_range (IsRange.new ..) (small_one h1 h2 h3 h4) ?_
 have I1 : Inv X pins σ H { s with heap := s.heap.push { cls := .type "range", data := .fields #[.int lo t, .int hi u, .int 1 v] }, toks := tk } := I.kept fun b o e => Heap.get?_push_of_some _ e
 refine ⟨(s.heap.push { cls := .type "range", data := .fields #[.int lo t, .int hi u, .int 1 v] }).objs.size, [(s.heap.push { cls := .type "range", data := .fields #[.int lo t, .int hi u, .int 1 v] }).objs.size], _, _, H, rfl,
  I1.kept (t' := tk) fun b o e => Heap.get?_push_of_some _ e, zR9 _ lo (hi - lo).toNat, ?_, fun b hb => ?_, q⟩
 ·have e1 : lo + ((0 : Nat) : Int) * 1 = lo := by simp
  have e2 : (((hi - lo).toNat : Nat) : Int) - ((0 : Nat) : Int) = Builtin.Range.rangeSize lo hi 1 := by rw [rangeSize_one]; split <;> bv_omega
  show IsRangeIter _ _ (lo + ((0 : Nat) : Int) * 1) ((((hi - lo).toNat : Nat) : Int) - ((0 : Nat) : Int)) 1
  rw [e1, e2]
  exact Heap.get?_push_size _ rfl
 ·have e : b = (s.heap.push { cls := .type "range", data := .fields #[.int lo t, .int hi u, .int 1 v] }).objs.size := by simpa using hb
  subst e
  exact I1.fpOk (Nat.le_refl _) (I1.hok.fresh (Nat.le_refl _))
def iRng1 (ta : TA) : TI := fun σ H R => ta σ H fun vs H1 => ∃ j : Int, vs = [.int j] /\ -(2 ^ 62) <= j /\ j < 2 ^ 62 /\ R (Itr 0 j.toNat) H1
theorem wN {a : Expr} {ta : TA} {p pos : Pos} (hg : Gl X "range") (hm : X.mg "range" = none) (ha : PA X [a] ta) (hs : autoParam (starEach [a] X.env = [(false, eval a X.env)]) zX._auto_1) : PI X tg (.Call (.Name "range" p) [a] [] pos) (iRng1 ta) := by
 intro pins s σ H R I h
 refine Call_ (kD I hg hm boot_range (PyProof.Rows.callWith_type1 (thn (ha pos pins s σ H _ I h) fun us s1 ⟨vs, H1, I1, r1, q1⟩ => ?_) hs rfl))
 obtain ⟨j, e, q1, q2, q⟩ := q1
 subst e
 cases r1 with
 | cons r rr =>
  cases rr
  obtain ⟨t, rfl⟩ := r
  exact call_range_1 (zF7 I1 (by bv_omega) (by bv_omega) q1 q2 (by simpa using q))
def tFor (wi : TI) (g : TG) (tb : TS) : TS := fun D σ H => wi σ H fun J H1 => ∃ W : Nat -> Nat -> St -> Hp -> Prop, (∃ m, W 0 m σ H1) /\ ∀ i m σ H, W i m σ H ->
 (J.stop i H /\ D.nx σ H) \/ (J.go i H /\ ∃ N : St -> Hp -> Prop, (∀ σ' H', N σ' H' -> ∃ m', m' < m /\ W (i + 1) m' σ' H') /\ ∀ x H', J.yld i H x H' -> g x σ H' fun σ2 H2 => tb { D with nx := N, ct := N, bk := D.nx } σ2 H2)
def pinsAt (fp : List Addr) (h : Heap) : List (Addr × Obj) := fp.filterMap fun b => (h.get? b).map fun o => (b, o)
theorem xF {fp : List Addr} {h : Heap} {b : Addr} {o : Obj} (hb : b ∈ fp) (e : h.get? b = some o) : (b, o) ∈ pinsAt fp h := List.mem_filterMap.mpr ⟨b, hb, by rw [e]; rfl⟩
theorem zI5 {fp : List Addr} {h : Heap} {p : Addr × Obj} (hp : p ∈ pinsAt fp h) : p.1 ∈ fp /\ h.get? p.1 = some p.2 := by
 obtain ⟨b, hb, e⟩ := List.mem_filterMap.mp hp
 cases q : h.get? b with
 | none => rw [q] at e; cases e
 | some o =>
  rw [q] at e
  have e' : (b, o) = p := Option.some.inj e
  subst e'
  exact ⟨hb, q⟩
theorem Inv.pinned {pins : List (Addr × Obj)} {σ : St} {H : Hp} {s : Shared} {fp : List Addr} (I : Inv X pins σ H s) (hf : ∀ b ∈ fp, FpOk X pins H b) (ho : ∀ b ∈ fp, ∃ o, s.heap.get? b = some o /\ ∀ v, o.data ≠ .cell v) : Inv X (pins ++ pinsAt fp s.heap) σ H s :=
 I.xT fun p hp => (List.mem_append.mp hp).elim (fun z => I.pin p (List.mem_append_right _ z)) fun z => by
  obtain ⟨hb, e⟩ := zI5 z
  obtain ⟨f0, f1, f2, _⟩ := hf p.1 hb
  obtain ⟨o, e', d⟩ := ho p.1 hb
  rw [e] at e'; cases e'
  exact ⟨e, f0, f1, f2, d⟩
theorem Inv.unpinned {pins pl : List (Addr × Obj)} {σ : St} {H : Hp} {s : Shared} (I : Inv X (pins ++ pl) σ H s) : Inv X pins σ H s := I.xT fun p hp => I.pin p (List.mem_append_right _ (List.mem_append_left _ hp))
theorem dX {iter : Expr} {body : List Stmt} {wi : TI} {g : TG} {tb : TS} {pos : Pos} (hp : PassesOwn (model X.prog X.w) X.A X.env X.xe) (hc : X.calm = true) (hi : PI X tg iter wi) (hg : PG X tg g) (hb : PSs X body tb)
  (hs : autoParam (∀ x, foldedSetIterable iter X.env x = pure x) xD._auto_1) : PS X (.For tg iter body [] pos) (tFor wi g tb) := by
 intro pins s σ H D I h
 refine wpAny_For (thn (hi pins s σ H _ I h) fun v s1 h1 => thn h1 fun itv s2 h2 => ?_) hs
 obtain ⟨it, fp, tn, J, H2, e, I2, T, st2, f2, W, ⟨m0, w0⟩, turn⟩ := h2
 subst e
 have stat : ∀ {H' : Hp}, (∀ b ∈ fp, H' b = none) -> ∀ b ∈ fp, FpOk X pins H' b := fun hn b hb => ⟨hn b hb, (f2 b hb).2⟩
 refine codeAny_forLoop_any (fun n s' => ∃ i σ' H', Inv X pins σ' H' s' /\ tn i s'.heap /\ (∀ b ∈ fp, H' b = none) /\ W i n σ' H') ?_ m0 ⟨0, σ, H2, I2, st2, fun b hb => (f2 b hb).1, w0⟩
 rintro n s3 ⟨i, σ3, H3, I3, st3, fr3, w3⟩
 rcases turn i n σ3 H3 w3 with ⟨stop, qn⟩ | ⟨go, N, hN, step⟩
 ·refine wpAny_passesOwn hp (thn (T.done X rfl rfl rfl hc i pins s3 σ3 H3 X.xe I3 (stat fr3) st3 stop) fun r s4 ⟨hr, I4⟩ => ?_)
  subst hr
  exact wpAny_execs_nil ⟨σ3, H3, I4, qn⟩
 ·refine wpAny_passesOwn hp (thn (T.item X rfl rfl rfl hc i pins s3 σ3 H3 X.xe I3 (stat fr3) st3 go) fun r s4 ⟨u, hr, h4⟩ => ?_)
  subst hr
  refine wpAny_passesOwn hp (thn h4 fun _ s5 ⟨x, H5, I5, r5, y5, st5, fr5⟩ => ?_)
  have I5' := I5.pinned (stat fr5) (T.obj _ _ st5)
  refine wpAny_passesOwn hp (thn (hg _ s5 σ3 H5 x u _ I5' r5 (step x H5 y5)) fun _ s6 ⟨σ6, H6, I6, q6⟩ => ?_)
  refine wpAny_passesOwn hp (thn (hb _ s6 σ6 H6 _ I6 q6) fun f s7 q7 => ?_)
  have again : ∀ {σ7 : St} {H7 : Hp}, Inv X (pins ++ pinsAt fp s5.heap) σ7 H7 s7 -> N σ7 H7 -> ∃ m, m < n /\ ∃ i σ' H', Inv X pins σ' H' s7 /\ tn i s7.heap /\ (∀ b ∈ fp, H' b = none) /\ W i m σ' H' := fun {σ7 H7} I7 n7 => by
   obtain ⟨m', hm, w7⟩ := hN σ7 H7 n7
   refine ⟨m', hm, i + 1, σ7, H7, I7.unpinned, T.keep _ _ _ st5 fun b hb o e => (I7.pin (b, o) (List.mem_append_right _ (List.mem_append_right _ (xF hb e)))).1, fun b hb => ?_, w7⟩
   obtain ⟨o, e, d⟩ := T.obj _ _ st5 b hb
   exact (I7.pin (b, o) (List.mem_append_right _ (List.mem_append_right _ (xF hb e)))).2.1
  cases f with
  | next => obtain ⟨σ7, H7, I7, n7⟩ := q7; exact again I7 n7
  | cont => obtain ⟨σ7, H7, I7, n7⟩ := q7; exact again I7 n7
  | brk => obtain ⟨σ7, H7, I7, q7⟩ := q7; exact ⟨σ7, H7, I7.unpinned, q7⟩
  | ret v => obtain ⟨x7, σ7, H7, I7, r7, q7⟩ := q7; exact ⟨x7, σ7, H7, I7.unpinned, r7, q7⟩
end
theorem bX {lo : Int} {n : Nat} {g : TG} {tb : TS} {D : Ends} {σ : St} {H : Hp} (Pv : Nat -> St -> Hp -> Prop) (h0 : Pv 0 σ H)
  (hs : ∀ i σ H, i < n -> Pv i σ H -> g (.int (lo + i)) σ H fun σ2 H2 => tb { D with nx := Pv (i + 1), ct := Pv (i + 1), bk := D.nx } σ2 H2) (hd : ∀ σ H, Pv n σ H -> D.nx σ H) :
  ∃ W : Nat -> Nat -> St -> Hp -> Prop, (∃ m, W 0 m σ H) /\ ∀ i m σ H, W i m σ H ->
   ((Itr lo n).stop i H /\ D.nx σ H) \/ ((Itr lo n).go i H /\ ∃ N : St -> Hp -> Prop, (∀ σ' H', N σ' H' -> ∃ m', m' < m /\ W (i + 1) m' σ' H') /\ ∀ x H', (Itr lo n).yld i H x H' -> g x σ H' fun σ2 H2 => tb { D with nx := N, ct := N, bk := D.nx } σ2 H2) := by
 refine ⟨fun i m σ H => m = n - i /\ i <= n /\ Pv i σ H, ⟨n, by simp, Nat.zero_le _, h0⟩, ?_⟩
 rintro i m σ H ⟨rfl, hi, p⟩
 by_cases hlt : i < n
 ·refine .inr ⟨hlt, Pv (i + 1), fun σ' H' p' => ⟨n - (i + 1), by bv_omega, rfl, hlt, p'⟩, fun x H' y => ?_⟩
  obtain ⟨e, y⟩ := y
  subst e y
  exact hs i σ _ hlt p
 ·have e : i = n := by bv_omega
  subst e
  exact .inl ⟨Nat.le_refl _, hd σ H p⟩
abbrev R2 := V -> V -> Hp -> VK -> Prop
def OpR (X : Cx) (f : Value -> Value -> Sem Value) (r : R2) : Prop :=
 ∀ (pins : List (Addr × Obj)) (s : Shared) (σ : St) (H : Hp) (x y : V) (v u : Value) (Q : VK), Inv X pins σ H s -> RelV x v -> RelV y u -> r x y H Q ->
  wpAny (model X.prog X.w) X.A (f v u) (EP X pins σ Q) X.xe s
def UnR (X : Cx) (f : Value -> Sem Value) (r : V -> Hp -> VK -> Prop) : Prop :=
 ∀ (pins : List (Addr × Obj)) (s : Shared) (σ : St) (H : Hp) (x : V) (v : Value) (Q : VK), Inv X pins σ H s -> RelV x v -> r x H Q ->
  wpAny (model X.prog X.w) X.A (f v) (EP X pins σ Q) X.xe s
def CallR (X : Cx) (f : Value) (r : List V -> Hp -> VK -> Prop) : Prop :=
 ∀ (pins : List (Addr × Obj)) (s : Shared) (σ : St) (H : Hp) (xs : List V) (us : List Value) (Q : VK), Inv X pins σ H s -> Vals xs us -> r xs H Q ->
  wpAny (model X.prog X.w) X.A (call f us) (EP X pins σ Q) X.xe s
def tOp (r : R2) (ta tb : TE) : TE := fun σ H Q => ta σ H fun x H1 => tb σ H1 fun y H2 => r x y H2 Q
def tUn (r : V -> Hp -> VK -> Prop) (ta : TE) : TE := fun σ H Q => ta σ H fun x H1 => r x H1 Q
def rI (C : Int -> Int -> Prop) (g : Int -> Int -> V) : R2 := fun x y H Q => ∃ i j, x = .int i /\ y = .int j /\ C i j /\ Q (g i j) H
def rI0 (g : Int -> Int -> V) : R2 := fun x y H Q => ∃ i j, x = .int i /\ y = .int j /\ Q (g i j) H
def rU (g : Int -> V) : V -> Hp -> VK -> Prop := fun x H Q => ∃ i, x = .int i /\ Q (g i) H
section
variable {X : Cx} {a b c : Expr} {ta tb tc : TE} {pos : Pos}
theorem binT (ha : PE X a ta) (hb : PE X b tb) {pins : List (Addr × Obj)} {s : Shared} {σ : St} {H : Hp} {R : V -> V -> Hp -> Prop} (I : Inv X pins σ H s)
  (h : ta σ H fun x H1 => tb σ H1 fun y H2 => R x y H2) {Q : Value -> Shared -> Prop} {f : Value -> Value -> Sem Value}
  (hf : ∀ v u s2 x y H2, Inv X pins σ H2 s2 -> RelV x v -> RelV y u -> R x y H2 -> wpAny (model X.prog X.w) X.A (f v u) Q X.xe s2) :
  wpAny (model X.prog X.w) X.A (eval a X.env) (fun v s₁ => wpAny (model X.prog X.w) X.A (eval b X.env) (fun u s₂ => wpAny (model X.prog X.w) X.A (f v u) Q X.xe s₂) X.xe s₁) X.xe s := by
 refine thn (ha pins s σ H _ I h) fun v s1 ⟨x, H1, I1, r1, q1⟩ => ?_
 refine thn (hb pins s1 σ H1 _ I1 q1) fun u s2 ⟨y, H2, I2, r2, q2⟩ => ?_
 exact hf v u s2 x y H2 I2 r1 r2 q2
theorem yA {op : Operator} {r : R2} (ho : OpR X (binaryOp op) r) (ha : PE X a ta) (hb : PE X b tb) : PE X (.BinOp a op b pos) (tOp r ta tb) := by
 intro pins s σ H Q I h
 exact wpAny_BinOp (binT ha hb I h fun v u s2 x y H2 I2 rx ry q => ho pins s2 σ H2 x y v u Q I2 rx ry q)
theorem zB1 {op : UnaryOp} {r : V -> Hp -> VK -> Prop} (ho : UnR X (unaryOp op) r) (ha : PE X a ta) : PE X (.UnaryOp op a pos) (tUn r ta) := by
 intro pins s σ H Q I h
 exact UnaryOp_ (thn (ha pins s σ H _ I h) fun v s1 ⟨x, H1, I1, r1, q1⟩ => ho pins s1 σ H1 x v Q I1 r1 q1)
theorem opI {f : Value -> Value -> Sem Value} {C : Int -> Int -> Prop} {g : Int -> Int -> Int}
  (rule : ∀ (i j : Int) (t u : Tok) (s : Shared) (Q : Value -> Shared -> Prop) (E : Value -> Shared -> Prop), C i j -> Q (.int (g i j) s.toks) { s with toks := s.toks + 1 } -> wpAny (model X.prog X.w) X.A (f (.int i t) (.int j u)) Q E s) :
  OpR X f (rI C fun i j => .int (g i j)) := by
 intro pins s σ H x y v u Q I rx ry h
 obtain ⟨i, j, rfl, rfl, hc, q⟩ := h
 obtain ⟨t, rfl⟩ := rx
 obtain ⟨t', rfl⟩ := ry
 exact rule i j t t' s _ _ hc ⟨.int (g i j), H, I.tok _, ⟨_, rfl⟩, q⟩
theorem opI0 {f : Value -> Value -> Sem Value} {g : Int -> Int -> Int}
  (rule : ∀ (i j : Int) (t u : Tok) (s : Shared) (Q : Value -> Shared -> Prop) (E : Value -> Shared -> Prop), Q (.int (g i j) s.toks) { s with toks := s.toks + 1 } -> wpAny (model X.prog X.w) X.A (f (.int i t) (.int j u)) Q E s) :
  OpR X f (rI0 fun i j => .int (g i j)) := by
 intro pins s σ H x y v u Q I rx ry h
 obtain ⟨i, j, rfl, rfl, q⟩ := h
 obtain ⟨t, rfl⟩ := rx
 obtain ⟨t', rfl⟩ := ry
 exact rule i j t t' s _ _ ⟨.int (g i j), H, I.tok _, ⟨_, rfl⟩, q⟩
theorem opB0 {f : Value -> Value -> Sem Value} {g : Int -> Int -> Bool}
  (rule : ∀ (i j : Int) (t u : Tok) (s : Shared) (Q : Value -> Shared -> Prop) (E : Value -> Shared -> Prop), Q (.bool (g i j)) s -> wpAny (model X.prog X.w) X.A (f (.int i t) (.int j u)) Q E s) :
  OpR X f (rI0 fun i j => .bl (g i j)) := by
 intro pins s σ H x y v u Q I rx ry h
 obtain ⟨i, j, rfl, rfl, q⟩ := h
 obtain ⟨t, rfl⟩ := rx
 obtain ⟨t', rfl⟩ := ry
 exact rule i j t t' s _ _ ⟨.bl (g i j), H, I, rfl, q⟩
def CMul (i j : Int) : Prop := (-(2 ^ 64) < i /\ i < 2 ^ 64) \/ (-(2 ^ 64) < j /\ j < 2 ^ 64)
theorem CMul.ok {i j : Int} (h : CMul i j) : IntMulOk i j := by
 rcases h with ⟨h1, h2⟩ | ⟨h1, h2⟩
 ·exact .of_left (intBits_le_64 h1 h2)
 ·exact .of_right (intBits_le_64 h1 h2)
theorem qB : OpR X (binaryOp .Add) (rI0 fun i j => .int (i + j)) := opI0 fun _ _ _ _ _ _ _ q => add_int q
theorem uM : OpR X (binaryOp .Sub) (rI0 fun i j => .int (i - j)) := opI0 fun _ _ _ _ _ _ _ q => sub_int q
theorem zX3 : OpR X (binaryOp .Mod) (rI (fun _ j => 0 < j) fun i j => .int (i % j)) := opI fun i j _ _ _ _ _ hc q => by
 have h1 : (0 : Int) < j := hc
 exact mod_int' (by bv_omega) (by rw [Int.fmod_eq_emod_of_nonneg i (by bv_omega)]; exact q)
theorem unI {f : Value -> Sem Value} {g : Int -> Int}
  (rule : ∀ (i : Int) (t : Tok) (s : Shared) (Q : Value -> Shared -> Prop) (E : Value -> Shared -> Prop), Q (.int (g i) s.toks) { s with toks := s.toks + 1 } -> wpAny (model X.prog X.w) X.A (f (.int i t)) Q E s) :
  UnR X f (rU fun i => .int (g i)) := by
 intro pins s σ H x v Q I rx h
 obtain ⟨i, rfl, q⟩ := h
 obtain ⟨t, rfl⟩ := rx
 exact rule i t s _ _ ⟨.int (g i), H, I.tok _, ⟨_, rfl⟩, q⟩
theorem zL2 : UnR X (unaryOp .USub) (rU fun i => .int (-i)) := unI fun _ _ _ _ _ q => neg_int q
end
section
variable {X : Cx} {a b c : Expr} {ta tb tc : TE} {pos : Pos}
theorem zK4 {pins : List (Addr × Obj)} {σ : St} {H : Hp} {s : Shared} {Q : VK} {k k' : Bool} (I : Inv X pins σ H s) (q : Q (.bl k) H) (e : k = k') : EP X pins σ Q (.bool k') s := by
 subst e
 exact ⟨.bl k, H, I, rfl, q⟩
theorem fK : OpR X (compareOp .Lt) (rI0 fun i j => .bl (decide (i < j))) := opB0 fun _ _ _ _ _ _ _ q => lt_int q
theorem dY : OpR X (compareOp .LtE) (rI0 fun i j => .bl (decide (i <= j))) := opB0 fun _ _ _ _ _ _ _ q => le_int q
theorem zP4 : OpR X (compareOp .Gt) (rI0 fun i j => .bl (decide (j < i))) := opB0 fun _ _ _ _ _ _ _ q => gt_int q
theorem yJ3 : OpR X (compareOp .GtE) (rI0 fun i j => .bl (decide (j <= i))) := opB0 fun _ _ _ _ _ _ _ q => ge_int q
theorem zY7 : OpR X (compareOp .Is) (fun x y H Q => y = .non /\ Q (.bl (decide (x = .non))) H) := by
 intro pins s σ H x y v u Q I rx ry h
 obtain ⟨rfl, q⟩ := h
 cases ry
 refine is_none_gen (zK4 I q ?_)
 cases x <;> first
  | (cases rx; rfl)
  | (obtain ⟨t, rfl⟩ := rx; rfl)
theorem jW : OpR X (compareOp .IsNot) (fun x y H Q => y = .non /\ Q (.bl (!decide (x = .non))) H) := by
 intro pins s σ H x y v u Q I rx ry h
 obtain ⟨rfl, q⟩ := h
 cases ry
 refine isnot_none_gen (zK4 I q ?_)
 cases x <;> first
  | (cases rx; rfl)
  | (obtain ⟨t, rfl⟩ := rx; rfl)
def isObj : HO -> Bool
 | .lst _ => true
 | .ins _ _ _ => true
 | _ => false
theorem kC {pins : List (Addr × Obj)} {s : Shared} {σ : St} {H : Hp} {a : Addr} {o : HO} (I : Inv X pins σ H s) (h : H a = some o) (p : isObj o = true) : ∃ ob, s.heap.get? a = some ob /\ ob.cls ≠ .type "tuple" := by
 cases o with
 | lst xs =>
  obtain ⟨_, its, n, _, e⟩ : xs.length <= sizeLine /\ ∃ (its : List Value) (n : Nat), Vals xs its /\ s.heap.get? a = some { cls := .type "list", data := .seq its.toArray n } := I.hok a _ h
  exact ⟨_, e, (by show Value.type "list" ≠ .type "tuple"; decide +kernel)⟩
 | ins C dx fs =>
  have x := I.hok a _ h
  obtain ⟨_, _, _, e, _⟩ := x
  exact ⟨_, e, (by show Value.ref C ≠ .type "tuple"; exact fun z => by cases z)⟩
 | _ => exact absurd (show false = true from p) Bool.false_ne_true
theorem nomark (b : Expr) {op : CmpOp} (h : autoParam (op ≠ .In) zJ._auto_1) (h2 : autoParam (op ≠ .NotIn) zJ._auto_1) : behindInMarks op b = false := by
 have e1 : (op == CmpOp.In) = false := by cases op <;> first | rfl | exact absurd rfl h
 have e2 : (op == CmpOp.NotIn) = false := by cases op <;> first | rfl | exact absurd rfl h2
 cases b <;> simp [behindInMarks, e1, e2]
theorem zT1 {op : CmpOp} {r : R2} (ho : OpR X (compareOp op) r) (ha : PE X a ta) (hb : PE X b tb) (hm : behindInMarks op b = false) : PE X (.Compare a [op] [b] pos) (tOp r ta tb) := by
 intro pins s σ H Q I h
 exact wpAny_Compare1 (binT ha hb I h fun v u s2 x y H2 I2 rx ry q => ho pins s2 σ H2 x y v u Q I2 rx ry q) hm
def tTest (t : TE) : TT := fun σ H Q => t σ H fun x H' => ∃ k, x = .bl k /\ Q k H'
theorem yH {op : CmpOp} {r : R2} (ho : OpR X (compareOp op) r) (ha : PE X a ta) (hb : PE X b tb) (hm : behindInMarks op b = false) : PT X (.Compare a [op] [b] pos) (tTest (tOp r ta tb)) := by
 intro pins s σ H Q I h
 refine wpAny_isTrue_Compare1 (thn (ha pins s σ H _ I h) fun v s1 ⟨x, H1, I1, r1, q1⟩ => thn (hb pins s1 σ H1 _ I1 q1) fun u s2 ⟨y, H2, I2, r2, q2⟩ =>
  thn (ho pins s2 σ H2 x y v u _ I2 r1 r2 q2) fun c s3 ⟨z, H3, I3, r3, k, e, q3⟩ => ?_) hm
 subst e
 cases r3
 exact wpAny_truthy_bool ⟨H3, I3, q3⟩
def tChain (r r' : R2) (ta tb tc : TE) : TE := fun σ H Q => ta σ H fun x H1 => tb σ H1 fun y H2 => r x y H2 fun z H3 => ∃ k, z = .bl k /\
 (if k = true then tc σ H3 fun w' H4 => r' y w' H4 Q else Q (.bl false) H3)
theorem zD1 {op op' : CmpOp} {r r' : R2} (ho : OpR X (compareOp op) r) (ho' : OpR X (compareOp op') r') (ha : PE X a ta) (hb : PE X b tb) (hc : PE X c tc)
  (hm : autoParam (lastMarks [op, op'] [b, c] = false) dQ._auto_1) : PE X (.Compare a [op, op'] [b, c] pos) (tChain r r' ta tb tc) := by
 intro pins s σ H Q I h
 refine Compare_chain (thn (ha pins s σ H _ I h) fun v s1 ⟨x, H1, I1, r1, q1⟩ => chain_link (thn (hb pins s1 σ H1 _ I1 q1) fun u s2 ⟨y, H2, I2, r2, q2⟩ =>
  thn (ho pins s2 σ H2 x y v u _ I2 r1 r2 q2) fun d s3 ⟨z, H3, I3, r3, k, e, q3⟩ => ?_)) hm
 subst e
 cases r3
 refine wpAny_truthy_bool ?_
 cases k with
 | false => exact ite_ff ⟨.bl false, H3, I3, rfl, q3⟩
 | true => exact ite_tt (chain_last (thn (hc pins s3 σ H3 _ I3 q3) fun w' s4 ⟨z', H4, I4, r4, q4⟩ => ho' pins s4 σ H4 y z' u w' Q I4 r2 r4 q4))
theorem zG8 {op op' : CmpOp} {r r' : R2} (ho : OpR X (compareOp op) r) (ho' : OpR X (compareOp op') r') (ha : PE X a ta) (hb : PE X b tb) (hc : PE X c tc)
  (hm : autoParam (lastMarks [op, op'] [b, c] = false) dQ._auto_1) : PT X (.Compare a [op, op'] [b, c] pos) (tTest (tChain r r' ta tb tc)) := by
 intro pins s σ H Q I h
 refine isTrue_chain (thn (ha pins s σ H _ I h) fun v s1 ⟨x, H1, I1, r1, q1⟩ => test_link (thn (hb pins s1 σ H1 _ I1 q1) fun u s2 ⟨y, H2, I2, r2, q2⟩ =>
  thn (ho pins s2 σ H2 x y v u _ I2 r1 r2 q2) fun d s3 ⟨z, H3, I3, r3, k, e, q3⟩ => ?_)) hm
 subst e
 cases r3
 refine wpAny_truthy_bool ?_
 cases k with
 | false =>
  obtain ⟨k', e', q'⟩ := q3
  cases e'
  exact ite_ff ⟨H3, I3, q'⟩
 | true =>
  refine ite_tt (test_last (thn (hc pins s3 σ H3 _ I3 q3) fun w' s4 ⟨z', H4, I4, r4, q4⟩ => thn (ho' pins s4 σ H4 y z' u w' _ I4 r2 r4 q4) fun d' s5 ⟨z2, H5, I5, r5, k2, e2, q5⟩ => ?_))
  subst e2
  cases r5
  exact wpAny_truthy_bool ⟨H5, I5, q5⟩
theorem line63 : (sizeLine : Nat) < 2 ^ 63 := by rw [sizeLine_eq]; decide
theorem vals1 {x : V} {us : List Value} (r : Vals [x] us) : ∃ u, us = [u] /\ RelV x u := by
 cases r with
 | cons r1 r2 => cases r2; exact ⟨_, rfl, r1⟩
theorem vals2 {x y : V} {us : List Value} (r : Vals [x, y] us) : ∃ u w', us = [u, w'] /\ RelV x u /\ RelV y w' := by
 cases r with
 | cons r1 r2 =>
  cases r2 with
  | cons r3 r4 => cases r4; exact ⟨_, _, rfl, r1, r3⟩
theorem zO9 (hc : X.calm = true) : CallR X (.builtin "max") (fun xs H Q => ∃ i j, xs = [.int i, .int j] /\ Q (.int (if j > i then j else i)) H) := by
 intro pins s σ H xs us Q I r h
 obtain ⟨i, j, rfl, q⟩ := h
 obtain ⟨u, w', rfl, ⟨t, rfl⟩, ⟨t', rfl⟩⟩ := vals2 r
 refine max_two_ints (I.ok.hd hc) fun h' tk k => ⟨_, H, I.kept k, ?_, q⟩
 by_cases hj : j > i
 ·rw [if_pos hj, if_pos hj]; exact ⟨_, rfl⟩
 ·rw [if_neg hj, if_neg hj]; exact ⟨_, rfl⟩
theorem bP : CallR X (.type "int") (fun xs H Q => (∃ i, xs = [.int i] /\ Q (.int i) H) \/ ∃ k, xs = [.bl k] /\ Q (.int (if k then 1 else 0)) H) := by
 intro pins s σ H xs us Q I r h
 rcases h with ⟨i, rfl, q⟩ | ⟨k, rfl, q⟩
 ·obtain ⟨u, rfl, t, rfl⟩ := vals1 r
  exact call_int_int ⟨.int i, H, I, ⟨_, rfl⟩, q⟩
 ·obtain ⟨u, rfl, r1⟩ := vals1 r
  cases r1
  exact call_int_bool ⟨.int (if k then 1 else 0), H, I.tok _, ⟨_, rfl⟩, q⟩
end
structure ObjM (h : Heap) (x dx C : Addr) (mA : Str -> Option Value) : Prop where
 obj : h.get? x = some (PySem.W.instObj C dx)
 ns : h.Ns1 dx mA
 ne : dx ≠ x
section
variable {prog : Program} {w : World} {A : Around} {E : Value -> Shared -> Prop} {s : Shared} {K : KFr} {x dx C f : Addr} {mA : Str -> Option Value} {name : Str} {v : Value}
end
section
variable {P : Program} {w : World} {H H' : Hp} {h h' : Heap} {a C dx : Addr} {fs fs' : List (Str × V)}
end
structure Cls (K : KFr) (C : Addr) : Prop where
 pg : PySem.W.plainGet K C Str.empty = true
 hd : PySem.W.hasDictIn K C = true
 po : PySem.W.plainOver K C = true
 sa : PySem.W.findIn K (.ref C) "__setattr__" = some (some (.builtin "object.__setattr__"))
structure Con (K : KFr) (C : Addr) (f : Str) (v : V) (u : Value) : Prop where
 at_ : PySem.W.findIn K (.ref C) f = some (some u)
 rel : RelV v u
 get : PySem.W.specialIn K u "__get__" = some none
 cp : PySem.W.copiedNames.contains f = false
structure Meth (K : KFr) (C : Addr) (m : Str) (f : Addr) : Prop where
 at_ : PySem.W.findIn K (.ref C) m = some (some (.ref f))
 fn : PySem.W.isFn K (.ref f) = true
 kp : PySem.W.keepIn K (.ref f) = true
section
variable {X : Cx} {pins : List (Addr × Obj)} {σ : St} {H : Hp} {s : Shared} {a C dx : Addr} {fs : List (Str × V)} {f : Str} {v : V} {A : Around} {E : Value -> Shared -> Prop}
end
section
variable {X : Cx} {o e value : Expr} {f : Str} {pos pos' tpos : Pos} {ta tv : TE}
def rAdd : V -> V -> Hp -> VK -> Prop := fun x y H Q => ∃ i j, x = .int i /\ y = .int j /\ Q (.int (i + j)) H
def rSub : V -> V -> Hp -> VK -> Prop := fun x y H Q => ∃ i j, x = .int i /\ y = .int j /\ Q (.int (i - j)) H
end
section
variable {X : Cx} {pins : List (Addr × Obj)} {σ : St} {H : Hp} {s : Shared} {A : Around} {E : Value -> Shared -> Prop} {Q : Value -> Shared -> Prop} {c : Value} {b : Bool}
inductive TyOf (K : KFr) (H : Hp) : V -> Value -> Prop where
 | non : TyOf K H .non (.type "NoneType")
 | bl (x : Bool) : TyOf K H (.bl x) (.type "bool")
 | int (i : Int) : TyOf K H (.int i) (.type "int")
 | str (x : Str) : TyOf K H (.str x) (.type "str")
 | flt (x : UInt64) : TyOf K H (.flt x) (.type "float")
 | lst {a : Addr} {xs : List V} (e : H a = some (.lst xs)) : TyOf K H (.ref a) (.type "list")
 | frz {a : Addr} {o : Obj} {xs : List V} (e : H a = some (.frz o (.lst xs))) : TyOf K H (.ref a) (.type "list")
 | tup {a : Addr} {xs : List V} (e : H a = some (.tup xs)) : TyOf K H (.ref a) (.type "tuple")
 | dK {a : Addr} {kvs : List (Key × V)} (e : H a = some (.dK kvs)) : TyOf K H (.ref a) (.type "dict")
 | dT {a : Addr} {kvs : List (List Key × V)} (e : H a = some (.dT kvs)) : TyOf K H (.ref a) (.type "dict")
 | ins {a C dx : Addr} {fs : List (Str × V)} (e : H a = some (.ins C dx fs)) (cl : Cls K C) (ha : PySem.W.findIn K (.ref C) "__class__" = some (some (.builtin "object.__class__")))
   (hn : PySem.W.specialIn K (.builtin "object.__class__") "__get__" = some (some (.builtin "getset_descriptor.__get__"))) (htk : PySem.W.takesIn K (.builtin "object.__class__") = some true)
   (hm : PySem.W.mroIn K C (.type "object") = some true) : TyOf K H (.ref a) (.ref C)
end
structure Room (k : Nat) (A : Around) : Prop where
 hd : A.handled = none
 dp : A.depth + 3 * k + 5 < recursionLimit
 un : A.units + 16 * k + 200 < cLine
theorem Room.mono {j k : Nat} {A : Around} (r : Room k A) (h : j <= k) : Room j A := ⟨r.hd, by have := r.dp; bv_omega, by have := r.un; bv_omega⟩
theorem Room.deeper {k : Nat} {A : Around} (r : Room (k + 1) A) (env : Env) : Room k (A.deeper env) :=
 ⟨r.hd, by have := r.dp; show A.depth + 1 + 3 * k + 5 < _; bv_omega, by have := r.un; show A.units + 3 + 16 * k + 200 < _; bv_omega⟩
theorem Room.depth {k : Nat} {A : Around} (r : Room k A) : A.depth < recursionLimit := by have := r.dp; bv_omega
theorem Room.units {k : Nat} {A : Around} (r : Room k A) : A.units + 64 < cLine := by have := r.un; bv_omega
def tNil : TA := fun _ H Q => Q [] H
def zR (ta : TE) (tr : TA) : TA := fun σ H Q => ta σ H fun x H1 => tr σ H1 fun xs H2 => Q (x :: xs) H2
section
variable {X : Cx} {e : Expr} {es : List Expr} {te : TE} {t : TA} {pos : Pos}
theorem zO : PA X [] tNil := fun _ _ _ _ H Q I h => Calls.spliced_nil ⟨[], H, I, .nil, h⟩
theorem zY (ha : PE X e te) (hr : PA X es t) (hs : autoParam (starEach (e :: es) X.env = (false, eval e X.env) :: starEach es X.env) zX._auto_1) : PA X (e :: es) (zR te t) := by
 intro pos pins s σ H Q I h
 rw [hs]
 show wpAny _ _ (spliced ((false, eval e X.env) :: backTo pos (starEach es X.env))) _ _ s
 refine Calls.spliced_cons (thn (ha pins s σ H _ I h) fun u s1 ⟨x, H1, I1, r1, q1⟩ => ?_)
 exact thn (hr pos pins s1 σ H1 _ I1 q1) fun us s2 ⟨xs, H2, I2, r2, q2⟩ => ⟨x :: xs, H2, I2, .cons r1 r2, q2⟩
def tTup (t : TA) : TE := fun σ H Q => t σ H fun xs H1 => xs.length <= sizeLine /\ ∀ p, H1 p = none -> Q (.ref p) (upd H1 p (.tup xs))
def tLst (t : TA) : TE := fun σ H Q => t σ H fun xs H1 => xs.length <= sizeLine /\ ∀ p, H1 p = none -> Q (.ref p) (upd H1 p (.lst xs))
theorem vW {x1} (h : PA X es t) : PE X (.Tuple es x1 pos) (tTup t) := by
 intro pins s σ H Q I hq
 refine wpAny_Tuple_spliced (thn (h pos pins s σ H _ I hq) fun us s1 ⟨xs, H1, I1, r, z, q⟩ => ⟨by rw [<- r.length]; exact z, ?_⟩)
 have hf : H1 s1.heap.objs.size = none := I1.hok.fresh (Nat.le_refl _)
 refine ⟨.ref s1.heap.objs.size, upd H1 s1.heap.objs.size (.tup xs), I1.laid (t' := s1.toks) (fun b u e => Heap.get?_push_of_some _ e) (Nat.le_refl _) ?_, rfl, q _ hf⟩
 exact ⟨z, us, r, TupAt.new _ _⟩
theorem xO (h : PA X es t) : PE X (.List es pos) (tLst t) := by
 intro pins s σ H Q I hq
 refine wpAny_List_spliced (thn (h pos pins s σ H _ I hq) fun us s1 ⟨xs, H1, I1, r, z, q⟩ => ⟨by rw [<- r.length]; exact z, ?_⟩)
 have hf : H1 s1.heap.objs.size = none := I1.hok.fresh (Nat.le_refl _)
 refine ⟨.ref s1.heap.objs.size, upd H1 s1.heap.objs.size (.lst xs), I1.laid (t' := s1.toks) (fun b u e => Heap.get?_push_of_some _ e) (Nat.le_refl _) ?_, rfl, q _ hf⟩
 exact ⟨z, us, 0, r, Heap.get?_push_size _ rfl⟩
end
abbrev Sp := List V -> Hp -> VK -> XK -> Prop
abbrev CXT := List Env -> Hp -> Shared -> XK -> Value -> Shared -> Prop
structure Env0 (P : Program) (w : World) (K : KFr) (mg : Str -> Option Value) (base : Heap) (A : Around) (outer : List Env) (s : Shared) (H : Hp) : Prop where
 frames : A.frames = some outer
 mod : Mod K mg base
 bs : ∀ b o, base.get? b = some o -> s.heap.get? b = some o /\ H b = none
 bsz : base.objs.size <= s.heap.objs.size
 funs : s.heap.FunFrames base outer
 frf : ∀ b ∈ frs outer, H b = none
 hok : HOk P w H s.heap
 bare : AllBare s.gens
def CE (outer : List Env) (P : Program) (w : World) (H : Hp) (s : Shared) (Q : VK) (u : Value) (s' : Shared) : Prop :=
 ∃ v H', s'.os = s.os /\ AllBare s'.gens /\ Un (frs outer) [] H H' s.heap s'.heap /\ HOk P w H' s'.heap /\ RelV v u /\ Q v H'
def CR (CX : CXT) (outer : List Env) (P : Program) (w : World) (H : Hp) (s : Shared) (Q : VK) (E : XK) (r : Result) (s' : Shared) : Prop :=
 match r with
 | .ok (.ret u) => CE outer P w H s Q u s'
 | .ok _ => False
 | .error e => CX outer H s E e s'
structure FnOk (P : Program) (w : World) (K : KFr) (mg : Str -> Option Value) (base : Heap) (CX : CXT) (k : Nat) (f : Addr) (fd : FuncData) (ps : List Str) (sp : Sp) : Prop where
 len : ∀ vs H Q E, sp vs H Q E -> vs.length = ps.length
 run : ∀ (A : Around) (outer : List Env) (s : Shared) (H : Hp) (args : Args) (us : List Value) (vs : List V) (Q : VK) (E : XK), Room k A -> Env0 P w K mg base A outer s H -> BindsTo s fd args (ps.zip us) -> Vals vs us -> sp vs H Q E ->
  codeAny (model P w) A (.call (.ref f) args) (CR CX outer P w H s Q E) s
theorem FnOk.imp {P : Program} {w : World} {K : KFr} {mg : Str -> Option Value} {base : Heap} {CX : CXT} {k : Nat} {f : Addr} {fd : FuncData} {ps : List Str} {sp sp' : Sp} (F : FnOk P w K mg base CX k f fd ps sp)
  (h : ∀ vs H Q E, sp' vs H Q E -> sp vs H Q E) : FnOk P w K mg base CX k f fd ps sp' :=
 ⟨fun vs H Q E q => F.len vs H Q E (h _ _ _ _ q), fun A outer s H args us vs Q E hr he hb hv hs => F.run A outer s H args us vs Q E hr he hb hv (h _ _ _ _ hs)⟩
section
variable {X : Cx} {pins : List (Addr × Obj)} {σ : St} {H : Hp} {s s' : Shared}
theorem Inv.env0 (I : Inv X pins σ H s) : Env0 X.prog X.w X.K X.mg X.base X.A X.stack s H :=
 ⟨I.ok.frames, I.ok.mod, I.bs, Nat.le_trans I.ok.bsz I.sz, I.stack, I.stkFree, I.hok, I.bare⟩
theorem Inv.after {Q : VK} {u : Value} (I : Inv X pins σ H s) (h : CE X.stack X.prog X.w H s Q u s') : EP X pins σ Q u s' := by
 obtain ⟨v, H', os, bare, un, hok, r, q⟩ := h
 obtain ⟨hh, g, d, t, os'⟩ := s'
 obtain rfl : os' = s.os := os
 exact ⟨v, H', I.call (h' := hh) (g' := g) (d' := d) (t' := t) (ch := []) un hok bare (fun b z => absurd z (by simp)), r, q⟩
end
def tCall (sp : Sp) (dvs : List V) (E : XK) (t : TA) : TE := fun σ H Q => t σ H fun vs H1 => sp (vs ++ dvs) H1 Q E
def Binds (K : KFr) (fd : FuncData) (ps : List Str) (ds : List Value) : Prop :=
 ∀ (s : Shared) (us : List Value), K.In s.heap -> (us ++ ds).length = ps.length -> BindsTo s fd ⟨us, []⟩ (ps.zip (us ++ ds))
theorem Binds.all {K : KFr} {fd : FuncData} {ps : List Str} (h : ∀ us : List Value, us.length = ps.length -> bindArgs fd ⟨us, []⟩ = pure (ps.zip us)) : Binds K fd ps [] := fun s us _ hl => by
 rw [List.append_nil] at hl ⊢
 exact .of_eq (h us hl)
def Passes (CX : CXT) (X : Cx) (E : XK) : Prop := ∀ (pins : List (Addr × Obj)) (σ : St) (H : Hp) (s : Shared) (e : Value) (s' : Shared), Inv X pins σ H s -> CX X.stack H s E e s' -> X.xe e s'
section
variable {X : Cx} {CX : CXT} {k : Nat} {f C : Addr} {fd : FuncData} {ps : List Str} {sp : Sp} {dvs : List V} {ds : List Value} {E : XK} {x m : Str} {p pos apos : Pos} {e o : Expr} {es : List Expr} {ta : TE} {t : TA}
theorem yT6 {pins : List (Addr × Obj)} {σ : St} {H : Hp} {s : Shared} {Q : VK} {us : List Value} {vs : List V} (F : FnOk X.prog X.w X.K X.mg X.base CX k f fd ps sp) (hr : Room k X.A) (hb : Binds X.K fd ps ds) (hd : Vals dvs ds) (hx : Passes CX X E)
  (I : Inv X pins σ H s) (r : Vals vs us) (h : sp (vs ++ dvs) H Q E) : wpAny (model X.prog X.w) X.A (call (.ref f) us) (EP X pins σ Q) X.xe s := by
 have r2 : Vals (vs ++ dvs) (us ++ ds) := r.append hd
 have hl : (us ++ ds).length = ps.length := by rw [<- r2.length]; exact F.len _ _ _ _ h
 refine wpAny_call (codeAny_mono (F.run X.A X.stack s H ⟨us, []⟩ (us ++ ds) (vs ++ dvs) Q E hr I.env0 (hb s us I.kIn hl) r2 h) fun r s' hq => ?_)
 cases r with
 | error e => exact hx pins σ H s e s' I hq
 | ok fl =>
  cases fl with
  | ret u => exact I.after hq
  | next => exact False.elim hq
  | brk => exact False.elim hq
  | cont => exact False.elim hq
theorem zC (F : FnOk X.prog X.w X.K X.mg X.base CX k f fd ps sp) (hr : Room k X.A) (hg : Gl X x) (hm : X.mg x = some (.ref f)) (hk : PySem.W.keepIn X.K (.ref f) = true) (hb : Binds X.K fd ps ds) (hd : Vals dvs ds) (hx : Passes CX X E)
  (ha : PA X (e :: es) t) (hdb : autoParam ((x == ("__debug__" : Str)) = false) zJ._auto_1) (he : autoParam (starEach (e :: es) X.env = (false, eval e X.env) :: starEach es X.env) zX._auto_1) (hpl : autoParam ((backTo pos (starEach es X.env)).any (·.1) = false) zX._auto_1) :
  PE X (.Call (.Name x p) (e :: es) [] pos) (tCall sp dvs E t) := by
 intro pins s σ H Q I h
 refine wpAny_Call_Name_kw (gI I hg hm ?_ hdb)
 refine PySem.W.callWith_K (h₀ := X.base) I.ok.mod.kin hk (thn (ha pos pins s σ H _ I h) fun us s1 ⟨vs, H1, I1, r, q⟩ => ⟨I1.kIn, ?_⟩) he hpl
 exact yT6 F hr hb hd hx I1 r q
structure Mk (K : KFr) (C f : Addr) : Prop where
 makes : PySem.W.makesIn K C = true
 init : PySem.W.findIn K (.ref C) "__init__" = some (some (.ref f))
 fn : PySem.W.isFn K (.ref f) = true
 kp : PySem.W.keepIn K (.ref C) = true
end
section
variable {X : Cx} {CX : CXT} {k : Nat} {f C : Addr} {fd : FuncData} {ps ks : List Str} {sp : Sp} {E : XK} {x m : Str} {p pos apos kpos : Pos} {e o : Expr} {es : List Expr} {kws : List Keyword} {te ta : TE} {t tk : TA} {nm : Option Str}
structure KBinds (K : KFr) (fd : FuncData) (ps ks : List Str) (g : List Value -> List Value -> List Value) (gV : List V -> List V -> List V) : Prop where
 to : ∀ (s : Shared) (us ws : List Value), K.In s.heap -> (g us ws).length = ps.length -> BindsTo s fd ⟨us, ks.zip ws⟩ (ps.zip (g us ws))
 rel : ∀ {vs : List V} {us : List Value} {zs : List V} {ws : List Value}, Vals vs us -> Vals zs ws -> Vals (gV vs zs) (g us ws)
variable {g : List Value -> List Value -> List Value} {gV : List V -> List V -> List V}
end
structure zH (N P : List Str) (sc : Scope) : Prop where
 kind : sc.kind = .function
 co : sc.isCoroutine = false
 gen : sc.isGenerator = false
 nd : N.Nodup
 pre : N.take P.length = P
 par : ∀ x ∈ P, sc.names.lookup x = some .local \/ sc.names.lookup x = some .cell
 nofree : ∀ y ∈ sc.names, y.2 ≠ .free
theorem bR {kindOf : Str -> Option NameKind} {x : Str} : ∀ {binds : List (Str × Value)} {m : Str -> Option Value}, (∀ v, (x, v) ∉ binds) -> bindL kindOf binds m x = m x
 | [], _, _ => rfl
 | (n, v) :: r, m, h => by
  unfold bindL
  rw [bR fun w hw => h w (List.mem_cons_of_mem _ hw)]
  split
  ·have : x ≠ n := by rintro rfl; exact h v List.mem_cons_self
   simp [this]
  ·rfl
theorem bS {kindOf : Str -> Option NameKind} {x : Str} : ∀ {binds : List (Str × Value)} {m : Str -> Option Value}, (∀ v, (x, v) ∉ binds) -> bindC kindOf binds m x = m x
 | [], _, _ => rfl
 | (n, v) :: r, m, h => by
  unfold bindC
  rw [bS fun w hw => h w (List.mem_cons_of_mem _ hw)]
  split
  ·rfl
  ·have : x ≠ n := by rintro rfl; exact h v List.mem_cons_self
   simp [this]
theorem cB {kindOf : Str -> Option NameKind} {x : Str} {v : Value} : ∀ {P : List Str} {vs : List Value} {i : Nat} {m : Str -> Option Value}, P.Nodup -> P[i]? = some x -> vs[i]? = some v -> kindOf x = some .local ->
  bindL kindOf (P.zip vs) m x = some v
 | [], _, _, _, _, h, _, _ => by simp at h
 | _ :: _, [], _, _, _, _, h, _ => by simp at h
 | p :: P, w :: vs, 0, m, nd, h1, h2, hk => by
  simp at h1 h2; subst h1; subst h2
  show bindL kindOf ((p, w) :: P.zip vs) m p = _
  unfold bindL
  rw [bR fun v hv => (List.nodup_cons.mp nd).1 (List.of_mem_zip hv).1, if_pos hk]
  simp
 | p :: P, w :: vs, i + 1, m, nd, h1, h2, hk => by
  show bindL kindOf ((p, w) :: P.zip vs) m x = _
  unfold bindL
  exact cB (i := i) (List.nodup_cons.mp nd).2 (by simpa using h1) (by simpa using h2) hk
theorem cF {kindOf : Str -> Option NameKind} {x : Str} {v : Value} : ∀ {P : List Str} {vs : List Value} {i : Nat} {m : Str -> Option Value}, P.Nodup -> P[i]? = some x -> vs[i]? = some v -> kindOf x ≠ some .local ->
  bindC kindOf (P.zip vs) m x = some v
 | [], _, _, _, _, h, _, _ => by simp at h
 | _ :: _, [], _, _, _, _, h, _ => by simp at h
 | p :: P, w :: vs, 0, m, nd, h1, h2, hk => by
  simp at h1 h2; subst h1; subst h2
  show bindC kindOf ((p, w) :: P.zip vs) m p = _
  unfold bindC
  rw [bS fun v hv => (List.nodup_cons.mp nd).1 (List.of_mem_zip hv).1, if_neg hk]
  simp
 | p :: P, w :: vs, i + 1, m, nd, h1, h2, hk => by
  show bindC kindOf ((p, w) :: P.zip vs) m x = _
  unfold bindC
  exact cF (i := i) (List.nodup_cons.mp nd).2 (by simpa using h1) (by simpa using h2) hk
def start (N : List Str) (vs : List V) : St := vs.map some ++ List.replicate (N.length - vs.length) none
def cxOf (CX : CXT) (P : Program) (w : World) (K : KFr) (mg : Str -> Option Value) (base : Heap) (N : List Str) (qual : Str) (scope : Scope) (f : Addr) (cd : Value) (A : Around) (outer : List Env) (s : Shared) (H : Hp) (E : XK) : Cx where
 prog := P
 w := w
 K := K
 mg := mg
 base := base
 A := A.deeper (envOfC qual scope s.heap.objs.size f cd)
 N := N
 s₀ := s
 H₀ := H
 env := envOfC qual scope s.heap.objs.size f cd
 outer := outer
 stack := envOfC qual scope s.heap.objs.size f cd :: outer
 ex := []
 calm := true
 fn := fun _ => true
 pn := []
 xe := fun e s' => wpAny (model P w) (A.deeper (envOfC qual scope s.heap.objs.size f cd)) (leaving (envOfC qual scope s.heap.objs.size f cd) e) (fun _ s'' => CX outer H s E e s'') (fun e' s'' => CX outer H s E e' s'') s'
theorem aI {sc : Scope} {n : Nat} {x : Str} (h : sc.names.lookup x = some .cell) : ∃ c, (cellsFrom n sc.names []).lookup x = some c := by
 have q := PySem.W.cellsFrom_some sc.names n [] (.inl h)
 exact Option.isSome_iff_exists.mp q
theorem zO3 {CX : CXT} {P : Program} {w : World} {K : KFr} {mg : Str -> Option Value} {base : Heap} {N ps : List Str} {qual : Str} {scope : Scope} {f : Addr} {cd : Value} {A : Around} {outer : List Env} {s s1 : Shared} {H : Hp} {E : XK} {us : List Value} {vs : List V}
  (S : zH N ps scope) (hd : A.handled = none) (e0 : Env0 P w K mg base A outer s H) (hl : vs.length = ps.length) (r : Vals vs us)
  (x : InCallC s s.heap.objs.size (bindL (envOfC qual scope s.heap.objs.size f cd).kindOf (ps.zip us) fun _ => none) (cellsFrom (s.heap.objs.size + 1) scope.names []) (bindC (envOfC qual scope s.heap.objs.size f cd).kindOf (ps.zip us) fun _ => none) s1) :
  Inv (cxOf CX P w K mg base N qual scope f cd A outer s H E) [] (start N vs) H s1 := by
 have hpl : ps.length <= N.length := by have := congrArg List.length S.pre; rw [List.length_take] at this; bv_omega
 obtain ⟨h1, tk, rfl, hk⟩ := x.done
 have noA : ∀ b : Addr, b ∉ (cxOf CX P w K mg base N qual scope f cd A outer s H E).ex := fun b z => absurd (show b ∈ ([] : List Addr) from z) (by simp)
 refine ⟨⟨e0.mod, S.kind, rfl, rfl, Nat.le_refl _, fun y z c h1 h2 => ?_, fun y hy => ?_, fun y c _ h => ?_, fun _ => hd, Around.frames_deeper e0.frames, .inr ⟨rfl, rfl⟩, fun b z => absurd z (noA b), e0.bs, e0.bsz, fun b _ _ => noA b, fun b z => absurd z (noA b), e0.funs, e0.frf⟩,
  rfl, e0.bare, Un.kept hk, ⟨_, x.toInCall.ns, fun i y v h1 h2 h3 => ?_⟩, fun y c h => ⟨_, x.cell y c h⟩, e0.hok.fresh (Nat.le_refl _), fun y c h => ?_, fun p hp => absurd (show p ∈ ([] : List (Addr × Obj)) from hp) (by simp), e0.hok.kept hk, ?_⟩
 ·exact name_of_addr x.apart (PySem.mem_of_lookup h1) (PySem.mem_of_lookup h2)
 ·have hy : scope.names.lookup y = some .cell \/ scope.names.lookup y = some .free := hy
  rcases hy with hy | hy
  ·exact aI hy
  ·exact absurd rfl (S.nofree _ (PySem.mem_of_lookup hy))
 ·exact Nat.le_of_lt (x.above y c (PySem.mem_of_lookup h))
 ·have hi : i < vs.length := by
   unfold start at h2
   by_cases hi : i < vs.length
   ·exact hi
   ·rw [List.getElem?_append_right (by simpa using hi)] at h2
    rw [List.getElem?_replicate] at h2
    split at h2 <;> cases h2
  have ha : vs[i]? = some v := by
   unfold start at h2
   rw [List.getElem?_append_left (by simpa using hi), List.getElem?_map] at h2
   cases e : vs[i]? with
   | none => rw [e] at h2; cases h2
   | some a => rw [e] at h2; cases h2; rfl
  obtain ⟨u, hu, rv⟩ := r.get ha
  have hp : ps[i]? = some y := by
   rw [<- S.pre, List.getElem?_take_of_lt (by bv_omega)]; exact h1
  have ndP : ps.Nodup := by rw [<- S.pre]; exact S.nd.sublist (List.take_sublist _ _)
  refine ⟨u, rv, ?_⟩
  rcases S.par y (List.mem_of_getElem? hp) with k | k
  ·exact .inl ⟨k, cB ndP hp hu k⟩
  ·obtain ⟨c, e⟩ := aI (n := s.heap.objs.size + 1) k
   refine .inr ⟨.inl k, c, e, ?_⟩
   have q := x.cell y c e
   rw [cF ndP hp hu (by show scope.names.lookup y ≠ _; rw [k]; decide)] at q
   exact q
 ·exact e0.hok.fresh (Nat.le_of_lt (x.above y c (PySem.mem_of_lookup h)))
 ·unfold start
  show _ = N.length
  rw [List.length_append, List.length_map, List.length_replicate]
  bv_omega
theorem zB7 {CX : CXT} {P : Program} {w : World} {K : KFr} {mg : Str -> Option Value} {base : Heap} {k : Nat} {f : Addr} {name qual : Str} {params : Arguments} {body : List Stmt} {scope : Scope} {dV kV doc pm cdv ct oc : Value} {an od : Option Addr}
  {osl : Array (Option Value)} {N ps : List Str} {sp : Sp} (lk : K.lookup f = some ⟨oc, od, .func (PySem.W.fnOf name qual params body scope dV kV doc pm an cdv ct), osl⟩) (hcd : PySem.W.codeIn K cdv qual = true) (S : zH N ps scope)
  (len : ∀ vs H Q E, sp vs H Q E -> vs.length = ps.length)
  (hbody : ∀ (A : Around) (outer : List Env) (s : Shared) (H : Hp) (vs : List V) (Q : VK) (E : XK), Room k (A.deeper (envOfC qual scope s.heap.objs.size f cdv)) -> sp vs H Q E ->
   ∃ t, PSs (cxOf CX P w K mg base N qual scope f cdv A outer s H E) body t /\ t { nx := fun _ H' => Q .non H', rt := Q } (start N vs) H) :
  FnOk P w K mg base CX (k + 1) f (PySem.W.fnOf name qual params body scope dV kV doc pm an cdv ct) ps sp := by
 refine ⟨len, fun A outer s H args us vs Q E hr e0 hb r hsp => ?_⟩
 have hl := len _ _ _ _ hsp
 have KX : K.In s.heap := e0.mod.kin.keeps fun b o e => (e0.bs b o e).1
 have lim : s.heap.NoLimit := e0.mod.nolimit.keeps fun b o e => (e0.bs b o e).1
 have hkind : ∀ y ∈ ps.zip us, scope.names.lookup y.1 = some .local \/ (scope.names.lookup y.1 = some .cell /\ ((cellsFrom (s.heap.objs.size + 1) scope.names []).lookup y.1).isSome = true) := fun ⟨n, v⟩ hy => by
  rcases S.par n (List.of_mem_zip hy).1 with q | q
  ·exact .inl q
  ·exact .inr ⟨q, PySem.W.cellsFrom_some _ _ _ (.inl q)⟩
 refine codeAny_call_function hr.depth (KX _ _ lk) rfl S.co S.gen rfl (PySem.W.codeRec_of KX hcd) (hb _ _ _ _ ?_)
 refine wpAny_newFunctionEnv_cells S.kind hkind fun env he s1 x => ?_
 subst he
 refine ⟨lim.keeps x.toInCall.keep, codeAny_func ?_⟩
 obtain ⟨t, ht, hq⟩ := hbody A outer s H vs Q E (hr.deeper _) hsp
 have I : Inv (cxOf CX P w K mg base N qual scope f cdv A outer s H E) [] (start N vs) H s1 := zO3 S hr.hd e0 hl r x
 refine wpAny_mono (ht [] s1 (start N vs) H _ I hq) (fun fl s' hs => ?_) fun e s' hs => hs
 have fin : ∀ {σ' : St} {H' : Hp} {v : V} {u : Value}, Inv (cxOf CX P w K mg base N qual scope f cdv A outer s H E) [] σ' H' s' -> RelV v u -> Q v H' -> CE outer P w H s Q u s' :=
  fun {σ' H' v u} J rv q => ⟨v, H', J.os, J.bare, J.base, J.hok, rv, q⟩
 cases fl with
 | ret u =>
  obtain ⟨v, σ', H', J, rv, q⟩ := hs
  exact fin J rv q
 | next =>
  obtain ⟨σ', H', J, q⟩ := hs
  exact fin (v := V.non) (u := Value.none) J rfl q
 | brk =>
  obtain ⟨_, _, _, q⟩ := hs
  exact False.elim q
 | cont =>
  obtain ⟨_, _, _, q⟩ := hs
  exact False.elim q
section
variable {X : Cx} {x : Str} {p pos : Pos} {e : Expr} {es : List Expr} {t : TA} {id T : String} {r : List V -> Hp -> VK -> Prop}
def tCB (r : List V -> Hp -> VK -> Prop) (t : TA) : TE := fun σ H Q => t σ H fun vs H1 => r vs H1 Q
theorem vS (hc : CallR X (.builtin id) r) (hg : Gl X x) (hm : X.mg x = none) (hv : bootBuiltins x = some (.builtin id)) (ha : PA X (e :: es) t) (hn : autoParam (x ≠ "__name__") zJ._auto_1) (hdb : autoParam ((x == ("__debug__" : Str)) = false) zJ._auto_1)
  (he : autoParam (starEach (e :: es) X.env = (false, eval e X.env) :: starEach es X.env) zX._auto_1) (hpl : autoParam ((backTo pos (starEach es X.env)).any (·.1) = false) zX._auto_1) : PE X (.Call (.Name x p) (e :: es) [] pos) (tCB r t) := by
 intro pins s σ H Q I h
 refine wpAny_Call_Name_kw (kD I hg hm hv ?_ hn hdb)
 exact PyProof.Rows.callWith_builtin1 (thn (ha pos pins s σ H _ I h) fun us s1 ⟨vs, H1, I1, r1, q1⟩ => hc pins s1 σ H1 vs us Q I1 r1 q1) he hpl
theorem wU (hc : CallR X (.type T) r) (hg : Gl X x) (hm : X.mg x = none) (hv : bootBuiltins x = some (.type T)) (ha : PA X (e :: es) t) (hn : autoParam (x ≠ "__name__") zJ._auto_1) (hdb : autoParam ((x == ("__debug__" : Str)) = false) zJ._auto_1)
  (he : autoParam (starEach (e :: es) X.env = (false, eval e X.env) :: starEach es X.env) zX._auto_1) (hpl : autoParam ((backTo pos (starEach es X.env)).any (·.1) = false) zX._auto_1) : PE X (.Call (.Name x p) (e :: es) [] pos) (tCB r t) := by
 intro pins s σ H Q I h
 refine wpAny_Call_Name_kw (kD I hg hm hv ?_ hn hdb)
 exact PyProof.Rows.callWith_type1 (thn (ha pos pins s σ H _ I h) fun us s1 ⟨vs, H1, I1, r1, q1⟩ => hc pins s1 σ H1 vs us Q I1 r1 q1) he hpl
end
end L2
namespace HT
open PySem PyProof.Rows
section
open PySem.SeqAt
open PySem.AutoSeq1 (wpAny_loadPart')
open PySem.MeetsSeq PySem.MeetsSeq2 PySem.MeetsSeq3
end
section
variable {prog : Program} {w : World} {A : Around} {E : Value -> Shared -> Prop} {s : Shared}
theorem yX2 {t b : Addr} {vs ws : List Value} {Q : Value -> Shared -> Prop} (ht : IsTup s.heap t vs.toArray) (hb : IsTup s.heap b ws.toArray) (hv : vs ≠ [])
  (h1 : ws = [] -> Q (.ref t) s) (h2 : ws ≠ [] -> Q (.ref s.heap.objs.size) { s with heap := s.heap.push { cls := .type "tuple", data := .seq (vs ++ ws).toArray } })
  (hsz : vs.length + ws.length <= sizeLine) : wpAny (model prog w) A (binaryOp .Add (.ref t) (.ref b)) Q E s := by
 obtain ⟨⟨cls, dd, data, sl⟩, ho, hc, n, hd⟩ := id ht
 obtain ⟨⟨cls2, dd2, data2, sl2⟩, ho2, hc2, n2, hd2⟩ := id hb
 simp only at hc hd hc2 hd2
 subst hc hd hc2 hd2
 have e : vs.toArray ++ ws.toArray = (vs ++ ws).toArray := by simp
 by_cases hw : ws = []
 ·exact concat_meets ⟨_, ho, rfl⟩ ⟨_, ho2, rfl⟩ noFill_tuple_add seq_tuple_add PySem.F.slot_tuple_add PySem.F.entry_tuple_add (PySem.F.args_tuple_add_2 _ _)
   (tuple_addW1 t b vs.toArray ws.toArray n n2 dd dd2 sl sl2 (by simpa using hv) (by simp [hw])) ⟨ho, ho2, h1 hw⟩
 ·refine concat_meets ⟨_, ho, rfl⟩ ⟨_, ho2, rfl⟩ noFill_tuple_add seq_tuple_add PySem.F.slot_tuple_add PySem.F.entry_tuple_add (PySem.F.args_tuple_add_2 _ _)
   (tuple_addW2 t b vs.toArray ws.toArray n n2 dd dd2 sl sl2 (by simpa using hv) (by simpa using hw) (by rw [List.size_toArray, List.size_toArray]; exact hsz)) ⟨ho, ho2, ?_⟩
  rw [e]
  exact h2 hw
def sIx (n d : Nat) : Option Int -> Nat
 | none => d
 | some v => if v < 0 then (v + (n : Int)).toNat else min v.toNat n
theorem zG9 (n d : Nat) : sIx n d none = d := rfl
theorem yV6 (n d k : Nat) : sIx n d (some (k : Int)) = min k n := by
 show (if (k : Int) < 0 then ((k : Int) + (n : Int)).toNat else min (k : Int).toNat n) = min k n
 rw [if_neg (by bv_omega), Int.toNat_natCast]
theorem yT9 (n d : Nat) (hd : d <= n) (o : Option Int) : sIx n d o <= n := by
 cases o with
 | none => exact hd
 | some v =>
  show (if v < 0 then (v + (n : Int)).toNat else min v.toNat n) <= n
  by_cases hv : v < 0
  ·rw [if_pos hv]; bv_omega
  ·rw [if_neg hv]; exact Nat.min_le_right _ _
theorem zS6 (v : Int) (n d : Nat) : (if v < 0 then max (v + (n : Int)) 0 else min v (n : Int)) = ((sIx n d (some v) : Nat) : Int) := by
 show (if v < 0 then max (v + (n : Int)) 0 else min v (n : Int)) = (((if v < 0 then (v + (n : Int)).toNat else min v.toNat n) : Nat) : Int)
 by_cases hv : v < 0
 ·simp only [if_pos hv]; bv_omega
 ·simp only [if_neg hv]; bv_omega
theorem zR8 (lo hi : Option Int) (n : Nat) : Builtin.Slice.sliceAdjust lo hi 1 (n : Int) = (((sIx n 0 lo : Nat) : Int), ((sIx n n hi : Nat) : Int)) := by
 have h1 : ¬ ((1 : Int) < 0) := by bv_omega
 unfold Builtin.Slice.sliceAdjust
 simp only [h1, if_false]
 refine Prod.ext ?_ ?_
 ·cases lo with
  | none => rfl
  | some v => exact zS6 v n 0
 ·cases hi with
  | none => rfl
  | some v => exact zS6 v n n
theorem zO1 (i j : Nat) : Builtin.Slice.slicePlaces (i : Int) (j : Int) 1 = j - i := by
 unfold Builtin.Slice.slicePlaces
 have h1 : (1 : Int) > 0 := by bv_omega
 simp only [h1, if_true, Int.ediv_one]
 split <;> bv_omega
theorem fA {v : Value} {o : Option Int} {Q : Option Int -> Shared -> Prop} (p : IsPart v o) (h : Q o s) : wpAny (model prog w) A (Builtin.Slice.slicePartIndex v) Q E s := by
 cases p with
 | none => exact slicePart_none h
 | int i t => exact slicePart_int h
theorem qX {sl : Addr} {vl vu : Value} {lo hi : Option Int} {n : Nat} {Q : Int × Int × Nat -> Shared -> Prop} (hs : s.heap.IsSliceOf sl vl vu .none) (pl : IsPart vl lo) (pu : IsPart vu hi)
  (h : Q (((sIx n 0 lo : Nat) : Int), 1, sIx n n hi - sIx n 0 lo) s) : wpAny (model prog w) A (Builtin.Slice.sliceApplied (.ref sl) (pure (n : Int))) Q E s := by
 obtain ⟨os, hos, hcs, hds⟩ := id hs
 unfold Builtin.Slice.sliceApplied Builtin.Slice.sliceFields
 refine wpAny_bind (wpAny_bind (wpAny_field hos hds (x := vl) rfl (wpAny_bind (wpAny_field hos hds (x := vu) rfl (wpAny_bind (wpAny_field hos hds (x := .none) rfl (wpAny_pure ?_)))))))
 refine wpAny_bind (slicePart_none ?_)
 show wpAny _ _ (if ((1 : Int) == 0) = true then _ else _) _ _ s
 rw [if_neg (by decide)]
 refine wpAny_bind (fA pl (wpAny_bind (fA pu (wpAny_bind (wpAny_pure ?_)))))
 show wpAny _ _ (match Builtin.Slice.sliceAdjust lo hi 1 (n : Int) with | (lo, hi) => pure (lo, (1 : Int), Builtin.Slice.slicePlaces lo hi 1)) _ _ s
 rw [zR8 lo hi n]
 show wpAny _ _ (pure (((sIx n 0 lo : Nat) : Int), (1 : Int), Builtin.Slice.slicePlaces ((sIx n 0 lo : Nat) : Int) ((sIx n n hi : Nat) : Int) 1)) _ _ s
 rw [zO1]
 exact wpAny_pure h
theorem zD8 (xs : Array Value) (i k : Nat) : ((List.range k).filterMap fun (m : Nat) => xs[((i : Int) + (m : Int) * 1).toNat]?).toArray = ((xs.toList.drop i).take k).toArray := by
 have e : (fun (m : Nat) => xs[((i : Int) + (m : Int) * 1).toNat]?) = fun m => xs[i + m]? := by
  funext m
  have : ((i : Int) + (m : Int) * 1).toNat = i + m := by bv_omega
  rw [this]
 rw [e]
 have := pick_run xs i k
 rw [List.filterMap_map] at this
 have e2 : ((fun x => xs[x]?) ∘ fun x => i + x) = fun m => xs[i + m]? := rfl
 rw [e2] at this
 rw [this]
theorem gD {t sl : Addr} {items : Array Value} {vl vu : Value} {lo hi : Option Int} {Q : Value -> Shared -> Prop} (ht : IsTup s.heap t items) (hs : s.heap.IsSliceOf sl vl vu .none) (pl : IsPart vl lo) (pu : IsPart vu hi)
  (hw : ¬ (sIx items.size 0 lo = 0 /\ sIx items.size items.size hi = items.size))
  (h : Q (.ref s.heap.objs.size) { s with heap := s.heap.push { cls := .type "tuple", data := .seq ((items.toList.drop (sIx items.size 0 lo)).take (sIx items.size items.size hi - sIx items.size 0 lo)).toArray } })
  (hsz : items.size <= sizeLine) : wpAny (model prog w) A (getItem (.ref t) (.ref sl)) Q E s := by
 have htake : sizeOk (.seq ((items.toList.drop (sIx items.size 0 lo)).take (sIx items.size items.size hi - sIx items.size 0 lo)).toArray) := by
  show ((items.toList.drop (sIx items.size 0 lo)).take (sIx items.size items.size hi - sIx items.size 0 lo)).toArray.size <= sizeLine
  rw [List.size_toArray, List.length_take, List.length_drop, Array.length_toList]
  bv_omega
 have hj : sIx items.size items.size hi <= items.size := yT9 _ _ (Nat.le_refl _) hi
 obtain ⟨os, hos, hcs, hds⟩ := id hs
 have hTs : s.TypeIs (.ref sl) "slice" := ⟨os, hos, hcs⟩
 unfold getItem
 try with_reducible refine wpAny_holding ?_
 first | refine wpAny_bind (wpAny_pure ?_) | skip
 refine wpAny_bind (wpAny_sequenceKey ht.typeIs (by decide) ?_)
 refine wpAny_bind (wpAny_callSpecial?_slot (name := Str.ofString "__getitem__") ht.typeIs PyProof.Rows.slot_tuple_getitem
  (wpAny_call_entry PyProof.Rows.slot_tuple_getitem ht.typeIs entry_tuple_getitem ?_ (args_tuple_getitem _ _)))
 show wpAny _ _ (Builtin.Tuple.tupleItemsOf (.ref t) >>= _) _ _ s
 refine wpAny_bind (tupleItemsOf_ ht ?_)
 refine wpAny_bind (wpAny_typeOf hTs ?_)
 rw [if_pos (by decide)]
 refine wpAny_bind (qX hs pl pu ?_)
 have hno : ¬ ((((sIx items.size 0 lo : Nat) : Int) == 0 && (1 : Int) == 1 && (sIx items.size items.size hi - sIx items.size 0 lo) == items.size) = true) := by
  intro q
  rw [Bool.and_eq_true, Bool.and_eq_true] at q
  have q1 : ((sIx items.size 0 lo : Nat) : Int) = 0 := eq_of_beq q.1.1
  have q2 : sIx items.size items.size hi - sIx items.size 0 lo = items.size := eq_of_beq q.2
  exact hw ⟨by bv_omega, by bv_omega⟩
 show wpAny _ _ (if (((sIx items.size 0 lo : Nat) : Int) == 0 && (1 : Int) == 1 && (sIx items.size items.size hi - sIx items.size 0 lo) == items.size) = true then _ else _) _ _ s
 rw [if_neg hno, zD8]
 first
  | exact wpAny_bind (m := Builtin.Tuple.tupleExact _) (wpAny_newObj_type (wpAny_pure ⟨_, rfl, wpAny_pure h⟩) htake)
  | exact wpAny_bind (m := Builtin.Tuple.tupleExact _) (wpAny_newObj_type (wpAny_bind (wpAny_pure (wpAny_pure ⟨_, rfl, wpAny_pure h⟩))) htake)
  | exact wpAny_bind (wpAny_bind (m := Builtin.Tuple.tupleExact _) (wpAny_newObj_type (wpAny_pure (wpAny_pure ⟨_, rfl, wpAny_pure h⟩)) htake))
  | exact wpAny_bind (wpAny_bind (m := Builtin.Tuple.tupleExact _) (wpAny_newObj_type (wpAny_pure ⟨_, rfl, wpAny_pure h⟩) htake))
end
end HT
namespace L2
open PySem PySem.Spec PyProof.Rows
abbrev TO := St -> Hp -> (Option Int -> Hp -> Prop) -> Prop
def PO (X : Cx) (e : Option Expr) (t : TO) : Prop :=
 ∀ (pins : List (Addr × Obj)) (s : Shared) (σ : St) (H : Hp) (Q : Option Int -> Hp -> Prop), Inv X pins σ H s -> t σ H Q ->
  wpAny (model X.prog X.w) X.A (evalPart e X.env) (fun u s' => ∃ o H', Inv X pins σ H' s' /\ IsPart u o /\ Q o H') X.xe s
def tNoPart : TO := fun _ H Q => Q none H
def tPart (t : TE) : TO := fun σ H Q => t σ H fun x H1 => ∃ i, x = .int i /\ Q (some i) H1
theorem jC {ns : List Int} : ∀ {us : List Value}, Vals (ns.map V.int) us -> IntsAre us ns := by
 induction ns with
 | nil => intro us r; rw [List.map_nil] at r; cases r; exact .nil
 | cons n ns ih =>
  intro us r
  rw [List.map_cons] at r
  cases r with
  | cons r1 r2 =>
   obtain ⟨t, e⟩ := r1
   subst e
   exact .cons n t (ih r2)
section
variable {X : Cx} {e : Expr} {te : TE} {lo hi : Option Expr} {tl th : TO} {pos p2 : Pos}
theorem zT5 : PO X none tNoPart := by
 intro pins s σ H Q I h
 rw [evalPart_none]
 exact wpAny_pure ⟨none, H, I, .none, h⟩
theorem zU8 (h : PE X e te) : PO X (some e) (tPart te) := by
 intro pins s σ H Q I hw
 rw [evalPart_some]
 refine thn (h pins s σ H _ I hw) fun u s1 ⟨x, H1, I1, r1, q1⟩ => ?_
 obtain ⟨i, rfl, q⟩ := q1
 obtain ⟨t, rfl⟩ := r1
 exact ⟨some i, H1, I1, .int i t, q⟩
def SlR (X : Cx) (r : V -> Option Int -> Option Int -> Hp -> VK -> Prop) : Prop :=
 ∀ (pins : List (Addr × Obj)) (s : Shared) (σ : St) (H : Hp) (x : V) (v vl vu : Value) (lo hi : Option Int) (sl : Addr) (Q : VK), Inv X pins σ H s -> RelV x v -> s.heap.IsSliceOf sl vl vu .none -> IsPart vl lo -> IsPart vu hi -> r x lo hi H Q ->
  ∃ T id, typeLookup (.type T) "__getitem__" = pure (some (.builtin id)) /\ s.TypeIs v T /\ wpAny (model X.prog X.w) X.A (getItem v (.ref sl)) (EP X pins σ Q) X.xe s
theorem SlR.or {r r' : V -> Option Int -> Option Int -> Hp -> VK -> Prop} (h : SlR X r) (h' : SlR X r') : SlR X (fun x lo hi H Q => r x lo hi H Q \/ r' x lo hi H Q) := by
 intro pins s σ H x v vl vu lo hi sl Q I rx hs pl pu q
 rcases q with q | q
 ·exact h pins s σ H x v vl vu lo hi sl Q I rx hs pl pu q
 ·exact h' pins s σ H x v vl vu lo hi sl Q I rx hs pl pu q
def tSl (r : V -> Option Int -> Option Int -> Hp -> VK -> Prop) (te : TE) (tl th : TO) : TE := fun σ H Q => te σ H fun x H1 => tl σ H1 fun l H2 => th σ H2 fun u H3 => r x l u H3 Q
theorem aG {r : V -> Option Int -> Option Int -> Hp -> VK -> Prop} (hr : SlR X r) (he : PE X e te) (hl : PO X lo tl) (hu : PO X hi th) : PE X (.Subscript e (.Slice lo hi none p2) pos) (tSl r te tl th) := by
 intro pins s σ H Q I h
 refine Subscript_ (thn (he pins s σ H _ I h) fun v s1 ⟨x, H1, I1, r1, q1⟩ => ?_)
 refine wpAny_Slice (thn (hl pins s1 σ H1 _ I1 q1) fun vl s2 ⟨l, H2, I2, pl, q2⟩ => thn (hu pins s2 σ H2 _ I2 q2) fun vu s3 ⟨u, H3, I3, pu, q3⟩ => ?_)
 rw [evalPart_none]
 refine wpAny_pure ?_
 have I4 : Inv X pins σ H3 { s3 with heap := s3.heap.push { cls := .type "slice", data := .fields #[vl, vu, .none] } } := I3.kept (t' := s3.toks) fun b ob q => Heap.get?_push_of_some _ q
 obtain ⟨T, id, hT, ht, hg⟩ := hr pins { s3 with heap := s3.heap.push { cls := .type "slice", data := .fields #[vl, vu, .none] } } σ H3 x v vl vu l u s3.heap.objs.size Q I4 r1 (Heap.IsSliceOf.new ..) pl pu q3
 show wpAny (model X.prog X.w) X.A (subscriptTail e (.Slice lo hi none p2) v (.ref s3.heap.objs.size)) (EP X pins σ Q) X.xe { s3 with heap := s3.heap.push { cls := .type "slice", data := .fields #[vl, vu, .none] } }
 exact tail_any (ops := [.ref s3.heap.objs.size, v]) ht hT hg (by with_unfolding_all rfl)
def cutV (xs : List V) (lo hi : Option Int) : List V := (xs.drop (HT.sIx xs.length 0 lo)).take (HT.sIx xs.length xs.length hi - HT.sIx xs.length 0 lo)
theorem gA (xs : List V) (lo hi : Option Int) : (cutV xs lo hi).length <= xs.length := by
 unfold cutV
 rw [List.length_take, List.length_drop]
 bv_omega
def rSlT (K : KFr) : V -> Option Int -> Option Int -> Hp -> VK -> Prop := fun x lo hi H Q => ∃ a xs, x = .ref a /\ SqT K H a xs /\
 ¬ (HT.sIx xs.length 0 lo = 0 /\ HT.sIx xs.length xs.length hi = xs.length) /\ ∀ p, H p = none -> Q (.ref p) (upd H p (.tup (cutV xs lo hi)))
theorem zI2 : SlR X (rSlT X.K) := by
 intro pins s σ H x v vl vu lo hi sl Q I rx hs pl pu h
 obtain ⟨a, xs, rfl, hx, hw, q⟩ := h
 cases rx
 obtain ⟨its, r, ht, hz⟩ := I.tuple hx
 have hlen : its.toArray.size = xs.length := by rw [List.size_toArray]; exact r.length.symm
 refine ⟨"tuple", _, PyProof.Rows.slot_tuple_getitem.lookup, ht.typeIs, ?_⟩
 refine HT.gD ht hs pl pu (by rw [hlen]; exact hw) ?_ (by rw [hlen]; exact hz)
 rw [hlen]
 refine ⟨.ref s.heap.objs.size, _, I.laid (t' := s.toks) (o := .tup (cutV xs lo hi)) (fun b ob q => Heap.get?_push_of_some _ q) (Nat.le_refl _) ?_, rfl, q _ (I.hok.fresh (Nat.le_refl _))⟩
 exact ⟨Nat.le_trans (gA xs lo hi) hz, _, (r.drop (HT.sIx xs.length 0 lo)).take (HT.sIx xs.length xs.length hi - HT.sIx xs.length 0 lo), TupAt.new _ _⟩
def rCatT (K : KFr) : R2 := fun x y H Q => ∃ a b xs ys, x = .ref a /\ y = .ref b /\ SqT K H a xs /\ SqT K H b ys /\ xs ≠ [] /\ xs.length + ys.length <= sizeLine /\
 (ys = [] -> Q (.ref a) H) /\ (ys ≠ [] -> ∀ p, H p = none -> Q (.ref p) (upd H p (.tup (xs ++ ys))))
theorem Vals.cV {xs : List V} {us : List Value} (r : Vals xs us) : us = [] ↔ xs = [] := by
 cases r with
 | nil => simp
 | cons _ _ => simp
theorem yY4 : OpR X (binaryOp .Add) (rCatT X.K) := by
 intro pins s σ H x y v u Q I rx ry h
 obtain ⟨a, b, xs, ys, rfl, rfl, ha, hb, hx, hz, q1, q2⟩ := h
 cases rx
 cases ry
 obtain ⟨its, r1, p1, _⟩ := I.tuple ha
 obtain ⟨its2, r2, p2, _⟩ := I.tuple hb
 refine HT.yX2 p1 p2 (fun z => hx (r1.cV.mp z)) (fun z => ⟨.ref a, H, I, rfl, q1 (r2.cV.mp z)⟩) (fun z => ?_) (by rw [<- r1.length, <- r2.length]; exact hz)
 refine ⟨.ref s.heap.objs.size, _, I.laid (t' := s.toks) (o := .tup (xs ++ ys)) (fun b ob q => Heap.get?_push_of_some _ q) (Nat.le_refl _) ?_, rfl, q2 (fun w => z (r2.cV.mpr w)) _ (I.hok.fresh (Nat.le_refl _))⟩
 exact ⟨by rw [List.length_append]; exact hz, _, r1.append r2, TupAt.new _ _⟩
end
def ixN (n : Nat) (i : Int) : Option Nat := if 0 <= i then (if i < n then some i.toNat else none) else if -(n : Int) <= i then some (i + n).toNat else none
def atI {α : Type} (xs : List α) (i : Int) : Option α := (ixN xs.length i).bind fun j => xs[j]?
theorem dC {n : Nat} {i : Int} {j : Nat} (h : ixN n i = some j) : seqIndex? i n = some j /\ j < n /\ -(n : Int) <= i /\ i < n := by
 unfold ixN at h
 by_cases h0 : 0 <= i
 ·rw [if_pos h0] at h
  by_cases h1 : i < n
  ·rw [if_pos h1] at h
   have e : i.toNat = j := Option.some.inj h
   exact ⟨by rw [seqIndex_of h0 h1, e], by bv_omega, by bv_omega, h1⟩
  ·rw [if_neg h1] at h; cases h
 ·rw [if_neg h0] at h
  by_cases h1 : -(n : Int) <= i
  ·rw [if_pos h1] at h
   have e : (i + n).toNat = j := Option.some.inj h
   exact ⟨by rw [seqIndex_neg (by bv_omega) h1, e], by bv_omega, h1, by bv_omega⟩
  ·rw [if_neg h1] at h; cases h
theorem dE {α : Type} {xs : List α} {i : Int} {v : α} (h : atI xs i = some v) : ∃ j, seqIndex? i xs.length = some j /\ xs[j]? = some v /\ j < xs.length /\ -(xs.length : Int) <= i /\ i < xs.length := by
 unfold atI at h
 cases e : ixN xs.length i with
 | none => rw [e] at h; cases h
 | some j =>
  rw [e] at h
  obtain ⟨h1, h2, h3, h4⟩ := dC e
  exact ⟨j, h1, h, h2, h3, h4⟩
theorem gK {α : Type} {xs : List α} {j : Nat} {v : α} (h : xs[j]? = some v) : atI xs (j : Int) = some v := by
 have hj : j < xs.length := (List.getElem?_eq_some_iff.mp h).1
 have e : ixN xs.length (j : Int) = some j := by
  unfold ixN
  rw [if_pos (by bv_omega), if_pos (by bv_omega)]; simp
 unfold atI; rw [e]; exact h
def PlainIx (b : Expr) : Prop := ∀ o i, subscripted b false o i = operate [o, i] (getItem o i)
def IxR (X : Cx) (r : R2) : Prop :=
 ∀ (value slice : Expr) (pins : List (Addr × Obj)) (s : Shared) (σ : St) (H : Hp) (x y : V) (v u : Value) (Q : VK), Inv X pins σ H s -> RelV x v -> RelV y u -> r x y H Q ->
  subscripted slice false v u = operate [v, u] (getItem v u) -> wpAny (model X.prog X.w) X.A (subscriptTail value slice v u) (EP X pins σ Q) X.xe s
def MtR (X : Cx) (id : String) (r : V -> List V -> Hp -> VK -> Prop) : Prop :=
 ∀ (pins : List (Addr × Obj)) (s : Shared) (σ : St) (H : Hp) (x : V) (xs : List V) (v : Value) (us : List Value) (Q : VK), Inv X pins σ H s -> RelV x v -> Vals xs us -> r x xs H Q ->
  wpAny (model X.prog X.w) X.A (call (.builtin id) (v :: us)) (EP X pins σ Q) X.xe s
section
variable {X : Cx} {a b : Expr} {ta tb : TE} {pos : Pos}
theorem IxR.or {r r' : R2} (h : IxR X r) (h' : IxR X r') : IxR X (fun x y H Q => r x y H Q \/ r' x y H Q) := by
 intro value slice pins s σ H x y v u Q I rx ry q hs
 rcases q with q | q
 ·exact h value slice pins s σ H x y v u Q I rx ry q hs
 ·exact h' value slice pins s σ H x y v u Q I rx ry q hs
theorem xY {r : R2} (hr : IxR X r) (ha : PE X a ta) (hb : PE X b tb) (hs : PlainIx b) : PE X (.Subscript a b pos) (tOp r ta tb) := by
 intro pins s σ H Q I h
 exact Subscript_ (binT ha hb I h fun v u s2 x y H2 I2 rx ry q => hr a b pins s2 σ H2 x y v u Q I2 rx ry q (hs _ _))
def rIxL (K : KFr) : R2 := fun x y H Q => ∃ p xs i v, x = .ref p /\ y = .int i /\ SqL K H p xs /\ atI xs i = some v /\ Q v H
def rIxT (K : KFr) : R2 := fun x y H Q => ∃ p xs i v, x = .ref p /\ y = .int i /\ SqT K H p xs /\ atI xs i = some v /\ Q v H
def rIxS : R2 := fun x y H Q => ∃ z i c, x = .str z /\ y = .int i /\ z.length <= sizeLine /\ atI z.cps.toList i = some c /\ Q (.str ⟨#[c]⟩) H
theorem yB : IxR X (rIxL X.K) := by
 intro value slice pins s σ H x y v u Q I rx ry h hs
 obtain ⟨p, xs, i, z, rfl, rfl, hq, he, q⟩ := h
 cases rx
 obtain ⟨t, rfl⟩ := ry
 obtain ⟨its, r, pl, hz⟩ := I.list hq
 obtain ⟨j, h1, h2, h3, h4, h5⟩ := dE he
 obtain ⟨w, ew, rw'⟩ := r.get h2
 have hl := r.length
 have hn := line63
 have fin : EP X pins σ Q w s := ⟨z, H, I, rw', q⟩
 by_cases h0 : 0 <= i
 ·have hj : i.toNat = j := by
   rw [seqIndex_of h0 h5] at h1
   exact Option.some.inj h1
  exact item_listR pl.isList h0 (by bv_omega) (by rw [hj]; simpa using ew) fin hs
 ·have hj : (i + (its.toArray.size : Int)).toNat = j := by
   rw [seqIndex_neg (by bv_omega) h4] at h1
   rw [List.size_toArray, <- hl]
   exact Option.some.inj h1
  exact subscriptTail_builtinR (x := w) pl.isList.typeIs slot_list_getitem.lookup
   (wpAny_getItem_list_neg (Q := fun r s' => r = w /\ EP X pins σ Q r s') pl.isList (by bv_omega) (by rw [List.size_toArray] <;> bv_omega) (by bv_omega) (by rw [hj]; simpa using ew) ⟨rfl, fin⟩) hs
theorem jU : IxR X (rIxT X.K) := by
 intro value slice pins s σ H x y v u Q I rx ry h hs
 obtain ⟨p, xs, i, z, rfl, rfl, hq, he, q⟩ := h
 cases rx
 obtain ⟨t, rfl⟩ := ry
 obtain ⟨its, r, pl, hz⟩ := I.tuple hq
 obtain ⟨j, h1, h2, h3, h4, h5⟩ := dE he
 obtain ⟨w, ew, rw'⟩ := r.get h2
 have hl := r.length
 have hn := line63
 have fin : EP X pins σ Q w s := ⟨z, H, I, rw', q⟩
 exact subscriptTail_builtinR (x := w) pl.typeIs slot_tuple_getitem.lookup
  (getItem_tuple (j := j) (Q := fun r s' => r = w /\ EP X pins σ Q r s') pl (by bv_omega) (by bv_omega) (by rw [List.size_toArray, <- hl]; exact h1) (by simpa using ew) ⟨rfl, fin⟩) hs
theorem yR5 : IxR X rIxS := by
 intro value slice pins s σ H x y v u Q I rx ry h hs
 obtain ⟨z, i, c, rfl, rfl, hz, he, q⟩ := h
 obtain ⟨t, rfl⟩ := rx
 obtain ⟨t', rfl⟩ := ry
 obtain ⟨j, h1, h2, h3, h4, h5⟩ := dE he
 have hl : z.cps.toList.length = z.length := by simp [Str.length]
 rw [hl] at h1 h4 h5
 have hn := line63
 exact tail_any (typeIs_str s z t) slot_str_getitem.lookup (getItem_str (c := c) (by
  have e1 : decide (i < -(2 ^ 63 : Int)) = false := decide_eq_false (by bv_omega)
  have e2 : decide (i ≥ 2 ^ 63) = false := decide_eq_false (by bv_omega)
  rw [e1, e2, Bool.or_false]) (by rw [h1]; simpa using h2) ⟨.str ⟨#[c]⟩, H, I.tok _, ⟨_, rfl⟩, q⟩) hs
def rIx (K : KFr) : R2 := fun x y H Q => rIxL K x y H Q \/ rIxT K x y H Q \/ rIxS x y H Q
theorem yT : IxR X (rIx X.K) := yB.or (jU.or yR5)
theorem zR7 (its : List Value) (n j : Nat) (u : Value) : Obj.mapSeq (·.setIfInBounds j u) { cls := .type "list", data := .seq its.toArray n } = { cls := .type "list", data := .seq (its.set j u).toArray n } := by
 simp [Obj.mapSeq]
theorem Inv.lst {pins : List (Addr × Obj)} {σ : St} {H : Hp} {s : Shared} {p : Addr} {xs : List V} (I : Inv X pins σ H s) (h : H p = some (.lst xs)) :
  ∃ (its : List Value) (n : Nat), Vals xs its /\ s.heap.get? p = some { cls := .type "list", data := .seq its.toArray n } /\ xs.length <= sizeLine := by
 obtain ⟨z, its, n, r, e⟩ := I.hok p _ h
 exact ⟨its, n, r, e, z⟩
theorem Inv.lstUpd {pins : List (Addr × Obj)} {σ : St} {H : Hp} {s : Shared} {p : Addr} {xs ys : List V} {its its' : List Value} {n n' : Nat} {f : Obj -> Obj} (I : Inv X pins σ H s) (h : H p = some (.lst xs))
  (ho : s.heap.get? p = some { cls := .type "list", data := .seq its.toArray n }) (hf : f { cls := .type "list", data := .seq its.toArray n } = { cls := .type "list", data := .seq its'.toArray n' }) (r : Vals ys its') (hz : ys.length <= sizeLine) (t : Nat) :
  Inv X pins σ (upd H p (.lst ys)) { s with heap := s.heap.update p f, toks := t } := by
 have e : (s.heap.update p f).get? p = some { cls := .type "list", data := .seq its'.toArray n' } := by
  rw [Heap.get?_update_self f ho (by rw [hf] <;> rfl), hf]
 refine I.write (x := p) (e := p) (by rw [h]; trivial) (.inl rfl) (fun b u hb q => (Heap.get?_update_other _ _ (Ne.symm hb)).trans q) ⟨_, e⟩ ?_
 exact ⟨hz, its', n', r, e⟩
def rSetL : V -> V -> V -> Hp -> (Hp -> Prop) -> Prop := fun o i v H Q => ∃ p xs k j, o = .ref p /\ i = .int k /\ H p = some (.lst xs) /\ ixN xs.length k = some j /\ Q (upd H p (.lst (xs.set j v)))
theorem wJ : PSet X rSetL := by
 intro pins s σ H o i v ov iv u Q I ro ri rv h
 obtain ⟨p, xs, k, j, rfl, rfl, hp, hj, q⟩ := h
 cases ro
 obtain ⟨t, rfl⟩ := ri
 obtain ⟨its, n, r, ho, hz⟩ := I.lst hp
 obtain ⟨h1, h2, h3, h4⟩ := dC hj
 have hl := r.length
 have hn := line63
 have I' : Inv X pins σ (upd H p (.lst (xs.set j v))) { s with heap := s.heap.update p (Obj.mapSeq (·.setIfInBounds j u)) } :=
  I.lstUpd hp ho (zR7 its n j u) (r.set rv j) (by rw [List.length_set]; exact hz) s.toks
 by_cases h0 : 0 <= k
 ·have hk : k.toNat = j := by
   rw [seqIndex_of h0 h4] at h1
   exact Option.some.inj h1
  exact PySem.W.ki_setAt ho h0 (by bv_omega) (by rw [List.size_toArray, <- hl]; exact h4) (by rw [hk]; exact ⟨_, I', q⟩)
 ·have hk : (k + (its.toArray.size : Int)).toNat = j := by
   rw [seqIndex_neg (by bv_omega) h3] at h1
   rw [List.size_toArray, <- hl]
   exact Option.some.inj h1
  exact PySem.W.ki_setBack ho (by bv_omega) (by rw [List.size_toArray, <- hl]; exact h3) (by bv_omega) (by rw [hk]; exact ⟨_, I', q⟩)
theorem aA (lo hi : Option Int) (n : Nat) : (sliceBounds lo hi none n).1 = ((HT.sIx n 0 lo : Nat) : Int) /\ (sliceBounds lo hi none n).2.1 = ((HT.sIx n n hi : Nat) : Int) /\ (sliceBounds lo hi none n).2.2 = 1 := by
 refine ⟨?_, ?_, rfl⟩
 ·cases lo with
  | none => simp [sliceBounds, HT.sIx]
  | some i =>
   simp only [sliceBounds, HT.sIx, Option.getD_none, show (1 : Int) > 0 by decide, if_true]
   by_cases h : i < 0
   ·simp only [h, if_true] <;> bv_omega
   ·simp only [h, if_false] <;> bv_omega
 ·cases hi with
  | none => simp [sliceBounds, HT.sIx]
  | some i =>
   simp only [sliceBounds, HT.sIx, Option.getD_none, show (1 : Int) > 0 by decide, if_true]
   by_cases h : i < 0
   ·simp only [h, if_true] <;> bv_omega
   ·simp only [h, if_false] <;> bv_omega
theorem bJ (its : List Value) (lo hi : Option Int) : slicePick its.toArray lo hi none = ((its.drop (HT.sIx its.length 0 lo)).take (HT.sIx its.length its.length hi - HT.sIx its.length 0 lo)).toArray := by
 obtain ⟨h1, h2, h3⟩ := aA lo hi its.toArray.size
 unfold slicePick
 rw [h1, h2, h3]
 simp only [sliceRange_one, pick_run, List.size_toArray] <;> rfl
def rSlL (K : KFr) : V -> Option Int -> Option Int -> Hp -> VK -> Prop := fun x lo hi H Q => ∃ a xs, x = .ref a /\ SqL K H a xs /\ ∀ p, H p = none -> Q (.ref p) (upd H p (.lst (cutV xs lo hi)))
theorem yZ3 : SlR X (rSlL X.K) := by
 intro pins s σ H x v vl vu lo hi sl Q I rx hs pl pu h
 obtain ⟨a, xs, rfl, hx, q⟩ := h
 cases rx
 obtain ⟨its, r, ht, hz⟩ := I.list hx
 have hlen := r.length
 refine ⟨"list", _, slot_list_getitem.lookup, ht.isList.typeIs, ?_⟩
 refine wpAny_getItem_list_slice ht.isList hs pl pu .none (by simp) ?_ (by rw [List.size_toArray] <;> bv_omega)
 rw [bJ, <- hlen]
 refine ⟨.ref s.heap.objs.size, _, I.laid (t' := s.toks) (o := .lst (cutV xs lo hi)) (fun b ob q => Heap.get?_push_of_some _ q) (Nat.le_refl _) ?_, rfl, q _ (I.hok.fresh (Nat.le_refl _))⟩
 exact ⟨Nat.le_trans (gA xs lo hi) hz, _, 0, (r.drop (HT.sIx xs.length 0 lo)).take (HT.sIx xs.length xs.length hi - HT.sIx xs.length 0 lo), Heap.get?_push_size _ rfl⟩
def flatV : V -> Bool
 | .non => true
 | .bl _ => true
 | .int _ => true
 | .str _ => true
 | _ => false
def eqV : V -> V -> Bool
 | .non, .non => true
 | .bl a, .bl b => a == b
 | .bl a, .int b => (if a then 1 else 0) == b
 | .int a, .bl b => a == (if b then 1 else 0)
 | .int a, .int b => a == b
 | .str a, .str b => a == b
 | _, _ => false
theorem yQ9 {A : Around} {s : Shared} {y x : V} {u v : Value} (ry : RelV y u) (rx : RelV x v) (fy : flatV y = true) (fx : flatV x = true) : SeqAt.EqAt A s u v (eqV y x) := by
 cases y with
 | non =>
  cases ry
  cases x with
  | non => cases rx; exact SeqAt.EqAt.same _
  | bl b => cases rx; exact SeqAt.EqAt.none_bool b
  | int b => obtain ⟨t, rfl⟩ := rx; exact SeqAt.EqAt.none_int b t
  | str b => obtain ⟨t, rfl⟩ := rx; exact SeqAt.EqAt.none_str b t
  | _ => exact absurd (show false = true from fx) Bool.false_ne_true
 | bl a =>
  cases ry
  cases x with
  | non => cases rx; exact SeqAt.EqAt.bool_none a
  | bl b => cases rx; exact SeqAt.EqAt.bool_bool a b
  | int b => obtain ⟨t, rfl⟩ := rx; exact SeqAt.EqAt.bool_int a b t
  | str b => obtain ⟨t, rfl⟩ := rx; exact SeqAt.EqAt.bool_str a b t
  | _ => exact absurd (show false = true from fx) Bool.false_ne_true
 | int a =>
  obtain ⟨t', rfl⟩ := ry
  cases x with
  | non => cases rx; exact SeqAt.EqAt.int_none a t'
  | bl b => cases rx; exact SeqAt.EqAt.int_bool a t' b
  | int b => obtain ⟨t, rfl⟩ := rx; exact SeqAt.EqAt.int_int a t' b t
  | str b => obtain ⟨t, rfl⟩ := rx; exact SeqAt.EqAt.int_str a t' b t
  | _ => exact absurd (show false = true from fx) Bool.false_ne_true
 | str a =>
  obtain ⟨t', rfl⟩ := ry
  cases x with
  | non => cases rx; exact SeqAt.EqAt.str_none a t'
  | bl b => cases rx; exact SeqAt.EqAt.str_bool a t' b
  | int b => obtain ⟨t, rfl⟩ := rx; exact SeqAt.EqAt.str_int a t' b t
  | str b => obtain ⟨t, rfl⟩ := rx; exact SeqAt.EqAt.str_str a t' b t
  | _ => exact absurd (show false = true from fx) Bool.false_ne_true
 | _ => exact absurd (show false = true from fy) Bool.false_ne_true
def eqU (x : V) (u : Value) : Bool := match u with
 | .none => eqV .non x
 | .bool b => eqV (.bl b) x
 | .int i _ => eqV (.int i) x
 | .str z _ => eqV (.str z) x
 | _ => false
theorem zI1 {x y : V} {u : Value} (r : RelV y u) (f : flatV y = true) : eqU x u = eqV y x := by
 cases y with
 | non => cases r; rfl
 | bl b => cases r; rfl
 | int i => obtain ⟨t, rfl⟩ := r; rfl
 | str z => obtain ⟨t, rfl⟩ := r; rfl
 | _ => exact absurd (show false = true from f) Bool.false_ne_true
theorem jZ {x : V} : ∀ {xs : List V} {us : List Value}, Vals xs us -> xs.all flatV = true -> us.any (eqU x) = xs.any fun y => eqV y x
 | _, _, .nil, _ => rfl
 | y :: xs, u :: us, .cons r t, f => by
  rw [List.all_cons, Bool.and_eq_true] at f
  rw [List.any_cons, List.any_cons, zI1 r f.1, jZ t f.2]
theorem qV {A : Around} {s : Shared} {x : V} {v : Value} (rx : RelV x v) (fx : flatV x = true) : ∀ {xs : List V} {us : List Value}, Vals xs us -> xs.all flatV = true -> ∀ u ∈ us, SeqAt.EqAt A s u v (eqU x u)
 | _, _, .nil, _ => fun u hu => by cases hu
 | y :: xs, u :: us, .cons r t, f => fun u' hu => by
  rw [List.all_cons, Bool.and_eq_true] at f
  rcases List.mem_cons.mp hu with rfl | hu
  ·rw [zI1 r f.1]; exact yQ9 r rx f.1 fx
  ·exact qV rx fx t f.2 u' hu
def inV (x : V) (xs : List V) : Bool := xs.any fun y => eqV y x
def rIn (K : KFr) (neg : Bool) : R2 := fun x y H Q => ∃ p xs, y = .ref p /\ (SqL K H p xs \/ SqT K H p xs) /\ flatV x = true /\ xs.all flatV = true /\ Q (.bl (if neg then !inV x xs else inV x xs)) H
theorem uQ : OpR X (compareOp .In) (rIn X.K false) := by
 intro pins s σ H x y v u Q I rx ry h
 obtain ⟨p, xs, rfl, hq, fx, fs, q⟩ := h
 cases ry
 rcases hq with hq | hq
 ·obtain ⟨its, r, pl, hz⟩ := I.list hq
  refine SeqAt.in_listAt (eqU x) pl.isList (fun w hw => qV rx fx r fs w (by simpa using hw)) ⟨.bl _, H, I, rfl, ?_⟩
  rw [show its.toArray.any (eqU x) = its.any (eqU x) by simp, jZ r fs]
  exact q
 ·obtain ⟨its, r, pl, hz⟩ := I.tuple hq
  refine SeqAt.in_tupleAt (eqU x) pl (fun w hw => qV rx fx r fs w (by simpa using hw)) ⟨.bl _, H, I, rfl, ?_⟩
  rw [show its.toArray.any (eqU x) = its.any (eqU x) by simp, jZ r fs]
  exact q
theorem kG : OpR X (compareOp .NotIn) (rIn X.K true) := by
 intro pins s σ H x y v u Q I rx ry h
 obtain ⟨p, xs, rfl, hq, fx, fs, q⟩ := h
 cases ry
 rcases hq with hq | hq
 ·obtain ⟨its, r, pl, hz⟩ := I.list hq
  refine SeqAt.notIn_listAt (eqU x) pl.isList (fun w hw => qV rx fx r fs w (by simpa using hw)) ⟨.bl _, H, I, rfl, ?_⟩
  rw [show its.toArray.any (eqU x) = its.any (eqU x) by simp, jZ r fs]
  exact q
 ·obtain ⟨its, r, pl, hz⟩ := I.tuple hq
  refine SeqAt.notIn_tupleAt (eqU x) pl (fun w hw => qV rx fx r fs w (by simpa using hw)) ⟨.bl _, H, I, rfl, ?_⟩
  rw [show its.toArray.any (eqU x) = its.any (eqU x) by simp, jZ r fs]
  exact q
theorem zE : CallR X (.builtin "len") (fun xs H Q => ∃ p ys, xs = [.ref p] /\ (SqL X.K H p ys \/ SqT X.K H p ys) /\ Q (.int ys.length) H) := by
 intro pins s σ H xs us Q I r h
 obtain ⟨p, ys, rfl, hq, q⟩ := h
 obtain ⟨u, rfl, rx⟩ := vals1 r
 cases rx
 have hn := line63
 rcases hq with hq | hq
 ·obtain ⟨its, r', pl, hz⟩ := I.list hq
  have hlen := r'.length
  exact Calls.call_len_list pl.isList (by simp only [List.size_toArray] <;> bv_omega) ⟨.int ys.length, H, I.tok _, ⟨s.toks + 1, by rw [List.size_toArray, hlen]⟩, q⟩
 ·obtain ⟨its, r', pl, hz⟩ := I.tuple hq
  have hlen := r'.length
  exact len_tuple pl (by simp only [List.size_toArray] <;> bv_omega) ⟨.int ys.length, H, I.tok _, ⟨s.toks + 1, by rw [List.size_toArray, hlen]⟩, q⟩
theorem wM : CallR X (.type "list") (fun xs H Q => ∃ p ys, xs = [.ref p] /\ (SqL X.K H p ys \/ SqT X.K H p ys) /\ ∀ l, H l = none -> Q (.ref l) (upd H l (.lst ys))) := by
 intro pins s σ H xs us Q I r h
 obtain ⟨p, ys, rfl, hq, q⟩ := h
 obtain ⟨u, rfl, rx⟩ := vals1 r
 cases rx
 have fin : ∀ (its : List Value), Vals ys its -> ys.length <= sizeLine -> ∀ (h' : Heap) (c' : Nat), (∀ b o', s.heap.get? b = some o' -> h'.get? b = some o') ->
   h'.get? s.heap.objs.size = some { cls := .type "list", dict := none, data := .seq its.toArray c', slots := #[] } -> EP X pins σ Q (.ref s.heap.objs.size) { s with heap := h' } := fun its r' hz h' c' kp e =>
  ⟨.ref s.heap.objs.size, _, I.laid (t' := s.toks) kp (Nat.le_refl _) (show ObjOk X.prog X.w _ h' _ (.lst ys) from ⟨hz, its, c', r', e⟩), rfl, q _ (I.hok.fresh (Nat.le_refl _))⟩
 rcases hq with hq | hq
 ·obtain ⟨its, r', pl, hz⟩ := I.list hq
  have hlen := r'.length
  obtain ⟨o, ho, hc, n, hd⟩ := pl.isList
  exact call_list_seq p (.inl rfl) ho hc hd (fun h' c' kp e => fin its r' hz h' c' kp e) (by simp only [List.size_toArray] <;> bv_omega)
 ·obtain ⟨its, r', pl, hz⟩ := I.tuple hq
  have hlen := r'.length
  obtain ⟨o, ho, hc, n, hd⟩ := pl
  exact call_list_seq p (.inr rfl) ho hc hd (fun h' c' kp e => fin its r' hz h' c' kp e) (by simp only [List.size_toArray] <;> bv_omega)
theorem yV : CallR X (.type "tuple") (fun xs H Q => ∃ p ys, xs = [.ref p] /\ ((SqL X.K H p ys /\ ∀ l, H l = none -> Q (.ref l) (upd H l (.tup ys))) \/ (SqT X.K H p ys /\ Q (.ref p) H))) := by
 intro pins s σ H xs us Q I r h
 obtain ⟨p, ys, rfl, h⟩ := h
 obtain ⟨u, rfl, rx⟩ := vals1 r
 cases rx
 rcases h with ⟨hq, q⟩ | ⟨hq, q⟩
 ·obtain ⟨its, r', pl, hz⟩ := I.list hq
  have hlen := r'.length
  refine call_tuple_list pl.isList (fun h' kp => ?_) (by simp only [List.size_toArray] <;> bv_omega)
  have I1 : Inv X pins σ H { s with heap := h' } := I.kept (t' := s.toks) kp
  have I2 : Inv X pins σ (upd H h'.objs.size (.tup ys)) { s with heap := h'.push { cls := .type "tuple", data := .seq its.toArray } } :=
   I1.laid (t' := s.toks) (fun b o e => Heap.get?_push_of_some _ e) (Nat.le_refl _) (show ObjOk X.prog X.w _ _ _ (.tup ys) from ⟨hz, its, r', TupAt.new _ _⟩)
  exact ⟨.ref h'.objs.size, _, I2, rfl, q _ (I1.hok.fresh (Nat.le_refl _))⟩
 ·obtain ⟨its, r', pl, hz⟩ := I.tuple hq
  exact call_tuple_same pl ⟨.ref p, H, I, rfl, q⟩
def tyV (K : KFr) (T : String) (x : V) (H : Hp) : Prop := match x with
 | .str _ => T = "str"
 | .int _ => T = "int"
 | .ref p => (T = "list" /\ ∃ xs, SqL K H p xs) \/ (T = "tuple" /\ ((∃ o, K.lookup p = some o /\ o.cls = .type "tuple" /\ o.dict = none) \/ ∃ xs, Rd H p (.tup xs))) \/
   (T = "dict" /\ ((∃ kvs, H p = some (.dK kvs)) \/ ∃ kvs, H p = some (.dT kvs))) \/ (T = "set" /\ ∃ S n, H p = some (.set S n))
 | _ => False
theorem yR9 {pins : List (Addr × Obj)} {σ : St} {H : Hp} {s : Shared} {T : String} {x : V} {v : Value} (I : Inv X pins σ H s) (r : RelV x v) (ty : tyV X.K T x H) :
  s.TypeIs v T /\ ∀ a, v = .ref a -> ∃ ob, s.heap.get? a = some ob /\ ob.dict = none := by
 cases x with
 | str z =>
  obtain ⟨t, rfl⟩ := r
  cases (show T = "str" from ty)
  exact ⟨typeIs_str s z t, fun _ e => nomatch e⟩
 | int i =>
  obtain ⟨t, rfl⟩ := r
  cases (show T = "int" from ty)
  exact ⟨typeIs_int s i t, fun _ e => nomatch e⟩
 | ref p =>
  cases r
  rcases ty with ⟨rfl, xs, hq⟩ | ⟨rfl, ⟨o, hk, hc, hd⟩ | ⟨xs, hq⟩⟩ | ⟨rfl, hk⟩ | ⟨rfl, S, n, hk⟩
  ·obtain ⟨its, _, pl, _⟩ := I.list hq
   refine ⟨pl.isList.typeIs, fun a e => ?_⟩
   cases e
   obtain ⟨o, n, e, c, hd, _⟩ := pl
   exact ⟨o, e, hd⟩
  ·refine ⟨⟨o, I.kIn p o hk, hc⟩, fun a e => ?_⟩
   cases e
   exact ⟨o, I.kIn _ o hk, hd⟩
  ·obtain ⟨_, its, _, o, e, c, _, hd⟩ := hq.ok I.hok
   refine ⟨⟨o, e, c⟩, fun a e2 => ?_⟩
   cases e2
   exact ⟨o, e, hd⟩
  ·have z : ∃ o, s.heap.get? p = some o /\ o.ExactDict := by
    rcases hk with ⟨kvs, hk⟩ | ⟨kvs, hk⟩
    ·obtain ⟨_, _, _, _, o, _, _, e, ex, _⟩ := I.hok p _ hk
     exact ⟨o, e, ex⟩
    ·obtain ⟨_, _, _, _, o, _, _, e, ex, _⟩ := I.hok p _ hk
     exact ⟨o, e, ex⟩
   obtain ⟨o, e, ex⟩ := z
   refine ⟨⟨o, e, ex.1⟩, fun a e2 => ?_⟩
   cases e2
   exact ⟨o, e, ex.2.1⟩
  ·obtain ⟨o, _, _, _, e, ex, _⟩ := I.hok p _ hk
   refine ⟨⟨o, e, ex.1⟩, fun a e2 => ?_⟩
   cases e2
   exact ⟨o, e, ex.2.1⟩
 | _ => exact False.elim ty
def tBM (K : KFr) (T : String) (r : V -> List V -> Hp -> VK -> Prop) (to : TE) (t : TA) : TE := fun σ H Q => to σ H fun x H1 => tyV K T x H1 /\ t σ H1 fun xs H2 => r x xs H2 Q
variable {o e : Expr} {es : List Expr} {to : TE} {t : TA} {name : Str} {apos cpos : Pos} {T id : String} {r : V -> List V -> Hp -> VK -> Prop}
theorem gH (pa : PlainAttrs T) (slot : Slot T name id) (hty : typeOf (.builtin id) = pure (.type "method_descriptor")) (hm : MtR X id r) (ho : PE X o to) (ha : PA X (e :: es) t)
  (hbase : autoParam (attributeBase o name X.env (eval o X.env) = eval o X.env) zX._auto_1)
  (hfew : ((backTo cpos (starEach (e :: es) X.env)).all (fun x => !x.1) && (backToKw cpos (keywordEach [] X.env)).all (fun x => x.1.isSome)
   && decide ((e :: es).length + ([] : List Keyword).length + (if ([] : List Keyword).isEmpty then 0 else 1) < 30)) = true := by rfl)
  (hline : autoParam ((apos.endLine == cpos.line) = true) zX._auto_1) (hs : autoParam (starEach (e :: es) X.env = (false, eval e X.env) :: starEach es X.env) zX._auto_1) (hplain : autoParam ((backTo cpos (starEach es X.env)).any (·.1) = false) zX._auto_1) :
  PE X (.Call (.Attribute o name apos) (e :: es) [] cpos) (tBM X.K T r to t) := by
 intro pins s σ H Q I h
 refine wpAny_Call_method_late hbase hfew hline rfl (thn (ho pins s σ H _ I h) fun v s1 ⟨x, H1, I1, r1, ty, q1⟩ => ?_)
 obtain ⟨h1, h2⟩ := yR9 I1 r1 ty
 refine ⟨T, id, pa, slot, hty, h1, h2, ?_⟩
 have hA := ha cpos pins s1 σ H1 _ I1 q1
 rw [hs] at hA ⊢
 refine Calls.callWith_builtin (by show (false || (backTo cpos (starEach es X.env)).any (·.1)) = false; rw [hplain] <;> rfl) (Calls.evalArgs_plain ?_)
 exact thn hA fun us s2 ⟨vs, H2, I2, r2, q2⟩ => hm pins s2 σ H2 x vs v us Q I2 r1 r2 q2
end
def MtM (X : Cx) (id : String) (r : V -> List V -> Hp -> VK -> Prop) : Prop :=
 ∀ (pins : List (Addr × Obj)) (s : Shared) (σ : St) (H : Hp) (x : V) (xs : List V) (v : Value) (us : List Value) (Q : VK), Inv X pins σ H s -> RelV x v -> Vals xs us -> r x xs H Q ->
  wpAny (model X.prog X.w) X.A (call (.builtin id) (v :: us)) (EP X pins σ Q) X.xe s
theorem Vals.one : ∀ {x : V} {us : List Value}, Vals [x] us -> ∃ u, us = [u] /\ RelV x u
 | _, _, .cons r .nil => ⟨_, rfl, r⟩
theorem Vals.two : ∀ {x y : V} {us : List Value}, Vals [x, y] us -> ∃ u v, us = [u, v] /\ RelV x u /\ RelV y v
 | _, _, _, .cons r (.cons q .nil) => ⟨_, _, rfl, r, q⟩
theorem Vals.eraseIdx : ∀ {xs : List V} {us : List Value} (i : Nat), Vals xs us -> Vals (xs.eraseIdx i) (us.eraseIdx i)
 | _, _, _, .nil => .nil
 | _, _, 0, .cons _ t => t
 | _, _, i + 1, .cons r t => .cons r (Vals.eraseIdx i t)
theorem Vals.rep {xs : List V} {us : List Value} (h : Vals xs us) : ∀ k : Nat, Vals (List.replicate k xs).flatten (List.replicate k us).flatten
 | 0 => .nil
 | k + 1 => by
  rw [List.replicate_succ, List.replicate_succ, List.flatten_cons, List.flatten_cons]
  exact Vals.append h (Vals.rep h k)
theorem cI {α : Type} : ∀ (l : List α) (i : Nat), (l.eraseIdx i).length <= l.length
 | [], _ => Nat.le_refl _
 | _ :: _, 0 => Nat.le_succ _
 | _ :: r, i + 1 => Nat.succ_le_succ (cI r i)
theorem bU (its : List Value) : ∀ (k : Nat) (acc : List Value),
  List.foldl (fun x1 x2 => x1 ++ x2) acc.toArray (List.replicate k its.toArray) = (acc ++ (List.replicate k its).flatten).toArray
 | 0, acc => by simp
 | k + 1, acc => by
  have e : acc.toArray ++ its.toArray = (acc ++ its).toArray := by simp
  have e2 : (acc ++ its) ++ (List.replicate k its).flatten = acc ++ (List.replicate (k + 1) its).flatten := by
   rw [List.replicate_succ, List.flatten_cons, List.append_assoc]
  rw [<- e2, <- bU its k (acc ++ its), <- e, List.replicate_succ, List.foldl_cons]
section
variable {X : Cx} {pins : List (Addr × Obj)} {σ : St} {H : Hp} {s : Shared} {l b : Addr} {xs ys zs : List V}
theorem Inv.lset {its its' : List Value} {n : Nat} {f : Array Value -> Array Value} {t' : Nat} (I : Inv X pins σ H s) (hH : H l = some (.lst xs))
  (e : s.heap.get? l = some { cls := .type "list", data := .seq its.toArray n }) (hf : f its.toArray = its'.toArray) (hv : Vals ys its') (hz : ys.length <= sizeLine) :
  Inv X pins σ (upd H l (.lst ys)) { s with heap := s.heap.update l (Obj.mapSeq f), toks := t' } := by
 have q := PySem.IsL.update e f
 rw [hf] at q
 refine I.write (x := l) (e := l) (by rw [hH]; exact trivial) (.inl rfl) (fun b' u hb hu => (Heap.get?_update_other s.heap (Obj.mapSeq f) (Ne.symm hb)).trans hu) ⟨_, q⟩ ?_
 exact ⟨hz, its', _, hv, q⟩
theorem Inv.lnew {its : List Value} {t' : Nat} (I : Inv X pins σ H s) (hv : Vals ys its) (hz : ys.length <= sizeLine) :
  Inv X pins σ (upd H s.heap.objs.size (.lst ys)) { s with heap := s.heap.push { cls := .type "list", data := .seq its.toArray }, toks := t' } :=
 I.laid (fun _ _ q => Heap.get?_push_of_some _ q) (Nat.le_refl _) ⟨hz, its, 0, hv, Heap.get?_push_size _ rfl⟩
theorem Inv.fresh (I : Inv X pins σ H s) : H s.heap.objs.size = none := I.hok.fresh (Nat.le_refl _)
theorem Inv.lstM (I : Inv X pins σ H s) (hH : H l = some (.lst xs)) : xs.length <= sizeLine /\ ∃ (its : List Value) (n : Nat), Vals xs its /\ xs.length = its.length /\ s.heap.get? l = some { cls := .type "list", data := .seq its.toArray n } := by
 obtain ⟨z, its, n, r, e⟩ := I.hok l _ hH
 exact ⟨z, its, n, r, r.length, e⟩
theorem notLongL {n : Nat} (h : n <= sizeLine) : Builtin.List.listTooLong n = false := by
 unfold Builtin.List.listTooLong
 exact decide_eq_false (by bv_omega)
end
section
variable {X : Cx}
def rAppend : V -> List V -> Hp -> VK -> Prop := fun x vs H Q => ∃ l xs y, x = .ref l /\ vs = [y] /\ H l = some (.lst xs) /\ xs.length < sizeLine /\ Q .non (upd H l (.lst (xs ++ [y])))
theorem qM : MtM X "list.append" rAppend := by
 intro pins s σ H x vs v us Q I rx rv h
 obtain ⟨l, xs, y, rfl, rfl, hH, hz, q⟩ := h
 cases rx
 obtain ⟨u, rfl, ru⟩ := rv.one
 obtain ⟨z, its, n, r, hl, e⟩ := I.lstM hH
 refine call_meets F.slot_list_append ⟨_, e, rfl⟩ F.entry_list_append (F.args_list_append_2 _ _) (PySem.list_append l its.toArray n u (by rw [List.size_toArray]; bv_omega)) ⟨e, ?_⟩
 refine ⟨.non, _, I.lset (its' := its ++ [u]) hH e (by simp) (r.append (.cons ru .nil)) ?_, rfl, q⟩
 rw [List.length_append, List.length_singleton]
 bv_omega
def rPopAt : V -> List V -> Hp -> VK -> Prop := fun x vs H Q => ∃ l xs i k y, x = .ref l /\ vs = [.int i] /\ H l = some (.lst xs) /\ -(2 ^ 63) <= i /\ i < 2 ^ 63 /\ seqIndex? i xs.length = some k /\ xs[k]? = some y /\ Q y (upd H l (.lst (xs.eraseIdx k)))
theorem zE8 : MtM X "list.pop" rPopAt := by
 intro pins s σ H x vs v us Q I rx rv h
 obtain ⟨l, xs, i, k, y, rfl, rfl, hH, h1, h2, hk, hy, q⟩ := h
 cases rx
 obtain ⟨u, rfl, ru⟩ := rv.one
 obtain ⟨t, rfl⟩ := ru
 obtain ⟨z, its, n, r, hl, e⟩ := I.lstM hH
 obtain ⟨w, hw, rw'⟩ := r.get hy
 refine call_meets F.slot_list_pop ⟨_, e, rfl⟩ F.entry_list_pop (F.args_list_pop_2 _ _)
  (MeetsSeq.list_pop_at l its.toArray n i t k w (fitsIndex_both h1 h2) (by rw [List.size_toArray, <- hl]; exact hk) (by rw [<- Array.getElem?_toList]; exact hw) (by rw [List.size_toArray]; bv_omega)) ⟨e, ?_⟩
 refine ⟨y, _, I.lset (its' := its.eraseIdx k) hH e ?_ (r.eraseIdx k) ?_, rw', q⟩
 ·show its.toArray.eraseIdxIfInBounds k = (its.eraseIdx k).toArray
  rw [List.eraseIdxIfInBounds_toArray]
 ·have := cI xs k
  bv_omega
theorem yV2 {α : Type} (xs : List α) (k : Nat) : (List.replicate k xs).flatten.length = k * xs.length := by
 induction k with
 | zero => simp
 | succ k ih => rw [List.replicate_succ, List.flatten_cons, List.length_append, ih, Nat.succ_mul, Nat.add_comm]
end
section
variable {prog : Program} {w : World} {A : Around} {E : Value -> Shared -> Prop} {s : Shared}
end
section
variable {X : Cx}
end
end L2
namespace Att
open PySem PySem.W PySem.Calls PyProof.Rows
theorem dW {P : Params} {h : Heap} : ∀ (ns : List Int) (vs : List Value), WellAll P h vs (ns.map WData.int) -> IntsAre vs ns := by
 intro ns
 induction ns with
 | nil =>
  intro vs w
  rw [List.map_nil] at w
  cases w
  exact .nil
 | cons n ns ih =>
  intro vs w
  rw [List.map_cons] at w
  cases w with
  | cons a b =>
   cases a
   exact .cons _ _ (ih _ b)
theorem zK6 {l : OpenLaw} {n : Nat} (hn : l.most = some n) {P : Params} {h : Heap} {args : List WData} {vals : List Value}
  (hpre : l.row.toRowW.claim.pre args = true) (hwl : WellAll P h vals args) :
  ∃ a vs ns, vals = [Value.ref a] /\ args = [WData.list (ns.map WData.int)] /\ h.get? a = some { cls := .type "list", data := .seq vs.toArray } /\ IntsAre vs ns /\ ns.length <= n := by
 have hsh : WShape.hasAll [] args [.list .int] = true := (pre_splitW hpre).1
 have hc : l.pre.holds [] { args := args } = true := (pre_splitW hpre).2
 obtain ⟨d, r, rfl, h1, h2⟩ := hasAllW_cons hsh
 obtain rfl := hasAllW_nil h2
 obtain ⟨xs, rfl, h3⟩ := hasW_list h1
 obtain ⟨ns, rfl⟩ := items_int h3
 have hlen : ns.length <= n := by
  unfold OpenLaw.pre at hc
  have h4 : (WTm.not (.lt (.lit (.int (n : Int))) (.len (.arg 0)))).holds [] { args := [.list (ns.map .int)] } = true := by
   have h4 := (holds_andW hc).1
   rw [hn] at h4
   exact h4
  have h5 := condW_of h4 (w_not (w_lt w_lit (w_len_list (w_arg rfl))))
  rw [List.length_map] at h5
  refine Nat.le_of_not_lt fun q => ?_
  have q' : (n : Int) < ((ns.length : Nat) : Int) := by bv_omega
  first
   | (rw [decide_eq_true q'] at h5; exact absurd h5 (by decide))
   | (simp at h5; bv_omega)
 cases hwl with
 | cons w1 w2 =>
  cases w2
  cases w1 with
  | list ho hall => exact ⟨_, _, ns, rfl, rfl, ho, dW ns _ hall, hlen⟩
theorem zM1 (l : OpenLaw) (args : List WData) : l.row.toRowW.claim.post args (.bool true) args = true :=
 postW_of (r := l.row.toRowW) (X := (true == true))
  (show WShape.has [] (.bool true) .bool = true by first | rfl | decide | simp [WShape.has, WShape.arms, WShape.armsAll])
  (show (WTm.eq .res (.lit (.bool true))).value [] { args := args, res := some (.bool true), after := args } = some (.bool (true == true)) from w_eq_bool (w_res rfl) w_lit) rfl
theorem zX6 {l : OpenLaw} {n : Nat} {q : Program} {loose : List Str} {XP : (Str -> Option Value) -> Heap -> Prop} {YP : World -> Heap -> Prop} {d : DefRec}
  (hn : l.most = some n) (hdf : d.params.defaults = [])
  (call : ∀ (w : World) (s₀ s₁ : Shared) (mg mb : Str -> Option Value) (fa : Addr) (o : Obj) (pm cd doc : Value) (a : Addr) (vs : List Value) (ns : List Int),
   Ground q loose [] XP w s₀ mg mb s₁.heap -> YP w s₁.heap ->
   s₁.heap.get? fa = some o -> o.data = .func (docDef d.name d.params d.body d.scope pm cd doc) -> s₁.heap.CodeRec cd d.name -> mg d.name = some (.ref fa) ->
   s₁.heap.get? a = some { cls := .type "list", data := .seq vs.toArray } -> IntsAre vs ns -> ns.length <= n -> s₁.gens = #[] ->
   codeAny (model l.prog w) callerA (.call (.ref fa) ⟨[.ref a], []⟩) (fun r s' => r = .ok (.ret (.bool true)) /\ OldK s₁.heap s'.heap /\ s'.os = s₁.os /\ AllBare s'.gens) s₁) :
  WalkO q loose XP YP l.row.toRowW d [] (fun f vs => PySem.call f vs) := by
 intro w s₀ s₁ mg mb G Y fa o pm cd doc dV kV ho hd hcd hD hmg hg args vals as hpre hlay hrd hwl hlo
 obtain rfl : dV = .none := Dflts.none hD hdf
 obtain rfl : kV = .none := Dflts.noKw hD
 obtain ⟨a, vs, ns, rfl, rfl, hobj, hints, hlen⟩ := zK6 hn hpre hwl
 refine enter_call (codeAny_mono (call w s₀ s₁ mg mb fa o pm cd doc a vs ns G Y ho (fd_plain hd) hcd hmg hobj hints hlen hg) fun r s' hq => ?_)
 obtain ⟨rfl, h2, h3, h4⟩ := hq
 exact ⟨.inl ⟨.bool true, .bool true, [], rfl, fun _ => rfl, .bool true, zM1 l _, fun _ => ⟨List.Pairwise.nil, fun _ hm => (nomatch hm)⟩⟩, h2, h3, h4⟩
section
variable {prog : Program} {w : World} {A : Around} {E : Value -> Shared -> Prop} {s : Shared} {K : Frag}
end
end Att
namespace L2
open PySem PySem.Spec PyProof.Rows
theorem cA : ∀ {vs : List Value} {ns : List Int}, IntsAre vs ns -> Vals (ns.map V.int) vs
 | _, _, .nil => .nil
 | _, _, .cons n t h => .cons ⟨t, rfl⟩ (cA h)
def Only (H : Hp) : Prop := ∀ b, H b = none \/ ∃ o xs, H b = some (.frz o (.lst xs))
theorem zF9 {P : Program} {w : World} {K : KFr} {mg mb : Str -> Option Value} {CX : CXT} {k : Nat} {fa a : Addr} {fd : FuncData} {x : Str} {sp : Sp} {s₁ : Shared} {vs : List Value} {ns : List Int}
  (KX : K.In s₁.heap) (hns : s₁.heap.Ns mainGlobals mg) (hb : s₁.heap.Ns builtinsNs mb) (hbb : ∀ x : Str, x ≠ "__name__" -> mb x = bootBuiltins x) (hlim : s₁.heap.NoLimit) (hg : s₁.gens = #[])
  (ha : s₁.heap.get? a = some { cls := .type "list", data := .seq vs.toArray }) (hi : IntsAre vs ns) (hl : ns.length <= sizeLine) (hr : Room k callerA)
  (F : ∀ base : Heap, K.In base -> base.Ns mainGlobals mg -> FnOk P w K mg base CX k fa fd [x] sp) (hbind : ∀ (s : Shared) (u : Value), BindsTo s fd ⟨[u], []⟩ [(x, u)])
  (hsp : ∀ H : Hp, Only H -> SqL K H a (ns.map V.int) -> sp [.ref a] H (fun v _ => v = .bl true) fun _ _ _ => False)
  (hCX : ∀ H e s', CX [] H s₁ (fun _ _ _ => False) e s' -> False) :
  codeAny (model P w) callerA (.call (.ref fa) ⟨[.ref a], []⟩) (fun r s' => r = .ok (.ret (.bool true)) /\ OldK s₁.heap s'.heap /\ s'.os = s₁.os /\ AllBare s'.gens) s₁ := by
 have rv := cA hi
 have lenV := hi.length
 have core : ∀ H : Hp, Only H -> SqL K H a (ns.map V.int) -> HOk P w H s₁.heap -> (∀ b, H b ≠ none -> b = a) -> (H a ≠ none -> K.lookup a = none) ->
   codeAny (model P w) callerA (.call (.ref fa) ⟨[.ref a], []⟩) (fun r s' => r = .ok (.ret (.bool true)) /\ OldK s₁.heap s'.heap /\ s'.os = s₁.os /\ AllBare s'.gens) s₁ := by
  intro H hO hS hok hA hK
  have base_of : ∀ {b : Addr} {o : Obj}, s₁.heap.get? b = some o -> H b = none -> (hidT s₁.heap H).get? b = some o := fun e n => zD9 e n
  have noA : ∀ {b : Addr} {o : Obj} {es : Array DictEntry} {ep : Nat}, s₁.heap.get? b = some o -> o.data = .dict es ep -> H b = none := fun {b o es ep} e d => by
   cases q : H b with
   | none => rfl
   | some u =>
    have e' : b = a := hA b (by rw [q]; simp)
    subst e'
    rw [ha] at e; cases e
    have d' : Data.seq vs.toArray _ = Data.dict es ep := d
    cases d'
  have nsK : ∀ {b : Addr} {m : Str -> Option Value}, s₁.heap.Ns b m -> (hidT s₁.heap H).Ns b m := fun {b m} ⟨o, es, ep, e, d, r⟩ => ⟨o, es, ep, base_of e (noA e d), d, r⟩
  have hKb : K.In (hidT s₁.heap H) := fun b o e => base_of (KX b o e) (by
   cases q : H b with
   | none => rfl
   | some u =>
    have e' : b = a := hA b (by rw [q]; simp)
    subst e'
    rw [hK (by rw [q]; simp)] at e; cases e)
  have hM : Mod K mg (hidT s₁.heap H) := ⟨hKb, nsK hns, ⟨mb, nsK hb, hbb⟩, let ⟨mc, h1, h2⟩ := hlim; ⟨mc, nsK h1, h2⟩⟩
  have e0 : Env0 P w K mg (hidT s₁.heap H) callerA [] s₁ H := ⟨rfl, hM, fun b o e => yX6 e, Nat.le_of_eq (zO7 _ _), trivial, fun b hb => absurd (show b ∈ ([] : List Addr) from hb) (by simp), hok, .of_eq hg⟩
  refine codeAny_mono ((F _ hKb (nsK hns)).run callerA [] s₁ H ⟨[.ref a], []⟩ [.ref a] [.ref a] _ _ hr e0 (hbind s₁ (.ref a)) (.cons rfl .nil) (hsp H hO hS)) fun r s' h => ?_
  cases r with
  | error e => exact (hCX H e s' h).elim
  | ok fl =>
   cases fl with
   | next => exact False.elim h
   | brk => exact False.elim h
   | cont => exact False.elim h
   | ret u =>
    obtain ⟨v, H', os, bare, un, hok', r', q⟩ := h
    have q' : v = .bl true := q
    subst q'
    obtain rfl : u = Value.bool true := r'
    refine ⟨rfl, OldK.of_keep fun b o e => ?_, os, bare⟩
    cases q : H b with
    | none => exact un.keep b o e q (by intro z; exact absurd (show b ∈ ([] : List Addr) from z) (by simp)) (by simp)
    | some u =>
     rcases hO b with z | ⟨ob, xs, z⟩
     ·rw [q] at z; cases z
     ·have z2 := un.frzs b ob _ z
      obtain ⟨e1, _⟩ := hok b _ z
      obtain ⟨e2, _⟩ := hok' b _ z2
      rw [e] at e1; cases e1
      exact e2
 cases hk : K.lookup a with
 | some o =>
  have e := KX a o hk
  rw [ha] at e
  cases e
  refine core (fun _ => none) (fun _ => .inl rfl) (.inr ⟨_, vs.toArray, _, hk, rfl, rfl, rfl, by rw [List.size_toArray, lenV]; exact hl, by simpa using rv⟩) (fun b u z => by have z' : (none : Option HO) = some u := z; cases z') (fun b z => absurd rfl z) fun z => absurd rfl z
 | none =>
  refine core (fun b => if b = a then some (.frz { cls := .type "list", data := .seq vs.toArray } (.lst (ns.map V.int))) else none) (fun b => ?_) (.inl (.inr ⟨{ cls := .type "list", data := .seq vs.toArray }, if_pos rfl⟩)) (fun b u z => ?_) (fun b z => ?_) fun _ => hk
  ·by_cases hb : b = a
   ·exact .inr ⟨_, _, if_pos hb⟩
   ·exact .inl (if_neg hb)
  ·by_cases hb : b = a
   ·have z' := (if_pos hb).symm.trans z
    cases z'
    subst hb
    exact ⟨ha, by rw [List.length_map]; exact hl, vs, _, rv, ha⟩
   ·have z' := (if_neg hb).symm.trans z
    cases z'
  ·by_cases hb : b = a
   ·exact hb
   ·exact absurd (if_neg hb) z
abbrev KOf {K : KFr} {h : Heap} (_ : K.In h) : KFr := K
theorem yU5 {l : PySem.W.OpenLaw} {n k : Nat} {q : Program} {loose : List Str} {XP : (Str -> Option Value) -> Heap -> Prop} {YP : World -> Heap -> Prop} {d : DefRec} {K : Params -> KFr} {CX : World -> CXT} {sp : World -> Sp} {x : Str}
  (hn : l.most = some n) (hn2 : n <= sizeLine) (hdf : d.params.defaults = []) (hr : Room k callerA)
  (hY : ∀ (w : World) (h : Heap), YP w h -> (K w.params).In h)
  (F : ∀ (w : World) (mg : Str -> Option Value) (fa : Addr) (h : Heap), (K w.params).In h -> h.Ns mainGlobals mg -> mg d.name = some (.ref fa) ->
   ∃ fd : FuncData, (∀ (s : Shared) (u : Value), BindsTo s fd ⟨[u], []⟩ [(x, u)]) /\
    ∀ base : Heap, (K w.params).In base -> base.Ns mainGlobals mg -> FnOk l.prog w (K w.params) mg base (CX w) k fa fd [x] (sp w))
  (hsp : ∀ (w : World) (H : Hp) (a : Addr) (ns : List Int), ns.length <= n -> Only H -> SqL (K w.params) H a (ns.map V.int) -> sp w [.ref a] H (fun v _ => v = .bl true) fun _ _ _ => False)
  (hCX : ∀ (w : World) (H : Hp) (s : Shared) (e : Value) (s' : Shared), CX w [] H s (fun _ _ _ => False) e s' -> False) :
  PySem.W.WalkO q loose XP YP l.row.toRowW d [] (fun f vs => PySem.call f vs) := by
 refine Att.zX6 hn hdf fun w s₀ s₁ mg mb fa o pm cd doc a vs ns G Y ho hd hcd hmg hobj hints hlen hg => ?_
 have KX := hY w _ Y
 obtain ⟨fd, hb, hF⟩ := F w mg fa _ KX G.T.g hmg
 exact zF9 KX G.T.g G.T.b G.T.builtins G.T.nolimit hg hobj hints (Nat.le_trans hlen hn2) hr hF hb (fun H hO hS => hsp w H a ns hlen hO hS) fun H e s' => hCX w H s₁ e s'
def defArgs (s : Stmt) : Arguments := match s with
 | .FunctionDef _ a _ _ _ _ _ _ _ _ => a
 | _ => { posonlyargs := [], args := [], vararg := none, kwonlyargs := [], kw_defaults := [], kwarg := none, defaults := [] }
def defBody (s : Stmt) : List Stmt := match s with
 | .FunctionDef _ _ b _ _ _ _ _ _ _ => b
 | _ => []
def zP (s : Stmt) : Scope := match s with
 | .FunctionDef _ _ _ _ _ _ sc _ _ _ => sc
 | _ => { kind := .function, names := [], isGenerator := false, isCoroutine := false }
abbrev CX0 : CXT := fun _ _ _ _ _ _ => False
abbrev E0 : XK := fun _ _ _ => False
theorem pass0 {X : Cx} : Passes CX0 X E0 := fun _ _ _ _ _ _ _ h => h.elim
structure Fun (K : KFr) (x qual : Str) (st : Stmt) (f : Addr) (fd : FuncData) : Prop where
 ex : ∃ (oc : Value) (od : Option Addr) (kV doc pm : Value) (an : Option Addr) (cdv ct : Value) (osl : Array (Option Value)),
  fd = PySem.W.fnOf x qual (defArgs st) (defBody st) (zP st) .none kV doc pm an cdv ct /\ K.lookup f = some ⟨oc, od, .func fd, osl⟩ /\ PySem.W.codeIn K cdv qual = true
 kp : PySem.W.keepIn K (.ref f) = true
section
variable {P : Program} {w : World} {K : KFr} {mg : Str -> Option Value} {base : Heap}
theorem Fun.ok {x qual : Str} {st : Stmt} {f : Addr} {fd : FuncData} {N ps : List Str} {k : Nat} {sp : Sp} (F : Fun K x qual st f fd) (S : zH N ps (zP st)) (len : ∀ vs H Q E, sp vs H Q E -> vs.length = ps.length)
  (hbody : ∀ (cdv : Value) (A : Around) (outer : List Env) (s : Shared) (H : Hp) (vs : List V) (Q : VK) (E : XK), Room k (A.deeper (envOfC qual (zP st) s.heap.objs.size f cdv)) -> sp vs H Q E ->
   ∃ t, PSs (cxOf CX0 P w K mg base N qual (zP st) f cdv A outer s H E).nox (defBody st) t /\ t { nx := fun _ H' => Q .non H', rt := Q } (start N vs) H) : FnOk P w K mg base CX0 (k + 1) f fd ps sp := by
 obtain ⟨oc, od, kV, doc, pm, an, cdv, ct, osl, rfl, lk, hcd⟩ := F.ex
 refine zB7 lk hcd S len fun A outer s H vs Q E hr hsp => ?_
 obtain ⟨t, h, q⟩ := hbody cdv A outer s H vs Q E hr hsp
 exact ⟨t, h.nox, q⟩
theorem Fun.binds {x qual : Str} {st : Stmt} {f : Addr} {fd : FuncData} {ps : List Str} (F : Fun K x qual st f fd)
  (h : ∀ (kV doc pm : Value) (an : Option Addr) (cdv ct : Value) (us : List Value), us.length = ps.length -> bindArgs (PySem.W.fnOf x qual (defArgs st) (defBody st) (zP st) .none kV doc pm an cdv ct) ⟨us, []⟩ = pure (ps.zip us)) : Binds K fd ps [] := by
 obtain ⟨oc, od, kV, doc, pm, an, cdv, ct, osl, rfl, lk, hcd⟩ := F.ex
 exact .all (h kV doc pm an cdv ct)
theorem yQ3 {x qual : Str} {st : Stmt} {f : Addr} {oc : Value} {od an : Option Addr} {osl : Array (Option Value)} {kV doc pm cdv ct : Value} (l : K.lookup f = some ⟨oc, od, .func (PySem.W.fnOf x qual (defArgs st) (defBody st) (zP st) .none kV doc pm an cdv ct), osl⟩)
  (c : PySem.W.codeIn K cdv qual = true) (k : PySem.W.keepIn K (.ref f) = true) : Fun K x qual st f (PySem.W.fnOf x qual (defArgs st) (defBody st) (zP st) .none kV doc pm an cdv ct) := ⟨⟨oc, od, kV, doc, pm, an, cdv, ct, osl, rfl, l, c⟩, k⟩
end
theorem small1000 {n : Nat} (h : n <= 1000) : n < sizeLine := Nat.lt_of_le_of_lt h (by decide)
section
variable {X : Cx}
theorem pv (i : Nat) {x : Str} {pos : Pos} (hN : autoParam (X.N[i]? = some x) zX._auto_1) (hv : autoParam (Vis X.env.scope x) gX._auto_1) (hd : autoParam ((x == ("__debug__" : Str)) = false) zJ._auto_1)
  (hcd : autoParam ((x == ("__classdict__" : Str)) = false) zJ._auto_1) : PE X (.Name x pos) (tVar i) := gZ hN hv hd hcd
end
theorem iteF {A B : Prop} (h : B) : if false = true then A else B := by
 rw [if_neg Bool.false_ne_true]
 exact h
theorem iteT {A B : Prop} (h : A) : if true = true then A else B := by
 rw [if_pos rfl]
 exact h
def Same (H H' : Hp) : Prop := ∀ b o, H b = some o -> H' b = some o
theorem Same.refl (H : Hp) : Same H H := fun _ _ h => h
theorem Same.trans {H H1 H2 : Hp} (a : Same H H1) (b : Same H1 H2) : Same H H2 := fun c o h => b c o (a c o h)
theorem Same.free {H H' : Hp} (e : Same H H') {l : Addr} (h : H' l = Option.none) : H l = Option.none := by
 cases q : H l with
 | none => rfl
 | some o =>
  rw [e l o q] at h
  cases h
end L2
set_option maxHeartbeats 2000000
namespace PySem
section
variable {prog : Program} {w : World} {A : Around} {E : Value -> Shared -> Prop} {s : Shared}
theorem zN1 {l : Addr} {its : Array Value} {P : Value -> Shared -> Prop} (hh : A.handled = none) (hl : s.heap.IsList l its)
  (k : ∀ (I : Addr) (hp : Heap) (St : Nat -> Heap -> Prop), Walks prog w A I [I, l] [I] its.size (fun i v => its[i]? = some v) St -> St 0 hp -> I < hp.objs.size -> l < hp.objs.size -> (∀ b o, s.heap.get? b = some o -> b ≠ I /\ hp.get? b = some o) -> P (.ref I) { s with heap := hp }) :
  wpAny (model prog w) A (pyIter (.ref l)) P E s := by
 have on : ∀ {b : Addr} {o : Obj}, s.heap.get? b = some o -> b < s.heap.objs.size := fun g => Heap.lt_size g
 have ll : l < s.heap.objs.size := let ⟨_, g, _⟩ := hl; on g
 refine wpAny_pyIter_list hl (k _ _ _ (Walks.list hh _ l (Nat.ne_of_lt ll) its) ⟨⟨_, Heap.get?_push_size _ rfl, rfl, rfl⟩, hl.at fun _ g => Heap.get?_push_of_some _ g⟩ ?_ ?_ fun b o g => ⟨Nat.ne_of_lt (on g), Heap.get?_push_of_some _ g⟩)
 ·exact Nat.lt_of_lt_of_eq (Nat.lt_succ_self _) (Heap.size_push ..).symm
 ·exact Nat.lt_of_lt_of_eq (Nat.lt_succ_of_lt ll) (Heap.size_push ..).symm
theorem aS {l : Addr} {its : Array Value} {P : Value -> Shared -> Prop} (hh : A.handled = none) (hl : s.heap.IsTuple l its)
  (k : ∀ (I : Addr) (hp : Heap) (St : Nat -> Heap -> Prop), Walks prog w A I [I, l] [I] its.size (fun i v => its[i]? = some v) St -> St 0 hp -> I < hp.objs.size -> l < hp.objs.size -> (∀ b o, s.heap.get? b = some o -> b ≠ I /\ hp.get? b = some o) -> P (.ref I) { s with heap := hp }) :
  wpAny (model prog w) A (pyIter (.ref l)) P E s := by
 have on : ∀ {b : Addr} {o : Obj}, s.heap.get? b = some o -> b < s.heap.objs.size := fun g => Heap.lt_size g
 have ll : l < s.heap.objs.size := let ⟨_, g, _⟩ := hl; on g
 refine wpAny_pyIter_tuple hl (k _ _ _ (Walks.tuple hh _ l (Nat.ne_of_lt ll) its) ⟨⟨_, Heap.get?_push_size _ rfl, rfl, rfl⟩, hl.at fun _ g => Heap.get?_push_of_some _ g⟩ ?_ ?_ fun b o g => ⟨Nat.ne_of_lt (on g), Heap.get?_push_of_some _ g⟩)
 ·exact Nat.lt_of_lt_of_eq (Nat.lt_succ_self _) (Heap.size_push ..).symm
 ·exact Nat.lt_of_lt_of_eq (Nat.lt_succ_of_lt ll) (Heap.size_push ..).symm
theorem bH {it : Addr} {P : Value -> Shared -> Prop} (ty : s.TypeIs (.ref it) "tuple_iterator")
  (k : wpAny (model prog w) A.in1 (Builtin.«tuple_iterator.__next__» ⟨[.ref it], []⟩) (fun f x => ∃ v, f = .done (.ret v) /\ P v x) E s) : wpAny (model prog w) A (Builtin.SmallTypes.nextOf (.ref it)) P E s := by
 have sl := F.slot_tuple_iterator_next
 have en := F.entry_tuple_iterator_next
 have ok := F.args_tuple_iterator_next_1 (.ref it)
 have c : wpAny (model prog w) A (call (.builtin "tuple_iterator.__next__") [.ref it]) P E s := wpAny_call_entry sl ty en k ok
 unfold Builtin.SmallTypes.nextOf
 exact wpAny_bind (wpAny_callSpecial?_slot ty sl (wpAny_mono c (fun v x z => wpAny_pure z) fun _ _ z => z))
section
variable {it t : Addr} {i : Nat} {its : Array Value}
theorem zG6 {v : Value} {P : Value -> Shared -> Prop} (hI : s.heap.IsTupleIter it t i) (hT : s.heap.IsTuple t its) (at_ : its[i]? = some v)
  (k : ∀ h', h'.IsTupleIter it t (i + 1) -> Heap.SameBut it s.heap h' -> P v { s with heap := h' }) : wpAny (model prog w) A (Builtin.SmallTypes.nextOf (.ref it)) P E s := by
 refine bH hI.typeIs ?_
 obtain ⟨o, a1, a2, a3⟩ := hI
 obtain ⟨ot, b1, b2, n, b3⟩ := hT
 have f0 : ∀ (P : Value -> Shared -> Prop) (E' : Value -> Shared -> Prop), P (.ref t) s -> wpAny (model prog w) A.in1 (field (.ref it) 0) P E' s := fun P E' p => wpAny_field a1 a3 rfl p
 have f1 : ∀ (P : Value -> Shared -> Prop) (E' : Value -> Shared -> Prop), P (.int i 0) s -> wpAny (model prog w) A.in1 (field (.ref it) 1) P E' s := fun P E' p => wpAny_field a1 a3 rfl p
 have at' : its[(i : Int).toNat]? = some v := at_
 wp_walk using f0, f1, wpAny_seqItems b1 b3, wpAny_setField a1 a3
 rw [at']
 refine wpAny_bind (wpAny_setField a1 a3 (by simp) (wpAny_pure ⟨v, rfl, k _ ⟨_, Heap.get?_update_self _ a1 ?_, ?_, ?_⟩ (Heap.SameBut.update ..)⟩))
 ·exact Obj.isFreed_of_fields (Obj.data_mapFields a3 _)
 ·rw [Obj.cls_mapFields, a2]
 ·rw [Obj.data_mapFields a3]; rfl
theorem zS9 {P : Value -> Shared -> Prop} (hA : A.handled = none) (hI : s.heap.IsTupleIter it t i) (hT : s.heap.IsTuple t its) (at_ : its[i]? = none)
  (k : ∀ h' e, Heap.ExtBut it s.heap h' -> (∃ o, h'.get? e = some o /\ o.cls = .type "StopIteration") -> E (.ref e) { s with heap := h' }) : wpAny (model prog w) A (Builtin.SmallTypes.nextOf (.ref it)) P E s := by
 refine bH hI.typeIs ?_
 obtain ⟨o, a1, a2, a3⟩ := hI
 obtain ⟨ot, b1, b2, n, b3⟩ := hT
 have f0 : ∀ (P : Value -> Shared -> Prop) (E' : Value -> Shared -> Prop), P (.ref t) s -> wpAny (model prog w) A.in1 (field (.ref it) 0) P E' s := fun P E' p => wpAny_field a1 a3 rfl p
 have f1 : ∀ (P : Value -> Shared -> Prop) (E' : Value -> Shared -> Prop), P (.int i 0) s -> wpAny (model prog w) A.in1 (field (.ref it) 1) P E' s := fun P E' p => wpAny_field a1 a3 rfl p
 have at' : its[(i : Int).toNat]? = none := at_
 have hA' : A.in1.handled = none := hA
 wp_walk using f0, f1, wpAny_seqItems b1 b3, wpAny_setField a1 a3, wpAny_raiseNew_none hA'
 rw [at']
 refine wpAny_bind (wpAny_rule (wpAny_bind (wpAny_setField a1 a3 (by simp) ?_)))
 unfold Builtin.SmallTypes.stopIteration
 wp_walk using wpAny_raiseNew_none hA'
 exact k _ _ (((Heap.SameBut.update ..).extBut.push _).push _) ⟨_, Heap.get?_push_size _ rfl, rfl⟩
end
theorem kF {M : Model} {scope : Scope} {g bi : Addr} {cl : List (Str × Addr)} {qual : Str} {cd : Value} {outer : Env} {P : Value -> Env -> Shared -> Prop} (nocell : ∀ y ∈ scope.names, y.2 ≠ .cell) (kind : scope.kind = .function)
  (k : ∀ (D C : Addr) (hp : Heap) (m : Str -> Option Value), s.heap.objs.size <= D -> s.heap.objs.size <= C -> D ≠ C -> (∀ b o, s.heap.get? b = some o -> hp.get? b = some o) -> hp.get? D = some { cls := .type "list", data := .seq #[] } -> hp.Ns C m -> P (.ref D) (newEnv scope C g cl qual none cd (some outer) bi) { s with heap := hp }) :
  wpAny M A (newList []) (fun acc x => wpAny M A (newFunctionEnv scope g cl [] qual none cd (some outer) bi) (fun e y => P acc e y) E x) E s := by
 unfold newList
 refine wpAny_newObj_type (wpAny_newFunctionEnv nocell (fun _ z => nomatch z) (fun hp ns sb => ?_) kind)
 have z : (s.heap.push { cls := .type "list", data := .seq #[] }).objs.size = s.heap.objs.size + 1 := Heap.size_push ..
 have up : ∀ b o, (s.heap.push { cls := .type "list", data := .seq #[] }).get? b = some o -> hp.get? b = some o := fun b o q => sb.extBut b o (Nat.ne_of_lt (Heap.lt_size q)) (Heap.get?_push_of_some _ q)
 exact k _ _ hp _ (Nat.le_refl _) (by show _ <= (s.heap.push _).objs.size; rw [Heap.size_push]; bv_omega) (by show _ ≠ (s.heap.push _).objs.size; rw [Heap.size_push]; bv_omega) (fun b o q => up b o (Heap.get?_push_of_some _ q)) (up _ _ (Heap.get?_push_size _ rfl)) ns
theorem yX9 {x : Value} {oI : Obj} {Q : Value -> Shared -> Prop} (alive : oI.isFreed = false) (it : ∀ (B : Around) (P E' : Value -> Shared -> Prop), P (.ref s.heap.objs.size) { s with heap := s.heap.push oI } -> wpAny (model prog w) B (pyIter x) P E' s)
  (k : ∀ h', IsEnum h' (s.heap.objs.size + 1) s.heap.objs.size 0 .none -> h'.get? s.heap.objs.size = some oI -> (∀ b o, s.heap.get? b = some o -> h'.get? b = some o) -> Q (.ref (s.heap.objs.size + 1)) { s with heap := h' }) : wpAny (model prog w) A (call (.type "enumerate") [x]) Q E s := by
 refine callType_newIn F.called_enumerate (by decide) (F.typeCall_enumerate_1 _) (F.newCall_enumerate_1 _) (fun o => F.args_object_init_2 o _) F.entry_enumerate_new
  (S := fun B R t => t = s /\ B = A.in1 /\ R = wants (fun v y => y.TypeIs v "enumerate" /\ Q v y) E) (.of_wp fun B R t h => ?_) ⟨rfl, rfl, rfl⟩
 obtain ⟨rfl, rfl, rfl⟩ := h
 have u := sub_enumerate
 have sz : (t.heap.push oI).objs.size = t.heap.objs.size + 1 := Heap.size_push ..
 have fin : ∀ v : Value, v = .ref (t.heap.push oI).objs.size -> Q v { t with heap := (t.heap.push oI).push { cls := .type "enumerate", data := .fields #[.none, .bool false, .ref t.heap.objs.size, rawInt 0, .none, .none] } } := fun v e => by
  subst e
  rw [sz]
  exact k _ (by rw [<- sz]; exact Heap.get?_push_size _ rfl) (Heap.get?_push_of_some _ (Heap.get?_push_size _ alive)) fun b o g => Heap.get?_push_of_some _ (Heap.get?_push_of_some _ g)
 wp_walk
 refine wpAny_stack_any (fun st => wpAny_pure ?_)
 split
 ·generalize (_ == Value.type "enumerate") = b
  cases b
  all_goals
   wp_walk using it A.in1.in1
   exact ⟨_, rfl, ⟨_, Heap.get?_push_size _ rfl, rfl⟩, fin _ rfl⟩
 ·wp_walk using it A.in1.in1
  exact ⟨_, rfl, ⟨_, Heap.get?_push_size _ rfl, rfl⟩, fin _ rfl⟩
end
end PySem
set_option maxHeartbeats 2000000
namespace PySem
section
variable {prog : Program} {w : World} {A : Around} {E : Value -> Shared -> Prop} {s : Shared}
end
end PySem
namespace L2
open PySem PySem.Spec PyProof.Rows
theorem HOk.track {P : Program} {w : World} {H : Hp} {h : Heap} {a : Addr} {o : HO} (x : HOk P w H h) (hn : H a = none) (new : ObjOk P w (upd H a o) h a o) : HOk P w (upd H a o) h := fun b u e => by
 by_cases hb : b = a
 ·subst hb; rw [zU] at e; cases e; exact new
 ·rw [zT hb] at e
  exact (x b u e).stay (fun c v _ q => q) (fun c q => by rw [zT (yN q hn)]; exact q) fun c xs q => by rw [zT (yN q hn)]; exact q
def clos (cells : List (Str × Addr)) : List (Str × NameKind) -> List (Str × Addr) -> List (Str × Addr)
 | [], acc => acc
 | (n, k) :: r, acc => if k == .free then clos cells r ((n, (cells.lookup n).getD 0) :: acc) else clos cells r acc
theorem vD {env : Env} : ∀ (names : List (Str × NameKind)) (acc : List (Str × Addr)), (∀ n, (n, NameKind.free) ∈ names -> ∃ c, env.cells.lookup n = some c) ->
  (forIn names acc fun (x : Str × NameKind) (r : List (Str × Addr)) => (do
   let (name, kind) := x
   if kind == .free then do
    let c <- cellOf env name
    pure (ForInStep.yield ((name, c) :: r))
   else pure (ForInStep.yield r) : Sem (ForInStep (List (Str × Addr))))) = pure (clos env.cells names acc)
 | [], acc, _ => rfl
 | (n, k) :: r, acc, h => by
  rw [List.forIn_cons]
  by_cases hk : (k == NameKind.free) = true
  ·have ek : k = NameKind.free := by simpa using hk
   obtain ⟨c, hc⟩ := h n (by rw [ek]; exact List.mem_cons_self)
   have e1 : cellOf env n = pure c := by unfold cellOf; rw [hc]
   simp only [hk, if_true, e1, pure_bind]
   rw [vD r _ fun m hm => h m (List.mem_cons_of_mem _ hm)]
   show _ = pure (if (k == NameKind.free) = true then clos env.cells r ((n, (env.cells.lookup n).getD 0) :: acc) else clos env.cells r acc)
   rw [if_pos hk, hc]
   rfl
  ·simp only [hk, if_false, pure_bind, Bool.false_eq_true]
   rw [vD r _ fun m hm => h m (List.mem_cons_of_mem _ hm)]
   show _ = pure (if (k == NameKind.free) = true then clos env.cells r ((n, (env.cells.lookup n).getD 0) :: acc) else clos env.cells r acc)
   rw [if_neg hk]
theorem uL {scope : Scope} {env : Env} (h : ∀ n, (n, NameKind.free) ∈ scope.names -> ∃ c, env.cells.lookup n = some c) : closureFor scope env = pure (clos env.cells scope.names []) := by
 unfold closureFor
 have := vD (env := env) scope.names [] h
 simp only [] at this ⊢
 rw [show (forIn scope.names ([] : List (Str × Addr)) fun (x : Str × NameKind) (r : List (Str × Addr)) => (do
   if x.2 == .free then do
    let c <- cellOf env x.1
    pure (ForInStep.yield ((x.1, c) :: r))
   else pure (ForInStep.yield r) : Sem (ForInStep (List (Str × Addr))))) = pure (clos env.cells scope.names []) from this]
 rfl
theorem kZ {cells : List (Str × Addr)} : ∀ (names : List (Str × NameKind)) (acc : List (Str × Addr)), (∀ n, (n, NameKind.free) ∈ names -> ∃ c, cells.lookup n = some c) -> (∀ x c, acc.lookup x = some c -> cells.lookup x = some c) ->
  ∀ x c, (clos cells names acc).lookup x = some c -> cells.lookup x = some c
 | [], acc, _, ha, x, c, e => ha x c e
 | (n, k) :: r, acc, h, ha, x, c, e => by
  unfold clos at e
  by_cases hk : (k == NameKind.free) = true
  ·rw [if_pos hk] at e
   have ek : k = NameKind.free := by simpa using hk
   obtain ⟨d, hd⟩ := h n (by rw [ek]; exact List.mem_cons_self)
   refine kZ r _ (fun m hm => h m (List.mem_cons_of_mem _ hm)) (fun y z q => ?_) x c e
   rw [hd, Option.getD_some, List.lookup_cons] at q
   by_cases hy : (y == n) = true
   ·simp only [hy] at q
    have ey : y = n := by simpa using hy
    cases q
    rw [ey]; exact hd
   ·simp only [hy] at q
    exact ha y z q
  ·rw [if_neg hk] at e
   exact kZ r _ (fun m hm => h m (List.mem_cons_of_mem _ hm)) ha x c e
theorem fU {cells : List (Str × Addr)} : ∀ (names : List (Str × NameKind)) (acc : List (Str × Addr)) (x : Str), (∃ c, acc.lookup x = some c) -> ∃ c, (clos cells names acc).lookup x = some c
 | [], acc, x, h => h
 | (n, k) :: r, acc, x, h => by
  unfold clos
  by_cases hk : (k == NameKind.free) = true
  ·rw [if_pos hk]
   refine fU r _ x ?_
   rw [List.lookup_cons]
   by_cases hy : (x == n) = true
   ·simp only [hy]; exact ⟨_, rfl⟩
   ·simp only [hy]; exact h
  ·rw [if_neg hk]; exact fU r _ x h
theorem vA {cells : List (Str × Addr)} : ∀ (names : List (Str × NameKind)) (acc : List (Str × Addr)) (x : Str), (x, NameKind.free) ∈ names -> ∃ c, (clos cells names acc).lookup x = some c
 | (n, k) :: r, acc, x, h => by
  unfold clos
  rcases List.mem_cons.mp h with e | e
  ·cases e
   rw [if_pos (by rfl)]
   refine fU r _ _ ?_
   rw [List.lookup_cons]
   simp only [beq_self_eq_true]
   exact ⟨_, rfl⟩
  ·by_cases hk : (k == NameKind.free) = true
   ·rw [if_pos hk]; exact vA r _ x e
   ·rw [if_neg hk]; exact vA r _ x e
theorem zR6 (env : Env) : ∃ f : Str × NameKind -> Str × NameKind, (∀ sc : Scope, (relabel sc env).names = sc.names.map f) /\ ∀ q, f q = q \/ (q.2 = .free /\ f q = (q.1, .cell)) := by
 refine ⟨_, fun _ => rfl, fun q => ?_⟩
 dsimp only
 split
 ·rename_i z
  exact .inr ⟨eq_of_beq (Bool.and_eq_true_iff.mp (Bool.and_eq_true_iff.mp z).1).1, rfl⟩
 ·exact .inl rfl
theorem cE {f : Str × NameKind -> Str × NameKind} (hf : ∀ q, f q = q \/ (q.2 = .free /\ f q = (q.1, .cell))) (x : Str) : ∀ l : List (Str × NameKind), (l.map f).lookup x = l.lookup x \/ (l.lookup x = some .free /\ (l.map f).lookup x = some .cell)
 | [] => .inl rfl
 | (n, k) :: r => by
  have ih := cE hf x r
  rw [List.map_cons]
  rcases hf (n, k) with e | ⟨e1, e⟩
  ·rw [e]
   cases q : x == n with
   | true => exact .inl (by rw [List.lookup_cons, List.lookup_cons, q])
   | false => simpa only [List.lookup_cons, q] using ih
  ·cases e1
   rw [e]
   cases q : x == n with
   | true => exact .inr ⟨by rw [List.lookup_cons, q], by rw [List.lookup_cons, q]⟩
   | false => simpa only [List.lookup_cons, q] using ih
theorem hV (sc : Scope) (env : Env) (x : Str) : (relabel sc env).names.lookup x = sc.names.lookup x \/ (sc.names.lookup x = some .free /\ (relabel sc env).names.lookup x = some .cell) := by
 obtain ⟨f, e, hf⟩ := zR6 env
 rw [e sc]
 exact cE hf x sc.names
theorem vK {sc : Scope} {env : Env} {x : Str} {k : NameKind} (h : (relabel sc env).names.lookup x = some k) : sc.names.lookup x = some k \/ (k = .cell /\ sc.names.lookup x = some .free) := by
 rcases hV sc env x with e | ⟨e1, e2⟩
 ·exact .inl (e.symm.trans h)
 ·exact .inr ⟨Option.some.inj (h.symm.trans e2), e1⟩
theorem kK {sc : Scope} {env : Env} {x : Str} (h : sc.names.lookup x = some .free) : (relabel sc env).names.lookup x = some .cell \/ (relabel sc env).names.lookup x = some .free := by
 rcases hV sc env x with e | ⟨_, e⟩
 ·exact .inr (e.trans h)
 ·exact .inl e
def cxComp (X : Cx) (N : List Str) (scope : Scope) (C : Addr) (fp : List Addr) (s₂ : Shared) (H : Hp) : Cx where
 prog := X.prog
 w := X.w
 K := X.K
 mg := X.mg
 base := X.base
 A := X.A
 N := N
 s₀ := s₂
 H₀ := H
 env := compEnvC scope (clos X.env.cells scope.names []) C X.env
 outer := X.stack
 stack := X.stack
 ex := fp
 fn := fun _ => false
 calm := X.calm
 pn := []
 xe := fun _ _ => False
structure CompScope (sc0 scope : Scope) (N0 : List Str) (xt : Str) (fs : List Str) (js : List Nat) : Prop where
 kind : scope.kind = .function
 nocell : ∀ y ∈ scope.names, y.2 ≠ .cell
 names : ∀ y ∈ scope.names, y.2 = .local -> scope.names.lookup y.1 = some .local
 tgt : scope.names.lookup xt = some .local
 frees : ∀ y ∈ scope.names, y.2 = .free -> sc0.names.lookup y.1 = some .cell \/ sc0.names.lookup y.1 = some .free
 len : js.length = fs.length
 slots : ∀ p ∈ fs.zip js, N0[p.2]? = some p.1 /\ scope.names.lookup p.1 = some .free
 nd : (xt :: fs).Nodup
theorem dH {α β : Type} : ∀ {fs : List α} {js : List β} {i : Nat} {y : α} {j : β}, fs[i]? = some y -> js[i]? = some j -> (y, j) ∈ fs.zip js
 | [], _, _, _, _, h, _ => by simp at h
 | _ :: _, [], _, _, _, _, h => by simp at h
 | a :: fs, b :: js, 0, y, j, h, h' => by
  simp at h h'
  subst h h'
  exact List.mem_cons_self
 | a :: fs, b :: js, i + 1, y, j, h, h' => by
  rw [List.zip_cons_cons]
  exact List.mem_cons_of_mem _ (dH (i := i) (by simpa using h) (by simpa using h'))
def compSt (σ : St) (js : List Nat) (v : Option V) : St := v :: js.map fun j => (σ[j]?).join
section
variable {X : Cx} {pins : List (Addr × Obj)} {σ : St} {H : Hp} {s₂ s₄ : Shared} {sc0 scope : Scope} {N0 : List Str} {xt : Str} {fs : List Str} {js : List Nat} {fp : List Addr}
theorem CompScope.cells (S : CompScope sc0 scope N0 xt fs js) (h0 : X.env.scope = sc0) (ok : X.Ok) : ∀ n, (n, NameKind.free) ∈ scope.names -> ∃ c, X.env.cells.lookup n = some c := fun n hn => ok.has n (by subst h0; exact S.frees _ hn rfl)
theorem CompScope.sub (S : CompScope sc0 scope N0 xt fs js) (h0 : X.env.scope = sc0) (ok : X.Ok) : ∀ x c, (clos X.env.cells scope.names []).lookup x = some c -> X.env.cells.lookup x = some c :=
 kZ scope.names [] (S.cells h0 ok) fun x c e => by simp at e
theorem Inv.block (S : CompScope sc0 scope N0 xt fs js) (h0 : X.env.scope = sc0) (hN0 : X.N = N0) (I : Inv X pins σ H s₂) (hf : ∀ b ∈ fp, FpOk X pins H b) (hfo : ∀ b ∈ fp, ∃ o, s₂.heap.get? b = some o)
  (hos : s₄.os = s₂.os) (hg : AllBare s₄.gens) (hk : ∀ b o, s₂.heap.get? b = some o -> s₄.heap.get? b = some o) {C : Addr} (hC : s₂.heap.objs.size <= C) {m : Str -> Option Value} (hn : s₄.heap.Ns C m) :
  Inv (cxComp X (xt :: fs) scope C fp s₂ H) [] (compSt σ js none) H s₄ := by
 have sub := S.sub h0 I.ok
 have blt : ∀ b ∈ fp, b < s₂.heap.objs.size := fun b hb => let ⟨o, e⟩ := hfo b hb; Heap.lt_size e
 have ok : (cxComp X (xt :: fs) scope C fp s₂ H).Ok := by
  refine ⟨I.ok.mod, S.kind, I.ok.glob, I.ok.blt, hC, fun x y c h1 h2 => I.ok.inj x y c (sub x c h1) (sub y c h2), fun x hx => ?_, fun x c h => (nomatch h), I.ok.hd, I.ok.frames, .inl rfl, fun b hb => ⟨?_, fun x c h => (hf b hb).2.2.2.2.1 x c (sub x c h)⟩, I.bs, Nat.le_trans I.ok.bsz I.sz, fun b o e hb => ?_, fun b hb hs => ?_, I.stack, I.stkFree⟩
  ·have hx : (relabel scope X.env).names.lookup x = some .cell \/ (relabel scope X.env).names.lookup x = some .free := hx
   have hfree : scope.names.lookup x = some .free := by
    rcases hx with hx | hx
    ·rcases vK hx with q | ⟨_, q⟩
     ·exact absurd rfl (S.nocell _ (PySem.mem_of_lookup q))
     ·exact q
    ·rcases vK hx with q | ⟨q, _⟩
     ·exact q
     ·cases q
   exact vA scope.names [] x (PySem.mem_of_lookup hfree)
  ·exact Nat.ne_of_lt (Nat.lt_of_lt_of_le (blt b hb) hC)
  ·rcases (hf b hb).2.2.2.1 with z | z
   ·exact I.ok.noex b o e z
   ·exact absurd (Nat.lt_of_lt_of_le (Heap.lt_size (I.ok.bs b o e).1) z) (Nat.lt_irrefl _)
  ·rcases List.mem_cons.mp (I.stkSub b hs) with z | z
   ·exact (hf b hb).2.1 z
   ·exact (hf b hb).2.2.1 z
 refine ⟨ok, hos, hg, Un.kept hk, ⟨m, hn, fun i x v e1 e2 e3 => ?_⟩, fun x c e => ?_, I.hok.fresh hC, fun x c e => I.freeC x c (sub x c e), fun p hp => absurd (show p ∈ ([] : List (Addr × Obj)) from hp) (by simp), I.hok.kept hk, ?_⟩
 ·cases i with
  | zero => cases e2
  | succ i =>
   have e1 : fs[i]? = some x := e1
   have e2 : (js.map fun j => (σ[j]?).join)[i]? = some (some v) := e2
   rw [List.getElem?_map] at e2
   cases ej : js[i]? with
   | none => rw [ej] at e2; cases e2
   | some j =>
    rw [ej] at e2
    have e2 : (σ[j]?).join = some v := Option.some.inj e2
    obtain ⟨hN, hfr⟩ := S.slots _ (dH e1 ej)
    have hN : X.N[j]? = some x := by rw [hN0]; exact hN
    have hk2 : X.env.kindOf x = some .cell \/ X.env.kindOf x = some .free := by subst h0; exact S.frees _ (PySem.mem_of_lookup hfr) rfl
    have hs : σ[j]? = some (some v) := by
     cases q : σ[j]? with
     | none => rw [q] at e2; cases e2
     | some z => rw [q] at e2; rw [show z = some v from e2]
    obtain ⟨m0, hn0, hl⟩ := I.loc
    obtain ⟨u, r, l⟩ := hl j x v hN hs (by rcases hk2 with z | z; exact .inr (.inl z); exact .inr (.inr z))
    refine ⟨u, r, ?_⟩
    rcases l with ⟨hloc, _⟩ | ⟨_, c, hc, hcell⟩
    ·rcases hk2 with z | z
     ·rw [z] at hloc; cases hloc
     ·rw [z] at hloc; cases hloc
    ·obtain ⟨c', hc'⟩ := vA (cells := X.env.cells) scope.names [] x (PySem.mem_of_lookup hfr)
     have : c' = c := Option.some.inj ((sub x c' hc').symm.trans hc)
     subst this
     exact .inr ⟨kK hfr, c', hc', hcell.keeps hk⟩
 ·obtain ⟨v, z⟩ := I.cell x c (sub x c e)
  exact ⟨v, z.keeps hk⟩
 ·show (compSt σ js none).length = (xt :: fs).length
  unfold compSt
  rw [List.length_cons, List.length_map, List.length_cons, S.len]
theorem Inv.unblock {pins' : List (Addr × Obj)} {σ' : St} {H' : Hp} {s' : Shared} {h'' : Heap} {C D : Addr} {its : List Value} {n : Nat} {acc : List V} {N : List Str} (I : Inv X pins σ H s₂) (hf : ∀ b ∈ fp, FpOk X pins H b)
  (J : Inv (cxComp X N scope C fp s₂ H) pins' σ' H' s') (hC : s₂.heap.objs.size <= C) (hD : s₂.heap.objs.size <= D) (hDC : D ≠ C) (hHD : H' D = none)
  (hd : s'.heap.get? D = some { cls := .type "list", data := .seq its.toArray n }) (hv : Vals acc its) (hz : acc.length <= sizeLine) (hsb : Heap.SameBut C s'.heap h'') :
  Inv X pins σ (upd H' D (.lst acc)) { s' with heap := h'' } := by
 have hd2 : h''.get? D = some { cls := .type "list", data := .seq its.toArray n } := (hsb.2 D hDC).trans hd
 have keep : ∀ b o, b < s₂.heap.objs.size -> s'.heap.get? b = some o -> h''.get? b = some o := fun b o hb e => (hsb.2 b (Nat.ne_of_lt (Nat.lt_of_lt_of_le hb hC))).trans e
 have hHC : H' C = none := J.free
 have ok1 : HOk X.prog X.w H' h'' := fun b o e => (J.hok b o e).stay (fun c v hc q => (hsb.2 c (by
   rcases hc with z | z
   ·rw [z]; exact fun w => by rw [w, hHC] at e; cases e
   ·exact fun w => by rw [w, hHC] at z; cases z)).trans q) (fun _ q => q) fun _ _ q => q
 have ok2 : HOk X.prog X.w (upd H' D (.lst acc)) h'' := ok1.track hHD ⟨hz, its, n, hv, hd2⟩
 have un : Un (frs X.stack) fp H (upd H' D (.lst acc)) s₂.heap h'' := by
  have u := J.base
  refine ⟨fun b o e nb h1 h2 => keep b o (Heap.lt_size e) (u.keep b o e nb h1 h2), fun b o e nb h1 h2 => ?_, fun b o e nb h2 => ?_, fun b o e h2 => ?_, fun b xs e => ?_, fun b o v e => ?_, fun b ps e => ?_⟩
  ·obtain ⟨sl, q⟩ := u.slot b o e nb h1 h2
   exact ⟨sl, keep b _ (Heap.lt_size e) q⟩
  ·rw [zT (Nat.ne_of_lt (Nat.lt_of_lt_of_le (Heap.lt_size e) hD))]
   exact u.free b o e nb h2
  ·obtain ⟨o', q⟩ := u.there b o e h2
   exact ⟨o', keep b _ (Heap.lt_size e) q⟩
  ·have q := u.tups b xs e
   rw [zT (yN q hHD)]; exact q
  ·have q := u.frzs b o v e
   rw [zT (yN q hHD)]; exact q
  ·obtain ⟨more, q⟩ := u.tbls b ps e
   exact ⟨more, by rw [zT (yN q hHD)]; exact q⟩
 obtain ⟨hh, g, d, t, os'⟩ := s'
 obtain rfl : os' = s₂.os := J.os
 exact Inv.call (s := s₂) I (h' := h'') (g' := g) (d' := d) (t' := t) (ch := fp) un ok2 J.bare fun b hb => ⟨(hf b hb).2.2.2.1, (hf b hb).2.1, (hf b hb).2.2.2.2.1, (hf b hb).2.2.2.2.2⟩
end
def tTrue : TT := fun _ H Q => Q true H
inductive PTs (X : Cx) : List Expr -> TT -> Prop
 | nil : PTs X [] tTrue
 | one {c : Expr} {t : TT} : PT X c t -> PTs X [c] t
def tComp (wi : TI) (tt : Addr -> List Addr -> Shared -> Hp -> TT) (te : Addr -> List Addr -> Shared -> Hp -> TE) (js : List Nat) : TE := fun σ H Q => wi σ H fun J H1 => ∀ C fp s₂ H₂, ∃ W : Nat -> Nat -> List V -> Hp -> Prop, (∃ m, W 0 m [] H1) /\ ∀ i m acc H, W i m acc H ->
 (J.stop i H /\ ∀ p, H p = none -> Q (.ref p) (upd H p (.lst acc))) \/
 (J.go i H /\ ∃ N : List V -> Hp -> Prop, (∀ acc' H', N acc' H' -> ∃ m', m' < m /\ W (i + 1) m' acc' H') /\
  ∀ x H', J.yld i H x H' -> tt C fp s₂ H₂ (compSt σ js (some x)) H' fun b H2 => if b = true then te C fp s₂ H₂ (compSt σ js (some x)) H2 fun v H3 => acc.length < sizeLine /\ N (acc ++ [v]) H3 else N acc H2)
theorem cQ {X : Cx} {elt iter : Expr} {ifs : List Expr} {sc0 scope : Scope} {N0 : List Str} {px pos : Pos} {xt : Str} {fs : List Str} {js : List Nat} {wi : TI} {tt : Addr -> List Addr -> Shared -> Hp -> TT} {te : Addr -> List Addr -> Shared -> Hp -> TE} (S : CompScope sc0 scope N0 xt fs js) (h0 : X.env.scope = sc0) (hN0 : X.N = N0) (hc : X.calm = true)
  (hi : PI X (.Name xt px) iter wi) (ht : ∀ C fp s₂ H, PTs (cxComp X (xt :: fs) scope C fp s₂ H) ifs (tt C fp s₂ H)) (he : ∀ C fp s₂ H, PE (cxComp X (xt :: fs) scope C fp s₂ H) elt (te C fp s₂ H))
  (hs : autoParam (∀ x, foldedSetIterable iter X.env x = pure x) xD._auto_1)
  {pins : List (Addr × Obj)} {cpos : Pos} {s : Shared} {σ : St} {H : Hp} {Q : VK} {use : Option (Value -> Sem Unit)} {Qv : Value -> Shared -> Prop} (I : Inv X pins σ H s) (h : tComp wi tt te js σ H Q)
  (hfin : ∀ (s' : Shared) (C D : Addr) (Ha : Hp) (fl : Flow), (∀ h'', Heap.SameBut C s'.heap h'' -> Inv X pins σ Ha { s' with heap := h'' }) -> (∃ m, s'.heap.Ns C m) -> FpOk X pins Ha C -> Q (.ref D) Ha -> compPost (model X.prog X.w) X.A X.xe use Qv (.ref D) C (.ok fl) s') :
  wpAny (model X.prog X.w) X.A (comprehension (.ListComp elt [⟨.Name xt px, iter, ifs, 0⟩] scope pos) scope X.env cpos (newList []) false (eval iter X.env) use) Qv X.xe s := by
 refine wpAny_comprehension_free (use := use) rfl hs (uL (S.cells h0 I.ok)) S.kind S.names ?_
 refine thn (hi pins s σ H _ I h) fun v s1 h1 => thn h1 fun itv s2 h2 => ?_
 obtain ⟨it, fp, tn, J, H2, e, I2, T, st2, f2, hW⟩ := h2
 subst e
 have fo : ∀ b ∈ fp, ∃ o, s2.heap.get? b = some o := fun b hb => let ⟨o, e, _⟩ := T.obj 0 s2.heap st2 b hb; ⟨o, e⟩
 have blt : ∀ b ∈ fp, b < s2.heap.objs.size := fun b hb => let ⟨o, e⟩ := fo b hb; Heap.lt_size e
 refine kF S.nocell S.kind fun D C h₁ mC hDle hCle hDC old hacc hns₁ => ?_
 have bC : ∀ b o, s2.heap.get? b = some o -> b ≠ C := fun b o q z => Nat.not_lt.mpr hCle (z ▸ Heap.lt_size q)
 have bD : ∀ b o, s2.heap.get? b = some o -> b ≠ D := fun b o q z => Nat.not_lt.mpr hDle (z ▸ Heap.lt_size q)
 obtain ⟨W, ⟨m0, w0⟩, turn⟩ := hW C fp s2 H2
 have fpk : ∀ {H' : Hp} (ob : Obj), (∀ b ∈ fp, H' b = none) -> ∀ b ∈ fp, FpOk (cxComp X (xt :: fs) scope C fp s2 H2) [(D, ob)] H' b := fun {H'} ob hn b hb => by
  refine ⟨hn b hb, Nat.ne_of_lt (Nat.lt_of_lt_of_le (blt b hb) hCle), fun z => ?_, .inl hb, fun x c e => (f2 b hb).2.2.2.2.1 x c (S.sub h0 I2.ok x c e), fun p hp => ?_⟩
  ·rcases List.mem_cons.mp (I2.stkSub b z) with q | q
   ·exact (f2 b hb).2.1 q
   ·exact (f2 b hb).2.2.1 q
  ·have : p = (D, ob) := by
    have hp : p ∈ [] ++ [(D, ob)] := hp
    simpa using hp
   subst this
   exact Nat.ne_of_gt (Nat.lt_of_lt_of_le (blt b hb) hDle)
 have loop : codeAny (model X.prog X.w) X.A (.compLoop (.ListComp elt [⟨.Name xt px, iter, ifs, 0⟩] scope pos) 0 (.ref it) (.ref D) (compEnvC scope (clos X.env.cells scope.names []) C X.env))
    (compPost (model X.prog X.w) X.A X.xe use Qv (.ref D) C) { s2 with heap := h₁ } := by
  have J0 : Inv (cxComp X (xt :: fs) scope C fp s2 H2) [] (compSt σ js none) H2 { s2 with heap := h₁ } :=
   Inv.block (s₂ := s2) (s₄ := { s2 with heap := h₁ }) S h0 hN0 I2 f2 fo rfl I2.bare old hCle hns₁
  have H2D : H2 D = none := I2.hok.fresh hDle
  have ofD : D ∉ frs X.stack := fun z => by
   rcases List.mem_cons.mp (I2.stkSub D z) with q | q
   ·exact absurd I2.lt (by rw [<- q]; exact Nat.not_lt.mpr hDle)
   ·exact I2.nofs (a := D) hDle q
  refine codeAny_loop rfl (fun n s' => ∃ (i : Nat) (σ' : St) (H' : Hp) (acc : List V) (its : List Value) (k : Nat), (∃ v0, σ' = compSt σ js v0) /\ Inv (cxComp X (xt :: fs) scope C fp s2 H2) [] σ' H' s' /\ tn i s'.heap /\ (∀ b ∈ fp, H' b = none) /\ H' D = none /\
    s'.heap.get? D = some { cls := .type "list", data := .seq its.toArray k } /\ Vals acc its /\ acc.length <= sizeLine /\ W i n acc H') ?_ m0
   ⟨0, _, H2, [], [], 0, ⟨none, rfl⟩, J0, T.keep 0 _ _ st2 fun b hb o e => old b o e, fun b hb => (f2 b hb).1, H2D, hacc, .nil, Nat.zero_le _, w0⟩
  rintro n s3 ⟨i, σ3, H3, acc, its, k, ⟨v0, rfl⟩, I3, st3, fr3, hD3, d3, va, hz, w3⟩
  show wpAny _ X.A ((compTurn (.ListComp elt [⟨.Name xt px, iter, ifs, 0⟩] scope pos) 0 (.ref it) (.ref D) (compEnvC scope (clos X.env.cells scope.names []) C X.env)).onRaise (fun x => do noteFrame x (compEnvC scope (clos X.env.cells scope.names []) C X.env); theTreesLotGoes x)) _ _ s3
  refine wpAny_noted ?_
  rw [compTurn_list]
  refine wpAny_bind (wpAny_standAt ?_)
  have pinD : Inv (cxComp X (xt :: fs) scope C fp s2 H2) [(D, { cls := .type "list", data := .seq its.toArray k })] (compSt σ js v0) H3 s3 := I3.xT fun p hp => by
   have : p = (D, { cls := .type "list", data := .seq its.toArray k }) := by simpa using hp
   subst this
   exact ⟨d3, hD3, hDC, ofD, fun v z => by cases z⟩
  refine wpAny_bind ?_
  rcases turn i n acc H3 w3 with ⟨stop, qn⟩ | ⟨go, N, hN, step⟩
  ·refine thn (T.done (cxComp X (xt :: fs) scope C fp s2 H2) rfl rfl rfl hc i _ s3 _ H3 _ pinD (fpk _ fr3) st3 stop) fun r s4 ⟨hr, I4⟩ => ?_
   subst hr
   refine wpAny_pure ?_
   obtain ⟨m4, hn4, _⟩ := I4.loc
   have hHC : H3 C = none := I4.free
   refine hfin s4 C D (upd H3 D (.lst acc)) _ (fun h'' hsb => I2.unblock f2 I4 hCle hDle hDC hD3 ((I4.pin (D, { cls := .type "list", data := .seq its.toArray k }) (List.mem_append_right _ List.mem_cons_self)).1) va hz hsb) ⟨m4, hn4⟩ (I2.fpOk hCle (by rw [zT (Ne.symm hDC)]; exact hHC)) (qn D hD3)
  ·refine thn (T.item (cxComp X (xt :: fs) scope C fp s2 H2) rfl rfl rfl hc i _ s3 _ H3 _ pinD (fpk _ fr3) st3 go) fun r s4 ⟨u, hr, h4⟩ => ?_
   subst hr
   refine wpAny_bind (thn h4 fun _ s5 ⟨x, H5, I5, r5, y5, st5, fr5⟩ => ?_)
   have I5' := I5.pinned (fpk _ fr5) (T.obj _ _ st5)
   have gok : PG (cxComp X (xt :: fs) scope C fp s2 H2) (.Name xt px) (gName 0) := vM S.nd rfl (.inl (lookup_relabel_local S.tgt)) (.inr (lookup_relabel_local S.tgt))
   have noE : ∀ (a : Value) (s' : Shared), (cxComp X (xt :: fs) scope C fp s2 H2).xe a s' -> notedBy (model X.prog X.w) X.A (compEnvC scope (clos X.env.cells scope.names []) C X.env) (fun e s' => compPost (model X.prog X.w) X.A X.xe use Qv (.ref D) C (.error e) s') a s' := fun _ _ z => False.elim z
   refine wpAny_bind (wpAny_mono (gok _ s5 (compSt σ js v0) H5 x u (fun σ' H' => σ' = compSt σ js (some x) /\ H' = H5) I5' r5 ⟨rfl, rfl⟩) (fun _ s6 ⟨σ6, H6, I6, e6, e6'⟩ => ?_) noE)
   subst e6 e6'
   have fin : ∀ {acc' : List V} {its' : List Value} {k' : Nat} {H7 : Hp} {s7 : Shared}, Inv (cxComp X (xt :: fs) scope C fp s2 H2) [] (compSt σ js (some x)) H7 s7 -> tn (i + 1) s7.heap -> (∀ b ∈ fp, H7 b = none) -> H7 D = none -> s7.heap.get? D = some { cls := .type "list", data := .seq its'.toArray k' } -> Vals acc' its' -> acc'.length <= sizeLine -> N acc' H7 ->
     ∃ m, m < n /\ ∃ (i : Nat) (σ' : St) (H' : Hp) (acc : List V) (its : List Value) (k : Nat), (∃ v0, σ' = compSt σ js v0) /\ Inv (cxComp X (xt :: fs) scope C fp s2 H2) [] σ' H' s7 /\ tn i s7.heap /\ (∀ b ∈ fp, H' b = none) /\ H' D = none /\
      s7.heap.get? D = some { cls := .type "list", data := .seq its.toArray k } /\ Vals acc its /\ acc.length <= sizeLine /\ W i m acc H' := fun {acc' its' k' H7 s7} a1 a2 a3 a4 a5 a6 a7 a8 => by
    obtain ⟨m', hm, w7⟩ := hN _ _ a8
    exact ⟨m', hm, i + 1, _, H7, acc', its', k', ⟨_, rfl⟩, a1, a2, a3, a4, a5, a6, a7, w7⟩
   have rest : ∀ {H7 : Hp} {s7 : Shared}, Inv (cxComp X (xt :: fs) scope C fp s2 H2) ([(D, { cls := .type "list", data := .seq its.toArray k })] ++ pinsAt fp s5.heap) (compSt σ js (some x)) H7 s7 ->
     tn (i + 1) s7.heap /\ (∀ b ∈ fp, H7 b = none) /\ H7 D = none /\ s7.heap.get? D = some { cls := .type "list", data := .seq its.toArray k } := fun {H7 s7} I7 => by
    refine ⟨T.keep _ _ _ st5 fun b hb o e => (I7.pin (b, o) (List.mem_append_right _ (List.mem_append_right _ (xF hb e)))).1, fun b hb => ?_, (I7.pin (D, { cls := .type "list", data := .seq its.toArray k }) (List.mem_append_right _ (List.mem_append_left _ List.mem_cons_self))).2.1, (I7.pin (D, { cls := .type "list", data := .seq its.toArray k }) (List.mem_append_right _ (List.mem_append_left _ List.mem_cons_self))).1⟩
    obtain ⟨o, e, d⟩ := T.obj _ _ st5 b hb
    exact (I7.pin (b, o) (List.mem_append_right _ (List.mem_append_right _ (xF hb e)))).2.1
   have elem : ∀ {H7 : Hp} {s7 : Shared}, Inv (cxComp X (xt :: fs) scope C fp s2 H2) ([(D, { cls := .type "list", data := .seq its.toArray k })] ++ pinsAt fp s5.heap) (compSt σ js (some x)) H7 s7 ->
     (te C fp s2 H2 (compSt σ js (some x)) H7 fun v H3 => acc.length < sizeLine /\ N (acc ++ [v]) H3) ->
     wpAny (model X.prog X.w) X.A (eval elt (compEnvC scope (clos X.env.cells scope.names []) C X.env)) (fun y s8 => wpAny (model X.prog X.w) X.A (call (.builtin "list.append") [.ref D, y]) (fun _ s9 => ∃ m, m < n /\ ∃ (i : Nat) (σ' : St) (H' : Hp) (acc : List V) (its : List Value) (k : Nat), (∃ v0, σ' = compSt σ js v0) /\ Inv (cxComp X (xt :: fs) scope C fp s2 H2) [] σ' H' s9 /\ tn i s9.heap /\ (∀ b ∈ fp, H' b = none) /\ H' D = none /\
      s9.heap.get? D = some { cls := .type "list", data := .seq its.toArray k } /\ Vals acc its /\ acc.length <= sizeLine /\ W i m acc H')
      (fun _ _ => False) s8) (fun _ _ => False) s7 := fun {H7 s7} I7 q7 => by
    refine thn (he C fp s2 H2 _ s7 _ H7 _ I7 q7) fun y s8 ⟨v, H8, I8, r8, hl8, n8⟩ => ?_
    obtain ⟨t8, fr8, hD8, d8⟩ := rest I8
    have hsz := va.length
    refine call_meets F.slot_list_append ⟨_, d8, rfl⟩ F.entry_list_append (F.args_list_append_2 _ _) (PySem.list_append D its.toArray k y (by rw [List.size_toArray]; bv_omega)) ⟨d8, ?_⟩
    have q := PySem.IsL.update d8 (·.push y)
    rw [show (its.toArray.push y) = (its ++ [y]).toArray by simp] at q
    have kk : ∀ b o, b ≠ D -> s8.heap.get? b = some o -> (s8.heap.update D (Obj.mapSeq (·.push y))).get? b = some o := fun b o hb e => (Heap.get?_update_other s8.heap _ (Ne.symm hb)).trans e
    have I9 : Inv (cxComp X (xt :: fs) scope C fp s2 H2) [] (compSt σ js (some x)) H8 { s8 with heap := s8.heap.update D (Obj.mapSeq (·.push y)) } := by
     refine Inv.turned (it := D) (t' := s8.toks) (I8.xT (pins' := []) fun p hp => nomatch hp) kk hD8 hDC (.inr hDle) (fun x c e z => ?_) fun p hp => absurd (show p ∈ ([] : List (Addr × Obj)) from hp) (by simp)
     obtain ⟨v, o, ho, _⟩ := I2.cell x c (S.sub h0 I2.ok x c e)
     exact bD c o ho z
    refine fin I9 (T.keep _ _ _ t8 fun b hb o e => kk b o (Nat.ne_of_lt (Nat.lt_of_lt_of_le (blt b hb) hDle)) e) fr8 hD8 q (va.append (.cons r8 .nil)) ?_ n8
    rw [List.length_append, List.length_singleton]
    bv_omega
   have q6 := step x H6 y5
   have htt := ht C fp s2 H2
   generalize tt C fp s2 H2 = tt' at htt q6
   cases htt with
   | nil =>
    refine wpAny_bind (wpAny_pure ?_)
    dsimp only [tTrue] at q6
    rw [if_pos rfl] at q6
    refine wpAny_mono (wpAny_bind (wpAny_bind (thn (elem I6 q6) fun y s8 h8 => wpAny_bind (thn h8 fun _ s9 h9 => wpAny_pure (wpAny_pure ⟨rfl, h9⟩))))) (fun _ _ z => z) fun _ _ z => False.elim z
   | one ht1 =>
    refine wpAny_bind (wpAny_tests_one (wpAny_mono (ht1 _ s6 _ H6 _ I6 q6) (fun b s7 ⟨H7, I7, q7⟩ => ?_) noE))
    cases b with
    | false =>
     rw [if_neg Bool.false_ne_true] at q7
     obtain ⟨t8, fr8, hD8, d8⟩ := rest I7
     exact wpAny_pure ⟨rfl, fin (I7.xT (pins' := []) fun p hp => nomatch hp) t8 fr8 hD8 d8 va hz q7⟩
    | true =>
     rw [if_pos rfl] at q7
     refine wpAny_mono (wpAny_bind (wpAny_bind (thn (elem I7 q7) fun y s8 h8 => wpAny_bind (thn h8 fun _ s9 h9 => wpAny_pure (wpAny_pure ⟨rfl, h9⟩))))) (fun _ _ z => z) fun _ _ z => False.elim z
 exact codeAny_compStart_list loop (T.self X.A 0 _ _ _ (T.keep 0 _ _ st2 fun b hb o e => old b o e) loop)
theorem cZ {X : Cx} {elt iter : Expr} {ifs : List Expr} {sc0 scope : Scope} {N0 : List Str} {px pos : Pos} {xt : Str} {fs : List Str} {js : List Nat} {wi : TI} {tt : Addr -> List Addr -> Shared -> Hp -> TT} {te : Addr -> List Addr -> Shared -> Hp -> TE} (S : CompScope sc0 scope N0 xt fs js) (h0 : X.env.scope = sc0) (hN0 : X.N = N0) (hc : X.calm = true)
  (hi : PI X (.Name xt px) iter wi) (ht : ∀ C fp s₂ H, PTs (cxComp X (xt :: fs) scope C fp s₂ H) ifs (tt C fp s₂ H)) (he : ∀ C fp s₂ H, PE (cxComp X (xt :: fs) scope C fp s₂ H) elt (te C fp s₂ H))
  (hs : autoParam (∀ x, foldedSetIterable iter X.env x = pure x) xD._auto_1) :
  PE X (.ListComp elt [⟨.Name xt px, iter, ifs, 0⟩] scope pos) (tComp wi tt te js) := by
 intro pins s σ H Q I h
 rw [eval_ListComp]
 refine cQ S h0 hN0 hc hi ht he hs (use := none) (Qv := EP X pins σ Q) I h fun s' C D Ha fl hI hns hC q => ?_
 obtain ⟨m, hn⟩ := hns
 exact ⟨m, hn, fun h' hsb => ⟨.ref D, Ha, hI h' hsb, rfl, q⟩⟩
theorem jE {lo : Int} {n : Nat} {tt : TT} {te : TE} {js : List Nat} {σ : St} {H : Hp} {Q : VK} (Pv : Nat -> List V -> Hp -> Prop) (h0 : Pv 0 [] H)
  (hs : ∀ i acc H, i < n -> Pv i acc H -> tt (compSt σ js (some (.int (lo + i)))) H fun b H2 => if b = true then te (compSt σ js (some (.int (lo + i)))) H2 fun v H3 => acc.length < sizeLine /\ Pv (i + 1) (acc ++ [v]) H3 else Pv (i + 1) acc H2)
  (hd : ∀ acc H, Pv n acc H -> ∀ p, H p = none -> Q (.ref p) (upd H p (.lst acc))) :
  ∃ W : Nat -> Nat -> List V -> Hp -> Prop, (∃ m, W 0 m [] H) /\ ∀ i m acc H, W i m acc H ->
   ((Itr lo n).stop i H /\ ∀ p, H p = none -> Q (.ref p) (upd H p (.lst acc))) \/
   ((Itr lo n).go i H /\ ∃ N : List V -> Hp -> Prop, (∀ acc' H', N acc' H' -> ∃ m', m' < m /\ W (i + 1) m' acc' H') /\
    ∀ x H', (Itr lo n).yld i H x H' -> tt (compSt σ js (some x)) H' fun b H2 => if b = true then te (compSt σ js (some x)) H2 fun v H3 => acc.length < sizeLine /\ N (acc ++ [v]) H3 else N acc H2) := by
 refine ⟨fun i m acc H => m = n - i /\ i <= n /\ Pv i acc H, ⟨n, by simp, Nat.zero_le _, h0⟩, ?_⟩
 rintro i m acc H ⟨rfl, hi, p⟩
 by_cases hlt : i < n
 ·refine .inr ⟨hlt, Pv (i + 1), fun acc' H' p' => ⟨n - (i + 1), by bv_omega, rfl, hlt, p'⟩, fun x H' y => ?_⟩
  obtain ⟨e, y⟩ := y
  subst e y
  exact hs i acc _ hlt p
 ·have e : i = n := by bv_omega
  subst e
  exact .inl ⟨Nat.le_refl _, hd acc H p⟩
theorem Same.new {H : Hp} {p : Addr} {o : HO} (h : H p = none) : Same H (upd H p o) := fun b u e => by rw [zT (yN e h)]; exact e
def Small (i : Int) : Prop := ∃ k, k <= 1000000 /\ i.natAbs < 2 ^ k
theorem Small.bits {i : Int} (h : Small i) : Builtin.Int.intBits i <= 2 ^ 20 := by
 obtain ⟨k, hk, hi⟩ := h
 unfold Builtin.Int.intBits
 by_cases h0 : (i == 0) = true
 ·rw [if_pos h0]; exact Nat.zero_le _
 ·rw [if_neg h0]
  have hn : i.natAbs ≠ 0 := by
   intro z
   have : i = 0 := by bv_omega
   rw [this] at h0
   exact h0 rfl
  have := (Nat.log2_lt hn).mpr hi
  have e : (2 : Nat) ^ 20 = 1048576 := by decide
  bv_omega
section
variable {X : Cx}
theorem zN9 (hc : X.calm = true) : CallR X (.builtin "sum") (fun xs H Q => ∃ (p : Addr) (ns : List Int), xs = [.ref p] /\ SqL X.K H p (ns.map V.int) /\ Q (.int ns.sum) H) := by
 intro pins s σ H xs us Q I r h
 obtain ⟨p, ns, rfl, hq, q⟩ := h
 obtain ⟨u, rfl, ru⟩ := vals1 r
 cases ru
 obtain ⟨its, rv, pl, hz⟩ := I.list hq
 have hi : IntsAre its ns := jC rv
 obtain ⟨xs, e⟩ := hi.allInts.items
 refine sum_intListG (I.ok.hd hc) (by rw [<- e]; exact pl.isList) fun h' tk t' hk => ⟨.int ns.sum, H, I.kept hk, ⟨t', ?_⟩, q⟩
 congr 1
 rw [preSum_eq, List.take_of_length_le (by simp), <- nums_intItems, <- e]
 show (numsOf its).sum = ns.sum
 rw [hi.numsOf]
theorem kN {xs : List V} {its : List Value} (r : Vals xs its) : ∀ (ks : List Nat), Vals (ks.filterMap (xs[·]?)) (ks.filterMap (its.toArray[·]?))
 | [] => .nil
 | k :: ks => by
  have hl := r.length
  rw [List.filterMap_cons, List.filterMap_cons]
  cases e : xs[k]? with
  | none =>
   have : its.toArray[k]? = none := by
    rw [List.getElem?_eq_none_iff] at e
    rw [Array.getElem?_eq_none_iff, List.size_toArray]
    bv_omega
   rw [this]
   exact kN r ks
  | some x =>
   obtain ⟨u, hu, ru⟩ := r.get e
   have : its.toArray[k]? = some u := by simpa using hu
   rw [this]
   exact .cons ru (kN r ks)
def clsV : V -> Option Value
 | .ty n => some (.type n)
 | .ref a => some (.ref a)
 | _ => none
theorem zC4 {c : V} {u cv : Value} (r : RelV c u) (e : clsV c = some cv) : u = cv := by
 cases c with
 | ty n => cases e; exact r
 | ref a => cases e; exact r
 | non => cases e
 | bl _ => cases e
 | int _ => cases e
 | str _ => cases e
 | byt _ => cases e
 | flt _ => cases e
end
mutual
inductive DatV (K : KFr) (H : Hp) : V -> PyData -> Prop
 | non : DatV K H .non .none
 | bl (b : Bool) : DatV K H (.bl b) (.bool b)
 | int (i : Int) : DatV K H (.int i) (.int i)
 | str (x : Str) : DatV K H (.str x) (.str x)
 | lst {a : Addr} {xs : List V} {ds : List PyData} : SqL K H a xs -> DatAll K H xs ds -> DatV K H (.ref a) (.list ds)
 | tup {a : Addr} {xs : List V} {ds : List PyData} : SqT K H a xs -> DatAll K H xs ds -> DatV K H (.ref a) (.tuple ds)
inductive DatAll (K : KFr) (H : Hp) : List V -> List PyData -> Prop
 | nil : DatAll K H [] []
 | cons {v : V} {d : PyData} {vs : List V} {ds : List PyData} : DatV K H v d -> DatAll K H vs ds -> DatAll K H (v :: vs) (d :: ds)
end
section
variable {X : Cx} {pins : List (Addr × Obj)} {σ : St} {H : Hp} {s : Shared}
mutual
theorem Inv.reads (I : Inv X pins σ H s) : ∀ {v : V} {d : PyData} {u : Value}, DatV X.K H v d -> RelV v u -> ∃ as, Reads s.heap u d as
 | _, _, _, .non, r => by cases r; exact ⟨_, .none⟩
 | _, _, _, .bl b, r => by cases r; exact ⟨_, .bool b⟩
 | _, _, _, .int i, r => by obtain ⟨t, rfl⟩ := r; exact ⟨_, .int i t⟩
 | _, _, _, .str x, r => by obtain ⟨t, rfl⟩ := r; exact ⟨_, .str x t⟩
 | _, _, _, .lst hq ha, r => by
  cases r
  obtain ⟨its, rv, ⟨o, n, ho, hc, _, hd⟩, _⟩ := I.list hq
  obtain ⟨as, z⟩ := Inv.readsAll I ha rv
  exact ⟨_, .list ho hc hd (by simpa using z)⟩
 | _, _, _, .tup hq ha, r => by
  cases r
  obtain ⟨its, rv, ⟨o, ho, hc, n, hd⟩, _⟩ := I.tuple hq
  obtain ⟨as, z⟩ := Inv.readsAll I ha rv
  exact ⟨_, .tuple ho hc hd (by simpa using z)⟩
theorem Inv.readsAll (I : Inv X pins σ H s) : ∀ {vs : List V} {ds : List PyData} {us : List Value}, DatAll X.K H vs ds -> Vals vs us -> ∃ as, ReadsAll s.heap us ds as
 | _, _, _, .nil, r => by cases r; exact ⟨_, .nil⟩
 | _, _, _, .cons h t, r => by
  cases r with
  | cons r1 r2 =>
   obtain ⟨as, z⟩ := Inv.reads I h r1
   obtain ⟨bs, z'⟩ := Inv.readsAll I t r2
   exact ⟨_, .cons z z'⟩
end
end
section
variable {X : Cx}
def rEqD (K : KFr) (neg : Bool) : R2 := fun x y H Q => ∃ dx dy, DatV K H x dx /\ DatV K H y dy /\ SeqAt.shaped dx = true /\ SeqAt.shaped dy = true /\ Q (.bl (if neg then !PyData.eqv dx dy else PyData.eqv dx dy)) H
theorem yK (hu : X.A.units + 64 < cLine) : OpR X (compareOp .Eq) (rEqD X.K false) := by
 intro pins s σ H x y v u Q I rx ry h
 obtain ⟨dx, dy, h1, h2, s1, s2, q⟩ := h
 obtain ⟨as, z1⟩ := I.reads h1 rx
 obtain ⟨bs, z2⟩ := I.reads h2 ry
 exact eq_dataH z1 z2 s1 s2 hu ⟨.bl _, H, I, rfl, q⟩
theorem vJ (hu : X.A.units + 64 < cLine) : OpR X (compareOp .NotEq) (rEqD X.K true) := by
 intro pins s σ H x y v u Q I rx ry h
 obtain ⟨dx, dy, h1, h2, s1, s2, q⟩ := h
 obtain ⟨as, z1⟩ := I.reads h1 rx
 obtain ⟨bs, z2⟩ := I.reads h2 ry
 exact ne_dataH z1 z2 s1 s2 hu ⟨.bl _, H, I, rfl, q⟩
end
theorem zW1 (ns ms : List Int) : PyData.eqvAll (ns.map PyData.int) (ms.map PyData.int) = decide (ns = ms) := PySem.W.ked_eqvAll ns ms
theorem gB (ns : List Int) : SeqAt.shaped (.list (ns.map PyData.int)) = true := PySem.W.ke_shaped_ints ns
theorem yZ8 (ns ms : List Int) : PyData.eqv (.list (ns.map PyData.int)) (.list (ms.map PyData.int)) = decide (ns = ms) := by rw [PyData.eqv]; exact zW1 ns ms
section
variable {X : Cx}
end
section
variable {X : Cx}
theorem zD5 {bs : List Bool} {its : List Value} (r : Vals (bs.map V.bl) its) {i : Nat} {v : Value} (h : its.toArray[i]? = some v) : v = .bool (bs.getD i false) := by
 have h2 : its[i]? = some v := by simpa using h
 have hi : i < its.length := (List.getElem?_eq_some_iff.mp h2).1
 have hl := r.length
 rw [List.length_map] at hl
 have e : (bs.map V.bl)[i]? = some (V.bl (bs.getD i false)) := by
  rw [List.getElem?_map, List.getElem?_eq_getElem (by bv_omega), List.getD_eq_getElem?_getD, List.getElem?_eq_getElem (by bv_omega)]
  rfl
 obtain ⟨u, hu, ru⟩ := r.get e
 rw [h2] at hu
 cases hu
 exact ru
theorem zR5 (bs : List Bool) : (List.range bs.length).map (fun i => bs.getD i false) = bs := by
 refine List.ext_getElem (by simp) fun i h1 h2 => ?_
 simp [List.getD, h2]
theorem zM8 (bs : List Bool) : (List.range bs.length).all (fun i => bs.getD i false) = bs.all id := by
 have z := congrArg (fun l => List.all l id) (zR5 bs)
 simpa [List.all_map, Function.comp_def] using z
theorem zL8 (hc : X.calm = true) : CallR X (.builtin "all") (fun xs H Q => ∃ (p : Addr) (bs : List Bool), xs = [.ref p] /\ SqL X.K H p (bs.map V.bl) /\ Q (.bl (bs.all id)) H) := by
 intro pins s σ H xs us Q I r h
 obtain ⟨p, bs, rfl, hq, q⟩ := h
 obtain ⟨u, rfl, ru⟩ := vals1 r
 cases ru
 obtain ⟨its, rv, pl, hz⟩ := I.list hq
 have hl := rv.length
 rw [List.length_map] at hl
 refine call_all_walk (zN1 (A := X.A.in1) (I.ok.hd hc) pl.isList fun J hp St W st _ _ keep => ⟨_, _, _, _, _, _, fun i => bs.getD i false, rfl, W, st, ?_, fun h' tk hk => ?_⟩)
 ·intro i v s' Q' E' hP hQ
  rw [zD5 rv hP]
  exact wpAny_truthy_bool hQ
 ·rw [List.size_toArray, <- hl, zM8]
  exact ⟨.bl _, H, I.kept fun b o e => hk b o (by simpa using (keep b o e).1) (keep b o e).2, rfl, q⟩
end
end L2
namespace L2.L3
open PySem PySem.Spec PyProof.Rows
abbrev D := PyData
inductive Res (α : Type) where
 | ok (a : α)
 | ex (c : Str)
 | no
namespace Res
def bind {α β : Type} : Res α -> (α -> Res β) -> Res β
 | .ok a, f => f a
 | .ex c, _ => .ex c
 | .no, _ => .no
def post {α : Type} : Res α -> (α -> Prop) -> (Str -> Prop) -> Prop
 | .ok a, Q, _ => Q a
 | .ex c, _, E => E c
 | .no, _, _ => False
theorem zW {α β : Type} {r : Res α} {f : α -> Res β} {Q : β -> Prop} {E : Str -> Prop} (h : (r.bind f).post Q E) : r.post (fun a => (f a).post Q E) E := by
 cases r <;> exact h
theorem zV {α : Type} {r : Res α} {Q Q' : α -> Prop} {E E' : Str -> Prop} (h : r.post Q E) (hQ : ∀ a, r = .ok a -> Q a -> Q' a) (hE : ∀ c, E c -> E' c) : r.post Q' E' := by
 cases r with
 | ok a => exact hQ a rfl h
 | ex c => exact hE c h
 | no => exact h
def lft {α : Type} : Option α -> Res α
 | some a => .ok a
 | none => .no
theorem zA {α : Type} {o : Option α} {Q : α -> Prop} {E : Str -> Prop} (h : (lft o).post Q E) : ∃ a, o = some a /\ Q a := by
 cases o with
 | none => exact h.elim
 | some a => exact ⟨a, rfl, h⟩
@[simp] theorem bind_ok {α β : Type} (a : α) (f : α -> Res β) : (Res.ok a).bind f = f a := rfl
@[simp] theorem bind_no {α β : Type} (f : α -> Res β) : (Res.no : Res α).bind f = .no := rfl
@[simp] theorem bind_ex {α β : Type} (c : Str) (f : α -> Res β) : (Res.ex c : Res α).bind f = .ex c := rfl
@[simp] theorem lft_some {α : Type} (a : α) : lft (some a) = .ok a := rfl
@[simp] theorem lft_none {α : Type} : lft (none : Option α) = .no := rfl
end Res
class CN where
 ad : Str -> Addr
instance (priority := low) cn0 : CN := ⟨fun _ => 0⟩
abbrev excD (c : Str) : D := .dict [(.list [], .str c)]
variable [CN]
def excP (a : Addr) (c : Str) : Heap -> Prop := fun h => ∃ o, h.get? a = some o /\ o.cls = .ref (CN.ad c)
mutual
inductive Rep (H : Hp) (O : Addr -> Prop) : V -> D -> Prop
 | non : Rep H O .non .none
 | bl (b : Bool) : Rep H O (.bl b) (.bool b)
 | int (i : Int) : Rep H O (.int i) (.int i)
 | str (x : Str) : Rep H O (.str x) (.str x)
 | lst {a : Addr} {xs : List V} {ds : List D} : Rd H a (.lst xs) -> ¬ O a -> Reps H O xs ds -> Rep H O (.ref a) (.list ds)
 | tup {a : Addr} {xs : List V} {ds : List D} : Rd H a (.tup xs) -> ¬ O a -> Reps H O xs ds -> Rep H O (.ref a) (.tuple ds)
 | exc {a : Addr} {c : Str} : H a = some (.ext (excP a c)) -> ¬ O a -> Rep H O (.ref a) (.dict [(.list [], .str c)])
inductive Reps (H : Hp) (O : Addr -> Prop) : List V -> List D -> Prop
 | nil : Reps H O [] []
 | cons {v : V} {d : D} {vs : List V} {ds : List D} : Rep H O v d -> Reps H O vs ds -> Reps H O (v :: vs) (d :: ds)
end
theorem zU2 {H : Hp} {a : Addr} {u : HO} (h : Rd H a u) : H a ≠ none := by
 rcases h with h | ⟨o, h⟩ <;> (rw [h]; exact fun z => nomatch z)
theorem xJ {H H' : Hp} {a : Addr} {u : HO} (h : Rd H a u) (k : ∀ o, H a = some o -> H' a = some o) : Rd H' a u := by
 rcases h with h | ⟨o, h⟩
 ·exact .inl (k _ h)
 ·exact .inr ⟨o, k _ h⟩
section
variable {H H' : Hp} {O O' : Addr -> Prop}
mutual
theorem Rep.keep (k : ∀ b o, H b = some o -> ¬ O b -> H' b = some o) (s : ∀ b, H b ≠ none -> O' b -> O b) : ∀ {v : V} {d : D}, Rep H O v d -> Rep H' O' v d
 | _, _, .non => .non
 | _, _, .bl b => .bl b
 | _, _, .int i => .int i
 | _, _, .str x => .str x
 | _, _, .lst r n t => .lst (xJ r fun o e => k _ o e n) (fun z => n (s _ (zU2 r) z)) (Reps.keep k s t)
 | _, _, .tup r n t => .tup (xJ r fun o e => k _ o e n) (fun z => n (s _ (zU2 r) z)) (Reps.keep k s t)
 | _, _, .exc r n => .exc (k _ _ r n) (fun z => n (s _ (by rw [r]; exact fun z => nomatch z) z))
theorem Reps.keep (k : ∀ b o, H b = some o -> ¬ O b -> H' b = some o) (s : ∀ b, H b ≠ none -> O' b -> O b) : ∀ {vs : List V} {ds : List D}, Reps H O vs ds -> Reps H' O' vs ds
 | _, _, .nil => .nil
 | _, _, .cons h t => .cons (Rep.keep k s h) (Reps.keep k s t)
end
mutual
theorem Rep.dat {K : KFr} : ∀ {v : V} {d : D}, Rep H O v d -> PyData.canLay0 d = true -> DatV K H v d
 | _, _, .non, _ => .non
 | _, _, .bl b, _ => .bl b
 | _, _, .int i, _ => .int i
 | _, _, .str x, _ => .str x
 | _, _, .lst r n t, c => .lst (.inl r) (Reps.dat t c)
 | _, _, .tup r n t, c => .tup (.inl r) (Reps.dat t c)
 | _, _, .exc r n, c => by cases c
theorem Reps.dat {K : KFr} : ∀ {vs : List V} {ds : List D}, Reps H O vs ds -> PyData.canLayAll0 ds = true -> DatAll K H vs ds
 | _, _, .nil, _ => .nil
 | _, _, .cons h t, c => .cons (Rep.dat h (Bool.and_eq_true_iff.mp c).1) (Reps.dat t (Bool.and_eq_true_iff.mp c).2)
end
theorem Rep.same {v : V} {d : D} (h : Rep H O v d) (s : Same H H') : Rep H' O v d := h.keep (fun b o e _ => s b o e) fun _ _ z => z
theorem Reps.same {v : List V} {d : List D} (h : Reps H O v d) (s : Same H H') : Reps H' O v d := h.keep (fun b o e _ => s b o e) fun _ _ z => z
theorem Rep.less {v : V} {d : D} (h : Rep H O v d) (s : ∀ b, O' b -> O b) : Rep H O' v d := h.keep (fun b o e _ => e) fun b _ z => s b z
theorem Reps.less {v : List V} {d : List D} (h : Reps H O v d) (s : ∀ b, O' b -> O b) : Reps H O' v d := h.keep (fun b o e _ => e) fun b _ z => s b z
theorem Reps.length : ∀ {vs : List V} {ds : List D}, Reps H O vs ds -> vs.length = ds.length
 | _, _, .nil => rfl
 | _, _, .cons _ t => congrArg (· + 1) (Reps.length t)
theorem Reps.get : ∀ {vs : List V} {ds : List D} {i : Nat} {d : D}, Reps H O vs ds -> ds[i]? = some d -> ∃ v, vs[i]? = some v /\ Rep H O v d
 | _, _, _, _, .nil, e => by simp at e
 | _, _, 0, _, .cons r _, e => by simp at e; subst e; exact ⟨_, rfl, r⟩
 | _, _, i + 1, d, .cons _ t, e => by
  obtain ⟨u, h1, h2⟩ := Reps.get (i := i) (d := d) t (by simpa using e)
  exact ⟨u, by simpa using h1, h2⟩
theorem Reps.append : ∀ {vs ws : List V} {ds es : List D}, Reps H O vs ds -> Reps H O ws es -> Reps H O (vs ++ ws) (ds ++ es)
 | _, _, _, _, .nil, s => s
 | _, _, _, _, .cons r t, s => .cons r (Reps.append t s)
theorem Reps.one {v : V} {d : D} (h : Rep H O v d) : Reps H O [v] [d] := .cons h .nil
theorem Reps.set {x : V} {u : D} (r : Rep H O x u) : ∀ {vs : List V} {ds : List D} (i : Nat), Reps H O vs ds -> Reps H O (vs.set i x) (ds.set i u)
 | _, _, _, .nil => .nil
 | _, _, 0, .cons _ t => .cons r t
 | _, _, i + 1, .cons q t => .cons q (Reps.set r i t)
theorem Reps.take : ∀ {vs : List V} {ds : List D} (n : Nat), Reps H O vs ds -> Reps H O (vs.take n) (ds.take n)
 | _, _, 0, _ => .nil
 | _, _, _ + 1, .nil => .nil
 | _, _, n + 1, .cons r t => .cons r (Reps.take n t)
theorem Reps.drop : ∀ {vs : List V} {ds : List D} (n : Nat), Reps H O vs ds -> Reps H O (vs.drop n) (ds.drop n)
 | _, _, 0, r => r
 | _, _, _ + 1, .nil => .nil
 | _, _, n + 1, .cons _ t => Reps.drop n t
theorem Reps.erase : ∀ {vs : List V} {ds : List D} (i : Nat), Reps H O vs ds -> Reps H O (vs.eraseIdx i) (ds.eraseIdx i)
 | _, _, _, .nil => .nil
 | _, _, 0, .cons _ t => t
 | _, _, i + 1, .cons r t => .cons r (Reps.erase i t)
theorem Reps.rep {vs : List V} {ds : List D} (h : Reps H O vs ds) : ∀ k : Nat, Reps H O (List.replicate k vs).flatten (List.replicate k ds).flatten
 | 0 => .nil
 | k + 1 => by
  rw [List.replicate_succ, List.replicate_succ, List.flatten_cons, List.flatten_cons]
  exact h.append (Reps.rep h k)
theorem Reps.insert {x : V} {u : D} (r : Rep H O x u) {vs : List V} {ds : List D} (i : Nat) (h : Reps H O vs ds) : Reps H O (vs.take i ++ x :: vs.drop i) (ds.take i ++ u :: ds.drop i) :=
 (h.take i).append (.cons r (h.drop i))
theorem uO : ∀ (ns : List Int), Reps H O (ns.map V.int) (ns.map PyData.int)
 | [] => .nil
 | n :: ns => .cons (.int n) (uO ns)
theorem Reps.ints : ∀ {ns : List Int} {vs : List V}, Reps H O vs (ns.map PyData.int) -> vs = ns.map V.int
 | [], _, h => by cases h; rfl
 | n :: ns, _, h => by
  cases h with
  | cons r t => cases r; rw [Reps.ints t]; rfl
theorem Reps.bools : ∀ {ns : List Bool} {vs : List V}, Reps H O vs (ns.map PyData.bool) -> vs = ns.map V.bl
 | [], _, h => by cases h; rfl
 | n :: ns, _, h => by
  cases h with
  | cons r t => cases r; rw [Reps.bools t]; rfl
end
abbrev Ev := List (Option D)
structure Wd where
 o : Addr -> Prop
 la : Nat -> Addr
instance : CoeFun Wd (fun _ => Addr -> Prop) := ⟨Wd.o⟩
abbrev Uni (Oc : Wd) (Ob : Addr -> Prop) : Addr -> Prop := fun b => Oc b \/ Ob b
def OwnAt (H : Hp) (Oc : Wd) (Ob : Addr -> Prop) (v : V) (d : D) : Prop := ∃ a ys ds, v = .ref a /\ d = .list ds /\ H a = some (.lst ys) /\ Ob a /\ Reps H (Uni Oc Ob) ys ds
def LentAt (i : Nat) (H : Hp) (Oc : Wd) (Ob : Addr -> Prop) (v : V) (d : D) : Prop := ∃ ys ds, v = .ref (Oc.la i) /\ d = .list ds /\ H (Oc.la i) = some (.lst ys) /\ Oc (Oc.la i) /\ Reps H (Uni Oc Ob) ys ds
structure Rel (Oc : Wd) (Ob : Addr -> Prop) (om ln : List Nat) (σ : St) (H : Hp) (ρ : Ev) : Prop where
 len : σ.length = ρ.length
 val : ∀ i d, ρ[i]? = some (some d) -> i ∉ om -> i ∉ ln -> ∃ v, σ[i]? = some (some v) /\ Rep H (Uni Oc Ob) v d
 own : ∀ i d, ρ[i]? = some (some d) -> i ∈ om -> ∃ v, σ[i]? = some (some v) /\ OwnAt H Oc Ob v d
 lnt : ∀ i d, ρ[i]? = some (some d) -> i ∉ om -> i ∈ ln -> ∃ v, σ[i]? = some (some v) /\ LentAt i H Oc Ob v d
 inj : ∀ i j di dj a, ρ[i]? = some (some di) -> ρ[j]? = some (some dj) -> i ∈ om -> j ∈ om -> σ[i]? = some (some (.ref a)) -> σ[j]? = some (some (.ref a)) -> i = j
 oh : ∀ a, Oc a \/ Ob a -> H a ≠ none
 ap : ∀ a, Ob a -> ¬ Oc a
section
variable {Oc : Wd} {Ob : Addr -> Prop} {om ln : List Nat} {σ : St} {H H' : Hp} {ρ : Ev}
theorem Same.ne {b : Addr} (s : Same H H') (h : H b ≠ none) : H' b ≠ none := by
 cases e : H b with
 | none => exact absurd e h
 | some o => rw [s b o e]; exact fun z => nomatch z
theorem Rel.same (R : Rel Oc Ob om ln σ H ρ) (s : Same H H') : Rel Oc Ob om ln σ H' ρ where
 len := R.len
 val := fun i d e h1 h2 => let ⟨v, a, b⟩ := R.val i d e h1 h2; ⟨v, a, b.same s⟩
 own := fun i d e h1 => let ⟨v, q, a, ys, ds, e1, e2, e3, e4, e5⟩ := R.own i d e h1; ⟨v, q, a, ys, ds, e1, e2, s _ _ e3, e4, e5.same s⟩
 lnt := fun i d e h1 h2 => let ⟨v, q, ys, ds, e1, e2, e3, e4, e5⟩ := R.lnt i d e h1 h2; ⟨v, q, ys, ds, e1, e2, s _ _ e3, e4, e5.same s⟩
 inj := R.inj
 oh := fun a h => Same.ne s (R.oh a h)
 ap := R.ap
end
inductive Md where
 | cl
 | rd
 | any
 | new
def VA (Oc : Wd) (Ob : Addr -> Prop) (H : Hp) (v : V) (d : D) : Prop :=
 Rep H (Uni Oc Ob) v d \/ ∃ a ys ds, v = .ref a /\ d = .list ds /\ H a = some (.lst ys) /\ Reps H (Uni Oc Ob) ys ds
def VR : Md -> Wd -> (Addr -> Prop) -> Hp -> Hp -> V -> D -> Prop
 | .cl, Oc, Ob, _, H', v, d => Rep H' (Uni Oc Ob) v d
 | .rd, Oc, Ob, _, H', v, d => Rep H' (Uni Oc Ob) v d \/ ∃ a ys ds, v = .ref a /\ d = .list ds /\ H' a = some (.lst ys) /\ ¬ Ob a /\ Reps H' (Uni Oc Ob) ys ds
 | .any, Oc, Ob, _, H', v, d => VA Oc Ob H' v d
 | .new, Oc, Ob, H, H', v, d => ∃ a ys ds, v = .ref a /\ d = .list ds /\ H a = none /\ H' a = some (.lst ys) /\ Reps H' (fun b => Uni Oc Ob b \/ b = a) ys ds
section
variable {Oc : Wd} {Ob : Addr -> Prop} {H H1 H2 : Hp} {v : V} {d : D} {md : Md}
theorem VR.same (h : VR md Oc Ob H H1 v d) (s : Same H1 H2) : VR md Oc Ob H H2 v d := by
 cases md with
 | cl => exact Rep.same h s
 | rd =>
  rcases h with h | ⟨a, ys, ds, e1, e2, e3, e4, e5⟩
  ·exact .inl (Rep.same h s)
  ·exact .inr ⟨a, ys, ds, e1, e2, s _ _ e3, e4, e5.same s⟩
 | any =>
  rcases h with h | ⟨a, ys, ds, e1, e2, e3, e5⟩
  ·exact .inl (Rep.same h s)
  ·exact .inr ⟨a, ys, ds, e1, e2, s _ _ e3, e5.same s⟩
 | new =>
  obtain ⟨a, ys, ds, e1, e2, e3, e4, e5⟩ := h
  exact ⟨a, ys, ds, e1, e2, e3, s _ _ e4, e5.same s⟩
theorem VR.from (h : VR md Oc Ob H1 H2 v d) (s : Same H H1) : VR md Oc Ob H H2 v d := by
 cases md with
 | new =>
  obtain ⟨a, ys, ds, e1, e2, e3, e4, e5⟩ := h
  exact ⟨a, ys, ds, e1, e2, s.free e3, e4, e5⟩
 | _ => exact h
theorem VR.clean (h : VR .new Oc Ob H H1 v d) (oh : ∀ a, Oc a \/ Ob a -> H a ≠ none) : VR .cl Oc Ob H H1 v d := by
 obtain ⟨a, ys, ds, rfl, rfl, e3, e4, e5⟩ := h
 exact .lst (.inl e4) (fun z => oh a z e3) (e5.less fun b z => .inl z)
theorem VR.va (h : VR md Oc Ob H H1 v d) (oh : ∀ a, Oc a \/ Ob a -> H a ≠ none) : VA Oc Ob H1 v d := by
 cases md with
 | cl => exact .inl h
 | rd =>
  rcases h with h | ⟨a, ys, ds, e1, e2, e3, e4, e5⟩
  ·exact .inl h
  ·exact .inr ⟨a, ys, ds, e1, e2, e3, e5⟩
 | any => exact h
 | new => exact .inl (VR.clean h oh)
theorem VA.dat {K : KFr} (h : VA Oc Ob H v d) (c : PyData.canLay0 d = true) : DatV K H v d := by
 rcases h with h | ⟨a, ys, ds, rfl, rfl, e3, e5⟩
 ·exact h.dat c
 ·exact .lst (SqL.of e3) (e5.dat c)
theorem VA.datS {K : KFr} (h : VA Oc Ob H v d) (c : SeqAt.shaped d = true) : DatV K H v d := h.dat (SeqAt.canLay_of_shaped c)
theorem VA.list {ds : List D} (h : VA Oc Ob H v (.list ds)) : ∃ a ys, v = .ref a /\ Rd H a (.lst ys) /\ Reps H (Uni Oc Ob) ys ds := by
 rcases h with h | ⟨a, ys, ds, rfl, e, e3, e5⟩
 ·cases h with
  | lst r n t => exact ⟨_, _, rfl, r, t⟩
 ·cases e
  exact ⟨a, ys, rfl, .inl e3, e5⟩
theorem VA.tuple {ds : List D} (h : VA Oc Ob H v (.tuple ds)) : ∃ a ys, v = .ref a /\ Rd H a (.tup ys) /\ Reps H (Uni Oc Ob) ys ds := by
 rcases h with h | ⟨a, ys, ds, rfl, e, e3, e5⟩
 ·cases h with
  | tup r n t => exact ⟨_, _, rfl, r, t⟩
 ·cases e
theorem VA.int {i : Int} (h : VA Oc Ob H v (.int i)) : v = .int i := by
 rcases h with h | ⟨a, ys, ds, rfl, e, e3, e5⟩
 ·cases h; rfl
 ·cases e
theorem VA.bool {i : Bool} (h : VA Oc Ob H v (.bool i)) : v = .bl i := by
 rcases h with h | ⟨a, ys, ds, rfl, e, e3, e5⟩
 ·cases h; rfl
 ·cases e
theorem VA.none (h : VA Oc Ob H v .none) : v = .non := by
 rcases h with h | ⟨a, ys, ds, rfl, e, e3, e5⟩
 ·cases h; rfl
 ·cases e
theorem VA.rep (h : VA Oc Ob H v d) : Rep H (fun _ => False) v d := by
 rcases h with h | ⟨a, ys, ds, rfl, rfl, e3, e5⟩
 ·exact h.less fun _ z => z.elim
 ·exact .lst (.inl e3) (fun z => z) (e5.less fun _ z => z.elim)
end
structure Ct where
 X : Cx
 XE : Str -> Hp -> Prop
 om : List Nat
 ln : List Nat
def RE (C : Ct) (md : Md) (e : Expr) (m : Ev -> Res D) : Prop :=
 ∃ t, PE C.X e t /\ ∀ (Oc : Wd) (Ob : Addr -> Prop) (σ : St) (H : Hp) (ρ : Ev) (Q : VK), Rel Oc Ob C.om C.ln σ H ρ ->
  (m ρ).post (fun d => ∀ v H', Same H H' -> VR md Oc Ob H H' v d -> Q v H') (fun c => ∀ H', Same H H' -> C.XE c H') -> t σ H Q
def RT (C : Ct) (e : Expr) (m : Ev -> Res Bool) : Prop :=
 ∃ t, PT C.X e t /\ ∀ (Oc : Wd) (Ob : Addr -> Prop) (σ : St) (H : Hp) (ρ : Ev) (Q : Bool -> Hp -> Prop), Rel Oc Ob C.om C.ln σ H ρ ->
  (m ρ).post (fun b => ∀ H', Same H H' -> Q b H') (fun c => ∀ H', Same H H' -> C.XE c H') -> t σ H Q
def RW (C : Ct) (e : Expr) (m : Ev -> Res Bool) : Prop :=
 ∃ t, PW C.X e t /\ ∀ (Oc : Wd) (Ob : Addr -> Prop) (σ : St) (H : Hp) (ρ : Ev) (Q : Bool -> Hp -> Prop), Rel Oc Ob C.om C.ln σ H ρ ->
  (m ρ).post (fun b => ∀ H', Same H H' -> Q b H') (fun c => ∀ H', Same H H' -> C.XE c H') -> t σ H Q
inductive Out where
 | nx (ρ : Ev)
 | rt (d : D)
def Frm (Ob : Addr -> Prop) (H H' : Hp) : Prop := ∀ b o, H b = some o -> ¬ Ob b -> H' b = some o
theorem Same.frm {Ob : Addr -> Prop} {H H' : Hp} (s : Same H H') : Frm Ob H H' := fun b o e _ => s b o e
def RetOk : Bool -> Wd -> (Addr -> Prop) -> Hp -> Hp -> V -> D -> Prop
 | true, Oc, Ob, H, H', v, d => ∃ a ys ds, v = .ref a /\ d = .list ds /\ (H a = none \/ Ob a) /\ ¬ Oc a /\ H' a = some (.lst ys) /\ Reps H' (fun b => Oc b \/ b = a) ys ds
 | false, Oc, _, _, H', v, d => Rep H' Oc.o v d
def SPost (C : Ct) (fr : Bool) (Oc : Wd) (Ob : Addr -> Prop) (H : Hp) (E : Ends) (r : Res Out) : Prop :=
 r.post (fun o => match o with
  | .nx ρ' => ∀ σ' H' Ob', Rel Oc Ob' C.om C.ln σ' H' ρ' -> Frm Ob H H' -> (∀ b, Ob' b -> Ob b \/ H b = none) -> E.nx σ' H'
  | .rt d => ∀ v H', Frm Ob H H' -> RetOk fr Oc Ob H H' v d -> E.rt v H') (fun c => ∀ H', Frm Ob H H' -> C.XE c H')
def RS (C : Ct) (fr : Bool) (st : Stmt) (m : Ev -> Res Out) : Prop :=
 ∃ t, PS C.X st t /\ ∀ (Oc : Wd) (Ob : Addr -> Prop) (σ : St) (H : Hp) (ρ : Ev) (E : Ends), Rel Oc Ob C.om C.ln σ H ρ -> SPost C fr Oc Ob H E (m ρ) -> t E σ H
def RSs (C : Ct) (fr : Bool) (st : List Stmt) (m : Ev -> Res Out) : Prop :=
 ∃ t, PSs C.X st t /\ ∀ (Oc : Wd) (Ob : Addr -> Prop) (σ : St) (H : Hp) (ρ : Ev) (E : Ends), Rel Oc Ob C.om C.ln σ H ρ -> SPost C fr Oc Ob H E (m ρ) -> t E σ H
section
variable {C : Ct} {fr : Bool} {Oc : Wd} {Ob Ob1 Ob2 : Addr -> Prop} {H H1 H2 : Hp} {E : Ends} {r : Res Out}
theorem Frm.trans (f : Frm Ob H H1) (s : ∀ b, Ob1 b -> Ob b \/ H b = none) (g : Frm Ob1 H1 H2) : Frm Ob H H2 := fun b o e n =>
 g b o (f b o e n) fun z => (s b z).elim n fun q => by rw [e] at q; cases q
theorem Frm.none (f : Frm Ob H H1) {b : Addr} (h : H1 b = none) : Ob b \/ H b = none := by
 by_cases n : Ob b
 ·exact .inl n
 ·cases e : H b with
  | none => exact .inr rfl
  | some o => rw [f b o e n] at h; cases h
theorem SPost.step (f : Frm Ob H H1) (s : ∀ b, Ob1 b -> Ob b \/ H b = none) (h : SPost C fr Oc Ob H E r) : SPost C fr Oc Ob1 H1 E r := by
 refine Res.zV h (fun o _ q => ?_) fun c q H' g => q H' (f.trans s g)
 cases o with
 | nx ρ' => exact fun σ' H' Ob' R g s' => q σ' H' Ob' R (f.trans s g) fun b z => (s' b z).elim (s b) fun z => f.none z
 | rt d =>
  refine fun v H' g k => q v H' (f.trans s g) ?_
  cases fr with
  | false => exact k
  | true =>
   obtain ⟨a, ys, ds, e1, e2, e3, e4, e5, e6⟩ := k
   refine ⟨a, ys, ds, e1, e2, ?_, e4, e5, e6⟩
   rcases e3 with e3 | e3
   ·exact (f.none e3).symm
   ·exact (s a e3).symm
theorem SPost.same (f : Same H H1) (h : SPost C fr Oc Ob H E r) : SPost C fr Oc Ob H1 E r := h.step (Same.frm f) fun b z => .inl z
end
end L2.L3
namespace L2.L3
open PySem PySem.Spec PyProof.Rows
variable [CN]
section
variable {C : Ct} {a b c e : Expr} {es : List Expr} {pos : Pos} {md mda mdb mdc : Md} {ma mb mc : Ev -> Res D}
theorem RE.cl (h : RE C .new e ma) : RE C .cl e ma := by
 obtain ⟨t, p, q⟩ := h
 exact ⟨t, p, fun Oc Ob σ H ρ Q R h => q Oc Ob σ H ρ Q R (Res.zV h (fun d _ k v H' s r => k v H' s (VR.clean r R.oh)) fun _ z => z)⟩
theorem RE.rd (h : RE C .cl e ma) : RE C .rd e ma := by
 obtain ⟨t, p, q⟩ := h
 exact ⟨t, p, fun Oc Ob σ H ρ Q R h => q Oc Ob σ H ρ Q R (Res.zV h (fun d _ k v H' s r => k v H' s (.inl r)) fun _ z => z)⟩
def eC (d : D) : Ev -> Res D := fun _ => .ok d
theorem zG {i j} : RE C .cl (.Constant (.int i) j pos) (eC (.int i)) := ⟨_, zK, fun Oc Ob σ H ρ Q R h => h _ H (Same.refl H) (Rep.int i)⟩
theorem jF {i j} : RE C .cl (.Constant (.bool i) j pos) (eC (.bool i)) := ⟨_, yL7, fun Oc Ob σ H ρ Q R h => h _ H (Same.refl H) (Rep.bl i)⟩
theorem vL {j} : RE C .cl (.Constant .none j pos) (eC .none) := ⟨_, vG, fun Oc Ob σ H ρ Q R h => h _ H (Same.refl H) Rep.non⟩
theorem yQ {i j} : RE C .cl (.Constant (.str i) j pos) (eC (.str i)) := ⟨_, yS6, fun Oc Ob σ H ρ Q R h => h _ H (Same.refl H) (Rep.str i)⟩
def eV (i : Nat) : Ev -> Res D := fun ρ => match ρ[i]? with
 | some (some d) => .ok d
 | _ => .no
theorem gW {i : Nat} {ρ : Ev} {Q : D -> Prop} {E : Str -> Prop} (h : (eV i ρ).post Q E) : ∃ d, ρ[i]? = some (some d) /\ Q d := by
 unfold eV at h
 split at h
 ·exact ⟨_, by assumption, h⟩
 ·exact h.elim
theorem xX {i : Nat} {l : List Nat} (h : l.contains i = false) : i ∉ l := by
 intro z
 rw [List.contains_iff_mem.mpr z] at h
 cases h
theorem jR {i : Nat} {l : List Nat} (h : l.contains i = true) : i ∈ l := List.contains_iff_mem.mp h
theorem zZ (i : Nat) {x : Str} (hN : autoParam (C.X.N[i]? = some x) zX._auto_1) (ho : autoParam (C.om.contains i = false) zX._auto_1) (hl : autoParam (C.ln.contains i = false) zX._auto_1) (hv : autoParam (Vis C.X.env.scope x) gX._auto_1) (hd : autoParam ((x == ("__debug__" : Str)) = false) zJ._auto_1)
  (hcd : autoParam ((x == ("__classdict__" : Str)) = false) zJ._auto_1) : RE C .cl (.Name x pos) (eV i) := by
 refine ⟨_, gZ hN hv hd hcd, fun Oc Ob σ H ρ Q R h => ?_⟩
 obtain ⟨d, e, k⟩ := gW h
 obtain ⟨v, q, r⟩ := R.val i d e (xX ho) (xX hl)
 exact ⟨v, q, k v H (Same.refl H) r⟩
theorem kR (i : Nat) {x : Str} (hN : autoParam (C.X.N[i]? = some x) zX._auto_1) (ho : autoParam (C.om.contains i = true) zX._auto_1) (hv : autoParam (Vis C.X.env.scope x) gX._auto_1) (hd : autoParam ((x == ("__debug__" : Str)) = false) zJ._auto_1)
  (hcd : autoParam ((x == ("__classdict__" : Str)) = false) zJ._auto_1) : RE C .any (.Name x pos) (eV i) := by
 refine ⟨_, gZ hN hv hd hcd, fun Oc Ob σ H ρ Q R h => ?_⟩
 obtain ⟨d, e, k⟩ := gW h
 obtain ⟨v, q, a, ys, ds, e1, e2, e3, e4, e5⟩ := R.own i d e (jR ho)
 exact ⟨v, q, k v H (Same.refl H) (.inr ⟨a, ys, ds, e1, e2, e3, e5⟩)⟩
theorem aE {x : Str} {i : Int} {u : Value} (hm : C.X.mg x = some u) (r : RelV (.int i) u) (hg : autoParam (Gl C.X x) zX._auto_1) (hd : autoParam ((x == ("__debug__" : Str)) = false) zJ._auto_1) : RE C .cl (.Name x pos) (eC (.int i)) :=
 ⟨_, dN hg hm r hd, fun Oc Ob σ H ρ Q R h => h _ H (Same.refl H) (Rep.int i)⟩
def e2 (f : D -> D -> Option D) (m n : Ev -> Res D) : Ev -> Res D := fun ρ => (m ρ).bind fun x => (n ρ).bind fun y => Res.lft (f x y)
def Pr2 (r : R2) (md : Md) (f : D -> D -> Option D) : Prop :=
 ∀ (Oc : Wd) (Ob : Addr -> Prop) (H : Hp) (x y : V) (dx dy d : D) (Q : VK), (∀ a, Oc a \/ Ob a -> H a ≠ none) -> VA Oc Ob H x dx -> VA Oc Ob H y dy -> f dx dy = some d -> (∀ v H', Same H H' -> VR md Oc Ob H H' v d -> Q v H') -> r x y H Q
theorem two {ta tb : TE} {f : D -> D -> Option D} {r : R2} (ha : ∀ (Oc : Wd) (Ob : Addr -> Prop) (σ : St) (H : Hp) (ρ : Ev) (Q : VK), Rel Oc Ob C.om C.ln σ H ρ -> (ma ρ).post (fun d => ∀ v H', Same H H' -> VR mda Oc Ob H H' v d -> Q v H') (fun c => ∀ H', Same H H' -> C.XE c H') -> ta σ H Q)
  (hb : ∀ (Oc : Wd) (Ob : Addr -> Prop) (σ : St) (H : Hp) (ρ : Ev) (Q : VK), Rel Oc Ob C.om C.ln σ H ρ -> (mb ρ).post (fun d => ∀ v H', Same H H' -> VR mdb Oc Ob H H' v d -> Q v H') (fun c => ∀ H', Same H H' -> C.XE c H') -> tb σ H Q) (hp : Pr2 r md f)
  {Oc : Wd} {Ob : Addr -> Prop} {σ : St} {H : Hp} {ρ : Ev} {Q : VK} (R : Rel Oc Ob C.om C.ln σ H ρ) (h : (e2 f ma mb ρ).post (fun d => ∀ v H', Same H H' -> VR md Oc Ob H H' v d -> Q v H') (fun c => ∀ H', Same H H' -> C.XE c H')) :
  ta σ H fun x H1 => tb σ H1 fun y H2 => r x y H2 Q := by
 refine ha Oc Ob σ H ρ _ R (Res.zV (Res.zW h) (fun dx _ q x H1 s1 vx => ?_) fun _ z => z)
 refine hb Oc Ob σ H1 ρ _ (R.same s1) (Res.zV (Res.zW q) (fun dy _ q y H2 s2 vy => ?_) fun c z H' s' => z H' (s1.trans s'))
 obtain ⟨d, e, q⟩ := Res.zA q
 have oh2 := ((R.same s1).same s2).oh
 refine hp Oc Ob H2 x y dx dy d Q oh2 ((vx.same s2).va R.oh) (vy.va (R.same s1).oh) e fun v H' s3 r => ?_
 exact q v H' ((s1.trans s2).trans s3) (r.from (s1.trans s2))
theorem wF {op : Operator} {r : R2} {f : D -> D -> Option D} (ho : OpR C.X (binaryOp op) r) (hp : Pr2 r md f) (ha : RE C mda a ma) (hb : RE C mdb b mb) : RE C md (.BinOp a op b pos) (e2 f ma mb) := by
 obtain ⟨ta, pa, qa⟩ := ha
 obtain ⟨tb, pb, qb⟩ := hb
 exact ⟨_, yA ho pa pb, fun Oc Ob σ H ρ Q R h => two qa qb hp R h⟩
theorem yM {r : R2} {f : D -> D -> Option D} (ho : IxR C.X r) (hp : Pr2 r md f) (ha : RE C mda a ma) (hb : RE C mdb b mb) (hs : autoParam (PlainIx b) yM1._auto_1) : RE C md (.Subscript a b pos) (e2 f ma mb) := by
 obtain ⟨ta, pa, qa⟩ := ha
 obtain ⟨tb, pb, qb⟩ := hb
 exact ⟨_, xY ho pa pb hs, fun Oc Ob σ H ρ Q R h => two qa qb hp R h⟩
def PrB (r : R2) (f : D -> D -> Option Bool) : Prop :=
 ∀ (Oc : Wd) (Ob : Addr -> Prop) (H : Hp) (x y : V) (dx dy : D) (k : Bool) (Q : VK), VA Oc Ob H x dx -> VA Oc Ob H y dy -> f dx dy = some k -> Q (.bl k) H -> r x y H Q
def bD (o : Option Bool) : Option D := o.map PyData.bool
theorem PrB.pr {r : R2} {f : D -> D -> Option Bool} (h : PrB r f) : Pr2 r .cl (fun x y => bD (f x y)) := by
 intro Oc Ob H x y dx dy d Q oh vx vy e k
 cases ef : f dx dy with
 | none => simp only [ef] at e; cases e
 | some b =>
  simp only [ef] at e
  cases e
  exact h Oc Ob H x y dx dy b Q vx vy ef (k _ H (Same.refl H) (Rep.bl b))
theorem zJ9 {op : CmpOp} {r : R2} {f : D -> D -> Option Bool} (ho : OpR C.X (compareOp op) r) (hp : PrB r f) (ha : RE C mda a ma) (hb : RE C mdb b mb) (hm : autoParam (behindInMarks op b = false) zR2._auto_1) : RE C .cl (.Compare a [op] [b] pos) (e2 (fun x y => bD (f x y)) ma mb) := by
 obtain ⟨ta, pa, qa⟩ := ha
 obtain ⟨tb, pb, qb⟩ := hb
 exact ⟨_, zT1 ho pa pb hm, fun Oc Ob σ H ρ Q R h => two qa qb hp.pr R h⟩
def b2 (f : D -> D -> Option Bool) (m n : Ev -> Res D) : Ev -> Res Bool := fun ρ => (m ρ).bind fun x => (n ρ).bind fun y => Res.lft (f x y)
theorem yQ8 {f : D -> D -> Option Bool} {ρ : Ev} {Q : Bool -> Hp -> Prop} {H : Hp} {E : Str -> Prop} {Oc : Wd} {Ob : Addr -> Prop} (h : (b2 f ma mb ρ).post (fun b => ∀ H', Same H H' -> Q b H') E) :
  (e2 (fun x y => bD (f x y)) ma mb ρ).post (fun d => ∀ v H', Same H H' -> VR .cl Oc Ob H H' v d -> ∃ k, v = .bl k /\ Q k H') E := by
 unfold e2
 unfold b2 at h
 cases ea : ma ρ with
 | no => rw [ea] at h; exact h
 | ex c => rw [ea] at h; exact h
 | ok x =>
  rw [ea] at h
  simp only [Res.bind_ok] at h ⊢
  cases eb : mb ρ with
  | no => rw [eb] at h; exact h
  | ex c => rw [eb] at h; exact h
  | ok y =>
   rw [eb] at h
   simp only [Res.bind_ok] at h ⊢
   obtain ⟨k, ek, q⟩ := Res.zA h
   rw [ek]
   intro v H' s r
   have : v = .bl k := by cases r; rfl
   exact ⟨k, this, q H' s⟩
theorem zD {op : CmpOp} {r : R2} {f : D -> D -> Option Bool} (ho : OpR C.X (compareOp op) r) (hp : PrB r f) (ha : RE C mda a ma) (hb : RE C mdb b mb) (hm : autoParam (behindInMarks op b = false) zR2._auto_1) : RT C (.Compare a [op] [b] pos) (b2 f ma mb) := by
 obtain ⟨ta, pa, qa⟩ := ha
 obtain ⟨tb, pb, qb⟩ := hb
 exact ⟨_, yH ho pa pb hm, fun Oc Ob σ H ρ Q R h => two qa qb hp.pr R (yQ8 h)⟩
def b3 (f g : D -> D -> Option Bool) (m n o : Ev -> Res D) : Ev -> Res Bool := fun ρ => (m ρ).bind fun x => (n ρ).bind fun y => (Res.lft (f x y)).bind fun k => if k then (o ρ).bind fun z => Res.lft (g y z) else .ok false
theorem chain3 {ta tb tc : TE} {f g : D -> D -> Option Bool} {r r' : R2} (ha : ∀ (Oc : Wd) (Ob : Addr -> Prop) (σ : St) (H : Hp) (ρ : Ev) (Q : VK), Rel Oc Ob C.om C.ln σ H ρ -> (ma ρ).post (fun d => ∀ v H', Same H H' -> VR mda Oc Ob H H' v d -> Q v H') (fun c => ∀ H', Same H H' -> C.XE c H') -> ta σ H Q)
  (hb : ∀ (Oc : Wd) (Ob : Addr -> Prop) (σ : St) (H : Hp) (ρ : Ev) (Q : VK), Rel Oc Ob C.om C.ln σ H ρ -> (mb ρ).post (fun d => ∀ v H', Same H H' -> VR mdb Oc Ob H H' v d -> Q v H') (fun c => ∀ H', Same H H' -> C.XE c H') -> tb σ H Q)
  (hc : ∀ (Oc : Wd) (Ob : Addr -> Prop) (σ : St) (H : Hp) (ρ : Ev) (Q : VK), Rel Oc Ob C.om C.ln σ H ρ -> (mc ρ).post (fun d => ∀ v H', Same H H' -> VR mdc Oc Ob H H' v d -> Q v H') (fun c => ∀ H', Same H H' -> C.XE c H') -> tc σ H Q) (hp : PrB r f) (hp' : PrB r' g)
  {Oc : Wd} {Ob : Addr -> Prop} {σ : St} {H : Hp} {ρ : Ev} {Q : VK} (R : Rel Oc Ob C.om C.ln σ H ρ) (h : (b3 f g ma mb mc ρ).post (fun d => ∀ H', Same H H' -> Q (.bl d) H') (fun c => ∀ H', Same H H' -> C.XE c H')) :
  tChain r r' ta tb tc σ H Q := by
 refine ha Oc Ob σ H ρ _ R (Res.zV (Res.zW h) (fun dx _ q x H1 s1 vx => ?_) fun _ z => z)
 refine hb Oc Ob σ H1 ρ _ (R.same s1) (Res.zV (Res.zW q) (fun dy _ q y H2 s2 vy => ?_) fun c z H' s' => z H' (s1.trans s'))
 obtain ⟨k, e, q⟩ := Res.zA (Res.zW q)
 have R2 := (R.same s1).same s2
 refine hp Oc Ob H2 x y dx dy k _ ((vx.same s2).va R.oh) (vy.va (R.same s1).oh) e ⟨k, rfl, ?_⟩
 cases k with
 | false => exact iteF (q H2 (s1.trans s2))
 | true =>
  refine iteT (hc Oc Ob σ H2 ρ _ R2 (Res.zV (Res.zW q) (fun dz _ q z H3 s3 vz => ?_) fun c z H' s' => z H' ((s1.trans s2).trans s')))
  obtain ⟨k, e, q⟩ := Res.zA q
  exact hp' Oc Ob H3 y z dy dz k _ ((vy.same s3).va (R.same s1).oh) (vz.va R2.oh) e (q H3 ((s1.trans s2).trans s3))
theorem bB {op op' : CmpOp} {r r' : R2} {f g : D -> D -> Option Bool} (ho : OpR C.X (compareOp op) r) (ho' : OpR C.X (compareOp op') r') (hp : PrB r f) (hp' : PrB r' g) (ha : RE C mda a ma) (hb : RE C mdb b mb) (hc : RE C mdc c mc)
  (hm : autoParam (lastMarks [op, op'] [b, c] = false) dQ._auto_1) : RT C (.Compare a [op, op'] [b, c] pos) (b3 f g ma mb mc) := by
 obtain ⟨ta, pa, qa⟩ := ha
 obtain ⟨tb, pb, qb⟩ := hb
 obtain ⟨tc, pc, qc⟩ := hc
 exact ⟨_, zG8 ho ho' pa pb pc hm, fun Oc Ob σ H ρ Q R h => chain3 qa qb qc hp hp' R (Res.zV h (fun b _ q H' s => ⟨b, rfl, q H' s⟩) fun _ z => z)⟩
def vB (m : Ev -> Res Bool) : Ev -> Res D := fun ρ => (m ρ).bind fun b => .ok (.bool b)
theorem zH3 {op op' : CmpOp} {r r' : R2} {f g : D -> D -> Option Bool} (ho : OpR C.X (compareOp op) r) (ho' : OpR C.X (compareOp op') r') (hp : PrB r f) (hp' : PrB r' g) (ha : RE C mda a ma) (hb : RE C mdb b mb) (hc : RE C mdc c mc)
  (hm : autoParam (lastMarks [op, op'] [b, c] = false) dQ._auto_1) : RE C .cl (.Compare a [op, op'] [b, c] pos) (vB (b3 f g ma mb mc)) := by
 obtain ⟨ta, pa, qa⟩ := ha
 obtain ⟨tb, pb, qb⟩ := hb
 obtain ⟨tc, pc, qc⟩ := hc
 exact ⟨_, zD1 ho ho' pa pb pc hm, fun Oc Ob σ H ρ Q R h => chain3 qa qb qc hp hp' R (Res.zV (Res.zW h) (fun b _ q H' s => q _ H' s (Rep.bl b)) fun _ z => z)⟩
variable {ta' tb' : Ev -> Res Bool} {rest : List Expr}
def isB : D -> Option Bool
 | .bool b => some b
 | _ => none
def tV (m : Ev -> Res D) : Ev -> Res Bool := fun ρ => (m ρ).bind fun d => Res.lft (isB d)
theorem zG5 {d : D} {b : Bool} (h : isB d = some b) : d = .bool b := by
 cases d <;> simp [isB] at h ⊢
 exact h
theorem kE (h : RE C md a ma) (he : autoParam (∀ whole, isTrue a C.X.env whole = (do let v <- whole; standAt a.pos; holding [v] (truthy v))) xD._auto_1) : RT C a (tV ma) := by
 obtain ⟨t, p, q⟩ := h
 refine ⟨_, zM9 p he, fun Oc Ob σ H ρ Q R h => q Oc Ob σ H ρ _ R (Res.zV (Res.zW h) (fun d _ k v H' s r => ?_) fun _ z => z)⟩
 obtain ⟨b, e, k⟩ := Res.zA k
 obtain rfl := zG5 e
 exact ⟨b, (r.va R.oh).bool, k H' s⟩
def tNt (m : Ev -> Res Bool) : Ev -> Res Bool := fun ρ => (m ρ).bind fun b => .ok (!b)
theorem qC (h : RT C a ta') : RT C (.UnaryOp .Not a pos) (tNt ta') := by
 obtain ⟨t, p, q⟩ := h
 exact ⟨_, yR1 p, fun Oc Ob σ H ρ Q R h => q Oc Ob σ H ρ _ R (Res.zV (Res.zW h) (fun d _ k => k) fun _ z => z)⟩
def tAn (m n : Ev -> Res Bool) : Ev -> Res Bool := fun ρ => (m ρ).bind fun b => if b then n ρ else .ok false
def tO (m n : Ev -> Res Bool) : Ev -> Res Bool := fun ρ => (m ρ).bind fun b => if b then .ok true else n ρ
theorem rw_and1 (h : RT C a ta') : RW C (.BoolOp .And [a] pos) ta' := by
 obtain ⟨t, p, q⟩ := h
 exact ⟨_, pw_and1 p, q⟩
theorem rw_or1 (h : RT C a ta') : RW C (.BoolOp .Or [a] pos) ta' := by
 obtain ⟨t, p, q⟩ := h
 exact ⟨_, pw_or1 p, q⟩
theorem rw_and (ha : RT C a ta') (hb : RW C (.BoolOp .And (b :: rest) pos) tb') : RW C (.BoolOp .And (a :: b :: rest) pos) (tAn ta' tb') := by
 obtain ⟨t, p, q⟩ := ha
 obtain ⟨t', p', q'⟩ := hb
 refine ⟨_, pw_and p p', fun Oc Ob σ H ρ Q R h => q Oc Ob σ H ρ _ R (Res.zV (Res.zW h) (fun b _ k H' s => ?_) fun _ z => z)⟩
 cases b with
 | true => exact iteT (q' Oc Ob σ H' ρ Q (R.same s) (Res.zV k (fun b _ k H2 s2 => k H2 (s.trans s2)) fun c z H2 s2 => z H2 (s.trans s2)))
 | false => exact iteF (k H' s)
theorem rw_or (ha : RT C a ta') (hb : RW C (.BoolOp .Or (b :: rest) pos) tb') : RW C (.BoolOp .Or (a :: b :: rest) pos) (tO ta' tb') := by
 obtain ⟨t, p, q⟩ := ha
 obtain ⟨t', p', q'⟩ := hb
 refine ⟨_, pw_or p p', fun Oc Ob σ H ρ Q R h => q Oc Ob σ H ρ _ R (Res.zV (Res.zW h) (fun b _ k H' s => ?_) fun _ z => z)⟩
 cases b with
 | false => exact iteF (q' Oc Ob σ H' ρ Q (R.same s) (Res.zV k (fun b _ k H2 s2 => k H2 (s.trans s2)) fun c z H2 s2 => z H2 (s.trans s2)))
 | true => exact iteT (k H' s)
theorem RW.rt (h : RW C a ta') : RT C a ta' := by
 obtain ⟨t, p, q⟩ := h
 exact ⟨_, p.pt, q⟩
def vAn (m n : Ev -> Res D) : Ev -> Res D := fun ρ => (m ρ).bind fun d => (Res.lft (isB d)).bind fun b => if b then n ρ else .ok (.bool false)
def vO (m n : Ev -> Res D) : Ev -> Res D := fun ρ => (m ρ).bind fun d => (Res.lft (isB d)).bind fun b => if b then .ok (.bool true) else n ρ
def vNt (m : Ev -> Res D) : Ev -> Res D := fun ρ => (m ρ).bind fun d => (Res.lft (isB d)).bind fun b => .ok (.bool (!b))
def eIf (m : Ev -> Res Bool) (n o : Ev -> Res D) : Ev -> Res D := fun ρ => (m ρ).bind fun b => if b then n ρ else o ρ
def e1 (f : D -> Option D) (m : Ev -> Res D) : Ev -> Res D := fun ρ => (m ρ).bind fun x => Res.lft (f x)
def negD : D -> Option D
 | .int i => some (.int (-i))
 | _ => none
end
inductive VAs (Oc : Wd) (Ob : Addr -> Prop) (H : Hp) : List V -> List D -> Prop
 | nil : VAs Oc Ob H [] []
 | cons {v : V} {d : D} {vs : List V} {ds : List D} : VA Oc Ob H v d -> VAs Oc Ob H vs ds -> VAs Oc Ob H (v :: vs) (d :: ds)
section
variable {Oc : Wd} {Ob : Addr -> Prop} {H H' : Hp}
theorem VAs.rep : ∀ {vs : List V} {ds : List D}, VAs Oc Ob H vs ds -> Reps H (fun _ => False) vs ds
 | _, _, .nil => .nil
 | _, _, .cons h t => .cons h.rep (VAs.rep t)
theorem VA.same {v : V} {d : D} (h : VA Oc Ob H v d) (s : Same H H') : VA Oc Ob H' v d := VR.same (md := .any) (H := H) h s
end
def VQ : Bool -> Wd -> (Addr -> Prop) -> Hp -> List V -> List D -> Prop
 | true, Oc, Ob, H, vs, ds => Reps H (Uni Oc Ob) vs ds
 | false, Oc, Ob, H, vs, ds => VAs Oc Ob H vs ds
def RArg (C : Ct) (cl : Bool) (es : List Expr) (m : Ev -> Res (List D)) : Prop :=
 ∃ t, PA C.X es t /\ ∀ (Oc : Wd) (Ob : Addr -> Prop) (σ : St) (H : Hp) (ρ : Ev) (Q : List V -> Hp -> Prop), Rel Oc Ob C.om C.ln σ H ρ ->
  (m ρ).post (fun ds => ∀ vs H', Same H H' -> VQ cl Oc Ob H' vs ds -> Q vs H') (fun c => ∀ H', Same H H' -> C.XE c H') -> t σ H Q
section
variable {C : Ct} {a b c e : Expr} {es : List Expr} {pos p : Pos} {md mda mdb mdc : Md} {ma mb mc : Ev -> Res D} {ms : Ev -> Res (List D)} {cl : Bool}
def aN : Ev -> Res (List D) := fun _ => .ok []
def aC (m : Ev -> Res D) (n : Ev -> Res (List D)) : Ev -> Res (List D) := fun ρ => (m ρ).bind fun x => (n ρ).bind fun xs => .ok (x :: xs)
theorem zQ : RArg C cl [] aN := ⟨_, zO, fun Oc Ob σ H ρ Q R h => h [] H (Same.refl H) (by cases cl; exact VAs.nil; exact Reps.nil)⟩
theorem zS (ha : RE C .cl e ma) (hr : RArg C true es ms) (hs : autoParam (starEach (e :: es) C.X.env = (false, eval e C.X.env) :: starEach es C.X.env) zX._auto_1) : RArg C true (e :: es) (aC ma ms) := by
 obtain ⟨t, p, q⟩ := ha
 obtain ⟨t', p', q'⟩ := hr
 refine ⟨_, zY p p' hs, fun Oc Ob σ H ρ Q R h => q Oc Ob σ H ρ _ R (Res.zV (Res.zW h) (fun d _ k v H' s r => ?_) fun _ z => z)⟩
 refine q' Oc Ob σ H' ρ _ (R.same s) (Res.zV (Res.zW k) (fun ds _ k vs H2 s2 r2 => ?_) fun c z H2 s2 => z H2 (s.trans s2))
 exact k _ H2 (s.trans s2) (Reps.cons (r.same s2) r2)
theorem zL (ha : RE C md e ma) (hr : RArg C false es ms) (hs : autoParam (starEach (e :: es) C.X.env = (false, eval e C.X.env) :: starEach es C.X.env) zX._auto_1) : RArg C false (e :: es) (aC ma ms) := by
 obtain ⟨t, p, q⟩ := ha
 obtain ⟨t', p', q'⟩ := hr
 refine ⟨_, zY p p' hs, fun Oc Ob σ H ρ Q R h => q Oc Ob σ H ρ _ R (Res.zV (Res.zW h) (fun d _ k v H' s r => ?_) fun _ z => z)⟩
 refine q' Oc Ob σ H' ρ _ (R.same s) (Res.zV (Res.zW k) (fun ds _ k vs H2 s2 r2 => ?_) fun c z H2 s2 => z H2 (s.trans s2))
 exact k _ H2 (s.trans s2) (VAs.cons ((r.va R.oh).same s2) r2)
def mkL (ds : List D) : Option D := if ds.length <= sizeLine then some (.list ds) else none
def mkT (ds : List D) : Option D := if ds.length <= sizeLine then some (.tuple ds) else none
def eB (f : List D -> Option D) (m : Ev -> Res (List D)) : Ev -> Res D := fun ρ => (m ρ).bind fun ds => Res.lft (f ds)
theorem xA {Oc : Wd} {Ob : Addr -> Prop} {H H1 : Hp} {p : Addr} {vs : List V} {ds : List D} (s : Same H H1) (hp : H1 p = none) (r : Reps H1 (Uni Oc Ob) vs ds) : VR .new Oc Ob H (upd H1 p (.lst vs)) (.ref p) (.list ds) :=
 ⟨p, vs, ds, rfl, rfl, s.free hp, zU, r.keep (fun b o e _ => by rw [zT (yN e hp)]; exact e) fun b n z => z.elim id fun z => by subst z; exact absurd hp n⟩
theorem jP {Oc : Wd} {Ob : Addr -> Prop} {H1 : Hp} {p : Addr} {vs : List V} {ds : List D} (oh : ∀ a, Oc a \/ Ob a -> H1 a ≠ none) (hp : H1 p = none) (r : Reps H1 (Uni Oc Ob) vs ds) : Rep (upd H1 p (.tup vs)) (Uni Oc Ob) (.ref p) (.tuple ds) :=
 .tup (.inl zU) (fun z => oh p z hp) (r.same (Same.new hp))
theorem yO (h : RArg C true es ms) : RE C .new (.List es pos) (eB mkL ms) := by
 obtain ⟨t, p, q⟩ := h
 refine ⟨_, xO p, fun Oc Ob σ H ρ Q R h => q Oc Ob σ H ρ _ R (Res.zV (Res.zW h) (fun ds _ k vs H' s r => ?_) fun _ z => z)⟩
 obtain ⟨d, e, k⟩ := Res.zA k
 unfold mkL at e
 split at e
 ·rename_i hl
  cases e
  exact ⟨by rw [Reps.length r]; exact hl, fun p hp => k _ _ (s.trans (Same.new hp)) (xA s hp r)⟩
 ·cases e
theorem zY5 {x1} (h : RArg C true es ms) : RE C .cl (.Tuple es x1 pos) (eB mkT ms) := by
 obtain ⟨t, p, q⟩ := h
 refine ⟨_, vW p, fun Oc Ob σ H ρ Q R h => q Oc Ob σ H ρ _ R (Res.zV (Res.zW h) (fun ds _ k vs H' s r => ?_) fun _ z => z)⟩
 obtain ⟨d, e, k⟩ := Res.zA k
 unfold mkT at e
 split at e
 ·rename_i hl
  cases e
  exact ⟨by rw [Reps.length r]; exact hl, fun p hp => k _ _ (s.trans (Same.new hp)) (jP (R.same s).oh hp r)⟩
 ·cases e
def PrC (r : List V -> Hp -> VK -> Prop) (md : Md) (f : List D -> Option D) : Prop :=
 ∀ (Oc : Wd) (Ob : Addr -> Prop) (H : Hp) (vs : List V) (ds : List D) (d : D) (Q : VK), (∀ a, Oc a \/ Ob a -> H a ≠ none) -> VAs Oc Ob H vs ds -> f ds = some d -> (∀ v H', Same H H' -> VR md Oc Ob H H' v d -> Q v H') -> r vs H Q
theorem bQ {t : TA} {r : List V -> Hp -> VK -> Prop} {f : List D -> Option D} (q : ∀ (Oc : Wd) (Ob : Addr -> Prop) (σ : St) (H : Hp) (ρ : Ev) (Q : List V -> Hp -> Prop), Rel Oc Ob C.om C.ln σ H ρ ->
  (ms ρ).post (fun ds => ∀ vs H', Same H H' -> VQ false Oc Ob H' vs ds -> Q vs H') (fun c => ∀ H', Same H H' -> C.XE c H') -> t σ H Q) (hp : PrC r md f)
  {Oc : Wd} {Ob : Addr -> Prop} {σ : St} {H : Hp} {ρ : Ev} {Q : VK} (R : Rel Oc Ob C.om C.ln σ H ρ) (h : (eB f ms ρ).post (fun d => ∀ v H', Same H H' -> VR md Oc Ob H H' v d -> Q v H') (fun c => ∀ H', Same H H' -> C.XE c H')) : tCB r t σ H Q := by
 refine q Oc Ob σ H ρ _ R (Res.zV (Res.zW h) (fun ds _ k vs H' s r => ?_) fun _ z => z)
 obtain ⟨d, e, k⟩ := Res.zA k
 exact hp Oc Ob H' vs ds d Q (R.same s).oh r e fun v H2 s2 r2 => k v H2 (s.trans s2) (r2.from s)
theorem yU {x : Str} {id : String} {r : List V -> Hp -> VK -> Prop} {f : List D -> Option D} (hc : CallR C.X (.builtin id) r) (hp : PrC r md f) (hm : C.X.mg x = none) (hv : bootBuiltins x = some (.builtin id)) (ha : RArg C false (e :: es) ms) (hg : autoParam (Gl C.X x) zX._auto_1) (hn : autoParam (x ≠ "__name__") zJ._auto_1) (hdb : autoParam ((x == ("__debug__" : Str)) = false) zJ._auto_1)
  (he : autoParam (starEach (e :: es) C.X.env = (false, eval e C.X.env) :: starEach es C.X.env) zX._auto_1) (hpl : autoParam ((backTo pos (starEach es C.X.env)).any (·.1) = false) zX._auto_1) : RE C md (.Call (.Name x p) (e :: es) [] pos) (eB f ms) := by
 obtain ⟨t, pa, q⟩ := ha
 exact ⟨_, vS hc hg hm hv pa hn hdb he hpl, fun Oc Ob σ H ρ Q R h => bQ q hp R h⟩
theorem yC {x : Str} {T : String} {r : List V -> Hp -> VK -> Prop} {f : List D -> Option D} (hc : CallR C.X (.type T) r) (hp : PrC r md f) (hm : C.X.mg x = none) (hv : bootBuiltins x = some (.type T)) (ha : RArg C false (e :: es) ms) (hg : autoParam (Gl C.X x) zX._auto_1) (hn : autoParam (x ≠ "__name__") zJ._auto_1) (hdb : autoParam ((x == ("__debug__" : Str)) = false) zJ._auto_1)
  (he : autoParam (starEach (e :: es) C.X.env = (false, eval e C.X.env) :: starEach es C.X.env) zX._auto_1) (hpl : autoParam ((backTo pos (starEach es C.X.env)).any (·.1) = false) zX._auto_1) : RE C md (.Call (.Name x p) (e :: es) [] pos) (eB f ms) := by
 obtain ⟨t, pa, q⟩ := ha
 exact ⟨_, wU hc hg hm hv pa hn hdb he hpl, fun Oc Ob σ H ρ Q R h => bQ q hp R h⟩
def Walks (Oc : Wd) (Ob : Addr -> Prop) (J : It) (H1 : Hp) (ds : List D) : Prop :=
 ∀ (H2 : Hp) (Ob2 : Addr -> Prop), Frm Ob H1 H2 -> (∀ b, Ob2 b -> Ob b \/ H1 b = none) -> ∀ i, (∀ d, ds[i]? = some d -> J.go i H2 /\ ∀ x H3, J.yld i H2 x H3 -> Same H2 H3 /\ Rep H3 (Uni Oc Ob2) x d) /\ (ds.length <= i -> J.stop i H2)
def RI (C : Ct) (tg iter : Expr) (m : Ev -> Res (List D)) : Prop :=
 ∃ wi, PI C.X tg iter wi /\ ∀ (Oc : Wd) (Ob : Addr -> Prop) (σ : St) (H : Hp) (ρ : Ev) (R : It -> Hp -> Prop), Rel Oc Ob C.om C.ln σ H ρ ->
  (m ρ).post (fun ds => ∀ J H1, Same H H1 -> Walks Oc Ob J H1 ds -> R J H1) (fun c => ∀ H', Same H H' -> C.XE c H') -> wi σ H R
def iSeq (K : KFr) (tl : TE) : TI := fun σ H R => tl σ H fun x H1 => ∃ a, x = .ref a /\ (((∃ xs, SqL K H1 a xs) /\ R (Itl K a) H1) \/ ((∃ xs, SqT K H1 a xs) /\ R (Itt K a) H1))
theorem yR4 {X : Cx} {tg l : Expr} {tl : TE} (hl : PE X l tl) : PI X tg l (iSeq X.K tl) := by
 intro pins s σ H R I h
 refine thn (hl pins s σ H _ I h) fun v s1 ⟨x, H1, I1, r1, q1⟩ => ?_
 obtain ⟨a, e, q1⟩ := q1
 subst e
 cases r1
 rcases q1 with ⟨⟨xs, hq⟩, q⟩ | ⟨⟨xs, hq⟩, q⟩
 ·obtain ⟨its, rv, p, hz⟩ := I1.list hq
  refine wpAny_pyIter_list p.isList ?_
  refine ⟨s1.heap.objs.size, [s1.heap.objs.size], _, _, H1, rfl, I1.kept (t' := s1.toks) fun b o e => Heap.get?_push_of_some _ e, zM4 a _, ⟨_, Heap.get?_push_size _ rfl, rfl, rfl⟩, fun b hb => ?_, q⟩
  have e : b = s1.heap.objs.size := by simpa using hb
  subst e
  exact I1.fpOk (Nat.le_refl _) (I1.hok.fresh (Nat.le_refl _))
 ·obtain ⟨its, rv, p, hz⟩ := I1.tuple hq
  refine wpAny_pyIter_tuple (show s1.heap.IsTuple a its.toArray from p) ?_
  refine ⟨s1.heap.objs.size, [s1.heap.objs.size], _, _, H1, rfl, I1.kept (t' := s1.toks) fun b o e => Heap.get?_push_of_some _ e, zP8 a _, ⟨_, Heap.get?_push_size _ rfl, rfl, rfl⟩, fun b hb => ?_, q⟩
  have e : b = s1.heap.objs.size := by simpa using hb
  subst e
  exact I1.fpOk (Nat.le_refl _) (I1.hok.fresh (Nat.le_refl _))
def seqD : D -> Option (List D)
 | .list ds => some ds
 | .tuple ds => some ds
 | _ => none
def iS (m : Ev -> Res D) : Ev -> Res (List D) := fun ρ => (m ρ).bind fun d => Res.lft (seqD d)
theorem Reps.step {Oc : Wd} {Ob Ob2 : Addr -> Prop} {H1 H2 : Hp} {vs : List V} {ds : List D} (r : Reps H1 (Uni Oc Ob) vs ds) (f : Frm Ob H1 H2) (s : ∀ b, Ob2 b -> Ob b \/ H1 b = none) : Reps H2 (Uni Oc Ob2) vs ds :=
 r.keep (fun b o e n => f b o e fun z => n (.inr z)) fun b n z => z.elim .inl fun z => (s b z).elim .inr fun q => absurd q n
end
theorem fJ {K : KFr} {Oc : Wd} {Ob : Addr -> Prop} {H1 : Hp} {a : Addr} {ys : List V} {ds : List D} (r : Rd H1 a (.lst ys)) (n : ¬ Ob a) (rs : Reps H1 (Uni Oc Ob) ys ds) : Walks Oc Ob (Itl K a) H1 ds := by
 intro H2 Ob2 f s i
 have r2 : Rd H2 a (.lst ys) := xJ r fun o e => f a o e n
 have rs2 := rs.step f s
 refine ⟨fun d e => ?_, fun h => ⟨ys, .inl r2, by rw [rs2.length]; exact h⟩⟩
 obtain ⟨v, ev, rv⟩ := rs2.get e
 refine ⟨⟨ys, v, .inl r2, ev⟩, fun x H3 hy => ?_⟩
 obtain ⟨rfl, hy⟩ := hy
 have := hy ys (.inl r2)
 rw [ev] at this
 cases this
 exact ⟨Same.refl _, rv⟩
theorem zX4 {K : KFr} {Oc : Wd} {Ob : Addr -> Prop} {H1 : Hp} {a : Addr} {ys : List V} {ds : List D} (r : Rd H1 a (.tup ys)) (n : ¬ Ob a) (rs : Reps H1 (Uni Oc Ob) ys ds) : Walks Oc Ob (Itt K a) H1 ds := by
 intro H2 Ob2 f s i
 have r2 : Rd H2 a (.tup ys) := xJ r fun o e => f a o e n
 have rs2 := rs.step f s
 refine ⟨fun d e => ?_, fun h => ⟨ys, .inl r2, by rw [rs2.length]; exact h⟩⟩
 obtain ⟨v, ev, rv⟩ := rs2.get e
 refine ⟨⟨ys, v, .inl r2, ev⟩, fun x H3 hy => ?_⟩
 obtain ⟨rfl, hy⟩ := hy
 have := hy ys (.inl r2)
 rw [ev] at this
 cases this
 exact ⟨Same.refl _, rv⟩
theorem zX7 {Oc : Wd} {Ob : Addr -> Prop} {H1 : Hp} {lo : Int} {n : Nat} {ds : List D} (e : ds = (List.range n).map fun (i : Nat) => PyData.int (lo + (i : Int))) : Walks Oc Ob (Itr lo n) H1 ds := by
 intro H2 Ob2 f s i
 subst e
 refine ⟨fun d e => ?_, fun h => by show n <= i; simpa using h⟩
 rw [List.getElem?_map] at e
 by_cases hi : i < n
 ·rw [List.getElem?_range hi] at e
  cases e
  refine ⟨hi, fun x H3 hy => ?_⟩
  obtain ⟨rfl, rfl⟩ := hy
  exact ⟨Same.refl _, .int _⟩
 ·rw [List.getElem?_eq_none (by simpa using hi)] at e
  cases e
section
variable {C : Ct} {a b c e : Expr} {es : List Expr} {pos p : Pos} {md mda mdb mdc : Md} {ma mb mc : Ev -> Res D} {ms : Ev -> Res (List D)} {cl : Bool} {tg : Expr}
theorem aM (h : RE C .rd e ma) : RI C tg e (iS ma) := by
 obtain ⟨t, p, q⟩ := h
 refine ⟨_, yR4 p, fun Oc Ob σ H ρ W R h => q Oc Ob σ H ρ _ R (Res.zV (Res.zW h) (fun d _ k v H' s r => ?_) fun _ z => z)⟩
 obtain ⟨ds, e, k⟩ := Res.zA k
 rcases r with r | ⟨a, ys, ds', rfl, rfl, e3, e4, e5⟩
 ·cases r with
  | lst r n t => cases e; exact ⟨_, rfl, .inl ⟨⟨_, .inl r⟩, k _ H' s (fJ r (fun z => n (.inr z)) t)⟩⟩
  | tup r n t => cases e; exact ⟨_, rfl, .inr ⟨⟨_, .inl r⟩, k _ H' s (zX4 r (fun z => n (.inr z)) t)⟩⟩
  | _ => cases e
 ·cases e
  exact ⟨_, rfl, .inl ⟨⟨_, SqL.of e3⟩, k _ H' s (fJ (.inl e3) e4 e5)⟩⟩
def rng1 : List D -> Option (List D)
 | [.int j] => if -(2 ^ 62) <= j /\ j < 2 ^ 62 then some ((List.range j.toNat).map fun (i : Nat) => PyData.int (i : Int)) else none
 | _ => none
def iR (f : List D -> Option (List D)) (m : Ev -> Res (List D)) : Ev -> Res (List D) := fun ρ => (m ρ).bind fun ds => Res.lft (f ds)
theorem VAs.one {Oc : Wd} {Ob : Addr -> Prop} {H : Hp} {vs : List V} {d : D} (h : VAs Oc Ob H vs [d]) : ∃ v, vs = [v] /\ VA Oc Ob H v d := by
 cases h with
 | cons a t => cases t; exact ⟨_, rfl, a⟩
theorem uR (hm : C.X.mg "range" = none) (ha : RArg C false [a] ms) (hg : autoParam (Gl C.X "range") zX._auto_1) (hs : autoParam (starEach [a] C.X.env = [(false, eval a C.X.env)]) zX._auto_1) : RI C tg (.Call (.Name "range" p) [a] [] pos) (iR rng1 ms) := by
 obtain ⟨t, pa, q⟩ := ha
 refine ⟨_, wN hg hm pa hs, fun Oc Ob σ H ρ W R h => q Oc Ob σ H ρ _ R (Res.zV (Res.zW h) (fun ds _ k vs H' s r => ?_) fun _ z => z)⟩
 obtain ⟨xs, e, k⟩ := Res.zA k
 unfold rng1 at e
 split at e
 ·split at e
  ·rename_i hb
   cases e
   obtain ⟨v, rfl, va⟩ := VAs.one r
   obtain rfl := va.int
   exact ⟨_, rfl, hb.1, hb.2, k _ H' s (zX7 (by simp))⟩
  ·cases e
 ·cases e
end
def cEnv (ρ : Ev) (js : List Nat) (x : D) : Ev := some x :: js.map fun j => (ρ[j]?).join
def capt (js l : List Nat) : List Nat := ((List.range js.length).filter fun i => l.contains (js.getD i 0)).map (· + 1)
def noEx {α : Type} : Res α -> Res α
 | .ok a => .ok a
 | _ => .no
theorem gQ {α : Type} {r : Res α} {a : α} (h : noEx r = .ok a) : r = .ok a := by
 cases r with
 | ok b => exact h
 | ex c => cases h
 | no => cases h
def compM (t : D -> Res Bool) (f : D -> Res D) : List D -> Res (List D)
 | [] => .ok []
 | x :: xs => (noEx (t x)).bind fun b => if b then (noEx (f x)).bind fun y => (compM t f xs).bind fun ys => .ok (y :: ys) else compM t f xs
def eComp (mi : Ev -> Res (List D)) (mt : Ev -> Res Bool) (me : Ev -> Res D) (js : List Nat) : Ev -> Res D := fun ρ => (mi ρ).bind fun ds => if ds.length <= sizeLine then (compM (fun x => mt (cEnv ρ js x)) (fun x => me (cEnv ρ js x)) ds).bind fun out => .ok (.list out) else .no
theorem zF2 {js l : List Nat} {i : Nat} (h : i ∈ capt js l) : ∃ k, i = k + 1 /\ k < js.length /\ js.getD k 0 ∈ l := by
 unfold capt at h
 obtain ⟨k, hk, rfl⟩ := List.mem_map.mp h
 obtain ⟨h1, h2⟩ := List.mem_filter.mp hk
 exact ⟨k, rfl, List.mem_range.mp h1, List.contains_iff_mem.mp h2⟩
theorem bG {js l : List Nat} {k j : Nat} (h : js[k]? = some j) (hl : j ∈ l) : k + 1 ∈ capt js l := by
 unfold capt
 refine List.mem_map.mpr ⟨k, List.mem_filter.mpr ⟨List.mem_range.mpr ?_, ?_⟩, rfl⟩
 ·exact (List.getElem?_eq_some_iff.mp h).1
 ·rw [List.getD_eq_getElem?_getD, h]
  exact List.contains_iff_mem.mpr hl
theorem cL {ρ : Ev} {js : List Nat} {x d : D} {k : Nat} (h : (cEnv ρ js x)[k + 1]? = some (some d)) : ∃ j, js[k]? = some j /\ ρ[j]? = some (some d) := by
 unfold cEnv at h
 rw [List.getElem?_cons_succ, List.getElem?_map] at h
 cases e : js[k]? with
 | none => rw [e] at h; cases h
 | some j =>
  rw [e] at h
  refine ⟨j, rfl, ?_⟩
  have h : (ρ[j]?).join = some d := Option.some.inj h
  cases q : ρ[j]? with
  | none => rw [q] at h; cases h
  | some z => rw [q] at h; rw [show z = some d from h]
theorem wB {σ : St} {js : List Nat} {v0 : Option V} {v : V} {k j : Nat} (h : js[k]? = some j) (e : σ[j]? = some (some v)) : (compSt σ js v0)[k + 1]? = some (some v) := by
 unfold compSt
 rw [List.getElem?_cons_succ, List.getElem?_map, h]
 show some ((σ[j]?).join) = _
 rw [e]
 rfl
def adr : Option (Option V) -> Addr
 | some (some (.ref a)) => a
 | _ => 0
def cW (Oc : Wd) (Ob : Addr -> Prop) (σ : St) (js : List Nat) : Wd := ⟨Uni Oc Ob, fun i => adr ((compSt σ js none)[i]?)⟩
theorem Rel.comp {Oc : Wd} {Ob : Addr -> Prop} {om ln : List Nat} {σ : St} {H : Hp} {ρ : Ev} {js : List Nat} {x : V} {d : D} (R : Rel Oc Ob om ln σ H ρ) (r : Rep H (Uni Oc Ob) x d) : Rel (cW Oc Ob σ js) (fun _ => False) [] (capt js (om ++ ln)) (compSt σ js (some x)) H (cEnv ρ js d) where
 len := by unfold compSt cEnv; simp
 val := fun i d' e _ hl => by
  cases i with
  | zero =>
   cases e
   exact ⟨x, rfl, r.less fun b z => z.elim id fun z => z.elim⟩
  | succ k =>
   obtain ⟨j, e1, e2⟩ := cL e
   have h1 : j ∉ om := fun z => hl (bG e1 (List.mem_append_left _ z))
   have h2 : j ∉ ln := fun z => hl (bG e1 (List.mem_append_right _ z))
   obtain ⟨v, q, rv⟩ := R.val j d' e2 h1 h2
   exact ⟨v, wB e1 q, rv.less fun b z => z.elim id fun z => z.elim⟩
 own := fun i d' e h => nomatch h
 lnt := fun i d' e _ hl => by
  obtain ⟨k, rfl, hk, hj⟩ := zF2 hl
  obtain ⟨j, e1, e2⟩ := cL e
  rw [List.getD_eq_getElem?_getD, e1, Option.getD_some] at hj
  by_cases ho : j ∈ om
  ·obtain ⟨v, q, a, ys, ds, z1, z2, z3, z4, z5⟩ := R.own j d' e2 ho
   have ea : (cW Oc Ob σ js).la (k + 1) = a := by show adr _ = a; rw [wB e1 q, z1]; rfl
   exact ⟨v, wB e1 q, ys, ds, by rw [ea]; exact z1, z2, by rw [ea]; exact z3, by rw [ea]; exact .inr z4, z5.less fun b z => z.elim id fun z => z.elim⟩
  ·have hl2 : j ∈ ln := (List.mem_append.mp hj).elim (fun z => absurd z ho) id
   obtain ⟨v, q, ys, ds, z1, z2, z3, z4, z5⟩ := R.lnt j d' e2 ho hl2
   have ea : (cW Oc Ob σ js).la (k + 1) = Oc.la j := by show adr _ = _; rw [wB e1 q, z1]; rfl
   exact ⟨v, wB e1 q, ys, ds, by rw [ea]; exact z1, z2, by rw [ea]; exact z3, by rw [ea]; exact .inl z4, z5.less fun b z => z.elim id fun z => z.elim⟩
 inj := fun i j di dj a _ _ h => nomatch h
 oh := fun a z => R.oh a (z.elim id fun z => z.elim)
 ap := fun a z => z.elim
abbrev cC (C : Ct) (N : List Str) (scope : Scope) (A : Addr) (fp : List Addr) (s₂ : Shared) (H : Hp) (js : List Nat) : Ct := ⟨cxComp C.X N scope A fp s₂ H, fun _ _ => False, [], capt js (C.om ++ C.ln)⟩
def RTs (C : Ct) (ifs : List Expr) (m : Ev -> Res Bool) : Prop := ∃ t, PTs C.X ifs t /\ ∀ (Oc : Wd) (Ob : Addr -> Prop) (σ : St) (H : Hp) (ρ : Ev) (Q : Bool -> Hp -> Prop), Rel Oc Ob C.om C.ln σ H ρ ->
  (m ρ).post (fun b => ∀ H', Same H H' -> Q b H') (fun c => ∀ H', Same H H' -> C.XE c H') -> t σ H Q
def tYes : Ev -> Res Bool := fun _ => .ok true
theorem jS {C : Ct} : RTs C [] tYes := ⟨_, .nil, fun Oc Ob σ H ρ Q R h => h H (Same.refl H)⟩
def WalksS (Oc : Wd) (Ob : Addr -> Prop) (J : It) (H1 : Hp) (ds : List D) : Prop :=
 ∀ (H2 : Hp), Same H1 H2 -> ∀ i, (∀ d, ds[i]? = some d -> J.go i H2 /\ ∀ x H3, J.yld i H2 x H3 -> Same H2 H3 /\ Rep H3 (Uni Oc Ob) x d) /\ (ds.length <= i -> J.stop i H2)
def RIc (C : Ct) (tg iter : Expr) (m : Ev -> Res (List D)) : Prop :=
 ∃ wi, PI C.X tg iter wi /\ ∀ (Oc : Wd) (Ob : Addr -> Prop) (σ : St) (H : Hp) (ρ : Ev) (R : It -> Hp -> Prop), Rel Oc Ob C.om C.ln σ H ρ ->
  (m ρ).post (fun ds => ∀ J H1, Same H H1 -> WalksS Oc Ob J H1 ds -> R J H1) (fun c => ∀ H', Same H H' -> C.XE c H') -> wi σ H R
theorem RI.c {C : Ct} {tg iter : Expr} {m : Ev -> Res (List D)} (h : RI C tg iter m) : RIc C tg iter m := by
 obtain ⟨wi, p, q⟩ := h
 exact ⟨wi, p, fun Oc Ob σ H ρ W R h => q Oc Ob σ H ρ W R (Res.zV h (fun ds _ k J H1 s w => k J H1 s fun H2 s2 => w H2 Ob (Same.frm s2) fun b z => .inl z) fun _ z => z)⟩
theorem zO8 {C : Ct} {elt : Expr} {ifs : List Expr} {scope : Scope} {N : List Str} {js : List Nat} {mi : Ev -> Res (List D)} {mt : Ev -> Res Bool} {me : Ev -> Res D} {wi : TI}
  (qi : ∀ (Oc : Wd) (Ob : Addr -> Prop) (σ : St) (H : Hp) (ρ : Ev) (R : It -> Hp -> Prop), Rel Oc Ob C.om C.ln σ H ρ -> (mi ρ).post (fun ds => ∀ J H1, Same H H1 -> WalksS Oc Ob J H1 ds -> R J H1) (fun c => ∀ H', Same H H' -> C.XE c H') -> wi σ H R)
  (ht : ∀ A fp s₂ H, RTs (cC C N scope A fp s₂ H js) ifs mt) (he : ∀ A fp s₂ H, RE (cC C N scope A fp s₂ H js) .cl elt me)
  {Oc : Wd} {Ob : Addr -> Prop} {σ : St} {H : Hp} {ρ : Ev} {Q : VK} (R : Rel Oc Ob C.om C.ln σ H ρ) (h : (eComp mi mt me js ρ).post (fun d => ∀ v H', Same H H' -> VR .new Oc Ob H H' v d -> Q v H') (fun c => ∀ H', Same H H' -> C.XE c H')) :
  tComp wi (fun A fp s H => Classical.choose (ht A fp s H)) (fun A fp s H => Classical.choose (he A fp s H)) js σ H Q := by
 refine qi Oc Ob σ H ρ _ R (Res.zV (Res.zW h) (fun ds _ k J H1 s1 wk => ?_) fun _ z => z)
 intro A fp s₂ H₂
 have qt := (Classical.choose_spec (ht A fp s₂ H₂)).2
 have qe := (Classical.choose_spec (he A fp s₂ H₂)).2
 have k : (if ds.length <= sizeLine then (compM (fun x => mt (cEnv ρ js x)) (fun x => me (cEnv ρ js x)) ds).bind fun out => Res.ok (PyData.list out) else .no).post (fun d => ∀ v H', Same H H' -> VR .new Oc Ob H H' v d -> Q v H') (fun c => ∀ H', Same H H' -> C.XE c H') := k
 by_cases hlen : ds.length <= sizeLine
 ·rw [if_pos hlen] at k
  generalize hT : (fun x => mt (cEnv ρ js x)) = T at k
  generalize hF : (fun x => me (cEnv ρ js x)) = F at k
  cases ec : compM T F ds with
  | no => rw [ec] at k; exact k.elim
  | ex c =>
   exfalso
   have nex : ∀ xs c, compM T F xs ≠ .ex c := by
    intro xs
    induction xs with
    | nil => intro c z; cases z
    | cons x xs ih =>
     intro c z
     rw [compM] at z
     cases e1 : noEx (T x) with
     | no => rw [e1] at z; cases z
     | ex c' => cases hx : T x <;> rw [hx] at e1 <;> cases e1
     | ok b =>
      rw [e1, Res.bind_ok] at z
      cases b with
      | false => exact ih c z
      | true =>
       simp only [if_true] at z
       cases e2 : noEx (F x) with
       | no => rw [e2] at z; cases z
       | ex c' => cases hx : F x <;> rw [hx] at e2 <;> cases e2
       | ok y =>
        rw [e2, Res.bind_ok] at z
        cases e3 : compM T F xs with
        | no => rw [e3] at z; cases z
        | ex c' => exact ih c' e3
        | ok ys => rw [e3] at z; cases z
   exact nex ds c ec
  | ok out =>
   rw [ec, Res.bind_ok] at k
   refine ⟨fun i m acc H => m = ds.length - i /\ i <= ds.length /\ Same H1 H /\ ∃ done rest, Reps H (Uni Oc Ob) acc done /\ acc.length <= i /\ compM T F (ds.drop i) = .ok rest /\ done ++ rest = out, ⟨_, rfl, Nat.zero_le _, Same.refl _, [], out, .nil, Nat.le_refl _, ec, rfl⟩, ?_⟩
   rintro i m acc H2 ⟨rfl, hi, s2, done, rest, ra, la, er, eo⟩
   obtain ⟨w1, w2⟩ := wk H2 s2 i
   have R2 := (R.same s1).same s2
   by_cases hlt : i < ds.length
   ·obtain ⟨go, yl⟩ := w1 ds[i] (List.getElem?_eq_getElem hlt)
    have ed : ds.drop i = ds[i] :: ds.drop (i + 1) := List.drop_eq_getElem_cons hlt
    rw [ed, compM] at er
    have nxt : ∀ (acc' : List V) (H3 : Hp) (done' rest' : List D), Same H2 H3 -> Reps H3 (Uni Oc Ob) acc' done' -> acc'.length <= i + 1 -> compM T F (ds.drop (i + 1)) = .ok rest' -> done' ++ rest' = out ->
      ∃ m', m' < ds.length - i /\ (m' = ds.length - (i + 1) /\ i + 1 <= ds.length /\ Same H1 H3 /\ ∃ done rest, Reps H3 (Uni Oc Ob) acc' done /\ acc'.length <= i + 1 /\ compM T F (ds.drop (i + 1)) = .ok rest /\ done ++ rest = out) :=
     fun acc' H3 done' rest' s3 r3 l3 c3 o3 => ⟨_, by bv_omega, rfl, hlt, s2.trans s3, done', rest', r3, l3, c3, o3⟩
    refine .inr ⟨go, fun acc' H' => ∃ m', m' < ds.length - i /\ (m' = ds.length - (i + 1) /\ i + 1 <= ds.length /\ Same H1 H' /\ ∃ done rest, Reps H' (Uni Oc Ob) acc' done /\ acc'.length <= i + 1 /\ compM T F (ds.drop (i + 1)) = .ok rest /\ done ++ rest = out), fun acc' H' z => z, fun x H3 hy => ?_⟩
    obtain ⟨s3, rx⟩ := yl x H3 hy
    have R3 := (R2.same s3).comp (js := js) rx
    cases e1 : noEx (T ds[i]) with
    | no => rw [e1] at er; cases er
    | ex c => rw [e1] at er; cases er
    | ok b =>
     rw [e1, Res.bind_ok] at er
     have t1 : mt (cEnv ρ js ds[i]) = .ok b := by
      have t1 := gQ e1
      rw [<- hT] at t1
      exact t1
     refine qt _ _ _ H3 _ _ R3 ?_
     show (mt (cEnv ρ js ds[i])).post _ _
     rw [t1]
     intro H4 s4
     cases b with
     | false => exact iteF (nxt acc H4 done rest (s3.trans s4) (ra.same (s3.trans s4)) (by bv_omega) er eo)
     | true =>
      refine iteT ?_
      simp only [if_true] at er
      cases e2 : noEx (F ds[i]) with
      | no => rw [e2] at er; cases er
      | ex c => rw [e2] at er; cases er
      | ok y =>
       rw [e2, Res.bind_ok] at er
       have t2 : me (cEnv ρ js ds[i]) = .ok y := by
        have t2 := gQ e2
        rw [<- hF] at t2
        exact t2
       refine qe _ _ _ H4 _ _ (R3.same s4) ?_
       show (me (cEnv ρ js ds[i])).post _ _
       rw [t2]
       intro v H5 s5 rv
       refine ⟨by bv_omega, ?_⟩
       obtain ⟨ys, e3⟩ : ∃ ys, compM T F (ds.drop (i + 1)) = .ok ys := by
        cases e3 : compM T F (ds.drop (i + 1)) with
        | no => rw [e3] at er; cases er
        | ex c => rw [e3] at er; cases er
        | ok ys => exact ⟨ys, rfl⟩
       rw [e3, Res.bind_ok] at er
       cases er
       have rv' : Rep H5 (Uni Oc Ob) v y := Rep.less rv fun b z => .inl z
       refine nxt (acc ++ [v]) H5 (done ++ [y]) ys ((s3.trans s4).trans s5) ((ra.same ((s3.trans s4).trans s5)).append (.one rv')) (by rw [List.length_append, List.length_singleton]; bv_omega) e3 ?_
       rw [List.append_assoc]
       exact eo
   ·have ei : i = ds.length := by bv_omega
    subst ei
    refine .inl ⟨w2 (Nat.le_refl _), fun p hp => ?_⟩
    rw [List.drop_length] at er
    cases er
    rw [List.append_nil] at eo
    subst eo
    exact k _ _ ((s1.trans s2).trans (Same.new hp)) (xA (s1.trans s2) hp ra)
 ·rw [if_neg hlen] at k
  exact k.elim
theorem dG {C : Ct} {elt iter : Expr} {ifs : List Expr} {sc0 scope : Scope} {N0 : List Str} {px pos : Pos} {xt : Str} {fs : List Str} {js : List Nat} {mi : Ev -> Res (List D)} {mt : Ev -> Res Bool} {me : Ev -> Res D} (S : CompScope sc0 scope N0 xt fs js) (h0 : C.X.env.scope = sc0) (hN0 : C.X.N = N0) (hc : C.X.calm = true)
  (hi : RIc C (.Name xt px) iter mi) (ht : ∀ A fp s₂ H, RTs (cC C (xt :: fs) scope A fp s₂ H js) ifs mt) (he : ∀ A fp s₂ H, RE (cC C (xt :: fs) scope A fp s₂ H js) .cl elt me)
  (hs : autoParam (∀ x, foldedSetIterable iter C.X.env x = pure x) xD._auto_1) :
  RE C .new (.ListComp elt [⟨.Name xt px, iter, ifs, 0⟩] scope pos) (eComp mi mt me js) := by
 obtain ⟨wi, pi, qi⟩ := hi
 refine ⟨_, cZ (tt := fun A fp s H => Classical.choose (ht A fp s H)) (te := fun A fp s H => Classical.choose (he A fp s H)) S h0 hN0 hc pi (fun A fp s H => (Classical.choose_spec (ht A fp s H)).1) (fun A fp s H => (Classical.choose_spec (he A fp s H)).1) hs, fun Oc Ob σ H ρ Q R h => zO8 qi ht he R h⟩
section
variable {C : Ct} {fr : Bool} {e c : Expr} {pos : Pos} {md : Md} {me : Ev -> Res D} {mt : Ev -> Res Bool} {st : Stmt} {sts rest : List Stmt} {m n : Ev -> Res Out}
def sN : Ev -> Res Out := fun ρ => .ok (.nx ρ)
def sQ (m n : Ev -> Res Out) : Ev -> Res Out := fun ρ => (m ρ).bind fun o => match o with
 | .nx ρ' => n ρ'
 | .rt d => .ok (.rt d)
theorem yZ : RSs C fr [] sN := ⟨_, cY, fun Oc Ob σ H ρ E R h => h σ H Ob R (Same.frm (Same.refl H)) fun b z => .inl z⟩
theorem zN (h : RS C fr st m) : RSs C fr [st] m := by
 obtain ⟨t, p, q⟩ := h
 exact ⟨_, zF p, q⟩
theorem zM (h : RS C fr st m) (hr : RSs C fr rest n) : RSs C fr (st :: rest) (sQ m n) := by
 obtain ⟨t, p, q⟩ := h
 obtain ⟨t', p', q'⟩ := hr
 refine ⟨_, zI p p', fun Oc Ob σ H ρ E R h => q Oc Ob σ H ρ _ R (Res.zV (Res.zW h) (fun o _ k => ?_) fun _ z => z)⟩
 cases o with
 | rt d => exact k
 | nx ρ' => exact fun σ' H' Ob' R' f s => q' Oc Ob' σ' H' ρ' E R' (SPost.step f s k)
def sX : Ev -> Res Out := fun _ => .no
def sIf (t : Ev -> Res Bool) (m n : Ev -> Res Out) : Ev -> Res Out := fun ρ => (t ρ).bind fun b => if b then m ρ else n ρ
theorem yS {x y : List Stmt} (hc : RT C c mt) (hx : RSs C fr x m) (hy : RSs C fr y n) : RS C fr (.If c x y pos) (sIf mt m n) := by
 obtain ⟨t, p, q⟩ := hc
 obtain ⟨t1, p1, q1⟩ := hx
 obtain ⟨t2, p2, q2⟩ := hy
 refine ⟨_, vU p p1 p2, fun Oc Ob σ H ρ E R h => q Oc Ob σ H ρ _ R (Res.zV (Res.zW h) (fun b _ k H' s => ?_) fun c z H' s => z H' (Same.frm s))⟩
 cases b with
 | true => exact iteT (q1 Oc Ob σ H' ρ E (R.same s) (SPost.same s k))
 | false => exact iteF (q2 Oc Ob σ H' ρ E (R.same s) (SPost.same s k))
def sR (m : Ev -> Res D) : Ev -> Res Out := fun ρ => (m ρ).bind fun d => .ok (.rt d)
theorem yX (he : RE C .cl e me) : RS C false (.Return (some e) pos) (sR me) := by
 obtain ⟨t, p, q⟩ := he
 refine ⟨_, vI p, fun Oc Ob σ H ρ E R h => q Oc Ob σ H ρ _ R (Res.zV (Res.zW h) (fun d _ k v H' s r => ?_) fun c z H' s => z H' (Same.frm s))⟩
 exact k v H' (Same.frm s) (Rep.less r fun b z => .inl z)
theorem zA4 (he : RE C .new e me) : RS C true (.Return (some e) pos) (sR me) := by
 obtain ⟨t, p, q⟩ := he
 refine ⟨_, vI p, fun Oc Ob σ H ρ E R h => q Oc Ob σ H ρ _ R (Res.zV (Res.zW h) (fun d _ k v H' s r => ?_) fun c z H' s => z H' (Same.frm s))⟩
 obtain ⟨a, ys, ds, e1, e2, e3, e4, e5⟩ := r
 exact k v H' (Same.frm s) ⟨a, ys, ds, e1, e2, .inl e3, fun z => R.oh a (.inl z) e3, e4, e5.less fun b z => z.elim (fun z => .inl (.inl z)) .inr⟩
theorem yG {α : Type} {l : List (Option α)} {i j : Nat} {v d : α} (h : (l.set i (some v))[j]? = some (some d)) : (j = i /\ d = v) \/ (j ≠ i /\ l[j]? = some (some d)) := by
 by_cases e : i = j
 ·subst e
  rw [List.getElem?_set_self'] at h
  cases q : l[i]? with
  | none => rw [q] at h; cases h
  | some z => rw [q] at h; cases h; exact .inl ⟨rfl, rfl⟩
 ·rw [List.getElem?_set_ne e] at h
  exact .inr ⟨fun z => e z.symm, h⟩
theorem kM {α : Type} {l : List (Option α)} {i j : Nat} {v d : α} (h : (l.set i (some v))[j]? = some (some d)) : j < l.length := by
 have := (List.getElem?_eq_some_iff.mp h).1
 simpa using this
theorem Rel.set {Oc : Wd} {Ob : Addr -> Prop} {om ln : List Nat} {σ : St} {H : Hp} {ρ : Ev} {i : Nat} {v : V} {d : D} (R : Rel Oc Ob om ln σ H ρ) (ho : i ∉ om) (hl : i ∉ ln) (r : Rep H (Uni Oc Ob) v d) : Rel Oc Ob om ln (σ.set i (some v)) H (ρ.set i (some d)) where
 len := by rw [List.length_set, List.length_set]; exact R.len
 val := fun j d' e h1 h2 => by
  have hj := kM e
  rcases yG e with ⟨rfl, rfl⟩ | ⟨ne, e⟩
  ·exact ⟨v, by rw [List.getElem?_set_self (by rw [R.len]; exact hj)], r⟩
  ·obtain ⟨w, q, k⟩ := R.val j d' e h1 h2
   exact ⟨w, by rw [List.getElem?_set_ne (fun z => ne z.symm)]; exact q, k⟩
 own := fun j d' e h1 => by
  rcases yG e with ⟨rfl, rfl⟩ | ⟨ne, e⟩
  ·exact absurd h1 ho
  ·obtain ⟨w, q, k⟩ := R.own j d' e h1
   exact ⟨w, by rw [List.getElem?_set_ne (fun z => ne z.symm)]; exact q, k⟩
 lnt := fun j d' e h1 h2 => by
  rcases yG e with ⟨rfl, rfl⟩ | ⟨ne, e⟩
  ·exact absurd h2 hl
  ·obtain ⟨w, q, k⟩ := R.lnt j d' e h1 h2
   exact ⟨w, by rw [List.getElem?_set_ne (fun z => ne z.symm)]; exact q, k⟩
 inj := fun j k dj dk a ej ek hj hk qj qk => by
  rcases yG ej with ⟨rfl, rfl⟩ | ⟨nj, ej⟩
  ·exact absurd hj ho
  ·rcases yG ek with ⟨rfl, rfl⟩ | ⟨nk, ek⟩
   ·exact absurd hk ho
   ·rw [List.getElem?_set_ne (fun z => nj z.symm)] at qj
    rw [List.getElem?_set_ne (fun z => nk z.symm)] at qk
    exact R.inj j k dj dk a ej ek hj hk qj qk
 oh := R.oh
 ap := R.ap
theorem Rel.setO {Oc : Wd} {Ob : Addr -> Prop} {om ln : List Nat} {σ : St} {H H' : Hp} {ρ : Ev} {i : Nat} {v : V} {d : D} (R : Rel Oc Ob om ln σ H ρ) (s : Same H H') (ho : i ∈ om) (r : VR .new Oc Ob H H' v d) : ∃ a, H a = none /\ Rel Oc (fun b => Ob b \/ b = a) om ln (σ.set i (some v)) H' (ρ.set i (some d)) := by
 obtain ⟨a, ys, ds, rfl, rfl, e3, e4, e5⟩ := r
 have up : ∀ {vs : List V} {es : List D}, Reps H (Uni Oc Ob) vs es -> Reps H' (Uni Oc fun b => Ob b \/ b = a) vs es := fun r => r.keep (fun b o e _ => s b o e) fun b n z => z.elim .inl fun z => z.elim .inr fun z => by subst z; exact absurd e3 n
 have up1 : ∀ {v : V} {e : D}, Rep H (Uni Oc Ob) v e -> Rep H' (Uni Oc fun b => Ob b \/ b = a) v e := fun r => r.keep (fun b o e _ => s b o e) fun b n z => z.elim .inl fun z => z.elim .inr fun z => by subst z; exact absurd e3 n
 refine ⟨a, e3, ?_, fun j d' e h1 h2 => ?_, fun j d' e h1 => ?_, fun j d' e h1 h2 => ?_, fun j k dj dk b ej ek hj hk qj qk => ?_, fun b z => ?_, fun b z => ?_⟩
 ·rw [List.length_set, List.length_set]; exact R.len
 ·rcases yG e with ⟨rfl, rfl⟩ | ⟨ne, e⟩
  ·exact absurd ho h1
  ·obtain ⟨w, q, k⟩ := R.val j d' e h1 h2
   exact ⟨w, by rw [List.getElem?_set_ne (fun z => ne z.symm)]; exact q, up1 k⟩
 ·have hj := kM e
  rcases yG e with ⟨rfl, rfl⟩ | ⟨ne, e⟩
  ·refine ⟨.ref a, by rw [List.getElem?_set_self (by rw [R.len]; exact hj)], a, ys, ds, rfl, rfl, e4, .inr rfl, e5.less fun b z => z.elim (fun z => .inl (.inl z)) fun z => z.elim (fun z => .inl (.inr z)) .inr⟩
  ·obtain ⟨w, q, b, zs, fs, z1, z2, z3, z4, z5⟩ := R.own j d' e h1
   exact ⟨w, by rw [List.getElem?_set_ne (fun z => ne z.symm)]; exact q, b, zs, fs, z1, z2, s _ _ z3, .inl z4, up z5⟩
 ·rcases yG e with ⟨rfl, rfl⟩ | ⟨ne, e⟩
  ·exact absurd ho h1
  ·obtain ⟨w, q, zs, fs, z1, z2, z3, z4, z5⟩ := R.lnt j d' e h1 h2
   exact ⟨w, by rw [List.getElem?_set_ne (fun z => ne z.symm)]; exact q, zs, fs, z1, z2, s _ _ z3, z4, up z5⟩
 ·have lj := kM ej
  have lk := kM ek
  rcases yG ej with ⟨rfl, rfl⟩ | ⟨nj, ej'⟩
  ·rw [List.getElem?_set_self (by rw [R.len]; exact lj)] at qj
   cases qj
   rcases yG ek with ⟨rfl, rfl⟩ | ⟨nk, ek'⟩
   ·rfl
   ·rw [List.getElem?_set_ne (fun z => nk z.symm)] at qk
    obtain ⟨w, q, b, zs, fs, z1, z2, z3, z4, z5⟩ := R.own k dk ek' hk
    rw [qk] at q
    cases q
    cases z1
    rw [e3] at z3
    cases z3
  ·rw [List.getElem?_set_ne (fun z => nj z.symm)] at qj
   rcases yG ek with ⟨rfl, rfl⟩ | ⟨nk, ek'⟩
   ·rw [List.getElem?_set_self (by rw [R.len]; exact lk)] at qk
    cases qk
    obtain ⟨w, q, b, zs, fs, z1, z2, z3, z4, z5⟩ := R.own j dj ej' hj
    rw [qj] at q
    cases q
    cases z1
    rw [e3] at z3
    cases z3
   ·rw [List.getElem?_set_ne (fun z => nk z.symm)] at qk
    exact R.inj j k dj dk b ej' ek' hj hk qj qk
 ·rcases z with z | z | rfl
  ·exact Same.ne s (R.oh b (.inl z))
  ·exact Same.ne s (R.oh b (.inr z))
  ·rw [e4]; exact fun z => nomatch z
 ·rcases z with z | rfl
  ·exact R.ap b z
  ·exact fun z => R.oh b (.inl z) e3
def sS (i : Nat) (m : Ev -> Res D) : Ev -> Res Out := fun ρ => (m ρ).bind fun d => .ok (.nx (ρ.set i (some d)))
theorem xM (i : Nat) {x : Str} {p' : Pos} (nd : C.X.N.Nodup) (he : RE C .cl e me) (hi : autoParam (C.X.N[i]? = some x) zX._auto_1) (ho : autoParam (C.om.contains i = false) zX._auto_1) (hl : autoParam (C.ln.contains i = false) zX._auto_1) (hx : autoParam (Loc C.X.env.scope x) cS._auto_1)
  (hs : autoParam (swapsWith e (some (.Name x p')) pos.line C.X.env = pure false) zX._auto_1) (hf : autoParam (C.X.fn x = true \/ C.X.env.scope.names.lookup x = some .local) autoK12._auto_1) : RS C fr (.Assign [.Name x p'] e pos) (sS i me) := by
 obtain ⟨t, p, q⟩ := he
 refine ⟨_, yR nd hi hx p hs hf, fun Oc Ob σ H ρ E R h => q Oc Ob σ H ρ _ R (Res.zV (Res.zW h) (fun d _ k v H' s r => ?_) fun c z H' s => z H' (Same.frm s))⟩
 exact k _ H' Ob ((R.same s).set (xX ho) (xX hl) r) (Same.frm s) fun b z => .inl z
theorem dL (i : Nat) {x : Str} {p' : Pos} (nd : C.X.N.Nodup) (he : RE C .new e me) (hi : autoParam (C.X.N[i]? = some x) zX._auto_1) (ho : autoParam (C.om.contains i = true) zX._auto_1) (hx : autoParam (Loc C.X.env.scope x) cS._auto_1)
  (hs : autoParam (swapsWith e (some (.Name x p')) pos.line C.X.env = pure false) zX._auto_1) (hf : autoParam (C.X.fn x = true \/ C.X.env.scope.names.lookup x = some .local) autoK12._auto_1) : RS C fr (.Assign [.Name x p'] e pos) (sS i me) := by
 obtain ⟨t, p, q⟩ := he
 refine ⟨_, yR nd hi hx p hs hf, fun Oc Ob σ H ρ E R h => q Oc Ob σ H ρ _ R (Res.zV (Res.zW h) (fun d _ k v H' s r => ?_) fun c z H' s => z H' (Same.frm s))⟩
 obtain ⟨a, ha, R'⟩ := R.setO s (jR ho) r
 exact k _ H' _ R' (Same.frm s) fun b z => z.elim .inl fun z => .inr (by subst z; exact ha)
def sE (m : Ev -> Res D) : Ev -> Res Out := fun ρ => (m ρ).bind fun _ => .ok (.nx ρ)
theorem zW9 (he : RE C md e me) (hs : autoParam (swapsWith e none pos.line C.X.env = pure false) zX._auto_1) : RS C fr (.Expr e pos) (sE me) := by
 obtain ⟨t, p, q⟩ := he
 refine ⟨_, vF p hs, fun Oc Ob σ H ρ E R h => q Oc Ob σ H ρ _ R (Res.zV (Res.zW h) (fun d _ k v H' s r => ?_) fun c z H' s => z H' (Same.frm s))⟩
 exact k σ H' Ob (R.same s) (Same.frm s) fun b z => .inl z
theorem Rel.write {Oc : Wd} {Ob : Addr -> Prop} {om ln : List Nat} {σ : St} {H : Hp} {ρ : Ev} {i : Nat} {a : Addr} {ys ys' : List V} {d : D} {ds' : List D} (R : Rel Oc Ob om ln σ H ρ) (ho : i ∈ om) (ed : ρ[i]? = some (some d)) (es : σ[i]? = some (some (.ref a))) (ha : H a = some (.lst ys)) (hb : Ob a)
  (r : Reps H (Uni Oc Ob) ys' ds') : Rel Oc Ob om ln σ (upd H a (.lst ys')) (ρ.set i (some (.list ds'))) := by
 have kp : ∀ b o, H b = some o -> ¬ Uni Oc Ob b -> upd H a (.lst ys') b = some o := fun b o e n => by
  rw [zT (fun z => n (by subst z; exact .inr hb))]; exact e
 have up : ∀ {vs : List V} {es : List D}, Reps H (Uni Oc Ob) vs es -> Reps (upd H a (.lst ys')) (Uni Oc Ob) vs es := fun r => r.keep kp fun b n z => z
 have up1 : ∀ {v : V} {e : D}, Rep H (Uni Oc Ob) v e -> Rep (upd H a (.lst ys')) (Uni Oc Ob) v e := fun r => r.keep kp fun b n z => z
 have li : i < σ.length := (List.getElem?_eq_some_iff.mp es).1
 refine ⟨by rw [List.length_set]; exact R.len, fun j d' e h1 h2 => ?_, fun j d' e h1 => ?_, fun j d' e h1 h2 => ?_, fun j k dj dk b ej ek hj hk qj qk => ?_, fun b z => ?_, R.ap⟩
 ·rcases yG e with ⟨rfl, rfl⟩ | ⟨ne, e⟩
  ·exact absurd ho h1
  ·obtain ⟨w, q, k⟩ := R.val j d' e h1 h2
   exact ⟨w, q, up1 k⟩
 ·rcases yG e with ⟨rfl, rfl⟩ | ⟨ne, e⟩
  ·exact ⟨.ref a, es, a, ys', ds', rfl, rfl, zU, hb, up r⟩
  ·obtain ⟨w, q, b, zs, fs, rfl, z2, z3, z4, z5⟩ := R.own j d' e h1
   have nb : b ≠ a := fun z => by subst z; exact ne (R.inj j i d' d b e ed h1 ho q es)
   exact ⟨_, q, b, zs, fs, rfl, z2, by rw [zT nb]; exact z3, z4, up z5⟩
 ·rcases yG e with ⟨rfl, rfl⟩ | ⟨ne, e⟩
  ·exact absurd ho h1
  ·obtain ⟨w, q, zs, fs, z1, z2, z3, z4, z5⟩ := R.lnt j d' e h1 h2
   have nb : Oc.la j ≠ a := fun z => R.ap a hb (z ▸ z4)
   exact ⟨_, q, zs, fs, z1, z2, by rw [zT nb]; exact z3, z4, up z5⟩
 ·have get : ∀ j dj, (ρ.set i (some (.list ds')))[j]? = some (some dj) -> ∃ d, ρ[j]? = some (some d) := fun j dj e => by
   rcases yG e with ⟨rfl, rfl⟩ | ⟨ne, e⟩
   ·exact ⟨d, ed⟩
   ·exact ⟨dj, e⟩
  obtain ⟨d1, e1⟩ := get j dj ej
  obtain ⟨d2, e2⟩ := get k dk ek
  exact R.inj j k d1 d2 b e1 e2 hj hk qj qk
 ·by_cases h : b = a
  ·subst h; rw [zU]; exact fun z => nomatch z
  ·rw [zT h]; exact R.oh b z
def PrM (r : V -> List V -> Hp -> VK -> Prop) (g : List D -> List D -> Option (List D)) : Prop :=
 ∀ (O : Addr -> Prop) (H : Hp) (l : Addr) (xs vs : List V) (xd ad ds' : List D) (Q : VK), H l = some (.lst xs) -> Reps H O xs xd -> Reps H O vs ad -> g xd ad = some ds' -> (∀ xs', Reps H O xs' ds' -> Q .non (upd H l (.lst xs'))) -> r (.ref l) vs H Q
def lstD : D -> Option (List D)
 | .list ds => some ds
 | _ => none
def sM (i : Nat) (g : List D -> List D -> Option (List D)) (m : Ev -> Res (List D)) : Ev -> Res Out := fun ρ => (eV i ρ).bind fun d => (Res.lft (lstD d)).bind fun xd => (m ρ).bind fun ad => (Res.lft (g xd ad)).bind fun ds => .ok (.nx (ρ.set i (some (.list ds))))
theorem kP {d : D} {ds : List D} (h : lstD d = some ds) : d = .list ds := by
 cases d <;> simp [lstD] at h ⊢
 exact h
theorem zA5 (i : Nat) {x name : Str} {id : String} {a : Expr} {es : List Expr} {ms : Ev -> Res (List D)} {p' apos cpos : Pos} {r : V -> List V -> Hp -> VK -> Prop} {g : List D -> List D -> Option (List D)} (slot : Slot "list" name id) (hty : typeOf (.builtin id) = pure (.type "method_descriptor")) (hm : MtR C.X id r) (hp : PrM r g) (ha : RArg C true (a :: es) ms)
  (hN : autoParam (C.X.N[i]? = some x) zX._auto_1) (ho : autoParam (C.om.contains i = true) zX._auto_1) (hv : autoParam (Vis C.X.env.scope x) gX._auto_1) (hd : autoParam ((x == ("__debug__" : Str)) = false) zJ._auto_1) (hcd : autoParam ((x == ("__classdict__" : Str)) = false) zJ._auto_1)
  (hbase : autoParam (attributeBase (.Name x p') name C.X.env (eval (.Name x p') C.X.env) = eval (.Name x p') C.X.env) zX._auto_1)
  (hfew : ((backTo cpos (starEach (a :: es) C.X.env)).all (fun x => !x.1) && (backToKw cpos (keywordEach [] C.X.env)).all (fun x => x.1.isSome)
   && decide ((a :: es).length + ([] : List Keyword).length + (if ([] : List Keyword).isEmpty then 0 else 1) < 30)) = true := by rfl)
  (hline : autoParam ((apos.endLine == cpos.line) = true) zX._auto_1) (hs : autoParam (starEach (a :: es) C.X.env = (false, eval a C.X.env) :: starEach es C.X.env) zX._auto_1) (hplain : autoParam ((backTo cpos (starEach es C.X.env)).any (·.1) = false) zX._auto_1)
  (hsw : autoParam (swapsWith (.Call (.Attribute (.Name x p') name apos) (a :: es) [] cpos) none pos.line C.X.env = pure false) zX._auto_1) :
  RS C fr (.Expr (.Call (.Attribute (.Name x p') name apos) (a :: es) [] cpos) pos) (sM i g ms) := by
 obtain ⟨t, p, q⟩ := ha
 refine ⟨_, vF (gH PySem.F.plainAttrs_list slot hty hm (gZ hN hv hd hcd) p hbase hfew hline hs hplain) hsw, fun Oc Ob σ H ρ E R h => ?_⟩
 obtain ⟨d, ed, k⟩ := gW (Res.zW h)
 obtain ⟨xd, ex, k⟩ := Res.zA (Res.zW k)
 obtain rfl := kP ex
 obtain ⟨v, qv, l, ys, ds, rfl, e2, e3, e4, e5⟩ := R.own i _ ed (jR ho)
 cases e2
 refine ⟨_, qv, .inl ⟨rfl, _, SqL.of e3⟩, q Oc Ob σ H ρ _ R (Res.zV (Res.zW k) (fun ad _ k vs H' s r' => ?_) fun c z H' s => z H' (Same.frm s))⟩
 obtain ⟨ds', eg, k⟩ := Res.zA (Res.zW k)
 refine hp _ H' l ys vs xd ad ds' _ (s _ _ e3) (e5.same s) r' eg fun xs' rx => ?_
 refine k _ _ Ob ((R.same s).write (jR ho) ed qv (s _ _ e3) e4 rx) (fun b o e n => ?_) fun b z => .inl z
 rw [zT (fun z => n (by subst z; exact e4))]
 exact s b o e
end
def RG (C : Ct) (tg : Expr) (g : D -> Ev -> Option Ev) : Prop :=
 ∃ t, PG C.X tg t /\ ∀ (Oc : Wd) (Ob : Addr -> Prop) (σ : St) (H : Hp) (ρ ρ' : Ev) (v : V) (d : D) (Q : St -> Hp -> Prop), Rel Oc Ob C.om C.ln σ H ρ -> Rep H (Uni Oc Ob) v d -> g d ρ = some ρ' -> (∀ σ', Rel Oc Ob C.om C.ln σ' H ρ' -> Q σ' H) -> t v σ H Q
def gN (i : Nat) : D -> Ev -> Option Ev := fun d ρ => some (ρ.set i (some d))
section
variable {C : Ct} {fr : Bool} {e c : Expr} {es : List Expr} {pos : Pos} {md : Md} {me : Ev -> Res D} {mt : Ev -> Res Bool} {st : Stmt} {body sts rest : List Stmt} {m n : Ev -> Res Out} {mi : Ev -> Res (List D)} {g : D -> Ev -> Option Ev}
theorem wZ (i : Nat) {x : Str} (nd : C.X.N.Nodup) (hi : autoParam (C.X.N[i]? = some x) zX._auto_1) (ho : autoParam (C.om.contains i = false) zX._auto_1) (hl : autoParam (C.ln.contains i = false) zX._auto_1) (hx : autoParam (Loc C.X.env.scope x) cS._auto_1)
  (hf : autoParam (C.X.fn x = true \/ C.X.env.scope.names.lookup x = some .local) autoK12._auto_1) : RG C (.Name x pos) (gN i) := by
 refine ⟨_, vM nd hi hx hf, fun Oc Ob σ H ρ ρ' v d Q R r e k => ?_⟩
 cases e
 exact k _ (R.set (xX ho) (xX hl) r)
def RGs (C : Ct) (ts : List Expr) (g : List D -> Ev -> Option Ev) : Prop :=
 ∃ t, PGs C.X ts t /\ ∀ (Oc : Wd) (Ob : Addr -> Prop) (σ : St) (H : Hp) (ρ ρ' : Ev) (vs : List V) (ds : List D) (Q : St -> Hp -> Prop), Rel Oc Ob C.om C.ln σ H ρ -> Reps H (Uni Oc Ob) vs ds -> g ds ρ = some ρ' -> (∀ σ', Rel Oc Ob C.om C.ln σ' H ρ' -> Q σ' H) -> t vs σ H Q
def gsN : List D -> Ev -> Option Ev
 | [], ρ => some ρ
 | _, _ => none
def gsC (g : D -> Ev -> Option Ev) (h : List D -> Ev -> Option Ev) : List D -> Ev -> Option Ev
 | d :: ds, ρ => (g d ρ).bind fun ρ1 => h ds ρ1
 | [], _ => none
theorem dM : RGs C [] gsN := by
 refine ⟨_, cT, fun Oc Ob σ H ρ ρ' vs ds Q R r e k => ?_⟩
 cases r with
 | nil => cases e; exact ⟨rfl, k σ R⟩
 | cons => cases e
theorem vE {h : List D -> Ev -> Option Ev} (h1 : RG C e g) (h2 : RGs C es h) (hs : autoParam ((assignEach (e :: es) C.X.env).map (·.2) = assign e C.X.env :: (assignEach es C.X.env).map (·.2)) zX._auto_1) : RGs C (e :: es) (gsC g h) := by
 obtain ⟨t, p, q⟩ := h1
 obtain ⟨t', p', q'⟩ := h2
 refine ⟨_, uA p p' hs, fun Oc Ob σ H ρ ρ' vs ds Q R r e k => ?_⟩
 cases r with
 | nil => cases e
 | cons r rs =>
  obtain ⟨ρ1, e1, e2⟩ := Option.bind_eq_some_iff.mp e
  exact ⟨_, _, rfl, q Oc Ob σ H ρ ρ1 _ _ _ R r e1 fun σ' R' => q' Oc Ob σ' H ρ1 ρ' _ _ Q R' rs e2 k⟩
def gT (n : Nat) (h : List D -> Ev -> Option Ev) : D -> Ev -> Option Ev
 | .tuple ds, ρ => if ds.length = n then h ds ρ else none
 | _, _ => none
theorem aQ {k n : Nat} {h : List D -> Ev -> Option Ev} (hc : C.X.calm = true) (hg : RGs C es h) (hn : autoParam ((assignEach es C.X.env).length = n) zX._auto_1) (hst : autoParam ((assignEach es C.X.env).findIdx? (·.1) = none) zX._auto_1) : RG C (.Tuple es k pos) (gT n h) := by
 obtain ⟨t, p, q⟩ := hg
 refine ⟨_, aZ hc p hn hst, fun Oc Ob σ H ρ ρ' v d Q R r e k => ?_⟩
 cases r with
 | tup rd no rs =>
  unfold gT at e
  simp only at e
  split at e
  ·rename_i hl
   exact ⟨_, _, rfl, .inl rd, by rw [rs.length]; exact hl, q Oc Ob σ H ρ ρ' _ _ Q R rs e k⟩
  ·cases e
 | _ => cases e
theorem yT3 {tg : Expr} (he : RE C .cl e me) (hg : RG C tg g) (hs : autoParam (swapsWithSole [tg] e pos.line C.X.env = pure false) zX._auto_1) (hw : autoParam (swappedStores [tg] e C.X.env = pure none) zX._auto_1)
  (h1 : autoParam ((assignEach [tg] C.X.env).map (·.2) = [assign tg C.X.env]) zX._auto_1) : RS C fr (.Assign [tg] e pos) (fun ρ => (me ρ).bind fun d => (Res.lft (g d ρ)).bind fun ρ' => .ok (.nx ρ')) := by
 obtain ⟨t, p, q⟩ := he
 obtain ⟨t', p', q'⟩ := hg
 refine ⟨_, vH p p' hs hw h1, fun Oc Ob σ H ρ E R h => q Oc Ob σ H ρ _ R (Res.zV (Res.zW h) (fun d _ k v H' s r => ?_) fun c z H' s => z H' (Same.frm s))⟩
 obtain ⟨ρ', e, k⟩ := Res.zA (Res.zW k)
 exact q' Oc Ob σ H' ρ ρ' v d _ (R.same s) r e fun σ' R' => k σ' H' Ob R' (Same.frm s) fun b z => .inl z
def forM (g : D -> Ev -> Option Ev) (b : Ev -> Res Out) : List D -> Ev -> Res Out
 | [], ρ => .ok (.nx ρ)
 | x :: xs, ρ => (Res.lft (g x ρ)).bind fun ρ1 => (b ρ1).bind fun o => match o with
  | .nx ρ2 => forM g b xs ρ2
  | .rt d => .ok (.rt d)
def sF (mi : Ev -> Res (List D)) (g : D -> Ev -> Option Ev) (b : Ev -> Res Out) : Ev -> Res Out := fun ρ => (mi ρ).bind fun ds => forM g b ds ρ
theorem kS {tg iter : Expr} (hi : RI C tg iter mi) (hg : RG C tg g) (hb : RSs C fr body m) (hp : autoParam (PassesOwn (model C.X.prog C.X.w) C.X.A C.X.env C.X.xe) autoK13._auto_1) (hc : autoParam (C.X.calm = true) zX._auto_1)
  (hs : autoParam (∀ x, foldedSetIterable iter C.X.env x = pure x) xD._auto_1) : RS C fr (.For tg iter body [] pos) (sF mi g m) := by
 obtain ⟨wi, pi, qi⟩ := hi
 obtain ⟨tg', pg, qg⟩ := hg
 obtain ⟨tb, pb, qb⟩ := hb
 refine ⟨_, dX hp hc pi pg pb hs, fun Oc Ob σ H ρ E R h => qi Oc Ob σ H ρ _ R (Res.zV (Res.zW h) (fun ds _ k J H1 s1 wk => ?_) fun c z H' s => z H' (Same.frm s))⟩
 refine ⟨fun i mm σ' H' => mm = ds.length - i /\ i <= ds.length /\ ∃ ρi Obi, Rel Oc Obi C.om C.ln σ' H' ρi /\ Frm Ob H1 H' /\ (∀ b, Obi b -> Ob b \/ H1 b = none) /\ SPost C fr Oc Obi H' E (forM g m (ds.drop i) ρi),
  ⟨_, rfl, Nat.zero_le _, ρ, Ob, R.same s1, Same.frm (Same.refl _), fun b z => .inl z, SPost.same s1 k⟩, ?_⟩
 rintro i mm σ2 H2 ⟨rfl, hi, ρi, Obi, R2, f2, sb2, k2⟩
 obtain ⟨w1, w2⟩ := wk H2 Obi f2 sb2 i
 by_cases hlt : i < ds.length
 ·obtain ⟨go, yl⟩ := w1 ds[i] (List.getElem?_eq_getElem hlt)
  have ed : ds.drop i = ds[i] :: ds.drop (i + 1) := List.drop_eq_getElem_cons hlt
  rw [ed, forM] at k2
  obtain ⟨ρ1, e1, k2⟩ := Res.zA (Res.zW k2)
  refine .inr ⟨go, fun σ' H' => ∃ m', m' < ds.length - i /\ (m' = ds.length - (i + 1) /\ i + 1 <= ds.length /\ ∃ ρi Obi, Rel Oc Obi C.om C.ln σ' H' ρi /\ Frm Ob H1 H' /\ (∀ b, Obi b -> Ob b \/ H1 b = none) /\ SPost C fr Oc Obi H' E (forM g m (ds.drop (i + 1)) ρi)), fun _ _ z => z, fun x H3 hy => ?_⟩
  obtain ⟨s3, rx⟩ := yl x H3 hy
  refine qg Oc Obi σ2 H3 ρi ρ1 x _ _ (R2.same s3) rx e1 fun σ3 R3 => ?_
  have k3 := SPost.same s3 (show SPost C fr Oc Obi H2 E _ from k2)
  refine qb Oc Obi σ3 H3 ρ1 _ R3 (Res.zV (Res.zW k3) (fun o _ k4 => ?_) fun _ z => z)
  cases o with
  | rt d => exact k4
  | nx ρ2 =>
   intro σ4 H4 Ob4 R4 f4 sb4
   have f3 : Frm Ob H1 H3 := fun b o e n => s3 b o (f2 b o e n)
   refine ⟨_, by bv_omega, rfl, hlt, ρ2, Ob4, R4, f3.trans sb2 f4, fun b z => (sb4 b z).elim (sb2 b) fun z => f3.none z, SPost.step f4 sb4 k4⟩
 ·have ei : i = ds.length := by bv_omega
  subst ei
  rw [List.drop_length] at k2
  exact .inl ⟨w2 (Nat.le_refl _), k2 σ2 H2 Obi R2 (Same.frm (Same.refl _)) fun b z => .inl z⟩
def whM (t : Ev -> Res Bool) (b : Ev -> Res Out) : Nat -> Ev -> Res Out
 | 0, _ => .no
 | k + 1, ρ => (t ρ).bind fun c => if c then (b ρ).bind fun o => match o with
  | .nx ρ' => whM t b k ρ'
  | .rt d => .ok (.rt d) else .ok (.nx ρ)
def sW (fuel : Nat) (t : Ev -> Res Bool) (b : Ev -> Res Out) : Ev -> Res Out := fun ρ => whM t b fuel ρ
def setD (ds : List D) (i v : D) : Option (List D) := match i with
 | .int k => (ixN ds.length k).map fun j => ds.set j v
 | _ => none
def sI (i : Nat) (mk me : Ev -> Res D) : Ev -> Res Out := fun ρ => (me ρ).bind fun v => (eV i ρ).bind fun d => (Res.lft (lstD d)).bind fun xd => (mk ρ).bind fun k => (Res.lft (setD xd k v)).bind fun ds => .ok (.nx (ρ.set i (some (.list ds))))
theorem zU9 (i : Nat) {x : Str} {p' p2 : Pos} {k : Expr} {mk : Ev -> Res D} (he : RE C .cl e me) (hk : RE C md k mk) (hN : autoParam (C.X.N[i]? = some x) zX._auto_1) (ho : autoParam (C.om.contains i = true) zX._auto_1) (hv : autoParam (Vis C.X.env.scope x) gX._auto_1) (hd : autoParam ((x == ("__debug__" : Str)) = false) zJ._auto_1)
  (hcd : autoParam ((x == ("__classdict__" : Str)) = false) zJ._auto_1)
  (ha : ∀ v, assign (.Subscript (.Name x p') k p2) C.X.env v = (do
   let ov <- holding [v] (eval (.Name x p') C.X.env)
   let iv <- holding [v, ov] (eval k C.X.env)
   standAt p2
   holding [v, ov, iv] (setItem ov iv v)
   release [v, ov, iv] []) := by intro _; rfl)
  (hs : autoParam (swapsWithSole [.Subscript (.Name x p') k p2] e pos.line C.X.env = pure false) zX._auto_1) (hw : autoParam (swappedStores [.Subscript (.Name x p') k p2] e C.X.env = pure none) zX._auto_1)
  (h1 : autoParam ((assignEach [.Subscript (.Name x p') k p2] C.X.env).map (·.2) = [assign (.Subscript (.Name x p') k p2) C.X.env]) zX._auto_1) : RS C fr (.Assign [.Subscript (.Name x p') k p2] e pos) (sI i mk me) := by
 obtain ⟨t, p, q⟩ := he
 obtain ⟨t', p', q'⟩ := hk
 refine ⟨_, vH p (uN (gZ hN hv hd hcd) p' wJ ha) hs hw h1, fun Oc Ob σ H ρ E R h => q Oc Ob σ H ρ _ R (Res.zV (Res.zW h) (fun dv _ k v H' s r => ?_) fun c z H' s => z H' (Same.frm s))⟩
 obtain ⟨d, ed, k⟩ := gW (Res.zW k)
 obtain ⟨xd, ex, k⟩ := Res.zA (Res.zW k)
 obtain rfl := kP ex
 obtain ⟨w', qv, l, ys, ds, rfl, e2, e3, e4, e5⟩ := (R.same s).own i _ ed (jR ho)
 cases e2
 refine ⟨_, qv, q' Oc Ob σ H' ρ _ (R.same s) (Res.zV (Res.zW k) (fun dk _ k kv H2 s2 rk => ?_) fun c z H2 s2 => z H2 (Same.frm (s.trans s2)))⟩
 obtain ⟨ds', eg, k⟩ := Res.zA (Res.zW k)
 unfold setD at eg
 split at eg
 ·obtain ⟨j, ej, rfl⟩ := Option.map_eq_some_iff.mp eg
  obtain rfl := (rk.va (R.same s).oh).int
  have hl := e5.length
  refine ⟨l, ys, _, j, rfl, rfl, s2 _ _ e3, by rw [hl]; exact ej, ?_⟩
  refine k _ _ Ob ((R.same (s.trans s2)).write (jR ho) ed qv (s2 _ _ e3) e4 (Reps.set (Rep.same r s2) j (e5.same s2))) (fun b o e n => ?_) fun b z => .inl z
  rw [zT (fun z => n (by subst z; exact e4))]
  exact s2 b o (s b o e)
 ·cases eg
def sV (i j : Nat) : Ev -> Res Out := fun ρ => (eV j ρ).bind fun d => .ok (.nx ((ρ.set i (some d)).set j none))
theorem qY {α : Type} {l : List (Option α)} {i j : Nat} {d : α} (h : (l.set i none)[j]? = some (some d)) : j ≠ i /\ l[j]? = some (some d) := by
 by_cases e : i = j
 ·subst e
  rw [List.getElem?_set_self'] at h
  cases q : l[i]? with
  | none => rw [q] at h; cases h
  | some z => rw [q] at h; cases h
 ·rw [List.getElem?_set_ne e] at h
  exact ⟨fun z => e z.symm, h⟩
end
end L2.L3
namespace L2
open PySem PySem.Spec PyProof.Rows
structure Has (K : KFr) (mg : Str -> Option Value) (x : Str) (st : Stmt) (f : Addr) (fd : FuncData) (ps : List Str) : Prop where
 F : Fun K x x st f fd
 b : Binds K fd ps []
 m : mg x = some (.ref f)
theorem qR {K : KFr} {h : Heap} {mg : Str -> Option Value} {x : Str} {st : Stmt} {f : Addr} {oc : Value} {od an : Option Addr} {osl : Array (Option Value)} {kV doc pm cdv ct : Value} {ps : List Str} (X : K.In h) (G : h.Ns mainGlobals mg)
  (a : PySem.W.nsIn K mainGlobals x = some (some (.ref f))) (l : K.lookup f = some ⟨oc, od, .func (PySem.W.fnOf x x (defArgs st) (defBody st) (zP st) .none kV doc pm an cdv ct), osl⟩)
  (c : PySem.W.codeIn K cdv x = true) (k : PySem.W.keepIn K (.ref f) = true)
  (hb : ∀ (kV doc pm : Value) (an : Option Addr) (cdv ct : Value) (us : List Value), us.length = ps.length -> bindArgs (PySem.W.fnOf x x (defArgs st) (defBody st) (zP st) .none kV doc pm an cdv ct) ⟨us, []⟩ = pure (ps.zip us)) :
  Has K mg x st f (PySem.W.fnOf x x (defArgs st) (defBody st) (zP st) .none kV doc pm an cdv ct) ps :=
 have F := yQ3 (st := st) l c k
 ⟨F, F.binds hb, PySem.W.mg_of X G a⟩
end L2
namespace L2.L3
open PySem PySem.Spec PyProof.Rows
variable [CN]
def CallOk : Bool -> (Addr -> Prop) -> Hp -> Hp -> V -> D -> Prop
 | true, O, H, H', v, d => ∃ a ys ds, v = .ref a /\ d = .list ds /\ H a = none /\ H' a = some (.lst ys) /\ Reps H' (fun b => O b \/ b = a) ys ds
 | false, O, _, H', v, d => Rep H' O v d
def spF (fr : Bool) (F : List D -> Res D) : Sp := fun vs H Q _ => ∃ (ds : List D) (O : Addr -> Prop), (∀ a, O a -> H a ≠ none) /\ Reps H O vs ds /\ (F ds).post (fun d => ∀ v H', Same H H' -> CallOk fr O H H' v d -> Q v H') (fun _ => False)
def fin (fr : Bool) : Out -> Res D
 | .rt d => .ok d
 | .nx _ => if fr then .no else .ok .none
def runF (fr : Bool) (p n : Nat) (m : Ev -> Res Out) : List D -> Res D := fun ds => if ds.length = p then (m (ds.map some ++ List.replicate (n - p) none)).bind (fin fr) else .no
theorem vR {α : Type} {ds : List α} {k i : Nat} {d : α} (h : (ds.map some ++ List.replicate k none)[i]? = some (some d)) : ds[i]? = some d := by
 by_cases hi : i < ds.length
 ·rw [List.getElem?_append_left (by simpa using hi), List.getElem?_map] at h
  cases e : ds[i]? with
  | none => rw [e] at h; cases h
  | some z => rw [e] at h; cases h; rfl
 ·rw [List.getElem?_append_right (by simpa using hi), List.getElem?_replicate] at h
  split at h <;> cases h
theorem zY6 {α : Type} {ds : List α} {k i : Nat} {d : α} (h : ds[i]? = some d) : (ds.map some ++ List.replicate k none)[i]? = some (some d) := by
 have hi := (List.getElem?_eq_some_iff.mp h).1
 rw [List.getElem?_append_left (by simpa using hi), List.getElem?_map, h]
 rfl
section
variable {P : Program} {w : World} {K : KFr} {mg : Str -> Option Value} {base : Heap}
abbrev bodyCt (P : Program) (w : World) (K : KFr) (mg : Str -> Option Value) (base : Heap) (N : List Str) (x : Str) (sc : Scope) (f : Addr) (cdv : Value) (A : Around) (outer : List Env) (s : Shared) (H : Hp) (E : XK) (om : List Nat) : Ct :=
 ⟨(cxOf CX0 P w K mg base N x sc f cdv A outer s H E).nox, fun _ _ => False, om, []⟩
theorem bI {x : Str} {st : Stmt} {f : Addr} {fd : FuncData} {N ps : List Str} {k : Nat} {m : Ev -> Res Out} {fr : Bool} (om : List Nat) (F : Fun K x x st f fd) (S : zH N ps (zP st))
  (hbody : ∀ (cdv : Value) (A : Around) (outer : List Env) (s : Shared) (H : Hp) (E : XK), Room k (A.deeper (envOfC x (zP st) s.heap.objs.size f cdv)) -> RSs (bodyCt P w K mg base N x (zP st) f cdv A outer s H E om) fr (defBody st) m)
  (hom : autoParam (om.all (fun i => decide (ps.length <= i)) = true) zX._auto_1) :
  FnOk P w K mg base CX0 (k + 1) f fd ps (spF fr (runF fr ps.length N.length m)) := by
 have len : ∀ (vs : List V) (H : Hp) (Q : VK) (E : XK), spF fr (runF fr ps.length N.length m) vs H Q E -> vs.length = ps.length := fun vs H Q E h => by
  obtain ⟨ds, O, oh, r, k⟩ := h
  unfold runF at k
  split at k
  ·rename_i hl
   rw [r.length]; exact hl
  ·exact k.elim
 refine F.ok S len fun cdv A outer s H vs Q E hr h => ?_
 have hvl := len vs H Q E h
 obtain ⟨ds, O, oh, r, k⟩ := h
 have hl : ds.length = ps.length := by rw [<- r.length]; exact hvl
 unfold runF at k
 rw [if_pos hl] at k
 obtain ⟨t, p, q⟩ := hbody cdv A outer s H E hr
 refine ⟨t, p, q ⟨O, fun _ => 0⟩ (fun _ => False) _ H (ds.map some ++ List.replicate (N.length - ps.length) none) _ ?_ ?_⟩
 ·refine ⟨?_, fun i d e _ _ => ?_, fun i d e ho => ?_, fun i d e _ hl => (nomatch hl), fun i j di dj a ei _ ho _ _ _ => ?_, fun a z => oh a (z.elim id fun z => z.elim), fun a z => z.elim⟩
  ·unfold start
   rw [List.length_append, List.length_append, List.length_map, List.length_map, List.length_replicate, List.length_replicate, hvl, hl]
  ·obtain ⟨v, ev, rv⟩ := r.get (vR e)
   exact ⟨v, zY6 ev, rv.less fun b z => z.elim id fun z => z.elim⟩
  ·have h1 := (List.getElem?_eq_some_iff.mp (vR e)).1
   have h2 : ps.length <= i := of_decide_eq_true (List.all_eq_true.mp hom i ho)
   bv_omega
  ·have h1 := (List.getElem?_eq_some_iff.mp (vR ei)).1
   have h2 : ps.length <= i := of_decide_eq_true (List.all_eq_true.mp hom i ho)
   bv_omega
 ·refine Res.zV (Res.zW k) (fun o _ k => ?_) fun c z => z.elim
  have same : ∀ {H' : Hp}, Frm (fun _ => False) H H' -> Same H H' := fun f b o e => f b o e fun z => z
  cases o with
  | rt d =>
   intro v H' f rt
   refine k v H' (same f) ?_
   cases fr with
   | false => exact rt
   | true =>
    obtain ⟨a, ys, ds, e1, e2, e3, e4, e5, e6⟩ := rt
    exact ⟨a, ys, ds, e1, e2, e3.elim id fun z => z.elim, e5, e6⟩
  | nx ρ' =>
   cases fr with
   | true => exact k.elim
   | false => exact fun σ' H' Ob' R f s => k .non H' (same f) Rep.non
end
def mdF (fr : Bool) : Md := if fr then .new else .cl
def eF (F : List D -> Res D) (m : Ev -> Res (List D)) : Ev -> Res D := fun ρ => (m ρ).bind F
section
variable {C : Ct} {k : Nat} {f : Addr} {fd : FuncData} {ps : List Str} {fr : Bool} {F : List D -> Res D} {x : Str} {p pos : Pos} {e : Expr} {es : List Expr} {ms : Ev -> Res (List D)} {st : Stmt}
theorem zD3 {t : TA} (q : ∀ (Oc : Wd) (Ob : Addr -> Prop) (σ : St) (H : Hp) (ρ : Ev) (Q : List V -> Hp -> Prop), Rel Oc Ob C.om C.ln σ H ρ ->
  (ms ρ).post (fun ds => ∀ vs H', Same H H' -> VQ true Oc Ob H' vs ds -> Q vs H') (fun c => ∀ H', Same H H' -> C.XE c H') -> t σ H Q)
  {Oc : Wd} {Ob : Addr -> Prop} {σ : St} {H : Hp} {ρ : Ev} {Q : VK} (R : Rel Oc Ob C.om C.ln σ H ρ) (h : (eF F ms ρ).post (fun d => ∀ v H', Same H H' -> VR (mdF fr) Oc Ob H H' v d -> Q v H') (fun c => False)) : tCall (spF fr F) [] E0 t σ H Q := by
 refine q Oc Ob σ H ρ _ R (Res.zV (Res.zW h) (fun ds _ k vs H1 s1 r => ?_) fun _ z => z.elim)
 show spF fr F (vs ++ []) H1 Q E0
 rw [List.append_nil]
 refine ⟨ds, Uni Oc Ob, (R.same s1).oh, r, Res.zV k (fun d _ k v H' s2 rv => ?_) fun _ z => z⟩
 refine k v H' (s1.trans s2) ?_
 cases fr with
 | false => exact rv
 | true =>
  obtain ⟨a, ys, ds, e1, e2, e3, e4, e5⟩ := rv
  exact ⟨a, ys, ds, e1, e2, s1.free e3, e4, e5⟩
end
theorem yV1 {C : Ct} {k : Nat} {f : Addr} {fd : FuncData} {ps : List Str} {fr : Bool} {F : List D -> Res D} {x : Str} {p pos : Pos} {e : Expr} {es : List Expr} {ms : Ev -> Res (List D)} {st : Stmt} (G : FnOk C.X.prog C.X.w C.X.K C.X.mg C.X.base CX0 k f fd ps (spF fr F)) (hh : Has C.X.K C.X.mg x st f fd ps) (hr : Room k C.X.A)
  (hx : ∀ c H, C.XE c H -> False) (ha : RArg C true (e :: es) ms) (hg : autoParam (Gl C.X x) zX._auto_1) (hdb : autoParam ((x == ("__debug__" : Str)) = false) zJ._auto_1) (he : autoParam (starEach (e :: es) C.X.env = (false, eval e C.X.env) :: starEach es C.X.env) zX._auto_1) (hpl : autoParam ((backTo pos (starEach es C.X.env)).any (·.1) = false) zX._auto_1) :
  RE C (mdF fr) (.Call (.Name x p) (e :: es) [] pos) (eF F ms) := by
 obtain ⟨t, pa, q⟩ := ha
 refine ⟨_, zC G hr hg hh.m hh.F.kp hh.b .nil pass0 pa hdb he hpl, fun Oc Ob σ H ρ Q R h => ?_⟩
 exact zD3 q R (Res.zV h (fun _ _ z => z) fun c z => hx c H (z H (Same.refl H)))
mutual
def lf : D -> Bool
 | .list _ => false
 | .dict _ => false
 | .tuple ds => lfs ds
 | _ => true
def lfs : List D -> Bool
 | [] => true
 | d :: ds => lf d && lfs ds
end
mutual
theorem Rep.lf {H : Hp} {U : Addr -> Prop} {B : Addr -> Prop} (hB : ∀ b, B b -> ∃ ys, H b = some (.lst ys)) : ∀ {v : V} {d : D}, Rep H (fun b => U b /\ ¬ B b) v d -> L3.lf d = true -> Rep H U v d
 | _, _, .non, _ => .non
 | _, _, .bl b, _ => .bl b
 | _, _, .int i, _ => .int i
 | _, _, .str x, _ => .str x
 | _, _, .lst r n t, h => by simp [L3.lf] at h
 | _, _, .exc r n, h => by simp [L3.lf] at h
 | _, _, @Rep.tup _ _ _ a _ _ r n t, h => .tup r (fun z => by
   by_cases hb : B a
   ·obtain ⟨ys, e⟩ := hB _ hb
    rcases r with r | ⟨o, r⟩ <;> (rw [r] at e; cases e)
   ·exact n ⟨z, hb⟩) (Reps.lf hB t (by simpa [L3.lf] using h))
theorem Reps.lf {H : Hp} {U : Addr -> Prop} {B : Addr -> Prop} (hB : ∀ b, B b -> ∃ ys, H b = some (.lst ys)) : ∀ {vs : List V} {ds : List D}, Reps H (fun b => U b /\ ¬ B b) vs ds -> lfs ds = true -> Reps H U vs ds
 | _, _, .nil, _ => .nil
 | _, _, .cons r t, h => by
  rw [lfs, Bool.and_eq_true] at h
  exact .cons (Rep.lf hB r h.1) (Reps.lf hB t h.2)
end
def lfT : Bool -> D -> Bool
 | true, .list ds => lfs ds
 | _, d => lf d
def eFA (fr : Bool) (F : List D -> Res D) (m : Ev -> Res (List D)) : Ev -> Res D := fun ρ => (m ρ).bind fun ds => (F ds).bind fun d => if lfT fr d then .ok d else .no
theorem zG7 {C : Ct} {k : Nat} {f : Addr} {fd : FuncData} {ps : List Str} {F : List D -> Res D} {x : Str} {p pos : Pos} {e : Expr} {es : List Expr} {ms : Ev -> Res (List D)} {st : Stmt} (G : FnOk C.X.prog C.X.w C.X.K C.X.mg C.X.base CX0 k f fd ps (spF false F)) (hh : Has C.X.K C.X.mg x st f fd ps) (hr : Room k C.X.A)
  (hx : ∀ c H, C.XE c H -> False) (ha : RArg C true (e :: es) ms) (hg : autoParam (Gl C.X x) zX._auto_1) (hdb : autoParam ((x == ("__debug__" : Str)) = false) zJ._auto_1) (he : autoParam (starEach (e :: es) C.X.env = (false, eval e C.X.env) :: starEach es C.X.env) zX._auto_1) (hpl : autoParam ((backTo pos (starEach es C.X.env)).any (·.1) = false) zX._auto_1) :
  RE C .cl (.Call (.Name x p) (e :: es) [] pos) (eF F ms) :=
 yV1 (fr := false) G hh hr hx ha hg hdb he hpl
def i2 (f : Int -> Int -> Option Int) : D -> D -> Option D
 | .int i, .int j => (f i j).map PyData.int
 | _, _ => none
theorem zV2 {f : Int -> Int -> Option Int} {x y d : D} (h : i2 f x y = some d) : ∃ i j k, x = .int i /\ y = .int j /\ f i j = some k /\ d = .int k := by
 cases x with
 | int i =>
  cases y with
  | int j =>
   obtain ⟨k, e, rfl⟩ := Option.map_eq_some_iff.mp (show (f i j).map PyData.int = some d from h)
   exact ⟨i, j, k, rfl, rfl, e, rfl⟩
  | _ => cases h
 | _ => cases h
theorem yI5 {C : Int -> Int -> Prop} {g : Int -> Int -> Int} {f : Int -> Int -> Option Int} (hf : ∀ i j k, f i j = some k -> C i j /\ k = g i j) : Pr2 (rI C fun i j => .int (g i j)) .cl (i2 f) := by
 intro Oc Ob H x y dx dy d Q oh vx vy e k
 obtain ⟨i, j, n, rfl, rfl, ef, rfl⟩ := zV2 e
 obtain ⟨hc, rfl⟩ := hf i j n ef
 exact ⟨i, j, vx.int, vy.int, hc, k _ H (Same.refl H) (Rep.int _)⟩
theorem zB4 {g : Int -> Int -> Int} : Pr2 (rI0 fun i j => .int (g i j)) .cl (i2 fun i j => some (g i j)) := by
 intro Oc Ob H x y dx dy d Q oh vx vy e k
 obtain ⟨i, j, n, rfl, rfl, ef, rfl⟩ := zV2 e
 cases ef
 exact ⟨i, j, vx.int, vy.int, k _ H (Same.refl H) (Rep.int _)⟩
abbrev addI : D -> D -> Option D := i2 fun i j => some (i + j)
abbrev subI : D -> D -> Option D := i2 fun i j => some (i - j)
def MulOk (i j : Int) : Prop := CMul i j \/ (Small i /\ Small j)
def DivOk (j : Int) : Prop := 0 < j /\ j.natAbs.log2 < 9000
instance (j : Int) : Decidable (DivOk j) := by unfold DivOk; infer_instance
def modO (i j : Int) : Option Int := if 0 < j then some (i % j) else none
abbrev modI : D -> D -> Option D := i2 modO
section
variable {X : Cx}
theorem yZ9 : OpR X (binaryOp .Mult) (rI MulOk fun i j => .int (i * j)) := opI fun _ _ _ _ _ _ _ hc q => mul_int q (hc.elim CMul.ok fun h => .of_bits h.1.bits h.2.bits)
theorem zE9 : OpR X (binaryOp .FloorDiv) (rI (fun _ j => DivOk j) fun i j => .int (i / j)) := opI fun i j _ _ _ _ _ hc q => by
 refine floordiv_int (by have := hc.1; bv_omega) ?_ (.inl (PyProof.noPylong_of_log2 hc.2))
 rw [Int.fdiv_eq_ediv_of_nonneg _ (by have := hc.1; bv_omega)]
 exact q
end
theorem zO4 {i j k : Int} (h : modO i j = some k) : 0 < j /\ k = i % j := by
 unfold modO at h
 split at h
 ·cases h; exact ⟨by assumption, rfl⟩
 ·cases h
theorem DivOk.small {j : Int} (h : 0 < j) (h2 : j < 1073741824) : DivOk j := by
 refine ⟨h, ?_⟩
 have h30 : j.natAbs.log2 < 30 := (Nat.log2_lt (by bv_omega)).mpr (by bv_omega)
 bv_omega
theorem MulOk.right {i j : Int} (h : -(2 ^ 64) < j) (h2 : j < 2 ^ 64) : MulOk i j := .inl (.inr ⟨h, h2⟩)
theorem yR3 : Pr2 (rI0 fun i j => .int (i + j)) .cl addI := zB4
theorem zZ1 : Pr2 (rI0 fun i j => .int (i - j)) .cl subI := zB4
theorem zJ8 : Pr2 (rI (fun _ j => 0 < j) fun i j => .int (i % j)) .cl modI := yI5 fun _ _ _ h => zO4 h
def c2 (f : Int -> Int -> Bool) : D -> D -> Option Bool
 | .int i, .int j => some (f i j)
 | _, _ => none
theorem zR3 {f : Int -> Int -> Bool} : PrB (rI0 fun i j => .bl (f i j)) (c2 f) := by
 intro Oc Ob H x y dx dy b Q vx vy e k
 cases dx with
 | int i =>
  cases dy with
  | int j =>
   cases e
   exact ⟨_, _, vx.int, vy.int, k⟩
  | _ => cases e
 | _ => cases e
abbrev ltI : D -> D -> Option Bool := c2 fun i j => decide (i < j)
abbrev leI : D -> D -> Option Bool := c2 fun i j => decide (i <= j)
abbrev gtI : D -> D -> Option Bool := c2 fun i j => decide (j < i)
abbrev geI : D -> D -> Option Bool := c2 fun i j => decide (j <= i)
theorem dR : PrB (rI0 fun i j => .bl (decide (i < j))) ltI := zR3
theorem fI : PrB (rI0 fun i j => .bl (decide (i <= j))) leI := zR3
theorem zP9 : PrB (rI0 fun i j => .bl (decide (j < i))) gtI := zR3
theorem yL2 : PrB (rI0 fun i j => .bl (decide (j <= i))) geI := zR3
def eqD (x y : D) : Option Bool := if SeqAt.shaped x = true /\ SeqAt.shaped y = true then some (PyData.eqv x y) else none
def neD (x y : D) : Option Bool := if SeqAt.shaped x = true /\ SeqAt.shaped y = true then some (!PyData.eqv x y) else none
theorem jL {K : KFr} : PrB (rEqD K false) eqD := by
 intro Oc Ob H x y dx dy b Q vx vy e k
 unfold eqD at e
 split at e
 ·rename_i h
  cases e
  exact ⟨dx, dy, vx.datS h.1, vy.datS h.2, h.1, h.2, k⟩
 ·cases e
theorem uG {K : KFr} : PrB (rEqD K true) neD := by
 intro Oc Ob H x y dx dy b Q vx vy e k
 unfold neD at e
 split at e
 ·rename_i h
  cases e
  exact ⟨dx, dy, vx.datS h.1, vy.datS h.2, h.1, h.2, k⟩
 ·cases e
def isND (neg : Bool) : D -> D -> Option Bool
 | .none, .none => some (!neg)
 | _, .none => some neg
 | _, _ => none
theorem zK5 {Oc : Wd} {Ob : Addr -> Prop} {H : Hp} {x : V} {d : D} (h : VA Oc Ob H x d) : decide (x = .non) = (match d with | .none => true | _ => false) := by
 rcases h with h | ⟨a, ys, ds, rfl, rfl, e3, e5⟩
 ·cases h <;> rfl
 ·rfl
theorem zP2 : PrB (fun x y H Q => y = .non /\ Q (.bl (decide (x = .non))) H) (isND false) := by
 intro Oc Ob H x y dx dy b Q vx vy e k
 cases dy with
 | none =>
  refine ⟨vy.none, ?_⟩
  rw [zK5 vx]
  cases dx <;> (simp only [isND] at e; cases e; exact k)
 | _ => cases dx <;> cases e
theorem fS : PrB (fun x y H Q => y = .non /\ Q (.bl (!decide (x = .non))) H) (isND true) := by
 intro Oc Ob H x y dx dy b Q vx vy e k
 cases dy with
 | none =>
  refine ⟨vy.none, ?_⟩
  rw [zK5 vx]
  cases dx <;> (simp only [isND] at e; cases e; exact k)
 | _ => cases dx <;> cases e
def flD : D -> Bool
 | .none => true
 | .bool _ => true
 | .int _ => true
 | .str _ => true
 | _ => false
def eqF : D -> D -> Bool
 | .none, .none => true
 | .bool a, .bool b => a == b
 | .bool a, .int b => (if a then 1 else 0) == b
 | .int a, .bool b => a == (if b then 1 else 0)
 | .int a, .int b => a == b
 | .str a, .str b => a == b
 | _, _ => false
theorem fL {H : Hp} {O : Addr -> Prop} {v : V} {d : D} (h : Rep H O v d) (f : flD d = true) : flatV v = true := by
 cases h <;> first | rfl | cases f
theorem zA1 {H : Hp} {O O' : Addr -> Prop} {v v' : V} {d d' : D} (h : Rep H O v d) (h' : Rep H O' v' d') (f : flD d = true) (f' : flD d' = true) : eqV v v' = eqF d d' := by
 cases h <;> cases h' <;> first | rfl | cases f | cases f'
theorem hU {H : Hp} {O : Addr -> Prop} : ∀ {vs : List V} {ds : List D}, Reps H O vs ds -> ds.all flD = true -> vs.all flatV = true
 | _, _, .nil, _ => rfl
 | _, _, .cons h t, f => by
  rw [List.all_cons, Bool.and_eq_true] at f ⊢
  exact ⟨fL h f.1, hU t f.2⟩
theorem fO {H : Hp} {O O' : Addr -> Prop} {x : V} {dx : D} (hx : Rep H O' x dx) (fx : flD dx = true) : ∀ {vs : List V} {ds : List D}, Reps H O vs ds -> ds.all flD = true -> inV x vs = ds.any fun y => eqF y dx
 | _, _, .nil, _ => rfl
 | _, _, .cons h t, f => by
  rw [List.all_cons, Bool.and_eq_true] at f
  have ih := fO hx fx t f.2
  unfold inV at ih ⊢
  rw [List.any_cons, List.any_cons, ih, zA1 h hx f.1 fx]
def inD (neg : Bool) (x y : D) : Option Bool := (seqD y).bind fun ds => if flD x = true /\ ds.all flD = true then some (if neg then !ds.any (fun z => eqF z x) else ds.any fun z => eqF z x) else none
theorem yW6 {Oc : Wd} {Ob : Addr -> Prop} {H : Hp} {x : V} {d : D} (h : VA Oc Ob H x d) (f : flD d = true) : Rep H (Uni Oc Ob) x d := by
 rcases h with h | ⟨a, ys, ds, rfl, rfl, e3, e5⟩
 ·exact h
 ·cases f
theorem fH {K : KFr} {neg : Bool} : PrB (rIn K neg) (inD neg) := by
 intro Oc Ob H x y dx dy b Q vx vy e k
 unfold inD at e
 obtain ⟨ds, e1, e⟩ := Option.bind_eq_some_iff.mp e
 split at e
 ·rename_i h
  cases e
  have rx := yW6 vx h.1
  cases dy with
  | list ds' =>
   cases e1
   obtain ⟨a, ys, rfl, rd, rs⟩ := vy.list
   refine ⟨a, ys, rfl, .inl (.inl rd), fL rx h.1, hU rs h.2, ?_⟩
   rw [fO rx h.1 rs h.2]
   exact k
  | tuple ds' =>
   cases e1
   obtain ⟨a, ys, rfl, rd, rs⟩ := vy.tuple
   refine ⟨a, ys, rfl, .inr (.inl rd), fL rx h.1, hU rs h.2, ?_⟩
   rw [fO rx h.1 rs h.2]
   exact k
  | _ => cases e1
 ·cases e
def ixD : D -> D -> Option D
 | .list ds, .int i => atI ds i
 | .tuple ds, .int i => atI ds i
 | _, _ => none
theorem zY9 {H : Hp} {O : Addr -> Prop} {vs : List V} {ds : List D} {i : Int} {d : D} (r : Reps H O vs ds) (h : atI ds i = some d) : ∃ v, atI vs i = some v /\ Rep H O v d := by
 unfold atI at h ⊢
 obtain ⟨j, e1, e2⟩ := Option.bind_eq_some_iff.mp h
 obtain ⟨v, ev, rv⟩ := r.get e2
 refine ⟨v, ?_, rv⟩
 rw [r.length, e1]
 exact ev
theorem yL {K : KFr} : Pr2 (rIx K) .cl ixD := by
 intro Oc Ob H x y dx dy d Q oh vx vy e k
 cases dx with
 | list ds =>
  cases dy with
  | int i =>
   obtain ⟨a, ys, rfl, rd, rs⟩ := vx.list
   obtain ⟨v, ev, rv⟩ := zY9 rs e
   exact .inl ⟨a, ys, i, v, rfl, vy.int, .inl rd, ev, k v H (Same.refl H) rv⟩
  | _ => cases e
 | tuple ds =>
  cases dy with
  | int i =>
   obtain ⟨a, ys, rfl, rd, rs⟩ := vx.tuple
   obtain ⟨v, ev, rv⟩ := zY9 rs e
   exact .inr (.inl ⟨a, ys, i, v, rfl, vy.int, .inl rd, ev, k v H (Same.refl H) rv⟩)
  | _ => cases e
 | _ => cases e
def rCatR : R2 := fun x y H Q => ∃ l b xs zs, x = .ref l /\ y = .ref b /\ Rd H l (.lst xs) /\ Rd H b (.lst zs) /\ xs.length + zs.length <= sizeLine /\ ∀ p, H p = none -> Q (.ref p) (upd H p (.lst (xs ++ zs)))
theorem Rd.lstM {X : Cx} {pins : List (Addr × Obj)} {σ : St} {H : Hp} {s : Shared} {l : Addr} {xs : List V} (I : Inv X pins σ H s) (hH : Rd H l (.lst xs)) : xs.length <= sizeLine /\ ∃ (its : List Value) (n : Nat), Vals xs its /\ xs.length = its.length /\ s.heap.get? l = some { cls := .type "list", data := .seq its.toArray n } := by
 obtain ⟨z, its, n, r, e⟩ := hH.ok I.hok
 exact ⟨z, its, n, r, r.length, e⟩
section
variable {X : Cx}
theorem wG : OpR X (binaryOp .Add) rCatR := by
 intro pins s σ H x y v u Q I rx ry h
 obtain ⟨l, b, xs, zs, rfl, rfl, hH, hB, hz, q⟩ := h
 cases rx
 cases ry
 obtain ⟨z, its, n, r, hl, e⟩ := Rd.lstM I hH
 obtain ⟨z2, its2, n2, r2, hl2, e2⟩ := Rd.lstM I hB
 refine PySem.P.add_list e e2 ?_ (by rw [List.size_toArray, List.size_toArray]; bv_omega)
 have ea : its.toArray ++ its2.toArray = (its ++ its2).toArray := by simp
 rw [ea]
 exact ⟨.ref _, _, I.lnew (t' := s.toks) (r.append r2) (by rw [List.length_append]; bv_omega), rfl, q _ I.fresh⟩
def rRepR : R2 := fun x y H Q => ∃ l k xs, x = .ref l /\ y = .int k /\ Rd H l (.lst xs) /\ -(2 ^ 63) <= k /\ k < 2 ^ 63 /\ xs.length * k.toNat <= sizeLine /\
 ∀ p, H p = none -> Q (.ref p) (upd H p (.lst (List.replicate k.toNat xs).flatten))
theorem zW8 : OpR X (binaryOp .Mult) rRepR := by
 intro pins s σ H x y v u Q I rx ry h
 obtain ⟨l, k, xs, rfl, rfl, hH, h1, h2, hz, q⟩ := h
 cases rx
 obtain ⟨t, rfl⟩ := ry
 obtain ⟨z, its, n, r, hl, e⟩ := Rd.lstM I hH
 have hlen : its.toArray.size * k.toNat <= sizeLine := by rw [List.size_toArray, <- hl]; exact hz
 have hcap : ¬ its.toArray.size * k.toNat > (2 ^ 63 - 1) / 8 := by
  have : (sizeLine : Nat) <= (2 ^ 63 - 1) / 8 := by decide
  bv_omega
 have hfit : ¬ (!Builtin.List.listFitsIndex k) = true := by
  rw [fitsIndex_both h1 h2]
  exact Bool.false_ne_true
 have hlong : ¬ Builtin.List.listTooLong (its.toArray.size * k.toNat) = true := by
  rw [notLongL hlen]
  exact Bool.false_ne_true
 have hnew : List.foldl (fun x1 x2 => x1 ++ x2) #[] (List.replicate (if its.toArray.isEmpty = true then 0 else k.toNat) its.toArray) = (List.replicate k.toNat its).flatten.toArray := by
  have f0 : ∀ m : Nat, List.foldl (fun x1 x2 => x1 ++ x2) #[] (List.replicate m its.toArray) = (List.replicate m its).flatten.toArray := fun m => by
   have := bU its m []
   rw [List.nil_append] at this
   exact this
  rw [f0]
  cases its with
  | nil => simp
  | cons a r' => rw [if_neg (by simp)]
 refine wpAny_binaryOp_repeat_ref (T := "list") (U := "int") (by decide) ⟨_, e, rfl⟩ (fun s' => typeIs_int s' k t) noFill_list_mul F.fills_int_mul F.slot_int_rmul repeat_list F.slot_int_index.lookup
  (call_meets F.slot_int_rmul (typeIs_int s k t) F.entry_int_rmul (F.args_int_rmul_2 _ _) (int___rmul___int_list k t l its.toArray n)
   ⟨e, rfl, ⟨_, e, rfl⟩, call_meets F.slot_list_mul ⟨_, e, rfl⟩ F.entry_list_mul (F.args_list_mul_2 _ _) (AutoListH.list___mul___list_int_3 l its.toArray n k t hfit hcap hlong) ⟨e, ?_⟩⟩)
 rw [hnew]
 exact ⟨.ref _, _, I.lnew (t' := s.toks) (r.rep k.toNat) (by rw [yV2, Nat.mul_comm]; exact hz), rfl, q _ I.fresh⟩
end
def catL : D -> D -> Option D
 | .list xs, .list ys => if xs.length + ys.length <= sizeLine then some (.list (xs ++ ys)) else none
 | _, _ => none
theorem jN : Pr2 rCatR .new catL := by
 intro Oc Ob H x y dx dy d Q oh vx vy e k
 cases dx with
 | list xs =>
  cases dy with
  | list ys =>
   obtain ⟨a, vs, rfl, rd, rs⟩ := vx.list
   obtain ⟨b, ws, rfl, rd', rs'⟩ := vy.list
   unfold catL at e
   simp only at e
   split at e
   ·rename_i hl
    cases e
    refine ⟨a, b, vs, ws, rfl, rfl, rd, rd', by rw [rs.length, rs'.length]; exact hl, fun p hp => k _ _ (Same.new hp) (xA (Same.refl H) hp (rs.append rs'))⟩
   ·cases e
  | _ => cases e
 | _ => cases e
def repL : D -> D -> Option D
 | .list xs, .int k => if -(2 ^ 63) <= k /\ k < 2 ^ 63 /\ xs.length * k.toNat <= sizeLine then some (.list (List.replicate k.toNat xs).flatten) else none
 | _, _ => none
theorem yT1 : Pr2 rRepR .new repL := by
 intro Oc Ob H x y dx dy d Q oh vx vy e k
 cases dx with
 | list xs =>
  cases dy with
  | int j =>
   obtain ⟨a, vs, rfl, rd, rs⟩ := vx.list
   unfold repL at e
   simp only at e
   split at e
   ·rename_i hl
    cases e
    refine ⟨a, j, vs, rfl, vy.int, rd, hl.1, hl.2.1, by rw [rs.length]; exact hl.2.2, fun p hp => k _ _ (Same.new hp) (xA (Same.refl H) hp (rs.rep _))⟩
   ·cases e
  | _ => cases e
 | _ => cases e
def lenD : List D -> Option D
 | [d] => (seqD d).map fun ds => .int ds.length
 | _ => none
theorem xH {K : KFr} : PrC (fun xs H Q => ∃ p ys, xs = [.ref p] /\ (SqL K H p ys \/ SqT K H p ys) /\ Q (.int ys.length) H) .cl lenD := by
 intro Oc Ob H vs ds d Q oh va e k
 cases ds with
 | nil => cases e
 | cons x xs =>
  cases xs with
  | cons => cases e
  | nil =>
   obtain ⟨v, rfl, vx⟩ := va.one
   obtain ⟨es, e1, rfl⟩ := Option.map_eq_some_iff.mp e
   cases x with
   | list ds' =>
    cases e1
    obtain ⟨a, ys, rfl, rd, rs⟩ := vx.list
    exact ⟨a, ys, rfl, .inl (.inl rd), k _ H (Same.refl H) (by rw [rs.length]; exact Rep.int _)⟩
   | tuple ds' =>
    cases e1
    obtain ⟨a, ys, rfl, rd, rs⟩ := vx.tuple
    exact ⟨a, ys, rfl, .inr (.inl rd), k _ H (Same.refl H) (by rw [rs.length]; exact Rep.int _)⟩
   | _ => cases e1
def listD : List D -> Option D
 | [d] => (seqD d).map fun ds => .list ds
 | _ => none
theorem dB {K : KFr} : PrC (fun xs H Q => ∃ p ys, xs = [.ref p] /\ (SqL K H p ys \/ SqT K H p ys) /\ ∀ l, H l = none -> Q (.ref l) (upd H l (.lst ys))) .new listD := by
 intro Oc Ob H vs ds d Q oh va e k
 cases ds with
 | nil => cases e
 | cons x xs =>
  cases xs with
  | cons => cases e
  | nil =>
   obtain ⟨v, rfl, vx⟩ := va.one
   obtain ⟨es, e1, rfl⟩ := Option.map_eq_some_iff.mp e
   cases x with
   | list ds' =>
    cases e1
    obtain ⟨a, ys, rfl, rd, rs⟩ := vx.list
    exact ⟨a, ys, rfl, .inl (.inl rd), fun l hl => k _ _ (Same.new hl) (xA (Same.refl H) hl rs)⟩
   | tuple ds' =>
    cases e1
    obtain ⟨a, ys, rfl, rd, rs⟩ := vx.tuple
    exact ⟨a, ys, rfl, .inr (.inl rd), fun l hl => k _ _ (Same.new hl) (xA (Same.refl H) hl rs)⟩
   | _ => cases e1
def tupD : List D -> Option D
 | [d] => (seqD d).map fun ds => .tuple ds
 | _ => none
theorem qE {K : KFr} : PrC (fun xs H Q => ∃ p ys, xs = [.ref p] /\ ((SqL K H p ys /\ ∀ l, H l = none -> Q (.ref l) (upd H l (.tup ys))) \/ (SqT K H p ys /\ Q (.ref p) H))) .cl tupD := by
 intro Oc Ob H vs ds d Q oh va e k
 cases ds with
 | nil => cases e
 | cons x xs =>
  cases xs with
  | cons => cases e
  | nil =>
   obtain ⟨v, rfl, vx⟩ := va.one
   obtain ⟨es, e1, rfl⟩ := Option.map_eq_some_iff.mp e
   cases x with
   | list ds' =>
    cases e1
    obtain ⟨a, ys, rfl, rd, rs⟩ := vx.list
    exact ⟨a, ys, rfl, .inl ⟨.inl rd, fun l hl => k _ _ (Same.new hl) (jP oh hl rs)⟩⟩
   | tuple ds' =>
    cases e1
    rcases vx with vx | ⟨a, ys, ds, rfl, ez, _⟩
    ·cases vx with
     | tup rd n rs => exact ⟨_, _, rfl, .inr ⟨.inl rd, k _ H (Same.refl H) (.tup rd n rs)⟩⟩
    ·cases ez
   | _ => cases e1
def intsOf : List D -> Option (List Int)
 | [] => some []
 | .int i :: ds => (intsOf ds).map (i :: ·)
 | _ :: _ => none
@[simp] theorem intsOf_map : ∀ ns : List Int, intsOf (ns.map PyData.int) = some ns
 | [] => rfl
 | n :: ns => by rw [List.map_cons, intsOf, intsOf_map ns]; rfl
theorem wS : ∀ {ds : List D} {ns : List Int}, intsOf ds = some ns -> ds = ns.map PyData.int
 | [], ns, h => by cases h; rfl
 | d :: ds, ns, h => by
  cases d with
  | int i =>
   obtain ⟨ms, e, rfl⟩ := Option.map_eq_some_iff.mp (show (intsOf ds).map (i :: ·) = some ns from h)
   rw [wS e]; rfl
  | _ => cases h
def boolsOf : List D -> Option (List Bool)
 | [] => some []
 | .bool i :: ds => (boolsOf ds).map (i :: ·)
 | _ :: _ => none
@[simp] theorem boolsOf_map : ∀ ns : List Bool, boolsOf (ns.map PyData.bool) = some ns
 | [] => rfl
 | n :: ns => by rw [List.map_cons, boolsOf, boolsOf_map ns]; rfl
theorem hR : ∀ {ds : List D} {ns : List Bool}, boolsOf ds = some ns -> ds = ns.map PyData.bool
 | [], ns, h => by cases h; rfl
 | d :: ds, ns, h => by
  cases d with
  | bool i =>
   obtain ⟨ms, e, rfl⟩ := Option.map_eq_some_iff.mp (show (boolsOf ds).map (i :: ·) = some ns from h)
   rw [hR e]; rfl
  | _ => cases h
def nsD (d : D) : Option (List Int) := (seqD d).bind intsOf
theorem zK2 {K : KFr} {Oc : Wd} {Ob : Addr -> Prop} {H : Hp} {x : V} {d : D} {ns : List Int} (h : VA Oc Ob H x d) (e : nsD d = some ns) : ∃ p, x = .ref p /\ (SqL K H p (ns.map V.int) \/ SqT K H p (ns.map V.int)) := by
 obtain ⟨ds, e1, e2⟩ := Option.bind_eq_some_iff.mp e
 obtain rfl := wS e2
 cases d with
 | list ds' =>
  cases e1
  obtain ⟨a, ys, rfl, rd, rs⟩ := h.list
  rw [rs.ints] at rd
  exact ⟨a, rfl, .inl (.inl rd)⟩
 | tuple ds' =>
  cases e1
  obtain ⟨a, ys, rfl, rd, rs⟩ := h.tuple
  rw [rs.ints] at rd
  exact ⟨a, rfl, .inr (.inl rd)⟩
 | _ => cases e1
def sumD : List D -> Option D
 | [.list ds] => (intsOf ds).map fun ns => .int ns.sum
 | _ => none
theorem yQ5 {K : KFr} : PrC (fun xs H Q => ∃ (p : Addr) (ns : List Int), xs = [.ref p] /\ SqL K H p (ns.map V.int) /\ Q (.int ns.sum) H) .cl sumD := by
 intro Oc Ob H vs ds d Q oh va e k
 unfold sumD at e
 split at e
 ·obtain ⟨ns, e1, rfl⟩ := Option.map_eq_some_iff.mp e
  obtain ⟨v, rfl, vx⟩ := va.one
  obtain ⟨a, ys, rfl, rd, rs⟩ := vx.list
  rw [wS e1] at rs
  rw [rs.ints] at rd
  exact ⟨a, ns, rfl, .inl rd, k _ H (Same.refl H) (Rep.int _)⟩
 ·cases e
def allD : List D -> Option D
 | [.list ds] => (boolsOf ds).map fun bs => .bool (bs.all id)
 | _ => none
theorem yQ1 {K : KFr} : PrC (fun xs H Q => ∃ (p : Addr) (bs : List Bool), xs = [.ref p] /\ SqL K H p (bs.map V.bl) /\ Q (.bl (bs.all id)) H) .cl allD := by
 intro Oc Ob H vs ds d Q oh va e k
 unfold allD at e
 split at e
 ·obtain ⟨ns, e1, rfl⟩ := Option.map_eq_some_iff.mp e
  obtain ⟨v, rfl, vx⟩ := va.one
  obtain ⟨a, ys, rfl, rd, rs⟩ := vx.list
  rw [hR e1] at rs
  rw [rs.bools] at rd
  exact ⟨a, ns, rfl, .inl rd, k _ H (Same.refl H) (Rep.bl _)⟩
 ·cases e
def tyD : D -> String
 | .none => "NoneType"
 | .bool _ => "bool"
 | .int _ => "int"
 | .str _ => "str"
 | .list _ => "list"
 | .tuple _ => "tuple"
 | .dict _ => "dict"
def subTy (t T : String) : Bool := t == T || (t == "bool" && T == "int")
structure Kit (K : KFr) (T : String) : Prop where
 non : PySem.W.kitOne K (.type "NoneType") (.type T) = some (subTy "NoneType" T)
 bl : PySem.W.kitOne K (.type "bool") (.type T) = some (subTy "bool" T)
 int : PySem.W.kitOne K (.type "int") (.type T) = some (subTy "int" T)
 str : PySem.W.kitOne K (.type "str") (.type T) = some (subTy "str" T)
 lst : PySem.W.kitOne K (.type "list") (.type T) = some (subTy "list" T)
 tup : PySem.W.kitOne K (.type "tuple") (.type T) = some (subTy "tuple" T)
section
variable {X : Cx}
end
def isiD (T : String) : D -> Option D
 | .dict _ => none
 | d => some (.bool (subTy (tyD d) T))
theorem cR {s : Shared} {J : Addr} {hp h' : Heap} (keep : ∀ b o, s.heap.get? b = some o -> b ≠ J /\ hp.get? b = some o) (hk : ∀ b o, b ∉ [J] -> hp.get? b = some o -> h'.get? b = some o) : ∀ b o, s.heap.get? b = some o -> h'.get? b = some o :=
 fun b o e => hk b o (by simpa using (keep b o e).1) (keep b o e).2
theorem qI (xs : Array (Int × Tok)) : (intItems xs).size = xs.size := by simp [intItems]
section
variable {prog : Program} {w : World} {A : Around} {E : Value -> Shared -> Prop} {s : Shared} {l : Addr} {xs : Array (Int × Tok)} {Q : Value -> Shared -> Prop}
theorem yU2 (hh : A.handled = none) (hl : s.heap.IsTuple l (intItems xs)) (ne : 0 < xs.size)
  (k : ∀ v h' tk, (intItems xs)[argBest (fun i j => decide (numAt xs i < numAt xs j)) (xs.size - 1)]? = some v -> (∀ b o, s.heap.get? b = some o -> h'.get? b = some o) -> Q v { s with heap := h', toks := tk }) : wpAny (model prog w) A (call (.builtin "min") [.ref l]) Q E s :=
 call_min_walk (aS (A := A.in1) hh hl fun J hp St W st a b keep => ⟨_, _, _, _, _, _, _, rfl, W, st, by simp [a, b], by rw [qI]; exact ne, .ints_lt (numAt xs) (fun _ _ => intItems_at), fun v h' tk at_ hk => k v h' tk (by rw [qI] at at_; exact at_) (cR keep hk)⟩)
theorem yV3 (hh : A.handled = none) (hl : s.heap.IsTuple l (intItems xs)) (ne : 0 < xs.size)
  (k : ∀ v h' tk, (intItems xs)[argBest (fun i j => decide (numAt xs i > numAt xs j)) (xs.size - 1)]? = some v -> (∀ b o, s.heap.get? b = some o -> h'.get? b = some o) -> Q v { s with heap := h', toks := tk }) : wpAny (model prog w) A (call (.builtin "max") [.ref l]) Q E s :=
 call_max_walk (aS (A := A.in1) hh hl fun J hp St W st a b keep => ⟨_, _, _, _, _, _, _, rfl, W, st, by simp [a, b], by rw [qI]; exact ne, .ints_gt (numAt xs) (fun _ _ => intItems_at), fun v h' tk at_ hk => k v h' tk (by rw [qI] at at_; exact at_) (cR keep hk)⟩)
end
def minL : List Int -> Int
 | [] => 0
 | n :: ns => ns.foldl (fun a b => if b < a then b else a) n
def maxL : List Int -> Int
 | [] => 0
 | n :: ns => ns.foldl (fun a b => if b > a then b else a) n
theorem qP : ∀ (ns : List Int) (n : Int), (ns.foldl (fun a b => if b < a then b else a) n = n \/ ns.foldl (fun a b => if b < a then b else a) n ∈ ns) /\ ns.foldl (fun a b => if b < a then b else a) n <= n /\ ∀ m ∈ ns, ns.foldl (fun a b => if b < a then b else a) n <= m
 | [], n => ⟨.inl rfl, Int.le_refl _, fun m h => nomatch h⟩
 | b :: ns, n => by
  obtain ⟨h1, h2, h3⟩ := qP ns (if b < n then b else n)
  rw [List.foldl_cons]
  refine ⟨?_, ?_, fun m hm => ?_⟩
  ·rcases h1 with h1 | h1
   ·rw [h1]
    split
    ·exact .inr List.mem_cons_self
    ·exact .inl rfl
   ·exact .inr (List.mem_cons_of_mem _ h1)
  ·refine Int.le_trans h2 ?_
   split <;> bv_omega
  ·rcases List.mem_cons.mp hm with rfl | hm
   ·refine Int.le_trans h2 ?_
    split <;> bv_omega
   ·exact h3 m hm
theorem qJ : ∀ (ns : List Int) (n : Int), (ns.foldl (fun a b => if b > a then b else a) n = n \/ ns.foldl (fun a b => if b > a then b else a) n ∈ ns) /\ n <= ns.foldl (fun a b => if b > a then b else a) n /\ ∀ m ∈ ns, m <= ns.foldl (fun a b => if b > a then b else a) n
 | [], n => ⟨.inl rfl, Int.le_refl _, fun m h => nomatch h⟩
 | b :: ns, n => by
  obtain ⟨h1, h2, h3⟩ := qJ ns (if b > n then b else n)
  rw [List.foldl_cons]
  refine ⟨?_, ?_, fun m hm => ?_⟩
  ·rcases h1 with h1 | h1
   ·rw [h1]
    split
    ·exact .inr List.mem_cons_self
    ·exact .inl rfl
   ·exact .inr (List.mem_cons_of_mem _ h1)
  ·refine Int.le_trans ?_ h2
   split <;> bv_omega
  ·rcases List.mem_cons.mp hm with rfl | hm
   ·refine Int.le_trans ?_ h2
    split <;> bv_omega
   ·exact h3 m hm
theorem zZ6 {ns : List Int} (h : ns ≠ []) : minL ns ∈ ns := by
 cases ns with
 | nil => exact absurd rfl h
 | cons n ns =>
  rcases (qP ns n).1 with e | e
  ·show List.foldl _ n ns ∈ _
   rw [e]; exact List.mem_cons_self
  ·exact List.mem_cons_of_mem _ e
theorem zV6 {ns : List Int} {m : Int} (h : m ∈ ns) : minL ns <= m := by
 cases ns with
 | nil => cases h
 | cons n ns =>
  rcases List.mem_cons.mp h with rfl | h
  ·exact (qP ns m).2.1
  ·exact (qP ns n).2.2 m h
theorem zZ5 {ns : List Int} (h : ns ≠ []) : maxL ns ∈ ns := by
 cases ns with
 | nil => exact absurd rfl h
 | cons n ns =>
  rcases (qJ ns n).1 with e | e
  ·show List.foldl _ n ns ∈ _
   rw [e]; exact List.mem_cons_self
  ·exact List.mem_cons_of_mem _ e
theorem zU7 {ns : List Int} {m : Int} (h : m ∈ ns) : m <= maxL ns := by
 cases ns with
 | nil => cases h
 | cons n ns =>
  rcases List.mem_cons.mp h with rfl | h
  ·exact (qJ ns m).2.1
  ·exact (qJ ns n).2.2 m h
theorem zT9 {xs : Array (Int × Tok)} {i : Nat} (h : i < xs.size) : numAt xs i ∈ xs.toList.map (·.1) := by
 rw [numAt_eq]
 exact getD_mem (by simpa using h)
theorem zU6 {xs : Array (Int × Tok)} {a : Int} (h : a ∈ xs.toList.map (·.1)) : ∃ i, i < xs.size /\ a = numAt xs i := by
 obtain ⟨i, hi, e⟩ := mem_getD h
 exact ⟨i, by simpa using hi, by rw [numAt_eq, e]⟩
theorem zF1 {xs : Array (Int × Tok)} (h : 0 < xs.size) : numAt xs (argBest (fun i j => decide (numAt xs i < numAt xs j)) (xs.size - 1)) = minL (xs.toList.map (·.1)) := by
 have z := argBest_lt (numAt xs) (xs.size - 1)
 have m := zT9 (xs := xs) (i := argBest (fun i j => decide (numAt xs i < numAt xs j)) (xs.size - 1)) (by bv_omega)
 obtain ⟨i, hi, e⟩ := zU6 (zZ6 (List.ne_nil_of_mem m))
 have := zV6 m
 have := z.2 i (by bv_omega)
 bv_omega
theorem zC2 {xs : Array (Int × Tok)} (h : 0 < xs.size) : numAt xs (argBest (fun i j => decide (numAt xs i > numAt xs j)) (xs.size - 1)) = maxL (xs.toList.map (·.1)) := by
 have z := argBest_gt (numAt xs) (xs.size - 1)
 have m := zT9 (xs := xs) (i := argBest (fun i j => decide (numAt xs i > numAt xs j)) (xs.size - 1)) (by bv_omega)
 obtain ⟨i, hi, e⟩ := zU6 (zZ5 (List.ne_nil_of_mem m))
 have := zU7 m
 have := z.2 i (by bv_omega)
 bv_omega
section
variable {X : Cx}
theorem zJ6 (hc : X.calm = true) : CallR X (.builtin "min") (fun xs H Q => ∃ (p : Addr) (ns : List Int), xs = [.ref p] /\ (SqL X.K H p (ns.map V.int) \/ SqT X.K H p (ns.map V.int)) /\ ns ≠ [] /\ Q (.int (minL ns)) H) := by
 intro pins s σ H xs us Q I r h
 obtain ⟨p, ns, rfl, hq, hne, q⟩ := h
 obtain ⟨u, rfl, ru⟩ := vals1 r
 cases ru
 have core : ∀ (its : List Value), Vals (ns.map V.int) its -> ∃ xs : Array (Int × Tok), its.toArray = intItems xs /\ ns = xs.toList.map (·.1) := fun its rv => by
  have hi : IntsAre its ns := jC rv
  obtain ⟨xs, e⟩ := hi.allInts.items
  exact ⟨xs, e, by rw [<- hi.numsOf, <- nums_intItems, <- e]⟩
 have fin : ∀ (xs : Array (Int × Tok)), ns = xs.toList.map (·.1) -> 0 < xs.size -> ∀ (v : Value) (h' : Heap) (tk : Nat), (intItems xs)[argBest (fun i j => decide (numAt xs i < numAt xs j)) (xs.size - 1)]? = some v -> (∀ b o, s.heap.get? b = some o -> h'.get? b = some o) -> EP X pins σ Q v { s with heap := h', toks := tk } := fun xs hns hsz v h' tk hv hk => by
  obtain ⟨t, rfl⟩ := intItems_at hv
  have e := zF1 hsz
  rw [<- hns] at e
  exact ⟨.int _, H, I.kept hk, ⟨t, by rw [e]⟩, q⟩
 have sz : ∀ xs : Array (Int × Tok), ns = xs.toList.map (·.1) -> 0 < xs.size := fun xs hns => by
  rcases Nat.eq_zero_or_pos xs.size with z | z
  ·exact absurd (by rw [hns, Array.size_eq_zero_iff.mp z]; rfl) hne
  ·exact z
 rcases hq with hq | hq
 ·obtain ⟨its, rv, pl, hz⟩ := I.list hq
  obtain ⟨xs, e, hns⟩ := core its rv
  exact min_intList (I.ok.hd hc) (by rw [<- e]; exact pl.isList) (sz xs hns) (fin xs hns (sz xs hns))
 ·obtain ⟨its, rv, pl, hz⟩ := I.tuple hq
  obtain ⟨xs, e, hns⟩ := core its rv
  exact yU2 (I.ok.hd hc) (by rw [<- e]; exact pl) (sz xs hns) (fin xs hns (sz xs hns))
theorem zL7 (hc : X.calm = true) : CallR X (.builtin "max") (fun xs H Q => ∃ (p : Addr) (ns : List Int), xs = [.ref p] /\ (SqL X.K H p (ns.map V.int) \/ SqT X.K H p (ns.map V.int)) /\ ns ≠ [] /\ Q (.int (maxL ns)) H) := by
 intro pins s σ H xs us Q I r h
 obtain ⟨p, ns, rfl, hq, hne, q⟩ := h
 obtain ⟨u, rfl, ru⟩ := vals1 r
 cases ru
 have core : ∀ (its : List Value), Vals (ns.map V.int) its -> ∃ xs : Array (Int × Tok), its.toArray = intItems xs /\ ns = xs.toList.map (·.1) := fun its rv => by
  have hi : IntsAre its ns := jC rv
  obtain ⟨xs, e⟩ := hi.allInts.items
  exact ⟨xs, e, by rw [<- hi.numsOf, <- nums_intItems, <- e]⟩
 have fin : ∀ (xs : Array (Int × Tok)), ns = xs.toList.map (·.1) -> 0 < xs.size -> ∀ (v : Value) (h' : Heap) (tk : Nat), (intItems xs)[argBest (fun i j => decide (numAt xs i > numAt xs j)) (xs.size - 1)]? = some v -> (∀ b o, s.heap.get? b = some o -> h'.get? b = some o) -> EP X pins σ Q v { s with heap := h', toks := tk } := fun xs hns hsz v h' tk hv hk => by
  obtain ⟨t, rfl⟩ := intItems_at hv
  have e := zC2 hsz
  rw [<- hns] at e
  exact ⟨.int _, H, I.kept hk, ⟨t, by rw [e]⟩, q⟩
 have sz : ∀ xs : Array (Int × Tok), ns = xs.toList.map (·.1) -> 0 < xs.size := fun xs hns => by
  rcases Nat.eq_zero_or_pos xs.size with z | z
  ·exact absurd (by rw [hns, Array.size_eq_zero_iff.mp z]; rfl) hne
  ·exact z
 rcases hq with hq | hq
 ·obtain ⟨its, rv, pl, hz⟩ := I.list hq
  obtain ⟨xs, e, hns⟩ := core its rv
  exact max_intList (I.ok.hd hc) (by rw [<- e]; exact pl.isList) (sz xs hns) (fin xs hns (sz xs hns))
 ·obtain ⟨its, rv, pl, hz⟩ := I.tuple hq
  obtain ⟨xs, e, hns⟩ := core its rv
  exact yV3 (I.ok.hd hc) (by rw [<- e]; exact pl) (sz xs hns) (fin xs hns (sz xs hns))
end
def min1D : List D -> Option D
 | [d] => (nsD d).bind fun ns => if ns = [] then none else some (.int (minL ns))
 | _ => none
def max1D : List D -> Option D
 | [d] => (nsD d).bind fun ns => if ns = [] then none else some (.int (maxL ns))
 | _ => none
theorem yW9 {K : KFr} : PrC (fun xs H Q => ∃ (p : Addr) (ns : List Int), xs = [.ref p] /\ (SqL K H p (ns.map V.int) \/ SqT K H p (ns.map V.int)) /\ ns ≠ [] /\ Q (.int (minL ns)) H) .cl min1D := by
 intro Oc Ob H vs ds d Q oh va e k
 unfold min1D at e
 split at e
 ·obtain ⟨ns, e1, e⟩ := Option.bind_eq_some_iff.mp e
  split at e
  ·cases e
  ·rename_i hl
   cases e
   obtain ⟨v, rfl, vx⟩ := va.one
   obtain ⟨p, rfl, hq⟩ := zK2 vx e1
   exact ⟨p, ns, rfl, hq, hl, k _ H (Same.refl H) (Rep.int _)⟩
 ·cases e
theorem zA9 {K : KFr} : PrC (fun xs H Q => ∃ (p : Addr) (ns : List Int), xs = [.ref p] /\ (SqL K H p (ns.map V.int) \/ SqT K H p (ns.map V.int)) /\ ns ≠ [] /\ Q (.int (maxL ns)) H) .cl max1D := by
 intro Oc Ob H vs ds d Q oh va e k
 unfold max1D at e
 split at e
 ·obtain ⟨ns, e1, e⟩ := Option.bind_eq_some_iff.mp e
  split at e
  ·cases e
  ·rename_i hl
   cases e
   obtain ⟨v, rfl, vx⟩ := va.one
   obtain ⟨p, rfl, hq⟩ := zK2 vx e1
   exact ⟨p, ns, rfl, hq, hl, k _ H (Same.refl H) (Rep.int _)⟩
 ·cases e
section
variable {X : Cx}
end
section
variable {X : Cx}
def insN (n : Nat) (x : Int) : Nat := if x < 0 then (x + (n : Int)).toNat else min x.toNat n
def rInsert : V -> List V -> Hp -> VK -> Prop := fun x vs H Q => ∃ l xs i y, x = .ref l /\ vs = [.int i, y] /\ H l = some (.lst xs) /\ -(2 ^ 63) <= i /\ i < 2 ^ 63 /\ xs.length < sizeLine /\ Q .non (upd H l (.lst (xs.take (insN xs.length i) ++ y :: xs.drop (insN xs.length i))))
theorem zI9 : MtM X "list.insert" rInsert := by
 intro pins s σ H x vs v us Q I rx rv h
 obtain ⟨l, xs, i, y, rfl, rfl, hH, h1, h2, hz, q⟩ := h
 cases rx
 obtain ⟨u, w', rfl, ⟨t, rfl⟩, ry⟩ := rv.two
 obtain ⟨z, its, n, r, hl, e⟩ := I.lstM hH
 refine call_meets F.slot_list_insert ⟨_, e, rfl⟩ F.entry_list_insert (F.args_list_insert_3 _ _ _) (AutoSeq1.list_insert_list_int_val_1 l its.toArray n i t w' (by rw [fitsIndex_both h1 h2]; exact Bool.false_ne_true) (by rw [List.size_toArray]; bv_omega)) ⟨e, ?_⟩
 refine ⟨.non, _, I.lset (its' := its.take (insN its.length i) ++ w' :: its.drop (insN its.length i)) hH e ?_ (by rw [hl]; exact (r.take _).append (.cons ry (r.drop _))) ?_, rfl, q⟩
 ·show (its.toArray.extract 0 (if i < 0 then (i + (its.toArray.size : Int)).toNat else min i.toNat its.toArray.size)).push w' ++ its.toArray.extract (if i < 0 then (i + (its.toArray.size : Int)).toNat else min i.toNat its.toArray.size) = _
  rw [PySem.W.kl_ins_eq, List.size_toArray]
  rfl
 ·rw [List.length_append, List.length_cons, List.length_take, List.length_drop]
  bv_omega
end
def appD : List D -> List D -> Option (List D)
 | xs, [d] => if xs.length < sizeLine then some (xs ++ [d]) else none
 | _, _ => none
theorem Reps.one' {H : Hp} {O : Addr -> Prop} {vs : List V} {d : D} (h : Reps H O vs [d]) : ∃ v, vs = [v] /\ Rep H O v d := by
 cases h with
 | cons a t => cases t; exact ⟨_, rfl, a⟩
theorem zN6 : PrM rAppend appD := by
 intro O H l xs vs xd ad ds' Q hl rx ra e k
 unfold appD at e
 split at e
 ·split at e
  ·rename_i h
   cases e
   obtain ⟨v, rfl, rv⟩ := Reps.one' ra
   exact ⟨l, xs, v, rfl, rfl, hl, by rw [rx.length]; exact h, k _ (rx.append (.one rv))⟩
  ·cases e
 ·cases e
section
variable {i j : Nat} {m n : Ev -> Res Out} {t : Ev -> Res Bool} {me mk : Ev -> Res D} {ms mi : Ev -> Res (List D)} {g : D -> Ev -> Option Ev} {f : List D -> List D -> Option (List D)}
end
def isL : Value -> Bool
 | .type t => t == "list"
 | _ => false
def noLst (K : KFr) : Bool := K.all fun p => !isL p.2.cls
theorem zX9 {K : KFr} {a : Addr} {o : Obj} (h : K.lookup a = some o) : (a, o) ∈ K := by
 have h : List.lookup a K = some o := h
 induction K with
 | nil => cases h
 | cons p r ih =>
  obtain ⟨b, u⟩ := p
  rw [List.lookup_cons] at h
  by_cases e : (a == b) = true
  ·simp only [e] at h
   cases h
   have : a = b := by simpa using e
   rw [this]
   exact List.mem_cons_self
  ·simp only [e] at h
   exact List.mem_cons_of_mem _ (ih h h)
theorem yL1 {K : KFr} {H : Hp} {a : Addr} {xs : List V} (hn : noLst K = true) (h : SqL K H a xs) : Rd H a (.lst xs) := by
 rcases h with h | ⟨o, its, n, hk, hc, _⟩
 ·exact h
 ·have := List.all_eq_true.mp hn _ (zX9 hk)
  rw [hc] at this
  cases this
end L2.L3
namespace L2.L3
open PySem
section
variable (m n : Ev -> Res Out) (t t' : Ev -> Res Bool) (a b c : Ev -> Res D) (xs : Ev -> Res (List D)) (ρ : Ev) (i j : Nat) (d : D)
theorem fB : sN ρ = .ok (.nx ρ) := rfl
theorem yK3 : sX ρ = .no := rfl
theorem jG : sQ m n ρ = (m ρ).bind fun o => match o with | .nx ρ' => n ρ' | .rt d => .ok (.rt d) := rfl
theorem uC : sIf t m n ρ = (t ρ).bind fun k => if k then m ρ else n ρ := rfl
theorem yL9 : sR a ρ = (a ρ).bind fun d => .ok (.rt d) := rfl
theorem yK8 : sS i a ρ = (a ρ).bind fun d => .ok (.nx (ρ.set i (some d))) := rfl
theorem yM9 : sE a ρ = (a ρ).bind fun _ => .ok (.nx ρ) := rfl
theorem yL4 (g : List D -> List D -> Option (List D)) : sM i g xs ρ = (eV i ρ).bind fun d => (Res.lft (lstD d)).bind fun xd => (xs ρ).bind fun ad => (Res.lft (g xd ad)).bind fun ds => .ok (.nx (ρ.set i (some (.list ds)))) := rfl
theorem yI3 : sI i b a ρ = (a ρ).bind fun v => (eV i ρ).bind fun d => (Res.lft (lstD d)).bind fun xd => (b ρ).bind fun k => (Res.lft (setD xd k v)).bind fun ds => .ok (.nx (ρ.set i (some (.list ds)))) := rfl
theorem yL5 : sV i j ρ = (eV j ρ).bind fun d => .ok (.nx ((ρ.set i (some d)).set j none)) := rfl
theorem yL3 (g : D -> Ev -> Option Ev) : sF xs g m ρ = (xs ρ).bind fun ds => forM g m ds ρ := rfl
theorem yJ8 (k : Nat) : sW k t m ρ = whM t m k ρ := rfl
theorem kW : eC d ρ = .ok d := rfl
theorem eV0 (x : D) (r : Ev) : eV 0 (some x :: r) = .ok x := rfl
theorem eVs (o : Option D) (r : Ev) : eV (i + 1) (o :: r) = eV i r := rfl
theorem yL6 (f : D -> Option D) : e1 f a ρ = (a ρ).bind fun x => Res.lft (f x) := rfl
theorem yM8 (f : D -> D -> Option D) : e2 f a b ρ = (a ρ).bind fun x => (b ρ).bind fun y => Res.lft (f x y) := rfl
theorem jK (f : List D -> Option D) : eB f xs ρ = (xs ρ).bind fun ds => Res.lft (f ds) := rfl
theorem yK9 (f : List D -> Res D) : eF f xs ρ = (xs ρ).bind f := rfl
theorem yO2 (fr : Bool) (f : List D -> Res D) : eFA fr f xs ρ = (xs ρ).bind fun ds => (f ds).bind fun d => if lfT fr d then .ok d else .no := rfl
theorem fG (f : D -> D -> Option Bool) : b2 f a b ρ = (a ρ).bind fun x => (b ρ).bind fun y => Res.lft (f x y) := rfl
theorem kY (f g : D -> D -> Option Bool) : b3 f g a b c ρ = (a ρ).bind fun x => (b ρ).bind fun y => (Res.lft (f x y)).bind fun k => if k then (c ρ).bind fun z => Res.lft (g y z) else .ok false := rfl
theorem yM2 : vB t ρ = (t ρ).bind fun k => .ok (.bool k) := rfl
theorem yL8 : tV a ρ = (a ρ).bind fun d => Res.lft (isB d) := rfl
theorem uB : tNt t ρ = (t ρ).bind fun k => .ok (!k) := rfl
theorem yS8 : tAn t t' ρ = (t ρ).bind fun k => if k then t' ρ else .ok false := rfl
theorem fD : tO t t' ρ = (t ρ).bind fun k => if k then .ok true else t' ρ := rfl
theorem yQ4 : vAn a b ρ = (a ρ).bind fun d => (Res.lft (isB d)).bind fun k => if k then b ρ else .ok (.bool false) := rfl
theorem yJ4 : vO a b ρ = (a ρ).bind fun d => (Res.lft (isB d)).bind fun k => if k then .ok (.bool true) else b ρ := rfl
theorem yS1 : vNt a ρ = (a ρ).bind fun d => (Res.lft (isB d)).bind fun k => .ok (.bool (!k)) := rfl
theorem yN2 : eIf t a b ρ = (t ρ).bind fun k => if k then a ρ else b ρ := rfl
theorem jJ : aN ρ = .ok [] := rfl
theorem kU : aC a xs ρ = (a ρ).bind fun x => (xs ρ).bind fun r => .ok (x :: r) := rfl
theorem yM4 : iS a ρ = (a ρ).bind fun d => Res.lft (seqD d) := rfl
theorem yK1 (f : List D -> Option (List D)) : iR f xs ρ = (xs ρ).bind fun ds => Res.lft (f ds) := rfl
theorem yM3 : gN i d ρ = some (ρ.set i (some d)) := rfl
theorem yW4 : tYes ρ = .ok true := rfl
theorem zF4 (mi : Ev -> Res (List D)) (js : List Nat) : eComp mi t a js ρ = (mi ρ).bind fun ds => if ds.length <= sizeLine then (compM (fun x => t (cEnv ρ js x)) (fun x => a (cEnv ρ js x)) ds).bind fun out => .ok (.list out) else .no := rfl
theorem yK2 (f : Int -> Int -> Option Int) (x y : Int) : i2 f (.int x) (.int y) = (f x y).map PyData.int := rfl
theorem kX (f : Int -> Int -> Bool) (x y : Int) : c2 f (.int x) (.int y) = some (f x y) := rfl
theorem yY6 (l : List D) : lstD (.list l) = some l := rfl
theorem aV (l : List D) : seqD (.list l) = some l := rfl
theorem zZ3 (l : List D) : seqD (.tuple l) = some l := rfl
theorem yS2 (k : Bool) : isB (.bool k) = some k := rfl
theorem jT : lenD [d] = (seqD d).map fun ds => .int ds.length := rfl
theorem zG2 : listD [d] = (seqD d).map fun ds => .list ds := rfl
theorem zA3 : tupD [d] = (seqD d).map fun ds => .tuple ds := rfl
theorem yI1 (l : List D) (k : Int) : ixD (.list l) (.int k) = atI l k := rfl
theorem yK6 (l : List D) (k : Int) : ixD (.tuple l) (.int k) = atI l k := rfl
theorem yZ5 (k : Int) : negD (.int k) = some (.int (-k)) := rfl
theorem yJ6 (k : Bool) : bD (some k) = some (.bool k) := rfl
end
theorem yR8 (fr : Bool) (d : D) : fin fr (.rt d) = .ok d := rfl
theorem yR6 (ρ : Ev) : fin false (.nx ρ) = .ok .none := rfl
theorem zS4 {g : D -> Ev -> Option Ev} {b : Ev -> Res Out} (P : Nat -> Ev -> Prop) (ds : List D) (ρ : Ev) (h0 : P 0 ρ) (hs : ∀ (i : Nat) d ρ, ds[i]? = some d -> P i ρ -> ∃ ρ1 ρ2, g d ρ = some ρ1 /\ b ρ1 = .ok (.nx ρ2) /\ P (i + 1) ρ2) :
  ∃ ρ', forM g b ds ρ = .ok (.nx ρ') /\ P ds.length ρ' := by
 induction ds generalizing P ρ with
 | nil => exact ⟨ρ, rfl, h0⟩
 | cons d ds ih =>
  obtain ⟨ρ1, ρ2, e1, e2, p⟩ := hs 0 d ρ rfl h0
  obtain ⟨ρ', e, p'⟩ := ih (fun i => P (i + 1)) ρ2 p fun i d ρ hd hp => hs (i + 1) d ρ (by simpa using hd) hp
  refine ⟨ρ', ?_, by simpa using p'⟩
  rw [forM, e1, Res.lft_some, Res.bind_ok, e2, Res.bind_ok]
  exact e
theorem zC7 {g : D -> Ev -> Option Ev} {b : Ev -> Res Out} (P : Nat -> Ev -> Prop) (ds : List D) (ρ : Ev) (j : Nat) (dj v : D) (hj : ds[j]? = some dj) (h0 : P 0 ρ) (hs : ∀ (i : Nat) d ρ, i < j -> ds[i]? = some d -> P i ρ -> ∃ ρ1 ρ2, g d ρ = some ρ1 /\ b ρ1 = .ok (.nx ρ2) /\ P (i + 1) ρ2)
  (hr : ∀ ρ, P j ρ -> ∃ ρ1, g dj ρ = some ρ1 /\ b ρ1 = .ok (.rt v)) : forM g b ds ρ = .ok (.rt v) := by
 induction ds generalizing P ρ j with
 | nil => simp at hj
 | cons d ds ih =>
  cases j with
  | zero =>
   simp at hj
   subst hj
   obtain ⟨ρ1, e1, e2⟩ := hr ρ h0
   rw [forM, e1, Res.lft_some, Res.bind_ok, e2, Res.bind_ok]
  | succ j =>
   obtain ⟨ρ1, ρ2, e1, e2, p⟩ := hs 0 d ρ (Nat.succ_pos _) rfl h0
   rw [forM, e1, Res.lft_some, Res.bind_ok, e2, Res.bind_ok]
   exact ih (fun i => P (i + 1)) ρ2 j (by simpa using hj) p (fun i d ρ hi hd hp => hs (i + 1) d ρ (by bv_omega) (by simpa using hd) hp) hr
theorem hX {t : D -> Res Bool} {f : D -> Res D} {α : Type} (A : α -> D) (p : α -> Bool) (q : α -> D) : ∀ (xs : List α), (∀ x ∈ xs, t (A x) = .ok (p x)) -> (∀ x ∈ xs, p x = true -> f (A x) = .ok (q x)) -> compM t f (xs.map A) = .ok ((xs.filter p).map q)
 | [], _, _ => rfl
 | x :: xs, ht, hf => by
  have ih := hX A p q xs (fun y hy => ht y (List.mem_cons_of_mem _ hy)) (fun y hy => hf y (List.mem_cons_of_mem _ hy))
  rw [List.map_cons, compM, ht x List.mem_cons_self]
  cases hp : p x with
  | false => simp only [noEx, Res.bind_ok, Bool.false_eq_true, if_false, List.filter_cons, hp]; exact ih
  | true =>
   rw [hf x List.mem_cons_self hp, ih]
   simp [noEx, List.filter_cons, hp]
abbrev tI (ns : List Int) : D := .tuple (ns.map PyData.int)
abbrev lI (ns : List Int) : D := .list (ns.map PyData.int)
theorem uZ {α β : Type} (f : α -> β) (xs : List α) (i : Int) : atI (xs.map f) i = (atI xs i).map f := by
 unfold atI
 rw [List.length_map]
 cases ixN xs.length i with
 | none => rfl
 | some j => simp
theorem vT {xs : List Int} {j : Nat} (h : j < xs.length) : atI xs (j : Int) = some (xs.getD j 0) := by
 refine gK ?_
 rw [List.getD_eq_getElem?_getD, List.getElem?_eq_getElem h]
 rfl
theorem kQ {ds : List D} (h : ds.length <= 1000) : mkL ds = some (.list ds) := by
 unfold mkL
 exact if_pos (Nat.le_of_lt (small1000 h))
theorem fF {ds : List D} (h : ds.length <= 1000) : mkT ds = some (.tuple ds) := by
 unfold mkT
 exact if_pos (Nat.le_of_lt (small1000 h))
theorem mkL0 : mkL [] = some (.list []) := kQ (by simp)
theorem mkL1 (a : D) : mkL [a] = some (.list [a]) := kQ (by simp)
theorem mkL2 (a b : D) : mkL [a, b] = some (.list [a, b]) := kQ (by simp)
theorem mkL3 (a b c : D) : mkL [a, b, c] = some (.list [a, b, c]) := kQ (by simp)
theorem mkL4 (a b c d : D) : mkL [a, b, c, d] = some (.list [a, b, c, d]) := kQ (by simp)
theorem mkT0 : mkT [] = some (.tuple []) := fF (by simp)
theorem mkT1 (a : D) : mkT [a] = some (.tuple [a]) := fF (by simp)
theorem mkT2 (a b : D) : mkT [a, b] = some (.tuple [a, b]) := fF (by simp)
theorem mkT3 (a b c : D) : mkT [a, b, c] = some (.tuple [a, b, c]) := fF (by simp)
theorem yN8 {l : List D} {d : D} (h : l.length <= 1000) : appD l [d] = some (l ++ [d]) := if_pos (small1000 h)
theorem dO {ds : List D} {r : Res D} (h : ds.length <= 1000) : (if ds.length <= sizeLine then r else .no) = r := if_pos (Nat.le_of_lt (small1000 h))
theorem gU {n : Nat} (h : n <= 1000) : rng1 [.int (n : Int)] = some ((List.range n).map fun (i : Nat) => PyData.int (i : Int)) := by
 unfold rng1
 simp only
 rw [if_pos ⟨by bv_omega, by bv_omega⟩, Int.toNat_natCast]
theorem jM {n i : Nat} {d : D} (h : ((List.range n).map fun (i : Nat) => PyData.int (i : Int))[i]? = some d) : i < n /\ d = .int (i : Int) := by
 rw [List.getElem?_map] at h
 by_cases hi : i < n
 ·rw [List.getElem?_range hi] at h
  cases h
  exact ⟨hi, rfl⟩
 ·rw [List.getElem?_eq_none (by simpa using hi)] at h
  cases h
theorem uF (i : Int) : SeqAt.shaped (.int i) = true := rfl
theorem gR (i j : Int) : PyData.eqv (.int i) (.int j) = decide (i = j) := by
 rw [PyData.eqv]
 exact Bool.beq_eq_decide_eq i j
theorem yP (i j : Int) : eqD (.int i) (.int j) = some (decide (i = j)) := by
 unfold eqD
 rw [if_pos ⟨uF i, uF j⟩, gR]
theorem xZ (i j : Int) : neD (.int i) (.int j) = some (!decide (i = j)) := by
 unfold neD
 rw [if_pos ⟨uF i, uF j⟩, gR]
theorem zK1 (ns ms : List Int) : eqD (lI ns) (lI ms) = some (decide (ns = ms)) := by
 unfold eqD
 rw [if_pos ⟨gB ns, gB ms⟩, yZ8]
theorem uX {n m : Nat} (h : m < n) : ixN n (m : Int) = some m := by
 unfold ixN
 rw [if_pos (by bv_omega), if_pos (by bv_omega), Int.toNat_natCast]
theorem zN8 {n m : Nat} (h : m < n) (f : Nat -> D) (v : D) : ((List.range n).map f).set m v = (List.range n).map fun c => if c = m then v else f c := by
 apply List.ext_getElem?
 intro i
 by_cases e : m = i
 ·subst e
  rw [List.getElem?_set_self (by simpa using h), List.getElem?_map, List.getElem?_range h]
  simp
 ·rw [List.getElem?_set_ne e, List.getElem?_map, List.getElem?_map]
  cases q : (List.range n)[i]? with
  | none => rfl
  | some c =>
   have : c = i := by
    have hi := (List.getElem?_eq_some_iff.mp q).1
    rw [List.getElem?_range (by simpa using hi)] at q
    cases q; rfl
   subst this
   show some (f c) = some (if c = m then v else f c)
   rw [if_neg (fun z => e z.symm)]
theorem zC8 (v : D) (n : Nat) (h : n <= 1000) : repL (.list [v]) (.int (n : Int)) = some (.list (List.replicate n v)) := by
 unfold repL
 simp only
 rw [if_pos ⟨by bv_omega, by bv_omega, by rw [List.length_singleton, Int.toNat_natCast]; exact Nat.le_of_lt (small1000 (by bv_omega))⟩, Int.toNat_natCast]
 congr 2
 induction n with
 | zero => rfl
 | succ n ih => rw [List.replicate_succ, List.flatten_cons, ih (by bv_omega), List.replicate_succ]; rfl
theorem zS1 {ns : List Int} (h : ns ≠ []) : min1D [tI ns] = some (.int (minL ns)) := by
 unfold min1D
 simp only [nsD, seqD, Option.bind_some, intsOf_map]
 rw [if_neg h]
theorem yV7 {ns : List Int} (h : ns ≠ []) : min1D [lI ns] = some (.int (minL ns)) := by
 unfold min1D
 simp only [nsD, seqD, Option.bind_some, intsOf_map]
 rw [if_neg h]
section
variable (i : Int) (b : Bool) (l : List D)
theorem yN9 : isiD "int" (.int i) = some (.bool true) := rfl
theorem yN4 : isiD "bool" (.int i) = some (.bool false) := rfl
theorem yS9 : isiD "bool" (.bool b) = some (.bool true) := rfl
theorem yP4 : isiD "int" (.bool b) = some (.bool true) := rfl
theorem yN1 : isiD "tuple" (.tuple l) = some (.bool true) := rfl
theorem yN7 : isiD "list" (.list l) = some (.bool true) := rfl
theorem yU8 : isiD "tuple" (.list l) = some (.bool false) := rfl
theorem yT2 : isiD "list" (.tuple l) = some (.bool false) := rfl
theorem yT5 : isiD "tuple" .none = some (.bool false) := rfl
theorem yO8 : isiD "bool" .none = some (.bool false) := rfl
end
theorem zD4 {mi : Ev -> Res (List D)} {t : Ev -> Res Bool} {me : Ev -> Res D} {js : List Nat} {ρ : Ev} {α : Type} (A : α -> D) (p : α -> Bool) (q : α -> D) (xs : List α) (h : mi ρ = .ok (xs.map A)) (hl : xs.length <= 1000)
  (ht : ∀ x ∈ xs, t (cEnv ρ js (A x)) = .ok (p x)) (hf : ∀ x ∈ xs, p x = true -> me (cEnv ρ js (A x)) = .ok (q x)) : eComp mi t me js ρ = .ok (.list ((xs.filter p).map q)) := by
 rw [zF4, h, Res.bind_ok, dO (by rw [List.length_map]; exact hl), hX A p q xs ht hf]
 rfl
theorem hJ {mi : Ev -> Res (List D)} {me : Ev -> Res D} {js : List Nat} {ρ : Ev} {α : Type} (A : α -> D) (q : α -> D) (xs : List α) (h : mi ρ = .ok (xs.map A)) (hl : xs.length <= 1000)
  (hf : ∀ x ∈ xs, me (cEnv ρ js (A x)) = .ok (q x)) : eComp mi tYes me js ρ = .ok (.list (xs.map q)) := by
 rw [zD4 A (fun _ => true) q xs h hl (fun _ _ => rfl) (fun x hx _ => hf x hx), List.filter_eq_self.mpr fun _ _ => rfl]
end L2.L3
namespace L2.L3
theorem zH8 {α : Type} (a : α) (l : List α) : atI (a :: l) 0 = some a := gK (j := 0) rfl
end L2.L3
namespace HT
open PySem PySem.Spec PyProof.Rows
section
variable {prog : Program} {w : World} {A : Around} {E : Value -> Shared -> Prop} {s : Shared}
theorem gG {t sl : Addr} {items : Array Value} {vl vu : Value} {lo hi : Option Int} {Q : Value -> Shared -> Prop} (ht : IsTup s.heap t items) (hs : s.heap.IsSliceOf sl vl vu .none) (pl : IsPart vl lo) (pu : IsPart vu hi)
  (hw : sIx items.size 0 lo = 0 /\ sIx items.size items.size hi = items.size) (h : Q (.ref t) s) : wpAny (model prog w) A (getItem (.ref t) (.ref sl)) Q E s := by
 obtain ⟨os, hos, hcs, hds⟩ := id hs
 have hTs : s.TypeIs (.ref sl) "slice" := ⟨os, hos, hcs⟩
 unfold getItem
 try with_reducible refine wpAny_holding ?_
 first | refine wpAny_bind (wpAny_pure ?_) | skip
 refine wpAny_bind (wpAny_sequenceKey ht.typeIs (by decide) ?_)
 refine wpAny_bind (wpAny_callSpecial?_slot (name := Str.ofString "__getitem__") ht.typeIs PyProof.Rows.slot_tuple_getitem
  (wpAny_call_entry PyProof.Rows.slot_tuple_getitem ht.typeIs entry_tuple_getitem ?_ (args_tuple_getitem _ _)))
 show wpAny _ _ (Builtin.Tuple.tupleItemsOf (.ref t) >>= _) _ _ s
 refine wpAny_bind (tupleItemsOf_ ht ?_)
 refine wpAny_bind (wpAny_typeOf hTs ?_)
 rw [if_pos (by decide)]
 refine wpAny_bind (qX hs pl pu ?_)
 have hyes : (((sIx items.size 0 lo : Nat) : Int) == 0 && (1 : Int) == 1 && (sIx items.size items.size hi - sIx items.size 0 lo) == items.size) = true := by
  rw [hw.1, hw.2]
  simp
 show wpAny _ _ (if (((sIx items.size 0 lo : Nat) : Int) == 0 && (1 : Int) == 1 && (sIx items.size items.size hi - sIx items.size 0 lo) == items.size) = true then _ else _) _ _ s
 rw [if_pos hyes]
 unfold Builtin.Tuple.tupleIsExact
 refine wpAny_bind (wpAny_bind (wpAny_typeOf ht.typeIs (wpAny_pure ?_)))
 rw [if_pos (by decide)]
 refine wpAny_bind (wpAny_rule ?_)
 exact wpAny_pure ⟨_, rfl, wpAny_pure h⟩
end
end HT
namespace L2.L3
open PySem PySem.Spec PyProof.Rows
variable [CN]
section
variable {X : Cx}
def rSlTA (K : KFr) : V -> Option Int -> Option Int -> Hp -> VK -> Prop := fun x lo hi H Q => ∃ a xs, x = .ref a /\ SqT K H a xs /\ HT.sIx xs.length 0 lo = 0 /\ HT.sIx xs.length xs.length hi = xs.length /\ Q (.ref a) H
theorem yW1 : SlR X (rSlTA X.K) := by
 intro pins s σ H x v vl vu lo hi sl Q I rx hs pl pu h
 obtain ⟨a, xs, rfl, hx, hw1, hw2, q⟩ := h
 cases rx
 obtain ⟨its, r, ht, hz⟩ := I.tuple hx
 have hlen : its.toArray.size = xs.length := by rw [List.size_toArray]; exact r.length.symm
 refine ⟨"tuple", _, PyProof.Rows.slot_tuple_getitem.lookup, ht.typeIs, ?_⟩
 exact HT.gG ht hs pl pu (by rw [hlen]; exact ⟨hw1, hw2⟩) ⟨.ref a, H, I, rfl, q⟩
end
def RO (C : Ct) (e : Option Expr) (m : Ev -> Res (Option Int)) : Prop :=
 ∃ t, PO C.X e t /\ ∀ (Oc : Wd) (Ob : Addr -> Prop) (σ : St) (H : Hp) (ρ : Ev) (Q : Option Int -> Hp -> Prop), Rel Oc Ob C.om C.ln σ H ρ ->
  (m ρ).post (fun d => ∀ H', Same H H' -> Q d H') (fun c => ∀ H', Same H H' -> C.XE c H') -> t σ H Q
def oN : Ev -> Res (Option Int) := fun _ => .ok none
def isI : D -> Option Int
 | .int i => some i
 | _ => none
def oS (m : Ev -> Res D) : Ev -> Res (Option Int) := fun ρ => (m ρ).bind fun d => (Res.lft (isI d)).bind fun i => .ok (some i)
theorem zT3 {C : Ct} : RO C none oN := ⟨_, zT5, fun Oc Ob σ H ρ Q R h => h H (Same.refl H)⟩
theorem qA {C : Ct} {e : Expr} {md : Md} {me : Ev -> Res D} (h : RE C md e me) : RO C (some e) (oS me) := by
 obtain ⟨t, p, q⟩ := h
 refine ⟨_, zU8 p, fun Oc Ob σ H ρ Q R h => q Oc Ob σ H ρ _ R (Res.zV (Res.zW h) (fun d _ k v H' s r => ?_) fun _ z => z)⟩
 obtain ⟨i, e, k⟩ := Res.zA (Res.zW k)
 cases d with
 | int j => cases e; exact ⟨i, (r.va R.oh).int, k H' s⟩
 | _ => cases e
def eS (f : D -> Option Int -> Option Int -> Option D) (m : Ev -> Res D) (lo hi : Ev -> Res (Option Int)) : Ev -> Res D := fun ρ => (m ρ).bind fun x => (lo ρ).bind fun l => (hi ρ).bind fun u => Res.lft (f x l u)
def PrS (r : V -> Option Int -> Option Int -> Hp -> VK -> Prop) (md : Md) (f : D -> Option Int -> Option Int -> Option D) : Prop :=
 ∀ (Oc : Wd) (Ob : Addr -> Prop) (H : Hp) (x : V) (dx : D) (lo hi : Option Int) (d : D) (Q : VK), (∀ a, Oc a \/ Ob a -> H a ≠ none) -> VA Oc Ob H x dx -> f dx lo hi = some d -> (∀ v H', Same H H' -> VR md Oc Ob H H' v d -> Q v H') -> r x lo hi H Q
theorem zH2 {C : Ct} {e : Expr} {lo hi : Option Expr} {md mda : Md} {me : Ev -> Res D} {ml mh : Ev -> Res (Option Int)} {p2 pos : Pos} {r : V -> Option Int -> Option Int -> Hp -> VK -> Prop} {f : D -> Option Int -> Option Int -> Option D} (hr : SlR C.X r) (hp : PrS r md f) (he : RE C mda e me) (hl : RO C lo ml) (hu : RO C hi mh) :
  RE C md (.Subscript e (.Slice lo hi none p2) pos) (eS f me ml mh) := by
 obtain ⟨t, p, q⟩ := he
 obtain ⟨tl, pl, ql⟩ := hl
 obtain ⟨th, ph, qh⟩ := hu
 refine ⟨_, aG hr p pl ph, fun Oc Ob σ H ρ Q R h => q Oc Ob σ H ρ _ R (Res.zV (Res.zW h) (fun d _ k v H1 s1 r => ?_) fun _ z => z)⟩
 refine ql Oc Ob σ H1 ρ _ (R.same s1) (Res.zV (Res.zW k) (fun l _ k H2 s2 => ?_) fun c z H' s' => z H' (s1.trans s'))
 refine qh Oc Ob σ H2 ρ _ ((R.same s1).same s2) (Res.zV (Res.zW k) (fun u _ k H3 s3 => ?_) fun c z H' s' => z H' ((s1.trans s2).trans s'))
 obtain ⟨d', e, k⟩ := Res.zA k
 have R3 := ((R.same s1).same s2).same s3
 refine hp Oc Ob H3 v d l u d' Q R3.oh ((r.va R.oh).same (s2.trans s3)) e fun w H' s4 rw' => ?_
 exact k w H' (((s1.trans s2).trans s3).trans s4) (rw'.from ((s1.trans s2).trans s3))
def cutD {α : Type} (xs : List α) (lo hi : Option Int) : List α := (xs.drop (HT.sIx xs.length 0 lo)).take (HT.sIx xs.length xs.length hi - HT.sIx xs.length 0 lo)
theorem cH {H : Hp} {O : Addr -> Prop} {vs : List V} {ds : List D} (r : Reps H O vs ds) (lo hi : Option Int) : Reps H O (cutV vs lo hi) (cutD ds lo hi) := by
 unfold cutV cutD
 rw [r.length]
 exact (r.drop _).take _
def slL : D -> Option Int -> Option Int -> Option D
 | .list ds, lo, hi => some (.list (cutD ds lo hi))
 | _, _, _ => none
def slD : D -> Option Int -> Option Int -> Option D
 | .list ds, lo, hi => some (.list (cutD ds lo hi))
 | .tuple ds, lo, hi => some (.tuple (cutD ds lo hi))
 | _, _, _ => none
theorem yZ6 {α : Type} {xs : List α} {lo hi : Option Int} (h1 : HT.sIx xs.length 0 lo = 0) (h2 : HT.sIx xs.length xs.length hi = xs.length) : cutD xs lo hi = xs := by
 unfold cutD
 rw [h1, h2, List.drop_zero, Nat.sub_zero, List.take_length]
theorem yR7 {K : KFr} : PrS (fun x lo hi H Q => rSlL K x lo hi H Q \/ rSlT K x lo hi H Q \/ rSlTA K x lo hi H Q) .cl slD := by
 intro Oc Ob H x dx lo hi d Q oh va e k
 cases dx with
 | list ds =>
  cases e
  obtain ⟨a, ys, rfl, rd, rs⟩ := va.list
  exact .inl ⟨a, ys, rfl, .inl rd, fun p hp => k _ _ (Same.new hp) (VR.clean (xA (Same.refl H) hp (cH rs lo hi)) oh)⟩
 | tuple ds =>
  cases e
  rcases va with va | ⟨_, _, _, _, ez, _⟩
  ·cases va with
   | @tup a ys _ rd n rs =>
    by_cases hw : HT.sIx ys.length 0 lo = 0 /\ HT.sIx ys.length ys.length hi = ys.length
    ·refine .inr (.inr ⟨a, ys, rfl, .inl rd, hw.1, hw.2, k _ H (Same.refl H) ?_⟩)
     rw [yZ6 (by rw [<- rs.length]; exact hw.1) (by rw [<- rs.length]; exact hw.2)]
     exact .tup rd n rs
    ·exact .inr (.inl ⟨a, ys, rfl, .inl rd, hw, fun p hp => k _ _ (Same.new hp) (jP oh hp (cH rs lo hi))⟩)
  ·cases ez
 | _ => cases e
theorem bY {C : Ct} {e : Expr} {lo hi : Option Expr} {mda : Md} {me : Ev -> Res D} {ml mh : Ev -> Res (Option Int)} {p2 pos : Pos} (he : RE C mda e me) (hl : RO C lo ml) (hu : RO C hi mh) : RE C .cl (.Subscript e (.Slice lo hi none p2) pos) (eS slD me ml mh) := zH2 (yZ3.or (zI2.or yW1)) yR7 he hl hu
section
variable (a : Ev -> Res D) (l h : Ev -> Res (Option Int)) (ρ : Ev) (f : D -> Option Int -> Option Int -> Option D)
theorem yJ1 : eS f a l h ρ = (a ρ).bind fun x => (l ρ).bind fun lo => (h ρ).bind fun u => Res.lft (f x lo u) := rfl
theorem yJ9 : oN ρ = .ok none := rfl
theorem yM6 : oS a ρ = (a ρ).bind fun d => (Res.lft (isI d)).bind fun i => .ok (some i) := rfl
theorem yP6 (i : Int) : isI (.int i) = some i := rfl
theorem yQ6 (ds : List D) (lo hi : Option Int) : slL (.list ds) lo hi = some (.list (cutD ds lo hi)) := rfl
theorem yK4 (ds : List D) (lo hi : Option Int) : slD (.list ds) lo hi = some (.list (cutD ds lo hi)) := rfl
theorem yJ2 (ds : List D) (lo hi : Option Int) : slD (.tuple ds) lo hi = some (.tuple (cutD ds lo hi)) := rfl
end
theorem zZ7 {α β : Type} (g : α -> β) (xs : List α) (lo hi : Option Int) : cutD (xs.map g) lo hi = (cutD xs lo hi).map g := by
 unfold cutD
 rw [List.length_map, List.map_take, List.map_drop]
theorem zC1 {α : Type} (xs : List α) (k : Nat) : cutD xs (some (k : Int)) none = xs.drop k := by
 unfold cutD
 rw [HT.zG9, HT.yV6]
 by_cases h : k <= xs.length
 ·rw [Nat.min_eq_left h, List.take_of_length_le (by rw [List.length_drop]; bv_omega)]
 ·rw [Nat.min_eq_right (by bv_omega), List.drop_eq_nil_of_le (show xs.length <= k by bv_omega)]
  simp
end L2.L3
namespace L2.L3
open PySem
theorem zW7 (i : Int) : ∀ ns : List Int, (ns.map PyData.int).any (fun z => eqF z (.int i)) = ns.contains i
 | [] => rfl
 | n :: ns => by
  rw [List.map_cons, List.any_cons, zW7 i ns, List.contains_cons]
  congr 1
  show (n == i) = (i == n)
  rw [Bool.eq_iff_iff]
  simp only [beq_iff_eq]
  exact eq_comm
theorem zV3 : ∀ ns : List Int, (ns.map PyData.int).all flD = true
 | [] => rfl
 | n :: ns => by rw [List.map_cons, List.all_cons, zV3 ns]; rfl
theorem xE (neg : Bool) (i : Int) (ns : List Int) : inD neg (.int i) (lI ns) = some (if neg then !ns.contains i else ns.contains i) := by
 unfold inD
 show (if flD (.int i) = true /\ (ns.map PyData.int).all flD = true then _ else none) = _
 rw [if_pos ⟨rfl, zV3 ns⟩, zW7]
theorem zT7 {ns : List Int} (h : ns ≠ []) : max1D [tI ns] = some (.int (maxL ns)) := by
 unfold max1D
 simp only [nsD, seqD, Option.bind_some, intsOf_map]
 rw [if_neg h]
theorem yU4 {ns : List Int} (h : ns ≠ []) : max1D [lI ns] = some (.int (maxL ns)) := by
 unfold max1D
 simp only [nsD, seqD, Option.bind_some, intsOf_map]
 rw [if_neg h]
theorem jO {α β : Type} {g : D -> Ev -> Option Ev} {b : Ev -> Res Out} {ds : List D} {ρ : Ev} {k : Out -> Res α} {k' : α -> Res β} {R : Res β} (P : Nat -> Ev -> Prop) (h0 : P 0 ρ) (hs : ∀ (i : Nat) d ρ, ds[i]? = some d -> P i ρ -> ∃ ρ1 ρ2, g d ρ = some ρ1 /\ b ρ1 = .ok (.nx ρ2) /\ P (i + 1) ρ2)
  (hd : ∀ ρ', P ds.length ρ' -> (k (.nx ρ')).bind k' = R) : ((forM g b ds ρ).bind k).bind k' = R := by
 obtain ⟨ρ', e, p⟩ := zS4 P ds ρ h0 hs
 rw [e, Res.bind_ok]
 exact hd ρ' p
theorem zV1 {α β : Type} {g : D -> Ev -> Option Ev} {b : Ev -> Res Out} {ds : List D} {ρ : Ev} {k : Out -> Res α} {k' : α -> Res β} {R : Res β} (P : Nat -> Ev -> Prop) (j : Nat) (dj v : D) (hj : ds[j]? = some dj) (h0 : P 0 ρ) (hs : ∀ (i : Nat) d ρ, i < j -> ds[i]? = some d -> P i ρ -> ∃ ρ1 ρ2, g d ρ = some ρ1 /\ b ρ1 = .ok (.nx ρ2) /\ P (i + 1) ρ2)
  (hr : ∀ ρ, P j ρ -> ∃ ρ1, g dj ρ = some ρ1 /\ b ρ1 = .ok (.rt v)) (hd : (k (.rt v)).bind k' = R) : ((forM g b ds ρ).bind k).bind k' = R := by
 rw [zC7 P ds ρ j dj v hj h0 hs hr, Res.bind_ok]
 exact hd
end L2.L3
namespace L2
open PySem PySem.Spec PyProof.Rows
theorem zU4 {X : Cx} {elt iter : Expr} {ifs : List Expr} {sc0 scope : Scope} {N0 : List Str} {px py pos spos : Pos} {xt y : Str} {fs : List Str} {js : List Nat} {i : Nat} {wi : TI} {tt : Addr -> List Addr -> Shared -> Hp -> TT} {te : Addr -> List Addr -> Shared -> Hp -> TE} (S : CompScope sc0 scope N0 xt fs js) (h0 : X.env.scope = sc0) (hN0 : X.N = N0) (hc : X.calm = true)
  (hi : PI X (.Name xt px) iter wi) (ht : ∀ C fp s₂ H, PTs (cxComp X (xt :: fs) scope C fp s₂ H) ifs (tt C fp s₂ H)) (he : ∀ C fp s₂ H, PE (cxComp X (xt :: fs) scope C fp s₂ H) elt (te C fp s₂ H))
  (nd : X.N.Nodup) (hy : X.N[i]? = some y) (hl : Loc X.env.scope y) (hsw : swapsWith (.ListComp elt [⟨.Name xt px, iter, ifs, 0⟩] scope pos) (some (.Name y py)) spos.line X.env = pure true)
  (hs : autoParam (∀ x, foldedSetIterable iter X.env x = pure x) xD._auto_1) (hf : autoParam (X.fn y = true \/ X.env.scope.names.lookup y = some .local) gY._auto_1) :
  PS X (.Assign [.Name y py] (.ListComp elt [⟨.Name xt px, iter, ifs, 0⟩] scope pos) spos) (tAsg (tComp wi tt te js) (gName i)) := by
 intro pins s σ H E I h
 rw [exec_Assign_Name_used _ _ _ _ hsw]
 refine wpAny_bind (wpAny_standAt (wpAny_bind ?_))
 show wpAny _ X.A (do let _ <- comprehension (.ListComp elt [⟨.Name xt px, iter, ifs, 0⟩] scope pos) scope X.env _ (newList []) false (eval iter X.env) (some (assign (.Name y py) X.env))) _ _ s
 refine wpAny_bind (thn (cQ S h0 hN0 hc hi ht he hs (use := some (assign (.Name y py) X.env)) (Qv := fun _ s' => SP X pins E .next s') I h fun s' C D Ha fl hI hns hC q => ?_) fun _ s' hq => wpAny_pure (wpAny_pure hq))
 show wpAny (model X.prog X.w) X.A (assign (.Name y py) X.env (.ref D)) (fun _ s'' => ∃ m, s''.heap.Ns C m /\ ∀ h', Heap.SameBut C s''.heap h' -> SP X pins E .next { s'' with heap := h' }) X.xe s'
 obtain ⟨m, oC, es, ep, hgC, hdC, hrC⟩ := hns
 have I1 : Inv X pins σ Ha s' := hI s'.heap ⟨rfl, fun b _ => rfl⟩
 have I2 : Inv X (pins ++ [(C, oC)]) σ Ha s' := I1.xT fun p hp => by
  rcases List.mem_append.mp hp with z | z
  ·exact I1.pin p (List.mem_append_right _ z)
  ·have : p = (C, oC) := by simpa using z
   subst this
   exact ⟨hgC, hC.1, hC.2.1, hC.2.2.1, fun v z => by rw [hdC] at z; cases z⟩
 refine wpAny_assign_Name (qT I2 nd hy hl (show RelV (.ref D) (.ref D) from rfl) (fun s'' I3 => ?_) hf)
 have hgC' := (I3.pin (C, oC) (List.mem_append_right _ (List.mem_append_right _ List.mem_cons_self))).1
 refine ⟨m, ⟨oC, es, ep, hgC', hdC, hrC⟩, fun h' hsb => ?_⟩
 have I4 : Inv X pins (σ.set i (some (.ref D))) Ha s'' := I3.xT fun p hp => I3.pin p (List.mem_append_right _ (List.mem_append_left _ hp))
 exact ⟨_, Ha, Inv.turned (it := C) (t' := s''.toks) I4 (fun b o hb e => (hsb.2 b hb).trans e) hC.1 hC.2.1 hC.2.2.2.1 hC.2.2.2.2.1 hC.2.2.2.2.2, q⟩
end L2
namespace L2.L3
open PySem PySem.Spec PyProof.Rows
variable [CN]
end L2.L3
namespace L2
open PySem PySem.Spec PyProof.Rows
def pick3 {α : Type} (xs : List α) (l u k : Option Int) : List α := (sliceRange (sliceBounds l u k xs.length).1 (sliceBounds l u k xs.length).2.1 (sliceBounds l u k xs.length).2.2).filterMap (xs[·]?)
def tSl3E (K : KFr) (te : TE) (tl th ts : TO) : TE := fun σ H Q => te σ H fun x H1 => tl σ H1 fun l H2 => th σ H2 fun u H3 => ts σ H3 fun st H4 => st ≠ some 0 /\ ∃ a xs, x = .ref a /\ SqL K H4 a xs /\
 ((pick3 xs l u st).length <= xs.length -> ∀ p, H4 p = none -> Q (.ref p) (upd H4 p (.lst (pick3 xs l u st))))
theorem zQ5 {X : Cx} {e st : Expr} {te : TE} {lo hi : Option Expr} {tl th ts : TO} {pos p2 : Pos} (he : PE X e te) (hl : PO X lo tl) (hu : PO X hi th) (hst : PO X (some st) ts) : PE X (.Subscript e (.Slice lo hi (some st) p2) pos) (tSl3E X.K te tl th ts) := by
 intro pins s σ H Q I h
 refine Subscript_ (thn (he pins s σ H _ I h) fun v s1 ⟨x, H1, I1, r1, q1⟩ => ?_)
 refine wpAny_Slice (thn (hl pins s1 σ H1 _ I1 q1) fun vl s2 ⟨l, H2, I2, pl, q2⟩ => thn (hu pins s2 σ H2 _ I2 q2) fun vu s3 ⟨u, H3, I3, pu, q3⟩ => thn (hst pins s3 σ H3 _ I3 q3) fun vs s4 ⟨k, H4, I4, pk, q4⟩ => ?_)
 obtain ⟨h0, a, xs, rfl, hx, q⟩ := q4
 cases r1
 have I5 : Inv X pins σ H4 { s4 with heap := s4.heap.push { cls := .type "slice", data := .fields #[vl, vu, vs] } } := I4.kept (t' := s4.toks) fun b ob q => Heap.get?_push_of_some _ q
 obtain ⟨its, r, ht, hz⟩ := I5.list hx
 have hlen := r.length
 show wpAny (model X.prog X.w) X.A (subscriptTail e (.Slice lo hi (some st) p2) (.ref a) (.ref s4.heap.objs.size)) (EP X pins σ Q) X.xe { s4 with heap := s4.heap.push { cls := .type "slice", data := .fields #[vl, vu, vs] } }
 refine tail_any (ops := [.ref a, .ref s4.heap.objs.size]) ht.isList.typeIs slot_list_getitem.lookup ?_ (by with_unfolding_all rfl)
 refine wpAny_getItem_list_slice ht.isList (Heap.IsSliceOf.new ..) pl pu pk h0 ?_ (by rw [List.size_toArray] <;> bv_omega)
 have sz := slicePick_size_le its.toArray l u k
 unfold slicePick at sz ⊢
 unfold pick3 at q
 rw [hlen] at q
 rw [List.size_toArray] at sz ⊢
 generalize sliceRange (sliceBounds l u k its.length).1 (sliceBounds l u k its.length).2.1 (sliceBounds l u k its.length).2.2 = ks at sz q ⊢
 have rv := kN r ks
 have rl := rv.length
 rw [List.size_toArray] at sz
 exact ⟨.ref (s4.heap.push { cls := .type "slice", data := .fields #[vl, vu, vs] }).objs.size, _, I5.laid (t' := s4.toks) (o := .lst (ks.filterMap (xs[·]?))) (fun b ob q => Heap.get?_push_of_some _ q) (Nat.le_refl _) ⟨by bv_omega, _, 0, rv, Heap.get?_push_size _ rfl⟩, rfl, q (by bv_omega) _ (I5.hok.fresh (Nat.le_refl _))⟩
end L2
namespace L2.L3
open PySem PySem.Spec PyProof.Rows
variable [CN]
def eS3 (m : Ev -> Res D) (lo hi st : Ev -> Res (Option Int)) : Ev -> Res D := fun ρ => (m ρ).bind fun x => (lo ρ).bind fun l => (hi ρ).bind fun u => (st ρ).bind fun k => (Res.lft (lstD x)).bind fun ds => if k ≠ some 0 then .ok (.list (pick3 ds l u k)) else .no
theorem hZ {H : Hp} {O : Addr -> Prop} {vs : List V} {ds : List D} (r : Reps H O vs ds) : ∀ ks : List Nat, Reps H O (ks.filterMap (vs[·]?)) (ks.filterMap (ds[·]?))
 | [] => .nil
 | k :: ks => by
  rw [List.filterMap_cons, List.filterMap_cons]
  cases e : ds[k]? with
  | none =>
   have : vs[k]? = none := by
    rw [List.getElem?_eq_none_iff] at e ⊢
    rw [r.length]; exact e
   rw [this]
   exact hZ r ks
  | some d =>
   obtain ⟨v, ev, rv⟩ := r.get e
   rw [ev]
   exact .cons rv (hZ r ks)
theorem zI8 {C : Ct} {e st : Expr} {lo hi : Option Expr} {mda : Md} {me : Ev -> Res D} {ml mh ms : Ev -> Res (Option Int)} {p2 pos : Pos} (he : RE C mda e me) (hl : RO C lo ml) (hu : RO C hi mh) (hs : RO C (some st) ms) :
  RE C .new (.Subscript e (.Slice lo hi (some st) p2) pos) (eS3 me ml mh ms) := by
 obtain ⟨t, p, q⟩ := he
 obtain ⟨tl, pl, ql⟩ := hl
 obtain ⟨th, ph, qh⟩ := hu
 obtain ⟨ts, ps, qs⟩ := hs
 refine ⟨_, zQ5 p pl ph ps, fun Oc Ob σ H ρ Q R h => q Oc Ob σ H ρ _ R (Res.zV (Res.zW h) (fun d _ k v H1 s1 r => ?_) fun _ z => z)⟩
 refine ql Oc Ob σ H1 ρ _ (R.same s1) (Res.zV (Res.zW k) (fun l _ k H2 s2 => ?_) fun c z H' s' => z H' (s1.trans s'))
 refine qh Oc Ob σ H2 ρ _ ((R.same s1).same s2) (Res.zV (Res.zW k) (fun u _ k H3 s3 => ?_) fun c z H' s' => z H' ((s1.trans s2).trans s'))
 refine qs Oc Ob σ H3 ρ _ (((R.same s1).same s2).same s3) (Res.zV (Res.zW k) (fun st _ k H4 s4 => ?_) fun c z H' s' => z H' (((s1.trans s2).trans s3).trans s'))
 obtain ⟨ds, ed, k5⟩ := Res.zA (Res.zW k)
 clear k
 obtain rfl := kP ed
 by_cases h0 : st ≠ some 0
 ·rw [if_pos h0] at k5
  have S := ((s1.trans s2).trans s3).trans s4
  obtain ⟨a, ys, rfl, rd, rs⟩ := ((r.va R.oh).same ((s2.trans s3).trans s4)).list
  refine ⟨h0, a, ys, rfl, .inl rd, fun _ p hp => k5 _ _ (S.trans (Same.new hp)) (xA S hp ?_)⟩
  unfold pick3
  rw [rs.length]
  exact hZ rs _
 ·rw [if_neg h0] at k5
  exact k5.elim
theorem zM5 {α β : Type} (f : α -> β) (xs : List α) (l u k : Option Int) : pick3 (xs.map f) l u k = (pick3 xs l u k).map f := by
 unfold pick3
 rw [List.length_map]
 generalize sliceRange (sliceBounds l u k xs.length).1 (sliceBounds l u k xs.length).2.1 (sliceBounds l u k xs.length).2.2 = ks
 induction ks with
 | nil => rfl
 | cons a ks ih =>
  rw [List.filterMap_cons, List.filterMap_cons, List.getElem?_map]
  cases xs[a]? with
  | none => exact ih
  | some y => rw [Option.map_some, List.map_cons, <- ih]
theorem yO4 (a : Ev -> Res D) (l h st : Ev -> Res (Option Int)) (ρ : Ev) : eS3 a l h st ρ = (a ρ).bind fun x => (l ρ).bind fun l => (h ρ).bind fun u => (st ρ).bind fun k => (Res.lft (lstD x)).bind fun ds => if k ≠ some 0 then .ok (.list (pick3 ds l u k)) else .no := rfl
end L2.L3
namespace L2.L3
open PySem
theorem uD {xs ys : List Int} (h : xs.length + ys.length <= 1000) : catL (lI xs) (lI ys) = some (lI (xs ++ ys)) := by
 unfold catL
 simp only
 rw [List.length_map, List.length_map, if_pos (Nat.le_of_lt (small1000 h))]
 simp only [lI, List.map_append]
theorem yX3 (xs : List Int) : sumD [lI xs] = some (.int xs.sum) := by
 unfold sumD
 simp only [intsOf_map, Option.map_some]
end L2.L3
namespace L2.L3
open PySem
variable [CN]
section
variable {X : Cx}
end
section
variable {X : Cx}
end
end L2.L3
namespace L2.L3
open PySem PyProof.Rows
variable [CN]
section
variable {X : Cx}
end
section
variable {X : Cx}
end
section
variable {C : Ct} {fr : Bool} {md : Md} {e : Expr} {me : Ev -> Res D} {pos : Pos}
def atP (xd : List D) : D -> Option D
 | .int j => if 0 <= j then atI xd j else none
 | _ => none
def sJ0 (i : Nat) (mk : Ev -> Res D) (f : D -> D -> Option D) (me : Ev -> Res D) : Ev -> Res Out := fun ρ => (eV i ρ).bind fun d => (Res.lft (lstD d)).bind fun xd => (mk ρ).bind fun k => (Res.lft (atP xd k)).bind fun old => (me ρ).bind fun v => (Res.lft (f old v)).bind fun w => (Res.lft (setD xd k w)).bind fun ds => .ok (.nx (ρ.set i (some (.list ds))))
theorem yO6 (i : Nat) (mk : Ev -> Res D) (f : D -> D -> Option D) (me : Ev -> Res D) (ρ : Ev) : sJ0 i mk f me ρ = (eV i ρ).bind fun d => (Res.lft (lstD d)).bind fun xd => (mk ρ).bind fun k => (Res.lft (atP xd k)).bind fun old => (me ρ).bind fun v => (Res.lft (f old v)).bind fun w => (Res.lft (setD xd k w)).bind fun ds => .ok (.nx (ρ.set i (some (.list ds)))) := rfl
end
section
variable {X : Cx} {pins : List (Addr × Obj)} {σ : St} {H : Hp} {s : Shared} {h' : Heap}
theorem turned2 {t' : Nat} {e it : Addr} (I : Inv X pins σ H s) (k : ∀ b o, b ≠ e -> b ≠ it -> s.heap.get? b = some o -> h'.get? b = some o) (fe : FpOk X pins H e) (fi : FpOk X pins H it) : Inv X pins σ H { s with heap := h', toks := t' } := by
 have nit : ∀ b u, H b = some u -> b ≠ e /\ b ≠ it := fun b u q => ⟨fun z => (by rw [z, fe.1] at q; cases q), fun z => by rw [z, fi.1] at q; cases q⟩
 refine I.step (g' := s.gens) (d' := s.drawn) (ch := [e, it]) (fun b hb => ?_) (fun b o _ _ hc q _ => k b o (fun z => hc (by simp [z])) (fun z => hc (by simp [z])) q) (fun b o _ _ hc q _ => ⟨o.slots, k b o (fun z => hc (by simp [z])) (fun z => hc (by simp [z])) q⟩) (fun _ _ _ _ n => n)
  (fun b o hc q => ⟨o, k b o (fun z => hc (by simp [z])) (fun z => hc (by simp [z])) q⟩) (fun _ _ q => q) (fun _ _ _ q => q) (fun b ps q => ⟨#[], by rw [q]; simp⟩) (fun m hm => ?_) (fun b u q => ?_) I.bare
 ·have z : b = e \/ b = it := by simpa using hb
  rcases z with rfl | rfl
  ·obtain ⟨f0, f1, f2, f3, f4, f5⟩ := fe
   exact ⟨f3, f1, f4, f5⟩
  ·obtain ⟨f0, f1, f2, f3, f4, f5⟩ := fi
   exact ⟨f3, f1, f4, f5⟩
 ·obtain ⟨o, es, ep, ho, r⟩ := hm
  exact ⟨o, es, ep, k _ o (Ne.symm fe.2.1) (Ne.symm fi.2.1) ho, r⟩
 ·refine (I.hok b u q).stay (fun c v hc q' => ?_) (fun _ q => q) fun _ _ q => q
  have nc : c ≠ e /\ c ≠ it := by
   rcases hc with z | z
   ·rw [z]; exact nit b u q
   ·exact nit c _ z
  exact k c v nc.1 nc.2 q'
end
def Ite (K : KFr) (a : Addr) : It :=
 ⟨fun i H => ∃ xs x, SqL K H a xs /\ xs[i]? = some x, fun i H x H' => ∃ t y, H t = none /\ x = .ref t /\ H' = upd H t (.tup [.int (i : Int), y]) /\ ∀ xs, SqL K H a xs -> xs[i]? = some y, fun i H => ∃ xs, SqL K H a xs /\ xs.length <= i⟩
theorem zM7 {P : Program} {w : World} {K : KFr} {es : List Expr} {x1 : Nat} {tp : Pos} (a e it : Addr) (hne : e ≠ it) : Turn P w K (.Tuple es x1 tp) (Ite K a) [e, it] e (fun i h => (∃ old, IsEnum h e it i old) /\ h.IsListIter it a i) where
 mem := by simp
 obj := fun i h st b hb => by
  obtain ⟨⟨old, he⟩, o, ho, hc, hd⟩ := st
  have z : b = e \/ b = it := by simpa using hb
  rcases z with rfl | rfl
  ·exact ⟨_, he, fun v z => by cases z⟩
  ·exact ⟨o, ho, fun v z => by rw [hd] at z; cases z⟩
 keep := fun i h h' st k => ⟨st.1.elim fun old he => ⟨old, k e (by simp) _ he⟩, st.2.at fun o q => k it (by simp) o q⟩
 item := by
  intro X hP hw hK hc i pins s σ H E I hf st hg
  subst hP hw hK
  obtain ⟨xs, x, hq, hx⟩ := hg
  obtain ⟨its, rv, p, hz⟩ := I.list hq
  obtain ⟨u, hu, ru⟩ := rv.get hx
  obtain ⟨⟨old, he⟩, hit⟩ := st
  have fe := hf e (by simp)
  have fi := hf it (by simp)
  refine wpAny_pyNext_enum_item he hit p.isList (x := u) (by simpa using hu) hne fun h' ho hit' hT hsz hk => ⟨_, rfl, ?_⟩
  have hfr : H s.heap.objs.size = none := I.hok.fresh (Nat.le_refl _)
  have I1 : Inv X pins σ (upd H s.heap.objs.size (.tup [.int (i : Int), x])) { s with heap := s.heap.push { cls := .type "tuple", data := .seq #[.int i s.toks, u] }, toks := s.toks + 1 } :=
   I.laid (t' := s.toks + 1) (fun b o q => Heap.get?_push_of_some _ q) (Nat.le_refl _) ⟨by show 2 <= sizeLine; decide, [.int i s.toks, u], .cons ⟨_, rfl⟩ (.cons ru .nil), TupAt.new _ _⟩
  have lte : e < s.heap.objs.size := Heap.lt_size he
  have lti : it < s.heap.objs.size := by obtain ⟨_, q, _⟩ := hit; exact Heap.lt_size q
  have fe1 : FpOk X pins (upd H s.heap.objs.size (.tup [.int (i : Int), x])) e := ⟨by rw [zT (Nat.ne_of_lt lte)]; exact fe.1, fe.2⟩
  have fi1 : FpOk X pins (upd H s.heap.objs.size (.tup [.int (i : Int), x])) it := ⟨by rw [zT (Nat.ne_of_lt lti)]; exact fi.1, fi.2⟩
  have I2 : Inv X pins σ (upd H s.heap.objs.size (.tup [.int (i : Int), x])) { s with heap := h', toks := s.toks + 1 } := by
   refine turned2 (s := { s with heap := s.heap.push { cls := .type "tuple", data := .seq #[.int i s.toks, u] }, toks := s.toks + 1 }) (h' := h') (t' := s.toks + 1) I1 (fun b o b1 b2 q => ?_) fe1 fi1
   by_cases z : b = s.heap.objs.size
   ·subst z
    have q : (s.heap.push { cls := .type "tuple", data := .seq #[.int i s.toks, u] }).get? s.heap.objs.size = some o := q
    rw [Heap.get?_push_size _ rfl] at q
    rw [hT]; exact q
   ·have q : (s.heap.push { cls := .type "tuple", data := .seq #[.int i s.toks, u] }).get? b = some o := q
    rw [Heap.get?_push_ne _ _ _ z] at q
    exact hk b o b1 b2 q
  refine wpAny_letOwnedTupleGo_enum ho fun h2 he2 hs2 => ?_
  refine ⟨.ref s.heap.objs.size, _, turned2 (s := { s with heap := h', toks := s.toks + 1 }) (h' := h2) (t' := s.toks + 1) I2 (fun b o b1 b2 q => (hs2.2 b b1).trans q) fe1 fi1, rfl, ⟨_, x, hfr, rfl, rfl, fun ys hy => by rw [I.aX hy hq]; exact hx⟩, ⟨⟨_, he2⟩, hit'.at fun o q => (hs2.2 it hne.symm).trans q⟩, fun b hb => ?_⟩
  have z : b = e \/ b = it := by simpa using hb
  rcases z with rfl | rfl
  ·exact fe1.1
  ·exact fi1.1
 done := by
  intro X hP hw hK hc i pins s σ H E I hf st hg
  subst hP hw hK
  obtain ⟨xs, hq, hx⟩ := hg
  obtain ⟨its, rv, p, hz⟩ := I.list hq
  obtain ⟨⟨old, he⟩, hit⟩ := st
  have hl := rv.length
  exact wpAny_pyNext_enum_end (I.ok.hd hc) he hit p.isList (by simp; bv_omega) fun h' eb => ⟨rfl, turned2 (t' := s.toks) I (fun b o _ b2 q => eb b o b2 q) (hf e (by simp)) (hf it (by simp))⟩
 self := fun _ _ _ _ _ st h => st.1.elim fun old he => wpAny_pyIter_enum he h
end L2.L3
namespace PySem
section
variable {prog : Program} {w : World} {A : Around} {E : Value -> Shared -> Prop} {s : Shared}
theorem drawsT (hA : A.handled = none) (it t : Addr) (its : Array Value) (hne : it ≠ t) : Draws prog w A it [it, t] its.size (fun i x => its[i]? = some x) (fun i h => h.IsTupleIter it t i /\ h.IsTuple t its) where
 live := fun i h st => let ⟨o, q, _⟩ := st.1; ⟨o, q⟩
 frame := fun i h h' st k => ⟨let ⟨o, q, r⟩ := st.1; ⟨o, k it (by simp) o q, r⟩, let ⟨o, q, r⟩ := st.2; ⟨o, k t (by simp) o q, r⟩⟩
 item := fun i s Q E hi st hQ => zG6 st.1 st.2 (v := its[i]) (by simp [hi]) fun h' z sb => hQ _ h' s.toks (by simp [hi]) ⟨z, let ⟨o, q, r⟩ := st.2; ⟨o, (sb.2 t (Ne.symm hne)).trans q, r⟩⟩ sb
 done := fun s Q E st hE => zS9 hA st.1 st.2 (by simp) hE
theorem drawsE (hA : A.handled = none) (it t : Addr) (its : Array Value) (n : Nat) (hx : its[n]? = none) (hne : it ≠ t) : Draws prog w A it [it, t] n (fun _ _ => False) (fun j h => j = n /\ h.IsTupleIter it t n /\ h.IsTuple t its) where
 live := fun i h st => let ⟨o, q, _⟩ := st.2.1; ⟨o, q⟩
 frame := fun i h h' st k => ⟨st.1, let ⟨o, q, r⟩ := st.2.1; ⟨o, k it (by simp) o q, r⟩, let ⟨o, q, r⟩ := st.2.2; ⟨o, k t (by simp) o q, r⟩⟩
 item := fun i s Q E hi st hQ => absurd st.1 (Nat.ne_of_lt hi)
 done := fun s Q E st hE => zS9 hA st.2.1 st.2.2 hx hE
end
end PySem
namespace L2.L3
open PySem PyProof.Rows
variable [CN]
def Ith (K : KFr) (a : Addr) : It :=
 ⟨fun i H => ∃ xs x, SqT K H a xs /\ xs[i]? = some x, fun i H x H' => ∃ t y, H t = none /\ x = .ref t /\ H' = upd H t (.tup [.int (i : Int), y]) /\ ∀ xs, SqT K H a xs -> xs[i]? = some y, fun i H => ∃ xs, SqT K H a xs /\ xs.length <= i⟩
theorem zP1 {P : Program} {w : World} {K : KFr} {es : List Expr} {x1 : Nat} {tp : Pos} (a e it : Addr) (hne : e ≠ it) (hia : it ≠ a) (hea : e ≠ a) : Turn P w K (.Tuple es x1 tp) (Ith K a) [e, it] e (fun i h => (∃ old, IsEnum h e it i old) /\ h.IsTupleIter it a i) where
 mem := by simp
 obj := fun i h st b hb => by
  obtain ⟨⟨old, he⟩, o, ho, hc, hd⟩ := st
  have z : b = e \/ b = it := by simpa using hb
  rcases z with rfl | rfl
  ·exact ⟨_, he, fun v z => by cases z⟩
  ·exact ⟨o, ho, fun v z => by rw [hd] at z; cases z⟩
 keep := fun i h h' st k => ⟨st.1.elim fun old he => ⟨old, k e (by simp) _ he⟩, let ⟨o, q, r⟩ := st.2; ⟨o, k it (by simp) o q, r⟩⟩
 item := by
  intro X hP hw hK hc i pins s σ H E I hf st hg
  subst hP hw hK
  obtain ⟨xs, x, hq, hx⟩ := hg
  obtain ⟨its, rv, p, hz⟩ := I.tuple hq
  obtain ⟨u, hu, ru⟩ := rv.get hx
  obtain ⟨⟨old, he⟩, hit⟩ := st
  have fe := hf e (by simp)
  have fi := hf it (by simp)
  have hlt : i < its.toArray.size := by
   have := (List.getElem?_eq_some_iff.mp hu).1
   simpa using this
  refine wpAny_pyNext_enum_itemD (drawsT (show X.A.in1.handled = none from I.ok.hd hc) it a its.toArray hia) he ⟨hit, p⟩ hlt hne (by simp [hne, hea]) fun x' h' tk hP' ho hit' hT hsz hk => ⟨_, rfl, ?_⟩
  have ex : x' = u := by
   have h2 : its.toArray[i]? = some u := by simpa using hu
   have h3 : its.toArray[i]? = some x' := hP'
   rw [h2] at h3
   exact (Option.some.inj h3).symm
  subst ex
  have hfr : H s.heap.objs.size = none := I.hok.fresh (Nat.le_refl _)
  have I1 : Inv X pins σ (upd H s.heap.objs.size (.tup [.int (i : Int), x])) { s with heap := s.heap.push { cls := .type "tuple", data := .seq #[.int i tk, x'] }, toks := tk + 1 } :=
   I.laid (t' := tk + 1) (fun b o q => Heap.get?_push_of_some _ q) (Nat.le_refl _) ⟨by show 2 <= sizeLine; decide, [.int i tk, x'], .cons ⟨_, rfl⟩ (.cons ru .nil), TupAt.new _ _⟩
  have lte : e < s.heap.objs.size := Heap.lt_size he
  have lti : it < s.heap.objs.size := by obtain ⟨_, q, _⟩ := hit; exact Heap.lt_size q
  have fe1 : FpOk X pins (upd H s.heap.objs.size (.tup [.int (i : Int), x])) e := ⟨by rw [zT (Nat.ne_of_lt lte)]; exact fe.1, fe.2⟩
  have fi1 : FpOk X pins (upd H s.heap.objs.size (.tup [.int (i : Int), x])) it := ⟨by rw [zT (Nat.ne_of_lt lti)]; exact fi.1, fi.2⟩
  have I2 : Inv X pins σ (upd H s.heap.objs.size (.tup [.int (i : Int), x])) { s with heap := h', toks := tk + 1 } := by
   refine turned2 (s := { s with heap := s.heap.push { cls := .type "tuple", data := .seq #[.int i tk, x'] }, toks := tk + 1 }) (h' := h') (t' := tk + 1) I1 (fun b o b1 b2 q => ?_) fe1 fi1
   by_cases z : b = s.heap.objs.size
   ·subst z
    have q : (s.heap.push { cls := .type "tuple", data := .seq #[.int i tk, x'] }).get? s.heap.objs.size = some o := q
    rw [Heap.get?_push_size _ rfl] at q
    rw [hT]; exact q
   ·have q : (s.heap.push { cls := .type "tuple", data := .seq #[.int i tk, x'] }).get? b = some o := q
    rw [Heap.get?_push_ne _ _ _ z] at q
    exact hk b o b1 b2 q
  refine wpAny_letOwnedTupleGo_enum ho fun h2 he2 hs2 => ?_
  refine ⟨.ref s.heap.objs.size, _, turned2 (s := { s with heap := h', toks := tk + 1 }) (h' := h2) (t' := tk + 1) I2 (fun b o b1 b2 q => (hs2.2 b b1).trans q) fe1 fi1, rfl, ⟨_, x, hfr, rfl, rfl, fun ys hy => by rw [I.cK hy hq]; exact hx⟩, ⟨⟨_, he2⟩, let ⟨o, q, r⟩ := hit'.1; ⟨o, (hs2.2 it hne.symm).trans q, r⟩⟩, fun b hb => ?_⟩
  have z : b = e \/ b = it := by simpa using hb
  rcases z with rfl | rfl
  ·exact fe1.1
  ·exact fi1.1
 done := by
  intro X hP hw hK hc i pins s σ H E I hf st hg
  subst hP hw hK
  obtain ⟨xs, hq, hx⟩ := hg
  obtain ⟨its, rv, p, hz⟩ := I.tuple hq
  obtain ⟨⟨old, he⟩, hit⟩ := st
  have hl := rv.length
  exact wpAny_pyNext_enum_endD (drawsE (show X.A.in1.handled = none from I.ok.hd hc) it a its.toArray i (by simp; bv_omega) hia) he ⟨rfl, hit, p⟩ fun h' eb => ⟨rfl, turned2 (t' := s.toks) I (fun b o _ b2 q => eb b o b2 q) (hf e (by simp)) (hf it (by simp))⟩
 self := fun _ _ _ _ _ st h => st.1.elim fun old he => wpAny_pyIter_enum he h
def iEnum (K : KFr) (t : TA) : TI := fun σ H R => t σ H fun vs H1 => ∃ a, vs = [.ref a] /\ (((∃ xs, SqL K H1 a xs) /\ R (Ite K a) H1) \/ ((∃ xs, SqT K H1 a xs) /\ R (Ith K a) H1))
theorem yY9 {X : Cx} {l : Expr} {ta : TA} {es : List Expr} {x1 : Nat} {tp p pos : Pos} (hg : Gl X "enumerate") (hm : X.mg "enumerate" = none) (ha : PA X [l] ta) (hs : autoParam (starEach [l] X.env = [(false, eval l X.env)]) zX._auto_1) : PI X (.Tuple es x1 tp) (.Call (.Name "enumerate" p) [l] [] pos) (iEnum X.K ta) := by
 intro pins s σ H R I h
 refine Call_ (kD I hg hm boot_enumerate (PyProof.Rows.callWith_type1 (thn (ha pos pins s σ H _ I h) fun us s1 ⟨vs, H1, I1, r1, q1⟩ => ?_) hs rfl))
 obtain ⟨a, e, q1⟩ := q1
 subst e
 obtain ⟨u, rfl, ru⟩ := vals1 r1
 cases ru
 rcases q1 with ⟨⟨xs, hq⟩, q⟩ | ⟨⟨xs, hq⟩, q⟩
 ·obtain ⟨its, rv, pl, hz⟩ := I1.list hq
  refine call_enumerate_list pl.isList fun h' he hit hsz hk => ?_
  refine wpAny_pyIter_enum he ?_
  refine ⟨s1.heap.objs.size + 1, [s1.heap.objs.size + 1, s1.heap.objs.size], _, _, H1, rfl, I1.kept (t' := s1.toks) hk, zM7 a (s1.heap.objs.size + 1) s1.heap.objs.size (Nat.succ_ne_self _), ⟨⟨_, he⟩, hit⟩, fun b hb => ?_, q⟩
  have z : b = s1.heap.objs.size + 1 \/ b = s1.heap.objs.size := by simpa using hb
  rcases z with rfl | rfl
  ·exact I1.fpOk (by bv_omega) (I1.hok.fresh (by bv_omega))
  ·exact I1.fpOk (Nat.le_refl _) (I1.hok.fresh (Nat.le_refl _))
 ·obtain ⟨its, rv, pt, hz⟩ := I1.tuple hq
  have lta : a < s1.heap.objs.size := by obtain ⟨o, q, _⟩ := pt; exact Heap.lt_size q
  refine yX9 (oI := { cls := .type "tuple_iterator", data := .fields #[.ref a, .int 0 0] }) rfl (fun B P E' z => wpAny_pyIter_tuple (show s1.heap.IsTuple a its.toArray from pt) z) fun h' he h0 hk => ?_
  have hit : h'.IsTupleIter s1.heap.objs.size a 0 := ⟨_, h0, rfl, rfl⟩
  refine wpAny_pyIter_enum he ?_
  refine ⟨s1.heap.objs.size + 1, [s1.heap.objs.size + 1, s1.heap.objs.size], _, _, H1, rfl, I1.kept (t' := s1.toks) hk, zP1 a (s1.heap.objs.size + 1) s1.heap.objs.size (Nat.succ_ne_self _) (Nat.ne_of_gt lta) (Nat.ne_of_gt (Nat.lt_succ_of_lt lta)), ⟨⟨_, he⟩, hit⟩, fun b hb => ?_, q⟩
  have z : b = s1.heap.objs.size + 1 \/ b = s1.heap.objs.size := by simpa using hb
  rcases z with rfl | rfl
  ·exact I1.fpOk (by bv_omega) (I1.hok.fresh (by bv_omega))
  ·exact I1.fpOk (Nat.le_refl _) (I1.hok.fresh (Nat.le_refl _))
def WalksO (Oc : Wd) (Ob : Addr -> Prop) (J : It) (H1 : Hp) (ds : List D) : Prop :=
 ∀ (H2 : Hp) (Ob2 : Addr -> Prop), Frm Ob H1 H2 -> (∀ b, Ob2 b -> Ob b \/ H1 b = none) -> (∀ a, Oc a \/ Ob2 a -> H2 a ≠ none) -> ∀ i, (∀ d, ds[i]? = some d -> J.go i H2 /\ ∀ x H3, J.yld i H2 x H3 -> Same H2 H3 /\ Rep H3 (Uni Oc Ob2) x d) /\ (ds.length <= i -> J.stop i H2)
def RIo (C : Ct) (tg iter : Expr) (m : Ev -> Res (List D)) : Prop :=
 ∃ wi, PI C.X tg iter wi /\ ∀ (Oc : Wd) (Ob : Addr -> Prop) (σ : St) (H : Hp) (ρ : Ev) (R : It -> Hp -> Prop), Rel Oc Ob C.om C.ln σ H ρ ->
  (m ρ).post (fun ds => ∀ J H1, Same H H1 -> WalksO Oc Ob J H1 ds -> R J H1) (fun c => ∀ H', Same H H' -> C.XE c H') -> wi σ H R
section
variable {C : Ct} {fr : Bool} {body : List Stmt} {m : Ev -> Res Out} {mi : Ev -> Res (List D)} {g : D -> Ev -> Option Ev} {pos : Pos}
theorem yZ1 {tg iter : Expr} (hi : RIo C tg iter mi) (hg : RG C tg g) (hb : RSs C fr body m) (hp : autoParam (PassesOwn (model C.X.prog C.X.w) C.X.A C.X.env C.X.xe) autoK13._auto_1) (hc : autoParam (C.X.calm = true) zX._auto_1)
  (hs : autoParam (∀ x, foldedSetIterable iter C.X.env x = pure x) xD._auto_1) : RS C fr (.For tg iter body [] pos) (sF mi g m) := by
 obtain ⟨wi, pi, qi⟩ := hi
 obtain ⟨tg', pg, qg⟩ := hg
 obtain ⟨tb, pb, qb⟩ := hb
 refine ⟨_, dX hp hc pi pg pb hs, fun Oc Ob σ H ρ E R h => qi Oc Ob σ H ρ _ R (Res.zV (Res.zW h) (fun ds _ k J H1 s1 wk => ?_) fun c z H' s => z H' (Same.frm s))⟩
 refine ⟨fun i mm σ' H' => mm = ds.length - i /\ i <= ds.length /\ ∃ ρi Obi, Rel Oc Obi C.om C.ln σ' H' ρi /\ Frm Ob H1 H' /\ (∀ b, Obi b -> Ob b \/ H1 b = none) /\ SPost C fr Oc Obi H' E (forM g m (ds.drop i) ρi),
  ⟨_, rfl, Nat.zero_le _, ρ, Ob, R.same s1, Same.frm (Same.refl _), fun b z => .inl z, SPost.same s1 k⟩, ?_⟩
 rintro i mm σ2 H2 ⟨rfl, hi, ρi, Obi, R2, f2, sb2, k2⟩
 obtain ⟨w1, w2⟩ := wk H2 Obi f2 sb2 R2.oh i
 by_cases hlt : i < ds.length
 ·obtain ⟨go, yl⟩ := w1 ds[i] (List.getElem?_eq_getElem hlt)
  have ed : ds.drop i = ds[i] :: ds.drop (i + 1) := List.drop_eq_getElem_cons hlt
  rw [ed, forM] at k2
  obtain ⟨ρ1, e1, k2⟩ := Res.zA (Res.zW k2)
  refine .inr ⟨go, fun σ' H' => ∃ m', m' < ds.length - i /\ (m' = ds.length - (i + 1) /\ i + 1 <= ds.length /\ ∃ ρi Obi, Rel Oc Obi C.om C.ln σ' H' ρi /\ Frm Ob H1 H' /\ (∀ b, Obi b -> Ob b \/ H1 b = none) /\ SPost C fr Oc Obi H' E (forM g m (ds.drop (i + 1)) ρi)), fun _ _ z => z, fun x H3 hy => ?_⟩
  obtain ⟨s3, rx⟩ := yl x H3 hy
  refine qg Oc Obi σ2 H3 ρi ρ1 x _ _ (R2.same s3) rx e1 fun σ3 R3 => ?_
  have k3 := SPost.same s3 (show SPost C fr Oc Obi H2 E _ from k2)
  refine qb Oc Obi σ3 H3 ρ1 _ R3 (Res.zV (Res.zW k3) (fun o _ k4 => ?_) fun _ z => z)
  cases o with
  | rt d => exact k4
  | nx ρ2 =>
   intro σ4 H4 Ob4 R4 f4 sb4
   have f3 : Frm Ob H1 H3 := fun b o e n => s3 b o (f2 b o e n)
   refine ⟨_, by bv_omega, rfl, hlt, ρ2, Ob4, R4, f3.trans sb2 f4, fun b z => (sb4 b z).elim (sb2 b) fun z => f3.none z, SPost.step f4 sb4 k4⟩
 ·have ei : i = ds.length := by bv_omega
  subst ei
  rw [List.drop_length] at k2
  exact .inl ⟨w2 (Nat.le_refl _), k2 σ2 H2 Obi R2 (Same.frm (Same.refl _)) fun b z => .inl z⟩
def enumD (ds : List D) : List D := (List.range ds.length).map fun (i : Nat) => PyData.tuple [.int (i : Int), ds.getD i .none]
def xU (m : Ev -> Res D) : Ev -> Res (List D) := fun ρ => (m ρ).bind fun d => (Res.lft (seqD d)).bind fun ds => .ok (enumD ds)
theorem dZ {K : KFr} {Oc : Wd} {Ob : Addr -> Prop} {H1 : Hp} {a : Addr} {ys : List V} {ds : List D} (r : Rd H1 a (.lst ys)) (n : ¬ Ob a) (rs : Reps H1 (Uni Oc Ob) ys ds) : WalksO Oc Ob (Ite K a) H1 (enumD ds) := by
 intro H2 Ob2 f s oh i
 have r2 : Rd H2 a (.lst ys) := xJ r fun o e => f a o e n
 have rs2 := rs.step f s
 have le : (enumD ds).length = ds.length := by unfold enumD; simp
 refine ⟨fun d e => ?_, fun h => ⟨ys, .inl r2, by rw [rs2.length]; rw [le] at h; exact h⟩⟩
 unfold enumD at e
 rw [List.getElem?_map] at e
 obtain ⟨j, ej, rfl⟩ := Option.map_eq_some_iff.mp e
 have hi : i < ds.length := by
  have := (List.getElem?_eq_some_iff.mp ej).1
  simpa using this
 rw [List.getElem?_range hi] at ej
 cases ej
 have ed : ds[i]? = some (ds.getD i .none) := by rw [List.getD_eq_getElem?_getD, List.getElem?_eq_getElem hi]; rfl
 obtain ⟨v, ev, rv⟩ := rs2.get ed
 refine ⟨⟨ys, v, .inl r2, ev⟩, fun x H3 hy => ?_⟩
 obtain ⟨t, y, ht, rfl, rfl, hy⟩ := hy
 have := hy ys (.inl r2)
 rw [ev] at this
 cases this
 exact ⟨Same.new ht, jP oh ht (.cons (.int _) (.cons rv .nil))⟩
theorem zW5 {K : KFr} {Oc : Wd} {Ob : Addr -> Prop} {H1 : Hp} {a : Addr} {ys : List V} {ds : List D} (r : Rd H1 a (.tup ys)) (n : ¬ Ob a) (rs : Reps H1 (Uni Oc Ob) ys ds) : WalksO Oc Ob (Ith K a) H1 (enumD ds) := by
 intro H2 Ob2 f s oh i
 have r2 : Rd H2 a (.tup ys) := xJ r fun o e => f a o e n
 have rs2 := rs.step f s
 have le : (enumD ds).length = ds.length := by unfold enumD; simp
 refine ⟨fun d e => ?_, fun h => ⟨ys, .inl r2, by rw [rs2.length]; rw [le] at h; exact h⟩⟩
 unfold enumD at e
 rw [List.getElem?_map] at e
 obtain ⟨j, ej, rfl⟩ := Option.map_eq_some_iff.mp e
 have hi : i < ds.length := by
  have := (List.getElem?_eq_some_iff.mp ej).1
  simpa using this
 rw [List.getElem?_range hi] at ej
 cases ej
 have ed : ds[i]? = some (ds.getD i .none) := by rw [List.getD_eq_getElem?_getD, List.getElem?_eq_getElem hi]; rfl
 obtain ⟨v, ev, rv⟩ := rs2.get ed
 refine ⟨⟨ys, v, .inl r2, ev⟩, fun x H3 hy => ?_⟩
 obtain ⟨t, y, ht, rfl, rfl, hy⟩ := hy
 have := hy ys (.inl r2)
 rw [ev] at this
 cases this
 exact ⟨Same.new ht, jP oh ht (.cons (.int _) (.cons rv .nil))⟩
theorem qU {e : Expr} {ma : Ev -> Res D} {es : List Expr} {x1 : Nat} {tp p pos : Pos} (hm : C.X.mg "enumerate" = none) (h : RE C .rd e ma) (hg : autoParam (Gl C.X "enumerate") zX._auto_1) (hs : autoParam (starEach [e] C.X.env = [(false, eval e C.X.env)]) zX._auto_1) (hs2 : autoParam (starEach [e] C.X.env = (false, eval e C.X.env) :: starEach [] C.X.env) zX._auto_1) : RIo C (.Tuple es x1 tp) (.Call (.Name "enumerate" p) [e] [] pos) (xU ma) := by
 obtain ⟨t, pe, q⟩ := h
 refine ⟨_, yY9 hg hm (zY pe zO hs2) hs, fun Oc Ob σ H ρ W R h => q Oc Ob σ H ρ _ R (Res.zV (Res.zW h) (fun d _ k v H' s r => ?_) fun _ z => z)⟩
 obtain ⟨ds, e, k⟩ := Res.zA (Res.zW k)
 rcases r with r | ⟨a, ys, ds', rfl, rfl, e3, e4, e5⟩
 ·cases r with
  | lst r n t => cases e; exact ⟨_, rfl, .inl ⟨⟨_, .inl r⟩, k _ H' s (dZ r (fun z => n (.inr z)) t)⟩⟩
  | tup r n t => cases e; exact ⟨_, rfl, .inr ⟨⟨_, .inl r⟩, k _ H' s (zW5 r (fun z => n (.inr z)) t)⟩⟩
  | _ => cases e
 ·cases e
  exact ⟨_, rfl, .inl ⟨⟨_, SqL.of e3⟩, k _ H' s (dZ (.inl e3) e4 e5)⟩⟩
end
theorem dA (m : Ev -> Res D) (ρ : Ev) : xU m ρ = (m ρ).bind fun d => (Res.lft (seqD d)).bind fun ds => .ok (enumD ds) := rfl
end L2.L3
namespace PySem
section
variable {prog : Program} {w : World} {A : Around} {E : Value -> Shared -> Prop} {s : Shared}
end
end PySem
namespace L2.L3
open PySem PySem.Spec PyProof.Rows
variable [CN]
def sA (me : Ev -> Res D) (g : D -> Ev -> Option Ev) : Ev -> Res Out := fun ρ => (me ρ).bind fun d => (Res.lft (g d ρ)).bind fun ρ' => .ok (.nx ρ')
theorem yI2 (me : Ev -> Res D) (g : D -> Ev -> Option Ev) (ρ : Ev) : sA me g ρ = (me ρ).bind fun d => (Res.lft (g d ρ)).bind fun ρ' => .ok (.nx ρ') := rfl
theorem zV7 {C : Ct} {fr : Bool} {e tg : Expr} {pos : Pos} {me : Ev -> Res D} {g : D -> Ev -> Option Ev} (he : RE C .cl e me) (hg : RG C tg g) (hs : autoParam (swapsWithSole [tg] e pos.line C.X.env = pure false) zX._auto_1) (hw : autoParam (swappedStores [tg] e C.X.env = pure none) zX._auto_1)
  (h1 : autoParam ((assignEach [tg] C.X.env).map (·.2) = [assign tg C.X.env]) zX._auto_1) : RS C fr (.Assign [tg] e pos) (sA me g) := yT3 he hg hs hw h1
theorem zT6 {Oc : Wd} {Ob : Addr -> Prop} {H : Hp} {vs : List V} {d : D} (r : VAs Oc Ob H vs [d]) : ∃ v, vs = [v] /\ VA Oc Ob H v d := by
 cases r with
 | cons h t => cases t; exact ⟨_, rfl, h⟩
def intD : List D -> Option D
 | [.int i] => some (.int i)
 | [.bool b] => some (.int (if b then 1 else 0))
 | _ => none
theorem zS8 : PrC (fun xs H Q => (∃ i, xs = [.int i] /\ Q (.int i) H) \/ ∃ k, xs = [.bl k] /\ Q (.int (if k then 1 else 0)) H) .cl intD := by
 intro Oc Ob H vs ds d Q oh r e k
 unfold intD at e
 split at e
 ·cases e
  obtain ⟨v, rfl, h⟩ := zT6 r
  exact .inl ⟨_, by rw [h.int], k _ H (Same.refl H) (Rep.int _)⟩
 ·cases e
  obtain ⟨v, rfl, h⟩ := zT6 r
  exact .inr ⟨_, by rw [h.bool], k _ H (Same.refl H) (Rep.int _)⟩
 ·cases e
theorem yJ7 {P : Program} {w : World} {K : KFr} {mg : Str -> Option Value} {base : Heap} {fr : Bool} {k : Nat} {f : Addr} {fd : FuncData} {ps : List Str} : FnOk P w K mg base CX0 k f fd ps (spF fr fun _ => .no) :=
 ⟨fun _ _ _ _ ⟨_, _, _, _, k⟩ => k.elim, fun _ _ _ _ _ _ _ _ _ _ _ _ _ ⟨_, _, _, _, k⟩ => k.elim⟩
section
variable {X : Cx}
end
def eM1 (f : List D -> D -> Option D) (mo ma : Ev -> Res D) : Ev -> Res D := fun ρ => (mo ρ).bind fun x => (Res.lft (lstD x)).bind fun ds => (ma ρ).bind fun y => Res.lft (f ds y)
theorem yS5 (f : List D -> D -> Option D) (mo ma : Ev -> Res D) (ρ : Ev) : eM1 f mo ma ρ = (mo ρ).bind fun x => (Res.lft (lstD x)).bind fun ds => (ma ρ).bind fun y => Res.lft (f ds y) := rfl
def StepOk (i j k : Int) : Prop := k ≠ 0 /\ k.natAbs.log2 < 9000 /\ Builtin.Range.small i j k = true /\ 0 <= Builtin.Range.rangeSize i j k
instance (i j k : Int) : Decidable (StepOk i j k) := by unfold StepOk; infer_instance
end L2.L3
namespace L2.L3
open PySem PyProof.Rows
variable [CN]
section
variable {X : Cx}
end
def revT : D -> Option D
 | .list ds => some (.tuple ds.reverse)
 | _ => none
def eRevT (m : Ev -> Res D) : Ev -> Res D := fun ρ => (m ρ).bind fun d => Res.lft (revT d)
theorem zE7 (m : Ev -> Res D) (ρ : Ev) : eRevT m ρ = (m ρ).bind fun d => Res.lft (revT d) := rfl
end L2.L3
namespace L2
open PySem PyProof.Rows
structure CScope2 (sc0 scope : Scope) (N0 : List Str) (xt yt : Str) (fs : List Str) (js : List Nat) : Prop where
 kind : scope.kind = .function
 nocell : ∀ y ∈ scope.names, y.2 ≠ .cell
 names : ∀ y ∈ scope.names, y.2 = .local -> scope.names.lookup y.1 = some .local
 tgt : scope.names.lookup xt = some .local
 tgt2 : scope.names.lookup yt = some .local
 frees : ∀ y ∈ scope.names, y.2 = .free -> sc0.names.lookup y.1 = some .cell \/ sc0.names.lookup y.1 = some .free
 len : js.length = fs.length
 slots : ∀ p ∈ fs.zip js, N0[p.2]? = some p.1 /\ scope.names.lookup p.1 = some .free
 nd : (xt :: yt :: fs).Nodup
def compSt2 (σ : St) (js : List Nat) (v w : Option V) : St := v :: w :: js.map fun j => (σ[j]?).join
section
variable {X : Cx} {pins : List (Addr × Obj)} {σ : St} {H : Hp} {s₂ s₄ : Shared} {sc0 scope : Scope} {N0 : List Str} {xt yt : Str} {fs : List Str} {js : List Nat} {fp : List Addr}
theorem CScope2.cells (S : CScope2 sc0 scope N0 xt yt fs js) (h0 : X.env.scope = sc0) (ok : X.Ok) : ∀ n, (n, NameKind.free) ∈ scope.names -> ∃ c, X.env.cells.lookup n = some c := fun n hn => ok.has n (by subst h0; exact S.frees _ hn rfl)
theorem CScope2.sub (S : CScope2 sc0 scope N0 xt yt fs js) (h0 : X.env.scope = sc0) (ok : X.Ok) : ∀ x c, (clos X.env.cells scope.names []).lookup x = some c -> X.env.cells.lookup x = some c :=
 kZ scope.names [] (S.cells h0 ok) fun x c e => by simp at e
theorem Inv.block2 (S : CScope2 sc0 scope N0 xt yt fs js) (h0 : X.env.scope = sc0) (hN0 : X.N = N0) (I : Inv X pins σ H s₂) (hf : ∀ b ∈ fp, FpOk X pins H b) (hfo : ∀ b ∈ fp, ∃ o, s₂.heap.get? b = some o)
  (hos : s₄.os = s₂.os) (hg : AllBare s₄.gens) (hk : ∀ b o, s₂.heap.get? b = some o -> s₄.heap.get? b = some o) {C : Addr} (hC : s₂.heap.objs.size <= C) {m : Str -> Option Value} (hn : s₄.heap.Ns C m) :
  Inv (cxComp X (xt :: yt :: fs) scope C fp s₂ H) [] (compSt2 σ js none none) H s₄ := by
 have sub := S.sub h0 I.ok
 have blt : ∀ b ∈ fp, b < s₂.heap.objs.size := fun b hb => let ⟨o, e⟩ := hfo b hb; Heap.lt_size e
 have ok : (cxComp X (xt :: yt :: fs) scope C fp s₂ H).Ok := by
  refine ⟨I.ok.mod, S.kind, I.ok.glob, I.ok.blt, hC, fun x y c h1 h2 => I.ok.inj x y c (sub x c h1) (sub y c h2), fun x hx => ?_, fun x c h => (nomatch h), I.ok.hd, I.ok.frames, .inl rfl, fun b hb => ⟨?_, fun x c h => (hf b hb).2.2.2.2.1 x c (sub x c h)⟩, I.bs, Nat.le_trans I.ok.bsz I.sz, fun b o e hb => ?_, fun b hb hs => ?_, I.stack, I.stkFree⟩
  ·have hx : (relabel scope X.env).names.lookup x = some .cell \/ (relabel scope X.env).names.lookup x = some .free := hx
   have hfree : scope.names.lookup x = some .free := by
    rcases hx with hx | hx
    ·rcases vK hx with q | ⟨_, q⟩
     ·exact absurd rfl (S.nocell _ (PySem.mem_of_lookup q))
     ·exact q
    ·rcases vK hx with q | ⟨q, _⟩
     ·exact q
     ·cases q
   exact vA scope.names [] x (PySem.mem_of_lookup hfree)
  ·exact Nat.ne_of_lt (Nat.lt_of_lt_of_le (blt b hb) hC)
  ·rcases (hf b hb).2.2.2.1 with z | z
   ·exact I.ok.noex b o e z
   ·exact absurd (Nat.lt_of_lt_of_le (Heap.lt_size (I.ok.bs b o e).1) z) (Nat.lt_irrefl _)
  ·rcases List.mem_cons.mp (I.stkSub b hs) with z | z
   ·exact (hf b hb).2.1 z
   ·exact (hf b hb).2.2.1 z
 refine ⟨ok, hos, hg, Un.kept hk, ⟨m, hn, fun i x v e1 e2 e3 => ?_⟩, fun x c e => ?_, I.hok.fresh hC, fun x c e => I.freeC x c (sub x c e), fun p hp => absurd (show p ∈ ([] : List (Addr × Obj)) from hp) (by simp), I.hok.kept hk, ?_⟩
 ·cases i with
  | zero => cases e2
  | succ i =>
   cases i with
   | zero => cases e2
   | succ i =>
   have e1 : fs[i]? = some x := e1
   have e2 : (js.map fun j => (σ[j]?).join)[i]? = some (some v) := e2
   rw [List.getElem?_map] at e2
   cases ej : js[i]? with
   | none => rw [ej] at e2; cases e2
   | some j =>
    rw [ej] at e2
    have e2 : (σ[j]?).join = some v := Option.some.inj e2
    obtain ⟨hN, hfr⟩ := S.slots _ (dH e1 ej)
    have hN : X.N[j]? = some x := by rw [hN0]; exact hN
    have hk2 : X.env.kindOf x = some .cell \/ X.env.kindOf x = some .free := by subst h0; exact S.frees _ (PySem.mem_of_lookup hfr) rfl
    have hs : σ[j]? = some (some v) := by
     cases q : σ[j]? with
     | none => rw [q] at e2; cases e2
     | some z => rw [q] at e2; rw [show z = some v from e2]
    obtain ⟨m0, hn0, hl⟩ := I.loc
    obtain ⟨u, r, l⟩ := hl j x v hN hs (by rcases hk2 with z | z; exact .inr (.inl z); exact .inr (.inr z))
    refine ⟨u, r, ?_⟩
    rcases l with ⟨hloc, _⟩ | ⟨_, c, hc, hcell⟩
    ·rcases hk2 with z | z
     ·rw [z] at hloc; cases hloc
     ·rw [z] at hloc; cases hloc
    ·obtain ⟨c', hc'⟩ := vA (cells := X.env.cells) scope.names [] x (PySem.mem_of_lookup hfr)
     have : c' = c := Option.some.inj ((sub x c' hc').symm.trans hc)
     subst this
     exact .inr ⟨kK hfr, c', hc', hcell.keeps hk⟩
 ·obtain ⟨v, z⟩ := I.cell x c (sub x c e)
  exact ⟨v, z.keeps hk⟩
 ·show (compSt2 σ js none none).length = (xt :: yt :: fs).length
  unfold compSt2
  rw [List.length_cons, List.length_cons, List.length_map, List.length_cons, List.length_cons, S.len]
end
def tComp2 (K : KFr) (wi : TI) (tt : Addr -> List Addr -> Shared -> Hp -> TT) (te : Addr -> List Addr -> Shared -> Hp -> TE) (js : List Nat) : TE := fun σ H Q => wi σ H fun J H1 => ∀ C fp s₂ H₂, ∃ W : Nat -> Nat -> List V -> Hp -> Prop, (∃ m, W 0 m [] H1) /\ ∀ i m acc H, W i m acc H ->
 (J.stop i H /\ ∀ p, H p = none -> Q (.ref p) (upd H p (.lst acc))) \/
 (J.go i H /\ ∃ N : List V -> Hp -> Prop, (∀ acc' H', N acc' H' -> ∃ m', m' < m /\ W (i + 1) m' acc' H') /\
  ∀ x H', J.yld i H x H' -> ∃ ta x1 x2, x = .ref ta /\ SqT K H' ta [x1, x2] /\ tt C fp s₂ H₂ (compSt2 σ js (some x1) (some x2)) H' fun b H2 => if b = true then te C fp s₂ H₂ (compSt2 σ js (some x1) (some x2)) H2 fun v H3 => acc.length < sizeLine /\ N (acc ++ [v]) H3 else N acc H2)
theorem zH9 {X : Cx} {elt iter : Expr} {ifs : List Expr} {sc0 scope : Scope} {N0 : List Str} {px py tp pos : Pos} {k1 : Nat} {xt yt : Str} {fs : List Str} {js : List Nat} {wi : TI} {tt : Addr -> List Addr -> Shared -> Hp -> TT} {te : Addr -> List Addr -> Shared -> Hp -> TE} (S : CScope2 sc0 scope N0 xt yt fs js) (h0 : X.env.scope = sc0) (hN0 : X.N = N0) (hc : X.calm = true)
  (hi : PI X (.Tuple [.Name xt px, .Name yt py] k1 tp) iter wi) (ht : ∀ C fp s₂ H, PTs (cxComp X (xt :: yt :: fs) scope C fp s₂ H) ifs (tt C fp s₂ H)) (he : ∀ C fp s₂ H, PE (cxComp X (xt :: yt :: fs) scope C fp s₂ H) elt (te C fp s₂ H))
  (hs : autoParam (∀ x, foldedSetIterable iter X.env x = pure x) xD._auto_1) :
  PE X (.ListComp elt [⟨.Tuple [.Name xt px, .Name yt py] k1 tp, iter, ifs, 0⟩] scope pos) (tComp2 X.K wi tt te js) := by
 intro pins s σ H Q I h
 rw [eval_ListComp]
 refine wpAny_comprehension_free (use := none) rfl hs (uL (S.cells h0 I.ok)) S.kind S.names ?_
 refine thn (hi pins s σ H _ I h) fun v s1 h1 => thn h1 fun itv s2 h2 => ?_
 obtain ⟨it, fp, tn, J, H2, e, I2, T, st2, f2, hW⟩ := h2
 subst e
 have fo : ∀ b ∈ fp, ∃ o, s2.heap.get? b = some o := fun b hb => let ⟨o, e, _⟩ := T.obj 0 s2.heap st2 b hb; ⟨o, e⟩
 have blt : ∀ b ∈ fp, b < s2.heap.objs.size := fun b hb => let ⟨o, e⟩ := fo b hb; Heap.lt_size e
 refine kF S.nocell S.kind fun D C h₁ mC hDle hCle hDC old hacc hns₁ => ?_
 have bC : ∀ b o, s2.heap.get? b = some o -> b ≠ C := fun b o q z => Nat.not_lt.mpr hCle (z ▸ Heap.lt_size q)
 have bD : ∀ b o, s2.heap.get? b = some o -> b ≠ D := fun b o q z => Nat.not_lt.mpr hDle (z ▸ Heap.lt_size q)
 obtain ⟨W, ⟨m0, w0⟩, turn⟩ := hW C fp s2 H2
 have fpk : ∀ {H' : Hp} (ob : Obj), (∀ b ∈ fp, H' b = none) -> ∀ b ∈ fp, FpOk (cxComp X (xt :: yt :: fs) scope C fp s2 H2) [(D, ob)] H' b := fun {H'} ob hn b hb => by
  refine ⟨hn b hb, Nat.ne_of_lt (Nat.lt_of_lt_of_le (blt b hb) hCle), fun z => ?_, .inl hb, fun x c e => (f2 b hb).2.2.2.2.1 x c (S.sub h0 I2.ok x c e), fun p hp => ?_⟩
  ·rcases List.mem_cons.mp (I2.stkSub b z) with q | q
   ·exact (f2 b hb).2.1 q
   ·exact (f2 b hb).2.2.1 q
  ·have : p = (D, ob) := by
    have hp : p ∈ [] ++ [(D, ob)] := hp
    simpa using hp
   subst this
   exact Nat.ne_of_gt (Nat.lt_of_lt_of_le (blt b hb) hDle)
 have loop : codeAny (model X.prog X.w) X.A (.compLoop (.ListComp elt [⟨.Tuple [.Name xt px, .Name yt py] k1 tp, iter, ifs, 0⟩] scope pos) 0 (.ref it) (.ref D) (compEnvC scope (clos X.env.cells scope.names []) C X.env))
    (compPost (model X.prog X.w) X.A X.xe none (EP X pins σ Q) (.ref D) C) { s2 with heap := h₁ } := by
  have J0 : Inv (cxComp X (xt :: yt :: fs) scope C fp s2 H2) [] (compSt2 σ js none none) H2 { s2 with heap := h₁ } :=
   Inv.block2 (s₂ := s2) (s₄ := { s2 with heap := h₁ }) S h0 hN0 I2 f2 fo rfl I2.bare old hCle hns₁
  have H2D : H2 D = none := I2.hok.fresh hDle
  have ofD : D ∉ frs X.stack := fun z => by
   rcases List.mem_cons.mp (I2.stkSub D z) with q | q
   ·exact absurd I2.lt (by rw [<- q]; exact Nat.not_lt.mpr hDle)
   ·exact I2.nofs (a := D) hDle q
  refine codeAny_loop rfl (fun n s' => ∃ (i : Nat) (σ' : St) (H' : Hp) (acc : List V) (its : List Value) (k : Nat), (∃ v0 w0, σ' = compSt2 σ js v0 w0) /\ Inv (cxComp X (xt :: yt :: fs) scope C fp s2 H2) [] σ' H' s' /\ tn i s'.heap /\ (∀ b ∈ fp, H' b = none) /\ H' D = none /\
    s'.heap.get? D = some { cls := .type "list", data := .seq its.toArray k } /\ Vals acc its /\ acc.length <= sizeLine /\ W i n acc H') ?_ m0
   ⟨0, _, H2, [], [], 0, ⟨none, none, rfl⟩, J0, T.keep 0 _ _ st2 fun b hb o e => old b o e, fun b hb => (f2 b hb).1, H2D, hacc, .nil, Nat.zero_le _, w0⟩
  rintro n s3 ⟨i, σ3, H3, acc, its, k, ⟨v0, w0, rfl⟩, I3, st3, fr3, hD3, d3, va, hz, w3⟩
  show wpAny _ X.A ((compTurn (.ListComp elt [⟨.Tuple [.Name xt px, .Name yt py] k1 tp, iter, ifs, 0⟩] scope pos) 0 (.ref it) (.ref D) (compEnvC scope (clos X.env.cells scope.names []) C X.env)).onRaise (fun x => do noteFrame x (compEnvC scope (clos X.env.cells scope.names []) C X.env); theTreesLotGoes x)) _ _ s3
  refine wpAny_noted ?_
  rw [compTurn_list]
  refine wpAny_bind (wpAny_standAt ?_)
  have pinD : Inv (cxComp X (xt :: yt :: fs) scope C fp s2 H2) [(D, { cls := .type "list", data := .seq its.toArray k })] (compSt2 σ js v0 w0) H3 s3 := I3.xT fun p hp => by
   have : p = (D, { cls := .type "list", data := .seq its.toArray k }) := by simpa using hp
   subst this
   exact ⟨d3, hD3, hDC, ofD, fun v z => by cases z⟩
  refine wpAny_bind ?_
  rcases turn i n acc H3 w3 with ⟨stop, qn⟩ | ⟨go, N, hN, step⟩
  ·refine thn (T.done (cxComp X (xt :: yt :: fs) scope C fp s2 H2) rfl rfl rfl hc i _ s3 _ H3 _ pinD (fpk _ fr3) st3 stop) fun r s4 ⟨hr, I4⟩ => ?_
   subst hr
   refine wpAny_pure ?_
   obtain ⟨m4, hn4, _⟩ := I4.loc
   refine ⟨m4, hn4, fun h' hsb => ⟨.ref D, _, I2.unblock f2 I4 hCle hDle hDC hD3 ((I4.pin (D, { cls := .type "list", data := .seq its.toArray k }) (List.mem_append_right _ List.mem_cons_self)).1) va hz hsb, rfl, qn D hD3⟩⟩
  ·refine thn (T.item (cxComp X (xt :: yt :: fs) scope C fp s2 H2) rfl rfl rfl hc i _ s3 _ H3 _ pinD (fpk _ fr3) st3 go) fun r s4 ⟨u, hr, h4⟩ => ?_
   subst hr
   refine wpAny_bind (thn h4 fun _ s5 ⟨x, H5, I5, r5, y5, st5, fr5⟩ => ?_)
   have I5' := I5.pinned (fpk _ fr5) (T.obj _ _ st5)
   obtain ⟨ta, x1, x2, ex, hx, q6⟩ := step x H5 y5
   have g0 : PG (cxComp X (xt :: yt :: fs) scope C fp s2 H2) (.Name xt px) (gName 0) := vM S.nd rfl (.inl (lookup_relabel_local S.tgt)) (.inr (lookup_relabel_local S.tgt))
   have g1 : PG (cxComp X (xt :: yt :: fs) scope C fp s2 H2) (.Name yt py) (gName 1) := vM S.nd rfl (.inl (lookup_relabel_local S.tgt2)) (.inr (lookup_relabel_local S.tgt2))
   have gok : PG (cxComp X (xt :: yt :: fs) scope C fp s2 H2) (.Tuple [.Name xt px, .Name yt py] k1 tp) (gTup X.K 2 (gCons (gName 0) (gCons (gName 1) gNil))) := aZ hc (uA g0 (uA g1 cT))
   have noE : ∀ (a : Value) (s' : Shared), (cxComp X (xt :: yt :: fs) scope C fp s2 H2).xe a s' -> notedBy (model X.prog X.w) X.A (compEnvC scope (clos X.env.cells scope.names []) C X.env) (fun e s' => compPost (model X.prog X.w) X.A X.xe none (EP X pins σ Q) (.ref D) C (.error e) s') a s' := fun _ _ z => False.elim z
   refine wpAny_bind (wpAny_mono (gok _ s5 (compSt2 σ js v0 w0) H5 x u (fun σ' H' => σ' = compSt2 σ js (some x1) (some x2) /\ H' = H5) I5' r5 ⟨ta, [x1, x2], ex, hx, rfl, x1, [x2], rfl, x2, [], rfl, rfl, rfl, rfl⟩) (fun _ s6 ⟨σ6, H6, I6, e6, e6'⟩ => ?_) noE)
   subst e6 e6'
   have fin : ∀ {acc' : List V} {its' : List Value} {k' : Nat} {H7 : Hp} {s7 : Shared}, Inv (cxComp X (xt :: yt :: fs) scope C fp s2 H2) [] (compSt2 σ js (some x1) (some x2)) H7 s7 -> tn (i + 1) s7.heap -> (∀ b ∈ fp, H7 b = none) -> H7 D = none -> s7.heap.get? D = some { cls := .type "list", data := .seq its'.toArray k' } -> Vals acc' its' -> acc'.length <= sizeLine -> N acc' H7 ->
     ∃ m, m < n /\ ∃ (i : Nat) (σ' : St) (H' : Hp) (acc : List V) (its : List Value) (k : Nat), (∃ v0 w0, σ' = compSt2 σ js v0 w0) /\ Inv (cxComp X (xt :: yt :: fs) scope C fp s2 H2) [] σ' H' s7 /\ tn i s7.heap /\ (∀ b ∈ fp, H' b = none) /\ H' D = none /\
      s7.heap.get? D = some { cls := .type "list", data := .seq its.toArray k } /\ Vals acc its /\ acc.length <= sizeLine /\ W i m acc H' := fun {acc' its' k' H7 s7} a1 a2 a3 a4 a5 a6 a7 a8 => by
    obtain ⟨m', hm, w7⟩ := hN _ _ a8
    exact ⟨m', hm, i + 1, _, H7, acc', its', k', ⟨_, _, rfl⟩, a1, a2, a3, a4, a5, a6, a7, w7⟩
   have rest : ∀ {H7 : Hp} {s7 : Shared}, Inv (cxComp X (xt :: yt :: fs) scope C fp s2 H2) ([(D, { cls := .type "list", data := .seq its.toArray k })] ++ pinsAt fp s5.heap) (compSt2 σ js (some x1) (some x2)) H7 s7 ->
     tn (i + 1) s7.heap /\ (∀ b ∈ fp, H7 b = none) /\ H7 D = none /\ s7.heap.get? D = some { cls := .type "list", data := .seq its.toArray k } := fun {H7 s7} I7 => by
    refine ⟨T.keep _ _ _ st5 fun b hb o e => (I7.pin (b, o) (List.mem_append_right _ (List.mem_append_right _ (xF hb e)))).1, fun b hb => ?_, (I7.pin (D, { cls := .type "list", data := .seq its.toArray k }) (List.mem_append_right _ (List.mem_append_left _ List.mem_cons_self))).2.1, (I7.pin (D, { cls := .type "list", data := .seq its.toArray k }) (List.mem_append_right _ (List.mem_append_left _ List.mem_cons_self))).1⟩
    obtain ⟨o, e, d⟩ := T.obj _ _ st5 b hb
    exact (I7.pin (b, o) (List.mem_append_right _ (List.mem_append_right _ (xF hb e)))).2.1
   have elem : ∀ {H7 : Hp} {s7 : Shared}, Inv (cxComp X (xt :: yt :: fs) scope C fp s2 H2) ([(D, { cls := .type "list", data := .seq its.toArray k })] ++ pinsAt fp s5.heap) (compSt2 σ js (some x1) (some x2)) H7 s7 ->
     (te C fp s2 H2 (compSt2 σ js (some x1) (some x2)) H7 fun v H3 => acc.length < sizeLine /\ N (acc ++ [v]) H3) ->
     wpAny (model X.prog X.w) X.A (eval elt (compEnvC scope (clos X.env.cells scope.names []) C X.env)) (fun y s8 => wpAny (model X.prog X.w) X.A (call (.builtin "list.append") [.ref D, y]) (fun _ s9 => ∃ m, m < n /\ ∃ (i : Nat) (σ' : St) (H' : Hp) (acc : List V) (its : List Value) (k : Nat), (∃ v0 w0, σ' = compSt2 σ js v0 w0) /\ Inv (cxComp X (xt :: yt :: fs) scope C fp s2 H2) [] σ' H' s9 /\ tn i s9.heap /\ (∀ b ∈ fp, H' b = none) /\ H' D = none /\
      s9.heap.get? D = some { cls := .type "list", data := .seq its.toArray k } /\ Vals acc its /\ acc.length <= sizeLine /\ W i m acc H')
      (fun _ _ => False) s8) (fun _ _ => False) s7 := fun {H7 s7} I7 q7 => by
    refine thn (he C fp s2 H2 _ s7 _ H7 _ I7 q7) fun y s8 ⟨v, H8, I8, r8, hl8, n8⟩ => ?_
    obtain ⟨t8, fr8, hD8, d8⟩ := rest I8
    have hsz := va.length
    refine call_meets F.slot_list_append ⟨_, d8, rfl⟩ F.entry_list_append (F.args_list_append_2 _ _) (PySem.list_append D its.toArray k y (by rw [List.size_toArray]; bv_omega)) ⟨d8, ?_⟩
    have q := PySem.IsL.update d8 (·.push y)
    rw [show (its.toArray.push y) = (its ++ [y]).toArray by simp] at q
    have kk : ∀ b o, b ≠ D -> s8.heap.get? b = some o -> (s8.heap.update D (Obj.mapSeq (·.push y))).get? b = some o := fun b o hb e => (Heap.get?_update_other s8.heap _ (Ne.symm hb)).trans e
    have I9 : Inv (cxComp X (xt :: yt :: fs) scope C fp s2 H2) [] (compSt2 σ js (some x1) (some x2)) H8 { s8 with heap := s8.heap.update D (Obj.mapSeq (·.push y)) } := by
     refine Inv.turned (it := D) (t' := s8.toks) (I8.xT (pins' := []) fun p hp => nomatch hp) kk hD8 hDC (.inr hDle) (fun x c e z => ?_) fun p hp => absurd (show p ∈ ([] : List (Addr × Obj)) from hp) (by simp)
     obtain ⟨v, o, ho, _⟩ := I2.cell x c (S.sub h0 I2.ok x c e)
     exact bD c o ho z
    refine fin I9 (T.keep _ _ _ t8 fun b hb o e => kk b o (Nat.ne_of_lt (Nat.lt_of_lt_of_le (blt b hb) hDle)) e) fr8 hD8 q (va.append (.cons r8 .nil)) ?_ n8
    rw [List.length_append, List.length_singleton]
    bv_omega
   have htt := ht C fp s2 H2
   generalize tt C fp s2 H2 = tt' at htt q6
   cases htt with
   | nil =>
    refine wpAny_bind (wpAny_pure ?_)
    dsimp only [tTrue] at q6
    rw [if_pos rfl] at q6
    refine wpAny_mono (wpAny_bind (wpAny_bind (thn (elem I6 q6) fun y s8 h8 => wpAny_bind (thn h8 fun _ s9 h9 => wpAny_pure (wpAny_pure ⟨rfl, h9⟩))))) (fun _ _ z => z) fun _ _ z => False.elim z
   | one ht1 =>
    refine wpAny_bind (wpAny_tests_one (wpAny_mono (ht1 _ s6 _ H6 _ I6 q6) (fun b s7 ⟨H7, I7, q7⟩ => ?_) noE))
    cases b with
    | false =>
     rw [if_neg Bool.false_ne_true] at q7
     obtain ⟨t8, fr8, hD8, d8⟩ := rest I7
     exact wpAny_pure ⟨rfl, fin (I7.xT (pins' := []) fun p hp => nomatch hp) t8 fr8 hD8 d8 va hz q7⟩
    | true =>
     rw [if_pos rfl] at q7
     refine wpAny_mono (wpAny_bind (wpAny_bind (thn (elem I7 q7) fun y s8 h8 => wpAny_bind (thn h8 fun _ s9 h9 => wpAny_pure (wpAny_pure ⟨rfl, h9⟩))))) (fun _ _ z => z) fun _ _ z => False.elim z
 exact codeAny_compStart_list loop (T.self X.A 0 _ _ _ (T.keep 0 _ _ st2 fun b hb o e => old b o e) loop)
end L2
namespace L2.L3
open PySem PyProof.Rows
variable [CN]
def cEnv2 (ρ : Ev) (js : List Nat) (x y : D) : Ev := some x :: some y :: js.map fun j => (ρ[j]?).join
def capt2 (js l : List Nat) : List Nat := ((List.range js.length).filter fun i => l.contains (js.getD i 0)).map (· + 2)
def pr2 {α : Type} (d : D) (f : D -> D -> Res α) : Res α :=
 match d with
 | .tuple [a, b] => f a b
 | _ => .no
theorem yO7 {α : Type} {d : D} {f : D -> D -> Res α} {r : α} (h : pr2 d f = .ok r) : ∃ a b, d = .tuple [a, b] /\ f a b = .ok r := by
 unfold pr2 at h
 split at h
 ·exact ⟨_, _, rfl, h⟩
 ·cases h
def eComp2 (mi : Ev -> Res (List D)) (mt : Ev -> Res Bool) (me : Ev -> Res D) (js : List Nat) : Ev -> Res D := fun ρ => (mi ρ).bind fun ds => if ds.length <= sizeLine then (compM (fun d => pr2 d fun x y => mt (cEnv2 ρ js x y)) (fun d => pr2 d fun x y => me (cEnv2 ρ js x y)) ds).bind fun out => .ok (.list out) else .no
theorem zK7 {js l : List Nat} {i : Nat} (h : i ∈ capt2 js l) : ∃ k, i = k + 2 /\ k < js.length /\ js.getD k 0 ∈ l := by
 unfold capt2 at h
 obtain ⟨k, hk, rfl⟩ := List.mem_map.mp h
 obtain ⟨h1, h2⟩ := List.mem_filter.mp hk
 exact ⟨k, rfl, List.mem_range.mp h1, List.contains_iff_mem.mp h2⟩
theorem bZ {js l : List Nat} {k j : Nat} (h : js[k]? = some j) (hl : j ∈ l) : k + 2 ∈ capt2 js l := by
 unfold capt2
 refine List.mem_map.mpr ⟨k, List.mem_filter.mpr ⟨List.mem_range.mpr ?_, ?_⟩, rfl⟩
 ·exact (List.getElem?_eq_some_iff.mp h).1
 ·rw [List.getD_eq_getElem?_getD, h]
  exact List.contains_iff_mem.mpr hl
theorem fE {ρ : Ev} {js : List Nat} {x y d : D} {k : Nat} (h : (cEnv2 ρ js x y)[k + 2]? = some (some d)) : ∃ j, js[k]? = some j /\ ρ[j]? = some (some d) := by
 unfold cEnv2 at h
 rw [List.getElem?_cons_succ, List.getElem?_cons_succ, List.getElem?_map] at h
 cases e : js[k]? with
 | none => rw [e] at h; cases h
 | some j =>
  rw [e] at h
  refine ⟨j, rfl, ?_⟩
  have h : (ρ[j]?).join = some d := Option.some.inj h
  cases q : ρ[j]? with
  | none => rw [q] at h; cases h
  | some z => rw [q] at h; rw [show z = some d from h]
theorem wK {σ : St} {js : List Nat} {v0 w0 : Option V} {v : V} {k j : Nat} (h : js[k]? = some j) (e : σ[j]? = some (some v)) : (compSt2 σ js v0 w0)[k + 2]? = some (some v) := by
 unfold compSt2
 rw [List.getElem?_cons_succ, List.getElem?_cons_succ, List.getElem?_map, h]
 show some ((σ[j]?).join) = _
 rw [e]
 rfl
def cW2 (Oc : Wd) (Ob : Addr -> Prop) (σ : St) (js : List Nat) : Wd := ⟨Uni Oc Ob, fun i => adr ((compSt2 σ js none none)[i]?)⟩
theorem Rel.comp2 {Oc : Wd} {Ob : Addr -> Prop} {om ln : List Nat} {σ : St} {H : Hp} {ρ : Ev} {js : List Nat} {x y : V} {d d2 : D} (R : Rel Oc Ob om ln σ H ρ) (r : Rep H (Uni Oc Ob) x d) (r2 : Rep H (Uni Oc Ob) y d2) : Rel (cW2 Oc Ob σ js) (fun _ => False) [] (capt2 js (om ++ ln)) (compSt2 σ js (some x) (some y)) H (cEnv2 ρ js d d2) where
 len := by unfold compSt2 cEnv2; simp
 val := fun i d' e _ hl => by
  cases i with
  | zero =>
   cases e
   exact ⟨x, rfl, r.less fun b z => z.elim id fun z => z.elim⟩
  | succ k =>
   cases k with
   | zero =>
   cases e
   exact ⟨y, rfl, r2.less fun b z => z.elim id fun z => z.elim⟩
   | succ k =>
   obtain ⟨j, e1, e2⟩ := fE e
   have h1 : j ∉ om := fun z => hl (bZ e1 (List.mem_append_left _ z))
   have h2 : j ∉ ln := fun z => hl (bZ e1 (List.mem_append_right _ z))
   obtain ⟨v, q, rv⟩ := R.val j d' e2 h1 h2
   exact ⟨v, wK e1 q, rv.less fun b z => z.elim id fun z => z.elim⟩
 own := fun i d' e h => nomatch h
 lnt := fun i d' e _ hl => by
  obtain ⟨k, rfl, hk, hj⟩ := zK7 hl
  obtain ⟨j, e1, e2⟩ := fE e
  rw [List.getD_eq_getElem?_getD, e1, Option.getD_some] at hj
  by_cases ho : j ∈ om
  ·obtain ⟨v, q, a, ys, ds, z1, z2, z3, z4, z5⟩ := R.own j d' e2 ho
   have ea : (cW2 Oc Ob σ js).la (k + 2) = a := by show adr _ = a; rw [wK e1 q, z1]; rfl
   exact ⟨v, wK e1 q, ys, ds, by rw [ea]; exact z1, z2, by rw [ea]; exact z3, by rw [ea]; exact .inr z4, z5.less fun b z => z.elim id fun z => z.elim⟩
  ·have hl2 : j ∈ ln := (List.mem_append.mp hj).elim (fun z => absurd z ho) id
   obtain ⟨v, q, ys, ds, z1, z2, z3, z4, z5⟩ := R.lnt j d' e2 ho hl2
   have ea : (cW2 Oc Ob σ js).la (k + 2) = Oc.la j := by show adr _ = _; rw [wK e1 q, z1]; rfl
   exact ⟨v, wK e1 q, ys, ds, by rw [ea]; exact z1, z2, by rw [ea]; exact z3, by rw [ea]; exact .inl z4, z5.less fun b z => z.elim id fun z => z.elim⟩
 inj := fun i j di dj a _ _ h => nomatch h
 oh := fun a z => R.oh a (z.elim id fun z => z.elim)
 ap := fun a z => z.elim
abbrev cC2 (C : Ct) (N : List Str) (scope : Scope) (A : Addr) (fp : List Addr) (s₂ : Shared) (H : Hp) (js : List Nat) : Ct := ⟨cxComp C.X N scope A fp s₂ H, fun _ _ => False, [], capt2 js (C.om ++ C.ln)⟩
theorem zZ8 {K : KFr} {H : Hp} {O : Addr -> Prop} {x : V} {a b : D} (r : Rep H O x (.tuple [a, b])) : ∃ ta x1 x2, x = .ref ta /\ SqT K H ta [x1, x2] /\ Rep H O x1 a /\ Rep H O x2 b := by
 cases r with
 | tup r n t =>
  cases t with
  | cons h1 t =>
   cases t with
   | cons h2 t =>
    cases t
    exact ⟨_, _, _, rfl, .inl r, h1, h2⟩
theorem zC6 {C : Ct} {elt iter : Expr} {ifs : List Expr} {sc0 scope : Scope} {N0 : List Str} {px py tp pos : Pos} {k1 : Nat} {xt yt : Str} {fs : List Str} {js : List Nat} {mi : Ev -> Res (List D)} {mt : Ev -> Res Bool} {me : Ev -> Res D} (S : CScope2 sc0 scope N0 xt yt fs js) (h0 : C.X.env.scope = sc0) (hN0 : C.X.N = N0) (hc : C.X.calm = true)
  (hi : RIc C (.Tuple [.Name xt px, .Name yt py] k1 tp) iter mi) (ht : ∀ A fp s₂ H, RTs (cC2 C (xt :: yt :: fs) scope A fp s₂ H js) ifs mt) (he : ∀ A fp s₂ H, RE (cC2 C (xt :: yt :: fs) scope A fp s₂ H js) .cl elt me)
  (hs : autoParam (∀ x, foldedSetIterable iter C.X.env x = pure x) xD._auto_1) :
  RE C .new (.ListComp elt [⟨.Tuple [.Name xt px, .Name yt py] k1 tp, iter, ifs, 0⟩] scope pos) (eComp2 mi mt me js) := by
 obtain ⟨wi, pi, qi⟩ := hi
 refine ⟨_, zH9 (tt := fun A fp s H => Classical.choose (ht A fp s H)) (te := fun A fp s H => Classical.choose (he A fp s H)) S h0 hN0 hc pi (fun A fp s H => (Classical.choose_spec (ht A fp s H)).1) (fun A fp s H => (Classical.choose_spec (he A fp s H)).1) hs, fun Oc Ob σ H ρ Q R h => ?_⟩
 refine qi Oc Ob σ H ρ _ R (Res.zV (Res.zW h) (fun ds _ k J H1 s1 wk => ?_) fun _ z => z)
 intro A fp s₂ H₂
 have qt := (Classical.choose_spec (ht A fp s₂ H₂)).2
 have qe := (Classical.choose_spec (he A fp s₂ H₂)).2
 have k : (if ds.length <= sizeLine then (compM (fun d => pr2 d fun x y => mt (cEnv2 ρ js x y)) (fun d => pr2 d fun x y => me (cEnv2 ρ js x y)) ds).bind fun out => Res.ok (PyData.list out) else .no).post (fun d => ∀ v H', Same H H' -> VR .new Oc Ob H H' v d -> Q v H') (fun c => ∀ H', Same H H' -> C.XE c H') := k
 by_cases hlen : ds.length <= sizeLine
 ·rw [if_pos hlen] at k
  generalize hT : (fun d => pr2 d fun x y => mt (cEnv2 ρ js x y)) = T at k
  generalize hF : (fun d => pr2 d fun x y => me (cEnv2 ρ js x y)) = F at k
  cases ec : compM T F ds with
  | no => rw [ec] at k; exact k.elim
  | ex c =>
   exfalso
   have nex : ∀ xs c, compM T F xs ≠ .ex c := by
    intro xs
    induction xs with
    | nil => intro c z; cases z
    | cons x xs ih =>
     intro c z
     rw [compM] at z
     cases e1 : noEx (T x) with
     | no => rw [e1] at z; cases z
     | ex c' => cases hx : T x <;> rw [hx] at e1 <;> cases e1
     | ok b =>
      rw [e1, Res.bind_ok] at z
      cases b with
      | false => exact ih c z
      | true =>
       simp only [if_true] at z
       cases e2 : noEx (F x) with
       | no => rw [e2] at z; cases z
       | ex c' => cases hx : F x <;> rw [hx] at e2 <;> cases e2
       | ok y =>
        rw [e2, Res.bind_ok] at z
        cases e3 : compM T F xs with
        | no => rw [e3] at z; cases z
        | ex c' => exact ih c' e3
        | ok ys => rw [e3] at z; cases z
   exact nex ds c ec
  | ok out =>
   rw [ec, Res.bind_ok] at k
   refine ⟨fun i m acc H => m = ds.length - i /\ i <= ds.length /\ Same H1 H /\ ∃ done rest, Reps H (Uni Oc Ob) acc done /\ acc.length <= i /\ compM T F (ds.drop i) = .ok rest /\ done ++ rest = out, ⟨_, rfl, Nat.zero_le _, Same.refl _, [], out, .nil, Nat.le_refl _, ec, rfl⟩, ?_⟩
   rintro i m acc H2 ⟨rfl, hi, s2, done, rest, ra, la, er, eo⟩
   obtain ⟨w1, w2⟩ := wk H2 s2 i
   have R2 := (R.same s1).same s2
   by_cases hlt : i < ds.length
   ·obtain ⟨go, yl⟩ := w1 ds[i] (List.getElem?_eq_getElem hlt)
    have ed : ds.drop i = ds[i] :: ds.drop (i + 1) := List.drop_eq_getElem_cons hlt
    rw [ed, compM] at er
    have nxt : ∀ (acc' : List V) (H3 : Hp) (done' rest' : List D), Same H2 H3 -> Reps H3 (Uni Oc Ob) acc' done' -> acc'.length <= i + 1 -> compM T F (ds.drop (i + 1)) = .ok rest' -> done' ++ rest' = out ->
      ∃ m', m' < ds.length - i /\ (m' = ds.length - (i + 1) /\ i + 1 <= ds.length /\ Same H1 H3 /\ ∃ done rest, Reps H3 (Uni Oc Ob) acc' done /\ acc'.length <= i + 1 /\ compM T F (ds.drop (i + 1)) = .ok rest /\ done ++ rest = out) :=
     fun acc' H3 done' rest' s3 r3 l3 c3 o3 => ⟨_, by bv_omega, rfl, hlt, s2.trans s3, done', rest', r3, l3, c3, o3⟩
    refine .inr ⟨go, fun acc' H' => ∃ m', m' < ds.length - i /\ (m' = ds.length - (i + 1) /\ i + 1 <= ds.length /\ Same H1 H' /\ ∃ done rest, Reps H' (Uni Oc Ob) acc' done /\ acc'.length <= i + 1 /\ compM T F (ds.drop (i + 1)) = .ok rest /\ done ++ rest = out), fun acc' H' z => z, fun x H3 hy => ?_⟩
    obtain ⟨s3, rx⟩ := yl x H3 hy
    cases e1 : noEx (T ds[i]) with
    | no => rw [e1] at er; cases er
    | ex c => rw [e1] at er; cases er
    | ok b =>
     rw [e1, Res.bind_ok] at er
     have t0 := gQ e1
     rw [<- hT] at t0
     obtain ⟨da, db, ed2, t1⟩ := yO7 t0
     rw [ed2] at rx
     obtain ⟨ta, x1, x2, rfl, hsq, rx1, rx2⟩ := zZ8 (K := C.X.K) rx
     have R3 := (R2.same s3).comp2 (js := js) rx1 rx2
     refine ⟨ta, x1, x2, rfl, hsq, ?_⟩
     refine qt _ _ _ H3 _ _ R3 ?_
     show (mt (cEnv2 ρ js da db)).post _ _
     rw [t1]
     intro H4 s4
     cases b with
     | false => exact iteF (nxt acc H4 done rest (s3.trans s4) (ra.same (s3.trans s4)) (by bv_omega) er eo)
     | true =>
      refine iteT ?_
      simp only [if_true] at er
      cases e2 : noEx (F ds[i]) with
      | no => rw [e2] at er; cases er
      | ex c => rw [e2] at er; cases er
      | ok y =>
       rw [e2, Res.bind_ok] at er
       have t2 : me (cEnv2 ρ js da db) = .ok y := by
        have t2 := gQ e2
        rw [<- hF, ed2] at t2
        exact t2
       refine qe _ _ _ H4 _ _ (R3.same s4) ?_
       show (me (cEnv2 ρ js da db)).post _ _
       rw [t2]
       intro v H5 s5 rv
       refine ⟨by bv_omega, ?_⟩
       obtain ⟨ys, e3⟩ : ∃ ys, compM T F (ds.drop (i + 1)) = .ok ys := by
        cases e3 : compM T F (ds.drop (i + 1)) with
        | no => rw [e3] at er; cases er
        | ex c => rw [e3] at er; cases er
        | ok ys => exact ⟨ys, rfl⟩
       rw [e3, Res.bind_ok] at er
       cases er
       have rv' : Rep H5 (Uni Oc Ob) v y := Rep.less rv fun b z => .inl z
       refine nxt (acc ++ [v]) H5 (done ++ [y]) ys ((s3.trans s4).trans s5) ((ra.same ((s3.trans s4).trans s5)).append (.one rv')) (by rw [List.length_append, List.length_singleton]; bv_omega) e3 ?_
       rw [List.append_assoc]
       exact eo
   ·have ei : i = ds.length := by bv_omega
    subst ei
    refine .inl ⟨w2 (Nat.le_refl _), fun p hp => ?_⟩
    rw [List.drop_length] at er
    cases er
    rw [List.append_nil] at eo
    subst eo
    exact k _ _ ((s1.trans s2).trans (Same.new hp)) (xA (s1.trans s2) hp ra)
 ·rw [if_neg hlen] at k
  exact k.elim
theorem RIo.c {C : Ct} {tg iter : Expr} {m : Ev -> Res (List D)} (h : RIo C tg iter m) : RIc C tg iter m := by
 obtain ⟨wi, p, q⟩ := h
 exact ⟨wi, p, fun Oc Ob σ H ρ W R h => q Oc Ob σ H ρ W R (Res.zV h (fun ds _ k J H1 s w => k J H1 s fun H2 s2 => w H2 Ob (Same.frm s2) (fun b z => .inl z) (R.same (s.trans s2)).oh) fun _ z => z)⟩
section
variable {X : Cx} {pins : List (Addr × Obj)} {σ : St} {H : Hp} {s : Shared} {h' : Heap}
end
structure Apart5 (z TI TO i1 i2 : Addr) : Prop where
 TIz : TI ≠ z
 TOz : TO ≠ z
 i1z : i1 ≠ z
 i2z : i2 ≠ z
 TITO : TI ≠ TO
 TIi1 : TI ≠ i1
 TIi2 : TI ≠ i2
 TOi1 : TO ≠ i1
 TOi2 : TO ≠ i2
 i12 : i1 ≠ i2
end L2.L3
namespace L2
open PySem PySem.Spec PyProof.Rows
end L2
namespace L2.L3
open PySem PySem.Spec PyProof.Rows
variable [CN]
end L2.L3
namespace L2.L3
open PySem
variable [CN]
theorem zJ4 (mi : Ev -> Res (List D)) (mt : Ev -> Res Bool) (me : Ev -> Res D) (js : List Nat) (ρ : Ev) : eComp2 mi mt me js ρ = (mi ρ).bind fun ds => if ds.length <= sizeLine then (compM (fun d => pr2 d fun x y => mt (cEnv2 ρ js x y)) (fun d => pr2 d fun x y => me (cEnv2 ρ js x y)) ds).bind fun out => .ok (.list out) else .no := rfl
theorem zM3 {mi : Ev -> Res (List D)} {t : Ev -> Res Bool} {me : Ev -> Res D} {js : List Nat} {ρ : Ev} {α : Type} (A B : α -> D) (p : α -> Bool) (q : α -> D) (xs : List α) (h : mi ρ = .ok (xs.map fun x => PyData.tuple [A x, B x])) (hl : xs.length <= 1000)
  (ht : ∀ x ∈ xs, t (cEnv2 ρ js (A x) (B x)) = .ok (p x)) (hf : ∀ x ∈ xs, p x = true -> me (cEnv2 ρ js (A x) (B x)) = .ok (q x)) : eComp2 mi t me js ρ = .ok (.list ((xs.filter p).map q)) := by
 rw [zJ4, h, Res.bind_ok, dO (by rw [List.length_map]; exact hl), hX (fun x => PyData.tuple [A x, B x]) p q xs (fun x hx => ht x hx) (fun x hx hp => hf x hx hp)]
 rfl
theorem zQ8 {mi : Ev -> Res (List D)} {me : Ev -> Res D} {js : List Nat} {ρ : Ev} {α : Type} (A B : α -> D) (q : α -> D) (xs : List α) (h : mi ρ = .ok (xs.map fun x => PyData.tuple [A x, B x])) (hl : xs.length <= 1000)
  (hf : ∀ x ∈ xs, me (cEnv2 ρ js (A x) (B x)) = .ok (q x)) : eComp2 mi tYes me js ρ = .ok (.list (xs.map q)) := by
 rw [zM3 A B (fun _ => true) q xs h hl (fun _ _ => rfl) (fun x hx _ => hf x hx), List.filter_eq_self.mpr fun _ _ => rfl]
end L2.L3
namespace L2.L3
open PySem PyProof.Rows
variable [CN]
section
variable {X : Cx}
end
def revL : D -> Option D
 | .list ds => some (.list ds.reverse)
 | _ => none
def eRevL (m : Ev -> Res D) : Ev -> Res D := fun ρ => (m ρ).bind fun d => Res.lft (revL d)
theorem zE2 (m : Ev -> Res D) (ρ : Ev) : eRevL m ρ = (m ρ).bind fun d => Res.lft (revL d) := rfl
end L2.L3
namespace HT
open PySem PyProof.Rows
section
variable {prog : Program} {w : World} {A : Around} {E : Value -> Shared -> Prop} {s : Shared}
theorem zC5 {t b : Addr} {ws : List Value} {Q : Value -> Shared -> Prop} (ht : IsTup s.heap t ([] : List Value).toArray) (hb : IsTup s.heap b ws.toArray) (h : Q (.ref b) s) : wpAny (model prog w) A (binaryOp .Add (.ref t) (.ref b)) Q E s := by
 obtain ⟨⟨cls, dd, data, sl⟩, ho, hc, n, hd⟩ := id ht
 obtain ⟨⟨cls2, dd2, data2, sl2⟩, ho2, hc2, n2, hd2⟩ := id hb
 simp only at hc hd hc2 hd2
 subst hc hd hc2 hd2
 exact concat_meets ⟨_, ho, rfl⟩ ⟨_, ho2, rfl⟩ noFill_tuple_add seq_tuple_add PySem.F.slot_tuple_add PySem.F.entry_tuple_add (PySem.F.args_tuple_add_2 _ _)
  (tuple_addW0 t b ([] : List Value).toArray ws.toArray n n2 dd dd2 sl sl2 (by simp)) ⟨ho, ho2, h⟩
end
end HT
namespace L2.L3
open PySem PyProof.Rows
variable [CN]
section
variable {X : Cx}
def rCatU (K : KFr) : R2 := fun x y H Q => ∃ a b xs ys, x = .ref a /\ y = .ref b /\ SqT K H a xs /\ SqT K H b ys /\ xs.length + ys.length <= sizeLine /\
 (xs = [] -> Q (.ref b) H) /\ (xs ≠ [] -> ys = [] -> Q (.ref a) H) /\ (xs ≠ [] -> ys ≠ [] -> ∀ p, H p = none -> Q (.ref p) (upd H p (.tup (xs ++ ys))))
theorem yU6 : OpR X (binaryOp .Add) (rCatU X.K) := by
 intro pins s σ H x y v u Q I rx ry h
 obtain ⟨a, b, xs, ys, rfl, rfl, ha, hb, hz, q0, q1, q2⟩ := h
 by_cases hx : xs = []
 ·cases rx
  cases ry
  obtain ⟨its, r1, p1, _⟩ := I.tuple ha
  obtain ⟨its2, r2, p2, _⟩ := I.tuple hb
  subst hx
  cases r1
  exact HT.zC5 p1 p2 ⟨.ref b, H, I, rfl, q0 rfl⟩
 ·exact yY4 pins s σ H _ _ v u Q I rx ry ⟨a, b, xs, ys, rfl, rfl, ha, hb, hx, hz, q1 hx, q2 hx⟩
end
end L2.L3
namespace L2.L3
open PySem PySem.Spec PyProof.Rows
variable [CN]
section
variable {X : Cx}
end
end L2.L3
namespace HT
open PySem PyProof.Rows
section
open PySem.SeqAt
open PySem.AutoSeq1 (wpAny_loadPart')
open PySem.MeetsSeq PySem.MeetsSeq2 PySem.MeetsSeq3
end
section
variable {prog : Program} {w : World} {A : Around} {E : Value -> Shared -> Prop} {s : Shared}
end
end HT
namespace L2.L3
open PySem PySem.Spec PyProof.Rows
variable [CN]
section
variable {X : Cx}
end
end L2.L3
namespace L2.L3
open PySem PyProof.Rows
variable [CN]
section
variable {X : Cx}
end
end L2.L3
namespace L2.L3
universe u
theorem ls0 {α : Type u} {P : List α -> Prop} (h : P []) : ∀ us : List α, us.length = 0 -> P us := fun us e => by
 rw [List.eq_nil_of_length_eq_zero e]
 exact h
theorem lsS {α : Type u} {P : List α -> Prop} {n : Nat} (h : ∀ a us, us.length = n -> P (a :: us)) : ∀ us : List α, us.length = n + 1 -> P us := fun us e => by
 cases us with
 | nil => cases e
 | cons a us => exact h a us (Nat.succ.inj e)
theorem ls1 {α : Type u} {P : List α -> Prop} (h : ∀ a, P [a]) : ∀ us : List α, us.length = 1 -> P us := lsS fun a => ls0 (h a)
theorem ls2 {α : Type u} {P : List α -> Prop} (h : ∀ a b, P [a, b]) : ∀ us : List α, us.length = 2 -> P us := lsS fun a => ls1 (h a)
theorem ls3 {α : Type u} {P : List α -> Prop} (h : ∀ a b c, P [a, b, c]) : ∀ us : List α, us.length = 3 -> P us := lsS fun a => ls2 (h a)
theorem ls4 {α : Type u} {P : List α -> Prop} (h : ∀ a b c d, P [a, b, c, d]) : ∀ us : List α, us.length = 4 -> P us := lsS fun a => ls3 (h a)
theorem ls5 {α : Type u} {P : List α -> Prop} (h : ∀ a b c d e, P [a, b, c, d, e]) : ∀ us : List α, us.length = 5 -> P us := lsS fun a => ls4 (h a)
theorem ls6 {α : Type u} {P : List α -> Prop} (h : ∀ a b c d e f, P [a, b, c, d, e, f]) : ∀ us : List α, us.length = 6 -> P us := lsS fun a => ls5 (h a)
end L2.L3
namespace L2.L3
open PySem PySem.Spec PyProof.Rows
section
variable {M : Model} {A : Around} {E : Value -> Shared -> Prop} {s : Shared} {B : Heap} {L e : Addr} {cls a0 fl : Value}
theorem fX {env : Env} {outer : List Env} {Q : Unit -> Shared -> Prop} (hA : A.frames = some (env :: outer)) (hF : s.heap.FunFrames B (env :: outer)) (hf : env.frame = some L) (ht : s.heap.TracedAtW B e cls a0 fl) (hB : B.StaysIn s.heap) (hn : B.get? e = none)
  (k : ∀ g, Heap.NotedW B (env :: outer) e cls a0 (rawInt L) s.heap g -> Q () { s with heap := g }) : wpAny M A (noteFrame (.ref e) env) Q E s := by
 by_cases z : fl = rawInt L
 ·subst z
  exact wpAny_noteFrame_againW hf ht (k s.heap ⟨hB, hF, ht, fun b o q _ => ⟨o.slots, q⟩⟩)
 ·obtain ⟨oe, vs, T, oT, ts, g1, ⟨rfl, g3⟩, g4, g5, g6, g7, g8, g9, g10⟩ := ht
  have sz := (Array.getElem?_eq_some_iff.mp g10).1
  have n1 : (Value.ref T != Value.none) = true := by simp
  have n2 : (fl == rawInt L) = false := by simpa using z
  have ot : ∀ b, b ≠ T -> (s.heap.update T (Obj.mapFields (·.setIfInBounds 3 .none))).get? b = s.heap.get? b := fun b hb => Heap.get?_update_other _ _ (Ne.symm hb)
  have nf : ∀ b o, s.heap.get? b = some o -> (∀ vs, o.data ≠ .fields vs) -> b ≠ T := fun b o q hd w => by
   subst w
   cases g8.symm.trans q
   exact hd ts g9
  unfold noteFrame
  simp only [hf]
  refine wpAny_bind (wpAny_field g1 g4 g5 ?_)
  simp only [n1, if_true]
  refine wpAny_bind (wpAny_field g8 g9 g10 ?_)
  simp only [n2, Bool.false_eq_true, if_false]
  refine wpAny_bind (wpAny_setField g8 g9 sz (wpAny_entryW (a0 := a0) (vs := vs) hA ?_ hf ((ot e g7.symm).trans g1) (fun b o q => ?_) hn g4 (Array.getElem?_eq_some_iff.mp g5).1 g3 fun g hg => ?_))
  ·exact hF.of_keeps fun b o q hd => ⟨o, (ot b (nf b o q hd)).trans q, rfl⟩
  ·have : b ≠ T := fun w => by subst w; rw [g6] at q; cases q
   exact (ot b this).trans (hB b o q)
  ·exact k g ⟨hg.1, hg.2.1, hg.2.2.1, fun b o q hd => hg.2.2.2 b o ((ot b (nf b o q hd)).trans q) hd⟩
theorem zD6 {α : Type} {what : String} {env : Env} {Q : α -> Shared -> Prop} (ht : s.heap.TracedAtW B e cls a0 fl)
  (k : ∀ (g : Heap) (T : Addr) (fl' : Value), B.get? T = none -> (∀ b, b ≠ T -> g.get? b = s.heap.get? b) -> (∃ o ts, s.heap.get? T = some o /\ o.data = .fields ts) -> g.TracedAtW B e cls a0 fl' -> E (.ref e) { s with heap := g }) : wpAny M A (PySem.passOn what (.ref e) env) Q E s := by
 obtain ⟨oe, vs, T, oT, ts, g1, ⟨rfl, g3⟩, g4, g5, g6, g7, g8, g9, g10⟩ := ht
 have sz := (Array.getElem?_eq_some_iff.mp g10).1
 have n0 : (Value.ref T == Value.none) = false := by simp
 have n1 : (Value.ref T != Value.none) = true := by simp
 have fin : wpAny M A (setFlight (.ref e) env.frame >>= fun _ => (throw (.ref e) : Sem α)) Q E s := by
  unfold setFlight
  refine wpAny_bind (wpAny_bind (wpAny_field g1 g4 g5 ?_))
  simp only [n1, if_true]
  refine wpAny_setField g8 g9 sz (wpAny_throw (k _ T (env.frame.elim .none fun f => rawInt f) g6 (fun b hb => Heap.get?_update_other _ _ (Ne.symm hb)) ⟨oT, ts, g8, g9⟩ ?_))
  exact ⟨oe, vs, T, _, _, (Heap.get?_update_other _ _ g7).trans g1, ⟨rfl, g3⟩, g4, g5, g6, g7, Heap.get?_update_self _ g8 (Obj.isFreed_of_fields (Obj.data_mapFields g9 _)), Obj.data_mapFields g9 _, by simp [sz]⟩
 unfold PySem.passOn
 refine wpAny_bind (wpAny_field g1 g4 g5 ?_)
 simp only [n0, Bool.false_eq_true, if_false]
 exact fin
end
variable [CN]
def Raw (B : Heap) (e : Addr) (cls a0 : Value) (h : Heap) : Prop :=
 (∃ fl, h.TracedAtW B e cls a0 fl) \/ ∃ oe vs, h.get? e = some oe /\ oe.cls = cls /\ oe.data = .fields vs /\ vs[1]? = some .none /\ vs[0]? = some a0
structure Fl (stk : List Env) (h1 : Heap) (H : Hp) (e : Addr) (cls : Value) (B : Heap) (a0 : Value) (h : Heap) : Prop where
 stays : B.StaysIn h
 newB : B.get? e = none
 frm : h.FunFrames B stk
 raw : Raw B e cls a0 h
 cov : ∀ b o, h.get? b = some o -> b ∉ frs stk -> (h1.get? b ≠ none \/ H b ≠ none) -> B.get? b = some o
def ExcAt (X : Cx) (c : Str) (H : Hp) (e : Value) (s : Shared) : Prop :=
 ∃ (pins : List (Addr × Obj)) (σ : St) (s1 : Shared) (H1 : Hp) (a : Addr) (B : Heap) (a0 : Value), Inv X pins σ H1 s1 /\ Inv X pins σ H s /\ Un (frs X.stack) [] H1 H s1.heap s.heap /\ e = .ref a /\ s1.heap.get? a = none /\ H a = none /\ Fl X.stack s1.heap H a (.ref (CN.ad c)) B a0 s.heap
def CXV (P : Program) (w : World) : CXT := fun outer H s E e s' =>
 ∃ (a : Addr) (cls : Value) (B : Heap) (a0 : Value) (H' : Hp), e = .ref a /\ s'.os = s.os /\ AllBare s'.gens /\ Un (frs outer) [] H H' s.heap s'.heap /\ HOk P w H' s'.heap /\ s.heap.get? a = none /\ H' a = none /\ Fl outer s.heap H' a cls B a0 s'.heap /\ E cls none H'
theorem kC {P : Program} {w : World} {H : Hp} {h : Heap} {a : Addr} {o : HO} (x : ObjOk P w H h a o) : ∃ u, h.get? a = some u := by
 cases o with
 | lst xs => exact ⟨_, x.2.choose_spec.choose_spec.2⟩
 | tup xs => obtain ⟨_, its, _, ob, e, _⟩ := x; exact ⟨ob, e⟩
 | dK kvs => obtain ⟨_, _, _, _, ob, _, _, e, _⟩ := x; exact ⟨ob, e⟩
 | dT kvs => obtain ⟨_, _, _, _, ob, _, _, e, _⟩ := x; exact ⟨ob, e⟩
 | set S n => obtain ⟨ob, _, _, _, e, _⟩ := x; exact ⟨ob, e⟩
 | ins C dx fs => obtain ⟨_, _, _, e, _⟩ := x; exact ⟨_, e⟩
 | own y => exact x
 | xd fs => obtain ⟨_, ⟨ob, _, _, e, _⟩, _⟩ := x; exact ⟨ob, e⟩
 | rng lo hi => obtain ⟨_, _, _, e⟩ := x; exact ⟨_, e⟩
 | frz ob u => exact ⟨ob, x.1⟩
 | tbl ps => exact ⟨_, x⟩
 | met f y => exact ⟨_, x⟩
 | ext φ => exact x.2.1
theorem cP {P : Program} {w : World} {H : Hp} {h : Heap} {a : Addr} (x : HOk P w H h) (n : H a ≠ none) : ∃ u, h.get? a = some u := by
 cases e : H a with
 | none => exact absurd e n
 | some o => exact kC (x a o e)
theorem jY {α : Type} {o : Option α} (h : o ≠ none) : ∃ x, o = some x := by
 cases o with
 | none => exact absurd rfl h
 | some x => exact ⟨x, rfl⟩
theorem xK {α : Type} {o : Option α} {x : α} (h : o = some x) : o ≠ none := by
 rw [h]; exact fun z => nomatch z
theorem zO5 {X : Cx} {c : Str} {H : Hp} {e : Value} {s : Shared} {E : XK} {E2 : Value -> Shared -> Prop} (x : ExcAt X c H e s) (hst : X.stack = X.env :: X.outer) (hfr : X.env.frame = some X.env.locals) (hex : X.ex = []) (hE : E (.ref (CN.ad c)) none H) :
  wpAny (model X.prog X.w) X.A (leaving X.env e) (fun _ s'' => CXV X.prog X.w X.outer X.H₀ X.s₀ E e s'') E2 s := by
 obtain ⟨pins, σ, s1, H1, a, B, a0, I1, I, un, rfl, n1, n2, f⟩ := x
 have noex : ∀ b : Addr, b ∉ X.ex := fun b z => by rw [hex] at z; cases z
 have hfs : frs X.stack = X.env.locals :: X.fs := by
  rw [hst]
  show List.filterMap _ _ = _
  rw [List.filterMap_cons, hfr]
  rfl
 have hfrm : s.heap.FunFrames B (X.env :: X.outer) := by rw [<- hst]; exact f.frm
 have hA : X.A.frames = some (X.env :: X.outer) := by rw [<- hst]; exact I.ok.frames
 have oldL : ∀ b o, X.s₀.heap.get? b = some o -> b ≠ X.env.locals := fun b o q z => by
  subst z
  exact absurd (Heap.lt_size q) (Nat.not_lt.mpr I.ok.above)
 have old1 : ∀ b o, X.s₀.heap.get? b = some o -> s1.heap.get? b ≠ none := fun b o q => let ⟨_, e⟩ := I1.base.there b o q (noex b); xK e
 have key : ∀ h', Heap.LeftW B (X.env :: X.outer) a (.ref (CN.ad c)) a0 s.heap h' -> CXV X.prog X.w X.outer X.H₀ X.s₀ E (.ref a) { s with heap := h' } := by
  rintro h' ⟨k1, k2, k3, k4⟩
  have kp : ∀ b o, s.heap.get? b = some o -> b ∉ frs X.stack -> (s1.heap.get? b ≠ none \/ H b ≠ none) -> h'.get? b = some o := fun b o q n z => k1 b o (f.cov b o q n z)
  have out : ∀ b, b ∉ X.fs -> b ≠ X.env.locals -> b ∉ frs X.stack := fun b n1 n2 z => by
   rw [hfs] at z
   rcases List.mem_cons.mp z with z | z
   ·exact n2 z
   ·exact n1 z
  have trk : ∀ b, H b ≠ none -> b ∉ frs X.stack := fun b n z => n (I.stkFree b z)
  refine ⟨a, _, B, a0, H, rfl, I.os, I.bare, ⟨fun b o q n hb hx => ?_, fun b o q n hb hx => ?_, fun b o q n hx => I.base.free b o q n (noex b), fun b o q hx => ?_, I.base.tups, I.base.frzs, I.base.tbls⟩, fun b o q => ?_, ?_, n2, ⟨k1, f.newB, k2.2.2, .inl ⟨_, k3.at⟩, fun b o q n z => ?_⟩, hE⟩
  ·exact kp b o (I.base.keep b o q n hb (noex b)) (out b hb (oldL b o q)) (.inl (old1 b o q))
  ·obtain ⟨sl, e⟩ := I.base.slot b o q n hb (noex b)
   obtain ⟨_, o', e', nf⟩ := f.frm.mem (b := b) (by show b ∈ frs X.stack; rw [hfs]; exact List.mem_cons_of_mem _ hb)
   rw [e] at e'
   cases e'
   obtain ⟨sl', e2⟩ := k4 b _ e nf
   exact ⟨sl', e2⟩
  ·by_cases hb : b ∈ frs X.stack
   ·obtain ⟨_, o', e', _⟩ := k2.mem (b := b) (by rw [hst] at hb; exact hb)
    exact ⟨o', e'⟩
   ·obtain ⟨o', e'⟩ := I.base.there b o q (noex b)
    exact ⟨o', kp b o' e' hb (.inl (old1 b o q))⟩
  ·refine (I.hok b o q).stay (fun b' u hb' e => ?_) (fun _ z => z) fun _ _ z => z
   have n : H b' ≠ none := by
    rcases hb' with rfl | hb'
    ·exact xK q
    ·exact xK hb'
   exact kp b' u e (trk b' n) (.inr n)
  ·cases q : X.s₀.heap.get? a with
   | none => rfl
   | some o => exact absurd n1 (old1 a o q)
  ·have nL : b ≠ X.env.locals := by
    rcases z with z | z
    ·obtain ⟨o', q'⟩ := jY z
     exact oldL b o' q'
    ·intro y
     subst y
     exact z I.free
   have ns : b ∉ frs X.stack := out b n nL
   obtain ⟨o2, q2⟩ : ∃ o2, s.heap.get? b = some o2 := by
    rcases z with z | z
    ·obtain ⟨o', q'⟩ := jY z
     exact I.base.there b o' q' (noex b)
    ·exact cP I.hok z
   have z' : s1.heap.get? b ≠ none \/ H b ≠ none := by
    rcases z with z | z
    ·obtain ⟨o', q'⟩ := jY z
     exact .inl (old1 b o' q')
    ·exact .inr z
   have hB := f.cov b o2 q2 ns z'
   have q3 := k1 b o2 hB
   have q4 : h'.get? b = some o := q
   rw [q3] at q4
   cases q4
   exact hB
 rcases f.raw with t | ⟨oe, vs, he, hc, hd, h1, h0⟩
 ·obtain ⟨fl, t⟩ := t
  unfold leaving
  refine wpAny_bind (fX hA hfrm hfr t f.stays f.newB fun g ⟨x1, x2, x3, x4⟩ => ?_)
  exact wpAny_landsW (s := { s with heap := g }) ⟨x1, f.newB, x2, x3⟩ fun g2 fly ups => key g2 ⟨fly.1, fly.2.2.1, fly.2.2.2, Heap.UpToSlots.trans x4 ups⟩
 ·rw [<- hc] at key
  exact wpAny_leaving_firstW hA hfrm hfr he f.stays f.newB hd h1 h0 key
def Br (C : Ct) : Prop := ∀ (c : Str) (H : Hp) (e : Value) (s : Shared), ExcAt C.X c H e s -> C.XE c H -> C.X.xe e s
theorem zB2 {C : Ct} (h : ∀ c H, C.XE c H -> False) : Br C := fun c H _ _ _ z => (h c H z).elim
def wX (C : Ct) : XK := fun v _ H => ∃ c, v = .ref (CN.ad c) /\ C.XE c H
theorem passX {C : Ct} (hb : Br C) : Passes (CXV C.X.prog C.X.w) C.X (wX C) := by
 intro pins σ H s e s' I h
 obtain ⟨a, cls, B, a0, H', rfl, os, bare, un, hok, n1, n2, f, c, rfl, z⟩ := h
 exact hb c H' _ s' ⟨pins, σ, s, H, a, B, a0, I, I.call' os un hok bare (fun b z => by cases z), un, rfl, n1, n2, f⟩ z
def spX (fr : Bool) (F : List D -> Res D) : Sp := fun vs H Q E => ∃ (ds : List D) (O : Addr -> Prop), (∀ a, O a -> H a ≠ none) /\ Reps H O vs ds /\ (F ds).post (fun d => ∀ v H', Same H H' -> CallOk fr O H H' v d -> Q v H') (fun c => ∀ H', Same H H' -> E (.ref (CN.ad c)) none H')
section
variable {P : Program} {w : World} {K : KFr} {mg : Str -> Option Value} {base : Heap}
abbrev bodyX (P : Program) (w : World) (K : KFr) (mg : Str -> Option Value) (base : Heap) (N : List Str) (x : Str) (sc : Scope) (f : Addr) (cdv : Value) (A : Around) (outer : List Env) (s : Shared) (H : Hp) (E : XK) (om : List Nat) : Ct :=
 ⟨cxOf (CXV P w) P w K mg base N x sc f cdv A outer s H E, fun c H' => E (.ref (CN.ad c)) none H', om, []⟩
theorem zB {N : List Str} {x : Str} {sc : Scope} {f : Addr} {cdv : Value} {A : Around} {outer : List Env} {s : Shared} {H : Hp} {E : XK} {om : List Nat} : Br (bodyX P w K mg base N x sc f cdv A outer s H E om) :=
 fun c H' e s' x h => zO5 x rfl rfl rfl h
theorem wE {x : Str} {st : Stmt} {f : Addr} {fd : FuncData} {N ps : List Str} {k : Nat} {m : Ev -> Res Out} {fr : Bool} (om : List Nat) (F : Fun K x x st f fd) (S : zH N ps (zP st))
  (hbody : ∀ (cdv : Value) (A : Around) (outer : List Env) (s : Shared) (H : Hp) (E : XK), Room k (A.deeper (envOfC x (zP st) s.heap.objs.size f cdv)) -> RSs (bodyX P w K mg base N x (zP st) f cdv A outer s H E om) fr (defBody st) m)
  (hom : autoParam (om.all (fun i => decide (ps.length <= i)) = true) zX._auto_1) :
  FnOk P w K mg base (CXV P w) (k + 1) f fd ps (spX fr (runF fr ps.length N.length m)) := by
 have len : ∀ (vs : List V) (H : Hp) (Q : VK) (E : XK), spX fr (runF fr ps.length N.length m) vs H Q E -> vs.length = ps.length := fun vs H Q E h => by
  obtain ⟨ds, O, oh, r, k⟩ := h
  unfold runF at k
  split at k
  ·rename_i hl
   rw [r.length]; exact hl
  ·exact k.elim
 obtain ⟨oc, od, kV, doc, pm, an, cdv, ct, osl, rfl, lk, hcd⟩ := F.ex
 refine zB7 lk hcd S len fun A outer s H vs Q E hr h => ?_
 have hvl := len vs H Q E h
 obtain ⟨ds, O, oh, r, k⟩ := h
 have hl : ds.length = ps.length := by rw [<- r.length]; exact hvl
 unfold runF at k
 rw [if_pos hl] at k
 obtain ⟨t, p, q⟩ := hbody cdv A outer s H E hr
 refine ⟨t, p, q ⟨O, fun _ => 0⟩ (fun _ => False) _ H (ds.map some ++ List.replicate (N.length - ps.length) none) _ ?_ ?_⟩
 ·refine ⟨?_, fun i d e _ _ => ?_, fun i d e ho => ?_, fun i d e _ hl => (nomatch hl), fun i j di dj a ei _ ho _ _ _ => ?_, fun a z => oh a (z.elim id fun z => z.elim), fun a z => z.elim⟩
  ·unfold start
   rw [List.length_append, List.length_append, List.length_map, List.length_map, List.length_replicate, List.length_replicate, hvl, hl]
  ·obtain ⟨v, ev, rv⟩ := r.get (vR e)
   exact ⟨v, zY6 ev, rv.less fun b z => z.elim id fun z => z.elim⟩
  ·have h1 := (List.getElem?_eq_some_iff.mp (vR e)).1
   have h2 : ps.length <= i := of_decide_eq_true (List.all_eq_true.mp hom i ho)
   bv_omega
  ·have h1 := (List.getElem?_eq_some_iff.mp (vR ei)).1
   have h2 : ps.length <= i := of_decide_eq_true (List.all_eq_true.mp hom i ho)
   bv_omega
 ·have same : ∀ {H' : Hp}, Frm (fun _ => False) H H' -> Same H H' := fun f b o e => f b o e fun z => z
  refine Res.zV (Res.zW k) (fun o _ k => ?_) fun c z H' f => z H' (same f)
  cases o with
  | rt d =>
   intro v H' f rt
   refine k v H' (same f) ?_
   cases fr with
   | false => exact rt
   | true =>
    obtain ⟨a, ys, ds, e1, e2, e3, e4, e5, e6⟩ := rt
    exact ⟨a, ys, ds, e1, e2, e3.elim id fun z => z.elim, e5, e6⟩
  | nx ρ' =>
   cases fr with
   | true => exact k.elim
   | false => exact fun σ' H' Ob' R f s => k .non H' (same f) Rep.non
theorem zX1 {fr : Bool} {k : Nat} {f : Addr} {fd : FuncData} {ps : List Str} : FnOk P w K mg base (CXV P w) k f fd ps (spX fr fun _ => .no) :=
 ⟨fun _ _ _ _ ⟨_, _, _, _, k⟩ => k.elim, fun _ _ _ _ _ _ _ _ _ _ _ _ _ ⟨_, _, _, _, k⟩ => k.elim⟩
end
theorem zC3 {C : Ct} {k : Nat} {f : Addr} {fd : FuncData} {ps : List Str} {fr : Bool} {F : List D -> Res D} {x : Str} {p pos : Pos} {e : Expr} {es : List Expr} {ms : Ev -> Res (List D)} {st : Stmt} (G : FnOk C.X.prog C.X.w C.X.K C.X.mg C.X.base (CXV C.X.prog C.X.w) k f fd ps (spX fr F)) (hh : Has C.X.K C.X.mg x st f fd ps) (hr : Room k C.X.A)
  (hb : Br C) (ha : RArg C true (e :: es) ms) (hg : autoParam (Gl C.X x) zX._auto_1) (hdb : autoParam ((x == ("__debug__" : Str)) = false) zJ._auto_1) (he : autoParam (starEach (e :: es) C.X.env = (false, eval e C.X.env) :: starEach es C.X.env) zX._auto_1) (hpl : autoParam ((backTo pos (starEach es C.X.env)).any (·.1) = false) zX._auto_1) :
  RE C (mdF fr) (.Call (.Name x p) (e :: es) [] pos) (eF F ms) := by
 obtain ⟨t, pa, q⟩ := ha
 refine ⟨_, zC G hr hg hh.m hh.F.kp hh.b .nil (passX hb) pa hdb he hpl, fun Oc Ob σ H ρ Q R h => ?_⟩
 refine q Oc Ob σ H ρ _ R (Res.zV (Res.zW h) (fun ds _ k vs H1 s1 r => ?_) fun c z => z)
 show spX fr F (vs ++ []) H1 Q (wX C)
 rw [List.append_nil]
 refine ⟨ds, Uni Oc Ob, (R.same s1).oh, r, Res.zV k (fun d _ k v H' s2 rv => ?_) fun c z H' s2 => ⟨c, rfl, z H' (s1.trans s2)⟩⟩
 refine k v H' (s1.trans s2) ?_
 cases fr with
 | false => exact rv
 | true =>
  obtain ⟨a, ys, ds, e1, e2, e3, e4, e5⟩ := rv
  exact ⟨a, ys, ds, e1, e2, s1.free e3, e4, e5⟩
section
variable {C : Ct} {k : Nat} {f : Addr} {fd : FuncData} {ps : List Str} {F : List D -> Res D} {x : Str} {p pos : Pos} {e : Expr} {es : List Expr} {ms : Ev -> Res (List D)} {st : Stmt}
theorem yY (G : FnOk C.X.prog C.X.w C.X.K C.X.mg C.X.base (CXV C.X.prog C.X.w) k f fd ps (spX false F)) (hh : Has C.X.K C.X.mg x st f fd ps) (hr : Room k C.X.A)
  (hb : Br C) (ha : RArg C true (e :: es) ms) (hg : autoParam (Gl C.X x) zX._auto_1) (hdb : autoParam ((x == ("__debug__" : Str)) = false) zJ._auto_1) (he : autoParam (starEach (e :: es) C.X.env = (false, eval e C.X.env) :: starEach es C.X.env) zX._auto_1) (hpl : autoParam ((backTo pos (starEach es C.X.env)).any (·.1) = false) zX._auto_1) :
  RE C .cl (.Call (.Name x p) (e :: es) [] pos) (eF F ms) := zC3 (fr := false) G hh hr hb ha hg hdb he hpl
end
end L2.L3
namespace L2
open PySem PySem.Spec PyProof.Rows
section
variable {X : Cx} {pins : List (Addr × Obj)} {σ : St} {H : Hp} {s : Shared}
theorem zM2 {M : Model} {A : Around} {E : Value -> Shared -> Prop} {i : Nat} {x : Str} {v : V} {Q : Unit -> Shared -> Prop} (I : Inv X pins σ H s) (hN : X.N.Nodup) (hi : X.N[i]? = some x) (hk : X.env.scope.names.lookup x = some .local) (hv : σ[i]? = some (some v))
  (h : ∀ s', Inv X pins (σ.set i none) H s' -> Q () s') : wpAny M A (unbindName X.env x) Q E s := by
 obtain ⟨m, hn, hl⟩ := id I.loc
 have hcls : (X.env.scope.kind == .class || (X.env.scope.kind == .module && X.env.locals != X.env.globals)) = false := by rw [I.ok.kind]; rfl
 have hiσ : i < σ.length := by rw [I.len]; exact (List.getElem?_eq_some_iff.mp hi).1
 obtain ⟨u, r, l⟩ := hl i x v hi hv (.inl hk)
 have mx : m x = some u := by
  rcases l with ⟨_, e⟩ | ⟨k, _⟩
  ·exact e
  ·have k' : X.env.scope.names.lookup x = some .cell \/ X.env.scope.names.lookup x = some .free := k
   rw [hk] at k'
   rcases k' with k' | k' <;> cases k'
 refine wpAny_unbindName_local hk hn mx hcls fun h' u' hn' hs => ?_
 obtain ⟨oL, _, _, hoL, _⟩ := id hn
 have old : ∀ b o, X.s₀.heap.get? b = some o -> h'.get? b = s.heap.get? b := fun b o e => hs.2 b (Nat.ne_of_lt (Nat.lt_of_lt_of_le (Heap.lt_size e) I.ok.above))
 refine h _ ⟨I.ok, I.os, I.bare, ⟨fun b o e n hb hx => ?_, fun b o e n hb hx => ?_, I.base.free, fun b o e hx => ?_, I.base.tups, I.base.frzs, I.base.tbls⟩, ⟨_, hn', fun j y v' e1 e2 e3 => ?_⟩, fun y c e => ?_, I.free, I.freeC, fun p hp => ?_, fun b ob e => ?_, by simpa using I.len⟩
 ·exact (old b o e).trans (I.base.keep b o e n hb hx)
 ·obtain ⟨sl, e1⟩ := I.base.slot b o e n hb hx
  exact ⟨sl, (old b o e).trans e1⟩
 ·obtain ⟨o', e1⟩ := I.base.there b o e hx
  exact ⟨o', (old b o e).trans e1⟩
 ·by_cases hj : j = i
  ·subst hj
   rw [List.getElem?_set_self hiσ] at e2
   cases e2
  ·rw [List.getElem?_set_ne (Ne.symm hj)] at e2
   obtain ⟨w', r', q⟩ := hl j y v' e1 e2 e3
   refine ⟨w', r', ?_⟩
   rcases q with ⟨k, e⟩ | ⟨k, c, e, z⟩
   ·refine .inl ⟨k, ?_⟩
    have : y ≠ x := fun e => hj (fV hN e1 (e ▸ hi))
    simp [this, e]
   ·exact .inr ⟨k, c, e, z.sameBut hs (I.cne y c e)⟩
 ·obtain ⟨w', z⟩ := I.cell y c e
  exact ⟨w', z.sameBut hs (I.cne y c e)⟩
 ·obtain ⟨e, n, ne, nf, d⟩ := I.pin p hp
  exact ⟨(hs.2 p.1 ne).trans e, n, ne, nf, d⟩
 ·refine (I.hok b ob e).stay (fun c w' hc q => (hs.2 c ?_).trans q) (fun _ q => q) fun _ _ q => q
  rintro rfl
  rcases hc with rfl | hc
  ·rw [I.free] at e; cases e
  ·rw [I.free] at hc; cases hc
theorem Inv.track {a : Addr} {o : HO} (I : Inv X pins σ H s) (n : H a = none) (n0 : X.s₀.heap.get? a = none) (nL : a ≠ X.env.locals) (nC : ∀ x c, X.env.cells.lookup x = some c -> c ≠ a) (nP : ∀ p ∈ X.pn ++ pins, p.1 ≠ a) (new : ObjOk X.prog X.w (upd H a o) s.heap a o) : Inv X pins σ (upd H a o) s := by
 have ne : ∀ b u, H b = some u -> b ≠ a := fun b u e z => by subst z; rw [n] at e; cases e
 have up : ∀ b u, H b = some u -> upd H a o b = some u := fun b u e => by rw [zT (ne b u e)]; exact e
 refine ⟨I.ok, I.os, I.bare, ⟨I.base.keep, I.base.slot, fun b u q z hx => ?_, I.base.there, fun b xs q => up _ _ (I.base.tups b xs q), fun b u v q => up _ _ (I.base.frzs b u v q), fun b ps q => ?_⟩, I.loc, I.cell, ?_, fun x c e => ?_, fun p hp => ?_, fun b u e => ?_, I.len⟩
 ·have : b ≠ a := fun y => by subst y; rw [n0] at q; cases q
  rw [zT this]
  exact I.base.free b u q z hx
 ·obtain ⟨more, e⟩ := I.base.tbls b ps q
  exact ⟨more, up _ _ e⟩
 ·rw [zT (Ne.symm nL)]
  exact I.free
 ·rw [zT (nC x c e)]
  exact I.freeC x c e
 ·obtain ⟨e, m, x1, x2, x3⟩ := I.pin p hp
  exact ⟨e, by rw [zT (nP p hp)]; exact m, x1, x2, x3⟩
 ·by_cases h : b = a
  ·subst h
   rw [zU] at e
   cases e
   exact new
  ·rw [zT h] at e
   exact (I.hok b u e).stay (fun _ _ _ q => q) (fun c q => up _ _ q) fun c xs q => up _ _ q
end
end L2
namespace L2.L3
open PySem PySem.Spec PyProof.Rows
variable [CN]
abbrev bmV : List Value := [.type "ValueError", .type "Exception", .type "BaseException", .type "object"]
def OwnX (K : KFr) (x : Str) : Prop := PySem.W.excIn K (CN.ad x) bmV "ValueError.__new__" = true
theorem yW5 {K : KFr} {h : Heap} {A : Addr} {bmB : List Value} {nid : String} (X : K.In h) (q : PySem.W.excIn K A bmB nid = true) :
  ∃ (tl : List Value) (N : Addr) (nm qn : Str) (bs : List Value) (hd : Bool) (sn : List Str) (sb : List Value) (ab : Bool) (co : Option Bool) (dd : Option Addr) (k0 k1 k2 k3 k5 : Option Value) (mN : Str -> Option Value),
   h.get? A = some (excClassObj nm qn A N bs tl hd sn sb ab co dd k0 k1 k2 k3 k5 nid) /\ h.Ns N mN /\ mN "__init__" = none /\ OwnTail h bmB tl := by
 revert q
 rw [PySem.W.excIn]
 split
 case h_2 => exact fun q => nomatch q
 case h_1 dd cd sl lk =>
  split
  case h_2 => exact fun q => nomatch q
  case h_1 A' tl j0 j1 j2 j3 nn j5 em es =>
   intro q
   rw [Bool.and_eq_true, Bool.and_eq_true, Bool.and_eq_true, Bool.and_eq_true, Bool.and_eq_true] at q
   have q6 := q.2
   have q5 := q.1.2
   have q4 := q.1.1.2
   have q3 := q.1.1.1.2
   have q2 := eq_of_beq q.1.1.1.1.2
   have q1 := eq_of_beq q.1.1.1.1.1
   cases cd
   cases sl
   simp only at em es q3 q5 q6
   subst em es q1 q2
   simp only [Bool.not_eq_true'] at q3
   subst q3
   exact ⟨_, _, _, _, _, _, _, _, _, _, _, _, _, _, _, _, _, X _ _ lk, .of_isNs (PySem.W.isNs_of_in X q5), PySem.W.nsMap_none_of_in X q5 (eq_of_beq q6), PySem.W.tail_of_in X q4⟩
theorem zD7 {X : Cx} {pins : List (Addr × Obj)} {σ : St} {H : Hp} {s : Shared} {c : Str} {h' : Heap} {e : Addr} {args : List Value} (I : Inv X pins σ H s) (m : Heap.MadeExcOf s.heap h' e (.ref (CN.ad c)) args) : ExcAt X c H (.ref e) { s with heap := h' } := by
 obtain ⟨t, he, _, _⟩ := m.there
 have I2 : Inv X pins σ H { s with heap := h', toks := s.toks } := I.kept m.keeps
 have n : H e = none := by
  cases q : H e with
  | none => rfl
  | some o =>
   obtain ⟨u, z⟩ := kC (I.hok e o q)
   rw [m.new] at z
   cases z
 refine ⟨pins, σ, s, H, e, PySem.W.hideAll h' (e :: frs X.stack), .ref t, I, I2, Un.kept m.keeps, rfl, m.new, n, fun b o q => PySem.W.of_hideAll _ q, PySem.W.hideAll_none _ (.head _), PySem.W.funFrames_hide I2.stack fun env he a ha => List.mem_cons_of_mem _ (List.mem_filterMap.mpr ⟨env, he, ha⟩), .inr ⟨_, _, he, rfl, rfl, rfl, rfl⟩, fun b o q nb z => PySem.W.hideAll_get _ q fun hb => ?_⟩
 rcases List.mem_cons.mp hb with rfl | hb
 ·rcases z with z | z
  ·exact z m.new
  ·exact z n
 ·exact nb hb
def sRa (c : Str) (m : Ev -> Res (List D)) : Ev -> Res Out := fun ρ => (m ρ).bind fun ds => if ds.length <= sizeLine then .ex c else .no
theorem xB {C : Ct} {fr : Bool} {x : Str} {np cpos pos : Pos} {e : Expr} {es : List Expr} {ms : Ev -> Res (List D)} (hb : Br C) (ho : OwnX C.X.K x) (hm : C.X.mg x = some (.ref (CN.ad x))) (ha : RArg C false (e :: es) ms) (hc : autoParam (C.X.calm = true) zX._auto_1) (hg : autoParam (Gl C.X x) zX._auto_1) (hdb : autoParam ((x == ("__debug__" : Str)) = false) zJ._auto_1)
  (he : autoParam (starEach (e :: es) C.X.env = (false, eval e C.X.env) :: starEach es C.X.env) zX._auto_1) (hpl : autoParam ((backTo cpos (starEach es C.X.env)).any (·.1) = false) zX._auto_1) :
  RS C fr (.Raise (some (.Call (.Name x np) (e :: es) [] cpos)) none pos) (sRa x ms) := by
 obtain ⟨t, pa, q⟩ := ha
 refine ⟨fun _ σ H => t σ H fun vs H1 => vs.length <= sizeLine /\ C.XE x H1, fun pins s σ H D I h => ?_, fun Oc Ob σ H ρ E R h => q Oc Ob σ H ρ _ R (Res.zV (Res.zW h) (fun ds _ k vs H' s r => ?_) fun c z H' s => z H' (Same.frm s))⟩
 ·obtain ⟨tl, N, nm, qn, bs, hd, sn, sb, ab, co, dd, k0, k1, k2, k3, k5, mN, hC, hN, hni, T⟩ := yW5 I.mod.kin ho
  refine wpAny_Raise_call_subT (C := CN.ad x) (nm := nm) (q := qn) (N := N) (bs := bs) (bm := tl) (hdct := hd) (sn := sn) (sub := sb) (ab := ab) (col := co) (dd := dd) (k0 := k0) (k1 := k1) (k2 := k2) (k3 := k3) (k5 := k5) PySem.F.excBase_ValueError (mN := mN) (T.hasType PySem.F.excBase_ValueError.hasBase) (I.ok.hd hc)
   (by rw [he]; show (false || (backTo cpos (starEach es C.X.env)).any (·.1)) = false; rw [hpl]; rfl) hni (gI I hg hm ⟨rfl, ?_⟩ hdb)
  have h2 := pa cpos pins s σ H _ I h
  rw [he] at h2 ⊢
  refine Calls.evalArgs_plain (wpAny_mono h2 (fun us s2 ⟨vs, H2, I2, r, hl, z⟩ => ?_) fun _ _ y => y)
  exact ⟨rfl, by rw [<- r.length]; exact hl, I2.bk _ _ hC, hN.keeps I2.bk, T.keeps I2.bk, fun h' a m => hb x H2 _ _ (zD7 I2 m) z⟩
 ·by_cases hl : ds.length <= sizeLine
  ·rw [if_pos hl] at k
   exact ⟨by rw [(VAs.rep r).length]; exact hl, k H' (Same.frm s)⟩
  ·rw [if_neg hl] at k
   exact k.elim
end L2.L3
namespace PySem
section
variable {prog : Program} {w : World} {A : Around} {E : Value -> Shared -> Prop} {h : Heap} {g : Array GenState} {d : Drawn} {t : Nat} {os : OsState} {a C : Addr} {o : Obj} {K : KFr}
structure ExK (K : KFr) (C : Addr) : Prop where
 ga : PySem.W.findIn K (.ref C) "__getattribute__" = some (some (.builtin "BaseException.__getattribute__"))
 gn : PySem.W.findIn K (.ref C) "__getattr__" = some none
 cl : PySem.W.findIn K (.ref C) "__class__" = some (some (.builtin "object.__class__"))
 sb : PySem.W.subIn K (.ref C) (.type "BaseException") = some true
 so : PySem.W.subIn K (.ref C) (.type "object") = some true
 ci : (PySem.W.clsIn K C).isSome = true
theorem dI {M : Model} {nm : Str} {v : Option Value} {P : Option Value -> Shared -> Prop} (X : K.In h) (e : PySem.W.findIn K (.ref C) nm = some v) (q : P v ⟨h, g, d, t, os⟩) : wpAny M A (typeLookup (.ref C) nm) P E ⟨h, g, d, t, os⟩ := (PySem.W.looks_findIn X e).at q
theorem cG {M : Model} {T : String} {P : Bool -> Shared -> Prop} {x : Shared} (X : K.In x.heap) (e : PySem.W.subIn K (.ref C) (.type T) = some true) (q : P true x) : wpAny M A (isSubtype (.ref C) (.type T)) P E x := (PySem.W.looks_subIn X e).at q
variable {dd : Option Addr} {dt : Data} {sl : Array (Option Value)} {x : Shared}
theorem yV4 {R : Result -> Shared -> Prop} (X : K.In x.heap) (k : ExK K C) (hx : x.heap.get? a = some ⟨.ref C, dd, dt, sl⟩) (q : R (.ok (.ret (.ref C))) x) : codeAny (model prog w) A (.call (.builtin "getset_descriptor.__get__") ⟨[.builtin "object.__class__", .ref a, .ref C], []⟩) R x := by
 have ow := F.owner_object_class
 have s1 : ∀ P : Bool -> Shared -> Prop, ∀ B : Around, ∀ E' : Value -> Shared -> Prop, P true x -> wpAny (model prog w) B (isSubtype (.ref C) (.type (".".intercalate ("object.__class__".cutAt '.').dropLast))) P E' x := fun P B E' z => by rw [ow]; exact cG X k.so z
 have ty : x.TypeIs (.builtin "object.__class__") "getset_descriptor" := F.typeOf_object_class
 have ok := F.args_gs_get (.builtin "object.__class__") (.ref a) (.ref C)
 refine codeAny_call_builtin F.slot_gs_get.plain F.entry_gs_get ?_
 refine F.slot_gs_get.check _ _ _ _ _ _ _ _ ty ok ?_
 repeat' first | assumption | ((with_reducible apply wpAny_loadPart_at hx) <;> try dsimp only) | ((with_reducible apply s1) <;> try dsimp only) | wp_step
 exact ⟨Code.quiet_builtin _ (by decide +kernel), codeAny_builtin F.entry_object_class (by repeat' first | assumption | ((with_reducible apply wpAny_loadPart_at hx) <;> try dsimp only) | wp_step)⟩
theorem yO1 {tk : Tok} {P : Fin -> Shared -> Prop} (X : K.In x.heap) (k : ExK K C) (hx : x.heap.get? a = some ⟨.ref C, dd, dt, sl⟩) (q : P (.done (.ret (.ref C))) x) : wpAny (model prog w) A (Builtin.«object.__getattribute__» ⟨[.ref a, .str "__class__" tk], []⟩) P E x := by
 have g1 := F.typeOf_object_class
 have g2 := F.slot_gs_get.lookup
 have g3 := F.slot_gs_set.lookup
 have ty : x.TypeIs (.builtin "object.__class__") "getset_descriptor" := g1
 repeat' first | assumption | ((with_reducible apply wpAny_loadPart_at hx) <;> try dsimp only) | ((with_reducible apply dI X k.cl) <;> try dsimp only) | ((with_reducible apply yV4 X k hx) <;> try dsimp only) | wp_step
theorem yY1 {nv : Value} {M : Model} {P : Unit -> Shared -> Prop} (X : K.In x.heap) (k : ExK K C) (hx : x.heap.get? a = some ⟨.ref C, dd, dt, sl⟩) (q : P () x) : wpAny M A (checkBuiltinCall "BaseException.__getattribute__" ⟨[.ref a, nv], []⟩) P E x := by
 have g1 : builtinKind "BaseException.__getattribute__" = some .slot := by decide +kernel
 have g2 : splitId "BaseException.__getattribute__" = some ("BaseException", "__getattribute__") := by decide +kernel
 have g3 := F.args_bexc_ga (.ref a) nv
 unfold checkBuiltinCall isInstance
 simp only [g1, g2]
 repeat' first | assumption | ((with_reducible apply wpAny_loadPart_at hx) <;> try dsimp only) | ((with_reducible apply cG X k.sb) <;> try dsimp only) | wp_step
theorem zB9 {P : Option Value -> Shared -> Prop} (X : K.In x.heap) (k : ExK K C) (hx : x.heap.get? a = some ⟨.ref C, dd, dt, sl⟩) (q : P (some (.ref C)) { x with toks := x.toks + 1 }) : wpAny (model prog w) A (getAttr? (.ref a) "__class__") P E x := by
 have g1 := F.attrBase_ValueError.ga.bind (.ref a)
 have g2 : (Value.builtin "BaseException.__getattribute__" == Value.builtin "object.__getattribute__") = false := by decide +kernel
 have g3 : (onTheHeap (Value.ref C) && Value.builtin "BaseException.__getattribute__" == Value.builtin "object.__getattribute__") = false := by rw [g2, Bool.and_false]
 have g4 : (false && onTheHeap (Value.builtin "BaseException.__getattribute__")) = false := rfl
 obtain ⟨h, g, d, t, os⟩ := x
 unfold getAttr? getAttrBy?
 repeat' first | assumption | ((with_reducible apply wpAny_loadPart_at hx) <;> try dsimp only) | ((with_reducible apply dI X k.ga) <;> try dsimp only) | ((with_reducible apply dI X k.gn) <;> try dsimp only) | wp_step
 have X' : K.In (Shared.mk h g d (t + 1) os).heap := X
 have hx' : (Shared.mk h g d (t + 1) os).heap.get? a = some ⟨.ref C, dd, dt, sl⟩ := hx
 refine codeAny_call_builtin F.attrBase_ValueError.ga.plain F.entry_bexc_ga (yY1 X' k hx' (yO1 X' k hx' ?_))
 repeat' first | assumption | ((with_reducible apply hx') <;> try dsimp only) | wp_step
end
theorem aW {K : KFr} {a C : Addr} (k : ExK K C) : PySem.W.KitX K (.ref a) (.ref C) (fun h => ∃ o, h.get? a = some o /\ o.cls = .ref C) where
 ty := fun M h _ ⟨o, h1, h2⟩ => h2 ▸ (PySem.W.Looks.ld h1).andThen .now
 it := fun M h X _ => by
  have z := k.ci
  unfold PySem.W.clsIn at z
  split at z
  ·rename_i ho
   intro A' Q' E' s' kk q
   unfold isType loadHead
   exact wpAny_bind (wpAny_loadPart (kk _ _ (X _ _ ho)) (wpAny_pure q))
  ·cases z
 ne := fun h tp dd its n sl X htp => beq_eq_false_iff_ne.mpr fun q => by
  cases q
  have z := k.ci
  unfold PySem.W.clsIn at z
  split at z
  ·rename_i ho
   cases (X _ _ ho).symm.trans htp
  ·cases z
 ca := fun {_ _ _ _ _ s} X p q => by
  obtain ⟨⟨c, dd, dt, sl⟩, h1, h2⟩ := p
  cases h2
  exact zB9 X k h1 q
theorem zJ5 {K : KFr} {M : Model} {A : Around} {E : Value -> Shared -> Prop} {Q : Bool -> Shared -> Prop} {s : Shared} {a c x : Addr} {o : Obj} (X : K.In s.heap) (he : s.heap.get? a = some o) (hc : o.cls = .ref c) (hk : PySem.W.kitCls K (.ref c) (.ref x) = some true)
  (hb : PySem.W.subIn K (.ref x) (.type "BaseException") = some true) (hq : Q true s) : wpAny M A (excMatches (.ref a) (.ref x)) Q E s := by
 obtain ⟨hh, g, d, t, os⟩ := s
 obtain ⟨L1, L2, L3⟩ := PySem.W.kit_cls (M := M) X hk
 have L4 := PySem.W.looks_subIn (M := M) X hb
 have f := tc_notTuple
 unfold excMatches isExcClass
 repeat (first | (with_reducible refine wpAny_loadPart_at he ?_; rw [hc]) | (with_reducible refine L1.at ?_) | (with_reducible refine L2.at ?_) | (with_reducible refine L3.at ?_) | (with_reducible refine L4.at ?_) | wp_step)
 exact hq
end PySem
namespace L2.L3
open PySem PySem.Spec PyProof.Rows
variable [CN]
theorem zO2 {X : Cx} {pins : List (Addr × Obj)} {σ : St} {H H1 : Hp} {s s1 : Shared} {a : Addr} {cls : Value} {B : Heap} {a0 : Value} {h' : Heap} (I1 : Inv X pins σ H1 s1) (I : Inv X pins σ H s) (un : Un (frs X.stack) [] H1 H s1.heap s.heap) (f : Fl X.stack s1.heap H a cls B a0 s.heap)
  (k1 : B.StaysIn h') (k2 : h'.FunFrames B X.stack) (k4 : s.heap.UpToSlots h') : Inv X pins σ H { s with heap := h' } /\ Un (frs X.stack) [] H1 H s1.heap h' /\ ∀ b o, h'.get? b = some o -> b ∉ frs X.stack -> (s1.heap.get? b ≠ none \/ H b ≠ none) -> B.get? b = some o := by
 have kp : ∀ b o, s.heap.get? b = some o -> b ∉ frs X.stack -> (s1.heap.get? b ≠ none \/ H b ≠ none) -> h'.get? b = some o := fun b o q n z => k1 b o (f.cov b o q n z)
 have un' : Un (frs X.stack) [] H1 H s1.heap h' := by
  refine ⟨fun b o q n hb hx => kp b o (un.keep b o q n hb hx) hb (.inl (xK q)), fun b o q n hb hx => ?_, un.free, fun b o q hx => ?_, un.tups, un.frzs, un.tbls⟩
  ·obtain ⟨sl, e⟩ := un.slot b o q n hb hx
   obtain ⟨_, o', e', nf⟩ := f.frm.mem (b := b) hb
   rw [e] at e'
   cases e'
   obtain ⟨sl', e2⟩ := k4 b _ e nf
   exact ⟨sl', e2⟩
  ·by_cases hb : b ∈ frs X.stack
   ·obtain ⟨_, o', e', _⟩ := k2.mem (b := b) hb
    exact ⟨o', e'⟩
   ·obtain ⟨o', e'⟩ := un.there b o q hx
    exact ⟨o', kp b o' e' hb (.inl (xK q))⟩
 have hok : HOk X.prog X.w H h' := fun b o q => by
  refine (I.hok b o q).stay (fun b' u hb' e => ?_) (fun _ z => z) fun _ _ z => z
  have n : H b' ≠ none := by
   rcases hb' with rfl | hb'
   ·exact xK q
   ·exact xK hb'
  exact kp b' u e (fun z => n (I.stkFree b' z)) (.inr n)
 refine ⟨I1.call' (s' := { s with heap := h' }) (I.os.trans I1.os.symm) un' hok I.bare (fun b z => by cases z), un', fun b o q n z => ?_⟩
 obtain ⟨o2, q2⟩ : ∃ o2, s.heap.get? b = some o2 := by
  rcases z with z | z
  ·obtain ⟨o', q'⟩ := jY z
   exact un.there b o' q' (by simp)
  ·exact cP I.hok z
 have hB := f.cov b o2 q2 n z
 have q3 := k1 b o2 hB
 rw [q] at q3
 cases q3
 exact hB
theorem zN7 {X : Cx} {c : Str} {H : Hp} {e : Value} {s : Shared} {E2 : Value -> Shared -> Prop} {Q : Shared -> Prop} (x : ExcAt X c H e s) (hst : X.stack = X.env :: X.outer) (hfr : X.env.frame = some X.env.locals)
  (hQ : ∀ (pins : List (Addr × Obj)) (σ : St) (s1 : Shared) (H1 : Hp) (a : Addr) (B : Heap) (a0 : Value) (s' : Shared), Inv X pins σ H1 s1 -> Inv X pins σ H s' -> Un (frs X.stack) [] H1 H s1.heap s'.heap -> e = .ref a -> s1.heap.get? a = none -> H a = none -> Fl X.stack s1.heap H a (.ref (CN.ad c)) B a0 s'.heap -> s'.heap.TracedW B a (.ref (CN.ad c)) a0 -> Q s') :
  wpAny (model X.prog X.w) X.A (noteFrame e X.env) (fun _ s₂ => wpAny (model X.prog X.w) X.A (setFlight e none) (fun _ s₃ => Q s₃) E2 s₂) E2 s := by
 obtain ⟨pins, σ, s1, H1, a, B, a0, I1, I, un, rfl, n1, n2, f⟩ := x
 have hfrm : s.heap.FunFrames B (X.env :: X.outer) := by rw [<- hst]; exact f.frm
 have hA : X.A.frames = some (X.env :: X.outer) := by rw [<- hst]; exact I.ok.frames
 have key : ∀ h', Heap.NotedW B (X.env :: X.outer) a (.ref (CN.ad c)) a0 (rawInt X.env.locals) s.heap h' -> wpAny (model X.prog X.w) X.A (setFlight (.ref a) none) (fun _ s₃ => Q s₃) E2 { s with heap := h' } := by
  rintro h' ⟨k1, k2, k3, k4⟩
  rw [<- hst] at k2
  refine wpAny_landsW (s := { s with heap := h' }) (base := B) (l := X.stack) (L := X.env.locals) (cls := .ref (CN.ad c)) (a0 := a0) ⟨k1, f.newB, k2, k3⟩ fun h2 fly ups => ?_
  have ups2 : s.heap.UpToSlots h2 := Heap.UpToSlots.trans k4 ups
  obtain ⟨J, un2, cov⟩ := zO2 I1 I un f fly.1 fly.2.2.1 ups2
  exact hQ pins σ s1 H1 a B a0 _ I1 J un2 rfl n1 n2 ⟨fly.1, f.newB, fly.2.2.1, .inl ⟨_, fly.2.2.2.at⟩, cov⟩ fly.2.2.2
 rcases f.raw with t | ⟨oe, vs, he, hc, hd, h1, h0⟩
 ·obtain ⟨fl, t⟩ := t
  exact fX hA hfrm hfr t f.stays f.newB key
 ·rw [<- hc] at key
  unfold noteFrame
  simp only [hfr]
  refine wpAny_bind (wpAny_field he hd h1 ?_)
  rw [if_neg (by decide)]
  exact wpAny_entryW hA hfrm hfr he f.stays f.newB hd (Array.getElem?_eq_some_iff.mp h1).1 h0 key
abbrev inTry (X : Cx) (pn : List (Addr × Obj)) (xe : Value -> Shared -> Prop) : Cx := { X with pn := pn, xe := xe }
abbrev inSuite (X : Cx) (e : Value) : Cx := { X with A := X.A.mark (some e), calm := false, xe := fun _ _ => False }
theorem Inv.toTry {X : Cx} {pins : List (Addr × Obj)} {σ : St} {H : Hp} {s : Shared} (I : Inv X pins σ H s) (xe : Value -> Shared -> Prop) : Inv (inTry X (X.pn ++ pins) xe) [] σ H s :=
 ⟨⟨I.ok.mod, I.ok.kind, I.ok.glob, I.ok.blt, I.ok.above, I.ok.inj, I.ok.has, I.ok.cab, I.ok.hd, I.ok.frames, I.ok.stk, I.ok.exf, I.ok.bs, I.ok.bsz, I.ok.noex, I.ok.exfs, I.ok.funs, I.ok.frf⟩, I.os, I.bare, I.base, I.loc, I.cell, I.free, I.freeC, fun p hp => I.pin p (by simpa using hp), I.hok, I.len⟩
theorem Inv.ofTry {X : Cx} {pins pins' : List (Addr × Obj)} {σ : St} {H : Hp} {s : Shared} {xe : Value -> Shared -> Prop} (I : Inv (inTry X (X.pn ++ pins) xe) pins' σ H s) : Inv X pins σ H s :=
 ⟨⟨I.ok.mod, I.ok.kind, I.ok.glob, I.ok.blt, I.ok.above, I.ok.inj, I.ok.has, I.ok.cab, I.ok.hd, I.ok.frames, I.ok.stk, I.ok.exf, I.ok.bs, I.ok.bsz, I.ok.noex, I.ok.exfs, I.ok.funs, I.ok.frf⟩, I.os, I.bare, I.base, I.loc, I.cell, I.free, I.freeC, fun p hp => I.pin p (List.mem_append_left _ hp), I.hok, I.len⟩
theorem Inv.toSuite {X : Cx} {pins : List (Addr × Obj)} {σ : St} {H : Hp} {s : Shared} (I : Inv X pins σ H s) (e : Value) : Inv (inSuite X e) pins σ H s :=
 ⟨⟨I.ok.mod, I.ok.kind, I.ok.glob, I.ok.blt, I.ok.above, I.ok.inj, I.ok.has, I.ok.cab, (fun z => nomatch z), I.ok.frames, I.ok.stk, I.ok.exf, I.ok.bs, I.ok.bsz, I.ok.noex, I.ok.exfs, I.ok.funs, I.ok.frf⟩, I.os, I.bare, I.base, I.loc, I.cell, I.free, I.freeC, I.pin, I.hok, I.len⟩
theorem Inv.ofSuite {X : Cx} {pins : List (Addr × Obj)} {σ : St} {H : Hp} {s : Shared} {e : Value} (ok : X.Ok) (I : Inv (inSuite X e) pins σ H s) : Inv X pins σ H s :=
 ⟨ok, I.os, I.bare, I.base, I.loc, I.cell, I.free, I.freeC, I.pin, I.hok, I.len⟩
theorem SP.ofTry {X : Cx} {pins pins' : List (Addr × Obj)} {xe : Value -> Shared -> Prop} {D : Ends} {f : Flow} {s' : Shared} (h : SP (inTry X (X.pn ++ pins) xe) pins' D f s') : SP X pins D f s' := by
 cases f with
 | next => obtain ⟨σ', H', I, q⟩ := h; exact ⟨σ', H', Inv.ofTry I, q⟩
 | brk => obtain ⟨σ', H', I, q⟩ := h; exact ⟨σ', H', Inv.ofTry I, q⟩
 | cont => obtain ⟨σ', H', I, q⟩ := h; exact ⟨σ', H', Inv.ofTry I, q⟩
 | ret u => obtain ⟨v, σ', H', I, r, q⟩ := h; exact ⟨v, σ', H', Inv.ofTry I, r, q⟩
theorem Rel.unset {Oc : Wd} {Ob : Addr -> Prop} {om ln : List Nat} {σ : St} {H : Hp} {ρ : Ev} (R : Rel Oc Ob om ln σ H ρ) (j : Nat) : Rel Oc Ob om ln (σ.set j none) H (ρ.set j none) := by
 have st : ∀ i v, i ≠ j -> σ[i]? = some v -> (σ.set j none)[i]? = some v := fun i v n e => by rw [List.getElem?_set_ne (Ne.symm n)]; exact e
 refine ⟨by rw [List.length_set, List.length_set]; exact R.len, fun i d e h1 h2 => ?_, fun i d e h1 => ?_, fun i d e h1 h2 => ?_, fun i k di dk a ei ek hi hk qi qk => ?_, R.oh, R.ap⟩
 ·obtain ⟨n, e⟩ := qY e
  obtain ⟨v, q, r⟩ := R.val i d e h1 h2
  exact ⟨v, st i _ n q, r⟩
 ·obtain ⟨n, e⟩ := qY e
  obtain ⟨v, q, r⟩ := R.own i d e h1
  exact ⟨v, st i _ n q, r⟩
 ·obtain ⟨n, e⟩ := qY e
  obtain ⟨v, q, r⟩ := R.lnt i d e h1 h2
  exact ⟨v, st i _ n q, r⟩
 ·obtain ⟨n1, e1⟩ := qY ei
  obtain ⟨n2, e2⟩ := qY ek
  rw [List.getElem?_set_ne (Ne.symm n1)] at qi
  rw [List.getElem?_set_ne (Ne.symm n2)] at qk
  exact R.inj i k di dk a e1 e2 hi hk qi qk
def unn (j : Nat) : Out -> Res Out
 | .nx ρ => .ok (.nx (ρ.set j none))
 | .rt d => .ok (.rt d)
def sTry (j : Nat) (caught : List Str) (mb ms : Ev -> Res Out) : Ev -> Res Out := fun ρ => match mb ρ with
 | .ok o => .ok o
 | .no => .no
 | .ex c => if caught.contains c then (noEx (ms ((List.replicate ρ.length none).set j (some (excD c))))).bind (unn j) else .no
theorem zK9 {α : Type} {r : Res α} {Q : α -> Prop} {E : Str -> Prop} (h : (noEx r).post Q E) : r.post Q (fun _ => False) := by
 cases r with
 | ok a => exact h
 | ex c => exact h.elim
 | no => exact h
theorem yQ7 {C : Ct} {fr : Bool} {x n : Str} {np hpos pos : Pos} {body suite : List Stmt} {b₀ : Stmt} {mb ms : Ev -> Res Out} (j : Nat) (caught : List Str) (nd : C.X.N.Nodup)
  (hbody : ∀ (pn : List (Addr × Obj)) (xe : Value -> Shared -> Prop) (XE : Str -> Hp -> Prop), Br ⟨inTry C.X pn xe, XE, C.om, C.ln⟩ -> RSs ⟨inTry C.X pn xe, XE, C.om, C.ln⟩ fr body mb)
  (hsuite : ∀ e : Value, RSs ⟨inSuite C.X e, fun _ _ => False, C.om, C.ln⟩ fr (b₀ :: suite) ms)
  (hcx : ∀ c, caught.contains c = true -> PySem.W.kitCls C.X.K (.ref (CN.ad c)) (.ref (CN.ad x)) = some true) (hcb : PySem.W.subIn C.X.K (.ref (CN.ad x)) (.type "BaseException") = some true) (hm : C.X.mg x = some (.ref (CN.ad x)))
  (hst : autoParam (C.X.stack = C.X.env :: C.X.outer) zX._auto_1) (hfr : autoParam (C.X.env.frame = some C.X.env.locals) zX._auto_1) (hex : autoParam (C.X.ex = []) zX._auto_1) (hj : autoParam (C.X.N[j]? = some n) zX._auto_1) (oj : autoParam (C.om.contains j = false) zX._auto_1) (lj : autoParam (C.ln.contains j = false) zX._auto_1) (hk : autoParam (C.X.env.scope.names.lookup n = some .local) zX._auto_1) (hg : autoParam (Gl C.X x) zX._auto_1) (hdb : autoParam ((x == ("__debug__" : Str)) = false) zJ._auto_1) :
  RS C fr (.Try body [.ExceptHandler (some (.Name x np)) (some n) (b₀ :: suite) hpos] [] [] pos) (sTry j caught mb ms) := by
 refine ⟨fun D σ H => ∀ pins s, Inv C.X pins σ H s -> wpAny (model C.X.prog C.X.w) C.X.A (exec (.Try body [.ExceptHandler (some (.Name x np)) (some n) (b₀ :: suite) hpos] [] [] pos) C.X.env) (SP C.X pins D) C.X.xe s, fun pins s σ H D I h => h pins s I, fun Oc Ob σ H ρ E R hp pins s I => ?_⟩
 refine wpAny_Try_except ?_
 generalize hxe : (fun (e : Value) (s₁ : Shared) => wpAny (model C.X.prog C.X.w) C.X.A (noteFrame e C.X.env) (fun _ s₂ => wpAny (model C.X.prog C.X.w) C.X.A (setFlight e none) (fun _ s₃ => wpAny (model C.X.prog C.X.w) C.X.A (handleBy e C.X.env [.ExceptHandler (some (.Name x np)) (some n) (b₀ :: suite) hpos]) (SP C.X pins E) C.X.xe s₃) C.X.xe s₂) C.X.xe s₁) = xe'
 have hln : σ.length = ρ.length := R.len
 have br : Br ⟨inTry C.X (C.X.pn ++ pins) xe', fun c H' => Frm Ob H H' /\ caught.contains c = true /\ SPost C fr Oc (fun _ => False) H' E ((noEx (ms ((List.replicate ρ.length none).set j (some (excD c))))).bind (unn j)), C.om, C.ln⟩ := by
  intro c H' e s' xx ⟨f1, hc, hsp⟩
  subst hxe
  refine zN7 (X := inTry C.X (C.X.pn ++ pins) _) xx hst hfr fun pins' σ' s1 H1 a B a0 s3 J1 J un ea n1 n2 fl tr => ?_
  subst ea
  have K3 : Inv C.X pins σ' H' s3 := Inv.ofTry J
  have Km := Inv.toSuite K3 (.ref a)
  refine wpAny_handleBy_cons (codeAny_handlers_test ?_) (by intro q; cases q)
  refine gI (X := inSuite C.X (.ref a)) Km hg hm ?_ hdb
  obtain ⟨oe, _, _, _, _, he, ⟨hcl, _⟩, _⟩ := id tr
  refine zJ5 K3.kIn he hcl (hcx c hc) hcb ?_
  refine codeAny_handlers_suite_as ?_
  refine lands_againW (base := B) (l := C.X.stack) (cls := .ref (CN.ad c)) (a0 := a0) ⟨fl.stays, fl.newB, fl.frm, tr⟩ fun h4 fly ups => ?_
  obtain ⟨I4, _, _⟩ := zO2 J1 J un fl fly.1 fly.2.2.1 ups
  have K4 : Inv C.X pins σ' H' { s3 with heap := h4 } := Inv.ofTry I4
  have L1 : Inv C.X pins σ' H1 s1 := Inv.ofTry J1
  obtain ⟨oe4, _, _, _, _, he4, ⟨hcl4, _⟩, _⟩ := id fly.2.2.2
  have hne : ∀ b o, s1.heap.get? b = some o -> b ≠ a := fun b o q z => by subst z; rw [n1] at q; cases q
  have T4 : Inv C.X pins σ' (upd H' a (.ext (excP a c))) { s3 with heap := h4 } := by
   refine K4.track n2 ?_ ?_ (fun y z q => ?_) (fun p hp => ?_) ⟨⟨oe4, he4, hcl4⟩, ⟨oe4, he4⟩, fun h1 h2 ⟨o, q1, q2⟩ kk => ⟨o, kk o q1, q2⟩⟩
   ·cases q : C.X.s₀.heap.get? a with
    | none => rfl
    | some o =>
     obtain ⟨o', q'⟩ := L1.base.there a o q (by rw [hex]; simp)
     rw [n1] at q'
     cases q'
   ·obtain ⟨m, ⟨o, _, _, q, _⟩, _⟩ := L1.loc
    exact Ne.symm (hne _ o q)
   ·obtain ⟨v, o, q', _⟩ := L1.cell y z q
    exact hne _ o q'
   ·exact hne _ _ (L1.pin p hp).1
  refine qT (X := inSuite C.X (.ref a)) (v := .ref a) (Inv.toSuite T4 (.ref a)) nd hj (.inl hk) rfl (fun s5 I5 => ?_) (.inr hk)
  obtain ⟨ts, ps, qs⟩ := hsuite (.ref a)
  have hOc : ∀ b, Oc b -> H' b ≠ none := fun b z => by
   obtain ⟨o, q⟩ := jY (R.oh b (.inl z))
   exact xK (f1 b o q fun y => R.ap b y z)
  have R5 : Rel Oc (fun _ => False) C.om C.ln (σ'.set j (some (.ref a))) (upd H' a (.ext (excP a c))) ((List.replicate ρ.length none).set j (some (excD c))) := by
   have one : ∀ i d, ((List.replicate ρ.length (none : Option D)).set j (some (excD c)))[i]? = some (some d) -> i = j /\ d = excD c := fun i d e => by
    rcases yG e with ⟨z, y⟩ | ⟨z, y⟩
    ·exact ⟨z.symm ▸ rfl, y.symm ▸ rfl⟩
    ·rw [List.getElem?_replicate] at y
     split at y <;> cases y
   have hls : σ'.length = ρ.length := by rw [K3.len, <- I.len, hln]
   refine ⟨by rw [List.length_set, List.length_set, List.length_replicate, hls], fun i d e h1 h2 => ?_, fun i d e h1 => ?_, fun i d e h1 h2 => ?_, fun i k di dk b ei ek hi hk' _ _ => ?_, fun b z => ?_, fun b z => z.elim⟩
   ·have hi := kM e
    obtain ⟨rfl, rfl⟩ := one i d e
    refine ⟨.ref a, by rw [List.getElem?_set_self (by rw [hls]; simpa using hi)], .exc zU fun z => ?_⟩
    exact hOc a (z.elim id fun z => z.elim) n2
   ·obtain ⟨rfl, _⟩ := one i d e
    exact absurd h1 (xX oj)
   ·obtain ⟨rfl, _⟩ := one i d e
    exact absurd h2 (xX lj)
   ·obtain ⟨rfl, _⟩ := one i di ei
    exact absurd hi (xX oj)
   ·exact Same.ne (Same.new n2) (hOc b (z.elim id fun z => z.elim))
  have sp5 := SPost.same (Same.new n2 (o := .ext (excP a c))) hsp
  refine wpAny_mono (ps pins s5 _ _ { nx := fun σ6 H6 => E.nx (σ6.set j none) H6, rt := E.rt, bk := fun σ6 H6 => E.bk (σ6.set j none) H6, ct := fun σ6 H6 => E.ct (σ6.set j none) H6 } I5 (qs Oc (fun _ => False) _ _ _ _ R5 ?_)) (fun f s6 h6 => ?_) fun _ _ z => z.elim
  ·refine Res.zV (zK9 (Res.zW sp5)) (fun o _ k => ?_) fun _ z => z.elim
   cases o with
   | nx ρ' => exact fun σ6 H6 Ob6 R6 f6 s6 => k (σ6.set j none) H6 Ob6 (R6.unset j) f6 s6
   | rt d => exact k
  ·have go : ∀ {σ6 : St} {H6 : Hp}, Inv (inSuite C.X (.ref a)) pins σ6 H6 s6 -> (∀ s8, Inv C.X pins (σ6.set j none) H6 s8 -> SP C.X pins E f s8) -> wpAny (model C.X.prog C.X.w) C.X.A (do bindName C.X.env n .none; unbindBehindTheSuite C.X.env n hpos) (fun _ s₃ => SP C.X pins E f s₃) C.X.xe s6 := fun {σ6 H6} I6 kk => by
    have I6' := Inv.ofSuite K3.ok I6
    refine wpAny_bind (wpAny_bindName (qT (v := .non) I6' nd hj (.inl hk) rfl (fun s7 I7 => ?_) (.inr hk)))
    have hlt : j < σ6.length := by rw [I6'.len]; exact (List.getElem?_eq_some_iff.mp hj).1
    unfold unbindBehindTheSuite
    refine wpAny_onRaise (zM2 I7 nd hj hk (List.getElem?_set_self hlt) fun s8 I8 => ?_)
    rw [List.set_set] at I8
    exact kk s8 I8
   cases f with
   | next => obtain ⟨σ6, H6, I6, q6⟩ := h6; exact go I6 fun s8 I8 => ⟨_, _, I8, q6⟩
   | brk => obtain ⟨σ6, H6, I6, q6⟩ := h6; exact go I6 fun s8 I8 => ⟨_, _, I8, q6⟩
   | cont => obtain ⟨σ6, H6, I6, q6⟩ := h6; exact go I6 fun s8 I8 => ⟨_, _, I8, q6⟩
   | ret u => obtain ⟨v, σ6, H6, I6, r6, q6⟩ := h6; exact go I6 fun s8 I8 => ⟨v, _, _, I8, r6, q6⟩
 obtain ⟨tb, pb, qb⟩ := hbody _ _ _ br
 refine wpAny_mono (pb [] s σ H E (Inv.toTry I _) (qb Oc Ob σ H ρ E R ?_)) (fun f s₁ hs => ?_) fun e s₁ z => z
 ·unfold sTry at hp
  cases em : mb ρ with
  | ok o => rw [em] at hp; exact hp
  | no => rw [em] at hp; exact hp
  | ex c =>
   rw [em] at hp
   intro H' f1
   by_cases hc : caught.contains c = true
   ·simp only [hc, if_true] at hp
    exact ⟨f1, hc, SPost.step f1 (fun b z => z.elim) hp⟩
   ·simp only [hc] at hp
    exact hp.elim
 ·cases f with
  | next => exact wpAny_execs_nil (SP.ofTry hs)
  | brk => exact SP.ofTry (f := .brk) hs
  | cont => exact SP.ofTry (f := .cont) hs
  | ret u => exact SP.ofTry (f := .ret u) hs
def isiX (cls sup : List Str) : D -> Option D
 | .none => some (.bool false)
 | .dict [(.list [], .str c)] => if cls.contains c then some (.bool (sup.contains c)) else none
 | _ => none
def IsK (K : KFr) (cls sup : List Str) (u : Value) : Prop :=
 PySem.W.kitOne K (.type "NoneType") u = some false /\ ∀ c, cls.contains c = true -> ExK K (CN.ad c) /\ PySem.W.kitOne K (.ref (CN.ad c)) u = some (sup.contains c)
def TyX (K : KFr) (H : Hp) (x : V) (t : Value) : Prop :=
 (x = .non /\ t = .type "NoneType") \/ ∃ a c, x = .ref a /\ H a = some (.ext (excP a c)) /\ t = .ref (CN.ad c) /\ ExK K (CN.ad c)
theorem cO {X : Cx} : CallR X (.builtin "isinstance") (fun vs H Q => ∃ x c cv t b, vs = [x, c] /\ clsV c = some cv /\ TyX X.K H x t /\ PySem.W.kitOne X.K t cv = some b /\ Q (.bl b) H) := by
 intro pins s σ H xs us Q I r h
 obtain ⟨x, c, cv, t, b, rfl, ec, ty, k, q⟩ := h
 obtain ⟨u, w', rfl, ru, rw'⟩ := vals2 r
 obtain rfl := zC4 rw' ec
 rcases ty with ⟨rfl, rfl⟩ | ⟨a, c', rfl, ha, rfl, ek⟩
 ·cases (show u = Value.none from ru)
  exact PySem.W.kia_one PySem.W.kitx_none I.kIn True.intro k (fun z => nomatch z) fun tk => ⟨.bl b, H, I.tok tk, rfl, q⟩
 ·cases ru
  obtain ⟨p, _⟩ := I.hok a _ ha
  exact PySem.W.kia_one (aW ek) I.kIn p k (fun z => nomatch z) fun tk => ⟨.bl b, H, I.tok tk, rfl, q⟩
theorem zI6 {X : Cx} : CallR X (.builtin "isinstance") (fun vs H Q => ∃ x a xs t b, vs = [x, .ref a] /\ H a = some (.tup xs) /\ TyX X.K H x t /\ (∀ us, Vals xs us -> PySem.W.kitAny X.K t us = some b) /\ Q (.bl b) H) := by
 intro pins s σ H xs us Q I r h
 obtain ⟨x, a, ys, t, b, rfl, ha, ty, k, q⟩ := h
 obtain ⟨u, w', rfl, ru, rw'⟩ := vals2 r
 cases rw'
 obtain ⟨_, its, ri, o, e1, e2, ⟨n, e3⟩, _⟩ := I.hok a _ ha
 obtain ⟨oc, od, odt, osl⟩ := o
 simp only at e2 e3
 subst e2 e3
 rcases ty with ⟨rfl, rfl⟩ | ⟨a', c', rfl, ha', rfl, ek⟩
 ·cases (show u = Value.none from ru)
  exact PySem.W.kia_tup PySem.W.kitx_none I.kIn True.intro e1 (k its ri) (fun z => nomatch z) fun tk => ⟨.bl b, H, I.tok tk, rfl, q⟩
 ·cases ru
  obtain ⟨p, _⟩ := I.hok a' _ ha'
  exact PySem.W.kia_tup (aW ek) I.kIn p e1 (k its ri) (fun z => nomatch z) fun tk => ⟨.bl b, H, I.tok tk, rfl, q⟩
theorem zY1 {K : KFr} {cls sup : List Str} {Oc : Wd} {Ob : Addr -> Prop} {H : Hp} {v : V} {d r : D} (h : VA Oc Ob H v d) (e : isiX cls sup d = some r) (hk : ∀ c, cls.contains c = true -> ExK K (CN.ad c)) :
  ∃ t, TyX K H v t /\ ((t = .type "NoneType" /\ r = .bool false) \/ ∃ c, cls.contains c = true /\ t = .ref (CN.ad c) /\ r = .bool (sup.contains c)) := by
 rcases h with h | ⟨a, ys, ds, rfl, rfl, e3, e5⟩
 ·cases h with
  | non => cases e; exact ⟨_, .inl ⟨rfl, rfl⟩, .inl ⟨rfl, rfl⟩⟩
  | @exc a c q n =>
   unfold isiX at e
   by_cases hc : cls.contains c = true
   ·simp only [hc, if_true] at e
    cases e
    exact ⟨_, .inr ⟨a, c, rfl, q, rfl, hk c hc⟩, .inr ⟨c, hc, rfl, rfl⟩⟩
   ·simp only [hc] at e
    cases e
  | _ => cases e
 ·cases e
section
variable {C : Ct} {e : Expr} {x : Str} {p p2 p3 pos : Pos} {md : Md} {me : Ev -> Res D}
theorem dF (cls sup : List Str) (hk : IsK C.X.K cls sup (.ref (CN.ad x))) (hm : C.X.mg "isinstance" = none) (hx : C.X.mg x = some (.ref (CN.ad x))) (he : RE C md e me) (hg : autoParam (Gl C.X "isinstance") zX._auto_1) (hgx : autoParam (Gl C.X x) zX._auto_1) (hdb : autoParam ((x == ("__debug__" : Str)) = false) zJ._auto_1)
  (hs1 : autoParam (starEach [e, .Name x p2] C.X.env = (false, eval e C.X.env) :: starEach [.Name x p2] C.X.env) zX._auto_1) (hs2 : autoParam (starEach [.Name x p2] C.X.env = (false, eval (.Name x p2) C.X.env) :: starEach [] C.X.env) zX._auto_1) (hpl : autoParam ((backTo pos (starEach [.Name x p2] C.X.env)).any (·.1) = false) zX._auto_1) :
  RE C .cl (.Call (.Name "isinstance" p) [e, .Name x p2] [] pos) (e1 (isiX cls sup) me) := by
 obtain ⟨t, pe, q⟩ := he
 refine ⟨_, vS cO hg hm PyProof.Rows.boot_isinstance (zY pe (zY (dN (v := .ref (CN.ad x)) hgx hx rfl hdb) zO hs2) hs1) (by decide) (by decide) hs1 hpl, fun Oc Ob σ H ρ Q R h => q Oc Ob σ H ρ _ R (Res.zV (Res.zW h) (fun d _ kk v H' s r => ?_) fun _ z => z)⟩
 obtain ⟨dd, ed, kk⟩ := Res.zA kk
 obtain ⟨tt, ty, hh⟩ := zY1 (r.va R.oh) ed fun c hc => (hk.2 c hc).1
 rcases hh with ⟨rfl, rfl⟩ | ⟨c, hc, rfl, rfl⟩
 ·exact ⟨v, .ref (CN.ad x), .ref (CN.ad x), _, _, rfl, rfl, ty, hk.1, kk _ H' s (Rep.bl _)⟩
 ·exact ⟨v, .ref (CN.ad x), .ref (CN.ad x), _, _, rfl, rfl, ty, (hk.2 c hc).2, kk _ H' s (Rep.bl _)⟩
theorem zF3 {T : String} (cls sup : List Str) (hk : IsK C.X.K cls sup (.type T)) (hm : C.X.mg "isinstance" = none) (hx : C.X.mg x = none) (hv : bootBuiltins x = some (.type T)) (he : RE C md e me) (hg : autoParam (Gl C.X "isinstance") zX._auto_1) (hgx : autoParam (Gl C.X x) zX._auto_1) (hn : autoParam (x ≠ "__name__") zJ._auto_1) (hdb : autoParam ((x == ("__debug__" : Str)) = false) zJ._auto_1)
  (hs1 : autoParam (starEach [e, .Name x p2] C.X.env = (false, eval e C.X.env) :: starEach [.Name x p2] C.X.env) zX._auto_1) (hs2 : autoParam (starEach [.Name x p2] C.X.env = (false, eval (.Name x p2) C.X.env) :: starEach [] C.X.env) zX._auto_1) (hpl : autoParam ((backTo pos (starEach [.Name x p2] C.X.env)).any (·.1) = false) zX._auto_1) :
  RE C .cl (.Call (.Name "isinstance" p) [e, .Name x p2] [] pos) (e1 (isiX cls sup) me) := by
 obtain ⟨t, pe, q⟩ := he
 refine ⟨_, vS cO hg hm PyProof.Rows.boot_isinstance (zY pe (zY (yY8 (v := .ty T) hgx hx hv rfl hn hdb) zO hs2) hs1) (by decide) (by decide) hs1 hpl, fun Oc Ob σ H ρ Q R h => q Oc Ob σ H ρ _ R (Res.zV (Res.zW h) (fun d _ kk v H' s r => ?_) fun _ z => z)⟩
 obtain ⟨dd, ed, kk⟩ := Res.zA kk
 obtain ⟨tt, ty, hh⟩ := zY1 (r.va R.oh) ed fun c hc => (hk.2 c hc).1
 rcases hh with ⟨rfl, rfl⟩ | ⟨c, hc, rfl, rfl⟩
 ·exact ⟨v, .ty T, .type T, _, _, rfl, rfl, ty, hk.1, kk _ H' s (Rep.bl _)⟩
 ·exact ⟨v, .ty T, .type T, _, _, rfl, rfl, ty, (hk.2 c hc).2, kk _ H' s (Rep.bl _)⟩
end
def RN (X : Cx) (es : List Expr) (xs : List Str) : Prop := PA X es (fun σ H Q => Q (xs.map fun x => V.ref (CN.ad x)) H)
theorem yS3 {X : Cx} : RN X [] [] := zO
theorem qF {X : Cx} {x : Str} {xs : List Str} {es : List Expr} {pos : Pos} (hm : X.mg x = some (.ref (CN.ad x))) (h : RN X es xs) (hg : autoParam (Gl X x) zX._auto_1) (hdb : autoParam ((x == ("__debug__" : Str)) = false) zJ._auto_1)
  (hs : autoParam (starEach (.Name x pos :: es) X.env = (false, eval (.Name x pos) X.env) :: starEach es X.env) zX._auto_1) : RN X (.Name x pos :: es) (x :: xs) :=
 zY (dN (v := .ref (CN.ad x)) hg hm rfl hdb) h hs
theorem bW : ∀ {as : List Addr} {us : List Value}, Vals (as.map V.ref) us -> us = as.map Value.ref
 | [], _, h => by cases h; rfl
 | a :: as, _, h => by
  cases h with
  | cons r t => cases r; rw [bW t]; rfl
theorem zU3 {K : KFr} {t : Value} {c : Str} : ∀ {xs : List Str}, (∀ x ∈ xs, PySem.W.kitOne K t (.ref (CN.ad x)) = some ([x].contains c)) -> PySem.W.kitAny K t (xs.map fun x => Value.ref (CN.ad x)) = some (xs.contains c)
 | [], _ => rfl
 | x :: xs, h => by
  have h1 := h x List.mem_cons_self
  have ih := zU3 (xs := xs) fun y hy => h y (List.mem_cons_of_mem _ hy)
  have g : (x :: xs).contains c = ((c == x) || xs.contains c) := List.contains_cons
  have g1 : [x].contains c = (c == x) := by rw [List.contains_cons]; cases (c == x) <;> rfl
  rw [g1] at h1
  rw [List.map_cons, PySem.W.kitAny, h1, g]
  cases e : (c == x) with
  | true => rfl
  | false => exact ih
theorem zZ9 {K : KFr} {t : Value} : ∀ {xs : List Str}, (∀ x ∈ xs, PySem.W.kitOne K t (.ref (CN.ad x)) = some false) -> PySem.W.kitAny K t (xs.map fun x => Value.ref (CN.ad x)) = some false
 | [], _ => rfl
 | x :: xs, h => by
  rw [List.map_cons, PySem.W.kitAny, h x List.mem_cons_self]
  exact zZ9 fun y hy => h y (List.mem_cons_of_mem _ hy)
theorem zH5 {C : Ct} {e : Expr} {es : List Expr} {k1} {p p3 pos : Pos} {md : Md} {me : Ev -> Res D} (cls xs : List Str) (hk : ∀ x ∈ xs, IsK C.X.K cls [x] (.ref (CN.ad x))) (hm : C.X.mg "isinstance" = none) (hx : RN C.X es xs) (he : RE C md e me) (hl : autoParam (xs.length <= 1000) zJ._auto_1) (hne : autoParam (xs ≠ []) zJ._auto_1) (hg : autoParam (Gl C.X "isinstance") zX._auto_1)
  (hs1 : autoParam (starEach [e, .Tuple es k1 p3] C.X.env = (false, eval e C.X.env) :: starEach [.Tuple es k1 p3] C.X.env) zX._auto_1) (hs2 : autoParam (starEach [.Tuple es k1 p3] C.X.env = (false, eval (.Tuple es k1 p3) C.X.env) :: starEach [] C.X.env) zX._auto_1) (hpl : autoParam ((backTo pos (starEach [.Tuple es k1 p3] C.X.env)).any (·.1) = false) zX._auto_1) :
  RE C .cl (.Call (.Name "isinstance" p) [e, .Tuple es k1 p3] [] pos) (e1 (isiX cls xs) me) := by
 obtain ⟨t, pe, q⟩ := he
 refine ⟨_, vS zI6 hg hm PyProof.Rows.boot_isinstance (zY pe (zY (vW hx) zO hs2) hs1) (by decide) (by decide) hs1 hpl, fun Oc Ob σ H ρ Q R h => q Oc Ob σ H ρ _ R (Res.zV (Res.zW h) (fun d _ kk v H' s r => ?_) fun _ z => z)⟩
 obtain ⟨dd, ed, kk⟩ := Res.zA kk
 obtain ⟨x0, hx0⟩ := List.exists_mem_of_ne_nil xs hne
 obtain ⟨tt, ty, hh⟩ := zY1 (r.va R.oh) ed fun c hc => ((hk x0 hx0).2 c hc).1
 refine ⟨by rw [List.length_map]; exact Nat.le_trans hl (by decide), fun a ha => ?_⟩
 have ty2 : TyX C.X.K (upd H' a (.tup (xs.map fun x => V.ref (CN.ad x)))) v tt := by
  rcases ty with ty | ⟨b, c, e1, e2, e3, e4⟩
  ·exact .inl ty
  ·exact .inr ⟨b, c, e1, Same.new ha _ _ e2, e3, e4⟩
 have ev : ∀ us, Vals (xs.map fun x => V.ref (CN.ad x)) us -> us = xs.map fun x => Value.ref (CN.ad x) := fun us hv => by
  have := bW (as := xs.map CN.ad) (us := us) (by rw [List.map_map]; exact hv)
  rw [this, List.map_map]; rfl
 rcases hh with ⟨rfl, rfl⟩ | ⟨c, hc, rfl, rfl⟩
 ·exact ⟨v, a, _, _, _, rfl, zU, ty2, fun us hv => by rw [ev us hv]; exact zZ9 fun x hx => (hk x hx).1, kk _ _ (s.trans (Same.new ha)) (Rep.bl _)⟩
 ·exact ⟨v, a, _, _, _, rfl, zU, ty2, fun us hv => by rw [ev us hv]; exact zU3 fun x hx => ((hk x hx).2 c hc).2, kk _ _ (s.trans (Same.new ha)) (Rep.bl _)⟩
omit [CN] in
theorem xG (c : Str) (m : Ev -> Res (List D)) (ρ : Ev) : sRa c m ρ = (m ρ).bind fun ds => if ds.length <= sizeLine then .ex c else .no := rfl
omit [CN] in
theorem dD {j : Nat} {cs : List Str} {mb ms : Ev -> Res Out} {ρ : Ev} {c : Str} (h : mb ρ = .ex c) (hc : cs.contains c = true) : sTry j cs mb ms ρ = (noEx (ms ((List.replicate ρ.length none).set j (some (excD c))))).bind (unn j) := by
 unfold sTry
 rw [h]
 exact if_pos hc
omit [CN] in
theorem zV9 {j : Nat} {cs : List Str} {mb ms : Ev -> Res Out} {ρ : Ev} {o : Out} (h : mb ρ = .ok o) : sTry j cs mb ms ρ = .ok o := by
 unfold sTry
 rw [h]
omit [CN] in
theorem aK (j : Nat) (ρ : Ev) : unn j (.nx ρ) = .ok (.nx (ρ.set j none)) := rfl
omit [CN] in
theorem yP9 (cls sup : List Str) (c : Str) : isiX cls sup (excD c) = if cls.contains c then some (.bool (sup.contains c)) else none := rfl
theorem yI4 {K : KFr} {cls : List Str} {u : Value} (h : ∀ c ∈ cls, PySem.W.kitCls K (.ref (CN.ad c)) u = some true) : ∀ c, cls.contains c = true -> PySem.W.kitCls K (.ref (CN.ad c)) u = some true :=
 fun c hc => h c (List.contains_iff_mem.mp hc)
theorem uP {K : KFr} {cls sup : List Str} {u : Value} (h0 : PySem.W.kitOne K (.type "NoneType") u = some false) (h : ∀ c ∈ cls, ExK K (CN.ad c) /\ PySem.W.kitOne K (.ref (CN.ad c)) u = some (sup.contains c)) : IsK K cls sup u :=
 ⟨h0, fun c hc => h c (List.contains_iff_mem.mp hc)⟩
end L2.L3
namespace L2.L3
open PySem PySem.Spec PyProof.Rows
theorem kB {K : KFr} {t c : Value} {v : Bool} (h : PySem.W.kitOne K t c = some v) (n : (t == c) = false) : PySem.W.kitCls K t c = some v := by
 rw [PySem.W.kitOne, if_neg (by rw [n]; decide)] at h
 exact h
theorem jX {K : KFr} {A : Addr} {T : String} {v : Bool} (h : PySem.W.kitOne K (.ref A) (.type T) = some v) : PySem.W.subIn K (.ref A) (.type T) = some v := by
 have h2 := kB h rfl
 rw [PySem.W.kitCls] at h2
 split at h2
 ·exact h2
 ·cases h2
def cnOf (K : KFr) : CN := ⟨fun x => match PySem.W.nsIn K mainGlobals x with | some (some (.ref a)) => a | _ => 0⟩
theorem qN {K : KFr} {x : Str} {a : Addr} (h : PySem.W.nsIn K mainGlobals x = some (some (.ref a))) : (cnOf K).ad x = a := by
 show (match PySem.W.nsIn K mainGlobals x with | some (some (.ref a)) => a | _ => 0) = a
 rw [h]
theorem zL3 {F : List D -> Res D} {k : Nat} {l : PySem.W.OpenLaw} {q : Program} {loose : List Str} {XP : (Str -> Option Value) -> Heap -> Prop} {YP : World -> Heap -> Prop} {d : DefRec} {K : Params -> KFr} (hT : ∀ ns : List Int, ns.length <= 63 -> F [.list (ns.map PyData.int)] = .ok (.bool true)) (hr : Room k callerA) (hn : l.most = some 63) (hdf : d.params.defaults = [])
  (hY : ∀ (w : World) (h : Heap), YP w h -> (K w.params).In h) (hL : ∀ w : World, noLst (K w.params) = true)
  (hF : ∀ (w : World) (mg : Str -> Option Value) (fa : Addr) (h : Heap), (K w.params).In h -> h.Ns mainGlobals mg -> mg d.name = some (.ref fa) ->
   ∃ fd : FuncData, (∀ (s : Shared) (u : Value), BindsTo s fd ⟨[u], []⟩ [("script", u)]) /\ ∀ base : Heap, (K w.params).In base -> base.Ns mainGlobals mg -> FnOk l.prog w (K w.params) mg base (CXV l.prog w) k fa fd ["script"] (@spX (cnOf (K w.params)) false F)) :
  PySem.W.WalkO q loose XP YP l.row.toRowW d [] (fun f vs => PySem.call f vs) := by
 refine L2.yU5 (n := 63) (k := k) (x := "script") (CX := fun w => CXV l.prog w) (sp := fun w => @spX (cnOf (K w.params)) false F) hn (by decide) hdf hr hY hF (fun w H a ns hl hO hS => ?_) fun w H s e s' z => ?_
 ·letI := cnOf (K w.params)
  refine ⟨[.list (ns.map PyData.int)], fun _ => False, fun a z => z.elim, .cons (.lst (yL1 (hL w) hS) (fun z => z) (uO ns)) .nil, ?_⟩
  rw [hT ns hl]
  intro v H' _ r
  cases (show Rep H' (fun _ => False) v (.bool true) from r)
  rfl
 ·obtain ⟨_, _, _, _, _, _, _, _, _, _, _, _, _, z⟩ := z
  exact z
end L2.L3
namespace MR
structure Ord (n : Nat) (xs : List Int) : Prop where
 len : xs.length = n
 bd : ∀ i, i < n -> 0 <= xs.getD i 0 /\ xs.getD i 0 < n
 inj : ∀ i j, i < n -> j < n -> xs.getD i 0 = xs.getD j 0 -> i = j
def nxt (xs : List Int) (b : Nat) : Nat := (xs.getD b 0).toNat
def it (xs : List Int) : Nat -> Nat -> Nat
 | 0, b => b
 | k + 1, b => nxt xs (it xs k b)
section
variable {n : Nat} {xs : List Int}
def perGo (xs : List Int) (b : Nat) : Nat -> Nat -> Nat
 | 0, k => k
 | fuel + 1, k => if it xs k b = b then k else perGo xs b fuel (k + 1)
def per (n : Nat) (xs : List Int) (b : Nat) : Nat := perGo xs b (n - 1) 1
def In (n : Nat) (xs : List Int) (b c : Nat) : Prop := ∃ i, i < per n xs b /\ it xs i b = c
def ring (n : Nat) (xs : List Int) (b : Nat) : List Nat := (List.range (per n xs b)).map fun i => it xs i b
def has (rs : List (List Nat)) (b : Nat) : Bool := rs.any fun r => r.contains b
structure Rgs (n : Nat) (xs : List Int) (m : Nat) (rs : List (List Nat)) : Prop where
 each : ∀ r ∈ rs, ∃ b, b < m /\ r = ring n xs b /\ ∀ c, In n xs b c -> b <= c
 cover : ∀ c, c < m -> ∃ r ∈ rs, c ∈ r
 nodup : rs.flatten.Nodup
 rise : rs.Pairwise fun r r' => ∀ x ∈ r.head?, ∀ y ∈ r'.head?, x < y
end
end MR
namespace L2.L3
open PySem PySem.Spec PyProof.Rows MR
variable [CN]
def pwD (m p : Int) : Nat -> Int
 | 0 => p
 | i + 1 => pwD m p i / m
def digD (m p : Int) (n : Nat) : List Int := (List.range n).map fun i => pwD m p i % m
def Pot (a : Addr) (H H' : Hp) : Prop := ∀ b o, H b = some o -> b ≠ a -> H' b = some o
theorem Pot.upd {a : Addr} {H : Hp} {o : HO} : Pot a H (upd H a o) := fun b u e n => by rw [zT n]; exact e
theorem Pot.trans {a : Addr} {H H1 H2 : Hp} (h : Pot a H H1) (g : Pot a H1 H2) : Pot a H H2 := fun b o e n => g b o (h b o e n) n
theorem Pot.refl (a : Addr) (H : Hp) : Pot a H H := fun _ _ e _ => e
theorem Pot.new {a b : Addr} {H H1 : Hp} {o : HO} (h : Pot a H H1) (hb : H1 b = none) : Pot a H (L2.upd H1 b o) := fun c u e n => by
 rw [zT (fun z => by rw [z] at e; rw [z] at n; rw [h b u e n] at hb; cases hb)]
 exact h c u e n
def spTake : Sp := fun vs H Q _ => ∃ (a : Addr) (p m : Int), vs = [.ref a, .int m] /\ H a = some (.lst [.int p]) /\ DivOk m /\ Q (.int (p % m)) (upd H a (.lst [.int (p / m)]))
def tTake (K : KFr) : TS := tSeq (tAsg (tOp (rI (fun _ j => 0 < j) fun i j => .int (i % j)) (tOp (rIxL K) (tVar 0) (tC (.int 0))) (tVar 1)) (gName 2)) (tSeq (tAsg (tOp (rI (fun _ j => DivOk j) fun i j => .int (i / j)) (tOp (rIxL K) (tVar 0) (tC (.int 0))) (tVar 1)) (gSub (tVar 0) (tC (.int 0)) rSetL)) (tRet (tVar 2)))
theorem zK8 {K : KFr} {a : Addr} {p m : Int} {H : Hp} {E : Ends} (h : H a = some (.lst [.int p])) (hm : DivOk m) (k : E.rt (.int (p % m)) (upd H a (.lst [.int (p / m)]))) : tTake K E [some (.ref a), some (.int m), none] H := by
 refine ⟨_, rfl, a, _, 0, _, rfl, rfl, SqL.of h, rfl, _, rfl, _, _, rfl, rfl, hm.1, ?_⟩
 refine ⟨_, rfl, a, _, 0, _, rfl, rfl, SqL.of h, rfl, _, rfl, _, _, rfl, rfl, hm, ?_⟩
 exact ⟨_, rfl, a, _, 0, 0, rfl, rfl, h, rfl, _, rfl, k⟩
section
variable {P : Program} {w : World} {K : KFr} {mg : Str -> Option Value} {base : Heap}
theorem yU3 {x : Str} {st : Stmt} {f : Addr} {fd : FuncData} {N ps : List Str} {k : Nat} (F : Fun K x x st f fd) (S : zH N ps (zP st)) (hp : ps.length = 2) (hN : N.length = 3)
  (hbody : ∀ (cdv : Value) (A : Around) (outer : List Env) (s : Shared) (H : Hp) (E : XK), Room k (A.deeper (envOfC x (zP st) s.heap.objs.size f cdv)) -> PSs (cxOf CX0 P w K mg base N x (zP st) f cdv A outer s H E).nox (defBody st) (tTake K)) :
  FnOk P w K mg base CX0 (k + 1) f fd ps spTake := by
 refine F.ok S (fun vs H Q E ⟨a, p, m, e, _⟩ => by rw [e, hp]; rfl) fun cdv A outer s H vs Q E hr h => ?_
 obtain ⟨a, p, m, rfl, ha, hm, q⟩ := h
 refine ⟨_, hbody cdv A outer s H E hr, ?_⟩
 have st : start N [V.ref a, V.int m] = [some (.ref a), some (.int m), none] := by
  unfold start
  rw [hN]
  rfl
 rw [st]
 exact zK8 ha hm q
end
def rTup (K : KFr) : List V -> Hp -> VK -> Prop := fun xs H Q => ∃ p ys, xs = [.ref p] /\ ((SqL K H p ys /\ ∀ l, H l = none -> Q (.ref l) (upd H l (.tup ys))) \/ (SqT K H p ys /\ Q (.ref p) H))
def rAdd : R2 := rI0 fun i j => .int (i + j)
def DigTo (a : Addr) (m p : Int) (n : Nat) (H : Hp) (Q : VK) : Prop := ∀ b H', H b = none -> H' b = some (.tup ((digD m p n).map V.int)) -> H' a = some (.lst [.int (pwD m p n)]) -> Pot a H H' -> Q (.ref b) H'
theorem aD (m p : Int) (n : Nat) : digD m p (n + 1) = digD m p n ++ [pwD m p n % m] := by
 unfold digD
 rw [List.range_succ, List.map_append]
 rfl
theorem aL {K : KFr} {σ : St} {js : List Nat} {a : Addr} {m p : Int} {n : Nat} {H : Hp} {Q : VK} {te : Addr -> List Addr -> Shared -> Hp -> TE} {wi : TI} (ha : H a = some (.lst [.int p])) (hn : n <= 1000)
  (hw : ∀ (H : Hp) (R : It -> Hp -> Prop), R (Itr 0 n) H -> wi σ H R)
  (he : ∀ C fp s₂ H₂ (i : Nat) (q : Int) (H : Hp) (Q : VK), H a = some (.lst [.int q]) -> Q (.int (q % m)) (upd H a (.lst [.int (q / m)])) -> te C fp s₂ H₂ (compSt σ js (some (.int (0 + (i : Int))))) H Q)
  (k : DigTo a m p n H Q) : tCB (rTup K) (zR (tComp wi (fun _ _ _ _ => tTrue) te js) tNil) σ H Q := by
 refine hw H _ fun C fp s₂ H₂ => ?_
 refine jE (lo := 0) (n := n) (tt := tTrue) (te := te C fp s₂ H₂) (js := js) (σ := σ) (Q := fun x H1 => rTup K [x] H1 Q) (fun i acc H1 => acc = (digD m p i).map V.int /\ H1 a = some (.lst [.int (pwD m p i)]) /\ Pot a H H1) ⟨rfl, ha, Pot.refl a H⟩ ?_ ?_
 ·rintro i acc H1 hi ⟨rfl, h1, po⟩
  unfold tTrue
  simp only [if_true]
  refine he C fp s₂ H₂ i _ H1 _ h1 ⟨by rw [List.length_map, digD, List.length_map, List.length_range]; exact small1000 (by bv_omega), ?_, zU, po.trans Pot.upd⟩
  rw [aD, List.map_append]
  rfl
 ·rintro acc H1 ⟨rfl, h1, po⟩ l hl
  have al : a ≠ l := fun z => by rw [<- z, h1] at hl; cases hl
  refine ⟨l, _, rfl, .inl ⟨SqL.of zU, fun b hb => ?_⟩⟩
  have bl : b ≠ l := fun z => by rw [z, zU] at hb; cases hb
  have ba : b ≠ a := fun z => by rw [z, zT al, h1] at hb; cases hb
  have hb1 : H1 b = none := by rw [zT bl] at hb; exact hb
  have hb0 : H b = none := by
   cases e : H b with
   | none => rfl
   | some o => rw [po b o e ba] at hb1; cases hb1
  refine k b _ hb0 zU ?_ ((po.new hl).new hb)
  rw [zT (fun z => ba z.symm), zT al]
  exact h1
def tOpn (K : KFr) : TS := tRet (tCB (rTup K) (zR (tComp (iRng1 (zR (tVar 1) tNil)) (fun _ _ _ _ => tTrue) (fun _ _ _ _ => tCall spTake [] E0 (zR (tVar 1) (zR (tOp rAdd (tVar 2) (tC (.int 1))) tNil))) [0, 1]) tNil))
def spOpn : Sp := fun vs H Q _ => ∃ (a : Addr) (p : Int) (n : Nat), vs = [.ref a, .int (n : Int)] /\ H a = some (.lst [.int p]) /\ n <= 1000 /\ DigTo a ((n : Int) + 1) p n H Q
theorem zF8 {K : KFr} {a : Addr} {p : Int} {n : Nat} {H : Hp} {E : Ends} (h : H a = some (.lst [.int p])) (hn : n <= 1000) (k : DigTo a ((n : Int) + 1) p n H E.rt) : tOpn K E [some (.ref a), some (.int (n : Int))] H := by
 refine aL (K := K) (m := (n : Int) + 1) h hn (fun H' R r => ⟨_, rfl, (n : Int), rfl, by bv_omega, by bv_omega, by rw [Int.toNat_natCast]; exact r⟩) (fun C fp s₂ H₂ i q H' Q' h' k' => ?_) k
 exact ⟨_, rfl, _, rfl, _, _, rfl, rfl, a, q, _, rfl, h', DivOk.small (by bv_omega) (by bv_omega), k'⟩
section
variable {P : Program} {w : World} {K : KFr} {mg : Str -> Option Value} {base : Heap}
theorem yN3 {x : Str} {st : Stmt} {f : Addr} {fd : FuncData} {N ps : List Str} {k : Nat} (F : Fun K x x st f fd) (S : zH N ps (zP st)) (hp : ps.length = 2) (hN : N.length = 2)
  (hbody : ∀ (cdv : Value) (A : Around) (outer : List Env) (s : Shared) (H : Hp) (E : XK), Room k (A.deeper (envOfC x (zP st) s.heap.objs.size f cdv)) -> PSs (cxOf CX0 P w K mg base N x (zP st) f cdv A outer s H E).nox (defBody st) (tOpn K)) :
  FnOk P w K mg base CX0 (k + 1) f fd ps spOpn := by
 refine F.ok S (fun vs H Q E ⟨a, p, n, e, _⟩ => by rw [e, hp]; rfl) fun cdv A outer s H vs Q E hr h => ?_
 obtain ⟨a, p, n, rfl, ha, hn, q⟩ := h
 refine ⟨_, hbody cdv A outer s H E hr, ?_⟩
 have st : start N [V.ref a, V.int (n : Int)] = [some (.ref a), some (.int (n : Int))] := by
  unfold start
  rw [hN]
  rfl
 rw [st]
 exact zF8 ha hn q
end
def rLnS (K : KFr) : List V -> Hp -> VK -> Prop := fun xs H Q => ∃ p ys, xs = [.ref p] /\ (SqL K H p ys \/ SqT K H p ys) /\ Q (.int ys.length) H
section
variable {P : Program} {w : World} {K : KFr} {mg : Str -> Option Value} {base : Heap}
end
def grD (A B C p : Int) : D :=
 if pwD (1 + p % A + 1) (p / A) (1 + p % A).toNat % 8 = 5 then .tuple [.int B, tI (digD C (pwD (1 + p % A + 1) (p / A) (1 + p % A).toNat / 8) B.toNat)]
 else .tuple [.int (1 + p % A), tI (digD (1 + p % A + 1) (p / A) (1 + p % A).toNat)]
def grF (A B C : Int) (Fc : List D -> Res D) : List D -> Res D
 | [d] => match Fc [d, .int 0] with
  | .ok (.int p) => .ok (grD A B C p)
  | _ => .no
 | _ => .no
theorem yT7 {A B C : Int} {Fc : List D -> Res D} {d : D} {p : Int} (h : Fc [d, .int 0] = .ok (.int p)) : grF A B C Fc [d] = .ok (grD A B C p) := by
 unfold grF
 simp only [h]
theorem yO3 {A B C : Int} {Fc : List D -> Res D} {ds : List D} {c : Str} : grF A B C Fc ds ≠ .ex c := by
 unfold grF
 split
 ·split <;> exact fun z => nomatch z
 ·exact fun z => nomatch z
def tGrT (K : KFr) (B C : Int) : TS :=
 tSeq (tAsg (tCall spOpn [] E0 (zR (tVar 1) (zR (tVar 2) tNil))) (gName 3))
 (tSeq (tIfS (tTest (tOp (rEqD K false) (tCall spTake [] E0 (zR (tVar 1) (zR (tC (.int 8)) tNil))) (tC (.int 5))))
  (tSeq (tAsg (tC (.int B)) (gName 2)) (tAsg (tCB (rTup K) (zR (tComp (iRng1 (zR (tVar 2) tNil)) (fun _ _ _ _ => tTrue) (fun _ _ _ _ => tCall spTake [] E0 (zR (tVar 1) (zR (tC (.int C)) tNil))) [1]) tNil)) (gName 3))) tNext)
 (tRet (tTup (zR (tVar 2) (zR (tVar 3) tNil)))))
def tGr (K : KFr) (A B C : Int) (Fc : List D -> Res D) : TS :=
 tSeq (tAsg (tLst (zR (tCall (spF false Fc) [] E0 (zR (tVar 0) (zR (tC (.int 0)) tNil))) tNil)) (gName 1))
 (tSeq (tAsg (tOp rAdd (tC (.int 1)) (tCall spTake [] E0 (zR (tVar 1) (zR (tC (.int A)) tNil)))) (gName 2)) (tGrT K B C))
theorem zJ1 {O : Addr -> Prop} {H0 H : Hp} {x0 : V} {a b : Addr} {n : Int} {xs : List Int} {E : Ends} (oh : ∀ a, O a -> H0 a ≠ none) (fa : H0 a = none) (fb : H0 b = none) (hb : H b = some (.tup (xs.map V.int))) (po : Pot a H0 H)
  (k : ∀ v H', Same H0 H' -> CallOk false O H0 H' v (.tuple [.int n, tI xs]) -> E.rt v H') : tRet (tTup (zR (tVar 2) (zR (tVar 3) tNil))) E [some x0, some (.ref a), some (.int n), some (.ref b)] H := by
 have sm : Same H0 H := fun c o e => po c o e fun z => by rw [z, fa] at e; cases e
 refine ⟨_, rfl, _, rfl, by show 2 <= sizeLine; decide, fun t ht => ?_⟩
 have tb : b ≠ t := fun z => by rw [<- z, hb] at ht; cases ht
 have t0 : H0 t = none := by
  cases e : H0 t with
  | none => rfl
  | some o => rw [sm t o e] at ht; cases ht
 refine k _ _ (sm.trans (Same.new ht)) (.tup (.inl zU) (fun z => oh t z t0) (.cons (.int n) (.cons (.tup (.inl ?_) (fun z => oh b z fb) (uO xs)) .nil)))
 rw [zT tb]
 exact hb
theorem yZ4 {K : KFr} {A B C : Int} {Fc : List D -> Res D} {O : Addr -> Prop} {H0 : Hp} {x0 : V} {d0 : D} {p : Int} {E : Ends} (hA : 0 < A) (hA2 : A <= 60) (hB : 0 <= B) (hB2 : B <= 60) (hC : 0 < C) (hC2 : C <= 60) (oh : ∀ a, O a -> H0 a ≠ none) (r0 : Rep H0 O x0 d0) (hc : Fc [d0, .int 0] = .ok (.int p))
  (k : ∀ v H', Same H0 H' -> CallOk false O H0 H' v (grD A B C p) -> E.rt v H') : tGr K A B C Fc E [some x0, none, none, none] H0 := by
 have e0 := Int.emod_nonneg p (Int.ne_of_gt hA)
 have e1 := Int.emod_lt_of_pos p hA
 obtain ⟨n, hn⟩ : ∃ n : Nat, 1 + p % A = (n : Int) := ⟨(1 + p % A).toNat, by bv_omega⟩
 have n2 : n <= 1000 := by bv_omega
 refine ⟨_, rfl, [d0, .int 0], O, oh, .cons r0 (.cons (.int 0) .nil), ?_⟩
 rw [hc]
 intro v H1 s1 cv
 cases cv
 refine ⟨by show 1 <= sizeLine; decide, fun a ha => ?_⟩
 have fa : H0 a = none := s1.free ha
 have po1 : Pot a H0 (upd H1 a (.lst [.int p])) := fun b o e n => by rw [zT n]; exact s1 b o e
 suffices h : tGrT K B C E [some x0, some (.ref a), some (.int (n : Int)), none] (upd H1 a (.lst [.int (p / A)])) by
  rw [<- hn] at h
  refine ⟨_, rfl, a, p, A, rfl, zU, DivOk.small hA (by bv_omega), _, _, rfl, rfl, ?_⟩
  rw [zT4]
  exact h
 have po2 : Pot a H0 (upd H1 a (.lst [.int (p / A)])) := fun b o e n => by rw [zT n]; exact s1 b o e
 refine ⟨_, rfl, _, rfl, a, p / A, n, rfl, zU, n2, fun b H2 fb hb hp po => ?_⟩
 have fb0 : H0 b = none := by
  cases e : H0 b with
  | none => rfl
  | some o =>
   have ba : b ≠ a := fun z => by rw [z, fa] at e; cases e
   rw [po2 b o e ba] at fb; cases fb
 have po3 := po2.trans po
 have ba : b ≠ a := fun z => by rw [z, hp] at hb; cases hb
 have ev : ∀ x : Int, V.bl (if false = true then !PyData.eqv (.int x) (.int 5) else PyData.eqv (.int x) (.int 5)) = .bl (decide (x = 5)) := fun x => by rw [if_neg (by decide), gR]
 refine ⟨_, rfl, a, _, 8, rfl, hp, DivOk.small (by decide) (by decide), .int _, .int 5, .int _, .int _, rfl, rfl, _, ev _, ?_⟩
 have po4 := po3.trans (Pot.upd (o := .lst [.int (pwD ((n : Int) + 1) (p / A) n / 8)]))
 have hb4 : (upd H2 a (.lst [.int (pwD ((n : Int) + 1) (p / A) n / 8)])) b = some (.tup ((digD ((n : Int) + 1) (p / A) n).map V.int)) := by rw [zT ba]; exact hb
 by_cases q : pwD ((n : Int) + 1) (p / A) n % 8 = 5
 ·have gd : grD A B C p = .tuple [.int B, tI (digD C (pwD ((n : Int) + 1) (p / A) n / 8) B.toNat)] := by
   unfold grD
   rw [hn, Int.toNat_natCast, if_pos q]
  rw [gd] at k
  rw [decide_eq_true q]
  simp only [if_true]
  obtain ⟨m, hm⟩ : ∃ m : Nat, B = (m : Int) := ⟨B.toNat, by bv_omega⟩
  subst hm
  rw [Int.toNat_natCast] at k
  show tCB (rTup K) (zR (tComp (iRng1 (zR (tVar 2) tNil)) (fun _ _ _ _ => tTrue) (fun _ _ _ _ => tCall spTake [] E0 (zR (tVar 1) (zR (tC (.int C)) tNil))) [1]) tNil) [some x0, some (.ref a), some (.int (m : Int)), some (.ref b)] (upd H2 a (.lst [.int (pwD ((n : Int) + 1) (p / A) n / 8)])) fun v H' => tRet (tTup (zR (tVar 2) (zR (tVar 3) tNil))) E [some x0, some (.ref a), some (.int (m : Int)), some v] H'
  refine aL (K := K) (σ := [some x0, some (.ref a), some (.int (m : Int)), some (.ref b)]) (js := [1]) (m := C) (n := m) zU (by bv_omega) (fun H' R r => ⟨_, rfl, (m : Int), rfl, by bv_omega, by bv_omega, by rw [Int.toNat_natCast]; exact r⟩) (fun C' fp s₂ H₂ i q H' Q' h' k' => ⟨_, rfl, a, q, C, rfl, h', DivOk.small hC (by bv_omega), k'⟩) fun b' H3 fb' hb' hp' po' => ?_
  have fb0' : H0 b' = none := by
   cases e : H0 b' with
   | none => rfl
   | some o =>
    have ba' : b' ≠ a := fun z => by rw [z, fa] at e; cases e
    rw [po4 b' o e ba'] at fb'; cases fb'
  exact zJ1 oh fa fb0' hb' (po4.trans po') k
 ·have gd : grD A B C p = .tuple [.int (n : Int), tI (digD ((n : Int) + 1) (p / A) n)] := by
   unfold grD
   rw [hn, Int.toNat_natCast, if_neg q]
  rw [gd] at k
  rw [decide_eq_false q]
  simp only [Bool.false_eq_true, if_false]
  exact zJ1 oh fa fb0 hb4 po4 k
theorem zK3 {A B C : Int} {Fc : List D -> Res D} {ds : List D} {Q : D -> Prop} {R : Str -> Prop} (h : (grF A B C Fc ds).post Q R) : ∃ d p, ds = [d] /\ Fc [d, .int 0] = .ok (.int p) /\ Q (grD A B C p) := by
 unfold grF at h
 split at h
 ·split at h
  ·rename_i d _ p e
   exact ⟨d, p, rfl, e, h⟩
  ·exact h.elim
 ·exact h.elim
section
variable {P : Program} {w : World} {K : KFr} {mg : Str -> Option Value} {base : Heap}
theorem yK7 (A B C : Int) (Fc : List D -> Res D) (hA : 0 < A /\ A <= 60) (hB : 0 <= B /\ B <= 60) (hC : 0 < C /\ C <= 60) {x : Str} {st : Stmt} {f : Addr} {fd : FuncData} {N ps : List Str} {k : Nat} (F : Fun K x x st f fd) (S : zH N ps (zP st)) (hp : ps.length = 1) (hN : N.length = 4)
  (hbody : ∀ (cdv : Value) (A' : Around) (outer : List Env) (s : Shared) (H : Hp) (E : XK), Room k (A'.deeper (envOfC x (zP st) s.heap.objs.size f cdv)) -> PSs (cxOf CX0 P w K mg base N x (zP st) f cdv A' outer s H E).nox (defBody st) (tGr K A B C Fc)) :
  FnOk P w K mg base CX0 (k + 1) f fd ps (spF false (grF A B C Fc)) := by
 refine F.ok S (fun vs H Q E ⟨ds, O, oh, r, q⟩ => ?_) fun cdv A' outer s H vs Q E hr h => ?_
 ·obtain ⟨d, p, rfl, _⟩ := zK3 q
  rw [r.length, hp]
  rfl
 ·obtain ⟨ds, O, oh, r, q⟩ := h
  obtain ⟨d, p, rfl, hc, q⟩ := zK3 q
  refine ⟨_, hbody cdv A' outer s H E hr, ?_⟩
  cases r with
  | @cons v _ _ _ r1 r2 =>
   cases r2
   have st : start N [v] = [some v, none, none, none] := by
    unfold start
    rw [hN]
    rfl
   rw [st]
   exact yZ4 hA.1 hA.2 hB.1 hB.2 hC.1 hC.2 oh r1 hc q
end
theorem zR1 (x : Int) (ns : List Int) : inV (.int x) (ns.map V.int) = ns.contains x := by
 unfold inV
 rw [List.any_map, List.contains_eq_any_beq]
 refine congrArg (fun f => ns.any f) (funext fun y => ?_)
 show eqV (.int y) (.int x) = (x == y)
 unfold eqV
 rw [Bool.eq_iff_iff]
 simp
 exact eq_comm
theorem cD (ns : List Int) : (ns.map V.int).all flatV = true := by
 rw [List.all_map]
 exact List.all_eq_true.mpr fun _ _ => rfl
def clN (n : Nat) (bs : List Int) : List Int := ((List.range n).filter fun (i : Nat) => !bs.contains (i : Int)).map fun (i : Nat) => (i : Int)
theorem zY2 (i : Nat) (bs : List Int) : clN (i + 1) bs = clN i bs ++ (if bs.contains (i : Int) then [] else [(i : Int)]) := by
 unfold clN
 rw [List.range_succ, List.filter_append, List.map_append]
 congr 1
 cases h : bs.contains (i : Int) <;> simp only [List.filter_cons, List.filter_nil, h, Bool.not_true, Bool.not_false, if_true, if_false, Bool.false_eq_true, List.map_cons, List.map_nil]
theorem zS2 (n : Nat) (bs : List Int) : (clN n bs).length <= n := by
 unfold clN
 rw [List.length_map]
 exact Nat.le_trans (List.length_filter_le _ _) (by rw [List.length_range]; exact Nat.le_refl n)
theorem zL4 : ∀ (xs l : List Int), xs.Nodup -> (∀ x ∈ xs, x ∈ l) -> xs.length <= l.length
 | [], _, _, _ => Nat.zero_le _
 | x :: xs, l, nd, h => by
  have hx := h x (List.mem_cons_self ..)
  have := zL4 xs (l.erase x) (List.nodup_cons.mp nd).2 fun y hy => (List.mem_erase_of_ne (fun z : y = x => (List.nodup_cons.mp nd).1 (by rw [<- z]; exact hy))).mpr (h y (List.mem_cons_of_mem _ hy))
  rw [List.length_erase_of_mem hx] at this
  have := List.length_pos_of_mem hx
  rw [List.length_cons]
  bv_omega
theorem zU1 (n : Nat) (bs : List Int) (h : bs.length < n) : 0 < (clN n bs).length := by
 rcases Nat.eq_zero_or_pos (clN n bs).length with z | z
 ·exfalso
  have all : ∀ i, i < n -> (i : Int) ∈ bs := fun i hi => by
   have e := List.length_eq_zero_iff.mp z
   unfold clN at e
   rw [List.map_eq_nil_iff, List.filter_eq_nil_iff] at e
   have := e i (List.mem_range.mpr hi)
   simpa using this
  have nd : ((List.range n).map fun (i : Nat) => (i : Int)).Nodup := List.Pairwise.map (fun (i : Nat) => (i : Int)) (fun a b h e => h (Int.ofNat.inj e)) List.nodup_range
  have := zL4 _ bs nd (fun x hx => by
   obtain ⟨i, hi, rfl⟩ := List.mem_map.mp hx
   exact all i (List.mem_range.mp hi))
  rw [List.length_map, List.length_range] at this
  bv_omega
 ·exact z
def runG (g : Nat -> Int -> D × Int) : Nat -> Int -> List D × Int
 | 0, p => ([], p)
 | k + 1, p => ((runG g k p).1 ++ [(g k (runG g k p).2).1], (g k (runG g k p).2).2)
def trG (n : Nat) (thin : Bool) : Nat -> List Int -> List Int -> Int -> D × Int
 | 0, _, _, p => (.none, p)
 | l + 1, bs, ns, p =>
  if thin = true /\ p % 4 = 3 then (.none, p / 4)
  else (fun (p1 : Int) => (fun (b : Int) => (fun r : List D × Int => (PyData.tuple [.int b, .tuple r.1], r.2))
   (runG (fun i q => if ns.contains (i : Int) then (.none, q) else trG n thin l (bs ++ [b]) (ns ++ [(i : Int)]) q) n (p1 / ((clN n bs).length : Int))))
   ((clN n bs).getD (p1 % ((clN n bs).length : Int)).toNat 0)) (if thin = true then p / 4 else p)
def nxG (n : Nat) (thin : Bool) (l : Nat) (bs ns : List Int) (b : Int) : Nat -> Int -> D × Int := fun i q => if ns.contains (i : Int) then (.none, q) else trG n thin l (bs ++ [b]) (ns ++ [(i : Int)]) q
theorem zV4 {n l : Nat} {thin : Bool} {bs ns : List Int} {p : Int} (h : thin = true /\ p % 4 = 3) : trG n thin (l + 1) bs ns p = (.none, p / 4) := by rw [trG, if_pos h]
theorem aR {n l : Nat} {thin : Bool} {bs ns : List Int} {p p1 b : Int} (h : ¬ (thin = true /\ p % 4 = 3)) (e1 : (if thin = true then p / 4 else p) = p1) (e2 : (clN n bs).getD (p1 % ((clN n bs).length : Int)).toNat 0 = b) :
  trG n thin (l + 1) bs ns p = (.tuple [.int b, .tuple (runG (nxG n thin l bs ns b) n (p1 / ((clN n bs).length : Int))).1], (runG (nxG n thin l bs ns b) n (p1 / ((clN n bs).length : Int))).2) := by
 subst e1 e2
 rw [trG, if_neg h]
 rfl
def spTree (k : Nat) : Sp := fun vs H Q _ => ∃ (O : Addr -> Prop) (a ab an : Addr) (p : Int) (n l : Nat) (bs ns : List Int) (thin : Bool), (∀ x, O x -> H x ≠ none) /\ O a /\ H a = some (.lst [.int p]) /\ vs = [.ref a, .int (n : Int), .int (l : Int), .ref ab, .ref an, .bl thin] /\
 Rd H ab (.lst (bs.map V.int)) /\ ab ≠ a /\ Rd H an (.lst (ns.map V.int)) /\ an ≠ a /\ l < k /\ n <= 100 /\ bs.length + l <= n /\ ns.length + l <= 200 /\
 ∀ v H', Pot a H H' -> H' a = some (.lst [.int (trG n thin l bs ns p).2]) -> Rep H' O v (trG n thin l bs ns p).1 -> Q v H'
def rSub : R2 := rI0 fun i j => .int (i - j)
def tAppV (K : KFr) (i : Nat) (t : TE) : TS := tDrop (tBM K "list" rAppend (tVar i) (zR t tNil))
def tTrF (K : KFr) (sp : Sp) : TS := tFor (iRng1 (zR (tVar 1) tNil)) (gName 9) (tIfS (tTest (tOp (rIn K false) (tVar 9) (tVar 4))) (tAppV K 8 (tC .non))
 (tAppV K 8 (tCall sp [] E0 (zR (tVar 0) (zR (tVar 1) (zR (tOp rSub (tVar 2) (tC (.int 1))) (zR (tOp rCatR (tVar 3) (tLst (zR (tVar 7) tNil))) (zR (tOp rCatR (tVar 4) (tLst (zR (tVar 9) tNil))) (zR (tVar 5) tNil)))))))))
def tTrE (K : KFr) : TS := tRet (tTup (zR (tVar 7) (zR (tCB (rTup K) (zR (tVar 8) tNil)) tNil)))
def tTrS (K : KFr) (sp : Sp) : TS :=
 tSeq (tAsg (tOp (rIxL K) (tVar 6) (tCall spTake [] E0 (zR (tVar 0) (zR (tCB (rLnS K) (zR (tVar 6) tNil)) tNil)))) (gName 7))
 (tSeq (tAsg (tLst tNil) (gName 8)) (tSeq (tTrF K sp) (tTrE K)))
def tTrR (K : KFr) (sp : Sp) : TS :=
 tSeq (tAsg (tComp (iRng1 (zR (tVar 1) tNil)) (fun _ _ _ _ => tTest (tOp (rIn K true) (tVar 0) (tVar 1))) (fun _ _ _ _ => tVar 0) [3]) (gName 6)) (tTrS K sp)
def tTr (K : KFr) (sp : Sp) : TS :=
 tSeq (tIfS (tOr (tTest (tOp (rEqD K false) (tVar 2) (tC (.int 0)))) (tAnd (tB (tVar 5)) (tTest (tOp (rEqD K false) (tCall spTake [] E0 (zR (tVar 0) (zR (tC (.int 4)) tNil))) (tC (.int 3)))))) (tRet (tC .non)) tNext) (tTrR K sp)
theorem evI (x y : Int) : V.bl (if false = true then !PyData.eqv (.int x) (.int y) else PyData.eqv (.int x) (.int y)) = .bl (decide (x = y)) := by rw [if_neg (by decide), gR]
theorem bA {a b : Addr} {u : HO} {H H' : Hp} (r : Rd H b u) (po : Pot a H H') (n : b ≠ a) : Rd H' b u := xJ r fun o e => po b o e n
theorem Pot.none {a b : Addr} {H H' : Hp} (po : Pot a H H') (n : b ≠ a) (h : H' b = none) : H b = none := by
 cases e : H b with
 | none => rfl
 | some o => rw [po b o e n] at h; cases h
theorem zE1 {K : KFr} {O : Addr -> Prop} {H0 H : Hp} {a la : Addr} {v1 v2 v3 v4 v5 v6 v9 : Option V} {b q : Int} {vs : List V} {ds : List D} {E : Ends} (oh : ∀ x, O x -> H0 x ≠ none) (po : Pot a H0 H) (ha : H a = some (.lst [.int q])) (fl : H0 la = none) (al : la ≠ a) (hl : H la = some (.lst vs)) (rs : Reps H (fun x => O x \/ x = la) vs ds)
  (k : ∀ v H', Pot a H0 H' -> H' a = some (.lst [.int q]) -> Rep H' O v (.tuple [.int b, .tuple ds]) -> E.rt v H') : tTrE K E [some (.ref a), v1, v2, v3, v4, v5, v6, some (.int b), some (.ref la), v9] H := by
 refine ⟨_, rfl, _, rfl, la, _, rfl, .inl ⟨SqL.of hl, fun t ht => ⟨by show 2 <= sizeLine; decide, fun r hr => ?_⟩⟩⟩
 have ta : t ≠ a := fun z => by rw [z, ha] at ht; cases ht
 have tr : t ≠ r := fun z => by rw [<- z, zU] at hr; cases hr
 have hr1 : H r = none := by rw [zT (fun z => tr z.symm)] at hr; exact hr
 have ra : r ≠ a := fun z => by rw [z, ha] at hr1; cases hr1
 have po1 := (po.new (o := .tup vs) ht).new (o := .tup [.int b, .ref t]) hr
 refine k _ _ po1 ?_ (.tup (.inl zU) (fun z => oh r z (po.none ra hr1)) (.cons (.int b) (.cons (.tup (xs := vs) (.inl ?_) (fun z => oh t z (po.none ta ht)) ?_) .nil)))
 ·rw [zT (fun z => ra z.symm), zT (fun z => ta z.symm)]
  exact ha
 ·rw [zT tr]
  exact zU
 ·refine rs.keep (fun x o e _ => ?_) fun x _ z => .inl z
  have xt : x ≠ t := fun z => by rw [z, ht] at e; cases e
  have xr : x ≠ r := fun z => by rw [z, hr1] at e; cases e
  rw [zT xr, zT xt]
  exact e
theorem zE6 {K : KFr} {k n l : Nat} {thin : Bool} {bs ns : List Int} {b p2 : Int} {O : Addr -> Prop} {H0 : Hp} {a ab an ac la : Addr} {E : Ends} (oh : ∀ x, O x -> H0 x ≠ none) (oa : O a) (rb : Rd H0 ab (.lst (bs.map V.int))) (nb : ab ≠ a) (rn : Rd H0 an (.lst (ns.map V.int))) (nn : an ≠ a) (fl : H0 la = none) (al : la ≠ a) (hk : l < k) (hn : n <= 100) (hb : (bs ++ [b]).length + l <= n) (hs : ns.length + (l + 1) <= 200)
  (kk : ∀ v9 vs H, Pot a H0 H -> H a = some (.lst [.int (runG (nxG n thin l bs ns b) n p2).2]) -> H la = some (.lst vs) -> Reps H (fun x => O x \/ x = la) vs (runG (nxG n thin l bs ns b) n p2).1 ->
   E.nx [some (.ref a), some (.int (n : Int)), some (.int ((l + 1 : Nat) : Int)), some (.ref ab), some (.ref an), some (.bl thin), some (.ref ac), some (.int b), some (.ref la), v9] H)
  {H : Hp} (po : Pot a H0 H) (ha : H a = some (.lst [.int p2])) (hl : H la = some (.lst [])) :
  tTrF K (spTree k) E [some (.ref a), some (.int (n : Int)), some (.int ((l + 1 : Nat) : Int)), some (.ref ab), some (.ref an), some (.bl thin), some (.ref ac), some (.int b), some (.ref la), none] H := by
 refine ⟨_, rfl, (n : Int), rfl, by bv_omega, by bv_omega, ?_⟩
 rw [Int.toNat_natCast]
 have keepL : ∀ {H' : Hp} {o : HO}, Pot a H0 H' -> Pot a H0 (upd H' la o) := fun {H' o} h c u e n => by
  rw [zT (fun z => by rw [z, fl] at e; cases e)]
  exact h c u e n
 refine bX (fun i σ H => ∃ v9 vs, σ = [some (.ref a), some (.int (n : Int)), some (.int ((l + 1 : Nat) : Int)), some (.ref ab), some (.ref an), some (.bl thin), some (.ref ac), some (.int b), some (.ref la), v9] /\ Pot a H0 H /\ H a = some (.lst [.int (runG (nxG n thin l bs ns b) i p2).2]) /\ H la = some (.lst vs) /\ vs.length = i /\ Reps H (fun x => O x \/ x = la) vs (runG (nxG n thin l bs ns b) i p2).1) ⟨none, [], rfl, po, ha, hl, rfl, .nil⟩ ?_ ?_
 ·clear po ha hl H
  rintro i σ H hi ⟨v9, vs, rfl, po, ha, hl, lv, rs⟩
  rw [Int.zero_add]
  have rn' := bA rn po nn
  have rb' := bA rb po nb
  have fin : ∀ {H' : Hp} {v : V} {d : D} {q : Int}, Pot a H0 H' -> H' a = some (.lst [.int q]) -> H' la = some (.lst vs) -> Reps H' (fun x => O x \/ x = la) vs (runG (nxG n thin l bs ns b) i p2).1 -> Rep H' (fun x => O x \/ x = la) v d -> nxG n thin l bs ns b i (runG (nxG n thin l bs ns b) i p2).2 = (d, q) ->
    ∃ v9 vs', [some (V.ref a), some (.int (n : Int)), some (.int ((l + 1 : Nat) : Int)), some (.ref ab), some (.ref an), some (.bl thin), some (.ref ac), some (.int b), some (.ref la), some (.int (i : Int))] = [some (.ref a), some (.int (n : Int)), some (.int ((l + 1 : Nat) : Int)), some (.ref ab), some (.ref an), some (.bl thin), some (.ref ac), some (.int b), some (.ref la), v9] /\ Pot a H0 (upd H' la (.lst (vs ++ [v]))) /\ (upd H' la (.lst (vs ++ [v]))) a = some (.lst [.int (runG (nxG n thin l bs ns b) (i + 1) p2).2]) /\ (upd H' la (.lst (vs ++ [v]))) la = some (.lst vs') /\ vs'.length = i + 1 /\ Reps (upd H' la (.lst (vs ++ [v]))) (fun x => O x \/ x = la) vs' (runG (nxG n thin l bs ns b) (i + 1) p2).1 := by
   intro H' v d q po' ha' hl' rs' rv e
   have kp : ∀ c o, H' c = some o -> ¬ (O c \/ c = la) -> (upd H' la (.lst (vs ++ [v]))) c = some o := fun c o e n => by rw [zT (fun z => n (.inr z))]; exact e
   refine ⟨_, vs ++ [v], rfl, keepL po', ?_, zU, by rw [List.length_append, lv]; rfl, ?_⟩
   ·rw [zT (fun z => al z.symm), ha', runG, e]
   ·rw [runG, e]
    exact (rs'.keep kp fun _ _ z => z).append (.one (rv.keep kp fun _ _ z => z))
  refine ⟨_, rfl, _, rfl, an, _, rfl, .inl (.inl rn'), rfl, cD ns, _, rfl, ?_⟩
  rw [zR1]
  simp only [Bool.false_eq_true, if_false]
  by_cases c : ns.contains (i : Int) = true
  ·rw [c]
   simp only [if_true]
   refine ⟨_, rfl, .inl ⟨rfl, _, SqL.of hl⟩, la, vs, .non, rfl, rfl, hl, by rw [lv]; exact small1000 (by bv_omega), ?_⟩
   exact fin po ha hl rs .non (by unfold nxG; rw [if_pos c])
  ·rw [Bool.not_eq_true] at c
   rw [c]
   simp only [Bool.false_eq_true, if_false]
   refine ⟨_, rfl, .inl ⟨rfl, _, SqL.of hl⟩, _, rfl, _, rfl, _, rfl, _, _, rfl, rfl, _, rfl, _, rfl, by show 1 <= sizeLine; decide, fun t1 h1 => ?_⟩
   have S1 := Same.new (H := H) (o := .lst [.int b]) h1
   refine ⟨ab, t1, bs.map V.int, [.int b], rfl, rfl, xJ rb' fun o e => S1 _ o e, .inl zU, by rw [List.length_map]; exact Nat.le_of_lt (small1000 (by simp at hb ⊢; bv_omega)), fun q1 h1' => ?_⟩
   have S2 := Same.new (o := .lst (bs.map V.int ++ [.int b])) h1'
   refine ⟨_, rfl, _, rfl, by show 1 <= sizeLine; decide, fun t2 h2 => ?_⟩
   have S3 := Same.new (o := .lst [.int (i : Int)]) h2
   have S123 := (S1.trans S2).trans S3
   refine ⟨an, t2, ns.map V.int, [.int (i : Int)], rfl, rfl, xJ rn' fun o e => S123 _ o e, .inl zU, by rw [List.length_map]; exact Nat.le_of_lt (small1000 (by simp; bv_omega)), fun q2 h2' => ⟨_, rfl, ?_⟩⟩
   have S4 := Same.new (o := .lst (ns.map V.int ++ [.int (i : Int)])) h2'
   have S := S123.trans S4
   have qa : q1 ≠ a := fun z => by rw [z, S1 _ _ ha] at h1'; cases h1'
   have qa2 : q2 ≠ a := fun z => by rw [z, S123 _ _ ha] at h2'; cases h2'
   refine ⟨fun x => O x \/ x = la, a, q1, q2, _, n, l, bs ++ [b], ns ++ [(i : Int)], thin, ?_, .inl oa, S _ _ ha, ?_, .inl ?_, qa, .inl ?_, qa2, hk, hn, hb, by simp; bv_omega, fun v H' po' ha' rv => ?_⟩
   ·intro x hx
    rcases hx with hx | hx
    ·by_cases z : x = a
     ·rw [z, S _ _ ha]; exact fun z => nomatch z
     ·cases e : H0 x with
      | none => exact absurd e (oh x hx)
      | some o => rw [S _ _ (po x o e z)]; exact fun z => nomatch z
    ·rw [hx, S _ _ hl]; exact fun z => nomatch z
   ·show [V.ref a, V.int (n : Int), V.int (((l + 1 : Nat) : Int) - 1), V.ref q1, V.ref q2, V.bl thin] = _
    rw [show ((l + 1 : Nat) : Int) - 1 = (l : Int) by bv_omega]
   ·rw [(S3.trans S4) _ _ (zU (H := upd H t1 (.lst [.int b])) (a := q1) (o := .lst (bs.map V.int ++ [.int b]))), List.map_append]; rfl
   ·rw [zU, List.map_append]; rfl
   ·have pH : Pot a H H' := fun c o e n => po' c o (S c o e) n
    have kp : ∀ c o, H c = some o -> ¬ (O c \/ c = la) -> H' c = some o := fun c o e n => pH c o e fun z => n (.inl (by rw [z]; exact oa))
    have hl' := pH la _ hl al
    refine ⟨la, vs, v, rfl, rfl, hl', by rw [lv]; exact small1000 (by bv_omega), ?_⟩
    exact fin (po.trans pH) ha' hl' (rs.keep kp fun _ _ z => z) rv (by unfold nxG; rw [c, if_neg Bool.false_ne_true])
 ·rintro σ H ⟨v9, vs, rfl, po, ha, hl, _, rs⟩
  exact kk v9 vs H po ha hl rs
theorem aT {K : KFr} {k n l : Nat} {thin : Bool} {bs ns : List Int} {b p1 : Int} {O : Addr -> Prop} {H0 : Hp} {a ab an : Addr} {E : Ends} (oh : ∀ x, O x -> H0 x ≠ none) (oa : O a) (rb : Rd H0 ab (.lst (bs.map V.int))) (nb : ab ≠ a) (rn : Rd H0 an (.lst (ns.map V.int))) (nn : an ≠ a) (hk : l < k) (hn : n <= 100) (hb : bs.length + (l + 1) <= n) (hs : ns.length + (l + 1) <= 200)
  (eb : (clN n bs).getD (p1 % ((clN n bs).length : Int)).toNat 0 = b)
  (kk : ∀ v H', Pot a H0 H' -> H' a = some (.lst [.int (runG (nxG n thin l bs ns b) n (p1 / ((clN n bs).length : Int))).2]) -> Rep H' O v (.tuple [.int b, .tuple (runG (nxG n thin l bs ns b) n (p1 / ((clN n bs).length : Int))).1]) -> E.rt v H')
  {H : Hp} (po : Pot a H0 H) (ha : H a = some (.lst [.int p1])) :
  tTrR K (spTree k) E [some (.ref a), some (.int (n : Int)), some (.int ((l + 1 : Nat) : Int)), some (.ref ab), some (.ref an), some (.bl thin), none, none, none, none] H := by
 have rb' := bA rb po nb
 have lm : ((clN n bs).map V.int).length = (clN n bs).length := List.length_map ..
 have cp := zU1 n bs (by bv_omega)
 have cl := zS2 n bs
 refine ⟨_, rfl, (n : Int), rfl, by bv_omega, by bv_omega, ?_⟩
 rw [Int.toNat_natCast]
 intro C fp s₂ H₂
 refine jE (lo := 0) (n := n) (tt := tTest (tOp (rIn K true) (tVar 0) (tVar 1))) (te := tVar 0) (js := [3]) (σ := [some (.ref a), some (.int (n : Int)), some (.int ((l + 1 : Nat) : Int)), some (.ref ab), some (.ref an), some (.bl thin), none, none, none, none]) (Q := fun v H' => tTrS K (spTree k) E [some (.ref a), some (.int (n : Int)), some (.int ((l + 1 : Nat) : Int)), some (.ref ab), some (.ref an), some (.bl thin), some v, none, none, none] H') (fun i acc H' => acc = (clN i bs).map V.int /\ H' = H) ⟨rfl, rfl⟩ ?_ ?_
 ·rintro i acc H' hi ⟨rfl, rfl⟩
  refine ⟨_, rfl, _, rfl, ab, _, rfl, .inl (.inl rb'), rfl, cD bs, _, rfl, ?_⟩
  rw [zR1, Int.zero_add]
  simp only [if_true]
  cases c : bs.contains (i : Int) with
  | false =>
   simp only [Bool.not_false, if_true]
   refine ⟨_, rfl, by rw [List.length_map]; exact small1000 (by have := zS2 i bs; bv_omega), ?_, rfl⟩
   rw [zY2, c, if_neg Bool.false_ne_true, List.map_append]
   rfl
  | true =>
   simp only [Bool.not_true, Bool.false_eq_true, if_false]
   refine ⟨?_, trivial⟩
   rw [zY2, c, if_pos rfl, List.append_nil]
 ·rintro acc H' ⟨rfl, rfl⟩ ac hac
  have aca : ac ≠ a := fun z => by rw [z, ha] at hac; cases hac
  have h0 := Int.emod_nonneg p1 (show ((clN n bs).length : Int) ≠ 0 by bv_omega)
  have h1 := Int.emod_lt_of_pos p1 (show (0 : Int) < ((clN n bs).length : Int) by bv_omega)
  refine ⟨_, rfl, _, rfl, _, rfl, ac, _, rfl, .inl (SqL.of zU), a, p1, _, rfl, by rw [zT (fun z => aca z.symm)]; exact ha, ?_⟩
  rw [lm]
  have at1 : atI ((clN n bs).map V.int) (p1 % ((clN n bs).length : Int)) = some (.int b) := by
   obtain ⟨j, hj⟩ : ∃ j : Nat, p1 % ((clN n bs).length : Int) = (j : Int) := ⟨(p1 % ((clN n bs).length : Int)).toNat, by bv_omega⟩
   rw [hj, Int.toNat_natCast] at eb
   rw [hj, uZ, vT (by bv_omega), eb]
   rfl
  refine ⟨DivOk.small (by bv_omega) (by bv_omega), ac, _, _, .int b, rfl, rfl, SqL.of (by rw [zT aca, zU]), at1, Nat.zero_le _, fun la hla => ?_⟩
  have la1 : la ≠ a := fun z => by rw [z, zU] at hla; cases hla
  have lac : la ≠ ac := fun z => by rw [z, zT aca, zU] at hla; cases hla
  have hla0 : H' la = none := by rw [zT la1, zT lac] at hla; exact hla
  refine zE6 (E := { E with nx := tTrE K E }) oh oa rb nb rn nn (po.none la1 hla0) la1 hk hn (by simp; bv_omega) hs (fun v9 vs H2 po2 ha2 hl2 rs2 => zE1 oh po2 ha2 (po.none la1 hla0) la1 hl2 rs2 kk) ?_ ?_ zU
  ·exact ((po.new hac).trans Pot.upd).new hla
  ·rw [zT (fun z => la1 z.symm), zU]
theorem zI4 {K : KFr} {k n l : Nat} {thin : Bool} {bs ns : List Int} {p : Int} {O : Addr -> Prop} {H : Hp} {a ab an : Addr} {E : Ends} (oh : ∀ x, O x -> H x ≠ none) (oa : O a) (ha : H a = some (.lst [.int p])) (rb : Rd H ab (.lst (bs.map V.int))) (nb : ab ≠ a) (rn : Rd H an (.lst (ns.map V.int))) (nn : an ≠ a) (hk : l < k + 1) (hn : n <= 100) (hb : bs.length + l <= n) (hs : ns.length + l <= 200)
  (kk : ∀ v H', Pot a H H' -> H' a = some (.lst [.int (trG n thin l bs ns p).2]) -> Rep H' O v (trG n thin l bs ns p).1 -> E.rt v H') :
  tTr K (spTree k) E [some (.ref a), some (.int (n : Int)), some (.int (l : Int)), some (.ref ab), some (.ref an), some (.bl thin), none, none, none, none] H := by
 refine ⟨_, rfl, .int _, .int 0, .int _, .int _, rfl, rfl, _, evI _ _, ?_⟩
 cases l with
 | zero =>
  rw [decide_eq_true (show ((0 : Nat) : Int) = 0 from rfl)]
  simp only [if_true]
  exact kk _ _ (Pot.refl a H) ha .non
 | succ l =>
  rw [decide_eq_false (show ¬ ((l + 1 : Nat) : Int) = 0 by bv_omega)]
  simp only [Bool.false_eq_true, if_false]
  refine ⟨_, rfl, thin, rfl, ?_⟩
  cases thin with
  | false =>
   simp only [Bool.false_eq_true, if_false]
   have e := aR (n := n) (l := l) (thin := false) (bs := bs) (ns := ns) (p := p) (fun z => Bool.false_ne_true z.1) rfl rfl
   rw [e] at kk
   exact aT oh oa rb nb rn nn (by bv_omega) hn hb hs rfl kk (Pot.refl a H) ha
  | true =>
   simp only [if_true]
   refine ⟨_, rfl, a, p, 4, rfl, ha, DivOk.small (by decide) (by decide), .int _, .int 3, .int _, .int _, rfl, rfl, _, evI _ _, ?_⟩
   by_cases q : p % 4 = 3
   ·rw [decide_eq_true q]
    simp only [if_true]
    rw [zV4 ⟨rfl, q⟩] at kk
    exact kk _ _ Pot.upd zU .non
   ·rw [decide_eq_false q]
    simp only [Bool.false_eq_true, if_false]
    have e := aR (n := n) (l := l) (thin := true) (bs := bs) (ns := ns) (p := p) (fun z => q z.2) rfl rfl
    rw [e] at kk
    exact aT oh oa rb nb rn nn (by bv_omega) hn hb hs rfl kk Pot.upd zU
section
variable {P : Program} {w : World} {K : KFr} {mg : Str -> Option Value} {base : Heap}
theorem yV5 {x : Str} {st : Stmt} {f : Addr} {fd : FuncData} {N ps : List Str} {j k : Nat} (F : Fun K x x st f fd) (S : zH N ps (zP st)) (hp : ps.length = 6) (hN : N.length = 10)
  (hbody : ∀ (cdv : Value) (A : Around) (outer : List Env) (s : Shared) (H : Hp) (E : XK), Room j (A.deeper (envOfC x (zP st) s.heap.objs.size f cdv)) -> PSs (cxOf CX0 P w K mg base N x (zP st) f cdv A outer s H E).nox (defBody st) (tTr K (spTree k))) :
  FnOk P w K mg base CX0 (j + 1) f fd ps (spTree (k + 1)) := by
 refine F.ok S (fun vs H Q E ⟨O, a, ab, an, p, n, l, bs, ns, thin, _, _, _, e, _⟩ => by rw [e, hp]; rfl) fun cdv A outer s H vs Q E hr h => ?_
 obtain ⟨O, a, ab, an, p, n, l, bs, ns, thin, oh, oa, ha, rfl, rb, nb, rn, nn, hk, hn, hb, hs, kk⟩ := h
 refine ⟨_, hbody cdv A outer s H E hr, ?_⟩
 have st : start N [V.ref a, .int (n : Int), .int (l : Int), .ref ab, .ref an, .bl thin] = [some (.ref a), some (.int (n : Int)), some (.int (l : Int)), some (.ref ab), some (.ref an), some (.bl thin), none, none, none, none] := by
  unfold start
  rw [hN]
  rfl
 rw [st]
 exact zI4 oh oa ha rb nb rn nn hk hn hb hs kk
end
def tr1 (n : Nat) (ops ms : List Int) (i : Nat) : D := (trG n (decide (ms.getD i 0 % 3 = 2)) (ops.getD i 0).toNat [] [(i : Int)] (ms.getD i 0 / 3)).1
def plD (n : Nat) (ops ms : List Int) : D := .tuple ((List.range n).map fun (i : Nat) => tr1 n ops ms i)
def plOk (n : Int) (ops ms : List Int) : Prop := 0 <= n /\ n <= 7 /\ ops.length = n.toNat /\ ms.length = n.toNat /\ ∀ o ∈ ops, 0 <= o /\ o <= n
open Classical in
def plF (Fs : List D -> Res D) : List D -> Res D
 | [d, .int n, .tuple es] => match intsOf es, Fs [d, .int 3, .int n] with
  | some ops, .ok (.list cs) => match intsOf cs with
   | some ms => if plOk n ops ms then .ok (plD n.toNat ops ms) else .no
   | _ => .no
  | _, _ => .no
 | _ => .no
theorem yP8 {Fs : List D -> Res D} {ds : List D} {c : Str} : plF Fs ds ≠ .ex c := by
 unfold plF
 split
 ·split
  ·split
   ·split <;> exact fun z => nomatch z
   ·exact fun z => nomatch z
  ·exact fun z => nomatch z
 ·exact fun z => nomatch z
theorem zN5 {Fs : List D -> Res D} {ds : List D} {Q : D -> Prop} {R : Str -> Prop} (h : (plF Fs ds).post Q R) : ∃ (d : D) (n : Nat) (ops ms : List Int), ds = [d, .int (n : Int), tI ops] /\ Fs [d, .int 3, .int (n : Int)] = .ok (lI ms) /\ n <= 7 /\ ops.length = n /\ ms.length = n /\ (∀ o ∈ ops, 0 <= o /\ o <= (n : Int)) /\ Q (plD n ops ms) := by
 unfold plF at h
 split at h
 ·split at h
  ·rename_i d n es _ _ ops cs e1 e
   split at h
   ·rename_i ms e2
    obtain rfl := wS e1
    obtain rfl := wS e2
    split at h
    ·rename_i c
     obtain ⟨c1, c2, c3, c4, c5⟩ := c
     obtain ⟨m, rfl⟩ : ∃ m : Nat, n = (m : Int) := ⟨n.toNat, by bv_omega⟩
     rw [Int.toNat_natCast] at c3 c4 h
     exact ⟨d, m, ops, ms, rfl, e, by bv_omega, c3, c4, c5, h⟩
    ·exact h.elim
   ·exact h.elim
  ·exact h.elim
 ·exact h.elim
theorem yP1 {Fs : List D -> Res D} {d : D} {n : Nat} {ops ms : List Int} (e : Fs [d, .int 3, .int (n : Int)] = .ok (lI ms)) (hn : n <= 7) (h1 : ops.length = n) (h2 : ms.length = n) (h3 : ∀ o ∈ ops, 0 <= o /\ o <= (n : Int)) : plF Fs [d, .int (n : Int), tI ops] = .ok (plD n ops ms) := by
 unfold plF tI
 simp only [intsOf_map, e, lI]
 rw [if_pos ⟨by bv_omega, by bv_omega, by rw [Int.toNat_natCast]; exact h1, by rw [Int.toNat_natCast]; exact h2, h3⟩, Int.toNat_natCast]
def tPlB (K : KFr) (k : Nat) : TS := tSeq (tAsg (tLst (zR (tOp (rIxL K) (tVar 4) (tVar 5)) tNil)) (gName 6)) (tSeq (tAsg (tOp (rEqD K false) (tCall spTake [] E0 (zR (tVar 6) (zR (tC (.int 3)) tNil))) (tC (.int 2))) (gName 7))
 (tAppV K 3 (tCall (spTree k) [] E0 (zR (tVar 6) (zR (tVar 1) (zR (tOp (rIxT K) (tVar 2) (tVar 5)) (zR (tLst tNil) (zR (tLst (zR (tVar 5) tNil)) (zR (tVar 7) tNil)))))))))
def tPl (K : KFr) (k : Nat) (Fs : List D -> Res D) : TS := tSeq (tAsg (tLst tNil) (gName 3)) (tSeq (tAsg (tCall (spF true Fs) [] E0 (zR (tVar 0) (zR (tC (.int 3)) (zR (tVar 1) tNil)))) (gName 4))
 (tSeq (tFor (iRng1 (zR (tVar 1) tNil)) (gName 5) (tPlB K k)) (tRet (tCB (rTup K) (zR (tVar 3) tNil)))))
theorem yU7 {K : KFr} {k : Nat} {Fs : List D -> Res D} {O : Addr -> Prop} {H0 : Hp} {x0 : V} {d0 : D} {ao : Addr} {n : Nat} {ops ms : List Int} {E : Ends} (oh : ∀ a, O a -> H0 a ≠ none) (r0 : Rep H0 O x0 d0) (ro : Rd H0 ao (.tup (ops.map V.int))) (hs : Fs [d0, .int 3, .int (n : Int)] = .ok (lI ms)) (hn : n <= 7) (hk : 8 <= k) (lo : ops.length = n) (lm : ms.length = n) (ho : ∀ o ∈ ops, 0 <= o /\ o <= (n : Int))
  (kk : ∀ v H', Same H0 H' -> CallOk false O H0 H' v (plD n ops ms) -> E.rt v H') : tPl K k Fs E [some x0, some (.int (n : Int)), some (.ref ao), none, none, none, none, none] H0 := by
 refine ⟨Nat.zero_le _, fun lt hlt => ?_⟩
 have S1 := Same.new (o := .lst []) hlt
 refine ⟨_, rfl, _, rfl, [d0, .int 3, .int (n : Int)], fun x => O x \/ x = lt, fun x hx => ?_, .cons (r0.keep (fun b o e _ => S1 b o e) fun b hb z => ?_) (.cons (.int 3) (.cons (.int (n : Int)) .nil)), ?_⟩
 ·rcases hx with hx | hx
  ·exact Same.ne S1 (oh x hx)
  ·rw [hx, zU]; exact fun z => nomatch z
 ·rcases z with z | z
  ·exact z
  ·exact absurd hlt (by rw [z] at hb; exact hb)
 rw [hs]
 rintro v H1 s1 ⟨lc, ys, ds, rfl, e, hlc, hlc1, rc⟩
 cases e
 obtain rfl := rc.ints
 have S01 : Same H0 H1 := S1.trans s1
 have hlt1 : H1 lt = some (.lst []) := s1 _ _ zU
 have ltc : lt ≠ lc := fun z => by rw [<- z, zU] at hlc; cases hlc
 have flc : H0 lc = none := by rw [zT (fun z => ltc z.symm)] at hlc; exact hlc
 refine ⟨_, rfl, (n : Int), rfl, by bv_omega, by bv_omega, ?_⟩
 rw [Int.toNat_natCast]
 refine bX (fun i σ H => ∃ v5 v6 v7 vs, σ = [some x0, some (.int (n : Int)), some (.ref ao), some (.ref lt), some (.ref lc), v5, v6, v7] /\ Same H0 H /\ H lc = some (.lst (ms.map V.int)) /\ H lt = some (.lst vs) /\ vs.length = i /\ Reps H (fun x => O x \/ x = lt) vs ((List.range i).map fun (i : Nat) => tr1 n ops ms i)) ⟨none, none, none, [], rfl, S01, hlc1, hlt1, rfl, .nil⟩ ?_ ?_
 ·rintro i σ H hi ⟨v5, v6, v7, vs, rfl, S, hc, hl, lv, rs⟩
  rw [Int.zero_add]
  have at1 : atI (ms.map V.int) (i : Int) = some (.int (ms.getD i 0)) := by rw [uZ, vT (by bv_omega)]; rfl
  have at2 : atI (ops.map V.int) (i : Int) = some (.int (ops.getD i 0)) := by rw [uZ, vT (by bv_omega)]; rfl
  have bo := ho (ops.getD i 0) (by rw [List.getD, List.getElem?_eq_getElem (by bv_omega), Option.getD_some]; exact List.getElem_mem _)
  refine ⟨_, rfl, _, rfl, lc, _, _, _, rfl, rfl, SqL.of hc, at1, by show 1 <= sizeLine; decide, fun a ha => ?_⟩
  have la : lt ≠ a := fun z => by rw [<- z, hl] at ha; cases ha
  have fa : H0 a = none := S.free ha
  refine ⟨_, rfl, a, _, 3, rfl, zU, DivOk.small (by decide) (by decide), .int _, .int 2, .int _, .int _, rfl, rfl, ?_⟩
  rw [evI, zT4]
  have Sa := Same.new (o := .lst [.int (ms.getD i 0 / 3)]) ha
  have hl1 : (upd H a (.lst [.int (ms.getD i 0 / 3)])) lt = some (.lst vs) := Sa _ _ hl
  refine ⟨_, rfl, .inl ⟨rfl, _, SqL.of hl1⟩, _, rfl, _, rfl, _, rfl, _, rfl, ao, _, _, _, rfl, rfl, .inl (xJ ro fun o e => Sa _ o (S _ o e)), at2, Nat.zero_le _, fun t1 h1 => ?_⟩
  have St1 := Same.new (o := .lst []) h1
  refine ⟨_, rfl, by show 1 <= sizeLine; decide, fun t2 h2 => ⟨_, rfl, ?_⟩⟩
  have St2 := Same.new (o := .lst [.int (i : Int)]) h2
  have Sn := St1.trans St2
  have SH := Sa.trans Sn
  have ta1 : t1 ≠ a := fun z => by rw [z, zU] at h1; cases h1
  have ta2 : t2 ≠ a := fun z => by rw [z, zT (fun z => ta1 z.symm), zU] at h2; cases h2
  refine ⟨fun x => O x \/ x = lt \/ x = a, a, t1, t2, ms.getD i 0 / 3, n, (ops.getD i 0).toNat, [], [(i : Int)], decide (ms.getD i 0 % 3 = 2), fun x hx => ?_, .inr (.inr rfl), Sn _ _ zU, by rw [Int.toNat_of_nonneg bo.1]; rfl, .inl (St2 _ _ zU), ta1, .inl zU, ta2, by bv_omega, by bv_omega, by show 0 + _ <= n; bv_omega, by show 1 + _ <= 200; bv_omega, fun v H' po hp rv => ?_⟩
  ·rcases hx with hx | hx | hx
   ·exact Same.ne SH (Same.ne S (oh x hx))
   ·rw [hx, Sn _ _ hl1]; exact fun z => nomatch z
   ·rw [hx, Sn _ _ zU]; exact fun z => nomatch z
  ·have pH : ∀ c o, H c = some o -> H' c = some o := fun c o e => po c o (SH c o e) fun z => by rw [z, ha] at e; cases e
   have hl' := pH _ _ hl
   refine ⟨lt, vs, v, rfl, rfl, hl', by rw [lv]; exact small1000 (by bv_omega), ?_⟩
   have kp : ∀ c o, H' c = some o -> ¬ (O c \/ c = lt) -> (upd H' lt (.lst (vs ++ [v]))) c = some o := fun c o e n => by rw [zT (fun z => n (.inr z))]; exact e
   refine ⟨_, _, _, vs ++ [v], rfl, fun c o e => ?_, ?_, zU, by rw [List.length_append, lv]; rfl, ?_⟩
   ·rw [zT (fun z => by rw [z, hlt] at e; cases e)]
    exact pH _ _ (S _ _ e)
   ·rw [zT (fun z => ltc z.symm)]
    exact pH _ _ hc
   ·rw [List.range_succ, List.map_append]
    refine ((rs.keep (fun c o e _ => pH c o e) fun _ _ z => z).keep kp fun _ _ z => z).append (.one ?_)
    exact (rv.less fun x hx => hx.elim .inl fun z => .inr (.inl z)).keep kp fun _ _ z => z
 ·rintro σ H ⟨v5, v6, v7, vs, rfl, S, hc, hl, _, rs⟩
  refine ⟨_, rfl, lt, _, rfl, .inl ⟨SqL.of hl, fun t ht => kk _ _ (S.trans (Same.new ht)) (.tup (xs := vs) (.inl zU) (fun z => oh t z (S.free ht)) ?_)⟩⟩
  refine rs.keep (fun c o e _ => ?_) fun _ _ z => .inl z
  rw [zT (fun z => by rw [z, ht] at e; cases e)]
  exact e
section
variable {P : Program} {w : World} {K : KFr} {mg : Str -> Option Value} {base : Heap}
theorem zA7 {f : Addr} {fd : FuncData} {ps : List Str} {k : Nat} : FnOk P w K mg base CX0 k f fd ps (spTree 0) := by
 have no : ∀ {vs : List V} {H : Hp} {Q : VK} {E : XK}, spTree 0 vs H Q E -> False := by
  rintro vs H Q E ⟨O, a, ab, an, p, n, l, bs, ns, thin, _, _, _, _, _, _, _, _, hl, _⟩
  bv_omega
 exact ⟨fun vs H Q E h => (no h).elim, fun A outer s H args us vs Q E hr e b v h => (no h).elim⟩
theorem yV8 (Fs : List D -> Res D) {x : Str} {st : Stmt} {f : Addr} {fd : FuncData} {N ps : List Str} {j k : Nat} (hk : 8 <= k) (F : Fun K x x st f fd) (S : zH N ps (zP st)) (hp : ps.length = 3) (hN : N.length = 8)
  (hbody : ∀ (cdv : Value) (A' : Around) (outer : List Env) (s : Shared) (H : Hp) (E : XK), Room j (A'.deeper (envOfC x (zP st) s.heap.objs.size f cdv)) -> PSs (cxOf CX0 P w K mg base N x (zP st) f cdv A' outer s H E).nox (defBody st) (tPl K k Fs)) :
  FnOk P w K mg base CX0 (j + 1) f fd ps (spF false (plF Fs)) := by
 refine F.ok S (fun vs H Q E ⟨ds, O, oh, r, q⟩ => ?_) fun cdv A' outer s H vs Q E hr h => ?_
 ·obtain ⟨d, n, ops, ms, rfl, _⟩ := zN5 q
  rw [r.length, hp]
  rfl
 ·obtain ⟨ds, O, oh, r, q⟩ := h
  obtain ⟨d, n, ops, ms, rfl, hc, hn, lo, lm, ho, q⟩ := zN5 q
  refine ⟨_, hbody cdv A' outer s H E hr, ?_⟩
  cases r with
  | @cons v _ _ _ r1 r2 =>
   cases r2 with
   | cons r2 r3 =>
    cases r2
    cases r3 with
    | cons r3 r4 =>
     cases r4
     cases r3 with
     | @tup a _ _ rd no rs =>
      obtain rfl := rs.ints
      have st : start N [v, V.int (n : Int), V.ref a] = [some v, some (.int (n : Int)), some (.ref a), none, none, none, none, none] := by
       unfold start
       rw [hN]
       rfl
      rw [st]
      exact yU7 oh r1 rd hc hn hk lo lm ho q
end
section
variable {P : Program} {w : World} {K : KFr} {mg : Str -> Option Value} {base : Heap} {CX : CXT} {k : Nat} {f : Addr} {fd : FuncData} {ps : List Str}
theorem zB6 {sp : Sp} (F : FnOk P w K mg base CX0 k f fd ps sp) : FnOk P w K mg base CX k f fd ps sp :=
 ⟨F.len, fun A outer s H args us vs Q E hr he hb hv hs => codeAny_mono (F.run A outer s H args us vs Q E hr he hb hv hs) fun r s' h => by
  cases r with
  | ok fl =>
   cases fl with
   | ret u => exact h
   | _ => exact h
  | error e => exact h.elim⟩
theorem zJ7 {F : List D -> Res D} {fr : Bool} (no : ∀ ds c, F ds ≠ .ex c) (G : FnOk P w K mg base CX0 k f fd ps (spF fr F)) : FnOk P w K mg base CX k f fd ps (spX fr F) :=
 (zB6 G).imp fun vs H Q E h => by
  obtain ⟨ds, O, oh, r, q⟩ := h
  refine ⟨ds, O, oh, r, ?_⟩
  cases e : F ds with
  | ok d => rw [e] at q; exact q
  | no => rw [e] at q; exact q
  | ex c => exact absurd e (no ds c)
end
structure LL (H0 H : Hp) (as : List Addr) (R : List (List Int)) : Prop where
 len : as.length = R.length
 nd : as.Nodup
 fr : ∀ b ∈ as, H0 b = none
 at' : ∀ (j : Nat) (b : Addr), as[j]? = some b -> H b = some (.lst ((R.getD j []).map V.int))
def rLstO (K : KFr) : List V -> Hp -> VK -> Prop := fun xs H Q => ∃ p ys, xs = [.ref p] /\ (SqL K H p ys \/ SqT K H p ys) /\ ∀ l, H l = none -> Q (.ref l) (upd H l (.lst ys))
def tPlus (a b : TE) : TE := tOp (rI0 fun i j => .int (i + j)) a b
def tMinus (a b : TE) : TE := tOp (rI0 fun i j => .int (i - j)) a b
def tNegI (i : Int) : TE := tUn (rU fun i => .int (-i)) (tC (.int i))
section
variable {P : Program} {w : World} {K : KFr} {mg : Str -> Option Value} {base : Heap}
end
end L2.L3
namespace HT
open PySem PyProof.Rows
abbrev tO (xs : Array Value) (n : Nat) (dd : Option Addr) (sl : Array (Option Value)) : Obj := { cls := .type "tuple", dict := dd, data := .seq xs n, slots := sl }
theorem yV9 : fillsNumberSlot (.type "tuple") "mul" = pure false := PyProof.Rows.fillsNumberSlot_seq PySem.F.slot_tuple_mul.lookup (by decide +kernel) PySem.F.slot_tuple_rmul.lookup (by decide +kernel)
theorem yS4 : seqRepeat? (.type "tuple") = pure (some (.builtin "tuple.__mul__")) := by
 unfold seqRepeat?
 have e1 : seqSlot? (.type "tuple") "__mul__" = pure (some (.builtin "tuple.__mul__")) := PyProof.Rows.seqSlot_of PySem.F.slot_tuple_mul.lookup (by decide +kernel)
 have e2 : seqSlot? (.type "tuple") "__rmul__" = pure (some (.builtin "tuple.__rmul__")) := PyProof.Rows.seqSlot_of PySem.F.slot_tuple_rmul.lookup (by decide +kernel)
 rw [e1, e2]
 rfl
theorem yW2 (k : Int) (u : Tok) (t : Addr) (xs : Array Value) (n : Nat) (dd : Option Addr) (sl : Array (Option Value)) : Meets (Builtin.«int.__rmul__» ⟨[.int k u, .ref t], []⟩) fun _ R z => z.heap.get? t = some (tO xs n dd sl) /\ R (.ok (.ret Value.notImplemented)) z := by
 refine .of_wp fun prog w A R z h => ?_
 obtain ⟨g1, g2, g3, g4, g5⟩ := z
 obtain ⟨ho, q⟩ := h
 wp_walk
 exact ⟨_, rfl, q⟩
theorem yP7 (u : Tok) (t : Addr) (xs : Array Value) (n : Nat) (dd : Option Addr) (sl : Array (Option Value)) : Meets (Builtin.«tuple.__mul__» ⟨[.ref t, .int 1 u], []⟩) fun _ R z => z.heap.get? t = some (tO xs n dd sl) /\ R (.ok (.ret (.ref t))) z := by
 refine .of_wp fun prog w A R z h => ?_
 obtain ⟨g1, g2, g3, g4, g5⟩ := z
 obtain ⟨ho, q⟩ := h
 wp_walk
 exact ⟨_, rfl, q⟩
theorem yX4 (v : Value) (m : Nat) (u : Tok) (t : Addr) (n : Nat) (dd : Option Addr) (sl : Array (Option Value)) (h2 : 2 <= m) (h6 : m <= 6) : Meets (Builtin.«tuple.__mul__» ⟨[.ref t, .int (m : Int) u], []⟩) fun _ R z => z.heap.get? t = some (tO #[v] n dd sl) /\ R (.ok (.ret (.ref z.heap.objs.size))) { z with heap := z.heap.push { cls := .type "tuple", data := .seq (List.replicate m v).toArray } } := by
 rcases (show m = 2 \/ m = 3 \/ m = 4 \/ m = 5 \/ m = 6 by bv_omega) with rfl | rfl | rfl | rfl | rfl <;>
 ·refine .of_wp fun prog w A R z h => ?_
  obtain ⟨g1, g2, g3, g4, g5⟩ := z
  obtain ⟨ho, q⟩ := h
  wp_walk
  exact ⟨_, rfl, q⟩
section
variable {prog : Program} {w : World} {A : Around} {E : Value -> Shared -> Prop} {s : Shared}
theorem zL6 {t : Addr} {v : Value} {m : Nat} {u : Tok} {Q : Value -> Shared -> Prop} (h1 : 1 <= m) (h6 : m <= 6) (ht : IsTup s.heap t #[v]) (q1 : m = 1 -> Q (.ref t) s)
  (q2 : 2 <= m -> Q (.ref s.heap.objs.size) { s with heap := s.heap.push { cls := .type "tuple", data := .seq (List.replicate m v).toArray } }) : wpAny (model prog w) A (binaryOp .Mult (.ref t) (.int (m : Int) u)) Q E s := by
 obtain ⟨⟨cls, dd, data, sl⟩, ho, hc, n, hd⟩ := id ht
 simp only at hc hd
 subst hc hd
 have ty : s.TypeIs (.ref t) "tuple" := ⟨_, ho, rfl⟩
 refine wpAny_binaryOp_repeat_ref (by decide) ty (fun z => typeIs_int z (m : Int) u) yV9 PySem.F.fills_int_mul PySem.F.slot_int_rmul yS4 PySem.F.slot_int_index.lookup ?_
 refine call_meets PySem.F.slot_int_rmul (typeIs_int s (m : Int) u) PySem.F.entry_int_rmul (PySem.F.args_int_rmul_2 _ _) (yW2 (m : Int) u t #[v] n dd sl) ⟨ho, rfl, ty, ?_⟩
 by_cases c : m = 1
 ·subst c
  refine call_meets PySem.F.slot_tuple_mul ty PySem.F.entry_tuple_mul (PySem.F.args_tuple_mul_2 _ _) (yP7 u t #[v] n dd sl) ?_
  exact ⟨ho, q1 rfl⟩
 ·refine call_meets PySem.F.slot_tuple_mul ty PySem.F.entry_tuple_mul (PySem.F.args_tuple_mul_2 _ _) (yX4 v m u t n dd sl (by bv_omega) h6) ?_
  exact ⟨ho, q2 (by bv_omega)⟩
end
end HT
namespace L2.L3
open PySem PySem.Spec PyProof.Rows MR
variable [CN]
def rRepT (K : KFr) : R2 := fun x y H Q => ∃ a m z, x = .ref a /\ y = .int ((m : Nat) : Int) /\ SqT K H a [z] /\ 1 <= m /\ m <= 6 /\ (m = 1 -> Q (.ref a) H) /\ (2 <= m -> ∀ p, H p = none -> Q (.ref p) (upd H p (.tup (List.replicate m z))))
theorem yZ2 {X : Cx} : OpR X (binaryOp .Mult) (rRepT X.K) := by
 intro pins s σ H x y v u Q I rx ry h
 obtain ⟨a, m, z, rfl, rfl, ha, h1, h6, q1, q2⟩ := h
 cases rx
 obtain ⟨t, rfl⟩ := ry
 obtain ⟨its, r1, p1, _⟩ := I.tuple ha
 cases r1 with
 | cons r0 r1 =>
  cases r1
  refine HT.zL6 h1 h6 p1 (fun c => ⟨.ref a, H, I, rfl, q1 c⟩) fun c => ?_
  refine ⟨.ref s.heap.objs.size, _, I.laid (t' := s.toks) (o := .tup (List.replicate m z)) (fun b ob q => Heap.get?_push_of_some _ q) (Nat.le_refl _) ?_, rfl, q2 c _ (I.hok.fresh (Nat.le_refl _))⟩
  have rv : ∀ m : Nat, Vals (List.replicate m z) (List.replicate m _) := fun m => by
   induction m with
   | zero => exact .nil
   | succ m ih => exact .cons r0 ih
  exact ⟨by rw [List.length_replicate]; exact Nat.le_of_lt (small1000 (by bv_omega)), _, rv m, TupAt.new _ _⟩
def sAt (n : Nat) (c : Int) : Nat := (c / 10 % (n : Int)).toNat
def sMm (n : Nat) (c : Int) : Nat := (c / 10 / (n : Int) % 4).toNat
def sP3 (n : Nat) (c : Int) : Int := c / 10 / (n : Int) / 4
def sWay (n : Nat) (c : Int) : List Int := digD (n : Int) (sP3 n c) (sMm n c)
def sP4 (n : Nat) (c : Int) : Int := pwD (n : Int) (sP3 n c) (sMm n c)
def sBox (n : Nat) (c : Int) : Int := sP4 n c % ((n : Int) + 2) - 1
def sP5 (n : Nat) (c : Int) : Int := sP4 n c / ((n : Int) + 2)
def sLeaf (n : Nat) (c : Int) : D := .tuple [.int (sBox n c), .tuple (List.replicate n .none)]
def sPick (n : Nat) (c : Int) : List Int := [-1, (n : Int) + 1, -1 - sBox n c * sBox n c, (n : Int) + 7]
def sOps (n : Nat) (c : Int) (ops : List Int) : List Int :=
 if c % 10 = 2 then ops.set (sAt n c) ((sPick n c).getD (sP5 n c % 4).toNat 0)
 else if c % 10 = 3 then (if sP5 n c % 2 = 0 then [] else ops ++ List.replicate (7 - n) 0)
 else ops.set (sAt n c) (if ops.getD (sAt n c) 0 - 1 > 0 then ops.getD (sAt n c) 0 - 1 else 0)
def sOth (n : Nat) (c : Int) : D -> Option D
 | .tuple [.int pb, .tuple ks] => if ks.length = n then (if c % 10 = 5 then some .none else if c % 10 = 6 then some (.tuple [.int (sBox n c), .tuple ks]) else if c % 10 = 7 then some (.tuple [.int pb, .tuple (if sP5 n c % 2 = 0 then ks.drop 1 else ks ++ [.none])]) else some (sLeaf n c)) else none
 | .none => if c % 10 = 5 then some .none else some (sLeaf n c)
 | _ => none
def spoG (Fp Fu : List D -> Res D) (ops : List Int) (ts : List D) (c : Int) : Res D :=
 match Fp [ts.getD (sAt ops.length c) .none, lI (sWay ops.length c)] with
 | .ok part =>
  if c % 10 = 0 then .ok (.tuple [tI ops, .list (ts.eraseIdx (sAt ops.length c))])
  else if c % 10 = 1 then .ok (.tuple [tI ops, .list (ts.take (sAt ops.length c) ++ .none :: ts.drop (sAt ops.length c))])
  else if c % 10 < 5 then .ok (.tuple [tI (sOps ops.length c ops), .list ts])
  else match sOth ops.length c part with
   | some x => match Fu [ts.getD (sAt ops.length c) .none, lI (sWay ops.length c), x] with
    | .ok d => .ok (.tuple [tI ops, .list (ts.set (sAt ops.length c) d)])
    | _ => .no
   | none => .no
 | _ => .no
structure SS (O : Addr -> Prop) (H0 : Hp) (a lo lt : Addr) (W : Addr -> Prop) (H : Hp) (p : Int) (os : List Int) (vs : List V) (ts : List D) : Prop where
 pot : H a = some (.lst [.int p])
 hlo : H lo = some (.lst (os.map V.int))
 hlt : H lt = some (.lst vs)
 rs : Reps H W vs ts
 sm : Pot a H0 H
 f1 : H0 lo = none
 f2 : H0 lt = none
 fa : H0 a ≠ none
 d3 : lo ≠ lt
 wO : ∀ b, O b -> W b
 wa : W a
 w1 : W lo
 w2 : W lt
 wh : ∀ b, W b -> H b ≠ none
section
variable {O : Addr -> Prop} {H0 : Hp} {a lo lt : Addr} {W : Addr -> Prop} {H H' : Hp} {p p' : Int} {os : List Int} {vs : List V} {ts : List D}
theorem SS.d1 (S : SS O H0 a lo lt W H p os vs ts) : lo ≠ a := fun z => S.fa (by rw [<- z]; exact S.f1)
theorem SS.d2 (S : SS O H0 a lo lt W H p os vs ts) : lt ≠ a := fun z => S.fa (by rw [<- z]; exact S.f2)
theorem SS.step (S : SS O H0 a lo lt W H p os vs ts) (po : Pot a H H') (hp : H' a = some (.lst [.int p'])) : SS O H0 a lo lt W H' p' os vs ts :=
 ⟨hp, po _ _ S.hlo S.d1, po _ _ S.hlt S.d2, S.rs.keep (fun b o e n => po b o e fun z => n (by rw [z]; exact S.wa)) (fun _ _ z => z), S.sm.trans po, S.f1, S.f2, S.fa, S.d3, S.wO, S.wa, S.w1, S.w2, fun b hb => by
  by_cases z : b = a
  ·rw [z, hp]; exact fun z => nomatch z
  ·cases e : H b with
   | none => exact absurd e (S.wh b hb)
   | some o => rw [po b o e z]; exact fun z => nomatch z⟩
theorem SS.same (S : SS O H0 a lo lt W H p os vs ts) (s : Same H H') : SS O H0 a lo lt W H' p os vs ts := S.step (fun b o e _ => s b o e) (s _ _ S.pot)
theorem SS.take (S : SS O H0 a lo lt W H p os vs ts) : SS O H0 a lo lt W (upd H a (.lst [.int p'])) p' os vs ts := S.step Pot.upd zU
theorem SS.rep (S : SS O H0 a lo lt W H p os vs ts) {v : V} {d : D} (r : Rep H W v d) (po : Pot a H H') : Rep H' W v d := r.keep (fun b o e n => po b o e fun z => n (by rw [z]; exact S.wa)) (fun _ _ z => z)
theorem SS.setO (S : SS O H0 a lo lt W H p os vs ts) (os' : List Int) : SS O H0 a lo lt W (upd H lo (.lst (os'.map V.int))) p os' vs ts :=
 ⟨by rw [zT (fun z => S.d1 z.symm)]; exact S.pot, zU, by rw [zT (fun z => S.d3 z.symm)]; exact S.hlt, S.rs.keep (fun b o e n => by rw [zT (fun z => n (by rw [z]; exact S.w1))]; exact e) (fun _ _ z => z), fun b o e n => by
  rw [zT (fun z => by rw [z, S.f1] at e; cases e)]
  exact S.sm b o e n, S.f1, S.f2, S.fa, S.d3, S.wO, S.wa, S.w1, S.w2, fun b hb => by
  by_cases z : b = lo
  ·rw [z, zU]; exact fun z => nomatch z
  ·rw [zT z]; exact S.wh b hb⟩
theorem SS.setT (S : SS O H0 a lo lt W H p os vs ts) {vs' : List V} {ts' : List D} (r : Reps H W vs' ts') : SS O H0 a lo lt W (upd H lt (.lst vs')) p os vs' ts' :=
 ⟨by rw [zT (fun z => S.d2 z.symm)]; exact S.pot, by rw [zT S.d3]; exact S.hlo, zU, r.keep (fun b o e n => by rw [zT (fun z => n (by rw [z]; exact S.w2))]; exact e) (fun _ _ z => z), fun b o e n => by
  rw [zT (fun z => by rw [z, S.f2] at e; cases e)]
  exact S.sm b o e n, S.f1, S.f2, S.fa, S.d3, S.wO, S.wa, S.w1, S.w2, fun b hb => by
  by_cases z : b = lt
  ·rw [z, zU]; exact fun z => nomatch z
  ·rw [zT z]; exact S.wh b hb⟩
theorem SS.newO (S : SS O H0 a lo lt W H p os vs ts) {l : Addr} {os' : List Int} (hl : H l = none) (hl' : H' l = some (.lst (os'.map V.int))) (s : Same H H') : SS O H0 a l lt (fun b => W b \/ b = l) H' p os' vs ts := by
 have la : l ≠ a := fun z => by rw [z, S.pot] at hl; cases hl
 have ll : l ≠ lt := fun z => by rw [z, S.hlt] at hl; cases hl
 refine ⟨s _ _ S.pot, hl', s _ _ S.hlt, S.rs.keep (fun b o e _ => s b o e) (fun b hb z => z.elim id fun z => absurd hl (by rw [<- z]; exact hb)), S.sm.trans (fun b o e _ => s b o e), S.sm.none la hl, S.f2, S.fa, ll, fun b hb => .inl (S.wO b hb), .inl S.wa, .inr rfl, .inl S.w2, fun b hb => ?_⟩
 rcases hb with hb | rfl
 ·cases e : H b with
  | none => exact absurd e (S.wh b hb)
  | some o => rw [s b o e]; exact fun z => nomatch z
 ·rw [hl']; exact fun z => nomatch z
end
def tTk (e : TE) : TE := tCall spTake [] E0 (zR (tVar 2) (zR e tNil))
def tKd (K : KFr) (i : Int) : TT := tTest (tOp (rEqD K false) (tVar 5) (tC (.int i)))
def tNn : TT := tTest (tOp (fun x y H Q => y = .non /\ Q (.bl (!decide (x = .non))) H) (tVar 10) (tC .non))
def tMul (x y : TE) : TE := tOp (rI MulOk fun i j => .int (i * j)) x y
def rMx : List V -> Hp -> VK -> Prop := fun xs H Q => ∃ i j, xs = [.int i, .int j] /\ Q (.int (if j > i then j else i)) H
def tTA (K : KFr) : TE := tOp (rIxL K) (tVar 4) (tVar 6)
def tQ0 (K : KFr) : TS := tDrop (tBM K "list" rPopAt (tVar 4) (zR (tVar 6) tNil))
def tQ1 (K : KFr) : TS := tDrop (tBM K "list" rInsert (tVar 4) (zR (tVar 6) (zR (tC .non) tNil)))
def tQ2 (K : KFr) : TS := tAsg (tOp (rIxL K) (tLst (zR (tNegI 1) (zR (tPlus (tVar 3) (tC (.int 1))) (zR (tMinus (tNegI 1) (tMul (tVar 8) (tVar 8))) (zR (tPlus (tVar 3) (tC (.int 7))) tNil))))) (tTk (tC (.int 4)))) (gSub (tVar 0) (tVar 6) rSetL)
def tQ3 (K : KFr) : TS := tAsg (tOp (rIxL K) (tLst (zR (tLst tNil) (zR (tOp rCatR (tVar 0) (tOp rRepR (tLst (zR (tC (.int 0)) tNil)) (tMinus (tC (.int 7)) (tVar 3)))) tNil))) (tTk (tC (.int 2)))) (gName 0)
def tQ4 (K : KFr) : TS := tAsg (tCB rMx (zR (tC (.int 0)) (zR (tMinus (tOp (rIxL K) (tVar 0) (tVar 6)) (tC (.int 1))) tNil))) (gSub (tVar 0) (tVar 6) rSetL)
def tQp (K : KFr) (Fu : List D -> Res D) (x : TE) : TS := tAsg (tCall (spF false Fu) [] E0 (zR (tTA K) (zR (tVar 7) (zR x tNil)))) (gSub (tVar 4) (tVar 6) rSetL)
def tP1 (K : KFr) : TE := tOp (rIxT K) (tVar 10) (tC (.int 1))
def tQ6 (K : KFr) : TE := tTup (zR (tVar 8) (zR (tP1 K) tNil))
def tQ7 (K : KFr) : TE := tTup (zR (tOp (rIxT K) (tVar 10) (tC (.int 0))) (zR (tOp (rIxL K) (tLst (zR (tSl (rSlT K) (tP1 K) (tPart (tC (.int 1))) tNoPart) (zR (tOp (rCatU K) (tP1 K) (tTup (zR (tC .non) tNil))) tNil))) (tTk (tC (.int 2)))) tNil))
def tQC (K : KFr) (Fu : List D -> Res D) : TS := tIfS (tKd K 0) (tQ0 K) (tIfS (tKd K 1) (tQ1 K) (tIfS (tKd K 2) (tQ2 K) (tIfS (tKd K 3) (tQ3 K) (tIfS (tKd K 4) (tQ4 K) (tIfS (tKd K 5) (tQp K Fu (tC .non)) (tIfS (tAnd (tKd K 6) tNn) (tQp K Fu (tQ6 K)) (tIfS (tAnd (tKd K 7) tNn) (tQp K Fu (tQ7 K)) (tQp K Fu (tVar 9)))))))))
def tQE (K : KFr) : TS := tRet (tTup (zR (tCB (rTup K) (zR (tVar 0) tNil)) (zR (tVar 4) tNil)))
def tQW : TE := tComp (iRng1 (zR (tTk (tC (.int 4))) tNil)) (fun _ _ _ _ => tTrue) (fun _ _ _ _ => tCall spTake [] E0 (zR (tVar 1) (zR (tVar 2) tNil))) [2, 3]
def tQL (K : KFr) : TE := tTup (zR (tVar 8) (zR (tOp (rRepT K) (tTup (zR (tC .non) tNil)) (tVar 3)) tNil))
def tSpq (K : KFr) (Fp Fu : List D -> Res D) : TS :=
 tSeq (tAsg (tCB (rLnS K) (zR (tVar 0) tNil)) (gName 3))
 (tSeq (tAsg (tCB (rLstO K) (zR (tVar 0) tNil)) (gName 0))
 (tSeq (tAsg (tCB (rLstO K) (zR (tVar 1) tNil)) (gName 4))
 (tSeq (tAsg (tTk (tC (.int 10))) (gName 5))
 (tSeq (tAsg (tTk (tVar 3)) (gName 6))
 (tSeq (tAsg tQW (gName 7))
 (tSeq (tAsg (tMinus (tTk (tPlus (tVar 3) (tC (.int 2)))) (tC (.int 1))) (gName 8))
 (tSeq (tAsg (tQL K) (gName 9))
 (tSeq (tAsg (tCall (spF false Fp) [] E0 (zR (tTA K) (zR (tVar 7) tNil))) (gName 10))
 (tSeq (tQC K Fu) (tQE K))))))))))
section
variable {K : KFr} {O : Addr -> Prop} {H0 : Hp} {a lo lt : Addr} {W : Addr -> Prop} {H : Hp} {p : Int} {os : List Int} {vs : List V} {ts : List D}
theorem yW7 {σ : St} {E : Ends} (oh : ∀ b, O b -> H0 b ≠ none) (S : SS O H0 a lo lt W H p os vs ts) (h0 : σ[0]? = some (some (.ref lo))) (h4 : σ[4]? = some (some (.ref lt)))
  (k : ∀ v H', Pot a H0 H' -> Rep H' O v (.tuple [tI os, .list ts]) -> E.rt v H') : tQE K E σ H := by
 refine ⟨_, h0, lo, _, rfl, .inl ⟨SqL.of S.hlo, fun l hl => ?_⟩⟩
 refine ⟨_, h4, by show 2 <= sizeLine; decide, fun t ht => ?_⟩
 have la : l ≠ a := fun z => by rw [z, S.pot] at hl; cases hl
 have tl : t ≠ l := fun z => by rw [z, zU] at ht; cases ht
 have ht' : H t = none := by rw [zT tl] at ht; exact ht
 have ta : t ≠ a := fun z => by rw [z, S.pot] at ht'; cases ht'
 have nt : t ≠ lt := fun z => by rw [z, S.hlt] at ht'; cases ht'
 have nl : l ≠ lt := fun z => by rw [z, S.hlt] at hl; cases hl
 have sm : Same H (upd (upd H l (.tup (os.map V.int))) t (.tup [.ref l, .ref lt])) := (Same.new hl).trans (Same.new ht)
 have fr : ∀ b, H b = none -> b ≠ a -> ¬ O b := fun b hb n z => oh b z (S.sm.none n hb)
 refine k _ _ (S.sm.trans fun b o e _ => sm b o e) (.tup (.inl zU) (fr t ht' ta) (.cons (.tup (.inl ?_) (fr l hl la) (uO os)) (.cons (.lst (xs := vs) (.inl ?_) (fun z => oh lt z S.f2) ?_) .nil)))
 ·rw [zT (fun z => tl z.symm), zU]
 ·rw [zT (fun z => nt z.symm), zT (fun z => nl z.symm)]
  exact S.hlt
 ·exact (S.rs.same sm).less S.wO
theorem wT {σ : St} {w i : Int} {Q : Bool -> Hp -> Prop} (h : σ[5]? = some (some (.int w))) (k : Q (decide (w = i)) H) : tKd K i σ H Q := by
 refine ⟨_, h, .int w, .int i, .int w, .int i, rfl, rfl, ?_⟩
 rw [evI]
 exact ⟨_, rfl, k⟩
theorem gL {σ : St} {v : V} {Q : Bool -> Hp -> Prop} (h : σ[10]? = some (some v)) (k : Q (!decide (v = .non)) H) : tNn σ H Q := ⟨_, h, rfl, _, rfl, k⟩
theorem vC {σ : St} {e : TE} {m : Int} {Q : VK} (S : SS O H0 a lo lt W H p os vs ts) (h2 : σ[2]? = some (some (.ref a))) (he : ∀ (Q : VK), Q (.int m) H -> e σ H Q) (hm : DivOk m) (k : Q (.int (p % m)) (upd H a (.lst [.int (p / m)]))) : tTk e σ H Q :=
 ⟨_, h2, he _ ⟨a, p, m, rfl, S.pot, hm, k⟩⟩
theorem zU5 {σ : St} {j : Nat} {d : D} {Q : VK} (S : SS O H0 a lo lt W H p os vs ts) (h4 : σ[4]? = some (some (.ref lt))) (h6 : σ[6]? = some (some (.int (j : Int)))) (hj : ts[j]? = some d) (k : ∀ v, vs[j]? = some v -> Rep H W v d -> Q v H) : tTA K σ H Q := by
 obtain ⟨v, ev, rv⟩ := S.rs.get hj
 refine ⟨_, h4, _, h6, lt, vs, (j : Int), v, rfl, rfl, SqL.of S.hlt, ?_, k v ev rv⟩
 unfold atI
 rw [uX (List.getElem?_eq_some_iff.mp ev).1, Option.bind_some]
 exact ev
theorem yY2 {σ : St} {E : Ends} {Fu : List D -> Res D} {j : Nat} {d dw x d' : D} {vw : V} {te : TE} (S : SS O H0 a lo lt W H p os vs ts) (h4 : σ[4]? = some (some (.ref lt))) (h6 : σ[6]? = some (some (.int (j : Int)))) (h7 : σ[7]? = some (some vw)) (rw' : Rep H W vw dw) (hj : ts[j]? = some d)
  (he : ∀ (Q : VK), (∀ v H' p', SS O H0 a lo lt W H' p' os vs ts -> Pot a H H' -> Rep H' W v x -> Q v H') -> te σ H Q) (hF : Fu [d, dw, x] = .ok d')
  (k : ∀ H' p' vs', SS O H0 a lo lt W H' p' os vs' (ts.set j d') -> E.nx σ H') : tQp K Fu te E σ H := by
 refine zU5 S h4 h6 hj fun v ev rv => ?_
 refine ⟨_, h7, he _ fun y H1 p1 S1 po ry => ?_⟩
 refine ⟨[d, dw, x], W, S1.wh, .cons (S.rep rv po) (.cons (S.rep rw' po) (.cons ry .nil)), ?_⟩
 rw [hF]
 intro u H2 s2 cu
 have S2 := S1.same s2
 have hl : j < vs.length := (List.getElem?_eq_some_iff.mp ev).1
 refine ⟨_, h4, _, h6, lt, vs, (j : Int), j, rfl, rfl, S2.hlt, uX hl, ?_⟩
 exact k _ _ _ (S2.setT (Reps.set cu j S2.rs))
theorem ntup {W : Addr -> Prop} {H : Hp} {t : Addr} {us : List V} {ds : List D} (wh : ∀ b, W b -> H b ≠ none) (ht : H t = none) (r : Reps H W us ds) : Rep (upd H t (.tup us)) W (.ref t) (.tuple ds) := .tup (.inl zU) (fun z => wh t z ht) (r.same (Same.new ht))
theorem bF {W : Addr -> Prop} {H : Hp} : ∀ n : Nat, Reps H W (List.replicate n V.non) (List.replicate n PyData.none)
 | 0 => .nil
 | n + 1 => .cons .non (bF n)
theorem yU1 {σ : St} {n : Nat} {b : Int} {Q : VK} (S : SS O H0 a lo lt W H p os vs ts) (h3 : σ[3]? = some (some (.int (n : Int)))) (h8 : σ[8]? = some (some (.int b))) (n1 : 1 <= n) (n6 : n <= 6)
  (k : ∀ v H', Same H H' -> Rep H' W v (.tuple [.int b, .tuple (List.replicate n .none)]) -> Q v H') : tQL K σ H Q := by
 refine ⟨_, h8, by show 1 <= sizeLine; decide, fun q hq => ?_⟩
 have s1 : Same H (upd H q (.tup [.non])) := Same.new hq
 have S1 := S.same s1
 have fin : ∀ (H1 : Hp) (u : V), Same H H1 -> (∀ b, W b -> H1 b ≠ none) -> Rep H1 W u (.tuple (List.replicate n .none)) -> [V.int b, u].length <= sizeLine /\ ∀ t, H1 t = none -> Q (.ref t) (upd H1 t (.tup [.int b, u])) := fun H1 u s wh r =>
  ⟨by show 2 <= sizeLine; decide, fun t ht => k _ _ (s.trans (Same.new ht)) (ntup wh ht (.cons (.int b) (.cons r .nil)))⟩
 refine ⟨_, h3, q, n, .non, rfl, rfl, SqT.of zU, n1, n6, fun c => ?_, fun c t ht => ?_⟩
 ·subst c
  exact fin _ _ s1 S1.wh (ntup S.wh hq (.cons .non .nil))
 ·exact fin _ _ (s1.trans (Same.new ht)) (S1.same (Same.new ht)).wh (ntup S1.wh ht (bF n))
def spoI (Fu : List D -> Res D) (n : Nat) (ops : List Int) (ts : List D) (c : Int) (part : D) : Res D :=
  if c % 10 = 0 then .ok (.tuple [tI ops, .list (ts.eraseIdx (sAt n c))])
  else if c % 10 = 1 then .ok (.tuple [tI ops, .list (ts.take (sAt n c) ++ .none :: ts.drop (sAt n c))])
  else if c % 10 < 5 then .ok (.tuple [tI (sOps n c ops), .list ts])
  else match sOth n c part with
   | some x => match Fu [ts.getD (sAt n c) .none, lI (sWay n c), x] with
    | .ok d => .ok (.tuple [tI ops, .list (ts.set (sAt n c) d)])
    | _ => .no
   | none => .no
theorem aJ {n : Nat} (h : 1 <= n) (c : Int) : sAt n c < n := by
 have h0 := Int.emod_nonneg (c / 10) (show (n : Int) ≠ 0 by bv_omega)
 have h1 := Int.emod_lt_of_pos (c / 10) (show (0 : Int) < (n : Int) by bv_omega)
 unfold sAt
 bv_omega
theorem zA8 {Fu : List D -> Res D} {n : Nat} {ops : List Int} {c : Int} {part : D} {Qd : D -> Prop} {Ex : Str -> Prop} (w5 : ¬ c % 10 < 5) (w0 : 0 <= c % 10) (h : (spoI Fu n ops ts c part).post Qd Ex) : ∃ x d, sOth n c part = some x /\ Fu [ts.getD (sAt n c) .none, lI (sWay n c), x] = .ok d /\ Qd (.tuple [tI ops, .list (ts.set (sAt n c) d)]) := by
 unfold spoI at h
 rw [if_neg (by bv_omega), if_neg (by bv_omega), if_neg w5] at h
 split at h
 ·rename_i x ex
  split at h
  ·rename_i d ed
   exact ⟨x, d, ex, ed, h⟩
  ·exact h.elim
 ·exact h.elim
theorem zA6 {E : Ends} {Fu : List D -> Res D} {n : Nat} {c : Int} {x1 : Option V} {vw vl vp : V} {part : D} {Qd : D -> Prop} {Ex : Str -> Prop} (hn : os.length = n) (ht : ts.length = n) (n1 : 1 <= n) (n6 : n <= 6) (S : SS O H0 a lo lt W H (sP5 n c) os vs ts) (rw' : Rep H W vw (lI (sWay n c))) (rl : Rep H W vl (sLeaf n c)) (rp : Rep H W vp part) (hb : MulOk (sBox n c) (sBox n c)) (h : (spoI Fu n os ts c part).post Qd Ex)
  (k : ∀ lo' W' H' p' os' vs' ts', SS O H0 a lo' lt W' H' p' os' vs' ts' -> Qd (.tuple [tI os', .list ts']) -> E.nx [some (.ref lo'), x1, some (.ref a), some (.int (n : Int)), some (.ref lt), some (.int (c % 10)), some (.int ((sAt n c : Nat) : Int)), some vw, some (.int (sBox n c)), some vl, some vp] H') :
  tQC K Fu E [some (.ref lo), x1, some (.ref a), some (.int (n : Int)), some (.ref lt), some (.int (c % 10)), some (.int ((sAt n c : Nat) : Int)), some vw, some (.int (sBox n c)), some vl, some vp] H := by
 have jl := aJ n1 c
 have lv := S.rs.length
 have k0 := Int.emod_nonneg c (show (10 : Int) ≠ 0 by decide)
 have tyl : tyV K "list" (.ref lt) H := .inl ⟨rfl, _, SqL.of S.hlt⟩
 obtain ⟨d, hd⟩ : ∃ d, ts[sAt n c]? = some d := ⟨_, List.getElem?_eq_getElem (by bv_omega)⟩
 have gd : ts.getD (sAt n c) .none = d := by rw [List.getD, hd]; rfl
 obtain ⟨v, ev, rv⟩ := S.rs.get hd
 have ix : ixN vs.length ((sAt n c : Nat) : Int) = some (sAt n c) := uX (by bv_omega)
 have ixo : ixN (os.map V.int).length ((sAt n c : Nat) : Int) = some (sAt n c) := uX (by rw [List.length_map]; bv_omega)
 unfold tQC
 refine wT rfl ?_
 by_cases w0 : c % 10 = 0
 ·rw [decide_eq_true w0]
  refine iteT ⟨_, rfl, tyl, _, rfl, lt, vs, _, sAt n c, v, rfl, rfl, S.hlt, by bv_omega, by bv_omega, (dC ix).1, ev, ?_⟩
  unfold spoI at h
  rw [if_pos w0] at h
  exact k _ _ _ _ _ _ _ (S.setT (S.rs.erase _)) h
 rw [decide_eq_false w0]
 refine iteF (wT rfl ?_)
 by_cases w1 : c % 10 = 1
 ·rw [decide_eq_true w1]
  refine iteT ⟨_, rfl, tyl, _, rfl, lt, vs, _, .non, rfl, rfl, S.hlt, by bv_omega, by bv_omega, small1000 (by bv_omega), ?_⟩
  have ei : insN vs.length ((sAt n c : Nat) : Int) = sAt n c := by
   unfold insN
   rw [if_neg (by bv_omega), Int.toNat_natCast]
   bv_omega
  rw [ei]
  unfold spoI at h
  rw [if_neg w0, if_pos w1] at h
  exact k _ _ _ _ _ _ _ (S.setT (Reps.insert .non _ S.rs)) h
 rw [decide_eq_false w1]
 refine iteF (wT rfl ?_)
 by_cases w2 : c % 10 = 2
 ·rw [decide_eq_true w2]
  refine iteT ⟨1, rfl, _, rfl, _, _, rfl, rfl, 1, rfl, _, rfl, _, rfl, _, _, rfl, rfl, hb, _, _, rfl, rfl, _, rfl, _, _, rfl, rfl, by show 4 <= sizeLine; decide, fun q hq => ?_⟩
  have S1 := S.same (Same.new (o := .lst ((sPick n c).map V.int)) hq)
  refine vC S1 rfl (fun Q z => z) (DivOk.small (by decide) (by decide)) ?_
  have qa : q ≠ a := fun z => by rw [z, S.pot] at hq; cases hq
  have e0 := Int.emod_nonneg (sP5 n c) (show (4 : Int) ≠ 0 by decide)
  have e4 := Int.emod_lt_of_pos (sP5 n c) (show (0 : Int) < 4 by decide)
  have at4 : atI ((sPick n c).map V.int) (sP5 n c % 4) = some (.int ((sPick n c).getD (sP5 n c % 4).toNat 0)) := by
   have := vT (xs := sPick n c) (j := (sP5 n c % 4).toNat) (by show _ < 4; bv_omega)
   rw [Int.toNat_of_nonneg e0] at this
   rw [uZ, this]
   rfl
  refine ⟨q, (sPick n c).map V.int, _, _, rfl, rfl, SqL.of (by rw [zT qa]; exact zU), at4, ?_⟩
  have S2 := S1.take (p' := sP5 n c / 4)
  refine ⟨_, rfl, _, rfl, lo, _, _, sAt n c, rfl, rfl, S2.hlo, ixo, ?_⟩
  unfold spoI at h
  rw [if_neg w0, if_neg w1, if_pos (by bv_omega)] at h
  have e : sOps n c os = os.set (sAt n c) ((sPick n c).getD (sP5 n c % 4).toNat 0) := by unfold sOps; rw [if_pos w2]
  rw [e] at h
  rw [<- List.map_set]
  exact k _ _ _ _ _ _ _ (S2.setO _) h
 rw [decide_eq_false w2]
 refine iteF (wT rfl ?_)
 by_cases w3 : c % 10 = 3
 ·rw [decide_eq_true w3]
  unfold spoI at h
  rw [if_neg w0, if_neg w1, if_pos (by bv_omega)] at h
  have e : sOps n c os = if sP5 n c % 2 = 0 then [] else os ++ List.replicate (7 - n) 0 := by unfold sOps; rw [if_neg w2, if_pos w3]
  rw [e] at h
  refine iteT ⟨Nat.zero_le _, fun l1 h1 => ?_⟩
  refine ⟨_, rfl, by show 1 <= sizeLine; decide, fun l2 h2 => ?_⟩
  have s1 : Same H (upd H l1 (.lst [])) := Same.new h1
  have s2 := s1.trans (Same.new (o := .lst [.int 0]) h2)
  have rp7 : (7 - (n : Int)).toNat = 7 - n := by bv_omega
  refine ⟨_, rfl, 7, (n : Int), rfl, rfl, l2, _, [.int 0], rfl, rfl, .inl zU, by bv_omega, by bv_omega, by rw [rp7]; exact Nat.le_of_lt (small1000 (by simp; bv_omega)), fun l3 h3 => ?_⟩
  have rz : (List.replicate (7 - (n : Int)).toNat [V.int 0]).flatten = (List.replicate (7 - n) (0 : Int)).map V.int := by
   rw [rp7, List.map_replicate]
   generalize 7 - n = m
   induction m with
   | zero => rfl
   | succ m ih => rw [List.replicate_succ, List.flatten_cons, ih, List.replicate_succ]; rfl
  rw [rz] at *
  have s3 := s2.trans (Same.new (o := .lst ((List.replicate (7 - n) (0 : Int)).map V.int)) h3)
  refine ⟨lo, l3, os.map V.int, _, rfl, rfl, .inl (s3 _ _ S.hlo), .inl zU, Nat.le_of_lt (small1000 (by simp; bv_omega)), fun l4 h4 => ?_⟩
  rw [<- List.map_append]
  have s4 := s3.trans (Same.new (o := .lst ((os ++ List.replicate (7 - n) (0 : Int)).map V.int)) h4)
  refine ⟨by show 2 <= sizeLine; decide, fun l5 h5 => ?_⟩
  have s5 := s4.trans (Same.new (o := .lst [.ref l1, .ref l4]) h5)
  have f4 : H l4 = none := s3.free h4
  have S5 := S.same s5
  refine vC S5 rfl (fun Q z => z) (DivOk.small (by decide) (by decide)) ?_
  have l5a : l5 ≠ a := fun z => by rw [z, s4 _ _ S.pot] at h5; cases h5
  have e0 := Int.emod_nonneg (sP5 n c) (show (2 : Int) ≠ 0 by decide)
  have e2 := Int.emod_lt_of_pos (sP5 n c) (show (0 : Int) < 2 by decide)
  by_cases ev2 : sP5 n c % 2 = 0
  ·refine ⟨l5, [.ref l1, .ref l4], _, .ref l1, rfl, rfl, SqL.of (by rw [zT l5a]; exact zU), by rw [ev2]; rfl, ?_⟩
   rw [if_pos ev2] at h
   have a1 : (upd (upd (upd (upd (upd H l1 (.lst [])) l2 (.lst [.int 0])) l3 (.lst ((List.replicate (7 - n) (0 : Int)).map V.int))) l4 (.lst ((os ++ List.replicate (7 - n) (0 : Int)).map V.int))) l5 (.lst [.ref l1, .ref l4])) l1 = some (.lst (([] : List Int).map V.int)) :=
    (((Same.new (o := .lst [.int 0]) h2).trans (Same.new h3)).trans ((Same.new h4).trans (Same.new h5))) _ _ zU
   exact k _ _ _ _ _ _ _ ((S.newO h1 a1 s5).take) h
  ·refine ⟨l5, [.ref l1, .ref l4], _, .ref l4, rfl, rfl, SqL.of (by rw [zT l5a]; exact zU), by rw [show sP5 n c % 2 = 1 by bv_omega]; rfl, ?_⟩
   rw [if_neg ev2] at h
   exact k _ _ _ _ _ _ _ ((S.newO f4 ((Same.new h5) _ _ zU) s5).take) h
 rw [decide_eq_false w3]
 refine iteF (wT rfl ?_)
 by_cases w4 : c % 10 = 4
 ·rw [decide_eq_true w4]
  have at6 : atI (os.map V.int) ((sAt n c : Nat) : Int) = some (.int (os.getD (sAt n c) 0)) := by
   rw [uZ, vT (by bv_omega)]
   rfl
  refine iteT ⟨_, rfl, _, rfl, lo, _, _, _, rfl, rfl, SqL.of S.hlo, at6, _, _, rfl, rfl, _, _, rfl, ?_⟩
  refine ⟨_, rfl, _, rfl, lo, _, _, sAt n c, rfl, rfl, S.hlo, ixo, ?_⟩
  unfold spoI at h
  rw [if_neg w0, if_neg w1, if_pos (by bv_omega)] at h
  have e : sOps n c os = os.set (sAt n c) (if os.getD (sAt n c) 0 - 1 > 0 then os.getD (sAt n c) 0 - 1 else 0) := by unfold sOps; rw [if_neg w2, if_neg w3]
  rw [e] at h
  rw [<- List.map_set]
  exact k _ _ _ _ _ _ _ (S.setO _) h
 rw [decide_eq_false w4]
 obtain ⟨x, d', ex, ed, hq⟩ := zA8 (by bv_omega) k0 h
 rw [gd] at ed
 have fin : ∀ {te : TE}, (∀ (Q : VK), (∀ v H' p', SS O H0 a lo lt W H' p' os vs ts -> Pot a H H' -> Rep H' W v x -> Q v H') -> te [some (.ref lo), x1, some (.ref a), some (.int (n : Int)), some (.ref lt), some (.int (c % 10)), some (.int ((sAt n c : Nat) : Int)), some vw, some (.int (sBox n c)), some vl, some vp] H Q) -> tQp K Fu te E [some (.ref lo), x1, some (.ref a), some (.int (n : Int)), some (.ref lt), some (.int (c % 10)), some (.int ((sAt n c : Nat) : Int)), some vw, some (.int (sBox n c)), some vl, some vp] H := fun {te} he =>
  yY2 S rfl rfl rfl rw' hd he ed fun H' p' vs' S' => k _ _ _ _ _ _ _ S' hq
 refine iteF (wT rfl ?_)
 by_cases w5 : c % 10 = 5
 ·rw [decide_eq_true w5]
  refine iteT (fin fun Q z => ?_)
  have xe : x = .none := by
   unfold sOth at ex
   split at ex
   ·split at ex
    ·first | (cases ex; rfl) | (rw [if_pos w5] at ex; cases ex; rfl)
    ·first | (cases ex; done) | (rw [if_pos w5] at ex; cases ex; rfl)
   ·first | (cases ex; rfl) | (rw [if_pos w5] at ex; cases ex; rfl)
   ·cases ex
  rw [xe] at z
  exact z _ H _ S (Pot.refl _ _) .non
 rw [decide_eq_false w5]
 have last : x = sLeaf n c -> tQp K Fu (tVar 9) E [some (.ref lo), x1, some (.ref a), some (.int (n : Int)), some (.ref lt), some (.int (c % 10)), some (.int ((sAt n c : Nat) : Int)), some vw, some (.int (sBox n c)), some vl, some vp] H := fun xe =>
  fin fun Q z => ⟨_, rfl, z _ H _ S (Pot.refl _ _) (by rw [xe]; exact rl)⟩
 refine iteF (wT rfl ?_)
 unfold sOth at ex
 split at ex
 ·rename_i pb ks
  split at ex
  ·rename_i hk
   try rw [if_neg w5] at ex
   cases rp with
   | @tup ap ys _ rd no rs =>
    cases rs with
    | cons r1 rs =>
     cases r1
     cases rs with
     | cons r2 rs =>
      cases rs
      have sq : SqT K H ap [.int pb, _] := .inl rd
      have nn : (!decide (V.ref ap = V.non)) = true := by simp
      by_cases w6 : c % 10 = 6
      ·rw [decide_eq_true w6, if_pos w6] at *
       cases ex
       refine iteT (gL rfl ?_)
       rw [nn]
       refine iteT (fin fun Q z => ?_)
       refine ⟨_, rfl, _, rfl, ap, _, 1, _, rfl, rfl, sq, rfl, by show 2 <= sizeLine; decide, fun t ht => ?_⟩
       exact z _ _ _ (S.same (Same.new ht)) (fun b o e _ => Same.new ht b o e) (ntup S.wh ht (.cons (.int _) (.cons r2 .nil)))
      ·rw [decide_eq_false w6] at *
       rw [if_neg w6] at ex
       refine iteF (iteF (wT rfl ?_))
       by_cases w7 : c % 10 = 7
       ·rw [decide_eq_true w7] at *
        rw [if_pos w7] at ex
        cases ex
        refine iteT (gL rfl ?_)
        rw [nn]
        refine iteT (fin fun Q z => ?_)
        cases r2 with
        | @tup ak zs _ rdk nok rks =>
         have lk : zs.length = n := by rw [rks.length, hk]
         have sk : SqT K H ak zs := .inl rdk
         refine ⟨_, rfl, ap, _, 0, _, rfl, rfl, sq, rfl, ?_⟩
         refine ⟨_, rfl, ap, _, 1, _, rfl, rfl, sq, rfl, 1, rfl, ak, zs, rfl, sk, ?_, fun q1 h1 => ?_⟩
         ·rintro ⟨z1, _⟩
          unfold HT.sIx at z1
          simp only at z1
          rw [if_neg (by decide)] at z1
          have : min (1 : Int).toNat zs.length = 0 := z1
          simp at this
          bv_omega
         have cz : cutV zs (some 1) none = zs.drop 1 := by
          unfold cutV HT.sIx
          simp only
          rw [if_neg (by decide), lk, show min (1 : Int).toNat n = 1 by simp; bv_omega, List.take_of_length_le (by rw [List.length_drop]; bv_omega)]
         rw [cz] at *
         have s1 : Same H (upd H q1 (.tup (zs.drop 1))) := Same.new h1
         have S1 := S.same s1
         have rd1 : Rep (upd H q1 (.tup (zs.drop 1))) W (.ref q1) (.tuple (ks.drop 1)) := ntup S.wh h1 (rks.drop 1)
         have up : ∀ {H1 : Hp} {b : Addr} {ys : List V}, Same H H1 -> Rd H b (.tup ys) -> SqT K H1 b ys := fun {H1 b ys} s r => .inl (xJ r fun o e => s _ _ e)
         refine ⟨_, rfl, ap, _, 1, _, rfl, rfl, up s1 rd, rfl, by show 1 <= sizeLine; decide, fun q2 h2 => ?_⟩
         have s2 := s1.trans (Same.new (o := .tup [.non]) h2)
         have S2 := S.same s2
         refine ⟨ak, q2, zs, [.non], rfl, rfl, up s2 rdk, SqT.of zU, Nat.le_of_lt (small1000 (by simp; bv_omega)), fun z => ?_, fun _ z => (by cases z), fun _ _ q3 h3 => ?_⟩
         ·rw [z] at lk; have : 0 = n := lk; bv_omega
         have s3 := s2.trans (Same.new (o := .tup (zs ++ [.non])) h3)
         have rd3 : Rep (upd (upd (upd H q1 (.tup (zs.drop 1))) q2 (.tup [.non])) q3 (.tup (zs ++ [.non]))) W (.ref q3) (.tuple (ks ++ [.none])) := ntup S2.wh h3 ((rks.same s2).append (.cons .non .nil))
         refine ⟨by show 2 <= sizeLine; decide, fun q4 h4 => ?_⟩
         have s4 := s3.trans (Same.new (o := .lst [.ref q1, .ref q3]) h4)
         have S4 := S.same s4
         refine vC S4 rfl (fun Q z => z) (DivOk.small (by decide) (by decide)) ?_
         have q4a : q4 ≠ a := fun z => by rw [z, s3 _ _ S.pot] at h4; cases h4
         have S5 := S4.take (p' := sP5 n c / 2)
         have po5 : Pot a H (upd (upd (upd (upd (upd H q1 (.tup (zs.drop 1))) q2 (.tup [.non])) q3 (.tup (zs ++ [.non]))) q4 (.lst [.ref q1, .ref q3])) a (.lst [.int (sP5 n c / 2)])) := fun b o e n => by rw [zT n]; exact s4 b o e
         have e0 := Int.emod_nonneg (sP5 n c) (show (2 : Int) ≠ 0 by decide)
         have e2 := Int.emod_lt_of_pos (sP5 n c) (show (0 : Int) < 2 by decide)
         by_cases ev2 : sP5 n c % 2 = 0
         ·rw [if_pos ev2] at z
          refine ⟨q4, [.ref q1, .ref q3], _, .ref q1, rfl, rfl, SqL.of (by rw [zT q4a]; exact zU), by rw [ev2]; rfl, by show 2 <= sizeLine; decide, fun t ht' => ?_⟩
          have r : Rep _ W (.ref q1) (.tuple (ks.drop 1)) := S4.rep (rd1.same (((Same.new h2).trans (Same.new h3)).trans (Same.new h4))) (Pot.upd (o := .lst [.int (sP5 n c / 2)]))
          exact z _ _ _ (S5.same (Same.new ht')) (po5.trans fun b o e _ => Same.new ht' b o e) (ntup S5.wh ht' (.cons (.int pb) (.cons r .nil)))
         ·rw [if_neg ev2] at z
          refine ⟨q4, [.ref q1, .ref q3], _, .ref q3, rfl, rfl, SqL.of (by rw [zT q4a]; exact zU), by rw [show sP5 n c % 2 = 1 by bv_omega]; rfl, by show 2 <= sizeLine; decide, fun t ht' => ?_⟩
          have r : Rep _ W (.ref q3) (.tuple (ks ++ [.none])) := S4.rep (rd3.same (Same.new h4)) (Pot.upd (o := .lst [.int (sP5 n c / 2)]))
          exact z _ _ _ (S5.same (Same.new ht')) (po5.trans fun b o e _ => Same.new ht' b o e) (ntup S5.wh ht' (.cons (.int pb) (.cons r .nil)))
       ·rw [decide_eq_false w7, if_neg w7] at *
        cases ex
        exact iteF (iteF (last rfl))
  ·cases ex
 ·rw [if_neg w5] at ex
  cases ex
  cases rp
  have nn : (!decide (V.non = V.non)) = false := by simp
  by_cases w6 : c % 10 = 6
  ·rw [decide_eq_true w6]
   refine iteT (gL rfl ?_)
   rw [nn]
   refine iteF (wT rfl ?_)
   rw [decide_eq_false (show ¬ c % 10 = 7 by bv_omega)]
   exact iteF (iteF (last rfl))
  ·rw [decide_eq_false w6]
   refine iteF (iteF (wT rfl ?_))
   by_cases w7 : c % 10 = 7
   ·rw [decide_eq_true w7]
    refine iteT (gL rfl ?_)
    rw [nn]
    exact iteF (last rfl)
   ·rw [decide_eq_false w7]
    exact iteF (iteF (last rfl))
 ·cases ex
end
theorem zN2 {Fp Fu : List D -> Res D} {ops : List Int} {ts : List D} {c : Int} {Qd : D -> Prop} {Ex : Str -> Prop} (h : (spoG Fp Fu ops ts c).post Qd Ex) : ∃ part, Fp [ts.getD (sAt ops.length c) .none, lI (sWay ops.length c)] = .ok part /\ (spoI Fu ops.length ops ts c part).post Qd Ex := by
 unfold spoG at h
 split at h
 ·rename_i part e
  exact ⟨part, e, h⟩
 ·exact h.elim
theorem zN4 {n : Nat} (n6 : n <= 6) (c : Int) : MulOk (sBox n c) (sBox n c) := by
 have h0 := Int.emod_nonneg (sP4 n c) (show (n : Int) + 2 ≠ 0 by bv_omega)
 have h1 := Int.emod_lt_of_pos (sP4 n c) (show (0 : Int) < (n : Int) + 2 by bv_omega)
 unfold sBox
 exact MulOk.right (by bv_omega) (by bv_omega)
theorem sqN {te : TE} {i : Nat} {r : TS} {E : Ends} {σ : St} {H : Hp} (h : te σ H fun v H1 => r E (σ.set i (some v)) H1) : tSeq (tAsg te (gName i)) r E σ H := h
theorem yY5 {O : Addr -> Prop} {H0 : Hp} {a lo lt : Addr} {W : Addr -> Prop} {H : Hp} {os : List Int} {vs : List V} {ts : List D} {n : Nat} {c : Int} {y0 y1 y4 y5 y6 y7 y8 y9 y10 : Option V} {Q : VK} (n1 : 1 <= n) (n6 : n <= 6) (S : SS O H0 a lo lt W H (c / 10 / (n : Int)) os vs ts)
  (k : ∀ wl H4, H4 a = some (.lst [.int (sP4 n c)]) -> Pot a H H4 -> H4 wl = none -> Q (.ref wl) (upd H4 wl (.lst ((sWay n c).map V.int)))) : tQW [y0, y1, some (.ref a), some (.int (n : Int)), y4, y5, y6, y7, y8, y9, y10] H Q := by
 have m0 := Int.emod_nonneg (c / 10 / (n : Int)) (show (4 : Int) ≠ 0 by decide)
 have m4 := Int.emod_lt_of_pos (c / 10 / (n : Int)) (show (0 : Int) < 4 by decide)
 refine vC S rfl (fun Q z => z) (DivOk.small (by decide) (by decide)) ?_
 have S3 := S.take (p' := c / 10 / (n : Int) / 4)
 have po3 : Pot a H (upd H a (.lst [.int (c / 10 / (n : Int) / 4)])) := Pot.upd
 generalize (upd H a (.lst [.int (c / 10 / (n : Int) / 4)])) = H3 at S3 po3
 refine ⟨_, rfl, by bv_omega, by bv_omega, fun C fp s₂ H₂ => ?_⟩
 refine jE (lo := 0) (n := sMm n c) (tt := tTrue) (te := tCall spTake [] E0 (zR (tVar 1) (zR (tVar 2) tNil))) (js := [2, 3]) (σ := [y0, y1, some (.ref a), some (.int (n : Int)), y4, y5, y6, y7, y8, y9, y10]) (Q := Q) (fun i acc H1 => acc = (digD (n : Int) (sP3 n c) i).map V.int /\ H1 a = some (.lst [.int (pwD (n : Int) (sP3 n c) i)]) /\ Pot a H3 H1) ⟨rfl, S3.pot, Pot.refl a H3⟩ ?_ ?_
 ·rintro i acc H1 hi ⟨rfl, g1, po⟩
  unfold tTrue
  simp only [if_true]
  refine ⟨_, rfl, _, rfl, a, _, _, rfl, g1, DivOk.small (show (0 : Int) < (n : Int) by bv_omega) (by bv_omega), by rw [List.length_map, digD, List.length_map, List.length_range]; exact small1000 (by unfold sMm at hi; bv_omega), ?_, zU, po.trans Pot.upd⟩
  rw [aD, List.map_append]
  rfl
 ·rintro acc H4 ⟨rfl, g4, po⟩ wl hwl
  exact k wl H4 g4 (po3.trans po) hwl
theorem zE3 {K : KFr} {Fp Fu : List D -> Res D} {O : Addr -> Prop} {H0 : Hp} {x0 x1 : V} {a : Addr} {ops : List Int} {ts : List D} {c : Int} {E : Ends} (oh : ∀ b, O b -> H0 b ≠ none) (n1 : 1 <= ops.length) (n6 : ops.length <= 6) (ht : ts.length = ops.length) (ha : H0 a = some (.lst [.int c])) (oa : O a) (r0 : Rep H0 O x0 (tI ops)) (r1 : Rep H0 O x1 (.tuple ts)) {Ex : Str -> Prop}
  (h : (spoG Fp Fu ops ts c).post (fun d => ∀ v H', Pot a H0 H' -> Rep H' O v d -> E.rt v H') Ex) : tSpq K Fp Fu E [some x0, some x1, some (.ref a), none, none, none, none, none, none, none, none] H0 := by
 obtain ⟨part, hp, h⟩ := zN2 h
 obtain ⟨n, hn⟩ : ∃ n, ops.length = n := ⟨_, rfl⟩
 rw [hn] at n1 n6 ht hp h
 cases r0 with
 | @tup b0 y0 _ rd0 no0 rs0 =>
  obtain rfl := rs0.ints
  cases r1 with
  | @tup b1 vs _ rd1 no1 rs1 =>
   refine ⟨_, rfl, b0, _, rfl, .inr (.inl rd0), ?_⟩
   refine ⟨_, rfl, b0, _, rfl, .inr (.inl rd0), fun lo hlo => ?_⟩
   have s1 : Same H0 (upd H0 lo (.lst (ops.map V.int))) := Same.new hlo
   refine ⟨_, rfl, b1, vs, rfl, .inr (.inl (xJ rd1 fun o e => s1 _ _ e)), fun lt hlt => ?_⟩
   have s2 := s1.trans (Same.new (o := .lst vs) hlt)
   have l12 : lo ≠ lt := fun z => by rw [<- z, zU] at hlt; cases hlt
   have S : SS O H0 a lo lt (fun b => O b \/ b = lo \/ b = lt) (upd (upd H0 lo (.lst (ops.map V.int))) lt (.lst vs)) c ops vs ts := by
    refine ⟨s2 _ _ ha, by rw [zT l12, zU], zU, rs1.keep (fun b o e _ => s2 b o e) (fun b hb z => ?_), fun b o e _ => s2 b o e, hlo, s1.free hlt, (by rw [ha]; exact fun z => nomatch z), l12, fun b z => .inl z, .inl oa, .inr (.inl rfl), .inr (.inr rfl), fun b z => ?_⟩
    ·rcases z with z | rfl | rfl
     ·exact z
     ·exact absurd hlo hb
     ·exact absurd (s1.free hlt) hb
    ·rcases z with z | rfl | rfl
     ·cases e : H0 b with
      | none => exact absurd e (oh b z)
      | some o => rw [s2 b o e]; exact fun z => nomatch z
     ·rw [zT l12, zU]; exact fun z => nomatch z
     ·rw [zU]; exact fun z => nomatch z
   have ln : ((ops.map V.int).length : Int) = (n : Int) := by rw [List.length_map, hn]
   generalize hW : (fun b => O b \/ b = lo \/ b = lt) = W at S
   generalize (upd (upd H0 lo (.lst (ops.map V.int))) lt (.lst vs)) = H2 at S
   show tSeq (tAsg (tTk (tC (.int 10))) (gName 5)) _ E [some (.ref lo), some (.ref b1), some (.ref a), some (.int ((ops.map V.int).length : Int)), some (.ref lt), none, none, none, none, none, none] H2
   rw [ln]
   refine vC S rfl (fun Q z => z) (DivOk.small (by decide) (by decide)) ?_
   have S1 := S.take (p' := c / 10)
   refine vC S1 rfl (fun Q z => ⟨_, rfl, z⟩) (DivOk.small (show (0 : Int) < (n : Int) by bv_omega) (by bv_omega)) ?_
   have S2 := S1.take (p' := c / 10 / (n : Int))
   have at0 := Int.emod_nonneg (c / 10) (show (n : Int) ≠ 0 by bv_omega)
   have atE : c / 10 % (n : Int) = ((sAt n c : Nat) : Int) := by unfold sAt; rw [Int.toNat_of_nonneg at0]
   have m0 := Int.emod_nonneg (c / 10 / (n : Int)) (show (4 : Int) ≠ 0 by decide)
   have m4 := Int.emod_lt_of_pos (c / 10 / (n : Int)) (show (0 : Int) < 4 by decide)
   show tSeq (tAsg tQW (gName 7)) _ E [some (.ref lo), some (.ref b1), some (.ref a), some (.int (n : Int)), some (.ref lt), some (.int (c % 10)), some (.int (c / 10 % (n : Int))), none, none, none, none] (upd (upd H2 a (.lst [.int (c / 10)])) a (.lst [.int (c / 10 / (n : Int))]))
   refine sqN (yY5 (n := n) (c := c) n1 n6 S2 fun wl H4 g4 po hwl => ?_)
   have S4 := S2.step po g4
   have S5 := S4.same (Same.new (o := .lst ((sWay n c).map V.int)) hwl)
   have rw5 : Rep (upd H4 wl (.lst ((sWay n c).map V.int))) W (.ref wl) (lI (sWay n c)) := .lst (.inl zU) (fun z => S4.wh wl z hwl) (uO _)
   generalize (upd H4 wl (.lst ((sWay n c).map V.int))) = H5 at S5 rw5
   show tSeq (tAsg (tMinus (tTk (tPlus (tVar 3) (tC (.int 2)))) (tC (.int 1))) (gName 8)) _ E [some (.ref lo), some (.ref b1), some (.ref a), some (.int (n : Int)), some (.ref lt), some (.int (c % 10)), some (.int (c / 10 % (n : Int))), some (.ref wl), none, none, none] H5
   rw [atE]
   refine vC (m := (n : Int) + 2) S5 rfl (fun Q z => ⟨_, rfl, _, _, rfl, rfl, z⟩) (DivOk.small (by bv_omega) (by bv_omega)) ⟨_, _, rfl, rfl, ?_⟩
   have S6 := S5.take (p' := sP5 n c)
   have rw6 := S5.rep rw5 (Pot.upd (o := .lst [.int (sP5 n c)]))
   refine sqN (yU1 (n := n) (b := sBox n c) S6 rfl rfl n1 n6 fun vl H7 s7 rl => ?_)
   have S7 := S6.same s7
   have rw7 := rw6.same s7
   obtain ⟨d, hd⟩ : ∃ d, ts[sAt n c]? = some d := ⟨_, List.getElem?_eq_getElem (by rw [ht]; exact aJ n1 c)⟩
   have gd : ts.getD (sAt n c) .none = d := by rw [List.getD, hd]; rfl
   rw [gd] at hp
   refine zU5 S7 rfl rfl hd fun v ev rv => ?_
   refine ⟨_, rfl, [d, lI (sWay n c)], W, S7.wh, .cons rv (.cons rw7 .nil), ?_⟩
   rw [hp]
   intro vp H8 s8 cp
   have S8 := S7.same s8
   refine zA6 (E := { E with nx := fun σ H => tQE K E σ H }) hn ht n1 n6 S8 (rw7.same s8) (rl.same s8) cp (zN4 n6 c) h ?_
   intro lo' W' H' p' os' vs' ts' S' q
   exact yW7 oh S' rfl rfl q
def spSpo (Fp Fu : List D -> Res D) : Sp := fun us H Q _ => ∃ (x0 x1 : V) (a : Addr) (O : Addr -> Prop) (ops : List Int) (ts : List D) (c : Int), us = [x0, x1, .ref a] /\ (∀ b, O b -> H b ≠ none) /\ 1 <= ops.length /\ ops.length <= 6 /\ ts.length = ops.length /\ H a = some (.lst [.int c]) /\ O a /\ Rep H O x0 (tI ops) /\ Rep H O x1 (.tuple ts) /\ (spoG Fp Fu ops ts c).post (fun d => ∀ v H', Pot a H H' -> Rep H' O v d -> Q v H') (fun _ => False)
section
variable {P : Program} {w : World} {K : KFr} {mg : Str -> Option Value} {base : Heap}
theorem yP3 (Fp Fu : List D -> Res D) {x : Str} {st : Stmt} {f : Addr} {fd : FuncData} {N ps : List Str} {k : Nat} (F : Fun K x x st f fd) (S : zH N ps (zP st)) (hp : ps.length = 3) (hN : N.length = 11)
  (hbody : ∀ (cdv : Value) (A' : Around) (outer : List Env) (s : Shared) (H : Hp) (E : XK), Room k (A'.deeper (envOfC x (zP st) s.heap.objs.size f cdv)) -> PSs (cxOf CX0 P w K mg base N x (zP st) f cdv A' outer s H E).nox (defBody st) (tSpq K Fp Fu)) :
  FnOk P w K mg base CX0 (k + 1) f fd ps (spSpo Fp Fu) := by
 refine F.ok S (fun vs H Q E h => ?_) fun cdv A' outer s H vs Q E hr h => ?_
 ·obtain ⟨x0, x1, a, O, ops, ts, c, rfl, _⟩ := h
  rw [hp]
  rfl
 ·obtain ⟨x0, x1, a, O, ops, ts, c, rfl, oh, n1, n6, ht, ha, oa, r0, r1, q⟩ := h
  refine ⟨_, hbody cdv A' outer s H E hr, ?_⟩
  have st : start N [x0, x1, V.ref a] = [some x0, some x1, some (.ref a), none, none, none, none, none, none, none, none] := by
   unfold start
   rw [hN]
   rfl
  rw [st]
  exact zE3 oh n1 n6 ht ha oa r0 r1 q
end
def spoH (Fp Fu : List D -> Res D) : List D -> Res D
 | [.tuple os, .tuple ts, .int c] => match intsOf os with
  | some ops => if 1 <= ops.length /\ ops.length <= 6 /\ ts.length = ops.length then (match spoG Fp Fu ops ts c with | .ok d => .ok d | _ => .no) else .no
  | none => .no
 | _ => .no
theorem yX1 {Fp Fu : List D -> Res D} {ops : List Int} {ts : List D} {c : Int} {d : D} (h1 : 1 <= ops.length) (h2 : ops.length <= 6) (h3 : ts.length = ops.length) (e : spoG Fp Fu ops ts c = .ok d) : spoH Fp Fu [tI ops, .tuple ts, .int c] = .ok d := by
 unfold spoH
 simp only [intsOf_map]
 rw [if_pos ⟨h1, h2, h3⟩, e]
theorem zH7 {Fp Fu : List D -> Res D} {ds : List D} {Q : D -> Prop} {R : Str -> Prop} (h : (spoH Fp Fu ds).post Q R) : ∃ ops ts c d, ds = [tI ops, .tuple ts, .int c] /\ 1 <= ops.length /\ ops.length <= 6 /\ ts.length = ops.length /\ spoG Fp Fu ops ts c = .ok d /\ Q d := by
 unfold spoH at h
 split at h
 ·split at h
  ·rename_i os ts c _ ops e
   split at h
   ·rename_i cc
    split at h
    ·rename_i d ed
     exact ⟨ops, ts, c, d, by rw [wS e], cc.1, cc.2.1, cc.2.2, ed, h⟩
    ·exact h.elim
   ·exact h.elim
  ·exact h.elim
 ·exact h.elim
theorem zL9 {C : Ct} {Fp Fu : List D -> Res D} {me me2 me3 : Ev -> Res D} {t1 t2 t3 : TE} {E : XK}
  (q1 : ∀ (Oc : Wd) (Ob : Addr -> Prop) (σ : St) (H : Hp) (ρ : Ev) (Q : VK), Rel Oc Ob C.om C.ln σ H ρ -> (me ρ).post (fun d => ∀ v H', Same H H' -> VR .cl Oc Ob H H' v d -> Q v H') (fun c => ∀ H', Same H H' -> C.XE c H') -> t1 σ H Q)
  (q2 : ∀ (Oc : Wd) (Ob : Addr -> Prop) (σ : St) (H : Hp) (ρ : Ev) (Q : VK), Rel Oc Ob C.om C.ln σ H ρ -> (me2 ρ).post (fun d => ∀ v H', Same H H' -> VR .cl Oc Ob H H' v d -> Q v H') (fun c => ∀ H', Same H H' -> C.XE c H') -> t2 σ H Q)
  (q3 : ∀ (Oc : Wd) (Ob : Addr -> Prop) (σ : St) (H : Hp) (ρ : Ev) (Q : VK), Rel Oc Ob C.om C.ln σ H ρ -> (me3 ρ).post (fun d => ∀ v H', Same H H' -> VR .cl Oc Ob H H' v d -> Q v H') (fun c => ∀ H', Same H H' -> C.XE c H') -> t3 σ H Q)
  {Oc : Wd} {Ob : Addr -> Prop} {σ : St} {H : Hp} {ρ : Ev} {Q : VK} (R : Rel Oc Ob C.om C.ln σ H ρ) (h : (eF (spoH Fp Fu) (aC me (aC me2 (aC me3 aN))) ρ).post (fun d => ∀ v H', Same H H' -> VR .cl Oc Ob H H' v d -> Q v H') (fun c => ∀ H', Same H H' -> C.XE c H')) :
  tCall (spSpo Fp Fu) [] E (zR t1 (zR t2 (zR (tLst (zR t3 tNil)) tNil))) σ H Q := by
 refine q1 Oc Ob σ H ρ _ R (Res.zV (Res.zW (Res.zW h)) (fun d _ k x H1 s1 vx => ?_) fun _ z => z)
 refine q2 Oc Ob σ H1 ρ _ (R.same s1) (Res.zV (Res.zW (Res.zW k)) (fun d2 _ k y H2 s2 vy => ?_) fun c z H' s' => z H' (s1.trans s'))
 have s12 := s1.trans s2
 refine q3 Oc Ob σ H2 ρ _ (R.same s12) (Res.zV (Res.zW (Res.zW k)) (fun d3 _ k z H3 s3 vz => ?_) fun c z H' s' => z H' (s12.trans s'))
 have s123 := s12.trans s3
 refine ⟨by show 1 <= sizeLine; decide, fun a ha => ?_⟩
 obtain ⟨ops, ts, c, dd, e, n1, n6, lt, eg, kq⟩ := zH7 (show (spoH Fp Fu [d, d2, d3]).post _ _ from k)
 cases e
 have ez := VA.int (.inl vz)
 subst ez
 have fa : H a = none := s123.free ha
 have sa : Same H (upd H3 a (.lst [.int c])) := s123.trans (Same.new ha)
 have kp : ∀ {v : V} {d : D}, Rep H3 (Uni Oc Ob) v d -> Rep (upd H3 a (.lst [.int c])) (fun b => Uni Oc Ob b \/ b = a) v d := fun {v d} r =>
  r.keep (fun b o e _ => Same.new ha b o e) fun b hb z => z.elim id fun z => absurd ha (by rw [<- z]; exact hb)
 refine ⟨x, y, a, fun b => Uni Oc Ob b \/ b = a, ops, ts, c, rfl, fun b hb => ?_, n1, n6, lt, zU, .inr rfl, kp (vx.same (s2.trans s3)), kp (vy.same s3), ?_⟩
 ·rcases hb with hb | rfl
  ·cases e : H b with
   | none => exact absurd e (R.oh b hb)
   | some o => rw [sa b o e]; exact fun z => nomatch z
  ·rw [zU]; exact fun z => nomatch z
 ·rw [eg]
  intro v H' po rv
  refine kq v H' (fun b o e => po b o (sa b o e) fun z => by rw [z, fa] at e; cases e) (rv.less fun b hb => .inl hb)
theorem zH4 {C : Ct} {Fp Fu : List D -> Res D} {k : Nat} {f : Addr} {fd : FuncData} {ps : List Str} {x : Str} {p pos lpos : Pos} {e e2 e3 : Expr} {me me2 me3 : Ev -> Res D} {st : Stmt} (G : FnOk C.X.prog C.X.w C.X.K C.X.mg C.X.base (CXV C.X.prog C.X.w) k f fd ps (spSpo Fp Fu)) (hh : Has C.X.K C.X.mg x st f fd ps) (hr : Room k C.X.A) (hb : Br C)
  (h1 : RE C .cl e me) (h2 : RE C .cl e2 me2) (h3 : RE C .cl e3 me3) (hg : autoParam (Gl C.X x) zX._auto_1) (hdb : autoParam ((x == ("__debug__" : Str)) = false) zJ._auto_1) (hs3 : autoParam (starEach [e3] C.X.env = (false, eval e3 C.X.env) :: starEach [] C.X.env) zX._auto_1) (hs1 : autoParam (starEach [.List [e3] lpos] C.X.env = (false, eval (.List [e3] lpos) C.X.env) :: starEach [] C.X.env) zX._auto_1)
  (hs2 : autoParam (starEach [e2, .List [e3] lpos] C.X.env = (false, eval e2 C.X.env) :: starEach [.List [e3] lpos] C.X.env) zX._auto_1) (he : autoParam (starEach [e, e2, .List [e3] lpos] C.X.env = (false, eval e C.X.env) :: starEach [e2, .List [e3] lpos] C.X.env) zX._auto_1) (hpl : autoParam ((backTo pos (starEach [e2, .List [e3] lpos] C.X.env)).any (·.1) = false) zX._auto_1) :
  RE C .cl (.Call (.Name x p) [e, e2, .List [e3] lpos] [] pos) (eF (spoH Fp Fu) (aC me (aC me2 (aC me3 aN)))) := by
 obtain ⟨t1, p1, q1⟩ := h1
 obtain ⟨t2, p2, q2⟩ := h2
 obtain ⟨t3, p3, q3⟩ := h3
 exact ⟨_, zC G hr hg hh.m hh.F.kp hh.b .nil (passX hb) (zY p1 (zY p2 (zY (xO (zY p3 zO hs3)) zO hs1) hs2) he) hdb he hpl, fun Oc Ob σ H ρ Q R h => zL9 q1 q2 q3 R h⟩
end L2.L3
namespace L2.L3
open PySem PySem.Spec PyProof.Rows
variable [CN]
section
omit [CN]
theorem wW {h : Heap} {C b : Addr} {o : Obj} (e : (PySem.W.hideAll h [C]).get? b = some o) : h.get? b = some o /\ b ≠ C :=
 ⟨PySem.W.of_hideAll _ e, fun z => by rw [z, PySem.W.hideAll_none _ (.head _)] at e; cases e⟩
theorem wY {h : Heap} {C b : Addr} {o : Obj} (e : h.get? b = some o) (n : b ≠ C) : (PySem.W.hideAll h [C]).get? b = some o :=
 PySem.W.hideAll_get _ e fun z => n (by simpa using z)
theorem qQ {h : Heap} {C b : Addr} (e : h.get? b = none) : (PySem.W.hideAll h [C]).get? b = none := by
 cases q : (PySem.W.hideAll h [C]).get? b with
 | none => rfl
 | some o => rw [(wW q).1] at e; cases e
theorem zY3 {h g B : Heap} {C : Addr} : ∀ {l : List Env}, h.FunFrames B l -> (∀ b o, b ∈ frs l -> h.get? b = some o -> (∀ vs, o.data ≠ .fields vs) -> ∃ o', g.get? b = some o' /\ o'.data = o.data) -> g.FunFrames (PySem.W.hideAll B [C]) l
 | [], _, _ => trivial
 | env :: l, ⟨k, ⟨L, o, h1, h2, h3, h4⟩, r⟩, q => by
  have ml : L ∈ frs (env :: l) := List.mem_filterMap.mpr ⟨env, List.mem_cons_self, h1⟩
  obtain ⟨o', e1, e2⟩ := q L o ml h3 h4
  refine ⟨k, ⟨L, o', h1, qQ h2, e1, fun vs => by rw [e2]; exact h4 vs⟩, zY3 r fun b o hb => q b o ?_⟩
  obtain ⟨e, he, hf⟩ := List.mem_filterMap.mp hb
  exact List.mem_filterMap.mpr ⟨e, List.mem_cons_of_mem _ he, hf⟩
theorem cU {h g B B' : Heap} {e : Addr} {cls a0 fl : Value} (t : h.TracedAtW B e cls a0 fl) (q : ∀ b o ts, h.get? b = some o -> o.data = .fields ts -> g.get? b = some o) (k : ∀ b, B.get? b = none -> B'.get? b = none) : g.TracedAtW B' e cls a0 fl := by
 obtain ⟨oe, vs, T, oT, ts, g1, g2, g4, g5, g6, g7, g8, g9, g10⟩ := t
 exact ⟨oe, vs, T, oT, ts, q _ _ _ g1 g4, g2, g4, g5, k _ g6, g7, q _ _ _ g8 g9, g9, g10⟩
end
theorem zD2 {X : Cx} {XE : Str -> Hp -> Prop} {N : List Str} {scope : Scope} {C D : Addr} {fp : List Addr} {s₂ : Shared} {H₂ : Hp} {pins : List (Addr × Obj)} {σ : St} {use : Option (Value -> Sem Unit)} {Qv : Value -> Shared -> Prop} {xe : Value -> Shared -> Prop}
  (hb : ∀ c H e s, ExcAt X c H e s -> XE c H -> X.xe e s) (hst : X.stack = X.env :: X.outer) (hfr : X.env.frame = some X.env.locals) (I2 : Inv X pins σ H₂ s₂) (f2 : ∀ b ∈ fp, FpOk X pins H₂ b) (hC : s₂.heap.objs.size <= C)
  (c : Str) (H : Hp) (e : Value) (s : Shared) (x : ExcAt ((cxComp X N scope C fp s₂ H₂).wish xe) c H e s) (z : XE c H) :
  notedBy (model X.prog X.w) X.A (compEnvC scope (clos X.env.cells scope.names []) C X.env) (fun e s' => compPost (model X.prog X.w) X.A X.xe use Qv (.ref D) C (.error e) s') e s := by
 obtain ⟨pins', σ', s1, H1, a, B, a0, J1, J, un, rfl, n1, n2, f⟩ := x
 have un : Un (frs X.stack) [] H1 H s1.heap s.heap := un
 have f : Fl X.stack s1.heap H a (.ref (CN.ad c)) B a0 s.heap := f
 have c1 : H1 C = none := J1.free
 have cc : H C = none := J.free
 have nC : C ∉ frs X.stack := fun z => by
  rcases List.mem_cons.mp (I2.stkSub C z) with q | q
  ·exact absurd I2.lt (by rw [<- q]; exact Nat.not_lt.mpr hC)
  ·exact I2.nofs (a := C) hC q
 obtain ⟨m1, ⟨oc1, es1, ep1, q1, _⟩, _⟩ := id J1.loc
 obtain ⟨m, hn, _⟩ := id J.loc
 obtain ⟨oc, es, ep, qc, dc, _⟩ := id hn
 have q1 : s1.heap.get? C = some oc1 := q1
 have hn : s.heap.Ns C m := hn
 have qc : s.heap.get? C = some oc := qc
 have aC : a ≠ C := fun y => by subst y; rw [n1] at q1; cases q1
 have fC : ∀ b o ts, s.heap.get? b = some o -> o.data = .fields ts -> b ≠ C := fun b o ts q d y => by
  subst y
  rw [qc] at q
  cases q
  rw [d] at dc
  cases dc
 have u1 : Un (frs X.stack) fp H₂ H1 s₂.heap s1.heap := J1.base
 have lt : ∀ b o, s₂.heap.get? b = some o -> b ≠ C := fun b o q y => Nat.not_lt.mpr hC (y ▸ Heap.lt_size q)
 have tk : ∀ {K : Hp} (b : Addr), K C = none -> K b ≠ none -> b ≠ C := fun b h n y => n (y ▸ h)
 have I1 : Inv X pins σ H1 { s1 with heap := PySem.W.hideAll s1.heap [C] } := by
  refine I2.call' (s' := { s1 with heap := PySem.W.hideAll s1.heap [C] }) (ch := fp) J1.os ⟨fun b o q n hb hx => wY (u1.keep b o q n hb hx) (lt b o q), fun b o q n hb hx => ?_, u1.free, fun b o q hx => ?_, u1.tups, u1.frzs, u1.tbls⟩ (fun b o q => ?_) J1.bare fun b hb => ⟨(f2 b hb).2.2.2.1, (f2 b hb).2.1, (f2 b hb).2.2.2.2.1, (f2 b hb).2.2.2.2.2⟩
  ·obtain ⟨sl, e⟩ := u1.slot b o q n hb hx
   exact ⟨sl, wY e (lt b o q)⟩
  ·obtain ⟨o', e⟩ := u1.there b o q hx
   exact ⟨o', wY e (lt b o q)⟩
  ·refine (J1.hok b o q).stay (fun b' u hb' e => wY e ?_) (fun _ z => z) fun _ _ z => z
   rcases hb' with rfl | hb'
   ·exact tk b' c1 (xK q)
   ·exact tk b' c1 (xK hb')
 have un' : Un (frs X.stack) [] H1 H (PySem.W.hideAll s1.heap [C]) (PySem.W.hideAll s.heap [C]) := by
  refine ⟨fun b o q n hb hx => wY (un.keep b o (wW q).1 n hb hx) (wW q).2, fun b o q n hb hx => ?_, fun b o q n hx => un.free b o (wW q).1 n hx, fun b o q hx => ?_, un.tups, un.frzs, un.tbls⟩
  ·obtain ⟨sl, e⟩ := un.slot b o (wW q).1 n hb hx
   exact ⟨sl, wY e (wW q).2⟩
  ·obtain ⟨o', e⟩ := un.there b o (wW q).1 hx
   exact ⟨o', wY e (wW q).2⟩
 have hok : HOk X.prog X.w H (PySem.W.hideAll s.heap [C]) := fun b o q => by
  refine (J.hok b o q).stay (fun b' u hb' e => wY e ?_) (fun _ z => z) fun _ _ z => z
  rcases hb' with rfl | hb'
  ·exact tk b' cc (xK q)
  ·exact tk b' cc (xK hb')
 have I : Inv X pins σ H { s with heap := PySem.W.hideAll s.heap [C] } := I1.call' (s' := { s with heap := PySem.W.hideAll s.heap [C] }) (J.os.trans J1.os.symm) un' hok J.bare (fun b z => by cases z)
 have frC : ∀ b, b ∈ frs X.stack -> b ≠ C := fun b q y => nC (y ▸ q)
 have fl : Fl X.stack (PySem.W.hideAll s1.heap [C]) H a (.ref (CN.ad c)) (PySem.W.hideAll B [C]) a0 (PySem.W.hideAll s.heap [C]) := by
  refine ⟨fun b o q => wY (f.stays b o (wW q).1) (wW q).2, qQ f.newB, zY3 f.frm fun b o hb q d => ⟨o, wY q (frC b hb), rfl⟩, ?_, fun b o q nb hh => ?_⟩
  ·rcases f.raw with ⟨fl, t⟩ | ⟨oe, vs, h1, h2, h3, h4⟩
   ·exact .inl ⟨fl, cU t (fun b o ts q d => wY q (fC b o ts q d)) fun b => qQ⟩
   ·exact .inr ⟨oe, vs, wY h1 aC, h2, h3, h4⟩
  ·obtain ⟨q1, q2⟩ := wW q
   refine wY (f.cov b o q1 nb (hh.elim (fun hh => .inl fun y => hh (qQ y)) .inr)) q2
 have hfrm : s.heap.FunFrames B (X.env :: X.outer) := by rw [<- hst]; exact f.frm
 have hA : X.A.frames = some (X.env :: X.outer) := by rw [<- hst]; exact I2.ok.frames
 have key : ∀ h', Heap.NotedW B (X.env :: X.outer) a (.ref (CN.ad c)) a0 (rawInt X.env.locals) s.heap h' -> compPost (model X.prog X.w) X.A X.xe use Qv (.ref D) C (.error (.ref a)) { s with heap := h' } := by
  rintro h' ⟨k1, k2, k3, k4⟩
  have hn' : h'.Ns C m := Heap.UpToSlots.ns k4 hn
  obtain ⟨_, _, _, qc', dc', _⟩ := id hn'
  have fin : ∃ m, h'.Ns C m /\ ∀ h'', Heap.SameBut C h' h'' -> ∀ cenv : Env, cenv.locals = C -> wpAny (model X.prog X.w) X.A (PySem.passOn "comprehension.variables-let-go" (.ref a) cenv : Sem Value) (fun _ _ => False) X.xe { s with heap := h'' } := by
   refine ⟨m, hn', fun h'' sb cenv ec => ?_⟩
   have t2 : h''.TracedAtW B a (.ref (CN.ad c)) a0 (rawInt X.env.locals) := cU k3 (fun b o ts q d => (sb.2 b fun y => by
    subst y
    rw [qc'] at q
    cases q
    rw [d] at dc'
    cases dc').trans q) fun b q => q
   refine zD6 (s := { s with heap := h'' }) t2 fun g3 T fl' b1 b2 ⟨o, ts, b3, b4⟩ b5 => ?_
   have S3 : (PySem.W.hideAll B [C]).StaysIn g3 := fun b u q => by
    obtain ⟨y1, y2⟩ := wW q
    rw [b2 b fun y => by rw [y, b1] at y1; cases y1]
    exact (sb.2 b y2).trans (k1 b u y1)
   have noT : ∀ b u, h''.get? b = some u -> (∀ vs, u.data ≠ .fields vs) -> b ≠ T := fun b u q d y => by
    subst y
    have b3 : h''.get? b = some o := b3
    rw [b3] at q
    cases q
    exact d ts b4
   have F3 : g3.FunFrames (PySem.W.hideAll B [C]) X.stack := by
    rw [hst]
    refine zY3 k2 fun b u hb q d => ⟨u, ?_, rfl⟩
    have q2 : h''.get? b = some u := (sb.2 b (frC b (by rw [hst]; exact hb))).trans q
    exact (b2 b (noT b u q2 d)).trans q2
   have U3 : (PySem.W.hideAll s.heap [C]).UpToSlots g3 := fun b u q d => by
    obtain ⟨y1, y2⟩ := wW q
    obtain ⟨sl, y3⟩ := k4 b u y1 d
    have q2 : h''.get? b = some { u with slots := sl } := (sb.2 b y2).trans y3
    exact ⟨sl, (b2 b (noT b _ q2 d)).trans q2⟩
   obtain ⟨K, un3, cov⟩ := zO2 I1 I un' fl S3 F3 U3
   exact hb c H _ _ ⟨pins, σ, _, H1, a, PySem.W.hideAll B [C], a0, I1, K, un3, rfl, qQ n1, n2, ⟨S3, qQ f.newB, F3, .inl ⟨fl', cU b5 (fun b o ts q d => q) fun b => qQ⟩, cov⟩⟩ z
  cases use <;> exact fin
 show wpAny (model X.prog X.w) X.A (noteFrame (.ref a) X.env) (fun _ s'' => compPost (model X.prog X.w) X.A X.xe use Qv (.ref D) C (.error (.ref a)) s'') (fun e' s'' => compPost (model X.prog X.w) X.A X.xe use Qv (.ref D) C (.error e') s'') s
 rcases f.raw with ⟨fl, t⟩ | ⟨oe, vs, he, hc, hd, h1, h0⟩
 ·exact fX hA hfrm hfr t f.stays f.newB key
 ·rw [<- hc] at key
  unfold noteFrame
  simp only [hfr]
  refine wpAny_bind (wpAny_field he hd h1 ?_)
  rw [if_neg (by decide)]
  exact wpAny_entryW hA hfrm hfr he f.stays f.newB hd (Array.getElem?_eq_some_iff.mp h1).1 h0 key
def BrI (X : Cx) (XE : Str -> Hp -> Prop) (N : List Str) (scope : Scope) (C : Addr) (fp : List Addr) (s₂ : Shared) (H : Hp) (xe : Value -> Shared -> Prop) : Prop := ∀ c H' e s, ExcAt ((cxComp X N scope C fp s₂ H).wish xe) c H' e s -> XE c H' -> xe e s
def tComp2X (X : Cx) (XE : Str -> Hp -> Prop) (N : List Str) (scope : Scope) (wi : TI) (tt : (C : Addr) -> (fp : List Addr) -> (s₂ : Shared) -> (H : Hp) -> (xe : Value -> Shared -> Prop) -> BrI X XE N scope C fp s₂ H xe -> TT) (te : (C : Addr) -> (fp : List Addr) -> (s₂ : Shared) -> (H : Hp) -> (xe : Value -> Shared -> Prop) -> BrI X XE N scope C fp s₂ H xe -> TE) (js : List Nat) : TE := fun σ H Q => wi σ H fun J H1 => ∀ C fp s₂ H₂ xe br, ∃ W : Nat -> Nat -> List V -> Hp -> Prop, (∃ m, W 0 m [] H1) /\ ∀ i m acc H, W i m acc H ->
 (J.stop i H /\ ∀ p, H p = none -> Q (.ref p) (upd H p (.lst acc))) \/
 (J.go i H /\ ∃ Nx : List V -> Hp -> Prop, (∀ acc' H', Nx acc' H' -> ∃ m', m' < m /\ W (i + 1) m' acc' H') /\
  ∀ x H', J.yld i H x H' -> ∃ ta x1 x2, x = .ref ta /\ SqT X.K H' ta [x1, x2] /\ tt C fp s₂ H₂ xe br (compSt2 σ js (some x1) (some x2)) H' fun b H2 => if b = true then te C fp s₂ H₂ xe br (compSt2 σ js (some x1) (some x2)) H2 fun v H3 => acc.length < sizeLine /\ Nx (acc ++ [v]) H3 else Nx acc H2)
theorem zX8 {X : Cx} {elt iter : Expr} {ifs : List Expr} {sc0 scope : Scope} {N0 : List Str} {px pw tp pos : Pos} {k1 : Nat} {xt yt : Str} {fs : List Str} {js : List Nat} {wi : TI} {XE : Str -> Hp -> Prop} {tt : (C : Addr) -> (fp : List Addr) -> (s₂ : Shared) -> (H : Hp) -> (xe : Value -> Shared -> Prop) -> BrI X XE (xt :: yt :: fs) scope C fp s₂ H xe -> TT} {te : (C : Addr) -> (fp : List Addr) -> (s₂ : Shared) -> (H : Hp) -> (xe : Value -> Shared -> Prop) -> BrI X XE (xt :: yt :: fs) scope C fp s₂ H xe -> TE} (hb : ∀ c H e s, ExcAt X c H e s -> XE c H -> X.xe e s) (hst : X.stack = X.env :: X.outer) (hfr : X.env.frame = some X.env.locals) (S : CScope2 sc0 scope N0 xt yt fs js) (h0 : X.env.scope = sc0) (hN0 : X.N = N0) (hc : X.calm = true)
  (hi : PI X (.Tuple [.Name xt px, .Name yt pw] k1 tp) iter wi) (ht : ∀ C fp s₂ H xe br, PTs ((cxComp X (xt :: yt :: fs) scope C fp s₂ H).wish xe) ifs (tt C fp s₂ H xe br)) (he : ∀ C fp s₂ H xe br, PE ((cxComp X (xt :: yt :: fs) scope C fp s₂ H).wish xe) elt (te C fp s₂ H xe br))
  (hs : autoParam (∀ x, foldedSetIterable iter X.env x = pure x) xD._auto_1)
  {pins : List (Addr × Obj)} {cpos : Pos} {s : Shared} {σ : St} {H : Hp} {Q : VK} {use : Option (Value -> Sem Unit)} {Qv : Value -> Shared -> Prop} (I : Inv X pins σ H s) (h : tComp2X X XE (xt :: yt :: fs) scope wi tt te js σ H Q)
  (hfin : ∀ (s' : Shared) (C D : Addr) (Ha : Hp) (fl : Flow), (∀ h'', Heap.SameBut C s'.heap h'' -> Inv X pins σ Ha { s' with heap := h'' }) -> (∃ m, s'.heap.Ns C m) -> FpOk X pins Ha C -> Q (.ref D) Ha -> compPost (model X.prog X.w) X.A X.xe use Qv (.ref D) C (.ok fl) s') :
  wpAny (model X.prog X.w) X.A (comprehension (.ListComp elt [⟨.Tuple [.Name xt px, .Name yt pw] k1 tp, iter, ifs, 0⟩] scope pos) scope X.env cpos (newList []) false (eval iter X.env) use) Qv X.xe s := by
 refine wpAny_comprehension_free (use := use) rfl hs (uL (S.cells h0 I.ok)) S.kind S.names ?_
 refine thn (hi pins s σ H _ I h) fun v s1 h1 => thn h1 fun itv s2 h2 => ?_
 obtain ⟨it, fp, tn, J, H2, e, I2, T, st2, f2, hW⟩ := h2
 subst e
 have fo : ∀ b ∈ fp, ∃ o, s2.heap.get? b = some o := fun b hb => let ⟨o, e, _⟩ := T.obj 0 s2.heap st2 b hb; ⟨o, e⟩
 have blt : ∀ b ∈ fp, b < s2.heap.objs.size := fun b hb => let ⟨o, e⟩ := fo b hb; Heap.lt_size e
 refine kF S.nocell S.kind fun D C h₁ mC hDle hCle hDC old hacc hns₁ => ?_
 have bC : ∀ b o, s2.heap.get? b = some o -> b ≠ C := fun b o q z => Nat.not_lt.mpr hCle (z ▸ Heap.lt_size q)
 have bD : ∀ b o, s2.heap.get? b = some o -> b ≠ D := fun b o q z => Nat.not_lt.mpr hDle (z ▸ Heap.lt_size q)
 have br : BrI X XE (xt :: yt :: fs) scope C fp s2 H2 (notedBy (model X.prog X.w) X.A (compEnvC scope (clos X.env.cells scope.names []) C X.env) (fun e s' => compPost (model X.prog X.w) X.A X.xe use Qv (.ref D) C (.error e) s')) := fun c H e s x z => zD2 hb hst hfr I2 f2 hCle c H e s x z
 generalize hxe : (notedBy (model X.prog X.w) X.A (compEnvC scope (clos X.env.cells scope.names []) C X.env) (fun e s' => compPost (model X.prog X.w) X.A X.xe use Qv (.ref D) C (.error e) s')) = xe at br
 have noE : ∀ (a : Value) (s' : Shared), xe a s' -> notedBy (model X.prog X.w) X.A (compEnvC scope (clos X.env.cells scope.names []) C X.env) (fun e s' => compPost (model X.prog X.w) X.A X.xe use Qv (.ref D) C (.error e) s') a s' := fun a s' z => by rw [hxe]; exact z
 obtain ⟨W, ⟨m0, w0⟩, turn⟩ := hW C fp s2 H2 xe br
 have fpk : ∀ {H' : Hp} (ob : Obj), (∀ b ∈ fp, H' b = none) -> ∀ b ∈ fp, FpOk ((cxComp X (xt :: yt :: fs) scope C fp s2 H2).wish xe) [(D, ob)] H' b := fun {H'} ob hn b hb => by
  refine ⟨hn b hb, Nat.ne_of_lt (Nat.lt_of_lt_of_le (blt b hb) hCle), fun z => ?_, .inl hb, fun x c e => (f2 b hb).2.2.2.2.1 x c (S.sub h0 I2.ok x c e), fun p hp => ?_⟩
  ·rcases List.mem_cons.mp (I2.stkSub b z) with q | q
   ·exact (f2 b hb).2.1 q
   ·exact (f2 b hb).2.2.1 q
  ·have : p = (D, ob) := by
    have hp : p ∈ [] ++ [(D, ob)] := hp
    simpa using hp
   subst this
   exact Nat.ne_of_gt (Nat.lt_of_lt_of_le (blt b hb) hDle)
 have loop : codeAny (model X.prog X.w) X.A (.compLoop (.ListComp elt [⟨.Tuple [.Name xt px, .Name yt pw] k1 tp, iter, ifs, 0⟩] scope pos) 0 (.ref it) (.ref D) (compEnvC scope (clos X.env.cells scope.names []) C X.env))
    (compPost (model X.prog X.w) X.A X.xe use Qv (.ref D) C) { s2 with heap := h₁ } := by
  have J0 : Inv ((cxComp X (xt :: yt :: fs) scope C fp s2 H2).wish xe) [] (compSt2 σ js none none) H2 { s2 with heap := h₁ } :=
   (Inv.block2 (s₂ := s2) (s₄ := { s2 with heap := h₁ }) S h0 hN0 I2 f2 fo rfl I2.bare old hCle hns₁).wish xe
  have H2D : H2 D = none := I2.hok.fresh hDle
  have ofD : D ∉ frs X.stack := fun z => by
   rcases List.mem_cons.mp (I2.stkSub D z) with q | q
   ·exact absurd I2.lt (by rw [<- q]; exact Nat.not_lt.mpr hDle)
   ·exact I2.nofs (a := D) hDle q
  refine codeAny_loop rfl (fun n s' => ∃ (i : Nat) (σ' : St) (H' : Hp) (acc : List V) (its : List Value) (k : Nat), (∃ v0 w0, σ' = compSt2 σ js v0 w0) /\ Inv ((cxComp X (xt :: yt :: fs) scope C fp s2 H2).wish xe) [] σ' H' s' /\ tn i s'.heap /\ (∀ b ∈ fp, H' b = none) /\ H' D = none /\
    s'.heap.get? D = some { cls := .type "list", data := .seq its.toArray k } /\ Vals acc its /\ acc.length <= sizeLine /\ W i n acc H') ?_ m0
   ⟨0, _, H2, [], [], 0, ⟨none, none, rfl⟩, J0, T.keep 0 _ _ st2 fun b hb o e => old b o e, fun b hb => (f2 b hb).1, H2D, hacc, .nil, Nat.zero_le _, w0⟩
  rintro n s3 ⟨i, σ3, H3, acc, its, k, ⟨v0, w0, rfl⟩, I3, st3, fr3, hD3, d3, va, hz, w3⟩
  show wpAny _ X.A ((compTurn (.ListComp elt [⟨.Tuple [.Name xt px, .Name yt pw] k1 tp, iter, ifs, 0⟩] scope pos) 0 (.ref it) (.ref D) (compEnvC scope (clos X.env.cells scope.names []) C X.env)).onRaise (fun x => do noteFrame x (compEnvC scope (clos X.env.cells scope.names []) C X.env); theTreesLotGoes x)) _ _ s3
  refine wpAny_noted ?_
  rw [compTurn_list]
  refine wpAny_bind (wpAny_standAt ?_)
  have pinD : Inv ((cxComp X (xt :: yt :: fs) scope C fp s2 H2).wish xe) [(D, { cls := .type "list", data := .seq its.toArray k })] (compSt2 σ js v0 w0) H3 s3 := I3.xT fun p hp => by
   have : p = (D, { cls := .type "list", data := .seq its.toArray k }) := by simpa using hp
   subst this
   exact ⟨d3, hD3, hDC, ofD, fun v z => by cases z⟩
  refine wpAny_bind ?_
  rcases turn i n acc H3 w3 with ⟨stop, qn⟩ | ⟨go, N, hN, step⟩
  ·refine thn (T.done ((cxComp X (xt :: yt :: fs) scope C fp s2 H2).wish xe) rfl rfl rfl hc i _ s3 _ H3 _ pinD (fpk _ fr3) st3 stop) fun r s4 ⟨hr, I4⟩ => ?_
   subst hr
   refine wpAny_pure ?_
   obtain ⟨m4, hn4, _⟩ := I4.loc
   have hHC : H3 C = none := I4.free
   refine hfin s4 C D (upd H3 D (.lst acc)) _ (fun h'' hsb => I2.unblock f2 I4.unwish hCle hDle hDC hD3 ((I4.pin (D, { cls := .type "list", data := .seq its.toArray k }) (List.mem_append_right _ List.mem_cons_self)).1) va hz hsb) ⟨m4, hn4⟩ (I2.fpOk hCle (by rw [zT (Ne.symm hDC)]; exact hHC)) (qn D hD3)
  ·refine thn (T.item ((cxComp X (xt :: yt :: fs) scope C fp s2 H2).wish xe) rfl rfl rfl hc i _ s3 _ H3 _ pinD (fpk _ fr3) st3 go) fun r s4 ⟨u, hr, h4⟩ => ?_
   subst hr
   refine wpAny_bind (thn h4 fun _ s5 ⟨x, H5, I5, r5, y5, st5, fr5⟩ => ?_)
   have I5' := I5.pinned (fpk _ fr5) (T.obj _ _ st5)
   obtain ⟨ta, x1, x2, ex, hx, q6⟩ := step x H5 y5
   have g0 : PG ((cxComp X (xt :: yt :: fs) scope C fp s2 H2).wish xe) (.Name xt px) (gName 0) := vM S.nd rfl (.inl (lookup_relabel_local S.tgt)) (.inr (lookup_relabel_local S.tgt))
   have g1 : PG ((cxComp X (xt :: yt :: fs) scope C fp s2 H2).wish xe) (.Name yt pw) (gName 1) := vM S.nd rfl (.inl (lookup_relabel_local S.tgt2)) (.inr (lookup_relabel_local S.tgt2))
   have gok : PG ((cxComp X (xt :: yt :: fs) scope C fp s2 H2).wish xe) (.Tuple [.Name xt px, .Name yt pw] k1 tp) (gTup X.K 2 (gCons (gName 0) (gCons (gName 1) gNil))) := aZ hc (uA g0 (uA g1 cT))
   refine wpAny_bind (wpAny_mono (gok _ s5 (compSt2 σ js v0 w0) H5 x u (fun σ' H' => σ' = compSt2 σ js (some x1) (some x2) /\ H' = H5) I5' r5 ⟨ta, [x1, x2], ex, hx, rfl, x1, [x2], rfl, x2, [], rfl, rfl, rfl, rfl⟩) (fun _ s6 ⟨σ6, H6, I6, e6, e6'⟩ => ?_) noE)
   subst e6 e6'
   have fin : ∀ {acc' : List V} {its' : List Value} {k' : Nat} {H7 : Hp} {s7 : Shared}, Inv ((cxComp X (xt :: yt :: fs) scope C fp s2 H2).wish xe) [] (compSt2 σ js (some x1) (some x2)) H7 s7 -> tn (i + 1) s7.heap -> (∀ b ∈ fp, H7 b = none) -> H7 D = none -> s7.heap.get? D = some { cls := .type "list", data := .seq its'.toArray k' } -> Vals acc' its' -> acc'.length <= sizeLine -> N acc' H7 ->
     ∃ m, m < n /\ ∃ (i : Nat) (σ' : St) (H' : Hp) (acc : List V) (its : List Value) (k : Nat), (∃ v0 w0, σ' = compSt2 σ js v0 w0) /\ Inv ((cxComp X (xt :: yt :: fs) scope C fp s2 H2).wish xe) [] σ' H' s7 /\ tn i s7.heap /\ (∀ b ∈ fp, H' b = none) /\ H' D = none /\
      s7.heap.get? D = some { cls := .type "list", data := .seq its.toArray k } /\ Vals acc its /\ acc.length <= sizeLine /\ W i m acc H' := fun {acc' its' k' H7 s7} a1 a2 a3 a4 a5 a6 a7 a8 => by
    obtain ⟨m', hm, w7⟩ := hN _ _ a8
    exact ⟨m', hm, i + 1, _, H7, acc', its', k', ⟨_, _, rfl⟩, a1, a2, a3, a4, a5, a6, a7, w7⟩
   have rest : ∀ {H7 : Hp} {s7 : Shared}, Inv ((cxComp X (xt :: yt :: fs) scope C fp s2 H2).wish xe) ([(D, { cls := .type "list", data := .seq its.toArray k })] ++ pinsAt fp s5.heap) (compSt2 σ js (some x1) (some x2)) H7 s7 ->
     tn (i + 1) s7.heap /\ (∀ b ∈ fp, H7 b = none) /\ H7 D = none /\ s7.heap.get? D = some { cls := .type "list", data := .seq its.toArray k } := fun {H7 s7} I7 => by
    refine ⟨T.keep _ _ _ st5 fun b hb o e => (I7.pin (b, o) (List.mem_append_right _ (List.mem_append_right _ (xF hb e)))).1, fun b hb => ?_, (I7.pin (D, { cls := .type "list", data := .seq its.toArray k }) (List.mem_append_right _ (List.mem_append_left _ List.mem_cons_self))).2.1, (I7.pin (D, { cls := .type "list", data := .seq its.toArray k }) (List.mem_append_right _ (List.mem_append_left _ List.mem_cons_self))).1⟩
    obtain ⟨o, e, d⟩ := T.obj _ _ st5 b hb
    exact (I7.pin (b, o) (List.mem_append_right _ (List.mem_append_right _ (xF hb e)))).2.1
   have elem : ∀ {H7 : Hp} {s7 : Shared}, Inv ((cxComp X (xt :: yt :: fs) scope C fp s2 H2).wish xe) ([(D, { cls := .type "list", data := .seq its.toArray k })] ++ pinsAt fp s5.heap) (compSt2 σ js (some x1) (some x2)) H7 s7 ->
     (te C fp s2 H2 xe br (compSt2 σ js (some x1) (some x2)) H7 fun v H3 => acc.length < sizeLine /\ N (acc ++ [v]) H3) ->
     wpAny (model X.prog X.w) X.A (eval elt (compEnvC scope (clos X.env.cells scope.names []) C X.env)) (fun y s8 => wpAny (model X.prog X.w) X.A (call (.builtin "list.append") [.ref D, y]) (fun _ s9 => ∃ m, m < n /\ ∃ (i : Nat) (σ' : St) (H' : Hp) (acc : List V) (its : List Value) (k : Nat), (∃ v0 w0, σ' = compSt2 σ js v0 w0) /\ Inv ((cxComp X (xt :: yt :: fs) scope C fp s2 H2).wish xe) [] σ' H' s9 /\ tn i s9.heap /\ (∀ b ∈ fp, H' b = none) /\ H' D = none /\
      s9.heap.get? D = some { cls := .type "list", data := .seq its.toArray k } /\ Vals acc its /\ acc.length <= sizeLine /\ W i m acc H')
      xe s8) xe s7 := fun {H7 s7} I7 q7 => by
    refine thn (he C fp s2 H2 xe br _ s7 _ H7 _ I7 q7) fun y s8 ⟨v, H8, I8, r8, hl8, n8⟩ => ?_
    obtain ⟨t8, fr8, hD8, d8⟩ := rest I8
    have hsz := va.length
    refine call_meets F.slot_list_append ⟨_, d8, rfl⟩ F.entry_list_append (F.args_list_append_2 _ _) (PySem.list_append D its.toArray k y (by rw [List.size_toArray]; bv_omega)) ⟨d8, ?_⟩
    have q := PySem.IsL.update d8 (·.push y)
    rw [show (its.toArray.push y) = (its ++ [y]).toArray by simp] at q
    have kk : ∀ b o, b ≠ D -> s8.heap.get? b = some o -> (s8.heap.update D (Obj.mapSeq (·.push y))).get? b = some o := fun b o hb e => (Heap.get?_update_other s8.heap _ (Ne.symm hb)).trans e
    have I9 : Inv ((cxComp X (xt :: yt :: fs) scope C fp s2 H2).wish xe) [] (compSt2 σ js (some x1) (some x2)) H8 { s8 with heap := s8.heap.update D (Obj.mapSeq (·.push y)) } := by
     refine Inv.turned (it := D) (t' := s8.toks) (I8.xT (pins' := []) fun p hp => nomatch hp) kk hD8 hDC (.inr hDle) (fun x c e z => ?_) fun p hp => absurd (show p ∈ ([] : List (Addr × Obj)) from hp) (by simp)
     obtain ⟨v, o, ho, _⟩ := I2.cell x c (S.sub h0 I2.ok x c e)
     exact bD c o ho z
    refine fin I9 (T.keep _ _ _ t8 fun b hb o e => kk b o (Nat.ne_of_lt (Nat.lt_of_lt_of_le (blt b hb) hDle)) e) fr8 hD8 q (va.append (.cons r8 .nil)) ?_ n8
    rw [List.length_append, List.length_singleton]
    bv_omega
   have htt := ht C fp s2 H2 xe br
   generalize tt C fp s2 H2 xe br = tt' at htt q6
   cases htt with
   | nil =>
    refine wpAny_bind (wpAny_pure ?_)
    dsimp only [tTrue] at q6
    rw [if_pos rfl] at q6
    refine wpAny_mono (wpAny_bind (wpAny_bind (thn (elem I6 q6) fun y s8 h8 => wpAny_bind (thn h8 fun _ s9 h9 => wpAny_pure (wpAny_pure ⟨rfl, h9⟩))))) (fun _ _ z => z) noE
   | one ht1 =>
    refine wpAny_bind (wpAny_tests_one (wpAny_mono (ht1 _ s6 _ H6 _ I6 q6) (fun b s7 ⟨H7, I7, q7⟩ => ?_) noE))
    cases b with
    | false =>
     rw [if_neg Bool.false_ne_true] at q7
     obtain ⟨t8, fr8, hD8, d8⟩ := rest I7
     exact wpAny_pure ⟨rfl, fin (I7.xT (pins' := []) fun p hp => nomatch hp) t8 fr8 hD8 d8 va hz q7⟩
    | true =>
     rw [if_pos rfl] at q7
     refine wpAny_mono (wpAny_bind (wpAny_bind (thn (elem I7 q7) fun y s8 h8 => wpAny_bind (thn h8 fun _ s9 h9 => wpAny_pure (wpAny_pure ⟨rfl, h9⟩))))) (fun _ _ z => z) noE
 exact codeAny_compStart_list loop (T.self X.A 0 _ _ _ (T.keep 0 _ _ st2 fun b hb o e => old b o e) loop)
theorem zM6 {X : Cx} {elt iter : Expr} {ifs : List Expr} {sc0 scope : Scope} {N0 : List Str} {px py tp pos : Pos} {k1 : Nat} {xt yt : Str} {fs : List Str} {js : List Nat} {wi : TI} {XE : Str -> Hp -> Prop} {tt : (C : Addr) -> (fp : List Addr) -> (s₂ : Shared) -> (H : Hp) -> (xe : Value -> Shared -> Prop) -> BrI X XE (xt :: yt :: fs) scope C fp s₂ H xe -> TT} {te : (C : Addr) -> (fp : List Addr) -> (s₂ : Shared) -> (H : Hp) -> (xe : Value -> Shared -> Prop) -> BrI X XE (xt :: yt :: fs) scope C fp s₂ H xe -> TE} (hb : ∀ c H e s, ExcAt X c H e s -> XE c H -> X.xe e s) (hst : X.stack = X.env :: X.outer) (hfr : X.env.frame = some X.env.locals) (S : CScope2 sc0 scope N0 xt yt fs js) (h0 : X.env.scope = sc0) (hN0 : X.N = N0) (hc : X.calm = true)
  (hi : PI X (.Tuple [.Name xt px, .Name yt py] k1 tp) iter wi) (ht : ∀ C fp s₂ H xe br, PTs ((cxComp X (xt :: yt :: fs) scope C fp s₂ H).wish xe) ifs (tt C fp s₂ H xe br)) (he : ∀ C fp s₂ H xe br, PE ((cxComp X (xt :: yt :: fs) scope C fp s₂ H).wish xe) elt (te C fp s₂ H xe br))
  (hs : autoParam (∀ x, foldedSetIterable iter X.env x = pure x) xD._auto_1) :
  PE X (.ListComp elt [⟨.Tuple [.Name xt px, .Name yt py] k1 tp, iter, ifs, 0⟩] scope pos) (tComp2X X XE (xt :: yt :: fs) scope wi tt te js) := by
 intro pins s σ H Q I h
 rw [eval_ListComp]
 refine zX8 hb hst hfr S h0 hN0 hc hi ht he hs (use := none) (Qv := EP X pins σ Q) I h fun s' C D Ha fl hI hns hC q => ?_
 obtain ⟨m, hn⟩ := hns
 exact ⟨m, hn, fun h' hsb => ⟨.ref D, Ha, hI h' hsb, rfl, q⟩⟩
section
omit [CN]
def compX (t : D -> Res Bool) (f : D -> Res D) : List D -> Res (List D)
 | [] => .ok []
 | x :: xs => (t x).bind fun b => if b then (f x).bind fun y => (compX t f xs).bind fun ys => .ok (y :: ys) else compX t f xs
def eComp2X (mi : Ev -> Res (List D)) (mt : Ev -> Res Bool) (me : Ev -> Res D) (js : List Nat) : Ev -> Res D := fun ρ => (mi ρ).bind fun ds => if ds.length <= sizeLine then (compX (fun d => pr2 d fun x y => mt (cEnv2 ρ js x y)) (fun d => pr2 d fun x y => me (cEnv2 ρ js x y)) ds).bind fun out => .ok (.list out) else .no
theorem zH6 {α : Type} {d : D} {f : D -> D -> Res α} {Q : α -> Prop} {E : Str -> Prop} (h : (pr2 d f).post Q E) : ∃ a b, d = .tuple [a, b] := by
 unfold pr2 at h
 split at h
 ·exact ⟨_, _, rfl⟩
 ·exact h.elim
theorem kH {α β γ : Type} (r : Res α) (f : α -> Res β) (g : β -> Res γ) : (r.bind f).bind g = r.bind fun a => (f a).bind g := by cases r <;> rfl
end
abbrev cC2X (C : Ct) (N : List Str) (scope : Scope) (A : Addr) (fp : List Addr) (s₂ : Shared) (H : Hp) (xe : Value -> Shared -> Prop) (js : List Nat) : Ct := ⟨(cxComp C.X N scope A fp s₂ H).wish xe, C.XE, [], capt2 js (C.om ++ C.ln)⟩
def wantX (C : Ct) (Oc : Wd) (Ob : Addr -> Prop) (H : Hp) (Q : VK) (T : D -> Res Bool) (F : D -> Res D) (ds done : List D) (i : Nat) : Prop :=
 ((compX T F (ds.drop i)).bind fun rest => Res.ok (PyData.list (done ++ rest))).post (fun d => ∀ v H', Same H H' -> VR .new Oc Ob H H' v d -> Q v H') (fun c => ∀ H', Same H H' -> C.XE c H')
theorem zQ6 {C : Ct} {Oc : Wd} {Ob : Addr -> Prop} {H : Hp} {Q : VK} {T : D -> Res Bool} {F : D -> Res D} {ds done : List D} {i : Nat} (h : wantX C Oc Ob H Q T F ds done i) (hlt : i < ds.length) :
  (T ds[i]).post (fun b => if b = true then (F ds[i]).post (fun y => wantX C Oc Ob H Q T F ds (done ++ [y]) (i + 1)) (fun c => ∀ H', Same H H' -> C.XE c H') else wantX C Oc Ob H Q T F ds done (i + 1)) (fun c => ∀ H', Same H H' -> C.XE c H') := by
 unfold wantX at h
 rw [List.drop_eq_getElem_cons hlt, compX, kH] at h
 refine Res.zV (Res.zW h) (fun b _ k => ?_) fun _ z => z
 cases b with
 | false => exact iteF k
 | true =>
  refine iteT ?_
  have k : (((F ds[i]).bind fun y => (compX T F (ds.drop (i + 1))).bind fun ys => Res.ok (y :: ys)).bind fun rest => Res.ok (PyData.list (done ++ rest))).post _ _ := k
  rw [kH] at k
  refine Res.zV (Res.zW k) (fun y _ k => ?_) fun _ z => z
  rw [kH] at k
  unfold wantX
  cases e : compX T F (ds.drop (i + 1)) with
  | no => rw [e] at k; exact k
  | ex c => rw [e] at k; exact k
  | ok ys =>
   rw [e] at k
   have k : ∀ v H', Same H H' -> VR .new Oc Ob H H' v (.list (done ++ y :: ys)) -> Q v H' := k
   show ∀ v H', Same H H' -> VR .new Oc Ob H H' v (.list (done ++ [y] ++ ys)) -> Q v H'
   rw [List.append_assoc]
   exact k
section
variable {C : Ct} {elt : Expr} {ifs : List Expr} {scope : Scope} {N : List Str} {js : List Nat} {mi : Ev -> Res (List D)} {mt : Ev -> Res Bool} {me : Ev -> Res D} {wi : TI}
theorem zW6
  (qi : ∀ (Oc : Wd) (Ob : Addr -> Prop) (σ : St) (H : Hp) (ρ : Ev) (R : It -> Hp -> Prop), Rel Oc Ob C.om C.ln σ H ρ -> (mi ρ).post (fun ds => ∀ J H1, Same H H1 -> WalksS Oc Ob J H1 ds -> R J H1) (fun c => ∀ H', Same H H' -> C.XE c H') -> wi σ H R)
  (ht : ∀ A fp s₂ H xe, Br (cC2X C N scope A fp s₂ H xe js) -> RTs (cC2X C N scope A fp s₂ H xe js) ifs mt) (he : ∀ A fp s₂ H xe, Br (cC2X C N scope A fp s₂ H xe js) -> RE (cC2X C N scope A fp s₂ H xe js) .cl elt me)
  {Oc : Wd} {Ob : Addr -> Prop} {σ : St} {H : Hp} {ρ : Ev} {Q : VK} (R : Rel Oc Ob C.om C.ln σ H ρ) (h : (eComp2X mi mt me js ρ).post (fun d => ∀ v H', Same H H' -> VR .new Oc Ob H H' v d -> Q v H') (fun c => ∀ H', Same H H' -> C.XE c H')) :
  tComp2X C.X C.XE N scope wi (fun A fp s H xe br => Classical.choose (ht A fp s H xe br)) (fun A fp s H xe br => Classical.choose (he A fp s H xe br)) js σ H Q := by
 refine qi Oc Ob σ H ρ _ R (Res.zV (Res.zW h) (fun ds _ k J H1 s1 wk => ?_) fun _ z => z)
 intro A fp s₂ H₂ xe br
 have qt := (Classical.choose_spec (ht A fp s₂ H₂ xe br)).2
 have qe := (Classical.choose_spec (he A fp s₂ H₂ xe br)).2
 generalize hT : (fun d => pr2 d fun x y => mt (cEnv2 ρ js x y)) = T
 generalize hF : (fun d => pr2 d fun x y => me (cEnv2 ρ js x y)) = F
 have k : (if ds.length <= sizeLine then (compX T F ds).bind fun out => Res.ok (PyData.list out) else .no).post (fun d => ∀ v H', Same H H' -> VR .new Oc Ob H H' v d -> Q v H') (fun c => ∀ H', Same H H' -> C.XE c H') := by rw [<- hT, <- hF]; exact k
 by_cases hlen : ds.length <= sizeLine
 ·rw [if_pos hlen] at k
  refine ⟨fun i m acc H2 => m = ds.length - i /\ i <= ds.length /\ Same H1 H2 /\ ∃ done, Reps H2 (Uni Oc Ob) acc done /\ acc.length <= i /\ wantX C Oc Ob H Q T F ds done i, ⟨_, rfl, Nat.zero_le _, Same.refl _, [], .nil, Nat.le_refl _, k⟩, ?_⟩
  rintro i m acc H2 ⟨rfl, hi, s2, done, ra, la, w⟩
  obtain ⟨w1, w2⟩ := wk H2 s2 i
  have R2 := (R.same s1).same s2
  by_cases hlt : i < ds.length
  ·obtain ⟨go, yl⟩ := w1 ds[i] (List.getElem?_eq_getElem hlt)
   refine .inr ⟨go, fun acc' H3 => Same H1 H3 /\ ∃ done, Reps H3 (Uni Oc Ob) acc' done /\ acc'.length <= i + 1 /\ wantX C Oc Ob H Q T F ds done (i + 1), fun acc' H' z => ⟨_, by bv_omega, rfl, hlt, z⟩, fun x H3 hy => ?_⟩
   obtain ⟨s3, rx⟩ := yl x H3 hy
   have st := zQ6 w hlt
   have two : ∃ da db, ds[i] = .tuple [da, db] := by
    have e : T ds[i] = pr2 ds[i] fun x y => mt (cEnv2 ρ js x y) := by rw [<- hT]
    rw [e] at st
    exact zH6 st
   obtain ⟨da, db, ed⟩ := two
   rw [ed] at rx st
   obtain ⟨ta, x1, x2, rfl, hsq, rx1, rx2⟩ := zZ8 (K := C.X.K) rx
   have R3 := (R2.same s3).comp2 (js := js) rx1 rx2
   refine ⟨ta, x1, x2, rfl, hsq, ?_⟩
   have eT : T (.tuple [da, db]) = mt (cEnv2 ρ js da db) := by rw [<- hT]; rfl
   have eF : F (.tuple [da, db]) = me (cEnv2 ρ js da db) := by rw [<- hF]; rfl
   rw [eT, eF] at st
   refine qt _ _ _ H3 _ _ R3 (Res.zV st (fun b _ k H4 s4 => ?_) fun c z H' s' => z H' (((s1.trans s2).trans s3).trans s'))
   cases b with
   | false => exact iteF ⟨(s2.trans s3).trans s4, done, ra.same (s3.trans s4), by bv_omega, k⟩
   | true =>
    refine iteT (qe _ _ _ H4 _ _ (R3.same s4) (Res.zV k (fun y _ k v H5 s5 rv => ?_) fun c z H' s' => z H' ((((s1.trans s2).trans s3).trans s4).trans s')))
    have rv' : Rep H5 (Uni Oc Ob) v y := Rep.less rv fun b z => .inl z
    exact ⟨by bv_omega, ((s2.trans s3).trans s4).trans s5, done ++ [y], (ra.same ((s3.trans s4).trans s5)).append (.one rv'), by rw [List.length_append, List.length_singleton]; bv_omega, k⟩
  ·have ei : i = ds.length := by bv_omega
   subst ei
   refine .inl ⟨w2 (Nat.le_refl _), fun p hp => ?_⟩
   unfold wantX at w
   rw [List.drop_length] at w
   have w : ∀ v H', Same H H' -> VR .new Oc Ob H H' v (.list (done ++ [])) -> Q v H' := w
   rw [List.append_nil] at w
   exact w _ _ ((s1.trans s2).trans (Same.new hp)) (xA (s1.trans s2) hp ra)
 ·rw [if_neg hlen] at k
  exact k.elim
end
theorem zL1 {C : Ct} {elt iter : Expr} {ifs : List Expr} {sc0 scope : Scope} {N0 : List Str} {px py tp pos : Pos} {k1 : Nat} {xt yt : Str} {fs : List Str} {js : List Nat} {mi : Ev -> Res (List D)} {mt : Ev -> Res Bool} {me : Ev -> Res D} (hb : Br C) (S : CScope2 sc0 scope N0 xt yt fs js) (h0 : C.X.env.scope = sc0) (hN0 : C.X.N = N0) (hc : C.X.calm = true)
  (hi : RIc C (.Tuple [.Name xt px, .Name yt py] k1 tp) iter mi) (ht : ∀ A fp s₂ H xe, Br (cC2X C (xt :: yt :: fs) scope A fp s₂ H xe js) -> RTs (cC2X C (xt :: yt :: fs) scope A fp s₂ H xe js) ifs mt) (he : ∀ A fp s₂ H xe, Br (cC2X C (xt :: yt :: fs) scope A fp s₂ H xe js) -> RE (cC2X C (xt :: yt :: fs) scope A fp s₂ H xe js) .cl elt me)
  (hs : autoParam (∀ x, foldedSetIterable iter C.X.env x = pure x) xD._auto_1) (hst : autoParam (C.X.stack = C.X.env :: C.X.outer) zX._auto_1) (hfr : autoParam (C.X.env.frame = some C.X.env.locals) zX._auto_1) :
  RE C .new (.ListComp elt [⟨.Tuple [.Name xt px, .Name yt py] k1 tp, iter, ifs, 0⟩] scope pos) (eComp2X mi mt me js) := by
 obtain ⟨wi, pi, qi⟩ := hi
 refine ⟨_, zM6 (XE := C.XE) (tt := fun A fp s H xe br => Classical.choose (ht A fp s H xe br)) (te := fun A fp s H xe br => Classical.choose (he A fp s H xe br)) hb hst hfr S h0 hN0 hc pi (fun A fp s H xe br => (Classical.choose_spec (ht A fp s H xe br)).1) (fun A fp s H xe br => (Classical.choose_spec (he A fp s H xe br)).1) hs, fun Oc Ob σ H ρ Q R h => zW6 qi ht he R h⟩
end L2.L3
namespace L2.L3
open PySem
def seqR {α : Type} (r : α -> Res D) : List α -> Res (List D)
 | [] => .ok []
 | x :: xs => (r x).bind fun y => (seqR r xs).bind fun ys => .ok (y :: ys)
theorem cJ {α : Type} (A : α -> D) (r : α -> Res D) {f : D -> Res D} {t : D -> Res Bool} : ∀ xs : List α, (∀ x ∈ xs, t (A x) = .ok true) -> (∀ x ∈ xs, f (A x) = r x) -> compX t f (xs.map A) = seqR r xs
 | [], _, _ => rfl
 | x :: xs, ht, h => by
  rw [List.map_cons, compX, seqR, ht x (List.mem_cons_self ..), h x (List.mem_cons_self ..), cJ A r xs (fun y hy => ht y (List.mem_cons_of_mem _ hy)) fun y hy => h y (List.mem_cons_of_mem _ hy)]
  rfl
theorem zV5 {α : Type} (p : α -> Bool) (q : α -> D) (c : Str) {r : α -> Res D} : ∀ xs : List α, (∀ x ∈ xs, r x = if p x = true then .ok (q x) else .ex c) -> seqR r xs = if xs.all p = true then .ok (xs.map q) else .ex c
 | [], _ => rfl
 | x :: xs, h => by
  rw [seqR, h x (List.mem_cons_self ..), zV5 p q c xs fun y hy => h y (List.mem_cons_of_mem _ hy), List.all_cons]
  cases p x <;> cases xs.all p <;> rfl
theorem zW2 {mi : Ev -> Res (List D)} {me : Ev -> Res D} {js : List Nat} {ρ : Ev} {α : Type} (A B : α -> D) (r : α -> Res D) (xs : List α) (h : mi ρ = .ok (xs.map fun x => PyData.tuple [A x, B x])) (hl : xs.length <= 1000) (hf : ∀ x ∈ xs, me (cEnv2 ρ js (A x) (B x)) = r x) : eComp2X mi tYes me js ρ = (seqR r xs).bind fun out => .ok (.list out) := by
 unfold eComp2X
 rw [h, Res.bind_ok, dO (by rw [List.length_map]; exact hl), cJ (fun x => PyData.tuple [A x, B x]) r xs (fun _ _ => rfl) hf]
end L2.L3
namespace MR
theorem getD_mem {xs : List Int} {i : Nat} (h : i < xs.length) : xs.getD i 0 ∈ xs := by
 rw [List.getD, List.getElem?_eq_getElem h]
 exact List.getElem_mem h
end MR
local macro_rules | `(tactic| sleep 1) => `(tactic| exact ⟨rfl, rfl, rfl, by decide +kernel, rfl, by decide +kernel, by decide +kernel⟩)
local macro_rules | `(tactic| sleep 2) => `(tactic| exact ⟨rfl, by decide +kernel, by decide +kernel, by decide +kernel, by decide +kernel, rfl, by decide +kernel, by decide +kernel⟩)
namespace K23
open PySem L2 L2.L3
def top (i : Nat) : Stmt := PySem.Challenge.pw_ownboxes_k23_plans_refused.main.body.getD i (.Pass ⟨0, 0, 0, 0⟩)
abbrev wP : Stmt := top 11
abbrev xW : Stmt := top 14
abbrev vV : Stmt := top 15
abbrev vY : Stmt := top 16
abbrev xR : Stmt := top 17
abbrev xS : Stmt := top 18
abbrev uT : Stmt := top 20
abbrev qW : Stmt := top 21
abbrev jB : Stmt := top 22
abbrev wL : Stmt := top 23
abbrev uY : Stmt := top 24
abbrev qS : Stmt := top 25
abbrev wI : Stmt := top 26
abbrev vZ : Stmt := top 27
abbrev jV : Stmt := top 28
abbrev jQ : Stmt := top 29
abbrev jI : Stmt := top 30
abbrev wH : Stmt := top 31
abbrev gM : Stmt := top 32
abbrev dU : Stmt := top 33
abbrev CLS : List Str := ["BadOpenings", "BadPlan"]
def xI : Ev -> Res Out := (sQ (sIf (tNt (b3 leI leI (eC (.int 1)) (eV 0) (eC (.int 60)))) (sRa "BadOpenings" (aC (eC (.str "openings are for 1 to 60 people")) aN)) sN) (sQ (sIf (b2 neD (eB lenD (aC (eV 1) aN)) (eV 0)) (sRa "BadOpenings" (aC (eC (.str "each person has its openings")) aN)) sN) (sQ (sIf (tO (b2 ltI (eB min1D (aC (eV 1) aN)) (eC (.int 0))) (b2 gtI (eB max1D (aC (eV 1) aN)) (eV 0))) (sRa "BadOpenings" (aC (eC (.str "openings are from 0 to as many as there are boxes")) aN)) sN) (sR (eB tupD (aC (eV 1) aN))))))
def wQ : List D -> Res D := runF false 2 2 xI
def yJ : Ev -> Res Out := (sQ (sIf (b2 gtI (eB lenD (aC (eV 0) aN)) (eC (.int 6))) (sRa "BadOpenings" (aC (eC (.str "plans are for 1 to 6 people")) aN)) sN) (sR (eF wQ (aC (eB lenD (aC (eV 0) aN)) (aC (eV 0) aN)))))
def yI : List D -> Res D := runF false 1 1 yJ
def vX (Fself : List D -> Res D) : Ev -> Res Out := (sQ (sIf (b2 (isND false) (eV 0) (eC .none)) (sR (eC .none)) sN) (sQ (sS 5 (e2 ixD (eV 0) (eC (.int 0)))) (sQ (sS 6 (e2 ixD (eV 0) (eC (.int 1)))) (sQ (sIf (b2 eqD (eV 2) (eC (.int 0))) (sRa "BadPlan" (aC (eC (.str "a way down a tree has more boxes than there are openings")) aN)) sN) (sQ (sIf (tNt (b3 leI ltI (eC (.int 0)) (eV 5) (eV 1))) (sRa "BadPlan" (aC (eC (.str "a tree has a box that is not there")) aN)) sN) (sQ (sIf (b2 (inD false) (eV 5) (eV 3)) (sRa "BadPlan" (aC (eC (.str "a way down a tree has a box twice")) aN)) sN) (sQ (sIf (b2 neD (eB lenD (aC (eV 6) aN)) (eV 1)) (sRa "BadPlan" (aC (eC (.str "each box of a tree has a next tree for each person")) aN)) sN) (sQ (sS 7 (eB mkL aN)) (sQ (sF (xU (eV 6)) (gT 2 (gsC (gN 8) (gsC (gN 9) gsN))) (sQ (sIf (tAn (b2 (isND true) (eV 9) (eC .none)) (b2 (inD false) (eV 8) (eV 4))) (sRa "BadPlan" (aC (eC (.str "a tree goes on by the own name, or by a name found before")) aN)) sN) (sM 7 appD (aC (eF Fself (aC (eV 9) (aC (eV 1) (aC (e2 subI (eV 2) (eC (.int 1))) (aC (e2 catL (eV 3) (eB mkL (aC (eV 5) aN))) (aC (e2 catL (eV 4) (eB mkL (aC (eV 8) aN))) aN)))))) aN)))) (sR (eB mkT (aC (eV 5) (aC (eB tupD (aC (eV 7) aN)) aN)))))))))))))
def yD : Nat -> List D -> Res D
 | 0 => fun _ => .no
 | n + 1 => runF false 5 10 (vX (yD n))
def wD : List D -> Res D := yD 12
def qH : Ev -> Res Out := (sQ (sS 2 (eF yI (aC (eV 0) aN))) (sQ (sS 3 (eB lenD (aC (eV 2) aN))) (sQ (sIf (b2 neD (eB lenD (aC (eV 1) aN)) (eV 3)) (sRa "BadPlan" (aC (eC (.str "a plan has a tree for each person")) aN)) sN) (sR (eB tupD (aC (eComp2X (xU (eV 1)) tYes (eF wD (aC (eV 1) (aC (eV 2) (aC (e2 ixD (eV 3) (eV 0)) (aC (eB mkL aN) (aC (eB mkL (aC (eV 0) aN)) aN)))))) [3, 2]) aN))))))
def uU : List D -> Res D := runF false 2 4 qH
def xL (Fself : List D -> Res D) : Ev -> Res Out := (sQ (sIf (b2 eqD (eV 2) (eC (.int 0))) (sR (eC .none)) sN) (sQ (sS 4 (e2 repL (eB mkL (aC (eC .none) aN)) (eV 1))) (sQ (sF (iR rng1 (aC (eV 1) aN)) (gN 5) (sIf (b2 (inD true) (eV 5) (eV 3)) (sI 4 (eV 5) (eF Fself (aC (eV 5) (aC (eV 1) (aC (e2 subI (eV 2) (eC (.int 1))) (aC (e2 catL (eV 3) (eB mkL (aC (eV 5) aN))) aN)))))) sN)) (sR (eB mkT (aC (eV 0) (aC (eB tupD (aC (eV 4) aN)) aN)))))))
def yF : Nat -> List D -> Res D
 | 0 => fun _ => .no
 | n + 1 => runF false 4 6 (xL (yF n))
def xN : List D -> Res D := yF 12
def xQ : Ev -> Res Out := (sQ (sS 1 (eF yI (aC (eV 0) aN))) (sQ (sS 2 (eB lenD (aC (eV 1) aN))) (sR (eB tupD (aC (eComp2 (xU (eV 1)) tYes (eF xN (aC (eV 0) (aC (eV 2) (aC (eV 1) (aC (eB mkL (aC (eV 0) aN)) aN))))) [2]) aN)))))
def xP : List D -> Res D := runF false 1 3 xQ
def qG : Ev -> Res Out := (sQ (sIf (b2 ltI (eV 1) (eB lenD (aC (eV 0) aN))) (sR (e2 ixD (eV 0) (eV 1))) sN) (sR (eC (.int 0))))
def wA : List D -> Res D := runF false 2 2 qG
def fW : Ev -> Res Out := (sR (eComp (iR rng1 (aC (eV 2) aN)) tYes (eB sumD (aC (eS3 (eV 1) (oS (e2 addI (eV 2) (eV 0))) oN (oS (eV 3))) aN)) [0, 1, 2]))
def jA : List D -> Res D := runF true 3 3 fW
def jH : List D -> Res D := plF jA
def uH : List D -> Res D := grF 4 5 4 wA
def wC (Fself : List D -> Res D) : Ev -> Res Out := (sQ (sIf (b2 (isND false) (eV 0) (eC .none)) (sR (eC (.bool true))) sN) (sQ (sIf (tO (b2 eqD (eV 2) (eC (.int 0))) (tO (b2 ltI (e2 ixD (eV 0) (eC (.int 0))) (eC (.int 0))) (tO (b2 geI (e2 ixD (eV 0) (eC (.int 0))) (eV 1)) (tO (b2 (inD false) (e2 ixD (eV 0) (eC (.int 0))) (eV 3)) (b2 neD (eB lenD (aC (e2 ixD (eV 0) (eC (.int 1))) aN)) (eV 1)))))) (sR (eC (.bool false))) sN) (sQ (sF (iR rng1 (aC (eV 1) aN)) (gN 5) (sIf (b2 (inD false) (eV 5) (eV 4)) (sIf (b2 (isND true) (e2 ixD (e2 ixD (eV 0) (eC (.int 1))) (eV 5)) (eC .none)) (sR (eC (.bool false))) sN) (sIf (tNt (tV (eF Fself (aC (e2 ixD (e2 ixD (eV 0) (eC (.int 1))) (eV 5)) (aC (eV 1) (aC (e2 subI (eV 2) (eC (.int 1))) (aC (e2 catL (eV 3) (eB mkL (aC (e2 ixD (eV 0) (eC (.int 0))) aN))) (aC (e2 catL (eV 4) (eB mkL (aC (eV 5) aN))) aN)))))))) (sR (eC (.bool false))) sN))) (sR (eC (.bool true))))))
def xV : Nat -> List D -> Res D
 | 0 => fun _ => .no
 | n + 1 => runF false 5 6 (wC (xV n))
def uV : List D -> Res D := xV 12
def dP : Ev -> Res Out := (sQ (sS 2 (eB lenD (aC (eV 0) aN))) (sQ (sIf (tO (b2 ltI (eV 2) (eC (.int 1))) (tO (b2 gtI (eV 2) (eC (.int 6))) (tNt (tV (eB allD (aC (eComp (iS (eV 0)) tYes (vB (b3 leI leI (eC (.int 0)) (eV 0) (eV 1))) [2]) aN)))))) (sR (eC (.str "openings"))) sN) (sQ (sIf (b2 neD (eB lenD (aC (eV 1) aN)) (eV 2)) (sR (eC (.str "plan"))) sN) (sQ (sF (iR rng1 (aC (eV 2) aN)) (gN 3) (sIf (tNt (tV (eF uV (aC (e2 ixD (eV 1) (eV 3)) (aC (eV 2) (aC (e2 ixD (eV 0) (eV 3)) (aC (eB mkL aN) (aC (eB mkL (aC (eV 3) aN)) aN)))))))) (sR (eC (.str "plan"))) sN)) (sR (eC (.str "none")))))))
def uE : List D -> Res D := runF false 2 4 dP
def qD (Fself : List D -> Res D) : Ev -> Res Out := (sQ (sIf (tO (b2 eqD (eV 1) (eB mkL aN)) (b2 (isND false) (eV 0) (eC .none))) (sR (eV 2)) sN) (sQ (sS 3 (eB listD (aC (e2 ixD (eV 0) (eC (.int 1))) aN))) (sQ (sS 4 (e2 modI (e2 ixD (eV 1) (eC (.int 0))) (eB lenD (aC (eV 3) aN)))) (sQ (sI 3 (eV 4) (eF Fself (aC (e2 ixD (eV 3) (eV 4)) (aC (eS slD (eV 1) (oS (eC (.int 1))) oN) (aC (eV 2) aN))))) (sR (eB mkT (aC (e2 ixD (eV 0) (eC (.int 0))) (aC (eB tupD (aC (eV 3) aN)) aN))))))))
def uW : Nat -> List D -> Res D
 | 0 => fun _ => .no
 | n + 1 => runF false 3 5 (qD (uW n))
def wV : List D -> Res D := uW 12
def fR : Ev -> Res Out := (sQ (sF (iS (eV 1)) (gN 2) (sIf (b2 (isND true) (eV 0) (eC .none)) (sS 0 (e2 ixD (e2 ixD (eV 0) (eC (.int 1))) (e2 modI (eV 2) (eB lenD (aC (e2 ixD (eV 0) (eC (.int 1))) aN))))) sN)) (sR (eV 0)))
def xC : List D -> Res D := runF false 2 3 fR
def gJ : Ev -> Res Out := (sQ (sS 3 (eC (.str "none"))) (sQ (sTry 4 CLS (sIf (b2 eqD (eV 0) (eC (.int 0))) (sE (eF uU (aC (eV 1) (aC (eV 2) aN)))) (sE (eF xP (aC (eV 1) aN)))) (sQ (sS 3 (eC (.str "odd"))) (sQ (sS 5 (e1 (isiX CLS ["BadBox", "BadOrder", "NoNumber", "NoPerson", "TooMany"]) (eV 4))) (sIf (tAn (tV (e1 (isiX CLS CLS) (eV 4))) (tAn (tNt (tV (eV 5))) (b2 neD (e1 (isiX CLS ["BadOpenings"]) (eV 4)) (e1 (isiX CLS ["BadPlan"]) (eV 4))))) (sS 3 (e2 ixD (eB mkL (aC (eC (.str "plan")) (aC (eC (.str "openings")) aN))) (eB intD (aC (e1 (isiX CLS ["BadOpenings"]) (eV 4)) aN)))) sN)))) (sR (eV 3))))
def wR : List D -> Res D := runF false 3 6 gJ
def zP3 : Ev -> Res Out := (sQ (sA (eF uH (aC (eV 0) aN)) (gT 2 (gsC (gN 1) (gsC (gN 2) gsN)))) (sQ (sS 3 (eF jH (aC (eV 0) (aC (eV 1) (aC (eV 2) aN))))) (sQ (sF (iS (e2 catL (eB mkL (aC (eB lenD (aC (eV 0) aN)) aN)) (eB listD (aC (eS slD (eV 0) (oS (eC (.int 1))) (oS (eC (.int 41)))) aN)))) (gN 4) (sQ (sA (eF (spoH xC wV) (aC (eV 2) (aC (eV 3) (aC (eV 4) aN)))) (gT 2 (gsC (gN 5) (gsC (gN 6) gsN)))) (sQ (sS 7 (eB listD (aC (eV 6) aN))) (sQ (sIf (tO (b2 neD (eF wR (aC (eC (.int 0)) (aC (eV 5) (aC (eV 7) aN)))) (eF uE (aC (eV 5) (aC (eV 6) aN)))) (b2 neD (eV 7) (eV 6))) (sR (eC (.bool false))) sN) (sIf (b2 neD (eF wR (aC (eC (.int 1)) (aC (eV 5) (aC (eB mkL aN) aN)))) (e2 ixD (eB mkL (aC (eC (.str "none")) (aC (eC (.str "openings")) aN))) (eB intD (aC (e2 (fun x y => bD (eqD x y)) (eF uE (aC (eV 5) (aC (eV 6) aN))) (eC (.str "openings"))) aN)))) (sR (eC (.bool false))) sN))))) (sR (e2 (fun x y => bD (eqD x y)) (eComp (iR rng1 (aC (eC (.int 2)) aN)) tYes (eF wR (aC (eV 0) (aC (eV 1) (aC (eV 2) aN)))) [2, 3]) (eB mkL (aC (eC (.str "none")) (aC (eC (.str "none")) aN))))))))
def zQ7 : List D -> Res D := runF false 1 8 zP3
structure Txt [CN] (K : KFr) (mg : Str -> Option Value) : Prop where
 g_ValueError : mg "ValueError" = none
 g_all : mg "all" = none
 g_enumerate : mg "enumerate" = none
 g_int : mg "int" = none
 g_isinstance : mg "isinstance" = none
 g_len : mg "len" = none
 g_list : mg "list" = none
 g_max : mg "max" = none
 g_min : mg "min" = none
 g_range : mg "range" = none
 g_sum : mg "sum" = none
 g_tuple : mg "tuple" = none
 c_MOST_IN_A_PLAN : ∃ u, mg "MOST_IN_A_PLAN" = some u /\ RelV (.int 6) u
 c_MOST_PEOPLE : ∃ u, mg "MOST_PEOPLE" = some u /\ RelV (.int 60) u
 d_made_openings : ∃ f fd, Has K mg "made_openings" wP f fd ["people", "numbers"]
 d_openings_of_a_plan : ∃ f fd, Has K mg "openings_of_a_plan" xW f fd ["openings"]
 d_made_tree : ∃ f fd, Has K mg "made_tree" vV f fd ["tree", "people", "left", "boxes", "names"]
 d_made_plan : ∃ f fd, Has K mg "made_plan" vY f fd ["openings", "trees"]
 d_following_tree : ∃ f fd, Has K mg "following_tree" xR f fd ["box", "people", "left", "names"]
 d_following_plan : ∃ f fd, Has K mg "following_plan" xS f fd ["openings"]
 d_l_cell_at : ∃ f fd, Has K mg "_law_cell_at" uT f fd ["script", "k"]
 d_l_sums : ∃ f fd, Has K mg "_law_sums" qW f fd ["script", "start", "many"]
 d_l_take : ∃ f fd, Has K mg "_law_take" jB f fd ["pot", "many"]
 d_l_openings : ∃ f fd, Has K mg "_law_openings" wL f fd ["pot", "people"]
 d_l_tree : ∃ f fd, Has K mg "_law_tree" uY f fd ["pot", "people", "left", "boxes", "names", "thin"]
 d_l_plan : ∃ f fd, Has K mg "_law_plan" qS f fd ["script", "people", "openings"]
 d_l_ground : ∃ f fd, Has K mg "_law_ground" wI f fd ["script"]
 d_l_is_tree : ∃ f fd, Has K mg "_law_is_tree" vZ f fd ["tree", "people", "left", "boxes", "names"]
 d_l_due : ∃ f fd, Has K mg "_law_due" jV f fd ["openings", "trees"]
 d_l_put : ∃ f fd, Has K mg "_law_put" jQ f fd ["tree", "way", "other"]
 d_l_part : ∃ f fd, Has K mg "_law_part" jI f fd ["tree", "way"]
 d_l_spoilt : ∃ f fd, Has K mg "_law_spoilt" wH f fd ["openings", "plan", "pot"]
 d_l_met : ∃ f fd, Has K mg "_law_met" gM f fd ["way", "openings", "trees"]
 d_law : ∃ f fd, Has K mg "law" dU f fd ["script"]
 x_BadBox : mg "BadBox" = some (.ref (CN.ad "BadBox"))
 x_BadOpenings : mg "BadOpenings" = some (.ref (CN.ad "BadOpenings"))
 x_BadOrder : mg "BadOrder" = some (.ref (CN.ad "BadOrder"))
 x_BadPlan : mg "BadPlan" = some (.ref (CN.ad "BadPlan"))
 x_BoxError : mg "BoxError" = some (.ref (CN.ad "BoxError"))
 x_NoNumber : mg "NoNumber" = some (.ref (CN.ad "NoNumber"))
 x_NoPerson : mg "NoPerson" = some (.ref (CN.ad "NoPerson"))
 x_TooMany : mg "TooMany" = some (.ref (CN.ad "TooMany"))
 ox_BadOpenings : OwnX K "BadOpenings"
 ox_BadPlan : OwnX K "BadPlan"
 kx_BadBox : IsK K CLS ["BadBox"] (.ref (CN.ad "BadBox"))
 kx_BadOpenings : IsK K CLS ["BadOpenings"] (.ref (CN.ad "BadOpenings"))
 kx_BadOrder : IsK K CLS ["BadOrder"] (.ref (CN.ad "BadOrder"))
 kx_BadPlan : IsK K CLS ["BadPlan"] (.ref (CN.ad "BadPlan"))
 kx_NoNumber : IsK K CLS ["NoNumber"] (.ref (CN.ad "NoNumber"))
 kx_NoPerson : IsK K CLS ["NoPerson"] (.ref (CN.ad "NoPerson"))
 kx_TooMany : IsK K CLS ["TooMany"] (.ref (CN.ad "TooMany"))
 kv_ValueError : IsK K CLS CLS (.type "ValueError")
 tx_BoxError : ∀ c : Str, CLS.contains c = true -> PySem.W.kitCls K (.ref (CN.ad c)) (.ref (CN.ad "BoxError")) = some true
 tb_BoxError : PySem.W.subIn K (.ref (CN.ad "BoxError")) (.type "BaseException") = some true
section
variable [CN] {P : Program} {w : World} {K : KFr} {mg : Str -> Option Value} {base : Heap}
theorem qZ : zH ["people", "numbers"] ["people", "numbers"] (zP wP) := by sleep 1
theorem fT (T : Txt K mg) {f : Addr} {fd : FuncData} (h : Has K mg "made_openings" wP f fd ["people", "numbers"]) : FnOk P w K mg base (CXV P w) 1 f fd ["people", "numbers"] (spX false wQ) := by
 refine wE [] h.F qZ fun cdv A outer s H E hr => ?_
 have nd := qZ.nd
 have u := hr.units
 exact (zM (yS (qC (bB dY dY fI fI zG (zZ 0) (aE T.c_MOST_PEOPLE.choose_spec.1 T.c_MOST_PEOPLE.choose_spec.2))) (zN (xB zB T.ox_BadOpenings T.x_BadOpenings (zL yQ zQ))) yZ) (zM (yS (zD (vJ u) uG (yU zE xH T.g_len PySem.boot_len (zL (zZ 1) zQ)) (zZ 0)) (zN (xB zB T.ox_BadOpenings T.x_BadOpenings (zL yQ zQ))) yZ) (zM (yS (RW.rt (rw_or (zD fK dR (yU (zJ6 rfl) yW9 T.g_min PyProof.Rows.boot_min (zL (zZ 1) zQ)) zG) (rw_or1 (zD zP4 zP9 (yU (zL7 rfl) zA9 T.g_max PyProof.Rows.boot_max (zL (zZ 1) zQ)) (zZ 0))))) (zN (xB zB T.ox_BadOpenings T.x_BadOpenings (zL yQ zQ))) yZ) (zN (yX (yC yV qE T.g_tuple (by rfl) (zL (zZ 1) zQ)))))))
theorem vQ : zH ["openings"] ["openings"] (zP xW) := by sleep 1
theorem vN (T : Txt K mg) {f : Addr} {fd : FuncData} (h : Has K mg "openings_of_a_plan" xW f fd ["openings"]) : FnOk P w K mg base (CXV P w) 2 f fd ["openings"] (spX false yI) := by
 obtain ⟨_, _, h0⟩ := T.d_made_openings
 refine wE [] h.F vQ fun cdv A outer s H E hr => ?_
 have nd := vQ.nd
 have u := hr.units
 exact (zM (yS (zD zP4 zP9 (yU zE xH T.g_len PySem.boot_len (zL (zZ 0) zQ)) (aE T.c_MOST_IN_A_PLAN.choose_spec.1 T.c_MOST_IN_A_PLAN.choose_spec.2)) (zN (xB zB T.ox_BadOpenings T.x_BadOpenings (zL yQ zQ))) yZ) (zN (yX (yY (fT T h0) h0 (hr.mono (by decide)) zB (zS (yU zE xH T.g_len PySem.boot_len (zL (zZ 0) zQ)) (zS (zZ 0) zQ))))))
theorem kL : zH ["tree", "people", "left", "boxes", "names", "box", "nexts", "told", "name", "coming"] ["tree", "people", "left", "boxes", "names"] (zP vV) := by sleep 1
theorem bN (T : Txt K mg) {f : Addr} {fd : FuncData} (h : Has K mg "made_tree" vV f fd ["tree", "people", "left", "boxes", "names"]) : ∀ n, FnOk P w K mg base (CXV P w) (1 + n) f fd ["tree", "people", "left", "boxes", "names"] (spX false (yD n)) := by
 intro n
 induction n with
 | zero => exact zX1
 | succ n G_made_tree =>
 have h0 := h
 refine wE [7] h.F kL fun cdv A outer s H E hr => ?_
 have nd := kL.nd
 have u := hr.units
 exact (zM (yS (zD zY7 zP2 (zZ 0) vL) (zN (yX vL)) yZ) (zM (xM 5 nd (yM yT yL (zZ 0) zG)) (zM (xM 6 nd (yM yT yL (zZ 0) zG)) (zM (yS (zD (yK u) jL (zZ 2) zG) (zN (xB (zB (om := [7])) T.ox_BadPlan T.x_BadPlan (zL yQ zQ))) yZ) (zM (yS (qC (bB dY fK fI dR zG (zZ 5) (zZ 1))) (zN (xB (zB (om := [7])) T.ox_BadPlan T.x_BadPlan (zL yQ zQ))) yZ) (zM (yS (zD uQ fH (zZ 5) (zZ 3)) (zN (xB (zB (om := [7])) T.ox_BadPlan T.x_BadPlan (zL yQ zQ))) yZ) (zM (yS (zD (vJ u) uG (yU zE xH T.g_len PySem.boot_len (zL (zZ 6) zQ)) (zZ 1)) (zN (xB (zB (om := [7])) T.ox_BadPlan T.x_BadPlan (zL yQ zQ))) yZ) (zM (dL 7 nd (yO zQ)) (zM (yZ1 (qU T.g_enumerate (RE.rd (zZ 6))) (aQ rfl (vE (wZ 8 nd) (vE (wZ 9 nd) dM))) (zM (yS (RW.rt (rw_and (zD jW fS (zZ 9) vL) (rw_and1 (zD uQ fH (zZ 8) (zZ 4))))) (zN (xB (zB (om := [7])) T.ox_BadPlan T.x_BadPlan (zL yQ zQ))) yZ) (zN (zA5 7 PySem.F.slot_list_append PySem.F.type_list_append qM zN6 (zS (yY G_made_tree h0 hr (zB (om := [7])) (zS (zZ 9) (zS (zZ 1) (zS (wF uM zZ1 (zZ 2) zG) (zS (RE.cl (wF wG jN (zZ 3) (yO (zS (zZ 5) zQ)))) (zS (RE.cl (wF wG jN (zZ 4) (yO (zS (zZ 8) zQ)))) zQ)))))) zQ)))) PassesOwn.leaving) (zN (yX (zY5 (zS (zZ 5) (zS (yC yV qE T.g_tuple (by rfl) (zL (kR 7) zQ)) zQ))))))))))))))
theorem zZ2 (T : Txt K mg) {f : Addr} {fd : FuncData} (h : Has K mg "made_tree" vV f fd ["tree", "people", "left", "boxes", "names"]) : FnOk P w K mg base (CXV P w) 13 f fd ["tree", "people", "left", "boxes", "names"] (spX false wD) := bN T h 12
theorem hG : zH ["openings", "trees", "numbers", "people"] ["openings", "trees"] (zP vY) := by sleep 1
theorem aF (T : Txt K mg) {f : Addr} {fd : FuncData} (h : Has K mg "made_plan" vY f fd ["openings", "trees"]) : FnOk P w K mg base (CXV P w) 14 f fd ["openings", "trees"] (spX false uU) := by
 obtain ⟨_, _, h0⟩ := T.d_openings_of_a_plan
 obtain ⟨_, _, h1⟩ := T.d_made_tree
 refine wE [] h.F hG fun cdv A outer s H E hr => ?_
 have nd := hG.nd
 have u := hr.units
 exact (zM (xM 2 nd (yY (vN T h0) h0 (hr.mono (by decide)) zB (zS (zZ 0) zQ))) (zM (xM 3 nd (yU zE xH T.g_len PySem.boot_len (zL (zZ 2) zQ))) (zM (yS (zD (vJ u) uG (yU zE xH T.g_len PySem.boot_len (zL (zZ 1) zQ)) (zZ 3)) (zN (xB zB T.ox_BadPlan T.x_BadPlan (zL yQ zQ))) yZ) (zN (yX (yC yV qE T.g_tuple (by rfl) (zL (zL1 (sc0 := zP vY) (N0 := ["openings", "trees", "numbers", "people"]) (fs := ["people", "numbers"]) (js := [3, 2]) zB (by exact ⟨rfl, by decide +kernel, by decide +kernel, by decide +kernel, by decide +kernel, by decide +kernel, rfl, by decide +kernel, by decide +kernel⟩) rfl rfl rfl (RIo.c (qU T.g_enumerate (RE.rd (zZ 1)))) (fun _ _ _ _ _ bi => jS) (fun _ _ _ _ _ bi => (yY (zZ2 T h1) h1 (hr.mono (by decide)) bi (zS (zZ 1) (zS (zZ 2) (zS (yM yT yL (zZ 3) (zZ 0)) (zS (RE.cl (yO zQ)) (zS (RE.cl (yO (zS (zZ 0) zQ))) zQ)))))))) zQ)))))))
theorem uK : zH ["box", "people", "left", "names", "nexts", "name"] ["box", "people", "left", "names"] (zP xR) := by sleep 1
theorem kO (T : Txt K mg) {f : Addr} {fd : FuncData} (h : Has K mg "following_tree" xR f fd ["box", "people", "left", "names"]) : ∀ n, FnOk P w K mg base (CXV P w) (1 + n) f fd ["box", "people", "left", "names"] (spX false (yF n)) := by
 intro n
 induction n with
 | zero => exact zX1
 | succ n G_following_tree =>
 have h0 := h
 refine wE [4] h.F uK fun cdv A outer s H E hr => ?_
 have nd := uK.nd
 have u := hr.units
 exact (zM (yS (zD (yK u) jL (zZ 2) zG) (zN (yX vL)) yZ) (zM (dL 4 nd (wF zW8 yT1 (yO (zS vL zQ)) (zZ 1))) (zM (kS (uR T.g_range (zL (zZ 1) zQ)) (wZ 5 nd) (zN (yS (zD kG fH (zZ 5) (zZ 3)) (zN (zU9 4 (yY G_following_tree h0 hr (zB (om := [4])) (zS (zZ 5) (zS (zZ 1) (zS (wF uM zZ1 (zZ 2) zG) (zS (RE.cl (wF wG jN (zZ 3) (yO (zS (zZ 5) zQ)))) zQ))))) (zZ 5))) yZ)) PassesOwn.leaving) (zN (yX (zY5 (zS (zZ 0) (zS (yC yV qE T.g_tuple (by rfl) (zL (kR 4) zQ)) zQ))))))))
theorem gC (T : Txt K mg) {f : Addr} {fd : FuncData} (h : Has K mg "following_tree" xR f fd ["box", "people", "left", "names"]) : FnOk P w K mg base (CXV P w) 13 f fd ["box", "people", "left", "names"] (spX false xN) := kO T h 12
theorem uJ : zH ["openings", "numbers", "people"] ["openings"] (zP xS) := by sleep 1
theorem gE (T : Txt K mg) {f : Addr} {fd : FuncData} (h : Has K mg "following_plan" xS f fd ["openings"]) : FnOk P w K mg base (CXV P w) 14 f fd ["openings"] (spX false xP) := by
 obtain ⟨_, _, h0⟩ := T.d_openings_of_a_plan
 obtain ⟨_, _, h1⟩ := T.d_following_tree
 refine wE [] h.F uJ fun cdv A outer s H E hr => ?_
 have nd := uJ.nd
 have u := hr.units
 exact (zM (xM 1 nd (yY (vN T h0) h0 (hr.mono (by decide)) zB (zS (zZ 0) zQ))) (zM (xM 2 nd (yU zE xH T.g_len PySem.boot_len (zL (zZ 1) zQ))) (zN (yX (yC yV qE T.g_tuple (by rfl) (zL (zC6 (sc0 := zP xS) (N0 := ["openings", "numbers", "people"]) (fs := ["people"]) (js := [2]) (by exact ⟨rfl, by decide +kernel, by decide +kernel, by decide +kernel, by decide +kernel, by decide +kernel, rfl, by decide +kernel, by decide +kernel⟩) rfl rfl rfl (RIo.c (qU T.g_enumerate (RE.rd (zZ 1)))) (fun _ _ _ _ => jS) (fun _ _ _ _ => (yY (gC T h1) h1 (hr.mono (by decide)) (zB2 fun _ _ h => h) (zS (zZ 0) (zS (zZ 2) (zS (zZ 1) (zS (RE.cl (yO (zS (zZ 0) zQ))) zQ))))))) zQ))))))
theorem kJ : zH ["script", "k"] ["script", "k"] (zP uT) := by sleep 1
theorem bM (T : Txt K mg) {f : Addr} {fd : FuncData} (h : Has K mg "_law_cell_at" uT f fd ["script", "k"]) : FnOk P w K mg base CX0 1 f fd ["script", "k"] (spF false wA) := by
 refine bI [] h.F kJ fun cdv A outer s H E hr => ?_
 have nd := kJ.nd
 have u := hr.units
 exact (zM (yS (zD fK dR (zZ 1) (yU zE xH T.g_len PySem.boot_len (zL (zZ 0) zQ))) (zN (yX (yM yT yL (zZ 0) (zZ 1)))) yZ) (zN (yX zG)))
theorem bT : zH ["script", "start", "many"] ["script", "start", "many"] (zP qW) := by sleep 1
theorem zR4 (T : Txt K mg) {f : Addr} {fd : FuncData} (h : Has K mg "_law_sums" qW f fd ["script", "start", "many"]) : FnOk P w K mg base CX0 1 f fd ["script", "start", "many"] (spF true jA) := by
 refine bI [] h.F bT fun cdv A outer s H E hr => ?_
 have nd := bT.nd
 have u := hr.units
 exact (zN (zA4 (dG (sc0 := zP qW) (N0 := ["script", "start", "many"]) (fs := ["script", "start", "many"]) (js := [0, 1, 2]) (by sleep 2) rfl rfl rfl (RI.c (uR T.g_range (zL (zZ 2) zQ))) (fun _ _ _ _ => jS) (fun _ _ _ _ => (yU (zN9 rfl) yQ5 T.g_sum PyProof.Rows.boot_sum (zL (zI8 (zZ 1) (qA (wF qB yR3 (zZ 2) (zZ 0))) zT3 (qA (zZ 3))) zQ))))))
theorem cN : zH ["pot", "many", "digit"] ["pot", "many"] (zP jB) := by sleep 1
theorem yW (T : Txt K mg) {f : Addr} {fd : FuncData} (h : Has K mg "_law_take" jB f fd ["pot", "many"]) : FnOk P w K mg base CX0 1 f fd ["pot", "many"] spTake := by
 refine yU3 h.F cN rfl rfl fun cdv A outer s H E hr => ?_
 have nd := cN.nd
 exact (zI (yR (i := 2) nd rfl (by first | exact Or.inl rfl | exact Or.inr rfl) (yA zX3 (xY yB (pv 0) zK (fun _ _ => rfl)) (pv 1))) (zI (vH (yA zE9 (xY yB (pv 0) zK (fun _ _ => rfl)) (pv 1)) (uN (pv 0) zK wJ)) (zF (vI (pv 2)))))
theorem kT : zH ["pot", "people"] ["pot", "people"] (zP wL) := by sleep 1
theorem dJ (T : Txt K mg) {f : Addr} {fd : FuncData} (h : Has K mg "_law_openings" wL f fd ["pot", "people"]) : FnOk P w K mg base CX0 2 f fd ["pot", "people"] spOpn := by
 obtain ⟨_, _, h0⟩ := T.d_l_take
 refine yN3 h.F kT rfl rfl fun cdv A outer s H E hr => ?_
 have nd := kT.nd
 exact (zF (vI (wU yV rfl T.g_tuple (by rfl) (zY (cZ (sc0 := zP wL) (N0 := ["pot", "people"]) (fs := ["pot", "people"]) (js := [0, 1]) (by sleep 2) rfl rfl rfl (wN rfl T.g_range (zY (pv 1) zO)) (fun _ _ _ _ => .nil) (fun _ _ _ _ => (zC (yW T h0) (hr.mono (by decide)) rfl h0.m h0.F.kp h0.b .nil pass0 (zY (pv 1) (zY (yA qB (pv 2) zK) zO))))) zO))))
theorem bV : zH ["pot", "people", "left", "boxes", "names", "thin", "closed", "box", "nexts", "name"] ["pot", "people", "left", "boxes", "names", "thin"] (zP uY) := by sleep 1
theorem zP7 (T : Txt K mg) {f : Addr} {fd : FuncData} (h : Has K mg "_law_tree" uY f fd ["pot", "people", "left", "boxes", "names", "thin"]) : ∀ n, FnOk P w K mg base CX0 (2 + n) f fd ["pot", "people", "left", "boxes", "names", "thin"] (spTree n) := by
 intro n
 induction n with
 | zero => exact zA7
 | succ n G_l_tree =>
 have h0 := h
 obtain ⟨_, _, h1⟩ := T.d_l_take
 refine yV5 h.F bV rfl rfl fun cdv A outer s H E hr => ?_
 have nd := bV.nd
 exact (zI (vU (PW.pt (pw_or (yH (yK hr.units) (pv 2) zK (nomark _)) (pw_or1 (PW.pt (pw_and (zM9 (pv 5)) (pw_and1 (yH (yK hr.units) (zC (yW T h1) (hr.mono (Nat.le_trans (by decide) (Nat.le_add_right _ _))) rfl h1.m h1.F.kp h1.b .nil pass0 (zY (pv 0) (zY zK zO))) zK (nomark _)))))))) (zF (vI vG)) cY) (zI (zU4 (i := 6) (sc0 := zP uY) (N0 := ["pot", "people", "left", "boxes", "names", "thin", "closed", "box", "nexts", "name"]) (fs := ["boxes"]) (js := [3]) (by sleep 2) rfl rfl rfl (wN rfl T.g_range (zY (pv 1) zO)) (fun _ _ _ _ => .one (yH kG (pv 0) (pv 1) rfl)) (fun _ _ _ _ => pv 0) nd rfl (by first | exact Or.inl rfl | exact Or.inr rfl) rfl (by intro _; rfl) (by first | exact .inl rfl | exact .inr rfl)) (zI (yR (i := 7) nd rfl (by first | exact Or.inl rfl | exact Or.inr rfl) (xY yB (pv 6) (zC (yW T h1) (hr.mono (Nat.le_trans (by decide) (Nat.le_add_right _ _))) rfl h1.m h1.F.kp h1.b .nil pass0 (zY (pv 0) (zY (vS zE rfl T.g_len PySem.boot_len (zY (pv 6) zO)) zO))) (fun _ _ => rfl))) (zI (yR (i := 8) nd rfl (by first | exact Or.inl rfl | exact Or.inr rfl) (xO zO)) (zI (dX PassesOwn.never rfl (wN rfl T.g_range (zY (pv 1) zO)) (vM (i := 9) nd rfl (by first | exact Or.inl rfl | exact Or.inr rfl)) (zF (vU (yH uQ (pv 9) (pv 4) rfl) (zF (vF (gH PySem.F.plainAttrs_list PySem.F.slot_list_append PySem.F.type_list_append qM (pv 8) (zY vG zO)))) (zF (vF (gH PySem.F.plainAttrs_list PySem.F.slot_list_append PySem.F.type_list_append qM (pv 8) (zY (zC G_l_tree hr rfl h0.m h0.F.kp h0.b .nil pass0 (zY (pv 0) (zY (pv 1) (zY (yA uM (pv 2) zK) (zY (yA wG (pv 3) (xO (zY (pv 7) zO))) (zY (yA wG (pv 4) (xO (zY (pv 9) zO))) (zY (pv 5) zO))))))) zO))))))) (zF (vI (vW (zY (pv 7) (zY (wU yV rfl T.g_tuple (by rfl) (zY (pv 8) zO)) zO))))))))))
theorem zP5 (T : Txt K mg) {f : Addr} {fd : FuncData} (h : Has K mg "_law_tree" uY f fd ["pot", "people", "left", "boxes", "names", "thin"]) : FnOk P w K mg base CX0 14 f fd ["pot", "people", "left", "boxes", "names", "thin"] (spTree 12) := zP7 T h 12
theorem bO : zH ["script", "people", "openings", "trees", "cells", "person", "pot", "thin"] ["script", "people", "openings"] (zP qS) := by sleep 1
theorem zQ3 (T : Txt K mg) {f : Addr} {fd : FuncData} (h : Has K mg "_law_plan" qS f fd ["script", "people", "openings"]) : FnOk P w K mg base CX0 15 f fd ["script", "people", "openings"] (spF false jH) := by
 obtain ⟨_, _, h0⟩ := T.d_l_sums
 obtain ⟨_, _, h1⟩ := T.d_l_take
 obtain ⟨_, _, h2⟩ := T.d_l_tree
 refine (yV8 jA (k := 12) (by decide)) h.F bO rfl rfl fun cdv A outer s H E hr => ?_
 have nd := bO.nd
 exact (zI (yR (i := 3) nd rfl (by first | exact Or.inl rfl | exact Or.inr rfl) (xO zO)) (zI (yR (i := 4) nd rfl (by first | exact Or.inl rfl | exact Or.inr rfl) (zC (zR4 T h0) (hr.mono (by decide)) rfl h0.m h0.F.kp h0.b .nil pass0 (zY (pv 0) (zY zK (zY (pv 1) zO))))) (zI (dX PassesOwn.never rfl (wN rfl T.g_range (zY (pv 1) zO)) (vM (i := 5) nd rfl (by first | exact Or.inl rfl | exact Or.inr rfl)) (zI (yR (i := 6) nd rfl (by first | exact Or.inl rfl | exact Or.inr rfl) (xO (zY (xY yB (pv 4) (pv 5) (fun _ _ => rfl)) zO))) (zI (yR (i := 7) nd rfl (by first | exact Or.inl rfl | exact Or.inr rfl) (zT1 (yK hr.units) (zC (yW T h1) (hr.mono (by decide)) rfl h1.m h1.F.kp h1.b .nil pass0 (zY (pv 6) (zY zK zO))) zK (nomark _))) (zF (vF (gH PySem.F.plainAttrs_list PySem.F.slot_list_append PySem.F.type_list_append qM (pv 3) (zY (zC (zP5 T h2) (hr.mono (by decide)) rfl h2.m h2.F.kp h2.b .nil pass0 (zY (pv 6) (zY (pv 1) (zY (xY jU (pv 2) (pv 5) (fun _ _ => rfl)) (zY (xO zO) (zY (xO (zY (pv 5) zO)) (zY (pv 7) zO))))))) zO))))))) (zF (vI (wU yV rfl T.g_tuple (by rfl) (zY (pv 3) zO)))))))
theorem zI3 (T : Txt K mg) {f : Addr} {fd : FuncData} (h : Has K mg "_law_plan" qS f fd ["script", "people", "openings"]) : FnOk P w K mg base (CXV P w) 15 f fd ["script", "people", "openings"] (spX false jH) := zJ7 (fun _ _ => yP8) (zQ3 T h)
theorem fZ : zH ["script", "pot", "people", "openings"] ["script"] (zP wI) := by sleep 1
theorem aY (T : Txt K mg) {f : Addr} {fd : FuncData} (h : Has K mg "_law_ground" wI f fd ["script"]) : FnOk P w K mg base CX0 3 f fd ["script"] (spF false uH) := by
 obtain ⟨_, _, h0⟩ := T.d_l_cell_at
 obtain ⟨_, _, h1⟩ := T.d_l_take
 obtain ⟨_, _, h2⟩ := T.d_l_openings
 refine (yK7 4 5 4 wA ⟨by decide, by decide⟩ ⟨by decide, by decide⟩ ⟨by decide, by decide⟩) h.F fZ rfl rfl fun cdv A outer s H E hr => ?_
 have nd := fZ.nd
 exact (zI (yR (i := 1) nd rfl (by first | exact Or.inl rfl | exact Or.inr rfl) (xO (zY (zC (bM T h0) (hr.mono (by decide)) rfl h0.m h0.F.kp h0.b .nil pass0 (zY (pv 0) (zY zK zO))) zO))) (zI (yR (i := 2) nd rfl (by first | exact Or.inl rfl | exact Or.inr rfl) (yA qB zK (zC (yW T h1) (hr.mono (by decide)) rfl h1.m h1.F.kp h1.b .nil pass0 (zY (pv 1) (zY zK zO))))) (zI (yR (i := 3) nd rfl (by first | exact Or.inl rfl | exact Or.inr rfl) (zC (dJ T h2) (hr.mono (by decide)) rfl h2.m h2.F.kp h2.b .nil pass0 (zY (pv 1) (zY (pv 2) zO)))) (zI (vU (yH (yK hr.units) (zC (yW T h1) (hr.mono (by decide)) rfl h1.m h1.F.kp h1.b .nil pass0 (zY (pv 1) (zY zK zO))) zK (nomark _)) (zI (yR (i := 2) nd rfl (by first | exact Or.inl rfl | exact Or.inr rfl) zK) (zF (yR (i := 3) nd rfl (by first | exact Or.inl rfl | exact Or.inr rfl) (wU yV rfl T.g_tuple (by rfl) (zY (cZ (sc0 := zP wI) (N0 := ["script", "pot", "people", "openings"]) (fs := ["pot"]) (js := [1]) (by sleep 2) rfl rfl rfl (wN rfl T.g_range (zY (pv 2) zO)) (fun _ _ _ _ => .nil) (fun _ _ _ _ => (zC (yW T h1) (hr.mono (by decide)) rfl h1.m h1.F.kp h1.b .nil pass0 (zY (pv 1) (zY zK zO))))) zO))))) cY) (zF (vI (vW (zY (pv 2) (zY (pv 3) zO)))))))))
theorem zW4 (T : Txt K mg) {f : Addr} {fd : FuncData} (h : Has K mg "_law_ground" wI f fd ["script"]) : FnOk P w K mg base (CXV P w) 3 f fd ["script"] (spX false uH) := zJ7 (fun _ _ => yO3) (aY T h)
theorem kI : zH ["tree", "people", "left", "boxes", "names", "name"] ["tree", "people", "left", "boxes", "names"] (zP vZ) := by sleep 1
theorem bK (T : Txt K mg) {f : Addr} {fd : FuncData} (h : Has K mg "_law_is_tree" vZ f fd ["tree", "people", "left", "boxes", "names"]) : ∀ n, FnOk P w K mg base (CXV P w) (1 + n) f fd ["tree", "people", "left", "boxes", "names"] (spX false (xV n)) := by
 intro n
 induction n with
 | zero => exact zX1
 | succ n G_l_is_tree =>
 have h0 := h
 refine wE [] h.F kI fun cdv A outer s H E hr => ?_
 have nd := kI.nd
 have u := hr.units
 exact (zM (yS (zD zY7 zP2 (zZ 0) vL) (zN (yX jF)) yZ) (zM (yS (RW.rt (rw_or (zD (yK u) jL (zZ 2) zG) (rw_or (zD fK dR (yM yT yL (zZ 0) zG) zG) (rw_or (zD yJ3 yL2 (yM yT yL (zZ 0) zG) (zZ 1)) (rw_or (zD uQ fH (yM yT yL (zZ 0) zG) (zZ 3)) (rw_or1 (zD (vJ u) uG (yU zE xH T.g_len PySem.boot_len (zL (yM yT yL (zZ 0) zG) zQ)) (zZ 1)))))))) (zN (yX jF)) yZ) (zM (kS (uR T.g_range (zL (zZ 1) zQ)) (wZ 5 nd) (zN (yS (zD uQ fH (zZ 5) (zZ 4)) (zN (yS (zD jW fS (yM yT yL (yM yT yL (zZ 0) zG) (zZ 5)) vL) (zN (yX jF)) yZ)) (zN (yS (qC (kE (yY G_l_is_tree h0 hr zB (zS (yM yT yL (yM yT yL (zZ 0) zG) (zZ 5)) (zS (zZ 1) (zS (wF uM zZ1 (zZ 2) zG) (zS (RE.cl (wF wG jN (zZ 3) (yO (zS (yM yT yL (zZ 0) zG) zQ)))) (zS (RE.cl (wF wG jN (zZ 4) (yO (zS (zZ 5) zQ)))) zQ)))))))) (zN (yX jF)) yZ)))) PassesOwn.leaving) (zN (yX jF)))))
theorem aP (T : Txt K mg) {f : Addr} {fd : FuncData} (h : Has K mg "_law_is_tree" vZ f fd ["tree", "people", "left", "boxes", "names"]) : FnOk P w K mg base (CXV P w) 13 f fd ["tree", "people", "left", "boxes", "names"] (spX false uV) := bK T h 12
theorem zX2 : zH ["openings", "trees", "people", "person"] ["openings", "trees"] (zP jV) := by sleep 1
theorem aU (T : Txt K mg) {f : Addr} {fd : FuncData} (h : Has K mg "_law_due" jV f fd ["openings", "trees"]) : FnOk P w K mg base (CXV P w) 14 f fd ["openings", "trees"] (spX false uE) := by
 obtain ⟨_, _, h0⟩ := T.d_l_is_tree
 refine wE [] h.F zX2 fun cdv A outer s H E hr => ?_
 have nd := zX2.nd
 have u := hr.units
 exact (zM (xM 2 nd (yU zE xH T.g_len PySem.boot_len (zL (zZ 0) zQ))) (zM (yS (RW.rt (rw_or (zD fK dR (zZ 2) zG) (rw_or (zD zP4 zP9 (zZ 2) zG) (rw_or1 (qC (kE (yU (zL8 rfl) yQ1 T.g_all (by rfl) (zL (dG (sc0 := zP jV) (N0 := ["openings", "trees", "people", "person"]) (fs := ["people"]) (js := [2]) (by sleep 2) rfl rfl rfl (RI.c (aM (RE.rd (zZ 0)))) (fun _ _ _ _ => jS) (fun _ _ _ _ => (zH3 dY dY fI fI zG (zZ 0) (zZ 1)))) zQ)))))))) (zN (yX yQ)) yZ) (zM (yS (zD (vJ u) uG (yU zE xH T.g_len PySem.boot_len (zL (zZ 1) zQ)) (zZ 2)) (zN (yX yQ)) yZ) (zM (kS (uR T.g_range (zL (zZ 2) zQ)) (wZ 3 nd) (zN (yS (qC (kE (yY (aP T h0) h0 (hr.mono (by decide)) zB (zS (yM yT yL (zZ 1) (zZ 3)) (zS (zZ 2) (zS (yM yT yL (zZ 0) (zZ 3)) (zS (RE.cl (yO zQ)) (zS (RE.cl (yO (zS (zZ 3) zQ))) zQ)))))))) (zN (yX yQ)) yZ)) PassesOwn.leaving) (zN (yX yQ))))))
theorem aB : zH ["tree", "way", "other", "nexts", "at"] ["tree", "way", "other"] (zP jQ) := by sleep 1
theorem zQ4 (T : Txt K mg) {f : Addr} {fd : FuncData} (h : Has K mg "_law_put" jQ f fd ["tree", "way", "other"]) : ∀ n, FnOk P w K mg base CX0 (1 + n) f fd ["tree", "way", "other"] (spF false (uW n)) := by
 intro n
 induction n with
 | zero => exact yJ7
 | succ n G_l_put =>
 have h0 := h
 refine bI [3] h.F aB fun cdv A outer s H E hr => ?_
 have nd := aB.nd
 have u := hr.units
 exact (zM (yS (RW.rt (rw_or (zD (yK u) jL (zZ 1) (yO zQ)) (rw_or1 (zD zY7 zP2 (zZ 0) vL)))) (zN (yX (zZ 2))) yZ) (zM (dL 3 nd (yC wM dB T.g_list (by rfl) (zL (yM yT yL (zZ 0) zG) zQ))) (zM (xM 4 nd (wF zX3 zJ8 (yM yT yL (zZ 1) zG) (yU zE xH T.g_len PySem.boot_len (zL (kR 3) zQ)))) (zM (zU9 3 (zG7 G_l_put h0 hr (fun _ _ h => h) (zS (yM yT yL (kR 3) (zZ 4)) (zS (bY (zZ 1) (qA zG) zT3) (zS (zZ 2) zQ)))) (zZ 4)) (zN (yX (zY5 (zS (yM yT yL (zZ 0) zG) (zS (yC yV qE T.g_tuple (by rfl) (zL (kR 3) zQ)) zQ)))))))))
theorem qL (T : Txt K mg) {f : Addr} {fd : FuncData} (h : Has K mg "_law_put" jQ f fd ["tree", "way", "other"]) : FnOk P w K mg base CX0 13 f fd ["tree", "way", "other"] (spF false wV) := zQ4 T h 12
theorem cM : zH ["tree", "way", "name"] ["tree", "way"] (zP jI) := by sleep 1
theorem zP6 (T : Txt K mg) {f : Addr} {fd : FuncData} (h : Has K mg "_law_part" jI f fd ["tree", "way"]) : FnOk P w K mg base CX0 1 f fd ["tree", "way"] (spF false xC) := by
 refine bI [] h.F cM fun cdv A outer s H E hr => ?_
 have nd := cM.nd
 have u := hr.units
 exact (zM (kS (aM (RE.rd (zZ 1))) (wZ 2 nd) (zN (yS (zD jW fS (zZ 0) vL) (zN (xM 0 nd (yM yT yL (yM yT yL (zZ 0) zG) (wF zX3 zJ8 (zZ 2) (yU zE xH T.g_len PySem.boot_len (zL (yM yT yL (zZ 0) zG) zQ)))))) yZ))) (zN (yX (zZ 0))))
theorem fY : zH ["openings", "plan", "pot", "people", "trees", "kind", "at", "way", "box", "leaf", "part"] ["openings", "plan", "pot"] (zP wH) := by sleep 1
theorem zZ4 (T : Txt K mg) {f : Addr} {fd : FuncData} (h : Has K mg "_law_spoilt" wH f fd ["openings", "plan", "pot"]) : FnOk P w K mg base CX0 14 f fd ["openings", "plan", "pot"] (spSpo xC wV) := by
 obtain ⟨_, _, h0⟩ := T.d_l_take
 obtain ⟨_, _, h1⟩ := T.d_l_part
 obtain ⟨_, _, h2⟩ := T.d_l_put
 refine (yP3 xC wV) h.F fY rfl rfl fun cdv A outer s H E hr => ?_
 have nd := fY.nd
 exact (zI (yR (i := 3) nd rfl (by first | exact Or.inl rfl | exact Or.inr rfl) (vS zE rfl T.g_len PySem.boot_len (zY (pv 0) zO))) (zI (yR (i := 0) nd rfl (by first | exact Or.inl rfl | exact Or.inr rfl) (wU wM rfl T.g_list (by rfl) (zY (pv 0) zO))) (zI (yR (i := 4) nd rfl (by first | exact Or.inl rfl | exact Or.inr rfl) (wU wM rfl T.g_list (by rfl) (zY (pv 1) zO))) (zI (yR (i := 5) nd rfl (by first | exact Or.inl rfl | exact Or.inr rfl) (zC (yW T h0) (hr.mono (by decide)) rfl h0.m h0.F.kp h0.b .nil pass0 (zY (pv 2) (zY zK zO)))) (zI (yR (i := 6) nd rfl (by first | exact Or.inl rfl | exact Or.inr rfl) (zC (yW T h0) (hr.mono (by decide)) rfl h0.m h0.F.kp h0.b .nil pass0 (zY (pv 2) (zY (pv 3) zO)))) (zI (zU4 (i := 7) (sc0 := zP wH) (N0 := ["openings", "plan", "pot", "people", "trees", "kind", "at", "way", "box", "leaf", "part"]) (fs := ["pot", "people"]) (js := [2, 3]) (by sleep 2) rfl rfl rfl (wN rfl T.g_range (zY (zC (yW T h0) (hr.mono (by decide)) rfl h0.m h0.F.kp h0.b .nil pass0 (zY (pv 2) (zY zK zO))) zO)) (fun _ _ _ _ => .nil) (fun _ _ _ _ => (zC (yW T h0) (hr.mono (by decide)) rfl h0.m h0.F.kp h0.b .nil pass0 (zY (pv 1) (zY (pv 2) zO)))) nd rfl (by first | exact Or.inl rfl | exact Or.inr rfl) rfl (by intro _; rfl) (by first | exact .inl rfl | exact .inr rfl)) (zI (yR (i := 8) nd rfl (by first | exact Or.inl rfl | exact Or.inr rfl) (yA uM (zC (yW T h0) (hr.mono (by decide)) rfl h0.m h0.F.kp h0.b .nil pass0 (zY (pv 2) (zY (yA qB (pv 3) zK) zO))) zK)) (zI (yR (i := 9) nd rfl (by first | exact Or.inl rfl | exact Or.inr rfl) (vW (zY (pv 8) (zY (yA yZ2 (vW (zY vG zO)) (pv 3)) zO)))) (zI (yR (i := 10) nd rfl (by first | exact Or.inl rfl | exact Or.inr rfl) (zC (zP6 T h1) (hr.mono (by decide)) rfl h1.m h1.F.kp h1.b .nil pass0 (zY (xY yB (pv 4) (pv 6) (fun _ _ => rfl)) (zY (pv 7) zO)))) (zI (vU (yH (yK hr.units) (pv 5) zK (nomark _)) (zF (vF (gH PySem.F.plainAttrs_list PySem.F.slot_list_pop PySem.F.type_list_pop zE8 (pv 4) (zY (pv 6) zO)))) (zF (vU (yH (yK hr.units) (pv 5) zK (nomark _)) (zF (vF (gH PySem.F.plainAttrs_list PySem.F.slot_list_insert PySem.F.type_list_insert zI9 (pv 4) (zY (pv 6) (zY vG zO))))) (zF (vU (yH (yK hr.units) (pv 5) zK (nomark _)) (zF (vH (xY yB (xO (zY (zB1 zL2 zK) (zY (yA qB (pv 3) zK) (zY (yA uM (zB1 zL2 zK) (yA yZ9 (pv 8) (pv 8))) (zY (yA qB (pv 3) zK) zO))))) (zC (yW T h0) (hr.mono (by decide)) rfl h0.m h0.F.kp h0.b .nil pass0 (zY (pv 2) (zY zK zO))) (fun _ _ => rfl)) (uN (pv 0) (pv 6) wJ))) (zF (vU (yH (yK hr.units) (pv 5) zK (nomark _)) (zF (yR (i := 0) nd rfl (by first | exact Or.inl rfl | exact Or.inr rfl) (xY yB (xO (zY (xO zO) (zY (yA wG (pv 0) (yA zW8 (xO (zY zK zO)) (yA uM zK (pv 3)))) zO))) (zC (yW T h0) (hr.mono (by decide)) rfl h0.m h0.F.kp h0.b .nil pass0 (zY (pv 2) (zY zK zO))) (fun _ _ => rfl)))) (zF (vU (yH (yK hr.units) (pv 5) zK (nomark _)) (zF (vH (vS (zO9 rfl) rfl T.g_max PyProof.Rows.boot_max (zY zK (zY (yA uM (xY yB (pv 0) (pv 6) (fun _ _ => rfl)) zK) zO))) (uN (pv 0) (pv 6) wJ))) (zF (vU (yH (yK hr.units) (pv 5) zK (nomark _)) (zF (vH (zC (qL T h2) (hr.mono (by decide)) rfl h2.m h2.F.kp h2.b .nil pass0 (zY (xY yB (pv 4) (pv 6) (fun _ _ => rfl)) (zY (pv 7) (zY vG zO)))) (uN (pv 4) (pv 6) wJ))) (zF (vU (PW.pt (pw_and (yH (yK hr.units) (pv 5) zK (nomark _)) (pw_and1 (yH jW (pv 10) vG (nomark _))))) (zF (vH (zC (qL T h2) (hr.mono (by decide)) rfl h2.m h2.F.kp h2.b .nil pass0 (zY (xY yB (pv 4) (pv 6) (fun _ _ => rfl)) (zY (pv 7) (zY (vW (zY (pv 8) (zY (xY jU (pv 10) zK (fun _ _ => rfl)) zO))) zO)))) (uN (pv 4) (pv 6) wJ))) (zF (vU (PW.pt (pw_and (yH (yK hr.units) (pv 5) zK (nomark _)) (pw_and1 (yH jW (pv 10) vG (nomark _))))) (zF (vH (zC (qL T h2) (hr.mono (by decide)) rfl h2.m h2.F.kp h2.b .nil pass0 (zY (xY yB (pv 4) (pv 6) (fun _ _ => rfl)) (zY (pv 7) (zY (vW (zY (xY jU (pv 10) zK (fun _ _ => rfl)) (zY (xY yB (xO (zY (aG zI2 (xY jU (pv 10) zK (fun _ _ => rfl)) (zU8 zK) zT5) (zY (yA yU6 (xY jU (pv 10) zK (fun _ _ => rfl)) (vW (zY vG zO))) zO))) (zC (yW T h0) (hr.mono (by decide)) rfl h0.m h0.F.kp h0.b .nil pass0 (zY (pv 2) (zY zK zO))) (fun _ _ => rfl)) zO))) zO)))) (uN (pv 4) (pv 6) wJ))) (zF (vH (zC (qL T h2) (hr.mono (by decide)) rfl h2.m h2.F.kp h2.b .nil pass0 (zY (xY yB (pv 4) (pv 6) (fun _ _ => rfl)) (zY (pv 7) (zY (pv 9) zO)))) (uN (pv 4) (pv 6) wJ)))))))))))))))))) (zF (vI (vW (zY (wU yV rfl T.g_tuple (by rfl) (zY (pv 0) zO)) (zY (pv 4) zO)))))))))))))))
theorem zW3 (T : Txt K mg) {f : Addr} {fd : FuncData} (h : Has K mg "_law_spoilt" wH f fd ["openings", "plan", "pot"]) : FnOk P w K mg base (CXV P w) 14 f fd ["openings", "plan", "pot"] (spSpo xC wV) := zB6 (zZ4 T h)
theorem aH : zH ["way", "openings", "trees", "met", "e", "other"] ["way", "openings", "trees"] (zP gM) := by sleep 1
theorem fM (T : Txt K mg) {f : Addr} {fd : FuncData} (h : Has K mg "_law_met" gM f fd ["way", "openings", "trees"]) : FnOk P w K mg base (CXV P w) 15 f fd ["way", "openings", "trees"] (spX false wR) := by
 obtain ⟨_, _, h0⟩ := T.d_made_plan
 obtain ⟨_, _, h1⟩ := T.d_following_plan
 refine wE [] h.F aH fun cdv A outer s H E hr => ?_
 have nd := aH.nd
 have u := hr.units
 exact (zM (xM 3 nd yQ) (zM (yQ7 4 CLS nd (fun _ _ _ zB => (zN (yS (zD (yK u) jL (zZ 0) zG) (zN (zW9 (yY (aF T h0) h0 (hr.mono (by decide)) zB (zS (zZ 1) (zS (zZ 2) zQ))))) (zN (zW9 (yY (gE T h1) h1 (hr.mono (by decide)) zB (zS (zZ 1) zQ))))))) (fun _ => (zM (xM 3 nd yQ) (zM (xM 5 nd (zH5 CLS ["BadBox", "BadOrder", "NoNumber", "NoPerson", "TooMany"] (List.forall_mem_cons.2 ⟨T.kx_BadBox, (List.forall_mem_cons.2 ⟨T.kx_BadOrder, (List.forall_mem_cons.2 ⟨T.kx_NoNumber, (List.forall_mem_cons.2 ⟨T.kx_NoPerson, (List.forall_mem_cons.2 ⟨T.kx_TooMany, (fun _ h => nomatch h)⟩)⟩)⟩)⟩)⟩) T.g_isinstance (qF T.x_BadBox (qF T.x_BadOrder (qF T.x_NoNumber (qF T.x_NoPerson (qF T.x_TooMany yS3))))) (zZ 4))) (zN (yS (RW.rt (rw_and (kE (zF3 CLS CLS T.kv_ValueError T.g_isinstance T.g_ValueError PyProof.Rows.Boot.«ValueError» (zZ 4))) (rw_and (qC (kE (zZ 5))) (rw_and1 (zD (vJ u) uG (dF CLS ["BadOpenings"] T.kx_BadOpenings T.g_isinstance T.x_BadOpenings (zZ 4)) (dF CLS ["BadPlan"] T.kx_BadPlan T.g_isinstance T.x_BadPlan (zZ 4))))))) (zN (xM 3 nd (yM yT yL (yO (zS yQ (zS yQ zQ))) (yC bP zS8 T.g_int (by rfl) (zL (dF CLS ["BadOpenings"] T.kx_BadOpenings T.g_isinstance T.x_BadOpenings (zZ 4)) zQ))))) yZ))))) T.tx_BoxError T.tb_BoxError T.x_BoxError) (zN (yX (zZ 3)))))
theorem zJ2 : zH ["script", "people", "openings", "plan", "cell", "shown_ones", "trees", "handed"] ["script"] (zP dU) := by sleep 1
theorem yO9 (T : Txt K mg) {f : Addr} {fd : FuncData} (h : Has K mg "law" dU f fd ["script"]) : FnOk P w K mg base (CXV P w) 16 f fd ["script"] (spX false zQ7) := by
 obtain ⟨_, _, h0⟩ := T.d_l_ground
 obtain ⟨_, _, h1⟩ := T.d_l_plan
 obtain ⟨_, _, h2⟩ := T.d_l_spoilt
 obtain ⟨_, _, h3⟩ := T.d_l_met
 obtain ⟨_, _, h4⟩ := T.d_l_due
 refine wE [] h.F zJ2 fun cdv A outer s H E hr => ?_
 have nd := zJ2.nd
 have u := hr.units
 exact (zM (zV7 (yY (zW4 T h0) h0 (hr.mono (by decide)) zB (zS (zZ 0) zQ)) (aQ rfl (vE (wZ 1 nd) (vE (wZ 2 nd) dM)))) (zM (xM 3 nd (yY (zI3 T h1) h1 (hr.mono (by decide)) zB (zS (zZ 0) (zS (zZ 1) (zS (zZ 2) zQ))))) (zM (kS (aM (RE.rd (RE.cl (wF wG jN (yO (zS (yU zE xH T.g_len PySem.boot_len (zL (zZ 0) zQ)) zQ)) (yC wM dB T.g_list (by rfl) (zL (bY (zZ 0) (qA zG) (qA zG)) zQ)))))) (wZ 4 nd) (zM (zV7 (zH4 (zW3 T h2) h2 (hr.mono (by decide)) zB (zZ 2) (zZ 3) (zZ 4)) (aQ rfl (vE (wZ 5 nd) (vE (wZ 6 nd) dM)))) (zM (xM 7 nd (RE.cl (yC wM dB T.g_list (by rfl) (zL (zZ 6) zQ)))) (zM (yS (RW.rt (rw_or (zD (vJ u) uG (yY (fM T h3) h3 (hr.mono (by decide)) zB (zS zG (zS (zZ 5) (zS (zZ 7) zQ)))) (yY (aU T h4) h4 (hr.mono (by decide)) zB (zS (zZ 5) (zS (zZ 6) zQ)))) (rw_or1 (zD (vJ u) uG (zZ 7) (zZ 6))))) (zN (yX jF)) yZ) (zN (yS (zD (vJ u) uG (yY (fM T h3) h3 (hr.mono (by decide)) zB (zS zG (zS (zZ 5) (zS (RE.cl (yO zQ)) zQ)))) (yM yT yL (yO (zS yQ (zS yQ zQ))) (yC bP zS8 T.g_int (by rfl) (zL (zJ9 (yK u) jL (yY (aU T h4) h4 (hr.mono (by decide)) zB (zS (zZ 5) (zS (zZ 6) zQ))) yQ) zQ)))) (zN (yX jF)) yZ))))) PassesOwn.leaving) (zN (yX (zJ9 (yK u) jL (dG (sc0 := zP dU) (N0 := ["script", "people", "openings", "plan", "cell", "shown_ones", "trees", "handed"]) (fs := ["openings", "plan"]) (js := [2, 3]) (by sleep 2) rfl rfl rfl (RI.c (uR T.g_range (zL zG zQ))) (fun _ _ _ _ => jS) (fun _ _ _ _ => (yY (fM T h3) h3 (hr.mono (by decide)) (zB2 fun _ _ h => h) (zS (zZ 0) (zS (zZ 1) (zS (zZ 2) zQ)))))) (yO (zS yQ (zS yQ zQ)))))))))
end
end K23
namespace K23
open PySem L2 L2.L3 MR
def evA := (And.intro (And.intro (And.intro (And.intro (And.intro (And.intro @yS5 (And.intro @zE7 @zE2)) (And.intro @yI2 (And.intro @dA @yO6))) (And.intro (And.intro @yO4 (And.intro @yJ1 @yJ9)) (And.intro @yM6 (And.intro @yP6 @yQ6)))) (And.intro (And.intro (And.intro @yK4 (And.intro @yJ2 @yR8)) (And.intro @yR6 (And.intro @fB @yK3))) (And.intro (And.intro @jG (And.intro @uC @yL9)) (And.intro (And.intro @yK8 @yM9) (And.intro @yL4 @yI3))))) (And.intro (And.intro (And.intro (And.intro @yL5 (And.intro @yL3 @yJ8)) (And.intro @kW (And.intro @eV0 @eVs))) (And.intro (And.intro @yL6 (And.intro @yM8 @jK)) (And.intro (And.intro @yK9 @yO2) (And.intro @fG @kY)))) (And.intro (And.intro (And.intro @yM2 (And.intro @yL8 @uB)) (And.intro @yS8 (And.intro @fD @yQ4))) (And.intro (And.intro @yJ4 (And.intro @yS1 @yN2)) (And.intro (And.intro @jJ @kU) (And.intro @yM4 @yK1)))))) (And.intro (And.intro (And.intro (And.intro (And.intro @yM3 (And.intro @yW4 @yK2)) (And.intro @kX (And.intro @yY6 @aV))) (And.intro (And.intro @zZ3 (And.intro @yS2 @jT)) (And.intro (And.intro @zG2 @zA3) (And.intro @yI1 @yK6)))) (And.intro (And.intro (And.intro @yZ5 (And.intro @yJ6 @yN9)) (And.intro @yN4 (And.intro @yS9 @yP4))) (And.intro (And.intro @yN1 (And.intro @yN7 @yU8)) (And.intro (And.intro @yT2 @yT5) (And.intro @yO8 @mkL0))))) (And.intro (And.intro (And.intro (And.intro @mkL1 (And.intro @mkL2 @mkL3)) (And.intro @mkL4 (And.intro @mkT0 @mkT1))) (And.intro (And.intro @mkT2 (And.intro @mkT3 @Res.bind_ok)) (And.intro (And.intro @Res.bind_no @Res.bind_ex) (And.intro @Res.lft_some @Res.lft_none)))) (And.intro (And.intro (And.intro @Option.map_some.{0,0} (And.intro @Option.bind_some.{0,0} @List.set_cons_zero.{0})) (And.intro @List.set_cons_succ.{0} (And.intro @List.length_cons.{0} @List.length_nil.{0}))) (And.intro (And.intro @if_true.{1} (And.intro @if_false.{1} @Bool.false_eq_true)) (And.intro (And.intro @ite_true.{1} @ite_false.{1}) (And.intro @Bool.not_true @Bool.not_false)))))))
structure Opn (n : Nat) (ops : List Int) : Prop where
 len : ops.length = n
 bd : ∀ x ∈ ops, 0 <= x /\ x <= n
theorem fP {n : Nat} {ops : List Int} (p : Opn n ops) (h1 : 1 <= n) (h2 : n <= 60) : wQ [.int n, tI ops] = .ok (tI ops) := by
 show (xI [some (.int n), some (tI ops)]).bind (fin false) = _
 unfold xI
 have hne : ops ≠ [] := fun z => by have := p.len; rw [z] at this; simp at this; bv_omega
 have a1 := p.bd _ (zZ6 hne)
 have a2 := p.bd _ (zZ5 hne)
 simp -implicitDefEqProofs only [(evA), List.length_map, p.len, xZ, zS1 hne, zT7 hne, decide_eq_true (show (1 : Int) <= (n : Int) by bv_omega), decide_eq_true (show (n : Int) <= 60 by bv_omega), decide_true, decide_eq_false (show ¬ minL ops < 0 by bv_omega), decide_eq_false (show ¬ (n : Int) < maxL ops by bv_omega)]
def BadO (p : Int) (ys : List Int) : Prop := ¬ (1 <= p /\ p <= 60 /\ (ys.length : Int) = p /\ ∀ y ∈ ys, 0 <= y /\ y <= p)
theorem fN {d : D} {ys : List Int} (hd : d = lI ys \/ d = tI ys) {p : Int} (h : BadO p ys) : wQ [.int p, d] = .ex "BadOpenings" := by
 show (xI [some (.int p), some d]).bind (fin false) = _
 unfold xI
 have ln : lenD [d] = some (.int (ys.length : Int)) := by
  rcases hd with rfl | rfl
  ·rw [jT]; simp only [aV, Option.map_some, List.length_map]
  ·rw [jT]; simp only [zZ3, Option.map_some, List.length_map]
 have z1 : (if ([PyData.str "openings are for 1 to 60 people"] : List D).length <= sizeLine then (Res.ex "BadOpenings" : Res Out) else .no) = .ex "BadOpenings" := if_pos (by decide)
 have z2 : (if ([PyData.str "each person has its openings"] : List D).length <= sizeLine then (Res.ex "BadOpenings" : Res Out) else .no) = .ex "BadOpenings" := if_pos (by decide)
 have z3 : (if ([PyData.str "openings are from 0 to as many as there are boxes"] : List D).length <= sizeLine then (Res.ex "BadOpenings" : Res Out) else .no) = .ex "BadOpenings" := if_pos (by decide)
 by_cases p1 : 1 <= p
 ·by_cases p2 : p <= 60
  ·by_cases p3 : (ys.length : Int) = p
   ·have hne : ys ≠ [] := fun z => by rw [z] at p3; simp at p3; bv_omega
    have mn : min1D [d] = some (.int (minL ys)) := by
     rcases hd with rfl | rfl
     ·exact yV7 hne
     ·exact zS1 hne
    have mx : max1D [d] = some (.int (maxL ys)) := by
     rcases hd with rfl | rfl
     ·exact yU4 hne
     ·exact zT7 hne
    have hex : minL ys < 0 \/ p < maxL ys := by
     by_cases c1 : minL ys < 0
     ·exact .inl c1
     ·by_cases c2 : p < maxL ys
      ·exact .inr c2
      ·refine absurd ⟨p1, p2, p3, fun y hy => ?_⟩ h
       have := zV6 hy
       have := zU7 hy
       bv_omega
    rcases hex with c | c
    ·simp -implicitDefEqProofs only [jG, uC, uB, fD, kY, fG, kW, jK, kU, jJ, eV0, eVs, kX, fB, xG, Res.bind_ok, Res.bind_ex, Res.lft_some, ln, mn, mx, xZ, decide_eq_true p1, decide_eq_true p2, decide_eq_true p3, decide_eq_true c, if_true, if_false, Bool.not_true, Bool.not_false, Bool.false_eq_true, z3]
    ·by_cases c1 : minL ys < 0
     ·simp -implicitDefEqProofs only [jG, uC, uB, fD, kY, fG, kW, jK, kU, jJ, eV0, eVs, kX, fB, xG, Res.bind_ok, Res.bind_ex, Res.lft_some, ln, mn, mx, xZ, decide_eq_true p1, decide_eq_true p2, decide_eq_true p3, decide_eq_true c1, if_true, if_false, Bool.not_true, Bool.not_false, Bool.false_eq_true, z3]
     ·simp -implicitDefEqProofs only [jG, uC, uB, fD, kY, fG, kW, jK, kU, jJ, eV0, eVs, kX, fB, xG, Res.bind_ok, Res.bind_ex, Res.lft_some, ln, mn, mx, xZ, decide_eq_true p1, decide_eq_true p2, decide_eq_true p3, decide_eq_false c1, decide_eq_true c, if_true, if_false, Bool.not_true, Bool.not_false, Bool.false_eq_true, z3]
   ·simp -implicitDefEqProofs only [jG, uC, uB, fD, kY, fG, kW, jK, kU, jJ, eV0, eVs, kX, fB, xG, Res.bind_ok, Res.bind_ex, Res.lft_some, ln, xZ, decide_eq_true p1, decide_eq_true p2, decide_eq_false p3, if_true, if_false, Bool.not_true, Bool.not_false, Bool.false_eq_true, z2]
  ·simp -implicitDefEqProofs only [jG, uC, uB, kY, kW, jK, kU, jJ, eV0, eVs, kX, xG, Res.bind_ok, Res.bind_ex, Res.lft_some, decide_eq_true p1, decide_eq_false p2, if_true, if_false, Bool.not_true, Bool.not_false, Bool.false_eq_true, z1]
 ·simp -implicitDefEqProofs only [jG, uC, uB, kY, kW, jK, kU, jJ, eV0, eVs, kX, xG, Res.bind_ok, Res.bind_ex, Res.lft_some, decide_eq_false p1, if_true, if_false, Bool.not_true, Bool.not_false, Bool.false_eq_true, z1]
theorem Opn.at {n : Nat} {ops : List Int} (q : Opn n ops) {p : Nat} (h : p < n) : 0 <= ops.getD p 0 /\ ops.getD p 0 <= n := q.bd _ (MR.getD_mem (by rw [q.len]; exact h))
theorem zS5 {n : Nat} {ops : List Int} (q : Opn n ops) {p : Nat} (h : p < n) : atI (ops.map PyData.int) (p : Int) = some (.int ((ops.getD p 0).toNat : Int)) := by
 have := q.at h
 rw [uZ, vT (by rw [q.len]; exact h), Option.map_some]
 congr 2
 bv_omega
theorem yT4 {n i : Nat} (f : Nat -> D) (h : i < n) : atI ((List.range n).map f) (i : Int) = some (f i) := by
 unfold atI
 rw [List.length_map, List.length_range, uX h, Option.bind_some, List.getElem?_map, List.getElem?_range h]
 rfl
theorem zS7 (n : Nat) (f : Nat -> D) : enumD ((List.range n).map f) = (List.range n).map fun (i : Nat) => PyData.tuple [.int (i : Int), f i] := by
 unfold enumD
 rw [List.length_map, List.length_range]
 refine List.map_congr_left fun i hi => ?_
 rw [List.getD, List.getElem?_map, List.getElem?_range (List.mem_range.mp hi)]
 rfl
theorem yU9 {n i : Nat} (f : Nat -> D) (v : D) (h : i < n) : setD ((List.range n).map f) (.int (i : Int)) v = some ((List.range n).map fun c => if c = i then v else f c) := by
 unfold setD
 simp only
 rw [List.length_map, List.length_range, uX h, Option.map_some, zN8 h]
def ftD (n : Nat) : Nat -> Int -> List Int -> D
 | 0, _, _ => .none
 | l + 1, b, ns => .tuple [.int b, .tuple ((List.range n).map fun (i : Nat) => if ns.contains (i : Int) then .none else ftD n l (i : Int) (ns ++ [(i : Int)]))]
theorem zF5 {n i : Nat} {f : Nat -> D} (c : f i = .none) : (List.range n).map (fun j => if j < i then f j else PyData.none) = (List.range n).map fun j => if j < i + 1 then f j else PyData.none :=
 List.map_congr_left fun j _ => by
  by_cases e : j = i
  ·subst e
   rw [if_neg (Nat.lt_irrefl _), if_pos (Nat.lt_succ_self _), c]
  ·by_cases q : j < i
   ·rw [if_pos q, if_pos (by bv_omega)]
   ·rw [if_neg q, if_neg (by bv_omega)]
theorem yZ7 {n i : Nat} (f : Nat -> D) : ((List.range n).map fun c => if c = i then f i else if c < i then f c else PyData.none) = (List.range n).map fun j => if j < i + 1 then f j else PyData.none :=
 List.map_congr_left fun j _ => by
  by_cases e : j = i
  ·subst e
   rw [if_pos rfl, if_pos (Nat.lt_succ_self _)]
  ·rw [if_neg e]
   by_cases q : j < i
   ·rw [if_pos q, if_pos (by bv_omega)]
   ·rw [if_neg q, if_neg (by bv_omega)]
theorem yW8 {n : Nat} (f : Nat -> D) : ((List.range n).map fun j => if j < n then f j else PyData.none) = (List.range n).map f :=
 List.map_congr_left fun j hj => if_pos (List.mem_range.mp hj)
theorem zG1 {n : Nat} (f : Nat -> D) : ((List.range n).map fun j => if j < 0 then f j else PyData.none) = (List.range n).map fun _ => PyData.none :=
 List.map_congr_left fun j hj => if_neg (Nat.not_lt_zero _)
theorem zF6 {n : Nat} (h : n <= 1000) : repL (.list [.none]) (.int (n : Int)) = some (.list ((List.range n).map fun _ => PyData.none)) := by
 rw [zC8 _ _ h, List.map_const', List.length_range]
theorem zB5 {n : Nat} (hn : n <= 6) : ∀ (l k : Nat) (b : Int) (ns : List Int), l < k -> ns.length + l <= 100 -> yF k [.int b, .int (n : Int), .int (l : Int), lI ns] = .ok (ftD n l b ns)
 | 0, k + 1, b, ns, _, _ => by
  show (xL (yF k) [some (.int b), some (.int (n : Int)), some (.int 0), some (lI ns), none, none]).bind (fin false) = _
  unfold xL
  simp -implicitDefEqProofs only [(evA), yP, decide_true]
  rfl
 | l + 1, k + 1, b, ns, hk, hl => by
  have ih := fun (b : Int) (ns : List Int) (h : ns.length + l <= 100) => zB5 hn l k b ns (by bv_omega) h
  show (xL (yF k) [some (.int b), some (.int (n : Int)), some (.int ((l + 1 : Nat) : Int)), some (lI ns), none, none]).bind (fin false) = _
  unfold xL
  obtain ⟨f, hf⟩ : ∃ f : Nat -> D, ∀ j, f j = if ns.contains (j : Int) then PyData.none else ftD n l (j : Int) (ns ++ [(j : Int)]) := ⟨_, fun _ => rfl⟩
  have ff : ftD n (l + 1) b ns = .tuple [.int b, .tuple ((List.range n).map f)] := by
   rw [ftD, funext hf]
  simp -implicitDefEqProofs only [(evA), yP, decide_eq_false (show ¬ ((l + 1 : Nat) : Int) = 0 by bv_omega), zF6 (show n <= 1000 by bv_omega), gU (show n <= 1000 by bv_omega)]
  refine jO (fun i ρ => ∃ x, ρ = [some (.int b), some (.int (n : Int)), some (.int ((l + 1 : Nat) : Int)), some (lI ns), some (.list ((List.range n).map fun j => if j < i then f j else PyData.none)), x]) ⟨none, by rw [zG1]⟩ ?_ ?_
  ·rintro i d ρ hd ⟨x, rfl⟩
   obtain ⟨hi, rfl⟩ := jM hd
   have fi := hf i
   by_cases c : ns.contains (i : Int) = true
   ·rw [if_pos c] at fi
    refine ⟨_, _, rfl, ?_, some (.int (i : Int)), rfl⟩
    simp -implicitDefEqProofs only [(evA), xE, c]
    rw [zF5 fi]
   ·rw [if_neg c] at fi
    rw [Bool.not_eq_true] at c
    have ct : catL (lI ns) (.list [.int (i : Int)]) = some (lI (ns ++ [(i : Int)])) := uD (xs := ns) (ys := [(i : Int)]) (by simp; bv_omega)
    have e1 := ih (i : Int) (ns ++ [(i : Int)]) (by simp; bv_omega)
    have sb : ((l + 1 : Nat) : Int) - 1 = (l : Int) := by bv_omega
    rw [<- fi] at e1
    refine ⟨_, _, rfl, ?_, some (.int (i : Int)), rfl⟩
    simp -implicitDefEqProofs only [(evA), xE, c, ct, sb, e1, yU9 _ _ hi]
    rw [yZ7 f]
  ·rintro ρ ⟨x, rfl⟩
   rw [List.length_map, List.length_range, yW8]
   simp -implicitDefEqProofs only [(evA), ff]
def fpD (n : Nat) (ops : List Int) : D := .tuple ((List.range n).map fun (p : Nat) => ftD n (ops.getD p 0).toNat (p : Int) [(p : Int)])
theorem zE4 {n : Nat} {ops : List Int} (q : Opn n ops) : enumD (ops.map PyData.int) = (List.range n).map fun (p : Nat) => PyData.tuple [.int (p : Int), .int ((ops.getD p 0).toNat : Int)] := by
 unfold enumD
 rw [List.length_map, q.len]
 refine List.map_congr_left fun i hi => ?_
 have hi := List.mem_range.mp hi
 have b := q.at hi
 have g : (ops.map PyData.int).getD i .none = .int (ops.getD i 0) := by
  rw [List.getD, List.getElem?_map, List.getD, List.getElem?_eq_getElem (by rw [q.len]; exact hi)]
  rfl
 rw [g, Int.toNat_of_nonneg b.1]
theorem vP {n : Nat} {ops : List Int} (q : Opn n ops) (h1 : 1 <= n) (h2 : n <= 6) : yI [tI ops] = .ok (tI ops) := by
 show (yJ [some (tI ops)]).bind (fin false) = _
 unfold yJ
 simp -implicitDefEqProofs only [(evA), List.length_map, q.len, decide_eq_false (show ¬ (6 : Int) < (n : Int) by bv_omega), fP q h1 (show n <= 60 by bv_omega)]
theorem gF {n : Nat} {ops : List Int} (q : Opn n ops) (h1 : 1 <= n) (h2 : n <= 6) : xP [tI ops] = .ok (fpD n ops) := by
 show (xQ [some (tI ops), none, none]).bind (fin false) = _
 unfold xQ
 have cc : eComp2 (xU (eV 1)) tYes (eF xN (aC (eV 0) (aC (eV 2) (aC (eV 1) (aC (eB mkL (aC (eV 0) aN)) aN))))) [2] [some (tI ops), some (tI ops), some (.int (n : Int))] = .ok (.list ((List.range n).map fun (p : Nat) => ftD n (ops.getD p 0).toNat (p : Int) [(p : Int)])) := by
  refine zQ8 (fun p : Nat => PyData.int (p : Int)) (fun p : Nat => PyData.int ((ops.getD p 0).toNat : Int)) (fun p : Nat => ftD n (ops.getD p 0).toNat (p : Int) [(p : Int)]) (List.range n) (by simp -implicitDefEqProofs only [(evA), zE4 q]) (by rw [List.length_range]; bv_omega) fun p hp => ?_
  have b := q.at (List.mem_range.mp hp)
  have e := zB5 h2 (ops.getD p 0).toNat 12 (p : Int) [(p : Int)] (by bv_omega) (by show 1 + _ <= 100; bv_omega)
  have e' : xN [.int (p : Int), .int (n : Int), .int ((ops.getD p 0).toNat : Int), .list [.int (p : Int)]] = _ := e
  show eF xN _ [some (.int (p : Int)), some (.int ((ops.getD p 0).toNat : Int)), some (.int (n : Int))] = _
  simp -implicitDefEqProofs only [(evA), e']
 simp -implicitDefEqProofs only [(evA), vP q h1 h2, List.length_map, q.len, cc]
 rfl
inductive TreeOk (n : Nat) : Nat -> List Int -> List Int -> D -> Prop
 | none {l : Nat} {bs ns : List Int} : TreeOk n l bs ns .none
 | node {l : Nat} {bs ns : List Int} (b : Nat) (f : Nat -> D) : b < n -> bs.contains (b : Int) = false -> (∀ i, i < n -> ns.contains (i : Int) = true -> f i = .none) -> (∀ i, i < n -> TreeOk n l (bs ++ [(b : Int)]) (ns ++ [(i : Int)]) (f i)) -> TreeOk n (l + 1) bs ns (.tuple [.int (b : Int), .tuple ((List.range n).map f)])
structure PlanOk (n : Nat) (ops : List Int) (t : Nat -> D) : Prop where
 tree : ∀ p, p < n -> TreeOk n (ops.getD p 0).toNat [] [(p : Int)] (t p)
theorem aO (g : Nat -> Int -> D × Int) (p : Int) : ∀ k, (runG g k p).1 = (List.range k).map fun i => (g i (runG g i p).2).1
 | 0 => rfl
 | k + 1 => by
  rw [runG, aO g p k, List.range_succ, List.map_append]
  rfl
theorem zA2 {n : Nat} {bs : List Int} {x : Int} (h : x ∈ clN n bs) : ∃ b : Nat, b < n /\ x = (b : Int) /\ bs.contains (b : Int) = false := by
 unfold clN at h
 obtain ⟨b, hb, rfl⟩ := List.mem_map.mp h
 obtain ⟨h1, h2⟩ := List.mem_filter.mp hb
 exact ⟨b, List.mem_range.mp h1, rfl, by simpa using h2⟩
theorem zB3 {n : Nat} {thin : Bool} : ∀ (l : Nat) (bs ns : List Int) (p : Int), bs.length + l <= n -> TreeOk n l bs ns (trG n thin l bs ns p).1
 | 0, bs, ns, p, _ => .none
 | l + 1, bs, ns, p, h => by
  by_cases q : thin = true /\ p % 4 = 3
  ·rw [zV4 q]
   exact .none
  ·rw [aR q rfl rfl, aO]
   have cp := zU1 n bs (by bv_omega)
   generalize (if thin = true then p / 4 else p) = p1
   have h0 := Int.emod_nonneg p1 (show ((clN n bs).length : Int) ≠ 0 by bv_omega)
   have h1 := Int.emod_lt_of_pos p1 (show (0 : Int) < ((clN n bs).length : Int) by bv_omega)
   obtain ⟨b, hb, eb, nb⟩ := zA2 (MR.getD_mem (xs := clN n bs) (i := (p1 % ((clN n bs).length : Int)).toNat) (by bv_omega))
   rw [eb]
   refine .node b _ hb nb (fun i hi c => ?_) fun i hi => ?_
   ·unfold nxG
    rw [if_pos c]
   ·by_cases c : ns.contains (i : Int) = true
    ·have e : ∀ z : Int, (nxG n thin l bs ns (b : Int) i z).1 = .none := fun z => by unfold nxG; rw [if_pos c]
     rw [e]
     exact .none
    ·have e : ∀ z : Int, nxG n thin l bs ns (b : Int) i z = trG n thin l (bs ++ [(b : Int)]) (ns ++ [(i : Int)]) z := fun z => by unfold nxG; rw [if_neg c]
     rw [e]
     exact zB3 l _ _ _ (by rw [List.length_append]; simp; bv_omega)
theorem yM7 {n : Nat} {ops ms : List Int} (q : Opn n ops) : PlanOk n ops (tr1 n ops ms) := ⟨fun p hp => zB3 _ _ _ _ (by have := q.at hp; show 0 + _ <= n; bv_omega)⟩
theorem bE (ns : List Int) (k : Nat) : wA [lI ns, .int k] = .ok (.int (ns.getD k 0)) := by
 show (qG [some (lI ns), some (.int k)]).bind (fin false) = _
 unfold qG
 simp -implicitDefEqProofs only [(evA), List.length_map, uZ]
 by_cases h : k < ns.length
 ·rw [decide_eq_true (by bv_omega)]
  simp -implicitDefEqProofs only [(evA), vT h]
 ·rw [decide_eq_false (by bv_omega)]
  simp -implicitDefEqProofs only [(evA), List.getD_eq_getElem?_getD, List.getElem?_eq_none (Nat.le_of_not_lt h), Option.getD_none]
theorem zS3 {m : Int} {n : Nat} (p : Int) (hm : 0 < m) (h : m <= (n : Int) + 1) : Opn n (digD m p n) := by
 unfold digD
 refine ⟨by rw [List.length_map, List.length_range], fun z hz => ?_⟩
 obtain ⟨i, _, rfl⟩ := List.mem_map.mp hz
 have h0 := Int.emod_nonneg (pwD m p i) (Int.ne_of_gt hm)
 have h1 := Int.emod_lt_of_pos (pwD m p i) hm
 exact ⟨h0, by bv_omega⟩
theorem yS7 (p : Int) : ∃ (n : Nat) (ops : List Int), 1 <= n /\ n <= 5 /\ Opn n ops /\ grD 4 5 4 p = .tuple [.int (n : Int), tI ops] := by
 have h0 := Int.emod_nonneg p (show (4 : Int) ≠ 0 by decide)
 have h1 := Int.emod_lt_of_pos p (show (0 : Int) < 4 by decide)
 obtain ⟨n, hn⟩ : ∃ n : Nat, 1 + p % 4 = (n : Int) := ⟨(1 + p % 4).toNat, by bv_omega⟩
 unfold grD
 rw [hn, Int.toNat_natCast]
 split
 ·exact ⟨5, _, by decide, by decide, zS3 (m := 4) (n := 5) _ (by decide) (by decide), rfl⟩
 ·exact ⟨n, _, by bv_omega, by bv_omega, zS3 _ (by bv_omega) (by bv_omega), rfl⟩
theorem zX5 (ns : List Int) : ∃ (n : Nat) (ops : List Int), 1 <= n /\ n <= 5 /\ Opn n ops /\ uH [lI ns] = .ok (.tuple [.int (n : Int), tI ops]) := by
 obtain ⟨n, ops, h1, h2, q, eg⟩ := yS7 (ns.getD 0 0)
 refine ⟨n, ops, h1, h2, q, ?_⟩
 have e' : wA [lI ns, .int 0] = .ok (.int (ns.getD 0 0)) := bE ns 0
 rw [<- eg]
 exact yT7 e'
theorem zQ1 (ns : List Int) {n : Nat} (h1 : 1 <= n) (h2 : n <= 7) : ∃ ms : List Int, ms.length = n /\ jA [lI ns, .int 3, .int (n : Int)] = .ok (lI ms) := by
 refine ⟨(List.range n).map fun (k : Nat) => (pick3 ns (some (3 + (k : Int))) none (some (n : Int))).sum, by simp, ?_⟩
 show (fW [some (lI ns), some (.int 3), some (.int (n : Int))]).bind (fin true) = _
 unfold fW
 have c1 : eComp (iR rng1 (aC (eV 2) aN)) tYes (eB sumD (aC (eS3 (eV 1) (oS (e2 addI (eV 2) (eV 0))) oN (oS (eV 3))) aN)) [0, 1, 2] [some (lI ns), some (.int 3), some (.int (n : Int))] = .ok (lI ((List.range n).map fun (k : Nat) => (pick3 ns (some (3 + (k : Int))) none (some (n : Int))).sum)) := by
  have := hJ (mi := iR rng1 (aC (eV 2) aN)) (me := eB sumD (aC (eS3 (eV 1) (oS (e2 addI (eV 2) (eV 0))) oN (oS (eV 3))) aN)) (js := [0, 1, 2]) (ρ := [some (lI ns), some (.int 3), some (.int (n : Int))]) (fun k : Nat => PyData.int (k : Int)) (fun k => .int (pick3 ns (some (3 + (k : Int))) none (some (n : Int))).sum) (List.range n) (by simp -implicitDefEqProofs only [(evA), gU (show n <= 1000 by bv_omega)]) (by rw [List.length_range]; bv_omega) fun k hk => by
   show eB sumD _ [some (.int (k : Int)), some (lI ns), some (.int 3), some (.int (n : Int))] = _
   simp -implicitDefEqProofs only [(evA), if_pos (show (some (n : Int)) ≠ some 0 from fun z => by have := Option.some.inj z; bv_omega), zM5, yX3]
  rw [this]
  simp only [lI, List.map_map, Function.comp_def]
 simp -implicitDefEqProofs only [(evA), c1]
theorem zI7 (ns : List Int) {n : Nat} {ops : List Int} (q : Opn n ops) (h1 : 1 <= n) (h2 : n <= 6) : ∃ t : Nat -> D, PlanOk n ops t /\ jH [lI ns, .int (n : Int), tI ops] = .ok (.tuple ((List.range n).map t)) := by
 obtain ⟨ms, hm, e⟩ := zQ1 ns h1 (show n <= 7 by bv_omega)
 exact ⟨tr1 n ops ms, yM7 q, yP1 e (by bv_omega) q.len hm q.bd⟩
inductive GT : Nat -> D -> Prop
 | none {m : Nat} : GT m .none
 | node {m : Nat} (b : Int) (ks : List D) : ks.length <= 7 -> (∀ d ∈ ks, GT m d) -> GT (m + 1) (.tuple [.int b, .tuple ks])
theorem GT.more {m : Nat} {d : D} (h : GT m d) : ∀ m', m <= m' -> GT m' d := by
 induction h with
 | none => exact fun _ _ => .none
 | @node m b ks l h ih =>
  intro m' hm
  obtain ⟨j, rfl⟩ : ∃ j, m' = j + 1 := ⟨m' - 1, by bv_omega⟩
  exact .node b ks l fun d hd => ih d hd j (by bv_omega)
def isNo : D -> Bool
 | .none => true
 | _ => false
def isT (n : Nat) : Nat -> Nat -> List Int -> List Int -> D -> Bool
 | 0, _, _, _, _ => true
 | k + 1, l, bs, ns, d => match d with
  | .tuple [.int b, .tuple ks] => decide (l ≠ 0) && (decide (0 <= b /\ b < (n : Int)) && (!bs.contains b && (decide (ks.length = n) && (List.range n).all fun i => if ns.contains (i : Int) then isNo (ks.getD i .none) else isT n k (l - 1) (bs ++ [b]) (ns ++ [(i : Int)]) (ks.getD i .none))))
  | _ => true
theorem jD (n k l : Nat) (bs ns : List Int) : isT n k l bs ns .none = true := by cases k <;> rfl
theorem fQ (n k l : Nat) (bs ns : List Int) (b : Int) (ks : List D) : isT n (k + 1) l bs ns (.tuple [.int b, .tuple ks]) = (decide (l ≠ 0) && (decide (0 <= b /\ b < (n : Int)) && (!bs.contains b && (decide (ks.length = n) && (List.range n).all fun i => if ns.contains (i : Int) then isNo (ks.getD i .none) else isT n k (l - 1) (bs ++ [b]) (ns ++ [(i : Int)]) (ks.getD i .none))))) := rfl
theorem zG4 {g : D -> Ev -> Option Ev} {b : Ev -> Res Out} {c : Str} (P : Nat -> Ev -> Prop) (ds : List D) (ρ : Ev) (j : Nat) (dj : D) (hj : ds[j]? = some dj) (h0 : P 0 ρ) (hs : ∀ (i : Nat) d ρ, i < j -> ds[i]? = some d -> P i ρ -> ∃ ρ1 ρ2, g d ρ = some ρ1 /\ b ρ1 = .ok (.nx ρ2) /\ P (i + 1) ρ2)
  (hr : ∀ ρ, P j ρ -> ∃ ρ1, g dj ρ = some ρ1 /\ b ρ1 = .ex c) : L3.forM g b ds ρ = .ex c := by
 induction ds generalizing P ρ j with
 | nil => simp at hj
 | cons d ds ih =>
  cases j with
  | zero =>
   simp at hj
   subst hj
   obtain ⟨ρ1, e1, e2⟩ := hr ρ h0
   rw [L3.forM, e1, Res.lft_some, Res.bind_ok, e2, Res.bind_ex]
  | succ j =>
   obtain ⟨ρ1, ρ2, e1, e2, p⟩ := hs 0 d ρ (Nat.succ_pos _) rfl h0
   rw [L3.forM, e1, Res.lft_some, Res.bind_ok, e2, Res.bind_ok]
   exact ih (fun i => P (i + 1)) ρ2 j (by simpa using hj) p (fun i d ρ hi hd hp => hs (i + 1) d ρ (by bv_omega) (by simpa using hd) hp) hr
theorem qK (p : Nat -> Bool) : ∀ n : Nat, (List.range n).all p = false -> ∃ j, j < n /\ p j = false /\ ∀ i, i < j -> p i = true
 | 0, h => by cases h
 | n + 1, h => by
  rw [List.range_succ, List.all_append] at h
  cases c : (List.range n).all p with
  | false =>
   obtain ⟨j, a, b, d⟩ := qK p n c
   exact ⟨j, by bv_omega, b, d⟩
  | true =>
   rw [c] at h
   have hp : p n = false := by simpa using h
   exact ⟨n, Nat.lt_succ_self n, hp, fun i hi => List.all_eq_true.mp c i (List.mem_range.mpr hi)⟩
theorem zQ9 (ks : List D) : ks = (List.range ks.length).map fun i => ks.getD i .none := by
 refine List.ext_getElem? fun i => ?_
 rw [List.getElem?_map]
 by_cases h : i < ks.length
 ·rw [List.getElem?_range h, Option.map_some, List.getD, List.getElem?_eq_getElem h]
  rfl
 ·rw [List.getElem?_eq_none (by bv_omega), List.getElem?_eq_none (by simp; bv_omega)]
  rfl
theorem uS {ks : List D} {i : Nat} (h : i < ks.length) : ks.getD i .none ∈ ks := by
 rw [List.getD, List.getElem?_eq_getElem h]
 exact List.getElem_mem h
theorem yY3 {d : D} (h : isNo d = true) : d = .none := by cases d <;> first | rfl | cases h
theorem gS (d : D) : isND true d .none = some (!isNo d) := by cases d <;> rfl
abbrev mtB (Fself : List D -> Res D) : Ev -> Res Out := (sQ (sIf (tAn (b2 (isND true) (eV 9) (eC .none)) (b2 (inD false) (eV 8) (eV 4))) (sRa "BadPlan" (aC (eC (.str "a tree goes on by the own name, or by a name found before")) aN)) sN) (sM 7 appD (aC (eF Fself (aC (eV 9) (aC (eV 1) (aC (e2 subI (eV 2) (eC (.int 1))) (aC (e2 catL (eV 3) (eB mkL (aC (eV 5) aN))) (aC (e2 catL (eV 4) (eB mkL (aC (eV 8) aN))) aN)))))) aN)))
theorem raS : (if 0 + 1 <= sizeLine then (Res.ex "BadPlan" : Res Out) else .no) = .ex "BadPlan" := if_pos (by decide)
theorem zO6 {n : Nat} (hn : n <= 7) : ∀ (k m : Nat) (d : D) (l : Nat) (bs ns : List Int), GT m d -> m < k -> bs.length + m <= 100 -> ns.length + m <= 100 -> yD k [d, .int (n : Int), .int (l : Int), lI bs, lI ns] = if isT n k l bs ns d then .ok d else .ex "BadPlan"
 | 0, m, d, l, bs, ns, _, h, _, _ => by bv_omega
 | k + 1, m, d, l, bs, ns, T, hk, h1, h2 => by
  cases T with
  | none =>
   rw [jD, if_pos rfl]
   show (vX (yD k) [some .none, some (.int (n : Int)), some (.int (l : Int)), some (lI bs), some (lI ns), none, none, none, none, none]).bind (fin false) = _
   unfold vX
   have i0 : isND false .none .none = some true := rfl
   simp -implicitDefEqProofs only [(evA), i0]
  | @node m b ks hl7 hks =>
   show (vX (yD k) [some (.tuple [.int b, .tuple ks]), some (.int (n : Int)), some (.int (l : Int)), some (lI bs), some (lI ns), none, none, none, none, none]).bind (fin false) = _
   unfold vX
   have i0 : isND false (.tuple [.int b, .tuple ks]) .none = some false := rfl
   have a0 : atI [PyData.int b, .tuple ks] 0 = some (.int b) := rfl
   have a1 : atI [PyData.int b, .tuple ks] 1 = some (.tuple ks) := rfl
   rw [fQ]
   by_cases c1 : l = 0
   ·rw [decide_eq_false (show ¬ (l ≠ 0) from fun z => z c1), Bool.false_and, if_neg Bool.false_ne_true]
    simp -implicitDefEqProofs only [(evA), i0, a0, a1, yP, decide_eq_true (show (l : Int) = 0 by bv_omega), xG, raS]
   rw [decide_eq_true (show l ≠ 0 from c1), Bool.true_and]
   by_cases c2 : 0 <= b
   ·by_cases c3 : b < (n : Int)
    ·rw [decide_eq_true (show 0 <= b /\ b < (n : Int) from ⟨c2, c3⟩), Bool.true_and]
     cases c4 : bs.contains b with
     | true =>
      rw [Bool.not_true, Bool.false_and, if_neg Bool.false_ne_true]
      simp -implicitDefEqProofs only [(evA), i0, a0, a1, yP, decide_eq_false (show ¬ (l : Int) = 0 by bv_omega), decide_eq_true c2, decide_eq_true c3, xE, c4, xG, raS]
     | false =>
      rw [Bool.not_false, Bool.true_and]
      by_cases c5 : ks.length = n
      ·rw [decide_eq_true c5, Bool.true_and]
       have kr := zQ9 ks
       rw [c5] at kr
       obtain ⟨f, hf⟩ : ∃ f : Nat -> D, f = fun i => ks.getD i .none := ⟨_, rfl⟩
       have gTT : ∀ i, i < n -> GT m (f i) := fun i hi => by rw [hf]; exact hks _ (uS (by bv_omega))
       have gf : ∀ i, ks.getD i .none = f i := fun i => by rw [hf]
       rw [<- hf] at kr
       simp only [gf]
       rw [kr]
       have hl : ((List.range n).map f).length = n := by rw [List.length_map, List.length_range]
       have cb : catL (lI bs) (.list [.int b]) = some (lI (bs ++ [b])) := uD (xs := bs) (ys := [b]) (by simp; bv_omega)
       have sb : (l : Int) - 1 = ((l - 1 : Nat) : Int) := by bv_omega
       have nn : ∀ i, catL (lI ns) (.list [.int ((i : Nat) : Int)]) = some (lI (ns ++ [(i : Int)])) := fun i => uD (xs := ns) (ys := [(i : Int)]) (by simp; bv_omega)
       have e1 : ∀ i, i < n -> yD k [f i, .int (n : Int), .int ((l - 1 : Nat) : Int), lI (bs ++ [b]), lI (ns ++ [(i : Int)])] = if isT n k (l - 1) (bs ++ [b]) (ns ++ [(i : Int)]) (f i) then .ok (f i) else .ex "BadPlan" := fun i hi => zO6 hn k m (f i) (l - 1) _ _ (gTT i hi) (by bv_omega) (by simp; bv_omega) (by simp; bv_omega)
       have i0' : isND false (.tuple [.int b, .tuple ((List.range n).map f)]) .none = some false := rfl
       have a0' : atI [PyData.int b, .tuple ((List.range n).map f)] 0 = some (.int b) := rfl
       have a1' : atI [PyData.int b, .tuple ((List.range n).map f)] 1 = some (.tuple ((List.range n).map f)) := rfl
       have good : ∀ i, i < n -> (if ns.contains (i : Int) then isNo (f i) else isT n k (l - 1) (bs ++ [b]) (ns ++ [(i : Int)]) (f i)) = true -> mtB (yD k) [some (.tuple [.int b, .tuple ((List.range n).map f)]), some (.int (n : Int)), some (.int (l : Int)), some (lI bs), some (lI ns), some (.int b), some (.tuple ((List.range n).map f)), some (.list ((List.range i).map f)), some (.int (i : Int)), some (f i)] = .ok (.nx [some (.tuple [.int b, .tuple ((List.range n).map f)]), some (.int (n : Int)), some (.int (l : Int)), some (lI bs), some (lI ns), some (.int b), some (.tuple ((List.range n).map f)), some (.list ((List.range (i + 1)).map f)), some (.int (i : Int)), some (f i)]) := by
        intro i hi g
        have ap := yN8 (l := (List.range i).map f) (d := f i) (by rw [List.length_map, List.length_range]; bv_omega)
        have rs : (List.range i).map f ++ [f i] = (List.range (i + 1)).map f := by rw [List.range_succ, List.map_append]; rfl
        rw [rs] at ap
        have ei := e1 i hi
        unfold mtB
        cases c : ns.contains (i : Int) with
        | true =>
         rw [c, if_pos rfl] at g
         have fi := yY3 g
         rw [fi, jD, if_pos rfl, <- fi] at ei
         have i1 := gS (f i)
         rw [g] at i1
         simp -implicitDefEqProofs only [(evA), i1, cb, nn, sb, ei, ap]
        | false =>
         rw [c, if_neg Bool.false_ne_true] at g
         rw [g, if_pos rfl] at ei
         have i1 := gS (f i)
         cases t : isNo (f i) with
         | true =>
          rw [t] at i1
          simp -implicitDefEqProofs only [(evA), i1, xE, c, cb, nn, sb, ei, ap]
         | false =>
          rw [t] at i1
          simp -implicitDefEqProofs only [(evA), i1, xE, c, cb, nn, sb, ei, ap]
       have gt2 : ∀ (i : Nat) (x y z : Option D), gT 2 (gsC (gN 8) (gsC (gN 9) gsN)) (.tuple [.int (i : Int), f i]) [some (.tuple [.int b, .tuple ((List.range n).map f)]), some (.int (n : Int)), some (.int (l : Int)), some (lI bs), some (lI ns), some (.int b), some (.tuple ((List.range n).map f)), z, x, y] = some [some (.tuple [.int b, .tuple ((List.range n).map f)]), some (.int (n : Int)), some (.int (l : Int)), some (lI bs), some (lI ns), some (.int b), some (.tuple ((List.range n).map f)), z, some (.int (i : Int)), some (f i)] := fun _ _ _ _ => rfl
       have st : ∀ (i : Nat) (d : D) (ρ : Ev), ((List.range n).map fun (i : Nat) => PyData.tuple [.int (i : Int), f i])[i]? = some d -> (∃ x y, ρ = [some (.tuple [.int b, .tuple ((List.range n).map f)]), some (.int (n : Int)), some (.int (l : Int)), some (lI bs), some (lI ns), some (.int b), some (.tuple ((List.range n).map f)), some (.list ((List.range i).map f)), x, y]) -> i < n /\ L3.gT 2 (gsC (gN 8) (gsC (gN 9) gsN)) d ρ = some [some (.tuple [.int b, .tuple ((List.range n).map f)]), some (.int (n : Int)), some (.int (l : Int)), some (lI bs), some (lI ns), some (.int b), some (.tuple ((List.range n).map f)), some (.list ((List.range i).map f)), some (.int (i : Int)), some (f i)] := by
        rintro i d ρ hd ⟨x, y, rfl⟩
        rw [List.getElem?_map] at hd
        obtain ⟨j, ej, rfl⟩ := Option.map_eq_some_iff.mp hd
        have hi : i < n := by simpa using (List.getElem?_eq_some_iff.mp ej).1
        rw [List.getElem?_range hi] at ej
        cases ej
        exact ⟨hi, gt2 i x y _⟩
       simp -implicitDefEqProofs only [(evA), i0', a0', a1', yP, decide_eq_false (show ¬ (l : Int) = 0 by bv_omega), decide_eq_true c2, decide_eq_true c3, xE, c4, hl, xZ, decide_true, zS7]
       cases all : (List.range n).all fun i => if ns.contains (i : Int) then isNo (f i) else isT n k (l - 1) (bs ++ [b]) (ns ++ [(i : Int)]) (f i) with
       | true =>
        rw [if_pos rfl]
        refine jO (fun i ρ => ∃ x y, ρ = [some (.tuple [.int b, .tuple ((List.range n).map f)]), some (.int (n : Int)), some (.int (l : Int)), some (lI bs), some (lI ns), some (.int b), some (.tuple ((List.range n).map f)), some (.list ((List.range i).map f)), x, y]) ⟨none, none, rfl⟩ ?_ ?_
        ·intro i d ρ hd hp
         obtain ⟨hi, eg⟩ := st i d ρ hd hp
         exact ⟨_, _, eg, good i hi (List.all_eq_true.mp all i (List.mem_range.mpr hi)), _, _, rfl⟩
        ·rintro ρ ⟨x, y, rfl⟩
         rw [List.length_map, List.length_range]
         simp -implicitDefEqProofs only [(evA)]
       | false =>
        rw [if_neg Bool.false_ne_true]
        obtain ⟨j, hj, bj, bef⟩ := qK _ n all
        have ex := zG4 (g := L3.gT 2 (gsC (gN 8) (gsC (gN 9) gsN))) (b := mtB (yD k)) (c := "BadPlan") (fun i ρ => ∃ x y, ρ = [some (.tuple [.int b, .tuple ((List.range n).map f)]), some (.int (n : Int)), some (.int (l : Int)), some (lI bs), some (lI ns), some (.int b), some (.tuple ((List.range n).map f)), some (.list ((List.range i).map f)), x, y]) ((List.range n).map fun (i : Nat) => PyData.tuple [.int (i : Int), f i]) [some (.tuple [.int b, .tuple ((List.range n).map f)]), some (.int (n : Int)), some (.int (l : Int)), some (lI bs), some (lI ns), some (.int b), some (.tuple ((List.range n).map f)), some (.list []), none, none] j (.tuple [.int (j : Int), f j]) (by rw [List.getElem?_map, List.getElem?_range hj]; rfl) ⟨none, none, rfl⟩
         (fun i d ρ hij hd hp => by
          obtain ⟨hi, eg⟩ := st i d ρ hd hp
          exact ⟨_, _, eg, good i hi (bef i hij), _, _, rfl⟩)
         (by
          rintro ρ ⟨x, y, rfl⟩
          refine ⟨_, gt2 j x y _, ?_⟩
          unfold mtB
          have ei := e1 j hj
          have i1 := gS (f j)
          cases c : ns.contains (j : Int) with
          | true =>
           rw [c, if_pos rfl] at bj
           rw [bj] at i1
           simp -implicitDefEqProofs only [(evA), i1, xE, c, xG, raS]
          | false =>
           rw [c, if_neg Bool.false_ne_true] at bj
           rw [bj, if_neg Bool.false_ne_true] at ei
           cases t : isNo (f j) with
           | true =>
            rw [t] at i1
            simp -implicitDefEqProofs only [(evA), i1, xE, c, cb, nn, sb, ei]
           | false =>
            rw [t] at i1
            simp -implicitDefEqProofs only [(evA), i1, xE, c, cb, nn, sb, ei])
        rw [ex]
        rfl
      ·rw [decide_eq_false c5, Bool.false_and, if_neg Bool.false_ne_true]
       simp -implicitDefEqProofs only [(evA), i0, a0, a1, yP, decide_eq_false (show ¬ (l : Int) = 0 by bv_omega), decide_eq_true c2, decide_eq_true c3, xE, c4, xZ, decide_eq_false (show ¬ ((ks.length : Nat) : Int) = (n : Int) by bv_omega), xG, raS]
    ·rw [decide_eq_false (show ¬ (0 <= b /\ b < (n : Int)) from fun z => c3 z.2), Bool.false_and, if_neg Bool.false_ne_true]
     simp -implicitDefEqProofs only [(evA), i0, a0, a1, yP, decide_eq_false (show ¬ (l : Int) = 0 by bv_omega), decide_eq_true c2, decide_eq_false c3, xG, raS]
   ·rw [decide_eq_false (show ¬ (0 <= b /\ b < (n : Int)) from fun z => c2 z.1), Bool.false_and, if_neg Bool.false_ne_true]
    simp -implicitDefEqProofs only [(evA), i0, a0, a1, yP, decide_eq_false (show ¬ (l : Int) = 0 by bv_omega), decide_eq_false c2, xG, raS]
abbrev itB (Fself : List D -> Res D) : Ev -> Res Out := (sIf (b2 (inD false) (eV 5) (eV 4)) (sIf (b2 (isND true) (e2 ixD (e2 ixD (eV 0) (eC (.int 1))) (eV 5)) (eC .none)) (sR (eC (.bool false))) sN) (sIf (tNt (tV (eF Fself (aC (e2 ixD (e2 ixD (eV 0) (eC (.int 1))) (eV 5)) (aC (eV 1) (aC (e2 subI (eV 2) (eC (.int 1))) (aC (e2 catL (eV 3) (eB mkL (aC (e2 ixD (eV 0) (eC (.int 0))) aN))) (aC (e2 catL (eV 4) (eB mkL (aC (eV 5) aN))) aN)))))))) (sR (eC (.bool false))) sN))
theorem zN3 {n : Nat} (hn : n <= 7) : ∀ (k m : Nat) (d : D) (l : Nat) (bs ns : List Int), GT m d -> m < k -> bs.length + m <= 100 -> ns.length + m <= 100 -> xV k [d, .int (n : Int), .int (l : Int), lI bs, lI ns] = .ok (.bool (isT n k l bs ns d))
 | 0, m, d, l, bs, ns, _, h, _, _ => by bv_omega
 | k + 1, m, d, l, bs, ns, T, hk, h1, h2 => by
  cases T with
  | none =>
   rw [jD]
   show (wC (xV k) [some .none, some (.int (n : Int)), some (.int (l : Int)), some (lI bs), some (lI ns), none]).bind (fin false) = _
   unfold wC
   have i0 : isND false .none .none = some true := rfl
   simp -implicitDefEqProofs only [(evA), i0]
  | @node m b ks hl7 hks =>
   show (wC (xV k) [some (.tuple [.int b, .tuple ks]), some (.int (n : Int)), some (.int (l : Int)), some (lI bs), some (lI ns), none]).bind (fin false) = _
   unfold wC
   have i0 : isND false (.tuple [.int b, .tuple ks]) .none = some false := rfl
   have a0 : atI [PyData.int b, .tuple ks] 0 = some (.int b) := rfl
   have a1 : atI [PyData.int b, .tuple ks] 1 = some (.tuple ks) := rfl
   rw [fQ]
   by_cases c1 : l = 0
   ·rw [decide_eq_false (show ¬ (l ≠ 0) from fun z => z c1), Bool.false_and]
    simp -implicitDefEqProofs only [(evA), i0, yP, decide_eq_true (show (l : Int) = 0 by bv_omega)]
   rw [decide_eq_true (show l ≠ 0 from c1), Bool.true_and]
   by_cases c2 : 0 <= b
   ·by_cases c3 : b < (n : Int)
    ·rw [decide_eq_true (show 0 <= b /\ b < (n : Int) from ⟨c2, c3⟩), Bool.true_and]
     cases c4 : bs.contains b with
     | true =>
      rw [Bool.not_true, Bool.false_and]
      simp -implicitDefEqProofs only [(evA), i0, a0, a1, yP, decide_eq_false (show ¬ (l : Int) = 0 by bv_omega), decide_eq_false (show ¬ b < 0 by bv_omega), decide_eq_false (show ¬ (n : Int) <= b by bv_omega), xE, c4]
     | false =>
      rw [Bool.not_false, Bool.true_and]
      by_cases c5 : ks.length = n
      ·rw [decide_eq_true c5, Bool.true_and]
       have kr := zQ9 ks
       rw [c5] at kr
       obtain ⟨f, hf⟩ : ∃ f : Nat -> D, f = fun i => ks.getD i .none := ⟨_, rfl⟩
       have gTT : ∀ i, i < n -> GT m (f i) := fun i hi => by rw [hf]; exact hks _ (uS (by bv_omega))
       have gf : ∀ i, ks.getD i .none = f i := fun i => by rw [hf]
       rw [<- hf] at kr
       simp only [gf]
       rw [kr]
       have hl : ((List.range n).map f).length = n := by rw [List.length_map, List.length_range]
       have cb : catL (lI bs) (.list [.int b]) = some (lI (bs ++ [b])) := uD (xs := bs) (ys := [b]) (by simp; bv_omega)
       have sb : (l : Int) - 1 = ((l - 1 : Nat) : Int) := by bv_omega
       have nn : ∀ i, catL (lI ns) (.list [.int ((i : Nat) : Int)]) = some (lI (ns ++ [(i : Int)])) := fun i => uD (xs := ns) (ys := [(i : Int)]) (by simp; bv_omega)
       have e1 : ∀ i, i < n -> xV k [f i, .int (n : Int), .int ((l - 1 : Nat) : Int), lI (bs ++ [b]), lI (ns ++ [(i : Int)])] = .ok (.bool (isT n k (l - 1) (bs ++ [b]) (ns ++ [(i : Int)]) (f i))) := fun i hi => zN3 hn k m (f i) (l - 1) _ _ (gTT i hi) (by bv_omega) (by simp; bv_omega) (by simp; bv_omega)
       have i0' : isND false (.tuple [.int b, .tuple ((List.range n).map f)]) .none = some false := rfl
       have a0' : atI [PyData.int b, .tuple ((List.range n).map f)] 0 = some (.int b) := rfl
       have a1' : atI [PyData.int b, .tuple ((List.range n).map f)] 1 = some (.tuple ((List.range n).map f)) := rfl
       have bd : ∀ i, i < n -> itB (xV k) [some (.tuple [.int b, .tuple ((List.range n).map f)]), some (.int (n : Int)), some (.int (l : Int)), some (lI bs), some (lI ns), some (.int (i : Int))] = if (if ns.contains (i : Int) then isNo (f i) else isT n k (l - 1) (bs ++ [b]) (ns ++ [(i : Int)]) (f i)) = true then .ok (.nx [some (.tuple [.int b, .tuple ((List.range n).map f)]), some (.int (n : Int)), some (.int (l : Int)), some (lI bs), some (lI ns), some (.int (i : Int))]) else .ok (.rt (.bool false)) := by
        intro i hi
        have ei := e1 i hi
        have i1 := gS (f i)
        have ai := yT4 f hi
        unfold itB
        cases c : ns.contains (i : Int) with
        | true =>
         cases t : isNo (f i) with
         | true =>
          rw [t] at i1
          simp -implicitDefEqProofs only [(evA), xE, c, a1', ai, i1]
         | false =>
          rw [t] at i1
          simp -implicitDefEqProofs only [(evA), xE, c, a1', ai, i1]
        | false =>
         cases t : isT n k (l - 1) (bs ++ [b]) (ns ++ [(i : Int)]) (f i) with
         | true =>
          rw [t] at ei
          simp -implicitDefEqProofs only [(evA), xE, c, a0', a1', ai, cb, nn, sb, ei]
         | false =>
          rw [t] at ei
          simp -implicitDefEqProofs only [(evA), xE, c, a0', a1', ai, cb, nn, sb, ei]
       simp -implicitDefEqProofs only [(evA), i0', a0', a1', yP, decide_eq_false (show ¬ (l : Int) = 0 by bv_omega), decide_eq_false (show ¬ b < 0 by bv_omega), decide_eq_false (show ¬ (n : Int) <= b by bv_omega), xE, c4, hl, xZ, decide_true, gU (show n <= 1000 by bv_omega)]
       cases all : (List.range n).all fun i => if ns.contains (i : Int) then isNo (f i) else isT n k (l - 1) (bs ++ [b]) (ns ++ [(i : Int)]) (f i) with
       | true =>
        refine jO (fun i ρ => ∃ x, ρ = [some (.tuple [.int b, .tuple ((List.range n).map f)]), some (.int (n : Int)), some (.int (l : Int)), some (lI bs), some (lI ns), x]) ⟨none, rfl⟩ ?_ ?_
        ·rintro i d ρ hd ⟨x, rfl⟩
         obtain ⟨hi, rfl⟩ := jM hd
         have bi := bd i hi
         rw [List.all_eq_true.mp all i (List.mem_range.mpr hi), if_pos rfl] at bi
         exact ⟨_, _, rfl, bi, _, rfl⟩
        ·rintro ρ ⟨x, rfl⟩
         simp -implicitDefEqProofs only [(evA)]
       | false =>
        obtain ⟨j, hj, bj, bef⟩ := qK _ n all
        refine zV1 (fun i ρ => ∃ x, ρ = [some (.tuple [.int b, .tuple ((List.range n).map f)]), some (.int (n : Int)), some (.int (l : Int)), some (lI bs), some (lI ns), x]) j (.int (j : Int)) (.bool false) (by rw [List.getElem?_map, List.getElem?_range hj]; rfl) ⟨none, rfl⟩ ?_ ?_ rfl
        ·rintro i d ρ hij hd ⟨x, rfl⟩
         obtain ⟨hi, rfl⟩ := jM hd
         have bi := bd i hi
         rw [bef i hij, if_pos rfl] at bi
         exact ⟨_, _, rfl, bi, _, rfl⟩
        ·rintro ρ ⟨x, rfl⟩
         have bi := bd j hj
         rw [bj, if_neg Bool.false_ne_true] at bi
         exact ⟨_, rfl, bi⟩
      ·rw [decide_eq_false c5, Bool.false_and]
       simp -implicitDefEqProofs only [(evA), i0, a0, a1, yP, decide_eq_false (show ¬ (l : Int) = 0 by bv_omega), decide_eq_false (show ¬ b < 0 by bv_omega), decide_eq_false (show ¬ (n : Int) <= b by bv_omega), xE, c4, xZ, decide_eq_false (show ¬ ((ks.length : Nat) : Int) = (n : Int) by bv_omega)]
    ·rw [decide_eq_false (show ¬ (0 <= b /\ b < (n : Int)) from fun z => c3 z.2), Bool.false_and]
     simp -implicitDefEqProofs only [(evA), i0, a0, a1, yP, decide_eq_false (show ¬ (l : Int) = 0 by bv_omega), decide_eq_false (show ¬ b < 0 by bv_omega), decide_eq_true (show (n : Int) <= b by bv_omega)]
   ·rw [decide_eq_false (show ¬ (0 <= b /\ b < (n : Int)) from fun z => c2 z.1), Bool.false_and]
    simp -implicitDefEqProofs only [(evA), i0, a0, a1, yP, decide_eq_false (show ¬ (l : Int) = 0 by bv_omega), decide_eq_true (show b < 0 by bv_omega)]
def gO (os : List Int) : Bool := decide (1 <= os.length) && (decide (os.length <= 6) && os.all fun x => decide (0 <= x) && decide (x <= (os.length : Int)))
theorem dS {os : List Int} (h : gO os = true) : 1 <= os.length /\ os.length <= 6 /\ Opn os.length os := by
 unfold gO at h
 rw [Bool.and_eq_true, Bool.and_eq_true, decide_eq_true_eq, decide_eq_true_eq, List.all_eq_true] at h
 refine ⟨h.1, h.2.1, rfl, fun x hx => ?_⟩
 have := h.2.2 x hx
 rw [Bool.and_eq_true, decide_eq_true_eq, decide_eq_true_eq] at this
 exact this
theorem zC9 {os : List Int} {n : Nat} (q : Opn n os) (h1 : 1 <= n) (h2 : n <= 6) : gO os = true := by
 have e := q.len
 subst e
 unfold gO
 rw [decide_eq_true h1, decide_eq_true h2, Bool.true_and, Bool.true_and, List.all_eq_true]
 intro x hx
 have := q.bd x hx
 rw [decide_eq_true this.1, decide_eq_true this.2]
 rfl
theorem yP5 {os : List Int} (h : gO os = false) (h6 : os.length <= 6) : BadO (os.length : Int) os := by
 rintro ⟨a, _, _, d⟩
 have : gO os = true := zC9 ⟨rfl, d⟩ (by bv_omega) h6
 rw [h] at this
 cases this
theorem kA (os : List Int) : yI [tI os] = if gO os = true then .ok (tI os) else .ex "BadOpenings" := by
 cases g : gO os with
 | true =>
  obtain ⟨h1, h2, q⟩ := dS g
  rw [if_pos rfl]
  exact vP q h1 h2
 | false =>
  rw [if_neg Bool.false_ne_true]
  show (yJ [some (tI os)]).bind (fin false) = _
  unfold yJ
  by_cases c : 6 < os.length
  ·have z : (if 0 + 1 <= sizeLine then (Res.ex "BadOpenings" : Res Out) else .no) = .ex "BadOpenings" := if_pos (by decide)
   simp -implicitDefEqProofs only [(evA), List.length_map, decide_eq_true (show (6 : Int) < (os.length : Int) by bv_omega), xG, z]
  ·simp -implicitDefEqProofs only [(evA), List.length_map, decide_eq_false (show ¬ (6 : Int) < (os.length : Int) by bv_omega), fN (.inr rfl) (yP5 g (by bv_omega))]
theorem bL (os : List Int) : ∃ d, xP [tI os] = if gO os = true then .ok d else .ex "BadOpenings" := by
 cases g : gO os with
 | true =>
  obtain ⟨h1, h2, q⟩ := dS g
  exact ⟨_, by rw [if_pos rfl]; exact gF q h1 h2⟩
 | false =>
  refine ⟨.none, ?_⟩
  rw [if_neg Bool.false_ne_true]
  show (xQ [some (tI os), none, none]).bind (fin false) = _
  unfold xQ
  have e := kA os
  rw [g, if_neg Bool.false_ne_true] at e
  simp -implicitDefEqProofs only [(evA), e]
def gP (os : List Int) (ts : List D) : Bool := decide (ts.length = os.length) && (List.range os.length).all fun p => isT os.length 12 (os.getD p 0).toNat [] [(p : Int)] (ts.getD p .none)
theorem zG3 {os : List Int} {ts : List D} {d : D} (hd : d = .list ts \/ d = .tuple ts) (hg : gO os = true -> ∀ t ∈ ts, GT 11 t) : uU [tI os, d] = if gO os = true then (if gP os ts = true then .ok (.tuple ts) else .ex "BadPlan") else .ex "BadOpenings" := by
 show (qH [some (tI os), some d, none, none]).bind (fin false) = _
 unfold qH
 have e := kA os
 cases g : gO os with
 | false =>
  rw [g, if_neg Bool.false_ne_true] at e
  rw [if_neg Bool.false_ne_true]
  simp -implicitDefEqProofs only [(evA), e]
 | true =>
  rw [g, if_pos rfl] at e
  rw [if_pos rfl]
  obtain ⟨h1, h2, q⟩ := dS g
  have hg := hg g
  have ln : lenD [d] = some (.int (ts.length : Int)) := by
   rcases hd with rfl | rfl
   ·rw [jT]; simp only [aV, Option.map_some]
   ·rw [jT]; simp only [zZ3, Option.map_some]
  unfold gP
  by_cases c : ts.length = os.length
  ·rw [decide_eq_true c, Bool.true_and]
   have kr := zQ9 ts
   rw [c] at kr
   have en : xU (eV 1) [some (tI os), some d, some (tI os), some (.int (os.length : Int))] = .ok ((List.range os.length).map fun (i : Nat) => PyData.tuple [.int (i : Int), ts.getD i .none]) := by
    have e := zS7 os.length fun i => ts.getD i .none
    rw [<- kr] at e
    rcases hd with rfl | rfl
    ·simp -implicitDefEqProofs only [(evA), e]
    ·simp -implicitDefEqProofs only [(evA), e]
   have cc : eComp2X (xU (eV 1)) tYes (eF wD (aC (eV 1) (aC (eV 2) (aC (e2 ixD (eV 3) (eV 0)) (aC (eB mkL aN) (aC (eB mkL (aC (eV 0) aN)) aN)))))) [3, 2] [some (tI os), some d, some (tI os), some (.int (os.length : Int))] = if ((List.range os.length).all fun p => isT os.length 12 (os.getD p 0).toNat [] [(p : Int)] (ts.getD p .none)) = true then .ok (.list ts) else .ex "BadPlan" := by
    rw [zW2 (fun i : Nat => PyData.int (i : Int)) (fun i => ts.getD i .none) (fun p => if isT os.length 12 (os.getD p 0).toNat [] [(p : Int)] (ts.getD p .none) = true then .ok (ts.getD p .none) else .ex "BadPlan") (List.range os.length) en (by rw [List.length_range]; bv_omega) ?_]
    ·rw [zV5 (fun p => isT os.length 12 (os.getD p 0).toNat [] [(p : Int)] (ts.getD p .none)) (fun p => ts.getD p .none) "BadPlan" _ (fun _ _ => rfl)]
     split
     ·rw [Res.bind_ok, <- kr]
     ·rfl
    ·intro p hp
     have hp := List.mem_range.mp hp
     have b := q.at hp
     have a := zS5 q hp
     have m := zO6 (show os.length <= 7 by bv_omega) 12 11 (ts.getD p .none) (os.getD p 0).toNat [] [(p : Int)] (hg _ (uS (by bv_omega))) (by decide) (by show 0 + 11 <= 100; decide) (by show 1 + 11 <= 100; decide)
     have m' : wD [ts.getD p .none, .int (os.length : Int), .int ((os.getD p 0).toNat : Int), .list [], .list [.int (p : Int)]] = _ := m
     show eF wD _ [some (.int (p : Int)), some (ts.getD p .none), some (.int (os.length : Int)), some (tI os)] = _
     simp -implicitDefEqProofs only [(evA), a, m']
   split at cc
   ·rename_i h
    rw [if_pos h]
    simp -implicitDefEqProofs only [(evA), e, List.length_map, ln, c, xZ, decide_true, cc]
   ·rename_i h
    rw [if_neg h]
    simp -implicitDefEqProofs only [(evA), e, List.length_map, ln, c, xZ, decide_true, cc]
  ·rw [decide_eq_false c, Bool.false_and, if_neg Bool.false_ne_true]
   simp -implicitDefEqProofs only [(evA), e, List.length_map, ln, xZ, decide_eq_false (show ¬ ((ts.length : Nat) : Int) = (os.length : Int) by bv_omega), xG, raS]
theorem all_map {α : Type} (xs : List α) (g : α -> Bool) : allD [.list (xs.map fun x => PyData.bool (g x))] = some (.bool (xs.all g)) := by
 unfold allD
 rw [show (xs.map fun x => PyData.bool (g x)) = (xs.map g).map PyData.bool by rw [List.map_map]; rfl]
 simp only [boolsOf_map, Option.map_some, List.all_map]
 rfl
abbrev duB : Ev -> Res Out := (sIf (tNt (tV (eF uV (aC (e2 ixD (eV 1) (eV 3)) (aC (eV 2) (aC (e2 ixD (eV 0) (eV 3)) (aC (eB mkL aN) (aC (eB mkL (aC (eV 3) aN)) aN)))))))) (sR (eC (.str "plan"))) sN)
theorem yY7 {os : List Int} {ts : List D} (hg : gO os = true -> ∀ t ∈ ts, GT 11 t) : uE [tI os, .list ts] = .ok (.str (if gO os = true then (if gP os ts = true then "none" else "plan") else "openings")) := by
 show (dP [some (tI os), some (.list ts), none, none]).bind (fin false) = _
 unfold dP
 by_cases c0 : os.length < 1
 ·have g : gO os = false := by unfold gO; rw [decide_eq_false (show ¬ 1 <= os.length by bv_omega), Bool.false_and]
  rw [g, if_neg Bool.false_ne_true]
  simp -implicitDefEqProofs only [(evA), List.length_map, decide_eq_true (show (os.length : Int) < 1 by bv_omega)]
 by_cases c6 : 6 < os.length
 ·have g : gO os = false := by unfold gO; rw [decide_eq_false (show ¬ os.length <= 6 by bv_omega), Bool.false_and, Bool.and_false]
  rw [g, if_neg Bool.false_ne_true]
  simp -implicitDefEqProofs only [(evA), List.length_map, decide_eq_false (show ¬ (os.length : Int) < 1 by bv_omega), decide_eq_true (show (6 : Int) < (os.length : Int) by bv_omega)]
 have cc : eComp (iS (eV 0)) tYes (vB (b3 leI leI (eC (.int 0)) (eV 0) (eV 1))) [2] [some (tI os), some (.list ts), some (.int (os.length : Int)), none] = .ok (.list (os.map fun x => PyData.bool (decide (0 <= x) && decide (x <= (os.length : Int))))) := by
  refine hJ PyData.int _ os (by simp -implicitDefEqProofs only [(evA)]) (by bv_omega) fun x hx => ?_
  show vB _ [some (.int x), some (.int (os.length : Int))] = _
  by_cases d : 0 <= x
  ·simp -implicitDefEqProofs only [(evA), decide_eq_true d, Bool.true_and]
  ·simp -implicitDefEqProofs only [(evA), decide_eq_false d, Bool.false_and]
 have al := all_map os fun x => decide (0 <= x) && decide (x <= (os.length : Int))
 have g : gO os = os.all fun x => decide (0 <= x) && decide (x <= (os.length : Int)) := by unfold gO; rw [decide_eq_true (show 1 <= os.length by bv_omega), decide_eq_true (show os.length <= 6 by bv_omega), Bool.true_and, Bool.true_and]
 rw [<- g] at al
 cases g0 : gO os with
 | false =>
  rw [g0] at al
  rw [if_neg Bool.false_ne_true]
  simp -implicitDefEqProofs only [(evA), List.length_map, decide_eq_false (show ¬ (os.length : Int) < 1 by bv_omega), decide_eq_false (show ¬ (6 : Int) < (os.length : Int) by bv_omega), cc, al]
 | true =>
  rw [g0] at al
  rw [if_pos rfl]
  obtain ⟨h1, h2, q⟩ := dS g0
  have hg := hg g0
  unfold gP
  by_cases c : ts.length = os.length
  ·rw [decide_eq_true c, Bool.true_and]
   simp -implicitDefEqProofs only [(evA), List.length_map, decide_eq_false (show ¬ (os.length : Int) < 1 by bv_omega), decide_eq_false (show ¬ (6 : Int) < (os.length : Int) by bv_omega), cc, al, c, xZ, decide_true, gU (show os.length <= 1000 by bv_omega)]
   have bd : ∀ p, p < os.length -> duB [some (tI os), some (.list ts), some (.int (os.length : Int)), some (.int (p : Int))] = if isT os.length 12 (os.getD p 0).toNat [] [(p : Int)] (ts.getD p .none) = true then .ok (.nx [some (tI os), some (.list ts), some (.int (os.length : Int)), some (.int (p : Int))]) else .ok (.rt (.str "plan")) := by
    intro p hp
    have a := zS5 q hp
    have at' : atI ts (p : Int) = some (ts.getD p .none) := by
     rw [gK (List.getElem?_eq_getElem (by bv_omega : p < ts.length)), List.getD, List.getElem?_eq_getElem (by bv_omega : p < ts.length)]
     rfl
    have m := zN3 (show os.length <= 7 by bv_omega) 12 11 (ts.getD p .none) (os.getD p 0).toNat [] [(p : Int)] (hg _ (uS (by bv_omega))) (by decide) (by show 0 + 11 <= 100; decide) (by show 1 + 11 <= 100; decide)
    have m' : uV [ts.getD p .none, .int (os.length : Int), .int ((os.getD p 0).toNat : Int), .list [], .list [.int (p : Int)]] = _ := m
    unfold duB
    cases t : isT os.length 12 (os.getD p 0).toNat [] [(p : Int)] (ts.getD p .none) with
    | true =>
     rw [t] at m'
     simp -implicitDefEqProofs only [(evA), a, at', m']
    | false =>
     rw [t] at m'
     simp -implicitDefEqProofs only [(evA), a, at', m']
   cases all : (List.range os.length).all fun p => isT os.length 12 (os.getD p 0).toNat [] [(p : Int)] (ts.getD p .none) with
   | true =>
    refine jO (fun i ρ => ∃ x, ρ = [some (tI os), some (.list ts), some (.int (os.length : Int)), x]) ⟨none, rfl⟩ ?_ ?_
    ·rintro i d ρ hd ⟨x, rfl⟩
     obtain ⟨hi, rfl⟩ := jM hd
     have bi := bd i hi
     rw [List.all_eq_true.mp all i (List.mem_range.mpr hi), if_pos rfl] at bi
     exact ⟨_, _, rfl, bi, _, rfl⟩
    ·rintro ρ ⟨x, rfl⟩
     simp -implicitDefEqProofs only [(evA)]
   | false =>
    obtain ⟨j, hj, bj, bef⟩ := qK _ os.length all
    refine zV1 (fun i ρ => ∃ x, ρ = [some (tI os), some (.list ts), some (.int (os.length : Int)), x]) j (.int (j : Int)) (.str "plan") (by rw [List.getElem?_map, List.getElem?_range hj]; rfl) ⟨none, rfl⟩ ?_ ?_ rfl
    ·rintro i d ρ hij hd ⟨x, rfl⟩
     obtain ⟨hi, rfl⟩ := jM hd
     have bi := bd i hi
     rw [bef i hij, if_pos rfl] at bi
     exact ⟨_, _, rfl, bi, _, rfl⟩
    ·rintro ρ ⟨x, rfl⟩
     have bi := bd j hj
     rw [bj, if_neg Bool.false_ne_true] at bi
     exact ⟨_, rfl, bi⟩
  ·rw [decide_eq_false c, Bool.false_and, if_neg Bool.false_ne_true]
   simp -implicitDefEqProofs only [(evA), List.length_map, decide_eq_false (show ¬ (os.length : Int) < 1 by bv_omega), decide_eq_false (show ¬ (6 : Int) < (os.length : Int) by bv_omega), cc, al, xZ, decide_eq_false (show ¬ ((ts.length : Nat) : Int) = (os.length : Int) by bv_omega)]
theorem qO {cls sup : List Str} {c : Str} {b : Bool} (h1 : cls.contains c = true) (h2 : sup.contains c = b) : isiX cls sup (excD c) = some (.bool b) := by
 rw [yP9, if_pos h1, h2]
abbrev meS : Ev -> Res Out := (sQ (sS 3 (eC (.str "odd"))) (sQ (sS 5 (e1 (isiX CLS ["BadBox", "BadOrder", "NoNumber", "NoPerson", "TooMany"]) (eV 4))) (sIf (tAn (tV (e1 (isiX CLS CLS) (eV 4))) (tAn (tNt (tV (eV 5))) (b2 neD (e1 (isiX CLS ["BadOpenings"]) (eV 4)) (e1 (isiX CLS ["BadPlan"]) (eV 4))))) (sS 3 (e2 ixD (eB mkL (aC (eC (.str "plan")) (aC (eC (.str "openings")) aN))) (eB intD (aC (e1 (isiX CLS ["BadOpenings"]) (eV 4)) aN)))) sN)))
abbrev meB : Ev -> Res Out := (sIf (b2 eqD (eV 0) (eC (.int 0))) (sE (eF uU (aC (eV 1) (aC (eV 2) aN)))) (sE (eF xP (aC (eV 1) aN))))
theorem yN6 : noEx (meS [none, none, none, none, some (excD "BadOpenings"), none]) = .ok (.nx [none, none, none, some (.str "openings"), some (excD "BadOpenings"), some (.bool false)]) := by
 have i1 : isiX CLS ["BadBox", "BadOrder", "NoNumber", "NoPerson", "TooMany"] (excD "BadOpenings") = some (.bool false) := qO (by decide +kernel) (by decide +kernel)
 have i2 : isiX CLS CLS (excD "BadOpenings") = some (.bool true) := qO (by decide +kernel) (by decide +kernel)
 have i3 : isiX CLS ["BadOpenings"] (excD "BadOpenings") = some (.bool true) := qO (by decide +kernel) (by decide +kernel)
 have i4 : isiX CLS ["BadPlan"] (excD "BadOpenings") = some (.bool false) := qO (by decide +kernel) (by decide +kernel)
 have i5 : intD [.bool true] = some (.int 1) := rfl
 have a1 : atI [PyData.str "plan", .str "openings"] 1 = some (.str "openings") := rfl
 have n1 : neD (.bool true) (.bool false) = some true := rfl
 unfold meS
 simp -implicitDefEqProofs only [(evA), i1, i2, i3, i4, i5, a1, n1]
 rfl
theorem yI6 : noEx (meS [none, none, none, none, some (excD "BadPlan"), none]) = .ok (.nx [none, none, none, some (.str "plan"), some (excD "BadPlan"), some (.bool false)]) := by
 have i1 : isiX CLS ["BadBox", "BadOrder", "NoNumber", "NoPerson", "TooMany"] (excD "BadPlan") = some (.bool false) := qO (by decide +kernel) (by decide +kernel)
 have i2 : isiX CLS CLS (excD "BadPlan") = some (.bool true) := qO (by decide +kernel) (by decide +kernel)
 have i3 : isiX CLS ["BadOpenings"] (excD "BadPlan") = some (.bool false) := qO (by decide +kernel) (by decide +kernel)
 have i4 : isiX CLS ["BadPlan"] (excD "BadPlan") = some (.bool true) := qO (by decide +kernel) (by decide +kernel)
 have i5 : intD [.bool false] = some (.int 0) := rfl
 have a1 : atI [PyData.str "plan", .str "openings"] 0 = some (.str "plan") := rfl
 have n1 : neD (.bool false) (.bool true) = some true := rfl
 unfold meS
 simp -implicitDefEqProofs only [(evA), i1, i2, i3, i4, i5, a1, n1]
 rfl
theorem zB8 : gJ = (sQ (sS 3 (eC (.str "none"))) (sQ (sTry 4 CLS meB meS) (sR (eV 3)))) := rfl
theorem zY4 {os : List Int} {ts : List D} {d : D} (hd : d = .list ts \/ d = .tuple ts) (hg : gO os = true -> ∀ t ∈ ts, GT 11 t) : wR [.int 0, tI os, d] = .ok (.str (if gO os = true then (if gP os ts = true then "none" else "plan") else "openings")) := by
 show (gJ [some (.int 0), some (tI os), some d, none, none, none]).bind (fin false) = _
 rw [zB8]
 have e := zG3 hd hg
 have c1 : CLS.contains "BadOpenings" = true := by decide +kernel
 have c2 : CLS.contains "BadPlan" = true := by decide +kernel
 cases g : gO os with
 | false =>
  rw [g, if_neg Bool.false_ne_true] at e
  rw [if_neg Bool.false_ne_true]
  have m : meB [some (.int 0), some (tI os), some d, some (.str "none"), none, none] = .ex "BadOpenings" := by
   unfold meB
   simp -implicitDefEqProofs only [(evA), yP, decide_true, e]
  have t := dD (j := 4) (ms := meS) m c1
  rw [show ((List.replicate ([some (.int 0), some (tI os), some d, some (.str "none"), none, none] : Ev).length none).set 4 (some (excD "BadOpenings")) : Ev) = [none, none, none, none, some (excD "BadOpenings"), none] from rfl, yN6, Res.bind_ok, aK] at t
  simp -implicitDefEqProofs only [(evA), t]
 | true =>
  rw [g, if_pos rfl] at e
  rw [if_pos rfl]
  cases p : gP os ts with
  | false =>
   rw [p, if_neg Bool.false_ne_true] at e
   rw [if_neg Bool.false_ne_true]
   have m : meB [some (.int 0), some (tI os), some d, some (.str "none"), none, none] = .ex "BadPlan" := by
    unfold meB
    simp -implicitDefEqProofs only [(evA), yP, decide_true, e]
   have t := dD (j := 4) (ms := meS) m c2
   rw [show ((List.replicate ([some (.int 0), some (tI os), some d, some (.str "none"), none, none] : Ev).length none).set 4 (some (excD "BadPlan")) : Ev) = [none, none, none, none, some (excD "BadPlan"), none] from rfl, yI6, Res.bind_ok, aK] at t
   simp -implicitDefEqProofs only [(evA), t]
  | true =>
   rw [p, if_pos rfl] at e
   rw [if_pos rfl]
   have m : meB [some (.int 0), some (tI os), some d, some (.str "none"), none, none] = .ok (.nx [some (.int 0), some (tI os), some d, some (.str "none"), none, none]) := by
    unfold meB
    simp -implicitDefEqProofs only [(evA), yP, decide_true, e]
   have t := zV9 (j := 4) (cs := CLS) (ms := meS) m
   simp -implicitDefEqProofs only [(evA), t]
theorem zY8 (os : List Int) (d : D) : wR [.int 1, tI os, d] = .ok (.str (if gO os = true then "none" else "openings")) := by
 show (gJ [some (.int 1), some (tI os), some d, none, none, none]).bind (fin false) = _
 rw [zB8]
 obtain ⟨x, e⟩ := bL os
 have c1 : CLS.contains "BadOpenings" = true := by decide +kernel
 have o1 : decide ((1 : Int) = 0) = false := rfl
 cases g : gO os with
 | false =>
  rw [g, if_neg Bool.false_ne_true] at e
  rw [if_neg Bool.false_ne_true]
  have m : meB [some (.int 1), some (tI os), some d, some (.str "none"), none, none] = .ex "BadOpenings" := by
   unfold meB
   simp -implicitDefEqProofs only [(evA), yP, o1, e]
  have t := dD (j := 4) (ms := meS) m c1
  rw [show ((List.replicate ([some (.int 1), some (tI os), some d, some (.str "none"), none, none] : Ev).length none).set 4 (some (excD "BadOpenings")) : Ev) = [none, none, none, none, some (excD "BadOpenings"), none] from rfl, yN6, Res.bind_ok, aK] at t
  simp -implicitDefEqProofs only [(evA), t]
 | true =>
  rw [g, if_pos rfl] at e
  rw [if_pos rfl]
  have m : meB [some (.int 1), some (tI os), some d, some (.str "none"), none, none] = .ok (.nx [some (.int 1), some (tI os), some d, some (.str "none"), none, none]) := by
   unfold meB
   simp -implicitDefEqProofs only [(evA), yP, o1, e]
  have t := zV9 (j := 4) (cs := CLS) (ms := meS) m
  simp -implicitDefEqProofs only [(evA), t]
inductive GN (n : Nat) : Nat -> D -> Prop
 | none {m : Nat} : GN n m .none
 | node {m : Nat} (b : Int) (ks : List D) : ks.length = n -> (∀ d ∈ ks, GN n m d) -> GN n (m + 1) (.tuple [.int b, .tuple ks])
theorem yM5 {n l : Nat} {bs ns : List Int} {d : D} (T : TreeOk n l bs ns d) : GN n l d := by
 induction T with
 | none => exact .none
 | @node l bs ns b f _ _ _ _ ih =>
  refine .node _ _ (by rw [List.length_map, List.length_range]) fun d hd => ?_
  obtain ⟨i, hi, rfl⟩ := List.mem_map.mp hd
  exact ih i (List.mem_range.mp hi)
theorem GN.gt {n m : Nat} {d : D} (hn : n <= 6) (h : GN n m d) : GT m d := by
 induction h with
 | none => exact .none
 | @node m b ks l h ih => exact .node b ks (by bv_omega) ih
theorem GN.more {n m : Nat} {d : D} (h : GN n m d) : ∀ m', m <= m' -> GN n m' d := by
 induction h with
 | none => exact fun _ _ => .none
 | @node m b ks l h ih =>
  intro m' hm
  obtain ⟨j, rfl⟩ : ∃ j, m' = j + 1 := ⟨m' - 1, by bv_omega⟩
  exact .node b ks l fun d hd => ih d hd j (by bv_omega)
theorem zL5 {ks : List D} {n : Nat} (hl : ks.length = n) (h1 : 1 <= n) (x : Int) : ∃ i d, i < n /\ x % (n : Int) = (i : Int) /\ ks[i]? = some d /\ atI ks (x % (n : Int)) = some d := by
 have h0 := Int.emod_nonneg x (show (n : Int) ≠ 0 by bv_omega)
 have h2 := Int.emod_lt_of_pos x (show (0 : Int) < (n : Int) by bv_omega)
 obtain ⟨i, hi⟩ : ∃ i : Nat, x % (n : Int) = (i : Int) := ⟨(x % (n : Int)).toNat, by bv_omega⟩
 have g : ks[i]? = some (ks[i]'(by bv_omega)) := List.getElem?_eq_getElem (by bv_omega)
 exact ⟨i, _, by bv_omega, hi, g, by rw [hi]; exact gK g⟩
theorem zE5 {n m : Nat} (h1 : 1 <= n) (hn : n <= 6) {t : D} (T : GN n m t) (way : List Int) (hw : way.length <= 100) : ∃ d, GN n m d /\ xC [t, lI way] = .ok d := by
 have key : ∃ ρ', forM (gN 2) (sIf (b2 (isND true) (eV 0) (eC .none)) (sS 0 (e2 ixD (e2 ixD (eV 0) (eC (.int 1))) (e2 modI (eV 2) (eB lenD (aC (e2 ixD (eV 0) (eC (.int 1))) aN))))) sN) (way.map PyData.int) [some t, some (lI way), none] = .ok (.nx ρ') /\ ∃ d x, GN n m d /\ ρ' = [some d, some (lI way), x] := by
  refine zS4 (fun i ρ => ∃ d x, GN n m d /\ ρ = [some d, some (lI way), x]) _ _ ⟨t, none, T, rfl⟩ ?_
  rintro i y ρ hy ⟨d, x, G, rfl⟩
  rw [List.getElem?_map] at hy
  obtain ⟨c, hc, rfl⟩ := Option.map_eq_some_iff.mp hy
  refine ⟨[some d, some (lI way), some (.int c)], ?_⟩
  cases G with
  | none =>
   have i0 : isND true .none .none = some false := rfl
   exact ⟨_, rfl, by simp -implicitDefEqProofs only [(evA), i0], .none, some (.int c), .none, rfl⟩
  | @node m b ks hl hk =>
   have i0 : isND true (.tuple [.int b, .tuple ks]) .none = some true := rfl
   have a1 : atI [PyData.int b, .tuple ks] 1 = some (.tuple ks) := rfl
   obtain ⟨j, d, hj, ej, gj, aj⟩ := zL5 hl h1 c
   exact ⟨_, rfl, by simp -implicitDefEqProofs only [(evA), i0, a1, hl, modO, if_pos (show (0 : Int) < (n : Int) by bv_omega), aj], d, some (.int c), (hk d (List.mem_of_getElem? gj)).more _ (Nat.le_succ _), rfl⟩
 obtain ⟨ρ', e, d, x, G, rfl⟩ := key
 refine ⟨d, G, ?_⟩
 show (fR [some t, some (lI way), none]).bind (fin false) = _
 unfold fR
 simp -implicitDefEqProofs only [(evA), e]
theorem zV8 {n : Nat} (h1 : 1 <= n) (hn : n <= 6) {M : Nat} {x : D} (X : GT M x) : ∀ (way : List Int) (k m : Nat) (t : D), GN n m t -> m <= M -> way.length < k -> way.length <= 100 -> ∃ d, GT (M + way.length) d /\ uW k [t, lI way, x] = .ok d
 | way, 0, m, t, _, _, h, _ => by bv_omega
 | [], k + 1, m, t, T, hm, _, _ => by
  refine ⟨x, X.more _ (by bv_omega), ?_⟩
  show (qD (uW k) [some t, some (lI []), some x, none, none]).bind (fin false) = _
  unfold qD
  have e0 : eqD (lI []) (.list []) = some true := zK1 [] []
  simp -implicitDefEqProofs only [(evA), e0]
 | c :: way, k + 1, m, t, T, hm, hk, hw => by
  show ∃ d, GT (M + (way.length + 1)) d /\ (qD (uW k) [some t, some (lI (c :: way)), some x, none, none]).bind (fin false) = _
  unfold qD
  have e0 : eqD (lI (c :: way)) (.list []) = some false := zK1 (c :: way) []
  cases T with
  | none =>
   refine ⟨x, X.more _ (by bv_omega), ?_⟩
   have i0 : isND false .none .none = some true := rfl
   simp -implicitDefEqProofs only [(evA), e0, i0]
  | @node m b ks hl hks =>
   have i0 : isND false (.tuple [.int b, .tuple ks]) .none = some false := rfl
   have a0 : atI [PyData.int b, .tuple ks] 0 = some (.int b) := rfl
   have a1 : atI [PyData.int b, .tuple ks] 1 = some (.tuple ks) := rfl
   have ac : atI (.int c :: way.map PyData.int) 0 = some (.int c) := zH8 _ _
   obtain ⟨j, kj, hj, ej, gj, aj⟩ := zL5 hl h1 c
   have gk := hks kj (List.mem_of_getElem? gj)
   obtain ⟨d, G, e⟩ := zV8 h1 hn X way k m kj gk (by bv_omega) (by simpa using hk) (by simp at hw; bv_omega)
   have cut : cutD (.int c :: way.map PyData.int) (some 1) none = way.map PyData.int := by
    have := zZ7 PyData.int (c :: way) (some 1) none
    rw [List.map_cons] at this
    rw [this]
    rw [show (some 1 : Option Int) = some ((1 : Nat) : Int) from rfl, zC1]
    rfl
   have sd : setD ks (.int (c % (n : Int))) d = some (ks.set j d) := by
    unfold setD
    simp only
    rw [ej, uX (by bv_omega), Option.map_some]
   refine ⟨.tuple [.int b, .tuple (ks.set j d)], .node b _ (by rw [List.length_set]; bv_omega) fun u hu => ?_, ?_⟩
   ·rcases List.mem_or_eq_of_mem_set hu with z | z
    ·exact ((hks u z).gt hn).more (M + way.length) (by have : m + 1 <= M := hm; bv_omega)
    ·subst z; exact G
   ·have lc : lI (c :: way) = .list (.int c :: way.map PyData.int) := rfl
    rw [lc] at e0 ⊢
    have e' : uW k [kj, .list (way.map PyData.int), x] = .ok d := e
    simp -implicitDefEqProofs only [(evA), e0, i0, a0, a1, ac, hl, modO, if_pos (show (0 : Int) < (n : Int) by bv_omega), aj, cut, e', sd]
theorem yW3 (n : Nat) (c : Int) : (sWay n c).length <= 3 := by
 unfold sWay digD
 rw [List.length_map, List.length_range]
 unfold sMm
 have := Int.emod_lt_of_pos (c / 10 / (n : Int)) (show (0 : Int) < 4 by decide)
 bv_omega
theorem zT2 {n : Nat} (hn : n <= 6) (c : Int) (m : Nat) : GT (m + 1) (sLeaf n c) := by
 unfold sLeaf
 refine .node _ _ (by rw [List.length_replicate]; bv_omega) fun d hd => ?_
 rw [List.eq_of_mem_replicate hd]
 exact .none
theorem yP2 {n : Nat} (hn : n <= 6) {part : D} (P : GN n 5 part) (c : Int) : ∃ x, sOth n c part = some x /\ GT 5 x := by
 cases P with
 | none =>
  by_cases c5 : c % 10 = 5
  ·exact ⟨.none, by unfold sOth; rw [if_pos c5], .none⟩
  ·exact ⟨_, by unfold sOth; rw [if_neg c5], zT2 hn c 4⟩
 | @node m b ks hl hk =>
  have hk' : ∀ d ∈ ks, GT 4 d := fun d hd => (hk d hd).gt hn
  show ∃ x, (if ks.length = n then (if c % 10 = 5 then some .none else if c % 10 = 6 then some (.tuple [.int (sBox n c), .tuple ks]) else if c % 10 = 7 then some (.tuple [.int b, .tuple (if sP5 n c % 2 = 0 then ks.drop 1 else ks ++ [.none])]) else some (sLeaf n c)) else none) = some x /\ GT 5 x
  rw [if_pos hl]
  by_cases c5 : c % 10 = 5
  ·exact ⟨.none, if_pos c5, .none⟩
  ·rw [if_neg c5]
   by_cases c6 : c % 10 = 6
   ·exact ⟨_, if_pos c6, .node _ ks (by bv_omega) hk'⟩
   ·rw [if_neg c6]
    by_cases c7 : c % 10 = 7
    ·refine ⟨_, if_pos c7, .node _ _ ?_ fun d hd => ?_⟩
     ·split
      ·rw [List.length_drop]; bv_omega
      ·rw [List.length_append]; simp; bv_omega
     ·split at hd
      ·exact hk' d (List.mem_of_mem_drop hd)
      ·rcases List.mem_append.mp hd with z | z
       ·exact hk' d z
       ·rw [List.mem_singleton.mp z]; exact .none
    ·exact ⟨_, if_neg c7, zT2 hn c 4⟩
theorem yX7 {n : Nat} (h1 : 1 <= n) (hn : n <= 6) {ops : List Int} (ho : ops.length = n) {ts : List D} (hl : ts.length = n) (T : ∀ t ∈ ts, GN n 5 t) (c : Int) : ∃ os' ts', (∀ t ∈ ts', GT 8 t) /\ ts'.length <= 7 /\ spoH xC wV [tI ops, .tuple ts, .int c] = .ok (.tuple [tI os', .list ts']) := by
 subst ho
 have ha := aJ h1 c
 have hm : ts.getD (sAt ops.length c) .none ∈ ts := uS (by bv_omega)
 have wl := yW3 ops.length c
 obtain ⟨part, P, ep⟩ := zE5 h1 hn (T _ hm) (sWay ops.length c) (by bv_omega)
 obtain ⟨x, ex, X⟩ := yP2 hn P c
 obtain ⟨d, G, eu⟩ := zV8 h1 hn X (sWay ops.length c) 12 5 _ (T _ hm) (Nat.le_refl _) (by bv_omega) (by bv_omega)
 have gt : ∀ t ∈ ts, GT 8 t := fun t ht => ((T t ht).gt hn).more 8 (by decide)
 have fin : ∀ os' ts', (∀ t ∈ ts', GT 8 t) -> ts'.length <= 7 -> spoG xC wV ops ts c = .ok (.tuple [tI os', .list ts']) -> ∃ os' ts', (∀ t ∈ ts', GT 8 t) /\ ts'.length <= 7 /\ spoH xC wV [tI ops, .tuple ts, .int c] = .ok (.tuple [tI os', .list ts']) := fun os' ts' a b e => ⟨os', ts', a, b, yX1 h1 hn hl e⟩
 by_cases c0 : c % 10 = 0
 ·refine fin ops (ts.eraseIdx (sAt ops.length c)) (fun t ht => gt t (List.mem_of_mem_eraseIdx ht)) (by have := List.length_eraseIdx_le ts (sAt ops.length c); bv_omega) ?_
  unfold spoG
  rw [ep]
  exact if_pos c0
 by_cases c1 : c % 10 = 1
 ·refine fin ops (ts.take (sAt ops.length c) ++ .none :: ts.drop (sAt ops.length c)) (fun t ht => ?_) (by simp; bv_omega) ?_
  ·rcases List.mem_append.mp ht with z | z
   ·exact gt t (List.mem_of_mem_take z)
   ·rcases List.mem_cons.mp z with z | z
    ·rw [z]; exact .none
    ·exact gt t (List.mem_of_mem_drop z)
  ·unfold spoG
   rw [ep]
   show (if _ then _ else _) = _
   rw [if_neg c0, if_pos c1]
 by_cases c5 : c % 10 < 5
 ·refine fin (sOps ops.length c ops) ts gt (by bv_omega) ?_
  unfold spoG
  rw [ep]
  show (if _ then _ else _) = _
  rw [if_neg c0, if_neg c1, if_pos c5]
 ·refine fin ops (ts.set (sAt ops.length c) d) (fun t ht => ?_) (by rw [List.length_set]; bv_omega) ?_
  ·rcases List.mem_or_eq_of_mem_set ht with z | z
   ·exact gt t z
   ·rw [z]; exact G.more 8 (by bv_omega)
  ·have eu' : wV [ts.getD (sAt ops.length c) .none, lI (sWay ops.length c), x] = .ok d := eu
   unfold spoG
   rw [ep]
   show (if _ then _ else _) = _
   rw [if_neg c0, if_neg c1, if_neg c5, ex]
   show (match wV [ts.getD (sAt ops.length c) .none, lI (sWay ops.length c), x] with | .ok d => _ | _ => _) = _
   rw [eu']
theorem zH1 {m : Nat} {d : D} (h : GT m d) : d.canLay0 = true /\ d.depth <= 2 * m := by
 induction h with
 | none => exact ⟨rfl, Nat.zero_le _⟩
 | @node m b ks hl hk ih =>
  have al : PyData.canLayAll0 ks = true /\ PyData.depthAll ks <= 2 * m := by
   clear hl
   induction ks with
   | nil => exact ⟨rfl, Nat.zero_le _⟩
   | cons k ks ih2 =>
    obtain ⟨a, b⟩ := ih k (List.mem_cons_self ..)
    obtain ⟨c, d⟩ := ih2 (fun d hd => hk d (List.mem_cons_of_mem _ hd)) fun d hd => ih d (List.mem_cons_of_mem _ hd)
    rw [PyData.canLayAll0, PyData.depthAll, a, c]
    exact ⟨rfl, Nat.max_le.mpr ⟨b, d⟩⟩
  refine ⟨?_, ?_⟩
  ·rw [PyData.canLay0, PyData.canLayAll0, PyData.canLay0, PyData.canLayAll0, PyData.canLay0, al.1]
   rfl
  ·rw [PyData.depth, PyData.depthAll, PyData.depthAll, PyData.depth, PyData.depth, PyData.depthAll]
   have : max 0 (max (PyData.depthAll ks + 1) 0) <= 2 * m + 1 := Nat.max_le.mpr ⟨Nat.zero_le _, Nat.max_le.mpr ⟨by bv_omega, Nat.zero_le _⟩⟩
   bv_omega
theorem yX5 {ts : List D} (h : ∀ t ∈ ts, GT 8 t) : neD (.list ts) (.list ts) = some false := by
 have al : PyData.canLayAll0 ts = true /\ PyData.depthAll ts <= 16 := by
  induction ts with
  | nil => exact ⟨rfl, Nat.zero_le _⟩
  | cons k ks ih2 =>
   obtain ⟨a, b⟩ := zH1 (h k (List.mem_cons_self ..))
   obtain ⟨c, d⟩ := ih2 fun d hd => h d (List.mem_cons_of_mem _ hd)
   rw [PyData.canLayAll0, PyData.depthAll, a, c]
   exact ⟨rfl, Nat.max_le.mpr ⟨b, d⟩⟩
 have sl : SeqAt.shaped (.list ts) = true := by
  unfold SeqAt.shaped
  rw [PyData.canLay0, PyData.depth, al.1, decide_eq_true (by bv_omega)]
  rfl
 unfold neD
 rw [if_pos ⟨sl, sl⟩, SeqAt.eqv_refl _ (SeqAt.canLay_of_shaped sl)]
 rfl
theorem yR2 {n l : Nat} {bs ns : List Int} {d : D} (T : TreeOk n l bs ns d) : ∀ k, isT n k l bs ns d = true := by
 induction T with
 | none => intro k; exact jD ..
 | @node l bs ns b f hb nb hn hT ih =>
  intro k
  cases k with
  | zero => rfl
  | succ k =>
   rw [fQ, decide_eq_true (show l + 1 ≠ 0 by bv_omega), decide_eq_true (show (0 : Int) <= (b : Int) /\ (b : Int) < (n : Int) by bv_omega), nb, decide_eq_true (show ((List.range n).map f).length = n by rw [List.length_map, List.length_range]), Bool.true_and, Bool.true_and, Bool.not_false, Bool.true_and, Bool.true_and, List.all_eq_true]
   intro i hi
   have hi := List.mem_range.mp hi
   have g : ((List.range n).map f).getD i .none = f i := by rw [List.getD, List.getElem?_map, List.getElem?_range hi]; rfl
   rw [g, Nat.add_sub_cancel]
   split
   ·rename_i c
    rw [hn i hi c]
    rfl
   ·exact ih i hi k
theorem yK5 {n : Nat} {ops : List Int} {t : Nat -> D} (P : PlanOk n ops t) (q : Opn n ops) : gP ops ((List.range n).map t) = true := by
 unfold gP
 rw [q.len, decide_eq_true (by rw [List.length_map, List.length_range]), Bool.true_and, List.all_eq_true]
 intro p hp
 have hp := List.mem_range.mp hp
 have g : ((List.range n).map t).getD p .none = t p := by rw [List.getD, List.getElem?_map, List.getElem?_range hp]; rfl
 rw [g]
 exact yR2 (P.tree p hp) 12
theorem uI {z : Str} (h : PyData.strOk z = true) : SeqAt.shaped (.str z) = true := by
 unfold SeqAt.shaped
 rw [PyData.canLay0, PyData.depth, h]
 rfl
theorem cX {a b : Str} (ha : PyData.strOk a = true) (hb : PyData.strOk b = true) : neD (.str a) (.str b) = some (!decide (a = b)) := by
 unfold neD
 rw [if_pos ⟨uI ha, uI hb⟩, PyData.eqv]
 by_cases e : a = b <;> simp [e]
theorem zT8 {a b : Str} (ha : PyData.strOk a = true) (hb : PyData.strOk b = true) : eqD (.str a) (.str b) = some (decide (a = b)) := by
 unfold eqD
 rw [if_pos ⟨uI ha, uI hb⟩, PyData.eqv]
 by_cases e : a = b <;> simp [e]
abbrev lwB : Ev -> Res Out := (sQ (sA (eF (spoH xC wV) (aC (eV 2) (aC (eV 3) (aC (eV 4) aN)))) (gT 2 (gsC (gN 5) (gsC (gN 6) gsN)))) (sQ (sS 7 (eB listD (aC (eV 6) aN))) (sQ (sIf (tO (b2 neD (eF wR (aC (eC (.int 0)) (aC (eV 5) (aC (eV 7) aN)))) (eF uE (aC (eV 5) (aC (eV 6) aN)))) (b2 neD (eV 7) (eV 6))) (sR (eC (.bool false))) sN) (sIf (b2 neD (eF wR (aC (eC (.int 1)) (aC (eV 5) (aC (eB mkL aN) aN)))) (e2 ixD (eB mkL (aC (eC (.str "none")) (aC (eC (.str "openings")) aN))) (eB intD (aC (e2 (fun x y => bD (eqD x y)) (eF uE (aC (eV 5) (aC (eV 6) aN))) (eC (.str "openings"))) aN)))) (sR (eC (.bool false))) sN))))
theorem yJ5 (os : List Int) (ts : List D) : ∃ w : Str, (if gO os = true then (if gP os ts = true then "none" else "plan") else "openings" : Str) = w /\ PyData.strOk w = true /\ ((gO os = true /\ decide (w = "openings") = false) \/ (gO os = false /\ w = "openings")) := by
 cases g : gO os with
 | false => exact ⟨"openings", if_neg Bool.false_ne_true, by decide +kernel, .inr ⟨rfl, rfl⟩⟩
 | true =>
  rw [if_pos rfl]
  cases gP os ts with
  | true => exact ⟨"none", if_pos rfl, by decide +kernel, .inl ⟨rfl, by decide +kernel⟩⟩
  | false => exact ⟨"plan", if_neg Bool.false_ne_true, by decide +kernel, .inl ⟨rfl, by decide +kernel⟩⟩
theorem yX8 (ns : List Int) {n : Nat} {ops : List Int} (q : Opn n ops) (h1 : 1 <= n) (h2 : n <= 6) {ts : List D} (hl : ts.length = n) (T : ∀ t ∈ ts, GN n 5 t) (c : Int) (x5 x6 x7 : Option D) : ∃ a b d, lwB [some (lI ns), some (.int (n : Int)), some (tI ops), some (.tuple ts), some (.int c), x5, x6, x7] = .ok (.nx [some (lI ns), some (.int (n : Int)), some (tI ops), some (.tuple ts), some (.int c), a, b, d]) := by
 obtain ⟨os', ts', G, l7, es⟩ := yX7 h1 h2 q.len hl T c
 refine ⟨some (tI os'), some (.list ts'), some (.list ts'), ?_⟩
 have G' : gO os' = true -> ∀ t ∈ ts', GT 11 t := fun _ t ht => (G t ht).more 11 (by decide)
 have e0 := zY4 (d := .list ts') (.inl rfl) G'
 have e1 := zY8 os' (.list [])
 have ed := yY7 G'
 have gt : gT 2 (gsC (gN 5) (gsC (gN 6) gsN)) (.tuple [tI os', .list ts']) [some (lI ns), some (.int (n : Int)), some (tI ops), some (.tuple ts), some (.int c), x5, x6, x7] = some [some (lI ns), some (.int (n : Int)), some (tI ops), some (.tuple ts), some (.int c), some (tI os'), some (.list ts'), x7] := rfl
 obtain ⟨w, ew, wo, cs⟩ := yJ5 os' ts'
 have on : PyData.strOk "none" = true := by decide +kernel
 have oo : PyData.strOk "openings" = true := by decide +kernel
 rw [ew] at e0 ed
 have sm := yX5 G
 unfold lwB
 rcases cs with ⟨g, hw⟩ | ⟨g, rfl⟩
 ·rw [g, if_pos rfl] at e1
  have i0 : intD [.bool false] = some (.int 0) := rfl
  have a0 : atI [PyData.str "none", .str "openings"] 0 = some (.str "none") := rfl
  simp -implicitDefEqProofs only [(evA), es, gt, e0, ed, e1, cX wo wo, cX on on, decide_true, sm, zT8 wo oo, hw, i0, a0]
 ·rw [g, if_neg Bool.false_ne_true] at e1
  have i0 : intD [.bool true] = some (.int 1) := rfl
  have a0 : atI [PyData.str "none", .str "openings"] 1 = some (.str "openings") := rfl
  simp -implicitDefEqProofs only [(evA), es, gt, e0, ed, e1, cX oo oo, decide_true, sm, zT8 oo oo, i0, a0]
theorem law_true (ns : List Int) (h : ns.length <= 63) : zQ7 [.list (ns.map PyData.int)] = .ok (.bool true) := by
 show (zP3 [some (lI ns), none, none, none, none, none, none, none]).bind (fin false) = _
 obtain ⟨n, ops, h1, h2, q, eg⟩ := zX5 ns
 obtain ⟨t, P, ep⟩ := zI7 ns q h1 (show n <= 6 by bv_omega)
 have gp := yK5 P q
 have go := zC9 q h1 (show n <= 6 by bv_omega)
 have hl : ((List.range n).map t).length = n := by rw [List.length_map, List.length_range]
 have T : ∀ d ∈ (List.range n).map t, GN n 5 d := fun d hd => by
  obtain ⟨p, hp, rfl⟩ := List.mem_map.mp hd
  have := q.at (List.mem_range.mp hp)
  exact (yM5 (P.tree p (List.mem_range.mp hp))).more 5 (by bv_omega)
 generalize (List.range n).map t = ts at ep gp hl T
 have m0 := zY4 (os := ops) (ts := ts) (d := .tuple ts) (.inr rfl) fun _ t ht => ((T t ht).gt (by bv_omega)).more 11 (by decide)
 have m1 := zY8 ops (.tuple ts)
 rw [go, if_pos rfl, gp, if_pos rfl] at m0
 rw [go, if_pos rfl] at m1
 have gt : gT 2 (gsC (gN 1) (gsC (gN 2) gsN)) (.tuple [.int (n : Int), tI ops]) [some (lI ns), none, none, none, none, none, none, none] = some [some (lI ns), some (.int (n : Int)), some (tI ops), none, none, none, none, none] := rfl
 have cl : (cutD ns (some 1) (some 41)).length <= ns.length := by
  unfold cutD
  rw [List.length_take, List.length_drop]
  bv_omega
 have ct : catL (.list [.int (ns.length : Int)]) (.list ((cutD ns (some 1) (some 41)).map PyData.int)) = some (lI ((ns.length : Int) :: cutD ns (some 1) (some 41))) := uD (xs := [(ns.length : Int)]) (ys := cutD ns (some 1) (some 41)) (by show 1 + _ <= 1000; bv_omega)
 unfold zP3
 simp -implicitDefEqProofs only [(evA), eg, gt, ep, List.length_map, zZ7, ct]
 refine jO (fun i ρ => ∃ x4 x5 x6 x7, ρ = [some (lI ns), some (.int (n : Int)), some (tI ops), some (.tuple ts), x4, x5, x6, x7]) ⟨none, none, none, none, rfl⟩ ?_ ?_
 ·rintro i d ρ hd ⟨x4, x5, x6, x7, rfl⟩
  rw [List.getElem?_map] at hd
  obtain ⟨c, hc, rfl⟩ := Option.map_eq_some_iff.mp hd
  obtain ⟨a, b, e, et⟩ := yX8 ns q h1 (show n <= 6 by bv_omega) hl T c x5 x6 x7
  exact ⟨_, _, rfl, et, _, _, _, _, rfl⟩
 ·rintro ρ ⟨x4, x5, x6, x7, rfl⟩
  have cc : eComp (iR rng1 (aC (eC (.int 2)) aN)) tYes (eF wR (aC (eV 0) (aC (eV 1) (aC (eV 2) aN)))) [2, 3] [some (lI ns), some (.int (n : Int)), some (tI ops), some (.tuple ts), x4, x5, x6, x7] = .ok (.list ([0, 1].map fun _ : Int => PyData.str "none")) := by
   refine hJ PyData.int (fun _ => PyData.str "none") [0, 1] rfl (by decide) fun x hx => ?_
   show eF wR _ [some (.int x), some (tI ops), some (.tuple ts)] = _
   rcases List.mem_cons.mp hx with rfl | hx
   ·simp -implicitDefEqProofs only [(evA), m0]
   ·obtain rfl := List.mem_singleton.mp hx
    simp -implicitDefEqProofs only [(evA), m1]
  have e2 : eqD (.list ([0, 1].map fun _ : Int => PyData.str "none")) (.list [.str "none", .str "none"]) = some true := by decide +kernel
  simp -implicitDefEqProofs only [(evA), cc, e2]
end K23
set_option hygiene false in
local macro_rules | `(tactic| sleep 11) => `(tactic| (dsimp only [L2.KOf]; refine' ⟨_, _, L2.qR KX G ?a ?l ?c ?k ?b⟩; (case a => k_is); (case l => k_is); (case c => k_is); (case k => k_is); (case b => intro _ _ _ _ _ _; refine L2.L3.ls1 ?_; exact fun _ => rfl)))
set_option hygiene false in
local macro_rules | `(tactic| sleep 12) => `(tactic| (dsimp only [L2.KOf]; refine' ⟨_, _, L2.qR KX G ?a ?l ?c ?k ?b⟩; (case a => k_is); (case l => k_is); (case c => k_is); (case k => k_is); (case b => intro _ _ _ _ _ _; refine L2.L3.ls2 ?_; exact fun _ _ => rfl)))
set_option hygiene false in
local macro_rules | `(tactic| sleep 13) => `(tactic| (dsimp only [L2.KOf]; refine' ⟨_, _, L2.qR KX G ?a ?l ?c ?k ?b⟩; (case a => k_is); (case l => k_is); (case c => k_is); (case k => k_is); (case b => intro _ _ _ _ _ _; refine L2.L3.ls3 ?_; exact fun _ _ _ => rfl)))
set_option hygiene false in
local macro_rules | `(tactic| sleep 14) => `(tactic| (dsimp only [L2.KOf]; refine' ⟨_, _, L2.qR KX G ?a ?l ?c ?k ?b⟩; (case a => k_is); (case l => k_is); (case c => k_is); (case k => k_is); (case b => intro _ _ _ _ _ _; refine L2.L3.ls4 ?_; exact fun _ _ _ _ => rfl)))
set_option hygiene false in
local macro_rules | `(tactic| sleep 15) => `(tactic| (dsimp only [L2.KOf]; refine' ⟨_, _, L2.qR KX G ?a ?l ?c ?k ?b⟩; (case a => k_is); (case l => k_is); (case c => k_is); (case k => k_is); (case b => intro _ _ _ _ _ _; refine L2.L3.ls5 ?_; exact fun _ _ _ _ _ => rfl)))
set_option hygiene false in
local macro_rules | `(tactic| sleep 16) => `(tactic| (dsimp only [L2.KOf]; refine' ⟨_, _, L2.qR KX G ?a ?l ?c ?k ?b⟩; (case a => k_is); (case l => k_is); (case c => k_is); (case k => k_is); (case b => intro _ _ _ _ _ _; refine L2.L3.ls6 ?_; exact fun _ _ _ _ _ _ => rfl)))
open PySem PySem.W PyProof.Rows
theorem K23.big_mk {K : KFr} {a_BadBox a_BadOpenings a_BadOrder a_BadPlan a_BoxError a_NoNumber a_NoPerson a_TooMany : PySem.Addr} (n_BadBox : PySem.W.nsIn K PySem.mainGlobals "BadBox" = some (some (.ref a_BadBox))) (n_BadOpenings : PySem.W.nsIn K PySem.mainGlobals "BadOpenings" = some (some (.ref a_BadOpenings))) (n_BadOrder : PySem.W.nsIn K PySem.mainGlobals "BadOrder" = some (some (.ref a_BadOrder))) (n_BadPlan : PySem.W.nsIn K PySem.mainGlobals "BadPlan" = some (some (.ref a_BadPlan))) (n_BoxError : PySem.W.nsIn K PySem.mainGlobals "BoxError" = some (some (.ref a_BoxError))) (n_NoNumber : PySem.W.nsIn K PySem.mainGlobals "NoNumber" = some (some (.ref a_NoNumber))) (n_NoPerson : PySem.W.nsIn K PySem.mainGlobals "NoPerson" = some (some (.ref a_NoPerson))) (n_TooMany : PySem.W.nsIn K PySem.mainGlobals "TooMany" = some (some (.ref a_TooMany))) (o_BadOpenings : PySem.W.excIn K a_BadOpenings L2.L3.bmV "ValueError.__new__" = true) (g1_BadOpenings : PySem.W.findIn K (.ref a_BadOpenings) "__getattribute__" = some (some (.builtin "BaseException.__getattribute__"))) (g2_BadOpenings : PySem.W.findIn K (.ref a_BadOpenings) "__getattr__" = some none) (g3_BadOpenings : PySem.W.findIn K (.ref a_BadOpenings) "__class__" = some (some (.builtin "object.__class__"))) (g4_BadOpenings : PySem.W.kitOne K (.ref a_BadOpenings) (.type "BaseException") = some true) (g5_BadOpenings : PySem.W.kitOne K (.ref a_BadOpenings) (.type "object") = some true) (g6_BadOpenings : (PySem.W.clsIn K a_BadOpenings).isSome = true) (o_BadPlan : PySem.W.excIn K a_BadPlan L2.L3.bmV "ValueError.__new__" = true) (g1_BadPlan : PySem.W.findIn K (.ref a_BadPlan) "__getattribute__" = some (some (.builtin "BaseException.__getattribute__"))) (g2_BadPlan : PySem.W.findIn K (.ref a_BadPlan) "__getattr__" = some none) (g3_BadPlan : PySem.W.findIn K (.ref a_BadPlan) "__class__" = some (some (.builtin "object.__class__"))) (g4_BadPlan : PySem.W.kitOne K (.ref a_BadPlan) (.type "BaseException") = some true) (g5_BadPlan : PySem.W.kitOne K (.ref a_BadPlan) (.type "object") = some true) (g6_BadPlan : (PySem.W.clsIn K a_BadPlan).isSome = true) (z_BadBox : PySem.W.kitOne K (.type "NoneType") (.ref a_BadBox) = some false) (t_BadOpenings_BadBox : PySem.W.kitOne K (.ref a_BadOpenings) (.ref a_BadBox) = some false) (t_BadPlan_BadBox : PySem.W.kitOne K (.ref a_BadPlan) (.ref a_BadBox) = some false) (z_BadOpenings : PySem.W.kitOne K (.type "NoneType") (.ref a_BadOpenings) = some false) (t_BadOpenings_BadOpenings : PySem.W.kitOne K (.ref a_BadOpenings) (.ref a_BadOpenings) = some true) (t_BadPlan_BadOpenings : PySem.W.kitOne K (.ref a_BadPlan) (.ref a_BadOpenings) = some false) (z_BadOrder : PySem.W.kitOne K (.type "NoneType") (.ref a_BadOrder) = some false) (t_BadOpenings_BadOrder : PySem.W.kitOne K (.ref a_BadOpenings) (.ref a_BadOrder) = some false) (t_BadPlan_BadOrder : PySem.W.kitOne K (.ref a_BadPlan) (.ref a_BadOrder) = some false) (z_BadPlan : PySem.W.kitOne K (.type "NoneType") (.ref a_BadPlan) = some false) (t_BadOpenings_BadPlan : PySem.W.kitOne K (.ref a_BadOpenings) (.ref a_BadPlan) = some false) (t_BadPlan_BadPlan : PySem.W.kitOne K (.ref a_BadPlan) (.ref a_BadPlan) = some true) (z_NoNumber : PySem.W.kitOne K (.type "NoneType") (.ref a_NoNumber) = some false) (t_BadOpenings_NoNumber : PySem.W.kitOne K (.ref a_BadOpenings) (.ref a_NoNumber) = some false) (t_BadPlan_NoNumber : PySem.W.kitOne K (.ref a_BadPlan) (.ref a_NoNumber) = some false) (z_NoPerson : PySem.W.kitOne K (.type "NoneType") (.ref a_NoPerson) = some false) (t_BadOpenings_NoPerson : PySem.W.kitOne K (.ref a_BadOpenings) (.ref a_NoPerson) = some false) (t_BadPlan_NoPerson : PySem.W.kitOne K (.ref a_BadPlan) (.ref a_NoPerson) = some false) (z_TooMany : PySem.W.kitOne K (.type "NoneType") (.ref a_TooMany) = some false) (t_BadOpenings_TooMany : PySem.W.kitOne K (.ref a_BadOpenings) (.ref a_TooMany) = some false) (t_BadPlan_TooMany : PySem.W.kitOne K (.ref a_BadPlan) (.ref a_TooMany) = some false) (z_ValueError : PySem.W.kitOne K (.type "NoneType") (.type "ValueError") = some false) (t_BadOpenings_ValueError : PySem.W.kitOne K (.ref a_BadOpenings) (.type "ValueError") = some true) (t_BadPlan_ValueError : PySem.W.kitOne K (.ref a_BadPlan) (.type "ValueError") = some true) (b_BoxError : PySem.W.kitOne K (.ref a_BoxError) (.type "BaseException") = some true) (c_BadOpenings_BoxError : PySem.W.kitOne K (.ref a_BadOpenings) (.ref a_BoxError) = some true) (d_BadOpenings_BoxError : (PySem.Value.ref a_BadOpenings == PySem.Value.ref a_BoxError) = false) (c_BadPlan_BoxError : PySem.W.kitOne K (.ref a_BadPlan) (.ref a_BoxError) = some true) (d_BadPlan_BoxError : (PySem.Value.ref a_BadPlan == PySem.Value.ref a_BoxError) = false) : ∃ a_BadBox a_BadOpenings a_BadOrder a_BadPlan a_BoxError a_NoNumber a_NoPerson a_TooMany : PySem.Addr, (PySem.W.nsIn K PySem.mainGlobals "BadBox" = some (some (.ref a_BadBox))) /\ (PySem.W.nsIn K PySem.mainGlobals "BadOpenings" = some (some (.ref a_BadOpenings))) /\ (PySem.W.nsIn K PySem.mainGlobals "BadOrder" = some (some (.ref a_BadOrder))) /\ (PySem.W.nsIn K PySem.mainGlobals "BadPlan" = some (some (.ref a_BadPlan))) /\ (PySem.W.nsIn K PySem.mainGlobals "BoxError" = some (some (.ref a_BoxError))) /\ (PySem.W.nsIn K PySem.mainGlobals "NoNumber" = some (some (.ref a_NoNumber))) /\ (PySem.W.nsIn K PySem.mainGlobals "NoPerson" = some (some (.ref a_NoPerson))) /\ (PySem.W.nsIn K PySem.mainGlobals "TooMany" = some (some (.ref a_TooMany))) /\ (PySem.W.excIn K a_BadOpenings L2.L3.bmV "ValueError.__new__" = true) /\ (PySem.W.findIn K (.ref a_BadOpenings) "__getattribute__" = some (some (.builtin "BaseException.__getattribute__"))) /\ (PySem.W.findIn K (.ref a_BadOpenings) "__getattr__" = some none) /\ (PySem.W.findIn K (.ref a_BadOpenings) "__class__" = some (some (.builtin "object.__class__"))) /\ (PySem.W.kitOne K (.ref a_BadOpenings) (.type "BaseException") = some true) /\ (PySem.W.kitOne K (.ref a_BadOpenings) (.type "object") = some true) /\ ((PySem.W.clsIn K a_BadOpenings).isSome = true) /\ (PySem.W.excIn K a_BadPlan L2.L3.bmV "ValueError.__new__" = true) /\ (PySem.W.findIn K (.ref a_BadPlan) "__getattribute__" = some (some (.builtin "BaseException.__getattribute__"))) /\ (PySem.W.findIn K (.ref a_BadPlan) "__getattr__" = some none) /\ (PySem.W.findIn K (.ref a_BadPlan) "__class__" = some (some (.builtin "object.__class__"))) /\ (PySem.W.kitOne K (.ref a_BadPlan) (.type "BaseException") = some true) /\ (PySem.W.kitOne K (.ref a_BadPlan) (.type "object") = some true) /\ ((PySem.W.clsIn K a_BadPlan).isSome = true) /\ (PySem.W.kitOne K (.type "NoneType") (.ref a_BadBox) = some false) /\ (PySem.W.kitOne K (.ref a_BadOpenings) (.ref a_BadBox) = some false) /\ (PySem.W.kitOne K (.ref a_BadPlan) (.ref a_BadBox) = some false) /\ (PySem.W.kitOne K (.type "NoneType") (.ref a_BadOpenings) = some false) /\ (PySem.W.kitOne K (.ref a_BadOpenings) (.ref a_BadOpenings) = some true) /\ (PySem.W.kitOne K (.ref a_BadPlan) (.ref a_BadOpenings) = some false) /\ (PySem.W.kitOne K (.type "NoneType") (.ref a_BadOrder) = some false) /\ (PySem.W.kitOne K (.ref a_BadOpenings) (.ref a_BadOrder) = some false) /\ (PySem.W.kitOne K (.ref a_BadPlan) (.ref a_BadOrder) = some false) /\ (PySem.W.kitOne K (.type "NoneType") (.ref a_BadPlan) = some false) /\ (PySem.W.kitOne K (.ref a_BadOpenings) (.ref a_BadPlan) = some false) /\ (PySem.W.kitOne K (.ref a_BadPlan) (.ref a_BadPlan) = some true) /\ (PySem.W.kitOne K (.type "NoneType") (.ref a_NoNumber) = some false) /\ (PySem.W.kitOne K (.ref a_BadOpenings) (.ref a_NoNumber) = some false) /\ (PySem.W.kitOne K (.ref a_BadPlan) (.ref a_NoNumber) = some false) /\ (PySem.W.kitOne K (.type "NoneType") (.ref a_NoPerson) = some false) /\ (PySem.W.kitOne K (.ref a_BadOpenings) (.ref a_NoPerson) = some false) /\ (PySem.W.kitOne K (.ref a_BadPlan) (.ref a_NoPerson) = some false) /\ (PySem.W.kitOne K (.type "NoneType") (.ref a_TooMany) = some false) /\ (PySem.W.kitOne K (.ref a_BadOpenings) (.ref a_TooMany) = some false) /\ (PySem.W.kitOne K (.ref a_BadPlan) (.ref a_TooMany) = some false) /\ (PySem.W.kitOne K (.type "NoneType") (.type "ValueError") = some false) /\ (PySem.W.kitOne K (.ref a_BadOpenings) (.type "ValueError") = some true) /\ (PySem.W.kitOne K (.ref a_BadPlan) (.type "ValueError") = some true) /\ (PySem.W.kitOne K (.ref a_BoxError) (.type "BaseException") = some true) /\ (PySem.W.kitOne K (.ref a_BadOpenings) (.ref a_BoxError) = some true) /\ ((PySem.Value.ref a_BadOpenings == PySem.Value.ref a_BoxError) = false) /\ (PySem.W.kitOne K (.ref a_BadPlan) (.ref a_BoxError) = some true) /\ ((PySem.Value.ref a_BadPlan == PySem.Value.ref a_BoxError) = false) := ⟨a_BadBox, a_BadOpenings, a_BadOrder, a_BadPlan, a_BoxError, a_NoNumber, a_NoPerson, a_TooMany, n_BadBox, n_BadOpenings, n_BadOrder, n_BadPlan, n_BoxError, n_NoNumber, n_NoPerson, n_TooMany, o_BadOpenings, g1_BadOpenings, g2_BadOpenings, g3_BadOpenings, g4_BadOpenings, g5_BadOpenings, g6_BadOpenings, o_BadPlan, g1_BadPlan, g2_BadPlan, g3_BadPlan, g4_BadPlan, g5_BadPlan, g6_BadPlan, z_BadBox, t_BadOpenings_BadBox, t_BadPlan_BadBox, z_BadOpenings, t_BadOpenings_BadOpenings, t_BadPlan_BadOpenings, z_BadOrder, t_BadOpenings_BadOrder, t_BadPlan_BadOrder, z_BadPlan, t_BadOpenings_BadPlan, t_BadPlan_BadPlan, z_NoNumber, t_BadOpenings_NoNumber, t_BadPlan_NoNumber, z_NoPerson, t_BadOpenings_NoPerson, t_BadPlan_NoPerson, z_TooMany, t_BadOpenings_TooMany, t_BadPlan_TooMany, z_ValueError, t_BadOpenings_ValueError, t_BadPlan_ValueError, b_BoxError, c_BadOpenings_BoxError, d_BadOpenings_BoxError, c_BadPlan_BoxError, d_BadPlan_BoxError⟩
set_option maxRecDepth 100000 in
set_option maxHeartbeats 0 in
theorem PySem.Challenge.cw_ownboxes_k23_plans_refused_holds : PySem.Challenge.rw_ownboxes_k23_plans_refused.Holds := by
 w_on; o_law; k_head; (case hw => w_witness2)
 k_fill
 refine L2.L3.zL3 (F := K23.zQ7) (k := 16) (l := PySem.Challenge.rw_ownboxes_k23_plans_refused) K23.law_true ⟨rfl, by decide, by decide⟩ rfl rfl (fun w h Y => PySem.W.kIn_of Y) (fun w => by rfl) ?F
 case F =>
  intro w mg fa h KX G hmg
  letI cn : L2.L3.CN := L2.L3.cnOf (L2.KOf KX)
  have D_made_openings : ∃ f fd, L2.Has (L2.KOf KX) mg "made_openings" K23.wP f fd ["people", "numbers"] := by sleep 12
  have D_openings_of_a_plan : ∃ f fd, L2.Has (L2.KOf KX) mg "openings_of_a_plan" K23.xW f fd ["openings"] := by sleep 11
  have D_made_tree : ∃ f fd, L2.Has (L2.KOf KX) mg "made_tree" K23.vV f fd ["tree", "people", "left", "boxes", "names"] := by sleep 15
  have D_made_plan : ∃ f fd, L2.Has (L2.KOf KX) mg "made_plan" K23.vY f fd ["openings", "trees"] := by sleep 12
  have D_following_tree : ∃ f fd, L2.Has (L2.KOf KX) mg "following_tree" K23.xR f fd ["box", "people", "left", "names"] := by sleep 14
  have D_following_plan : ∃ f fd, L2.Has (L2.KOf KX) mg "following_plan" K23.xS f fd ["openings"] := by sleep 11
  have D_l_cell_at : ∃ f fd, L2.Has (L2.KOf KX) mg "_law_cell_at" K23.uT f fd ["script", "k"] := by sleep 12
  have D_l_sums : ∃ f fd, L2.Has (L2.KOf KX) mg "_law_sums" K23.qW f fd ["script", "start", "many"] := by sleep 13
  have D_l_take : ∃ f fd, L2.Has (L2.KOf KX) mg "_law_take" K23.jB f fd ["pot", "many"] := by sleep 12
  have D_l_openings : ∃ f fd, L2.Has (L2.KOf KX) mg "_law_openings" K23.wL f fd ["pot", "people"] := by sleep 12
  have D_l_tree : ∃ f fd, L2.Has (L2.KOf KX) mg "_law_tree" K23.uY f fd ["pot", "people", "left", "boxes", "names", "thin"] := by sleep 16
  have D_l_plan : ∃ f fd, L2.Has (L2.KOf KX) mg "_law_plan" K23.qS f fd ["script", "people", "openings"] := by sleep 13
  have D_l_ground : ∃ f fd, L2.Has (L2.KOf KX) mg "_law_ground" K23.wI f fd ["script"] := by sleep 11
  have D_l_is_tree : ∃ f fd, L2.Has (L2.KOf KX) mg "_law_is_tree" K23.vZ f fd ["tree", "people", "left", "boxes", "names"] := by sleep 15
  have D_l_due : ∃ f fd, L2.Has (L2.KOf KX) mg "_law_due" K23.jV f fd ["openings", "trees"] := by sleep 12
  have D_l_put : ∃ f fd, L2.Has (L2.KOf KX) mg "_law_put" K23.jQ f fd ["tree", "way", "other"] := by sleep 13
  have D_l_part : ∃ f fd, L2.Has (L2.KOf KX) mg "_law_part" K23.jI f fd ["tree", "way"] := by sleep 12
  have D_l_spoilt : ∃ f fd, L2.Has (L2.KOf KX) mg "_law_spoilt" K23.wH f fd ["openings", "plan", "pot"] := by sleep 13
  have D_l_met : ∃ f fd, L2.Has (L2.KOf KX) mg "_law_met" K23.gM f fd ["way", "openings", "trees"] := by sleep 13
  have D_law : ∃ f fd, L2.Has (L2.KOf KX) mg "law" K23.dU f fd ["script"] /\ (∀ (s : Shared) (u : Value), BindsTo s fd ⟨[u], []⟩ [("script", u)]) := by
   dsimp only [L2.KOf]
   refine' ⟨_, _, L2.qR KX G ?a ?l ?c ?k ?b, ?d⟩
   (case a => k_is); (case l => k_is); (case c => k_is); (case k => k_is)
   (case b => intro _ _ _ _ _ _; refine L2.L3.ls1 ?_; exact fun _ => rfl)
   (case d => exact fun s u => .of_eq rfl)
  have BIG : ∃ a_BadBox a_BadOpenings a_BadOrder a_BadPlan a_BoxError a_NoNumber a_NoPerson a_TooMany : PySem.Addr, (PySem.W.nsIn (L2.KOf KX) PySem.mainGlobals "BadBox" = some (some (.ref a_BadBox))) /\ (PySem.W.nsIn (L2.KOf KX) PySem.mainGlobals "BadOpenings" = some (some (.ref a_BadOpenings))) /\ (PySem.W.nsIn (L2.KOf KX) PySem.mainGlobals "BadOrder" = some (some (.ref a_BadOrder))) /\ (PySem.W.nsIn (L2.KOf KX) PySem.mainGlobals "BadPlan" = some (some (.ref a_BadPlan))) /\ (PySem.W.nsIn (L2.KOf KX) PySem.mainGlobals "BoxError" = some (some (.ref a_BoxError))) /\ (PySem.W.nsIn (L2.KOf KX) PySem.mainGlobals "NoNumber" = some (some (.ref a_NoNumber))) /\ (PySem.W.nsIn (L2.KOf KX) PySem.mainGlobals "NoPerson" = some (some (.ref a_NoPerson))) /\ (PySem.W.nsIn (L2.KOf KX) PySem.mainGlobals "TooMany" = some (some (.ref a_TooMany))) /\ (PySem.W.excIn (L2.KOf KX) a_BadOpenings L2.L3.bmV "ValueError.__new__" = true) /\ (PySem.W.findIn (L2.KOf KX) (.ref a_BadOpenings) "__getattribute__" = some (some (.builtin "BaseException.__getattribute__"))) /\ (PySem.W.findIn (L2.KOf KX) (.ref a_BadOpenings) "__getattr__" = some none) /\ (PySem.W.findIn (L2.KOf KX) (.ref a_BadOpenings) "__class__" = some (some (.builtin "object.__class__"))) /\ (PySem.W.kitOne (L2.KOf KX) (.ref a_BadOpenings) (.type "BaseException") = some true) /\ (PySem.W.kitOne (L2.KOf KX) (.ref a_BadOpenings) (.type "object") = some true) /\ ((PySem.W.clsIn (L2.KOf KX) a_BadOpenings).isSome = true) /\ (PySem.W.excIn (L2.KOf KX) a_BadPlan L2.L3.bmV "ValueError.__new__" = true) /\ (PySem.W.findIn (L2.KOf KX) (.ref a_BadPlan) "__getattribute__" = some (some (.builtin "BaseException.__getattribute__"))) /\ (PySem.W.findIn (L2.KOf KX) (.ref a_BadPlan) "__getattr__" = some none) /\ (PySem.W.findIn (L2.KOf KX) (.ref a_BadPlan) "__class__" = some (some (.builtin "object.__class__"))) /\ (PySem.W.kitOne (L2.KOf KX) (.ref a_BadPlan) (.type "BaseException") = some true) /\ (PySem.W.kitOne (L2.KOf KX) (.ref a_BadPlan) (.type "object") = some true) /\ ((PySem.W.clsIn (L2.KOf KX) a_BadPlan).isSome = true) /\ (PySem.W.kitOne (L2.KOf KX) (.type "NoneType") (.ref a_BadBox) = some false) /\ (PySem.W.kitOne (L2.KOf KX) (.ref a_BadOpenings) (.ref a_BadBox) = some false) /\ (PySem.W.kitOne (L2.KOf KX) (.ref a_BadPlan) (.ref a_BadBox) = some false) /\ (PySem.W.kitOne (L2.KOf KX) (.type "NoneType") (.ref a_BadOpenings) = some false) /\ (PySem.W.kitOne (L2.KOf KX) (.ref a_BadOpenings) (.ref a_BadOpenings) = some true) /\ (PySem.W.kitOne (L2.KOf KX) (.ref a_BadPlan) (.ref a_BadOpenings) = some false) /\ (PySem.W.kitOne (L2.KOf KX) (.type "NoneType") (.ref a_BadOrder) = some false) /\ (PySem.W.kitOne (L2.KOf KX) (.ref a_BadOpenings) (.ref a_BadOrder) = some false) /\ (PySem.W.kitOne (L2.KOf KX) (.ref a_BadPlan) (.ref a_BadOrder) = some false) /\ (PySem.W.kitOne (L2.KOf KX) (.type "NoneType") (.ref a_BadPlan) = some false) /\ (PySem.W.kitOne (L2.KOf KX) (.ref a_BadOpenings) (.ref a_BadPlan) = some false) /\ (PySem.W.kitOne (L2.KOf KX) (.ref a_BadPlan) (.ref a_BadPlan) = some true) /\ (PySem.W.kitOne (L2.KOf KX) (.type "NoneType") (.ref a_NoNumber) = some false) /\ (PySem.W.kitOne (L2.KOf KX) (.ref a_BadOpenings) (.ref a_NoNumber) = some false) /\ (PySem.W.kitOne (L2.KOf KX) (.ref a_BadPlan) (.ref a_NoNumber) = some false) /\ (PySem.W.kitOne (L2.KOf KX) (.type "NoneType") (.ref a_NoPerson) = some false) /\ (PySem.W.kitOne (L2.KOf KX) (.ref a_BadOpenings) (.ref a_NoPerson) = some false) /\ (PySem.W.kitOne (L2.KOf KX) (.ref a_BadPlan) (.ref a_NoPerson) = some false) /\ (PySem.W.kitOne (L2.KOf KX) (.type "NoneType") (.ref a_TooMany) = some false) /\ (PySem.W.kitOne (L2.KOf KX) (.ref a_BadOpenings) (.ref a_TooMany) = some false) /\ (PySem.W.kitOne (L2.KOf KX) (.ref a_BadPlan) (.ref a_TooMany) = some false) /\ (PySem.W.kitOne (L2.KOf KX) (.type "NoneType") (.type "ValueError") = some false) /\ (PySem.W.kitOne (L2.KOf KX) (.ref a_BadOpenings) (.type "ValueError") = some true) /\ (PySem.W.kitOne (L2.KOf KX) (.ref a_BadPlan) (.type "ValueError") = some true) /\ (PySem.W.kitOne (L2.KOf KX) (.ref a_BoxError) (.type "BaseException") = some true) /\ (PySem.W.kitOne (L2.KOf KX) (.ref a_BadOpenings) (.ref a_BoxError) = some true) /\ ((PySem.Value.ref a_BadOpenings == PySem.Value.ref a_BoxError) = false) /\ (PySem.W.kitOne (L2.KOf KX) (.ref a_BadPlan) (.ref a_BoxError) = some true) /\ ((PySem.Value.ref a_BadPlan == PySem.Value.ref a_BoxError) = false) := by
   dsimp only [L2.KOf]
   refine' K23.big_mk ?q_n_BadBox ?q_n_BadOpenings ?q_n_BadOrder ?q_n_BadPlan ?q_n_BoxError ?q_n_NoNumber ?q_n_NoPerson ?q_n_TooMany ?q_o_BadOpenings ?q_g1_BadOpenings ?q_g2_BadOpenings ?q_g3_BadOpenings ?q_g4_BadOpenings ?q_g5_BadOpenings ?q_g6_BadOpenings ?q_o_BadPlan ?q_g1_BadPlan ?q_g2_BadPlan ?q_g3_BadPlan ?q_g4_BadPlan ?q_g5_BadPlan ?q_g6_BadPlan ?q_z_BadBox ?q_t_BadOpenings_BadBox ?q_t_BadPlan_BadBox ?q_z_BadOpenings ?q_t_BadOpenings_BadOpenings ?q_t_BadPlan_BadOpenings ?q_z_BadOrder ?q_t_BadOpenings_BadOrder ?q_t_BadPlan_BadOrder ?q_z_BadPlan ?q_t_BadOpenings_BadPlan ?q_t_BadPlan_BadPlan ?q_z_NoNumber ?q_t_BadOpenings_NoNumber ?q_t_BadPlan_NoNumber ?q_z_NoPerson ?q_t_BadOpenings_NoPerson ?q_t_BadPlan_NoPerson ?q_z_TooMany ?q_t_BadOpenings_TooMany ?q_t_BadPlan_TooMany ?q_z_ValueError ?q_t_BadOpenings_ValueError ?q_t_BadPlan_ValueError ?q_b_BoxError ?q_c_BadOpenings_BoxError ?q_d_BadOpenings_BoxError ?q_c_BadPlan_BoxError ?q_d_BadPlan_BoxError
   (case q_n_BadBox => k_is)
   (case q_n_BadOpenings => k_is)
   (case q_n_BadOrder => k_is)
   (case q_n_BadPlan => k_is)
   (case q_n_BoxError => k_is)
   (case q_n_NoNumber => k_is)
   (case q_n_NoPerson => k_is)
   (case q_n_TooMany => k_is)
   (case q_o_BadOpenings => k_exc)
   (case q_g1_BadOpenings => k_is)
   (case q_g2_BadOpenings => k_is)
   (case q_g3_BadOpenings => k_is)
   (case q_g4_BadOpenings => kit_is)
   (case q_g5_BadOpenings => kit_is)
   (case q_g6_BadOpenings => first | k_is | rfl | decide +kernel)
   (case q_o_BadPlan => k_exc)
   (case q_g1_BadPlan => k_is)
   (case q_g2_BadPlan => k_is)
   (case q_g3_BadPlan => k_is)
   (case q_g4_BadPlan => kit_is)
   (case q_g5_BadPlan => kit_is)
   (case q_g6_BadPlan => first | k_is | rfl | decide +kernel)
   (case q_z_BadBox => kit_is)
   (case q_t_BadOpenings_BadBox => kit_is)
   (case q_t_BadPlan_BadBox => kit_is)
   (case q_z_BadOpenings => kit_is)
   (case q_t_BadOpenings_BadOpenings => kit_is)
   (case q_t_BadPlan_BadOpenings => kit_is)
   (case q_z_BadOrder => kit_is)
   (case q_t_BadOpenings_BadOrder => kit_is)
   (case q_t_BadPlan_BadOrder => kit_is)
   (case q_z_BadPlan => kit_is)
   (case q_t_BadOpenings_BadPlan => kit_is)
   (case q_t_BadPlan_BadPlan => kit_is)
   (case q_z_NoNumber => kit_is)
   (case q_t_BadOpenings_NoNumber => kit_is)
   (case q_t_BadPlan_NoNumber => kit_is)
   (case q_z_NoPerson => kit_is)
   (case q_t_BadOpenings_NoPerson => kit_is)
   (case q_t_BadPlan_NoPerson => kit_is)
   (case q_z_TooMany => kit_is)
   (case q_t_BadOpenings_TooMany => kit_is)
   (case q_t_BadPlan_TooMany => kit_is)
   (case q_z_ValueError => kit_is)
   (case q_t_BadOpenings_ValueError => kit_is)
   (case q_t_BadPlan_ValueError => kit_is)
   (case q_b_BoxError => kit_is)
   (case q_c_BadOpenings_BoxError => kit_is)
   (case q_d_BadOpenings_BoxError => decide)
   (case q_c_BadPlan_BoxError => kit_is)
   (case q_d_BadPlan_BoxError => decide)
  obtain ⟨a_BadBox, a_BadOpenings, a_BadOrder, a_BadPlan, a_BoxError, a_NoNumber, a_NoPerson, a_TooMany, n_BadBox, n_BadOpenings, n_BadOrder, n_BadPlan, n_BoxError, n_NoNumber, n_NoPerson, n_TooMany, o_BadOpenings, g1_BadOpenings, g2_BadOpenings, g3_BadOpenings, g4_BadOpenings, g5_BadOpenings, g6_BadOpenings, o_BadPlan, g1_BadPlan, g2_BadPlan, g3_BadPlan, g4_BadPlan, g5_BadPlan, g6_BadPlan, z_BadBox, t_BadOpenings_BadBox, t_BadPlan_BadBox, z_BadOpenings, t_BadOpenings_BadOpenings, t_BadPlan_BadOpenings, z_BadOrder, t_BadOpenings_BadOrder, t_BadPlan_BadOrder, z_BadPlan, t_BadOpenings_BadPlan, t_BadPlan_BadPlan, z_NoNumber, t_BadOpenings_NoNumber, t_BadPlan_NoNumber, z_NoPerson, t_BadOpenings_NoPerson, t_BadPlan_NoPerson, z_TooMany, t_BadOpenings_TooMany, t_BadPlan_TooMany, z_ValueError, t_BadOpenings_ValueError, t_BadPlan_ValueError, b_BoxError, c_BadOpenings_BoxError, d_BadOpenings_BoxError, c_BadPlan_BoxError, d_BadPlan_BoxError⟩ := BIG
  have e_BadBox : L2.L3.CN.ad "BadBox" = a_BadBox := L2.L3.qN n_BadBox
  have e_BadOpenings : L2.L3.CN.ad "BadOpenings" = a_BadOpenings := L2.L3.qN n_BadOpenings
  have e_BadOrder : L2.L3.CN.ad "BadOrder" = a_BadOrder := L2.L3.qN n_BadOrder
  have e_BadPlan : L2.L3.CN.ad "BadPlan" = a_BadPlan := L2.L3.qN n_BadPlan
  have e_BoxError : L2.L3.CN.ad "BoxError" = a_BoxError := L2.L3.qN n_BoxError
  have e_NoNumber : L2.L3.CN.ad "NoNumber" = a_NoNumber := L2.L3.qN n_NoNumber
  have e_NoPerson : L2.L3.CN.ad "NoPerson" = a_NoPerson := L2.L3.qN n_NoPerson
  have e_TooMany : L2.L3.CN.ad "TooMany" = a_TooMany := L2.L3.qN n_TooMany
  have k_BadOpenings : PySem.ExK (L2.KOf KX) (L2.L3.CN.ad "BadOpenings") := by rw [e_BadOpenings]; exact ⟨g1_BadOpenings, g2_BadOpenings, g3_BadOpenings, L2.L3.jX g4_BadOpenings, L2.L3.jX g5_BadOpenings, g6_BadOpenings⟩
  have k_BadPlan : PySem.ExK (L2.KOf KX) (L2.L3.CN.ad "BadPlan") := by rw [e_BadPlan]; exact ⟨g1_BadPlan, g2_BadPlan, g3_BadPlan, L2.L3.jX g4_BadPlan, L2.L3.jX g5_BadPlan, g6_BadPlan⟩
  have T : K23.Txt (L2.KOf KX) mg := by
   dsimp only [L2.KOf]
   refine' ⟨PySem.W.mg_none_of KX G ?z0, PySem.W.mg_none_of KX G ?z1, PySem.W.mg_none_of KX G ?z2, PySem.W.mg_none_of KX G ?z3, PySem.W.mg_none_of KX G ?z4, PySem.W.mg_none_of KX G ?z5, PySem.W.mg_none_of KX G ?z6, PySem.W.mg_none_of KX G ?z7, PySem.W.mg_none_of KX G ?z8, PySem.W.mg_none_of KX G ?z9, PySem.W.mg_none_of KX G ?z10, PySem.W.mg_none_of KX G ?z11, ⟨_, PySem.W.mg_of KX G ?y0, ?x0⟩, ⟨_, PySem.W.mg_of KX G ?y1, ?x1⟩, D_made_openings, D_openings_of_a_plan, D_made_tree, D_made_plan, D_following_tree, D_following_plan, D_l_cell_at, D_l_sums, D_l_take, D_l_openings, D_l_tree, D_l_plan, D_l_ground, D_l_is_tree, D_l_due, D_l_put, D_l_part, D_l_spoilt, D_l_met, (let ⟨f, fd, h, _⟩ := D_law; ⟨f, fd, h⟩), ?xa0, ?xa1, ?xa2, ?xa3, ?xa4, ?xa5, ?xa6, ?xa7, ?xb0, ?xb1, ?xc0, ?xc1, ?xc2, ?xc3, ?xc4, ?xc5, ?xc6, ?xd0, ?xe0, ?xf0⟩
   (case z0 => k_is)
   (case z1 => k_is)
   (case z2 => k_is)
   (case z3 => k_is)
   (case z4 => k_is)
   (case z5 => k_is)
   (case z6 => k_is)
   (case z7 => k_is)
   (case z8 => k_is)
   (case z9 => k_is)
   (case z10 => k_is)
   (case z11 => k_is)
   (case y0 => k_is); (case x0 => exact ⟨_, rfl⟩)
   (case y1 => k_is); (case x1 => exact ⟨_, rfl⟩)
   (case xa0 => rw [e_BadBox]; exact PySem.W.mg_of KX G n_BadBox)
   (case xa1 => rw [e_BadOpenings]; exact PySem.W.mg_of KX G n_BadOpenings)
   (case xa2 => rw [e_BadOrder]; exact PySem.W.mg_of KX G n_BadOrder)
   (case xa3 => rw [e_BadPlan]; exact PySem.W.mg_of KX G n_BadPlan)
   (case xa4 => rw [e_BoxError]; exact PySem.W.mg_of KX G n_BoxError)
   (case xa5 => rw [e_NoNumber]; exact PySem.W.mg_of KX G n_NoNumber)
   (case xa6 => rw [e_NoPerson]; exact PySem.W.mg_of KX G n_NoPerson)
   (case xa7 => rw [e_TooMany]; exact PySem.W.mg_of KX G n_TooMany)
   (case xb0 => unfold L2.L3.OwnX; rw [e_BadOpenings]; exact o_BadOpenings)
   (case xb1 => unfold L2.L3.OwnX; rw [e_BadPlan]; exact o_BadPlan)
   (case xc0 => exact L2.L3.uP (by rw [e_BadBox]; exact z_BadBox) (List.forall_mem_cons.2 ⟨⟨k_BadOpenings, by rw [e_BadOpenings, e_BadBox]; exact t_BadOpenings_BadBox.trans (congrArg some (by decide))⟩, (List.forall_mem_cons.2 ⟨⟨k_BadPlan, by rw [e_BadPlan, e_BadBox]; exact t_BadPlan_BadBox.trans (congrArg some (by decide))⟩, (fun _ h => nomatch h)⟩)⟩))
   (case xc1 => exact L2.L3.uP (by rw [e_BadOpenings]; exact z_BadOpenings) (List.forall_mem_cons.2 ⟨⟨k_BadOpenings, by rw [e_BadOpenings]; exact t_BadOpenings_BadOpenings.trans (congrArg some (by decide))⟩, (List.forall_mem_cons.2 ⟨⟨k_BadPlan, by rw [e_BadPlan, e_BadOpenings]; exact t_BadPlan_BadOpenings.trans (congrArg some (by decide))⟩, (fun _ h => nomatch h)⟩)⟩))
   (case xc2 => exact L2.L3.uP (by rw [e_BadOrder]; exact z_BadOrder) (List.forall_mem_cons.2 ⟨⟨k_BadOpenings, by rw [e_BadOpenings, e_BadOrder]; exact t_BadOpenings_BadOrder.trans (congrArg some (by decide))⟩, (List.forall_mem_cons.2 ⟨⟨k_BadPlan, by rw [e_BadPlan, e_BadOrder]; exact t_BadPlan_BadOrder.trans (congrArg some (by decide))⟩, (fun _ h => nomatch h)⟩)⟩))
   (case xc3 => exact L2.L3.uP (by rw [e_BadPlan]; exact z_BadPlan) (List.forall_mem_cons.2 ⟨⟨k_BadOpenings, by rw [e_BadOpenings, e_BadPlan]; exact t_BadOpenings_BadPlan.trans (congrArg some (by decide))⟩, (List.forall_mem_cons.2 ⟨⟨k_BadPlan, by rw [e_BadPlan]; exact t_BadPlan_BadPlan.trans (congrArg some (by decide))⟩, (fun _ h => nomatch h)⟩)⟩))
   (case xc4 => exact L2.L3.uP (by rw [e_NoNumber]; exact z_NoNumber) (List.forall_mem_cons.2 ⟨⟨k_BadOpenings, by rw [e_BadOpenings, e_NoNumber]; exact t_BadOpenings_NoNumber.trans (congrArg some (by decide))⟩, (List.forall_mem_cons.2 ⟨⟨k_BadPlan, by rw [e_BadPlan, e_NoNumber]; exact t_BadPlan_NoNumber.trans (congrArg some (by decide))⟩, (fun _ h => nomatch h)⟩)⟩))
   (case xc5 => exact L2.L3.uP (by rw [e_NoPerson]; exact z_NoPerson) (List.forall_mem_cons.2 ⟨⟨k_BadOpenings, by rw [e_BadOpenings, e_NoPerson]; exact t_BadOpenings_NoPerson.trans (congrArg some (by decide))⟩, (List.forall_mem_cons.2 ⟨⟨k_BadPlan, by rw [e_BadPlan, e_NoPerson]; exact t_BadPlan_NoPerson.trans (congrArg some (by decide))⟩, (fun _ h => nomatch h)⟩)⟩))
   (case xc6 => exact L2.L3.uP (by rw [e_TooMany]; exact z_TooMany) (List.forall_mem_cons.2 ⟨⟨k_BadOpenings, by rw [e_BadOpenings, e_TooMany]; exact t_BadOpenings_TooMany.trans (congrArg some (by decide))⟩, (List.forall_mem_cons.2 ⟨⟨k_BadPlan, by rw [e_BadPlan, e_TooMany]; exact t_BadPlan_TooMany.trans (congrArg some (by decide))⟩, (fun _ h => nomatch h)⟩)⟩))
   (case xd0 => exact L2.L3.uP z_ValueError (List.forall_mem_cons.2 ⟨⟨k_BadOpenings, by rw [e_BadOpenings]; exact t_BadOpenings_ValueError.trans (congrArg some (by decide))⟩, (List.forall_mem_cons.2 ⟨⟨k_BadPlan, by rw [e_BadPlan]; exact t_BadPlan_ValueError.trans (congrArg some (by decide))⟩, (fun _ h => nomatch h)⟩)⟩))
   (case xe0 => exact L2.L3.yI4 (List.forall_mem_cons.2 ⟨by rw [e_BadOpenings, e_BoxError]; exact L2.L3.kB c_BadOpenings_BoxError d_BadOpenings_BoxError, (List.forall_mem_cons.2 ⟨by rw [e_BadPlan, e_BoxError]; exact L2.L3.kB c_BadPlan_BoxError d_BadPlan_BoxError, (fun _ h => nomatch h)⟩)⟩))
   (case xf0 => rw [e_BoxError]; exact L2.L3.jX b_BoxError)
  obtain ⟨fl, fdl, HL, HB⟩ := D_law
  have e0 := hmg.symm.trans HL.m
  cases e0
  exact ⟨fdl, HB, fun base kb nb => K23.yO9 T HL⟩
#print axioms PySem.Challenge.cw_ownboxes_k23_plans_refused_holds